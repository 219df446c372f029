/-
  The walk over record.Parse: for every line, the record and the code.
-/
import Derived.Test.YtbnehcnimbkakaaRecD
namespace Go.Proofs.Ytbnehcnimbkakaa
open Go.RowKit
set_option linter.unusedVariables false

/-- The code of a line. -/
def parCode (s : ByteArray) : Int :=
  if linOk s = false then 3 else if ¬ numI ((bytesL (linCut s)).take 1) = ((bytesL (linCut s)).length : Int) - 5 then 6 else if ¬ chkI (bytesL (linCut s)) = 0 then 5 else 0
def parT (s : ByteArray) : Int := if parCode s = 0 then recT (bytesL (linCut s)) else 0
def parA (s : ByteArray) : Int := if parCode s = 0 then recA (bytesL (linCut s)) else 0
def parD (s : ByteArray) : List UInt8 := if parCode s = 0 then recD (bytesL (linCut s)) ((bytesL (linCut s)).length - 5) else []
/-- The call returns a record and a code; nothing that was there is changed. -/
def RetRec (w : World) (T Ad : Int) (D : List UInt8) (c : Int) (e : Ending) (w' : World) : Prop :=
  ∃ A cap, e = .returned (.tuple #[.agg #[.int .i64 T, .int .i64 Ad, .slice A D.length cap], .int .i64 c]) ∧ D.length ≤ cap ∧ BytesP (· < w'.heap.size) w' A D ∧ Below w.heap.size w w'
theorem Tri.put3 {n : Nat} {w : World} {x y z : Value} (h : Tri n w x y z) (x' y' z' : Value) :
    ∃ wf, ((w.setCell ⟨n, 0, none⟩ x').setCell ⟨n, 1, none⟩ y').setCell ⟨n, 2, none⟩ z' = wf ∧ Tri n wf x' y' z' ∧ KeptP (· ≠ n) w wf :=
  ⟨_, rfl, ((h.set0 x').set1 y').set2 z', (((KeptP.refl _ _).setCell (by simp) _).setCell (by simp) _).setCell (by simp) _⟩
/-- From a world in which a block of the call's own has been written last. -/
theorem below_of_kept {w wr wf : World} {n : Nat} (h : Below w.heap.size w wr) (hn : w.heap.size ≤ n) (k : KeptP (· ≠ n) wr wf) : Below w.heap.size w wf :=
  h.trans (k.below (B := w.heap.size) (fun i hi => by omega) h.size)
theorem retRec_bad {w wr : World} {s : ByteArray} {c : Int} (hc : parCode s = c) (h0 : c ≠ 0) (h : Below w.heap.size w wr) :
    RetRec w (parT s) (parA s) (parD s) (parCode s) (.returned (.tuple #[.agg #[.int .i64 0, .int .i64 0, .slice none 0 0], .int .i64 c])) wr := by
  have h1 : ¬ parCode s = 0 := by rw [hc]; exact h0
  unfold parT parA parD
  rw [if_neg h1, if_neg h1, if_neg h1, hc]
  exact ⟨none, 0, rfl, Nat.le_refl _, .inl rfl, h⟩
theorem par3 {s : ByteArray} (h : linOk s = false) : parCode s = 3 := by unfold parCode; rw [if_pos h]
theorem par6 {s : ByteArray} (h : linOk s = true) (h1 : ¬ numI ((bytesL (linCut s)).take 1) = ((bytesL (linCut s)).length : Int) - 5) : parCode s = 6 := by
  unfold parCode; rw [if_neg (by simp [h]), if_pos h1]
theorem par5 {s : ByteArray} (h : linOk s = true) (h1 : numI ((bytesL (linCut s)).take 1) = ((bytesL (linCut s)).length : Int) - 5) (h2 : ¬ chkI (bytesL (linCut s)) = 0) : parCode s = 5 := by
  unfold parCode; rw [if_neg (by simp [h]), if_neg (fun g => g h1), if_pos h2]
theorem par0 {s : ByteArray} (h : linOk s = true) (h1 : numI ((bytesL (linCut s)).take 1) = ((bytesL (linCut s)).length : Int) - 5) (h2 : chkI (bytesL (linCut s)) = 0) : parCode s = 0 := by
  unfold parCode; rw [if_neg (by simp [h]), if_neg (fun g => g h1), if_neg (fun g => g h2)]
theorem linOk_len {s : ByteArray} (h : linOk s = true) : 5 ≤ (bytesL (linCut s)).length := by
  unfold linOk at h
  simp only [Bool.and_eq_true, decide_eq_true_eq] at h
  exact h.2.2
theorem bytesL_le (s : ByteArray) : (bytesL s).length ≤ s.size := by
  unfold bytesL
  split
  · simp only [List.length_map, List.length_range]; omega
  · simp

set_option maxHeartbeats 2000000 in
theorem parse_any (s : ByteArray) (hs : s.size ≤ 140737488355328) (w : World) :
    Calls Try.prog 12 #[.string s] w (RetRec w (parT s) (parA s) (parD s) (parCode s)) := by
  have hp := partsOf_any s hs (w.alloc (.cells #[.int .i64 0, .int .i64 0, .slice none 0 0] 28))
  have hal : Below w.heap.size w (w.alloc (.cells #[.int .i64 0, .int .i64 0, .slice none 0 0] 28)) := (Below.refl _ _).alloc (Nat.le_refl _) _
  have htr := Tri.new w _ rfl (.int .i64 0) (.int .i64 0) (.slice none 0 0) 28
  have hsz : w.heap.size < (w.alloc (.cells #[.int .i64 0, .int .i64 0, .slice none 0 0] 28)).heap.size := by simp
  have hlb := bytesL_le (linCut s)
  have hcs : (linCut s).size ≤ s.size := cutPre_le s ⟨#[58]⟩
  have HAL := Lib.hid hal
  have HTR := Lib.hid htr
  have HSZ := Lib.hid hsz
  have HLB := Lib.hid (Nat.le_trans hlb (Nat.le_trans hcs hs))
  clear hal htr hsz hlb hcs hs
  go_enter Try.func12, Try.ntmps12
  go_wp2_with fail
  refine hp.mono ?_
  rintro e w1 (⟨hno, rfl, hB⟩ | ⟨hok, A, cap, b, rfl, hcap, hP, hX, hb, hB⟩)
  · -- no record's form
    have N := Lib.hid (par3 hno)
    have B1 := Lib.hid (HAL.out.trans (hB.mono (Nat.le_of_lt HSZ.out)))
    have hT : Tri w.heap.size w1 _ _ _ := HTR.out.kept (P := fun _ => True) (KeptP.of_all hB) trivial
    have T1 := Lib.hid hT
    obtain ⟨-, e0, e1, e2, ef⟩ := hT
    have ef0 := ef 0
    have ef1 := ef 1
    have ef2 := ef 2
    clear hno hB hp ef
    go_wp2
    obtain ⟨wf, hwf, hTf, hKf⟩ := T1.out.put3 (.int .i64 0) (.int .i64 0) (.slice none 0 0)
    rw [hwf]
    obtain ⟨-, c0, c1, c2, -⟩ := hTf
    exact bodyPost_ret (v := .tuple #[.agg #[.int .i64 0, .int .i64 0, .slice none 0 0], .int .i64 3]) (by simp [results, Try.results12, go_sem, c0, c1, c2]) rfl (retRec_bad N.out (by decide) (below_of_kept B1.out (Nat.le_refl _) hKf))
  · have hl5 := linOk_len hok
    have OK := Lib.hid hok
    obtain ⟨bs, hbs⟩ : ∃ bs, bytesL (linCut s) = bs := ⟨_, rfl⟩
    have HBS := Lib.hid hbs
    have HLB2 : bs.length ≤ 140737488355328 := by rw [← hbs]; exact HLB.out
    rw [hbs] at hcap hP hX hl5 ⊢
    have B1 := Lib.hid (HAL.out.trans (hB.mono (Nat.le_of_lt HSZ.out)))
    have hT : Tri w.heap.size w1 _ _ _ := HTR.out.kept (P := fun _ => True) (KeptP.of_all hB) trivial
    have T1 := Lib.hid hT
    have P1 := Lib.hid hP
    have X1 := Lib.hid hX
    have HC := Lib.hid hcap
    have hnb : w.heap.size < b := Nat.lt_of_lt_of_le HSZ.out hb
    have NB := Lib.hid hnb
    obtain ⟨-, e0, e1, e2, ef⟩ := hT
    have ef0 := ef 0
    have ef1 := ef 1
    have ef2 := ef 2
    have ez := hP.2
    obtain ⟨q, hq⟩ : ∃ q, numI (bs.take 1) = q := ⟨_, rfl⟩
    have Q := Lib.hid hq
    rw [hq] at ez P1
    clear hok hbs hB hp ef hP hX hcap hb hq hnb
    by_cases h6 : q = (bs.length : Int) - 5
    · obtain ⟨m, hm⟩ : ∃ m, bs.length = m + 5 := ⟨bs.length - 5, by omega⟩
      have hqm : q = (m : Int) := by omega
      have M := Lib.hid hm
      rw [hqm] at ez P1
      have h6' : ((m : Int) != (bs.length : Int) - 5) = false := by
        have : (m : Int) = (bs.length : Int) - 5 := by omega
        rw [← this]; simp
      have Q6 : Hid (numI (bs.take 1) = (bs.length : Int) - 5) := Q.out.trans h6
      have hsum := sum_any _ A cap bs (by unfold maxLen; omega) w1 X1.out
      clear hqm h6 hm
      by_cases h5 : chkI bs = 0
      · have N := Lib.hid (par0 OK.out (by rw [HBS.out]; exact Q6.out) (by rw [HBS.out]; exact h5))
        rw [h5] at hsum
        clear h5
        go_wp2_with fail
        refine hsum.mono ?_
        rintro e w2 ⟨rfl, hB2⟩
        have B2 := Lib.hid (B1.out.trans (hB2.mono B1.out.size))
        have k2 : KeptP (fun _ => True) w1 w2 := KeptP.of_all hB2
        have T2 := Lib.hid (T1.out.kept k2 trivial)
        have P2 := P1.out.kept k2 trivial
        have X2 := X1.out.kept k2 (fun _ _ _ => trivial)
        have hlen1 : (bs.drop 1).length = bs.length - 1 := List.length_drop
        have hrec := recOf_any b (subA A 1 cap) (bs.drop 1) (cap - 1) m (by rw [hlen1]; have := M.out; omega) (by rw [hlen1]; have := HC.out; omega) w2 ((X2.mono (Q := (· < b)) fun i _ h => h.2).sub 1 cap HC.out) (by rw [hlen1]; exact P2)
        have X3 := Lib.hid X2
        clear hB2 k2 P2 X2 hsum e0 e1 e2 ef0 ef1 ef2 hlen1 ez h6'
        go_wp2_with fail
        refine hrec.mono ?_
        rintro e w3 ⟨rfl, hK3⟩
        have B3 := Lib.hid (below_of_kept B2.out (Nat.le_of_lt NB.out) hK3)
        have hT3 := T2.out.kept hK3 (by have := NB.out; omega)
        have T3 := Lib.hid hT3
        have X4 := Lib.hid (X3.out.kept hK3 fun i _ h => (by have := h.2; omega))
        obtain ⟨-, e0, e1, e2, ef⟩ := hT3
        have ef0 := ef 0
        have ef1 := ef 1
        have ef2 := ef 2
        clear hrec hK3 ef
        obtain ⟨q1, hq1⟩ : ∃ q, numI (((bs.drop 1).drop 2).take 1) = q := ⟨_, rfl⟩
        obtain ⟨q2, hq2⟩ : ∃ q, numI ((bs.drop 1).take 2) = q := ⟨_, rfl⟩
        rw [hq1, hq2]
        have HQ1 := Lib.hid hq1
        have HQ2 := Lib.hid hq2
        clear hq1 hq2
        go_wp2
        obtain ⟨wf, hwf, hTf, hKf⟩ := T3.out.put3 (.int .i64 q1) (.int .i64 q2) (.slice (subA (subA (subA A 1 cap) 2 (cap - 1)) 1 (cap - 1 - 2)) m (cap - 1 - 2 - 1))
        rw [hwf]
        have hBf := below_of_kept B3.out (Nat.le_refl _) hKf
        have hXf := X4.out.kept hKf fun i _ h => (by have h1 := h.1; simp at h1; omega)
        obtain ⟨-, c0, c1, c2, -⟩ := hTf
        refine bodyPost_ret (v := .tuple #[.agg #[.int .i64 q1, .int .i64 q2, .slice (subA (subA (subA A 1 cap) 2 (cap - 1)) 1 (cap - 1 - 2)) m (cap - 1 - 2 - 1)], .int .i64 0]) (by simp [results, Try.results12, go_sem, c0, c1, c2]) rfl ?_
        have hml : (recD bs (bs.length - 5)).length = m := by unfold recD; rw [List.length_take, List.length_drop]; have := M.out; omega
        have hq1 : parT s = q1 := by unfold parT; rw [if_pos N.out, HBS.out, ← HQ1.out, List.drop_drop]; rfl
        have hq2 : parA s = q2 := by unfold parA; rw [if_pos N.out, HBS.out, ← HQ2.out]; rfl
        have hqd : parD s = recD bs (bs.length - 5) := by unfold parD; rw [if_pos N.out, HBS.out]
        rw [hq1, hq2, hqd, N.out]
        refine ⟨_, _, by rw [hml], by rw [hml]; have := M.out; have := HC.out; omega, ?_, hBf⟩
        have h3 := (((hXf.sub 1 cap HC.out).sub 2 (cap - 1) (by rw [List.length_drop]; have := HC.out; omega)).sub 1 (cap - 1 - 2) (by rw [List.length_drop, List.length_drop]; have := HC.out; omega)).take m
        have e4 : (((bs.drop 1).drop 2).drop 1).take m = recD bs (bs.length - 5) := by unfold recD; rw [List.drop_drop, List.drop_drop, show bs.length - 5 = m by have := M.out; omega]
        rw [e4] at h3
        exact h3.mono fun i hi _ => hi
      · have N := Lib.hid (par5 OK.out (by rw [HBS.out]; exact Q6.out) (by rw [HBS.out]; exact h5))
        have h5' : (chkI bs != 0) = true := by rw [bne_iff_ne]; exact h5
        clear h5
        go_wp2_with fail
        refine hsum.mono ?_
        rintro e w2 ⟨rfl, hB2⟩
        have B2 := Lib.hid (B1.out.trans (hB2.mono B1.out.size))
        have hT2 := T1.out.kept (P := fun _ => True) (KeptP.of_all hB2) trivial
        have T2 := Lib.hid hT2
        clear e0 e1 e2 ef0 ef1 ef2
        obtain ⟨-, e0, e1, e2, ef⟩ := hT2
        have ef0 := ef 0
        have ef1 := ef 1
        have ef2 := ef 2
        clear hB2 hsum ef ez h6'
        go_wp2
        obtain ⟨wf, hwf, hTf, hKf⟩ := T2.out.put3 (.int .i64 0) (.int .i64 0) (.slice none 0 0)
        rw [hwf]
        obtain ⟨-, c0, c1, c2, -⟩ := hTf
        exact bodyPost_ret (v := .tuple #[.agg #[.int .i64 0, .int .i64 0, .slice none 0 0], .int .i64 5]) (by simp [results, Try.results12, go_sem, c0, c1, c2]) rfl (retRec_bad N.out (by decide) (below_of_kept B2.out (Nat.le_refl _) hKf))
    · have N := Lib.hid (par6 OK.out (by rw [HBS.out, Q.out]; exact h6))
      have h6' : (q != (bs.length : Int) - 5) = true := by rw [bne_iff_ne]; exact h6
      clear h6
      go_wp2
      obtain ⟨wf, hwf, hTf, hKf⟩ := T1.out.put3 (.int .i64 0) (.int .i64 0) (.slice none 0 0)
      rw [hwf]
      obtain ⟨-, c0, c1, c2, -⟩ := hTf
      exact bodyPost_ret (v := .tuple #[.agg #[.int .i64 0, .int .i64 0, .slice none 0 0], .int .i64 6]) (by simp [results, Try.results12, go_sem, c0, c1, c2]) rfl (retRec_bad N.out (by decide) (below_of_kept B1.out (Nat.le_refl _) hKf))
end Go.Proofs.Ytbnehcnimbkakaa
