/-
  The walk over record.Parse once more: the data lies in new memory.
-/
import Derived.Test.YtmeegpdjhcilkaaDoorHexAllD
namespace Go.Proofs.YtmeegpdjhcilkaaDoor
open Go.RowKit
set_option linter.unusedVariables false
/-- What Parse returns, the data in new memory. -/
def RetRecN (w : World) (T Ad : Int) (D : List UInt8) (c : Int) (e : Ending) (w' : World) : Prop :=
  ∃ A cap, e = .returned (.tuple #[.agg #[.int .i64 T, .int .i64 Ad, .slice A D.length cap], .int .i64 c]) ∧ D.length ≤ cap ∧ BytesP (fun i => w.heap.size ≤ i ∧ i < w'.heap.size) w' A D ∧ Below w.heap.size w w'
theorem retRecN_bad {w wr : World} {s : ByteArray} {c : Int} (hc : parCode s = c) (h0 : c ≠ 0) (h : Below w.heap.size w wr) :
    RetRecN w (parT s) (parA s) (parD s) (parCode s) (.returned (.tuple #[.agg #[.int .i64 0, .int .i64 0, .slice none 0 0], .int .i64 c])) wr := by
  have h1 : ¬ parCode s = 0 := by rw [hc]; exact h0
  unfold parT parA parD
  rw [if_neg h1, if_neg h1, if_neg h1, hc]
  exact ⟨none, 0, rfl, Nat.le_refl _, .inl rfl, h⟩
set_option maxHeartbeats 2000000 in
theorem parseN_any (s : ByteArray) (hs : s.size ≤ 140737488355328) (w : World) :
    Calls Tryd.prog 64 #[.string s] w (RetRecN w (parT s) (parA s) (parD s) (parCode s)) := by
  have hp := partsOf_any s hs (w.alloc (.cells #[.int .i64 0, .int .i64 0, .slice none 0 0] 78))
  have hal : Below w.heap.size w (w.alloc (.cells #[.int .i64 0, .int .i64 0, .slice none 0 0] 78)) := (Below.refl _ _).alloc (Nat.le_refl _) _
  have htr := Tri.new w _ rfl (.int .i64 0) (.int .i64 0) (.slice none 0 0) 78
  have hsz : w.heap.size < (w.alloc (.cells #[.int .i64 0, .int .i64 0, .slice none 0 0] 78)).heap.size := by simp
  have hlb := bytesL_le (linCut s)
  have hcs : (linCut s).size ≤ s.size := cutPre_le s ⟨#[58]⟩
  have HAL := Lib.hid hal
  have HTR := Lib.hid htr
  have HSZ := Lib.hid hsz
  have HLB := Lib.hid (Nat.le_trans hlb (Nat.le_trans hcs hs))
  clear hal htr hsz hlb hcs hs
  go_enter Tryd.func64, Tryd.ntmps64
  go_wp2_with fail
  refine hp.mono ?_
  rintro e w1 (⟨hno, rfl, hB⟩ | ⟨hok, A, cap, b, rfl, hcap, hP, hX, hb, hB⟩)
  · -- no record's form
    have N := Lib.hid (par3 hno)
    have B1 := Lib.hid (HAL.out.trans (hB.mono (Nat.le_of_lt HSZ.out)))
    have hT : Tri w.heap.size w1 _ _ _ := HTR.out.kept (P := fun _ => True) (KeptP.of_all hB) trivial
    have T1 := Lib.hid hT
    obtain ⟨-, e0, e1, e2, ef⟩ := hT
    have ef0 := ef 0
    have ef1 := ef 1
    have ef2 := ef 2
    clear hno hB hp ef
    go_wp2
    obtain ⟨wf, hwf, hTf, hKf⟩ := T1.out.put3 (.int .i64 0) (.int .i64 0) (.slice none 0 0)
    rw [hwf]
    obtain ⟨-, c0, c1, c2, -⟩ := hTf
    exact bodyPost_ret (v := .tuple #[.agg #[.int .i64 0, .int .i64 0, .slice none 0 0], .int .i64 3]) (by simp [results, Tryd.results64, go_sem, c0, c1, c2]) rfl (retRecN_bad N.out (by decide) (below_of_kept B1.out (Nat.le_refl _) hKf))
  · have hl5 := linOk_len hok
    have OK := Lib.hid hok
    obtain ⟨bs, hbs⟩ : ∃ bs, bytesL (linCut s) = bs := ⟨_, rfl⟩
    have HBS := Lib.hid hbs
    have HLB2 : bs.length ≤ 140737488355328 := by rw [← hbs]; exact HLB.out
    rw [hbs] at hcap hP hX hl5 ⊢
    have B1 := Lib.hid (HAL.out.trans (hB.mono (Nat.le_of_lt HSZ.out)))
    have hT : Tri w.heap.size w1 _ _ _ := HTR.out.kept (P := fun _ => True) (KeptP.of_all hB) trivial
    have T1 := Lib.hid hT
    have P1 := Lib.hid hP
    have X1 := Lib.hid hX
    have HC := Lib.hid hcap
    have hnb : w.heap.size < b := Nat.lt_of_lt_of_le HSZ.out hb
    have NB := Lib.hid hnb
    obtain ⟨-, e0, e1, e2, ef⟩ := hT
    have ef0 := ef 0
    have ef1 := ef 1
    have ef2 := ef 2
    have ez := hP.2
    obtain ⟨q, hq⟩ : ∃ q, numI (bs.take 1) = q := ⟨_, rfl⟩
    have Q := Lib.hid hq
    rw [hq] at ez P1
    clear hok hbs hB hp ef hP hX hcap hb hq hnb
    by_cases h6 : q = (bs.length : Int) - 5
    · obtain ⟨m, hm⟩ : ∃ m, bs.length = m + 5 := ⟨bs.length - 5, by omega⟩
      have hqm : q = (m : Int) := by omega
      have M := Lib.hid hm
      rw [hqm] at ez P1
      have h6' : ((m : Int) != (bs.length : Int) - 5) = false := by
        have : (m : Int) = (bs.length : Int) - 5 := by omega
        rw [← this]; simp
      have Q6 : Hid (numI (bs.take 1) = (bs.length : Int) - 5) := Q.out.trans h6
      have hsum := sum_any _ A cap bs (by unfold maxLen; omega) w1 X1.out
      clear hqm h6 hm
      by_cases h5 : chkI bs = 0
      · have N := Lib.hid (par0 OK.out (by rw [HBS.out]; exact Q6.out) (by rw [HBS.out]; exact h5))
        rw [h5] at hsum
        clear h5
        go_wp2_with fail
        refine hsum.mono ?_
        rintro e w2 ⟨rfl, hB2⟩
        have B2 := Lib.hid (B1.out.trans (hB2.mono B1.out.size))
        have k2 : KeptP (fun _ => True) w1 w2 := KeptP.of_all hB2
        have T2 := Lib.hid (T1.out.kept k2 trivial)
        have P2 := P1.out.kept k2 trivial
        have X2 := X1.out.kept k2 (fun _ _ _ => trivial)
        have hlen1 : (bs.drop 1).length = bs.length - 1 := List.length_drop
        have hrec := recOf_any b (subA A 1 cap) (bs.drop 1) (cap - 1) m (by rw [hlen1]; have := M.out; omega) (by rw [hlen1]; have := HC.out; omega) w2 ((X2.mono (Q := (· < b)) fun i _ h => h.2).sub 1 cap HC.out) (by rw [hlen1]; exact P2)
        have X3 := Lib.hid X2
        clear hB2 k2 P2 X2 hsum e0 e1 e2 ef0 ef1 ef2 hlen1 ez h6'
        go_wp2_with fail
        refine hrec.mono ?_
        rintro e w3 ⟨rfl, hK3⟩
        have B3 := Lib.hid (below_of_kept B2.out (Nat.le_of_lt NB.out) hK3)
        have hT3 := T2.out.kept hK3 (by have := NB.out; omega)
        have T3 := Lib.hid hT3
        have X4 := Lib.hid (X3.out.kept hK3 fun i _ h => (by have := h.2; omega))
        obtain ⟨-, e0, e1, e2, ef⟩ := hT3
        have ef0 := ef 0
        have ef1 := ef 1
        have ef2 := ef 2
        clear hrec hK3 ef
        obtain ⟨q1, hq1⟩ : ∃ q, numI (((bs.drop 1).drop 2).take 1) = q := ⟨_, rfl⟩
        obtain ⟨q2, hq2⟩ : ∃ q, numI ((bs.drop 1).take 2) = q := ⟨_, rfl⟩
        rw [hq1, hq2]
        have HQ1 := Lib.hid hq1
        have HQ2 := Lib.hid hq2
        clear hq1 hq2
        go_wp2
        obtain ⟨wf, hwf, hTf, hKf⟩ := T3.out.put3 (.int .i64 q1) (.int .i64 q2) (.slice (subA (subA (subA A 1 cap) 2 (cap - 1)) 1 (cap - 1 - 2)) m (cap - 1 - 2 - 1))
        rw [hwf]
        have hBf := below_of_kept B3.out (Nat.le_refl _) hKf
        have hXf := X4.out.kept hKf fun i _ h => (by have h1 := h.1; simp at h1; omega)
        obtain ⟨-, c0, c1, c2, -⟩ := hTf
        refine bodyPost_ret (v := .tuple #[.agg #[.int .i64 q1, .int .i64 q2, .slice (subA (subA (subA A 1 cap) 2 (cap - 1)) 1 (cap - 1 - 2)) m (cap - 1 - 2 - 1)], .int .i64 0]) (by simp [results, Tryd.results64, go_sem, c0, c1, c2]) rfl ?_
        have hml : (recD bs (bs.length - 5)).length = m := by unfold recD; rw [List.length_take, List.length_drop]; have := M.out; omega
        have hq1 : parT s = q1 := by unfold parT; rw [if_pos N.out, HBS.out, ← HQ1.out, List.drop_drop]; rfl
        have hq2 : parA s = q2 := by unfold parA; rw [if_pos N.out, HBS.out, ← HQ2.out]; rfl
        have hqd : parD s = recD bs (bs.length - 5) := by unfold parD; rw [if_pos N.out, HBS.out]
        rw [hq1, hq2, hqd, N.out]
        refine ⟨_, _, by rw [hml], by rw [hml]; have := M.out; have := HC.out; omega, ?_, hBf⟩
        have h3 := (((hXf.sub 1 cap HC.out).sub 2 (cap - 1) (by rw [List.length_drop]; have := HC.out; omega)).sub 1 (cap - 1 - 2) (by rw [List.length_drop, List.length_drop]; have := HC.out; omega)).take m
        have e4 : (((bs.drop 1).drop 2).drop 1).take m = recD bs (bs.length - 5) := by unfold recD; rw [List.drop_drop, List.drop_drop, show bs.length - 5 = m by have := M.out; omega]
        rw [e4] at h3
        exact h3.mono fun i hi hq => ⟨by have := hq.1; simp at this; omega, hi⟩
      · have N := Lib.hid (par5 OK.out (by rw [HBS.out]; exact Q6.out) (by rw [HBS.out]; exact h5))
        have h5' : (chkI bs != 0) = true := by rw [bne_iff_ne]; exact h5
        clear h5
        go_wp2_with fail
        refine hsum.mono ?_
        rintro e w2 ⟨rfl, hB2⟩
        have B2 := Lib.hid (B1.out.trans (hB2.mono B1.out.size))
        have hT2 := T1.out.kept (P := fun _ => True) (KeptP.of_all hB2) trivial
        have T2 := Lib.hid hT2
        clear e0 e1 e2 ef0 ef1 ef2
        obtain ⟨-, e0, e1, e2, ef⟩ := hT2
        have ef0 := ef 0
        have ef1 := ef 1
        have ef2 := ef 2
        clear hB2 hsum ef ez h6'
        go_wp2
        obtain ⟨wf, hwf, hTf, hKf⟩ := T2.out.put3 (.int .i64 0) (.int .i64 0) (.slice none 0 0)
        rw [hwf]
        obtain ⟨-, c0, c1, c2, -⟩ := hTf
        exact bodyPost_ret (v := .tuple #[.agg #[.int .i64 0, .int .i64 0, .slice none 0 0], .int .i64 5]) (by simp [results, Tryd.results64, go_sem, c0, c1, c2]) rfl (retRecN_bad N.out (by decide) (below_of_kept B2.out (Nat.le_refl _) hKf))
    · have N := Lib.hid (par6 OK.out (by rw [HBS.out, Q.out]; exact h6))
      have h6' : (q != (bs.length : Int) - 5) = true := by rw [bne_iff_ne]; exact h6
      clear h6
      go_wp2
      obtain ⟨wf, hwf, hTf, hKf⟩ := T1.out.put3 (.int .i64 0) (.int .i64 0) (.slice none 0 0)
      rw [hwf]
      obtain ⟨-, c0, c1, c2, -⟩ := hTf
      exact bodyPost_ret (v := .tuple #[.agg #[.int .i64 0, .int .i64 0, .slice none 0 0], .int .i64 6]) (by simp [results, Tryd.results64, go_sem, c0, c1, c2]) rfl (retRecN_bad N.out (by decide) (below_of_kept B1.out (Nat.le_refl _) hKf))
end Go.Proofs.YtmeegpdjhcilkaaDoor
