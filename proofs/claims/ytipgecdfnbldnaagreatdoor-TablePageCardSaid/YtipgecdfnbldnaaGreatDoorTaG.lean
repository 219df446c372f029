/-
  TbT, TbU, TbV: texts joined to one.
-/
import Derived.Test.YtipgecdfnbldnaaGreatDoorTaF
set_option linter.all false
set_option maxRecDepth 100000
set_option maxHeartbeats 4000000
/-
  Every code that table.find returns has few words, and all are known.
-/
namespace Go.Proofs.YtipgecdfnbldnaaGreatDoor
open Go.RowKit Go.Shelf
def argsU (p : Pat) (a : Nat) : Str := if (cutL [32] p.2).1 = [97] then arB a ++ (cutL [32] p.2).2.1 else (cutL [32] p.2).2.1
theorem argsU_eq (p : Pat) (op : Int) : (wordsT p op).2.1 ++ (wordsT p op).2.2 = argsU p (numP p.1 op 97).toNat := by
  unfold wordsT argsU
  split
  · rfl
  · split <;> rfl
theorem pats_small : ∀ p ∈ mainP ++ cbP ++ edP, p.1.length = 8 ∧ p.2.length ≤ 100 := by decide +kernel
theorem pats_num : ∀ p ∈ mainP ++ cbP ++ edP, ∀ n < 256, numN p.1 n 97 8 ≤ 7 ∧ numN p.1 n 111 8 ≤ 7 := by decide +kernel
theorem pats_words : ∀ p ∈ mainP ++ cbP ++ edP, ∀ a < 8, (argsU p a).length ≤ 100 ∧ ∀ w ∈ splitW (argsU p a), w ∈ wordsAll := by decide +kernel
theorem wordsF_len : ∀ (n : Nat) (l : Str), (wordsF n l).length ≤ l.length
  | 0, l => Nat.zero_le _
  | n + 1, l => by
    unfold wordsF
    split
    · exact Nat.zero_le _
    · next h =>
      have hl : 0 < l.length := List.length_pos_iff.2 (by simpa using h)
      have h1 := (cutL_lt [44] l (by decide) hl).1
      have h2 := wordsF_len n (cutL [44] l).2.1
      rw [List.length_cons]
      omega
theorem extraF_len (p : Pat) (op : Int) : ∀ (n : Nat) (l : Str), (extraT p op (wordsF n l)).length ≤ l.length
  | 0, l => Nat.zero_le _
  | n + 1, l => by
    unfold wordsF
    split
    · exact Nat.zero_le _
    · have h1 := cutL_sum [44] l
      have h2 := extraF_len p op n (cutL [44] l).2.1
      have h3 := opT_len p op (cutL [44] l).1
      show ((opT p op (cutL [44] l).1).2 ++ extraT p op (wordsF n (cutL [44] l).2.1)).length ≤ _
      rw [List.length_append]
      omega
theorem good2_of {p : Pat} (hp : p ∈ mainP ++ cbP ++ edP) (op : Int) (h0 : 0 ≤ op) (h1 : op ≤ 255) : Good2 p op := by
  obtain ⟨n, rfl⟩ : ∃ n : Nat, op = n := ⟨op.toNat, by omega⟩
  have hn : n < 256 := by omega
  obtain ⟨e1, e2⟩ := pats_small p hp
  obtain ⟨e3, e4⟩ := pats_num p hp n hn
  have na : numP p.1 (n : Int) 97 ≤ 7 := by rw [numP_eq _ _ hn]; omega
  have no : numP p.1 (n : Int) 111 ≤ 7 := by rw [numP_eq _ _ hn]; omega
  have n0 := (numP_bd p.1 (n : Int) h0 h1 97).1
  obtain ⟨e5, e6⟩ := pats_words p hp (numP p.1 (n : Int) 97).toNat (by omega)
  rw [← argsU_eq] at e5 e6
  have l1 := wordsF_len ((wordsT p (n : Int)).2.1 ++ (wordsT p (n : Int)).2.2).length ((wordsT p (n : Int)).2.1 ++ (wordsT p (n : Int)).2.2)
  have l2 := extraF_len p (n : Int) ((wordsT p (n : Int)).2.1 ++ (wordsT p (n : Int)).2.2).length ((wordsT p (n : Int)).2.1 ++ (wordsT p (n : Int)).2.2)
  exact ⟨⟨e1, e2, h0, h1, na, no, e5, e6⟩, Nat.le_trans l1 e5, Nat.le_trans l2 (by omega)⟩
theorem op6_all : ∀ n : Fin 256, op6 (n.val : Int) = ((n.val / 8 * 8 + 6 : Nat) : Int) := by decide +kernel
theorem op6_bd (op : Int) (h0 : 0 ≤ op) (h1 : op ≤ 255) : 0 ≤ op6 op ∧ op6 op ≤ 255 := by
  obtain ⟨n, rfl⟩ : ∃ n : Nat, op = n := ⟨op.toNat, by omega⟩
  have h := op6_all ⟨n, by omega⟩
  simp only at h
  omega
theorem find_mem {page op : Int} {p : Pat} (h : findP (listS page) op = some p) : p ∈ mainP ++ cbP ++ edP := by
  have h1 := List.mem_of_find?_eq_some h
  rw [patsOf_page] at h1
  exact page_mem h1
end Go.Proofs.YtipgecdfnbldnaaGreatDoor
/-
  table.At: the entry and the kind of an opcode in a page.
-/
namespace Go.Proofs.YtipgecdfnbldnaaGreatDoor
open Go.RowKit Go.Shelf
def atT (page op : Int) : Option En := match findP (listS page) op with
  | some p => entryT p page op
  | none => none
def RetAt (w : World) (page op : Int) (x : Option En) (e : Ending) (w' : World) : Prop :=
  (match x with
    | some x => ∃ v, e = .returned (.tuple #[enV page op x.1 v x.2.2.1 x.2.2.2, .int .i64 1]) ∧ OwnT w' w.heap.size v x.2.1
    | none => e = .returned (.tuple #[enV 0 0 [] (.slice none 0 0) [] false, .int .i64 (kindT page op)])) ∧ Below w.heap.size w w'
theorem opd0_start (w : World) : ∃ w0, w.alloc (.cells #[.int .i64 0, .int .u8 0, .string ⟨#[]⟩, .slice none 0 0, .string ⟨#[]⟩, .bool false] 27) = w0 ∧
    EnAt w0 w.heap.size 0 0 [] (.slice none 0 0) [] false ∧ Below w.heap.size w w0 ∧ w0.heap.size = w.heap.size + 1 :=
  ⟨_, rfl, World.alloc_heap_new w _, (Below.refl _ _).alloc (Nat.le_refl _) _, by simp⟩
theorem tat_any (page op : Int) (h0 : 0 ≤ op) (h1 : op ≤ 255) (w : World) (hM : MaxAt w) : Calls Tryz.prog 7 #[.int .i64 page, .int .u8 op] w (RetAt w page op (atT page op)) := by
  obtain ⟨w0, hw0, R0, B0, Z0⟩ := opd0_start w
  obtain ⟨n, hn⟩ : ∃ n, w.heap.size = n := ⟨_, rfl⟩
  rw [hn] at R0 B0 Z0
  have hgn : 0 < n := by rw [← hn]; exact hM.lt
  have hM0 : MaxAt w0 := hM.belowN (n := n) B0 hgn
  have hlo := listOf_any page w0
  have hfi := tfind_any (listS page) (listS_len page) (page8 page) op w0 hM0
  obtain ⟨o, ho⟩ : ∃ o, findP (listS page) op = o := ⟨_, rfl⟩
  have HO := Lib.hid ho
  obtain ⟨l, hl⟩ : ∃ l, listS page = l := ⟨_, rfl⟩
  rw [ho, hl] at hfi
  rw [hl] at hlo
  have HN := Lib.hid hn
  have R0 := Lib.hid R0
  have B0 := Lib.hid B0
  have HB := Lib.hid (And.intro h0 h1)
  have HG := Lib.hid hgn
  have M0 := Lib.hid hM0
  clear hM hM0 ho hl h0 h1 hgn
  go_enter Tryz.func7, Tryz.ntmps7
  go_wp2_with fail
  refine hlo.mono ?_
  rintro e w0' ⟨rfl, hw0'⟩
  rw [hw0']
  clear hlo hw0'
  go_wp2_with fail
  refine hfi.mono ?_
  rintro e w1 ⟨rfl, hb1⟩
  have R1 := Lib.hid (R0.out.all hb1)
  have B1 : Hid (Below n w w1) := B0.out.trans (hb1.mono (by omega))
  have M1 : Hid (MaxAt w1) := M0.out.below hb1
  have Z1 : n + 1 ≤ w1.heap.size := by have := hb1.size; omega
  clear hfi hb1 R0 B0 M0 hw0 Z0
  cases o with
  | none =>
    have T : Hid (atT page op = none) := by show atT page op = none; unfold atT; rw [HO.out]
    have hk := fun w2 => kindWithout_any page op HB.out.1 HB.out.2 w2
    obtain ⟨kd, hkd⟩ : ∃ k, kindT page op = k := ⟨_, rfl⟩
    have HK := Lib.hid hkd
    rw [hkd] at hk
    clear hkd
    have R2 := fun o => Lib.hid (R1.out.all ((Below.refl w1.heap.size w1).alloc (Nat.le_refl _) o))
    have B2 := fun o => Lib.hid (B1.out.trans ((Below.refl n w1).alloc (by omega) o))
    have HK2 := Lib.hid hk
    clear hk
    go_wp2_with fail
    refine (HK2.out _).mono ?_
    rintro e w2 ⟨rfl, hb2⟩
    have R3 := Lib.hid ((R2 _).out.all hb2)
    have B3 : Hid (Below n w w2) := (B2 _).out.trans (hb2.mono (by simp; omega))
    clear R2 B2 hb2 R1 B1
    obtain ⟨r0, r1, r2, r3, r4, r5, r6⟩ := R3.out.cells
    go_wp2
    obtain ⟨w7, hw7, q, q2, q3, -, q4⟩ := R3.out.put 0 0 [] (.slice none 0 0) [] false
    rw [show sB [] = (⟨#[]⟩ : ByteArray) from rfl] at hw7
    rw [hw7]
    obtain ⟨q0, q1, q2', q3', q4', q5, -⟩ := q.cells
    refine bodyPost_ret (v := .tuple #[enV 0 0 [] (.slice none 0 0) [] false, .int .i64 kd]) ?_ rfl ?_
    · simp [results, Tryz.results7, go_sem, q0, q1, q2', q3', q4', q5, enV]
    · rw [T.out]
      exact ⟨by rw [HK.out], by rw [HN.out]; exact B3.out.trans q2⟩
  | some p =>
    have hmem := find_mem HO.out
    have hb6 := op6_bd op HB.out.1 HB.out.2
    have hen := fun w2 hM2 => entry_any p page op (good2_of hmem op HB.out.1 HB.out.2) (good2_of hmem (op6 op) hb6.1 hb6.2) w2 hM2
    have T : Hid (atT page op = entryT p page op) := by show atT page op = _; unfold atT; rw [HO.out]
    obtain ⟨o2, ho2⟩ : ∃ o, entryT p page op = o := ⟨_, rfl⟩
    rw [ho2] at hen T
    have HE := Lib.hid hen
    clear hen ho2 hb6 hmem
    have R2 := fun o => Lib.hid (R1.out.all ((Below.refl w1.heap.size w1).alloc (Nat.le_refl _) o))
    have B2 := fun o => Lib.hid (B1.out.trans ((Below.refl n w1).alloc (by omega) o))
    have M2 := fun o => Lib.hid (M1.out.below ((Below.refl w1.heap.size w1).alloc (Nat.le_refl _) o))
    simp only [codeV]
    go_wp2_with fail
    refine (HE.out _ (M2 _).out).mono ?_
    rintro e w2 ⟨hres, hb2⟩
    have R3 := Lib.hid ((R2 _).out.all hb2)
    have B3 : Hid (Below n w w2) := (B2 _).out.trans (hb2.mono (by simp; omega))
    have Z3 : n + 1 ≤ w2.heap.size := by have := hb2.size; simp at this; omega
    have R4 := fun o => Lib.hid (R3.out.all ((Below.refl w2.heap.size w2).alloc (Nat.le_refl _) o))
    have B4 := fun o => Lib.hid (B3.out.trans ((Below.refl n w2).alloc (by omega) o))
    clear R2 B2 hb2 R1 B1 M2 M1 HE
    cases o2 with
    | none =>
      subst hres
      have O3 := Lib.hid trivial
      have T2 : Hid (atT page op = none) := T.out
      have hk := fun w2 => kindWithout_any page op HB.out.1 HB.out.2 w2
      obtain ⟨kd, hkd⟩ : ∃ k, kindT page op = k := ⟨_, rfl⟩
      have HK := Lib.hid hkd
      rw [hkd] at hk
      clear hkd
      have HK2 := Lib.hid hk
      clear hk
      simp only [enV]
      go_wp2_with fail
      refine (HK2.out _).mono ?_
      rintro e w4 ⟨rfl, hb4⟩
      have R5 := Lib.hid ((R4 _).out.all hb4)
      have B5 : Hid (Below n w w4) := (B4 _).out.trans (hb4.mono (by simp; omega))
      clear R4 B4 hb4 R3 B3 O3 HK2
      obtain ⟨r0, r1, r2, r3, r4, r5, r6⟩ := R5.out.cells
      go_wp2
      obtain ⟨w7, hw7, q, q2, q3, -, q4⟩ := R5.out.put 0 0 [] (.slice none 0 0) [] false
      rw [show sB [] = (⟨#[]⟩ : ByteArray) from rfl] at hw7
      rw [hw7]
      obtain ⟨q0, q1, q2', q3', q4', q5, -⟩ := q.cells
      refine bodyPost_ret (v := .tuple #[enV 0 0 [] (.slice none 0 0) [] false, .int .i64 kd]) ?_ rfl ?_
      · simp [results, Tryz.results7, go_sem, q0, q1, q2', q3', q4', q5, enV]
      · rw [T2.out]
        exact ⟨by rw [HK.out], by rw [HN.out]; exact B5.out.trans q2⟩
    | some x =>
      obtain ⟨m, L, ex, al⟩ := x
      obtain ⟨v, rfl, hO⟩ := hres
      simp only at hO ⊢
      obtain ⟨A, cap, rfl, -, -⟩ := hO.ops
      have O4 := fun o => Lib.hid ((OwnT.below hO ((Below.refl _ w2).alloc (Nat.le_refl _) o)).lift (show n ≤ _ by simp; omega))
      clear hO R3 B3
      obtain ⟨f, hf⟩ : ∃ f, w2.alloc (.cells #[.int .i64 page, .int .u8 op, .string (sB m), .slice A L.length cap, .string (sB ex), .bool al] 27) = f := ⟨_, rfl⟩
      have R5 := R4 (.cells #[.int .i64 page, .int .u8 op, .string (sB m), .slice A L.length cap, .string (sB ex), .bool al] 27)
      have B5 := B4 (.cells #[.int .i64 page, .int .u8 op, .string (sB m), .slice A L.length cap, .string (sB ex), .bool al] 27)
      have O5 := O4 (.cells #[.int .i64 page, .int .u8 op, .string (sB m), .slice A L.length cap, .string (sB ex), .bool al] 27)
      have E5 : EnAt f w2.heap.size page op m (.slice A L.length cap) ex al := by rw [← hf]; exact World.alloc_heap_new w2 _
      rw [hf] at R5 B5 O5
      clear R4 B4 O4
      obtain ⟨e0, e1, e2, e3, e4, e5, -⟩ := E5.cells
      obtain ⟨r0, r1, r2, r3, r4, r5, r6⟩ := R5.out.cells
      simp only [enV]
      go_wp2
      obtain ⟨w7, hw7, q, q2, q3, -, q4⟩ := R5.out.put page op m (.slice A L.length cap) ex al
      rw [hw7]
      obtain ⟨q0, q1, q2', q3', q4', q5, -⟩ := q.cells
      refine bodyPost_ret (v := .tuple #[enV page op m (.slice A L.length cap) ex al, .int .i64 1]) ?_ rfl ?_
      · simp [results, Tryz.results7, go_sem, q0, q1, q2', q3', q4', q5, enV]
      · rw [T.out]
        exact ⟨⟨_, rfl, by rw [HN.out]; exact put_own R5.out O5.out q4⟩, by rw [HN.out]; exact B5.out.trans q2⟩
end Go.Proofs.YtipgecdfnbldnaaGreatDoor
/-
  table.Size: the number of bytes of an entry.
-/
namespace Go.Proofs.YtipgecdfnbldnaaGreatDoor
open Go.RowKit Go.Shelf
attribute [local go_sem] Oper.semAt_some
def letN (c : UInt8) : Nat := if c = 100 ∨ c = 101 ∨ c = 110 then 1 else if c = 119 then 2 else 0
def sumN (ex : Str) (k : Nat) : Nat := ((ex.take k).map letN).sum
theorem sumN_succ (ex : Str) (k : Nat) (h : k < ex.length) : sumN ex (k + 1) = sumN ex k + letN ex[k] := by
  unfold sumN
  rw [List.take_succ_eq_append_getElem h, List.map_append, List.sum_append]
  simp
theorem letN_le (c : UInt8) : letN c ≤ 2 := by
  unfold letN
  split
  · omega
  · split <;> omega
theorem sumN_le (ex : Str) : ∀ k, k ≤ ex.length → sumN ex k ≤ 2 * k
  | 0, _ => by unfold sumN; simp
  | k + 1, h => by
    rw [sumN_succ ex k (by omega)]
    have h1 := sumN_le ex k (by omega)
    have h2 := letN_le ex[k]
    omega
def sizeT (page : Int) (ex : Str) : Nat := (preS page).length + 1 + sumN ex ex.length
theorem pre_le (page : Int) : (preS page).length ≤ 2 := by
  unfold preS
  repeat' split
  all_goals simp
theorem size_any (page op : Int) (m : Str) (A : Option Addr) (n cap : Nat) (ex : Str) (hx : ex.length ≤ 1000) (al : Bool) (w : World) :
    Calls Tryz.prog 11 #[enV page op m (.slice A n cap) ex al] w fun e w' => e = .returned (.int .i64 (sizeT page ex : Nat)) ∧ Below w.heap.size w w' := by
  unfold enV
  obtain ⟨s, hs⟩ : ∃ s, sB ex = s := ⟨_, rfl⟩
  have hz : s.size = ex.length := by rw [← hs, sB_size]
  have hat : ∀ k (h : k < s.size) (h' : k < ex.length), s[k] = ex[k] := fun k h h' => by subst hs; exact sB_at ex k h h'
  have HAT := Lib.hid hat
  have HX := Lib.hid hx
  obtain ⟨l, hl⟩ : ∃ l, ex.length = l := ⟨_, rfl⟩
  have HL := Lib.hid hl
  rw [hl] at hz hx
  have hcv := fun (w : World) => run_bytes_of_string (P := Tryz.prog) w 9 42 5 s Tryz.underlying9 Tryz.underlying42 Tryz.underlying5
  rw [hs]
  clear hs hat hl
  obtain ⟨w0, hw0⟩ : ∃ w0, w.alloc (.cells #[.int .i64 page, .int .u8 op, .string (sB m), .slice A n cap, .string s, .bool al] 27) = w0 := ⟨_, rfl⟩
  obtain ⟨b, hb⟩ : ∃ b, w.heap.size = b := ⟨_, rfl⟩
  have B0 : Hid (Below b w w0) := by rw [← hw0, ← hb]; exact (Below.refl _ _).alloc (Nat.le_refl _) _
  have Z0 : w0.heap.size = b + 1 := by rw [← hw0, ← hb]; simp
  have c0 : w0.heap[b]? = some (.cells #[.int .i64 page, .int .u8 op, .string (sB m), .slice A n cap, .string s, .bool al] 27 (0, 0)) := by rw [← hw0, ← hb]; exact World.alloc_heap_new w _
  have C0 := Lib.hid c0
  have hpp := prefixes_any page w0
  have k0 := Lib.cell_of_heap c0 0
  have HB := Lib.hid hb
  have HPL := Lib.hid (pre_le page)
  obtain ⟨pl, hpl⟩ : ∃ p, (preS page).length = p := ⟨_, rfl⟩
  have HP := Lib.hid hpl
  clear c0
  go_enter Tryz.func11, Tryz.ntmps11
  go_wp2_with fail
  refine hpp.mono ?_
  rintro e w1 ⟨v, rfl, hO, hb1⟩
  obtain ⟨A1, cap1, rfl, -⟩ := hO.bytes
  rw [hpl]
  have B1 : Hid (Below b w w1) := B0.out.trans (hb1.mono (by omega))
  have c1 := (hb1.block b (by omega)).trans C0.out
  have C1 := Lib.hid c1
  have k4 := Lib.cell_of_heap c1 4
  have hp2 : pl ≤ 2 := by rw [← hpl]; exact HPL.out
  have S := Lib.hid (rowB_start w1 s (grownCap w1 s.size 0 5) 5)
  have B2 : Hid (Below b w (w1.alloc (.cells (bytesRow s (grownCap w1 s.size 0 5)) 5 ((bytesRow s (grownCap w1 s.size 0 5)).size, (bytesRow s (grownCap w1 s.size 0 5)).size + 1))).drew) :=
    (B1.out.alloc (by have := hb1.size; omega) _).drew
  rw [hz] at S B2
  obtain ⟨q, hq⟩ : ∃ q, w1.heap.size = q := ⟨_, rfl⟩
  rw [hq] at S
  clear hpp hO hb1 c1 k0 hw0 B0 C0 hpl
  go_wp2
  clear hcv
  go_loopw [15, 3] (fun i o wr => ∃ k : Nat, k ≤ l ∧ i = .int .i64 k ∧ o = .int .i64 ((pl + 1 + sumN ex k : Nat) : Int) ∧ Hid (RowB wr s q) ∧ Hid (Below b w wr)) (fun i _ _ => l - (intOf i).toNat)
  case atStart => exact ⟨0, Nat.zero_le _, rfl, rfl, S.out, B2.out⟩
  case round =>
    clear S B2
    obtain ⟨k, hk, rfl, rfl, R, B⟩ := hrel
    by_cases hlt : k < l
    · have hlt' : k < s.size := by omega
      have hlt2 : k < ex.length := by rw [HL.out]; exact hlt
      have g1 : wr.cell? ⟨q, k, none⟩ = some (.int .u8 (s[k].toNat : Int)) := R.out k hlt'
      rw [HAT.out k hlt' hlt2] at g1
      have SS := sumN_succ ex k hlt2
      have SL := sumN_le ex k (by omega)
      obtain ⟨c, hc⟩ : ∃ c, ex[k] = c := ⟨_, rfl⟩
      rw [hc] at g1 SS
      obtain ⟨t, ht⟩ : ∃ t, sumN ex k = t := ⟨_, rfl⟩
      rw [ht] at SS SL ⊢
      have SS := Lib.hid SS
      clear hc ht
      have hk1 : k ≤ 1000 := by omega
      go_wp2
      · have e : c = 100 := of_decide_eq_true (u8_is c 100 (by decide) true (by assumption))
        have LN : letN c = 1 := by rw [e]; rfl
        go_roundw
        case rel => exact ⟨k + 1, by omega, by go_num, by rw [SS.out, LN]; go_num, R, B⟩
        case measure => simp [intOf]; omega
      · have e : c = 101 := of_decide_eq_true (u8_is c 101 (by decide) true (by assumption))
        have LN : letN c = 1 := by rw [e]; rfl
        go_roundw
        case rel => exact ⟨k + 1, by omega, by go_num, by rw [SS.out, LN]; go_num, R, B⟩
        case measure => simp [intOf]; omega
      · have e : c = 110 := of_decide_eq_true (u8_is c 110 (by decide) true (by assumption))
        have LN : letN c = 1 := by rw [e]; rfl
        go_roundw
        case rel => exact ⟨k + 1, by omega, by go_num, by rw [SS.out, LN]; go_num, R, B⟩
        case measure => simp [intOf]; omega
      · have e : c = 119 := of_decide_eq_true (u8_is c 119 (by decide) true (by assumption))
        have LN : letN c = 2 := by rw [e]; rfl
        go_roundw
        case rel => exact ⟨k + 1, by omega, by go_num, by rw [SS.out, LN]; go_num, R, B⟩
        case measure => simp [intOf]; omega
      · have a1 : ¬ c = 100 := of_decide_eq_false (u8_is c 100 (by decide) false (by assumption))
        have a2 : ¬ c = 101 := of_decide_eq_false (u8_is c 101 (by decide) false (by assumption))
        have a3 : ¬ c = 110 := of_decide_eq_false (u8_is c 110 (by decide) false (by assumption))
        have a4 : ¬ c = 119 := of_decide_eq_false (u8_is c 119 (by decide) false (by assumption))
        have LN : letN c = 0 := by unfold letN; rw [if_neg (by rintro (h | h | h) <;> contradiction), if_neg a4]
        go_roundw
        case rel => exact ⟨k + 1, by omega, by go_num, by rw [SS.out, LN]; go_num, R, B⟩
        case measure => simp [intOf]; omega
    · obtain rfl : k = l := by omega
      have T : Hid (sizeT page ex = pl + 1 + sumN ex k) := by show sizeT page ex = _; unfold sizeT; rw [HP.out, HL.out]
      go_wp2
      go_ret
      exact ⟨by rw [T.out]; rfl, by rw [HB.out]; exact B.out⟩
end Go.Proofs.YtipgecdfnbldnaaGreatDoor
