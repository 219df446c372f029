/-
  The walks over Make and over the document's own Make, Same; short instructions; the law's example.
-/
import Derived.Test.YthpaamekpfhkjaaDoorInF
namespace Go.Proofs.YthpaamekpfhkjaaDoor
open Go.RowKit
set_option linter.unusedVariables false

theorem row_set {w : World} {base : Nat} {e : TypeId} {size n : Nat} {v : Value} {xs : List Value} (h : w.ownsRow base e size v n xs) {p : Addr} (hp : p.block < base) (u : Value) : (w.setCell p u).ownsRow base e size v n xs :=
  World.ownsRow.kept h (row := some p.block) ⟨rfl, rfl, rfl, by simp, fun k _ hk => heap_setCell_other w p k u (fun e => hk (by rw [e]))⟩ (by
    cases e : v.ownBlock with
    | none => exact .inl rfl
    | some g => exact .inr (fun e' => by have := (h.lt g e).1; cases e'; omega))
/-- What a call returns: an instruction with operands in new memory. -/
def RetIns (w : World) (s : ByteArray) (L : List Tr) (e : Ending) (w' : World) : Prop := ∃ v, e = .returned (.agg #[.string s, v]) ∧ OwnT w' w.heap.size v L ∧ Below w.heap.size w w'
theorem OwnT.lift {w : World} {n m : Nat} {v : Value} {L : List Tr} (h : OwnT w n v L) (k : m ≤ n) : OwnT w m v L := row_mono h k
set_option maxRecDepth 100000 in
set_option maxHeartbeats 4000000 in
theorem make_any (s : ByteArray) (hs : s.size ≤ maxLen) (A : Option Addr) (cap : Nat) (L : List Tr) (hL : L.length ≤ 1000) (w : World) (H : OpsP w A L) :
    Calls Tryd.prog 16 #[.string s, .slice A L.length cap] w (RetIns w (upB s) L) := by
  have UP := Lib.hid (upper_any s hs)
  have CL := Lib.hid (cloneO_any A cap L hL)
  obtain ⟨u, hu⟩ : ∃ u, upB s = u := ⟨_, rfl⟩
  rw [hu] at UP ⊢
  have B0 : Hid (Below w.heap.size w (w.alloc (.cells #[.string ⟨#[]⟩, .slice none 0 0] 24))) := (Below.refl _ _).alloc (Nat.le_refl _) _
  have X0 := Lib.hid (H.below B0.out)
  have c0 : (w.alloc (.cells #[.string ⟨#[]⟩, .slice none 0 0] 24)).heap[w.heap.size]? = some (.cells #[.string ⟨#[]⟩, .slice none 0 0] 24 (0, 0)) := heap_alloc_new w _
  have C0 := Lib.hid c0
  clear H hu c0
  go_enter Tryd.func16, Tryd.ntmps16
  go_wp2_with fail
  refine (UP.out _).mono ?_
  rintro e w1 ⟨rfl, h1⟩
  have X1 := Lib.hid (X0.out.below h1)
  have B1 := Lib.hid (B0.out.trans (h1.mono B0.out.size))
  have C1 : Hid (w1.heap[w.heap.size]? = some (.cells #[.string ⟨#[]⟩, .slice none 0 0] 24 (0, 0))) := (h1.block _ (by simp)).trans C0.out
  have Z1 : Hid (w.heap.size < w1.heap.size) := by have := h1.size; simp at this; show w.heap.size < w1.heap.size; omega
  clear h1 X0 B0 C0
  go_wp2_with fail
  refine (CL.out _ X1.out).mono ?_
  rintro e w2 ⟨v, rfl, hO, h2⟩
  obtain ⟨A', cap', rfl, -, -⟩ := hO.ops
  have O2 := Lib.hid hO
  have B2 := Lib.hid (B1.out.trans (h2.mono B1.out.size))
  have C2 : Hid (w2.heap[w.heap.size]? = some (.cells #[.string ⟨#[]⟩, .slice none 0 0] 24 (0, 0))) := (h2.block _ Z1.out).trans C1.out
  clear h2 X1 B1 C1 hO
  have d0 : w2.cell? ⟨w.heap.size, 0, none⟩ = some (.string ⟨#[]⟩) := by rw [Lib.cell_of_heap C2.out]; rfl
  have d1 : w2.cell? ⟨w.heap.size, 1, none⟩ = some (.slice none 0 0) := by rw [Lib.cell_of_heap C2.out]; rfl
  have f0 : w2.frozen? ⟨w.heap.size, 0, none⟩ = false := Lib.frozen_of_heap C2.out 0
  have f1 : w2.frozen? ⟨w.heap.size, 1, none⟩ = false := Lib.frozen_of_heap C2.out 1
  have F : Hid (RetIns w u L (.returned (.agg #[.string u, .slice A' L.length cap'])) ((w2.setCell ⟨w.heap.size, 0, none⟩ (.string u)).setCell ⟨w.heap.size, 1, none⟩ (.slice A' L.length cap'))) :=
    ⟨_, rfl, row_mono (row_set (row_set O2.out (p := ⟨w.heap.size, 0, none⟩) Z1.out _) (p := ⟨w.heap.size, 1, none⟩) Z1.out _) (Nat.le_of_lt Z1.out), (B2.out.setCell (p := ⟨w.heap.size, 0, none⟩) (Nat.le_refl _) _).setCell (p := ⟨w.heap.size, 1, none⟩) (Nat.le_refl _) _⟩
  go_wp2
  obtain ⟨w3, hw3⟩ : ∃ w3, ((w2.setCell ⟨w.heap.size, 0, none⟩ (.string u)).setCell ⟨w.heap.size, 1, none⟩ (.slice A' L.length cap')) = w3 := ⟨_, rfl⟩
  have e0 : w3.cell? ⟨w.heap.size, 0, none⟩ = some (.string u) := by rw [← hw3]; simp [go_sem, d0]
  have e1 : w3.cell? ⟨w.heap.size, 1, none⟩ = some (.slice A' L.length cap') := by rw [← hw3]; simp [go_sem, d1]
  rw [hw3] at F ⊢
  refine bodyPost_ret (v := .agg #[.string u, .slice A' L.length cap']) ?_ rfl F.out
  simp [results, Tryd.results16, go_sem, e0, e1]
set_option maxRecDepth 100000 in
set_option maxHeartbeats 4000000 in
theorem rmake_any (s : ByteArray) (hs : s.size ≤ 140737488355328) (A : Option Addr) (cap : Nat) (L : List Tr) (hL : L.length ≤ 1000) (w : World) (H : OpsP w A L) :
    Calls Tryd.prog 18 #[.string s, .slice A L.length cap] w (RetIns w (upB s) L) := by
  have UP := Lib.hid (rupper_any s hs)
  have CL := Lib.hid (append_ops A cap L hL)
  obtain ⟨u, hu⟩ : ∃ u, upB s = u := ⟨_, rfl⟩
  rw [hu] at UP ⊢
  have B0 : Hid (Below w.heap.size w (w.alloc (.cells #[.string ⟨#[]⟩, .slice none 0 0] 24))) := (Below.refl _ _).alloc (Nat.le_refl _) _
  have X0 := Lib.hid (H.below B0.out)
  have c0 : (w.alloc (.cells #[.string ⟨#[]⟩, .slice none 0 0] 24)).heap[w.heap.size]? = some (.cells #[.string ⟨#[]⟩, .slice none 0 0] 24 (0, 0)) := heap_alloc_new w _
  have C0 := Lib.hid c0
  clear H hu c0
  go_enter Tryd.func18, Tryd.ntmps18
  go_wp2_with fail
  refine (UP.out _).mono ?_
  rintro e w1 ⟨rfl, h1⟩
  have B1 := Lib.hid (B0.out.trans (h1.mono B0.out.size))
  have C1 : Hid (w1.heap[w.heap.size]? = some (.cells #[.string ⟨#[]⟩, .slice none 0 0] 24 (0, 0))) := (h1.block _ (by simp)).trans C0.out
  have Z1 : Hid (w.heap.size < w1.heap.size) := by have := h1.size; simp at this; show w.heap.size < w1.heap.size; omega
  obtain ⟨v, w2, hrun, hO, h2⟩ := CL.out w1 (X0.out.below h1)
  obtain ⟨A', cap', rfl, -, -⟩ := hO.ops
  have K := Lib.hid hrun
  have O2 := Lib.hid hO
  have B2 := Lib.hid (B1.out.trans (h2.mono B1.out.size))
  have C2 : Hid (w2.heap[w.heap.size]? = some (.cells #[.string ⟨#[]⟩, .slice none 0 0] 24 (0, 0))) := (h2.block _ Z1.out).trans C1.out
  clear h1 h2 X0 B0 C0 B1 C1 hO hrun CL
  have d0 : w2.cell? ⟨w.heap.size, 0, none⟩ = some (.string ⟨#[]⟩) := by rw [Lib.cell_of_heap C2.out]; rfl
  have d1 : w2.cell? ⟨w.heap.size, 1, none⟩ = some (.slice none 0 0) := by rw [Lib.cell_of_heap C2.out]; rfl
  have f0 : w2.frozen? ⟨w.heap.size, 0, none⟩ = false := Lib.frozen_of_heap C2.out 0
  have f1 : w2.frozen? ⟨w.heap.size, 1, none⟩ = false := Lib.frozen_of_heap C2.out 1
  have F : Hid (RetIns w u L (.returned (.agg #[.string u, .slice A' L.length cap'])) ((w2.setCell ⟨w.heap.size, 0, none⟩ (.string u)).setCell ⟨w.heap.size, 1, none⟩ (.slice A' L.length cap'))) :=
    ⟨_, rfl, row_mono (row_set (row_set O2.out (p := ⟨w.heap.size, 0, none⟩) Z1.out _) (p := ⟨w.heap.size, 1, none⟩) Z1.out _) (Nat.le_of_lt Z1.out), (B2.out.setCell (p := ⟨w.heap.size, 0, none⟩) (Nat.le_refl _) _).setCell (p := ⟨w.heap.size, 1, none⟩) (Nat.le_refl _) _⟩
  go_wp2_with (at_builtin; refine wpList_run_append K.out rfl _ _ rfl rfl rfl rfl ?_)
  obtain ⟨w3, hw3⟩ : ∃ w3, ((w2.setCell ⟨w.heap.size, 0, none⟩ (.string u)).setCell ⟨w.heap.size, 1, none⟩ (.slice A' L.length cap')) = w3 := ⟨_, rfl⟩
  have e0 : w3.cell? ⟨w.heap.size, 0, none⟩ = some (.string u) := by rw [← hw3]; simp [go_sem, d0]
  have e1 : w3.cell? ⟨w.heap.size, 1, none⟩ = some (.slice A' L.length cap') := by rw [← hw3]; simp [go_sem, d1]
  rw [hw3] at F ⊢
  refine bodyPost_ret (v := .agg #[.string u, .slice A' L.length cap']) ?_ rfl F.out
  simp [results, Tryd.results18, go_sem, e0, e1]
theorem below_dn {B : Nat} {a w : World} (h : Below B a w) (n : Nat) : Below B a (w.drewN n) := ⟨h.os, h.tape, h.output, h.size, h.block⟩
set_option maxHeartbeats 1000000 in
theorem equalI_any (A1 A2 : Option Addr) (c1 c2 : Nat) (xs : List Int) (hx : xs.length ≤ maxLen) (w : World) (h1 : IntsAt w A1 xs) (h2 : IntsAt w A2 xs) :
    Calls Tryd.prog 13 #[.slice A1 xs.length c1, .slice A2 xs.length c2] w fun e w' => e = .returned (.bool true) ∧ Below w.heap.size w w' := by
  unfold maxLen at hx
  have H1 := Lib.hid h1
  have H2 := Lib.hid h2
  clear h1 h2
  obtain ⟨n, hn⟩ : ∃ n, xs.length = n := ⟨_, rfl⟩
  have L1 := Lib.hid hn
  rw [hn] at hx ⊢
  clear hn
  go_enter Tryd.func13, Tryd.ntmps13
  go_wp2
  go_loopw [13] (fun i wr => ∃ k q : Nat, k ≤ n ∧ i = .int .i64 k ∧ wr = w.drewN q) (fun i _ => n - (intOf i).toNat)
  case atStart => exact ⟨0, 0, Nat.zero_le _, rfl, rfl⟩
  case round =>
    obtain ⟨k, q, hk, rfl, rfl⟩ := hrel
    by_cases hlt : k < n
    · obtain ⟨b1, o1, hA1, g1⟩ := H1.out.at_ (show k < xs.length by have := L1.out; omega)
      obtain ⟨b2, o2, hA2, g2⟩ := H2.out.at_ (show k < xs.length by have := L1.out; omega)
      subst hA1 hA2
      obtain ⟨x, hx⟩ : ∃ x : Int, (xs[k]'(by have := L1.out; omega)) = x := ⟨_, rfl⟩
      rw [hx] at g1 g2
      clear hx
      go_wp2_with fail
      go_quiet (fail)
      go_wp2
      go_roundw
      case rel => exact ⟨k + 1, _, by omega, by go_num, rfl⟩
      case measure => simp [intOf]; omega
    · go_wp2
      go_ret
      exact ⟨rfl, below_dn (Below.refl _ _) _⟩

set_option maxRecDepth 100000 in
set_option maxHeartbeats 4000000 in
theorem same_any (s : ByteArray) (A1 A2 : Option Addr) (c1 c2 : Nat) (L : List Tr) (hL : L.length ≤ 1000) (w : World) (H1 : OpsP w A1 L) (H2 : OpsP w A2 L) :
    Calls Tryd.prog 17 #[.agg #[.string s, .slice A1 L.length c1], .agg #[.string s, .slice A2 L.length c2]] w fun e w' => e = .returned (.bool true) ∧ Below w.heap.size w w' := by
  have X1 := Lib.hid H1
  have X2 := Lib.hid H2
  obtain ⟨n, hn⟩ : ∃ n, L.length = n := ⟨_, rfl⟩
  have HN := Lib.hid hn
  rw [hn] at hL ⊢
  have hq := strB_eq s
  have B0 : Hid (Below w.heap.size w ((w.alloc (.cells #[.string s, .slice A1 n c1] 24)).alloc (.cells #[.string s, .slice A2 n c2] 24))) := ((Below.refl _ _).alloc (Nat.le_refl _) _).alloc (by simp) _
  clear H1 H2 hn
  go_enter Tryd.func17, Tryd.ntmps17
  go_wp2
  go_loopw [5] (fun i wr => ∃ j q : Nat, j ≤ n ∧ i = .int .i64 j ∧ wr = ((w.alloc (.cells #[.string s, .slice A1 n c1] 24)).alloc (.cells #[.string s, .slice A2 n c2] 24)).drewN q) (fun i _ => n - (intOf i).toNat)
  case atStart => exact ⟨0, 0, Nat.zero_le _, rfl, rfl⟩
  case round =>
    obtain ⟨j, q, hj, rfl, rfl⟩ := hrel
    by_cases hlt : j < n
    · have hj1 : j < L.length := by have := HN.out; omega
      obtain ⟨b1, o1, hA1, hb1, p0, p1, p2⟩ := X1.out.at_ hj1
      obtain ⟨b2, o2, hA2, hb2, q0, q1, q2⟩ := X2.out.at_ hj1
      subst hA1
      subst hA2
      have hx1 : b1 ≠ w.heap.size := by omega
      have hx2 : b2 ≠ w.heap.size := by omega
      have hx3 : b1 ≠ w.heap.size + 1 := by omega
      have hx4 : b2 ≠ w.heap.size + 1 := by omega
      obtain ⟨⟨x0, x1, x2⟩, hx⟩ : ∃ x, L[j] = x := ⟨_, rfl⟩
      rw [hx] at p0 p1 p2 q0 q1 q2
      simp only at p0 p1 p2 q0 q1 q2
      clear hx hj1
      go_wp2
      go_quiet (fail)
      go_wp2
      go_roundw
      case rel => exact ⟨j + 1, _, by omega, by go_num, rfl⟩
      case measure => simp [intOf]; omega
    · go_wp2
      go_ret
      exact ⟨rfl, below_dn B0.out _⟩
theorem short_any (s : ByteArray) (hs : s.size ≤ maxLen) (A : Option Addr) (cap n : Nat) (hn : n ≤ maxLen) (w : World) :
    Calls Tryd.prog 7 #[.agg #[.string s, .slice A n cap]] w fun e w' => e = .returned (.bool (decide (s.size ≤ 100) && decide (n ≤ 20))) ∧ Below w.heap.size w w' := by
  unfold maxLen at hs hn
  have B0 : Hid (Below w.heap.size w (w.alloc (.cells #[.string s, .slice A n cap] 24))) := (Below.refl _ _).alloc (Nat.le_refl _) _
  by_cases h1 : s.size ≤ 100
  · by_cases h2 : n ≤ 20
    · have E : Hid (true = (decide (s.size ≤ 100) && decide (n ≤ 20))) := by simp [Hid, h1, h2]
      have g1 : decide ((s.size : Int) ≤ 100) = true := decide_eq_true (by omega)
      have g2 : decide ((n : Int) ≤ 20) = true := decide_eq_true (by omega)
      have g3 : (s.size : Int) ≤ 100 := by omega
      have g4 : (n : Int) ≤ 20 := by omega
      go_enter Tryd.func7, Tryd.ntmps7
      go_wp2
      go_ret
      exact ⟨by first | exact ret_bool E.out | rfl, B0.out⟩
    · have E : Hid (false = (decide (s.size ≤ 100) && decide (n ≤ 20))) := by simp [Hid, h2]
      have g1 : decide ((s.size : Int) ≤ 100) = true := decide_eq_true (by omega)
      have g2 : decide ((n : Int) ≤ 20) = false := decide_eq_false (by omega)
      have g3 : (s.size : Int) ≤ 100 := by omega
      have g4 : ¬ (n : Int) ≤ 20 := by omega
      go_enter Tryd.func7, Tryd.ntmps7
      go_wp2
      go_ret
      exact ⟨by first | exact ret_bool E.out | rfl, B0.out⟩
  · have E : Hid (false = (decide (s.size ≤ 100) && decide (n ≤ 20))) := by simp [Hid, h1]
    have g1 : decide ((s.size : Int) ≤ 100) = false := decide_eq_false (by omega)
    have g3 : ¬ (s.size : Int) ≤ 100 := by omega
    go_enter Tryd.func7, Tryd.ntmps7
    go_wp2
    go_ret
    exact ⟨by first | exact ret_bool E.out | rfl, B0.out⟩
theorem ex_up : upB ⟨#[108, 100]⟩ = ⟨#[76, 68]⟩ := ByteArray.ext (by decide +kernel)
theorem ex_shp : shpS ⟨#[76, 68]⟩ [(5, 5, 5), (6, 0, 7)] = ⟨#[76, 68, 32, 40, 73, 88, 43, 100, 41, 44, 110]⟩ := ByteArray.ext (by decide +kernel)
theorem ex_nums : numsL [(5, 5, 5), (6, 0, 7)] = [5, 7] := by decide +kernel
set_option maxRecDepth 100000 in
set_option maxHeartbeats 2000000 in
theorem alive_any (w : World) : Calls Tryd.prog 8 #[] w fun e w' => e = .returned (.bool true) ∧ Below w.heap.size w w' := by
  have B0 : Hid (Below w.heap.size w (w.alloc (.cells #[.int .i64 5, .int .i64 5, .int .i64 5, .int .i64 6, .int .i64 0, .int .i64 7] 36))) := (Below.refl _ _).alloc (Nat.le_refl _) _
  have P0 : Hid (OpsP (w.alloc (.cells #[.int .i64 5, .int .i64 5, .int .i64 5, .int .i64 6, .int .i64 0, .int .i64 7] 36)) (some ⟨w.heap.size, 0, none⟩) [(5, 5, 5), (6, 0, 7)]) := by
    refine .inr ⟨_, 0, rfl, fun j hj => ?_⟩
    have : j = 0 ∨ j = 1 := by simp at hj; omega
    rcases this with rfl | rfl <;> exact ⟨by simp [go_sem], by simp [go_sem], by simp [go_sem]⟩
  have MK := Lib.hid (make_any ⟨#[108, 100]⟩ (by decide) (some ⟨w.heap.size, 0, none⟩) 2 [(5, 5, 5), (6, 0, 7)] (by decide) _ P0.out)
  rw [ex_up] at MK
  have SH := fun A cap => Lib.hid (shape_any ⟨#[76, 68]⟩ A cap [(5, 5, 5), (6, 0, 7)] (by decide) (by decide))
  have NB := fun A cap => Lib.hid (numbers_any ⟨#[76, 68]⟩ A cap [(5, 5, 5), (6, 0, 7)] (by decide))
  rw [ex_shp] at SH
  rw [ex_nums] at NB
  clear P0
  go_enter Tryd.func8, Tryd.ntmps8
  go_wp2_with fail
  refine MK.out.mono ?_
  rintro e w1 ⟨v, rfl, hO, h1⟩
  obtain ⟨A, cap, rfl, hP, -⟩ := hO.ops
  have B1 := Lib.hid (B0.out.trans (h1.mono B0.out.size))
  have T1 := Lib.hid (Bx.new w1 ⟨#[76, 68]⟩ A 2 cap 24)
  have hal : Below w1.heap.size w1 (w1.alloc (.cells #[.string ⟨#[76, 68]⟩, .slice A 2 cap] 24)) := (Below.refl _ _).alloc (Nat.le_refl _) _
  have P1 := Lib.hid (hP.below hal)
  have B2 := Lib.hid (B1.out.trans (hal.mono B1.out.size))
  obtain ⟨t0, t1⟩ := T1.out
  clear MK B0 hO hP h1 hal
  go_wp2_with fail
  refine ((SH A cap).out _ P1.out).mono ?_
  rintro e w2 ⟨rfl, h2⟩
  have B3 := Lib.hid (B2.out.trans (h2.mono B2.out.size))
  have P3 := Lib.hid (P1.out.below h2)
  have T3 := Lib.hid (T1.out.all h2)
  clear P1 h2 SH t0 t1 B2
  obtain ⟨t0, t1⟩ := T3.out
  go_wp2_with fail
  refine ((NB A cap).out _ P3.out).mono ?_
  rintro e w3 ⟨v, rfl, hI⟩
  obtain ⟨A', cap', rfl, hA, -⟩ := hI.ints
  have B4 := Lib.hid (B3.out.trans (hI.2.mono B3.out.size))
  have hal : Below w3.heap.size w3 (w3.alloc (.cells #[.int .i64 5, .int .i64 7] 3)) := (Below.refl _ _).alloc (Nat.le_refl _) _
  have A5 : IntsAt (w3.alloc (.cells #[.int .i64 5, .int .i64 7] 3)) A' [5, 7] := by
    rcases hA with h | ⟨b, off, rfl, hc⟩
    · cases h
    · exact .inr ⟨b, off, rfl, fun j hj => (hal.cell (World.block_lt_of_cell? w3 _ (hc j hj))).trans (hc j hj)⟩
  have A6 : IntsAt (w3.alloc (.cells #[.int .i64 5, .int .i64 7] 3)) (some ⟨w3.heap.size, 0, none⟩) [5, 7] := by
    refine .inr ⟨_, 0, rfl, fun j hj => ?_⟩
    have : j = 0 ∨ j = 1 := by simp at hj; omega
    rcases this with rfl | rfl <;> simp [go_sem]
  have EQ := Lib.hid (equalI_any A' (some ⟨w3.heap.size, 0, none⟩) cap' 2 [5, 7] (by decide) _ A5 A6)
  have B5 := Lib.hid (B4.out.trans (hal.mono B4.out.size))
  clear A5 A6 hal hA hI t0 t1 NB P3
  go_wp2_with fail
  refine EQ.out.mono ?_
  rintro e w4 ⟨rfl, h4⟩
  have B6 := Lib.hid (B5.out.trans (h4.mono B5.out.size))
  clear h4 EQ
  go_wp2
  go_ret
  exact ⟨rfl, B6.out⟩
end Go.Proofs.YthpaamekpfhkjaaDoor
