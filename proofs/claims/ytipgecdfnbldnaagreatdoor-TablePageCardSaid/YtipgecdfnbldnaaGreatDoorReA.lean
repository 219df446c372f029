/-
  RfA, RfB, RfB2: texts joined to one.
-/
import Derived.Test.YtipgecdfnbldnaaGreatDoorTaC
import Derived.Test.YtipgecdfnbldnaaGreatDoorTaD
import Derived.Test.YtipgecdfnbldnaaGreatDoorTaF
import Derived.Deep.DeepCutAuto
import Derived.Deep.Cut
import Derived.StillTail
import Derived.StillTailTactics
import Derived.Deep.RegionHeld3
import Derived.RegionTactic
set_option linter.all false
set_option maxRecDepth 100000
set_option maxHeartbeats 4000000
/-
  The reference's small functions: operands, rows of one and two operands, instructions.
-/
namespace Go.Proofs.YtipgecdfnbldnaaGreatDoor
open Go.RowKit Go.Shelf
def rpT (n last : Int) : Tr := if n = 3 then (3, last, 0) else (3, n, 0)
theorem rimm_any (n : Int) (w : World) : Calls Tryz.prog 61 #[.int .i64 n] w (RetTr w (6, 0, n)) := by
  go_enter Tryz.func61, Tryz.ntmps61
  go_wp2
  refine bodyPost_ret (v := trV (6, 0, n)) ?_ rfl ?_
  · simp [results, Tryz.results61, go_sem, trV]
  · exact ⟨rfl, (Below.refl _ _).alloc (Nat.le_refl _) _⟩
theorem rind_any (n : Int) (w : World) : Calls Tryz.prog 63 #[.int .i64 n] w (RetTr w (4, n, 0)) := by
  go_enter Tryz.func63, Tryz.ntmps63
  go_wp2
  refine bodyPost_ret (v := trV (4, n, 0)) ?_ rfl ?_
  · simp [results, Tryz.results63, go_sem, trV]
  · exact ⟨rfl, (Below.refl _ _).alloc (Nat.le_refl _) _⟩
theorem rcc_any (n : Int) (w : World) : Calls Tryz.prog 89 #[.int .i64 n] w (RetTr w (8, n, 0)) := by
  go_enter Tryz.func89, Tryz.ntmps89
  go_wp2
  refine bodyPost_ret (v := trV (8, n, 0)) ?_ rfl ?_
  · simp [results, Tryz.results89, go_sem, trV]
  · exact ⟨rfl, (Below.refl _ _).alloc (Nat.le_refl _) _⟩
theorem rmem_any (w : World) : Calls Tryz.prog 64 #[] w (RetTr w (7, 0, 0)) := by
  go_enter Tryz.func64, Tryz.ntmps64
  go_wp2
  refine bodyPost_ret (v := trV (7, 0, 0)) ?_ rfl ?_
  · simp [results, Tryz.results64, go_sem, trV]
  · exact ⟨rfl, (Below.refl _ _).alloc (Nat.le_refl _) _⟩
theorem rrel_any (w : World) : Calls Tryz.prog 88 #[] w (RetTr w (10, 0, 0)) := by
  go_enter Tryz.func88, Tryz.ntmps88
  go_wp2
  refine bodyPost_ret (v := trV (10, 0, 0)) ?_ rfl ?_
  · simp [results, Tryz.results88, go_sem, trV]
  · exact ⟨rfl, (Below.refl _ _).alloc (Nat.le_refl _) _⟩
theorem rr_any (n : Int) (w : World) : Calls Tryz.prog 29 #[.int .i64 n] w (RetTr w (regT n)) := by
  by_cases h : n = 6
  · have E : Hid (regT n = (4, 2, 0)) := by show regT n = _; unfold regT; rw [if_pos h]
    subst h
    go_enter Tryz.func29, Tryz.ntmps29
    go_wp2
    refine bodyPost_ret (v := trV (4, 2, 0)) ?_ rfl ?_
    · simp [results, Tryz.results29, go_sem, trV]
    · exact ⟨by rw [E.out], (Below.refl _ _).alloc (Nat.le_refl _) _⟩
  · have E : Hid (regT n = (1, n, 0)) := by show regT n = _; unfold regT; rw [if_neg h]
    have hk : (n == 6) = false := by simpa using h
    clear h
    go_enter Tryz.func29, Tryz.ntmps29
    go_wp2
    refine bodyPost_ret (v := trV (1, n, 0)) ?_ rfl ?_
    · simp [results, Tryz.results29, go_sem, trV]
    · exact ⟨by rw [E.out], (Below.refl _ _).alloc (Nat.le_refl _) _⟩
theorem rrp_any (n : Int) (last : Int) (w : World) : Calls Tryz.prog 62 #[.int .i64 n, .int .i64 last] w (RetTr w (rpT n last)) := by
  by_cases h : n = 3
  · have E : Hid (rpT n last = (3, last, 0)) := by show rpT n last = _; unfold rpT; rw [if_pos h]
    subst h
    go_enter Tryz.func62, Tryz.ntmps62
    go_wp2
    refine bodyPost_ret (v := trV (3, last, 0)) ?_ rfl ?_
    · simp [results, Tryz.results62, go_sem, trV]
    · exact ⟨by rw [E.out], (Below.refl _ _).alloc (Nat.le_refl _) _⟩
  · have E : Hid (rpT n last = (3, n, 0)) := by show rpT n last = _; unfold rpT; rw [if_neg h]
    have hk : (n == 3) = false := by simpa using h
    clear h
    go_enter Tryz.func62, Tryz.ntmps62
    go_wp2
    refine bodyPost_ret (v := trV (3, n, 0)) ?_ rfl ?_
    · simp [results, Tryz.results62, go_sem, trV]
    · exact ⟨by rw [E.out], (Below.refl _ _).alloc (Nat.le_refl _) _⟩
theorem racc_any (w : World) : Calls Tryz.prog 65 #[] w (RetTr w (1, 7, 0)) := by
  obtain ⟨w0, hw0, S0, B0, Z0⟩ := opd_start w
  obtain ⟨n, hn⟩ : ∃ n, w.heap.size = n := ⟨_, rfl⟩
  rw [hn] at S0 B0 Z0
  have S0 := Lib.hid S0
  have B0 := Lib.hid B0
  have HN := Lib.hid hn
  go_enter Tryz.func65, Tryz.ntmps65
  go_wp2_with fail
  refine (rr_any 7 w0).mono ?_
  rintro e w1 ⟨rfl, hb1⟩
  have S1 : Hid (OpdAt w1 n) := S0.out.below hb1
  have B1 : Hid (Below n w w1) := B0.out.trans (hb1.mono (by omega))
  clear hb1 hw0 S0 B0 Z0 hn
  simp only [trV, regT]
  obtain ⟨c0, c1, c2, c3⟩ := S1.out.cells
  go_wp2
  obtain ⟨w3, hw3, hc3, hb3, -⟩ := opd_set S1.out 1 7 0
  rw [hw3]
  have r0 := Lib.cell_of_heap hc3 0
  have r1 := Lib.cell_of_heap hc3 1
  have r2 := Lib.cell_of_heap hc3 2
  refine bodyPost_ret (v := trV (1, 7, 0)) ?_ rfl ?_
  · simp [results, Tryz.results65, go_sem, r0, r1, r2, trV]
  · exact ⟨rfl, by rw [HN.out]; exact B1.out.trans hb3⟩
theorem rins_any (s : ByteArray) (A : Option Addr) (n cap : Nat) (w : World) : Calls Tryz.prog 56 #[.string s, .slice A n cap] w fun e w' => e = .returned (.agg #[.string s, .slice A n cap]) ∧ Below w.heap.size w w' := by
  go_enter Tryz.func56, Tryz.ntmps56
  go_wp2
  refine bodyPost_ret (v := .agg #[.string s, .slice A n cap]) ?_ rfl ?_
  · simp [results, Tryz.results56, go_sem]
  · exact ⟨rfl, (Below.refl _ _).alloc (Nat.le_refl _) _⟩
theorem own_litT (w : World) (L : List Tr) (hl : L.length ≤ 100) : OwnT (w.alloc (.cells (cellsT L).toArray 69)) w.heap.size (.slice (some ⟨w.heap.size, 0, none⟩) L.length L.length) L := by
  refine ⟨cellsT_length L, .inr ⟨w.heap.size, L.length, (cellsT L).toArray, rfl, Nat.le_refl _, World.alloc_heap_new w _, Nat.le_refl _, by unfold maxLen; omega, by simp [cellsT_length], ?_⟩⟩
  show (cellsT L).toArray.toList.take _ = _
  rw [List.toList_toArray, List.take_of_length_le (by rw [cellsT_length]; exact Nat.le_refl _)]
theorem rone_any (a : Tr) (w : World) : Calls Tryz.prog 60 #[trV a] w (RetOwn w [a]) := by
  obtain ⟨w0, hw0⟩ : ∃ w0, (w.alloc (.cells #[.int .i64 a.1, .int .i64 a.2.1, .int .i64 a.2.2] 69)) = w0 := ⟨_, rfl⟩
  have B0 : Below w.heap.size w w0 := by rw [← hw0]; exact (Below.refl _ w).alloc (by simp) _
  have Z0 : w0.heap.size = w.heap.size + 1 := by rw [← hw0]; simp
  have O := own_litT w0 [a] (by simp)
  rw [Z0] at O
  have O := Lib.hid O
  have HW := Lib.hid hw0
  have B1 : Hid (Below w.heap.size w (w0.alloc (.cells (cellsT [a]).toArray 69))) := B0.alloc B0.size _
  clear B0 hw0
  unfold trV
  go_enter Tryz.func60, Tryz.ntmps60
  go_wp2
  go_ret
  rw [HW.out]
  exact ⟨_, rfl, O.out.lift (by omega), B1.out⟩
theorem rtwo_any (a : Tr) (b : Tr) (w : World) : Calls Tryz.prog 57 #[trV a, trV b] w (RetOwn w [a, b]) := by
  obtain ⟨w0, hw0⟩ : ∃ w0, ((w.alloc (.cells #[.int .i64 a.1, .int .i64 a.2.1, .int .i64 a.2.2] 69)).alloc (.cells #[.int .i64 b.1, .int .i64 b.2.1, .int .i64 b.2.2] 69)) = w0 := ⟨_, rfl⟩
  have B0 : Below w.heap.size w w0 := by rw [← hw0]; exact ((Below.refl _ w).alloc (by simp) _).alloc (by simp) _
  have Z0 : w0.heap.size = w.heap.size + 1 + 1 := by rw [← hw0]; simp
  have O := own_litT w0 [a, b] (by simp)
  rw [Z0] at O
  have O := Lib.hid O
  have HW := Lib.hid hw0
  have B1 : Hid (Below w.heap.size w (w0.alloc (.cells (cellsT [a, b]).toArray 69))) := B0.alloc B0.size _
  clear B0 hw0
  unfold trV
  go_enter Tryz.func57, Tryz.ntmps57
  go_wp2
  go_ret
  rw [HW.out]
  exact ⟨_, rfl, O.out.lift (by omega), B1.out⟩
end Go.Proofs.YtipgecdfnbldnaaGreatDoor
/-
  The reference's operations with the accumulator.
-/
namespace Go.Proofs.YtipgecdfnbldnaaGreatDoor
open Go.RowKit Go.Shelf
attribute [local irreducible] Go.Mixed.wpMix
theorem ri_put {w : World} {b : Nat} (h : Rz w b) (s : ByteArray) (v : Value) : ∃ w', (w.setCell ⟨b, 0, none⟩ (.string s)).setCell ⟨b, 1, none⟩ v = w' ∧ Ri w' b s v ∧ Below b w w' ∧ ∀ k, k ≠ b → w'.heap[k]? = w.heap[k]? :=
  ⟨_, rfl, h.done s v, ((Below.refl b w).setCell (p := ⟨b, 0, none⟩) (Nat.le_refl _) _).setCell (p := ⟨b, 1, none⟩) (Nat.le_refl _) _, fun k hk => (heap_setCell_other _ ⟨b, 1, none⟩ k _ hk).trans (heap_setCell_other _ ⟨b, 0, none⟩ k _ hk)⟩
theorem own_put {w w' : World} {b B : Nat} {u : Value} {L : List Tr} (h : Rz w b) (O : OwnT w B u L) (k : ∀ k, k ≠ b → w'.heap[k]? = w.heap[k]?) : OwnT w' B u L := by
  refine ⟨O.1, ?_⟩
  rcases O.2 with h2 | ⟨g, cap, cur, h3, h4, h5, h6⟩
  · exact .inl h2
  · refine .inr ⟨g, cap, cur, h3, h4, (k g fun e => ?_).trans h5, h6⟩
    subst e
    rw [show w.heap[g]? = _ from h] at h5
    simp at h5
theorem Rz.all {w w' : World} {b : Nat} (h : Rz w b) (hb : Below w.heap.size w w') : Rz w' b := (hb.block b (Array.getElem?_eq_some_iff.1 h).1).trans h
theorem Rz.lt' {w : World} {b : Nat} (h : Rz w b) : b < w.heap.size := (Array.getElem?_eq_some_iff.1 h).1
def RetJ (w : World) (m : Str) (L : List Tr) (e : Ending) (w' : World) : Prop := ∃ v, e = .returned (.agg #[.string (sB m), v]) ∧ OwnT w' w.heap.size v L ∧ Below w.heap.size w w'
def RetI (w : World) (m : Str) (L : List Tr) (ex : Str) (e : Ending) (w' : World) : Prop := ∃ v, e = .returned (.tuple #[.agg #[.string (sB m), v], .string (sB ex)]) ∧ OwnT w' w.heap.size v L ∧ Below w.heap.size w w'
theorem up {a b c : World} (h : Below a.heap.size a b) (k : Below b.heap.size b c) : Below a.heap.size a c := h.trans (k.mono h.size)
theorem up_alloc (w : World) (o : Obj) : Below w.heap.size w (w.alloc o) := (Below.refl _ _).alloc (Nat.le_refl _) _
theorem alu_start (w : World) (x : Tr) : ∃ w0, (w.alloc (.cells #[.int .i64 x.1, .int .i64 x.2.1, .int .i64 x.2.2] 69)).alloc (.cells #[.string ⟨#[]⟩, .slice none 0 0] 25) = w0 ∧
    w0.heap[w.heap.size]? = some (.cells #[.int .i64 x.1, .int .i64 x.2.1, .int .i64 x.2.2] 69 (0, 0)) ∧ Rz w0 (w.heap.size + 1) ∧ Below w.heap.size w w0 := by
  refine ⟨_, rfl, (Below.heap_alloc _ _ _ (by simp)).trans (World.alloc_heap_new w _), ?_, ((Below.refl _ w).alloc (Nat.le_refl _) _).alloc (by simp) _⟩
  have h := World.alloc_heap_new (w.alloc (.cells #[.int .i64 x.1, .int .i64 x.2.1, .int .i64 x.2.2] 69)) (.cells #[.string ⟨#[]⟩, .slice none 0 0] 25)
  rw [World.size_alloc] at h
  exact h
theorem ralu_0 (x0 x1 x2 : Int) (w : World) : Calls Tryz.prog 58 #[.int .i64 0, .agg #[.int .i64 x0, .int .i64 x1, .int .i64 x2]] w (RetJ w [65, 68, 68] [(1, 7, 0), (x0, x1, x2)]) := by
  obtain ⟨w0, hw0, C0, R0, B0⟩ := alu_start w (x0, x1, x2)
  simp only at hw0 C0
  obtain ⟨n, hn⟩ : ∃ n, w.heap.size = n := ⟨_, rfl⟩
  rw [hn] at C0 R0
  have HN := Lib.hid hn
  have R0 := Lib.hid R0
  have B0 := Lib.hid B0
  have C0 := Lib.hid C0
  go_enter Tryz.func58, Tryz.ntmps58
  go_upto_region 2 with fail
  obtain ⟨w1, hw1⟩ : ∃ w1, w0.alloc (.cells #[.string ⟨#[65, 68, 68]⟩, .string ⟨#[65, 68, 67]⟩, .string ⟨#[83, 85, 66]⟩, .string ⟨#[83, 66, 67]⟩, .string ⟨#[65, 78, 68]⟩, .string ⟨#[88, 79, 82]⟩, .string ⟨#[79, 82]⟩, .string ⟨#[67, 80]⟩] 9) = w1 := ⟨_, rfl⟩
  have hal : Below w0.heap.size w0 w1 := by rw [← hw1]; exact up_alloc _ _
  have R1 := Lib.hid (R0.out.all hal)
  have B1 : Hid (Below w.heap.size w w1) := up B0.out hal
  have c1 := (hal.block n (Array.getElem?_eq_some_iff.1 C0.out).1).trans C0.out
  rw [hw1]
  clear hw1 hal R0 B0 C0 hw0 hn
  have C1 := Lib.hid c1
  have k0 := Lib.cell_of_heap c1 0
  have k1 := Lib.cell_of_heap c1 1
  have k2 := Lib.cell_of_heap c1 2
  clear c1
  go_upto_region 3 with fail
  obtain ⟨w2, hw2⟩ : ∃ w2, w1.drew = w2 := ⟨_, rfl⟩
  have R2 : Hid (Rz w2 (n + 1)) := by rw [← hw2]; exact R1.out
  have B2 : Hid (Below w.heap.size w w2) := by rw [← hw2]; exact B1.out.drew
  have C2 : Hid (w2.heap[n]? = some (.cells #[.int .i64 x0, .int .i64 x1, .int .i64 x2] 69 (0, 0))) := by rw [← hw2]; exact C1.out
  have K2 : Hid (w2.cell? ⟨n, 0, none⟩ = some (.int .i64 x0) ∧ w2.cell? ⟨n, 1, none⟩ = some (.int .i64 x1) ∧ w2.cell? ⟨n, 2, none⟩ = some (.int .i64 x2)) := ⟨Lib.cell_of_heap C2.out 0, Lib.cell_of_heap C2.out 1, Lib.cell_of_heap C2.out 2⟩
  refine Mixed.wp_region_mixed (fun w' => w'.cell? ⟨n, 0, none⟩ = some (.int .i64 x0) ∧ w'.cell? ⟨n, 1, none⟩ = some (.int .i64 x1) ∧ w'.cell? ⟨n, 2, none⟩ = some (.int .i64 x2)) 4 [(0, true), (2, true), (1, false), (3, false)] (by kernel_rfl) (by kernel_rfl) (by rw [hw2]; exact K2.out) ?_
  rw [hw2]
  clear R1 B1 C1 hw2 k0 k1 k2 K2
  refine Mixed.wpMix_move rfl (by kernel_rfl) _ rfl (.string ⟨#[65, 68, 68]⟩) rfl ?_
  refine Mixed.wpMix_pure rfl (by kernel_rfl) (.agg #[.int .i64 x0, .int .i64 x1, .int .i64 x2]) (fun w h => by obtain ⟨h1, h2, h3⟩ := h; go_simp; try rfl) ?_
  refine Mixed.wpMix_loudG rfl (by kernel_rfl) ?_
  go_wp2_with fail
  refine (racc_any w2).mono ?_
  rintro e w3 ⟨rfl, hb3⟩
  have R3 := Lib.hid (R2.out.all hb3)
  have B3 : Hid (Below w.heap.size w w3) := up B2.out hb3
  have c3 := (hb3.block n (Array.getElem?_eq_some_iff.1 C2.out).1).trans C2.out
  have xx : w3.cell? ⟨n, 0, none⟩ = some (.int .i64 x0) ∧ w3.cell? ⟨n, 1, none⟩ = some (.int .i64 x1) ∧ w3.cell? ⟨n, 2, none⟩ = some (.int .i64 x2) := ⟨Lib.cell_of_heap c3 0, Lib.cell_of_heap c3 1, Lib.cell_of_heap c3 2⟩
  clear hb3 R2 B2 C2
  go_wp2
  refine ⟨xx, ?_⟩
  clear xx
  simp only [trV]
  have C3 := Lib.hid c3
  clear c3
  refine Mixed.wpMix_loudG rfl (by kernel_rfl) ?_
  go_wp2_with fail
  refine (rtwo_any (1, 7, 0) (x0, x1, x2) w3).mono ?_
  rintro e w4 ⟨v, rfl, hO, hb4⟩
  obtain ⟨A, cap, rfl, -, -⟩ := hO.ops
  have R4 := Lib.hid (R3.out.all hb4)
  have B4 : Hid (Below w.heap.size w w4) := up B3.out hb4
  have O4 : Hid (OwnT w4 w.heap.size (.slice A 2 cap) [(1, 7, 0), (x0, x1, x2)]) := hO.lift B3.out.size
  have c4 := (hb4.block n (Array.getElem?_eq_some_iff.1 C3.out).1).trans C3.out
  have xx : w4.cell? ⟨n, 0, none⟩ = some (.int .i64 x0) ∧ w4.cell? ⟨n, 1, none⟩ = some (.int .i64 x1) ∧ w4.cell? ⟨n, 2, none⟩ = some (.int .i64 x2) := ⟨Lib.cell_of_heap c4 0, Lib.cell_of_heap c4 1, Lib.cell_of_heap c4 2⟩
  clear c4 C3
  clear hO hb4 R3 B3
  go_wp2
  refine ⟨xx, ?_⟩
  clear xx
  simp only [Mixed.wpMix, List.drop_succ_cons, List.drop_zero]
  go_wp2_with fail
  refine (rins_any ⟨#[65, 68, 68]⟩ A 2 cap w4).mono ?_
  rintro e w5 ⟨rfl, hb5⟩
  have R5 := Lib.hid (R4.out.all hb5)
  have B5 : Hid (Below w.heap.size w w5) := up B4.out hb5
  have O5 := Lib.hid (O4.out.below hb5)
  clear hb5 R4 B4 O4
  obtain ⟨z0, z1, z2, z3⟩ := R5.out.cells
  go_wp2
  obtain ⟨w6, hw6, q1, q2, q3⟩ := ri_put R5.out ⟨#[65, 68, 68]⟩ (.slice A 2 cap)
  rw [hw6]
  obtain ⟨p0, p1⟩ := q1.cells
  refine bodyPost_ret (v := .agg #[.string ⟨#[65, 68, 68]⟩, .slice A 2 cap]) ?_ rfl ?_
  · simp [results, Tryz.results58, go_sem, p0, p1]
  · exact ⟨_, rfl, own_put R5.out O5.out q3, B5.out.trans (q2.mono (by rw [HN.out]; omega))⟩
theorem ralu_1 (x0 x1 x2 : Int) (w : World) : Calls Tryz.prog 58 #[.int .i64 1, .agg #[.int .i64 x0, .int .i64 x1, .int .i64 x2]] w (RetJ w [65, 68, 67] [(1, 7, 0), (x0, x1, x2)]) := by
  obtain ⟨w0, hw0, C0, R0, B0⟩ := alu_start w (x0, x1, x2)
  simp only at hw0 C0
  obtain ⟨n, hn⟩ : ∃ n, w.heap.size = n := ⟨_, rfl⟩
  rw [hn] at C0 R0
  have HN := Lib.hid hn
  have R0 := Lib.hid R0
  have B0 := Lib.hid B0
  have C0 := Lib.hid C0
  go_enter Tryz.func58, Tryz.ntmps58
  go_upto_region 2 with fail
  obtain ⟨w1, hw1⟩ : ∃ w1, w0.alloc (.cells #[.string ⟨#[65, 68, 68]⟩, .string ⟨#[65, 68, 67]⟩, .string ⟨#[83, 85, 66]⟩, .string ⟨#[83, 66, 67]⟩, .string ⟨#[65, 78, 68]⟩, .string ⟨#[88, 79, 82]⟩, .string ⟨#[79, 82]⟩, .string ⟨#[67, 80]⟩] 9) = w1 := ⟨_, rfl⟩
  have hal : Below w0.heap.size w0 w1 := by rw [← hw1]; exact up_alloc _ _
  have R1 := Lib.hid (R0.out.all hal)
  have B1 : Hid (Below w.heap.size w w1) := up B0.out hal
  have c1 := (hal.block n (Array.getElem?_eq_some_iff.1 C0.out).1).trans C0.out
  rw [hw1]
  clear hw1 hal R0 B0 C0 hw0 hn
  have C1 := Lib.hid c1
  have k0 := Lib.cell_of_heap c1 0
  have k1 := Lib.cell_of_heap c1 1
  have k2 := Lib.cell_of_heap c1 2
  clear c1
  go_upto_region 3 with fail
  obtain ⟨w2, hw2⟩ : ∃ w2, w1.drew = w2 := ⟨_, rfl⟩
  have R2 : Hid (Rz w2 (n + 1)) := by rw [← hw2]; exact R1.out
  have B2 : Hid (Below w.heap.size w w2) := by rw [← hw2]; exact B1.out.drew
  have C2 : Hid (w2.heap[n]? = some (.cells #[.int .i64 x0, .int .i64 x1, .int .i64 x2] 69 (0, 0))) := by rw [← hw2]; exact C1.out
  have K2 : Hid (w2.cell? ⟨n, 0, none⟩ = some (.int .i64 x0) ∧ w2.cell? ⟨n, 1, none⟩ = some (.int .i64 x1) ∧ w2.cell? ⟨n, 2, none⟩ = some (.int .i64 x2)) := ⟨Lib.cell_of_heap C2.out 0, Lib.cell_of_heap C2.out 1, Lib.cell_of_heap C2.out 2⟩
  refine Mixed.wp_region_mixed (fun w' => w'.cell? ⟨n, 0, none⟩ = some (.int .i64 x0) ∧ w'.cell? ⟨n, 1, none⟩ = some (.int .i64 x1) ∧ w'.cell? ⟨n, 2, none⟩ = some (.int .i64 x2)) 4 [(0, true), (2, true), (1, false), (3, false)] (by kernel_rfl) (by kernel_rfl) (by rw [hw2]; exact K2.out) ?_
  rw [hw2]
  clear R1 B1 C1 hw2 k0 k1 k2 K2
  refine Mixed.wpMix_move rfl (by kernel_rfl) _ rfl (.string ⟨#[65, 68, 67]⟩) rfl ?_
  refine Mixed.wpMix_pure rfl (by kernel_rfl) (.agg #[.int .i64 x0, .int .i64 x1, .int .i64 x2]) (fun w h => by obtain ⟨h1, h2, h3⟩ := h; go_simp; try rfl) ?_
  refine Mixed.wpMix_loudG rfl (by kernel_rfl) ?_
  go_wp2_with fail
  refine (racc_any w2).mono ?_
  rintro e w3 ⟨rfl, hb3⟩
  have R3 := Lib.hid (R2.out.all hb3)
  have B3 : Hid (Below w.heap.size w w3) := up B2.out hb3
  have c3 := (hb3.block n (Array.getElem?_eq_some_iff.1 C2.out).1).trans C2.out
  have xx : w3.cell? ⟨n, 0, none⟩ = some (.int .i64 x0) ∧ w3.cell? ⟨n, 1, none⟩ = some (.int .i64 x1) ∧ w3.cell? ⟨n, 2, none⟩ = some (.int .i64 x2) := ⟨Lib.cell_of_heap c3 0, Lib.cell_of_heap c3 1, Lib.cell_of_heap c3 2⟩
  clear hb3 R2 B2 C2
  go_wp2
  refine ⟨xx, ?_⟩
  clear xx
  simp only [trV]
  have C3 := Lib.hid c3
  clear c3
  refine Mixed.wpMix_loudG rfl (by kernel_rfl) ?_
  go_wp2_with fail
  refine (rtwo_any (1, 7, 0) (x0, x1, x2) w3).mono ?_
  rintro e w4 ⟨v, rfl, hO, hb4⟩
  obtain ⟨A, cap, rfl, -, -⟩ := hO.ops
  have R4 := Lib.hid (R3.out.all hb4)
  have B4 : Hid (Below w.heap.size w w4) := up B3.out hb4
  have O4 : Hid (OwnT w4 w.heap.size (.slice A 2 cap) [(1, 7, 0), (x0, x1, x2)]) := hO.lift B3.out.size
  have c4 := (hb4.block n (Array.getElem?_eq_some_iff.1 C3.out).1).trans C3.out
  have xx : w4.cell? ⟨n, 0, none⟩ = some (.int .i64 x0) ∧ w4.cell? ⟨n, 1, none⟩ = some (.int .i64 x1) ∧ w4.cell? ⟨n, 2, none⟩ = some (.int .i64 x2) := ⟨Lib.cell_of_heap c4 0, Lib.cell_of_heap c4 1, Lib.cell_of_heap c4 2⟩
  clear c4 C3
  clear hO hb4 R3 B3
  go_wp2
  refine ⟨xx, ?_⟩
  clear xx
  simp only [Mixed.wpMix, List.drop_succ_cons, List.drop_zero]
  go_wp2_with fail
  refine (rins_any ⟨#[65, 68, 67]⟩ A 2 cap w4).mono ?_
  rintro e w5 ⟨rfl, hb5⟩
  have R5 := Lib.hid (R4.out.all hb5)
  have B5 : Hid (Below w.heap.size w w5) := up B4.out hb5
  have O5 := Lib.hid (O4.out.below hb5)
  clear hb5 R4 B4 O4
  obtain ⟨z0, z1, z2, z3⟩ := R5.out.cells
  go_wp2
  obtain ⟨w6, hw6, q1, q2, q3⟩ := ri_put R5.out ⟨#[65, 68, 67]⟩ (.slice A 2 cap)
  rw [hw6]
  obtain ⟨p0, p1⟩ := q1.cells
  refine bodyPost_ret (v := .agg #[.string ⟨#[65, 68, 67]⟩, .slice A 2 cap]) ?_ rfl ?_
  · simp [results, Tryz.results58, go_sem, p0, p1]
  · exact ⟨_, rfl, own_put R5.out O5.out q3, B5.out.trans (q2.mono (by rw [HN.out]; omega))⟩
theorem ralu_2 (x0 x1 x2 : Int) (w : World) : Calls Tryz.prog 58 #[.int .i64 2, .agg #[.int .i64 x0, .int .i64 x1, .int .i64 x2]] w (RetJ w [83, 85, 66] [(x0, x1, x2)]) := by
  obtain ⟨w0, hw0, C0, R0, B0⟩ := alu_start w (x0, x1, x2)
  simp only at hw0 C0
  obtain ⟨n, hn⟩ : ∃ n, w.heap.size = n := ⟨_, rfl⟩
  rw [hn] at C0 R0
  have HN := Lib.hid hn
  have R0 := Lib.hid R0
  have B0 := Lib.hid B0
  have C0 := Lib.hid C0
  go_enter Tryz.func58, Tryz.ntmps58
  go_upto_region 2 with fail
  obtain ⟨w1, hw1⟩ : ∃ w1, w0.alloc (.cells #[.string ⟨#[65, 68, 68]⟩, .string ⟨#[65, 68, 67]⟩, .string ⟨#[83, 85, 66]⟩, .string ⟨#[83, 66, 67]⟩, .string ⟨#[65, 78, 68]⟩, .string ⟨#[88, 79, 82]⟩, .string ⟨#[79, 82]⟩, .string ⟨#[67, 80]⟩] 9) = w1 := ⟨_, rfl⟩
  have hal : Below w0.heap.size w0 w1 := by rw [← hw1]; exact up_alloc _ _
  have R1 := Lib.hid (R0.out.all hal)
  have B1 : Hid (Below w.heap.size w w1) := up B0.out hal
  have c1 := (hal.block n (Array.getElem?_eq_some_iff.1 C0.out).1).trans C0.out
  rw [hw1]
  clear hw1 hal R0 B0 C0 hw0 hn
  have k0 := Lib.cell_of_heap c1 0
  have k1 := Lib.cell_of_heap c1 1
  have k2 := Lib.cell_of_heap c1 2
  clear c1
  have R3 := R1
  have B3 := B1
  obtain ⟨w3, hw3⟩ : ∃ w3, w1 = w3 := ⟨_, rfl⟩
  rw [hw3] at R3 B3 k0 k1 k2 ⊢
  clear R1 B1 hw3
  go_wp2_with fail
  refine (rone_any (x0, x1, x2) w3).mono ?_
  rintro e w4 ⟨v, rfl, hO, hb4⟩
  obtain ⟨A, cap, rfl, -, -⟩ := hO.ops
  have R4 := Lib.hid (R3.out.all hb4)
  have B4 : Hid (Below w.heap.size w w4) := up B3.out hb4
  have O4 : Hid (OwnT w4 w.heap.size (.slice A 1 cap) [(x0, x1, x2)]) := hO.lift B3.out.size
  clear hO hb4 R3 B3
  go_wp2_with fail
  refine (rins_any ⟨#[83, 85, 66]⟩ A 1 cap w4).mono ?_
  rintro e w5 ⟨rfl, hb5⟩
  have R5 := Lib.hid (R4.out.all hb5)
  have B5 : Hid (Below w.heap.size w w5) := up B4.out hb5
  have O5 := Lib.hid (O4.out.below hb5)
  clear hb5 R4 B4 O4
  obtain ⟨z0, z1, z2, z3⟩ := R5.out.cells
  go_wp2
  obtain ⟨w6, hw6, q1, q2, q3⟩ := ri_put R5.out ⟨#[83, 85, 66]⟩ (.slice A 1 cap)
  rw [hw6]
  obtain ⟨p0, p1⟩ := q1.cells
  refine bodyPost_ret (v := .agg #[.string ⟨#[83, 85, 66]⟩, .slice A 1 cap]) ?_ rfl ?_
  · simp [results, Tryz.results58, go_sem, p0, p1]
  · exact ⟨_, rfl, own_put R5.out O5.out q3, B5.out.trans (q2.mono (by rw [HN.out]; omega))⟩
theorem ralu_3 (x0 x1 x2 : Int) (w : World) : Calls Tryz.prog 58 #[.int .i64 3, .agg #[.int .i64 x0, .int .i64 x1, .int .i64 x2]] w (RetJ w [83, 66, 67] [(1, 7, 0), (x0, x1, x2)]) := by
  obtain ⟨w0, hw0, C0, R0, B0⟩ := alu_start w (x0, x1, x2)
  simp only at hw0 C0
  obtain ⟨n, hn⟩ : ∃ n, w.heap.size = n := ⟨_, rfl⟩
  rw [hn] at C0 R0
  have HN := Lib.hid hn
  have R0 := Lib.hid R0
  have B0 := Lib.hid B0
  have C0 := Lib.hid C0
  go_enter Tryz.func58, Tryz.ntmps58
  go_upto_region 2 with fail
  obtain ⟨w1, hw1⟩ : ∃ w1, w0.alloc (.cells #[.string ⟨#[65, 68, 68]⟩, .string ⟨#[65, 68, 67]⟩, .string ⟨#[83, 85, 66]⟩, .string ⟨#[83, 66, 67]⟩, .string ⟨#[65, 78, 68]⟩, .string ⟨#[88, 79, 82]⟩, .string ⟨#[79, 82]⟩, .string ⟨#[67, 80]⟩] 9) = w1 := ⟨_, rfl⟩
  have hal : Below w0.heap.size w0 w1 := by rw [← hw1]; exact up_alloc _ _
  have R1 := Lib.hid (R0.out.all hal)
  have B1 : Hid (Below w.heap.size w w1) := up B0.out hal
  have c1 := (hal.block n (Array.getElem?_eq_some_iff.1 C0.out).1).trans C0.out
  rw [hw1]
  clear hw1 hal R0 B0 C0 hw0 hn
  have C1 := Lib.hid c1
  have k0 := Lib.cell_of_heap c1 0
  have k1 := Lib.cell_of_heap c1 1
  have k2 := Lib.cell_of_heap c1 2
  clear c1
  go_upto_region 3 with fail
  obtain ⟨w2, hw2⟩ : ∃ w2, w1.drew = w2 := ⟨_, rfl⟩
  have R2 : Hid (Rz w2 (n + 1)) := by rw [← hw2]; exact R1.out
  have B2 : Hid (Below w.heap.size w w2) := by rw [← hw2]; exact B1.out.drew
  have C2 : Hid (w2.heap[n]? = some (.cells #[.int .i64 x0, .int .i64 x1, .int .i64 x2] 69 (0, 0))) := by rw [← hw2]; exact C1.out
  have K2 : Hid (w2.cell? ⟨n, 0, none⟩ = some (.int .i64 x0) ∧ w2.cell? ⟨n, 1, none⟩ = some (.int .i64 x1) ∧ w2.cell? ⟨n, 2, none⟩ = some (.int .i64 x2)) := ⟨Lib.cell_of_heap C2.out 0, Lib.cell_of_heap C2.out 1, Lib.cell_of_heap C2.out 2⟩
  refine Mixed.wp_region_mixed (fun w' => w'.cell? ⟨n, 0, none⟩ = some (.int .i64 x0) ∧ w'.cell? ⟨n, 1, none⟩ = some (.int .i64 x1) ∧ w'.cell? ⟨n, 2, none⟩ = some (.int .i64 x2)) 4 [(0, true), (2, true), (1, false), (3, false)] (by kernel_rfl) (by kernel_rfl) (by rw [hw2]; exact K2.out) ?_
  rw [hw2]
  clear R1 B1 C1 hw2 k0 k1 k2 K2
  refine Mixed.wpMix_move rfl (by kernel_rfl) _ rfl (.string ⟨#[83, 66, 67]⟩) rfl ?_
  refine Mixed.wpMix_pure rfl (by kernel_rfl) (.agg #[.int .i64 x0, .int .i64 x1, .int .i64 x2]) (fun w h => by obtain ⟨h1, h2, h3⟩ := h; go_simp; try rfl) ?_
  refine Mixed.wpMix_loudG rfl (by kernel_rfl) ?_
  go_wp2_with fail
  refine (racc_any w2).mono ?_
  rintro e w3 ⟨rfl, hb3⟩
  have R3 := Lib.hid (R2.out.all hb3)
  have B3 : Hid (Below w.heap.size w w3) := up B2.out hb3
  have c3 := (hb3.block n (Array.getElem?_eq_some_iff.1 C2.out).1).trans C2.out
  have xx : w3.cell? ⟨n, 0, none⟩ = some (.int .i64 x0) ∧ w3.cell? ⟨n, 1, none⟩ = some (.int .i64 x1) ∧ w3.cell? ⟨n, 2, none⟩ = some (.int .i64 x2) := ⟨Lib.cell_of_heap c3 0, Lib.cell_of_heap c3 1, Lib.cell_of_heap c3 2⟩
  clear hb3 R2 B2 C2
  go_wp2
  refine ⟨xx, ?_⟩
  clear xx
  simp only [trV]
  have C3 := Lib.hid c3
  clear c3
  refine Mixed.wpMix_loudG rfl (by kernel_rfl) ?_
  go_wp2_with fail
  refine (rtwo_any (1, 7, 0) (x0, x1, x2) w3).mono ?_
  rintro e w4 ⟨v, rfl, hO, hb4⟩
  obtain ⟨A, cap, rfl, -, -⟩ := hO.ops
  have R4 := Lib.hid (R3.out.all hb4)
  have B4 : Hid (Below w.heap.size w w4) := up B3.out hb4
  have O4 : Hid (OwnT w4 w.heap.size (.slice A 2 cap) [(1, 7, 0), (x0, x1, x2)]) := hO.lift B3.out.size
  have c4 := (hb4.block n (Array.getElem?_eq_some_iff.1 C3.out).1).trans C3.out
  have xx : w4.cell? ⟨n, 0, none⟩ = some (.int .i64 x0) ∧ w4.cell? ⟨n, 1, none⟩ = some (.int .i64 x1) ∧ w4.cell? ⟨n, 2, none⟩ = some (.int .i64 x2) := ⟨Lib.cell_of_heap c4 0, Lib.cell_of_heap c4 1, Lib.cell_of_heap c4 2⟩
  clear c4 C3
  clear hO hb4 R3 B3
  go_wp2
  refine ⟨xx, ?_⟩
  clear xx
  simp only [Mixed.wpMix, List.drop_succ_cons, List.drop_zero]
  go_wp2_with fail
  refine (rins_any ⟨#[83, 66, 67]⟩ A 2 cap w4).mono ?_
  rintro e w5 ⟨rfl, hb5⟩
  have R5 := Lib.hid (R4.out.all hb5)
  have B5 : Hid (Below w.heap.size w w5) := up B4.out hb5
  have O5 := Lib.hid (O4.out.below hb5)
  clear hb5 R4 B4 O4
  obtain ⟨z0, z1, z2, z3⟩ := R5.out.cells
  go_wp2
  obtain ⟨w6, hw6, q1, q2, q3⟩ := ri_put R5.out ⟨#[83, 66, 67]⟩ (.slice A 2 cap)
  rw [hw6]
  obtain ⟨p0, p1⟩ := q1.cells
  refine bodyPost_ret (v := .agg #[.string ⟨#[83, 66, 67]⟩, .slice A 2 cap]) ?_ rfl ?_
  · simp [results, Tryz.results58, go_sem, p0, p1]
  · exact ⟨_, rfl, own_put R5.out O5.out q3, B5.out.trans (q2.mono (by rw [HN.out]; omega))⟩
theorem ralu_4 (x0 x1 x2 : Int) (w : World) : Calls Tryz.prog 58 #[.int .i64 4, .agg #[.int .i64 x0, .int .i64 x1, .int .i64 x2]] w (RetJ w [65, 78, 68] [(x0, x1, x2)]) := by
  obtain ⟨w0, hw0, C0, R0, B0⟩ := alu_start w (x0, x1, x2)
  simp only at hw0 C0
  obtain ⟨n, hn⟩ : ∃ n, w.heap.size = n := ⟨_, rfl⟩
  rw [hn] at C0 R0
  have HN := Lib.hid hn
  have R0 := Lib.hid R0
  have B0 := Lib.hid B0
  have C0 := Lib.hid C0
  go_enter Tryz.func58, Tryz.ntmps58
  go_upto_region 2 with fail
  obtain ⟨w1, hw1⟩ : ∃ w1, w0.alloc (.cells #[.string ⟨#[65, 68, 68]⟩, .string ⟨#[65, 68, 67]⟩, .string ⟨#[83, 85, 66]⟩, .string ⟨#[83, 66, 67]⟩, .string ⟨#[65, 78, 68]⟩, .string ⟨#[88, 79, 82]⟩, .string ⟨#[79, 82]⟩, .string ⟨#[67, 80]⟩] 9) = w1 := ⟨_, rfl⟩
  have hal : Below w0.heap.size w0 w1 := by rw [← hw1]; exact up_alloc _ _
  have R1 := Lib.hid (R0.out.all hal)
  have B1 : Hid (Below w.heap.size w w1) := up B0.out hal
  have c1 := (hal.block n (Array.getElem?_eq_some_iff.1 C0.out).1).trans C0.out
  rw [hw1]
  clear hw1 hal R0 B0 C0 hw0 hn
  have k0 := Lib.cell_of_heap c1 0
  have k1 := Lib.cell_of_heap c1 1
  have k2 := Lib.cell_of_heap c1 2
  clear c1
  have R3 := R1
  have B3 := B1
  obtain ⟨w3, hw3⟩ : ∃ w3, w1 = w3 := ⟨_, rfl⟩
  rw [hw3] at R3 B3 k0 k1 k2 ⊢
  clear R1 B1 hw3
  go_wp2_with fail
  refine (rone_any (x0, x1, x2) w3).mono ?_
  rintro e w4 ⟨v, rfl, hO, hb4⟩
  obtain ⟨A, cap, rfl, -, -⟩ := hO.ops
  have R4 := Lib.hid (R3.out.all hb4)
  have B4 : Hid (Below w.heap.size w w4) := up B3.out hb4
  have O4 : Hid (OwnT w4 w.heap.size (.slice A 1 cap) [(x0, x1, x2)]) := hO.lift B3.out.size
  clear hO hb4 R3 B3
  go_wp2_with fail
  refine (rins_any ⟨#[65, 78, 68]⟩ A 1 cap w4).mono ?_
  rintro e w5 ⟨rfl, hb5⟩
  have R5 := Lib.hid (R4.out.all hb5)
  have B5 : Hid (Below w.heap.size w w5) := up B4.out hb5
  have O5 := Lib.hid (O4.out.below hb5)
  clear hb5 R4 B4 O4
  obtain ⟨z0, z1, z2, z3⟩ := R5.out.cells
  go_wp2
  obtain ⟨w6, hw6, q1, q2, q3⟩ := ri_put R5.out ⟨#[65, 78, 68]⟩ (.slice A 1 cap)
  rw [hw6]
  obtain ⟨p0, p1⟩ := q1.cells
  refine bodyPost_ret (v := .agg #[.string ⟨#[65, 78, 68]⟩, .slice A 1 cap]) ?_ rfl ?_
  · simp [results, Tryz.results58, go_sem, p0, p1]
  · exact ⟨_, rfl, own_put R5.out O5.out q3, B5.out.trans (q2.mono (by rw [HN.out]; omega))⟩
theorem ralu_5 (x0 x1 x2 : Int) (w : World) : Calls Tryz.prog 58 #[.int .i64 5, .agg #[.int .i64 x0, .int .i64 x1, .int .i64 x2]] w (RetJ w [88, 79, 82] [(x0, x1, x2)]) := by
  obtain ⟨w0, hw0, C0, R0, B0⟩ := alu_start w (x0, x1, x2)
  simp only at hw0 C0
  obtain ⟨n, hn⟩ : ∃ n, w.heap.size = n := ⟨_, rfl⟩
  rw [hn] at C0 R0
  have HN := Lib.hid hn
  have R0 := Lib.hid R0
  have B0 := Lib.hid B0
  have C0 := Lib.hid C0
  go_enter Tryz.func58, Tryz.ntmps58
  go_upto_region 2 with fail
  obtain ⟨w1, hw1⟩ : ∃ w1, w0.alloc (.cells #[.string ⟨#[65, 68, 68]⟩, .string ⟨#[65, 68, 67]⟩, .string ⟨#[83, 85, 66]⟩, .string ⟨#[83, 66, 67]⟩, .string ⟨#[65, 78, 68]⟩, .string ⟨#[88, 79, 82]⟩, .string ⟨#[79, 82]⟩, .string ⟨#[67, 80]⟩] 9) = w1 := ⟨_, rfl⟩
  have hal : Below w0.heap.size w0 w1 := by rw [← hw1]; exact up_alloc _ _
  have R1 := Lib.hid (R0.out.all hal)
  have B1 : Hid (Below w.heap.size w w1) := up B0.out hal
  have c1 := (hal.block n (Array.getElem?_eq_some_iff.1 C0.out).1).trans C0.out
  rw [hw1]
  clear hw1 hal R0 B0 C0 hw0 hn
  have k0 := Lib.cell_of_heap c1 0
  have k1 := Lib.cell_of_heap c1 1
  have k2 := Lib.cell_of_heap c1 2
  clear c1
  have R3 := R1
  have B3 := B1
  obtain ⟨w3, hw3⟩ : ∃ w3, w1 = w3 := ⟨_, rfl⟩
  rw [hw3] at R3 B3 k0 k1 k2 ⊢
  clear R1 B1 hw3
  go_wp2_with fail
  refine (rone_any (x0, x1, x2) w3).mono ?_
  rintro e w4 ⟨v, rfl, hO, hb4⟩
  obtain ⟨A, cap, rfl, -, -⟩ := hO.ops
  have R4 := Lib.hid (R3.out.all hb4)
  have B4 : Hid (Below w.heap.size w w4) := up B3.out hb4
  have O4 : Hid (OwnT w4 w.heap.size (.slice A 1 cap) [(x0, x1, x2)]) := hO.lift B3.out.size
  clear hO hb4 R3 B3
  go_wp2_with fail
  refine (rins_any ⟨#[88, 79, 82]⟩ A 1 cap w4).mono ?_
  rintro e w5 ⟨rfl, hb5⟩
  have R5 := Lib.hid (R4.out.all hb5)
  have B5 : Hid (Below w.heap.size w w5) := up B4.out hb5
  have O5 := Lib.hid (O4.out.below hb5)
  clear hb5 R4 B4 O4
  obtain ⟨z0, z1, z2, z3⟩ := R5.out.cells
  go_wp2
  obtain ⟨w6, hw6, q1, q2, q3⟩ := ri_put R5.out ⟨#[88, 79, 82]⟩ (.slice A 1 cap)
  rw [hw6]
  obtain ⟨p0, p1⟩ := q1.cells
  refine bodyPost_ret (v := .agg #[.string ⟨#[88, 79, 82]⟩, .slice A 1 cap]) ?_ rfl ?_
  · simp [results, Tryz.results58, go_sem, p0, p1]
  · exact ⟨_, rfl, own_put R5.out O5.out q3, B5.out.trans (q2.mono (by rw [HN.out]; omega))⟩
theorem ralu_6 (x0 x1 x2 : Int) (w : World) : Calls Tryz.prog 58 #[.int .i64 6, .agg #[.int .i64 x0, .int .i64 x1, .int .i64 x2]] w (RetJ w [79, 82] [(x0, x1, x2)]) := by
  obtain ⟨w0, hw0, C0, R0, B0⟩ := alu_start w (x0, x1, x2)
  simp only at hw0 C0
  obtain ⟨n, hn⟩ : ∃ n, w.heap.size = n := ⟨_, rfl⟩
  rw [hn] at C0 R0
  have HN := Lib.hid hn
  have R0 := Lib.hid R0
  have B0 := Lib.hid B0
  have C0 := Lib.hid C0
  go_enter Tryz.func58, Tryz.ntmps58
  go_upto_region 2 with fail
  obtain ⟨w1, hw1⟩ : ∃ w1, w0.alloc (.cells #[.string ⟨#[65, 68, 68]⟩, .string ⟨#[65, 68, 67]⟩, .string ⟨#[83, 85, 66]⟩, .string ⟨#[83, 66, 67]⟩, .string ⟨#[65, 78, 68]⟩, .string ⟨#[88, 79, 82]⟩, .string ⟨#[79, 82]⟩, .string ⟨#[67, 80]⟩] 9) = w1 := ⟨_, rfl⟩
  have hal : Below w0.heap.size w0 w1 := by rw [← hw1]; exact up_alloc _ _
  have R1 := Lib.hid (R0.out.all hal)
  have B1 : Hid (Below w.heap.size w w1) := up B0.out hal
  have c1 := (hal.block n (Array.getElem?_eq_some_iff.1 C0.out).1).trans C0.out
  rw [hw1]
  clear hw1 hal R0 B0 C0 hw0 hn
  have k0 := Lib.cell_of_heap c1 0
  have k1 := Lib.cell_of_heap c1 1
  have k2 := Lib.cell_of_heap c1 2
  clear c1
  have R3 := R1
  have B3 := B1
  obtain ⟨w3, hw3⟩ : ∃ w3, w1 = w3 := ⟨_, rfl⟩
  rw [hw3] at R3 B3 k0 k1 k2 ⊢
  clear R1 B1 hw3
  go_wp2_with fail
  refine (rone_any (x0, x1, x2) w3).mono ?_
  rintro e w4 ⟨v, rfl, hO, hb4⟩
  obtain ⟨A, cap, rfl, -, -⟩ := hO.ops
  have R4 := Lib.hid (R3.out.all hb4)
  have B4 : Hid (Below w.heap.size w w4) := up B3.out hb4
  have O4 : Hid (OwnT w4 w.heap.size (.slice A 1 cap) [(x0, x1, x2)]) := hO.lift B3.out.size
  clear hO hb4 R3 B3
  go_wp2_with fail
  refine (rins_any ⟨#[79, 82]⟩ A 1 cap w4).mono ?_
  rintro e w5 ⟨rfl, hb5⟩
  have R5 := Lib.hid (R4.out.all hb5)
  have B5 : Hid (Below w.heap.size w w5) := up B4.out hb5
  have O5 := Lib.hid (O4.out.below hb5)
  clear hb5 R4 B4 O4
  obtain ⟨z0, z1, z2, z3⟩ := R5.out.cells
  go_wp2
  obtain ⟨w6, hw6, q1, q2, q3⟩ := ri_put R5.out ⟨#[79, 82]⟩ (.slice A 1 cap)
  rw [hw6]
  obtain ⟨p0, p1⟩ := q1.cells
  refine bodyPost_ret (v := .agg #[.string ⟨#[79, 82]⟩, .slice A 1 cap]) ?_ rfl ?_
  · simp [results, Tryz.results58, go_sem, p0, p1]
  · exact ⟨_, rfl, own_put R5.out O5.out q3, B5.out.trans (q2.mono (by rw [HN.out]; omega))⟩
theorem ralu_7 (x0 x1 x2 : Int) (w : World) : Calls Tryz.prog 58 #[.int .i64 7, .agg #[.int .i64 x0, .int .i64 x1, .int .i64 x2]] w (RetJ w [67, 80] [(x0, x1, x2)]) := by
  obtain ⟨w0, hw0, C0, R0, B0⟩ := alu_start w (x0, x1, x2)
  simp only at hw0 C0
  obtain ⟨n, hn⟩ : ∃ n, w.heap.size = n := ⟨_, rfl⟩
  rw [hn] at C0 R0
  have HN := Lib.hid hn
  have R0 := Lib.hid R0
  have B0 := Lib.hid B0
  have C0 := Lib.hid C0
  go_enter Tryz.func58, Tryz.ntmps58
  go_upto_region 2 with fail
  obtain ⟨w1, hw1⟩ : ∃ w1, w0.alloc (.cells #[.string ⟨#[65, 68, 68]⟩, .string ⟨#[65, 68, 67]⟩, .string ⟨#[83, 85, 66]⟩, .string ⟨#[83, 66, 67]⟩, .string ⟨#[65, 78, 68]⟩, .string ⟨#[88, 79, 82]⟩, .string ⟨#[79, 82]⟩, .string ⟨#[67, 80]⟩] 9) = w1 := ⟨_, rfl⟩
  have hal : Below w0.heap.size w0 w1 := by rw [← hw1]; exact up_alloc _ _
  have R1 := Lib.hid (R0.out.all hal)
  have B1 : Hid (Below w.heap.size w w1) := up B0.out hal
  have c1 := (hal.block n (Array.getElem?_eq_some_iff.1 C0.out).1).trans C0.out
  rw [hw1]
  clear hw1 hal R0 B0 C0 hw0 hn
  have k0 := Lib.cell_of_heap c1 0
  have k1 := Lib.cell_of_heap c1 1
  have k2 := Lib.cell_of_heap c1 2
  clear c1
  have R3 := R1
  have B3 := B1
  obtain ⟨w3, hw3⟩ : ∃ w3, w1 = w3 := ⟨_, rfl⟩
  rw [hw3] at R3 B3 k0 k1 k2 ⊢
  clear R1 B1 hw3
  go_wp2_with fail
  refine (rone_any (x0, x1, x2) w3).mono ?_
  rintro e w4 ⟨v, rfl, hO, hb4⟩
  obtain ⟨A, cap, rfl, -, -⟩ := hO.ops
  have R4 := Lib.hid (R3.out.all hb4)
  have B4 : Hid (Below w.heap.size w w4) := up B3.out hb4
  have O4 : Hid (OwnT w4 w.heap.size (.slice A 1 cap) [(x0, x1, x2)]) := hO.lift B3.out.size
  clear hO hb4 R3 B3
  go_wp2_with fail
  refine (rins_any ⟨#[67, 80]⟩ A 1 cap w4).mono ?_
  rintro e w5 ⟨rfl, hb5⟩
  have R5 := Lib.hid (R4.out.all hb5)
  have B5 : Hid (Below w.heap.size w w5) := up B4.out hb5
  have O5 := Lib.hid (O4.out.below hb5)
  clear hb5 R4 B4 O4
  obtain ⟨z0, z1, z2, z3⟩ := R5.out.cells
  go_wp2
  obtain ⟨w6, hw6, q1, q2, q3⟩ := ri_put R5.out ⟨#[67, 80]⟩ (.slice A 1 cap)
  rw [hw6]
  obtain ⟨p0, p1⟩ := q1.cells
  refine bodyPost_ret (v := .agg #[.string ⟨#[67, 80]⟩, .slice A 1 cap]) ?_ rfl ?_
  · simp [results, Tryz.results58, go_sem, p0, p1]
  · exact ⟨_, rfl, own_put R5.out O5.out q3, B5.out.trans (q2.mono (by rw [HN.out]; omega))⟩
end Go.Proofs.YtipgecdfnbldnaaGreatDoor
/-
  The reference's alu as one table.
-/
namespace Go.Proofs.YtipgecdfnbldnaaGreatDoor
open Go.RowKit Go.Shelf
attribute [local irreducible] Go.Mixed.wpMix
def aluN (y : Nat) (x : Tr) : Str × List Tr := ([([65, 68, 68], [(1, 7, 0), x]), ([65, 68, 67], [(1, 7, 0), x]), ([83, 85, 66], [x]), ([83, 66, 67], [(1, 7, 0), x]), ([65, 78, 68], [x]), ([88, 79, 82], [x]), ([79, 82], [x]), ([67, 80], [x])] : List (Str × List Tr)).getD y ([], [])
theorem alu_any (y : Nat) (hy : y < 8) (x : Tr) (w : World) : Calls Tryz.prog 58 #[.int .i64 y, trV x] w (RetJ w (aluN y x).1 (aluN y x).2) := by
  obtain ⟨x0, x1, x2⟩ := x
  rcases (by omega : y = 0 ∨ y = 1 ∨ y = 2 ∨ y = 3 ∨ y = 4 ∨ y = 5 ∨ y = 6 ∨ y = 7) with rfl | rfl | rfl | rfl | rfl | rfl | rfl | rfl
  · exact ralu_0 x0 x1 x2 w
  · exact ralu_1 x0 x1 x2 w
  · exact ralu_2 x0 x1 x2 w
  · exact ralu_3 x0 x1 x2 w
  · exact ralu_4 x0 x1 x2 w
  · exact ralu_5 x0 x1 x2 w
  · exact ralu_6 x0 x1 x2 w
  · exact ralu_7 x0 x1 x2 w
end Go.Proofs.YtipgecdfnbldnaaGreatDoor
