/-
  The reference's instructions of x = 0.
-/
import Derived.Test.YtipgecdfnbldnaaGreatDoorReA
set_option linter.all false
set_option maxRecDepth 100000
set_option maxHeartbeats 4000000
namespace Go.Proofs.YtipgecdfnbldnaaGreatDoor
open Go.RowKit Go.Shelf
attribute [local irreducible] Go.Mixed.wpMix
def OpV (w : World) (b : Nat) (x : Tr) : Prop := w.heap[b]? = some (.cells #[.int .i64 x.1, .int .i64 x.2.1, .int .i64 x.2.2] 69 (0, 0))
theorem OpV.all {w w' : World} {b : Nat} {x : Tr} (h : OpV w b x) (hb : Below w.heap.size w w') : OpV w' b x := (hb.block b (Array.getElem?_eq_some_iff.1 h).1).trans h
theorem OpV.cells {w : World} {b : Nat} {x : Tr} (h : OpV w b x) : w.cell? ⟨b, 0, none⟩ = some (.int .i64 x.1) ∧ w.cell? ⟨b, 1, none⟩ = some (.int .i64 x.2.1) ∧ w.cell? ⟨b, 2, none⟩ = some (.int .i64 x.2.2) ∧ ∀ j, w.frozen? ⟨b, j, none⟩ = false :=
  ⟨Lib.cell_of_heap h 0, Lib.cell_of_heap h 1, Lib.cell_of_heap h 2, Lib.frozen_of_heap h⟩
theorem opv_new (w : World) (a b c : Int) : OpV (w.alloc (.cells #[.int .i64 a, .int .i64 b, .int .i64 c] 69)) w.heap.size (a, b, c) := World.alloc_heap_new w _
theorem ri_start (w : World) : ∃ w0, w.alloc (.cells #[.string ⟨#[]⟩, .slice none 0 0] 25) = w0 ∧ Rz w0 w.heap.size ∧ Below w.heap.size w w0 :=
  ⟨_, rfl, World.alloc_heap_new w _, up_alloc _ _⟩
theorem low_0_0 (w : World) : Calls Tryz.prog 55 #[.int .i64 0, .int .i64 0] w (RetI w [78, 79, 80] [] []) := by
  obtain ⟨w0, hw0, rz0, bl0⟩ := ri_start w
  obtain ⟨n, hn⟩ : ∃ n, w.heap.size = n := ⟨_, rfl⟩
  have Rw0 : Hid (Rz w0 n) := by rw [← hn]; exact rz0
  have Uw0 : Hid (Below w.heap.size w w0) := bl0
  have HN := Lib.hid hn
  clear rz0 bl0
  go_enter Tryz.func55, Tryz.ntmps55
  obtain ⟨⟨p0, p1, p2⟩, hp⟩ : ∃ x : Tr, rpT (0) 3 = x := ⟨_, rfl⟩
  have HP := Lib.hid hp
  have hrp := rrp_any (0) 3 w0
  rw [hp] at hrp
  clear hp
  go_wp2_with fail
  refine hrp.mono ?_
  rintro e w1 ⟨rfl, hb1⟩
  have Rw1 := Lib.hid (Rw0.out.all hb1)
  have Uw1 : Hid (Below w.heap.size w w1) := up Uw0.out hb1
  clear Rw0 Uw0 hb1
  clear hrp hw0
  simp only [trV]
  go_upto_region 2 with fail
  obtain ⟨bP, hbP⟩ : ∃ b, w1.heap.size = b := ⟨_, rfl⟩
  obtain ⟨w2, hw2⟩ : ∃ v, w1.alloc (.cells #[.int .i64 p0, .int .i64 p1, .int .i64 p2] 69) = v := ⟨_, rfl⟩
  have hb2 : Below w1.heap.size w1 w2 := by rw [← hw2]; exact up_alloc _ _
  have Pw2 : Hid (OpV w2 bP (p0, p1, p2)) := by rw [← hw2, ← hbP]; exact opv_new _ _ _ _
  rw [hw2, hbP]
  clear hw2
  have Rw2 := Lib.hid (Rw1.out.all hb2)
  have Uw2 : Hid (Below w.heap.size w w2) := up Uw1.out hb2
  clear Rw1 Uw1 hb2
  go_wp2_with fail
  refine (rrp_any 2 3 w2).mono ?_
  rintro e w3 ⟨rfl, hb3⟩
  have Rw3 := Lib.hid (Rw2.out.all hb3)
  have Uw3 : Hid (Below w.heap.size w w3) := up Uw2.out hb3
  have Pw3 := Lib.hid (Pw2.out.all hb3)
  clear Rw2 Uw2 Pw2 hb3
  simp only [trV]
  simp only [rpT, show ¬ ((2 : Int) = 3) by decide, if_false]
  go_upto_region 4 with fail
  obtain ⟨bH, hbH⟩ : ∃ b, w3.heap.size = b := ⟨_, rfl⟩
  obtain ⟨w4, hw4⟩ : ∃ v, w3.alloc (.cells #[.int .i64 3, .int .i64 2, .int .i64 0] 69) = v := ⟨_, rfl⟩
  have hb4 : Below w3.heap.size w3 w4 := by rw [← hw4]; exact up_alloc _ _
  have Hw4 : Hid (OpV w4 bH (3, 2, 0)) := by rw [← hw4, ← hbH]; exact opv_new _ _ _ _
  rw [hw4, hbH]
  clear hw4
  have Rw4 := Lib.hid (Rw3.out.all hb4)
  have Uw4 : Hid (Below w.heap.size w w4) := up Uw3.out hb4
  have Pw4 := Lib.hid (Pw3.out.all hb4)
  clear Rw3 Uw3 Pw3 hb4
  go_wp2_with fail
  refine (rins_any ⟨#[78, 79, 80]⟩ none 0 0 w4).mono ?_
  rintro e w5 ⟨rfl, hb5⟩
  have Rw5 := Lib.hid (Rw4.out.all hb5)
  have Uw5 : Hid (Below w.heap.size w w5) := up Uw4.out hb5
  have Pw5 := Lib.hid (Pw4.out.all hb5)
  have Hw5 := Lib.hid (Hw4.out.all hb5)
  clear Rw4 Uw4 Pw4 Hw4 hb5
  obtain ⟨z0, z1, z2, z3⟩ := Rw5.out.cells
  go_wp2
  obtain ⟨wz, hwz, q1, q2, q3⟩ := ri_put Rw5.out ⟨#[78, 79, 80]⟩ (.slice none 0 0)
  rw [hwz]
  obtain ⟨s0, s1⟩ := q1.cells
  refine bodyPost_ret (v := .tuple #[.agg #[.string ⟨#[78, 79, 80]⟩, (.slice none 0 0)], .string ⟨#[]⟩]) ?_ rfl ?_
  · simp [results, Tryz.results55, go_sem, s0, s1]
  · exact ⟨_, rfl, World.ownsRow_nil _ _ _ _, Uw5.out.trans (q2.mono (by rw [HN.out]; omega))⟩
theorem low_0_1 (w : World) : Calls Tryz.prog 55 #[.int .i64 1, .int .i64 0] w (RetI w [69, 88] [(3, 4, 0), (3, 7, 0)] []) := by
  obtain ⟨w0, hw0, rz0, bl0⟩ := ri_start w
  obtain ⟨n, hn⟩ : ∃ n, w.heap.size = n := ⟨_, rfl⟩
  have Rw0 : Hid (Rz w0 n) := by rw [← hn]; exact rz0
  have Uw0 : Hid (Below w.heap.size w w0) := bl0
  have HN := Lib.hid hn
  clear rz0 bl0
  go_enter Tryz.func55, Tryz.ntmps55
  obtain ⟨⟨p0, p1, p2⟩, hp⟩ : ∃ x : Tr, rpT (0) 3 = x := ⟨_, rfl⟩
  have HP := Lib.hid hp
  have hrp := rrp_any (0) 3 w0
  rw [hp] at hrp
  clear hp
  go_wp2_with fail
  refine hrp.mono ?_
  rintro e w1 ⟨rfl, hb1⟩
  have Rw1 := Lib.hid (Rw0.out.all hb1)
  have Uw1 : Hid (Below w.heap.size w w1) := up Uw0.out hb1
  clear Rw0 Uw0 hb1
  clear hrp hw0
  simp only [trV]
  go_upto_region 2 with fail
  obtain ⟨bP, hbP⟩ : ∃ b, w1.heap.size = b := ⟨_, rfl⟩
  obtain ⟨w2, hw2⟩ : ∃ v, w1.alloc (.cells #[.int .i64 p0, .int .i64 p1, .int .i64 p2] 69) = v := ⟨_, rfl⟩
  have hb2 : Below w1.heap.size w1 w2 := by rw [← hw2]; exact up_alloc _ _
  have Pw2 : Hid (OpV w2 bP (p0, p1, p2)) := by rw [← hw2, ← hbP]; exact opv_new _ _ _ _
  rw [hw2, hbP]
  clear hw2
  have Rw2 := Lib.hid (Rw1.out.all hb2)
  have Uw2 : Hid (Below w.heap.size w w2) := up Uw1.out hb2
  clear Rw1 Uw1 hb2
  go_wp2_with fail
  refine (rrp_any 2 3 w2).mono ?_
  rintro e w3 ⟨rfl, hb3⟩
  have Rw3 := Lib.hid (Rw2.out.all hb3)
  have Uw3 : Hid (Below w.heap.size w w3) := up Uw2.out hb3
  have Pw3 := Lib.hid (Pw2.out.all hb3)
  clear Rw2 Uw2 Pw2 hb3
  simp only [trV]
  simp only [rpT, show ¬ ((2 : Int) = 3) by decide, if_false]
  go_upto_region 4 with fail
  obtain ⟨bH, hbH⟩ : ∃ b, w3.heap.size = b := ⟨_, rfl⟩
  obtain ⟨w4, hw4⟩ : ∃ v, w3.alloc (.cells #[.int .i64 3, .int .i64 2, .int .i64 0] 69) = v := ⟨_, rfl⟩
  have hb4 : Below w3.heap.size w3 w4 := by rw [← hw4]; exact up_alloc _ _
  have Hw4 : Hid (OpV w4 bH (3, 2, 0)) := by rw [← hw4, ← hbH]; exact opv_new _ _ _ _
  rw [hw4, hbH]
  clear hw4
  have Rw4 := Lib.hid (Rw3.out.all hb4)
  have Uw4 : Hid (Below w.heap.size w w4) := up Uw3.out hb4
  have Pw4 := Lib.hid (Pw3.out.all hb4)
  clear Rw3 Uw3 Pw3 hb4
  go_wp2_with fail
  refine (rrp_any 3 4 w4).mono ?_
  rintro e w5 ⟨rfl, hb5⟩
  have Rw5 := Lib.hid (Rw4.out.all hb5)
  have Uw5 : Hid (Below w.heap.size w w5) := up Uw4.out hb5
  have Pw5 := Lib.hid (Pw4.out.all hb5)
  have Hw5 := Lib.hid (Hw4.out.all hb5)
  clear Rw4 Uw4 Pw4 Hw4 hb5
  rw [show rpT 3 4 = (3, 4, 0) from by decide]
  simp only [trV]
  go_wp2_with fail
  refine (rrp_any 3 7 w5).mono ?_
  rintro e w6 ⟨rfl, hb6⟩
  have Rw6 := Lib.hid (Rw5.out.all hb6)
  have Uw6 : Hid (Below w.heap.size w w6) := up Uw5.out hb6
  have Pw6 := Lib.hid (Pw5.out.all hb6)
  have Hw6 := Lib.hid (Hw5.out.all hb6)
  clear Rw5 Uw5 Pw5 Hw5 hb6
  rw [show rpT 3 7 = (3, 7, 0) from by decide]
  simp only [trV]
  go_wp2_with fail
  refine (rtwo_any (3, 4, 0) (3, 7, 0) w6).mono ?_
  rintro e w7 ⟨v, rfl, hO, hb7⟩
  obtain ⟨A, cap, rfl, -, -⟩ := hO.ops
  have Ow7 : Hid (OwnT w7 w.heap.size (.slice A 2 cap) [(3, 4, 0), (3, 7, 0)]) := hO.lift Uw6.out.size
  clear hO
  have Rw7 := Lib.hid (Rw6.out.all hb7)
  have Uw7 : Hid (Below w.heap.size w w7) := up Uw6.out hb7
  have Pw7 := Lib.hid (Pw6.out.all hb7)
  have Hw7 := Lib.hid (Hw6.out.all hb7)
  clear Rw6 Uw6 Pw6 Hw6 hb7
  go_wp2_with fail
  refine (rins_any ⟨#[69, 88]⟩ A 2 cap w7).mono ?_
  rintro e w8 ⟨rfl, hb8⟩
  have Rw8 := Lib.hid (Rw7.out.all hb8)
  have Uw8 : Hid (Below w.heap.size w w8) := up Uw7.out hb8
  have Pw8 := Lib.hid (Pw7.out.all hb8)
  have Hw8 := Lib.hid (Hw7.out.all hb8)
  have Ow8 := Lib.hid (Ow7.out.below hb8)
  clear Rw7 Uw7 Pw7 Hw7 Ow7 hb8
  obtain ⟨z0, z1, z2, z3⟩ := Rw8.out.cells
  go_wp2
  obtain ⟨wz, hwz, q1, q2, q3⟩ := ri_put Rw8.out ⟨#[69, 88]⟩ (.slice A 2 cap)
  rw [hwz]
  obtain ⟨s0, s1⟩ := q1.cells
  refine bodyPost_ret (v := .tuple #[.agg #[.string ⟨#[69, 88]⟩, (.slice A 2 cap)], .string ⟨#[]⟩]) ?_ rfl ?_
  · simp [results, Tryz.results55, go_sem, s0, s1]
  · exact ⟨_, rfl, own_put Rw8.out Ow8.out q3, Uw8.out.trans (q2.mono (by rw [HN.out]; omega))⟩
theorem low_0_2 (w : World) : Calls Tryz.prog 55 #[.int .i64 2, .int .i64 0] w (RetI w [68, 74, 78, 90] [(10, 0, 0)] [101]) := by
  obtain ⟨w0, hw0, rz0, bl0⟩ := ri_start w
  obtain ⟨n, hn⟩ : ∃ n, w.heap.size = n := ⟨_, rfl⟩
  have Rw0 : Hid (Rz w0 n) := by rw [← hn]; exact rz0
  have Uw0 : Hid (Below w.heap.size w w0) := bl0
  have HN := Lib.hid hn
  clear rz0 bl0
  go_enter Tryz.func55, Tryz.ntmps55
  obtain ⟨⟨p0, p1, p2⟩, hp⟩ : ∃ x : Tr, rpT (1) 3 = x := ⟨_, rfl⟩
  have HP := Lib.hid hp
  have hrp := rrp_any (1) 3 w0
  rw [hp] at hrp
  clear hp
  go_wp2_with fail
  refine hrp.mono ?_
  rintro e w1 ⟨rfl, hb1⟩
  have Rw1 := Lib.hid (Rw0.out.all hb1)
  have Uw1 : Hid (Below w.heap.size w w1) := up Uw0.out hb1
  clear Rw0 Uw0 hb1
  clear hrp hw0
  simp only [trV]
  go_upto_region 2 with fail
  obtain ⟨bP, hbP⟩ : ∃ b, w1.heap.size = b := ⟨_, rfl⟩
  obtain ⟨w2, hw2⟩ : ∃ v, w1.alloc (.cells #[.int .i64 p0, .int .i64 p1, .int .i64 p2] 69) = v := ⟨_, rfl⟩
  have hb2 : Below w1.heap.size w1 w2 := by rw [← hw2]; exact up_alloc _ _
  have Pw2 : Hid (OpV w2 bP (p0, p1, p2)) := by rw [← hw2, ← hbP]; exact opv_new _ _ _ _
  rw [hw2, hbP]
  clear hw2
  have Rw2 := Lib.hid (Rw1.out.all hb2)
  have Uw2 : Hid (Below w.heap.size w w2) := up Uw1.out hb2
  clear Rw1 Uw1 hb2
  go_wp2_with fail
  refine (rrp_any 2 3 w2).mono ?_
  rintro e w3 ⟨rfl, hb3⟩
  have Rw3 := Lib.hid (Rw2.out.all hb3)
  have Uw3 : Hid (Below w.heap.size w w3) := up Uw2.out hb3
  have Pw3 := Lib.hid (Pw2.out.all hb3)
  clear Rw2 Uw2 Pw2 hb3
  simp only [trV]
  simp only [rpT, show ¬ ((2 : Int) = 3) by decide, if_false]
  go_upto_region 4 with fail
  obtain ⟨bH, hbH⟩ : ∃ b, w3.heap.size = b := ⟨_, rfl⟩
  obtain ⟨w4, hw4⟩ : ∃ v, w3.alloc (.cells #[.int .i64 3, .int .i64 2, .int .i64 0] 69) = v := ⟨_, rfl⟩
  have hb4 : Below w3.heap.size w3 w4 := by rw [← hw4]; exact up_alloc _ _
  have Hw4 : Hid (OpV w4 bH (3, 2, 0)) := by rw [← hw4, ← hbH]; exact opv_new _ _ _ _
  rw [hw4, hbH]
  clear hw4
  have Rw4 := Lib.hid (Rw3.out.all hb4)
  have Uw4 : Hid (Below w.heap.size w w4) := up Uw3.out hb4
  have Pw4 := Lib.hid (Pw3.out.all hb4)
  clear Rw3 Uw3 Pw3 hb4
  go_wp2_with fail
  refine (rrel_any w4).mono ?_
  rintro e w5 ⟨rfl, hb5⟩
  have Rw5 := Lib.hid (Rw4.out.all hb5)
  have Uw5 : Hid (Below w.heap.size w w5) := up Uw4.out hb5
  have Pw5 := Lib.hid (Pw4.out.all hb5)
  have Hw5 := Lib.hid (Hw4.out.all hb5)
  clear Rw4 Uw4 Pw4 Hw4 hb5
  simp only [trV]
  go_wp2_with fail
  refine (rone_any (10, 0, 0) w5).mono ?_
  rintro e w6 ⟨v, rfl, hO, hb6⟩
  obtain ⟨A, cap, rfl, -, -⟩ := hO.ops
  have Ow6 : Hid (OwnT w6 w.heap.size (.slice A 1 cap) [(10, 0, 0)]) := hO.lift Uw5.out.size
  clear hO
  have Rw6 := Lib.hid (Rw5.out.all hb6)
  have Uw6 : Hid (Below w.heap.size w w6) := up Uw5.out hb6
  have Pw6 := Lib.hid (Pw5.out.all hb6)
  have Hw6 := Lib.hid (Hw5.out.all hb6)
  clear Rw5 Uw5 Pw5 Hw5 hb6
  go_wp2_with fail
  refine (rins_any ⟨#[68, 74, 78, 90]⟩ A 1 cap w6).mono ?_
  rintro e w7 ⟨rfl, hb7⟩
  have Rw7 := Lib.hid (Rw6.out.all hb7)
  have Uw7 : Hid (Below w.heap.size w w7) := up Uw6.out hb7
  have Pw7 := Lib.hid (Pw6.out.all hb7)
  have Hw7 := Lib.hid (Hw6.out.all hb7)
  have Ow7 := Lib.hid (Ow6.out.below hb7)
  clear Rw6 Uw6 Pw6 Hw6 Ow6 hb7
  obtain ⟨z0, z1, z2, z3⟩ := Rw7.out.cells
  go_wp2
  obtain ⟨wz, hwz, q1, q2, q3⟩ := ri_put Rw7.out ⟨#[68, 74, 78, 90]⟩ (.slice A 1 cap)
  rw [hwz]
  obtain ⟨s0, s1⟩ := q1.cells
  refine bodyPost_ret (v := .tuple #[.agg #[.string ⟨#[68, 74, 78, 90]⟩, (.slice A 1 cap)], .string ⟨#[101]⟩]) ?_ rfl ?_
  · simp [results, Tryz.results55, go_sem, s0, s1]
  · exact ⟨_, rfl, own_put Rw7.out Ow7.out q3, Uw7.out.trans (q2.mono (by rw [HN.out]; omega))⟩
theorem low_0_3 (w : World) : Calls Tryz.prog 55 #[.int .i64 3, .int .i64 0] w (RetI w [74, 82] [(10, 0, 0)] [101]) := by
  obtain ⟨w0, hw0, rz0, bl0⟩ := ri_start w
  obtain ⟨n, hn⟩ : ∃ n, w.heap.size = n := ⟨_, rfl⟩
  have Rw0 : Hid (Rz w0 n) := by rw [← hn]; exact rz0
  have Uw0 : Hid (Below w.heap.size w w0) := bl0
  have HN := Lib.hid hn
  clear rz0 bl0
  go_enter Tryz.func55, Tryz.ntmps55
  obtain ⟨⟨p0, p1, p2⟩, hp⟩ : ∃ x : Tr, rpT (1) 3 = x := ⟨_, rfl⟩
  have HP := Lib.hid hp
  have hrp := rrp_any (1) 3 w0
  rw [hp] at hrp
  clear hp
  go_wp2_with fail
  refine hrp.mono ?_
  rintro e w1 ⟨rfl, hb1⟩
  have Rw1 := Lib.hid (Rw0.out.all hb1)
  have Uw1 : Hid (Below w.heap.size w w1) := up Uw0.out hb1
  clear Rw0 Uw0 hb1
  clear hrp hw0
  simp only [trV]
  go_upto_region 2 with fail
  obtain ⟨bP, hbP⟩ : ∃ b, w1.heap.size = b := ⟨_, rfl⟩
  obtain ⟨w2, hw2⟩ : ∃ v, w1.alloc (.cells #[.int .i64 p0, .int .i64 p1, .int .i64 p2] 69) = v := ⟨_, rfl⟩
  have hb2 : Below w1.heap.size w1 w2 := by rw [← hw2]; exact up_alloc _ _
  have Pw2 : Hid (OpV w2 bP (p0, p1, p2)) := by rw [← hw2, ← hbP]; exact opv_new _ _ _ _
  rw [hw2, hbP]
  clear hw2
  have Rw2 := Lib.hid (Rw1.out.all hb2)
  have Uw2 : Hid (Below w.heap.size w w2) := up Uw1.out hb2
  clear Rw1 Uw1 hb2
  go_wp2_with fail
  refine (rrp_any 2 3 w2).mono ?_
  rintro e w3 ⟨rfl, hb3⟩
  have Rw3 := Lib.hid (Rw2.out.all hb3)
  have Uw3 : Hid (Below w.heap.size w w3) := up Uw2.out hb3
  have Pw3 := Lib.hid (Pw2.out.all hb3)
  clear Rw2 Uw2 Pw2 hb3
  simp only [trV]
  simp only [rpT, show ¬ ((2 : Int) = 3) by decide, if_false]
  go_upto_region 4 with fail
  obtain ⟨bH, hbH⟩ : ∃ b, w3.heap.size = b := ⟨_, rfl⟩
  obtain ⟨w4, hw4⟩ : ∃ v, w3.alloc (.cells #[.int .i64 3, .int .i64 2, .int .i64 0] 69) = v := ⟨_, rfl⟩
  have hb4 : Below w3.heap.size w3 w4 := by rw [← hw4]; exact up_alloc _ _
  have Hw4 : Hid (OpV w4 bH (3, 2, 0)) := by rw [← hw4, ← hbH]; exact opv_new _ _ _ _
  rw [hw4, hbH]
  clear hw4
  have Rw4 := Lib.hid (Rw3.out.all hb4)
  have Uw4 : Hid (Below w.heap.size w w4) := up Uw3.out hb4
  have Pw4 := Lib.hid (Pw3.out.all hb4)
  clear Rw3 Uw3 Pw3 hb4
  go_wp2_with fail
  refine (rrel_any w4).mono ?_
  rintro e w5 ⟨rfl, hb5⟩
  have Rw5 := Lib.hid (Rw4.out.all hb5)
  have Uw5 : Hid (Below w.heap.size w w5) := up Uw4.out hb5
  have Pw5 := Lib.hid (Pw4.out.all hb5)
  have Hw5 := Lib.hid (Hw4.out.all hb5)
  clear Rw4 Uw4 Pw4 Hw4 hb5
  simp only [trV]
  go_wp2_with fail
  refine (rone_any (10, 0, 0) w5).mono ?_
  rintro e w6 ⟨v, rfl, hO, hb6⟩
  obtain ⟨A, cap, rfl, -, -⟩ := hO.ops
  have Ow6 : Hid (OwnT w6 w.heap.size (.slice A 1 cap) [(10, 0, 0)]) := hO.lift Uw5.out.size
  clear hO
  have Rw6 := Lib.hid (Rw5.out.all hb6)
  have Uw6 : Hid (Below w.heap.size w w6) := up Uw5.out hb6
  have Pw6 := Lib.hid (Pw5.out.all hb6)
  have Hw6 := Lib.hid (Hw5.out.all hb6)
  clear Rw5 Uw5 Pw5 Hw5 hb6
  go_wp2_with fail
  refine (rins_any ⟨#[74, 82]⟩ A 1 cap w6).mono ?_
  rintro e w7 ⟨rfl, hb7⟩
  have Rw7 := Lib.hid (Rw6.out.all hb7)
  have Uw7 : Hid (Below w.heap.size w w7) := up Uw6.out hb7
  have Pw7 := Lib.hid (Pw6.out.all hb7)
  have Hw7 := Lib.hid (Hw6.out.all hb7)
  have Ow7 := Lib.hid (Ow6.out.below hb7)
  clear Rw6 Uw6 Pw6 Hw6 Ow6 hb7
  obtain ⟨z0, z1, z2, z3⟩ := Rw7.out.cells
  go_wp2
  obtain ⟨wz, hwz, q1, q2, q3⟩ := ri_put Rw7.out ⟨#[74, 82]⟩ (.slice A 1 cap)
  rw [hwz]
  obtain ⟨s0, s1⟩ := q1.cells
  refine bodyPost_ret (v := .tuple #[.agg #[.string ⟨#[74, 82]⟩, (.slice A 1 cap)], .string ⟨#[101]⟩]) ?_ rfl ?_
  · simp [results, Tryz.results55, go_sem, s0, s1]
  · exact ⟨_, rfl, own_put Rw7.out Ow7.out q3, Uw7.out.trans (q2.mono (by rw [HN.out]; omega))⟩
theorem low_0 (y : Int) (hy : 0 ≤ y ∧ y ≤ 7) (h4 : 4 ≤ y) (w : World) : Calls Tryz.prog 55 #[.int .i64 y, .int .i64 0] w (RetI w [74, 82] [(8, y - 4, 0), (10, 0, 0)] [101]) := by
  obtain ⟨w0, hw0, rz0, bl0⟩ := ri_start w
  obtain ⟨n, hn⟩ : ∃ n, w.heap.size = n := ⟨_, rfl⟩
  have Rw0 : Hid (Rz w0 n) := by rw [← hn]; exact rz0
  have Uw0 : Hid (Below w.heap.size w w0) := bl0
  have HN := Lib.hid hn
  clear rz0 bl0
  go_enter Tryz.func55, Tryz.ntmps55
  obtain ⟨⟨p0, p1, p2⟩, hp⟩ : ∃ x : Tr, rpT (y / 2) 3 = x := ⟨_, rfl⟩
  have HP := Lib.hid hp
  have hrp := rrp_any (y / 2) 3 w0
  rw [hp] at hrp
  clear hp
  go_wp2_with fail
  refine hrp.mono ?_
  rintro e w1 ⟨rfl, hb1⟩
  have Rw1 := Lib.hid (Rw0.out.all hb1)
  have Uw1 : Hid (Below w.heap.size w w1) := up Uw0.out hb1
  clear Rw0 Uw0 hb1
  clear hrp hw0
  simp only [trV]
  go_upto_region 2 with fail
  obtain ⟨bP, hbP⟩ : ∃ b, w1.heap.size = b := ⟨_, rfl⟩
  obtain ⟨w2, hw2⟩ : ∃ v, w1.alloc (.cells #[.int .i64 p0, .int .i64 p1, .int .i64 p2] 69) = v := ⟨_, rfl⟩
  have hb2 : Below w1.heap.size w1 w2 := by rw [← hw2]; exact up_alloc _ _
  have Pw2 : Hid (OpV w2 bP (p0, p1, p2)) := by rw [← hw2, ← hbP]; exact opv_new _ _ _ _
  rw [hw2, hbP]
  clear hw2
  have Rw2 := Lib.hid (Rw1.out.all hb2)
  have Uw2 : Hid (Below w.heap.size w w2) := up Uw1.out hb2
  clear Rw1 Uw1 hb2
  go_wp2_with fail
  refine (rrp_any 2 3 w2).mono ?_
  rintro e w3 ⟨rfl, hb3⟩
  have Rw3 := Lib.hid (Rw2.out.all hb3)
  have Uw3 : Hid (Below w.heap.size w w3) := up Uw2.out hb3
  have Pw3 := Lib.hid (Pw2.out.all hb3)
  clear Rw2 Uw2 Pw2 hb3
  simp only [trV]
  simp only [rpT, show ¬ ((2 : Int) = 3) by decide, if_false]
  go_upto_region 4 with fail
  obtain ⟨bH, hbH⟩ : ∃ b, w3.heap.size = b := ⟨_, rfl⟩
  obtain ⟨w4, hw4⟩ : ∃ v, w3.alloc (.cells #[.int .i64 3, .int .i64 2, .int .i64 0] 69) = v := ⟨_, rfl⟩
  have hb4 : Below w3.heap.size w3 w4 := by rw [← hw4]; exact up_alloc _ _
  have Hw4 : Hid (OpV w4 bH (3, 2, 0)) := by rw [← hw4, ← hbH]; exact opv_new _ _ _ _
  rw [hw4, hbH]
  clear hw4
  have Rw4 := Lib.hid (Rw3.out.all hb4)
  have Uw4 : Hid (Below w.heap.size w w4) := up Uw3.out hb4
  have Pw4 := Lib.hid (Pw3.out.all hb4)
  clear Rw3 Uw3 Pw3 hb4
  have b0 : (y == 0) = false := by simp; omega
  have b1 : (y == 1) = false := by simp; omega
  have b2 : (y == 2) = false := by simp; omega
  have b3 : (y == 3) = false := by simp; omega
  go_wp2_with fail
  refine (rcc_any (y - 4) w4).mono ?_
  rintro e w5 ⟨rfl, hb5⟩
  have Rw5 := Lib.hid (Rw4.out.all hb5)
  have Uw5 : Hid (Below w.heap.size w w5) := up Uw4.out hb5
  have Pw5 := Lib.hid (Pw4.out.all hb5)
  have Hw5 := Lib.hid (Hw4.out.all hb5)
  clear Rw4 Uw4 Pw4 Hw4 hb5
  simp only [trV]
  clear b0 b1 b2 b3
  go_wp2_with fail
  refine (rrel_any w5).mono ?_
  rintro e w6 ⟨rfl, hb6⟩
  have Rw6 := Lib.hid (Rw5.out.all hb6)
  have Uw6 : Hid (Below w.heap.size w w6) := up Uw5.out hb6
  have Pw6 := Lib.hid (Pw5.out.all hb6)
  have Hw6 := Lib.hid (Hw5.out.all hb6)
  clear Rw5 Uw5 Pw5 Hw5 hb6
  simp only [trV]
  go_wp2_with fail
  refine (rtwo_any (8, y - 4, 0) (10, 0, 0) w6).mono ?_
  rintro e w7 ⟨v, rfl, hO, hb7⟩
  obtain ⟨A, cap, rfl, -, -⟩ := hO.ops
  have Ow7 : Hid (OwnT w7 w.heap.size (.slice A 2 cap) [(8, y - 4, 0), (10, 0, 0)]) := hO.lift Uw6.out.size
  clear hO
  have Rw7 := Lib.hid (Rw6.out.all hb7)
  have Uw7 : Hid (Below w.heap.size w w7) := up Uw6.out hb7
  have Pw7 := Lib.hid (Pw6.out.all hb7)
  have Hw7 := Lib.hid (Hw6.out.all hb7)
  clear Rw6 Uw6 Pw6 Hw6 hb7
  go_wp2_with fail
  refine (rins_any ⟨#[74, 82]⟩ A 2 cap w7).mono ?_
  rintro e w8 ⟨rfl, hb8⟩
  have Rw8 := Lib.hid (Rw7.out.all hb8)
  have Uw8 : Hid (Below w.heap.size w w8) := up Uw7.out hb8
  have Pw8 := Lib.hid (Pw7.out.all hb8)
  have Hw8 := Lib.hid (Hw7.out.all hb8)
  have Ow8 := Lib.hid (Ow7.out.below hb8)
  clear Rw7 Uw7 Pw7 Hw7 Ow7 hb8
  obtain ⟨z0, z1, z2, z3⟩ := Rw8.out.cells
  go_wp2
  obtain ⟨wz, hwz, q1, q2, q3⟩ := ri_put Rw8.out ⟨#[74, 82]⟩ (.slice A 2 cap)
  rw [hwz]
  obtain ⟨s0, s1⟩ := q1.cells
  refine bodyPost_ret (v := .tuple #[.agg #[.string ⟨#[74, 82]⟩, (.slice A 2 cap)], .string ⟨#[101]⟩]) ?_ rfl ?_
  · simp [results, Tryz.results55, go_sem, s0, s1]
  · exact ⟨_, rfl, own_put Rw8.out Ow8.out q3, Uw8.out.trans (q2.mono (by rw [HN.out]; omega))⟩
theorem low_1_e (y : Int) (hy : 0 ≤ y ∧ y ≤ 7) (hq : y % 2 = 0) (w : World) : Calls Tryz.prog 55 #[.int .i64 y, .int .i64 1] w (RetI w [76, 68] [rpT (y / 2) 3, (6, 0, 0)] [119]) := by
  have KQ : Hid (y % 2 = 0) := hq
  clear hq
  obtain ⟨w0, hw0, rz0, bl0⟩ := ri_start w
  obtain ⟨n, hn⟩ : ∃ n, w.heap.size = n := ⟨_, rfl⟩
  have Rw0 : Hid (Rz w0 n) := by rw [← hn]; exact rz0
  have Uw0 : Hid (Below w.heap.size w w0) := bl0
  have HN := Lib.hid hn
  clear rz0 bl0
  go_enter Tryz.func55, Tryz.ntmps55
  obtain ⟨⟨p0, p1, p2⟩, hp⟩ : ∃ x : Tr, rpT (y / 2) 3 = x := ⟨_, rfl⟩
  have HP := Lib.hid hp
  have hrp := rrp_any (y / 2) 3 w0
  rw [hp] at hrp
  clear hp
  go_wp2_with fail
  refine hrp.mono ?_
  rintro e w1 ⟨rfl, hb1⟩
  have Rw1 := Lib.hid (Rw0.out.all hb1)
  have Uw1 : Hid (Below w.heap.size w w1) := up Uw0.out hb1
  clear Rw0 Uw0 hb1
  clear hrp hw0
  simp only [trV]
  go_upto_region 2 with fail
  obtain ⟨bP, hbP⟩ : ∃ b, w1.heap.size = b := ⟨_, rfl⟩
  obtain ⟨w2, hw2⟩ : ∃ v, w1.alloc (.cells #[.int .i64 p0, .int .i64 p1, .int .i64 p2] 69) = v := ⟨_, rfl⟩
  have hb2 : Below w1.heap.size w1 w2 := by rw [← hw2]; exact up_alloc _ _
  have Pw2 : Hid (OpV w2 bP (p0, p1, p2)) := by rw [← hw2, ← hbP]; exact opv_new _ _ _ _
  rw [hw2, hbP]
  clear hw2
  have Rw2 := Lib.hid (Rw1.out.all hb2)
  have Uw2 : Hid (Below w.heap.size w w2) := up Uw1.out hb2
  clear Rw1 Uw1 hb2
  go_upto_region 3 with fail
  rw [KQ.out]
  go_wp2_with fail
  refine (rrp_any 2 3 w2).mono ?_
  rintro e w3 ⟨rfl, hb3⟩
  have Rw3 := Lib.hid (Rw2.out.all hb3)
  have Uw3 : Hid (Below w.heap.size w w3) := up Uw2.out hb3
  have Pw3 := Lib.hid (Pw2.out.all hb3)
  clear Rw2 Uw2 Pw2 hb3
  simp only [trV]
  simp only [rpT, show ¬ ((2 : Int) = 3) by decide, if_false]
  go_upto_region 4 with fail
  obtain ⟨bH, hbH⟩ : ∃ b, w3.heap.size = b := ⟨_, rfl⟩
  obtain ⟨w4, hw4⟩ : ∃ v, w3.alloc (.cells #[.int .i64 3, .int .i64 2, .int .i64 0] 69) = v := ⟨_, rfl⟩
  have hb4 : Below w3.heap.size w3 w4 := by rw [← hw4]; exact up_alloc _ _
  have Hw4 : Hid (OpV w4 bH (3, 2, 0)) := by rw [← hw4, ← hbH]; exact opv_new _ _ _ _
  rw [hw4, hbH]
  clear hw4
  have Rw4 := Lib.hid (Rw3.out.all hb4)
  have Uw4 : Hid (Below w.heap.size w w4) := up Uw3.out hb4
  have Pw4 := Lib.hid (Pw3.out.all hb4)
  clear Rw3 Uw3 Pw3 hb4
  go_upto_region 18 with fail
  obtain ⟨w5, hw5⟩ : ∃ v, w4.drew = v := ⟨_, rfl⟩
  have Rw5 : Hid (Rz w5 n) := by rw [← hw5]; exact Rw4.out
  have Uw5 : Hid (Below w.heap.size w w5) := by rw [← hw5]; exact Uw4.out.drew
  have Pw5 : Hid (OpV w5 bP (p0, p1, p2)) := by rw [← hw5]; exact Pw4.out
  have K : Hid (w5.cell? ⟨bP, 0, none⟩ = some (.int .i64 p0) ∧ w5.cell? ⟨bP, 1, none⟩ = some (.int .i64 p1) ∧ w5.cell? ⟨bP, 2, none⟩ = some (.int .i64 p2)) := ⟨Pw5.out.cells.1, Pw5.out.cells.2.1, Pw5.out.cells.2.2.1⟩
  refine Mixed.wp_region_mixed (fun w' => w'.cell? ⟨bP, 0, none⟩ = some (.int .i64 p0) ∧ w'.cell? ⟨bP, 1, none⟩ = some (.int .i64 p1) ∧ w'.cell? ⟨bP, 2, none⟩ = some (.int .i64 p2)) 2 [(0, true), (1, false)] (by kernel_rfl) (by kernel_rfl) (by rw [hw5]; exact K.out) ?_
  rw [hw5]
  clear hw5 K Rw4 Uw4 Pw4 Hw4
  refine Mixed.wpMix_pure rfl (by kernel_rfl) (.agg #[.int .i64 p0, .int .i64 p1, .int .i64 p2]) (fun w h => by obtain ⟨h1, h2, h3⟩ := h; go_simp; try rfl) ?_
  refine Mixed.wpMix_loudG rfl (by kernel_rfl) ?_
  go_wp2_with fail
  refine (rimm_any 0 w5).mono ?_
  rintro e w6 ⟨rfl, hb6⟩
  have Rw6 := Lib.hid (Rw5.out.all hb6)
  have Uw6 : Hid (Below w.heap.size w w6) := up Uw5.out hb6
  have Pw6 := Lib.hid (Pw5.out.all hb6)
  clear Rw5 Uw5 Pw5 hb6
  simp only [trV]
  have xx : w6.cell? ⟨bP, 0, none⟩ = some (.int .i64 p0) ∧ w6.cell? ⟨bP, 1, none⟩ = some (.int .i64 p1) ∧ w6.cell? ⟨bP, 2, none⟩ = some (.int .i64 p2) := ⟨Pw6.out.cells.1, Pw6.out.cells.2.1, Pw6.out.cells.2.2.1⟩
  go_wp2
  refine ⟨xx, ?_⟩
  clear xx
  simp only [Mixed.wpMix, List.drop_succ_cons, List.drop_zero]
  go_wp2_with fail
  refine (rtwo_any (p0, p1, p2) (6, 0, 0) w6).mono ?_
  rintro e w7 ⟨v, rfl, hO, hb7⟩
  obtain ⟨A, cap, rfl, -, -⟩ := hO.ops
  have Ow7 : Hid (OwnT w7 w.heap.size (.slice A 2 cap) [(p0, p1, p2), (6, 0, 0)]) := hO.lift Uw6.out.size
  clear hO
  have Rw7 := Lib.hid (Rw6.out.all hb7)
  have Uw7 : Hid (Below w.heap.size w w7) := up Uw6.out hb7
  have Pw7 := Lib.hid (Pw6.out.all hb7)
  clear Rw6 Uw6 Pw6 hb7
  go_wp2_with fail
  refine (rins_any ⟨#[76, 68]⟩ A 2 cap w7).mono ?_
  rintro e w8 ⟨rfl, hb8⟩
  have Rw8 := Lib.hid (Rw7.out.all hb8)
  have Uw8 : Hid (Below w.heap.size w w8) := up Uw7.out hb8
  have Pw8 := Lib.hid (Pw7.out.all hb8)
  have Ow8 := Lib.hid (Ow7.out.below hb8)
  clear Rw7 Uw7 Pw7 Ow7 hb8
  obtain ⟨z0, z1, z2, z3⟩ := Rw8.out.cells
  go_wp2
  obtain ⟨wz, hwz, q1, q2, q3⟩ := ri_put Rw8.out ⟨#[76, 68]⟩ (.slice A 2 cap)
  rw [hwz]
  obtain ⟨s0, s1⟩ := q1.cells
  refine bodyPost_ret (v := .tuple #[.agg #[.string ⟨#[76, 68]⟩, (.slice A 2 cap)], .string ⟨#[119]⟩]) ?_ rfl ?_
  · simp [results, Tryz.results55, go_sem, s0, s1]
  · exact ⟨_, rfl, (by rw [HP.out]; exact own_put Rw8.out Ow8.out q3), Uw8.out.trans (q2.mono (by rw [HN.out]; omega))⟩
theorem low_1_o (y : Int) (hy : 0 ≤ y ∧ y ≤ 7) (hq : y % 2 = 1) (w : World) : Calls Tryz.prog 55 #[.int .i64 y, .int .i64 1] w (RetI w [65, 68, 68] [(3, 2, 0), rpT (y / 2) 3] []) := by
  have KQ : Hid (y % 2 = 1) := hq
  clear hq
  obtain ⟨w0, hw0, rz0, bl0⟩ := ri_start w
  obtain ⟨n, hn⟩ : ∃ n, w.heap.size = n := ⟨_, rfl⟩
  have Rw0 : Hid (Rz w0 n) := by rw [← hn]; exact rz0
  have Uw0 : Hid (Below w.heap.size w w0) := bl0
  have HN := Lib.hid hn
  clear rz0 bl0
  go_enter Tryz.func55, Tryz.ntmps55
  obtain ⟨⟨p0, p1, p2⟩, hp⟩ : ∃ x : Tr, rpT (y / 2) 3 = x := ⟨_, rfl⟩
  have HP := Lib.hid hp
  have hrp := rrp_any (y / 2) 3 w0
  rw [hp] at hrp
  clear hp
  go_wp2_with fail
  refine hrp.mono ?_
  rintro e w1 ⟨rfl, hb1⟩
  have Rw1 := Lib.hid (Rw0.out.all hb1)
  have Uw1 : Hid (Below w.heap.size w w1) := up Uw0.out hb1
  clear Rw0 Uw0 hb1
  clear hrp hw0
  simp only [trV]
  go_upto_region 2 with fail
  obtain ⟨bP, hbP⟩ : ∃ b, w1.heap.size = b := ⟨_, rfl⟩
  obtain ⟨w2, hw2⟩ : ∃ v, w1.alloc (.cells #[.int .i64 p0, .int .i64 p1, .int .i64 p2] 69) = v := ⟨_, rfl⟩
  have hb2 : Below w1.heap.size w1 w2 := by rw [← hw2]; exact up_alloc _ _
  have Pw2 : Hid (OpV w2 bP (p0, p1, p2)) := by rw [← hw2, ← hbP]; exact opv_new _ _ _ _
  rw [hw2, hbP]
  clear hw2
  have Rw2 := Lib.hid (Rw1.out.all hb2)
  have Uw2 : Hid (Below w.heap.size w w2) := up Uw1.out hb2
  clear Rw1 Uw1 hb2
  go_upto_region 3 with fail
  rw [KQ.out]
  go_wp2_with fail
  refine (rrp_any 2 3 w2).mono ?_
  rintro e w3 ⟨rfl, hb3⟩
  have Rw3 := Lib.hid (Rw2.out.all hb3)
  have Uw3 : Hid (Below w.heap.size w w3) := up Uw2.out hb3
  have Pw3 := Lib.hid (Pw2.out.all hb3)
  clear Rw2 Uw2 Pw2 hb3
  simp only [trV]
  simp only [rpT, show ¬ ((2 : Int) = 3) by decide, if_false]
  go_upto_region 4 with fail
  obtain ⟨bH, hbH⟩ : ∃ b, w3.heap.size = b := ⟨_, rfl⟩
  obtain ⟨w4, hw4⟩ : ∃ v, w3.alloc (.cells #[.int .i64 3, .int .i64 2, .int .i64 0] 69) = v := ⟨_, rfl⟩
  have hb4 : Below w3.heap.size w3 w4 := by rw [← hw4]; exact up_alloc _ _
  have Hw4 : Hid (OpV w4 bH (3, 2, 0)) := by rw [← hw4, ← hbH]; exact opv_new _ _ _ _
  rw [hw4, hbH]
  clear hw4
  have Rw4 := Lib.hid (Rw3.out.all hb4)
  have Uw4 : Hid (Below w.heap.size w w4) := up Uw3.out hb4
  have Pw4 := Lib.hid (Pw3.out.all hb4)
  clear Rw3 Uw3 Pw3 hb4
  obtain ⟨pc0, pc1, pc2, pc3⟩ := Pw4.out.cells
  obtain ⟨hc0, hc1, hc2, hc3⟩ := Hw4.out.cells
  go_wp2_with fail
  refine (rtwo_any (3, 2, 0) (p0, p1, p2) w4).mono ?_
  rintro e w5 ⟨v, rfl, hO, hb5⟩
  obtain ⟨A, cap, rfl, -, -⟩ := hO.ops
  have Ow5 : Hid (OwnT w5 w.heap.size (.slice A 2 cap) [(3, 2, 0), (p0, p1, p2)]) := hO.lift Uw4.out.size
  clear hO
  have Rw5 := Lib.hid (Rw4.out.all hb5)
  have Uw5 : Hid (Below w.heap.size w w5) := up Uw4.out hb5
  have Pw5 := Lib.hid (Pw4.out.all hb5)
  have Hw5 := Lib.hid (Hw4.out.all hb5)
  clear Rw4 Uw4 Pw4 Hw4 hb5
  go_wp2_with fail
  refine (rins_any ⟨#[65, 68, 68]⟩ A 2 cap w5).mono ?_
  rintro e w6 ⟨rfl, hb6⟩
  have Rw6 := Lib.hid (Rw5.out.all hb6)
  have Uw6 : Hid (Below w.heap.size w w6) := up Uw5.out hb6
  have Pw6 := Lib.hid (Pw5.out.all hb6)
  have Hw6 := Lib.hid (Hw5.out.all hb6)
  have Ow6 := Lib.hid (Ow5.out.below hb6)
  clear Rw5 Uw5 Pw5 Hw5 Ow5 hb6
  obtain ⟨z0, z1, z2, z3⟩ := Rw6.out.cells
  go_wp2
  obtain ⟨wz, hwz, q1, q2, q3⟩ := ri_put Rw6.out ⟨#[65, 68, 68]⟩ (.slice A 2 cap)
  rw [hwz]
  obtain ⟨s0, s1⟩ := q1.cells
  refine bodyPost_ret (v := .tuple #[.agg #[.string ⟨#[65, 68, 68]⟩, (.slice A 2 cap)], .string ⟨#[]⟩]) ?_ rfl ?_
  · simp [results, Tryz.results55, go_sem, s0, s1]
  · exact ⟨_, rfl, (by rw [HP.out]; exact own_put Rw6.out Ow6.out q3), Uw6.out.trans (q2.mono (by rw [HN.out]; omega))⟩
theorem low_4 (y : Int) (hy : 0 ≤ y ∧ y ≤ 7) (w : World) : Calls Tryz.prog 55 #[.int .i64 y, .int .i64 4] w (RetI w [73, 78, 67] [regT y] []) := by
  obtain ⟨w0, hw0, rz0, bl0⟩ := ri_start w
  obtain ⟨n, hn⟩ : ∃ n, w.heap.size = n := ⟨_, rfl⟩
  have Rw0 : Hid (Rz w0 n) := by rw [← hn]; exact rz0
  have Uw0 : Hid (Below w.heap.size w w0) := bl0
  have HN := Lib.hid hn
  clear rz0 bl0
  go_enter Tryz.func55, Tryz.ntmps55
  obtain ⟨⟨p0, p1, p2⟩, hp⟩ : ∃ x : Tr, rpT (y / 2) 3 = x := ⟨_, rfl⟩
  have HP := Lib.hid hp
  have hrp := rrp_any (y / 2) 3 w0
  rw [hp] at hrp
  clear hp
  go_wp2_with fail
  refine hrp.mono ?_
  rintro e w1 ⟨rfl, hb1⟩
  have Rw1 := Lib.hid (Rw0.out.all hb1)
  have Uw1 : Hid (Below w.heap.size w w1) := up Uw0.out hb1
  clear Rw0 Uw0 hb1
  clear hrp hw0
  simp only [trV]
  go_upto_region 2 with fail
  obtain ⟨bP, hbP⟩ : ∃ b, w1.heap.size = b := ⟨_, rfl⟩
  obtain ⟨w2, hw2⟩ : ∃ v, w1.alloc (.cells #[.int .i64 p0, .int .i64 p1, .int .i64 p2] 69) = v := ⟨_, rfl⟩
  have hb2 : Below w1.heap.size w1 w2 := by rw [← hw2]; exact up_alloc _ _
  have Pw2 : Hid (OpV w2 bP (p0, p1, p2)) := by rw [← hw2, ← hbP]; exact opv_new _ _ _ _
  rw [hw2, hbP]
  clear hw2
  have Rw2 := Lib.hid (Rw1.out.all hb2)
  have Uw2 : Hid (Below w.heap.size w w2) := up Uw1.out hb2
  clear Rw1 Uw1 hb2
  go_wp2_with fail
  refine (rrp_any 2 3 w2).mono ?_
  rintro e w3 ⟨rfl, hb3⟩
  have Rw3 := Lib.hid (Rw2.out.all hb3)
  have Uw3 : Hid (Below w.heap.size w w3) := up Uw2.out hb3
  have Pw3 := Lib.hid (Pw2.out.all hb3)
  clear Rw2 Uw2 Pw2 hb3
  simp only [trV]
  simp only [rpT, show ¬ ((2 : Int) = 3) by decide, if_false]
  go_upto_region 4 with fail
  obtain ⟨bH, hbH⟩ : ∃ b, w3.heap.size = b := ⟨_, rfl⟩
  obtain ⟨w4, hw4⟩ : ∃ v, w3.alloc (.cells #[.int .i64 3, .int .i64 2, .int .i64 0] 69) = v := ⟨_, rfl⟩
  have hb4 : Below w3.heap.size w3 w4 := by rw [← hw4]; exact up_alloc _ _
  have Hw4 : Hid (OpV w4 bH (3, 2, 0)) := by rw [← hw4, ← hbH]; exact opv_new _ _ _ _
  rw [hw4, hbH]
  clear hw4
  have Rw4 := Lib.hid (Rw3.out.all hb4)
  have Uw4 : Hid (Below w.heap.size w w4) := up Uw3.out hb4
  have Pw4 := Lib.hid (Pw3.out.all hb4)
  clear Rw3 Uw3 Pw3 hb4
  go_wp2_with fail
  refine (rr_any _ w4).mono ?_
  rintro e w5 ⟨rfl, hb5⟩
  have Rw5 := Lib.hid (Rw4.out.all hb5)
  have Uw5 : Hid (Below w.heap.size w w5) := up Uw4.out hb5
  have Pw5 := Lib.hid (Pw4.out.all hb5)
  have Hw5 := Lib.hid (Hw4.out.all hb5)
  clear Rw4 Uw4 Pw4 Hw4 hb5
  simp only [trV]
  obtain ⟨⟨x0, x1, x2⟩, hx⟩ : ∃ x : Tr, regT y = x := ⟨_, rfl⟩
  have HX := Lib.hid hx
  rw [hx]
  clear hx
  go_wp2_with fail
  refine (rone_any (x0, x1, x2) w5).mono ?_
  rintro e w6 ⟨v, rfl, hO, hb6⟩
  obtain ⟨A, cap, rfl, -, -⟩ := hO.ops
  have Ow6 : Hid (OwnT w6 w.heap.size (.slice A 1 cap) [(x0, x1, x2)]) := hO.lift Uw5.out.size
  clear hO
  have Rw6 := Lib.hid (Rw5.out.all hb6)
  have Uw6 : Hid (Below w.heap.size w w6) := up Uw5.out hb6
  have Pw6 := Lib.hid (Pw5.out.all hb6)
  have Hw6 := Lib.hid (Hw5.out.all hb6)
  clear Rw5 Uw5 Pw5 Hw5 hb6
  go_wp2_with fail
  refine (rins_any ⟨#[73, 78, 67]⟩ A 1 cap w6).mono ?_
  rintro e w7 ⟨rfl, hb7⟩
  have Rw7 := Lib.hid (Rw6.out.all hb7)
  have Uw7 : Hid (Below w.heap.size w w7) := up Uw6.out hb7
  have Pw7 := Lib.hid (Pw6.out.all hb7)
  have Hw7 := Lib.hid (Hw6.out.all hb7)
  have Ow7 := Lib.hid (Ow6.out.below hb7)
  clear Rw6 Uw6 Pw6 Hw6 Ow6 hb7
  obtain ⟨z0, z1, z2, z3⟩ := Rw7.out.cells
  go_wp2
  obtain ⟨wz, hwz, q1, q2, q3⟩ := ri_put Rw7.out ⟨#[73, 78, 67]⟩ (.slice A 1 cap)
  rw [hwz]
  obtain ⟨s0, s1⟩ := q1.cells
  refine bodyPost_ret (v := .tuple #[.agg #[.string ⟨#[73, 78, 67]⟩, (.slice A 1 cap)], .string ⟨#[]⟩]) ?_ rfl ?_
  · simp [results, Tryz.results55, go_sem, s0, s1]
  · exact ⟨_, rfl, (by rw [HX.out]; exact own_put Rw7.out Ow7.out q3), Uw7.out.trans (q2.mono (by rw [HN.out]; omega))⟩
theorem low_5 (y : Int) (hy : 0 ≤ y ∧ y ≤ 7) (w : World) : Calls Tryz.prog 55 #[.int .i64 y, .int .i64 5] w (RetI w [68, 69, 67] [regT y] []) := by
  obtain ⟨w0, hw0, rz0, bl0⟩ := ri_start w
  obtain ⟨n, hn⟩ : ∃ n, w.heap.size = n := ⟨_, rfl⟩
  have Rw0 : Hid (Rz w0 n) := by rw [← hn]; exact rz0
  have Uw0 : Hid (Below w.heap.size w w0) := bl0
  have HN := Lib.hid hn
  clear rz0 bl0
  go_enter Tryz.func55, Tryz.ntmps55
  obtain ⟨⟨p0, p1, p2⟩, hp⟩ : ∃ x : Tr, rpT (y / 2) 3 = x := ⟨_, rfl⟩
  have HP := Lib.hid hp
  have hrp := rrp_any (y / 2) 3 w0
  rw [hp] at hrp
  clear hp
  go_wp2_with fail
  refine hrp.mono ?_
  rintro e w1 ⟨rfl, hb1⟩
  have Rw1 := Lib.hid (Rw0.out.all hb1)
  have Uw1 : Hid (Below w.heap.size w w1) := up Uw0.out hb1
  clear Rw0 Uw0 hb1
  clear hrp hw0
  simp only [trV]
  go_upto_region 2 with fail
  obtain ⟨bP, hbP⟩ : ∃ b, w1.heap.size = b := ⟨_, rfl⟩
  obtain ⟨w2, hw2⟩ : ∃ v, w1.alloc (.cells #[.int .i64 p0, .int .i64 p1, .int .i64 p2] 69) = v := ⟨_, rfl⟩
  have hb2 : Below w1.heap.size w1 w2 := by rw [← hw2]; exact up_alloc _ _
  have Pw2 : Hid (OpV w2 bP (p0, p1, p2)) := by rw [← hw2, ← hbP]; exact opv_new _ _ _ _
  rw [hw2, hbP]
  clear hw2
  have Rw2 := Lib.hid (Rw1.out.all hb2)
  have Uw2 : Hid (Below w.heap.size w w2) := up Uw1.out hb2
  clear Rw1 Uw1 hb2
  go_wp2_with fail
  refine (rrp_any 2 3 w2).mono ?_
  rintro e w3 ⟨rfl, hb3⟩
  have Rw3 := Lib.hid (Rw2.out.all hb3)
  have Uw3 : Hid (Below w.heap.size w w3) := up Uw2.out hb3
  have Pw3 := Lib.hid (Pw2.out.all hb3)
  clear Rw2 Uw2 Pw2 hb3
  simp only [trV]
  simp only [rpT, show ¬ ((2 : Int) = 3) by decide, if_false]
  go_upto_region 4 with fail
  obtain ⟨bH, hbH⟩ : ∃ b, w3.heap.size = b := ⟨_, rfl⟩
  obtain ⟨w4, hw4⟩ : ∃ v, w3.alloc (.cells #[.int .i64 3, .int .i64 2, .int .i64 0] 69) = v := ⟨_, rfl⟩
  have hb4 : Below w3.heap.size w3 w4 := by rw [← hw4]; exact up_alloc _ _
  have Hw4 : Hid (OpV w4 bH (3, 2, 0)) := by rw [← hw4, ← hbH]; exact opv_new _ _ _ _
  rw [hw4, hbH]
  clear hw4
  have Rw4 := Lib.hid (Rw3.out.all hb4)
  have Uw4 : Hid (Below w.heap.size w w4) := up Uw3.out hb4
  have Pw4 := Lib.hid (Pw3.out.all hb4)
  clear Rw3 Uw3 Pw3 hb4
  go_wp2_with fail
  refine (rr_any _ w4).mono ?_
  rintro e w5 ⟨rfl, hb5⟩
  have Rw5 := Lib.hid (Rw4.out.all hb5)
  have Uw5 : Hid (Below w.heap.size w w5) := up Uw4.out hb5
  have Pw5 := Lib.hid (Pw4.out.all hb5)
  have Hw5 := Lib.hid (Hw4.out.all hb5)
  clear Rw4 Uw4 Pw4 Hw4 hb5
  simp only [trV]
  obtain ⟨⟨x0, x1, x2⟩, hx⟩ : ∃ x : Tr, regT y = x := ⟨_, rfl⟩
  have HX := Lib.hid hx
  rw [hx]
  clear hx
  go_wp2_with fail
  refine (rone_any (x0, x1, x2) w5).mono ?_
  rintro e w6 ⟨v, rfl, hO, hb6⟩
  obtain ⟨A, cap, rfl, -, -⟩ := hO.ops
  have Ow6 : Hid (OwnT w6 w.heap.size (.slice A 1 cap) [(x0, x1, x2)]) := hO.lift Uw5.out.size
  clear hO
  have Rw6 := Lib.hid (Rw5.out.all hb6)
  have Uw6 : Hid (Below w.heap.size w w6) := up Uw5.out hb6
  have Pw6 := Lib.hid (Pw5.out.all hb6)
  have Hw6 := Lib.hid (Hw5.out.all hb6)
  clear Rw5 Uw5 Pw5 Hw5 hb6
  go_wp2_with fail
  refine (rins_any ⟨#[68, 69, 67]⟩ A 1 cap w6).mono ?_
  rintro e w7 ⟨rfl, hb7⟩
  have Rw7 := Lib.hid (Rw6.out.all hb7)
  have Uw7 : Hid (Below w.heap.size w w7) := up Uw6.out hb7
  have Pw7 := Lib.hid (Pw6.out.all hb7)
  have Hw7 := Lib.hid (Hw6.out.all hb7)
  have Ow7 := Lib.hid (Ow6.out.below hb7)
  clear Rw6 Uw6 Pw6 Hw6 Ow6 hb7
  obtain ⟨z0, z1, z2, z3⟩ := Rw7.out.cells
  go_wp2
  obtain ⟨wz, hwz, q1, q2, q3⟩ := ri_put Rw7.out ⟨#[68, 69, 67]⟩ (.slice A 1 cap)
  rw [hwz]
  obtain ⟨s0, s1⟩ := q1.cells
  refine bodyPost_ret (v := .tuple #[.agg #[.string ⟨#[68, 69, 67]⟩, (.slice A 1 cap)], .string ⟨#[]⟩]) ?_ rfl ?_
  · simp [results, Tryz.results55, go_sem, s0, s1]
  · exact ⟨_, rfl, (by rw [HX.out]; exact own_put Rw7.out Ow7.out q3), Uw7.out.trans (q2.mono (by rw [HN.out]; omega))⟩
theorem low_6 (y : Int) (hy : 0 ≤ y ∧ y ≤ 7) (w : World) : Calls Tryz.prog 55 #[.int .i64 y, .int .i64 6] w (RetI w [76, 68] [regT y, (6, 0, 0)] [110]) := by
  obtain ⟨w0, hw0, rz0, bl0⟩ := ri_start w
  obtain ⟨n, hn⟩ : ∃ n, w.heap.size = n := ⟨_, rfl⟩
  have Rw0 : Hid (Rz w0 n) := by rw [← hn]; exact rz0
  have Uw0 : Hid (Below w.heap.size w w0) := bl0
  have HN := Lib.hid hn
  clear rz0 bl0
  go_enter Tryz.func55, Tryz.ntmps55
  obtain ⟨⟨p0, p1, p2⟩, hp⟩ : ∃ x : Tr, rpT (y / 2) 3 = x := ⟨_, rfl⟩
  have HP := Lib.hid hp
  have hrp := rrp_any (y / 2) 3 w0
  rw [hp] at hrp
  clear hp
  go_wp2_with fail
  refine hrp.mono ?_
  rintro e w1 ⟨rfl, hb1⟩
  have Rw1 := Lib.hid (Rw0.out.all hb1)
  have Uw1 : Hid (Below w.heap.size w w1) := up Uw0.out hb1
  clear Rw0 Uw0 hb1
  clear hrp hw0
  simp only [trV]
  go_upto_region 2 with fail
  obtain ⟨bP, hbP⟩ : ∃ b, w1.heap.size = b := ⟨_, rfl⟩
  obtain ⟨w2, hw2⟩ : ∃ v, w1.alloc (.cells #[.int .i64 p0, .int .i64 p1, .int .i64 p2] 69) = v := ⟨_, rfl⟩
  have hb2 : Below w1.heap.size w1 w2 := by rw [← hw2]; exact up_alloc _ _
  have Pw2 : Hid (OpV w2 bP (p0, p1, p2)) := by rw [← hw2, ← hbP]; exact opv_new _ _ _ _
  rw [hw2, hbP]
  clear hw2
  have Rw2 := Lib.hid (Rw1.out.all hb2)
  have Uw2 : Hid (Below w.heap.size w w2) := up Uw1.out hb2
  clear Rw1 Uw1 hb2
  go_wp2_with fail
  refine (rrp_any 2 3 w2).mono ?_
  rintro e w3 ⟨rfl, hb3⟩
  have Rw3 := Lib.hid (Rw2.out.all hb3)
  have Uw3 : Hid (Below w.heap.size w w3) := up Uw2.out hb3
  have Pw3 := Lib.hid (Pw2.out.all hb3)
  clear Rw2 Uw2 Pw2 hb3
  simp only [trV]
  simp only [rpT, show ¬ ((2 : Int) = 3) by decide, if_false]
  go_upto_region 4 with fail
  obtain ⟨bH, hbH⟩ : ∃ b, w3.heap.size = b := ⟨_, rfl⟩
  obtain ⟨w4, hw4⟩ : ∃ v, w3.alloc (.cells #[.int .i64 3, .int .i64 2, .int .i64 0] 69) = v := ⟨_, rfl⟩
  have hb4 : Below w3.heap.size w3 w4 := by rw [← hw4]; exact up_alloc _ _
  have Hw4 : Hid (OpV w4 bH (3, 2, 0)) := by rw [← hw4, ← hbH]; exact opv_new _ _ _ _
  rw [hw4, hbH]
  clear hw4
  have Rw4 := Lib.hid (Rw3.out.all hb4)
  have Uw4 : Hid (Below w.heap.size w w4) := up Uw3.out hb4
  have Pw4 := Lib.hid (Pw3.out.all hb4)
  clear Rw3 Uw3 Pw3 hb4
  go_wp2_with fail
  refine (rr_any _ w4).mono ?_
  rintro e w5 ⟨rfl, hb5⟩
  have Rw5 := Lib.hid (Rw4.out.all hb5)
  have Uw5 : Hid (Below w.heap.size w w5) := up Uw4.out hb5
  have Pw5 := Lib.hid (Pw4.out.all hb5)
  have Hw5 := Lib.hid (Hw4.out.all hb5)
  clear Rw4 Uw4 Pw4 Hw4 hb5
  simp only [trV]
  obtain ⟨⟨x0, x1, x2⟩, hx⟩ : ∃ x : Tr, regT y = x := ⟨_, rfl⟩
  have HX := Lib.hid hx
  rw [hx]
  clear hx
  go_wp2_with fail
  refine (rimm_any 0 w5).mono ?_
  rintro e w6 ⟨rfl, hb6⟩
  have Rw6 := Lib.hid (Rw5.out.all hb6)
  have Uw6 : Hid (Below w.heap.size w w6) := up Uw5.out hb6
  have Pw6 := Lib.hid (Pw5.out.all hb6)
  have Hw6 := Lib.hid (Hw5.out.all hb6)
  clear Rw5 Uw5 Pw5 Hw5 hb6
  simp only [trV]
  go_wp2_with fail
  refine (rtwo_any (x0, x1, x2) (6, 0, 0) w6).mono ?_
  rintro e w7 ⟨v, rfl, hO, hb7⟩
  obtain ⟨A, cap, rfl, -, -⟩ := hO.ops
  have Ow7 : Hid (OwnT w7 w.heap.size (.slice A 2 cap) [(x0, x1, x2), (6, 0, 0)]) := hO.lift Uw6.out.size
  clear hO
  have Rw7 := Lib.hid (Rw6.out.all hb7)
  have Uw7 : Hid (Below w.heap.size w w7) := up Uw6.out hb7
  have Pw7 := Lib.hid (Pw6.out.all hb7)
  have Hw7 := Lib.hid (Hw6.out.all hb7)
  clear Rw6 Uw6 Pw6 Hw6 hb7
  go_wp2_with fail
  refine (rins_any ⟨#[76, 68]⟩ A 2 cap w7).mono ?_
  rintro e w8 ⟨rfl, hb8⟩
  have Rw8 := Lib.hid (Rw7.out.all hb8)
  have Uw8 : Hid (Below w.heap.size w w8) := up Uw7.out hb8
  have Pw8 := Lib.hid (Pw7.out.all hb8)
  have Hw8 := Lib.hid (Hw7.out.all hb8)
  have Ow8 := Lib.hid (Ow7.out.below hb8)
  clear Rw7 Uw7 Pw7 Hw7 Ow7 hb8
  obtain ⟨z0, z1, z2, z3⟩ := Rw8.out.cells
  go_wp2
  obtain ⟨wz, hwz, q1, q2, q3⟩ := ri_put Rw8.out ⟨#[76, 68]⟩ (.slice A 2 cap)
  rw [hwz]
  obtain ⟨s0, s1⟩ := q1.cells
  refine bodyPost_ret (v := .tuple #[.agg #[.string ⟨#[76, 68]⟩, (.slice A 2 cap)], .string ⟨#[110]⟩]) ?_ rfl ?_
  · simp [results, Tryz.results55, go_sem, s0, s1]
  · exact ⟨_, rfl, (by rw [HX.out]; exact own_put Rw8.out Ow8.out q3), Uw8.out.trans (q2.mono (by rw [HN.out]; omega))⟩
theorem low_7_0 (w : World) : Calls Tryz.prog 55 #[.int .i64 0, .int .i64 7] w (RetI w [82, 76, 67, 65] [] []) := by
  obtain ⟨w0, hw0, rz0, bl0⟩ := ri_start w
  obtain ⟨n, hn⟩ : ∃ n, w.heap.size = n := ⟨_, rfl⟩
  have Rw0 : Hid (Rz w0 n) := by rw [← hn]; exact rz0
  have Uw0 : Hid (Below w.heap.size w w0) := bl0
  have HN := Lib.hid hn
  clear rz0 bl0
  go_enter Tryz.func55, Tryz.ntmps55
  obtain ⟨⟨p0, p1, p2⟩, hp⟩ : ∃ x : Tr, rpT (0) 3 = x := ⟨_, rfl⟩
  have HP := Lib.hid hp
  have hrp := rrp_any (0) 3 w0
  rw [hp] at hrp
  clear hp
  go_wp2_with fail
  refine hrp.mono ?_
  rintro e w1 ⟨rfl, hb1⟩
  have Rw1 := Lib.hid (Rw0.out.all hb1)
  have Uw1 : Hid (Below w.heap.size w w1) := up Uw0.out hb1
  clear Rw0 Uw0 hb1
  clear hrp hw0
  simp only [trV]
  go_upto_region 2 with fail
  obtain ⟨bP, hbP⟩ : ∃ b, w1.heap.size = b := ⟨_, rfl⟩
  obtain ⟨w2, hw2⟩ : ∃ v, w1.alloc (.cells #[.int .i64 p0, .int .i64 p1, .int .i64 p2] 69) = v := ⟨_, rfl⟩
  have hb2 : Below w1.heap.size w1 w2 := by rw [← hw2]; exact up_alloc _ _
  have Pw2 : Hid (OpV w2 bP (p0, p1, p2)) := by rw [← hw2, ← hbP]; exact opv_new _ _ _ _
  rw [hw2, hbP]
  clear hw2
  have Rw2 := Lib.hid (Rw1.out.all hb2)
  have Uw2 : Hid (Below w.heap.size w w2) := up Uw1.out hb2
  clear Rw1 Uw1 hb2
  go_wp2_with fail
  refine (rrp_any 2 3 w2).mono ?_
  rintro e w3 ⟨rfl, hb3⟩
  have Rw3 := Lib.hid (Rw2.out.all hb3)
  have Uw3 : Hid (Below w.heap.size w w3) := up Uw2.out hb3
  have Pw3 := Lib.hid (Pw2.out.all hb3)
  clear Rw2 Uw2 Pw2 hb3
  simp only [trV]
  simp only [rpT, show ¬ ((2 : Int) = 3) by decide, if_false]
  go_upto_region 4 with fail
  obtain ⟨bH, hbH⟩ : ∃ b, w3.heap.size = b := ⟨_, rfl⟩
  obtain ⟨w4, hw4⟩ : ∃ v, w3.alloc (.cells #[.int .i64 3, .int .i64 2, .int .i64 0] 69) = v := ⟨_, rfl⟩
  have hb4 : Below w3.heap.size w3 w4 := by rw [← hw4]; exact up_alloc _ _
  have Hw4 : Hid (OpV w4 bH (3, 2, 0)) := by rw [← hw4, ← hbH]; exact opv_new _ _ _ _
  rw [hw4, hbH]
  clear hw4
  have Rw4 := Lib.hid (Rw3.out.all hb4)
  have Uw4 : Hid (Below w.heap.size w w4) := up Uw3.out hb4
  have Pw4 := Lib.hid (Pw3.out.all hb4)
  clear Rw3 Uw3 Pw3 hb4
  go_wp2_with fail
  obtain ⟨w5, hw5⟩ : ∃ v, w4.alloc (.cells #[.string ⟨#[82, 76, 67, 65]⟩, .string ⟨#[82, 82, 67, 65]⟩, .string ⟨#[82, 76, 65]⟩, .string ⟨#[82, 82, 65]⟩, .string ⟨#[68, 65, 65]⟩, .string ⟨#[67, 80, 76]⟩, .string ⟨#[83, 67, 70]⟩, .string ⟨#[67, 67, 70]⟩] 9) = v := ⟨_, rfl⟩
  have hb5 : Below w4.heap.size w4 w5 := by rw [← hw5]; exact up_alloc _ _
  rw [hw5]
  clear hw5
  have Rw5 := Lib.hid (Rw4.out.all hb5)
  have Uw5 : Hid (Below w.heap.size w w5) := up Uw4.out hb5
  have Pw5 := Lib.hid (Pw4.out.all hb5)
  have Hw5 := Lib.hid (Hw4.out.all hb5)
  clear Rw4 Uw4 Pw4 Hw4 hb5
  refine (rins_any ⟨#[82, 76, 67, 65]⟩ none 0 0 w5).mono ?_
  rintro e w6 ⟨rfl, hb6⟩
  have Rw6 := Lib.hid (Rw5.out.all hb6)
  have Uw6 : Hid (Below w.heap.size w w6) := up Uw5.out hb6
  have Pw6 := Lib.hid (Pw5.out.all hb6)
  have Hw6 := Lib.hid (Hw5.out.all hb6)
  clear Rw5 Uw5 Pw5 Hw5 hb6
  obtain ⟨z0, z1, z2, z3⟩ := Rw6.out.cells
  go_wp2
  obtain ⟨wz, hwz, q1, q2, q3⟩ := ri_put Rw6.out ⟨#[82, 76, 67, 65]⟩ (.slice none 0 0)
  rw [hwz]
  obtain ⟨s0, s1⟩ := q1.cells
  refine bodyPost_ret (v := .tuple #[.agg #[.string ⟨#[82, 76, 67, 65]⟩, (.slice none 0 0)], .string ⟨#[]⟩]) ?_ rfl ?_
  · simp [results, Tryz.results55, go_sem, s0, s1]
  · exact ⟨_, rfl, World.ownsRow_nil _ _ _ _, Uw6.out.trans (q2.mono (by rw [HN.out]; omega))⟩
theorem low_7_1 (w : World) : Calls Tryz.prog 55 #[.int .i64 1, .int .i64 7] w (RetI w [82, 82, 67, 65] [] []) := by
  obtain ⟨w0, hw0, rz0, bl0⟩ := ri_start w
  obtain ⟨n, hn⟩ : ∃ n, w.heap.size = n := ⟨_, rfl⟩
  have Rw0 : Hid (Rz w0 n) := by rw [← hn]; exact rz0
  have Uw0 : Hid (Below w.heap.size w w0) := bl0
  have HN := Lib.hid hn
  clear rz0 bl0
  go_enter Tryz.func55, Tryz.ntmps55
  obtain ⟨⟨p0, p1, p2⟩, hp⟩ : ∃ x : Tr, rpT (0) 3 = x := ⟨_, rfl⟩
  have HP := Lib.hid hp
  have hrp := rrp_any (0) 3 w0
  rw [hp] at hrp
  clear hp
  go_wp2_with fail
  refine hrp.mono ?_
  rintro e w1 ⟨rfl, hb1⟩
  have Rw1 := Lib.hid (Rw0.out.all hb1)
  have Uw1 : Hid (Below w.heap.size w w1) := up Uw0.out hb1
  clear Rw0 Uw0 hb1
  clear hrp hw0
  simp only [trV]
  go_upto_region 2 with fail
  obtain ⟨bP, hbP⟩ : ∃ b, w1.heap.size = b := ⟨_, rfl⟩
  obtain ⟨w2, hw2⟩ : ∃ v, w1.alloc (.cells #[.int .i64 p0, .int .i64 p1, .int .i64 p2] 69) = v := ⟨_, rfl⟩
  have hb2 : Below w1.heap.size w1 w2 := by rw [← hw2]; exact up_alloc _ _
  have Pw2 : Hid (OpV w2 bP (p0, p1, p2)) := by rw [← hw2, ← hbP]; exact opv_new _ _ _ _
  rw [hw2, hbP]
  clear hw2
  have Rw2 := Lib.hid (Rw1.out.all hb2)
  have Uw2 : Hid (Below w.heap.size w w2) := up Uw1.out hb2
  clear Rw1 Uw1 hb2
  go_wp2_with fail
  refine (rrp_any 2 3 w2).mono ?_
  rintro e w3 ⟨rfl, hb3⟩
  have Rw3 := Lib.hid (Rw2.out.all hb3)
  have Uw3 : Hid (Below w.heap.size w w3) := up Uw2.out hb3
  have Pw3 := Lib.hid (Pw2.out.all hb3)
  clear Rw2 Uw2 Pw2 hb3
  simp only [trV]
  simp only [rpT, show ¬ ((2 : Int) = 3) by decide, if_false]
  go_upto_region 4 with fail
  obtain ⟨bH, hbH⟩ : ∃ b, w3.heap.size = b := ⟨_, rfl⟩
  obtain ⟨w4, hw4⟩ : ∃ v, w3.alloc (.cells #[.int .i64 3, .int .i64 2, .int .i64 0] 69) = v := ⟨_, rfl⟩
  have hb4 : Below w3.heap.size w3 w4 := by rw [← hw4]; exact up_alloc _ _
  have Hw4 : Hid (OpV w4 bH (3, 2, 0)) := by rw [← hw4, ← hbH]; exact opv_new _ _ _ _
  rw [hw4, hbH]
  clear hw4
  have Rw4 := Lib.hid (Rw3.out.all hb4)
  have Uw4 : Hid (Below w.heap.size w w4) := up Uw3.out hb4
  have Pw4 := Lib.hid (Pw3.out.all hb4)
  clear Rw3 Uw3 Pw3 hb4
  go_wp2_with fail
  obtain ⟨w5, hw5⟩ : ∃ v, w4.alloc (.cells #[.string ⟨#[82, 76, 67, 65]⟩, .string ⟨#[82, 82, 67, 65]⟩, .string ⟨#[82, 76, 65]⟩, .string ⟨#[82, 82, 65]⟩, .string ⟨#[68, 65, 65]⟩, .string ⟨#[67, 80, 76]⟩, .string ⟨#[83, 67, 70]⟩, .string ⟨#[67, 67, 70]⟩] 9) = v := ⟨_, rfl⟩
  have hb5 : Below w4.heap.size w4 w5 := by rw [← hw5]; exact up_alloc _ _
  rw [hw5]
  clear hw5
  have Rw5 := Lib.hid (Rw4.out.all hb5)
  have Uw5 : Hid (Below w.heap.size w w5) := up Uw4.out hb5
  have Pw5 := Lib.hid (Pw4.out.all hb5)
  have Hw5 := Lib.hid (Hw4.out.all hb5)
  clear Rw4 Uw4 Pw4 Hw4 hb5
  refine (rins_any ⟨#[82, 82, 67, 65]⟩ none 0 0 w5).mono ?_
  rintro e w6 ⟨rfl, hb6⟩
  have Rw6 := Lib.hid (Rw5.out.all hb6)
  have Uw6 : Hid (Below w.heap.size w w6) := up Uw5.out hb6
  have Pw6 := Lib.hid (Pw5.out.all hb6)
  have Hw6 := Lib.hid (Hw5.out.all hb6)
  clear Rw5 Uw5 Pw5 Hw5 hb6
  obtain ⟨z0, z1, z2, z3⟩ := Rw6.out.cells
  go_wp2
  obtain ⟨wz, hwz, q1, q2, q3⟩ := ri_put Rw6.out ⟨#[82, 82, 67, 65]⟩ (.slice none 0 0)
  rw [hwz]
  obtain ⟨s0, s1⟩ := q1.cells
  refine bodyPost_ret (v := .tuple #[.agg #[.string ⟨#[82, 82, 67, 65]⟩, (.slice none 0 0)], .string ⟨#[]⟩]) ?_ rfl ?_
  · simp [results, Tryz.results55, go_sem, s0, s1]
  · exact ⟨_, rfl, World.ownsRow_nil _ _ _ _, Uw6.out.trans (q2.mono (by rw [HN.out]; omega))⟩
theorem low_7_2 (w : World) : Calls Tryz.prog 55 #[.int .i64 2, .int .i64 7] w (RetI w [82, 76, 65] [] []) := by
  obtain ⟨w0, hw0, rz0, bl0⟩ := ri_start w
  obtain ⟨n, hn⟩ : ∃ n, w.heap.size = n := ⟨_, rfl⟩
  have Rw0 : Hid (Rz w0 n) := by rw [← hn]; exact rz0
  have Uw0 : Hid (Below w.heap.size w w0) := bl0
  have HN := Lib.hid hn
  clear rz0 bl0
  go_enter Tryz.func55, Tryz.ntmps55
  obtain ⟨⟨p0, p1, p2⟩, hp⟩ : ∃ x : Tr, rpT (1) 3 = x := ⟨_, rfl⟩
  have HP := Lib.hid hp
  have hrp := rrp_any (1) 3 w0
  rw [hp] at hrp
  clear hp
  go_wp2_with fail
  refine hrp.mono ?_
  rintro e w1 ⟨rfl, hb1⟩
  have Rw1 := Lib.hid (Rw0.out.all hb1)
  have Uw1 : Hid (Below w.heap.size w w1) := up Uw0.out hb1
  clear Rw0 Uw0 hb1
  clear hrp hw0
  simp only [trV]
  go_upto_region 2 with fail
  obtain ⟨bP, hbP⟩ : ∃ b, w1.heap.size = b := ⟨_, rfl⟩
  obtain ⟨w2, hw2⟩ : ∃ v, w1.alloc (.cells #[.int .i64 p0, .int .i64 p1, .int .i64 p2] 69) = v := ⟨_, rfl⟩
  have hb2 : Below w1.heap.size w1 w2 := by rw [← hw2]; exact up_alloc _ _
  have Pw2 : Hid (OpV w2 bP (p0, p1, p2)) := by rw [← hw2, ← hbP]; exact opv_new _ _ _ _
  rw [hw2, hbP]
  clear hw2
  have Rw2 := Lib.hid (Rw1.out.all hb2)
  have Uw2 : Hid (Below w.heap.size w w2) := up Uw1.out hb2
  clear Rw1 Uw1 hb2
  go_wp2_with fail
  refine (rrp_any 2 3 w2).mono ?_
  rintro e w3 ⟨rfl, hb3⟩
  have Rw3 := Lib.hid (Rw2.out.all hb3)
  have Uw3 : Hid (Below w.heap.size w w3) := up Uw2.out hb3
  have Pw3 := Lib.hid (Pw2.out.all hb3)
  clear Rw2 Uw2 Pw2 hb3
  simp only [trV]
  simp only [rpT, show ¬ ((2 : Int) = 3) by decide, if_false]
  go_upto_region 4 with fail
  obtain ⟨bH, hbH⟩ : ∃ b, w3.heap.size = b := ⟨_, rfl⟩
  obtain ⟨w4, hw4⟩ : ∃ v, w3.alloc (.cells #[.int .i64 3, .int .i64 2, .int .i64 0] 69) = v := ⟨_, rfl⟩
  have hb4 : Below w3.heap.size w3 w4 := by rw [← hw4]; exact up_alloc _ _
  have Hw4 : Hid (OpV w4 bH (3, 2, 0)) := by rw [← hw4, ← hbH]; exact opv_new _ _ _ _
  rw [hw4, hbH]
  clear hw4
  have Rw4 := Lib.hid (Rw3.out.all hb4)
  have Uw4 : Hid (Below w.heap.size w w4) := up Uw3.out hb4
  have Pw4 := Lib.hid (Pw3.out.all hb4)
  clear Rw3 Uw3 Pw3 hb4
  go_wp2_with fail
  obtain ⟨w5, hw5⟩ : ∃ v, w4.alloc (.cells #[.string ⟨#[82, 76, 67, 65]⟩, .string ⟨#[82, 82, 67, 65]⟩, .string ⟨#[82, 76, 65]⟩, .string ⟨#[82, 82, 65]⟩, .string ⟨#[68, 65, 65]⟩, .string ⟨#[67, 80, 76]⟩, .string ⟨#[83, 67, 70]⟩, .string ⟨#[67, 67, 70]⟩] 9) = v := ⟨_, rfl⟩
  have hb5 : Below w4.heap.size w4 w5 := by rw [← hw5]; exact up_alloc _ _
  rw [hw5]
  clear hw5
  have Rw5 := Lib.hid (Rw4.out.all hb5)
  have Uw5 : Hid (Below w.heap.size w w5) := up Uw4.out hb5
  have Pw5 := Lib.hid (Pw4.out.all hb5)
  have Hw5 := Lib.hid (Hw4.out.all hb5)
  clear Rw4 Uw4 Pw4 Hw4 hb5
  refine (rins_any ⟨#[82, 76, 65]⟩ none 0 0 w5).mono ?_
  rintro e w6 ⟨rfl, hb6⟩
  have Rw6 := Lib.hid (Rw5.out.all hb6)
  have Uw6 : Hid (Below w.heap.size w w6) := up Uw5.out hb6
  have Pw6 := Lib.hid (Pw5.out.all hb6)
  have Hw6 := Lib.hid (Hw5.out.all hb6)
  clear Rw5 Uw5 Pw5 Hw5 hb6
  obtain ⟨z0, z1, z2, z3⟩ := Rw6.out.cells
  go_wp2
  obtain ⟨wz, hwz, q1, q2, q3⟩ := ri_put Rw6.out ⟨#[82, 76, 65]⟩ (.slice none 0 0)
  rw [hwz]
  obtain ⟨s0, s1⟩ := q1.cells
  refine bodyPost_ret (v := .tuple #[.agg #[.string ⟨#[82, 76, 65]⟩, (.slice none 0 0)], .string ⟨#[]⟩]) ?_ rfl ?_
  · simp [results, Tryz.results55, go_sem, s0, s1]
  · exact ⟨_, rfl, World.ownsRow_nil _ _ _ _, Uw6.out.trans (q2.mono (by rw [HN.out]; omega))⟩
theorem low_7_3 (w : World) : Calls Tryz.prog 55 #[.int .i64 3, .int .i64 7] w (RetI w [82, 82, 65] [] []) := by
  obtain ⟨w0, hw0, rz0, bl0⟩ := ri_start w
  obtain ⟨n, hn⟩ : ∃ n, w.heap.size = n := ⟨_, rfl⟩
  have Rw0 : Hid (Rz w0 n) := by rw [← hn]; exact rz0
  have Uw0 : Hid (Below w.heap.size w w0) := bl0
  have HN := Lib.hid hn
  clear rz0 bl0
  go_enter Tryz.func55, Tryz.ntmps55
  obtain ⟨⟨p0, p1, p2⟩, hp⟩ : ∃ x : Tr, rpT (1) 3 = x := ⟨_, rfl⟩
  have HP := Lib.hid hp
  have hrp := rrp_any (1) 3 w0
  rw [hp] at hrp
  clear hp
  go_wp2_with fail
  refine hrp.mono ?_
  rintro e w1 ⟨rfl, hb1⟩
  have Rw1 := Lib.hid (Rw0.out.all hb1)
  have Uw1 : Hid (Below w.heap.size w w1) := up Uw0.out hb1
  clear Rw0 Uw0 hb1
  clear hrp hw0
  simp only [trV]
  go_upto_region 2 with fail
  obtain ⟨bP, hbP⟩ : ∃ b, w1.heap.size = b := ⟨_, rfl⟩
  obtain ⟨w2, hw2⟩ : ∃ v, w1.alloc (.cells #[.int .i64 p0, .int .i64 p1, .int .i64 p2] 69) = v := ⟨_, rfl⟩
  have hb2 : Below w1.heap.size w1 w2 := by rw [← hw2]; exact up_alloc _ _
  have Pw2 : Hid (OpV w2 bP (p0, p1, p2)) := by rw [← hw2, ← hbP]; exact opv_new _ _ _ _
  rw [hw2, hbP]
  clear hw2
  have Rw2 := Lib.hid (Rw1.out.all hb2)
  have Uw2 : Hid (Below w.heap.size w w2) := up Uw1.out hb2
  clear Rw1 Uw1 hb2
  go_wp2_with fail
  refine (rrp_any 2 3 w2).mono ?_
  rintro e w3 ⟨rfl, hb3⟩
  have Rw3 := Lib.hid (Rw2.out.all hb3)
  have Uw3 : Hid (Below w.heap.size w w3) := up Uw2.out hb3
  have Pw3 := Lib.hid (Pw2.out.all hb3)
  clear Rw2 Uw2 Pw2 hb3
  simp only [trV]
  simp only [rpT, show ¬ ((2 : Int) = 3) by decide, if_false]
  go_upto_region 4 with fail
  obtain ⟨bH, hbH⟩ : ∃ b, w3.heap.size = b := ⟨_, rfl⟩
  obtain ⟨w4, hw4⟩ : ∃ v, w3.alloc (.cells #[.int .i64 3, .int .i64 2, .int .i64 0] 69) = v := ⟨_, rfl⟩
  have hb4 : Below w3.heap.size w3 w4 := by rw [← hw4]; exact up_alloc _ _
  have Hw4 : Hid (OpV w4 bH (3, 2, 0)) := by rw [← hw4, ← hbH]; exact opv_new _ _ _ _
  rw [hw4, hbH]
  clear hw4
  have Rw4 := Lib.hid (Rw3.out.all hb4)
  have Uw4 : Hid (Below w.heap.size w w4) := up Uw3.out hb4
  have Pw4 := Lib.hid (Pw3.out.all hb4)
  clear Rw3 Uw3 Pw3 hb4
  go_wp2_with fail
  obtain ⟨w5, hw5⟩ : ∃ v, w4.alloc (.cells #[.string ⟨#[82, 76, 67, 65]⟩, .string ⟨#[82, 82, 67, 65]⟩, .string ⟨#[82, 76, 65]⟩, .string ⟨#[82, 82, 65]⟩, .string ⟨#[68, 65, 65]⟩, .string ⟨#[67, 80, 76]⟩, .string ⟨#[83, 67, 70]⟩, .string ⟨#[67, 67, 70]⟩] 9) = v := ⟨_, rfl⟩
  have hb5 : Below w4.heap.size w4 w5 := by rw [← hw5]; exact up_alloc _ _
  rw [hw5]
  clear hw5
  have Rw5 := Lib.hid (Rw4.out.all hb5)
  have Uw5 : Hid (Below w.heap.size w w5) := up Uw4.out hb5
  have Pw5 := Lib.hid (Pw4.out.all hb5)
  have Hw5 := Lib.hid (Hw4.out.all hb5)
  clear Rw4 Uw4 Pw4 Hw4 hb5
  refine (rins_any ⟨#[82, 82, 65]⟩ none 0 0 w5).mono ?_
  rintro e w6 ⟨rfl, hb6⟩
  have Rw6 := Lib.hid (Rw5.out.all hb6)
  have Uw6 : Hid (Below w.heap.size w w6) := up Uw5.out hb6
  have Pw6 := Lib.hid (Pw5.out.all hb6)
  have Hw6 := Lib.hid (Hw5.out.all hb6)
  clear Rw5 Uw5 Pw5 Hw5 hb6
  obtain ⟨z0, z1, z2, z3⟩ := Rw6.out.cells
  go_wp2
  obtain ⟨wz, hwz, q1, q2, q3⟩ := ri_put Rw6.out ⟨#[82, 82, 65]⟩ (.slice none 0 0)
  rw [hwz]
  obtain ⟨s0, s1⟩ := q1.cells
  refine bodyPost_ret (v := .tuple #[.agg #[.string ⟨#[82, 82, 65]⟩, (.slice none 0 0)], .string ⟨#[]⟩]) ?_ rfl ?_
  · simp [results, Tryz.results55, go_sem, s0, s1]
  · exact ⟨_, rfl, World.ownsRow_nil _ _ _ _, Uw6.out.trans (q2.mono (by rw [HN.out]; omega))⟩
theorem low_7_4 (w : World) : Calls Tryz.prog 55 #[.int .i64 4, .int .i64 7] w (RetI w [68, 65, 65] [] []) := by
  obtain ⟨w0, hw0, rz0, bl0⟩ := ri_start w
  obtain ⟨n, hn⟩ : ∃ n, w.heap.size = n := ⟨_, rfl⟩
  have Rw0 : Hid (Rz w0 n) := by rw [← hn]; exact rz0
  have Uw0 : Hid (Below w.heap.size w w0) := bl0
  have HN := Lib.hid hn
  clear rz0 bl0
  go_enter Tryz.func55, Tryz.ntmps55
  obtain ⟨⟨p0, p1, p2⟩, hp⟩ : ∃ x : Tr, rpT (2) 3 = x := ⟨_, rfl⟩
  have HP := Lib.hid hp
  have hrp := rrp_any (2) 3 w0
  rw [hp] at hrp
  clear hp
  go_wp2_with fail
  refine hrp.mono ?_
  rintro e w1 ⟨rfl, hb1⟩
  have Rw1 := Lib.hid (Rw0.out.all hb1)
  have Uw1 : Hid (Below w.heap.size w w1) := up Uw0.out hb1
  clear Rw0 Uw0 hb1
  clear hrp hw0
  simp only [trV]
  go_upto_region 2 with fail
  obtain ⟨bP, hbP⟩ : ∃ b, w1.heap.size = b := ⟨_, rfl⟩
  obtain ⟨w2, hw2⟩ : ∃ v, w1.alloc (.cells #[.int .i64 p0, .int .i64 p1, .int .i64 p2] 69) = v := ⟨_, rfl⟩
  have hb2 : Below w1.heap.size w1 w2 := by rw [← hw2]; exact up_alloc _ _
  have Pw2 : Hid (OpV w2 bP (p0, p1, p2)) := by rw [← hw2, ← hbP]; exact opv_new _ _ _ _
  rw [hw2, hbP]
  clear hw2
  have Rw2 := Lib.hid (Rw1.out.all hb2)
  have Uw2 : Hid (Below w.heap.size w w2) := up Uw1.out hb2
  clear Rw1 Uw1 hb2
  go_wp2_with fail
  refine (rrp_any 2 3 w2).mono ?_
  rintro e w3 ⟨rfl, hb3⟩
  have Rw3 := Lib.hid (Rw2.out.all hb3)
  have Uw3 : Hid (Below w.heap.size w w3) := up Uw2.out hb3
  have Pw3 := Lib.hid (Pw2.out.all hb3)
  clear Rw2 Uw2 Pw2 hb3
  simp only [trV]
  simp only [rpT, show ¬ ((2 : Int) = 3) by decide, if_false]
  go_upto_region 4 with fail
  obtain ⟨bH, hbH⟩ : ∃ b, w3.heap.size = b := ⟨_, rfl⟩
  obtain ⟨w4, hw4⟩ : ∃ v, w3.alloc (.cells #[.int .i64 3, .int .i64 2, .int .i64 0] 69) = v := ⟨_, rfl⟩
  have hb4 : Below w3.heap.size w3 w4 := by rw [← hw4]; exact up_alloc _ _
  have Hw4 : Hid (OpV w4 bH (3, 2, 0)) := by rw [← hw4, ← hbH]; exact opv_new _ _ _ _
  rw [hw4, hbH]
  clear hw4
  have Rw4 := Lib.hid (Rw3.out.all hb4)
  have Uw4 : Hid (Below w.heap.size w w4) := up Uw3.out hb4
  have Pw4 := Lib.hid (Pw3.out.all hb4)
  clear Rw3 Uw3 Pw3 hb4
  go_wp2_with fail
  obtain ⟨w5, hw5⟩ : ∃ v, w4.alloc (.cells #[.string ⟨#[82, 76, 67, 65]⟩, .string ⟨#[82, 82, 67, 65]⟩, .string ⟨#[82, 76, 65]⟩, .string ⟨#[82, 82, 65]⟩, .string ⟨#[68, 65, 65]⟩, .string ⟨#[67, 80, 76]⟩, .string ⟨#[83, 67, 70]⟩, .string ⟨#[67, 67, 70]⟩] 9) = v := ⟨_, rfl⟩
  have hb5 : Below w4.heap.size w4 w5 := by rw [← hw5]; exact up_alloc _ _
  rw [hw5]
  clear hw5
  have Rw5 := Lib.hid (Rw4.out.all hb5)
  have Uw5 : Hid (Below w.heap.size w w5) := up Uw4.out hb5
  have Pw5 := Lib.hid (Pw4.out.all hb5)
  have Hw5 := Lib.hid (Hw4.out.all hb5)
  clear Rw4 Uw4 Pw4 Hw4 hb5
  refine (rins_any ⟨#[68, 65, 65]⟩ none 0 0 w5).mono ?_
  rintro e w6 ⟨rfl, hb6⟩
  have Rw6 := Lib.hid (Rw5.out.all hb6)
  have Uw6 : Hid (Below w.heap.size w w6) := up Uw5.out hb6
  have Pw6 := Lib.hid (Pw5.out.all hb6)
  have Hw6 := Lib.hid (Hw5.out.all hb6)
  clear Rw5 Uw5 Pw5 Hw5 hb6
  obtain ⟨z0, z1, z2, z3⟩ := Rw6.out.cells
  go_wp2
  obtain ⟨wz, hwz, q1, q2, q3⟩ := ri_put Rw6.out ⟨#[68, 65, 65]⟩ (.slice none 0 0)
  rw [hwz]
  obtain ⟨s0, s1⟩ := q1.cells
  refine bodyPost_ret (v := .tuple #[.agg #[.string ⟨#[68, 65, 65]⟩, (.slice none 0 0)], .string ⟨#[]⟩]) ?_ rfl ?_
  · simp [results, Tryz.results55, go_sem, s0, s1]
  · exact ⟨_, rfl, World.ownsRow_nil _ _ _ _, Uw6.out.trans (q2.mono (by rw [HN.out]; omega))⟩
theorem low_7_5 (w : World) : Calls Tryz.prog 55 #[.int .i64 5, .int .i64 7] w (RetI w [67, 80, 76] [] []) := by
  obtain ⟨w0, hw0, rz0, bl0⟩ := ri_start w
  obtain ⟨n, hn⟩ : ∃ n, w.heap.size = n := ⟨_, rfl⟩
  have Rw0 : Hid (Rz w0 n) := by rw [← hn]; exact rz0
  have Uw0 : Hid (Below w.heap.size w w0) := bl0
  have HN := Lib.hid hn
  clear rz0 bl0
  go_enter Tryz.func55, Tryz.ntmps55
  obtain ⟨⟨p0, p1, p2⟩, hp⟩ : ∃ x : Tr, rpT (2) 3 = x := ⟨_, rfl⟩
  have HP := Lib.hid hp
  have hrp := rrp_any (2) 3 w0
  rw [hp] at hrp
  clear hp
  go_wp2_with fail
  refine hrp.mono ?_
  rintro e w1 ⟨rfl, hb1⟩
  have Rw1 := Lib.hid (Rw0.out.all hb1)
  have Uw1 : Hid (Below w.heap.size w w1) := up Uw0.out hb1
  clear Rw0 Uw0 hb1
  clear hrp hw0
  simp only [trV]
  go_upto_region 2 with fail
  obtain ⟨bP, hbP⟩ : ∃ b, w1.heap.size = b := ⟨_, rfl⟩
  obtain ⟨w2, hw2⟩ : ∃ v, w1.alloc (.cells #[.int .i64 p0, .int .i64 p1, .int .i64 p2] 69) = v := ⟨_, rfl⟩
  have hb2 : Below w1.heap.size w1 w2 := by rw [← hw2]; exact up_alloc _ _
  have Pw2 : Hid (OpV w2 bP (p0, p1, p2)) := by rw [← hw2, ← hbP]; exact opv_new _ _ _ _
  rw [hw2, hbP]
  clear hw2
  have Rw2 := Lib.hid (Rw1.out.all hb2)
  have Uw2 : Hid (Below w.heap.size w w2) := up Uw1.out hb2
  clear Rw1 Uw1 hb2
  go_wp2_with fail
  refine (rrp_any 2 3 w2).mono ?_
  rintro e w3 ⟨rfl, hb3⟩
  have Rw3 := Lib.hid (Rw2.out.all hb3)
  have Uw3 : Hid (Below w.heap.size w w3) := up Uw2.out hb3
  have Pw3 := Lib.hid (Pw2.out.all hb3)
  clear Rw2 Uw2 Pw2 hb3
  simp only [trV]
  simp only [rpT, show ¬ ((2 : Int) = 3) by decide, if_false]
  go_upto_region 4 with fail
  obtain ⟨bH, hbH⟩ : ∃ b, w3.heap.size = b := ⟨_, rfl⟩
  obtain ⟨w4, hw4⟩ : ∃ v, w3.alloc (.cells #[.int .i64 3, .int .i64 2, .int .i64 0] 69) = v := ⟨_, rfl⟩
  have hb4 : Below w3.heap.size w3 w4 := by rw [← hw4]; exact up_alloc _ _
  have Hw4 : Hid (OpV w4 bH (3, 2, 0)) := by rw [← hw4, ← hbH]; exact opv_new _ _ _ _
  rw [hw4, hbH]
  clear hw4
  have Rw4 := Lib.hid (Rw3.out.all hb4)
  have Uw4 : Hid (Below w.heap.size w w4) := up Uw3.out hb4
  have Pw4 := Lib.hid (Pw3.out.all hb4)
  clear Rw3 Uw3 Pw3 hb4
  go_wp2_with fail
  obtain ⟨w5, hw5⟩ : ∃ v, w4.alloc (.cells #[.string ⟨#[82, 76, 67, 65]⟩, .string ⟨#[82, 82, 67, 65]⟩, .string ⟨#[82, 76, 65]⟩, .string ⟨#[82, 82, 65]⟩, .string ⟨#[68, 65, 65]⟩, .string ⟨#[67, 80, 76]⟩, .string ⟨#[83, 67, 70]⟩, .string ⟨#[67, 67, 70]⟩] 9) = v := ⟨_, rfl⟩
  have hb5 : Below w4.heap.size w4 w5 := by rw [← hw5]; exact up_alloc _ _
  rw [hw5]
  clear hw5
  have Rw5 := Lib.hid (Rw4.out.all hb5)
  have Uw5 : Hid (Below w.heap.size w w5) := up Uw4.out hb5
  have Pw5 := Lib.hid (Pw4.out.all hb5)
  have Hw5 := Lib.hid (Hw4.out.all hb5)
  clear Rw4 Uw4 Pw4 Hw4 hb5
  refine (rins_any ⟨#[67, 80, 76]⟩ none 0 0 w5).mono ?_
  rintro e w6 ⟨rfl, hb6⟩
  have Rw6 := Lib.hid (Rw5.out.all hb6)
  have Uw6 : Hid (Below w.heap.size w w6) := up Uw5.out hb6
  have Pw6 := Lib.hid (Pw5.out.all hb6)
  have Hw6 := Lib.hid (Hw5.out.all hb6)
  clear Rw5 Uw5 Pw5 Hw5 hb6
  obtain ⟨z0, z1, z2, z3⟩ := Rw6.out.cells
  go_wp2
  obtain ⟨wz, hwz, q1, q2, q3⟩ := ri_put Rw6.out ⟨#[67, 80, 76]⟩ (.slice none 0 0)
  rw [hwz]
  obtain ⟨s0, s1⟩ := q1.cells
  refine bodyPost_ret (v := .tuple #[.agg #[.string ⟨#[67, 80, 76]⟩, (.slice none 0 0)], .string ⟨#[]⟩]) ?_ rfl ?_
  · simp [results, Tryz.results55, go_sem, s0, s1]
  · exact ⟨_, rfl, World.ownsRow_nil _ _ _ _, Uw6.out.trans (q2.mono (by rw [HN.out]; omega))⟩
theorem low_7_6 (w : World) : Calls Tryz.prog 55 #[.int .i64 6, .int .i64 7] w (RetI w [83, 67, 70] [] []) := by
  obtain ⟨w0, hw0, rz0, bl0⟩ := ri_start w
  obtain ⟨n, hn⟩ : ∃ n, w.heap.size = n := ⟨_, rfl⟩
  have Rw0 : Hid (Rz w0 n) := by rw [← hn]; exact rz0
  have Uw0 : Hid (Below w.heap.size w w0) := bl0
  have HN := Lib.hid hn
  clear rz0 bl0
  go_enter Tryz.func55, Tryz.ntmps55
  obtain ⟨⟨p0, p1, p2⟩, hp⟩ : ∃ x : Tr, rpT (3) 3 = x := ⟨_, rfl⟩
  have HP := Lib.hid hp
  have hrp := rrp_any (3) 3 w0
  rw [hp] at hrp
  clear hp
  go_wp2_with fail
  refine hrp.mono ?_
  rintro e w1 ⟨rfl, hb1⟩
  have Rw1 := Lib.hid (Rw0.out.all hb1)
  have Uw1 : Hid (Below w.heap.size w w1) := up Uw0.out hb1
  clear Rw0 Uw0 hb1
  clear hrp hw0
  simp only [trV]
  go_upto_region 2 with fail
  obtain ⟨bP, hbP⟩ : ∃ b, w1.heap.size = b := ⟨_, rfl⟩
  obtain ⟨w2, hw2⟩ : ∃ v, w1.alloc (.cells #[.int .i64 p0, .int .i64 p1, .int .i64 p2] 69) = v := ⟨_, rfl⟩
  have hb2 : Below w1.heap.size w1 w2 := by rw [← hw2]; exact up_alloc _ _
  have Pw2 : Hid (OpV w2 bP (p0, p1, p2)) := by rw [← hw2, ← hbP]; exact opv_new _ _ _ _
  rw [hw2, hbP]
  clear hw2
  have Rw2 := Lib.hid (Rw1.out.all hb2)
  have Uw2 : Hid (Below w.heap.size w w2) := up Uw1.out hb2
  clear Rw1 Uw1 hb2
  go_wp2_with fail
  refine (rrp_any 2 3 w2).mono ?_
  rintro e w3 ⟨rfl, hb3⟩
  have Rw3 := Lib.hid (Rw2.out.all hb3)
  have Uw3 : Hid (Below w.heap.size w w3) := up Uw2.out hb3
  have Pw3 := Lib.hid (Pw2.out.all hb3)
  clear Rw2 Uw2 Pw2 hb3
  simp only [trV]
  simp only [rpT, show ¬ ((2 : Int) = 3) by decide, if_false]
  go_upto_region 4 with fail
  obtain ⟨bH, hbH⟩ : ∃ b, w3.heap.size = b := ⟨_, rfl⟩
  obtain ⟨w4, hw4⟩ : ∃ v, w3.alloc (.cells #[.int .i64 3, .int .i64 2, .int .i64 0] 69) = v := ⟨_, rfl⟩
  have hb4 : Below w3.heap.size w3 w4 := by rw [← hw4]; exact up_alloc _ _
  have Hw4 : Hid (OpV w4 bH (3, 2, 0)) := by rw [← hw4, ← hbH]; exact opv_new _ _ _ _
  rw [hw4, hbH]
  clear hw4
  have Rw4 := Lib.hid (Rw3.out.all hb4)
  have Uw4 : Hid (Below w.heap.size w w4) := up Uw3.out hb4
  have Pw4 := Lib.hid (Pw3.out.all hb4)
  clear Rw3 Uw3 Pw3 hb4
  go_wp2_with fail
  obtain ⟨w5, hw5⟩ : ∃ v, w4.alloc (.cells #[.string ⟨#[82, 76, 67, 65]⟩, .string ⟨#[82, 82, 67, 65]⟩, .string ⟨#[82, 76, 65]⟩, .string ⟨#[82, 82, 65]⟩, .string ⟨#[68, 65, 65]⟩, .string ⟨#[67, 80, 76]⟩, .string ⟨#[83, 67, 70]⟩, .string ⟨#[67, 67, 70]⟩] 9) = v := ⟨_, rfl⟩
  have hb5 : Below w4.heap.size w4 w5 := by rw [← hw5]; exact up_alloc _ _
  rw [hw5]
  clear hw5
  have Rw5 := Lib.hid (Rw4.out.all hb5)
  have Uw5 : Hid (Below w.heap.size w w5) := up Uw4.out hb5
  have Pw5 := Lib.hid (Pw4.out.all hb5)
  have Hw5 := Lib.hid (Hw4.out.all hb5)
  clear Rw4 Uw4 Pw4 Hw4 hb5
  refine (rins_any ⟨#[83, 67, 70]⟩ none 0 0 w5).mono ?_
  rintro e w6 ⟨rfl, hb6⟩
  have Rw6 := Lib.hid (Rw5.out.all hb6)
  have Uw6 : Hid (Below w.heap.size w w6) := up Uw5.out hb6
  have Pw6 := Lib.hid (Pw5.out.all hb6)
  have Hw6 := Lib.hid (Hw5.out.all hb6)
  clear Rw5 Uw5 Pw5 Hw5 hb6
  obtain ⟨z0, z1, z2, z3⟩ := Rw6.out.cells
  go_wp2
  obtain ⟨wz, hwz, q1, q2, q3⟩ := ri_put Rw6.out ⟨#[83, 67, 70]⟩ (.slice none 0 0)
  rw [hwz]
  obtain ⟨s0, s1⟩ := q1.cells
  refine bodyPost_ret (v := .tuple #[.agg #[.string ⟨#[83, 67, 70]⟩, (.slice none 0 0)], .string ⟨#[]⟩]) ?_ rfl ?_
  · simp [results, Tryz.results55, go_sem, s0, s1]
  · exact ⟨_, rfl, World.ownsRow_nil _ _ _ _, Uw6.out.trans (q2.mono (by rw [HN.out]; omega))⟩
theorem low_7_7 (w : World) : Calls Tryz.prog 55 #[.int .i64 7, .int .i64 7] w (RetI w [67, 67, 70] [] []) := by
  obtain ⟨w0, hw0, rz0, bl0⟩ := ri_start w
  obtain ⟨n, hn⟩ : ∃ n, w.heap.size = n := ⟨_, rfl⟩
  have Rw0 : Hid (Rz w0 n) := by rw [← hn]; exact rz0
  have Uw0 : Hid (Below w.heap.size w w0) := bl0
  have HN := Lib.hid hn
  clear rz0 bl0
  go_enter Tryz.func55, Tryz.ntmps55
  obtain ⟨⟨p0, p1, p2⟩, hp⟩ : ∃ x : Tr, rpT (3) 3 = x := ⟨_, rfl⟩
  have HP := Lib.hid hp
  have hrp := rrp_any (3) 3 w0
  rw [hp] at hrp
  clear hp
  go_wp2_with fail
  refine hrp.mono ?_
  rintro e w1 ⟨rfl, hb1⟩
  have Rw1 := Lib.hid (Rw0.out.all hb1)
  have Uw1 : Hid (Below w.heap.size w w1) := up Uw0.out hb1
  clear Rw0 Uw0 hb1
  clear hrp hw0
  simp only [trV]
  go_upto_region 2 with fail
  obtain ⟨bP, hbP⟩ : ∃ b, w1.heap.size = b := ⟨_, rfl⟩
  obtain ⟨w2, hw2⟩ : ∃ v, w1.alloc (.cells #[.int .i64 p0, .int .i64 p1, .int .i64 p2] 69) = v := ⟨_, rfl⟩
  have hb2 : Below w1.heap.size w1 w2 := by rw [← hw2]; exact up_alloc _ _
  have Pw2 : Hid (OpV w2 bP (p0, p1, p2)) := by rw [← hw2, ← hbP]; exact opv_new _ _ _ _
  rw [hw2, hbP]
  clear hw2
  have Rw2 := Lib.hid (Rw1.out.all hb2)
  have Uw2 : Hid (Below w.heap.size w w2) := up Uw1.out hb2
  clear Rw1 Uw1 hb2
  go_wp2_with fail
  refine (rrp_any 2 3 w2).mono ?_
  rintro e w3 ⟨rfl, hb3⟩
  have Rw3 := Lib.hid (Rw2.out.all hb3)
  have Uw3 : Hid (Below w.heap.size w w3) := up Uw2.out hb3
  have Pw3 := Lib.hid (Pw2.out.all hb3)
  clear Rw2 Uw2 Pw2 hb3
  simp only [trV]
  simp only [rpT, show ¬ ((2 : Int) = 3) by decide, if_false]
  go_upto_region 4 with fail
  obtain ⟨bH, hbH⟩ : ∃ b, w3.heap.size = b := ⟨_, rfl⟩
  obtain ⟨w4, hw4⟩ : ∃ v, w3.alloc (.cells #[.int .i64 3, .int .i64 2, .int .i64 0] 69) = v := ⟨_, rfl⟩
  have hb4 : Below w3.heap.size w3 w4 := by rw [← hw4]; exact up_alloc _ _
  have Hw4 : Hid (OpV w4 bH (3, 2, 0)) := by rw [← hw4, ← hbH]; exact opv_new _ _ _ _
  rw [hw4, hbH]
  clear hw4
  have Rw4 := Lib.hid (Rw3.out.all hb4)
  have Uw4 : Hid (Below w.heap.size w w4) := up Uw3.out hb4
  have Pw4 := Lib.hid (Pw3.out.all hb4)
  clear Rw3 Uw3 Pw3 hb4
  go_wp2_with fail
  obtain ⟨w5, hw5⟩ : ∃ v, w4.alloc (.cells #[.string ⟨#[82, 76, 67, 65]⟩, .string ⟨#[82, 82, 67, 65]⟩, .string ⟨#[82, 76, 65]⟩, .string ⟨#[82, 82, 65]⟩, .string ⟨#[68, 65, 65]⟩, .string ⟨#[67, 80, 76]⟩, .string ⟨#[83, 67, 70]⟩, .string ⟨#[67, 67, 70]⟩] 9) = v := ⟨_, rfl⟩
  have hb5 : Below w4.heap.size w4 w5 := by rw [← hw5]; exact up_alloc _ _
  rw [hw5]
  clear hw5
  have Rw5 := Lib.hid (Rw4.out.all hb5)
  have Uw5 : Hid (Below w.heap.size w w5) := up Uw4.out hb5
  have Pw5 := Lib.hid (Pw4.out.all hb5)
  have Hw5 := Lib.hid (Hw4.out.all hb5)
  clear Rw4 Uw4 Pw4 Hw4 hb5
  refine (rins_any ⟨#[67, 67, 70]⟩ none 0 0 w5).mono ?_
  rintro e w6 ⟨rfl, hb6⟩
  have Rw6 := Lib.hid (Rw5.out.all hb6)
  have Uw6 : Hid (Below w.heap.size w w6) := up Uw5.out hb6
  have Pw6 := Lib.hid (Pw5.out.all hb6)
  have Hw6 := Lib.hid (Hw5.out.all hb6)
  clear Rw5 Uw5 Pw5 Hw5 hb6
  obtain ⟨z0, z1, z2, z3⟩ := Rw6.out.cells
  go_wp2
  obtain ⟨wz, hwz, q1, q2, q3⟩ := ri_put Rw6.out ⟨#[67, 67, 70]⟩ (.slice none 0 0)
  rw [hwz]
  obtain ⟨s0, s1⟩ := q1.cells
  refine bodyPost_ret (v := .tuple #[.agg #[.string ⟨#[67, 67, 70]⟩, (.slice none 0 0)], .string ⟨#[]⟩]) ?_ rfl ?_
  · simp [results, Tryz.results55, go_sem, s0, s1]
  · exact ⟨_, rfl, World.ownsRow_nil _ _ _ _, Uw6.out.trans (q2.mono (by rw [HN.out]; omega))⟩
end Go.Proofs.YtipgecdfnbldnaaGreatDoor
