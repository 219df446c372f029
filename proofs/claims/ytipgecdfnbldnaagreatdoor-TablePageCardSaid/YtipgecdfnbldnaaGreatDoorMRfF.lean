/-
  The reference's high, but for z = 3.
-/
import Derived.Test.YtipgecdfnbldnaaGreatDoorMRfC
import Derived.Test.YtipgecdfnbldnaaGreatDoorReA
import Derived.Deep.DeepCutAuto
import Derived.Deep.Cut
import Derived.StillTail
import Derived.StillTailTactics
import Derived.Deep.RegionHeld3
import Derived.RegionTactic
set_option linter.all false
set_option maxRecDepth 100000
set_option maxHeartbeats 4000000
namespace Go.Proofs.YtipgecdfnbldnaaGreatDoor
open Go.RowKit Go.Shelf
attribute [local irreducible] Go.Mixed.wpMix
theorem high_0 (y : Int) (hy : 0 ≤ y ∧ y ≤ 7) (w : World) : Calls Tryz.prog 59 #[.int .i64 y, .int .i64 0] w (RetI w [82, 69, 84] [(8, y, 0)] []) := by
  obtain ⟨w0, hw0, rz0, bl0⟩ := ri_start w
  obtain ⟨n, hn⟩ : ∃ n, w.heap.size = n := ⟨_, rfl⟩
  have Rw0 : Hid (Rz w0 n) := by rw [← hn]; exact rz0
  have Uw0 : Hid (Below w.heap.size w w0) := bl0
  have HN := Lib.hid hn
  clear rz0 bl0
  go_enter Tryz.func59, Tryz.ntmps59
  go_wp2_with fail
  refine (rrp_any 2 3 w0).mono ?_
  rintro e w1 ⟨rfl, hb1⟩
  have Rw1 := Lib.hid (Rw0.out.all hb1)
  have Uw1 : Hid (Below w.heap.size w w1) := up Uw0.out hb1
  clear Rw0 Uw0 hb1
  clear hw0
  simp only [trV]
  simp only [rpT, show ¬ ((2 : Int) = 3) by decide, if_false]
  go_upto_region 2 with fail
  obtain ⟨bH, hbH⟩ : ∃ b, w1.heap.size = b := ⟨_, rfl⟩
  obtain ⟨w2, hw2⟩ : ∃ v, w1.alloc (.cells #[.int .i64 3, .int .i64 2, .int .i64 0] 69) = v := ⟨_, rfl⟩
  have hb2 : Below w1.heap.size w1 w2 := by rw [← hw2]; exact up_alloc _ _
  have Hw2 : Hid (OpV w2 bH (3, 2, 0)) := by rw [← hw2, ← hbH]; exact opv_new _ _ _ _
  rw [hw2, hbH]
  clear hw2 hbH
  have Rw2 := Lib.hid (Rw1.out.all hb2)
  have Uw2 : Hid (Below w.heap.size w w2) := up Uw1.out hb2
  clear Rw1 Uw1 hb2
  go_wp2_with fail
  refine (rcc_any y w2).mono ?_
  rintro e w3 ⟨rfl, hb3⟩
  have Rw3 := Lib.hid (Rw2.out.all hb3)
  have Uw3 : Hid (Below w.heap.size w w3) := up Uw2.out hb3
  have Hw3 := Lib.hid (Hw2.out.all hb3)
  clear Rw2 Uw2 Hw2 hb3
  simp only [trV]
  go_wp2_with fail
  refine (rone_any (8, y, 0) w3).mono ?_
  rintro e w4 ⟨v, rfl, hO, hb4⟩
  obtain ⟨A, cap, rfl, -, -⟩ := hO.ops
  have Ow4 : Hid (OwnT w4 w.heap.size (.slice A 1 cap) [(8, y, 0)]) := hO.lift Uw3.out.size
  clear hO
  have Rw4 := Lib.hid (Rw3.out.all hb4)
  have Uw4 : Hid (Below w.heap.size w w4) := up Uw3.out hb4
  have Hw4 := Lib.hid (Hw3.out.all hb4)
  clear Rw3 Uw3 Hw3 hb4
  go_wp2_with fail
  refine (rins_any ⟨#[82, 69, 84]⟩ A 1 cap w4).mono ?_
  rintro e w5 ⟨rfl, hb5⟩
  have Rw5 := Lib.hid (Rw4.out.all hb5)
  have Uw5 : Hid (Below w.heap.size w w5) := up Uw4.out hb5
  have Hw5 := Lib.hid (Hw4.out.all hb5)
  have Ow5 := Lib.hid (Ow4.out.below hb5)
  clear Rw4 Uw4 Hw4 Ow4 hb5
  obtain ⟨z0, z1, z2, z3⟩ := Rw5.out.cells
  go_wp2
  obtain ⟨wz, hwz, q1, q2, q3⟩ := ri_put Rw5.out ⟨#[82, 69, 84]⟩ (.slice A 1 cap)
  rw [hwz]
  obtain ⟨s0, s1⟩ := q1.cells
  refine bodyPost_ret (v := .tuple #[.agg #[.string ⟨#[82, 69, 84]⟩, (.slice A 1 cap)], .string ⟨#[]⟩]) ?_ rfl ?_
  · simp [results, Tryz.results59, go_sem, s0, s1]
  · exact ⟨_, rfl, own_put Rw5.out Ow5.out q3, Uw5.out.trans (q2.mono (by have := HN.out; omega))⟩
theorem high_2 (y : Int) (hy : 0 ≤ y ∧ y ≤ 7) (w : World) : Calls Tryz.prog 59 #[.int .i64 y, .int .i64 2] w (RetI w [74, 80] [(8, y, 0), (6, 0, 0)] [119]) := by
  obtain ⟨w0, hw0, rz0, bl0⟩ := ri_start w
  obtain ⟨n, hn⟩ : ∃ n, w.heap.size = n := ⟨_, rfl⟩
  have Rw0 : Hid (Rz w0 n) := by rw [← hn]; exact rz0
  have Uw0 : Hid (Below w.heap.size w w0) := bl0
  have HN := Lib.hid hn
  clear rz0 bl0
  go_enter Tryz.func59, Tryz.ntmps59
  go_wp2_with fail
  refine (rrp_any 2 3 w0).mono ?_
  rintro e w1 ⟨rfl, hb1⟩
  have Rw1 := Lib.hid (Rw0.out.all hb1)
  have Uw1 : Hid (Below w.heap.size w w1) := up Uw0.out hb1
  clear Rw0 Uw0 hb1
  clear hw0
  simp only [trV]
  simp only [rpT, show ¬ ((2 : Int) = 3) by decide, if_false]
  go_upto_region 2 with fail
  obtain ⟨bH, hbH⟩ : ∃ b, w1.heap.size = b := ⟨_, rfl⟩
  obtain ⟨w2, hw2⟩ : ∃ v, w1.alloc (.cells #[.int .i64 3, .int .i64 2, .int .i64 0] 69) = v := ⟨_, rfl⟩
  have hb2 : Below w1.heap.size w1 w2 := by rw [← hw2]; exact up_alloc _ _
  have Hw2 : Hid (OpV w2 bH (3, 2, 0)) := by rw [← hw2, ← hbH]; exact opv_new _ _ _ _
  rw [hw2, hbH]
  clear hw2 hbH
  have Rw2 := Lib.hid (Rw1.out.all hb2)
  have Uw2 : Hid (Below w.heap.size w w2) := up Uw1.out hb2
  clear Rw1 Uw1 hb2
  go_wp2_with fail
  refine (rcc_any y w2).mono ?_
  rintro e w3 ⟨rfl, hb3⟩
  have Rw3 := Lib.hid (Rw2.out.all hb3)
  have Uw3 : Hid (Below w.heap.size w w3) := up Uw2.out hb3
  have Hw3 := Lib.hid (Hw2.out.all hb3)
  clear Rw2 Uw2 Hw2 hb3
  simp only [trV]
  go_wp2_with fail
  refine (rimm_any 0 w3).mono ?_
  rintro e w4 ⟨rfl, hb4⟩
  have Rw4 := Lib.hid (Rw3.out.all hb4)
  have Uw4 : Hid (Below w.heap.size w w4) := up Uw3.out hb4
  have Hw4 := Lib.hid (Hw3.out.all hb4)
  clear Rw3 Uw3 Hw3 hb4
  simp only [trV]
  go_wp2_with fail
  refine (rtwo_any (8, y, 0) (6, 0, 0) w4).mono ?_
  rintro e w5 ⟨v, rfl, hO, hb5⟩
  obtain ⟨A, cap, rfl, -, -⟩ := hO.ops
  have Ow5 : Hid (OwnT w5 w.heap.size (.slice A 2 cap) [(8, y, 0), (6, 0, 0)]) := hO.lift Uw4.out.size
  clear hO
  have Rw5 := Lib.hid (Rw4.out.all hb5)
  have Uw5 : Hid (Below w.heap.size w w5) := up Uw4.out hb5
  have Hw5 := Lib.hid (Hw4.out.all hb5)
  clear Rw4 Uw4 Hw4 hb5
  go_wp2_with fail
  refine (rins_any ⟨#[74, 80]⟩ A 2 cap w5).mono ?_
  rintro e w6 ⟨rfl, hb6⟩
  have Rw6 := Lib.hid (Rw5.out.all hb6)
  have Uw6 : Hid (Below w.heap.size w w6) := up Uw5.out hb6
  have Hw6 := Lib.hid (Hw5.out.all hb6)
  have Ow6 := Lib.hid (Ow5.out.below hb6)
  clear Rw5 Uw5 Hw5 Ow5 hb6
  obtain ⟨z0, z1, z2, z3⟩ := Rw6.out.cells
  go_wp2
  obtain ⟨wz, hwz, q1, q2, q3⟩ := ri_put Rw6.out ⟨#[74, 80]⟩ (.slice A 2 cap)
  rw [hwz]
  obtain ⟨s0, s1⟩ := q1.cells
  refine bodyPost_ret (v := .tuple #[.agg #[.string ⟨#[74, 80]⟩, (.slice A 2 cap)], .string ⟨#[119]⟩]) ?_ rfl ?_
  · simp [results, Tryz.results59, go_sem, s0, s1]
  · exact ⟨_, rfl, own_put Rw6.out Ow6.out q3, Uw6.out.trans (q2.mono (by have := HN.out; omega))⟩
theorem high_4 (y : Int) (hy : 0 ≤ y ∧ y ≤ 7) (w : World) : Calls Tryz.prog 59 #[.int .i64 y, .int .i64 4] w (RetI w [67, 65, 76, 76] [(8, y, 0), (6, 0, 0)] [119]) := by
  obtain ⟨w0, hw0, rz0, bl0⟩ := ri_start w
  obtain ⟨n, hn⟩ : ∃ n, w.heap.size = n := ⟨_, rfl⟩
  have Rw0 : Hid (Rz w0 n) := by rw [← hn]; exact rz0
  have Uw0 : Hid (Below w.heap.size w w0) := bl0
  have HN := Lib.hid hn
  clear rz0 bl0
  go_enter Tryz.func59, Tryz.ntmps59
  go_wp2_with fail
  refine (rrp_any 2 3 w0).mono ?_
  rintro e w1 ⟨rfl, hb1⟩
  have Rw1 := Lib.hid (Rw0.out.all hb1)
  have Uw1 : Hid (Below w.heap.size w w1) := up Uw0.out hb1
  clear Rw0 Uw0 hb1
  clear hw0
  simp only [trV]
  simp only [rpT, show ¬ ((2 : Int) = 3) by decide, if_false]
  go_upto_region 2 with fail
  obtain ⟨bH, hbH⟩ : ∃ b, w1.heap.size = b := ⟨_, rfl⟩
  obtain ⟨w2, hw2⟩ : ∃ v, w1.alloc (.cells #[.int .i64 3, .int .i64 2, .int .i64 0] 69) = v := ⟨_, rfl⟩
  have hb2 : Below w1.heap.size w1 w2 := by rw [← hw2]; exact up_alloc _ _
  have Hw2 : Hid (OpV w2 bH (3, 2, 0)) := by rw [← hw2, ← hbH]; exact opv_new _ _ _ _
  rw [hw2, hbH]
  clear hw2 hbH
  have Rw2 := Lib.hid (Rw1.out.all hb2)
  have Uw2 : Hid (Below w.heap.size w w2) := up Uw1.out hb2
  clear Rw1 Uw1 hb2
  go_wp2_with fail
  refine (rcc_any y w2).mono ?_
  rintro e w3 ⟨rfl, hb3⟩
  have Rw3 := Lib.hid (Rw2.out.all hb3)
  have Uw3 : Hid (Below w.heap.size w w3) := up Uw2.out hb3
  have Hw3 := Lib.hid (Hw2.out.all hb3)
  clear Rw2 Uw2 Hw2 hb3
  simp only [trV]
  go_wp2_with fail
  refine (rimm_any 0 w3).mono ?_
  rintro e w4 ⟨rfl, hb4⟩
  have Rw4 := Lib.hid (Rw3.out.all hb4)
  have Uw4 : Hid (Below w.heap.size w w4) := up Uw3.out hb4
  have Hw4 := Lib.hid (Hw3.out.all hb4)
  clear Rw3 Uw3 Hw3 hb4
  simp only [trV]
  go_wp2_with fail
  refine (rtwo_any (8, y, 0) (6, 0, 0) w4).mono ?_
  rintro e w5 ⟨v, rfl, hO, hb5⟩
  obtain ⟨A, cap, rfl, -, -⟩ := hO.ops
  have Ow5 : Hid (OwnT w5 w.heap.size (.slice A 2 cap) [(8, y, 0), (6, 0, 0)]) := hO.lift Uw4.out.size
  clear hO
  have Rw5 := Lib.hid (Rw4.out.all hb5)
  have Uw5 : Hid (Below w.heap.size w w5) := up Uw4.out hb5
  have Hw5 := Lib.hid (Hw4.out.all hb5)
  clear Rw4 Uw4 Hw4 hb5
  go_wp2_with fail
  refine (rins_any ⟨#[67, 65, 76, 76]⟩ A 2 cap w5).mono ?_
  rintro e w6 ⟨rfl, hb6⟩
  have Rw6 := Lib.hid (Rw5.out.all hb6)
  have Uw6 : Hid (Below w.heap.size w w6) := up Uw5.out hb6
  have Hw6 := Lib.hid (Hw5.out.all hb6)
  have Ow6 := Lib.hid (Ow5.out.below hb6)
  clear Rw5 Uw5 Hw5 Ow5 hb6
  obtain ⟨z0, z1, z2, z3⟩ := Rw6.out.cells
  go_wp2
  obtain ⟨wz, hwz, q1, q2, q3⟩ := ri_put Rw6.out ⟨#[67, 65, 76, 76]⟩ (.slice A 2 cap)
  rw [hwz]
  obtain ⟨s0, s1⟩ := q1.cells
  refine bodyPost_ret (v := .tuple #[.agg #[.string ⟨#[67, 65, 76, 76]⟩, (.slice A 2 cap)], .string ⟨#[119]⟩]) ?_ rfl ?_
  · simp [results, Tryz.results59, go_sem, s0, s1]
  · exact ⟨_, rfl, own_put Rw6.out Ow6.out q3, Uw6.out.trans (q2.mono (by have := HN.out; omega))⟩
theorem high_1_1 (w : World) : Calls Tryz.prog 59 #[.int .i64 1, .int .i64 1] w (RetI w [82, 69, 84] [] []) := by
  obtain ⟨w0, hw0, rz0, bl0⟩ := ri_start w
  obtain ⟨n, hn⟩ : ∃ n, w.heap.size = n := ⟨_, rfl⟩
  have Rw0 : Hid (Rz w0 n) := by rw [← hn]; exact rz0
  have Uw0 : Hid (Below w.heap.size w w0) := bl0
  have HN := Lib.hid hn
  clear rz0 bl0
  go_enter Tryz.func59, Tryz.ntmps59
  go_wp2_with fail
  refine (rrp_any 2 3 w0).mono ?_
  rintro e w1 ⟨rfl, hb1⟩
  have Rw1 := Lib.hid (Rw0.out.all hb1)
  have Uw1 : Hid (Below w.heap.size w w1) := up Uw0.out hb1
  clear Rw0 Uw0 hb1
  clear hw0
  simp only [trV]
  simp only [rpT, show ¬ ((2 : Int) = 3) by decide, if_false]
  go_upto_region 2 with fail
  obtain ⟨bH, hbH⟩ : ∃ b, w1.heap.size = b := ⟨_, rfl⟩
  obtain ⟨w2, hw2⟩ : ∃ v, w1.alloc (.cells #[.int .i64 3, .int .i64 2, .int .i64 0] 69) = v := ⟨_, rfl⟩
  have hb2 : Below w1.heap.size w1 w2 := by rw [← hw2]; exact up_alloc _ _
  have Hw2 : Hid (OpV w2 bH (3, 2, 0)) := by rw [← hw2, ← hbH]; exact opv_new _ _ _ _
  rw [hw2, hbH]
  clear hw2 hbH
  have Rw2 := Lib.hid (Rw1.out.all hb2)
  have Uw2 : Hid (Below w.heap.size w w2) := up Uw1.out hb2
  clear Rw1 Uw1 hb2
  go_upto_region 9 with fail
  obtain ⟨w3, hw3⟩ : ∃ v, w2.drew = v := ⟨_, rfl⟩
  have Rw3 : Hid (Rz w3 n) := by rw [← hw3]; exact Rw2.out
  have Uw3 : Hid (Below w.heap.size w w3) := by rw [← hw3]; exact Uw2.out.drew
  have Hw3 : Hid (OpV w3 bH (3, 2, 0)) := by rw [← hw3]; exact Hw2.out
  have K : Hid (w3.cell? ⟨bH, 0, none⟩ = some (.int .i64 3) ∧ w3.cell? ⟨bH, 1, none⟩ = some (.int .i64 2) ∧ w3.cell? ⟨bH, 2, none⟩ = some (.int .i64 0)) := ⟨Hw3.out.cells.1, Hw3.out.cells.2.1, Hw3.out.cells.2.2.1⟩
  refine Mixed.wp_region_mixed (fun w' => w'.cell? ⟨bH, 0, none⟩ = some (.int .i64 3) ∧ w'.cell? ⟨bH, 1, none⟩ = some (.int .i64 2) ∧ w'.cell? ⟨bH, 2, none⟩ = some (.int .i64 0)) 12 [(6, true), (10, true), (11, true), (0, false), (1, false), (2, false), (3, false), (4, false), (5, false), (7, false), (8, false), (9, false)] (by kernel_rfl) (by kernel_rfl) (by rw [hw3]; exact K.out) ?_
  rw [hw3]
  clear hw3 K Rw2 Uw2 Hw2
  refine Mixed.wpMix_pure rfl (by kernel_rfl) (.agg #[.int .i64 3, .int .i64 2, .int .i64 0]) (fun w h => by obtain ⟨h0, h1, h2⟩ := h; go_simp; try rfl) ?_
  refine Mixed.wpMix_move rfl (by kernel_rfl) _ rfl (.int .i64 1) rfl ?_
  refine Mixed.wpMix_pure rfl (by kernel_rfl) (.int .i64 0) (fun w h => by obtain ⟨h0, h1, h2⟩ := h; go_simp; try rfl) ?_
  refine Mixed.wpMix_loudG rfl (by kernel_rfl) ?_
  go_wp2_with fail
  refine (rins_any ⟨#[82, 69, 84]⟩ none 0 0 w3).mono ?_
  rintro e w4 ⟨rfl, hb4⟩
  have Rw4 := Lib.hid (Rw3.out.all hb4)
  have Uw4 : Hid (Below w.heap.size w w4) := up Uw3.out hb4
  have Hw4 := Lib.hid (Hw3.out.all hb4)
  clear Rw3 Uw3 Hw3 hb4
  have xx : w4.cell? ⟨bH, 0, none⟩ = some (.int .i64 3) ∧ w4.cell? ⟨bH, 1, none⟩ = some (.int .i64 2) ∧ w4.cell? ⟨bH, 2, none⟩ = some (.int .i64 0) := ⟨Hw4.out.cells.1, Hw4.out.cells.2.1, Hw4.out.cells.2.2.1⟩
  go_wp2
  refine ⟨xx, ?_⟩
  clear xx
  refine Mixed.wpMix_loudG rfl (by kernel_rfl) ?_
  go_wp2_with fail
  refine (rins_any ⟨#[69, 88, 88]⟩ none 0 0 w4).mono ?_
  rintro e w5 ⟨rfl, hb5⟩
  have Rw5 := Lib.hid (Rw4.out.all hb5)
  have Uw5 : Hid (Below w.heap.size w w5) := up Uw4.out hb5
  have Hw5 := Lib.hid (Hw4.out.all hb5)
  clear Rw4 Uw4 Hw4 hb5
  have xx : w5.cell? ⟨bH, 0, none⟩ = some (.int .i64 3) ∧ w5.cell? ⟨bH, 1, none⟩ = some (.int .i64 2) ∧ w5.cell? ⟨bH, 2, none⟩ = some (.int .i64 0) := ⟨Hw5.out.cells.1, Hw5.out.cells.2.1, Hw5.out.cells.2.2.1⟩
  go_wp2
  refine ⟨xx, ?_⟩
  clear xx
  refine Mixed.wpMix_loudG rfl (by kernel_rfl) ?_
  go_wp2_with fail
  refine (rind_any 2 w5).mono ?_
  rintro e w6 ⟨rfl, hb6⟩
  have Rw6 := Lib.hid (Rw5.out.all hb6)
  have Uw6 : Hid (Below w.heap.size w w6) := up Uw5.out hb6
  have Hw6 := Lib.hid (Hw5.out.all hb6)
  clear Rw5 Uw5 Hw5 hb6
  simp only [trV]
  have xx : w6.cell? ⟨bH, 0, none⟩ = some (.int .i64 3) ∧ w6.cell? ⟨bH, 1, none⟩ = some (.int .i64 2) ∧ w6.cell? ⟨bH, 2, none⟩ = some (.int .i64 0) := ⟨Hw6.out.cells.1, Hw6.out.cells.2.1, Hw6.out.cells.2.2.1⟩
  go_wp2
  refine ⟨xx, ?_⟩
  clear xx
  refine Mixed.wpMix_loudG rfl (by kernel_rfl) ?_
  go_wp2_with fail
  refine (rone_any (4, 2, 0) w6).mono ?_
  rintro e w7 ⟨v, rfl, hO, hb7⟩
  obtain ⟨AJ, capJ, rfl, -, -⟩ := hO.ops
  clear hO
  have Rw7 := Lib.hid (Rw6.out.all hb7)
  have Uw7 : Hid (Below w.heap.size w w7) := up Uw6.out hb7
  have Hw7 := Lib.hid (Hw6.out.all hb7)
  clear Rw6 Uw6 Hw6 hb7
  have xx : w7.cell? ⟨bH, 0, none⟩ = some (.int .i64 3) ∧ w7.cell? ⟨bH, 1, none⟩ = some (.int .i64 2) ∧ w7.cell? ⟨bH, 2, none⟩ = some (.int .i64 0) := ⟨Hw7.out.cells.1, Hw7.out.cells.2.1, Hw7.out.cells.2.2.1⟩
  go_wp2
  refine ⟨xx, ?_⟩
  clear xx
  refine Mixed.wpMix_loudG rfl (by kernel_rfl) ?_
  go_wp2_with fail
  refine (rins_any ⟨#[74, 80]⟩ AJ 1 capJ w7).mono ?_
  rintro e w8 ⟨rfl, hb8⟩
  have Rw8 := Lib.hid (Rw7.out.all hb8)
  have Uw8 : Hid (Below w.heap.size w w8) := up Uw7.out hb8
  have Hw8 := Lib.hid (Hw7.out.all hb8)
  clear Rw7 Uw7 Hw7 hb8
  have xx : w8.cell? ⟨bH, 0, none⟩ = some (.int .i64 3) ∧ w8.cell? ⟨bH, 1, none⟩ = some (.int .i64 2) ∧ w8.cell? ⟨bH, 2, none⟩ = some (.int .i64 0) := ⟨Hw8.out.cells.1, Hw8.out.cells.2.1, Hw8.out.cells.2.2.1⟩
  go_wp2
  refine ⟨xx, ?_⟩
  clear xx
  refine Mixed.wpMix_loudG rfl (by kernel_rfl) ?_
  go_wp2_with fail
  refine (rrp_any 3 3 w8).mono ?_
  rintro e w9 ⟨rfl, hb9⟩
  have Rw9 := Lib.hid (Rw8.out.all hb9)
  have Uw9 : Hid (Below w.heap.size w w9) := up Uw8.out hb9
  have Hw9 := Lib.hid (Hw8.out.all hb9)
  clear Rw8 Uw8 Hw8 hb9
  rw [show rpT 3 3 = (3, 3, 0) from by decide]
  simp only [trV]
  have xx : w9.cell? ⟨bH, 0, none⟩ = some (.int .i64 3) ∧ w9.cell? ⟨bH, 1, none⟩ = some (.int .i64 2) ∧ w9.cell? ⟨bH, 2, none⟩ = some (.int .i64 0) := ⟨Hw9.out.cells.1, Hw9.out.cells.2.1, Hw9.out.cells.2.2.1⟩
  go_wp2
  refine ⟨xx, ?_⟩
  clear xx
  refine Mixed.wpMix_loudG rfl (by kernel_rfl) ?_
  go_wp2_with fail
  refine (rtwo_any (3, 3, 0) (3, 2, 0) w9).mono ?_
  rintro e w10 ⟨v, rfl, hO, hb10⟩
  obtain ⟨AL, capL, rfl, -, -⟩ := hO.ops
  clear hO
  have Rw10 := Lib.hid (Rw9.out.all hb10)
  have Uw10 : Hid (Below w.heap.size w w10) := up Uw9.out hb10
  have Hw10 := Lib.hid (Hw9.out.all hb10)
  clear Rw9 Uw9 Hw9 hb10
  have xx : w10.cell? ⟨bH, 0, none⟩ = some (.int .i64 3) ∧ w10.cell? ⟨bH, 1, none⟩ = some (.int .i64 2) ∧ w10.cell? ⟨bH, 2, none⟩ = some (.int .i64 0) := ⟨Hw10.out.cells.1, Hw10.out.cells.2.1, Hw10.out.cells.2.2.1⟩
  go_wp2
  refine ⟨xx, ?_⟩
  clear xx
  refine Mixed.wpMix_loudG rfl (by kernel_rfl) ?_
  go_wp2_with fail
  refine (rins_any ⟨#[76, 68]⟩ AL 2 capL w10).mono ?_
  rintro e w11 ⟨rfl, hb11⟩
  have Rw11 := Lib.hid (Rw10.out.all hb11)
  have Uw11 : Hid (Below w.heap.size w w11) := up Uw10.out hb11
  have Hw11 := Lib.hid (Hw10.out.all hb11)
  clear Rw10 Uw10 Hw10 hb11
  have xx : w11.cell? ⟨bH, 0, none⟩ = some (.int .i64 3) ∧ w11.cell? ⟨bH, 1, none⟩ = some (.int .i64 2) ∧ w11.cell? ⟨bH, 2, none⟩ = some (.int .i64 0) := ⟨Hw11.out.cells.1, Hw11.out.cells.2.1, Hw11.out.cells.2.2.1⟩
  go_wp2
  refine ⟨xx, ?_⟩
  clear xx
  refine Mixed.wpMix_loudG rfl (by kernel_rfl) ?_
  go_wp2
  obtain ⟨bM, hbM⟩ : ∃ b, w11.heap.size = b := ⟨_, rfl⟩
  obtain ⟨w12, hw12⟩ : ∃ v, w11.alloc (.cells #[.string ⟨#[82, 69, 84]⟩, .slice none 0 0, .string ⟨#[69, 88, 88]⟩, .slice none 0 0, .string ⟨#[74, 80]⟩, .slice AJ 1 capJ, .string ⟨#[76, 68]⟩, .slice AL 2 capL] 25) = v := ⟨_, rfl⟩
  have hb12 : Below w11.heap.size w11 w12 := by rw [← hw12]; exact up_alloc _ _
  have Mw12 : Hid (w12.heap[bM]? = some (Obj.cells #[.string ⟨#[82, 69, 84]⟩, .slice none 0 0, .string ⟨#[69, 88, 88]⟩, .slice none 0 0, .string ⟨#[74, 80]⟩, .slice AJ 1 capJ, .string ⟨#[76, 68]⟩, .slice AL 2 capL] 25 (0, 0))) := by rw [← hw12, ← hbM]; exact heap_alloc_new _ _
  rw [hw12, hbM]
  clear hw12 hbM
  have Rw12 := Lib.hid (Rw11.out.all hb12)
  have Uw12 : Hid (Below w.heap.size w w12) := up Uw11.out hb12
  have Hw12 := Lib.hid (Hw11.out.all hb12)
  clear Rw11 Uw11 Hw11 hb12
  refine ⟨⟨Hw12.out.cells.1, Hw12.out.cells.2.1, Hw12.out.cells.2.2.1⟩, ?_⟩
  simp only [Mixed.wpMix, List.drop_succ_cons, List.drop_zero]
  have m0 := Lib.cell_of_heap Mw12.out 0
  have m1 := Lib.cell_of_heap Mw12.out 1
  obtain ⟨z0, z1, z2, z3⟩ := Rw12.out.cells
  go_wp2
  obtain ⟨wz, hwz, q1, q2, q3⟩ := ri_put Rw12.out ⟨#[82, 69, 84]⟩ (.slice none 0 0)
  rw [hwz]
  obtain ⟨s0, s1⟩ := q1.cells
  refine bodyPost_ret (v := .tuple #[.agg #[.string ⟨#[82, 69, 84]⟩, (.slice none 0 0)], .string ⟨#[]⟩]) ?_ rfl ?_
  · simp [results, Tryz.results59, go_sem, s0, s1]
  · exact ⟨_, rfl, World.ownsRow_nil _ _ _ _, Uw12.out.trans (q2.mono (by have := HN.out; omega))⟩
theorem high_1_3 (w : World) : Calls Tryz.prog 59 #[.int .i64 3, .int .i64 1] w (RetI w [69, 88, 88] [] []) := by
  obtain ⟨w0, hw0, rz0, bl0⟩ := ri_start w
  obtain ⟨n, hn⟩ : ∃ n, w.heap.size = n := ⟨_, rfl⟩
  have Rw0 : Hid (Rz w0 n) := by rw [← hn]; exact rz0
  have Uw0 : Hid (Below w.heap.size w w0) := bl0
  have HN := Lib.hid hn
  clear rz0 bl0
  go_enter Tryz.func59, Tryz.ntmps59
  go_wp2_with fail
  refine (rrp_any 2 3 w0).mono ?_
  rintro e w1 ⟨rfl, hb1⟩
  have Rw1 := Lib.hid (Rw0.out.all hb1)
  have Uw1 : Hid (Below w.heap.size w w1) := up Uw0.out hb1
  clear Rw0 Uw0 hb1
  clear hw0
  simp only [trV]
  simp only [rpT, show ¬ ((2 : Int) = 3) by decide, if_false]
  go_upto_region 2 with fail
  obtain ⟨bH, hbH⟩ : ∃ b, w1.heap.size = b := ⟨_, rfl⟩
  obtain ⟨w2, hw2⟩ : ∃ v, w1.alloc (.cells #[.int .i64 3, .int .i64 2, .int .i64 0] 69) = v := ⟨_, rfl⟩
  have hb2 : Below w1.heap.size w1 w2 := by rw [← hw2]; exact up_alloc _ _
  have Hw2 : Hid (OpV w2 bH (3, 2, 0)) := by rw [← hw2, ← hbH]; exact opv_new _ _ _ _
  rw [hw2, hbH]
  clear hw2 hbH
  have Rw2 := Lib.hid (Rw1.out.all hb2)
  have Uw2 : Hid (Below w.heap.size w w2) := up Uw1.out hb2
  clear Rw1 Uw1 hb2
  go_upto_region 9 with fail
  obtain ⟨w3, hw3⟩ : ∃ v, w2.drew = v := ⟨_, rfl⟩
  have Rw3 : Hid (Rz w3 n) := by rw [← hw3]; exact Rw2.out
  have Uw3 : Hid (Below w.heap.size w w3) := by rw [← hw3]; exact Uw2.out.drew
  have Hw3 : Hid (OpV w3 bH (3, 2, 0)) := by rw [← hw3]; exact Hw2.out
  have K : Hid (w3.cell? ⟨bH, 0, none⟩ = some (.int .i64 3) ∧ w3.cell? ⟨bH, 1, none⟩ = some (.int .i64 2) ∧ w3.cell? ⟨bH, 2, none⟩ = some (.int .i64 0)) := ⟨Hw3.out.cells.1, Hw3.out.cells.2.1, Hw3.out.cells.2.2.1⟩
  refine Mixed.wp_region_mixed (fun w' => w'.cell? ⟨bH, 0, none⟩ = some (.int .i64 3) ∧ w'.cell? ⟨bH, 1, none⟩ = some (.int .i64 2) ∧ w'.cell? ⟨bH, 2, none⟩ = some (.int .i64 0)) 12 [(6, true), (10, true), (11, true), (0, false), (1, false), (2, false), (3, false), (4, false), (5, false), (7, false), (8, false), (9, false)] (by kernel_rfl) (by kernel_rfl) (by rw [hw3]; exact K.out) ?_
  rw [hw3]
  clear hw3 K Rw2 Uw2 Hw2
  refine Mixed.wpMix_pure rfl (by kernel_rfl) (.agg #[.int .i64 3, .int .i64 2, .int .i64 0]) (fun w h => by obtain ⟨h0, h1, h2⟩ := h; go_simp; try rfl) ?_
  refine Mixed.wpMix_move rfl (by kernel_rfl) _ rfl (.int .i64 3) rfl ?_
  refine Mixed.wpMix_pure rfl (by kernel_rfl) (.int .i64 1) (fun w h => by obtain ⟨h0, h1, h2⟩ := h; go_simp; try rfl) ?_
  refine Mixed.wpMix_loudG rfl (by kernel_rfl) ?_
  go_wp2_with fail
  refine (rins_any ⟨#[82, 69, 84]⟩ none 0 0 w3).mono ?_
  rintro e w4 ⟨rfl, hb4⟩
  have Rw4 := Lib.hid (Rw3.out.all hb4)
  have Uw4 : Hid (Below w.heap.size w w4) := up Uw3.out hb4
  have Hw4 := Lib.hid (Hw3.out.all hb4)
  clear Rw3 Uw3 Hw3 hb4
  have xx : w4.cell? ⟨bH, 0, none⟩ = some (.int .i64 3) ∧ w4.cell? ⟨bH, 1, none⟩ = some (.int .i64 2) ∧ w4.cell? ⟨bH, 2, none⟩ = some (.int .i64 0) := ⟨Hw4.out.cells.1, Hw4.out.cells.2.1, Hw4.out.cells.2.2.1⟩
  go_wp2
  refine ⟨xx, ?_⟩
  clear xx
  refine Mixed.wpMix_loudG rfl (by kernel_rfl) ?_
  go_wp2_with fail
  refine (rins_any ⟨#[69, 88, 88]⟩ none 0 0 w4).mono ?_
  rintro e w5 ⟨rfl, hb5⟩
  have Rw5 := Lib.hid (Rw4.out.all hb5)
  have Uw5 : Hid (Below w.heap.size w w5) := up Uw4.out hb5
  have Hw5 := Lib.hid (Hw4.out.all hb5)
  clear Rw4 Uw4 Hw4 hb5
  have xx : w5.cell? ⟨bH, 0, none⟩ = some (.int .i64 3) ∧ w5.cell? ⟨bH, 1, none⟩ = some (.int .i64 2) ∧ w5.cell? ⟨bH, 2, none⟩ = some (.int .i64 0) := ⟨Hw5.out.cells.1, Hw5.out.cells.2.1, Hw5.out.cells.2.2.1⟩
  go_wp2
  refine ⟨xx, ?_⟩
  clear xx
  refine Mixed.wpMix_loudG rfl (by kernel_rfl) ?_
  go_wp2_with fail
  refine (rind_any 2 w5).mono ?_
  rintro e w6 ⟨rfl, hb6⟩
  have Rw6 := Lib.hid (Rw5.out.all hb6)
  have Uw6 : Hid (Below w.heap.size w w6) := up Uw5.out hb6
  have Hw6 := Lib.hid (Hw5.out.all hb6)
  clear Rw5 Uw5 Hw5 hb6
  simp only [trV]
  have xx : w6.cell? ⟨bH, 0, none⟩ = some (.int .i64 3) ∧ w6.cell? ⟨bH, 1, none⟩ = some (.int .i64 2) ∧ w6.cell? ⟨bH, 2, none⟩ = some (.int .i64 0) := ⟨Hw6.out.cells.1, Hw6.out.cells.2.1, Hw6.out.cells.2.2.1⟩
  go_wp2
  refine ⟨xx, ?_⟩
  clear xx
  refine Mixed.wpMix_loudG rfl (by kernel_rfl) ?_
  go_wp2_with fail
  refine (rone_any (4, 2, 0) w6).mono ?_
  rintro e w7 ⟨v, rfl, hO, hb7⟩
  obtain ⟨AJ, capJ, rfl, -, -⟩ := hO.ops
  clear hO
  have Rw7 := Lib.hid (Rw6.out.all hb7)
  have Uw7 : Hid (Below w.heap.size w w7) := up Uw6.out hb7
  have Hw7 := Lib.hid (Hw6.out.all hb7)
  clear Rw6 Uw6 Hw6 hb7
  have xx : w7.cell? ⟨bH, 0, none⟩ = some (.int .i64 3) ∧ w7.cell? ⟨bH, 1, none⟩ = some (.int .i64 2) ∧ w7.cell? ⟨bH, 2, none⟩ = some (.int .i64 0) := ⟨Hw7.out.cells.1, Hw7.out.cells.2.1, Hw7.out.cells.2.2.1⟩
  go_wp2
  refine ⟨xx, ?_⟩
  clear xx
  refine Mixed.wpMix_loudG rfl (by kernel_rfl) ?_
  go_wp2_with fail
  refine (rins_any ⟨#[74, 80]⟩ AJ 1 capJ w7).mono ?_
  rintro e w8 ⟨rfl, hb8⟩
  have Rw8 := Lib.hid (Rw7.out.all hb8)
  have Uw8 : Hid (Below w.heap.size w w8) := up Uw7.out hb8
  have Hw8 := Lib.hid (Hw7.out.all hb8)
  clear Rw7 Uw7 Hw7 hb8
  have xx : w8.cell? ⟨bH, 0, none⟩ = some (.int .i64 3) ∧ w8.cell? ⟨bH, 1, none⟩ = some (.int .i64 2) ∧ w8.cell? ⟨bH, 2, none⟩ = some (.int .i64 0) := ⟨Hw8.out.cells.1, Hw8.out.cells.2.1, Hw8.out.cells.2.2.1⟩
  go_wp2
  refine ⟨xx, ?_⟩
  clear xx
  refine Mixed.wpMix_loudG rfl (by kernel_rfl) ?_
  go_wp2_with fail
  refine (rrp_any 3 3 w8).mono ?_
  rintro e w9 ⟨rfl, hb9⟩
  have Rw9 := Lib.hid (Rw8.out.all hb9)
  have Uw9 : Hid (Below w.heap.size w w9) := up Uw8.out hb9
  have Hw9 := Lib.hid (Hw8.out.all hb9)
  clear Rw8 Uw8 Hw8 hb9
  rw [show rpT 3 3 = (3, 3, 0) from by decide]
  simp only [trV]
  have xx : w9.cell? ⟨bH, 0, none⟩ = some (.int .i64 3) ∧ w9.cell? ⟨bH, 1, none⟩ = some (.int .i64 2) ∧ w9.cell? ⟨bH, 2, none⟩ = some (.int .i64 0) := ⟨Hw9.out.cells.1, Hw9.out.cells.2.1, Hw9.out.cells.2.2.1⟩
  go_wp2
  refine ⟨xx, ?_⟩
  clear xx
  refine Mixed.wpMix_loudG rfl (by kernel_rfl) ?_
  go_wp2_with fail
  refine (rtwo_any (3, 3, 0) (3, 2, 0) w9).mono ?_
  rintro e w10 ⟨v, rfl, hO, hb10⟩
  obtain ⟨AL, capL, rfl, -, -⟩ := hO.ops
  clear hO
  have Rw10 := Lib.hid (Rw9.out.all hb10)
  have Uw10 : Hid (Below w.heap.size w w10) := up Uw9.out hb10
  have Hw10 := Lib.hid (Hw9.out.all hb10)
  clear Rw9 Uw9 Hw9 hb10
  have xx : w10.cell? ⟨bH, 0, none⟩ = some (.int .i64 3) ∧ w10.cell? ⟨bH, 1, none⟩ = some (.int .i64 2) ∧ w10.cell? ⟨bH, 2, none⟩ = some (.int .i64 0) := ⟨Hw10.out.cells.1, Hw10.out.cells.2.1, Hw10.out.cells.2.2.1⟩
  go_wp2
  refine ⟨xx, ?_⟩
  clear xx
  refine Mixed.wpMix_loudG rfl (by kernel_rfl) ?_
  go_wp2_with fail
  refine (rins_any ⟨#[76, 68]⟩ AL 2 capL w10).mono ?_
  rintro e w11 ⟨rfl, hb11⟩
  have Rw11 := Lib.hid (Rw10.out.all hb11)
  have Uw11 : Hid (Below w.heap.size w w11) := up Uw10.out hb11
  have Hw11 := Lib.hid (Hw10.out.all hb11)
  clear Rw10 Uw10 Hw10 hb11
  have xx : w11.cell? ⟨bH, 0, none⟩ = some (.int .i64 3) ∧ w11.cell? ⟨bH, 1, none⟩ = some (.int .i64 2) ∧ w11.cell? ⟨bH, 2, none⟩ = some (.int .i64 0) := ⟨Hw11.out.cells.1, Hw11.out.cells.2.1, Hw11.out.cells.2.2.1⟩
  go_wp2
  refine ⟨xx, ?_⟩
  clear xx
  refine Mixed.wpMix_loudG rfl (by kernel_rfl) ?_
  go_wp2
  obtain ⟨bM, hbM⟩ : ∃ b, w11.heap.size = b := ⟨_, rfl⟩
  obtain ⟨w12, hw12⟩ : ∃ v, w11.alloc (.cells #[.string ⟨#[82, 69, 84]⟩, .slice none 0 0, .string ⟨#[69, 88, 88]⟩, .slice none 0 0, .string ⟨#[74, 80]⟩, .slice AJ 1 capJ, .string ⟨#[76, 68]⟩, .slice AL 2 capL] 25) = v := ⟨_, rfl⟩
  have hb12 : Below w11.heap.size w11 w12 := by rw [← hw12]; exact up_alloc _ _
  have Mw12 : Hid (w12.heap[bM]? = some (Obj.cells #[.string ⟨#[82, 69, 84]⟩, .slice none 0 0, .string ⟨#[69, 88, 88]⟩, .slice none 0 0, .string ⟨#[74, 80]⟩, .slice AJ 1 capJ, .string ⟨#[76, 68]⟩, .slice AL 2 capL] 25 (0, 0))) := by rw [← hw12, ← hbM]; exact heap_alloc_new _ _
  rw [hw12, hbM]
  clear hw12 hbM
  have Rw12 := Lib.hid (Rw11.out.all hb12)
  have Uw12 : Hid (Below w.heap.size w w12) := up Uw11.out hb12
  have Hw12 := Lib.hid (Hw11.out.all hb12)
  clear Rw11 Uw11 Hw11 hb12
  refine ⟨⟨Hw12.out.cells.1, Hw12.out.cells.2.1, Hw12.out.cells.2.2.1⟩, ?_⟩
  simp only [Mixed.wpMix, List.drop_succ_cons, List.drop_zero]
  have m0 := Lib.cell_of_heap Mw12.out 2
  have m1 := Lib.cell_of_heap Mw12.out 3
  obtain ⟨z0, z1, z2, z3⟩ := Rw12.out.cells
  go_wp2
  obtain ⟨wz, hwz, q1, q2, q3⟩ := ri_put Rw12.out ⟨#[69, 88, 88]⟩ (.slice none 0 0)
  rw [hwz]
  obtain ⟨s0, s1⟩ := q1.cells
  refine bodyPost_ret (v := .tuple #[.agg #[.string ⟨#[69, 88, 88]⟩, (.slice none 0 0)], .string ⟨#[]⟩]) ?_ rfl ?_
  · simp [results, Tryz.results59, go_sem, s0, s1]
  · exact ⟨_, rfl, World.ownsRow_nil _ _ _ _, Uw12.out.trans (q2.mono (by have := HN.out; omega))⟩
theorem high_1_5 (w : World) : Calls Tryz.prog 59 #[.int .i64 5, .int .i64 1] w (RetI w [74, 80] [(4, 2, 0)] []) := by
  obtain ⟨w0, hw0, rz0, bl0⟩ := ri_start w
  obtain ⟨n, hn⟩ : ∃ n, w.heap.size = n := ⟨_, rfl⟩
  have Rw0 : Hid (Rz w0 n) := by rw [← hn]; exact rz0
  have Uw0 : Hid (Below w.heap.size w w0) := bl0
  have HN := Lib.hid hn
  clear rz0 bl0
  go_enter Tryz.func59, Tryz.ntmps59
  go_wp2_with fail
  refine (rrp_any 2 3 w0).mono ?_
  rintro e w1 ⟨rfl, hb1⟩
  have Rw1 := Lib.hid (Rw0.out.all hb1)
  have Uw1 : Hid (Below w.heap.size w w1) := up Uw0.out hb1
  clear Rw0 Uw0 hb1
  clear hw0
  simp only [trV]
  simp only [rpT, show ¬ ((2 : Int) = 3) by decide, if_false]
  go_upto_region 2 with fail
  obtain ⟨bH, hbH⟩ : ∃ b, w1.heap.size = b := ⟨_, rfl⟩
  obtain ⟨w2, hw2⟩ : ∃ v, w1.alloc (.cells #[.int .i64 3, .int .i64 2, .int .i64 0] 69) = v := ⟨_, rfl⟩
  have hb2 : Below w1.heap.size w1 w2 := by rw [← hw2]; exact up_alloc _ _
  have Hw2 : Hid (OpV w2 bH (3, 2, 0)) := by rw [← hw2, ← hbH]; exact opv_new _ _ _ _
  rw [hw2, hbH]
  clear hw2 hbH
  have Rw2 := Lib.hid (Rw1.out.all hb2)
  have Uw2 : Hid (Below w.heap.size w w2) := up Uw1.out hb2
  clear Rw1 Uw1 hb2
  go_upto_region 9 with fail
  obtain ⟨w3, hw3⟩ : ∃ v, w2.drew = v := ⟨_, rfl⟩
  have Rw3 : Hid (Rz w3 n) := by rw [← hw3]; exact Rw2.out
  have Uw3 : Hid (Below w.heap.size w w3) := by rw [← hw3]; exact Uw2.out.drew
  have Hw3 : Hid (OpV w3 bH (3, 2, 0)) := by rw [← hw3]; exact Hw2.out
  have K : Hid (w3.cell? ⟨bH, 0, none⟩ = some (.int .i64 3) ∧ w3.cell? ⟨bH, 1, none⟩ = some (.int .i64 2) ∧ w3.cell? ⟨bH, 2, none⟩ = some (.int .i64 0)) := ⟨Hw3.out.cells.1, Hw3.out.cells.2.1, Hw3.out.cells.2.2.1⟩
  refine Mixed.wp_region_mixed (fun w' => w'.cell? ⟨bH, 0, none⟩ = some (.int .i64 3) ∧ w'.cell? ⟨bH, 1, none⟩ = some (.int .i64 2) ∧ w'.cell? ⟨bH, 2, none⟩ = some (.int .i64 0)) 12 [(6, true), (10, true), (11, true), (0, false), (1, false), (2, false), (3, false), (4, false), (5, false), (7, false), (8, false), (9, false)] (by kernel_rfl) (by kernel_rfl) (by rw [hw3]; exact K.out) ?_
  rw [hw3]
  clear hw3 K Rw2 Uw2 Hw2
  refine Mixed.wpMix_pure rfl (by kernel_rfl) (.agg #[.int .i64 3, .int .i64 2, .int .i64 0]) (fun w h => by obtain ⟨h0, h1, h2⟩ := h; go_simp; try rfl) ?_
  refine Mixed.wpMix_move rfl (by kernel_rfl) _ rfl (.int .i64 5) rfl ?_
  refine Mixed.wpMix_pure rfl (by kernel_rfl) (.int .i64 2) (fun w h => by obtain ⟨h0, h1, h2⟩ := h; go_simp; try rfl) ?_
  refine Mixed.wpMix_loudG rfl (by kernel_rfl) ?_
  go_wp2_with fail
  refine (rins_any ⟨#[82, 69, 84]⟩ none 0 0 w3).mono ?_
  rintro e w4 ⟨rfl, hb4⟩
  have Rw4 := Lib.hid (Rw3.out.all hb4)
  have Uw4 : Hid (Below w.heap.size w w4) := up Uw3.out hb4
  have Hw4 := Lib.hid (Hw3.out.all hb4)
  clear Rw3 Uw3 Hw3 hb4
  have xx : w4.cell? ⟨bH, 0, none⟩ = some (.int .i64 3) ∧ w4.cell? ⟨bH, 1, none⟩ = some (.int .i64 2) ∧ w4.cell? ⟨bH, 2, none⟩ = some (.int .i64 0) := ⟨Hw4.out.cells.1, Hw4.out.cells.2.1, Hw4.out.cells.2.2.1⟩
  go_wp2
  refine ⟨xx, ?_⟩
  clear xx
  refine Mixed.wpMix_loudG rfl (by kernel_rfl) ?_
  go_wp2_with fail
  refine (rins_any ⟨#[69, 88, 88]⟩ none 0 0 w4).mono ?_
  rintro e w5 ⟨rfl, hb5⟩
  have Rw5 := Lib.hid (Rw4.out.all hb5)
  have Uw5 : Hid (Below w.heap.size w w5) := up Uw4.out hb5
  have Hw5 := Lib.hid (Hw4.out.all hb5)
  clear Rw4 Uw4 Hw4 hb5
  have xx : w5.cell? ⟨bH, 0, none⟩ = some (.int .i64 3) ∧ w5.cell? ⟨bH, 1, none⟩ = some (.int .i64 2) ∧ w5.cell? ⟨bH, 2, none⟩ = some (.int .i64 0) := ⟨Hw5.out.cells.1, Hw5.out.cells.2.1, Hw5.out.cells.2.2.1⟩
  go_wp2
  refine ⟨xx, ?_⟩
  clear xx
  refine Mixed.wpMix_loudG rfl (by kernel_rfl) ?_
  go_wp2_with fail
  refine (rind_any 2 w5).mono ?_
  rintro e w6 ⟨rfl, hb6⟩
  have Rw6 := Lib.hid (Rw5.out.all hb6)
  have Uw6 : Hid (Below w.heap.size w w6) := up Uw5.out hb6
  have Hw6 := Lib.hid (Hw5.out.all hb6)
  clear Rw5 Uw5 Hw5 hb6
  simp only [trV]
  have xx : w6.cell? ⟨bH, 0, none⟩ = some (.int .i64 3) ∧ w6.cell? ⟨bH, 1, none⟩ = some (.int .i64 2) ∧ w6.cell? ⟨bH, 2, none⟩ = some (.int .i64 0) := ⟨Hw6.out.cells.1, Hw6.out.cells.2.1, Hw6.out.cells.2.2.1⟩
  go_wp2
  refine ⟨xx, ?_⟩
  clear xx
  refine Mixed.wpMix_loudG rfl (by kernel_rfl) ?_
  go_wp2_with fail
  refine (rone_any (4, 2, 0) w6).mono ?_
  rintro e w7 ⟨v, rfl, hO, hb7⟩
  obtain ⟨AJ, capJ, rfl, -, -⟩ := hO.ops
  have OJw7 : Hid (OwnT w7 w.heap.size (.slice AJ 1 capJ) [(4, 2, 0)]) := hO.lift Uw6.out.size
  clear hO
  have Rw7 := Lib.hid (Rw6.out.all hb7)
  have Uw7 : Hid (Below w.heap.size w w7) := up Uw6.out hb7
  have Hw7 := Lib.hid (Hw6.out.all hb7)
  clear Rw6 Uw6 Hw6 hb7
  have xx : w7.cell? ⟨bH, 0, none⟩ = some (.int .i64 3) ∧ w7.cell? ⟨bH, 1, none⟩ = some (.int .i64 2) ∧ w7.cell? ⟨bH, 2, none⟩ = some (.int .i64 0) := ⟨Hw7.out.cells.1, Hw7.out.cells.2.1, Hw7.out.cells.2.2.1⟩
  go_wp2
  refine ⟨xx, ?_⟩
  clear xx
  refine Mixed.wpMix_loudG rfl (by kernel_rfl) ?_
  go_wp2_with fail
  refine (rins_any ⟨#[74, 80]⟩ AJ 1 capJ w7).mono ?_
  rintro e w8 ⟨rfl, hb8⟩
  have Rw8 := Lib.hid (Rw7.out.all hb8)
  have Uw8 : Hid (Below w.heap.size w w8) := up Uw7.out hb8
  have Hw8 := Lib.hid (Hw7.out.all hb8)
  have OJw8 := Lib.hid (OJw7.out.below hb8)
  clear Rw7 Uw7 Hw7 OJw7 hb8
  have xx : w8.cell? ⟨bH, 0, none⟩ = some (.int .i64 3) ∧ w8.cell? ⟨bH, 1, none⟩ = some (.int .i64 2) ∧ w8.cell? ⟨bH, 2, none⟩ = some (.int .i64 0) := ⟨Hw8.out.cells.1, Hw8.out.cells.2.1, Hw8.out.cells.2.2.1⟩
  go_wp2
  refine ⟨xx, ?_⟩
  clear xx
  refine Mixed.wpMix_loudG rfl (by kernel_rfl) ?_
  go_wp2_with fail
  refine (rrp_any 3 3 w8).mono ?_
  rintro e w9 ⟨rfl, hb9⟩
  have Rw9 := Lib.hid (Rw8.out.all hb9)
  have Uw9 : Hid (Below w.heap.size w w9) := up Uw8.out hb9
  have Hw9 := Lib.hid (Hw8.out.all hb9)
  have OJw9 := Lib.hid (OJw8.out.below hb9)
  clear Rw8 Uw8 Hw8 OJw8 hb9
  rw [show rpT 3 3 = (3, 3, 0) from by decide]
  simp only [trV]
  have xx : w9.cell? ⟨bH, 0, none⟩ = some (.int .i64 3) ∧ w9.cell? ⟨bH, 1, none⟩ = some (.int .i64 2) ∧ w9.cell? ⟨bH, 2, none⟩ = some (.int .i64 0) := ⟨Hw9.out.cells.1, Hw9.out.cells.2.1, Hw9.out.cells.2.2.1⟩
  go_wp2
  refine ⟨xx, ?_⟩
  clear xx
  refine Mixed.wpMix_loudG rfl (by kernel_rfl) ?_
  go_wp2_with fail
  refine (rtwo_any (3, 3, 0) (3, 2, 0) w9).mono ?_
  rintro e w10 ⟨v, rfl, hO, hb10⟩
  obtain ⟨AL, capL, rfl, -, -⟩ := hO.ops
  clear hO
  have Rw10 := Lib.hid (Rw9.out.all hb10)
  have Uw10 : Hid (Below w.heap.size w w10) := up Uw9.out hb10
  have Hw10 := Lib.hid (Hw9.out.all hb10)
  have OJw10 := Lib.hid (OJw9.out.below hb10)
  clear Rw9 Uw9 Hw9 OJw9 hb10
  have xx : w10.cell? ⟨bH, 0, none⟩ = some (.int .i64 3) ∧ w10.cell? ⟨bH, 1, none⟩ = some (.int .i64 2) ∧ w10.cell? ⟨bH, 2, none⟩ = some (.int .i64 0) := ⟨Hw10.out.cells.1, Hw10.out.cells.2.1, Hw10.out.cells.2.2.1⟩
  go_wp2
  refine ⟨xx, ?_⟩
  clear xx
  refine Mixed.wpMix_loudG rfl (by kernel_rfl) ?_
  go_wp2_with fail
  refine (rins_any ⟨#[76, 68]⟩ AL 2 capL w10).mono ?_
  rintro e w11 ⟨rfl, hb11⟩
  have Rw11 := Lib.hid (Rw10.out.all hb11)
  have Uw11 : Hid (Below w.heap.size w w11) := up Uw10.out hb11
  have Hw11 := Lib.hid (Hw10.out.all hb11)
  have OJw11 := Lib.hid (OJw10.out.below hb11)
  clear Rw10 Uw10 Hw10 OJw10 hb11
  have xx : w11.cell? ⟨bH, 0, none⟩ = some (.int .i64 3) ∧ w11.cell? ⟨bH, 1, none⟩ = some (.int .i64 2) ∧ w11.cell? ⟨bH, 2, none⟩ = some (.int .i64 0) := ⟨Hw11.out.cells.1, Hw11.out.cells.2.1, Hw11.out.cells.2.2.1⟩
  go_wp2
  refine ⟨xx, ?_⟩
  clear xx
  refine Mixed.wpMix_loudG rfl (by kernel_rfl) ?_
  go_wp2
  obtain ⟨bM, hbM⟩ : ∃ b, w11.heap.size = b := ⟨_, rfl⟩
  obtain ⟨w12, hw12⟩ : ∃ v, w11.alloc (.cells #[.string ⟨#[82, 69, 84]⟩, .slice none 0 0, .string ⟨#[69, 88, 88]⟩, .slice none 0 0, .string ⟨#[74, 80]⟩, .slice AJ 1 capJ, .string ⟨#[76, 68]⟩, .slice AL 2 capL] 25) = v := ⟨_, rfl⟩
  have hb12 : Below w11.heap.size w11 w12 := by rw [← hw12]; exact up_alloc _ _
  have Mw12 : Hid (w12.heap[bM]? = some (Obj.cells #[.string ⟨#[82, 69, 84]⟩, .slice none 0 0, .string ⟨#[69, 88, 88]⟩, .slice none 0 0, .string ⟨#[74, 80]⟩, .slice AJ 1 capJ, .string ⟨#[76, 68]⟩, .slice AL 2 capL] 25 (0, 0))) := by rw [← hw12, ← hbM]; exact heap_alloc_new _ _
  rw [hw12, hbM]
  clear hw12 hbM
  have Rw12 := Lib.hid (Rw11.out.all hb12)
  have Uw12 : Hid (Below w.heap.size w w12) := up Uw11.out hb12
  have Hw12 := Lib.hid (Hw11.out.all hb12)
  have OJw12 := Lib.hid (OJw11.out.below hb12)
  clear Rw11 Uw11 Hw11 OJw11 hb12
  refine ⟨⟨Hw12.out.cells.1, Hw12.out.cells.2.1, Hw12.out.cells.2.2.1⟩, ?_⟩
  simp only [Mixed.wpMix, List.drop_succ_cons, List.drop_zero]
  have m0 := Lib.cell_of_heap Mw12.out 4
  have m1 := Lib.cell_of_heap Mw12.out 5
  obtain ⟨z0, z1, z2, z3⟩ := Rw12.out.cells
  go_wp2
  obtain ⟨wz, hwz, q1, q2, q3⟩ := ri_put Rw12.out ⟨#[74, 80]⟩ (.slice AJ 1 capJ)
  rw [hwz]
  obtain ⟨s0, s1⟩ := q1.cells
  refine bodyPost_ret (v := .tuple #[.agg #[.string ⟨#[74, 80]⟩, (.slice AJ 1 capJ)], .string ⟨#[]⟩]) ?_ rfl ?_
  · simp [results, Tryz.results59, go_sem, s0, s1]
  · exact ⟨_, rfl, own_put Rw12.out OJw12.out q3, Uw12.out.trans (q2.mono (by have := HN.out; omega))⟩
theorem high_1_7 (w : World) : Calls Tryz.prog 59 #[.int .i64 7, .int .i64 1] w (RetI w [76, 68] [(3, 3, 0), (3, 2, 0)] []) := by
  obtain ⟨w0, hw0, rz0, bl0⟩ := ri_start w
  obtain ⟨n, hn⟩ : ∃ n, w.heap.size = n := ⟨_, rfl⟩
  have Rw0 : Hid (Rz w0 n) := by rw [← hn]; exact rz0
  have Uw0 : Hid (Below w.heap.size w w0) := bl0
  have HN := Lib.hid hn
  clear rz0 bl0
  go_enter Tryz.func59, Tryz.ntmps59
  go_wp2_with fail
  refine (rrp_any 2 3 w0).mono ?_
  rintro e w1 ⟨rfl, hb1⟩
  have Rw1 := Lib.hid (Rw0.out.all hb1)
  have Uw1 : Hid (Below w.heap.size w w1) := up Uw0.out hb1
  clear Rw0 Uw0 hb1
  clear hw0
  simp only [trV]
  simp only [rpT, show ¬ ((2 : Int) = 3) by decide, if_false]
  go_upto_region 2 with fail
  obtain ⟨bH, hbH⟩ : ∃ b, w1.heap.size = b := ⟨_, rfl⟩
  obtain ⟨w2, hw2⟩ : ∃ v, w1.alloc (.cells #[.int .i64 3, .int .i64 2, .int .i64 0] 69) = v := ⟨_, rfl⟩
  have hb2 : Below w1.heap.size w1 w2 := by rw [← hw2]; exact up_alloc _ _
  have Hw2 : Hid (OpV w2 bH (3, 2, 0)) := by rw [← hw2, ← hbH]; exact opv_new _ _ _ _
  rw [hw2, hbH]
  clear hw2 hbH
  have Rw2 := Lib.hid (Rw1.out.all hb2)
  have Uw2 : Hid (Below w.heap.size w w2) := up Uw1.out hb2
  clear Rw1 Uw1 hb2
  go_upto_region 9 with fail
  obtain ⟨w3, hw3⟩ : ∃ v, w2.drew = v := ⟨_, rfl⟩
  have Rw3 : Hid (Rz w3 n) := by rw [← hw3]; exact Rw2.out
  have Uw3 : Hid (Below w.heap.size w w3) := by rw [← hw3]; exact Uw2.out.drew
  have Hw3 : Hid (OpV w3 bH (3, 2, 0)) := by rw [← hw3]; exact Hw2.out
  have K : Hid (w3.cell? ⟨bH, 0, none⟩ = some (.int .i64 3) ∧ w3.cell? ⟨bH, 1, none⟩ = some (.int .i64 2) ∧ w3.cell? ⟨bH, 2, none⟩ = some (.int .i64 0)) := ⟨Hw3.out.cells.1, Hw3.out.cells.2.1, Hw3.out.cells.2.2.1⟩
  refine Mixed.wp_region_mixed (fun w' => w'.cell? ⟨bH, 0, none⟩ = some (.int .i64 3) ∧ w'.cell? ⟨bH, 1, none⟩ = some (.int .i64 2) ∧ w'.cell? ⟨bH, 2, none⟩ = some (.int .i64 0)) 12 [(6, true), (10, true), (11, true), (0, false), (1, false), (2, false), (3, false), (4, false), (5, false), (7, false), (8, false), (9, false)] (by kernel_rfl) (by kernel_rfl) (by rw [hw3]; exact K.out) ?_
  rw [hw3]
  clear hw3 K Rw2 Uw2 Hw2
  refine Mixed.wpMix_pure rfl (by kernel_rfl) (.agg #[.int .i64 3, .int .i64 2, .int .i64 0]) (fun w h => by obtain ⟨h0, h1, h2⟩ := h; go_simp; try rfl) ?_
  refine Mixed.wpMix_move rfl (by kernel_rfl) _ rfl (.int .i64 7) rfl ?_
  refine Mixed.wpMix_pure rfl (by kernel_rfl) (.int .i64 3) (fun w h => by obtain ⟨h0, h1, h2⟩ := h; go_simp; try rfl) ?_
  refine Mixed.wpMix_loudG rfl (by kernel_rfl) ?_
  go_wp2_with fail
  refine (rins_any ⟨#[82, 69, 84]⟩ none 0 0 w3).mono ?_
  rintro e w4 ⟨rfl, hb4⟩
  have Rw4 := Lib.hid (Rw3.out.all hb4)
  have Uw4 : Hid (Below w.heap.size w w4) := up Uw3.out hb4
  have Hw4 := Lib.hid (Hw3.out.all hb4)
  clear Rw3 Uw3 Hw3 hb4
  have xx : w4.cell? ⟨bH, 0, none⟩ = some (.int .i64 3) ∧ w4.cell? ⟨bH, 1, none⟩ = some (.int .i64 2) ∧ w4.cell? ⟨bH, 2, none⟩ = some (.int .i64 0) := ⟨Hw4.out.cells.1, Hw4.out.cells.2.1, Hw4.out.cells.2.2.1⟩
  go_wp2
  refine ⟨xx, ?_⟩
  clear xx
  refine Mixed.wpMix_loudG rfl (by kernel_rfl) ?_
  go_wp2_with fail
  refine (rins_any ⟨#[69, 88, 88]⟩ none 0 0 w4).mono ?_
  rintro e w5 ⟨rfl, hb5⟩
  have Rw5 := Lib.hid (Rw4.out.all hb5)
  have Uw5 : Hid (Below w.heap.size w w5) := up Uw4.out hb5
  have Hw5 := Lib.hid (Hw4.out.all hb5)
  clear Rw4 Uw4 Hw4 hb5
  have xx : w5.cell? ⟨bH, 0, none⟩ = some (.int .i64 3) ∧ w5.cell? ⟨bH, 1, none⟩ = some (.int .i64 2) ∧ w5.cell? ⟨bH, 2, none⟩ = some (.int .i64 0) := ⟨Hw5.out.cells.1, Hw5.out.cells.2.1, Hw5.out.cells.2.2.1⟩
  go_wp2
  refine ⟨xx, ?_⟩
  clear xx
  refine Mixed.wpMix_loudG rfl (by kernel_rfl) ?_
  go_wp2_with fail
  refine (rind_any 2 w5).mono ?_
  rintro e w6 ⟨rfl, hb6⟩
  have Rw6 := Lib.hid (Rw5.out.all hb6)
  have Uw6 : Hid (Below w.heap.size w w6) := up Uw5.out hb6
  have Hw6 := Lib.hid (Hw5.out.all hb6)
  clear Rw5 Uw5 Hw5 hb6
  simp only [trV]
  have xx : w6.cell? ⟨bH, 0, none⟩ = some (.int .i64 3) ∧ w6.cell? ⟨bH, 1, none⟩ = some (.int .i64 2) ∧ w6.cell? ⟨bH, 2, none⟩ = some (.int .i64 0) := ⟨Hw6.out.cells.1, Hw6.out.cells.2.1, Hw6.out.cells.2.2.1⟩
  go_wp2
  refine ⟨xx, ?_⟩
  clear xx
  refine Mixed.wpMix_loudG rfl (by kernel_rfl) ?_
  go_wp2_with fail
  refine (rone_any (4, 2, 0) w6).mono ?_
  rintro e w7 ⟨v, rfl, hO, hb7⟩
  obtain ⟨AJ, capJ, rfl, -, -⟩ := hO.ops
  clear hO
  have Rw7 := Lib.hid (Rw6.out.all hb7)
  have Uw7 : Hid (Below w.heap.size w w7) := up Uw6.out hb7
  have Hw7 := Lib.hid (Hw6.out.all hb7)
  clear Rw6 Uw6 Hw6 hb7
  have xx : w7.cell? ⟨bH, 0, none⟩ = some (.int .i64 3) ∧ w7.cell? ⟨bH, 1, none⟩ = some (.int .i64 2) ∧ w7.cell? ⟨bH, 2, none⟩ = some (.int .i64 0) := ⟨Hw7.out.cells.1, Hw7.out.cells.2.1, Hw7.out.cells.2.2.1⟩
  go_wp2
  refine ⟨xx, ?_⟩
  clear xx
  refine Mixed.wpMix_loudG rfl (by kernel_rfl) ?_
  go_wp2_with fail
  refine (rins_any ⟨#[74, 80]⟩ AJ 1 capJ w7).mono ?_
  rintro e w8 ⟨rfl, hb8⟩
  have Rw8 := Lib.hid (Rw7.out.all hb8)
  have Uw8 : Hid (Below w.heap.size w w8) := up Uw7.out hb8
  have Hw8 := Lib.hid (Hw7.out.all hb8)
  clear Rw7 Uw7 Hw7 hb8
  have xx : w8.cell? ⟨bH, 0, none⟩ = some (.int .i64 3) ∧ w8.cell? ⟨bH, 1, none⟩ = some (.int .i64 2) ∧ w8.cell? ⟨bH, 2, none⟩ = some (.int .i64 0) := ⟨Hw8.out.cells.1, Hw8.out.cells.2.1, Hw8.out.cells.2.2.1⟩
  go_wp2
  refine ⟨xx, ?_⟩
  clear xx
  refine Mixed.wpMix_loudG rfl (by kernel_rfl) ?_
  go_wp2_with fail
  refine (rrp_any 3 3 w8).mono ?_
  rintro e w9 ⟨rfl, hb9⟩
  have Rw9 := Lib.hid (Rw8.out.all hb9)
  have Uw9 : Hid (Below w.heap.size w w9) := up Uw8.out hb9
  have Hw9 := Lib.hid (Hw8.out.all hb9)
  clear Rw8 Uw8 Hw8 hb9
  rw [show rpT 3 3 = (3, 3, 0) from by decide]
  simp only [trV]
  have xx : w9.cell? ⟨bH, 0, none⟩ = some (.int .i64 3) ∧ w9.cell? ⟨bH, 1, none⟩ = some (.int .i64 2) ∧ w9.cell? ⟨bH, 2, none⟩ = some (.int .i64 0) := ⟨Hw9.out.cells.1, Hw9.out.cells.2.1, Hw9.out.cells.2.2.1⟩
  go_wp2
  refine ⟨xx, ?_⟩
  clear xx
  refine Mixed.wpMix_loudG rfl (by kernel_rfl) ?_
  go_wp2_with fail
  refine (rtwo_any (3, 3, 0) (3, 2, 0) w9).mono ?_
  rintro e w10 ⟨v, rfl, hO, hb10⟩
  obtain ⟨AL, capL, rfl, -, -⟩ := hO.ops
  have OLw10 : Hid (OwnT w10 w.heap.size (.slice AL 2 capL) [(3, 3, 0), (3, 2, 0)]) := hO.lift Uw9.out.size
  clear hO
  have Rw10 := Lib.hid (Rw9.out.all hb10)
  have Uw10 : Hid (Below w.heap.size w w10) := up Uw9.out hb10
  have Hw10 := Lib.hid (Hw9.out.all hb10)
  clear Rw9 Uw9 Hw9 hb10
  have xx : w10.cell? ⟨bH, 0, none⟩ = some (.int .i64 3) ∧ w10.cell? ⟨bH, 1, none⟩ = some (.int .i64 2) ∧ w10.cell? ⟨bH, 2, none⟩ = some (.int .i64 0) := ⟨Hw10.out.cells.1, Hw10.out.cells.2.1, Hw10.out.cells.2.2.1⟩
  go_wp2
  refine ⟨xx, ?_⟩
  clear xx
  refine Mixed.wpMix_loudG rfl (by kernel_rfl) ?_
  go_wp2_with fail
  refine (rins_any ⟨#[76, 68]⟩ AL 2 capL w10).mono ?_
  rintro e w11 ⟨rfl, hb11⟩
  have Rw11 := Lib.hid (Rw10.out.all hb11)
  have Uw11 : Hid (Below w.heap.size w w11) := up Uw10.out hb11
  have Hw11 := Lib.hid (Hw10.out.all hb11)
  have OLw11 := Lib.hid (OLw10.out.below hb11)
  clear Rw10 Uw10 Hw10 OLw10 hb11
  have xx : w11.cell? ⟨bH, 0, none⟩ = some (.int .i64 3) ∧ w11.cell? ⟨bH, 1, none⟩ = some (.int .i64 2) ∧ w11.cell? ⟨bH, 2, none⟩ = some (.int .i64 0) := ⟨Hw11.out.cells.1, Hw11.out.cells.2.1, Hw11.out.cells.2.2.1⟩
  go_wp2
  refine ⟨xx, ?_⟩
  clear xx
  refine Mixed.wpMix_loudG rfl (by kernel_rfl) ?_
  go_wp2
  obtain ⟨bM, hbM⟩ : ∃ b, w11.heap.size = b := ⟨_, rfl⟩
  obtain ⟨w12, hw12⟩ : ∃ v, w11.alloc (.cells #[.string ⟨#[82, 69, 84]⟩, .slice none 0 0, .string ⟨#[69, 88, 88]⟩, .slice none 0 0, .string ⟨#[74, 80]⟩, .slice AJ 1 capJ, .string ⟨#[76, 68]⟩, .slice AL 2 capL] 25) = v := ⟨_, rfl⟩
  have hb12 : Below w11.heap.size w11 w12 := by rw [← hw12]; exact up_alloc _ _
  have Mw12 : Hid (w12.heap[bM]? = some (Obj.cells #[.string ⟨#[82, 69, 84]⟩, .slice none 0 0, .string ⟨#[69, 88, 88]⟩, .slice none 0 0, .string ⟨#[74, 80]⟩, .slice AJ 1 capJ, .string ⟨#[76, 68]⟩, .slice AL 2 capL] 25 (0, 0))) := by rw [← hw12, ← hbM]; exact heap_alloc_new _ _
  rw [hw12, hbM]
  clear hw12 hbM
  have Rw12 := Lib.hid (Rw11.out.all hb12)
  have Uw12 : Hid (Below w.heap.size w w12) := up Uw11.out hb12
  have Hw12 := Lib.hid (Hw11.out.all hb12)
  have OLw12 := Lib.hid (OLw11.out.below hb12)
  clear Rw11 Uw11 Hw11 OLw11 hb12
  refine ⟨⟨Hw12.out.cells.1, Hw12.out.cells.2.1, Hw12.out.cells.2.2.1⟩, ?_⟩
  simp only [Mixed.wpMix, List.drop_succ_cons, List.drop_zero]
  have m0 := Lib.cell_of_heap Mw12.out 6
  have m1 := Lib.cell_of_heap Mw12.out 7
  obtain ⟨z0, z1, z2, z3⟩ := Rw12.out.cells
  go_wp2
  obtain ⟨wz, hwz, q1, q2, q3⟩ := ri_put Rw12.out ⟨#[76, 68]⟩ (.slice AL 2 capL)
  rw [hwz]
  obtain ⟨s0, s1⟩ := q1.cells
  refine bodyPost_ret (v := .tuple #[.agg #[.string ⟨#[76, 68]⟩, (.slice AL 2 capL)], .string ⟨#[]⟩]) ?_ rfl ?_
  · simp [results, Tryz.results59, go_sem, s0, s1]
  · exact ⟨_, rfl, own_put Rw12.out OLw12.out q3, Uw12.out.trans (q2.mono (by have := HN.out; omega))⟩
theorem high_5_1 (w : World) : Calls Tryz.prog 59 #[.int .i64 1, .int .i64 5] w (RetI w [67, 65, 76, 76] [(6, 0, 0)] [119]) := by
  obtain ⟨w0, hw0, rz0, bl0⟩ := ri_start w
  obtain ⟨n, hn⟩ : ∃ n, w.heap.size = n := ⟨_, rfl⟩
  have Rw0 : Hid (Rz w0 n) := by rw [← hn]; exact rz0
  have Uw0 : Hid (Below w.heap.size w w0) := bl0
  have HN := Lib.hid hn
  clear rz0 bl0
  go_enter Tryz.func59, Tryz.ntmps59
  go_wp2_with fail
  refine (rrp_any 2 3 w0).mono ?_
  rintro e w1 ⟨rfl, hb1⟩
  have Rw1 := Lib.hid (Rw0.out.all hb1)
  have Uw1 : Hid (Below w.heap.size w w1) := up Uw0.out hb1
  clear Rw0 Uw0 hb1
  clear hw0
  simp only [trV]
  simp only [rpT, show ¬ ((2 : Int) = 3) by decide, if_false]
  go_upto_region 2 with fail
  obtain ⟨bH, hbH⟩ : ∃ b, w1.heap.size = b := ⟨_, rfl⟩
  obtain ⟨w2, hw2⟩ : ∃ v, w1.alloc (.cells #[.int .i64 3, .int .i64 2, .int .i64 0] 69) = v := ⟨_, rfl⟩
  have hb2 : Below w1.heap.size w1 w2 := by rw [← hw2]; exact up_alloc _ _
  have Hw2 : Hid (OpV w2 bH (3, 2, 0)) := by rw [← hw2, ← hbH]; exact opv_new _ _ _ _
  rw [hw2, hbH]
  clear hw2 hbH
  have Rw2 := Lib.hid (Rw1.out.all hb2)
  have Uw2 : Hid (Below w.heap.size w w2) := up Uw1.out hb2
  clear Rw1 Uw1 hb2
  go_wp2_with fail
  refine (rimm_any 0 w2).mono ?_
  rintro e w3 ⟨rfl, hb3⟩
  have Rw3 := Lib.hid (Rw2.out.all hb3)
  have Uw3 : Hid (Below w.heap.size w w3) := up Uw2.out hb3
  have Hw3 := Lib.hid (Hw2.out.all hb3)
  clear Rw2 Uw2 Hw2 hb3
  simp only [trV]
  go_wp2_with fail
  refine (rone_any (6, 0, 0) w3).mono ?_
  rintro e w4 ⟨v, rfl, hO, hb4⟩
  obtain ⟨A, cap, rfl, -, -⟩ := hO.ops
  have Ow4 : Hid (OwnT w4 w.heap.size (.slice A 1 cap) [(6, 0, 0)]) := hO.lift Uw3.out.size
  clear hO
  have Rw4 := Lib.hid (Rw3.out.all hb4)
  have Uw4 : Hid (Below w.heap.size w w4) := up Uw3.out hb4
  have Hw4 := Lib.hid (Hw3.out.all hb4)
  clear Rw3 Uw3 Hw3 hb4
  go_wp2_with fail
  refine (rins_any ⟨#[67, 65, 76, 76]⟩ A 1 cap w4).mono ?_
  rintro e w5 ⟨rfl, hb5⟩
  have Rw5 := Lib.hid (Rw4.out.all hb5)
  have Uw5 : Hid (Below w.heap.size w w5) := up Uw4.out hb5
  have Hw5 := Lib.hid (Hw4.out.all hb5)
  have Ow5 := Lib.hid (Ow4.out.below hb5)
  clear Rw4 Uw4 Hw4 Ow4 hb5
  obtain ⟨z0, z1, z2, z3⟩ := Rw5.out.cells
  go_wp2
  obtain ⟨wz, hwz, q1, q2, q3⟩ := ri_put Rw5.out ⟨#[67, 65, 76, 76]⟩ (.slice A 1 cap)
  rw [hwz]
  obtain ⟨s0, s1⟩ := q1.cells
  refine bodyPost_ret (v := .tuple #[.agg #[.string ⟨#[67, 65, 76, 76]⟩, (.slice A 1 cap)], .string ⟨#[119]⟩]) ?_ rfl ?_
  · simp [results, Tryz.results59, go_sem, s0, s1]
  · exact ⟨_, rfl, own_put Rw5.out Ow5.out q3, Uw5.out.trans (q2.mono (by have := HN.out; omega))⟩
theorem high_5_3 (w : World) : Calls Tryz.prog 59 #[.int .i64 3, .int .i64 5] w (RetI w [] [] []) := by
  obtain ⟨w0, hw0, rz0, bl0⟩ := ri_start w
  obtain ⟨n, hn⟩ : ∃ n, w.heap.size = n := ⟨_, rfl⟩
  have Rw0 : Hid (Rz w0 n) := by rw [← hn]; exact rz0
  have Uw0 : Hid (Below w.heap.size w w0) := bl0
  have HN := Lib.hid hn
  clear rz0 bl0
  go_enter Tryz.func59, Tryz.ntmps59
  go_wp2_with fail
  refine (rrp_any 2 3 w0).mono ?_
  rintro e w1 ⟨rfl, hb1⟩
  have Rw1 := Lib.hid (Rw0.out.all hb1)
  have Uw1 : Hid (Below w.heap.size w w1) := up Uw0.out hb1
  clear Rw0 Uw0 hb1
  clear hw0
  simp only [trV]
  simp only [rpT, show ¬ ((2 : Int) = 3) by decide, if_false]
  go_upto_region 2 with fail
  obtain ⟨bH, hbH⟩ : ∃ b, w1.heap.size = b := ⟨_, rfl⟩
  obtain ⟨w2, hw2⟩ : ∃ v, w1.alloc (.cells #[.int .i64 3, .int .i64 2, .int .i64 0] 69) = v := ⟨_, rfl⟩
  have hb2 : Below w1.heap.size w1 w2 := by rw [← hw2]; exact up_alloc _ _
  have Hw2 : Hid (OpV w2 bH (3, 2, 0)) := by rw [← hw2, ← hbH]; exact opv_new _ _ _ _
  rw [hw2, hbH]
  clear hw2 hbH
  have Rw2 := Lib.hid (Rw1.out.all hb2)
  have Uw2 : Hid (Below w.heap.size w w2) := up Uw1.out hb2
  clear Rw1 Uw1 hb2
  obtain ⟨z0, z1, z2, z3⟩ := Rw2.out.cells
  go_wp2
  obtain ⟨wz, hwz, q1, q2, q3⟩ := ri_put Rw2.out ⟨#[]⟩ (.slice none 0 0)
  rw [hwz]
  obtain ⟨s0, s1⟩ := q1.cells
  refine bodyPost_ret (v := .tuple #[.agg #[.string ⟨#[]⟩, (.slice none 0 0)], .string ⟨#[]⟩]) ?_ rfl ?_
  · simp [results, Tryz.results59, go_sem, s0, s1]
  · exact ⟨_, rfl, World.ownsRow_nil _ _ _ _, Uw2.out.trans (q2.mono (by have := HN.out; omega))⟩
theorem high_5_5 (w : World) : Calls Tryz.prog 59 #[.int .i64 5, .int .i64 5] w (RetI w [] [] []) := by
  obtain ⟨w0, hw0, rz0, bl0⟩ := ri_start w
  obtain ⟨n, hn⟩ : ∃ n, w.heap.size = n := ⟨_, rfl⟩
  have Rw0 : Hid (Rz w0 n) := by rw [← hn]; exact rz0
  have Uw0 : Hid (Below w.heap.size w w0) := bl0
  have HN := Lib.hid hn
  clear rz0 bl0
  go_enter Tryz.func59, Tryz.ntmps59
  go_wp2_with fail
  refine (rrp_any 2 3 w0).mono ?_
  rintro e w1 ⟨rfl, hb1⟩
  have Rw1 := Lib.hid (Rw0.out.all hb1)
  have Uw1 : Hid (Below w.heap.size w w1) := up Uw0.out hb1
  clear Rw0 Uw0 hb1
  clear hw0
  simp only [trV]
  simp only [rpT, show ¬ ((2 : Int) = 3) by decide, if_false]
  go_upto_region 2 with fail
  obtain ⟨bH, hbH⟩ : ∃ b, w1.heap.size = b := ⟨_, rfl⟩
  obtain ⟨w2, hw2⟩ : ∃ v, w1.alloc (.cells #[.int .i64 3, .int .i64 2, .int .i64 0] 69) = v := ⟨_, rfl⟩
  have hb2 : Below w1.heap.size w1 w2 := by rw [← hw2]; exact up_alloc _ _
  have Hw2 : Hid (OpV w2 bH (3, 2, 0)) := by rw [← hw2, ← hbH]; exact opv_new _ _ _ _
  rw [hw2, hbH]
  clear hw2 hbH
  have Rw2 := Lib.hid (Rw1.out.all hb2)
  have Uw2 : Hid (Below w.heap.size w w2) := up Uw1.out hb2
  clear Rw1 Uw1 hb2
  obtain ⟨z0, z1, z2, z3⟩ := Rw2.out.cells
  go_wp2
  obtain ⟨wz, hwz, q1, q2, q3⟩ := ri_put Rw2.out ⟨#[]⟩ (.slice none 0 0)
  rw [hwz]
  obtain ⟨s0, s1⟩ := q1.cells
  refine bodyPost_ret (v := .tuple #[.agg #[.string ⟨#[]⟩, (.slice none 0 0)], .string ⟨#[]⟩]) ?_ rfl ?_
  · simp [results, Tryz.results59, go_sem, s0, s1]
  · exact ⟨_, rfl, World.ownsRow_nil _ _ _ _, Uw2.out.trans (q2.mono (by have := HN.out; omega))⟩
theorem high_5_7 (w : World) : Calls Tryz.prog 59 #[.int .i64 7, .int .i64 5] w (RetI w [] [] []) := by
  obtain ⟨w0, hw0, rz0, bl0⟩ := ri_start w
  obtain ⟨n, hn⟩ : ∃ n, w.heap.size = n := ⟨_, rfl⟩
  have Rw0 : Hid (Rz w0 n) := by rw [← hn]; exact rz0
  have Uw0 : Hid (Below w.heap.size w w0) := bl0
  have HN := Lib.hid hn
  clear rz0 bl0
  go_enter Tryz.func59, Tryz.ntmps59
  go_wp2_with fail
  refine (rrp_any 2 3 w0).mono ?_
  rintro e w1 ⟨rfl, hb1⟩
  have Rw1 := Lib.hid (Rw0.out.all hb1)
  have Uw1 : Hid (Below w.heap.size w w1) := up Uw0.out hb1
  clear Rw0 Uw0 hb1
  clear hw0
  simp only [trV]
  simp only [rpT, show ¬ ((2 : Int) = 3) by decide, if_false]
  go_upto_region 2 with fail
  obtain ⟨bH, hbH⟩ : ∃ b, w1.heap.size = b := ⟨_, rfl⟩
  obtain ⟨w2, hw2⟩ : ∃ v, w1.alloc (.cells #[.int .i64 3, .int .i64 2, .int .i64 0] 69) = v := ⟨_, rfl⟩
  have hb2 : Below w1.heap.size w1 w2 := by rw [← hw2]; exact up_alloc _ _
  have Hw2 : Hid (OpV w2 bH (3, 2, 0)) := by rw [← hw2, ← hbH]; exact opv_new _ _ _ _
  rw [hw2, hbH]
  clear hw2 hbH
  have Rw2 := Lib.hid (Rw1.out.all hb2)
  have Uw2 : Hid (Below w.heap.size w w2) := up Uw1.out hb2
  clear Rw1 Uw1 hb2
  obtain ⟨z0, z1, z2, z3⟩ := Rw2.out.cells
  go_wp2
  obtain ⟨wz, hwz, q1, q2, q3⟩ := ri_put Rw2.out ⟨#[]⟩ (.slice none 0 0)
  rw [hwz]
  obtain ⟨s0, s1⟩ := q1.cells
  refine bodyPost_ret (v := .tuple #[.agg #[.string ⟨#[]⟩, (.slice none 0 0)], .string ⟨#[]⟩]) ?_ rfl ?_
  · simp [results, Tryz.results59, go_sem, s0, s1]
  · exact ⟨_, rfl, World.ownsRow_nil _ _ _ _, Uw2.out.trans (q2.mono (by have := HN.out; omega))⟩
theorem high_1_e (y : Int) (hy : 0 ≤ y ∧ y ≤ 7) (hq : y % 2 = 0) (w : World) : Calls Tryz.prog 59 #[.int .i64 y, .int .i64 1] w (RetI w [80, 79, 80] [rpT (y / 2) 4] []) := by
  have KQ : Hid (y % 2 = 0) := hq
  clear hq
  obtain ⟨w0, hw0, rz0, bl0⟩ := ri_start w
  obtain ⟨n, hn⟩ : ∃ n, w.heap.size = n := ⟨_, rfl⟩
  have Rw0 : Hid (Rz w0 n) := by rw [← hn]; exact rz0
  have Uw0 : Hid (Below w.heap.size w w0) := bl0
  have HN := Lib.hid hn
  clear rz0 bl0
  go_enter Tryz.func59, Tryz.ntmps59
  go_wp2_with fail
  refine (rrp_any 2 3 w0).mono ?_
  rintro e w1 ⟨rfl, hb1⟩
  have Rw1 := Lib.hid (Rw0.out.all hb1)
  have Uw1 : Hid (Below w.heap.size w w1) := up Uw0.out hb1
  clear Rw0 Uw0 hb1
  clear hw0
  simp only [trV]
  simp only [rpT, show ¬ ((2 : Int) = 3) by decide, if_false]
  go_upto_region 2 with fail
  obtain ⟨bH, hbH⟩ : ∃ b, w1.heap.size = b := ⟨_, rfl⟩
  obtain ⟨w2, hw2⟩ : ∃ v, w1.alloc (.cells #[.int .i64 3, .int .i64 2, .int .i64 0] 69) = v := ⟨_, rfl⟩
  have hb2 : Below w1.heap.size w1 w2 := by rw [← hw2]; exact up_alloc _ _
  have Hw2 : Hid (OpV w2 bH (3, 2, 0)) := by rw [← hw2, ← hbH]; exact opv_new _ _ _ _
  rw [hw2, hbH]
  clear hw2 hbH
  have Rw2 := Lib.hid (Rw1.out.all hb2)
  have Uw2 : Hid (Below w.heap.size w w2) := up Uw1.out hb2
  clear Rw1 Uw1 hb2
  go_upto_region 3 with fail
  rw [KQ.out]
  obtain ⟨⟨p0, p1, p2⟩, hp⟩ : ∃ x : Tr, rpT (y / 2) 4 = x := ⟨_, rfl⟩
  have HP := Lib.hid hp
  have hrp := rrp_any (y / 2) 4 w2
  rw [hp] at hrp
  clear hp
  go_wp2_with fail
  refine hrp.mono ?_
  rintro e w3 ⟨rfl, hb3⟩
  have Rw3 := Lib.hid (Rw2.out.all hb3)
  have Uw3 : Hid (Below w.heap.size w w3) := up Uw2.out hb3
  have Hw3 := Lib.hid (Hw2.out.all hb3)
  clear Rw2 Uw2 Hw2 hb3
  simp only [trV]
  clear hrp
  go_wp2_with fail
  refine (rone_any (p0, p1, p2) w3).mono ?_
  rintro e w4 ⟨v, rfl, hO, hb4⟩
  obtain ⟨A, cap, rfl, -, -⟩ := hO.ops
  have Ow4 : Hid (OwnT w4 w.heap.size (.slice A 1 cap) [(p0, p1, p2)]) := hO.lift Uw3.out.size
  clear hO
  have Rw4 := Lib.hid (Rw3.out.all hb4)
  have Uw4 : Hid (Below w.heap.size w w4) := up Uw3.out hb4
  have Hw4 := Lib.hid (Hw3.out.all hb4)
  clear Rw3 Uw3 Hw3 hb4
  go_wp2_with fail
  refine (rins_any ⟨#[80, 79, 80]⟩ A 1 cap w4).mono ?_
  rintro e w5 ⟨rfl, hb5⟩
  have Rw5 := Lib.hid (Rw4.out.all hb5)
  have Uw5 : Hid (Below w.heap.size w w5) := up Uw4.out hb5
  have Hw5 := Lib.hid (Hw4.out.all hb5)
  have Ow5 := Lib.hid (Ow4.out.below hb5)
  clear Rw4 Uw4 Hw4 Ow4 hb5
  obtain ⟨z0, z1, z2, z3⟩ := Rw5.out.cells
  go_wp2
  obtain ⟨wz, hwz, q1, q2, q3⟩ := ri_put Rw5.out ⟨#[80, 79, 80]⟩ (.slice A 1 cap)
  rw [hwz]
  obtain ⟨s0, s1⟩ := q1.cells
  refine bodyPost_ret (v := .tuple #[.agg #[.string ⟨#[80, 79, 80]⟩, (.slice A 1 cap)], .string ⟨#[]⟩]) ?_ rfl ?_
  · simp [results, Tryz.results59, go_sem, s0, s1]
  · exact ⟨_, rfl, (by rw [HP.out]; exact own_put Rw5.out Ow5.out q3), Uw5.out.trans (q2.mono (by have := HN.out; omega))⟩
theorem high_5_e (y : Int) (hy : 0 ≤ y ∧ y ≤ 7) (hq : y % 2 = 0) (w : World) : Calls Tryz.prog 59 #[.int .i64 y, .int .i64 5] w (RetI w [80, 85, 83, 72] [rpT (y / 2) 4] []) := by
  have KQ : Hid (y % 2 = 0) := hq
  clear hq
  obtain ⟨w0, hw0, rz0, bl0⟩ := ri_start w
  obtain ⟨n, hn⟩ : ∃ n, w.heap.size = n := ⟨_, rfl⟩
  have Rw0 : Hid (Rz w0 n) := by rw [← hn]; exact rz0
  have Uw0 : Hid (Below w.heap.size w w0) := bl0
  have HN := Lib.hid hn
  clear rz0 bl0
  go_enter Tryz.func59, Tryz.ntmps59
  go_wp2_with fail
  refine (rrp_any 2 3 w0).mono ?_
  rintro e w1 ⟨rfl, hb1⟩
  have Rw1 := Lib.hid (Rw0.out.all hb1)
  have Uw1 : Hid (Below w.heap.size w w1) := up Uw0.out hb1
  clear Rw0 Uw0 hb1
  clear hw0
  simp only [trV]
  simp only [rpT, show ¬ ((2 : Int) = 3) by decide, if_false]
  go_upto_region 2 with fail
  obtain ⟨bH, hbH⟩ : ∃ b, w1.heap.size = b := ⟨_, rfl⟩
  obtain ⟨w2, hw2⟩ : ∃ v, w1.alloc (.cells #[.int .i64 3, .int .i64 2, .int .i64 0] 69) = v := ⟨_, rfl⟩
  have hb2 : Below w1.heap.size w1 w2 := by rw [← hw2]; exact up_alloc _ _
  have Hw2 : Hid (OpV w2 bH (3, 2, 0)) := by rw [← hw2, ← hbH]; exact opv_new _ _ _ _
  rw [hw2, hbH]
  clear hw2 hbH
  have Rw2 := Lib.hid (Rw1.out.all hb2)
  have Uw2 : Hid (Below w.heap.size w w2) := up Uw1.out hb2
  clear Rw1 Uw1 hb2
  go_upto_region 3 with fail
  rw [KQ.out]
  obtain ⟨⟨p0, p1, p2⟩, hp⟩ : ∃ x : Tr, rpT (y / 2) 4 = x := ⟨_, rfl⟩
  have HP := Lib.hid hp
  have hrp := rrp_any (y / 2) 4 w2
  rw [hp] at hrp
  clear hp
  go_wp2_with fail
  refine hrp.mono ?_
  rintro e w3 ⟨rfl, hb3⟩
  have Rw3 := Lib.hid (Rw2.out.all hb3)
  have Uw3 : Hid (Below w.heap.size w w3) := up Uw2.out hb3
  have Hw3 := Lib.hid (Hw2.out.all hb3)
  clear Rw2 Uw2 Hw2 hb3
  simp only [trV]
  clear hrp
  go_wp2_with fail
  refine (rone_any (p0, p1, p2) w3).mono ?_
  rintro e w4 ⟨v, rfl, hO, hb4⟩
  obtain ⟨A, cap, rfl, -, -⟩ := hO.ops
  have Ow4 : Hid (OwnT w4 w.heap.size (.slice A 1 cap) [(p0, p1, p2)]) := hO.lift Uw3.out.size
  clear hO
  have Rw4 := Lib.hid (Rw3.out.all hb4)
  have Uw4 : Hid (Below w.heap.size w w4) := up Uw3.out hb4
  have Hw4 := Lib.hid (Hw3.out.all hb4)
  clear Rw3 Uw3 Hw3 hb4
  go_wp2_with fail
  refine (rins_any ⟨#[80, 85, 83, 72]⟩ A 1 cap w4).mono ?_
  rintro e w5 ⟨rfl, hb5⟩
  have Rw5 := Lib.hid (Rw4.out.all hb5)
  have Uw5 : Hid (Below w.heap.size w w5) := up Uw4.out hb5
  have Hw5 := Lib.hid (Hw4.out.all hb5)
  have Ow5 := Lib.hid (Ow4.out.below hb5)
  clear Rw4 Uw4 Hw4 Ow4 hb5
  obtain ⟨z0, z1, z2, z3⟩ := Rw5.out.cells
  go_wp2
  obtain ⟨wz, hwz, q1, q2, q3⟩ := ri_put Rw5.out ⟨#[80, 85, 83, 72]⟩ (.slice A 1 cap)
  rw [hwz]
  obtain ⟨s0, s1⟩ := q1.cells
  refine bodyPost_ret (v := .tuple #[.agg #[.string ⟨#[80, 85, 83, 72]⟩, (.slice A 1 cap)], .string ⟨#[]⟩]) ?_ rfl ?_
  · simp [results, Tryz.results59, go_sem, s0, s1]
  · exact ⟨_, rfl, (by rw [HP.out]; exact own_put Rw5.out Ow5.out q3), Uw5.out.trans (q2.mono (by have := HN.out; omega))⟩
theorem high_6 (y : Nat) (hy : y < 8) (w : World) : Calls Tryz.prog 59 #[.int .i64 (y : Int), .int .i64 6] w (RetI w (aluN y (6, 0, 0)).1 (aluN y (6, 0, 0)).2 [110]) := by
  have HY := Lib.hid hy
  have hy1 : (y : Int) ≤ 7 := by omega
  clear hy
  obtain ⟨w0, hw0, rz0, bl0⟩ := ri_start w
  obtain ⟨n, hn⟩ : ∃ n, w.heap.size = n := ⟨_, rfl⟩
  have Rw0 : Hid (Rz w0 n) := by rw [← hn]; exact rz0
  have Uw0 : Hid (Below w.heap.size w w0) := bl0
  have HN := Lib.hid hn
  clear rz0 bl0
  go_enter Tryz.func59, Tryz.ntmps59
  go_wp2_with fail
  refine (rrp_any 2 3 w0).mono ?_
  rintro e w1 ⟨rfl, hb1⟩
  have Rw1 := Lib.hid (Rw0.out.all hb1)
  have Uw1 : Hid (Below w.heap.size w w1) := up Uw0.out hb1
  clear Rw0 Uw0 hb1
  clear hw0
  simp only [trV]
  simp only [rpT, show ¬ ((2 : Int) = 3) by decide, if_false]
  go_upto_region 2 with fail
  obtain ⟨bH, hbH⟩ : ∃ b, w1.heap.size = b := ⟨_, rfl⟩
  obtain ⟨w2, hw2⟩ : ∃ v, w1.alloc (.cells #[.int .i64 3, .int .i64 2, .int .i64 0] 69) = v := ⟨_, rfl⟩
  have hb2 : Below w1.heap.size w1 w2 := by rw [← hw2]; exact up_alloc _ _
  have Hw2 : Hid (OpV w2 bH (3, 2, 0)) := by rw [← hw2, ← hbH]; exact opv_new _ _ _ _
  rw [hw2, hbH]
  clear hw2 hbH
  have Rw2 := Lib.hid (Rw1.out.all hb2)
  have Uw2 : Hid (Below w.heap.size w w2) := up Uw1.out hb2
  clear Rw1 Uw1 hb2
  go_wp2_with fail
  refine (rimm_any 0 w2).mono ?_
  rintro e w3 ⟨rfl, hb3⟩
  have Rw3 := Lib.hid (Rw2.out.all hb3)
  have Uw3 : Hid (Below w.heap.size w w3) := up Uw2.out hb3
  have Hw3 := Lib.hid (Hw2.out.all hb3)
  clear Rw2 Uw2 Hw2 hb3
  simp only [trV]
  obtain ⟨m, hm⟩ : ∃ m, (aluN y (6, 0, 0)).1 = m := ⟨_, rfl⟩
  obtain ⟨L, hL⟩ : ∃ L, (aluN y (6, 0, 0)).2 = L := ⟨_, rfl⟩
  have KK := alu_any y HY.out (6, 0, 0) w3
  rw [hm, hL] at KK
  have HM : Hid ((aluN y (6, 0, 0)).1 = m ∧ (aluN y (6, 0, 0)).2 = L) := ⟨hm, hL⟩
  clear hm hL
  have KK := Lib.hid KK
  go_wp2_with fail
  refine KK.out.mono ?_
  rintro e w4 ⟨v, rfl, hO, hb4⟩
  clear KK
  obtain ⟨A, cap, rfl, -, -⟩ := hO.ops
  have Ow4 : Hid (OwnT w4 w.heap.size (.slice A L.length cap) L) := hO.lift Uw3.out.size
  clear hO
  have Rw4 := Lib.hid (Rw3.out.all hb4)
  have Uw4 : Hid (Below w.heap.size w w4) := up Uw3.out hb4
  have Hw4 := Lib.hid (Hw3.out.all hb4)
  clear Rw3 Uw3 Hw3 hb4
  obtain ⟨z0, z1, z2, z3⟩ := Rw4.out.cells
  go_wp2
  obtain ⟨wz, hwz, q1, q2, q3⟩ := ri_put Rw4.out (sB m) (.slice A L.length cap)
  rw [hwz]
  obtain ⟨s0, s1⟩ := q1.cells
  refine bodyPost_ret (v := .tuple #[.agg #[.string (sB m), .slice A L.length cap], .string (⟨#[110]⟩)]) ?_ rfl ?_
  · simp [results, Tryz.results59, go_sem, s0, s1]
  · rw [HM.out.1, HM.out.2]
    exact ⟨_, rfl, own_put Rw4.out Ow4.out q3, Uw4.out.trans (q2.mono (by rw [HN.out]; omega))⟩
theorem high_7 (y : Int) (hy : 0 ≤ y ∧ y ≤ 7) (w : World) : Calls Tryz.prog 59 #[.int .i64 y, .int .i64 7] w (RetI w [82, 83, 84] [(6, 0, 8 * y)] []) := by
  obtain ⟨w0, hw0, rz0, bl0⟩ := ri_start w
  obtain ⟨n, hn⟩ : ∃ n, w.heap.size = n := ⟨_, rfl⟩
  have Rw0 : Hid (Rz w0 n) := by rw [← hn]; exact rz0
  have Uw0 : Hid (Below w.heap.size w w0) := bl0
  have HN := Lib.hid hn
  clear rz0 bl0
  go_enter Tryz.func59, Tryz.ntmps59
  go_wp2_with fail
  refine (rrp_any 2 3 w0).mono ?_
  rintro e w1 ⟨rfl, hb1⟩
  have Rw1 := Lib.hid (Rw0.out.all hb1)
  have Uw1 : Hid (Below w.heap.size w w1) := up Uw0.out hb1
  clear Rw0 Uw0 hb1
  clear hw0
  simp only [trV]
  simp only [rpT, show ¬ ((2 : Int) = 3) by decide, if_false]
  go_upto_region 2 with fail
  obtain ⟨bH, hbH⟩ : ∃ b, w1.heap.size = b := ⟨_, rfl⟩
  obtain ⟨w2, hw2⟩ : ∃ v, w1.alloc (.cells #[.int .i64 3, .int .i64 2, .int .i64 0] 69) = v := ⟨_, rfl⟩
  have hb2 : Below w1.heap.size w1 w2 := by rw [← hw2]; exact up_alloc _ _
  have Hw2 : Hid (OpV w2 bH (3, 2, 0)) := by rw [← hw2, ← hbH]; exact opv_new _ _ _ _
  rw [hw2, hbH]
  clear hw2 hbH
  have Rw2 := Lib.hid (Rw1.out.all hb2)
  have Uw2 : Hid (Below w.heap.size w w2) := up Uw1.out hb2
  clear Rw1 Uw1 hb2
  have hy1 := hy.1
  have hy2 := hy.2
  go_wp2_with fail
  refine (rimm_any (8 * y) w2).mono ?_
  rintro e w3 ⟨rfl, hb3⟩
  have Rw3 := Lib.hid (Rw2.out.all hb3)
  have Uw3 : Hid (Below w.heap.size w w3) := up Uw2.out hb3
  have Hw3 := Lib.hid (Hw2.out.all hb3)
  clear Rw2 Uw2 Hw2 hb3
  simp only [trV]
  go_wp2_with fail
  refine (rone_any (6, 0, 8 * y) w3).mono ?_
  rintro e w4 ⟨v, rfl, hO, hb4⟩
  obtain ⟨A, cap, rfl, -, -⟩ := hO.ops
  have Ow4 : Hid (OwnT w4 w.heap.size (.slice A 1 cap) [(6, 0, 8 * y)]) := hO.lift Uw3.out.size
  clear hO
  have Rw4 := Lib.hid (Rw3.out.all hb4)
  have Uw4 : Hid (Below w.heap.size w w4) := up Uw3.out hb4
  have Hw4 := Lib.hid (Hw3.out.all hb4)
  clear Rw3 Uw3 Hw3 hb4
  go_wp2_with fail
  refine (rins_any ⟨#[82, 83, 84]⟩ A 1 cap w4).mono ?_
  rintro e w5 ⟨rfl, hb5⟩
  have Rw5 := Lib.hid (Rw4.out.all hb5)
  have Uw5 : Hid (Below w.heap.size w w5) := up Uw4.out hb5
  have Hw5 := Lib.hid (Hw4.out.all hb5)
  have Ow5 := Lib.hid (Ow4.out.below hb5)
  clear Rw4 Uw4 Hw4 Ow4 hb5
  obtain ⟨z0, z1, z2, z3⟩ := Rw5.out.cells
  go_wp2
  obtain ⟨wz, hwz, q1, q2, q3⟩ := ri_put Rw5.out ⟨#[82, 83, 84]⟩ (.slice A 1 cap)
  rw [hwz]
  obtain ⟨s0, s1⟩ := q1.cells
  refine bodyPost_ret (v := .tuple #[.agg #[.string ⟨#[82, 83, 84]⟩, (.slice A 1 cap)], .string ⟨#[]⟩]) ?_ rfl ?_
  · simp [results, Tryz.results59, go_sem, s0, s1]
  · exact ⟨_, rfl, own_put Rw5.out Ow5.out q3, Uw5.out.trans (q2.mono (by have := HN.out; omega))⟩
end Go.Proofs.YtipgecdfnbldnaaGreatDoor
