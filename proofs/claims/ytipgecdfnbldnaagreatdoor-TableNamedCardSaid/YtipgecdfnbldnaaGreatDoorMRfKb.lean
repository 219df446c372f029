/-
  The reference's ed.
-/
import Derived.Test.YtipgecdfnbldnaaGreatDoorMRfKd
import Derived.Test.YtipgecdfnbldnaaGreatDoorBaA
import Derived.Deep.DeepCutAuto
import Derived.Deep.Cut
import Derived.StillTail
import Derived.StillTailTactics
import Derived.RegionTactic
set_option linter.all false
set_option maxRecDepth 100000
set_option maxHeartbeats 4000000
namespace Go.Proofs.YtipgecdfnbldnaaGreatDoor
open Go.RowKit Go.Shelf
attribute [local irreducible] Go.Mixed.wpMix Go.Mixed.wpMixT
theorem ed_1_0_6 (op : Nat) (hop : op < 256) (y z : Nat) (hx : op / 64 = 1) (hy : op / 8 % 8 = y) (hz : op % 8 = z) (hv : z = 0) (hu : y = 6)(w : World) : Calls Tryz.prog 30 #[.int .u8 op] w (RetE w [73, 78] [(4, 8, 0)] [] false) := by
  have HY : Hid (y < 8) := (by omega : y < 8)
  have HZ : Hid (z < 8) := (by omega : z < 8)
  have HE : Hid ((op : Int) / 64 = 1 ∧ (op : Int) / 8 % 8 = 6 ∧ (op : Int) % 8 = 0) := (by omega : (op : Int) / 64 = 1 ∧ (op : Int) / 8 % 8 = 6 ∧ (op : Int) % 8 = 0)
  clear hu
  clear hv
  clear hx hy hz
  obtain ⟨w0, hw0, rz0, bl0⟩ := ri_start w
  obtain ⟨n, hn⟩ : ∃ n, w.heap.size = n := ⟨_, rfl⟩
  have Rw0 : Hid (Rz w0 n) := by rw [← hn]; exact rz0
  have Uw0 : Hid (Below w.heap.size w w0) := bl0
  have HN := Lib.hid hn
  clear rz0 bl0
  go_enter Tryz.func30, Tryz.ntmps30
  go_upto_region 4 with fail
  obtain ⟨e1, e2, e3⟩ := HE.out
  rw [e1, e2, e3]
  clear e1 e2 e3 HE
  go_wp2_with fail
  refine (rrp_any 2 3 w0).mono ?_
  rintro e w1 ⟨rfl, hb1⟩
  have Rw1 := Lib.hid (Rw0.out.all hb1)
  have Uw1 : Hid (Below w.heap.size w w1) := up Uw0.out hb1
  clear Rw0 Uw0 hb1
  clear hw0
  simp only [trV]
  simp only [rpT, show ¬ ((2 : Int) = 3) by decide, if_false]
  go_upto_region 10 with fail
  obtain ⟨bH, hbH⟩ : ∃ b, w1.heap.size = b := ⟨_, rfl⟩
  obtain ⟨w2, hw2⟩ : ∃ v, w1.alloc (.cells #[.int .i64 3, .int .i64 2, .int .i64 0] 69) = v := ⟨_, rfl⟩
  have hb2 : Below w1.heap.size w1 w2 := by rw [← hw2]; exact up_alloc _ _
  have Hw2 : Hid (OpV w2 bH (3, 2, 0)) := by rw [← hw2, ← hbH]; exact opv_new _ _ _ _
  rw [hw2, hbH]
  clear hw2 hbH
  have Rw2 := Lib.hid (Rw1.out.all hb2)
  have Uw2 : Hid (Below w.heap.size w w2) := up Uw1.out hb2
  clear Rw1 Uw1 hb2
  obtain ⟨⟨p0, p1, p2⟩, hp⟩ : ∃ x : Tr, rpT 3 3 = x := ⟨_, rfl⟩
  have HP := Lib.hid hp
  have hrp := rrp_any 3 3 w2
  rw [hp] at hrp
  clear hp
  go_wp2_with fail
  refine hrp.mono ?_
  rintro e w3 ⟨rfl, hb3⟩
  have Rw3 := Lib.hid (Rw2.out.all hb3)
  have Uw3 : Hid (Below w.heap.size w w3) := up Uw2.out hb3
  have Hw3 := Lib.hid (Hw2.out.all hb3)
  clear Rw2 Uw2 Hw2 hb3
  simp only [trV]
  clear hrp
  go_upto_region 11 with fail
  obtain ⟨bP, hbP⟩ : ∃ b, w3.heap.size = b := ⟨_, rfl⟩
  obtain ⟨w4, hw4⟩ : ∃ v, w3.alloc (.cells #[.int .i64 p0, .int .i64 p1, .int .i64 p2] 69) = v := ⟨_, rfl⟩
  have hb4 : Below w3.heap.size w3 w4 := by rw [← hw4]; exact up_alloc _ _
  have Pw4 : Hid (OpV w4 bP (p0, p1, p2)) := by rw [← hw4, ← hbP]; exact opv_new _ _ _ _
  rw [hw4, hbP]
  clear hw4 hbP
  have Rw4 := Lib.hid (Rw3.out.all hb4)
  have Uw4 : Hid (Below w.heap.size w w4) := up Uw3.out hb4
  have Hw4 := Lib.hid (Hw3.out.all hb4)
  clear Rw3 Uw3 Hw3 hb4
  go_wp2_with fail
  refine (rind_any 8 w4).mono ?_
  rintro e w5 ⟨rfl, hb5⟩
  have Rw5 := Lib.hid (Rw4.out.all hb5)
  have Uw5 : Hid (Below w.heap.size w w5) := up Uw4.out hb5
  have Hw5 := Lib.hid (Hw4.out.all hb5)
  have Pw5 := Lib.hid (Pw4.out.all hb5)
  clear Rw4 Uw4 Hw4 Pw4 hb5
  simp only [trV]
  go_wp2_with fail
  refine (rone_any (4, 8, 0) w5).mono ?_
  rintro e w6 ⟨v, rfl, hO, hb6⟩
  obtain ⟨A, cap, rfl, -, -⟩ := hO.ops
  have Ow6 : Hid (OwnT w6 w.heap.size (.slice A 1 cap) [(4, 8, 0)]) := hO.lift Uw5.out.size
  clear hO
  have Rw6 := Lib.hid (Rw5.out.all hb6)
  have Uw6 : Hid (Below w.heap.size w w6) := up Uw5.out hb6
  have Hw6 := Lib.hid (Hw5.out.all hb6)
  have Pw6 := Lib.hid (Pw5.out.all hb6)
  clear Rw5 Uw5 Hw5 Pw5 hb6
  go_wp2_with fail
  refine (rins_any ⟨#[73, 78]⟩ A 1 cap w6).mono ?_
  rintro e w7 ⟨rfl, hb7⟩
  have Rw7 := Lib.hid (Rw6.out.all hb7)
  have Uw7 : Hid (Below w.heap.size w w7) := up Uw6.out hb7
  have Hw7 := Lib.hid (Hw6.out.all hb7)
  have Pw7 := Lib.hid (Pw6.out.all hb7)
  have Ow7 := Lib.hid (Ow6.out.below hb7)
  clear Rw6 Uw6 Hw6 Pw6 Ow6 hb7
  obtain ⟨z0, z1, z2, z3⟩ := Rw7.out.cells
  go_wp2
  obtain ⟨wz, hwz, q1, q2, q3⟩ := ri_put Rw7.out ⟨#[73, 78]⟩ (.slice A 1 cap)
  rw [hwz]
  obtain ⟨s0, s1⟩ := q1.cells
  refine bodyPost_ret (v := .tuple #[.agg #[.string ⟨#[73, 78]⟩, (.slice A 1 cap)], .string ⟨#[]⟩, .bool false]) ?_ rfl ?_
  · simp [results, Tryz.results30, go_sem, s0, s1]
  · exact ⟨_, rfl, own_put Rw7.out Ow7.out q3, Uw7.out.trans (q2.mono (by have := HN.out; omega))⟩
theorem ed_1_0 (op : Nat) (hop : op < 256) (y z : Nat) (hx : op / 64 = 1) (hy : op / 8 % 8 = y) (hz : op % 8 = z) (hv : z = 0) (hu : y ≠ 6)(w : World) : Calls Tryz.prog 30 #[.int .u8 op] w (RetE w [73, 78] [regT (y : Int), (4, 8, 0)] [] false) := by
  have HY : Hid (y < 8) := (by omega : y < 8)
  have HZ : Hid (z < 8) := (by omega : z < 8)
  have HE : Hid ((op : Int) / 64 = 1 ∧ (op : Int) / 8 % 8 = (y : Int) ∧ (op : Int) % 8 = 0) := (by omega : (op : Int) / 64 = 1 ∧ (op : Int) / 8 % 8 = (y : Int) ∧ (op : Int) % 8 = 0)
  have K6 : Hid (((y : Int) == 6) = false) := (by simp; omega : ((y : Int) == 6) = false)
  clear hu
  clear hv
  clear hx hy hz
  obtain ⟨w0, hw0, rz0, bl0⟩ := ri_start w
  obtain ⟨n, hn⟩ : ∃ n, w.heap.size = n := ⟨_, rfl⟩
  have Rw0 : Hid (Rz w0 n) := by rw [← hn]; exact rz0
  have Uw0 : Hid (Below w.heap.size w w0) := bl0
  have HN := Lib.hid hn
  clear rz0 bl0
  go_enter Tryz.func30, Tryz.ntmps30
  go_upto_region 4 with fail
  obtain ⟨e1, e2, e3⟩ := HE.out
  rw [e1, e2, e3]
  clear e1 e2 e3 HE
  go_wp2_with fail
  refine (rrp_any 2 3 w0).mono ?_
  rintro e w1 ⟨rfl, hb1⟩
  have Rw1 := Lib.hid (Rw0.out.all hb1)
  have Uw1 : Hid (Below w.heap.size w w1) := up Uw0.out hb1
  clear Rw0 Uw0 hb1
  clear hw0
  simp only [trV]
  simp only [rpT, show ¬ ((2 : Int) = 3) by decide, if_false]
  go_upto_region 10 with fail
  obtain ⟨bH, hbH⟩ : ∃ b, w1.heap.size = b := ⟨_, rfl⟩
  obtain ⟨w2, hw2⟩ : ∃ v, w1.alloc (.cells #[.int .i64 3, .int .i64 2, .int .i64 0] 69) = v := ⟨_, rfl⟩
  have hb2 : Below w1.heap.size w1 w2 := by rw [← hw2]; exact up_alloc _ _
  have Hw2 : Hid (OpV w2 bH (3, 2, 0)) := by rw [← hw2, ← hbH]; exact opv_new _ _ _ _
  rw [hw2, hbH]
  clear hw2 hbH
  have Rw2 := Lib.hid (Rw1.out.all hb2)
  have Uw2 : Hid (Below w.heap.size w w2) := up Uw1.out hb2
  clear Rw1 Uw1 hb2
  obtain ⟨⟨p0, p1, p2⟩, hp⟩ : ∃ x : Tr, rpT ((y : Int) / 2) 3 = x := ⟨_, rfl⟩
  have HP := Lib.hid hp
  have hrp := rrp_any ((y : Int) / 2) 3 w2
  rw [hp] at hrp
  clear hp
  have by1 : (0 : Int) ≤ (y : Int) := by omega
  have by2 : (y : Int) ≤ 7 := by have := HY.out; omega
  go_wp2_with fail
  refine hrp.mono ?_
  rintro e w3 ⟨rfl, hb3⟩
  have Rw3 := Lib.hid (Rw2.out.all hb3)
  have Uw3 : Hid (Below w.heap.size w w3) := up Uw2.out hb3
  have Hw3 := Lib.hid (Hw2.out.all hb3)
  clear Rw2 Uw2 Hw2 hb3
  simp only [trV]
  clear hrp by1 by2
  go_upto_region 11 with fail
  obtain ⟨bP, hbP⟩ : ∃ b, w3.heap.size = b := ⟨_, rfl⟩
  obtain ⟨w4, hw4⟩ : ∃ v, w3.alloc (.cells #[.int .i64 p0, .int .i64 p1, .int .i64 p2] 69) = v := ⟨_, rfl⟩
  have hb4 : Below w3.heap.size w3 w4 := by rw [← hw4]; exact up_alloc _ _
  have Pw4 : Hid (OpV w4 bP (p0, p1, p2)) := by rw [← hw4, ← hbP]; exact opv_new _ _ _ _
  rw [hw4, hbP]
  clear hw4 hbP
  have Rw4 := Lib.hid (Rw3.out.all hb4)
  have Uw4 : Hid (Below w.heap.size w w4) := up Uw3.out hb4
  have Hw4 := Lib.hid (Hw3.out.all hb4)
  clear Rw3 Uw3 Hw3 hb4
  have k6 : ((y : Int) == 6) = false := K6.out
  go_wp2_with fail
  refine (rr_any (y : Int) w4).mono ?_
  rintro e w5 ⟨rfl, hb5⟩
  have Rw5 := Lib.hid (Rw4.out.all hb5)
  have Uw5 : Hid (Below w.heap.size w w5) := up Uw4.out hb5
  have Hw5 := Lib.hid (Hw4.out.all hb5)
  have Pw5 := Lib.hid (Pw4.out.all hb5)
  clear Rw4 Uw4 Hw4 Pw4 hb5
  simp only [trV]
  obtain ⟨⟨x0, x1, x2⟩, hx⟩ : ∃ x : Tr, regT (y : Int) = x := ⟨_, rfl⟩
  have HX := Lib.hid hx
  rw [hx]
  clear hx
  go_wp2_with fail
  refine (rind_any 8 w5).mono ?_
  rintro e w6 ⟨rfl, hb6⟩
  have Rw6 := Lib.hid (Rw5.out.all hb6)
  have Uw6 : Hid (Below w.heap.size w w6) := up Uw5.out hb6
  have Hw6 := Lib.hid (Hw5.out.all hb6)
  have Pw6 := Lib.hid (Pw5.out.all hb6)
  clear Rw5 Uw5 Hw5 Pw5 hb6
  simp only [trV]
  go_wp2_with fail
  refine (rtwo_any (x0, x1, x2) (4, 8, 0) w6).mono ?_
  rintro e w7 ⟨v, rfl, hO, hb7⟩
  obtain ⟨A, cap, rfl, -, -⟩ := hO.ops
  have Ow7 : Hid (OwnT w7 w.heap.size (.slice A 2 cap) [(x0, x1, x2), (4, 8, 0)]) := hO.lift Uw6.out.size
  clear hO
  have Rw7 := Lib.hid (Rw6.out.all hb7)
  have Uw7 : Hid (Below w.heap.size w w7) := up Uw6.out hb7
  have Hw7 := Lib.hid (Hw6.out.all hb7)
  have Pw7 := Lib.hid (Pw6.out.all hb7)
  clear Rw6 Uw6 Hw6 Pw6 hb7
  go_wp2_with fail
  refine (rins_any ⟨#[73, 78]⟩ A 2 cap w7).mono ?_
  rintro e w8 ⟨rfl, hb8⟩
  have Rw8 := Lib.hid (Rw7.out.all hb8)
  have Uw8 : Hid (Below w.heap.size w w8) := up Uw7.out hb8
  have Hw8 := Lib.hid (Hw7.out.all hb8)
  have Pw8 := Lib.hid (Pw7.out.all hb8)
  have Ow8 := Lib.hid (Ow7.out.below hb8)
  clear Rw7 Uw7 Hw7 Pw7 Ow7 hb8
  obtain ⟨z0, z1, z2, z3⟩ := Rw8.out.cells
  go_wp2
  obtain ⟨wz, hwz, q1, q2, q3⟩ := ri_put Rw8.out ⟨#[73, 78]⟩ (.slice A 2 cap)
  rw [hwz]
  obtain ⟨s0, s1⟩ := q1.cells
  refine bodyPost_ret (v := .tuple #[.agg #[.string ⟨#[73, 78]⟩, (.slice A 2 cap)], .string ⟨#[]⟩, .bool false]) ?_ rfl ?_
  · simp [results, Tryz.results30, go_sem, s0, s1]
  · exact ⟨_, rfl, (by rw [HX.out]; exact own_put Rw8.out Ow8.out q3), Uw8.out.trans (q2.mono (by have := HN.out; omega))⟩
theorem ed_1_1_6 (op : Nat) (hop : op < 256) (y z : Nat) (hx : op / 64 = 1) (hy : op / 8 % 8 = y) (hz : op % 8 = z) (hv : z = 1) (hu : y = 6)(w : World) : Calls Tryz.prog 30 #[.int .u8 op] w (RetE w [79, 85, 84] [(4, 8, 0), (6, 0, 0)] [] false) := by
  have HY : Hid (y < 8) := (by omega : y < 8)
  have HZ : Hid (z < 8) := (by omega : z < 8)
  have HE : Hid ((op : Int) / 64 = 1 ∧ (op : Int) / 8 % 8 = 6 ∧ (op : Int) % 8 = 1) := (by omega : (op : Int) / 64 = 1 ∧ (op : Int) / 8 % 8 = 6 ∧ (op : Int) % 8 = 1)
  clear hu
  clear hv
  clear hx hy hz
  obtain ⟨w0, hw0, rz0, bl0⟩ := ri_start w
  obtain ⟨n, hn⟩ : ∃ n, w.heap.size = n := ⟨_, rfl⟩
  have Rw0 : Hid (Rz w0 n) := by rw [← hn]; exact rz0
  have Uw0 : Hid (Below w.heap.size w w0) := bl0
  have HN := Lib.hid hn
  clear rz0 bl0
  go_enter Tryz.func30, Tryz.ntmps30
  go_upto_region 4 with fail
  obtain ⟨e1, e2, e3⟩ := HE.out
  rw [e1, e2, e3]
  clear e1 e2 e3 HE
  go_wp2_with fail
  refine (rrp_any 2 3 w0).mono ?_
  rintro e w1 ⟨rfl, hb1⟩
  have Rw1 := Lib.hid (Rw0.out.all hb1)
  have Uw1 : Hid (Below w.heap.size w w1) := up Uw0.out hb1
  clear Rw0 Uw0 hb1
  clear hw0
  simp only [trV]
  simp only [rpT, show ¬ ((2 : Int) = 3) by decide, if_false]
  go_upto_region 10 with fail
  obtain ⟨bH, hbH⟩ : ∃ b, w1.heap.size = b := ⟨_, rfl⟩
  obtain ⟨w2, hw2⟩ : ∃ v, w1.alloc (.cells #[.int .i64 3, .int .i64 2, .int .i64 0] 69) = v := ⟨_, rfl⟩
  have hb2 : Below w1.heap.size w1 w2 := by rw [← hw2]; exact up_alloc _ _
  have Hw2 : Hid (OpV w2 bH (3, 2, 0)) := by rw [← hw2, ← hbH]; exact opv_new _ _ _ _
  rw [hw2, hbH]
  clear hw2 hbH
  have Rw2 := Lib.hid (Rw1.out.all hb2)
  have Uw2 : Hid (Below w.heap.size w w2) := up Uw1.out hb2
  clear Rw1 Uw1 hb2
  obtain ⟨⟨p0, p1, p2⟩, hp⟩ : ∃ x : Tr, rpT 3 3 = x := ⟨_, rfl⟩
  have HP := Lib.hid hp
  have hrp := rrp_any 3 3 w2
  rw [hp] at hrp
  clear hp
  go_wp2_with fail
  refine hrp.mono ?_
  rintro e w3 ⟨rfl, hb3⟩
  have Rw3 := Lib.hid (Rw2.out.all hb3)
  have Uw3 : Hid (Below w.heap.size w w3) := up Uw2.out hb3
  have Hw3 := Lib.hid (Hw2.out.all hb3)
  clear Rw2 Uw2 Hw2 hb3
  simp only [trV]
  clear hrp
  go_upto_region 11 with fail
  obtain ⟨bP, hbP⟩ : ∃ b, w3.heap.size = b := ⟨_, rfl⟩
  obtain ⟨w4, hw4⟩ : ∃ v, w3.alloc (.cells #[.int .i64 p0, .int .i64 p1, .int .i64 p2] 69) = v := ⟨_, rfl⟩
  have hb4 : Below w3.heap.size w3 w4 := by rw [← hw4]; exact up_alloc _ _
  have Pw4 : Hid (OpV w4 bP (p0, p1, p2)) := by rw [← hw4, ← hbP]; exact opv_new _ _ _ _
  rw [hw4, hbP]
  clear hw4 hbP
  have Rw4 := Lib.hid (Rw3.out.all hb4)
  have Uw4 : Hid (Below w.heap.size w w4) := up Uw3.out hb4
  have Hw4 := Lib.hid (Hw3.out.all hb4)
  clear Rw3 Uw3 Hw3 hb4
  go_wp2_with fail
  refine (rind_any 8 w4).mono ?_
  rintro e w5 ⟨rfl, hb5⟩
  have Rw5 := Lib.hid (Rw4.out.all hb5)
  have Uw5 : Hid (Below w.heap.size w w5) := up Uw4.out hb5
  have Hw5 := Lib.hid (Hw4.out.all hb5)
  have Pw5 := Lib.hid (Pw4.out.all hb5)
  clear Rw4 Uw4 Hw4 Pw4 hb5
  simp only [trV]
  go_wp2_with fail
  refine (rimm_any 0 w5).mono ?_
  rintro e w6 ⟨rfl, hb6⟩
  have Rw6 := Lib.hid (Rw5.out.all hb6)
  have Uw6 : Hid (Below w.heap.size w w6) := up Uw5.out hb6
  have Hw6 := Lib.hid (Hw5.out.all hb6)
  have Pw6 := Lib.hid (Pw5.out.all hb6)
  clear Rw5 Uw5 Hw5 Pw5 hb6
  simp only [trV]
  go_wp2_with fail
  refine (rtwo_any (4, 8, 0) (6, 0, 0) w6).mono ?_
  rintro e w7 ⟨v, rfl, hO, hb7⟩
  obtain ⟨A, cap, rfl, -, -⟩ := hO.ops
  have Ow7 : Hid (OwnT w7 w.heap.size (.slice A 2 cap) [(4, 8, 0), (6, 0, 0)]) := hO.lift Uw6.out.size
  clear hO
  have Rw7 := Lib.hid (Rw6.out.all hb7)
  have Uw7 : Hid (Below w.heap.size w w7) := up Uw6.out hb7
  have Hw7 := Lib.hid (Hw6.out.all hb7)
  have Pw7 := Lib.hid (Pw6.out.all hb7)
  clear Rw6 Uw6 Hw6 Pw6 hb7
  go_wp2_with fail
  refine (rins_any ⟨#[79, 85, 84]⟩ A 2 cap w7).mono ?_
  rintro e w8 ⟨rfl, hb8⟩
  have Rw8 := Lib.hid (Rw7.out.all hb8)
  have Uw8 : Hid (Below w.heap.size w w8) := up Uw7.out hb8
  have Hw8 := Lib.hid (Hw7.out.all hb8)
  have Pw8 := Lib.hid (Pw7.out.all hb8)
  have Ow8 := Lib.hid (Ow7.out.below hb8)
  clear Rw7 Uw7 Hw7 Pw7 Ow7 hb8
  obtain ⟨z0, z1, z2, z3⟩ := Rw8.out.cells
  go_wp2
  obtain ⟨wz, hwz, q1, q2, q3⟩ := ri_put Rw8.out ⟨#[79, 85, 84]⟩ (.slice A 2 cap)
  rw [hwz]
  obtain ⟨s0, s1⟩ := q1.cells
  refine bodyPost_ret (v := .tuple #[.agg #[.string ⟨#[79, 85, 84]⟩, (.slice A 2 cap)], .string ⟨#[]⟩, .bool false]) ?_ rfl ?_
  · simp [results, Tryz.results30, go_sem, s0, s1]
  · exact ⟨_, rfl, own_put Rw8.out Ow8.out q3, Uw8.out.trans (q2.mono (by have := HN.out; omega))⟩
theorem ed_1_1 (op : Nat) (hop : op < 256) (y z : Nat) (hx : op / 64 = 1) (hy : op / 8 % 8 = y) (hz : op % 8 = z) (hv : z = 1) (hu : y ≠ 6)(w : World) : Calls Tryz.prog 30 #[.int .u8 op] w (RetE w [79, 85, 84] [(4, 8, 0), regT (y : Int)] [] false) := by
  have HY : Hid (y < 8) := (by omega : y < 8)
  have HZ : Hid (z < 8) := (by omega : z < 8)
  have HE : Hid ((op : Int) / 64 = 1 ∧ (op : Int) / 8 % 8 = (y : Int) ∧ (op : Int) % 8 = 1) := (by omega : (op : Int) / 64 = 1 ∧ (op : Int) / 8 % 8 = (y : Int) ∧ (op : Int) % 8 = 1)
  have K6 : Hid (((y : Int) == 6) = false) := (by simp; omega : ((y : Int) == 6) = false)
  clear hu
  clear hv
  clear hx hy hz
  obtain ⟨w0, hw0, rz0, bl0⟩ := ri_start w
  obtain ⟨n, hn⟩ : ∃ n, w.heap.size = n := ⟨_, rfl⟩
  have Rw0 : Hid (Rz w0 n) := by rw [← hn]; exact rz0
  have Uw0 : Hid (Below w.heap.size w w0) := bl0
  have HN := Lib.hid hn
  clear rz0 bl0
  go_enter Tryz.func30, Tryz.ntmps30
  go_upto_region 4 with fail
  obtain ⟨e1, e2, e3⟩ := HE.out
  rw [e1, e2, e3]
  clear e1 e2 e3 HE
  go_wp2_with fail
  refine (rrp_any 2 3 w0).mono ?_
  rintro e w1 ⟨rfl, hb1⟩
  have Rw1 := Lib.hid (Rw0.out.all hb1)
  have Uw1 : Hid (Below w.heap.size w w1) := up Uw0.out hb1
  clear Rw0 Uw0 hb1
  clear hw0
  simp only [trV]
  simp only [rpT, show ¬ ((2 : Int) = 3) by decide, if_false]
  go_upto_region 10 with fail
  obtain ⟨bH, hbH⟩ : ∃ b, w1.heap.size = b := ⟨_, rfl⟩
  obtain ⟨w2, hw2⟩ : ∃ v, w1.alloc (.cells #[.int .i64 3, .int .i64 2, .int .i64 0] 69) = v := ⟨_, rfl⟩
  have hb2 : Below w1.heap.size w1 w2 := by rw [← hw2]; exact up_alloc _ _
  have Hw2 : Hid (OpV w2 bH (3, 2, 0)) := by rw [← hw2, ← hbH]; exact opv_new _ _ _ _
  rw [hw2, hbH]
  clear hw2 hbH
  have Rw2 := Lib.hid (Rw1.out.all hb2)
  have Uw2 : Hid (Below w.heap.size w w2) := up Uw1.out hb2
  clear Rw1 Uw1 hb2
  obtain ⟨⟨p0, p1, p2⟩, hp⟩ : ∃ x : Tr, rpT ((y : Int) / 2) 3 = x := ⟨_, rfl⟩
  have HP := Lib.hid hp
  have hrp := rrp_any ((y : Int) / 2) 3 w2
  rw [hp] at hrp
  clear hp
  have by1 : (0 : Int) ≤ (y : Int) := by omega
  have by2 : (y : Int) ≤ 7 := by have := HY.out; omega
  go_wp2_with fail
  refine hrp.mono ?_
  rintro e w3 ⟨rfl, hb3⟩
  have Rw3 := Lib.hid (Rw2.out.all hb3)
  have Uw3 : Hid (Below w.heap.size w w3) := up Uw2.out hb3
  have Hw3 := Lib.hid (Hw2.out.all hb3)
  clear Rw2 Uw2 Hw2 hb3
  simp only [trV]
  clear hrp by1 by2
  go_upto_region 11 with fail
  obtain ⟨bP, hbP⟩ : ∃ b, w3.heap.size = b := ⟨_, rfl⟩
  obtain ⟨w4, hw4⟩ : ∃ v, w3.alloc (.cells #[.int .i64 p0, .int .i64 p1, .int .i64 p2] 69) = v := ⟨_, rfl⟩
  have hb4 : Below w3.heap.size w3 w4 := by rw [← hw4]; exact up_alloc _ _
  have Pw4 : Hid (OpV w4 bP (p0, p1, p2)) := by rw [← hw4, ← hbP]; exact opv_new _ _ _ _
  rw [hw4, hbP]
  clear hw4 hbP
  have Rw4 := Lib.hid (Rw3.out.all hb4)
  have Uw4 : Hid (Below w.heap.size w w4) := up Uw3.out hb4
  have Hw4 := Lib.hid (Hw3.out.all hb4)
  clear Rw3 Uw3 Hw3 hb4
  have k6 : ((y : Int) == 6) = false := K6.out
  go_wp2_with fail
  refine (rind_any 8 w4).mono ?_
  rintro e w5 ⟨rfl, hb5⟩
  have Rw5 := Lib.hid (Rw4.out.all hb5)
  have Uw5 : Hid (Below w.heap.size w w5) := up Uw4.out hb5
  have Hw5 := Lib.hid (Hw4.out.all hb5)
  have Pw5 := Lib.hid (Pw4.out.all hb5)
  clear Rw4 Uw4 Hw4 Pw4 hb5
  simp only [trV]
  go_wp2_with fail
  refine (rr_any (y : Int) w5).mono ?_
  rintro e w6 ⟨rfl, hb6⟩
  have Rw6 := Lib.hid (Rw5.out.all hb6)
  have Uw6 : Hid (Below w.heap.size w w6) := up Uw5.out hb6
  have Hw6 := Lib.hid (Hw5.out.all hb6)
  have Pw6 := Lib.hid (Pw5.out.all hb6)
  clear Rw5 Uw5 Hw5 Pw5 hb6
  simp only [trV]
  obtain ⟨⟨x0, x1, x2⟩, hx⟩ : ∃ x : Tr, regT (y : Int) = x := ⟨_, rfl⟩
  have HX := Lib.hid hx
  rw [hx]
  clear hx
  go_wp2_with fail
  refine (rtwo_any (4, 8, 0) (x0, x1, x2) w6).mono ?_
  rintro e w7 ⟨v, rfl, hO, hb7⟩
  obtain ⟨A, cap, rfl, -, -⟩ := hO.ops
  have Ow7 : Hid (OwnT w7 w.heap.size (.slice A 2 cap) [(4, 8, 0), (x0, x1, x2)]) := hO.lift Uw6.out.size
  clear hO
  have Rw7 := Lib.hid (Rw6.out.all hb7)
  have Uw7 : Hid (Below w.heap.size w w7) := up Uw6.out hb7
  have Hw7 := Lib.hid (Hw6.out.all hb7)
  have Pw7 := Lib.hid (Pw6.out.all hb7)
  clear Rw6 Uw6 Hw6 Pw6 hb7
  go_wp2_with fail
  refine (rins_any ⟨#[79, 85, 84]⟩ A 2 cap w7).mono ?_
  rintro e w8 ⟨rfl, hb8⟩
  have Rw8 := Lib.hid (Rw7.out.all hb8)
  have Uw8 : Hid (Below w.heap.size w w8) := up Uw7.out hb8
  have Hw8 := Lib.hid (Hw7.out.all hb8)
  have Pw8 := Lib.hid (Pw7.out.all hb8)
  have Ow8 := Lib.hid (Ow7.out.below hb8)
  clear Rw7 Uw7 Hw7 Pw7 Ow7 hb8
  obtain ⟨z0, z1, z2, z3⟩ := Rw8.out.cells
  go_wp2
  obtain ⟨wz, hwz, q1, q2, q3⟩ := ri_put Rw8.out ⟨#[79, 85, 84]⟩ (.slice A 2 cap)
  rw [hwz]
  obtain ⟨s0, s1⟩ := q1.cells
  refine bodyPost_ret (v := .tuple #[.agg #[.string ⟨#[79, 85, 84]⟩, (.slice A 2 cap)], .string ⟨#[]⟩, .bool false]) ?_ rfl ?_
  · simp [results, Tryz.results30, go_sem, s0, s1]
  · exact ⟨_, rfl, (by rw [HX.out]; exact own_put Rw8.out Ow8.out q3), Uw8.out.trans (q2.mono (by have := HN.out; omega))⟩
theorem ed_1_2_0 (op : Nat) (hop : op < 256) (y z : Nat) (hx : op / 64 = 1) (hy : op / 8 % 8 = y) (hz : op % 8 = z) (hv : z = 2) (hu : y % 2 = 0)(w : World) : Calls Tryz.prog 30 #[.int .u8 op] w (RetE w [83, 66, 67] [(3, 2, 0), rpT ((y : Int) / 2) 3] [] false) := by
  have HY : Hid (y < 8) := (by omega : y < 8)
  have HZ : Hid (z < 8) := (by omega : z < 8)
  have HE : Hid ((op : Int) / 64 = 1 ∧ (op : Int) / 8 % 8 = (y : Int) ∧ (op : Int) % 8 = 2) := (by omega : (op : Int) / 64 = 1 ∧ (op : Int) / 8 % 8 = (y : Int) ∧ (op : Int) % 8 = 2)
  have KQ : Hid ((y : Int) % 2 = 0) := (by omega : (y : Int) % 2 = 0)
  clear hu
  clear hv
  clear hx hy hz
  obtain ⟨w0, hw0, rz0, bl0⟩ := ri_start w
  obtain ⟨n, hn⟩ : ∃ n, w.heap.size = n := ⟨_, rfl⟩
  have Rw0 : Hid (Rz w0 n) := by rw [← hn]; exact rz0
  have Uw0 : Hid (Below w.heap.size w w0) := bl0
  have HN := Lib.hid hn
  clear rz0 bl0
  go_enter Tryz.func30, Tryz.ntmps30
  go_upto_region 4 with fail
  obtain ⟨e1, e2, e3⟩ := HE.out
  rw [e1, e2, e3]
  clear e1 e2 e3 HE
  go_wp2_with fail
  refine (rrp_any 2 3 w0).mono ?_
  rintro e w1 ⟨rfl, hb1⟩
  have Rw1 := Lib.hid (Rw0.out.all hb1)
  have Uw1 : Hid (Below w.heap.size w w1) := up Uw0.out hb1
  clear Rw0 Uw0 hb1
  clear hw0
  simp only [trV]
  simp only [rpT, show ¬ ((2 : Int) = 3) by decide, if_false]
  go_upto_region 10 with fail
  obtain ⟨bH, hbH⟩ : ∃ b, w1.heap.size = b := ⟨_, rfl⟩
  obtain ⟨w2, hw2⟩ : ∃ v, w1.alloc (.cells #[.int .i64 3, .int .i64 2, .int .i64 0] 69) = v := ⟨_, rfl⟩
  have hb2 : Below w1.heap.size w1 w2 := by rw [← hw2]; exact up_alloc _ _
  have Hw2 : Hid (OpV w2 bH (3, 2, 0)) := by rw [← hw2, ← hbH]; exact opv_new _ _ _ _
  rw [hw2, hbH]
  clear hw2 hbH
  have Rw2 := Lib.hid (Rw1.out.all hb2)
  have Uw2 : Hid (Below w.heap.size w w2) := up Uw1.out hb2
  clear Rw1 Uw1 hb2
  obtain ⟨⟨p0, p1, p2⟩, hp⟩ : ∃ x : Tr, rpT ((y : Int) / 2) 3 = x := ⟨_, rfl⟩
  have HP := Lib.hid hp
  have hrp := rrp_any ((y : Int) / 2) 3 w2
  rw [hp] at hrp
  clear hp
  have by1 : (0 : Int) ≤ (y : Int) := by omega
  have by2 : (y : Int) ≤ 7 := by have := HY.out; omega
  go_wp2_with fail
  refine hrp.mono ?_
  rintro e w3 ⟨rfl, hb3⟩
  have Rw3 := Lib.hid (Rw2.out.all hb3)
  have Uw3 : Hid (Below w.heap.size w w3) := up Uw2.out hb3
  have Hw3 := Lib.hid (Hw2.out.all hb3)
  clear Rw2 Uw2 Hw2 hb3
  simp only [trV]
  clear hrp by1 by2
  go_upto_region 11 with fail
  obtain ⟨bP, hbP⟩ : ∃ b, w3.heap.size = b := ⟨_, rfl⟩
  obtain ⟨w4, hw4⟩ : ∃ v, w3.alloc (.cells #[.int .i64 p0, .int .i64 p1, .int .i64 p2] 69) = v := ⟨_, rfl⟩
  have hb4 : Below w3.heap.size w3 w4 := by rw [← hw4]; exact up_alloc _ _
  have Pw4 : Hid (OpV w4 bP (p0, p1, p2)) := by rw [← hw4, ← hbP]; exact opv_new _ _ _ _
  rw [hw4, hbP]
  clear hw4 hbP
  have Rw4 := Lib.hid (Rw3.out.all hb4)
  have Uw4 : Hid (Below w.heap.size w w4) := up Uw3.out hb4
  have Hw4 := Lib.hid (Hw3.out.all hb4)
  clear Rw3 Uw3 Hw3 hb4
  go_upto_region 12 with fail
  rw [KQ.out]
  go_upto_region 22 with fail
  obtain ⟨wd, hwd⟩ : ∃ v, w4.drew = v := ⟨_, rfl⟩
  have hbd : Below w4.heap.size w4 wd := by rw [← hwd]; exact below_drewN _ _ 1
  have KR : Hid (∀ wx : World, Below wd.heap.size wd wx → Rz wx n ∧ Below w.heap.size w wx) := fun wx hb => ⟨(Rw4.out.all hbd).all hb, up (up Uw4.out hbd) hb⟩
  have KC : Hid (∀ wx : World, Below wd.heap.size wd wx → wx.cell? ⟨bH, 0, none⟩ = some (.int .i64 3) ∧ wx.cell? ⟨bH, 1, none⟩ = some (.int .i64 2) ∧ wx.cell? ⟨bH, 2, none⟩ = some (.int .i64 0) ∧ wx.cell? ⟨bP, 0, none⟩ = some (.int .i64 p0) ∧ wx.cell? ⟨bP, 1, none⟩ = some (.int .i64 p1) ∧ wx.cell? ⟨bP, 2, none⟩ = some (.int .i64 p2)) := fun wx hb => by
    obtain ⟨Ha, Hb, Hc, -⟩ := ((Hw4.out.all hbd).all hb).cells
    obtain ⟨Pa, Pb, Pc, -⟩ := ((Pw4.out.all hbd).all hb).cells
    exact ⟨Ha, Hb, Hc, Pa, Pb, Pc⟩
  have HU : Hid (w.heap.size ≤ wd.heap.size) := (KR.out wd (Below.refl _ _)).2.size
  have FN : Hid (∀ (wt : World) (A : Option Addr) (cap : Nat), Below wd.heap.size wd wt → OwnT wt w.heap.size (.slice A 2 cap) [(3, 2, 0), (p0, p1, p2)] → Calls Tryz.prog 56 #[.string ⟨#[83, 66, 67]⟩, .slice A 2 cap] wt (fun e w6 => e = .returned (.agg #[.string ⟨#[83, 66, 67]⟩, .slice A 2 cap]) ∧ Hid (OwnT w6 w.heap.size (.slice A 2 cap) [(3, 2, 0), (p0, p1, p2)]) ∧ Rz w6 n ∧ Below w.heap.size w w6)) := fun wt A cap hb hO => by
    refine (rins_any ⟨#[83, 66, 67]⟩ A 2 cap wt).mono ?_
    rintro e w6 ⟨rfl, hb6⟩
    have K6 := KR.out w6 (hb.trans (hb6.mono hb.size))
    exact ⟨rfl, hO.below hb6, K6.1, K6.2⟩
  have K0 := Lib.hid (KC.out wd (Below.refl _ _))
  refine Mixed.wp_region_mixedT (fun w' => w'.cell? ⟨bH, 0, none⟩ = some (.int .i64 3) ∧ w'.cell? ⟨bH, 1, none⟩ = some (.int .i64 2) ∧ w'.cell? ⟨bH, 2, none⟩ = some (.int .i64 0) ∧ w'.cell? ⟨bP, 0, none⟩ = some (.int .i64 p0) ∧ w'.cell? ⟨bP, 1, none⟩ = some (.int .i64 p1) ∧ w'.cell? ⟨bP, 2, none⟩ = some (.int .i64 p2)) 7 (.pure 1 (.pure 4 (.pure 5 (.two 0 (.pure 2 (.two 3 (.one 6 .done) 6 (.one 3 .done))) 6 (.one 0 (.pure 2 (.one 3 .done))))))) (by kernel_rfl) (by kernel_rfl) (by rw [hwd]; exact K0.out) ?_
  rw [hwd]
  clear hwd hbd K0
  refine Mixed.wpMixT_pure rfl (by kernel_rfl) (.int .i64 0) (fun w h => by go_simp; try rfl) ?_
  refine Mixed.wpMixT_pure rfl (by kernel_rfl) (.agg #[.int .i64 3, .int .i64 2, .int .i64 0]) (fun w h => by obtain ⟨h0, h1, h2, h3, h4, h5⟩ := h; go_simp; try rfl) ?_
  refine Mixed.wpMixT_pure rfl (by kernel_rfl) (.agg #[.int .i64 p0, .int .i64 p1, .int .i64 p2]) (fun w h => by obtain ⟨h0, h1, h2, h3, h4, h5⟩ := h; go_simp; try rfl) ?_
  obtain ⟨nb, hnb⟩ : ∃ z, wd.heap.size = z := ⟨_, rfl⟩
  obtain ⟨wA, hwA⟩ : ∃ z, wd.alloc (.cells #[.string ⟨#[83, 66, 67]⟩, .string ⟨#[65, 68, 67]⟩] 9) = z := ⟨_, rfl⟩
  have BA : Hid (Below wd.heap.size wd wA) := by rw [← hwA]; exact up_alloc _ _
  have VA : Hid (wA.heap[nb]? = some (Obj.cells #[.string ⟨#[83, 66, 67]⟩, .string ⟨#[65, 68, 67]⟩] 9 (0, 0))) := by rw [← hwA, ← hnb]; exact heap_alloc_new _ _
  have HWA := Lib.hid hwA
  have HNB := Lib.hid hnb
  clear hwA hnb
  refine Mixed.wpMixT_both rfl (by kernel_rfl) rfl (by kernel_rfl) ?_ ?_
  · go_wp2
    rw [HWA.out, HNB.out]
    refine ⟨KC.out _ BA.out, ?_⟩
    refine Mixed.wpMixT_pure rfl (by kernel_rfl) (.pointer (some ⟨nb, 0, none⟩)) (fun w h => by go_simp; try rfl) ?_
    refine Mixed.wpMixT_both rfl (by kernel_rfl) rfl (by kernel_rfl) ?_ ?_
    · have va := Lib.cell_of_heap VA.out 0
      go_wp2
      refine ⟨KC.out _ BA.out, ?_⟩
      clear va
      refine Mixed.wpMixT_loud rfl (by kernel_rfl) ?_
      go_wp2_with fail
      refine (rtwo_any (3, 2, 0) (p0, p1, p2) wA).mono ?_
      rintro e w5 ⟨v, rfl, hO, hb5⟩
      obtain ⟨A, cap, rfl, -, -⟩ := hO.ops
      have HBT := BA.out.trans (hb5.mono BA.out.size)
      have OT := hO.lift (Nat.le_trans HU.out BA.out.size)
      clear hO hb5
      go_wp2
      refine ⟨KC.out _ HBT, ?_⟩
      simp only [Mixed.wpMixT, List.drop_succ_cons, List.drop_zero]
      go_wp2_with fail
      refine (FN.out _ A cap HBT OT).mono ?_
      rintro e w6 ⟨rfl, OY, RX, UX⟩
      obtain ⟨z0, z1, z2, z3⟩ := RX.cells
      go_wp2
      obtain ⟨wz, hwz, q1, q2, q3⟩ := ri_put RX ⟨#[83, 66, 67]⟩ (.slice A 2 cap)
      rw [hwz]
      obtain ⟨s0, s1⟩ := q1.cells
      refine bodyPost_ret (v := .tuple #[.agg #[.string ⟨#[83, 66, 67]⟩, .slice A 2 cap], .string ⟨#[]⟩, .bool false]) ?_ rfl ?_
      · simp [results, Tryz.results30, go_sem, s0, s1]
      · exact ⟨_, rfl, (by rw [HP.out]; exact own_put RX OY.out q3), UX.trans (q2.mono (by have := HN.out; omega))⟩
    · skip
      go_wp2_with fail
      refine (rtwo_any (3, 2, 0) (p0, p1, p2) wA).mono ?_
      rintro e w5 ⟨v, rfl, hO, hb5⟩
      obtain ⟨A, cap, rfl, -, -⟩ := hO.ops
      have HBT := BA.out.trans (hb5.mono BA.out.size)
      have OT := hO.lift (Nat.le_trans HU.out BA.out.size)
      have va := Lib.cell_of_heap ((hb5.block nb (Array.getElem?_eq_some_iff.1 VA.out).1).trans VA.out) 0
      clear hO hb5
      go_wp2
      refine ⟨KC.out _ HBT, ?_⟩
      refine Mixed.wpMixT_loud rfl (by kernel_rfl) ?_
      go_wp2
      refine ⟨KC.out _ HBT, ?_⟩
      clear va
      simp only [Mixed.wpMixT, List.drop_succ_cons, List.drop_zero]
      go_wp2_with fail
      refine (FN.out _ A cap HBT OT).mono ?_
      rintro e w6 ⟨rfl, OY, RX, UX⟩
      obtain ⟨z0, z1, z2, z3⟩ := RX.cells
      go_wp2
      obtain ⟨wz, hwz, q1, q2, q3⟩ := ri_put RX ⟨#[83, 66, 67]⟩ (.slice A 2 cap)
      rw [hwz]
      obtain ⟨s0, s1⟩ := q1.cells
      refine bodyPost_ret (v := .tuple #[.agg #[.string ⟨#[83, 66, 67]⟩, .slice A 2 cap], .string ⟨#[]⟩, .bool false]) ?_ rfl ?_
      · simp [results, Tryz.results30, go_sem, s0, s1]
      · exact ⟨_, rfl, (by rw [HP.out]; exact own_put RX OY.out q3), UX.trans (q2.mono (by have := HN.out; omega))⟩
  · skip
    go_wp2_with fail
    refine (rtwo_any (3, 2, 0) (p0, p1, p2) wd).mono ?_
    rintro e w5 ⟨v, rfl, hO, hb5⟩
    obtain ⟨A, cap, rfl, -, -⟩ := hO.ops
    have HB5 := hb5
    have HBT : Below wd.heap.size wd (w5.alloc (.cells #[.string ⟨#[83, 66, 67]⟩, .string ⟨#[65, 68, 67]⟩] 9)) := hb5.trans ((up_alloc w5 _).mono hb5.size)
    have OT := World.ownsRow.alloc (hO.lift HU.out) (.cells #[.string ⟨#[83, 66, 67]⟩, .string ⟨#[65, 68, 67]⟩] 9)
    clear hO hb5
    go_wp2
    refine ⟨KC.out _ HB5, ?_⟩
    refine Mixed.wpMixT_loud rfl (by kernel_rfl) ?_
    go_wp2
    refine ⟨KC.out _ HBT, ?_⟩
    refine Mixed.wpMixT_pure rfl (by kernel_rfl) (.pointer (some ⟨w5.heap.size, 0, none⟩)) (fun w h => by go_simp; try rfl) ?_
    refine Mixed.wpMixT_loud rfl (by kernel_rfl) ?_
    go_wp2
    refine ⟨KC.out _ HBT, ?_⟩
    simp only [Mixed.wpMixT, List.drop_succ_cons, List.drop_zero]
    go_wp2_with fail
    refine (FN.out _ A cap HBT OT).mono ?_
    rintro e w6 ⟨rfl, OY, RX, UX⟩
    obtain ⟨z0, z1, z2, z3⟩ := RX.cells
    go_wp2
    obtain ⟨wz, hwz, q1, q2, q3⟩ := ri_put RX ⟨#[83, 66, 67]⟩ (.slice A 2 cap)
    rw [hwz]
    obtain ⟨s0, s1⟩ := q1.cells
    refine bodyPost_ret (v := .tuple #[.agg #[.string ⟨#[83, 66, 67]⟩, .slice A 2 cap], .string ⟨#[]⟩, .bool false]) ?_ rfl ?_
    · simp [results, Tryz.results30, go_sem, s0, s1]
    · exact ⟨_, rfl, (by rw [HP.out]; exact own_put RX OY.out q3), UX.trans (q2.mono (by have := HN.out; omega))⟩
theorem ed_1_3_0 (op : Nat) (hop : op < 256) (y z : Nat) (hx : op / 64 = 1) (hy : op / 8 % 8 = y) (hz : op % 8 = z) (hv : z = 3) (hu : y % 2 = 0)(w : World) : Calls Tryz.prog 30 #[.int .u8 op] w (RetE w [76, 68] [(7, 0, 0), rpT ((y : Int) / 2) 3] [119] ((y : Int) == 4)) := by
  have HY : Hid (y < 8) := (by omega : y < 8)
  have HZ : Hid (z < 8) := (by omega : z < 8)
  have HE : Hid ((op : Int) / 64 = 1 ∧ (op : Int) / 8 % 8 = (y : Int) ∧ (op : Int) % 8 = 3) := (by omega : (op : Int) / 64 = 1 ∧ (op : Int) / 8 % 8 = (y : Int) ∧ (op : Int) % 8 = 3)
  have KQ : Hid ((y : Int) % 2 = 0) := (by omega : (y : Int) % 2 = 0)
  clear hu
  clear hv
  clear hx hy hz
  obtain ⟨w0, hw0, rz0, bl0⟩ := ri_start w
  obtain ⟨n, hn⟩ : ∃ n, w.heap.size = n := ⟨_, rfl⟩
  have Rw0 : Hid (Rz w0 n) := by rw [← hn]; exact rz0
  have Uw0 : Hid (Below w.heap.size w w0) := bl0
  have HN := Lib.hid hn
  clear rz0 bl0
  go_enter Tryz.func30, Tryz.ntmps30
  go_upto_region 4 with fail
  obtain ⟨e1, e2, e3⟩ := HE.out
  rw [e1, e2, e3]
  clear e1 e2 e3 HE
  go_wp2_with fail
  refine (rrp_any 2 3 w0).mono ?_
  rintro e w1 ⟨rfl, hb1⟩
  have Rw1 := Lib.hid (Rw0.out.all hb1)
  have Uw1 : Hid (Below w.heap.size w w1) := up Uw0.out hb1
  clear Rw0 Uw0 hb1
  clear hw0
  simp only [trV]
  simp only [rpT, show ¬ ((2 : Int) = 3) by decide, if_false]
  go_upto_region 10 with fail
  obtain ⟨bH, hbH⟩ : ∃ b, w1.heap.size = b := ⟨_, rfl⟩
  obtain ⟨w2, hw2⟩ : ∃ v, w1.alloc (.cells #[.int .i64 3, .int .i64 2, .int .i64 0] 69) = v := ⟨_, rfl⟩
  have hb2 : Below w1.heap.size w1 w2 := by rw [← hw2]; exact up_alloc _ _
  have Hw2 : Hid (OpV w2 bH (3, 2, 0)) := by rw [← hw2, ← hbH]; exact opv_new _ _ _ _
  rw [hw2, hbH]
  clear hw2 hbH
  have Rw2 := Lib.hid (Rw1.out.all hb2)
  have Uw2 : Hid (Below w.heap.size w w2) := up Uw1.out hb2
  clear Rw1 Uw1 hb2
  obtain ⟨⟨p0, p1, p2⟩, hp⟩ : ∃ x : Tr, rpT ((y : Int) / 2) 3 = x := ⟨_, rfl⟩
  have HP := Lib.hid hp
  have hrp := rrp_any ((y : Int) / 2) 3 w2
  rw [hp] at hrp
  clear hp
  have by1 : (0 : Int) ≤ (y : Int) := by omega
  have by2 : (y : Int) ≤ 7 := by have := HY.out; omega
  go_wp2_with fail
  refine hrp.mono ?_
  rintro e w3 ⟨rfl, hb3⟩
  have Rw3 := Lib.hid (Rw2.out.all hb3)
  have Uw3 : Hid (Below w.heap.size w w3) := up Uw2.out hb3
  have Hw3 := Lib.hid (Hw2.out.all hb3)
  clear Rw2 Uw2 Hw2 hb3
  simp only [trV]
  clear hrp by1 by2
  go_upto_region 11 with fail
  obtain ⟨bP, hbP⟩ : ∃ b, w3.heap.size = b := ⟨_, rfl⟩
  obtain ⟨w4, hw4⟩ : ∃ v, w3.alloc (.cells #[.int .i64 p0, .int .i64 p1, .int .i64 p2] 69) = v := ⟨_, rfl⟩
  have hb4 : Below w3.heap.size w3 w4 := by rw [← hw4]; exact up_alloc _ _
  have Pw4 : Hid (OpV w4 bP (p0, p1, p2)) := by rw [← hw4, ← hbP]; exact opv_new _ _ _ _
  rw [hw4, hbP]
  clear hw4 hbP
  have Rw4 := Lib.hid (Rw3.out.all hb4)
  have Uw4 : Hid (Below w.heap.size w w4) := up Uw3.out hb4
  have Hw4 := Lib.hid (Hw3.out.all hb4)
  clear Rw3 Uw3 Hw3 hb4
  go_upto_region 12 with fail
  rw [KQ.out]
  clear Hw4
  go_upto_region 25 with fail
  obtain ⟨w5, hw5⟩ : ∃ v, w4.drew = v := ⟨_, rfl⟩
  have Rw5 : Hid (Rz w5 n) := by rw [← hw5]; exact Rw4.out
  have Uw5 : Hid (Below w.heap.size w w5) := by rw [← hw5]; exact Uw4.out.drew
  have Pw5 : Hid (OpV w5 bP (p0, p1, p2)) := by rw [← hw5]; exact Pw4.out
  have K : Hid (w5.cell? ⟨bP, 0, none⟩ = some (.int .i64 p0) ∧ w5.cell? ⟨bP, 1, none⟩ = some (.int .i64 p1) ∧ w5.cell? ⟨bP, 2, none⟩ = some (.int .i64 p2)) := ⟨Pw5.out.cells.1, Pw5.out.cells.2.1, Pw5.out.cells.2.2.1⟩
  refine Mixed.wp_region_mixed (fun w' => w'.cell? ⟨bP, 0, none⟩ = some (.int .i64 p0) ∧ w'.cell? ⟨bP, 1, none⟩ = some (.int .i64 p1) ∧ w'.cell? ⟨bP, 2, none⟩ = some (.int .i64 p2)) 8 [(1, true), (4, true), (5, true), (0, false), (2, false), (3, false), (6, false), (7, false)] (by kernel_rfl) (by kernel_rfl) (by rw [hw5]; exact K.out) ?_
  rw [hw5]
  clear hw5 K Rw4 Uw4 Pw4
  refine Mixed.wpMix_pure rfl (by kernel_rfl) (.agg #[.int .i64 p0, .int .i64 p1, .int .i64 p2]) (fun w h => by obtain ⟨h0, h1, h2⟩ := h; go_simp; try rfl) ?_
  refine Mixed.wpMix_move rfl (by kernel_rfl) _ rfl (.int .i64 (y : Int)) rfl ?_
  refine Mixed.wpMix_pure rfl (by kernel_rfl) (.bool ((y : Int) == 4)) (fun w h => by obtain ⟨h0, h1, h2⟩ := h; go_simp; try rfl) ?_
  refine Mixed.wpMix_loudG rfl (by kernel_rfl) ?_
  go_wp2_with fail
  refine (rmem_any w5).mono ?_
  rintro e w6 ⟨rfl, hb6⟩
  have Rw6 := Lib.hid (Rw5.out.all hb6)
  have Uw6 : Hid (Below w.heap.size w w6) := up Uw5.out hb6
  have Pw6 := Lib.hid (Pw5.out.all hb6)
  clear Rw5 Uw5 Pw5 hb6
  simp only [trV]
  have xx : w6.cell? ⟨bP, 0, none⟩ = some (.int .i64 p0) ∧ w6.cell? ⟨bP, 1, none⟩ = some (.int .i64 p1) ∧ w6.cell? ⟨bP, 2, none⟩ = some (.int .i64 p2) := ⟨Pw6.out.cells.1, Pw6.out.cells.2.1, Pw6.out.cells.2.2.1⟩
  go_wp2
  refine ⟨xx, ?_⟩
  clear xx
  refine Mixed.wpMix_loudG rfl (by kernel_rfl) ?_
  go_wp2_with fail
  refine (rtwo_any (7, 0, 0) (p0, p1, p2) w6).mono ?_
  rintro e w7 ⟨v, rfl, hO, hb7⟩
  obtain ⟨A, cap, rfl, -, -⟩ := hO.ops
  have Ow7 : Hid (OwnT w7 w.heap.size (.slice A 2 cap) [(7, 0, 0), (p0, p1, p2)]) := hO.lift Uw6.out.size
  clear hO
  have Rw7 := Lib.hid (Rw6.out.all hb7)
  have Uw7 : Hid (Below w.heap.size w w7) := up Uw6.out hb7
  have Pw7 := Lib.hid (Pw6.out.all hb7)
  clear Rw6 Uw6 Pw6 hb7
  have xx : w7.cell? ⟨bP, 0, none⟩ = some (.int .i64 p0) ∧ w7.cell? ⟨bP, 1, none⟩ = some (.int .i64 p1) ∧ w7.cell? ⟨bP, 2, none⟩ = some (.int .i64 p2) := ⟨Pw7.out.cells.1, Pw7.out.cells.2.1, Pw7.out.cells.2.2.1⟩
  go_wp2
  refine ⟨xx, ?_⟩
  clear xx
  refine Mixed.wpMix_loudG rfl (by kernel_rfl) ?_
  go_wp2_with fail
  refine (rins_any ⟨#[76, 68]⟩ A 2 cap w7).mono ?_
  rintro e w8 ⟨rfl, hb8⟩
  have Rw8 := Lib.hid (Rw7.out.all hb8)
  have Uw8 : Hid (Below w.heap.size w w8) := up Uw7.out hb8
  have Pw8 := Lib.hid (Pw7.out.all hb8)
  have Ow8 := Lib.hid (Ow7.out.below hb8)
  clear Rw7 Uw7 Pw7 Ow7 hb8
  have xx : w8.cell? ⟨bP, 0, none⟩ = some (.int .i64 p0) ∧ w8.cell? ⟨bP, 1, none⟩ = some (.int .i64 p1) ∧ w8.cell? ⟨bP, 2, none⟩ = some (.int .i64 p2) := ⟨Pw8.out.cells.1, Pw8.out.cells.2.1, Pw8.out.cells.2.2.1⟩
  go_wp2
  refine ⟨xx, ?_⟩
  clear xx
  obtain ⟨z0, z1, z2, z3⟩ := Rw8.out.cells
  refine Mixed.wpMix_loudG rfl (by kernel_rfl) ?_
  go_wp2
  obtain ⟨wz, hwz, q1, q2, q3⟩ := ri_put Rw8.out ⟨#[76, 68]⟩ (.slice A 2 cap)
  rw [hwz]
  have PZ : OpV wz bP (p0, p1, p2) := Pw8.out.other q3 (Pw8.out.ne Rw8.out)
  have xx := PZ.cells
  refine ⟨⟨xx.1, xx.2.1, xx.2.2.1⟩, ?_⟩
  refine Mixed.wpMix_loudG rfl (by kernel_rfl) ?_
  go_wp2
  refine ⟨⟨xx.1, xx.2.1, xx.2.2.1⟩, ?_⟩
  clear xx
  simp only [Mixed.wpMix, List.drop_succ_cons, List.drop_zero]
  go_wp2
  obtain ⟨s0, s1⟩ := q1.cells
  refine bodyPost_ret (v := .tuple #[.agg #[.string ⟨#[76, 68]⟩, .slice A 2 cap], .string ⟨#[119]⟩, .bool ((y : Int) == 4)]) ?_ rfl ?_
  · simp [results, Tryz.results30, go_sem, s0, s1]
  · exact ⟨_, rfl, (by rw [HP.out]; exact own_put Rw8.out Ow8.out q3), Uw8.out.trans (q2.mono (by have := HN.out; omega))⟩
theorem ed_1_2_1 (op : Nat) (hop : op < 256) (y z : Nat) (hx : op / 64 = 1) (hy : op / 8 % 8 = y) (hz : op % 8 = z) (hv : z = 2) (hu : y % 2 = 1)(w : World) : Calls Tryz.prog 30 #[.int .u8 op] w (RetE w [65, 68, 67] [(3, 2, 0), rpT ((y : Int) / 2) 3] [] false) := by
  have HY : Hid (y < 8) := (by omega : y < 8)
  have HZ : Hid (z < 8) := (by omega : z < 8)
  have HE : Hid ((op : Int) / 64 = 1 ∧ (op : Int) / 8 % 8 = (y : Int) ∧ (op : Int) % 8 = 2) := (by omega : (op : Int) / 64 = 1 ∧ (op : Int) / 8 % 8 = (y : Int) ∧ (op : Int) % 8 = 2)
  have KQ : Hid ((y : Int) % 2 = 1) := (by omega : (y : Int) % 2 = 1)
  clear hu
  clear hv
  clear hx hy hz
  obtain ⟨w0, hw0, rz0, bl0⟩ := ri_start w
  obtain ⟨n, hn⟩ : ∃ n, w.heap.size = n := ⟨_, rfl⟩
  have Rw0 : Hid (Rz w0 n) := by rw [← hn]; exact rz0
  have Uw0 : Hid (Below w.heap.size w w0) := bl0
  have HN := Lib.hid hn
  clear rz0 bl0
  go_enter Tryz.func30, Tryz.ntmps30
  go_upto_region 4 with fail
  obtain ⟨e1, e2, e3⟩ := HE.out
  rw [e1, e2, e3]
  clear e1 e2 e3 HE
  go_wp2_with fail
  refine (rrp_any 2 3 w0).mono ?_
  rintro e w1 ⟨rfl, hb1⟩
  have Rw1 := Lib.hid (Rw0.out.all hb1)
  have Uw1 : Hid (Below w.heap.size w w1) := up Uw0.out hb1
  clear Rw0 Uw0 hb1
  clear hw0
  simp only [trV]
  simp only [rpT, show ¬ ((2 : Int) = 3) by decide, if_false]
  go_upto_region 10 with fail
  obtain ⟨bH, hbH⟩ : ∃ b, w1.heap.size = b := ⟨_, rfl⟩
  obtain ⟨w2, hw2⟩ : ∃ v, w1.alloc (.cells #[.int .i64 3, .int .i64 2, .int .i64 0] 69) = v := ⟨_, rfl⟩
  have hb2 : Below w1.heap.size w1 w2 := by rw [← hw2]; exact up_alloc _ _
  have Hw2 : Hid (OpV w2 bH (3, 2, 0)) := by rw [← hw2, ← hbH]; exact opv_new _ _ _ _
  rw [hw2, hbH]
  clear hw2 hbH
  have Rw2 := Lib.hid (Rw1.out.all hb2)
  have Uw2 : Hid (Below w.heap.size w w2) := up Uw1.out hb2
  clear Rw1 Uw1 hb2
  obtain ⟨⟨p0, p1, p2⟩, hp⟩ : ∃ x : Tr, rpT ((y : Int) / 2) 3 = x := ⟨_, rfl⟩
  have HP := Lib.hid hp
  have hrp := rrp_any ((y : Int) / 2) 3 w2
  rw [hp] at hrp
  clear hp
  have by1 : (0 : Int) ≤ (y : Int) := by omega
  have by2 : (y : Int) ≤ 7 := by have := HY.out; omega
  go_wp2_with fail
  refine hrp.mono ?_
  rintro e w3 ⟨rfl, hb3⟩
  have Rw3 := Lib.hid (Rw2.out.all hb3)
  have Uw3 : Hid (Below w.heap.size w w3) := up Uw2.out hb3
  have Hw3 := Lib.hid (Hw2.out.all hb3)
  clear Rw2 Uw2 Hw2 hb3
  simp only [trV]
  clear hrp by1 by2
  go_upto_region 11 with fail
  obtain ⟨bP, hbP⟩ : ∃ b, w3.heap.size = b := ⟨_, rfl⟩
  obtain ⟨w4, hw4⟩ : ∃ v, w3.alloc (.cells #[.int .i64 p0, .int .i64 p1, .int .i64 p2] 69) = v := ⟨_, rfl⟩
  have hb4 : Below w3.heap.size w3 w4 := by rw [← hw4]; exact up_alloc _ _
  have Pw4 : Hid (OpV w4 bP (p0, p1, p2)) := by rw [← hw4, ← hbP]; exact opv_new _ _ _ _
  rw [hw4, hbP]
  clear hw4 hbP
  have Rw4 := Lib.hid (Rw3.out.all hb4)
  have Uw4 : Hid (Below w.heap.size w w4) := up Uw3.out hb4
  have Hw4 := Lib.hid (Hw3.out.all hb4)
  clear Rw3 Uw3 Hw3 hb4
  go_upto_region 12 with fail
  rw [KQ.out]
  go_upto_region 22 with fail
  obtain ⟨wd, hwd⟩ : ∃ v, w4.drew = v := ⟨_, rfl⟩
  have hbd : Below w4.heap.size w4 wd := by rw [← hwd]; exact below_drewN _ _ 1
  have KR : Hid (∀ wx : World, Below wd.heap.size wd wx → Rz wx n ∧ Below w.heap.size w wx) := fun wx hb => ⟨(Rw4.out.all hbd).all hb, up (up Uw4.out hbd) hb⟩
  have KC : Hid (∀ wx : World, Below wd.heap.size wd wx → wx.cell? ⟨bH, 0, none⟩ = some (.int .i64 3) ∧ wx.cell? ⟨bH, 1, none⟩ = some (.int .i64 2) ∧ wx.cell? ⟨bH, 2, none⟩ = some (.int .i64 0) ∧ wx.cell? ⟨bP, 0, none⟩ = some (.int .i64 p0) ∧ wx.cell? ⟨bP, 1, none⟩ = some (.int .i64 p1) ∧ wx.cell? ⟨bP, 2, none⟩ = some (.int .i64 p2)) := fun wx hb => by
    obtain ⟨Ha, Hb, Hc, -⟩ := ((Hw4.out.all hbd).all hb).cells
    obtain ⟨Pa, Pb, Pc, -⟩ := ((Pw4.out.all hbd).all hb).cells
    exact ⟨Ha, Hb, Hc, Pa, Pb, Pc⟩
  have HU : Hid (w.heap.size ≤ wd.heap.size) := (KR.out wd (Below.refl _ _)).2.size
  have FN : Hid (∀ (wt : World) (A : Option Addr) (cap : Nat), Below wd.heap.size wd wt → OwnT wt w.heap.size (.slice A 2 cap) [(3, 2, 0), (p0, p1, p2)] → Calls Tryz.prog 56 #[.string ⟨#[65, 68, 67]⟩, .slice A 2 cap] wt (fun e w6 => e = .returned (.agg #[.string ⟨#[65, 68, 67]⟩, .slice A 2 cap]) ∧ Hid (OwnT w6 w.heap.size (.slice A 2 cap) [(3, 2, 0), (p0, p1, p2)]) ∧ Rz w6 n ∧ Below w.heap.size w w6)) := fun wt A cap hb hO => by
    refine (rins_any ⟨#[65, 68, 67]⟩ A 2 cap wt).mono ?_
    rintro e w6 ⟨rfl, hb6⟩
    have K6 := KR.out w6 (hb.trans (hb6.mono hb.size))
    exact ⟨rfl, hO.below hb6, K6.1, K6.2⟩
  have K0 := Lib.hid (KC.out wd (Below.refl _ _))
  refine Mixed.wp_region_mixedT (fun w' => w'.cell? ⟨bH, 0, none⟩ = some (.int .i64 3) ∧ w'.cell? ⟨bH, 1, none⟩ = some (.int .i64 2) ∧ w'.cell? ⟨bH, 2, none⟩ = some (.int .i64 0) ∧ w'.cell? ⟨bP, 0, none⟩ = some (.int .i64 p0) ∧ w'.cell? ⟨bP, 1, none⟩ = some (.int .i64 p1) ∧ w'.cell? ⟨bP, 2, none⟩ = some (.int .i64 p2)) 7 (.pure 1 (.pure 4 (.pure 5 (.two 0 (.pure 2 (.two 3 (.one 6 .done) 6 (.one 3 .done))) 6 (.one 0 (.pure 2 (.one 3 .done))))))) (by kernel_rfl) (by kernel_rfl) (by rw [hwd]; exact K0.out) ?_
  rw [hwd]
  clear hwd hbd K0
  refine Mixed.wpMixT_pure rfl (by kernel_rfl) (.int .i64 1) (fun w h => by go_simp; try rfl) ?_
  refine Mixed.wpMixT_pure rfl (by kernel_rfl) (.agg #[.int .i64 3, .int .i64 2, .int .i64 0]) (fun w h => by obtain ⟨h0, h1, h2, h3, h4, h5⟩ := h; go_simp; try rfl) ?_
  refine Mixed.wpMixT_pure rfl (by kernel_rfl) (.agg #[.int .i64 p0, .int .i64 p1, .int .i64 p2]) (fun w h => by obtain ⟨h0, h1, h2, h3, h4, h5⟩ := h; go_simp; try rfl) ?_
  obtain ⟨nb, hnb⟩ : ∃ z, wd.heap.size = z := ⟨_, rfl⟩
  obtain ⟨wA, hwA⟩ : ∃ z, wd.alloc (.cells #[.string ⟨#[83, 66, 67]⟩, .string ⟨#[65, 68, 67]⟩] 9) = z := ⟨_, rfl⟩
  have BA : Hid (Below wd.heap.size wd wA) := by rw [← hwA]; exact up_alloc _ _
  have VA : Hid (wA.heap[nb]? = some (Obj.cells #[.string ⟨#[83, 66, 67]⟩, .string ⟨#[65, 68, 67]⟩] 9 (0, 0))) := by rw [← hwA, ← hnb]; exact heap_alloc_new _ _
  have HWA := Lib.hid hwA
  have HNB := Lib.hid hnb
  clear hwA hnb
  refine Mixed.wpMixT_both rfl (by kernel_rfl) rfl (by kernel_rfl) ?_ ?_
  · go_wp2
    rw [HWA.out, HNB.out]
    refine ⟨KC.out _ BA.out, ?_⟩
    refine Mixed.wpMixT_pure rfl (by kernel_rfl) (.pointer (some ⟨nb, 1, none⟩)) (fun w h => by go_simp; try rfl) ?_
    refine Mixed.wpMixT_both rfl (by kernel_rfl) rfl (by kernel_rfl) ?_ ?_
    · have va := Lib.cell_of_heap VA.out 1
      go_wp2
      refine ⟨KC.out _ BA.out, ?_⟩
      clear va
      refine Mixed.wpMixT_loud rfl (by kernel_rfl) ?_
      go_wp2_with fail
      refine (rtwo_any (3, 2, 0) (p0, p1, p2) wA).mono ?_
      rintro e w5 ⟨v, rfl, hO, hb5⟩
      obtain ⟨A, cap, rfl, -, -⟩ := hO.ops
      have HBT := BA.out.trans (hb5.mono BA.out.size)
      have OT := hO.lift (Nat.le_trans HU.out BA.out.size)
      clear hO hb5
      go_wp2
      refine ⟨KC.out _ HBT, ?_⟩
      simp only [Mixed.wpMixT, List.drop_succ_cons, List.drop_zero]
      go_wp2_with fail
      refine (FN.out _ A cap HBT OT).mono ?_
      rintro e w6 ⟨rfl, OY, RX, UX⟩
      obtain ⟨z0, z1, z2, z3⟩ := RX.cells
      go_wp2
      obtain ⟨wz, hwz, q1, q2, q3⟩ := ri_put RX ⟨#[65, 68, 67]⟩ (.slice A 2 cap)
      rw [hwz]
      obtain ⟨s0, s1⟩ := q1.cells
      refine bodyPost_ret (v := .tuple #[.agg #[.string ⟨#[65, 68, 67]⟩, .slice A 2 cap], .string ⟨#[]⟩, .bool false]) ?_ rfl ?_
      · simp [results, Tryz.results30, go_sem, s0, s1]
      · exact ⟨_, rfl, (by rw [HP.out]; exact own_put RX OY.out q3), UX.trans (q2.mono (by have := HN.out; omega))⟩
    · skip
      go_wp2_with fail
      refine (rtwo_any (3, 2, 0) (p0, p1, p2) wA).mono ?_
      rintro e w5 ⟨v, rfl, hO, hb5⟩
      obtain ⟨A, cap, rfl, -, -⟩ := hO.ops
      have HBT := BA.out.trans (hb5.mono BA.out.size)
      have OT := hO.lift (Nat.le_trans HU.out BA.out.size)
      have va := Lib.cell_of_heap ((hb5.block nb (Array.getElem?_eq_some_iff.1 VA.out).1).trans VA.out) 1
      clear hO hb5
      go_wp2
      refine ⟨KC.out _ HBT, ?_⟩
      refine Mixed.wpMixT_loud rfl (by kernel_rfl) ?_
      go_wp2
      refine ⟨KC.out _ HBT, ?_⟩
      clear va
      simp only [Mixed.wpMixT, List.drop_succ_cons, List.drop_zero]
      go_wp2_with fail
      refine (FN.out _ A cap HBT OT).mono ?_
      rintro e w6 ⟨rfl, OY, RX, UX⟩
      obtain ⟨z0, z1, z2, z3⟩ := RX.cells
      go_wp2
      obtain ⟨wz, hwz, q1, q2, q3⟩ := ri_put RX ⟨#[65, 68, 67]⟩ (.slice A 2 cap)
      rw [hwz]
      obtain ⟨s0, s1⟩ := q1.cells
      refine bodyPost_ret (v := .tuple #[.agg #[.string ⟨#[65, 68, 67]⟩, .slice A 2 cap], .string ⟨#[]⟩, .bool false]) ?_ rfl ?_
      · simp [results, Tryz.results30, go_sem, s0, s1]
      · exact ⟨_, rfl, (by rw [HP.out]; exact own_put RX OY.out q3), UX.trans (q2.mono (by have := HN.out; omega))⟩
  · skip
    go_wp2_with fail
    refine (rtwo_any (3, 2, 0) (p0, p1, p2) wd).mono ?_
    rintro e w5 ⟨v, rfl, hO, hb5⟩
    obtain ⟨A, cap, rfl, -, -⟩ := hO.ops
    have HB5 := hb5
    have HBT : Below wd.heap.size wd (w5.alloc (.cells #[.string ⟨#[83, 66, 67]⟩, .string ⟨#[65, 68, 67]⟩] 9)) := hb5.trans ((up_alloc w5 _).mono hb5.size)
    have OT := World.ownsRow.alloc (hO.lift HU.out) (.cells #[.string ⟨#[83, 66, 67]⟩, .string ⟨#[65, 68, 67]⟩] 9)
    clear hO hb5
    go_wp2
    refine ⟨KC.out _ HB5, ?_⟩
    refine Mixed.wpMixT_loud rfl (by kernel_rfl) ?_
    go_wp2
    refine ⟨KC.out _ HBT, ?_⟩
    refine Mixed.wpMixT_pure rfl (by kernel_rfl) (.pointer (some ⟨w5.heap.size, 1, none⟩)) (fun w h => by go_simp; try rfl) ?_
    refine Mixed.wpMixT_loud rfl (by kernel_rfl) ?_
    go_wp2
    refine ⟨KC.out _ HBT, ?_⟩
    simp only [Mixed.wpMixT, List.drop_succ_cons, List.drop_zero]
    go_wp2_with fail
    refine (FN.out _ A cap HBT OT).mono ?_
    rintro e w6 ⟨rfl, OY, RX, UX⟩
    obtain ⟨z0, z1, z2, z3⟩ := RX.cells
    go_wp2
    obtain ⟨wz, hwz, q1, q2, q3⟩ := ri_put RX ⟨#[65, 68, 67]⟩ (.slice A 2 cap)
    rw [hwz]
    obtain ⟨s0, s1⟩ := q1.cells
    refine bodyPost_ret (v := .tuple #[.agg #[.string ⟨#[65, 68, 67]⟩, .slice A 2 cap], .string ⟨#[]⟩, .bool false]) ?_ rfl ?_
    · simp [results, Tryz.results30, go_sem, s0, s1]
    · exact ⟨_, rfl, (by rw [HP.out]; exact own_put RX OY.out q3), UX.trans (q2.mono (by have := HN.out; omega))⟩
theorem ed_1_3_1 (op : Nat) (hop : op < 256) (y z : Nat) (hx : op / 64 = 1) (hy : op / 8 % 8 = y) (hz : op % 8 = z) (hv : z = 3) (hu : y % 2 = 1)(w : World) : Calls Tryz.prog 30 #[.int .u8 op] w (RetE w [76, 68] [rpT ((y : Int) / 2) 3, (7, 0, 0)] [119] ((y : Int) == 5)) := by
  have HY : Hid (y < 8) := (by omega : y < 8)
  have HZ : Hid (z < 8) := (by omega : z < 8)
  have HE : Hid ((op : Int) / 64 = 1 ∧ (op : Int) / 8 % 8 = (y : Int) ∧ (op : Int) % 8 = 3) := (by omega : (op : Int) / 64 = 1 ∧ (op : Int) / 8 % 8 = (y : Int) ∧ (op : Int) % 8 = 3)
  have KQ : Hid ((y : Int) % 2 = 1) := (by omega : (y : Int) % 2 = 1)
  clear hu
  clear hv
  clear hx hy hz
  obtain ⟨w0, hw0, rz0, bl0⟩ := ri_start w
  obtain ⟨n, hn⟩ : ∃ n, w.heap.size = n := ⟨_, rfl⟩
  have Rw0 : Hid (Rz w0 n) := by rw [← hn]; exact rz0
  have Uw0 : Hid (Below w.heap.size w w0) := bl0
  have HN := Lib.hid hn
  clear rz0 bl0
  go_enter Tryz.func30, Tryz.ntmps30
  go_upto_region 4 with fail
  obtain ⟨e1, e2, e3⟩ := HE.out
  rw [e1, e2, e3]
  clear e1 e2 e3 HE
  go_wp2_with fail
  refine (rrp_any 2 3 w0).mono ?_
  rintro e w1 ⟨rfl, hb1⟩
  have Rw1 := Lib.hid (Rw0.out.all hb1)
  have Uw1 : Hid (Below w.heap.size w w1) := up Uw0.out hb1
  clear Rw0 Uw0 hb1
  clear hw0
  simp only [trV]
  simp only [rpT, show ¬ ((2 : Int) = 3) by decide, if_false]
  go_upto_region 10 with fail
  obtain ⟨bH, hbH⟩ : ∃ b, w1.heap.size = b := ⟨_, rfl⟩
  obtain ⟨w2, hw2⟩ : ∃ v, w1.alloc (.cells #[.int .i64 3, .int .i64 2, .int .i64 0] 69) = v := ⟨_, rfl⟩
  have hb2 : Below w1.heap.size w1 w2 := by rw [← hw2]; exact up_alloc _ _
  have Hw2 : Hid (OpV w2 bH (3, 2, 0)) := by rw [← hw2, ← hbH]; exact opv_new _ _ _ _
  rw [hw2, hbH]
  clear hw2 hbH
  have Rw2 := Lib.hid (Rw1.out.all hb2)
  have Uw2 : Hid (Below w.heap.size w w2) := up Uw1.out hb2
  clear Rw1 Uw1 hb2
  obtain ⟨⟨p0, p1, p2⟩, hp⟩ : ∃ x : Tr, rpT ((y : Int) / 2) 3 = x := ⟨_, rfl⟩
  have HP := Lib.hid hp
  have hrp := rrp_any ((y : Int) / 2) 3 w2
  rw [hp] at hrp
  clear hp
  have by1 : (0 : Int) ≤ (y : Int) := by omega
  have by2 : (y : Int) ≤ 7 := by have := HY.out; omega
  go_wp2_with fail
  refine hrp.mono ?_
  rintro e w3 ⟨rfl, hb3⟩
  have Rw3 := Lib.hid (Rw2.out.all hb3)
  have Uw3 : Hid (Below w.heap.size w w3) := up Uw2.out hb3
  have Hw3 := Lib.hid (Hw2.out.all hb3)
  clear Rw2 Uw2 Hw2 hb3
  simp only [trV]
  clear hrp by1 by2
  go_upto_region 11 with fail
  obtain ⟨bP, hbP⟩ : ∃ b, w3.heap.size = b := ⟨_, rfl⟩
  obtain ⟨w4, hw4⟩ : ∃ v, w3.alloc (.cells #[.int .i64 p0, .int .i64 p1, .int .i64 p2] 69) = v := ⟨_, rfl⟩
  have hb4 : Below w3.heap.size w3 w4 := by rw [← hw4]; exact up_alloc _ _
  have Pw4 : Hid (OpV w4 bP (p0, p1, p2)) := by rw [← hw4, ← hbP]; exact opv_new _ _ _ _
  rw [hw4, hbP]
  clear hw4 hbP
  have Rw4 := Lib.hid (Rw3.out.all hb4)
  have Uw4 : Hid (Below w.heap.size w w4) := up Uw3.out hb4
  have Hw4 := Lib.hid (Hw3.out.all hb4)
  clear Rw3 Uw3 Hw3 hb4
  go_upto_region 12 with fail
  rw [KQ.out]
  clear Hw4
  go_upto_region 26 with fail
  obtain ⟨w5, hw5⟩ : ∃ v, w4.drew = v := ⟨_, rfl⟩
  have Rw5 : Hid (Rz w5 n) := by rw [← hw5]; exact Rw4.out
  have Uw5 : Hid (Below w.heap.size w w5) := by rw [← hw5]; exact Uw4.out.drew
  have Pw5 : Hid (OpV w5 bP (p0, p1, p2)) := by rw [← hw5]; exact Pw4.out
  have K : Hid (w5.cell? ⟨bP, 0, none⟩ = some (.int .i64 p0) ∧ w5.cell? ⟨bP, 1, none⟩ = some (.int .i64 p1) ∧ w5.cell? ⟨bP, 2, none⟩ = some (.int .i64 p2)) := ⟨Pw5.out.cells.1, Pw5.out.cells.2.1, Pw5.out.cells.2.2.1⟩
  refine Mixed.wp_region_mixed (fun w' => w'.cell? ⟨bP, 0, none⟩ = some (.int .i64 p0) ∧ w'.cell? ⟨bP, 1, none⟩ = some (.int .i64 p1) ∧ w'.cell? ⟨bP, 2, none⟩ = some (.int .i64 p2)) 8 [(0, true), (4, true), (5, true), (1, false), (2, false), (3, false), (6, false), (7, false)] (by kernel_rfl) (by kernel_rfl) (by rw [hw5]; exact K.out) ?_
  rw [hw5]
  clear hw5 K Rw4 Uw4 Pw4
  refine Mixed.wpMix_pure rfl (by kernel_rfl) (.agg #[.int .i64 p0, .int .i64 p1, .int .i64 p2]) (fun w h => by obtain ⟨h0, h1, h2⟩ := h; go_simp; try rfl) ?_
  refine Mixed.wpMix_move rfl (by kernel_rfl) _ rfl (.int .i64 (y : Int)) rfl ?_
  refine Mixed.wpMix_pure rfl (by kernel_rfl) (.bool ((y : Int) == 5)) (fun w h => by obtain ⟨h0, h1, h2⟩ := h; go_simp; try rfl) ?_
  refine Mixed.wpMix_loudG rfl (by kernel_rfl) ?_
  go_wp2_with fail
  refine (rmem_any w5).mono ?_
  rintro e w6 ⟨rfl, hb6⟩
  have Rw6 := Lib.hid (Rw5.out.all hb6)
  have Uw6 : Hid (Below w.heap.size w w6) := up Uw5.out hb6
  have Pw6 := Lib.hid (Pw5.out.all hb6)
  clear Rw5 Uw5 Pw5 hb6
  simp only [trV]
  have xx : w6.cell? ⟨bP, 0, none⟩ = some (.int .i64 p0) ∧ w6.cell? ⟨bP, 1, none⟩ = some (.int .i64 p1) ∧ w6.cell? ⟨bP, 2, none⟩ = some (.int .i64 p2) := ⟨Pw6.out.cells.1, Pw6.out.cells.2.1, Pw6.out.cells.2.2.1⟩
  go_wp2
  refine ⟨xx, ?_⟩
  clear xx
  refine Mixed.wpMix_loudG rfl (by kernel_rfl) ?_
  go_wp2_with fail
  refine (rtwo_any (p0, p1, p2) (7, 0, 0) w6).mono ?_
  rintro e w7 ⟨v, rfl, hO, hb7⟩
  obtain ⟨A, cap, rfl, -, -⟩ := hO.ops
  have Ow7 : Hid (OwnT w7 w.heap.size (.slice A 2 cap) [(p0, p1, p2), (7, 0, 0)]) := hO.lift Uw6.out.size
  clear hO
  have Rw7 := Lib.hid (Rw6.out.all hb7)
  have Uw7 : Hid (Below w.heap.size w w7) := up Uw6.out hb7
  have Pw7 := Lib.hid (Pw6.out.all hb7)
  clear Rw6 Uw6 Pw6 hb7
  have xx : w7.cell? ⟨bP, 0, none⟩ = some (.int .i64 p0) ∧ w7.cell? ⟨bP, 1, none⟩ = some (.int .i64 p1) ∧ w7.cell? ⟨bP, 2, none⟩ = some (.int .i64 p2) := ⟨Pw7.out.cells.1, Pw7.out.cells.2.1, Pw7.out.cells.2.2.1⟩
  go_wp2
  refine ⟨xx, ?_⟩
  clear xx
  refine Mixed.wpMix_loudG rfl (by kernel_rfl) ?_
  go_wp2_with fail
  refine (rins_any ⟨#[76, 68]⟩ A 2 cap w7).mono ?_
  rintro e w8 ⟨rfl, hb8⟩
  have Rw8 := Lib.hid (Rw7.out.all hb8)
  have Uw8 : Hid (Below w.heap.size w w8) := up Uw7.out hb8
  have Pw8 := Lib.hid (Pw7.out.all hb8)
  have Ow8 := Lib.hid (Ow7.out.below hb8)
  clear Rw7 Uw7 Pw7 Ow7 hb8
  have xx : w8.cell? ⟨bP, 0, none⟩ = some (.int .i64 p0) ∧ w8.cell? ⟨bP, 1, none⟩ = some (.int .i64 p1) ∧ w8.cell? ⟨bP, 2, none⟩ = some (.int .i64 p2) := ⟨Pw8.out.cells.1, Pw8.out.cells.2.1, Pw8.out.cells.2.2.1⟩
  go_wp2
  refine ⟨xx, ?_⟩
  clear xx
  obtain ⟨z0, z1, z2, z3⟩ := Rw8.out.cells
  refine Mixed.wpMix_loudG rfl (by kernel_rfl) ?_
  go_wp2
  obtain ⟨wz, hwz, q1, q2, q3⟩ := ri_put Rw8.out ⟨#[76, 68]⟩ (.slice A 2 cap)
  rw [hwz]
  have PZ : OpV wz bP (p0, p1, p2) := Pw8.out.other q3 (Pw8.out.ne Rw8.out)
  have xx := PZ.cells
  refine ⟨⟨xx.1, xx.2.1, xx.2.2.1⟩, ?_⟩
  refine Mixed.wpMix_loudG rfl (by kernel_rfl) ?_
  go_wp2
  refine ⟨⟨xx.1, xx.2.1, xx.2.2.1⟩, ?_⟩
  clear xx
  simp only [Mixed.wpMix, List.drop_succ_cons, List.drop_zero]
  go_wp2
  obtain ⟨s0, s1⟩ := q1.cells
  refine bodyPost_ret (v := .tuple #[.agg #[.string ⟨#[76, 68]⟩, .slice A 2 cap], .string ⟨#[119]⟩, .bool ((y : Int) == 5)]) ?_ rfl ?_
  · simp [results, Tryz.results30, go_sem, s0, s1]
  · exact ⟨_, rfl, (by rw [HP.out]; exact own_put Rw8.out Ow8.out q3), Uw8.out.trans (q2.mono (by have := HN.out; omega))⟩
end Go.Proofs.YtipgecdfnbldnaaGreatDoor
