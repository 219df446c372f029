/-
  The reference's ed, z = 4, 5, 6.
-/
import Derived.Test.YtipgecdfnbldnaaGreatDoorMRfKd
import Derived.Deep.DeepCutAuto
import Derived.Deep.Cut
import Derived.StillTail
import Derived.StillTailTactics
import Derived.Deep.RegionHeld3
import Derived.RegionTactic
set_option linter.all false
set_option maxRecDepth 100000
set_option maxHeartbeats 4000000
namespace Go.Proofs.YtipgecdfnbldnaaGreatDoor
open Go.RowKit Go.Shelf
attribute [local irreducible] Go.Mixed.wpMix
theorem ed_1_4_0 (op : Nat) (hop : op < 256) (y z : Nat) (hx : op / 64 = 1) (hy : op / 8 % 8 = y) (hz : op % 8 = z) (hv : z = 4) (hu : y = 0)(w : World) : Calls Tryz.prog 30 #[.int .u8 op] w (RetE w [78, 69, 71] [] [] false) := by
  have HY : Hid (y < 8) := (by omega : y < 8)
  have HZ : Hid (z < 8) := (by omega : z < 8)
  have HE : Hid ((op : Int) / 64 = 1 ∧ (op : Int) / 8 % 8 = 0 ∧ (op : Int) % 8 = 4) := (by omega : (op : Int) / 64 = 1 ∧ (op : Int) / 8 % 8 = 0 ∧ (op : Int) % 8 = 4)
  clear hu
  clear hv
  clear hx hy hz
  obtain ⟨w0, hw0, rz0, bl0⟩ := ri_start w
  obtain ⟨n, hn⟩ : ∃ n, w.heap.size = n := ⟨_, rfl⟩
  have Rw0 : Hid (Rz w0 n) := by rw [← hn]; exact rz0
  have Uw0 : Hid (Below w.heap.size w w0) := bl0
  have HN := Lib.hid hn
  clear rz0 bl0
  go_enter Tryz.func30, Tryz.ntmps30
  go_upto_region 4 with fail
  obtain ⟨e1, e2, e3⟩ := HE.out
  rw [e1, e2, e3]
  clear e1 e2 e3 HE
  go_wp2_with fail
  refine (rrp_any 2 3 w0).mono ?_
  rintro e w1 ⟨rfl, hb1⟩
  have Rw1 := Lib.hid (Rw0.out.all hb1)
  have Uw1 : Hid (Below w.heap.size w w1) := up Uw0.out hb1
  clear Rw0 Uw0 hb1
  clear hw0
  simp only [trV]
  simp only [rpT, show ¬ ((2 : Int) = 3) by decide, if_false]
  go_upto_region 10 with fail
  obtain ⟨bH, hbH⟩ : ∃ b, w1.heap.size = b := ⟨_, rfl⟩
  obtain ⟨w2, hw2⟩ : ∃ v, w1.alloc (.cells #[.int .i64 3, .int .i64 2, .int .i64 0] 69) = v := ⟨_, rfl⟩
  have hb2 : Below w1.heap.size w1 w2 := by rw [← hw2]; exact up_alloc _ _
  have Hw2 : Hid (OpV w2 bH (3, 2, 0)) := by rw [← hw2, ← hbH]; exact opv_new _ _ _ _
  rw [hw2, hbH]
  clear hw2 hbH
  have Rw2 := Lib.hid (Rw1.out.all hb2)
  have Uw2 : Hid (Below w.heap.size w w2) := up Uw1.out hb2
  clear Rw1 Uw1 hb2
  obtain ⟨⟨p0, p1, p2⟩, hp⟩ : ∃ x : Tr, rpT 0 3 = x := ⟨_, rfl⟩
  have HP := Lib.hid hp
  have hrp := rrp_any 0 3 w2
  rw [hp] at hrp
  clear hp
  go_wp2_with fail
  refine hrp.mono ?_
  rintro e w3 ⟨rfl, hb3⟩
  have Rw3 := Lib.hid (Rw2.out.all hb3)
  have Uw3 : Hid (Below w.heap.size w w3) := up Uw2.out hb3
  have Hw3 := Lib.hid (Hw2.out.all hb3)
  clear Rw2 Uw2 Hw2 hb3
  simp only [trV]
  clear hrp
  go_upto_region 11 with fail
  obtain ⟨bP, hbP⟩ : ∃ b, w3.heap.size = b := ⟨_, rfl⟩
  obtain ⟨w4, hw4⟩ : ∃ v, w3.alloc (.cells #[.int .i64 p0, .int .i64 p1, .int .i64 p2] 69) = v := ⟨_, rfl⟩
  have hb4 : Below w3.heap.size w3 w4 := by rw [← hw4]; exact up_alloc _ _
  have Pw4 : Hid (OpV w4 bP (p0, p1, p2)) := by rw [← hw4, ← hbP]; exact opv_new _ _ _ _
  rw [hw4, hbP]
  clear hw4 hbP
  have Rw4 := Lib.hid (Rw3.out.all hb4)
  have Uw4 : Hid (Below w.heap.size w w4) := up Uw3.out hb4
  have Hw4 := Lib.hid (Hw3.out.all hb4)
  clear Rw3 Uw3 Hw3 hb4
  go_wp2_with fail
  refine (rins_any ⟨#[78, 69, 71]⟩ none 0 0 w4).mono ?_
  rintro e w5 ⟨rfl, hb5⟩
  have Rw5 := Lib.hid (Rw4.out.all hb5)
  have Uw5 : Hid (Below w.heap.size w w5) := up Uw4.out hb5
  have Hw5 := Lib.hid (Hw4.out.all hb5)
  have Pw5 := Lib.hid (Pw4.out.all hb5)
  clear Rw4 Uw4 Hw4 Pw4 hb5
  obtain ⟨z0, z1, z2, z3⟩ := Rw5.out.cells
  go_wp2
  obtain ⟨wz, hwz, q1, q2, q3⟩ := ri_put Rw5.out ⟨#[78, 69, 71]⟩ (.slice none 0 0)
  rw [hwz]
  obtain ⟨s0, s1⟩ := q1.cells
  refine bodyPost_ret (v := .tuple #[.agg #[.string ⟨#[78, 69, 71]⟩, (.slice none 0 0)], .string ⟨#[]⟩, .bool false]) ?_ rfl ?_
  · simp [results, Tryz.results30, go_sem, s0, s1]
  · exact ⟨_, rfl, World.ownsRow_nil _ _ _ _, Uw5.out.trans (q2.mono (by have := HN.out; omega))⟩
theorem ed_1_4 (op : Nat) (hop : op < 256) (y z : Nat) (hx : op / 64 = 1) (hy : op / 8 % 8 = y) (hz : op % 8 = z) (hv : z = 4) (hu : 1 ≤ y)(w : World) : Calls Tryz.prog 30 #[.int .u8 op] w (RetE w [78, 69, 71] [] [] true) := by
  have HY : Hid (y < 8) := (by omega : y < 8)
  have HZ : Hid (z < 8) := (by omega : z < 8)
  have HE : Hid ((op : Int) / 64 = 1 ∧ (op : Int) / 8 % 8 = (y : Int) ∧ (op : Int) % 8 = 4) := (by omega : (op : Int) / 64 = 1 ∧ (op : Int) / 8 % 8 = (y : Int) ∧ (op : Int) % 8 = 4)
  have K0 : Hid ((0 : Int) < (y : Int)) := (by omega : (0 : Int) < (y : Int))
  clear hu
  clear hv
  clear hx hy hz
  obtain ⟨w0, hw0, rz0, bl0⟩ := ri_start w
  obtain ⟨n, hn⟩ : ∃ n, w.heap.size = n := ⟨_, rfl⟩
  have Rw0 : Hid (Rz w0 n) := by rw [← hn]; exact rz0
  have Uw0 : Hid (Below w.heap.size w w0) := bl0
  have HN := Lib.hid hn
  clear rz0 bl0
  go_enter Tryz.func30, Tryz.ntmps30
  go_upto_region 4 with fail
  obtain ⟨e1, e2, e3⟩ := HE.out
  rw [e1, e2, e3]
  clear e1 e2 e3 HE
  go_wp2_with fail
  refine (rrp_any 2 3 w0).mono ?_
  rintro e w1 ⟨rfl, hb1⟩
  have Rw1 := Lib.hid (Rw0.out.all hb1)
  have Uw1 : Hid (Below w.heap.size w w1) := up Uw0.out hb1
  clear Rw0 Uw0 hb1
  clear hw0
  simp only [trV]
  simp only [rpT, show ¬ ((2 : Int) = 3) by decide, if_false]
  go_upto_region 10 with fail
  obtain ⟨bH, hbH⟩ : ∃ b, w1.heap.size = b := ⟨_, rfl⟩
  obtain ⟨w2, hw2⟩ : ∃ v, w1.alloc (.cells #[.int .i64 3, .int .i64 2, .int .i64 0] 69) = v := ⟨_, rfl⟩
  have hb2 : Below w1.heap.size w1 w2 := by rw [← hw2]; exact up_alloc _ _
  have Hw2 : Hid (OpV w2 bH (3, 2, 0)) := by rw [← hw2, ← hbH]; exact opv_new _ _ _ _
  rw [hw2, hbH]
  clear hw2 hbH
  have Rw2 := Lib.hid (Rw1.out.all hb2)
  have Uw2 : Hid (Below w.heap.size w w2) := up Uw1.out hb2
  clear Rw1 Uw1 hb2
  obtain ⟨⟨p0, p1, p2⟩, hp⟩ : ∃ x : Tr, rpT ((y : Int) / 2) 3 = x := ⟨_, rfl⟩
  have HP := Lib.hid hp
  have hrp := rrp_any ((y : Int) / 2) 3 w2
  rw [hp] at hrp
  clear hp
  have by1 : (0 : Int) ≤ (y : Int) := by omega
  have by2 : (y : Int) ≤ 7 := by have := HY.out; omega
  go_wp2_with fail
  refine hrp.mono ?_
  rintro e w3 ⟨rfl, hb3⟩
  have Rw3 := Lib.hid (Rw2.out.all hb3)
  have Uw3 : Hid (Below w.heap.size w w3) := up Uw2.out hb3
  have Hw3 := Lib.hid (Hw2.out.all hb3)
  clear Rw2 Uw2 Hw2 hb3
  simp only [trV]
  clear hrp by1 by2
  go_upto_region 11 with fail
  obtain ⟨bP, hbP⟩ : ∃ b, w3.heap.size = b := ⟨_, rfl⟩
  obtain ⟨w4, hw4⟩ : ∃ v, w3.alloc (.cells #[.int .i64 p0, .int .i64 p1, .int .i64 p2] 69) = v := ⟨_, rfl⟩
  have hb4 : Below w3.heap.size w3 w4 := by rw [← hw4]; exact up_alloc _ _
  have Pw4 : Hid (OpV w4 bP (p0, p1, p2)) := by rw [← hw4, ← hbP]; exact opv_new _ _ _ _
  rw [hw4, hbP]
  clear hw4 hbP
  have Rw4 := Lib.hid (Rw3.out.all hb4)
  have Uw4 : Hid (Below w.heap.size w w4) := up Uw3.out hb4
  have Hw4 := Lib.hid (Hw3.out.all hb4)
  clear Rw3 Uw3 Hw3 hb4
  go_wp2_with fail
  refine (rins_any ⟨#[78, 69, 71]⟩ none 0 0 w4).mono ?_
  rintro e w5 ⟨rfl, hb5⟩
  have Rw5 := Lib.hid (Rw4.out.all hb5)
  have Uw5 : Hid (Below w.heap.size w w5) := up Uw4.out hb5
  have Hw5 := Lib.hid (Hw4.out.all hb5)
  have Pw5 := Lib.hid (Pw4.out.all hb5)
  clear Rw4 Uw4 Hw4 Pw4 hb5
  have k0 := K0.out
  obtain ⟨z0, z1, z2, z3⟩ := Rw5.out.cells
  go_wp2
  obtain ⟨wz, hwz, q1, q2, q3⟩ := ri_put Rw5.out ⟨#[78, 69, 71]⟩ (.slice none 0 0)
  rw [hwz]
  obtain ⟨s0, s1⟩ := q1.cells
  refine bodyPost_ret (v := .tuple #[.agg #[.string ⟨#[78, 69, 71]⟩, (.slice none 0 0)], .string ⟨#[]⟩, .bool true]) ?_ rfl ?_
  · simp [results, Tryz.results30, go_sem, s0, s1]
    omega
  · exact ⟨_, rfl, World.ownsRow_nil _ _ _ _, Uw5.out.trans (q2.mono (by have := HN.out; omega))⟩
theorem ed_1_5_0 (op : Nat) (hop : op < 256) (y z : Nat) (hx : op / 64 = 1) (hy : op / 8 % 8 = y) (hz : op % 8 = z) (hv : z = 5) (hu : y = 0)(w : World) : Calls Tryz.prog 30 #[.int .u8 op] w (RetE w [82, 69, 84, 78] [] [] false) := by
  have HY : Hid (y < 8) := (by omega : y < 8)
  have HZ : Hid (z < 8) := (by omega : z < 8)
  have HE : Hid ((op : Int) / 64 = 1 ∧ (op : Int) / 8 % 8 = 0 ∧ (op : Int) % 8 = 5) := (by omega : (op : Int) / 64 = 1 ∧ (op : Int) / 8 % 8 = 0 ∧ (op : Int) % 8 = 5)
  clear hu
  clear hv
  clear hx hy hz
  obtain ⟨w0, hw0, rz0, bl0⟩ := ri_start w
  obtain ⟨n, hn⟩ : ∃ n, w.heap.size = n := ⟨_, rfl⟩
  have Rw0 : Hid (Rz w0 n) := by rw [← hn]; exact rz0
  have Uw0 : Hid (Below w.heap.size w w0) := bl0
  have HN := Lib.hid hn
  clear rz0 bl0
  go_enter Tryz.func30, Tryz.ntmps30
  go_upto_region 4 with fail
  obtain ⟨e1, e2, e3⟩ := HE.out
  rw [e1, e2, e3]
  clear e1 e2 e3 HE
  go_wp2_with fail
  refine (rrp_any 2 3 w0).mono ?_
  rintro e w1 ⟨rfl, hb1⟩
  have Rw1 := Lib.hid (Rw0.out.all hb1)
  have Uw1 : Hid (Below w.heap.size w w1) := up Uw0.out hb1
  clear Rw0 Uw0 hb1
  clear hw0
  simp only [trV]
  simp only [rpT, show ¬ ((2 : Int) = 3) by decide, if_false]
  go_upto_region 10 with fail
  obtain ⟨bH, hbH⟩ : ∃ b, w1.heap.size = b := ⟨_, rfl⟩
  obtain ⟨w2, hw2⟩ : ∃ v, w1.alloc (.cells #[.int .i64 3, .int .i64 2, .int .i64 0] 69) = v := ⟨_, rfl⟩
  have hb2 : Below w1.heap.size w1 w2 := by rw [← hw2]; exact up_alloc _ _
  have Hw2 : Hid (OpV w2 bH (3, 2, 0)) := by rw [← hw2, ← hbH]; exact opv_new _ _ _ _
  rw [hw2, hbH]
  clear hw2 hbH
  have Rw2 := Lib.hid (Rw1.out.all hb2)
  have Uw2 : Hid (Below w.heap.size w w2) := up Uw1.out hb2
  clear Rw1 Uw1 hb2
  obtain ⟨⟨p0, p1, p2⟩, hp⟩ : ∃ x : Tr, rpT 0 3 = x := ⟨_, rfl⟩
  have HP := Lib.hid hp
  have hrp := rrp_any 0 3 w2
  rw [hp] at hrp
  clear hp
  go_wp2_with fail
  refine hrp.mono ?_
  rintro e w3 ⟨rfl, hb3⟩
  have Rw3 := Lib.hid (Rw2.out.all hb3)
  have Uw3 : Hid (Below w.heap.size w w3) := up Uw2.out hb3
  have Hw3 := Lib.hid (Hw2.out.all hb3)
  clear Rw2 Uw2 Hw2 hb3
  simp only [trV]
  clear hrp
  go_upto_region 11 with fail
  obtain ⟨bP, hbP⟩ : ∃ b, w3.heap.size = b := ⟨_, rfl⟩
  obtain ⟨w4, hw4⟩ : ∃ v, w3.alloc (.cells #[.int .i64 p0, .int .i64 p1, .int .i64 p2] 69) = v := ⟨_, rfl⟩
  have hb4 : Below w3.heap.size w3 w4 := by rw [← hw4]; exact up_alloc _ _
  have Pw4 : Hid (OpV w4 bP (p0, p1, p2)) := by rw [← hw4, ← hbP]; exact opv_new _ _ _ _
  rw [hw4, hbP]
  clear hw4 hbP
  have Rw4 := Lib.hid (Rw3.out.all hb4)
  have Uw4 : Hid (Below w.heap.size w w4) := up Uw3.out hb4
  have Hw4 := Lib.hid (Hw3.out.all hb4)
  clear Rw3 Uw3 Hw3 hb4
  go_wp2_with fail
  refine (rins_any ⟨#[82, 69, 84, 78]⟩ none 0 0 w4).mono ?_
  rintro e w5 ⟨rfl, hb5⟩
  have Rw5 := Lib.hid (Rw4.out.all hb5)
  have Uw5 : Hid (Below w.heap.size w w5) := up Uw4.out hb5
  have Hw5 := Lib.hid (Hw4.out.all hb5)
  have Pw5 := Lib.hid (Pw4.out.all hb5)
  clear Rw4 Uw4 Hw4 Pw4 hb5
  obtain ⟨z0, z1, z2, z3⟩ := Rw5.out.cells
  go_wp2
  obtain ⟨wz, hwz, q1, q2, q3⟩ := ri_put Rw5.out ⟨#[82, 69, 84, 78]⟩ (.slice none 0 0)
  rw [hwz]
  obtain ⟨s0, s1⟩ := q1.cells
  refine bodyPost_ret (v := .tuple #[.agg #[.string ⟨#[82, 69, 84, 78]⟩, (.slice none 0 0)], .string ⟨#[]⟩, .bool false]) ?_ rfl ?_
  · simp [results, Tryz.results30, go_sem, s0, s1]
  · exact ⟨_, rfl, World.ownsRow_nil _ _ _ _, Uw5.out.trans (q2.mono (by have := HN.out; omega))⟩
theorem ed_1_5_1 (op : Nat) (hop : op < 256) (y z : Nat) (hx : op / 64 = 1) (hy : op / 8 % 8 = y) (hz : op % 8 = z) (hv : z = 5) (hu : y = 1)(w : World) : Calls Tryz.prog 30 #[.int .u8 op] w (RetE w [82, 69, 84, 73] [] [] false) := by
  have HY : Hid (y < 8) := (by omega : y < 8)
  have HZ : Hid (z < 8) := (by omega : z < 8)
  have HE : Hid ((op : Int) / 64 = 1 ∧ (op : Int) / 8 % 8 = 1 ∧ (op : Int) % 8 = 5) := (by omega : (op : Int) / 64 = 1 ∧ (op : Int) / 8 % 8 = 1 ∧ (op : Int) % 8 = 5)
  clear hu
  clear hv
  clear hx hy hz
  obtain ⟨w0, hw0, rz0, bl0⟩ := ri_start w
  obtain ⟨n, hn⟩ : ∃ n, w.heap.size = n := ⟨_, rfl⟩
  have Rw0 : Hid (Rz w0 n) := by rw [← hn]; exact rz0
  have Uw0 : Hid (Below w.heap.size w w0) := bl0
  have HN := Lib.hid hn
  clear rz0 bl0
  go_enter Tryz.func30, Tryz.ntmps30
  go_upto_region 4 with fail
  obtain ⟨e1, e2, e3⟩ := HE.out
  rw [e1, e2, e3]
  clear e1 e2 e3 HE
  go_wp2_with fail
  refine (rrp_any 2 3 w0).mono ?_
  rintro e w1 ⟨rfl, hb1⟩
  have Rw1 := Lib.hid (Rw0.out.all hb1)
  have Uw1 : Hid (Below w.heap.size w w1) := up Uw0.out hb1
  clear Rw0 Uw0 hb1
  clear hw0
  simp only [trV]
  simp only [rpT, show ¬ ((2 : Int) = 3) by decide, if_false]
  go_upto_region 10 with fail
  obtain ⟨bH, hbH⟩ : ∃ b, w1.heap.size = b := ⟨_, rfl⟩
  obtain ⟨w2, hw2⟩ : ∃ v, w1.alloc (.cells #[.int .i64 3, .int .i64 2, .int .i64 0] 69) = v := ⟨_, rfl⟩
  have hb2 : Below w1.heap.size w1 w2 := by rw [← hw2]; exact up_alloc _ _
  have Hw2 : Hid (OpV w2 bH (3, 2, 0)) := by rw [← hw2, ← hbH]; exact opv_new _ _ _ _
  rw [hw2, hbH]
  clear hw2 hbH
  have Rw2 := Lib.hid (Rw1.out.all hb2)
  have Uw2 : Hid (Below w.heap.size w w2) := up Uw1.out hb2
  clear Rw1 Uw1 hb2
  obtain ⟨⟨p0, p1, p2⟩, hp⟩ : ∃ x : Tr, rpT 0 3 = x := ⟨_, rfl⟩
  have HP := Lib.hid hp
  have hrp := rrp_any 0 3 w2
  rw [hp] at hrp
  clear hp
  go_wp2_with fail
  refine hrp.mono ?_
  rintro e w3 ⟨rfl, hb3⟩
  have Rw3 := Lib.hid (Rw2.out.all hb3)
  have Uw3 : Hid (Below w.heap.size w w3) := up Uw2.out hb3
  have Hw3 := Lib.hid (Hw2.out.all hb3)
  clear Rw2 Uw2 Hw2 hb3
  simp only [trV]
  clear hrp
  go_upto_region 11 with fail
  obtain ⟨bP, hbP⟩ : ∃ b, w3.heap.size = b := ⟨_, rfl⟩
  obtain ⟨w4, hw4⟩ : ∃ v, w3.alloc (.cells #[.int .i64 p0, .int .i64 p1, .int .i64 p2] 69) = v := ⟨_, rfl⟩
  have hb4 : Below w3.heap.size w3 w4 := by rw [← hw4]; exact up_alloc _ _
  have Pw4 : Hid (OpV w4 bP (p0, p1, p2)) := by rw [← hw4, ← hbP]; exact opv_new _ _ _ _
  rw [hw4, hbP]
  clear hw4 hbP
  have Rw4 := Lib.hid (Rw3.out.all hb4)
  have Uw4 : Hid (Below w.heap.size w w4) := up Uw3.out hb4
  have Hw4 := Lib.hid (Hw3.out.all hb4)
  clear Rw3 Uw3 Hw3 hb4
  go_wp2_with fail
  refine (rins_any ⟨#[82, 69, 84, 73]⟩ none 0 0 w4).mono ?_
  rintro e w5 ⟨rfl, hb5⟩
  have Rw5 := Lib.hid (Rw4.out.all hb5)
  have Uw5 : Hid (Below w.heap.size w w5) := up Uw4.out hb5
  have Hw5 := Lib.hid (Hw4.out.all hb5)
  have Pw5 := Lib.hid (Pw4.out.all hb5)
  clear Rw4 Uw4 Hw4 Pw4 hb5
  obtain ⟨z0, z1, z2, z3⟩ := Rw5.out.cells
  go_wp2
  obtain ⟨wz, hwz, q1, q2, q3⟩ := ri_put Rw5.out ⟨#[82, 69, 84, 73]⟩ (.slice none 0 0)
  rw [hwz]
  obtain ⟨s0, s1⟩ := q1.cells
  refine bodyPost_ret (v := .tuple #[.agg #[.string ⟨#[82, 69, 84, 73]⟩, (.slice none 0 0)], .string ⟨#[]⟩, .bool false]) ?_ rfl ?_
  · simp [results, Tryz.results30, go_sem, s0, s1]
  · exact ⟨_, rfl, World.ownsRow_nil _ _ _ _, Uw5.out.trans (q2.mono (by have := HN.out; omega))⟩
theorem ed_1_5 (op : Nat) (hop : op < 256) (y z : Nat) (hx : op / 64 = 1) (hy : op / 8 % 8 = y) (hz : op % 8 = z) (hv : z = 5) (hu : 2 ≤ y)(w : World) : Calls Tryz.prog 30 #[.int .u8 op] w (RetE w [82, 69, 84, 78] [] [] true) := by
  have HY : Hid (y < 8) := (by omega : y < 8)
  have HZ : Hid (z < 8) := (by omega : z < 8)
  have HE : Hid ((op : Int) / 64 = 1 ∧ (op : Int) / 8 % 8 = (y : Int) ∧ (op : Int) % 8 = 5) := (by omega : (op : Int) / 64 = 1 ∧ (op : Int) / 8 % 8 = (y : Int) ∧ (op : Int) % 8 = 5)
  have K0 : Hid ((0 : Int) < (y : Int)) := (by omega : (0 : Int) < (y : Int))
  have K1 : Hid (((y : Int) == 1) = false) := (by simp; omega : ((y : Int) == 1) = false)
  clear hu
  clear hv
  clear hx hy hz
  obtain ⟨w0, hw0, rz0, bl0⟩ := ri_start w
  obtain ⟨n, hn⟩ : ∃ n, w.heap.size = n := ⟨_, rfl⟩
  have Rw0 : Hid (Rz w0 n) := by rw [← hn]; exact rz0
  have Uw0 : Hid (Below w.heap.size w w0) := bl0
  have HN := Lib.hid hn
  clear rz0 bl0
  go_enter Tryz.func30, Tryz.ntmps30
  go_upto_region 4 with fail
  obtain ⟨e1, e2, e3⟩ := HE.out
  rw [e1, e2, e3]
  clear e1 e2 e3 HE
  go_wp2_with fail
  refine (rrp_any 2 3 w0).mono ?_
  rintro e w1 ⟨rfl, hb1⟩
  have Rw1 := Lib.hid (Rw0.out.all hb1)
  have Uw1 : Hid (Below w.heap.size w w1) := up Uw0.out hb1
  clear Rw0 Uw0 hb1
  clear hw0
  simp only [trV]
  simp only [rpT, show ¬ ((2 : Int) = 3) by decide, if_false]
  go_upto_region 10 with fail
  obtain ⟨bH, hbH⟩ : ∃ b, w1.heap.size = b := ⟨_, rfl⟩
  obtain ⟨w2, hw2⟩ : ∃ v, w1.alloc (.cells #[.int .i64 3, .int .i64 2, .int .i64 0] 69) = v := ⟨_, rfl⟩
  have hb2 : Below w1.heap.size w1 w2 := by rw [← hw2]; exact up_alloc _ _
  have Hw2 : Hid (OpV w2 bH (3, 2, 0)) := by rw [← hw2, ← hbH]; exact opv_new _ _ _ _
  rw [hw2, hbH]
  clear hw2 hbH
  have Rw2 := Lib.hid (Rw1.out.all hb2)
  have Uw2 : Hid (Below w.heap.size w w2) := up Uw1.out hb2
  clear Rw1 Uw1 hb2
  obtain ⟨⟨p0, p1, p2⟩, hp⟩ : ∃ x : Tr, rpT ((y : Int) / 2) 3 = x := ⟨_, rfl⟩
  have HP := Lib.hid hp
  have hrp := rrp_any ((y : Int) / 2) 3 w2
  rw [hp] at hrp
  clear hp
  have by1 : (0 : Int) ≤ (y : Int) := by omega
  have by2 : (y : Int) ≤ 7 := by have := HY.out; omega
  go_wp2_with fail
  refine hrp.mono ?_
  rintro e w3 ⟨rfl, hb3⟩
  have Rw3 := Lib.hid (Rw2.out.all hb3)
  have Uw3 : Hid (Below w.heap.size w w3) := up Uw2.out hb3
  have Hw3 := Lib.hid (Hw2.out.all hb3)
  clear Rw2 Uw2 Hw2 hb3
  simp only [trV]
  clear hrp by1 by2
  go_upto_region 11 with fail
  obtain ⟨bP, hbP⟩ : ∃ b, w3.heap.size = b := ⟨_, rfl⟩
  obtain ⟨w4, hw4⟩ : ∃ v, w3.alloc (.cells #[.int .i64 p0, .int .i64 p1, .int .i64 p2] 69) = v := ⟨_, rfl⟩
  have hb4 : Below w3.heap.size w3 w4 := by rw [← hw4]; exact up_alloc _ _
  have Pw4 : Hid (OpV w4 bP (p0, p1, p2)) := by rw [← hw4, ← hbP]; exact opv_new _ _ _ _
  rw [hw4, hbP]
  clear hw4 hbP
  have Rw4 := Lib.hid (Rw3.out.all hb4)
  have Uw4 : Hid (Below w.heap.size w w4) := up Uw3.out hb4
  have Hw4 := Lib.hid (Hw3.out.all hb4)
  clear Rw3 Uw3 Hw3 hb4
  have k1 : ((y : Int) == 1) = false := K1.out
  have k0 := K0.out
  go_wp2_with fail
  refine (rins_any ⟨#[82, 69, 84, 78]⟩ none 0 0 w4).mono ?_
  rintro e w5 ⟨rfl, hb5⟩
  have Rw5 := Lib.hid (Rw4.out.all hb5)
  have Uw5 : Hid (Below w.heap.size w w5) := up Uw4.out hb5
  have Hw5 := Lib.hid (Hw4.out.all hb5)
  have Pw5 := Lib.hid (Pw4.out.all hb5)
  clear Rw4 Uw4 Hw4 Pw4 hb5
  obtain ⟨z0, z1, z2, z3⟩ := Rw5.out.cells
  go_wp2
  obtain ⟨wz, hwz, q1, q2, q3⟩ := ri_put Rw5.out ⟨#[82, 69, 84, 78]⟩ (.slice none 0 0)
  rw [hwz]
  obtain ⟨s0, s1⟩ := q1.cells
  refine bodyPost_ret (v := .tuple #[.agg #[.string ⟨#[82, 69, 84, 78]⟩, (.slice none 0 0)], .string ⟨#[]⟩, .bool true]) ?_ rfl ?_
  · simp [results, Tryz.results30, go_sem, s0, s1]
    omega
  · exact ⟨_, rfl, World.ownsRow_nil _ _ _ _, Uw5.out.trans (q2.mono (by have := HN.out; omega))⟩
theorem ed_1_6_0 (op : Nat) (hop : op < 256) (y z : Nat) (hx : op / 64 = 1) (hy : op / 8 % 8 = y) (hz : op % 8 = z) (hv : z = 6) (hu : y = 0)(w : World) : Calls Tryz.prog 30 #[.int .u8 op] w (RetE w [73, 77] [(6, 0, 0)] [] false) := by
  have HY : Hid (y < 8) := (by omega : y < 8)
  have HZ : Hid (z < 8) := (by omega : z < 8)
  have HE : Hid ((op : Int) / 64 = 1 ∧ (op : Int) / 8 % 8 = 0 ∧ (op : Int) % 8 = 6) := (by omega : (op : Int) / 64 = 1 ∧ (op : Int) / 8 % 8 = 0 ∧ (op : Int) % 8 = 6)
  clear hu
  clear hv
  clear hx hy hz
  obtain ⟨w0, hw0, rz0, bl0⟩ := ri_start w
  obtain ⟨n, hn⟩ : ∃ n, w.heap.size = n := ⟨_, rfl⟩
  have Rw0 : Hid (Rz w0 n) := by rw [← hn]; exact rz0
  have Uw0 : Hid (Below w.heap.size w w0) := bl0
  have HN := Lib.hid hn
  clear rz0 bl0
  go_enter Tryz.func30, Tryz.ntmps30
  go_upto_region 4 with fail
  obtain ⟨e1, e2, e3⟩ := HE.out
  rw [e1, e2, e3]
  clear e1 e2 e3 HE
  go_wp2_with fail
  refine (rrp_any 2 3 w0).mono ?_
  rintro e w1 ⟨rfl, hb1⟩
  have Rw1 := Lib.hid (Rw0.out.all hb1)
  have Uw1 : Hid (Below w.heap.size w w1) := up Uw0.out hb1
  clear Rw0 Uw0 hb1
  clear hw0
  simp only [trV]
  simp only [rpT, show ¬ ((2 : Int) = 3) by decide, if_false]
  go_upto_region 10 with fail
  obtain ⟨bH, hbH⟩ : ∃ b, w1.heap.size = b := ⟨_, rfl⟩
  obtain ⟨w2, hw2⟩ : ∃ v, w1.alloc (.cells #[.int .i64 3, .int .i64 2, .int .i64 0] 69) = v := ⟨_, rfl⟩
  have hb2 : Below w1.heap.size w1 w2 := by rw [← hw2]; exact up_alloc _ _
  have Hw2 : Hid (OpV w2 bH (3, 2, 0)) := by rw [← hw2, ← hbH]; exact opv_new _ _ _ _
  rw [hw2, hbH]
  clear hw2 hbH
  have Rw2 := Lib.hid (Rw1.out.all hb2)
  have Uw2 : Hid (Below w.heap.size w w2) := up Uw1.out hb2
  clear Rw1 Uw1 hb2
  obtain ⟨⟨p0, p1, p2⟩, hp⟩ : ∃ x : Tr, rpT 0 3 = x := ⟨_, rfl⟩
  have HP := Lib.hid hp
  have hrp := rrp_any 0 3 w2
  rw [hp] at hrp
  clear hp
  go_wp2_with fail
  refine hrp.mono ?_
  rintro e w3 ⟨rfl, hb3⟩
  have Rw3 := Lib.hid (Rw2.out.all hb3)
  have Uw3 : Hid (Below w.heap.size w w3) := up Uw2.out hb3
  have Hw3 := Lib.hid (Hw2.out.all hb3)
  clear Rw2 Uw2 Hw2 hb3
  simp only [trV]
  clear hrp
  go_upto_region 11 with fail
  obtain ⟨bP, hbP⟩ : ∃ b, w3.heap.size = b := ⟨_, rfl⟩
  obtain ⟨w4, hw4⟩ : ∃ v, w3.alloc (.cells #[.int .i64 p0, .int .i64 p1, .int .i64 p2] 69) = v := ⟨_, rfl⟩
  have hb4 : Below w3.heap.size w3 w4 := by rw [← hw4]; exact up_alloc _ _
  have Pw4 : Hid (OpV w4 bP (p0, p1, p2)) := by rw [← hw4, ← hbP]; exact opv_new _ _ _ _
  rw [hw4, hbP]
  clear hw4 hbP
  have Rw4 := Lib.hid (Rw3.out.all hb4)
  have Uw4 : Hid (Below w.heap.size w w4) := up Uw3.out hb4
  have Hw4 := Lib.hid (Hw3.out.all hb4)
  clear Rw3 Uw3 Hw3 hb4
  have RA : Hid (∀ o, Rz (w4.alloc o) n ∧ Below w.heap.size w (w4.alloc o)) := fun o => ⟨Rw4.out.all (up_alloc w4 o), up Uw4.out (up_alloc w4 o)⟩
  clear Rw4 Uw4 Hw4 Pw4
  go_wp2_with fail
  refine (rimm_any 0 _).mono ?_
  rintro e w5 ⟨rfl, hb5⟩
  have Rw5 := Lib.hid ((RA.out _).1.all hb5)
  have Uw5 : Hid (Below w.heap.size w w5) := up (RA.out _).2 hb5
  clear RA hb5
  simp only [trV]
  go_wp2_with fail
  refine (rone_any (6, 0, 0) w5).mono ?_
  rintro e w6 ⟨v, rfl, hO, hb6⟩
  obtain ⟨A, cap, rfl, -, -⟩ := hO.ops
  have Ow6 : Hid (OwnT w6 w.heap.size (.slice A 1 cap) [(6, 0, 0)]) := hO.lift Uw5.out.size
  clear hO
  have Rw6 := Lib.hid (Rw5.out.all hb6)
  have Uw6 : Hid (Below w.heap.size w w6) := up Uw5.out hb6
  clear Rw5 Uw5 hb6
  go_wp2_with fail
  refine (rins_any ⟨#[73, 77]⟩ A 1 cap w6).mono ?_
  rintro e w7 ⟨rfl, hb7⟩
  have Rw7 := Lib.hid (Rw6.out.all hb7)
  have Uw7 : Hid (Below w.heap.size w w7) := up Uw6.out hb7
  have Ow7 := Lib.hid (Ow6.out.below hb7)
  clear Rw6 Uw6 Ow6 hb7
  obtain ⟨z0, z1, z2, z3⟩ := Rw7.out.cells
  go_wp2
  obtain ⟨wz, hwz, q1, q2, q3⟩ := ri_put Rw7.out ⟨#[73, 77]⟩ (.slice A 1 cap)
  rw [hwz]
  obtain ⟨s0, s1⟩ := q1.cells
  refine bodyPost_ret (v := .tuple #[.agg #[.string ⟨#[73, 77]⟩, (.slice A 1 cap)], .string ⟨#[]⟩, .bool false]) ?_ rfl ?_
  · simp [results, Tryz.results30, go_sem, s0, s1]
  · exact ⟨_, rfl, own_put Rw7.out Ow7.out q3, Uw7.out.trans (q2.mono (by have := HN.out; omega))⟩
theorem ed_1_6_1 (op : Nat) (hop : op < 256) (y z : Nat) (hx : op / 64 = 1) (hy : op / 8 % 8 = y) (hz : op % 8 = z) (hv : z = 6) (hu : y = 1)(w : World) : Calls Tryz.prog 30 #[.int .u8 op] w (RetE w [73, 77] [(6, 0, 0)] [] true) := by
  have HY : Hid (y < 8) := (by omega : y < 8)
  have HZ : Hid (z < 8) := (by omega : z < 8)
  have HE : Hid ((op : Int) / 64 = 1 ∧ (op : Int) / 8 % 8 = 1 ∧ (op : Int) % 8 = 6) := (by omega : (op : Int) / 64 = 1 ∧ (op : Int) / 8 % 8 = 1 ∧ (op : Int) % 8 = 6)
  clear hu
  clear hv
  clear hx hy hz
  obtain ⟨w0, hw0, rz0, bl0⟩ := ri_start w
  obtain ⟨n, hn⟩ : ∃ n, w.heap.size = n := ⟨_, rfl⟩
  have Rw0 : Hid (Rz w0 n) := by rw [← hn]; exact rz0
  have Uw0 : Hid (Below w.heap.size w w0) := bl0
  have HN := Lib.hid hn
  clear rz0 bl0
  go_enter Tryz.func30, Tryz.ntmps30
  go_upto_region 4 with fail
  obtain ⟨e1, e2, e3⟩ := HE.out
  rw [e1, e2, e3]
  clear e1 e2 e3 HE
  go_wp2_with fail
  refine (rrp_any 2 3 w0).mono ?_
  rintro e w1 ⟨rfl, hb1⟩
  have Rw1 := Lib.hid (Rw0.out.all hb1)
  have Uw1 : Hid (Below w.heap.size w w1) := up Uw0.out hb1
  clear Rw0 Uw0 hb1
  clear hw0
  simp only [trV]
  simp only [rpT, show ¬ ((2 : Int) = 3) by decide, if_false]
  go_upto_region 10 with fail
  obtain ⟨bH, hbH⟩ : ∃ b, w1.heap.size = b := ⟨_, rfl⟩
  obtain ⟨w2, hw2⟩ : ∃ v, w1.alloc (.cells #[.int .i64 3, .int .i64 2, .int .i64 0] 69) = v := ⟨_, rfl⟩
  have hb2 : Below w1.heap.size w1 w2 := by rw [← hw2]; exact up_alloc _ _
  have Hw2 : Hid (OpV w2 bH (3, 2, 0)) := by rw [← hw2, ← hbH]; exact opv_new _ _ _ _
  rw [hw2, hbH]
  clear hw2 hbH
  have Rw2 := Lib.hid (Rw1.out.all hb2)
  have Uw2 : Hid (Below w.heap.size w w2) := up Uw1.out hb2
  clear Rw1 Uw1 hb2
  obtain ⟨⟨p0, p1, p2⟩, hp⟩ : ∃ x : Tr, rpT 0 3 = x := ⟨_, rfl⟩
  have HP := Lib.hid hp
  have hrp := rrp_any 0 3 w2
  rw [hp] at hrp
  clear hp
  go_wp2_with fail
  refine hrp.mono ?_
  rintro e w3 ⟨rfl, hb3⟩
  have Rw3 := Lib.hid (Rw2.out.all hb3)
  have Uw3 : Hid (Below w.heap.size w w3) := up Uw2.out hb3
  have Hw3 := Lib.hid (Hw2.out.all hb3)
  clear Rw2 Uw2 Hw2 hb3
  simp only [trV]
  clear hrp
  go_upto_region 11 with fail
  obtain ⟨bP, hbP⟩ : ∃ b, w3.heap.size = b := ⟨_, rfl⟩
  obtain ⟨w4, hw4⟩ : ∃ v, w3.alloc (.cells #[.int .i64 p0, .int .i64 p1, .int .i64 p2] 69) = v := ⟨_, rfl⟩
  have hb4 : Below w3.heap.size w3 w4 := by rw [← hw4]; exact up_alloc _ _
  have Pw4 : Hid (OpV w4 bP (p0, p1, p2)) := by rw [← hw4, ← hbP]; exact opv_new _ _ _ _
  rw [hw4, hbP]
  clear hw4 hbP
  have Rw4 := Lib.hid (Rw3.out.all hb4)
  have Uw4 : Hid (Below w.heap.size w w4) := up Uw3.out hb4
  have Hw4 := Lib.hid (Hw3.out.all hb4)
  clear Rw3 Uw3 Hw3 hb4
  have RA : Hid (∀ o, Rz (w4.alloc o) n ∧ Below w.heap.size w (w4.alloc o)) := fun o => ⟨Rw4.out.all (up_alloc w4 o), up Uw4.out (up_alloc w4 o)⟩
  clear Rw4 Uw4 Hw4 Pw4
  go_wp2_with fail
  refine (rimm_any 0 _).mono ?_
  rintro e w5 ⟨rfl, hb5⟩
  have Rw5 := Lib.hid ((RA.out _).1.all hb5)
  have Uw5 : Hid (Below w.heap.size w w5) := up (RA.out _).2 hb5
  clear RA hb5
  simp only [trV]
  go_wp2_with fail
  refine (rone_any (6, 0, 0) w5).mono ?_
  rintro e w6 ⟨v, rfl, hO, hb6⟩
  obtain ⟨A, cap, rfl, -, -⟩ := hO.ops
  have Ow6 : Hid (OwnT w6 w.heap.size (.slice A 1 cap) [(6, 0, 0)]) := hO.lift Uw5.out.size
  clear hO
  have Rw6 := Lib.hid (Rw5.out.all hb6)
  have Uw6 : Hid (Below w.heap.size w w6) := up Uw5.out hb6
  clear Rw5 Uw5 hb6
  go_wp2_with fail
  refine (rins_any ⟨#[73, 77]⟩ A 1 cap w6).mono ?_
  rintro e w7 ⟨rfl, hb7⟩
  have Rw7 := Lib.hid (Rw6.out.all hb7)
  have Uw7 : Hid (Below w.heap.size w w7) := up Uw6.out hb7
  have Ow7 := Lib.hid (Ow6.out.below hb7)
  clear Rw6 Uw6 Ow6 hb7
  obtain ⟨z0, z1, z2, z3⟩ := Rw7.out.cells
  go_wp2
  obtain ⟨wz, hwz, q1, q2, q3⟩ := ri_put Rw7.out ⟨#[73, 77]⟩ (.slice A 1 cap)
  rw [hwz]
  obtain ⟨s0, s1⟩ := q1.cells
  refine bodyPost_ret (v := .tuple #[.agg #[.string ⟨#[73, 77]⟩, (.slice A 1 cap)], .string ⟨#[]⟩, .bool true]) ?_ rfl ?_
  · simp [results, Tryz.results30, go_sem, s0, s1]
  · exact ⟨_, rfl, own_put Rw7.out Ow7.out q3, Uw7.out.trans (q2.mono (by have := HN.out; omega))⟩
theorem ed_1_6_2 (op : Nat) (hop : op < 256) (y z : Nat) (hx : op / 64 = 1) (hy : op / 8 % 8 = y) (hz : op % 8 = z) (hv : z = 6) (hu : y = 2)(w : World) : Calls Tryz.prog 30 #[.int .u8 op] w (RetE w [73, 77] [(6, 0, 1)] [] false) := by
  have HY : Hid (y < 8) := (by omega : y < 8)
  have HZ : Hid (z < 8) := (by omega : z < 8)
  have HE : Hid ((op : Int) / 64 = 1 ∧ (op : Int) / 8 % 8 = 2 ∧ (op : Int) % 8 = 6) := (by omega : (op : Int) / 64 = 1 ∧ (op : Int) / 8 % 8 = 2 ∧ (op : Int) % 8 = 6)
  clear hu
  clear hv
  clear hx hy hz
  obtain ⟨w0, hw0, rz0, bl0⟩ := ri_start w
  obtain ⟨n, hn⟩ : ∃ n, w.heap.size = n := ⟨_, rfl⟩
  have Rw0 : Hid (Rz w0 n) := by rw [← hn]; exact rz0
  have Uw0 : Hid (Below w.heap.size w w0) := bl0
  have HN := Lib.hid hn
  clear rz0 bl0
  go_enter Tryz.func30, Tryz.ntmps30
  go_upto_region 4 with fail
  obtain ⟨e1, e2, e3⟩ := HE.out
  rw [e1, e2, e3]
  clear e1 e2 e3 HE
  go_wp2_with fail
  refine (rrp_any 2 3 w0).mono ?_
  rintro e w1 ⟨rfl, hb1⟩
  have Rw1 := Lib.hid (Rw0.out.all hb1)
  have Uw1 : Hid (Below w.heap.size w w1) := up Uw0.out hb1
  clear Rw0 Uw0 hb1
  clear hw0
  simp only [trV]
  simp only [rpT, show ¬ ((2 : Int) = 3) by decide, if_false]
  go_upto_region 10 with fail
  obtain ⟨bH, hbH⟩ : ∃ b, w1.heap.size = b := ⟨_, rfl⟩
  obtain ⟨w2, hw2⟩ : ∃ v, w1.alloc (.cells #[.int .i64 3, .int .i64 2, .int .i64 0] 69) = v := ⟨_, rfl⟩
  have hb2 : Below w1.heap.size w1 w2 := by rw [← hw2]; exact up_alloc _ _
  have Hw2 : Hid (OpV w2 bH (3, 2, 0)) := by rw [← hw2, ← hbH]; exact opv_new _ _ _ _
  rw [hw2, hbH]
  clear hw2 hbH
  have Rw2 := Lib.hid (Rw1.out.all hb2)
  have Uw2 : Hid (Below w.heap.size w w2) := up Uw1.out hb2
  clear Rw1 Uw1 hb2
  obtain ⟨⟨p0, p1, p2⟩, hp⟩ : ∃ x : Tr, rpT 1 3 = x := ⟨_, rfl⟩
  have HP := Lib.hid hp
  have hrp := rrp_any 1 3 w2
  rw [hp] at hrp
  clear hp
  go_wp2_with fail
  refine hrp.mono ?_
  rintro e w3 ⟨rfl, hb3⟩
  have Rw3 := Lib.hid (Rw2.out.all hb3)
  have Uw3 : Hid (Below w.heap.size w w3) := up Uw2.out hb3
  have Hw3 := Lib.hid (Hw2.out.all hb3)
  clear Rw2 Uw2 Hw2 hb3
  simp only [trV]
  clear hrp
  go_upto_region 11 with fail
  obtain ⟨bP, hbP⟩ : ∃ b, w3.heap.size = b := ⟨_, rfl⟩
  obtain ⟨w4, hw4⟩ : ∃ v, w3.alloc (.cells #[.int .i64 p0, .int .i64 p1, .int .i64 p2] 69) = v := ⟨_, rfl⟩
  have hb4 : Below w3.heap.size w3 w4 := by rw [← hw4]; exact up_alloc _ _
  have Pw4 : Hid (OpV w4 bP (p0, p1, p2)) := by rw [← hw4, ← hbP]; exact opv_new _ _ _ _
  rw [hw4, hbP]
  clear hw4 hbP
  have Rw4 := Lib.hid (Rw3.out.all hb4)
  have Uw4 : Hid (Below w.heap.size w w4) := up Uw3.out hb4
  have Hw4 := Lib.hid (Hw3.out.all hb4)
  clear Rw3 Uw3 Hw3 hb4
  have RA : Hid (∀ o, Rz (w4.alloc o) n ∧ Below w.heap.size w (w4.alloc o)) := fun o => ⟨Rw4.out.all (up_alloc w4 o), up Uw4.out (up_alloc w4 o)⟩
  clear Rw4 Uw4 Hw4 Pw4
  go_wp2_with fail
  refine (rimm_any 1 _).mono ?_
  rintro e w5 ⟨rfl, hb5⟩
  have Rw5 := Lib.hid ((RA.out _).1.all hb5)
  have Uw5 : Hid (Below w.heap.size w w5) := up (RA.out _).2 hb5
  clear RA hb5
  simp only [trV]
  go_wp2_with fail
  refine (rone_any (6, 0, 1) w5).mono ?_
  rintro e w6 ⟨v, rfl, hO, hb6⟩
  obtain ⟨A, cap, rfl, -, -⟩ := hO.ops
  have Ow6 : Hid (OwnT w6 w.heap.size (.slice A 1 cap) [(6, 0, 1)]) := hO.lift Uw5.out.size
  clear hO
  have Rw6 := Lib.hid (Rw5.out.all hb6)
  have Uw6 : Hid (Below w.heap.size w w6) := up Uw5.out hb6
  clear Rw5 Uw5 hb6
  go_wp2_with fail
  refine (rins_any ⟨#[73, 77]⟩ A 1 cap w6).mono ?_
  rintro e w7 ⟨rfl, hb7⟩
  have Rw7 := Lib.hid (Rw6.out.all hb7)
  have Uw7 : Hid (Below w.heap.size w w7) := up Uw6.out hb7
  have Ow7 := Lib.hid (Ow6.out.below hb7)
  clear Rw6 Uw6 Ow6 hb7
  obtain ⟨z0, z1, z2, z3⟩ := Rw7.out.cells
  go_wp2
  obtain ⟨wz, hwz, q1, q2, q3⟩ := ri_put Rw7.out ⟨#[73, 77]⟩ (.slice A 1 cap)
  rw [hwz]
  obtain ⟨s0, s1⟩ := q1.cells
  refine bodyPost_ret (v := .tuple #[.agg #[.string ⟨#[73, 77]⟩, (.slice A 1 cap)], .string ⟨#[]⟩, .bool false]) ?_ rfl ?_
  · simp [results, Tryz.results30, go_sem, s0, s1]
  · exact ⟨_, rfl, own_put Rw7.out Ow7.out q3, Uw7.out.trans (q2.mono (by have := HN.out; omega))⟩
theorem ed_1_6_3 (op : Nat) (hop : op < 256) (y z : Nat) (hx : op / 64 = 1) (hy : op / 8 % 8 = y) (hz : op % 8 = z) (hv : z = 6) (hu : y = 3)(w : World) : Calls Tryz.prog 30 #[.int .u8 op] w (RetE w [73, 77] [(6, 0, 2)] [] false) := by
  have HY : Hid (y < 8) := (by omega : y < 8)
  have HZ : Hid (z < 8) := (by omega : z < 8)
  have HE : Hid ((op : Int) / 64 = 1 ∧ (op : Int) / 8 % 8 = 3 ∧ (op : Int) % 8 = 6) := (by omega : (op : Int) / 64 = 1 ∧ (op : Int) / 8 % 8 = 3 ∧ (op : Int) % 8 = 6)
  clear hu
  clear hv
  clear hx hy hz
  obtain ⟨w0, hw0, rz0, bl0⟩ := ri_start w
  obtain ⟨n, hn⟩ : ∃ n, w.heap.size = n := ⟨_, rfl⟩
  have Rw0 : Hid (Rz w0 n) := by rw [← hn]; exact rz0
  have Uw0 : Hid (Below w.heap.size w w0) := bl0
  have HN := Lib.hid hn
  clear rz0 bl0
  go_enter Tryz.func30, Tryz.ntmps30
  go_upto_region 4 with fail
  obtain ⟨e1, e2, e3⟩ := HE.out
  rw [e1, e2, e3]
  clear e1 e2 e3 HE
  go_wp2_with fail
  refine (rrp_any 2 3 w0).mono ?_
  rintro e w1 ⟨rfl, hb1⟩
  have Rw1 := Lib.hid (Rw0.out.all hb1)
  have Uw1 : Hid (Below w.heap.size w w1) := up Uw0.out hb1
  clear Rw0 Uw0 hb1
  clear hw0
  simp only [trV]
  simp only [rpT, show ¬ ((2 : Int) = 3) by decide, if_false]
  go_upto_region 10 with fail
  obtain ⟨bH, hbH⟩ : ∃ b, w1.heap.size = b := ⟨_, rfl⟩
  obtain ⟨w2, hw2⟩ : ∃ v, w1.alloc (.cells #[.int .i64 3, .int .i64 2, .int .i64 0] 69) = v := ⟨_, rfl⟩
  have hb2 : Below w1.heap.size w1 w2 := by rw [← hw2]; exact up_alloc _ _
  have Hw2 : Hid (OpV w2 bH (3, 2, 0)) := by rw [← hw2, ← hbH]; exact opv_new _ _ _ _
  rw [hw2, hbH]
  clear hw2 hbH
  have Rw2 := Lib.hid (Rw1.out.all hb2)
  have Uw2 : Hid (Below w.heap.size w w2) := up Uw1.out hb2
  clear Rw1 Uw1 hb2
  obtain ⟨⟨p0, p1, p2⟩, hp⟩ : ∃ x : Tr, rpT 1 3 = x := ⟨_, rfl⟩
  have HP := Lib.hid hp
  have hrp := rrp_any 1 3 w2
  rw [hp] at hrp
  clear hp
  go_wp2_with fail
  refine hrp.mono ?_
  rintro e w3 ⟨rfl, hb3⟩
  have Rw3 := Lib.hid (Rw2.out.all hb3)
  have Uw3 : Hid (Below w.heap.size w w3) := up Uw2.out hb3
  have Hw3 := Lib.hid (Hw2.out.all hb3)
  clear Rw2 Uw2 Hw2 hb3
  simp only [trV]
  clear hrp
  go_upto_region 11 with fail
  obtain ⟨bP, hbP⟩ : ∃ b, w3.heap.size = b := ⟨_, rfl⟩
  obtain ⟨w4, hw4⟩ : ∃ v, w3.alloc (.cells #[.int .i64 p0, .int .i64 p1, .int .i64 p2] 69) = v := ⟨_, rfl⟩
  have hb4 : Below w3.heap.size w3 w4 := by rw [← hw4]; exact up_alloc _ _
  have Pw4 : Hid (OpV w4 bP (p0, p1, p2)) := by rw [← hw4, ← hbP]; exact opv_new _ _ _ _
  rw [hw4, hbP]
  clear hw4 hbP
  have Rw4 := Lib.hid (Rw3.out.all hb4)
  have Uw4 : Hid (Below w.heap.size w w4) := up Uw3.out hb4
  have Hw4 := Lib.hid (Hw3.out.all hb4)
  clear Rw3 Uw3 Hw3 hb4
  have RA : Hid (∀ o, Rz (w4.alloc o) n ∧ Below w.heap.size w (w4.alloc o)) := fun o => ⟨Rw4.out.all (up_alloc w4 o), up Uw4.out (up_alloc w4 o)⟩
  clear Rw4 Uw4 Hw4 Pw4
  go_wp2_with fail
  refine (rimm_any 2 _).mono ?_
  rintro e w5 ⟨rfl, hb5⟩
  have Rw5 := Lib.hid ((RA.out _).1.all hb5)
  have Uw5 : Hid (Below w.heap.size w w5) := up (RA.out _).2 hb5
  clear RA hb5
  simp only [trV]
  go_wp2_with fail
  refine (rone_any (6, 0, 2) w5).mono ?_
  rintro e w6 ⟨v, rfl, hO, hb6⟩
  obtain ⟨A, cap, rfl, -, -⟩ := hO.ops
  have Ow6 : Hid (OwnT w6 w.heap.size (.slice A 1 cap) [(6, 0, 2)]) := hO.lift Uw5.out.size
  clear hO
  have Rw6 := Lib.hid (Rw5.out.all hb6)
  have Uw6 : Hid (Below w.heap.size w w6) := up Uw5.out hb6
  clear Rw5 Uw5 hb6
  go_wp2_with fail
  refine (rins_any ⟨#[73, 77]⟩ A 1 cap w6).mono ?_
  rintro e w7 ⟨rfl, hb7⟩
  have Rw7 := Lib.hid (Rw6.out.all hb7)
  have Uw7 : Hid (Below w.heap.size w w7) := up Uw6.out hb7
  have Ow7 := Lib.hid (Ow6.out.below hb7)
  clear Rw6 Uw6 Ow6 hb7
  obtain ⟨z0, z1, z2, z3⟩ := Rw7.out.cells
  go_wp2
  obtain ⟨wz, hwz, q1, q2, q3⟩ := ri_put Rw7.out ⟨#[73, 77]⟩ (.slice A 1 cap)
  rw [hwz]
  obtain ⟨s0, s1⟩ := q1.cells
  refine bodyPost_ret (v := .tuple #[.agg #[.string ⟨#[73, 77]⟩, (.slice A 1 cap)], .string ⟨#[]⟩, .bool false]) ?_ rfl ?_
  · simp [results, Tryz.results30, go_sem, s0, s1]
  · exact ⟨_, rfl, own_put Rw7.out Ow7.out q3, Uw7.out.trans (q2.mono (by have := HN.out; omega))⟩
theorem ed_1_6_4 (op : Nat) (hop : op < 256) (y z : Nat) (hx : op / 64 = 1) (hy : op / 8 % 8 = y) (hz : op % 8 = z) (hv : z = 6) (hu : y = 4)(w : World) : Calls Tryz.prog 30 #[.int .u8 op] w (RetE w [73, 77] [(6, 0, 0)] [] true) := by
  have HY : Hid (y < 8) := (by omega : y < 8)
  have HZ : Hid (z < 8) := (by omega : z < 8)
  have HE : Hid ((op : Int) / 64 = 1 ∧ (op : Int) / 8 % 8 = 4 ∧ (op : Int) % 8 = 6) := (by omega : (op : Int) / 64 = 1 ∧ (op : Int) / 8 % 8 = 4 ∧ (op : Int) % 8 = 6)
  clear hu
  clear hv
  clear hx hy hz
  obtain ⟨w0, hw0, rz0, bl0⟩ := ri_start w
  obtain ⟨n, hn⟩ : ∃ n, w.heap.size = n := ⟨_, rfl⟩
  have Rw0 : Hid (Rz w0 n) := by rw [← hn]; exact rz0
  have Uw0 : Hid (Below w.heap.size w w0) := bl0
  have HN := Lib.hid hn
  clear rz0 bl0
  go_enter Tryz.func30, Tryz.ntmps30
  go_upto_region 4 with fail
  obtain ⟨e1, e2, e3⟩ := HE.out
  rw [e1, e2, e3]
  clear e1 e2 e3 HE
  go_wp2_with fail
  refine (rrp_any 2 3 w0).mono ?_
  rintro e w1 ⟨rfl, hb1⟩
  have Rw1 := Lib.hid (Rw0.out.all hb1)
  have Uw1 : Hid (Below w.heap.size w w1) := up Uw0.out hb1
  clear Rw0 Uw0 hb1
  clear hw0
  simp only [trV]
  simp only [rpT, show ¬ ((2 : Int) = 3) by decide, if_false]
  go_upto_region 10 with fail
  obtain ⟨bH, hbH⟩ : ∃ b, w1.heap.size = b := ⟨_, rfl⟩
  obtain ⟨w2, hw2⟩ : ∃ v, w1.alloc (.cells #[.int .i64 3, .int .i64 2, .int .i64 0] 69) = v := ⟨_, rfl⟩
  have hb2 : Below w1.heap.size w1 w2 := by rw [← hw2]; exact up_alloc _ _
  have Hw2 : Hid (OpV w2 bH (3, 2, 0)) := by rw [← hw2, ← hbH]; exact opv_new _ _ _ _
  rw [hw2, hbH]
  clear hw2 hbH
  have Rw2 := Lib.hid (Rw1.out.all hb2)
  have Uw2 : Hid (Below w.heap.size w w2) := up Uw1.out hb2
  clear Rw1 Uw1 hb2
  obtain ⟨⟨p0, p1, p2⟩, hp⟩ : ∃ x : Tr, rpT 2 3 = x := ⟨_, rfl⟩
  have HP := Lib.hid hp
  have hrp := rrp_any 2 3 w2
  rw [hp] at hrp
  clear hp
  go_wp2_with fail
  refine hrp.mono ?_
  rintro e w3 ⟨rfl, hb3⟩
  have Rw3 := Lib.hid (Rw2.out.all hb3)
  have Uw3 : Hid (Below w.heap.size w w3) := up Uw2.out hb3
  have Hw3 := Lib.hid (Hw2.out.all hb3)
  clear Rw2 Uw2 Hw2 hb3
  simp only [trV]
  clear hrp
  go_upto_region 11 with fail
  obtain ⟨bP, hbP⟩ : ∃ b, w3.heap.size = b := ⟨_, rfl⟩
  obtain ⟨w4, hw4⟩ : ∃ v, w3.alloc (.cells #[.int .i64 p0, .int .i64 p1, .int .i64 p2] 69) = v := ⟨_, rfl⟩
  have hb4 : Below w3.heap.size w3 w4 := by rw [← hw4]; exact up_alloc _ _
  have Pw4 : Hid (OpV w4 bP (p0, p1, p2)) := by rw [← hw4, ← hbP]; exact opv_new _ _ _ _
  rw [hw4, hbP]
  clear hw4 hbP
  have Rw4 := Lib.hid (Rw3.out.all hb4)
  have Uw4 : Hid (Below w.heap.size w w4) := up Uw3.out hb4
  have Hw4 := Lib.hid (Hw3.out.all hb4)
  clear Rw3 Uw3 Hw3 hb4
  have RA : Hid (∀ o, Rz (w4.alloc o) n ∧ Below w.heap.size w (w4.alloc o)) := fun o => ⟨Rw4.out.all (up_alloc w4 o), up Uw4.out (up_alloc w4 o)⟩
  clear Rw4 Uw4 Hw4 Pw4
  go_wp2_with fail
  refine (rimm_any 0 _).mono ?_
  rintro e w5 ⟨rfl, hb5⟩
  have Rw5 := Lib.hid ((RA.out _).1.all hb5)
  have Uw5 : Hid (Below w.heap.size w w5) := up (RA.out _).2 hb5
  clear RA hb5
  simp only [trV]
  go_wp2_with fail
  refine (rone_any (6, 0, 0) w5).mono ?_
  rintro e w6 ⟨v, rfl, hO, hb6⟩
  obtain ⟨A, cap, rfl, -, -⟩ := hO.ops
  have Ow6 : Hid (OwnT w6 w.heap.size (.slice A 1 cap) [(6, 0, 0)]) := hO.lift Uw5.out.size
  clear hO
  have Rw6 := Lib.hid (Rw5.out.all hb6)
  have Uw6 : Hid (Below w.heap.size w w6) := up Uw5.out hb6
  clear Rw5 Uw5 hb6
  go_wp2_with fail
  refine (rins_any ⟨#[73, 77]⟩ A 1 cap w6).mono ?_
  rintro e w7 ⟨rfl, hb7⟩
  have Rw7 := Lib.hid (Rw6.out.all hb7)
  have Uw7 : Hid (Below w.heap.size w w7) := up Uw6.out hb7
  have Ow7 := Lib.hid (Ow6.out.below hb7)
  clear Rw6 Uw6 Ow6 hb7
  obtain ⟨z0, z1, z2, z3⟩ := Rw7.out.cells
  go_wp2
  obtain ⟨wz, hwz, q1, q2, q3⟩ := ri_put Rw7.out ⟨#[73, 77]⟩ (.slice A 1 cap)
  rw [hwz]
  obtain ⟨s0, s1⟩ := q1.cells
  refine bodyPost_ret (v := .tuple #[.agg #[.string ⟨#[73, 77]⟩, (.slice A 1 cap)], .string ⟨#[]⟩, .bool true]) ?_ rfl ?_
  · simp [results, Tryz.results30, go_sem, s0, s1]
  · exact ⟨_, rfl, own_put Rw7.out Ow7.out q3, Uw7.out.trans (q2.mono (by have := HN.out; omega))⟩
theorem ed_1_6_5 (op : Nat) (hop : op < 256) (y z : Nat) (hx : op / 64 = 1) (hy : op / 8 % 8 = y) (hz : op % 8 = z) (hv : z = 6) (hu : y = 5)(w : World) : Calls Tryz.prog 30 #[.int .u8 op] w (RetE w [73, 77] [(6, 0, 0)] [] true) := by
  have HY : Hid (y < 8) := (by omega : y < 8)
  have HZ : Hid (z < 8) := (by omega : z < 8)
  have HE : Hid ((op : Int) / 64 = 1 ∧ (op : Int) / 8 % 8 = 5 ∧ (op : Int) % 8 = 6) := (by omega : (op : Int) / 64 = 1 ∧ (op : Int) / 8 % 8 = 5 ∧ (op : Int) % 8 = 6)
  clear hu
  clear hv
  clear hx hy hz
  obtain ⟨w0, hw0, rz0, bl0⟩ := ri_start w
  obtain ⟨n, hn⟩ : ∃ n, w.heap.size = n := ⟨_, rfl⟩
  have Rw0 : Hid (Rz w0 n) := by rw [← hn]; exact rz0
  have Uw0 : Hid (Below w.heap.size w w0) := bl0
  have HN := Lib.hid hn
  clear rz0 bl0
  go_enter Tryz.func30, Tryz.ntmps30
  go_upto_region 4 with fail
  obtain ⟨e1, e2, e3⟩ := HE.out
  rw [e1, e2, e3]
  clear e1 e2 e3 HE
  go_wp2_with fail
  refine (rrp_any 2 3 w0).mono ?_
  rintro e w1 ⟨rfl, hb1⟩
  have Rw1 := Lib.hid (Rw0.out.all hb1)
  have Uw1 : Hid (Below w.heap.size w w1) := up Uw0.out hb1
  clear Rw0 Uw0 hb1
  clear hw0
  simp only [trV]
  simp only [rpT, show ¬ ((2 : Int) = 3) by decide, if_false]
  go_upto_region 10 with fail
  obtain ⟨bH, hbH⟩ : ∃ b, w1.heap.size = b := ⟨_, rfl⟩
  obtain ⟨w2, hw2⟩ : ∃ v, w1.alloc (.cells #[.int .i64 3, .int .i64 2, .int .i64 0] 69) = v := ⟨_, rfl⟩
  have hb2 : Below w1.heap.size w1 w2 := by rw [← hw2]; exact up_alloc _ _
  have Hw2 : Hid (OpV w2 bH (3, 2, 0)) := by rw [← hw2, ← hbH]; exact opv_new _ _ _ _
  rw [hw2, hbH]
  clear hw2 hbH
  have Rw2 := Lib.hid (Rw1.out.all hb2)
  have Uw2 : Hid (Below w.heap.size w w2) := up Uw1.out hb2
  clear Rw1 Uw1 hb2
  obtain ⟨⟨p0, p1, p2⟩, hp⟩ : ∃ x : Tr, rpT 2 3 = x := ⟨_, rfl⟩
  have HP := Lib.hid hp
  have hrp := rrp_any 2 3 w2
  rw [hp] at hrp
  clear hp
  go_wp2_with fail
  refine hrp.mono ?_
  rintro e w3 ⟨rfl, hb3⟩
  have Rw3 := Lib.hid (Rw2.out.all hb3)
  have Uw3 : Hid (Below w.heap.size w w3) := up Uw2.out hb3
  have Hw3 := Lib.hid (Hw2.out.all hb3)
  clear Rw2 Uw2 Hw2 hb3
  simp only [trV]
  clear hrp
  go_upto_region 11 with fail
  obtain ⟨bP, hbP⟩ : ∃ b, w3.heap.size = b := ⟨_, rfl⟩
  obtain ⟨w4, hw4⟩ : ∃ v, w3.alloc (.cells #[.int .i64 p0, .int .i64 p1, .int .i64 p2] 69) = v := ⟨_, rfl⟩
  have hb4 : Below w3.heap.size w3 w4 := by rw [← hw4]; exact up_alloc _ _
  have Pw4 : Hid (OpV w4 bP (p0, p1, p2)) := by rw [← hw4, ← hbP]; exact opv_new _ _ _ _
  rw [hw4, hbP]
  clear hw4 hbP
  have Rw4 := Lib.hid (Rw3.out.all hb4)
  have Uw4 : Hid (Below w.heap.size w w4) := up Uw3.out hb4
  have Hw4 := Lib.hid (Hw3.out.all hb4)
  clear Rw3 Uw3 Hw3 hb4
  have RA : Hid (∀ o, Rz (w4.alloc o) n ∧ Below w.heap.size w (w4.alloc o)) := fun o => ⟨Rw4.out.all (up_alloc w4 o), up Uw4.out (up_alloc w4 o)⟩
  clear Rw4 Uw4 Hw4 Pw4
  go_wp2_with fail
  refine (rimm_any 0 _).mono ?_
  rintro e w5 ⟨rfl, hb5⟩
  have Rw5 := Lib.hid ((RA.out _).1.all hb5)
  have Uw5 : Hid (Below w.heap.size w w5) := up (RA.out _).2 hb5
  clear RA hb5
  simp only [trV]
  go_wp2_with fail
  refine (rone_any (6, 0, 0) w5).mono ?_
  rintro e w6 ⟨v, rfl, hO, hb6⟩
  obtain ⟨A, cap, rfl, -, -⟩ := hO.ops
  have Ow6 : Hid (OwnT w6 w.heap.size (.slice A 1 cap) [(6, 0, 0)]) := hO.lift Uw5.out.size
  clear hO
  have Rw6 := Lib.hid (Rw5.out.all hb6)
  have Uw6 : Hid (Below w.heap.size w w6) := up Uw5.out hb6
  clear Rw5 Uw5 hb6
  go_wp2_with fail
  refine (rins_any ⟨#[73, 77]⟩ A 1 cap w6).mono ?_
  rintro e w7 ⟨rfl, hb7⟩
  have Rw7 := Lib.hid (Rw6.out.all hb7)
  have Uw7 : Hid (Below w.heap.size w w7) := up Uw6.out hb7
  have Ow7 := Lib.hid (Ow6.out.below hb7)
  clear Rw6 Uw6 Ow6 hb7
  obtain ⟨z0, z1, z2, z3⟩ := Rw7.out.cells
  go_wp2
  obtain ⟨wz, hwz, q1, q2, q3⟩ := ri_put Rw7.out ⟨#[73, 77]⟩ (.slice A 1 cap)
  rw [hwz]
  obtain ⟨s0, s1⟩ := q1.cells
  refine bodyPost_ret (v := .tuple #[.agg #[.string ⟨#[73, 77]⟩, (.slice A 1 cap)], .string ⟨#[]⟩, .bool true]) ?_ rfl ?_
  · simp [results, Tryz.results30, go_sem, s0, s1]
  · exact ⟨_, rfl, own_put Rw7.out Ow7.out q3, Uw7.out.trans (q2.mono (by have := HN.out; omega))⟩
theorem ed_1_6_6 (op : Nat) (hop : op < 256) (y z : Nat) (hx : op / 64 = 1) (hy : op / 8 % 8 = y) (hz : op % 8 = z) (hv : z = 6) (hu : y = 6)(w : World) : Calls Tryz.prog 30 #[.int .u8 op] w (RetE w [73, 77] [(6, 0, 1)] [] true) := by
  have HY : Hid (y < 8) := (by omega : y < 8)
  have HZ : Hid (z < 8) := (by omega : z < 8)
  have HE : Hid ((op : Int) / 64 = 1 ∧ (op : Int) / 8 % 8 = 6 ∧ (op : Int) % 8 = 6) := (by omega : (op : Int) / 64 = 1 ∧ (op : Int) / 8 % 8 = 6 ∧ (op : Int) % 8 = 6)
  clear hu
  clear hv
  clear hx hy hz
  obtain ⟨w0, hw0, rz0, bl0⟩ := ri_start w
  obtain ⟨n, hn⟩ : ∃ n, w.heap.size = n := ⟨_, rfl⟩
  have Rw0 : Hid (Rz w0 n) := by rw [← hn]; exact rz0
  have Uw0 : Hid (Below w.heap.size w w0) := bl0
  have HN := Lib.hid hn
  clear rz0 bl0
  go_enter Tryz.func30, Tryz.ntmps30
  go_upto_region 4 with fail
  obtain ⟨e1, e2, e3⟩ := HE.out
  rw [e1, e2, e3]
  clear e1 e2 e3 HE
  go_wp2_with fail
  refine (rrp_any 2 3 w0).mono ?_
  rintro e w1 ⟨rfl, hb1⟩
  have Rw1 := Lib.hid (Rw0.out.all hb1)
  have Uw1 : Hid (Below w.heap.size w w1) := up Uw0.out hb1
  clear Rw0 Uw0 hb1
  clear hw0
  simp only [trV]
  simp only [rpT, show ¬ ((2 : Int) = 3) by decide, if_false]
  go_upto_region 10 with fail
  obtain ⟨bH, hbH⟩ : ∃ b, w1.heap.size = b := ⟨_, rfl⟩
  obtain ⟨w2, hw2⟩ : ∃ v, w1.alloc (.cells #[.int .i64 3, .int .i64 2, .int .i64 0] 69) = v := ⟨_, rfl⟩
  have hb2 : Below w1.heap.size w1 w2 := by rw [← hw2]; exact up_alloc _ _
  have Hw2 : Hid (OpV w2 bH (3, 2, 0)) := by rw [← hw2, ← hbH]; exact opv_new _ _ _ _
  rw [hw2, hbH]
  clear hw2 hbH
  have Rw2 := Lib.hid (Rw1.out.all hb2)
  have Uw2 : Hid (Below w.heap.size w w2) := up Uw1.out hb2
  clear Rw1 Uw1 hb2
  obtain ⟨⟨p0, p1, p2⟩, hp⟩ : ∃ x : Tr, rpT 3 3 = x := ⟨_, rfl⟩
  have HP := Lib.hid hp
  have hrp := rrp_any 3 3 w2
  rw [hp] at hrp
  clear hp
  go_wp2_with fail
  refine hrp.mono ?_
  rintro e w3 ⟨rfl, hb3⟩
  have Rw3 := Lib.hid (Rw2.out.all hb3)
  have Uw3 : Hid (Below w.heap.size w w3) := up Uw2.out hb3
  have Hw3 := Lib.hid (Hw2.out.all hb3)
  clear Rw2 Uw2 Hw2 hb3
  simp only [trV]
  clear hrp
  go_upto_region 11 with fail
  obtain ⟨bP, hbP⟩ : ∃ b, w3.heap.size = b := ⟨_, rfl⟩
  obtain ⟨w4, hw4⟩ : ∃ v, w3.alloc (.cells #[.int .i64 p0, .int .i64 p1, .int .i64 p2] 69) = v := ⟨_, rfl⟩
  have hb4 : Below w3.heap.size w3 w4 := by rw [← hw4]; exact up_alloc _ _
  have Pw4 : Hid (OpV w4 bP (p0, p1, p2)) := by rw [← hw4, ← hbP]; exact opv_new _ _ _ _
  rw [hw4, hbP]
  clear hw4 hbP
  have Rw4 := Lib.hid (Rw3.out.all hb4)
  have Uw4 : Hid (Below w.heap.size w w4) := up Uw3.out hb4
  have Hw4 := Lib.hid (Hw3.out.all hb4)
  clear Rw3 Uw3 Hw3 hb4
  have RA : Hid (∀ o, Rz (w4.alloc o) n ∧ Below w.heap.size w (w4.alloc o)) := fun o => ⟨Rw4.out.all (up_alloc w4 o), up Uw4.out (up_alloc w4 o)⟩
  clear Rw4 Uw4 Hw4 Pw4
  go_wp2_with fail
  refine (rimm_any 1 _).mono ?_
  rintro e w5 ⟨rfl, hb5⟩
  have Rw5 := Lib.hid ((RA.out _).1.all hb5)
  have Uw5 : Hid (Below w.heap.size w w5) := up (RA.out _).2 hb5
  clear RA hb5
  simp only [trV]
  go_wp2_with fail
  refine (rone_any (6, 0, 1) w5).mono ?_
  rintro e w6 ⟨v, rfl, hO, hb6⟩
  obtain ⟨A, cap, rfl, -, -⟩ := hO.ops
  have Ow6 : Hid (OwnT w6 w.heap.size (.slice A 1 cap) [(6, 0, 1)]) := hO.lift Uw5.out.size
  clear hO
  have Rw6 := Lib.hid (Rw5.out.all hb6)
  have Uw6 : Hid (Below w.heap.size w w6) := up Uw5.out hb6
  clear Rw5 Uw5 hb6
  go_wp2_with fail
  refine (rins_any ⟨#[73, 77]⟩ A 1 cap w6).mono ?_
  rintro e w7 ⟨rfl, hb7⟩
  have Rw7 := Lib.hid (Rw6.out.all hb7)
  have Uw7 : Hid (Below w.heap.size w w7) := up Uw6.out hb7
  have Ow7 := Lib.hid (Ow6.out.below hb7)
  clear Rw6 Uw6 Ow6 hb7
  obtain ⟨z0, z1, z2, z3⟩ := Rw7.out.cells
  go_wp2
  obtain ⟨wz, hwz, q1, q2, q3⟩ := ri_put Rw7.out ⟨#[73, 77]⟩ (.slice A 1 cap)
  rw [hwz]
  obtain ⟨s0, s1⟩ := q1.cells
  refine bodyPost_ret (v := .tuple #[.agg #[.string ⟨#[73, 77]⟩, (.slice A 1 cap)], .string ⟨#[]⟩, .bool true]) ?_ rfl ?_
  · simp [results, Tryz.results30, go_sem, s0, s1]
  · exact ⟨_, rfl, own_put Rw7.out Ow7.out q3, Uw7.out.trans (q2.mono (by have := HN.out; omega))⟩
theorem ed_1_6_7 (op : Nat) (hop : op < 256) (y z : Nat) (hx : op / 64 = 1) (hy : op / 8 % 8 = y) (hz : op % 8 = z) (hv : z = 6) (hu : y = 7)(w : World) : Calls Tryz.prog 30 #[.int .u8 op] w (RetE w [73, 77] [(6, 0, 2)] [] true) := by
  have HY : Hid (y < 8) := (by omega : y < 8)
  have HZ : Hid (z < 8) := (by omega : z < 8)
  have HE : Hid ((op : Int) / 64 = 1 ∧ (op : Int) / 8 % 8 = 7 ∧ (op : Int) % 8 = 6) := (by omega : (op : Int) / 64 = 1 ∧ (op : Int) / 8 % 8 = 7 ∧ (op : Int) % 8 = 6)
  clear hu
  clear hv
  clear hx hy hz
  obtain ⟨w0, hw0, rz0, bl0⟩ := ri_start w
  obtain ⟨n, hn⟩ : ∃ n, w.heap.size = n := ⟨_, rfl⟩
  have Rw0 : Hid (Rz w0 n) := by rw [← hn]; exact rz0
  have Uw0 : Hid (Below w.heap.size w w0) := bl0
  have HN := Lib.hid hn
  clear rz0 bl0
  go_enter Tryz.func30, Tryz.ntmps30
  go_upto_region 4 with fail
  obtain ⟨e1, e2, e3⟩ := HE.out
  rw [e1, e2, e3]
  clear e1 e2 e3 HE
  go_wp2_with fail
  refine (rrp_any 2 3 w0).mono ?_
  rintro e w1 ⟨rfl, hb1⟩
  have Rw1 := Lib.hid (Rw0.out.all hb1)
  have Uw1 : Hid (Below w.heap.size w w1) := up Uw0.out hb1
  clear Rw0 Uw0 hb1
  clear hw0
  simp only [trV]
  simp only [rpT, show ¬ ((2 : Int) = 3) by decide, if_false]
  go_upto_region 10 with fail
  obtain ⟨bH, hbH⟩ : ∃ b, w1.heap.size = b := ⟨_, rfl⟩
  obtain ⟨w2, hw2⟩ : ∃ v, w1.alloc (.cells #[.int .i64 3, .int .i64 2, .int .i64 0] 69) = v := ⟨_, rfl⟩
  have hb2 : Below w1.heap.size w1 w2 := by rw [← hw2]; exact up_alloc _ _
  have Hw2 : Hid (OpV w2 bH (3, 2, 0)) := by rw [← hw2, ← hbH]; exact opv_new _ _ _ _
  rw [hw2, hbH]
  clear hw2 hbH
  have Rw2 := Lib.hid (Rw1.out.all hb2)
  have Uw2 : Hid (Below w.heap.size w w2) := up Uw1.out hb2
  clear Rw1 Uw1 hb2
  obtain ⟨⟨p0, p1, p2⟩, hp⟩ : ∃ x : Tr, rpT 3 3 = x := ⟨_, rfl⟩
  have HP := Lib.hid hp
  have hrp := rrp_any 3 3 w2
  rw [hp] at hrp
  clear hp
  go_wp2_with fail
  refine hrp.mono ?_
  rintro e w3 ⟨rfl, hb3⟩
  have Rw3 := Lib.hid (Rw2.out.all hb3)
  have Uw3 : Hid (Below w.heap.size w w3) := up Uw2.out hb3
  have Hw3 := Lib.hid (Hw2.out.all hb3)
  clear Rw2 Uw2 Hw2 hb3
  simp only [trV]
  clear hrp
  go_upto_region 11 with fail
  obtain ⟨bP, hbP⟩ : ∃ b, w3.heap.size = b := ⟨_, rfl⟩
  obtain ⟨w4, hw4⟩ : ∃ v, w3.alloc (.cells #[.int .i64 p0, .int .i64 p1, .int .i64 p2] 69) = v := ⟨_, rfl⟩
  have hb4 : Below w3.heap.size w3 w4 := by rw [← hw4]; exact up_alloc _ _
  have Pw4 : Hid (OpV w4 bP (p0, p1, p2)) := by rw [← hw4, ← hbP]; exact opv_new _ _ _ _
  rw [hw4, hbP]
  clear hw4 hbP
  have Rw4 := Lib.hid (Rw3.out.all hb4)
  have Uw4 : Hid (Below w.heap.size w w4) := up Uw3.out hb4
  have Hw4 := Lib.hid (Hw3.out.all hb4)
  clear Rw3 Uw3 Hw3 hb4
  have RA : Hid (∀ o, Rz (w4.alloc o) n ∧ Below w.heap.size w (w4.alloc o)) := fun o => ⟨Rw4.out.all (up_alloc w4 o), up Uw4.out (up_alloc w4 o)⟩
  clear Rw4 Uw4 Hw4 Pw4
  go_wp2_with fail
  refine (rimm_any 2 _).mono ?_
  rintro e w5 ⟨rfl, hb5⟩
  have Rw5 := Lib.hid ((RA.out _).1.all hb5)
  have Uw5 : Hid (Below w.heap.size w w5) := up (RA.out _).2 hb5
  clear RA hb5
  simp only [trV]
  go_wp2_with fail
  refine (rone_any (6, 0, 2) w5).mono ?_
  rintro e w6 ⟨v, rfl, hO, hb6⟩
  obtain ⟨A, cap, rfl, -, -⟩ := hO.ops
  have Ow6 : Hid (OwnT w6 w.heap.size (.slice A 1 cap) [(6, 0, 2)]) := hO.lift Uw5.out.size
  clear hO
  have Rw6 := Lib.hid (Rw5.out.all hb6)
  have Uw6 : Hid (Below w.heap.size w w6) := up Uw5.out hb6
  clear Rw5 Uw5 hb6
  go_wp2_with fail
  refine (rins_any ⟨#[73, 77]⟩ A 1 cap w6).mono ?_
  rintro e w7 ⟨rfl, hb7⟩
  have Rw7 := Lib.hid (Rw6.out.all hb7)
  have Uw7 : Hid (Below w.heap.size w w7) := up Uw6.out hb7
  have Ow7 := Lib.hid (Ow6.out.below hb7)
  clear Rw6 Uw6 Ow6 hb7
  obtain ⟨z0, z1, z2, z3⟩ := Rw7.out.cells
  go_wp2
  obtain ⟨wz, hwz, q1, q2, q3⟩ := ri_put Rw7.out ⟨#[73, 77]⟩ (.slice A 1 cap)
  rw [hwz]
  obtain ⟨s0, s1⟩ := q1.cells
  refine bodyPost_ret (v := .tuple #[.agg #[.string ⟨#[73, 77]⟩, (.slice A 1 cap)], .string ⟨#[]⟩, .bool true]) ?_ rfl ?_
  · simp [results, Tryz.results30, go_sem, s0, s1]
  · exact ⟨_, rfl, own_put Rw7.out Ow7.out q3, Uw7.out.trans (q2.mono (by have := HN.out; omega))⟩
end Go.Proofs.YtipgecdfnbldnaaGreatDoor
