/-
  The reference's ed.
-/
import Derived.Test.YtipgecdfnbldnaaGreatDoorMRfKd
import Derived.Deep.DeepCutAuto
import Derived.Deep.Cut
import Derived.StillTail
import Derived.StillTailTactics
import Derived.Deep.RegionHeld3
import Derived.RegionTactic
set_option linter.all false
set_option maxRecDepth 100000
set_option maxHeartbeats 4000000
namespace Go.Proofs.YtipgecdfnbldnaaGreatDoor
open Go.RowKit Go.Shelf
attribute [local irreducible] Go.Mixed.wpMix
theorem ed_2_4_0 (op : Nat) (hop : op < 256) (y z : Nat) (hx : op / 64 = 2) (hy : op / 8 % 8 = y) (hz : op % 8 = z) (hv : y = 4 ∧ z = 0)(w : World) : Calls Tryz.prog 30 #[.int .u8 op] w (RetE w [76, 68, 73] [] [] false) := by
  have HY : Hid (y < 8) := (by omega : y < 8)
  have HZ : Hid (z < 8) := (by omega : z < 8)
  have HE : Hid ((op : Int) / 64 = 2 ∧ (op : Int) / 8 % 8 = 4 ∧ (op : Int) % 8 = 0) := (by omega : (op : Int) / 64 = 2 ∧ (op : Int) / 8 % 8 = 4 ∧ (op : Int) % 8 = 0)
  clear hv
  clear hx hy hz
  obtain ⟨w0, hw0, rz0, bl0⟩ := ri_start w
  obtain ⟨n, hn⟩ : ∃ n, w.heap.size = n := ⟨_, rfl⟩
  have Rw0 : Hid (Rz w0 n) := by rw [← hn]; exact rz0
  have Uw0 : Hid (Below w.heap.size w w0) := bl0
  have HN := Lib.hid hn
  clear rz0 bl0
  go_enter Tryz.func30, Tryz.ntmps30
  go_upto_region 4 with fail
  obtain ⟨e1, e2, e3⟩ := HE.out
  rw [e1, e2, e3]
  clear e1 e2 e3 HE
  have RA : Hid (∀ o1 o2 o3 o4 o5, Rz (((((w0.alloc o1).alloc o2).alloc o3).alloc o4).alloc o5) n ∧ Below w.heap.size w (((((w0.alloc o1).alloc o2).alloc o3).alloc o4).alloc o5)) := fun o1 o2 o3 o4 o5 => by
    have h : Below w0.heap.size w0 (((((w0.alloc o1).alloc o2).alloc o3).alloc o4).alloc o5) := ((((up_alloc w0 o1).alloc (by simp) o2).alloc (by simp; omega) o3).alloc (by simp; omega) o4).alloc (by simp; omega) o5
    exact ⟨Rw0.out.all h, up Uw0.out h⟩
  clear Rw0 Uw0
  go_wp2_with fail
  refine (rins_any ⟨#[76, 68, 73]⟩ none 0 0 _).mono ?_
  rintro e w1 ⟨rfl, hb1⟩
  have Rw1 := Lib.hid ((RA.out _ _ _ _ _).1.all hb1)
  have Uw1 : Hid (Below w.heap.size w w1) := up (RA.out _ _ _ _ _).2 hb1
  clear RA hb1 hw0
  obtain ⟨z0, z1, z2, z3⟩ := Rw1.out.cells
  go_wp2
  obtain ⟨wz, hwz, q1, q2, q3⟩ := ri_put Rw1.out ⟨#[76, 68, 73]⟩ (.slice none 0 0)
  rw [hwz]
  obtain ⟨s0, s1⟩ := q1.cells
  refine bodyPost_ret (v := .tuple #[.agg #[.string ⟨#[76, 68, 73]⟩, (.slice none 0 0)], .string ⟨#[]⟩, .bool false]) ?_ rfl ?_
  · simp [results, Tryz.results30, go_sem, s0, s1]
  · exact ⟨_, rfl, World.ownsRow_nil _ _ _ _, Uw1.out.trans (q2.mono (by have := HN.out; omega))⟩
theorem ed_2_4_1 (op : Nat) (hop : op < 256) (y z : Nat) (hx : op / 64 = 2) (hy : op / 8 % 8 = y) (hz : op % 8 = z) (hv : y = 4 ∧ z = 1)(w : World) : Calls Tryz.prog 30 #[.int .u8 op] w (RetE w [67, 80, 73] [] [] false) := by
  have HY : Hid (y < 8) := (by omega : y < 8)
  have HZ : Hid (z < 8) := (by omega : z < 8)
  have HE : Hid ((op : Int) / 64 = 2 ∧ (op : Int) / 8 % 8 = 4 ∧ (op : Int) % 8 = 1) := (by omega : (op : Int) / 64 = 2 ∧ (op : Int) / 8 % 8 = 4 ∧ (op : Int) % 8 = 1)
  clear hv
  clear hx hy hz
  obtain ⟨w0, hw0, rz0, bl0⟩ := ri_start w
  obtain ⟨n, hn⟩ : ∃ n, w.heap.size = n := ⟨_, rfl⟩
  have Rw0 : Hid (Rz w0 n) := by rw [← hn]; exact rz0
  have Uw0 : Hid (Below w.heap.size w w0) := bl0
  have HN := Lib.hid hn
  clear rz0 bl0
  go_enter Tryz.func30, Tryz.ntmps30
  go_upto_region 4 with fail
  obtain ⟨e1, e2, e3⟩ := HE.out
  rw [e1, e2, e3]
  clear e1 e2 e3 HE
  have RA : Hid (∀ o1 o2 o3 o4 o5, Rz (((((w0.alloc o1).alloc o2).alloc o3).alloc o4).alloc o5) n ∧ Below w.heap.size w (((((w0.alloc o1).alloc o2).alloc o3).alloc o4).alloc o5)) := fun o1 o2 o3 o4 o5 => by
    have h : Below w0.heap.size w0 (((((w0.alloc o1).alloc o2).alloc o3).alloc o4).alloc o5) := ((((up_alloc w0 o1).alloc (by simp) o2).alloc (by simp; omega) o3).alloc (by simp; omega) o4).alloc (by simp; omega) o5
    exact ⟨Rw0.out.all h, up Uw0.out h⟩
  clear Rw0 Uw0
  go_wp2_with fail
  refine (rins_any ⟨#[67, 80, 73]⟩ none 0 0 _).mono ?_
  rintro e w1 ⟨rfl, hb1⟩
  have Rw1 := Lib.hid ((RA.out _ _ _ _ _).1.all hb1)
  have Uw1 : Hid (Below w.heap.size w w1) := up (RA.out _ _ _ _ _).2 hb1
  clear RA hb1 hw0
  obtain ⟨z0, z1, z2, z3⟩ := Rw1.out.cells
  go_wp2
  obtain ⟨wz, hwz, q1, q2, q3⟩ := ri_put Rw1.out ⟨#[67, 80, 73]⟩ (.slice none 0 0)
  rw [hwz]
  obtain ⟨s0, s1⟩ := q1.cells
  refine bodyPost_ret (v := .tuple #[.agg #[.string ⟨#[67, 80, 73]⟩, (.slice none 0 0)], .string ⟨#[]⟩, .bool false]) ?_ rfl ?_
  · simp [results, Tryz.results30, go_sem, s0, s1]
  · exact ⟨_, rfl, World.ownsRow_nil _ _ _ _, Uw1.out.trans (q2.mono (by have := HN.out; omega))⟩
theorem ed_2_4_2 (op : Nat) (hop : op < 256) (y z : Nat) (hx : op / 64 = 2) (hy : op / 8 % 8 = y) (hz : op % 8 = z) (hv : y = 4 ∧ z = 2)(w : World) : Calls Tryz.prog 30 #[.int .u8 op] w (RetE w [73, 78, 73] [] [] false) := by
  have HY : Hid (y < 8) := (by omega : y < 8)
  have HZ : Hid (z < 8) := (by omega : z < 8)
  have HE : Hid ((op : Int) / 64 = 2 ∧ (op : Int) / 8 % 8 = 4 ∧ (op : Int) % 8 = 2) := (by omega : (op : Int) / 64 = 2 ∧ (op : Int) / 8 % 8 = 4 ∧ (op : Int) % 8 = 2)
  clear hv
  clear hx hy hz
  obtain ⟨w0, hw0, rz0, bl0⟩ := ri_start w
  obtain ⟨n, hn⟩ : ∃ n, w.heap.size = n := ⟨_, rfl⟩
  have Rw0 : Hid (Rz w0 n) := by rw [← hn]; exact rz0
  have Uw0 : Hid (Below w.heap.size w w0) := bl0
  have HN := Lib.hid hn
  clear rz0 bl0
  go_enter Tryz.func30, Tryz.ntmps30
  go_upto_region 4 with fail
  obtain ⟨e1, e2, e3⟩ := HE.out
  rw [e1, e2, e3]
  clear e1 e2 e3 HE
  have RA : Hid (∀ o1 o2 o3 o4 o5, Rz (((((w0.alloc o1).alloc o2).alloc o3).alloc o4).alloc o5) n ∧ Below w.heap.size w (((((w0.alloc o1).alloc o2).alloc o3).alloc o4).alloc o5)) := fun o1 o2 o3 o4 o5 => by
    have h : Below w0.heap.size w0 (((((w0.alloc o1).alloc o2).alloc o3).alloc o4).alloc o5) := ((((up_alloc w0 o1).alloc (by simp) o2).alloc (by simp; omega) o3).alloc (by simp; omega) o4).alloc (by simp; omega) o5
    exact ⟨Rw0.out.all h, up Uw0.out h⟩
  clear Rw0 Uw0
  go_wp2_with fail
  refine (rins_any ⟨#[73, 78, 73]⟩ none 0 0 _).mono ?_
  rintro e w1 ⟨rfl, hb1⟩
  have Rw1 := Lib.hid ((RA.out _ _ _ _ _).1.all hb1)
  have Uw1 : Hid (Below w.heap.size w w1) := up (RA.out _ _ _ _ _).2 hb1
  clear RA hb1 hw0
  obtain ⟨z0, z1, z2, z3⟩ := Rw1.out.cells
  go_wp2
  obtain ⟨wz, hwz, q1, q2, q3⟩ := ri_put Rw1.out ⟨#[73, 78, 73]⟩ (.slice none 0 0)
  rw [hwz]
  obtain ⟨s0, s1⟩ := q1.cells
  refine bodyPost_ret (v := .tuple #[.agg #[.string ⟨#[73, 78, 73]⟩, (.slice none 0 0)], .string ⟨#[]⟩, .bool false]) ?_ rfl ?_
  · simp [results, Tryz.results30, go_sem, s0, s1]
  · exact ⟨_, rfl, World.ownsRow_nil _ _ _ _, Uw1.out.trans (q2.mono (by have := HN.out; omega))⟩
theorem ed_2_4_3 (op : Nat) (hop : op < 256) (y z : Nat) (hx : op / 64 = 2) (hy : op / 8 % 8 = y) (hz : op % 8 = z) (hv : y = 4 ∧ z = 3)(w : World) : Calls Tryz.prog 30 #[.int .u8 op] w (RetE w [79, 85, 84, 73] [] [] false) := by
  have HY : Hid (y < 8) := (by omega : y < 8)
  have HZ : Hid (z < 8) := (by omega : z < 8)
  have HE : Hid ((op : Int) / 64 = 2 ∧ (op : Int) / 8 % 8 = 4 ∧ (op : Int) % 8 = 3) := (by omega : (op : Int) / 64 = 2 ∧ (op : Int) / 8 % 8 = 4 ∧ (op : Int) % 8 = 3)
  clear hv
  clear hx hy hz
  obtain ⟨w0, hw0, rz0, bl0⟩ := ri_start w
  obtain ⟨n, hn⟩ : ∃ n, w.heap.size = n := ⟨_, rfl⟩
  have Rw0 : Hid (Rz w0 n) := by rw [← hn]; exact rz0
  have Uw0 : Hid (Below w.heap.size w w0) := bl0
  have HN := Lib.hid hn
  clear rz0 bl0
  go_enter Tryz.func30, Tryz.ntmps30
  go_upto_region 4 with fail
  obtain ⟨e1, e2, e3⟩ := HE.out
  rw [e1, e2, e3]
  clear e1 e2 e3 HE
  have RA : Hid (∀ o1 o2 o3 o4 o5, Rz (((((w0.alloc o1).alloc o2).alloc o3).alloc o4).alloc o5) n ∧ Below w.heap.size w (((((w0.alloc o1).alloc o2).alloc o3).alloc o4).alloc o5)) := fun o1 o2 o3 o4 o5 => by
    have h : Below w0.heap.size w0 (((((w0.alloc o1).alloc o2).alloc o3).alloc o4).alloc o5) := ((((up_alloc w0 o1).alloc (by simp) o2).alloc (by simp; omega) o3).alloc (by simp; omega) o4).alloc (by simp; omega) o5
    exact ⟨Rw0.out.all h, up Uw0.out h⟩
  clear Rw0 Uw0
  go_wp2_with fail
  refine (rins_any ⟨#[79, 85, 84, 73]⟩ none 0 0 _).mono ?_
  rintro e w1 ⟨rfl, hb1⟩
  have Rw1 := Lib.hid ((RA.out _ _ _ _ _).1.all hb1)
  have Uw1 : Hid (Below w.heap.size w w1) := up (RA.out _ _ _ _ _).2 hb1
  clear RA hb1 hw0
  obtain ⟨z0, z1, z2, z3⟩ := Rw1.out.cells
  go_wp2
  obtain ⟨wz, hwz, q1, q2, q3⟩ := ri_put Rw1.out ⟨#[79, 85, 84, 73]⟩ (.slice none 0 0)
  rw [hwz]
  obtain ⟨s0, s1⟩ := q1.cells
  refine bodyPost_ret (v := .tuple #[.agg #[.string ⟨#[79, 85, 84, 73]⟩, (.slice none 0 0)], .string ⟨#[]⟩, .bool false]) ?_ rfl ?_
  · simp [results, Tryz.results30, go_sem, s0, s1]
  · exact ⟨_, rfl, World.ownsRow_nil _ _ _ _, Uw1.out.trans (q2.mono (by have := HN.out; omega))⟩
theorem ed_2_5_0 (op : Nat) (hop : op < 256) (y z : Nat) (hx : op / 64 = 2) (hy : op / 8 % 8 = y) (hz : op % 8 = z) (hv : y = 5 ∧ z = 0)(w : World) : Calls Tryz.prog 30 #[.int .u8 op] w (RetE w [76, 68, 68] [] [] false) := by
  have HY : Hid (y < 8) := (by omega : y < 8)
  have HZ : Hid (z < 8) := (by omega : z < 8)
  have HE : Hid ((op : Int) / 64 = 2 ∧ (op : Int) / 8 % 8 = 5 ∧ (op : Int) % 8 = 0) := (by omega : (op : Int) / 64 = 2 ∧ (op : Int) / 8 % 8 = 5 ∧ (op : Int) % 8 = 0)
  clear hv
  clear hx hy hz
  obtain ⟨w0, hw0, rz0, bl0⟩ := ri_start w
  obtain ⟨n, hn⟩ : ∃ n, w.heap.size = n := ⟨_, rfl⟩
  have Rw0 : Hid (Rz w0 n) := by rw [← hn]; exact rz0
  have Uw0 : Hid (Below w.heap.size w w0) := bl0
  have HN := Lib.hid hn
  clear rz0 bl0
  go_enter Tryz.func30, Tryz.ntmps30
  go_upto_region 4 with fail
  obtain ⟨e1, e2, e3⟩ := HE.out
  rw [e1, e2, e3]
  clear e1 e2 e3 HE
  have RA : Hid (∀ o1 o2 o3 o4 o5, Rz (((((w0.alloc o1).alloc o2).alloc o3).alloc o4).alloc o5) n ∧ Below w.heap.size w (((((w0.alloc o1).alloc o2).alloc o3).alloc o4).alloc o5)) := fun o1 o2 o3 o4 o5 => by
    have h : Below w0.heap.size w0 (((((w0.alloc o1).alloc o2).alloc o3).alloc o4).alloc o5) := ((((up_alloc w0 o1).alloc (by simp) o2).alloc (by simp; omega) o3).alloc (by simp; omega) o4).alloc (by simp; omega) o5
    exact ⟨Rw0.out.all h, up Uw0.out h⟩
  clear Rw0 Uw0
  go_wp2_with fail
  refine (rins_any ⟨#[76, 68, 68]⟩ none 0 0 _).mono ?_
  rintro e w1 ⟨rfl, hb1⟩
  have Rw1 := Lib.hid ((RA.out _ _ _ _ _).1.all hb1)
  have Uw1 : Hid (Below w.heap.size w w1) := up (RA.out _ _ _ _ _).2 hb1
  clear RA hb1 hw0
  obtain ⟨z0, z1, z2, z3⟩ := Rw1.out.cells
  go_wp2
  obtain ⟨wz, hwz, q1, q2, q3⟩ := ri_put Rw1.out ⟨#[76, 68, 68]⟩ (.slice none 0 0)
  rw [hwz]
  obtain ⟨s0, s1⟩ := q1.cells
  refine bodyPost_ret (v := .tuple #[.agg #[.string ⟨#[76, 68, 68]⟩, (.slice none 0 0)], .string ⟨#[]⟩, .bool false]) ?_ rfl ?_
  · simp [results, Tryz.results30, go_sem, s0, s1]
  · exact ⟨_, rfl, World.ownsRow_nil _ _ _ _, Uw1.out.trans (q2.mono (by have := HN.out; omega))⟩
theorem ed_2_5_1 (op : Nat) (hop : op < 256) (y z : Nat) (hx : op / 64 = 2) (hy : op / 8 % 8 = y) (hz : op % 8 = z) (hv : y = 5 ∧ z = 1)(w : World) : Calls Tryz.prog 30 #[.int .u8 op] w (RetE w [67, 80, 68] [] [] false) := by
  have HY : Hid (y < 8) := (by omega : y < 8)
  have HZ : Hid (z < 8) := (by omega : z < 8)
  have HE : Hid ((op : Int) / 64 = 2 ∧ (op : Int) / 8 % 8 = 5 ∧ (op : Int) % 8 = 1) := (by omega : (op : Int) / 64 = 2 ∧ (op : Int) / 8 % 8 = 5 ∧ (op : Int) % 8 = 1)
  clear hv
  clear hx hy hz
  obtain ⟨w0, hw0, rz0, bl0⟩ := ri_start w
  obtain ⟨n, hn⟩ : ∃ n, w.heap.size = n := ⟨_, rfl⟩
  have Rw0 : Hid (Rz w0 n) := by rw [← hn]; exact rz0
  have Uw0 : Hid (Below w.heap.size w w0) := bl0
  have HN := Lib.hid hn
  clear rz0 bl0
  go_enter Tryz.func30, Tryz.ntmps30
  go_upto_region 4 with fail
  obtain ⟨e1, e2, e3⟩ := HE.out
  rw [e1, e2, e3]
  clear e1 e2 e3 HE
  have RA : Hid (∀ o1 o2 o3 o4 o5, Rz (((((w0.alloc o1).alloc o2).alloc o3).alloc o4).alloc o5) n ∧ Below w.heap.size w (((((w0.alloc o1).alloc o2).alloc o3).alloc o4).alloc o5)) := fun o1 o2 o3 o4 o5 => by
    have h : Below w0.heap.size w0 (((((w0.alloc o1).alloc o2).alloc o3).alloc o4).alloc o5) := ((((up_alloc w0 o1).alloc (by simp) o2).alloc (by simp; omega) o3).alloc (by simp; omega) o4).alloc (by simp; omega) o5
    exact ⟨Rw0.out.all h, up Uw0.out h⟩
  clear Rw0 Uw0
  go_wp2_with fail
  refine (rins_any ⟨#[67, 80, 68]⟩ none 0 0 _).mono ?_
  rintro e w1 ⟨rfl, hb1⟩
  have Rw1 := Lib.hid ((RA.out _ _ _ _ _).1.all hb1)
  have Uw1 : Hid (Below w.heap.size w w1) := up (RA.out _ _ _ _ _).2 hb1
  clear RA hb1 hw0
  obtain ⟨z0, z1, z2, z3⟩ := Rw1.out.cells
  go_wp2
  obtain ⟨wz, hwz, q1, q2, q3⟩ := ri_put Rw1.out ⟨#[67, 80, 68]⟩ (.slice none 0 0)
  rw [hwz]
  obtain ⟨s0, s1⟩ := q1.cells
  refine bodyPost_ret (v := .tuple #[.agg #[.string ⟨#[67, 80, 68]⟩, (.slice none 0 0)], .string ⟨#[]⟩, .bool false]) ?_ rfl ?_
  · simp [results, Tryz.results30, go_sem, s0, s1]
  · exact ⟨_, rfl, World.ownsRow_nil _ _ _ _, Uw1.out.trans (q2.mono (by have := HN.out; omega))⟩
theorem ed_2_5_2 (op : Nat) (hop : op < 256) (y z : Nat) (hx : op / 64 = 2) (hy : op / 8 % 8 = y) (hz : op % 8 = z) (hv : y = 5 ∧ z = 2)(w : World) : Calls Tryz.prog 30 #[.int .u8 op] w (RetE w [73, 78, 68] [] [] false) := by
  have HY : Hid (y < 8) := (by omega : y < 8)
  have HZ : Hid (z < 8) := (by omega : z < 8)
  have HE : Hid ((op : Int) / 64 = 2 ∧ (op : Int) / 8 % 8 = 5 ∧ (op : Int) % 8 = 2) := (by omega : (op : Int) / 64 = 2 ∧ (op : Int) / 8 % 8 = 5 ∧ (op : Int) % 8 = 2)
  clear hv
  clear hx hy hz
  obtain ⟨w0, hw0, rz0, bl0⟩ := ri_start w
  obtain ⟨n, hn⟩ : ∃ n, w.heap.size = n := ⟨_, rfl⟩
  have Rw0 : Hid (Rz w0 n) := by rw [← hn]; exact rz0
  have Uw0 : Hid (Below w.heap.size w w0) := bl0
  have HN := Lib.hid hn
  clear rz0 bl0
  go_enter Tryz.func30, Tryz.ntmps30
  go_upto_region 4 with fail
  obtain ⟨e1, e2, e3⟩ := HE.out
  rw [e1, e2, e3]
  clear e1 e2 e3 HE
  have RA : Hid (∀ o1 o2 o3 o4 o5, Rz (((((w0.alloc o1).alloc o2).alloc o3).alloc o4).alloc o5) n ∧ Below w.heap.size w (((((w0.alloc o1).alloc o2).alloc o3).alloc o4).alloc o5)) := fun o1 o2 o3 o4 o5 => by
    have h : Below w0.heap.size w0 (((((w0.alloc o1).alloc o2).alloc o3).alloc o4).alloc o5) := ((((up_alloc w0 o1).alloc (by simp) o2).alloc (by simp; omega) o3).alloc (by simp; omega) o4).alloc (by simp; omega) o5
    exact ⟨Rw0.out.all h, up Uw0.out h⟩
  clear Rw0 Uw0
  go_wp2_with fail
  refine (rins_any ⟨#[73, 78, 68]⟩ none 0 0 _).mono ?_
  rintro e w1 ⟨rfl, hb1⟩
  have Rw1 := Lib.hid ((RA.out _ _ _ _ _).1.all hb1)
  have Uw1 : Hid (Below w.heap.size w w1) := up (RA.out _ _ _ _ _).2 hb1
  clear RA hb1 hw0
  obtain ⟨z0, z1, z2, z3⟩ := Rw1.out.cells
  go_wp2
  obtain ⟨wz, hwz, q1, q2, q3⟩ := ri_put Rw1.out ⟨#[73, 78, 68]⟩ (.slice none 0 0)
  rw [hwz]
  obtain ⟨s0, s1⟩ := q1.cells
  refine bodyPost_ret (v := .tuple #[.agg #[.string ⟨#[73, 78, 68]⟩, (.slice none 0 0)], .string ⟨#[]⟩, .bool false]) ?_ rfl ?_
  · simp [results, Tryz.results30, go_sem, s0, s1]
  · exact ⟨_, rfl, World.ownsRow_nil _ _ _ _, Uw1.out.trans (q2.mono (by have := HN.out; omega))⟩
theorem ed_2_5_3 (op : Nat) (hop : op < 256) (y z : Nat) (hx : op / 64 = 2) (hy : op / 8 % 8 = y) (hz : op % 8 = z) (hv : y = 5 ∧ z = 3)(w : World) : Calls Tryz.prog 30 #[.int .u8 op] w (RetE w [79, 85, 84, 68] [] [] false) := by
  have HY : Hid (y < 8) := (by omega : y < 8)
  have HZ : Hid (z < 8) := (by omega : z < 8)
  have HE : Hid ((op : Int) / 64 = 2 ∧ (op : Int) / 8 % 8 = 5 ∧ (op : Int) % 8 = 3) := (by omega : (op : Int) / 64 = 2 ∧ (op : Int) / 8 % 8 = 5 ∧ (op : Int) % 8 = 3)
  clear hv
  clear hx hy hz
  obtain ⟨w0, hw0, rz0, bl0⟩ := ri_start w
  obtain ⟨n, hn⟩ : ∃ n, w.heap.size = n := ⟨_, rfl⟩
  have Rw0 : Hid (Rz w0 n) := by rw [← hn]; exact rz0
  have Uw0 : Hid (Below w.heap.size w w0) := bl0
  have HN := Lib.hid hn
  clear rz0 bl0
  go_enter Tryz.func30, Tryz.ntmps30
  go_upto_region 4 with fail
  obtain ⟨e1, e2, e3⟩ := HE.out
  rw [e1, e2, e3]
  clear e1 e2 e3 HE
  have RA : Hid (∀ o1 o2 o3 o4 o5, Rz (((((w0.alloc o1).alloc o2).alloc o3).alloc o4).alloc o5) n ∧ Below w.heap.size w (((((w0.alloc o1).alloc o2).alloc o3).alloc o4).alloc o5)) := fun o1 o2 o3 o4 o5 => by
    have h : Below w0.heap.size w0 (((((w0.alloc o1).alloc o2).alloc o3).alloc o4).alloc o5) := ((((up_alloc w0 o1).alloc (by simp) o2).alloc (by simp; omega) o3).alloc (by simp; omega) o4).alloc (by simp; omega) o5
    exact ⟨Rw0.out.all h, up Uw0.out h⟩
  clear Rw0 Uw0
  go_wp2_with fail
  refine (rins_any ⟨#[79, 85, 84, 68]⟩ none 0 0 _).mono ?_
  rintro e w1 ⟨rfl, hb1⟩
  have Rw1 := Lib.hid ((RA.out _ _ _ _ _).1.all hb1)
  have Uw1 : Hid (Below w.heap.size w w1) := up (RA.out _ _ _ _ _).2 hb1
  clear RA hb1 hw0
  obtain ⟨z0, z1, z2, z3⟩ := Rw1.out.cells
  go_wp2
  obtain ⟨wz, hwz, q1, q2, q3⟩ := ri_put Rw1.out ⟨#[79, 85, 84, 68]⟩ (.slice none 0 0)
  rw [hwz]
  obtain ⟨s0, s1⟩ := q1.cells
  refine bodyPost_ret (v := .tuple #[.agg #[.string ⟨#[79, 85, 84, 68]⟩, (.slice none 0 0)], .string ⟨#[]⟩, .bool false]) ?_ rfl ?_
  · simp [results, Tryz.results30, go_sem, s0, s1]
  · exact ⟨_, rfl, World.ownsRow_nil _ _ _ _, Uw1.out.trans (q2.mono (by have := HN.out; omega))⟩
theorem ed_2_6_0 (op : Nat) (hop : op < 256) (y z : Nat) (hx : op / 64 = 2) (hy : op / 8 % 8 = y) (hz : op % 8 = z) (hv : y = 6 ∧ z = 0)(w : World) : Calls Tryz.prog 30 #[.int .u8 op] w (RetE w [76, 68, 73, 82] [] [] false) := by
  have HY : Hid (y < 8) := (by omega : y < 8)
  have HZ : Hid (z < 8) := (by omega : z < 8)
  have HE : Hid ((op : Int) / 64 = 2 ∧ (op : Int) / 8 % 8 = 6 ∧ (op : Int) % 8 = 0) := (by omega : (op : Int) / 64 = 2 ∧ (op : Int) / 8 % 8 = 6 ∧ (op : Int) % 8 = 0)
  clear hv
  clear hx hy hz
  obtain ⟨w0, hw0, rz0, bl0⟩ := ri_start w
  obtain ⟨n, hn⟩ : ∃ n, w.heap.size = n := ⟨_, rfl⟩
  have Rw0 : Hid (Rz w0 n) := by rw [← hn]; exact rz0
  have Uw0 : Hid (Below w.heap.size w w0) := bl0
  have HN := Lib.hid hn
  clear rz0 bl0
  go_enter Tryz.func30, Tryz.ntmps30
  go_upto_region 4 with fail
  obtain ⟨e1, e2, e3⟩ := HE.out
  rw [e1, e2, e3]
  clear e1 e2 e3 HE
  have RA : Hid (∀ o1 o2 o3 o4 o5, Rz (((((w0.alloc o1).alloc o2).alloc o3).alloc o4).alloc o5) n ∧ Below w.heap.size w (((((w0.alloc o1).alloc o2).alloc o3).alloc o4).alloc o5)) := fun o1 o2 o3 o4 o5 => by
    have h : Below w0.heap.size w0 (((((w0.alloc o1).alloc o2).alloc o3).alloc o4).alloc o5) := ((((up_alloc w0 o1).alloc (by simp) o2).alloc (by simp; omega) o3).alloc (by simp; omega) o4).alloc (by simp; omega) o5
    exact ⟨Rw0.out.all h, up Uw0.out h⟩
  clear Rw0 Uw0
  go_wp2_with fail
  refine (rins_any ⟨#[76, 68, 73, 82]⟩ none 0 0 _).mono ?_
  rintro e w1 ⟨rfl, hb1⟩
  have Rw1 := Lib.hid ((RA.out _ _ _ _ _).1.all hb1)
  have Uw1 : Hid (Below w.heap.size w w1) := up (RA.out _ _ _ _ _).2 hb1
  clear RA hb1 hw0
  obtain ⟨z0, z1, z2, z3⟩ := Rw1.out.cells
  go_wp2
  obtain ⟨wz, hwz, q1, q2, q3⟩ := ri_put Rw1.out ⟨#[76, 68, 73, 82]⟩ (.slice none 0 0)
  rw [hwz]
  obtain ⟨s0, s1⟩ := q1.cells
  refine bodyPost_ret (v := .tuple #[.agg #[.string ⟨#[76, 68, 73, 82]⟩, (.slice none 0 0)], .string ⟨#[]⟩, .bool false]) ?_ rfl ?_
  · simp [results, Tryz.results30, go_sem, s0, s1]
  · exact ⟨_, rfl, World.ownsRow_nil _ _ _ _, Uw1.out.trans (q2.mono (by have := HN.out; omega))⟩
theorem ed_2_6_1 (op : Nat) (hop : op < 256) (y z : Nat) (hx : op / 64 = 2) (hy : op / 8 % 8 = y) (hz : op % 8 = z) (hv : y = 6 ∧ z = 1)(w : World) : Calls Tryz.prog 30 #[.int .u8 op] w (RetE w [67, 80, 73, 82] [] [] false) := by
  have HY : Hid (y < 8) := (by omega : y < 8)
  have HZ : Hid (z < 8) := (by omega : z < 8)
  have HE : Hid ((op : Int) / 64 = 2 ∧ (op : Int) / 8 % 8 = 6 ∧ (op : Int) % 8 = 1) := (by omega : (op : Int) / 64 = 2 ∧ (op : Int) / 8 % 8 = 6 ∧ (op : Int) % 8 = 1)
  clear hv
  clear hx hy hz
  obtain ⟨w0, hw0, rz0, bl0⟩ := ri_start w
  obtain ⟨n, hn⟩ : ∃ n, w.heap.size = n := ⟨_, rfl⟩
  have Rw0 : Hid (Rz w0 n) := by rw [← hn]; exact rz0
  have Uw0 : Hid (Below w.heap.size w w0) := bl0
  have HN := Lib.hid hn
  clear rz0 bl0
  go_enter Tryz.func30, Tryz.ntmps30
  go_upto_region 4 with fail
  obtain ⟨e1, e2, e3⟩ := HE.out
  rw [e1, e2, e3]
  clear e1 e2 e3 HE
  have RA : Hid (∀ o1 o2 o3 o4 o5, Rz (((((w0.alloc o1).alloc o2).alloc o3).alloc o4).alloc o5) n ∧ Below w.heap.size w (((((w0.alloc o1).alloc o2).alloc o3).alloc o4).alloc o5)) := fun o1 o2 o3 o4 o5 => by
    have h : Below w0.heap.size w0 (((((w0.alloc o1).alloc o2).alloc o3).alloc o4).alloc o5) := ((((up_alloc w0 o1).alloc (by simp) o2).alloc (by simp; omega) o3).alloc (by simp; omega) o4).alloc (by simp; omega) o5
    exact ⟨Rw0.out.all h, up Uw0.out h⟩
  clear Rw0 Uw0
  go_wp2_with fail
  refine (rins_any ⟨#[67, 80, 73, 82]⟩ none 0 0 _).mono ?_
  rintro e w1 ⟨rfl, hb1⟩
  have Rw1 := Lib.hid ((RA.out _ _ _ _ _).1.all hb1)
  have Uw1 : Hid (Below w.heap.size w w1) := up (RA.out _ _ _ _ _).2 hb1
  clear RA hb1 hw0
  obtain ⟨z0, z1, z2, z3⟩ := Rw1.out.cells
  go_wp2
  obtain ⟨wz, hwz, q1, q2, q3⟩ := ri_put Rw1.out ⟨#[67, 80, 73, 82]⟩ (.slice none 0 0)
  rw [hwz]
  obtain ⟨s0, s1⟩ := q1.cells
  refine bodyPost_ret (v := .tuple #[.agg #[.string ⟨#[67, 80, 73, 82]⟩, (.slice none 0 0)], .string ⟨#[]⟩, .bool false]) ?_ rfl ?_
  · simp [results, Tryz.results30, go_sem, s0, s1]
  · exact ⟨_, rfl, World.ownsRow_nil _ _ _ _, Uw1.out.trans (q2.mono (by have := HN.out; omega))⟩
theorem ed_2_6_2 (op : Nat) (hop : op < 256) (y z : Nat) (hx : op / 64 = 2) (hy : op / 8 % 8 = y) (hz : op % 8 = z) (hv : y = 6 ∧ z = 2)(w : World) : Calls Tryz.prog 30 #[.int .u8 op] w (RetE w [73, 78, 73, 82] [] [] false) := by
  have HY : Hid (y < 8) := (by omega : y < 8)
  have HZ : Hid (z < 8) := (by omega : z < 8)
  have HE : Hid ((op : Int) / 64 = 2 ∧ (op : Int) / 8 % 8 = 6 ∧ (op : Int) % 8 = 2) := (by omega : (op : Int) / 64 = 2 ∧ (op : Int) / 8 % 8 = 6 ∧ (op : Int) % 8 = 2)
  clear hv
  clear hx hy hz
  obtain ⟨w0, hw0, rz0, bl0⟩ := ri_start w
  obtain ⟨n, hn⟩ : ∃ n, w.heap.size = n := ⟨_, rfl⟩
  have Rw0 : Hid (Rz w0 n) := by rw [← hn]; exact rz0
  have Uw0 : Hid (Below w.heap.size w w0) := bl0
  have HN := Lib.hid hn
  clear rz0 bl0
  go_enter Tryz.func30, Tryz.ntmps30
  go_upto_region 4 with fail
  obtain ⟨e1, e2, e3⟩ := HE.out
  rw [e1, e2, e3]
  clear e1 e2 e3 HE
  have RA : Hid (∀ o1 o2 o3 o4 o5, Rz (((((w0.alloc o1).alloc o2).alloc o3).alloc o4).alloc o5) n ∧ Below w.heap.size w (((((w0.alloc o1).alloc o2).alloc o3).alloc o4).alloc o5)) := fun o1 o2 o3 o4 o5 => by
    have h : Below w0.heap.size w0 (((((w0.alloc o1).alloc o2).alloc o3).alloc o4).alloc o5) := ((((up_alloc w0 o1).alloc (by simp) o2).alloc (by simp; omega) o3).alloc (by simp; omega) o4).alloc (by simp; omega) o5
    exact ⟨Rw0.out.all h, up Uw0.out h⟩
  clear Rw0 Uw0
  go_wp2_with fail
  refine (rins_any ⟨#[73, 78, 73, 82]⟩ none 0 0 _).mono ?_
  rintro e w1 ⟨rfl, hb1⟩
  have Rw1 := Lib.hid ((RA.out _ _ _ _ _).1.all hb1)
  have Uw1 : Hid (Below w.heap.size w w1) := up (RA.out _ _ _ _ _).2 hb1
  clear RA hb1 hw0
  obtain ⟨z0, z1, z2, z3⟩ := Rw1.out.cells
  go_wp2
  obtain ⟨wz, hwz, q1, q2, q3⟩ := ri_put Rw1.out ⟨#[73, 78, 73, 82]⟩ (.slice none 0 0)
  rw [hwz]
  obtain ⟨s0, s1⟩ := q1.cells
  refine bodyPost_ret (v := .tuple #[.agg #[.string ⟨#[73, 78, 73, 82]⟩, (.slice none 0 0)], .string ⟨#[]⟩, .bool false]) ?_ rfl ?_
  · simp [results, Tryz.results30, go_sem, s0, s1]
  · exact ⟨_, rfl, World.ownsRow_nil _ _ _ _, Uw1.out.trans (q2.mono (by have := HN.out; omega))⟩
theorem ed_2_6_3 (op : Nat) (hop : op < 256) (y z : Nat) (hx : op / 64 = 2) (hy : op / 8 % 8 = y) (hz : op % 8 = z) (hv : y = 6 ∧ z = 3)(w : World) : Calls Tryz.prog 30 #[.int .u8 op] w (RetE w [79, 84, 73, 82] [] [] false) := by
  have HY : Hid (y < 8) := (by omega : y < 8)
  have HZ : Hid (z < 8) := (by omega : z < 8)
  have HE : Hid ((op : Int) / 64 = 2 ∧ (op : Int) / 8 % 8 = 6 ∧ (op : Int) % 8 = 3) := (by omega : (op : Int) / 64 = 2 ∧ (op : Int) / 8 % 8 = 6 ∧ (op : Int) % 8 = 3)
  clear hv
  clear hx hy hz
  obtain ⟨w0, hw0, rz0, bl0⟩ := ri_start w
  obtain ⟨n, hn⟩ : ∃ n, w.heap.size = n := ⟨_, rfl⟩
  have Rw0 : Hid (Rz w0 n) := by rw [← hn]; exact rz0
  have Uw0 : Hid (Below w.heap.size w w0) := bl0
  have HN := Lib.hid hn
  clear rz0 bl0
  go_enter Tryz.func30, Tryz.ntmps30
  go_upto_region 4 with fail
  obtain ⟨e1, e2, e3⟩ := HE.out
  rw [e1, e2, e3]
  clear e1 e2 e3 HE
  have RA : Hid (∀ o1 o2 o3 o4 o5, Rz (((((w0.alloc o1).alloc o2).alloc o3).alloc o4).alloc o5) n ∧ Below w.heap.size w (((((w0.alloc o1).alloc o2).alloc o3).alloc o4).alloc o5)) := fun o1 o2 o3 o4 o5 => by
    have h : Below w0.heap.size w0 (((((w0.alloc o1).alloc o2).alloc o3).alloc o4).alloc o5) := ((((up_alloc w0 o1).alloc (by simp) o2).alloc (by simp; omega) o3).alloc (by simp; omega) o4).alloc (by simp; omega) o5
    exact ⟨Rw0.out.all h, up Uw0.out h⟩
  clear Rw0 Uw0
  go_wp2_with fail
  refine (rins_any ⟨#[79, 84, 73, 82]⟩ none 0 0 _).mono ?_
  rintro e w1 ⟨rfl, hb1⟩
  have Rw1 := Lib.hid ((RA.out _ _ _ _ _).1.all hb1)
  have Uw1 : Hid (Below w.heap.size w w1) := up (RA.out _ _ _ _ _).2 hb1
  clear RA hb1 hw0
  obtain ⟨z0, z1, z2, z3⟩ := Rw1.out.cells
  go_wp2
  obtain ⟨wz, hwz, q1, q2, q3⟩ := ri_put Rw1.out ⟨#[79, 84, 73, 82]⟩ (.slice none 0 0)
  rw [hwz]
  obtain ⟨s0, s1⟩ := q1.cells
  refine bodyPost_ret (v := .tuple #[.agg #[.string ⟨#[79, 84, 73, 82]⟩, (.slice none 0 0)], .string ⟨#[]⟩, .bool false]) ?_ rfl ?_
  · simp [results, Tryz.results30, go_sem, s0, s1]
  · exact ⟨_, rfl, World.ownsRow_nil _ _ _ _, Uw1.out.trans (q2.mono (by have := HN.out; omega))⟩
theorem ed_2_7_0 (op : Nat) (hop : op < 256) (y z : Nat) (hx : op / 64 = 2) (hy : op / 8 % 8 = y) (hz : op % 8 = z) (hv : y = 7 ∧ z = 0)(w : World) : Calls Tryz.prog 30 #[.int .u8 op] w (RetE w [76, 68, 68, 82] [] [] false) := by
  have HY : Hid (y < 8) := (by omega : y < 8)
  have HZ : Hid (z < 8) := (by omega : z < 8)
  have HE : Hid ((op : Int) / 64 = 2 ∧ (op : Int) / 8 % 8 = 7 ∧ (op : Int) % 8 = 0) := (by omega : (op : Int) / 64 = 2 ∧ (op : Int) / 8 % 8 = 7 ∧ (op : Int) % 8 = 0)
  clear hv
  clear hx hy hz
  obtain ⟨w0, hw0, rz0, bl0⟩ := ri_start w
  obtain ⟨n, hn⟩ : ∃ n, w.heap.size = n := ⟨_, rfl⟩
  have Rw0 : Hid (Rz w0 n) := by rw [← hn]; exact rz0
  have Uw0 : Hid (Below w.heap.size w w0) := bl0
  have HN := Lib.hid hn
  clear rz0 bl0
  go_enter Tryz.func30, Tryz.ntmps30
  go_upto_region 4 with fail
  obtain ⟨e1, e2, e3⟩ := HE.out
  rw [e1, e2, e3]
  clear e1 e2 e3 HE
  have RA : Hid (∀ o1 o2 o3 o4 o5, Rz (((((w0.alloc o1).alloc o2).alloc o3).alloc o4).alloc o5) n ∧ Below w.heap.size w (((((w0.alloc o1).alloc o2).alloc o3).alloc o4).alloc o5)) := fun o1 o2 o3 o4 o5 => by
    have h : Below w0.heap.size w0 (((((w0.alloc o1).alloc o2).alloc o3).alloc o4).alloc o5) := ((((up_alloc w0 o1).alloc (by simp) o2).alloc (by simp; omega) o3).alloc (by simp; omega) o4).alloc (by simp; omega) o5
    exact ⟨Rw0.out.all h, up Uw0.out h⟩
  clear Rw0 Uw0
  go_wp2_with fail
  refine (rins_any ⟨#[76, 68, 68, 82]⟩ none 0 0 _).mono ?_
  rintro e w1 ⟨rfl, hb1⟩
  have Rw1 := Lib.hid ((RA.out _ _ _ _ _).1.all hb1)
  have Uw1 : Hid (Below w.heap.size w w1) := up (RA.out _ _ _ _ _).2 hb1
  clear RA hb1 hw0
  obtain ⟨z0, z1, z2, z3⟩ := Rw1.out.cells
  go_wp2
  obtain ⟨wz, hwz, q1, q2, q3⟩ := ri_put Rw1.out ⟨#[76, 68, 68, 82]⟩ (.slice none 0 0)
  rw [hwz]
  obtain ⟨s0, s1⟩ := q1.cells
  refine bodyPost_ret (v := .tuple #[.agg #[.string ⟨#[76, 68, 68, 82]⟩, (.slice none 0 0)], .string ⟨#[]⟩, .bool false]) ?_ rfl ?_
  · simp [results, Tryz.results30, go_sem, s0, s1]
  · exact ⟨_, rfl, World.ownsRow_nil _ _ _ _, Uw1.out.trans (q2.mono (by have := HN.out; omega))⟩
theorem ed_2_7_1 (op : Nat) (hop : op < 256) (y z : Nat) (hx : op / 64 = 2) (hy : op / 8 % 8 = y) (hz : op % 8 = z) (hv : y = 7 ∧ z = 1)(w : World) : Calls Tryz.prog 30 #[.int .u8 op] w (RetE w [67, 80, 68, 82] [] [] false) := by
  have HY : Hid (y < 8) := (by omega : y < 8)
  have HZ : Hid (z < 8) := (by omega : z < 8)
  have HE : Hid ((op : Int) / 64 = 2 ∧ (op : Int) / 8 % 8 = 7 ∧ (op : Int) % 8 = 1) := (by omega : (op : Int) / 64 = 2 ∧ (op : Int) / 8 % 8 = 7 ∧ (op : Int) % 8 = 1)
  clear hv
  clear hx hy hz
  obtain ⟨w0, hw0, rz0, bl0⟩ := ri_start w
  obtain ⟨n, hn⟩ : ∃ n, w.heap.size = n := ⟨_, rfl⟩
  have Rw0 : Hid (Rz w0 n) := by rw [← hn]; exact rz0
  have Uw0 : Hid (Below w.heap.size w w0) := bl0
  have HN := Lib.hid hn
  clear rz0 bl0
  go_enter Tryz.func30, Tryz.ntmps30
  go_upto_region 4 with fail
  obtain ⟨e1, e2, e3⟩ := HE.out
  rw [e1, e2, e3]
  clear e1 e2 e3 HE
  have RA : Hid (∀ o1 o2 o3 o4 o5, Rz (((((w0.alloc o1).alloc o2).alloc o3).alloc o4).alloc o5) n ∧ Below w.heap.size w (((((w0.alloc o1).alloc o2).alloc o3).alloc o4).alloc o5)) := fun o1 o2 o3 o4 o5 => by
    have h : Below w0.heap.size w0 (((((w0.alloc o1).alloc o2).alloc o3).alloc o4).alloc o5) := ((((up_alloc w0 o1).alloc (by simp) o2).alloc (by simp; omega) o3).alloc (by simp; omega) o4).alloc (by simp; omega) o5
    exact ⟨Rw0.out.all h, up Uw0.out h⟩
  clear Rw0 Uw0
  go_wp2_with fail
  refine (rins_any ⟨#[67, 80, 68, 82]⟩ none 0 0 _).mono ?_
  rintro e w1 ⟨rfl, hb1⟩
  have Rw1 := Lib.hid ((RA.out _ _ _ _ _).1.all hb1)
  have Uw1 : Hid (Below w.heap.size w w1) := up (RA.out _ _ _ _ _).2 hb1
  clear RA hb1 hw0
  obtain ⟨z0, z1, z2, z3⟩ := Rw1.out.cells
  go_wp2
  obtain ⟨wz, hwz, q1, q2, q3⟩ := ri_put Rw1.out ⟨#[67, 80, 68, 82]⟩ (.slice none 0 0)
  rw [hwz]
  obtain ⟨s0, s1⟩ := q1.cells
  refine bodyPost_ret (v := .tuple #[.agg #[.string ⟨#[67, 80, 68, 82]⟩, (.slice none 0 0)], .string ⟨#[]⟩, .bool false]) ?_ rfl ?_
  · simp [results, Tryz.results30, go_sem, s0, s1]
  · exact ⟨_, rfl, World.ownsRow_nil _ _ _ _, Uw1.out.trans (q2.mono (by have := HN.out; omega))⟩
theorem ed_2_7_2 (op : Nat) (hop : op < 256) (y z : Nat) (hx : op / 64 = 2) (hy : op / 8 % 8 = y) (hz : op % 8 = z) (hv : y = 7 ∧ z = 2)(w : World) : Calls Tryz.prog 30 #[.int .u8 op] w (RetE w [73, 78, 68, 82] [] [] false) := by
  have HY : Hid (y < 8) := (by omega : y < 8)
  have HZ : Hid (z < 8) := (by omega : z < 8)
  have HE : Hid ((op : Int) / 64 = 2 ∧ (op : Int) / 8 % 8 = 7 ∧ (op : Int) % 8 = 2) := (by omega : (op : Int) / 64 = 2 ∧ (op : Int) / 8 % 8 = 7 ∧ (op : Int) % 8 = 2)
  clear hv
  clear hx hy hz
  obtain ⟨w0, hw0, rz0, bl0⟩ := ri_start w
  obtain ⟨n, hn⟩ : ∃ n, w.heap.size = n := ⟨_, rfl⟩
  have Rw0 : Hid (Rz w0 n) := by rw [← hn]; exact rz0
  have Uw0 : Hid (Below w.heap.size w w0) := bl0
  have HN := Lib.hid hn
  clear rz0 bl0
  go_enter Tryz.func30, Tryz.ntmps30
  go_upto_region 4 with fail
  obtain ⟨e1, e2, e3⟩ := HE.out
  rw [e1, e2, e3]
  clear e1 e2 e3 HE
  have RA : Hid (∀ o1 o2 o3 o4 o5, Rz (((((w0.alloc o1).alloc o2).alloc o3).alloc o4).alloc o5) n ∧ Below w.heap.size w (((((w0.alloc o1).alloc o2).alloc o3).alloc o4).alloc o5)) := fun o1 o2 o3 o4 o5 => by
    have h : Below w0.heap.size w0 (((((w0.alloc o1).alloc o2).alloc o3).alloc o4).alloc o5) := ((((up_alloc w0 o1).alloc (by simp) o2).alloc (by simp; omega) o3).alloc (by simp; omega) o4).alloc (by simp; omega) o5
    exact ⟨Rw0.out.all h, up Uw0.out h⟩
  clear Rw0 Uw0
  go_wp2_with fail
  refine (rins_any ⟨#[73, 78, 68, 82]⟩ none 0 0 _).mono ?_
  rintro e w1 ⟨rfl, hb1⟩
  have Rw1 := Lib.hid ((RA.out _ _ _ _ _).1.all hb1)
  have Uw1 : Hid (Below w.heap.size w w1) := up (RA.out _ _ _ _ _).2 hb1
  clear RA hb1 hw0
  obtain ⟨z0, z1, z2, z3⟩ := Rw1.out.cells
  go_wp2
  obtain ⟨wz, hwz, q1, q2, q3⟩ := ri_put Rw1.out ⟨#[73, 78, 68, 82]⟩ (.slice none 0 0)
  rw [hwz]
  obtain ⟨s0, s1⟩ := q1.cells
  refine bodyPost_ret (v := .tuple #[.agg #[.string ⟨#[73, 78, 68, 82]⟩, (.slice none 0 0)], .string ⟨#[]⟩, .bool false]) ?_ rfl ?_
  · simp [results, Tryz.results30, go_sem, s0, s1]
  · exact ⟨_, rfl, World.ownsRow_nil _ _ _ _, Uw1.out.trans (q2.mono (by have := HN.out; omega))⟩
theorem ed_2_7_3 (op : Nat) (hop : op < 256) (y z : Nat) (hx : op / 64 = 2) (hy : op / 8 % 8 = y) (hz : op % 8 = z) (hv : y = 7 ∧ z = 3)(w : World) : Calls Tryz.prog 30 #[.int .u8 op] w (RetE w [79, 84, 68, 82] [] [] false) := by
  have HY : Hid (y < 8) := (by omega : y < 8)
  have HZ : Hid (z < 8) := (by omega : z < 8)
  have HE : Hid ((op : Int) / 64 = 2 ∧ (op : Int) / 8 % 8 = 7 ∧ (op : Int) % 8 = 3) := (by omega : (op : Int) / 64 = 2 ∧ (op : Int) / 8 % 8 = 7 ∧ (op : Int) % 8 = 3)
  clear hv
  clear hx hy hz
  obtain ⟨w0, hw0, rz0, bl0⟩ := ri_start w
  obtain ⟨n, hn⟩ : ∃ n, w.heap.size = n := ⟨_, rfl⟩
  have Rw0 : Hid (Rz w0 n) := by rw [← hn]; exact rz0
  have Uw0 : Hid (Below w.heap.size w w0) := bl0
  have HN := Lib.hid hn
  clear rz0 bl0
  go_enter Tryz.func30, Tryz.ntmps30
  go_upto_region 4 with fail
  obtain ⟨e1, e2, e3⟩ := HE.out
  rw [e1, e2, e3]
  clear e1 e2 e3 HE
  have RA : Hid (∀ o1 o2 o3 o4 o5, Rz (((((w0.alloc o1).alloc o2).alloc o3).alloc o4).alloc o5) n ∧ Below w.heap.size w (((((w0.alloc o1).alloc o2).alloc o3).alloc o4).alloc o5)) := fun o1 o2 o3 o4 o5 => by
    have h : Below w0.heap.size w0 (((((w0.alloc o1).alloc o2).alloc o3).alloc o4).alloc o5) := ((((up_alloc w0 o1).alloc (by simp) o2).alloc (by simp; omega) o3).alloc (by simp; omega) o4).alloc (by simp; omega) o5
    exact ⟨Rw0.out.all h, up Uw0.out h⟩
  clear Rw0 Uw0
  go_wp2_with fail
  refine (rins_any ⟨#[79, 84, 68, 82]⟩ none 0 0 _).mono ?_
  rintro e w1 ⟨rfl, hb1⟩
  have Rw1 := Lib.hid ((RA.out _ _ _ _ _).1.all hb1)
  have Uw1 : Hid (Below w.heap.size w w1) := up (RA.out _ _ _ _ _).2 hb1
  clear RA hb1 hw0
  obtain ⟨z0, z1, z2, z3⟩ := Rw1.out.cells
  go_wp2
  obtain ⟨wz, hwz, q1, q2, q3⟩ := ri_put Rw1.out ⟨#[79, 84, 68, 82]⟩ (.slice none 0 0)
  rw [hwz]
  obtain ⟨s0, s1⟩ := q1.cells
  refine bodyPost_ret (v := .tuple #[.agg #[.string ⟨#[79, 84, 68, 82]⟩, (.slice none 0 0)], .string ⟨#[]⟩, .bool false]) ?_ rfl ?_
  · simp [results, Tryz.results30, go_sem, s0, s1]
  · exact ⟨_, rfl, World.ownsRow_nil _ _ _ _, Uw1.out.trans (q2.mono (by have := HN.out; omega))⟩
theorem ed_0 (op : Nat) (hop : op < 256) (y z : Nat) (hx : op / 64 = 0) (hy : op / 8 % 8 = y) (hz : op % 8 = z) (w : World) : Calls Tryz.prog 30 #[.int .u8 op] w (RetE w [] [] [] false) := by
  have HY : Hid (y < 8) := (by omega : y < 8)
  have HZ : Hid (z < 8) := (by omega : z < 8)
  have HE : Hid ((op : Int) / 64 = 0 ∧ (op : Int) / 8 % 8 = (y : Int) ∧ (op : Int) % 8 = (z : Int)) := (by omega : (op : Int) / 64 = 0 ∧ (op : Int) / 8 % 8 = (y : Int) ∧ (op : Int) % 8 = (z : Int))
  clear hx hy hz
  obtain ⟨w0, hw0, rz0, bl0⟩ := ri_start w
  obtain ⟨n, hn⟩ : ∃ n, w.heap.size = n := ⟨_, rfl⟩
  have Rw0 : Hid (Rz w0 n) := by rw [← hn]; exact rz0
  have Uw0 : Hid (Below w.heap.size w w0) := bl0
  have HN := Lib.hid hn
  clear rz0 bl0
  go_enter Tryz.func30, Tryz.ntmps30
  go_upto_region 4 with fail
  obtain ⟨e1, e2, e3⟩ := HE.out
  rw [e1, e2, e3]
  clear e1 e2 e3 HE
  obtain ⟨z0, z1, z2, z3⟩ := Rw0.out.cells
  go_wp2
  obtain ⟨wz, hwz, q1, q2, q3⟩ := ri_put Rw0.out ⟨#[]⟩ (.slice none 0 0)
  rw [hwz]
  obtain ⟨s0, s1⟩ := q1.cells
  refine bodyPost_ret (v := .tuple #[.agg #[.string ⟨#[]⟩, (.slice none 0 0)], .string ⟨#[]⟩, .bool false]) ?_ rfl ?_
  · simp [results, Tryz.results30, go_sem, s0, s1]
  · exact ⟨_, rfl, World.ownsRow_nil _ _ _ _, Uw0.out.trans (q2.mono (by have := HN.out; omega))⟩
theorem ed_3 (op : Nat) (hop : op < 256) (y z : Nat) (hx : op / 64 = 3) (hy : op / 8 % 8 = y) (hz : op % 8 = z) (w : World) : Calls Tryz.prog 30 #[.int .u8 op] w (RetE w [] [] [] false) := by
  have HY : Hid (y < 8) := (by omega : y < 8)
  have HZ : Hid (z < 8) := (by omega : z < 8)
  have HE : Hid ((op : Int) / 64 = 3 ∧ (op : Int) / 8 % 8 = (y : Int) ∧ (op : Int) % 8 = (z : Int)) := (by omega : (op : Int) / 64 = 3 ∧ (op : Int) / 8 % 8 = (y : Int) ∧ (op : Int) % 8 = (z : Int))
  clear hx hy hz
  obtain ⟨w0, hw0, rz0, bl0⟩ := ri_start w
  obtain ⟨n, hn⟩ : ∃ n, w.heap.size = n := ⟨_, rfl⟩
  have Rw0 : Hid (Rz w0 n) := by rw [← hn]; exact rz0
  have Uw0 : Hid (Below w.heap.size w w0) := bl0
  have HN := Lib.hid hn
  clear rz0 bl0
  go_enter Tryz.func30, Tryz.ntmps30
  go_upto_region 4 with fail
  obtain ⟨e1, e2, e3⟩ := HE.out
  rw [e1, e2, e3]
  clear e1 e2 e3 HE
  obtain ⟨z0, z1, z2, z3⟩ := Rw0.out.cells
  go_wp2
  obtain ⟨wz, hwz, q1, q2, q3⟩ := ri_put Rw0.out ⟨#[]⟩ (.slice none 0 0)
  rw [hwz]
  obtain ⟨s0, s1⟩ := q1.cells
  refine bodyPost_ret (v := .tuple #[.agg #[.string ⟨#[]⟩, (.slice none 0 0)], .string ⟨#[]⟩, .bool false]) ?_ rfl ?_
  · simp [results, Tryz.results30, go_sem, s0, s1]
  · exact ⟨_, rfl, World.ownsRow_nil _ _ _ _, Uw0.out.trans (q2.mono (by have := HN.out; omega))⟩
theorem ed_2a (op : Nat) (hop : op < 256) (y z : Nat) (hx : op / 64 = 2) (hy : op / 8 % 8 = y) (hz : op % 8 = z) (hv : 4 ≤ z)(w : World) : Calls Tryz.prog 30 #[.int .u8 op] w (RetE w [] [] [] false) := by
  have HY : Hid (y < 8) := (by omega : y < 8)
  have HZ : Hid (z < 8) := (by omega : z < 8)
  have HE : Hid ((op : Int) / 64 = 2 ∧ (op : Int) / 8 % 8 = (y : Int) ∧ (op : Int) % 8 = (z : Int)) := (by omega : (op : Int) / 64 = 2 ∧ (op : Int) / 8 % 8 = (y : Int) ∧ (op : Int) % 8 = (z : Int))
  have HV : Hid (¬ ((z : Int) < 4)) := (by omega : ¬ ((z : Int) < 4))
  clear hv
  clear hx hy hz
  obtain ⟨w0, hw0, rz0, bl0⟩ := ri_start w
  obtain ⟨n, hn⟩ : ∃ n, w.heap.size = n := ⟨_, rfl⟩
  have Rw0 : Hid (Rz w0 n) := by rw [← hn]; exact rz0
  have Uw0 : Hid (Below w.heap.size w w0) := bl0
  have HN := Lib.hid hn
  clear rz0 bl0
  go_enter Tryz.func30, Tryz.ntmps30
  go_upto_region 4 with fail
  obtain ⟨e1, e2, e3⟩ := HE.out
  rw [e1, e2, e3]
  clear e1 e2 e3 HE
  have b1 : ¬ ((z : Int) < 4) := HV.out
  obtain ⟨z0, z1, z2, z3⟩ := Rw0.out.cells
  go_wp2
  obtain ⟨wz, hwz, q1, q2, q3⟩ := ri_put Rw0.out ⟨#[]⟩ (.slice none 0 0)
  rw [hwz]
  obtain ⟨s0, s1⟩ := q1.cells
  refine bodyPost_ret (v := .tuple #[.agg #[.string ⟨#[]⟩, (.slice none 0 0)], .string ⟨#[]⟩, .bool false]) ?_ rfl ?_
  · simp [results, Tryz.results30, go_sem, s0, s1]
  · exact ⟨_, rfl, World.ownsRow_nil _ _ _ _, Uw0.out.trans (q2.mono (by have := HN.out; omega))⟩
theorem ed_2b (op : Nat) (hop : op < 256) (y z : Nat) (hx : op / 64 = 2) (hy : op / 8 % 8 = y) (hz : op % 8 = z) (hv : z < 4) (hu : y < 4)(w : World) : Calls Tryz.prog 30 #[.int .u8 op] w (RetE w [] [] [] false) := by
  have HY : Hid (y < 8) := (by omega : y < 8)
  have HZ : Hid (z < 8) := (by omega : z < 8)
  have HE : Hid ((op : Int) / 64 = 2 ∧ (op : Int) / 8 % 8 = (y : Int) ∧ (op : Int) % 8 = (z : Int)) := (by omega : (op : Int) / 64 = 2 ∧ (op : Int) / 8 % 8 = (y : Int) ∧ (op : Int) % 8 = (z : Int))
  have HV : Hid ((z : Int) < 4) := (by omega : ((z : Int) < 4))
  have HU : Hid (¬ ((4 : Int) ≤ (y : Int))) := (by omega : ¬ ((4 : Int) ≤ (y : Int)))
  clear hv hu
  clear hx hy hz
  obtain ⟨w0, hw0, rz0, bl0⟩ := ri_start w
  obtain ⟨n, hn⟩ : ∃ n, w.heap.size = n := ⟨_, rfl⟩
  have Rw0 : Hid (Rz w0 n) := by rw [← hn]; exact rz0
  have Uw0 : Hid (Below w.heap.size w w0) := bl0
  have HN := Lib.hid hn
  clear rz0 bl0
  go_enter Tryz.func30, Tryz.ntmps30
  go_upto_region 4 with fail
  obtain ⟨e1, e2, e3⟩ := HE.out
  rw [e1, e2, e3]
  clear e1 e2 e3 HE
  have b1 : ((z : Int) < 4) := HV.out
  have b2 : ¬ ((4 : Int) ≤ (y : Int)) := HU.out
  obtain ⟨z0, z1, z2, z3⟩ := Rw0.out.cells
  go_wp2
  obtain ⟨wz, hwz, q1, q2, q3⟩ := ri_put Rw0.out ⟨#[]⟩ (.slice none 0 0)
  rw [hwz]
  obtain ⟨s0, s1⟩ := q1.cells
  refine bodyPost_ret (v := .tuple #[.agg #[.string ⟨#[]⟩, (.slice none 0 0)], .string ⟨#[]⟩, .bool false]) ?_ rfl ?_
  · simp [results, Tryz.results30, go_sem, s0, s1]
  · exact ⟨_, rfl, World.ownsRow_nil _ _ _ _, Uw0.out.trans (q2.mono (by have := HN.out; omega))⟩
end Go.Proofs.YtipgecdfnbldnaaGreatDoor
