/-
  The reference's main.
-/
import Derived.Test.YtipgecdfnbldnaaGreatDoorMRfH
import Derived.Deep.DeepCutAuto
import Derived.Deep.Cut
import Derived.StillTail
import Derived.StillTailTactics
import Derived.Deep.RegionHeld3
import Derived.RegionTactic
set_option linter.all false
set_option maxRecDepth 100000
set_option maxHeartbeats 4000000
namespace Go.Proofs.YtipgecdfnbldnaaGreatDoor
open Go.RowKit Go.Shelf
attribute [local irreducible] Go.Mixed.wpMix
def mainN (op : Nat) : Str × List Tr × Str :=
  if op / 64 = 0 then lowN (op / 8 % 8) (op % 8) else if op / 64 = 1 then (if op / 8 % 8 = 6 ∧ op % 8 = 6 then ([72, 65, 76, 84], [], []) else ([76, 68], [regT (op / 8 % 8 : Nat), regT (op % 8 : Nat)], []))
  else if op / 64 = 2 then ((aluN (op / 8 % 8) (regT (op % 8 : Nat))).1, (aluN (op / 8 % 8) (regT (op % 8 : Nat))).2, []) else highN (op / 8 % 8) (op % 8)
theorem mainN_0 {op : Nat} (h : op / 64 = 0) : mainN op = lowN (op / 8 % 8) (op % 8) := by unfold mainN; rw [if_pos h]
theorem mainN_1 {op : Nat} (h : op / 64 = 1) (k : op / 8 % 8 = 6 ∧ op % 8 = 6) : mainN op = ([72, 65, 76, 84], [], []) := by unfold mainN; rw [if_neg (by omega), if_pos h, if_pos k]
theorem mainN_1b {op : Nat} (h : op / 64 = 1) (k : ¬ (op / 8 % 8 = 6 ∧ op % 8 = 6)) : mainN op = ([76, 68], [regT (op / 8 % 8 : Nat), regT (op % 8 : Nat)], []) := by unfold mainN; rw [if_neg (by omega), if_pos h, if_neg k]
theorem mainN_2 {op : Nat} (h : op / 64 = 2) : mainN op = ((aluN (op / 8 % 8) (regT (op % 8 : Nat))).1, (aluN (op / 8 % 8) (regT (op % 8 : Nat))).2, []) := by unfold mainN; rw [if_neg (by omega), if_neg (by omega), if_pos h]
theorem mainN_3 {op : Nat} (h : op / 64 = 3) : mainN op = highN (op / 8 % 8) (op % 8) := by unfold mainN; rw [if_neg (by omega), if_neg (by omega), if_neg (by omega)]
theorem main_0 (op : Nat) (hop : op < 256) (hx : op / 64 = 0) (w : World) : Calls Tryz.prog 27 #[.int .u8 op] w (RetI w (mainN op).1 (mainN op).2.1 (mainN op).2.2) := by
  obtain ⟨y, hy⟩ : ∃ y, op / 8 % 8 = y := ⟨_, rfl⟩
  obtain ⟨z, hz⟩ : ∃ z, op % 8 = z := ⟨_, rfl⟩
  have HMN := Lib.hid (mainN_0 hx)
  have HY : Hid (y < 8) := (by omega : _ < 8)
  have HZ : Hid (z < 8) := (by omega : _ < 8)
  have e1 : (op : Int) / 64 = 0 := by omega
  have e2 : (op : Int) / 8 % 8 = (y : Int) := by omega
  have e3 : (op : Int) % 8 = (z : Int) := by omega
  have HE := Lib.hid (And.intro e1 (And.intro e2 e3))
  rw [hy, hz] at HMN
  clear hx hy hz e1 e2 e3
  obtain ⟨w0, hw0, rz0, bl0⟩ := ri_start w
  obtain ⟨n, hn⟩ : ∃ n, w.heap.size = n := ⟨_, rfl⟩
  have Rw0 : Hid (Rz w0 n) := by rw [← hn]; exact rz0
  have Uw0 : Hid (Below w.heap.size w w0) := bl0
  have HN := Lib.hid hn
  clear rz0 bl0
  go_enter Tryz.func27, Tryz.ntmps27
  go_upto_region 4 with fail
  obtain ⟨e1, e2, e3⟩ := HE.out
  rw [e1, e2, e3]
  clear e1 e2 e3 HE
  obtain ⟨m, hm⟩ : ∃ m, (lowN y z).1 = m := ⟨_, rfl⟩
  obtain ⟨L, hL⟩ : ∃ L, (lowN y z).2.1 = L := ⟨_, rfl⟩
  obtain ⟨ex, hex⟩ : ∃ ex, (lowN y z).2.2 = ex := ⟨_, rfl⟩
  have KK := low_any y z HY.out HZ.out w0
  rw [hm, hL, hex] at KK
  have HM : Hid ((lowN y z).1 = m ∧ (lowN y z).2.1 = L ∧ (lowN y z).2.2 = ex) := ⟨hm, hL, hex⟩
  clear hm hL hex
  have KK := Lib.hid KK
  go_wp2_with fail
  refine KK.out.mono ?_
  rintro e w1 ⟨v, rfl, hO, hb1⟩
  clear KK
  obtain ⟨A, cap, rfl, -, -⟩ := hO.ops
  have Ow1 : Hid (OwnT w1 w.heap.size (.slice A L.length cap) L) := hO.lift Uw0.out.size
  clear hO
  have Rw1 := Lib.hid (Rw0.out.all hb1)
  have Uw1 : Hid (Below w.heap.size w w1) := up Uw0.out hb1
  clear Rw0 Uw0 hb1
  obtain ⟨z0, z1, z2, z3⟩ := Rw1.out.cells
  go_wp2
  obtain ⟨wz, hwz, q1, q2, q3⟩ := ri_put Rw1.out (sB m) (.slice A L.length cap)
  rw [hwz]
  obtain ⟨s0, s1⟩ := q1.cells
  refine bodyPost_ret (v := .tuple #[.agg #[.string (sB m), .slice A L.length cap], .string (sB ex)]) ?_ rfl ?_
  · simp [results, Tryz.results27, go_sem, s0, s1]
  · rw [HMN.out, HM.out.1, HM.out.2.1, HM.out.2.2]
    exact ⟨_, rfl, own_put Rw1.out Ow1.out q3, Uw1.out.trans (q2.mono (by rw [HN.out]; omega))⟩
theorem main_1 (op : Nat) (hop : op < 256) (hx : op / 64 = 1) (h6 : op / 8 % 8 = 6 ∧ op % 8 = 6)(w : World) : Calls Tryz.prog 27 #[.int .u8 op] w (RetI w (mainN op).1 (mainN op).2.1 (mainN op).2.2) := by
  obtain ⟨y, hy⟩ : ∃ y, op / 8 % 8 = y := ⟨_, rfl⟩
  obtain ⟨z, hz⟩ : ∃ z, op % 8 = z := ⟨_, rfl⟩
  have HMN := Lib.hid (mainN_1 hx h6)
  have HY : Hid (y < 8) := (by omega : _ < 8)
  have HZ : Hid (z < 8) := (by omega : _ < 8)
  have e1 : (op : Int) / 64 = 1 := by omega
  have e2 : (op : Int) / 8 % 8 = 6 := by omega
  have e3 : (op : Int) % 8 = 6 := by omega
  have HE := Lib.hid (And.intro e1 (And.intro e2 e3))
  clear hx hy hz e1 e2 e3 h6
  obtain ⟨w0, hw0, rz0, bl0⟩ := ri_start w
  obtain ⟨n, hn⟩ : ∃ n, w.heap.size = n := ⟨_, rfl⟩
  have Rw0 : Hid (Rz w0 n) := by rw [← hn]; exact rz0
  have Uw0 : Hid (Below w.heap.size w w0) := bl0
  have HN := Lib.hid hn
  clear rz0 bl0
  go_enter Tryz.func27, Tryz.ntmps27
  go_upto_region 4 with fail
  obtain ⟨e1, e2, e3⟩ := HE.out
  rw [e1, e2, e3]
  clear e1 e2 e3 HE
  go_wp2_with fail
  refine (rins_any ⟨#[72, 65, 76, 84]⟩ none 0 0 w0).mono ?_
  rintro e w1 ⟨rfl, hb1⟩
  have Rw1 := Lib.hid (Rw0.out.all hb1)
  have Uw1 : Hid (Below w.heap.size w w1) := up Uw0.out hb1
  clear Rw0 Uw0 hb1
  clear hw0
  obtain ⟨z0, z1, z2, z3⟩ := Rw1.out.cells
  go_wp2
  obtain ⟨wz, hwz, q1, q2, q3⟩ := ri_put Rw1.out ⟨#[72, 65, 76, 84]⟩ (.slice none 0 0)
  rw [hwz]
  obtain ⟨s0, s1⟩ := q1.cells
  refine bodyPost_ret (v := .tuple #[.agg #[.string ⟨#[72, 65, 76, 84]⟩, .slice none 0 0], .string ⟨#[]⟩]) ?_ rfl ?_
  · simp [results, Tryz.results27, go_sem, s0, s1]
  · rw [HMN.out]
    exact ⟨_, rfl, World.ownsRow_nil _ _ _ _, Uw1.out.trans (q2.mono (by rw [HN.out]; omega))⟩
theorem main_1b (op : Nat) (hop : op < 256) (hx : op / 64 = 1) (h6 : op / 8 % 8 ≠ 6)(w : World) : Calls Tryz.prog 27 #[.int .u8 op] w (RetI w (mainN op).1 (mainN op).2.1 (mainN op).2.2) := by
  obtain ⟨y, hy⟩ : ∃ y, op / 8 % 8 = y := ⟨_, rfl⟩
  obtain ⟨z, hz⟩ : ∃ z, op % 8 = z := ⟨_, rfl⟩
  have HMN := Lib.hid (mainN_1b hx (fun h => h6 h.1))
  have HY : Hid (y < 8) := (by omega : _ < 8)
  have HZ : Hid (z < 8) := (by omega : _ < 8)
  have e1 : (op : Int) / 64 = 1 := by omega
  have e2 : (op : Int) / 8 % 8 = (y : Int) := by omega
  have e3 : (op : Int) % 8 = (z : Int) := by omega
  have HE := Lib.hid (And.intro e1 (And.intro e2 e3))
  rw [hy, hz] at HMN
  have H6 : Hid (((y : Int) == 6) = false) := by rw [hy] at h6; show _ = _; simp; omega
  clear hx hy hz e1 e2 e3 h6
  obtain ⟨w0, hw0, rz0, bl0⟩ := ri_start w
  obtain ⟨n, hn⟩ : ∃ n, w.heap.size = n := ⟨_, rfl⟩
  have Rw0 : Hid (Rz w0 n) := by rw [← hn]; exact rz0
  have Uw0 : Hid (Below w.heap.size w w0) := bl0
  have HN := Lib.hid hn
  clear rz0 bl0
  go_enter Tryz.func27, Tryz.ntmps27
  go_upto_region 4 with fail
  obtain ⟨e1, e2, e3⟩ := HE.out
  rw [e1, e2, e3]
  clear e1 e2 e3 HE
  have k6 : ((y : Int) == 6) = false := H6.out
  go_wp2_with fail
  refine (rr_any (y : Int) w0).mono ?_
  rintro e w1 ⟨rfl, hb1⟩
  have Rw1 := Lib.hid (Rw0.out.all hb1)
  have Uw1 : Hid (Below w.heap.size w w1) := up Uw0.out hb1
  clear Rw0 Uw0 hb1
  clear hw0
  simp only [trV]
  obtain ⟨⟨x0, x1, x2⟩, hx⟩ : ∃ x : Tr, regT (y : Int) = x := ⟨_, rfl⟩
  have HX := Lib.hid hx
  rw [hx]
  clear hx
  go_wp2_with fail
  refine (rr_any (z : Int) w1).mono ?_
  rintro e w2 ⟨rfl, hb2⟩
  have Rw2 := Lib.hid (Rw1.out.all hb2)
  have Uw2 : Hid (Below w.heap.size w w2) := up Uw1.out hb2
  clear Rw1 Uw1 hb2
  simp only [trV]
  obtain ⟨⟨y0, y1, y2⟩, hx⟩ : ∃ x : Tr, regT (z : Int) = x := ⟨_, rfl⟩
  have HX2 := Lib.hid hx
  rw [hx]
  clear hx
  go_wp2_with fail
  refine (rtwo_any (x0, x1, x2) (y0, y1, y2) w2).mono ?_
  rintro e w3 ⟨v, rfl, hO, hb3⟩
  obtain ⟨A, cap, rfl, -, -⟩ := hO.ops
  have Ow3 : Hid (OwnT w3 w.heap.size (.slice A 2 cap) [(x0, x1, x2), (y0, y1, y2)]) := hO.lift Uw2.out.size
  clear hO
  have Rw3 := Lib.hid (Rw2.out.all hb3)
  have Uw3 : Hid (Below w.heap.size w w3) := up Uw2.out hb3
  clear Rw2 Uw2 hb3
  go_wp2_with fail
  refine (rins_any ⟨#[76, 68]⟩ A 2 cap w3).mono ?_
  rintro e w4 ⟨rfl, hb4⟩
  have Rw4 := Lib.hid (Rw3.out.all hb4)
  have Uw4 : Hid (Below w.heap.size w w4) := up Uw3.out hb4
  have Ow4 := Lib.hid (Ow3.out.below hb4)
  clear Rw3 Uw3 Ow3 hb4
  obtain ⟨z0, z1, z2, z3⟩ := Rw4.out.cells
  go_wp2
  obtain ⟨wz, hwz, q1, q2, q3⟩ := ri_put Rw4.out ⟨#[76, 68]⟩ (.slice A 2 cap)
  rw [hwz]
  obtain ⟨s0, s1⟩ := q1.cells
  refine bodyPost_ret (v := .tuple #[.agg #[.string ⟨#[76, 68]⟩, .slice A 2 cap], .string ⟨#[]⟩]) ?_ rfl ?_
  · simp [results, Tryz.results27, go_sem, s0, s1]
  · rw [HMN.out, HX.out, HX2.out]
    exact ⟨_, rfl, own_put Rw4.out Ow4.out q3, Uw4.out.trans (q2.mono (by rw [HN.out]; omega))⟩
theorem main_1c (op : Nat) (hop : op < 256) (hx : op / 64 = 1) (h6 : op / 8 % 8 = 6) (h7 : op % 8 ≠ 6)(w : World) : Calls Tryz.prog 27 #[.int .u8 op] w (RetI w (mainN op).1 (mainN op).2.1 (mainN op).2.2) := by
  obtain ⟨y, hy⟩ : ∃ y, op / 8 % 8 = y := ⟨_, rfl⟩
  obtain ⟨z, hz⟩ : ∃ z, op % 8 = z := ⟨_, rfl⟩
  have HMN := Lib.hid (mainN_1b hx (fun h => h7 h.2))
  have HY : Hid (y < 8) := (by omega : _ < 8)
  have HZ : Hid (z < 8) := (by omega : _ < 8)
  have e1 : (op : Int) / 64 = 1 := by omega
  have e2 : (op : Int) / 8 % 8 = (y : Int) := by omega
  have e3 : (op : Int) % 8 = (z : Int) := by omega
  have HE := Lib.hid (And.intro e1 (And.intro e2 e3))
  rw [hy, hz] at HMN
  have H6 : Hid (((z : Int) == 6) = false) := by rw [hz] at h7; show _ = _; simp; omega
  have H5 : Hid ((y : Int) = 6) := (by omega : (y : Int) = 6)
  clear hx hy hz e1 e2 e3 h6 h7
  obtain ⟨w0, hw0, rz0, bl0⟩ := ri_start w
  obtain ⟨n, hn⟩ : ∃ n, w.heap.size = n := ⟨_, rfl⟩
  have Rw0 : Hid (Rz w0 n) := by rw [← hn]; exact rz0
  have Uw0 : Hid (Below w.heap.size w w0) := bl0
  have HN := Lib.hid hn
  clear rz0 bl0
  go_enter Tryz.func27, Tryz.ntmps27
  go_upto_region 4 with fail
  obtain ⟨e1, e2, e3⟩ := HE.out
  have e4 := H5.out
  rw [e1, e2, e3, e4]
  clear e1 e2 e3 HE
  have k6 : ((z : Int) == 6) = false := H6.out
  go_wp2_with fail
  rw [← H5.out]
  refine (rr_any (y : Int) w0).mono ?_
  rintro e w1 ⟨rfl, hb1⟩
  have Rw1 := Lib.hid (Rw0.out.all hb1)
  have Uw1 : Hid (Below w.heap.size w w1) := up Uw0.out hb1
  clear Rw0 Uw0 hb1
  clear hw0
  simp only [trV]
  obtain ⟨⟨x0, x1, x2⟩, hx⟩ : ∃ x : Tr, regT (y : Int) = x := ⟨_, rfl⟩
  have HX := Lib.hid hx
  rw [hx]
  clear hx
  go_wp2_with fail
  refine (rr_any (z : Int) w1).mono ?_
  rintro e w2 ⟨rfl, hb2⟩
  have Rw2 := Lib.hid (Rw1.out.all hb2)
  have Uw2 : Hid (Below w.heap.size w w2) := up Uw1.out hb2
  clear Rw1 Uw1 hb2
  simp only [trV]
  obtain ⟨⟨y0, y1, y2⟩, hx⟩ : ∃ x : Tr, regT (z : Int) = x := ⟨_, rfl⟩
  have HX2 := Lib.hid hx
  rw [hx]
  clear hx
  go_wp2_with fail
  refine (rtwo_any (x0, x1, x2) (y0, y1, y2) w2).mono ?_
  rintro e w3 ⟨v, rfl, hO, hb3⟩
  obtain ⟨A, cap, rfl, -, -⟩ := hO.ops
  have Ow3 : Hid (OwnT w3 w.heap.size (.slice A 2 cap) [(x0, x1, x2), (y0, y1, y2)]) := hO.lift Uw2.out.size
  clear hO
  have Rw3 := Lib.hid (Rw2.out.all hb3)
  have Uw3 : Hid (Below w.heap.size w w3) := up Uw2.out hb3
  clear Rw2 Uw2 hb3
  go_wp2_with fail
  refine (rins_any ⟨#[76, 68]⟩ A 2 cap w3).mono ?_
  rintro e w4 ⟨rfl, hb4⟩
  have Rw4 := Lib.hid (Rw3.out.all hb4)
  have Uw4 : Hid (Below w.heap.size w w4) := up Uw3.out hb4
  have Ow4 := Lib.hid (Ow3.out.below hb4)
  clear Rw3 Uw3 Ow3 hb4
  obtain ⟨z0, z1, z2, z3⟩ := Rw4.out.cells
  go_wp2
  obtain ⟨wz, hwz, q1, q2, q3⟩ := ri_put Rw4.out ⟨#[76, 68]⟩ (.slice A 2 cap)
  rw [hwz]
  obtain ⟨s0, s1⟩ := q1.cells
  refine bodyPost_ret (v := .tuple #[.agg #[.string ⟨#[76, 68]⟩, .slice A 2 cap], .string ⟨#[]⟩]) ?_ rfl ?_
  · simp [results, Tryz.results27, go_sem, s0, s1]
  · rw [HMN.out, HX.out, HX2.out]
    exact ⟨_, rfl, own_put Rw4.out Ow4.out q3, Uw4.out.trans (q2.mono (by rw [HN.out]; omega))⟩
theorem main_2 (op : Nat) (hop : op < 256) (hx : op / 64 = 2) (w : World) : Calls Tryz.prog 27 #[.int .u8 op] w (RetI w (mainN op).1 (mainN op).2.1 (mainN op).2.2) := by
  obtain ⟨y, hy⟩ : ∃ y, op / 8 % 8 = y := ⟨_, rfl⟩
  obtain ⟨z, hz⟩ : ∃ z, op % 8 = z := ⟨_, rfl⟩
  have HMN := Lib.hid (mainN_2 hx)
  have HY : Hid (y < 8) := (by omega : _ < 8)
  have HZ : Hid (z < 8) := (by omega : _ < 8)
  have e1 : (op : Int) / 64 = 2 := by omega
  have e2 : (op : Int) / 8 % 8 = (y : Int) := by omega
  have e3 : (op : Int) % 8 = (z : Int) := by omega
  have HE := Lib.hid (And.intro e1 (And.intro e2 e3))
  rw [hy, hz] at HMN
  clear hx hy hz e1 e2 e3
  obtain ⟨w0, hw0, rz0, bl0⟩ := ri_start w
  obtain ⟨n, hn⟩ : ∃ n, w.heap.size = n := ⟨_, rfl⟩
  have Rw0 : Hid (Rz w0 n) := by rw [← hn]; exact rz0
  have Uw0 : Hid (Below w.heap.size w w0) := bl0
  have HN := Lib.hid hn
  clear rz0 bl0
  go_enter Tryz.func27, Tryz.ntmps27
  go_upto_region 4 with fail
  obtain ⟨e1, e2, e3⟩ := HE.out
  rw [e1, e2, e3]
  clear e1 e2 e3 HE
  go_wp2_with fail
  refine (rr_any (z : Int) w0).mono ?_
  rintro e w1 ⟨rfl, hb1⟩
  have Rw1 := Lib.hid (Rw0.out.all hb1)
  have Uw1 : Hid (Below w.heap.size w w1) := up Uw0.out hb1
  clear Rw0 Uw0 hb1
  clear hw0
  simp only [trV]
  obtain ⟨⟨x0, x1, x2⟩, hx⟩ : ∃ x : Tr, regT (z : Int) = x := ⟨_, rfl⟩
  have HX := Lib.hid hx
  rw [hx]
  clear hx
  obtain ⟨m, hm⟩ : ∃ m, (aluN y (x0, x1, x2)).1 = m := ⟨_, rfl⟩
  obtain ⟨L, hL⟩ : ∃ L, (aluN y (x0, x1, x2)).2 = L := ⟨_, rfl⟩
  have KK := alu_any y HY.out (x0, x1, x2) w1
  rw [hm, hL] at KK
  have HM : Hid ((aluN y (x0, x1, x2)).1 = m ∧ (aluN y (x0, x1, x2)).2 = L) := ⟨hm, hL⟩
  clear hm hL
  have KK := Lib.hid KK
  go_wp2_with fail
  refine KK.out.mono ?_
  rintro e w2 ⟨v, rfl, hO, hb2⟩
  clear KK
  obtain ⟨A, cap, rfl, -, -⟩ := hO.ops
  have Ow2 : Hid (OwnT w2 w.heap.size (.slice A L.length cap) L) := hO.lift Uw1.out.size
  clear hO
  have Rw2 := Lib.hid (Rw1.out.all hb2)
  have Uw2 : Hid (Below w.heap.size w w2) := up Uw1.out hb2
  clear Rw1 Uw1 hb2
  obtain ⟨z0, z1, z2, z3⟩ := Rw2.out.cells
  go_wp2
  obtain ⟨wz, hwz, q1, q2, q3⟩ := ri_put Rw2.out (sB m) (.slice A L.length cap)
  rw [hwz]
  obtain ⟨s0, s1⟩ := q1.cells
  refine bodyPost_ret (v := .tuple #[.agg #[.string (sB m), .slice A L.length cap], .string (⟨#[]⟩)]) ?_ rfl ?_
  · simp [results, Tryz.results27, go_sem, s0, s1]
  · rw [HMN.out, HX.out, HM.out.1, HM.out.2]
    exact ⟨_, rfl, own_put Rw2.out Ow2.out q3, Uw2.out.trans (q2.mono (by rw [HN.out]; omega))⟩
theorem main_3 (op : Nat) (hop : op < 256) (hx : op / 64 = 3) (w : World) : Calls Tryz.prog 27 #[.int .u8 op] w (RetI w (mainN op).1 (mainN op).2.1 (mainN op).2.2) := by
  obtain ⟨y, hy⟩ : ∃ y, op / 8 % 8 = y := ⟨_, rfl⟩
  obtain ⟨z, hz⟩ : ∃ z, op % 8 = z := ⟨_, rfl⟩
  have HMN := Lib.hid (mainN_3 hx)
  have HY : Hid (y < 8) := (by omega : _ < 8)
  have HZ : Hid (z < 8) := (by omega : _ < 8)
  have e1 : (op : Int) / 64 = 3 := by omega
  have e2 : (op : Int) / 8 % 8 = (y : Int) := by omega
  have e3 : (op : Int) % 8 = (z : Int) := by omega
  have HE := Lib.hid (And.intro e1 (And.intro e2 e3))
  rw [hy, hz] at HMN
  clear hx hy hz e1 e2 e3
  obtain ⟨w0, hw0, rz0, bl0⟩ := ri_start w
  obtain ⟨n, hn⟩ : ∃ n, w.heap.size = n := ⟨_, rfl⟩
  have Rw0 : Hid (Rz w0 n) := by rw [← hn]; exact rz0
  have Uw0 : Hid (Below w.heap.size w w0) := bl0
  have HN := Lib.hid hn
  clear rz0 bl0
  go_enter Tryz.func27, Tryz.ntmps27
  go_upto_region 4 with fail
  obtain ⟨e1, e2, e3⟩ := HE.out
  rw [e1, e2, e3]
  clear e1 e2 e3 HE
  obtain ⟨m, hm⟩ : ∃ m, (highN y z).1 = m := ⟨_, rfl⟩
  obtain ⟨L, hL⟩ : ∃ L, (highN y z).2.1 = L := ⟨_, rfl⟩
  obtain ⟨ex, hex⟩ : ∃ ex, (highN y z).2.2 = ex := ⟨_, rfl⟩
  have KK := high_any y z HY.out HZ.out w0
  rw [hm, hL, hex] at KK
  have HM : Hid ((highN y z).1 = m ∧ (highN y z).2.1 = L ∧ (highN y z).2.2 = ex) := ⟨hm, hL, hex⟩
  clear hm hL hex
  have KK := Lib.hid KK
  go_wp2_with fail
  refine KK.out.mono ?_
  rintro e w1 ⟨v, rfl, hO, hb1⟩
  clear KK
  obtain ⟨A, cap, rfl, -, -⟩ := hO.ops
  have Ow1 : Hid (OwnT w1 w.heap.size (.slice A L.length cap) L) := hO.lift Uw0.out.size
  clear hO
  have Rw1 := Lib.hid (Rw0.out.all hb1)
  have Uw1 : Hid (Below w.heap.size w w1) := up Uw0.out hb1
  clear Rw0 Uw0 hb1
  obtain ⟨z0, z1, z2, z3⟩ := Rw1.out.cells
  go_wp2
  obtain ⟨wz, hwz, q1, q2, q3⟩ := ri_put Rw1.out (sB m) (.slice A L.length cap)
  rw [hwz]
  obtain ⟨s0, s1⟩ := q1.cells
  refine bodyPost_ret (v := .tuple #[.agg #[.string (sB m), .slice A L.length cap], .string (sB ex)]) ?_ rfl ?_
  · simp [results, Tryz.results27, go_sem, s0, s1]
  · rw [HMN.out, HM.out.1, HM.out.2.1, HM.out.2.2]
    exact ⟨_, rfl, own_put Rw1.out Ow1.out q3, Uw1.out.trans (q2.mono (by rw [HN.out]; omega))⟩
theorem main_any (op : Nat) (hop : op < 256) (w : World) : Calls Tryz.prog 27 #[.int .u8 op] w (RetI w (mainN op).1 (mainN op).2.1 (mainN op).2.2) := by
  rcases (by omega : op / 64 = 0 ∨ op / 64 = 1 ∨ op / 64 = 2 ∨ op / 64 = 3) with h | h | h | h
  · exact main_0 op hop h w
  · by_cases h6 : op / 8 % 8 = 6
    · by_cases h7 : op % 8 = 6
      · exact main_1 op hop h ⟨h6, h7⟩ w
      · exact main_1c op hop h h6 h7 w
    · exact main_1b op hop h h6 w
  · exact main_2 op hop h w
  · exact main_3 op hop h w
end Go.Proofs.YtipgecdfnbldnaaGreatDoor
