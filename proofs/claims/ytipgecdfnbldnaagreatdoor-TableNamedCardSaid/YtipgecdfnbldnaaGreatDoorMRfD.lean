/-
  The reference's low, z = 3.
-/
import Derived.Test.YtipgecdfnbldnaaGreatDoorMRfC
import Derived.Test.YtipgecdfnbldnaaGreatDoorBaA
import Derived.Deep.DeepCutAuto
import Derived.Deep.Cut
import Derived.StillTail
import Derived.StillTailTactics
import Derived.RegionTactic
set_option linter.all false
set_option maxRecDepth 100000
set_option maxHeartbeats 4000000
namespace Go.Proofs.YtipgecdfnbldnaaGreatDoor
open Go.RowKit Go.Shelf
attribute [local irreducible] Go.Mixed.wpMix Go.Mixed.wpMixT
theorem low_3_e (y : Int) (hy : 0 ≤ y ∧ y ≤ 7) (hq : y % 2 = 0) (w : World) : Calls Tryz.prog 55 #[.int .i64 y, .int .i64 3] w (RetI w [73, 78, 67] [rpT (y / 2) 3] []) := by
  have KQ : Hid (y % 2 = 0) := hq
  clear hq
  obtain ⟨w0, hw0, rz0, bl0⟩ := ri_start w
  obtain ⟨n, hn⟩ : ∃ n, w.heap.size = n := ⟨_, rfl⟩
  have Rw0 : Hid (Rz w0 n) := by rw [← hn]; exact rz0
  have Uw0 : Hid (Below w.heap.size w w0) := bl0
  have HN := Lib.hid hn
  clear rz0 bl0
  go_enter Tryz.func55, Tryz.ntmps55
  obtain ⟨⟨p0, p1, p2⟩, hp⟩ : ∃ x : Tr, rpT (y / 2) 3 = x := ⟨_, rfl⟩
  have HP := Lib.hid hp
  have hrp := rrp_any (y / 2) 3 w0
  rw [hp] at hrp
  clear hp
  go_wp2_with fail
  refine hrp.mono ?_
  rintro e w1 ⟨rfl, hb1⟩
  have Rw1 := Lib.hid (Rw0.out.all hb1)
  have Uw1 : Hid (Below w.heap.size w w1) := up Uw0.out hb1
  clear Rw0 Uw0 hb1
  clear hrp hw0
  simp only [trV]
  go_upto_region 2 with fail
  obtain ⟨bP, hbP⟩ : ∃ b, w1.heap.size = b := ⟨_, rfl⟩
  obtain ⟨w2, hw2⟩ : ∃ v, w1.alloc (.cells #[.int .i64 p0, .int .i64 p1, .int .i64 p2] 69) = v := ⟨_, rfl⟩
  have hb2 : Below w1.heap.size w1 w2 := by rw [← hw2]; exact up_alloc _ _
  have Pw2 : Hid (OpV w2 bP (p0, p1, p2)) := by rw [← hw2, ← hbP]; exact opv_new _ _ _ _
  rw [hw2, hbP]
  clear hw2
  have Rw2 := Lib.hid (Rw1.out.all hb2)
  have Uw2 : Hid (Below w.heap.size w w2) := up Uw1.out hb2
  clear Rw1 Uw1 hb2
  go_upto_region 3 with fail
  rw [KQ.out]
  go_wp2_with fail
  refine (rrp_any 2 3 w2).mono ?_
  rintro e w3 ⟨rfl, hb3⟩
  have Rw3 := Lib.hid (Rw2.out.all hb3)
  have Uw3 : Hid (Below w.heap.size w w3) := up Uw2.out hb3
  have Pw3 := Lib.hid (Pw2.out.all hb3)
  clear Rw2 Uw2 Pw2 hb3
  simp only [trV]
  simp only [rpT, show ¬ ((2 : Int) = 3) by decide, if_false]
  go_upto_region 4 with fail
  obtain ⟨bH, hbH⟩ : ∃ b, w3.heap.size = b := ⟨_, rfl⟩
  obtain ⟨w4, hw4⟩ : ∃ v, w3.alloc (.cells #[.int .i64 3, .int .i64 2, .int .i64 0] 69) = v := ⟨_, rfl⟩
  have hb4 : Below w3.heap.size w3 w4 := by rw [← hw4]; exact up_alloc _ _
  have Hw4 : Hid (OpV w4 bH (3, 2, 0)) := by rw [← hw4, ← hbH]; exact opv_new _ _ _ _
  rw [hw4, hbH]
  clear hw4
  have Rw4 := Lib.hid (Rw3.out.all hb4)
  have Uw4 : Hid (Below w.heap.size w w4) := up Uw3.out hb4
  have Pw4 := Lib.hid (Pw3.out.all hb4)
  clear Rw3 Uw3 Pw3 hb4
  go_upto_region 34 with fail
  obtain ⟨wd, hwd⟩ : ∃ v, w4.drew = v := ⟨_, rfl⟩
  have hbd : Below w4.heap.size w4 wd := by rw [← hwd]; exact below_drewN _ _ 1
  have KR : Hid (∀ wx : World, Below wd.heap.size wd wx → Rz wx n ∧ Below w.heap.size w wx) := fun wx hb => ⟨(Rw4.out.all hbd).all hb, up (up Uw4.out hbd) hb⟩
  have KC : Hid (∀ wx : World, Below wd.heap.size wd wx → wx.cell? ⟨bP, 0, none⟩ = some (.int .i64 p0) ∧ wx.cell? ⟨bP, 1, none⟩ = some (.int .i64 p1) ∧ wx.cell? ⟨bP, 2, none⟩ = some (.int .i64 p2)) := fun wx hb => by
    obtain ⟨Pa, Pb, Pc, -⟩ := ((Pw4.out.all hbd).all hb).cells
    exact ⟨Pa, Pb, Pc⟩
  have HU : Hid (w.heap.size ≤ wd.heap.size) := (KR.out wd (Below.refl _ _)).2.size
  have FN : Hid (∀ (wt : World) (A : Option Addr) (cap : Nat), Below wd.heap.size wd wt → OwnT wt w.heap.size (.slice A 1 cap) [(p0, p1, p2)] → Calls Tryz.prog 56 #[.string ⟨#[73, 78, 67]⟩, .slice A 1 cap] wt (fun e w6 => e = .returned (.agg #[.string ⟨#[73, 78, 67]⟩, .slice A 1 cap]) ∧ Hid (OwnT w6 w.heap.size (.slice A 1 cap) [(p0, p1, p2)]) ∧ Rz w6 n ∧ Below w.heap.size w w6)) := fun wt A cap hb hO => by
    refine (rins_any ⟨#[73, 78, 67]⟩ A 1 cap wt).mono ?_
    rintro e w6 ⟨rfl, hb6⟩
    have K6 := KR.out w6 (hb.trans (hb6.mono hb.size))
    exact ⟨rfl, hO.below hb6, K6.1, K6.2⟩
  have K0 := Lib.hid (KC.out wd (Below.refl _ _))
  refine Mixed.wp_region_mixedT (fun w' => w'.cell? ⟨bP, 0, none⟩ = some (.int .i64 p0) ∧ w'.cell? ⟨bP, 1, none⟩ = some (.int .i64 p1) ∧ w'.cell? ⟨bP, 2, none⟩ = some (.int .i64 p2)) 6 (.pure 1 (.pure 4 (.two 0 (.pure 2 (.two 3 (.one 5 .done) 5 (.one 3 .done))) 5 (.one 0 (.pure 2 (.one 3 .done)))))) (by kernel_rfl) (by kernel_rfl) (by rw [hwd]; exact K0.out) ?_
  rw [hwd]
  clear hwd hbd K0
  refine Mixed.wpMixT_pure rfl (by kernel_rfl) (.int .i64 0) (fun w h => by go_simp; try rfl) ?_
  refine Mixed.wpMixT_pure rfl (by kernel_rfl) (.agg #[.int .i64 p0, .int .i64 p1, .int .i64 p2]) (fun w h => by obtain ⟨h0, h1, h2⟩ := h; go_simp; try rfl) ?_
  obtain ⟨nb, hnb⟩ : ∃ z, wd.heap.size = z := ⟨_, rfl⟩
  obtain ⟨wA, hwA⟩ : ∃ z, wd.alloc (.cells #[.string ⟨#[73, 78, 67]⟩, .string ⟨#[68, 69, 67]⟩] 9) = z := ⟨_, rfl⟩
  have BA : Hid (Below wd.heap.size wd wA) := by rw [← hwA]; exact up_alloc _ _
  have VA : Hid (wA.heap[nb]? = some (Obj.cells #[.string ⟨#[73, 78, 67]⟩, .string ⟨#[68, 69, 67]⟩] 9 (0, 0))) := by rw [← hwA, ← hnb]; exact heap_alloc_new _ _
  have HWA := Lib.hid hwA
  have HNB := Lib.hid hnb
  clear hwA hnb
  refine Mixed.wpMixT_both rfl (by kernel_rfl) rfl (by kernel_rfl) ?_ ?_
  · go_wp2
    rw [HWA.out, HNB.out]
    refine ⟨KC.out _ BA.out, ?_⟩
    refine Mixed.wpMixT_pure rfl (by kernel_rfl) (.pointer (some ⟨nb, 0, none⟩)) (fun w h => by go_simp; try rfl) ?_
    refine Mixed.wpMixT_both rfl (by kernel_rfl) rfl (by kernel_rfl) ?_ ?_
    · have va := Lib.cell_of_heap VA.out 0
      go_wp2
      refine ⟨KC.out _ BA.out, ?_⟩
      clear va
      refine Mixed.wpMixT_loud rfl (by kernel_rfl) ?_
      go_wp2_with fail
      refine (rone_any (p0, p1, p2) wA).mono ?_
      rintro e w5 ⟨v, rfl, hO, hb5⟩
      obtain ⟨A, cap, rfl, -, -⟩ := hO.ops
      have HBT := BA.out.trans (hb5.mono BA.out.size)
      have OT := hO.lift (Nat.le_trans HU.out BA.out.size)
      clear hO hb5
      go_wp2
      refine ⟨KC.out _ HBT, ?_⟩
      simp only [Mixed.wpMixT, List.drop_succ_cons, List.drop_zero]
      go_wp2_with fail
      refine (FN.out _ A cap HBT OT).mono ?_
      rintro e w6 ⟨rfl, OY, RX, UX⟩
      obtain ⟨z0, z1, z2, z3⟩ := RX.cells
      go_wp2
      obtain ⟨wz, hwz, q1, q2, q3⟩ := ri_put RX ⟨#[73, 78, 67]⟩ (.slice A 1 cap)
      rw [hwz]
      obtain ⟨s0, s1⟩ := q1.cells
      refine bodyPost_ret (v := .tuple #[.agg #[.string ⟨#[73, 78, 67]⟩, .slice A 1 cap], .string ⟨#[]⟩]) ?_ rfl ?_
      · simp [results, Tryz.results55, go_sem, s0, s1]
      · exact ⟨_, rfl, (by rw [HP.out]; exact own_put RX OY.out q3), UX.trans (q2.mono (by have := HN.out; omega))⟩
    · skip
      go_wp2_with fail
      refine (rone_any (p0, p1, p2) wA).mono ?_
      rintro e w5 ⟨v, rfl, hO, hb5⟩
      obtain ⟨A, cap, rfl, -, -⟩ := hO.ops
      have HBT := BA.out.trans (hb5.mono BA.out.size)
      have OT := hO.lift (Nat.le_trans HU.out BA.out.size)
      have va := Lib.cell_of_heap ((hb5.block nb (Array.getElem?_eq_some_iff.1 VA.out).1).trans VA.out) 0
      clear hO hb5
      go_wp2
      refine ⟨KC.out _ HBT, ?_⟩
      refine Mixed.wpMixT_loud rfl (by kernel_rfl) ?_
      go_wp2
      refine ⟨KC.out _ HBT, ?_⟩
      clear va
      simp only [Mixed.wpMixT, List.drop_succ_cons, List.drop_zero]
      go_wp2_with fail
      refine (FN.out _ A cap HBT OT).mono ?_
      rintro e w6 ⟨rfl, OY, RX, UX⟩
      obtain ⟨z0, z1, z2, z3⟩ := RX.cells
      go_wp2
      obtain ⟨wz, hwz, q1, q2, q3⟩ := ri_put RX ⟨#[73, 78, 67]⟩ (.slice A 1 cap)
      rw [hwz]
      obtain ⟨s0, s1⟩ := q1.cells
      refine bodyPost_ret (v := .tuple #[.agg #[.string ⟨#[73, 78, 67]⟩, .slice A 1 cap], .string ⟨#[]⟩]) ?_ rfl ?_
      · simp [results, Tryz.results55, go_sem, s0, s1]
      · exact ⟨_, rfl, (by rw [HP.out]; exact own_put RX OY.out q3), UX.trans (q2.mono (by have := HN.out; omega))⟩
  · skip
    go_wp2_with fail
    refine (rone_any (p0, p1, p2) wd).mono ?_
    rintro e w5 ⟨v, rfl, hO, hb5⟩
    obtain ⟨A, cap, rfl, -, -⟩ := hO.ops
    have HB5 := hb5
    have HBT : Below wd.heap.size wd (w5.alloc (.cells #[.string ⟨#[73, 78, 67]⟩, .string ⟨#[68, 69, 67]⟩] 9)) := hb5.trans ((up_alloc w5 _).mono hb5.size)
    have OT := World.ownsRow.alloc (hO.lift HU.out) (.cells #[.string ⟨#[73, 78, 67]⟩, .string ⟨#[68, 69, 67]⟩] 9)
    clear hO hb5
    go_wp2
    refine ⟨KC.out _ HB5, ?_⟩
    refine Mixed.wpMixT_loud rfl (by kernel_rfl) ?_
    go_wp2
    refine ⟨KC.out _ HBT, ?_⟩
    refine Mixed.wpMixT_pure rfl (by kernel_rfl) (.pointer (some ⟨w5.heap.size, 0, none⟩)) (fun w h => by go_simp; try rfl) ?_
    refine Mixed.wpMixT_loud rfl (by kernel_rfl) ?_
    go_wp2
    refine ⟨KC.out _ HBT, ?_⟩
    simp only [Mixed.wpMixT, List.drop_succ_cons, List.drop_zero]
    go_wp2_with fail
    refine (FN.out _ A cap HBT OT).mono ?_
    rintro e w6 ⟨rfl, OY, RX, UX⟩
    obtain ⟨z0, z1, z2, z3⟩ := RX.cells
    go_wp2
    obtain ⟨wz, hwz, q1, q2, q3⟩ := ri_put RX ⟨#[73, 78, 67]⟩ (.slice A 1 cap)
    rw [hwz]
    obtain ⟨s0, s1⟩ := q1.cells
    refine bodyPost_ret (v := .tuple #[.agg #[.string ⟨#[73, 78, 67]⟩, .slice A 1 cap], .string ⟨#[]⟩]) ?_ rfl ?_
    · simp [results, Tryz.results55, go_sem, s0, s1]
    · exact ⟨_, rfl, (by rw [HP.out]; exact own_put RX OY.out q3), UX.trans (q2.mono (by have := HN.out; omega))⟩
theorem low_3_o (y : Int) (hy : 0 ≤ y ∧ y ≤ 7) (hq : y % 2 = 1) (w : World) : Calls Tryz.prog 55 #[.int .i64 y, .int .i64 3] w (RetI w [68, 69, 67] [rpT (y / 2) 3] []) := by
  have KQ : Hid (y % 2 = 1) := hq
  clear hq
  obtain ⟨w0, hw0, rz0, bl0⟩ := ri_start w
  obtain ⟨n, hn⟩ : ∃ n, w.heap.size = n := ⟨_, rfl⟩
  have Rw0 : Hid (Rz w0 n) := by rw [← hn]; exact rz0
  have Uw0 : Hid (Below w.heap.size w w0) := bl0
  have HN := Lib.hid hn
  clear rz0 bl0
  go_enter Tryz.func55, Tryz.ntmps55
  obtain ⟨⟨p0, p1, p2⟩, hp⟩ : ∃ x : Tr, rpT (y / 2) 3 = x := ⟨_, rfl⟩
  have HP := Lib.hid hp
  have hrp := rrp_any (y / 2) 3 w0
  rw [hp] at hrp
  clear hp
  go_wp2_with fail
  refine hrp.mono ?_
  rintro e w1 ⟨rfl, hb1⟩
  have Rw1 := Lib.hid (Rw0.out.all hb1)
  have Uw1 : Hid (Below w.heap.size w w1) := up Uw0.out hb1
  clear Rw0 Uw0 hb1
  clear hrp hw0
  simp only [trV]
  go_upto_region 2 with fail
  obtain ⟨bP, hbP⟩ : ∃ b, w1.heap.size = b := ⟨_, rfl⟩
  obtain ⟨w2, hw2⟩ : ∃ v, w1.alloc (.cells #[.int .i64 p0, .int .i64 p1, .int .i64 p2] 69) = v := ⟨_, rfl⟩
  have hb2 : Below w1.heap.size w1 w2 := by rw [← hw2]; exact up_alloc _ _
  have Pw2 : Hid (OpV w2 bP (p0, p1, p2)) := by rw [← hw2, ← hbP]; exact opv_new _ _ _ _
  rw [hw2, hbP]
  clear hw2
  have Rw2 := Lib.hid (Rw1.out.all hb2)
  have Uw2 : Hid (Below w.heap.size w w2) := up Uw1.out hb2
  clear Rw1 Uw1 hb2
  go_upto_region 3 with fail
  rw [KQ.out]
  go_wp2_with fail
  refine (rrp_any 2 3 w2).mono ?_
  rintro e w3 ⟨rfl, hb3⟩
  have Rw3 := Lib.hid (Rw2.out.all hb3)
  have Uw3 : Hid (Below w.heap.size w w3) := up Uw2.out hb3
  have Pw3 := Lib.hid (Pw2.out.all hb3)
  clear Rw2 Uw2 Pw2 hb3
  simp only [trV]
  simp only [rpT, show ¬ ((2 : Int) = 3) by decide, if_false]
  go_upto_region 4 with fail
  obtain ⟨bH, hbH⟩ : ∃ b, w3.heap.size = b := ⟨_, rfl⟩
  obtain ⟨w4, hw4⟩ : ∃ v, w3.alloc (.cells #[.int .i64 3, .int .i64 2, .int .i64 0] 69) = v := ⟨_, rfl⟩
  have hb4 : Below w3.heap.size w3 w4 := by rw [← hw4]; exact up_alloc _ _
  have Hw4 : Hid (OpV w4 bH (3, 2, 0)) := by rw [← hw4, ← hbH]; exact opv_new _ _ _ _
  rw [hw4, hbH]
  clear hw4
  have Rw4 := Lib.hid (Rw3.out.all hb4)
  have Uw4 : Hid (Below w.heap.size w w4) := up Uw3.out hb4
  have Pw4 := Lib.hid (Pw3.out.all hb4)
  clear Rw3 Uw3 Pw3 hb4
  go_upto_region 34 with fail
  obtain ⟨wd, hwd⟩ : ∃ v, w4.drew = v := ⟨_, rfl⟩
  have hbd : Below w4.heap.size w4 wd := by rw [← hwd]; exact below_drewN _ _ 1
  have KR : Hid (∀ wx : World, Below wd.heap.size wd wx → Rz wx n ∧ Below w.heap.size w wx) := fun wx hb => ⟨(Rw4.out.all hbd).all hb, up (up Uw4.out hbd) hb⟩
  have KC : Hid (∀ wx : World, Below wd.heap.size wd wx → wx.cell? ⟨bP, 0, none⟩ = some (.int .i64 p0) ∧ wx.cell? ⟨bP, 1, none⟩ = some (.int .i64 p1) ∧ wx.cell? ⟨bP, 2, none⟩ = some (.int .i64 p2)) := fun wx hb => by
    obtain ⟨Pa, Pb, Pc, -⟩ := ((Pw4.out.all hbd).all hb).cells
    exact ⟨Pa, Pb, Pc⟩
  have HU : Hid (w.heap.size ≤ wd.heap.size) := (KR.out wd (Below.refl _ _)).2.size
  have FN : Hid (∀ (wt : World) (A : Option Addr) (cap : Nat), Below wd.heap.size wd wt → OwnT wt w.heap.size (.slice A 1 cap) [(p0, p1, p2)] → Calls Tryz.prog 56 #[.string ⟨#[68, 69, 67]⟩, .slice A 1 cap] wt (fun e w6 => e = .returned (.agg #[.string ⟨#[68, 69, 67]⟩, .slice A 1 cap]) ∧ Hid (OwnT w6 w.heap.size (.slice A 1 cap) [(p0, p1, p2)]) ∧ Rz w6 n ∧ Below w.heap.size w w6)) := fun wt A cap hb hO => by
    refine (rins_any ⟨#[68, 69, 67]⟩ A 1 cap wt).mono ?_
    rintro e w6 ⟨rfl, hb6⟩
    have K6 := KR.out w6 (hb.trans (hb6.mono hb.size))
    exact ⟨rfl, hO.below hb6, K6.1, K6.2⟩
  have K0 := Lib.hid (KC.out wd (Below.refl _ _))
  refine Mixed.wp_region_mixedT (fun w' => w'.cell? ⟨bP, 0, none⟩ = some (.int .i64 p0) ∧ w'.cell? ⟨bP, 1, none⟩ = some (.int .i64 p1) ∧ w'.cell? ⟨bP, 2, none⟩ = some (.int .i64 p2)) 6 (.pure 1 (.pure 4 (.two 0 (.pure 2 (.two 3 (.one 5 .done) 5 (.one 3 .done))) 5 (.one 0 (.pure 2 (.one 3 .done)))))) (by kernel_rfl) (by kernel_rfl) (by rw [hwd]; exact K0.out) ?_
  rw [hwd]
  clear hwd hbd K0
  refine Mixed.wpMixT_pure rfl (by kernel_rfl) (.int .i64 1) (fun w h => by go_simp; try rfl) ?_
  refine Mixed.wpMixT_pure rfl (by kernel_rfl) (.agg #[.int .i64 p0, .int .i64 p1, .int .i64 p2]) (fun w h => by obtain ⟨h0, h1, h2⟩ := h; go_simp; try rfl) ?_
  obtain ⟨nb, hnb⟩ : ∃ z, wd.heap.size = z := ⟨_, rfl⟩
  obtain ⟨wA, hwA⟩ : ∃ z, wd.alloc (.cells #[.string ⟨#[73, 78, 67]⟩, .string ⟨#[68, 69, 67]⟩] 9) = z := ⟨_, rfl⟩
  have BA : Hid (Below wd.heap.size wd wA) := by rw [← hwA]; exact up_alloc _ _
  have VA : Hid (wA.heap[nb]? = some (Obj.cells #[.string ⟨#[73, 78, 67]⟩, .string ⟨#[68, 69, 67]⟩] 9 (0, 0))) := by rw [← hwA, ← hnb]; exact heap_alloc_new _ _
  have HWA := Lib.hid hwA
  have HNB := Lib.hid hnb
  clear hwA hnb
  refine Mixed.wpMixT_both rfl (by kernel_rfl) rfl (by kernel_rfl) ?_ ?_
  · go_wp2
    rw [HWA.out, HNB.out]
    refine ⟨KC.out _ BA.out, ?_⟩
    refine Mixed.wpMixT_pure rfl (by kernel_rfl) (.pointer (some ⟨nb, 1, none⟩)) (fun w h => by go_simp; try rfl) ?_
    refine Mixed.wpMixT_both rfl (by kernel_rfl) rfl (by kernel_rfl) ?_ ?_
    · have va := Lib.cell_of_heap VA.out 1
      go_wp2
      refine ⟨KC.out _ BA.out, ?_⟩
      clear va
      refine Mixed.wpMixT_loud rfl (by kernel_rfl) ?_
      go_wp2_with fail
      refine (rone_any (p0, p1, p2) wA).mono ?_
      rintro e w5 ⟨v, rfl, hO, hb5⟩
      obtain ⟨A, cap, rfl, -, -⟩ := hO.ops
      have HBT := BA.out.trans (hb5.mono BA.out.size)
      have OT := hO.lift (Nat.le_trans HU.out BA.out.size)
      clear hO hb5
      go_wp2
      refine ⟨KC.out _ HBT, ?_⟩
      simp only [Mixed.wpMixT, List.drop_succ_cons, List.drop_zero]
      go_wp2_with fail
      refine (FN.out _ A cap HBT OT).mono ?_
      rintro e w6 ⟨rfl, OY, RX, UX⟩
      obtain ⟨z0, z1, z2, z3⟩ := RX.cells
      go_wp2
      obtain ⟨wz, hwz, q1, q2, q3⟩ := ri_put RX ⟨#[68, 69, 67]⟩ (.slice A 1 cap)
      rw [hwz]
      obtain ⟨s0, s1⟩ := q1.cells
      refine bodyPost_ret (v := .tuple #[.agg #[.string ⟨#[68, 69, 67]⟩, .slice A 1 cap], .string ⟨#[]⟩]) ?_ rfl ?_
      · simp [results, Tryz.results55, go_sem, s0, s1]
      · exact ⟨_, rfl, (by rw [HP.out]; exact own_put RX OY.out q3), UX.trans (q2.mono (by have := HN.out; omega))⟩
    · skip
      go_wp2_with fail
      refine (rone_any (p0, p1, p2) wA).mono ?_
      rintro e w5 ⟨v, rfl, hO, hb5⟩
      obtain ⟨A, cap, rfl, -, -⟩ := hO.ops
      have HBT := BA.out.trans (hb5.mono BA.out.size)
      have OT := hO.lift (Nat.le_trans HU.out BA.out.size)
      have va := Lib.cell_of_heap ((hb5.block nb (Array.getElem?_eq_some_iff.1 VA.out).1).trans VA.out) 1
      clear hO hb5
      go_wp2
      refine ⟨KC.out _ HBT, ?_⟩
      refine Mixed.wpMixT_loud rfl (by kernel_rfl) ?_
      go_wp2
      refine ⟨KC.out _ HBT, ?_⟩
      clear va
      simp only [Mixed.wpMixT, List.drop_succ_cons, List.drop_zero]
      go_wp2_with fail
      refine (FN.out _ A cap HBT OT).mono ?_
      rintro e w6 ⟨rfl, OY, RX, UX⟩
      obtain ⟨z0, z1, z2, z3⟩ := RX.cells
      go_wp2
      obtain ⟨wz, hwz, q1, q2, q3⟩ := ri_put RX ⟨#[68, 69, 67]⟩ (.slice A 1 cap)
      rw [hwz]
      obtain ⟨s0, s1⟩ := q1.cells
      refine bodyPost_ret (v := .tuple #[.agg #[.string ⟨#[68, 69, 67]⟩, .slice A 1 cap], .string ⟨#[]⟩]) ?_ rfl ?_
      · simp [results, Tryz.results55, go_sem, s0, s1]
      · exact ⟨_, rfl, (by rw [HP.out]; exact own_put RX OY.out q3), UX.trans (q2.mono (by have := HN.out; omega))⟩
  · skip
    go_wp2_with fail
    refine (rone_any (p0, p1, p2) wd).mono ?_
    rintro e w5 ⟨v, rfl, hO, hb5⟩
    obtain ⟨A, cap, rfl, -, -⟩ := hO.ops
    have HB5 := hb5
    have HBT : Below wd.heap.size wd (w5.alloc (.cells #[.string ⟨#[73, 78, 67]⟩, .string ⟨#[68, 69, 67]⟩] 9)) := hb5.trans ((up_alloc w5 _).mono hb5.size)
    have OT := World.ownsRow.alloc (hO.lift HU.out) (.cells #[.string ⟨#[73, 78, 67]⟩, .string ⟨#[68, 69, 67]⟩] 9)
    clear hO hb5
    go_wp2
    refine ⟨KC.out _ HB5, ?_⟩
    refine Mixed.wpMixT_loud rfl (by kernel_rfl) ?_
    go_wp2
    refine ⟨KC.out _ HBT, ?_⟩
    refine Mixed.wpMixT_pure rfl (by kernel_rfl) (.pointer (some ⟨w5.heap.size, 1, none⟩)) (fun w h => by go_simp; try rfl) ?_
    refine Mixed.wpMixT_loud rfl (by kernel_rfl) ?_
    go_wp2
    refine ⟨KC.out _ HBT, ?_⟩
    simp only [Mixed.wpMixT, List.drop_succ_cons, List.drop_zero]
    go_wp2_with fail
    refine (FN.out _ A cap HBT OT).mono ?_
    rintro e w6 ⟨rfl, OY, RX, UX⟩
    obtain ⟨z0, z1, z2, z3⟩ := RX.cells
    go_wp2
    obtain ⟨wz, hwz, q1, q2, q3⟩ := ri_put RX ⟨#[68, 69, 67]⟩ (.slice A 1 cap)
    rw [hwz]
    obtain ⟨s0, s1⟩ := q1.cells
    refine bodyPost_ret (v := .tuple #[.agg #[.string ⟨#[68, 69, 67]⟩, .slice A 1 cap], .string ⟨#[]⟩]) ?_ rfl ?_
    · simp [results, Tryz.results55, go_sem, s0, s1]
    · exact ⟨_, rfl, (by rw [HP.out]; exact own_put RX OY.out q3), UX.trans (q2.mono (by have := HN.out; omega))⟩
end Go.Proofs.YtipgecdfnbldnaaGreatDoor
