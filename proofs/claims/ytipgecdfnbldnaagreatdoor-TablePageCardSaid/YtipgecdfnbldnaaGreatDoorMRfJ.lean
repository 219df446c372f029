/-
  The reference's cb.
-/
import Derived.Test.YtipgecdfnbldnaaGreatDoorMRfI
import Derived.Test.YtipgecdfnbldnaaGreatDoorBaA
import Derived.Deep.DeepCutAuto
import Derived.Deep.Cut
import Derived.StillTail
import Derived.StillTailTactics
import Derived.RegionTactic
set_option linter.all false
set_option maxRecDepth 100000
set_option maxHeartbeats 4000000
namespace Go.Proofs.YtipgecdfnbldnaaGreatDoor
open Go.RowKit Go.Shelf
attribute [local irreducible] Go.Mixed.wpMix Go.Mixed.wpMixT
def cbN (op : Nat) (x : Tr) : Str × List Tr := if op / 64 = 0 then (([[82, 76, 67], [82, 82, 67], [82, 76], [82, 82], [83, 76, 65], [83, 82, 65], [83, 76, 76], [83, 82, 76]] : List Str).getD (op / 8 % 8) [], [x]) else (if op / 64 = 1 then [66, 73, 84] else if op / 64 = 2 then [82, 69, 83] else [83, 69, 84], [(6, 0, (op / 8 % 8 : Nat)), x])
theorem cb_0_0 (op : Nat) (hop : op < 256) (x0 x1 x2 : Int) (hx : op / 64 = 0) (hy : op / 8 % 8 = 0)(w : World) : Calls Tryz.prog 28 #[.int .u8 op, .agg #[.int .i64 x0, .int .i64 x1, .int .i64 x2]] w (RetJ w [82, 76, 67] [(x0, x1, x2)]) := by
  have HE : Hid ((op : Int) / 64 = 0 ∧ (op : Int) / 8 % 8 = 0) := (by omega : (op : Int) / 64 = 0 ∧ (op : Int) / 8 % 8 = 0)
  clear hx hy
  obtain ⟨w0, hw0, C0, R0, B0⟩ := alu_start w (x0, x1, x2)
  simp only at hw0 C0
  obtain ⟨bX, hbX⟩ : ∃ n, w.heap.size = n := ⟨_, rfl⟩
  rw [hbX] at C0 R0
  have HN0 := Lib.hid hbX
  have R0 := Lib.hid R0
  have B0 := Lib.hid B0
  have C0 := Lib.hid C0
  go_enter Tryz.func28, Tryz.ntmps28
  go_upto_region 3 with fail
  obtain ⟨e1, e2⟩ := HE.out
  rw [e1, e2]
  clear e1 e2 HE
  obtain ⟨n, hn⟩ : ∃ n, bX + 1 = n := ⟨_, rfl⟩
  rw [hn]
  have Rw0 : Hid (Rz w0 n) := by rw [← hn]; exact R0.out
  have Uw0 : Hid (Below w.heap.size w w0) := B0.out
  have Xw0 : Hid (OpV w0 bX (x0, x1, x2)) := C0.out
  have HN : Hid (w.heap.size + 1 = n) := by rw [HN0.out]; exact hn
  clear R0 B0 C0 hn hbX
  clear HN0
  go_upto_region 4 with fail
  obtain ⟨wd, hwd⟩ : ∃ v, w0.drew = v := ⟨_, rfl⟩
  have hbd : Below w0.heap.size w0 wd := by rw [← hwd]; exact below_drewN _ _ 1
  have KR : Hid (∀ wx : World, Below wd.heap.size wd wx → Rz wx n ∧ Below w.heap.size w wx) := fun wx hb => ⟨(Rw0.out.all hbd).all hb, up (up Uw0.out hbd) hb⟩
  have KC : Hid (∀ wx : World, Below wd.heap.size wd wx → wx.cell? ⟨bX, 0, none⟩ = some (.int .i64 x0) ∧ wx.cell? ⟨bX, 1, none⟩ = some (.int .i64 x1) ∧ wx.cell? ⟨bX, 2, none⟩ = some (.int .i64 x2)) := fun wx hb => by
    obtain ⟨Xa, Xb, Xc, -⟩ := ((Xw0.out.all hbd).all hb).cells
    exact ⟨Xa, Xb, Xc⟩
  have HU : Hid (w.heap.size ≤ wd.heap.size) := (KR.out wd (Below.refl _ _)).2.size
  have FN : Hid (∀ (wt : World) (A : Option Addr) (cap : Nat), Below wd.heap.size wd wt → OwnT wt w.heap.size (.slice A 1 cap) [(x0, x1, x2)] → Calls Tryz.prog 56 #[.string ⟨#[82, 76, 67]⟩, .slice A 1 cap] wt (fun e w6 => e = .returned (.agg #[.string ⟨#[82, 76, 67]⟩, .slice A 1 cap]) ∧ Hid (OwnT w6 w.heap.size (.slice A 1 cap) [(x0, x1, x2)]) ∧ Rz w6 n ∧ Below w.heap.size w w6)) := fun wt A cap hb hO => by
    refine (rins_any ⟨#[82, 76, 67]⟩ A 1 cap wt).mono ?_
    rintro e w6 ⟨rfl, hb6⟩
    have K6 := KR.out w6 (hb.trans (hb6.mono hb.size))
    exact ⟨rfl, hO.below hb6, K6.1, K6.2⟩
  have K0 := Lib.hid (KC.out wd (Below.refl _ _))
  refine Mixed.wp_region_mixedT (fun w' => w'.cell? ⟨bX, 0, none⟩ = some (.int .i64 x0) ∧ w'.cell? ⟨bX, 1, none⟩ = some (.int .i64 x1) ∧ w'.cell? ⟨bX, 2, none⟩ = some (.int .i64 x2)) 6 (.pure 1 (.pure 4 (.two 0 (.pure 2 (.two 3 (.one 5 .done) 5 (.one 3 .done))) 5 (.one 0 (.pure 2 (.one 3 .done)))))) (by kernel_rfl) (by kernel_rfl) (by rw [hwd]; exact K0.out) ?_
  rw [hwd]
  clear hwd hbd K0
  refine Mixed.wpMixT_pure rfl (by kernel_rfl) (.int .i64 0) (fun w h => by go_simp; try rfl) ?_
  refine Mixed.wpMixT_pure rfl (by kernel_rfl) (.agg #[.int .i64 x0, .int .i64 x1, .int .i64 x2]) (fun w h => by obtain ⟨h0, h1, h2⟩ := h; go_simp; try rfl) ?_
  obtain ⟨nb, hnb⟩ : ∃ z, wd.heap.size = z := ⟨_, rfl⟩
  obtain ⟨wA, hwA⟩ : ∃ z, wd.alloc (.cells #[.string ⟨#[82, 76, 67]⟩, .string ⟨#[82, 82, 67]⟩, .string ⟨#[82, 76]⟩, .string ⟨#[82, 82]⟩, .string ⟨#[83, 76, 65]⟩, .string ⟨#[83, 82, 65]⟩, .string ⟨#[83, 76, 76]⟩, .string ⟨#[83, 82, 76]⟩] 9) = z := ⟨_, rfl⟩
  have BA : Hid (Below wd.heap.size wd wA) := by rw [← hwA]; exact up_alloc _ _
  have VA : Hid (wA.heap[nb]? = some (Obj.cells #[.string ⟨#[82, 76, 67]⟩, .string ⟨#[82, 82, 67]⟩, .string ⟨#[82, 76]⟩, .string ⟨#[82, 82]⟩, .string ⟨#[83, 76, 65]⟩, .string ⟨#[83, 82, 65]⟩, .string ⟨#[83, 76, 76]⟩, .string ⟨#[83, 82, 76]⟩] 9 (0, 0))) := by rw [← hwA, ← hnb]; exact heap_alloc_new _ _
  have HWA := Lib.hid hwA
  have HNB := Lib.hid hnb
  clear hwA hnb
  refine Mixed.wpMixT_both rfl (by kernel_rfl) rfl (by kernel_rfl) ?_ ?_
  · go_wp2
    rw [HWA.out, HNB.out]
    refine ⟨KC.out _ BA.out, ?_⟩
    refine Mixed.wpMixT_pure rfl (by kernel_rfl) (.pointer (some ⟨nb, 0, none⟩)) (fun w h => by go_simp; try rfl) ?_
    refine Mixed.wpMixT_both rfl (by kernel_rfl) rfl (by kernel_rfl) ?_ ?_
    · have va := Lib.cell_of_heap VA.out 0
      go_wp2
      refine ⟨KC.out _ BA.out, ?_⟩
      clear va
      refine Mixed.wpMixT_loud rfl (by kernel_rfl) ?_
      go_wp2_with fail
      refine (rone_any (x0, x1, x2) wA).mono ?_
      rintro e w5 ⟨v, rfl, hO, hb5⟩
      obtain ⟨A, cap, rfl, -, -⟩ := hO.ops
      have HBT := BA.out.trans (hb5.mono BA.out.size)
      have OT := hO.lift (Nat.le_trans HU.out BA.out.size)
      clear hO hb5
      go_wp2
      refine ⟨KC.out _ HBT, ?_⟩
      simp only [Mixed.wpMixT, List.drop_succ_cons, List.drop_zero]
      go_wp2_with fail
      refine (FN.out _ A cap HBT OT).mono ?_
      rintro e w6 ⟨rfl, OY, RX, UX⟩
      obtain ⟨z0, z1, z2, z3⟩ := RX.cells
      go_wp2
      obtain ⟨wz, hwz, q1, q2, q3⟩ := ri_put RX ⟨#[82, 76, 67]⟩ (.slice A 1 cap)
      rw [hwz]
      obtain ⟨s0, s1⟩ := q1.cells
      refine bodyPost_ret (v := .agg #[.string ⟨#[82, 76, 67]⟩, .slice A 1 cap]) ?_ rfl ?_
      · simp [results, Tryz.results28, go_sem, s0, s1]
      · exact ⟨_, rfl, own_put RX OY.out q3, UX.trans (q2.mono (by have := HN.out; omega))⟩
    · skip
      go_wp2_with fail
      refine (rone_any (x0, x1, x2) wA).mono ?_
      rintro e w5 ⟨v, rfl, hO, hb5⟩
      obtain ⟨A, cap, rfl, -, -⟩ := hO.ops
      have HBT := BA.out.trans (hb5.mono BA.out.size)
      have OT := hO.lift (Nat.le_trans HU.out BA.out.size)
      have va := Lib.cell_of_heap ((hb5.block nb (Array.getElem?_eq_some_iff.1 VA.out).1).trans VA.out) 0
      clear hO hb5
      go_wp2
      refine ⟨KC.out _ HBT, ?_⟩
      refine Mixed.wpMixT_loud rfl (by kernel_rfl) ?_
      go_wp2
      refine ⟨KC.out _ HBT, ?_⟩
      clear va
      simp only [Mixed.wpMixT, List.drop_succ_cons, List.drop_zero]
      go_wp2_with fail
      refine (FN.out _ A cap HBT OT).mono ?_
      rintro e w6 ⟨rfl, OY, RX, UX⟩
      obtain ⟨z0, z1, z2, z3⟩ := RX.cells
      go_wp2
      obtain ⟨wz, hwz, q1, q2, q3⟩ := ri_put RX ⟨#[82, 76, 67]⟩ (.slice A 1 cap)
      rw [hwz]
      obtain ⟨s0, s1⟩ := q1.cells
      refine bodyPost_ret (v := .agg #[.string ⟨#[82, 76, 67]⟩, .slice A 1 cap]) ?_ rfl ?_
      · simp [results, Tryz.results28, go_sem, s0, s1]
      · exact ⟨_, rfl, own_put RX OY.out q3, UX.trans (q2.mono (by have := HN.out; omega))⟩
  · skip
    go_wp2_with fail
    refine (rone_any (x0, x1, x2) wd).mono ?_
    rintro e w5 ⟨v, rfl, hO, hb5⟩
    obtain ⟨A, cap, rfl, -, -⟩ := hO.ops
    have HB5 := hb5
    have HBT : Below wd.heap.size wd (w5.alloc (.cells #[.string ⟨#[82, 76, 67]⟩, .string ⟨#[82, 82, 67]⟩, .string ⟨#[82, 76]⟩, .string ⟨#[82, 82]⟩, .string ⟨#[83, 76, 65]⟩, .string ⟨#[83, 82, 65]⟩, .string ⟨#[83, 76, 76]⟩, .string ⟨#[83, 82, 76]⟩] 9)) := hb5.trans ((up_alloc w5 _).mono hb5.size)
    have OT := World.ownsRow.alloc (hO.lift HU.out) (.cells #[.string ⟨#[82, 76, 67]⟩, .string ⟨#[82, 82, 67]⟩, .string ⟨#[82, 76]⟩, .string ⟨#[82, 82]⟩, .string ⟨#[83, 76, 65]⟩, .string ⟨#[83, 82, 65]⟩, .string ⟨#[83, 76, 76]⟩, .string ⟨#[83, 82, 76]⟩] 9)
    clear hO hb5
    go_wp2
    refine ⟨KC.out _ HB5, ?_⟩
    refine Mixed.wpMixT_loud rfl (by kernel_rfl) ?_
    go_wp2
    refine ⟨KC.out _ HBT, ?_⟩
    refine Mixed.wpMixT_pure rfl (by kernel_rfl) (.pointer (some ⟨w5.heap.size, 0, none⟩)) (fun w h => by go_simp; try rfl) ?_
    refine Mixed.wpMixT_loud rfl (by kernel_rfl) ?_
    go_wp2
    refine ⟨KC.out _ HBT, ?_⟩
    simp only [Mixed.wpMixT, List.drop_succ_cons, List.drop_zero]
    go_wp2_with fail
    refine (FN.out _ A cap HBT OT).mono ?_
    rintro e w6 ⟨rfl, OY, RX, UX⟩
    obtain ⟨z0, z1, z2, z3⟩ := RX.cells
    go_wp2
    obtain ⟨wz, hwz, q1, q2, q3⟩ := ri_put RX ⟨#[82, 76, 67]⟩ (.slice A 1 cap)
    rw [hwz]
    obtain ⟨s0, s1⟩ := q1.cells
    refine bodyPost_ret (v := .agg #[.string ⟨#[82, 76, 67]⟩, .slice A 1 cap]) ?_ rfl ?_
    · simp [results, Tryz.results28, go_sem, s0, s1]
    · exact ⟨_, rfl, own_put RX OY.out q3, UX.trans (q2.mono (by have := HN.out; omega))⟩
theorem cb_0_1 (op : Nat) (hop : op < 256) (x0 x1 x2 : Int) (hx : op / 64 = 0) (hy : op / 8 % 8 = 1)(w : World) : Calls Tryz.prog 28 #[.int .u8 op, .agg #[.int .i64 x0, .int .i64 x1, .int .i64 x2]] w (RetJ w [82, 82, 67] [(x0, x1, x2)]) := by
  have HE : Hid ((op : Int) / 64 = 0 ∧ (op : Int) / 8 % 8 = 1) := (by omega : (op : Int) / 64 = 0 ∧ (op : Int) / 8 % 8 = 1)
  clear hx hy
  obtain ⟨w0, hw0, C0, R0, B0⟩ := alu_start w (x0, x1, x2)
  simp only at hw0 C0
  obtain ⟨bX, hbX⟩ : ∃ n, w.heap.size = n := ⟨_, rfl⟩
  rw [hbX] at C0 R0
  have HN0 := Lib.hid hbX
  have R0 := Lib.hid R0
  have B0 := Lib.hid B0
  have C0 := Lib.hid C0
  go_enter Tryz.func28, Tryz.ntmps28
  go_upto_region 3 with fail
  obtain ⟨e1, e2⟩ := HE.out
  rw [e1, e2]
  clear e1 e2 HE
  obtain ⟨n, hn⟩ : ∃ n, bX + 1 = n := ⟨_, rfl⟩
  rw [hn]
  have Rw0 : Hid (Rz w0 n) := by rw [← hn]; exact R0.out
  have Uw0 : Hid (Below w.heap.size w w0) := B0.out
  have Xw0 : Hid (OpV w0 bX (x0, x1, x2)) := C0.out
  have HN : Hid (w.heap.size + 1 = n) := by rw [HN0.out]; exact hn
  clear R0 B0 C0 hn hbX
  clear HN0
  go_upto_region 4 with fail
  obtain ⟨wd, hwd⟩ : ∃ v, w0.drew = v := ⟨_, rfl⟩
  have hbd : Below w0.heap.size w0 wd := by rw [← hwd]; exact below_drewN _ _ 1
  have KR : Hid (∀ wx : World, Below wd.heap.size wd wx → Rz wx n ∧ Below w.heap.size w wx) := fun wx hb => ⟨(Rw0.out.all hbd).all hb, up (up Uw0.out hbd) hb⟩
  have KC : Hid (∀ wx : World, Below wd.heap.size wd wx → wx.cell? ⟨bX, 0, none⟩ = some (.int .i64 x0) ∧ wx.cell? ⟨bX, 1, none⟩ = some (.int .i64 x1) ∧ wx.cell? ⟨bX, 2, none⟩ = some (.int .i64 x2)) := fun wx hb => by
    obtain ⟨Xa, Xb, Xc, -⟩ := ((Xw0.out.all hbd).all hb).cells
    exact ⟨Xa, Xb, Xc⟩
  have HU : Hid (w.heap.size ≤ wd.heap.size) := (KR.out wd (Below.refl _ _)).2.size
  have FN : Hid (∀ (wt : World) (A : Option Addr) (cap : Nat), Below wd.heap.size wd wt → OwnT wt w.heap.size (.slice A 1 cap) [(x0, x1, x2)] → Calls Tryz.prog 56 #[.string ⟨#[82, 82, 67]⟩, .slice A 1 cap] wt (fun e w6 => e = .returned (.agg #[.string ⟨#[82, 82, 67]⟩, .slice A 1 cap]) ∧ Hid (OwnT w6 w.heap.size (.slice A 1 cap) [(x0, x1, x2)]) ∧ Rz w6 n ∧ Below w.heap.size w w6)) := fun wt A cap hb hO => by
    refine (rins_any ⟨#[82, 82, 67]⟩ A 1 cap wt).mono ?_
    rintro e w6 ⟨rfl, hb6⟩
    have K6 := KR.out w6 (hb.trans (hb6.mono hb.size))
    exact ⟨rfl, hO.below hb6, K6.1, K6.2⟩
  have K0 := Lib.hid (KC.out wd (Below.refl _ _))
  refine Mixed.wp_region_mixedT (fun w' => w'.cell? ⟨bX, 0, none⟩ = some (.int .i64 x0) ∧ w'.cell? ⟨bX, 1, none⟩ = some (.int .i64 x1) ∧ w'.cell? ⟨bX, 2, none⟩ = some (.int .i64 x2)) 6 (.pure 1 (.pure 4 (.two 0 (.pure 2 (.two 3 (.one 5 .done) 5 (.one 3 .done))) 5 (.one 0 (.pure 2 (.one 3 .done)))))) (by kernel_rfl) (by kernel_rfl) (by rw [hwd]; exact K0.out) ?_
  rw [hwd]
  clear hwd hbd K0
  refine Mixed.wpMixT_pure rfl (by kernel_rfl) (.int .i64 1) (fun w h => by go_simp; try rfl) ?_
  refine Mixed.wpMixT_pure rfl (by kernel_rfl) (.agg #[.int .i64 x0, .int .i64 x1, .int .i64 x2]) (fun w h => by obtain ⟨h0, h1, h2⟩ := h; go_simp; try rfl) ?_
  obtain ⟨nb, hnb⟩ : ∃ z, wd.heap.size = z := ⟨_, rfl⟩
  obtain ⟨wA, hwA⟩ : ∃ z, wd.alloc (.cells #[.string ⟨#[82, 76, 67]⟩, .string ⟨#[82, 82, 67]⟩, .string ⟨#[82, 76]⟩, .string ⟨#[82, 82]⟩, .string ⟨#[83, 76, 65]⟩, .string ⟨#[83, 82, 65]⟩, .string ⟨#[83, 76, 76]⟩, .string ⟨#[83, 82, 76]⟩] 9) = z := ⟨_, rfl⟩
  have BA : Hid (Below wd.heap.size wd wA) := by rw [← hwA]; exact up_alloc _ _
  have VA : Hid (wA.heap[nb]? = some (Obj.cells #[.string ⟨#[82, 76, 67]⟩, .string ⟨#[82, 82, 67]⟩, .string ⟨#[82, 76]⟩, .string ⟨#[82, 82]⟩, .string ⟨#[83, 76, 65]⟩, .string ⟨#[83, 82, 65]⟩, .string ⟨#[83, 76, 76]⟩, .string ⟨#[83, 82, 76]⟩] 9 (0, 0))) := by rw [← hwA, ← hnb]; exact heap_alloc_new _ _
  have HWA := Lib.hid hwA
  have HNB := Lib.hid hnb
  clear hwA hnb
  refine Mixed.wpMixT_both rfl (by kernel_rfl) rfl (by kernel_rfl) ?_ ?_
  · go_wp2
    rw [HWA.out, HNB.out]
    refine ⟨KC.out _ BA.out, ?_⟩
    refine Mixed.wpMixT_pure rfl (by kernel_rfl) (.pointer (some ⟨nb, 1, none⟩)) (fun w h => by go_simp; try rfl) ?_
    refine Mixed.wpMixT_both rfl (by kernel_rfl) rfl (by kernel_rfl) ?_ ?_
    · have va := Lib.cell_of_heap VA.out 1
      go_wp2
      refine ⟨KC.out _ BA.out, ?_⟩
      clear va
      refine Mixed.wpMixT_loud rfl (by kernel_rfl) ?_
      go_wp2_with fail
      refine (rone_any (x0, x1, x2) wA).mono ?_
      rintro e w5 ⟨v, rfl, hO, hb5⟩
      obtain ⟨A, cap, rfl, -, -⟩ := hO.ops
      have HBT := BA.out.trans (hb5.mono BA.out.size)
      have OT := hO.lift (Nat.le_trans HU.out BA.out.size)
      clear hO hb5
      go_wp2
      refine ⟨KC.out _ HBT, ?_⟩
      simp only [Mixed.wpMixT, List.drop_succ_cons, List.drop_zero]
      go_wp2_with fail
      refine (FN.out _ A cap HBT OT).mono ?_
      rintro e w6 ⟨rfl, OY, RX, UX⟩
      obtain ⟨z0, z1, z2, z3⟩ := RX.cells
      go_wp2
      obtain ⟨wz, hwz, q1, q2, q3⟩ := ri_put RX ⟨#[82, 82, 67]⟩ (.slice A 1 cap)
      rw [hwz]
      obtain ⟨s0, s1⟩ := q1.cells
      refine bodyPost_ret (v := .agg #[.string ⟨#[82, 82, 67]⟩, .slice A 1 cap]) ?_ rfl ?_
      · simp [results, Tryz.results28, go_sem, s0, s1]
      · exact ⟨_, rfl, own_put RX OY.out q3, UX.trans (q2.mono (by have := HN.out; omega))⟩
    · skip
      go_wp2_with fail
      refine (rone_any (x0, x1, x2) wA).mono ?_
      rintro e w5 ⟨v, rfl, hO, hb5⟩
      obtain ⟨A, cap, rfl, -, -⟩ := hO.ops
      have HBT := BA.out.trans (hb5.mono BA.out.size)
      have OT := hO.lift (Nat.le_trans HU.out BA.out.size)
      have va := Lib.cell_of_heap ((hb5.block nb (Array.getElem?_eq_some_iff.1 VA.out).1).trans VA.out) 1
      clear hO hb5
      go_wp2
      refine ⟨KC.out _ HBT, ?_⟩
      refine Mixed.wpMixT_loud rfl (by kernel_rfl) ?_
      go_wp2
      refine ⟨KC.out _ HBT, ?_⟩
      clear va
      simp only [Mixed.wpMixT, List.drop_succ_cons, List.drop_zero]
      go_wp2_with fail
      refine (FN.out _ A cap HBT OT).mono ?_
      rintro e w6 ⟨rfl, OY, RX, UX⟩
      obtain ⟨z0, z1, z2, z3⟩ := RX.cells
      go_wp2
      obtain ⟨wz, hwz, q1, q2, q3⟩ := ri_put RX ⟨#[82, 82, 67]⟩ (.slice A 1 cap)
      rw [hwz]
      obtain ⟨s0, s1⟩ := q1.cells
      refine bodyPost_ret (v := .agg #[.string ⟨#[82, 82, 67]⟩, .slice A 1 cap]) ?_ rfl ?_
      · simp [results, Tryz.results28, go_sem, s0, s1]
      · exact ⟨_, rfl, own_put RX OY.out q3, UX.trans (q2.mono (by have := HN.out; omega))⟩
  · skip
    go_wp2_with fail
    refine (rone_any (x0, x1, x2) wd).mono ?_
    rintro e w5 ⟨v, rfl, hO, hb5⟩
    obtain ⟨A, cap, rfl, -, -⟩ := hO.ops
    have HB5 := hb5
    have HBT : Below wd.heap.size wd (w5.alloc (.cells #[.string ⟨#[82, 76, 67]⟩, .string ⟨#[82, 82, 67]⟩, .string ⟨#[82, 76]⟩, .string ⟨#[82, 82]⟩, .string ⟨#[83, 76, 65]⟩, .string ⟨#[83, 82, 65]⟩, .string ⟨#[83, 76, 76]⟩, .string ⟨#[83, 82, 76]⟩] 9)) := hb5.trans ((up_alloc w5 _).mono hb5.size)
    have OT := World.ownsRow.alloc (hO.lift HU.out) (.cells #[.string ⟨#[82, 76, 67]⟩, .string ⟨#[82, 82, 67]⟩, .string ⟨#[82, 76]⟩, .string ⟨#[82, 82]⟩, .string ⟨#[83, 76, 65]⟩, .string ⟨#[83, 82, 65]⟩, .string ⟨#[83, 76, 76]⟩, .string ⟨#[83, 82, 76]⟩] 9)
    clear hO hb5
    go_wp2
    refine ⟨KC.out _ HB5, ?_⟩
    refine Mixed.wpMixT_loud rfl (by kernel_rfl) ?_
    go_wp2
    refine ⟨KC.out _ HBT, ?_⟩
    refine Mixed.wpMixT_pure rfl (by kernel_rfl) (.pointer (some ⟨w5.heap.size, 1, none⟩)) (fun w h => by go_simp; try rfl) ?_
    refine Mixed.wpMixT_loud rfl (by kernel_rfl) ?_
    go_wp2
    refine ⟨KC.out _ HBT, ?_⟩
    simp only [Mixed.wpMixT, List.drop_succ_cons, List.drop_zero]
    go_wp2_with fail
    refine (FN.out _ A cap HBT OT).mono ?_
    rintro e w6 ⟨rfl, OY, RX, UX⟩
    obtain ⟨z0, z1, z2, z3⟩ := RX.cells
    go_wp2
    obtain ⟨wz, hwz, q1, q2, q3⟩ := ri_put RX ⟨#[82, 82, 67]⟩ (.slice A 1 cap)
    rw [hwz]
    obtain ⟨s0, s1⟩ := q1.cells
    refine bodyPost_ret (v := .agg #[.string ⟨#[82, 82, 67]⟩, .slice A 1 cap]) ?_ rfl ?_
    · simp [results, Tryz.results28, go_sem, s0, s1]
    · exact ⟨_, rfl, own_put RX OY.out q3, UX.trans (q2.mono (by have := HN.out; omega))⟩
theorem cb_0_2 (op : Nat) (hop : op < 256) (x0 x1 x2 : Int) (hx : op / 64 = 0) (hy : op / 8 % 8 = 2)(w : World) : Calls Tryz.prog 28 #[.int .u8 op, .agg #[.int .i64 x0, .int .i64 x1, .int .i64 x2]] w (RetJ w [82, 76] [(x0, x1, x2)]) := by
  have HE : Hid ((op : Int) / 64 = 0 ∧ (op : Int) / 8 % 8 = 2) := (by omega : (op : Int) / 64 = 0 ∧ (op : Int) / 8 % 8 = 2)
  clear hx hy
  obtain ⟨w0, hw0, C0, R0, B0⟩ := alu_start w (x0, x1, x2)
  simp only at hw0 C0
  obtain ⟨bX, hbX⟩ : ∃ n, w.heap.size = n := ⟨_, rfl⟩
  rw [hbX] at C0 R0
  have HN0 := Lib.hid hbX
  have R0 := Lib.hid R0
  have B0 := Lib.hid B0
  have C0 := Lib.hid C0
  go_enter Tryz.func28, Tryz.ntmps28
  go_upto_region 3 with fail
  obtain ⟨e1, e2⟩ := HE.out
  rw [e1, e2]
  clear e1 e2 HE
  obtain ⟨n, hn⟩ : ∃ n, bX + 1 = n := ⟨_, rfl⟩
  rw [hn]
  have Rw0 : Hid (Rz w0 n) := by rw [← hn]; exact R0.out
  have Uw0 : Hid (Below w.heap.size w w0) := B0.out
  have Xw0 : Hid (OpV w0 bX (x0, x1, x2)) := C0.out
  have HN : Hid (w.heap.size + 1 = n) := by rw [HN0.out]; exact hn
  clear R0 B0 C0 hn hbX
  clear HN0
  go_upto_region 4 with fail
  obtain ⟨wd, hwd⟩ : ∃ v, w0.drew = v := ⟨_, rfl⟩
  have hbd : Below w0.heap.size w0 wd := by rw [← hwd]; exact below_drewN _ _ 1
  have KR : Hid (∀ wx : World, Below wd.heap.size wd wx → Rz wx n ∧ Below w.heap.size w wx) := fun wx hb => ⟨(Rw0.out.all hbd).all hb, up (up Uw0.out hbd) hb⟩
  have KC : Hid (∀ wx : World, Below wd.heap.size wd wx → wx.cell? ⟨bX, 0, none⟩ = some (.int .i64 x0) ∧ wx.cell? ⟨bX, 1, none⟩ = some (.int .i64 x1) ∧ wx.cell? ⟨bX, 2, none⟩ = some (.int .i64 x2)) := fun wx hb => by
    obtain ⟨Xa, Xb, Xc, -⟩ := ((Xw0.out.all hbd).all hb).cells
    exact ⟨Xa, Xb, Xc⟩
  have HU : Hid (w.heap.size ≤ wd.heap.size) := (KR.out wd (Below.refl _ _)).2.size
  have FN : Hid (∀ (wt : World) (A : Option Addr) (cap : Nat), Below wd.heap.size wd wt → OwnT wt w.heap.size (.slice A 1 cap) [(x0, x1, x2)] → Calls Tryz.prog 56 #[.string ⟨#[82, 76]⟩, .slice A 1 cap] wt (fun e w6 => e = .returned (.agg #[.string ⟨#[82, 76]⟩, .slice A 1 cap]) ∧ Hid (OwnT w6 w.heap.size (.slice A 1 cap) [(x0, x1, x2)]) ∧ Rz w6 n ∧ Below w.heap.size w w6)) := fun wt A cap hb hO => by
    refine (rins_any ⟨#[82, 76]⟩ A 1 cap wt).mono ?_
    rintro e w6 ⟨rfl, hb6⟩
    have K6 := KR.out w6 (hb.trans (hb6.mono hb.size))
    exact ⟨rfl, hO.below hb6, K6.1, K6.2⟩
  have K0 := Lib.hid (KC.out wd (Below.refl _ _))
  refine Mixed.wp_region_mixedT (fun w' => w'.cell? ⟨bX, 0, none⟩ = some (.int .i64 x0) ∧ w'.cell? ⟨bX, 1, none⟩ = some (.int .i64 x1) ∧ w'.cell? ⟨bX, 2, none⟩ = some (.int .i64 x2)) 6 (.pure 1 (.pure 4 (.two 0 (.pure 2 (.two 3 (.one 5 .done) 5 (.one 3 .done))) 5 (.one 0 (.pure 2 (.one 3 .done)))))) (by kernel_rfl) (by kernel_rfl) (by rw [hwd]; exact K0.out) ?_
  rw [hwd]
  clear hwd hbd K0
  refine Mixed.wpMixT_pure rfl (by kernel_rfl) (.int .i64 2) (fun w h => by go_simp; try rfl) ?_
  refine Mixed.wpMixT_pure rfl (by kernel_rfl) (.agg #[.int .i64 x0, .int .i64 x1, .int .i64 x2]) (fun w h => by obtain ⟨h0, h1, h2⟩ := h; go_simp; try rfl) ?_
  obtain ⟨nb, hnb⟩ : ∃ z, wd.heap.size = z := ⟨_, rfl⟩
  obtain ⟨wA, hwA⟩ : ∃ z, wd.alloc (.cells #[.string ⟨#[82, 76, 67]⟩, .string ⟨#[82, 82, 67]⟩, .string ⟨#[82, 76]⟩, .string ⟨#[82, 82]⟩, .string ⟨#[83, 76, 65]⟩, .string ⟨#[83, 82, 65]⟩, .string ⟨#[83, 76, 76]⟩, .string ⟨#[83, 82, 76]⟩] 9) = z := ⟨_, rfl⟩
  have BA : Hid (Below wd.heap.size wd wA) := by rw [← hwA]; exact up_alloc _ _
  have VA : Hid (wA.heap[nb]? = some (Obj.cells #[.string ⟨#[82, 76, 67]⟩, .string ⟨#[82, 82, 67]⟩, .string ⟨#[82, 76]⟩, .string ⟨#[82, 82]⟩, .string ⟨#[83, 76, 65]⟩, .string ⟨#[83, 82, 65]⟩, .string ⟨#[83, 76, 76]⟩, .string ⟨#[83, 82, 76]⟩] 9 (0, 0))) := by rw [← hwA, ← hnb]; exact heap_alloc_new _ _
  have HWA := Lib.hid hwA
  have HNB := Lib.hid hnb
  clear hwA hnb
  refine Mixed.wpMixT_both rfl (by kernel_rfl) rfl (by kernel_rfl) ?_ ?_
  · go_wp2
    rw [HWA.out, HNB.out]
    refine ⟨KC.out _ BA.out, ?_⟩
    refine Mixed.wpMixT_pure rfl (by kernel_rfl) (.pointer (some ⟨nb, 2, none⟩)) (fun w h => by go_simp; try rfl) ?_
    refine Mixed.wpMixT_both rfl (by kernel_rfl) rfl (by kernel_rfl) ?_ ?_
    · have va := Lib.cell_of_heap VA.out 2
      go_wp2
      refine ⟨KC.out _ BA.out, ?_⟩
      clear va
      refine Mixed.wpMixT_loud rfl (by kernel_rfl) ?_
      go_wp2_with fail
      refine (rone_any (x0, x1, x2) wA).mono ?_
      rintro e w5 ⟨v, rfl, hO, hb5⟩
      obtain ⟨A, cap, rfl, -, -⟩ := hO.ops
      have HBT := BA.out.trans (hb5.mono BA.out.size)
      have OT := hO.lift (Nat.le_trans HU.out BA.out.size)
      clear hO hb5
      go_wp2
      refine ⟨KC.out _ HBT, ?_⟩
      simp only [Mixed.wpMixT, List.drop_succ_cons, List.drop_zero]
      go_wp2_with fail
      refine (FN.out _ A cap HBT OT).mono ?_
      rintro e w6 ⟨rfl, OY, RX, UX⟩
      obtain ⟨z0, z1, z2, z3⟩ := RX.cells
      go_wp2
      obtain ⟨wz, hwz, q1, q2, q3⟩ := ri_put RX ⟨#[82, 76]⟩ (.slice A 1 cap)
      rw [hwz]
      obtain ⟨s0, s1⟩ := q1.cells
      refine bodyPost_ret (v := .agg #[.string ⟨#[82, 76]⟩, .slice A 1 cap]) ?_ rfl ?_
      · simp [results, Tryz.results28, go_sem, s0, s1]
      · exact ⟨_, rfl, own_put RX OY.out q3, UX.trans (q2.mono (by have := HN.out; omega))⟩
    · skip
      go_wp2_with fail
      refine (rone_any (x0, x1, x2) wA).mono ?_
      rintro e w5 ⟨v, rfl, hO, hb5⟩
      obtain ⟨A, cap, rfl, -, -⟩ := hO.ops
      have HBT := BA.out.trans (hb5.mono BA.out.size)
      have OT := hO.lift (Nat.le_trans HU.out BA.out.size)
      have va := Lib.cell_of_heap ((hb5.block nb (Array.getElem?_eq_some_iff.1 VA.out).1).trans VA.out) 2
      clear hO hb5
      go_wp2
      refine ⟨KC.out _ HBT, ?_⟩
      refine Mixed.wpMixT_loud rfl (by kernel_rfl) ?_
      go_wp2
      refine ⟨KC.out _ HBT, ?_⟩
      clear va
      simp only [Mixed.wpMixT, List.drop_succ_cons, List.drop_zero]
      go_wp2_with fail
      refine (FN.out _ A cap HBT OT).mono ?_
      rintro e w6 ⟨rfl, OY, RX, UX⟩
      obtain ⟨z0, z1, z2, z3⟩ := RX.cells
      go_wp2
      obtain ⟨wz, hwz, q1, q2, q3⟩ := ri_put RX ⟨#[82, 76]⟩ (.slice A 1 cap)
      rw [hwz]
      obtain ⟨s0, s1⟩ := q1.cells
      refine bodyPost_ret (v := .agg #[.string ⟨#[82, 76]⟩, .slice A 1 cap]) ?_ rfl ?_
      · simp [results, Tryz.results28, go_sem, s0, s1]
      · exact ⟨_, rfl, own_put RX OY.out q3, UX.trans (q2.mono (by have := HN.out; omega))⟩
  · skip
    go_wp2_with fail
    refine (rone_any (x0, x1, x2) wd).mono ?_
    rintro e w5 ⟨v, rfl, hO, hb5⟩
    obtain ⟨A, cap, rfl, -, -⟩ := hO.ops
    have HB5 := hb5
    have HBT : Below wd.heap.size wd (w5.alloc (.cells #[.string ⟨#[82, 76, 67]⟩, .string ⟨#[82, 82, 67]⟩, .string ⟨#[82, 76]⟩, .string ⟨#[82, 82]⟩, .string ⟨#[83, 76, 65]⟩, .string ⟨#[83, 82, 65]⟩, .string ⟨#[83, 76, 76]⟩, .string ⟨#[83, 82, 76]⟩] 9)) := hb5.trans ((up_alloc w5 _).mono hb5.size)
    have OT := World.ownsRow.alloc (hO.lift HU.out) (.cells #[.string ⟨#[82, 76, 67]⟩, .string ⟨#[82, 82, 67]⟩, .string ⟨#[82, 76]⟩, .string ⟨#[82, 82]⟩, .string ⟨#[83, 76, 65]⟩, .string ⟨#[83, 82, 65]⟩, .string ⟨#[83, 76, 76]⟩, .string ⟨#[83, 82, 76]⟩] 9)
    clear hO hb5
    go_wp2
    refine ⟨KC.out _ HB5, ?_⟩
    refine Mixed.wpMixT_loud rfl (by kernel_rfl) ?_
    go_wp2
    refine ⟨KC.out _ HBT, ?_⟩
    refine Mixed.wpMixT_pure rfl (by kernel_rfl) (.pointer (some ⟨w5.heap.size, 2, none⟩)) (fun w h => by go_simp; try rfl) ?_
    refine Mixed.wpMixT_loud rfl (by kernel_rfl) ?_
    go_wp2
    refine ⟨KC.out _ HBT, ?_⟩
    simp only [Mixed.wpMixT, List.drop_succ_cons, List.drop_zero]
    go_wp2_with fail
    refine (FN.out _ A cap HBT OT).mono ?_
    rintro e w6 ⟨rfl, OY, RX, UX⟩
    obtain ⟨z0, z1, z2, z3⟩ := RX.cells
    go_wp2
    obtain ⟨wz, hwz, q1, q2, q3⟩ := ri_put RX ⟨#[82, 76]⟩ (.slice A 1 cap)
    rw [hwz]
    obtain ⟨s0, s1⟩ := q1.cells
    refine bodyPost_ret (v := .agg #[.string ⟨#[82, 76]⟩, .slice A 1 cap]) ?_ rfl ?_
    · simp [results, Tryz.results28, go_sem, s0, s1]
    · exact ⟨_, rfl, own_put RX OY.out q3, UX.trans (q2.mono (by have := HN.out; omega))⟩
theorem cb_0_3 (op : Nat) (hop : op < 256) (x0 x1 x2 : Int) (hx : op / 64 = 0) (hy : op / 8 % 8 = 3)(w : World) : Calls Tryz.prog 28 #[.int .u8 op, .agg #[.int .i64 x0, .int .i64 x1, .int .i64 x2]] w (RetJ w [82, 82] [(x0, x1, x2)]) := by
  have HE : Hid ((op : Int) / 64 = 0 ∧ (op : Int) / 8 % 8 = 3) := (by omega : (op : Int) / 64 = 0 ∧ (op : Int) / 8 % 8 = 3)
  clear hx hy
  obtain ⟨w0, hw0, C0, R0, B0⟩ := alu_start w (x0, x1, x2)
  simp only at hw0 C0
  obtain ⟨bX, hbX⟩ : ∃ n, w.heap.size = n := ⟨_, rfl⟩
  rw [hbX] at C0 R0
  have HN0 := Lib.hid hbX
  have R0 := Lib.hid R0
  have B0 := Lib.hid B0
  have C0 := Lib.hid C0
  go_enter Tryz.func28, Tryz.ntmps28
  go_upto_region 3 with fail
  obtain ⟨e1, e2⟩ := HE.out
  rw [e1, e2]
  clear e1 e2 HE
  obtain ⟨n, hn⟩ : ∃ n, bX + 1 = n := ⟨_, rfl⟩
  rw [hn]
  have Rw0 : Hid (Rz w0 n) := by rw [← hn]; exact R0.out
  have Uw0 : Hid (Below w.heap.size w w0) := B0.out
  have Xw0 : Hid (OpV w0 bX (x0, x1, x2)) := C0.out
  have HN : Hid (w.heap.size + 1 = n) := by rw [HN0.out]; exact hn
  clear R0 B0 C0 hn hbX
  clear HN0
  go_upto_region 4 with fail
  obtain ⟨wd, hwd⟩ : ∃ v, w0.drew = v := ⟨_, rfl⟩
  have hbd : Below w0.heap.size w0 wd := by rw [← hwd]; exact below_drewN _ _ 1
  have KR : Hid (∀ wx : World, Below wd.heap.size wd wx → Rz wx n ∧ Below w.heap.size w wx) := fun wx hb => ⟨(Rw0.out.all hbd).all hb, up (up Uw0.out hbd) hb⟩
  have KC : Hid (∀ wx : World, Below wd.heap.size wd wx → wx.cell? ⟨bX, 0, none⟩ = some (.int .i64 x0) ∧ wx.cell? ⟨bX, 1, none⟩ = some (.int .i64 x1) ∧ wx.cell? ⟨bX, 2, none⟩ = some (.int .i64 x2)) := fun wx hb => by
    obtain ⟨Xa, Xb, Xc, -⟩ := ((Xw0.out.all hbd).all hb).cells
    exact ⟨Xa, Xb, Xc⟩
  have HU : Hid (w.heap.size ≤ wd.heap.size) := (KR.out wd (Below.refl _ _)).2.size
  have FN : Hid (∀ (wt : World) (A : Option Addr) (cap : Nat), Below wd.heap.size wd wt → OwnT wt w.heap.size (.slice A 1 cap) [(x0, x1, x2)] → Calls Tryz.prog 56 #[.string ⟨#[82, 82]⟩, .slice A 1 cap] wt (fun e w6 => e = .returned (.agg #[.string ⟨#[82, 82]⟩, .slice A 1 cap]) ∧ Hid (OwnT w6 w.heap.size (.slice A 1 cap) [(x0, x1, x2)]) ∧ Rz w6 n ∧ Below w.heap.size w w6)) := fun wt A cap hb hO => by
    refine (rins_any ⟨#[82, 82]⟩ A 1 cap wt).mono ?_
    rintro e w6 ⟨rfl, hb6⟩
    have K6 := KR.out w6 (hb.trans (hb6.mono hb.size))
    exact ⟨rfl, hO.below hb6, K6.1, K6.2⟩
  have K0 := Lib.hid (KC.out wd (Below.refl _ _))
  refine Mixed.wp_region_mixedT (fun w' => w'.cell? ⟨bX, 0, none⟩ = some (.int .i64 x0) ∧ w'.cell? ⟨bX, 1, none⟩ = some (.int .i64 x1) ∧ w'.cell? ⟨bX, 2, none⟩ = some (.int .i64 x2)) 6 (.pure 1 (.pure 4 (.two 0 (.pure 2 (.two 3 (.one 5 .done) 5 (.one 3 .done))) 5 (.one 0 (.pure 2 (.one 3 .done)))))) (by kernel_rfl) (by kernel_rfl) (by rw [hwd]; exact K0.out) ?_
  rw [hwd]
  clear hwd hbd K0
  refine Mixed.wpMixT_pure rfl (by kernel_rfl) (.int .i64 3) (fun w h => by go_simp; try rfl) ?_
  refine Mixed.wpMixT_pure rfl (by kernel_rfl) (.agg #[.int .i64 x0, .int .i64 x1, .int .i64 x2]) (fun w h => by obtain ⟨h0, h1, h2⟩ := h; go_simp; try rfl) ?_
  obtain ⟨nb, hnb⟩ : ∃ z, wd.heap.size = z := ⟨_, rfl⟩
  obtain ⟨wA, hwA⟩ : ∃ z, wd.alloc (.cells #[.string ⟨#[82, 76, 67]⟩, .string ⟨#[82, 82, 67]⟩, .string ⟨#[82, 76]⟩, .string ⟨#[82, 82]⟩, .string ⟨#[83, 76, 65]⟩, .string ⟨#[83, 82, 65]⟩, .string ⟨#[83, 76, 76]⟩, .string ⟨#[83, 82, 76]⟩] 9) = z := ⟨_, rfl⟩
  have BA : Hid (Below wd.heap.size wd wA) := by rw [← hwA]; exact up_alloc _ _
  have VA : Hid (wA.heap[nb]? = some (Obj.cells #[.string ⟨#[82, 76, 67]⟩, .string ⟨#[82, 82, 67]⟩, .string ⟨#[82, 76]⟩, .string ⟨#[82, 82]⟩, .string ⟨#[83, 76, 65]⟩, .string ⟨#[83, 82, 65]⟩, .string ⟨#[83, 76, 76]⟩, .string ⟨#[83, 82, 76]⟩] 9 (0, 0))) := by rw [← hwA, ← hnb]; exact heap_alloc_new _ _
  have HWA := Lib.hid hwA
  have HNB := Lib.hid hnb
  clear hwA hnb
  refine Mixed.wpMixT_both rfl (by kernel_rfl) rfl (by kernel_rfl) ?_ ?_
  · go_wp2
    rw [HWA.out, HNB.out]
    refine ⟨KC.out _ BA.out, ?_⟩
    refine Mixed.wpMixT_pure rfl (by kernel_rfl) (.pointer (some ⟨nb, 3, none⟩)) (fun w h => by go_simp; try rfl) ?_
    refine Mixed.wpMixT_both rfl (by kernel_rfl) rfl (by kernel_rfl) ?_ ?_
    · have va := Lib.cell_of_heap VA.out 3
      go_wp2
      refine ⟨KC.out _ BA.out, ?_⟩
      clear va
      refine Mixed.wpMixT_loud rfl (by kernel_rfl) ?_
      go_wp2_with fail
      refine (rone_any (x0, x1, x2) wA).mono ?_
      rintro e w5 ⟨v, rfl, hO, hb5⟩
      obtain ⟨A, cap, rfl, -, -⟩ := hO.ops
      have HBT := BA.out.trans (hb5.mono BA.out.size)
      have OT := hO.lift (Nat.le_trans HU.out BA.out.size)
      clear hO hb5
      go_wp2
      refine ⟨KC.out _ HBT, ?_⟩
      simp only [Mixed.wpMixT, List.drop_succ_cons, List.drop_zero]
      go_wp2_with fail
      refine (FN.out _ A cap HBT OT).mono ?_
      rintro e w6 ⟨rfl, OY, RX, UX⟩
      obtain ⟨z0, z1, z2, z3⟩ := RX.cells
      go_wp2
      obtain ⟨wz, hwz, q1, q2, q3⟩ := ri_put RX ⟨#[82, 82]⟩ (.slice A 1 cap)
      rw [hwz]
      obtain ⟨s0, s1⟩ := q1.cells
      refine bodyPost_ret (v := .agg #[.string ⟨#[82, 82]⟩, .slice A 1 cap]) ?_ rfl ?_
      · simp [results, Tryz.results28, go_sem, s0, s1]
      · exact ⟨_, rfl, own_put RX OY.out q3, UX.trans (q2.mono (by have := HN.out; omega))⟩
    · skip
      go_wp2_with fail
      refine (rone_any (x0, x1, x2) wA).mono ?_
      rintro e w5 ⟨v, rfl, hO, hb5⟩
      obtain ⟨A, cap, rfl, -, -⟩ := hO.ops
      have HBT := BA.out.trans (hb5.mono BA.out.size)
      have OT := hO.lift (Nat.le_trans HU.out BA.out.size)
      have va := Lib.cell_of_heap ((hb5.block nb (Array.getElem?_eq_some_iff.1 VA.out).1).trans VA.out) 3
      clear hO hb5
      go_wp2
      refine ⟨KC.out _ HBT, ?_⟩
      refine Mixed.wpMixT_loud rfl (by kernel_rfl) ?_
      go_wp2
      refine ⟨KC.out _ HBT, ?_⟩
      clear va
      simp only [Mixed.wpMixT, List.drop_succ_cons, List.drop_zero]
      go_wp2_with fail
      refine (FN.out _ A cap HBT OT).mono ?_
      rintro e w6 ⟨rfl, OY, RX, UX⟩
      obtain ⟨z0, z1, z2, z3⟩ := RX.cells
      go_wp2
      obtain ⟨wz, hwz, q1, q2, q3⟩ := ri_put RX ⟨#[82, 82]⟩ (.slice A 1 cap)
      rw [hwz]
      obtain ⟨s0, s1⟩ := q1.cells
      refine bodyPost_ret (v := .agg #[.string ⟨#[82, 82]⟩, .slice A 1 cap]) ?_ rfl ?_
      · simp [results, Tryz.results28, go_sem, s0, s1]
      · exact ⟨_, rfl, own_put RX OY.out q3, UX.trans (q2.mono (by have := HN.out; omega))⟩
  · skip
    go_wp2_with fail
    refine (rone_any (x0, x1, x2) wd).mono ?_
    rintro e w5 ⟨v, rfl, hO, hb5⟩
    obtain ⟨A, cap, rfl, -, -⟩ := hO.ops
    have HB5 := hb5
    have HBT : Below wd.heap.size wd (w5.alloc (.cells #[.string ⟨#[82, 76, 67]⟩, .string ⟨#[82, 82, 67]⟩, .string ⟨#[82, 76]⟩, .string ⟨#[82, 82]⟩, .string ⟨#[83, 76, 65]⟩, .string ⟨#[83, 82, 65]⟩, .string ⟨#[83, 76, 76]⟩, .string ⟨#[83, 82, 76]⟩] 9)) := hb5.trans ((up_alloc w5 _).mono hb5.size)
    have OT := World.ownsRow.alloc (hO.lift HU.out) (.cells #[.string ⟨#[82, 76, 67]⟩, .string ⟨#[82, 82, 67]⟩, .string ⟨#[82, 76]⟩, .string ⟨#[82, 82]⟩, .string ⟨#[83, 76, 65]⟩, .string ⟨#[83, 82, 65]⟩, .string ⟨#[83, 76, 76]⟩, .string ⟨#[83, 82, 76]⟩] 9)
    clear hO hb5
    go_wp2
    refine ⟨KC.out _ HB5, ?_⟩
    refine Mixed.wpMixT_loud rfl (by kernel_rfl) ?_
    go_wp2
    refine ⟨KC.out _ HBT, ?_⟩
    refine Mixed.wpMixT_pure rfl (by kernel_rfl) (.pointer (some ⟨w5.heap.size, 3, none⟩)) (fun w h => by go_simp; try rfl) ?_
    refine Mixed.wpMixT_loud rfl (by kernel_rfl) ?_
    go_wp2
    refine ⟨KC.out _ HBT, ?_⟩
    simp only [Mixed.wpMixT, List.drop_succ_cons, List.drop_zero]
    go_wp2_with fail
    refine (FN.out _ A cap HBT OT).mono ?_
    rintro e w6 ⟨rfl, OY, RX, UX⟩
    obtain ⟨z0, z1, z2, z3⟩ := RX.cells
    go_wp2
    obtain ⟨wz, hwz, q1, q2, q3⟩ := ri_put RX ⟨#[82, 82]⟩ (.slice A 1 cap)
    rw [hwz]
    obtain ⟨s0, s1⟩ := q1.cells
    refine bodyPost_ret (v := .agg #[.string ⟨#[82, 82]⟩, .slice A 1 cap]) ?_ rfl ?_
    · simp [results, Tryz.results28, go_sem, s0, s1]
    · exact ⟨_, rfl, own_put RX OY.out q3, UX.trans (q2.mono (by have := HN.out; omega))⟩
theorem cb_0_4 (op : Nat) (hop : op < 256) (x0 x1 x2 : Int) (hx : op / 64 = 0) (hy : op / 8 % 8 = 4)(w : World) : Calls Tryz.prog 28 #[.int .u8 op, .agg #[.int .i64 x0, .int .i64 x1, .int .i64 x2]] w (RetJ w [83, 76, 65] [(x0, x1, x2)]) := by
  have HE : Hid ((op : Int) / 64 = 0 ∧ (op : Int) / 8 % 8 = 4) := (by omega : (op : Int) / 64 = 0 ∧ (op : Int) / 8 % 8 = 4)
  clear hx hy
  obtain ⟨w0, hw0, C0, R0, B0⟩ := alu_start w (x0, x1, x2)
  simp only at hw0 C0
  obtain ⟨bX, hbX⟩ : ∃ n, w.heap.size = n := ⟨_, rfl⟩
  rw [hbX] at C0 R0
  have HN0 := Lib.hid hbX
  have R0 := Lib.hid R0
  have B0 := Lib.hid B0
  have C0 := Lib.hid C0
  go_enter Tryz.func28, Tryz.ntmps28
  go_upto_region 3 with fail
  obtain ⟨e1, e2⟩ := HE.out
  rw [e1, e2]
  clear e1 e2 HE
  obtain ⟨n, hn⟩ : ∃ n, bX + 1 = n := ⟨_, rfl⟩
  rw [hn]
  have Rw0 : Hid (Rz w0 n) := by rw [← hn]; exact R0.out
  have Uw0 : Hid (Below w.heap.size w w0) := B0.out
  have Xw0 : Hid (OpV w0 bX (x0, x1, x2)) := C0.out
  have HN : Hid (w.heap.size + 1 = n) := by rw [HN0.out]; exact hn
  clear R0 B0 C0 hn hbX
  clear HN0
  go_upto_region 4 with fail
  obtain ⟨wd, hwd⟩ : ∃ v, w0.drew = v := ⟨_, rfl⟩
  have hbd : Below w0.heap.size w0 wd := by rw [← hwd]; exact below_drewN _ _ 1
  have KR : Hid (∀ wx : World, Below wd.heap.size wd wx → Rz wx n ∧ Below w.heap.size w wx) := fun wx hb => ⟨(Rw0.out.all hbd).all hb, up (up Uw0.out hbd) hb⟩
  have KC : Hid (∀ wx : World, Below wd.heap.size wd wx → wx.cell? ⟨bX, 0, none⟩ = some (.int .i64 x0) ∧ wx.cell? ⟨bX, 1, none⟩ = some (.int .i64 x1) ∧ wx.cell? ⟨bX, 2, none⟩ = some (.int .i64 x2)) := fun wx hb => by
    obtain ⟨Xa, Xb, Xc, -⟩ := ((Xw0.out.all hbd).all hb).cells
    exact ⟨Xa, Xb, Xc⟩
  have HU : Hid (w.heap.size ≤ wd.heap.size) := (KR.out wd (Below.refl _ _)).2.size
  have FN : Hid (∀ (wt : World) (A : Option Addr) (cap : Nat), Below wd.heap.size wd wt → OwnT wt w.heap.size (.slice A 1 cap) [(x0, x1, x2)] → Calls Tryz.prog 56 #[.string ⟨#[83, 76, 65]⟩, .slice A 1 cap] wt (fun e w6 => e = .returned (.agg #[.string ⟨#[83, 76, 65]⟩, .slice A 1 cap]) ∧ Hid (OwnT w6 w.heap.size (.slice A 1 cap) [(x0, x1, x2)]) ∧ Rz w6 n ∧ Below w.heap.size w w6)) := fun wt A cap hb hO => by
    refine (rins_any ⟨#[83, 76, 65]⟩ A 1 cap wt).mono ?_
    rintro e w6 ⟨rfl, hb6⟩
    have K6 := KR.out w6 (hb.trans (hb6.mono hb.size))
    exact ⟨rfl, hO.below hb6, K6.1, K6.2⟩
  have K0 := Lib.hid (KC.out wd (Below.refl _ _))
  refine Mixed.wp_region_mixedT (fun w' => w'.cell? ⟨bX, 0, none⟩ = some (.int .i64 x0) ∧ w'.cell? ⟨bX, 1, none⟩ = some (.int .i64 x1) ∧ w'.cell? ⟨bX, 2, none⟩ = some (.int .i64 x2)) 6 (.pure 1 (.pure 4 (.two 0 (.pure 2 (.two 3 (.one 5 .done) 5 (.one 3 .done))) 5 (.one 0 (.pure 2 (.one 3 .done)))))) (by kernel_rfl) (by kernel_rfl) (by rw [hwd]; exact K0.out) ?_
  rw [hwd]
  clear hwd hbd K0
  refine Mixed.wpMixT_pure rfl (by kernel_rfl) (.int .i64 4) (fun w h => by go_simp; try rfl) ?_
  refine Mixed.wpMixT_pure rfl (by kernel_rfl) (.agg #[.int .i64 x0, .int .i64 x1, .int .i64 x2]) (fun w h => by obtain ⟨h0, h1, h2⟩ := h; go_simp; try rfl) ?_
  obtain ⟨nb, hnb⟩ : ∃ z, wd.heap.size = z := ⟨_, rfl⟩
  obtain ⟨wA, hwA⟩ : ∃ z, wd.alloc (.cells #[.string ⟨#[82, 76, 67]⟩, .string ⟨#[82, 82, 67]⟩, .string ⟨#[82, 76]⟩, .string ⟨#[82, 82]⟩, .string ⟨#[83, 76, 65]⟩, .string ⟨#[83, 82, 65]⟩, .string ⟨#[83, 76, 76]⟩, .string ⟨#[83, 82, 76]⟩] 9) = z := ⟨_, rfl⟩
  have BA : Hid (Below wd.heap.size wd wA) := by rw [← hwA]; exact up_alloc _ _
  have VA : Hid (wA.heap[nb]? = some (Obj.cells #[.string ⟨#[82, 76, 67]⟩, .string ⟨#[82, 82, 67]⟩, .string ⟨#[82, 76]⟩, .string ⟨#[82, 82]⟩, .string ⟨#[83, 76, 65]⟩, .string ⟨#[83, 82, 65]⟩, .string ⟨#[83, 76, 76]⟩, .string ⟨#[83, 82, 76]⟩] 9 (0, 0))) := by rw [← hwA, ← hnb]; exact heap_alloc_new _ _
  have HWA := Lib.hid hwA
  have HNB := Lib.hid hnb
  clear hwA hnb
  refine Mixed.wpMixT_both rfl (by kernel_rfl) rfl (by kernel_rfl) ?_ ?_
  · go_wp2
    rw [HWA.out, HNB.out]
    refine ⟨KC.out _ BA.out, ?_⟩
    refine Mixed.wpMixT_pure rfl (by kernel_rfl) (.pointer (some ⟨nb, 4, none⟩)) (fun w h => by go_simp; try rfl) ?_
    refine Mixed.wpMixT_both rfl (by kernel_rfl) rfl (by kernel_rfl) ?_ ?_
    · have va := Lib.cell_of_heap VA.out 4
      go_wp2
      refine ⟨KC.out _ BA.out, ?_⟩
      clear va
      refine Mixed.wpMixT_loud rfl (by kernel_rfl) ?_
      go_wp2_with fail
      refine (rone_any (x0, x1, x2) wA).mono ?_
      rintro e w5 ⟨v, rfl, hO, hb5⟩
      obtain ⟨A, cap, rfl, -, -⟩ := hO.ops
      have HBT := BA.out.trans (hb5.mono BA.out.size)
      have OT := hO.lift (Nat.le_trans HU.out BA.out.size)
      clear hO hb5
      go_wp2
      refine ⟨KC.out _ HBT, ?_⟩
      simp only [Mixed.wpMixT, List.drop_succ_cons, List.drop_zero]
      go_wp2_with fail
      refine (FN.out _ A cap HBT OT).mono ?_
      rintro e w6 ⟨rfl, OY, RX, UX⟩
      obtain ⟨z0, z1, z2, z3⟩ := RX.cells
      go_wp2
      obtain ⟨wz, hwz, q1, q2, q3⟩ := ri_put RX ⟨#[83, 76, 65]⟩ (.slice A 1 cap)
      rw [hwz]
      obtain ⟨s0, s1⟩ := q1.cells
      refine bodyPost_ret (v := .agg #[.string ⟨#[83, 76, 65]⟩, .slice A 1 cap]) ?_ rfl ?_
      · simp [results, Tryz.results28, go_sem, s0, s1]
      · exact ⟨_, rfl, own_put RX OY.out q3, UX.trans (q2.mono (by have := HN.out; omega))⟩
    · skip
      go_wp2_with fail
      refine (rone_any (x0, x1, x2) wA).mono ?_
      rintro e w5 ⟨v, rfl, hO, hb5⟩
      obtain ⟨A, cap, rfl, -, -⟩ := hO.ops
      have HBT := BA.out.trans (hb5.mono BA.out.size)
      have OT := hO.lift (Nat.le_trans HU.out BA.out.size)
      have va := Lib.cell_of_heap ((hb5.block nb (Array.getElem?_eq_some_iff.1 VA.out).1).trans VA.out) 4
      clear hO hb5
      go_wp2
      refine ⟨KC.out _ HBT, ?_⟩
      refine Mixed.wpMixT_loud rfl (by kernel_rfl) ?_
      go_wp2
      refine ⟨KC.out _ HBT, ?_⟩
      clear va
      simp only [Mixed.wpMixT, List.drop_succ_cons, List.drop_zero]
      go_wp2_with fail
      refine (FN.out _ A cap HBT OT).mono ?_
      rintro e w6 ⟨rfl, OY, RX, UX⟩
      obtain ⟨z0, z1, z2, z3⟩ := RX.cells
      go_wp2
      obtain ⟨wz, hwz, q1, q2, q3⟩ := ri_put RX ⟨#[83, 76, 65]⟩ (.slice A 1 cap)
      rw [hwz]
      obtain ⟨s0, s1⟩ := q1.cells
      refine bodyPost_ret (v := .agg #[.string ⟨#[83, 76, 65]⟩, .slice A 1 cap]) ?_ rfl ?_
      · simp [results, Tryz.results28, go_sem, s0, s1]
      · exact ⟨_, rfl, own_put RX OY.out q3, UX.trans (q2.mono (by have := HN.out; omega))⟩
  · skip
    go_wp2_with fail
    refine (rone_any (x0, x1, x2) wd).mono ?_
    rintro e w5 ⟨v, rfl, hO, hb5⟩
    obtain ⟨A, cap, rfl, -, -⟩ := hO.ops
    have HB5 := hb5
    have HBT : Below wd.heap.size wd (w5.alloc (.cells #[.string ⟨#[82, 76, 67]⟩, .string ⟨#[82, 82, 67]⟩, .string ⟨#[82, 76]⟩, .string ⟨#[82, 82]⟩, .string ⟨#[83, 76, 65]⟩, .string ⟨#[83, 82, 65]⟩, .string ⟨#[83, 76, 76]⟩, .string ⟨#[83, 82, 76]⟩] 9)) := hb5.trans ((up_alloc w5 _).mono hb5.size)
    have OT := World.ownsRow.alloc (hO.lift HU.out) (.cells #[.string ⟨#[82, 76, 67]⟩, .string ⟨#[82, 82, 67]⟩, .string ⟨#[82, 76]⟩, .string ⟨#[82, 82]⟩, .string ⟨#[83, 76, 65]⟩, .string ⟨#[83, 82, 65]⟩, .string ⟨#[83, 76, 76]⟩, .string ⟨#[83, 82, 76]⟩] 9)
    clear hO hb5
    go_wp2
    refine ⟨KC.out _ HB5, ?_⟩
    refine Mixed.wpMixT_loud rfl (by kernel_rfl) ?_
    go_wp2
    refine ⟨KC.out _ HBT, ?_⟩
    refine Mixed.wpMixT_pure rfl (by kernel_rfl) (.pointer (some ⟨w5.heap.size, 4, none⟩)) (fun w h => by go_simp; try rfl) ?_
    refine Mixed.wpMixT_loud rfl (by kernel_rfl) ?_
    go_wp2
    refine ⟨KC.out _ HBT, ?_⟩
    simp only [Mixed.wpMixT, List.drop_succ_cons, List.drop_zero]
    go_wp2_with fail
    refine (FN.out _ A cap HBT OT).mono ?_
    rintro e w6 ⟨rfl, OY, RX, UX⟩
    obtain ⟨z0, z1, z2, z3⟩ := RX.cells
    go_wp2
    obtain ⟨wz, hwz, q1, q2, q3⟩ := ri_put RX ⟨#[83, 76, 65]⟩ (.slice A 1 cap)
    rw [hwz]
    obtain ⟨s0, s1⟩ := q1.cells
    refine bodyPost_ret (v := .agg #[.string ⟨#[83, 76, 65]⟩, .slice A 1 cap]) ?_ rfl ?_
    · simp [results, Tryz.results28, go_sem, s0, s1]
    · exact ⟨_, rfl, own_put RX OY.out q3, UX.trans (q2.mono (by have := HN.out; omega))⟩
theorem cb_0_5 (op : Nat) (hop : op < 256) (x0 x1 x2 : Int) (hx : op / 64 = 0) (hy : op / 8 % 8 = 5)(w : World) : Calls Tryz.prog 28 #[.int .u8 op, .agg #[.int .i64 x0, .int .i64 x1, .int .i64 x2]] w (RetJ w [83, 82, 65] [(x0, x1, x2)]) := by
  have HE : Hid ((op : Int) / 64 = 0 ∧ (op : Int) / 8 % 8 = 5) := (by omega : (op : Int) / 64 = 0 ∧ (op : Int) / 8 % 8 = 5)
  clear hx hy
  obtain ⟨w0, hw0, C0, R0, B0⟩ := alu_start w (x0, x1, x2)
  simp only at hw0 C0
  obtain ⟨bX, hbX⟩ : ∃ n, w.heap.size = n := ⟨_, rfl⟩
  rw [hbX] at C0 R0
  have HN0 := Lib.hid hbX
  have R0 := Lib.hid R0
  have B0 := Lib.hid B0
  have C0 := Lib.hid C0
  go_enter Tryz.func28, Tryz.ntmps28
  go_upto_region 3 with fail
  obtain ⟨e1, e2⟩ := HE.out
  rw [e1, e2]
  clear e1 e2 HE
  obtain ⟨n, hn⟩ : ∃ n, bX + 1 = n := ⟨_, rfl⟩
  rw [hn]
  have Rw0 : Hid (Rz w0 n) := by rw [← hn]; exact R0.out
  have Uw0 : Hid (Below w.heap.size w w0) := B0.out
  have Xw0 : Hid (OpV w0 bX (x0, x1, x2)) := C0.out
  have HN : Hid (w.heap.size + 1 = n) := by rw [HN0.out]; exact hn
  clear R0 B0 C0 hn hbX
  clear HN0
  go_upto_region 4 with fail
  obtain ⟨wd, hwd⟩ : ∃ v, w0.drew = v := ⟨_, rfl⟩
  have hbd : Below w0.heap.size w0 wd := by rw [← hwd]; exact below_drewN _ _ 1
  have KR : Hid (∀ wx : World, Below wd.heap.size wd wx → Rz wx n ∧ Below w.heap.size w wx) := fun wx hb => ⟨(Rw0.out.all hbd).all hb, up (up Uw0.out hbd) hb⟩
  have KC : Hid (∀ wx : World, Below wd.heap.size wd wx → wx.cell? ⟨bX, 0, none⟩ = some (.int .i64 x0) ∧ wx.cell? ⟨bX, 1, none⟩ = some (.int .i64 x1) ∧ wx.cell? ⟨bX, 2, none⟩ = some (.int .i64 x2)) := fun wx hb => by
    obtain ⟨Xa, Xb, Xc, -⟩ := ((Xw0.out.all hbd).all hb).cells
    exact ⟨Xa, Xb, Xc⟩
  have HU : Hid (w.heap.size ≤ wd.heap.size) := (KR.out wd (Below.refl _ _)).2.size
  have FN : Hid (∀ (wt : World) (A : Option Addr) (cap : Nat), Below wd.heap.size wd wt → OwnT wt w.heap.size (.slice A 1 cap) [(x0, x1, x2)] → Calls Tryz.prog 56 #[.string ⟨#[83, 82, 65]⟩, .slice A 1 cap] wt (fun e w6 => e = .returned (.agg #[.string ⟨#[83, 82, 65]⟩, .slice A 1 cap]) ∧ Hid (OwnT w6 w.heap.size (.slice A 1 cap) [(x0, x1, x2)]) ∧ Rz w6 n ∧ Below w.heap.size w w6)) := fun wt A cap hb hO => by
    refine (rins_any ⟨#[83, 82, 65]⟩ A 1 cap wt).mono ?_
    rintro e w6 ⟨rfl, hb6⟩
    have K6 := KR.out w6 (hb.trans (hb6.mono hb.size))
    exact ⟨rfl, hO.below hb6, K6.1, K6.2⟩
  have K0 := Lib.hid (KC.out wd (Below.refl _ _))
  refine Mixed.wp_region_mixedT (fun w' => w'.cell? ⟨bX, 0, none⟩ = some (.int .i64 x0) ∧ w'.cell? ⟨bX, 1, none⟩ = some (.int .i64 x1) ∧ w'.cell? ⟨bX, 2, none⟩ = some (.int .i64 x2)) 6 (.pure 1 (.pure 4 (.two 0 (.pure 2 (.two 3 (.one 5 .done) 5 (.one 3 .done))) 5 (.one 0 (.pure 2 (.one 3 .done)))))) (by kernel_rfl) (by kernel_rfl) (by rw [hwd]; exact K0.out) ?_
  rw [hwd]
  clear hwd hbd K0
  refine Mixed.wpMixT_pure rfl (by kernel_rfl) (.int .i64 5) (fun w h => by go_simp; try rfl) ?_
  refine Mixed.wpMixT_pure rfl (by kernel_rfl) (.agg #[.int .i64 x0, .int .i64 x1, .int .i64 x2]) (fun w h => by obtain ⟨h0, h1, h2⟩ := h; go_simp; try rfl) ?_
  obtain ⟨nb, hnb⟩ : ∃ z, wd.heap.size = z := ⟨_, rfl⟩
  obtain ⟨wA, hwA⟩ : ∃ z, wd.alloc (.cells #[.string ⟨#[82, 76, 67]⟩, .string ⟨#[82, 82, 67]⟩, .string ⟨#[82, 76]⟩, .string ⟨#[82, 82]⟩, .string ⟨#[83, 76, 65]⟩, .string ⟨#[83, 82, 65]⟩, .string ⟨#[83, 76, 76]⟩, .string ⟨#[83, 82, 76]⟩] 9) = z := ⟨_, rfl⟩
  have BA : Hid (Below wd.heap.size wd wA) := by rw [← hwA]; exact up_alloc _ _
  have VA : Hid (wA.heap[nb]? = some (Obj.cells #[.string ⟨#[82, 76, 67]⟩, .string ⟨#[82, 82, 67]⟩, .string ⟨#[82, 76]⟩, .string ⟨#[82, 82]⟩, .string ⟨#[83, 76, 65]⟩, .string ⟨#[83, 82, 65]⟩, .string ⟨#[83, 76, 76]⟩, .string ⟨#[83, 82, 76]⟩] 9 (0, 0))) := by rw [← hwA, ← hnb]; exact heap_alloc_new _ _
  have HWA := Lib.hid hwA
  have HNB := Lib.hid hnb
  clear hwA hnb
  refine Mixed.wpMixT_both rfl (by kernel_rfl) rfl (by kernel_rfl) ?_ ?_
  · go_wp2
    rw [HWA.out, HNB.out]
    refine ⟨KC.out _ BA.out, ?_⟩
    refine Mixed.wpMixT_pure rfl (by kernel_rfl) (.pointer (some ⟨nb, 5, none⟩)) (fun w h => by go_simp; try rfl) ?_
    refine Mixed.wpMixT_both rfl (by kernel_rfl) rfl (by kernel_rfl) ?_ ?_
    · have va := Lib.cell_of_heap VA.out 5
      go_wp2
      refine ⟨KC.out _ BA.out, ?_⟩
      clear va
      refine Mixed.wpMixT_loud rfl (by kernel_rfl) ?_
      go_wp2_with fail
      refine (rone_any (x0, x1, x2) wA).mono ?_
      rintro e w5 ⟨v, rfl, hO, hb5⟩
      obtain ⟨A, cap, rfl, -, -⟩ := hO.ops
      have HBT := BA.out.trans (hb5.mono BA.out.size)
      have OT := hO.lift (Nat.le_trans HU.out BA.out.size)
      clear hO hb5
      go_wp2
      refine ⟨KC.out _ HBT, ?_⟩
      simp only [Mixed.wpMixT, List.drop_succ_cons, List.drop_zero]
      go_wp2_with fail
      refine (FN.out _ A cap HBT OT).mono ?_
      rintro e w6 ⟨rfl, OY, RX, UX⟩
      obtain ⟨z0, z1, z2, z3⟩ := RX.cells
      go_wp2
      obtain ⟨wz, hwz, q1, q2, q3⟩ := ri_put RX ⟨#[83, 82, 65]⟩ (.slice A 1 cap)
      rw [hwz]
      obtain ⟨s0, s1⟩ := q1.cells
      refine bodyPost_ret (v := .agg #[.string ⟨#[83, 82, 65]⟩, .slice A 1 cap]) ?_ rfl ?_
      · simp [results, Tryz.results28, go_sem, s0, s1]
      · exact ⟨_, rfl, own_put RX OY.out q3, UX.trans (q2.mono (by have := HN.out; omega))⟩
    · skip
      go_wp2_with fail
      refine (rone_any (x0, x1, x2) wA).mono ?_
      rintro e w5 ⟨v, rfl, hO, hb5⟩
      obtain ⟨A, cap, rfl, -, -⟩ := hO.ops
      have HBT := BA.out.trans (hb5.mono BA.out.size)
      have OT := hO.lift (Nat.le_trans HU.out BA.out.size)
      have va := Lib.cell_of_heap ((hb5.block nb (Array.getElem?_eq_some_iff.1 VA.out).1).trans VA.out) 5
      clear hO hb5
      go_wp2
      refine ⟨KC.out _ HBT, ?_⟩
      refine Mixed.wpMixT_loud rfl (by kernel_rfl) ?_
      go_wp2
      refine ⟨KC.out _ HBT, ?_⟩
      clear va
      simp only [Mixed.wpMixT, List.drop_succ_cons, List.drop_zero]
      go_wp2_with fail
      refine (FN.out _ A cap HBT OT).mono ?_
      rintro e w6 ⟨rfl, OY, RX, UX⟩
      obtain ⟨z0, z1, z2, z3⟩ := RX.cells
      go_wp2
      obtain ⟨wz, hwz, q1, q2, q3⟩ := ri_put RX ⟨#[83, 82, 65]⟩ (.slice A 1 cap)
      rw [hwz]
      obtain ⟨s0, s1⟩ := q1.cells
      refine bodyPost_ret (v := .agg #[.string ⟨#[83, 82, 65]⟩, .slice A 1 cap]) ?_ rfl ?_
      · simp [results, Tryz.results28, go_sem, s0, s1]
      · exact ⟨_, rfl, own_put RX OY.out q3, UX.trans (q2.mono (by have := HN.out; omega))⟩
  · skip
    go_wp2_with fail
    refine (rone_any (x0, x1, x2) wd).mono ?_
    rintro e w5 ⟨v, rfl, hO, hb5⟩
    obtain ⟨A, cap, rfl, -, -⟩ := hO.ops
    have HB5 := hb5
    have HBT : Below wd.heap.size wd (w5.alloc (.cells #[.string ⟨#[82, 76, 67]⟩, .string ⟨#[82, 82, 67]⟩, .string ⟨#[82, 76]⟩, .string ⟨#[82, 82]⟩, .string ⟨#[83, 76, 65]⟩, .string ⟨#[83, 82, 65]⟩, .string ⟨#[83, 76, 76]⟩, .string ⟨#[83, 82, 76]⟩] 9)) := hb5.trans ((up_alloc w5 _).mono hb5.size)
    have OT := World.ownsRow.alloc (hO.lift HU.out) (.cells #[.string ⟨#[82, 76, 67]⟩, .string ⟨#[82, 82, 67]⟩, .string ⟨#[82, 76]⟩, .string ⟨#[82, 82]⟩, .string ⟨#[83, 76, 65]⟩, .string ⟨#[83, 82, 65]⟩, .string ⟨#[83, 76, 76]⟩, .string ⟨#[83, 82, 76]⟩] 9)
    clear hO hb5
    go_wp2
    refine ⟨KC.out _ HB5, ?_⟩
    refine Mixed.wpMixT_loud rfl (by kernel_rfl) ?_
    go_wp2
    refine ⟨KC.out _ HBT, ?_⟩
    refine Mixed.wpMixT_pure rfl (by kernel_rfl) (.pointer (some ⟨w5.heap.size, 5, none⟩)) (fun w h => by go_simp; try rfl) ?_
    refine Mixed.wpMixT_loud rfl (by kernel_rfl) ?_
    go_wp2
    refine ⟨KC.out _ HBT, ?_⟩
    simp only [Mixed.wpMixT, List.drop_succ_cons, List.drop_zero]
    go_wp2_with fail
    refine (FN.out _ A cap HBT OT).mono ?_
    rintro e w6 ⟨rfl, OY, RX, UX⟩
    obtain ⟨z0, z1, z2, z3⟩ := RX.cells
    go_wp2
    obtain ⟨wz, hwz, q1, q2, q3⟩ := ri_put RX ⟨#[83, 82, 65]⟩ (.slice A 1 cap)
    rw [hwz]
    obtain ⟨s0, s1⟩ := q1.cells
    refine bodyPost_ret (v := .agg #[.string ⟨#[83, 82, 65]⟩, .slice A 1 cap]) ?_ rfl ?_
    · simp [results, Tryz.results28, go_sem, s0, s1]
    · exact ⟨_, rfl, own_put RX OY.out q3, UX.trans (q2.mono (by have := HN.out; omega))⟩
theorem cb_0_6 (op : Nat) (hop : op < 256) (x0 x1 x2 : Int) (hx : op / 64 = 0) (hy : op / 8 % 8 = 6)(w : World) : Calls Tryz.prog 28 #[.int .u8 op, .agg #[.int .i64 x0, .int .i64 x1, .int .i64 x2]] w (RetJ w [83, 76, 76] [(x0, x1, x2)]) := by
  have HE : Hid ((op : Int) / 64 = 0 ∧ (op : Int) / 8 % 8 = 6) := (by omega : (op : Int) / 64 = 0 ∧ (op : Int) / 8 % 8 = 6)
  clear hx hy
  obtain ⟨w0, hw0, C0, R0, B0⟩ := alu_start w (x0, x1, x2)
  simp only at hw0 C0
  obtain ⟨bX, hbX⟩ : ∃ n, w.heap.size = n := ⟨_, rfl⟩
  rw [hbX] at C0 R0
  have HN0 := Lib.hid hbX
  have R0 := Lib.hid R0
  have B0 := Lib.hid B0
  have C0 := Lib.hid C0
  go_enter Tryz.func28, Tryz.ntmps28
  go_upto_region 3 with fail
  obtain ⟨e1, e2⟩ := HE.out
  rw [e1, e2]
  clear e1 e2 HE
  obtain ⟨n, hn⟩ : ∃ n, bX + 1 = n := ⟨_, rfl⟩
  rw [hn]
  have Rw0 : Hid (Rz w0 n) := by rw [← hn]; exact R0.out
  have Uw0 : Hid (Below w.heap.size w w0) := B0.out
  have Xw0 : Hid (OpV w0 bX (x0, x1, x2)) := C0.out
  have HN : Hid (w.heap.size + 1 = n) := by rw [HN0.out]; exact hn
  clear R0 B0 C0 hn hbX
  clear HN0
  go_upto_region 4 with fail
  obtain ⟨wd, hwd⟩ : ∃ v, w0.drew = v := ⟨_, rfl⟩
  have hbd : Below w0.heap.size w0 wd := by rw [← hwd]; exact below_drewN _ _ 1
  have KR : Hid (∀ wx : World, Below wd.heap.size wd wx → Rz wx n ∧ Below w.heap.size w wx) := fun wx hb => ⟨(Rw0.out.all hbd).all hb, up (up Uw0.out hbd) hb⟩
  have KC : Hid (∀ wx : World, Below wd.heap.size wd wx → wx.cell? ⟨bX, 0, none⟩ = some (.int .i64 x0) ∧ wx.cell? ⟨bX, 1, none⟩ = some (.int .i64 x1) ∧ wx.cell? ⟨bX, 2, none⟩ = some (.int .i64 x2)) := fun wx hb => by
    obtain ⟨Xa, Xb, Xc, -⟩ := ((Xw0.out.all hbd).all hb).cells
    exact ⟨Xa, Xb, Xc⟩
  have HU : Hid (w.heap.size ≤ wd.heap.size) := (KR.out wd (Below.refl _ _)).2.size
  have FN : Hid (∀ (wt : World) (A : Option Addr) (cap : Nat), Below wd.heap.size wd wt → OwnT wt w.heap.size (.slice A 1 cap) [(x0, x1, x2)] → Calls Tryz.prog 56 #[.string ⟨#[83, 76, 76]⟩, .slice A 1 cap] wt (fun e w6 => e = .returned (.agg #[.string ⟨#[83, 76, 76]⟩, .slice A 1 cap]) ∧ Hid (OwnT w6 w.heap.size (.slice A 1 cap) [(x0, x1, x2)]) ∧ Rz w6 n ∧ Below w.heap.size w w6)) := fun wt A cap hb hO => by
    refine (rins_any ⟨#[83, 76, 76]⟩ A 1 cap wt).mono ?_
    rintro e w6 ⟨rfl, hb6⟩
    have K6 := KR.out w6 (hb.trans (hb6.mono hb.size))
    exact ⟨rfl, hO.below hb6, K6.1, K6.2⟩
  have K0 := Lib.hid (KC.out wd (Below.refl _ _))
  refine Mixed.wp_region_mixedT (fun w' => w'.cell? ⟨bX, 0, none⟩ = some (.int .i64 x0) ∧ w'.cell? ⟨bX, 1, none⟩ = some (.int .i64 x1) ∧ w'.cell? ⟨bX, 2, none⟩ = some (.int .i64 x2)) 6 (.pure 1 (.pure 4 (.two 0 (.pure 2 (.two 3 (.one 5 .done) 5 (.one 3 .done))) 5 (.one 0 (.pure 2 (.one 3 .done)))))) (by kernel_rfl) (by kernel_rfl) (by rw [hwd]; exact K0.out) ?_
  rw [hwd]
  clear hwd hbd K0
  refine Mixed.wpMixT_pure rfl (by kernel_rfl) (.int .i64 6) (fun w h => by go_simp; try rfl) ?_
  refine Mixed.wpMixT_pure rfl (by kernel_rfl) (.agg #[.int .i64 x0, .int .i64 x1, .int .i64 x2]) (fun w h => by obtain ⟨h0, h1, h2⟩ := h; go_simp; try rfl) ?_
  obtain ⟨nb, hnb⟩ : ∃ z, wd.heap.size = z := ⟨_, rfl⟩
  obtain ⟨wA, hwA⟩ : ∃ z, wd.alloc (.cells #[.string ⟨#[82, 76, 67]⟩, .string ⟨#[82, 82, 67]⟩, .string ⟨#[82, 76]⟩, .string ⟨#[82, 82]⟩, .string ⟨#[83, 76, 65]⟩, .string ⟨#[83, 82, 65]⟩, .string ⟨#[83, 76, 76]⟩, .string ⟨#[83, 82, 76]⟩] 9) = z := ⟨_, rfl⟩
  have BA : Hid (Below wd.heap.size wd wA) := by rw [← hwA]; exact up_alloc _ _
  have VA : Hid (wA.heap[nb]? = some (Obj.cells #[.string ⟨#[82, 76, 67]⟩, .string ⟨#[82, 82, 67]⟩, .string ⟨#[82, 76]⟩, .string ⟨#[82, 82]⟩, .string ⟨#[83, 76, 65]⟩, .string ⟨#[83, 82, 65]⟩, .string ⟨#[83, 76, 76]⟩, .string ⟨#[83, 82, 76]⟩] 9 (0, 0))) := by rw [← hwA, ← hnb]; exact heap_alloc_new _ _
  have HWA := Lib.hid hwA
  have HNB := Lib.hid hnb
  clear hwA hnb
  refine Mixed.wpMixT_both rfl (by kernel_rfl) rfl (by kernel_rfl) ?_ ?_
  · go_wp2
    rw [HWA.out, HNB.out]
    refine ⟨KC.out _ BA.out, ?_⟩
    refine Mixed.wpMixT_pure rfl (by kernel_rfl) (.pointer (some ⟨nb, 6, none⟩)) (fun w h => by go_simp; try rfl) ?_
    refine Mixed.wpMixT_both rfl (by kernel_rfl) rfl (by kernel_rfl) ?_ ?_
    · have va := Lib.cell_of_heap VA.out 6
      go_wp2
      refine ⟨KC.out _ BA.out, ?_⟩
      clear va
      refine Mixed.wpMixT_loud rfl (by kernel_rfl) ?_
      go_wp2_with fail
      refine (rone_any (x0, x1, x2) wA).mono ?_
      rintro e w5 ⟨v, rfl, hO, hb5⟩
      obtain ⟨A, cap, rfl, -, -⟩ := hO.ops
      have HBT := BA.out.trans (hb5.mono BA.out.size)
      have OT := hO.lift (Nat.le_trans HU.out BA.out.size)
      clear hO hb5
      go_wp2
      refine ⟨KC.out _ HBT, ?_⟩
      simp only [Mixed.wpMixT, List.drop_succ_cons, List.drop_zero]
      go_wp2_with fail
      refine (FN.out _ A cap HBT OT).mono ?_
      rintro e w6 ⟨rfl, OY, RX, UX⟩
      obtain ⟨z0, z1, z2, z3⟩ := RX.cells
      go_wp2
      obtain ⟨wz, hwz, q1, q2, q3⟩ := ri_put RX ⟨#[83, 76, 76]⟩ (.slice A 1 cap)
      rw [hwz]
      obtain ⟨s0, s1⟩ := q1.cells
      refine bodyPost_ret (v := .agg #[.string ⟨#[83, 76, 76]⟩, .slice A 1 cap]) ?_ rfl ?_
      · simp [results, Tryz.results28, go_sem, s0, s1]
      · exact ⟨_, rfl, own_put RX OY.out q3, UX.trans (q2.mono (by have := HN.out; omega))⟩
    · skip
      go_wp2_with fail
      refine (rone_any (x0, x1, x2) wA).mono ?_
      rintro e w5 ⟨v, rfl, hO, hb5⟩
      obtain ⟨A, cap, rfl, -, -⟩ := hO.ops
      have HBT := BA.out.trans (hb5.mono BA.out.size)
      have OT := hO.lift (Nat.le_trans HU.out BA.out.size)
      have va := Lib.cell_of_heap ((hb5.block nb (Array.getElem?_eq_some_iff.1 VA.out).1).trans VA.out) 6
      clear hO hb5
      go_wp2
      refine ⟨KC.out _ HBT, ?_⟩
      refine Mixed.wpMixT_loud rfl (by kernel_rfl) ?_
      go_wp2
      refine ⟨KC.out _ HBT, ?_⟩
      clear va
      simp only [Mixed.wpMixT, List.drop_succ_cons, List.drop_zero]
      go_wp2_with fail
      refine (FN.out _ A cap HBT OT).mono ?_
      rintro e w6 ⟨rfl, OY, RX, UX⟩
      obtain ⟨z0, z1, z2, z3⟩ := RX.cells
      go_wp2
      obtain ⟨wz, hwz, q1, q2, q3⟩ := ri_put RX ⟨#[83, 76, 76]⟩ (.slice A 1 cap)
      rw [hwz]
      obtain ⟨s0, s1⟩ := q1.cells
      refine bodyPost_ret (v := .agg #[.string ⟨#[83, 76, 76]⟩, .slice A 1 cap]) ?_ rfl ?_
      · simp [results, Tryz.results28, go_sem, s0, s1]
      · exact ⟨_, rfl, own_put RX OY.out q3, UX.trans (q2.mono (by have := HN.out; omega))⟩
  · skip
    go_wp2_with fail
    refine (rone_any (x0, x1, x2) wd).mono ?_
    rintro e w5 ⟨v, rfl, hO, hb5⟩
    obtain ⟨A, cap, rfl, -, -⟩ := hO.ops
    have HB5 := hb5
    have HBT : Below wd.heap.size wd (w5.alloc (.cells #[.string ⟨#[82, 76, 67]⟩, .string ⟨#[82, 82, 67]⟩, .string ⟨#[82, 76]⟩, .string ⟨#[82, 82]⟩, .string ⟨#[83, 76, 65]⟩, .string ⟨#[83, 82, 65]⟩, .string ⟨#[83, 76, 76]⟩, .string ⟨#[83, 82, 76]⟩] 9)) := hb5.trans ((up_alloc w5 _).mono hb5.size)
    have OT := World.ownsRow.alloc (hO.lift HU.out) (.cells #[.string ⟨#[82, 76, 67]⟩, .string ⟨#[82, 82, 67]⟩, .string ⟨#[82, 76]⟩, .string ⟨#[82, 82]⟩, .string ⟨#[83, 76, 65]⟩, .string ⟨#[83, 82, 65]⟩, .string ⟨#[83, 76, 76]⟩, .string ⟨#[83, 82, 76]⟩] 9)
    clear hO hb5
    go_wp2
    refine ⟨KC.out _ HB5, ?_⟩
    refine Mixed.wpMixT_loud rfl (by kernel_rfl) ?_
    go_wp2
    refine ⟨KC.out _ HBT, ?_⟩
    refine Mixed.wpMixT_pure rfl (by kernel_rfl) (.pointer (some ⟨w5.heap.size, 6, none⟩)) (fun w h => by go_simp; try rfl) ?_
    refine Mixed.wpMixT_loud rfl (by kernel_rfl) ?_
    go_wp2
    refine ⟨KC.out _ HBT, ?_⟩
    simp only [Mixed.wpMixT, List.drop_succ_cons, List.drop_zero]
    go_wp2_with fail
    refine (FN.out _ A cap HBT OT).mono ?_
    rintro e w6 ⟨rfl, OY, RX, UX⟩
    obtain ⟨z0, z1, z2, z3⟩ := RX.cells
    go_wp2
    obtain ⟨wz, hwz, q1, q2, q3⟩ := ri_put RX ⟨#[83, 76, 76]⟩ (.slice A 1 cap)
    rw [hwz]
    obtain ⟨s0, s1⟩ := q1.cells
    refine bodyPost_ret (v := .agg #[.string ⟨#[83, 76, 76]⟩, .slice A 1 cap]) ?_ rfl ?_
    · simp [results, Tryz.results28, go_sem, s0, s1]
    · exact ⟨_, rfl, own_put RX OY.out q3, UX.trans (q2.mono (by have := HN.out; omega))⟩
theorem cb_0_7 (op : Nat) (hop : op < 256) (x0 x1 x2 : Int) (hx : op / 64 = 0) (hy : op / 8 % 8 = 7)(w : World) : Calls Tryz.prog 28 #[.int .u8 op, .agg #[.int .i64 x0, .int .i64 x1, .int .i64 x2]] w (RetJ w [83, 82, 76] [(x0, x1, x2)]) := by
  have HE : Hid ((op : Int) / 64 = 0 ∧ (op : Int) / 8 % 8 = 7) := (by omega : (op : Int) / 64 = 0 ∧ (op : Int) / 8 % 8 = 7)
  clear hx hy
  obtain ⟨w0, hw0, C0, R0, B0⟩ := alu_start w (x0, x1, x2)
  simp only at hw0 C0
  obtain ⟨bX, hbX⟩ : ∃ n, w.heap.size = n := ⟨_, rfl⟩
  rw [hbX] at C0 R0
  have HN0 := Lib.hid hbX
  have R0 := Lib.hid R0
  have B0 := Lib.hid B0
  have C0 := Lib.hid C0
  go_enter Tryz.func28, Tryz.ntmps28
  go_upto_region 3 with fail
  obtain ⟨e1, e2⟩ := HE.out
  rw [e1, e2]
  clear e1 e2 HE
  obtain ⟨n, hn⟩ : ∃ n, bX + 1 = n := ⟨_, rfl⟩
  rw [hn]
  have Rw0 : Hid (Rz w0 n) := by rw [← hn]; exact R0.out
  have Uw0 : Hid (Below w.heap.size w w0) := B0.out
  have Xw0 : Hid (OpV w0 bX (x0, x1, x2)) := C0.out
  have HN : Hid (w.heap.size + 1 = n) := by rw [HN0.out]; exact hn
  clear R0 B0 C0 hn hbX
  clear HN0
  go_upto_region 4 with fail
  obtain ⟨wd, hwd⟩ : ∃ v, w0.drew = v := ⟨_, rfl⟩
  have hbd : Below w0.heap.size w0 wd := by rw [← hwd]; exact below_drewN _ _ 1
  have KR : Hid (∀ wx : World, Below wd.heap.size wd wx → Rz wx n ∧ Below w.heap.size w wx) := fun wx hb => ⟨(Rw0.out.all hbd).all hb, up (up Uw0.out hbd) hb⟩
  have KC : Hid (∀ wx : World, Below wd.heap.size wd wx → wx.cell? ⟨bX, 0, none⟩ = some (.int .i64 x0) ∧ wx.cell? ⟨bX, 1, none⟩ = some (.int .i64 x1) ∧ wx.cell? ⟨bX, 2, none⟩ = some (.int .i64 x2)) := fun wx hb => by
    obtain ⟨Xa, Xb, Xc, -⟩ := ((Xw0.out.all hbd).all hb).cells
    exact ⟨Xa, Xb, Xc⟩
  have HU : Hid (w.heap.size ≤ wd.heap.size) := (KR.out wd (Below.refl _ _)).2.size
  have FN : Hid (∀ (wt : World) (A : Option Addr) (cap : Nat), Below wd.heap.size wd wt → OwnT wt w.heap.size (.slice A 1 cap) [(x0, x1, x2)] → Calls Tryz.prog 56 #[.string ⟨#[83, 82, 76]⟩, .slice A 1 cap] wt (fun e w6 => e = .returned (.agg #[.string ⟨#[83, 82, 76]⟩, .slice A 1 cap]) ∧ Hid (OwnT w6 w.heap.size (.slice A 1 cap) [(x0, x1, x2)]) ∧ Rz w6 n ∧ Below w.heap.size w w6)) := fun wt A cap hb hO => by
    refine (rins_any ⟨#[83, 82, 76]⟩ A 1 cap wt).mono ?_
    rintro e w6 ⟨rfl, hb6⟩
    have K6 := KR.out w6 (hb.trans (hb6.mono hb.size))
    exact ⟨rfl, hO.below hb6, K6.1, K6.2⟩
  have K0 := Lib.hid (KC.out wd (Below.refl _ _))
  refine Mixed.wp_region_mixedT (fun w' => w'.cell? ⟨bX, 0, none⟩ = some (.int .i64 x0) ∧ w'.cell? ⟨bX, 1, none⟩ = some (.int .i64 x1) ∧ w'.cell? ⟨bX, 2, none⟩ = some (.int .i64 x2)) 6 (.pure 1 (.pure 4 (.two 0 (.pure 2 (.two 3 (.one 5 .done) 5 (.one 3 .done))) 5 (.one 0 (.pure 2 (.one 3 .done)))))) (by kernel_rfl) (by kernel_rfl) (by rw [hwd]; exact K0.out) ?_
  rw [hwd]
  clear hwd hbd K0
  refine Mixed.wpMixT_pure rfl (by kernel_rfl) (.int .i64 7) (fun w h => by go_simp; try rfl) ?_
  refine Mixed.wpMixT_pure rfl (by kernel_rfl) (.agg #[.int .i64 x0, .int .i64 x1, .int .i64 x2]) (fun w h => by obtain ⟨h0, h1, h2⟩ := h; go_simp; try rfl) ?_
  obtain ⟨nb, hnb⟩ : ∃ z, wd.heap.size = z := ⟨_, rfl⟩
  obtain ⟨wA, hwA⟩ : ∃ z, wd.alloc (.cells #[.string ⟨#[82, 76, 67]⟩, .string ⟨#[82, 82, 67]⟩, .string ⟨#[82, 76]⟩, .string ⟨#[82, 82]⟩, .string ⟨#[83, 76, 65]⟩, .string ⟨#[83, 82, 65]⟩, .string ⟨#[83, 76, 76]⟩, .string ⟨#[83, 82, 76]⟩] 9) = z := ⟨_, rfl⟩
  have BA : Hid (Below wd.heap.size wd wA) := by rw [← hwA]; exact up_alloc _ _
  have VA : Hid (wA.heap[nb]? = some (Obj.cells #[.string ⟨#[82, 76, 67]⟩, .string ⟨#[82, 82, 67]⟩, .string ⟨#[82, 76]⟩, .string ⟨#[82, 82]⟩, .string ⟨#[83, 76, 65]⟩, .string ⟨#[83, 82, 65]⟩, .string ⟨#[83, 76, 76]⟩, .string ⟨#[83, 82, 76]⟩] 9 (0, 0))) := by rw [← hwA, ← hnb]; exact heap_alloc_new _ _
  have HWA := Lib.hid hwA
  have HNB := Lib.hid hnb
  clear hwA hnb
  refine Mixed.wpMixT_both rfl (by kernel_rfl) rfl (by kernel_rfl) ?_ ?_
  · go_wp2
    rw [HWA.out, HNB.out]
    refine ⟨KC.out _ BA.out, ?_⟩
    refine Mixed.wpMixT_pure rfl (by kernel_rfl) (.pointer (some ⟨nb, 7, none⟩)) (fun w h => by go_simp; try rfl) ?_
    refine Mixed.wpMixT_both rfl (by kernel_rfl) rfl (by kernel_rfl) ?_ ?_
    · have va := Lib.cell_of_heap VA.out 7
      go_wp2
      refine ⟨KC.out _ BA.out, ?_⟩
      clear va
      refine Mixed.wpMixT_loud rfl (by kernel_rfl) ?_
      go_wp2_with fail
      refine (rone_any (x0, x1, x2) wA).mono ?_
      rintro e w5 ⟨v, rfl, hO, hb5⟩
      obtain ⟨A, cap, rfl, -, -⟩ := hO.ops
      have HBT := BA.out.trans (hb5.mono BA.out.size)
      have OT := hO.lift (Nat.le_trans HU.out BA.out.size)
      clear hO hb5
      go_wp2
      refine ⟨KC.out _ HBT, ?_⟩
      simp only [Mixed.wpMixT, List.drop_succ_cons, List.drop_zero]
      go_wp2_with fail
      refine (FN.out _ A cap HBT OT).mono ?_
      rintro e w6 ⟨rfl, OY, RX, UX⟩
      obtain ⟨z0, z1, z2, z3⟩ := RX.cells
      go_wp2
      obtain ⟨wz, hwz, q1, q2, q3⟩ := ri_put RX ⟨#[83, 82, 76]⟩ (.slice A 1 cap)
      rw [hwz]
      obtain ⟨s0, s1⟩ := q1.cells
      refine bodyPost_ret (v := .agg #[.string ⟨#[83, 82, 76]⟩, .slice A 1 cap]) ?_ rfl ?_
      · simp [results, Tryz.results28, go_sem, s0, s1]
      · exact ⟨_, rfl, own_put RX OY.out q3, UX.trans (q2.mono (by have := HN.out; omega))⟩
    · skip
      go_wp2_with fail
      refine (rone_any (x0, x1, x2) wA).mono ?_
      rintro e w5 ⟨v, rfl, hO, hb5⟩
      obtain ⟨A, cap, rfl, -, -⟩ := hO.ops
      have HBT := BA.out.trans (hb5.mono BA.out.size)
      have OT := hO.lift (Nat.le_trans HU.out BA.out.size)
      have va := Lib.cell_of_heap ((hb5.block nb (Array.getElem?_eq_some_iff.1 VA.out).1).trans VA.out) 7
      clear hO hb5
      go_wp2
      refine ⟨KC.out _ HBT, ?_⟩
      refine Mixed.wpMixT_loud rfl (by kernel_rfl) ?_
      go_wp2
      refine ⟨KC.out _ HBT, ?_⟩
      clear va
      simp only [Mixed.wpMixT, List.drop_succ_cons, List.drop_zero]
      go_wp2_with fail
      refine (FN.out _ A cap HBT OT).mono ?_
      rintro e w6 ⟨rfl, OY, RX, UX⟩
      obtain ⟨z0, z1, z2, z3⟩ := RX.cells
      go_wp2
      obtain ⟨wz, hwz, q1, q2, q3⟩ := ri_put RX ⟨#[83, 82, 76]⟩ (.slice A 1 cap)
      rw [hwz]
      obtain ⟨s0, s1⟩ := q1.cells
      refine bodyPost_ret (v := .agg #[.string ⟨#[83, 82, 76]⟩, .slice A 1 cap]) ?_ rfl ?_
      · simp [results, Tryz.results28, go_sem, s0, s1]
      · exact ⟨_, rfl, own_put RX OY.out q3, UX.trans (q2.mono (by have := HN.out; omega))⟩
  · skip
    go_wp2_with fail
    refine (rone_any (x0, x1, x2) wd).mono ?_
    rintro e w5 ⟨v, rfl, hO, hb5⟩
    obtain ⟨A, cap, rfl, -, -⟩ := hO.ops
    have HB5 := hb5
    have HBT : Below wd.heap.size wd (w5.alloc (.cells #[.string ⟨#[82, 76, 67]⟩, .string ⟨#[82, 82, 67]⟩, .string ⟨#[82, 76]⟩, .string ⟨#[82, 82]⟩, .string ⟨#[83, 76, 65]⟩, .string ⟨#[83, 82, 65]⟩, .string ⟨#[83, 76, 76]⟩, .string ⟨#[83, 82, 76]⟩] 9)) := hb5.trans ((up_alloc w5 _).mono hb5.size)
    have OT := World.ownsRow.alloc (hO.lift HU.out) (.cells #[.string ⟨#[82, 76, 67]⟩, .string ⟨#[82, 82, 67]⟩, .string ⟨#[82, 76]⟩, .string ⟨#[82, 82]⟩, .string ⟨#[83, 76, 65]⟩, .string ⟨#[83, 82, 65]⟩, .string ⟨#[83, 76, 76]⟩, .string ⟨#[83, 82, 76]⟩] 9)
    clear hO hb5
    go_wp2
    refine ⟨KC.out _ HB5, ?_⟩
    refine Mixed.wpMixT_loud rfl (by kernel_rfl) ?_
    go_wp2
    refine ⟨KC.out _ HBT, ?_⟩
    refine Mixed.wpMixT_pure rfl (by kernel_rfl) (.pointer (some ⟨w5.heap.size, 7, none⟩)) (fun w h => by go_simp; try rfl) ?_
    refine Mixed.wpMixT_loud rfl (by kernel_rfl) ?_
    go_wp2
    refine ⟨KC.out _ HBT, ?_⟩
    simp only [Mixed.wpMixT, List.drop_succ_cons, List.drop_zero]
    go_wp2_with fail
    refine (FN.out _ A cap HBT OT).mono ?_
    rintro e w6 ⟨rfl, OY, RX, UX⟩
    obtain ⟨z0, z1, z2, z3⟩ := RX.cells
    go_wp2
    obtain ⟨wz, hwz, q1, q2, q3⟩ := ri_put RX ⟨#[83, 82, 76]⟩ (.slice A 1 cap)
    rw [hwz]
    obtain ⟨s0, s1⟩ := q1.cells
    refine bodyPost_ret (v := .agg #[.string ⟨#[83, 82, 76]⟩, .slice A 1 cap]) ?_ rfl ?_
    · simp [results, Tryz.results28, go_sem, s0, s1]
    · exact ⟨_, rfl, own_put RX OY.out q3, UX.trans (q2.mono (by have := HN.out; omega))⟩
theorem cb_1 (op : Nat) (hop : op < 256) (x0 x1 x2 : Int) (hx : op / 64 = 1) (w : World) : Calls Tryz.prog 28 #[.int .u8 op, .agg #[.int .i64 x0, .int .i64 x1, .int .i64 x2]] w (RetJ w [66, 73, 84] [(6, 0, (op / 8 % 8 : Nat)), (x0, x1, x2)]) := by
  obtain ⟨y, hy⟩ : ∃ y, op / 8 % 8 = y := ⟨_, rfl⟩
  rw [hy]
  have HE : Hid ((op : Int) / 64 = 1 ∧ (op : Int) / 8 % 8 = (y : Int)) := (by omega : (op : Int) / 64 = 1 ∧ (op : Int) / 8 % 8 = (y : Int))
  clear hx hy
  obtain ⟨w0, hw0, C0, R0, B0⟩ := alu_start w (x0, x1, x2)
  simp only at hw0 C0
  obtain ⟨bX, hbX⟩ : ∃ n, w.heap.size = n := ⟨_, rfl⟩
  rw [hbX] at C0 R0
  have HN0 := Lib.hid hbX
  have R0 := Lib.hid R0
  have B0 := Lib.hid B0
  have C0 := Lib.hid C0
  go_enter Tryz.func28, Tryz.ntmps28
  go_upto_region 3 with fail
  obtain ⟨e1, e2⟩ := HE.out
  rw [e1, e2]
  clear e1 e2 HE
  obtain ⟨n, hn⟩ : ∃ n, bX + 1 = n := ⟨_, rfl⟩
  rw [hn]
  have Rw0 : Hid (Rz w0 n) := by rw [← hn]; exact R0.out
  have Uw0 : Hid (Below w.heap.size w w0) := B0.out
  have Xw0 : Hid (OpV w0 bX (x0, x1, x2)) := C0.out
  have HN : Hid (w.heap.size + 1 = n) := by rw [HN0.out]; exact hn
  clear R0 B0 C0 hn hbX
  clear HN0
  go_upto_region 6 with fail
  clear hw0
  obtain ⟨w1, hw1⟩ : ∃ v, w0.drew = v := ⟨_, rfl⟩
  have Rw1 : Hid (Rz w1 n) := by rw [← hw1]; exact Rw0.out
  have Uw1 : Hid (Below w.heap.size w w1) := by rw [← hw1]; exact Uw0.out.drew
  have Xw1 : Hid (OpV w1 bX (x0, x1, x2)) := by rw [← hw1]; exact Xw0.out
  have K : Hid (w1.cell? ⟨bX, 0, none⟩ = some (.int .i64 x0) ∧ w1.cell? ⟨bX, 1, none⟩ = some (.int .i64 x1) ∧ w1.cell? ⟨bX, 2, none⟩ = some (.int .i64 x2)) := ⟨Xw1.out.cells.1, Xw1.out.cells.2.1, Xw1.out.cells.2.2.1⟩
  refine Mixed.wp_region_mixed (fun w' => w'.cell? ⟨bX, 0, none⟩ = some (.int .i64 x0) ∧ w'.cell? ⟨bX, 1, none⟩ = some (.int .i64 x1) ∧ w'.cell? ⟨bX, 2, none⟩ = some (.int .i64 x2)) 3 [(0, true), (2, true), (1, false)] (by kernel_rfl) (by kernel_rfl) (by rw [hw1]; exact K.out) ?_
  rw [hw1]
  clear hw1 K Rw0 Uw0 Xw0
  refine Mixed.wpMix_move rfl (by kernel_rfl) _ rfl (.int .i64 y) rfl ?_
  refine Mixed.wpMix_pure rfl (by kernel_rfl) (.agg #[.int .i64 x0, .int .i64 x1, .int .i64 x2]) (fun w h => by obtain ⟨h0, h1, h2⟩ := h; go_simp; try rfl) ?_
  refine Mixed.wpMix_loudG rfl (by kernel_rfl) ?_
  go_wp2_with fail
  refine (rimm_any (y : Int) w1).mono ?_
  rintro e w2 ⟨rfl, hb2⟩
  have Rw2 := Lib.hid (Rw1.out.all hb2)
  have Uw2 : Hid (Below w.heap.size w w2) := up Uw1.out hb2
  have Xw2 := Lib.hid (Xw1.out.all hb2)
  clear Rw1 Uw1 Xw1 hb2
  simp only [trV]
  have xx : w2.cell? ⟨bX, 0, none⟩ = some (.int .i64 x0) ∧ w2.cell? ⟨bX, 1, none⟩ = some (.int .i64 x1) ∧ w2.cell? ⟨bX, 2, none⟩ = some (.int .i64 x2) := ⟨Xw2.out.cells.1, Xw2.out.cells.2.1, Xw2.out.cells.2.2.1⟩
  go_wp2
  refine ⟨xx, ?_⟩
  clear xx
  simp only [Mixed.wpMix, List.drop_succ_cons, List.drop_zero]
  go_wp2_with fail
  refine (rtwo_any (6, 0, (y : Int)) (x0, x1, x2) w2).mono ?_
  rintro e w3 ⟨v, rfl, hO, hb3⟩
  obtain ⟨A, cap, rfl, -, -⟩ := hO.ops
  have Ow3 : Hid (OwnT w3 w.heap.size (.slice A 2 cap) [(6, 0, (y : Int)), (x0, x1, x2)]) := hO.lift Uw2.out.size
  clear hO
  have Rw3 := Lib.hid (Rw2.out.all hb3)
  have Uw3 : Hid (Below w.heap.size w w3) := up Uw2.out hb3
  have Xw3 := Lib.hid (Xw2.out.all hb3)
  clear Rw2 Uw2 Xw2 hb3
  go_wp2_with fail
  refine (rins_any ⟨#[66, 73, 84]⟩ A 2 cap w3).mono ?_
  rintro e w4 ⟨rfl, hb4⟩
  have Rw4 := Lib.hid (Rw3.out.all hb4)
  have Uw4 : Hid (Below w.heap.size w w4) := up Uw3.out hb4
  have Xw4 := Lib.hid (Xw3.out.all hb4)
  have Ow4 := Lib.hid (Ow3.out.below hb4)
  clear Rw3 Uw3 Xw3 Ow3 hb4
  obtain ⟨z0, z1, z2, z3⟩ := Rw4.out.cells
  go_wp2
  obtain ⟨wz, hwz, q1, q2, q3⟩ := ri_put Rw4.out ⟨#[66, 73, 84]⟩ (.slice A 2 cap)
  rw [hwz]
  obtain ⟨s0, s1⟩ := q1.cells
  refine bodyPost_ret (v := .agg #[.string ⟨#[66, 73, 84]⟩, (.slice A 2 cap)]) ?_ rfl ?_
  · simp [results, Tryz.results28, go_sem, s0, s1]
  · exact ⟨_, rfl, own_put Rw4.out Ow4.out q3, Uw4.out.trans (q2.mono (by have := HN.out; omega))⟩
theorem cb_2 (op : Nat) (hop : op < 256) (x0 x1 x2 : Int) (hx : op / 64 = 2) (w : World) : Calls Tryz.prog 28 #[.int .u8 op, .agg #[.int .i64 x0, .int .i64 x1, .int .i64 x2]] w (RetJ w [82, 69, 83] [(6, 0, (op / 8 % 8 : Nat)), (x0, x1, x2)]) := by
  obtain ⟨y, hy⟩ : ∃ y, op / 8 % 8 = y := ⟨_, rfl⟩
  rw [hy]
  have HE : Hid ((op : Int) / 64 = 2 ∧ (op : Int) / 8 % 8 = (y : Int)) := (by omega : (op : Int) / 64 = 2 ∧ (op : Int) / 8 % 8 = (y : Int))
  clear hx hy
  obtain ⟨w0, hw0, C0, R0, B0⟩ := alu_start w (x0, x1, x2)
  simp only at hw0 C0
  obtain ⟨bX, hbX⟩ : ∃ n, w.heap.size = n := ⟨_, rfl⟩
  rw [hbX] at C0 R0
  have HN0 := Lib.hid hbX
  have R0 := Lib.hid R0
  have B0 := Lib.hid B0
  have C0 := Lib.hid C0
  go_enter Tryz.func28, Tryz.ntmps28
  go_upto_region 3 with fail
  obtain ⟨e1, e2⟩ := HE.out
  rw [e1, e2]
  clear e1 e2 HE
  obtain ⟨n, hn⟩ : ∃ n, bX + 1 = n := ⟨_, rfl⟩
  rw [hn]
  have Rw0 : Hid (Rz w0 n) := by rw [← hn]; exact R0.out
  have Uw0 : Hid (Below w.heap.size w w0) := B0.out
  have Xw0 : Hid (OpV w0 bX (x0, x1, x2)) := C0.out
  have HN : Hid (w.heap.size + 1 = n) := by rw [HN0.out]; exact hn
  clear R0 B0 C0 hn hbX
  clear HN0
  go_upto_region 8 with fail
  clear hw0
  obtain ⟨w1, hw1⟩ : ∃ v, w0.drew = v := ⟨_, rfl⟩
  have Rw1 : Hid (Rz w1 n) := by rw [← hw1]; exact Rw0.out
  have Uw1 : Hid (Below w.heap.size w w1) := by rw [← hw1]; exact Uw0.out.drew
  have Xw1 : Hid (OpV w1 bX (x0, x1, x2)) := by rw [← hw1]; exact Xw0.out
  have K : Hid (w1.cell? ⟨bX, 0, none⟩ = some (.int .i64 x0) ∧ w1.cell? ⟨bX, 1, none⟩ = some (.int .i64 x1) ∧ w1.cell? ⟨bX, 2, none⟩ = some (.int .i64 x2)) := ⟨Xw1.out.cells.1, Xw1.out.cells.2.1, Xw1.out.cells.2.2.1⟩
  refine Mixed.wp_region_mixed (fun w' => w'.cell? ⟨bX, 0, none⟩ = some (.int .i64 x0) ∧ w'.cell? ⟨bX, 1, none⟩ = some (.int .i64 x1) ∧ w'.cell? ⟨bX, 2, none⟩ = some (.int .i64 x2)) 3 [(0, true), (2, true), (1, false)] (by kernel_rfl) (by kernel_rfl) (by rw [hw1]; exact K.out) ?_
  rw [hw1]
  clear hw1 K Rw0 Uw0 Xw0
  refine Mixed.wpMix_move rfl (by kernel_rfl) _ rfl (.int .i64 y) rfl ?_
  refine Mixed.wpMix_pure rfl (by kernel_rfl) (.agg #[.int .i64 x0, .int .i64 x1, .int .i64 x2]) (fun w h => by obtain ⟨h0, h1, h2⟩ := h; go_simp; try rfl) ?_
  refine Mixed.wpMix_loudG rfl (by kernel_rfl) ?_
  go_wp2_with fail
  refine (rimm_any (y : Int) w1).mono ?_
  rintro e w2 ⟨rfl, hb2⟩
  have Rw2 := Lib.hid (Rw1.out.all hb2)
  have Uw2 : Hid (Below w.heap.size w w2) := up Uw1.out hb2
  have Xw2 := Lib.hid (Xw1.out.all hb2)
  clear Rw1 Uw1 Xw1 hb2
  simp only [trV]
  have xx : w2.cell? ⟨bX, 0, none⟩ = some (.int .i64 x0) ∧ w2.cell? ⟨bX, 1, none⟩ = some (.int .i64 x1) ∧ w2.cell? ⟨bX, 2, none⟩ = some (.int .i64 x2) := ⟨Xw2.out.cells.1, Xw2.out.cells.2.1, Xw2.out.cells.2.2.1⟩
  go_wp2
  refine ⟨xx, ?_⟩
  clear xx
  simp only [Mixed.wpMix, List.drop_succ_cons, List.drop_zero]
  go_wp2_with fail
  refine (rtwo_any (6, 0, (y : Int)) (x0, x1, x2) w2).mono ?_
  rintro e w3 ⟨v, rfl, hO, hb3⟩
  obtain ⟨A, cap, rfl, -, -⟩ := hO.ops
  have Ow3 : Hid (OwnT w3 w.heap.size (.slice A 2 cap) [(6, 0, (y : Int)), (x0, x1, x2)]) := hO.lift Uw2.out.size
  clear hO
  have Rw3 := Lib.hid (Rw2.out.all hb3)
  have Uw3 : Hid (Below w.heap.size w w3) := up Uw2.out hb3
  have Xw3 := Lib.hid (Xw2.out.all hb3)
  clear Rw2 Uw2 Xw2 hb3
  go_wp2_with fail
  refine (rins_any ⟨#[82, 69, 83]⟩ A 2 cap w3).mono ?_
  rintro e w4 ⟨rfl, hb4⟩
  have Rw4 := Lib.hid (Rw3.out.all hb4)
  have Uw4 : Hid (Below w.heap.size w w4) := up Uw3.out hb4
  have Xw4 := Lib.hid (Xw3.out.all hb4)
  have Ow4 := Lib.hid (Ow3.out.below hb4)
  clear Rw3 Uw3 Xw3 Ow3 hb4
  obtain ⟨z0, z1, z2, z3⟩ := Rw4.out.cells
  go_wp2
  obtain ⟨wz, hwz, q1, q2, q3⟩ := ri_put Rw4.out ⟨#[82, 69, 83]⟩ (.slice A 2 cap)
  rw [hwz]
  obtain ⟨s0, s1⟩ := q1.cells
  refine bodyPost_ret (v := .agg #[.string ⟨#[82, 69, 83]⟩, (.slice A 2 cap)]) ?_ rfl ?_
  · simp [results, Tryz.results28, go_sem, s0, s1]
  · exact ⟨_, rfl, own_put Rw4.out Ow4.out q3, Uw4.out.trans (q2.mono (by have := HN.out; omega))⟩
theorem cb_3 (op : Nat) (hop : op < 256) (x0 x1 x2 : Int) (hx : op / 64 = 3) (w : World) : Calls Tryz.prog 28 #[.int .u8 op, .agg #[.int .i64 x0, .int .i64 x1, .int .i64 x2]] w (RetJ w [83, 69, 84] [(6, 0, (op / 8 % 8 : Nat)), (x0, x1, x2)]) := by
  obtain ⟨y, hy⟩ : ∃ y, op / 8 % 8 = y := ⟨_, rfl⟩
  rw [hy]
  have HE : Hid ((op : Int) / 64 = 3 ∧ (op : Int) / 8 % 8 = (y : Int)) := (by omega : (op : Int) / 64 = 3 ∧ (op : Int) / 8 % 8 = (y : Int))
  clear hx hy
  obtain ⟨w0, hw0, C0, R0, B0⟩ := alu_start w (x0, x1, x2)
  simp only at hw0 C0
  obtain ⟨bX, hbX⟩ : ∃ n, w.heap.size = n := ⟨_, rfl⟩
  rw [hbX] at C0 R0
  have HN0 := Lib.hid hbX
  have R0 := Lib.hid R0
  have B0 := Lib.hid B0
  have C0 := Lib.hid C0
  go_enter Tryz.func28, Tryz.ntmps28
  go_upto_region 3 with fail
  obtain ⟨e1, e2⟩ := HE.out
  rw [e1, e2]
  clear e1 e2 HE
  obtain ⟨n, hn⟩ : ∃ n, bX + 1 = n := ⟨_, rfl⟩
  rw [hn]
  have Rw0 : Hid (Rz w0 n) := by rw [← hn]; exact R0.out
  have Uw0 : Hid (Below w.heap.size w w0) := B0.out
  have Xw0 : Hid (OpV w0 bX (x0, x1, x2)) := C0.out
  have HN : Hid (w.heap.size + 1 = n) := by rw [HN0.out]; exact hn
  clear R0 B0 C0 hn hbX
  clear HN0
  go_upto_region 9 with fail
  clear hw0
  obtain ⟨w1, hw1⟩ : ∃ v, w0.drew = v := ⟨_, rfl⟩
  have Rw1 : Hid (Rz w1 n) := by rw [← hw1]; exact Rw0.out
  have Uw1 : Hid (Below w.heap.size w w1) := by rw [← hw1]; exact Uw0.out.drew
  have Xw1 : Hid (OpV w1 bX (x0, x1, x2)) := by rw [← hw1]; exact Xw0.out
  have K : Hid (w1.cell? ⟨bX, 0, none⟩ = some (.int .i64 x0) ∧ w1.cell? ⟨bX, 1, none⟩ = some (.int .i64 x1) ∧ w1.cell? ⟨bX, 2, none⟩ = some (.int .i64 x2)) := ⟨Xw1.out.cells.1, Xw1.out.cells.2.1, Xw1.out.cells.2.2.1⟩
  refine Mixed.wp_region_mixed (fun w' => w'.cell? ⟨bX, 0, none⟩ = some (.int .i64 x0) ∧ w'.cell? ⟨bX, 1, none⟩ = some (.int .i64 x1) ∧ w'.cell? ⟨bX, 2, none⟩ = some (.int .i64 x2)) 3 [(0, true), (2, true), (1, false)] (by kernel_rfl) (by kernel_rfl) (by rw [hw1]; exact K.out) ?_
  rw [hw1]
  clear hw1 K Rw0 Uw0 Xw0
  refine Mixed.wpMix_move rfl (by kernel_rfl) _ rfl (.int .i64 y) rfl ?_
  refine Mixed.wpMix_pure rfl (by kernel_rfl) (.agg #[.int .i64 x0, .int .i64 x1, .int .i64 x2]) (fun w h => by obtain ⟨h0, h1, h2⟩ := h; go_simp; try rfl) ?_
  refine Mixed.wpMix_loudG rfl (by kernel_rfl) ?_
  go_wp2_with fail
  refine (rimm_any (y : Int) w1).mono ?_
  rintro e w2 ⟨rfl, hb2⟩
  have Rw2 := Lib.hid (Rw1.out.all hb2)
  have Uw2 : Hid (Below w.heap.size w w2) := up Uw1.out hb2
  have Xw2 := Lib.hid (Xw1.out.all hb2)
  clear Rw1 Uw1 Xw1 hb2
  simp only [trV]
  have xx : w2.cell? ⟨bX, 0, none⟩ = some (.int .i64 x0) ∧ w2.cell? ⟨bX, 1, none⟩ = some (.int .i64 x1) ∧ w2.cell? ⟨bX, 2, none⟩ = some (.int .i64 x2) := ⟨Xw2.out.cells.1, Xw2.out.cells.2.1, Xw2.out.cells.2.2.1⟩
  go_wp2
  refine ⟨xx, ?_⟩
  clear xx
  simp only [Mixed.wpMix, List.drop_succ_cons, List.drop_zero]
  go_wp2_with fail
  refine (rtwo_any (6, 0, (y : Int)) (x0, x1, x2) w2).mono ?_
  rintro e w3 ⟨v, rfl, hO, hb3⟩
  obtain ⟨A, cap, rfl, -, -⟩ := hO.ops
  have Ow3 : Hid (OwnT w3 w.heap.size (.slice A 2 cap) [(6, 0, (y : Int)), (x0, x1, x2)]) := hO.lift Uw2.out.size
  clear hO
  have Rw3 := Lib.hid (Rw2.out.all hb3)
  have Uw3 : Hid (Below w.heap.size w w3) := up Uw2.out hb3
  have Xw3 := Lib.hid (Xw2.out.all hb3)
  clear Rw2 Uw2 Xw2 hb3
  go_wp2_with fail
  refine (rins_any ⟨#[83, 69, 84]⟩ A 2 cap w3).mono ?_
  rintro e w4 ⟨rfl, hb4⟩
  have Rw4 := Lib.hid (Rw3.out.all hb4)
  have Uw4 : Hid (Below w.heap.size w w4) := up Uw3.out hb4
  have Xw4 := Lib.hid (Xw3.out.all hb4)
  have Ow4 := Lib.hid (Ow3.out.below hb4)
  clear Rw3 Uw3 Xw3 Ow3 hb4
  obtain ⟨z0, z1, z2, z3⟩ := Rw4.out.cells
  go_wp2
  obtain ⟨wz, hwz, q1, q2, q3⟩ := ri_put Rw4.out ⟨#[83, 69, 84]⟩ (.slice A 2 cap)
  rw [hwz]
  obtain ⟨s0, s1⟩ := q1.cells
  refine bodyPost_ret (v := .agg #[.string ⟨#[83, 69, 84]⟩, (.slice A 2 cap)]) ?_ rfl ?_
  · simp [results, Tryz.results28, go_sem, s0, s1]
  · exact ⟨_, rfl, own_put Rw4.out Ow4.out q3, Uw4.out.trans (q2.mono (by have := HN.out; omega))⟩
theorem cb_any (op : Nat) (hop : op < 256) (x : Tr) (w : World) : Calls Tryz.prog 28 #[.int .u8 op, trV x] w (RetJ w (cbN op x).1 (cbN op x).2) := by
  obtain ⟨x0, x1, x2⟩ := x
  unfold cbN
  rcases (by omega : op / 64 = 0 ∨ op / 64 = 1 ∨ op / 64 = 2 ∨ op / 64 = 3) with h | h | h | h
  · rw [if_pos h]
    rcases (by omega : op / 8 % 8 = 0 ∨ op / 8 % 8 = 1 ∨ op / 8 % 8 = 2 ∨ op / 8 % 8 = 3 ∨ op / 8 % 8 = 4 ∨ op / 8 % 8 = 5 ∨ op / 8 % 8 = 6 ∨ op / 8 % 8 = 7) with k | k | k | k | k | k | k | k
    · rw [k]; exact cb_0_0 op hop x0 x1 x2 h k w
    · rw [k]; exact cb_0_1 op hop x0 x1 x2 h k w
    · rw [k]; exact cb_0_2 op hop x0 x1 x2 h k w
    · rw [k]; exact cb_0_3 op hop x0 x1 x2 h k w
    · rw [k]; exact cb_0_4 op hop x0 x1 x2 h k w
    · rw [k]; exact cb_0_5 op hop x0 x1 x2 h k w
    · rw [k]; exact cb_0_6 op hop x0 x1 x2 h k w
    · rw [k]; exact cb_0_7 op hop x0 x1 x2 h k w
  · rw [if_neg (by omega), if_pos h]; exact cb_1 op hop x0 x1 x2 h w
  · rw [if_neg (by omega), if_neg (by omega), if_pos h]; exact cb_2 op hop x0 x1 x2 h w
  · rw [if_neg (by omega), if_neg (by omega), if_neg (by omega)]; exact cb_3 op hop x0 x1 x2 h w
end Go.Proofs.YtipgecdfnbldnaaGreatDoor
