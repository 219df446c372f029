/-
  The reference's ed.
-/
import Derived.Test.YtipgecdfnbldnaaGreatDoorMRfKd
import Derived.Deep.DeepCutAuto
import Derived.Deep.Cut
import Derived.StillTail
import Derived.StillTailTactics
import Derived.Deep.RegionHeld3
import Derived.RegionTactic
set_option linter.all false
set_option maxRecDepth 100000
set_option maxHeartbeats 4000000
namespace Go.Proofs.YtipgecdfnbldnaaGreatDoor
open Go.RowKit Go.Shelf
attribute [local irreducible] Go.Mixed.wpMix
theorem ed_1_7 (op : Nat) (hop : op < 256) (y z : Nat) (hx : op / 64 = 1) (hy : op / 8 % 8 = y) (hz : op % 8 = z) (hv : z = 7) (w : World) : Calls Tryz.prog 30 #[.int .u8 op] w (RetE w (ed7 y).1 (ed7 y).2 [] false) := by
  have HY : Hid (y < 8) := (by omega : y < 8)
  have HZ : Hid (z < 8) := (by omega : z < 8)
  have HE : Hid ((op : Int) / 64 = 1 ∧ (op : Int) / 8 % 8 = (y : Int) ∧ (op : Int) % 8 = 7) := (by omega : (op : Int) / 64 = 1 ∧ (op : Int) / 8 % 8 = (y : Int) ∧ (op : Int) % 8 = 7)
  clear hv
  clear hx hy hz
  obtain ⟨w0, hw0, rz0, bl0⟩ := ri_start w
  obtain ⟨n, hn⟩ : ∃ n, w.heap.size = n := ⟨_, rfl⟩
  have Rw0 : Hid (Rz w0 n) := by rw [← hn]; exact rz0
  have Uw0 : Hid (Below w.heap.size w w0) := bl0
  have HN := Lib.hid hn
  clear rz0 bl0
  go_enter Tryz.func30, Tryz.ntmps30
  go_upto_region 4 with fail
  obtain ⟨e1, e2, e3⟩ := HE.out
  rw [e1, e2, e3]
  clear e1 e2 e3 HE
  go_wp2_with fail
  refine (rrp_any 2 3 w0).mono ?_
  rintro e w1 ⟨rfl, hb1⟩
  have Rw1 := Lib.hid (Rw0.out.all hb1)
  have Uw1 : Hid (Below w.heap.size w w1) := up Uw0.out hb1
  clear Rw0 Uw0 hb1
  clear hw0
  simp only [trV]
  simp only [rpT, show ¬ ((2 : Int) = 3) by decide, if_false]
  go_upto_region 10 with fail
  obtain ⟨bH, hbH⟩ : ∃ b, w1.heap.size = b := ⟨_, rfl⟩
  obtain ⟨w2, hw2⟩ : ∃ v, w1.alloc (.cells #[.int .i64 3, .int .i64 2, .int .i64 0] 69) = v := ⟨_, rfl⟩
  have hb2 : Below w1.heap.size w1 w2 := by rw [← hw2]; exact up_alloc _ _
  have Hw2 : Hid (OpV w2 bH (3, 2, 0)) := by rw [← hw2, ← hbH]; exact opv_new _ _ _ _
  rw [hw2, hbH]
  clear hw2 hbH
  have Rw2 := Lib.hid (Rw1.out.all hb2)
  have Uw2 : Hid (Below w.heap.size w w2) := up Uw1.out hb2
  clear Rw1 Uw1 hb2
  obtain ⟨⟨p0, p1, p2⟩, hp⟩ : ∃ x : Tr, rpT ((y : Int) / 2) 3 = x := ⟨_, rfl⟩
  have HP := Lib.hid hp
  have hrp := rrp_any ((y : Int) / 2) 3 w2
  rw [hp] at hrp
  clear hp
  have by1 : (0 : Int) ≤ (y : Int) := by omega
  have by2 : (y : Int) ≤ 7 := by have := HY.out; omega
  go_wp2_with fail
  refine hrp.mono ?_
  rintro e w3 ⟨rfl, hb3⟩
  have Rw3 := Lib.hid (Rw2.out.all hb3)
  have Uw3 : Hid (Below w.heap.size w w3) := up Uw2.out hb3
  have Hw3 := Lib.hid (Hw2.out.all hb3)
  clear Rw2 Uw2 Hw2 hb3
  simp only [trV]
  clear hrp by1 by2
  go_upto_region 11 with fail
  obtain ⟨bP, hbP⟩ : ∃ b, w3.heap.size = b := ⟨_, rfl⟩
  obtain ⟨w4, hw4⟩ : ∃ v, w3.alloc (.cells #[.int .i64 p0, .int .i64 p1, .int .i64 p2] 69) = v := ⟨_, rfl⟩
  have hb4 : Below w3.heap.size w3 w4 := by rw [← hw4]; exact up_alloc _ _
  have Pw4 : Hid (OpV w4 bP (p0, p1, p2)) := by rw [← hw4, ← hbP]; exact opv_new _ _ _ _
  rw [hw4, hbP]
  clear hw4 hbP
  have Rw4 := Lib.hid (Rw3.out.all hb4)
  have Uw4 : Hid (Below w.heap.size w w4) := up Uw3.out hb4
  have Hw4 := Lib.hid (Hw3.out.all hb4)
  clear Rw3 Uw3 Hw3 hb4
  clear Hw4
  clear Pw4
  go_wp2_with fail
  refine (racc_any w4).mono ?_
  rintro e w5 ⟨rfl, hb5⟩
  have Rw5 := Lib.hid (Rw4.out.all hb5)
  have Uw5 : Hid (Below w.heap.size w w5) := up Uw4.out hb5
  clear Rw4 Uw4 hb5
  simp only [trV]
  go_upto_region 36 with fail
  obtain ⟨bE, hbE⟩ : ∃ b, w5.heap.size = b := ⟨_, rfl⟩
  obtain ⟨w6, hw6⟩ : ∃ v, w5.alloc (.cells #[.int .i64 1, .int .i64 7, .int .i64 0] 69) = v := ⟨_, rfl⟩
  have hb6 : Below w5.heap.size w5 w6 := by rw [← hw6]; exact up_alloc _ _
  have Ew6 : Hid (OpV w6 bE (1, 7, 0)) := by rw [← hw6, ← hbE]; exact opv_new _ _ _ _
  rw [hw6, hbE]
  clear hw6 hbE
  have Rw6 := Lib.hid (Rw5.out.all hb6)
  have Uw6 : Hid (Below w.heap.size w w6) := up Uw5.out hb6
  clear Rw5 Uw5 hb6
  go_upto_region 37 with fail
  obtain ⟨bI, hbI⟩ : ∃ b, w6.heap.size = b := ⟨_, rfl⟩
  obtain ⟨w7, hw7⟩ : ∃ v, w6.alloc (.cells #[.int .i64 9, .int .i64 0, .int .i64 0] 69) = v := ⟨_, rfl⟩
  have hb7 : Below w6.heap.size w6 w7 := by rw [← hw7]; exact up_alloc _ _
  have Iw7 : Hid (OpV w7 bI (9, 0, 0)) := by rw [← hw7, ← hbI]; exact opv_new _ _ _ _
  rw [hw7, hbI]
  clear hw7 hbI
  have Rw7 := Lib.hid (Rw6.out.all hb7)
  have Uw7 : Hid (Below w.heap.size w w7) := up Uw6.out hb7
  have Ew7 := Lib.hid (Ew6.out.all hb7)
  clear Rw6 Uw6 Ew6 hb7
  go_upto_region 38 with fail
  obtain ⟨bT, hbT⟩ : ∃ b, w7.heap.size = b := ⟨_, rfl⟩
  obtain ⟨w8, hw8⟩ : ∃ v, w7.alloc (.cells #[.int .i64 9, .int .i64 1, .int .i64 0] 69) = v := ⟨_, rfl⟩
  have hb8 : Below w7.heap.size w7 w8 := by rw [← hw8]; exact up_alloc _ _
  have Tw8 : Hid (OpV w8 bT (9, 1, 0)) := by rw [← hw8, ← hbT]; exact opv_new _ _ _ _
  rw [hw8, hbT]
  clear hw8 hbT
  have Rw8 := Lib.hid (Rw7.out.all hb8)
  have Uw8 : Hid (Below w.heap.size w w8) := up Uw7.out hb8
  have Ew8 := Lib.hid (Ew7.out.all hb8)
  have Iw8 := Lib.hid (Iw7.out.all hb8)
  clear Rw7 Uw7 Ew7 Iw7 hb8
  go_upto_region 38 with fail
  obtain ⟨w9, hw9⟩ : ∃ v, w8.drew = v := ⟨_, rfl⟩
  have Rw9 : Hid (Rz w9 n) := by rw [← hw9]; exact Rw8.out
  have Uw9 : Hid (Below w.heap.size w w9) := by rw [← hw9]; exact Uw8.out.drew
  have Ew9 : Hid (OpV w9 bE (1, 7, 0)) := by rw [← hw9]; exact Ew8.out
  have Iw9 : Hid (OpV w9 bI (9, 0, 0)) := by rw [← hw9]; exact Iw8.out
  have Tw9 : Hid (OpV w9 bT (9, 1, 0)) := by rw [← hw9]; exact Tw8.out
  have K : Hid (w9.cell? ⟨bE, 0, none⟩ = some (.int .i64 1) ∧ w9.cell? ⟨bE, 1, none⟩ = some (.int .i64 7) ∧ w9.cell? ⟨bE, 2, none⟩ = some (.int .i64 0) ∧ w9.cell? ⟨bI, 0, none⟩ = some (.int .i64 9) ∧ w9.cell? ⟨bI, 1, none⟩ = some (.int .i64 0) ∧ w9.cell? ⟨bI, 2, none⟩ = some (.int .i64 0) ∧ w9.cell? ⟨bT, 0, none⟩ = some (.int .i64 9) ∧ w9.cell? ⟨bT, 1, none⟩ = some (.int .i64 1) ∧ w9.cell? ⟨bT, 2, none⟩ = some (.int .i64 0)) := ⟨Ew9.out.cells.1, Ew9.out.cells.2.1, Ew9.out.cells.2.2.1, Iw9.out.cells.1, Iw9.out.cells.2.1, Iw9.out.cells.2.2.1, Tw9.out.cells.1, Tw9.out.cells.2.1, Tw9.out.cells.2.2.1⟩
  refine Mixed.wp_region_mixed (fun w' => w'.cell? ⟨bE, 0, none⟩ = some (.int .i64 1) ∧ w'.cell? ⟨bE, 1, none⟩ = some (.int .i64 7) ∧ w'.cell? ⟨bE, 2, none⟩ = some (.int .i64 0) ∧ w'.cell? ⟨bI, 0, none⟩ = some (.int .i64 9) ∧ w'.cell? ⟨bI, 1, none⟩ = some (.int .i64 0) ∧ w'.cell? ⟨bI, 2, none⟩ = some (.int .i64 0) ∧ w'.cell? ⟨bT, 0, none⟩ = some (.int .i64 9) ∧ w'.cell? ⟨bT, 1, none⟩ = some (.int .i64 1) ∧ w'.cell? ⟨bT, 2, none⟩ = some (.int .i64 0)) 20 [(0, true), (1, true), (4, true), (5, true), (8, true), (9, true), (12, true), (13, true), (18, true), (19, true), (2, false), (3, false), (6, false), (7, false), (10, false), (11, false), (14, false), (15, false), (16, false), (17, false)] (by kernel_rfl) (by kernel_rfl) (by rw [hw9]; exact K.out) ?_
  rw [hw9]
  clear hw9 K Rw8 Uw8 Ew8 Iw8 Tw8
  refine Mixed.wpMix_pure rfl (by kernel_rfl) (.agg #[.int .i64 9, .int .i64 0, .int .i64 0]) (fun w h => by obtain ⟨h0, h1, h2, h3, h4, h5, h6, h7, h8⟩ := h; go_simp; try rfl) ?_
  refine Mixed.wpMix_pure rfl (by kernel_rfl) (.agg #[.int .i64 1, .int .i64 7, .int .i64 0]) (fun w h => by obtain ⟨h0, h1, h2, h3, h4, h5, h6, h7, h8⟩ := h; go_simp; try rfl) ?_
  refine Mixed.wpMix_pure rfl (by kernel_rfl) (.agg #[.int .i64 9, .int .i64 1, .int .i64 0]) (fun w h => by obtain ⟨h0, h1, h2, h3, h4, h5, h6, h7, h8⟩ := h; go_simp; try rfl) ?_
  refine Mixed.wpMix_pure rfl (by kernel_rfl) (.agg #[.int .i64 1, .int .i64 7, .int .i64 0]) (fun w h => by obtain ⟨h0, h1, h2, h3, h4, h5, h6, h7, h8⟩ := h; go_simp; try rfl) ?_
  refine Mixed.wpMix_pure rfl (by kernel_rfl) (.agg #[.int .i64 1, .int .i64 7, .int .i64 0]) (fun w h => by obtain ⟨h0, h1, h2, h3, h4, h5, h6, h7, h8⟩ := h; go_simp; try rfl) ?_
  refine Mixed.wpMix_pure rfl (by kernel_rfl) (.agg #[.int .i64 9, .int .i64 0, .int .i64 0]) (fun w h => by obtain ⟨h0, h1, h2, h3, h4, h5, h6, h7, h8⟩ := h; go_simp; try rfl) ?_
  refine Mixed.wpMix_pure rfl (by kernel_rfl) (.agg #[.int .i64 1, .int .i64 7, .int .i64 0]) (fun w h => by obtain ⟨h0, h1, h2, h3, h4, h5, h6, h7, h8⟩ := h; go_simp; try rfl) ?_
  refine Mixed.wpMix_pure rfl (by kernel_rfl) (.agg #[.int .i64 9, .int .i64 1, .int .i64 0]) (fun w h => by obtain ⟨h0, h1, h2, h3, h4, h5, h6, h7, h8⟩ := h; go_simp; try rfl) ?_
  refine Mixed.wpMix_pure rfl (by kernel_rfl) (.agg #[.string ⟨#[]⟩, .slice none 0 0]) (fun w h => by obtain ⟨h0, h1, h2, h3, h4, h5, h6, h7, h8⟩ := h; go_simp; try rfl) ?_
  refine Mixed.wpMix_pure rfl (by kernel_rfl) (.agg #[.string ⟨#[]⟩, .slice none 0 0]) (fun w h => by obtain ⟨h0, h1, h2, h3, h4, h5, h6, h7, h8⟩ := h; go_simp; try rfl) ?_
  refine Mixed.wpMix_loudG rfl (by kernel_rfl) ?_
  go_wp2_with fail
  refine (rtwo_any (9, 0, 0) (1, 7, 0) w9).mono ?_
  rintro e w10 ⟨v, rfl, hO, hb10⟩
  obtain ⟨AIo, capIo, rfl, -, -⟩ := hO.ops
  have OIow10 : Hid (OwnT w10 w.heap.size (.slice AIo 2 capIo) [(9, 0, 0), (1, 7, 0)]) := hO.lift Uw9.out.size
  clear hO
  have Rw10 := Lib.hid (Rw9.out.all hb10)
  have Uw10 : Hid (Below w.heap.size w w10) := up Uw9.out hb10
  have Ew10 := Lib.hid (Ew9.out.all hb10)
  have Iw10 := Lib.hid (Iw9.out.all hb10)
  have Tw10 := Lib.hid (Tw9.out.all hb10)
  clear Rw9 Uw9 Ew9 Iw9 Tw9 hb10
  have xx : w10.cell? ⟨bE, 0, none⟩ = some (.int .i64 1) ∧ w10.cell? ⟨bE, 1, none⟩ = some (.int .i64 7) ∧ w10.cell? ⟨bE, 2, none⟩ = some (.int .i64 0) ∧ w10.cell? ⟨bI, 0, none⟩ = some (.int .i64 9) ∧ w10.cell? ⟨bI, 1, none⟩ = some (.int .i64 0) ∧ w10.cell? ⟨bI, 2, none⟩ = some (.int .i64 0) ∧ w10.cell? ⟨bT, 0, none⟩ = some (.int .i64 9) ∧ w10.cell? ⟨bT, 1, none⟩ = some (.int .i64 1) ∧ w10.cell? ⟨bT, 2, none⟩ = some (.int .i64 0) := ⟨Ew10.out.cells.1, Ew10.out.cells.2.1, Ew10.out.cells.2.2.1, Iw10.out.cells.1, Iw10.out.cells.2.1, Iw10.out.cells.2.2.1, Tw10.out.cells.1, Tw10.out.cells.2.1, Tw10.out.cells.2.2.1⟩
  go_wp2
  refine ⟨xx, ?_⟩
  clear xx
  refine Mixed.wpMix_loudG rfl (by kernel_rfl) ?_
  go_wp2_with fail
  refine (rins_any ⟨#[76, 68]⟩ AIo 2 capIo w10).mono ?_
  rintro e w11 ⟨rfl, hb11⟩
  have Rw11 := Lib.hid (Rw10.out.all hb11)
  have Uw11 : Hid (Below w.heap.size w w11) := up Uw10.out hb11
  have Ew11 := Lib.hid (Ew10.out.all hb11)
  have Iw11 := Lib.hid (Iw10.out.all hb11)
  have Tw11 := Lib.hid (Tw10.out.all hb11)
  have OIow11 := Lib.hid (OIow10.out.below hb11)
  clear Rw10 Uw10 Ew10 Iw10 Tw10 OIow10 hb11
  have xx : w11.cell? ⟨bE, 0, none⟩ = some (.int .i64 1) ∧ w11.cell? ⟨bE, 1, none⟩ = some (.int .i64 7) ∧ w11.cell? ⟨bE, 2, none⟩ = some (.int .i64 0) ∧ w11.cell? ⟨bI, 0, none⟩ = some (.int .i64 9) ∧ w11.cell? ⟨bI, 1, none⟩ = some (.int .i64 0) ∧ w11.cell? ⟨bI, 2, none⟩ = some (.int .i64 0) ∧ w11.cell? ⟨bT, 0, none⟩ = some (.int .i64 9) ∧ w11.cell? ⟨bT, 1, none⟩ = some (.int .i64 1) ∧ w11.cell? ⟨bT, 2, none⟩ = some (.int .i64 0) := ⟨Ew11.out.cells.1, Ew11.out.cells.2.1, Ew11.out.cells.2.2.1, Iw11.out.cells.1, Iw11.out.cells.2.1, Iw11.out.cells.2.2.1, Tw11.out.cells.1, Tw11.out.cells.2.1, Tw11.out.cells.2.2.1⟩
  go_wp2
  refine ⟨xx, ?_⟩
  clear xx
  refine Mixed.wpMix_loudG rfl (by kernel_rfl) ?_
  go_wp2_with fail
  refine (rtwo_any (9, 1, 0) (1, 7, 0) w11).mono ?_
  rintro e w12 ⟨v, rfl, hO, hb12⟩
  obtain ⟨ATo, capTo, rfl, -, -⟩ := hO.ops
  have OTow12 : Hid (OwnT w12 w.heap.size (.slice ATo 2 capTo) [(9, 1, 0), (1, 7, 0)]) := hO.lift Uw11.out.size
  clear hO
  have Rw12 := Lib.hid (Rw11.out.all hb12)
  have Uw12 : Hid (Below w.heap.size w w12) := up Uw11.out hb12
  have Ew12 := Lib.hid (Ew11.out.all hb12)
  have Iw12 := Lib.hid (Iw11.out.all hb12)
  have Tw12 := Lib.hid (Tw11.out.all hb12)
  have OIow12 := Lib.hid (OIow11.out.below hb12)
  clear Rw11 Uw11 Ew11 Iw11 Tw11 OIow11 hb12
  have xx : w12.cell? ⟨bE, 0, none⟩ = some (.int .i64 1) ∧ w12.cell? ⟨bE, 1, none⟩ = some (.int .i64 7) ∧ w12.cell? ⟨bE, 2, none⟩ = some (.int .i64 0) ∧ w12.cell? ⟨bI, 0, none⟩ = some (.int .i64 9) ∧ w12.cell? ⟨bI, 1, none⟩ = some (.int .i64 0) ∧ w12.cell? ⟨bI, 2, none⟩ = some (.int .i64 0) ∧ w12.cell? ⟨bT, 0, none⟩ = some (.int .i64 9) ∧ w12.cell? ⟨bT, 1, none⟩ = some (.int .i64 1) ∧ w12.cell? ⟨bT, 2, none⟩ = some (.int .i64 0) := ⟨Ew12.out.cells.1, Ew12.out.cells.2.1, Ew12.out.cells.2.2.1, Iw12.out.cells.1, Iw12.out.cells.2.1, Iw12.out.cells.2.2.1, Tw12.out.cells.1, Tw12.out.cells.2.1, Tw12.out.cells.2.2.1⟩
  go_wp2
  refine ⟨xx, ?_⟩
  clear xx
  refine Mixed.wpMix_loudG rfl (by kernel_rfl) ?_
  go_wp2_with fail
  refine (rins_any ⟨#[76, 68]⟩ ATo 2 capTo w12).mono ?_
  rintro e w13 ⟨rfl, hb13⟩
  have Rw13 := Lib.hid (Rw12.out.all hb13)
  have Uw13 : Hid (Below w.heap.size w w13) := up Uw12.out hb13
  have Ew13 := Lib.hid (Ew12.out.all hb13)
  have Iw13 := Lib.hid (Iw12.out.all hb13)
  have Tw13 := Lib.hid (Tw12.out.all hb13)
  have OIow13 := Lib.hid (OIow12.out.below hb13)
  have OTow13 := Lib.hid (OTow12.out.below hb13)
  clear Rw12 Uw12 Ew12 Iw12 Tw12 OIow12 OTow12 hb13
  have xx : w13.cell? ⟨bE, 0, none⟩ = some (.int .i64 1) ∧ w13.cell? ⟨bE, 1, none⟩ = some (.int .i64 7) ∧ w13.cell? ⟨bE, 2, none⟩ = some (.int .i64 0) ∧ w13.cell? ⟨bI, 0, none⟩ = some (.int .i64 9) ∧ w13.cell? ⟨bI, 1, none⟩ = some (.int .i64 0) ∧ w13.cell? ⟨bI, 2, none⟩ = some (.int .i64 0) ∧ w13.cell? ⟨bT, 0, none⟩ = some (.int .i64 9) ∧ w13.cell? ⟨bT, 1, none⟩ = some (.int .i64 1) ∧ w13.cell? ⟨bT, 2, none⟩ = some (.int .i64 0) := ⟨Ew13.out.cells.1, Ew13.out.cells.2.1, Ew13.out.cells.2.2.1, Iw13.out.cells.1, Iw13.out.cells.2.1, Iw13.out.cells.2.2.1, Tw13.out.cells.1, Tw13.out.cells.2.1, Tw13.out.cells.2.2.1⟩
  go_wp2
  refine ⟨xx, ?_⟩
  clear xx
  refine Mixed.wpMix_loudG rfl (by kernel_rfl) ?_
  go_wp2_with fail
  refine (rtwo_any (1, 7, 0) (9, 0, 0) w13).mono ?_
  rintro e w14 ⟨v, rfl, hO, hb14⟩
  obtain ⟨AQo, capQo, rfl, -, -⟩ := hO.ops
  have OQow14 : Hid (OwnT w14 w.heap.size (.slice AQo 2 capQo) [(1, 7, 0), (9, 0, 0)]) := hO.lift Uw13.out.size
  clear hO
  have Rw14 := Lib.hid (Rw13.out.all hb14)
  have Uw14 : Hid (Below w.heap.size w w14) := up Uw13.out hb14
  have Ew14 := Lib.hid (Ew13.out.all hb14)
  have Iw14 := Lib.hid (Iw13.out.all hb14)
  have Tw14 := Lib.hid (Tw13.out.all hb14)
  have OIow14 := Lib.hid (OIow13.out.below hb14)
  have OTow14 := Lib.hid (OTow13.out.below hb14)
  clear Rw13 Uw13 Ew13 Iw13 Tw13 OIow13 OTow13 hb14
  have xx : w14.cell? ⟨bE, 0, none⟩ = some (.int .i64 1) ∧ w14.cell? ⟨bE, 1, none⟩ = some (.int .i64 7) ∧ w14.cell? ⟨bE, 2, none⟩ = some (.int .i64 0) ∧ w14.cell? ⟨bI, 0, none⟩ = some (.int .i64 9) ∧ w14.cell? ⟨bI, 1, none⟩ = some (.int .i64 0) ∧ w14.cell? ⟨bI, 2, none⟩ = some (.int .i64 0) ∧ w14.cell? ⟨bT, 0, none⟩ = some (.int .i64 9) ∧ w14.cell? ⟨bT, 1, none⟩ = some (.int .i64 1) ∧ w14.cell? ⟨bT, 2, none⟩ = some (.int .i64 0) := ⟨Ew14.out.cells.1, Ew14.out.cells.2.1, Ew14.out.cells.2.2.1, Iw14.out.cells.1, Iw14.out.cells.2.1, Iw14.out.cells.2.2.1, Tw14.out.cells.1, Tw14.out.cells.2.1, Tw14.out.cells.2.2.1⟩
  go_wp2
  refine ⟨xx, ?_⟩
  clear xx
  refine Mixed.wpMix_loudG rfl (by kernel_rfl) ?_
  go_wp2_with fail
  refine (rins_any ⟨#[76, 68]⟩ AQo 2 capQo w14).mono ?_
  rintro e w15 ⟨rfl, hb15⟩
  have Rw15 := Lib.hid (Rw14.out.all hb15)
  have Uw15 : Hid (Below w.heap.size w w15) := up Uw14.out hb15
  have Ew15 := Lib.hid (Ew14.out.all hb15)
  have Iw15 := Lib.hid (Iw14.out.all hb15)
  have Tw15 := Lib.hid (Tw14.out.all hb15)
  have OIow15 := Lib.hid (OIow14.out.below hb15)
  have OTow15 := Lib.hid (OTow14.out.below hb15)
  have OQow15 := Lib.hid (OQow14.out.below hb15)
  clear Rw14 Uw14 Ew14 Iw14 Tw14 OIow14 OTow14 OQow14 hb15
  have xx : w15.cell? ⟨bE, 0, none⟩ = some (.int .i64 1) ∧ w15.cell? ⟨bE, 1, none⟩ = some (.int .i64 7) ∧ w15.cell? ⟨bE, 2, none⟩ = some (.int .i64 0) ∧ w15.cell? ⟨bI, 0, none⟩ = some (.int .i64 9) ∧ w15.cell? ⟨bI, 1, none⟩ = some (.int .i64 0) ∧ w15.cell? ⟨bI, 2, none⟩ = some (.int .i64 0) ∧ w15.cell? ⟨bT, 0, none⟩ = some (.int .i64 9) ∧ w15.cell? ⟨bT, 1, none⟩ = some (.int .i64 1) ∧ w15.cell? ⟨bT, 2, none⟩ = some (.int .i64 0) := ⟨Ew15.out.cells.1, Ew15.out.cells.2.1, Ew15.out.cells.2.2.1, Iw15.out.cells.1, Iw15.out.cells.2.1, Iw15.out.cells.2.2.1, Tw15.out.cells.1, Tw15.out.cells.2.1, Tw15.out.cells.2.2.1⟩
  go_wp2
  refine ⟨xx, ?_⟩
  clear xx
  refine Mixed.wpMix_loudG rfl (by kernel_rfl) ?_
  go_wp2_with fail
  refine (rtwo_any (1, 7, 0) (9, 1, 0) w15).mono ?_
  rintro e w16 ⟨v, rfl, hO, hb16⟩
  obtain ⟨AVo, capVo, rfl, -, -⟩ := hO.ops
  have OVow16 : Hid (OwnT w16 w.heap.size (.slice AVo 2 capVo) [(1, 7, 0), (9, 1, 0)]) := hO.lift Uw15.out.size
  clear hO
  have Rw16 := Lib.hid (Rw15.out.all hb16)
  have Uw16 : Hid (Below w.heap.size w w16) := up Uw15.out hb16
  have Ew16 := Lib.hid (Ew15.out.all hb16)
  have Iw16 := Lib.hid (Iw15.out.all hb16)
  have Tw16 := Lib.hid (Tw15.out.all hb16)
  have OIow16 := Lib.hid (OIow15.out.below hb16)
  have OTow16 := Lib.hid (OTow15.out.below hb16)
  have OQow16 := Lib.hid (OQow15.out.below hb16)
  clear Rw15 Uw15 Ew15 Iw15 Tw15 OIow15 OTow15 OQow15 hb16
  have xx : w16.cell? ⟨bE, 0, none⟩ = some (.int .i64 1) ∧ w16.cell? ⟨bE, 1, none⟩ = some (.int .i64 7) ∧ w16.cell? ⟨bE, 2, none⟩ = some (.int .i64 0) ∧ w16.cell? ⟨bI, 0, none⟩ = some (.int .i64 9) ∧ w16.cell? ⟨bI, 1, none⟩ = some (.int .i64 0) ∧ w16.cell? ⟨bI, 2, none⟩ = some (.int .i64 0) ∧ w16.cell? ⟨bT, 0, none⟩ = some (.int .i64 9) ∧ w16.cell? ⟨bT, 1, none⟩ = some (.int .i64 1) ∧ w16.cell? ⟨bT, 2, none⟩ = some (.int .i64 0) := ⟨Ew16.out.cells.1, Ew16.out.cells.2.1, Ew16.out.cells.2.2.1, Iw16.out.cells.1, Iw16.out.cells.2.1, Iw16.out.cells.2.2.1, Tw16.out.cells.1, Tw16.out.cells.2.1, Tw16.out.cells.2.2.1⟩
  go_wp2
  refine ⟨xx, ?_⟩
  clear xx
  refine Mixed.wpMix_loudG rfl (by kernel_rfl) ?_
  go_wp2_with fail
  refine (rins_any ⟨#[76, 68]⟩ AVo 2 capVo w16).mono ?_
  rintro e w17 ⟨rfl, hb17⟩
  have Rw17 := Lib.hid (Rw16.out.all hb17)
  have Uw17 : Hid (Below w.heap.size w w17) := up Uw16.out hb17
  have Ew17 := Lib.hid (Ew16.out.all hb17)
  have Iw17 := Lib.hid (Iw16.out.all hb17)
  have Tw17 := Lib.hid (Tw16.out.all hb17)
  have OIow17 := Lib.hid (OIow16.out.below hb17)
  have OTow17 := Lib.hid (OTow16.out.below hb17)
  have OQow17 := Lib.hid (OQow16.out.below hb17)
  have OVow17 := Lib.hid (OVow16.out.below hb17)
  clear Rw16 Uw16 Ew16 Iw16 Tw16 OIow16 OTow16 OQow16 OVow16 hb17
  have xx : w17.cell? ⟨bE, 0, none⟩ = some (.int .i64 1) ∧ w17.cell? ⟨bE, 1, none⟩ = some (.int .i64 7) ∧ w17.cell? ⟨bE, 2, none⟩ = some (.int .i64 0) ∧ w17.cell? ⟨bI, 0, none⟩ = some (.int .i64 9) ∧ w17.cell? ⟨bI, 1, none⟩ = some (.int .i64 0) ∧ w17.cell? ⟨bI, 2, none⟩ = some (.int .i64 0) ∧ w17.cell? ⟨bT, 0, none⟩ = some (.int .i64 9) ∧ w17.cell? ⟨bT, 1, none⟩ = some (.int .i64 1) ∧ w17.cell? ⟨bT, 2, none⟩ = some (.int .i64 0) := ⟨Ew17.out.cells.1, Ew17.out.cells.2.1, Ew17.out.cells.2.2.1, Iw17.out.cells.1, Iw17.out.cells.2.1, Iw17.out.cells.2.2.1, Tw17.out.cells.1, Tw17.out.cells.2.1, Tw17.out.cells.2.2.1⟩
  go_wp2
  refine ⟨xx, ?_⟩
  clear xx
  refine Mixed.wpMix_loudG rfl (by kernel_rfl) ?_
  go_wp2_with fail
  refine (rins_any ⟨#[82, 82, 68]⟩ none 0 0 w17).mono ?_
  rintro e w18 ⟨rfl, hb18⟩
  have Rw18 := Lib.hid (Rw17.out.all hb18)
  have Uw18 : Hid (Below w.heap.size w w18) := up Uw17.out hb18
  have Ew18 := Lib.hid (Ew17.out.all hb18)
  have Iw18 := Lib.hid (Iw17.out.all hb18)
  have Tw18 := Lib.hid (Tw17.out.all hb18)
  have OIow18 := Lib.hid (OIow17.out.below hb18)
  have OTow18 := Lib.hid (OTow17.out.below hb18)
  have OQow18 := Lib.hid (OQow17.out.below hb18)
  have OVow18 := Lib.hid (OVow17.out.below hb18)
  clear Rw17 Uw17 Ew17 Iw17 Tw17 OIow17 OTow17 OQow17 OVow17 hb18
  have xx : w18.cell? ⟨bE, 0, none⟩ = some (.int .i64 1) ∧ w18.cell? ⟨bE, 1, none⟩ = some (.int .i64 7) ∧ w18.cell? ⟨bE, 2, none⟩ = some (.int .i64 0) ∧ w18.cell? ⟨bI, 0, none⟩ = some (.int .i64 9) ∧ w18.cell? ⟨bI, 1, none⟩ = some (.int .i64 0) ∧ w18.cell? ⟨bI, 2, none⟩ = some (.int .i64 0) ∧ w18.cell? ⟨bT, 0, none⟩ = some (.int .i64 9) ∧ w18.cell? ⟨bT, 1, none⟩ = some (.int .i64 1) ∧ w18.cell? ⟨bT, 2, none⟩ = some (.int .i64 0) := ⟨Ew18.out.cells.1, Ew18.out.cells.2.1, Ew18.out.cells.2.2.1, Iw18.out.cells.1, Iw18.out.cells.2.1, Iw18.out.cells.2.2.1, Tw18.out.cells.1, Tw18.out.cells.2.1, Tw18.out.cells.2.2.1⟩
  go_wp2
  refine ⟨xx, ?_⟩
  clear xx
  refine Mixed.wpMix_loudG rfl (by kernel_rfl) ?_
  go_wp2_with fail
  refine (rins_any ⟨#[82, 76, 68]⟩ none 0 0 w18).mono ?_
  rintro e w19 ⟨rfl, hb19⟩
  have Rw19 := Lib.hid (Rw18.out.all hb19)
  have Uw19 : Hid (Below w.heap.size w w19) := up Uw18.out hb19
  have Ew19 := Lib.hid (Ew18.out.all hb19)
  have Iw19 := Lib.hid (Iw18.out.all hb19)
  have Tw19 := Lib.hid (Tw18.out.all hb19)
  have OIow19 := Lib.hid (OIow18.out.below hb19)
  have OTow19 := Lib.hid (OTow18.out.below hb19)
  have OQow19 := Lib.hid (OQow18.out.below hb19)
  have OVow19 := Lib.hid (OVow18.out.below hb19)
  clear Rw18 Uw18 Ew18 Iw18 Tw18 OIow18 OTow18 OQow18 OVow18 hb19
  have xx : w19.cell? ⟨bE, 0, none⟩ = some (.int .i64 1) ∧ w19.cell? ⟨bE, 1, none⟩ = some (.int .i64 7) ∧ w19.cell? ⟨bE, 2, none⟩ = some (.int .i64 0) ∧ w19.cell? ⟨bI, 0, none⟩ = some (.int .i64 9) ∧ w19.cell? ⟨bI, 1, none⟩ = some (.int .i64 0) ∧ w19.cell? ⟨bI, 2, none⟩ = some (.int .i64 0) ∧ w19.cell? ⟨bT, 0, none⟩ = some (.int .i64 9) ∧ w19.cell? ⟨bT, 1, none⟩ = some (.int .i64 1) ∧ w19.cell? ⟨bT, 2, none⟩ = some (.int .i64 0) := ⟨Ew19.out.cells.1, Ew19.out.cells.2.1, Ew19.out.cells.2.2.1, Iw19.out.cells.1, Iw19.out.cells.2.1, Iw19.out.cells.2.2.1, Tw19.out.cells.1, Tw19.out.cells.2.1, Tw19.out.cells.2.2.1⟩
  go_wp2
  refine ⟨xx, ?_⟩
  clear xx
  simp only [Mixed.wpMix, List.drop_succ_cons, List.drop_zero]
  go_upto_region 39 with fail
  obtain ⟨bM, hbM⟩ : ∃ b, w19.heap.size = b := ⟨_, rfl⟩
  obtain ⟨w20, hw20⟩ : ∃ v, w19.alloc (.cells #[.string ⟨#[76, 68]⟩, .slice AIo 2 capIo, .string ⟨#[76, 68]⟩, .slice ATo 2 capTo, .string ⟨#[76, 68]⟩, .slice AQo 2 capQo, .string ⟨#[76, 68]⟩, .slice AVo 2 capVo, .string ⟨#[82, 82, 68]⟩, .slice none 0 0, .string ⟨#[82, 76, 68]⟩, .slice none 0 0, .string ⟨#[]⟩, .slice none 0 0, .string ⟨#[]⟩, .slice none 0 0] 25) = v := ⟨_, rfl⟩
  have hb20 : Below w19.heap.size w19 w20 := by rw [← hw20]; exact up_alloc _ _
  have Mw20 : Hid (w20.heap[bM]? = some (Obj.cells #[.string ⟨#[76, 68]⟩, .slice AIo 2 capIo, .string ⟨#[76, 68]⟩, .slice ATo 2 capTo, .string ⟨#[76, 68]⟩, .slice AQo 2 capQo, .string ⟨#[76, 68]⟩, .slice AVo 2 capVo, .string ⟨#[82, 82, 68]⟩, .slice none 0 0, .string ⟨#[82, 76, 68]⟩, .slice none 0 0, .string ⟨#[]⟩, .slice none 0 0, .string ⟨#[]⟩, .slice none 0 0] 25 (0, 0))) := by rw [← hw20, ← hbM]; exact heap_alloc_new _ _
  rw [hw20, hbM]
  clear hw20 hbM
  have Rw20 := Lib.hid (Rw19.out.all hb20)
  have Uw20 : Hid (Below w.heap.size w w20) := up Uw19.out hb20
  have Ew20 := Lib.hid (Ew19.out.all hb20)
  have Iw20 := Lib.hid (Iw19.out.all hb20)
  have Tw20 := Lib.hid (Tw19.out.all hb20)
  have OIow20 := Lib.hid (OIow19.out.below hb20)
  have OTow20 := Lib.hid (OTow19.out.below hb20)
  have OQow20 := Lib.hid (OQow19.out.below hb20)
  have OVow20 := Lib.hid (OVow19.out.below hb20)
  clear Rw19 Uw19 Ew19 Iw19 Tw19 OIow19 OTow19 OQow19 OVow19 hb20
  obtain ⟨ip, A, m, cap, k0, k1, OK, hop⟩ : ∃ (ip : ByteArray) (A : Option Addr) (m cap : Nat), w20.cell? ⟨bM, y * 2, none⟩ = some (.string ip) ∧ w20.cell? ⟨bM, y * 2 + 1, none⟩ = some (.slice A m cap) ∧ Hid (OwnT w20 w.heap.size (.slice A m cap) (ed7 y).2) ∧ ip = sB (ed7 y).1 := by
    have hM := Mw20.out
    have hy := HY.out
    clear HY HZ
    rcases (by omega : y = 0 ∨ y = 1 ∨ y = 2 ∨ y = 3 ∨ y = 4 ∨ y = 5 ∨ y = 6 ∨ y = 7) with rfl | rfl | rfl | rfl | rfl | rfl | rfl | rfl
    · exact ⟨_, AIo, 2, capIo, Lib.cell_of_heap hM 0, Lib.cell_of_heap hM 1, OIow20.out, rfl⟩
    · exact ⟨_, ATo, 2, capTo, Lib.cell_of_heap hM 2, Lib.cell_of_heap hM 3, OTow20.out, rfl⟩
    · exact ⟨_, AQo, 2, capQo, Lib.cell_of_heap hM 4, Lib.cell_of_heap hM 5, OQow20.out, rfl⟩
    · exact ⟨_, AVo, 2, capVo, Lib.cell_of_heap hM 6, Lib.cell_of_heap hM 7, OVow20.out, rfl⟩
    · exact ⟨_, none, 0, 0, Lib.cell_of_heap hM 8, Lib.cell_of_heap hM 9, World.ownsRow_nil _ _ _ _, rfl⟩
    · exact ⟨_, none, 0, 0, Lib.cell_of_heap hM 10, Lib.cell_of_heap hM 11, World.ownsRow_nil _ _ _ _, rfl⟩
    · exact ⟨_, none, 0, 0, Lib.cell_of_heap hM 12, Lib.cell_of_heap hM 13, World.ownsRow_nil _ _ _ _, rfl⟩
    · exact ⟨_, none, 0, 0, Lib.cell_of_heap hM 14, Lib.cell_of_heap hM 15, World.ownsRow_nil _ _ _ _, rfl⟩
  have HOP := Lib.hid hop
  clear hop
  have RC := Rw20
  have UC := Uw20
  clear Rw20 Uw20 Ew20 Iw20 Tw20 OIow20 OTow20 OQow20 OVow20 Mw20
  obtain ⟨z0, z1, z2, z3⟩ := RC.out.cells
  have b1 : (0 : Int) ≤ (y : Int) := by omega
  have b2 : (y : Int) < 8 := by have := HY.out; omega
  have b3 : ¬ ((y : Int) < 0) := by omega
  have b4 : (y : Int).toNat = y := by omega
  go_wp2
  obtain ⟨wz, hwz, q1, q2, q3⟩ := ri_put RC.out ip (.slice A m cap)
  rw [hwz]
  obtain ⟨s0, s1⟩ := q1.cells
  refine bodyPost_ret (v := .tuple #[.agg #[.string ip, .slice A m cap], .string ⟨#[]⟩, .bool false]) ?_ rfl ?_
  · simp [results, Tryz.results30, go_sem, s0, s1]
  · exact ⟨_, by rw [HOP.out]; rfl, own_put RC.out OK.out q3, UC.out.trans (q2.mono (by have := HN.out; omega))⟩
end Go.Proofs.YtipgecdfnbldnaaGreatDoor
