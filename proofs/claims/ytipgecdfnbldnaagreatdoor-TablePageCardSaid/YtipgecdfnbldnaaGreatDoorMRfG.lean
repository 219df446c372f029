/-
  The reference's high, z = 3.
-/
import Derived.Test.YtipgecdfnbldnaaGreatDoorMRfC
import Derived.Test.YtipgecdfnbldnaaGreatDoorBaA
import Derived.Deep.DeepCutAuto
import Derived.Deep.Cut
import Derived.StillTail
import Derived.StillTailTactics
import Derived.RegionTactic
set_option linter.all false
set_option maxRecDepth 100000
set_option maxHeartbeats 4000000
namespace Go.Proofs.YtipgecdfnbldnaaGreatDoor
open Go.RowKit Go.Shelf
attribute [local irreducible] Go.Mixed.wpMix Go.Mixed.wpMixT
theorem cell_same {w w' : World} {b : Nat} (h : w'.heap[b]? = w.heap[b]?) (j : Nat) : w'.cell? ⟨b, j, none⟩ = w.cell? ⟨b, j, none⟩ := by
  simp only [World.cell?, h]
def h3 (k : Nat) : Str × List Tr × Str := ([([74, 80], [(6, 0, 0)], [119]), ([], [], []), ([79, 85, 84], [(7, 0, 0), (1, 7, 0)], [110]), ([73, 78], [(1, 7, 0), (7, 0, 0)], [110]), ([69, 88], [(4, 3, 0), (3, 2, 0)], []), ([69, 88], [(3, 1, 0), (3, 2, 0)], []), ([68, 73], [], []), ([69, 73], [], [])] : List (Str × List Tr × Str)).getD k ([], [], [])
theorem high_3 (k : Nat) (hk : k < 8) (w : World) : Calls Tryz.prog 59 #[.int .i64 (k : Int), .int .i64 3] w (RetI w (h3 k).1 (h3 k).2.1 (h3 k).2.2) := by
  obtain ⟨w0, hw0, rz0, bl0⟩ := ri_start w
  obtain ⟨n, hn⟩ : ∃ n, w.heap.size = n := ⟨_, rfl⟩
  have Rw0 : Hid (Rz w0 n) := by rw [← hn]; exact rz0
  have Uw0 : Hid (Below w.heap.size w w0) := bl0
  have HN := Lib.hid hn
  clear rz0 bl0
  go_enter Tryz.func59, Tryz.ntmps59
  go_wp2_with fail
  refine (rrp_any 2 3 w0).mono ?_
  rintro e w1 ⟨rfl, hb1⟩
  have Rw1 := Lib.hid (Rw0.out.all hb1)
  have Uw1 : Hid (Below w.heap.size w w1) := up Uw0.out hb1
  clear Rw0 Uw0 hb1
  clear hw0
  simp only [trV]
  simp only [rpT, show ¬ ((2 : Int) = 3) by decide, if_false]
  go_upto_region 2 with fail
  obtain ⟨bH, hbH⟩ : ∃ b, w1.heap.size = b := ⟨_, rfl⟩
  obtain ⟨w2, hw2⟩ : ∃ v, w1.alloc (.cells #[.int .i64 3, .int .i64 2, .int .i64 0] 69) = v := ⟨_, rfl⟩
  have hb2 : Below w1.heap.size w1 w2 := by rw [← hw2]; exact up_alloc _ _
  have Hw2 : Hid (OpV w2 bH (3, 2, 0)) := by rw [← hw2, ← hbH]; exact opv_new _ _ _ _
  rw [hw2, hbH]
  clear hw2 hbH
  have Rw2 := Lib.hid (Rw1.out.all hb2)
  have Uw2 : Hid (Below w.heap.size w w2) := up Uw1.out hb2
  clear Rw1 Uw1 hb2
  go_upto_region 13 with fail
  obtain ⟨w3, hw3⟩ : ∃ v, w2.drew = v := ⟨_, rfl⟩
  have Rw3 : Hid (Rz w3 n) := by rw [← hw3]; exact Rw2.out
  have Uw3 : Hid (Below w.heap.size w w3) := by rw [← hw3]; exact Uw2.out.drew
  have Hw3 : Hid (OpV w3 bH (3, 2, 0)) := by rw [← hw3]; exact Hw2.out
  have K : Hid (w3.cell? ⟨bH, 0, none⟩ = some (.int .i64 3) ∧ w3.cell? ⟨bH, 1, none⟩ = some (.int .i64 2) ∧ w3.cell? ⟨bH, 2, none⟩ = some (.int .i64 0)) := ⟨Hw3.out.cells.1, Hw3.out.cells.2.1, Hw3.out.cells.2.2.1⟩
  refine Mixed.wp_region_mixed (fun w' => w'.cell? ⟨bH, 0, none⟩ = some (.int .i64 3) ∧ w'.cell? ⟨bH, 1, none⟩ = some (.int .i64 2) ∧ w'.cell? ⟨bH, 2, none⟩ = some (.int .i64 0)) 22 [(3, true), (13, true), (17, true), (0, false), (1, false), (2, false), (4, false), (5, false), (6, false), (7, false), (8, false), (9, false), (10, false), (11, false), (12, false), (14, false), (15, false), (16, false), (18, false), (19, false), (20, false), (21, false)] (by kernel_rfl) (by kernel_rfl) (by rw [hw3]; exact K.out) ?_
  rw [hw3]
  clear hw3 K Rw2 Uw2 Hw2
  refine Mixed.wpMix_pure rfl (by kernel_rfl) (.agg #[.string ⟨#[]⟩, .slice none 0 0]) (fun w h => by obtain ⟨h0, h1, h2⟩ := h; go_simp; try rfl) ?_
  refine Mixed.wpMix_pure rfl (by kernel_rfl) (.agg #[.int .i64 3, .int .i64 2, .int .i64 0]) (fun w h => by obtain ⟨h0, h1, h2⟩ := h; go_simp; try rfl) ?_
  refine Mixed.wpMix_pure rfl (by kernel_rfl) (.agg #[.int .i64 3, .int .i64 2, .int .i64 0]) (fun w h => by obtain ⟨h0, h1, h2⟩ := h; go_simp; try rfl) ?_
  refine Mixed.wpMix_loudG rfl (by kernel_rfl) ?_
  go_wp2_with fail
  refine (rimm_any 0 w3).mono ?_
  rintro e w4 ⟨rfl, hb4⟩
  have Rw4 := Lib.hid (Rw3.out.all hb4)
  have Uw4 : Hid (Below w.heap.size w w4) := up Uw3.out hb4
  have Hw4 := Lib.hid (Hw3.out.all hb4)
  clear Rw3 Uw3 Hw3 hb4
  simp only [trV]
  have xx : w4.cell? ⟨bH, 0, none⟩ = some (.int .i64 3) ∧ w4.cell? ⟨bH, 1, none⟩ = some (.int .i64 2) ∧ w4.cell? ⟨bH, 2, none⟩ = some (.int .i64 0) := ⟨Hw4.out.cells.1, Hw4.out.cells.2.1, Hw4.out.cells.2.2.1⟩
  go_wp2
  refine ⟨xx, ?_⟩
  clear xx
  refine Mixed.wpMix_loudG rfl (by kernel_rfl) ?_
  go_wp2_with fail
  refine (rone_any (6, 0, 0) w4).mono ?_
  rintro e w5 ⟨v, rfl, hO, hb5⟩
  obtain ⟨AJ, capJ, rfl, -, -⟩ := hO.ops
  have OJw5 : Hid (OwnT w5 w.heap.size (.slice AJ 1 capJ) [(6, 0, 0)]) := hO.lift Uw4.out.size
  clear hO
  have Rw5 := Lib.hid (Rw4.out.all hb5)
  have Uw5 : Hid (Below w.heap.size w w5) := up Uw4.out hb5
  have Hw5 := Lib.hid (Hw4.out.all hb5)
  clear Rw4 Uw4 Hw4 hb5
  have xx : w5.cell? ⟨bH, 0, none⟩ = some (.int .i64 3) ∧ w5.cell? ⟨bH, 1, none⟩ = some (.int .i64 2) ∧ w5.cell? ⟨bH, 2, none⟩ = some (.int .i64 0) := ⟨Hw5.out.cells.1, Hw5.out.cells.2.1, Hw5.out.cells.2.2.1⟩
  go_wp2
  refine ⟨xx, ?_⟩
  clear xx
  refine Mixed.wpMix_loudG rfl (by kernel_rfl) ?_
  go_wp2_with fail
  refine (rins_any ⟨#[74, 80]⟩ AJ 1 capJ w5).mono ?_
  rintro e w6 ⟨rfl, hb6⟩
  have Rw6 := Lib.hid (Rw5.out.all hb6)
  have Uw6 : Hid (Below w.heap.size w w6) := up Uw5.out hb6
  have Hw6 := Lib.hid (Hw5.out.all hb6)
  have OJw6 := Lib.hid (OJw5.out.below hb6)
  clear Rw5 Uw5 Hw5 OJw5 hb6
  have xx : w6.cell? ⟨bH, 0, none⟩ = some (.int .i64 3) ∧ w6.cell? ⟨bH, 1, none⟩ = some (.int .i64 2) ∧ w6.cell? ⟨bH, 2, none⟩ = some (.int .i64 0) := ⟨Hw6.out.cells.1, Hw6.out.cells.2.1, Hw6.out.cells.2.2.1⟩
  go_wp2
  refine ⟨xx, ?_⟩
  clear xx
  refine Mixed.wpMix_loudG rfl (by kernel_rfl) ?_
  go_wp2_with fail
  refine (rmem_any w6).mono ?_
  rintro e w7 ⟨rfl, hb7⟩
  have Rw7 := Lib.hid (Rw6.out.all hb7)
  have Uw7 : Hid (Below w.heap.size w w7) := up Uw6.out hb7
  have Hw7 := Lib.hid (Hw6.out.all hb7)
  have OJw7 := Lib.hid (OJw6.out.below hb7)
  clear Rw6 Uw6 Hw6 OJw6 hb7
  simp only [trV]
  have xx : w7.cell? ⟨bH, 0, none⟩ = some (.int .i64 3) ∧ w7.cell? ⟨bH, 1, none⟩ = some (.int .i64 2) ∧ w7.cell? ⟨bH, 2, none⟩ = some (.int .i64 0) := ⟨Hw7.out.cells.1, Hw7.out.cells.2.1, Hw7.out.cells.2.2.1⟩
  go_wp2
  refine ⟨xx, ?_⟩
  clear xx
  refine Mixed.wpMix_loudG rfl (by kernel_rfl) ?_
  go_wp2_with fail
  refine (racc_any w7).mono ?_
  rintro e w8 ⟨rfl, hb8⟩
  have Rw8 := Lib.hid (Rw7.out.all hb8)
  have Uw8 : Hid (Below w.heap.size w w8) := up Uw7.out hb8
  have Hw8 := Lib.hid (Hw7.out.all hb8)
  have OJw8 := Lib.hid (OJw7.out.below hb8)
  clear Rw7 Uw7 Hw7 OJw7 hb8
  simp only [trV]
  have xx : w8.cell? ⟨bH, 0, none⟩ = some (.int .i64 3) ∧ w8.cell? ⟨bH, 1, none⟩ = some (.int .i64 2) ∧ w8.cell? ⟨bH, 2, none⟩ = some (.int .i64 0) := ⟨Hw8.out.cells.1, Hw8.out.cells.2.1, Hw8.out.cells.2.2.1⟩
  go_wp2
  refine ⟨xx, ?_⟩
  clear xx
  refine Mixed.wpMix_loudG rfl (by kernel_rfl) ?_
  go_wp2_with fail
  refine (rtwo_any (7, 0, 0) (1, 7, 0) w8).mono ?_
  rintro e w9 ⟨v, rfl, hO, hb9⟩
  obtain ⟨AO, capO, rfl, -, -⟩ := hO.ops
  have OOw9 : Hid (OwnT w9 w.heap.size (.slice AO 2 capO) [(7, 0, 0), (1, 7, 0)]) := hO.lift Uw8.out.size
  clear hO
  have Rw9 := Lib.hid (Rw8.out.all hb9)
  have Uw9 : Hid (Below w.heap.size w w9) := up Uw8.out hb9
  have Hw9 := Lib.hid (Hw8.out.all hb9)
  have OJw9 := Lib.hid (OJw8.out.below hb9)
  clear Rw8 Uw8 Hw8 OJw8 hb9
  have xx : w9.cell? ⟨bH, 0, none⟩ = some (.int .i64 3) ∧ w9.cell? ⟨bH, 1, none⟩ = some (.int .i64 2) ∧ w9.cell? ⟨bH, 2, none⟩ = some (.int .i64 0) := ⟨Hw9.out.cells.1, Hw9.out.cells.2.1, Hw9.out.cells.2.2.1⟩
  go_wp2
  refine ⟨xx, ?_⟩
  clear xx
  refine Mixed.wpMix_loudG rfl (by kernel_rfl) ?_
  go_wp2_with fail
  refine (rins_any ⟨#[79, 85, 84]⟩ AO 2 capO w9).mono ?_
  rintro e w10 ⟨rfl, hb10⟩
  have Rw10 := Lib.hid (Rw9.out.all hb10)
  have Uw10 : Hid (Below w.heap.size w w10) := up Uw9.out hb10
  have Hw10 := Lib.hid (Hw9.out.all hb10)
  have OJw10 := Lib.hid (OJw9.out.below hb10)
  have OOw10 := Lib.hid (OOw9.out.below hb10)
  clear Rw9 Uw9 Hw9 OJw9 OOw9 hb10
  have xx : w10.cell? ⟨bH, 0, none⟩ = some (.int .i64 3) ∧ w10.cell? ⟨bH, 1, none⟩ = some (.int .i64 2) ∧ w10.cell? ⟨bH, 2, none⟩ = some (.int .i64 0) := ⟨Hw10.out.cells.1, Hw10.out.cells.2.1, Hw10.out.cells.2.2.1⟩
  go_wp2
  refine ⟨xx, ?_⟩
  clear xx
  refine Mixed.wpMix_loudG rfl (by kernel_rfl) ?_
  go_wp2_with fail
  refine (racc_any w10).mono ?_
  rintro e w11 ⟨rfl, hb11⟩
  have Rw11 := Lib.hid (Rw10.out.all hb11)
  have Uw11 : Hid (Below w.heap.size w w11) := up Uw10.out hb11
  have Hw11 := Lib.hid (Hw10.out.all hb11)
  have OJw11 := Lib.hid (OJw10.out.below hb11)
  have OOw11 := Lib.hid (OOw10.out.below hb11)
  clear Rw10 Uw10 Hw10 OJw10 OOw10 hb11
  simp only [trV]
  have xx : w11.cell? ⟨bH, 0, none⟩ = some (.int .i64 3) ∧ w11.cell? ⟨bH, 1, none⟩ = some (.int .i64 2) ∧ w11.cell? ⟨bH, 2, none⟩ = some (.int .i64 0) := ⟨Hw11.out.cells.1, Hw11.out.cells.2.1, Hw11.out.cells.2.2.1⟩
  go_wp2
  refine ⟨xx, ?_⟩
  clear xx
  refine Mixed.wpMix_loudG rfl (by kernel_rfl) ?_
  go_wp2_with fail
  refine (rmem_any w11).mono ?_
  rintro e w12 ⟨rfl, hb12⟩
  have Rw12 := Lib.hid (Rw11.out.all hb12)
  have Uw12 : Hid (Below w.heap.size w w12) := up Uw11.out hb12
  have Hw12 := Lib.hid (Hw11.out.all hb12)
  have OJw12 := Lib.hid (OJw11.out.below hb12)
  have OOw12 := Lib.hid (OOw11.out.below hb12)
  clear Rw11 Uw11 Hw11 OJw11 OOw11 hb12
  simp only [trV]
  have xx : w12.cell? ⟨bH, 0, none⟩ = some (.int .i64 3) ∧ w12.cell? ⟨bH, 1, none⟩ = some (.int .i64 2) ∧ w12.cell? ⟨bH, 2, none⟩ = some (.int .i64 0) := ⟨Hw12.out.cells.1, Hw12.out.cells.2.1, Hw12.out.cells.2.2.1⟩
  go_wp2
  refine ⟨xx, ?_⟩
  clear xx
  refine Mixed.wpMix_loudG rfl (by kernel_rfl) ?_
  go_wp2_with fail
  refine (rtwo_any (1, 7, 0) (7, 0, 0) w12).mono ?_
  rintro e w13 ⟨v, rfl, hO, hb13⟩
  obtain ⟨AI, capI, rfl, -, -⟩ := hO.ops
  have OIw13 : Hid (OwnT w13 w.heap.size (.slice AI 2 capI) [(1, 7, 0), (7, 0, 0)]) := hO.lift Uw12.out.size
  clear hO
  have Rw13 := Lib.hid (Rw12.out.all hb13)
  have Uw13 : Hid (Below w.heap.size w w13) := up Uw12.out hb13
  have Hw13 := Lib.hid (Hw12.out.all hb13)
  have OJw13 := Lib.hid (OJw12.out.below hb13)
  have OOw13 := Lib.hid (OOw12.out.below hb13)
  clear Rw12 Uw12 Hw12 OJw12 OOw12 hb13
  have xx : w13.cell? ⟨bH, 0, none⟩ = some (.int .i64 3) ∧ w13.cell? ⟨bH, 1, none⟩ = some (.int .i64 2) ∧ w13.cell? ⟨bH, 2, none⟩ = some (.int .i64 0) := ⟨Hw13.out.cells.1, Hw13.out.cells.2.1, Hw13.out.cells.2.2.1⟩
  go_wp2
  refine ⟨xx, ?_⟩
  clear xx
  refine Mixed.wpMix_loudG rfl (by kernel_rfl) ?_
  go_wp2_with fail
  refine (rins_any ⟨#[73, 78]⟩ AI 2 capI w13).mono ?_
  rintro e w14 ⟨rfl, hb14⟩
  have Rw14 := Lib.hid (Rw13.out.all hb14)
  have Uw14 : Hid (Below w.heap.size w w14) := up Uw13.out hb14
  have Hw14 := Lib.hid (Hw13.out.all hb14)
  have OJw14 := Lib.hid (OJw13.out.below hb14)
  have OOw14 := Lib.hid (OOw13.out.below hb14)
  have OIw14 := Lib.hid (OIw13.out.below hb14)
  clear Rw13 Uw13 Hw13 OJw13 OOw13 OIw13 hb14
  have xx : w14.cell? ⟨bH, 0, none⟩ = some (.int .i64 3) ∧ w14.cell? ⟨bH, 1, none⟩ = some (.int .i64 2) ∧ w14.cell? ⟨bH, 2, none⟩ = some (.int .i64 0) := ⟨Hw14.out.cells.1, Hw14.out.cells.2.1, Hw14.out.cells.2.2.1⟩
  go_wp2
  refine ⟨xx, ?_⟩
  clear xx
  refine Mixed.wpMix_loudG rfl (by kernel_rfl) ?_
  go_wp2_with fail
  refine (rind_any 3 w14).mono ?_
  rintro e w15 ⟨rfl, hb15⟩
  have Rw15 := Lib.hid (Rw14.out.all hb15)
  have Uw15 : Hid (Below w.heap.size w w15) := up Uw14.out hb15
  have Hw15 := Lib.hid (Hw14.out.all hb15)
  have OJw15 := Lib.hid (OJw14.out.below hb15)
  have OOw15 := Lib.hid (OOw14.out.below hb15)
  have OIw15 := Lib.hid (OIw14.out.below hb15)
  clear Rw14 Uw14 Hw14 OJw14 OOw14 OIw14 hb15
  simp only [trV]
  have xx : w15.cell? ⟨bH, 0, none⟩ = some (.int .i64 3) ∧ w15.cell? ⟨bH, 1, none⟩ = some (.int .i64 2) ∧ w15.cell? ⟨bH, 2, none⟩ = some (.int .i64 0) := ⟨Hw15.out.cells.1, Hw15.out.cells.2.1, Hw15.out.cells.2.2.1⟩
  go_wp2
  refine ⟨xx, ?_⟩
  clear xx
  refine Mixed.wpMix_loudG rfl (by kernel_rfl) ?_
  go_wp2_with fail
  refine (rtwo_any (4, 3, 0) (3, 2, 0) w15).mono ?_
  rintro e w16 ⟨v, rfl, hO, hb16⟩
  obtain ⟨AX, capX, rfl, -, -⟩ := hO.ops
  have OXw16 : Hid (OwnT w16 w.heap.size (.slice AX 2 capX) [(4, 3, 0), (3, 2, 0)]) := hO.lift Uw15.out.size
  clear hO
  have Rw16 := Lib.hid (Rw15.out.all hb16)
  have Uw16 : Hid (Below w.heap.size w w16) := up Uw15.out hb16
  have Hw16 := Lib.hid (Hw15.out.all hb16)
  have OJw16 := Lib.hid (OJw15.out.below hb16)
  have OOw16 := Lib.hid (OOw15.out.below hb16)
  have OIw16 := Lib.hid (OIw15.out.below hb16)
  clear Rw15 Uw15 Hw15 OJw15 OOw15 OIw15 hb16
  have xx : w16.cell? ⟨bH, 0, none⟩ = some (.int .i64 3) ∧ w16.cell? ⟨bH, 1, none⟩ = some (.int .i64 2) ∧ w16.cell? ⟨bH, 2, none⟩ = some (.int .i64 0) := ⟨Hw16.out.cells.1, Hw16.out.cells.2.1, Hw16.out.cells.2.2.1⟩
  go_wp2
  refine ⟨xx, ?_⟩
  clear xx
  refine Mixed.wpMix_loudG rfl (by kernel_rfl) ?_
  go_wp2_with fail
  refine (rins_any ⟨#[69, 88]⟩ AX 2 capX w16).mono ?_
  rintro e w17 ⟨rfl, hb17⟩
  have Rw17 := Lib.hid (Rw16.out.all hb17)
  have Uw17 : Hid (Below w.heap.size w w17) := up Uw16.out hb17
  have Hw17 := Lib.hid (Hw16.out.all hb17)
  have OJw17 := Lib.hid (OJw16.out.below hb17)
  have OOw17 := Lib.hid (OOw16.out.below hb17)
  have OIw17 := Lib.hid (OIw16.out.below hb17)
  have OXw17 := Lib.hid (OXw16.out.below hb17)
  clear Rw16 Uw16 Hw16 OJw16 OOw16 OIw16 OXw16 hb17
  have xx : w17.cell? ⟨bH, 0, none⟩ = some (.int .i64 3) ∧ w17.cell? ⟨bH, 1, none⟩ = some (.int .i64 2) ∧ w17.cell? ⟨bH, 2, none⟩ = some (.int .i64 0) := ⟨Hw17.out.cells.1, Hw17.out.cells.2.1, Hw17.out.cells.2.2.1⟩
  go_wp2
  refine ⟨xx, ?_⟩
  clear xx
  refine Mixed.wpMix_loudG rfl (by kernel_rfl) ?_
  go_wp2_with fail
  refine (rrp_any 1 3 w17).mono ?_
  rintro e w18 ⟨rfl, hb18⟩
  have Rw18 := Lib.hid (Rw17.out.all hb18)
  have Uw18 : Hid (Below w.heap.size w w18) := up Uw17.out hb18
  have Hw18 := Lib.hid (Hw17.out.all hb18)
  have OJw18 := Lib.hid (OJw17.out.below hb18)
  have OOw18 := Lib.hid (OOw17.out.below hb18)
  have OIw18 := Lib.hid (OIw17.out.below hb18)
  have OXw18 := Lib.hid (OXw17.out.below hb18)
  clear Rw17 Uw17 Hw17 OJw17 OOw17 OIw17 OXw17 hb18
  rw [show rpT 1 3 = (3, 1, 0) from by decide]
  simp only [trV]
  have xx : w18.cell? ⟨bH, 0, none⟩ = some (.int .i64 3) ∧ w18.cell? ⟨bH, 1, none⟩ = some (.int .i64 2) ∧ w18.cell? ⟨bH, 2, none⟩ = some (.int .i64 0) := ⟨Hw18.out.cells.1, Hw18.out.cells.2.1, Hw18.out.cells.2.2.1⟩
  go_wp2
  refine ⟨xx, ?_⟩
  clear xx
  refine Mixed.wpMix_loudG rfl (by kernel_rfl) ?_
  go_wp2_with fail
  refine (rtwo_any (3, 1, 0) (3, 2, 0) w18).mono ?_
  rintro e w19 ⟨v, rfl, hO, hb19⟩
  obtain ⟨AY, capY, rfl, -, -⟩ := hO.ops
  have OYw19 : Hid (OwnT w19 w.heap.size (.slice AY 2 capY) [(3, 1, 0), (3, 2, 0)]) := hO.lift Uw18.out.size
  clear hO
  have Rw19 := Lib.hid (Rw18.out.all hb19)
  have Uw19 : Hid (Below w.heap.size w w19) := up Uw18.out hb19
  have Hw19 := Lib.hid (Hw18.out.all hb19)
  have OJw19 := Lib.hid (OJw18.out.below hb19)
  have OOw19 := Lib.hid (OOw18.out.below hb19)
  have OIw19 := Lib.hid (OIw18.out.below hb19)
  have OXw19 := Lib.hid (OXw18.out.below hb19)
  clear Rw18 Uw18 Hw18 OJw18 OOw18 OIw18 OXw18 hb19
  have xx : w19.cell? ⟨bH, 0, none⟩ = some (.int .i64 3) ∧ w19.cell? ⟨bH, 1, none⟩ = some (.int .i64 2) ∧ w19.cell? ⟨bH, 2, none⟩ = some (.int .i64 0) := ⟨Hw19.out.cells.1, Hw19.out.cells.2.1, Hw19.out.cells.2.2.1⟩
  go_wp2
  refine ⟨xx, ?_⟩
  clear xx
  refine Mixed.wpMix_loudG rfl (by kernel_rfl) ?_
  go_wp2_with fail
  refine (rins_any ⟨#[69, 88]⟩ AY 2 capY w19).mono ?_
  rintro e w20 ⟨rfl, hb20⟩
  have Rw20 := Lib.hid (Rw19.out.all hb20)
  have Uw20 : Hid (Below w.heap.size w w20) := up Uw19.out hb20
  have Hw20 := Lib.hid (Hw19.out.all hb20)
  have OJw20 := Lib.hid (OJw19.out.below hb20)
  have OOw20 := Lib.hid (OOw19.out.below hb20)
  have OIw20 := Lib.hid (OIw19.out.below hb20)
  have OXw20 := Lib.hid (OXw19.out.below hb20)
  have OYw20 := Lib.hid (OYw19.out.below hb20)
  clear Rw19 Uw19 Hw19 OJw19 OOw19 OIw19 OXw19 OYw19 hb20
  have xx : w20.cell? ⟨bH, 0, none⟩ = some (.int .i64 3) ∧ w20.cell? ⟨bH, 1, none⟩ = some (.int .i64 2) ∧ w20.cell? ⟨bH, 2, none⟩ = some (.int .i64 0) := ⟨Hw20.out.cells.1, Hw20.out.cells.2.1, Hw20.out.cells.2.2.1⟩
  go_wp2
  refine ⟨xx, ?_⟩
  clear xx
  refine Mixed.wpMix_loudG rfl (by kernel_rfl) ?_
  go_wp2_with fail
  refine (rins_any ⟨#[68, 73]⟩ none 0 0 w20).mono ?_
  rintro e w21 ⟨rfl, hb21⟩
  have Rw21 := Lib.hid (Rw20.out.all hb21)
  have Uw21 : Hid (Below w.heap.size w w21) := up Uw20.out hb21
  have Hw21 := Lib.hid (Hw20.out.all hb21)
  have OJw21 := Lib.hid (OJw20.out.below hb21)
  have OOw21 := Lib.hid (OOw20.out.below hb21)
  have OIw21 := Lib.hid (OIw20.out.below hb21)
  have OXw21 := Lib.hid (OXw20.out.below hb21)
  have OYw21 := Lib.hid (OYw20.out.below hb21)
  clear Rw20 Uw20 Hw20 OJw20 OOw20 OIw20 OXw20 OYw20 hb21
  have xx : w21.cell? ⟨bH, 0, none⟩ = some (.int .i64 3) ∧ w21.cell? ⟨bH, 1, none⟩ = some (.int .i64 2) ∧ w21.cell? ⟨bH, 2, none⟩ = some (.int .i64 0) := ⟨Hw21.out.cells.1, Hw21.out.cells.2.1, Hw21.out.cells.2.2.1⟩
  go_wp2
  refine ⟨xx, ?_⟩
  clear xx
  refine Mixed.wpMix_loudG rfl (by kernel_rfl) ?_
  go_wp2_with fail
  refine (rins_any ⟨#[69, 73]⟩ none 0 0 w21).mono ?_
  rintro e w22 ⟨rfl, hb22⟩
  have Rw22 := Lib.hid (Rw21.out.all hb22)
  have Uw22 : Hid (Below w.heap.size w w22) := up Uw21.out hb22
  have Hw22 := Lib.hid (Hw21.out.all hb22)
  have OJw22 := Lib.hid (OJw21.out.below hb22)
  have OOw22 := Lib.hid (OOw21.out.below hb22)
  have OIw22 := Lib.hid (OIw21.out.below hb22)
  have OXw22 := Lib.hid (OXw21.out.below hb22)
  have OYw22 := Lib.hid (OYw21.out.below hb22)
  clear Rw21 Uw21 Hw21 OJw21 OOw21 OIw21 OXw21 OYw21 hb22
  have xx : w22.cell? ⟨bH, 0, none⟩ = some (.int .i64 3) ∧ w22.cell? ⟨bH, 1, none⟩ = some (.int .i64 2) ∧ w22.cell? ⟨bH, 2, none⟩ = some (.int .i64 0) := ⟨Hw22.out.cells.1, Hw22.out.cells.2.1, Hw22.out.cells.2.2.1⟩
  go_wp2
  refine ⟨xx, ?_⟩
  clear xx
  simp only [Mixed.wpMix, List.drop_succ_cons, List.drop_zero]
  go_upto_region 14 with fail
  obtain ⟨bM, hbM⟩ : ∃ b, w22.heap.size = b := ⟨_, rfl⟩
  obtain ⟨w23, hw23⟩ : ∃ v, w22.alloc (.cells #[.string ⟨#[74, 80]⟩, .slice AJ 1 capJ, .string ⟨#[]⟩, .slice none 0 0, .string ⟨#[79, 85, 84]⟩, .slice AO 2 capO, .string ⟨#[73, 78]⟩, .slice AI 2 capI, .string ⟨#[69, 88]⟩, .slice AX 2 capX, .string ⟨#[69, 88]⟩, .slice AY 2 capY, .string ⟨#[68, 73]⟩, .slice none 0 0, .string ⟨#[69, 73]⟩, .slice none 0 0] 25) = v := ⟨_, rfl⟩
  have hb23 : Below w22.heap.size w22 w23 := by rw [← hw23]; exact up_alloc _ _
  have Mw23 : Hid (w23.heap[bM]? = some (Obj.cells #[.string ⟨#[74, 80]⟩, .slice AJ 1 capJ, .string ⟨#[]⟩, .slice none 0 0, .string ⟨#[79, 85, 84]⟩, .slice AO 2 capO, .string ⟨#[73, 78]⟩, .slice AI 2 capI, .string ⟨#[69, 88]⟩, .slice AX 2 capX, .string ⟨#[69, 88]⟩, .slice AY 2 capY, .string ⟨#[68, 73]⟩, .slice none 0 0, .string ⟨#[69, 73]⟩, .slice none 0 0] 25 (0, 0))) := by rw [← hw23, ← hbM]; exact heap_alloc_new _ _
  rw [hw23, hbM]
  clear hw23 hbM
  have Rw23 := Lib.hid (Rw22.out.all hb23)
  have Uw23 : Hid (Below w.heap.size w w23) := up Uw22.out hb23
  have Hw23 := Lib.hid (Hw22.out.all hb23)
  have OJw23 := Lib.hid (OJw22.out.below hb23)
  have OOw23 := Lib.hid (OOw22.out.below hb23)
  have OIw23 := Lib.hid (OIw22.out.below hb23)
  have OXw23 := Lib.hid (OXw22.out.below hb23)
  have OYw23 := Lib.hid (OYw22.out.below hb23)
  clear Rw22 Uw22 Hw22 OJw22 OOw22 OIw22 OXw22 OYw22 hb23
  obtain ⟨op, A, m, cap, k0, k1, OK, hop⟩ : ∃ (op : ByteArray) (A : Option Addr) (m cap : Nat), w23.cell? ⟨bM, k * 2, none⟩ = some (.string op) ∧ w23.cell? ⟨bM, k * 2 + 1, none⟩ = some (.slice A m cap) ∧ Hid (OwnT w23 w.heap.size (.slice A m cap) (h3 k).2.1) ∧ op = sB (h3 k).1 := by
    have hM := Mw23.out
    rcases (by omega : k = 0 ∨ k = 1 ∨ k = 2 ∨ k = 3 ∨ k = 4 ∨ k = 5 ∨ k = 6 ∨ k = 7) with rfl | rfl | rfl | rfl | rfl | rfl | rfl | rfl
    · exact ⟨_, AJ, 1, capJ, Lib.cell_of_heap hM 0, Lib.cell_of_heap hM 1, OJw23.out, rfl⟩
    · exact ⟨_, none, 0, 0, Lib.cell_of_heap hM 2, Lib.cell_of_heap hM 3, World.ownsRow_nil _ _ _ _, rfl⟩
    · exact ⟨_, AO, 2, capO, Lib.cell_of_heap hM 4, Lib.cell_of_heap hM 5, OOw23.out, rfl⟩
    · exact ⟨_, AI, 2, capI, Lib.cell_of_heap hM 6, Lib.cell_of_heap hM 7, OIw23.out, rfl⟩
    · exact ⟨_, AX, 2, capX, Lib.cell_of_heap hM 8, Lib.cell_of_heap hM 9, OXw23.out, rfl⟩
    · exact ⟨_, AY, 2, capY, Lib.cell_of_heap hM 10, Lib.cell_of_heap hM 11, OYw23.out, rfl⟩
    · exact ⟨_, none, 0, 0, Lib.cell_of_heap hM 12, Lib.cell_of_heap hM 13, World.ownsRow_nil _ _ _ _, rfl⟩
    · exact ⟨_, none, 0, 0, Lib.cell_of_heap hM 14, Lib.cell_of_heap hM 15, World.ownsRow_nil _ _ _ _, rfl⟩
  obtain ⟨exv, HX, hex⟩ : ∃ exv : ByteArray, Hid (∀ h : k < ([Value.string ⟨#[119]⟩, Value.string ⟨#[]⟩, Value.string ⟨#[110]⟩, Value.string ⟨#[110]⟩, Value.string ⟨#[]⟩, Value.string ⟨#[]⟩, Value.string ⟨#[]⟩, Value.string ⟨#[]⟩] : List Value).length, ([Value.string ⟨#[119]⟩, Value.string ⟨#[]⟩, Value.string ⟨#[110]⟩, Value.string ⟨#[110]⟩, Value.string ⟨#[]⟩, Value.string ⟨#[]⟩, Value.string ⟨#[]⟩, Value.string ⟨#[]⟩] : List Value)[k] = .string exv) ∧ exv = sB (h3 k).2.2 := by
    rcases (by omega : k = 0 ∨ k = 1 ∨ k = 2 ∨ k = 3 ∨ k = 4 ∨ k = 5 ∨ k = 6 ∨ k = 7) with rfl | rfl | rfl | rfl | rfl | rfl | rfl | rfl <;> exact ⟨_, fun _ => rfl, rfl⟩
  have HOP := Lib.hid hop
  have HEX := Lib.hid hex
  clear hop hex
  have KC : Hid (∀ wx : World, wx.heap[bM]? = w23.heap[bM]? → wx.cell? ⟨bM, k * 2, none⟩ = some (.string op) ∧ wx.cell? ⟨bM, k * 2 + 1, none⟩ = some (.slice A m cap)) := fun wx hb => ⟨(cell_same hb _).trans k0, (cell_same hb _).trans k1⟩
  have ML : Hid (bM < w23.heap.size) := (Array.getElem?_eq_some_iff.1 Mw23.out).1
  have MN : Hid (bM ≠ n) := fun e => by have h1 := Mw23.out; rw [e] at h1; have h2 := Eq.trans (Eq.symm (Rw23.out)) h1; simp at h2
  have KA : Hid ((w23.alloc (.cells #[.string ⟨#[119]⟩, .string ⟨#[]⟩, .string ⟨#[110]⟩, .string ⟨#[110]⟩, .string ⟨#[]⟩, .string ⟨#[]⟩, .string ⟨#[]⟩, .string ⟨#[]⟩] 9)).heap[bM]? = w23.heap[bM]?) := Below.heap_alloc _ _ _ ML.out
  have KS : Hid (∀ (wx : World) (s v : Value), ((wx.setCell ⟨n, 0, none⟩ s).setCell ⟨n, 1, none⟩ v).heap[bM]? = wx.heap[bM]?) := fun wx s v => (heap_setCell_other _ ⟨n, 1, none⟩ bM _ MN.out).trans (heap_setCell_other _ ⟨n, 0, none⟩ bM _ MN.out)
  have KSA : Hid (∀ (wx : World) (s v : Value), bM < wx.heap.size → (((wx.setCell ⟨n, 0, none⟩ s).setCell ⟨n, 1, none⟩ v).alloc (.cells #[.string ⟨#[119]⟩, .string ⟨#[]⟩, .string ⟨#[110]⟩, .string ⟨#[110]⟩, .string ⟨#[]⟩, .string ⟨#[]⟩, .string ⟨#[]⟩, .string ⟨#[]⟩] 9)).heap[bM]? = wx.heap[bM]?) := fun wx s v h => (Below.heap_alloc _ _ _ (by simp; exact h)).trans (KS.out wx s v)
  have RC := Rw23
  have UC := Uw23
  clear Rw23 Uw23 Hw23 OJw23 OOw23 OIw23 OXw23 OYw23 Mw23
  obtain ⟨z0, z1, z2, z3⟩ := RC.out.cells
  have NL : n < w23.heap.size := RC.out.lt'
  have b1 : (0 : Int) ≤ (k : Int) := by omega
  have b2 : (k : Int) < 8 := by omega
  have b3 : ¬ ((k : Int) < 0) := by omega
  have b4 : (k : Int).toNat = k := by omega
  have DH : Hid (Below w23.heap.size w23 w23.drew) := below_drewN _ _ 1
  have NU : Hid (w.heap.size ≤ n ∧ w.heap.size ≤ w23.heap.size) := ⟨by rw [HN.out]; exact Nat.le_refl _, UC.out.size⟩
  go_upto_region 14 with fail
  obtain ⟨wd, hwd⟩ : ∃ v, w23.drew = v := ⟨_, rfl⟩
  have hbd : Below w23.heap.size w23 wd := by rw [← hwd]; exact below_drewN _ _ 1
  have Rd := Lib.hid (RC.out.all hbd)
  have Ud : Hid (Below w.heap.size w wd) := up UC.out hbd
  have Od := Lib.hid (OK.out.below hbd)
  have Hd : Hid (wd.heap[bM]? = w23.heap[bM]?) := by rw [← hwd]; rfl
  have MLd : Hid (bM < wd.heap.size) := Nat.lt_of_lt_of_le ML.out hbd.size
  have K0 := Lib.hid (KC.out wd Hd.out)
  have VX : Hid (∀ (wx : World) (b : Nat), wx.heap[b]? = some (Obj.cells #[.string ⟨#[119]⟩, .string ⟨#[]⟩, .string ⟨#[110]⟩, .string ⟨#[110]⟩, .string ⟨#[]⟩, .string ⟨#[]⟩, .string ⟨#[]⟩, .string ⟨#[]⟩] 9 (0, 0)) → wx.cell? ⟨b, k, none⟩ = some (.string exv)) := fun wx b h => by
    have h2 := Lib.cell_of_heap h k
    rw [h2, List.getElem?_toArray]
    have h8 : k < ([.string ⟨#[119]⟩, .string ⟨#[]⟩, .string ⟨#[110]⟩, .string ⟨#[110]⟩, .string ⟨#[]⟩, .string ⟨#[]⟩, .string ⟨#[]⟩, .string ⟨#[]⟩] : List Value).length := by simp; omega
    rw [List.getElem?_eq_getElem h8, HX.out h8]
  refine Mixed.wp_region_mixedT (fun w' => w'.cell? ⟨bM, k * 2, none⟩ = some (.string op) ∧ w'.cell? ⟨bM, k * 2 + 1, none⟩ = some (.slice A m cap)) 9 (.pure 0 (.pure 1 (.pure 2 (.pure 3 (.pure 5 (.two 4 (.pure 6 (.two 7 (.one 8 .done) 8 (.one 7 .done))) 8 (.one 4 (.pure 6 (.one 7 .done))))))))) (by kernel_rfl) (by kernel_rfl) (by rw [hwd]; exact K0.out) ?_
  rw [hwd]
  clear hwd hbd K0 z0 z1 z2 z3 k0 k1 RC UC OK DH
  refine Mixed.wpMixT_pure rfl (by kernel_rfl) (.slice (some ⟨bM, 0, none⟩) 8 8) (fun w h => by go_simp; try rfl) ?_
  refine Mixed.wpMixT_pure rfl (by kernel_rfl) (.int .i64 k) (fun w h => by go_simp; try rfl) ?_
  refine Mixed.wpMixT_pure rfl (by kernel_rfl) (.pointer (some ⟨bM, k * 2, none⟩)) (fun w h => by go_simp; try rfl) ?_
  refine Mixed.wpMixT_pure rfl (by kernel_rfl) (.agg #[.string op, .slice A m cap]) (fun w h => by obtain ⟨h1, h2⟩ := h; go_simp; try rfl) ?_
  refine Mixed.wpMixT_pure rfl (by kernel_rfl) (.int .i64 k) (fun w h => by go_simp; try rfl) ?_
  obtain ⟨nb, hnb⟩ : ∃ z, wd.heap.size = z := ⟨_, rfl⟩
  obtain ⟨wA, hwA⟩ : ∃ z, wd.alloc (.cells #[.string ⟨#[119]⟩, .string ⟨#[]⟩, .string ⟨#[110]⟩, .string ⟨#[110]⟩, .string ⟨#[]⟩, .string ⟨#[]⟩, .string ⟨#[]⟩, .string ⟨#[]⟩] 9) = z := ⟨_, rfl⟩
  have BA : Hid (Below wd.heap.size wd wA) := by rw [← hwA]; exact up_alloc _ _
  have VA : Hid (wA.cell? ⟨nb, k, none⟩ = some (.string exv)) := by rw [← hwA, ← hnb]; exact VX.out _ _ (heap_alloc_new _ _)
  have HWA := Lib.hid hwA
  have HNB := Lib.hid hnb
  have RA := Lib.hid (Rd.out.all BA.out)
  have UA : Hid (Below w.heap.size w wA) := up Ud.out BA.out
  have OA := Lib.hid (Od.out.below BA.out)
  have HA : Hid (wA.heap[bM]? = w23.heap[bM]?) := (BA.out.block bM MLd.out).trans Hd.out
  have NN : Hid (n ≠ nb) := (by have := Rd.out.lt'; omega : n ≠ nb)
  clear hwA hnb
  refine Mixed.wpMixT_both rfl (by kernel_rfl) rfl (by kernel_rfl) ?_ ?_
  · go_wp2
    rw [HWA.out, HNB.out]
    refine ⟨KC.out _ HA.out, ?_⟩
    refine Mixed.wpMixT_pure rfl (by kernel_rfl) (.pointer (some ⟨nb, k, none⟩)) (fun w h => by go_simp; try rfl) ?_
    obtain ⟨wz, hwz, q1, q2, q3⟩ := ri_put RA.out op (.slice A m cap)
    have QY := q1
    have OQ := own_put RA.out OA.out q3
    have UQ := UA.out.trans (q2.mono NU.out.1)
    have HZ : wz.heap[bM]? = w23.heap[bM]? := (q3 bM MN.out).trans HA.out
    have vz : wz.cell? ⟨nb, k, none⟩ = some (.string exv) := (World.cell?_of_block (q3 nb NN.out.symm)).trans VA.out
    have HWZ := Lib.hid hwz
    have vz := Lib.hid vz
    clear hwz
    refine Mixed.wpMixT_both rfl (by kernel_rfl) rfl (by kernel_rfl) ?_ ?_
    · have va := VA.out
      go_wp2
      refine ⟨KC.out _ HA.out, ?_⟩
      clear va
      refine Mixed.wpMixT_loud rfl (by kernel_rfl) ?_
      obtain ⟨z0, z1, z2, z3⟩ := RA.out.cells
      go_wp2
      rw [HWZ.out]
      refine ⟨KC.out _ HZ, ?_⟩
      clear z0 z1 z2 z3
      simp only [Mixed.wpMixT, List.drop_succ_cons, List.drop_zero]
      go_wp2
      obtain ⟨s0, s1⟩ := QY.cells
      refine bodyPost_ret (v := .tuple #[.agg #[.string op, .slice A m cap], .string exv]) ?_ rfl ?_
      · simp [results, Tryz.results59, go_sem, s0, s1]
      · exact ⟨_, by rw [HOP.out, HEX.out], OQ, UQ⟩
    · obtain ⟨z0, z1, z2, z3⟩ := RA.out.cells
      go_wp2
      rw [HWZ.out]
      refine ⟨KC.out _ HZ, ?_⟩
      clear z0 z1 z2 z3
      refine Mixed.wpMixT_loud rfl (by kernel_rfl) ?_
      have va := vz.out
      go_wp2
      refine ⟨KC.out _ HZ, ?_⟩
      clear va
      simp only [Mixed.wpMixT, List.drop_succ_cons, List.drop_zero]
      go_wp2
      obtain ⟨s0, s1⟩ := QY.cells
      refine bodyPost_ret (v := .tuple #[.agg #[.string op, .slice A m cap], .string exv]) ?_ rfl ?_
      · simp [results, Tryz.results59, go_sem, s0, s1]
      · exact ⟨_, by rw [HOP.out, HEX.out], OQ, UQ⟩
  · obtain ⟨wz, hwz, q1, q2, q3⟩ := ri_put Rd.out op (.slice A m cap)
    have HZ : wz.heap[bM]? = w23.heap[bM]? := (q3 bM MN.out).trans Hd.out
    have bz : Below wz.heap.size wz (wz.alloc (.cells #[.string ⟨#[119]⟩, .string ⟨#[]⟩, .string ⟨#[110]⟩, .string ⟨#[110]⟩, .string ⟨#[]⟩, .string ⟨#[]⟩, .string ⟨#[]⟩, .string ⟨#[]⟩] 9)) := up_alloc _ _
    have ls : bM < wz.heap.size := by rw [← hwz]; simp; exact MLd.out
    have QY := (bz.block n (Array.getElem?_eq_some_iff.1 q1).1).trans q1
    have QY : Ri (wz.alloc (.cells #[.string ⟨#[119]⟩, .string ⟨#[]⟩, .string ⟨#[110]⟩, .string ⟨#[110]⟩, .string ⟨#[]⟩, .string ⟨#[]⟩, .string ⟨#[]⟩, .string ⟨#[]⟩] 9)) n op (.slice A m cap) := QY
    have OQ := (own_put Rd.out Od.out q3).below bz
    have UQ := up (Ud.out.trans (q2.mono NU.out.1)) bz
    have HZ2 : (wz.alloc (.cells #[.string ⟨#[119]⟩, .string ⟨#[]⟩, .string ⟨#[110]⟩, .string ⟨#[110]⟩, .string ⟨#[]⟩, .string ⟨#[]⟩, .string ⟨#[]⟩, .string ⟨#[]⟩] 9)).heap[bM]? = w23.heap[bM]? := (bz.block bM ls).trans HZ
    have vz := Lib.hid (VX.out _ _ (heap_alloc_new wz (.cells #[.string ⟨#[119]⟩, .string ⟨#[]⟩, .string ⟨#[110]⟩, .string ⟨#[110]⟩, .string ⟨#[]⟩, .string ⟨#[]⟩, .string ⟨#[]⟩, .string ⟨#[]⟩] 9)))
    have HWZ := Lib.hid hwz
    clear hwz
    obtain ⟨z0, z1, z2, z3⟩ := Rd.out.cells
    go_wp2
    rw [HWZ.out]
    refine ⟨KC.out _ HZ, ?_⟩
    clear z0 z1 z2 z3
    refine Mixed.wpMixT_loud rfl (by kernel_rfl) ?_
    go_wp2
    refine ⟨KC.out _ HZ2, ?_⟩
    refine Mixed.wpMixT_pure rfl (by kernel_rfl) (.pointer (some ⟨wz.heap.size, k, none⟩)) (fun w h => by go_simp; try rfl) ?_
    refine Mixed.wpMixT_loud rfl (by kernel_rfl) ?_
    have va := vz.out
    go_wp2
    refine ⟨KC.out _ HZ2, ?_⟩
    clear va
    simp only [Mixed.wpMixT, List.drop_succ_cons, List.drop_zero]
    go_wp2
    obtain ⟨s0, s1⟩ := QY.cells
    refine bodyPost_ret (v := .tuple #[.agg #[.string op, .slice A m cap], .string exv]) ?_ rfl ?_
    · simp [results, Tryz.results59, go_sem, s0, s1]
    · exact ⟨_, by rw [HOP.out, HEX.out], OQ, UQ⟩
end Go.Proofs.YtipgecdfnbldnaaGreatDoor
