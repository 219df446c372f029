/-
  TableAt: the walk over the law.
-/
import Derived.Test.YtipgecdfnbldnaaGreatDoorMFoA
import Derived.Test.YtipgecdfnbldnaaGreatDoorMRsE
import Derived.Test.YtipgecdfnbldnaaGreatDoorTaX
import Derived.Test.YtipgecdfnbldnaaGreatDoorBaA
import Derived.Deep.DeepCutAuto
import Derived.Deep.Cut
import Derived.StillTail
import Derived.StillTailTactics
import Derived.Deep.RegionHeld3
import Derived.RegionTactic
set_option linter.all false
namespace Go.Proofs.YtipgecdfnbldnaaGreatDoor
open Go.RowKit Go.Shelf
set_option linter.unusedVariables false
attribute [local irreducible] Go.Mixed.wpMix

set_option maxRecDepth 100000 in
set_option maxHeartbeats 4000000 in
theorem walkTA (a : Int) (c : Int) (w : World) (wa : (Lit.int .i8 a).wf = true) (wc : (Lit.int .u8 c).wf = true) (hM : MaxAt w) :
    Calls Tryz.prog 3 #[.int .i8 a, .int .u8 c] w fun e w' => e = .returned (.bool true) ∧ Below w.heap.size w w' := by
  have ha : -128 ≤ a ∧ a ≤ 127 := by
    have h3 : IntKind.i8.min ≤ a ∧ a ≤ IntKind.i8.max := by simpa [Lit.wf] using wa
    exact h3
  obtain ⟨i, hi, rfl⟩ := int_nat (u8_wf wc)
  obtain ⟨⟨g, o, m, L, ex, al, k⟩, hf⟩ : ∃ f, formT a i = f := ⟨_, rfl⟩
  have AT := Lib.hid (fun w' h => (tat_any a i (by omega) (by omega) w' h).mono fun e w2 hr => form_code hi hr hf)
  have RA := Lib.hid (fun w' => (rat_any a i hi w').mono fun e w2 hr => form_ref hr hf)
  have HK := Lib.hid (form_kind hi hf)
  have AL := Lib.hid (fun w' h => alive_any w' h)
  have MX := Lib.hid hM
  obtain ⟨n, hn⟩ : ∃ n, L.length = n := ⟨_, rfl⟩
  have HN := Lib.hid hn
  simp only [hn] at AT RA
  clear hM wa wc hf hn
  unfold enV at AT RA
  go_enter Tryz.func3, Tryz.ntmps3
  go_wp2_with fail
  refine (AT.out w MX.out).mono ?_
  rintro e w1 ⟨A1, c1, rfl, hP1, hb1⟩
  have B1 := Lib.hid hb1
  have M1 := Lib.hid (MX.out.below hb1)
  have P1 := Lib.hid hP1
  clear hP1 hb1 AT MX
  go_upto_region 2 with fail
  obtain ⟨b1, hbb1⟩ : ∃ b, w1.heap.size = b := ⟨_, rfl⟩
  obtain ⟨w2, hw2⟩ : ∃ v, w1.alloc (.cells #[.int .i64 g, .int .u8 o, .string (sB m), .slice A1 n c1, .string (sB ex), .bool al] 27) = v := ⟨_, rfl⟩
  have hal : Below w1.heap.size w1 w2 := by rw [← hw2]; exact up_alloc _ _
  have E2 : Hid (EnAt w2 b1 g o m (.slice A1 n c1) ex al) := by rw [← hw2, ← hbb1]; exact World.alloc_heap_new w1 _
  have B2 : Hid (Below w.heap.size w w2) := up B1.out hal
  have M2 := Lib.hid (M1.out.below hal)
  have P2 := Lib.hid (P1.out.below hal)
  rw [hw2, hbb1]
  clear hal hw2 hbb1 B1 M1 P1
  go_wp2_with fail
  refine (RA.out w2).mono ?_
  rintro e w3 ⟨A2, c2, rfl, hQ3, hb3⟩
  have E3 := Lib.hid (E2.out.all hb3)
  have B3 : Hid (Below w.heap.size w w3) := up B2.out hb3
  have M3 := Lib.hid (M2.out.below hb3)
  have P3 := Lib.hid (P2.out.below hb3)
  have Q3 := Lib.hid hQ3
  clear hQ3 hb3 RA E2 B2 M2 P2
  go_upto_region 3 with fail
  obtain ⟨b2, hbb2⟩ : ∃ b, w3.heap.size = b := ⟨_, rfl⟩
  obtain ⟨w4, hw4⟩ : ∃ v, w3.alloc (.cells #[.int .i64 g, .int .u8 o, .string (sB m), .slice A2 n c2, .string (sB ex), .bool al] 30) = v := ⟨_, rfl⟩
  have hal : Below w3.heap.size w3 w4 := by rw [← hw4]; exact up_alloc _ _
  have Fw4 : Hid (RnAt w4 b2 g o m (.slice A2 n c2) ex al) := by rw [← hw4, ← hbb2]; exact World.alloc_heap_new w3 _
  have Ew4 := Lib.hid (E3.out.all hal)
  have Bw4 : Hid (Below w.heap.size w w4) := up B3.out hal
  have Mw4 := Lib.hid (M3.out.below hal)
  have Pw4 := Lib.hid (P3.out.below hal)
  have Qw4 := Lib.hid (Q3.out.below hal)
  rw [hw4, hbb2]
  clear hal hw4 hbb2 E3 B3 M3 P3 Q3
  have SM := rsameE_any g o m ex al A1 A2 c1 c2 L (by have := HK.out.1; omega) w4 Pw4.out Qw4.out
  rw [HN.out] at SM
  unfold enV at SM
  have SM := Lib.hid SM
  obtain ⟨e0, e1, e2, e3, e4, e5, e6⟩ := Ew4.out.cells
  obtain ⟨f0, f1, f2, f3, f4, f5, f6⟩ := Fw4.out.cells
  go_wp2_with fail
  refine SM.out.mono ?_
  rintro e w5 ⟨rfl, hbw5⟩
  have Ew5 := Lib.hid (Ew4.out.all hbw5)
  have Fw5 := Lib.hid (Fw4.out.all hbw5)
  have Pw5 := Lib.hid (Pw4.out.below hbw5)
  have Qw5 := Lib.hid (Qw4.out.below hbw5)
  have Bw5 : Hid (Below w.heap.size w w5) := up Bw4.out hbw5
  have Mw5 := Lib.hid (Mw4.out.below hbw5)
  clear Ew4 Fw4 Pw4 Qw4 Bw4 Mw4 hbw5
  clear SM e0 e1 e2 e3 e4 e5 e6 f0 f1 f2 f3 f4 f5 f6
  rcases HK.out.2 with hk | ⟨rfl, rfl, hrt⟩
  · have hk1 : (k == 1) = false := by simpa using hk
    clear hk
    go_wp2_with fail
    refine (AL.out _ Mw5.out).mono ?_
    rintro e w6 ⟨rfl, hb6⟩
    have B6 : Hid (Below w.heap.size w w6) := up Bw5.out hb6
    go_wp2
    go_ret
    exact ⟨rfl, B6.out⟩
  · obtain ⟨s1, s2, s3, s4, s5⟩ := ok_parts (ok_some hi hrt)
    obtain ⟨s6, s7, s8⟩ := len_some hi hrt
    simp only at s6 s7 s8
    have SZ := fun w' => size_any g o m A1 n c1 ex (by omega) al w'
    have RS := fun w' => rsize_any g o m A2 n c2 ex (by omega) al w'
    rw [← s1] at RS
    obtain ⟨sz, hsz⟩ : ∃ z, sizeT g ex = z := ⟨_, rfl⟩
    rw [hsz] at SZ RS s2 s3
    obtain ⟨dc, hdc⟩ : ∃ z, docB g m L al = z := ⟨_, rfl⟩
    have DC := fun w' h => doc_any g o m ex al A1 c1 L (by omega) w' h
    have RD := fun w' h => rdoc_any g o m ex (by omega) al A2 c2 L (by omega) w' h
    rw [← s4, hdc, HN.out] at RD
    rw [hdc, HN.out] at DC
    have CK := fun w' h => check_any (sB m) A1 c1 L (by rw [sB_size]; unfold maxLen; omega) (by omega) w' h
    rw [s5, HN.out] at CK
    unfold enV at SZ RS DC RD
    have SZ := Lib.hid SZ
    have RS := Lib.hid RS
    have DC := Lib.hid DC
    have RD := Lib.hid RD
    have CK := Lib.hid CK
    clear hrt s1 s4 s5 s6 s7 s8 hsz hdc
    obtain ⟨e0, e1, e2, e3, e4, e5, e6⟩ := Ew5.out.cells
    go_wp2_with fail
    refine (SZ.out w5).mono ?_
    rintro e w6 ⟨rfl, hbw6⟩
    have Ew6 := Lib.hid (Ew5.out.all hbw6)
    have Fw6 := Lib.hid (Fw5.out.all hbw6)
    have Pw6 := Lib.hid (Pw5.out.below hbw6)
    have Qw6 := Lib.hid (Qw5.out.below hbw6)
    have Bw6 : Hid (Below w.heap.size w w6) := up Bw5.out hbw6
    have Mw6 := Lib.hid (Mw5.out.below hbw6)
    clear Ew5 Fw5 Pw5 Qw5 Bw5 Mw5 hbw6
    clear SZ e0 e1 e2 e3 e4 e5 e6
    have t1 : (1 : Int) ≤ (sz : Int) := by omega
    have t2 : (sz : Int) ≤ 4 := by omega
    clear s2 s3
    go_upto_region 8 with fail
    obtain ⟨w7, hw7⟩ : ∃ v, w6.drew = v := ⟨_, rfl⟩
    have hbw7 : Below w6.heap.size w6 w7 := by rw [← hw7]; exact below_drewN _ _ 1
    have Ew7 := Lib.hid (Ew6.out.all hbw7)
    have Fw7 := Lib.hid (Fw6.out.all hbw7)
    have Pw7 := Lib.hid (Pw6.out.below hbw7)
    have Qw7 := Lib.hid (Qw6.out.below hbw7)
    have Bw7 : Hid (Below w.heap.size w w7) := up Bw6.out hbw7
    have Mw7 := Lib.hid (Mw6.out.below hbw7)
    clear Ew6 Fw6 Pw6 Qw6 Bw6 Mw6 hbw7
    have KC : Hid (∀ wx, EnAt wx b1 g o m (.slice A1 n c1) ex al → RnAt wx b2 g o m (.slice A2 n c2) ex al → wx.cell? ⟨b1, 0, none⟩ = some (.int .i64 g) ∧ wx.cell? ⟨b1, 1, none⟩ = some (.int .u8 o) ∧ wx.cell? ⟨b1, 2, none⟩ = some (.string (sB m)) ∧ wx.cell? ⟨b1, 3, none⟩ = some (.slice A1 n c1) ∧ wx.cell? ⟨b1, 4, none⟩ = some (.string (sB ex)) ∧ wx.cell? ⟨b1, 5, none⟩ = some (.bool al) ∧ wx.cell? ⟨b2, 0, none⟩ = some (.int .i64 g) ∧ wx.cell? ⟨b2, 1, none⟩ = some (.int .u8 o) ∧ wx.cell? ⟨b2, 2, none⟩ = some (.string (sB m)) ∧ wx.cell? ⟨b2, 3, none⟩ = some (.slice A2 n c2) ∧ wx.cell? ⟨b2, 4, none⟩ = some (.string (sB ex)) ∧ wx.cell? ⟨b2, 5, none⟩ = some (.bool al)) := fun wx he hf => ⟨he.cells.1, he.cells.2.1, he.cells.2.2.1, he.cells.2.2.2.1, he.cells.2.2.2.2.1, he.cells.2.2.2.2.2.1, hf.cells.1, hf.cells.2.1, hf.cells.2.2.1, hf.cells.2.2.2.1, hf.cells.2.2.2.2.1, hf.cells.2.2.2.2.2.1⟩
    have K7 := Lib.hid (KC.out _ Ew7.out Fw7.out)
    refine Mixed.wp_region_mixed (fun w' => w'.cell? ⟨b1, 0, none⟩ = some (.int .i64 g) ∧ w'.cell? ⟨b1, 1, none⟩ = some (.int .u8 o) ∧ w'.cell? ⟨b1, 2, none⟩ = some (.string (sB m)) ∧ w'.cell? ⟨b1, 3, none⟩ = some (.slice A1 n c1) ∧ w'.cell? ⟨b1, 4, none⟩ = some (.string (sB ex)) ∧ w'.cell? ⟨b1, 5, none⟩ = some (.bool al) ∧ w'.cell? ⟨b2, 0, none⟩ = some (.int .i64 g) ∧ w'.cell? ⟨b2, 1, none⟩ = some (.int .u8 o) ∧ w'.cell? ⟨b2, 2, none⟩ = some (.string (sB m)) ∧ w'.cell? ⟨b2, 3, none⟩ = some (.slice A2 n c2) ∧ w'.cell? ⟨b2, 4, none⟩ = some (.string (sB ex)) ∧ w'.cell? ⟨b2, 5, none⟩ = some (.bool al)) 27 [(0, false), (1, true), (2, true), (3, true), (4, false), (5, true), (6, true), (7, true), (8, true), (9, true), (10, true), (11, true), (12, true), (13, true), (14, true), (15, true), (16, true), (18, true), (17, false), (19, false), (20, true), (21, true), (22, true), (23, true), (24, true), (25, false), (26, true)] (by kernel_rfl) (by kernel_rfl) (by rw [hw7]; exact K7.out) ?_
    rw [hw7]
    clear hw7 K7
    refine Mixed.wpMix_loudG rfl (by kernel_rfl) ?_
    go_wp2_with fail
    refine (AL.out _ Mw7.out).mono ?_
    rintro e w8 ⟨rfl, hbw8⟩
    have Ew8 := Lib.hid (Ew7.out.all hbw8)
    have Fw8 := Lib.hid (Fw7.out.all hbw8)
    have Pw8 := Lib.hid (Pw7.out.below hbw8)
    have Qw8 := Lib.hid (Qw7.out.below hbw8)
    have Bw8 : Hid (Below w.heap.size w w8) := up Bw7.out hbw8
    have Mw8 := Lib.hid (Mw7.out.below hbw8)
    clear Ew7 Fw7 Pw7 Qw7 Bw7 Mw7 hbw8
    have xx := KC.out _ Ew8.out Fw8.out
    go_wp2
    refine ⟨xx, ?_⟩
    clear xx
    refine Mixed.wpMix_pure rfl (by kernel_rfl) (.bool true) (fun w h => by go_simp; try rfl) ?_
    refine Mixed.wpMix_pure rfl (by kernel_rfl) (.int .i64 (sz : Nat)) (fun w h => by go_simp; try rfl) ?_
    refine Mixed.wpMix_pure rfl (by kernel_rfl) (.agg #[.int .i64 g, .int .u8 o, .string (sB m), .slice A2 n c2, .string (sB ex), .bool al]) (fun w h => by obtain ⟨h1, h2, h3, h4, h5, h6, h7, h8, h9, h10, h11, h12⟩ := h; go_simp; try rfl) ?_
    refine Mixed.wpMix_loudG rfl (by kernel_rfl) ?_
    go_wp2_with fail
    refine ((RS.out w8)).mono ?_
    rintro e w9 ⟨rfl, hbw9⟩
    have Ew9 := Lib.hid (Ew8.out.all hbw9)
    have Fw9 := Lib.hid (Fw8.out.all hbw9)
    have Pw9 := Lib.hid (Pw8.out.below hbw9)
    have Qw9 := Lib.hid (Qw8.out.below hbw9)
    have Bw9 : Hid (Below w.heap.size w w9) := up Bw8.out hbw9
    have Mw9 := Lib.hid (Mw8.out.below hbw9)
    clear Ew8 Fw8 Pw8 Qw8 Bw8 Mw8 hbw9
    have xx := KC.out _ Ew9.out Fw9.out
    go_wp2
    refine ⟨xx, ?_⟩
    clear xx
    refine Mixed.wpMix_pure rfl (by kernel_rfl) (.bool true) (fun w h => by go_simp; try rfl) ?_
    refine Mixed.wpMix_pure rfl (by kernel_rfl) (.bool true) (fun w h => by go_simp; try rfl) ?_
    refine Mixed.wpMix_pure rfl (by kernel_rfl) (.bool true) (fun w h => by go_simp; try rfl) ?_
    simp only [Act.put, List.setIfInBounds_toArray, List.set_cons_zero, List.set_cons_succ]
    refine Mixed.wpMix_pure rfl (by kernel_rfl) (.int .i64 (sz : Nat)) (fun w h => by go_simp; try rfl) ?_
    refine Mixed.wpMix_pure rfl (by kernel_rfl) (.bool true) (fun w h => by go_simp; try rfl) ?_
    refine Mixed.wpMix_pure rfl (by kernel_rfl) (.bool true) (fun w h => by go_simp; try rfl) ?_
    refine Mixed.wpMix_pure rfl (by kernel_rfl) (.bool true) (fun w h => by go_simp; try rfl) ?_
    simp only [Act.put, List.setIfInBounds_toArray, List.set_cons_zero, List.set_cons_succ]
    refine Mixed.wpMix_pure rfl (by kernel_rfl) (.int .i64 (sz : Nat)) (fun w h => by go_simp; try rfl) ?_
    refine Mixed.wpMix_pure rfl (by kernel_rfl) (.bool true) (fun w h => by go_simp; try rfl) ?_
    refine Mixed.wpMix_pure rfl (by kernel_rfl) (.bool true) (fun w h => by go_simp; try rfl) ?_
    refine Mixed.wpMix_pure rfl (by kernel_rfl) (.bool true) (fun w h => by go_simp; try rfl) ?_
    simp only [Act.put, List.setIfInBounds_toArray, List.set_cons_zero, List.set_cons_succ]
    refine Mixed.wpMix_pure rfl (by kernel_rfl) (.agg #[.int .i64 g, .int .u8 o, .string (sB m), .slice A1 n c1, .string (sB ex), .bool al]) (fun w h => by obtain ⟨h1, h2, h3, h4, h5, h6, h7, h8, h9, h10, h11, h12⟩ := h; go_simp; try rfl) ?_
    refine Mixed.wpMix_pure rfl (by kernel_rfl) (.agg #[.int .i64 g, .int .u8 o, .string (sB m), .slice A2 n c2, .string (sB ex), .bool al]) (fun w h => by obtain ⟨h1, h2, h3, h4, h5, h6, h7, h8, h9, h10, h11, h12⟩ := h; go_simp; try rfl) ?_
    refine Mixed.wpMix_loudG rfl (by kernel_rfl) ?_
    go_wp2_with fail
    refine ((DC.out w9 Pw9.out)).mono ?_
    rintro e w10 ⟨rfl, hbw10⟩
    have Ew10 := Lib.hid (Ew9.out.all hbw10)
    have Fw10 := Lib.hid (Fw9.out.all hbw10)
    have Pw10 := Lib.hid (Pw9.out.below hbw10)
    have Qw10 := Lib.hid (Qw9.out.below hbw10)
    have Bw10 : Hid (Below w.heap.size w w10) := up Bw9.out hbw10
    have Mw10 := Lib.hid (Mw9.out.below hbw10)
    clear Ew9 Fw9 Pw9 Qw9 Bw9 Mw9 hbw10
    have xx := KC.out _ Ew10.out Fw10.out
    go_wp2
    refine ⟨xx, ?_⟩
    clear xx
    refine Mixed.wpMix_loudG rfl (by kernel_rfl) ?_
    go_wp2_with fail
    refine ((RD.out w10 Qw10.out)).mono ?_
    rintro e w11 ⟨rfl, hbw11⟩
    have Ew11 := Lib.hid (Ew10.out.all hbw11)
    have Fw11 := Lib.hid (Fw10.out.all hbw11)
    have Pw11 := Lib.hid (Pw10.out.below hbw11)
    have Qw11 := Lib.hid (Qw10.out.below hbw11)
    have Bw11 : Hid (Below w.heap.size w w11) := up Bw10.out hbw11
    have Mw11 := Lib.hid (Mw10.out.below hbw11)
    clear Ew10 Fw10 Pw10 Qw10 Bw10 Mw10 hbw11
    have xx := KC.out _ Ew11.out Fw11.out
    go_wp2
    refine ⟨xx, ?_⟩
    clear xx
    refine Mixed.wpMix_pure rfl (by kernel_rfl) (.bool true) (fun w h => by go_simp; try rfl) ?_
    refine Mixed.wpMix_pure rfl (by kernel_rfl) (.bool true) (fun w h => by go_simp; try rfl) ?_
    refine Mixed.wpMix_pure rfl (by kernel_rfl) (.bool true) (fun w h => by go_simp; try rfl) ?_
    simp only [Act.put, List.setIfInBounds_toArray, List.set_cons_zero, List.set_cons_succ]
    refine Mixed.wpMix_pure rfl (by kernel_rfl) (.pointer (some ⟨b1, 2, none⟩)) (fun w h => by go_simp; try rfl) ?_
    refine Mixed.wpMix_pure rfl (by kernel_rfl) (.agg #[.string (sB m), .slice A1 n c1]) (fun w h => by obtain ⟨h1, h2, h3, h4, h5, h6, h7, h8, h9, h10, h11, h12⟩ := h; go_simp; try rfl) ?_
    refine Mixed.wpMix_loudG rfl (by kernel_rfl) ?_
    go_wp2_with fail
    refine ((CK.out w11 Pw11.out)).mono ?_
    rintro e w12 ⟨rfl, hbw12⟩
    have Ew12 := Lib.hid (Ew11.out.all hbw12)
    have Fw12 := Lib.hid (Fw11.out.all hbw12)
    have Pw12 := Lib.hid (Pw11.out.below hbw12)
    have Qw12 := Lib.hid (Qw11.out.below hbw12)
    have Bw12 : Hid (Below w.heap.size w w12) := up Bw11.out hbw12
    have Mw12 := Lib.hid (Mw11.out.below hbw12)
    clear Ew11 Fw11 Pw11 Qw11 Bw11 Mw11 hbw12
    have xx := KC.out _ Ew12.out Fw12.out
    go_wp2
    refine ⟨xx, ?_⟩
    clear xx
    refine Mixed.wpMix_pure rfl (by kernel_rfl) (.bool true) (fun w h => by go_simp; try rfl) ?_
    simp only [Mixed.wpMix, List.drop_succ_cons, List.drop_zero]
    go_wp2
    go_ret
    exact ⟨rfl, Bw12.out⟩

end Go.Proofs.YtipgecdfnbldnaaGreatDoor
