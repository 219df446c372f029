/-
  SearchFits: the walk over the law.
-/
import Derived.Test.YtbbpkoaeedkncaaGreatDoorMSeRi
import Derived.Test.YtbbpkoaeedkncaaGreatDoorGBC
import Derived.Test.YtbbpkoaeedkncaaGreatDoorGBS
import Derived.Test.YtbbpkoaeedkncaaGreatDoorMSeN
import Derived.Test.YtbbpkoaeedkncaaGreatDoorMFoA
import Derived.Test.YtbbpkoaeedkncaaGreatDoorMShp
import Derived.Test.YtbbpkoaeedkncaaGreatDoorGAG
import Derived.Deep.DeepCutAuto
import Derived.Deep.Cut
set_option linter.all false
set_option maxRecDepth 100000
set_option maxHeartbeats 4000000
namespace Go.Proofs.YtbbpkoaeedkncaaGreatDoor
open Go.RowKit Go.Shelf
attribute [local irreducible] Go.Mixed.wpMix
attribute [local go_sem] Oper.semAt_some
theorem rem7P (a : Int) (h : 0 ≤ a ∧ a ≤ 255) : ∃ P : Nat, P < 7 ∧ a.tmod 7 = (P : Int) := ⟨(a.tmod 7).toNat, by have := Int.tmod_eq_emod_of_nonneg (b := 7) h.1; omega, by have := Int.tmod_eq_emod_of_nonneg (b := 7) h.1; omega⟩
theorem u8_in {b : Int} (h : (Lit.int .u8 b).wf = true) : 0 ≤ b ∧ b ≤ 255 := by
  have h3 : IntKind.u8.min ≤ b ∧ b ≤ IntKind.u8.max := by simpa [Lit.wf] using h
  exact h3
theorem walkSF (a : Int) (c : Int) (s : ByteArray) (A : Option Addr) (cap : Nat) (I : List Tr) (w : World) (wa : (Lit.int .u8 a).wf = true) (wc : (Lit.int .u8 c).wf = true) (hs : s.size ≤ maxLen) (hL : I.length ≤ maxLen) (H : OpsP w A I) (hM : MaxAt w) :
    Calls Tryz.prog 3 #[.int .u8 a, .int .u8 c, .agg #[.string s, .slice A I.length cap]] w fun e w' => e = .returned (.bool true) ∧ Below w.heap.size w w' := by
  have ha := u8_in wa
  obtain ⟨P, hP, eP⟩ := rem7P a ha
  obtain ⟨i, hi, rfl⟩ := int_nat (u8_in wc)
  obtain ⟨⟨g, o, m, L, ex, al, k⟩, hf⟩ : ∃ f, formT (P : Int) i = f := ⟨_, rfl⟩
  have AT := Lib.hid (fun w' h => (tat_any (P : Int) i (by omega) (by omega) w' h).mono fun e w2 hr => form_code hi hr hf)
  have RA := Lib.hid (fun w' => (rat_any (P : Int) i hi w').mono fun e w2 hr => form_ref hr hf)
  have HK := Lib.hid (form_kind hi hf)
  have AL := Lib.hid (fun w' h => salive_any w' h)
  obtain ⟨l, hl⟩ : ∃ l, I.length = l := ⟨_, rfl⟩
  rw [hl] at hL ⊢
  obtain ⟨v, hv⟩ : ∃ n, L.length = n := ⟨_, rfl⟩
  simp only [hv] at AT RA
  obtain ⟨n, hn⟩ : ∃ n, w.heap.size = n := ⟨_, rfl⟩
  obtain ⟨w0, hw0, b1, b2, b3⟩ := ins_box w s (.slice A l cap) n hn
  have HN := Lib.hid hn
  have HV := Lib.hid hv
  have HI := Lib.hid hl
  have B0 : Hid (Below n w w0) := by rw [← hn]; exact b2
  have P0 := Lib.hid (H.below b2)
  have M0 : Hid (MaxAt w0) := hM.below b2
  have C0 := Lib.hid b1
  have SH := fun w' => sshort_any s A cap l w'
  obtain ⟨z, hz⟩ : ∃ q, (decide (s.size ≤ 100) && decide (l ≤ 20)) = q := ⟨_, rfl⟩
  rw [hz] at SH
  have HZ := Lib.hid hz
  have SH := Lib.hid SH
  have hn0 : n < w0.heap.size := by omega
  unfold enV at AT RA
  clear H hM b1 b2 b3 hz hv hf wa wc hs hL
  go_enter Tryz.func3, Tryz.ntmps3
  go_upto_region 1 with fail
  clear hw0 hn
  go_wp2_with fail
  refine (AT.out w0 M0.out).mono ?_
  rintro e w1 ⟨A1, c1, rfl, hP1, hb⟩
  have B1 : Hid (Below n w w1) := B0.out.trans (hb.mono (by omega))
  have P1 := Lib.hid (P0.out.below hb)
  have Q1 := Lib.hid hP1
  have M1 : Hid (MaxAt w1) := M0.out.below hb
  have C1 := Lib.hid ((hb.block n hn0).trans C0.out)
  have hn1 : n < w1.heap.size := by have := hb.size; omega
  clear hP1 hb AT B0 P0 M0 C0 hn0
  go_upto_region 2 with fail
  obtain ⟨b, hbs⟩ : ∃ b, w1.heap.size = b := ⟨_, rfl⟩
  obtain ⟨w2, hw2⟩ : ∃ vv, w1.alloc (.cells #[.int .i64 g, .int .u8 o, .string (sB m), .slice A1 v c1, .string (sB ex), .bool al] 26) = vv := ⟨_, rfl⟩
  have hal : Below w1.heap.size w1 w2 := by rw [← hw2]; exact up_alloc _ _
  have E2 : Hid (EnAt w2 b g o m (.slice A1 v c1) ex al) := by rw [← hw2, ← hbs]; exact World.alloc_heap_new w1 _
  have hb2 : w2.heap.size = b + 1 := by rw [← hw2]; simp; omega
  have B2 : Hid (Below n w w2) := B1.out.trans (hal.mono (by omega))
  have P2 := Lib.hid (P1.out.below hal)
  have Q2 := Lib.hid (Q1.out.below hal)
  have M2 : Hid (MaxAt w2) := M1.out.below hal
  have C2 := Lib.hid ((hal.block n hn1).trans C1.out)
  have hnb : n < b := by omega
  rw [hw2, hbs]
  clear hal hw2 hbs B1 P1 Q1 M1 C1 hn1
  go_wp2_with fail
  refine (RA.out w2).mono ?_
  rintro e w3 ⟨A2, c2, rfl, hP3, hb⟩
  have B3 : Hid (Below n w w3) := B2.out.trans (hb.mono (by omega))
  have P3 := Lib.hid (P2.out.below hb)
  have Q3 := Lib.hid (Q2.out.below hb)
  have R3 := Lib.hid hP3
  have M3 : Hid (MaxAt w3) := M2.out.below hb
  have C3 := Lib.hid ((hb.block n (by omega)).trans C2.out)
  have E3 := Lib.hid (E2.out.all hb)
  have hb3 : b < w3.heap.size := by have := hb.size; omega
  clear hP3 hb RA B2 P2 Q2 M2 C2 E2 hb2
  go_upto_region 3 with fail
  obtain ⟨d, hds⟩ : ∃ b, w3.heap.size = b := ⟨_, rfl⟩
  obtain ⟨w4, hw4⟩ : ∃ vv, w3.alloc (.cells #[.int .i64 g, .int .u8 o, .string (sB m), .slice A2 v c2, .string (sB ex), .bool al] 29) = vv := ⟨_, rfl⟩
  have hal : Below w3.heap.size w3 w4 := by rw [← hw4]; exact up_alloc _ _
  have F4 : Hid (RnAt w4 d g o m (.slice A2 v c2) ex al) := by rw [← hw4, ← hds]; exact World.alloc_heap_new w3 _
  have hd4 : w4.heap.size = d + 1 := by rw [← hw4]; simp; omega
  have B4 : Hid (Below n w w4) := B3.out.trans (hal.mono (by omega))
  have P4 := Lib.hid (P3.out.below hal)
  have Q4 := Lib.hid (Q3.out.below hal)
  have R4 := Lib.hid (R3.out.below hal)
  have M4 : Hid (MaxAt w4) := M3.out.below hal
  have C4 := Lib.hid ((hal.block n (by omega)).trans C3.out)
  have E4 := Lib.hid (E3.out.all hal)
  have hbd : b < d := by omega
  rw [hw4, hds]
  clear hal hw4 hds B3 P3 Q3 R3 M3 C3 E3 hb3
  have k0 := Lib.cell_of_heap C4.out 0
  have k1 := Lib.cell_of_heap C4.out 1
  go_wp2_with fail
  refine (SH.out w4).mono ?_
  rintro e w5 ⟨rfl, hb⟩
  have B5 : Hid (Below n w w5) := B4.out.trans (hb.mono (by omega))
  have P5 := Lib.hid (P4.out.below hb)
  have Q5 := Lib.hid (Q4.out.below hb)
  have R5 := Lib.hid (R4.out.below hb)
  have M5 : Hid (MaxAt w5) := M4.out.below hb
  have C5 := Lib.hid ((hb.block n (by omega)).trans C4.out)
  have E5 := Lib.hid (E4.out.all hb)
  have F5 := Lib.hid (F4.out.all hb)
  have hd5 : d < w5.heap.size := by have := hb.size; omega
  clear hb SH B4 P4 Q4 R4 M4 C4 E4 F4 k0 k1 hd4
  have OUT : Hid (∀ w6, Below w5.heap.size w5 w6 → Below w.heap.size w w6) := fun w6 h6 => by rw [HN.out]; exact B5.out.trans (h6.mono (by omega))
  cases z with
  | false =>
    go_wp2_with fail
    refine (AL.out _ M5.out).mono ?_
    rintro e w6 ⟨rfl, hb6⟩
    have B6 := Lib.hid (OUT.out _ hb6)
    go_wp2
    go_ret
    exact ⟨rfl, B6.out⟩
  | true =>
    rcases HK.out.2 with hk | ⟨rfl, rfl, hrt⟩
    · have hk1 : (k == 1) = false := by simpa using hk
      have hk2 : (k != 1) = true := by simpa using hk
      have hk3 : ¬ k = 1 := hk
      clear hk
      go_wp2_with fail
      refine (AL.out _ M5.out).mono ?_
      rintro e w6 ⟨rfl, hb6⟩
      have B6 := Lib.hid (OUT.out _ hb6)
      go_wp2
      go_ret
      exact ⟨rfl, B6.out⟩
    · have hok : OkS ((P : Int), (i : Int), m, L, ex, al) := InTab.ok ⟨i, hi, rfl, hrt⟩
      have hq := HZ.out
      simp only [Bool.and_eq_true, decide_eq_true_eq] at hq
      have h1 := hok.m
      have h2 := hok.ex
      have h3 := hok.len
      have h4 := hok.up
      have h5 := hok.places
      simp only at h1 h2 h3 h4 h5
      obtain ⟨x, hx⟩ : ∃ z, valV m L ex s (canL (opc s) I) = z := ⟨_, rfl⟩
      obtain ⟨y, hy⟩ : ∃ z, hasV m L ex s (canL (opc s) I) = z := ⟨_, rfl⟩
      have VL := fun w' p1 p2 => svalues_any (P : Int) o m (by omega) h4 A1 c1 v L HV.out (by have := HV.out; omega) ex (by omega) al s A cap l I HI.out (by omega) w' p1 p2
      have FT := fun w' p1 p2 => sfits_any (P : Int) o m (by omega) h4 A1 c1 v L HV.out (by have := HV.out; omega) ex (by omega) al s A cap l I HI.out (by omega) w' p1 p2
      have RV := fun w' p1 p2 => rvalues_any (P : Int) o m A2 c2 v L HV.out (by have := HV.out; omega) ex (by omega) al s A cap l I HI.out (by omega) w' p1 p2
      have RF := fun w' p1 p2 => rfits10_any (P : Int) o m A2 c2 v L HV.out (by have := HV.out; omega) ex (by omega) al s A cap l I HI.out (by omega) w' p1 p2
      rw [← val_same h5, hx] at RV
      rw [← has_fits h5, hy] at RF
      rw [hx] at VL
      rw [hy] at FT
      unfold RetVals at RV
      unfold enV at VL FT RV RF
      obtain ⟨x1, x2⟩ := x
      simp only at VL RV
      have VL := Lib.hid VL
      have FT := Lib.hid FT
      have RV := Lib.hid RV
      have RF := Lib.hid RF
      clear h1 h2 h3 h4 h5 hx hy hok hq hrt OUT
      obtain ⟨e0, e1, e2, e3, e4, e5, e6⟩ := E5.out.cells
      have k0 := Lib.cell_of_heap C5.out 0
      have k1 := Lib.cell_of_heap C5.out 1
      go_wp2_with fail
      refine (VL.out w5 Q5.out P5.out).mono ?_
      rintro e w6 ⟨rfl, hb⟩
      have B6 : Hid (Below n w w6) := B5.out.trans (hb.mono (by omega))
      have P6 := Lib.hid (P5.out.below hb)
      have Q6 := Lib.hid (Q5.out.below hb)
      have R6 := Lib.hid (R5.out.below hb)
      have M6 : Hid (MaxAt w6) := M5.out.below hb
      have C6 := Lib.hid ((hb.block n (by omega)).trans C5.out)
      have E6 := Lib.hid (E5.out.all hb)
      have F6 := Lib.hid (F5.out.all hb)
      have hd6 : d < w6.heap.size := by have := hb.size; omega
      clear hb VL B5 P5 Q5 R5 M5 C5 E5 F5 k0 k1 e0 e1 e2 e3 e4 e5 e6 hd5
      obtain ⟨e0, e1, e2, e3, e4, e5, e6⟩ := F6.out.cells
      have k0 := Lib.cell_of_heap C6.out 0
      have k1 := Lib.cell_of_heap C6.out 1
      go_wp2_with fail
      refine (RV.out w6 R6.out P6.out).mono ?_
      rintro e w7 ⟨rfl, hb⟩
      have B7 : Hid (Below n w w7) := B6.out.trans (hb.mono (by omega))
      have P7 := Lib.hid (P6.out.below hb)
      have Q7 := Lib.hid (Q6.out.below hb)
      have R7 := Lib.hid (R6.out.below hb)
      have M7 : Hid (MaxAt w7) := M6.out.below hb
      have C7 := Lib.hid ((hb.block n (by omega)).trans C6.out)
      have E7 := Lib.hid (E6.out.all hb)
      have F7 := Lib.hid (F6.out.all hb)
      have hd7 : d < w7.heap.size := by have := hb.size; omega
      clear hb RV B6 P6 Q6 R6 M6 C6 E6 F6 k0 k1 e0 e1 e2 e3 e4 e5 e6 hd6
      go_upto_region 7 with fail
      obtain ⟨w8, hw8⟩ : ∃ z, w7.drew = z := ⟨_, rfl⟩
      have hb : Below w7.heap.size w7 w8 := by rw [← hw8]; exact below_drewN _ _ 1
      have B8 : Hid (Below n w w8) := B7.out.trans (hb.mono (by omega))
      have P8 := Lib.hid (P7.out.below hb)
      have Q8 := Lib.hid (Q7.out.below hb)
      have R8 := Lib.hid (R7.out.below hb)
      have M8 : Hid (MaxAt w8) := M7.out.below hb
      have C8 := Lib.hid ((hb.block n (by omega)).trans C7.out)
      have E8 := Lib.hid (E7.out.all hb)
      have F8 := Lib.hid (F7.out.all hb)
      have hd8 : d < w8.heap.size := by have := hb.size; omega
      clear hb B7 P7 Q7 R7 M7 C7 E7 F7 hd7
      have KC : Hid (∀ wx, EnAt wx b (P : Int) o m (.slice A1 v c1) ex al → RnAt wx d (P : Int) o m (.slice A2 v c2) ex al → wx.heap[n]? = some (.cells #[.string s, .slice A l cap] 24 (0, 0)) → wx.cell? ⟨b, 0, none⟩ = some (.int .i64 (P : Int)) ∧ wx.cell? ⟨b, 1, none⟩ = some (.int .u8 o) ∧ wx.cell? ⟨b, 2, none⟩ = some (.string (sB m)) ∧ wx.cell? ⟨b, 3, none⟩ = some (.slice A1 v c1) ∧ wx.cell? ⟨b, 4, none⟩ = some (.string (sB ex)) ∧ wx.cell? ⟨b, 5, none⟩ = some (.bool al) ∧ wx.cell? ⟨d, 0, none⟩ = some (.int .i64 (P : Int)) ∧ wx.cell? ⟨d, 1, none⟩ = some (.int .u8 o) ∧ wx.cell? ⟨d, 2, none⟩ = some (.string (sB m)) ∧ wx.cell? ⟨d, 3, none⟩ = some (.slice A2 v c2) ∧ wx.cell? ⟨d, 4, none⟩ = some (.string (sB ex)) ∧ wx.cell? ⟨d, 5, none⟩ = some (.bool al) ∧ wx.cell? ⟨n, 0, none⟩ = some (.string s) ∧ wx.cell? ⟨n, 1, none⟩ = some (.slice A l cap)) := fun wx he hf hc => ⟨he.cells.1, he.cells.2.1, he.cells.2.2.1, he.cells.2.2.2.1, he.cells.2.2.2.2.1, he.cells.2.2.2.2.2.1, hf.cells.1, hf.cells.2.1, hf.cells.2.2.1, hf.cells.2.2.2.1, hf.cells.2.2.2.2.1, hf.cells.2.2.2.2.2.1, Lib.cell_of_heap hc 0, Lib.cell_of_heap hc 1⟩
      have K8 := Lib.hid (KC.out _ E8.out F8.out C8.out)
      refine Mixed.wp_region_mixed (fun wx => wx.cell? ⟨b, 0, none⟩ = some (.int .i64 (P : Int)) ∧ wx.cell? ⟨b, 1, none⟩ = some (.int .u8 o) ∧ wx.cell? ⟨b, 2, none⟩ = some (.string (sB m)) ∧ wx.cell? ⟨b, 3, none⟩ = some (.slice A1 v c1) ∧ wx.cell? ⟨b, 4, none⟩ = some (.string (sB ex)) ∧ wx.cell? ⟨b, 5, none⟩ = some (.bool al) ∧ wx.cell? ⟨d, 0, none⟩ = some (.int .i64 (P : Int)) ∧ wx.cell? ⟨d, 1, none⟩ = some (.int .u8 o) ∧ wx.cell? ⟨d, 2, none⟩ = some (.string (sB m)) ∧ wx.cell? ⟨d, 3, none⟩ = some (.slice A2 v c2) ∧ wx.cell? ⟨d, 4, none⟩ = some (.string (sB ex)) ∧ wx.cell? ⟨d, 5, none⟩ = some (.bool al) ∧ wx.cell? ⟨n, 0, none⟩ = some (.string s) ∧ wx.cell? ⟨n, 1, none⟩ = some (.slice A l cap)) 20 [(0, false), (1, true), (2, true), (3, true), (5, true), (6, true), (4, false), (7, false), (8, true), (9, true), (10, true), (11, true), (12, true), (13, true), (14, true), (15, true), (16, true), (17, true), (18, true), (19, true)] (by kernel_rfl) (by kernel_rfl) (by rw [hw8]; exact K8.out) ?_
      rw [hw8]
      clear hw8 K8
      refine Mixed.wpMix_loudG rfl (by kernel_rfl) ?_
      go_wp2_with fail
      refine (AL.out _ M8.out).mono ?_
      rintro e w9 ⟨rfl, hb⟩
      have B9 : Hid (Below n w w9) := B8.out.trans (hb.mono (by omega))
      have P9 := Lib.hid (P8.out.below hb)
      have Q9 := Lib.hid (Q8.out.below hb)
      have R9 := Lib.hid (R8.out.below hb)
      have M9 : Hid (MaxAt w9) := M8.out.below hb
      have C9 := Lib.hid ((hb.block n (by omega)).trans C8.out)
      have E9 := Lib.hid (E8.out.all hb)
      have F9 := Lib.hid (F8.out.all hb)
      have hd9 : d < w9.heap.size := by have := hb.size; omega
      clear hb B8 P8 Q8 R8 M8 C8 E8 F8 hd8
      have xx := KC.out _ E9.out F9.out C9.out
      go_wp2
      refine ⟨xx, ?_⟩
      clear xx
      refine Mixed.wpMix_pure rfl (by kernel_rfl) (.bool true) (fun w h => by go_simp; try rfl) ?_
      refine Mixed.wpMix_pure rfl (by kernel_rfl) (.agg #[.int .i64 (P : Int), .int .u8 o, .string (sB m), .slice A1 v c1, .string (sB ex), .bool al]) (fun w h => by obtain ⟨h1, h2, h3, h4, h5, h6, h7, h8, h9, h10, h11, h12, h13, h14⟩ := h; go_simp; try rfl) ?_
      refine Mixed.wpMix_pure rfl (by kernel_rfl) (.agg #[.string s, .slice A l cap]) (fun w h => by obtain ⟨h1, h2, h3, h4, h5, h6, h7, h8, h9, h10, h11, h12, h13, h14⟩ := h; go_simp; try rfl) ?_
      simp only [Act.put, List.setIfInBounds_toArray, List.set_cons_zero, List.set_cons_succ]
      refine Mixed.wpMix_pure rfl (by kernel_rfl) (.agg #[.int .i64 (P : Int), .int .u8 o, .string (sB m), .slice A2 v c2, .string (sB ex), .bool al]) (fun w h => by obtain ⟨h1, h2, h3, h4, h5, h6, h7, h8, h9, h10, h11, h12, h13, h14⟩ := h; go_simp; try rfl) ?_
      refine Mixed.wpMix_pure rfl (by kernel_rfl) (.agg #[.string s, .slice A l cap]) (fun w h => by obtain ⟨h1, h2, h3, h4, h5, h6, h7, h8, h9, h10, h11, h12, h13, h14⟩ := h; go_simp; try rfl) ?_
      simp only [Act.put, List.setIfInBounds_toArray, List.set_cons_zero, List.set_cons_succ]
      refine Mixed.wpMix_loudG rfl (by kernel_rfl) ?_
      go_wp2_with fail
      refine (FT.out w9 Q9.out P9.out).mono ?_
      rintro e w10 ⟨rfl, hb⟩
      have B10 : Hid (Below n w w10) := B9.out.trans (hb.mono (by omega))
      have P10 := Lib.hid (P9.out.below hb)
      have Q10 := Lib.hid (Q9.out.below hb)
      have R10 := Lib.hid (R9.out.below hb)
      have M10 : Hid (MaxAt w10) := M9.out.below hb
      have C10 := Lib.hid ((hb.block n (by omega)).trans C9.out)
      have E10 := Lib.hid (E9.out.all hb)
      have F10 := Lib.hid (F9.out.all hb)
      have hd10 : d < w10.heap.size := by have := hb.size; omega
      clear hb B9 P9 Q9 R9 M9 C9 E9 F9 hd9
      have xx := KC.out _ E10.out F10.out C10.out
      go_wp2
      refine ⟨xx, ?_⟩
      clear xx
      refine Mixed.wpMix_loudG rfl (by kernel_rfl) ?_
      go_wp2_with fail
      refine (RF.out w10 R10.out P10.out).mono ?_
      rintro e w11 ⟨rfl, hb⟩
      have B11 : Hid (Below n w w11) := B10.out.trans (hb.mono (by omega))
      have P11 := Lib.hid (P10.out.below hb)
      have Q11 := Lib.hid (Q10.out.below hb)
      have R11 := Lib.hid (R10.out.below hb)
      have M11 : Hid (MaxAt w11) := M10.out.below hb
      have C11 := Lib.hid ((hb.block n (by omega)).trans C10.out)
      have E11 := Lib.hid (E10.out.all hb)
      have F11 := Lib.hid (F10.out.all hb)
      have hd11 : d < w11.heap.size := by have := hb.size; omega
      clear hb B10 P10 Q10 R10 M10 C10 E10 F10 hd10
      have xx := KC.out _ E11.out F11.out C11.out
      go_wp2
      refine ⟨xx, ?_⟩
      clear xx
      have YY : (y == y) = true := beq_self_eq_true _
      refine Mixed.wpMix_pure rfl (by kernel_rfl) (.bool true) (fun w h => by go_simp; try rfl) ?_
      refine Mixed.wpMix_pure rfl (by kernel_rfl) (.bool true) (fun w h => by go_simp; try rfl) ?_
      refine Mixed.wpMix_pure rfl (by kernel_rfl) (.bool true) (fun w h => by go_simp; try rfl) ?_
      simp only [Act.put, List.setIfInBounds_toArray, List.set_cons_zero, List.set_cons_succ]
      refine Mixed.wpMix_pure rfl (by kernel_rfl) (.int .i64 x1) (fun w h => by go_simp; try rfl) ?_
      refine Mixed.wpMix_pure rfl (by kernel_rfl) (.int .i64 x1) (fun w h => by go_simp; try rfl) ?_
      refine Mixed.wpMix_pure rfl (by kernel_rfl) (.bool true) (fun w h => by go_simp; try rfl) ?_
      simp only [Act.put, List.setIfInBounds_toArray, List.set_cons_zero, List.set_cons_succ]
      refine Mixed.wpMix_pure rfl (by kernel_rfl) (.bool true) (fun w h => by go_simp; try rfl) ?_
      refine Mixed.wpMix_pure rfl (by kernel_rfl) (.bool true) (fun w h => by go_simp; try rfl) ?_
      simp only [Act.put, List.setIfInBounds_toArray, List.set_cons_zero, List.set_cons_succ]
      refine Mixed.wpMix_pure rfl (by kernel_rfl) (.int .i64 x2) (fun w h => by go_simp; try rfl) ?_
      refine Mixed.wpMix_pure rfl (by kernel_rfl) (.int .i64 x2) (fun w h => by go_simp; try rfl) ?_
      refine Mixed.wpMix_pure rfl (by kernel_rfl) (.bool true) (fun w h => by go_simp; try rfl) ?_
      simp only [Act.put, List.setIfInBounds_toArray, List.set_cons_zero, List.set_cons_succ]
      refine Mixed.wpMix_pure rfl (by kernel_rfl) (.bool true) (fun w h => by go_simp; try rfl) ?_
      simp only [Mixed.wpMix, List.drop_succ_cons, List.drop_zero]
      go_wp2
      go_ret
      exact ⟨rfl, by rw [HN.out]; exact B11.out⟩
end Go.Proofs.YtbbpkoaeedkncaaGreatDoor
