/-
  The walks over instr.Same, canon.Is and the law's example.
-/
import Derived.Test.YtbmgfkbgfgknbaaCnO
namespace Go.Proofs.Ytbmgfkbgfgknbaa
open Go.RowKit
set_option linter.unusedVariables false
attribute [local irreducible] Go.Mixed.wpMix

set_option maxRecDepth 100000 in
set_option maxHeartbeats 4000000 in
theorem isame_any (s : ByteArray) (A1 A2 : Option Addr) (c1 c2 : Nat) (L1 L2 : List Tr) (h1 : L1.length ≤ 1000) (h2 : L2.length ≤ 1000) (w : World) (H1 : OpsP w A1 L1) (H2 : OpsP w A2 L2) :
    Calls Try.prog 9 #[.agg #[.string s, .slice A1 L1.length c1], .agg #[.string s, .slice A2 L2.length c2]] w fun e w' => e = .returned (.bool (decide (L1 = L2))) ∧ Below w.heap.size w w' := by
  have hq := strB_eq s
  have hal : Below w.heap.size w ((w.alloc (.cells #[.string s, .slice A1 L1.length c1] 24)).alloc (.cells #[.string s, .slice A2 L2.length c2] 24)) := ((Below.refl _ _).alloc (Nat.le_refl _) _).alloc (by simp) _
  have EQ := Lib.hid (equalO_any A1 A2 c1 c2 L1 L2 (by unfold maxLen; omega) (by unfold maxLen; omega) _ (H1.below hal) (H2.below hal))
  have B0 := Lib.hid hal
  obtain ⟨n1, hn1⟩ : ∃ n, L1.length = n := ⟨_, rfl⟩
  obtain ⟨n2, hn2⟩ : ∃ n, L2.length = n := ⟨_, rfl⟩
  obtain ⟨b, hb⟩ : ∃ b, decide (L1 = L2) = b := ⟨_, rfl⟩
  rw [hn1, hn2, hb] at EQ
  rw [hn1, hn2] at B0
  rw [hn1, hn2, hb]
  clear H1 H2 hal hn1 hn2 hb
  go_enter Try.func9, Try.ntmps9
  go_wp2_with fail
  refine EQ.out.mono ?_
  rintro e w1 ⟨rfl, hb⟩
  have B1 := Lib.hid (B0.out.trans (hb.mono B0.out.size))
  clear hb
  go_wp2
  go_ret
  exact ⟨rfl, B1.out⟩
set_option maxRecDepth 100000 in
set_option maxHeartbeats 4000000 in
theorem is_any (s : ByteArray) (A : Option Addr) (cap : Nat) (L : List Tr) (hL : L.length ≤ 900) (w : World) (H : OpsP w A L) :
    Calls Try.prog 8 #[.agg #[.string s, .slice A L.length cap]] w fun e w' => e = .returned (.bool (decide (L = canL (opc s) L))) ∧ Below w.heap.size w w' := by
  have hl2 := canL_len (opc s) L
  have OF := Lib.hid (of_any s A cap L hL)
  have SM := Lib.hid (fun A2 c2 (w' : World) h1 h2 => isame_any s A A2 cap c2 L (canL (opc s) L) (by omega) (by omega) w' h1 h2)
  obtain ⟨M, hM⟩ : ∃ M, canL (opc s) L = M := ⟨_, rfl⟩
  rw [hM] at OF SM ⊢
  obtain ⟨n, hn⟩ : ∃ n, L.length = n := ⟨_, rfl⟩
  obtain ⟨b, hb⟩ : ∃ b, decide (L = M) = b := ⟨_, rfl⟩
  rw [hn] at OF
  rw [hn, hb] at SM
  rw [hn, hb]
  have T0 := Lib.hid (Bx.new w s A n cap 24)
  have B0 : Hid (Below w.heap.size w (w.alloc (.cells #[.string s, .slice A n cap] 24))) := (Below.refl _ _).alloc (Nat.le_refl _) _
  have X0 := Lib.hid (H.below B0.out)
  clear H hM hn hb hL hl2
  go_enter Try.func8, Try.ntmps8
  go_wp2
  refine Mixed.wp_region_mixed (fun w' => Bx w' w.heap.size s A n cap) 4 [(0, true), (1, true), (2, false), (3, false)] (by kernel_rfl) (by kernel_rfl) T0.out ?_
  refine Mixed.wpMix_pure rfl (by kernel_rfl) (.agg #[.string s, .slice A n cap]) (fun w h => by obtain ⟨h1, h2⟩ := h; go_simp; try rfl) ?_
  refine Mixed.wpMix_pure rfl (by kernel_rfl) (.agg #[.string s, .slice A n cap]) (fun w h => by obtain ⟨h1, h2⟩ := h; go_simp; try rfl) ?_
  refine Mixed.wpMix_loudG rfl (by kernel_rfl) ?_
  go_wp2_with fail
  refine (OF.out _ (X0.out.below (below_drewN _ _ 1))).mono ?_
  rintro e w1 ⟨v, rfl, hO, hb⟩
  obtain ⟨A2, c2, rfl, hP, -⟩ := hO.ops
  have hb' := (below_drewN _ _ 1).trans hb
  have T1 := Lib.hid (T0.out.all hb')
  have X1 := Lib.hid (X0.out.below hb')
  have B1 := Lib.hid (B0.out.trans (hb'.mono (by simp)))
  have P1 := Lib.hid hP
  have xx := T1.out
  clear hb hb' hO hP OF T0 X0 B0
  go_wp2
  refine ⟨xx, ?_⟩
  clear xx
  refine Mixed.wpMix_loudG rfl (by kernel_rfl) ?_
  go_wp2_with fail
  refine (SM.out A2 c2 _ X1.out P1.out).mono ?_
  rintro e w2 ⟨rfl, hb⟩
  have T2 := Lib.hid (T1.out.all hb)
  have B2 := Lib.hid (B1.out.trans (hb.mono B1.out.size))
  have xx := T2.out
  clear hb SM T1 X1 P1 B1
  go_wp2
  refine ⟨xx, ?_⟩
  clear xx
  simp only [Mixed.wpMix, List.drop_succ_cons, List.drop_zero]
  go_wp2
  go_ret
  exact ⟨rfl, B2.out⟩
theorem ex_up : upB ⟨#[83, 85, 66]⟩ = ⟨#[83, 85, 66]⟩ := ByteArray.ext (by decide +kernel)
theorem ex_opc : opc ⟨#[83, 85, 66]⟩ = 1 := by decide +kernel
theorem ex_can1 : canL 1 [(1, 7, 0), (6, 0, -1)] = [(6, 0, 255)] := by decide +kernel
theorem ex_can2 : canL 1 [(6, 0, 255)] = [(6, 0, 255)] := by decide +kernel
theorem ops_one (w : World) (x : Tr) : OpsP (w.alloc (.cells #[.int .i64 x.1, .int .i64 x.2.1, .int .i64 x.2.2] 33)) (some ⟨w.heap.size, 0, none⟩) [x] := by
  refine .inr ⟨_, 0, rfl, fun j hj => ?_⟩
  have : j = 0 := by simp at hj; omega
  subst this
  exact ⟨by simp [go_sem], by simp [go_sem], by simp [go_sem]⟩
set_option maxRecDepth 100000 in
set_option maxHeartbeats 4000000 in
theorem alive_any (w : World) : Calls Try.prog 6 #[] w fun e w' => e = .returned (.bool true) ∧ Below w.heap.size w w' := by
  have B0 : Hid (Below w.heap.size w (w.alloc (.cells #[.int .i64 1, .int .i64 7, .int .i64 0, .int .i64 6, .int .i64 0, .int .i64 (-1)] 33))) := (Below.refl _ _).alloc (Nat.le_refl _) _
  have MK1 := Lib.hid (make_any ⟨#[83, 85, 66]⟩ (by decide) (some ⟨w.heap.size, 0, none⟩) 2 [(1, 7, 0), (6, 0, -1)] (by decide) _ (ops_two w (1, 7, 0) (6, 0, -1)))
  have MK2 := fun (w' : World) => Lib.hid (make_any ⟨#[83, 85, 66]⟩ (by decide) (some ⟨w'.heap.size, 0, none⟩) 1 [(6, 0, 255)] (by decide) _ (ops_one w' (6, 0, 255)))
  have OF := Lib.hid (fun A cap (w' : World) h => of_any ⟨#[83, 85, 66]⟩ A cap [(1, 7, 0), (6, 0, -1)] (by decide) w' h)
  have IS : Hid (∀ A cap (w' : World), OpsP w' A [(6, 0, 255)] → Calls Try.prog 8 #[.agg #[.string ⟨#[83, 85, 66]⟩, .slice A 1 cap]] w' fun e w2 => e = .returned (.bool true) ∧ Below w'.heap.size w' w2) := fun A cap w' h => by
    have h1 := is_any ⟨#[83, 85, 66]⟩ A cap [(6, 0, 255)] (by decide) w' h
    rw [ex_opc, ex_can2, decide_eq_true rfl] at h1
    exact h1
  have SM : Hid (∀ A1 A2 c1 c2 (w' : World), OpsP w' A1 [(6, 0, 255)] → OpsP w' A2 [(6, 0, 255)] → Calls Try.prog 9 #[.agg #[.string ⟨#[83, 85, 66]⟩, .slice A1 1 c1], .agg #[.string ⟨#[83, 85, 66]⟩, .slice A2 1 c2]] w' fun e w2 => e = .returned (.bool true) ∧ Below w'.heap.size w' w2) := fun A1 A2 c1 c2 w' h1 h2 => by
    have h3 := isame_any ⟨#[83, 85, 66]⟩ A1 A2 c1 c2 [(6, 0, 255)] [(6, 0, 255)] (by decide) (by decide) w' h1 h2
    rw [decide_eq_true rfl] at h3
    exact h3
  rw [ex_up] at MK1
  simp only [ex_up] at MK2
  simp only [ex_opc, ex_can1] at OF
  go_enter Try.func6, Try.ntmps6
  go_wp2_with fail
  refine MK1.out.mono ?_
  rintro e w1 ⟨v, rfl, hO, hb⟩
  obtain ⟨A, cap, rfl, hP, -⟩ := hO.ops
  have B1 := Lib.hid (B0.out.trans (hb.mono B0.out.size))
  have P1 := Lib.hid hP
  clear MK1 B0 hO hP hb
  go_wp2_with fail
  refine (OF.out A cap _ P1.out).mono ?_
  rintro e w2 ⟨v, rfl, hO, hb⟩
  obtain ⟨A2, cap2, rfl, hP, -⟩ := hO.ops
  have B2 := Lib.hid (B1.out.trans (hb.mono B1.out.size))
  have hal : ∀ o, Below w2.heap.size w2 (w2.alloc o) := fun o => (Below.refl _ _).alloc (Nat.le_refl _) o
  have P3 := fun o => Lib.hid (hP.below (hal o))
  have B3 := fun o => Lib.hid (B2.out.trans ((hal o).mono B2.out.size))
  have T3 := Lib.hid (Bx.new w2 ⟨#[83, 85, 66]⟩ A2 1 cap2 24)
  clear OF P1 B1 hO hP hb hal B2
  go_wp2
  obtain ⟨w3, hw3⟩ : ∃ w3, w2.alloc (.cells #[.string ⟨#[83, 85, 66]⟩, .slice A2 1 cap2] 24) = w3 := ⟨_, rfl⟩
  have P3 := P3 (.cells #[.string ⟨#[83, 85, 66]⟩, .slice A2 1 cap2] 24)
  have B3 := B3 (.cells #[.string ⟨#[83, 85, 66]⟩, .slice A2 1 cap2] 24)
  have T3 : Hid (Bx w3 w2.heap.size ⟨#[83, 85, 66]⟩ A2 1 cap2) := by rw [← hw3]; exact T3.out
  rw [hw3] at P3 B3 ⊢
  clear hw3
  refine Mixed.wp_region_mixed (fun w' => Bx w' w2.heap.size ⟨#[83, 85, 66]⟩ A2 1 cap2) 9 [(0, true), (1, true), (2, false), (3, false), (4, false), (5, true), (6, true), (7, false), (8, true)] (by kernel_rfl) (by kernel_rfl) T3.out ?_
  refine Mixed.wpMix_pure rfl (by kernel_rfl) (.agg #[.string ⟨#[83, 85, 66]⟩, .slice A2 1 cap2]) (fun w h => by obtain ⟨h1, h2⟩ := h; go_simp; try rfl) ?_
  refine Mixed.wpMix_pure rfl (by kernel_rfl) (.agg #[.int .i64 6, .int .i64 0, .int .i64 255]) (fun w h => by clear h; go_simp; try rfl) ?_
  have hd3 := below_drewN w3 w3.heap.size 1
  obtain ⟨w4, hw4⟩ : ∃ w4, w3.drew = w4 := ⟨_, rfl⟩
  have hd4 : Below w3.heap.size w3 w4 := by rw [← hw4]; exact hd3
  rw [hw4]
  have T4 := fun o => Lib.hid ((T3.out.all hd4).all ((Below.refl w4.heap.size w4).alloc (Nat.le_refl _) o))
  have P4 := fun o => Lib.hid ((P3.out.below hd4).below ((Below.refl w4.heap.size w4).alloc (Nat.le_refl _) o))
  have B4 := fun o => Lib.hid ((B3.out.trans (hd4.mono B3.out.size)).alloc (Nat.le_trans B3.out.size hd4.size) o)
  have MK4 := MK2 w4
  have xx := fun o => (T4 o).out
  clear hd3 hw4 hd4 MK2 P3 B3 T3
  refine Mixed.wpMix_loudG rfl (by kernel_rfl) ?_
  go_wp2
  refine ⟨xx _, ?_⟩
  clear xx
  refine Mixed.wpMix_loudG rfl (by kernel_rfl) ?_
  go_wp2_with fail
  refine MK4.out.mono ?_
  rintro e w5 ⟨v, rfl, hO, hb⟩
  obtain ⟨A5, cap5, rfl, hP, -⟩ := hO.ops
  have T5 := Lib.hid ((T4 _).out.all hb)
  have P5 := Lib.hid ((P4 _).out.below hb)
  have B5 := Lib.hid ((B4 _).out.trans (hb.mono (B4 _).out.size))
  have Q5 := Lib.hid hP
  have xx := T5.out
  clear MK4 hO hP hb T4 P4 B4
  go_wp2
  refine ⟨xx, ?_⟩
  clear xx
  refine Mixed.wpMix_loudG rfl (by kernel_rfl) ?_
  go_wp2_with fail
  refine (SM.out A2 A5 cap2 cap5 _ P5.out Q5.out).mono ?_
  rintro e w6 ⟨rfl, hb⟩
  have T6 := Lib.hid (T5.out.all hb)
  have P6 := Lib.hid (P5.out.below hb)
  have B6 := Lib.hid (B5.out.trans (hb.mono B5.out.size))
  have xx := T6.out
  clear SM hb T5 P5 B5 Q5
  go_wp2
  refine ⟨xx, ?_⟩
  clear xx
  refine Mixed.wpMix_move rfl (by kernel_rfl) _ rfl _ rfl ?_
  refine Mixed.wpMix_pure rfl (by kernel_rfl) (.agg #[.string ⟨#[83, 85, 66]⟩, .slice A2 1 cap2]) (fun w h => by obtain ⟨h1, h2⟩ := h; go_simp; try rfl) ?_
  refine Mixed.wpMix_loudG rfl (by kernel_rfl) ?_
  go_wp2_with fail
  refine (IS.out A2 cap2 _ P6.out).mono ?_
  rintro e w7 ⟨rfl, hb⟩
  have T7 := Lib.hid (T6.out.all hb)
  have B7 := Lib.hid (B6.out.trans (hb.mono B6.out.size))
  have xx := T7.out
  clear IS hb T6 P6 B6
  go_wp2
  refine ⟨xx, ?_⟩
  clear xx
  refine Mixed.wpMix_pure rfl (by kernel_rfl) (.bool true) (fun w h => by clear h; go_simp; try rfl) ?_
  simp only [Mixed.wpMix, List.drop_succ_cons, List.drop_zero]
  go_wp2
  go_ret
  exact ⟨rfl, B7.out⟩
end Go.Proofs.Ytbmgfkbgfgknbaa
