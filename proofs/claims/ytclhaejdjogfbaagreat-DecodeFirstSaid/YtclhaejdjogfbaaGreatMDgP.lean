/-
  DecodeFirst: the walk over the law.
-/
import Derived.Test.YtclhaejdjogfbaaGreatGAU
import Derived.Test.YtclhaejdjogfbaaGreatGAV
import Derived.Test.YtclhaejdjogfbaaGreatMDfE
import Derived.Test.YtclhaejdjogfbaaGreatGAQ
import Derived.Test.YtclhaejdjogfbaaGreatGAR
set_option linter.all false
set_option maxRecDepth 100000
set_option maxHeartbeats 4000000
namespace Go.Proofs.YtclhaejdjogfbaaGreat
open Go.RowKit Go.Shelf
attribute [local go_sem] Oper.semAt_some
attribute [local irreducible] Go.Mixed.wpMix
theorem walkDF (A : Option Addr) (cap : Nat) (b : Str) (w : World) (H : BytesAt w A b) (hc : b.length ≤ cap ∧ cap ≤ maxLen) (hM : MaxAt w) :
    Calls Tryz.prog 3 #[.slice A b.length cap] w fun e w' => e = .returned (.bool true) ∧ Below w.heap.size w w' := by
  obtain ⟨l, hl⟩ : ∃ z, b.length = z := ⟨_, rfl⟩
  rw [hl] at hc ⊢
  have HL := Lib.hid hl
  have AL := Lib.hid (fun w' (h : Below w.heap.size w w') => alive12_any w' (hM.below h))
  have UP : Hid (∀ {wa wb : World}, Below wa.heap.size wa wb → Below w.heap.size w wa → Below w.heap.size w wb) := fun h1 h2 => h2.trans (h1.mono h2.size)
  by_cases hbig : 1000 < l
  · have t1 : ((l : Int) > 1000) := by omega
    have A0 := AL.out w (Below.refl _ _)
    clear H hM hl hc HL
    go_enter Tryz.func3, Tryz.ntmps3
    go_wp2_with fail
    refine A0.mono ?_
    rintro e w1 ⟨rfl, hb⟩
    have B1 := Lib.hid hb
    clear A0 hb
    go_wp2
    go_ret
    exact ⟨rfl, B1.out⟩
  have t1 : ¬ ((l : Int) > 1000) := by omega
  have IN := dinst_any b A cap l hl hc.1 hc.2 (by omega) w H hM
  have FI := Lib.hid (fun w' (h : Below w.heap.size w w') => dfirst_any b A cap l hl hc.1 hc.2 (by omega) w' (H.below h) (hM.below h))
  have NE := Lib.hid (fun w' (h : Below w.heap.size w w') => dneed_any b A cap l hl hc.1 hc.2 (by omega) w' (H.below h) (hM.below h))
  by_cases hb : b = []
  · have HP : itP b = ⟨0, [], [], [], false⟩ := if_pos hb
    have hN : needR b = 1 := by rw [hb]; rfl
    have hI : isB b = false := by unfold isB; rw [HP]; rfl
    rw [HP] at FI
    rw [hN] at NE
    unfold RetIn at IN
    rw [hI] at IN
    obtain rfl : l = 0 := by rw [← hl, hb]; rfl
    clear H hM hl hc HL hbig hb HP hN hI
    go_enter Tryz.func3, Tryz.ntmps3
    go_wp2_with fail
    refine IN.mono ?_
    rintro e w1 ⟨m, C, B, c, rfl, hT, hb, -, -⟩
    have B1 := Lib.hid hb
    obtain ⟨y2, w2, hy2, hw2, S2, yy2, z2⟩ := Fr.box (Fr.nil w1) #[.string (sB m), .slice B C.length c] 26
    have B2 := Lib.hid (UP.out yy2 B1.out)
    have A2 := AL.out w2 B2.out
    clear IN hT hb S2 yy2 B1
    go_wp2_with fail
    refine A2.mono ?_
    rintro e w3 ⟨rfl, hb⟩
    have B3 := Lib.hid (UP.out hb B2.out)
    have F3 := FI.out w3 B3.out
    clear A2 hb B2 FI
    go_wp2_with fail
    refine F3.mono ?_
    rintro e w4 ⟨A4, c4, D4, d4, rfl, hO, hT, hb⟩
    have B4 := Lib.hid (UP.out hb B3.out)
    have SM := rsame12_any 0 0 [] [] [] [] false false A4 none D4 none c4 0 d4 0 [] [] (by decide) (by decide) w4 hO.bytesP (.inl rfl) hT.opsP (.inl rfl)
    simp only [decide_true, Bool.and_self, beq_self_eq_true, List.length_nil] at SM ⊢
    clear F3 hb B3 hO hT
    go_wp2_with fail
    refine SM.mono ?_
    rintro e w5 ⟨rfl, hb⟩
    have B5 := Lib.hid (UP.out hb B4.out)
    have N5 := NE.out w5 B5.out
    clear SM hb B4 NE
    go_wp2_with fail
    refine N5.mono ?_
    rintro e w6 ⟨rfl, hb⟩
    have B6 := Lib.hid (UP.out hb B5.out)
    clear N5 hb B5
    go_wp2
    go_ret
    exact ⟨rfl, B6.out⟩
  have HP := itP_ne hb
  rw [HP] at FI
  have t2 : ((l : Int) == 0) = false := by
    refine beq_eq_false_iff_ne.2 (fun e => hb ?_)
    exact List.length_eq_zero_iff.1 (by omega)
  have RF := Lib.hid (fun w' (h : Below w.heap.size w w') => rfirst12_any b hb A cap l hl hc.1 hc.2 (by omega) w' (H.below h))
  have RN := Lib.hid (fun w' (h : Below w.heap.size w w') => rneed12_any b hb A cap l hl hc.1 hc.2 (by omega) w' (H.below h))
  have hC := itC_le b
  have HI : isB b = (decide ((itR b).kind = 1) && decide ((itR b).raw.length = l)) := by unfold isB; rw [HP, hl]
  unfold RetIn at IN
  rw [HP] at IN
  obtain ⟨x, hx⟩ : ∃ z, itR b = z := ⟨_, rfl⟩
  rw [hx] at RF FI IN hC HI
  obtain ⟨nn, hnn⟩ : ∃ z, needR b = z := ⟨_, rfl⟩
  rw [hnn] at NE RN
  obtain ⟨kd, hkd⟩ : ∃ z, x.kind = z := ⟨_, rfl⟩
  obtain ⟨rl, hrl⟩ : ∃ z, x.raw.length = z := ⟨_, rfl⟩
  have HKD := Lib.hid hkd
  have HRL := Lib.hid hrl
  rw [hkd, hrl] at HI
  have hcase : (isB b = true ∧ kd = 1 ∧ rl = l) ∨ (isB b = false ∧ (¬ (kd = 1) ∨ (kd = 1 ∧ ¬ (rl = l)))) := by
    rw [HI]
    by_cases h1 : kd = 1
    · by_cases h2 : rl = l
      · exact .inl ⟨by rw [decide_eq_true h1, decide_eq_true h2]; rfl, h1, h2⟩
      · exact .inr ⟨by rw [decide_eq_false h2, Bool.and_false], .inr ⟨h1, h2⟩⟩
    · exact .inr ⟨by rw [decide_eq_false h1, Bool.false_and], .inl h1⟩
  clear H hM hl hc HL hbig hb HP hx hnn hkd hrl HI
  rcases hcase with ⟨hI, rfl, h2⟩ | ⟨hI, hn⟩
  · have h3 := h2.symm
    subst h3
    clear h2
    rw [hI] at IN
    clear hI
    go_enter Tryz.func3, Tryz.ntmps3
    go_wp2_with fail
    refine IN.mono ?_
    rintro e w1 ⟨m, C, B, c, rfl, hT, hb, hY, hN⟩
    obtain ⟨rfl, rfl⟩ : m = x.m ∧ C = x.C := by first | exact hY rfl | exact hY trivial
    have B1 := Lib.hid hb
    obtain ⟨y2, w2, hy2, hw2, S2, yy2, z2⟩ := Fr.box (Fr.nil w1) #[.string (sB x.m), .slice B x.C.length c] 26
    have J2 : Hid (w2.heap[y2]? = some (.cells #[.string (sB x.m), .slice B x.C.length c] 26 (0, 0))) := S2.out.1
    have OP2 := Lib.hid ((hT.opsP).below yy2)
    have B2 := Lib.hid (UP.out yy2 B1.out)
    have C2 := RF.out w2 B2.out
    clear IN hT hb S2 yy2 B1 hY hN RF
    go_wp2_with fail
    refine C2.mono ?_
    rintro e w3 ⟨A3, c3, D3, d3, rfl, hO, hT, hb⟩
    obtain ⟨y4, w4, hy4, hw4, S4, yy4, z4⟩ := Fr.box (Fr.nil w3) #[.int .i64 x.kind, .slice A3 x.raw.length c3, .string (sB x.m), .slice D3 x.C.length d3, .bool x.al] 31
    have I4 : Hid (ItAt w4 y4 x.kind (.slice A3 x.raw.length c3) (sB x.m) (.slice D3 x.C.length d3) x.al) := S4.out.1
    have J2 : Hid (w4.heap[y2]? = some (.cells #[.string (sB x.m), .slice B x.C.length c] 26 (0, 0))) := (yy4.block y2 (by have := (Array.getElem?_eq_some_iff.1 J2.out).1; have := hb.size; omega)).trans ((hb.block y2 (Array.getElem?_eq_some_iff.1 J2.out).1).trans J2.out)
    have BA := Lib.hid ((hO.bytesP).below yy4)
    have OP4 := Lib.hid ((hT.opsP).below yy4)
    have OP2 := Lib.hid ((OP2.out.below hb).below yy4)
    have B4 := Lib.hid (UP.out yy4 (UP.out hb B2.out))
    obtain ⟨j0, j1, j2, j3, j4, j5⟩ := I4.out.cells
    rw [HKD.out] at j0
    rw [HRL.out] at j1
    clear C2 hb hO hT S4 yy4 B2
    go_upto_region 8 with fail
    obtain ⟨w5, hw5⟩ : ∃ z, w4.drew = z := ⟨_, rfl⟩
    have hb : Below w4.heap.size w4 w5 := by rw [← hw5]; exact below_drewN w4 _ 1
    have I := I4
    have J := J2
    have WB := B4
    have I := Lib.hid (I.out.all hb)
    have J : Hid (w5.heap[y2]? = some (.cells #[.string (sB x.m), .slice B x.C.length c] 26 (0, 0))) := (hb.block y2 (Array.getElem?_eq_some_iff.1 J.out).1).trans J.out
    have BA := Lib.hid (BA.out.below hb)
    have OP4 := Lib.hid (OP4.out.below hb)
    have OP2 := Lib.hid (OP2.out.below hb)
    have WB := Lib.hid (UP.out hb WB.out)
    clear hb I4 J2 B4 j0 j1 j2 j3 j4 j5
    refine Mixed.wp_region_mixed (fun w' => ItAt w' y4 x.kind (.slice A3 x.raw.length c3) (sB x.m) (.slice D3 x.C.length d3) x.al ∧ w'.heap[y2]? = some (.cells #[.string (sB x.m), .slice B x.C.length c] 26 (0, 0))) 37
      [(0, false), (1, true), (2, true), (4, true), (3, false), (5, false), (6, true), (7, true), (8, true), (10, true), (9, false), (11, false), (12, true), (13, true), (14, true), (15, true), (16, true), (17, true), (18, true), (19, true), (20, true), (21, true), (22, true), (23, true), (24, true), (25, false), (26, true), (27, true), (28, true), (29, true), (30, true), (31, true), (32, true), (33, false), (34, true), (35, true), (36, true)] (by kernel_rfl) (by kernel_rfl) (by rw [hw5]; exact ⟨I.out, J.out⟩) ?_
    rw [hw5]
    clear hw5
    refine Mixed.wpMix_loudG rfl (by kernel_rfl) ?_
    have K := AL.out w5 WB.out
    go_wp2_with fail
    refine K.mono ?_
    rintro e w6 ⟨rfl, hb⟩
    have I := Lib.hid (I.out.all hb)
    have J : Hid (w6.heap[y2]? = some (.cells #[.string (sB x.m), .slice B x.C.length c] 26 (0, 0))) := (hb.block y2 (Array.getElem?_eq_some_iff.1 J.out).1).trans J.out
    have BA := Lib.hid (BA.out.below hb)
    have OP4 := Lib.hid (OP4.out.below hb)
    have OP2 := Lib.hid (OP2.out.below hb)
    have WB := Lib.hid (UP.out hb WB.out)
    clear K hb AL
    go_wp2
    refine ⟨⟨I.out, J.out⟩, ?_⟩
    refine Mixed.mp rfl (.bool true) ?_
    refine Mixed.mp rfl (.slice A l cap) ?_
    refine Mixed.mo rfl (.agg #[.int .i64 x.kind, .slice A3 x.raw.length c3, .string (sB x.m), .slice D3 x.C.length d3, .bool x.al]) (fun w h => by obtain ⟨h0, h1, h2, h3, h4, h5⟩ := h.1.cells; clear h; go_simp; try rfl) ?_
    refine Mixed.wpMix_loudG rfl (by kernel_rfl) ?_
    have K := FI.out w6 WB.out
    go_wp2_with fail
    refine K.mono ?_
    rintro e w7 ⟨A7, c7, D7, d7, rfl, hO, hT, hb⟩
    have Q1 := Lib.hid hO.bytesP
    have Q2 := Lib.hid hT.opsP
    have I := Lib.hid (I.out.all hb)
    have J : Hid (w7.heap[y2]? = some (.cells #[.string (sB x.m), .slice B x.C.length c] 26 (0, 0))) := (hb.block y2 (Array.getElem?_eq_some_iff.1 J.out).1).trans J.out
    have BA := Lib.hid (BA.out.below hb)
    have OP4 := Lib.hid (OP4.out.below hb)
    have OP2 := Lib.hid (OP2.out.below hb)
    have WB := Lib.hid (UP.out hb WB.out)
    clear K hb hO hT FI
    go_wp2
    refine ⟨⟨I.out, J.out⟩, ?_⟩
    refine Mixed.wpMix_loudG rfl (by kernel_rfl) ?_
    have K := rsame12_any x.kind x.kind x.raw x.raw x.m x.m x.al x.al A7 A3 D7 D3 c7 c3 d7 d3 x.C x.C (by omega) (by omega) w7 Q1.out BA.out Q2.out OP4.out
    simp only [decide_true, Bool.and_self, beq_self_eq_true] at K
    go_wp2_with fail
    refine K.mono ?_
    rintro e w8 ⟨rfl, hb⟩
    have I := Lib.hid (I.out.all hb)
    have J : Hid (w8.heap[y2]? = some (.cells #[.string (sB x.m), .slice B x.C.length c] 26 (0, 0))) := (hb.block y2 (Array.getElem?_eq_some_iff.1 J.out).1).trans J.out
    have BA := Lib.hid (BA.out.below hb)
    have OP4 := Lib.hid (OP4.out.below hb)
    have OP2 := Lib.hid (OP2.out.below hb)
    have WB := Lib.hid (UP.out hb WB.out)
    clear K hb Q1 Q2
    go_wp2
    refine ⟨⟨I.out, J.out⟩, ?_⟩
    refine Mixed.mp rfl (.bool true) ?_
    refine Mixed.mp rfl (.bool true) ?_
    refine Mixed.mp rfl (.slice A l cap) ?_
    refine Mixed.mp rfl (.slice A l cap) ?_
    refine Mixed.wpMix_loudG rfl (by kernel_rfl) ?_
    have K := NE.out w8 WB.out
    go_wp2_with fail
    refine K.mono ?_
    rintro e w9 ⟨rfl, hb⟩
    have I := Lib.hid (I.out.all hb)
    have J : Hid (w9.heap[y2]? = some (.cells #[.string (sB x.m), .slice B x.C.length c] 26 (0, 0))) := (hb.block y2 (Array.getElem?_eq_some_iff.1 J.out).1).trans J.out
    have BA := Lib.hid (BA.out.below hb)
    have OP4 := Lib.hid (OP4.out.below hb)
    have OP2 := Lib.hid (OP2.out.below hb)
    have WB := Lib.hid (UP.out hb WB.out)
    clear K hb NE
    go_wp2
    refine ⟨⟨I.out, J.out⟩, ?_⟩
    refine Mixed.wpMix_loudG rfl (by kernel_rfl) ?_
    have K := RN.out w9 WB.out
    go_wp2_with fail
    refine K.mono ?_
    rintro e w10 ⟨rfl, hb⟩
    have I := Lib.hid (I.out.all hb)
    have J : Hid (w10.heap[y2]? = some (.cells #[.string (sB x.m), .slice B x.C.length c] 26 (0, 0))) := (hb.block y2 (Array.getElem?_eq_some_iff.1 J.out).1).trans J.out
    have BA := Lib.hid (BA.out.below hb)
    have OP4 := Lib.hid (OP4.out.below hb)
    have OP2 := Lib.hid (OP2.out.below hb)
    have WB := Lib.hid (UP.out hb WB.out)
    clear K hb RN
    go_wp2
    refine ⟨⟨I.out, J.out⟩, ?_⟩
    refine Mixed.mo rfl (.bool true) (fun w h => by clear h; go_simp; try rfl) ?_
    refine Mixed.mp rfl (.bool true) ?_
    refine Mixed.mp rfl (.bool true) ?_
    refine Mixed.mp rfl (.bool true) ?_
    refine Mixed.mp rfl (.bool true) ?_
    refine Mixed.mo rfl (.bool true) (fun w h => by clear h; go_simp; try rfl) ?_
    refine Mixed.mp rfl (.bool true) ?_
    refine Mixed.mp rfl (.bool true) ?_
    refine Mixed.mp rfl (.bool true) ?_
    refine Mixed.mp rfl (.bool true) ?_
    refine Mixed.mo rfl (.agg #[.string (sB x.m), .slice B x.C.length c]) (fun w h => by obtain ⟨h0, h1⟩ := Fr.cells2 h.2; clear h; go_simp; try rfl) ?_
    refine Mixed.mp rfl (.pointer (some ⟨y4, 2, none⟩)) ?_
    refine Mixed.mo rfl (.agg #[.string (sB x.m), .slice D3 x.C.length d3]) (fun w h => by obtain ⟨h0, h1, h2, h3, h4, h5⟩ := h.1.cells; clear h; go_simp; try rfl) ?_
    refine Mixed.wpMix_loudG rfl (by kernel_rfl) ?_
    have K := rsame_any x.m x.m B D3 c d3 x.C x.C (by omega) (by omega) w10 OP2.out OP4.out
    simp only [decide_true, Bool.and_self] at K
    go_wp2_with fail
    refine K.mono ?_
    rintro e w11 ⟨rfl, hb⟩
    have I := Lib.hid (I.out.all hb)
    have J : Hid (w11.heap[y2]? = some (.cells #[.string (sB x.m), .slice B x.C.length c] 26 (0, 0))) := (hb.block y2 (Array.getElem?_eq_some_iff.1 J.out).1).trans J.out
    have BA := Lib.hid (BA.out.below hb)
    have OP4 := Lib.hid (OP4.out.below hb)
    have OP2 := Lib.hid (OP2.out.below hb)
    have WB := Lib.hid (UP.out hb WB.out)
    clear K hb
    go_wp2
    refine ⟨⟨I.out, J.out⟩, ?_⟩
    refine Mixed.mp rfl (.bool true) ?_
    refine Mixed.mp rfl (.bool true) ?_
    refine Mixed.ms rfl ?_
    refine Mixed.ms rfl ?_
    refine Mixed.ms rfl ?_
    refine Mixed.ms rfl ?_
    refine Mixed.ms rfl ?_
    refine Mixed.wpMix_skipL rfl (by kernel_rfl) ⟨I.out, J.out⟩ ?_
    refine Mixed.ms rfl ?_
    refine Mixed.mp rfl (.bool true) ?_
    refine Mixed.mp rfl (.bool true) ?_
    simp only [Mixed.wpMix, List.drop_succ_cons, List.drop_zero]
    go_wp2
    go_ret
    exact ⟨rfl, WB.out⟩
  · rw [hI] at IN
    clear hI
    go_enter Tryz.func3, Tryz.ntmps3
    go_wp2_with fail
    refine IN.mono ?_
    rintro e w1 ⟨m, C, B, c, rfl, hT, hb, hY, hN⟩
    obtain ⟨rfl, rfl⟩ : m = [] ∧ C = [] := by first | exact hN rfl | exact hN trivial
    have B1 := Lib.hid hb
    obtain ⟨y2, w2, hy2, hw2, S2, yy2, z2⟩ := Fr.box (Fr.nil w1) #[.string (sB []), .slice B 0 c] 26
    have J2 : Hid (w2.heap[y2]? = some (.cells #[.string (sB []), .slice B 0 c] 26 (0, 0))) := S2.out.1
    have OP2 := Lib.hid ((hT.opsP).below yy2)
    have B2 := Lib.hid (UP.out yy2 B1.out)
    have C2 := RF.out w2 B2.out
    clear IN hT hb S2 yy2 B1 hY hN RF
    go_wp2_with fail
    refine C2.mono ?_
    rintro e w3 ⟨A3, c3, D3, d3, rfl, hO, hT, hb⟩
    obtain ⟨y4, w4, hy4, hw4, S4, yy4, z4⟩ := Fr.box (Fr.nil w3) #[.int .i64 x.kind, .slice A3 x.raw.length c3, .string (sB x.m), .slice D3 x.C.length d3, .bool x.al] 31
    have I4 : Hid (ItAt w4 y4 x.kind (.slice A3 x.raw.length c3) (sB x.m) (.slice D3 x.C.length d3) x.al) := S4.out.1
    have J2 : Hid (w4.heap[y2]? = some (.cells #[.string (sB []), .slice B 0 c] 26 (0, 0))) := (yy4.block y2 (by have := (Array.getElem?_eq_some_iff.1 J2.out).1; have := hb.size; omega)).trans ((hb.block y2 (Array.getElem?_eq_some_iff.1 J2.out).1).trans J2.out)
    have BA := Lib.hid ((hO.bytesP).below yy4)
    have OP4 := Lib.hid ((hT.opsP).below yy4)
    have OP2 := Lib.hid ((OP2.out.below hb).below yy4)
    have B4 := Lib.hid (UP.out yy4 (UP.out hb B2.out))
    obtain ⟨j0, j1, j2, j3, j4, j5⟩ := I4.out.cells
    rw [HKD.out] at j0
    rw [HRL.out] at j1
    clear C2 hb hO hT S4 yy4 B2
    rcases hn with h1 | ⟨rfl, h2⟩
    · have q1 : (kd == 1) = false := beq_eq_false_iff_ne.2 h1
      go_upto_region 8 with fail
      obtain ⟨w5, hw5⟩ : ∃ z, w4.drew = z := ⟨_, rfl⟩
      have hb : Below w4.heap.size w4 w5 := by rw [← hw5]; exact below_drewN w4 _ 1
      have I := I4
      have J := J2
      have WB := B4
      have I := Lib.hid (I.out.all hb)
      have J : Hid (w5.heap[y2]? = some (.cells #[.string (sB []), .slice B 0 c] 26 (0, 0))) := (hb.block y2 (Array.getElem?_eq_some_iff.1 J.out).1).trans J.out
      have BA := Lib.hid (BA.out.below hb)
      have OP4 := Lib.hid (OP4.out.below hb)
      have OP2 := Lib.hid (OP2.out.below hb)
      have WB := Lib.hid (UP.out hb WB.out)
      clear hb I4 J2 B4 j0 j1 j2 j3 j4 j5
      refine Mixed.wp_region_mixed (fun w' => ItAt w' y4 x.kind (.slice A3 x.raw.length c3) (sB x.m) (.slice D3 x.C.length d3) x.al ∧ w'.heap[y2]? = some (.cells #[.string (sB []), .slice B 0 c] 26 (0, 0))) 37
        [(0, false), (1, true), (2, true), (4, true), (3, false), (5, false), (6, true), (7, true), (8, true), (10, true), (9, false), (11, false), (12, true), (13, true), (14, true), (15, true), (16, true), (17, true), (18, true), (19, true), (20, true), (21, true), (22, true), (23, true), (24, true), (25, false), (26, true), (27, true), (28, true), (29, true), (30, true), (31, true), (32, true), (33, false), (34, true), (35, true), (36, true)] (by kernel_rfl) (by kernel_rfl) (by rw [hw5]; exact ⟨I.out, J.out⟩) ?_
      rw [hw5]
      clear hw5
      refine Mixed.wpMix_loudG rfl (by kernel_rfl) ?_
      have K := AL.out w5 WB.out
      go_wp2_with fail
      refine K.mono ?_
      rintro e w6 ⟨rfl, hb⟩
      have I := Lib.hid (I.out.all hb)
      have J : Hid (w6.heap[y2]? = some (.cells #[.string (sB []), .slice B 0 c] 26 (0, 0))) := (hb.block y2 (Array.getElem?_eq_some_iff.1 J.out).1).trans J.out
      have BA := Lib.hid (BA.out.below hb)
      have OP4 := Lib.hid (OP4.out.below hb)
      have OP2 := Lib.hid (OP2.out.below hb)
      have WB := Lib.hid (UP.out hb WB.out)
      clear K hb AL
      go_wp2
      refine ⟨⟨I.out, J.out⟩, ?_⟩
      refine Mixed.mp rfl (.bool true) ?_
      refine Mixed.mp rfl (.slice A l cap) ?_
      refine Mixed.mo rfl (.agg #[.int .i64 x.kind, .slice A3 x.raw.length c3, .string (sB x.m), .slice D3 x.C.length d3, .bool x.al]) (fun w h => by obtain ⟨h0, h1, h2, h3, h4, h5⟩ := h.1.cells; clear h; go_simp; try rfl) ?_
      refine Mixed.wpMix_loudG rfl (by kernel_rfl) ?_
      have K := FI.out w6 WB.out
      go_wp2_with fail
      refine K.mono ?_
      rintro e w7 ⟨A7, c7, D7, d7, rfl, hO, hT, hb⟩
      have Q1 := Lib.hid hO.bytesP
      have Q2 := Lib.hid hT.opsP
      have I := Lib.hid (I.out.all hb)
      have J : Hid (w7.heap[y2]? = some (.cells #[.string (sB []), .slice B 0 c] 26 (0, 0))) := (hb.block y2 (Array.getElem?_eq_some_iff.1 J.out).1).trans J.out
      have BA := Lib.hid (BA.out.below hb)
      have OP4 := Lib.hid (OP4.out.below hb)
      have OP2 := Lib.hid (OP2.out.below hb)
      have WB := Lib.hid (UP.out hb WB.out)
      clear K hb hO hT FI
      go_wp2
      refine ⟨⟨I.out, J.out⟩, ?_⟩
      refine Mixed.wpMix_loudG rfl (by kernel_rfl) ?_
      have K := rsame12_any x.kind x.kind x.raw x.raw x.m x.m x.al x.al A7 A3 D7 D3 c7 c3 d7 d3 x.C x.C (by omega) (by omega) w7 Q1.out BA.out Q2.out OP4.out
      simp only [decide_true, Bool.and_self, beq_self_eq_true] at K
      go_wp2_with fail
      refine K.mono ?_
      rintro e w8 ⟨rfl, hb⟩
      have I := Lib.hid (I.out.all hb)
      have J : Hid (w8.heap[y2]? = some (.cells #[.string (sB []), .slice B 0 c] 26 (0, 0))) := (hb.block y2 (Array.getElem?_eq_some_iff.1 J.out).1).trans J.out
      have BA := Lib.hid (BA.out.below hb)
      have OP4 := Lib.hid (OP4.out.below hb)
      have OP2 := Lib.hid (OP2.out.below hb)
      have WB := Lib.hid (UP.out hb WB.out)
      clear K hb Q1 Q2
      go_wp2
      refine ⟨⟨I.out, J.out⟩, ?_⟩
      refine Mixed.mp rfl (.bool true) ?_
      refine Mixed.mp rfl (.bool true) ?_
      refine Mixed.mp rfl (.slice A l cap) ?_
      refine Mixed.mp rfl (.slice A l cap) ?_
      refine Mixed.wpMix_loudG rfl (by kernel_rfl) ?_
      have K := NE.out w8 WB.out
      go_wp2_with fail
      refine K.mono ?_
      rintro e w9 ⟨rfl, hb⟩
      have I := Lib.hid (I.out.all hb)
      have J : Hid (w9.heap[y2]? = some (.cells #[.string (sB []), .slice B 0 c] 26 (0, 0))) := (hb.block y2 (Array.getElem?_eq_some_iff.1 J.out).1).trans J.out
      have BA := Lib.hid (BA.out.below hb)
      have OP4 := Lib.hid (OP4.out.below hb)
      have OP2 := Lib.hid (OP2.out.below hb)
      have WB := Lib.hid (UP.out hb WB.out)
      clear K hb NE
      go_wp2
      refine ⟨⟨I.out, J.out⟩, ?_⟩
      refine Mixed.wpMix_loudG rfl (by kernel_rfl) ?_
      have K := RN.out w9 WB.out
      go_wp2_with fail
      refine K.mono ?_
      rintro e w10 ⟨rfl, hb⟩
      have I := Lib.hid (I.out.all hb)
      have J : Hid (w10.heap[y2]? = some (.cells #[.string (sB []), .slice B 0 c] 26 (0, 0))) := (hb.block y2 (Array.getElem?_eq_some_iff.1 J.out).1).trans J.out
      have BA := Lib.hid (BA.out.below hb)
      have OP4 := Lib.hid (OP4.out.below hb)
      have OP2 := Lib.hid (OP2.out.below hb)
      have WB := Lib.hid (UP.out hb WB.out)
      clear K hb RN
      go_wp2
      refine ⟨⟨I.out, J.out⟩, ?_⟩
      refine Mixed.mo rfl (.bool true) (fun w h => by clear h; go_simp; try rfl) ?_
      refine Mixed.mp rfl (.bool true) ?_
      refine Mixed.mp rfl (.bool true) ?_
      refine Mixed.mp rfl (.bool false) ?_
      refine Mixed.mp rfl (.bool false) ?_
      refine Mixed.mo rfl (.bool true) (fun w h => by clear h; go_simp; try rfl) ?_
      refine Mixed.mp rfl (.bool true) ?_
      refine Mixed.mp rfl (.bool true) ?_
      refine Mixed.mp rfl (.bool false) ?_
      refine Mixed.mp rfl (.bool false) ?_
      refine Mixed.ms rfl ?_
      refine Mixed.ms rfl ?_
      refine Mixed.ms rfl ?_
      refine Mixed.wpMix_skipL rfl (by kernel_rfl) ⟨I.out, J.out⟩ ?_
      refine Mixed.mp rfl (.bool false) ?_
      refine Mixed.mp rfl (.bool false) ?_
      refine Mixed.mp rfl (.bool false) ?_
      refine Mixed.mp rfl (.bool true) ?_
      refine Mixed.mp rfl (.bool true) ?_
      refine Mixed.mo rfl (.agg #[.string (sB []), .slice B 0 c]) (fun w h => by obtain ⟨h0, h1⟩ := Fr.cells2 h.2; clear h; go_simp; try rfl) ?_
      refine Mixed.mp rfl (.agg #[.string ⟨#[]⟩, .slice none 0 0]) ?_
      refine Mixed.wpMix_loudG rfl (by kernel_rfl) ?_
      have K := rsame_any [] [] B none c 0 [] [] (by decide) (by decide) w10 OP2.out (.inl rfl)
      simp only [decide_true, Bool.and_self] at K
      go_wp2_with fail
      refine K.mono ?_
      rintro e w11 ⟨rfl, hb⟩
      have I := Lib.hid (I.out.all hb)
      have J : Hid (w11.heap[y2]? = some (.cells #[.string (sB []), .slice B 0 c] 26 (0, 0))) := (hb.block y2 (Array.getElem?_eq_some_iff.1 J.out).1).trans J.out
      have BA := Lib.hid (BA.out.below hb)
      have OP4 := Lib.hid (OP4.out.below hb)
      have OP2 := Lib.hid (OP2.out.below hb)
      have WB := Lib.hid (UP.out hb WB.out)
      clear K hb
      go_wp2
      refine ⟨⟨I.out, J.out⟩, ?_⟩
      refine Mixed.mp rfl (.bool true) ?_
      refine Mixed.mp rfl (.bool true) ?_
      refine Mixed.mp rfl (.bool true) ?_
      simp only [Mixed.wpMix, List.drop_succ_cons, List.drop_zero]
      go_wp2
      go_ret
      exact ⟨rfl, WB.out⟩
    · have q1 : ((1 : Int) == 1) = true := rfl
      have q2 : ((rl : Int) == (l : Int)) = false := beq_eq_false_iff_ne.2 (fun e => h2 (by omega))
      go_upto_region 8 with fail
      obtain ⟨w5, hw5⟩ : ∃ z, w4.drew = z := ⟨_, rfl⟩
      have hb : Below w4.heap.size w4 w5 := by rw [← hw5]; exact below_drewN w4 _ 1
      have I := I4
      have J := J2
      have WB := B4
      have I := Lib.hid (I.out.all hb)
      have J : Hid (w5.heap[y2]? = some (.cells #[.string (sB []), .slice B 0 c] 26 (0, 0))) := (hb.block y2 (Array.getElem?_eq_some_iff.1 J.out).1).trans J.out
      have BA := Lib.hid (BA.out.below hb)
      have OP4 := Lib.hid (OP4.out.below hb)
      have OP2 := Lib.hid (OP2.out.below hb)
      have WB := Lib.hid (UP.out hb WB.out)
      clear hb I4 J2 B4 j0 j1 j2 j3 j4 j5
      refine Mixed.wp_region_mixed (fun w' => ItAt w' y4 x.kind (.slice A3 x.raw.length c3) (sB x.m) (.slice D3 x.C.length d3) x.al ∧ w'.heap[y2]? = some (.cells #[.string (sB []), .slice B 0 c] 26 (0, 0))) 37
        [(0, false), (1, true), (2, true), (4, true), (3, false), (5, false), (6, true), (7, true), (8, true), (10, true), (9, false), (11, false), (12, true), (13, true), (14, true), (15, true), (16, true), (17, true), (18, true), (19, true), (20, true), (21, true), (22, true), (23, true), (24, true), (25, false), (26, true), (27, true), (28, true), (29, true), (30, true), (31, true), (32, true), (33, false), (34, true), (35, true), (36, true)] (by kernel_rfl) (by kernel_rfl) (by rw [hw5]; exact ⟨I.out, J.out⟩) ?_
      rw [hw5]
      clear hw5
      refine Mixed.wpMix_loudG rfl (by kernel_rfl) ?_
      have K := AL.out w5 WB.out
      go_wp2_with fail
      refine K.mono ?_
      rintro e w6 ⟨rfl, hb⟩
      have I := Lib.hid (I.out.all hb)
      have J : Hid (w6.heap[y2]? = some (.cells #[.string (sB []), .slice B 0 c] 26 (0, 0))) := (hb.block y2 (Array.getElem?_eq_some_iff.1 J.out).1).trans J.out
      have BA := Lib.hid (BA.out.below hb)
      have OP4 := Lib.hid (OP4.out.below hb)
      have OP2 := Lib.hid (OP2.out.below hb)
      have WB := Lib.hid (UP.out hb WB.out)
      clear K hb AL
      go_wp2
      refine ⟨⟨I.out, J.out⟩, ?_⟩
      refine Mixed.mp rfl (.bool true) ?_
      refine Mixed.mp rfl (.slice A l cap) ?_
      refine Mixed.mo rfl (.agg #[.int .i64 x.kind, .slice A3 x.raw.length c3, .string (sB x.m), .slice D3 x.C.length d3, .bool x.al]) (fun w h => by obtain ⟨h0, h1, h2, h3, h4, h5⟩ := h.1.cells; clear h; go_simp; try rfl) ?_
      refine Mixed.wpMix_loudG rfl (by kernel_rfl) ?_
      have K := FI.out w6 WB.out
      go_wp2_with fail
      refine K.mono ?_
      rintro e w7 ⟨A7, c7, D7, d7, rfl, hO, hT, hb⟩
      have Q1 := Lib.hid hO.bytesP
      have Q2 := Lib.hid hT.opsP
      have I := Lib.hid (I.out.all hb)
      have J : Hid (w7.heap[y2]? = some (.cells #[.string (sB []), .slice B 0 c] 26 (0, 0))) := (hb.block y2 (Array.getElem?_eq_some_iff.1 J.out).1).trans J.out
      have BA := Lib.hid (BA.out.below hb)
      have OP4 := Lib.hid (OP4.out.below hb)
      have OP2 := Lib.hid (OP2.out.below hb)
      have WB := Lib.hid (UP.out hb WB.out)
      clear K hb hO hT FI
      go_wp2
      refine ⟨⟨I.out, J.out⟩, ?_⟩
      refine Mixed.wpMix_loudG rfl (by kernel_rfl) ?_
      have K := rsame12_any x.kind x.kind x.raw x.raw x.m x.m x.al x.al A7 A3 D7 D3 c7 c3 d7 d3 x.C x.C (by omega) (by omega) w7 Q1.out BA.out Q2.out OP4.out
      simp only [decide_true, Bool.and_self, beq_self_eq_true] at K
      go_wp2_with fail
      refine K.mono ?_
      rintro e w8 ⟨rfl, hb⟩
      have I := Lib.hid (I.out.all hb)
      have J : Hid (w8.heap[y2]? = some (.cells #[.string (sB []), .slice B 0 c] 26 (0, 0))) := (hb.block y2 (Array.getElem?_eq_some_iff.1 J.out).1).trans J.out
      have BA := Lib.hid (BA.out.below hb)
      have OP4 := Lib.hid (OP4.out.below hb)
      have OP2 := Lib.hid (OP2.out.below hb)
      have WB := Lib.hid (UP.out hb WB.out)
      clear K hb Q1 Q2
      go_wp2
      refine ⟨⟨I.out, J.out⟩, ?_⟩
      refine Mixed.mp rfl (.bool true) ?_
      refine Mixed.mp rfl (.bool true) ?_
      refine Mixed.mp rfl (.slice A l cap) ?_
      refine Mixed.mp rfl (.slice A l cap) ?_
      refine Mixed.wpMix_loudG rfl (by kernel_rfl) ?_
      have K := NE.out w8 WB.out
      go_wp2_with fail
      refine K.mono ?_
      rintro e w9 ⟨rfl, hb⟩
      have I := Lib.hid (I.out.all hb)
      have J : Hid (w9.heap[y2]? = some (.cells #[.string (sB []), .slice B 0 c] 26 (0, 0))) := (hb.block y2 (Array.getElem?_eq_some_iff.1 J.out).1).trans J.out
      have BA := Lib.hid (BA.out.below hb)
      have OP4 := Lib.hid (OP4.out.below hb)
      have OP2 := Lib.hid (OP2.out.below hb)
      have WB := Lib.hid (UP.out hb WB.out)
      clear K hb NE
      go_wp2
      refine ⟨⟨I.out, J.out⟩, ?_⟩
      refine Mixed.wpMix_loudG rfl (by kernel_rfl) ?_
      have K := RN.out w9 WB.out
      go_wp2_with fail
      refine K.mono ?_
      rintro e w10 ⟨rfl, hb⟩
      have I := Lib.hid (I.out.all hb)
      have J : Hid (w10.heap[y2]? = some (.cells #[.string (sB []), .slice B 0 c] 26 (0, 0))) := (hb.block y2 (Array.getElem?_eq_some_iff.1 J.out).1).trans J.out
      have BA := Lib.hid (BA.out.below hb)
      have OP4 := Lib.hid (OP4.out.below hb)
      have OP2 := Lib.hid (OP2.out.below hb)
      have WB := Lib.hid (UP.out hb WB.out)
      clear K hb RN
      go_wp2
      refine ⟨⟨I.out, J.out⟩, ?_⟩
      refine Mixed.mo rfl (.bool true) (fun w h => by clear h; go_simp; try rfl) ?_
      refine Mixed.mp rfl (.bool true) ?_
      refine Mixed.mp rfl (.bool true) ?_
      refine Mixed.mp rfl (.bool false) ?_
      refine Mixed.mp rfl (.bool false) ?_
      refine Mixed.mo rfl (.bool true) (fun w h => by clear h; go_simp; try rfl) ?_
      refine Mixed.mp rfl (.bool true) ?_
      refine Mixed.mp rfl (.bool true) ?_
      refine Mixed.mp rfl (.bool false) ?_
      refine Mixed.mp rfl (.bool false) ?_
      refine Mixed.ms rfl ?_
      refine Mixed.ms rfl ?_
      refine Mixed.ms rfl ?_
      refine Mixed.wpMix_skipL rfl (by kernel_rfl) ⟨I.out, J.out⟩ ?_
      refine Mixed.mp rfl (.bool false) ?_
      refine Mixed.mp rfl (.bool false) ?_
      refine Mixed.mp rfl (.bool false) ?_
      refine Mixed.mp rfl (.bool true) ?_
      refine Mixed.mp rfl (.bool true) ?_
      refine Mixed.mo rfl (.agg #[.string (sB []), .slice B 0 c]) (fun w h => by obtain ⟨h0, h1⟩ := Fr.cells2 h.2; clear h; go_simp; try rfl) ?_
      refine Mixed.mp rfl (.agg #[.string ⟨#[]⟩, .slice none 0 0]) ?_
      refine Mixed.wpMix_loudG rfl (by kernel_rfl) ?_
      have K := rsame_any [] [] B none c 0 [] [] (by decide) (by decide) w10 OP2.out (.inl rfl)
      simp only [decide_true, Bool.and_self] at K
      go_wp2_with fail
      refine K.mono ?_
      rintro e w11 ⟨rfl, hb⟩
      have I := Lib.hid (I.out.all hb)
      have J : Hid (w11.heap[y2]? = some (.cells #[.string (sB []), .slice B 0 c] 26 (0, 0))) := (hb.block y2 (Array.getElem?_eq_some_iff.1 J.out).1).trans J.out
      have BA := Lib.hid (BA.out.below hb)
      have OP4 := Lib.hid (OP4.out.below hb)
      have OP2 := Lib.hid (OP2.out.below hb)
      have WB := Lib.hid (UP.out hb WB.out)
      clear K hb
      go_wp2
      refine ⟨⟨I.out, J.out⟩, ?_⟩
      refine Mixed.mp rfl (.bool true) ?_
      refine Mixed.mp rfl (.bool true) ?_
      refine Mixed.mp rfl (.bool true) ?_
      simp only [Mixed.wpMix, List.drop_succ_cons, List.drop_zero]
      go_wp2
      go_ret
      exact ⟨rfl, WB.out⟩
end Go.Proofs.YtclhaejdjogfbaaGreat
