/-
  EqS, DgO.
-/
import Derived.Test.YtclhaejdjogfbaaGreatGAB
import Derived.Test.YtclhaejdjogfbaaGreatGAA
import Derived.Deep.QuietTactic
import Derived.BigQuiet
import Derived.Deep.DeepCutAuto
import Derived.Deep.Cut
import Derived.Test.YtclhaejdjogfbaaGreatGBA
import Derived.Test.YtclhaejdjogfbaaGreatGAV
import Derived.Test.YtclhaejdjogfbaaGreatGAR
set_option linter.all false
set_option maxRecDepth 100000
set_option maxHeartbeats 4000000
namespace Go.Proofs.YtclhaejdjogfbaaGreat
open Go.RowKit
attribute [local go_sem] Oper.semAt_some
theorem equalS_any (A1 A2 : Option Addr) (c1 c2 : Nat) (L1 L2 : List ByteArray) (h1 : L1.length ≤ maxLen) (h2 : L2.length ≤ maxLen) (w : World) (H1 : StrsA w A1 L1) (H2 : StrsA w A2 L2) :
    Calls Tryz.prog 18 #[.slice A1 L1.length c1, .slice A2 L2.length c2] w fun e w' => e = .returned (.bool (decide (L1 = L2))) ∧ Below w.heap.size w w' := by
  unfold maxLen at h1 h2
  by_cases hl : L1.length = L2.length
  · have X1 := Lib.hid H1
    have X2 := Lib.hid H2
    have HL := Lib.hid hl
    obtain ⟨n, hn⟩ : ∃ n, L1.length = n := ⟨_, rfl⟩
    have HN := Lib.hid hn
    rw [hn] at h1
    rw [← hl, hn]
    clear H1 H2 hl h2 hn
    go_enter Tryz.func18, Tryz.ntmps18
    go_wp2
    go_loopw [13] (fun i wr => ∃ j : Nat, j ≤ n ∧ i = .int .i64 j ∧ Hid (∀ k, k < j → ∀ (a : k < L1.length) (b : k < L2.length), L1[k] = L2[k]) ∧ Hid (Below w.heap.size w wr)) (fun i _ => n - (intOf i).toNat)
    case atStart => exact ⟨0, Nat.zero_le _, rfl, fun k h => by omega, Below.refl _ _⟩
    case round =>
      obtain ⟨j, hj, rfl, R, B⟩ := hrel
      by_cases hlt : j < n
      · have hj1 : j < L1.length := by have := HN.out; omega
        have hj2 : j < L2.length := by have := HL.out; omega
        obtain ⟨b1, o1, hA1, p0⟩ := (X1.out.below B.out).at_ hj1
        obtain ⟨b2, o2, hA2, q0⟩ := (X2.out.below B.out).at_ hj2
        subst hA1
        subst hA2
        have B2 := fun q => Lib.hid (B.out.trans (below_drewN wr w.heap.size q))
        by_cases he : L1[j] = L2[j]
        · have R2 : Hid (∀ k, k < j + 1 → ∀ (a : k < L1.length) (b : k < L2.length), L1[k] = L2[k]) := fun k hk a b => by
            by_cases e : k = j
            · subst e; exact he
            · exact R.out k (by omega) a b
          rw [he] at p0
          obtain ⟨x, hx⟩ : ∃ x, L2[j] = x := ⟨_, rfl⟩
          rw [hx] at p0 q0
          have q1 := strB_eq x
          clear he hx hj1 hj2 R
          go_wp2
          go_quiet (fail)
          go_wp2
          go_roundw
          case rel => exact ⟨j + 1, by omega, by go_num, R2.out, (B2 _).out⟩
          case measure => simp [intOf]; omega
        · have T : Hid (false = decide (L1 = L2)) := (decide_eq_false (fun e => he (by simp only [e]))).symm
          have q1 := strB_ne he
          obtain ⟨x, hx⟩ : ∃ x, L1[j] = x := ⟨_, rfl⟩
          obtain ⟨y, hy⟩ : ∃ y, L2[j] = y := ⟨_, rfl⟩
          rw [hx] at p0 q1
          rw [hy] at q0 q1
          clear he hx hy hj1 hj2 R
          go_wp2
          go_quiet (fail)
          go_wp2
          go_ret
          exact ⟨ret_bool T.out, (B2 _).out⟩
      · have T : Hid (true = decide (L1 = L2)) := by
          refine (decide_eq_true (List.ext_getElem HL.out fun k a b => ?_)).symm
          exact R.out k (by have := HN.out; omega) a b
        clear R
        go_wp2
        go_ret
        exact ⟨ret_bool T.out, B.out⟩
  · have T : Hid (false = decide (L1 = L2)) := (decide_eq_false (fun e => hl (by rw [e]))).symm
    have hl' : ((L1.length : Int) == (L2.length : Int)) = false := beq_eq_false_iff_ne.2 (by omega)
    have hl2 : ¬ ((L1.length : Int) = (L2.length : Int)) := by omega
    clear H1 H2
    go_enter Tryz.func18, Tryz.ntmps18
    go_wp2
    go_ret
    exact ⟨ret_bool T.out, Below.refl _ _⟩
end Go.Proofs.YtclhaejdjogfbaaGreat
namespace Go.Proofs.YtclhaejdjogfbaaGreat
open Go.RowKit Go.Shelf
attribute [local go_sem] Oper.semAt_some
attribute [local irreducible] Go.Mixed.wpMix
def OU (w : World) (g l : Nat) : Prop := ∃ cur, w.heap[g]? = some (.cells cur 5 (0, 0)) ∧ ∀ j, j < l → ∃ v : Int, 0 ≤ v ∧ v ≤ 255 ∧ cur[j]? = some (.int .u8 v)
theorem OU.cell {w : World} {g l : Nat} (h : OU w g l) {j : Nat} (hj : j < l) : ∃ v : Int, 0 ≤ v ∧ v ≤ 255 ∧ w.cell? ⟨g, j, none⟩ = some (.int .u8 v) ∧ w.frozen? ⟨g, j, none⟩ = false := by
  obtain ⟨cur, h1, h2⟩ := h
  obtain ⟨v, h3, h4, h5⟩ := h2 j hj
  exact ⟨v, h3, h4, (Lib.cell_of_heap h1 j).trans h5, Lib.frozen_of_heap h1 j⟩
theorem OU.set {w : World} {g l : Nat} (h : OU w g l) (j : Nat) (v : Int) (h0 : 0 ≤ v) (h1 : v ≤ 255) : OU (w.setCell ⟨g, j, none⟩ (.int .u8 v)) g l := by
  obtain ⟨cur, h2, h3⟩ := h
  refine ⟨_, heap_setCell_same w g j _ _ (.int .u8 v) h2, fun k hk => ?_⟩
  obtain ⟨u, u0, u1, hu⟩ := h3 k hk
  by_cases e : j = k
  · subst e
    refine ⟨v, h0, h1, ?_⟩
    have hz := (Array.getElem?_eq_some_iff.1 hu).1
    simp [hz]
  · refine ⟨u, u0, u1, ?_⟩
    rw [← hu]
    simp [Array.getElem?_setIfInBounds, e]
theorem OU.of {w : World} {n m c g : Nat} {xs : Str} (h : TOwnB w n (.slice (some ⟨g, 0, none⟩) m c) xs) : OU w g xs.length := by
  have hb := h.bytesP
  rcases h.2 with ⟨e, -⟩ | ⟨g', cap', cur, e, h2, h3, h4, h5, -, -⟩
  · simp at e
  · simp only [Value.slice.injEq, Option.some.injEq, Addr.mk.injEq] at e
    obtain ⟨⟨rfl, -⟩, -, -⟩ := e
    refine ⟨cur, h3, fun j hj => ?_⟩
    obtain ⟨g2, off, e2, hc⟩ := hb.cellAt hj
    simp only [Option.some.injEq, Addr.mk.injEq] at e2
    obtain ⟨rfl, rfl, -⟩ := e2
    rw [Nat.zero_add, Lib.cell_of_heap h3 j] at hc
    exact ⟨_, by omega, by have := (xs[j]).toNat_lt; omega, hc⟩
theorem TOwnB.dk {w w' : World} {D B : Nat} {v : Value} {xs : Str} (h : TOwnB w B v xs) (hB : D < B) (K : DK D w w') : TOwnB w' B v xs := by
  refine ⟨h.1, ?_⟩
  rcases h.2 with e | ⟨g, cap, cur, e1, e2, e3, e4⟩
  · exact .inl e
  · exact .inr ⟨g, cap, cur, e1, e2, (K.same g (Array.getElem?_eq_some_iff.1 e3).1 (by omega)).trans e3, e4⟩
theorem walkDK (A1 : Option Addr) (cap1 : Nat) (b : Str) (A2 : Option Addr) (cap2 : Nat) (c : Str) (w : World) (H1 : BytesAt w A1 b) (hc1 : b.length ≤ cap1 ∧ cap1 ≤ maxLen) (H2 : BytesAt w A2 c) (hc2 : c.length ≤ cap2 ∧ cap2 ≤ maxLen) (hM : MaxAt w) :
    Calls Tryz.prog 6 #[.slice A1 b.length cap1, .slice A2 c.length cap2] w fun e w' => e = .returned (.bool true) ∧ Below w.heap.size w w' := by
  obtain ⟨l1, hl1⟩ : ∃ z, b.length = z := ⟨_, rfl⟩
  obtain ⟨l2, hl2⟩ : ∃ z, c.length = z := ⟨_, rfl⟩
  rw [hl1] at hc1 ⊢
  rw [hl2] at hc2 ⊢
  have HL1 := Lib.hid hl1
  have HL2 := Lib.hid hl2
  have AL := Lib.hid (fun w' (h : Below w.heap.size w w') => alive12_any w' (hM.below h))
  by_cases hbig : 300 < l1 ∨ 300 < l2 ∨ l1 = 0 ∨ l2 = 0
  · have A0 := AL.out w (Below.refl _ _)
    have hx : ((l1 : Int) > 300) ∨ (¬ ((l1 : Int) > 300) ∧ ((l2 : Int) > 300)) ∨ (¬ ((l1 : Int) > 300) ∧ ¬ ((l2 : Int) > 300) ∧ ((l1 : Int) == 0) = true) ∨ (¬ ((l1 : Int) > 300) ∧ ¬ ((l2 : Int) > 300) ∧ ((l1 : Int) == 0) = false ∧ ((l2 : Int) == 0) = true) := by
      by_cases a : 300 < l1
      · exact .inl (by omega)
      by_cases a2 : 300 < l2
      · exact .inr (.inl ⟨by omega, by omega⟩)
      by_cases a3 : l1 = 0
      · exact .inr (.inr (.inl ⟨by omega, by omega, by rw [a3]; rfl⟩))
      · exact .inr (.inr (.inr ⟨by omega, by omega, beq_eq_false_iff_ne.2 (by omega), beq_iff_eq.2 (by omega)⟩))
    clear H1 H2 hM hl1 hl2 hc1 hc2 HL1 HL2 hbig
    rcases hx with t1 | ⟨t1, t2⟩ | ⟨t1, t2, t3⟩ | ⟨t1, t2, t3, t4⟩
    · go_enter Tryz.func6, Tryz.ntmps6
      go_wp2_with fail
      refine A0.mono ?_
      rintro e w1 ⟨rfl, hb⟩
      have B1 := Lib.hid hb
      clear A0 hb
      go_wp2
      go_ret
      exact ⟨rfl, B1.out⟩
    · go_enter Tryz.func6, Tryz.ntmps6
      go_wp2_with fail
      refine A0.mono ?_
      rintro e w1 ⟨rfl, hb⟩
      have B1 := Lib.hid hb
      clear A0 hb
      go_wp2
      go_ret
      exact ⟨rfl, B1.out⟩
    · go_enter Tryz.func6, Tryz.ntmps6
      go_wp2_with fail
      refine A0.mono ?_
      rintro e w1 ⟨rfl, hb⟩
      have B1 := Lib.hid hb
      clear A0 hb
      go_wp2
      go_ret
      exact ⟨rfl, B1.out⟩
    · go_enter Tryz.func6, Tryz.ntmps6
      go_wp2_with fail
      refine A0.mono ?_
      rintro e w1 ⟨rfl, hb⟩
      have B1 := Lib.hid hb
      clear A0 hb
      go_wp2
      go_ret
      exact ⟨rfl, B1.out⟩
  have hl1b : 1 ≤ l1 := by omega
  have t1 : ¬ ((l1 : Int) > 300) := by omega
  have t2 : ¬ ((l2 : Int) > 300) := by omega
  have t3 : ((l1 : Int) == 0) = false := beq_eq_false_iff_ne.2 (by omega)
  have t4 : ((l2 : Int) == 0) = false := beq_eq_false_iff_ne.2 (by omega)
  have hb : b ≠ [] := fun e => hbig (.inr (.inr (.inl (by rw [← hl1, e]; rfl))))
  have hcn : c ≠ [] := fun e => hbig (.inr (.inr (.inr (by rw [← hl2, e]; rfl))))
  have RF1 := Lib.hid (fun w' (h : Below w.heap.size w w') => rfirst12_any b hb A1 cap1 l1 hl1 hc1.1 hc1.2 (by omega) w' (H1.below h))
  have RF2 := Lib.hid (fun w' (h : Below w.heap.size w w') => rfirst12_any c hcn A2 cap2 l2 hl2 hc2.1 hc2.2 (by omega) w' (H2.below h))
  have FC : Hid (∀ w' (h : Below w.heap.size w w'), Calls Tryz.prog 10 #[.slice A2 l2 cap2] w' (RetIt w' (itR c))) := fun w' h => by
    have := dfirst_any c A2 cap2 l2 hl2 hc2.1 hc2.2 (by omega) w' (H2.below h) (hM.below h)
    rwa [itP_ne hcn] at this
  have FO : Hid (∀ g cp (hcp : l1 ≤ cp) (hcm : cp ≤ maxLen) w' (h : Below w.heap.size w w') (Hc : BytesAt w' (some ⟨g, 0, none⟩) b), Calls Tryz.prog 10 #[.slice (some ⟨g, 0, none⟩) l1 cp] w' (RetIt w' (itR b))) := fun g cp hcp hcm w' h Hc => by
    have := dfirst_any b (some ⟨g, 0, none⟩) cp l1 hl1 hcp hcm (by omega) w' Hc (hM.below h)
    rwa [itP_ne hb] at this
  have hC1 := itC_le b
  have hC2 := itC_le c
  have HH1 : Hid (∀ w', Below w.heap.size w w' → BytesAt w' A1 b) := fun w' h => H1.below h
  obtain ⟨x1, hx1⟩ : ∃ z, itR b = z := ⟨_, rfl⟩
  obtain ⟨x2, hx2⟩ : ∃ z, itR c = z := ⟨_, rfl⟩
  rw [hx1] at RF1 FO hC1
  rw [hx2] at RF2 FC hC2
  obtain ⟨g3, w3, hg3, hw3, S3, y3, z3⟩ := Fr.box (Fr.nil w) #[] 5
  have O3 : Hid (TOwnB w3 g3 (.slice (some ⟨g3, 0, none⟩) 0 0) []) := by rw [← hw3, ← hg3]; exact own_lit w [] (by decide)
  have B3 := Lib.hid y3
  have P3 := Lib.hid (HH1.out w3 y3)
  clear H1 H2 hM hl1 hl2 hc1 hc2 hbig hb hcn hx1 hx2 S3 y3 HH1
  go_enter Tryz.func6, Tryz.ntmps6
  go_upto_region 4 with (first
    | (at_builtin; refine wpList_appBs (xs := []) (ys := b) O3.out P3.out (by omega) (by rw [HL1.out]; simp; omega) rfl _ _ rfl rfl rfl l1 HL1.out rfl l1 (by simp) ?_; intro A4 c4 w4 h1 h2
       have O4 : Hid (TOwnB w4 g3 (.slice A4 l1 c4) b) := h1
       have B4 : Hid (Below w.heap.size w w4) := B3.out.trans (h2.mono (by omega))
       clear h1 h2 O3 P3 B3))
  obtain ⟨g, hgl, hg3g, hc4, hcm4, rfl⟩ : ∃ g, g < w4.heap.size ∧ g3 ≤ g ∧ l1 ≤ c4 ∧ c4 ≤ maxLen ∧ A4 = some ⟨g, 0, none⟩ := by
    rcases O4.out.2 with ⟨e, -⟩ | ⟨g, cap', cur, e, h2, h3, h4, h5, -, -⟩
    · simp only [Value.slice.injEq] at e
      omega
    · simp only [Value.slice.injEq] at e
      obtain ⟨rfl, -, rfl⟩ := e
      rw [HL1.out] at h4
      exact ⟨g, (Array.getElem?_eq_some_iff.1 h3).1, h2, h4, h5, rfl⟩
  have F4 := FO.out g c4 hc4 hcm4 w4 B4.out O4.out.bytesP
  have U4 : Hid (OU w4 g l1) := by have h := OU.of O4.out; rw [HL1.out] at h; exact h
  clear FO O4 hc4 hcm4
  go_wp2_with fail
  refine F4.mono ?_
  rintro e w5 ⟨A5, c5, D5, d5, rfl, hO5, hT5, hb5⟩
  have B5 : Hid (Below w.heap.size w w5) := B4.out.trans (hb5.mono B4.out.size)
  have F5 := FC.out w5 B5.out
  have hO5 := Lib.hid (hO5.lift (show g + 1 ≤ w4.heap.size from hgl))
  have hT5 := Lib.hid (hT5.lift (show g + 1 ≤ w4.heap.size from hgl))
  have U5 : Hid (OU w5 g l1) := by obtain ⟨cur, h1, h2⟩ := U4.out; exact ⟨cur, (hb5.block g hgl).trans h1, h2⟩
  have hg5 : g < w5.heap.size := by have := hb5.size; omega
  clear F4 FC hb5 U4 B4
  go_wp2_with fail
  refine F5.mono ?_
  rintro e w6 ⟨A6, c6, D6, d6, rfl, hO6, hT6, hb6⟩
  have B6 : Hid (Below w.heap.size w w6) := B5.out.trans (hb6.mono B5.out.size)
  have hO6 := hO6.lift (show g + 1 ≤ w5.heap.size from hg5)
  have hT6 := hT6.lift (show g + 1 ≤ w5.heap.size from hg5)
  obtain ⟨y7, w7, hy7, hw7, S7, yy7, z7⟩ := Fr.box (Fr.nil w6) #[.int .i64 x1.kind, .slice A5 x1.raw.length c5, .string (sB x1.m), .slice D5 x1.C.length d5, .bool x1.al] 31
  obtain ⟨y8, w8, hy8, hw8, S8, yy8, z8⟩ := Fr.box S7 #[.int .i64 x2.kind, .slice A6 x2.raw.length c6, .string (sB x2.m), .slice D6 x2.C.length d6, .bool x2.al] 31
  obtain rfl : y8 = y7 + 1 := by omega
  have I8 : Hid (ItAt w8 (y7 + 1) x2.kind (.slice A6 x2.raw.length c6) (sB x2.m) (.slice D6 x2.C.length d6) x2.al) := S8.out.1
  have I7 : Hid (ItAt w8 y7 x1.kind (.slice A5 x1.raw.length c5) (sB x1.m) (.slice D5 x1.C.length d5) x1.al) := S8.out.2.1
  have O5 := Lib.hid (((hO5.out.below hb6).below yy7).below yy8)
  have T5 := Lib.hid (((hT5.out.below hb6).below yy7).below yy8)
  have O6 := Lib.hid ((hO6.below yy7).below yy8)
  have T6 := Lib.hid ((hT6.below yy7).below yy8)
  have U8 : Hid (OU w8 g l1) := by obtain ⟨cur, h1, h2⟩ := U5.out; exact ⟨cur, (yy8.block g (by have := hb6.size; omega)).trans ((yy7.block g (by have := hb6.size; omega)).trans ((hb6.block g hg5).trans h1)), h2⟩
  have B8 : Hid (Below w.heap.size w w8) := B6.out.trans ((yy7.trans (yy8.mono yy7.size)).mono B6.out.size)
  have hgy : g < y7 := by have := hb6.size; omega
  clear F5 hb6 hO5 hT5 hO6 hT6 S7 S8 yy7 yy8 U5 B5 B6 hg5 hgl
  go_wp2
  go_loopw [38] (fun vi wr => ∃ j : Nat, j ≤ l1 ∧ vi = .int .i64 j ∧ Hid (OU wr g l1 ∧ DK g w8 wr ∧ Below g w8 wr)) (fun vi _ => l1 - (intOf vi).toNat)
  case atStart => exact ⟨0, Nat.zero_le _, rfl, U8.out, DK.refl _ _, Below.refl _ _⟩
  case round =>
    obtain ⟨j, hj, rfl, R⟩ := hrel
    by_cases hlt : j < l1
    · obtain ⟨v, hv0, hv1, e1, e2⟩ := R.out.1.cell hlt
      go_wp2
      go_roundw
      case rel => exact ⟨j + 1, by omega, by go_num, R.out.1.set j ((v + 1) % 256) (by omega) (by omega), R.out.2.1.set j _, R.out.2.2.setCell (p := ⟨g, j, none⟩) (Nat.le_refl _) _⟩
      case measure => simp [intOf]; omega
    · obtain rfl : l1 = j := by omega
      have K9 := R.out.2.1
      have B9 : Hid (Below w.heap.size w wr) := B8.out.trans (R.out.2.2.mono (by omega))
      have I7 : Hid (ItAt wr y7 x1.kind (.slice A5 x1.raw.length c5) (sB x1.m) (.slice D5 x1.C.length d5) x1.al) := K9.blk I7.out (by omega)
      have I8 : Hid (ItAt wr (y7 + 1) x2.kind (.slice A6 x2.raw.length c6) (sB x2.m) (.slice D6 x2.C.length d6) x2.al) := K9.blk I8.out (by omega)
      have BA5 := Lib.hid (O5.out.dk (Nat.lt_succ_self g) K9).bytesP
      have BA6 := Lib.hid (O6.out.dk (Nat.lt_succ_self g) K9).bytesP
      have OP5 := Lib.hid (T5.out.dk (Nat.lt_succ_self g) K9).opsP
      have OP6 := Lib.hid (T6.out.dk (Nat.lt_succ_self g) K9).opsP
      clear O5 O6 T5 T6 K9 R U8 B8
      go_wp2_with fail
      refine (kind_0 wr).mono ?_
      rintro e w9 ⟨rfl, hw⟩
      rw [hw]
      clear hw
      go_wp2_with fail
      refine (kind_1 wr).mono ?_
      rintro e w9 ⟨rfl, hw⟩
      rw [hw]
      clear hw
      go_wp2_with fail
      refine (kind_2 wr).mono ?_
      rintro e w9 ⟨rfl, hw⟩
      rw [hw]
      clear hw
      go_wp2_with fail
      refine (kind_3 wr).mono ?_
      rintro e w9 ⟨rfl, hw⟩
      rw [hw]
      clear hw
      go_wp2_with fail
      refine (kind_4 wr).mono ?_
      rintro e w9 ⟨rfl, hw⟩
      rw [hw]
      clear hw
      go_wp2_with fail
      refine (kind_5 wr).mono ?_
      rintro e w9 ⟨rfl, hw⟩
      rw [hw]
      clear hw
      obtain ⟨y10, w10, hy10, hw10, S10, yy10, z10⟩ := Fr.box (Fr.nil wr) #[.string ⟨#[]⟩, .string ⟨#[99, 111, 100, 101]⟩, .string ⟨#[115, 116, 114, 97, 121]⟩, .string ⟨#[104, 111, 108, 101]⟩, .string ⟨#[116, 114, 117, 110, 99, 97, 116, 101, 100]⟩, .string ⟨#[]⟩] 9
      have ST1 : Hid (StrsA w10 (some ⟨y10, 0, none⟩) [⟨#[]⟩, ⟨#[99, 111, 100, 101]⟩, ⟨#[115, 116, 114, 97, 121]⟩, ⟨#[104, 111, 108, 101]⟩, ⟨#[116, 114, 117, 110, 99, 97, 116, 101, 100]⟩, ⟨#[]⟩]) := by rw [← hw10, ← hy10]; exact strs_of_new wr [⟨#[]⟩, ⟨#[99, 111, 100, 101]⟩, ⟨#[115, 116, 114, 97, 121]⟩, ⟨#[104, 111, 108, 101]⟩, ⟨#[116, 114, 117, 110, 99, 97, 116, 101, 100]⟩, ⟨#[]⟩] 9
      have I7 := Lib.hid (I7.out.all yy10)
      have I8 := Lib.hid (I8.out.all yy10)
      have BA5 := Lib.hid (BA5.out.below yy10)
      have BA6 := Lib.hid (BA6.out.below yy10)
      have OP5 := Lib.hid (OP5.out.below yy10)
      have OP6 := Lib.hid (OP6.out.below yy10)
      have B10 : Hid (Below w.heap.size w w10) := B9.out.trans (yy10.mono B9.out.size)
      clear S10 yy10 B9
      go_upto_region 11 with fail
      obtain ⟨w11, hw11⟩ : ∃ z, w10.drew = z := ⟨_, rfl⟩
      have dq : Below w10.heap.size w10 w11 := by rw [← hw11]; exact below_drewN w10 _ 1
      have ST1 := Lib.hid (ST1.out.below dq)
      have I7 := Lib.hid (I7.out.all dq)
      have I8 := Lib.hid (I8.out.all dq)
      have BA5 := Lib.hid (BA5.out.below dq)
      have BA6 := Lib.hid (BA6.out.below dq)
      have OP5 := Lib.hid (OP5.out.below dq)
      have OP6 := Lib.hid (OP6.out.below dq)
      have B11 : Hid (Below w.heap.size w w11) := B10.out.trans (dq.mono B10.out.size)
      clear dq B10
      refine Mixed.wp_region_mixed (fun w' => ItAt w' y7 x1.kind (.slice A5 x1.raw.length c5) (sB x1.m) (.slice D5 x1.C.length d5) x1.al ∧ ItAt w' (y7 + 1) x2.kind (.slice A6 x2.raw.length c6) (sB x2.m) (.slice D6 x2.C.length d6) x2.al) 23
        [(0, false), (1, true), (2, true), (3, true), (4, false), (5, false), (6, true), (7, true), (8, true), (9, true), (11, true), (13, true), (10, false), (12, false), (14, false), (15, false), (16, true), (17, true), (18, true), (19, true), (20, false), (21, false), (22, true)] (by kernel_rfl) (by kernel_rfl) (by rw [hw11]; exact ⟨I7.out, I8.out⟩) ?_
      rw [hw11]
      clear hw11
      have A11 := AL.out w11 B11.out
      refine Mixed.wpMix_loudG rfl (by kernel_rfl) ?_
      go_wp2_with fail
      refine A11.mono ?_
      rintro e w12 ⟨rfl, hb⟩
      have UP : ∀ {wa wb : World}, Below wa.heap.size wa wb → Below w.heap.size w wa → Below w.heap.size w wb := fun h1 h2 => h2.trans (h1.mono h2.size)
      have B12 := Lib.hid (UP hb B11.out)
      have I7 := Lib.hid (I7.out.all hb)
      have I8 := Lib.hid (I8.out.all hb)
      have BA5 := Lib.hid (BA5.out.below hb)
      have BA6 := Lib.hid (BA6.out.below hb)
      have OP5 := Lib.hid (OP5.out.below hb)
      have OP6 := Lib.hid (OP6.out.below hb)
      have ST1 := Lib.hid (ST1.out.below hb)
      clear A11 hb B11 AL
      go_wp2
      refine ⟨⟨I7.out, I8.out⟩, ?_⟩
      refine Mixed.mp rfl (.bool true) ?_
      refine Mixed.mo rfl (.agg #[.int .i64 x1.kind, .slice A5 x1.raw.length c5, .string (sB x1.m), .slice D5 x1.C.length d5, .bool x1.al]) (fun w h => by obtain ⟨h0, h1, h2, h3, h4, h5⟩ := h.1.cells; clear h; go_simp; try rfl) ?_
      refine Mixed.mp rfl (.slice A1 l1 cap1) ?_
      refine Mixed.wpMix_loudG rfl (by kernel_rfl) ?_
      have C12 := RF1.out w12 B12.out
      go_wp2_with fail
      refine C12.mono ?_
      rintro e w13 ⟨E1, f1, G1, h1', rfl, hO, hT, hb⟩
      have Q1 := Lib.hid hO.bytesP
      have Q2 := Lib.hid hT.opsP
      have B13 := Lib.hid (UP hb B12.out)
      have I7 := Lib.hid (I7.out.all hb)
      have I8 := Lib.hid (I8.out.all hb)
      have BA5 := Lib.hid (BA5.out.below hb)
      have BA6 := Lib.hid (BA6.out.below hb)
      have OP5 := Lib.hid (OP5.out.below hb)
      have OP6 := Lib.hid (OP6.out.below hb)
      have ST1 := Lib.hid (ST1.out.below hb)
      clear C12 hb hO hT B12
      go_wp2
      refine ⟨⟨I7.out, I8.out⟩, ?_⟩
      refine Mixed.wpMix_loudG rfl (by kernel_rfl) ?_
      have C13 := rsame12_any x1.kind x1.kind x1.raw x1.raw x1.m x1.m x1.al x1.al A5 E1 D5 G1 c5 f1 d5 h1' x1.C x1.C (by omega) (by omega) w13 BA5.out Q1.out OP5.out Q2.out
      simp only [decide_true, Bool.and_self, beq_self_eq_true] at C13
      go_wp2_with fail
      refine C13.mono ?_
      rintro e w14 ⟨rfl, hb⟩
      have B14 := Lib.hid (UP hb B13.out)
      have I7 := Lib.hid (I7.out.all hb)
      have I8 := Lib.hid (I8.out.all hb)
      have BA5 := Lib.hid (BA5.out.below hb)
      have BA6 := Lib.hid (BA6.out.below hb)
      have OP5 := Lib.hid (OP5.out.below hb)
      have OP6 := Lib.hid (OP6.out.below hb)
      have ST1 := Lib.hid (ST1.out.below hb)
      clear C13 hb Q1 Q2 B13
      go_wp2
      refine ⟨⟨I7.out, I8.out⟩, ?_⟩
      refine Mixed.mp rfl (.bool true) ?_
      refine Mixed.mp rfl (.bool true) ?_
      refine Mixed.mo rfl (.agg #[.int .i64 x1.kind, .slice A5 x1.raw.length c5, .string (sB x1.m), .slice D5 x1.C.length d5, .bool x1.al]) (fun w h => by obtain ⟨h0, h1, h2, h3, h4, h5⟩ := h.1.cells; clear h; go_simp; try rfl) ?_
      refine Mixed.mo rfl (.agg #[.int .i64 x2.kind, .slice A6 x2.raw.length c6, .string (sB x2.m), .slice D6 x2.C.length d6, .bool x2.al]) (fun w h => by obtain ⟨h0, h1, h2, h3, h4, h5⟩ := h.2.cells; clear h; go_simp; try rfl) ?_
      refine Mixed.mp rfl (.slice A1 l1 cap1) ?_
      refine Mixed.mp rfl (.slice A2 l2 cap2) ?_
      refine Mixed.wpMix_loudG rfl (by kernel_rfl) ?_
      have C14 := dsame_any x1.kind x2.kind x1.raw x2.raw x1.m x2.m x1.al x2.al A5 A6 D5 D6 c5 c6 d5 d6 x1.C x2.C (by omega) (by omega) w14 BA5.out BA6.out OP5.out OP6.out
      obtain ⟨tt, htt⟩ : ∃ z, (decide (x1.kind = x2.kind) && decide (x1.raw = x2.raw) && (decide (x1.m = x2.m) && decide (x1.C = x2.C)) && (x1.al == x2.al)) = z := ⟨_, rfl⟩
      rw [htt] at C14
      have HTT := Lib.hid htt
      clear htt
      go_wp2_with fail
      refine C14.mono ?_
      rintro e w15 ⟨rfl, hb⟩
      have B15 := Lib.hid (UP hb B14.out)
      have I7 := Lib.hid (I7.out.all hb)
      have I8 := Lib.hid (I8.out.all hb)
      have ST1 := Lib.hid (ST1.out.below hb)
      clear C14 hb B14 BA5 BA6 OP5 OP6
      go_wp2
      refine ⟨⟨I7.out, I8.out⟩, ?_⟩
      refine Mixed.wpMix_loudG rfl (by kernel_rfl) ?_
      have C15 := RF1.out w15 B15.out
      go_wp2_with fail
      refine C15.mono ?_
      rintro e w16 ⟨E1, f1, G1, h1', rfl, hO, hT, hb⟩
      have Q1 := Lib.hid hO.bytesP
      have Q2 := Lib.hid hT.opsP
      have B16 := Lib.hid (UP hb B15.out)
      have I7 := Lib.hid (I7.out.all hb)
      have I8 := Lib.hid (I8.out.all hb)
      have ST1 := Lib.hid (ST1.out.below hb)
      clear C15 hb hO hT B15
      go_wp2
      refine ⟨⟨I7.out, I8.out⟩, ?_⟩
      refine Mixed.wpMix_loudG rfl (by kernel_rfl) ?_
      have C16 := RF2.out w16 B16.out
      go_wp2_with fail
      refine C16.mono ?_
      rintro e w17 ⟨E2, f2, G2, h2', rfl, hO, hT, hb⟩
      have Q3 := Lib.hid hO.bytesP
      have Q4 := Lib.hid hT.opsP
      have Q1 := Lib.hid (Q1.out.below hb)
      have Q2 := Lib.hid (Q2.out.below hb)
      have B17 := Lib.hid (UP hb B16.out)
      have I7 := Lib.hid (I7.out.all hb)
      have I8 := Lib.hid (I8.out.all hb)
      have ST1 := Lib.hid (ST1.out.below hb)
      clear C16 hb hO hT B16
      go_wp2
      refine ⟨⟨I7.out, I8.out⟩, ?_⟩
      refine Mixed.wpMix_loudG rfl (by kernel_rfl) ?_
      have C17 := rsame12_any x1.kind x2.kind x1.raw x2.raw x1.m x2.m x1.al x2.al E1 E2 G1 G2 f1 f2 h1' h2' x1.C x2.C (by omega) (by omega) w17 Q1.out Q3.out Q2.out Q4.out
      rw [HTT.out] at C17
      go_wp2_with fail
      refine C17.mono ?_
      rintro e w18 ⟨rfl, hb⟩
      have B18 := Lib.hid (UP hb B17.out)
      have I7 := Lib.hid (I7.out.all hb)
      have I8 := Lib.hid (I8.out.all hb)
      have ST1 := Lib.hid (ST1.out.below hb)
      clear C17 hb B17 Q1 Q2 Q3 Q4
      go_wp2
      refine ⟨⟨I7.out, I8.out⟩, ?_⟩
      refine Mixed.mo rfl (.bool true) (fun w h => by clear h; cases tt <;> go_simp <;> try rfl) ?_
      refine Mixed.mp rfl (.bool true) ?_
      refine Mixed.mp rfl (.bool true) ?_
      refine Mixed.mp rfl (.slice (some ⟨y10, 0, none⟩) 6 6) ?_
      refine Mixed.wpMix_loudG rfl (by kernel_rfl) ?_
      obtain ⟨y19, w19, hy19, hw19, S19, yy19, z19⟩ := Fr.box (Fr.nil w18) #[.string ⟨#[]⟩, .string ⟨#[99, 111, 100, 101]⟩, .string ⟨#[115, 116, 114, 97, 121]⟩, .string ⟨#[104, 111, 108, 101]⟩, .string ⟨#[116, 114, 117, 110, 99, 97, 116, 101, 100]⟩, .string ⟨#[]⟩] 9
      have ST2 : Hid (StrsA w19 (some ⟨y19, 0, none⟩) [⟨#[]⟩, ⟨#[99, 111, 100, 101]⟩, ⟨#[115, 116, 114, 97, 121]⟩, ⟨#[104, 111, 108, 101]⟩, ⟨#[116, 114, 117, 110, 99, 97, 116, 101, 100]⟩, ⟨#[]⟩]) := by rw [← hw19, ← hy19]; exact strs_of_new w18 [⟨#[]⟩, ⟨#[99, 111, 100, 101]⟩, ⟨#[115, 116, 114, 97, 121]⟩, ⟨#[104, 111, 108, 101]⟩, ⟨#[116, 114, 117, 110, 99, 97, 116, 101, 100]⟩, ⟨#[]⟩] 9
      have B19 := Lib.hid (UP yy19 B18.out)
      have I7 := Lib.hid (I7.out.all yy19)
      have I8 := Lib.hid (I8.out.all yy19)
      have ST1 := Lib.hid (ST1.out.below yy19)
      clear S19 yy19 B18
      go_wp2
      refine ⟨⟨I7.out, I8.out⟩, ?_⟩
      refine Mixed.wpMix_loudG rfl (by kernel_rfl) ?_
      have C19 := equalS_any (some ⟨y10, 0, none⟩) (some ⟨y19, 0, none⟩) 6 6 [⟨#[]⟩, ⟨#[99, 111, 100, 101]⟩, ⟨#[115, 116, 114, 97, 121]⟩, ⟨#[104, 111, 108, 101]⟩, ⟨#[116, 114, 117, 110, 99, 97, 116, 101, 100]⟩, ⟨#[]⟩] [⟨#[]⟩, ⟨#[99, 111, 100, 101]⟩, ⟨#[115, 116, 114, 97, 121]⟩, ⟨#[104, 111, 108, 101]⟩, ⟨#[116, 114, 117, 110, 99, 97, 116, 101, 100]⟩, ⟨#[]⟩] (by unfold maxLen; decide) (by unfold maxLen; decide) w19 ST1.out ST2.out
      rw [decide_eq_true rfl] at C19
      go_wp2_with fail
      refine C19.mono ?_
      rintro e w20 ⟨rfl, hb⟩
      have B20 := Lib.hid (UP hb B19.out)
      have I7 := Lib.hid (I7.out.all hb)
      have I8 := Lib.hid (I8.out.all hb)
      clear C19 hb B19 ST1 ST2
      go_wp2
      refine ⟨⟨I7.out, I8.out⟩, ?_⟩
      refine Mixed.mp rfl (.bool true) ?_
      simp only [Mixed.wpMix, List.drop_succ_cons, List.drop_zero]
      go_wp2
      go_ret
      exact ⟨rfl, B20.out⟩
end Go.Proofs.YtclhaejdjogfbaaGreat
