/-
  DecodeNeeds: the walk over the law.
-/
import Derived.Test.YtclhaejdjogfbaaGreatGAU
import Derived.Test.YtclhaejdjogfbaaGreatGAV
set_option linter.all false
set_option maxRecDepth 100000
set_option maxHeartbeats 4000000
namespace Go.Proofs.YtclhaejdjogfbaaGreat
open Go.RowKit Go.Shelf
attribute [local go_sem] Oper.semAt_some
theorem zeros_whole {b : Str} (hb : b ≠ []) : (itR ((b ++ [0, 0, 0, 0]).take (max (needR b) b.length))).kind ≠ 4 := by
  obtain ⟨h1, h4⟩ := need_rng b
  have hl : 1 ≤ b.length := by cases b; exact absurd rfl hb; simp
  by_cases h : needR b ≤ b.length
  · rw [Nat.max_eq_right h, List.take_left']
    · intro e
      have := (trunc_iff hb).1 e
      omega
    · rfl
  · have e : (b ++ [0, 0, 0, 0]).take (max (needR b) b.length) = b ++ List.replicate (needR b - b.length) 0 := by
      rw [Nat.max_eq_left (by omega), List.take_append, List.take_of_length_le (by omega)]
      congr 1
      rcases (by omega : needR b - b.length = 1 ∨ needR b - b.length = 2 ∨ needR b - b.length = 3) with e | e | e <;> rw [e] <;> rfl
    rw [e]
    have hz := need_zeros hb (by omega)
    intro e2
    have hne : b ++ List.replicate (needR b - b.length) 0 ≠ [] := fun e3 => hb (List.append_eq_nil_iff.1 e3).1
    have := (trunc_iff hne).1 e2
    rw [List.length_append, List.length_replicate] at this
    omega
theorem bytes_zero4 (w : World) : BytesAt (w.alloc (.cells #[.int .u8 0, .int .u8 0, .int .u8 0, .int .u8 0] 5)) (some ⟨w.heap.size, 0, none⟩) [0, 0, 0, 0] := by
  have h := own_lit w [0, 0, 0, 0] (by decide)
  exact h.bytesP
theorem field_kind (kk : Int) (v1 v2 v3 v4 : Value) (w : World) : (Instr.field 31 (.agg #[.int .i64 kk, v1, v2, v3, v4]) 0).run Tryz.prog w = .ok (.int .i64 kk) w := by kernel_rfl
theorem walkDN (A : Option Addr) (cap : Nat) (b : Str) (w : World) (H : BytesAt w A b) (hc : b.length ≤ cap ∧ cap ≤ maxLen) (hM : MaxAt w) :
    Calls Tryz.prog 5 #[.slice A b.length cap] w fun e w' => e = .returned (.bool true) ∧ Below w.heap.size w w' := by
  obtain ⟨l, hl⟩ : ∃ z, b.length = z := ⟨_, rfl⟩
  rw [hl] at hc ⊢
  have HL := Lib.hid hl
  have HM : Hid (∀ w', Below w.heap.size w w' → MaxAt w') := fun w' h => hM.below h
  have AL := Lib.hid (fun w' (h : Below w.heap.size w w') => alive12_any w' (hM.below h))
  by_cases hbig : 1000 < l ∨ l = 0
  · have A0 := AL.out w (Below.refl _ _)
    have hx : ((l : Int) > 1000) ∨ (¬ ((l : Int) > 1000) ∧ ((l : Int) == 0) = true) := by
      rcases hbig with h | h
      · exact .inl (by omega)
      · exact .inr ⟨by omega, by rw [h]; rfl⟩
    clear H hM hl hc HL hbig
    rcases hx with t1 | ⟨t1, t2⟩
    · go_enter Tryz.func5, Tryz.ntmps5
      go_wp2_with fail
      refine A0.mono ?_
      rintro e w1 ⟨rfl, hb⟩
      have B1 := Lib.hid hb
      clear A0 hb
      go_wp2
      go_ret
      exact ⟨rfl, B1.out⟩
    · go_enter Tryz.func5, Tryz.ntmps5
      go_wp2_with fail
      refine A0.mono ?_
      rintro e w1 ⟨rfl, hb⟩
      have B1 := Lib.hid hb
      clear A0 hb
      go_wp2
      go_ret
      exact ⟨rfl, B1.out⟩
  have t1 : ¬ ((l : Int) > 1000) := by omega
  have t2 : ((l : Int) == 0) = false := beq_eq_false_iff_ne.2 (by omega)
  have hb : b ≠ [] := fun e => hbig (.inr (by rw [← hl, e]; rfl))
  have ND := dneed_any b A cap l hl hc.1 hc.2 (by omega) w H hM
  have RND := Lib.hid (fun w' (h : Below w.heap.size w w') => rneed12_any b hb A cap l hl hc.1 hc.2 (by omega) w' (H.below h))
  have FB := Lib.hid (fun w' (h : Below w.heap.size w w') => dfirst_any b A cap l hl hc.1 hc.2 (by omega) w' (H.below h) (hM.below h))
  have FZ := Lib.hid (fun g off cap2 (c : Str) lc (hlc : c.length = lc) (hcc : lc ≤ cap2) (hcm2 : cap2 ≤ maxLen) (hl2 : lc ≤ 100000) w' (h : Below w.heap.size w w') (Hc : BytesAt w' (some ⟨g, off, none⟩) c) => dfirst_any c (some ⟨g, off, none⟩) cap2 lc hlc hcc hcm2 hl2 w' Hc (hM.below h))
  have HH : Hid (∀ w', Below w.heap.size w w' → BytesAt w' A b) := fun w' h => H.below h
  obtain ⟨hr1, hr4⟩ := need_rng b
  have ZW := zeros_whole hb
  have TI := trunc_iff hb
  obtain ⟨n, hn⟩ : ∃ z, needR b = z := ⟨_, rfl⟩
  rw [hn] at ND RND hr1 hr4 ZW TI
  rw [hl] at ZW TI
  have ZW := Lib.hid ZW
  have TI := Lib.hid TI
  have IB : Hid (itP b = itR b) := itP_ne hb
  have t3 : ¬ ((n : Int) < 1) := by omega
  have t4 : ¬ ((n : Int) > 4) := by omega
  have t3' : decide ((n : Int) < 1) = false := decide_eq_false t3
  have t4' : decide (4 < (n : Int)) = false := decide_eq_false t4
  have t5 : ((n : Int) != (n : Int)) = false := bne_self_eq_false _
  clear H hM hl hbig hb hn
  go_enter Tryz.func5, Tryz.ntmps5
  go_wp2_with fail
  refine ND.mono ?_
  rintro e w1 ⟨rfl, hb⟩
  have B1 := Lib.hid hb
  have RN1 := RND.out w1 hb
  clear ND hb RND
  go_wp2_with fail
  refine RN1.mono ?_
  rintro e w2 ⟨rfl, hb⟩
  have B2 : Hid (Below w.heap.size w w2) := B1.out.trans (hb.mono B1.out.size)
  clear RN1 hb B1
  obtain ⟨g3, w3, hg3, hw3, S3, y3, z3⟩ := Fr.box (Fr.nil w2) #[] 5
  have O3 : Hid (TOwnB w3 g3 (.slice (some ⟨g3, 0, none⟩) 0 0) []) := by rw [← hw3, ← hg3]; exact own_lit w2 [] (by decide)
  have B3 : Hid (Below w.heap.size w w3) := B2.out.trans (y3.mono B2.out.size)
  have P3 := Lib.hid (HH.out w3 B3.out)
  have hwg : w.heap.size ≤ g3 := by have := B2.out.size; omega
  clear S3 y3 B2
  go_upto_region 7 with (first
    | (at_builtin; refine wpList_appBs (xs := []) (ys := b) O3.out P3.out (by omega) (by rw [HL.out]; simp; omega) rfl _ _ rfl rfl rfl l HL.out rfl l (by simp) ?_; intro A4 c4 w4 h1 h2
       have O4 : Hid (TOwnB w4 g3 (.slice A4 l c4) b) := h1
       have B4 : Hid (Below w.heap.size w w4) := B3.out.trans (h2.mono hwg)
       have hg4 : g3 ≤ w4.heap.size := by have := h2.size; omega
       obtain ⟨g5, w5, hg5, hw5, S5, y5, z5⟩ := Fr.box (Fr.nil w4) #[.int .u8 0, .int .u8 0, .int .u8 0, .int .u8 0] 5
       have P5 : Hid (BytesAt w5 (some ⟨g5, 0, none⟩) [0, 0, 0, 0]) := by rw [← hw5, ← hg5]; exact bytes_zero4 w4
       have B5 : Hid (Below w.heap.size w w5) := B4.out.trans (y5.mono B4.out.size)
       have O5 := Lib.hid (O4.out.below y5)
       have hz5 : g3 ≤ w5.heap.size := by omega
       clear h1 h2 O3 P3 B3 S5 y5 O4 B4)
    | (at_builtin; refine wpList_appBs (xs := b) (ys := [0, 0, 0, 0]) O5.out P5.out hz5 (by rw [HL.out]; simp; omega) rfl _ _ rfl rfl rfl 4 rfl rfl (l + 4) (by rw [HL.out]) ?_; intro A6 c6 w6 h1 h2
       have O6 : Hid (TOwnB w6 g3 (.slice A6 (l + 4) c6) (b ++ [0, 0, 0, 0])) := h1
       have B6 : Hid (Below w.heap.size w w6) := B5.out.trans (h2.mono hwg)
       clear h1 h2 O5 P5 B5))
  obtain ⟨g6, hg6, hl6, hc6, rfl⟩ : ∃ g6, g3 ≤ g6 ∧ l + 4 ≤ c6 ∧ c6 ≤ maxLen ∧ A6 = some ⟨g6, 0, none⟩ := by
    rcases O6.out.2 with ⟨e, -⟩ | ⟨g, cap', cur, e, h2, h3, h4, h5, -, -⟩
    · simp only [Value.slice.injEq] at e
      omega
    · simp only [Value.slice.injEq] at e
      obtain ⟨rfl, -, rfl⟩ := e
      rw [List.length_append, HL.out] at h4
      exact ⟨g, h2, h4, h5, rfl⟩
  obtain ⟨mx, hmx⟩ : ∃ z, max n l = z := ⟨_, rfl⟩
  have hmxi : max (n : Int) (l : Int) = (mx : Int) := by omega
  have hmc : ¬ c6 < mx := by omega
  have hcmx : mx ≤ l + 4 := by omega
  have HMX := Lib.hid hmx
  obtain ⟨c, hcc⟩ : ∃ z, (b ++ [0, 0, 0, 0]).take mx = z := ⟨_, rfl⟩
  have hclen : c.length = mx := by rw [← hcc, List.length_take, List.length_append, HL.out]; show min mx (l + 4) = mx; omega
  have FZ6 := FZ.out g6 0 c6 c mx hclen (by omega) hc6 (by omega) w6 B6.out (by rw [← hcc]; exact take_at O6.out.bytesP mx)
  have hcne : c ≠ [] := fun e => by
    rw [e] at hclen
    simp at hclen
    omega
  rw [itP_ne hcne] at FZ6
  have HK : Hid ((itR c).kind ≠ 4) := by show _; rw [← hcc, ← HMX.out]; exact ZW.out
  unfold maxLen at hc6
  clear FZ O6 hcc hclen hcne ZW hmx
  go_wp2_with fail
  refine FZ6.mono ?_
  rintro e w7 ⟨A7, c7, D7, d7, rfl, -, -, hb⟩
  obtain ⟨x, hx⟩ : ∃ z, itR c = z := ⟨_, rfl⟩
  have HX := Lib.hid hx
  obtain ⟨y8, w8, hy8, hw8, S8, yy8, z8⟩ := Fr.box (Fr.nil w7) #[.int .i64 (itR c).kind, .slice A7 (itR c).raw.length c7, .string (sB (itR c).m), .slice D7 (itR c).C.length d7, .bool (itR c).al] 31
  have I8 : ItAt w8 y8 (itR c).kind (.slice A7 (itR c).raw.length c7) (sB (itR c).m) (.slice D7 (itR c).C.length d7) (itR c).al := S8.out.1
  have B8 : Hid (Below w.heap.size w w8) := B6.out.trans ((hb.trans (yy8.mono hb.size)).mono B6.out.size)
  have A8 := AL.out w8 B8.out
  have I8 := Lib.hid I8
  clear FZ6 hb S8 yy8 B6 hx HX
  go_wp2_with fail
  refine A8.mono ?_
  rintro e w9 ⟨rfl, hb⟩
  have B9 : Hid (Below w.heap.size w w9) := B8.out.trans (hb.mono B8.out.size)
  obtain ⟨j0, -, -, -, -, -⟩ := (I8.out.all hb).cells
  have tk : ((itR c).kind != 4) = true := bne_iff_ne.2 HK.out
  have FB9 := FB.out w9 B9.out
  clear A8 hb I8 B8 FB
  go_wp2_with fail
  refine FB9.mono ?_
  rintro e w10 ⟨A10, c10, D10, d10, rfl, -, -, hb⟩
  have B10 : Hid (Below w.heap.size w w10) := B9.out.trans (hb.mono B9.out.size)
  rw [IB.out]
  have hfd := fun kk v1 v2 v3 v4 w => field_kind kk v1 v2 v3 v4 w
  have tq : decide ((l : Int) ≥ (n : Int)) = ((itR b).kind != 4) := by
    by_cases h : (itR b).kind = 4
    · have h2 := TI.out.1 h
      rw [h, decide_eq_false (by omega)]
      rfl
    · have h2 := mt TI.out.2 h
      rw [decide_eq_true (by omega), bne_iff_ne.2 h]
  obtain ⟨kk, hkk⟩ : ∃ z, (itR b).kind = z := ⟨_, rfl⟩
  rw [hkk] at tq ⊢
  clear FB9 hb B9 TI hkk tk j0 hmxi hmc hcmx hl6 hc6 hwg hz5 hg4 hg6 hr1 hr4
  by_cases h : (l : Int) ≥ (n : Int)
  · rw [decide_eq_true h] at tq
    have tq2 := tq.symm
    clear tq
    go_wp2
    go_ret
    exact ⟨by show Ending.returned (.bool (decide (n ≤ l))) = _; rw [decide_eq_true (by omega)], B10.out⟩
  · rw [decide_eq_false h] at tq
    have tq2 := tq.symm
    clear tq
    go_wp2
    go_ret
    exact ⟨by show Ending.returned (.bool (!decide (n ≤ l))) = _; rw [decide_eq_false (by omega)]; rfl, B10.out⟩
end Go.Proofs.YtclhaejdjogfbaaGreat
