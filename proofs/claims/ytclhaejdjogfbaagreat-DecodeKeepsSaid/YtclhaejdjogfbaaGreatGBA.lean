/-
  SeG, DgJ.
-/
import Derived.Test.YtclhaejdjogfbaaGreatGAS
import Derived.Test.YtclhaejdjogfbaaGreatGAT
import Derived.Test.YtclhaejdjogfbaaGreatGAE
import Derived.Test.YtclhaejdjogfbaaGreatGAU
import Derived.Test.YtclhaejdjogfbaaGreatGAR
import Derived.Test.YtclhaejdjogfbaaGreatMDfE
set_option linter.all false
set_option maxRecDepth 100000
set_option maxHeartbeats 4000000
namespace Go.Proofs.YtclhaejdjogfbaaGreat
open Go.RowKit Go.Shelf
attribute [local go_sem] Oper.semAt_some
attribute [local irreducible] Go.Mixed.wpMixT
attribute [local irreducible] Go.Mixed.wpMix
theorem isame2_any (s1 s2 : ByteArray) (A1 A2 : Option Addr) (c1 c2 n1 n2 : Nat) (L1 L2 : List Tr) (hn1 : L1.length = n1) (hn2 : L2.length = n2) (h1 : n1 ≤ 1000) (h2 : n2 ≤ 1000) (w : World) (H1 : OpsP w A1 L1) (H2 : OpsP w A2 L2) :
    Calls Tryz.prog 28 #[.agg #[.string s1, .slice A1 n1 c1], .agg #[.string s2, .slice A2 n2 c2]] w fun e w' => e = .returned (.bool (decide (s1 = s2) && decide (L1 = L2))) ∧ Below w.heap.size w w' := by
  have hal : Below w.heap.size w ((w.alloc (.cells #[.string s1, .slice A1 n1 c1] 26)).alloc (.cells #[.string s2, .slice A2 n2 c2] 26)) := ((Below.refl _ _).alloc (Nat.le_refl _) _).alloc (by simp) _
  have eq := equalO_any A1 A2 c1 c2 L1 L2 (by unfold maxLen; omega) (by unfold maxLen; omega) _ (H1.below hal) (H2.below hal)
  rw [hn1, hn2] at eq
  have EQ := Lib.hid eq
  have B0 := Lib.hid hal
  obtain ⟨b, hb⟩ : ∃ b, decide (L1 = L2) = b := ⟨_, rfl⟩
  rw [hb] at EQ
  rw [hb]
  clear H1 H2 hal hn1 hn2 hb eq
  by_cases hs : s1 = s2
  · subst hs
    have hq := strB_eq s1
    rw [decide_eq_true rfl, Bool.true_and]
    go_enter Tryz.func28, Tryz.ntmps28
    go_wp2_with fail
    refine EQ.out.mono ?_
    rintro e w1 ⟨rfl, hb⟩
    have B1 := Lib.hid (B0.out.trans (hb.mono B0.out.size))
    clear hb
    go_wp2
    go_ret
    exact ⟨rfl, B1.out⟩
  · have hq := strB_ne hs
    rw [decide_eq_false hs, Bool.false_and]
    clear hs EQ
    go_enter Tryz.func28, Tryz.ntmps28
    go_wp2
    go_ret
    exact ⟨rfl, B0.out⟩
end Go.Proofs.YtclhaejdjogfbaaGreat
namespace Go.Proofs.YtclhaejdjogfbaaGreat
open Go.RowKit Go.Shelf
attribute [local go_sem] Oper.semAt_some
attribute [local irreducible] Go.Mixed.wpMix
def RetDAt (w : World) (b : Str) (at_ : Int) (e : Ending) (w' : World) : Prop :=
  ((at_ < 0 ∨ (b.length : Int) ≤ at_) ∧ e = .returned (.tuple #[.agg #[.int .i64 0, .slice none 0 0, .string ⟨#[]⟩, .slice none 0 0, .bool false], .int .i64 0, .bool false]) ∧ Below w.heap.size w w') ∨
  (∃ k : Nat, at_ = k ∧ k < b.length ∧ ∃ A c B c2, e = .returned (.tuple #[.agg #[.int .i64 (itR (b.drop k)).kind, .slice A (itR (b.drop k)).raw.length c, .string (sB (itR (b.drop k)).m), .slice B (itR (b.drop k)).C.length c2, .bool (itR (b.drop k)).al], .int .i64 ((k + (itR (b.drop k)).raw.length : Nat) : Int), .bool true]) ∧
    TOwnB w' w.heap.size (.slice A (itR (b.drop k)).raw.length c) (itR (b.drop k)).raw ∧ OwnT w' w.heap.size (.slice B (itR (b.drop k)).C.length c2) (itR (b.drop k)).C ∧ Below w.heap.size w w')
theorem raw_le (b : Str) : (itR b).raw.length ≤ b.length := by
  unfold itR
  split
  · exact Nat.le_refl _
  · split
    · split
      · show (b.take 1).length ≤ _; rw [List.length_take]; omega
      · show (b.take 2).length ≤ _; rw [List.length_take]; omega
    · split
      · exact Nat.le_refl _
      · show (b.take _).length ≤ _; rw [List.length_take]; omega
theorem drop_at2 {w : World} {g off : Nat} {xs : Str} (h : BytesAt w (some ⟨g, off, none⟩) xs) (k : Nat) : BytesAt w (some ⟨g, off + k, none⟩) (xs.drop k) := by
  rcases h with rfl | ⟨b, o, e, hc⟩
  · exact .inl (by simp)
  · simp only [Option.some.injEq, Addr.mk.injEq] at e
    obtain ⟨rfl, rfl, -⟩ := e
    refine .inr ⟨g, off + k, rfl, fun j hj => ?_⟩
    rw [List.length_drop] at hj
    rw [List.getElem_drop, Nat.add_assoc]
    exact hc (k + j) (by omega)
theorem dat_any (b : Str) (A : Option Addr) (cap l : Nat) (hl : b.length = l) (hc : l ≤ cap) (hcm : cap ≤ maxLen) (hl2 : l ≤ 100000) (w : World) (H : BytesAt w A b) (hM : MaxAt w) (at_ : Int) :
    Calls Tryz.prog 15 #[.slice A l cap, .int .i64 at_] w (RetDAt w b at_) := by
  obtain ⟨n, hn⟩ : ∃ z, w.heap.size = z := ⟨_, rfl⟩
  obtain ⟨w0, hw0, I0, y0, z0⟩ := it_start w n hn
  have HN := Lib.hid hn
  have HL := Lib.hid hl
  by_cases hout : at_ < 0 ∨ (l : Int) ≤ at_
  · obtain ⟨w1, hw1, i1, i2, i3, i4, i5, i6⟩ := I0.put 0 (.slice none 0 0) ⟨#[]⟩ (.slice none 0 0) false
    obtain ⟨k0, k1, k2, k3, k4, k5⟩ := I0.cells
    obtain ⟨j0, j1, j2, j3, j4, j5⟩ := i1.cells
    have F : Hid (RetDAt w b at_ (.returned (.tuple #[.agg #[.int .i64 0, .slice none 0 0, .string ⟨#[]⟩, .slice none 0 0, .bool false], .int .i64 0, .bool false])) w1) := .inl ⟨by rw [hl]; exact hout, rfl, y0.trans (by rw [hn]; exact i2)⟩
    have hh : decide (at_ < 0) = true ∨ (decide (at_ < 0) = false ∧ decide ((l : Int) ≤ at_) = true) := by
      by_cases h : at_ < 0
      · exact .inl (decide_eq_true h)
      · exact .inr ⟨decide_eq_false h, decide_eq_true (by omega)⟩
    have hx : at_ < 0 ∨ (¬ at_ < 0 ∧ at_ ≥ (l : Int)) := by omega
    clear H hM hl I0 y0 i1 i2 i3 i4 i5 i6 hout
    rcases hx with t1 | ⟨t1, t2⟩
    · clear hh
      go_enter Tryz.func15, Tryz.ntmps15
      go_wp2
      refine bodyPost_ret (v := .tuple #[.agg #[.int .i64 0, .slice none 0 0, .string ⟨#[]⟩, .slice none 0 0, .bool false], .int .i64 0, .bool false]) ?_ rfl F.out
      simp [results, Tryz.results15, go_sem, j0, j1, j2, j3, j4]
    · clear hh
      go_enter Tryz.func15, Tryz.ntmps15
      go_wp2
      refine bodyPost_ret (v := .tuple #[.agg #[.int .i64 0, .slice none 0 0, .string ⟨#[]⟩, .slice none 0 0, .bool false], .int .i64 0, .bool false]) ?_ rfl F.out
      simp [results, Tryz.results15, go_sem, j0, j1, j2, j3, j4]
  · obtain ⟨k, rfl⟩ : ∃ k : Nat, at_ = k := ⟨at_.toNat, by omega⟩
    have hkl : k < l := by omega
    obtain ⟨g, off, rfl, -⟩ := H.cellAt (j := k) (by omega)
    have hne : b.drop k ≠ [] := fun e => by
      have := congrArg List.length e
      rw [List.length_drop, hl] at this
      simp at this
      omega
    have hdl : (b.drop k).length = l - k := by rw [List.length_drop, hl]
    have FI := dfirst_any (b.drop k) (some ⟨g, off + k, none⟩) (cap - k) (l - k) hdl (by omega) (by omega) (by omega) w0 ((drop_at2 H k).below y0) (hM.below y0)
    rw [itP_ne hne] at FI
    have hrl := raw_le (b.drop k)
    rw [hdl] at hrl
    have RT : Hid (∀ e w', (∃ A c B c2, e = .returned (.tuple #[.agg #[.int .i64 (itR (b.drop k)).kind, .slice A (itR (b.drop k)).raw.length c, .string (sB (itR (b.drop k)).m), .slice B (itR (b.drop k)).C.length c2, .bool (itR (b.drop k)).al], .int .i64 ((k + (itR (b.drop k)).raw.length : Nat) : Int), .bool true]) ∧
      TOwnB w' w.heap.size (.slice A (itR (b.drop k)).raw.length c) (itR (b.drop k)).raw ∧ OwnT w' w.heap.size (.slice B (itR (b.drop k)).C.length c2) (itR (b.drop k)).C ∧ Below w.heap.size w w') → RetDAt w b k e w') := fun e w' h => .inr ⟨k, rfl, by rw [hl]; exact hkl, h⟩
    obtain ⟨x, hx⟩ : ∃ z, itR (b.drop k) = z := ⟨_, rfl⟩
    rw [hx] at FI RT hrl
    have I0 := Lib.hid I0
    have Y0 := Lib.hid y0
    have t1 : ¬ ((k : Int) < 0) := by omega
    have t2 : ¬ ((k : Int) ≥ (l : Int)) := by omega
    clear H hM hl hdl hne y0 hx hout
    go_enter Tryz.func15, Tryz.ntmps15
    go_wp2_with fail
    refine FI.mono ?_
    rintro e w1 ⟨A', c', B, c2, rfl, hO, hT, hb⟩
    obtain ⟨y, w2, hy, hw2, S2, y2, z2⟩ := Fr.box (Fr.nil w1) #[.int .i64 x.kind, .slice A' x.raw.length c', .string (sB x.m), .slice B x.C.length c2, .bool x.al] 31
    have I2 : ItAt w2 y x.kind (.slice A' x.raw.length c') (sB x.m) (.slice B x.C.length c2) x.al := S2.out.1
    have In : ItAt w2 n 0 (.slice none 0 0) ⟨#[]⟩ (.slice none 0 0) false := (I0.out.all hb).all y2
    obtain ⟨w3, hw3⟩ : ∃ z, w2.drew = z := ⟨_, rfl⟩
    have dq : Below w2.heap.size w2 w3 := by rw [← hw3]; exact below_drewN w2 _ 1
    have I3 := Lib.hid (I2.all dq)
    have N3 := Lib.hid (In.all dq)
    have O3 := Lib.hid ((hO.below y2).below dq)
    have T3 := Lib.hid ((hT.below y2).below dq)
    have B3 : Hid (Below n w w3) := (show Below n w w0 by rw [← HN.out]; exact Y0.out).trans (((hb.trans (y2.mono hb.size)).trans (dq.mono (by have := hb.size; omega))).mono (by omega))
    have hny : n < y := by have h := I0.out.lt; have := hb.size; omega
    clear FI hO hT hb S2 y2 I2 In dq I0 Y0
    go_upto_region 4 with fail
    refine Mixed.wp_region_mixed (fun w' => ItAt w' y x.kind (.slice A' x.raw.length c') (sB x.m) (.slice B x.C.length c2) x.al) 7 [(0, true), (1, true), (2, true), (3, true), (4, true), (5, true), (6, false)] (by kernel_rfl) (by kernel_rfl) (by rw [hw3]; exact I3.out) ?_
    rw [hw3]
    clear hw3
    refine Mixed.mo rfl (.agg #[.int .i64 x.kind, .slice A' x.raw.length c', .string (sB x.m), .slice B x.C.length c2, .bool x.al]) (fun w h => by obtain ⟨h0, h1, h2, h3, h4, h5⟩ := h.cells; clear h; go_simp; try rfl) ?_
    refine Mixed.mo rfl (.int .i64 (k : Int)) (fun w h => by clear h; go_simp; try rfl) ?_
    refine Mixed.mo rfl (.pointer (some ⟨y, 1, none⟩)) (fun w h => by clear h; go_simp; try rfl) ?_
    refine Mixed.mo rfl (.slice A' x.raw.length c') (fun w h => by obtain ⟨h0, h1, h2, h3, h4, h5⟩ := h.cells; clear h; go_simp; try rfl) ?_
    refine Mixed.mo rfl (.int .i64 (x.raw.length : Int)) (fun w h => by clear h; go_simp; try rfl) ?_
    refine Mixed.mo rfl (.int .i64 ((k + x.raw.length : Nat) : Int)) (fun w h => by clear h; go_simp; rw [IntKind.wrap_i64]; omega) ?_
    refine Mixed.wpMix_loud rfl ?_
    refine wpList_store_row rfl 31 _ _ rfl n #[.int .i64 x.kind, .slice A' x.raw.length c', .string (sB x.m), .slice B x.C.length c2, .bool x.al] rfl rfl _ _ N3.out (by kernel_rfl) (by kernel_rfl) (by kernel_rfl) ?_
    obtain ⟨w4, hw4⟩ : ∃ z, w3.setRow n #[.int .i64 x.kind, .slice A' x.raw.length c', .string (sB x.m), .slice B x.C.length c2, .bool x.al] = z := ⟨_, rfl⟩
    have i6 : ∀ k, k ≠ n → w4.heap[k]? = w3.heap[k]? := fun k hk => by rw [← hw4]; exact setRow_other w3 n k _ hk
    have i2 : Below n w3 w4 := by rw [← hw4]; exact below_setRow (Below.refl n w3) (Nat.le_refl _) _
    have i1 : ItAt w4 n x.kind (.slice A' x.raw.length c') (sB x.m) (.slice B x.C.length c2) x.al := by rw [← hw4]; exact setRow_heap w3 n _ _ 31 (0, 0) N3.out
    have I4 : ItAt w4 y x.kind (.slice A' x.raw.length c') (sB x.m) (.slice B x.C.length c2) x.al := (i6 y (by omega)).trans I3.out
    have F := Lib.hid (RT.out _ w4 ⟨A', c', B, c2, rfl, (it_ownB N3.out O3.out i6).lift (by omega), row_mono (it_ownT N3.out T3.out i6) (by omega), by rw [HN.out]; exact B3.out.trans i2⟩)
    rw [hw4]
    obtain ⟨j0, j1, j2, j3, j4, j5⟩ := i1.cells
    clear hw4 i1 i2 i6 I3 N3 O3 T3 B3 RT
    refine ⟨I4, ?_⟩
    clear I4
    simp only [Mixed.wpMix, List.drop_succ_cons, List.drop_zero]
    go_wp2
    refine bodyPost_ret (v := .tuple #[.agg #[.int .i64 x.kind, .slice A' x.raw.length c', .string (sB x.m), .slice B x.C.length c2, .bool x.al], .int .i64 ((k + x.raw.length : Nat) : Int), .bool true]) ?_ rfl F.out
    simp [results, Tryz.results15, go_sem, j0, j1, j2, j3, j4]
theorem kind_0 (w : World) : Calls Tryz.prog 16 #[.int .i64 0] w fun e w' => e = .returned (.string ⟨#[]⟩) ∧ w' = w := by
  go_enter Tryz.func16, Tryz.ntmps16
  go_wp2
  go_ret
  exact ⟨rfl, rfl⟩
theorem kind_1 (w : World) : Calls Tryz.prog 16 #[.int .i64 1] w fun e w' => e = .returned (.string ⟨#[99, 111, 100, 101]⟩) ∧ w' = w := by
  go_enter Tryz.func16, Tryz.ntmps16
  go_wp2
  go_ret
  exact ⟨rfl, rfl⟩
theorem kind_2 (w : World) : Calls Tryz.prog 16 #[.int .i64 2] w fun e w' => e = .returned (.string ⟨#[115, 116, 114, 97, 121]⟩) ∧ w' = w := by
  go_enter Tryz.func16, Tryz.ntmps16
  go_wp2
  go_ret
  exact ⟨rfl, rfl⟩
theorem kind_3 (w : World) : Calls Tryz.prog 16 #[.int .i64 3] w fun e w' => e = .returned (.string ⟨#[104, 111, 108, 101]⟩) ∧ w' = w := by
  go_enter Tryz.func16, Tryz.ntmps16
  go_wp2
  go_ret
  exact ⟨rfl, rfl⟩
theorem kind_4 (w : World) : Calls Tryz.prog 16 #[.int .i64 4] w fun e w' => e = .returned (.string ⟨#[116, 114, 117, 110, 99, 97, 116, 101, 100]⟩) ∧ w' = w := by
  go_enter Tryz.func16, Tryz.ntmps16
  go_wp2
  go_ret
  exact ⟨rfl, rfl⟩
theorem kind_5 (w : World) : Calls Tryz.prog 16 #[.int .i64 5] w fun e w' => e = .returned (.string ⟨#[]⟩) ∧ w' = w := by
  go_enter Tryz.func16, Tryz.ntmps16
  go_wp2
  go_ret
  exact ⟨rfl, rfl⟩
theorem bequal12_any (A1 A2 : Option Addr) (c1 c2 n1 n2 : Nat) (xs ys : Str) (h1 : xs.length = n1) (h2 : ys.length = n2) (w : World) (H1 : BytesAt w A1 xs) (H2 : BytesAt w A2 ys) :
    Calls Tryz.prog 27 #[.slice A1 n1 c1, .slice A2 n2 c2] w fun e w' => e = .returned (.bool (decide (xs = ys))) ∧ w' = w := by
  subst h1 h2
  have s1 := conv_sB H1 c1
  have s2 := conv_sB H2 c2
  have E := sBq_neq xs ys
  obtain ⟨d, hd⟩ : ∃ z, decide (xs = ys) = z := ⟨_, rfl⟩
  rw [hd] at E ⊢
  obtain ⟨y1, hy1⟩ : ∃ n, xs.length = n := ⟨_, rfl⟩
  obtain ⟨y2, hy2⟩ : ∃ n, ys.length = n := ⟨_, rfl⟩
  rw [hy1] at s1 ⊢
  rw [hy2] at s2 ⊢
  clear H1 H2 hd hy1 hy2
  go_enter Tryz.func27, Tryz.ntmps27
  go_wp2
  go_ret
  exact ⟨rfl, rfl⟩
theorem dsame_any (k1 k2 : Int) (xs ys : Str) (m1 m2 : Str) (al1 al2' : Bool) (A1 A2 B1 B2 : Option Addr) (c1 c2 d1 d2 : Nat) (L1 L2 : List Tr) (h1 : L1.length ≤ 1000) (h2 : L2.length ≤ 1000) (w : World) (H1 : BytesAt w A1 xs) (H2 : BytesAt w A2 ys) (P1 : OpsP w B1 L1) (P2 : OpsP w B2 L2) :
    Calls Tryz.prog 17 #[.agg #[.int .i64 k1, .slice A1 xs.length c1, .string (sB m1), .slice B1 L1.length d1, .bool al1], .agg #[.int .i64 k2, .slice A2 ys.length c2, .string (sB m2), .slice B2 L2.length d2, .bool al2']] w
      fun e w' => e = .returned (.bool (decide (k1 = k2) && decide (xs = ys) && (decide (m1 = m2) && decide (L1 = L2)) && (al1 == al2'))) ∧ Below w.heap.size w w' := by
  obtain ⟨y1, hy1⟩ : ∃ n, xs.length = n := ⟨_, rfl⟩
  obtain ⟨y2, hy2⟩ : ∃ n, ys.length = n := ⟨_, rfl⟩
  obtain ⟨n1, hn1⟩ : ∃ n, L1.length = n := ⟨_, rfl⟩
  obtain ⟨n2, hn2⟩ : ∃ n, L2.length = n := ⟨_, rfl⟩
  rw [hy1, hy2, hn1, hn2]
  obtain ⟨b1, wa, hb1, hwa, Sa, ya, za⟩ := Fr.box (Fr.nil w) #[.int .i64 k1, .slice A1 y1 c1, .string (sB m1), .slice B1 n1 d1, .bool al1] 31
  obtain ⟨b2, wb, hb2, hwb, Sb, yb, zb⟩ := Fr.box Sa #[.int .i64 k2, .slice A2 y2 c2, .string (sB m2), .slice B2 n2 d2, .bool al2'] 31
  obtain rfl : b2 = b1 + 1 := by omega
  have I2 : ItAt wb (b1 + 1) k2 (.slice A2 y2 c2) (sB m2) (.slice B2 n2 d2) al2' := Sb.out.1
  have I1 : ItAt wb b1 k1 (.slice A1 y1 c1) (sB m1) (.slice B1 n1 d1) al1 := Sb.out.2.1
  have BE := Lib.hid (bequal12_any A1 A2 c1 c2 y1 y2 xs ys hy1 hy2 wb ((H1.below ya).below yb) ((H2.below ya).below yb))
  have SM := Lib.hid (isame2_any (sB m1) (sB m2) B1 B2 d1 d2 n1 n2 L1 L2 hn1 hn2 (by omega) (by omega) wb ((P1.below ya).below yb) ((P2.below ya).below yb))
  have hsb : decide (sB m1 = sB m2) = decide (m1 = m2) := by
    by_cases e : m1 = m2
    · rw [e, decide_eq_true rfl, decide_eq_true rfl]
    · rw [decide_eq_false e, decide_eq_false (fun h => e (by simpa [sB] using congrArg (fun s => s.data.toList) h))]
  rw [hsb] at SM
  have Bb : Hid (Below w.heap.size w wb) := ya.trans (yb.mono (by omega))
  obtain ⟨t2, ht2⟩ : ∃ z, decide (xs = ys) = z := ⟨_, rfl⟩
  obtain ⟨t3, ht3⟩ : ∃ z, (decide (m1 = m2) && decide (L1 = L2)) = z := ⟨_, rfl⟩
  rw [ht2] at BE ⊢
  rw [ht3] at SM ⊢
  obtain ⟨i0, i1, i2, i3, i4, i5⟩ := I1.cells
  obtain ⟨j0, j1, j2, j3, j4, j5⟩ := I2.cells
  have T1 : Hid ((k1 == k2) = decide (k1 = k2)) := rfl
  obtain ⟨t1, ht1⟩ : ∃ z, (k1 == k2) = z := ⟨_, rfl⟩
  rw [ht1] at T1
  rw [← T1.out]
  have I1 := Lib.hid I1
  have I2 := Lib.hid I2
  clear H1 H2 P1 P2 Sa Sb ya yb hsb ht2 ht3 hy1 hy2 hn1 hn2
  cases t1
  · skip
    go_enter Tryz.func17, Tryz.ntmps17
    go_wp2
    go_ret
    exact ⟨rfl, Bb.out⟩
  · skip
    go_enter Tryz.func17, Tryz.ntmps17
    go_wp2_with fail
    refine BE.out.mono ?_
    rintro e w' ⟨rfl, hw⟩
    rw [hw]
    clear hw BE
    cases t2
    · clear SM
      go_wp2
      go_ret
      exact ⟨rfl, Bb.out⟩
    · go_wp2_with fail
      refine SM.out.mono ?_
      rintro e w3 ⟨rfl, hb⟩
      have B3 : Hid (Below w.heap.size w w3) := Bb.out.trans (hb.mono Bb.out.size)
      obtain ⟨f0, f1, f2, f3, f4, f5⟩ := (I1.out.all hb).cells
      obtain ⟨g0, g1, g2, g3, g4, g5⟩ := (I2.out.all hb).cells
      clear SM hb Bb I1 I2
      cases t3
      · go_wp2
        go_ret
        exact ⟨rfl, B3.out⟩
      · go_wp2
        go_ret
        exact ⟨rfl, B3.out⟩
end Go.Proofs.YtclhaejdjogfbaaGreat
