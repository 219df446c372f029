/-
  DgJ, StO, ItD, ItE, ItC.
-/
import Derived.Test.YtmnleknehjkmgaaGreatGAV
import Derived.Test.YtmnleknehjkmgaaGreatGAR
import Derived.Test.YtmnleknehjkmgaaGreatGAB
import Derived.Test.YtmnleknehjkmgaaGreatGAS
import Derived.Test.YtmnleknehjkmgaaGreatGAT
import Derived.Laws.CopyOwn
import Derived.Laws.Tables
set_option linter.all false
set_option maxRecDepth 100000
set_option maxHeartbeats 4000000
namespace Go.Proofs.YtmnleknehjkmgaaGreat
open Go.RowKit Go.Shelf
attribute [local go_sem] Oper.semAt_some
attribute [local irreducible] Go.Mixed.wpMix
def RetDAt (w : World) (b : Str) (at_ : Int) (e : Ending) (w' : World) : Prop :=
  ((at_ < 0 ∨ (b.length : Int) ≤ at_) ∧ e = .returned (.tuple #[.agg #[.int .i64 0, .slice none 0 0, .string ⟨#[]⟩, .slice none 0 0, .bool false], .int .i64 0, .bool false]) ∧ Below w.heap.size w w') ∨
  (∃ k : Nat, at_ = k ∧ k < b.length ∧ ∃ A c B c2, e = .returned (.tuple #[.agg #[.int .i64 (itR (b.drop k)).kind, .slice A (itR (b.drop k)).raw.length c, .string (sB (itR (b.drop k)).m), .slice B (itR (b.drop k)).C.length c2, .bool (itR (b.drop k)).al], .int .i64 ((k + (itR (b.drop k)).raw.length : Nat) : Int), .bool true]) ∧
    TOwnB w' w.heap.size (.slice A (itR (b.drop k)).raw.length c) (itR (b.drop k)).raw ∧ OwnT w' w.heap.size (.slice B (itR (b.drop k)).C.length c2) (itR (b.drop k)).C ∧ Below w.heap.size w w')
theorem raw_le (b : Str) : (itR b).raw.length ≤ b.length := by
  unfold itR
  split
  · exact Nat.le_refl _
  · split
    · split
      · show (b.take 1).length ≤ _; rw [List.length_take]; omega
      · show (b.take 2).length ≤ _; rw [List.length_take]; omega
    · split
      · exact Nat.le_refl _
      · show (b.take _).length ≤ _; rw [List.length_take]; omega
theorem drop_at2 {w : World} {g off : Nat} {xs : Str} (h : BytesAt w (some ⟨g, off, none⟩) xs) (k : Nat) : BytesAt w (some ⟨g, off + k, none⟩) (xs.drop k) := by
  rcases h with rfl | ⟨b, o, e, hc⟩
  · exact .inl (by simp)
  · simp only [Option.some.injEq, Addr.mk.injEq] at e
    obtain ⟨rfl, rfl, -⟩ := e
    refine .inr ⟨g, off + k, rfl, fun j hj => ?_⟩
    rw [List.length_drop] at hj
    rw [List.getElem_drop, Nat.add_assoc]
    exact hc (k + j) (by omega)
theorem dat_any (b : Str) (A : Option Addr) (cap l : Nat) (hl : b.length = l) (hc : l ≤ cap) (hcm : cap ≤ maxLen) (hl2 : l ≤ 100000) (w : World) (H : BytesAt w A b) (hM : MaxAt w) (at_ : Int) :
    Calls Tryz.prog 42 #[.slice A l cap, .int .i64 at_] w (RetDAt w b at_) := by
  obtain ⟨n, hn⟩ : ∃ z, w.heap.size = z := ⟨_, rfl⟩
  obtain ⟨w0, hw0, I0, y0, z0⟩ := it_start w n hn
  have HN := Lib.hid hn
  have HL := Lib.hid hl
  by_cases hout : at_ < 0 ∨ (l : Int) ≤ at_
  · obtain ⟨w1, hw1, i1, i2, i3, i4, i5, i6⟩ := I0.put 0 (.slice none 0 0) ⟨#[]⟩ (.slice none 0 0) false
    obtain ⟨k0, k1, k2, k3, k4, k5⟩ := I0.cells
    obtain ⟨j0, j1, j2, j3, j4, j5⟩ := i1.cells
    have F : Hid (RetDAt w b at_ (.returned (.tuple #[.agg #[.int .i64 0, .slice none 0 0, .string ⟨#[]⟩, .slice none 0 0, .bool false], .int .i64 0, .bool false])) w1) := .inl ⟨by rw [hl]; exact hout, rfl, y0.trans (by rw [hn]; exact i2)⟩
    have hh : decide (at_ < 0) = true ∨ (decide (at_ < 0) = false ∧ decide ((l : Int) ≤ at_) = true) := by
      by_cases h : at_ < 0
      · exact .inl (decide_eq_true h)
      · exact .inr ⟨decide_eq_false h, decide_eq_true (by omega)⟩
    have hx : at_ < 0 ∨ (¬ at_ < 0 ∧ at_ ≥ (l : Int)) := by omega
    clear H hM hl I0 y0 i1 i2 i3 i4 i5 i6 hout
    rcases hx with t1 | ⟨t1, t2⟩
    · clear hh
      go_enter Tryz.func42, Tryz.ntmps42
      go_wp2
      refine bodyPost_ret (v := .tuple #[.agg #[.int .i64 0, .slice none 0 0, .string ⟨#[]⟩, .slice none 0 0, .bool false], .int .i64 0, .bool false]) ?_ rfl F.out
      simp [results, Tryz.results42, go_sem, j0, j1, j2, j3, j4]
    · clear hh
      go_enter Tryz.func42, Tryz.ntmps42
      go_wp2
      refine bodyPost_ret (v := .tuple #[.agg #[.int .i64 0, .slice none 0 0, .string ⟨#[]⟩, .slice none 0 0, .bool false], .int .i64 0, .bool false]) ?_ rfl F.out
      simp [results, Tryz.results42, go_sem, j0, j1, j2, j3, j4]
  · obtain ⟨k, rfl⟩ : ∃ k : Nat, at_ = k := ⟨at_.toNat, by omega⟩
    have hkl : k < l := by omega
    obtain ⟨g, off, rfl, -⟩ := H.cellAt (j := k) (by omega)
    have hne : b.drop k ≠ [] := fun e => by
      have := congrArg List.length e
      rw [List.length_drop, hl] at this
      simp at this
      omega
    have hdl : (b.drop k).length = l - k := by rw [List.length_drop, hl]
    have FI := dfirst_any (b.drop k) (some ⟨g, off + k, none⟩) (cap - k) (l - k) hdl (by omega) (by omega) (by omega) w0 ((drop_at2 H k).below y0) (hM.below y0)
    rw [itP_ne hne] at FI
    have hrl := raw_le (b.drop k)
    rw [hdl] at hrl
    have RT : Hid (∀ e w', (∃ A c B c2, e = .returned (.tuple #[.agg #[.int .i64 (itR (b.drop k)).kind, .slice A (itR (b.drop k)).raw.length c, .string (sB (itR (b.drop k)).m), .slice B (itR (b.drop k)).C.length c2, .bool (itR (b.drop k)).al], .int .i64 ((k + (itR (b.drop k)).raw.length : Nat) : Int), .bool true]) ∧
      TOwnB w' w.heap.size (.slice A (itR (b.drop k)).raw.length c) (itR (b.drop k)).raw ∧ OwnT w' w.heap.size (.slice B (itR (b.drop k)).C.length c2) (itR (b.drop k)).C ∧ Below w.heap.size w w') → RetDAt w b k e w') := fun e w' h => .inr ⟨k, rfl, by rw [hl]; exact hkl, h⟩
    obtain ⟨x, hx⟩ : ∃ z, itR (b.drop k) = z := ⟨_, rfl⟩
    rw [hx] at FI RT hrl
    have I0 := Lib.hid I0
    have Y0 := Lib.hid y0
    have t1 : ¬ ((k : Int) < 0) := by omega
    have t2 : ¬ ((k : Int) ≥ (l : Int)) := by omega
    clear H hM hl hdl hne y0 hx hout
    go_enter Tryz.func42, Tryz.ntmps42
    go_wp2_with fail
    refine FI.mono ?_
    rintro e w1 ⟨A', c', B, c2, rfl, hO, hT, hb⟩
    obtain ⟨y, w2, hy, hw2, S2, y2, z2⟩ := Fr.box (Fr.nil w1) #[.int .i64 x.kind, .slice A' x.raw.length c', .string (sB x.m), .slice B x.C.length c2, .bool x.al] 34
    have I2 : ItAt w2 y x.kind (.slice A' x.raw.length c') (sB x.m) (.slice B x.C.length c2) x.al := S2.out.1
    have In : ItAt w2 n 0 (.slice none 0 0) ⟨#[]⟩ (.slice none 0 0) false := (I0.out.all hb).all y2
    obtain ⟨w3, hw3⟩ : ∃ z, w2.drew = z := ⟨_, rfl⟩
    have dq : Below w2.heap.size w2 w3 := by rw [← hw3]; exact below_drewN w2 _ 1
    have I3 := Lib.hid (I2.all dq)
    have N3 := Lib.hid (In.all dq)
    have O3 := Lib.hid ((hO.below y2).below dq)
    have T3 := Lib.hid ((hT.below y2).below dq)
    have B3 : Hid (Below n w w3) := (show Below n w w0 by rw [← HN.out]; exact Y0.out).trans (((hb.trans (y2.mono hb.size)).trans (dq.mono (by have := hb.size; omega))).mono (by omega))
    have hny : n < y := by have h := I0.out.lt; have := hb.size; omega
    clear FI hO hT hb S2 y2 I2 In dq I0 Y0
    go_upto_region 4 with fail
    refine Mixed.wp_region_mixed (fun w' => ItAt w' y x.kind (.slice A' x.raw.length c') (sB x.m) (.slice B x.C.length c2) x.al) 7 [(0, true), (1, true), (2, true), (3, true), (4, true), (5, true), (6, false)] (by kernel_rfl) (by kernel_rfl) (by rw [hw3]; exact I3.out) ?_
    rw [hw3]
    clear hw3
    refine Mixed.mo rfl (.agg #[.int .i64 x.kind, .slice A' x.raw.length c', .string (sB x.m), .slice B x.C.length c2, .bool x.al]) (fun w h => by obtain ⟨h0, h1, h2, h3, h4, h5⟩ := h.cells; clear h; go_simp; try rfl) ?_
    refine Mixed.mo rfl (.int .i64 (k : Int)) (fun w h => by clear h; go_simp; try rfl) ?_
    refine Mixed.mo rfl (.pointer (some ⟨y, 1, none⟩)) (fun w h => by clear h; go_simp; try rfl) ?_
    refine Mixed.mo rfl (.slice A' x.raw.length c') (fun w h => by obtain ⟨h0, h1, h2, h3, h4, h5⟩ := h.cells; clear h; go_simp; try rfl) ?_
    refine Mixed.mo rfl (.int .i64 (x.raw.length : Int)) (fun w h => by clear h; go_simp; try rfl) ?_
    refine Mixed.mo rfl (.int .i64 ((k + x.raw.length : Nat) : Int)) (fun w h => by clear h; go_simp; rw [IntKind.wrap_i64]; omega) ?_
    refine Mixed.wpMix_loud rfl ?_
    refine wpList_store_row rfl 34 _ _ rfl n #[.int .i64 x.kind, .slice A' x.raw.length c', .string (sB x.m), .slice B x.C.length c2, .bool x.al] rfl rfl _ _ N3.out (by kernel_rfl) (by kernel_rfl) (by kernel_rfl) ?_
    obtain ⟨w4, hw4⟩ : ∃ z, w3.setRow n #[.int .i64 x.kind, .slice A' x.raw.length c', .string (sB x.m), .slice B x.C.length c2, .bool x.al] = z := ⟨_, rfl⟩
    have i6 : ∀ k, k ≠ n → w4.heap[k]? = w3.heap[k]? := fun k hk => by rw [← hw4]; exact setRow_other w3 n k _ hk
    have i2 : Below n w3 w4 := by rw [← hw4]; exact below_setRow (Below.refl n w3) (Nat.le_refl _) _
    have i1 : ItAt w4 n x.kind (.slice A' x.raw.length c') (sB x.m) (.slice B x.C.length c2) x.al := by rw [← hw4]; exact setRow_heap w3 n _ _ 34 (0, 0) N3.out
    have I4 : ItAt w4 y x.kind (.slice A' x.raw.length c') (sB x.m) (.slice B x.C.length c2) x.al := (i6 y (by omega)).trans I3.out
    have F := Lib.hid (RT.out _ w4 ⟨A', c', B, c2, rfl, (it_ownB N3.out O3.out i6).lift (by omega), row_mono (it_ownT N3.out T3.out i6) (by omega), by rw [HN.out]; exact B3.out.trans i2⟩)
    rw [hw4]
    obtain ⟨j0, j1, j2, j3, j4, j5⟩ := i1.cells
    clear hw4 i1 i2 i6 I3 N3 O3 T3 B3 RT
    refine ⟨I4, ?_⟩
    clear I4
    simp only [Mixed.wpMix, List.drop_succ_cons, List.drop_zero]
    go_wp2
    refine bodyPost_ret (v := .tuple #[.agg #[.int .i64 x.kind, .slice A' x.raw.length c', .string (sB x.m), .slice B x.C.length c2, .bool x.al], .int .i64 ((k + x.raw.length : Nat) : Int), .bool true]) ?_ rfl F.out
    simp [results, Tryz.results42, go_sem, j0, j1, j2, j3, j4]
theorem bequal12_any (A1 A2 : Option Addr) (c1 c2 n1 n2 : Nat) (xs ys : Str) (h1 : xs.length = n1) (h2 : ys.length = n2) (w : World) (H1 : BytesAt w A1 xs) (H2 : BytesAt w A2 ys) :
    Calls Tryz.prog 49 #[.slice A1 n1 c1, .slice A2 n2 c2] w fun e w' => e = .returned (.bool (decide (xs = ys))) ∧ w' = w := by
  subst h1 h2
  have s1 := conv_sB H1 c1
  have s2 := conv_sB H2 c2
  have E := sBq_neq xs ys
  obtain ⟨d, hd⟩ : ∃ z, decide (xs = ys) = z := ⟨_, rfl⟩
  rw [hd] at E ⊢
  obtain ⟨y1, hy1⟩ : ∃ n, xs.length = n := ⟨_, rfl⟩
  obtain ⟨y2, hy2⟩ : ∃ n, ys.length = n := ⟨_, rfl⟩
  rw [hy1] at s1 ⊢
  rw [hy2] at s2 ⊢
  clear H1 H2 hd hy1 hy2
  go_enter Tryz.func49, Tryz.ntmps49
  go_wp2
  go_ret
  exact ⟨rfl, rfl⟩
theorem dsame_any (k1 k2 : Int) (xs ys : Str) (m1 m2 : Str) (al1 al2' : Bool) (A1 A2 B1 B2 : Option Addr) (c1 c2 d1 d2 : Nat) (L1 L2 : List Tr) (h1 : L1.length ≤ 1000) (h2 : L2.length ≤ 1000) (w : World) (H1 : BytesAt w A1 xs) (H2 : BytesAt w A2 ys) (P1 : OpsP w B1 L1) (P2 : OpsP w B2 L2) :
    Calls Tryz.prog 33 #[.agg #[.int .i64 k1, .slice A1 xs.length c1, .string (sB m1), .slice B1 L1.length d1, .bool al1], .agg #[.int .i64 k2, .slice A2 ys.length c2, .string (sB m2), .slice B2 L2.length d2, .bool al2']] w
      fun e w' => e = .returned (.bool (decide (k1 = k2) && decide (xs = ys) && (decide (m1 = m2) && decide (L1 = L2)) && (al1 == al2'))) ∧ Below w.heap.size w w' := by
  obtain ⟨y1, hy1⟩ : ∃ n, xs.length = n := ⟨_, rfl⟩
  obtain ⟨y2, hy2⟩ : ∃ n, ys.length = n := ⟨_, rfl⟩
  obtain ⟨n1, hn1⟩ : ∃ n, L1.length = n := ⟨_, rfl⟩
  obtain ⟨n2, hn2⟩ : ∃ n, L2.length = n := ⟨_, rfl⟩
  rw [hy1, hy2, hn1, hn2]
  obtain ⟨b1, wa, hb1, hwa, Sa, ya, za⟩ := Fr.box (Fr.nil w) #[.int .i64 k1, .slice A1 y1 c1, .string (sB m1), .slice B1 n1 d1, .bool al1] 34
  obtain ⟨b2, wb, hb2, hwb, Sb, yb, zb⟩ := Fr.box Sa #[.int .i64 k2, .slice A2 y2 c2, .string (sB m2), .slice B2 n2 d2, .bool al2'] 34
  obtain rfl : b2 = b1 + 1 := by omega
  have I2 : ItAt wb (b1 + 1) k2 (.slice A2 y2 c2) (sB m2) (.slice B2 n2 d2) al2' := Sb.out.1
  have I1 : ItAt wb b1 k1 (.slice A1 y1 c1) (sB m1) (.slice B1 n1 d1) al1 := Sb.out.2.1
  have BE := Lib.hid (bequal12_any A1 A2 c1 c2 y1 y2 xs ys hy1 hy2 wb ((H1.below ya).below yb) ((H2.below ya).below yb))
  have SM := Lib.hid (isame2_any (sB m1) (sB m2) B1 B2 d1 d2 n1 n2 L1 L2 hn1 hn2 (by omega) (by omega) wb ((P1.below ya).below yb) ((P2.below ya).below yb))
  have hsb : decide (sB m1 = sB m2) = decide (m1 = m2) := by
    by_cases e : m1 = m2
    · rw [e, decide_eq_true rfl, decide_eq_true rfl]
    · rw [decide_eq_false e, decide_eq_false (fun h => e (by simpa [sB] using congrArg (fun s => s.data.toList) h))]
  rw [hsb] at SM
  have Bb : Hid (Below w.heap.size w wb) := ya.trans (yb.mono (by omega))
  obtain ⟨t2, ht2⟩ : ∃ z, decide (xs = ys) = z := ⟨_, rfl⟩
  obtain ⟨t3, ht3⟩ : ∃ z, (decide (m1 = m2) && decide (L1 = L2)) = z := ⟨_, rfl⟩
  rw [ht2] at BE ⊢
  rw [ht3] at SM ⊢
  obtain ⟨i0, i1, i2, i3, i4, i5⟩ := I1.cells
  obtain ⟨j0, j1, j2, j3, j4, j5⟩ := I2.cells
  have T1 : Hid ((k1 == k2) = decide (k1 = k2)) := rfl
  obtain ⟨t1, ht1⟩ : ∃ z, (k1 == k2) = z := ⟨_, rfl⟩
  rw [ht1] at T1
  rw [← T1.out]
  have I1 := Lib.hid I1
  have I2 := Lib.hid I2
  clear H1 H2 P1 P2 Sa Sb ya yb hsb ht2 ht3 hy1 hy2 hn1 hn2
  cases t1
  · skip
    go_enter Tryz.func33, Tryz.ntmps33
    go_wp2
    go_ret
    exact ⟨rfl, Bb.out⟩
  · skip
    go_enter Tryz.func33, Tryz.ntmps33
    go_wp2_with fail
    refine BE.out.mono ?_
    rintro e w' ⟨rfl, hw⟩
    rw [hw]
    clear hw BE
    cases t2
    · clear SM
      go_wp2
      go_ret
      exact ⟨rfl, Bb.out⟩
    · go_wp2_with fail
      refine SM.out.mono ?_
      rintro e w3 ⟨rfl, hb⟩
      have B3 : Hid (Below w.heap.size w w3) := Bb.out.trans (hb.mono Bb.out.size)
      obtain ⟨f0, f1, f2, f3, f4, f5⟩ := (I1.out.all hb).cells
      obtain ⟨g0, g1, g2, g3, g4, g5⟩ := (I2.out.all hb).cells
      clear SM hb Bb I1 I2
      cases t3
      · go_wp2
        go_ret
        exact ⟨rfl, B3.out⟩
      · go_wp2
        go_ret
        exact ⟨rfl, B3.out⟩
end Go.Proofs.YtmnleknehjkmgaaGreat
namespace Go.Stops
open Go Go.RowKit
def ApartT {β : Type} (T : TypeId) (q : Nat) (J : β → World → Prop) : Prop := ∀ s X Y, J s X → X.grownBy Y (some q) → (∃ cur fz, X.heap[q]? = some (.cells cur T fz)) → J s Y
def TellsQ {α : Type} (F : Fence) (n : Nat) (P : Program) (g : Nat) (lb : Array Value) (encs : α → Array Value) (T : TypeId) (E : Nat → List α → α → World → Prop) (Kp : Nat → World → World → Prop) (S : List α → Prop) (w : World) : Prop :=
  ∀ (l : Nat) (J Jx : Nat → List α → World → Prop) (W : World), Below w.heap.size w W → (∀ q, W.heap.size ≤ q → AbidesFrom W.heap.size (J q)) → (∀ q, W.heap.size ≤ q → ApartT T q (J q)) →
    (∀ q pre x W1, W.heap.size ≤ q → q < W1.heap.size → J q pre W1 → E q pre x W1 → YieldAt F (n - 1) P l (encs x) W1 fun e W' => (e = .returned (.bool true) ∧ J q (pre ++ [x]) W' ∧ Kp q W1 W') ∨ (e = .returned (.bool false) ∧ Jx q (pre ++ [x]) W')) →
    (∀ q, W.heap.size ≤ q → AbidesFrom W.heap.size (Jx q)) → (∀ q X, W.heap.size ≤ q → Below W.heap.size W X → q < X.heap.size → J q [] X) → CallsIn F n P g (#[.func (.yield l) #[] #[]] ++ lb) W fun e W' => (∃ v, e = .returned v) ∧ ((∃ q xs, W.heap.size ≤ q ∧ S xs ∧ J q xs W') ∨ ∃ q pre, W.heap.size ≤ q ∧ Jx q pre W')
variable {F : Fence} {n : Nat} {P : Program}
theorem wpIn_tellsQ {α : Type} {g : Operand} {ps : Array Tmp} {assign body : Code} {Q : Exit → Act → World → Prop} {a : Act} {w : World} (hro : F.round = none) (h1 : 1 ≤ n)
    {gf : Nat} {lb : Array Value} (hg : a.eval g = .func (.func gf) #[] lb) (hFg : F.fn gf) (eg : ∀ args w, (callFunc gf args).run P w = .ok (.enter gf args) w)
    {encs : α → Array Value} {T : TypeId} {E : Nat → List α → α → World → Prop} {Kp : Nat → World → World → Prop} {S : List α → Prop} (hseq : TellsQ F (n - 1) P gf lb encs T E Kp S w)
    (hKt : ∀ {q : Nat} {A B C : World}, Kp q A B → Kp q B C → Kp q A C) (hKb : ∀ (q : Nat) (W : World) (l : Nat) (o o' : Obj), w.heap.size ≤ l → W.heap[l]? = some o → o.isCells = false → Kp q W (W.putObj l o')) (hps : ∀ x, (encs x).size = ps.size)
    (I Ix : Nat → List α → World → Prop) (hI : ∀ q, w.heap.size + 2 ≤ q → OwnFrom w.heap.size (I q)) (hIB : ∀ q, w.heap.size + 2 ≤ q → ApartT T q (I q)) (hIx : ∀ q, w.heap.size + 2 ≤ q → OwnFrom w.heap.size (Ix q)) (h0 : ∀ q X, w.heap.size + 2 ≤ q → Below w.heap.size w X → q < X.heap.size → I q [] X) (Ax : Nat → List α → α → Act → World → Prop) (hAx : ∀ q p x, OwnFrom w.heap.size (Ax q p x))
    (hassign : ∀ (l q : Nat) (pre : List α) (x : α) (W : World) (K : Act → World → Prop), w.heap.size + 2 ≤ q → q < W.heap.size → I q pre W → E q pre x W → (∀ a' W', KeepsFrom w.heap.size W W' → Kp q W W' → q < W'.heap.size → I q pre W' → Ax q pre x a' W' → K a' W') →
      assign.wpIn (F.inRound l) (n - 1 - 1) P (Exit.then K (fun _ _ _ => False)) { tmps := (ps.zip (encs x)).foldl (fun t (p, v) => t.setIfInBounds p v) a.tmps, defers := [] } W)
    (hbody : ∀ (l q : Nat) (pre : List α) (x : α) (a' : Act) (W : World), w.heap.size + 2 ≤ q → q < W.heap.size → I q pre W → Ax q pre x a' W → body.wpIn (F.inRound l) (n - 1 - 1) P (endsSo w.heap.size (Kp q) (I q) (Ix q) (pre ++ [x]) W) a' W)
    (hdone : ∀ (D q : Nat) (xs : List α) (W : World), w.heap.size ≤ D → w.heap.size + 2 ≤ q → S xs → I q xs W → W.heap[D]? = some (.deferred (some [])) → Q .normal { a with defers := { target := .collected D, args := #[] } :: a.defers } W)
    (hstop : ∀ (D q : Nat) (pre : List α) (W : World), w.heap.size ≤ D → w.heap.size + 2 ≤ q → Ix q pre W → W.heap[D]? = some (.deferred (some [])) → Code.ret.wpIn F n P Q { a with defers := { target := .collected D, args := #[] } :: a.defers } W) :
    (Code.rangeFunc g ps assign body).wpIn F n P Q a w := by
  refine wpIn_rangeFunc fun fn hfn => ?_
  rw [hro]
  let R : LoopState → Option Code → Loop := fun st j => { state := st, pending := j, fn := fn, tmps := a.tmps, params := ps, assign := assign, body := body, defers := w.heap.size }
  let B : World := (w.alloc (.deferred (some []))).alloc (.loop (R .ready none))
  have bD : B.heap[w.heap.size]? = some (.deferred (some [])) := (Below.heap_alloc _ _ _ (by simp)).trans (World.alloc_heap_new w _)
  have bL : B.heap[w.heap.size + 1]? = some (.loop (R .ready none)) := by
    have h := World.alloc_heap_new (w.alloc (.deferred (some []))) (.loop (R .ready none))
    rwa [World.size_alloc] at h
  have bB : Below w.heap.size w B := ((Below.refl _ w).alloc (Nat.le_refl _) _).alloc (by simp) _
  have bz : B.heap.size = w.heap.size + 1 + 1 := by simp [B]
  -- what a turn of a walk of the iterator's own leaves of the two blocks
  have walk : ∀ {X Y : World} {row : Option Nat} {k : Nat} {o : Obj}, X.grownBy Y row → (∀ r, row = some r → B.heap.size ≤ r ∧ ∃ o : Obj, X.heap[r]? = some o ∧ o.isWalk = true) → X.heap[k]? = some o → k < w.heap.size + 2 → Y.heap[k]? = some o := fun hg' hr hk hlt =>
    (hg'.block _ (Array.getElem?_eq_some_iff.1 hk).1 fun e => by have := (hr _ e.symm).1; omega).trans hk
  have cells : ∀ {X Y : World} {row : Option Nat}, (∀ r, row = some r → B.heap.size ≤ r ∧ ∃ o : Obj, X.heap[r]? = some o ∧ o.isWalk = true) → (∀ r, row = some r → w.heap.size ≤ r ∧ ∃ o : Obj, X.heap[r]? = some o ∧ o.isCells = false) := fun hr r e => by
    obtain ⟨k1, o, k2, k3⟩ := hr r e
    exact ⟨by omega, o, k2, Obj.not_cells_of_walk k3⟩
  refine ⟨w.heap.size + 1, [{ target := .collected w.heap.size, args := #[] }], B, { target := .fn (.func gf) lb, args := #[.func (.yield (w.heap.size + 1)) #[] #[]] }, B, gf, #[.func (.yield (w.heap.size + 1)) #[] #[]] ++ lb, B,
    run_enterLoop_outer _ _ _ _ _, by simp only [resolve, hg]; simp [go_sem], fun f' hf' => by simp [Target.leads] at hf'; subst hf'; exact hFg, by simp [invoke, go_sem, eg], fun _ => h1, ?_⟩
  refine (hseq (w.heap.size + 1) (fun q pre W => I q pre W ∧ W.heap[w.heap.size + 1]? = some (.loop (R .ready none)) ∧ W.heap[w.heap.size]? = some (.deferred (some [])))
    (fun q pre W => Ix q pre W ∧ W.heap[w.heap.size + 1]? = some (.loop (R .done (some .ret))) ∧ W.heap[w.heap.size]? = some (.deferred (some []))) B bB ?_ ?_ ?_ ?_ ?_).mono ?_
  · rintro q hq s X Y row ⟨s1, s2, s3⟩ hg' hr
    exact ⟨hI q (by omega) s X Y row s1 hg' (cells (Y := Y) hr), walk hg' hr s2 (by omega), walk hg' hr s3 (by omega)⟩
  · rintro q hq s X Y ⟨s1, s2, s3⟩ hg' hT
    have r : ∀ {k : Nat} {o : Obj}, X.heap[k]? = some o → k < w.heap.size + 2 → Y.heap[k]? = some o := fun ho hk => (hg'.block _ (Array.getElem?_eq_some_iff.1 ho).1 fun e => by have := Option.some.inj e; omega).trans ho
    exact ⟨hIB q (by omega) s X Y s1 hg' hT, r s2 (by omega), r s3 (by omega)⟩
  · rintro q pre x W hq hqW ⟨s1, s2, s3⟩ hx
    refine ⟨fn, _, assign, body, run_yield (P := P) (args := encs x) s2 (hps x), roundIn_of_wpIn hfn (hassign _ q pre x W _ (by omega) hqW s1 hx fun a' U u1 uK uq uI uA => ?_)⟩
    have u2 := u1.same _ _ (by omega) s2 rfl
    have u3 := u1.same _ _ (Nat.le_refl _) s3 rfl
    have hlu : w.heap.size + 1 < U.heap.size := (Array.getElem?_eq_some_iff.1 u2).1
    refine ⟨_, run_beginRound u2 rfl, ?_⟩
    obtain ⟨V, hV⟩ : ∃ V, U.putObj (w.heap.size + 1) (.loop { R .ready none with state := .busy }) = V := ⟨_, rfl⟩
    have v2 : V.heap[w.heap.size + 1]? = some (.loop { R .ready none with state := .busy }) := hV ▸ World.putObj_heap_same hlu
    have v3 : V.heap[w.heap.size]? = some (.deferred (some [])) := hV ▸ (World.putObj_heap_other (by omega)).trans u3
    have vI : I q pre V := hV ▸ (hI q (by omega)).putObj _ uI (by omega) u2 rfl
    have vE : Ax q pre x a' V := hV ▸ (hAx q pre x).putObj _ uA (by omega) u2 rfl
    have vK : Kp q W V := hKt uK (hV ▸ hKb _ _ _ _ _ (by omega) u2 rfl)
    have vq : q < V.heap.size := by rw [← hV]; simpa using uq
    show body.wpIn _ _ _ _ _ (U.putObj (w.heap.size + 1) (.loop { R .ready none with state := .busy }))
    rw [hV]
    refine wpIn_mono (hbody _ q pre x a' V (by omega) vq vI vE) ?_
    rintro (_ | _ | _ | _ | _ | _) a3 Z hz
    case normal =>
      obtain ⟨z1, z2, z3⟩ := hz
      have l3 := z1.same _ _ (by omega) v2 rfl
      exact ⟨_, _, run_endRound (P := P) none l3, .inl ⟨rfl, ⟨(hI q (by omega)).putObj _ z3 (by omega) l3 rfl, World.putObj_heap_same (Array.getElem?_eq_some_iff.1 l3).1, (World.putObj_heap_other (by omega)).trans (z1.same _ _ (Nat.le_refl _) v3 rfl)⟩, hKt (hKt vK z2) (hKb _ _ _ _ _ (by omega) l3 rfl)⟩⟩
    case ret =>
      obtain ⟨z1, z3⟩ := hz
      have l3 := z1.same _ _ (by omega) v2 rfl
      exact ⟨_, _, run_endRound (P := P) (some .ret) l3, .inr ⟨rfl, (hIx q (by omega)).putObj _ z3 (by omega) l3 rfl, World.putObj_heap_same (Array.getElem?_eq_some_iff.1 l3).1, (World.putObj_heap_other (by omega)).trans (z1.same _ _ (Nat.le_refl _) v3 rfl)⟩⟩
    all_goals exact hz.elim
  · rintro q hq s X Y row ⟨s1, s2, s3⟩ hg' hr
    exact ⟨hIx q (by omega) s X Y row s1 hg' (cells (Y := Y) hr), walk hg' hr s2 (by omega), walk hg' hr s3 (by omega)⟩
  · rintro q X hq hX hqX
    exact ⟨h0 q X (by omega) (bB.trans (hX.mono (by omega))) hqX, (hX.block _ (by omega)).trans bL, (hX.block _ (by omega)).trans bD⟩
  · rintro e Z ⟨⟨v, rfl⟩, (⟨q, xs, hq, hS, z1, z2, z3⟩ | ⟨q, pre, hq, z1, z2, z3⟩)⟩
    · exact ⟨none, _, run_endLoop (P := P) z2 (by simp [R]), hdone _ q xs _ (Nat.le_refl _) (by omega) hS ((hI q (by omega)).putObj _ z1 (by omega) z2 rfl) ((World.putObj_heap_other (by omega)).trans z3)⟩
    · exact ⟨some .ret, _, run_endLoop (P := P) z2 (by simp [R]), hstop _ q pre _ (Nat.le_refl _) (by omega) ((hIx q (by omega)).putObj _ z1 (by omega) z2 rfl) ((World.putObj_heap_other (by omega)).trans z3)⟩
end Go.Stops
namespace Go.Proofs.YtmnleknehjkmgaaGreat
open Go.RowKit Go.Shelf
attribute [local go_sem] Oper.semAt_some
attribute [local irreducible] Go.Mixed.wpMix
def Kq (q cb : Nat) (W W' : World) : Prop := W.heap.size ≤ W'.heap.size ∧ ∀ k o, k ≤ q → k ≠ cb → W.heap[k]? = some o → o.isCells = true → W'.heap[k]? = some o
theorem Kq.refl (q cb : Nat) (W : World) : Kq q cb W W := ⟨Nat.le_refl _, fun _ _ _ _ h _ => h⟩
theorem Kq.trans {q cb : Nat} {A B C : World} (h : Kq q cb A B) (k : Kq q cb B C) : Kq q cb A C := ⟨Nat.le_trans h.1 k.1, fun x o h1 h2 h3 h4 => k.2 x o h1 h2 (h.2 x o h1 h2 h3 h4) h4⟩
theorem Kq.le {p q cb : Nat} {W W' : World} (h : Kq q cb W W') (k : p ≤ q) : Kq p cb W W' := ⟨h.1, fun x o h1 h2 h3 h4 => h.2 x o (Nat.le_trans h1 k) h2 h3 h4⟩
theorem Kq.of_below {q cb : Nat} {W W' : World} (hb : Below W.heap.size W W') : Kq q cb W W' := ⟨hb.size, fun k o _ _ h _ => (hb.block k (Array.getElem?_eq_some_iff.1 h).1).trans h⟩
theorem Kq.put (q cb : Nat) (W : World) (l : Nat) (o o' : Obj) (hl : W.heap[l]? = some o) (ho : o.isCells = false) : Kq q cb W (W.putObj l o') := by
  refine ⟨by simp, fun k x _ _ hx hc => ?_⟩
  have hne : k ≠ l := by
    rintro rfl
    rw [hl] at hx
    obtain rfl := Option.some.inj hx
    rw [ho] at hc
    cases hc
  exact (World.putObj_heap_other hne).trans hx
theorem Kq.cell {q cb : Nat} {W W' : World} (h : Kq q cb W W') {a : Addr} {v : Value} (hv : W.cell? a = some v) (h1 : a.block ≤ q) (h2 : a.block ≠ cb) : W'.cell? a = some v := by
  obtain ⟨o, ho, hc⟩ := cells_of_cell hv
  exact (World.cell?_of_block ((h.2 _ o h1 h2 ho hc).trans ho.symm)).trans hv
theorem BytesAt.kq {q cb : Nat} {W W' : World} {A : Option Addr} {xs : Str} (h : BytesAt W A xs) (k : Kq q cb W W') (hA : ∀ a, A = some a → xs ≠ [] → a.block ≤ q ∧ a.block ≠ cb) : BytesAt W' A xs := by
  by_cases hx : xs = []
  · exact .inl hx
  rcases h with h | ⟨b, off, rfl, hc⟩
  · exact absurd h hx
  · obtain ⟨h1, h2⟩ := hA _ rfl hx
    exact .inr ⟨b, off, rfl, fun j hj => k.cell (hc j hj) h1 h2⟩
theorem bytes_lt {W : World} {A : Option Addr} {xs : Str} (h : BytesAt W A xs) (a : Addr) (ha : A = some a) (hx : xs ≠ []) : a.block < W.heap.size := by
  rcases h with h | ⟨b, off, e, hc⟩
  · exact absurd h hx
  · rw [ha] at e
    obtain rfl := Option.some.inj e
    exact World.block_lt_of_cell? W _ (hc 0 (List.length_pos_iff.2 hx))
theorem dat_both {w w' : World} {b : Str} {at_ : Int} {e : Ending} (h : RetDAt w b at_ e w') : ∃ (r : Xe) (nx : Int) (ok : Bool), e = .returned (.tuple #[.agg #[.int .i64 r.x.kind, .slice r.A r.x.raw.length r.ca, .string (sB r.x.m), .slice r.B r.x.C.length r.cb, .bool r.x.al], .int .i64 nx, .bool ok]) ∧ Below w.heap.size w w' ∧
    (ok = true → ∃ k : Nat, at_ = k ∧ k < b.length ∧ r.x = itR (b.drop k) ∧ nx = ((k + r.x.raw.length : Nat) : Int) ∧ OwnX w' w.heap.size r) ∧ (ok = false → at_ < 0 ∨ (b.length : Int) ≤ at_) := by
  rcases h with ⟨h1, rfl, hb⟩ | ⟨k, hk, hlt, A, c, B, c2, rfl, hO, hT, hb⟩
  · exact ⟨⟨⟨0, [], [], [], false⟩, none, 0, none, 0⟩, 0, false, rfl, hb, fun h => (by cases h), fun _ => h1⟩
  · exact ⟨⟨itR (b.drop k), A, c, B, c2⟩, _, true, rfl, hb, fun _ => ⟨k, hk, hlt, rfl, rfl, hO, hT⟩, fun h => (by cases h)⟩
def StI (b : Str) (N : Nat) (wr : World) (pre : List Xe) (ok : Bool) (nx : Int) (r : Xe) : Prop :=
  (ok = true → ∃ k : Nat, k < b.length ∧ r.x = itR (b.drop k) ∧ nx = ((k + r.x.raw.length : Nat) : Int) ∧ k + r.x.raw.length ≤ b.length ∧ 1 ≤ r.x.raw.length ∧ pre.map Xe.x ++ itemsR (b.drop k) = itemsR b ∧ OwnX wr N r) ∧ (ok = false → pre.map Xe.x = itemsR b)
theorem st_first {b : Str} {N : Nat} {w' : World} {r : Xe} {nx : Int} {ok : Bool} (h1 : ok = true → ∃ k : Nat, (0 : Int) = k ∧ k < b.length ∧ r.x = itR (b.drop k) ∧ nx = ((k + r.x.raw.length : Nat) : Int) ∧ OwnX w' N r) (h2 : ok = false → (0 : Int) < 0 ∨ (b.length : Int) ≤ 0) : StI b N w' [] ok nx r := by
  refine ⟨fun e => ?_, fun e => ?_⟩
  · obtain ⟨k, hk, a1, a2, a3, a4⟩ := h1 e
    obtain rfl : k = 0 := by omega
    have hr := raw_len (drop_ne rfl a1)
    rw [List.length_drop] at hr
    rw [a2] at a3
    exact ⟨0, a1, a2, by rw [a2]; exact a3, by rw [a2]; omega, by rw [a2]; omega, by simp, a4⟩
  · have h := h2 e
    have : b = [] := List.eq_nil_of_length_eq_zero (by omega)
    subst this
    rfl
theorem st_next {b : Str} {N M : Nat} {wr w' : World} {pre : List Xe} {r r' : Xe} {nx nx' : Int} {ok' : Bool} (h : StI b N wr pre true nx r) (hNM : N ≤ M)
    (h1 : ok' = true → ∃ k : Nat, nx = k ∧ k < b.length ∧ r'.x = itR (b.drop k) ∧ nx' = ((k + r'.x.raw.length : Nat) : Int) ∧ OwnX w' M r') (h2 : ok' = false → nx < 0 ∨ (b.length : Int) ≤ nx) : StI b N w' (pre ++ [r]) ok' nx' r' := by
  obtain ⟨k, a1, a2, a3, a4, a5, a6, a7⟩ := h.1 rfl
  have hne : b.drop k ≠ [] := drop_ne rfl a1
  have hs := items_step a6 hne r a2
  rw [← a2, List.drop_drop] at hs
  refine ⟨fun e => ?_, fun e => ?_⟩
  · obtain ⟨k', b0, b1, b2, b3, b4⟩ := h1 e
    obtain rfl : k' = k + r.x.raw.length := by omega
    have hr := raw_len (drop_ne rfl b1)
    rw [List.length_drop] at hr
    exact ⟨_, b1, b2, b3, by rw [b2]; omega, by rw [b2]; omega, hs, b4.lift hNM⟩
  · have h3 := h2 e
    have : b.drop (k + r.x.raw.length) = [] := List.eq_nil_of_length_eq_zero (by rw [List.length_drop]; omega)
    rw [this, items_nil, List.append_nil] at hs
    exact hs
theorem StI.up {b : Str} {N N' : Nat} {w w' : World} {pre : List Xe} {ok : Bool} {nx : Int} {r : Xe} (h : StI b N w pre ok nx r) (hx : OwnX w N r → OwnX w' N' r) : StI b N' w' pre ok nx r :=
  ⟨fun e => by obtain ⟨k, a1, a2, a3, a4, a5, a6, a7⟩ := h.1 e; exact ⟨k, a1, a2, a3, a4, a5, a6, hx a7⟩, h.2⟩
def msI (l : Nat) : Value → Value → Nat
  | vn, .bool true => l + 1 - (intOf vn).toNat
  | _, _ => 0
theorem msI_t (l : Nat) (v : Value) : msI l v (.bool true) = l + 1 - (intOf v).toNat := rfl
theorem msI_f (l : Nat) (v : Value) : msI l v (.bool false) = 0 := rfl
theorem grow_five (w : World) (b : Nat) (v0 v1 v2 v3 v4 : Value) : w.grownBy (((((w.setCell ⟨b, 0, none⟩ v0).setCell ⟨b, 1, none⟩ v1).setCell ⟨b, 2, none⟩ v2).setCell ⟨b, 3, none⟩ v3).setCell ⟨b, 4, none⟩ v4) (some b) :=
  World.grownBy.trans (World.grownBy.trans (World.grownBy.trans (World.grownBy.trans (grownBy_setC w b 0 v0) (grownBy_setC _ b 1 v1)) (grownBy_setC _ b 2 v2)) (grownBy_setC _ b 3 v3)) (grownBy_setC _ b 4 v4)
theorem OwnX.put {w w' : World} {N q : Nat} {r : Xe} {kd : Int} {va vb : Value} {s : ByteArray} {al : Bool} (h : OwnX w N r) (I : ItAt w q kd va s vb al) (hg : w.grownBy w' (some q)) : OwnX w' N r := by
  refine h.grown hg fun k e cur T fz hc => ?_
  cases e
  rw [show w.heap[q]? = _ from I] at hc
  simp only [Option.some.injEq, Obj.cells.injEq] at hc
  rw [← hc.2.1]
  exact ⟨by decide, by decide⟩
theorem items_tellsQ (n Bs cb : Nat) (b : Str) (A : Option Addr) (cap l : Nat) (hl : b.length = l) (hc : l ≤ cap) (hcm : cap ≤ maxLen) (hl2 : l ≤ 100000) (w : World) (hs : Boxed w Bs 22 (.slice A l cap)) (HB : BytesAt w A b) (hM : MaxAt w) (hcb : cb < w.heap.size) (h1 : Bs ≠ cb) (h2 : ∀ a, A = some a → b ≠ [] → a.block ≠ cb) (h3 : 0 ≠ cb) :
    Stops.TellsQ Fence.wide n Tryz.prog 41 #[.pointer (some ⟨Bs, 0, none⟩)] (fun x : Xe => #[x.v]) 34 (fun q pre x W => (pre ++ [x]).map Xe.x <+: itemsR b ∧ OwnX W w.heap.size x) (fun q => Kq q cb) (fun ys => ys.map Xe.x = itemsR b) w := fun lp J Jx W hW hJ hA hY hJx h0 => by
  have hJd : ∀ (q : Nat), W.heap.size ≤ q → ∀ (z : List Xe) (X Y : World), J q z X → Below X.heap.size X Y → J q z Y := fun q hq z X Y h hb => hJ q hq z X Y none h (grow_below hb none) (fun r e => by cases e)
  have bs1 : Boxed W Bs 22 (.slice A l cap) := (hW.block Bs hs.lt).trans hs
  have HB1 := HB.below hW
  have HM1 := hM.below hW
  have DA := dat_any b A cap l hl hc hcm hl2 W HB1 HM1 0
  obtain ⟨N, hN⟩ : ∃ z, w.heap.size = z := ⟨_, rfl⟩
  have NW : Hid (N ≤ W.heap.size) := by show _ ≤ _; rw [← hN]; exact hW.size
  have AT : Hid (∀ q W3, W.heap.size ≤ q → Below W.heap.size W W3 → ∀ W', Kq (q - 1) cb W3 W' → Boxed W' Bs 22 (.slice A l cap) ∧ ∀ at_ : Int, Calls Tryz.prog 42 #[.slice A l cap, .int .i64 at_] W' (RetDAt W' b at_)) := fun q W3 hq h3' W' hk => by
    have lt1 := bs1.lt
    have e1 : Boxed W3 Bs 22 (.slice A l cap) := (h3'.block Bs lt1).trans bs1
    have e2 := HB1.below h3'
    obtain ⟨m, hm⟩ := HM1.below h3'
    have lt3 := HM1.lt
    refine ⟨hk.2 Bs _ (by omega) h1 e1 rfl, fun at_ => dat_any b A cap l hl hc hcm hl2 W' (e2.kq hk fun a ha hne => ⟨?_, h2 a ha hne⟩) ⟨m, hk.cell hm (by show 0 ≤ q - 1; omega) h3⟩ at_⟩
    have := bytes_lt HB1 a ha hne
    omega
  have HL : Hid (b.length = l) := hl
  have HL2 : l ≤ 100000 := hl2
  have HCB : Hid (cb < W.heap.size) := Nat.lt_of_lt_of_le hcb hW.size
  have hY := Lib.hid hY
  have hA := Lib.hid hA
  have hJd := Lib.hid hJd
  have h0 := Lib.hid h0
  have k0 := bs1.cell
  obtain ⟨NN, hNN⟩ : ∃ z, W.heap.size = z := ⟨_, rfl⟩
  have HNN := Lib.hid hNN
  rw [hN] at hY
  clear hs HB hM hcb h1 h2 h3 bs1 HB1 HM1 hl hc hcm hl2 hJ hJx hN hW hNN
  refine callsIn_wide.2 ?_
  show Calls Tryz.prog 41 #[.func (.yield lp) #[] #[], .pointer (some ⟨Bs, 0, none⟩)] W _
  go_enter Tryz.func41, Tryz.ntmps41
  go_wp2_with fail
  refine DA.mono ?_
  rintro e W1 hR
  obtain ⟨r, nx, ok, rfl, hb, f1, f2⟩ := dat_both hR
  have ST1 := st_first f1 f2
  obtain ⟨q, hq⟩ : ∃ z, W1.heap.size = z := ⟨_, rfl⟩
  obtain ⟨wq, hwq, Iq, yq, zq⟩ := it_start W1 q hq
  obtain ⟨W3, hw3, i1, i2, i3, i4, i5, i6⟩ := Iq.put r.x.kind (.slice r.A r.x.raw.length r.ca) (sB r.x.m) (.slice r.B r.x.C.length r.cb) r.x.al
  have hqN : Hid (W.heap.size ≤ q) := by show _ ≤ _; rw [← hq]; exact hb.size
  have B3 : Hid (Below W.heap.size W W3) := hb.trans ((yq.trans (i2.mono (by omega))).mono hb.size)
  have ST3 : Hid (StI b N W3 [] ok nx r) := by
    refine StI.up ST1 fun h => ?_
    refine OwnX.put ((h.below yq).lift NW.out) Iq ?_
    rw [← hw3]
    exact grow_five wq q _ _ _ _ _
  have IQ : Hid (ItAt W3 q r.x.kind (.slice r.A r.x.raw.length r.ca) (sB r.x.m) (.slice r.B r.x.C.length r.cb) r.x.al) := i1
  have J3 : Hid (J q [] W3) := h0.out q W3 hqN.out B3.out i1.lt
  obtain ⟨m0, m1, m2, m3, m4, m5⟩ := Iq.cells
  have PUT : Hid (∀ (W5 W6 : World) (pre : List Xe) (r r' : Xe) (nx : Int) (ok : Bool), ItAt W5 q r.x.kind (.slice r.A r.x.raw.length r.ca) (sB r.x.m) (.slice r.B r.x.C.length r.cb) r.x.al → ((((W5.setCell ⟨q, 0, none⟩ (.int .i64 r'.x.kind)).setCell ⟨q, 1, none⟩ (.slice r'.A r'.x.raw.length r'.ca)).setCell ⟨q, 2, none⟩ (.string (sB r'.x.m))).setCell ⟨q, 3, none⟩ (.slice r'.B r'.x.C.length r'.cb)).setCell ⟨q, 4, none⟩ (.bool r'.x.al) = W6 → ItAt W6 q r'.x.kind (.slice r'.A r'.x.raw.length r'.ca) (sB r'.x.m) (.slice r'.B r'.x.C.length r'.cb) r'.x.al → J q pre W5 → StI b N W5 pre ok nx r' → J q pre W6 ∧ StI b N W6 pre ok nx r') := fun W5 W6 pre r r' nx ok hI hw6 _ hJ5 hS => by
    have hg : W5.grownBy W6 (some q) := by rw [← hw6]; exact grow_five W5 q _ _ _ _ _
    exact ⟨hA.out q hqN.out pre W5 W6 hJ5 hg ⟨_, _, hI⟩, hS.up fun h => OwnX.put h hI hg⟩
  clear hR DA f1 f2 ST1 hb Iq yq i1 i2 i3 i4 i5 i6 k0
  go_wp2
  clear m0 m1 m2 m3 m4 m5 hw3 hwq zq
  go_loopw [4, 5] (fun vn vo wr => ∃ (ok : Bool) (nx : Int) (pre : List Xe) (r : Xe), vn = .int .i64 nx ∧ vo = .bool ok ∧ Hid (StI b N wr pre ok nx r) ∧ Hid (J q pre wr) ∧ Hid (Kq (q - 1) cb W3 wr) ∧ Hid (ItAt wr q r.x.kind (.slice r.A r.x.raw.length r.ca) (sB r.x.m) (.slice r.B r.x.C.length r.cb) r.x.al)) (fun vn vo _ => msI l vn vo)
  case atStart => exact ⟨ok, nx, [], r, rfl, rfl, ST3.out, J3.out, Kq.refl _ _ _, IQ.out⟩
  case round =>
    clear ST3 J3 IQ
    obtain ⟨ok, nx, pre, r, rfl, rfl, ST, JJ, KK, IQ⟩ := hrel
    cases ok with
    | false =>
      clear PUT hA hY hJd h0 AT
      go_wp2
      go_end0
      exact ⟨⟨_, rfl⟩, .inl ⟨q, pre, hqN.out, ST.out.2 rfl, JJ.out⟩⟩
    | true =>
      obtain ⟨j0, j1, j2, j3, j4, j5⟩ := IQ.out.cells
      obtain ⟨k, a1, a2, a3, a4, a5, a6, a7⟩ := ST.out.1 rfl
      have hyd := hY.out q pre r wr hqN.out IQ.out.lt JJ.out ⟨⟨_, items_step a6 (drop_ne rfl a1) r a2⟩, a7⟩
      have NX : Hid (nx = ((k + r.x.raw.length : Nat) : Int) ∧ k + r.x.raw.length ≤ l) := ⟨a3, by rw [← HL.out]; exact a4⟩
      obtain ⟨fn, tmps, assign, body, hy, hR⟩ := hyd
      simp only [Xe.v] at hy
      clear a1 a2 a3 a4 a5 a6 a7 JJ
      refine (wpIn_wide (n := n)).1 ?_
      gi_wp2
      refine ⟨fun h => (by cases h), hR.mono ?_⟩
      rintro e3 W5 (⟨rfl, hJ5, hk5⟩ | ⟨rfl, hJx5⟩)
      · have K5 : Hid (Kq (q - 1) cb W3 W5) := KK.out.trans (hk5.le (Nat.sub_le q 1))
        have J5 : Hid (J q (pre ++ [r]) W5) := hJ5
        have I5 : ItAt W5 q r.x.kind (.slice r.A r.x.raw.length r.ca) (sB r.x.m) (.slice r.B r.x.C.length r.cb) r.x.al := hk5.2 q _ (Nat.le_refl _) (by have h1 := HCB.out; have h2 := hqN.out; omega) IQ.out rfl
        obtain ⟨bs5, da⟩ := AT.out q W3 hqN.out B3.out W5 K5.out
        have da := da nx
        have k0 := bs5.cell
        have I5 := Lib.hid I5
        clear hJ5 hk5 hR hy j0 j1 j2 j3 j4 j5 IQ KK bs5
        gi_wp2
        gi_wp2_with fail
        refine ⟨trivial, fun h => (by cases h), (callsIn_wide.2 da).mono ?_⟩
        rintro e W6 hR
        obtain ⟨r', nx', ok', rfl, hb, f1, f2⟩ := dat_both hR
        have I6 : ItAt W6 q r.x.kind (.slice r.A r.x.raw.length r.ca) (sB r.x.m) (.slice r.B r.x.C.length r.cb) r.x.al := I5.out.all hb
        have S6 := st_next ST.out (Nat.le_trans NW.out (Nat.le_trans (Nat.le_of_lt (show W.heap.size < W5.heap.size by have h1 := hqN.out; have h2 := I5.out.lt; omega)) (Nat.le_refl _))) f1 f2
        have HM : Hid (ok' = true → nx < nx' ∧ nx' ≤ (l : Int)) := fun e => by
          obtain ⟨k', b0, b1, b2, b3, -⟩ := f1 e
          have hr := raw_len (drop_ne rfl b1)
          rw [List.length_drop, HL.out] at hr
          rw [b2] at b3
          have := HL.out
          omega
        have J6 := hJd.out q hqN.out _ _ _ J5.out hb
        have K6 : Kq (q - 1) cb W3 W6 := K5.out.trans (Kq.of_below hb)
        obtain ⟨W7, hw7, i1, i2, i3, i4, i5, i6⟩ := I6.put r'.x.kind (.slice r'.A r'.x.raw.length r'.ca) (sB r'.x.m) (.slice r'.B r'.x.C.length r'.cb) r'.x.al
        have P7 := Lib.hid (PUT.out W6 W7 (pre ++ [r]) r r' nx' ok' I6 hw7 i1 J6 S6)
        have I7 : Hid (ItAt W7 q r'.x.kind (.slice r'.A r'.x.raw.length r'.ca) (sB r'.x.m) (.slice r'.B r'.x.C.length r'.cb) r'.x.al) := i1
        have K7 : Hid (Kq (q - 1) cb W3 W7) := K6.trans ⟨by omega, fun k o hk hkc ho _ => (i6 k (by have h1 := HCB.out; have h2 := hqN.out; omega)).trans ho⟩
        obtain ⟨m0, m1, m2, m3, m4, m5⟩ := I6.cells
        clear hR da f1 f2 hb I5 S6 J6 K6 i1 i2 i3 i4 i5 i6 I6 J5 K5
        gi_wp2
        go_roundw
        case rel => exact ⟨ok', nx', pre ++ [r], r', rfl, rfl, P7.out.2, P7.out.1, K7.out, I7.out⟩
        case measure =>
          obtain ⟨hn1, hn2⟩ := NX.out
          cases ok' with
          | false =>
            show msI l _ (.bool false) < msI l (.int .i64 nx) (.bool true)
            rw [msI_f, msI_t]
            simp only [intOf]
            omega
          | true =>
            obtain ⟨hm1, hm2⟩ := HM.out rfl
            show msI l (.int .i64 nx') (.bool true) < msI l (.int .i64 nx) (.bool true)
            rw [msI_t, msI_t]
            simp only [intOf]
            omega
      · clear hR hy
        gi_wp2
        go_wp2
        go_end0
        exact ⟨⟨_, rfl⟩, .inr ⟨q, _, hqN.out, hJx5⟩⟩
end Go.Proofs.YtmnleknehjkmgaaGreat
namespace Go.Proofs.YtmnleknehjkmgaaGreat
open Go.RowKit Go.Shelf
attribute [local go_sem] Oper.semAt_some
theorem wpListIn_rapp {F : Fence} {n : Nat} {w w1 : World} {t ty : TypeId} {v y v' : Value} (h1 : (Builtin.append_ #[t, t] ty #[v, y]).run Tryz.prog w = .ok v' w1) {ops : Array Oper} {rest : List Oper} {o : Oper} {a : Act} {Q : Exit → Act → World → Prop} (hgd : o.guard = none) (s x : Operand)
    (ho : o.op = .call { callee := .builtin .append, args := #[s, x], argTypes := #[t, t] }) (hty : o.type = ty) (hs : a.eval s = v) (hx : a.eval x = y) (hk : wpListIn F n Tryz.prog ops Q rest (a.put o.dst v') w1) : wpListIn F n Tryz.prog ops Q (o :: rest) a w := by
  subst hty
  refine wpListIn_plain hgd fun K hK => ?_
  unfold Oper.wpIn
  refine ⟨?_, ?_⟩
  · simp [Oper.about, ho, resolve, Target.leads, Sem.run_pure]
  · rw [Oper.semAt_plain F _ _ (by rw [ho]; intro c hc; cases hc)]
    simp [execOp, ho, resolve, invoke, builtin, hs, hx, h1, Result.andThen]
    exact hK _ _ hk
theorem keeps_b {W W' : World} (h : Below W.heap.size W W') (B : Nat) : KeepsFrom B W W' := ⟨h.size, fun k o _ hk _ => (h.block k (Array.getElem?_eq_some_iff.1 hk).1).trans hk⟩
theorem not_own {w : World} {base n size : Nat} {e : TypeId} {v : Value} {xs : List Value} {row : Option Nat} (h : w.ownsRow base e size v n xs) (hr : ∀ r, row = some r → ∃ o : Obj, w.heap[r]? = some o ∧ o.isCells = false) (r : Nat) (e' : row = some r) : v.ownBlock ≠ some r := fun e2 => by
  obtain ⟨cur, hc⟩ := row_type h e2
  obtain ⟨o, ho, hc2⟩ := hr r e'
  rw [hc] at ho
  obtain rfl := Option.some.inj ho
  cases hc2
theorem no_type {w : World} {row : Option Nat} (hr : ∀ r, row = some r → ∃ o : Obj, w.heap[r]? = some o ∧ o.isCells = false) : ∀ q, row = some q → ∀ cur T fz, w.heap[q]? = some (.cells cur T fz) → T ≠ 5 ∧ T ≠ 67 := fun q e cur T fz hc => by
  obtain ⟨o, ho, hc2⟩ := hr q e
  rw [hc] at ho
  obtain rfl := Option.some.inj ho
  cases hc2
theorem it_type {w : World} {q : Nat} (hT : ∃ cur fz, w.heap[q]? = some (.cells cur 34 fz)) : ∀ r, some q = some r → ∀ cur T fz, w.heap[r]? = some (.cells cur T fz) → T ≠ 5 ∧ T ≠ 67 := fun r e cur T fz hc => by
  cases e
  obtain ⟨cur2, fz2, h⟩ := hT
  rw [h] at hc
  simp only [Option.some.injEq, Obj.cells.injEq] at hc
  rw [← hc.2.1]
  exact ⟨by decide, by decide⟩
theorem OwnX.keeps {w w' : World} {n : Nat} {r : Xe} {row : Option Nat} (h : OwnX w n r) (hg : w.grownBy w' row) (hr : ∀ r, row = some r → ∃ o : Obj, w.heap[r]? = some o ∧ o.isCells = false) : OwnX w' n r := h.grown hg (no_type hr)
theorem OwnIq.keeps {w w' : World} {q n : Nat} {v : Value} {R : List Xe} {row : Option Nat} (h : OwnIq w q n v R) (hg : w.grownBy w' row) (hr : ∀ r, row = some r → ∃ o : Obj, w.heap[r]? = some o ∧ o.isCells = false) : OwnIq w' q n v R := h.grown hg (not_own h.1 hr) (no_type hr)
theorem ItAt.keeps {w w' : World} {k : Nat} {kd : Int} {va vb : Value} {s : ByteArray} {al : Bool} {row : Option Nat} (h : ItAt w k kd va s vb al) (hg : w.grownBy w' row) (hr : ∀ r, row = some r → ∃ o : Obj, w.heap[r]? = some o ∧ o.isCells = false) : ItAt w' k kd va s vb al := by
  refine (hg.block k h.lt fun e => ?_).trans h
  obtain ⟨o, ho, hc⟩ := hr k e.symm
  rw [show w.heap[k]? = _ from h] at ho
  obtain rfl := Option.some.inj ho
  cases hc
theorem set_id5 {W : World} {B i : Nat} {t : TypeId} {cs : Array Value} {v : Value} (h : W.heap[B]? = some (.cells cs t (0, 0))) (hi : cs[i]? = some v) : W.setCell ⟨B, i, none⟩ v = W := by
  have e : (W.setCell ⟨B, i, none⟩ v).heap = W.heap := by
    refine Array.ext_getElem? fun k => ?_
    by_cases hk : k = B
    · subst hk
      have h1 : (W.setCell ⟨k, i, none⟩ v).heap[k]? = some (.cells (cs.setIfInBounds i v) t (0, 0)) := heap_setCell_same W k i _ _ v h
      rw [h1, h]
      congr 2
      refine Array.ext_getElem? fun j => ?_
      rw [Array.getElem?_setIfInBounds]
      split
      · rename_i e
        subst e
        rw [hi]
        have := (Array.getElem?_eq_some_iff.1 hi).1
        rw [if_pos this]
      · rfl
    · exact heap_setCell_other W ⟨B, i, none⟩ k _ hk
  calc W.setCell ⟨B, i, none⟩ v = { W with heap := (W.setCell ⟨B, i, none⟩ v).heap } := rfl
    _ = W := by rw [e]
theorem set_id {W : World} {B : Nat} {t : TypeId} {v : Value} (h : Boxed W B t v) : W.setCell ⟨B, 0, none⟩ v = W := by
  have e : (W.setCell ⟨B, 0, none⟩ v).heap = W.heap := by
    refine Array.ext_getElem? fun k => ?_
    by_cases hk : k = B
    · subst hk
      exact (Boxed.set v h).trans h.symm
    · exact heap_setCell_other W ⟨B, 0, none⟩ k _ hk
  calc W.setCell ⟨B, 0, none⟩ v = { W with heap := (W.setCell ⟨B, 0, none⟩ v).heap } := rfl
    _ = W := by rw [e]
theorem appSeq_any (Bs : Nat) (b : Str) (A : Option Addr) (cap l : Nat) (hl : b.length = l) (hc : l ≤ cap) (hcm : cap ≤ maxLen) (hl2 : l ≤ 90000) (w : World) (hs : Boxed w Bs 22 (.slice A l cap)) (HB : BytesAt w A b) (hM : MaxAt w) :
    Calls Tryz.prog 40 #[.slice none 0 0, .func (.func 41) #[] #[.pointer (some ⟨Bs, 0, none⟩)]] w (RetIts w (itemsR b)) := by
  obtain ⟨n, hn⟩ : ∃ z, w.heap.size = z := ⟨_, rfl⟩
  have HN := Lib.hid hn
  obtain ⟨W0, hW0⟩ : ∃ z, w.alloc (.cells #[.slice none 0 0] 24) = z := ⟨_, rfl⟩
  have y0 : Below w.heap.size w W0 := by rw [← hW0]; exact (Below.refl _ _).alloc (Nat.le_refl _) _
  have zW : W0.heap.size = n + 1 := by rw [← hW0, ← hn]; simp
  have BL : Boxed W0 n 24 (.slice none 0 0) := by rw [← hW0, ← hn]; exact World.alloc_heap_new w _
  have hseq := items_tellsQ 2 Bs n b A cap l hl hc hcm (by omega) W0 ((y0.block Bs hs.lt).trans hs) (HB.below y0) (hM.below y0) (by omega) (by have := hs.lt; omega) (fun a ha hne => by have := bytes_lt HB a ha hne; omega) (by have := hM.lt; omega)
  have BL := Lib.hid BL
  have B0 : Hid (Below n w W0) := by rw [← hn]; exact y0
  have HL := Lib.hid hl
  have ZW := Lib.hid zW
  have NB : Hid (w.heap.size = n) := hn
  clear hl hc hcm hs HB hM y0
  refine callsIn_wide.1 (callsIn_of_wp_marks (n := 3) Tryz.func40 rfl trivial ?_ rfl)
  simp only [Tryz.ntmps40, List.size_toArray, List.length_cons, List.length_nil, Nat.reduceAdd, Nat.reduceSub, Array.replicate_succ, Array.replicate_zero, List.push_toArray, List.append_toArray, List.nil_append, List.cons_append]
  refine wpIn_wide.2 ?_
  go_wp2_with fail
  clear hn hW0
  rw [zW] at hseq
  have HZ : W0.heap.size + 2 = n + 3 := by omega
  refine wpIn_wide.1 (Stops.wpIn_tellsQ (F := Fence.wide) (n := 3) rfl (by omega) (gf := 41) (lb := #[.pointer (some ⟨Bs, 0, none⟩)]) rfl trivial (enters_of Tryz.func41 (by kernel_rfl) rfl)
    hseq (fun h k => h.trans k) (fun q W l o o' _ hl ho => Kq.put q n W l o o' hl ho) (fun _ => rfl)
    (fun q pre W => ∃ A c R, Boxed W n 24 (.slice A (List.length R) c) ∧ OwnIq W (q + 1) (n + 1) (.slice A R.length c) R ∧ R.map Xe.x = pre.map Xe.x ∧ Below n w W)
    (fun _ _ _ => False)
    (fun q hq s X Y row h hg hr => by
      obtain ⟨A, c, R, h1, h2, h3, h4⟩ := h
      exact ⟨A, c, R, h1.kept hg (fun e => by have := (hr _ e.symm).1; omega), h2.keeps hg (fun r e => (hr r e).2), h3, h4.grown hg (by have := h1.lt; omega) (fun r e => by have := (hr r e).1; omega)⟩)
    (fun q hq s X Y h hg hT => by
      obtain ⟨A, c, R, h1, h2, h3, h4⟩ := h
      exact ⟨A, c, R, h1.kept hg (fun e => by have := Option.some.inj e; omega), h2.grown hg (fun r e e2 => by have h5 := (World.ownsRow.lt h2.1 r e2).1; have := Option.some.inj e; omega) (it_type hT), h3, h4.grown hg (by have := h1.lt; omega) (fun r e => by have := Option.some.inj e; omega)⟩)
    (fun q hq s X Y row h hg hr => h)
    (fun q X hq hb hqX => ⟨none, 0, [], (hb.block n BL.out.lt).trans BL.out, ownIq_nil _ _ _, rfl, B0.out.trans (hb.mono (by omega))⟩)
    (fun q pre x a' W => OwnX W (n + 1) x ∧ (pre ++ [x]).map Xe.x <+: itemsR b ∧ ∃ k, q < k ∧ ItAt W k x.x.kind (.slice x.A x.x.raw.length x.ca) (sB x.x.m) (.slice x.B x.x.C.length x.cb) x.x.al ∧ a' = { tmps := #[.slice none 0 0, .func (.func 41) #[] #[.pointer (some ⟨Bs, 0, none⟩)], .pointer (some ⟨n, 0, none⟩), undef, .slice none 0 0, .pointer (some ⟨k, 0, none⟩), .func (.func 41) #[] #[.pointer (some ⟨Bs, 0, none⟩)], x.v, undef, undef, undef, undef, undef], defers := [] })
    (fun q pre x s X Y row h hg hr => by
      obtain ⟨h0, h1, k, h2, h3, h4⟩ := h
      exact ⟨h0.keeps hg (fun r e => (hr r e).2), h1, k, h2, h3.keeps hg (fun r e => (hr r e).2), h4⟩)
    ?assign ?body ?done ?stop)
  case assign =>
    rintro lp q pre x W K hq hqW ⟨A, c, R, i1, i2, i3, i4⟩ hE hK
    simp only [Xe.v] at hK ⊢
    gi_wp2
    exact hK _ _ ((KeepsOthers.alloc _ _).from _) (Kq.of_below (up1 _ _)) (by simp; omega) ⟨A, c, R, i1.alloc _, i2.below (up1 _ _), i3, i4.trans ((up1 _ _).mono (by omega))⟩ ⟨hE.2.below (up1 _ _), hE.1, W.heap.size, hqW, World.alloc_heap_new W _, rfl⟩
  case body =>
    rintro lp q pre x a' W hq hqW ⟨A, c, R, i1, i2, i3, i4⟩ ⟨hX, hpre, k, hk, hI, rfl⟩
    have RL : Hid (R.length + 1 ≤ 100000) := by
      have h1 := congrArg List.length i3
      have h2 := hpre.length_le
      have h3 := items_le b
      have h4 := HL.out
      simp only [List.length_map, List.length_append, List.length_cons, List.length_nil] at h1 h2
      show _ ≤ _
      omega
    have i0 := i1.cell
    obtain ⟨j0, j1, j2, j3, j4, j5⟩ := hI.cells
    have hal := up1 W (.cells #[.int .i64 x.x.kind, .slice x.A x.x.raw.length x.ca, .string (sB x.x.m), .slice x.B x.x.C.length x.cb, .bool x.x.al] 34)
    have E0 := its_one W x hX.bytes hX.ops
    obtain ⟨wa, hwa⟩ : ∃ z, W.alloc (.cells #[.int .i64 x.x.kind, .slice x.A x.x.raw.length x.ca, .string (sB x.x.m), .slice x.B x.x.C.length x.cb, .bool x.x.al] 34) = z := ⟨_, rfl⟩
    rw [hwa] at hal E0
    have A1 : Boxed wa n 24 (.slice A R.length c) := (hal.block _ i1.lt).trans i1
    have A2 := i2.below hal
    have AX : ∀ r ∈ [x], OwnX wa (n + 1) r := fun r hr => by
      obtain rfl := List.mem_singleton.1 hr
      exact hX.below hal
    obtain ⟨v8, w8, k1, k2, k3, k4⟩ := run_appI wa (q + 1) (n + 1) (.slice A R.length c) R A2 (some ⟨W.heap.size, 0, none⟩) 1 [x] E0 AX (by have := hal.size; omega) RL.out
    obtain ⟨A8, c8, rfl, -, -, -⟩ := k2.its
    obtain ⟨la, hla⟩ : ∃ z, (R ++ [x]).length = z := ⟨_, rfl⟩
    rw [hla] at k1 k2
    have b8 : Boxed w8 n 24 (.slice A R.length c) := (k3.block n (by omega)).trans A1
    have v0 := b8.cell
    have v1 := b8.frozen
    have K1 := Lib.hid k1
    have kw : Below (q + 1) W w8 := (hal.mono (by omega)).trans k3
    have FIN : Hid (KeepsFrom W0.heap.size W (w8.setCell ⟨n, 0, none⟩ (.slice A8 la c8)) ∧ Kq q n W (w8.setCell ⟨n, 0, none⟩ (.slice A8 la c8)) ∧ ∃ A c R2, Boxed (w8.setCell ⟨n, 0, none⟩ (.slice A8 la c8)) n 24 (.slice A (List.length R2) c) ∧ OwnIq (w8.setCell ⟨n, 0, none⟩ (.slice A8 la c8)) (q + 1) (n + 1) (.slice A R2.length c) R2 ∧ R2.map Xe.x = (pre ++ [x]).map Xe.x ∧ Below n w (w8.setCell ⟨n, 0, none⟩ (.slice A8 la c8))) := by
      have hg := grownBy_setC w8 n 0 (.slice A8 la c8)
      refine ⟨(keeps_b hal _).trans (((KeepsOthers.of_grownBy k4 fun j o e ho => ?_).trans (KeepsOthers.setCell _ _ _)).from _), ⟨by have := kw.size; simpa using this, fun y o h1 h2 h3 h4 => ?_⟩, A8, c8, R ++ [x], by rw [hla]; exact Boxed.set _ b8, ?_, by rw [List.map_append, List.map_append, i3], ?_⟩
      · obtain ⟨cur, hc⟩ := row_type A2.1 e
        rw [hc] at ho
        obtain rfl := Option.some.inj ho
        rfl
      · exact (heap_setCell_other w8 ⟨n, 0, none⟩ y _ h2).trans ((kw.block y (by omega)).trans h3)
      · rw [hla]
        refine k2.grown hg (fun r e e2 => ?_) (fun r e cur T fz hc => ?_)
        · have h5 := (World.ownsRow.lt k2.1 r e2).1
          have := Option.some.inj e
          omega
        · cases e
          rw [show w8.heap[n]? = _ from b8] at hc
          simp only [Option.some.injEq, Obj.cells.injEq] at hc
          rw [← hc.2.1]
          exact ⟨by decide, by decide⟩
      · exact (i4.trans (kw.mono (by omega))).setCell (p := ⟨n, 0, none⟩) (Nat.le_refl _) _
    clear i1 i2 i3 i4 hX hpre hI hal E0 A1 A2 AX k1 k2 k3 k4 b8 kw hla RL
    gi_wp2_with (gi_at_builtin; refine wpListIn_rapp K1.out rfl _ _ rfl rfl rfl rfl ?_)
    exact FIN.out
  case done =>
    rintro D q ys W hD hq hys ⟨A, c, R, g1, g2, g3, g4⟩ hK
    have c1 := g1.cell
    have HK := Lib.hid hK
    have G2 := Lib.hid g2
    have G4 := Lib.hid g4
    have G3 : Hid (R.map Xe.x = itemsR b) := g3.trans hys
    have HW : Hid (n < W.heap.size) := g1.lt
    clear g2 g3 g4 hK hseq hys
    go_wp2_with fail
    have hg := grownBy_putObj' W D (.deferred none)
    refine ⟨by simp, .inl ⟨_, _, rfl, run_takeDeferred HK.out, ?_⟩⟩
    refine ⟨.slice A R.length c, ?_, ?_⟩
    · simp [results, Tryz.results40, go_sem]
    · have hk : ∀ r, some D = some r → ∃ o : Obj, W.heap[r]? = some o ∧ o.isCells = false := fun r e => by cases e; exact ⟨_, HK.out, rfl⟩
      refine ⟨A, c, R, rfl, G3.out, ?_, ?_⟩
      · rw [NB.out]
        exact (G2.out.keeps hg hk).lift (by omega) (by omega)
      · rw [NB.out]
        exact G4.out.trans (belowK_b (w := w) (by rw [NB.out]; omega) W D _ _ (by rw [NB.out]; omega) HK.out rfl rfl)
  case stop =>
    rintro D q pre W hD hq h
    exact h.elim
theorem itemsOf_any (A : Option Addr) (l cap : Nat) (w : World) : Calls Tryz.prog 30 #[.slice A l cap] w fun e w' => e = .returned (.func (.func 41) #[] #[.pointer (some ⟨w.heap.size, 0, none⟩)]) ∧ w.alloc (.cells #[.slice A l cap] 22) = w' := by
  go_enter Tryz.func30, Tryz.ntmps30
  go_wp2
  go_ret
  exact ⟨rfl, rfl⟩
theorem collect_any13 (Bs : Nat) (b : Str) (A : Option Addr) (cap l : Nat) (hl : b.length = l) (hc : l ≤ cap) (hcm : cap ≤ maxLen) (hl2 : l ≤ 90000) (w : World) (hs : Boxed w Bs 22 (.slice A l cap)) (HB : BytesAt w A b) (hM : MaxAt w) :
    Calls Tryz.prog 29 #[.func (.func 41) #[] #[.pointer (some ⟨Bs, 0, none⟩)]] w (RetIts w (itemsR b)) := by
  have AS := appSeq_any Bs b A cap l hl hc hcm hl2 w hs HB hM
  clear hl hc hcm hl2 hs HB hM
  go_enter Tryz.func29, Tryz.ntmps29
  go_wp2_with fail
  refine AS.mono ?_
  rintro e w' ⟨A', c, R, rfl, h1, h2, h3⟩
  have F := Lib.hid (show RetIts w (itemsR b) (.returned (.slice A' R.length c)) w' from ⟨A', c, R, rfl, h1, h2, h3⟩)
  obtain ⟨la, hla⟩ : ∃ z, R.length = z := ⟨_, rfl⟩
  rw [hla] at F ⊢
  clear h1 h2 h3 hla AS
  go_wp2
  go_ret
  exact F.out
theorem decode13_any (b : Str) (A : Option Addr) (cap l : Nat) (hl : b.length = l) (hc : l ≤ cap) (hcm : cap ≤ maxLen) (hl2 : l ≤ 90000) (w : World) (HB : BytesAt w A b) (hM : MaxAt w) :
    Calls Tryz.prog 9 #[.slice A l cap] w (RetIts w (itemsR b)) := by
  have IO := itemsOf_any A l cap w
  have CO := Lib.hid (fun w1 (y1 : Below w.heap.size w w1) (hs : Boxed w1 w.heap.size 22 (.slice A l cap)) => collect_any13 w.heap.size b A cap l hl hc hcm hl2 w1 hs (HB.below y1) (hM.below y1))
  clear hl hc hcm hl2 HB hM
  go_enter Tryz.func9, Tryz.ntmps9
  go_wp2_with fail
  refine IO.mono ?_
  rintro e w1 ⟨rfl, hw1⟩
  have y1 : Below w.heap.size w w1 := by rw [← hw1]; exact (Below.refl _ _).alloc (Nat.le_refl _) _
  have C1 := CO.out w1 y1 (by rw [← hw1]; exact World.alloc_heap_new w _)
  have Y1 := Lib.hid y1
  clear IO CO hw1 y1
  go_wp2_with fail
  refine C1.mono ?_
  rintro e w' ⟨A', c, R, rfl, h1, h2, h3⟩
  have F := Lib.hid (show RetIts w (itemsR b) (.returned (.slice A' R.length c)) w' from ⟨A', c, R, rfl, h1, h2.lift Y1.out.size, Y1.out.trans (h3.mono Y1.out.size)⟩)
  obtain ⟨la, hla⟩ : ∃ z, R.length = z := ⟨_, rfl⟩
  rw [hla] at F ⊢
  clear h1 h2 h3 hla C1
  go_wp2
  go_ret
  exact F.out
end Go.Proofs.YtmnleknehjkmgaaGreat
namespace Go.Proofs.YtmnleknehjkmgaaGreat
open Go.RowKit Go.Shelf
attribute [local go_sem] Oper.semAt_some
attribute [local irreducible] Go.Mixed.wpMix
theorem townB_caps {w : World} {n l c : Nat} {A : Option Addr} {xs : Str} (h : TOwnB w n (.slice A l c) xs) : l ≤ c ∧ c ≤ maxLen := by
  rcases h.2 with ⟨e, h0⟩ | ⟨g, cap, cur, e, _, _, hle, hm, _⟩
  · simp only [Value.slice.injEq] at e
    omega
  · simp only [Value.slice.injEq] at e
    omega
theorem townB_at {w : World} {n l c : Nat} {A : Option Addr} {xs : Str} (h : TOwnB w n (.slice A l c) xs) : BytesAt w A xs := by
  obtain ⟨A', c', e, hp⟩ := h.bytes
  simp only [Value.slice.injEq] at e
  rw [e.1]; exact hp
theorem townB_no (w : World) (n : Nat) : TOwnB w n (.slice none 0 0) [] := World.ownsRow_nil _ _ _ _
def ItJ (w : World) (A : Option Addr) (r : Xe) (j : Nat) : Prop := ∃ b off, A = some ⟨b, off, none⟩ ∧ w.cell? ⟨b, off + j * 5, none⟩ = some (.int .i64 r.x.kind) ∧ w.cell? ⟨b, off + j * 5 + 1, none⟩ = some (.slice r.A r.x.raw.length r.ca) ∧ w.cell? ⟨b, off + j * 5 + 2, none⟩ = some (.string (sB r.x.m)) ∧ w.cell? ⟨b, off + j * 5 + 3, none⟩ = some (.slice r.B r.x.C.length r.cb) ∧ w.cell? ⟨b, off + j * 5 + 4, none⟩ = some (.bool r.x.al) ∧ BytesAt w r.A r.x.raw ∧ OpsP w r.B r.x.C
theorem ItsP.j {w : World} {A : Option Addr} {R : List Xe} (h : ItsP w A R) {k : Nat} (hk : k < R.length) : ItJ w A R[k] k := by
  obtain ⟨b, off, h1, -, h2⟩ := h.at_ hk
  exact ⟨b, off, h1, h2⟩
def RetRaw (w : World) (xs : Str) (e : Ending) (w' : World) : Prop := ∃ A c, e = .returned (.slice A xs.length c) ∧ TOwnB w' w.heap.size (.slice A xs.length c) xs ∧ Below w.heap.size w w'
theorem raw_rounds {R : List Xe} {l n : Nat} {w : World} {A : Option Addr} (hl : R.length = l) (hn : w.heap.size = n) (H : ItsP w A R) (hs : (rawI (R.map Xe.x)).length ≤ 100000) :
    Hid (∀ j, j < l → ∃ r : Xe, rawI ((R.map Xe.x).take (j + 1)) = rawI ((R.map Xe.x).take j) ++ r.x.raw ∧ (rawI ((R.map Xe.x).take j)).length + r.x.raw.length ≤ 100000 ∧ ∀ w', Below n w w' → ItJ w' A r j) := fun j hj => by
  have hj' : j < R.length := by omega
  have hm : j < (R.map Xe.x).length := by rw [List.length_map]; exact hj'
  have e : (R.map Xe.x)[j] = R[j].x := by simp
  have h1 := rawI_take (R.map Xe.x) hm
  rw [e] at h1
  refine ⟨R[j], h1, ?_, fun w' hb => (H.below (by rw [hn]; exact hb)).j hj'⟩
  have h2 := rawI_mono (R.map Xe.x) (j + 1)
  rw [h1, List.length_append] at h2
  omega
theorem raw_any (R : List Xe) (A : Option Addr) (cap l : Nat) (hl : R.length = l) (hl2 : l ≤ 100000) (hs : (rawI (R.map Xe.x)).length ≤ 100000) (w : World) (H : ItsP w A R) :
    Calls Tryz.prog 13 #[.slice A l cap] w (RetRaw w (rawI (R.map Xe.x))) := by
  obtain ⟨n, hn⟩ : ∃ z, w.heap.size = z := ⟨_, rfl⟩
  have HN := Lib.hid hn
  have HR := raw_rounds hl hn H hs
  have HT : Hid (rawI ((R.map Xe.x).take l) = rawI (R.map Xe.x)) := by show _ = _; rw [List.take_of_length_le (by rw [List.length_map]; omega)]
  have B0 : Hid (Below n w w) := Below.refl _ _
  have N0 : Hid (n ≤ w.heap.size) := Nat.le_of_eq hn.symm
  obtain ⟨L, hL⟩ : ∃ z, R.map Xe.x = z := ⟨_, rfl⟩
  rw [hL] at HR HT ⊢
  clear H hn hl hs hL
  go_enter Tryz.func13, Tryz.ntmps13
  go_wp2
  go_loopw [3, 8] (fun vb vi wr => ∃ (j k : Nat) (A2 : Option Addr) (c2 : Nat), j ≤ l ∧ vi = .int .i64 j ∧ vb = .slice A2 k c2 ∧ Hid ((rawI (L.take j)).length = k) ∧ Hid (TOwnB wr n (.slice A2 k c2) (rawI (L.take j))) ∧ Hid (Below n w wr) ∧ Hid (n ≤ wr.heap.size)) (fun _ vi _ => l - (intOf vi).toNat)
  case atStart => exact ⟨0, 0, none, 0, Nat.zero_le _, rfl, rfl, rfl, townB_no _ _, B0.out, N0.out⟩
  case round =>
    clear B0 N0
    obtain ⟨j, k, A2, c2, hj, rfl, rfl, KL, OF, BW, NW⟩ := hrel
    by_cases hlt : j < l
    · obtain ⟨r, h1, h2, h3⟩ := HR.out j hlt
      obtain ⟨b, off, rfl, k0, k1, k2, k3, k4, HB, -⟩ := h3 wr BW.out
      obtain ⟨x, A1, ca, B1, cb⟩ := r
      simp only at k0 k1 k2 k3 k4 HB h1 h2
      have hx : Hid (rawI (L.take (j + 1)) = rawI (L.take j) ++ x.raw) := h1
      have hs2 : Hid ((rawI (L.take j)).length + x.raw.length ≤ 100000) := h2
      obtain ⟨y, w2, hy, hw2, S2, y2, z2⟩ := Fr.box (Fr.nil wr) #[.int .i64 x.kind, .slice A1 x.raw.length ca, .string (sB x.m), .slice B1 x.C.length cb, .bool x.al] 34
      have I2 : ItAt w2 y x.kind (.slice A1 x.raw.length ca) (sB x.m) (.slice B1 x.C.length cb) x.al := S2.out.1
      obtain ⟨j0, j1, j2, j3, j4, j5⟩ := I2.cells
      have OF2 : Hid (TOwnB w2 n (.slice A2 k c2) (rawI (L.take j))) := OF.out.below y2
      have PX := Lib.hid (HB.below y2)
      have N2 : Hid (n ≤ w2.heap.size) := Nat.le_trans NW.out y2.size
      have B2 : Hid (Below n w w2) := BW.out.trans (y2.mono NW.out)
      have NX : Hid (∀ A3 c3 w3, TOwnB w3 n (.slice A3 (k + x.raw.length) c3) (rawI (L.take j) ++ x.raw) → Below n w2 w3 → Hid ((rawI (L.take (j + 1))).length = k + x.raw.length) ∧ Hid (TOwnB w3 n (.slice A3 (k + x.raw.length) c3) (rawI (L.take (j + 1)))) ∧ Hid (Below n w w3) ∧ Hid (n ≤ w3.heap.size)) := fun A3 c3 w3 h1 h2 => by
        rw [hx.out]
        exact ⟨by show _ = _; rw [List.length_append, KL.out], h1, B2.out.trans h2, Nat.le_trans N2.out h2.size⟩
      clear h1 h2 h3 HB S2 y2 I2 OF BW NW
      go_wp2_with (at_builtin; refine wpList_appBs OF2.out PX.out N2.out hs2.out rfl _ _ rfl rfl rfl x.raw.length rfl rfl (k + x.raw.length) (by rw [KL.out]) ?_; intro A3 c3 w3 h1 h2; have F3 := NX.out A3 c3 w3 h1 h2; clear h1 h2)
      go_roundw
      case rel => exact ⟨j + 1, k + x.raw.length, A3, c3, by omega, by go_num, rfl, F3.1.out, F3.2.1.out, F3.2.2.1.out, F3.2.2.2.out⟩
      case measure => simp [intOf]; omega
    · obtain rfl : l = j := by omega
      have F : Hid (RetRaw w (rawI L) (.returned (.slice A2 k c2)) wr) := by
        have h := OF.out
        rw [HT.out] at h
        have h2 := KL.out
        rw [HT.out] at h2
        exact ⟨A2, c2, by rw [h2], by rw [h2, HN.out]; exact h, by rw [HN.out]; exact BW.out⟩
      clear KL OF BW NW HT HR
      go_wp2
      go_ret
      exact F.out
theorem rraw13_any (R : List Xe) (A : Option Addr) (cap l : Nat) (hl : R.length = l) (hl2 : l ≤ 100000) (hs : (rawI (R.map Xe.x)).length ≤ 100000) (w : World) (H : ItsP w A R) :
    Calls Tryz.prog 21 #[.slice A l cap] w (RetRaw w (rawI (R.map Xe.x))) := by
  obtain ⟨n, hn⟩ : ∃ z, w.heap.size = z := ⟨_, rfl⟩
  have HN := Lib.hid hn
  have HR := raw_rounds hl hn H hs
  have HT : Hid (rawI ((R.map Xe.x).take l) = rawI (R.map Xe.x)) := by show _ = _; rw [List.take_of_length_le (by rw [List.length_map]; omega)]
  have B0 : Hid (Below n w w) := Below.refl _ _
  have N0 : Hid (n ≤ w.heap.size) := Nat.le_of_eq hn.symm
  obtain ⟨L, hL⟩ : ∃ z, R.map Xe.x = z := ⟨_, rfl⟩
  rw [hL] at HR HT ⊢
  clear H hn hl hs hL
  go_enter Tryz.func21, Tryz.ntmps21
  go_wp2
  go_loopw [3, 4] (fun vb vi wr => ∃ (j k : Nat) (A2 : Option Addr) (c2 : Nat), j ≤ l ∧ vi = .int .i64 j ∧ vb = .slice A2 k c2 ∧ Hid ((rawI (L.take j)).length = k) ∧ Hid (TOwnB wr n (.slice A2 k c2) (rawI (L.take j))) ∧ Hid (Below n w wr) ∧ Hid (n ≤ wr.heap.size)) (fun _ vi _ => l - (intOf vi).toNat)
  case atStart => exact ⟨0, 0, none, 0, Nat.zero_le _, rfl, rfl, rfl, townB_no _ _, B0.out, N0.out⟩
  case round =>
    clear B0 N0
    obtain ⟨j, k, A2, c2, hj, rfl, rfl, KL, OF, BW, NW⟩ := hrel
    by_cases hlt : j < l
    · obtain ⟨r, h1, h2, h3⟩ := HR.out j hlt
      obtain ⟨b, off, rfl, k0, k1, k2, k3, k4, HB, -⟩ := h3 wr BW.out
      obtain ⟨x, A1, ca, B1, cb⟩ := r
      simp only at k0 k1 k2 k3 k4 HB h1 h2
      have hx : Hid (rawI (L.take (j + 1)) = rawI (L.take j) ++ x.raw) := h1
      have hs2 : Hid ((rawI (L.take j)).length + x.raw.length ≤ 100000) := h2
      have PX := Lib.hid HB
      have NX : Hid (∀ A3 c3 w3, TOwnB w3 n (.slice A3 (k + x.raw.length) c3) (rawI (L.take j) ++ x.raw) → Below n wr w3 → Hid ((rawI (L.take (j + 1))).length = k + x.raw.length) ∧ Hid (TOwnB w3 n (.slice A3 (k + x.raw.length) c3) (rawI (L.take (j + 1)))) ∧ Hid (Below n w w3) ∧ Hid (n ≤ w3.heap.size)) := fun A3 c3 w3 h1 h2 => by
        rw [hx.out]
        exact ⟨by show _ = _; rw [List.length_append, KL.out], h1, BW.out.trans h2, Nat.le_trans NW.out h2.size⟩
      clear h1 h2 h3 HB BW
      go_wp2_with (at_builtin; refine wpList_appBs OF.out PX.out NW.out hs2.out rfl _ _ rfl rfl rfl x.raw.length rfl rfl (k + x.raw.length) (by rw [KL.out]) ?_; intro A3 c3 w3 h1 h2; have F3 := NX.out A3 c3 w3 h1 h2; clear h1 h2)
      go_roundw
      case rel => exact ⟨j + 1, k + x.raw.length, A3, c3, by omega, by go_num, rfl, F3.1.out, F3.2.1.out, F3.2.2.1.out, F3.2.2.2.out⟩
      case measure => simp [intOf]; omega
    · obtain rfl : l = j := by omega
      have F : Hid (RetRaw w (rawI L) (.returned (.slice A2 k c2)) wr) := by
        have h := OF.out
        rw [HT.out] at h
        have h2 := KL.out
        rw [HT.out] at h2
        exact ⟨A2, c2, by rw [h2], by rw [h2, HN.out]; exact h, by rw [HN.out]; exact BW.out⟩
      clear KL OF BW NW HT HR
      go_wp2
      go_ret
      exact F.out
def eqIt (x y : Ite) : Bool := decide (x.kind = y.kind) && decide (x.raw = y.raw) && (decide (x.m = y.m) && decide (x.C = y.C)) && (x.al == y.al)
theorem eqIt_iff (x y : Ite) : eqIt x y = decide (x = y) := by
  obtain ⟨k1, r1, m1, C1, a1⟩ := x
  obtain ⟨k2, r2, m2, C2, a2⟩ := y
  unfold eqIt
  simp only [Ite.mk.injEq]
  by_cases h1 : k1 = k2 <;> by_cases h2 : r1 = r2 <;> by_cases h3 : m1 = m2 <;> by_cases h4 : C1 = C2 <;> by_cases h5 : a1 = a2 <;> simp [h1, h2, h3, h4, h5]
theorem rsame13_any (R1 R2 : List Xe) (A1 A2 : Option Addr) (c1 c2 l1 l2 : Nat) (h1 : R1.length = l1) (h2 : R2.length = l2) (g1 : l1 ≤ 100000) (C1 : ∀ r ∈ R1, r.x.C.length ≤ 1000) (C2 : ∀ r ∈ R2, r.x.C.length ≤ 1000) (w : World) (H1 : ItsP w A1 R1) (H2 : ItsP w A2 R2) :
    Calls Tryz.prog 10 #[.slice A1 l1 c1, .slice A2 l2 c2] w fun e w' => e = .returned (.bool (decide (R1.map Xe.x = R2.map Xe.x))) ∧ Below w.heap.size w w' := by
  by_cases hl : l1 = l2
  · subst hl
    have HF : Hid (∀ j, j < l1 → (∀ i (a : i < R1.length) (b : i < R2.length), i < j → R1[i].x = R2[i].x) → ∃ r1 r2 : Xe, (r1.x ≠ r2.x → decide (R1.map Xe.x = R2.map Xe.x) = false) ∧ (r1.x = r2.x → ∀ i (a : i < R1.length) (b : i < R2.length), i < j + 1 → R1[i].x = R2[i].x) ∧ r1.x.C.length ≤ 1000 ∧ r2.x.C.length ≤ 1000 ∧ ∀ w', Below w.heap.size w w' → ItJ w' A1 r1 j ∧ ItJ w' A2 r2 j) := fun j hj hp => by
      refine ⟨R1[j], R2[j], fun hne => decide_eq_false fun e => hne ?_, fun he i a b hi => ?_, C1 _ (List.getElem_mem _), C2 _ (List.getElem_mem _), fun w' hb => ⟨(H1.below hb).j (by omega), (H2.below hb).j (by omega)⟩⟩
      · have h3 := congrArg (fun L => L[j]?) e
        simp only [List.getElem?_map] at h3
        rw [List.getElem?_eq_getElem (show j < R1.length by omega), List.getElem?_eq_getElem (show j < R2.length by omega)] at h3
        simpa using h3
      · by_cases hij : i = j
        · subst hij; exact he
        · exact hp i a b (by omega)
    have HE : Hid ((∀ i (a : i < R1.length) (b : i < R2.length), i < l1 → R1[i].x = R2[i].x) → decide (R1.map Xe.x = R2.map Xe.x) = true) := fun hp => by
      refine decide_eq_true (List.ext_getElem (by simp; omega) fun i a b => ?_)
      simp only [List.getElem_map]
      exact hp i _ _ (by simp at a; omega)
    obtain ⟨n, hn⟩ : ∃ z, w.heap.size = z := ⟨_, rfl⟩
    rw [hn] at HF ⊢
    have B0 : Hid (Below n w w) := Below.refl _ _
    have N0 : Hid (n ≤ w.heap.size) := Nat.le_of_eq hn.symm
    obtain ⟨d, hd⟩ : ∃ z, decide (R1.map Xe.x = R2.map Xe.x) = z := ⟨_, rfl⟩
    rw [hd] at HF HE ⊢
    clear C1 C2 H1 H2 h1 h2 hn hd
    go_enter Tryz.func10, Tryz.ntmps10
    go_wp2
    go_loopw [5] (fun vi wr => ∃ j : Nat, j ≤ l1 ∧ vi = .int .i64 j ∧ Hid (∀ i (a : i < R1.length) (b : i < R2.length), i < j → R1[i].x = R2[i].x) ∧ Hid (Below n w wr) ∧ Hid (n ≤ wr.heap.size)) (fun vi _ => l1 - (intOf vi).toNat)
    case atStart => exact ⟨0, Nat.zero_le _, rfl, fun i _ _ h => absurd h (Nat.not_lt_zero i), B0.out, N0.out⟩
    case round =>
      clear B0 N0
      obtain ⟨j, hj, rfl, PR, BW, NW⟩ := hrel
      by_cases hlt : j < l1
      · obtain ⟨r1, r2, f1, f2, f3, f4, f5⟩ := HF.out j hlt PR.out
        have F1 := Lib.hid f1
        have F2 := Lib.hid f2
        have SM := Lib.hid (fun w' hb => rsame12_any r1.x.kind r2.x.kind r1.x.raw r2.x.raw r1.x.m r2.x.m r1.x.al r2.x.al r1.A r2.A r1.B r2.B r1.ca r2.ca r1.cb r2.cb r1.x.C r2.x.C f3 f4 w' (f5 w' hb).1.choose_spec.choose_spec.2.2.2.2.2.2.1 (f5 w' hb).2.choose_spec.choose_spec.2.2.2.2.2.2.1 (f5 w' hb).1.choose_spec.choose_spec.2.2.2.2.2.2.2 (f5 w' hb).2.choose_spec.choose_spec.2.2.2.2.2.2.2)
        obtain ⟨⟨b1, o1, rfl, -⟩, ⟨b2, o2, rfl, -⟩⟩ := f5 wr BW.out
        have CL : Hid (∀ w', Below wr.heap.size wr w' → ItJ w' (some ⟨b1, o1, none⟩) r1 j ∧ ItJ w' (some ⟨b2, o2, none⟩) r2 j) := fun w' hb => f5 w' (BW.out.trans (hb.mono NW.out))
        have HQ : Hid ((decide (r1.x.kind = r2.x.kind) && decide (r1.x.raw = r2.x.raw) && (decide (r1.x.m = r2.x.m) && decide (r1.x.C = r2.x.C)) && (r1.x.al == r2.x.al)) = decide (r1.x = r2.x)) := eqIt_iff r1.x r2.x
        rw [HQ.out] at SM
        have B9 := Lib.hid (fun w' (hb : Below wr.heap.size wr w') => BW.out.trans (hb.mono NW.out))
        clear f1 f2 f3 f4 f5 HQ
        go_wp2
        obtain ⟨w3, hw3⟩ : ∃ w3, wr.drew = w3 := ⟨_, rfl⟩
        have BB3 : Hid (Below wr.heap.size wr w3) := by rw [← hw3]; exact below_drewN wr _ 1
        refine Mixed.wp_region_mixed (fun w' => Below wr.heap.size wr w') 9 [(0, true), (1, true), (2, true), (3, true), (4, true), (5, true), (6, true), (7, true), (8, false)] (by kernel_rfl) (by kernel_rfl) (by rw [hw3]; exact BB3.out) ?_
        rw [hw3]
        clear hw3
        refine Mixed.mo rfl (.slice (some ⟨b1, o1, none⟩) l1 c1) (fun w h => by clear h; go_simp; try rfl) ?_
        refine Mixed.mo rfl (.int .i64 j) (fun w h => by clear h; go_simp; try rfl) ?_
        refine Mixed.mo rfl (.pointer (some ⟨b1, o1 + j * 5, none⟩)) (fun w h => by clear h; go_simp; try rfl) ?_
        refine Mixed.mo rfl (.agg #[.int .i64 r1.x.kind, .slice r1.A r1.x.raw.length r1.ca, .string (sB r1.x.m), .slice r1.B r1.x.C.length r1.cb, .bool r1.x.al]) (fun w h => by obtain ⟨⟨b', o', e', h0, h1, h2, h3, h4, -⟩, -⟩ := CL.out w h; cases e'; clear h; go_simp; try rfl) ?_
        refine Mixed.mo rfl (.slice (some ⟨b2, o2, none⟩) l1 c2) (fun w h => by clear h; go_simp; try rfl) ?_
        refine Mixed.mo rfl (.int .i64 j) (fun w h => by clear h; go_simp; try rfl) ?_
        refine Mixed.mo rfl (.pointer (some ⟨b2, o2 + j * 5, none⟩)) (fun w h => by clear h; go_simp; try rfl) ?_
        refine Mixed.mo rfl (.agg #[.int .i64 r2.x.kind, .slice r2.A r2.x.raw.length r2.ca, .string (sB r2.x.m), .slice r2.B r2.x.C.length r2.cb, .bool r2.x.al]) (fun w h => by obtain ⟨-, ⟨b', o', e', h0, h1, h2, h3, h4, -⟩⟩ := CL.out w h; cases e'; clear h; go_simp; try rfl) ?_
        refine Mixed.wpMix_loud rfl ?_
        have S3 := SM.out w3 (B9.out w3 BB3.out)
        obtain ⟨t, ht⟩ : ∃ z, decide (r1.x = r2.x) = z := ⟨_, rfl⟩
        rw [ht] at S3
        have HT := Lib.hid ht
        clear ht SM CL
        go_wp2_with fail
        refine S3.mono ?_
        rintro e w6 ⟨rfl, hb⟩
        have BB6 := Lib.hid (BB3.out.trans (hb.mono BB3.out.size))
        have xx := BB6.out
        have B6 := Lib.hid (B9.out _ BB6.out)
        have N6 : Hid (n ≤ w6.heap.size) := Nat.le_trans NW.out BB6.out.size
        clear hb BB3 S3 B9 BW NW BB6
        go_wp2
        refine ⟨xx, ?_⟩
        clear xx
        simp only [Mixed.wpMix, List.drop_succ_cons, List.drop_zero]
        cases t with
        | true =>
          have P6 := Lib.hid (F2.out (of_decide_eq_true HT.out))
          clear F1 F2 HT
          go_wp2
          go_roundw
          case rel => exact ⟨j + 1, by omega, by go_num, P6.out, B6.out, N6.out⟩
          case measure => simp [intOf]; omega
        | false =>
          have hd := F1.out (of_decide_eq_false HT.out)
          subst hd
          clear F1 F2 HT
          go_wp2
          go_ret
          exact ⟨rfl, B6.out⟩
      · obtain rfl : l1 = j := by omega
        have hd := HE.out PR.out
        subst hd
        clear PR HF HE
        go_wp2
        go_ret
        exact ⟨rfl, BW.out⟩
  · have hd : decide (R1.map Xe.x = R2.map Xe.x) = false := decide_eq_false fun e => hl (by have := congrArg List.length e; simp at this; omega)
    rw [hd]
    have hne : ((l1 : Int) != (l2 : Int)) = true := bne_iff_ne.2 (by omega)
    clear C1 C2 H1 H2 h1 h2 hd g1
    go_enter Tryz.func10, Tryz.ntmps10
    go_wp2
    go_ret
    exact ⟨rfl, Below.refl _ _⟩
end Go.Proofs.YtmnleknehjkmgaaGreat
