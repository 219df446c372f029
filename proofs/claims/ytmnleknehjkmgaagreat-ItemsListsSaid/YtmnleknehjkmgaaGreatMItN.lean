/-
  items.Covers.
-/
import Derived.Test.YtmnleknehjkmgaaGreatGAY
set_option linter.all false
set_option maxRecDepth 100000
set_option maxHeartbeats 4000000
namespace Go.Proofs.YtmnleknehjkmgaaGreat
open Go.RowKit Go.Shelf
attribute [local go_sem] Oper.semAt_some
def covV (o : Option Nat) : Nat := match o with | some k => k | none => 0
theorem off_nth (R : List Xe) {i : Nat} (h : i < R.length) : offI (R.map Xe.x) (i + 1) = offI (R.map Xe.x) i + (nth R i).x.raw.length := by
  have e := off_succ (R.map Xe.x) (k := i) (by rw [List.length_map]; exact h)
  have e2 : (R.map Xe.x)[i]'(by rw [List.length_map]; exact h) = R[i].x := by simp
  rw [e2] at e
  rw [nth_at h]
  exact e
theorem off_le (R : List Xe) (i : Nat) (h : (rawI (R.map Xe.x)).length ≤ 90000) : offI (R.map Xe.x) i ≤ 90000 := Nat.le_trans (off_mono _ i) h
theorem covers_any (off : Int) (ho : -9223372036854775808 ≤ off ∧ off ≤ 9223372036854775807) (R : List Xe) (A : Option Addr) (lr cr : Nat) (hr : R.length = lr) (hlr : lr ≤ 90000) (hsum : (rawI (R.map Xe.x)).length ≤ 90000) (w : World) (H : ItsP w A R) :
    Calls Tryz.prog 22 #[.int .i64 off, .slice A lr cr] w fun e w' => e = .returned (.tuple #[.int .i64 (covV (covI (R.map Xe.x) off) : Nat), .bool (covI (R.map Xe.x) off).isSome]) ∧ Below w.heap.size w w' := by
  obtain ⟨n, W1, e1, hW1, S1, y1, z1⟩ := Fr.box (Fr.nil w) #[.int .i64 off] 3
  obtain ⟨n1, W2, e2, hW2, S2, y2, z2⟩ := Fr.box S1 #[.int .i64 0] 3
  obtain ⟨n2, W3, e3, hW3, S3, y3, z3⟩ := Fr.box S2 #[.bool false] 4
  obtain ⟨n3, W4, e4, hW4, S4, y4, z4⟩ := Fr.box S3 #[.int .i64 0] 3
  obtain rfl : n1 = n + 1 := by omega
  obtain rfl : n2 = n + 1 + 1 := by omega
  obtain rfl : n3 = n + 1 + 1 + 1 := by omega
  have y0 : Below w.heap.size w W4 := ((y1.trans (y2.mono (by omega))).trans (y3.mono (by omega))).trans (y4.mono (by omega))
  have b3 : Boxed W4 (n + 1 + 1 + 1) 3 (.int .i64 0) := S4.out.1
  have b2 : Boxed W4 (n + 1 + 1) 4 (.bool false) := S4.out.2.1
  have b1 : Boxed W4 (n + 1) 3 (.int .i64 0) := S4.out.2.2.1
  have b0 : Boxed W4 n 3 (.int .i64 off) := S4.out.2.2.2.1
  have OK := placed_any A lr cr W4
  rw [z4] at OK
  have TE := Lib.hid (fun W0 (y : Below W4.heap.size W4 W0) (hs : Boxed W0 (n + 1 + 1 + 1 + 1) 24 (.slice A lr cr)) => placed_tells 2 (n + 1 + 1 + 1 + 1) (n + 1 + 1 + 1) R A lr cr hr hlr hsum w W0 H (y0.trans (y.mono (by omega))) (by omega) hs (by have := y.size; omega))
  have HX : Hid (∀ i, i < lr → offI (R.map Xe.x) (i + 1) = offI (R.map Xe.x) i + (nth R i).x.raw.length ∧ offI (R.map Xe.x) i ≤ 90000 ∧ offI (R.map Xe.x) (i + 1) ≤ 90000) := fun i hi => ⟨off_nth R (by omega), off_le R i hsum, off_le R (i + 1) hsum⟩
  have HR : Hid ((R.map Xe.x).length = lr) := by show _ = _; rw [List.length_map]; exact hr
  have NB : Hid (w.heap.size = n) := e1
  have FX : Hid (∀ (W0 W : World), Below W4.heap.size W4 W0 → Below (n + 1 + 1 + 1) W0 W → Boxed W n 3 (.int .i64 off) ∧ Boxed W (n + 1) 3 (.int .i64 0) ∧ Boxed W (n + 1 + 1) 4 (.bool false) ∧ Below n w W) := fun W0 W h0 h =>
    have k : Below (n + 1 + 1 + 1) W4 W := (h0.mono (by omega)).trans h
    ⟨(k.block _ (by omega)).trans b0, (k.block _ (by omega)).trans b1, (k.block _ (by omega)).trans b2, by rw [e1] at y0; exact y0.trans (k.mono (by omega))⟩
  have B3 := Lib.hid b3
  have v0 := b3.cell
  have v1 := b3.frozen
  have v2 := set_id b3
  clear hr H S1 S2 S3 S4 y0 y1 y2 y3 y4 b0 b1 b2 b3 hsum
  refine callsIn_wide.1 (callsIn_of_wp_marks (n := 3) Tryz.func22 rfl trivial ?_ rfl)
  simp only [Tryz.ntmps22, List.size_toArray, List.length_cons, List.length_nil, Nat.reduceAdd, Nat.reduceSub, Array.replicate_succ, Array.replicate_zero, List.push_toArray, List.append_toArray, List.nil_append, List.cons_append]
  refine wpIn_wide.2 ?_
  go_wp2_with fail
  clear v0 v1 v2 e1 e2 e3 e4 hW1 hW2 hW3 z1 z2 z3
  refine OK.mono ?_
  rintro e W0 ⟨rfl, hW0⟩
  have y0 : Below W4.heap.size W4 W0 := by rw [← hW0]; exact (Below.refl _ _).alloc (Nat.le_refl _) _
  have zW : W0.heap.size = n + 1 + 1 + 1 + 1 + 1 := by rw [← hW0]; simp; omega
  have hseq := TE.out W0 y0 (by rw [← hW0, ← z4]; exact World.alloc_heap_new W4 _)
  have BL : Hid (Boxed W0 (n + 1 + 1 + 1) 3 (.int .i64 0)) := (y0.block _ (by omega)).trans B3.out
  have FX := Lib.hid (fun W h => FX.out W0 W y0 h)
  clear OK TE y0 hW0 B3 hW4 z4
  rw [show W0.heap.size - 1 = n + 1 + 1 + 1 + 1 by omega] at hseq
  obtain ⟨L, hL⟩ : ∃ z, R.map Xe.x = z := ⟨_, rfl⟩
  rw [hL] at hseq HR HX
  have HLL := Lib.hid hL
  clear hL
  go_wp2_with fail
  refine wpIn_wide.1 (Stops.wpIn_tellsW (F := Fence.wide) (n := 3) rfl (by omega) (gf := 51) (lb := #[.pointer (some ⟨n + 1 + 1 + 1 + 1, 0, none⟩)]) rfl trivial (enters_of Tryz.func51 (by kernel_rfl) rfl)
    hseq (fun h k => h.trans k) (fun W l o o' _ hl ho => Kt.put (n + 1 + 1 + 1 + 1) (n + 1 + 1 + 1) W l o o' hl ho) (fun _ => rfl)
    (fun pre W => Boxed W (n + 1 + 1 + 1) 3 (.int .i64 (pre.length : Nat)) ∧ (∀ j, j < pre.length → covB L off j = false) ∧ Below (n + 1 + 1 + 1) W0 W)
    (fun pre W => ∃ i, covI L off = some i ∧ Boxed W (n + 1) 3 (.int .i64 (i : Nat)) ∧ Boxed W (n + 1 + 1) 4 (.bool true) ∧ Below n w W)
    (fun s X Y row h hg hr => ⟨h.1.kept hg (fun e => by have := (hr _ e.symm).1; omega), h.2.1, h.2.2.grown hg (by have := h.1.lt; omega) (fun r e => by have := (hr r e).1; omega)⟩)
    (fun s X Y row h hg hr => by
      obtain ⟨i, h1, h2, h3, h4⟩ := h
      exact ⟨i, h1, h2.kept hg (fun e => by have := (hr _ e.symm).1; omega), h3.kept hg (fun e => by have := (hr _ e.symm).1; omega), h4.grown hg (by have := h2.lt; omega) (fun r e => by have := (hr r e).1; omega)⟩)
    ⟨BL.out, fun j hj => absurd hj (Nat.not_lt_zero _), Below.refl _ _⟩
    (fun pre i a' W => pre.length = i ∧ i < lr ∧ ∃ k, n + 1 + 1 + 1 < k ∧ ItAt W k (nth R i).x.kind (.slice (nth R i).A (nth R i).x.raw.length (nth R i).ca) (sB (nth R i).x.m) (.slice (nth R i).B (nth R i).x.C.length (nth R i).cb) (nth R i).x.al ∧ a' = { tmps := #[.int .i64 off, .slice A lr cr, .pointer (some ⟨n, 0, none⟩), undef, .pointer (some ⟨n + 1, 0, none⟩), .pointer (some ⟨n + 1 + 1, 0, none⟩), .pointer (some ⟨n + 1 + 1 + 1, 0, none⟩), .int .i64 (offI L i : Nat), .pointer (some ⟨k, 0, none⟩), .slice A lr cr, .func (.func 51) #[] #[.pointer (some ⟨n + 1 + 1 + 1 + 1, 0, none⟩)], .int .i64 (offI L i : Nat), (nth R i).v, undef, undef, undef, undef, undef, undef, undef, undef, undef, undef, undef, undef, undef, undef, undef], defers := [] })
    (fun pre x s X Y row h hg hr => by
      obtain ⟨h1, h2, k, h3, h4, h5⟩ := h
      exact ⟨h1, h2, k, h3, h4.keeps hg (fun r e => (hr r e).2), h5⟩)
    ?assign ?body ?done ?stop)
  case assign =>
    rintro lp pre i W K ⟨i1, i2, i3⟩ ⟨hp, hi⟩ hK
    have hl := i1.lt
    have hpl : pre.length = i := by rw [hp, List.length_range]
    clear hp
    simp only [Xe.v] at hK ⊢
    gi_wp2
    exact hK _ _ ((KeepsOthers.alloc _ _).from _) (Kt.of_below (up1 _ _)) ⟨i1.alloc _, i2, i3.trans ((up1 _ _).mono (by omega))⟩ ⟨hpl, hi, W.heap.size, hl, World.alloc_heap_new W _, rfl⟩
  case body =>
    rintro lp pre i a' W ⟨i1, i2, i3⟩ ⟨hpl, hi, k, hk, hI, rfl⟩
    obtain ⟨f0, f1, f2, f3⟩ := FX.out W i3
    obtain ⟨x1, x2, x3⟩ := HX.out i hi
    rw [hpl] at i1 i2
    have p0 := f0.cell
    have v0 := i1.cell
    have v1 := i1.frozen
    have r0 := f1.cell
    have r1 := f1.frozen
    have s0 : (W.setCell ⟨n + 1, 0, none⟩ (.int .i64 (i : Nat))).cell? ⟨n + 1 + 1, 0, none⟩ = some (.bool false) := by
      have h : Boxed (W.setCell ⟨n + 1, 0, none⟩ (.int .i64 (i : Nat))) (n + 1 + 1) 4 (.bool false) := (heap_setCell_other W ⟨n + 1, 0, none⟩ (n + 1 + 1) _ (by simp)).trans f2
      exact h.cell
    have s1 : (W.setCell ⟨n + 1, 0, none⟩ (.int .i64 (i : Nat))).frozen? ⟨n + 1 + 1, 0, none⟩ = false := by
      have h : Boxed (W.setCell ⟨n + 1, 0, none⟩ (.int .i64 (i : Nat))) (n + 1 + 1) 4 (.bool false) := (heap_setCell_other W ⟨n + 1, 0, none⟩ (n + 1 + 1) _ (by simp)).trans f2
      exact h.frozen
    obtain ⟨j0, j1, j2, j3, j4, j5⟩ := hI.cells
    have HCV : covB L off i = (decide ((offI L i : Int) ≤ off) && decide (off < (offI L (i + 1) : Int))) := rfl
    have STOP : Hid (covB L off i = true → KeepsFrom W0.heap.size W ((W.setCell ⟨n + 1, 0, none⟩ (.int .i64 (i : Nat))).setCell ⟨n + 1 + 1, 0, none⟩ (.bool true)) ∧ ∃ i', covI L off = some i' ∧ Boxed ((W.setCell ⟨n + 1, 0, none⟩ (.int .i64 (i : Nat))).setCell ⟨n + 1 + 1, 0, none⟩ (.bool true)) (n + 1) 3 (.int .i64 (i' : Nat)) ∧ Boxed ((W.setCell ⟨n + 1, 0, none⟩ (.int .i64 (i : Nat))).setCell ⟨n + 1 + 1, 0, none⟩ (.bool true)) (n + 1 + 1) 4 (.bool true) ∧ Below n w ((W.setCell ⟨n + 1, 0, none⟩ (.int .i64 (i : Nat))).setCell ⟨n + 1 + 1, 0, none⟩ (.bool true))) := fun hc => by
      have h2 : Boxed (W.setCell ⟨n + 1, 0, none⟩ (.int .i64 (i : Nat))) (n + 1 + 1) 4 (.bool false) := (heap_setCell_other W ⟨n + 1, 0, none⟩ (n + 1 + 1) _ (by simp)).trans f2
      refine ⟨((KeepsOthers.setCell _ _ _).trans (KeepsOthers.setCell _ _ _)).from _, i, cov_some (by rw [HR.out]; exact hi) hc i2, ?_, Boxed.set _ h2, ?_⟩
      · exact (heap_setCell_other _ ⟨n + 1 + 1, 0, none⟩ (n + 1) _ (by simp)).trans (Boxed.set _ f1)
      · exact (f3.setCell (p := ⟨n + 1, 0, none⟩) (by show n ≤ n + 1; omega) _).setCell (p := ⟨n + 1 + 1, 0, none⟩) (by show n ≤ n + 1 + 1; omega) _
    have GO : Hid (covB L off i = false → KeepsFrom W0.heap.size W (W.setCell ⟨n + 1 + 1 + 1, 0, none⟩ (.int .i64 ((i : Int) + 1))) ∧ Kt (n + 1 + 1 + 1 + 1) (n + 1 + 1 + 1) W (W.setCell ⟨n + 1 + 1 + 1, 0, none⟩ (.int .i64 ((i : Int) + 1))) ∧ Boxed (W.setCell ⟨n + 1 + 1 + 1, 0, none⟩ (.int .i64 ((i : Int) + 1))) (n + 1 + 1 + 1) 3 (.int .i64 ((pre ++ [i]).length : Nat)) ∧ (∀ j, j < (pre ++ [i]).length → covB L off j = false) ∧ Below (n + 1 + 1 + 1) W0 (W.setCell ⟨n + 1 + 1 + 1, 0, none⟩ (.int .i64 ((i : Int) + 1)))) := fun hc => by
      have hln : (pre ++ [i]).length = i + 1 := by simp [hpl]
      rw [hln]
      refine ⟨(KeepsOthers.setCell _ _ _).from _, ⟨⟨by simp, fun y o h1 h2 h3 h4 => (heap_setCell_other W ⟨n + 1 + 1 + 1, 0, none⟩ y _ h2).trans h3⟩, fun y cur fz hy => ?_⟩, Boxed.set _ i1, fun j hj => ?_, i3.setCell (p := ⟨n + 1 + 1 + 1, 0, none⟩) (Nat.le_refl _) _⟩
      · have hyn : y ≠ n + 1 + 1 + 1 := by
          rintro rfl
          rw [show W.heap[n + 1 + 1 + 1]? = _ from i1] at hy
          simp at hy
        exact (heap_setCell_other W ⟨n + 1 + 1 + 1, 0, none⟩ y _ hyn).trans hy
      · by_cases e : j = i
        · subst e; exact hc
        · exact i2 j (by omega)
    obtain ⟨oj, hoj⟩ : ∃ z, offI L i = z := ⟨_, rfl⟩
    obtain ⟨o2, ho2⟩ : ∃ z, offI L (i + 1) = z := ⟨_, rfl⟩
    rw [hoj] at HCV x1 x2 ⊢
    rw [ho2] at HCV x1 x3
    obtain ⟨c, hc⟩ : ∃ z, covB L off i = z := ⟨_, rfl⟩
    rw [hc] at HCV STOP GO
    have HCV := Lib.hid HCV
    obtain ⟨rl, hrl⟩ : ∃ z, (nth R i).x.raw.length = z := ⟨_, rfl⟩
    rw [hrl] at j1 x1
    have X1 := Lib.hid x1
    clear i1 i2 i3 hI f0 f1 f2 f3 hoj ho2 hc hrl x1
    simp only [Xe.v]
    by_cases t1 : off ≥ (oj : Int)
    · by_cases t2 : off - (oj : Int) < (rl : Int)
      · have P := Lib.hid (STOP.out (by rw [HCV.out, X1.out]; simp; omega))
        clear STOP GO HCV X1
        gi_wp2
        first | exact P.out | (have h := P.out; rw [zW] at h; exact h)
      · have P := Lib.hid (GO.out (by rw [HCV.out, X1.out]; simp; omega))
        clear STOP GO HCV X1
        gi_wp2
        first | exact P.out | (have h := P.out; rw [zW] at h; exact h)
    · have P := Lib.hid (GO.out (by rw [HCV.out]; simp; omega))
      clear STOP GO HCV X1
      gi_wp2
      first | exact P.out | (have h := P.out; rw [zW] at h; exact h)
  case done =>
    rintro D ys W hD hys ⟨g1, g2, g3⟩ hK
    obtain ⟨f0, f1, f2, f3⟩ := FX.out W g3
    have CN : Hid (covI L off = none) := cov_none fun j hj => g2 j (by rw [hys, List.length_range, ← HR.out]; exact hj)
    have HK := Lib.hid hK
    have F1 := Lib.hid f1
    have F2 := Lib.hid f2
    have F3 := Lib.hid f3
    have v0 := f1.cell
    have v1 := f1.frozen
    have v2 := set_id f1
    have v3 := f2.cell
    have v4 := f2.frozen
    have v5 := set_id f2
    clear g1 g2 g3 f0 f1 f2 f3 hK hseq hys
    go_wp2_with fail
    clear v0 v1 v2 v3 v4 v5
    have hg := grownBy_putObj' W D (.deferred none)
    have q1 := (F1.out.kept hg (by simp; omega)).cell
    have q2 := (F2.out.kept hg (by simp; omega)).cell
    refine ⟨by simp, .inl ⟨_, _, rfl, run_takeDeferred HK.out, ?_⟩⟩
    refine ⟨.tuple #[.int .i64 0, .bool false], ?_, by rw [HLL.out, CN.out]; rfl, ?_⟩
    · simp [results, Tryz.results22, go_sem, q1, q2]
    · rw [NB.out]
      exact F3.out.trans (belowK_b (w := w) (by rw [NB.out]; omega) W D _ _ (by rw [NB.out]; omega) HK.out rfl rfl)
  case stop =>
    rintro D pre W hD ⟨i, h1, h2, h3, h4⟩ hK
    have hg := grownBy_putObj' W D (.deferred none)
    have q1 := (h2.kept hg (by simp; omega)).cell
    have q2 := (h3.kept hg (by simp; omega)).cell
    have HK := Lib.hid hK
    have G3 := Lib.hid h4
    have H1 := Lib.hid h1
    clear h1 h2 h3 h4 hK hg hseq
    gi_wp2
    refine ⟨by simp, .inl ⟨_, _, rfl, run_takeDeferred HK.out, ?_⟩⟩
    refine ⟨.tuple #[.int .i64 (i : Nat), .bool true], ?_, by rw [HLL.out, H1.out]; rfl, ?_⟩
    · simp [results, Tryz.results22, go_sem, q1, q2]
    · rw [NB.out]
      exact G3.out.trans (belowK_b (w := w) (by rw [NB.out]; omega) W D _ _ (by rw [NB.out]; omega) HK.out rfl rfl)
end Go.Proofs.YtmnleknehjkmgaaGreat
