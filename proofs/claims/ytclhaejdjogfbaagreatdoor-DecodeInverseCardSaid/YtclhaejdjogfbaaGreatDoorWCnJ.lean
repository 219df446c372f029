/-
  The walk over slices.Insert at one operand, with the register A in front.
-/
import Derived.Test.YtclhaejdjogfbaaGreatDoorHAT
set_option linter.all false
set_option maxRecDepth 100000
set_option maxHeartbeats 4000000
namespace Go.Proofs.YtclhaejdjogfbaaGreatDoor
open Go.RowKit
attribute [local irreducible] Go.Mixed.wpMix
theorem insert_one (B g cap vb : Nat) (x : Tr) (w : World) (hO : OwnT w B (.slice (some ⟨g, 0, none⟩) 1 cap) [x]) (hv : w.heap[vb]? = some (.cells #[.int .i64 1, .int .i64 7, .int .i64 0] 56 (0, 0))) (hne : vb ≠ g) (hB : B ≤ w.heap.size) :
    Calls Tryz.prog 118 #[.slice (some ⟨g, 0, none⟩) 1 cap, .int .i64 0, .slice (some ⟨vb, 0, none⟩) 1 1] w fun e w' =>
      ∃ A2 cap2, e = .returned (.slice A2 2 cap2) ∧ OwnS w' B (.slice A2 2 cap2) [accT, x] ∧ w.grownBy w' (some g) := by
  obtain ⟨-, h | ⟨g', cap', cur, h, hg0, hg, h1c, hcm, hsz, hpre⟩⟩ := hO
  · cases h.1
  simp only [Value.slice.injEq, Option.some.injEq, Addr.mk.injEq, and_true] at h
  obtain ⟨rfl, -, rfl⟩ := h
  have hcm' := hcm
  unfold maxLen at hcm'
  have h1c' : 1 ≤ cap := h1c
  have hX : ∀ j u, (cellsT [x])[j]? = some u → w.cell? ⟨g, 0 + j, none⟩ = some u := fun j u hj => by
    rw [Nat.zero_add, Lib.cell_of_heap hg]
    rw [← hpre, List.getElem?_take] at hj
    split at hj
    · simpa using hj
    · cases hj
  have hV : ∀ j u, (cellsT [accT])[j]? = some u → w.cell? ⟨vb, 0 + j, none⟩ = some u := fun j u hj => by
    rw [Nat.zero_add, Lib.cell_of_heap hv]
    match j, hj with
    | 0, hj => exact hj
    | 1, hj => exact hj
    | 2, hj => exact hj
    | j + 3, hj => cases hj
  by_cases h2 : 2 ≤ cap
  · have hsz6 : 6 ≤ cur.size := by omega
    obtain ⟨w1, hr1, hg1, hG1⟩ := run_copyT w.drew 3 g 3 1 (cap - 1) g 0 2 cap cur x hg (by rfl) hX (by omega)
    have hv1 : w1.heap[vb]? = some (.cells #[.int .i64 1, .int .i64 7, .int .i64 0] 56 (0, 0)) := (hG1.block vb (Array.getElem?_eq_some_iff.1 hv).1 (fun e => hne (by simpa using e))).trans hv
    obtain ⟨w2, hr2, hg2, hG2⟩ := run_copyT w1 3 g 0 2 cap vb 0 1 1 (cset3 cur 3 x) accT hg1 (by rfl) (fun j u hj => by
      have hvl := hV j u hj
      rw [Lib.cell_of_heap hv] at hvl
      rw [Lib.cell_of_heap hv1]
      exact hvl) (by rw [set3_size]; omega)
    have hov := run_over w vb 1 1 g 3 1 (cap - 1) hne _ cur _ _ hv hg (by omega)
    have hR : RowS w2 B g 0 [accT, x] := rowS_two hg0 hg2 (by
        have := set3_at (cset3 cur 3 x) 0 accT (by rw [set3_size]; omega)
        simpa using this) (by
        have h3 := set3_at cur 3 x (by omega)
        rw [set3_other _ 0 accT 3 (.inr (by omega)), set3_other _ 0 accT 4 (.inr (by omega)), set3_other _ 0 accT 5 (.inr (by omega))]
        exact h3)
    have F : Hid (OwnS w2 B (.slice (some ⟨g, 0, none⟩) 2 cap) [accT, x] ∧ w.grownBy w2 (some g)) :=
      ⟨.inr ⟨g, 0, cap, rfl, h2, hcm, hR⟩, ⟨hG2.os.trans hG1.os, hG2.tape.trans hG1.tape, hG2.output.trans hG1.output, Nat.le_trans hG1.size hG2.size, fun k hk hkg => (hG2.block k (Nat.lt_of_lt_of_le hk hG1.size) hkg).trans (hG1.block k hk hkg)⟩⟩
    have K1 := Lib.hid hr1
    have K2 := Lib.hid hr2
    have hn1 : ¬ (cap = 1) := by omega
    have hgt : decide ((cap : Int) < 2) = false := decide_eq_false (by omega)
    have hgt2 : ¬ ((cap : Int) < 2) := by omega
    clear hr1 hr2 hR hG1 hG2 hg1 hg2 hv1 hX hV hsz hpre hcm hg hv hsz6
    go_enter Tryz.func118, Tryz.ntmps118
    go_wp2_with (simp only [hov])
    refine Mixed.wp_region_mixed (fun _ => True) 8 [(0, true), (1, true), (2, true), (3, true), (4, true), (5, true), (6, true), (7, true)] (by kernel_rfl) (by kernel_rfl) trivial ?_
    refine Mixed.wpMix_move rfl (by kernel_rfl) _ rfl _ rfl ?_
    refine Mixed.wpMix_move rfl (by kernel_rfl) _ rfl _ rfl ?_
    refine Mixed.wpMix_move rfl (by kernel_rfl) _ rfl _ rfl ?_
    refine Mixed.wpMix_pure rfl (by kernel_rfl) (.int .i64 1) (fun w h => by clear h; go_simp; try rfl) ?_
    refine Mixed.wpMix_pure rfl (by kernel_rfl) (.slice (some ⟨g, 3, none⟩) 1 (cap - 1)) (fun w h => by clear h; go_simp; try omega) ?_
    refine Mixed.wpMix_move rfl (by kernel_rfl) _ rfl _ rfl ?_
    refine Mixed.wpMix_move rfl (by kernel_rfl) _ rfl _ rfl ?_
    refine Mixed.wpMix_pure rfl (by kernel_rfl) (.slice (some ⟨g, 0, none⟩) 2 cap) (fun w h => by clear h; go_simp; try omega) ?_
    simp only [Mixed.wpMix, List.drop_succ_cons, List.drop_zero]
    have k1 := K1.out
    have k2 := K2.out
    go_wp2_with (first | simp only [k1] | simp only [k2])
    go_ret
    exact ⟨_, cap, rfl, F.out.1, F.out.2⟩
  · obtain rfl : cap = 1 := by omega
    obtain ⟨i0, hi, hz0, hz1, hz2⟩ := info_parts info_opd
    have hold : (Builtin.firstCells i0.size 0 (.slice (some ⟨g, 0, none⟩) 0 1)).run Tryz.prog w.drew = .ok ([] : List Value).toArray w.drew := by
      rw [hz1]
      exact run_firstCells_some w.drew 3 0 ⟨g, 0, none⟩ 0 1 [] rfl (fun j v hj => by cases hj)
    have hap := Lib.run_append_grow_zeros (P := Tryz.prog) w 22 3 22 56 i0 _ .i64 .i64 Tryz.underlying22 Tryz.underlying3 hi hz0 (some ⟨g, 0, none⟩) 0 1 [] hold 2 (by omega) (by rw [hz1]; omega) (by omega) (by omega) (by rw [hz2]; omega) (by
      refine Nat.le_trans (growslice_fits (need := 0 + 2) (old := 1) (by omega) (by rw [hz2]; omega)) (Nat.le_refl _))
    rw [Nat.zero_add] at hap
    obtain ⟨G, hG⟩ : ∃ G, grownCap w 2 1 56 = G := ⟨_, rfl⟩
    have hG2 : 2 ≤ G := by rw [← hG]; exact grownCap_ge w _ _ _
    have hGm : G ≤ maxLen := by rw [← hG]; exact grownCap_le_maxLen w _ _ _ (by unfold maxLen; omega)
    rw [hG] at hap
    obtain ⟨ROW, hROW⟩ : ∃ ROW : Array Value, (([] : List Value).toArray ++ Builtin.zeroCells (Value.agg #[.int .i64 0, .int .i64 0, .int .i64 0]).cells 2 ++ Builtin.zeroCells (Value.agg #[.int .i64 0, .int .i64 0, .int .i64 0]).cells (G - 2)) = ROW := ⟨_, rfl⟩
    have hRs : 6 ≤ ROW.size := by
      rw [← hROW]
      simp [Builtin.zeroCells, Value.cells]
    rw [hROW] at hap
    obtain ⟨W1, hW1⟩ : ∃ W1, w.drew.alloc (.cells ROW 56) = W1 := ⟨_, rfl⟩
    rw [hW1] at hap
    have hgl := (Array.getElem?_eq_some_iff.1 hg).1
    have hvl := (Array.getElem?_eq_some_iff.1 hv).1
    have hN1 : W1.heap[w.heap.size]? = some (.cells ROW 56 (0, 0)) := by rw [← hW1]; exact heap_alloc_new w.drew _
    have hG1 : w.grownBy W1 (some w.heap.size) := by
      rw [← hW1]
      have h1 := World.grownBy_alloc w.drew (.cells ROW 56) (some w.heap.size)
      exact ⟨h1.os, h1.tape, h1.output, h1.size, h1.block⟩
    have hsame : ∀ k, k < w.heap.size → W1.heap[k]? = w.heap[k]? := fun k hk => hG1.block k hk (fun e => by simp at e; omega)
    have hW1s : w.heap.size < W1.heap.size := (Array.getElem?_eq_some_iff.1 hN1).1
    obtain ⟨w2, hr2, hN2, hG2'⟩ := run_copyT W1 3 w.heap.size 0 2 G vb 0 1 1 ROW accT hN1 (by rfl) (fun j u hj => by
      have h1 := hV j u hj
      rw [Lib.cell_of_heap hv] at h1
      rw [Lib.cell_of_heap ((hsame vb hvl).trans hv)]
      exact h1) (by omega)
    have hg2 : w2.heap[g]? = w.heap[g]? := (hG2'.block g (by omega) (fun e => by simp at e; omega)).trans (hsame g hgl)
    obtain ⟨w3, hr3, hN3, hG3⟩ := run_copyT w2.drew 3 w.heap.size 3 1 (G - 1) g 0 1 1 (cset3 ROW 0 accT) x hN2 (by rfl) (fun j u hj => by
      have h1 := hX j u hj
      rw [Lib.cell_of_heap hg] at h1
      have h2 : w2.drew.heap[g]? = some (.cells cur 56 (0, 0)) := hg2.trans hg
      rw [Lib.cell_of_heap h2]
      exact h1) (by rw [set3_size]; omega)
    have hR : RowS w3 B w.heap.size 0 [accT, x] := rowS_two hB hN3 (by
        rw [set3_other _ 3 x 0 (.inl (by omega)), set3_other _ 3 x 1 (.inl (by omega)), set3_other _ 3 x 2 (.inl (by omega))]
        have h1 := set3_at ROW 0 accT (by omega)
        simpa using h1) (by
        have h1 := set3_at (cset3 ROW 0 accT) 3 x (by rw [set3_size]; omega)
        exact h1)
    have F : Hid (OwnS w3 B (.slice (some ⟨w.heap.size, 0, none⟩) 2 G) [accT, x] ∧ w.grownBy w3 (some g)) :=
      ⟨.inr ⟨w.heap.size, 0, G, rfl, hG2, hGm, hR⟩, ⟨hG3.os.trans (hG2'.os.trans hG1.os), hG3.tape.trans (hG2'.tape.trans hG1.tape), hG3.output.trans (hG2'.output.trans hG1.output), Nat.le_trans hG1.size (Nat.le_trans hG2'.size hG3.size),
        fun k hk hkg => (hG3.block k (Nat.lt_of_lt_of_le (Nat.lt_of_lt_of_le hk hG1.size) hG2'.size) (fun e => by simp at e; omega)).trans ((hG2'.block k (Nat.lt_of_lt_of_le hk hG1.size) (fun e => by simp at e; omega)).trans (hsame k hk))⟩⟩
    have hGm' := hGm
    unfold maxLen at hGm'
    have hn1 : ¬ (G = 1) := by omega
    have hn0 : ¬ (G = 0) := by omega
    have Ka := Lib.hid hap
    have Kb := Lib.hid hr2
    have Kc := Lib.hid hr3
    clear hap hr2 hr3 hR hG1 hG2' hG3 hN1 hN2 hN3 hsame hW1s hg2 hW1 hROW hRs hold hX hV hsz hpre hcm hg hv hG hGm hgl hvl hi hz0 hz1 hz2 h2 h1c
    have k2 := Kb.out
    have k3 := Kc.out
    go_enter Tryz.func118, Tryz.ntmps118
    go_wp2_with (first | (at_builtin; refine wpList_run_app2 Ka.out rfl _ _ rfl rfl rfl rfl ?_) | simp only [k2] | simp only [k3])
    refine Mixed.wp_region_mixed (fun _ => True) 8 [(0, true), (1, true), (2, true), (3, true), (4, true), (5, true), (6, true), (7, true)] (by kernel_rfl) (by kernel_rfl) trivial ?_
    refine Mixed.wpMix_move rfl (by kernel_rfl) _ rfl _ rfl ?_
    refine Mixed.wpMix_move rfl (by kernel_rfl) _ rfl _ rfl ?_
    refine Mixed.wpMix_move rfl (by kernel_rfl) _ rfl _ rfl ?_
    refine Mixed.wpMix_pure rfl (by kernel_rfl) (.int .i64 1) (fun w h => by clear h; go_simp; try rfl) ?_
    obtain ⟨q, hq⟩ : ∃ q, w.heap.size = q := ⟨_, rfl⟩
    rw [hq] at k2 k3 F ⊢
    refine Mixed.wpMix_pure rfl (by kernel_rfl) (.slice (some ⟨q, 3, none⟩) 1 (G - 1)) (fun w h => by clear h; go_simp; try omega) ?_
    refine Mixed.wpMix_move rfl (by kernel_rfl) _ rfl _ rfl ?_
    refine Mixed.wpMix_move rfl (by kernel_rfl) _ rfl _ rfl ?_
    refine Mixed.wpMix_pure rfl (by kernel_rfl) (.slice (some ⟨g, 0, none⟩) 1 1) (fun w h => by clear h; go_simp; try omega) ?_
    simp only [Mixed.wpMix, List.drop_succ_cons, List.drop_zero]
    go_wp2_with (simp only [k3])
    go_ret
    exact ⟨_, G, rfl, F.out.1, F.out.2⟩
end Go.Proofs.YtclhaejdjogfbaaGreatDoor
