/-
  The step that places the register A: the other mnemonics.
-/
import Derived.Test.YtbmgfkbgfgknbaaCnQ
namespace Go.Proofs.Ytbmgfkbgfgknbaa
open Go.RowKit
set_option linter.unusedVariables false
attribute [local irreducible] Go.Mixed.wpMix

set_option maxRecDepth 100000 in
set_option maxHeartbeats 8000000 in
theorem place_2 (s : ByteArray) (h1 : I2 s) (B bd : Nat) (hB : B ≤ bd) (v : Value) (L : List Tr) (hL : L.length ≤ 1000) (w : World) (hD : Dr w bd s v) (hO : OwnT w B v L) :
    Calls Try.prog 21 #[.pointer (some ⟨bd, 0, none⟩)] w (RetP w bd s B (accL 2 L)) := by
  obtain ⟨A, cap, rfl, hP, hlc⟩ := hO.ops
  have D0 := Lib.hid hD
  have O0 := Lib.hid hO
  obtain ⟨d0, d1, -, -⟩ := hD.cells
  by_cases h2 : L.length = 1
  · obtain ⟨x, rfl⟩ : ∃ x, L = [x] := by
      cases L with
      | nil => simp at h2
      | cons a r =>
        cases r with
        | nil => exact ⟨a, rfl⟩
        | cons b r => simp at h2
    obtain ⟨g, rfl, hgB, hgl⟩ : ∃ g, A = some ⟨g, 0, none⟩ ∧ B ≤ g ∧ g < w.heap.size := by
      rcases hO.2 with ⟨h, _⟩ | ⟨g', cap', cur, h, hg, hc, _⟩
      · simp at h
      · simp only [Value.slice.injEq] at h
        exact ⟨g', h.1, hg, (Array.getElem?_eq_some_iff.1 hc).1⟩
    have SB : Hid (B ≤ w.heap.size) := Nat.le_trans hB (Nat.le_of_lt hD.lt)
    have HGB := Lib.hid (hO.own.nonnil (by simp))
    have HG : Hid (g ≠ bd) := by
      obtain ⟨g', off, cap', e, -, -, hR⟩ := HGB.out
      simp only [Value.slice.injEq, Option.some.injEq, Addr.mk.injEq] at e
      rw [e.1.1]
      exact hR.apart hD
    have HGS := Lib.hid hgB
    have HGL := Lib.hid hgl
    have e2 : ([x] : List Tr).length = 1 := rfl
    have CW : Hid (w.drew.cell? ⟨bd, 1, none⟩ = some (.slice (some ⟨g, 0, none⟩) 1 cap)) := d1
    have e3 : ([x] : List Tr).length = 1 := rfl
    rw [e2] at D0 O0 d1
    clear hD hO hP hlc hL h2 e2 e3 HGB hgB hgl d0
    rcases h1 with rfl | rfl | rfl
    all_goals
      go_enter Try.func21, Try.ntmps21
      obtain ⟨e0, e1, -, -⟩ := D0.out.cells
      go_wp2
      clear e0 e1
      refine Mixed.wp_region_mixed (fun w' => w'.cell? ⟨bd, 1, none⟩ = some (.slice (some ⟨g, 0, none⟩) 1 cap)) 9 [(0, true), (1, true), (2, true), (3, true), (4, true), (5, true), (6, false), (7, false), (8, false)] (by kernel_rfl) (by kernel_rfl) CW.out ?_
      refine Mixed.wpMix_move rfl (by kernel_rfl) _ rfl _ rfl ?_
      refine Mixed.wpMix_move rfl (by kernel_rfl) _ rfl _ rfl ?_
      refine Mixed.wpMix_pure rfl (by kernel_rfl) (.pointer (some ⟨bd, 0, none⟩)) (fun w h => by go_simp; try rfl) ?_
      refine Mixed.wpMix_pure rfl (by kernel_rfl) (.pointer (some ⟨bd, 0, none⟩)) (fun w h => by go_simp; try rfl) ?_
      refine Mixed.wpMix_pure rfl (by kernel_rfl) (.pointer (some ⟨bd, 1, none⟩)) (fun w h => by go_simp; try rfl) ?_
      refine Mixed.wpMix_pure rfl (by kernel_rfl) (.slice (some ⟨g, 0, none⟩) 1 cap) (fun w h => by go_simp; try rfl) ?_
      refine Mixed.wpMix_loudG rfl (by kernel_rfl) ?_
      go_wp2_with fail
      refine (acc_any _).mono ?_
      rintro e w1 ⟨rfl, hb⟩
      have D1 := Lib.hid (D0.out.below (w' := w1) ((below_drewN _ _ 1).trans hb))
      have O1 := Lib.hid (O0.out.below (w' := w1) ((below_drewN _ _ 1).trans hb))
      have B1 : Hid (Below B w w1) := ((below_drewN w _ 1).trans hb).mono SB.out
      have S1 : Hid (w.heap.size ≤ w1.heap.size) := ((below_drewN w _ 1).trans hb).size
      have xx := D1.out.cells.2.1
      clear hb D0 O0
      go_wp2
      refine ⟨xx, ?_⟩
      clear xx
      refine Mixed.wpMix_loudG rfl (by kernel_rfl) ?_
      have hal : ∀ o, Below w1.heap.size w1 (w1.alloc o) := fun o => (Below.refl _ _).alloc (Nat.le_refl _) o
      have D2 := fun o => Lib.hid (D1.out.below (hal o))
      have O2 := fun o => Lib.hid (O1.out.below (hal o))
      have B2 := fun o => Lib.hid (B1.out.alloc (Nat.le_trans SB.out S1.out) o)
      have xx := fun o => (D2 o).out.cells.2.1
      have IN := Lib.hid (insert_one B g cap w1.heap.size x (w1.alloc (.cells #[.int .i64 1, .int .i64 7, .int .i64 0] 33)) (O2 _).out (heap_alloc_new w1 _) (by have := HGL.out; have := S1.out; omega) (by have := SB.out; have := S1.out; simp; omega))
      clear hal O1 D1 B1 O2
      go_wp2
      refine ⟨xx _, ?_⟩
      clear xx
      refine Mixed.wpMix_loudG rfl (by kernel_rfl) ?_
      go_wp2_with fail
      refine IN.out.mono ?_
      rintro e w3 ⟨A2, cap2, rfl, hO3, hG3⟩
      have D3 : Hid (Dr w3 bd _ (.slice (some ⟨g, 0, none⟩) 1 cap)) := (hG3.block bd (D2 _).out.lt (fun e => HG.out (by simp at e; exact e.symm))).trans (D2 _).out
      have B3 : Hid (Below B w w3) := (B2 _).out.grown hG3 (Nat.le_trans (Nat.le_trans SB.out S1.out) (by simp)) (fun k hk => by simp at hk; have := HGS.out; omega)
      have D4 := Lib.hid (D3.out.put (.slice A2 2 cap2))
      have O4 := Lib.hid (OwnS.other hO3 D3.out 1 (u := .slice A2 2 cap2))
      have B4 : Hid (Below B w (w3.setCell ⟨bd, 1, none⟩ (.slice A2 2 cap2))) := B3.out.setCell (p := ⟨bd, 1, none⟩) hB _
      obtain ⟨e0, e1, -, f1⟩ := D3.out.cells
      have xx := e1
      clear hO3 hG3 D2 B2 B3 IN D3
      go_wp2
      refine ⟨xx, ?_⟩
      clear xx
      simp only [Mixed.wpMix, List.drop_succ_cons, List.drop_zero]
      go_wp2
      go_end0
      rw [← accL_put x]
      exact ⟨rfl, _, D4.out, O4.out, B4.out⟩
  · have EE := Lib.hid (accL_len1 L h2)
    obtain ⟨n, hn⟩ : ∃ n, L.length = n := ⟨_, rfl⟩
    have O0 := Lib.hid O0.out.own
    rw [hn] at D0 O0 d1 h2 hL
    have h3 : ¬ ((n : Int) = 1) := by omega
    clear hD hO hP hn hlc
    rcases h1 with rfl | rfl | rfl
    all_goals
      go_enter Try.func21, Try.ntmps21
      go_wp2
      go_end0
      rw [← EE.out]
      exact ⟨rfl, _, D0.out, O0.out, Below.refl _ _⟩
set_option maxRecDepth 100000 in
set_option maxHeartbeats 8000000 in
theorem place_0 (s : ByteArray) (h1 : ¬ I1 s) (h2 : ¬ I2 s) (B bd : Nat) (v : Value) (L : List Tr) (w : World) (hD : Dr w bd s v) (hO : OwnS w B v L) :
    Calls Try.prog 21 #[.pointer (some ⟨bd, 0, none⟩)] w (RetP w bd s B (accL (opc s) L)) := by
  have EE := Lib.hid (accL_other (opc s) L (opc_n1 h1) (opc_n2 h2))
  obtain ⟨d0, d1, -, -⟩ := hD.cells
  have D0 := Lib.hid hD
  have O0 := Lib.hid hO
  simp only [I1, not_or] at h1
  simp only [I2, not_or] at h2
  obtain ⟨n1, n2, n3, n4, n5⟩ := h1
  obtain ⟨n6, n7, n8⟩ := h2
  have q1 : (s.toList == [83, 85, 66]) = false := by simpa using strB_ne n1
  have q2 : (s.toList == [65, 78, 68]) = false := by simpa using strB_ne n2
  have q3 : (s.toList == [88, 79, 82]) = false := by simpa using strB_ne n3
  have q4 : (s.toList == [79, 82]) = false := by simpa using strB_ne n4
  have q5 : (s.toList == [67, 80]) = false := by simpa using strB_ne n5
  have q6 : (s.toList == [65, 68, 68]) = false := by simpa using strB_ne n6
  have q7 : (s.toList == [65, 68, 67]) = false := by simpa using strB_ne n7
  have q8 : (s.toList == [83, 66, 67]) = false := by simpa using strB_ne n8
  clear n1 n2 n3 n4 n5 n6 n7 n8 hD hO
  go_enter Try.func21, Try.ntmps21
  go_wp2
  go_end0
  rw [← EE.out]
  exact ⟨rfl, _, D0.out, O0.out, Below.refl _ _⟩
theorem place_any (s : ByteArray) (B bd : Nat) (hB : B ≤ bd) (v : Value) (L : List Tr) (hL : L.length ≤ 1000) (w : World) (hD : Dr w bd s v) (hO : OwnT w B v L) :
    Calls Try.prog 21 #[.pointer (some ⟨bd, 0, none⟩)] w (RetP w bd s B (accL (opc s) L)) := by
  by_cases h1 : I1 s
  · rw [opc_1 h1]; exact place_1 s h1 B bd hB v L hL w hD hO
  by_cases h2 : I2 s
  · rw [opc_2 h2]; exact place_2 s h2 B bd hB v L hL w hD hO
  exact place_0 s h1 h2 B bd v L w hD hO.own
end Go.Proofs.Ytbmgfkbgfgknbaa
