/-
  The walk over slices.Reverse at two operands of the call's own.
-/
import Derived.Test.YtbmgfkbgfgknbaaCnP
import Derived.Test.YtbmgfkbgfgknbaaMixed2
namespace Go.Proofs.Ytbmgfkbgfgknbaa
open Go.RowKit
set_option linter.unusedVariables false

theorem cells_setA : ∀ (L : List Tr) (k : Nat) (a : Int) (h : k < L.length), (cellsT L).set (k * 3) (.int .i64 a) = cellsT (L.set k (a, L[k].2.1, L[k].2.2))
  | x :: t, 0, a, h => rfl
  | x :: t, k + 1, a, h => by
    have ih := cells_setA t k a (by simpa using h)
    rw [show (k + 1) * 3 = (k * 3) + 1 + 1 + 1 by omega]
    have e : ∀ y : List Tr, cellsT (x :: y) = .int .i64 x.1 :: .int .i64 x.2.1 :: .int .i64 x.2.2 :: cellsT y := fun _ => rfl
    simp only [List.set_cons_succ, List.getElem_cons_succ, e]
    rw [ih]
theorem cells_setB : ∀ (L : List Tr) (k : Nat) (a : Int) (h : k < L.length), (cellsT L).set (k * 3 + 1) (.int .i64 a) = cellsT (L.set k (L[k].1, a, L[k].2.2))
  | x :: t, 0, a, h => rfl
  | x :: t, k + 1, a, h => by
    have ih := cells_setB t k a (by simpa using h)
    rw [show (k + 1) * 3 + 1 = (k * 3 + 1) + 1 + 1 + 1 by omega]
    have e : ∀ y : List Tr, cellsT (x :: y) = .int .i64 x.1 :: .int .i64 x.2.1 :: .int .i64 x.2.2 :: cellsT y := fun _ => rfl
    simp only [List.set_cons_succ, List.getElem_cons_succ, e]
    rw [ih]
theorem RowS.put3 {w : World} {n g off : Nat} {L L' : List Tr} (h : RowS w n g off L) (j : Nat) (t : Tr) (hj : j < L.length) (e : L.set j t = L') :
    RowS (((w.setCell ⟨g, off + j * 3, none⟩ (.int .i64 t.1)).setCell ⟨g, off + j * 3 + 1, none⟩ (.int .i64 t.2.1)).setCell ⟨g, off + j * 3 + 2, none⟩ (.int .i64 t.2.2)) n g off L' := by
  have h1 := h.put (L' := L.set j (t.1, L[j].2.1, L[j].2.2)) (j * 3) (.int .i64 t.1) (cells_setA L j _ hj)
  have hj1 : j < (L.set j (t.1, L[j].2.1, L[j].2.2)).length := by rw [List.length_set]; exact hj
  have h2 := h1.put (L' := (L.set j (t.1, L[j].2.1, L[j].2.2)).set j (t.1, t.2.1, L[j].2.2)) (j * 3 + 1) (.int .i64 t.2.1) (by
    have := cells_setB (L.set j (t.1, L[j].2.1, L[j].2.2)) j t.2.1 hj1
    simp only [List.getElem_set_self] at this
    exact this)
  have hj2 : j < ((L.set j (t.1, L[j].2.1, L[j].2.2)).set j (t.1, t.2.1, L[j].2.2)).length := by rw [List.length_set]; exact hj1
  have h3 := h2.put (L' := L') (j * 3 + 2) (.int .i64 t.2.2) (by
    have := cells_set ((L.set j (t.1, L[j].2.1, L[j].2.2)).set j (t.1, t.2.1, L[j].2.2)) j t.1 t.2.1 t.2.2 hj2 (by simp) (by simp)
    rw [← this, List.set_set, List.set_set, ← e])
  rw [← Nat.add_assoc, ← Nat.add_assoc] at h3
  exact h3
theorem grownBy_set {w w' : World} {g : Nat} (h : w.grownBy w' (some g)) (j : Nat) (u : Value) : w.grownBy (w'.setCell ⟨g, j, none⟩ u) (some g) :=
  ⟨h.os, h.tape, h.output, by simpa using h.size, fun k hk hne => (heap_setCell_other w' ⟨g, j, none⟩ k u (fun e => hne (by rw [e]))).trans (h.block k hk hne)⟩
theorem grownBy_drew {w w' : World} {r : Option Nat} (h : w.grownBy w' r) : w.grownBy w'.drew r := ⟨h.os, h.tape, h.output, h.size, h.block⟩
theorem RowS.drew {w : World} {n g off : Nat} {L : List Tr} (h : RowS w n g off L) : RowS w.drew n g off L := h
set_option maxRecDepth 100000 in
set_option maxHeartbeats 4000000 in
theorem rev2_any (B g off cap : Nat) (x y : Tr) (w : World) (hR : RowS w B g off [x, y]) :
    Calls Try.prog 28 #[.slice (some ⟨g, off, none⟩) 2 cap] w fun e w' => e = .returned (.tuple #[]) ∧ RowS w' B g off [y, x] ∧ w.grownBy w' (some g) := by
  have h0 := hR.at_ 0 (by simp)
  have h1 := hR.at_ 1 (by simp)
  have z0 := hR.frozen
  simp only [List.getElem_cons_zero, List.getElem_cons_succ, Nat.zero_mul, Nat.add_zero, Nat.one_mul] at h0 h1
  have N1 := hR.put3 0 y (by simp) (L' := [y, y]) rfl
  have N2 := N1.put3 1 x (by simp) (L' := [y, x]) rfl
  simp only [Nat.zero_mul, Nat.add_zero, Nat.one_mul] at N2
  have NN := Lib.hid N2.drew
  obtain ⟨x0, x1, x2⟩ := x
  obtain ⟨y0, y1, y2⟩ := y
  simp only at h0 h1 NN
  have C1 : Hid ((w.drew.cell? ⟨g, off, none⟩ = some (.int .i64 x0) ∧ w.drew.cell? ⟨g, off + 1, none⟩ = some (.int .i64 x1) ∧ w.drew.cell? ⟨g, off + 2, none⟩ = some (.int .i64 x2)) ∧
      (w.drew.cell? ⟨g, off + 3, none⟩ = some (.int .i64 y0) ∧ w.drew.cell? ⟨g, off + 3 + 1, none⟩ = some (.int .i64 y1) ∧ w.drew.cell? ⟨g, off + 3 + 2, none⟩ = some (.int .i64 y2))) := ⟨h0, h1⟩
  have GG := Lib.hid (grownBy_drew (grownBy_set (grownBy_set (grownBy_set (grownBy_set (grownBy_set (grownBy_set (g := g) (World.grownBy.refl w (some g)) off (.int .i64 y0)) (off + 1) (.int .i64 y1)) (off + 2) (.int .i64 y2)) (off + 3) (.int .i64 x0)) (off + 3 + 1) (.int .i64 x1)) (off + 3 + 2) (.int .i64 x2)))
  have H0 := Lib.hid h0
  have H1 := Lib.hid h1
  clear hR N1 N2 h0 h1
  go_enter Try.func28, Try.ntmps28
  go_wp2
  go_loopw [2, 3] (fun i j wr => (i = .int .i64 0 ∧ j = .int .i64 1 ∧ wr = w) ∨ (i = .int .i64 1 ∧ j = .int .i64 0 ∧ Hid (RowS wr B g off [(y0, y1, y2), (x0, x1, x2)]) ∧ Hid (w.grownBy wr (some g)))) (fun i j _ => (intOf j - intOf i + 1).toNat)
  case atStart => exact .inl ⟨rfl, rfl, rfl⟩
  case round =>
    rcases hrel with ⟨rfl, rfl, rfl⟩ | ⟨rfl, rfl, R, G⟩
    · go_wp2
      refine Mixed2.wp_region_mixed (fun w' => (w'.cell? ⟨g, off, none⟩ = some (.int .i64 x0) ∧ w'.cell? ⟨g, off + 1, none⟩ = some (.int .i64 x1) ∧ w'.cell? ⟨g, off + 2, none⟩ = some (.int .i64 x2)) ∧
          (w'.cell? ⟨g, off + 3, none⟩ = some (.int .i64 y0) ∧ w'.cell? ⟨g, off + 3 + 1, none⟩ = some (.int .i64 y1) ∧ w'.cell? ⟨g, off + 3 + 2, none⟩ = some (.int .i64 y2))) 15 13
        [(0, 1), (1, 1), (2, 1), (3, 1), (4, 1), (5, 1), (6, 1), (7, 0), (8, 1), (9, 1), (10, 1), (11, 0), (12, 1), (13, 2), (14, 1)] (by kernel_rfl) (by kernel_rfl) C1.out ?_
      refine Mixed2.wpMix_move rfl rfl _ rfl _ rfl ?_
      refine Mixed2.wpMix_move rfl rfl _ rfl _ rfl ?_
      refine Mixed2.wpMix_move rfl rfl _ rfl _ rfl ?_
      refine Mixed2.wpMix_move rfl rfl _ rfl _ rfl ?_
      refine Mixed2.wpMix_move rfl rfl _ rfl _ rfl ?_
      refine Mixed2.wpMix_move rfl rfl _ rfl _ rfl ?_
      refine Mixed2.wpMix_pure rfl rfl _ (fun w => by go_simp; rfl) ?_
      refine Mixed2.wpMix_held rfl rfl _ (fun w h => by obtain ⟨⟨p1, p2, p3⟩, p4, p5, p6⟩ := h; go_simp; rfl) ?_
      refine Mixed2.wpMix_move rfl rfl _ rfl _ rfl ?_
      refine Mixed2.wpMix_move rfl rfl _ rfl _ rfl ?_
      refine Mixed2.wpMix_pure rfl rfl _ (fun w => by go_simp; rfl) ?_
      refine Mixed2.wpMix_held rfl rfl _ (fun w h => by obtain ⟨⟨p1, p2, p3⟩, p4, p5, p6⟩ := h; go_simp; rfl) ?_
      refine Mixed2.wpMix_pure rfl rfl _ (fun w => by go_simp; rfl) ?_
      refine Mixed2.wpMix_loud rfl ?_
      obtain ⟨p1, p2, p3⟩ := H0.out
      obtain ⟨p4, p5, p6⟩ := H1.out
      have f0 := z0 off
      have f1 := z0 (off + 1)
      have f2 := z0 (off + 2)
      have f3 := z0 (off + 3)
      have f4 := z0 (off + 3 + 1)
      have f5 := z0 (off + 3 + 2)
      go_wp2
      show Mixed2.wpMix _ _ _ _ _ _ _ _ _
      refine Mixed2.wpMix_pure rfl rfl _ (fun w => by go_simp; rfl) ?_
      simp only [Mixed2.wpMix, List.drop_succ_cons, List.drop_zero]
      go_wp2
      go_roundw
      case rel => exact .inr ⟨rfl, rfl, NN.out, GG.out⟩
      case measure => simp [intOf]
    · go_wp2
      go_end0
      exact ⟨rfl, R.out, G.out⟩
end Go.Proofs.Ytbmgfkbgfgknbaa
