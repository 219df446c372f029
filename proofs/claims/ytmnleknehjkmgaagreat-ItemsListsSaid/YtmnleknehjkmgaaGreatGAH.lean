/-
  TbM, TbN, TbO, TbP.
-/
import Derived.Test.YtmnleknehjkmgaaGreatGAG
set_option linter.all false
set_option maxRecDepth 100000
set_option maxHeartbeats 4000000
namespace Go.Proofs.YtmnleknehjkmgaaGreat
open Go.RowKit Go.Shelf
theorem opd_eql (x y : Tr) (w : World) : (binOp .eql 67 (trV x) (trV y)).run Tryz.prog w = .ok (.bool (decide (x = y))) w := by
  obtain ⟨a, b, c⟩ := x
  obtain ⟨d, e, f⟩ := y
  simp only [trV]
  go_simp
  by_cases h1 : a = d
  · by_cases h2 : b = e
    · by_cases h3 : c = f
      · simp [h1, h2, h3]
      · simp [h1, h2, h3]
    · simp [h1, h2]
  · simp [h1]
theorem opd_neq (x y : Tr) (w : World) : (binOp .neq 67 (trV x) (trV y)).run Tryz.prog w = .ok (.bool (!decide (x = y))) w := by
  obtain ⟨a, b, c⟩ := x
  obtain ⟨d, e, f⟩ := y
  simp only [trV]
  go_simp
  by_cases h1 : a = d
  · by_cases h2 : b = e
    · by_cases h3 : c = f
      · simp [h1, h2, h3]
      · simp [h1, h2, h3]
    · simp [h1, h2]
  · simp [h1]
def opX (ix : Int) (o : Tr) : Tr :=
  if o = (1, 4, 0) then (2, if ix = 6 then 2 else 0, 0) else if o = (1, 5, 0) then (2, if ix = 6 then 3 else 1, 0) else if o = (3, 2, 0) then (3, ix, 0) else if o = (4, 2, 0) then (4, ix, 0) else o
theorem opx_start (w : World) (o : Tr) : ∃ w0, (w.alloc (.cells #[.int .i64 o.1, .int .i64 o.2.1, .int .i64 o.2.2] 67)).alloc (.cells #[.int .i64 0, .int .i64 0, .int .i64 0] 67) = w0 ∧
    OpdAt w0 (w.heap.size + 1) ∧ Below w.heap.size w w0 ∧ w0.heap.size = w.heap.size + 2 ∧ w0.heap[w.heap.size]? = some (.cells #[.int .i64 o.1, .int .i64 o.2.1, .int .i64 o.2.2] 67 (0, 0)) := by
  refine ⟨_, rfl, ?_, ((Below.refl _ w).alloc (Nat.le_refl _) _).alloc (by simp) _, by simp, (Below.heap_alloc _ _ _ (by simp)).trans (World.alloc_heap_new w _)⟩
  have h := World.alloc_heap_new (w.alloc (.cells #[.int .i64 o.1, .int .i64 o.2.1, .int .i64 o.2.2] 67)) (.cells #[.int .i64 0, .int .i64 0, .int .i64 0] 67)
  rw [World.size_alloc] at h
  exact h
theorem opx_of (b : Nat) (ix : Int) (hix : ix = 5 ∨ ix = 6) (a c d : Int) (t0 t1 t2 t3 : Bool) (q0 : ∀ w, (binOp .eql 67 (.agg #[.int .i64 a, .int .i64 c, .int .i64 d]) (.agg #[.int .i64 1, .int .i64 4, .int .i64 0])).run Tryz.prog w = .ok (.bool t0) w) (q1 : ∀ w, (binOp .eql 67 (.agg #[.int .i64 a, .int .i64 c, .int .i64 d]) (.agg #[.int .i64 1, .int .i64 5, .int .i64 0])).run Tryz.prog w = .ok (.bool t1) w) (q2 : ∀ w, (binOp .eql 67 (.agg #[.int .i64 a, .int .i64 c, .int .i64 d]) (.agg #[.int .i64 3, .int .i64 2, .int .i64 0])).run Tryz.prog w = .ok (.bool t2) w) (q3 : ∀ w, (binOp .eql 67 (.agg #[.int .i64 a, .int .i64 c, .int .i64 d]) (.agg #[.int .i64 4, .int .i64 2, .int .i64 0])).run Tryz.prog w = .ok (.bool t3) w) (w : World) (hx : w.cell? ⟨b, 6, none⟩ = some (.int .i64 ix)) : Calls Tryz.prog 132 #[.pointer (some ⟨b, 0, none⟩), .agg #[.int .i64 a, .int .i64 c, .int .i64 d]] w (RetTr w (if t0 then ((2, if ix = 6 then 2 else 0, 0) : Tr) else if t1 then (2, if ix = 6 then 3 else 1, 0) else if t2 then (3, ix, 0) else if t3 then (4, ix, 0) else (a, c, d))) := by
  obtain ⟨w0, hw0, S0, B0, Z0, C0⟩ := opx_start w (a, c, d)
  have hbl := World.block_lt_of_cell? w _ hx
  have x0 := (B0.cell hbl).trans hx
  obtain ⟨n, hn⟩ : ∃ n, w.heap.size = n := ⟨_, rfl⟩
  rw [hn] at S0 B0 Z0 C0
  have hbn : b < n := by rw [← hn]; exact hbl
  have k0 := Lib.cell_of_heap C0 0
  have k1 := Lib.cell_of_heap C0 1
  have k2 := Lib.cell_of_heap C0 2
  obtain ⟨y0, hy0⟩ : ∃ y, w0 = y := ⟨_, rfl⟩
  rw [hy0] at hw0 S0 B0 Z0 k0 k1 k2 x0
  clear C0 hy0
  have S0 := Lib.hid S0
  have B0 := Lib.hid B0
  have HN := Lib.hid hn
  have HB := Lib.hid hbn
  obtain ⟨u, hu⟩ : ∃ z : Int, (if ix = 6 then 2 else 0) = z := ⟨_, rfl⟩
  obtain ⟨v, hv⟩ : ∃ z : Int, (if ix = 6 then 3 else 1) = z := ⟨_, rfl⟩
  obtain ⟨i, hi⟩ : ∃ z : Int, ix = z := ⟨_, rfl⟩
  rw [hu, hv, hi]
  have HI := Lib.hid hi
  obtain ⟨rr, hrr⟩ : ∃ z, (if t0 then ((2, u, 0) : Tr) else if t1 then (2, v, 0) else if t2 then (3, i, 0) else if t3 then (4, i, 0) else (a, c, d)) = z := ⟨_, rfl⟩
  rw [hrr]
  have HR := Lib.hid hrr
  clear hrr
  have HU := Lib.hid hu
  have HV := Lib.hid hv
  clear hbl hx hu hv hi
  rcases hix with rfl | rfl
  all_goals
    go_enter Tryz.func132, Tryz.ntmps132
    go_wp2_with fail
    refine (register_any _ y0).mono ?_
    rintro e y1 ⟨rfl, hb⟩
    have S1 : Hid (OpdAt y1 (n + 1)) := S0.out.below hb
    have B1 : Hid (Below n w y1) := B0.out.trans (hb.mono (by omega))
    have Z1 : n + 2 ≤ y1.heap.size := by have := hb.size; omega
    have x1 := (hb.cell (show b < y0.heap.size by omega)).trans x0
    have m0 := (hb.cell (show n < y0.heap.size by omega)).trans k0
    have m1 := (hb.cell (show n < y0.heap.size by omega)).trans k1
    have m2 := (hb.cell (show n < y0.heap.size by omega)).trans k2
    clear k0 k1 k2
    have k0 := m0
    have k1 := m1
    have k2 := m2
    clear m0 m1 m2 hb S0 B0 Z0 x0 hw0
    simp only [trV]
    cases t0
    rotate_left
    · go_wp2_with fail
      refine Calls.mono (?_ : Calls _ _ _ _ (RetTr y1 (2, u, 0))) ?_
      · rw [← HU.out]; exact half_any _ y1
      rintro e y2 ⟨rfl, hb⟩
      have S2 : Hid (OpdAt y2 (n + 1)) := S1.out.below hb
      have B2 : Hid (Below n w y2) := B1.out.trans (hb.mono (by omega))
      clear hb S1 B1 x1 k0 k1 k2
      simp only [trV]
      obtain ⟨c0, c1, c2, c3⟩ := S2.out.cells
      go_wp2
      obtain ⟨w3, hw3, hc3, hb3, -⟩ := opd_set S2.out 2 u 0
      rw [hw3]
      have r0 := Lib.cell_of_heap hc3 0
      have r1 := Lib.cell_of_heap hc3 1
      have r2 := Lib.cell_of_heap hc3 2
      refine bodyPost_ret (v := trV (2, u, 0)) ?_ rfl ?_
      · simp [results, Tryz.results132, go_sem, r0, r1, r2, trV]
      · exact ⟨by rw [← HR.out]; rfl, by rw [HN.out]; exact B2.out.trans (hb3.mono (by omega))⟩
    go_wp2_with fail
    refine (register_any _ y1).mono ?_
    rintro e y2 ⟨rfl, hb⟩
    have S2 : Hid (OpdAt y2 (n + 1)) := S1.out.below hb
    have B2 : Hid (Below n w y2) := B1.out.trans (hb.mono (by omega))
    have Z2 : n + 2 ≤ y2.heap.size := by have := hb.size; omega
    have x2 := (hb.cell (show b < y1.heap.size by omega)).trans x1
    have m0 := (hb.cell (show n < y1.heap.size by omega)).trans k0
    have m1 := (hb.cell (show n < y1.heap.size by omega)).trans k1
    have m2 := (hb.cell (show n < y1.heap.size by omega)).trans k2
    clear k0 k1 k2
    have k0 := m0
    have k1 := m1
    have k2 := m2
    clear m0 m1 m2 hb S1 B1 Z1 x1
    simp only [trV]
    cases t1
    rotate_left
    · go_wp2_with fail
      refine Calls.mono (?_ : Calls _ _ _ _ (RetTr y2 (2, v, 0))) ?_
      · rw [← HV.out]; exact half_any _ y2
      rintro e y3 ⟨rfl, hb⟩
      have S3 : Hid (OpdAt y3 (n + 1)) := S2.out.below hb
      have B3 : Hid (Below n w y3) := B2.out.trans (hb.mono (by omega))
      clear hb S2 B2 x2 k0 k1 k2
      simp only [trV]
      obtain ⟨c0, c1, c2, c3⟩ := S3.out.cells
      go_wp2
      obtain ⟨w3, hw3, hc3, hb3, -⟩ := opd_set S3.out 2 v 0
      rw [hw3]
      have r0 := Lib.cell_of_heap hc3 0
      have r1 := Lib.cell_of_heap hc3 1
      have r2 := Lib.cell_of_heap hc3 2
      refine bodyPost_ret (v := trV (2, v, 0)) ?_ rfl ?_
      · simp [results, Tryz.results132, go_sem, r0, r1, r2, trV]
      · exact ⟨by rw [← HR.out]; rfl, by rw [HN.out]; exact B3.out.trans (hb3.mono (by omega))⟩
    go_wp2_with fail
    refine (pair_any _ y2).mono ?_
    rintro e y3 ⟨rfl, hb⟩
    have S3 : Hid (OpdAt y3 (n + 1)) := S2.out.below hb
    have B3 : Hid (Below n w y3) := B2.out.trans (hb.mono (by omega))
    have Z3 : n + 2 ≤ y3.heap.size := by have := hb.size; omega
    have x3 := (hb.cell (show b < y2.heap.size by omega)).trans x2
    have m0 := (hb.cell (show n < y2.heap.size by omega)).trans k0
    have m1 := (hb.cell (show n < y2.heap.size by omega)).trans k1
    have m2 := (hb.cell (show n < y2.heap.size by omega)).trans k2
    clear k0 k1 k2
    have k0 := m0
    have k1 := m1
    have k2 := m2
    clear m0 m1 m2 hb S2 B2 Z2 x2
    simp only [trV]
    cases t2
    rotate_left
    · go_wp2_with fail
      refine Calls.mono (?_ : Calls _ _ _ _ (RetTr y3 (3, i, 0))) ?_
      · rw [← HI.out]; exact pair_any _ y3
      rintro e y4 ⟨rfl, hb⟩
      have S4 : Hid (OpdAt y4 (n + 1)) := S3.out.below hb
      have B4 : Hid (Below n w y4) := B3.out.trans (hb.mono (by omega))
      clear hb S3 B3 x3 k0 k1 k2
      simp only [trV]
      obtain ⟨c0, c1, c2, c3⟩ := S4.out.cells
      go_wp2
      obtain ⟨w3, hw3, hc3, hb3, -⟩ := opd_set S4.out 3 i 0
      rw [hw3]
      have r0 := Lib.cell_of_heap hc3 0
      have r1 := Lib.cell_of_heap hc3 1
      have r2 := Lib.cell_of_heap hc3 2
      refine bodyPost_ret (v := trV (3, i, 0)) ?_ rfl ?_
      · simp [results, Tryz.results132, go_sem, r0, r1, r2, trV]
      · exact ⟨by rw [← HR.out]; rfl, by rw [HN.out]; exact B4.out.trans (hb3.mono (by omega))⟩
    go_wp2_with fail
    refine (tpointer_any _ y3).mono ?_
    rintro e y4 ⟨rfl, hb⟩
    have S4 : Hid (OpdAt y4 (n + 1)) := S3.out.below hb
    have B4 : Hid (Below n w y4) := B3.out.trans (hb.mono (by omega))
    have Z4 : n + 2 ≤ y4.heap.size := by have := hb.size; omega
    have x4 := (hb.cell (show b < y3.heap.size by omega)).trans x3
    have m0 := (hb.cell (show n < y3.heap.size by omega)).trans k0
    have m1 := (hb.cell (show n < y3.heap.size by omega)).trans k1
    have m2 := (hb.cell (show n < y3.heap.size by omega)).trans k2
    clear k0 k1 k2
    have k0 := m0
    have k1 := m1
    have k2 := m2
    clear m0 m1 m2 hb S3 B3 Z3 x3
    simp only [trV]
    cases t3
    rotate_left
    · go_wp2_with fail
      refine Calls.mono (?_ : Calls _ _ _ _ (RetTr y4 (4, i, 0))) ?_
      · rw [← HI.out]; exact tpointer_any _ y4
      rintro e y5 ⟨rfl, hb⟩
      have S5 : Hid (OpdAt y5 (n + 1)) := S4.out.below hb
      have B5 : Hid (Below n w y5) := B4.out.trans (hb.mono (by omega))
      clear hb S4 B4 x4 k0 k1 k2
      simp only [trV]
      obtain ⟨c0, c1, c2, c3⟩ := S5.out.cells
      go_wp2
      obtain ⟨w3, hw3, hc3, hb3, -⟩ := opd_set S5.out 4 i 0
      rw [hw3]
      have r0 := Lib.cell_of_heap hc3 0
      have r1 := Lib.cell_of_heap hc3 1
      have r2 := Lib.cell_of_heap hc3 2
      refine bodyPost_ret (v := trV (4, i, 0)) ?_ rfl ?_
      · simp [results, Tryz.results132, go_sem, r0, r1, r2, trV]
      · exact ⟨by rw [← HR.out]; rfl, by rw [HN.out]; exact B5.out.trans (hb3.mono (by omega))⟩
    obtain ⟨c0, c1, c2, c3⟩ := S4.out.cells
    go_wp2
    obtain ⟨w3, hw3, hc3, hb3, -⟩ := opd_set S4.out a c d
    rw [hw3]
    have r0 := Lib.cell_of_heap hc3 0
    have r1 := Lib.cell_of_heap hc3 1
    have r2 := Lib.cell_of_heap hc3 2
    refine bodyPost_ret (v := trV (a, c, d)) ?_ rfl ?_
    · simp [results, Tryz.results132, go_sem, r0, r1, r2, trV]
    · exact ⟨by rw [← HR.out]; rfl, by rw [HN.out]; exact B4.out.trans (hb3.mono (by omega))⟩
theorem opx_any (b : Nat) (ix : Int) (hix : ix = 5 ∨ ix = 6) (o : Tr) (w : World) (hx : w.cell? ⟨b, 6, none⟩ = some (.int .i64 ix)) : Calls Tryz.prog 132 #[.pointer (some ⟨b, 0, none⟩), trV o] w (RetTr w (opX ix o)) := by
  have h := opx_of b ix hix o.1 o.2.1 o.2.2 _ _ _ _ (fun w => opd_eql o (1, 4, 0) w) (fun w => opd_eql o (1, 5, 0) w) (fun w => opd_eql o (3, 2, 0) w) (fun w => opd_eql o (4, 2, 0) w) w hx
  simp only [decide_eq_true_eq] at h
  exact h
end Go.Proofs.YtmnleknehjkmgaaGreat
namespace Go.Proofs.YtmnleknehjkmgaaGreat
open Go.RowKit Go.Shelf
attribute [local irreducible] Go.Mixed.wpMix
theorem cells_set3 : ∀ (L : List Tr) (k : Nat) (x : Tr) (h : k < L.length), (((cellsT L).set (k * 3) (.int .i64 x.1)).set (k * 3 + 1) (.int .i64 x.2.1)).set (k * 3 + 2) (.int .i64 x.2.2) = cellsT (L.set k x)
  | y :: t, 0, x, h => rfl
  | y :: t, k + 1, x, h => by
    have ih := cells_set3 t k x (by simpa using h)
    rw [show (k + 1) * 3 + 2 = (k * 3 + 2) + 1 + 1 + 1 by omega, show (k + 1) * 3 + 1 = (k * 3 + 1) + 1 + 1 + 1 by omega, show (k + 1) * 3 = (k * 3) + 1 + 1 + 1 by omega]
    have e : ∀ y : Tr, ∀ z : List Tr, cellsT (y :: z) = .int .i64 y.1 :: .int .i64 y.2.1 :: .int .i64 y.2.2 :: cellsT z := fun _ _ => rfl
    show _ = cellsT (y :: t.set k x)
    rw [e, e, ← ih]
    rfl
theorem OwnT.put3 {w : World} {B g cap n : Nat} {L : List Tr} (h : OwnT w B (.slice (some ⟨g, 0, none⟩) n cap) L) (hn : L.length = n) (k : Nat) (hk : k < n) (x : Tr) :
    OwnT (((w.setCell ⟨g, k * 3, none⟩ (.int .i64 x.1)).setCell ⟨g, k * 3 + 1, none⟩ (.int .i64 x.2.1)).setCell ⟨g, k * 3 + 2, none⟩ (.int .i64 x.2.2)) B (.slice (some ⟨g, 0, none⟩) n cap) (L.set k x) := by
  unfold OwnT at h ⊢
  rw [hn] at h
  rw [List.length_set, hn, ← cells_set3 L k x (by omega)]
  exact (World.ownsRow.stored (World.ownsRow.stored (World.ownsRow.stored h (k * 3) _).1 (k * 3 + 1) _).1 (k * 3 + 2) _).1
theorem row_set_ne {w : World} {base : Nat} {e : TypeId} {size n : Nat} {v : Value} {xs : List Value} (h : w.ownsRow base e size v n xs) {p : Addr} (hp : ∀ g, v.ownBlock = some g → g ≠ p.block) (u : Value) : (w.setCell p u).ownsRow base e size v n xs :=
  World.ownsRow.kept h (row := some p.block) ⟨rfl, rfl, rfl, by simp, fun k _ hk => heap_setCell_other w p k u (fun e => hk (by rw [e]))⟩ (by
    cases e : v.ownBlock with
    | none => exact .inl rfl
    | some g => exact .inr (fun e' => hp g e (by cases e'; rfl)))
def IxAt (w : World) (b : Nat) (page op : Int) (m : Str) (v : Value) (ex : Str) (al : Bool) (ix : Int) : Prop :=
  w.heap[b]? = some (.cells #[.int .i64 page, .int .u8 op, .string (sB m), v, .string (sB ex), .bool al, .int .i64 ix] 164 (0, 0))
section
variable {w w' : World} {b : Nat} {page op ix : Int} {m ex : Str} {v : Value} {al : Bool}
theorem IxAt.lt (h : IxAt w b page op m v ex al ix) : b < w.heap.size := (Array.getElem?_eq_some_iff.1 h).1
theorem IxAt.below {B : Nat} (h : IxAt w b page op m v ex al ix) (hb : Below B w w') (hB : b < B) : IxAt w' b page op m v ex al ix := (hb.block b hB).trans h
theorem IxAt.all (h : IxAt w b page op m v ex al ix) (hb : Below w.heap.size w w') : IxAt w' b page op m v ex al ix := h.below hb h.lt
theorem IxAt.cells (h : IxAt w b page op m v ex al ix) : w.cell? ⟨b, 0, none⟩ = some (.int .i64 page) ∧ w.cell? ⟨b, 1, none⟩ = some (.int .u8 op) ∧ w.cell? ⟨b, 2, none⟩ = some (.string (sB m)) ∧ w.cell? ⟨b, 3, none⟩ = some v ∧ w.cell? ⟨b, 4, none⟩ = some (.string (sB ex)) ∧ w.cell? ⟨b, 5, none⟩ = some (.bool al) ∧ w.cell? ⟨b, 6, none⟩ = some (.int .i64 ix) ∧ ∀ j, w.frozen? ⟨b, j, none⟩ = false :=
  ⟨Lib.cell_of_heap h 0, Lib.cell_of_heap h 1, Lib.cell_of_heap h 2, Lib.cell_of_heap h 3, Lib.cell_of_heap h 4, Lib.cell_of_heap h 5, Lib.cell_of_heap h 6, Lib.frozen_of_heap h⟩
theorem IxAt.apart (h : IxAt w b page op m v ex al ix) {g : Nat} {cur : Array Value} (hg : w.heap[g]? = some (.cells cur 67 (0, 0))) : g ≠ b := by
  rintro rfl
  rw [show w.heap[g]? = _ from h] at hg
  simp at hg
theorem IxAt.set_args (h : IxAt w b page op m v ex al ix) (v' : Value) : IxAt (w.setCell ⟨b, 3, none⟩ v') b page op m v' ex al ix := heap_setCell_same w b 3 _ _ v' h
theorem IxAt.set_extra (h : IxAt w b page op m v ex al ix) (ex' : Str) : IxAt (w.setCell ⟨b, 4, none⟩ (.string (sB ex'))) b page op m v ex' al ix := heap_setCell_same w b 4 _ _ _ h
theorem IxAt.set_alias (h : IxAt w b page op m v ex al ix) (al' : Bool) : IxAt (w.setCell ⟨b, 5, none⟩ (.bool al')) b page op m v ex al' ix := heap_setCell_same w b 5 _ _ _ h
theorem IxAt.set_code (h : IxAt w b page op m v ex al ix) (op' : Int) : IxAt (w.setCell ⟨b, 1, none⟩ (.int .u8 op')) b page op' m v ex al ix := heap_setCell_same w b 1 _ _ _ h
theorem IxAt.other (h : IxAt w b page op m v ex al ix) {g : Nat} (hg : b ≠ g) (j : Nat) (u : Value) : IxAt (w.setCell ⟨g, j, none⟩ u) b page op m v ex al ix := (heap_setCell_other w ⟨g, j, none⟩ b u hg).trans h
end
def repM (ix : Int) : List Tr → List Tr
  | [] => []
  | x :: t => if x = (4, 2, 0) then (5, ix, 0) :: t else x :: repM ix t
theorem repM_set (ix : Int) : ∀ (L : List Tr) (j : Nat), (∃ h : j < L.length, L[j] = (4, 2, 0)) → (∀ k, k < j → ∀ (a : k < L.length), L[k] ≠ (4, 2, 0)) → repM ix L = L.set j (5, ix, 0)
  | [], j, ⟨h, _⟩, _ => by simp at h
  | x :: t, 0, ⟨_, e⟩, _ => by
    simp only [List.getElem_cons_zero] at e
    unfold repM
    rw [if_pos e]
    rfl
  | x :: t, j + 1, ⟨h, e⟩, hk => by
    unfold repM
    have h0 : x ≠ (4, 2, 0) := hk 0 (by omega) (by simp)
    rw [if_neg h0, repM_set ix t j ⟨by simpa using h, by simpa using e⟩ (fun k hkj a => by
      have := hk (k + 1) (by omega) (by simpa using a)
      simpa using this)]
    rfl
theorem repM_len (ix : Int) : ∀ L : List Tr, (repM ix L).length = L.length
  | [] => rfl
  | x :: t => by unfold repM; split <;> simp [repM_len ix t]
structure Fr (w : World) (b : Nat) (v : Value) (w' : World) : Prop where
  size : w.heap.size ≤ w'.heap.size
  same : ∀ k, k < w.heap.size → k ≠ b → v.ownBlock ≠ some k → w'.heap[k]? = w.heap[k]?
theorem Fr.of_below {w w' : World} {b : Nat} {v : Value} (h : Below w.heap.size w w') : Fr w b v w' := ⟨h.size, fun k hk _ _ => h.block k hk⟩
theorem Fr.below {w w' w'' : World} {b : Nat} {v : Value} (h : Fr w b v w') (hb : Below w'.heap.size w' w'') : Fr w b v w'' :=
  ⟨Nat.le_trans h.size hb.size, fun k hk h1 h2 => (hb.block k (Nat.lt_of_lt_of_le hk h.size)).trans (h.same k hk h1 h2)⟩
theorem Fr.set {w w' : World} {b : Nat} {v : Value} (h : Fr w b v w') {p : Addr} (hp : p.block = b ∨ v.ownBlock = some p.block) (u : Value) : Fr w b v (w'.setCell p u) :=
  ⟨by simpa using h.size, fun k hk h1 h2 => (heap_setCell_other w' p k u (fun e => by rcases hp with hp | hp; exact h1 (e.trans hp); exact h2 (by rw [hp, e]))).trans (h.same k hk h1 h2)⟩
def memB (m : Str) (L : List Tr) : Bool := decide ((4, 2, 0) ∈ L) && !decide (m = [74, 80])
def RetMem (w : World) (b B : Nat) (page op : Int) (m : Str) (v : Value) (ex : Str) (al : Bool) (ix : Int) (L : List Tr) (e : Ending) (w' : World) : Prop :=
  e = .returned (.bool (memB m L)) ∧ IxAt w' b page op m v (if memB m L then 100 :: ex else ex) al ix ∧ OwnT w' B v (if memB m L then repM ix L else L) ∧ Below B w w' ∧ Fr w b v w'
theorem repMem_any (b B : Nat) (page op : Int) (m : Str) (v : Value) (ex : Str) (al : Bool) (ix : Int) (L : List Tr) (hL : L.length ≤ 100) (hex : ex.length ≤ 1000) (w : World)
    (X : IxAt w b page op m v ex al ix) (O : OwnT w B v L) (hB : B ≤ b) : Calls Tryz.prog 115 #[.pointer (some ⟨b, 0, none⟩)] w (RetMem w b B page op m v ex al ix L) := by
  obtain ⟨A, cap, rfl, hP, hcap⟩ := O.ops
  obtain ⟨n, hn⟩ : ∃ n, L.length = n := ⟨_, rfl⟩
  rw [hn] at X O hL hcap ⊢
  obtain ⟨x0, x1, x2, x3, x4, x5, x6, x7⟩ := X.cells
  have d3 : w.drew.cell? ⟨b, 3, none⟩ = some (.slice A n cap) := x3
  have IX := fun w' h => indexO_any A cap L (by unfold maxLen; omega) (4, 2, 0) w' h
  rw [hn] at IX
  have XX := Lib.hid X
  have OO := Lib.hid O
  have PP := Lib.hid hP
  have HN := Lib.hid hn
  have HE := Lib.hid hex
  have HBW : Hid (B ≤ w.heap.size) := by have := X.lt; show B ≤ _; omega
  clear X O hP hn hex x0 x1 x2 x3 x4 x5 x6 x7
  go_enter Tryz.func115, Tryz.ntmps115
  go_wp2
  obtain ⟨w1, hw1⟩ : ∃ w1, w.drew = w1 := ⟨_, rfl⟩
  rw [hw1] at d3
  have D3 := Lib.hid d3
  have X1 : Hid (IxAt w1 b page op m (.slice A n cap) ex al ix) := by rw [← hw1]; exact XX.out
  have O1 : Hid (OwnT w1 B (.slice A n cap) L) := by rw [← hw1]; exact OO.out.below (below_drewN w _ 1)
  have P1 : Hid (OpsP w1 A L) := by rw [← hw1]; exact PP.out.below (below_drewN w _ 1)
  have B1 : Hid (Below w.heap.size w w1) := by rw [← hw1]; exact below_drewN w _ 1
  refine Mixed.wp_region_mixed (fun w' => w'.cell? ⟨b, 3, none⟩ = some (.slice A n cap)) 7 [(0, true), (1, true), (2, true), (3, true), (4, true), (5, true), (6, false)] (by kernel_rfl) (by kernel_rfl) (by rw [hw1]; exact D3.out) ?_
  rw [hw1]
  clear XX OO PP hw1 D3 d3
  refine Mixed.wpMix_move rfl (by kernel_rfl) _ rfl _ rfl ?_
  refine Mixed.wpMix_pure rfl (by kernel_rfl) (.pointer (some ⟨b, 0, none⟩)) (fun w h => by go_simp; try rfl) ?_
  refine Mixed.wpMix_pure rfl (by kernel_rfl) (.pointer (some ⟨b, 0, none⟩)) (fun w h => by go_simp; try rfl) ?_
  refine Mixed.wpMix_pure rfl (by kernel_rfl) (.pointer (some ⟨b, 2, none⟩)) (fun w h => by go_simp; try rfl) ?_
  refine Mixed.wpMix_pure rfl (by kernel_rfl) (.pointer (some ⟨b, 3, none⟩)) (fun w h => by go_simp; try rfl) ?_
  refine Mixed.wpMix_pure rfl (by kernel_rfl) (.slice A n cap) (fun w h => by go_simp; try rfl) ?_
  refine Mixed.wpMix_loudG rfl (by kernel_rfl) ?_
  go_wp2_with fail
  refine (tpointer_any 2 w1).mono ?_
  rintro e w2 ⟨rfl, hb2⟩
  have X2 := Lib.hid (X1.out.all hb2)
  have O2 := Lib.hid (O1.out.below hb2)
  have P2 := Lib.hid (P1.out.below hb2)
  have B2 : Hid (Below w.heap.size w w2) := B1.out.trans (hb2.mono B1.out.size)
  have xx := (X2.out.cells).2.2.2.1
  clear X1 O1 P1 B1 hb2
  go_wp2
  refine ⟨xx, ?_⟩
  clear xx
  simp only [Mixed.wpMix, List.drop_succ_cons, List.drop_zero, trV]
  have IX2 := IX w2 P2.out
  clear IX
  go_wp2_with fail
  refine IX2.mono ?_
  rintro e w3 ⟨hres, hb3⟩
  have X3 := Lib.hid (X2.out.all hb3)
  have O3 := Lib.hid (O2.out.below hb3)
  have B3 : Hid (Below w.heap.size w w3) := B2.out.trans (hb3.mono B2.out.size)
  clear X2 O2 P2 B2 hb3 IX2
  have hbw : b < w3.heap.size := X3.out.lt
  rcases hres with ⟨hno, rfl⟩ | ⟨j, hj, hfirst, rfl⟩
  · have M : Hid (memB m L = false) := by show memB m L = _; unfold memB; rw [decide_eq_false hno]; rfl
    clear hno
    go_wp2
    go_ret
    refine ⟨ret_bool M.out.symm, ?_, ?_, B3.out.mono HBW.out, Fr.of_below B3.out⟩
    · rw [M.out]; exact X3.out
    · rw [M.out]; exact O3.out
  · obtain ⟨hjL, hje⟩ := hj
    have hmem : (4, 2, 0) ∈ L := by rw [← hje]; exact List.getElem_mem hjL
    have RS : Hid (repM ix L = L.set j (5, ix, 0)) := repM_set ix L j ⟨hjL, hje⟩ hfirst
    have hjn : j < n := by rw [← HN.out]; exact hjL
    obtain ⟨g, cap', hv, hBg, ⟨cur, hcur⟩, -, hfz⟩ := O3.out.form (by omega)
    rw [HN.out] at hv
    cases hv
    obtain ⟨x0, x1, x2, x3, x4, x5, x6, x7⟩ := X3.out.cells
    have hgb : g ≠ b := X3.out.apart hcur
    have HC := Lib.hid hcur
    by_cases hm : m = [74, 80]
    · have M : Hid (memB m L = false) := by show memB m L = _; unfold memB; rw [decide_eq_true hm]; simp
      have ht : ((sB m).toList == [74, 80]) = true := by rw [sB_eq]; exact decide_eq_true hm
      clear hm hmem hje hjL hfirst hcur
      go_wp2
      go_ret
      refine ⟨ret_bool M.out.symm, ?_, ?_, B3.out.mono HBW.out, Fr.of_below B3.out⟩
      · rw [M.out]; exact X3.out
      · rw [M.out]; exact O3.out
    · have M : Hid (memB m L = true) := by show memB m L = _; unfold memB; rw [decide_eq_true hmem, decide_eq_false hm]; rfl
      have ht : ((sB m).toList == [74, 80]) = false := by rw [sB_eq]; exact decide_eq_false hm
      have hsz : (⟨#[100]⟩ : ByteArray).size + (sB ex).size ≤ 2000 := by have := HE.out; rw [sB_size]; show 1 + _ ≤ _; omega
      clear hm hmem hje hjL hfirst hcur
      go_wp2
      go_still_tail 12, (by kernel_rfl)
      change wpList _ _ _ _ _ w3.drew
      obtain ⟨w4, hw4⟩ : ∃ w4, w3.drew = w4 := ⟨_, rfl⟩
      have X4 : Hid (IxAt w4 b page op m (.slice (some ⟨g, 0, none⟩) n cap) ex al ix) := by rw [← hw4]; exact X3.out
      have O4 : Hid (OwnT w4 B (.slice (some ⟨g, 0, none⟩) n cap) L) := by rw [← hw4]; exact O3.out.below (below_drewN w3 _ 1)
      have B4 : Hid (Below w.heap.size w w4) := by rw [← hw4]; exact B3.out.trans (below_drewN w3 _ 1)
      rw [hw4]
      clear X3 O3 B3 x0 x1 x2 x3 x4 x5 x6 x7 hfz HC hw4 hbw
      obtain ⟨x0, x1, x2, x3, x4, x5, x6, x7⟩ := X4.out.cells
      obtain ⟨g', cap'', hv, -, -, hcs, hfz⟩ := O4.out.form (by have := HN.out; omega)
      rw [HN.out] at hv
      cases hv
      obtain ⟨g0, g1, g2⟩ := hcs j (by rw [HN.out]; exact hjn)
      clear hcs
      have O5 : Hid (OwnT (((w4.setCell ⟨g, j * 3, none⟩ (.int .i64 5)).setCell ⟨g, j * 3 + 1, none⟩ (.int .i64 ix)).setCell ⟨g, j * 3 + 2, none⟩ (.int .i64 0)) B (.slice (some ⟨g, 0, none⟩) n cap) (L.set j (5, ix, 0))) := O4.out.put3 HN.out j hjn (5, ix, 0)
      have X5 : Hid (IxAt (((w4.setCell ⟨g, j * 3, none⟩ (.int .i64 5)).setCell ⟨g, j * 3 + 1, none⟩ (.int .i64 ix)).setCell ⟨g, j * 3 + 2, none⟩ (.int .i64 0)) b page op m (.slice (some ⟨g, 0, none⟩) n cap) ex al ix) := ((X4.out.other hgb.symm _ _).other hgb.symm _ _).other hgb.symm _ _
      have B5 : Hid (Below B w (((w4.setCell ⟨g, j * 3, none⟩ (.int .i64 5)).setCell ⟨g, j * 3 + 1, none⟩ (.int .i64 ix)).setCell ⟨g, j * 3 + 2, none⟩ (.int .i64 0))) :=
        (((B4.out.mono HBW.out).setCell (p := ⟨g, j * 3, none⟩) (by simp; omega) _).setCell (p := ⟨g, j * 3 + 1, none⟩) (by simp; omega) _).setCell (p := ⟨g, j * 3 + 2, none⟩) (by simp; omega) _
      go_wp2
      have EX : (⟨#[100]⟩ : ByteArray) ++ sB ex = sB (100 :: ex) := sB_append [100] ex
      rw [EX]
      go_ret
      refine ⟨ret_bool M.out.symm, ?_, ?_, B5.out.setCell (p := ⟨b, 4, none⟩) hB _, ((((Fr.of_below B4.out).set (p := ⟨g, j * 3, none⟩) (.inr rfl) _).set (p := ⟨g, j * 3 + 1, none⟩) (.inr rfl) _).set (p := ⟨g, j * 3 + 2, none⟩) (.inr rfl) _).set (p := ⟨b, 4, none⟩) (.inl rfl) _⟩
      · rw [M.out]; exact X5.out.set_extra (100 :: ex)
      · rw [M.out]
        show OwnT _ _ _ (repM ix L)
        rw [RS.out]
        exact row_set_ne O5.out (p := ⟨b, 4, none⟩) (fun g' e => by cases e; exact hgb) _
end Go.Proofs.YtmnleknehjkmgaaGreat
namespace Go.Proofs.YtmnleknehjkmgaaGreat
open Go.RowKit Go.Shelf
attribute [local irreducible] Go.Mixed.wpMix
def anyX (ix : Int) (L : List Tr) : Bool := L.any fun o => !decide (opX ix o = o)
def mpx (ix : Int) (L : List Tr) (j : Nat) : List Tr := (L.take j).map (opX ix) ++ L.drop j
theorem mpx_len (ix : Int) (L : List Tr) (j : Nat) : (mpx ix L j).length = L.length := by unfold mpx; simp; omega
theorem mpx_at (ix : Int) (L : List Tr) (j : Nat) (h : j < L.length) (h' : j < (mpx ix L j).length) : (mpx ix L j)[j] = L[j] := by
  have e : (mpx ix L j)[j]? = L[j]? := by
    unfold mpx
    rw [List.getElem?_append_right (by simp; omega)]
    simp [Nat.min_eq_left (Nat.le_of_lt h)]
  rw [List.getElem?_eq_getElem h', List.getElem?_eq_getElem h] at e
  exact Option.some.inj e
theorem mpx_succ (ix : Int) (L : List Tr) (j : Nat) (h : j < L.length) : mpx ix L (j + 1) = (mpx ix L j).set j (opX ix L[j]) := by
  have h1 : ((L.take j).map (opX ix)).length = j := by simp; omega
  unfold mpx
  rw [List.set_append_right _ _ (by omega), h1, Nat.sub_self, List.take_succ_eq_append_getElem h, List.map_append, List.append_assoc, List.drop_eq_getElem_cons h]
  rfl
theorem mpx_at2 (ix : Int) (L : List Tr) (j : Nat) (h : j < L.length) (h' : j < (mpx ix L (j + 1)).length) : (mpx ix L (j + 1))[j] = opX ix L[j] := by
  have e : (mpx ix L (j + 1))[j]? = some (opX ix L[j]) := by
    rw [mpx_succ ix L j h, List.getElem?_set_self (by rw [mpx_len]; exact h)]
  rw [List.getElem?_eq_getElem h'] at e
  exact Option.some.inj e
theorem anyX_succ (ix : Int) (L : List Tr) (j : Nat) (h : j < L.length) : anyX ix (L.take (j + 1)) = (anyX ix (L.take j) || !decide (opX ix L[j] = L[j])) := by
  unfold anyX
  rw [List.take_succ_eq_append_getElem h, List.any_append]
  simp
theorem mpx_all (ix : Int) (L : List Tr) : mpx ix L L.length = L.map (opX ix) := by unfold mpx; simp
def tregB (m : Str) (ix : Int) (L : List Tr) : Bool := !(decide (m = [69, 88]) && decide ((3, 1, 0) ∈ L)) && anyX ix L
def RetReg (w : World) (b B : Nat) (page op : Int) (m : Str) (v : Value) (ex : Str) (al : Bool) (ix : Int) (L : List Tr) (e : Ending) (w' : World) : Prop :=
  e = .returned (.bool (tregB m ix L)) ∧ IxAt w' b page op m v ex al ix ∧ (tregB m ix L = true → OwnT w' B v (L.map (opX ix))) ∧ Below B w w' ∧ Fr w b v w'
theorem repReg_any (b B : Nat) (page op : Int) (m : Str) (v : Value) (ex : Str) (al : Bool) (ix : Int) (hix : ix = 5 ∨ ix = 6) (L : List Tr) (hL : L.length ≤ 100) (w : World)
    (X : IxAt w b page op m v ex al ix) (O : OwnT w B v L) (hB : B ≤ b) : Calls Tryz.prog 116 #[.pointer (some ⟨b, 0, none⟩)] w (RetReg w b B page op m v ex al ix L) := by
  obtain ⟨A, cap, rfl, hP, hcap⟩ := O.ops
  obtain ⟨n, hn⟩ : ∃ n, L.length = n := ⟨_, rfl⟩
  rw [hn] at X O hL hcap ⊢
  have HBW : Hid (B ≤ w.heap.size) := by have := X.lt; show B ≤ _; omega
  have XX := Lib.hid X
  have OO := Lib.hid O
  have HN := Lib.hid hn
  have HI := Lib.hid hix
  obtain ⟨x0, x1, x2, x3, x4, x5, x6, x7⟩ := X.cells
  clear X O hix
  by_cases hm : m = [69, 88]
  · have ht : ((sB m).toList == [69, 88]) = true := by rw [sB_eq]; exact decide_eq_true hm
    have HM := Lib.hid hm
    have CO := fun w' h => containsO_any A cap L (by unfold maxLen; omega) (3, 1, 0) w' h
    rw [hn] at CO
    have PP := Lib.hid hP
    clear hm hP hn
    go_enter Tryz.func116, Tryz.ntmps116
    go_wp2
    obtain ⟨w1, hw1⟩ : ∃ w1, w.drew = w1 := ⟨_, rfl⟩
    have X1 : Hid (IxAt w1 b page op m (.slice A n cap) ex al ix) := by rw [← hw1]; exact XX.out
    have O1 : Hid (OwnT w1 B (.slice A n cap) L) := by rw [← hw1]; exact OO.out.below (below_drewN w _ 1)
    have P1 : Hid (OpsP w1 A L) := by rw [← hw1]; exact PP.out.below (below_drewN w _ 1)
    have B1 : Hid (Below w.heap.size w w1) := by rw [← hw1]; exact below_drewN w _ 1
    have C1 : Hid (w1.cell? ⟨b, 3, none⟩ = some (.slice A n cap) ∧ w1.cell? ⟨b, 2, none⟩ = some (.string (sB m))) := ⟨X1.out.cells.2.2.2.1, X1.out.cells.2.2.1⟩
    refine Mixed.wp_region_mixed (fun w' => w'.cell? ⟨b, 3, none⟩ = some (.slice A n cap) ∧ w'.cell? ⟨b, 2, none⟩ = some (.string (sB m))) 15 [(0, true), (1, true), (2, true), (3, true), (4, true), (5, true), (6, true), (7, true), (8, true), (9, true), (10, true), (11, true), (12, true), (13, true), (14, false)] (by kernel_rfl) (by kernel_rfl) (by rw [hw1]; exact C1.out) ?_
    rw [hw1]
    clear XX OO PP hw1 C1 x0 x1 x2 x3 x4 x5 x6 x7
    refine Mixed.wpMix_move rfl (by kernel_rfl) _ rfl _ rfl ?_
    refine Mixed.wpMix_pure rfl (by kernel_rfl) (.pointer (some ⟨b, 0, none⟩)) (fun w h => by go_simp; try rfl) ?_
    refine Mixed.wpMix_pure rfl (by kernel_rfl) (.pointer (some ⟨b, 0, none⟩)) (fun w h => by go_simp; try rfl) ?_
    refine Mixed.wpMix_pure rfl (by kernel_rfl) (.pointer (some ⟨b, 2, none⟩)) (fun w h => by go_simp; try rfl) ?_
    refine Mixed.wpMix_pure rfl (by kernel_rfl) (.pointer (some ⟨b, 2, none⟩)) (fun w h => by go_simp; try rfl) ?_
    refine Mixed.wpMix_pure rfl (by kernel_rfl) (.string (sB m)) (fun w h => by obtain ⟨-, h2⟩ := h; go_simp; try rfl) ?_
    refine Mixed.wpMix_pure rfl (by kernel_rfl) (.bool true) (fun w h => by go_simp; try rfl) ?_
    refine Mixed.wpMix_pure rfl (by kernel_rfl) (.bool true) (fun w h => by go_simp; try rfl) ?_
    refine Mixed.wpMix_pure rfl (by kernel_rfl) (.pointer (some ⟨b, 0, none⟩)) (fun w h => by go_simp; try rfl) ?_
    refine Mixed.wpMix_pure rfl (by kernel_rfl) (.pointer (some ⟨b, 0, none⟩)) (fun w h => by go_simp; try rfl) ?_
    refine Mixed.wpMix_pure rfl (by kernel_rfl) (.pointer (some ⟨b, 0, none⟩)) (fun w h => by go_simp; try rfl) ?_
    refine Mixed.wpMix_pure rfl (by kernel_rfl) (.pointer (some ⟨b, 2, none⟩)) (fun w h => by go_simp; try rfl) ?_
    refine Mixed.wpMix_pure rfl (by kernel_rfl) (.pointer (some ⟨b, 3, none⟩)) (fun w h => by go_simp; try rfl) ?_
    refine Mixed.wpMix_pure rfl (by kernel_rfl) (.slice A n cap) (fun w h => by obtain ⟨h1, -⟩ := h; go_simp; try rfl) ?_
    refine Mixed.wpMix_loudG rfl (by kernel_rfl) ?_
    go_wp2_with fail
    refine (pair_any 1 w1).mono ?_
    rintro e w2 ⟨rfl, hb2⟩
    have X2 := Lib.hid (X1.out.all hb2)
    have O2 := Lib.hid (O1.out.below hb2)
    have P2 := Lib.hid (P1.out.below hb2)
    have B2 : Hid (Below w.heap.size w w2) := B1.out.trans (hb2.mono B1.out.size)
    have xx : w2.cell? ⟨b, 3, none⟩ = some (.slice A n cap) ∧ w2.cell? ⟨b, 2, none⟩ = some (.string (sB m)) := ⟨X2.out.cells.2.2.2.1, X2.out.cells.2.2.1⟩
    clear X1 O1 P1 B1 hb2
    go_wp2
    refine ⟨xx, ?_⟩
    clear xx
    simp only [Mixed.wpMix, List.drop_succ_cons, List.drop_zero, trV]
    have CO2 := CO w2 P2.out
    clear CO
    obtain ⟨q, hq⟩ : ∃ q, decide (((3 : Int), (1 : Int), (0 : Int)) ∈ L) = q := ⟨_, rfl⟩
    have HQ := Lib.hid hq
    rw [hq] at CO2
    clear hq
    go_wp2_with fail
    refine CO2.mono ?_
    rintro e w3 ⟨rfl, hb3⟩
    have X1 := Lib.hid (X2.out.all hb3)
    have O1 : Hid (OwnT w3 B (.slice A n cap) (mpx ix L 0)) := O2.out.below hb3
    have F1 : Hid (Fr w b (.slice A n cap) w3) := Fr.of_below (B2.out.trans (hb3.mono B2.out.size))
    have B1 : Hid (Below B w w3) := (B2.out.trans (hb3.mono B2.out.size)).mono HBW.out
    clear X2 O2 P2 B2 hb3 CO2
    obtain ⟨x0, x1, x2, x3, x4, x5, x6, x7⟩ := X1.out.cells
    cases q
    · have RB : Hid (tregB m ix L = anyX ix L) := by show tregB m ix L = _; unfold tregB; rw [HQ.out]; simp
      go_wp2
      go_loopw [30, 3] (fun i c wr => ∃ j : Nat, j ≤ n ∧ i = .int .i64 j ∧ c = .bool (anyX ix (L.take j)) ∧ Hid (IxAt wr b page op m (.slice A n cap) ex al ix) ∧ Hid (OwnT wr B (.slice A n cap) (mpx ix L j)) ∧ Hid (Below B w wr) ∧ Hid (Fr w b (.slice A n cap) wr)) (fun i _ _ => n - (intOf i).toNat)
      case atStart => exact ⟨0, Nat.zero_le _, rfl, rfl, X1.out, O1.out, B1.out, F1.out⟩
      case round =>
        clear X1 O1 B1 F1
        obtain ⟨j, hj, rfl, rfl, XR, OR, BR, FR⟩ := hrel
        by_cases hlt : j < n
        · have hjL : j < L.length := by rw [HN.out]; exact hlt
          have hml : (mpx ix L j).length = n := by rw [mpx_len]; exact HN.out
          obtain ⟨g, cap', hv, hBg, ⟨cur, hcur⟩, hcs, hfz⟩ := OR.out.form (by omega)
          rw [hml] at hv
          cases hv
          have hgb : g ≠ b := XR.out.apart hcur
          clear hcur
          obtain ⟨g0, g1, g2⟩ := hcs j (by rw [hml]; exact hlt)
          rw [mpx_at ix L j hjL] at g0 g1 g2
          obtain ⟨⟨y0, y1, y2⟩, hy⟩ : ∃ y, L[j] = y := ⟨_, rfl⟩
          have HYJ := Lib.hid hy
          rw [hy] at g0 g1 g2
          simp only at g0 g1 g2
          obtain ⟨x0, x1, x2, x3, x4, x5, x6, x7⟩ := XR.out.cells
          have hgw : g < wr.heap.size := World.block_lt_of_cell? wr _ g0
          have hbw : b < wr.heap.size := XR.out.lt
          have ANY := anyX_succ ix L j hjL
          rw [hy] at ANY
          obtain ⟨ch, hch⟩ : ∃ c, anyX ix (L.take j) = c := ⟨_, rfl⟩
          rw [hch] at ANY ⊢
          have ANY := Lib.hid ANY
          clear hcs hy hml hch
          go_upto_region 7 with fail
          obtain ⟨q, hq⟩ : ∃ q, wr.heap.size = q := ⟨_, rfl⟩
          obtain ⟨w2, hw2⟩ : ∃ w2, (wr.alloc (.cells #[.int .i64 y0, .int .i64 y1, .int .i64 y2] 67)).drew = w2 := ⟨_, rfl⟩
          have hal : Below wr.heap.size wr w2 := by rw [← hw2]; exact ((Below.refl _ _).alloc (Nat.le_refl _) _).drew
          have X2 := Lib.hid (XR.out.all hal)
          have O2 := Lib.hid (OR.out.below hal)
          have B2 : Hid (Below B w w2) := BR.out.trans (hal.mono (by omega))
          have F2 : Hid (Fr w b (.slice (some ⟨g, 0, none⟩) n cap) w2) := FR.out.below hal
          have Q2 : w2.heap[q]? = some (.cells #[.int .i64 y0, .int .i64 y1, .int .i64 y2] 67 (0, 0)) := by rw [← hw2, ← hq]; exact World.alloc_heap_new wr _
          have hgq : g < q := by rw [← hq]; exact hgw
          have hbq : b < q := by rw [← hq]; exact hbw
          have QQ := Lib.hid Q2
          have C2 : Hid (w2.cell? ⟨b, 3, none⟩ = some (.slice (some ⟨g, 0, none⟩) n cap) ∧ w2.cell? ⟨q, 0, none⟩ = some (.int .i64 y0) ∧ w2.cell? ⟨q, 1, none⟩ = some (.int .i64 y1) ∧ w2.cell? ⟨q, 2, none⟩ = some (.int .i64 y2)) := ⟨X2.out.cells.2.2.2.1, Lib.cell_of_heap Q2 0, Lib.cell_of_heap Q2 1, Lib.cell_of_heap Q2 2⟩
          refine Mixed.wp_region_mixed (fun w' => w'.cell? ⟨b, 3, none⟩ = some (.slice (some ⟨g, 0, none⟩) n cap) ∧ w'.cell? ⟨q, 0, none⟩ = some (.int .i64 y0) ∧ w'.cell? ⟨q, 1, none⟩ = some (.int .i64 y1) ∧ w'.cell? ⟨q, 2, none⟩ = some (.int .i64 y2)) 10 [(0, true), (1, true), (2, true), (3, true), (4, true), (5, true), (6, true), (7, true), (8, true), (9, false)] (by kernel_rfl) (by kernel_rfl) (by rw [hw2]; exact C2.out) ?_
          rw [hw2]
          clear XR OR BR FR hal hw2 x0 x1 x2 x3 x4 x5 x6 x7 g0 g1 g2 hfz C2 Q2 hgw hbw
          refine Mixed.wpMix_move rfl (by kernel_rfl) _ rfl _ rfl ?_
          refine Mixed.wpMix_pure rfl (by kernel_rfl) (.pointer (some ⟨b, 0, none⟩)) (fun w h => by go_simp; try rfl) ?_
          refine Mixed.wpMix_pure rfl (by kernel_rfl) (.pointer (some ⟨b, 0, none⟩)) (fun w h => by go_simp; try rfl) ?_
          refine Mixed.wpMix_pure rfl (by kernel_rfl) (.pointer (some ⟨b, 2, none⟩)) (fun w h => by go_simp; try rfl) ?_
          refine Mixed.wpMix_pure rfl (by kernel_rfl) (.pointer (some ⟨b, 3, none⟩)) (fun w h => by go_simp; try rfl) ?_
          refine Mixed.wpMix_pure rfl (by kernel_rfl) (.slice (some ⟨g, 0, none⟩) n cap) (fun w h => by obtain ⟨h1, -⟩ := h; go_simp; try rfl) ?_
          refine Mixed.wpMix_pure rfl (by kernel_rfl) (.int .i64 j) (fun w h => by go_simp; try rfl) ?_
          refine Mixed.wpMix_pure rfl (by kernel_rfl) (.pointer (some ⟨b, 0, none⟩)) (fun w h => by go_simp; try rfl) ?_
          refine Mixed.wpMix_pure rfl (by kernel_rfl) (.agg #[.int .i64 y0, .int .i64 y1, .int .i64 y2]) (fun w h => by obtain ⟨-, h1, h2, h3⟩ := h; subst hq; go_simp; try rfl) ?_
          refine Mixed.wpMix_loudG rfl (by kernel_rfl) ?_
          have hcall := opx_any b ix HI.out (y0, y1, y2) w2 X2.out.cells.2.2.2.2.2.2.1
          obtain ⟨⟨z0, z1, z2⟩, hz⟩ : ∃ z, opX ix (y0, y1, y2) = z := ⟨_, rfl⟩
          have HZ := Lib.hid hz
          rw [hz] at hcall
          simp only [trV] at hcall
          clear hz
          go_wp2_with fail
          refine hcall.mono ?_
          rintro e w4 ⟨rfl, hb4⟩
          have X4 := Lib.hid (X2.out.all hb4)
          have O4 := Lib.hid (O2.out.below hb4)
          have B4 : Hid (Below B w w4) := B2.out.trans (hb4.mono (by have := X2.out.lt; omega))
          have F4 : Hid (Fr w b (.slice (some ⟨g, 0, none⟩) n cap) w4) := F2.out.below hb4
          have Q4 := Lib.hid ((hb4.block q (Array.getElem?_eq_some_iff.1 QQ.out).1).trans QQ.out)
          have xx : w4.cell? ⟨b, 3, none⟩ = some (.slice (some ⟨g, 0, none⟩) n cap) ∧ w4.cell? ⟨q, 0, none⟩ = some (.int .i64 y0) ∧ w4.cell? ⟨q, 1, none⟩ = some (.int .i64 y1) ∧ w4.cell? ⟨q, 2, none⟩ = some (.int .i64 y2) := ⟨X4.out.cells.2.2.2.1, Lib.cell_of_heap Q4.out 0, Lib.cell_of_heap Q4.out 1, Lib.cell_of_heap Q4.out 2⟩
          clear hb4 hcall X2 O2 B2 F2 QQ
          go_wp2
          refine ⟨xx, ?_⟩
          clear xx
          simp only [Mixed.wpMix, List.drop_succ_cons, List.drop_zero]
          have hml : (mpx ix L j).length = n := by rw [mpx_len]; exact HN.out
          obtain ⟨g', cap'', hv, -, -, hcs, hfz⟩ := O4.out.form (by omega)
          rw [hml] at hv
          cases hv
          obtain ⟨g0, g1, g2⟩ := hcs j (by rw [hml]; exact hlt)
          rw [mpx_at ix L j hjL] at g0 g1 g2
          have O5 : Hid (OwnT (((w4.setCell ⟨g, j * 3, none⟩ (.int .i64 z0)).setCell ⟨g, j * 3 + 1, none⟩ (.int .i64 z1)).setCell ⟨g, j * 3 + 2, none⟩ (.int .i64 z2)) B (.slice (some ⟨g, 0, none⟩) n cap) (mpx ix L (j + 1))) := by
            have h := O4.out.put3 hml j hlt (z0, z1, z2)
            rw [mpx_succ ix L j hjL, HYJ.out, HZ.out]
            exact h
          have X5 : Hid (IxAt (((w4.setCell ⟨g, j * 3, none⟩ (.int .i64 z0)).setCell ⟨g, j * 3 + 1, none⟩ (.int .i64 z1)).setCell ⟨g, j * 3 + 2, none⟩ (.int .i64 z2)) b page op m (.slice (some ⟨g, 0, none⟩) n cap) ex al ix) := ((X4.out.other hgb.symm _ _).other hgb.symm _ _).other hgb.symm _ _
          have B5 : Hid (Below B w (((w4.setCell ⟨g, j * 3, none⟩ (.int .i64 z0)).setCell ⟨g, j * 3 + 1, none⟩ (.int .i64 z1)).setCell ⟨g, j * 3 + 2, none⟩ (.int .i64 z2))) :=
            ((B4.out.setCell (p := ⟨g, j * 3, none⟩) (by simp; omega) _).setCell (p := ⟨g, j * 3 + 1, none⟩) (by simp; omega) _).setCell (p := ⟨g, j * 3 + 2, none⟩) (by simp; omega) _
          have F5 : Hid (Fr w b (.slice (some ⟨g, 0, none⟩) n cap) (((w4.setCell ⟨g, j * 3, none⟩ (.int .i64 z0)).setCell ⟨g, j * 3 + 1, none⟩ (.int .i64 z1)).setCell ⟨g, j * 3 + 2, none⟩ (.int .i64 z2))) := ((F4.out.set (p := ⟨g, j * 3, none⟩) (.inr rfl) _).set (p := ⟨g, j * 3 + 1, none⟩) (.inr rfl) _).set (p := ⟨g, j * 3 + 2, none⟩) (.inr rfl) _
          have Q5 : Hid ((((w4.setCell ⟨g, j * 3, none⟩ (.int .i64 z0)).setCell ⟨g, j * 3 + 1, none⟩ (.int .i64 z1)).setCell ⟨g, j * 3 + 2, none⟩ (.int .i64 z2)).heap[q]? = some (.cells #[.int .i64 y0, .int .i64 y1, .int .i64 y2] 67 (0, 0))) :=
            (heap_setCell_other _ ⟨g, j * 3 + 2, none⟩ q _ (by simp; omega)).trans ((heap_setCell_other _ ⟨g, j * 3 + 1, none⟩ q _ (by simp; omega)).trans ((heap_setCell_other _ ⟨g, j * 3, none⟩ q _ (by simp; omega)).trans Q4.out))
          clear hcs hml
          simp only [trV]
          go_upto_region 8 with fail
          obtain ⟨w5, hw5⟩ : ∃ w5, ((w4.setCell ⟨g, j * 3, none⟩ (.int .i64 z0)).setCell ⟨g, j * 3 + 1, none⟩ (.int .i64 z1)).setCell ⟨g, j * 3 + 2, none⟩ (.int .i64 z2) = w5 := ⟨_, rfl⟩
          rw [hw5] at O5 X5 B5 Q5 F5 ⊢
          clear hw5 g0 g1 g2 hfz O4 X4 B4 Q4 F4
          have hml : (mpx ix L (j + 1)).length = n := by rw [mpx_len]; exact HN.out
          obtain ⟨g', cap'', hv, -, -, hcs, -⟩ := O5.out.form (by omega)
          rw [hml] at hv
          cases hv
          obtain ⟨g0, g1, g2⟩ := hcs j (by rw [hml]; exact hlt)
          rw [mpx_at2 ix L j hjL, HYJ.out, HZ.out] at g0 g1 g2
          simp only at g0 g1 g2
          obtain ⟨x0, x1, x2, x3, x4, x5, x6, x7⟩ := X5.out.cells
          have o0 := Lib.cell_of_heap Q5.out 0
          have o1 := Lib.cell_of_heap Q5.out 1
          have o2 := Lib.cell_of_heap Q5.out 2
          have hneq : ∀ w, (binOp .neq 67 (.agg #[.int .i64 z0, .int .i64 z1, .int .i64 z2]) (.agg #[.int .i64 y0, .int .i64 y1, .int .i64 y2])).run Tryz.prog w = .ok (.bool (!decide ((z0, z1, z2) = (y0, y1, y2)))) w := fun w => opd_neq (z0, z1, z2) (y0, y1, y2) w
          rw [HZ.out] at ANY
          obtain ⟨d, hd⟩ : ∃ d, (!decide ((z0, z1, z2) = (y0, y1, y2))) = d := ⟨_, rfl⟩
          rw [hd] at hneq ANY
          clear hcs hml hd
          have hlt2 := hlt
          cases ch
          · have AN : Hid (anyX ix (L.take (j + 1)) = d) := ANY.out
            go_wp2
            go_quiet (fail)
            go_wp2
            go_roundw
            case rel => exact ⟨j + 1, by omega, by go_num, by rw [AN.out], X5.out.all (below_drewN _ _ _), O5.out.below (below_drewN _ _ _), B5.out.trans (below_drewN _ _ _), F5.out.below (below_drewN _ _ _)⟩
            case measure => simp [intOf]; omega
          · have AN : Hid (anyX ix (L.take (j + 1)) = true) := ANY.out
            go_wp2
            go_quiet (fail)
            go_wp2
            go_roundw
            case rel => exact ⟨j + 1, by omega, by go_num, by rw [AN.out], X5.out.all (below_drewN _ _ _), O5.out.below (below_drewN _ _ _), B5.out.trans (below_drewN _ _ _), F5.out.below (below_drewN _ _ _)⟩
            case measure => simp [intOf]; omega
        · obtain rfl : j = n := by omega
          have ALL : Hid (anyX ix (L.take j) = tregB m ix L) := by
            show anyX ix (L.take j) = tregB m ix L
            rw [RB.out, ← HN.out, List.take_length]
          have OA : Hid (OwnT wr B (.slice A j cap) (L.map (opX ix))) := by
            have h := OR.out
            rw [← HN.out, mpx_all] at h
            rw [← HN.out]
            exact h
          go_wp2
          go_ret
          exact ⟨ret_bool ALL.out, XR.out, fun _ => OA.out, BR.out, FR.out⟩
    · have RB : Hid (tregB m ix L = false) := by show tregB m ix L = _; unfold tregB; rw [HQ.out, HM.out]; rfl
      go_wp2
      go_ret
      exact ⟨ret_bool RB.out.symm, X1.out, fun h => absurd h (by rw [RB.out]; decide), B1.out, F1.out⟩
  · have ht : ((sB m).toList == [69, 88]) = false := by rw [sB_eq]; exact decide_eq_false hm
    have RB : Hid (tregB m ix L = anyX ix L) := by show tregB m ix L = _; unfold tregB; rw [decide_eq_false hm]; rfl
    clear hm hP hn
    go_enter Tryz.func116, Tryz.ntmps116
    go_wp2
    go_quiet (fail)
    obtain ⟨w1, hw1⟩ : ∃ w1, w.drewN nq = w1 := ⟨_, rfl⟩
    have X1 : Hid (IxAt w1 b page op m (.slice A n cap) ex al ix) := by rw [← hw1]; exact XX.out
    have O1 : Hid (OwnT w1 B (.slice A n cap) (mpx ix L 0)) := by rw [← hw1]; exact OO.out.below (below_drewN w _ nq)
    have B1 : Hid (Below B w w1) := by rw [← hw1]; exact below_drewN w _ nq
    have F1 : Hid (Fr w b (.slice A n cap) w1) := Fr.of_below (by rw [← hw1]; exact below_drewN w _ nq)
    rw [hw1]
    clear XX OO hw1 x0 x1 x2 x3 x4 x5 x6 x7
    obtain ⟨x0, x1, x2, x3, x4, x5, x6, x7⟩ := X1.out.cells
    go_wp2
    go_loopw [30, 3] (fun i c wr => ∃ j : Nat, j ≤ n ∧ i = .int .i64 j ∧ c = .bool (anyX ix (L.take j)) ∧ Hid (IxAt wr b page op m (.slice A n cap) ex al ix) ∧ Hid (OwnT wr B (.slice A n cap) (mpx ix L j)) ∧ Hid (Below B w wr) ∧ Hid (Fr w b (.slice A n cap) wr)) (fun i _ _ => n - (intOf i).toNat)
    case atStart => exact ⟨0, Nat.zero_le _, rfl, rfl, X1.out, O1.out, B1.out, F1.out⟩
    case round =>
      clear X1 O1 B1 F1
      obtain ⟨j, hj, rfl, rfl, XR, OR, BR, FR⟩ := hrel
      by_cases hlt : j < n
      · have hjL : j < L.length := by rw [HN.out]; exact hlt
        have hml : (mpx ix L j).length = n := by rw [mpx_len]; exact HN.out
        obtain ⟨g, cap', hv, hBg, ⟨cur, hcur⟩, hcs, hfz⟩ := OR.out.form (by omega)
        rw [hml] at hv
        cases hv
        have hgb : g ≠ b := XR.out.apart hcur
        clear hcur
        obtain ⟨g0, g1, g2⟩ := hcs j (by rw [hml]; exact hlt)
        rw [mpx_at ix L j hjL] at g0 g1 g2
        obtain ⟨⟨y0, y1, y2⟩, hy⟩ : ∃ y, L[j] = y := ⟨_, rfl⟩
        have HYJ := Lib.hid hy
        rw [hy] at g0 g1 g2
        simp only at g0 g1 g2
        obtain ⟨x0, x1, x2, x3, x4, x5, x6, x7⟩ := XR.out.cells
        have hgw : g < wr.heap.size := World.block_lt_of_cell? wr _ g0
        have hbw : b < wr.heap.size := XR.out.lt
        have ANY := anyX_succ ix L j hjL
        rw [hy] at ANY
        obtain ⟨ch, hch⟩ : ∃ c, anyX ix (L.take j) = c := ⟨_, rfl⟩
        rw [hch] at ANY ⊢
        have ANY := Lib.hid ANY
        clear hcs hy hml hch
        go_upto_region 7 with fail
        obtain ⟨q, hq⟩ : ∃ q, wr.heap.size = q := ⟨_, rfl⟩
        obtain ⟨w2, hw2⟩ : ∃ w2, (wr.alloc (.cells #[.int .i64 y0, .int .i64 y1, .int .i64 y2] 67)).drew = w2 := ⟨_, rfl⟩
        have hal : Below wr.heap.size wr w2 := by rw [← hw2]; exact ((Below.refl _ _).alloc (Nat.le_refl _) _).drew
        have X2 := Lib.hid (XR.out.all hal)
        have O2 := Lib.hid (OR.out.below hal)
        have B2 : Hid (Below B w w2) := BR.out.trans (hal.mono (by omega))
        have F2 : Hid (Fr w b (.slice (some ⟨g, 0, none⟩) n cap) w2) := FR.out.below hal
        have Q2 : w2.heap[q]? = some (.cells #[.int .i64 y0, .int .i64 y1, .int .i64 y2] 67 (0, 0)) := by rw [← hw2, ← hq]; exact World.alloc_heap_new wr _
        have hgq : g < q := by rw [← hq]; exact hgw
        have hbq : b < q := by rw [← hq]; exact hbw
        have QQ := Lib.hid Q2
        have C2 : Hid (w2.cell? ⟨b, 3, none⟩ = some (.slice (some ⟨g, 0, none⟩) n cap) ∧ w2.cell? ⟨q, 0, none⟩ = some (.int .i64 y0) ∧ w2.cell? ⟨q, 1, none⟩ = some (.int .i64 y1) ∧ w2.cell? ⟨q, 2, none⟩ = some (.int .i64 y2)) := ⟨X2.out.cells.2.2.2.1, Lib.cell_of_heap Q2 0, Lib.cell_of_heap Q2 1, Lib.cell_of_heap Q2 2⟩
        refine Mixed.wp_region_mixed (fun w' => w'.cell? ⟨b, 3, none⟩ = some (.slice (some ⟨g, 0, none⟩) n cap) ∧ w'.cell? ⟨q, 0, none⟩ = some (.int .i64 y0) ∧ w'.cell? ⟨q, 1, none⟩ = some (.int .i64 y1) ∧ w'.cell? ⟨q, 2, none⟩ = some (.int .i64 y2)) 10 [(0, true), (1, true), (2, true), (3, true), (4, true), (5, true), (6, true), (7, true), (8, true), (9, false)] (by kernel_rfl) (by kernel_rfl) (by rw [hw2]; exact C2.out) ?_
        rw [hw2]
        clear XR OR BR FR hal hw2 x0 x1 x2 x3 x4 x5 x6 x7 g0 g1 g2 hfz C2 Q2 hgw hbw
        refine Mixed.wpMix_move rfl (by kernel_rfl) _ rfl _ rfl ?_
        refine Mixed.wpMix_pure rfl (by kernel_rfl) (.pointer (some ⟨b, 0, none⟩)) (fun w h => by go_simp; try rfl) ?_
        refine Mixed.wpMix_pure rfl (by kernel_rfl) (.pointer (some ⟨b, 0, none⟩)) (fun w h => by go_simp; try rfl) ?_
        refine Mixed.wpMix_pure rfl (by kernel_rfl) (.pointer (some ⟨b, 2, none⟩)) (fun w h => by go_simp; try rfl) ?_
        refine Mixed.wpMix_pure rfl (by kernel_rfl) (.pointer (some ⟨b, 3, none⟩)) (fun w h => by go_simp; try rfl) ?_
        refine Mixed.wpMix_pure rfl (by kernel_rfl) (.slice (some ⟨g, 0, none⟩) n cap) (fun w h => by obtain ⟨h1, -⟩ := h; go_simp; try rfl) ?_
        refine Mixed.wpMix_pure rfl (by kernel_rfl) (.int .i64 j) (fun w h => by go_simp; try rfl) ?_
        refine Mixed.wpMix_pure rfl (by kernel_rfl) (.pointer (some ⟨b, 0, none⟩)) (fun w h => by go_simp; try rfl) ?_
        refine Mixed.wpMix_pure rfl (by kernel_rfl) (.agg #[.int .i64 y0, .int .i64 y1, .int .i64 y2]) (fun w h => by obtain ⟨-, h1, h2, h3⟩ := h; subst hq; go_simp; try rfl) ?_
        refine Mixed.wpMix_loudG rfl (by kernel_rfl) ?_
        have hcall := opx_any b ix HI.out (y0, y1, y2) w2 X2.out.cells.2.2.2.2.2.2.1
        obtain ⟨⟨z0, z1, z2⟩, hz⟩ : ∃ z, opX ix (y0, y1, y2) = z := ⟨_, rfl⟩
        have HZ := Lib.hid hz
        rw [hz] at hcall
        simp only [trV] at hcall
        clear hz
        go_wp2_with fail
        refine hcall.mono ?_
        rintro e w4 ⟨rfl, hb4⟩
        have X4 := Lib.hid (X2.out.all hb4)
        have O4 := Lib.hid (O2.out.below hb4)
        have B4 : Hid (Below B w w4) := B2.out.trans (hb4.mono (by have := X2.out.lt; omega))
        have F4 : Hid (Fr w b (.slice (some ⟨g, 0, none⟩) n cap) w4) := F2.out.below hb4
        have Q4 := Lib.hid ((hb4.block q (Array.getElem?_eq_some_iff.1 QQ.out).1).trans QQ.out)
        have xx : w4.cell? ⟨b, 3, none⟩ = some (.slice (some ⟨g, 0, none⟩) n cap) ∧ w4.cell? ⟨q, 0, none⟩ = some (.int .i64 y0) ∧ w4.cell? ⟨q, 1, none⟩ = some (.int .i64 y1) ∧ w4.cell? ⟨q, 2, none⟩ = some (.int .i64 y2) := ⟨X4.out.cells.2.2.2.1, Lib.cell_of_heap Q4.out 0, Lib.cell_of_heap Q4.out 1, Lib.cell_of_heap Q4.out 2⟩
        clear hb4 hcall X2 O2 B2 F2 QQ
        go_wp2
        refine ⟨xx, ?_⟩
        clear xx
        simp only [Mixed.wpMix, List.drop_succ_cons, List.drop_zero]
        have hml : (mpx ix L j).length = n := by rw [mpx_len]; exact HN.out
        obtain ⟨g', cap'', hv, -, -, hcs, hfz⟩ := O4.out.form (by omega)
        rw [hml] at hv
        cases hv
        obtain ⟨g0, g1, g2⟩ := hcs j (by rw [hml]; exact hlt)
        rw [mpx_at ix L j hjL] at g0 g1 g2
        have O5 : Hid (OwnT (((w4.setCell ⟨g, j * 3, none⟩ (.int .i64 z0)).setCell ⟨g, j * 3 + 1, none⟩ (.int .i64 z1)).setCell ⟨g, j * 3 + 2, none⟩ (.int .i64 z2)) B (.slice (some ⟨g, 0, none⟩) n cap) (mpx ix L (j + 1))) := by
          have h := O4.out.put3 hml j hlt (z0, z1, z2)
          rw [mpx_succ ix L j hjL, HYJ.out, HZ.out]
          exact h
        have X5 : Hid (IxAt (((w4.setCell ⟨g, j * 3, none⟩ (.int .i64 z0)).setCell ⟨g, j * 3 + 1, none⟩ (.int .i64 z1)).setCell ⟨g, j * 3 + 2, none⟩ (.int .i64 z2)) b page op m (.slice (some ⟨g, 0, none⟩) n cap) ex al ix) := ((X4.out.other hgb.symm _ _).other hgb.symm _ _).other hgb.symm _ _
        have B5 : Hid (Below B w (((w4.setCell ⟨g, j * 3, none⟩ (.int .i64 z0)).setCell ⟨g, j * 3 + 1, none⟩ (.int .i64 z1)).setCell ⟨g, j * 3 + 2, none⟩ (.int .i64 z2))) :=
          ((B4.out.setCell (p := ⟨g, j * 3, none⟩) (by simp; omega) _).setCell (p := ⟨g, j * 3 + 1, none⟩) (by simp; omega) _).setCell (p := ⟨g, j * 3 + 2, none⟩) (by simp; omega) _
        have F5 : Hid (Fr w b (.slice (some ⟨g, 0, none⟩) n cap) (((w4.setCell ⟨g, j * 3, none⟩ (.int .i64 z0)).setCell ⟨g, j * 3 + 1, none⟩ (.int .i64 z1)).setCell ⟨g, j * 3 + 2, none⟩ (.int .i64 z2))) := ((F4.out.set (p := ⟨g, j * 3, none⟩) (.inr rfl) _).set (p := ⟨g, j * 3 + 1, none⟩) (.inr rfl) _).set (p := ⟨g, j * 3 + 2, none⟩) (.inr rfl) _
        have Q5 : Hid ((((w4.setCell ⟨g, j * 3, none⟩ (.int .i64 z0)).setCell ⟨g, j * 3 + 1, none⟩ (.int .i64 z1)).setCell ⟨g, j * 3 + 2, none⟩ (.int .i64 z2)).heap[q]? = some (.cells #[.int .i64 y0, .int .i64 y1, .int .i64 y2] 67 (0, 0))) :=
          (heap_setCell_other _ ⟨g, j * 3 + 2, none⟩ q _ (by simp; omega)).trans ((heap_setCell_other _ ⟨g, j * 3 + 1, none⟩ q _ (by simp; omega)).trans ((heap_setCell_other _ ⟨g, j * 3, none⟩ q _ (by simp; omega)).trans Q4.out))
        clear hcs hml
        simp only [trV]
        go_upto_region 8 with fail
        obtain ⟨w5, hw5⟩ : ∃ w5, ((w4.setCell ⟨g, j * 3, none⟩ (.int .i64 z0)).setCell ⟨g, j * 3 + 1, none⟩ (.int .i64 z1)).setCell ⟨g, j * 3 + 2, none⟩ (.int .i64 z2) = w5 := ⟨_, rfl⟩
        rw [hw5] at O5 X5 B5 Q5 F5 ⊢
        clear hw5 g0 g1 g2 hfz O4 X4 B4 Q4 F4
        have hml : (mpx ix L (j + 1)).length = n := by rw [mpx_len]; exact HN.out
        obtain ⟨g', cap'', hv, -, -, hcs, -⟩ := O5.out.form (by omega)
        rw [hml] at hv
        cases hv
        obtain ⟨g0, g1, g2⟩ := hcs j (by rw [hml]; exact hlt)
        rw [mpx_at2 ix L j hjL, HYJ.out, HZ.out] at g0 g1 g2
        simp only at g0 g1 g2
        obtain ⟨x0, x1, x2, x3, x4, x5, x6, x7⟩ := X5.out.cells
        have o0 := Lib.cell_of_heap Q5.out 0
        have o1 := Lib.cell_of_heap Q5.out 1
        have o2 := Lib.cell_of_heap Q5.out 2
        have hneq : ∀ w, (binOp .neq 67 (.agg #[.int .i64 z0, .int .i64 z1, .int .i64 z2]) (.agg #[.int .i64 y0, .int .i64 y1, .int .i64 y2])).run Tryz.prog w = .ok (.bool (!decide ((z0, z1, z2) = (y0, y1, y2)))) w := fun w => opd_neq (z0, z1, z2) (y0, y1, y2) w
        rw [HZ.out] at ANY
        obtain ⟨d, hd⟩ : ∃ d, (!decide ((z0, z1, z2) = (y0, y1, y2))) = d := ⟨_, rfl⟩
        rw [hd] at hneq ANY
        clear hcs hml hd
        have hlt2 := hlt
        cases ch
        · have AN : Hid (anyX ix (L.take (j + 1)) = d) := ANY.out
          go_wp2
          go_quiet (fail)
          go_wp2
          go_roundw
          case rel => exact ⟨j + 1, by omega, by go_num, by rw [AN.out], X5.out.all (below_drewN _ _ _), O5.out.below (below_drewN _ _ _), B5.out.trans (below_drewN _ _ _), F5.out.below (below_drewN _ _ _)⟩
          case measure => simp [intOf]; omega
        · have AN : Hid (anyX ix (L.take (j + 1)) = true) := ANY.out
          go_wp2
          go_quiet (fail)
          go_wp2
          go_roundw
          case rel => exact ⟨j + 1, by omega, by go_num, by rw [AN.out], X5.out.all (below_drewN _ _ _), O5.out.below (below_drewN _ _ _), B5.out.trans (below_drewN _ _ _), F5.out.below (below_drewN _ _ _)⟩
          case measure => simp [intOf]; omega
      · obtain rfl : j = n := by omega
        have ALL : Hid (anyX ix (L.take j) = tregB m ix L) := by
          show anyX ix (L.take j) = tregB m ix L
          rw [RB.out, ← HN.out, List.take_length]
        have OA : Hid (OwnT wr B (.slice A j cap) (L.map (opX ix))) := by
          have h := OR.out
          rw [← HN.out, mpx_all] at h
          rw [← HN.out]
          exact h
        go_wp2
        go_ret
        exact ⟨ret_bool ALL.out, XR.out, fun _ => OA.out, BR.out, FR.out⟩
end Go.Proofs.YtmnleknehjkmgaaGreat
namespace Go.Proofs.YtmnleknehjkmgaaGreat
open Go.RowKit Go.Shelf
attribute [local irreducible] Go.Mixed.wpMix
def withP (m : Str) (ix : Int) (L : List Tr) (ex : Str) : Option (List Tr × Str) :=
  if memB m L then some (repM ix L, 100 :: ex) else if tregB m ix L then some (L.map (opX ix), ex) else none
theorem with_start (w : World) (page op ix : Int) (m ex : Str) (v : Value) (al : Bool) : ∃ w1, ((w.alloc (.cells #[.int .i64 page, .int .u8 op, .string (sB m), v, .string (sB ex), .bool al] 122)).alloc (.cells #[.int .i64 0, .int .u8 0, .string ⟨#[]⟩, .slice none 0 0, .string ⟨#[]⟩, .bool false] 122)).alloc (.cells #[.int .i64 page, .int .u8 op, .string (sB m), v, .string (sB ex), .bool al, .int .i64 ix] 164) = w1 ∧
    EnAt w1 (w.heap.size + 1) 0 0 [] (.slice none 0 0) [] false ∧ IxAt w1 (w.heap.size + 1 + 1) page op m v ex al ix ∧ Below w.heap.size w w1 := by
  refine ⟨_, rfl, (Below.heap_alloc _ _ _ (by simp)).trans ?_, ?_, (((Below.refl _ w).alloc (Nat.le_refl _) _).alloc (by simp) _).alloc (by simp; omega) _⟩
  · have h := World.alloc_heap_new (w.alloc (.cells #[.int .i64 page, .int .u8 op, .string (sB m), v, .string (sB ex), .bool al] 122)) (.cells #[.int .i64 0, .int .u8 0, .string ⟨#[]⟩, .slice none 0 0, .string ⟨#[]⟩, .bool false] 122)
    rw [World.size_alloc] at h
    exact h
  · have h := World.alloc_heap_new ((w.alloc (.cells #[.int .i64 page, .int .u8 op, .string (sB m), v, .string (sB ex), .bool al] 122)).alloc (.cells #[.int .i64 0, .int .u8 0, .string ⟨#[]⟩, .slice none 0 0, .string ⟨#[]⟩, .bool false] 122)) (.cells #[.int .i64 page, .int .u8 op, .string (sB m), v, .string (sB ex), .bool al, .int .i64 ix] 164)
    rw [World.size_alloc, World.size_alloc] at h
    exact h
theorem own_types {w : World} {B : Nat} {v : Value} {L : List Tr} (h : OwnT w B v L) {g : Nat} (hg : v.ownBlock = some g) : ∃ cur, w.heap[g]? = some (.cells cur 67 (0, 0)) := by
  rcases h.2 with ⟨rfl, _⟩ | ⟨g', cap, cur, rfl, _, h2, _⟩
  · cases hg
  · cases hg
    exact ⟨cur, h2⟩
def RetWith (w : World) (B : Nat) (page op : Int) (m : Str) (v : Value) (al : Bool) (x : Option (List Tr × Str)) (e : Ending) (w' : World) : Prop :=
  (match x with
    | some y => e = .returned (.tuple #[enV page op m v y.2 al, .bool true]) ∧ OwnT w' B v y.1
    | none => e = .returned (.tuple #[enV 0 0 [] (.slice none 0 0) [] false, .bool false])) ∧ Below B w w'
theorem put_own {w w' : World} {b B : Nat} {page op : Int} {m ex : Str} {v u : Value} {al : Bool} {L : List Tr} (h : EnAt w b page op m v ex al) (O : OwnT w B u L) (k : ∀ k, k ≠ b → w'.heap[k]? = w.heap[k]?) : OwnT w' B u L := by
  have hs : ∀ g cur, w.heap[g]? = some (.cells cur 67 (0, 0)) → g ≠ b := fun g cur hg e => by
    subst e
    rw [show w.heap[g]? = _ from h] at hg
    simp at hg
  refine ⟨O.1, ?_⟩
  rcases O.2 with h2 | ⟨g, cap, cur, h3, h4, h5, h6⟩
  · exact .inl h2
  · exact .inr ⟨g, cap, cur, h3, h4, (k g (hs g cur h5)).trans h5, h6⟩
theorem bool3 (a b : Bool) : a = true ∨ (a = false ∧ b = true) ∨ (a = false ∧ b = false) := by cases a <;> cases b <;> simp
theorem with_any (B : Nat) (page op : Int) (m : Str) (v : Value) (ex : Str) (al : Bool) (ix : Int) (hix : ix = 5 ∨ ix = 6) (L : List Tr) (hL : L.length ≤ 100) (hex : ex.length ≤ 1000) (w : World)
    (O : OwnT w B v L) (hB : B ≤ w.heap.size) : Calls Tryz.prog 103 #[enV page op m v ex al, .int .i64 ix] w (RetWith w B page op m v al (withP m ix L ex)) := by
  unfold enV
  obtain ⟨A, cap, rfl, -, -⟩ := O.ops
  obtain ⟨n, hn⟩ : ∃ n, w.heap.size = n := ⟨_, rfl⟩
  obtain ⟨w1, hw1, R1, X1, B1⟩ := with_start w page op ix m ex (.slice A L.length cap) al
  have O1 := Lib.hid (O.below B1)
  rw [hn] at R1 X1 B1 hB
  have hm1 := repMem_any (n + 1 + 1) B page op m _ ex al ix L hL hex w1 X1 O1.out (by omega)
  have R1 := Lib.hid R1
  have X1 := Lib.hid X1
  have B1 : Hid (Below B w w1) := B1.mono hB
  have RG := fun w2 (h1 : IxAt w2 (n + 1 + 1) page op m (.slice A L.length cap) ex al ix) h2 => repReg_any (n + 1 + 1) B page op m _ ex al ix hix L hL w2 h1 h2 (by omega)
  have RG := Lib.hid RG
  clear O hL hex
  have HN1 : Hid (n + 1 < w1.heap.size) := by have := X1.out.lt; show _ < _; omega
  go_enter Tryz.func103, Tryz.ntmps103
  go_wp2_with fail
  refine hm1.mono ?_
  rintro e w2 ⟨rfl, X2, O2, hb2, F2⟩
  have B2 : Hid (Below B w w2) := B1.out.trans hb2
  have RA : ∀ (u : World), Fr w1 (n + 1 + 1) (.slice A L.length cap) u → EnAt u (n + 1) 0 0 [] (.slice none 0 0) [] false := fun u hu => by
    refine (hu.same (n + 1) HN1.out (by omega) ?_).trans R1.out
    intro hg
    obtain ⟨cur, hg2⟩ := own_types O1.out hg
    have h := R1.out
    unfold EnAt at h
    rw [hg2] at h
    simp at h
  have R2 := Lib.hid (RA w2 F2)
  have RA := Lib.hid RA
  have F2 := Lib.hid F2
  clear hm1 hw1 X1 O1 B1 R1
  rcases bool3 (memB m L) (tregB m ix L) with h1 | ⟨h1, h3⟩ | ⟨h1, h3⟩
  · have T : Hid (withP m ix L ex = some (repM ix L, 100 :: ex)) := by show withP m ix L ex = _; unfold withP; rw [if_pos h1]
    rw [h1] at X2 O2 ⊢
    rw [if_pos rfl] at X2 O2
    have X2 := Lib.hid X2
    have O2 := Lib.hid O2
    clear h1 RG
    obtain ⟨x0, x1, x2, x3, x4, x5, x6, x7⟩ := X2.out.cells
    obtain ⟨r0, r1, r2, r3, r4, r5, r6⟩ := R2.out.cells
    go_wp2
    obtain ⟨w7, hw7, q, q2, q3, -, q4⟩ := R2.out.put page op m (.slice A L.length cap) (100 :: ex) al
    rw [hw7]
    obtain ⟨q0, q1, q2', q3', q4', q5, -⟩ := q.cells
    refine bodyPost_ret (v := .tuple #[enV page op m (.slice A L.length cap) (100 :: ex) al, .bool true]) ?_ rfl ?_
    · simp [results, Tryz.results103, go_sem, q0, q1, q2', q3', q4', q5, enV]
    · rw [T.out]
      exact ⟨⟨rfl, put_own R2.out O2.out q4⟩, B2.out.trans (q2.mono (by omega))⟩
  · have T : Hid (withP m ix L ex = some (L.map (opX ix), ex)) := by show withP m ix L ex = _; unfold withP; rw [if_neg (by rw [h1]; decide), if_pos h3]
    rw [h1] at X2 O2 ⊢
    rw [if_neg (by decide)] at X2 O2
    have hm2 := RG.out w2 X2 O2
    have X2 := Lib.hid X2
    go_wp2_with fail
    refine hm2.mono ?_
    rintro e w3 ⟨rfl, X3, O3, hb3, F3⟩
    have O3 := O3 h3
    have R3 := Lib.hid (RA.out w3 ⟨Nat.le_trans F2.out.size F3.size, fun k hk k1 k2 => (F3.same k (Nat.lt_of_lt_of_le hk F2.out.size) k1 k2).trans (F2.out.same k hk k1 k2)⟩)
    have B3 : Hid (Below B w w3) := B2.out.trans hb3
    rw [h3]
    have X3 := Lib.hid X3
    have O3 := Lib.hid O3
    clear h1 h3 RG hm2 X2 O2 R2 B2 hb3 F3
    obtain ⟨x0, x1, x2, x3, x4, x5, x6, x7⟩ := X3.out.cells
    obtain ⟨r0, r1, r2, r3, r4, r5, r6⟩ := R3.out.cells
    go_wp2
    obtain ⟨w7, hw7, q, q2, q3, -, q4⟩ := R3.out.put page op m (.slice A L.length cap) ex al
    rw [hw7]
    obtain ⟨q0, q1, q2', q3', q4', q5, -⟩ := q.cells
    refine bodyPost_ret (v := .tuple #[enV page op m (.slice A L.length cap) ex al, .bool true]) ?_ rfl ?_
    · simp [results, Tryz.results103, go_sem, q0, q1, q2', q3', q4', q5, enV]
    · rw [T.out]
      exact ⟨⟨rfl, put_own R3.out O3.out q4⟩, B3.out.trans (q2.mono (by omega))⟩
  · have T : Hid (withP m ix L ex = none) := by show withP m ix L ex = _; unfold withP; rw [if_neg (by rw [h1]; decide), if_neg (by rw [h3]; decide)]
    rw [h1] at X2 O2 ⊢
    rw [if_neg (by decide)] at X2 O2
    have hm2 := RG.out w2 X2 O2
    go_wp2_with fail
    refine hm2.mono ?_
    rintro e w3 ⟨rfl, X3, -, hb3, F3⟩
    have R3 := Lib.hid (RA.out w3 ⟨Nat.le_trans F2.out.size F3.size, fun k hk k1 k2 => (F3.same k (Nat.lt_of_lt_of_le hk F2.out.size) k1 k2).trans (F2.out.same k hk k1 k2)⟩)
    have B3 : Hid (Below B w w3) := B2.out.trans hb3
    rw [h3]
    clear h1 h3 RG hm2 X2 O2 R2 B2 hb3 F3 X3
    obtain ⟨r0, r1, r2, r3, r4, r5, r6⟩ := R3.out.cells
    go_wp2
    obtain ⟨w7, hw7, q, q2, q3, -, q4⟩ := R3.out.put 0 0 [] (.slice none 0 0) [] false
    rw [show sB [] = (⟨#[]⟩ : ByteArray) from rfl] at hw7
    rw [hw7]
    obtain ⟨q0, q1, q2', q3', q4', q5, -⟩ := q.cells
    refine bodyPost_ret (v := .tuple #[enV 0 0 [] (.slice none 0 0) [] false, .bool false]) ?_ rfl ?_
    · simp [results, Tryz.results103, go_sem, q0, q1, q2', q3', q4', q5, enV]
    · rw [T.out]
      exact ⟨rfl, B3.out.trans (q2.mono (by omega))⟩
end Go.Proofs.YtmnleknehjkmgaaGreat
