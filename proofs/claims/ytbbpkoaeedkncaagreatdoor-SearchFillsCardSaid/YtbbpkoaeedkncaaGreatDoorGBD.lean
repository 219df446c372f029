/-
  TbM, TbN.
-/
import Derived.Test.YtbbpkoaeedkncaaGreatDoorGBC
set_option linter.all false
set_option maxRecDepth 100000
set_option maxHeartbeats 4000000
namespace Go.Proofs.YtbbpkoaeedkncaaGreatDoor
open Go.RowKit Go.Shelf
theorem opd_eql (x y : Tr) (w : World) : (binOp .eql 68 (trV x) (trV y)).run Tryz.prog w = .ok (.bool (decide (x = y))) w := by
  obtain ⟨a, b, c⟩ := x
  obtain ⟨d, e, f⟩ := y
  simp only [trV]
  go_simp
  by_cases h1 : a = d
  · by_cases h2 : b = e
    · by_cases h3 : c = f
      · simp [h1, h2, h3]
      · simp [h1, h2, h3]
    · simp [h1, h2]
  · simp [h1]
theorem opd_neq (x y : Tr) (w : World) : (binOp .neq 68 (trV x) (trV y)).run Tryz.prog w = .ok (.bool (!decide (x = y))) w := by
  obtain ⟨a, b, c⟩ := x
  obtain ⟨d, e, f⟩ := y
  simp only [trV]
  go_simp
  by_cases h1 : a = d
  · by_cases h2 : b = e
    · by_cases h3 : c = f
      · simp [h1, h2, h3]
      · simp [h1, h2, h3]
    · simp [h1, h2]
  · simp [h1]
def opX (ix : Int) (o : Tr) : Tr :=
  if o = (1, 4, 0) then (2, if ix = 6 then 2 else 0, 0) else if o = (1, 5, 0) then (2, if ix = 6 then 3 else 1, 0) else if o = (3, 2, 0) then (3, ix, 0) else if o = (4, 2, 0) then (4, ix, 0) else o
theorem opx_start (w : World) (o : Tr) : ∃ w0, (w.alloc (.cells #[.int .i64 o.1, .int .i64 o.2.1, .int .i64 o.2.2] 68)).alloc (.cells #[.int .i64 0, .int .i64 0, .int .i64 0] 68) = w0 ∧
    OpdAt w0 (w.heap.size + 1) ∧ Below w.heap.size w w0 ∧ w0.heap.size = w.heap.size + 2 ∧ w0.heap[w.heap.size]? = some (.cells #[.int .i64 o.1, .int .i64 o.2.1, .int .i64 o.2.2] 68 (0, 0)) := by
  refine ⟨_, rfl, ?_, ((Below.refl _ w).alloc (Nat.le_refl _) _).alloc (by simp) _, by simp, (Below.heap_alloc _ _ _ (by simp)).trans (World.alloc_heap_new w _)⟩
  have h := World.alloc_heap_new (w.alloc (.cells #[.int .i64 o.1, .int .i64 o.2.1, .int .i64 o.2.2] 68)) (.cells #[.int .i64 0, .int .i64 0, .int .i64 0] 68)
  rw [World.size_alloc] at h
  exact h
theorem opx_5_0 (b : Nat) (w : World) (hx : w.cell? ⟨b, 6, none⟩ = some (.int .i64 5)) : Calls Tryz.prog 117 #[.pointer (some ⟨b, 0, none⟩), .agg #[.int .i64 1, .int .i64 4, .int .i64 0]] w (RetTr w (2, 0, 0)) := by
  obtain ⟨w0, hw0, S0, B0, Z0, C0⟩ := opx_start w (1, 4, 0)
  have hbl := World.block_lt_of_cell? w _ hx
  have x1 := (B0.cell hbl).trans hx
  obtain ⟨n, hn⟩ : ∃ n, w.heap.size = n := ⟨_, rfl⟩
  rw [hn] at S0 B0 Z0 C0
  have hbn : b < n := by rw [← hn]; exact hbl
  have k0 := Lib.cell_of_heap C0 0
  have k1 := Lib.cell_of_heap C0 1
  have k2 := Lib.cell_of_heap C0 2
  obtain ⟨y0, hy0⟩ : ∃ y, w0 = y := ⟨_, rfl⟩
  rw [hy0] at hw0 S0 B0 Z0 k0 k1 k2 x1
  clear C0 hy0
  have S0 := Lib.hid S0
  have B0 := Lib.hid B0
  have HN := Lib.hid hn
  have HB := Lib.hid hbn
  clear hbl hx
  go_enter Tryz.func117, Tryz.ntmps117
  go_wp2_with fail
  refine (register_any _ y0).mono ?_
  rintro e y1 ⟨rfl, hb⟩
  have S1 : Hid (OpdAt y1 (n + 1)) := S0.out.below hb
  have B1 : Hid (Below n w y1) := B0.out.trans (hb.mono (by omega))
  have Z1 : n + 2 ≤ y1.heap.size := by have := hb.size; omega
  have x2 := (hb.cell (show b < y0.heap.size by omega)).trans x1
  clear hb S0 B0 Z0 x1 hw0 k0 k1 k2
  simp only [trV]
  go_wp2_with fail
  refine (half_any _ y1).mono ?_
  rintro e y2 ⟨rfl, hb⟩
  have S2 : Hid (OpdAt y2 (n + 1)) := S1.out.below hb
  have B2 : Hid (Below n w y2) := B1.out.trans (hb.mono (by omega))
  have Z2 : n + 2 ≤ y2.heap.size := by have := hb.size; omega
  have x3 := (hb.cell (show b < y1.heap.size by omega)).trans x2
  clear hb S1 B1 Z1 x2
  simp only [trV]
  obtain ⟨c0, c1, c2, c3⟩ := S2.out.cells
  go_wp2
  obtain ⟨w3, hw3, hc3, hb3, -⟩ := opd_set S2.out 2 0 0
  rw [hw3]
  have r0 := Lib.cell_of_heap hc3 0
  have r1 := Lib.cell_of_heap hc3 1
  have r2 := Lib.cell_of_heap hc3 2
  refine bodyPost_ret (v := trV (2, 0, 0)) ?_ rfl ?_
  · simp [results, Tryz.results117, go_sem, r0, r1, r2, trV]
  · exact ⟨rfl, by rw [HN.out]; exact B2.out.trans (hb3.mono (by omega))⟩
theorem opx_5_1 (b : Nat) (w : World) (hx : w.cell? ⟨b, 6, none⟩ = some (.int .i64 5)) : Calls Tryz.prog 117 #[.pointer (some ⟨b, 0, none⟩), .agg #[.int .i64 1, .int .i64 5, .int .i64 0]] w (RetTr w (2, 1, 0)) := by
  obtain ⟨w0, hw0, S0, B0, Z0, C0⟩ := opx_start w (1, 5, 0)
  have hbl := World.block_lt_of_cell? w _ hx
  have x1 := (B0.cell hbl).trans hx
  obtain ⟨n, hn⟩ : ∃ n, w.heap.size = n := ⟨_, rfl⟩
  rw [hn] at S0 B0 Z0 C0
  have hbn : b < n := by rw [← hn]; exact hbl
  have k0 := Lib.cell_of_heap C0 0
  have k1 := Lib.cell_of_heap C0 1
  have k2 := Lib.cell_of_heap C0 2
  obtain ⟨y0, hy0⟩ : ∃ y, w0 = y := ⟨_, rfl⟩
  rw [hy0] at hw0 S0 B0 Z0 k0 k1 k2 x1
  clear C0 hy0
  have S0 := Lib.hid S0
  have B0 := Lib.hid B0
  have HN := Lib.hid hn
  have HB := Lib.hid hbn
  clear hbl hx
  go_enter Tryz.func117, Tryz.ntmps117
  go_wp2_with fail
  refine (register_any _ y0).mono ?_
  rintro e y1 ⟨rfl, hb⟩
  have S1 : Hid (OpdAt y1 (n + 1)) := S0.out.below hb
  have B1 : Hid (Below n w y1) := B0.out.trans (hb.mono (by omega))
  have Z1 : n + 2 ≤ y1.heap.size := by have := hb.size; omega
  have x2 := (hb.cell (show b < y0.heap.size by omega)).trans x1
  clear hb S0 B0 Z0 x1 hw0 k0 k1 k2
  simp only [trV]
  go_wp2_with fail
  refine (register_any _ y1).mono ?_
  rintro e y2 ⟨rfl, hb⟩
  have S2 : Hid (OpdAt y2 (n + 1)) := S1.out.below hb
  have B2 : Hid (Below n w y2) := B1.out.trans (hb.mono (by omega))
  have Z2 : n + 2 ≤ y2.heap.size := by have := hb.size; omega
  have x3 := (hb.cell (show b < y1.heap.size by omega)).trans x2
  clear hb S1 B1 Z1 x2
  simp only [trV]
  go_wp2_with fail
  refine (half_any _ y2).mono ?_
  rintro e y3 ⟨rfl, hb⟩
  have S3 : Hid (OpdAt y3 (n + 1)) := S2.out.below hb
  have B3 : Hid (Below n w y3) := B2.out.trans (hb.mono (by omega))
  have Z3 : n + 2 ≤ y3.heap.size := by have := hb.size; omega
  have x4 := (hb.cell (show b < y2.heap.size by omega)).trans x3
  clear hb S2 B2 Z2 x3
  simp only [trV]
  obtain ⟨c0, c1, c2, c3⟩ := S3.out.cells
  go_wp2
  obtain ⟨w3, hw3, hc3, hb3, -⟩ := opd_set S3.out 2 1 0
  rw [hw3]
  have r0 := Lib.cell_of_heap hc3 0
  have r1 := Lib.cell_of_heap hc3 1
  have r2 := Lib.cell_of_heap hc3 2
  refine bodyPost_ret (v := trV (2, 1, 0)) ?_ rfl ?_
  · simp [results, Tryz.results117, go_sem, r0, r1, r2, trV]
  · exact ⟨rfl, by rw [HN.out]; exact B3.out.trans (hb3.mono (by omega))⟩
theorem opx_5_2 (b : Nat) (w : World) (hx : w.cell? ⟨b, 6, none⟩ = some (.int .i64 5)) : Calls Tryz.prog 117 #[.pointer (some ⟨b, 0, none⟩), .agg #[.int .i64 3, .int .i64 2, .int .i64 0]] w (RetTr w (3, 5, 0)) := by
  obtain ⟨w0, hw0, S0, B0, Z0, C0⟩ := opx_start w (3, 2, 0)
  have hbl := World.block_lt_of_cell? w _ hx
  have x1 := (B0.cell hbl).trans hx
  obtain ⟨n, hn⟩ : ∃ n, w.heap.size = n := ⟨_, rfl⟩
  rw [hn] at S0 B0 Z0 C0
  have hbn : b < n := by rw [← hn]; exact hbl
  have k0 := Lib.cell_of_heap C0 0
  have k1 := Lib.cell_of_heap C0 1
  have k2 := Lib.cell_of_heap C0 2
  obtain ⟨y0, hy0⟩ : ∃ y, w0 = y := ⟨_, rfl⟩
  rw [hy0] at hw0 S0 B0 Z0 k0 k1 k2 x1
  clear C0 hy0
  have S0 := Lib.hid S0
  have B0 := Lib.hid B0
  have HN := Lib.hid hn
  have HB := Lib.hid hbn
  clear hbl hx
  go_enter Tryz.func117, Tryz.ntmps117
  go_wp2_with fail
  refine (register_any _ y0).mono ?_
  rintro e y1 ⟨rfl, hb⟩
  have S1 : Hid (OpdAt y1 (n + 1)) := S0.out.below hb
  have B1 : Hid (Below n w y1) := B0.out.trans (hb.mono (by omega))
  have Z1 : n + 2 ≤ y1.heap.size := by have := hb.size; omega
  have x2 := (hb.cell (show b < y0.heap.size by omega)).trans x1
  clear hb S0 B0 Z0 x1 hw0 k0 k1 k2
  simp only [trV]
  go_wp2_with fail
  refine (register_any _ y1).mono ?_
  rintro e y2 ⟨rfl, hb⟩
  have S2 : Hid (OpdAt y2 (n + 1)) := S1.out.below hb
  have B2 : Hid (Below n w y2) := B1.out.trans (hb.mono (by omega))
  have Z2 : n + 2 ≤ y2.heap.size := by have := hb.size; omega
  have x3 := (hb.cell (show b < y1.heap.size by omega)).trans x2
  clear hb S1 B1 Z1 x2
  simp only [trV]
  go_wp2_with fail
  refine (pair_any _ y2).mono ?_
  rintro e y3 ⟨rfl, hb⟩
  have S3 : Hid (OpdAt y3 (n + 1)) := S2.out.below hb
  have B3 : Hid (Below n w y3) := B2.out.trans (hb.mono (by omega))
  have Z3 : n + 2 ≤ y3.heap.size := by have := hb.size; omega
  have x4 := (hb.cell (show b < y2.heap.size by omega)).trans x3
  clear hb S2 B2 Z2 x3
  simp only [trV]
  go_wp2_with fail
  refine (pair_any _ y3).mono ?_
  rintro e y4 ⟨rfl, hb⟩
  have S4 : Hid (OpdAt y4 (n + 1)) := S3.out.below hb
  have B4 : Hid (Below n w y4) := B3.out.trans (hb.mono (by omega))
  have Z4 : n + 2 ≤ y4.heap.size := by have := hb.size; omega
  have x5 := (hb.cell (show b < y3.heap.size by omega)).trans x4
  clear hb S3 B3 Z3 x4
  simp only [trV]
  obtain ⟨c0, c1, c2, c3⟩ := S4.out.cells
  go_wp2
  obtain ⟨w3, hw3, hc3, hb3, -⟩ := opd_set S4.out 3 5 0
  rw [hw3]
  have r0 := Lib.cell_of_heap hc3 0
  have r1 := Lib.cell_of_heap hc3 1
  have r2 := Lib.cell_of_heap hc3 2
  refine bodyPost_ret (v := trV (3, 5, 0)) ?_ rfl ?_
  · simp [results, Tryz.results117, go_sem, r0, r1, r2, trV]
  · exact ⟨rfl, by rw [HN.out]; exact B4.out.trans (hb3.mono (by omega))⟩
theorem opx_5_3 (b : Nat) (w : World) (hx : w.cell? ⟨b, 6, none⟩ = some (.int .i64 5)) : Calls Tryz.prog 117 #[.pointer (some ⟨b, 0, none⟩), .agg #[.int .i64 4, .int .i64 2, .int .i64 0]] w (RetTr w (4, 5, 0)) := by
  obtain ⟨w0, hw0, S0, B0, Z0, C0⟩ := opx_start w (4, 2, 0)
  have hbl := World.block_lt_of_cell? w _ hx
  have x1 := (B0.cell hbl).trans hx
  obtain ⟨n, hn⟩ : ∃ n, w.heap.size = n := ⟨_, rfl⟩
  rw [hn] at S0 B0 Z0 C0
  have hbn : b < n := by rw [← hn]; exact hbl
  have k0 := Lib.cell_of_heap C0 0
  have k1 := Lib.cell_of_heap C0 1
  have k2 := Lib.cell_of_heap C0 2
  obtain ⟨y0, hy0⟩ : ∃ y, w0 = y := ⟨_, rfl⟩
  rw [hy0] at hw0 S0 B0 Z0 k0 k1 k2 x1
  clear C0 hy0
  have S0 := Lib.hid S0
  have B0 := Lib.hid B0
  have HN := Lib.hid hn
  have HB := Lib.hid hbn
  clear hbl hx
  go_enter Tryz.func117, Tryz.ntmps117
  go_wp2_with fail
  refine (register_any _ y0).mono ?_
  rintro e y1 ⟨rfl, hb⟩
  have S1 : Hid (OpdAt y1 (n + 1)) := S0.out.below hb
  have B1 : Hid (Below n w y1) := B0.out.trans (hb.mono (by omega))
  have Z1 : n + 2 ≤ y1.heap.size := by have := hb.size; omega
  have x2 := (hb.cell (show b < y0.heap.size by omega)).trans x1
  clear hb S0 B0 Z0 x1 hw0 k0 k1 k2
  simp only [trV]
  go_wp2_with fail
  refine (register_any _ y1).mono ?_
  rintro e y2 ⟨rfl, hb⟩
  have S2 : Hid (OpdAt y2 (n + 1)) := S1.out.below hb
  have B2 : Hid (Below n w y2) := B1.out.trans (hb.mono (by omega))
  have Z2 : n + 2 ≤ y2.heap.size := by have := hb.size; omega
  have x3 := (hb.cell (show b < y1.heap.size by omega)).trans x2
  clear hb S1 B1 Z1 x2
  simp only [trV]
  go_wp2_with fail
  refine (pair_any _ y2).mono ?_
  rintro e y3 ⟨rfl, hb⟩
  have S3 : Hid (OpdAt y3 (n + 1)) := S2.out.below hb
  have B3 : Hid (Below n w y3) := B2.out.trans (hb.mono (by omega))
  have Z3 : n + 2 ≤ y3.heap.size := by have := hb.size; omega
  have x4 := (hb.cell (show b < y2.heap.size by omega)).trans x3
  clear hb S2 B2 Z2 x3
  simp only [trV]
  go_wp2_with fail
  refine (tpointer_any _ y3).mono ?_
  rintro e y4 ⟨rfl, hb⟩
  have S4 : Hid (OpdAt y4 (n + 1)) := S3.out.below hb
  have B4 : Hid (Below n w y4) := B3.out.trans (hb.mono (by omega))
  have Z4 : n + 2 ≤ y4.heap.size := by have := hb.size; omega
  have x5 := (hb.cell (show b < y3.heap.size by omega)).trans x4
  clear hb S3 B3 Z3 x4
  simp only [trV]
  go_wp2_with fail
  refine (tpointer_any _ y4).mono ?_
  rintro e y5 ⟨rfl, hb⟩
  have S5 : Hid (OpdAt y5 (n + 1)) := S4.out.below hb
  have B5 : Hid (Below n w y5) := B4.out.trans (hb.mono (by omega))
  have Z5 : n + 2 ≤ y5.heap.size := by have := hb.size; omega
  have x6 := (hb.cell (show b < y4.heap.size by omega)).trans x5
  clear hb S4 B4 Z4 x5
  simp only [trV]
  obtain ⟨c0, c1, c2, c3⟩ := S5.out.cells
  go_wp2
  obtain ⟨w3, hw3, hc3, hb3, -⟩ := opd_set S5.out 4 5 0
  rw [hw3]
  have r0 := Lib.cell_of_heap hc3 0
  have r1 := Lib.cell_of_heap hc3 1
  have r2 := Lib.cell_of_heap hc3 2
  refine bodyPost_ret (v := trV (4, 5, 0)) ?_ rfl ?_
  · simp [results, Tryz.results117, go_sem, r0, r1, r2, trV]
  · exact ⟨rfl, by rw [HN.out]; exact B5.out.trans (hb3.mono (by omega))⟩
theorem opx_5_n (b : Nat) (a c d : Int) (h0 : (a, c, d) ≠ ((1, 4, 0) : Tr)) (h1 : (a, c, d) ≠ ((1, 5, 0) : Tr)) (h2 : (a, c, d) ≠ ((3, 2, 0) : Tr)) (h3 : (a, c, d) ≠ ((4, 2, 0) : Tr)) (w : World) (hx : w.cell? ⟨b, 6, none⟩ = some (.int .i64 5)) : Calls Tryz.prog 117 #[.pointer (some ⟨b, 0, none⟩), .agg #[.int .i64 a, .int .i64 c, .int .i64 d]] w (RetTr w (a, c, d)) := by
  obtain ⟨w0, hw0, S0, B0, Z0, C0⟩ := opx_start w (a, c, d)
  have hbl := World.block_lt_of_cell? w _ hx
  have x1 := (B0.cell hbl).trans hx
  obtain ⟨n, hn⟩ : ∃ n, w.heap.size = n := ⟨_, rfl⟩
  rw [hn] at S0 B0 Z0 C0
  have hbn : b < n := by rw [← hn]; exact hbl
  have k0 := Lib.cell_of_heap C0 0
  have k1 := Lib.cell_of_heap C0 1
  have k2 := Lib.cell_of_heap C0 2
  obtain ⟨y0, hy0⟩ : ∃ y, w0 = y := ⟨_, rfl⟩
  rw [hy0] at hw0 S0 B0 Z0 k0 k1 k2 x1
  clear C0 hy0
  have S0 := Lib.hid S0
  have B0 := Lib.hid B0
  have HN := Lib.hid hn
  have HB := Lib.hid hbn
  clear hbl hx
  have q0 : ∀ w, (binOp .eql 68 (.agg #[.int .i64 a, .int .i64 c, .int .i64 d]) (.agg #[.int .i64 1, .int .i64 4, .int .i64 0])).run Tryz.prog w = .ok (.bool false) w := fun w => (opd_eql (a, c, d) (1, 4, 0) w).trans (by rw [decide_eq_false h0])
  have q1 : ∀ w, (binOp .eql 68 (.agg #[.int .i64 a, .int .i64 c, .int .i64 d]) (.agg #[.int .i64 1, .int .i64 5, .int .i64 0])).run Tryz.prog w = .ok (.bool false) w := fun w => (opd_eql (a, c, d) (1, 5, 0) w).trans (by rw [decide_eq_false h1])
  have q2 : ∀ w, (binOp .eql 68 (.agg #[.int .i64 a, .int .i64 c, .int .i64 d]) (.agg #[.int .i64 3, .int .i64 2, .int .i64 0])).run Tryz.prog w = .ok (.bool false) w := fun w => (opd_eql (a, c, d) (3, 2, 0) w).trans (by rw [decide_eq_false h2])
  have q3 : ∀ w, (binOp .eql 68 (.agg #[.int .i64 a, .int .i64 c, .int .i64 d]) (.agg #[.int .i64 4, .int .i64 2, .int .i64 0])).run Tryz.prog w = .ok (.bool false) w := fun w => (opd_eql (a, c, d) (4, 2, 0) w).trans (by rw [decide_eq_false h3])
  clear h0 h1 h2 h3
  go_enter Tryz.func117, Tryz.ntmps117
  go_wp2_with fail
  refine (register_any _ y0).mono ?_
  rintro e y1 ⟨rfl, hb⟩
  have S1 : Hid (OpdAt y1 (n + 1)) := S0.out.below hb
  have B1 : Hid (Below n w y1) := B0.out.trans (hb.mono (by omega))
  have Z1 : n + 2 ≤ y1.heap.size := by have := hb.size; omega
  have x2 := (hb.cell (show b < y0.heap.size by omega)).trans x1
  have m0 := (hb.cell (show n < y0.heap.size by omega)).trans k0
  have m1 := (hb.cell (show n < y0.heap.size by omega)).trans k1
  have m2 := (hb.cell (show n < y0.heap.size by omega)).trans k2
  clear k0 k1 k2
  have k0 := m0
  have k1 := m1
  have k2 := m2
  clear m0 m1 m2
  clear hb S0 B0 Z0 x1
  simp only [trV]
  go_wp2_with fail
  refine (register_any _ y1).mono ?_
  rintro e y2 ⟨rfl, hb⟩
  have S2 : Hid (OpdAt y2 (n + 1)) := S1.out.below hb
  have B2 : Hid (Below n w y2) := B1.out.trans (hb.mono (by omega))
  have Z2 : n + 2 ≤ y2.heap.size := by have := hb.size; omega
  have x3 := (hb.cell (show b < y1.heap.size by omega)).trans x2
  have m0 := (hb.cell (show n < y1.heap.size by omega)).trans k0
  have m1 := (hb.cell (show n < y1.heap.size by omega)).trans k1
  have m2 := (hb.cell (show n < y1.heap.size by omega)).trans k2
  clear k0 k1 k2
  have k0 := m0
  have k1 := m1
  have k2 := m2
  clear m0 m1 m2
  clear hb S1 B1 Z1 x2
  simp only [trV]
  go_wp2_with fail
  refine (pair_any _ y2).mono ?_
  rintro e y3 ⟨rfl, hb⟩
  have S3 : Hid (OpdAt y3 (n + 1)) := S2.out.below hb
  have B3 : Hid (Below n w y3) := B2.out.trans (hb.mono (by omega))
  have Z3 : n + 2 ≤ y3.heap.size := by have := hb.size; omega
  have x4 := (hb.cell (show b < y2.heap.size by omega)).trans x3
  have m0 := (hb.cell (show n < y2.heap.size by omega)).trans k0
  have m1 := (hb.cell (show n < y2.heap.size by omega)).trans k1
  have m2 := (hb.cell (show n < y2.heap.size by omega)).trans k2
  clear k0 k1 k2
  have k0 := m0
  have k1 := m1
  have k2 := m2
  clear m0 m1 m2
  clear hb S2 B2 Z2 x3
  simp only [trV]
  go_wp2_with fail
  refine (tpointer_any _ y3).mono ?_
  rintro e y4 ⟨rfl, hb⟩
  have S4 : Hid (OpdAt y4 (n + 1)) := S3.out.below hb
  have B4 : Hid (Below n w y4) := B3.out.trans (hb.mono (by omega))
  have Z4 : n + 2 ≤ y4.heap.size := by have := hb.size; omega
  have x5 := (hb.cell (show b < y3.heap.size by omega)).trans x4
  have m0 := (hb.cell (show n < y3.heap.size by omega)).trans k0
  have m1 := (hb.cell (show n < y3.heap.size by omega)).trans k1
  have m2 := (hb.cell (show n < y3.heap.size by omega)).trans k2
  clear k0 k1 k2
  have k0 := m0
  have k1 := m1
  have k2 := m2
  clear m0 m1 m2
  clear hb S3 B3 Z3 x4
  simp only [trV]
  obtain ⟨c0, c1, c2, c3⟩ := S4.out.cells
  go_wp2
  obtain ⟨w3, hw3, hc3, hb3, -⟩ := opd_set S4.out a c d
  rw [hw3]
  have r0 := Lib.cell_of_heap hc3 0
  have r1 := Lib.cell_of_heap hc3 1
  have r2 := Lib.cell_of_heap hc3 2
  refine bodyPost_ret (v := trV (a, c, d)) ?_ rfl ?_
  · simp [results, Tryz.results117, go_sem, r0, r1, r2, trV]
  · exact ⟨rfl, by rw [HN.out]; exact B4.out.trans (hb3.mono (by omega))⟩
theorem opx_6_0 (b : Nat) (w : World) (hx : w.cell? ⟨b, 6, none⟩ = some (.int .i64 6)) : Calls Tryz.prog 117 #[.pointer (some ⟨b, 0, none⟩), .agg #[.int .i64 1, .int .i64 4, .int .i64 0]] w (RetTr w (2, 2, 0)) := by
  obtain ⟨w0, hw0, S0, B0, Z0, C0⟩ := opx_start w (1, 4, 0)
  have hbl := World.block_lt_of_cell? w _ hx
  have x1 := (B0.cell hbl).trans hx
  obtain ⟨n, hn⟩ : ∃ n, w.heap.size = n := ⟨_, rfl⟩
  rw [hn] at S0 B0 Z0 C0
  have hbn : b < n := by rw [← hn]; exact hbl
  have k0 := Lib.cell_of_heap C0 0
  have k1 := Lib.cell_of_heap C0 1
  have k2 := Lib.cell_of_heap C0 2
  obtain ⟨y0, hy0⟩ : ∃ y, w0 = y := ⟨_, rfl⟩
  rw [hy0] at hw0 S0 B0 Z0 k0 k1 k2 x1
  clear C0 hy0
  have S0 := Lib.hid S0
  have B0 := Lib.hid B0
  have HN := Lib.hid hn
  have HB := Lib.hid hbn
  clear hbl hx
  go_enter Tryz.func117, Tryz.ntmps117
  go_wp2_with fail
  refine (register_any _ y0).mono ?_
  rintro e y1 ⟨rfl, hb⟩
  have S1 : Hid (OpdAt y1 (n + 1)) := S0.out.below hb
  have B1 : Hid (Below n w y1) := B0.out.trans (hb.mono (by omega))
  have Z1 : n + 2 ≤ y1.heap.size := by have := hb.size; omega
  have x2 := (hb.cell (show b < y0.heap.size by omega)).trans x1
  clear hb S0 B0 Z0 x1 hw0 k0 k1 k2
  simp only [trV]
  go_wp2_with fail
  refine (half_any _ y1).mono ?_
  rintro e y2 ⟨rfl, hb⟩
  have S2 : Hid (OpdAt y2 (n + 1)) := S1.out.below hb
  have B2 : Hid (Below n w y2) := B1.out.trans (hb.mono (by omega))
  have Z2 : n + 2 ≤ y2.heap.size := by have := hb.size; omega
  have x3 := (hb.cell (show b < y1.heap.size by omega)).trans x2
  clear hb S1 B1 Z1 x2
  simp only [trV]
  obtain ⟨c0, c1, c2, c3⟩ := S2.out.cells
  go_wp2
  obtain ⟨w3, hw3, hc3, hb3, -⟩ := opd_set S2.out 2 2 0
  rw [hw3]
  have r0 := Lib.cell_of_heap hc3 0
  have r1 := Lib.cell_of_heap hc3 1
  have r2 := Lib.cell_of_heap hc3 2
  refine bodyPost_ret (v := trV (2, 2, 0)) ?_ rfl ?_
  · simp [results, Tryz.results117, go_sem, r0, r1, r2, trV]
  · exact ⟨rfl, by rw [HN.out]; exact B2.out.trans (hb3.mono (by omega))⟩
theorem opx_6_1 (b : Nat) (w : World) (hx : w.cell? ⟨b, 6, none⟩ = some (.int .i64 6)) : Calls Tryz.prog 117 #[.pointer (some ⟨b, 0, none⟩), .agg #[.int .i64 1, .int .i64 5, .int .i64 0]] w (RetTr w (2, 3, 0)) := by
  obtain ⟨w0, hw0, S0, B0, Z0, C0⟩ := opx_start w (1, 5, 0)
  have hbl := World.block_lt_of_cell? w _ hx
  have x1 := (B0.cell hbl).trans hx
  obtain ⟨n, hn⟩ : ∃ n, w.heap.size = n := ⟨_, rfl⟩
  rw [hn] at S0 B0 Z0 C0
  have hbn : b < n := by rw [← hn]; exact hbl
  have k0 := Lib.cell_of_heap C0 0
  have k1 := Lib.cell_of_heap C0 1
  have k2 := Lib.cell_of_heap C0 2
  obtain ⟨y0, hy0⟩ : ∃ y, w0 = y := ⟨_, rfl⟩
  rw [hy0] at hw0 S0 B0 Z0 k0 k1 k2 x1
  clear C0 hy0
  have S0 := Lib.hid S0
  have B0 := Lib.hid B0
  have HN := Lib.hid hn
  have HB := Lib.hid hbn
  clear hbl hx
  go_enter Tryz.func117, Tryz.ntmps117
  go_wp2_with fail
  refine (register_any _ y0).mono ?_
  rintro e y1 ⟨rfl, hb⟩
  have S1 : Hid (OpdAt y1 (n + 1)) := S0.out.below hb
  have B1 : Hid (Below n w y1) := B0.out.trans (hb.mono (by omega))
  have Z1 : n + 2 ≤ y1.heap.size := by have := hb.size; omega
  have x2 := (hb.cell (show b < y0.heap.size by omega)).trans x1
  clear hb S0 B0 Z0 x1 hw0 k0 k1 k2
  simp only [trV]
  go_wp2_with fail
  refine (register_any _ y1).mono ?_
  rintro e y2 ⟨rfl, hb⟩
  have S2 : Hid (OpdAt y2 (n + 1)) := S1.out.below hb
  have B2 : Hid (Below n w y2) := B1.out.trans (hb.mono (by omega))
  have Z2 : n + 2 ≤ y2.heap.size := by have := hb.size; omega
  have x3 := (hb.cell (show b < y1.heap.size by omega)).trans x2
  clear hb S1 B1 Z1 x2
  simp only [trV]
  go_wp2_with fail
  refine (half_any _ y2).mono ?_
  rintro e y3 ⟨rfl, hb⟩
  have S3 : Hid (OpdAt y3 (n + 1)) := S2.out.below hb
  have B3 : Hid (Below n w y3) := B2.out.trans (hb.mono (by omega))
  have Z3 : n + 2 ≤ y3.heap.size := by have := hb.size; omega
  have x4 := (hb.cell (show b < y2.heap.size by omega)).trans x3
  clear hb S2 B2 Z2 x3
  simp only [trV]
  obtain ⟨c0, c1, c2, c3⟩ := S3.out.cells
  go_wp2
  obtain ⟨w3, hw3, hc3, hb3, -⟩ := opd_set S3.out 2 3 0
  rw [hw3]
  have r0 := Lib.cell_of_heap hc3 0
  have r1 := Lib.cell_of_heap hc3 1
  have r2 := Lib.cell_of_heap hc3 2
  refine bodyPost_ret (v := trV (2, 3, 0)) ?_ rfl ?_
  · simp [results, Tryz.results117, go_sem, r0, r1, r2, trV]
  · exact ⟨rfl, by rw [HN.out]; exact B3.out.trans (hb3.mono (by omega))⟩
theorem opx_6_2 (b : Nat) (w : World) (hx : w.cell? ⟨b, 6, none⟩ = some (.int .i64 6)) : Calls Tryz.prog 117 #[.pointer (some ⟨b, 0, none⟩), .agg #[.int .i64 3, .int .i64 2, .int .i64 0]] w (RetTr w (3, 6, 0)) := by
  obtain ⟨w0, hw0, S0, B0, Z0, C0⟩ := opx_start w (3, 2, 0)
  have hbl := World.block_lt_of_cell? w _ hx
  have x1 := (B0.cell hbl).trans hx
  obtain ⟨n, hn⟩ : ∃ n, w.heap.size = n := ⟨_, rfl⟩
  rw [hn] at S0 B0 Z0 C0
  have hbn : b < n := by rw [← hn]; exact hbl
  have k0 := Lib.cell_of_heap C0 0
  have k1 := Lib.cell_of_heap C0 1
  have k2 := Lib.cell_of_heap C0 2
  obtain ⟨y0, hy0⟩ : ∃ y, w0 = y := ⟨_, rfl⟩
  rw [hy0] at hw0 S0 B0 Z0 k0 k1 k2 x1
  clear C0 hy0
  have S0 := Lib.hid S0
  have B0 := Lib.hid B0
  have HN := Lib.hid hn
  have HB := Lib.hid hbn
  clear hbl hx
  go_enter Tryz.func117, Tryz.ntmps117
  go_wp2_with fail
  refine (register_any _ y0).mono ?_
  rintro e y1 ⟨rfl, hb⟩
  have S1 : Hid (OpdAt y1 (n + 1)) := S0.out.below hb
  have B1 : Hid (Below n w y1) := B0.out.trans (hb.mono (by omega))
  have Z1 : n + 2 ≤ y1.heap.size := by have := hb.size; omega
  have x2 := (hb.cell (show b < y0.heap.size by omega)).trans x1
  clear hb S0 B0 Z0 x1 hw0 k0 k1 k2
  simp only [trV]
  go_wp2_with fail
  refine (register_any _ y1).mono ?_
  rintro e y2 ⟨rfl, hb⟩
  have S2 : Hid (OpdAt y2 (n + 1)) := S1.out.below hb
  have B2 : Hid (Below n w y2) := B1.out.trans (hb.mono (by omega))
  have Z2 : n + 2 ≤ y2.heap.size := by have := hb.size; omega
  have x3 := (hb.cell (show b < y1.heap.size by omega)).trans x2
  clear hb S1 B1 Z1 x2
  simp only [trV]
  go_wp2_with fail
  refine (pair_any _ y2).mono ?_
  rintro e y3 ⟨rfl, hb⟩
  have S3 : Hid (OpdAt y3 (n + 1)) := S2.out.below hb
  have B3 : Hid (Below n w y3) := B2.out.trans (hb.mono (by omega))
  have Z3 : n + 2 ≤ y3.heap.size := by have := hb.size; omega
  have x4 := (hb.cell (show b < y2.heap.size by omega)).trans x3
  clear hb S2 B2 Z2 x3
  simp only [trV]
  go_wp2_with fail
  refine (pair_any _ y3).mono ?_
  rintro e y4 ⟨rfl, hb⟩
  have S4 : Hid (OpdAt y4 (n + 1)) := S3.out.below hb
  have B4 : Hid (Below n w y4) := B3.out.trans (hb.mono (by omega))
  have Z4 : n + 2 ≤ y4.heap.size := by have := hb.size; omega
  have x5 := (hb.cell (show b < y3.heap.size by omega)).trans x4
  clear hb S3 B3 Z3 x4
  simp only [trV]
  obtain ⟨c0, c1, c2, c3⟩ := S4.out.cells
  go_wp2
  obtain ⟨w3, hw3, hc3, hb3, -⟩ := opd_set S4.out 3 6 0
  rw [hw3]
  have r0 := Lib.cell_of_heap hc3 0
  have r1 := Lib.cell_of_heap hc3 1
  have r2 := Lib.cell_of_heap hc3 2
  refine bodyPost_ret (v := trV (3, 6, 0)) ?_ rfl ?_
  · simp [results, Tryz.results117, go_sem, r0, r1, r2, trV]
  · exact ⟨rfl, by rw [HN.out]; exact B4.out.trans (hb3.mono (by omega))⟩
theorem opx_6_3 (b : Nat) (w : World) (hx : w.cell? ⟨b, 6, none⟩ = some (.int .i64 6)) : Calls Tryz.prog 117 #[.pointer (some ⟨b, 0, none⟩), .agg #[.int .i64 4, .int .i64 2, .int .i64 0]] w (RetTr w (4, 6, 0)) := by
  obtain ⟨w0, hw0, S0, B0, Z0, C0⟩ := opx_start w (4, 2, 0)
  have hbl := World.block_lt_of_cell? w _ hx
  have x1 := (B0.cell hbl).trans hx
  obtain ⟨n, hn⟩ : ∃ n, w.heap.size = n := ⟨_, rfl⟩
  rw [hn] at S0 B0 Z0 C0
  have hbn : b < n := by rw [← hn]; exact hbl
  have k0 := Lib.cell_of_heap C0 0
  have k1 := Lib.cell_of_heap C0 1
  have k2 := Lib.cell_of_heap C0 2
  obtain ⟨y0, hy0⟩ : ∃ y, w0 = y := ⟨_, rfl⟩
  rw [hy0] at hw0 S0 B0 Z0 k0 k1 k2 x1
  clear C0 hy0
  have S0 := Lib.hid S0
  have B0 := Lib.hid B0
  have HN := Lib.hid hn
  have HB := Lib.hid hbn
  clear hbl hx
  go_enter Tryz.func117, Tryz.ntmps117
  go_wp2_with fail
  refine (register_any _ y0).mono ?_
  rintro e y1 ⟨rfl, hb⟩
  have S1 : Hid (OpdAt y1 (n + 1)) := S0.out.below hb
  have B1 : Hid (Below n w y1) := B0.out.trans (hb.mono (by omega))
  have Z1 : n + 2 ≤ y1.heap.size := by have := hb.size; omega
  have x2 := (hb.cell (show b < y0.heap.size by omega)).trans x1
  clear hb S0 B0 Z0 x1 hw0 k0 k1 k2
  simp only [trV]
  go_wp2_with fail
  refine (register_any _ y1).mono ?_
  rintro e y2 ⟨rfl, hb⟩
  have S2 : Hid (OpdAt y2 (n + 1)) := S1.out.below hb
  have B2 : Hid (Below n w y2) := B1.out.trans (hb.mono (by omega))
  have Z2 : n + 2 ≤ y2.heap.size := by have := hb.size; omega
  have x3 := (hb.cell (show b < y1.heap.size by omega)).trans x2
  clear hb S1 B1 Z1 x2
  simp only [trV]
  go_wp2_with fail
  refine (pair_any _ y2).mono ?_
  rintro e y3 ⟨rfl, hb⟩
  have S3 : Hid (OpdAt y3 (n + 1)) := S2.out.below hb
  have B3 : Hid (Below n w y3) := B2.out.trans (hb.mono (by omega))
  have Z3 : n + 2 ≤ y3.heap.size := by have := hb.size; omega
  have x4 := (hb.cell (show b < y2.heap.size by omega)).trans x3
  clear hb S2 B2 Z2 x3
  simp only [trV]
  go_wp2_with fail
  refine (tpointer_any _ y3).mono ?_
  rintro e y4 ⟨rfl, hb⟩
  have S4 : Hid (OpdAt y4 (n + 1)) := S3.out.below hb
  have B4 : Hid (Below n w y4) := B3.out.trans (hb.mono (by omega))
  have Z4 : n + 2 ≤ y4.heap.size := by have := hb.size; omega
  have x5 := (hb.cell (show b < y3.heap.size by omega)).trans x4
  clear hb S3 B3 Z3 x4
  simp only [trV]
  go_wp2_with fail
  refine (tpointer_any _ y4).mono ?_
  rintro e y5 ⟨rfl, hb⟩
  have S5 : Hid (OpdAt y5 (n + 1)) := S4.out.below hb
  have B5 : Hid (Below n w y5) := B4.out.trans (hb.mono (by omega))
  have Z5 : n + 2 ≤ y5.heap.size := by have := hb.size; omega
  have x6 := (hb.cell (show b < y4.heap.size by omega)).trans x5
  clear hb S4 B4 Z4 x5
  simp only [trV]
  obtain ⟨c0, c1, c2, c3⟩ := S5.out.cells
  go_wp2
  obtain ⟨w3, hw3, hc3, hb3, -⟩ := opd_set S5.out 4 6 0
  rw [hw3]
  have r0 := Lib.cell_of_heap hc3 0
  have r1 := Lib.cell_of_heap hc3 1
  have r2 := Lib.cell_of_heap hc3 2
  refine bodyPost_ret (v := trV (4, 6, 0)) ?_ rfl ?_
  · simp [results, Tryz.results117, go_sem, r0, r1, r2, trV]
  · exact ⟨rfl, by rw [HN.out]; exact B5.out.trans (hb3.mono (by omega))⟩
theorem opx_6_n (b : Nat) (a c d : Int) (h0 : (a, c, d) ≠ ((1, 4, 0) : Tr)) (h1 : (a, c, d) ≠ ((1, 5, 0) : Tr)) (h2 : (a, c, d) ≠ ((3, 2, 0) : Tr)) (h3 : (a, c, d) ≠ ((4, 2, 0) : Tr)) (w : World) (hx : w.cell? ⟨b, 6, none⟩ = some (.int .i64 6)) : Calls Tryz.prog 117 #[.pointer (some ⟨b, 0, none⟩), .agg #[.int .i64 a, .int .i64 c, .int .i64 d]] w (RetTr w (a, c, d)) := by
  obtain ⟨w0, hw0, S0, B0, Z0, C0⟩ := opx_start w (a, c, d)
  have hbl := World.block_lt_of_cell? w _ hx
  have x1 := (B0.cell hbl).trans hx
  obtain ⟨n, hn⟩ : ∃ n, w.heap.size = n := ⟨_, rfl⟩
  rw [hn] at S0 B0 Z0 C0
  have hbn : b < n := by rw [← hn]; exact hbl
  have k0 := Lib.cell_of_heap C0 0
  have k1 := Lib.cell_of_heap C0 1
  have k2 := Lib.cell_of_heap C0 2
  obtain ⟨y0, hy0⟩ : ∃ y, w0 = y := ⟨_, rfl⟩
  rw [hy0] at hw0 S0 B0 Z0 k0 k1 k2 x1
  clear C0 hy0
  have S0 := Lib.hid S0
  have B0 := Lib.hid B0
  have HN := Lib.hid hn
  have HB := Lib.hid hbn
  clear hbl hx
  have q0 : ∀ w, (binOp .eql 68 (.agg #[.int .i64 a, .int .i64 c, .int .i64 d]) (.agg #[.int .i64 1, .int .i64 4, .int .i64 0])).run Tryz.prog w = .ok (.bool false) w := fun w => (opd_eql (a, c, d) (1, 4, 0) w).trans (by rw [decide_eq_false h0])
  have q1 : ∀ w, (binOp .eql 68 (.agg #[.int .i64 a, .int .i64 c, .int .i64 d]) (.agg #[.int .i64 1, .int .i64 5, .int .i64 0])).run Tryz.prog w = .ok (.bool false) w := fun w => (opd_eql (a, c, d) (1, 5, 0) w).trans (by rw [decide_eq_false h1])
  have q2 : ∀ w, (binOp .eql 68 (.agg #[.int .i64 a, .int .i64 c, .int .i64 d]) (.agg #[.int .i64 3, .int .i64 2, .int .i64 0])).run Tryz.prog w = .ok (.bool false) w := fun w => (opd_eql (a, c, d) (3, 2, 0) w).trans (by rw [decide_eq_false h2])
  have q3 : ∀ w, (binOp .eql 68 (.agg #[.int .i64 a, .int .i64 c, .int .i64 d]) (.agg #[.int .i64 4, .int .i64 2, .int .i64 0])).run Tryz.prog w = .ok (.bool false) w := fun w => (opd_eql (a, c, d) (4, 2, 0) w).trans (by rw [decide_eq_false h3])
  clear h0 h1 h2 h3
  go_enter Tryz.func117, Tryz.ntmps117
  go_wp2_with fail
  refine (register_any _ y0).mono ?_
  rintro e y1 ⟨rfl, hb⟩
  have S1 : Hid (OpdAt y1 (n + 1)) := S0.out.below hb
  have B1 : Hid (Below n w y1) := B0.out.trans (hb.mono (by omega))
  have Z1 : n + 2 ≤ y1.heap.size := by have := hb.size; omega
  have x2 := (hb.cell (show b < y0.heap.size by omega)).trans x1
  have m0 := (hb.cell (show n < y0.heap.size by omega)).trans k0
  have m1 := (hb.cell (show n < y0.heap.size by omega)).trans k1
  have m2 := (hb.cell (show n < y0.heap.size by omega)).trans k2
  clear k0 k1 k2
  have k0 := m0
  have k1 := m1
  have k2 := m2
  clear m0 m1 m2
  clear hb S0 B0 Z0 x1
  simp only [trV]
  go_wp2_with fail
  refine (register_any _ y1).mono ?_
  rintro e y2 ⟨rfl, hb⟩
  have S2 : Hid (OpdAt y2 (n + 1)) := S1.out.below hb
  have B2 : Hid (Below n w y2) := B1.out.trans (hb.mono (by omega))
  have Z2 : n + 2 ≤ y2.heap.size := by have := hb.size; omega
  have x3 := (hb.cell (show b < y1.heap.size by omega)).trans x2
  have m0 := (hb.cell (show n < y1.heap.size by omega)).trans k0
  have m1 := (hb.cell (show n < y1.heap.size by omega)).trans k1
  have m2 := (hb.cell (show n < y1.heap.size by omega)).trans k2
  clear k0 k1 k2
  have k0 := m0
  have k1 := m1
  have k2 := m2
  clear m0 m1 m2
  clear hb S1 B1 Z1 x2
  simp only [trV]
  go_wp2_with fail
  refine (pair_any _ y2).mono ?_
  rintro e y3 ⟨rfl, hb⟩
  have S3 : Hid (OpdAt y3 (n + 1)) := S2.out.below hb
  have B3 : Hid (Below n w y3) := B2.out.trans (hb.mono (by omega))
  have Z3 : n + 2 ≤ y3.heap.size := by have := hb.size; omega
  have x4 := (hb.cell (show b < y2.heap.size by omega)).trans x3
  have m0 := (hb.cell (show n < y2.heap.size by omega)).trans k0
  have m1 := (hb.cell (show n < y2.heap.size by omega)).trans k1
  have m2 := (hb.cell (show n < y2.heap.size by omega)).trans k2
  clear k0 k1 k2
  have k0 := m0
  have k1 := m1
  have k2 := m2
  clear m0 m1 m2
  clear hb S2 B2 Z2 x3
  simp only [trV]
  go_wp2_with fail
  refine (tpointer_any _ y3).mono ?_
  rintro e y4 ⟨rfl, hb⟩
  have S4 : Hid (OpdAt y4 (n + 1)) := S3.out.below hb
  have B4 : Hid (Below n w y4) := B3.out.trans (hb.mono (by omega))
  have Z4 : n + 2 ≤ y4.heap.size := by have := hb.size; omega
  have x5 := (hb.cell (show b < y3.heap.size by omega)).trans x4
  have m0 := (hb.cell (show n < y3.heap.size by omega)).trans k0
  have m1 := (hb.cell (show n < y3.heap.size by omega)).trans k1
  have m2 := (hb.cell (show n < y3.heap.size by omega)).trans k2
  clear k0 k1 k2
  have k0 := m0
  have k1 := m1
  have k2 := m2
  clear m0 m1 m2
  clear hb S3 B3 Z3 x4
  simp only [trV]
  obtain ⟨c0, c1, c2, c3⟩ := S4.out.cells
  go_wp2
  obtain ⟨w3, hw3, hc3, hb3, -⟩ := opd_set S4.out a c d
  rw [hw3]
  have r0 := Lib.cell_of_heap hc3 0
  have r1 := Lib.cell_of_heap hc3 1
  have r2 := Lib.cell_of_heap hc3 2
  refine bodyPost_ret (v := trV (a, c, d)) ?_ rfl ?_
  · simp [results, Tryz.results117, go_sem, r0, r1, r2, trV]
  · exact ⟨rfl, by rw [HN.out]; exact B4.out.trans (hb3.mono (by omega))⟩
theorem opx_any (b : Nat) (ix : Int) (hix : ix = 5 ∨ ix = 6) (o : Tr) (w : World) (hx : w.cell? ⟨b, 6, none⟩ = some (.int .i64 ix)) : Calls Tryz.prog 117 #[.pointer (some ⟨b, 0, none⟩), trV o] w (RetTr w (opX ix o)) := by
  obtain ⟨a, c, d⟩ := o
  unfold opX
  split
  · next h => cases h; rcases hix with rfl | rfl; exact opx_5_0 b w hx; exact opx_6_0 b w hx
  · next h0 =>
    split
    · next h => cases h; rcases hix with rfl | rfl; exact opx_5_1 b w hx; exact opx_6_1 b w hx
    · next h1 =>
      split
      · next h => cases h; rcases hix with rfl | rfl; exact opx_5_2 b w hx; exact opx_6_2 b w hx
      · next h2 =>
        split
        · next h => cases h; rcases hix with rfl | rfl; exact opx_5_3 b w hx; exact opx_6_3 b w hx
        · next h3 => rcases hix with rfl | rfl; exact opx_5_n b a c d h0 h1 h2 h3 w hx; exact opx_6_n b a c d h0 h1 h2 h3 w hx
end Go.Proofs.YtbbpkoaeedkncaaGreatDoor
namespace Go.Proofs.YtbbpkoaeedkncaaGreatDoor
open Go.RowKit Go.Shelf
attribute [local irreducible] Go.Mixed.wpMix
theorem cells_set3 : ∀ (L : List Tr) (k : Nat) (x : Tr) (h : k < L.length), (((cellsT L).set (k * 3) (.int .i64 x.1)).set (k * 3 + 1) (.int .i64 x.2.1)).set (k * 3 + 2) (.int .i64 x.2.2) = cellsT (L.set k x)
  | y :: t, 0, x, h => rfl
  | y :: t, k + 1, x, h => by
    have ih := cells_set3 t k x (by simpa using h)
    rw [show (k + 1) * 3 + 2 = (k * 3 + 2) + 1 + 1 + 1 by omega, show (k + 1) * 3 + 1 = (k * 3 + 1) + 1 + 1 + 1 by omega, show (k + 1) * 3 = (k * 3) + 1 + 1 + 1 by omega]
    have e : ∀ y : Tr, ∀ z : List Tr, cellsT (y :: z) = .int .i64 y.1 :: .int .i64 y.2.1 :: .int .i64 y.2.2 :: cellsT z := fun _ _ => rfl
    show _ = cellsT (y :: t.set k x)
    rw [e, e, ← ih]
    rfl
theorem OwnT.put3 {w : World} {B g cap n : Nat} {L : List Tr} (h : OwnT w B (.slice (some ⟨g, 0, none⟩) n cap) L) (hn : L.length = n) (k : Nat) (hk : k < n) (x : Tr) :
    OwnT (((w.setCell ⟨g, k * 3, none⟩ (.int .i64 x.1)).setCell ⟨g, k * 3 + 1, none⟩ (.int .i64 x.2.1)).setCell ⟨g, k * 3 + 2, none⟩ (.int .i64 x.2.2)) B (.slice (some ⟨g, 0, none⟩) n cap) (L.set k x) := by
  unfold OwnT at h ⊢
  rw [hn] at h
  rw [List.length_set, hn, ← cells_set3 L k x (by omega)]
  exact (World.ownsRow.stored (World.ownsRow.stored (World.ownsRow.stored h (k * 3) _).1 (k * 3 + 1) _).1 (k * 3 + 2) _).1
theorem row_set_ne {w : World} {base : Nat} {e : TypeId} {size n : Nat} {v : Value} {xs : List Value} (h : w.ownsRow base e size v n xs) {p : Addr} (hp : ∀ g, v.ownBlock = some g → g ≠ p.block) (u : Value) : (w.setCell p u).ownsRow base e size v n xs :=
  World.ownsRow.kept h (row := some p.block) ⟨rfl, rfl, rfl, by simp, fun k _ hk => heap_setCell_other w p k u (fun e => hk (by rw [e]))⟩ (by
    cases e : v.ownBlock with
    | none => exact .inl rfl
    | some g => exact .inr (fun e' => hp g e (by cases e'; rfl)))
def IxAt (w : World) (b : Nat) (page op : Int) (m : Str) (v : Value) (ex : Str) (al : Bool) (ix : Int) : Prop :=
  w.heap[b]? = some (.cells #[.int .i64 page, .int .u8 op, .string (sB m), v, .string (sB ex), .bool al, .int .i64 ix] 138 (0, 0))
section
variable {w w' : World} {b : Nat} {page op ix : Int} {m ex : Str} {v : Value} {al : Bool}
theorem IxAt.lt (h : IxAt w b page op m v ex al ix) : b < w.heap.size := (Array.getElem?_eq_some_iff.1 h).1
theorem IxAt.below {B : Nat} (h : IxAt w b page op m v ex al ix) (hb : Below B w w') (hB : b < B) : IxAt w' b page op m v ex al ix := (hb.block b hB).trans h
theorem IxAt.all (h : IxAt w b page op m v ex al ix) (hb : Below w.heap.size w w') : IxAt w' b page op m v ex al ix := h.below hb h.lt
theorem IxAt.cells (h : IxAt w b page op m v ex al ix) : w.cell? ⟨b, 0, none⟩ = some (.int .i64 page) ∧ w.cell? ⟨b, 1, none⟩ = some (.int .u8 op) ∧ w.cell? ⟨b, 2, none⟩ = some (.string (sB m)) ∧ w.cell? ⟨b, 3, none⟩ = some v ∧ w.cell? ⟨b, 4, none⟩ = some (.string (sB ex)) ∧ w.cell? ⟨b, 5, none⟩ = some (.bool al) ∧ w.cell? ⟨b, 6, none⟩ = some (.int .i64 ix) ∧ ∀ j, w.frozen? ⟨b, j, none⟩ = false :=
  ⟨Lib.cell_of_heap h 0, Lib.cell_of_heap h 1, Lib.cell_of_heap h 2, Lib.cell_of_heap h 3, Lib.cell_of_heap h 4, Lib.cell_of_heap h 5, Lib.cell_of_heap h 6, Lib.frozen_of_heap h⟩
theorem IxAt.apart (h : IxAt w b page op m v ex al ix) {g : Nat} {cur : Array Value} (hg : w.heap[g]? = some (.cells cur 68 (0, 0))) : g ≠ b := by
  rintro rfl
  rw [show w.heap[g]? = _ from h] at hg
  simp at hg
theorem IxAt.set_args (h : IxAt w b page op m v ex al ix) (v' : Value) : IxAt (w.setCell ⟨b, 3, none⟩ v') b page op m v' ex al ix := heap_setCell_same w b 3 _ _ v' h
theorem IxAt.set_extra (h : IxAt w b page op m v ex al ix) (ex' : Str) : IxAt (w.setCell ⟨b, 4, none⟩ (.string (sB ex'))) b page op m v ex' al ix := heap_setCell_same w b 4 _ _ _ h
theorem IxAt.set_alias (h : IxAt w b page op m v ex al ix) (al' : Bool) : IxAt (w.setCell ⟨b, 5, none⟩ (.bool al')) b page op m v ex al' ix := heap_setCell_same w b 5 _ _ _ h
theorem IxAt.set_code (h : IxAt w b page op m v ex al ix) (op' : Int) : IxAt (w.setCell ⟨b, 1, none⟩ (.int .u8 op')) b page op' m v ex al ix := heap_setCell_same w b 1 _ _ _ h
theorem IxAt.other (h : IxAt w b page op m v ex al ix) {g : Nat} (hg : b ≠ g) (j : Nat) (u : Value) : IxAt (w.setCell ⟨g, j, none⟩ u) b page op m v ex al ix := (heap_setCell_other w ⟨g, j, none⟩ b u hg).trans h
end
def repM (ix : Int) : List Tr → List Tr
  | [] => []
  | x :: t => if x = (4, 2, 0) then (5, ix, 0) :: t else x :: repM ix t
theorem repM_set (ix : Int) : ∀ (L : List Tr) (j : Nat), (∃ h : j < L.length, L[j] = (4, 2, 0)) → (∀ k, k < j → ∀ (a : k < L.length), L[k] ≠ (4, 2, 0)) → repM ix L = L.set j (5, ix, 0)
  | [], j, ⟨h, _⟩, _ => by simp at h
  | x :: t, 0, ⟨_, e⟩, _ => by
    simp only [List.getElem_cons_zero] at e
    unfold repM
    rw [if_pos e]
    rfl
  | x :: t, j + 1, ⟨h, e⟩, hk => by
    unfold repM
    have h0 : x ≠ (4, 2, 0) := hk 0 (by omega) (by simp)
    rw [if_neg h0, repM_set ix t j ⟨by simpa using h, by simpa using e⟩ (fun k hkj a => by
      have := hk (k + 1) (by omega) (by simpa using a)
      simpa using this)]
    rfl
theorem repM_len (ix : Int) : ∀ L : List Tr, (repM ix L).length = L.length
  | [] => rfl
  | x :: t => by unfold repM; split <;> simp [repM_len ix t]
structure Fr (w : World) (b : Nat) (v : Value) (w' : World) : Prop where
  size : w.heap.size ≤ w'.heap.size
  same : ∀ k, k < w.heap.size → k ≠ b → v.ownBlock ≠ some k → w'.heap[k]? = w.heap[k]?
theorem Fr.of_below {w w' : World} {b : Nat} {v : Value} (h : Below w.heap.size w w') : Fr w b v w' := ⟨h.size, fun k hk _ _ => h.block k hk⟩
theorem Fr.below {w w' w'' : World} {b : Nat} {v : Value} (h : Fr w b v w') (hb : Below w'.heap.size w' w'') : Fr w b v w'' :=
  ⟨Nat.le_trans h.size hb.size, fun k hk h1 h2 => (hb.block k (Nat.lt_of_lt_of_le hk h.size)).trans (h.same k hk h1 h2)⟩
theorem Fr.set {w w' : World} {b : Nat} {v : Value} (h : Fr w b v w') {p : Addr} (hp : p.block = b ∨ v.ownBlock = some p.block) (u : Value) : Fr w b v (w'.setCell p u) :=
  ⟨by simpa using h.size, fun k hk h1 h2 => (heap_setCell_other w' p k u (fun e => by rcases hp with hp | hp; exact h1 (e.trans hp); exact h2 (by rw [hp, e]))).trans (h.same k hk h1 h2)⟩
def memB (m : Str) (L : List Tr) : Bool := decide ((4, 2, 0) ∈ L) && !decide (m = [74, 80])
def RetMem (w : World) (b B : Nat) (page op : Int) (m : Str) (v : Value) (ex : Str) (al : Bool) (ix : Int) (L : List Tr) (e : Ending) (w' : World) : Prop :=
  e = .returned (.bool (memB m L)) ∧ IxAt w' b page op m v (if memB m L then 100 :: ex else ex) al ix ∧ OwnT w' B v (if memB m L then repM ix L else L) ∧ Below B w w' ∧ Fr w b v w'
theorem repMem_any (b B : Nat) (page op : Int) (m : Str) (v : Value) (ex : Str) (al : Bool) (ix : Int) (L : List Tr) (hL : L.length ≤ 100) (hex : ex.length ≤ 1000) (w : World)
    (X : IxAt w b page op m v ex al ix) (O : OwnT w B v L) (hB : B ≤ b) : Calls Tryz.prog 86 #[.pointer (some ⟨b, 0, none⟩)] w (RetMem w b B page op m v ex al ix L) := by
  obtain ⟨A, cap, rfl, hP, hcap⟩ := O.ops
  obtain ⟨n, hn⟩ : ∃ n, L.length = n := ⟨_, rfl⟩
  rw [hn] at X O hL hcap ⊢
  obtain ⟨x0, x1, x2, x3, x4, x5, x6, x7⟩ := X.cells
  have d3 : w.drew.cell? ⟨b, 3, none⟩ = some (.slice A n cap) := x3
  have IX := fun w' h => indexO_any A cap L (by unfold maxLen; omega) (4, 2, 0) w' h
  rw [hn] at IX
  have XX := Lib.hid X
  have OO := Lib.hid O
  have PP := Lib.hid hP
  have HN := Lib.hid hn
  have HE := Lib.hid hex
  have HBW : Hid (B ≤ w.heap.size) := by have := X.lt; show B ≤ _; omega
  clear X O hP hn hex x0 x1 x2 x3 x4 x5 x6 x7
  go_enter Tryz.func86, Tryz.ntmps86
  go_wp2
  obtain ⟨w1, hw1⟩ : ∃ w1, w.drew = w1 := ⟨_, rfl⟩
  rw [hw1] at d3
  have D3 := Lib.hid d3
  have X1 : Hid (IxAt w1 b page op m (.slice A n cap) ex al ix) := by rw [← hw1]; exact XX.out
  have O1 : Hid (OwnT w1 B (.slice A n cap) L) := by rw [← hw1]; exact OO.out.below (below_drewN w _ 1)
  have P1 : Hid (OpsP w1 A L) := by rw [← hw1]; exact PP.out.below (below_drewN w _ 1)
  have B1 : Hid (Below w.heap.size w w1) := by rw [← hw1]; exact below_drewN w _ 1
  refine Mixed.wp_region_mixed (fun w' => w'.cell? ⟨b, 3, none⟩ = some (.slice A n cap)) 7 [(0, true), (1, true), (2, true), (3, true), (4, true), (5, true), (6, false)] (by kernel_rfl) (by kernel_rfl) (by rw [hw1]; exact D3.out) ?_
  rw [hw1]
  clear XX OO PP hw1 D3 d3
  refine Mixed.wpMix_move rfl (by kernel_rfl) _ rfl _ rfl ?_
  refine Mixed.wpMix_pure rfl (by kernel_rfl) (.pointer (some ⟨b, 0, none⟩)) (fun w h => by go_simp; try rfl) ?_
  refine Mixed.wpMix_pure rfl (by kernel_rfl) (.pointer (some ⟨b, 0, none⟩)) (fun w h => by go_simp; try rfl) ?_
  refine Mixed.wpMix_pure rfl (by kernel_rfl) (.pointer (some ⟨b, 2, none⟩)) (fun w h => by go_simp; try rfl) ?_
  refine Mixed.wpMix_pure rfl (by kernel_rfl) (.pointer (some ⟨b, 3, none⟩)) (fun w h => by go_simp; try rfl) ?_
  refine Mixed.wpMix_pure rfl (by kernel_rfl) (.slice A n cap) (fun w h => by go_simp; try rfl) ?_
  refine Mixed.wpMix_loudG rfl (by kernel_rfl) ?_
  go_wp2_with fail
  refine (tpointer_any 2 w1).mono ?_
  rintro e w2 ⟨rfl, hb2⟩
  have X2 := Lib.hid (X1.out.all hb2)
  have O2 := Lib.hid (O1.out.below hb2)
  have P2 := Lib.hid (P1.out.below hb2)
  have B2 : Hid (Below w.heap.size w w2) := B1.out.trans (hb2.mono B1.out.size)
  have xx := (X2.out.cells).2.2.2.1
  clear X1 O1 P1 B1 hb2
  go_wp2
  refine ⟨xx, ?_⟩
  clear xx
  simp only [Mixed.wpMix, List.drop_succ_cons, List.drop_zero, trV]
  have IX2 := IX w2 P2.out
  clear IX
  go_wp2_with fail
  refine IX2.mono ?_
  rintro e w3 ⟨hres, hb3⟩
  have X3 := Lib.hid (X2.out.all hb3)
  have O3 := Lib.hid (O2.out.below hb3)
  have B3 : Hid (Below w.heap.size w w3) := B2.out.trans (hb3.mono B2.out.size)
  clear X2 O2 P2 B2 hb3 IX2
  have hbw : b < w3.heap.size := X3.out.lt
  rcases hres with ⟨hno, rfl⟩ | ⟨j, hj, hfirst, rfl⟩
  · have M : Hid (memB m L = false) := by show memB m L = _; unfold memB; rw [decide_eq_false hno]; rfl
    clear hno
    go_wp2
    go_ret
    refine ⟨ret_bool M.out.symm, ?_, ?_, B3.out.mono HBW.out, Fr.of_below B3.out⟩
    · rw [M.out]; exact X3.out
    · rw [M.out]; exact O3.out
  · obtain ⟨hjL, hje⟩ := hj
    have hmem : (4, 2, 0) ∈ L := by rw [← hje]; exact List.getElem_mem hjL
    have RS : Hid (repM ix L = L.set j (5, ix, 0)) := repM_set ix L j ⟨hjL, hje⟩ hfirst
    have hjn : j < n := by rw [← HN.out]; exact hjL
    obtain ⟨g, cap', hv, hBg, ⟨cur, hcur⟩, -, hfz⟩ := O3.out.form (by omega)
    rw [HN.out] at hv
    cases hv
    obtain ⟨x0, x1, x2, x3, x4, x5, x6, x7⟩ := X3.out.cells
    have hgb : g ≠ b := X3.out.apart hcur
    have HC := Lib.hid hcur
    by_cases hm : m = [74, 80]
    · have M : Hid (memB m L = false) := by show memB m L = _; unfold memB; rw [decide_eq_true hm]; simp
      have ht : ((sB m).toList == [74, 80]) = true := by rw [sB_eq]; exact decide_eq_true hm
      clear hm hmem hje hjL hfirst hcur
      go_wp2
      go_ret
      refine ⟨ret_bool M.out.symm, ?_, ?_, B3.out.mono HBW.out, Fr.of_below B3.out⟩
      · rw [M.out]; exact X3.out
      · rw [M.out]; exact O3.out
    · have M : Hid (memB m L = true) := by show memB m L = _; unfold memB; rw [decide_eq_true hmem, decide_eq_false hm]; rfl
      have ht : ((sB m).toList == [74, 80]) = false := by rw [sB_eq]; exact decide_eq_false hm
      have hsz : (⟨#[100]⟩ : ByteArray).size + (sB ex).size ≤ 2000 := by have := HE.out; rw [sB_size]; show 1 + _ ≤ _; omega
      clear hm hmem hje hjL hfirst hcur
      go_wp2
      go_still_tail 12, (by kernel_rfl)
      change wpList _ _ _ _ _ w3.drew
      obtain ⟨w4, hw4⟩ : ∃ w4, w3.drew = w4 := ⟨_, rfl⟩
      have X4 : Hid (IxAt w4 b page op m (.slice (some ⟨g, 0, none⟩) n cap) ex al ix) := by rw [← hw4]; exact X3.out
      have O4 : Hid (OwnT w4 B (.slice (some ⟨g, 0, none⟩) n cap) L) := by rw [← hw4]; exact O3.out.below (below_drewN w3 _ 1)
      have B4 : Hid (Below w.heap.size w w4) := by rw [← hw4]; exact B3.out.trans (below_drewN w3 _ 1)
      rw [hw4]
      clear X3 O3 B3 x0 x1 x2 x3 x4 x5 x6 x7 hfz HC hw4 hbw
      obtain ⟨x0, x1, x2, x3, x4, x5, x6, x7⟩ := X4.out.cells
      obtain ⟨g', cap'', hv, -, -, hcs, hfz⟩ := O4.out.form (by have := HN.out; omega)
      rw [HN.out] at hv
      cases hv
      obtain ⟨g0, g1, g2⟩ := hcs j (by rw [HN.out]; exact hjn)
      clear hcs
      have O5 : Hid (OwnT (((w4.setCell ⟨g, j * 3, none⟩ (.int .i64 5)).setCell ⟨g, j * 3 + 1, none⟩ (.int .i64 ix)).setCell ⟨g, j * 3 + 2, none⟩ (.int .i64 0)) B (.slice (some ⟨g, 0, none⟩) n cap) (L.set j (5, ix, 0))) := O4.out.put3 HN.out j hjn (5, ix, 0)
      have X5 : Hid (IxAt (((w4.setCell ⟨g, j * 3, none⟩ (.int .i64 5)).setCell ⟨g, j * 3 + 1, none⟩ (.int .i64 ix)).setCell ⟨g, j * 3 + 2, none⟩ (.int .i64 0)) b page op m (.slice (some ⟨g, 0, none⟩) n cap) ex al ix) := ((X4.out.other hgb.symm _ _).other hgb.symm _ _).other hgb.symm _ _
      have B5 : Hid (Below B w (((w4.setCell ⟨g, j * 3, none⟩ (.int .i64 5)).setCell ⟨g, j * 3 + 1, none⟩ (.int .i64 ix)).setCell ⟨g, j * 3 + 2, none⟩ (.int .i64 0))) :=
        (((B4.out.mono HBW.out).setCell (p := ⟨g, j * 3, none⟩) (by simp; omega) _).setCell (p := ⟨g, j * 3 + 1, none⟩) (by simp; omega) _).setCell (p := ⟨g, j * 3 + 2, none⟩) (by simp; omega) _
      go_wp2
      have EX : (⟨#[100]⟩ : ByteArray) ++ sB ex = sB (100 :: ex) := sB_append [100] ex
      rw [EX]
      go_ret
      refine ⟨ret_bool M.out.symm, ?_, ?_, B5.out.setCell (p := ⟨b, 4, none⟩) hB _, ((((Fr.of_below B4.out).set (p := ⟨g, j * 3, none⟩) (.inr rfl) _).set (p := ⟨g, j * 3 + 1, none⟩) (.inr rfl) _).set (p := ⟨g, j * 3 + 2, none⟩) (.inr rfl) _).set (p := ⟨b, 4, none⟩) (.inl rfl) _⟩
      · rw [M.out]; exact X5.out.set_extra (100 :: ex)
      · rw [M.out]
        show OwnT _ _ _ (repM ix L)
        rw [RS.out]
        exact row_set_ne O5.out (p := ⟨b, 4, none⟩) (fun g' e => by cases e; exact hgb) _
end Go.Proofs.YtbbpkoaeedkncaaGreatDoor
