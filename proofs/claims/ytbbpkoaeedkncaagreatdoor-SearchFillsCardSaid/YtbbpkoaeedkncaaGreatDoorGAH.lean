/-
  TbF, TbG.
-/
import Derived.Test.YtbbpkoaeedkncaaGreatDoorGAG
import Derived.Test.YtbbpkoaeedkncaaGreatDoorGAA
import Derived.StillTailTactics
set_option linter.all false
set_option maxRecDepth 100000
set_option maxHeartbeats 4000000
namespace Go.Proofs.YtbbpkoaeedkncaaGreatDoor
open Go.RowKit Go.Shelf
def trV (x : Tr) : Value := .agg #[.int .i64 x.1, .int .i64 x.2.1, .int .i64 x.2.2]
def RetTr (w : World) (x : Tr) (e : Ending) (w' : World) : Prop := e = .returned (trV x) ∧ Below w.heap.size w w'
def OpdAt (w : World) (n : Nat) : Prop := w.heap[n]? = some (.cells #[.int .i64 0, .int .i64 0, .int .i64 0] 68 (0, 0))
theorem OpdAt.below {w w' : World} {n : Nat} (h : OpdAt w n) (hb : Below w.heap.size w w') : OpdAt w' n := (hb.block n (Array.getElem?_eq_some_iff.1 h).1).trans h
theorem OpdAt.belowN {w w' : World} {n m : Nat} (h : OpdAt w n) (hb : Below m w w') (hn : n < m) : OpdAt w' n := (hb.block n hn).trans h
theorem OpdAt.cells {w : World} {n : Nat} (h : OpdAt w n) : w.cell? ⟨n, 0, none⟩ = some (.int .i64 0) ∧ w.cell? ⟨n, 1, none⟩ = some (.int .i64 0) ∧ w.cell? ⟨n, 2, none⟩ = some (.int .i64 0) ∧ ∀ j, w.frozen? ⟨n, j, none⟩ = false :=
  ⟨Lib.cell_of_heap h 0, Lib.cell_of_heap h 1, Lib.cell_of_heap h 2, Lib.frozen_of_heap h⟩
theorem opd_set {w : World} {n : Nat} (h : OpdAt w n) (a b c : Int) : ∃ w', ((w.setCell ⟨n, 0, none⟩ (.int .i64 a)).setCell ⟨n, 1, none⟩ (.int .i64 b)).setCell ⟨n, 2, none⟩ (.int .i64 c) = w' ∧
    w'.heap[n]? = some (.cells #[.int .i64 a, .int .i64 b, .int .i64 c] 68 (0, 0)) ∧ Below n w w' ∧ w'.heap.size = w.heap.size :=
  ⟨_, rfl, set3 h _ _ _, ((((Below.refl n w).setCell (p := ⟨n, 0, none⟩) (Nat.le_refl _) _).setCell (p := ⟨n, 1, none⟩) (Nat.le_refl _) _).setCell (p := ⟨n, 2, none⟩) (Nat.le_refl _) _), by simp⟩
theorem code_start (w : World) (p : Pat) (op : Int) : ∃ w0, (w.alloc (.cells #[.string (sB p.1), .string (sB p.2), .int .u8 op] 57)).alloc (.cells #[.int .i64 0, .int .i64 0, .int .i64 0] 68) = w0 ∧
    OpdAt w0 (w.heap.size + 1) ∧ Below w.heap.size w w0 ∧ w0.heap.size = w.heap.size + 2 ∧ w0.heap[w.heap.size]? = some (.cells #[.string (sB p.1), .string (sB p.2), .int .u8 op] 57 (0, 0)) := by
  refine ⟨_, rfl, ?_, ((Below.refl _ w).alloc (Nat.le_refl _) _).alloc (by simp) _, by simp, (Below.heap_alloc _ _ _ (by simp)).trans (World.alloc_heap_new w _)⟩
  have h := World.alloc_heap_new (w.alloc (.cells #[.string (sB p.1), .string (sB p.2), .int .u8 op] 57)) (.cells #[.int .i64 0, .int .i64 0, .int .i64 0] 68)
  rw [World.size_alloc] at h
  exact h
theorem register_any (r : Int) (w : World) : Calls Tryz.prog 92 #[.int .i64 r] w (RetTr w (1, r, 0)) := by
  go_enter Tryz.func92, Tryz.ntmps92
  go_wp2
  refine bodyPost_ret (v := trV (1, r, 0)) ?_ rfl ?_
  · simp [results, Tryz.results92, go_sem, trV]
  · exact ⟨rfl, (Below.refl _ _).alloc (Nat.le_refl _) _⟩
theorem half_any (r : Int) (w : World) : Calls Tryz.prog 135 #[.int .i64 r] w (RetTr w (2, r, 0)) := by
  go_enter Tryz.func135, Tryz.ntmps135
  go_wp2
  refine bodyPost_ret (v := trV (2, r, 0)) ?_ rfl ?_
  · simp [results, Tryz.results135, go_sem, trV]
  · exact ⟨rfl, (Below.refl _ _).alloc (Nat.le_refl _) _⟩
theorem pair_any (r : Int) (w : World) : Calls Tryz.prog 116 #[.int .i64 r] w (RetTr w (3, r, 0)) := by
  go_enter Tryz.func116, Tryz.ntmps116
  go_wp2
  refine bodyPost_ret (v := trV (3, r, 0)) ?_ rfl ?_
  · simp [results, Tryz.results116, go_sem, trV]
  · exact ⟨rfl, (Below.refl _ _).alloc (Nat.le_refl _) _⟩
theorem tpointer_any (r : Int) (w : World) : Calls Tryz.prog 114 #[.int .i64 r] w (RetTr w (4, r, 0)) := by
  go_enter Tryz.func114, Tryz.ntmps114
  go_wp2
  refine bodyPost_ret (v := trV (4, r, 0)) ?_ rfl ?_
  · simp [results, Tryz.results114, go_sem, trV]
  · exact ⟨rfl, (Below.refl _ _).alloc (Nat.le_refl _) _⟩
theorem value_any (r : Int) (w : World) : Calls Tryz.prog 119 #[.int .i64 r] w (RetTr w (6, 0, r)) := by
  go_enter Tryz.func119, Tryz.ntmps119
  go_wp2
  refine bodyPost_ret (v := trV (6, 0, r)) ?_ rfl ?_
  · simp [results, Tryz.results119, go_sem, trV]
  · exact ⟨rfl, (Below.refl _ _).alloc (Nat.le_refl _) _⟩
theorem cpair_any (p : Pat) (hl : p.1.length = 8) (op : Int) (h0 : 0 ≤ op) (h1 : op ≤ 255) (c : UInt8) (w : World) :
    Calls Tryz.prog 137 #[codeV p op, .int .u8 (c.toNat : Int)] w (RetTr w (3, numP p.1 op c, 0)) := by
  unfold codeV
  obtain ⟨w0, hw0, S0, B0, Z0, C0⟩ := code_start w p op
  obtain ⟨n, hn⟩ : ∃ n, w.heap.size = n := ⟨_, rfl⟩
  rw [hn] at S0 B0 Z0 C0
  have k0 := Lib.cell_of_heap C0 0
  have k1 := Lib.cell_of_heap C0 1
  have k2 := Lib.cell_of_heap C0 2
  have hnum := number_any p.1 p.2 hl op h0 h1 c w0
  have S0 := Lib.hid S0
  have B0 := Lib.hid B0
  have HN := Lib.hid hn
  clear C0
  go_enter Tryz.func137, Tryz.ntmps137
  go_wp2_with fail
  refine hnum.mono ?_
  rintro e w1 ⟨rfl, hb1⟩
  have S1 : Hid (OpdAt w1 (n + 1)) := S0.out.below hb1
  have B1 : Hid (Below n w w1) := B0.out.trans (hb1.mono (by omega))
  have Z1 : Hid (n + 2 ≤ w1.heap.size) := by have := hb1.size; show _ ≤ _; omega
  clear hb1 hnum hw0 S0 B0 Z0 hn k0 k1 k2
  go_wp2_with fail
  refine (pair_any _ w1).mono ?_
  rintro e w2 ⟨rfl, hb2⟩
  have S2 : Hid (OpdAt w2 (n + 1)) := S1.out.below hb2
  have B2 : Hid (Below n w w2) := B1.out.trans (hb2.mono (by have := Z1.out; omega))
  clear hb2 S1 B1 Z1
  simp only [trV]
  obtain ⟨c0, c1, c2, c3⟩ := S2.out.cells
  go_wp2
  obtain ⟨w3, hw3, hc3, hb3, -⟩ := opd_set S2.out 3 (numP p.1 op c) 0
  rw [hw3]
  have r0 := Lib.cell_of_heap hc3 0
  have r1 := Lib.cell_of_heap hc3 1
  have r2 := Lib.cell_of_heap hc3 2
  refine bodyPost_ret (v := trV (3, (numP p.1 op c), 0)) ?_ rfl ?_
  · simp [results, Tryz.results137, go_sem, r0, r1, r2, trV]
  · exact ⟨rfl, by rw [HN.out]; exact B2.out.trans (hb3.mono (by omega))⟩
theorem cbit_any (p : Pat) (hl : p.1.length = 8) (op : Int) (h0 : 0 ≤ op) (h1 : op ≤ 255) (c : UInt8) (w : World) :
    Calls Tryz.prog 140 #[codeV p op, .int .u8 (c.toNat : Int)] w (RetTr w (6, 0, numP p.1 op c)) := by
  unfold codeV
  obtain ⟨w0, hw0, S0, B0, Z0, C0⟩ := code_start w p op
  obtain ⟨n, hn⟩ : ∃ n, w.heap.size = n := ⟨_, rfl⟩
  rw [hn] at S0 B0 Z0 C0
  have k0 := Lib.cell_of_heap C0 0
  have k1 := Lib.cell_of_heap C0 1
  have k2 := Lib.cell_of_heap C0 2
  have hnum := number_any p.1 p.2 hl op h0 h1 c w0
  have S0 := Lib.hid S0
  have B0 := Lib.hid B0
  have HN := Lib.hid hn
  clear C0
  go_enter Tryz.func140, Tryz.ntmps140
  go_wp2_with fail
  refine hnum.mono ?_
  rintro e w1 ⟨rfl, hb1⟩
  have S1 : Hid (OpdAt w1 (n + 1)) := S0.out.below hb1
  have B1 : Hid (Below n w w1) := B0.out.trans (hb1.mono (by omega))
  have Z1 : Hid (n + 2 ≤ w1.heap.size) := by have := hb1.size; show _ ≤ _; omega
  clear hb1 hnum hw0 S0 B0 Z0 hn k0 k1 k2
  go_wp2_with fail
  refine (value_any _ w1).mono ?_
  rintro e w2 ⟨rfl, hb2⟩
  have S2 : Hid (OpdAt w2 (n + 1)) := S1.out.below hb2
  have B2 : Hid (Below n w w2) := B1.out.trans (hb2.mono (by have := Z1.out; omega))
  clear hb2 S1 B1 Z1
  simp only [trV]
  obtain ⟨c0, c1, c2, c3⟩ := S2.out.cells
  go_wp2
  obtain ⟨w3, hw3, hc3, hb3, -⟩ := opd_set S2.out 6 0 (numP p.1 op c)
  rw [hw3]
  have r0 := Lib.cell_of_heap hc3 0
  have r1 := Lib.cell_of_heap hc3 1
  have r2 := Lib.cell_of_heap hc3 2
  refine bodyPost_ret (v := trV (6, 0, (numP p.1 op c))) ?_ rfl ?_
  · simp [results, Tryz.results140, go_sem, r0, r1, r2, trV]
  · exact ⟨rfl, by rw [HN.out]; exact B2.out.trans (hb3.mono (by omega))⟩
theorem ccond_any (p : Pat) (hl : p.1.length = 8) (op : Int) (h0 : 0 ≤ op) (h1 : op ≤ 255) (c : UInt8) (w : World) :
    Calls Tryz.prog 139 #[codeV p op, .int .u8 (c.toNat : Int)] w (RetTr w (8, numP p.1 op c, 0)) := by
  unfold codeV
  obtain ⟨w0, hw0, S0, B0, Z0, C0⟩ := code_start w p op
  obtain ⟨n, hn⟩ : ∃ n, w.heap.size = n := ⟨_, rfl⟩
  rw [hn] at S0 B0 Z0 C0
  have k0 := Lib.cell_of_heap C0 0
  have k1 := Lib.cell_of_heap C0 1
  have k2 := Lib.cell_of_heap C0 2
  have hnum := number_any p.1 p.2 hl op h0 h1 c w0
  have S0 := Lib.hid S0
  have B0 := Lib.hid B0
  have HN := Lib.hid hn
  clear C0
  go_enter Tryz.func139, Tryz.ntmps139
  go_wp2_with fail
  refine hnum.mono ?_
  rintro e w1 ⟨rfl, hb1⟩
  have S1 : Hid (OpdAt w1 (n + 1)) := S0.out.below hb1
  have B1 : Hid (Below n w w1) := B0.out.trans (hb1.mono (by omega))
  have Z1 : Hid (n + 2 ≤ w1.heap.size) := by have := hb1.size; show _ ≤ _; omega
  clear hb1 hnum hw0 S0 B0 Z0 hn k0 k1 k2
  obtain ⟨c0, c1, c2, c3⟩ := S1.out.cells
  go_wp2
  obtain ⟨w3, hw3, hc3, hb3, -⟩ := opd_set S1.out 8 (numP p.1 op c) 0
  rw [hw3]
  have r0 := Lib.cell_of_heap hc3 0
  have r1 := Lib.cell_of_heap hc3 1
  have r2 := Lib.cell_of_heap hc3 2
  refine bodyPost_ret (v := trV (8, (numP p.1 op c), 0)) ?_ rfl ?_
  · simp [results, Tryz.results139, go_sem, r0, r1, r2, trV]
  · exact ⟨rfl, by rw [HN.out]; exact B1.out.trans (hb3.mono (by omega))⟩
theorem crestart_any (p : Pat) (hl : p.1.length = 8) (op : Int) (h0 : 0 ≤ op) (h1 : op ≤ 255) (c : UInt8) (hm : 0 ≤ numP p.1 op c) (hM : numP p.1 op c ≤ 255) (w : World) :
    Calls Tryz.prog 141 #[codeV p op, .int .u8 (c.toNat : Int)] w (RetTr w (6, 0, 8 * numP p.1 op c)) := by
  unfold codeV
  obtain ⟨w0, hw0, S0, B0, Z0, C0⟩ := code_start w p op
  obtain ⟨n, hn⟩ : ∃ n, w.heap.size = n := ⟨_, rfl⟩
  rw [hn] at S0 B0 Z0 C0
  have k0 := Lib.cell_of_heap C0 0
  have k1 := Lib.cell_of_heap C0 1
  have k2 := Lib.cell_of_heap C0 2
  have hnum := number_any p.1 p.2 hl op h0 h1 c w0
  have S0 := Lib.hid S0
  have B0 := Lib.hid B0
  have HN := Lib.hid hn
  clear C0
  go_enter Tryz.func141, Tryz.ntmps141
  go_wp2_with fail
  refine hnum.mono ?_
  rintro e w1 ⟨rfl, hb1⟩
  have S1 : Hid (OpdAt w1 (n + 1)) := S0.out.below hb1
  have B1 : Hid (Below n w w1) := B0.out.trans (hb1.mono (by omega))
  have Z1 : Hid (n + 2 ≤ w1.heap.size) := by have := hb1.size; show _ ≤ _; omega
  clear hb1 hnum hw0 S0 B0 Z0 hn k0 k1 k2
  go_wp2_with fail
  refine (value_any _ w1).mono ?_
  rintro e w2 ⟨rfl, hb2⟩
  have S2 : Hid (OpdAt w2 (n + 1)) := S1.out.below hb2
  have B2 : Hid (Below n w w2) := B1.out.trans (hb2.mono (by have := Z1.out; omega))
  clear hb2 S1 B1 Z1
  simp only [trV]
  obtain ⟨c0, c1, c2, c3⟩ := S2.out.cells
  go_wp2
  obtain ⟨w3, hw3, hc3, hb3, -⟩ := opd_set S2.out 6 0 (8 * (numP p.1 op c))
  rw [hw3]
  have r0 := Lib.cell_of_heap hc3 0
  have r1 := Lib.cell_of_heap hc3 1
  have r2 := Lib.cell_of_heap hc3 2
  refine bodyPost_ret (v := trV (6, 0, (8 * (numP p.1 op c)))) ?_ rfl ?_
  · simp [results, Tryz.results141, go_sem, r0, r1, r2, trV]
  · exact ⟨rfl, by rw [HN.out]; exact B2.out.trans (hb3.mono (by omega))⟩
def regT (n : Int) : Tr := if n = 6 then (4, 2, 0) else (1, n, 0)
def pushT (n : Int) : Tr := if n = 3 then (3, 4, 0) else (3, n, 0)
theorem cregister_any (p : Pat) (hl : p.1.length = 8) (op : Int) (h0 : 0 ≤ op) (h1 : op ≤ 255) (c : UInt8) (w : World) :
    Calls Tryz.prog 136 #[codeV p op, .int .u8 (c.toNat : Int)] w (RetTr w (regT (numP p.1 op c))) := by
  unfold codeV
  obtain ⟨w0, hw0, S0, B0, Z0, C0⟩ := code_start w p op
  obtain ⟨n, hn⟩ : ∃ n, w.heap.size = n := ⟨_, rfl⟩
  rw [hn] at S0 B0 Z0 C0
  have k0 := Lib.cell_of_heap C0 0
  have k1 := Lib.cell_of_heap C0 1
  have k2 := Lib.cell_of_heap C0 2
  have hnum := number_any p.1 p.2 hl op h0 h1 c w0
  have S0 := Lib.hid S0
  have B0 := Lib.hid B0
  have HN := Lib.hid hn
  clear C0
  go_enter Tryz.func136, Tryz.ntmps136
  go_wp2_with fail
  refine hnum.mono ?_
  rintro e w1 ⟨rfl, hb1⟩
  have S1 : Hid (OpdAt w1 (n + 1)) := S0.out.below hb1
  have B1 : Hid (Below n w w1) := B0.out.trans (hb1.mono (by omega))
  have Z1 : Hid (n + 2 ≤ w1.heap.size) := by have := hb1.size; show _ ≤ _; omega
  clear hb1 hnum hw0 S0 B0 Z0 hn k0 k1 k2
  by_cases hk : numP p.1 op c = 6
  · have E : Hid (regT (numP p.1 op c) = (4, 2, 0)) := by show regT _ = _; unfold regT; rw [if_pos hk]
    rw [hk]
    go_wp2_with fail
    refine (tpointer_any _ w1).mono ?_
    rintro e w2 ⟨rfl, hb2⟩
    have S2 : Hid (OpdAt w2 (n + 1)) := S1.out.below hb2
    have B2 : Hid (Below n w w2) := B1.out.trans (hb2.mono (by have := Z1.out; omega))
    clear hb2 S1 B1 Z1
    simp only [trV]
    obtain ⟨c0, c1, c2, c3⟩ := S2.out.cells
    go_wp2
    obtain ⟨w3, hw3, hc3, hb3, -⟩ := opd_set S2.out 4 2 0
    rw [hw3]
    have r0 := Lib.cell_of_heap hc3 0
    have r1 := Lib.cell_of_heap hc3 1
    have r2 := Lib.cell_of_heap hc3 2
    refine bodyPost_ret (v := trV (4, 2, 0)) ?_ rfl ?_
    · simp [results, Tryz.results136, go_sem, r0, r1, r2, trV]
    · exact ⟨by rw [E.out], by rw [HN.out]; exact B2.out.trans (hb3.mono (by omega))⟩
  · have E : Hid (regT (numP p.1 op c) = (1, (numP p.1 op c), 0)) := by show regT _ = _; unfold regT; rw [if_neg hk]
    obtain ⟨m, hm⟩ : ∃ m, numP p.1 op c = m := ⟨_, rfl⟩
    have E2 : Hid (regT (numP p.1 op c) = (1, m, 0)) := by have h := E.out; rw [hm] at h ⊢; exact h
    rw [hm] at hk ⊢
    clear hm
    go_wp2_with fail
    refine (register_any _ w1).mono ?_
    rintro e w2 ⟨rfl, hb2⟩
    have S2 : Hid (OpdAt w2 (n + 1)) := S1.out.below hb2
    have B2 : Hid (Below n w w2) := B1.out.trans (hb2.mono (by have := Z1.out; omega))
    clear hb2 S1 B1 Z1
    simp only [trV]
    obtain ⟨c0, c1, c2, c3⟩ := S2.out.cells
    go_wp2
    obtain ⟨w3, hw3, hc3, hb3, -⟩ := opd_set S2.out 1 m 0
    rw [hw3]
    have r0 := Lib.cell_of_heap hc3 0
    have r1 := Lib.cell_of_heap hc3 1
    have r2 := Lib.cell_of_heap hc3 2
    refine bodyPost_ret (v := trV (1, m, 0)) ?_ rfl ?_
    · simp [results, Tryz.results136, go_sem, r0, r1, r2, trV]
    · exact ⟨by rw [E2.out], by rw [HN.out]; exact B2.out.trans (hb3.mono (by omega))⟩
theorem cpushed_any (p : Pat) (hl : p.1.length = 8) (op : Int) (h0 : 0 ≤ op) (h1 : op ≤ 255) (c : UInt8) (w : World) :
    Calls Tryz.prog 138 #[codeV p op, .int .u8 (c.toNat : Int)] w (RetTr w (pushT (numP p.1 op c))) := by
  unfold codeV
  obtain ⟨w0, hw0, S0, B0, Z0, C0⟩ := code_start w p op
  obtain ⟨n, hn⟩ : ∃ n, w.heap.size = n := ⟨_, rfl⟩
  rw [hn] at S0 B0 Z0 C0
  have k0 := Lib.cell_of_heap C0 0
  have k1 := Lib.cell_of_heap C0 1
  have k2 := Lib.cell_of_heap C0 2
  have hnum := number_any p.1 p.2 hl op h0 h1 c w0
  have S0 := Lib.hid S0
  have B0 := Lib.hid B0
  have HN := Lib.hid hn
  clear C0
  go_enter Tryz.func138, Tryz.ntmps138
  go_wp2_with fail
  refine hnum.mono ?_
  rintro e w1 ⟨rfl, hb1⟩
  have S1 : Hid (OpdAt w1 (n + 1)) := S0.out.below hb1
  have B1 : Hid (Below n w w1) := B0.out.trans (hb1.mono (by omega))
  have Z1 : Hid (n + 2 ≤ w1.heap.size) := by have := hb1.size; show _ ≤ _; omega
  clear hb1 hnum hw0 S0 B0 Z0 hn k0 k1 k2
  by_cases hk : numP p.1 op c = 3
  · have E : Hid (pushT (numP p.1 op c) = (3, 4, 0)) := by show pushT _ = _; unfold pushT; rw [if_pos hk]
    rw [hk]
    go_wp2_with fail
    refine (pair_any _ w1).mono ?_
    rintro e w2 ⟨rfl, hb2⟩
    have S2 : Hid (OpdAt w2 (n + 1)) := S1.out.below hb2
    have B2 : Hid (Below n w w2) := B1.out.trans (hb2.mono (by have := Z1.out; omega))
    clear hb2 S1 B1 Z1
    simp only [trV]
    obtain ⟨c0, c1, c2, c3⟩ := S2.out.cells
    go_wp2
    obtain ⟨w3, hw3, hc3, hb3, -⟩ := opd_set S2.out 3 4 0
    rw [hw3]
    have r0 := Lib.cell_of_heap hc3 0
    have r1 := Lib.cell_of_heap hc3 1
    have r2 := Lib.cell_of_heap hc3 2
    refine bodyPost_ret (v := trV (3, 4, 0)) ?_ rfl ?_
    · simp [results, Tryz.results138, go_sem, r0, r1, r2, trV]
    · exact ⟨by rw [E.out], by rw [HN.out]; exact B2.out.trans (hb3.mono (by omega))⟩
  · have E : Hid (pushT (numP p.1 op c) = (3, (numP p.1 op c), 0)) := by show pushT _ = _; unfold pushT; rw [if_neg hk]
    obtain ⟨m, hm⟩ : ∃ m, numP p.1 op c = m := ⟨_, rfl⟩
    have E2 : Hid (pushT (numP p.1 op c) = (3, m, 0)) := by have h := E.out; rw [hm] at h ⊢; exact h
    rw [hm] at hk ⊢
    clear hm
    go_wp2_with fail
    refine (pair_any _ w1).mono ?_
    rintro e w2 ⟨rfl, hb2⟩
    have S2 : Hid (OpdAt w2 (n + 1)) := S1.out.below hb2
    have B2 : Hid (Below n w w2) := B1.out.trans (hb2.mono (by have := Z1.out; omega))
    clear hb2 S1 B1 Z1
    simp only [trV]
    obtain ⟨c0, c1, c2, c3⟩ := S2.out.cells
    go_wp2
    obtain ⟨w3, hw3, hc3, hb3, -⟩ := opd_set S2.out 3 m 0
    rw [hw3]
    have r0 := Lib.cell_of_heap hc3 0
    have r1 := Lib.cell_of_heap hc3 1
    have r2 := Lib.cell_of_heap hc3 2
    refine bodyPost_ret (v := trV (3, m, 0)) ?_ rfl ?_
    · simp [results, Tryz.results138, go_sem, r0, r1, r2, trV]
    · exact ⟨by rw [E2.out], by rw [HN.out]; exact B2.out.trans (hb3.mono (by omega))⟩
end Go.Proofs.YtbbpkoaeedkncaaGreatDoor
namespace Go.Proofs.YtbbpkoaeedkncaaGreatDoor
open Go.RowKit Go.Shelf
theorem bit_and (x : Nat) (h : x < 256) : bits .and .u8 (x : Int) 1 = ((x % 2 : Nat) : Int) := by
  have : ∀ y : Fin 256, bits .and .u8 (y.val : Int) 1 = ((y.val % 2 : Nat) : Int) := by decide +kernel
  exact this ⟨x, h⟩
theorem bit_or (o b : Nat) (h : o < 128) (hb : b < 2) : bits .or .i64 (wrap64 ((o : Int) * 2)) (wrap64 (b : Int)) = ((2 * o + b : Nat) : Int) := by
  have : ∀ (o : Fin 128) (b : Fin 2), bits .or .i64 (wrap64 ((o.val : Int) * 2)) (wrap64 (b.val : Int)) = ((2 * o.val + b.val : Nat) : Int) := by decide +kernel
  exact this ⟨o, h⟩ ⟨b, hb⟩
def numN (l : Str) (n : Nat) (c : UInt8) : Nat → Nat
  | 0 => 0
  | k + 1 => if l[k]?.getD 0 = c then 2 * numN l n c k + n / 2 ^ (7 - k) % 2 else numN l n c k
theorem numF_eq (l : Str) (n : Nat) (hn : n < 256) (c : UInt8) : ∀ k, k ≤ 8 → numF l (n : Int) c k = (numN l n c k : Nat) ∧ numN l n c k < 2 ^ k
  | 0, _ => ⟨rfl, Nat.one_pos⟩
  | k + 1, h => by
    obtain ⟨h1, h2⟩ := numF_eq l n hn c k (by omega)
    unfold numF numN
    have h3 : numN l n c k < 2 ^ 7 := Nat.lt_of_lt_of_le h2 (Nat.pow_le_pow_right (by decide) (by omega))
    split
    · have e : (n : Int) / 2 ^ (7 - k) = ((n / 2 ^ (7 - k) : Nat) : Int) := by simp
      have hle : n / 2 ^ (7 - k) < 256 := Nat.lt_of_le_of_lt (Nat.div_le_self _ _) hn
      rw [h1, e, bit_and _ hle, bit_or _ _ (by omega) (by omega)]
      refine ⟨rfl, ?_⟩
      rw [Nat.pow_succ]
      omega
    · exact ⟨h1, by rw [Nat.pow_succ]; omega⟩
theorem numP_eq (l : Str) (n : Nat) (hn : n < 256) (c : UInt8) : numP l (n : Int) c = (numN l n c 8 : Nat) := (numF_eq l n hn c 8 (Nat.le_refl _)).1
theorem numP_bd (l : Str) (op : Int) (h0 : 0 ≤ op) (h1 : op ≤ 255) (c : UInt8) : 0 ≤ numP l op c ∧ numP l op c ≤ 255 := by
  obtain ⟨n, rfl⟩ : ∃ n : Nat, op = n := ⟨op.toNat, by omega⟩
  have h := numF_eq l n (by omega) c 8 (Nat.le_refl _)
  have e : numP l (n : Int) c = (numN l n c 8 : Nat) := h.1
  omega
def fixedT (w : Str) : Tr :=
  if w = [65] then (1, 7, 0) else if w = [68, 69] then (3, 1, 0) else if w = [72, 76] then (3, 2, 0) else if w = [83, 80] then (3, 3, 0) else if w = [65, 70] then (3, 4, 0) else
  if w = [65, 70, 39] then (3, 7, 0) else if w = [40, 66, 67, 41] then (4, 0, 0) else if w = [40, 68, 69, 41] then (4, 1, 0) else if w = [40, 72, 76, 41] then (4, 2, 0) else
  if w = [40, 83, 80, 41] then (4, 3, 0) else if w = [40, 67, 41] then (4, 8, 0) else if w = [73] then (9, 0, 0) else if w = [82] then (9, 1, 0) else (6, 0, ((w.headD 0).toNat : Int) - 48)
def fieldT (c : UInt8) (n : Int) : Option Tr :=
  if c = 114 ∨ c = 115 then some (regT n) else if c = 112 then some (3, n, 0) else if c = 113 then some (pushT n) else if c = 99 ∨ c = 107 then some (8, n, 0) else if c = 98 then some (6, 0, n) else if c = 116 then some (6, 0, 8 * n) else none
def opT (p : Pat) (op : Int) (w : Str) : Tr × Str :=
  if w = [101] then ((10, 0, 0), w) else if w = [110] ∨ w = [119] then ((6, 0, 0), w) else if w = [40, 110, 41] ∨ w = [40, 119, 41] then ((7, 0, 0), (w.drop 1).take 1) else
  match fieldT (w.headD 0) (numP p.1 op (w.headD 0)) with
  | some t => (t, [])
  | none => (fixedT w, [])
theorem opd_start (w : World) : ∃ w0, w.alloc (.cells #[.int .i64 0, .int .i64 0, .int .i64 0] 68) = w0 ∧ OpdAt w0 w.heap.size ∧ Below w.heap.size w w0 ∧ w0.heap.size = w.heap.size + 1 :=
  ⟨_, rfl, World.alloc_heap_new w _, (Below.refl _ w).alloc (Nat.le_refl _) _, by simp⟩
theorem fixed_w65 (w : World) : Calls Tryz.prog 121 #[.string ⟨#[65]⟩] w (RetTr w (1, 7, 0)) := by
  obtain ⟨w0, hw0, S0, B0, Z0⟩ := opd_start w
  obtain ⟨n, hn⟩ : ∃ n, w.heap.size = n := ⟨_, rfl⟩
  rw [hn] at S0 B0 Z0
  have S0 := Lib.hid S0
  have B0 := Lib.hid B0
  have HN := Lib.hid hn
  go_enter Tryz.func121, Tryz.ntmps121
  go_wp2_with fail
  refine (register_any _ w0).mono ?_
  rintro e w1 ⟨rfl, hb1⟩
  have S1 : Hid (OpdAt w1 n) := S0.out.below hb1
  have B1 : Hid (Below n w w1) := B0.out.trans (hb1.mono (by omega))
  clear hb1 hw0 S0 B0 Z0 hn
  simp only [trV]
  obtain ⟨c0, c1, c2, c3⟩ := S1.out.cells
  go_wp2
  obtain ⟨w3, hw3, hc3, hb3, -⟩ := opd_set S1.out 1 7 0
  rw [hw3]
  have r0 := Lib.cell_of_heap hc3 0
  have r1 := Lib.cell_of_heap hc3 1
  have r2 := Lib.cell_of_heap hc3 2
  refine bodyPost_ret (v := trV (1, 7, 0)) ?_ rfl ?_
  · simp [results, Tryz.results121, go_sem, r0, r1, r2, trV]
  · exact ⟨rfl, by rw [HN.out]; exact B1.out.trans hb3⟩
theorem fixed_w68_69 (w : World) : Calls Tryz.prog 121 #[.string ⟨#[68, 69]⟩] w (RetTr w (3, 1, 0)) := by
  obtain ⟨w0, hw0, S0, B0, Z0⟩ := opd_start w
  obtain ⟨n, hn⟩ : ∃ n, w.heap.size = n := ⟨_, rfl⟩
  rw [hn] at S0 B0 Z0
  have S0 := Lib.hid S0
  have B0 := Lib.hid B0
  have HN := Lib.hid hn
  go_enter Tryz.func121, Tryz.ntmps121
  go_wp2_with fail
  refine (pair_any _ w0).mono ?_
  rintro e w1 ⟨rfl, hb1⟩
  have S1 : Hid (OpdAt w1 n) := S0.out.below hb1
  have B1 : Hid (Below n w w1) := B0.out.trans (hb1.mono (by omega))
  clear hb1 hw0 S0 B0 Z0 hn
  simp only [trV]
  obtain ⟨c0, c1, c2, c3⟩ := S1.out.cells
  go_wp2
  obtain ⟨w3, hw3, hc3, hb3, -⟩ := opd_set S1.out 3 1 0
  rw [hw3]
  have r0 := Lib.cell_of_heap hc3 0
  have r1 := Lib.cell_of_heap hc3 1
  have r2 := Lib.cell_of_heap hc3 2
  refine bodyPost_ret (v := trV (3, 1, 0)) ?_ rfl ?_
  · simp [results, Tryz.results121, go_sem, r0, r1, r2, trV]
  · exact ⟨rfl, by rw [HN.out]; exact B1.out.trans hb3⟩
theorem fixed_w72_76 (w : World) : Calls Tryz.prog 121 #[.string ⟨#[72, 76]⟩] w (RetTr w (3, 2, 0)) := by
  obtain ⟨w0, hw0, S0, B0, Z0⟩ := opd_start w
  obtain ⟨n, hn⟩ : ∃ n, w.heap.size = n := ⟨_, rfl⟩
  rw [hn] at S0 B0 Z0
  have S0 := Lib.hid S0
  have B0 := Lib.hid B0
  have HN := Lib.hid hn
  go_enter Tryz.func121, Tryz.ntmps121
  go_wp2_with fail
  refine (pair_any _ w0).mono ?_
  rintro e w1 ⟨rfl, hb1⟩
  have S1 : Hid (OpdAt w1 n) := S0.out.below hb1
  have B1 : Hid (Below n w w1) := B0.out.trans (hb1.mono (by omega))
  clear hb1 hw0 S0 B0 Z0 hn
  simp only [trV]
  obtain ⟨c0, c1, c2, c3⟩ := S1.out.cells
  go_wp2
  obtain ⟨w3, hw3, hc3, hb3, -⟩ := opd_set S1.out 3 2 0
  rw [hw3]
  have r0 := Lib.cell_of_heap hc3 0
  have r1 := Lib.cell_of_heap hc3 1
  have r2 := Lib.cell_of_heap hc3 2
  refine bodyPost_ret (v := trV (3, 2, 0)) ?_ rfl ?_
  · simp [results, Tryz.results121, go_sem, r0, r1, r2, trV]
  · exact ⟨rfl, by rw [HN.out]; exact B1.out.trans hb3⟩
theorem fixed_w83_80 (w : World) : Calls Tryz.prog 121 #[.string ⟨#[83, 80]⟩] w (RetTr w (3, 3, 0)) := by
  obtain ⟨w0, hw0, S0, B0, Z0⟩ := opd_start w
  obtain ⟨n, hn⟩ : ∃ n, w.heap.size = n := ⟨_, rfl⟩
  rw [hn] at S0 B0 Z0
  have S0 := Lib.hid S0
  have B0 := Lib.hid B0
  have HN := Lib.hid hn
  go_enter Tryz.func121, Tryz.ntmps121
  go_wp2_with fail
  refine (pair_any _ w0).mono ?_
  rintro e w1 ⟨rfl, hb1⟩
  have S1 : Hid (OpdAt w1 n) := S0.out.below hb1
  have B1 : Hid (Below n w w1) := B0.out.trans (hb1.mono (by omega))
  clear hb1 hw0 S0 B0 Z0 hn
  simp only [trV]
  obtain ⟨c0, c1, c2, c3⟩ := S1.out.cells
  go_wp2
  obtain ⟨w3, hw3, hc3, hb3, -⟩ := opd_set S1.out 3 3 0
  rw [hw3]
  have r0 := Lib.cell_of_heap hc3 0
  have r1 := Lib.cell_of_heap hc3 1
  have r2 := Lib.cell_of_heap hc3 2
  refine bodyPost_ret (v := trV (3, 3, 0)) ?_ rfl ?_
  · simp [results, Tryz.results121, go_sem, r0, r1, r2, trV]
  · exact ⟨rfl, by rw [HN.out]; exact B1.out.trans hb3⟩
theorem fixed_w65_70 (w : World) : Calls Tryz.prog 121 #[.string ⟨#[65, 70]⟩] w (RetTr w (3, 4, 0)) := by
  obtain ⟨w0, hw0, S0, B0, Z0⟩ := opd_start w
  obtain ⟨n, hn⟩ : ∃ n, w.heap.size = n := ⟨_, rfl⟩
  rw [hn] at S0 B0 Z0
  have S0 := Lib.hid S0
  have B0 := Lib.hid B0
  have HN := Lib.hid hn
  go_enter Tryz.func121, Tryz.ntmps121
  go_wp2_with fail
  refine (pair_any _ w0).mono ?_
  rintro e w1 ⟨rfl, hb1⟩
  have S1 : Hid (OpdAt w1 n) := S0.out.below hb1
  have B1 : Hid (Below n w w1) := B0.out.trans (hb1.mono (by omega))
  clear hb1 hw0 S0 B0 Z0 hn
  simp only [trV]
  obtain ⟨c0, c1, c2, c3⟩ := S1.out.cells
  go_wp2
  obtain ⟨w3, hw3, hc3, hb3, -⟩ := opd_set S1.out 3 4 0
  rw [hw3]
  have r0 := Lib.cell_of_heap hc3 0
  have r1 := Lib.cell_of_heap hc3 1
  have r2 := Lib.cell_of_heap hc3 2
  refine bodyPost_ret (v := trV (3, 4, 0)) ?_ rfl ?_
  · simp [results, Tryz.results121, go_sem, r0, r1, r2, trV]
  · exact ⟨rfl, by rw [HN.out]; exact B1.out.trans hb3⟩
theorem fixed_w65_70_39 (w : World) : Calls Tryz.prog 121 #[.string ⟨#[65, 70, 39]⟩] w (RetTr w (3, 7, 0)) := by
  obtain ⟨w0, hw0, S0, B0, Z0⟩ := opd_start w
  obtain ⟨n, hn⟩ : ∃ n, w.heap.size = n := ⟨_, rfl⟩
  rw [hn] at S0 B0 Z0
  have S0 := Lib.hid S0
  have B0 := Lib.hid B0
  have HN := Lib.hid hn
  go_enter Tryz.func121, Tryz.ntmps121
  go_wp2_with fail
  refine (pair_any _ w0).mono ?_
  rintro e w1 ⟨rfl, hb1⟩
  have S1 : Hid (OpdAt w1 n) := S0.out.below hb1
  have B1 : Hid (Below n w w1) := B0.out.trans (hb1.mono (by omega))
  clear hb1 hw0 S0 B0 Z0 hn
  simp only [trV]
  obtain ⟨c0, c1, c2, c3⟩ := S1.out.cells
  go_wp2
  obtain ⟨w3, hw3, hc3, hb3, -⟩ := opd_set S1.out 3 7 0
  rw [hw3]
  have r0 := Lib.cell_of_heap hc3 0
  have r1 := Lib.cell_of_heap hc3 1
  have r2 := Lib.cell_of_heap hc3 2
  refine bodyPost_ret (v := trV (3, 7, 0)) ?_ rfl ?_
  · simp [results, Tryz.results121, go_sem, r0, r1, r2, trV]
  · exact ⟨rfl, by rw [HN.out]; exact B1.out.trans hb3⟩
theorem fixed_w40_66_67_41 (w : World) : Calls Tryz.prog 121 #[.string ⟨#[40, 66, 67, 41]⟩] w (RetTr w (4, 0, 0)) := by
  obtain ⟨w0, hw0, S0, B0, Z0⟩ := opd_start w
  obtain ⟨n, hn⟩ : ∃ n, w.heap.size = n := ⟨_, rfl⟩
  rw [hn] at S0 B0 Z0
  have S0 := Lib.hid S0
  have B0 := Lib.hid B0
  have HN := Lib.hid hn
  go_enter Tryz.func121, Tryz.ntmps121
  go_wp2_with fail
  refine (tpointer_any _ w0).mono ?_
  rintro e w1 ⟨rfl, hb1⟩
  have S1 : Hid (OpdAt w1 n) := S0.out.below hb1
  have B1 : Hid (Below n w w1) := B0.out.trans (hb1.mono (by omega))
  clear hb1 hw0 S0 B0 Z0 hn
  simp only [trV]
  obtain ⟨c0, c1, c2, c3⟩ := S1.out.cells
  go_wp2
  obtain ⟨w3, hw3, hc3, hb3, -⟩ := opd_set S1.out 4 0 0
  rw [hw3]
  have r0 := Lib.cell_of_heap hc3 0
  have r1 := Lib.cell_of_heap hc3 1
  have r2 := Lib.cell_of_heap hc3 2
  refine bodyPost_ret (v := trV (4, 0, 0)) ?_ rfl ?_
  · simp [results, Tryz.results121, go_sem, r0, r1, r2, trV]
  · exact ⟨rfl, by rw [HN.out]; exact B1.out.trans hb3⟩
theorem fixed_w40_68_69_41 (w : World) : Calls Tryz.prog 121 #[.string ⟨#[40, 68, 69, 41]⟩] w (RetTr w (4, 1, 0)) := by
  obtain ⟨w0, hw0, S0, B0, Z0⟩ := opd_start w
  obtain ⟨n, hn⟩ : ∃ n, w.heap.size = n := ⟨_, rfl⟩
  rw [hn] at S0 B0 Z0
  have S0 := Lib.hid S0
  have B0 := Lib.hid B0
  have HN := Lib.hid hn
  go_enter Tryz.func121, Tryz.ntmps121
  go_wp2_with fail
  refine (tpointer_any _ w0).mono ?_
  rintro e w1 ⟨rfl, hb1⟩
  have S1 : Hid (OpdAt w1 n) := S0.out.below hb1
  have B1 : Hid (Below n w w1) := B0.out.trans (hb1.mono (by omega))
  clear hb1 hw0 S0 B0 Z0 hn
  simp only [trV]
  obtain ⟨c0, c1, c2, c3⟩ := S1.out.cells
  go_wp2
  obtain ⟨w3, hw3, hc3, hb3, -⟩ := opd_set S1.out 4 1 0
  rw [hw3]
  have r0 := Lib.cell_of_heap hc3 0
  have r1 := Lib.cell_of_heap hc3 1
  have r2 := Lib.cell_of_heap hc3 2
  refine bodyPost_ret (v := trV (4, 1, 0)) ?_ rfl ?_
  · simp [results, Tryz.results121, go_sem, r0, r1, r2, trV]
  · exact ⟨rfl, by rw [HN.out]; exact B1.out.trans hb3⟩
theorem fixed_w40_72_76_41 (w : World) : Calls Tryz.prog 121 #[.string ⟨#[40, 72, 76, 41]⟩] w (RetTr w (4, 2, 0)) := by
  obtain ⟨w0, hw0, S0, B0, Z0⟩ := opd_start w
  obtain ⟨n, hn⟩ : ∃ n, w.heap.size = n := ⟨_, rfl⟩
  rw [hn] at S0 B0 Z0
  have S0 := Lib.hid S0
  have B0 := Lib.hid B0
  have HN := Lib.hid hn
  go_enter Tryz.func121, Tryz.ntmps121
  go_wp2_with fail
  refine (tpointer_any _ w0).mono ?_
  rintro e w1 ⟨rfl, hb1⟩
  have S1 : Hid (OpdAt w1 n) := S0.out.below hb1
  have B1 : Hid (Below n w w1) := B0.out.trans (hb1.mono (by omega))
  clear hb1 hw0 S0 B0 Z0 hn
  simp only [trV]
  obtain ⟨c0, c1, c2, c3⟩ := S1.out.cells
  go_wp2
  obtain ⟨w3, hw3, hc3, hb3, -⟩ := opd_set S1.out 4 2 0
  rw [hw3]
  have r0 := Lib.cell_of_heap hc3 0
  have r1 := Lib.cell_of_heap hc3 1
  have r2 := Lib.cell_of_heap hc3 2
  refine bodyPost_ret (v := trV (4, 2, 0)) ?_ rfl ?_
  · simp [results, Tryz.results121, go_sem, r0, r1, r2, trV]
  · exact ⟨rfl, by rw [HN.out]; exact B1.out.trans hb3⟩
theorem fixed_w40_83_80_41 (w : World) : Calls Tryz.prog 121 #[.string ⟨#[40, 83, 80, 41]⟩] w (RetTr w (4, 3, 0)) := by
  obtain ⟨w0, hw0, S0, B0, Z0⟩ := opd_start w
  obtain ⟨n, hn⟩ : ∃ n, w.heap.size = n := ⟨_, rfl⟩
  rw [hn] at S0 B0 Z0
  have S0 := Lib.hid S0
  have B0 := Lib.hid B0
  have HN := Lib.hid hn
  go_enter Tryz.func121, Tryz.ntmps121
  go_wp2_with fail
  refine (tpointer_any _ w0).mono ?_
  rintro e w1 ⟨rfl, hb1⟩
  have S1 : Hid (OpdAt w1 n) := S0.out.below hb1
  have B1 : Hid (Below n w w1) := B0.out.trans (hb1.mono (by omega))
  clear hb1 hw0 S0 B0 Z0 hn
  simp only [trV]
  obtain ⟨c0, c1, c2, c3⟩ := S1.out.cells
  go_wp2
  obtain ⟨w3, hw3, hc3, hb3, -⟩ := opd_set S1.out 4 3 0
  rw [hw3]
  have r0 := Lib.cell_of_heap hc3 0
  have r1 := Lib.cell_of_heap hc3 1
  have r2 := Lib.cell_of_heap hc3 2
  refine bodyPost_ret (v := trV (4, 3, 0)) ?_ rfl ?_
  · simp [results, Tryz.results121, go_sem, r0, r1, r2, trV]
  · exact ⟨rfl, by rw [HN.out]; exact B1.out.trans hb3⟩
theorem fixed_w40_67_41 (w : World) : Calls Tryz.prog 121 #[.string ⟨#[40, 67, 41]⟩] w (RetTr w (4, 8, 0)) := by
  obtain ⟨w0, hw0, S0, B0, Z0⟩ := opd_start w
  obtain ⟨n, hn⟩ : ∃ n, w.heap.size = n := ⟨_, rfl⟩
  rw [hn] at S0 B0 Z0
  have S0 := Lib.hid S0
  have B0 := Lib.hid B0
  have HN := Lib.hid hn
  go_enter Tryz.func121, Tryz.ntmps121
  go_wp2_with fail
  refine (tpointer_any _ w0).mono ?_
  rintro e w1 ⟨rfl, hb1⟩
  have S1 : Hid (OpdAt w1 n) := S0.out.below hb1
  have B1 : Hid (Below n w w1) := B0.out.trans (hb1.mono (by omega))
  clear hb1 hw0 S0 B0 Z0 hn
  simp only [trV]
  obtain ⟨c0, c1, c2, c3⟩ := S1.out.cells
  go_wp2
  obtain ⟨w3, hw3, hc3, hb3, -⟩ := opd_set S1.out 4 8 0
  rw [hw3]
  have r0 := Lib.cell_of_heap hc3 0
  have r1 := Lib.cell_of_heap hc3 1
  have r2 := Lib.cell_of_heap hc3 2
  refine bodyPost_ret (v := trV (4, 8, 0)) ?_ rfl ?_
  · simp [results, Tryz.results121, go_sem, r0, r1, r2, trV]
  · exact ⟨rfl, by rw [HN.out]; exact B1.out.trans hb3⟩
theorem fixed_w73 (w : World) : Calls Tryz.prog 121 #[.string ⟨#[73]⟩] w (RetTr w (9, 0, 0)) := by
  go_enter Tryz.func121, Tryz.ntmps121
  go_wp2
  refine bodyPost_ret (v := trV (9, 0, 0)) ?_ rfl ?_
  · simp [results, Tryz.results121, go_sem, trV]
  · exact ⟨rfl, (Below.refl _ _).alloc (Nat.le_refl _) _⟩
theorem fixed_w82 (w : World) : Calls Tryz.prog 121 #[.string ⟨#[82]⟩] w (RetTr w (9, 1, 0)) := by
  go_enter Tryz.func121, Tryz.ntmps121
  go_wp2
  refine bodyPost_ret (v := trV (9, 1, 0)) ?_ rfl ?_
  · simp [results, Tryz.results121, go_sem, trV]
  · exact ⟨rfl, (Below.refl _ _).alloc (Nat.le_refl _) _⟩
theorem fixed_w48 (w : World) : Calls Tryz.prog 121 #[.string ⟨#[48]⟩] w (RetTr w (6, 0, 0)) := by
  obtain ⟨w0, hw0, S0, B0, Z0⟩ := opd_start w
  obtain ⟨n, hn⟩ : ∃ n, w.heap.size = n := ⟨_, rfl⟩
  rw [hn] at S0 B0 Z0
  have S0 := Lib.hid S0
  have B0 := Lib.hid B0
  have HN := Lib.hid hn
  have hix : ∀ w, (Instr.index 9 (.string ⟨#[48]⟩) (.int .i64 0)).run Tryz.prog w = .ok (.int .u8 48) w := fun _ => by kernel_rfl
  go_enter Tryz.func121, Tryz.ntmps121
  go_wp2_with fail
  refine (value_any _ w0).mono ?_
  rintro e w1 ⟨rfl, hb1⟩
  have S1 : Hid (OpdAt w1 n) := S0.out.below hb1
  have B1 : Hid (Below n w w1) := B0.out.trans (hb1.mono (by omega))
  clear hb1 hw0 S0 B0 Z0 hn
  simp only [trV]
  obtain ⟨c0, c1, c2, c3⟩ := S1.out.cells
  go_wp2
  obtain ⟨w3, hw3, hc3, hb3, -⟩ := opd_set S1.out 6 0 0
  rw [hw3]
  have r0 := Lib.cell_of_heap hc3 0
  have r1 := Lib.cell_of_heap hc3 1
  have r2 := Lib.cell_of_heap hc3 2
  refine bodyPost_ret (v := trV (6, 0, 0)) ?_ rfl ?_
  · simp [results, Tryz.results121, go_sem, r0, r1, r2, trV]
  · exact ⟨rfl, by rw [HN.out]; exact B1.out.trans hb3⟩
theorem fixed_w49 (w : World) : Calls Tryz.prog 121 #[.string ⟨#[49]⟩] w (RetTr w (6, 0, 1)) := by
  obtain ⟨w0, hw0, S0, B0, Z0⟩ := opd_start w
  obtain ⟨n, hn⟩ : ∃ n, w.heap.size = n := ⟨_, rfl⟩
  rw [hn] at S0 B0 Z0
  have S0 := Lib.hid S0
  have B0 := Lib.hid B0
  have HN := Lib.hid hn
  have hix : ∀ w, (Instr.index 9 (.string ⟨#[49]⟩) (.int .i64 0)).run Tryz.prog w = .ok (.int .u8 49) w := fun _ => by kernel_rfl
  go_enter Tryz.func121, Tryz.ntmps121
  go_wp2_with fail
  refine (value_any _ w0).mono ?_
  rintro e w1 ⟨rfl, hb1⟩
  have S1 : Hid (OpdAt w1 n) := S0.out.below hb1
  have B1 : Hid (Below n w w1) := B0.out.trans (hb1.mono (by omega))
  clear hb1 hw0 S0 B0 Z0 hn
  simp only [trV]
  obtain ⟨c0, c1, c2, c3⟩ := S1.out.cells
  go_wp2
  obtain ⟨w3, hw3, hc3, hb3, -⟩ := opd_set S1.out 6 0 1
  rw [hw3]
  have r0 := Lib.cell_of_heap hc3 0
  have r1 := Lib.cell_of_heap hc3 1
  have r2 := Lib.cell_of_heap hc3 2
  refine bodyPost_ret (v := trV (6, 0, 1)) ?_ rfl ?_
  · simp [results, Tryz.results121, go_sem, r0, r1, r2, trV]
  · exact ⟨rfl, by rw [HN.out]; exact B1.out.trans hb3⟩
theorem fixed_w50 (w : World) : Calls Tryz.prog 121 #[.string ⟨#[50]⟩] w (RetTr w (6, 0, 2)) := by
  obtain ⟨w0, hw0, S0, B0, Z0⟩ := opd_start w
  obtain ⟨n, hn⟩ : ∃ n, w.heap.size = n := ⟨_, rfl⟩
  rw [hn] at S0 B0 Z0
  have S0 := Lib.hid S0
  have B0 := Lib.hid B0
  have HN := Lib.hid hn
  have hix : ∀ w, (Instr.index 9 (.string ⟨#[50]⟩) (.int .i64 0)).run Tryz.prog w = .ok (.int .u8 50) w := fun _ => by kernel_rfl
  go_enter Tryz.func121, Tryz.ntmps121
  go_wp2_with fail
  refine (value_any _ w0).mono ?_
  rintro e w1 ⟨rfl, hb1⟩
  have S1 : Hid (OpdAt w1 n) := S0.out.below hb1
  have B1 : Hid (Below n w w1) := B0.out.trans (hb1.mono (by omega))
  clear hb1 hw0 S0 B0 Z0 hn
  simp only [trV]
  obtain ⟨c0, c1, c2, c3⟩ := S1.out.cells
  go_wp2
  obtain ⟨w3, hw3, hc3, hb3, -⟩ := opd_set S1.out 6 0 2
  rw [hw3]
  have r0 := Lib.cell_of_heap hc3 0
  have r1 := Lib.cell_of_heap hc3 1
  have r2 := Lib.cell_of_heap hc3 2
  refine bodyPost_ret (v := trV (6, 0, 2)) ?_ rfl ?_
  · simp [results, Tryz.results121, go_sem, r0, r1, r2, trV]
  · exact ⟨rfl, by rw [HN.out]; exact B1.out.trans hb3⟩
end Go.Proofs.YtbbpkoaeedkncaaGreatDoor
