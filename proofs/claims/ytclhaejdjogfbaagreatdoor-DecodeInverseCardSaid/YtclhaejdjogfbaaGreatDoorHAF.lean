/-
  TbF, TbG, TbH, TbI, TbJ.
-/
import Derived.Test.YtclhaejdjogfbaaGreatDoorHAE
import Derived.Test.YtclhaejdjogfbaaGreatDoorHAA
import Derived.StillTailTactics
import Derived.Laws.EntriesVeiled
import Derived.Laws.AppendOwn
import Derived.Laws.OwnMore
set_option linter.all false
set_option maxRecDepth 100000
set_option maxHeartbeats 4000000
namespace Go.Proofs.YtclhaejdjogfbaaGreatDoor
open Go.RowKit Go.Shelf
def trV (x : Tr) : Value := .agg #[.int .i64 x.1, .int .i64 x.2.1, .int .i64 x.2.2]
def RetTr (w : World) (x : Tr) (e : Ending) (w' : World) : Prop := e = .returned (trV x) ∧ Below w.heap.size w w'
def OpdAt (w : World) (n : Nat) : Prop := w.heap[n]? = some (.cells #[.int .i64 0, .int .i64 0, .int .i64 0] 56 (0, 0))
theorem OpdAt.below {w w' : World} {n : Nat} (h : OpdAt w n) (hb : Below w.heap.size w w') : OpdAt w' n := (hb.block n (Array.getElem?_eq_some_iff.1 h).1).trans h
theorem OpdAt.belowN {w w' : World} {n m : Nat} (h : OpdAt w n) (hb : Below m w w') (hn : n < m) : OpdAt w' n := (hb.block n hn).trans h
theorem OpdAt.cells {w : World} {n : Nat} (h : OpdAt w n) : w.cell? ⟨n, 0, none⟩ = some (.int .i64 0) ∧ w.cell? ⟨n, 1, none⟩ = some (.int .i64 0) ∧ w.cell? ⟨n, 2, none⟩ = some (.int .i64 0) ∧ ∀ j, w.frozen? ⟨n, j, none⟩ = false :=
  ⟨Lib.cell_of_heap h 0, Lib.cell_of_heap h 1, Lib.cell_of_heap h 2, Lib.frozen_of_heap h⟩
theorem opd_set {w : World} {n : Nat} (h : OpdAt w n) (a b c : Int) : ∃ w', ((w.setCell ⟨n, 0, none⟩ (.int .i64 a)).setCell ⟨n, 1, none⟩ (.int .i64 b)).setCell ⟨n, 2, none⟩ (.int .i64 c) = w' ∧
    w'.heap[n]? = some (.cells #[.int .i64 a, .int .i64 b, .int .i64 c] 56 (0, 0)) ∧ Below n w w' ∧ w'.heap.size = w.heap.size :=
  ⟨_, rfl, set3 h _ _ _, ((((Below.refl n w).setCell (p := ⟨n, 0, none⟩) (Nat.le_refl _) _).setCell (p := ⟨n, 1, none⟩) (Nat.le_refl _) _).setCell (p := ⟨n, 2, none⟩) (Nat.le_refl _) _), by simp⟩
theorem code_start (w : World) (p : Pat) (op : Int) : ∃ w0, (w.alloc (.cells #[.string (sB p.1), .string (sB p.2), .int .u8 op] 166)).alloc (.cells #[.int .i64 0, .int .i64 0, .int .i64 0] 56) = w0 ∧
    OpdAt w0 (w.heap.size + 1) ∧ Below w.heap.size w w0 ∧ w0.heap.size = w.heap.size + 2 ∧ w0.heap[w.heap.size]? = some (.cells #[.string (sB p.1), .string (sB p.2), .int .u8 op] 166 (0, 0)) := by
  refine ⟨_, rfl, ?_, ((Below.refl _ w).alloc (Nat.le_refl _) _).alloc (by simp) _, by simp, (Below.heap_alloc _ _ _ (by simp)).trans (World.alloc_heap_new w _)⟩
  have h := World.alloc_heap_new (w.alloc (.cells #[.string (sB p.1), .string (sB p.2), .int .u8 op] 166)) (.cells #[.int .i64 0, .int .i64 0, .int .i64 0] 56)
  rw [World.size_alloc] at h
  exact h
theorem register_any (r : Int) (w : World) : Calls Tryz.prog 175 #[.int .i64 r] w (RetTr w (1, r, 0)) := by
  go_enter Tryz.func175, Tryz.ntmps175
  go_wp2
  refine bodyPost_ret (v := trV (1, r, 0)) ?_ rfl ?_
  · simp [results, Tryz.results175, go_sem, trV]
  · exact ⟨rfl, (Below.refl _ _).alloc (Nat.le_refl _) _⟩
theorem half_any (r : Int) (w : World) : Calls Tryz.prog 195 #[.int .i64 r] w (RetTr w (2, r, 0)) := by
  go_enter Tryz.func195, Tryz.ntmps195
  go_wp2
  refine bodyPost_ret (v := trV (2, r, 0)) ?_ rfl ?_
  · simp [results, Tryz.results195, go_sem, trV]
  · exact ⟨rfl, (Below.refl _ _).alloc (Nat.le_refl _) _⟩
theorem pair_any (r : Int) (w : World) : Calls Tryz.prog 186 #[.int .i64 r] w (RetTr w (3, r, 0)) := by
  go_enter Tryz.func186, Tryz.ntmps186
  go_wp2
  refine bodyPost_ret (v := trV (3, r, 0)) ?_ rfl ?_
  · simp [results, Tryz.results186, go_sem, trV]
  · exact ⟨rfl, (Below.refl _ _).alloc (Nat.le_refl _) _⟩
theorem tpointer_any (r : Int) (w : World) : Calls Tryz.prog 184 #[.int .i64 r] w (RetTr w (4, r, 0)) := by
  go_enter Tryz.func184, Tryz.ntmps184
  go_wp2
  refine bodyPost_ret (v := trV (4, r, 0)) ?_ rfl ?_
  · simp [results, Tryz.results184, go_sem, trV]
  · exact ⟨rfl, (Below.refl _ _).alloc (Nat.le_refl _) _⟩
theorem value_any (r : Int) (w : World) : Calls Tryz.prog 188 #[.int .i64 r] w (RetTr w (6, 0, r)) := by
  go_enter Tryz.func188, Tryz.ntmps188
  go_wp2
  refine bodyPost_ret (v := trV (6, 0, r)) ?_ rfl ?_
  · simp [results, Tryz.results188, go_sem, trV]
  · exact ⟨rfl, (Below.refl _ _).alloc (Nat.le_refl _) _⟩
theorem cpair_any (p : Pat) (hl : p.1.length = 8) (op : Int) (h0 : 0 ≤ op) (h1 : op ≤ 255) (c : UInt8) (w : World) :
    Calls Tryz.prog 197 #[codeV p op, .int .u8 (c.toNat : Int)] w (RetTr w (3, numP p.1 op c, 0)) := by
  unfold codeV
  obtain ⟨w0, hw0, S0, B0, Z0, C0⟩ := code_start w p op
  obtain ⟨n, hn⟩ : ∃ n, w.heap.size = n := ⟨_, rfl⟩
  rw [hn] at S0 B0 Z0 C0
  have k0 := Lib.cell_of_heap C0 0
  have k1 := Lib.cell_of_heap C0 1
  have k2 := Lib.cell_of_heap C0 2
  have hnum := number_any p.1 p.2 hl op h0 h1 c w0
  have S0 := Lib.hid S0
  have B0 := Lib.hid B0
  have HN := Lib.hid hn
  clear C0
  go_enter Tryz.func197, Tryz.ntmps197
  go_wp2_with fail
  refine hnum.mono ?_
  rintro e w1 ⟨rfl, hb1⟩
  have S1 : Hid (OpdAt w1 (n + 1)) := S0.out.below hb1
  have B1 : Hid (Below n w w1) := B0.out.trans (hb1.mono (by omega))
  have Z1 : Hid (n + 2 ≤ w1.heap.size) := by have := hb1.size; show _ ≤ _; omega
  clear hb1 hnum hw0 S0 B0 Z0 hn k0 k1 k2
  go_wp2_with fail
  refine (pair_any _ w1).mono ?_
  rintro e w2 ⟨rfl, hb2⟩
  have S2 : Hid (OpdAt w2 (n + 1)) := S1.out.below hb2
  have B2 : Hid (Below n w w2) := B1.out.trans (hb2.mono (by have := Z1.out; omega))
  clear hb2 S1 B1 Z1
  simp only [trV]
  obtain ⟨c0, c1, c2, c3⟩ := S2.out.cells
  go_wp2
  obtain ⟨w3, hw3, hc3, hb3, -⟩ := opd_set S2.out 3 (numP p.1 op c) 0
  rw [hw3]
  have r0 := Lib.cell_of_heap hc3 0
  have r1 := Lib.cell_of_heap hc3 1
  have r2 := Lib.cell_of_heap hc3 2
  refine bodyPost_ret (v := trV (3, (numP p.1 op c), 0)) ?_ rfl ?_
  · simp [results, Tryz.results197, go_sem, r0, r1, r2, trV]
  · exact ⟨rfl, by rw [HN.out]; exact B2.out.trans (hb3.mono (by omega))⟩
theorem cbit_any (p : Pat) (hl : p.1.length = 8) (op : Int) (h0 : 0 ≤ op) (h1 : op ≤ 255) (c : UInt8) (w : World) :
    Calls Tryz.prog 200 #[codeV p op, .int .u8 (c.toNat : Int)] w (RetTr w (6, 0, numP p.1 op c)) := by
  unfold codeV
  obtain ⟨w0, hw0, S0, B0, Z0, C0⟩ := code_start w p op
  obtain ⟨n, hn⟩ : ∃ n, w.heap.size = n := ⟨_, rfl⟩
  rw [hn] at S0 B0 Z0 C0
  have k0 := Lib.cell_of_heap C0 0
  have k1 := Lib.cell_of_heap C0 1
  have k2 := Lib.cell_of_heap C0 2
  have hnum := number_any p.1 p.2 hl op h0 h1 c w0
  have S0 := Lib.hid S0
  have B0 := Lib.hid B0
  have HN := Lib.hid hn
  clear C0
  go_enter Tryz.func200, Tryz.ntmps200
  go_wp2_with fail
  refine hnum.mono ?_
  rintro e w1 ⟨rfl, hb1⟩
  have S1 : Hid (OpdAt w1 (n + 1)) := S0.out.below hb1
  have B1 : Hid (Below n w w1) := B0.out.trans (hb1.mono (by omega))
  have Z1 : Hid (n + 2 ≤ w1.heap.size) := by have := hb1.size; show _ ≤ _; omega
  clear hb1 hnum hw0 S0 B0 Z0 hn k0 k1 k2
  go_wp2_with fail
  refine (value_any _ w1).mono ?_
  rintro e w2 ⟨rfl, hb2⟩
  have S2 : Hid (OpdAt w2 (n + 1)) := S1.out.below hb2
  have B2 : Hid (Below n w w2) := B1.out.trans (hb2.mono (by have := Z1.out; omega))
  clear hb2 S1 B1 Z1
  simp only [trV]
  obtain ⟨c0, c1, c2, c3⟩ := S2.out.cells
  go_wp2
  obtain ⟨w3, hw3, hc3, hb3, -⟩ := opd_set S2.out 6 0 (numP p.1 op c)
  rw [hw3]
  have r0 := Lib.cell_of_heap hc3 0
  have r1 := Lib.cell_of_heap hc3 1
  have r2 := Lib.cell_of_heap hc3 2
  refine bodyPost_ret (v := trV (6, 0, (numP p.1 op c))) ?_ rfl ?_
  · simp [results, Tryz.results200, go_sem, r0, r1, r2, trV]
  · exact ⟨rfl, by rw [HN.out]; exact B2.out.trans (hb3.mono (by omega))⟩
theorem ccond_any (p : Pat) (hl : p.1.length = 8) (op : Int) (h0 : 0 ≤ op) (h1 : op ≤ 255) (c : UInt8) (w : World) :
    Calls Tryz.prog 199 #[codeV p op, .int .u8 (c.toNat : Int)] w (RetTr w (8, numP p.1 op c, 0)) := by
  unfold codeV
  obtain ⟨w0, hw0, S0, B0, Z0, C0⟩ := code_start w p op
  obtain ⟨n, hn⟩ : ∃ n, w.heap.size = n := ⟨_, rfl⟩
  rw [hn] at S0 B0 Z0 C0
  have k0 := Lib.cell_of_heap C0 0
  have k1 := Lib.cell_of_heap C0 1
  have k2 := Lib.cell_of_heap C0 2
  have hnum := number_any p.1 p.2 hl op h0 h1 c w0
  have S0 := Lib.hid S0
  have B0 := Lib.hid B0
  have HN := Lib.hid hn
  clear C0
  go_enter Tryz.func199, Tryz.ntmps199
  go_wp2_with fail
  refine hnum.mono ?_
  rintro e w1 ⟨rfl, hb1⟩
  have S1 : Hid (OpdAt w1 (n + 1)) := S0.out.below hb1
  have B1 : Hid (Below n w w1) := B0.out.trans (hb1.mono (by omega))
  have Z1 : Hid (n + 2 ≤ w1.heap.size) := by have := hb1.size; show _ ≤ _; omega
  clear hb1 hnum hw0 S0 B0 Z0 hn k0 k1 k2
  obtain ⟨c0, c1, c2, c3⟩ := S1.out.cells
  go_wp2
  obtain ⟨w3, hw3, hc3, hb3, -⟩ := opd_set S1.out 8 (numP p.1 op c) 0
  rw [hw3]
  have r0 := Lib.cell_of_heap hc3 0
  have r1 := Lib.cell_of_heap hc3 1
  have r2 := Lib.cell_of_heap hc3 2
  refine bodyPost_ret (v := trV (8, (numP p.1 op c), 0)) ?_ rfl ?_
  · simp [results, Tryz.results199, go_sem, r0, r1, r2, trV]
  · exact ⟨rfl, by rw [HN.out]; exact B1.out.trans (hb3.mono (by omega))⟩
theorem crestart_any (p : Pat) (hl : p.1.length = 8) (op : Int) (h0 : 0 ≤ op) (h1 : op ≤ 255) (c : UInt8) (hm : 0 ≤ numP p.1 op c) (hM : numP p.1 op c ≤ 255) (w : World) :
    Calls Tryz.prog 201 #[codeV p op, .int .u8 (c.toNat : Int)] w (RetTr w (6, 0, 8 * numP p.1 op c)) := by
  unfold codeV
  obtain ⟨w0, hw0, S0, B0, Z0, C0⟩ := code_start w p op
  obtain ⟨n, hn⟩ : ∃ n, w.heap.size = n := ⟨_, rfl⟩
  rw [hn] at S0 B0 Z0 C0
  have k0 := Lib.cell_of_heap C0 0
  have k1 := Lib.cell_of_heap C0 1
  have k2 := Lib.cell_of_heap C0 2
  have hnum := number_any p.1 p.2 hl op h0 h1 c w0
  have S0 := Lib.hid S0
  have B0 := Lib.hid B0
  have HN := Lib.hid hn
  clear C0
  go_enter Tryz.func201, Tryz.ntmps201
  go_wp2_with fail
  refine hnum.mono ?_
  rintro e w1 ⟨rfl, hb1⟩
  have S1 : Hid (OpdAt w1 (n + 1)) := S0.out.below hb1
  have B1 : Hid (Below n w w1) := B0.out.trans (hb1.mono (by omega))
  have Z1 : Hid (n + 2 ≤ w1.heap.size) := by have := hb1.size; show _ ≤ _; omega
  clear hb1 hnum hw0 S0 B0 Z0 hn k0 k1 k2
  go_wp2_with fail
  refine (value_any _ w1).mono ?_
  rintro e w2 ⟨rfl, hb2⟩
  have S2 : Hid (OpdAt w2 (n + 1)) := S1.out.below hb2
  have B2 : Hid (Below n w w2) := B1.out.trans (hb2.mono (by have := Z1.out; omega))
  clear hb2 S1 B1 Z1
  simp only [trV]
  obtain ⟨c0, c1, c2, c3⟩ := S2.out.cells
  go_wp2
  obtain ⟨w3, hw3, hc3, hb3, -⟩ := opd_set S2.out 6 0 (8 * (numP p.1 op c))
  rw [hw3]
  have r0 := Lib.cell_of_heap hc3 0
  have r1 := Lib.cell_of_heap hc3 1
  have r2 := Lib.cell_of_heap hc3 2
  refine bodyPost_ret (v := trV (6, 0, (8 * (numP p.1 op c)))) ?_ rfl ?_
  · simp [results, Tryz.results201, go_sem, r0, r1, r2, trV]
  · exact ⟨rfl, by rw [HN.out]; exact B2.out.trans (hb3.mono (by omega))⟩
def regT (n : Int) : Tr := if n = 6 then (4, 2, 0) else (1, n, 0)
def pushT (n : Int) : Tr := if n = 3 then (3, 4, 0) else (3, n, 0)
theorem cregister_any (p : Pat) (hl : p.1.length = 8) (op : Int) (h0 : 0 ≤ op) (h1 : op ≤ 255) (c : UInt8) (w : World) :
    Calls Tryz.prog 196 #[codeV p op, .int .u8 (c.toNat : Int)] w (RetTr w (regT (numP p.1 op c))) := by
  unfold codeV
  obtain ⟨w0, hw0, S0, B0, Z0, C0⟩ := code_start w p op
  obtain ⟨n, hn⟩ : ∃ n, w.heap.size = n := ⟨_, rfl⟩
  rw [hn] at S0 B0 Z0 C0
  have k0 := Lib.cell_of_heap C0 0
  have k1 := Lib.cell_of_heap C0 1
  have k2 := Lib.cell_of_heap C0 2
  have hnum := number_any p.1 p.2 hl op h0 h1 c w0
  have S0 := Lib.hid S0
  have B0 := Lib.hid B0
  have HN := Lib.hid hn
  clear C0
  go_enter Tryz.func196, Tryz.ntmps196
  go_wp2_with fail
  refine hnum.mono ?_
  rintro e w1 ⟨rfl, hb1⟩
  have S1 : Hid (OpdAt w1 (n + 1)) := S0.out.below hb1
  have B1 : Hid (Below n w w1) := B0.out.trans (hb1.mono (by omega))
  have Z1 : Hid (n + 2 ≤ w1.heap.size) := by have := hb1.size; show _ ≤ _; omega
  clear hb1 hnum hw0 S0 B0 Z0 hn k0 k1 k2
  by_cases hk : numP p.1 op c = 6
  · have E : Hid (regT (numP p.1 op c) = (4, 2, 0)) := by show regT _ = _; unfold regT; rw [if_pos hk]
    rw [hk]
    go_wp2_with fail
    refine (tpointer_any _ w1).mono ?_
    rintro e w2 ⟨rfl, hb2⟩
    have S2 : Hid (OpdAt w2 (n + 1)) := S1.out.below hb2
    have B2 : Hid (Below n w w2) := B1.out.trans (hb2.mono (by have := Z1.out; omega))
    clear hb2 S1 B1 Z1
    simp only [trV]
    obtain ⟨c0, c1, c2, c3⟩ := S2.out.cells
    go_wp2
    obtain ⟨w3, hw3, hc3, hb3, -⟩ := opd_set S2.out 4 2 0
    rw [hw3]
    have r0 := Lib.cell_of_heap hc3 0
    have r1 := Lib.cell_of_heap hc3 1
    have r2 := Lib.cell_of_heap hc3 2
    refine bodyPost_ret (v := trV (4, 2, 0)) ?_ rfl ?_
    · simp [results, Tryz.results196, go_sem, r0, r1, r2, trV]
    · exact ⟨by rw [E.out], by rw [HN.out]; exact B2.out.trans (hb3.mono (by omega))⟩
  · have E : Hid (regT (numP p.1 op c) = (1, (numP p.1 op c), 0)) := by show regT _ = _; unfold regT; rw [if_neg hk]
    obtain ⟨m, hm⟩ : ∃ m, numP p.1 op c = m := ⟨_, rfl⟩
    have E2 : Hid (regT (numP p.1 op c) = (1, m, 0)) := by have h := E.out; rw [hm] at h ⊢; exact h
    rw [hm] at hk ⊢
    clear hm
    go_wp2_with fail
    refine (register_any _ w1).mono ?_
    rintro e w2 ⟨rfl, hb2⟩
    have S2 : Hid (OpdAt w2 (n + 1)) := S1.out.below hb2
    have B2 : Hid (Below n w w2) := B1.out.trans (hb2.mono (by have := Z1.out; omega))
    clear hb2 S1 B1 Z1
    simp only [trV]
    obtain ⟨c0, c1, c2, c3⟩ := S2.out.cells
    go_wp2
    obtain ⟨w3, hw3, hc3, hb3, -⟩ := opd_set S2.out 1 m 0
    rw [hw3]
    have r0 := Lib.cell_of_heap hc3 0
    have r1 := Lib.cell_of_heap hc3 1
    have r2 := Lib.cell_of_heap hc3 2
    refine bodyPost_ret (v := trV (1, m, 0)) ?_ rfl ?_
    · simp [results, Tryz.results196, go_sem, r0, r1, r2, trV]
    · exact ⟨by rw [E2.out], by rw [HN.out]; exact B2.out.trans (hb3.mono (by omega))⟩
theorem cpushed_any (p : Pat) (hl : p.1.length = 8) (op : Int) (h0 : 0 ≤ op) (h1 : op ≤ 255) (c : UInt8) (w : World) :
    Calls Tryz.prog 198 #[codeV p op, .int .u8 (c.toNat : Int)] w (RetTr w (pushT (numP p.1 op c))) := by
  unfold codeV
  obtain ⟨w0, hw0, S0, B0, Z0, C0⟩ := code_start w p op
  obtain ⟨n, hn⟩ : ∃ n, w.heap.size = n := ⟨_, rfl⟩
  rw [hn] at S0 B0 Z0 C0
  have k0 := Lib.cell_of_heap C0 0
  have k1 := Lib.cell_of_heap C0 1
  have k2 := Lib.cell_of_heap C0 2
  have hnum := number_any p.1 p.2 hl op h0 h1 c w0
  have S0 := Lib.hid S0
  have B0 := Lib.hid B0
  have HN := Lib.hid hn
  clear C0
  go_enter Tryz.func198, Tryz.ntmps198
  go_wp2_with fail
  refine hnum.mono ?_
  rintro e w1 ⟨rfl, hb1⟩
  have S1 : Hid (OpdAt w1 (n + 1)) := S0.out.below hb1
  have B1 : Hid (Below n w w1) := B0.out.trans (hb1.mono (by omega))
  have Z1 : Hid (n + 2 ≤ w1.heap.size) := by have := hb1.size; show _ ≤ _; omega
  clear hb1 hnum hw0 S0 B0 Z0 hn k0 k1 k2
  by_cases hk : numP p.1 op c = 3
  · have E : Hid (pushT (numP p.1 op c) = (3, 4, 0)) := by show pushT _ = _; unfold pushT; rw [if_pos hk]
    rw [hk]
    go_wp2_with fail
    refine (pair_any _ w1).mono ?_
    rintro e w2 ⟨rfl, hb2⟩
    have S2 : Hid (OpdAt w2 (n + 1)) := S1.out.below hb2
    have B2 : Hid (Below n w w2) := B1.out.trans (hb2.mono (by have := Z1.out; omega))
    clear hb2 S1 B1 Z1
    simp only [trV]
    obtain ⟨c0, c1, c2, c3⟩ := S2.out.cells
    go_wp2
    obtain ⟨w3, hw3, hc3, hb3, -⟩ := opd_set S2.out 3 4 0
    rw [hw3]
    have r0 := Lib.cell_of_heap hc3 0
    have r1 := Lib.cell_of_heap hc3 1
    have r2 := Lib.cell_of_heap hc3 2
    refine bodyPost_ret (v := trV (3, 4, 0)) ?_ rfl ?_
    · simp [results, Tryz.results198, go_sem, r0, r1, r2, trV]
    · exact ⟨by rw [E.out], by rw [HN.out]; exact B2.out.trans (hb3.mono (by omega))⟩
  · have E : Hid (pushT (numP p.1 op c) = (3, (numP p.1 op c), 0)) := by show pushT _ = _; unfold pushT; rw [if_neg hk]
    obtain ⟨m, hm⟩ : ∃ m, numP p.1 op c = m := ⟨_, rfl⟩
    have E2 : Hid (pushT (numP p.1 op c) = (3, m, 0)) := by have h := E.out; rw [hm] at h ⊢; exact h
    rw [hm] at hk ⊢
    clear hm
    go_wp2_with fail
    refine (pair_any _ w1).mono ?_
    rintro e w2 ⟨rfl, hb2⟩
    have S2 : Hid (OpdAt w2 (n + 1)) := S1.out.below hb2
    have B2 : Hid (Below n w w2) := B1.out.trans (hb2.mono (by have := Z1.out; omega))
    clear hb2 S1 B1 Z1
    simp only [trV]
    obtain ⟨c0, c1, c2, c3⟩ := S2.out.cells
    go_wp2
    obtain ⟨w3, hw3, hc3, hb3, -⟩ := opd_set S2.out 3 m 0
    rw [hw3]
    have r0 := Lib.cell_of_heap hc3 0
    have r1 := Lib.cell_of_heap hc3 1
    have r2 := Lib.cell_of_heap hc3 2
    refine bodyPost_ret (v := trV (3, m, 0)) ?_ rfl ?_
    · simp [results, Tryz.results198, go_sem, r0, r1, r2, trV]
    · exact ⟨by rw [E2.out], by rw [HN.out]; exact B2.out.trans (hb3.mono (by omega))⟩
end Go.Proofs.YtclhaejdjogfbaaGreatDoor
namespace Go.Proofs.YtclhaejdjogfbaaGreatDoor
open Go.RowKit Go.Shelf
theorem bit_and (x : Nat) (h : x < 256) : bits .and .u8 (x : Int) 1 = ((x % 2 : Nat) : Int) := by
  have : ∀ y : Fin 256, bits .and .u8 (y.val : Int) 1 = ((y.val % 2 : Nat) : Int) := by decide +kernel
  exact this ⟨x, h⟩
theorem bit_or (o b : Nat) (h : o < 128) (hb : b < 2) : bits .or .i64 (wrap64 ((o : Int) * 2)) (wrap64 (b : Int)) = ((2 * o + b : Nat) : Int) := by
  have : ∀ (o : Fin 128) (b : Fin 2), bits .or .i64 (wrap64 ((o.val : Int) * 2)) (wrap64 (b.val : Int)) = ((2 * o.val + b.val : Nat) : Int) := by decide +kernel
  exact this ⟨o, h⟩ ⟨b, hb⟩
def numN (l : Str) (n : Nat) (c : UInt8) : Nat → Nat
  | 0 => 0
  | k + 1 => if l[k]?.getD 0 = c then 2 * numN l n c k + n / 2 ^ (7 - k) % 2 else numN l n c k
theorem numF_eq (l : Str) (n : Nat) (hn : n < 256) (c : UInt8) : ∀ k, k ≤ 8 → numF l (n : Int) c k = (numN l n c k : Nat) ∧ numN l n c k < 2 ^ k
  | 0, _ => ⟨rfl, Nat.one_pos⟩
  | k + 1, h => by
    obtain ⟨h1, h2⟩ := numF_eq l n hn c k (by omega)
    unfold numF numN
    have h3 : numN l n c k < 2 ^ 7 := Nat.lt_of_lt_of_le h2 (Nat.pow_le_pow_right (by decide) (by omega))
    split
    · have e : (n : Int) / 2 ^ (7 - k) = ((n / 2 ^ (7 - k) : Nat) : Int) := by simp
      have hle : n / 2 ^ (7 - k) < 256 := Nat.lt_of_le_of_lt (Nat.div_le_self _ _) hn
      rw [h1, e, bit_and _ hle, bit_or _ _ (by omega) (by omega)]
      refine ⟨rfl, ?_⟩
      rw [Nat.pow_succ]
      omega
    · exact ⟨h1, by rw [Nat.pow_succ]; omega⟩
theorem numP_eq (l : Str) (n : Nat) (hn : n < 256) (c : UInt8) : numP l (n : Int) c = (numN l n c 8 : Nat) := (numF_eq l n hn c 8 (Nat.le_refl _)).1
theorem numP_bd (l : Str) (op : Int) (h0 : 0 ≤ op) (h1 : op ≤ 255) (c : UInt8) : 0 ≤ numP l op c ∧ numP l op c ≤ 255 := by
  obtain ⟨n, rfl⟩ : ∃ n : Nat, op = n := ⟨op.toNat, by omega⟩
  have h := numF_eq l n (by omega) c 8 (Nat.le_refl _)
  have e : numP l (n : Int) c = (numN l n c 8 : Nat) := h.1
  omega
def fixedT (w : Str) : Tr :=
  if w = [65] then (1, 7, 0) else if w = [68, 69] then (3, 1, 0) else if w = [72, 76] then (3, 2, 0) else if w = [83, 80] then (3, 3, 0) else if w = [65, 70] then (3, 4, 0) else
  if w = [65, 70, 39] then (3, 7, 0) else if w = [40, 66, 67, 41] then (4, 0, 0) else if w = [40, 68, 69, 41] then (4, 1, 0) else if w = [40, 72, 76, 41] then (4, 2, 0) else
  if w = [40, 83, 80, 41] then (4, 3, 0) else if w = [40, 67, 41] then (4, 8, 0) else if w = [73] then (9, 0, 0) else if w = [82] then (9, 1, 0) else (6, 0, ((w.headD 0).toNat : Int) - 48)
def fieldT (c : UInt8) (n : Int) : Option Tr :=
  if c = 114 ∨ c = 115 then some (regT n) else if c = 112 then some (3, n, 0) else if c = 113 then some (pushT n) else if c = 99 ∨ c = 107 then some (8, n, 0) else if c = 98 then some (6, 0, n) else if c = 116 then some (6, 0, 8 * n) else none
def opT (p : Pat) (op : Int) (w : Str) : Tr × Str :=
  if w = [101] then ((10, 0, 0), w) else if w = [110] ∨ w = [119] then ((6, 0, 0), w) else if w = [40, 110, 41] ∨ w = [40, 119, 41] then ((7, 0, 0), (w.drop 1).take 1) else
  match fieldT (w.headD 0) (numP p.1 op (w.headD 0)) with
  | some t => (t, [])
  | none => (fixedT w, [])
theorem opd_start (w : World) : ∃ w0, w.alloc (.cells #[.int .i64 0, .int .i64 0, .int .i64 0] 56) = w0 ∧ OpdAt w0 w.heap.size ∧ Below w.heap.size w w0 ∧ w0.heap.size = w.heap.size + 1 :=
  ⟨_, rfl, World.alloc_heap_new w _, (Below.refl _ w).alloc (Nat.le_refl _) _, by simp⟩
theorem fixed_c (word : Str) (hw : word ∈ ([[65], [68, 69], [72, 76], [83, 80], [65, 70], [65, 70, 39], [40, 66, 67, 41], [40, 68, 69, 41], [40, 72, 76, 41], [40, 83, 80, 41], [40, 67, 41], [48], [49], [50]] : List Str)) (w : World) : Calls Tryz.prog 190 #[.string (sB word)] w (RetTr w (fixedT word)) := by
  obtain ⟨w0, hw0, S0, B0, Z0⟩ := opd_start w
  obtain ⟨n, hn⟩ : ∃ n, w.heap.size = n := ⟨_, rfl⟩
  rw [hn] at S0 B0 Z0
  have S0 := Lib.hid S0
  have B0 := Lib.hid B0
  have HN := Lib.hid hn
  have hix : ∀ w, (Instr.index 9 (.string (sB word)) (.int .i64 0)).run Tryz.prog w = .ok (.int .u8 ((word.headD 0).toNat : Int)) w := by
    simp only [List.mem_cons, List.not_mem_nil, or_false] at hw
    rcases hw with rfl | rfl | rfl | rfl | rfl | rfl | rfl | rfl | rfl | rfl | rfl | rfl | rfl | rfl
    all_goals exact fun _ => by kernel_rfl
  obtain ⟨⟨a, b, c⟩, ht⟩ : ∃ t : Tr, fixedT word = t := ⟨_, rfl⟩
  rw [ht]
  simp only [List.mem_cons, List.not_mem_nil, or_false] at hw
  rcases hw with rfl | rfl | rfl | rfl | rfl | rfl | rfl | rfl | rfl | rfl | rfl | rfl | rfl | rfl
  all_goals
    unfold sB at hix ⊢
    simp only [List.headD_cons] at hix
    go_enter Tryz.func190, Tryz.ntmps190
    go_wp2_with fail
    refine Calls.mono (?_ : Calls _ _ _ _ (RetTr w0 (a, b, c))) ?_
    · rw [← ht]
      first
        | exact register_any _ w0
        | exact pair_any _ w0
        | exact tpointer_any _ w0
        | exact value_any _ w0
    clear ht
    rintro e w1 ⟨rfl, hb1⟩
    have S1 : Hid (OpdAt w1 n) := S0.out.below hb1
    have B1 : Hid (Below n w w1) := B0.out.trans (hb1.mono (by omega))
    clear hb1 hw0 S0 B0 Z0 hn
    simp only [trV]
    obtain ⟨c0, c1, c2, c3⟩ := S1.out.cells
    go_wp2
    obtain ⟨w3, hw3, hc3, hb3, -⟩ := opd_set S1.out a b c
    rw [hw3]
    have r0 := Lib.cell_of_heap hc3 0
    have r1 := Lib.cell_of_heap hc3 1
    have r2 := Lib.cell_of_heap hc3 2
    refine bodyPost_ret (v := trV (a, b, c)) ?_ rfl ?_
    · simp [results, Tryz.results190, go_sem, r0, r1, r2, trV]
    · exact ⟨rfl, by rw [HN.out]; exact B1.out.trans hb3⟩
theorem fixed_d (word : Str) (hw : word ∈ ([[73], [82]] : List Str)) (w : World) : Calls Tryz.prog 190 #[.string (sB word)] w (RetTr w (fixedT word)) := by
  simp only [List.mem_cons, List.not_mem_nil, or_false] at hw
  rcases hw with rfl | rfl
  · go_enter Tryz.func190, Tryz.ntmps190
    unfold sB
    go_wp2
    refine bodyPost_ret (v := trV (9, 0, 0)) ?_ rfl ?_
    · simp [results, Tryz.results190, go_sem, trV]
    · exact ⟨rfl, (Below.refl _ _).alloc (Nat.le_refl _) _⟩
  · go_enter Tryz.func190, Tryz.ntmps190
    unfold sB
    go_wp2
    refine bodyPost_ret (v := trV (9, 1, 0)) ?_ rfl ?_
    · simp [results, Tryz.results190, go_sem, trV]
    · exact ⟨rfl, (Below.refl _ _).alloc (Nat.le_refl _) _⟩
def wordsFx : List Str := [[65], [68, 69], [72, 76], [83, 80], [65, 70], [65, 70, 39], [40, 66, 67, 41], [40, 68, 69, 41], [40, 72, 76, 41], [40, 83, 80, 41], [40, 67, 41], [48], [49], [50], [73], [82]]
theorem fixed_any (word : Str) (hw : word ∈ wordsFx) (w : World) : Calls Tryz.prog 190 #[.string (sB word)] w (RetTr w (fixedT word)) := by
  have h : word ∈ ([[65], [68, 69], [72, 76], [83, 80], [65, 70], [65, 70, 39], [40, 66, 67, 41], [40, 68, 69, 41], [40, 72, 76, 41], [40, 83, 80, 41], [40, 67, 41], [48], [49], [50]] : List Str) ++ [[73], [82]] := hw
  rcases List.mem_append.1 h with h | h
  · exact fixed_c word h w
  · exact fixed_d word h w
end Go.Proofs.YtclhaejdjogfbaaGreatDoor
namespace Go.Proofs.YtclhaejdjogfbaaGreatDoor
open Go.RowKit Go.Shelf
attribute [local irreducible] Go.Mixed.wpMix
theorem field_read (p : Pat) (op : Int) {z : Int} {F : FuncId} (h : (z, F) ∈ ([(114, 196), (115, 196), (112, 197), (113, 198), (99, 199), (107, 199), (98, 200), (116, 201)] : List (Int × FuncId))) (w : World) : Calls Tryz.prog 189 #[codeV p op, .int .u8 z] w fun e w' => e = .returned (.func (.func F) #[codeV p op] #[]) ∧ Below w.heap.size w w' := by
  simp only [List.mem_cons, List.not_mem_nil, or_false, Prod.mk.injEq] at h
  unfold codeV
  rcases h with ⟨rfl, rfl⟩ | ⟨rfl, rfl⟩ | ⟨rfl, rfl⟩ | ⟨rfl, rfl⟩ | ⟨rfl, rfl⟩ | ⟨rfl, rfl⟩ | ⟨rfl, rfl⟩ | ⟨rfl, rfl⟩
  all_goals
    go_enter Tryz.func189, Tryz.ntmps189
    go_wp2
    go_ret
    exact ⟨rfl, (Below.refl _ _).alloc (Nat.le_refl _) _⟩
theorem field_nil (p : Pat) (op : Int) {z : Int} (h : z ∈ ([65, 68, 72, 83, 40, 73, 82, 48, 49, 50] : List Int)) (w : World) : Calls Tryz.prog 189 #[codeV p op, .int .u8 z] w fun e w' => e = .returned .nilFunc ∧ Below w.heap.size w w' := by
  unfold codeV
  simp only [List.mem_cons, List.not_mem_nil, or_false] at h
  rcases h with rfl | rfl | rfl | rfl | rfl | rfl | rfl | rfl | rfl | rfl
  all_goals
    go_enter Tryz.func189, Tryz.ntmps189
    go_wp2
    go_ret
    exact ⟨rfl, (Below.refl _ _).alloc (Nat.le_refl _) _⟩
theorem operand_nil (p : Pat) (op : Int) (s : ByteArray) (z : Int) (x : Tr) (q1 : (s.toList == [101]) = false) (q2 : (s.toList == [110]) = false) (q3 : (s.toList == [119]) = false) (q4 : (s.toList == [40, 110, 41]) = false) (q5 : (s.toList == [40, 119, 41]) = false) (hix : ∀ w, (Instr.index 9 (.string s) (.int .i64 0)).run Tryz.prog w = .ok (.int .u8 z) w) (hz : z ∈ ([65, 68, 72, 83, 40, 73, 82, 48, 49, 50] : List Int)) (hx : ∀ w, Calls Tryz.prog 190 #[.string s] w (RetTr w x)) (w : World) : Calls Tryz.prog 172 #[codeV p op, .string s] w
    fun e w' => e = .returned (.tuple #[trV x, .string ⟨#[]⟩]) ∧ Below w.heap.size w w' := by
  have FI := Lib.hid fun w => field_nil p op hz w
  have FX := Lib.hid hx
  clear hz hx
  obtain ⟨a, b, c⟩ := x
  unfold codeV at FI
  unfold codeV
  obtain ⟨w0, hw0, S0, B0, Z0, C0⟩ := code_start w p op
  obtain ⟨n, hn⟩ : ∃ n, w.heap.size = n := ⟨_, rfl⟩
  rw [hn] at S0 B0 Z0 C0
  have k0 := Lib.cell_of_heap C0 0
  have k1 := Lib.cell_of_heap C0 1
  have k2 := Lib.cell_of_heap C0 2
  obtain ⟨c0, c1, c2, c3⟩ := S0.cells
  have S0 := Lib.hid S0
  have B0 := Lib.hid B0
  have HN := Lib.hid hn
  go_enter Tryz.func172, Tryz.ntmps172
  go_wp2
  go_still_tail 3, (by kernel_rfl)
  change wpList _ _ _ _ _ w0.drew
  obtain ⟨w1, hw1⟩ : ∃ w1, w0.drew = w1 := ⟨_, rfl⟩
  have S1 : Hid (OpdAt w1 (n + 1)) := by rw [← hw1]; exact S0.out
  have B1 : Hid (Below n w w1) := by rw [← hw1]; exact B0.out.drew
  have Z1 : w1.heap.size = n + 2 := by rw [← hw1]; exact Z0
  rw [hw1]
  clear S0 B0 C0 hw0 hw1 Z0 c0 c1 c2 c3 k0 k1 k2
  go_wp2_with fail
  refine (FI.out w1).mono ?_
  rintro e w2 ⟨rfl, hb2⟩
  have S2 : Hid (OpdAt w2 (n + 1)) := S1.out.below hb2
  have B2 : Hid (Below n w w2) := B1.out.trans (hb2.mono (by omega))
  have Z2 : Hid (n + 2 ≤ w2.heap.size) := by have := hb2.size; show _ ≤ _; omega
  clear hb2 S1 B1 Z1
  have hne : ∀ w, (binOp .neq 231 .nilFunc .nilFunc).run Tryz.prog w = .ok (.bool false) w := fun _ => by kernel_rfl
  go_wp2_with fail
  refine (FX.out w2).mono ?_
  rintro e w4 ⟨rfl, hb4⟩
  have S4 : Hid (OpdAt w4 (n + 1)) := S2.out.below hb4
  have B4 : Hid (Below n w w4) := B2.out.trans (hb4.mono (by have := Z2.out; omega))
  clear hb4 S2 B2 Z2
  simp only [trV]
  obtain ⟨c0, c1, c2, c3⟩ := S4.out.cells
  go_wp2
  obtain ⟨w3, hw3, hc3, hb3, -⟩ := opd_set S4.out a b c
  rw [hw3]
  have r0 := Lib.cell_of_heap hc3 0
  have r1 := Lib.cell_of_heap hc3 1
  have r2 := Lib.cell_of_heap hc3 2
  refine bodyPost_ret (v := .tuple #[trV (a, b, c), .string ⟨#[]⟩]) ?_ rfl ?_
  · simp [results, Tryz.results172, go_sem, r0, r1, r2, trV]
  · exact ⟨rfl, by rw [HN.out]; exact B4.out.trans (hb3.mono (by omega))⟩
theorem operand_read (p : Pat) (op : Int) (s : ByteArray) (z : Int) (x : Tr) (q1 : (s.toList == [101]) = false) (q2 : (s.toList == [110]) = false) (q3 : (s.toList == [119]) = false) (q4 : (s.toList == [40, 110, 41]) = false) (q5 : (s.toList == [40, 119, 41]) = false) (hix : ∀ w, (Instr.index 9 (.string s) (.int .i64 0)).run Tryz.prog w = .ok (.int .u8 z) w) (F : FuncId) (he : ∀ args w, (callFunc F args).run Tryz.prog w = .ok (.enter F args) w) (hz : (z, F) ∈ ([(114, 196), (115, 196), (112, 197), (113, 198), (99, 199), (107, 199), (98, 200), (116, 201)] : List (Int × FuncId))) (hx : ∀ w, Calls Tryz.prog F #[codeV p op, .int .u8 z] w (RetTr w x)) (w : World) : Calls Tryz.prog 172 #[codeV p op, .string s] w
    fun e w' => e = .returned (.tuple #[trV x, .string ⟨#[]⟩]) ∧ Below w.heap.size w w' := by
  have FI := Lib.hid fun w => field_read p op hz w
  have FX := Lib.hid hx
  clear hz hx
  obtain ⟨a, b, c⟩ := x
  unfold codeV at FI FX
  unfold codeV
  obtain ⟨w0, hw0, S0, B0, Z0, C0⟩ := code_start w p op
  obtain ⟨n, hn⟩ : ∃ n, w.heap.size = n := ⟨_, rfl⟩
  rw [hn] at S0 B0 Z0 C0
  have k0 := Lib.cell_of_heap C0 0
  have k1 := Lib.cell_of_heap C0 1
  have k2 := Lib.cell_of_heap C0 2
  obtain ⟨c0, c1, c2, c3⟩ := S0.cells
  have S0 := Lib.hid S0
  have B0 := Lib.hid B0
  have HN := Lib.hid hn
  go_enter Tryz.func172, Tryz.ntmps172
  go_wp2
  go_still_tail 3, (by kernel_rfl)
  change wpList _ _ _ _ _ w0.drew
  obtain ⟨w1, hw1⟩ : ∃ w1, w0.drew = w1 := ⟨_, rfl⟩
  have S1 : Hid (OpdAt w1 (n + 1)) := by rw [← hw1]; exact S0.out
  have B1 : Hid (Below n w w1) := by rw [← hw1]; exact B0.out.drew
  have Z1 : w1.heap.size = n + 2 := by rw [← hw1]; exact Z0
  rw [hw1]
  clear S0 B0 C0 hw0 hw1 Z0 c0 c1 c2 c3 k0 k1 k2
  go_wp2_with fail
  refine (FI.out w1).mono ?_
  rintro e w2 ⟨rfl, hb2⟩
  have S2 : Hid (OpdAt w2 (n + 1)) := S1.out.below hb2
  have B2 : Hid (Below n w w2) := B1.out.trans (hb2.mono (by omega))
  have Z2 : Hid (n + 2 ≤ w2.heap.size) := by have := hb2.size; show _ ≤ _; omega
  clear hb2 S1 B1 Z1
  have hne : ∀ w, (binOp .neq 231 (.func (.func F) #[.agg #[.string (sB p.1), .string (sB p.2), .int .u8 op]] #[]) .nilFunc).run Tryz.prog w = .ok (.bool true) w := fun _ => by kernel_rfl
  go_wp2_with fail
  refine (FX.out w2).mono ?_
  rintro e w4 ⟨rfl, hb4⟩
  have S4 : Hid (OpdAt w4 (n + 1)) := S2.out.below hb4
  have B4 : Hid (Below n w w4) := B2.out.trans (hb4.mono (by have := Z2.out; omega))
  clear hb4 S2 B2 Z2
  simp only [trV]
  obtain ⟨c0, c1, c2, c3⟩ := S4.out.cells
  go_wp2
  obtain ⟨w3, hw3, hc3, hb3, -⟩ := opd_set S4.out a b c
  rw [hw3]
  have r0 := Lib.cell_of_heap hc3 0
  have r1 := Lib.cell_of_heap hc3 1
  have r2 := Lib.cell_of_heap hc3 2
  refine bodyPost_ret (v := .tuple #[trV (a, b, c), .string ⟨#[]⟩]) ?_ rfl ?_
  · simp [results, Tryz.results172, go_sem, r0, r1, r2, trV]
  · exact ⟨rfl, by rw [HN.out]; exact B4.out.trans (hb3.mono (by omega))⟩
theorem operand_e (p : Pat) (op : Int) (w : World) : Calls Tryz.prog 172 #[codeV p op, .string ⟨#[101]⟩] w
    fun e w' => e = .returned (.tuple #[trV (10, 0, 0), .string ⟨#[101]⟩]) ∧ Below w.heap.size w w' := by
  unfold codeV
  obtain ⟨w0, hw0, S0, B0, Z0, C0⟩ := code_start w p op
  obtain ⟨n, hn⟩ : ∃ n, w.heap.size = n := ⟨_, rfl⟩
  rw [hn] at S0 B0 Z0 C0
  have k0 := Lib.cell_of_heap C0 0
  have k1 := Lib.cell_of_heap C0 1
  have k2 := Lib.cell_of_heap C0 2
  obtain ⟨c0, c1, c2, c3⟩ := S0.cells
  have S0 := Lib.hid S0
  have B0 := Lib.hid B0
  have HN := Lib.hid hn
  go_enter Tryz.func172, Tryz.ntmps172
  go_wp2
  obtain ⟨w3, hw3, hc3, hb3, -⟩ := opd_set S0.out 10 0 0
  rw [hw3]
  have r0 := Lib.cell_of_heap hc3 0
  have r1 := Lib.cell_of_heap hc3 1
  have r2 := Lib.cell_of_heap hc3 2
  refine bodyPost_ret (v := .tuple #[trV (10, 0, 0), .string ⟨#[101]⟩]) ?_ rfl ?_
  · simp [results, Tryz.results172, go_sem, r0, r1, r2, trV]
  · exact ⟨rfl, by rw [HN.out]; exact B0.out.trans (hb3.mono (by omega))⟩
theorem operand_n (p : Pat) (op : Int) (z : UInt8) (hz : z = 110 ∨ z = 119) (w : World) : Calls Tryz.prog 172 #[codeV p op, .string ⟨#[z]⟩] w
    fun e w' => e = .returned (.tuple #[trV (6, 0, 0), .string ⟨#[z]⟩]) ∧ Below w.heap.size w w' := by
  unfold codeV
  obtain ⟨w0, hw0, S0, B0, Z0, C0⟩ := code_start w p op
  obtain ⟨n, hn⟩ : ∃ n, w.heap.size = n := ⟨_, rfl⟩
  rw [hn] at S0 B0 Z0 C0
  have k0 := Lib.cell_of_heap C0 0
  have k1 := Lib.cell_of_heap C0 1
  have k2 := Lib.cell_of_heap C0 2
  obtain ⟨c0, c1, c2, c3⟩ := S0.cells
  have S0 := Lib.hid S0
  have B0 := Lib.hid B0
  have HN := Lib.hid hn
  obtain ⟨vz, hvz⟩ : ∃ v, Value.string ⟨#[z]⟩ = v := ⟨_, rfl⟩
  have HZ : Hid (Value.string ⟨#[z]⟩ = vz) := hvz
  clear hvz
  clear c0 c1 c2 c3 k0 k1 k2
  rcases hz with rfl | rfl
  all_goals
    go_enter Tryz.func172, Tryz.ntmps172
    go_wp2_with fail
    refine (value_any _ w0).mono ?_
    rintro e w2 ⟨rfl, hb2⟩
    have S2 : Hid (OpdAt w2 (n + 1)) := S0.out.below hb2
    have B2 : Hid (Below n w w2) := B0.out.trans (hb2.mono (by omega))
    clear hb2 S0 B0 Z0 hw0
    simp only [trV]
    obtain ⟨c0, c1, c2, c3⟩ := S2.out.cells
    go_wp2
    obtain ⟨w3, hw3, hc3, hb3, -⟩ := opd_set S2.out 6 0 0
    rw [hw3]
    have r0 := Lib.cell_of_heap hc3 0
    have r1 := Lib.cell_of_heap hc3 1
    have r2 := Lib.cell_of_heap hc3 2
    refine bodyPost_ret (v := .tuple #[trV (6, 0, 0), vz]) ?_ rfl ?_
    · rw [← HZ.out]
      simp [results, Tryz.results172, go_sem, r0, r1, r2, trV]
    · exact ⟨by rw [← HZ.out], by rw [HN.out]; exact B2.out.trans (hb3.mono (by omega))⟩
theorem operand_m (p : Pat) (op : Int) (z : UInt8) (hz : z = 110 ∨ z = 119) (w : World) : Calls Tryz.prog 172 #[codeV p op, .string ⟨#[40, z, 41]⟩] w
    fun e w' => e = .returned (.tuple #[trV (7, 0, 0), .string ⟨#[z]⟩]) ∧ Below w.heap.size w w' := by
  unfold codeV
  obtain ⟨w0, hw0, S0, B0, Z0, C0⟩ := code_start w p op
  obtain ⟨n, hn⟩ : ∃ n, w.heap.size = n := ⟨_, rfl⟩
  rw [hn] at S0 B0 Z0 C0
  have k0 := Lib.cell_of_heap C0 0
  have k1 := Lib.cell_of_heap C0 1
  have k2 := Lib.cell_of_heap C0 2
  obtain ⟨c0, c1, c2, c3⟩ := S0.cells
  have S0 := Lib.hid S0
  have B0 := Lib.hid B0
  have HN := Lib.hid hn
  obtain ⟨vz, hvz⟩ : ∃ v, Value.string ⟨#[z]⟩ = v := ⟨_, rfl⟩
  have HZ : Hid (Value.string ⟨#[z]⟩ = vz) := hvz
  clear hvz
  rcases hz with rfl | rfl
  all_goals
    go_enter Tryz.func172, Tryz.ntmps172
    go_wp2
    obtain ⟨w1, hw1⟩ : ∃ w1, w0.drew = w1 := ⟨_, rfl⟩
    have S1 : Hid (OpdAt w1 (n + 1)) := by rw [← hw1]; exact S0.out
    have B1 : Hid (Below n w w1) := by rw [← hw1]; exact B0.out.drew
    have Z1 : w1.heap.size = n + 2 := by rw [← hw1]; exact Z0
    refine Mixed.wp_region_mixed (fun _ => True) 4 [(0, true), (1, true), (2, true), (3, false)] (by kernel_rfl) (by kernel_rfl) trivial ?_
    rw [hw1]
    clear S0 B0 C0 hw0 hw1 Z0 c0 c1 c2 c3 k0 k1 k2
    obtain ⟨c0, c1, c2, c3⟩ := S1.out.cells
    refine Mixed.wpMix_pure rfl (by kernel_rfl) (.agg #[.int .i64 7, .int .i64 0, .int .i64 0]) (fun w h => by kernel_rfl) ?_
    refine Mixed.wpMix_move rfl (by kernel_rfl) _ rfl _ rfl ?_
    refine Mixed.wpMix_pure rfl (by kernel_rfl) vz (fun w h => by rw [← HZ.out]; kernel_rfl) ?_
    refine Mixed.wpMix_loudG rfl (by kernel_rfl) ?_
    go_wp2
    refine ⟨trivial, ?_⟩
    simp only [Mixed.wpMix, List.drop_succ_cons, List.drop_zero]
    go_wp2
    obtain ⟨w3, hw3, hc3, hb3, -⟩ := opd_set S1.out 7 0 0
    rw [hw3]
    have r0 := Lib.cell_of_heap hc3 0
    have r1 := Lib.cell_of_heap hc3 1
    have r2 := Lib.cell_of_heap hc3 2
    refine bodyPost_ret (v := .tuple #[trV (7, 0, 0), vz]) ?_ rfl ?_
    · rw [← HZ.out]
      simp [results, Tryz.results172, go_sem, r0, r1, r2, trV]
    · exact ⟨by rw [← HZ.out], by rw [HN.out]; exact B1.out.trans (hb3.mono (by omega))⟩
def wordsAll : List Str := [[101], [110], [119], [40, 110, 41], [40, 119, 41], [114], [115], [112], [113], [99], [107], [98], [116], [65], [68, 69], [72, 76], [83, 80], [65, 70], [65, 70, 39], [40, 66, 67, 41], [40, 68, 69, 41], [40, 72, 76, 41], [40, 83, 80, 41], [40, 67, 41], [73], [82], [48], [49], [50]]
theorem operand_fix (p : Pat) (op : Int) (word : Str) (hF : word ∈ wordsFx) (w : World) : Calls Tryz.prog 172 #[codeV p op, .string (sB word)] w
    fun e w' => e = .returned (.tuple #[trV (opT p op word).1, .string (sB (opT p op word).2)]) ∧ Below w.heap.size w w' := by
  have e : opT p op word = (fixedT word, []) := by
    unfold wordsFx at hF
    simp only [List.mem_cons, List.not_mem_nil, or_false] at hF
    rcases hF with rfl | rfl | rfl | rfl | rfl | rfl | rfl | rfl | rfl | rfl | rfl | rfl | rfl | rfl | rfl | rfl <;> rfl
  rw [e]
  refine operand_nil p op (sB word) ((word.headD 0).toNat : Int) (fixedT word) ?_ ?_ ?_ ?_ ?_ ?_ ?_ (fixed_any word hF) w
  all_goals
    unfold wordsFx at hF
    simp only [List.mem_cons, List.not_mem_nil, or_false] at hF
    rcases hF with rfl | rfl | rfl | rfl | rfl | rfl | rfl | rfl | rfl | rfl | rfl | rfl | rfl | rfl | rfl | rfl <;> first | exact fun _ => by kernel_rfl | kernel_rfl | decide
theorem operand_any (p : Pat) (hl : p.1.length = 8) (op : Int) (h0 : 0 ≤ op) (h1 : op ≤ 255) (word : Str) (hw : word ∈ wordsAll) (w : World) : Calls Tryz.prog 172 #[codeV p op, .string (sB word)] w
    fun e w' => e = .returned (.tuple #[trV (opT p op word).1, .string (sB (opT p op word).2)]) ∧ Below w.heap.size w w' := by
  unfold wordsAll at hw
  simp only [List.mem_cons, List.not_mem_nil, or_false] at hw
  rcases hw with rfl | rfl | rfl | rfl | rfl | rfl | rfl | rfl | rfl | rfl | rfl | rfl | rfl | rfl | rfl | rfl | rfl | rfl | rfl | rfl | rfl | rfl | rfl | rfl | rfl | rfl | rfl | rfl | rfl
  · exact operand_e p op w
  · exact operand_n p op 110 (.inl rfl) w
  · exact operand_n p op 119 (.inr rfl) w
  · exact operand_m p op 110 (.inl rfl) w
  · exact operand_m p op 119 (.inr rfl) w
  · exact operand_read p op ⟨#[114]⟩ 114 _ (by kernel_rfl) (by kernel_rfl) (by kernel_rfl) (by kernel_rfl) (by kernel_rfl) (fun _ => by kernel_rfl) 196 (fun _ _ => by kernel_rfl) (by decide) (fun w => cregister_any p hl op h0 h1 114 w) w
  · exact operand_read p op ⟨#[115]⟩ 115 _ (by kernel_rfl) (by kernel_rfl) (by kernel_rfl) (by kernel_rfl) (by kernel_rfl) (fun _ => by kernel_rfl) 196 (fun _ _ => by kernel_rfl) (by decide) (fun w => cregister_any p hl op h0 h1 115 w) w
  · exact operand_read p op ⟨#[112]⟩ 112 _ (by kernel_rfl) (by kernel_rfl) (by kernel_rfl) (by kernel_rfl) (by kernel_rfl) (fun _ => by kernel_rfl) 197 (fun _ _ => by kernel_rfl) (by decide) (fun w => cpair_any p hl op h0 h1 112 w) w
  · exact operand_read p op ⟨#[113]⟩ 113 _ (by kernel_rfl) (by kernel_rfl) (by kernel_rfl) (by kernel_rfl) (by kernel_rfl) (fun _ => by kernel_rfl) 198 (fun _ _ => by kernel_rfl) (by decide) (fun w => cpushed_any p hl op h0 h1 113 w) w
  · exact operand_read p op ⟨#[99]⟩ 99 _ (by kernel_rfl) (by kernel_rfl) (by kernel_rfl) (by kernel_rfl) (by kernel_rfl) (fun _ => by kernel_rfl) 199 (fun _ _ => by kernel_rfl) (by decide) (fun w => ccond_any p hl op h0 h1 99 w) w
  · exact operand_read p op ⟨#[107]⟩ 107 _ (by kernel_rfl) (by kernel_rfl) (by kernel_rfl) (by kernel_rfl) (by kernel_rfl) (fun _ => by kernel_rfl) 199 (fun _ _ => by kernel_rfl) (by decide) (fun w => ccond_any p hl op h0 h1 107 w) w
  · exact operand_read p op ⟨#[98]⟩ 98 _ (by kernel_rfl) (by kernel_rfl) (by kernel_rfl) (by kernel_rfl) (by kernel_rfl) (fun _ => by kernel_rfl) 200 (fun _ _ => by kernel_rfl) (by decide) (fun w => cbit_any p hl op h0 h1 98 w) w
  · exact operand_read p op ⟨#[116]⟩ 116 _ (by kernel_rfl) (by kernel_rfl) (by kernel_rfl) (by kernel_rfl) (by kernel_rfl) (fun _ => by kernel_rfl) 201 (fun _ _ => by kernel_rfl) (by decide) (fun w => crestart_any p hl op h0 h1 116 (numP_bd p.1 op h0 h1 116).1 (numP_bd p.1 op h0 h1 116).2 w) w
  all_goals exact operand_fix p op _ (by decide) w
end Go.Proofs.YtclhaejdjogfbaaGreatDoor
namespace Go.Proofs.YtclhaejdjogfbaaGreatDoor
open Go.RowKit Go.Shelf
def arN (n : Nat) : Str := ([[65, 68, 68], [65, 68, 67], [83, 85, 66], [83, 66, 67], [65, 78, 68], [88, 79, 82], [79, 82], [67, 80]] : List Str).getD n []
def arB (n : Nat) : Str := ([[65, 44], [65, 44], [], [65, 44], [], [], [], []] : List Str).getD n []
def roN (n : Nat) : Str := ([[82, 76, 67], [82, 82, 67], [82, 76], [82, 82], [83, 76, 65], [83, 82, 65], [83, 76, 76], [83, 82, 76]] : List Str).getD n []
theorem sB_eq (l k : Str) : ((sB l).toList == k) = decide (l = k) := by
  rw [ByteArray.toList_eq]
  show (l.toArray.toList == k) = _
  rw [List.toList_toArray]
  by_cases h : l = k
  · subst h; simp
  · rw [decide_eq_false h]; simpa using h
theorem arithmetic_of (p : Pat) (hl : p.1.length = 8) (op : Int) (h0 : 0 ≤ op) (h1 : op ≤ 255) (k : Int) (s : ByteArray) (t1 t2 t3 : Bool) (hn : numP p.1 op 97 = k) (hix : ∀ w, (Instr.index 225 (.agg #[.string ⟨#[65, 68, 68]⟩, .string ⟨#[65, 68, 67]⟩, .string ⟨#[83, 85, 66]⟩, .string ⟨#[83, 66, 67]⟩, .string ⟨#[65, 78, 68]⟩, .string ⟨#[88, 79, 82]⟩, .string ⟨#[79, 82]⟩, .string ⟨#[67, 80]⟩]) (.int .i64 k)).run Tryz.prog w = .ok (.string s) w) (q1 : (s.toList == [65, 68, 68]) = t1) (q2 : (s.toList == [65, 68, 67]) = t2) (q3 : (s.toList == [83, 66, 67]) = t3) (w : World) : Calls Tryz.prog 177 #[codeV p op] w
    fun e w' => e = .returned (.tuple #[.string s, .string (if t1 || t2 || t3 then ⟨#[65, 44]⟩ else ⟨#[]⟩)]) ∧ Below w.heap.size w w' := by
  unfold codeV
  obtain ⟨w0, hw0⟩ : ∃ w0, w.alloc (.cells #[.string (sB p.1), .string (sB p.2), .int .u8 op] 166) = w0 := ⟨_, rfl⟩
  have B0 : Hid (Below w.heap.size w w0) := by rw [← hw0]; exact (Below.refl _ _).alloc (Nat.le_refl _) _
  have C0 : w0.heap[w.heap.size]? = some (.cells #[.string (sB p.1), .string (sB p.2), .int .u8 op] 166 (0, 0)) := by rw [← hw0]; exact World.alloc_heap_new w _
  have k0 := Lib.cell_of_heap C0 0
  have k1 := Lib.cell_of_heap C0 1
  have k2 := Lib.cell_of_heap C0 2
  have hnum := number_any p.1 p.2 hl op h0 h1 97 w0
  rw [hn] at hnum
  have Z0 := B0.out.size
  clear C0
  go_enter Tryz.func177, Tryz.ntmps177
  go_wp2_with fail
  refine hnum.mono ?_
  rintro e w1 ⟨rfl, hb1⟩
  have B1 : Hid (Below w.heap.size w w1) := B0.out.trans (hb1.mono Z0)
  clear hb1 hnum hw0 B0 Z0 k0 k1 k2
  cases t1 <;> cases t2 <;> cases t3
  all_goals
    go_wp2
    go_ret2
    exact ⟨rfl, B1.out⟩
theorem lt8 {n : Int} (h0 : 0 ≤ n) (h1 : n ≤ 7) : n = 0 ∨ n = 1 ∨ n = 2 ∨ n = 3 ∨ n = 4 ∨ n = 5 ∨ n = 6 ∨ n = 7 := by omega
theorem arithmetic_any (p : Pat) (hl : p.1.length = 8) (op : Int) (h0 : 0 ≤ op) (h1 : op ≤ 255) (hn : numP p.1 op 97 ≤ 7) (w : World) : Calls Tryz.prog 177 #[codeV p op] w
    fun e w' => e = .returned (.tuple #[.string (sB (arN (numP p.1 op 97).toNat)), .string (sB (arB (numP p.1 op 97).toNat))]) ∧ Below w.heap.size w w' := by
  rcases lt8 (numP_bd p.1 op h0 h1 97).1 hn with h | h | h | h | h | h | h | h
  · rw [h]
    exact arithmetic_of p hl op h0 h1 0 (sB (arN 0)) true false false h (fun _ => by kernel_rfl) (by kernel_rfl) (by kernel_rfl) (by kernel_rfl) w
  · rw [h]
    exact arithmetic_of p hl op h0 h1 1 (sB (arN 1)) false true false h (fun _ => by kernel_rfl) (by kernel_rfl) (by kernel_rfl) (by kernel_rfl) w
  · rw [h]
    exact arithmetic_of p hl op h0 h1 2 (sB (arN 2)) false false false h (fun _ => by kernel_rfl) (by kernel_rfl) (by kernel_rfl) (by kernel_rfl) w
  · rw [h]
    exact arithmetic_of p hl op h0 h1 3 (sB (arN 3)) false false true h (fun _ => by kernel_rfl) (by kernel_rfl) (by kernel_rfl) (by kernel_rfl) w
  · rw [h]
    exact arithmetic_of p hl op h0 h1 4 (sB (arN 4)) false false false h (fun _ => by kernel_rfl) (by kernel_rfl) (by kernel_rfl) (by kernel_rfl) w
  · rw [h]
    exact arithmetic_of p hl op h0 h1 5 (sB (arN 5)) false false false h (fun _ => by kernel_rfl) (by kernel_rfl) (by kernel_rfl) (by kernel_rfl) w
  · rw [h]
    exact arithmetic_of p hl op h0 h1 6 (sB (arN 6)) false false false h (fun _ => by kernel_rfl) (by kernel_rfl) (by kernel_rfl) (by kernel_rfl) w
  · rw [h]
    exact arithmetic_of p hl op h0 h1 7 (sB (arN 7)) false false false h (fun _ => by kernel_rfl) (by kernel_rfl) (by kernel_rfl) (by kernel_rfl) w
def wordsT (p : Pat) (op : Int) : Str × Str × Str :=
  if (cutL [32] p.2).1 = [97] then (arN (numP p.1 op 97).toNat, arB (numP p.1 op 97).toNat, (cutL [32] p.2).2.1) else
  if (cutL [32] p.2).1 = [111] then (roN (numP p.1 op 111).toNat, [], (cutL [32] p.2).2.1) else ((cutL [32] p.2).1, [], (cutL [32] p.2).2.1)
def RetWords (w : World) (x : Str × Str × Str) (e : Ending) (w' : World) : Prop := e = .returned (.tuple #[.string (sB x.1), .string (sB x.2.1), .string (sB x.2.2)]) ∧ Below w.heap.size w w'
theorem words_start (w : World) (p : Pat) (op : Int) : ∃ w0, w.alloc (.cells #[.string (sB p.1), .string (sB p.2), .int .u8 op] 166) = w0 ∧ Below w.heap.size w w0 ∧ w0.heap.size = w.heap.size + 1 ∧ w0.heap[w.heap.size]? = some (.cells #[.string (sB p.1), .string (sB p.2), .int .u8 op] 166 (0, 0)) :=
  ⟨_, rfl, (Below.refl _ _).alloc (Nat.le_refl _) _, by simp, World.alloc_heap_new w _⟩
theorem words_a (p : Pat) (hl : p.1.length = 8) (hf : p.2.length ≤ 100000) (op : Int) (h0 : 0 ≤ op) (h1 : op ≤ 255) (hn : numP p.1 op 97 ≤ 7) (hc : (cutL [32] p.2).1 = [97]) (w : World) (hM : MaxAt w) : Calls Tryz.prog 147 #[codeV p op] w (RetWords w (wordsT p op)) := by
  unfold codeV
  obtain ⟨w0, hw0, b0, Z0, c0⟩ := words_start w p op
  have hM0 := hM.below b0
  have hcut := cut_any p.2 [32] hf w0 hM0
  have k0 := Lib.cell_of_heap c0 0
  have k1 := Lib.cell_of_heap c0 1
  have k2 := Lib.cell_of_heap c0 2
  have B0 := Lib.hid b0
  have C0 := Lib.hid c0
  clear b0 c0
  obtain ⟨m, hm⟩ : ∃ m, (cutL [32] p.2).1 = m := ⟨_, rfl⟩
  obtain ⟨a, ha⟩ : ∃ a, (cutL [32] p.2).2.1 = a := ⟨_, rfl⟩
  obtain ⟨f, hf3⟩ : ∃ f, (cutL [32] p.2).2.2 = f := ⟨_, rfl⟩
  rw [hm, ha, hf3] at hcut
  rw [hc] at hm
  subst hm
  have E : Hid (wordsT p op = (arN (numP p.1 op 97).toNat, arB (numP p.1 op 97).toNat, a)) := by show wordsT p op = _; unfold wordsT; rw [if_pos hc, ha]
  have har := arithmetic_any p hl op h0 h1 hn
  obtain ⟨x, hx⟩ : ∃ x, arN (numP p.1 op 97).toNat = x := ⟨_, rfl⟩
  obtain ⟨y, hy⟩ : ∃ y, arB (numP p.1 op 97).toNat = y := ⟨_, rfl⟩
  rw [hx, hy] at har E
  simp only [codeV] at har
  have ht : ((sB [97]).toList == [97]) = true := by rw [sB_eq]; rfl
  clear hx hy ha hf3 hc
  go_enter Tryz.func147, Tryz.ntmps147
  go_wp2_with fail
  refine hcut.mono ?_
  rintro e w1 ⟨rfl, q, rfl⟩
  have B1 : Hid (Below w.heap.size w (w0.drewN q)) := below_dn B0.out q
  have D1 : (w0.drewN q).heap[w.heap.size]? = some (.cells #[.string (sB p.1), .string (sB p.2), .int .u8 op] 166 (0, 0)) := C0.out
  have Z1 : (w0.drewN q).heap.size = w.heap.size + 1 := Z0
  obtain ⟨w1, hw1⟩ : ∃ w1, w0.drewN q = w1 := ⟨_, rfl⟩
  rw [hw1] at B1 D1 Z1 ⊢
  clear hw1 hcut hw0 k0 k1 k2 B0 C0 Z0 hM0 w0 hM
  have k0 := Lib.cell_of_heap D1 0
  have k1 := Lib.cell_of_heap D1 1
  have k2 := Lib.cell_of_heap D1 2
  clear D1
  have har := har w1
  go_wp2_with fail
  refine har.mono ?_
  rintro e w2 ⟨rfl, hb2⟩
  have B2 : Hid (Below w.heap.size w w2) := B1.out.trans (hb2.mono (by omega))
  clear hb2 har B1 k0 k1 k2 Z1
  go_wp2
  go_ret3
  exact ⟨by rw [E.out]; rfl, B2.out⟩
theorem words_of (p : Pat) (hl : p.1.length = 8) (hf : p.2.length ≤ 100000) (op : Int) (h0 : 0 ≤ op) (h1 : op ≤ 255) (k : Int) (r : Str) (hn : numP p.1 op 111 = k) (hr : roN k.toNat = r) (hix : ∀ w, (Instr.index 225 (.agg #[.string ⟨#[82, 76, 67]⟩, .string ⟨#[82, 82, 67]⟩, .string ⟨#[82, 76]⟩, .string ⟨#[82, 82]⟩, .string ⟨#[83, 76, 65]⟩, .string ⟨#[83, 82, 65]⟩, .string ⟨#[83, 76, 76]⟩, .string ⟨#[83, 82, 76]⟩]) (.int .i64 k)).run Tryz.prog w = .ok (.string (sB r)) w) (hc : (cutL [32] p.2).1 = [111]) (w : World) (hM : MaxAt w) : Calls Tryz.prog 147 #[codeV p op] w (RetWords w (wordsT p op)) := by
  unfold codeV
  obtain ⟨w0, hw0, b0, Z0, c0⟩ := words_start w p op
  have hM0 := hM.below b0
  have hcut := cut_any p.2 [32] hf w0 hM0
  have k0 := Lib.cell_of_heap c0 0
  have k1 := Lib.cell_of_heap c0 1
  have k2 := Lib.cell_of_heap c0 2
  have B0 := Lib.hid b0
  have C0 := Lib.hid c0
  clear b0 c0
  obtain ⟨m, hm⟩ : ∃ m, (cutL [32] p.2).1 = m := ⟨_, rfl⟩
  obtain ⟨a, ha⟩ : ∃ a, (cutL [32] p.2).2.1 = a := ⟨_, rfl⟩
  obtain ⟨f, hf3⟩ : ∃ f, (cutL [32] p.2).2.2 = f := ⟨_, rfl⟩
  rw [hm, ha, hf3] at hcut
  rw [hc] at hm
  subst hm
  have E : Hid (wordsT p op = (r, [], a)) := by show wordsT p op = _; unfold wordsT; rw [if_neg (by rw [hc]; decide), if_pos hc, ha, hn, hr]
  have hnum := number_any p.1 p.2 hl op h0 h1 111
  rw [hn] at hnum
  have ht : ((sB [111]).toList == [97]) = false := by rw [sB_eq]; rfl
  have ht2 : ((sB [111]).toList == [111]) = true := by rw [sB_eq]; rfl
  clear ha hf3 hc
  go_enter Tryz.func147, Tryz.ntmps147
  go_wp2_with fail
  refine hcut.mono ?_
  rintro e w1 ⟨rfl, q, rfl⟩
  have B1 : Hid (Below w.heap.size w (w0.drewN q)) := below_dn B0.out q
  have D1 : (w0.drewN q).heap[w.heap.size]? = some (.cells #[.string (sB p.1), .string (sB p.2), .int .u8 op] 166 (0, 0)) := C0.out
  have Z1 : (w0.drewN q).heap.size = w.heap.size + 1 := Z0
  obtain ⟨w1, hw1⟩ : ∃ w1, w0.drewN q = w1 := ⟨_, rfl⟩
  rw [hw1] at B1 D1 Z1 ⊢
  clear hw1 hcut hw0 k0 k1 k2 B0 C0 Z0 hM0 w0 hM
  have k0 := Lib.cell_of_heap D1 0
  have k1 := Lib.cell_of_heap D1 1
  have k2 := Lib.cell_of_heap D1 2
  clear D1
  have hnum := hnum w1
  go_wp2_with fail
  refine hnum.mono ?_
  rintro e w2 ⟨rfl, hb2⟩
  have B2 : Hid (Below w.heap.size w w2) := B1.out.trans (hb2.mono (by omega))
  clear hb2 hnum B1 k0 k1 k2 Z1
  go_wp2
  go_ret3
  exact ⟨by rw [E.out]; rfl, B2.out⟩
theorem words_m (p : Pat) (hl : p.1.length = 8) (hf : p.2.length ≤ 100000) (op : Int) (h0 : 0 ≤ op) (h1 : op ≤ 255) (hc : (cutL [32] p.2).1 ≠ [97]) (hc2 : (cutL [32] p.2).1 ≠ [111]) (w : World) (hM : MaxAt w) : Calls Tryz.prog 147 #[codeV p op] w (RetWords w (wordsT p op)) := by
  unfold codeV
  obtain ⟨w0, hw0, b0, Z0, c0⟩ := words_start w p op
  have hM0 := hM.below b0
  have hcut := cut_any p.2 [32] hf w0 hM0
  have k0 := Lib.cell_of_heap c0 0
  have k1 := Lib.cell_of_heap c0 1
  have k2 := Lib.cell_of_heap c0 2
  have B0 := Lib.hid b0
  have C0 := Lib.hid c0
  clear b0 c0
  obtain ⟨m, hm⟩ : ∃ m, (cutL [32] p.2).1 = m := ⟨_, rfl⟩
  obtain ⟨a, ha⟩ : ∃ a, (cutL [32] p.2).2.1 = a := ⟨_, rfl⟩
  obtain ⟨f, hf3⟩ : ∃ f, (cutL [32] p.2).2.2 = f := ⟨_, rfl⟩
  rw [hm, ha, hf3] at hcut
  have E : Hid (wordsT p op = (m, [], a)) := by show wordsT p op = _; unfold wordsT; rw [if_neg hc, if_neg hc2, hm, ha]
  have ht : ((sB m).toList == [97]) = false := by rw [sB_eq, ← hm]; exact decide_eq_false hc
  have ht2 : ((sB m).toList == [111]) = false := by rw [sB_eq, ← hm]; exact decide_eq_false hc2
  clear ha hf3 hc hc2 hm
  go_enter Tryz.func147, Tryz.ntmps147
  go_wp2_with fail
  refine hcut.mono ?_
  rintro e w1 ⟨rfl, q, rfl⟩
  have B1 : Hid (Below w.heap.size w (w0.drewN q)) := below_dn B0.out q
  have D1 : (w0.drewN q).heap[w.heap.size]? = some (.cells #[.string (sB p.1), .string (sB p.2), .int .u8 op] 166 (0, 0)) := C0.out
  have Z1 : (w0.drewN q).heap.size = w.heap.size + 1 := Z0
  obtain ⟨w1, hw1⟩ : ∃ w1, w0.drewN q = w1 := ⟨_, rfl⟩
  rw [hw1] at B1 D1 Z1 ⊢
  clear hw1 hcut hw0 k0 k1 k2 B0 C0 Z0 hM0 w0 hM
  have k0 := Lib.cell_of_heap D1 0
  have k1 := Lib.cell_of_heap D1 1
  have k2 := Lib.cell_of_heap D1 2
  clear D1
  go_wp2
  go_ret3
  exact ⟨by rw [E.out]; rfl, B1.out⟩
theorem words_any (p : Pat) (hl : p.1.length = 8) (hf : p.2.length ≤ 100000) (op : Int) (h0 : 0 ≤ op) (h1 : op ≤ 255) (hn : numP p.1 op 97 ≤ 7) (hn2 : numP p.1 op 111 ≤ 7) (w : World) (hM : MaxAt w) : Calls Tryz.prog 147 #[codeV p op] w (RetWords w (wordsT p op)) := by
  by_cases hc : (cutL [32] p.2).1 = [97]
  · exact words_a p hl hf op h0 h1 hn hc w hM
  · by_cases hc2 : (cutL [32] p.2).1 = [111]
    · rcases lt8 (numP_bd p.1 op h0 h1 111).1 hn2 with h | h | h | h | h | h | h | h
      · exact words_of p hl hf op h0 h1 0 (roN 0) h rfl (fun _ => by kernel_rfl) hc2 w hM
      · exact words_of p hl hf op h0 h1 1 (roN 1) h rfl (fun _ => by kernel_rfl) hc2 w hM
      · exact words_of p hl hf op h0 h1 2 (roN 2) h rfl (fun _ => by kernel_rfl) hc2 w hM
      · exact words_of p hl hf op h0 h1 3 (roN 3) h rfl (fun _ => by kernel_rfl) hc2 w hM
      · exact words_of p hl hf op h0 h1 4 (roN 4) h rfl (fun _ => by kernel_rfl) hc2 w hM
      · exact words_of p hl hf op h0 h1 5 (roN 5) h rfl (fun _ => by kernel_rfl) hc2 w hM
      · exact words_of p hl hf op h0 h1 6 (roN 6) h rfl (fun _ => by kernel_rfl) hc2 w hM
      · exact words_of p hl hf op h0 h1 7 (roN 7) h rfl (fun _ => by kernel_rfl) hc2 w hM
    · exact words_m p hl hf op h0 h1 hc hc2 w hM
end Go.Proofs.YtclhaejdjogfbaaGreatDoor
namespace Go.Proofs.YtclhaejdjogfbaaGreatDoor
open Go.RowKit Go.Shelf
theorem wpList_appT {wr : World} {base : Nat} {v : Value} {xs : List Tr} (R : OwnT wr base v xs) (hbase : base ≤ wr.heap.size) {ops : Array Oper} {rest : List Oper} {o : Oper} {a : Act} {Q : Exit → Act → World → Prop} (hgd : o.guard = none) (s x : Operand)
    (ho : o.op = .call { callee := .builtin .append, args := #[s, x], argTypes := #[22, 22] }) (hs : a.eval s = v) (nb : Nat) (hnb : nb = wr.heap.size) (hx : a.eval x = .slice (some ⟨nb, 0, none⟩) 1 1)
    (y : Tr) (k : Nat) (hk : xs.length = k) (hlen : k < 10000)
    (h : ∀ A' cap' w1, OwnT w1 base (.slice A' (k + 1) cap') (xs ++ [y]) → Below base wr w1 → wpList Tryz.prog ops Q rest (a.put o.dst (.slice A' (k + 1) cap')) w1) : wpList Tryz.prog ops Q (o :: rest) a (wr.alloc (.cells #[.int .i64 y.1, .int .i64 y.2.1, .int .i64 y.2.2] 56)) := by
  subst hnb
  obtain ⟨i0, hi, hz0, hz1, hz2⟩ := info_parts info_opd
  have hb : Below base wr (wr.alloc (.cells #[.int .i64 y.1, .int .i64 y.2.1, .int .i64 y.2.2] 56)) := (Below.refl base wr).alloc hbase _
  have hown := World.ownsRow.alloc R (.cells #[.int .i64 y.1, .int .i64 y.2.1, .int .i64 y.2.2] 56)
  refine wpList_append_own _ hgd s x 22 ho base 56 i0 (.agg #[.int .i64 0, .int .i64 0, .int .i64 0]) 3 24 Tryz.underlying22 hi hz0 hz1 hz2 rfl (by decide) v xs.length _ hs hown ⟨wr.heap.size, 0, none⟩ 1 1 [.int .i64 y.1, .int .i64 y.2.1, .int .i64 y.2.2] hx rfl ?_ ?_ ?_ ?_ ?_ ?_
  · intro j u hj
    match j, hj with
    | 0, hj => simp at hj; subst hj; simp [Addr.add, go_sem]
    | 1, hj => simp at hj; subst hj; simp [Addr.add, go_sem]
    | 2, hj => simp at hj; subst hj; simp [Addr.add, go_sem]
  · intro u hu
    simp at hu
    rcases hu with rfl | rfl | rfl <;> rfl
  · unfold maxLen; omega
  · omega
  · simp; omega
  · intro v' w1 hown' hgrow _
    have hO : OwnT w1 base v' (xs ++ [y]) := by
      unfold OwnT
      rw [List.length_append, cellsT_append]
      exact hown'
    obtain ⟨A', cap', rfl, -, -⟩ := hO.ops
    rw [List.length_append, hk] at hO ⊢
    exact h A' cap' w1 hO (hb.grown hgrow (by simp; omega) fun k hk => (hown.lt k hk).1)
def isAliasT (m : Str) (op : Int) : Bool :=
  if m = [78, 69, 71] then op != 68 else if m = [82, 69, 84, 78] then op != 69 else if m = [73, 77] then op != 70 && op != 86 && op != 94 else op == 99 || op == 107
theorem isAlias_any (m : Str) (op : Int) (w : World) : Calls Tryz.prog 173 #[.string (sB m), .int .u8 op] w fun e w' => e = .returned (.bool (isAliasT m op)) ∧ w' = w := by
  by_cases h1 : m = [78, 69, 71]
  · have E : Hid (isAliasT m op = (op != 68)) := by show isAliasT m op = _; unfold isAliasT; rw [if_pos h1]
    have t1 : ((sB m).toList == [78, 69, 71]) = true := by rw [sB_eq]; exact decide_eq_true h1
    clear h1
    go_enter Tryz.func173, Tryz.ntmps173
    go_wp2
    go_ret
    exact ⟨ret_bool E.out.symm, rfl⟩
  · have t1 : ((sB m).toList == [78, 69, 71]) = false := by rw [sB_eq]; exact decide_eq_false h1
    by_cases h2 : m = [82, 69, 84, 78]
    · have E : Hid (isAliasT m op = (op != 69)) := by show isAliasT m op = _; unfold isAliasT; rw [if_neg h1, if_pos h2]
      have t2 : ((sB m).toList == [82, 69, 84, 78]) = true := by rw [sB_eq]; exact decide_eq_true h2
      clear h1 h2
      go_enter Tryz.func173, Tryz.ntmps173
      go_wp2
      go_ret
      exact ⟨ret_bool E.out.symm, rfl⟩
    · have t2 : ((sB m).toList == [82, 69, 84, 78]) = false := by rw [sB_eq]; exact decide_eq_false h2
      by_cases h3 : m = [73, 77]
      · have E : Hid (isAliasT m op = (op != 70 && op != 86 && op != 94)) := by show isAliasT m op = _; unfold isAliasT; rw [if_neg h1, if_neg h2, if_pos h3]
        have t3 : ((sB m).toList == [73, 77]) = true := by rw [sB_eq]; exact decide_eq_true h3
        clear h1 h2 h3
        by_cases a1 : op = 70
        · subst a1
          go_enter Tryz.func173, Tryz.ntmps173
          go_wp2
          go_ret
          exact ⟨ret_bool E.out.symm, rfl⟩
        · by_cases a2 : op = 86
          · subst a2
            go_enter Tryz.func173, Tryz.ntmps173
            go_wp2
            go_ret
            exact ⟨ret_bool E.out.symm, rfl⟩
          · have b1 : (op != 70) = true := by simpa using a1
            have b2 : (op != 86) = true := by simpa using a2
            have F : Hid (isAliasT m op = (op != 94)) := by have h := E.out; rw [b1, b2] at h; show isAliasT m op = _; simpa using h
            clear a1 a2
            go_enter Tryz.func173, Tryz.ntmps173
            go_wp2
            go_ret
            exact ⟨ret_bool F.out.symm, rfl⟩
      · have E : Hid (isAliasT m op = (op == 99 || op == 107)) := by show isAliasT m op = _; unfold isAliasT; rw [if_neg h1, if_neg h2, if_neg h3]
        have t3 : ((sB m).toList == [73, 77]) = false := by rw [sB_eq]; exact decide_eq_false h3
        clear h1 h2 h3
        by_cases a1 : op = 99
        · subst a1
          go_enter Tryz.func173, Tryz.ntmps173
          go_wp2
          go_ret
          exact ⟨ret_bool E.out.symm, rfl⟩
        · have b1 : (op == 99) = false := by simpa using a1
          have F : Hid (isAliasT m op = (op == 107)) := by have h := E.out; rw [b1] at h; show isAliasT m op = _; simpa using h
          clear a1
          go_enter Tryz.func173, Tryz.ntmps173
          go_wp2
          go_ret
          exact ⟨ret_bool F.out.symm, rfl⟩
end Go.Proofs.YtclhaejdjogfbaaGreatDoor
