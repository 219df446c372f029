/-
  code.field and code.operand: the operand of each word of a form.
-/
import Derived.Test.YtbbpkoaeedkncaaGreatDoorGAH
import Derived.Laws.EntriesVeiled
import Derived.Test.YtbbpkoaeedkncaaGreatDoorGAG
set_option linter.all false
set_option maxRecDepth 100000
set_option maxHeartbeats 4000000
namespace Go.Proofs.YtbbpkoaeedkncaaGreatDoor
open Go.RowKit Go.Shelf
attribute [local irreducible] Go.Mixed.wpMix
theorem field_114 (p : Pat) (op : Int) (w : World) : Calls Tryz.prog 120 #[codeV p op, .int .u8 114] w fun e w' => e = .returned (.func (.func 136) #[codeV p op] #[]) ∧ Below w.heap.size w w' := by
  unfold codeV
  go_enter Tryz.func120, Tryz.ntmps120
  go_wp2
  go_ret
  exact ⟨rfl, (Below.refl _ _).alloc (Nat.le_refl _) _⟩
theorem field_115 (p : Pat) (op : Int) (w : World) : Calls Tryz.prog 120 #[codeV p op, .int .u8 115] w fun e w' => e = .returned (.func (.func 136) #[codeV p op] #[]) ∧ Below w.heap.size w w' := by
  unfold codeV
  go_enter Tryz.func120, Tryz.ntmps120
  go_wp2
  go_ret
  exact ⟨rfl, (Below.refl _ _).alloc (Nat.le_refl _) _⟩
theorem field_112 (p : Pat) (op : Int) (w : World) : Calls Tryz.prog 120 #[codeV p op, .int .u8 112] w fun e w' => e = .returned (.func (.func 137) #[codeV p op] #[]) ∧ Below w.heap.size w w' := by
  unfold codeV
  go_enter Tryz.func120, Tryz.ntmps120
  go_wp2
  go_ret
  exact ⟨rfl, (Below.refl _ _).alloc (Nat.le_refl _) _⟩
theorem field_113 (p : Pat) (op : Int) (w : World) : Calls Tryz.prog 120 #[codeV p op, .int .u8 113] w fun e w' => e = .returned (.func (.func 138) #[codeV p op] #[]) ∧ Below w.heap.size w w' := by
  unfold codeV
  go_enter Tryz.func120, Tryz.ntmps120
  go_wp2
  go_ret
  exact ⟨rfl, (Below.refl _ _).alloc (Nat.le_refl _) _⟩
theorem field_99 (p : Pat) (op : Int) (w : World) : Calls Tryz.prog 120 #[codeV p op, .int .u8 99] w fun e w' => e = .returned (.func (.func 139) #[codeV p op] #[]) ∧ Below w.heap.size w w' := by
  unfold codeV
  go_enter Tryz.func120, Tryz.ntmps120
  go_wp2
  go_ret
  exact ⟨rfl, (Below.refl _ _).alloc (Nat.le_refl _) _⟩
theorem field_107 (p : Pat) (op : Int) (w : World) : Calls Tryz.prog 120 #[codeV p op, .int .u8 107] w fun e w' => e = .returned (.func (.func 139) #[codeV p op] #[]) ∧ Below w.heap.size w w' := by
  unfold codeV
  go_enter Tryz.func120, Tryz.ntmps120
  go_wp2
  go_ret
  exact ⟨rfl, (Below.refl _ _).alloc (Nat.le_refl _) _⟩
theorem field_98 (p : Pat) (op : Int) (w : World) : Calls Tryz.prog 120 #[codeV p op, .int .u8 98] w fun e w' => e = .returned (.func (.func 140) #[codeV p op] #[]) ∧ Below w.heap.size w w' := by
  unfold codeV
  go_enter Tryz.func120, Tryz.ntmps120
  go_wp2
  go_ret
  exact ⟨rfl, (Below.refl _ _).alloc (Nat.le_refl _) _⟩
theorem field_116 (p : Pat) (op : Int) (w : World) : Calls Tryz.prog 120 #[codeV p op, .int .u8 116] w fun e w' => e = .returned (.func (.func 141) #[codeV p op] #[]) ∧ Below w.heap.size w w' := by
  unfold codeV
  go_enter Tryz.func120, Tryz.ntmps120
  go_wp2
  go_ret
  exact ⟨rfl, (Below.refl _ _).alloc (Nat.le_refl _) _⟩
theorem field_65 (p : Pat) (op : Int) (w : World) : Calls Tryz.prog 120 #[codeV p op, .int .u8 65] w fun e w' => e = .returned .nilFunc ∧ Below w.heap.size w w' := by
  unfold codeV
  go_enter Tryz.func120, Tryz.ntmps120
  go_wp2
  go_ret
  exact ⟨rfl, (Below.refl _ _).alloc (Nat.le_refl _) _⟩
theorem field_68 (p : Pat) (op : Int) (w : World) : Calls Tryz.prog 120 #[codeV p op, .int .u8 68] w fun e w' => e = .returned .nilFunc ∧ Below w.heap.size w w' := by
  unfold codeV
  go_enter Tryz.func120, Tryz.ntmps120
  go_wp2
  go_ret
  exact ⟨rfl, (Below.refl _ _).alloc (Nat.le_refl _) _⟩
theorem field_72 (p : Pat) (op : Int) (w : World) : Calls Tryz.prog 120 #[codeV p op, .int .u8 72] w fun e w' => e = .returned .nilFunc ∧ Below w.heap.size w w' := by
  unfold codeV
  go_enter Tryz.func120, Tryz.ntmps120
  go_wp2
  go_ret
  exact ⟨rfl, (Below.refl _ _).alloc (Nat.le_refl _) _⟩
theorem field_83 (p : Pat) (op : Int) (w : World) : Calls Tryz.prog 120 #[codeV p op, .int .u8 83] w fun e w' => e = .returned .nilFunc ∧ Below w.heap.size w w' := by
  unfold codeV
  go_enter Tryz.func120, Tryz.ntmps120
  go_wp2
  go_ret
  exact ⟨rfl, (Below.refl _ _).alloc (Nat.le_refl _) _⟩
theorem field_40 (p : Pat) (op : Int) (w : World) : Calls Tryz.prog 120 #[codeV p op, .int .u8 40] w fun e w' => e = .returned .nilFunc ∧ Below w.heap.size w w' := by
  unfold codeV
  go_enter Tryz.func120, Tryz.ntmps120
  go_wp2
  go_ret
  exact ⟨rfl, (Below.refl _ _).alloc (Nat.le_refl _) _⟩
theorem field_73 (p : Pat) (op : Int) (w : World) : Calls Tryz.prog 120 #[codeV p op, .int .u8 73] w fun e w' => e = .returned .nilFunc ∧ Below w.heap.size w w' := by
  unfold codeV
  go_enter Tryz.func120, Tryz.ntmps120
  go_wp2
  go_ret
  exact ⟨rfl, (Below.refl _ _).alloc (Nat.le_refl _) _⟩
theorem field_82 (p : Pat) (op : Int) (w : World) : Calls Tryz.prog 120 #[codeV p op, .int .u8 82] w fun e w' => e = .returned .nilFunc ∧ Below w.heap.size w w' := by
  unfold codeV
  go_enter Tryz.func120, Tryz.ntmps120
  go_wp2
  go_ret
  exact ⟨rfl, (Below.refl _ _).alloc (Nat.le_refl _) _⟩
theorem field_48 (p : Pat) (op : Int) (w : World) : Calls Tryz.prog 120 #[codeV p op, .int .u8 48] w fun e w' => e = .returned .nilFunc ∧ Below w.heap.size w w' := by
  unfold codeV
  go_enter Tryz.func120, Tryz.ntmps120
  go_wp2
  go_ret
  exact ⟨rfl, (Below.refl _ _).alloc (Nat.le_refl _) _⟩
theorem field_49 (p : Pat) (op : Int) (w : World) : Calls Tryz.prog 120 #[codeV p op, .int .u8 49] w fun e w' => e = .returned .nilFunc ∧ Below w.heap.size w w' := by
  unfold codeV
  go_enter Tryz.func120, Tryz.ntmps120
  go_wp2
  go_ret
  exact ⟨rfl, (Below.refl _ _).alloc (Nat.le_refl _) _⟩
theorem field_50 (p : Pat) (op : Int) (w : World) : Calls Tryz.prog 120 #[codeV p op, .int .u8 50] w fun e w' => e = .returned .nilFunc ∧ Below w.heap.size w w' := by
  unfold codeV
  go_enter Tryz.func120, Tryz.ntmps120
  go_wp2
  go_ret
  exact ⟨rfl, (Below.refl _ _).alloc (Nat.le_refl _) _⟩
theorem operand_w101 (p : Pat) (hl : p.1.length = 8) (op : Int) (h0 : 0 ≤ op) (h1 : op ≤ 255) (w : World) : Calls Tryz.prog 89 #[codeV p op, .string ⟨#[101]⟩] w
    fun e w' => e = .returned (.tuple #[trV (10, 0, 0), .string ⟨#[101]⟩]) ∧ Below w.heap.size w w' := by
  unfold codeV
  obtain ⟨w0, hw0, S0, B0, Z0, C0⟩ := code_start w p op
  obtain ⟨n, hn⟩ : ∃ n, w.heap.size = n := ⟨_, rfl⟩
  rw [hn] at S0 B0 Z0 C0
  have k0 := Lib.cell_of_heap C0 0
  have k1 := Lib.cell_of_heap C0 1
  have k2 := Lib.cell_of_heap C0 2
  obtain ⟨c0, c1, c2, c3⟩ := S0.cells
  have hix : ∀ w, (Instr.index 9 (.string ⟨#[101]⟩) (.int .i64 0)).run Tryz.prog w = .ok (.int .u8 101) w := fun _ => by kernel_rfl
  have S0 := Lib.hid S0
  have B0 := Lib.hid B0
  have HN := Lib.hid hn
  have HP := Lib.hid hl
  have HO := Lib.hid (And.intro h0 h1)
  clear hl h0 h1
  go_enter Tryz.func89, Tryz.ntmps89
  go_wp2
  obtain ⟨w3, hw3, hc3, hb3, -⟩ := opd_set S0.out 10 0 0
  rw [hw3]
  have r0 := Lib.cell_of_heap hc3 0
  have r1 := Lib.cell_of_heap hc3 1
  have r2 := Lib.cell_of_heap hc3 2
  refine bodyPost_ret (v := .tuple #[trV (10, 0, 0), .string ⟨#[101]⟩]) ?_ rfl ?_
  · simp [results, Tryz.results89, go_sem, r0, r1, r2, trV]
  · exact ⟨rfl, by rw [HN.out]; exact B0.out.trans (hb3.mono (by omega))⟩
theorem operand_w110 (p : Pat) (hl : p.1.length = 8) (op : Int) (h0 : 0 ≤ op) (h1 : op ≤ 255) (w : World) : Calls Tryz.prog 89 #[codeV p op, .string ⟨#[110]⟩] w
    fun e w' => e = .returned (.tuple #[trV (6, 0, 0), .string ⟨#[110]⟩]) ∧ Below w.heap.size w w' := by
  unfold codeV
  obtain ⟨w0, hw0, S0, B0, Z0, C0⟩ := code_start w p op
  obtain ⟨n, hn⟩ : ∃ n, w.heap.size = n := ⟨_, rfl⟩
  rw [hn] at S0 B0 Z0 C0
  have k0 := Lib.cell_of_heap C0 0
  have k1 := Lib.cell_of_heap C0 1
  have k2 := Lib.cell_of_heap C0 2
  obtain ⟨c0, c1, c2, c3⟩ := S0.cells
  have hix : ∀ w, (Instr.index 9 (.string ⟨#[110]⟩) (.int .i64 0)).run Tryz.prog w = .ok (.int .u8 110) w := fun _ => by kernel_rfl
  have S0 := Lib.hid S0
  have B0 := Lib.hid B0
  have HN := Lib.hid hn
  have HP := Lib.hid hl
  have HO := Lib.hid (And.intro h0 h1)
  clear hl h0 h1
  clear c0 c1 c2 c3 k0 k1 k2
  go_enter Tryz.func89, Tryz.ntmps89
  go_wp2_with fail
  refine (value_any _ w0).mono ?_
  rintro e w2 ⟨rfl, hb2⟩
  have S2 : Hid (OpdAt w2 (n + 1)) := S0.out.below hb2
  have B2 : Hid (Below n w w2) := B0.out.trans (hb2.mono (by omega))
  clear hb2 S0 B0 Z0 hw0
  simp only [trV]
  obtain ⟨c0, c1, c2, c3⟩ := S2.out.cells
  go_wp2
  obtain ⟨w3, hw3, hc3, hb3, -⟩ := opd_set S2.out 6 0 0
  rw [hw3]
  have r0 := Lib.cell_of_heap hc3 0
  have r1 := Lib.cell_of_heap hc3 1
  have r2 := Lib.cell_of_heap hc3 2
  refine bodyPost_ret (v := .tuple #[trV (6, 0, 0), .string ⟨#[110]⟩]) ?_ rfl ?_
  · simp [results, Tryz.results89, go_sem, r0, r1, r2, trV]
  · exact ⟨rfl, by rw [HN.out]; exact B2.out.trans (hb3.mono (by omega))⟩
theorem operand_w119 (p : Pat) (hl : p.1.length = 8) (op : Int) (h0 : 0 ≤ op) (h1 : op ≤ 255) (w : World) : Calls Tryz.prog 89 #[codeV p op, .string ⟨#[119]⟩] w
    fun e w' => e = .returned (.tuple #[trV (6, 0, 0), .string ⟨#[119]⟩]) ∧ Below w.heap.size w w' := by
  unfold codeV
  obtain ⟨w0, hw0, S0, B0, Z0, C0⟩ := code_start w p op
  obtain ⟨n, hn⟩ : ∃ n, w.heap.size = n := ⟨_, rfl⟩
  rw [hn] at S0 B0 Z0 C0
  have k0 := Lib.cell_of_heap C0 0
  have k1 := Lib.cell_of_heap C0 1
  have k2 := Lib.cell_of_heap C0 2
  obtain ⟨c0, c1, c2, c3⟩ := S0.cells
  have hix : ∀ w, (Instr.index 9 (.string ⟨#[119]⟩) (.int .i64 0)).run Tryz.prog w = .ok (.int .u8 119) w := fun _ => by kernel_rfl
  have S0 := Lib.hid S0
  have B0 := Lib.hid B0
  have HN := Lib.hid hn
  have HP := Lib.hid hl
  have HO := Lib.hid (And.intro h0 h1)
  clear hl h0 h1
  clear c0 c1 c2 c3 k0 k1 k2
  go_enter Tryz.func89, Tryz.ntmps89
  go_wp2_with fail
  refine (value_any _ w0).mono ?_
  rintro e w2 ⟨rfl, hb2⟩
  have S2 : Hid (OpdAt w2 (n + 1)) := S0.out.below hb2
  have B2 : Hid (Below n w w2) := B0.out.trans (hb2.mono (by omega))
  clear hb2 S0 B0 Z0 hw0
  simp only [trV]
  obtain ⟨c0, c1, c2, c3⟩ := S2.out.cells
  go_wp2
  obtain ⟨w3, hw3, hc3, hb3, -⟩ := opd_set S2.out 6 0 0
  rw [hw3]
  have r0 := Lib.cell_of_heap hc3 0
  have r1 := Lib.cell_of_heap hc3 1
  have r2 := Lib.cell_of_heap hc3 2
  refine bodyPost_ret (v := .tuple #[trV (6, 0, 0), .string ⟨#[119]⟩]) ?_ rfl ?_
  · simp [results, Tryz.results89, go_sem, r0, r1, r2, trV]
  · exact ⟨rfl, by rw [HN.out]; exact B2.out.trans (hb3.mono (by omega))⟩
theorem operand_w40_110_41 (p : Pat) (hl : p.1.length = 8) (op : Int) (h0 : 0 ≤ op) (h1 : op ≤ 255) (w : World) : Calls Tryz.prog 89 #[codeV p op, .string ⟨#[40, 110, 41]⟩] w
    fun e w' => e = .returned (.tuple #[trV (7, 0, 0), .string ⟨#[110]⟩]) ∧ Below w.heap.size w w' := by
  unfold codeV
  obtain ⟨w0, hw0, S0, B0, Z0, C0⟩ := code_start w p op
  obtain ⟨n, hn⟩ : ∃ n, w.heap.size = n := ⟨_, rfl⟩
  rw [hn] at S0 B0 Z0 C0
  have k0 := Lib.cell_of_heap C0 0
  have k1 := Lib.cell_of_heap C0 1
  have k2 := Lib.cell_of_heap C0 2
  obtain ⟨c0, c1, c2, c3⟩ := S0.cells
  have hix : ∀ w, (Instr.index 9 (.string ⟨#[40, 110, 41]⟩) (.int .i64 0)).run Tryz.prog w = .ok (.int .u8 40) w := fun _ => by kernel_rfl
  have S0 := Lib.hid S0
  have B0 := Lib.hid B0
  have HN := Lib.hid hn
  have HP := Lib.hid hl
  have HO := Lib.hid (And.intro h0 h1)
  clear hl h0 h1
  go_enter Tryz.func89, Tryz.ntmps89
  go_wp2
  obtain ⟨w1, hw1⟩ : ∃ w1, w0.drew = w1 := ⟨_, rfl⟩
  have S1 : Hid (OpdAt w1 (n + 1)) := by rw [← hw1]; exact S0.out
  have B1 : Hid (Below n w w1) := by rw [← hw1]; exact B0.out.drew
  have Z1 : w1.heap.size = n + 2 := by rw [← hw1]; exact Z0
  refine Mixed.wp_region_mixed (fun _ => True) 4 [(0, true), (1, true), (2, true), (3, false)] (by kernel_rfl) (by kernel_rfl) trivial ?_
  rw [hw1]
  clear S0 B0 C0 hw0 hw1 Z0 c0 c1 c2 c3 k0 k1 k2
  obtain ⟨c0, c1, c2, c3⟩ := S1.out.cells
  refine Mixed.wpMix_pure rfl (by kernel_rfl) (.agg #[.int .i64 7, .int .i64 0, .int .i64 0]) (fun w h => by kernel_rfl) ?_
  refine Mixed.wpMix_move rfl (by kernel_rfl) _ rfl _ rfl ?_
  refine Mixed.wpMix_pure rfl (by kernel_rfl) (.string ⟨#[110]⟩) (fun w h => by kernel_rfl) ?_
  refine Mixed.wpMix_loudG rfl (by kernel_rfl) ?_
  go_wp2
  refine ⟨trivial, ?_⟩
  simp only [Mixed.wpMix, List.drop_succ_cons, List.drop_zero]
  go_wp2
  obtain ⟨w3, hw3, hc3, hb3, -⟩ := opd_set S1.out 7 0 0
  rw [hw3]
  have r0 := Lib.cell_of_heap hc3 0
  have r1 := Lib.cell_of_heap hc3 1
  have r2 := Lib.cell_of_heap hc3 2
  refine bodyPost_ret (v := .tuple #[trV (7, 0, 0), .string ⟨#[110]⟩]) ?_ rfl ?_
  · simp [results, Tryz.results89, go_sem, r0, r1, r2, trV]
  · exact ⟨rfl, by rw [HN.out]; exact B1.out.trans (hb3.mono (by omega))⟩
theorem operand_w40_119_41 (p : Pat) (hl : p.1.length = 8) (op : Int) (h0 : 0 ≤ op) (h1 : op ≤ 255) (w : World) : Calls Tryz.prog 89 #[codeV p op, .string ⟨#[40, 119, 41]⟩] w
    fun e w' => e = .returned (.tuple #[trV (7, 0, 0), .string ⟨#[119]⟩]) ∧ Below w.heap.size w w' := by
  unfold codeV
  obtain ⟨w0, hw0, S0, B0, Z0, C0⟩ := code_start w p op
  obtain ⟨n, hn⟩ : ∃ n, w.heap.size = n := ⟨_, rfl⟩
  rw [hn] at S0 B0 Z0 C0
  have k0 := Lib.cell_of_heap C0 0
  have k1 := Lib.cell_of_heap C0 1
  have k2 := Lib.cell_of_heap C0 2
  obtain ⟨c0, c1, c2, c3⟩ := S0.cells
  have hix : ∀ w, (Instr.index 9 (.string ⟨#[40, 119, 41]⟩) (.int .i64 0)).run Tryz.prog w = .ok (.int .u8 40) w := fun _ => by kernel_rfl
  have S0 := Lib.hid S0
  have B0 := Lib.hid B0
  have HN := Lib.hid hn
  have HP := Lib.hid hl
  have HO := Lib.hid (And.intro h0 h1)
  clear hl h0 h1
  go_enter Tryz.func89, Tryz.ntmps89
  go_wp2
  obtain ⟨w1, hw1⟩ : ∃ w1, w0.drew = w1 := ⟨_, rfl⟩
  have S1 : Hid (OpdAt w1 (n + 1)) := by rw [← hw1]; exact S0.out
  have B1 : Hid (Below n w w1) := by rw [← hw1]; exact B0.out.drew
  have Z1 : w1.heap.size = n + 2 := by rw [← hw1]; exact Z0
  refine Mixed.wp_region_mixed (fun _ => True) 4 [(0, true), (1, true), (2, true), (3, false)] (by kernel_rfl) (by kernel_rfl) trivial ?_
  rw [hw1]
  clear S0 B0 C0 hw0 hw1 Z0 c0 c1 c2 c3 k0 k1 k2
  obtain ⟨c0, c1, c2, c3⟩ := S1.out.cells
  refine Mixed.wpMix_pure rfl (by kernel_rfl) (.agg #[.int .i64 7, .int .i64 0, .int .i64 0]) (fun w h => by kernel_rfl) ?_
  refine Mixed.wpMix_move rfl (by kernel_rfl) _ rfl _ rfl ?_
  refine Mixed.wpMix_pure rfl (by kernel_rfl) (.string ⟨#[119]⟩) (fun w h => by kernel_rfl) ?_
  refine Mixed.wpMix_loudG rfl (by kernel_rfl) ?_
  go_wp2
  refine ⟨trivial, ?_⟩
  simp only [Mixed.wpMix, List.drop_succ_cons, List.drop_zero]
  go_wp2
  obtain ⟨w3, hw3, hc3, hb3, -⟩ := opd_set S1.out 7 0 0
  rw [hw3]
  have r0 := Lib.cell_of_heap hc3 0
  have r1 := Lib.cell_of_heap hc3 1
  have r2 := Lib.cell_of_heap hc3 2
  refine bodyPost_ret (v := .tuple #[trV (7, 0, 0), .string ⟨#[119]⟩]) ?_ rfl ?_
  · simp [results, Tryz.results89, go_sem, r0, r1, r2, trV]
  · exact ⟨rfl, by rw [HN.out]; exact B1.out.trans (hb3.mono (by omega))⟩
theorem operand_w114 (p : Pat) (hl : p.1.length = 8) (op : Int) (h0 : 0 ≤ op) (h1 : op ≤ 255) (w : World) : Calls Tryz.prog 89 #[codeV p op, .string ⟨#[114]⟩] w
    fun e w' => e = .returned (.tuple #[trV (regT (numP p.1 op 114)), .string ⟨#[]⟩]) ∧ Below w.heap.size w w' := by
  unfold codeV
  obtain ⟨w0, hw0, S0, B0, Z0, C0⟩ := code_start w p op
  obtain ⟨n, hn⟩ : ∃ n, w.heap.size = n := ⟨_, rfl⟩
  rw [hn] at S0 B0 Z0 C0
  have k0 := Lib.cell_of_heap C0 0
  have k1 := Lib.cell_of_heap C0 1
  have k2 := Lib.cell_of_heap C0 2
  obtain ⟨c0, c1, c2, c3⟩ := S0.cells
  have hix : ∀ w, (Instr.index 9 (.string ⟨#[114]⟩) (.int .i64 0)).run Tryz.prog w = .ok (.int .u8 114) w := fun _ => by kernel_rfl
  have S0 := Lib.hid S0
  have B0 := Lib.hid B0
  have HN := Lib.hid hn
  have HP := Lib.hid hl
  have HO := Lib.hid (And.intro h0 h1)
  clear hl h0 h1
  go_enter Tryz.func89, Tryz.ntmps89
  go_wp2
  go_still_tail 3, (by kernel_rfl)
  change wpList _ _ _ _ _ w0.drew
  obtain ⟨w1, hw1⟩ : ∃ w1, w0.drew = w1 := ⟨_, rfl⟩
  have S1 : Hid (OpdAt w1 (n + 1)) := by rw [← hw1]; exact S0.out
  have B1 : Hid (Below n w w1) := by rw [← hw1]; exact B0.out.drew
  have Z1 : w1.heap.size = n + 2 := by rw [← hw1]; exact Z0
  rw [hw1]
  clear S0 B0 C0 hw0 hw1 Z0 c0 c1 c2 c3 k0 k1 k2
  go_wp2_with fail
  refine (field_114 p op w1).mono ?_
  rintro e w2 ⟨rfl, hb2⟩
  have S2 : Hid (OpdAt w2 (n + 1)) := S1.out.below hb2
  have B2 : Hid (Below n w w2) := B1.out.trans (hb2.mono (by omega))
  have Z2 : Hid (n + 2 ≤ w2.heap.size) := by have := hb2.size; show _ ≤ _; omega
  clear hb2 S1 B1 Z1
  have hne : ∀ w, (binOp .neq 169 (.func (.func 136) #[codeV p op] #[]) .nilFunc).run Tryz.prog w = .ok (.bool true) w := fun _ => by kernel_rfl
  try simp only [codeV] at hne
  have hrd := cregister_any p HP.out op HO.out.1 HO.out.2 114 w2
  simp only [codeV] at hrd ⊢
  obtain ⟨⟨a, b, c⟩, ht⟩ : ∃ x : Tr, (regT (numP p.1 op 114)) = x := ⟨_, rfl⟩
  have HT := Lib.hid ht
  rw [ht] at hrd
  clear ht
  go_wp2_with fail
  refine hrd.mono ?_
  rintro e w4 ⟨rfl, hb4⟩
  have S4 : Hid (OpdAt w4 (n + 1)) := S2.out.below hb4
  have B4 : Hid (Below n w w4) := B2.out.trans (hb4.mono (by have := Z2.out; omega))
  clear hb4 S2 B2 Z2 hrd
  simp only [trV]
  obtain ⟨c0, c1, c2, c3⟩ := S4.out.cells
  go_wp2
  obtain ⟨w3, hw3, hc3, hb3, -⟩ := opd_set S4.out a b c
  rw [hw3]
  have r0 := Lib.cell_of_heap hc3 0
  have r1 := Lib.cell_of_heap hc3 1
  have r2 := Lib.cell_of_heap hc3 2
  refine bodyPost_ret (v := .tuple #[trV (a, b, c), .string ⟨#[]⟩]) ?_ rfl ?_
  · simp [results, Tryz.results89, go_sem, r0, r1, r2, trV]
  · exact ⟨by rw [HT.out], by rw [HN.out]; exact B4.out.trans (hb3.mono (by omega))⟩
theorem operand_w115 (p : Pat) (hl : p.1.length = 8) (op : Int) (h0 : 0 ≤ op) (h1 : op ≤ 255) (w : World) : Calls Tryz.prog 89 #[codeV p op, .string ⟨#[115]⟩] w
    fun e w' => e = .returned (.tuple #[trV (regT (numP p.1 op 115)), .string ⟨#[]⟩]) ∧ Below w.heap.size w w' := by
  unfold codeV
  obtain ⟨w0, hw0, S0, B0, Z0, C0⟩ := code_start w p op
  obtain ⟨n, hn⟩ : ∃ n, w.heap.size = n := ⟨_, rfl⟩
  rw [hn] at S0 B0 Z0 C0
  have k0 := Lib.cell_of_heap C0 0
  have k1 := Lib.cell_of_heap C0 1
  have k2 := Lib.cell_of_heap C0 2
  obtain ⟨c0, c1, c2, c3⟩ := S0.cells
  have hix : ∀ w, (Instr.index 9 (.string ⟨#[115]⟩) (.int .i64 0)).run Tryz.prog w = .ok (.int .u8 115) w := fun _ => by kernel_rfl
  have S0 := Lib.hid S0
  have B0 := Lib.hid B0
  have HN := Lib.hid hn
  have HP := Lib.hid hl
  have HO := Lib.hid (And.intro h0 h1)
  clear hl h0 h1
  go_enter Tryz.func89, Tryz.ntmps89
  go_wp2
  go_still_tail 3, (by kernel_rfl)
  change wpList _ _ _ _ _ w0.drew
  obtain ⟨w1, hw1⟩ : ∃ w1, w0.drew = w1 := ⟨_, rfl⟩
  have S1 : Hid (OpdAt w1 (n + 1)) := by rw [← hw1]; exact S0.out
  have B1 : Hid (Below n w w1) := by rw [← hw1]; exact B0.out.drew
  have Z1 : w1.heap.size = n + 2 := by rw [← hw1]; exact Z0
  rw [hw1]
  clear S0 B0 C0 hw0 hw1 Z0 c0 c1 c2 c3 k0 k1 k2
  go_wp2_with fail
  refine (field_115 p op w1).mono ?_
  rintro e w2 ⟨rfl, hb2⟩
  have S2 : Hid (OpdAt w2 (n + 1)) := S1.out.below hb2
  have B2 : Hid (Below n w w2) := B1.out.trans (hb2.mono (by omega))
  have Z2 : Hid (n + 2 ≤ w2.heap.size) := by have := hb2.size; show _ ≤ _; omega
  clear hb2 S1 B1 Z1
  have hne : ∀ w, (binOp .neq 169 (.func (.func 136) #[codeV p op] #[]) .nilFunc).run Tryz.prog w = .ok (.bool true) w := fun _ => by kernel_rfl
  try simp only [codeV] at hne
  have hrd := cregister_any p HP.out op HO.out.1 HO.out.2 115 w2
  simp only [codeV] at hrd ⊢
  obtain ⟨⟨a, b, c⟩, ht⟩ : ∃ x : Tr, (regT (numP p.1 op 115)) = x := ⟨_, rfl⟩
  have HT := Lib.hid ht
  rw [ht] at hrd
  clear ht
  go_wp2_with fail
  refine hrd.mono ?_
  rintro e w4 ⟨rfl, hb4⟩
  have S4 : Hid (OpdAt w4 (n + 1)) := S2.out.below hb4
  have B4 : Hid (Below n w w4) := B2.out.trans (hb4.mono (by have := Z2.out; omega))
  clear hb4 S2 B2 Z2 hrd
  simp only [trV]
  obtain ⟨c0, c1, c2, c3⟩ := S4.out.cells
  go_wp2
  obtain ⟨w3, hw3, hc3, hb3, -⟩ := opd_set S4.out a b c
  rw [hw3]
  have r0 := Lib.cell_of_heap hc3 0
  have r1 := Lib.cell_of_heap hc3 1
  have r2 := Lib.cell_of_heap hc3 2
  refine bodyPost_ret (v := .tuple #[trV (a, b, c), .string ⟨#[]⟩]) ?_ rfl ?_
  · simp [results, Tryz.results89, go_sem, r0, r1, r2, trV]
  · exact ⟨by rw [HT.out], by rw [HN.out]; exact B4.out.trans (hb3.mono (by omega))⟩
theorem operand_w112 (p : Pat) (hl : p.1.length = 8) (op : Int) (h0 : 0 ≤ op) (h1 : op ≤ 255) (w : World) : Calls Tryz.prog 89 #[codeV p op, .string ⟨#[112]⟩] w
    fun e w' => e = .returned (.tuple #[trV (3, numP p.1 op 112, 0), .string ⟨#[]⟩]) ∧ Below w.heap.size w w' := by
  unfold codeV
  obtain ⟨w0, hw0, S0, B0, Z0, C0⟩ := code_start w p op
  obtain ⟨n, hn⟩ : ∃ n, w.heap.size = n := ⟨_, rfl⟩
  rw [hn] at S0 B0 Z0 C0
  have k0 := Lib.cell_of_heap C0 0
  have k1 := Lib.cell_of_heap C0 1
  have k2 := Lib.cell_of_heap C0 2
  obtain ⟨c0, c1, c2, c3⟩ := S0.cells
  have hix : ∀ w, (Instr.index 9 (.string ⟨#[112]⟩) (.int .i64 0)).run Tryz.prog w = .ok (.int .u8 112) w := fun _ => by kernel_rfl
  have S0 := Lib.hid S0
  have B0 := Lib.hid B0
  have HN := Lib.hid hn
  have HP := Lib.hid hl
  have HO := Lib.hid (And.intro h0 h1)
  clear hl h0 h1
  go_enter Tryz.func89, Tryz.ntmps89
  go_wp2
  go_still_tail 3, (by kernel_rfl)
  change wpList _ _ _ _ _ w0.drew
  obtain ⟨w1, hw1⟩ : ∃ w1, w0.drew = w1 := ⟨_, rfl⟩
  have S1 : Hid (OpdAt w1 (n + 1)) := by rw [← hw1]; exact S0.out
  have B1 : Hid (Below n w w1) := by rw [← hw1]; exact B0.out.drew
  have Z1 : w1.heap.size = n + 2 := by rw [← hw1]; exact Z0
  rw [hw1]
  clear S0 B0 C0 hw0 hw1 Z0 c0 c1 c2 c3 k0 k1 k2
  go_wp2_with fail
  refine (field_112 p op w1).mono ?_
  rintro e w2 ⟨rfl, hb2⟩
  have S2 : Hid (OpdAt w2 (n + 1)) := S1.out.below hb2
  have B2 : Hid (Below n w w2) := B1.out.trans (hb2.mono (by omega))
  have Z2 : Hid (n + 2 ≤ w2.heap.size) := by have := hb2.size; show _ ≤ _; omega
  clear hb2 S1 B1 Z1
  have hne : ∀ w, (binOp .neq 169 (.func (.func 137) #[codeV p op] #[]) .nilFunc).run Tryz.prog w = .ok (.bool true) w := fun _ => by kernel_rfl
  try simp only [codeV] at hne
  have hrd := cpair_any p HP.out op HO.out.1 HO.out.2 112 w2
  simp only [codeV] at hrd ⊢
  obtain ⟨⟨a, b, c⟩, ht⟩ : ∃ x : Tr, (3, numP p.1 op 112, 0) = x := ⟨_, rfl⟩
  have HT := Lib.hid ht
  rw [ht] at hrd
  clear ht
  go_wp2_with fail
  refine hrd.mono ?_
  rintro e w4 ⟨rfl, hb4⟩
  have S4 : Hid (OpdAt w4 (n + 1)) := S2.out.below hb4
  have B4 : Hid (Below n w w4) := B2.out.trans (hb4.mono (by have := Z2.out; omega))
  clear hb4 S2 B2 Z2 hrd
  simp only [trV]
  obtain ⟨c0, c1, c2, c3⟩ := S4.out.cells
  go_wp2
  obtain ⟨w3, hw3, hc3, hb3, -⟩ := opd_set S4.out a b c
  rw [hw3]
  have r0 := Lib.cell_of_heap hc3 0
  have r1 := Lib.cell_of_heap hc3 1
  have r2 := Lib.cell_of_heap hc3 2
  refine bodyPost_ret (v := .tuple #[trV (a, b, c), .string ⟨#[]⟩]) ?_ rfl ?_
  · simp [results, Tryz.results89, go_sem, r0, r1, r2, trV]
  · exact ⟨by rw [HT.out], by rw [HN.out]; exact B4.out.trans (hb3.mono (by omega))⟩
theorem operand_w113 (p : Pat) (hl : p.1.length = 8) (op : Int) (h0 : 0 ≤ op) (h1 : op ≤ 255) (w : World) : Calls Tryz.prog 89 #[codeV p op, .string ⟨#[113]⟩] w
    fun e w' => e = .returned (.tuple #[trV (pushT (numP p.1 op 113)), .string ⟨#[]⟩]) ∧ Below w.heap.size w w' := by
  unfold codeV
  obtain ⟨w0, hw0, S0, B0, Z0, C0⟩ := code_start w p op
  obtain ⟨n, hn⟩ : ∃ n, w.heap.size = n := ⟨_, rfl⟩
  rw [hn] at S0 B0 Z0 C0
  have k0 := Lib.cell_of_heap C0 0
  have k1 := Lib.cell_of_heap C0 1
  have k2 := Lib.cell_of_heap C0 2
  obtain ⟨c0, c1, c2, c3⟩ := S0.cells
  have hix : ∀ w, (Instr.index 9 (.string ⟨#[113]⟩) (.int .i64 0)).run Tryz.prog w = .ok (.int .u8 113) w := fun _ => by kernel_rfl
  have S0 := Lib.hid S0
  have B0 := Lib.hid B0
  have HN := Lib.hid hn
  have HP := Lib.hid hl
  have HO := Lib.hid (And.intro h0 h1)
  clear hl h0 h1
  go_enter Tryz.func89, Tryz.ntmps89
  go_wp2
  go_still_tail 3, (by kernel_rfl)
  change wpList _ _ _ _ _ w0.drew
  obtain ⟨w1, hw1⟩ : ∃ w1, w0.drew = w1 := ⟨_, rfl⟩
  have S1 : Hid (OpdAt w1 (n + 1)) := by rw [← hw1]; exact S0.out
  have B1 : Hid (Below n w w1) := by rw [← hw1]; exact B0.out.drew
  have Z1 : w1.heap.size = n + 2 := by rw [← hw1]; exact Z0
  rw [hw1]
  clear S0 B0 C0 hw0 hw1 Z0 c0 c1 c2 c3 k0 k1 k2
  go_wp2_with fail
  refine (field_113 p op w1).mono ?_
  rintro e w2 ⟨rfl, hb2⟩
  have S2 : Hid (OpdAt w2 (n + 1)) := S1.out.below hb2
  have B2 : Hid (Below n w w2) := B1.out.trans (hb2.mono (by omega))
  have Z2 : Hid (n + 2 ≤ w2.heap.size) := by have := hb2.size; show _ ≤ _; omega
  clear hb2 S1 B1 Z1
  have hne : ∀ w, (binOp .neq 169 (.func (.func 138) #[codeV p op] #[]) .nilFunc).run Tryz.prog w = .ok (.bool true) w := fun _ => by kernel_rfl
  try simp only [codeV] at hne
  have hrd := cpushed_any p HP.out op HO.out.1 HO.out.2 113 w2
  simp only [codeV] at hrd ⊢
  obtain ⟨⟨a, b, c⟩, ht⟩ : ∃ x : Tr, (pushT (numP p.1 op 113)) = x := ⟨_, rfl⟩
  have HT := Lib.hid ht
  rw [ht] at hrd
  clear ht
  go_wp2_with fail
  refine hrd.mono ?_
  rintro e w4 ⟨rfl, hb4⟩
  have S4 : Hid (OpdAt w4 (n + 1)) := S2.out.below hb4
  have B4 : Hid (Below n w w4) := B2.out.trans (hb4.mono (by have := Z2.out; omega))
  clear hb4 S2 B2 Z2 hrd
  simp only [trV]
  obtain ⟨c0, c1, c2, c3⟩ := S4.out.cells
  go_wp2
  obtain ⟨w3, hw3, hc3, hb3, -⟩ := opd_set S4.out a b c
  rw [hw3]
  have r0 := Lib.cell_of_heap hc3 0
  have r1 := Lib.cell_of_heap hc3 1
  have r2 := Lib.cell_of_heap hc3 2
  refine bodyPost_ret (v := .tuple #[trV (a, b, c), .string ⟨#[]⟩]) ?_ rfl ?_
  · simp [results, Tryz.results89, go_sem, r0, r1, r2, trV]
  · exact ⟨by rw [HT.out], by rw [HN.out]; exact B4.out.trans (hb3.mono (by omega))⟩
theorem operand_w99 (p : Pat) (hl : p.1.length = 8) (op : Int) (h0 : 0 ≤ op) (h1 : op ≤ 255) (w : World) : Calls Tryz.prog 89 #[codeV p op, .string ⟨#[99]⟩] w
    fun e w' => e = .returned (.tuple #[trV (8, numP p.1 op 99, 0), .string ⟨#[]⟩]) ∧ Below w.heap.size w w' := by
  unfold codeV
  obtain ⟨w0, hw0, S0, B0, Z0, C0⟩ := code_start w p op
  obtain ⟨n, hn⟩ : ∃ n, w.heap.size = n := ⟨_, rfl⟩
  rw [hn] at S0 B0 Z0 C0
  have k0 := Lib.cell_of_heap C0 0
  have k1 := Lib.cell_of_heap C0 1
  have k2 := Lib.cell_of_heap C0 2
  obtain ⟨c0, c1, c2, c3⟩ := S0.cells
  have hix : ∀ w, (Instr.index 9 (.string ⟨#[99]⟩) (.int .i64 0)).run Tryz.prog w = .ok (.int .u8 99) w := fun _ => by kernel_rfl
  have S0 := Lib.hid S0
  have B0 := Lib.hid B0
  have HN := Lib.hid hn
  have HP := Lib.hid hl
  have HO := Lib.hid (And.intro h0 h1)
  clear hl h0 h1
  go_enter Tryz.func89, Tryz.ntmps89
  go_wp2
  go_still_tail 3, (by kernel_rfl)
  change wpList _ _ _ _ _ w0.drew
  obtain ⟨w1, hw1⟩ : ∃ w1, w0.drew = w1 := ⟨_, rfl⟩
  have S1 : Hid (OpdAt w1 (n + 1)) := by rw [← hw1]; exact S0.out
  have B1 : Hid (Below n w w1) := by rw [← hw1]; exact B0.out.drew
  have Z1 : w1.heap.size = n + 2 := by rw [← hw1]; exact Z0
  rw [hw1]
  clear S0 B0 C0 hw0 hw1 Z0 c0 c1 c2 c3 k0 k1 k2
  go_wp2_with fail
  refine (field_99 p op w1).mono ?_
  rintro e w2 ⟨rfl, hb2⟩
  have S2 : Hid (OpdAt w2 (n + 1)) := S1.out.below hb2
  have B2 : Hid (Below n w w2) := B1.out.trans (hb2.mono (by omega))
  have Z2 : Hid (n + 2 ≤ w2.heap.size) := by have := hb2.size; show _ ≤ _; omega
  clear hb2 S1 B1 Z1
  have hne : ∀ w, (binOp .neq 169 (.func (.func 139) #[codeV p op] #[]) .nilFunc).run Tryz.prog w = .ok (.bool true) w := fun _ => by kernel_rfl
  try simp only [codeV] at hne
  have hrd := ccond_any p HP.out op HO.out.1 HO.out.2 99 w2
  simp only [codeV] at hrd ⊢
  obtain ⟨⟨a, b, c⟩, ht⟩ : ∃ x : Tr, (8, numP p.1 op 99, 0) = x := ⟨_, rfl⟩
  have HT := Lib.hid ht
  rw [ht] at hrd
  clear ht
  go_wp2_with fail
  refine hrd.mono ?_
  rintro e w4 ⟨rfl, hb4⟩
  have S4 : Hid (OpdAt w4 (n + 1)) := S2.out.below hb4
  have B4 : Hid (Below n w w4) := B2.out.trans (hb4.mono (by have := Z2.out; omega))
  clear hb4 S2 B2 Z2 hrd
  simp only [trV]
  obtain ⟨c0, c1, c2, c3⟩ := S4.out.cells
  go_wp2
  obtain ⟨w3, hw3, hc3, hb3, -⟩ := opd_set S4.out a b c
  rw [hw3]
  have r0 := Lib.cell_of_heap hc3 0
  have r1 := Lib.cell_of_heap hc3 1
  have r2 := Lib.cell_of_heap hc3 2
  refine bodyPost_ret (v := .tuple #[trV (a, b, c), .string ⟨#[]⟩]) ?_ rfl ?_
  · simp [results, Tryz.results89, go_sem, r0, r1, r2, trV]
  · exact ⟨by rw [HT.out], by rw [HN.out]; exact B4.out.trans (hb3.mono (by omega))⟩
theorem operand_w107 (p : Pat) (hl : p.1.length = 8) (op : Int) (h0 : 0 ≤ op) (h1 : op ≤ 255) (w : World) : Calls Tryz.prog 89 #[codeV p op, .string ⟨#[107]⟩] w
    fun e w' => e = .returned (.tuple #[trV (8, numP p.1 op 107, 0), .string ⟨#[]⟩]) ∧ Below w.heap.size w w' := by
  unfold codeV
  obtain ⟨w0, hw0, S0, B0, Z0, C0⟩ := code_start w p op
  obtain ⟨n, hn⟩ : ∃ n, w.heap.size = n := ⟨_, rfl⟩
  rw [hn] at S0 B0 Z0 C0
  have k0 := Lib.cell_of_heap C0 0
  have k1 := Lib.cell_of_heap C0 1
  have k2 := Lib.cell_of_heap C0 2
  obtain ⟨c0, c1, c2, c3⟩ := S0.cells
  have hix : ∀ w, (Instr.index 9 (.string ⟨#[107]⟩) (.int .i64 0)).run Tryz.prog w = .ok (.int .u8 107) w := fun _ => by kernel_rfl
  have S0 := Lib.hid S0
  have B0 := Lib.hid B0
  have HN := Lib.hid hn
  have HP := Lib.hid hl
  have HO := Lib.hid (And.intro h0 h1)
  clear hl h0 h1
  go_enter Tryz.func89, Tryz.ntmps89
  go_wp2
  go_still_tail 3, (by kernel_rfl)
  change wpList _ _ _ _ _ w0.drew
  obtain ⟨w1, hw1⟩ : ∃ w1, w0.drew = w1 := ⟨_, rfl⟩
  have S1 : Hid (OpdAt w1 (n + 1)) := by rw [← hw1]; exact S0.out
  have B1 : Hid (Below n w w1) := by rw [← hw1]; exact B0.out.drew
  have Z1 : w1.heap.size = n + 2 := by rw [← hw1]; exact Z0
  rw [hw1]
  clear S0 B0 C0 hw0 hw1 Z0 c0 c1 c2 c3 k0 k1 k2
  go_wp2_with fail
  refine (field_107 p op w1).mono ?_
  rintro e w2 ⟨rfl, hb2⟩
  have S2 : Hid (OpdAt w2 (n + 1)) := S1.out.below hb2
  have B2 : Hid (Below n w w2) := B1.out.trans (hb2.mono (by omega))
  have Z2 : Hid (n + 2 ≤ w2.heap.size) := by have := hb2.size; show _ ≤ _; omega
  clear hb2 S1 B1 Z1
  have hne : ∀ w, (binOp .neq 169 (.func (.func 139) #[codeV p op] #[]) .nilFunc).run Tryz.prog w = .ok (.bool true) w := fun _ => by kernel_rfl
  try simp only [codeV] at hne
  have hrd := ccond_any p HP.out op HO.out.1 HO.out.2 107 w2
  simp only [codeV] at hrd ⊢
  obtain ⟨⟨a, b, c⟩, ht⟩ : ∃ x : Tr, (8, numP p.1 op 107, 0) = x := ⟨_, rfl⟩
  have HT := Lib.hid ht
  rw [ht] at hrd
  clear ht
  go_wp2_with fail
  refine hrd.mono ?_
  rintro e w4 ⟨rfl, hb4⟩
  have S4 : Hid (OpdAt w4 (n + 1)) := S2.out.below hb4
  have B4 : Hid (Below n w w4) := B2.out.trans (hb4.mono (by have := Z2.out; omega))
  clear hb4 S2 B2 Z2 hrd
  simp only [trV]
  obtain ⟨c0, c1, c2, c3⟩ := S4.out.cells
  go_wp2
  obtain ⟨w3, hw3, hc3, hb3, -⟩ := opd_set S4.out a b c
  rw [hw3]
  have r0 := Lib.cell_of_heap hc3 0
  have r1 := Lib.cell_of_heap hc3 1
  have r2 := Lib.cell_of_heap hc3 2
  refine bodyPost_ret (v := .tuple #[trV (a, b, c), .string ⟨#[]⟩]) ?_ rfl ?_
  · simp [results, Tryz.results89, go_sem, r0, r1, r2, trV]
  · exact ⟨by rw [HT.out], by rw [HN.out]; exact B4.out.trans (hb3.mono (by omega))⟩
theorem operand_w98 (p : Pat) (hl : p.1.length = 8) (op : Int) (h0 : 0 ≤ op) (h1 : op ≤ 255) (w : World) : Calls Tryz.prog 89 #[codeV p op, .string ⟨#[98]⟩] w
    fun e w' => e = .returned (.tuple #[trV (6, 0, numP p.1 op 98), .string ⟨#[]⟩]) ∧ Below w.heap.size w w' := by
  unfold codeV
  obtain ⟨w0, hw0, S0, B0, Z0, C0⟩ := code_start w p op
  obtain ⟨n, hn⟩ : ∃ n, w.heap.size = n := ⟨_, rfl⟩
  rw [hn] at S0 B0 Z0 C0
  have k0 := Lib.cell_of_heap C0 0
  have k1 := Lib.cell_of_heap C0 1
  have k2 := Lib.cell_of_heap C0 2
  obtain ⟨c0, c1, c2, c3⟩ := S0.cells
  have hix : ∀ w, (Instr.index 9 (.string ⟨#[98]⟩) (.int .i64 0)).run Tryz.prog w = .ok (.int .u8 98) w := fun _ => by kernel_rfl
  have S0 := Lib.hid S0
  have B0 := Lib.hid B0
  have HN := Lib.hid hn
  have HP := Lib.hid hl
  have HO := Lib.hid (And.intro h0 h1)
  clear hl h0 h1
  go_enter Tryz.func89, Tryz.ntmps89
  go_wp2
  go_still_tail 3, (by kernel_rfl)
  change wpList _ _ _ _ _ w0.drew
  obtain ⟨w1, hw1⟩ : ∃ w1, w0.drew = w1 := ⟨_, rfl⟩
  have S1 : Hid (OpdAt w1 (n + 1)) := by rw [← hw1]; exact S0.out
  have B1 : Hid (Below n w w1) := by rw [← hw1]; exact B0.out.drew
  have Z1 : w1.heap.size = n + 2 := by rw [← hw1]; exact Z0
  rw [hw1]
  clear S0 B0 C0 hw0 hw1 Z0 c0 c1 c2 c3 k0 k1 k2
  go_wp2_with fail
  refine (field_98 p op w1).mono ?_
  rintro e w2 ⟨rfl, hb2⟩
  have S2 : Hid (OpdAt w2 (n + 1)) := S1.out.below hb2
  have B2 : Hid (Below n w w2) := B1.out.trans (hb2.mono (by omega))
  have Z2 : Hid (n + 2 ≤ w2.heap.size) := by have := hb2.size; show _ ≤ _; omega
  clear hb2 S1 B1 Z1
  have hne : ∀ w, (binOp .neq 169 (.func (.func 140) #[codeV p op] #[]) .nilFunc).run Tryz.prog w = .ok (.bool true) w := fun _ => by kernel_rfl
  try simp only [codeV] at hne
  have hrd := cbit_any p HP.out op HO.out.1 HO.out.2 98 w2
  simp only [codeV] at hrd ⊢
  obtain ⟨⟨a, b, c⟩, ht⟩ : ∃ x : Tr, (6, 0, numP p.1 op 98) = x := ⟨_, rfl⟩
  have HT := Lib.hid ht
  rw [ht] at hrd
  clear ht
  go_wp2_with fail
  refine hrd.mono ?_
  rintro e w4 ⟨rfl, hb4⟩
  have S4 : Hid (OpdAt w4 (n + 1)) := S2.out.below hb4
  have B4 : Hid (Below n w w4) := B2.out.trans (hb4.mono (by have := Z2.out; omega))
  clear hb4 S2 B2 Z2 hrd
  simp only [trV]
  obtain ⟨c0, c1, c2, c3⟩ := S4.out.cells
  go_wp2
  obtain ⟨w3, hw3, hc3, hb3, -⟩ := opd_set S4.out a b c
  rw [hw3]
  have r0 := Lib.cell_of_heap hc3 0
  have r1 := Lib.cell_of_heap hc3 1
  have r2 := Lib.cell_of_heap hc3 2
  refine bodyPost_ret (v := .tuple #[trV (a, b, c), .string ⟨#[]⟩]) ?_ rfl ?_
  · simp [results, Tryz.results89, go_sem, r0, r1, r2, trV]
  · exact ⟨by rw [HT.out], by rw [HN.out]; exact B4.out.trans (hb3.mono (by omega))⟩
theorem operand_w116 (p : Pat) (hl : p.1.length = 8) (op : Int) (h0 : 0 ≤ op) (h1 : op ≤ 255) (w : World) : Calls Tryz.prog 89 #[codeV p op, .string ⟨#[116]⟩] w
    fun e w' => e = .returned (.tuple #[trV (6, 0, 8 * numP p.1 op 116), .string ⟨#[]⟩]) ∧ Below w.heap.size w w' := by
  unfold codeV
  obtain ⟨w0, hw0, S0, B0, Z0, C0⟩ := code_start w p op
  obtain ⟨n, hn⟩ : ∃ n, w.heap.size = n := ⟨_, rfl⟩
  rw [hn] at S0 B0 Z0 C0
  have k0 := Lib.cell_of_heap C0 0
  have k1 := Lib.cell_of_heap C0 1
  have k2 := Lib.cell_of_heap C0 2
  obtain ⟨c0, c1, c2, c3⟩ := S0.cells
  have hix : ∀ w, (Instr.index 9 (.string ⟨#[116]⟩) (.int .i64 0)).run Tryz.prog w = .ok (.int .u8 116) w := fun _ => by kernel_rfl
  have S0 := Lib.hid S0
  have B0 := Lib.hid B0
  have HN := Lib.hid hn
  have HP := Lib.hid hl
  have HO := Lib.hid (And.intro h0 h1)
  clear hl h0 h1
  go_enter Tryz.func89, Tryz.ntmps89
  go_wp2
  go_still_tail 3, (by kernel_rfl)
  change wpList _ _ _ _ _ w0.drew
  obtain ⟨w1, hw1⟩ : ∃ w1, w0.drew = w1 := ⟨_, rfl⟩
  have S1 : Hid (OpdAt w1 (n + 1)) := by rw [← hw1]; exact S0.out
  have B1 : Hid (Below n w w1) := by rw [← hw1]; exact B0.out.drew
  have Z1 : w1.heap.size = n + 2 := by rw [← hw1]; exact Z0
  rw [hw1]
  clear S0 B0 C0 hw0 hw1 Z0 c0 c1 c2 c3 k0 k1 k2
  go_wp2_with fail
  refine (field_116 p op w1).mono ?_
  rintro e w2 ⟨rfl, hb2⟩
  have S2 : Hid (OpdAt w2 (n + 1)) := S1.out.below hb2
  have B2 : Hid (Below n w w2) := B1.out.trans (hb2.mono (by omega))
  have Z2 : Hid (n + 2 ≤ w2.heap.size) := by have := hb2.size; show _ ≤ _; omega
  clear hb2 S1 B1 Z1
  have hne : ∀ w, (binOp .neq 169 (.func (.func 141) #[codeV p op] #[]) .nilFunc).run Tryz.prog w = .ok (.bool true) w := fun _ => by kernel_rfl
  try simp only [codeV] at hne
  have hrd := crestart_any p HP.out op HO.out.1 HO.out.2 116 (numP_bd p.1 op HO.out.1 HO.out.2 116).1 (numP_bd p.1 op HO.out.1 HO.out.2 116).2 w2
  simp only [codeV] at hrd ⊢
  obtain ⟨⟨a, b, c⟩, ht⟩ : ∃ x : Tr, (6, 0, 8 * numP p.1 op 116) = x := ⟨_, rfl⟩
  have HT := Lib.hid ht
  rw [ht] at hrd
  clear ht
  go_wp2_with fail
  refine hrd.mono ?_
  rintro e w4 ⟨rfl, hb4⟩
  have S4 : Hid (OpdAt w4 (n + 1)) := S2.out.below hb4
  have B4 : Hid (Below n w w4) := B2.out.trans (hb4.mono (by have := Z2.out; omega))
  clear hb4 S2 B2 Z2 hrd
  simp only [trV]
  obtain ⟨c0, c1, c2, c3⟩ := S4.out.cells
  go_wp2
  obtain ⟨w3, hw3, hc3, hb3, -⟩ := opd_set S4.out a b c
  rw [hw3]
  have r0 := Lib.cell_of_heap hc3 0
  have r1 := Lib.cell_of_heap hc3 1
  have r2 := Lib.cell_of_heap hc3 2
  refine bodyPost_ret (v := .tuple #[trV (a, b, c), .string ⟨#[]⟩]) ?_ rfl ?_
  · simp [results, Tryz.results89, go_sem, r0, r1, r2, trV]
  · exact ⟨by rw [HT.out], by rw [HN.out]; exact B4.out.trans (hb3.mono (by omega))⟩
theorem operand_w65 (p : Pat) (hl : p.1.length = 8) (op : Int) (h0 : 0 ≤ op) (h1 : op ≤ 255) (w : World) : Calls Tryz.prog 89 #[codeV p op, .string ⟨#[65]⟩] w
    fun e w' => e = .returned (.tuple #[trV (1, 7, 0), .string ⟨#[]⟩]) ∧ Below w.heap.size w w' := by
  unfold codeV
  obtain ⟨w0, hw0, S0, B0, Z0, C0⟩ := code_start w p op
  obtain ⟨n, hn⟩ : ∃ n, w.heap.size = n := ⟨_, rfl⟩
  rw [hn] at S0 B0 Z0 C0
  have k0 := Lib.cell_of_heap C0 0
  have k1 := Lib.cell_of_heap C0 1
  have k2 := Lib.cell_of_heap C0 2
  obtain ⟨c0, c1, c2, c3⟩ := S0.cells
  have hix : ∀ w, (Instr.index 9 (.string ⟨#[65]⟩) (.int .i64 0)).run Tryz.prog w = .ok (.int .u8 65) w := fun _ => by kernel_rfl
  have S0 := Lib.hid S0
  have B0 := Lib.hid B0
  have HN := Lib.hid hn
  have HP := Lib.hid hl
  have HO := Lib.hid (And.intro h0 h1)
  clear hl h0 h1
  go_enter Tryz.func89, Tryz.ntmps89
  go_wp2
  go_still_tail 3, (by kernel_rfl)
  change wpList _ _ _ _ _ w0.drew
  obtain ⟨w1, hw1⟩ : ∃ w1, w0.drew = w1 := ⟨_, rfl⟩
  have S1 : Hid (OpdAt w1 (n + 1)) := by rw [← hw1]; exact S0.out
  have B1 : Hid (Below n w w1) := by rw [← hw1]; exact B0.out.drew
  have Z1 : w1.heap.size = n + 2 := by rw [← hw1]; exact Z0
  rw [hw1]
  clear S0 B0 C0 hw0 hw1 Z0 c0 c1 c2 c3 k0 k1 k2
  go_wp2_with fail
  refine (field_65 p op w1).mono ?_
  rintro e w2 ⟨rfl, hb2⟩
  have S2 : Hid (OpdAt w2 (n + 1)) := S1.out.below hb2
  have B2 : Hid (Below n w w2) := B1.out.trans (hb2.mono (by omega))
  have Z2 : Hid (n + 2 ≤ w2.heap.size) := by have := hb2.size; show _ ≤ _; omega
  clear hb2 S1 B1 Z1
  have hne : ∀ w, (binOp .neq 169 .nilFunc .nilFunc).run Tryz.prog w = .ok (.bool false) w := fun _ => by kernel_rfl
  try simp only [codeV] at hne
  go_wp2_with fail
  refine (fixed_w65 w2).mono ?_
  rintro e w4 ⟨rfl, hb4⟩
  have S4 : Hid (OpdAt w4 (n + 1)) := S2.out.below hb4
  have B4 : Hid (Below n w w4) := B2.out.trans (hb4.mono (by have := Z2.out; omega))
  clear hb4 S2 B2 Z2
  simp only [trV]
  obtain ⟨c0, c1, c2, c3⟩ := S4.out.cells
  go_wp2
  obtain ⟨w3, hw3, hc3, hb3, -⟩ := opd_set S4.out 1 7 0
  rw [hw3]
  have r0 := Lib.cell_of_heap hc3 0
  have r1 := Lib.cell_of_heap hc3 1
  have r2 := Lib.cell_of_heap hc3 2
  refine bodyPost_ret (v := .tuple #[trV (1, 7, 0), .string ⟨#[]⟩]) ?_ rfl ?_
  · simp [results, Tryz.results89, go_sem, r0, r1, r2, trV]
  · exact ⟨rfl, by rw [HN.out]; exact B4.out.trans (hb3.mono (by omega))⟩
theorem operand_w68_69 (p : Pat) (hl : p.1.length = 8) (op : Int) (h0 : 0 ≤ op) (h1 : op ≤ 255) (w : World) : Calls Tryz.prog 89 #[codeV p op, .string ⟨#[68, 69]⟩] w
    fun e w' => e = .returned (.tuple #[trV (3, 1, 0), .string ⟨#[]⟩]) ∧ Below w.heap.size w w' := by
  unfold codeV
  obtain ⟨w0, hw0, S0, B0, Z0, C0⟩ := code_start w p op
  obtain ⟨n, hn⟩ : ∃ n, w.heap.size = n := ⟨_, rfl⟩
  rw [hn] at S0 B0 Z0 C0
  have k0 := Lib.cell_of_heap C0 0
  have k1 := Lib.cell_of_heap C0 1
  have k2 := Lib.cell_of_heap C0 2
  obtain ⟨c0, c1, c2, c3⟩ := S0.cells
  have hix : ∀ w, (Instr.index 9 (.string ⟨#[68, 69]⟩) (.int .i64 0)).run Tryz.prog w = .ok (.int .u8 68) w := fun _ => by kernel_rfl
  have S0 := Lib.hid S0
  have B0 := Lib.hid B0
  have HN := Lib.hid hn
  have HP := Lib.hid hl
  have HO := Lib.hid (And.intro h0 h1)
  clear hl h0 h1
  go_enter Tryz.func89, Tryz.ntmps89
  go_wp2
  go_still_tail 3, (by kernel_rfl)
  change wpList _ _ _ _ _ w0.drew
  obtain ⟨w1, hw1⟩ : ∃ w1, w0.drew = w1 := ⟨_, rfl⟩
  have S1 : Hid (OpdAt w1 (n + 1)) := by rw [← hw1]; exact S0.out
  have B1 : Hid (Below n w w1) := by rw [← hw1]; exact B0.out.drew
  have Z1 : w1.heap.size = n + 2 := by rw [← hw1]; exact Z0
  rw [hw1]
  clear S0 B0 C0 hw0 hw1 Z0 c0 c1 c2 c3 k0 k1 k2
  go_wp2_with fail
  refine (field_68 p op w1).mono ?_
  rintro e w2 ⟨rfl, hb2⟩
  have S2 : Hid (OpdAt w2 (n + 1)) := S1.out.below hb2
  have B2 : Hid (Below n w w2) := B1.out.trans (hb2.mono (by omega))
  have Z2 : Hid (n + 2 ≤ w2.heap.size) := by have := hb2.size; show _ ≤ _; omega
  clear hb2 S1 B1 Z1
  have hne : ∀ w, (binOp .neq 169 .nilFunc .nilFunc).run Tryz.prog w = .ok (.bool false) w := fun _ => by kernel_rfl
  try simp only [codeV] at hne
  go_wp2_with fail
  refine (fixed_w68_69 w2).mono ?_
  rintro e w4 ⟨rfl, hb4⟩
  have S4 : Hid (OpdAt w4 (n + 1)) := S2.out.below hb4
  have B4 : Hid (Below n w w4) := B2.out.trans (hb4.mono (by have := Z2.out; omega))
  clear hb4 S2 B2 Z2
  simp only [trV]
  obtain ⟨c0, c1, c2, c3⟩ := S4.out.cells
  go_wp2
  obtain ⟨w3, hw3, hc3, hb3, -⟩ := opd_set S4.out 3 1 0
  rw [hw3]
  have r0 := Lib.cell_of_heap hc3 0
  have r1 := Lib.cell_of_heap hc3 1
  have r2 := Lib.cell_of_heap hc3 2
  refine bodyPost_ret (v := .tuple #[trV (3, 1, 0), .string ⟨#[]⟩]) ?_ rfl ?_
  · simp [results, Tryz.results89, go_sem, r0, r1, r2, trV]
  · exact ⟨rfl, by rw [HN.out]; exact B4.out.trans (hb3.mono (by omega))⟩
theorem operand_w72_76 (p : Pat) (hl : p.1.length = 8) (op : Int) (h0 : 0 ≤ op) (h1 : op ≤ 255) (w : World) : Calls Tryz.prog 89 #[codeV p op, .string ⟨#[72, 76]⟩] w
    fun e w' => e = .returned (.tuple #[trV (3, 2, 0), .string ⟨#[]⟩]) ∧ Below w.heap.size w w' := by
  unfold codeV
  obtain ⟨w0, hw0, S0, B0, Z0, C0⟩ := code_start w p op
  obtain ⟨n, hn⟩ : ∃ n, w.heap.size = n := ⟨_, rfl⟩
  rw [hn] at S0 B0 Z0 C0
  have k0 := Lib.cell_of_heap C0 0
  have k1 := Lib.cell_of_heap C0 1
  have k2 := Lib.cell_of_heap C0 2
  obtain ⟨c0, c1, c2, c3⟩ := S0.cells
  have hix : ∀ w, (Instr.index 9 (.string ⟨#[72, 76]⟩) (.int .i64 0)).run Tryz.prog w = .ok (.int .u8 72) w := fun _ => by kernel_rfl
  have S0 := Lib.hid S0
  have B0 := Lib.hid B0
  have HN := Lib.hid hn
  have HP := Lib.hid hl
  have HO := Lib.hid (And.intro h0 h1)
  clear hl h0 h1
  go_enter Tryz.func89, Tryz.ntmps89
  go_wp2
  go_still_tail 3, (by kernel_rfl)
  change wpList _ _ _ _ _ w0.drew
  obtain ⟨w1, hw1⟩ : ∃ w1, w0.drew = w1 := ⟨_, rfl⟩
  have S1 : Hid (OpdAt w1 (n + 1)) := by rw [← hw1]; exact S0.out
  have B1 : Hid (Below n w w1) := by rw [← hw1]; exact B0.out.drew
  have Z1 : w1.heap.size = n + 2 := by rw [← hw1]; exact Z0
  rw [hw1]
  clear S0 B0 C0 hw0 hw1 Z0 c0 c1 c2 c3 k0 k1 k2
  go_wp2_with fail
  refine (field_72 p op w1).mono ?_
  rintro e w2 ⟨rfl, hb2⟩
  have S2 : Hid (OpdAt w2 (n + 1)) := S1.out.below hb2
  have B2 : Hid (Below n w w2) := B1.out.trans (hb2.mono (by omega))
  have Z2 : Hid (n + 2 ≤ w2.heap.size) := by have := hb2.size; show _ ≤ _; omega
  clear hb2 S1 B1 Z1
  have hne : ∀ w, (binOp .neq 169 .nilFunc .nilFunc).run Tryz.prog w = .ok (.bool false) w := fun _ => by kernel_rfl
  try simp only [codeV] at hne
  go_wp2_with fail
  refine (fixed_w72_76 w2).mono ?_
  rintro e w4 ⟨rfl, hb4⟩
  have S4 : Hid (OpdAt w4 (n + 1)) := S2.out.below hb4
  have B4 : Hid (Below n w w4) := B2.out.trans (hb4.mono (by have := Z2.out; omega))
  clear hb4 S2 B2 Z2
  simp only [trV]
  obtain ⟨c0, c1, c2, c3⟩ := S4.out.cells
  go_wp2
  obtain ⟨w3, hw3, hc3, hb3, -⟩ := opd_set S4.out 3 2 0
  rw [hw3]
  have r0 := Lib.cell_of_heap hc3 0
  have r1 := Lib.cell_of_heap hc3 1
  have r2 := Lib.cell_of_heap hc3 2
  refine bodyPost_ret (v := .tuple #[trV (3, 2, 0), .string ⟨#[]⟩]) ?_ rfl ?_
  · simp [results, Tryz.results89, go_sem, r0, r1, r2, trV]
  · exact ⟨rfl, by rw [HN.out]; exact B4.out.trans (hb3.mono (by omega))⟩
theorem operand_w83_80 (p : Pat) (hl : p.1.length = 8) (op : Int) (h0 : 0 ≤ op) (h1 : op ≤ 255) (w : World) : Calls Tryz.prog 89 #[codeV p op, .string ⟨#[83, 80]⟩] w
    fun e w' => e = .returned (.tuple #[trV (3, 3, 0), .string ⟨#[]⟩]) ∧ Below w.heap.size w w' := by
  unfold codeV
  obtain ⟨w0, hw0, S0, B0, Z0, C0⟩ := code_start w p op
  obtain ⟨n, hn⟩ : ∃ n, w.heap.size = n := ⟨_, rfl⟩
  rw [hn] at S0 B0 Z0 C0
  have k0 := Lib.cell_of_heap C0 0
  have k1 := Lib.cell_of_heap C0 1
  have k2 := Lib.cell_of_heap C0 2
  obtain ⟨c0, c1, c2, c3⟩ := S0.cells
  have hix : ∀ w, (Instr.index 9 (.string ⟨#[83, 80]⟩) (.int .i64 0)).run Tryz.prog w = .ok (.int .u8 83) w := fun _ => by kernel_rfl
  have S0 := Lib.hid S0
  have B0 := Lib.hid B0
  have HN := Lib.hid hn
  have HP := Lib.hid hl
  have HO := Lib.hid (And.intro h0 h1)
  clear hl h0 h1
  go_enter Tryz.func89, Tryz.ntmps89
  go_wp2
  go_still_tail 3, (by kernel_rfl)
  change wpList _ _ _ _ _ w0.drew
  obtain ⟨w1, hw1⟩ : ∃ w1, w0.drew = w1 := ⟨_, rfl⟩
  have S1 : Hid (OpdAt w1 (n + 1)) := by rw [← hw1]; exact S0.out
  have B1 : Hid (Below n w w1) := by rw [← hw1]; exact B0.out.drew
  have Z1 : w1.heap.size = n + 2 := by rw [← hw1]; exact Z0
  rw [hw1]
  clear S0 B0 C0 hw0 hw1 Z0 c0 c1 c2 c3 k0 k1 k2
  go_wp2_with fail
  refine (field_83 p op w1).mono ?_
  rintro e w2 ⟨rfl, hb2⟩
  have S2 : Hid (OpdAt w2 (n + 1)) := S1.out.below hb2
  have B2 : Hid (Below n w w2) := B1.out.trans (hb2.mono (by omega))
  have Z2 : Hid (n + 2 ≤ w2.heap.size) := by have := hb2.size; show _ ≤ _; omega
  clear hb2 S1 B1 Z1
  have hne : ∀ w, (binOp .neq 169 .nilFunc .nilFunc).run Tryz.prog w = .ok (.bool false) w := fun _ => by kernel_rfl
  try simp only [codeV] at hne
  go_wp2_with fail
  refine (fixed_w83_80 w2).mono ?_
  rintro e w4 ⟨rfl, hb4⟩
  have S4 : Hid (OpdAt w4 (n + 1)) := S2.out.below hb4
  have B4 : Hid (Below n w w4) := B2.out.trans (hb4.mono (by have := Z2.out; omega))
  clear hb4 S2 B2 Z2
  simp only [trV]
  obtain ⟨c0, c1, c2, c3⟩ := S4.out.cells
  go_wp2
  obtain ⟨w3, hw3, hc3, hb3, -⟩ := opd_set S4.out 3 3 0
  rw [hw3]
  have r0 := Lib.cell_of_heap hc3 0
  have r1 := Lib.cell_of_heap hc3 1
  have r2 := Lib.cell_of_heap hc3 2
  refine bodyPost_ret (v := .tuple #[trV (3, 3, 0), .string ⟨#[]⟩]) ?_ rfl ?_
  · simp [results, Tryz.results89, go_sem, r0, r1, r2, trV]
  · exact ⟨rfl, by rw [HN.out]; exact B4.out.trans (hb3.mono (by omega))⟩
theorem operand_w65_70 (p : Pat) (hl : p.1.length = 8) (op : Int) (h0 : 0 ≤ op) (h1 : op ≤ 255) (w : World) : Calls Tryz.prog 89 #[codeV p op, .string ⟨#[65, 70]⟩] w
    fun e w' => e = .returned (.tuple #[trV (3, 4, 0), .string ⟨#[]⟩]) ∧ Below w.heap.size w w' := by
  unfold codeV
  obtain ⟨w0, hw0, S0, B0, Z0, C0⟩ := code_start w p op
  obtain ⟨n, hn⟩ : ∃ n, w.heap.size = n := ⟨_, rfl⟩
  rw [hn] at S0 B0 Z0 C0
  have k0 := Lib.cell_of_heap C0 0
  have k1 := Lib.cell_of_heap C0 1
  have k2 := Lib.cell_of_heap C0 2
  obtain ⟨c0, c1, c2, c3⟩ := S0.cells
  have hix : ∀ w, (Instr.index 9 (.string ⟨#[65, 70]⟩) (.int .i64 0)).run Tryz.prog w = .ok (.int .u8 65) w := fun _ => by kernel_rfl
  have S0 := Lib.hid S0
  have B0 := Lib.hid B0
  have HN := Lib.hid hn
  have HP := Lib.hid hl
  have HO := Lib.hid (And.intro h0 h1)
  clear hl h0 h1
  go_enter Tryz.func89, Tryz.ntmps89
  go_wp2
  go_still_tail 3, (by kernel_rfl)
  change wpList _ _ _ _ _ w0.drew
  obtain ⟨w1, hw1⟩ : ∃ w1, w0.drew = w1 := ⟨_, rfl⟩
  have S1 : Hid (OpdAt w1 (n + 1)) := by rw [← hw1]; exact S0.out
  have B1 : Hid (Below n w w1) := by rw [← hw1]; exact B0.out.drew
  have Z1 : w1.heap.size = n + 2 := by rw [← hw1]; exact Z0
  rw [hw1]
  clear S0 B0 C0 hw0 hw1 Z0 c0 c1 c2 c3 k0 k1 k2
  go_wp2_with fail
  refine (field_65 p op w1).mono ?_
  rintro e w2 ⟨rfl, hb2⟩
  have S2 : Hid (OpdAt w2 (n + 1)) := S1.out.below hb2
  have B2 : Hid (Below n w w2) := B1.out.trans (hb2.mono (by omega))
  have Z2 : Hid (n + 2 ≤ w2.heap.size) := by have := hb2.size; show _ ≤ _; omega
  clear hb2 S1 B1 Z1
  have hne : ∀ w, (binOp .neq 169 .nilFunc .nilFunc).run Tryz.prog w = .ok (.bool false) w := fun _ => by kernel_rfl
  try simp only [codeV] at hne
  go_wp2_with fail
  refine (fixed_w65_70 w2).mono ?_
  rintro e w4 ⟨rfl, hb4⟩
  have S4 : Hid (OpdAt w4 (n + 1)) := S2.out.below hb4
  have B4 : Hid (Below n w w4) := B2.out.trans (hb4.mono (by have := Z2.out; omega))
  clear hb4 S2 B2 Z2
  simp only [trV]
  obtain ⟨c0, c1, c2, c3⟩ := S4.out.cells
  go_wp2
  obtain ⟨w3, hw3, hc3, hb3, -⟩ := opd_set S4.out 3 4 0
  rw [hw3]
  have r0 := Lib.cell_of_heap hc3 0
  have r1 := Lib.cell_of_heap hc3 1
  have r2 := Lib.cell_of_heap hc3 2
  refine bodyPost_ret (v := .tuple #[trV (3, 4, 0), .string ⟨#[]⟩]) ?_ rfl ?_
  · simp [results, Tryz.results89, go_sem, r0, r1, r2, trV]
  · exact ⟨rfl, by rw [HN.out]; exact B4.out.trans (hb3.mono (by omega))⟩
theorem operand_w65_70_39 (p : Pat) (hl : p.1.length = 8) (op : Int) (h0 : 0 ≤ op) (h1 : op ≤ 255) (w : World) : Calls Tryz.prog 89 #[codeV p op, .string ⟨#[65, 70, 39]⟩] w
    fun e w' => e = .returned (.tuple #[trV (3, 7, 0), .string ⟨#[]⟩]) ∧ Below w.heap.size w w' := by
  unfold codeV
  obtain ⟨w0, hw0, S0, B0, Z0, C0⟩ := code_start w p op
  obtain ⟨n, hn⟩ : ∃ n, w.heap.size = n := ⟨_, rfl⟩
  rw [hn] at S0 B0 Z0 C0
  have k0 := Lib.cell_of_heap C0 0
  have k1 := Lib.cell_of_heap C0 1
  have k2 := Lib.cell_of_heap C0 2
  obtain ⟨c0, c1, c2, c3⟩ := S0.cells
  have hix : ∀ w, (Instr.index 9 (.string ⟨#[65, 70, 39]⟩) (.int .i64 0)).run Tryz.prog w = .ok (.int .u8 65) w := fun _ => by kernel_rfl
  have S0 := Lib.hid S0
  have B0 := Lib.hid B0
  have HN := Lib.hid hn
  have HP := Lib.hid hl
  have HO := Lib.hid (And.intro h0 h1)
  clear hl h0 h1
  go_enter Tryz.func89, Tryz.ntmps89
  go_wp2
  go_still_tail 3, (by kernel_rfl)
  change wpList _ _ _ _ _ w0.drew
  obtain ⟨w1, hw1⟩ : ∃ w1, w0.drew = w1 := ⟨_, rfl⟩
  have S1 : Hid (OpdAt w1 (n + 1)) := by rw [← hw1]; exact S0.out
  have B1 : Hid (Below n w w1) := by rw [← hw1]; exact B0.out.drew
  have Z1 : w1.heap.size = n + 2 := by rw [← hw1]; exact Z0
  rw [hw1]
  clear S0 B0 C0 hw0 hw1 Z0 c0 c1 c2 c3 k0 k1 k2
  go_wp2_with fail
  refine (field_65 p op w1).mono ?_
  rintro e w2 ⟨rfl, hb2⟩
  have S2 : Hid (OpdAt w2 (n + 1)) := S1.out.below hb2
  have B2 : Hid (Below n w w2) := B1.out.trans (hb2.mono (by omega))
  have Z2 : Hid (n + 2 ≤ w2.heap.size) := by have := hb2.size; show _ ≤ _; omega
  clear hb2 S1 B1 Z1
  have hne : ∀ w, (binOp .neq 169 .nilFunc .nilFunc).run Tryz.prog w = .ok (.bool false) w := fun _ => by kernel_rfl
  try simp only [codeV] at hne
  go_wp2_with fail
  refine (fixed_w65_70_39 w2).mono ?_
  rintro e w4 ⟨rfl, hb4⟩
  have S4 : Hid (OpdAt w4 (n + 1)) := S2.out.below hb4
  have B4 : Hid (Below n w w4) := B2.out.trans (hb4.mono (by have := Z2.out; omega))
  clear hb4 S2 B2 Z2
  simp only [trV]
  obtain ⟨c0, c1, c2, c3⟩ := S4.out.cells
  go_wp2
  obtain ⟨w3, hw3, hc3, hb3, -⟩ := opd_set S4.out 3 7 0
  rw [hw3]
  have r0 := Lib.cell_of_heap hc3 0
  have r1 := Lib.cell_of_heap hc3 1
  have r2 := Lib.cell_of_heap hc3 2
  refine bodyPost_ret (v := .tuple #[trV (3, 7, 0), .string ⟨#[]⟩]) ?_ rfl ?_
  · simp [results, Tryz.results89, go_sem, r0, r1, r2, trV]
  · exact ⟨rfl, by rw [HN.out]; exact B4.out.trans (hb3.mono (by omega))⟩
theorem operand_w40_66_67_41 (p : Pat) (hl : p.1.length = 8) (op : Int) (h0 : 0 ≤ op) (h1 : op ≤ 255) (w : World) : Calls Tryz.prog 89 #[codeV p op, .string ⟨#[40, 66, 67, 41]⟩] w
    fun e w' => e = .returned (.tuple #[trV (4, 0, 0), .string ⟨#[]⟩]) ∧ Below w.heap.size w w' := by
  unfold codeV
  obtain ⟨w0, hw0, S0, B0, Z0, C0⟩ := code_start w p op
  obtain ⟨n, hn⟩ : ∃ n, w.heap.size = n := ⟨_, rfl⟩
  rw [hn] at S0 B0 Z0 C0
  have k0 := Lib.cell_of_heap C0 0
  have k1 := Lib.cell_of_heap C0 1
  have k2 := Lib.cell_of_heap C0 2
  obtain ⟨c0, c1, c2, c3⟩ := S0.cells
  have hix : ∀ w, (Instr.index 9 (.string ⟨#[40, 66, 67, 41]⟩) (.int .i64 0)).run Tryz.prog w = .ok (.int .u8 40) w := fun _ => by kernel_rfl
  have S0 := Lib.hid S0
  have B0 := Lib.hid B0
  have HN := Lib.hid hn
  have HP := Lib.hid hl
  have HO := Lib.hid (And.intro h0 h1)
  clear hl h0 h1
  go_enter Tryz.func89, Tryz.ntmps89
  go_wp2
  go_still_tail 3, (by kernel_rfl)
  change wpList _ _ _ _ _ w0.drew
  obtain ⟨w1, hw1⟩ : ∃ w1, w0.drew = w1 := ⟨_, rfl⟩
  have S1 : Hid (OpdAt w1 (n + 1)) := by rw [← hw1]; exact S0.out
  have B1 : Hid (Below n w w1) := by rw [← hw1]; exact B0.out.drew
  have Z1 : w1.heap.size = n + 2 := by rw [← hw1]; exact Z0
  rw [hw1]
  clear S0 B0 C0 hw0 hw1 Z0 c0 c1 c2 c3 k0 k1 k2
  go_wp2_with fail
  refine (field_40 p op w1).mono ?_
  rintro e w2 ⟨rfl, hb2⟩
  have S2 : Hid (OpdAt w2 (n + 1)) := S1.out.below hb2
  have B2 : Hid (Below n w w2) := B1.out.trans (hb2.mono (by omega))
  have Z2 : Hid (n + 2 ≤ w2.heap.size) := by have := hb2.size; show _ ≤ _; omega
  clear hb2 S1 B1 Z1
  have hne : ∀ w, (binOp .neq 169 .nilFunc .nilFunc).run Tryz.prog w = .ok (.bool false) w := fun _ => by kernel_rfl
  try simp only [codeV] at hne
  go_wp2_with fail
  refine (fixed_w40_66_67_41 w2).mono ?_
  rintro e w4 ⟨rfl, hb4⟩
  have S4 : Hid (OpdAt w4 (n + 1)) := S2.out.below hb4
  have B4 : Hid (Below n w w4) := B2.out.trans (hb4.mono (by have := Z2.out; omega))
  clear hb4 S2 B2 Z2
  simp only [trV]
  obtain ⟨c0, c1, c2, c3⟩ := S4.out.cells
  go_wp2
  obtain ⟨w3, hw3, hc3, hb3, -⟩ := opd_set S4.out 4 0 0
  rw [hw3]
  have r0 := Lib.cell_of_heap hc3 0
  have r1 := Lib.cell_of_heap hc3 1
  have r2 := Lib.cell_of_heap hc3 2
  refine bodyPost_ret (v := .tuple #[trV (4, 0, 0), .string ⟨#[]⟩]) ?_ rfl ?_
  · simp [results, Tryz.results89, go_sem, r0, r1, r2, trV]
  · exact ⟨rfl, by rw [HN.out]; exact B4.out.trans (hb3.mono (by omega))⟩
theorem operand_w40_68_69_41 (p : Pat) (hl : p.1.length = 8) (op : Int) (h0 : 0 ≤ op) (h1 : op ≤ 255) (w : World) : Calls Tryz.prog 89 #[codeV p op, .string ⟨#[40, 68, 69, 41]⟩] w
    fun e w' => e = .returned (.tuple #[trV (4, 1, 0), .string ⟨#[]⟩]) ∧ Below w.heap.size w w' := by
  unfold codeV
  obtain ⟨w0, hw0, S0, B0, Z0, C0⟩ := code_start w p op
  obtain ⟨n, hn⟩ : ∃ n, w.heap.size = n := ⟨_, rfl⟩
  rw [hn] at S0 B0 Z0 C0
  have k0 := Lib.cell_of_heap C0 0
  have k1 := Lib.cell_of_heap C0 1
  have k2 := Lib.cell_of_heap C0 2
  obtain ⟨c0, c1, c2, c3⟩ := S0.cells
  have hix : ∀ w, (Instr.index 9 (.string ⟨#[40, 68, 69, 41]⟩) (.int .i64 0)).run Tryz.prog w = .ok (.int .u8 40) w := fun _ => by kernel_rfl
  have S0 := Lib.hid S0
  have B0 := Lib.hid B0
  have HN := Lib.hid hn
  have HP := Lib.hid hl
  have HO := Lib.hid (And.intro h0 h1)
  clear hl h0 h1
  go_enter Tryz.func89, Tryz.ntmps89
  go_wp2
  go_still_tail 3, (by kernel_rfl)
  change wpList _ _ _ _ _ w0.drew
  obtain ⟨w1, hw1⟩ : ∃ w1, w0.drew = w1 := ⟨_, rfl⟩
  have S1 : Hid (OpdAt w1 (n + 1)) := by rw [← hw1]; exact S0.out
  have B1 : Hid (Below n w w1) := by rw [← hw1]; exact B0.out.drew
  have Z1 : w1.heap.size = n + 2 := by rw [← hw1]; exact Z0
  rw [hw1]
  clear S0 B0 C0 hw0 hw1 Z0 c0 c1 c2 c3 k0 k1 k2
  go_wp2_with fail
  refine (field_40 p op w1).mono ?_
  rintro e w2 ⟨rfl, hb2⟩
  have S2 : Hid (OpdAt w2 (n + 1)) := S1.out.below hb2
  have B2 : Hid (Below n w w2) := B1.out.trans (hb2.mono (by omega))
  have Z2 : Hid (n + 2 ≤ w2.heap.size) := by have := hb2.size; show _ ≤ _; omega
  clear hb2 S1 B1 Z1
  have hne : ∀ w, (binOp .neq 169 .nilFunc .nilFunc).run Tryz.prog w = .ok (.bool false) w := fun _ => by kernel_rfl
  try simp only [codeV] at hne
  go_wp2_with fail
  refine (fixed_w40_68_69_41 w2).mono ?_
  rintro e w4 ⟨rfl, hb4⟩
  have S4 : Hid (OpdAt w4 (n + 1)) := S2.out.below hb4
  have B4 : Hid (Below n w w4) := B2.out.trans (hb4.mono (by have := Z2.out; omega))
  clear hb4 S2 B2 Z2
  simp only [trV]
  obtain ⟨c0, c1, c2, c3⟩ := S4.out.cells
  go_wp2
  obtain ⟨w3, hw3, hc3, hb3, -⟩ := opd_set S4.out 4 1 0
  rw [hw3]
  have r0 := Lib.cell_of_heap hc3 0
  have r1 := Lib.cell_of_heap hc3 1
  have r2 := Lib.cell_of_heap hc3 2
  refine bodyPost_ret (v := .tuple #[trV (4, 1, 0), .string ⟨#[]⟩]) ?_ rfl ?_
  · simp [results, Tryz.results89, go_sem, r0, r1, r2, trV]
  · exact ⟨rfl, by rw [HN.out]; exact B4.out.trans (hb3.mono (by omega))⟩
theorem operand_w40_72_76_41 (p : Pat) (hl : p.1.length = 8) (op : Int) (h0 : 0 ≤ op) (h1 : op ≤ 255) (w : World) : Calls Tryz.prog 89 #[codeV p op, .string ⟨#[40, 72, 76, 41]⟩] w
    fun e w' => e = .returned (.tuple #[trV (4, 2, 0), .string ⟨#[]⟩]) ∧ Below w.heap.size w w' := by
  unfold codeV
  obtain ⟨w0, hw0, S0, B0, Z0, C0⟩ := code_start w p op
  obtain ⟨n, hn⟩ : ∃ n, w.heap.size = n := ⟨_, rfl⟩
  rw [hn] at S0 B0 Z0 C0
  have k0 := Lib.cell_of_heap C0 0
  have k1 := Lib.cell_of_heap C0 1
  have k2 := Lib.cell_of_heap C0 2
  obtain ⟨c0, c1, c2, c3⟩ := S0.cells
  have hix : ∀ w, (Instr.index 9 (.string ⟨#[40, 72, 76, 41]⟩) (.int .i64 0)).run Tryz.prog w = .ok (.int .u8 40) w := fun _ => by kernel_rfl
  have S0 := Lib.hid S0
  have B0 := Lib.hid B0
  have HN := Lib.hid hn
  have HP := Lib.hid hl
  have HO := Lib.hid (And.intro h0 h1)
  clear hl h0 h1
  go_enter Tryz.func89, Tryz.ntmps89
  go_wp2
  go_still_tail 3, (by kernel_rfl)
  change wpList _ _ _ _ _ w0.drew
  obtain ⟨w1, hw1⟩ : ∃ w1, w0.drew = w1 := ⟨_, rfl⟩
  have S1 : Hid (OpdAt w1 (n + 1)) := by rw [← hw1]; exact S0.out
  have B1 : Hid (Below n w w1) := by rw [← hw1]; exact B0.out.drew
  have Z1 : w1.heap.size = n + 2 := by rw [← hw1]; exact Z0
  rw [hw1]
  clear S0 B0 C0 hw0 hw1 Z0 c0 c1 c2 c3 k0 k1 k2
  go_wp2_with fail
  refine (field_40 p op w1).mono ?_
  rintro e w2 ⟨rfl, hb2⟩
  have S2 : Hid (OpdAt w2 (n + 1)) := S1.out.below hb2
  have B2 : Hid (Below n w w2) := B1.out.trans (hb2.mono (by omega))
  have Z2 : Hid (n + 2 ≤ w2.heap.size) := by have := hb2.size; show _ ≤ _; omega
  clear hb2 S1 B1 Z1
  have hne : ∀ w, (binOp .neq 169 .nilFunc .nilFunc).run Tryz.prog w = .ok (.bool false) w := fun _ => by kernel_rfl
  try simp only [codeV] at hne
  go_wp2_with fail
  refine (fixed_w40_72_76_41 w2).mono ?_
  rintro e w4 ⟨rfl, hb4⟩
  have S4 : Hid (OpdAt w4 (n + 1)) := S2.out.below hb4
  have B4 : Hid (Below n w w4) := B2.out.trans (hb4.mono (by have := Z2.out; omega))
  clear hb4 S2 B2 Z2
  simp only [trV]
  obtain ⟨c0, c1, c2, c3⟩ := S4.out.cells
  go_wp2
  obtain ⟨w3, hw3, hc3, hb3, -⟩ := opd_set S4.out 4 2 0
  rw [hw3]
  have r0 := Lib.cell_of_heap hc3 0
  have r1 := Lib.cell_of_heap hc3 1
  have r2 := Lib.cell_of_heap hc3 2
  refine bodyPost_ret (v := .tuple #[trV (4, 2, 0), .string ⟨#[]⟩]) ?_ rfl ?_
  · simp [results, Tryz.results89, go_sem, r0, r1, r2, trV]
  · exact ⟨rfl, by rw [HN.out]; exact B4.out.trans (hb3.mono (by omega))⟩
theorem operand_w40_83_80_41 (p : Pat) (hl : p.1.length = 8) (op : Int) (h0 : 0 ≤ op) (h1 : op ≤ 255) (w : World) : Calls Tryz.prog 89 #[codeV p op, .string ⟨#[40, 83, 80, 41]⟩] w
    fun e w' => e = .returned (.tuple #[trV (4, 3, 0), .string ⟨#[]⟩]) ∧ Below w.heap.size w w' := by
  unfold codeV
  obtain ⟨w0, hw0, S0, B0, Z0, C0⟩ := code_start w p op
  obtain ⟨n, hn⟩ : ∃ n, w.heap.size = n := ⟨_, rfl⟩
  rw [hn] at S0 B0 Z0 C0
  have k0 := Lib.cell_of_heap C0 0
  have k1 := Lib.cell_of_heap C0 1
  have k2 := Lib.cell_of_heap C0 2
  obtain ⟨c0, c1, c2, c3⟩ := S0.cells
  have hix : ∀ w, (Instr.index 9 (.string ⟨#[40, 83, 80, 41]⟩) (.int .i64 0)).run Tryz.prog w = .ok (.int .u8 40) w := fun _ => by kernel_rfl
  have S0 := Lib.hid S0
  have B0 := Lib.hid B0
  have HN := Lib.hid hn
  have HP := Lib.hid hl
  have HO := Lib.hid (And.intro h0 h1)
  clear hl h0 h1
  go_enter Tryz.func89, Tryz.ntmps89
  go_wp2
  go_still_tail 3, (by kernel_rfl)
  change wpList _ _ _ _ _ w0.drew
  obtain ⟨w1, hw1⟩ : ∃ w1, w0.drew = w1 := ⟨_, rfl⟩
  have S1 : Hid (OpdAt w1 (n + 1)) := by rw [← hw1]; exact S0.out
  have B1 : Hid (Below n w w1) := by rw [← hw1]; exact B0.out.drew
  have Z1 : w1.heap.size = n + 2 := by rw [← hw1]; exact Z0
  rw [hw1]
  clear S0 B0 C0 hw0 hw1 Z0 c0 c1 c2 c3 k0 k1 k2
  go_wp2_with fail
  refine (field_40 p op w1).mono ?_
  rintro e w2 ⟨rfl, hb2⟩
  have S2 : Hid (OpdAt w2 (n + 1)) := S1.out.below hb2
  have B2 : Hid (Below n w w2) := B1.out.trans (hb2.mono (by omega))
  have Z2 : Hid (n + 2 ≤ w2.heap.size) := by have := hb2.size; show _ ≤ _; omega
  clear hb2 S1 B1 Z1
  have hne : ∀ w, (binOp .neq 169 .nilFunc .nilFunc).run Tryz.prog w = .ok (.bool false) w := fun _ => by kernel_rfl
  try simp only [codeV] at hne
  go_wp2_with fail
  refine (fixed_w40_83_80_41 w2).mono ?_
  rintro e w4 ⟨rfl, hb4⟩
  have S4 : Hid (OpdAt w4 (n + 1)) := S2.out.below hb4
  have B4 : Hid (Below n w w4) := B2.out.trans (hb4.mono (by have := Z2.out; omega))
  clear hb4 S2 B2 Z2
  simp only [trV]
  obtain ⟨c0, c1, c2, c3⟩ := S4.out.cells
  go_wp2
  obtain ⟨w3, hw3, hc3, hb3, -⟩ := opd_set S4.out 4 3 0
  rw [hw3]
  have r0 := Lib.cell_of_heap hc3 0
  have r1 := Lib.cell_of_heap hc3 1
  have r2 := Lib.cell_of_heap hc3 2
  refine bodyPost_ret (v := .tuple #[trV (4, 3, 0), .string ⟨#[]⟩]) ?_ rfl ?_
  · simp [results, Tryz.results89, go_sem, r0, r1, r2, trV]
  · exact ⟨rfl, by rw [HN.out]; exact B4.out.trans (hb3.mono (by omega))⟩
theorem operand_w40_67_41 (p : Pat) (hl : p.1.length = 8) (op : Int) (h0 : 0 ≤ op) (h1 : op ≤ 255) (w : World) : Calls Tryz.prog 89 #[codeV p op, .string ⟨#[40, 67, 41]⟩] w
    fun e w' => e = .returned (.tuple #[trV (4, 8, 0), .string ⟨#[]⟩]) ∧ Below w.heap.size w w' := by
  unfold codeV
  obtain ⟨w0, hw0, S0, B0, Z0, C0⟩ := code_start w p op
  obtain ⟨n, hn⟩ : ∃ n, w.heap.size = n := ⟨_, rfl⟩
  rw [hn] at S0 B0 Z0 C0
  have k0 := Lib.cell_of_heap C0 0
  have k1 := Lib.cell_of_heap C0 1
  have k2 := Lib.cell_of_heap C0 2
  obtain ⟨c0, c1, c2, c3⟩ := S0.cells
  have hix : ∀ w, (Instr.index 9 (.string ⟨#[40, 67, 41]⟩) (.int .i64 0)).run Tryz.prog w = .ok (.int .u8 40) w := fun _ => by kernel_rfl
  have S0 := Lib.hid S0
  have B0 := Lib.hid B0
  have HN := Lib.hid hn
  have HP := Lib.hid hl
  have HO := Lib.hid (And.intro h0 h1)
  clear hl h0 h1
  go_enter Tryz.func89, Tryz.ntmps89
  go_wp2
  go_still_tail 3, (by kernel_rfl)
  change wpList _ _ _ _ _ w0.drew
  obtain ⟨w1, hw1⟩ : ∃ w1, w0.drew = w1 := ⟨_, rfl⟩
  have S1 : Hid (OpdAt w1 (n + 1)) := by rw [← hw1]; exact S0.out
  have B1 : Hid (Below n w w1) := by rw [← hw1]; exact B0.out.drew
  have Z1 : w1.heap.size = n + 2 := by rw [← hw1]; exact Z0
  rw [hw1]
  clear S0 B0 C0 hw0 hw1 Z0 c0 c1 c2 c3 k0 k1 k2
  go_wp2_with fail
  refine (field_40 p op w1).mono ?_
  rintro e w2 ⟨rfl, hb2⟩
  have S2 : Hid (OpdAt w2 (n + 1)) := S1.out.below hb2
  have B2 : Hid (Below n w w2) := B1.out.trans (hb2.mono (by omega))
  have Z2 : Hid (n + 2 ≤ w2.heap.size) := by have := hb2.size; show _ ≤ _; omega
  clear hb2 S1 B1 Z1
  have hne : ∀ w, (binOp .neq 169 .nilFunc .nilFunc).run Tryz.prog w = .ok (.bool false) w := fun _ => by kernel_rfl
  try simp only [codeV] at hne
  go_wp2_with fail
  refine (fixed_w40_67_41 w2).mono ?_
  rintro e w4 ⟨rfl, hb4⟩
  have S4 : Hid (OpdAt w4 (n + 1)) := S2.out.below hb4
  have B4 : Hid (Below n w w4) := B2.out.trans (hb4.mono (by have := Z2.out; omega))
  clear hb4 S2 B2 Z2
  simp only [trV]
  obtain ⟨c0, c1, c2, c3⟩ := S4.out.cells
  go_wp2
  obtain ⟨w3, hw3, hc3, hb3, -⟩ := opd_set S4.out 4 8 0
  rw [hw3]
  have r0 := Lib.cell_of_heap hc3 0
  have r1 := Lib.cell_of_heap hc3 1
  have r2 := Lib.cell_of_heap hc3 2
  refine bodyPost_ret (v := .tuple #[trV (4, 8, 0), .string ⟨#[]⟩]) ?_ rfl ?_
  · simp [results, Tryz.results89, go_sem, r0, r1, r2, trV]
  · exact ⟨rfl, by rw [HN.out]; exact B4.out.trans (hb3.mono (by omega))⟩
theorem operand_w73 (p : Pat) (hl : p.1.length = 8) (op : Int) (h0 : 0 ≤ op) (h1 : op ≤ 255) (w : World) : Calls Tryz.prog 89 #[codeV p op, .string ⟨#[73]⟩] w
    fun e w' => e = .returned (.tuple #[trV (9, 0, 0), .string ⟨#[]⟩]) ∧ Below w.heap.size w w' := by
  unfold codeV
  obtain ⟨w0, hw0, S0, B0, Z0, C0⟩ := code_start w p op
  obtain ⟨n, hn⟩ : ∃ n, w.heap.size = n := ⟨_, rfl⟩
  rw [hn] at S0 B0 Z0 C0
  have k0 := Lib.cell_of_heap C0 0
  have k1 := Lib.cell_of_heap C0 1
  have k2 := Lib.cell_of_heap C0 2
  obtain ⟨c0, c1, c2, c3⟩ := S0.cells
  have hix : ∀ w, (Instr.index 9 (.string ⟨#[73]⟩) (.int .i64 0)).run Tryz.prog w = .ok (.int .u8 73) w := fun _ => by kernel_rfl
  have S0 := Lib.hid S0
  have B0 := Lib.hid B0
  have HN := Lib.hid hn
  have HP := Lib.hid hl
  have HO := Lib.hid (And.intro h0 h1)
  clear hl h0 h1
  go_enter Tryz.func89, Tryz.ntmps89
  go_wp2
  go_still_tail 3, (by kernel_rfl)
  change wpList _ _ _ _ _ w0.drew
  obtain ⟨w1, hw1⟩ : ∃ w1, w0.drew = w1 := ⟨_, rfl⟩
  have S1 : Hid (OpdAt w1 (n + 1)) := by rw [← hw1]; exact S0.out
  have B1 : Hid (Below n w w1) := by rw [← hw1]; exact B0.out.drew
  have Z1 : w1.heap.size = n + 2 := by rw [← hw1]; exact Z0
  rw [hw1]
  clear S0 B0 C0 hw0 hw1 Z0 c0 c1 c2 c3 k0 k1 k2
  go_wp2_with fail
  refine (field_73 p op w1).mono ?_
  rintro e w2 ⟨rfl, hb2⟩
  have S2 : Hid (OpdAt w2 (n + 1)) := S1.out.below hb2
  have B2 : Hid (Below n w w2) := B1.out.trans (hb2.mono (by omega))
  have Z2 : Hid (n + 2 ≤ w2.heap.size) := by have := hb2.size; show _ ≤ _; omega
  clear hb2 S1 B1 Z1
  have hne : ∀ w, (binOp .neq 169 .nilFunc .nilFunc).run Tryz.prog w = .ok (.bool false) w := fun _ => by kernel_rfl
  try simp only [codeV] at hne
  go_wp2_with fail
  refine (fixed_w73 w2).mono ?_
  rintro e w4 ⟨rfl, hb4⟩
  have S4 : Hid (OpdAt w4 (n + 1)) := S2.out.below hb4
  have B4 : Hid (Below n w w4) := B2.out.trans (hb4.mono (by have := Z2.out; omega))
  clear hb4 S2 B2 Z2
  simp only [trV]
  obtain ⟨c0, c1, c2, c3⟩ := S4.out.cells
  go_wp2
  obtain ⟨w3, hw3, hc3, hb3, -⟩ := opd_set S4.out 9 0 0
  rw [hw3]
  have r0 := Lib.cell_of_heap hc3 0
  have r1 := Lib.cell_of_heap hc3 1
  have r2 := Lib.cell_of_heap hc3 2
  refine bodyPost_ret (v := .tuple #[trV (9, 0, 0), .string ⟨#[]⟩]) ?_ rfl ?_
  · simp [results, Tryz.results89, go_sem, r0, r1, r2, trV]
  · exact ⟨rfl, by rw [HN.out]; exact B4.out.trans (hb3.mono (by omega))⟩
theorem operand_w82 (p : Pat) (hl : p.1.length = 8) (op : Int) (h0 : 0 ≤ op) (h1 : op ≤ 255) (w : World) : Calls Tryz.prog 89 #[codeV p op, .string ⟨#[82]⟩] w
    fun e w' => e = .returned (.tuple #[trV (9, 1, 0), .string ⟨#[]⟩]) ∧ Below w.heap.size w w' := by
  unfold codeV
  obtain ⟨w0, hw0, S0, B0, Z0, C0⟩ := code_start w p op
  obtain ⟨n, hn⟩ : ∃ n, w.heap.size = n := ⟨_, rfl⟩
  rw [hn] at S0 B0 Z0 C0
  have k0 := Lib.cell_of_heap C0 0
  have k1 := Lib.cell_of_heap C0 1
  have k2 := Lib.cell_of_heap C0 2
  obtain ⟨c0, c1, c2, c3⟩ := S0.cells
  have hix : ∀ w, (Instr.index 9 (.string ⟨#[82]⟩) (.int .i64 0)).run Tryz.prog w = .ok (.int .u8 82) w := fun _ => by kernel_rfl
  have S0 := Lib.hid S0
  have B0 := Lib.hid B0
  have HN := Lib.hid hn
  have HP := Lib.hid hl
  have HO := Lib.hid (And.intro h0 h1)
  clear hl h0 h1
  go_enter Tryz.func89, Tryz.ntmps89
  go_wp2
  go_still_tail 3, (by kernel_rfl)
  change wpList _ _ _ _ _ w0.drew
  obtain ⟨w1, hw1⟩ : ∃ w1, w0.drew = w1 := ⟨_, rfl⟩
  have S1 : Hid (OpdAt w1 (n + 1)) := by rw [← hw1]; exact S0.out
  have B1 : Hid (Below n w w1) := by rw [← hw1]; exact B0.out.drew
  have Z1 : w1.heap.size = n + 2 := by rw [← hw1]; exact Z0
  rw [hw1]
  clear S0 B0 C0 hw0 hw1 Z0 c0 c1 c2 c3 k0 k1 k2
  go_wp2_with fail
  refine (field_82 p op w1).mono ?_
  rintro e w2 ⟨rfl, hb2⟩
  have S2 : Hid (OpdAt w2 (n + 1)) := S1.out.below hb2
  have B2 : Hid (Below n w w2) := B1.out.trans (hb2.mono (by omega))
  have Z2 : Hid (n + 2 ≤ w2.heap.size) := by have := hb2.size; show _ ≤ _; omega
  clear hb2 S1 B1 Z1
  have hne : ∀ w, (binOp .neq 169 .nilFunc .nilFunc).run Tryz.prog w = .ok (.bool false) w := fun _ => by kernel_rfl
  try simp only [codeV] at hne
  go_wp2_with fail
  refine (fixed_w82 w2).mono ?_
  rintro e w4 ⟨rfl, hb4⟩
  have S4 : Hid (OpdAt w4 (n + 1)) := S2.out.below hb4
  have B4 : Hid (Below n w w4) := B2.out.trans (hb4.mono (by have := Z2.out; omega))
  clear hb4 S2 B2 Z2
  simp only [trV]
  obtain ⟨c0, c1, c2, c3⟩ := S4.out.cells
  go_wp2
  obtain ⟨w3, hw3, hc3, hb3, -⟩ := opd_set S4.out 9 1 0
  rw [hw3]
  have r0 := Lib.cell_of_heap hc3 0
  have r1 := Lib.cell_of_heap hc3 1
  have r2 := Lib.cell_of_heap hc3 2
  refine bodyPost_ret (v := .tuple #[trV (9, 1, 0), .string ⟨#[]⟩]) ?_ rfl ?_
  · simp [results, Tryz.results89, go_sem, r0, r1, r2, trV]
  · exact ⟨rfl, by rw [HN.out]; exact B4.out.trans (hb3.mono (by omega))⟩
theorem operand_w48 (p : Pat) (hl : p.1.length = 8) (op : Int) (h0 : 0 ≤ op) (h1 : op ≤ 255) (w : World) : Calls Tryz.prog 89 #[codeV p op, .string ⟨#[48]⟩] w
    fun e w' => e = .returned (.tuple #[trV (6, 0, 0), .string ⟨#[]⟩]) ∧ Below w.heap.size w w' := by
  unfold codeV
  obtain ⟨w0, hw0, S0, B0, Z0, C0⟩ := code_start w p op
  obtain ⟨n, hn⟩ : ∃ n, w.heap.size = n := ⟨_, rfl⟩
  rw [hn] at S0 B0 Z0 C0
  have k0 := Lib.cell_of_heap C0 0
  have k1 := Lib.cell_of_heap C0 1
  have k2 := Lib.cell_of_heap C0 2
  obtain ⟨c0, c1, c2, c3⟩ := S0.cells
  have hix : ∀ w, (Instr.index 9 (.string ⟨#[48]⟩) (.int .i64 0)).run Tryz.prog w = .ok (.int .u8 48) w := fun _ => by kernel_rfl
  have S0 := Lib.hid S0
  have B0 := Lib.hid B0
  have HN := Lib.hid hn
  have HP := Lib.hid hl
  have HO := Lib.hid (And.intro h0 h1)
  clear hl h0 h1
  go_enter Tryz.func89, Tryz.ntmps89
  go_wp2
  go_still_tail 3, (by kernel_rfl)
  change wpList _ _ _ _ _ w0.drew
  obtain ⟨w1, hw1⟩ : ∃ w1, w0.drew = w1 := ⟨_, rfl⟩
  have S1 : Hid (OpdAt w1 (n + 1)) := by rw [← hw1]; exact S0.out
  have B1 : Hid (Below n w w1) := by rw [← hw1]; exact B0.out.drew
  have Z1 : w1.heap.size = n + 2 := by rw [← hw1]; exact Z0
  rw [hw1]
  clear S0 B0 C0 hw0 hw1 Z0 c0 c1 c2 c3 k0 k1 k2
  go_wp2_with fail
  refine (field_48 p op w1).mono ?_
  rintro e w2 ⟨rfl, hb2⟩
  have S2 : Hid (OpdAt w2 (n + 1)) := S1.out.below hb2
  have B2 : Hid (Below n w w2) := B1.out.trans (hb2.mono (by omega))
  have Z2 : Hid (n + 2 ≤ w2.heap.size) := by have := hb2.size; show _ ≤ _; omega
  clear hb2 S1 B1 Z1
  have hne : ∀ w, (binOp .neq 169 .nilFunc .nilFunc).run Tryz.prog w = .ok (.bool false) w := fun _ => by kernel_rfl
  try simp only [codeV] at hne
  go_wp2_with fail
  refine (fixed_w48 w2).mono ?_
  rintro e w4 ⟨rfl, hb4⟩
  have S4 : Hid (OpdAt w4 (n + 1)) := S2.out.below hb4
  have B4 : Hid (Below n w w4) := B2.out.trans (hb4.mono (by have := Z2.out; omega))
  clear hb4 S2 B2 Z2
  simp only [trV]
  obtain ⟨c0, c1, c2, c3⟩ := S4.out.cells
  go_wp2
  obtain ⟨w3, hw3, hc3, hb3, -⟩ := opd_set S4.out 6 0 0
  rw [hw3]
  have r0 := Lib.cell_of_heap hc3 0
  have r1 := Lib.cell_of_heap hc3 1
  have r2 := Lib.cell_of_heap hc3 2
  refine bodyPost_ret (v := .tuple #[trV (6, 0, 0), .string ⟨#[]⟩]) ?_ rfl ?_
  · simp [results, Tryz.results89, go_sem, r0, r1, r2, trV]
  · exact ⟨rfl, by rw [HN.out]; exact B4.out.trans (hb3.mono (by omega))⟩
theorem operand_w49 (p : Pat) (hl : p.1.length = 8) (op : Int) (h0 : 0 ≤ op) (h1 : op ≤ 255) (w : World) : Calls Tryz.prog 89 #[codeV p op, .string ⟨#[49]⟩] w
    fun e w' => e = .returned (.tuple #[trV (6, 0, 1), .string ⟨#[]⟩]) ∧ Below w.heap.size w w' := by
  unfold codeV
  obtain ⟨w0, hw0, S0, B0, Z0, C0⟩ := code_start w p op
  obtain ⟨n, hn⟩ : ∃ n, w.heap.size = n := ⟨_, rfl⟩
  rw [hn] at S0 B0 Z0 C0
  have k0 := Lib.cell_of_heap C0 0
  have k1 := Lib.cell_of_heap C0 1
  have k2 := Lib.cell_of_heap C0 2
  obtain ⟨c0, c1, c2, c3⟩ := S0.cells
  have hix : ∀ w, (Instr.index 9 (.string ⟨#[49]⟩) (.int .i64 0)).run Tryz.prog w = .ok (.int .u8 49) w := fun _ => by kernel_rfl
  have S0 := Lib.hid S0
  have B0 := Lib.hid B0
  have HN := Lib.hid hn
  have HP := Lib.hid hl
  have HO := Lib.hid (And.intro h0 h1)
  clear hl h0 h1
  go_enter Tryz.func89, Tryz.ntmps89
  go_wp2
  go_still_tail 3, (by kernel_rfl)
  change wpList _ _ _ _ _ w0.drew
  obtain ⟨w1, hw1⟩ : ∃ w1, w0.drew = w1 := ⟨_, rfl⟩
  have S1 : Hid (OpdAt w1 (n + 1)) := by rw [← hw1]; exact S0.out
  have B1 : Hid (Below n w w1) := by rw [← hw1]; exact B0.out.drew
  have Z1 : w1.heap.size = n + 2 := by rw [← hw1]; exact Z0
  rw [hw1]
  clear S0 B0 C0 hw0 hw1 Z0 c0 c1 c2 c3 k0 k1 k2
  go_wp2_with fail
  refine (field_49 p op w1).mono ?_
  rintro e w2 ⟨rfl, hb2⟩
  have S2 : Hid (OpdAt w2 (n + 1)) := S1.out.below hb2
  have B2 : Hid (Below n w w2) := B1.out.trans (hb2.mono (by omega))
  have Z2 : Hid (n + 2 ≤ w2.heap.size) := by have := hb2.size; show _ ≤ _; omega
  clear hb2 S1 B1 Z1
  have hne : ∀ w, (binOp .neq 169 .nilFunc .nilFunc).run Tryz.prog w = .ok (.bool false) w := fun _ => by kernel_rfl
  try simp only [codeV] at hne
  go_wp2_with fail
  refine (fixed_w49 w2).mono ?_
  rintro e w4 ⟨rfl, hb4⟩
  have S4 : Hid (OpdAt w4 (n + 1)) := S2.out.below hb4
  have B4 : Hid (Below n w w4) := B2.out.trans (hb4.mono (by have := Z2.out; omega))
  clear hb4 S2 B2 Z2
  simp only [trV]
  obtain ⟨c0, c1, c2, c3⟩ := S4.out.cells
  go_wp2
  obtain ⟨w3, hw3, hc3, hb3, -⟩ := opd_set S4.out 6 0 1
  rw [hw3]
  have r0 := Lib.cell_of_heap hc3 0
  have r1 := Lib.cell_of_heap hc3 1
  have r2 := Lib.cell_of_heap hc3 2
  refine bodyPost_ret (v := .tuple #[trV (6, 0, 1), .string ⟨#[]⟩]) ?_ rfl ?_
  · simp [results, Tryz.results89, go_sem, r0, r1, r2, trV]
  · exact ⟨rfl, by rw [HN.out]; exact B4.out.trans (hb3.mono (by omega))⟩
theorem operand_w50 (p : Pat) (hl : p.1.length = 8) (op : Int) (h0 : 0 ≤ op) (h1 : op ≤ 255) (w : World) : Calls Tryz.prog 89 #[codeV p op, .string ⟨#[50]⟩] w
    fun e w' => e = .returned (.tuple #[trV (6, 0, 2), .string ⟨#[]⟩]) ∧ Below w.heap.size w w' := by
  unfold codeV
  obtain ⟨w0, hw0, S0, B0, Z0, C0⟩ := code_start w p op
  obtain ⟨n, hn⟩ : ∃ n, w.heap.size = n := ⟨_, rfl⟩
  rw [hn] at S0 B0 Z0 C0
  have k0 := Lib.cell_of_heap C0 0
  have k1 := Lib.cell_of_heap C0 1
  have k2 := Lib.cell_of_heap C0 2
  obtain ⟨c0, c1, c2, c3⟩ := S0.cells
  have hix : ∀ w, (Instr.index 9 (.string ⟨#[50]⟩) (.int .i64 0)).run Tryz.prog w = .ok (.int .u8 50) w := fun _ => by kernel_rfl
  have S0 := Lib.hid S0
  have B0 := Lib.hid B0
  have HN := Lib.hid hn
  have HP := Lib.hid hl
  have HO := Lib.hid (And.intro h0 h1)
  clear hl h0 h1
  go_enter Tryz.func89, Tryz.ntmps89
  go_wp2
  go_still_tail 3, (by kernel_rfl)
  change wpList _ _ _ _ _ w0.drew
  obtain ⟨w1, hw1⟩ : ∃ w1, w0.drew = w1 := ⟨_, rfl⟩
  have S1 : Hid (OpdAt w1 (n + 1)) := by rw [← hw1]; exact S0.out
  have B1 : Hid (Below n w w1) := by rw [← hw1]; exact B0.out.drew
  have Z1 : w1.heap.size = n + 2 := by rw [← hw1]; exact Z0
  rw [hw1]
  clear S0 B0 C0 hw0 hw1 Z0 c0 c1 c2 c3 k0 k1 k2
  go_wp2_with fail
  refine (field_50 p op w1).mono ?_
  rintro e w2 ⟨rfl, hb2⟩
  have S2 : Hid (OpdAt w2 (n + 1)) := S1.out.below hb2
  have B2 : Hid (Below n w w2) := B1.out.trans (hb2.mono (by omega))
  have Z2 : Hid (n + 2 ≤ w2.heap.size) := by have := hb2.size; show _ ≤ _; omega
  clear hb2 S1 B1 Z1
  have hne : ∀ w, (binOp .neq 169 .nilFunc .nilFunc).run Tryz.prog w = .ok (.bool false) w := fun _ => by kernel_rfl
  try simp only [codeV] at hne
  go_wp2_with fail
  refine (fixed_w50 w2).mono ?_
  rintro e w4 ⟨rfl, hb4⟩
  have S4 : Hid (OpdAt w4 (n + 1)) := S2.out.below hb4
  have B4 : Hid (Below n w w4) := B2.out.trans (hb4.mono (by have := Z2.out; omega))
  clear hb4 S2 B2 Z2
  simp only [trV]
  obtain ⟨c0, c1, c2, c3⟩ := S4.out.cells
  go_wp2
  obtain ⟨w3, hw3, hc3, hb3, -⟩ := opd_set S4.out 6 0 2
  rw [hw3]
  have r0 := Lib.cell_of_heap hc3 0
  have r1 := Lib.cell_of_heap hc3 1
  have r2 := Lib.cell_of_heap hc3 2
  refine bodyPost_ret (v := .tuple #[trV (6, 0, 2), .string ⟨#[]⟩]) ?_ rfl ?_
  · simp [results, Tryz.results89, go_sem, r0, r1, r2, trV]
  · exact ⟨rfl, by rw [HN.out]; exact B4.out.trans (hb3.mono (by omega))⟩
def wordsAll : List Str := [[101], [110], [119], [40, 110, 41], [40, 119, 41], [114], [115], [112], [113], [99], [107], [98], [116], [65], [68, 69], [72, 76], [83, 80], [65, 70], [65, 70, 39], [40, 66, 67, 41], [40, 68, 69, 41], [40, 72, 76, 41], [40, 83, 80, 41], [40, 67, 41], [73], [82], [48], [49], [50]]
theorem operand_any (p : Pat) (hl : p.1.length = 8) (op : Int) (h0 : 0 ≤ op) (h1 : op ≤ 255) (word : Str) (hw : word ∈ wordsAll) (w : World) : Calls Tryz.prog 89 #[codeV p op, .string (sB word)] w
    fun e w' => e = .returned (.tuple #[trV (opT p op word).1, .string (sB (opT p op word).2)]) ∧ Below w.heap.size w w' := by
  unfold wordsAll at hw
  simp only [List.mem_cons, List.not_mem_nil, or_false] at hw
  rcases hw with rfl | rfl | rfl | rfl | rfl | rfl | rfl | rfl | rfl | rfl | rfl | rfl | rfl | rfl | rfl | rfl | rfl | rfl | rfl | rfl | rfl | rfl | rfl | rfl | rfl | rfl | rfl | rfl | rfl
  · exact operand_w101 p hl op h0 h1 w
  · exact operand_w110 p hl op h0 h1 w
  · exact operand_w119 p hl op h0 h1 w
  · exact operand_w40_110_41 p hl op h0 h1 w
  · exact operand_w40_119_41 p hl op h0 h1 w
  · exact operand_w114 p hl op h0 h1 w
  · exact operand_w115 p hl op h0 h1 w
  · exact operand_w112 p hl op h0 h1 w
  · exact operand_w113 p hl op h0 h1 w
  · exact operand_w99 p hl op h0 h1 w
  · exact operand_w107 p hl op h0 h1 w
  · exact operand_w98 p hl op h0 h1 w
  · exact operand_w116 p hl op h0 h1 w
  · exact operand_w65 p hl op h0 h1 w
  · exact operand_w68_69 p hl op h0 h1 w
  · exact operand_w72_76 p hl op h0 h1 w
  · exact operand_w83_80 p hl op h0 h1 w
  · exact operand_w65_70 p hl op h0 h1 w
  · exact operand_w65_70_39 p hl op h0 h1 w
  · exact operand_w40_66_67_41 p hl op h0 h1 w
  · exact operand_w40_68_69_41 p hl op h0 h1 w
  · exact operand_w40_72_76_41 p hl op h0 h1 w
  · exact operand_w40_83_80_41 p hl op h0 h1 w
  · exact operand_w40_67_41 p hl op h0 h1 w
  · exact operand_w73 p hl op h0 h1 w
  · exact operand_w82 p hl op h0 h1 w
  · exact operand_w48 p hl op h0 h1 w
  · exact operand_w49 p hl op h0 h1 w
  · exact operand_w50 p hl op h0 h1 w
end Go.Proofs.YtbbpkoaeedkncaaGreatDoor
