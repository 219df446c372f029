/-
  The reference's ed as one table.
-/
import Derived.Test.YtipgecdfnbldnaaGreatDoorMRfKa
import Derived.Test.YtipgecdfnbldnaaGreatDoorMRfKb
import Derived.Test.YtipgecdfnbldnaaGreatDoorMRfKc
import Derived.Test.YtipgecdfnbldnaaGreatDoorMRfKe
import Derived.Deep.DeepCutAuto
import Derived.Deep.Cut
import Derived.StillTail
import Derived.StillTailTactics
import Derived.Deep.RegionHeld3
import Derived.RegionTactic
set_option linter.all false
set_option maxRecDepth 100000
set_option maxHeartbeats 4000000
namespace Go.Proofs.YtipgecdfnbldnaaGreatDoor
open Go.RowKit Go.Shelf
attribute [local irreducible] Go.Mixed.wpMix
def edT1 : List (Str × List Tr × Str × Bool) := [([73, 78], [(1, 0, 0), (4, 8, 0)], [], false),
  ([73, 78], [(1, 1, 0), (4, 8, 0)], [], false),
  ([73, 78], [(1, 2, 0), (4, 8, 0)], [], false),
  ([73, 78], [(1, 3, 0), (4, 8, 0)], [], false),
  ([73, 78], [(1, 4, 0), (4, 8, 0)], [], false),
  ([73, 78], [(1, 5, 0), (4, 8, 0)], [], false),
  ([73, 78], [(4, 8, 0)], [], false),
  ([73, 78], [(1, 7, 0), (4, 8, 0)], [], false),
  ([79, 85, 84], [(4, 8, 0), (1, 0, 0)], [], false),
  ([79, 85, 84], [(4, 8, 0), (1, 1, 0)], [], false),
  ([79, 85, 84], [(4, 8, 0), (1, 2, 0)], [], false),
  ([79, 85, 84], [(4, 8, 0), (1, 3, 0)], [], false),
  ([79, 85, 84], [(4, 8, 0), (1, 4, 0)], [], false),
  ([79, 85, 84], [(4, 8, 0), (1, 5, 0)], [], false),
  ([79, 85, 84], [(4, 8, 0), (6, 0, 0)], [], false),
  ([79, 85, 84], [(4, 8, 0), (1, 7, 0)], [], false),
  ([83, 66, 67], [(3, 2, 0), (3, 0, 0)], [], false),
  ([65, 68, 67], [(3, 2, 0), (3, 0, 0)], [], false),
  ([83, 66, 67], [(3, 2, 0), (3, 1, 0)], [], false),
  ([65, 68, 67], [(3, 2, 0), (3, 1, 0)], [], false),
  ([83, 66, 67], [(3, 2, 0), (3, 2, 0)], [], false),
  ([65, 68, 67], [(3, 2, 0), (3, 2, 0)], [], false),
  ([83, 66, 67], [(3, 2, 0), (3, 3, 0)], [], false),
  ([65, 68, 67], [(3, 2, 0), (3, 3, 0)], [], false),
  ([76, 68], [(7, 0, 0), (3, 0, 0)], [119], false),
  ([76, 68], [(3, 0, 0), (7, 0, 0)], [119], false),
  ([76, 68], [(7, 0, 0), (3, 1, 0)], [119], false),
  ([76, 68], [(3, 1, 0), (7, 0, 0)], [119], false),
  ([76, 68], [(7, 0, 0), (3, 2, 0)], [119], true),
  ([76, 68], [(3, 2, 0), (7, 0, 0)], [119], true),
  ([76, 68], [(7, 0, 0), (3, 3, 0)], [119], false),
  ([76, 68], [(3, 3, 0), (7, 0, 0)], [119], false),
  ([78, 69, 71], [], [], false),
  ([78, 69, 71], [], [], true),
  ([78, 69, 71], [], [], true),
  ([78, 69, 71], [], [], true),
  ([78, 69, 71], [], [], true),
  ([78, 69, 71], [], [], true),
  ([78, 69, 71], [], [], true),
  ([78, 69, 71], [], [], true),
  ([82, 69, 84, 78], [], [], false),
  ([82, 69, 84, 73], [], [], false),
  ([82, 69, 84, 78], [], [], true),
  ([82, 69, 84, 78], [], [], true),
  ([82, 69, 84, 78], [], [], true),
  ([82, 69, 84, 78], [], [], true),
  ([82, 69, 84, 78], [], [], true),
  ([82, 69, 84, 78], [], [], true),
  ([73, 77], [(6, 0, 0)], [], false),
  ([73, 77], [(6, 0, 0)], [], true),
  ([73, 77], [(6, 0, 1)], [], false),
  ([73, 77], [(6, 0, 2)], [], false),
  ([73, 77], [(6, 0, 0)], [], true),
  ([73, 77], [(6, 0, 0)], [], true),
  ([73, 77], [(6, 0, 1)], [], true),
  ([73, 77], [(6, 0, 2)], [], true),
  ([76, 68], [(9, 0, 0), (1, 7, 0)], [], false),
  ([76, 68], [(9, 1, 0), (1, 7, 0)], [], false),
  ([76, 68], [(1, 7, 0), (9, 0, 0)], [], false),
  ([76, 68], [(1, 7, 0), (9, 1, 0)], [], false),
  ([82, 82, 68], [], [], false),
  ([82, 76, 68], [], [], false),
  ([], [], [], false),
  ([], [], [], false)]
def edT2 : List Str := [[76, 68, 73], [67, 80, 73], [73, 78, 73], [79, 85, 84, 73], [76, 68, 68], [67, 80, 68], [73, 78, 68], [79, 85, 84, 68], [76, 68, 73, 82], [67, 80, 73, 82], [73, 78, 73, 82], [79, 84, 73, 82], [76, 68, 68, 82], [67, 80, 68, 82], [73, 78, 68, 82], [79, 84, 68, 82]]
def edN (op : Nat) : Str × List Tr × Str × Bool :=
  if op / 64 = 1 then edT1.getD (8 * (op % 8) + op / 8 % 8) ([], [], [], false) else if op / 64 = 2 ∧ op % 8 < 4 ∧ 4 ≤ op / 8 % 8 then (edT2.getD (4 * (op / 8 % 8 - 4) + op % 8) [], [], [], false) else ([], [], [], false)
theorem edA_0 (op : Nat) (hop : op < 256) (y : Nat) (hx : op / 64 = 1) (hy : op / 8 % 8 = y) (hz : op % 8 = 0) (w : World) : Calls Tryz.prog 30 #[.int .u8 op] w (RetE w (edT1.getD (8 * 0 + y) ([], [], [], false)).1 (edT1.getD (8 * 0 + y) ([], [], [], false)).2.1 (edT1.getD (8 * 0 + y) ([], [], [], false)).2.2.1 (edT1.getD (8 * 0 + y) ([], [], [], false)).2.2.2) := by
  rcases (by omega : y = 0 ∨ y = 1 ∨ y = 2 ∨ y = 3 ∨ y = 4 ∨ y = 5 ∨ y = 6 ∨ y = 7) with rfl | rfl | rfl | rfl | rfl | rfl | rfl | rfl
  · exact ed_1_0 op hop 0 0 hx hy hz rfl (by decide) w
  · exact ed_1_0 op hop 1 0 hx hy hz rfl (by decide) w
  · exact ed_1_0 op hop 2 0 hx hy hz rfl (by decide) w
  · exact ed_1_0 op hop 3 0 hx hy hz rfl (by decide) w
  · exact ed_1_0 op hop 4 0 hx hy hz rfl (by decide) w
  · exact ed_1_0 op hop 5 0 hx hy hz rfl (by decide) w
  · exact ed_1_0_6 op hop 6 0 hx hy hz rfl rfl w
  · exact ed_1_0 op hop 7 0 hx hy hz rfl (by decide) w
theorem edA_1 (op : Nat) (hop : op < 256) (y : Nat) (hx : op / 64 = 1) (hy : op / 8 % 8 = y) (hz : op % 8 = 1) (w : World) : Calls Tryz.prog 30 #[.int .u8 op] w (RetE w (edT1.getD (8 * 1 + y) ([], [], [], false)).1 (edT1.getD (8 * 1 + y) ([], [], [], false)).2.1 (edT1.getD (8 * 1 + y) ([], [], [], false)).2.2.1 (edT1.getD (8 * 1 + y) ([], [], [], false)).2.2.2) := by
  rcases (by omega : y = 0 ∨ y = 1 ∨ y = 2 ∨ y = 3 ∨ y = 4 ∨ y = 5 ∨ y = 6 ∨ y = 7) with rfl | rfl | rfl | rfl | rfl | rfl | rfl | rfl
  · exact ed_1_1 op hop 0 1 hx hy hz rfl (by decide) w
  · exact ed_1_1 op hop 1 1 hx hy hz rfl (by decide) w
  · exact ed_1_1 op hop 2 1 hx hy hz rfl (by decide) w
  · exact ed_1_1 op hop 3 1 hx hy hz rfl (by decide) w
  · exact ed_1_1 op hop 4 1 hx hy hz rfl (by decide) w
  · exact ed_1_1 op hop 5 1 hx hy hz rfl (by decide) w
  · exact ed_1_1_6 op hop 6 1 hx hy hz rfl rfl w
  · exact ed_1_1 op hop 7 1 hx hy hz rfl (by decide) w
theorem edA_2 (op : Nat) (hop : op < 256) (y : Nat) (hx : op / 64 = 1) (hy : op / 8 % 8 = y) (hz : op % 8 = 2) (w : World) : Calls Tryz.prog 30 #[.int .u8 op] w (RetE w (edT1.getD (8 * 2 + y) ([], [], [], false)).1 (edT1.getD (8 * 2 + y) ([], [], [], false)).2.1 (edT1.getD (8 * 2 + y) ([], [], [], false)).2.2.1 (edT1.getD (8 * 2 + y) ([], [], [], false)).2.2.2) := by
  rcases (by omega : y = 0 ∨ y = 1 ∨ y = 2 ∨ y = 3 ∨ y = 4 ∨ y = 5 ∨ y = 6 ∨ y = 7) with rfl | rfl | rfl | rfl | rfl | rfl | rfl | rfl
  · exact ed_1_2_0 op hop 0 2 hx hy hz rfl rfl w
  · exact ed_1_2_1 op hop 1 2 hx hy hz rfl rfl w
  · exact ed_1_2_0 op hop 2 2 hx hy hz rfl rfl w
  · exact ed_1_2_1 op hop 3 2 hx hy hz rfl rfl w
  · exact ed_1_2_0 op hop 4 2 hx hy hz rfl rfl w
  · exact ed_1_2_1 op hop 5 2 hx hy hz rfl rfl w
  · exact ed_1_2_0 op hop 6 2 hx hy hz rfl rfl w
  · exact ed_1_2_1 op hop 7 2 hx hy hz rfl rfl w
theorem edA_3 (op : Nat) (hop : op < 256) (y : Nat) (hx : op / 64 = 1) (hy : op / 8 % 8 = y) (hz : op % 8 = 3) (w : World) : Calls Tryz.prog 30 #[.int .u8 op] w (RetE w (edT1.getD (8 * 3 + y) ([], [], [], false)).1 (edT1.getD (8 * 3 + y) ([], [], [], false)).2.1 (edT1.getD (8 * 3 + y) ([], [], [], false)).2.2.1 (edT1.getD (8 * 3 + y) ([], [], [], false)).2.2.2) := by
  rcases (by omega : y = 0 ∨ y = 1 ∨ y = 2 ∨ y = 3 ∨ y = 4 ∨ y = 5 ∨ y = 6 ∨ y = 7) with rfl | rfl | rfl | rfl | rfl | rfl | rfl | rfl
  · exact ed_1_3_0 op hop 0 3 hx hy hz rfl rfl w
  · exact ed_1_3_1 op hop 1 3 hx hy hz rfl rfl w
  · exact ed_1_3_0 op hop 2 3 hx hy hz rfl rfl w
  · exact ed_1_3_1 op hop 3 3 hx hy hz rfl rfl w
  · exact ed_1_3_0 op hop 4 3 hx hy hz rfl rfl w
  · exact ed_1_3_1 op hop 5 3 hx hy hz rfl rfl w
  · exact ed_1_3_0 op hop 6 3 hx hy hz rfl rfl w
  · exact ed_1_3_1 op hop 7 3 hx hy hz rfl rfl w
theorem edA_4 (op : Nat) (hop : op < 256) (y : Nat) (hx : op / 64 = 1) (hy : op / 8 % 8 = y) (hz : op % 8 = 4) (w : World) : Calls Tryz.prog 30 #[.int .u8 op] w (RetE w (edT1.getD (8 * 4 + y) ([], [], [], false)).1 (edT1.getD (8 * 4 + y) ([], [], [], false)).2.1 (edT1.getD (8 * 4 + y) ([], [], [], false)).2.2.1 (edT1.getD (8 * 4 + y) ([], [], [], false)).2.2.2) := by
  rcases (by omega : y = 0 ∨ y = 1 ∨ y = 2 ∨ y = 3 ∨ y = 4 ∨ y = 5 ∨ y = 6 ∨ y = 7) with rfl | rfl | rfl | rfl | rfl | rfl | rfl | rfl
  · exact ed_1_4_0 op hop 0 4 hx hy hz rfl rfl w
  · exact ed_1_4 op hop 1 4 hx hy hz rfl (by decide) w
  · exact ed_1_4 op hop 2 4 hx hy hz rfl (by decide) w
  · exact ed_1_4 op hop 3 4 hx hy hz rfl (by decide) w
  · exact ed_1_4 op hop 4 4 hx hy hz rfl (by decide) w
  · exact ed_1_4 op hop 5 4 hx hy hz rfl (by decide) w
  · exact ed_1_4 op hop 6 4 hx hy hz rfl (by decide) w
  · exact ed_1_4 op hop 7 4 hx hy hz rfl (by decide) w
theorem edA_5 (op : Nat) (hop : op < 256) (y : Nat) (hx : op / 64 = 1) (hy : op / 8 % 8 = y) (hz : op % 8 = 5) (w : World) : Calls Tryz.prog 30 #[.int .u8 op] w (RetE w (edT1.getD (8 * 5 + y) ([], [], [], false)).1 (edT1.getD (8 * 5 + y) ([], [], [], false)).2.1 (edT1.getD (8 * 5 + y) ([], [], [], false)).2.2.1 (edT1.getD (8 * 5 + y) ([], [], [], false)).2.2.2) := by
  rcases (by omega : y = 0 ∨ y = 1 ∨ y = 2 ∨ y = 3 ∨ y = 4 ∨ y = 5 ∨ y = 6 ∨ y = 7) with rfl | rfl | rfl | rfl | rfl | rfl | rfl | rfl
  · exact ed_1_5_0 op hop 0 5 hx hy hz rfl rfl w
  · exact ed_1_5_1 op hop 1 5 hx hy hz rfl rfl w
  · exact ed_1_5 op hop 2 5 hx hy hz rfl (by decide) w
  · exact ed_1_5 op hop 3 5 hx hy hz rfl (by decide) w
  · exact ed_1_5 op hop 4 5 hx hy hz rfl (by decide) w
  · exact ed_1_5 op hop 5 5 hx hy hz rfl (by decide) w
  · exact ed_1_5 op hop 6 5 hx hy hz rfl (by decide) w
  · exact ed_1_5 op hop 7 5 hx hy hz rfl (by decide) w
theorem edA_6 (op : Nat) (hop : op < 256) (y : Nat) (hx : op / 64 = 1) (hy : op / 8 % 8 = y) (hz : op % 8 = 6) (w : World) : Calls Tryz.prog 30 #[.int .u8 op] w (RetE w (edT1.getD (8 * 6 + y) ([], [], [], false)).1 (edT1.getD (8 * 6 + y) ([], [], [], false)).2.1 (edT1.getD (8 * 6 + y) ([], [], [], false)).2.2.1 (edT1.getD (8 * 6 + y) ([], [], [], false)).2.2.2) := by
  rcases (by omega : y = 0 ∨ y = 1 ∨ y = 2 ∨ y = 3 ∨ y = 4 ∨ y = 5 ∨ y = 6 ∨ y = 7) with rfl | rfl | rfl | rfl | rfl | rfl | rfl | rfl
  · exact ed_1_6_0 op hop 0 6 hx hy hz rfl rfl w
  · exact ed_1_6_1 op hop 1 6 hx hy hz rfl rfl w
  · exact ed_1_6_2 op hop 2 6 hx hy hz rfl rfl w
  · exact ed_1_6_3 op hop 3 6 hx hy hz rfl rfl w
  · exact ed_1_6_4 op hop 4 6 hx hy hz rfl rfl w
  · exact ed_1_6_5 op hop 5 6 hx hy hz rfl rfl w
  · exact ed_1_6_6 op hop 6 6 hx hy hz rfl rfl w
  · exact ed_1_6_7 op hop 7 6 hx hy hz rfl rfl w
theorem edA_7 (op : Nat) (hop : op < 256) (y : Nat) (hx : op / 64 = 1) (hy : op / 8 % 8 = y) (hz : op % 8 = 7) (w : World) : Calls Tryz.prog 30 #[.int .u8 op] w (RetE w (edT1.getD (8 * 7 + y) ([], [], [], false)).1 (edT1.getD (8 * 7 + y) ([], [], [], false)).2.1 (edT1.getD (8 * 7 + y) ([], [], [], false)).2.2.1 (edT1.getD (8 * 7 + y) ([], [], [], false)).2.2.2) := by
  rcases (by omega : y = 0 ∨ y = 1 ∨ y = 2 ∨ y = 3 ∨ y = 4 ∨ y = 5 ∨ y = 6 ∨ y = 7) with rfl | rfl | rfl | rfl | rfl | rfl | rfl | rfl
  · exact ed_1_7 op hop 0 7 hx hy hz rfl w
  · exact ed_1_7 op hop 1 7 hx hy hz rfl w
  · exact ed_1_7 op hop 2 7 hx hy hz rfl w
  · exact ed_1_7 op hop 3 7 hx hy hz rfl w
  · exact ed_1_7 op hop 4 7 hx hy hz rfl w
  · exact ed_1_7 op hop 5 7 hx hy hz rfl w
  · exact ed_1_7 op hop 6 7 hx hy hz rfl w
  · exact ed_1_7 op hop 7 7 hx hy hz rfl w
theorem edB (op : Nat) (hop : op < 256) (y z : Nat) (hx : op / 64 = 2) (hy : op / 8 % 8 = y) (hz : op % 8 = z) (h4 : 4 ≤ y) (hz4 : z < 4) (w : World) : Calls Tryz.prog 30 #[.int .u8 op] w (RetE w ((edT2.getD (4 * (y - 4) + z) [], [], [], false) : Str × List Tr × Str × Bool).1 ((edT2.getD (4 * (y - 4) + z) [], [], [], false) : Str × List Tr × Str × Bool).2.1 ((edT2.getD (4 * (y - 4) + z) [], [], [], false) : Str × List Tr × Str × Bool).2.2.1 ((edT2.getD (4 * (y - 4) + z) [], [], [], false) : Str × List Tr × Str × Bool).2.2.2) := by
  rcases (by omega : y = 4 ∨ y = 5 ∨ y = 6 ∨ y = 7) with rfl | rfl | rfl | rfl
  · rcases (by omega : z = 0 ∨ z = 1 ∨ z = 2 ∨ z = 3) with rfl | rfl | rfl | rfl
    · exact ed_2_4_0 op hop 4 0 hx hy hz ⟨rfl, rfl⟩ w
    · exact ed_2_4_1 op hop 4 1 hx hy hz ⟨rfl, rfl⟩ w
    · exact ed_2_4_2 op hop 4 2 hx hy hz ⟨rfl, rfl⟩ w
    · exact ed_2_4_3 op hop 4 3 hx hy hz ⟨rfl, rfl⟩ w
  · rcases (by omega : z = 0 ∨ z = 1 ∨ z = 2 ∨ z = 3) with rfl | rfl | rfl | rfl
    · exact ed_2_5_0 op hop 5 0 hx hy hz ⟨rfl, rfl⟩ w
    · exact ed_2_5_1 op hop 5 1 hx hy hz ⟨rfl, rfl⟩ w
    · exact ed_2_5_2 op hop 5 2 hx hy hz ⟨rfl, rfl⟩ w
    · exact ed_2_5_3 op hop 5 3 hx hy hz ⟨rfl, rfl⟩ w
  · rcases (by omega : z = 0 ∨ z = 1 ∨ z = 2 ∨ z = 3) with rfl | rfl | rfl | rfl
    · exact ed_2_6_0 op hop 6 0 hx hy hz ⟨rfl, rfl⟩ w
    · exact ed_2_6_1 op hop 6 1 hx hy hz ⟨rfl, rfl⟩ w
    · exact ed_2_6_2 op hop 6 2 hx hy hz ⟨rfl, rfl⟩ w
    · exact ed_2_6_3 op hop 6 3 hx hy hz ⟨rfl, rfl⟩ w
  · rcases (by omega : z = 0 ∨ z = 1 ∨ z = 2 ∨ z = 3) with rfl | rfl | rfl | rfl
    · exact ed_2_7_0 op hop 7 0 hx hy hz ⟨rfl, rfl⟩ w
    · exact ed_2_7_1 op hop 7 1 hx hy hz ⟨rfl, rfl⟩ w
    · exact ed_2_7_2 op hop 7 2 hx hy hz ⟨rfl, rfl⟩ w
    · exact ed_2_7_3 op hop 7 3 hx hy hz ⟨rfl, rfl⟩ w
theorem ed_any (op : Nat) (hop : op < 256) (w : World) : Calls Tryz.prog 30 #[.int .u8 op] w (RetE w (edN op).1 (edN op).2.1 (edN op).2.2.1 (edN op).2.2.2) := by
  unfold edN
  by_cases h1 : op / 64 = 1
  · rw [if_pos h1]
    obtain ⟨y, hy⟩ : ∃ y, op / 8 % 8 = y := ⟨_, rfl⟩
    obtain ⟨z, hz⟩ : ∃ z, op % 8 = z := ⟨_, rfl⟩
    rw [hy, hz]
    rcases (by omega : z = 0 ∨ z = 1 ∨ z = 2 ∨ z = 3 ∨ z = 4 ∨ z = 5 ∨ z = 6 ∨ z = 7) with rfl | rfl | rfl | rfl | rfl | rfl | rfl | rfl
    · exact edA_0 op hop y h1 hy hz w
    · exact edA_1 op hop y h1 hy hz w
    · exact edA_2 op hop y h1 hy hz w
    · exact edA_3 op hop y h1 hy hz w
    · exact edA_4 op hop y h1 hy hz w
    · exact edA_5 op hop y h1 hy hz w
    · exact edA_6 op hop y h1 hy hz w
    · exact edA_7 op hop y h1 hy hz w
  · rw [if_neg h1]
    by_cases h2 : op / 64 = 2 ∧ op % 8 < 4 ∧ 4 ≤ op / 8 % 8
    · rw [if_pos h2]
      exact edB op hop _ _ h2.1 rfl rfl h2.2.2 h2.2.1 w
    · rw [if_neg h2]
      rcases (by omega : op / 64 = 0 ∨ op / 64 = 2 ∨ op / 64 = 3) with h | h | h
      · exact ed_0 op hop _ _ h rfl rfl w
      · by_cases h3 : 4 ≤ op % 8
        · exact ed_2a op hop _ _ h rfl rfl h3 w
        · exact ed_2b op hop _ _ h rfl rfl (by omega) (by omega) w
      · exact ed_3 op hop _ _ h rfl rfl w
end Go.Proofs.YtipgecdfnbldnaaGreatDoor
