/-
  The reference's low and high as one table each.
-/
import Derived.Test.YtipgecdfnbldnaaGreatDoorReA
import Derived.Test.YtipgecdfnbldnaaGreatDoorMRfD
import Derived.Test.YtipgecdfnbldnaaGreatDoorMRfE
import Derived.Test.YtipgecdfnbldnaaGreatDoorMRfF
import Derived.Test.YtipgecdfnbldnaaGreatDoorMRfG
set_option linter.all false
set_option maxRecDepth 100000
set_option maxHeartbeats 4000000
namespace Go.Proofs.YtipgecdfnbldnaaGreatDoor
open Go.RowKit Go.Shelf
def lowN (y z : Nat) : Str × List Tr × Str := ([([78, 79, 80], [], []),
  ([69, 88], [(3, 4, 0), (3, 7, 0)], []),
  ([68, 74, 78, 90], [(10, 0, 0)], [101]),
  ([74, 82], [(10, 0, 0)], [101]),
  ([74, 82], [(8, 0, 0), (10, 0, 0)], [101]),
  ([74, 82], [(8, 1, 0), (10, 0, 0)], [101]),
  ([74, 82], [(8, 2, 0), (10, 0, 0)], [101]),
  ([74, 82], [(8, 3, 0), (10, 0, 0)], [101]),
  ([76, 68], [(3, 0, 0), (6, 0, 0)], [119]),
  ([65, 68, 68], [(3, 2, 0), (3, 0, 0)], []),
  ([76, 68], [(3, 1, 0), (6, 0, 0)], [119]),
  ([65, 68, 68], [(3, 2, 0), (3, 1, 0)], []),
  ([76, 68], [(3, 2, 0), (6, 0, 0)], [119]),
  ([65, 68, 68], [(3, 2, 0), (3, 2, 0)], []),
  ([76, 68], [(3, 3, 0), (6, 0, 0)], [119]),
  ([65, 68, 68], [(3, 2, 0), (3, 3, 0)], []),
  ([76, 68], [(4, 0, 0), (1, 7, 0)], []),
  ([76, 68], [(1, 7, 0), (4, 0, 0)], []),
  ([76, 68], [(4, 1, 0), (1, 7, 0)], []),
  ([76, 68], [(1, 7, 0), (4, 1, 0)], []),
  ([76, 68], [(7, 0, 0), (3, 2, 0)], [119]),
  ([76, 68], [(3, 2, 0), (7, 0, 0)], [119]),
  ([76, 68], [(7, 0, 0), (1, 7, 0)], [119]),
  ([76, 68], [(1, 7, 0), (7, 0, 0)], [119]),
  ([73, 78, 67], [(3, 0, 0)], []),
  ([68, 69, 67], [(3, 0, 0)], []),
  ([73, 78, 67], [(3, 1, 0)], []),
  ([68, 69, 67], [(3, 1, 0)], []),
  ([73, 78, 67], [(3, 2, 0)], []),
  ([68, 69, 67], [(3, 2, 0)], []),
  ([73, 78, 67], [(3, 3, 0)], []),
  ([68, 69, 67], [(3, 3, 0)], []),
  ([73, 78, 67], [(1, 0, 0)], []),
  ([73, 78, 67], [(1, 1, 0)], []),
  ([73, 78, 67], [(1, 2, 0)], []),
  ([73, 78, 67], [(1, 3, 0)], []),
  ([73, 78, 67], [(1, 4, 0)], []),
  ([73, 78, 67], [(1, 5, 0)], []),
  ([73, 78, 67], [(4, 2, 0)], []),
  ([73, 78, 67], [(1, 7, 0)], []),
  ([68, 69, 67], [(1, 0, 0)], []),
  ([68, 69, 67], [(1, 1, 0)], []),
  ([68, 69, 67], [(1, 2, 0)], []),
  ([68, 69, 67], [(1, 3, 0)], []),
  ([68, 69, 67], [(1, 4, 0)], []),
  ([68, 69, 67], [(1, 5, 0)], []),
  ([68, 69, 67], [(4, 2, 0)], []),
  ([68, 69, 67], [(1, 7, 0)], []),
  ([76, 68], [(1, 0, 0), (6, 0, 0)], [110]),
  ([76, 68], [(1, 1, 0), (6, 0, 0)], [110]),
  ([76, 68], [(1, 2, 0), (6, 0, 0)], [110]),
  ([76, 68], [(1, 3, 0), (6, 0, 0)], [110]),
  ([76, 68], [(1, 4, 0), (6, 0, 0)], [110]),
  ([76, 68], [(1, 5, 0), (6, 0, 0)], [110]),
  ([76, 68], [(4, 2, 0), (6, 0, 0)], [110]),
  ([76, 68], [(1, 7, 0), (6, 0, 0)], [110]),
  ([82, 76, 67, 65], [], []),
  ([82, 82, 67, 65], [], []),
  ([82, 76, 65], [], []),
  ([82, 82, 65], [], []),
  ([68, 65, 65], [], []),
  ([67, 80, 76], [], []),
  ([83, 67, 70], [], []),
  ([67, 67, 70], [], [])] : List (Str × List Tr × Str)).getD (8 * z + y) ([], [], [])
def highN (y z : Nat) : Str × List Tr × Str := ([([82, 69, 84], [(8, 0, 0)], []),
  ([82, 69, 84], [(8, 1, 0)], []),
  ([82, 69, 84], [(8, 2, 0)], []),
  ([82, 69, 84], [(8, 3, 0)], []),
  ([82, 69, 84], [(8, 4, 0)], []),
  ([82, 69, 84], [(8, 5, 0)], []),
  ([82, 69, 84], [(8, 6, 0)], []),
  ([82, 69, 84], [(8, 7, 0)], []),
  ([80, 79, 80], [(3, 0, 0)], []),
  ([82, 69, 84], [], []),
  ([80, 79, 80], [(3, 1, 0)], []),
  ([69, 88, 88], [], []),
  ([80, 79, 80], [(3, 2, 0)], []),
  ([74, 80], [(4, 2, 0)], []),
  ([80, 79, 80], [(3, 4, 0)], []),
  ([76, 68], [(3, 3, 0), (3, 2, 0)], []),
  ([74, 80], [(8, 0, 0), (6, 0, 0)], [119]),
  ([74, 80], [(8, 1, 0), (6, 0, 0)], [119]),
  ([74, 80], [(8, 2, 0), (6, 0, 0)], [119]),
  ([74, 80], [(8, 3, 0), (6, 0, 0)], [119]),
  ([74, 80], [(8, 4, 0), (6, 0, 0)], [119]),
  ([74, 80], [(8, 5, 0), (6, 0, 0)], [119]),
  ([74, 80], [(8, 6, 0), (6, 0, 0)], [119]),
  ([74, 80], [(8, 7, 0), (6, 0, 0)], [119]),
  ([74, 80], [(6, 0, 0)], [119]),
  ([], [], []),
  ([79, 85, 84], [(7, 0, 0), (1, 7, 0)], [110]),
  ([73, 78], [(1, 7, 0), (7, 0, 0)], [110]),
  ([69, 88], [(4, 3, 0), (3, 2, 0)], []),
  ([69, 88], [(3, 1, 0), (3, 2, 0)], []),
  ([68, 73], [], []),
  ([69, 73], [], []),
  ([67, 65, 76, 76], [(8, 0, 0), (6, 0, 0)], [119]),
  ([67, 65, 76, 76], [(8, 1, 0), (6, 0, 0)], [119]),
  ([67, 65, 76, 76], [(8, 2, 0), (6, 0, 0)], [119]),
  ([67, 65, 76, 76], [(8, 3, 0), (6, 0, 0)], [119]),
  ([67, 65, 76, 76], [(8, 4, 0), (6, 0, 0)], [119]),
  ([67, 65, 76, 76], [(8, 5, 0), (6, 0, 0)], [119]),
  ([67, 65, 76, 76], [(8, 6, 0), (6, 0, 0)], [119]),
  ([67, 65, 76, 76], [(8, 7, 0), (6, 0, 0)], [119]),
  ([80, 85, 83, 72], [(3, 0, 0)], []),
  ([67, 65, 76, 76], [(6, 0, 0)], [119]),
  ([80, 85, 83, 72], [(3, 1, 0)], []),
  ([], [], []),
  ([80, 85, 83, 72], [(3, 2, 0)], []),
  ([], [], []),
  ([80, 85, 83, 72], [(3, 4, 0)], []),
  ([], [], []),
  ([65, 68, 68], [(1, 7, 0), (6, 0, 0)], [110]),
  ([65, 68, 67], [(1, 7, 0), (6, 0, 0)], [110]),
  ([83, 85, 66], [(6, 0, 0)], [110]),
  ([83, 66, 67], [(1, 7, 0), (6, 0, 0)], [110]),
  ([65, 78, 68], [(6, 0, 0)], [110]),
  ([88, 79, 82], [(6, 0, 0)], [110]),
  ([79, 82], [(6, 0, 0)], [110]),
  ([67, 80], [(6, 0, 0)], [110]),
  ([82, 83, 84], [(6, 0, 0)], []),
  ([82, 83, 84], [(6, 0, 8)], []),
  ([82, 83, 84], [(6, 0, 16)], []),
  ([82, 83, 84], [(6, 0, 24)], []),
  ([82, 83, 84], [(6, 0, 32)], []),
  ([82, 83, 84], [(6, 0, 40)], []),
  ([82, 83, 84], [(6, 0, 48)], []),
  ([82, 83, 84], [(6, 0, 56)], [])] : List (Str × List Tr × Str)).getD (8 * z + y) ([], [], [])
theorem lowA_0 (y : Nat) (hy : y < 8) (w : World) : Calls Tryz.prog 55 #[.int .i64 y, .int .i64 0] w (RetI w (lowN y 0).1 (lowN y 0).2.1 (lowN y 0).2.2) := by
  rcases (by omega : y = 0 ∨ y = 1 ∨ y = 2 ∨ y = 3 ∨ y = 4 ∨ y = 5 ∨ y = 6 ∨ y = 7) with rfl | rfl | rfl | rfl | rfl | rfl | rfl | rfl
  · exact low_0_0 w
  · exact low_0_1 w
  · exact low_0_2 w
  · exact low_0_3 w
  · exact low_0 4 (by decide) (by decide) w
  · exact low_0 5 (by decide) (by decide) w
  · exact low_0 6 (by decide) (by decide) w
  · exact low_0 7 (by decide) (by decide) w
theorem lowA_1 (y : Nat) (hy : y < 8) (w : World) : Calls Tryz.prog 55 #[.int .i64 y, .int .i64 1] w (RetI w (lowN y 1).1 (lowN y 1).2.1 (lowN y 1).2.2) := by
  rcases (by omega : y = 0 ∨ y = 1 ∨ y = 2 ∨ y = 3 ∨ y = 4 ∨ y = 5 ∨ y = 6 ∨ y = 7) with rfl | rfl | rfl | rfl | rfl | rfl | rfl | rfl
  · exact low_1_e 0 (by decide) (by decide) w
  · exact low_1_o 1 (by decide) (by decide) w
  · exact low_1_e 2 (by decide) (by decide) w
  · exact low_1_o 3 (by decide) (by decide) w
  · exact low_1_e 4 (by decide) (by decide) w
  · exact low_1_o 5 (by decide) (by decide) w
  · exact low_1_e 6 (by decide) (by decide) w
  · exact low_1_o 7 (by decide) (by decide) w
theorem lowA_2 (y : Nat) (hy : y < 8) (w : World) : Calls Tryz.prog 55 #[.int .i64 y, .int .i64 2] w (RetI w (lowN y 2).1 (lowN y 2).2.1 (lowN y 2).2.2) := by
  rcases (by omega : y = 0 ∨ y = 1 ∨ y = 2 ∨ y = 3 ∨ y = 4 ∨ y = 5 ∨ y = 6 ∨ y = 7) with rfl | rfl | rfl | rfl | rfl | rfl | rfl | rfl
  · exact low_2_0 w
  · exact low_2_1 w
  · exact low_2_2 w
  · exact low_2_3 w
  · exact low_2_4 w
  · exact low_2_5 w
  · exact low_2_6 w
  · exact low_2_7 w
theorem lowA_3 (y : Nat) (hy : y < 8) (w : World) : Calls Tryz.prog 55 #[.int .i64 y, .int .i64 3] w (RetI w (lowN y 3).1 (lowN y 3).2.1 (lowN y 3).2.2) := by
  rcases (by omega : y = 0 ∨ y = 1 ∨ y = 2 ∨ y = 3 ∨ y = 4 ∨ y = 5 ∨ y = 6 ∨ y = 7) with rfl | rfl | rfl | rfl | rfl | rfl | rfl | rfl
  · exact low_3_e 0 (by decide) (by decide) w
  · exact low_3_o 1 (by decide) (by decide) w
  · exact low_3_e 2 (by decide) (by decide) w
  · exact low_3_o 3 (by decide) (by decide) w
  · exact low_3_e 4 (by decide) (by decide) w
  · exact low_3_o 5 (by decide) (by decide) w
  · exact low_3_e 6 (by decide) (by decide) w
  · exact low_3_o 7 (by decide) (by decide) w
theorem lowA_4 (y : Nat) (hy : y < 8) (w : World) : Calls Tryz.prog 55 #[.int .i64 y, .int .i64 4] w (RetI w (lowN y 4).1 (lowN y 4).2.1 (lowN y 4).2.2) := by
  rcases (by omega : y = 0 ∨ y = 1 ∨ y = 2 ∨ y = 3 ∨ y = 4 ∨ y = 5 ∨ y = 6 ∨ y = 7) with rfl | rfl | rfl | rfl | rfl | rfl | rfl | rfl
  · exact low_4 0 (by decide) w
  · exact low_4 1 (by decide) w
  · exact low_4 2 (by decide) w
  · exact low_4 3 (by decide) w
  · exact low_4 4 (by decide) w
  · exact low_4 5 (by decide) w
  · exact low_4 6 (by decide) w
  · exact low_4 7 (by decide) w
theorem lowA_5 (y : Nat) (hy : y < 8) (w : World) : Calls Tryz.prog 55 #[.int .i64 y, .int .i64 5] w (RetI w (lowN y 5).1 (lowN y 5).2.1 (lowN y 5).2.2) := by
  rcases (by omega : y = 0 ∨ y = 1 ∨ y = 2 ∨ y = 3 ∨ y = 4 ∨ y = 5 ∨ y = 6 ∨ y = 7) with rfl | rfl | rfl | rfl | rfl | rfl | rfl | rfl
  · exact low_5 0 (by decide) w
  · exact low_5 1 (by decide) w
  · exact low_5 2 (by decide) w
  · exact low_5 3 (by decide) w
  · exact low_5 4 (by decide) w
  · exact low_5 5 (by decide) w
  · exact low_5 6 (by decide) w
  · exact low_5 7 (by decide) w
theorem lowA_6 (y : Nat) (hy : y < 8) (w : World) : Calls Tryz.prog 55 #[.int .i64 y, .int .i64 6] w (RetI w (lowN y 6).1 (lowN y 6).2.1 (lowN y 6).2.2) := by
  rcases (by omega : y = 0 ∨ y = 1 ∨ y = 2 ∨ y = 3 ∨ y = 4 ∨ y = 5 ∨ y = 6 ∨ y = 7) with rfl | rfl | rfl | rfl | rfl | rfl | rfl | rfl
  · exact low_6 0 (by decide) w
  · exact low_6 1 (by decide) w
  · exact low_6 2 (by decide) w
  · exact low_6 3 (by decide) w
  · exact low_6 4 (by decide) w
  · exact low_6 5 (by decide) w
  · exact low_6 6 (by decide) w
  · exact low_6 7 (by decide) w
theorem lowA_7 (y : Nat) (hy : y < 8) (w : World) : Calls Tryz.prog 55 #[.int .i64 y, .int .i64 7] w (RetI w (lowN y 7).1 (lowN y 7).2.1 (lowN y 7).2.2) := by
  rcases (by omega : y = 0 ∨ y = 1 ∨ y = 2 ∨ y = 3 ∨ y = 4 ∨ y = 5 ∨ y = 6 ∨ y = 7) with rfl | rfl | rfl | rfl | rfl | rfl | rfl | rfl
  · exact low_7_0 w
  · exact low_7_1 w
  · exact low_7_2 w
  · exact low_7_3 w
  · exact low_7_4 w
  · exact low_7_5 w
  · exact low_7_6 w
  · exact low_7_7 w
theorem low_any (y z : Nat) (hy : y < 8) (hz : z < 8) (w : World) : Calls Tryz.prog 55 #[.int .i64 y, .int .i64 z] w (RetI w (lowN y z).1 (lowN y z).2.1 (lowN y z).2.2) := by
  rcases (by omega : z = 0 ∨ z = 1 ∨ z = 2 ∨ z = 3 ∨ z = 4 ∨ z = 5 ∨ z = 6 ∨ z = 7) with rfl | rfl | rfl | rfl | rfl | rfl | rfl | rfl
  · exact lowA_0 y hy w
  · exact lowA_1 y hy w
  · exact lowA_2 y hy w
  · exact lowA_3 y hy w
  · exact lowA_4 y hy w
  · exact lowA_5 y hy w
  · exact lowA_6 y hy w
  · exact lowA_7 y hy w
theorem highA_0 (y : Nat) (hy : y < 8) (w : World) : Calls Tryz.prog 59 #[.int .i64 y, .int .i64 0] w (RetI w (highN y 0).1 (highN y 0).2.1 (highN y 0).2.2) := by
  rcases (by omega : y = 0 ∨ y = 1 ∨ y = 2 ∨ y = 3 ∨ y = 4 ∨ y = 5 ∨ y = 6 ∨ y = 7) with rfl | rfl | rfl | rfl | rfl | rfl | rfl | rfl
  · exact high_0 0 (by decide) w
  · exact high_0 1 (by decide) w
  · exact high_0 2 (by decide) w
  · exact high_0 3 (by decide) w
  · exact high_0 4 (by decide) w
  · exact high_0 5 (by decide) w
  · exact high_0 6 (by decide) w
  · exact high_0 7 (by decide) w
theorem highA_1 (y : Nat) (hy : y < 8) (w : World) : Calls Tryz.prog 59 #[.int .i64 y, .int .i64 1] w (RetI w (highN y 1).1 (highN y 1).2.1 (highN y 1).2.2) := by
  rcases (by omega : y = 0 ∨ y = 1 ∨ y = 2 ∨ y = 3 ∨ y = 4 ∨ y = 5 ∨ y = 6 ∨ y = 7) with rfl | rfl | rfl | rfl | rfl | rfl | rfl | rfl
  · exact high_1_e 0 (by decide) (by decide) w
  · exact high_1_1 w
  · exact high_1_e 2 (by decide) (by decide) w
  · exact high_1_3 w
  · exact high_1_e 4 (by decide) (by decide) w
  · exact high_1_5 w
  · exact high_1_e 6 (by decide) (by decide) w
  · exact high_1_7 w
theorem highA_2 (y : Nat) (hy : y < 8) (w : World) : Calls Tryz.prog 59 #[.int .i64 y, .int .i64 2] w (RetI w (highN y 2).1 (highN y 2).2.1 (highN y 2).2.2) := by
  rcases (by omega : y = 0 ∨ y = 1 ∨ y = 2 ∨ y = 3 ∨ y = 4 ∨ y = 5 ∨ y = 6 ∨ y = 7) with rfl | rfl | rfl | rfl | rfl | rfl | rfl | rfl
  · exact high_2 0 (by decide) w
  · exact high_2 1 (by decide) w
  · exact high_2 2 (by decide) w
  · exact high_2 3 (by decide) w
  · exact high_2 4 (by decide) w
  · exact high_2 5 (by decide) w
  · exact high_2 6 (by decide) w
  · exact high_2 7 (by decide) w
theorem highA_3 (y : Nat) (hy : y < 8) (w : World) : Calls Tryz.prog 59 #[.int .i64 y, .int .i64 3] w (RetI w (highN y 3).1 (highN y 3).2.1 (highN y 3).2.2) := by
  rcases (by omega : y = 0 ∨ y = 1 ∨ y = 2 ∨ y = 3 ∨ y = 4 ∨ y = 5 ∨ y = 6 ∨ y = 7) with rfl | rfl | rfl | rfl | rfl | rfl | rfl | rfl
  · exact high_3 0 (by decide) w
  · exact high_3 1 (by decide) w
  · exact high_3 2 (by decide) w
  · exact high_3 3 (by decide) w
  · exact high_3 4 (by decide) w
  · exact high_3 5 (by decide) w
  · exact high_3 6 (by decide) w
  · exact high_3 7 (by decide) w
theorem highA_4 (y : Nat) (hy : y < 8) (w : World) : Calls Tryz.prog 59 #[.int .i64 y, .int .i64 4] w (RetI w (highN y 4).1 (highN y 4).2.1 (highN y 4).2.2) := by
  rcases (by omega : y = 0 ∨ y = 1 ∨ y = 2 ∨ y = 3 ∨ y = 4 ∨ y = 5 ∨ y = 6 ∨ y = 7) with rfl | rfl | rfl | rfl | rfl | rfl | rfl | rfl
  · exact high_4 0 (by decide) w
  · exact high_4 1 (by decide) w
  · exact high_4 2 (by decide) w
  · exact high_4 3 (by decide) w
  · exact high_4 4 (by decide) w
  · exact high_4 5 (by decide) w
  · exact high_4 6 (by decide) w
  · exact high_4 7 (by decide) w
theorem highA_5 (y : Nat) (hy : y < 8) (w : World) : Calls Tryz.prog 59 #[.int .i64 y, .int .i64 5] w (RetI w (highN y 5).1 (highN y 5).2.1 (highN y 5).2.2) := by
  rcases (by omega : y = 0 ∨ y = 1 ∨ y = 2 ∨ y = 3 ∨ y = 4 ∨ y = 5 ∨ y = 6 ∨ y = 7) with rfl | rfl | rfl | rfl | rfl | rfl | rfl | rfl
  · exact high_5_e 0 (by decide) (by decide) w
  · exact high_5_1 w
  · exact high_5_e 2 (by decide) (by decide) w
  · exact high_5_3 w
  · exact high_5_e 4 (by decide) (by decide) w
  · exact high_5_5 w
  · exact high_5_e 6 (by decide) (by decide) w
  · exact high_5_7 w
theorem highA_6 (y : Nat) (hy : y < 8) (w : World) : Calls Tryz.prog 59 #[.int .i64 y, .int .i64 6] w (RetI w (highN y 6).1 (highN y 6).2.1 (highN y 6).2.2) := by
  rcases (by omega : y = 0 ∨ y = 1 ∨ y = 2 ∨ y = 3 ∨ y = 4 ∨ y = 5 ∨ y = 6 ∨ y = 7) with rfl | rfl | rfl | rfl | rfl | rfl | rfl | rfl
  · exact high_6 0 (by decide) w
  · exact high_6 1 (by decide) w
  · exact high_6 2 (by decide) w
  · exact high_6 3 (by decide) w
  · exact high_6 4 (by decide) w
  · exact high_6 5 (by decide) w
  · exact high_6 6 (by decide) w
  · exact high_6 7 (by decide) w
theorem highA_7 (y : Nat) (hy : y < 8) (w : World) : Calls Tryz.prog 59 #[.int .i64 y, .int .i64 7] w (RetI w (highN y 7).1 (highN y 7).2.1 (highN y 7).2.2) := by
  rcases (by omega : y = 0 ∨ y = 1 ∨ y = 2 ∨ y = 3 ∨ y = 4 ∨ y = 5 ∨ y = 6 ∨ y = 7) with rfl | rfl | rfl | rfl | rfl | rfl | rfl | rfl
  · exact high_7 0 (by decide) w
  · exact high_7 1 (by decide) w
  · exact high_7 2 (by decide) w
  · exact high_7 3 (by decide) w
  · exact high_7 4 (by decide) w
  · exact high_7 5 (by decide) w
  · exact high_7 6 (by decide) w
  · exact high_7 7 (by decide) w
theorem high_any (y z : Nat) (hy : y < 8) (hz : z < 8) (w : World) : Calls Tryz.prog 59 #[.int .i64 y, .int .i64 z] w (RetI w (highN y z).1 (highN y z).2.1 (highN y z).2.2) := by
  rcases (by omega : z = 0 ∨ z = 1 ∨ z = 2 ∨ z = 3 ∨ z = 4 ∨ z = 5 ∨ z = 6 ∨ z = 7) with rfl | rfl | rfl | rfl | rfl | rfl | rfl | rfl
  · exact highA_0 y hy w
  · exact highA_1 y hy w
  · exact highA_2 y hy w
  · exact highA_3 y hy w
  · exact highA_4 y hy w
  · exact highA_5 y hy w
  · exact highA_6 y hy w
  · exact highA_7 y hy w
end Go.Proofs.YtipgecdfnbldnaaGreatDoor
