/-
  The chapter's example holds.
-/
import Derived.Test.YtipgecdfnbldnaaDoorTaG
import Derived.Test.YtipgecdfnbldnaaDoorBaD
namespace Go.Proofs.YtipgecdfnbldnaaDoor
open Go.RowKit Go.Shelf
set_option linter.unusedVariables false

theorem ex_at : atT 3 126 = some ([76, 68], [(1, 7, 0), (5, 5, 0)], [100], false) := by decide +kernel
theorem ex_shape : shpS ⟨#[76, 68]⟩ [(1, 7, 0), (5, 5, 0)] = ⟨#[76, 68, 32, 65, 44, 40, 73, 88, 43, 100, 41]⟩ := ByteArray.ext (by decide +kernel)
theorem ex_size : sizeT 3 [100] = 3 := by decide +kernel
set_option maxRecDepth 100000 in
set_option maxHeartbeats 4000000 in
theorem alive_any (w : World) (hM : MaxAt w) : Calls Tryd.prog 6 #[] w fun e w' => e = .returned (.bool true) ∧ Below w.heap.size w w' := by
  have ha := tat_any 3 126 (by decide) (by decide) w hM
  rw [ex_at] at ha
  go_enter Tryd.func6, Tryd.ntmps6
  go_wp2_with fail
  refine ha.mono ?_
  rintro e w1 ⟨⟨v, rfl, hO⟩, hb1⟩
  obtain ⟨A, cap, rfl, -, -⟩ := hO.ops
  simp only [enV]
  have B1 := Lib.hid hb1
  go_upto_region 2 with fail
  obtain ⟨w2, hw2⟩ : ∃ w2, w1.alloc (.cells #[.int .i64 3, .int .u8 126, .string (sB [76, 68]), .slice A 2 cap, .string (sB [100]), .bool false] 27) = w2 := ⟨_, rfl⟩
  have hal : Below w1.heap.size w1 w2 := by rw [← hw2]; exact (Below.refl _ _).alloc (Nat.le_refl _) _
  have E2 : EnAt w2 w1.heap.size 3 126 [76, 68] (.slice A 2 cap) [100] false := by rw [← hw2]; exact World.alloc_heap_new w1 _
  have O2 : OwnT w2 w.heap.size (.slice A 2 cap) [(1, 7, 0), (5, 5, 0)] := hO.below hal
  have B2 : Hid (Below w.heap.size w w2) := hb1.trans (hal.mono hb1.size)
  obtain ⟨A', cap', hv, hP, -⟩ := O2.ops
  cases hv
  have SH := Lib.hid (shape_any ⟨#[76, 68]⟩ A cap [(1, 7, 0), (5, 5, 0)] (by decide) (by decide) w2 hP)
  obtain ⟨b, hb⟩ : ∃ b, w1.heap.size = b := ⟨_, rfl⟩
  rw [hb] at E2
  have E2' := Lib.hid E2
  obtain ⟨e0, e1, e2, e3, e4, e5, -⟩ := E2.cells
  rw [hw2]
  rw [hb]
  clear ha hb1 hO hal O2 hP E2 B1 hw2
  go_wp2_with fail
  refine SH.out.mono ?_
  rintro e w3 ⟨rfl, hb3⟩
  rw [ex_shape]
  have E3 := Lib.hid (E2'.out.all hb3)
  have B3 : Hid (Below w.heap.size w w3) := B2.out.trans (hb3.mono B2.out.size)
  have h100 : ((sB [100]).toList == [100]) = true := by rw [sB_eq]; rfl
  have SZ := Lib.hid (size_any 3 126 [76, 68] A 2 cap [100] (by decide) false w3)
  rw [ex_size] at SZ
  clear SH E2' B2 hb3 e0 e1 e2 e3 e4 e5
  obtain ⟨e0, e1, e2, e3, e4, e5, -⟩ := E3.out.cells
  go_wp2_with fail
  refine SZ.out.mono ?_
  rintro e w4 ⟨rfl, hb4⟩
  have B4 : Hid (Below w.heap.size w w4) := B3.out.trans (hb4.mono B3.out.size)
  clear SZ E3 B3 hb4 e0 e1 e2 e3 e4 e5
  go_wp2
  go_ret
  exact ⟨rfl, B4.out⟩
end Go.Proofs.YtipgecdfnbldnaaDoor
