/-
  The walks over hexread.Accepts and the law's alive.
-/
import Derived.Test.YtmeegpdjhcilkaaDoorRdX
namespace Go.Proofs.YtmeegpdjhcilkaaDoor
open Go.RowKit
set_option linter.unusedVariables false

set_option maxHeartbeats 1000000 in
theorem accepts_any (x : List UInt8) (hx : x.length ≤ 40000000) (w : World) :
    Calls Tryd.prog 31 #[.string (strOf x)] w fun e w' => e = .returned (.bool (decide ((readT x).2.2 = 0))) ∧ Below w.heap.size w w' := by
  have hr := hread_any x hx w
  obtain ⟨r, hr'⟩ : ∃ r, readT x = r := ⟨_, rfl⟩
  obtain ⟨s, hs⟩ : ∃ s, strOf x = s := ⟨_, rfl⟩
  rw [hr', hs] at hr
  rw [hr', hs]
  obtain ⟨V, l, c⟩ := r
  clear hr' hs hx
  go_enter Tryd.func31, Tryd.ntmps31
  go_wp2_with fail
  refine hr.mono ?_
  rintro e w1 ⟨h1, h2, h3⟩
  by_cases hc : c = 0
  · subst hc
    obtain ⟨b, rfl, -, -⟩ := h1 rfl
    have B : Hid (Below w.heap.size w (w1.alloc (.cells #[.int .i64 0, .int .i64 0] 31))) := h3.alloc h3.size _
    clear h1 h2 h3 hr
    go_wp2
    go_ret
    exact ⟨rfl, B.out⟩
  · obtain rfl := h2 hc
    have B : Hid (Below w.heap.size w (w1.alloc (.cells #[.int .i64 l, .int .i64 c] 31))) := h3.alloc h3.size _
    have D0 := Lib.hid (decide_eq_false hc)
    have n1 : (c == 0) = false := beq_eq_false_iff_ne.2 hc
    clear h1 h2 h3 hr hc
    go_wp2
    go_ret
    exact ⟨ret_bool D0.out.symm, B.out⟩
theorem alive_r1 : readT [58, 48, 48, 48, 48, 48, 48, 48, 49, 70, 70, 10, 120] = ([], 2, 9) := by decide +kernel
theorem alive_r2 : (readT [58, 48, 48, 48, 48, 48, 48, 48, 49, 102, 102]).2.2 = 0 := by decide +kernel
set_option maxHeartbeats 1000000 in
theorem alive5_any (w : World) : Calls Tryd.prog 8 #[] w fun e w' => e = .returned (.bool true) ∧ Below w.heap.size w w' := by
  have h1 := hread_any [58, 48, 48, 48, 48, 48, 48, 48, 49, 70, 70, 10, 120] (by decide) w
  have h2 := fun w => accepts_any [58, 48, 48, 48, 48, 48, 48, 48, 49, 102, 102] (by decide) w
  rw [alive_r1] at h1
  rw [alive_r2] at h2
  go_enter Tryd.func8, Tryd.ntmps8
  go_wp2_with fail
  refine h1.mono ?_
  rintro e w1 ⟨-, g1, g2⟩
  obtain rfl := g1 (by decide)
  have B1 : Below w.heap.size w (w1.alloc (.cells #[.int .i64 2, .int .i64 9] 31)) := g2.alloc g2.size _
  have F1 : Two (w1.alloc (.cells #[.int .i64 2, .int .i64 9] 31)) w1.heap.size 31 (.int .i64 2) (.int .i64 9) := World.alloc_heap_new _ _
  obtain ⟨w2, hw2⟩ : ∃ w2, w1.alloc (.cells #[.int .i64 2, .int .i64 9] 31) = w2 := ⟨_, rfl⟩
  rw [hw2] at B1 F1
  have B := Lib.hid B1
  have FF := Lib.hid F1
  clear g1 g2 h1 B1 F1
  go_wp2_with fail
  refine (h2 _).mono ?_
  rintro e w3 ⟨rfl, hb3⟩
  have F3 : Two w3 w1.heap.size 31 (.int .i64 2) (.int .i64 9) := (hb3.block _ FF.out.lt).trans FF.out
  have c0 := F3.c0
  have c1 := F3.c1
  have B3 : Hid (Below w.heap.size w w3) := B.out.trans (hb3.mono B.out.size)
  clear F3 hb3 h2 hw2
  go_wp2
  go_ret
  exact ⟨rfl, B3.out⟩
end Go.Proofs.YtmeegpdjhcilkaaDoor
