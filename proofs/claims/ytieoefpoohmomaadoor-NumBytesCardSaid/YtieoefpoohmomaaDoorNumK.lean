/-
  The examples of the chapter (breadboardlaw01.alive): the call returns true; nothing that was there is changed.
-/
import Derived.Test.YtieoefpoohmomaaDoorNumE
import Derived.Test.YtieoefpoohmomaaDoorNumH
namespace Go.Proofs.YtieoefpoohmomaaDoor
open Go.RowKit
set_option linter.unusedVariables false

theorem par_ex : parV ⟨#[49, 48, 49, 48, 98]⟩ = 10 ∧ parOk ⟨#[49, 48, 49, 48, 98]⟩ = true := by decide +kernel
theorem text_ex : textS 171 = ⟨#[48, 65, 66, 72]⟩ := by decide +kernel
theorem hex_ex : hexS (-1) 2 = ⟨#[70, 70]⟩ := by decide +kernel
theorem parse_ex (w : World) : Calls Tryd.prog 10 #[.string ⟨#[49, 48, 49, 48, 98]⟩] w fun e w' => e = .returned (.tuple #[.int .i64 10, .bool true]) ∧ Below w.heap.size w w' := by
  have h := parse_any ⟨#[49, 48, 49, 48, 98]⟩ (by decide) w
  rw [par_ex.1, par_ex.2] at h
  exact h
theorem textEx_any (w : World) : Calls Tryd.prog 12 #[.int .i64 171] w fun e w' => e = .returned (.string ⟨#[48, 65, 66, 72]⟩) ∧ Below w.heap.size w w' := by
  have h := text_any 171 w
  rw [text_ex] at h
  exact h
theorem hexEx_any (w : World) : Calls Tryd.prog 15 #[.int .i64 (-1), .int .i64 2] w fun e w' => e = .returned (.string ⟨#[70, 70]⟩) ∧ Below w.heap.size w w' := by
  have h := hex_any (-1) 2 (by omega) w
  rw [hex_ex] at h
  exact h
theorem signedEx_any (w : World) : Calls Tryd.prog 22 #[.int .u8 255] w fun e w' => e = .returned (.int .i64 (-1)) ∧ w = w' := signed_any 255 (by omega) (by omega) w
set_option maxHeartbeats 400000 in
theorem alive_any (w : World) : Calls Tryd.prog 9 #[] w fun e w' => e = .returned (.bool true) ∧ Below w.heap.size w w' := by
  go_enter Tryd.func9, Tryd.ntmps9
  go_wp2_with (first | (go_at_call 10; refine (parse_ex _).mono ?_; rintro e w1 ⟨rfl, hb1⟩) | (go_at_call 12; refine (textEx_any _).mono ?_; rintro e w2 ⟨rfl, hb2⟩) | (go_at_call 15; refine (hexEx_any _).mono ?_; rintro e w3 ⟨rfl, hb3⟩) | (go_at_call 22; refine (signedEx_any _).mono ?_; rintro e w' ⟨rfl, rfl⟩))
  go_ret
  exact ⟨rfl, (hb1.trans (hb2.mono hb1.size)).trans (hb3.mono (Nat.le_trans hb1.size hb2.size))⟩
end Go.Proofs.YtieoefpoohmomaaDoor
