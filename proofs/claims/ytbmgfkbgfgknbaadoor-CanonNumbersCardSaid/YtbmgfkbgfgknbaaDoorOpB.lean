/-
  Walks over operand.at and the functions that name registers.
-/
import Derived.Test.YtbmgfkbgfgknbaaDoorOpA
import Derived.Test.YtbmgfkbgfgknbaaDoorOb
import Derived.Deep.QuietTactic
import Derived.BigQuiet
namespace Go.Proofs.YtbmgfkbgfgknbaaDoor
open Go.RowKit
set_option linter.unusedVariables false

theorem fits1_yes (lo hi n : Int) (h0 : lo ≤ n) (h1 : n ≤ hi) : fitsB lo hi [n] = true := by simp [fitsB]; omega
theorem fits1_no (lo hi n : Int) (h : n < lo ∨ hi < n) : fitsB lo hi [n] = false := by simp [fitsB]; omega
theorem fit1_any (lo hi x : Int) (b : Nat) (q : Bool) (hq : fitsB lo hi [x] = q) (w : World) (hc : w.cell? ⟨b, 0, none⟩ = some (.int .i64 x)) :
    Calls Tryd.prog 32 #[.int .i64 lo, .int .i64 hi, .slice (some ⟨b, 0, none⟩) 1 1] w fun e w' => e = .returned (.bool q) ∧ w = w' := by
  subst hq
  refine fits_any lo hi _ 1 [x] (by simp [maxLen]) w (.inr ⟨b, 0, rfl, fun j h => ?_⟩)
  obtain rfl : j = 0 := by simp at h; omega
  exact hc
theorem neB_nil : neB ⟨#[]⟩ = false := by decide +kernel
set_option maxHeartbeats 1000000 in
theorem at_any (r : Int) (b cap n : Nat) (L : List ByteArray) (hn : n = L.length) (hl : L.length ≤ 100) (w : World) (hc : ∀ j (h : j < L.length), w.cell? ⟨b, j, none⟩ = some (.string L[j])) :
    Calls Tryd.prog 51 #[.int .i64 r, .slice (some ⟨b, 0, none⟩) n cap] w fun e w' => e = .returned (.tuple #[.string (atS L r), .bool (neB (atS L r))]) ∧ Below w.heap.size w w' := by
  by_cases h : 0 ≤ r ∧ r < (L.length : Int)
  · obtain ⟨k, rfl⟩ : ∃ k : Nat, r = k := ⟨r.toNat, by omega⟩
    have hk : k < L.length := by omega
    have hck := hc k hk
    have e1 := atS_in L k hk
    have HF := fits1_yes 0 ((n : Int) - 1) (k : Int) (by omega) (by omega)
    obtain ⟨s, hs⟩ : ∃ s, L[k] = s := ⟨_, rfl⟩
    rw [hs] at hck e1
    rw [e1]
    have hkn : k < n := by omega
    have hnb : n ≤ 100 := by omega
    have hb := World.block_lt_of_cell? w _ hck
    have hck2 : ∀ o, (w.alloc o).cell? ⟨b, k, none⟩ = some (.string s) := fun o => (World.cell?_alloc_lt w o _ hb).trans hck
    clear hc h hk e1 hs hn hl hck hb
    go_enter Tryd.func51, Tryd.ntmps51
    go_wp2_with fail
    refine (fits_any 0 ((n : Int) - 1) _ _ [(k : Int)] (by simp [maxLen]) _ (ints_one _ _ _)).mono ?_
    rintro e w' ⟨rfl, rfl⟩
    rw [HF]
    clear HF
    go_wp2
    go_quiet (fail)
    go_wp2
    go_ret2
    exact ⟨rfl, ((Below.refl _ _).alloc (Nat.le_refl _) _).trans (below_drewN _ _ _)⟩
  · have e1 := atS_out L r (by omega)
    have HF := fits1_no 0 ((n : Int) - 1) r (by omega)
    rw [e1, neB_nil]
    have hnb : n ≤ 100 := by omega
    clear hc h e1 hn hl
    go_enter Tryd.func51, Tryd.ntmps51
    go_wp2_with fail
    refine (fits_any 0 ((n : Int) - 1) _ _ [r] (by simp [maxLen]) _ (ints_one _ _ _)).mono ?_
    rintro e w' ⟨rfl, rfl⟩
    rw [HF]
    clear HF
    go_wp2
    go_ret2
    exact ⟨rfl, ((Below.refl _ _).alloc (Nat.le_refl _) _)⟩

theorem strs_new (w : World) (L : List ByteArray) (t : TypeId) : ∀ j (h : j < L.length), (w.alloc (.cells (L.map Value.string).toArray t)).cell? ⟨w.heap.size, j, none⟩ = some (.string L[j]) := by
  intro j h
  simp [go_sem, h]

set_option maxHeartbeats 1000000 in
theorem name8_any (r : Int) (w : World) :
    Calls Tryd.prog 36 #[.int .i64 r] w fun e w' => e = .returned (.tuple #[.string (nmS 1 r), .bool (neB (nmS 1 r))]) ∧ Below w.heap.size w w' := by
  go_enter Tryd.func36, Tryd.ntmps36
  go_wp2_with fail
  refine (at_any r _ _ _ (nmL 1) rfl (by decide) _ (strs_new w (nmL 1) 9)).mono ?_
  rintro e w' ⟨rfl, hb⟩
  have N := Lib.hid (((Below.refl _ _).alloc (Nat.le_refl _) _).trans (hb.mono (by simp)))
  clear hb
  go_wp2
  go_ret2
  exact ⟨rfl, N.out⟩

set_option maxHeartbeats 1000000 in
theorem nameHalf_any (r : Int) (w : World) :
    Calls Tryd.prog 38 #[.int .i64 r] w fun e w' => e = .returned (.tuple #[.string (nmS 2 r), .bool (neB (nmS 2 r))]) ∧ Below w.heap.size w w' := by
  go_enter Tryd.func38, Tryd.ntmps38
  go_wp2_with fail
  refine (at_any r _ _ _ (nmL 2) rfl (by decide) _ (strs_new w (nmL 2) 9)).mono ?_
  rintro e w' ⟨rfl, hb⟩
  have N := Lib.hid (((Below.refl _ _).alloc (Nat.le_refl _) _).trans (hb.mono (by simp)))
  clear hb
  go_wp2
  go_ret2
  exact ⟨rfl, N.out⟩

set_option maxHeartbeats 1000000 in
theorem name16_any (r : Int) (w : World) :
    Calls Tryd.prog 39 #[.int .i64 r] w fun e w' => e = .returned (.tuple #[.string (nmS 3 r), .bool (neB (nmS 3 r))]) ∧ Below w.heap.size w w' := by
  go_enter Tryd.func39, Tryd.ntmps39
  go_wp2_with fail
  refine (at_any r _ _ _ (nmL 3) rfl (by decide) _ (strs_new w (nmL 3) 9)).mono ?_
  rintro e w' ⟨rfl, hb⟩
  have N := Lib.hid (((Below.refl _ _).alloc (Nat.le_refl _) _).trans (hb.mono (by simp)))
  clear hb
  go_wp2
  go_ret2
  exact ⟨rfl, N.out⟩

set_option maxHeartbeats 1000000 in
theorem namePointer_any (r : Int) (w : World) :
    Calls Tryd.prog 40 #[.int .i64 r] w fun e w' => e = .returned (.tuple #[.string (nmS 4 r), .bool (neB (nmS 4 r))]) ∧ Below w.heap.size w w' := by
  go_enter Tryd.func40, Tryd.ntmps40
  go_wp2_with fail
  refine (at_any r _ _ _ (nmL 4) rfl (by decide) _ (strs_new w (nmL 4) 9)).mono ?_
  rintro e w' ⟨rfl, hb⟩
  have N := Lib.hid (((Below.refl _ _).alloc (Nat.le_refl _) _).trans (hb.mono (by simp)))
  clear hb
  go_wp2
  go_ret2
  exact ⟨rfl, N.out⟩

set_option maxHeartbeats 1000000 in
theorem nameIndex_any (r : Int) (w : World) :
    Calls Tryd.prog 42 #[.int .i64 r] w fun e w' => e = .returned (.tuple #[.string (nmS 5 r), .bool (neB (nmS 5 r))]) ∧ Below w.heap.size w w' := by
  go_enter Tryd.func42, Tryd.ntmps42
  go_wp2_with fail
  refine (at_any r _ _ _ (nmL 5) rfl (by decide) _ (strs_new w (nmL 5) 9)).mono ?_
  rintro e w' ⟨rfl, hb⟩
  have N := Lib.hid (((Below.refl _ _).alloc (Nat.le_refl _) _).trans (hb.mono (by simp)))
  clear hb
  go_wp2
  go_ret2
  exact ⟨rfl, N.out⟩

set_option maxHeartbeats 1000000 in
theorem nameCondition_any (r : Int) (w : World) :
    Calls Tryd.prog 47 #[.int .i64 r] w fun e w' => e = .returned (.tuple #[.string (nmS 8 r), .bool (neB (nmS 8 r))]) ∧ Below w.heap.size w w' := by
  go_enter Tryd.func47, Tryd.ntmps47
  go_wp2_with fail
  refine (at_any r _ _ _ (nmL 8) rfl (by decide) _ (strs_new w (nmL 8) 9)).mono ?_
  rintro e w' ⟨rfl, hb⟩
  have N := Lib.hid (((Below.refl _ _).alloc (Nat.le_refl _) _).trans (hb.mono (by simp)))
  clear hb
  go_wp2
  go_ret2
  exact ⟨rfl, N.out⟩

set_option maxHeartbeats 1000000 in
theorem nameControl_any (r : Int) (w : World) :
    Calls Tryd.prog 48 #[.int .i64 r] w fun e w' => e = .returned (.tuple #[.string (nmS 9 r), .bool (neB (nmS 9 r))]) ∧ Below w.heap.size w w' := by
  go_enter Tryd.func48, Tryd.ntmps48
  go_wp2_with fail
  refine (at_any r _ _ _ (nmL 9) rfl (by decide) _ (strs_new w (nmL 9) 9)).mono ?_
  rintro e w' ⟨rfl, hb⟩
  have N := Lib.hid (((Below.refl _ _).alloc (Nat.le_refl _) _).trans (hb.mono (by simp)))
  clear hb
  go_wp2
  go_ret2
  exact ⟨rfl, N.out⟩

set_option maxHeartbeats 1000000 in
theorem noName_any (r : Int) (w : World) :
    Calls Tryd.prog 44 #[.int .i64 r] w fun e w' => e = .returned (.tuple #[.string ⟨#[]⟩, .bool (r == 0)]) ∧ w = w' := by
  go_enter Tryd.func44, Tryd.ntmps44
  go_wp2
  go_ret2
  exact ⟨rfl, rfl⟩
end Go.Proofs.YtbmgfkbgfgknbaaDoor
