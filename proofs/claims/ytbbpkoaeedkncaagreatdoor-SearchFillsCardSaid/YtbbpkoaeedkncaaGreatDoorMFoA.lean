/-
  Both entries of an opcode as one form; the lengths of entries.
-/
import Derived.Test.YtbbpkoaeedkncaaGreatDoorGBP
import Derived.Deep.DeepCutAuto
import Derived.Deep.Cut
import Derived.StillTail
import Derived.StillTailTactics
import Derived.Deep.RegionHeld3
import Derived.RegionTactic
set_option linter.all false
set_option maxRecDepth 100000
set_option maxHeartbeats 4000000
namespace Go.Proofs.YtbbpkoaeedkncaaGreatDoor
open Go.RowKit Go.Shelf
attribute [local irreducible] Go.Mixed.wpMix
def lenE (x : En) : Bool := decide (x.1.length ≤ 10) && decide (x.2.1.length ≤ 3) && decide (x.2.2.1.length ≤ 3)
def lenN (p n : Nat) : Bool := match atN p n with | some x => lenE x | none => kindT p n == rkindT p n
theorem len_0 : ∀ n : Fin 256, lenN 0 n.val = true := by decide +kernel
theorem len_1 : ∀ n : Fin 256, lenN 1 n.val = true := by decide +kernel
theorem len_2 : ∀ n : Fin 256, lenN 2 n.val = true := by decide +kernel
theorem len_3 : ∀ n : Fin 256, lenN 3 n.val = true := by decide +kernel
theorem len_4 : ∀ n : Fin 256, lenN 4 n.val = true := by decide +kernel
theorem len_5 : ∀ n : Fin 256, lenN 5 n.val = true := by decide +kernel
theorem len_6 : ∀ n : Fin 256, lenN 6 n.val = true := by decide +kernel
theorem len_all (p n : Nat) (hp : p < 7) (hn : n < 256) : lenN p n = true := by
  rcases (by omega : p = 0 ∨ p = 1 ∨ p = 2 ∨ p = 3 ∨ p = 4 ∨ p = 5 ∨ p = 6) with rfl | rfl | rfl | rfl | rfl | rfl | rfl
  · exact len_0 ⟨n, hn⟩
  · exact len_1 ⟨n, hn⟩
  · exact len_2 ⟨n, hn⟩
  · exact len_3 ⟨n, hn⟩
  · exact len_4 ⟨n, hn⟩
  · exact len_5 ⟨n, hn⟩
  · exact len_6 ⟨n, hn⟩
theorem len_some {page : Int} {n : Nat} (hn : n < 256) {x : En} (h : ratT page n = some x) : x.1.length ≤ 10 ∧ x.2.1.length ≤ 3 ∧ x.2.2.1.length ≤ 3 := by
  by_cases hp : 0 ≤ page ∧ page ≤ 6
  · obtain ⟨p, rfl⟩ : ∃ p : Nat, page = p := ⟨page.toNat, by omega⟩
    have h1 := len_all p n (by omega) hn
    rw [← at_same _ n hn, atN_eq p n hn] at h
    unfold lenN at h1
    rw [h] at h1
    unfold lenE at h1
    simp only [Bool.and_eq_true, decide_eq_true_eq] at h1
    exact ⟨h1.1.1, h1.1.2, h1.2⟩
  · rw [ratT_no hp] at h
    cases h
theorem ok_none {page : Int} {n : Nat} (hn : n < 256) (h : ratT page n = none) : kindT page n = rkindT page n := by
  by_cases hp : 0 ≤ page ∧ page ≤ 6
  · obtain ⟨p, rfl⟩ : ∃ p : Nat, page = p := ⟨page.toNat, by omega⟩
    have h1 := len_all p n (by omega) hn
    rw [← at_same _ n hn, atN_eq p n hn] at h
    unfold lenN at h1
    rw [h] at h1
    exact eq_of_beq h1
  · unfold kindT rkindT
    rw [if_pos (by omega), if_neg (by omega), if_neg (by omega), if_neg (by omega)]
def formT (page : Int) (n : Nat) : Int × Int × Str × List Tr × Str × Bool × Int := match ratT page n with
  | some x => (page, n, x.1, x.2.1, x.2.2.1, x.2.2.2, 1)
  | none => (0, 0, [], [], [], false, rkindT page n)
theorem form_code {w w' : World} {page : Int} {n : Nat} (hn : n < 256) {e : Ending} (h : RetAt w page n (atT page n) e w') {g o k : Int} {m ex : Str} {L : List Tr} {al : Bool} (hf : formT page n = (g, o, m, L, ex, al, k)) :
    ∃ A cap, e = .returned (.tuple #[enV g o m (.slice A L.length cap) ex al, .int .i64 k]) ∧ OpsP w' A L ∧ Below w.heap.size w w' := by
  obtain ⟨h1, h2⟩ := h
  rw [at_same page n hn] at h1
  unfold formT at hf
  cases hx : ratT page n with
  | none =>
    rw [hx] at h1 hf
    cases hf
    refine ⟨none, 0, ?_, .inl rfl, h2⟩
    rw [← ok_none hn hx]
    exact h1
  | some x =>
    rw [hx] at h1 hf
    cases hf
    obtain ⟨v, h3, h4⟩ := h1
    obtain ⟨A, cap, rfl, hP, -⟩ := h4.ops
    exact ⟨A, cap, h3, hP, h2⟩
theorem form_ref {w w' : World} {page : Int} {n : Nat} {e : Ending} (h : RetRAt w page n (rkindT page n) (ratT page n) e w') {g o k : Int} {m ex : Str} {L : List Tr} {al : Bool} (hf : formT page n = (g, o, m, L, ex, al, k)) :
    ∃ A cap, e = .returned (.tuple #[enV g o m (.slice A L.length cap) ex al, .int .i64 k]) ∧ OpsP w' A L ∧ Below w.heap.size w w' := by
  obtain ⟨h1, h2⟩ := h
  unfold formT at hf
  cases hx : ratT page n with
  | none =>
    rw [hx] at h1 hf
    cases hf
    exact ⟨none, 0, h1, .inl rfl, h2⟩
  | some x =>
    rw [hx] at h1 hf
    cases hf
    obtain ⟨v, h3, h4⟩ := h1
    obtain ⟨A, cap, rfl, hP, -⟩ := h4.ops
    exact ⟨A, cap, h3, hP, h2⟩
theorem form_kind {page : Int} {n : Nat} (hn : n < 256) {g o k : Int} {m ex : Str} {L : List Tr} {al : Bool} (hf : formT page n = (g, o, m, L, ex, al, k)) : L.length ≤ 3 ∧ ((k ≠ 1) ∨ (k = 1 ∧ g = page ∧ ratT page n = some (m, L, ex, al))) := by
  unfold formT at hf
  cases hx : ratT page n with
  | none =>
    rw [hx] at hf
    cases hf
    refine ⟨by simp, .inl ?_⟩
    unfold rkindT
    split
    · decide
    · split
      · decide
      · split <;> decide
  | some x =>
    rw [hx] at hf
    cases hf
    exact ⟨(len_some hn hx).2.1, .inr ⟨rfl, rfl, rfl⟩⟩
theorem int_nat {b : Int} (h : 0 ≤ b ∧ b ≤ 255) : ∃ n : Nat, n < 256 ∧ b = n := ⟨b.toNat, by omega, by omega⟩
end Go.Proofs.YtbbpkoaeedkncaaGreatDoor
