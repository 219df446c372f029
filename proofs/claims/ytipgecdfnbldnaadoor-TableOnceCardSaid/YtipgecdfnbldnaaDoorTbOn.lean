/-
  Different entries that are no aliases have different instructions (by the kernel).
-/
import Derived.Test.YtipgecdfnbldnaaDoorTbZ
namespace Go.Proofs.YtipgecdfnbldnaaDoor
set_option linter.unusedVariables false

def hashN (m : Str) (L : List Tr) : Nat := L.foldl (fun h x => ((h * 31 + x.1.toNat) * 31 + x.2.1.toNat) * 131 + x.2.2.toNat) (m.foldl (fun h c => h * 257 + c.toNat) 1)
/-- A number for an opcode of a page: of its instruction, if it is no alias. -/
def keyN (i : Nat) : Nat := (match atN (i / 256) (i % 256) with
  | some x => if x.2.2.2 then 2 * i else 2 * hashN x.1 x.2.1 + 1
  | none => 2 * i) % 120122
/-- No number comes twice: acc holds a bit for each that has come. -/
def bitsB (f : Nat → Nat) : Nat → Nat → Nat → Bool
  | 0, _, _ => true
  | n + 1, i, acc => !acc.testBit (f i) && bitsB f n (i + 1) (acc ||| 2 ^ f i)
theorem keys_bits : bitsB keyN 1792 0 0 = true := by decide +kernel
theorem bits_inj (f : Nat → Nat) : ∀ (n i acc : Nat), bitsB f n i acc = true → (∀ j, i ≤ j → j < i + n → acc.testBit (f j) = false) ∧ ∀ j k, i ≤ j → j < k → k < i + n → f j ≠ f k
  | 0, i, acc, _ => ⟨fun j h1 h2 => by omega, fun j k h1 h2 h3 => by omega⟩
  | n + 1, i, acc, h => by
    unfold bitsB at h
    simp only [Bool.and_eq_true, Bool.not_eq_true'] at h
    obtain ⟨h1, h2⟩ := h
    obtain ⟨i1, i2⟩ := bits_inj f n (i + 1) _ h2
    refine ⟨fun j hj hk => ?_, fun j k hj hjk hk => ?_⟩
    · by_cases e : j = i
      · rw [e]; exact h1
      · have h3 := i1 j (by omega) (by omega)
        rw [Nat.testBit_or, Bool.or_eq_false_iff] at h3
        exact h3.1
    · by_cases e : j = i
      · subst e
        have h3 := i1 k (by omega) (by omega)
        rw [Nat.testBit_or, Bool.or_eq_false_iff] at h3
        intro e2
        rw [← e2, Nat.testBit_two_pow_self] at h3
        exact absurd h3.2 (by decide)
      · exact i2 j k (by omega) hjk (by omega)
theorem key_inj (i j : Nat) (hi : i < 1792) (hj : j < 1792) (h : keyN i = keyN j) : i = j := by
  have hb := (bits_inj keyN 1792 0 0 keys_bits).2
  rcases Nat.lt_trichotomy i j with h1 | h1 | h1
  · exact absurd h (hb i j (Nat.zero_le _) h1 (by omega))
  · exact h1
  · exact absurd h.symm (hb j i (Nat.zero_le _) h1 (by omega))
/-- Two entries that are no aliases, with the same instruction: one entry. -/
theorem once (P Q a b : Nat) (hP : P < 7) (hQ : Q < 7) (ha : a < 256) (hb : b < 256) (x y : En) (hx : atT P (a : Int) = some x) (hy : atT Q (b : Int) = some y) (ax : x.2.2.2 = false) (ay : y.2.2.2 = false) (e1 : x.1 = y.1) (e2 : x.2.1 = y.2.1) : P = Q ∧ a = b := by
  rw [atN_eq P a ha] at hx
  rw [atN_eq Q b hb] at hy
  have k : ∀ (p n : Nat) (z : En), n < 256 → atN p n = some z → z.2.2.2 = false → keyN (p * 256 + n) = (2 * hashN z.1 z.2.1 + 1) % 120122 := fun p n z hn hz hal => by
    unfold keyN
    rw [show (p * 256 + n) / 256 = p by omega, show (p * 256 + n) % 256 = n by omega, hz]
    simp only [hal]
    rfl
  have e := key_inj (P * 256 + a) (Q * 256 + b) (by omega) (by omega) (by rw [k P a x ha hx ax, k Q b y hb hy ay, e1, e2])
  omega
end Go.Proofs.YtipgecdfnbldnaaDoor
