/-
  Walks over num.read and its closure: for every string and base (2 to 16) the number that the digits denote, or 0 and false; nothing that was there is changed.
-/
import Derived.Test.YtbmgfkbgfgknbaaNumA
import Derived.OneCell
namespace Go.Proofs.Ytbmgfkbgfgknbaa
open Go.RowKit
set_option linter.unusedVariables false

/-- One digit more. -/
def rdStep (base : Int) (o : Option Int) (c : UInt8) : Option Int :=
  o.bind fun n => if hexV (c.toNat : Int) < 0 ∨ base ≤ hexV (c.toNat : Int) then none else if n * base + hexV (c.toNat : Int) ≤ 65535 then some (n * base + hexV (c.toNat : Int)) else none
def rdL (base : Int) (l : List UInt8) : Option Int := l.foldl (rdStep base) (some 0)
theorem rdL_none (base : Int) (l : List UInt8) : l.foldl (rdStep base) none = none := by
  induction l with
  | nil => rfl
  | cons c l ih => simpa [rdStep] using ih
theorem rdL_snoc (base : Int) (l : List UInt8) (c : UInt8) : rdL base (l ++ [c]) = rdStep base (rdL base l) c := by
  unfold rdL; rw [List.foldl_append]; rfl
theorem rdL_app_none (base : Int) (l r : List UInt8) (h : rdL base l = none) : rdL base (l ++ r) = none := by
  unfold rdL at h ⊢; rw [List.foldl_append, h]; exact rdL_none base r
/-- The number that all digits denote, if they are digits, there is one, and it is not too great. -/
def rdO (base : Int) (s : ByteArray) : Option Int := if s.data.toList = [] then none else rdL base s.data.toList
def rdOk (base : Int) (s : ByteArray) : Bool := (rdO base s).isSome
def rdV (base : Int) (s : ByteArray) : Int := (rdO base s).getD 0

/-- What holds at the head of the loop's round k: the digits so far denote n, and the two variables hold base and n. -/
def RdRel (w : World) (base : Int) (s : ByteArray) (k : Nat) (n : Int) (wr : World) : Prop :=
  rdL base (s.data.toList.take k) = some n ∧ 0 ≤ n ∧ n ≤ 65535 ∧ wr.cell? ⟨w.heap.size, 0, none⟩ = some (.int .i64 base) ∧ wr.cell? ⟨w.heap.size + 1, 0, none⟩ = some (.int .i64 n) ∧ wr.frozen? ⟨w.heap.size + 1, 0, none⟩ = false ∧ Below w.heap.size w wr
theorem rdRel_start (w : World) (base : Int) (s : ByteArray) : RdRel w base s 0 0 ((w.alloc (.cells #[.int .i64 base] 3)).alloc (.cells #[.int .i64 0] 3)) := by
  refine ⟨rfl, by omega, by omega, ?_, ?_, ?_, ((Below.refl _ _).alloc (Nat.le_refl _) _).alloc (by simp) _⟩
  · simp [go_sem]
  · simp [go_sem]
  · simp [go_sem]

theorem take_snoc (s : ByteArray) (k : Nat) (h : k < s.size) : s.data.toList.take (k + 1) = s.data.toList.take k ++ [s[k]] := by
  rw [List.take_succ_eq_append_getElem (by simpa using h)]; rfl
theorem take_all (s : ByteArray) (k : Nat) (h : k < s.size) : s.data.toList = (s.data.toList.take k ++ [s[k]]) ++ s.data.toList.drop (k + 1) := by
  rw [← take_snoc s k h, List.take_append_drop]
theorem ne_nil_of_lt (s : ByteArray) (k : Nat) (h : k < s.size) : s.data.toList ≠ [] := by
  intro e
  have h1 : s.data.toList.length = s.size := by simp
  rw [e] at h1
  simp at h1
  omega
theorem rd_of_none (s : ByteArray) (base : Int) (k : Nat) (h : k < s.size) (hn : rdL base (s.data.toList.take k ++ [s[k]]) = none) : rdV base s = 0 ∧ rdOk base s = false := by
  have h1 : rdO base s = none := by
    unfold rdO
    rw [if_neg (ne_nil_of_lt s k h), take_all s k h]
    exact rdL_app_none base _ _ hn
  unfold rdV rdOk
  rw [h1]
  exact ⟨rfl, rfl⟩
theorem rd_bad (s : ByteArray) (base n : Int) (k : Nat) (h : k < s.size) (hr : rdL base (s.data.toList.take k) = some n) (hv : hexV (s[k].toNat : Int) < 0 ∨ base ≤ hexV (s[k].toNat : Int)) :
    rdV base s = 0 ∧ rdOk base s = false :=
  rd_of_none s base k h (by rw [rdL_snoc, hr]; unfold rdStep; simp only [Option.bind_some]; rw [if_pos hv])
theorem rd_big (s : ByteArray) (base n : Int) (k : Nat) (h : k < s.size) (hr : rdL base (s.data.toList.take k) = some n) (v0 : 0 ≤ hexV (s[k].toNat : Int)) (v1 : hexV (s[k].toNat : Int) < base)
    (hle : ¬ n * base + hexV (s[k].toNat : Int) ≤ 65535) : rdV base s = 0 ∧ rdOk base s = false :=
  rd_of_none s base k h (by rw [rdL_snoc, hr]; unfold rdStep; simp only [Option.bind_some]; rw [if_neg (by omega), if_neg hle])
theorem rd_all (s : ByteArray) (base n : Int) (hr : rdL base s.data.toList = some n) : rdV base s = n ∧ rdOk base s = !s.toList.isEmpty := by
  rw [ByteArray.toList_eq]
  unfold rdV rdOk rdO
  cases h : s.data.toList with
  | nil => rw [h] at hr; simp [rdL] at hr; subst hr; simp
  | cons a l => rw [h] at hr; simp [hr]
theorem rdRel_next (w wr : World) (base : Int) (s : ByteArray) (k : Nat) (n : Int) (h : k < s.size) (hr : RdRel w base s k n wr) (v0 : 0 ≤ hexV (s[k].toNat : Int)) (v1 : hexV (s[k].toNat : Int) < base) (hb : 0 ≤ base)
    (hle : n * base + hexV (s[k].toNat : Int) ≤ 65535) : RdRel w base s (k + 1) (n * base + hexV (s[k].toNat : Int)) (wr.setCell ⟨w.heap.size + 1, 0, none⟩ (.int .i64 (n * base + hexV (s[k].toNat : Int)))) := by
  obtain ⟨r1, r2, r3, r4, r5, r6, r7⟩ := hr
  have hm : 0 ≤ n * base := Int.mul_nonneg r2 hb
  refine ⟨?_, by omega, hle, ?_, ?_, ?_, r7.setCell (by simp) _⟩
  · rw [take_snoc s k h, rdL_snoc, r1]; unfold rdStep; simp only [Option.bind_some]; rw [if_neg (by omega), if_pos hle]
  · rw [World.cell?_setCell_other _ _ _ _ (by simp)]; exact r4
  · simp [go_sem, r5]
  · simp [go_sem, r6]
theorem ret_pair {k : IntKind} {a b : Int} {p q : Bool} (h : a = b) (h' : p = q) : Ending.returned (.tuple #[.int k a, .bool p]) = .returned (.tuple #[.int k b, .bool q]) := by rw [h, h']

end Go.Proofs.Ytbmgfkbgfgknbaa
