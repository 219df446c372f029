/-
  Walks over num.read and its closure: for every string and base (2 to 16) the number that the digits denote, or 0 and false; nothing that was there is changed.
-/
import Derived.Test.YtcmcikcagpkocaaDoorNumA
import Derived.OneCell
namespace Go.Proofs.YtcmcikcagpkocaaDoor
open Go.RowKit
set_option linter.unusedVariables false

/-- One digit more. -/
def rdStep (base : Int) (o : Option Int) (c : UInt8) : Option Int :=
  o.bind fun n => if hexV (c.toNat : Int) < 0 ∨ base ≤ hexV (c.toNat : Int) then none else if n * base + hexV (c.toNat : Int) ≤ 65535 then some (n * base + hexV (c.toNat : Int)) else none
def rdL (base : Int) (l : List UInt8) : Option Int := l.foldl (rdStep base) (some 0)
theorem rdL_none (base : Int) (l : List UInt8) : l.foldl (rdStep base) none = none := by
  induction l with
  | nil => rfl
  | cons c l ih => simpa [rdStep] using ih
theorem rdL_snoc (base : Int) (l : List UInt8) (c : UInt8) : rdL base (l ++ [c]) = rdStep base (rdL base l) c := by
  unfold rdL; rw [List.foldl_append]; rfl
theorem rdL_app_none (base : Int) (l r : List UInt8) (h : rdL base l = none) : rdL base (l ++ r) = none := by
  unfold rdL at h ⊢; rw [List.foldl_append, h]; exact rdL_none base r
/-- The number that all digits denote, if they are digits, there is one, and it is not too great. -/
def rdO (base : Int) (s : ByteArray) : Option Int := if s.data.toList = [] then none else rdL base s.data.toList
def rdOk (base : Int) (s : ByteArray) : Bool := (rdO base s).isSome
def rdV (base : Int) (s : ByteArray) : Int := (rdO base s).getD 0

set_option maxHeartbeats 400000 in
/-- The closure refuses the digit. -/
theorem add_bad (c base n : Int) (p q : Addr) (h0 : 0 ≤ c) (h1 : c ≤ 255) (hv : hexV c < 0 ∨ base ≤ hexV c) (w : World)
    (hp : w.cell? p = some (.int .i64 base)) (hq : w.cell? q = some (.int .i64 n)) :
    Calls Tryd.prog 112 #[.int .u8 c, .pointer (some p), .pointer (some q)] w fun e w' => e = .returned (.bool false) ∧ w = w' := by
  by_cases ha : hexV c < 0
  · go_enter Tryd.func112, Tryd.ntmps112
    go_wp2_with (go_at_call 113; refine (value_any _ h0 h1 _).mono ?_; rintro e w' ⟨rfl, rfl⟩)
    go_ret
    exact ⟨rfl, rfl⟩
  · have hb : base ≤ hexV c := by omega
    clear hv
    go_enter Tryd.func112, Tryd.ntmps112
    go_wp2_with (go_at_call 113; refine (value_any _ h0 h1 _).mono ?_; rintro e w' ⟨rfl, rfl⟩)
    go_ret
    exact ⟨rfl, rfl⟩

set_option maxHeartbeats 400000 in
/-- The closure takes the digit. -/
theorem add_good (c base n : Int) (p q : Addr) (h0 : 0 ≤ c) (h1 : c ≤ 255) (hv0 : 0 ≤ hexV c) (hv1 : hexV c < base) (hb : base ≤ 16) (hn0 : 0 ≤ n) (hn1 : n ≤ 65535) (w : World)
    (hp : w.cell? p = some (.int .i64 base)) (hq : w.cell? q = some (.int .i64 n)) (hf : w.frozen? q = false) :
    Calls Tryd.prog 112 #[.int .u8 c, .pointer (some p), .pointer (some q)] w fun e w' => e = .returned (.bool (decide (n * base + hexV c ≤ 65535))) ∧ w.setCell q (.int .i64 (n * base + hexV c)) = w' := by
  have hbd : 0 ≤ n * base ∧ n * base ≤ 65535 * 16 := ⟨Int.mul_nonneg hn0 (by omega), Int.mul_le_mul hn1 hb (by omega) (by omega)⟩
  obtain ⟨m0, m1⟩ := hbd
  go_enter Tryd.func112, Tryd.ntmps112
  go_wp2_with (go_at_call 113; refine (value_any _ h0 h1 _).mono ?_; rintro e w' ⟨rfl, rfl⟩)
  go_ret
  exact ⟨rfl, rfl⟩

/-- What holds at the head of the loop's round k: the digits so far denote n, and the two variables hold base and n. -/
def RdRel (w : World) (base : Int) (s : ByteArray) (k : Nat) (n : Int) (wr : World) : Prop :=
  rdL base (s.data.toList.take k) = some n ∧ 0 ≤ n ∧ n ≤ 65535 ∧ wr.cell? ⟨w.heap.size, 0, none⟩ = some (.int .i64 base) ∧ wr.cell? ⟨w.heap.size + 1, 0, none⟩ = some (.int .i64 n) ∧ wr.frozen? ⟨w.heap.size + 1, 0, none⟩ = false ∧ Below w.heap.size w wr
theorem rdRel_start (w : World) (base : Int) (s : ByteArray) : RdRel w base s 0 0 ((w.alloc (.cells #[.int .i64 base] 3)).alloc (.cells #[.int .i64 0] 3)) := by
  refine ⟨rfl, by omega, by omega, ?_, ?_, ?_, ((Below.refl _ _).alloc (Nat.le_refl _) _).alloc (by simp) _⟩
  · simp [go_sem]
  · simp [go_sem]
  · simp [go_sem]

theorem take_snoc (s : ByteArray) (k : Nat) (h : k < s.size) : s.data.toList.take (k + 1) = s.data.toList.take k ++ [s[k]] := by
  rw [List.take_succ_eq_append_getElem (by simpa using h)]; rfl
theorem take_all (s : ByteArray) (k : Nat) (h : k < s.size) : s.data.toList = (s.data.toList.take k ++ [s[k]]) ++ s.data.toList.drop (k + 1) := by
  rw [← take_snoc s k h, List.take_append_drop]
theorem ne_nil_of_lt (s : ByteArray) (k : Nat) (h : k < s.size) : s.data.toList ≠ [] := by
  intro e
  have h1 : s.data.toList.length = s.size := by simp
  rw [e] at h1
  simp at h1
  omega
theorem rd_of_none (s : ByteArray) (base : Int) (k : Nat) (h : k < s.size) (hn : rdL base (s.data.toList.take k ++ [s[k]]) = none) : rdV base s = 0 ∧ rdOk base s = false := by
  have h1 : rdO base s = none := by
    unfold rdO
    rw [if_neg (ne_nil_of_lt s k h), take_all s k h]
    exact rdL_app_none base _ _ hn
  unfold rdV rdOk
  rw [h1]
  exact ⟨rfl, rfl⟩
theorem rd_bad (s : ByteArray) (base n : Int) (k : Nat) (h : k < s.size) (hr : rdL base (s.data.toList.take k) = some n) (hv : hexV (s[k].toNat : Int) < 0 ∨ base ≤ hexV (s[k].toNat : Int)) :
    rdV base s = 0 ∧ rdOk base s = false :=
  rd_of_none s base k h (by rw [rdL_snoc, hr]; unfold rdStep; simp only [Option.bind_some]; rw [if_pos hv])
theorem rd_big (s : ByteArray) (base n : Int) (k : Nat) (h : k < s.size) (hr : rdL base (s.data.toList.take k) = some n) (v0 : 0 ≤ hexV (s[k].toNat : Int)) (v1 : hexV (s[k].toNat : Int) < base)
    (hle : ¬ n * base + hexV (s[k].toNat : Int) ≤ 65535) : rdV base s = 0 ∧ rdOk base s = false :=
  rd_of_none s base k h (by rw [rdL_snoc, hr]; unfold rdStep; simp only [Option.bind_some]; rw [if_neg (by omega), if_neg hle])
theorem rd_all (s : ByteArray) (base n : Int) (hr : rdL base s.data.toList = some n) : rdV base s = n ∧ rdOk base s = !s.toList.isEmpty := by
  rw [ByteArray.toList_eq]
  unfold rdV rdOk rdO
  cases h : s.data.toList with
  | nil => rw [h] at hr; simp [rdL] at hr; subst hr; simp
  | cons a l => rw [h] at hr; simp [hr]
theorem rdRel_next (w wr : World) (base : Int) (s : ByteArray) (k : Nat) (n : Int) (h : k < s.size) (hr : RdRel w base s k n wr) (v0 : 0 ≤ hexV (s[k].toNat : Int)) (v1 : hexV (s[k].toNat : Int) < base) (hb : 0 ≤ base)
    (hle : n * base + hexV (s[k].toNat : Int) ≤ 65535) : RdRel w base s (k + 1) (n * base + hexV (s[k].toNat : Int)) (wr.setCell ⟨w.heap.size + 1, 0, none⟩ (.int .i64 (n * base + hexV (s[k].toNat : Int)))) := by
  obtain ⟨r1, r2, r3, r4, r5, r6, r7⟩ := hr
  have hm : 0 ≤ n * base := Int.mul_nonneg r2 hb
  refine ⟨?_, by omega, hle, ?_, ?_, ?_, r7.setCell (by simp) _⟩
  · rw [take_snoc s k h, rdL_snoc, r1]; unfold rdStep; simp only [Option.bind_some]; rw [if_neg (by omega), if_pos hle]
  · rw [World.cell?_setCell_other _ _ _ _ (by simp)]; exact r4
  · simp [go_sem, r5]
  · simp [go_sem, r6]
theorem ret_pair {k : IntKind} {a b : Int} {p q : Bool} (h : a = b) (h' : p = q) : Ending.returned (.tuple #[.int k a, .bool p]) = .returned (.tuple #[.int k b, .bool q]) := by rw [h, h']

set_option maxHeartbeats 1000000 in
theorem read_any (s : ByteArray) (base : Int) (hs : s.size ≤ maxLen) (hb0 : 2 ≤ base) (hb1 : base ≤ 16) (w : World) :
    Calls Tryd.prog 99 #[.string s, .int .i64 base] w fun e w' => e = .returned (.tuple #[.int .i64 (rdV base s), .bool (rdOk base s)]) ∧ Below w.heap.size w w' := by
  unfold maxLen at hs
  have hmf : ∀ (fn : Fn) (first cap : Array Value) (w : World), (Instr.makeFunc fn first cap).run Tryd.prog w = .ok (.func fn first cap) w := fun _ _ _ _ => rfl
  go_enter Tryd.func99, Tryd.ntmps99
  go_wp2
  go_loopw [12] (fun i wr => ∃ (k : Nat) (n : Int), k ≤ s.size ∧ i = .int .i64 k ∧ RdRel w base s k n wr) (fun i _ => s.size - (intOf i).toNat)
  case atStart => exact ⟨0, 0, Nat.zero_le _, rfl, rdRel_start w base s⟩
  case round =>
    obtain ⟨k, n, hk, rfl, hr⟩ := hrel
    obtain ⟨r1, r2, r3, r4, r5, r6, r7⟩ := hr
    have R1 := Lib.hid r1
    clear r1
    by_cases hlt : k < s.size
    · have c0 : (0 : Int) ≤ (s[k].toNat : Int) := by omega
      have c1 : (s[k].toNat : Int) ≤ 255 := by have := s[k].toNat_lt; omega
      by_cases hv : hexV (s[k].toNat : Int) < 0 ∨ base ≤ hexV (s[k].toNat : Int)
      · have F := rd_bad s base n k hlt R1.out hv
        have F1 := Lib.hid F.1
        have F2 := Lib.hid F.2
        clear F
        go_wp2_with (go_at_call 112; refine (add_bad _ base n _ _ c0 c1 hv _ r4 r5).mono ?_; rintro e w' ⟨rfl, rfl⟩)
        go_ret2
        exact ⟨ret_pair F1.out.symm F2.out.symm, r7⟩
      · have v0 : 0 ≤ hexV (s[k].toNat : Int) := by omega
        have v1 : hexV (s[k].toNat : Int) < base := by omega
        by_cases hle : n * base + hexV (s[k].toNat : Int) ≤ 65535
        · have N := Lib.hid (rdRel_next w wr base s k n hlt ⟨R1.out, r2, r3, r4, r5, r6, r7⟩ v0 v1 (by omega) hle)
          go_wp2_with (go_at_call 112; refine (add_good _ base n _ _ c0 c1 v0 v1 hb1 r2 r3 _ r4 r5 r6).mono ?_; rintro e w' ⟨rfl, rfl⟩)
          go_roundw
          case rel => exact ⟨k + 1, _, by omega, by go_num, N.out⟩
          case measure => simp [intOf]; omega
        · have F := rd_big s base n k hlt R1.out v0 v1 hle
          have F1 := Lib.hid F.1
          have F2 := Lib.hid F.2
          clear F
          have hd : decide (n * base + hexV (s[k].toNat : Int) ≤ 65535) = false := by simpa using hle
          go_wp2_with (go_at_call 112; refine (add_good _ base n _ _ c0 c1 v0 v1 hb1 r2 r3 _ r4 r5 r6).mono ?_; rintro e w' ⟨rfl, rfl⟩)
          go_ret2
          exact ⟨ret_pair F1.out.symm F2.out.symm, r7.setCell (by simp) _⟩
    · have F := rd_all s base n (by have := R1.out; rwa [List.take_of_length_le (by simp; omega)] at this)
      have F1 := Lib.hid F.1
      have F2 := Lib.hid F.2
      clear F
      go_wp2
      go_ret2
      exact ⟨ret_pair F1.out.symm F2.out.symm, r7⟩
end Go.Proofs.YtcmcikcagpkocaaDoor
