/-
  Slices of slices of bytes; the walks over breadboardref03.Sum, (*record.cursor).take and number.
-/
import Derived.Test.YtbnehcnimbkakaaRecA
namespace Go.Proofs.Ytbnehcnimbkakaa
open Go.RowKit
set_option linter.unusedVariables false

/-! ### Slicing -/
/-- Where a slice of a slice lies: from l on, its capacity ends at m. -/
def subA (A : Option Addr) (l m : Nat) : Option Addr := if m = l then A else A.map (·.add (l * 1))
theorem subA_zero (A : Option Addr) (m : Nat) : subA A 0 m = A := by
  unfold subA
  split
  · rfl
  · cases A <;> simp [Addr.add]
theorem elem_B : Try.prog.elem 22 = 5 := by unfold Program.elem; rw [Try.underlying22]
theorem und_B : Try.prog.underlying 22 = some (.slice (Try.prog.elem 22)) := by rw [elem_B]; exact Try.underlying22
theorem slB_h (A : Option Addr) (len cap n : Nat) (hn : n ≤ cap) (w : World) :
    (Instr.slice 22 (.slice A len cap) none (some (.int .i64 (n : Int))) none).run Try.prog w = .ok (.slice A n cap) w := by
  rw [run_slice_h w 22 A len cap und_B .i64 (n : Int) (by omega) (by omega), elem_B, Try.sizeOf5]
  simp only [Result.andThen_ok, sliced]
  have e := subA_zero A cap
  unfold subA at e
  rw [e, show ((n : Int)).toNat - 0 = n by omega, Nat.sub_zero]
theorem slB_l (A : Option Addr) (len cap n : Nat) (hn : n ≤ len) (w : World) :
    (Instr.slice 22 (.slice A len cap) (some (.int .i64 (n : Int))) none none).run Try.prog w = .ok (.slice (subA A n cap) (len - n) (cap - n)) w := by
  rw [run_slice_l w 22 A len cap und_B .i64 (n : Int) (by omega) (by omega), elem_B, Try.sizeOf5]
  simp only [Result.andThen_ok, sliced]
  rw [show ((n : Int)).toNat = n by omega]
  rfl
theorem slB_lh (A : Option Addr) (len cap l h : Nat) (hl : l ≤ h) (hh : h ≤ cap) (w : World) :
    (Instr.slice 22 (.slice A len cap) (some (.int .i64 (l : Int))) (some (.int .i64 (h : Int))) none).run Try.prog w = .ok (.slice (subA A l cap) (h - l) (cap - l)) w := by
  rw [run_slice_lh w 22 A len cap und_B .i64 .i64 (l : Int) (h : Int) (by omega) (by omega) (by omega), elem_B, Try.sizeOf5]
  simp only [Result.andThen_ok, sliced]
  rw [show ((l : Int)).toNat = l by omega, show ((h : Int)).toNat = h by omega]
  rfl
theorem slB_lhm (A : Option Addr) (len cap l h m : Nat) (hl : l ≤ h) (hh : h ≤ m) (hm : m ≤ cap) (w : World) :
    (Instr.slice 22 (.slice A len cap) (some (.int .i64 (l : Int))) (some (.int .i64 (h : Int))) (some (.int .i64 (m : Int)))).run Try.prog w = .ok (.slice (subA A l m) (h - l) (m - l)) w := by
  rw [run_slice_lhm w 22 A len cap und_B .i64 .i64 .i64 (l : Int) (h : Int) (m : Int) (by omega) (by omega) (by omega) (by omega), elem_B, Try.sizeOf5]
  simp only [Result.andThen_ok, sliced]
  rw [show ((l : Int)).toNat = l by omega, show ((h : Int)).toNat = h by omega, show ((m : Int)).toNat = m by omega]
  rfl
theorem BytesP.take {P : Nat → Prop} {w : World} {A : Option Addr} {xs : List UInt8} (h : BytesP P w A xs) (n : Nat) : BytesP P w A (xs.take n) := by
  rcases h with rfl | ⟨b, off, rfl, hp, hc⟩
  · left; simp
  · refine .inr ⟨b, off, rfl, hp, fun j hj => ?_⟩
    have hj' : j < xs.length := by simp at hj; omega
    rw [List.getElem_take]
    exact hc j hj'
theorem BytesP.sub {P : Nat → Prop} {w : World} {A : Option Addr} {xs : List UInt8} (h : BytesP P w A xs) (l m : Nat) (hm : xs.length ≤ m) : BytesP P w (subA A l m) (xs.drop l) := by
  by_cases h0 : xs.length ≤ l
  · left; exact List.drop_eq_nil_of_le h0
  · rcases h with rfl | ⟨b, off, rfl, hp, hc⟩
    · simp at h0
    · right
      unfold subA
      rw [if_neg (by omega)]
      refine ⟨b, off + l, ?_, hp, fun j hj => ?_⟩
      · simp only [Option.map_some, Option.some.injEq]
        unfold Addr.add
        split
        · rename_i h; have : l = 0 := by omega
          subst this; rfl
        · simp
      · have hj' : l + j < xs.length := by simp at hj; omega
        have h := hc (l + j) hj'
        rw [show off + l + j = off + (l + j) by omega, List.getElem_drop]
        exact h

/-! ### The reference's Sum -/
theorem take_sum_mod (xs : List UInt8) (k : Nat) (h : k < xs.length) : (sumI (xs.take k) % 256 + (xs[k].toNat : Int)) % 256 = sumI (xs.take (k + 1)) % 256 := by
  rw [sumI_take xs k h]; omega
set_option maxHeartbeats 400000 in
theorem rsum_any (P : Nat → Prop) (A : Option Addr) (cap : Nat) (xs : List UInt8) (hl : xs.length ≤ maxLen) (w : World) (hx : BytesP P w A xs) :
    Calls Try.prog 20 #[.slice A xs.length cap] w fun e w' => e = .returned (.int .u8 (chkI xs)) ∧ w = w' := by
  unfold maxLen at hl
  have X := Lib.hid hx
  clear hx
  go_enter Try.func20, Try.ntmps20
  go_wp2
  go_loop [3, 4] (fun n i => ∃ (k : Nat) (y : Int), k ≤ xs.length ∧ i = .int .i64 k ∧ n = .int .i64 y ∧ 0 ≤ y ∧ y < 256 ∧ Hid (y = sumI (xs.take k) % 256)) (fun _ i => xs.length - (intOf i).toNat)
  case atStart => exact ⟨0, 0, Nat.zero_le _, rfl, rfl, by omega, by omega, rfl⟩
  case round =>
    obtain ⟨k, y, hk, rfl, rfl, y0, y1, Y⟩ := hrel
    by_cases hlt : k < xs.length
    · obtain ⟨g, off, hA, g0⟩ := X.out.at_ hlt
      subst hA
      have T := Lib.hid (take_sum_mod xs k hlt)
      obtain ⟨x, hxk⟩ : ∃ x : Int, (xs[k].toNat : Int) = x := ⟨_, rfl⟩
      have x0 : 0 ≤ x := by omega
      have x1 : x < 256 := by have := xs[k].toNat_lt; omega
      rw [hxk] at g0 T
      clear hxk
      have hlt' : (k : Int) < (xs.length : Int) := by omega
      go_wp2
      go_round
      case rel => exact ⟨k + 1, _, by omega, by go_num, rfl, by omega, by omega, by show _ = _; rw [← T.out, ← Y.out]⟩
      case measure => simp [intOf]; omega
    · have hlt' : decide ((k : Int) < (xs.length : Int)) = false := decide_eq_false (by omega)
      have E : Hid ((256 - y) % 256 = chkI xs) := by
        show _ = _
        have h := Y.out
        rw [List.take_of_length_le (by omega)] at h
        unfold chkI; omega
      have hw := IntKind.wrap_u8 ((256 - y) % 256)
      have e2 : (256 - y) % 256 % 256 = (256 - y) % 256 := by omega
      rw [e2] at hw
      clear e2
      go_wp2
      go_ret
      exact ⟨ret_int (by have := E.out; omega), rfl⟩

/-! ### The cursor -/
/-- The cell at ⟨b, 0⟩ holds a slice that may be written. -/
def CurAt (b : Nat) (w : World) (A : Option Addr) (len cap : Nat) : Prop := b < w.heap.size ∧ w.cell? ⟨b, 0, none⟩ = some (.slice A len cap) ∧ w.frozen? ⟨b, 0, none⟩ = false
theorem CurAt.set {b : Nat} {w : World} {A : Option Addr} {len cap : Nat} (h : CurAt b w A len cap) (A' : Option Addr) (len' cap' : Nat) : CurAt b (w.setCell ⟨b, 0, none⟩ (.slice A' len' cap')) A' len' cap' := by
  obtain ⟨h1, h2, h3⟩ := h
  refine ⟨by simpa [World.setCell] using h1, ?_, ?_⟩
  · simp [go_sem, h2]
  · simp [go_sem, h3]
set_option maxHeartbeats 400000 in
theorem take_any (b : Nat) (A : Option Addr) (len cap n : Nat) (hn : n ≤ len) (hc : len ≤ cap) (w : World) (h : CurAt b w A len cap) :
    Calls Try.prog 47 #[.pointer (some ⟨b, 0, none⟩), .int .i64 n] w fun e w' => e = .returned (.slice A n cap) ∧ w.setCell ⟨b, 0, none⟩ (.slice (subA A n cap) (len - n) (cap - n)) = w' := by
  obtain ⟨-, g1, g2⟩ := h
  have h1 := fun w => slB_h A len cap n (by omega) w
  have h2 := fun w => slB_l A len cap n hn w
  clear hn hc
  go_enter Try.func47, Try.ntmps47
  go_wp2
  go_ret
  exact ⟨rfl, rfl⟩

/-- The number whose bytes, the high one first, are xs. -/
def numI (xs : List UInt8) : Int := xs.foldl (fun v x => v * 256 + (x.toNat : Int)) 0
theorem numI_snoc (xs : List UInt8) (x : UInt8) : numI (xs ++ [x]) = numI xs * 256 + (x.toNat : Int) := by unfold numI; rw [List.foldl_append]; rfl
theorem numI_take (xs : List UInt8) (k : Nat) (h : k < xs.length) : numI (xs.take (k + 1)) = numI (xs.take k) * 256 + (xs[k].toNat : Int) := by
  rw [List.take_succ_eq_append_getElem h, numI_snoc]
theorem numI_small (xs : List UInt8) (h : xs.length ≤ 1) : 0 ≤ numI xs ∧ numI xs < 256 := by
  match xs, h with
  | [], _ => decide
  | [x], _ => have := x.toNat_lt; unfold numI; simp only [List.foldl_cons, List.foldl_nil]; omega
theorem or256 (v x : Int) (h0 : 0 ≤ v) (h1 : v < 65536) (x0 : 0 ≤ x) (x1 : x < 256) : bits .or .i64 (v * 256) x = v * 256 + x := by
  obtain ⟨a, rfl⟩ : ∃ a : Nat, v = a := ⟨v.toNat, by omega⟩
  obtain ⟨c, rfl⟩ : ∃ c : Nat, x = c := ⟨x.toNat, by omega⟩
  show IntKind.i64.wrap ((BitVec.ofInt 64 ((a : Int) * 256) ||| BitVec.ofInt 64 (c : Int)).toNat : Int) = _
  rw [BitVec.toNat_or, BitVec.toNat_ofInt, BitVec.toNat_ofInt]
  have e1 : (((a : Int) * 256) % ((2 ^ 64 : Nat) : Int)).toNat = a * 2 ^ 8 := by omega
  have e2 : ((c : Int) % ((2 ^ 64 : Nat) : Int)).toNat = c := by omega
  rw [e1, e2, Nat.mul_comm, ← Nat.two_pow_add_eq_or_of_lt (show c < 2 ^ 8 by omega), IntKind.wrap_i64]
  omega
set_option maxHeartbeats 1000000 in
theorem number_any (P : Nat → Prop) (b : Nat) (hb : ¬ P b) (A : Option Addr) (xs : List UInt8) (cap n : Nat) (hn : n ≤ xs.length) (hn2 : n ≤ 2) (hc : xs.length ≤ cap) (w : World) (hX : BytesP P w A xs) (h : CurAt b w A xs.length cap) :
    Calls Try.prog 46 #[.pointer (some ⟨b, 0, none⟩), .int .i64 n] w fun e w' => e = .returned (.int .i64 (numI (xs.take n))) ∧ w.setCell ⟨b, 0, none⟩ (.slice (subA A n cap) (xs.length - n) (cap - n)) = w' := by
  have ht := take_any b A xs.length cap n hn hc w h
  obtain ⟨w1, hw1⟩ : ∃ w1, w.setCell ⟨b, 0, none⟩ (.slice (subA A n cap) (xs.length - n) (cap - n)) = w1 := ⟨_, rfl⟩
  have X : Hid (BytesP P w1 A (xs.take n)) := by
    show BytesP _ _ _ _
    rw [← hw1]
    exact (hX.kept (Q := (· ≠ b)) ((KeptP.refl _ _).setCell (by simp) _) fun i _ hp e => hb (e ▸ hp)).take n
  rw [hw1] at ht ⊢
  have hlen : (xs.take n).length = n := by simp; omega
  obtain ⟨ys, hys⟩ : ∃ ys, xs.take n = ys := ⟨_, rfl⟩
  rw [hys] at X hlen ⊢
  have L := Lib.hid hlen
  clear hw1 hX h hn hc hys hlen
  go_enter Try.func46, Try.ntmps46
  go_wp2_with fail
  refine ht.mono ?_
  rintro e w' ⟨rfl, rfl⟩
  clear ht
  go_wp2
  go_loop [5, 12] (fun v i => ∃ (k : Nat) (y : Int), k ≤ n ∧ i = .int .i64 k ∧ v = .int .i64 y ∧ 0 ≤ y ∧ y < 65536 ∧ Hid (y = numI (ys.take k))) (fun _ i => n - (intOf i).toNat)
  case atStart => exact ⟨0, 0, Nat.zero_le _, rfl, rfl, by omega, by omega, rfl⟩
  case round =>
    obtain ⟨k, y, hk, rfl, rfl, y0, y1, Y⟩ := hrel
    by_cases hlt : k < n
    · have hly : k < ys.length := by rw [L.out]; exact hlt
      obtain ⟨g, off, hA, g0⟩ := X.out.at_ hly
      subst hA
      have T := Lib.hid (numI_take ys k hly)
      have B := numI_small (ys.take k) (by simp; omega)
      rw [← Y.out] at B
      obtain ⟨x, hxk⟩ : ∃ x : Int, (ys[k].toNat : Int) = x := ⟨_, rfl⟩
      have x0 : 0 ≤ x := by omega
      have x1 : x < 256 := by have := ys[k].toNat_lt; omega
      rw [hxk] at g0 T
      have hor := or256 y x B.1 (by omega) x0 x1
      clear hxk
      obtain ⟨b0, b1⟩ := B
      go_wp2
      go_round
      case rel => exact ⟨k + 1, _, by omega, by go_num, rfl, by omega, by omega, by show _ = _; rw [T.out, ← Y.out]⟩
      case measure => simp [intOf]; omega
    · have E : Hid (y = numI ys) := by
        show _ = _
        have h := Y.out
        rwa [List.take_of_length_le (by have := L.out; omega)] at h
      go_wp2
      go_ret
      exact ⟨ret_int E.out, rfl⟩
end Go.Proofs.Ytbnehcnimbkakaa
