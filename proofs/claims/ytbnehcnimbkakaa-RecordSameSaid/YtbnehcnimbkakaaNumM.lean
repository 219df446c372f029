/-
  Slices of bytes that read as a list; the walk over slices.Equal at []byte: for every two such slices, whether the lists are equal.
-/
import Derived.Test.YtbnehcnimbkakaaNumI
import Derived.Deep.Draws
import Derived.RegionTactic
import Derived.Deep.QuietTactic
import Derived.BigQuiet
namespace Go.Proofs.Ytbnehcnimbkakaa
open Go.RowKit
set_option linter.unusedVariables false

/-- A slice of bytes that reads as xs. -/
def BytesB (w : World) (A : Option Addr) (xs : List UInt8) : Prop :=
  xs = [] ∨ ∃ b off, A = some ⟨b, off, none⟩ ∧ ∀ j (h : j < xs.length), w.cell? ⟨b, off + j, none⟩ = some (.int .u8 (xs[j].toNat : Int))
theorem BytesB.at_ {w : World} {A : Option Addr} {xs : List UInt8} (h : BytesB w A xs) {k : Nat} (hk : k < xs.length) : ∃ b off, A = some ⟨b, off, none⟩ ∧ w.cell? ⟨b, off + k, none⟩ = some (.int .u8 (xs[k].toNat : Int)) := by
  rcases h with rfl | ⟨b, off, rfl, hc⟩
  · simp at hk
  · exact ⟨b, off, rfl, hc k hk⟩
theorem BytesB.below {w w' : World} {A : Option Addr} {xs : List UInt8} (h : BytesB w A xs) (hb : Below w.heap.size w w') : BytesB w' A xs := by
  rcases h with rfl | ⟨b, off, rfl, hc⟩
  · exact .inl rfl
  · exact .inr ⟨b, off, rfl, fun j hj => (hb.cell (p := ⟨b, off + j, none⟩) (World.block_lt_of_cell? w _ (hc j hj))).trans (hc j hj)⟩
theorem BytesB.drewN {w : World} {A : Option Addr} {xs : List UInt8} (h : BytesB w A xs) (n : Nat) : BytesB (w.drewN n) A xs := by
  rcases h with rfl | ⟨b, off, rfl, hc⟩
  · exact .inl rfl
  · exact .inr ⟨b, off, rfl, fun j hj => by simpa using hc j hj⟩
theorem BytesB.of_own {w : World} {base : Nat} {e : TypeId} {v : Value} {n : Nat} {xs : List UInt8} (h : w.ownsRow base e 1 v n (xs.map fun b => Value.int .u8 (b.toNat : Int))) :
    n = xs.length ∧ ∃ A cap, v = .slice A n cap ∧ BytesB w A xs := by
  have hl : n = xs.length := by have := h.1; simp at this; omega
  refine ⟨hl, ?_⟩
  rcases h.2 with ⟨rfl, h0⟩ | ⟨g, cap, cur, rfl, _⟩
  · subst h0
    exact ⟨none, 0, rfl, .inl (List.eq_nil_of_length_eq_zero hl.symm)⟩
  · refine ⟨_, cap, rfl, .inr ⟨g, 0, rfl, fun j hj => ?_⟩⟩
    rw [Nat.zero_add, h.cellAt j (by omega)]
    simp [List.getElem?_eq_getElem hj]
theorem beq_byte (a b : UInt8) : ((a.toNat : Int) == (b.toNat : Int)) = decide (a = b) := by
  by_cases h : a = b
  · subst h; simp
  · rw [decide_eq_false h, beq_eq_false_iff_ne]
    intro e
    exact h (UInt8.toNat_inj.1 (by omega))
theorem take_next (xs ys : List UInt8) (k : Nat) (hx : k < xs.length) (hy : k < ys.length) (h : xs.take k = ys.take k) (e : xs[k] = ys[k]) : xs.take (k + 1) = ys.take (k + 1) := by
  rw [List.take_succ_eq_append_getElem hx, List.take_succ_eq_append_getElem hy, h, e]
theorem ne_of_at (xs ys : List UInt8) (k : Nat) (hx : k < xs.length) (hy : k < ys.length) (e : ¬ xs[k] = ys[k]) : decide (xs = ys) = false := by
  apply decide_eq_false
  intro h
  subst h
  exact e rfl
def SomeDraws (w : World) (b : Bool) (e : Ending) (w' : World) : Prop := e = .returned (.bool b) ∧ ∃ q, w' = w.drewN q

set_option maxHeartbeats 1000000 in
theorem equal_any (A1 A2 : Option Addr) (c1 c2 : Nat) (xs ys : List UInt8) (hx : xs.length ≤ maxLen) (hy : ys.length ≤ maxLen) (w : World) (h1 : BytesB w A1 xs) (h2 : BytesB w A2 ys) :
    Calls Try.prog 24 #[.slice A1 xs.length c1, .slice A2 ys.length c2] w (SomeDraws w (decide (xs = ys))) := by
  unfold maxLen at hx hy
  have H1 := Lib.hid h1
  have H2 := Lib.hid h2
  clear h1 h2
  by_cases hl : xs.length = ys.length
  · obtain ⟨n, hn⟩ : ∃ n, n = xs.length := ⟨_, rfl⟩
    have hn2 : n = ys.length := by omega
    have L1 := Lib.hid hn
    have L2 := Lib.hid hn2
    rw [← hn, ← hn2]
    rw [← hn] at hx
    clear hn hn2 hl hy
    go_enter Try.func24, Try.ntmps24
    go_wp2
    go_loopw [13] (fun i wr => ∃ k q : Nat, k ≤ n ∧ i = .int .i64 k ∧ wr = w.drewN q ∧ Hid (xs.take k = ys.take k)) (fun i _ => n - (intOf i).toNat)
    case atStart => exact ⟨0, 0, Nat.zero_le _, rfl, rfl, rfl⟩
    case round =>
      obtain ⟨k, q, hk, rfl, rfl, E⟩ := hrel
      by_cases hlt : k < n
      · have k1 : k < xs.length := by have := L1.out; omega
        have k2 : k < ys.length := by have := L2.out; omega
        obtain ⟨b1, o1, hA1, g1⟩ := H1.out.at_ k1
        obtain ⟨b2, o2, hA2, g2⟩ := H2.out.at_ k2
        subst hA1 hA2
        by_cases hxy : xs[k] = ys[k]
        · have N := Lib.hid (take_next xs ys k k1 k2 E.out hxy)
          rw [← hxy] at g2
          clear hxy
          go_wp2_with fail
          go_quiet (fail)
          go_wp2
          go_roundw
          case rel => exact ⟨k + 1, _, by omega, by go_num, rfl, N⟩
          case measure => simp [intOf]; omega
        · have hb : ((xs[k].toNat : Int) != (ys[k].toNat : Int)) = true := by unfold bne; rw [beq_byte, decide_eq_false hxy]; rfl
          have hb2 : ((xs[k].toNat : Int) == (ys[k].toNat : Int)) = false := by rw [beq_byte, decide_eq_false hxy]
          have N := Lib.hid (ne_of_at xs ys k k1 k2 hxy)
          clear hxy
          go_wp2_with fail
          go_quiet (fail)
          go_wp2
          go_ret
          exact ⟨ret_bool N.out.symm, _, by simp only [World.drewN_drewN]; rfl⟩
      · have N : Hid (decide (xs = ys) = true) := by
          have e := E.out
          rw [show k = n by omega, List.take_of_length_le (by have := L1.out; omega), List.take_of_length_le (by have := L2.out; omega)] at e
          exact decide_eq_true e
        go_wp2
        go_ret
        exact ⟨ret_bool N.out.symm, _, rfl⟩
  · have hl' : ((xs.length : Int) != (ys.length : Int)) = true := by
      unfold bne; rw [beq_eq_false_iff_ne.2 (by omega)]; rfl
    have N : Hid (decide (xs = ys) = false) := decide_eq_false (fun e => hl (by rw [e]))
    clear hl
    go_enter Try.func24, Try.ntmps24
    go_wp2
    go_ret
    exact ⟨ret_bool N.out.symm, 0, rfl⟩
end Go.Proofs.Ytbnehcnimbkakaa
