/-
  Frames and slices of bytes; the walks over record's adder, its closure and Sum, and over breadboardref03.Sum: for all bytes, the checksum; nothing that was there is changed.
-/
import Derived.Test.YtbnehcnimbkakaaNumP
import Derived.OwnWalk
import Derived.Laws.AppendOwn
import Derived.Laws.OwnMore
import Derived.OneCell
namespace Go.Proofs.Ytbnehcnimbkakaa
open Go.RowKit
set_option linter.unusedVariables false

/-! ### The blocks with the property P are as they were -/
structure KeptP (P : Nat → Prop) (w w' : World) : Prop where
  os : w'.os = w.os
  tape : w'.tape = w.tape
  output : w'.output = w.output
  size : w.heap.size ≤ w'.heap.size
  block : ∀ i, i < w.heap.size → P i → w'.heap[i]? = w.heap[i]?
theorem KeptP.refl (P : Nat → Prop) (w : World) : KeptP P w w := ⟨rfl, rfl, rfl, Nat.le_refl _, fun _ _ _ => rfl⟩
theorem KeptP.trans {P : Nat → Prop} {w w1 w2 : World} (h : KeptP P w w1) (k : KeptP P w1 w2) : KeptP P w w2 :=
  ⟨k.os.trans h.os, k.tape.trans h.tape, k.output.trans h.output, Nat.le_trans h.size k.size, fun i hi hp => (k.block i (Nat.lt_of_lt_of_le hi h.size) hp).trans (h.block i hi hp)⟩
theorem KeptP.mono {P Q : Nat → Prop} {w w' : World} (h : KeptP P w w') (hQ : ∀ i, i < w.heap.size → Q i → P i) : KeptP Q w w' := ⟨h.os, h.tape, h.output, h.size, fun i hi hq => h.block i hi (hQ i hi hq)⟩
theorem KeptP.of_below {P : Nat → Prop} {B : Nat} {w w' : World} (h : Below B w w') (hP : ∀ i, i < w.heap.size → P i → i < B) : KeptP P w w' := ⟨h.os, h.tape, h.output, h.size, fun i hi hp => h.block i (hP i hi hp)⟩
theorem KeptP.of_all {P : Nat → Prop} {w w' : World} (h : Below w.heap.size w w') : KeptP P w w' := KeptP.of_below h fun i hi _ => hi
theorem KeptP.below {P : Nat → Prop} {B : Nat} {w w' : World} (h : KeptP P w w') (hB : ∀ i, i < B → P i) (hs : B ≤ w.heap.size) : Below B w w' := ⟨h.os, h.tape, h.output, h.size, fun i hi => h.block i (by omega) (hB i hi)⟩
theorem KeptP.setCell {P : Nat → Prop} {w w' : World} (h : KeptP P w w') {p : Addr} (hp : ¬ P p.block) (u : Value) : KeptP P w (w'.setCell p u) :=
  h.trans ⟨rfl, rfl, rfl, by simp [World.setCell], fun i hi hpi => Below.heap_setCell _ _ _ _ (fun e => hp (e ▸ hpi))⟩
theorem KeptP.put {P : Nat → Prop} (w : World) (p : Addr) (hp : ¬ P p.block) (u : Value) : KeptP P w (w.setCell p u) := (KeptP.refl _ _).setCell hp u
theorem KeptP.alloc {P : Nat → Prop} {w w' : World} (h : KeptP P w w') (o : Obj) : KeptP P w (w'.alloc o) :=
  h.trans ⟨rfl, rfl, rfl, by simp, fun i hi _ => Below.heap_alloc _ _ _ hi⟩
theorem KeptP.drew {P : Nat → Prop} {w w' : World} (h : KeptP P w w') : KeptP P w w'.drew := ⟨h.os, h.tape, h.output, h.size, h.block⟩
theorem KeptP.drewN {P : Nat → Prop} {w w' : World} (h : KeptP P w w') (n : Nat) : KeptP P w (w'.drewN n) := ⟨h.os, h.tape, h.output, h.size, h.block⟩
theorem KeptP.grown {P : Nat → Prop} {w w1 w2 : World} {row : Option Nat} (h : KeptP P w w1) (hg : w1.grownBy w2 row) (hr : ∀ k, row = some k → ¬ P k) : KeptP P w w2 :=
  h.trans ⟨hg.os, hg.tape, hg.output, hg.size, fun i hi hp => hg.block i hi (fun e => hr i e.symm hp)⟩
theorem KeptP.cell {P : Nat → Prop} {w w' : World} (h : KeptP P w w') {p : Addr} (hi : p.block < w.heap.size) (hp : P p.block) : w'.cell? p = w.cell? p := World.cell?_of_block (w := w) (h.block p.block hi hp)
theorem KeptP.frozen {P : Nat → Prop} {w w' : World} (h : KeptP P w w') {p : Addr} (hi : p.block < w.heap.size) (hp : P p.block) : w'.frozen? p = w.frozen? p := World.frozen?_of_block (w := w) (h.block p.block hi hp)

/-! ### Slices of bytes: their blocks have the property P -/
def BytesP (P : Nat → Prop) (w : World) (A : Option Addr) (xs : List UInt8) : Prop :=
  xs = [] ∨ ∃ b off, A = some ⟨b, off, none⟩ ∧ P b ∧ ∀ j (h : j < xs.length), w.cell? ⟨b, off + j, none⟩ = some (.int .u8 (xs[j].toNat : Int))
theorem BytesP.at_ {P : Nat → Prop} {w : World} {A : Option Addr} {xs : List UInt8} (h : BytesP P w A xs) {k : Nat} (hk : k < xs.length) : ∃ b off, A = some ⟨b, off, none⟩ ∧ w.cell? ⟨b, off + k, none⟩ = some (.int .u8 (xs[k].toNat : Int)) := by
  rcases h with rfl | ⟨b, off, rfl, _, hc⟩
  · simp at hk
  · exact ⟨b, off, rfl, hc k hk⟩
theorem BytesP.atP {P : Nat → Prop} {w : World} {A : Option Addr} {xs : List UInt8} (h : BytesP P w A xs) {k : Nat} (hk : k < xs.length) : ∃ b off, A = some ⟨b, off, none⟩ ∧ P b ∧ w.cell? ⟨b, off + k, none⟩ = some (.int .u8 (xs[k].toNat : Int)) := by
  rcases h with rfl | ⟨b, off, rfl, hp, hc⟩
  · simp at hk
  · exact ⟨b, off, rfl, hp, hc k hk⟩
theorem BytesP.mono {P Q : Nat → Prop} {w : World} {A : Option Addr} {xs : List UInt8} (h : BytesP P w A xs) (hPQ : ∀ i, i < w.heap.size → P i → Q i) : BytesP Q w A xs := by
  by_cases hx : xs = []
  · exact .inl hx
  · rcases h with rfl | ⟨b, off, rfl, hp, hc⟩
    · exact .inl rfl
    · exact .inr ⟨b, off, rfl, hPQ b (World.block_lt_of_cell? w _ (hc 0 (List.length_pos_iff.2 hx))) hp, hc⟩
theorem BytesP.blocks {P : Nat → Prop} {w w' : World} {A : Option Addr} {xs : List UInt8} (h : BytesP P w A xs) (hk : ∀ i, i < w.heap.size → P i → w'.heap[i]? = w.heap[i]?) : BytesP P w' A xs := by
  rcases h with rfl | ⟨b, off, rfl, hp, hc⟩
  · exact .inl rfl
  · refine .inr ⟨b, off, rfl, hp, fun j hj => ?_⟩
    exact (World.cell?_of_block (w := w) (hk b (World.block_lt_of_cell? w _ (hc j hj)) hp)).trans (hc j hj)
theorem BytesP.below {P : Nat → Prop} {w w' : World} {A : Option Addr} {xs : List UInt8} (h : BytesP P w A xs) (hb : Below w.heap.size w w') : BytesP P w' A xs := h.blocks fun i hi _ => hb.block i hi
theorem BytesP.kept {P Q : Nat → Prop} {w w' : World} {A : Option Addr} {xs : List UInt8} (h : BytesP P w A xs) (hb : KeptP Q w w') (hPQ : ∀ i, i < w.heap.size → P i → Q i) : BytesP P w' A xs := h.blocks fun i hi hp => hb.block i hi (hPQ i hi hp)
theorem BytesP.drewN {P : Nat → Prop} {w : World} {A : Option Addr} {xs : List UInt8} (h : BytesP P w A xs) (n : Nat) : BytesP P (w.drewN n) A xs := h.blocks fun _ _ _ => rfl
theorem BytesB.toP {w : World} {A : Option Addr} {xs : List UInt8} (h : BytesB w A xs) : BytesP (· < w.heap.size) w A xs := by
  by_cases hx : xs = []
  · exact .inl hx
  · rcases h with rfl | ⟨b, off, rfl, hc⟩
    · exact .inl rfl
    · exact .inr ⟨b, off, rfl, World.block_lt_of_cell? w _ (hc 0 (List.length_pos_iff.2 hx)), hc⟩
theorem BytesB.toNew {w0 w : World} {A : Option Addr} {xs : List UInt8} (h : BytesB w A xs) (hn : NewA w0 A) : BytesP (fun i => w0.heap.size ≤ i ∧ i < w.heap.size) w A xs := by
  rcases h.toP with h1 | ⟨b, off, rfl, hb, hc⟩
  · exact .inl h1
  · exact .inr ⟨b, off, rfl, ⟨hn _ rfl, hb⟩, hc⟩
theorem BytesP.toB {P : Nat → Prop} {w : World} {A : Option Addr} {xs : List UInt8} (h : BytesP P w A xs) : BytesB w A xs := by
  rcases h with rfl | ⟨b, off, rfl, _, hc⟩
  · exact .inl rfl
  · exact .inr ⟨b, off, rfl, hc⟩

/-! ### The sum of bytes -/
def sumI (xs : List UInt8) : Int := xs.foldl (fun n x => n + (x.toNat : Int)) 0
theorem foldl_sum (xs : List UInt8) (n : Int) : xs.foldl (fun n x => n + (x.toNat : Int)) n = n + sumI xs := by
  unfold sumI
  induction xs generalizing n with
  | nil => simp
  | cons x t ih => simp only [List.foldl_cons]; rw [ih, ih (0 + (x.toNat : Int))]; omega
theorem sumI_nil : sumI [] = 0 := rfl
theorem sumI_cons (x : UInt8) (t : List UInt8) : sumI (x :: t) = (x.toNat : Int) + sumI t := by
  unfold sumI; simp only [List.foldl_cons]; rw [foldl_sum, foldl_sum t 0]; omega
theorem sumI_append (xs ys : List UInt8) : sumI (xs ++ ys) = sumI xs + sumI ys := by
  induction xs with
  | nil => simp [sumI_nil]
  | cons x t ih => rw [List.cons_append, sumI_cons, sumI_cons, ih]; omega
theorem sumI_one (x : UInt8) : sumI [x] = (x.toNat : Int) := by rw [sumI_cons, sumI_nil]; omega
theorem sumI_take (xs : List UInt8) (k : Nat) (h : k < xs.length) : sumI (xs.take (k + 1)) = sumI (xs.take k) + (xs[k].toNat : Int) := by
  rw [List.take_succ_eq_append_getElem h, sumI_append, sumI_one]
theorem sumI_bd (xs : List UInt8) : 0 ≤ sumI xs ∧ sumI xs ≤ 255 * (xs.length : Int) := by
  induction xs with
  | nil => simp [sumI_nil]
  | cons x t ih => rw [sumI_cons]; have := x.toNat_lt; simp only [List.length_cons]; omega
/-- The checksum. -/
def chkI (xs : List UInt8) : Int := (-(sumI xs)) % 256
theorem chkI_bd (xs : List UInt8) : 0 ≤ chkI xs ∧ chkI xs ≤ 255 := by unfold chkI; omega

set_option maxHeartbeats 400000 in
theorem adder_any (w : World) :
    Calls Try.prog 27 #[] w fun e w' => e = .returned (.func (.func 42) #[] #[.pointer (some ⟨w.heap.size, 0, none⟩)]) ∧ w.alloc (.cells #[.int .u8 0] 5) = w' := by
  have hmf : ∀ (fn : Fn) (first cap : Array Value) (w : World), (Instr.makeFunc fn first cap).run Try.prog w = .ok (.func fn first cap) w := fun _ _ _ _ => rfl
  go_enter Try.func27, Try.ntmps27
  go_wp2
  go_ret
  exact ⟨rfl, rfl⟩

/-- Block b holds the sum so far. -/
def SumAt (b : Nat) (w : World) (s : Int) : Prop := b < w.heap.size ∧ w.cell? ⟨b, 0, none⟩ = some (.int .u8 (s % 256)) ∧ w.frozen? ⟨b, 0, none⟩ = false
theorem SumAt.new (w : World) (t : TypeId) : SumAt w.heap.size (w.alloc (.cells #[.int .u8 0] t)) 0 := ⟨by simp, by simp [go_sem], by simp [go_sem]⟩
theorem SumAt.set {b : Nat} {w : World} {s : Int} (h : SumAt b w s) (s' : Int) : SumAt b (w.setCell ⟨b, 0, none⟩ (.int .u8 (s' % 256))) s' := by
  obtain ⟨h1, h2, h3⟩ := h
  refine ⟨by simpa [World.setCell] using h1, ?_, ?_⟩
  · simp [go_sem, h2]
  · simp [go_sem, h3]
theorem SumAt.kept {b : Nat} {P : Nat → Prop} {w w' : World} {s : Int} (h : SumAt b w s) (k : KeptP P w w') (hP : P b) : SumAt b w' s :=
  ⟨Nat.lt_of_lt_of_le h.1 k.size, (k.cell (p := ⟨b, 0, none⟩) h.1 hP).trans h.2.1, (k.frozen (p := ⟨b, 0, none⟩) h.1 hP).trans h.2.2⟩
theorem SumAt.of {b : Nat} {w : World} {s s' : Int} (h : SumAt b w s) (e : s = s') : SumAt b w s' := e ▸ h

set_option maxHeartbeats 1000000 in
/-- The closure adds bytes. -/
theorem addC_any (P : Nat → Prop) (A : Option Addr) (cap : Nat) (xs : List UInt8) (hl : xs.length ≤ maxLen) (b : Nat) (hb : ¬ P b) (s : Int) (w : World) (hx : BytesP P w A xs) (hs : SumAt b w s) :
    Calls Try.prog 42 #[.slice A xs.length cap, .pointer (some ⟨b, 0, none⟩)] w fun e w' => e = .returned (.int .u8 ((-(s + sumI xs)) % 256)) ∧ SumAt b w' (s + sumI xs) ∧ KeptP (· ≠ b) w w' := by
  unfold maxLen at hl
  have X := Lib.hid hx
  have S := Lib.hid hs
  clear hx hs
  go_enter Try.func42, Try.ntmps42
  go_wp2
  go_loopw [8] (fun i wr => ∃ k : Nat, k ≤ xs.length ∧ i = .int .i64 k ∧ SumAt b wr (s + sumI (xs.take k)) ∧ KeptP (· ≠ b) w wr) (fun i _ => xs.length - (intOf i).toNat)
  case atStart => exact ⟨0, Nat.zero_le _, rfl, S.out.of (by simp [sumI_nil]), KeptP.refl _ _⟩
  case round =>
    obtain ⟨k, hk, rfl, hS, hK⟩ := hrel
    have S1 := Lib.hid hS
    have K1 := Lib.hid hK
    clear hS hK
    by_cases hlt : k < xs.length
    · obtain ⟨g, off, hA, g0⟩ := (X.out.kept K1.out fun i _ hp e => hb (e ▸ hp)).at_ hlt
      subst hA
      obtain ⟨-, g1, g2⟩ := S1.out
      have T := Lib.hid (sumI_take xs k hlt)
      obtain ⟨x, hxk⟩ : ∃ x : Int, (xs[k].toNat : Int) = x := ⟨_, rfl⟩
      rw [hxk] at g0 T
      clear hxk
      obtain ⟨y, hy⟩ : ∃ y : Int, s + sumI (xs.take k) = y := ⟨_, rfl⟩
      rw [hy] at g1
      have Y := Lib.hid hy
      clear hy
      have hw := IntKind.wrap_u8 (y % 256 + x)
      have N := Lib.hid (S1.out.set (y + x))
      have M := Lib.hid (K1.out.setCell (p := ⟨b, 0, none⟩) (by simp) (.int .u8 ((y + x) % 256)))
      have E : Hid ((y % 256 + x) % 256 = (y + x) % 256) := by show _ = _; omega
      rw [E.out] at hw
      go_wp2
      go_roundw
      case rel => exact ⟨k + 1, by omega, by go_num, N.out.of (by rw [T.out, ← Y.out]; omega), M.out⟩
      case measure => simp [intOf]; omega
    · obtain ⟨-, g1, g2⟩ := S1.out
      have T : Hid (sumI (xs.take k) = sumI xs) := by show _ = _; rw [List.take_of_length_le (by omega)]
      rw [T.out] at g1
      have hw := IntKind.wrap_u8 (-((s + sumI xs) % 256))
      have E : Hid ((-((s + sumI xs) % 256)) % 256 = (-(s + sumI xs)) % 256) := by show _ = _; omega
      rw [E.out] at hw
      have N := Lib.hid (S1.out.of (s' := s + sumI xs) (by rw [T.out]))
      go_wp2
      go_ret
      exact ⟨rfl, N.out, K1.out⟩

set_option maxHeartbeats 400000 in
theorem sum_any (P : Nat → Prop) (A : Option Addr) (cap : Nat) (xs : List UInt8) (hl : xs.length ≤ maxLen) (w : World) (hx : BytesP P w A xs) :
    Calls Try.prog 17 #[.slice A xs.length cap] w fun e w' => e = .returned (.int .u8 (chkI xs)) ∧ Below w.heap.size w w' := by
  have X := Lib.hid (hx.mono (Q := (· < w.heap.size)) (fun i hi _ => hi))
  clear hx
  go_enter Try.func17, Try.ntmps17
  go_wp2_with fail
  refine (adder_any _).mono ?_
  rintro e w1 ⟨rfl, rfl⟩
  have hb : Below w.heap.size w (w.alloc (.cells #[.int .u8 0] 5)) := (Below.refl _ _).alloc (Nat.le_refl _) _
  have hc := addC_any (· < w.heap.size) A cap xs hl w.heap.size (by omega) 0 _ (X.out.below hb) (SumAt.new w _)
  have B := Lib.hid hb
  clear hb
  rw [Int.zero_add] at hc
  go_wp2_with fail
  refine hc.mono ?_
  rintro e w1 ⟨rfl, -, hk⟩
  have N := Lib.hid (B.out.trans (hk.below (B := w.heap.size) (by intro i hi; omega) B.out.size))
  clear hk
  go_wp2
  go_ret
  exact ⟨rfl, N.out⟩
end Go.Proofs.Ytbnehcnimbkakaa
