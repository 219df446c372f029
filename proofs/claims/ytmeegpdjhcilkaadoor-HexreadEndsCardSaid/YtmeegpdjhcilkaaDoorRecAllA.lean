/-
  RecA, RecB, RecC, RecD, RecG, RecH, RecI, RecJ: texts joined to one.
-/
import Derived.Test.YtmeegpdjhcilkaaDoorNumAll
import Derived.OwnWalk
import Derived.Laws.AppendOwn
import Derived.Laws.OwnMore
import Derived.OneCell
import Derived.StillTailTactics
import Derived.Test.YtmeegpdjhcilkaaDoorLawAll
import Derived.Laws.BytesArg
import Derived.Lib.Builder
import Derived.Lib.AppendStr
import Derived.Lib.UnsafeStr
import Derived.Laws.Externs
import Derived.RegionTactic
/-
  Frames and slices of bytes; the walks over record's adder, its closure and Sum, and over breadboardref03.Sum: for all bytes, the checksum; nothing that was there is changed.
-/
namespace Go.Proofs.YtmeegpdjhcilkaaDoor
open Go.RowKit
set_option linter.unusedVariables false

/-! ### The blocks with the property P are as they were -/
structure KeptP (P : Nat → Prop) (w w' : World) : Prop where
  os : w'.os = w.os
  tape : w'.tape = w.tape
  output : w'.output = w.output
  size : w.heap.size ≤ w'.heap.size
  block : ∀ i, i < w.heap.size → P i → w'.heap[i]? = w.heap[i]?
theorem KeptP.refl (P : Nat → Prop) (w : World) : KeptP P w w := ⟨rfl, rfl, rfl, Nat.le_refl _, fun _ _ _ => rfl⟩
theorem KeptP.trans {P : Nat → Prop} {w w1 w2 : World} (h : KeptP P w w1) (k : KeptP P w1 w2) : KeptP P w w2 :=
  ⟨k.os.trans h.os, k.tape.trans h.tape, k.output.trans h.output, Nat.le_trans h.size k.size, fun i hi hp => (k.block i (Nat.lt_of_lt_of_le hi h.size) hp).trans (h.block i hi hp)⟩
theorem KeptP.mono {P Q : Nat → Prop} {w w' : World} (h : KeptP P w w') (hQ : ∀ i, i < w.heap.size → Q i → P i) : KeptP Q w w' := ⟨h.os, h.tape, h.output, h.size, fun i hi hq => h.block i hi (hQ i hi hq)⟩
theorem KeptP.of_below {P : Nat → Prop} {B : Nat} {w w' : World} (h : Below B w w') (hP : ∀ i, i < w.heap.size → P i → i < B) : KeptP P w w' := ⟨h.os, h.tape, h.output, h.size, fun i hi hp => h.block i (hP i hi hp)⟩
theorem KeptP.of_all {P : Nat → Prop} {w w' : World} (h : Below w.heap.size w w') : KeptP P w w' := KeptP.of_below h fun i hi _ => hi
theorem KeptP.below {P : Nat → Prop} {B : Nat} {w w' : World} (h : KeptP P w w') (hB : ∀ i, i < B → P i) (hs : B ≤ w.heap.size) : Below B w w' := ⟨h.os, h.tape, h.output, h.size, fun i hi => h.block i (by omega) (hB i hi)⟩
theorem KeptP.setCell {P : Nat → Prop} {w w' : World} (h : KeptP P w w') {p : Addr} (hp : ¬ P p.block) (u : Value) : KeptP P w (w'.setCell p u) :=
  h.trans ⟨rfl, rfl, rfl, by simp [World.setCell], fun i hi hpi => Below.heap_setCell _ _ _ _ (fun e => hp (e ▸ hpi))⟩
theorem KeptP.put {P : Nat → Prop} (w : World) (p : Addr) (hp : ¬ P p.block) (u : Value) : KeptP P w (w.setCell p u) := (KeptP.refl _ _).setCell hp u
theorem KeptP.alloc {P : Nat → Prop} {w w' : World} (h : KeptP P w w') (o : Obj) : KeptP P w (w'.alloc o) :=
  h.trans ⟨rfl, rfl, rfl, by simp, fun i hi _ => Below.heap_alloc _ _ _ hi⟩
theorem KeptP.drew {P : Nat → Prop} {w w' : World} (h : KeptP P w w') : KeptP P w w'.drew := ⟨h.os, h.tape, h.output, h.size, h.block⟩
theorem KeptP.drewN {P : Nat → Prop} {w w' : World} (h : KeptP P w w') (n : Nat) : KeptP P w (w'.drewN n) := ⟨h.os, h.tape, h.output, h.size, h.block⟩
theorem KeptP.grown {P : Nat → Prop} {w w1 w2 : World} {row : Option Nat} (h : KeptP P w w1) (hg : w1.grownBy w2 row) (hr : ∀ k, row = some k → ¬ P k) : KeptP P w w2 :=
  h.trans ⟨hg.os, hg.tape, hg.output, hg.size, fun i hi hp => hg.block i hi (fun e => hr i e.symm hp)⟩
theorem KeptP.cell {P : Nat → Prop} {w w' : World} (h : KeptP P w w') {p : Addr} (hi : p.block < w.heap.size) (hp : P p.block) : w'.cell? p = w.cell? p := World.cell?_of_block (w := w) (h.block p.block hi hp)
theorem KeptP.frozen {P : Nat → Prop} {w w' : World} (h : KeptP P w w') {p : Addr} (hi : p.block < w.heap.size) (hp : P p.block) : w'.frozen? p = w.frozen? p := World.frozen?_of_block (w := w) (h.block p.block hi hp)

/-! ### Slices of bytes: their blocks have the property P -/
def BytesP (P : Nat → Prop) (w : World) (A : Option Addr) (xs : List UInt8) : Prop :=
  xs = [] ∨ ∃ b off, A = some ⟨b, off, none⟩ ∧ P b ∧ ∀ j (h : j < xs.length), w.cell? ⟨b, off + j, none⟩ = some (.int .u8 (xs[j].toNat : Int))
theorem BytesP.at_ {P : Nat → Prop} {w : World} {A : Option Addr} {xs : List UInt8} (h : BytesP P w A xs) {k : Nat} (hk : k < xs.length) : ∃ b off, A = some ⟨b, off, none⟩ ∧ w.cell? ⟨b, off + k, none⟩ = some (.int .u8 (xs[k].toNat : Int)) := by
  rcases h with rfl | ⟨b, off, rfl, _, hc⟩
  · simp at hk
  · exact ⟨b, off, rfl, hc k hk⟩
theorem BytesP.atP {P : Nat → Prop} {w : World} {A : Option Addr} {xs : List UInt8} (h : BytesP P w A xs) {k : Nat} (hk : k < xs.length) : ∃ b off, A = some ⟨b, off, none⟩ ∧ P b ∧ w.cell? ⟨b, off + k, none⟩ = some (.int .u8 (xs[k].toNat : Int)) := by
  rcases h with rfl | ⟨b, off, rfl, hp, hc⟩
  · simp at hk
  · exact ⟨b, off, rfl, hp, hc k hk⟩
theorem BytesP.mono {P Q : Nat → Prop} {w : World} {A : Option Addr} {xs : List UInt8} (h : BytesP P w A xs) (hPQ : ∀ i, i < w.heap.size → P i → Q i) : BytesP Q w A xs := by
  by_cases hx : xs = []
  · exact .inl hx
  · rcases h with rfl | ⟨b, off, rfl, hp, hc⟩
    · exact .inl rfl
    · exact .inr ⟨b, off, rfl, hPQ b (World.block_lt_of_cell? w _ (hc 0 (List.length_pos_iff.2 hx))) hp, hc⟩
theorem BytesP.blocks {P : Nat → Prop} {w w' : World} {A : Option Addr} {xs : List UInt8} (h : BytesP P w A xs) (hk : ∀ i, i < w.heap.size → P i → w'.heap[i]? = w.heap[i]?) : BytesP P w' A xs := by
  rcases h with rfl | ⟨b, off, rfl, hp, hc⟩
  · exact .inl rfl
  · refine .inr ⟨b, off, rfl, hp, fun j hj => ?_⟩
    exact (World.cell?_of_block (w := w) (hk b (World.block_lt_of_cell? w _ (hc j hj)) hp)).trans (hc j hj)
theorem BytesP.below {P : Nat → Prop} {w w' : World} {A : Option Addr} {xs : List UInt8} (h : BytesP P w A xs) (hb : Below w.heap.size w w') : BytesP P w' A xs := h.blocks fun i hi _ => hb.block i hi
theorem BytesP.kept {P Q : Nat → Prop} {w w' : World} {A : Option Addr} {xs : List UInt8} (h : BytesP P w A xs) (hb : KeptP Q w w') (hPQ : ∀ i, i < w.heap.size → P i → Q i) : BytesP P w' A xs := h.blocks fun i hi hp => hb.block i hi (hPQ i hi hp)
theorem BytesP.drewN {P : Nat → Prop} {w : World} {A : Option Addr} {xs : List UInt8} (h : BytesP P w A xs) (n : Nat) : BytesP P (w.drewN n) A xs := h.blocks fun _ _ _ => rfl
theorem BytesB.toP {w : World} {A : Option Addr} {xs : List UInt8} (h : BytesB w A xs) : BytesP (· < w.heap.size) w A xs := by
  by_cases hx : xs = []
  · exact .inl hx
  · rcases h with rfl | ⟨b, off, rfl, hc⟩
    · exact .inl rfl
    · exact .inr ⟨b, off, rfl, World.block_lt_of_cell? w _ (hc 0 (List.length_pos_iff.2 hx)), hc⟩
theorem BytesB.toNew {w0 w : World} {A : Option Addr} {xs : List UInt8} (h : BytesB w A xs) (hn : NewA w0 A) : BytesP (fun i => w0.heap.size ≤ i ∧ i < w.heap.size) w A xs := by
  rcases h.toP with h1 | ⟨b, off, rfl, hb, hc⟩
  · exact .inl h1
  · exact .inr ⟨b, off, rfl, ⟨hn _ rfl, hb⟩, hc⟩
theorem BytesP.toB {P : Nat → Prop} {w : World} {A : Option Addr} {xs : List UInt8} (h : BytesP P w A xs) : BytesB w A xs := by
  rcases h with rfl | ⟨b, off, rfl, _, hc⟩
  · exact .inl rfl
  · exact .inr ⟨b, off, rfl, hc⟩

/-! ### The sum of bytes -/
def sumI (xs : List UInt8) : Int := xs.foldl (fun n x => n + (x.toNat : Int)) 0
theorem foldl_sum (xs : List UInt8) (n : Int) : xs.foldl (fun n x => n + (x.toNat : Int)) n = n + sumI xs := by
  unfold sumI
  induction xs generalizing n with
  | nil => simp
  | cons x t ih => simp only [List.foldl_cons]; rw [ih, ih (0 + (x.toNat : Int))]; omega
theorem sumI_nil : sumI [] = 0 := rfl
theorem sumI_cons (x : UInt8) (t : List UInt8) : sumI (x :: t) = (x.toNat : Int) + sumI t := by
  unfold sumI; simp only [List.foldl_cons]; rw [foldl_sum, foldl_sum t 0]; omega
theorem sumI_append (xs ys : List UInt8) : sumI (xs ++ ys) = sumI xs + sumI ys := by
  induction xs with
  | nil => simp [sumI_nil]
  | cons x t ih => rw [List.cons_append, sumI_cons, sumI_cons, ih]; omega
theorem sumI_one (x : UInt8) : sumI [x] = (x.toNat : Int) := by rw [sumI_cons, sumI_nil]; omega
theorem sumI_take (xs : List UInt8) (k : Nat) (h : k < xs.length) : sumI (xs.take (k + 1)) = sumI (xs.take k) + (xs[k].toNat : Int) := by
  rw [List.take_succ_eq_append_getElem h, sumI_append, sumI_one]
theorem sumI_bd (xs : List UInt8) : 0 ≤ sumI xs ∧ sumI xs ≤ 255 * (xs.length : Int) := by
  induction xs with
  | nil => simp [sumI_nil]
  | cons x t ih => rw [sumI_cons]; have := x.toNat_lt; simp only [List.length_cons]; omega
/-- The checksum. -/
def chkI (xs : List UInt8) : Int := (-(sumI xs)) % 256
theorem chkI_bd (xs : List UInt8) : 0 ≤ chkI xs ∧ chkI xs ≤ 255 := by unfold chkI; omega

set_option maxHeartbeats 400000 in
theorem adder_any (w : World) :
    Calls Tryd.prog 70 #[] w fun e w' => e = .returned (.func (.func 100) #[] #[.pointer (some ⟨w.heap.size, 0, none⟩)]) ∧ w.alloc (.cells #[.int .u8 0] 5) = w' := by
  have hmf : ∀ (fn : Fn) (first cap : Array Value) (w : World), (Instr.makeFunc fn first cap).run Tryd.prog w = .ok (.func fn first cap) w := fun _ _ _ _ => rfl
  go_enter Tryd.func70, Tryd.ntmps70
  go_wp2
  go_ret
  exact ⟨rfl, rfl⟩

/-- Block b holds the sum so far. -/
def SumAt (b : Nat) (w : World) (s : Int) : Prop := b < w.heap.size ∧ w.cell? ⟨b, 0, none⟩ = some (.int .u8 (s % 256)) ∧ w.frozen? ⟨b, 0, none⟩ = false
theorem SumAt.new (w : World) (t : TypeId) : SumAt w.heap.size (w.alloc (.cells #[.int .u8 0] t)) 0 := ⟨by simp, by simp [go_sem], by simp [go_sem]⟩
theorem SumAt.set {b : Nat} {w : World} {s : Int} (h : SumAt b w s) (s' : Int) : SumAt b (w.setCell ⟨b, 0, none⟩ (.int .u8 (s' % 256))) s' := by
  obtain ⟨h1, h2, h3⟩ := h
  refine ⟨by simpa [World.setCell] using h1, ?_, ?_⟩
  · simp [go_sem, h2]
  · simp [go_sem, h3]
theorem SumAt.kept {b : Nat} {P : Nat → Prop} {w w' : World} {s : Int} (h : SumAt b w s) (k : KeptP P w w') (hP : P b) : SumAt b w' s :=
  ⟨Nat.lt_of_lt_of_le h.1 k.size, (k.cell (p := ⟨b, 0, none⟩) h.1 hP).trans h.2.1, (k.frozen (p := ⟨b, 0, none⟩) h.1 hP).trans h.2.2⟩
theorem SumAt.of {b : Nat} {w : World} {s s' : Int} (h : SumAt b w s) (e : s = s') : SumAt b w s' := e ▸ h

set_option maxHeartbeats 1000000 in
/-- The closure adds bytes. -/
theorem addC_any (P : Nat → Prop) (A : Option Addr) (cap : Nat) (xs : List UInt8) (hl : xs.length ≤ maxLen) (b : Nat) (hb : ¬ P b) (s : Int) (w : World) (hx : BytesP P w A xs) (hs : SumAt b w s) :
    Calls Tryd.prog 100 #[.slice A xs.length cap, .pointer (some ⟨b, 0, none⟩)] w fun e w' => e = .returned (.int .u8 ((-(s + sumI xs)) % 256)) ∧ SumAt b w' (s + sumI xs) ∧ KeptP (· ≠ b) w w' := by
  unfold maxLen at hl
  have X := Lib.hid hx
  have S := Lib.hid hs
  clear hx hs
  go_enter Tryd.func100, Tryd.ntmps100
  go_wp2
  go_loopw [8] (fun i wr => ∃ k : Nat, k ≤ xs.length ∧ i = .int .i64 k ∧ SumAt b wr (s + sumI (xs.take k)) ∧ KeptP (· ≠ b) w wr) (fun i _ => xs.length - (intOf i).toNat)
  case atStart => exact ⟨0, Nat.zero_le _, rfl, S.out.of (by simp [sumI_nil]), KeptP.refl _ _⟩
  case round =>
    obtain ⟨k, hk, rfl, hS, hK⟩ := hrel
    have S1 := Lib.hid hS
    have K1 := Lib.hid hK
    clear hS hK
    by_cases hlt : k < xs.length
    · obtain ⟨g, off, hA, g0⟩ := (X.out.kept K1.out fun i _ hp e => hb (e ▸ hp)).at_ hlt
      subst hA
      obtain ⟨-, g1, g2⟩ := S1.out
      have T := Lib.hid (sumI_take xs k hlt)
      obtain ⟨x, hxk⟩ : ∃ x : Int, (xs[k].toNat : Int) = x := ⟨_, rfl⟩
      rw [hxk] at g0 T
      clear hxk
      obtain ⟨y, hy⟩ : ∃ y : Int, s + sumI (xs.take k) = y := ⟨_, rfl⟩
      rw [hy] at g1
      have Y := Lib.hid hy
      clear hy
      have hw := IntKind.wrap_u8 (y % 256 + x)
      have N := Lib.hid (S1.out.set (y + x))
      have M := Lib.hid (K1.out.setCell (p := ⟨b, 0, none⟩) (by simp) (.int .u8 ((y + x) % 256)))
      have E : Hid ((y % 256 + x) % 256 = (y + x) % 256) := by show _ = _; omega
      rw [E.out] at hw
      go_wp2
      go_roundw
      case rel => exact ⟨k + 1, by omega, by go_num, N.out.of (by rw [T.out, ← Y.out]; omega), M.out⟩
      case measure => simp [intOf]; omega
    · obtain ⟨-, g1, g2⟩ := S1.out
      have T : Hid (sumI (xs.take k) = sumI xs) := by show _ = _; rw [List.take_of_length_le (by omega)]
      rw [T.out] at g1
      have hw := IntKind.wrap_u8 (-((s + sumI xs) % 256))
      have E : Hid ((-((s + sumI xs) % 256)) % 256 = (-(s + sumI xs)) % 256) := by show _ = _; omega
      rw [E.out] at hw
      have N := Lib.hid (S1.out.of (s' := s + sumI xs) (by rw [T.out]))
      go_wp2
      go_ret
      exact ⟨rfl, N.out, K1.out⟩

set_option maxHeartbeats 400000 in
theorem sum_any (P : Nat → Prop) (A : Option Addr) (cap : Nat) (xs : List UInt8) (hl : xs.length ≤ maxLen) (w : World) (hx : BytesP P w A xs) :
    Calls Tryd.prog 97 #[.slice A xs.length cap] w fun e w' => e = .returned (.int .u8 (chkI xs)) ∧ Below w.heap.size w w' := by
  have X := Lib.hid (hx.mono (Q := (· < w.heap.size)) (fun i hi _ => hi))
  clear hx
  go_enter Tryd.func97, Tryd.ntmps97
  go_wp2_with fail
  refine (adder_any _).mono ?_
  rintro e w1 ⟨rfl, rfl⟩
  have hb : Below w.heap.size w (w.alloc (.cells #[.int .u8 0] 5)) := (Below.refl _ _).alloc (Nat.le_refl _) _
  have hc := addC_any (· < w.heap.size) A cap xs hl w.heap.size (by omega) 0 _ (X.out.below hb) (SumAt.new w _)
  have B := Lib.hid hb
  clear hb
  rw [Int.zero_add] at hc
  go_wp2_with fail
  refine hc.mono ?_
  rintro e w1 ⟨rfl, -, hk⟩
  have N := Lib.hid (B.out.trans (hk.below (B := w.heap.size) (by intro i hi; omega) B.out.size))
  clear hk
  go_wp2
  go_ret
  exact ⟨rfl, N.out⟩
end Go.Proofs.YtmeegpdjhcilkaaDoor
/-
  Slices of slices of bytes; the walks over breadboardref03.Sum, (*record.cursor).take and number.
-/
namespace Go.Proofs.YtmeegpdjhcilkaaDoor
open Go.RowKit
set_option linter.unusedVariables false

/-! ### Slicing -/
/-- Where a slice of a slice lies: from l on, its capacity ends at m. -/
def subA (A : Option Addr) (l m : Nat) : Option Addr := if m = l then A else A.map (·.add (l * 1))
theorem subA_zero (A : Option Addr) (m : Nat) : subA A 0 m = A := by
  unfold subA
  split
  · rfl
  · cases A <;> simp [Addr.add]
theorem elem_B : Tryd.prog.elem 59 = 5 := by unfold Program.elem; rw [Tryd.underlying59]
theorem und_B : Tryd.prog.underlying 59 = some (.slice (Tryd.prog.elem 59)) := by rw [elem_B]; exact Tryd.underlying59
theorem slB_h (A : Option Addr) (len cap n : Nat) (hn : n ≤ cap) (w : World) :
    (Instr.slice 59 (.slice A len cap) none (some (.int .i64 (n : Int))) none).run Tryd.prog w = .ok (.slice A n cap) w := by
  rw [run_slice_h w 59 A len cap und_B .i64 (n : Int) (by omega) (by omega), elem_B, Tryd.sizeOf5]
  simp only [Result.andThen_ok, sliced]
  have e := subA_zero A cap
  unfold subA at e
  rw [e, show ((n : Int)).toNat - 0 = n by omega, Nat.sub_zero]
theorem slB_l (A : Option Addr) (len cap n : Nat) (hn : n ≤ len) (w : World) :
    (Instr.slice 59 (.slice A len cap) (some (.int .i64 (n : Int))) none none).run Tryd.prog w = .ok (.slice (subA A n cap) (len - n) (cap - n)) w := by
  rw [run_slice_l w 59 A len cap und_B .i64 (n : Int) (by omega) (by omega), elem_B, Tryd.sizeOf5]
  simp only [Result.andThen_ok, sliced]
  rw [show ((n : Int)).toNat = n by omega]
  rfl
theorem slB_lh (A : Option Addr) (len cap l h : Nat) (hl : l ≤ h) (hh : h ≤ cap) (w : World) :
    (Instr.slice 59 (.slice A len cap) (some (.int .i64 (l : Int))) (some (.int .i64 (h : Int))) none).run Tryd.prog w = .ok (.slice (subA A l cap) (h - l) (cap - l)) w := by
  rw [run_slice_lh w 59 A len cap und_B .i64 .i64 (l : Int) (h : Int) (by omega) (by omega) (by omega), elem_B, Tryd.sizeOf5]
  simp only [Result.andThen_ok, sliced]
  rw [show ((l : Int)).toNat = l by omega, show ((h : Int)).toNat = h by omega]
  rfl
theorem slB_lhm (A : Option Addr) (len cap l h m : Nat) (hl : l ≤ h) (hh : h ≤ m) (hm : m ≤ cap) (w : World) :
    (Instr.slice 59 (.slice A len cap) (some (.int .i64 (l : Int))) (some (.int .i64 (h : Int))) (some (.int .i64 (m : Int)))).run Tryd.prog w = .ok (.slice (subA A l m) (h - l) (m - l)) w := by
  rw [run_slice_lhm w 59 A len cap und_B .i64 .i64 .i64 (l : Int) (h : Int) (m : Int) (by omega) (by omega) (by omega) (by omega), elem_B, Tryd.sizeOf5]
  simp only [Result.andThen_ok, sliced]
  rw [show ((l : Int)).toNat = l by omega, show ((h : Int)).toNat = h by omega, show ((m : Int)).toNat = m by omega]
  rfl
theorem BytesP.take {P : Nat → Prop} {w : World} {A : Option Addr} {xs : List UInt8} (h : BytesP P w A xs) (n : Nat) : BytesP P w A (xs.take n) := by
  rcases h with rfl | ⟨b, off, rfl, hp, hc⟩
  · left; simp
  · refine .inr ⟨b, off, rfl, hp, fun j hj => ?_⟩
    have hj' : j < xs.length := by simp at hj; omega
    rw [List.getElem_take]
    exact hc j hj'
theorem BytesP.sub {P : Nat → Prop} {w : World} {A : Option Addr} {xs : List UInt8} (h : BytesP P w A xs) (l m : Nat) (hm : xs.length ≤ m) : BytesP P w (subA A l m) (xs.drop l) := by
  by_cases h0 : xs.length ≤ l
  · left; exact List.drop_eq_nil_of_le h0
  · rcases h with rfl | ⟨b, off, rfl, hp, hc⟩
    · simp at h0
    · right
      unfold subA
      rw [if_neg (by omega)]
      refine ⟨b, off + l, ?_, hp, fun j hj => ?_⟩
      · simp only [Option.map_some, Option.some.injEq]
        unfold Addr.add
        split
        · rename_i h; have : l = 0 := by omega
          subst this; rfl
        · simp
      · have hj' : l + j < xs.length := by simp at hj; omega
        have h := hc (l + j) hj'
        rw [show off + l + j = off + (l + j) by omega, List.getElem_drop]
        exact h

/-! ### The reference's Sum -/
theorem take_sum_mod (xs : List UInt8) (k : Nat) (h : k < xs.length) : (sumI (xs.take k) % 256 + (xs[k].toNat : Int)) % 256 = sumI (xs.take (k + 1)) % 256 := by
  rw [sumI_take xs k h]; omega
set_option maxHeartbeats 400000 in
theorem rsum_any (P : Nat → Prop) (A : Option Addr) (cap : Nat) (xs : List UInt8) (hl : xs.length ≤ maxLen) (w : World) (hx : BytesP P w A xs) :
    Calls Tryd.prog 104 #[.slice A xs.length cap] w fun e w' => e = .returned (.int .u8 (chkI xs)) ∧ w = w' := by
  unfold maxLen at hl
  have X := Lib.hid hx
  clear hx
  go_enter Tryd.func104, Tryd.ntmps104
  go_wp2
  go_loop [3, 4] (fun n i => ∃ (k : Nat) (y : Int), k ≤ xs.length ∧ i = .int .i64 k ∧ n = .int .i64 y ∧ 0 ≤ y ∧ y < 256 ∧ Hid (y = sumI (xs.take k) % 256)) (fun _ i => xs.length - (intOf i).toNat)
  case atStart => exact ⟨0, 0, Nat.zero_le _, rfl, rfl, by omega, by omega, rfl⟩
  case round =>
    obtain ⟨k, y, hk, rfl, rfl, y0, y1, Y⟩ := hrel
    by_cases hlt : k < xs.length
    · obtain ⟨g, off, hA, g0⟩ := X.out.at_ hlt
      subst hA
      have T := Lib.hid (take_sum_mod xs k hlt)
      obtain ⟨x, hxk⟩ : ∃ x : Int, (xs[k].toNat : Int) = x := ⟨_, rfl⟩
      have x0 : 0 ≤ x := by omega
      have x1 : x < 256 := by have := xs[k].toNat_lt; omega
      rw [hxk] at g0 T
      clear hxk
      have hlt' : (k : Int) < (xs.length : Int) := by omega
      go_wp2
      go_round
      case rel => exact ⟨k + 1, _, by omega, by go_num, rfl, by omega, by omega, by show _ = _; rw [← T.out, ← Y.out]⟩
      case measure => simp [intOf]; omega
    · have hlt' : decide ((k : Int) < (xs.length : Int)) = false := decide_eq_false (by omega)
      have E : Hid ((256 - y) % 256 = chkI xs) := by
        show _ = _
        have h := Y.out
        rw [List.take_of_length_le (by omega)] at h
        unfold chkI; omega
      have hw := IntKind.wrap_u8 ((256 - y) % 256)
      have e2 : (256 - y) % 256 % 256 = (256 - y) % 256 := by omega
      rw [e2] at hw
      clear e2
      go_wp2
      go_ret
      exact ⟨ret_int (by have := E.out; omega), rfl⟩

/-! ### The cursor -/
/-- The cell at ⟨b, 0⟩ holds a slice that may be written. -/
def CurAt (b : Nat) (w : World) (A : Option Addr) (len cap : Nat) : Prop := b < w.heap.size ∧ w.cell? ⟨b, 0, none⟩ = some (.slice A len cap) ∧ w.frozen? ⟨b, 0, none⟩ = false
theorem CurAt.set {b : Nat} {w : World} {A : Option Addr} {len cap : Nat} (h : CurAt b w A len cap) (A' : Option Addr) (len' cap' : Nat) : CurAt b (w.setCell ⟨b, 0, none⟩ (.slice A' len' cap')) A' len' cap' := by
  obtain ⟨h1, h2, h3⟩ := h
  refine ⟨by simpa [World.setCell] using h1, ?_, ?_⟩
  · simp [go_sem, h2]
  · simp [go_sem, h3]
set_option maxHeartbeats 400000 in
theorem take_any (b : Nat) (A : Option Addr) (len cap n : Nat) (hn : n ≤ len) (hc : len ≤ cap) (w : World) (h : CurAt b w A len cap) :
    Calls Tryd.prog 118 #[.pointer (some ⟨b, 0, none⟩), .int .i64 n] w fun e w' => e = .returned (.slice A n cap) ∧ w.setCell ⟨b, 0, none⟩ (.slice (subA A n cap) (len - n) (cap - n)) = w' := by
  obtain ⟨-, g1, g2⟩ := h
  have h1 := fun w => slB_h A len cap n (by omega) w
  have h2 := fun w => slB_l A len cap n hn w
  clear hn hc
  go_enter Tryd.func118, Tryd.ntmps118
  go_wp2
  go_ret
  exact ⟨rfl, rfl⟩

/-- The number whose bytes, the high one first, are xs. -/
def numI (xs : List UInt8) : Int := xs.foldl (fun v x => v * 256 + (x.toNat : Int)) 0
theorem numI_snoc (xs : List UInt8) (x : UInt8) : numI (xs ++ [x]) = numI xs * 256 + (x.toNat : Int) := by unfold numI; rw [List.foldl_append]; rfl
theorem numI_take (xs : List UInt8) (k : Nat) (h : k < xs.length) : numI (xs.take (k + 1)) = numI (xs.take k) * 256 + (xs[k].toNat : Int) := by
  rw [List.take_succ_eq_append_getElem h, numI_snoc]
theorem numI_small (xs : List UInt8) (h : xs.length ≤ 1) : 0 ≤ numI xs ∧ numI xs < 256 := by
  match xs, h with
  | [], _ => decide
  | [x], _ => have := x.toNat_lt; unfold numI; simp only [List.foldl_cons, List.foldl_nil]; omega
theorem or256 (v x : Int) (h0 : 0 ≤ v) (h1 : v < 65536) (x0 : 0 ≤ x) (x1 : x < 256) : bits .or .i64 (v * 256) x = v * 256 + x := by
  obtain ⟨a, rfl⟩ : ∃ a : Nat, v = a := ⟨v.toNat, by omega⟩
  obtain ⟨c, rfl⟩ : ∃ c : Nat, x = c := ⟨x.toNat, by omega⟩
  show IntKind.i64.wrap ((BitVec.ofInt 64 ((a : Int) * 256) ||| BitVec.ofInt 64 (c : Int)).toNat : Int) = _
  rw [BitVec.toNat_or, BitVec.toNat_ofInt, BitVec.toNat_ofInt]
  have e1 : (((a : Int) * 256) % ((2 ^ 64 : Nat) : Int)).toNat = a * 2 ^ 8 := by omega
  have e2 : ((c : Int) % ((2 ^ 64 : Nat) : Int)).toNat = c := by omega
  rw [e1, e2, Nat.mul_comm, ← Nat.two_pow_add_eq_or_of_lt (show c < 2 ^ 8 by omega), IntKind.wrap_i64]
  omega
set_option maxHeartbeats 1000000 in
theorem number_any (P : Nat → Prop) (b : Nat) (hb : ¬ P b) (A : Option Addr) (xs : List UInt8) (cap n : Nat) (hn : n ≤ xs.length) (hn2 : n ≤ 2) (hc : xs.length ≤ cap) (w : World) (hX : BytesP P w A xs) (h : CurAt b w A xs.length cap) :
    Calls Tryd.prog 117 #[.pointer (some ⟨b, 0, none⟩), .int .i64 n] w fun e w' => e = .returned (.int .i64 (numI (xs.take n))) ∧ w.setCell ⟨b, 0, none⟩ (.slice (subA A n cap) (xs.length - n) (cap - n)) = w' := by
  have ht := take_any b A xs.length cap n hn hc w h
  obtain ⟨w1, hw1⟩ : ∃ w1, w.setCell ⟨b, 0, none⟩ (.slice (subA A n cap) (xs.length - n) (cap - n)) = w1 := ⟨_, rfl⟩
  have X : Hid (BytesP P w1 A (xs.take n)) := by
    show BytesP _ _ _ _
    rw [← hw1]
    exact (hX.kept (Q := (· ≠ b)) ((KeptP.refl _ _).setCell (by simp) _) fun i _ hp e => hb (e ▸ hp)).take n
  rw [hw1] at ht ⊢
  have hlen : (xs.take n).length = n := by simp; omega
  obtain ⟨ys, hys⟩ : ∃ ys, xs.take n = ys := ⟨_, rfl⟩
  rw [hys] at X hlen ⊢
  have L := Lib.hid hlen
  clear hw1 hX h hn hc hys hlen
  go_enter Tryd.func117, Tryd.ntmps117
  go_wp2_with fail
  refine ht.mono ?_
  rintro e w' ⟨rfl, rfl⟩
  clear ht
  go_wp2
  go_loop [5, 12] (fun v i => ∃ (k : Nat) (y : Int), k ≤ n ∧ i = .int .i64 k ∧ v = .int .i64 y ∧ 0 ≤ y ∧ y < 65536 ∧ Hid (y = numI (ys.take k))) (fun _ i => n - (intOf i).toNat)
  case atStart => exact ⟨0, 0, Nat.zero_le _, rfl, rfl, by omega, by omega, rfl⟩
  case round =>
    obtain ⟨k, y, hk, rfl, rfl, y0, y1, Y⟩ := hrel
    by_cases hlt : k < n
    · have hly : k < ys.length := by rw [L.out]; exact hlt
      obtain ⟨g, off, hA, g0⟩ := X.out.at_ hly
      subst hA
      have T := Lib.hid (numI_take ys k hly)
      have B := numI_small (ys.take k) (by simp; omega)
      rw [← Y.out] at B
      obtain ⟨x, hxk⟩ : ∃ x : Int, (ys[k].toNat : Int) = x := ⟨_, rfl⟩
      have x0 : 0 ≤ x := by omega
      have x1 : x < 256 := by have := ys[k].toNat_lt; omega
      rw [hxk] at g0 T
      have hor := or256 y x B.1 (by omega) x0 x1
      clear hxk
      obtain ⟨b0, b1⟩ := B
      go_wp2
      go_round
      case rel => exact ⟨k + 1, _, by omega, by go_num, rfl, by omega, by omega, by show _ = _; rw [T.out, ← Y.out]⟩
      case measure => simp [intOf]; omega
    · have E : Hid (y = numI ys) := by
        show _ = _
        have h := Y.out
        rwa [List.take_of_length_le (by have := L.out; omega)] at h
      go_wp2
      go_ret
      exact ⟨ret_int E.out, rfl⟩
end Go.Proofs.YtmeegpdjhcilkaaDoor
/-
  The walks over record.partsOf and (*record.parts).record: for every line, its parts.
-/
namespace Go.Proofs.YtmeegpdjhcilkaaDoor
open Go.RowKit
set_option linter.unusedVariables false

/-- Block b holds the parts of a line: the bytes that are still to be read, and the number of data bytes. -/
def PartsAt (b : Nat) (w : World) (A : Option Addr) (len cap : Nat) (size : Int) : Prop :=
  CurAt b w A len cap ∧ w.cell? ⟨b, 1, none⟩ = some (.int .i64 size)
def linPre (s : ByteArray) : Bool := preB s ⟨#[58]⟩
def linCut (s : ByteArray) : ByteArray := cutPre s ⟨#[58]⟩
/-- Does a line have the form of a record: its colon and five bytes at least? -/
def linOk (s : ByteArray) : Bool := linPre s && (bytesOk (linCut s) && decide (5 ≤ (bytesL (linCut s)).length))
theorem lin_no1 {s : ByteArray} (h : linPre s = false) : linOk s = false := by unfold linOk; rw [h]; rfl
theorem lin_no2 {s : ByteArray} (h : bytesOk (linCut s) = false) : linOk s = false := by unfold linOk; rw [h]; simp
theorem lin_no3 {s : ByteArray} (h : ¬ 5 ≤ (bytesL (linCut s)).length) : linOk s = false := by unfold linOk; simp [h]
theorem lin_yes {s : ByteArray} (h1 : linPre s = true) (h2 : bytesOk (linCut s) = true) (h3 : 5 ≤ (bytesL (linCut s)).length) : linOk s = true := by unfold linOk; simp [h1, h2, h3]
theorem cutPre_le (u p : ByteArray) : (cutPre u p).size ≤ u.size := by
  unfold cutPre
  split
  · exact extract_le _ _ _
  · exact Nat.le_refl _

/-- What partsOf returns. -/
def RetParts (w : World) (s : ByteArray) (e : Ending) (w' : World) : Prop :=
  (linOk s = false ∧ e = .returned (.tuple #[.pointer none, .slice none 0 0, .bool false]) ∧ Below w.heap.size w w') ∨
  (linOk s = true ∧ ∃ A cap b, e = .returned (.tuple #[.pointer (some ⟨b, 0, none⟩), .slice A (bytesL (linCut s)).length cap, .bool true]) ∧ (bytesL (linCut s)).length ≤ cap ∧
    PartsAt b w' (subA A 1 cap) ((bytesL (linCut s)).length - 1) (cap - 1) (numI ((bytesL (linCut s)).take 1)) ∧ BytesP (fun i => w.heap.size ≤ i ∧ i < b) w' A (bytesL (linCut s)) ∧ w.heap.size ≤ b ∧ Below w.heap.size w w')
theorem linPre_any (s : ByteArray) (hs : s.size ≤ maxLen) (w : World) :
    Calls Tryd.prog 115 #[.string s, .string ⟨#[58]⟩] w fun e w' => e = .returned (.tuple #[.string (linCut s), .bool (linPre s)]) ∧ w = w' := cutPrefix_any s ⟨#[58]⟩ hs (by decide) w
set_option maxHeartbeats 1000000 in
theorem partsOf_any (s : ByteArray) (hs : s.size ≤ 140737488355328) (w : World) :
    Calls Tryd.prog 96 #[.string s] w (RetParts w s) := by
  have hp := linPre_any s (by unfold maxLen; omega) w
  have hcs := cutPre_le s ⟨#[58]⟩
  have hb := fun w => bytesC_any (linCut s) (Nat.le_trans hcs (Nat.le_trans hs (by decide))) w
  cases h1 : linPre s
  · rw [h1] at hp
    have N := Lib.hid (lin_no1 h1)
    clear h1 hcs hs hb
    go_enter Tryd.func96, Tryd.ntmps96
    go_wp2_with fail
    refine hp.mono ?_
    rintro e w1 ⟨rfl, rfl⟩
    go_wp2
    go_ret3
    exact .inl ⟨N.out, rfl, Below.refl _ _⟩
  · rw [h1] at hp
    cases h2 : bytesOk (linCut s)
    · rw [h2] at hb
      have N := Lib.hid (lin_no2 h2)
      clear h1 h2 hcs hs
      go_enter Tryd.func96, Tryd.ntmps96
      go_wp2_with fail
      refine hp.mono ?_
      rintro e w1 ⟨rfl, rfl⟩
      go_wp2_with fail
      refine (hb _).mono ?_
      rintro e w1 ⟨A, cap, rfl, -, -, -, hbel⟩
      have B := Lib.hid hbel
      clear hbel hb hp
      go_wp2
      go_ret3
      exact .inl ⟨N.out, rfl, B.out⟩
    · rw [h2] at hb
      have C : Hid (∀ P Q : Prop, (linOk s = false ∧ P) ∨ (linOk s = true ∧ Q) ↔ (linOk s = false ∧ P) ∨ (linOk s = true ∧ Q)) := fun _ _ => Iff.rfl
      clear C
      obtain ⟨bs, hbs⟩ : ∃ bs, bytesL (linCut s) = bs := ⟨_, rfl⟩
      have HB := Lib.hid hbs
      rw [hbs] at hb
      have hlen : bs.length ≤ 140737488355328 := by
        rw [← hbs]
        have h3 : (linCut s).size ≤ s.size := hcs
        unfold bytesL
        rw [h2]
        simp only [if_true, List.length_map, List.length_range]
        omega
      by_cases h3 : 5 ≤ bs.length
      · have N := Lib.hid (lin_yes h1 h2 (by rw [hbs]; exact h3))
        have h3' : decide ((bs.length : Int) < 5) = false := decide_eq_false (by omega)
        clear h1 h2 hcs hs hbs
        go_enter Tryd.func96, Tryd.ntmps96
        go_wp2_with fail
        refine hp.mono ?_
        rintro e w1 ⟨rfl, rfl⟩
        go_wp2_with fail
        refine (hb _).mono ?_
        rintro e w1 ⟨A, cap, rfl, hX0, hcap, hnew, hbel⟩
        have hX := hX0.toNew hnew
        obtain ⟨ob, hob⟩ : ∃ o, Obj.cells #[.slice A bs.length cap, .int .i64 0] 162 = o := ⟨_, rfl⟩
        have hal : Below w1.heap.size w1 (w1.alloc ob) := (Below.refl _ _).alloc (Nat.le_refl _) ob
        have hcur : CurAt w1.heap.size (w1.alloc ob) A bs.length cap := by subst hob; exact ⟨by simp, by simp [go_sem], by simp [go_sem]⟩
        have hsz : (w1.alloc ob).cell? ⟨w1.heap.size, 1, none⟩ = some (.int .i64 0) ∧ (w1.alloc ob).frozen? ⟨w1.heap.size, 1, none⟩ = false := by subst hob; exact ⟨by simp [go_sem], by simp [go_sem]⟩
        have hn := number_any (fun i => w.heap.size ≤ i ∧ i < w1.heap.size) w1.heap.size (by omega) A bs cap 1 (by omega) (by omega) hcap (w1.alloc ob) (hX.below hal) hcur
        have hcur2 := hcur.set (subA A 1 cap) (bs.length - 1) (cap - 1)
        have hX2 : BytesP (fun i => w.heap.size ≤ i ∧ i < w1.heap.size) ((w1.alloc ob).setCell ⟨w1.heap.size, 0, none⟩ (.slice (subA A 1 cap) (bs.length - 1) (cap - 1))) A bs :=
          (hX.below hal).kept (Q := (· < w1.heap.size)) ((KeptP.refl _ _).setCell (by simp) _) fun i _ hp => hp.2
        have hB2 : Below w.heap.size w ((w1.alloc ob).setCell ⟨w1.heap.size, 0, none⟩ (.slice (subA A 1 cap) (bs.length - 1) (cap - 1))) := (hbel.alloc hbel.size ob).setCell (by simpa using hbel.size) _
        have hbs0 := hbel.size
        have hd1 : ((w1.alloc ob).setCell ⟨w1.heap.size, 0, none⟩ (.slice (subA A 1 cap) (bs.length - 1) (cap - 1))).cell? ⟨w1.heap.size, 1, none⟩ = some (.int .i64 0) := by
          rw [World.cell?_setCell_other _ _ _ _ (by simp)]; exact hsz.1
        have hd2 : ((w1.alloc ob).setCell ⟨w1.heap.size, 0, none⟩ (.slice (subA A 1 cap) (bs.length - 1) (cap - 1))).frozen? ⟨w1.heap.size, 1, none⟩ = false := by
          simp only [World.frozen?_setCell]; exact hsz.2
        obtain ⟨w2, hw2⟩ : ∃ w2, (w1.alloc ob).setCell ⟨w1.heap.size, 0, none⟩ (.slice (subA A 1 cap) (bs.length - 1) (cap - 1)) = w2 := ⟨_, rfl⟩
        obtain ⟨vb, hvb⟩ : ∃ vb, w1.heap.size = vb := ⟨_, rfl⟩
        rw [hw2] at hn hcur2 hX2 hB2 hd1 hd2
        rw [hvb] at hn hcur2 hX2 hd1 hd2 hbs0
        obtain ⟨q, hq⟩ : ∃ q, numI (bs.take 1) = q := ⟨_, rfl⟩
        rw [hq] at hn
        have Q := Lib.hid hq
        have hcur3 : PartsAt vb (w2.setCell ⟨vb, 1, none⟩ (.int .i64 q)) (subA A 1 cap) (bs.length - 1) (cap - 1) q := by
          obtain ⟨k1, k2, k3⟩ := hcur2
          refine ⟨⟨by simpa [World.setCell] using k1, ?_, ?_⟩, ?_⟩
          · rw [World.cell?_setCell_other _ _ _ _ (by simp)]; exact k2
          · simp only [World.frozen?_setCell]; exact k3
          · simp [go_sem, hd1]
        have hX3 : BytesP (fun i => w.heap.size ≤ i ∧ i < vb) (w2.setCell ⟨vb, 1, none⟩ (.int .i64 q)) A bs := hX2.kept (Q := (· < vb)) ((KeptP.refl _ _).setCell (by simp) _) fun i _ hp => hp.2
        have hB3 : Below w.heap.size w (w2.setCell ⟨vb, 1, none⟩ (.int .i64 q)) := hB2.setCell hbs0 _
        have C3 := Lib.hid hcur3
        have X3 := Lib.hid hX3
        have B3 := Lib.hid hB3
        have HC := Lib.hid hcap
        have S0 := Lib.hid hbs0
        clear hal hcur hsz hcur2 hX2 hB2 hX hX0 hnew hbel hcap hcur3 hX3 hB3 hq hb hp hbs0
        go_wp2_with fail
        refine hn.mono ?_
        rintro e w' ⟨rfl, rfl⟩
        go_wp2
        go_ret3
        refine .inr ⟨N.out, ?_⟩
        rw [HB.out]
        exact ⟨A, cap, vb, rfl, HC.out, by rw [Q.out]; exact C3.out, X3.out, S0.out, B3.out⟩
      · have N := Lib.hid (lin_no3 (s := s) (by rw [hbs]; exact h3))
        have h3' : (bs.length : Int) < 5 := by omega
        clear h1 h2 hcs hs hbs
        go_enter Tryd.func96, Tryd.ntmps96
        go_wp2_with fail
        refine hp.mono ?_
        rintro e w1 ⟨rfl, rfl⟩
        go_wp2_with fail
        refine (hb _).mono ?_
        rintro e w1 ⟨A, cap, rfl, -, -, -, hbel⟩
        have B := Lib.hid hbel
        clear hbel hb hp
        go_wp2
        go_ret3
        exact .inl ⟨N.out, rfl, B.out⟩
end Go.Proofs.YtmeegpdjhcilkaaDoor
/-
  The walks over (*record.parts).record and record.Parse: for every line, the record and the code.
-/
namespace Go.Proofs.YtmeegpdjhcilkaaDoor
open Go.RowKit
set_option linter.unusedVariables false

def recA (bs : List UInt8) : Int := numI ((bs.drop 1).take 2)
def recT (bs : List UInt8) : Int := numI ((bs.drop 3).take 1)
def recD (bs : List UInt8) (m : Nat) : List UInt8 := (bs.drop 4).take m
/-- Three cells of a new block, and of that block after stores. -/
theorem three_cells (w : World) (n : Nat) (hn : w.heap.size = n) (x y z : Value) (t : TypeId) : (w.alloc (.cells #[x, y, z] t)).cell? ⟨n, 0, none⟩ = some x ∧ (w.alloc (.cells #[x, y, z] t)).cell? ⟨n, 1, none⟩ = some y ∧ (w.alloc (.cells #[x, y, z] t)).cell? ⟨n, 2, none⟩ = some z := by
  subst hn
  exact ⟨by simp [go_sem], by simp [go_sem], by simp [go_sem]⟩

/-- Block n has three cells that may be written. -/
def Tri (n : Nat) (w : World) (x y z : Value) : Prop := n < w.heap.size ∧ w.cell? ⟨n, 0, none⟩ = some x ∧ w.cell? ⟨n, 1, none⟩ = some y ∧ w.cell? ⟨n, 2, none⟩ = some z ∧ ∀ i, w.frozen? ⟨n, i, none⟩ = false
theorem Tri.new (w : World) (n : Nat) (hn : w.heap.size = n) (x y z : Value) (t : TypeId) : Tri n (w.alloc (.cells #[x, y, z] t)) x y z := by
  obtain ⟨h0, h1, h2⟩ := three_cells w n hn x y z t
  subst hn
  exact ⟨by simp, h0, h1, h2, fun i => by simp [go_sem]⟩
theorem Tri.kept {n : Nat} {P : Nat → Prop} {w w' : World} {x y z : Value} (h : Tri n w x y z) (k : KeptP P w w') (hP : P n) : Tri n w' x y z := by
  obtain ⟨h, h0, h1, h2, hf⟩ := h
  exact ⟨Nat.lt_of_lt_of_le h k.size, (k.cell (p := ⟨n, 0, none⟩) h hP).trans h0, (k.cell (p := ⟨n, 1, none⟩) h hP).trans h1, (k.cell (p := ⟨n, 2, none⟩) h hP).trans h2, fun i => (k.frozen (p := ⟨n, i, none⟩) h hP).trans (hf i)⟩
theorem Tri.set0 {n : Nat} {w : World} {x y z : Value} (h : Tri n w x y z) (u : Value) : Tri n (w.setCell ⟨n, 0, none⟩ u) u y z := by
  obtain ⟨h, h0, h1, h2, hf⟩ := h
  exact ⟨by simpa [World.setCell] using h, by simp [go_sem, h0], by rw [World.cell?_setCell_other _ _ _ _ (by simp)]; exact h1, by rw [World.cell?_setCell_other _ _ _ _ (by simp)]; exact h2, fun i => by simp only [World.frozen?_setCell]; exact hf i⟩
theorem Tri.set1 {n : Nat} {w : World} {x y z : Value} (h : Tri n w x y z) (u : Value) : Tri n (w.setCell ⟨n, 1, none⟩ u) x u z := by
  obtain ⟨h, h0, h1, h2, hf⟩ := h
  exact ⟨by simpa [World.setCell] using h, by rw [World.cell?_setCell_other _ _ _ _ (by simp)]; exact h0, by simp [go_sem, h1], by rw [World.cell?_setCell_other _ _ _ _ (by simp)]; exact h2, fun i => by simp only [World.frozen?_setCell]; exact hf i⟩
theorem Tri.set2 {n : Nat} {w : World} {x y z : Value} (h : Tri n w x y z) (u : Value) : Tri n (w.setCell ⟨n, 2, none⟩ u) x y u := by
  obtain ⟨h, h0, h1, h2, hf⟩ := h
  exact ⟨by simpa [World.setCell] using h, by rw [World.cell?_setCell_other _ _ _ _ (by simp)]; exact h0, by rw [World.cell?_setCell_other _ _ _ _ (by simp)]; exact h1, by simp [go_sem, h2], fun i => by simp only [World.frozen?_setCell]; exact hf i⟩
theorem PartsAt.kept {b : Nat} {P : Nat → Prop} {w w' : World} {A : Option Addr} {len cap : Nat} {q : Int} (h : PartsAt b w A len cap q) (k : KeptP P w w') (hP : P b) : PartsAt b w' A len cap q := by
  obtain ⟨⟨h1, h2, h3⟩, h4⟩ := h
  exact ⟨⟨Nat.lt_of_lt_of_le h1 k.size, (k.cell (p := ⟨b, 0, none⟩) h1 hP).trans h2, (k.frozen (p := ⟨b, 0, none⟩) h1 hP).trans h3⟩, (k.cell (p := ⟨b, 1, none⟩) h1 hP).trans h4⟩
theorem PartsAt.set {b : Nat} {w : World} {A : Option Addr} {len cap : Nat} {q : Int} (h : PartsAt b w A len cap q) (A' : Option Addr) (len' cap' : Nat) : PartsAt b (w.setCell ⟨b, 0, none⟩ (.slice A' len' cap')) A' len' cap' q :=
  ⟨h.1.set A' len' cap', by rw [World.cell?_setCell_other _ _ _ _ (by simp)]; exact h.2⟩

/-- In the middle of the call: the cursor stands in front of xs; the record is made in block n1, to be handed back in block n0. -/
structure Mid (b n0 n1 : Nat) (w wr : World) (A : Option Addr) (cap : Nat) (xs : List UInt8) (m : Int) (x y z : Value) : Prop where
  parts : PartsAt b wr A xs.length cap m
  bytes : BytesP (· < b) wr A xs
  res : Tri n0 wr (.int .i64 0) (.int .i64 0) (.slice none 0 0)
  made : Tri n1 wr x y z
  kept : KeptP (· ≠ b) w wr
  capLe : xs.length ≤ cap
  lt : b < n0
  lt2 : n0 < n1
  new : w.heap.size ≤ n0
theorem Mid.put {b n0 n1 : Nat} {w wr : World} {A : Option Addr} {cap : Nat} {xs : List UInt8} {m : Int} {x y z : Value} (h : Mid b n0 n1 w wr A cap xs m x y z) (n : Nat) (hn : n ≤ xs.length) :
    Mid b n0 n1 w (wr.setCell ⟨b, 0, none⟩ (.slice (subA A n cap) (xs.length - n) (cap - n))) (subA A n cap) (cap - n) (xs.drop n) m x y z := by
  obtain ⟨h1, h2, h3, h4, h5, h6, h7, h8, h9⟩ := h
  have k : KeptP (· ≠ b) wr (wr.setCell ⟨b, 0, none⟩ (.slice (subA A n cap) (xs.length - n) (cap - n))) := KeptP.put _ _ (by simp) _
  refine ⟨?_, ?_, h3.kept k (by omega), h4.kept k (by omega), h5.trans k, ?_, h7, h8, h9⟩
  · have := h1.set (subA A n cap) (xs.length - n) (cap - n)
    rwa [List.length_drop]
  · exact (h2.kept k fun i _ hi => by omega).sub n cap h6
  · rw [List.length_drop]; omega
theorem Mid.number {b n0 n1 : Nat} {w wr : World} {A : Option Addr} {cap : Nat} {xs : List UInt8} {m : Int} {x y z : Value} (h : Mid b n0 n1 w wr A cap xs m x y z) (n : Nat) (hn : n ≤ xs.length) (hn2 : n ≤ 2) :
    ∃ w1, (Calls Tryd.prog 117 #[.pointer (some ⟨b, 0, none⟩), .int .i64 n] wr fun e w' => e = .returned (.int .i64 (numI (xs.take n))) ∧ w1 = w') ∧ Mid b n0 n1 w w1 (subA A n cap) (cap - n) (xs.drop n) m x y z :=
  ⟨_, number_any (· < b) b (by omega) A xs cap n hn hn2 h.capLe wr h.bytes h.parts.1, h.put n hn⟩
theorem Mid.take {b n0 n1 : Nat} {w wr : World} {A : Option Addr} {cap : Nat} {xs : List UInt8} {m : Int} {x y z : Value} (h : Mid b n0 n1 w wr A cap xs m x y z) (n : Nat) (hn : n ≤ xs.length) :
    ∃ w1, (Calls Tryd.prog 118 #[.pointer (some ⟨b, 0, none⟩), .int .i64 n] wr fun e w' => e = .returned (.slice A n cap) ∧ w1 = w') ∧ Mid b n0 n1 w w1 (subA A n cap) (cap - n) (xs.drop n) m x y z :=
  ⟨_, take_any b A xs.length cap n hn h.capLe wr h.parts.1, h.put n hn⟩
theorem Mid.set {b n0 n1 : Nat} {w wr wr' : World} {A : Option Addr} {cap : Nat} {xs : List UInt8} {m : Int} {x y z x' y' z' : Value} (h : Mid b n0 n1 w wr A cap xs m x y z) (k : KeptP (· ≠ n1) wr wr') (h' : Tri n1 wr' x' y' z') : Mid b n0 n1 w wr' A cap xs m x' y' z' := by
  obtain ⟨h1, h2, h3, h4, h5, h6, h7, h8, h9⟩ := h
  exact ⟨h1.kept k (by omega), h2.kept k fun i _ hi => by omega, h3.kept k (by omega), h', ⟨k.os.trans h5.os, k.tape.trans h5.tape, k.output.trans h5.output, Nat.le_trans h5.size k.size, fun i hi hp => (k.block i (Nat.lt_of_lt_of_le hi h5.size) (by omega)).trans (h5.block i hi hp)⟩, h6, h7, h8, h9⟩
theorem Mid.set0 {b n0 n1 : Nat} {w wr : World} {A : Option Addr} {cap : Nat} {xs : List UInt8} {m : Int} {x y z : Value} (h : Mid b n0 n1 w wr A cap xs m x y z) (u : Value) : Mid b n0 n1 w (wr.setCell ⟨n1, 0, none⟩ u) A cap xs m u y z := h.set (KeptP.put _ _ (by simp) _) (h.made.set0 u)
theorem Mid.set1 {b n0 n1 : Nat} {w wr : World} {A : Option Addr} {cap : Nat} {xs : List UInt8} {m : Int} {x y z : Value} (h : Mid b n0 n1 w wr A cap xs m x y z) (u : Value) : Mid b n0 n1 w (wr.setCell ⟨n1, 1, none⟩ u) A cap xs m x u z := h.set (KeptP.put _ _ (by simp) _) (h.made.set1 u)
theorem Mid.set2 {b n0 n1 : Nat} {w wr : World} {A : Option Addr} {cap : Nat} {xs : List UInt8} {m : Int} {x y z : Value} (h : Mid b n0 n1 w wr A cap xs m x y z) (u : Value) : Mid b n0 n1 w (wr.setCell ⟨n1, 2, none⟩ u) A cap xs m x y u := h.set (KeptP.put _ _ (by simp) _) (h.made.set2 u)

theorem Mid.drew {b n0 n1 : Nat} {w wr : World} {A : Option Addr} {cap : Nat} {xs : List UInt8} {m : Int} {x y z : Value} (h : Mid b n0 n1 w wr A cap xs m x y z) : Mid b n0 n1 w wr.drew A cap xs m x y z :=
  h.set (KeptP.refl _ _).drew (h.made.kept (P := fun _ => True) (KeptP.refl _ _).drew trivial)

set_option maxHeartbeats 1000000 in
theorem recOf_any (b : Nat) (A : Option Addr) (xs : List UInt8) (cap m : Nat) (hm : 3 + m ≤ xs.length) (hc : xs.length ≤ cap) (w : World) (hX : BytesP (· < b) w A xs) (h : PartsAt b w A xs.length cap m) :
    Calls Tryd.prog 98 #[.pointer (some ⟨b, 0, none⟩)] w fun e w' =>
      e = .returned (.agg #[.int .i64 (numI ((xs.drop 2).take 1)), .int .i64 (numI (xs.take 2)), .slice (subA (subA A 2 cap) 1 (cap - 2)) m (cap - 2 - 1)]) ∧ KeptP (· ≠ b) w w' := by
  have hbw := h.1.1
  have m0 : Mid b w.heap.size (w.heap.size + 1) w ((w.alloc (.cells #[.int .i64 0, .int .i64 0, .slice none 0 0] 78)).alloc (.cells #[.int .i64 0, .int .i64 0, .slice none 0 0] 78)) A cap xs m (.int .i64 0) (.int .i64 0) (.slice none 0 0) := by
    have k0 : KeptP (· < w.heap.size) w ((w.alloc (.cells #[.int .i64 0, .int .i64 0, .slice none 0 0] 78)).alloc (.cells #[.int .i64 0, .int .i64 0, .slice none 0 0] 78)) := ((KeptP.refl _ _).alloc _).alloc _
    exact ⟨h.kept k0 hbw, hX.kept k0 (fun i hi _ => hi), (Tri.new w _ rfl _ _ _ _).kept (P := fun _ => True) ((KeptP.refl _ _).alloc _) trivial, Tri.new (w.alloc _) _ (by simp) _ _ _ _, ((KeptP.refl _ _).alloc _).alloc _, hc, hbw, by omega, Nat.le_refl _⟩
  obtain ⟨w1, c1, m1⟩ := m0.number 2 (by omega) (by omega)
  have hl1 : (xs.drop 2).length = xs.length - 2 := List.length_drop
  have m2 := m1.set1 (.int .i64 (numI (xs.take 2)))
  obtain ⟨w3, c3, m3⟩ := m2.number 1 (by omega) (by omega)
  have hl3 : ((xs.drop 2).drop 1).length = xs.length - 2 - 1 := by rw [List.length_drop, hl1]
  have m4 := m3.set0 (.int .i64 (numI ((xs.drop 2).take 1)))
  have m4d := m4.drew
  obtain ⟨w5, c5, m5⟩ := m4d.take m (by omega)
  have m6 := m5.set2 (.slice (subA (subA A 2 cap) 1 (cap - 2)) m (cap - 2 - 1))
  obtain ⟨-, -, f1, -, ff1⟩ := m1.made
  obtain ⟨-, f3, -, -, ff3⟩ := m3.made
  have fz := m4d.parts.2
  obtain ⟨-, -, -, f5, ff5⟩ := m5.made
  obtain ⟨-, g0, g1, g2, -⟩ := m6.made
  obtain ⟨-, e0, e1, e2, ef⟩ := m6.res
  have ff1' := ff1 1
  have ff3' := ff3 0
  have ff5' := ff5 2
  have ef0 := ef 0
  have ef1 := ef 1
  have ef2 := ef 2
  have K6 := Lib.hid m6.kept
  have R6 := Lib.hid m6.res
  have N0 := Lib.hid m6.new
  obtain ⟨q1, hq1⟩ : ∃ q, numI (xs.take 2) = q := ⟨_, rfl⟩
  obtain ⟨q2, hq2⟩ : ∃ q, numI ((xs.drop 2).take 1) = q := ⟨_, rfl⟩
  rw [hq1] at c1
  simp only [hq1, hq2] at *
  clear hq1 hq2 m0 m1 m2 m3 m4 m4d m5 m6 ff1 ff3 ff5 ef hl1 hl3 h hX hc hm
  go_enter Tryd.func98, Tryd.ntmps98
  go_wp2_with fail
  refine c1.mono ?_
  rintro e w' ⟨rfl, rfl⟩
  clear c1
  go_wp2_with fail
  refine c3.mono ?_
  rintro e w' ⟨rfl, rfl⟩
  clear c3
  go_wp2_with fail
  refine Mixed.wp_region_mixed (fun w' => w'.cell? ⟨b, 1, none⟩ = some (.int .i64 (m : Int))) 7 [(0, true), (1, true), (2, true), (3, true), (4, true), (5, true), (6, true)] (by kernel_rfl) (by kernel_rfl) fz ?_
  refine Mixed.wpMix_move rfl rfl _ rfl _ rfl ?_
  refine Mixed.wpMix_pure rfl rfl _ (fun w h => by go_simp; rfl) ?_
  refine Mixed.wpMix_pure rfl rfl _ (fun w h => by go_simp; rfl) ?_
  refine Mixed.wpMix_move rfl rfl _ rfl _ rfl ?_
  refine Mixed.wpMix_pure rfl rfl _ (fun w h => by go_simp; rfl) ?_
  refine Mixed.wpMix_pure rfl rfl _ (fun w h => by go_simp; rfl) ?_
  refine Mixed.wpMix_pure rfl rfl _ (fun w h => by go_simp; rfl) ?_
  simp only [Mixed.wpMix, List.drop_succ_cons, List.drop_zero]
  go_wp2_with fail
  refine c5.mono ?_
  rintro e w' ⟨rfl, rfl⟩
  clear c5 fz
  go_wp2
  have hR := ((R6.out.set0 (.int .i64 q2)).set1 (.int .i64 q1)).set2 (.slice (subA (subA A 2 cap) 1 (cap - 2)) m (cap - 2 - 1))
  have hK6 : KeptP (fun i => i < w.heap.size ∧ i ≠ b) w _ := K6.out.mono fun i _ h => h.2
  have hK7 := ((hK6.setCell (p := ⟨w.heap.size, 0, none⟩) (fun h => Nat.lt_irrefl _ h.1) (.int .i64 q2)).setCell (p := ⟨w.heap.size, 1, none⟩) (fun h => Nat.lt_irrefl _ h.1) (.int .i64 q1)).setCell (p := ⟨w.heap.size, 2, none⟩) (fun h => Nat.lt_irrefl _ h.1) (.slice (subA (subA A 2 cap) 1 (cap - 2)) m (cap - 2 - 1))
  have hK : KeptP (· ≠ b) w _ := hK7.mono fun i hi h => ⟨hi, h⟩
  clear hK6 hK7
  clear e0 e1 e2 ef0 ef1 ef2 g0 g1 g2 R6 K6
  revert hR hK
  generalize (((w5.setCell ⟨w.heap.size + 1, 2, none⟩ (.slice (subA (subA A 2 cap) 1 (cap - 2)) m (cap - 2 - 1))).setCell ⟨w.heap.size, 0, none⟩ (.int .i64 q2)).setCell ⟨w.heap.size, 1, none⟩ (.int .i64 q1)).setCell ⟨w.heap.size, 2, none⟩ (.slice (subA (subA A 2 cap) 1 (cap - 2)) m (cap - 2 - 1)) = wf
  intro hR hK
  obtain ⟨-, c0, c1, c2, -⟩ := hR
  exact bodyPost_ret (v := .agg #[.int .i64 q2, .int .i64 q1, .slice (subA (subA A 2 cap) 1 (cap - 2)) m (cap - 2 - 1)]) (by simp [results, Tryd.results98, go_sem, c0, c1, c2]) rfl ⟨rfl, hK⟩
end Go.Proofs.YtmeegpdjhcilkaaDoor
/-
  The walks over bytes.Equal, record.Same and breadboardref03.Same: for every two records, whether they have the same type, address and data; nothing that was there is changed.
-/
namespace Go.Proofs.YtmeegpdjhcilkaaDoor
open Go.RowKit
set_option linter.unusedVariables false

/-- The string of bytes. -/
def strOf (xs : List UInt8) : ByteArray := ⟨xs.toArray⟩
theorem conv_bytes {P : Nat → Prop} {w : World} {A : Option Addr} {xs : List UInt8} (h : BytesP P w A xs) (cap : Nat) :
    (convert 59 9 (.slice A xs.length cap)).run Tryd.prog w = .ok (.string (strOf xs)) w := by
  cases A with
  | none =>
    obtain rfl : xs = [] := by
      rcases h with h | ⟨b, off, h, _⟩
      · exact h
      · cases h
    rw [run_convert_bytes_nil (P := Tryd.prog) w 59 5 Tryd.underlying59 Tryd.underlying5 _ _ 9 Tryd.underlying9]
    rfl
  | some a =>
    refine run_convert_bytes_back w 59 9 5 a cap xs Tryd.underlying59 Tryd.underlying5 Tryd.underlying9 (fun j hj => ?_)
    rcases h with rfl | ⟨b, off, e, _, hc⟩
    · simp at hj
    · cases e
      have h1 := hc j hj
      unfold Addr.add
      split
      · rename_i h0; subst h0; simpa using h1
      · exact h1
theorem strOf_eq (xs ys : List UInt8) : ((strOf xs).toList == (strOf ys).toList) = decide (xs = ys) := by
  rw [ByteArray.toList_eq, ByteArray.toList_eq]
  unfold strOf
  simp only
  by_cases h : xs = ys
  · rw [h]; simp
  · rw [decide_eq_false h]; simpa using h
/-- Have two records the same type, address and data? -/
def sameR (T1 a1 : Int) (D1 : List UInt8) (T2 a2 : Int) (D2 : List UInt8) : Bool := decide (T1 = T2) && (decide (a1 = a2) && decide (D1 = D2))
theorem sameR_no1 {T1 a1 : Int} {D1 : List UInt8} {T2 a2 : Int} {D2 : List UInt8} (h : ¬ T1 = T2) : sameR T1 a1 D1 T2 a2 D2 = false := by unfold sameR; simp [h]
theorem sameR_no2 {T1 a1 : Int} {D1 : List UInt8} {T2 a2 : Int} {D2 : List UInt8} (h : ¬ a1 = a2) : sameR T1 a1 D1 T2 a2 D2 = false := by unfold sameR; simp [h]
theorem sameR_yes {T1 a1 : Int} {D1 : List UInt8} {D2 : List UInt8} : sameR T1 a1 D1 T1 a1 D2 = decide (D1 = D2) := by unfold sameR; simp
theorem ibeq_ne {a b : Int} (h : ¬ a = b) : (a == b) = false := by simpa using h

end Go.Proofs.YtmeegpdjhcilkaaDoor
/-
  The walks over record.isRight and breadboardref03.Right: for every record, whether it is right; nothing that was there is changed.
-/
namespace Go.Proofs.YtmeegpdjhcilkaaDoor
open Go.RowKit
set_option linter.unusedVariables false

/-- Is a record right? -/
def rightB (T a : Int) (n : Nat) : Bool := decide (0 ≤ T ∧ T ≤ 255 ∧ 0 ≤ a ∧ a ≤ 65535 ∧ n ≤ 255)
theorem fitsOne (lo hi n : Int) : fitsB lo hi [n] = decide (lo ≤ n ∧ n ≤ hi) := by
  unfold fitsB; by_cases h1 : lo ≤ n <;> by_cases h2 : n ≤ hi <;> simp [h1, h2]
theorem ints_one' (w : World) (n : Nat) (hn : w.heap.size = n) (x : Int) (t : TypeId) : IntsAt (w.alloc (.cells #[.int .i64 x] t)) (some ⟨n, 0, none⟩) [x] := by
  subst hn
  exact ints_one w x t
set_option maxHeartbeats 1000000 in
theorem isRight_any (T a : Int) (A : Option Addr) (len cap : Nat) (hl : len ≤ maxLen) (w : World) :
    Calls Tryd.prog 69 #[.agg #[.int .i64 T, .int .i64 a, .slice A len cap]] w fun e w' => e = .returned (.bool (rightB T a len)) ∧ Below w.heap.size w w' := by
  unfold maxLen at hl
  by_cases hT : 0 ≤ T ∧ T ≤ 255
  · have fT : fitsB 0 255 [T] = true := by rw [fitsOne]; exact decide_eq_true hT
    by_cases ha : 0 ≤ a ∧ a ≤ 65535
    · have fa : fitsB 0 65535 [a] = true := by rw [fitsOne]; exact decide_eq_true ha
      have N : Hid (decide ((len : Int) ≤ 255) = rightB T a len) := by
        show _ = _
        unfold rightB
        exact decide_eq_decide.2 (by omega)
      clear hT ha
      go_enter Tryd.func69, Tryd.ntmps69
      go_wp2_with fail
      refine (fits_any 0 255 _ _ [T] (by simp [maxLen]) _ (ints_one' _ _ (by simp) _ _)).mono ?_
      rintro e w' ⟨rfl, rfl⟩
      go_wp2_with fail
      refine (fits_any 0 65535 _ _ [a] (by simp [maxLen]) _ (ints_one' _ _ (by simp) _ _)).mono ?_
      rintro e w' ⟨rfl, rfl⟩
      go_wp2
      go_ret
      exact ⟨ret_bool N.out, (((Below.refl _ _).alloc (Nat.le_refl _) _).alloc (by simp) _).alloc (by simp; omega) _⟩
    · have fa : fitsB 0 65535 [a] = false := by rw [fitsOne]; exact decide_eq_false ha
      have N : Hid (false = rightB T a len) := by
        show _ = _
        unfold rightB
        exact (decide_eq_false (by omega)).symm
      clear hT ha
      go_enter Tryd.func69, Tryd.ntmps69
      go_wp2_with fail
      refine (fits_any 0 255 _ _ [T] (by simp [maxLen]) _ (ints_one' _ _ (by simp) _ _)).mono ?_
      rintro e w' ⟨rfl, rfl⟩
      go_wp2_with fail
      refine (fits_any 0 65535 _ _ [a] (by simp [maxLen]) _ (ints_one' _ _ (by simp) _ _)).mono ?_
      rintro e w' ⟨rfl, rfl⟩
      go_wp2
      go_ret
      exact ⟨ret_bool N.out, (((Below.refl _ _).alloc (Nat.le_refl _) _).alloc (by simp) _).alloc (by simp; omega) _⟩
  · have fT : fitsB 0 255 [T] = false := by rw [fitsOne]; exact decide_eq_false hT
    have N : Hid (false = rightB T a len) := by
      show _ = _
      unfold rightB
      exact (decide_eq_false (by omega)).symm
    clear hT
    go_enter Tryd.func69, Tryd.ntmps69
    go_wp2_with fail
    refine (fits_any 0 255 _ _ [T] (by simp [maxLen]) _ (ints_one' _ _ (by simp) _ _)).mono ?_
    rintro e w' ⟨rfl, rfl⟩
    go_wp2
    go_ret
    exact ⟨ret_bool N.out, ((Below.refl _ _).alloc (Nat.le_refl _) _).alloc (by simp) _⟩
set_option maxHeartbeats 1000000 in
theorem rright_any (T a : Int) (A : Option Addr) (len cap : Nat) (hl : len ≤ maxLen) (w : World) :
    Calls Tryd.prog 102 #[.agg #[.int .i64 T, .int .i64 a, .slice A len cap]] w fun e w' => e = .returned (.bool (rightB T a len)) ∧ Below w.heap.size w w' := by
  unfold maxLen at hl
  by_cases h1 : 0 ≤ T
  case neg =>
    have N : Hid (false = rightB T a len) := by show _ = _; unfold rightB; exact (decide_eq_false (by omega)).symm
    have h1' : decide (0 ≤ T) = false := decide_eq_false h1
    clear h1
    go_enter Tryd.func102, Tryd.ntmps102
    go_wp2
    go_ret
    exact ⟨ret_bool N.out, (Below.refl _ _).alloc (Nat.le_refl _) _⟩
  by_cases h2 : T ≤ 255
  case neg =>
    have N : Hid (false = rightB T a len) := by show _ = _; unfold rightB; exact (decide_eq_false (by omega)).symm
    have h2' : decide (T ≤ 255) = false := decide_eq_false h2
    clear h2
    go_enter Tryd.func102, Tryd.ntmps102
    go_wp2
    go_ret
    exact ⟨ret_bool N.out, (Below.refl _ _).alloc (Nat.le_refl _) _⟩
  by_cases h3 : 0 ≤ a
  case neg =>
    have N : Hid (false = rightB T a len) := by show _ = _; unfold rightB; exact (decide_eq_false (by omega)).symm
    have h3' : decide (0 ≤ a) = false := decide_eq_false h3
    clear h3
    go_enter Tryd.func102, Tryd.ntmps102
    go_wp2
    go_ret
    exact ⟨ret_bool N.out, (Below.refl _ _).alloc (Nat.le_refl _) _⟩
  by_cases h4 : a ≤ 65535
  case neg =>
    have N : Hid (false = rightB T a len) := by show _ = _; unfold rightB; exact (decide_eq_false (by omega)).symm
    have h4' : decide (a ≤ 65535) = false := decide_eq_false h4
    clear h4
    go_enter Tryd.func102, Tryd.ntmps102
    go_wp2
    go_ret
    exact ⟨ret_bool N.out, (Below.refl _ _).alloc (Nat.le_refl _) _⟩
  have N : Hid (decide ((len : Int) ≤ 255) = rightB T a len) := by show _ = _; unfold rightB; exact decide_eq_decide.2 (by omega)
  go_enter Tryd.func102, Tryd.ntmps102
  go_wp2
  go_ret
  exact ⟨ret_bool N.out, (Below.refl _ _).alloc (Nat.le_refl _) _⟩
end Go.Proofs.YtmeegpdjhcilkaaDoor
/-
  The walks over strings.Builder: copyCheck, WriteByte at a fresh builder, WriteString, String.
-/
namespace Go.Proofs.YtmeegpdjhcilkaaDoor
open Go.RowKit
set_option linter.unusedVariables false

/-- Block b is a builder: 'addr' holds p; its buffer v holds the bytes bs. -/
def Bld (b : Nat) (w : World) (p v : Value) (bs : List UInt8) : Prop :=
  w.heap[b]? = some (.cells #[p, v] 125 (0, 0)) ∧ w.ownsRow 0 5 1 v bs.length (bs.map u8V) ∧ v.ownBlock ≠ some b
def selfP (b : Nat) : Value := .pointer (some ⟨b, 0, none⟩)
theorem Bld.lt {b : Nat} {w : World} {p v : Value} {bs : List UInt8} (h : Bld b w p v bs) : b < w.heap.size := lt_of_block h.1
theorem Bld.c0 {b : Nat} {w : World} {p v : Value} {bs : List UInt8} (h : Bld b w p v bs) : w.cell? ⟨b, 0, none⟩ = some p := by rw [Lib.cell_of_heap h.1]; rfl
theorem Bld.c1 {b : Nat} {w : World} {p v : Value} {bs : List UInt8} (h : Bld b w p v bs) : w.cell? ⟨b, 1, none⟩ = some v := by rw [Lib.cell_of_heap h.1]; rfl
theorem Bld.f {b : Nat} {w : World} {p v : Value} {bs : List UInt8} (h : Bld b w p v bs) (j : Nat) : w.frozen? ⟨b, j, none⟩ = false := Lib.frozen_of_heap h.1 j
theorem Bld.shape {b : Nat} {w : World} {p v : Value} {bs : List UInt8} (h : Bld b w p v bs) : w.shape? b = some (125, 2) := by
  simp [World.shape?, h.1]
theorem Bld.fresh (w : World) (n : Nat) (hn : w.heap.size = n) : Bld n (w.alloc (.cells #[.pointer none, .slice none 0 0] 125)) (.pointer none) (.slice none 0 0) [] := by
  subst hn
  exact ⟨heap_alloc_new w _, World.ownsRow_nil _ _ _ _, by simp [Value.ownBlock]⟩
theorem Bld.set0 {b : Nat} {w : World} {p v : Value} {bs : List UInt8} (h : Bld b w p v bs) (q : Value) : Bld b (w.setCell ⟨b, 0, none⟩ q) q v bs := by
  obtain ⟨hb, hown, hne⟩ := h
  refine ⟨by simp [World.setCell, Array.getElem?_modify, hb], ?_, hne⟩
  exact hown.kept (row := some b) ⟨rfl, rfl, rfl, by simp [World.setCell], fun k _ hk => Below.heap_setCell _ _ _ _ (fun e => hk (by simp [e]))⟩ (Or.inr hne)
theorem neB : (125 : TypeId) ≠ 5 := by decide
theorem Bld.set1 {b : Nat} {w : World} {p v v' : Value} {bs' : List UInt8} (hb : w.heap[b]? = some (.cells #[p, v] 125 (0, 0))) (hown : w.ownsRow 0 5 1 v' bs'.length (bs'.map u8V)) : Bld b (w.setCell ⟨b, 1, none⟩ v') p v' bs' := by
  have hne := Lib.ownBlock_ne hown hb neB
  refine ⟨by simp [World.setCell, Array.getElem?_modify, hb], ?_, hne⟩
  exact hown.kept (row := some b) ⟨rfl, rfl, rfl, by simp [World.setCell], fun k _ hk => Below.heap_setCell _ _ _ _ (fun e => hk (by simp [e]))⟩ (Or.inr hne)
theorem Bld.kept {b : Nat} {P : Nat → Prop} {w w' : World} {p v : Value} {bs : List UInt8} (h : Bld b w p v bs) (k : KeptP P w w') (hP : P b) (hv : ∀ g, v.ownBlock = some g → P g) : Bld b w' p v bs := by
  obtain ⟨hb, hown, hne⟩ := h
  refine ⟨(k.block b (lt_of_block hb) hP).trans hb, ?_, hne⟩
  obtain ⟨h1, h2⟩ := hown
  refine ⟨h1, ?_⟩
  rcases h2 with h2 | ⟨g, cap, cur, rfl, hg, hh, r⟩
  · exact .inl h2
  · exact .inr ⟨g, cap, cur, rfl, hg, (k.block g (lt_of_block hh) (hv g rfl)).trans hh, r⟩

theorem sizeBuilder : ∃ j, Tryd.prog.info? 125 = some j ∧ j.size = 2 := Option.map_eq_some_iff.1 (show (Tryd.prog.info? 125).map (·.size) = some 2 by kernel_rfl)
theorem liesBuilder : liesAt Tryd.prog Tryd.prog.depth 125 (2 / Tryd.prog.cellsOf 125) 0 125 1 = true := by kernel_rfl
set_option maxHeartbeats 1000000 in
theorem copyCheck_used (b : Nat) (w : World) (v : Value) (bs : List UInt8) (h : Bld b w (selfP b) v bs) :
    Calls Tryd.prog 101 #[.pointer (some ⟨b, 0, none⟩)] w fun e w' => e = .returned (.tuple #[]) ∧ w = w' := by
  obtain ⟨j, hj, _⟩ := sizeBuilder
  have h0 := h.c0
  unfold selfP at h0
  have hq := Lib.run_neq_ptr_same (P := Tryd.prog) w ⟨b, 0, none⟩ Tryd.underlying123 hj
  clear h
  go_enter Tryd.func101, Tryd.ntmps101
  go_wp2
  go_end0
  exact ⟨rfl, rfl⟩
set_option maxRecDepth 100000 in
set_option maxHeartbeats 1000000 in
theorem copyCheck_fresh (b : Nat) (w : World) (v : Value) (bs : List UInt8) (h : Bld b w (.pointer none) v bs) :
    Calls Tryd.prog 101 #[.pointer (some ⟨b, 0, none⟩)] w fun e w' => e = .returned (.tuple #[]) ∧ w.setCell ⟨b, 0, none⟩ (.pointer (some ⟨b, 0, none⟩)) = w' := by
  obtain ⟨j, hj, hjs⟩ := sizeBuilder
  have h0 := h.c0
  have hf := h.f 0
  have hsh := h.shape
  clear h
  go_enter Tryd.func101, Tryd.ntmps101
  go_wp2
  rw [Lib.run_to_unsafe w ⟨b, 0, none⟩ Tryd.underlying123 Tryd.underlying179 hj (by rw [hjs]; decide) hsh (Nat.zero_lt_succ 1)]
  simp only [Result.andThen]
  rw [Oper.upon_value]
  go_wp2
  rw [run_callFunc_extern Tryd.func120 (by kernel_rfl) (by kernel_rfl) (by kernel_rfl) (e := Extern.AbiNoEscape.same) (by kernel_rfl)]
  rw [Lib.run_noEscape]
  simp only [Result.andThen]
  rw [Oper.upon_value]
  go_wp2
  rw [Lib.run_from_unsafe w ⟨b, 0, none⟩ Tryd.underlying179 Tryd.underlying123 hj hsh liesBuilder]
  simp only [Result.andThen]
  rw [Oper.upon_value]
  go_wp2
  go_end0
  exact ⟨rfl, rfl⟩

/-- What WriteByte leaves of a fresh builder. -/
def RetW1 (b : Nat) (w : World) (c : UInt8) (e : Ending) (w' : World) : Prop :=
  e = .returned .nilIface ∧ ∃ v', Bld b w' (selfP b) v' [c] ∧ (∀ g, v'.ownBlock = some g → w.heap.size ≤ g) ∧ KeptP (· ≠ b) w w'
set_option maxHeartbeats 1000000 in
theorem writeByte_any (b : Nat) (w : World) (c : UInt8) (h : Bld b w (.pointer none) (.slice none 0 0) []) :
    Calls Tryd.prog 74 #[.pointer (some ⟨b, 0, none⟩), .int .u8 (c.toNat : Int)] w (RetW1 b w c) := by
  obtain ⟨i0, hi, hz0, hz1, hz2⟩ := info_parts info_u8
  have hcc := copyCheck_fresh b w _ _ h
  obtain ⟨w1, hw1⟩ : ∃ w1, w.setCell ⟨b, 0, none⟩ (.pointer (some ⟨b, 0, none⟩)) = w1 := ⟨_, rfl⟩
  have h1 := h.set0 (selfP b)
  have k1 : KeptP (· ≠ b) w (w.setCell ⟨b, 0, none⟩ (.pointer (some ⟨b, 0, none⟩))) := KeptP.put _ _ (by simp) _
  unfold selfP at h1
  rw [hw1] at hcc h1 k1
  have hs1 : w1.heap.size = w.heap.size := by rw [← hw1]; simp [World.setCell]
  have H1 := Lib.hid h1
  have K1 := Lib.hid k1
  have S1 := Lib.hid hs1
  have g1 := h1.c1
  have hown : w1.ownsRow w1.heap.size 5 1 (.slice none 0 0) 0 [] := World.ownsRow_nil _ _ _ _
  clear hw1 h h1 k1 hs1
  go_enter Tryd.func74, Tryd.ntmps74
  go_wp2_with fail
  refine hcc.mono ?_
  rintro e w' ⟨rfl, rfl⟩
  clear hcc
  go_wp2_with (at_builtin; refine wpList_append_own _ rfl _ _ 59 rfl w1.heap.size 5 i0 (.int .u8 0) 1 1 Tryd.underlying59 hi hz0 hz1 hz2 rfl (by decide) _ _ _ rfl (hown.alloc _) ⟨w1.heap.size, 0, none⟩ 1 1 [.int .u8 (c.toNat : Int)] rfl rfl ?c1 ?c2 ?c3 ?c4 ?c5 ?_)
  case c1 =>
    intro j u hj
    match j, hj with
    | 0, hj => simp at hj; subst hj; simp [Addr.add]
  case c2 => intro u hu; simp at hu; subst hu; rfl
  case c3 => unfold maxLen; omega
  case c4 => omega
  case c5 => simp
  intro v' w2 hown' hgrow _
  have hbk := H1.out.1
  have hlt := H1.out.lt
  have hb2 : w2.heap[b]? = some (.cells #[.pointer (some ⟨b, 0, none⟩), .slice none 0 0] 125 (0, 0)) := by
    rw [hgrow.block b (by simp; omega) (by simp [Value.ownBlock]), Lib.alloc_old w1 _ b hlt]
    exact hbk
  have d1 : w2.cell? ⟨b, 1, none⟩ = some (.slice none 0 0) := by rw [Lib.cell_of_heap hb2]; rfl
  have f1 : w2.frozen? ⟨b, 1, none⟩ = false := Lib.frozen_of_heap hb2 1
  have hnew : ∀ g, v'.ownBlock = some g → w.heap.size ≤ g := fun g hg => by rw [← S1.out]; exact (hown'.lt g hg).1
  have hown0 : w2.ownsRow 0 5 1 v' [c].length ([c].map u8V) := by
    obtain ⟨e1, e2⟩ := hown'
    refine ⟨e1, ?_⟩
    rcases e2 with e2 | ⟨g, cap, cur, hv, hg, r⟩
    · exact .inl e2
    · exact .inr ⟨g, cap, cur, hv, Nat.zero_le _, r⟩
  have hB := Bld.set1 hb2 hown0
  have hK : KeptP (· ≠ b) w (w2.setCell ⟨b, 1, none⟩ v') := ((K1.out.alloc _).grown hgrow (fun k hk => by simp [Value.ownBlock] at hk)).setCell (by simp) _
  have HB := Lib.hid hB
  have HK := Lib.hid hK
  have HN := Lib.hid hnew
  obtain ⟨g, cap, hv⟩ : ∃ g cap, v' = .slice (some ⟨g, 0, none⟩) 1 cap := by
    rcases hown'.2 with ⟨_, h0⟩ | ⟨g, cap, cur, hv, _⟩
    · omega
    · exact ⟨g, cap, hv⟩
  subst hv
  clear hown' hgrow hb2 hnew hown0 hB hK hbk hlt
  go_wp2
  go_ret
  exact ⟨rfl, _, HB.out, HN.out, HK.out⟩
end Go.Proofs.YtmeegpdjhcilkaaDoor
/-
  The walks over strings.Builder's WriteString and String.
-/
namespace Go.Proofs.YtmeegpdjhcilkaaDoor
open Go.RowKit
set_option linter.unusedVariables false

theorem strCells_u8V (s : ByteArray) : Lib.strCells s = s.data.toList.map u8V := rfl
/-- append(v, s...): where the result lies. -/
theorem app_str {w : World} {v : Value} {bs : List UInt8} (hown : w.ownsRow 0 5 1 v bs.length (bs.map u8V)) (s : ByteArray) (hlen : bs.length + s.size ≤ 140737488355328) (ty : TypeId) :
    ∃ v' w', (Builtin.append_ #[59, 9] ty #[v, .string s]).run Tryd.prog w = .ok v' w' ∧ w'.ownsRow 0 5 1 v' (bs ++ s.data.toList).length ((bs ++ s.data.toList).map u8V) ∧ w.grownBy w' v.ownBlock ∧
      ∀ g, v'.ownBlock = some g → v.ownBlock = some g ∨ w.heap.size ≤ g := by
  obtain ⟨i0, hi, hz0, hz1, hz2⟩ := info_parts info_u8
  have h63 : bs.length + s.size ≤ maxLen := by unfold maxLen; omega
  obtain ⟨v', w', hr, h2, h3, _⟩ := Lib.run_append_own_string (P := Tryd.prog) w 0 59 9 ty 5 i0 Tryd.underlying59 Tryd.underlying9 hi hz0 hz1 hz2 v bs.length (bs.map u8V) hown s h63 hlen (Nat.zero_le _)
  refine ⟨v', w', hr, ?_, h3, ?_⟩
  · rw [strCells_u8V] at h2
    rw [List.length_append, List.map_append]
    have e : s.data.toList.length = s.size := by simp
    rw [e]
    exact h2
  · intro g hg
    rcases hown.2 with ⟨rfl, h0⟩ | ⟨b, cap, cur, rfl, hb, hbk, hn, hm, hsz, ht⟩
    · obtain ⟨v'', w'', hr2, k2, _⟩ := Lib.run_append_own_string (P := Tryd.prog) w w.heap.size 59 9 ty 5 i0 Tryd.underlying59 Tryd.underlying9 hi hz0 hz1 hz2 (.slice none 0 0) 0 [] (World.ownsRow_nil _ _ _ _) s (by unfold maxLen; omega) (by omega) (Nat.le_refl _)
      have e := hr.symm.trans hr2
      injection e with e1 e2
      subst e1
      exact .inr (k2.lt g hg).1
    · by_cases hroom : bs.length + s.size ≤ cap
      · have hr2 := Lib.run_append_room_string (P := Tryd.prog) w 59 9 ty 5 i0 Tryd.underlying59 Tryd.underlying9 hi hz1 b bs.length cap cur hbk s hroom (by omega)
        have e := hr.symm.trans hr2
        injection e with e1 e2
        subst e1
        exact .inl hg
      · have holds : ∀ j u, (bs.map u8V)[j]? = some u → w.cell? ((⟨b, 0, none⟩ : Addr).add j) = some u := hown.cells (g := b) rfl
        have hr2 := Lib.run_append_grow_string (P := Tryd.prog) w 59 9 ty 5 i0 (.int .u8 0) Tryd.underlying59 Tryd.underlying9 hi hz0 ⟨b, 0, none⟩ bs.length cap (bs.map u8V) (by rw [hz1]; simp) holds s (by omega) (by omega) (by rw [hz2]; exact growslice_fits (by omega) (by omega))
        have e := hr.symm.trans hr2
        injection e with e1 e2
        subst e1
        simp only [Value.ownBlock, Option.some.injEq] at hg
        exact .inr (by omega)
theorem wpList_app_str {w w1 : World} {t u ty : TypeId} {v v' : Value} {s : ByteArray} (h1 : (Builtin.append_ #[t, u] ty #[v, .string s]).run Tryd.prog w = .ok v' w1) {ops : Array Oper} {rest : List Oper} {o : Oper} {a : Act} {Q : Exit → Act → World → Prop} (hgd : o.guard = none) (sl x : Operand)
    (ho : o.op = .call { callee := .builtin .append, args := #[sl, x], argTypes := #[t, u] }) (hty : o.type = ty) (hs : a.eval sl = v) (hx : a.eval x = .string s) (hk : wpList Tryd.prog ops Q rest (a.put o.dst v') w1) : wpList Tryd.prog ops Q (o :: rest) a w := by
  subst hty
  refine wpList_plain hgd fun K hK => ?_
  unfold Oper.wp
  simp [execOp, ho, resolve, invoke, builtin, hs, hx, h1, Result.andThen]
  exact hK _ _ hk

/-- What WriteString leaves. -/
def RetWS (b : Nat) (w : World) (v : Value) (bs : List UInt8) (s : ByteArray) (e : Ending) (w' : World) : Prop :=
  e = .returned (.tuple #[.int .i64 s.size, .nilIface]) ∧ ∃ v', Bld b w' (selfP b) v' (bs ++ s.data.toList) ∧ (∀ g, v'.ownBlock = some g → v.ownBlock = some g ∨ w.heap.size ≤ g) ∧ KeptP (fun i => i ≠ b ∧ some i ≠ v.ownBlock) w w'
set_option maxHeartbeats 1000000 in
theorem writeString_any (b : Nat) (w : World) (v : Value) (bs : List UInt8) (s : ByteArray) (hlen : bs.length + s.size ≤ 140737488355328) (h : Bld b w (selfP b) v bs) :
    Calls Tryd.prog 72 #[.pointer (some ⟨b, 0, none⟩), .string s] w (RetWS b w v bs s) := by
  have hcc := copyCheck_used b w v bs h
  obtain ⟨v', w2, hr, hown', hgrow, hblk⟩ := app_str h.2.1 s hlen 59
  have hlt := h.lt
  have hb2 : w2.heap[b]? = some (.cells #[selfP b, v] 125 (0, 0)) := by
    rw [hgrow.block b hlt (fun e => h.2.2 e.symm)]
    exact h.1
  have c1 := h.c1
  have d1 : w2.cell? ⟨b, 1, none⟩ = some v := by rw [Lib.cell_of_heap hb2]; rfl
  have f1 : w2.frozen? ⟨b, 1, none⟩ = false := Lib.frozen_of_heap hb2 1
  have hB := Bld.set1 hb2 hown'
  have hK : KeptP (fun i => i ≠ b ∧ some i ≠ v.ownBlock) w (w2.setCell ⟨b, 1, none⟩ v') := ((KeptP.refl _ _).grown hgrow (fun k hk h => h.2 hk.symm)).setCell (fun h => h.1 rfl) _
  have HB := Lib.hid hB
  have HK := Lib.hid hK
  have HN := Lib.hid hblk
  have HR := Lib.hid hr
  obtain ⟨ao, n', cap', hv'⟩ : ∃ ao n' cap', v' = .slice ao n' cap' := by
    rcases hown'.2 with ⟨hv, _⟩ | ⟨g, cap, cur, hv, _⟩
    · exact ⟨_, _, _, hv⟩
    · exact ⟨_, _, _, hv⟩
  subst hv'
  clear hB hK hblk hr hown' hgrow hb2 h hlt
  go_enter Tryd.func72, Tryd.ntmps72
  go_wp2_with fail
  refine hcc.mono ?_
  rintro e w' ⟨rfl, rfl⟩
  clear hcc
  go_wp2_with (at_builtin; refine wpList_app_str HR.out rfl _ _ rfl rfl rfl rfl ?_)
  go_ret2
  exact ⟨rfl, _, HB.out, HN.out, HK.out⟩

theorem cells_u8 : Tryd.prog.cellsOf 5 = 1 := by kernel_rfl
set_option maxHeartbeats 1000000 in
theorem bString_any (B b : Nat) (w : World) (p v : Value) (bs : List UInt8) (h0 : bs ≠ []) (h : Bld b w p v bs) (hB : ∀ g, v.ownBlock = some g → B ≤ g) :
    Calls Tryd.prog 76 #[.pointer (some ⟨b, 0, none⟩)] w fun e w' => e = .returned (.string (strOf bs)) ∧ Below B w w' := by
  obtain ⟨hbk, hown, hne⟩ := h
  have hl0 : bs.length ≠ 0 := by simpa using h0
  obtain ⟨g, cap, cur, rfl, -, hg, hnc, hcm, hcs, htake⟩ : ∃ g cap cur, v = .slice (some ⟨g, 0, none⟩) bs.length cap ∧ 0 ≤ g ∧ w.heap[g]? = some (.cells cur 5 (0, 0)) ∧ bs.length ≤ cap ∧ cap ≤ maxLen ∧ cur.size = cap * 1 ∧ cur.toList.take (bs.length * 1) = bs.map u8V := by
    rcases hown.2 with ⟨_, hz⟩ | ⟨g, cap, cur, hv, r⟩
    · exact absurd hz hl0
    · exact ⟨g, cap, cur, hv, r⟩
  have c1 : w.drew.cell? ⟨b, 1, none⟩ = some (.slice (some ⟨g, 0, none⟩) bs.length cap) := by
    have : w.drew.heap[b]? = some (.cells #[p, .slice (some ⟨g, 0, none⟩) bs.length cap] 125 (0, 0)) := hbk
    rw [Lib.cell_of_heap this]; rfl
  have hSD : (Builtin.unsafeSliceData_ #[59] 167 #[.slice (some ⟨g, 0, none⟩) bs.length cap]).run Tryd.prog w.drew = .ok (.pointer (some ⟨g, 0, none⟩)) w.drew :=
    Lib.run_unsafeSliceData_row _ _ _ _ _ _ (by omega)
  have hUS : (Builtin.unsafeString_ #[167, 3] 9 #[.pointer (some ⟨g, 0, none⟩), .int .i64 bs.length]).run Tryd.prog w.drew = .ok (.string (strOf bs)) (w.drew.freeze ⟨g, 0, none⟩ bs.length) := by
    refine Lib.run_unsafeString_row w.drew 167 3 9 5 Tryd.underlying167 cells_u8 g cur.size (by have hg' : w.drew.heap[g]? = some (.cells cur 5 (0, 0)) := hg; simp [World.shape?, hg']) bs h0 (by omega) (by unfold maxLen at hcm; omega) ?_
    intro j x hx
    have := hown.cells (g := g) rfl j (.int .u8 x.toNat) (by simp [u8V, hx])
    exact this
  have hbg := hB g rfl
  have N : Hid (Below B w (w.drew.freeze ⟨g, 0, none⟩ bs.length)) := Lib.below_freeze (Below.drew (Below.refl B w)) (p := ⟨g, 0, none⟩) hbg _
  clear hB hbk hown hne hg htake hcs
  go_enter Tryd.func76, Tryd.ntmps76
  go_wp2
  go_region
  all_goals (go_wp2; go_ret; exact ⟨rfl, N.out⟩)
end Go.Proofs.YtmeegpdjhcilkaaDoor
