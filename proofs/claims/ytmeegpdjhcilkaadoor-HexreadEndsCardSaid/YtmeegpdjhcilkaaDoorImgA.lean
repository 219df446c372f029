/-
  The memory of an image: one block of 131073 cells; what New lays; relations between worlds.
-/
import Derived.Test.YtmeegpdjhcilkaaDoorProg
import Derived.WalkKit
import Derived.WalkSpells
import Derived.WalkLawsBesides
import Derived.Lib.Hide
import Derived.KernelRfl
import Derived.Deep.OwnRows
import Derived.Below
namespace Go.Proofs.YtmeegpdjhcilkaaDoor.Im
open Go.RowKit
set_option linter.unusedVariables false

/-! ### The zero value of an image -/
def isF : Value → Bool | .bool false => true | _ => false
def isI0 : Value → Bool | .int .i64 0 => true | _ => false
def isU0 : Value → Bool | .int .u8 0 => true | _ => false
theorem isF_eq {v : Value} (h : isF v = true) : v = .bool false := by
  unfold isF at h; split at h <;> simp_all
theorem isI0_eq {v : Value} (h : isI0 v = true) : v = .int .i64 0 := by
  unfold isI0 at h; split at h <;> simp_all
theorem isU0_eq {v : Value} (h : isU0 v = true) : v = .int .u8 0 := by
  unfold isU0 at h; split at h <;> simp_all
/-- The list behind its first n members, if they all have the property. -/
noncomputable def eat (p : Value → Bool) (n : Nat) : List Value → Option (List Value) :=
  Nat.rec (motive := fun _ => List Value → Option (List Value)) (fun l => some l) (fun _ ih l => match l with | [] => none | v :: t => match p v with | true => ih t | false => none) n
theorem eat_spec (p : Value → Bool) (x : Value) (hp : ∀ v, p v = true → v = x) : ∀ (n : Nat) (l r : List Value), eat p n l = some r → l = List.replicate n x ++ r := by
  intro n
  induction n with
  | zero =>
    intro l r h
    have h' : some l = some r := h
    cases h'
    rfl
  | succ n ih =>
    intro l r h
    cases l with
    | nil => simp [eat] at h
    | cons v t =>
      have h' : (match p v with | true => eat p n t | false => none) = some r := h
      cases hv : p v with
      | false => rw [hv] at h'; cases h'
      | true =>
        rw [hv] at h'
        rw [hp v hv, ih t r h']
        rfl
noncomputable def imgZero : Option Value → Bool
  | some (.agg ⟨l⟩) => match eat isF 65536 l with
    | some (v :: r) => match isI0 v with
      | true => match eat isU0 65536 r with
        | some [] => true
        | _ => false
      | false => false
    | _ => false
  | _ => false
theorem imgZero_t : imgZero Tryd.t87.zero = true := by kernel_rfl

/-- The cells of an image: is address i defined · how many are · its byte. -/
def imgV (H : Nat → Bool) (n : Int) (D : Nat → UInt8) (i : Nat) : Value :=
  if i < 65536 then .bool (H i) else if i = 65536 then .int .i64 n else .int .u8 ((D (i - 65537)).toNat : Int)
theorem imgV_in {H : Nat → Bool} {n : Int} {D : Nat → UInt8} {i : Nat} (h : i < 65536) : imgV H n D i = .bool (H i) := by unfold imgV; rw [if_pos h]
theorem imgV_n {H : Nat → Bool} {n : Int} {D : Nat → UInt8} : imgV H n D 65536 = .int .i64 n := rfl
theorem imgV_b {H : Nat → Bool} {n : Int} {D : Nat → UInt8} {i : Nat} : imgV H n D (65537 + i) = .int .u8 ((D i).toNat : Int) := by
  unfold imgV; rw [if_neg (by omega), if_neg (by omega), show 65537 + i - 65537 = i by omega]
theorem imgZero_spec {z : Option Value} (h : imgZero z = true) : ∃ c : Array Value, z = some (.agg c) ∧ c.size = 131073 ∧ ∀ i, i < 131073 → c[i]? = some (imgV (fun _ => false) 0 (fun _ => 0) i) := by
  unfold imgZero at h
  split at h
  · rename_i l
    split at h
    · rename_i v r h1
      split at h
      · rename_i h2
        split at h
        · rename_i h3
          have e1 := eat_spec isF _ (fun _ => isF_eq) _ _ _ h1
          have e2 := isI0_eq h2
          have e3 := eat_spec isU0 _ (fun _ => isU0_eq) _ _ _ h3
          subst e2
          subst e3
          refine ⟨⟨l⟩, rfl, ?_, fun i hi => ?_⟩
          · show l.length = 131073
            rw [e1]
            simp only [List.length_append, List.length_replicate, List.length_cons, List.length_nil]
          · show (⟨l⟩ : Array Value)[i]? = _
            rw [List.getElem?_toArray, e1]
            unfold imgV
            by_cases h4 : i < 65536
            · rw [if_pos h4, List.getElem?_append_left (by rw [List.length_replicate]; exact h4), List.getElem?_replicate, if_pos h4]
            · rw [if_neg h4, List.getElem?_append_right (by simp only [List.length_replicate]; omega), List.length_replicate]
              by_cases h5 : i = 65536
              · rw [if_pos h5, h5]; rfl
              · rw [if_neg h5, show i - 65536 = (i - 65537) + 1 by omega, List.getElem?_cons_succ, List.append_nil, List.getElem?_replicate, if_pos (by omega)]
                rfl
        · cases h
      · cases h
    · cases h
  · cases h

/-- Block b is an image. -/
def ImgF (w : World) (b : Nat) (H : Nat → Bool) (n : Int) (D : Nat → UInt8) : Prop := w.rowIs b 87 131073 (imgV H n D)
theorem ImgF.cellH {w : World} {b : Nat} {H : Nat → Bool} {n : Int} {D : Nat → UInt8} (h : ImgF w b H n D) {i : Nat} (hi : i < 65536) : w.cell? ⟨b, i, none⟩ = some (.bool (H i)) := by
  rw [World.rowIs.cell h (by omega), imgV_in hi]
theorem ImgF.cellN {w : World} {b : Nat} {H : Nat → Bool} {n : Int} {D : Nat → UInt8} (h : ImgF w b H n D) : w.cell? ⟨b, 65536, none⟩ = some (.int .i64 n) := World.rowIs.cell h (by omega)
theorem ImgF.cellD {w : World} {b : Nat} {H : Nat → Bool} {n : Int} {D : Nat → UInt8} (h : ImgF w b H n D) {i : Nat} (hi : i < 65536) : w.cell? ⟨b, 65537 + i, none⟩ = some (.int .u8 ((D i).toNat : Int)) := by
  rw [World.rowIs.cell h (by omega), imgV_b]
theorem ImgF.setH {w : World} {b : Nat} {H : Nat → Bool} {n : Int} {D : Nat → UInt8} (h : ImgF w b H n D) {i : Nat} (hi : i < 65536) (x : Bool) :
    ImgF (w.setCell ⟨b, i, none⟩ (.bool x)) b (fun j => if j = i then x else H j) n D :=
  World.rowIs.congr (World.rowIs.set h i _) fun j hj => by
    by_cases e : j = i
    · subst e; rw [if_pos rfl, imgV_in hi, if_pos rfl]
    · rw [if_neg e]; unfold imgV; simp only [if_neg e]
theorem ImgF.setN {w : World} {b : Nat} {H : Nat → Bool} {n : Int} {D : Nat → UInt8} (h : ImgF w b H n D) (x : Int) :
    ImgF (w.setCell ⟨b, 65536, none⟩ (.int .i64 x)) b H x D :=
  World.rowIs.congr (World.rowIs.set h 65536 _) fun j hj => by
    by_cases e : j = 65536
    · subst e; rw [if_pos rfl]; rfl
    · rw [if_neg e]; unfold imgV; rw [if_neg e, if_neg e]
theorem ImgF.setD {w : World} {b : Nat} {H : Nat → Bool} {n : Int} {D : Nat → UInt8} (h : ImgF w b H n D) (i : Nat) (x : UInt8) :
    ImgF (w.setCell ⟨b, 65537 + i, none⟩ (.int .u8 (x.toNat : Int))) b H n (fun j => if j = i then x else D j) :=
  World.rowIs.congr (World.rowIs.set h (65537 + i) _) fun j hj => by
    by_cases e : j = 65537 + i
    · subst e; rw [if_pos rfl, imgV_b, if_pos rfl]
    · rw [if_neg e]; unfold imgV
      by_cases h1 : j < 65536
      · rw [if_pos h1, if_pos h1]
      · rw [if_neg h1, if_neg h1]
        by_cases h2 : j = 65536
        · rw [if_pos h2, if_pos h2]
        · rw [if_neg h2, if_neg h2]; simp only [if_neg (show ¬ j - 65537 = i by omega)]
theorem ImgF.congr {w : World} {b : Nat} {H H' : Nat → Bool} {n : Int} {D D' : Nat → UInt8} (h : ImgF w b H n D) (h1 : ∀ i, i < 65536 → H i = H' i) (h2 : ∀ i, i < 65536 → D i = D' i) : ImgF w b H' n D' :=
  World.rowIs.congr h fun j hj => by
    unfold imgV
    by_cases e : j < 65536
    · rw [if_pos e, if_pos e, h1 j e]
    · rw [if_neg e, if_neg e]
      by_cases e2 : j = 65536
      · rw [if_pos e2, if_pos e2]
      · rw [if_neg e2, if_neg e2, h2 _ (by omega)]

/-! ### Nothing but block b is changed -/
structure Keep (b : Nat) (w w' : World) : Prop where
  os : w'.os = w.os
  tape : w'.tape = w.tape
  output : w'.output = w.output
  size : w.heap.size ≤ w'.heap.size
  block : ∀ k, k < w.heap.size → k ≠ b → w'.heap[k]? = w.heap[k]?
theorem Keep.refl (b : Nat) (w : World) : Keep b w w := ⟨rfl, rfl, rfl, Nat.le_refl _, fun _ _ _ => rfl⟩
theorem Keep.trans {b : Nat} {w w1 w2 : World} (h : Keep b w w1) (k : Keep b w1 w2) : Keep b w w2 :=
  ⟨k.os.trans h.os, k.tape.trans h.tape, k.output.trans h.output, Nat.le_trans h.size k.size, fun i hi hn => (k.block i (Nat.lt_of_lt_of_le hi h.size) hn).trans (h.block i hi hn)⟩
theorem Keep.of_below {b : Nat} {w w' : World} (h : Below w.heap.size w w') : Keep b w w' := ⟨h.os, h.tape, h.output, h.size, fun i hi _ => h.block i hi⟩
theorem Keep.below {b B : Nat} {w w' : World} (h : Keep b w w') (hB : B ≤ b) (hs : B ≤ w.heap.size) : Below B w w' := ⟨h.os, h.tape, h.output, h.size, fun i hi => h.block i (by omega) (by omega)⟩
theorem Keep.setCell {b : Nat} {w w' : World} (h : Keep b w w') (o : Nat) (s : Option Nat) (u : Value) : Keep b w (w'.setCell ⟨b, o, s⟩ u) :=
  h.trans ⟨rfl, rfl, rfl, by simp [World.setCell], fun k _ hk => Below.heap_setCell _ _ _ _ hk⟩
theorem Keep.alloc {b : Nat} {w w' : World} (h : Keep b w w') (o : Obj) : Keep b w (w'.alloc o) :=
  h.trans ⟨rfl, rfl, rfl, by simp, fun k hk _ => Below.heap_alloc _ _ _ hk⟩
theorem Keep.drewN {b : Nat} {w w' : World} (h : Keep b w w') (n : Nat) : Keep b w (w'.drewN n) := ⟨h.os, h.tape, h.output, h.size, h.block⟩
theorem ImgF.below {w w' : World} {b : Nat} {H : Nat → Bool} {n : Int} {D : Nat → UInt8} (h : ImgF w b H n D) (k : Below w.heap.size w w') : ImgF w' b H n D := World.rowIs.of_block h (k.block b (World.rowIs.lt h))
theorem ImgF.keep {w w' : World} {b a : Nat} {H : Nat → Bool} {n : Int} {D : Nat → UInt8} (h : ImgF w b H n D) (k : Keep a w w') (hn : b ≠ a) : ImgF w' b H n D := World.rowIs.of_block h (k.block b (World.rowIs.lt h) hn)

/-! ### New -/
/-- A pointer to an image that the call made. -/
def NewImg (w : World) (H : Nat → Bool) (n : Int) (D : Nat → UInt8) (e : Ending) (w' : World) : Prop :=
  ∃ b, e = .returned (.pointer (some ⟨b, 0, none⟩)) ∧ w.heap.size ≤ b ∧ ImgF w' b H n D ∧ Below w.heap.size w w'
theorem zero_value (c : Array Value) (hz : Tryd.t87.zero = some (.agg c)) (w : World) : (zeroValue 87).run Tryd.prog w = .ok (.agg c) w := by
  simp only [zeroValue, Sem.run_bind, Tryd.typeInfo87, Result.andThen_ok, hz, Sem.run_pure]
theorem new_any (w : World) : Calls Tryd.prog 28 #[] w (NewImg w (fun _ => false) 0 (fun _ => 0)) := by
  obtain ⟨c, hz, hs, hc⟩ := imgZero_spec imgZero_t
  have hb := zero_value c hz
  have N : Hid (NewImg w (fun _ => false) 0 (fun _ => 0) (.returned (.pointer (some ⟨w.heap.size, 0, none⟩))) (w.alloc (.cells c 87))) := by
    refine ⟨w.heap.size, rfl, Nat.le_refl _, ?_, (Below.refl _ _).alloc (Nat.le_refl _) _⟩
    have h := World.rowIs_alloc w c 87 (imgV (fun _ => false) 0 (fun _ => 0)) (fun i hi => hc i (by omega))
    rw [hs] at h
    exact h
  clear hz hs hc
  go_enter Tryd.func28, Tryd.ntmps28
  go_wp2
  go_ret
  exact N.out
end Go.Proofs.YtmeegpdjhcilkaaDoor.Im
