/-
  Slices of bytes and of strings, strings.Builder, strings.Join at a comma: walks over the library, in a namespace of their own.
-/
import Derived.Test.YtbcbhdhhinopaaaDoorNumP
import Derived.Test.YtbcbhdhhinopaaaDoorMixed
import Derived.RangeFuncBox

import Derived.OwnWalk
import Derived.Laws.AppendOwn
import Derived.Laws.OwnMore
import Derived.OneCell
import Derived.Laws.BytesArg
import Derived.Lib.Builder
import Derived.Lib.AppendStr
import Derived.Lib.UnsafeStr
import Derived.Laws.Externs
import Derived.RegionTactic
import Derived.Lib.MakeNoZero
import Derived.Laws.IdiomCopy
import Derived.Deep.OwnRows
namespace Go.Proofs.YtbcbhdhhinopaaaDoor.St
open Go.RowKit Go.Proofs.YtbcbhdhhinopaaaDoor
set_option linter.unusedVariables false

theorem below_drewN' (w : World) (q : Nat) : Below w.heap.size w (w.drewN q) := ⟨rfl, rfl, rfl, Nat.le_refl _, fun _ _ => rfl⟩
def subA (A : Option Addr) (l m : Nat) : Option Addr := if m = l then A else A.map (·.add (l * 1))
theorem subA_zero (A : Option Addr) (m : Nat) : subA A 0 m = A := by
  unfold subA
  split
  · rfl
  · cases A <;> simp [Addr.add]
theorem elem_B : Tryd.prog.elem 56 = 5 := by unfold Program.elem; rw [Tryd.underlying56]
theorem und_B : Tryd.prog.underlying 56 = some (.slice (Tryd.prog.elem 56)) := by rw [elem_B]; exact Tryd.underlying56
theorem slB_h (A : Option Addr) (len cap n : Nat) (hn : n ≤ cap) (w : World) :
    (Instr.slice 56 (.slice A len cap) none (some (.int .i64 (n : Int))) none).run Tryd.prog w = .ok (.slice A n cap) w := by
  rw [run_slice_h w 56 A len cap und_B .i64 (n : Int) (by omega) (by omega), elem_B, Tryd.sizeOf5]
  simp only [Result.andThen_ok, sliced]
  have e := subA_zero A cap
  unfold subA at e
  rw [e, show ((n : Int)).toNat - 0 = n by omega, Nat.sub_zero]
theorem slB_l (A : Option Addr) (len cap n : Nat) (hn : n ≤ len) (w : World) :
    (Instr.slice 56 (.slice A len cap) (some (.int .i64 (n : Int))) none none).run Tryd.prog w = .ok (.slice (subA A n cap) (len - n) (cap - n)) w := by
  rw [run_slice_l w 56 A len cap und_B .i64 (n : Int) (by omega) (by omega), elem_B, Tryd.sizeOf5]
  simp only [Result.andThen_ok, sliced]
  rw [show ((n : Int)).toNat = n by omega]
  rfl

/-! ### The blocks with the property P are as they were -/
structure KeptP (P : Nat → Prop) (w w' : World) : Prop where
  os : w'.os = w.os
  tape : w'.tape = w.tape
  output : w'.output = w.output
  size : w.heap.size ≤ w'.heap.size
  block : ∀ i, i < w.heap.size → P i → w'.heap[i]? = w.heap[i]?
theorem KeptP.refl (P : Nat → Prop) (w : World) : KeptP P w w := ⟨rfl, rfl, rfl, Nat.le_refl _, fun _ _ _ => rfl⟩
theorem KeptP.trans {P : Nat → Prop} {w w1 w2 : World} (h : KeptP P w w1) (k : KeptP P w1 w2) : KeptP P w w2 :=
  ⟨k.os.trans h.os, k.tape.trans h.tape, k.output.trans h.output, Nat.le_trans h.size k.size, fun i hi hp => (k.block i (Nat.lt_of_lt_of_le hi h.size) hp).trans (h.block i hi hp)⟩
theorem KeptP.mono {P Q : Nat → Prop} {w w' : World} (h : KeptP P w w') (hQ : ∀ i, i < w.heap.size → Q i → P i) : KeptP Q w w' := ⟨h.os, h.tape, h.output, h.size, fun i hi hq => h.block i hi (hQ i hi hq)⟩
theorem KeptP.of_below {P : Nat → Prop} {B : Nat} {w w' : World} (h : Below B w w') (hP : ∀ i, i < w.heap.size → P i → i < B) : KeptP P w w' := ⟨h.os, h.tape, h.output, h.size, fun i hi hp => h.block i (hP i hi hp)⟩
theorem KeptP.of_all {P : Nat → Prop} {w w' : World} (h : Below w.heap.size w w') : KeptP P w w' := KeptP.of_below h fun i hi _ => hi
theorem KeptP.below {P : Nat → Prop} {B : Nat} {w w' : World} (h : KeptP P w w') (hB : ∀ i, i < B → P i) (hs : B ≤ w.heap.size) : Below B w w' := ⟨h.os, h.tape, h.output, h.size, fun i hi => h.block i (by omega) (hB i hi)⟩
theorem KeptP.setCell {P : Nat → Prop} {w w' : World} (h : KeptP P w w') {p : Addr} (hp : ¬ P p.block) (u : Value) : KeptP P w (w'.setCell p u) :=
  h.trans ⟨rfl, rfl, rfl, by simp [World.setCell], fun i hi hpi => Below.heap_setCell _ _ _ _ (fun e => hp (e ▸ hpi))⟩
theorem KeptP.put {P : Nat → Prop} (w : World) (p : Addr) (hp : ¬ P p.block) (u : Value) : KeptP P w (w.setCell p u) := (KeptP.refl _ _).setCell hp u
theorem KeptP.alloc {P : Nat → Prop} {w w' : World} (h : KeptP P w w') (o : Obj) : KeptP P w (w'.alloc o) :=
  h.trans ⟨rfl, rfl, rfl, by simp, fun i hi _ => Below.heap_alloc _ _ _ hi⟩
theorem KeptP.drew {P : Nat → Prop} {w w' : World} (h : KeptP P w w') : KeptP P w w'.drew := ⟨h.os, h.tape, h.output, h.size, h.block⟩
theorem KeptP.drewN {P : Nat → Prop} {w w' : World} (h : KeptP P w w') (n : Nat) : KeptP P w (w'.drewN n) := ⟨h.os, h.tape, h.output, h.size, h.block⟩
theorem KeptP.grown {P : Nat → Prop} {w w1 w2 : World} {row : Option Nat} (h : KeptP P w w1) (hg : w1.grownBy w2 row) (hr : ∀ k, row = some k → ¬ P k) : KeptP P w w2 :=
  h.trans ⟨hg.os, hg.tape, hg.output, hg.size, fun i hi hp => hg.block i hi (fun e => hr i e.symm hp)⟩
theorem KeptP.cell {P : Nat → Prop} {w w' : World} (h : KeptP P w w') {p : Addr} (hi : p.block < w.heap.size) (hp : P p.block) : w'.cell? p = w.cell? p := World.cell?_of_block (w := w) (h.block p.block hi hp)
theorem KeptP.frozen {P : Nat → Prop} {w w' : World} (h : KeptP P w w') {p : Addr} (hi : p.block < w.heap.size) (hp : P p.block) : w'.frozen? p = w.frozen? p := World.frozen?_of_block (w := w) (h.block p.block hi hp)

/-! ### Slices of bytes: their blocks have the property P -/
def BytesP (P : Nat → Prop) (w : World) (A : Option Addr) (xs : List UInt8) : Prop :=
  xs = [] ∨ ∃ b off, A = some ⟨b, off, none⟩ ∧ P b ∧ ∀ j (h : j < xs.length), w.cell? ⟨b, off + j, none⟩ = some (.int .u8 (xs[j].toNat : Int))
theorem BytesP.at_ {P : Nat → Prop} {w : World} {A : Option Addr} {xs : List UInt8} (h : BytesP P w A xs) {k : Nat} (hk : k < xs.length) : ∃ b off, A = some ⟨b, off, none⟩ ∧ w.cell? ⟨b, off + k, none⟩ = some (.int .u8 (xs[k].toNat : Int)) := by
  rcases h with rfl | ⟨b, off, rfl, _, hc⟩
  · simp at hk
  · exact ⟨b, off, rfl, hc k hk⟩
theorem BytesP.atP {P : Nat → Prop} {w : World} {A : Option Addr} {xs : List UInt8} (h : BytesP P w A xs) {k : Nat} (hk : k < xs.length) : ∃ b off, A = some ⟨b, off, none⟩ ∧ P b ∧ w.cell? ⟨b, off + k, none⟩ = some (.int .u8 (xs[k].toNat : Int)) := by
  rcases h with rfl | ⟨b, off, rfl, hp, hc⟩
  · simp at hk
  · exact ⟨b, off, rfl, hp, hc k hk⟩
theorem BytesP.mono {P Q : Nat → Prop} {w : World} {A : Option Addr} {xs : List UInt8} (h : BytesP P w A xs) (hPQ : ∀ i, i < w.heap.size → P i → Q i) : BytesP Q w A xs := by
  by_cases hx : xs = []
  · exact .inl hx
  · rcases h with rfl | ⟨b, off, rfl, hp, hc⟩
    · exact .inl rfl
    · exact .inr ⟨b, off, rfl, hPQ b (World.block_lt_of_cell? w _ (hc 0 (List.length_pos_iff.2 hx))) hp, hc⟩
theorem BytesP.blocks {P : Nat → Prop} {w w' : World} {A : Option Addr} {xs : List UInt8} (h : BytesP P w A xs) (hk : ∀ i, i < w.heap.size → P i → w'.heap[i]? = w.heap[i]?) : BytesP P w' A xs := by
  rcases h with rfl | ⟨b, off, rfl, hp, hc⟩
  · exact .inl rfl
  · refine .inr ⟨b, off, rfl, hp, fun j hj => ?_⟩
    exact (World.cell?_of_block (w := w) (hk b (World.block_lt_of_cell? w _ (hc j hj)) hp)).trans (hc j hj)
theorem BytesP.below {P : Nat → Prop} {w w' : World} {A : Option Addr} {xs : List UInt8} (h : BytesP P w A xs) (hb : Below w.heap.size w w') : BytesP P w' A xs := h.blocks fun i hi _ => hb.block i hi
theorem BytesP.kept {P Q : Nat → Prop} {w w' : World} {A : Option Addr} {xs : List UInt8} (h : BytesP P w A xs) (hb : KeptP Q w w') (hPQ : ∀ i, i < w.heap.size → P i → Q i) : BytesP P w' A xs := h.blocks fun i hi hp => hb.block i hi (hPQ i hi hp)
theorem BytesP.drewN {P : Nat → Prop} {w : World} {A : Option Addr} {xs : List UInt8} (h : BytesP P w A xs) (n : Nat) : BytesP P (w.drewN n) A xs := h.blocks fun _ _ _ => rfl
theorem BytesP.toB {P : Nat → Prop} {w : World} {A : Option Addr} {xs : List UInt8} (h : BytesP P w A xs) : BytesB w A xs := by
  rcases h with rfl | ⟨b, off, rfl, _, hc⟩
  · exact .inl rfl
  · exact .inr ⟨b, off, rfl, hc⟩

/-- The string of bytes. -/
def strOf (xs : List UInt8) : ByteArray := ⟨xs.toArray⟩
theorem conv_bytes {P : Nat → Prop} {w : World} {A : Option Addr} {xs : List UInt8} (h : BytesP P w A xs) (cap : Nat) :
    (convert 56 9 (.slice A xs.length cap)).run Tryd.prog w = .ok (.string (strOf xs)) w := by
  cases A with
  | none =>
    obtain rfl : xs = [] := by
      rcases h with h | ⟨b, off, h, _⟩
      · exact h
      · cases h
    rw [run_convert_bytes_nil (P := Tryd.prog) w 56 5 Tryd.underlying56 Tryd.underlying5 _ _ 9 Tryd.underlying9]
    rfl
  | some a =>
    refine run_convert_bytes_back w 56 9 5 a cap xs Tryd.underlying56 Tryd.underlying5 Tryd.underlying9 (fun j hj => ?_)
    rcases h with rfl | ⟨b, off, e, _, hc⟩
    · simp at hj
    · cases e
      have h1 := hc j hj
      unfold Addr.add
      split
      · rename_i h0; subst h0; simpa using h1
      · exact h1
theorem strOf_eq (xs ys : List UInt8) : ((strOf xs).toList == (strOf ys).toList) = decide (xs = ys) := by
  rw [ByteArray.toList_eq, ByteArray.toList_eq]
  unfold strOf
  simp only
  by_cases h : xs = ys
  · rw [h]; simp
  · rw [decide_eq_false h]; simpa using h
theorem strOf_inj {x y : List UInt8} (h : strOf x = strOf y) : x = y := by
  have := congrArg (fun s : ByteArray => s.data.toList) h
  simpa [strOf] using this
theorem strOf_list (x : List UInt8) : (strOf x).data.toList = x := by simp [strOf]
theorem list_strOf (s : ByteArray) : strOf s.data.toList = s := by apply bytes_ext; rw [strOf_list]

/-- Block b is a builder: 'addr' holds p; its buffer v holds the bytes bs. -/
def Bld (b : Nat) (w : World) (p v : Value) (bs : List UInt8) : Prop :=
  w.heap[b]? = some (.cells #[p, v] 74 (0, 0)) ∧ w.ownsRow 0 5 1 v bs.length (bs.map u8V) ∧ v.ownBlock ≠ some b
def selfP (b : Nat) : Value := .pointer (some ⟨b, 0, none⟩)
theorem Bld.lt {b : Nat} {w : World} {p v : Value} {bs : List UInt8} (h : Bld b w p v bs) : b < w.heap.size := lt_of_block h.1
theorem Bld.c0 {b : Nat} {w : World} {p v : Value} {bs : List UInt8} (h : Bld b w p v bs) : w.cell? ⟨b, 0, none⟩ = some p := by rw [Lib.cell_of_heap h.1]; rfl
theorem Bld.c1 {b : Nat} {w : World} {p v : Value} {bs : List UInt8} (h : Bld b w p v bs) : w.cell? ⟨b, 1, none⟩ = some v := by rw [Lib.cell_of_heap h.1]; rfl
theorem Bld.f {b : Nat} {w : World} {p v : Value} {bs : List UInt8} (h : Bld b w p v bs) (j : Nat) : w.frozen? ⟨b, j, none⟩ = false := Lib.frozen_of_heap h.1 j
theorem Bld.shape {b : Nat} {w : World} {p v : Value} {bs : List UInt8} (h : Bld b w p v bs) : w.shape? b = some (74, 2) := by
  simp [World.shape?, h.1]
theorem Bld.fresh (w : World) (n : Nat) (hn : w.heap.size = n) : Bld n (w.alloc (.cells #[.pointer none, .slice none 0 0] 74)) (.pointer none) (.slice none 0 0) [] := by
  subst hn
  exact ⟨heap_alloc_new w _, World.ownsRow_nil _ _ _ _, by simp [Value.ownBlock]⟩
theorem Bld.set0 {b : Nat} {w : World} {p v : Value} {bs : List UInt8} (h : Bld b w p v bs) (q : Value) : Bld b (w.setCell ⟨b, 0, none⟩ q) q v bs := by
  obtain ⟨hb, hown, hne⟩ := h
  refine ⟨by simp [World.setCell, Array.getElem?_modify, hb], ?_, hne⟩
  exact hown.kept (row := some b) ⟨rfl, rfl, rfl, by simp [World.setCell], fun k _ hk => Below.heap_setCell _ _ _ _ (fun e => hk (by simp [e]))⟩ (Or.inr hne)
theorem neBld : (74 : TypeId) ≠ 5 := by decide
theorem Bld.set1 {b : Nat} {w : World} {p v v' : Value} {bs' : List UInt8} (hb : w.heap[b]? = some (.cells #[p, v] 74 (0, 0))) (hown : w.ownsRow 0 5 1 v' bs'.length (bs'.map u8V)) : Bld b (w.setCell ⟨b, 1, none⟩ v') p v' bs' := by
  have hne := Lib.ownBlock_ne hown hb neBld
  refine ⟨by simp [World.setCell, Array.getElem?_modify, hb], ?_, hne⟩
  exact hown.kept (row := some b) ⟨rfl, rfl, rfl, by simp [World.setCell], fun k _ hk => Below.heap_setCell _ _ _ _ (fun e => hk (by simp [e]))⟩ (Or.inr hne)
theorem Bld.kept {b : Nat} {P : Nat → Prop} {w w' : World} {p v : Value} {bs : List UInt8} (h : Bld b w p v bs) (k : KeptP P w w') (hP : P b) (hv : ∀ g, v.ownBlock = some g → P g) : Bld b w' p v bs := by
  obtain ⟨hb, hown, hne⟩ := h
  refine ⟨(k.block b (lt_of_block hb) hP).trans hb, ?_, hne⟩
  obtain ⟨h1, h2⟩ := hown
  refine ⟨h1, ?_⟩
  rcases h2 with h2 | ⟨g, cap, cur, rfl, hg, hh, r⟩
  · exact .inl h2
  · exact .inr ⟨g, cap, cur, rfl, hg, (k.block g (lt_of_block hh) (hv g rfl)).trans hh, r⟩

theorem sizeBuilder : ∃ j, Tryd.prog.info? 74 = some j ∧ j.size = 2 := Option.map_eq_some_iff.1 (show (Tryd.prog.info? 74).map (·.size) = some 2 by kernel_rfl)
theorem liesBuilder : liesAt Tryd.prog Tryd.prog.depth 74 (2 / Tryd.prog.cellsOf 74) 0 74 1 = true := by kernel_rfl
set_option maxHeartbeats 1000000 in
theorem copyCheck_used (b : Nat) (w : World) (v : Value) (bs : List UInt8) (h : Bld b w (selfP b) v bs) :
    Calls Tryd.prog 74 #[.pointer (some ⟨b, 0, none⟩)] w fun e w' => e = .returned (.tuple #[]) ∧ w = w' := by
  obtain ⟨j, hj, _⟩ := sizeBuilder
  have h0 := h.c0
  unfold selfP at h0
  have hq := Lib.run_neq_ptr_same (P := Tryd.prog) w ⟨b, 0, none⟩ Tryd.underlying72 hj
  clear h
  go_enter Tryd.func74, Tryd.ntmps74
  go_wp2
  go_end0
  exact ⟨rfl, rfl⟩
set_option maxRecDepth 100000 in
set_option maxHeartbeats 1000000 in
theorem copyCheck_fresh (b : Nat) (w : World) (v : Value) (bs : List UInt8) (h : Bld b w (.pointer none) v bs) :
    Calls Tryd.prog 74 #[.pointer (some ⟨b, 0, none⟩)] w fun e w' => e = .returned (.tuple #[]) ∧ w.setCell ⟨b, 0, none⟩ (.pointer (some ⟨b, 0, none⟩)) = w' := by
  obtain ⟨j, hj, hjs⟩ := sizeBuilder
  have h0 := h.c0
  have hf := h.f 0
  have hsh := h.shape
  clear h
  go_enter Tryd.func74, Tryd.ntmps74
  go_wp2
  rw [Lib.run_to_unsafe w ⟨b, 0, none⟩ Tryd.underlying72 Tryd.underlying102 hj (by rw [hjs]; decide) hsh (Nat.zero_lt_succ 1)]
  simp only [Result.andThen]
  rw [Oper.upon_value]
  go_wp2
  rw [run_callFunc_extern Tryd.func86 (by kernel_rfl) (by kernel_rfl) (by kernel_rfl) (e := Extern.AbiNoEscape.same) (by kernel_rfl)]
  rw [Lib.run_noEscape]
  simp only [Result.andThen]
  rw [Oper.upon_value]
  go_wp2
  rw [Lib.run_from_unsafe w ⟨b, 0, none⟩ Tryd.underlying102 Tryd.underlying72 hj hsh liesBuilder]
  simp only [Result.andThen]
  rw [Oper.upon_value]
  go_wp2
  go_end0
  exact ⟨rfl, rfl⟩

/-- What WriteByte leaves of a fresh builder. -/
def RetW1 (b : Nat) (w : World) (c : UInt8) (e : Ending) (w' : World) : Prop :=
  e = .returned .nilIface ∧ ∃ v', Bld b w' (selfP b) v' [c] ∧ (∀ g, v'.ownBlock = some g → w.heap.size ≤ g) ∧ KeptP (· ≠ b) w w'

theorem strCells_u8V (s : ByteArray) : Lib.strCells s = s.data.toList.map u8V := rfl
/-- append(v, s...): where the result lies. -/
theorem app_str {w : World} {v : Value} {bs : List UInt8} (hown : w.ownsRow 0 5 1 v bs.length (bs.map u8V)) (s : ByteArray) (hlen : bs.length + s.size ≤ 140737488355328) (ty : TypeId) :
    ∃ v' w', (Builtin.append_ #[56, 9] ty #[v, .string s]).run Tryd.prog w = .ok v' w' ∧ w'.ownsRow 0 5 1 v' (bs ++ s.data.toList).length ((bs ++ s.data.toList).map u8V) ∧ w.grownBy w' v.ownBlock ∧
      ∀ g, v'.ownBlock = some g → v.ownBlock = some g ∨ w.heap.size ≤ g := by
  obtain ⟨i0, hi, hz0, hz1, hz2⟩ := info_parts info_u8
  have h63 : bs.length + s.size ≤ maxLen := by unfold maxLen; omega
  obtain ⟨v', w', hr, h2, h3, _⟩ := Lib.run_append_own_string (P := Tryd.prog) w 0 56 9 ty 5 i0 Tryd.underlying56 Tryd.underlying9 hi hz0 hz1 hz2 v bs.length (bs.map u8V) hown s h63 hlen (Nat.zero_le _)
  refine ⟨v', w', hr, ?_, h3, ?_⟩
  · rw [strCells_u8V] at h2
    rw [List.length_append, List.map_append]
    have e : s.data.toList.length = s.size := by simp
    rw [e]
    exact h2
  · intro g hg
    rcases hown.2 with ⟨rfl, h0⟩ | ⟨b, cap, cur, rfl, hb, hbk, hn, hm, hsz, ht⟩
    · obtain ⟨v'', w'', hr2, k2, _⟩ := Lib.run_append_own_string (P := Tryd.prog) w w.heap.size 56 9 ty 5 i0 Tryd.underlying56 Tryd.underlying9 hi hz0 hz1 hz2 (.slice none 0 0) 0 [] (World.ownsRow_nil _ _ _ _) s (by unfold maxLen; omega) (by omega) (Nat.le_refl _)
      have e := hr.symm.trans hr2
      injection e with e1 e2
      subst e1
      exact .inr (k2.lt g hg).1
    · by_cases hroom : bs.length + s.size ≤ cap
      · have hr2 := Lib.run_append_room_string (P := Tryd.prog) w 56 9 ty 5 i0 Tryd.underlying56 Tryd.underlying9 hi hz1 b bs.length cap cur hbk s hroom (by omega)
        have e := hr.symm.trans hr2
        injection e with e1 e2
        subst e1
        exact .inl hg
      · have holds : ∀ j u, (bs.map u8V)[j]? = some u → w.cell? ((⟨b, 0, none⟩ : Addr).add j) = some u := hown.cells (g := b) rfl
        have hr2 := Lib.run_append_grow_string (P := Tryd.prog) w 56 9 ty 5 i0 (.int .u8 0) Tryd.underlying56 Tryd.underlying9 hi hz0 ⟨b, 0, none⟩ bs.length cap (bs.map u8V) (by rw [hz1]; simp) holds s (by omega) (by omega) (by rw [hz2]; exact growslice_fits (by omega) (by omega))
        have e := hr.symm.trans hr2
        injection e with e1 e2
        subst e1
        simp only [Value.ownBlock, Option.some.injEq] at hg
        exact .inr (by omega)
theorem wpList_app_str {w w1 : World} {t u ty : TypeId} {v v' : Value} {s : ByteArray} (h1 : (Builtin.append_ #[t, u] ty #[v, .string s]).run Tryd.prog w = .ok v' w1) {ops : Array Oper} {rest : List Oper} {o : Oper} {a : Act} {Q : Exit → Act → World → Prop} (hgd : o.guard = none) (sl x : Operand)
    (ho : o.op = .call { callee := .builtin .append, args := #[sl, x], argTypes := #[t, u] }) (hty : o.type = ty) (hs : a.eval sl = v) (hx : a.eval x = .string s) (hk : wpList Tryd.prog ops Q rest (a.put o.dst v') w1) : wpList Tryd.prog ops Q (o :: rest) a w := by
  subst hty
  refine wpList_plain hgd fun K hK => ?_
  unfold Oper.wp
  simp [execOp, ho, resolve, invoke, builtin, hs, hx, h1, Result.andThen]
  exact hK _ _ hk

/-- What WriteString leaves. -/
def RetWS (b : Nat) (w : World) (v : Value) (bs : List UInt8) (s : ByteArray) (e : Ending) (w' : World) : Prop :=
  e = .returned (.tuple #[.int .i64 s.size, .nilIface]) ∧ ∃ v', Bld b w' (selfP b) v' (bs ++ s.data.toList) ∧ (∀ g, v'.ownBlock = some g → v.ownBlock = some g ∨ w.heap.size ≤ g) ∧ KeptP (fun i => i ≠ b ∧ some i ≠ v.ownBlock) w w'
set_option maxHeartbeats 1000000 in
theorem writeString_any (b : Nat) (w : World) (v : Value) (bs : List UInt8) (s : ByteArray) (hlen : bs.length + s.size ≤ 140737488355328) (h : Bld b w (selfP b) v bs) :
    Calls Tryd.prog 47 #[.pointer (some ⟨b, 0, none⟩), .string s] w (RetWS b w v bs s) := by
  have hcc := copyCheck_used b w v bs h
  obtain ⟨v', w2, hr, hown', hgrow, hblk⟩ := app_str h.2.1 s hlen 56
  have hlt := h.lt
  have hb2 : w2.heap[b]? = some (.cells #[selfP b, v] 74 (0, 0)) := by
    rw [hgrow.block b hlt (fun e => h.2.2 e.symm)]
    exact h.1
  have c1 := h.c1
  have d1 : w2.cell? ⟨b, 1, none⟩ = some v := by rw [Lib.cell_of_heap hb2]; rfl
  have f1 : w2.frozen? ⟨b, 1, none⟩ = false := Lib.frozen_of_heap hb2 1
  have hB := Bld.set1 hb2 hown'
  have hK : KeptP (fun i => i ≠ b ∧ some i ≠ v.ownBlock) w (w2.setCell ⟨b, 1, none⟩ v') := ((KeptP.refl _ _).grown hgrow (fun k hk h => h.2 hk.symm)).setCell (fun h => h.1 rfl) _
  have HB := Lib.hid hB
  have HK := Lib.hid hK
  have HN := Lib.hid hblk
  have HR := Lib.hid hr
  obtain ⟨ao, n', cap', hv'⟩ : ∃ ao n' cap', v' = .slice ao n' cap' := by
    rcases hown'.2 with ⟨hv, _⟩ | ⟨g, cap, cur, hv, _⟩
    · exact ⟨_, _, _, hv⟩
    · exact ⟨_, _, _, hv⟩
  subst hv'
  clear hB hK hblk hr hown' hgrow hb2 h hlt
  go_enter Tryd.func47, Tryd.ntmps47
  go_wp2_with fail
  refine hcc.mono ?_
  rintro e w' ⟨rfl, rfl⟩
  clear hcc
  go_wp2_with (at_builtin; refine wpList_app_str HR.out rfl _ _ rfl rfl rfl rfl ?_)
  go_ret2
  exact ⟨rfl, _, HB.out, HN.out, HK.out⟩

theorem cells_u8 : Tryd.prog.cellsOf 5 = 1 := by kernel_rfl
set_option maxHeartbeats 1000000 in
theorem bString_any (B b : Nat) (w : World) (p v : Value) (bs : List UInt8) (h0 : bs ≠ []) (h : Bld b w p v bs) (hB : ∀ g, v.ownBlock = some g → B ≤ g) :
    Calls Tryd.prog 48 #[.pointer (some ⟨b, 0, none⟩)] w fun e w' => e = .returned (.string (strOf bs)) ∧ Below B w w' := by
  obtain ⟨hbk, hown, hne⟩ := h
  have hl0 : bs.length ≠ 0 := by simpa using h0
  obtain ⟨g, cap, cur, rfl, -, hg, hnc, hcm, hcs, htake⟩ : ∃ g cap cur, v = .slice (some ⟨g, 0, none⟩) bs.length cap ∧ 0 ≤ g ∧ w.heap[g]? = some (.cells cur 5 (0, 0)) ∧ bs.length ≤ cap ∧ cap ≤ maxLen ∧ cur.size = cap * 1 ∧ cur.toList.take (bs.length * 1) = bs.map u8V := by
    rcases hown.2 with ⟨_, hz⟩ | ⟨g, cap, cur, hv, r⟩
    · exact absurd hz hl0
    · exact ⟨g, cap, cur, hv, r⟩
  have c1 : w.drew.cell? ⟨b, 1, none⟩ = some (.slice (some ⟨g, 0, none⟩) bs.length cap) := by
    have : w.drew.heap[b]? = some (.cells #[p, .slice (some ⟨g, 0, none⟩) bs.length cap] 74 (0, 0)) := hbk
    rw [Lib.cell_of_heap this]; rfl
  have hSD : (Builtin.unsafeSliceData_ #[56] 94 #[.slice (some ⟨g, 0, none⟩) bs.length cap]).run Tryd.prog w.drew = .ok (.pointer (some ⟨g, 0, none⟩)) w.drew :=
    Lib.run_unsafeSliceData_row _ _ _ _ _ _ (by omega)
  have hUS : (Builtin.unsafeString_ #[94, 3] 9 #[.pointer (some ⟨g, 0, none⟩), .int .i64 bs.length]).run Tryd.prog w.drew = .ok (.string (strOf bs)) (w.drew.freeze ⟨g, 0, none⟩ bs.length) := by
    refine Lib.run_unsafeString_row w.drew 94 3 9 5 Tryd.underlying94 cells_u8 g cur.size (by have hg' : w.drew.heap[g]? = some (.cells cur 5 (0, 0)) := hg; simp [World.shape?, hg']) bs h0 (by omega) (by unfold maxLen at hcm; omega) ?_
    intro j x hx
    have := hown.cells (g := g) rfl j (.int .u8 x.toNat) (by simp [u8V, hx])
    exact this
  have hbg := hB g rfl
  have N : Hid (Below B w (w.drew.freeze ⟨g, 0, none⟩ bs.length)) := Lib.below_freeze (Below.drew (Below.refl B w)) (p := ⟨g, 0, none⟩) hbg _
  clear hB hbk hown hne hg htake hcs
  go_enter Tryd.func48, Tryd.ntmps48
  go_wp2
  go_region
  all_goals (go_wp2; go_ret; exact ⟨rfl, N.out⟩)

theorem run_append_nothing (w : World) (base : Nat) (t ty e : TypeId) (size : Nat) (ht : Tryd.prog.underlying t = some (.slice e)) (hs : ∀ w, (sizeOf e).run Tryd.prog w = .ok size w)
    (v : Value) (n : Nat) (xs : List Value) (hown : w.ownsRow base e size v n xs) (A : Option Addr) (c : Nat) :
    (Builtin.append_ #[t, t] ty #[v, .slice A 0 c]).run Tryd.prog w = .ok v w := by
  have h0 : ∀ x, (loadCells x 0).run Tryd.prog w = .ok #[] w := fun x => by simpa using run_loadCells_list (P := Tryd.prog) w x [] (by simp)
  rcases hown.2 with ⟨rfl, h⟩ | ⟨g, cap, cur, rfl, hb, hg, hm, hle, _⟩
  · cases A <;> simp [Builtin.append_, run_underlying ht, hs, Builtin.lenOf, Builtin.firstCells, h0]
  · cases A <;> simp [Builtin.append_, run_underlying ht, hs, Builtin.lenOf, Builtin.firstCells, h0, hm, storeCells] <;> omega
theorem run_append_src (w : World) (base : Nat) (t ty e : TypeId) (i : TypeInfo) (z : Value) (size bytes : Nat) (ht : Tryd.prog.underlying t = some (.slice e)) (hi : Tryd.prog.info? e = some i) (hz : i.zero = some z)
    (hsize : i.size = size) (hby : i.bytes = bytes) (hzs : z.cells.size = size) (hsz : 0 < size)
    (v : Value) (n : Nat) (xs : List Value) (hown : w.ownsRow base e size v n xs)
    (A : Option Addr) (m c : Nat) (news : List Value) (hl : news.length = m * size) (hnews : m = 0 ∨ ∃ a, A = some a ∧ ∀ j u, news[j]? = some u → w.cell? (a.add j) = some u) (h1 : ∀ u ∈ news, u.oneCell' = true)
    (h63 : n + m ≤ maxLen) (hbytes : (n + m) * bytes ≤ 140737488355328) (hbase : base ≤ w.heap.size) :
    ∃ v' w', (Builtin.append_ #[t, t] ty #[v, .slice A m c]).run Tryd.prog w = .ok v' w' ∧ w'.ownsRow base e size v' (n + m) (xs ++ news) ∧ w.grownBy w' v.ownBlock := by
  by_cases hm : m = 0
  · subst hm
    have hn0 : news = [] := List.eq_nil_of_length_eq_zero (by omega)
    subst hn0
    refine ⟨v, w, run_append_nothing w base t ty e size ht (fun w => ?_) v n xs hown A c, ?_, World.grownBy.refl _ _⟩
    · simp [sizeOf, typeInfo, hi, hsize]
    · simpa using hown
  · obtain ⟨a, rfl, hn⟩ := hnews.resolve_left hm
    obtain ⟨v', w', h2, h3, h4, _⟩ := run_append_own (P := Tryd.prog) w base t ty e i z size bytes ht hi hz hsize hby hzs hsz v n xs hown a m c news hl hn h1 h63 hbytes hbase
    exact ⟨v', w', h2, h3, h4⟩

theorem wpList_run_append {w w1 : World} {t ty : TypeId} {v y v' : Value} (h1 : (Builtin.append_ #[t, t] ty #[v, y]).run Tryd.prog w = .ok v' w1) {ops : Array Oper} {rest : List Oper} {o : Oper} {a : Act} {Q : Exit → Act → World → Prop} (hgd : o.guard = none) (s x : Operand)
    (ho : o.op = .call { callee := .builtin .append, args := #[s, x], argTypes := #[t, t] }) (hty : o.type = ty) (hs : a.eval s = v) (hx : a.eval x = y) (hk : wpList Tryd.prog ops Q rest (a.put o.dst v') w1) : wpList Tryd.prog ops Q (o :: rest) a w := by
  subst hty
  refine wpList_plain hgd fun K hK => ?_
  unfold Oper.wp
  simp [execOp, ho, resolve, invoke, builtin, hs, hx, h1, Result.andThen]
  exact hK _ _ hk
theorem own_bytes {w : World} {base : Nat} {e : TypeId} {v : Value} {n : Nat} {xs : List UInt8} (h : w.ownsRow base e 1 v n (xs.map u8V)) (hn : n = xs.length) : ∃ A cap, v = .slice A xs.length cap ∧ BytesP (fun i => base ≤ i ∧ some i = v.ownBlock) w A xs := by
  subst hn
  rcases h.2 with ⟨rfl, h0⟩ | ⟨g, cap, cur, rfl, hb, _⟩
  · exact ⟨none, 0, by rw [h0], .inl (List.eq_nil_of_length_eq_zero h0)⟩
  · refine ⟨_, cap, rfl, .inr ⟨g, 0, rfl, ⟨hb, rfl⟩, fun j hj => ?_⟩⟩
    rw [Nat.zero_add, h.cellAt j (by omega)]
    simp [u8V, List.getElem?_eq_getElem hj]
theorem BytesP.news {P : Nat → Prop} {w : World} {A : Option Addr} {xs : List UInt8} (h : BytesP P w A xs) : xs.length = 0 ∨ ∃ a, A = some a ∧ ∀ j u, (xs.map u8V)[j]? = some u → w.cell? (a.add j) = some u := by
  rcases h with rfl | ⟨b, off, rfl, _, hc⟩
  · exact .inl rfl
  · refine .inr ⟨_, rfl, fun j u hu => ?_⟩
    have hadd : (⟨b, off, none⟩ : Addr).add j = ⟨b, off + j, none⟩ := by unfold Addr.add; split <;> simp_all
    rw [List.getElem?_map] at hu
    by_cases hj : j < xs.length
    · rw [List.getElem?_eq_getElem hj] at hu
      simp only [Option.map_some, Option.some.injEq] at hu
      subst hu
      rw [hadd]
      exact hc j hj
    · rw [List.getElem?_eq_none (by omega)] at hu; cases hu
/-- The call returns a slice that reads as xs, in new memory. -/
def RetB (w : World) (xs : List UInt8) (e : Ending) (w' : World) : Prop := ∃ A cap, e = .returned (.slice A xs.length cap) ∧ BytesP (w.heap.size ≤ ·) w' A xs ∧ Below w.heap.size w w'

theorem copyCheck_any (b : Nat) (w : World) (p v : Value) (bs : List UInt8) (hp : p = selfP b ∨ p = .pointer none) (h : Bld b w p v bs) :
    Calls Tryd.prog 74 #[.pointer (some ⟨b, 0, none⟩)] w fun e w' => e = .returned (.tuple #[]) ∧ Bld b w' (selfP b) v bs ∧ KeptP (· ≠ b) w w' ∧ w'.heap.size = w.heap.size := by
  rcases hp with rfl | rfl
  · refine (copyCheck_used b w v bs h).mono ?_
    rintro e w' ⟨rfl, rfl⟩
    exact ⟨rfl, h, KeptP.refl _ _, rfl⟩
  · refine (copyCheck_fresh b w v bs h).mono ?_
    rintro e w' ⟨rfl, rfl⟩
    exact ⟨rfl, h.set0 _, KeptP.put _ _ (by simp) _, by simp [World.setCell]⟩
theorem own_lt0 {w : World} {v : Value} {n base : Nat} {e : TypeId} {xs : List Value} (h : w.ownsRow base e 1 v n xs) {g : Nat} (hg : v.ownBlock = some g) : g < w.heap.size := (h.lt g hg).2
/-- append(v, c): where the result lies. -/
theorem app_byte {w : World} {v : Value} {bs : List UInt8} (hown : w.ownsRow 0 5 1 v bs.length (bs.map u8V)) (c : UInt8) (hlen : bs.length + 1 ≤ 140737488355328) (ty : TypeId) :
    ∃ v' w', (Builtin.append_ #[56, 56] ty #[v, .slice (some ⟨w.heap.size, 0, none⟩) 1 1]).run Tryd.prog (w.alloc (.cells #[.int .u8 (c.toNat : Int)] 5)) = .ok v' w' ∧ w'.ownsRow 0 5 1 v' (bs ++ [c]).length ((bs ++ [c]).map u8V) ∧
      (w.alloc (.cells #[.int .u8 (c.toNat : Int)] 5)).grownBy w' v.ownBlock ∧ ∀ g, v'.ownBlock = some g → v.ownBlock = some g ∨ w.heap.size ≤ g := by
  obtain ⟨i0, hi, hz0, hz1, hz2⟩ := info_parts info_u8
  obtain ⟨v', w', k1, k2, k3, _, k5⟩ := run_append_own_at (P := Tryd.prog) (w := w.alloc (.cells #[.int .u8 (c.toNat : Int)] 5)) 0 56 ty 5 i0 _ 1 1 Tryd.underlying56 hi hz0 hz1 hz2 rfl (by decide) v bs.length _ (hown.alloc _) ⟨w.heap.size, 0, none⟩ 1 1 [.int .u8 (c.toNat : Int)] rfl
    (fun j u hj => by
      match j, hj with
      | 0, hj => simp at hj; subst hj; simp [Addr.add, go_sem])
    (fun u hu => by simp at hu; subst hu; rfl) (by unfold maxLen; omega) (by omega) (Nat.zero_le _)
  refine ⟨v', w', k1, ?_, k3, fun g hg => ?_⟩
  · rw [List.length_append, List.map_append]
    exact k2
  · rcases k5 with k5 | k5
    · exact .inl (k5 ▸ hg)
    · right
      rw [hg] at k5
      have := Option.some.inj k5
      simp at this
      omega
/-- Builder b holds bs; its buffer and itself lie from B on; below B the world is as w. -/
structure BJ (B b : Nat) (w wr : World) (v : Value) (bs : List UInt8) : Prop where
  bld : ∃ p, (p = selfP b ∨ p = .pointer none) ∧ Bld b wr p v bs
  own : ∀ g, v.ownBlock = some g → B ≤ g
  below : Below B w wr
  hb : B ≤ b
  hw : B ≤ w.heap.size
theorem BJ.start (w : World) : BJ w.heap.size w.heap.size w (w.alloc (.cells #[.pointer none, .slice none 0 0] 74)) (.slice none 0 0) [] :=
  ⟨⟨_, .inr rfl, Bld.fresh w _ rfl⟩, fun g hg => by simp [Value.ownBlock] at hg, (Below.refl _ _).alloc (Nat.le_refl _) _, Nat.le_refl _, Nat.le_refl _⟩
theorem BJ.more {B b : Nat} {w wr w' : World} {v : Value} {bs : List UInt8} (h : BJ B b w wr v bs) (k : Below wr.heap.size wr w') : BJ B b w w' v bs := by
  obtain ⟨⟨p, hp, hB⟩, h2, h3, h4, h5⟩ := h
  exact ⟨⟨p, hp, hB.kept (KeptP.of_all k) trivial fun _ _ => trivial⟩, h2, h3.trans (k.mono (Nat.le_trans h5 h3.size)), h4, h5⟩
theorem keptOwn {B b : Nat} {w w' : World} {v : Value} (h : KeptP (fun i => i ≠ b ∧ some i ≠ v.ownBlock) w w') (hb : B ≤ b) (hv : ∀ g, v.ownBlock = some g → B ≤ g) (hs : B ≤ w.heap.size) : Below B w w' :=
  h.below (fun i hi => ⟨by omega, fun e => by have := hv i e.symm; omega⟩) hs
set_option maxHeartbeats 1000000 in
theorem BJ.str {B b : Nat} {w wr : World} {v : Value} {bs : List UInt8} (h : BJ B b w wr v bs) (s : ByteArray) (hlen : bs.length + s.size ≤ 140737488355328) :
    Calls Tryd.prog 47 #[.pointer (some ⟨b, 0, none⟩), .string s] wr fun e w' => e = .returned (.tuple #[.int .i64 s.size, .nilIface]) ∧ ∃ v', BJ B b w w' v' (bs ++ s.data.toList) := by
  obtain ⟨⟨p, hp, hB0⟩, hv0, hbel, hbb, hww⟩ := h
  have hcc := copyCheck_any b wr p v bs hp hB0
  have G := Lib.hid (And.intro hv0 (And.intro hbel (And.intro hbb hww)))
  clear hp hB0 hv0 hbel hbb hww
  go_enter Tryd.func47, Tryd.ntmps47
  go_wp2_with fail
  refine hcc.mono ?_
  rintro e w1 ⟨rfl, h, hk, hs1⟩
  clear hcc
  obtain ⟨v', w2, hr, hown', hgrow, hblk⟩ := app_str h.2.1 s hlen 56
  have hlt := h.lt
  have hb2 : w2.heap[b]? = some (.cells #[selfP b, v] 74 (0, 0)) := by
    rw [hgrow.block b hlt (fun e => h.2.2 e.symm)]
    exact h.1
  have c1 := h.c1
  have d1 : w2.cell? ⟨b, 1, none⟩ = some v := by rw [Lib.cell_of_heap hb2]; rfl
  have f1 : w2.frozen? ⟨b, 1, none⟩ = false := Lib.frozen_of_heap hb2 1
  have hB := Bld.set1 hb2 hown'
  have N : Hid (BJ B b w (w2.setCell ⟨b, 1, none⟩ v') v' (bs ++ s.data.toList)) := by
    obtain ⟨g1, g2, g3, g4⟩ := G.out
    have g5 := Nat.le_trans g4 g2.size
    refine ⟨⟨_, .inl rfl, hB⟩, fun g hg => ?_, ?_, g3, g4⟩
    · rcases hblk g hg with h4 | h4
      · exact g1 g h4
      · omega
    · refine g2.trans (keptOwn (b := b) (v := v) ((hk.mono fun i _ hi => hi.1).trans (((KeptP.refl _ _).grown hgrow (fun k hk h => h.2 hk.symm)).setCell (fun h => h.1 rfl) _)) g3 g1 (by omega))
  have HR := Lib.hid hr
  obtain ⟨ao, n', cap', hv'⟩ : ∃ ao n' cap', v' = .slice ao n' cap' := by
    rcases hown'.2 with ⟨hv, _⟩ | ⟨g, cap, cur, hv, _⟩
    · exact ⟨_, _, _, hv⟩
    · exact ⟨_, _, _, hv⟩
  subst hv'
  clear hB hk hs1 hblk hr hown' hgrow hb2 h hlt hlen
  go_wp2_with (at_builtin; refine wpList_app_str HR.out rfl _ _ rfl rfl rfl rfl ?_)
  go_ret2
  exact ⟨rfl, _, N.out⟩
theorem BJ.string {B b : Nat} {w wr : World} {v : Value} {bs : List UInt8} (h : BJ B b w wr v bs) (h0 : bs ≠ []) :
    Calls Tryd.prog 48 #[.pointer (some ⟨b, 0, none⟩)] wr fun e w' => e = .returned (.string (strOf bs)) ∧ Below B w w' := by
  obtain ⟨⟨p, hp, hB0⟩, hv0, hbel, hbb, -⟩ := h
  refine (bString_any B b wr p v bs h0 hB0 hv0).mono ?_
  rintro e w' ⟨rfl, hb⟩
  exact ⟨rfl, hbel.trans hb⟩
set_option maxHeartbeats 1000000 in
/-- A builder that nothing was written to. -/
theorem bString_none (b : Nat) (w : World) (p : Value) (h : Bld b w p (.slice none 0 0) []) :
    Calls Tryd.prog 48 #[.pointer (some ⟨b, 0, none⟩)] w fun e w' => e = .returned (.string (strOf [])) ∧ Below w.heap.size w w' := by
  have c1 : w.drew.cell? ⟨b, 1, none⟩ = some (.slice none 0 0) := by
    have : w.drew.heap[b]? = some (.cells #[p, .slice none 0 0] 74 (0, 0)) := h.1
    rw [Lib.cell_of_heap this]; rfl
  have hSD : (Builtin.unsafeSliceData_ #[56] 94 #[.slice none 0 0]).run Tryd.prog w.drew = .ok (.pointer none) w.drew := Lib.run_unsafeSliceData_nil _ _ _ _ _
  have hUS : (Builtin.unsafeString_ #[94, 3] 9 #[.pointer none, .int .i64 0]).run Tryd.prog w.drew = .ok (.string (strOf [])) w.drew := Lib.run_unsafeString_none _ _ _ _ _
  have N : Hid (Below w.heap.size w w.drew) := (Below.refl _ _).drew
  clear h
  go_enter Tryd.func48, Tryd.ntmps48
  go_wp2
  go_region
  all_goals (go_wp2; go_ret; exact ⟨rfl, N.out⟩)

/-! ### Slices of strings -/
def StrsP (P : Nat → Prop) (w : World) (A : Option Addr) (ss : List ByteArray) : Prop :=
  ss = [] ∨ ∃ b off, A = some ⟨b, off, none⟩ ∧ P b ∧ ∀ j (h : j < ss.length), w.cell? ⟨b, off + j, none⟩ = some (.string ss[j])
theorem StrsP.at_ {P : Nat → Prop} {w : World} {A : Option Addr} {ss : List ByteArray} (h : StrsP P w A ss) {k : Nat} (hk : k < ss.length) : ∃ b off, A = some ⟨b, off, none⟩ ∧ w.cell? ⟨b, off + k, none⟩ = some (.string ss[k]) := by
  rcases h with rfl | ⟨b, off, rfl, _, hc⟩
  · simp at hk
  · exact ⟨b, off, rfl, hc k hk⟩
theorem StrsP.mono {P Q : Nat → Prop} {w : World} {A : Option Addr} {ss : List ByteArray} (h : StrsP P w A ss) (hPQ : ∀ i, i < w.heap.size → P i → Q i) : StrsP Q w A ss := by
  by_cases hx : ss = []
  · exact .inl hx
  · rcases h with rfl | ⟨b, off, rfl, hp, hc⟩
    · exact .inl rfl
    · exact .inr ⟨b, off, rfl, hPQ b (World.block_lt_of_cell? w _ (hc 0 (List.length_pos_iff.2 hx))) hp, hc⟩
theorem StrsP.blocks {P : Nat → Prop} {w w' : World} {A : Option Addr} {ss : List ByteArray} (h : StrsP P w A ss) (hk : ∀ i, i < w.heap.size → P i → w'.heap[i]? = w.heap[i]?) : StrsP P w' A ss := by
  rcases h with rfl | ⟨b, off, rfl, hp, hc⟩
  · exact .inl rfl
  · refine .inr ⟨b, off, rfl, hp, fun j hj => ?_⟩
    exact (World.cell?_of_block (w := w) (hk b (World.block_lt_of_cell? w _ (hc j hj)) hp)).trans (hc j hj)
theorem StrsP.below {P : Nat → Prop} {w w' : World} {A : Option Addr} {ss : List ByteArray} (h : StrsP P w A ss) (hb : Below w.heap.size w w') : StrsP P w' A ss := h.blocks fun i hi _ => hb.block i hi

theorem slB_hz (g n cap : Nat) (w : World) :
    (Instr.slice 56 (.slice (some ⟨g, 0, none⟩) n cap) none (some (.int .i64 (0 : Int))) none).run Tryd.prog w = .ok (.slice (some ⟨g, 0, none⟩) 0 cap) w :=
  slB_h (some ⟨g, 0, none⟩) n cap 0 (Nat.zero_le _) w
def RetGrow (w : World) (b : Nat) (p : Value) (e : Ending) (w' : World) : Prop :=
  e = .returned (.tuple #[]) ∧ ∃ v, Bld b w' p v [] ∧ (∀ g, v.ownBlock = some g → w.heap.size ≤ g) ∧ KeptP (· ≠ b) w w'
set_option maxRecDepth 100000 in
set_option maxHeartbeats 4000000 in
theorem grow0_any (b : Nat) (w : World) (p : Value) (n : Nat) (hn : n ≤ 140737488351232) (h : Bld b w p (.slice none 0 0) []) :
    Calls Tryd.prog 75 #[.pointer (some ⟨b, 0, none⟩), .int .i64 (n : Int)] w (RetGrow w b p) := by
  have hC : w.drew.cell? ⟨b, 1, none⟩ = some (.slice none 0 0) := h.c1
  have hlt := h.lt
  have hfw := fun w => Lib.run_makeNoZero (P := Tryd.prog) w #[3] 56 5 Tryd.underlying56 n (by omega)
  have hblk : w.heap[b]? = some (.cells #[p, .slice none 0 0] 74 (0, 0)) := h.1
  have H := Lib.hid hblk
  have hnb : (n : Int) ≤ 140737488351232 := by omega
  have HN := Lib.hid hn
  have hwr : IntKind.i64.wrap (n : Int) = (n : Int) := by rw [IntKind.wrap_i64]; omega
  clear h hblk hn
  go_enter Tryd.func75, Tryd.ntmps75
  go_wp2
  refine Mixed.wp_region_mixed (fun w' => w'.cell? ⟨b, 1, none⟩ = some (.slice none 0 0)) 15
    [(0, true), (1, true), (2, true), (3, true), (4, true), (5, true), (6, true), (7, true), (9, true), (10, true), (11, true), (12, true), (13, true), (8, false), (14, true)] (by kernel_rfl) (by kernel_rfl) hC ?_
  refine Mixed.wpMix_move rfl rfl _ rfl _ rfl ?_
  refine Mixed.wpMix_pure rfl rfl (.pointer (some ⟨b, 0, none⟩)) (fun w h => by go_simp; try rfl) ?_
  refine Mixed.wpMix_pure rfl rfl (.pointer (some ⟨b, 1, none⟩)) (fun w h => by go_simp; try rfl) ?_
  refine Mixed.wpMix_pure rfl rfl (.slice none 0 0) (fun w h => by go_simp; try rfl) ?_
  refine Mixed.wpMix_pure rfl rfl (.int .i64 0) (fun w h => by clear h; go_simp; try rfl) ?_
  refine Mixed.wpMix_pure rfl rfl (.int .i64 0) (fun w h => by clear h; go_simp; try rfl) ?_
  refine Mixed.wpMix_move rfl rfl _ rfl _ rfl ?_
  refine Mixed.wpMix_pure rfl rfl (.int .i64 (n : Int)) (fun w h => by clear h; go_simp) ?_
  refine Mixed.wpMix_move rfl rfl _ rfl _ rfl ?_
  refine Mixed.wpMix_pure rfl rfl (.pointer (some ⟨b, 0, none⟩)) (fun w h => by go_simp; try rfl) ?_
  refine Mixed.wpMix_pure rfl rfl (.pointer (some ⟨b, 1, none⟩)) (fun w h => by go_simp; try rfl) ?_
  refine Mixed.wpMix_pure rfl rfl (.slice none 0 0) (fun w h => by go_simp; try rfl) ?_
  refine Mixed.wpMix_pure rfl rfl (.int .i64 0) (fun w h => by clear h; go_simp; try rfl) ?_
  refine Mixed.wpMix_loud rfl ?_
  go_wp2
  obtain ⟨cs, hm, hcs1, hcs2⟩ := hfw w.drew
  rw [run_callFunc_extern Tryd.func87 (by kernel_rfl) (by kernel_rfl) (by kernel_rfl) (e := Extern.BytealgMakeNoZero.makeNoZero #[3] #[56]) (by kernel_rfl), hm]
  simp only [Result.andThen]
  rw [Oper.upon_value]
  obtain ⟨g, hg⟩ : ∃ g, w.drew.heap.size = g := ⟨_, rfl⟩
  obtain ⟨w3, hw3⟩ : ∃ w3, w.drew.drew.drew.alloc (.cells cs 5) = w3 := ⟨_, rfl⟩
  have hal : Below w.heap.size w w3 := by rw [← hw3]; exact ((((Below.refl _ _).drew).drew).drew).alloc (Nat.le_refl _) _
  have hrow : w3.heap[g]? = some (.cells cs 5 (0, 0)) := by rw [← hw3, ← hg]; exact World.alloc_heap_new _ _
  have hb3 : w3.heap[b]? = some (.cells #[p, .slice none 0 0] 74 (0, 0)) := (hal.block b hlt).trans H.out
  have hgw : g = w.heap.size := hg.symm
  have C3 : w3.cell? ⟨b, 1, none⟩ = some (.slice none 0 0) := by rw [Lib.cell_of_heap hb3]; rfl
  have f3 : w3.frozen? ⟨b, 1, none⟩ = false := Lib.frozen_of_heap hb3 1
  have hsl : ∀ w', (Instr.slice 56 (.slice (some ⟨g, 0, none⟩) n cs.size) none (some (.int .i64 (0 : Int))) none).run Tryd.prog w' = .ok (.slice (some ⟨g, 0, none⟩) 0 cs.size) w' := fun w' => slB_hz g n cs.size w'
  have own : w3.ownsRow 0 5 1 (.slice (some ⟨g, 0, none⟩) 0 cs.size) ([] : List UInt8).length (([] : List UInt8).map u8V) :=
    ⟨rfl, .inr ⟨g, cs.size, cs, rfl, Nat.zero_le _, hrow, Nat.zero_le _, hcs2 (Nat.le_trans HN.out (by unfold maxLen; omega)), by simp, by simp⟩⟩
  have FB := Lib.hid (Bld.set1 hb3 own)
  have KK : Hid (KeptP (· ≠ b) w (w3.setCell ⟨b, 1, none⟩ (.slice (some ⟨g, 0, none⟩) 0 cs.size))) := (KeptP.of_all hal).setCell (by simp) _
  have HG := Lib.hid hgw
  have hcp : ∀ w', (Builtin.copy_ #[56, 56] 3 #[.slice (some ⟨g, 0, none⟩) 0 cs.size, .slice none 0 0]).run Tryd.prog w' = .ok (.int .i64 0) w' := fun w' =>
    run_copy_none (P := Tryd.prog) w' 56 56 3 5 (some ⟨g, 0, none⟩) none 0 cs.size 0 0 Tryd.underlying56 (by kernel_rfl) rfl
  rw [hg]
  clear hm hcs1 hcs2 hfw hal hrow hb3 own hg hgw H HN
  go_wp2
  refine ⟨C3, ?_⟩
  refine Mixed.wpMix_pure rfl rfl (.slice (some ⟨g, 0, none⟩) 0 cs.size) (fun w h => by clear h; go_simp; try (rw [hsl]; rfl)) ?_
  simp only [Mixed.wpMix, List.drop_succ_cons, List.drop_zero]
  go_wp2
  go_end0
  exact ⟨rfl, _, FB.out, fun g' hg' => (by have h := HG.out; have e : g = g' := (Option.some.inj hg'); omega), KK.out⟩
set_option maxHeartbeats 2000000 in
/-- Grow at a fresh builder. -/
theorem BJ.grow {B b : Nat} {w wr : World} (h : BJ B b w wr (.slice none 0 0) []) (n : Nat) (hn : n ≤ 140737488351232) :
    Calls Tryd.prog 46 #[.pointer (some ⟨b, 0, none⟩), .int .i64 (n : Int)] wr fun e w' => e = .returned (.tuple #[]) ∧ ∃ v, BJ B b w w' v [] := by
  obtain ⟨⟨p, hp, hB0⟩, hv0, hbel, hbb, hww⟩ := h
  have hcc := copyCheck_any b wr p _ _ hp hB0
  have G := Lib.hid (And.intro hbel (And.intro hbb hww))
  have hnb : (n : Int) ≤ 140737488351232 := by omega
  have HN := Lib.hid hn
  clear hp hB0 hv0 hbel hbb hww hn
  by_cases h0 : n = 0
  · subst h0
    go_enter Tryd.func46, Tryd.ntmps46
    go_wp2_with fail
    refine hcc.mono ?_
    rintro e w1 ⟨rfl, h, hk, hs1⟩
    have c1 := h.c1
    have F : ∀ q, Hid (BJ B b w (w1.drewN q) (.slice none 0 0) []) := fun q => by
      obtain ⟨g1, g2, g3⟩ := G.out
      have hk2 := (hk.drewN q)
      exact ⟨⟨_, .inl rfl, h.kept (P := fun _ => True) (KeptP.of_all (below_drewN' w1 q)) trivial fun _ _ => trivial⟩, fun g hg => by simp [Value.ownBlock] at hg, g1.trans (hk2.below (fun i hi => by omega) (Nat.le_trans g3 g1.size)), g2, g3⟩
    clear hcc hk hs1 h
    go_wp2_with fail
    go_quiet (fail)
    go_wp2
    go_end0
    exact ⟨rfl, _, (F _).out⟩
  · have hpos : (0 : Int) < (n : Int) := by omega
    have hposn : 0 < n := by omega
    go_enter Tryd.func46, Tryd.ntmps46
    go_wp2_with fail
    refine hcc.mono ?_
    rintro e w1 ⟨rfl, h, hk, hs1⟩
    have c1 := h.c1
    have HH := Lib.hid (And.intro h hk)
    clear hcc hk hs1 h
    go_wp2_with fail
    go_quiet (fail)
    have hgr := grow0_any b (w1.drewN nq) _ n HN.out (HH.out.1.kept (P := fun _ => True) (KeptP.of_all (below_drewN' w1 nq)) trivial fun _ _ => trivial)
    go_wp2_with fail
    refine hgr.mono ?_
    rintro e w2 ⟨rfl, v, k1, k2, k3⟩
    have F : Hid (BJ B b w w2 v []) := by
      obtain ⟨g1, g2, g3⟩ := G.out
      have hk2 := (HH.out.2.drewN nq).trans k3
      exact ⟨⟨_, .inl rfl, k1⟩, fun g hg => by have h1 := k2 g hg; have h2 := HH.out.2.size; have h3 := g1.size; have h4 : (w1.drewN nq).heap.size = w1.heap.size := rfl; omega, g1.trans (hk2.below (fun i hi => by omega) (Nat.le_trans g3 g1.size)), g2, g3⟩
    clear hgr k1 k2 k3
    go_wp2
    go_end0
    exact ⟨rfl, v, F.out⟩
theorem elem_S : Tryd.prog.elem 32 = 9 := by unfold Program.elem; rw [Tryd.underlying32]
theorem und_S : Tryd.prog.underlying 32 = some (.slice (Tryd.prog.elem 32)) := by rw [elem_S]; exact Tryd.underlying32
theorem slS_h (A : Option Addr) (len cap n : Nat) (hn : n ≤ cap) (w : World) :
    (Instr.slice 32 (.slice A len cap) none (some (.int .i64 (n : Int))) none).run Tryd.prog w = .ok (.slice A n cap) w := by
  rw [run_slice_h w 32 A len cap und_S .i64 (n : Int) (by omega) (by omega), elem_S, Tryd.sizeOf9]
  simp only [Result.andThen_ok, sliced]
  have e := subA_zero A cap
  unfold subA at e
  rw [e, show ((n : Int)).toNat - 0 = n by omega, Nat.sub_zero]
/-- Lines with a line feed between them. -/
theorem strOf_size (xs : List UInt8) : (strOf xs).size = xs.length := by
  show xs.toArray.size = _
  simp
def interL : List (List UInt8) → List UInt8
  | [] => []
  | [x] => x
  | x :: y :: t => x ++ 44 :: interL (y :: t)
theorem interL_snoc : ∀ (l : List (List UInt8)) (x : List UInt8), l ≠ [] → interL (l ++ [x]) = interL l ++ 44 :: x
  | [], _, h => absurd rfl h
  | [y], x, _ => by simp [interL]
  | y :: z :: t, x, _ => by
    show y ++ 44 :: interL ((z :: t) ++ [x]) = (y ++ 44 :: interL (z :: t)) ++ 44 :: x
    rw [interL_snoc (z :: t) x (by simp)]
    simp

theorem interL_len : ∀ (l : List (List UInt8)), l ≠ [] → (interL l).length + 1 = (l.map List.length).sum + l.length
  | [], h => absurd rfl h
  | [x], _ => by simp [interL]
  | x :: y :: t, _ => by
    have h := interL_len (y :: t) (by simp)
    show (x ++ 44 :: interL (y :: t)).length + 1 = _
    rw [List.length_append, List.length_cons]
    rw [List.map_cons, List.sum_cons, List.length_cons]
    omega
theorem sum_take_le (l : List (List UInt8)) (k : Nat) : ((l.take k).map List.length).sum ≤ (l.map List.length).sum := by
  conv => rhs; rw [← List.take_append_drop k l, List.map_append, List.sum_append]
  omega
theorem sum_take_succ (l : List (List UInt8)) (k : Nat) (h : k < l.length) : ((l.take (k + 1)).map List.length).sum = ((l.take k).map List.length).sum + l[k].length := by
  rw [List.take_succ_eq_append_getElem h, List.map_append, List.sum_append]
  simp
theorem interL_take (l : List (List UInt8)) (k : Nat) (h0 : 0 < k) (h : k < l.length) : interL (l.take (k + 1)) = (interL (l.take k) ++ [44]) ++ l[k] := by
  have hne : l.take k ≠ [] := by
    intro e
    have := congrArg List.length e
    rw [List.length_take, List.length_nil] at this
    omega
  rw [List.take_succ_eq_append_getElem h, interL_snoc _ _ hne]
  simp
theorem interL_take_le (l : List (List UInt8)) (k : Nat) (h : k ≤ l.length) (h0 : 0 < k) : (interL (l.take k)).length ≤ (interL l).length := by
  have e1 := interL_len (l.take k) (by intro e; have := congrArg List.length e; rw [List.length_take, List.length_nil] at this; omega)
  have e2 := interL_len l (by intro e; rw [e, List.length_nil] at h; omega)
  have e3 := sum_take_le l k
  have e4 : (l.take k).length = k := by rw [List.length_take]; omega
  rw [e4] at e1
  omega
theorem slS_l (A : Option Addr) (len cap n : Nat) (hn : n ≤ len) (w : World) :
    (Instr.slice 32 (.slice A len cap) (some (.int .i64 (n : Int))) none none).run Tryd.prog w = .ok (.slice (subA A n cap) (len - n) (cap - n)) w := by
  rw [run_slice_l w 32 A len cap und_S .i64 (n : Int) (by omega) (by omega), elem_S, Tryd.sizeOf9]
  simp only [Result.andThen_ok, sliced]
  rw [show ((n : Int)).toNat = n by omega]
  rfl
set_option maxRecDepth 100000 in
set_option maxHeartbeats 8000000 in
theorem sjoin_any (P : Nat → Prop) (A : Option Addr) (cap : Nat) (ss : List (List UInt8)) (h2 : 2 ≤ ss.length) (hcap : ss.length ≤ cap) (hlen : (interL ss).length ≤ 1000000000) (w : World) (hX : StrsP P w A (ss.map strOf)) :
    Calls Tryd.prog 39 #[.slice A ss.length cap, .string ⟨#[44]⟩] w fun e w' => e = .returned (.string (strOf (interL ss))) ∧ Below w.heap.size w w' := by
  obtain ⟨g, off, hA, hP, hXc⟩ : ∃ b off, A = some ⟨b, off, none⟩ ∧ b < w.heap.size ∧ ∀ j (h : j < ss.length), w.cell? ⟨b, off + j, none⟩ = some (.string (strOf ss[j])) := by
    rcases hX with h | ⟨b, off, h, -, hc⟩
    · have := congrArg List.length h; simp at this; subst this; simp at h2
    · have hc' : ∀ j (h : j < ss.length), w.cell? ⟨b, off + j, none⟩ = some (.string (strOf ss[j])) := fun j hj => by
        have h := hc j (by rw [List.length_map]; exact hj)
        rwa [List.getElem_map] at h
      exact ⟨b, off, h, World.block_lt_of_cell? w _ (hc' 0 (by omega)), hc'⟩
  subst hA
  have hne : ss ≠ [] := fun e => by subst e; simp at h2
  have hil := interL_len ss hne
  obtain ⟨L, hL⟩ : ∃ L, ss.length = L := ⟨_, rfl⟩
  have HL := Lib.hid hL
  have X := Lib.hid (And.intro hP hXc)
  have IL := Lib.hid hil
  have HB := Lib.hid hlen
  have hLb : L ≤ 1000000001 := by omega
  have n0 : ((L : Int) == 0) = false := beq_eq_false_iff_ne.2 (by omega)
  have n1 : ((L : Int) == 1) = false := beq_eq_false_iff_ne.2 (by omega)
  have h10 : (⟨#[44]⟩ : ByteArray).size = 1 := rfl
  rw [hL] at h2 hcap ⊢
  have hdv : decide ((9223372036854775807 : Int) / ((L : Int) - 1) ≤ 1) = false := decide_eq_false (by
    have h := Int.le_ediv_of_mul_le (a := 2) (b := 9223372036854775807) (c := (L : Int) - 1) (by omega) (by omega)
    omega)
  clear hL hP hX hXc hne hil hlen
  go_enter Tryd.func39, Tryd.ntmps39
  go_wp2
  go_loopw [5, 41] (fun sv iv wr => ∃ (k s : Nat), k ≤ L ∧ iv = .int .i64 k ∧ sv = .int .i64 s ∧ Hid (s + 1 = L + ((ss.take k).map List.length).sum) ∧ wr = w) (fun _ iv _ => L - (intOf iv).toNat)
  case atStart => exact ⟨0, L - 1, Nat.zero_le _, rfl, by congr 1; omega, by show _ = _; simp; omega, rfl⟩
  case round =>
    obtain ⟨k, s, hk, rfl, rfl, E, rfl⟩ := hrel
    have hsb : s ≤ 1000000000 := by
      have h1 := E.out
      have h2 := sum_take_le ss k
      have h3 := IL.out
      have h4 := HB.out
      have h5 := HL.out
      omega
    by_cases hlt : k < L
    · have hks : k < ss.length := by rw [HL.out]; exact hlt
      have hlt' : (k : Int) < (L : Int) := by omega
      have c0 := X.out.2 k hks
      have ES := sum_take_succ ss k hks
      have E2 : Hid (s + ss[k].length + 1 = L + ((ss.take (k + 1)).map List.length).sum) := by
        have h1 := E.out
        show _ = _
        omega
      have hsk : ss[k].length ≤ 1000000000 := by
        have h1 := E2.out
        have h2 := sum_take_le ss (k + 1)
        have h3 := IL.out
        have h4 := HB.out
        have h5 := HL.out
        omega
      have hsz : (strOf ss[k]).size = ss[k].length := strOf_size _
      obtain ⟨m, hm⟩ : ∃ m, ss[k].length = m := ⟨_, rfl⟩
      obtain ⟨t, ht⟩ : ∃ t, strOf ss[k] = t := ⟨_, rfl⟩
      rw [hm] at hsz hsk E2
      rw [ht] at c0 hsz
      have hcmp : decide ((9223372036854775807 : Int) - (s : Int) < (m : Int)) = false := decide_eq_false (by omega)
      clear ES hm ht hks
      go_wp2
      go_roundw
      case rel => exact ⟨k + 1, s + m, hlt, by go_num, by first | rfl | go_num, E2.out, by first | rfl | trivial⟩
      case measure => simp [intOf]; omega
    · have hkL : k = L := by omega
      have hlt' : decide ((k : Int) < (L : Int)) = false := decide_eq_false (by omega)
      have B0 := BJ.start wr
      have hgr := B0.grow s (by omega)
      obtain ⟨M, hM⟩ : ∃ M, L = M + 1 := ⟨L - 1, by omega⟩
      have hsl : ∀ w', (Instr.slice 32 (.slice (some ⟨g, off, none⟩) L cap) (some (.int .i64 (1 : Int))) none none).run Tryd.prog w' = .ok (.slice (some ⟨g, off + 1, none⟩) M (cap - 1)) w' := fun w' => by
        have h := slS_l (some ⟨g, off, none⟩) L cap 1 (by omega) w'
        have e1 : subA (some ⟨g, off, none⟩) 1 cap = some ⟨g, off + 1, none⟩ := by
          unfold subA
          rw [if_neg (by omega)]
          rfl
        rw [e1, show L - 1 = M by omega] at h
        exact h
      have c0 := X.out.2 0 (by have := HL.out; omega)
      have i1 : interL (ss.take 1) = ss[0]'(by have := HL.out; omega) := by
        have h0 : 0 < ss.length := by have := HL.out; omega
        cases ss with
        | nil => simp at h0
        | cons x t => rfl
      have hsz0 : (strOf (ss[0]'(by have := HL.out; omega))).size ≤ 1000000000 := by
        have h := interL_take_le ss 1 (by have := HL.out; omega) (by omega)
        rw [i1] at h
        rw [strOf_size]
        exact Nat.le_trans h HB.out
      have l0 : (strOf (ss[0]'(by have := HL.out; omega))).data.toList = interL (ss.take 1) := by rw [strOf_list, i1]
      obtain ⟨t, ht⟩ : ∃ t, strOf (ss[0]'(by have := HL.out; omega)) = t := ⟨_, rfl⟩
      rw [ht] at c0 hsz0 l0
      have L0 := Lib.hid l0
      have HM := Lib.hid hM
      have SZ0 := Lib.hid hsz0
      have hMb : (M : Int) ≤ 1000000001 := by omega
      have HKL := Lib.hid hkL
      have c0' : wr.cell? ⟨g, off, none⟩ = some (.string t) := c0
      clear B0 i1 l0 ht hM hsz0 hkL c0 E
      go_wp2_with fail
      refine hgr.mono ?_
      rintro e w1 ⟨rfl, v1, hB1⟩
      have hw1 := hB1.str t (by simp; exact Nat.le_trans SZ0.out (by decide))
      have c1 : w1.cell? ⟨g, off, none⟩ = some (.string t) := (World.cell?_of_block (w := wr) (hB1.below.block g X.out.1)).trans c0'
      clear hgr hB1
      go_wp2_with fail
      refine hw1.mono ?_
      rintro e w2 ⟨rfl, v2, hB2⟩
      rw [List.nil_append, L0.out] at hB2
      have N2 : Hid (∃ v, BJ wr.heap.size wr.heap.size wr w2 v (interL (ss.take 1))) := ⟨v2, hB2⟩
      clear hw1 hB2 c1
      go_wp2
      obtain ⟨wz, hwz⟩ : ∃ wz : World, wz = wr := ⟨_, rfl⟩
      subst hwz
      go_loopw [65] (fun iv wq => ∃ k, k ≤ M ∧ iv = .int .i64 (k : Nat) ∧ Hid (∃ v, BJ wz.heap.size wz.heap.size wz wq v (interL (ss.take (k + 1))))) (fun iv _ => M - (intOf iv).toNat)
      case atStart => exact ⟨0, Nat.zero_le _, rfl, N2.out⟩
      case round =>
        clear N2
        obtain ⟨k, hk, rfl, ⟨v, hB⟩⟩ := hrel
        have LT1 : (interL (ss.take (k + 1))).length ≤ 1000000000 := Nat.le_trans (interL_take_le ss (k + 1) (by have := HL.out; have := HM.out; omega) (by omega)) HB.out
        by_cases hlt : k < M
        · have hlt' : (k : Int) < (M : Int) := by omega
          have hkk : k + 1 < ss.length := by have := HL.out; have := HM.out; omega
          have ci : wr.cell? ⟨g, off + 1 + k, none⟩ = some (.string (strOf ss[k + 1])) := by
            have h := (World.cell?_of_block (w := wz) (a := ⟨g, off + (k + 1), none⟩) (hB.below.block g X.out.1)).trans (X.out.2 (k + 1) hkk)
            rw [show off + 1 + k = off + (k + 1) by omega]
            exact h
          have LT2 : (interL (ss.take (k + 1 + 1))).length ≤ 1000000000 := Nat.le_trans (interL_take_le ss (k + 1 + 1) (by omega) (by omega)) HB.out
          have ET := interL_take ss (k + 1) (by omega) hkk
          have hls := strOf_list ss[k + 1]
          have hss := strOf_size ss[k + 1]
          obtain ⟨t2, ht2⟩ : ∃ t2, strOf ss[k + 1] = t2 := ⟨_, rfl⟩
          rw [ht2] at ci hls hss
          rw [← hls] at ET
          have ZZ := congrArg List.length ET
          rw [List.length_append, List.length_append, show t2.data.toList.length = t2.size from Array.length_toList] at ZZ
          have ZT : Hid ((interL (ss.take (k + 1))).length + 1 + t2.size ≤ 1000000000) := by
            show _ ≤ _
            have e : ([44] : List UInt8).length = 1 := rfl
            rw [e] at ZZ
            omega
          have w10 := hB.str ⟨#[44]⟩ (by show _ + 1 ≤ _; have := ZT.out; omega)
          have EE := Lib.hid ET
          have BK := Lib.hid hB.below
          clear ET ZZ ht2 hls hss LT1 LT2 hkk hB
          go_wp2_with fail
          refine w10.mono ?_
          rintro e w3 ⟨rfl, v3, hB3⟩
          have c0k : wz.cell? ⟨g, off + 1 + k, none⟩ = some (.string t2) := by
            have hlt := X.out.1
            rw [← ci]
            exact (World.cell?_of_block (w := wz) (a := ⟨g, off + 1 + k, none⟩) (BK.out.block g hlt)).symm
          have ci3 : w3.cell? ⟨g, off + 1 + k, none⟩ = some (.string t2) := (World.cell?_of_block (w := wz) (a := ⟨g, off + 1 + k, none⟩) (hB3.below.block g X.out.1)).trans c0k
          have w11 := hB3.str t2 (by have := ZT.out; rw [List.length_append]; show _ + 1 + _ ≤ _; omega)
          clear w10 hB3 ci c0k BK
          go_wp2_with fail
          refine w11.mono ?_
          rintro e w4 ⟨rfl, v4, hB4⟩
          rw [← EE.out] at hB4
          have N4 : Hid (∃ v, BJ wz.heap.size wz.heap.size wz w4 v (interL (ss.take (k + 1 + 1)))) := ⟨v4, hB4⟩
          clear w11 hB4 ci3
          go_wp2
          go_roundw
          case rel => exact ⟨k + 1, hlt, by go_num, N4.out⟩
          case measure => simp [intOf]; omega
        · have hkM : k = M := by omega
          have hlt' : decide ((k : Int) < (M : Int)) = false := decide_eq_false (by omega)
          have hall : ss.take (k + 1) = ss := List.take_of_length_le (by have := HL.out; have := HM.out; omega)
          rw [hall] at hB
          have hst := hB.string (by
            intro e
            have h1 := IL.out
            rw [e] at h1
            have h3 := HL.out
            rw [List.length_nil] at h1
            omega)
          clear hkM hall hB LT1
          go_wp2_with fail
          refine hst.mono ?_
          rintro e w3 ⟨rfl, hb3⟩
          have BF := Lib.hid hb3
          clear hst hb3
          go_wp2
          go_ret
          exact ⟨rfl, BF.out⟩
end Go.Proofs.YtbcbhdhhinopaaaDoor.St
