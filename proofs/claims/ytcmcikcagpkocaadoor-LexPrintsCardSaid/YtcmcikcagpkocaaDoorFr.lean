/-
  The facts on a world that a walk carries, as one list: each of them is kept where only new blocks are made. No program of its own.
-/
import Derived.Below
import Derived.Lib.Hide
import Derived.Lib.Builder
import Derived.RangeFuncRecord
namespace Go.Fr
open Go Go.RowKit
set_option linter.unusedVariables false

/-- A fact on a world that is kept where only new blocks are made. -/
structure F where
  p : World → Prop
  up : ∀ {w w' : World}, p w → Below w.heap.size w w' → p w'
/-- All facts of a list. -/
def St (w : World) : List F → Prop
  | [] => True
  | f :: l => f.p w ∧ St w l
theorem St.up {w w' : World} : ∀ {l : List F}, St w l → Below w.heap.size w w' → St w' l
  | [], _, _ => trivial
  | f :: _, h, hb => ⟨f.up h.1 hb, St.up h.2 hb⟩
theorem up {w w' : World} {l : List F} (h : Hid (St w l)) (hb : Below w.heap.size w w') : Hid (St w' l) := St.up (l := l) h hb
theorem add {w : World} {l : List F} (h : Hid (St w l)) (f : F) (hp : f.p w) : Hid (St w (f :: l)) := ⟨hp, h⟩
theorem nil (w : World) : Hid (St w []) := trivial
/-- What a block holds. -/
def blk (b : Nat) (o : Obj) : F := ⟨fun w => w.heap[b]? = some o, fun h hb => (hb.block _ (Array.getElem?_eq_some_iff.1 h).1).trans h⟩
/-- Nothing below n was changed since w0. -/
def bel (n : Nat) (w0 : World) : F := ⟨fun w => Below n w0 w ∧ n ≤ w.heap.size, fun h hb => ⟨h.1.trans (hb.mono h.2), Nat.le_trans h.2 hb.size⟩⟩
/-- There are so many blocks. -/
def sz (n : Nat) : F := ⟨fun w => n ≤ w.heap.size, fun h hb => Nat.le_trans h hb.size⟩
theorem lt_of_blk {w : World} {b : Nat} {o : Obj} (h : (blk b o).p w) : b < w.heap.size := (Array.getElem?_eq_some_iff.1 h).1
/-- The walk begins. -/
theorem start (w : World) (n : Nat) (hn : w.heap.size = n) : Hid (St w [bel n w]) := ⟨⟨Below.refl _ _, Nat.le_of_eq hn.symm⟩, trivial⟩
/-- A new block: its number and the world get names. -/
theorem box {w : World} {l : List F} (h : Hid (St w l)) (cs : Array Value) (t : TypeId) : ∃ b w2, w.heap.size = b ∧ w.alloc (.cells cs t) = w2 ∧ Hid (St w2 (blk b (.cells cs t (0, 0)) :: l)) ∧ Below w.heap.size w w2 ∧ w2.heap.size = b + 1 :=
  have hb : Below w.heap.size w (w.alloc (.cells cs t)) := (Below.refl _ w).alloc (Nat.le_refl _) _
  ⟨_, _, rfl, rfl, add (up h hb) (blk w.heap.size _) (World.alloc_heap_new w _), hb, by simp⟩
theorem cells2 {w : World} {b : Nat} {a0 a1 : Value} {T : TypeId} {fr : Nat × Nat} (h : w.heap[b]? = some (.cells #[a0, a1] T fr)) : w.cell? ⟨b, 0, none⟩ = some a0 ∧ w.cell? ⟨b, 1, none⟩ = some a1 := ⟨Lib.cell_of_heap h 0, Lib.cell_of_heap h 1⟩
theorem cells3 {w : World} {b : Nat} {a0 a1 a2 : Value} {T : TypeId} {fr : Nat × Nat} (h : w.heap[b]? = some (.cells #[a0, a1, a2] T fr)) : w.cell? ⟨b, 0, none⟩ = some a0 ∧ w.cell? ⟨b, 1, none⟩ = some a1 ∧ w.cell? ⟨b, 2, none⟩ = some a2 := ⟨Lib.cell_of_heap h 0, Lib.cell_of_heap h 1, Lib.cell_of_heap h 2⟩
theorem cells6 {w : World} {b : Nat} {a0 a1 a2 a3 a4 a5 : Value} {T : TypeId} {fr : Nat × Nat} (h : w.heap[b]? = some (.cells #[a0, a1, a2, a3, a4, a5] T fr)) : w.cell? ⟨b, 0, none⟩ = some a0 ∧ w.cell? ⟨b, 1, none⟩ = some a1 ∧ w.cell? ⟨b, 2, none⟩ = some a2 ∧ w.cell? ⟨b, 3, none⟩ = some a3 ∧ w.cell? ⟨b, 4, none⟩ = some a4 ∧ w.cell? ⟨b, 5, none⟩ = some a5 := ⟨Lib.cell_of_heap h 0, Lib.cell_of_heap h 1, Lib.cell_of_heap h 2, Lib.cell_of_heap h 3, Lib.cell_of_heap h 4, Lib.cell_of_heap h 5⟩
end Go.Fr
