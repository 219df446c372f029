/-
  slices.Insert at a row of one operand of the call's own: the register A comes in front of it, in place or in a new row.
-/
import Derived.Test.YtbmgfkbgfgknbaaCnX
import Derived.Laws.IdiomCopy
import Derived.Laws.Externs
import Derived.Lib.Overlaps
import Derived.Lib.AppendZerosOnto
namespace Go.Proofs.Ytbmgfkbgfgknbaa
open Go.RowKit
set_option linter.unusedVariables false

def set3 (cur : Array Value) (o : Nat) (t : Tr) : Array Value := ((cur.setIfInBounds o (.int .i64 t.1)).setIfInBounds (o + 1) (.int .i64 t.2.1)).setIfInBounds (o + 2) (.int .i64 t.2.2)
theorem set3_size (cur : Array Value) (o : Nat) (t : Tr) : (set3 cur o t).size = cur.size := by simp [set3]
theorem set3_at (cur : Array Value) (o : Nat) (t : Tr) (h : o + 3 ≤ cur.size) : (set3 cur o t)[o]? = some (.int .i64 t.1) ∧ (set3 cur o t)[o + 1]? = some (.int .i64 t.2.1) ∧ (set3 cur o t)[o + 2]? = some (.int .i64 t.2.2) := by
  unfold set3
  refine ⟨?_, ?_, ?_⟩
  · rw [Array.getElem?_setIfInBounds, if_neg (by omega), Array.getElem?_setIfInBounds, if_neg (by omega), Array.getElem?_setIfInBounds, if_pos rfl, if_pos (by omega)]
  · rw [Array.getElem?_setIfInBounds, if_neg (by omega), Array.getElem?_setIfInBounds, if_pos rfl, if_pos (by simp; omega)]
  · rw [Array.getElem?_setIfInBounds, if_pos rfl, if_pos (by simp; omega)]
theorem set3_other (cur : Array Value) (o : Nat) (t : Tr) (j : Nat) (h : j < o ∨ o + 3 ≤ j) : (set3 cur o t)[j]? = cur[j]? := by
  unfold set3
  rw [Array.getElem?_setIfInBounds, if_neg (by omega), Array.getElem?_setIfInBounds, if_neg (by omega), Array.getElem?_setIfInBounds, if_neg (by omega)]
theorem add_lit (b off j : Nat) : (⟨b, off, none⟩ : Addr).add j = ⟨b, off + j, none⟩ := by unfold Addr.add; split <;> simp_all
/-- copy of one operand into a block of operands. -/
theorem run_copyT (w : World) (ty : TypeId) (g o dLen dCap b off sLen sCap : Nat) (cur : Array Value) (t : Tr) (hg : w.heap[g]? = some (.cells cur 33 (0, 0))) (hmin : Nat.min sLen dLen = 1)
    (hsrc : ∀ j u, (cellsT [t])[j]? = some u → w.cell? ⟨b, off + j, none⟩ = some u) (hfit : o + 3 ≤ cur.size) :
    ∃ w', (Builtin.copy_ #[22, 22] ty #[.slice (some ⟨g, o, none⟩) dLen dCap, .slice (some ⟨b, off, none⟩) sLen sCap]).run Try.prog w = .ok (goInt 1) w' ∧
      w'.heap[g]? = some (.cells (set3 cur o t) 33 (0, 0)) ∧ w.grownBy w' (some g) := by
  obtain ⟨i0, hi, hz0, hz1, hz2⟩ := info_parts info_opd
  have hl := run_loadCells_list (P := Try.prog) w ⟨b, off, none⟩ (cellsT [t]) (fun j u hj => by rw [add_lit]; exact hsrc j u hj)
  have hcell : ∀ j, j < 3 → (w.cell? ⟨g, o + 0 + j, none⟩).isSome = true := fun j hj => by
    rw [Lib.cell_of_heap hg, Array.getElem?_eq_getElem (by omega)]; rfl
  have hst := run_storeCells_cells (P := Try.prog) g o (cellsT [t]) 0 w hcell (fun j _ => Lib.frozen_of_heap hg _) (cellsT_one [t])
  refine ⟨((w.setCell ⟨g, o, none⟩ (.int .i64 t.1)).setCell ⟨g, o + 1, none⟩ (.int .i64 t.2.1)).setCell ⟨g, o + 1 + 1, none⟩ (.int .i64 t.2.2), ?_, ?_, ?_⟩
  · have hst' : (storeCells ⟨g, o, none⟩ (cellsT [t])).run Try.prog w = .ok () (((w.setCell ⟨g, o, none⟩ (.int .i64 t.1)).setCell ⟨g, o + 1, none⟩ (.int .i64 t.2.1)).setCell ⟨g, o + 1 + 1, none⟩ (.int .i64 t.2.2)) := hst
    have h3 : (cellsT [t]).length = 3 := rfl
    rw [h3] at hl
    simp [Builtin.copy_, run_underlying Try.underlying22, Builtin.lenOf, Builtin.firstCells, sizeOf, typeInfo, hi, hz1, hmin, hl, hst']
  · have h1 := heap_setCell_same w g o _ _ (.int .i64 t.1) hg
    have h2 := heap_setCell_same _ g (o + 1) _ _ (.int .i64 t.2.1) h1
    exact heap_setCell_same _ g (o + 1 + 1) _ _ (.int .i64 t.2.2) h2
  · exact grownBy_set (grownBy_set (grownBy_set (World.grownBy.refl w (some g)) _ _) _ _) _ _
theorem wpList_run_copy {w w1 : World} {t ty : TypeId} {v y v' : Value} (h1 : (Builtin.copy_ #[t, t] ty #[v, y]).run Try.prog w = .ok v' w1) {ops : Array Oper} {rest : List Oper} {o : Oper} {a : Act} {Q : Exit → Act → World → Prop} (hgd : o.guard = none) (s x : Operand)
    (ho : o.op = .call { callee := .builtin .copy, args := #[s, x], argTypes := #[t, t] }) (hty : o.type = ty) (hs : a.eval s = v) (hx : a.eval x = y) (hk : wpList Try.prog ops Q rest (a.put o.dst v') w1) : wpList Try.prog ops Q (o :: rest) a w := by
  subst hty
  refine wpList_plain hgd fun K hK => ?_
  unfold Oper.wp
  simp [execOp, ho, resolve, invoke, builtin, hs, hx, h1, Result.andThen]
  exact hK _ _ hk
theorem wpList_run_app2 {w w1 : World} {t tn ty : TypeId} {v y v' : Value} (h1 : (Builtin.append_ #[t, tn] ty #[v, y]).run Try.prog w = .ok v' w1) {ops : Array Oper} {rest : List Oper} {o : Oper} {a : Act} {Q : Exit → Act → World → Prop} (hgd : o.guard = none) (s x : Operand)
    (ho : o.op = .call { callee := .builtin .append, args := #[s, x], argTypes := #[t, tn] }) (hty : o.type = ty) (hs : a.eval s = v) (hx : a.eval x = y) (hk : wpList Try.prog ops Q rest (a.put o.dst v') w1) : wpList Try.prog ops Q (o :: rest) a w := by
  subst hty
  refine wpList_plain hgd fun K hK => ?_
  unfold Oper.wp
  simp [execOp, ho, resolve, invoke, builtin, hs, hx, h1, Result.andThen]
  exact hK _ _ hk
theorem rowS_two {w : World} {B g : Nat} {cur : Array Value} {x y : Tr} (hB : B ≤ g) (hg : w.heap[g]? = some (.cells cur 33 (0, 0)))
    (hx : cur[0]? = some (.int .i64 x.1) ∧ cur[1]? = some (.int .i64 x.2.1) ∧ cur[2]? = some (.int .i64 x.2.2)) (hy : cur[3]? = some (.int .i64 y.1) ∧ cur[4]? = some (.int .i64 y.2.1) ∧ cur[5]? = some (.int .i64 y.2.2)) : RowS w B g 0 [x, y] := by
  refine ⟨hB, cur, hg, fun j u hj => ?_⟩
  rw [Nat.zero_add]
  match j, hj with
  | 0, hj => exact hx.1.trans hj
  | 1, hj => exact hx.2.1.trans hj
  | 2, hj => exact hx.2.2.trans hj
  | 3, hj => exact hy.1.trans hj
  | 4, hj => exact hy.2.1.trans hj
  | 5, hj => exact hy.2.2.trans hj
  | j + 6, hj => cases hj
theorem run_over (w : World) (vb m vc g off lb cb : Nat) (hne : vb ≠ g) (cv cg : Array Value) (tv tg : TypeId) (hv : w.heap[vb]? = some (.cells cv tv (0, 0))) (hg : w.heap[g]? = some (.cells cg tg (0, 0))) (h0 : cg.size ≠ 0) :
    (callFunc 29 #[.slice (some ⟨vb, 0, none⟩) m vc, .slice (some ⟨g, off, none⟩) lb cb]).run Try.prog w = .ok (.value (.bool false)) w := by
  obtain ⟨i0, hi, hz0, hz1, hz2⟩ := info_parts info_opd
  rw [run_callFunc_extern Try.func29 (by kernel_rfl) (by kernel_rfl) (by kernel_rfl) (e := Extern.SlicesOverlaps.overlaps #[22, 22] #[4]) (by kernel_rfl),
    Lib.run_overlaps_apart w 22 4 33 Try.underlying22 3 (fun w => by simp [sizeOf, typeInfo, hi, hz1]) ⟨vb, 0, none⟩ ⟨g, off, none⟩ m vc lb cb hne tv tg cv.size cg.size (by simp [World.shape?, hv]) (by simp [World.shape?, hg]) h0 (Lib.frozen_of_heap hv 0) (Lib.frozen_of_heap hv _)]
  rfl
end Go.Proofs.Ytbmgfkbgfgknbaa
