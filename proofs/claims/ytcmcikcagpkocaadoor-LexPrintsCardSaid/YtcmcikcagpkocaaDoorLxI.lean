/-
  Rows of tokens: slices that read as tokens, rows of the call's own, append of one token. Two types of tokens have the same cells.
-/
import Derived.Test.YtcmcikcagpkocaaDoorLxA
import Derived.Test.YtcmcikcagpkocaaDoorNumF
import Derived.OwnWalk
import Derived.Laws.AppendOwn
import Derived.Laws.OwnMore
import Derived.OneCell
import Derived.Lib.SliceRun
import Derived.Maps.AppendAt
namespace Go.Proofs.YtcmcikcagpkocaaDoor
open Go.RowKit
set_option linter.unusedVariables false

def tokA (x : Tk) : Array Value := #[.int .i64 x.k, .string (sOf x.t), .int .i64 x.n, .int .i64 x.p]
def cellsK : List Tk → List Value
  | [] => []
  | x :: t => .int .i64 x.k :: .string (sOf x.t) :: .int .i64 x.n :: .int .i64 x.p :: cellsK t
theorem cellsK_length : ∀ L : List Tk, (cellsK L).length = L.length * 4
  | [] => rfl
  | x :: t => by
    have h := cellsK_length t
    show (cellsK t).length + 1 + 1 + 1 + 1 = (t.length + 1) * 4
    omega
theorem cellsK_append : ∀ a b : List Tk, cellsK (a ++ b) = cellsK a ++ cellsK b
  | [], b => rfl
  | x :: t, b => by
    show _ :: _ :: _ :: _ :: cellsK (t ++ b) = _ :: _ :: _ :: _ :: (cellsK t ++ cellsK b)
    rw [cellsK_append t b]
theorem cellsK_at : ∀ (L : List Tk) (j : Nat) (h : j < L.length), (cellsK L)[j * 4]? = some (.int .i64 L[j].k) ∧ (cellsK L)[j * 4 + 1]? = some (.string (sOf L[j].t)) ∧ (cellsK L)[j * 4 + 2]? = some (.int .i64 L[j].n) ∧ (cellsK L)[j * 4 + 3]? = some (.int .i64 L[j].p)
  | x :: t, 0, h => ⟨rfl, rfl, rfl, rfl⟩
  | x :: t, j + 1, h => by
    obtain ⟨h1, h2, h3, h4⟩ := cellsK_at t j (by simpa using h)
    have e : cellsK (x :: t) = .int .i64 x.k :: .string (sOf x.t) :: .int .i64 x.n :: .int .i64 x.p :: cellsK t := rfl
    rw [e, show (j + 1) * 4 = j * 4 + 1 + 1 + 1 + 1 by omega, show j * 4 + 1 + 1 + 1 + 1 + 1 = (j * 4 + 1) + 1 + 1 + 1 + 1 by omega, show j * 4 + 1 + 1 + 1 + 1 + 2 = (j * 4 + 2) + 1 + 1 + 1 + 1 by omega, show j * 4 + 1 + 1 + 1 + 1 + 3 = (j * 4 + 3) + 1 + 1 + 1 + 1 by omega]
    simp only [List.getElem?_cons_succ, List.getElem_cons_succ]
    exact ⟨h1, h2, h3, h4⟩
/-- A slice of tokens that reads as L. -/
def KsP (w : World) (A : Option Addr) (L : List Tk) : Prop :=
  L = [] ∨ ∃ b off, A = some ⟨b, off, none⟩ ∧ ∀ j (h : j < L.length), w.cell? ⟨b, off + j * 4, none⟩ = some (.int .i64 L[j].k) ∧ w.cell? ⟨b, off + j * 4 + 1, none⟩ = some (.string (sOf L[j].t)) ∧ w.cell? ⟨b, off + j * 4 + 2, none⟩ = some (.int .i64 L[j].n) ∧ w.cell? ⟨b, off + j * 4 + 3, none⟩ = some (.int .i64 L[j].p)
theorem KsP.at_ {w : World} {A : Option Addr} {L : List Tk} (h : KsP w A L) {k : Nat} (hk : k < L.length) : ∃ b off, A = some ⟨b, off, none⟩ ∧ b < w.heap.size ∧ w.cell? ⟨b, off + k * 4, none⟩ = some (.int .i64 L[k].k) ∧ w.cell? ⟨b, off + k * 4 + 1, none⟩ = some (.string (sOf L[k].t)) ∧ w.cell? ⟨b, off + k * 4 + 2, none⟩ = some (.int .i64 L[k].n) ∧ w.cell? ⟨b, off + k * 4 + 3, none⟩ = some (.int .i64 L[k].p) := by
  rcases h with rfl | ⟨b, off, rfl, hc⟩
  · simp at hk
  · exact ⟨b, off, rfl, World.block_lt_of_cell? w _ (hc k hk).1, hc k hk⟩
theorem KsP.below {w w' : World} {A : Option Addr} {L : List Tk} (h : KsP w A L) (hb : Below w.heap.size w w') : KsP w' A L := by
  rcases h with rfl | ⟨b, off, rfl, hc⟩
  · exact .inl rfl
  · refine .inr ⟨b, off, rfl, fun j hj => ?_⟩
    have e : ∀ (p : Addr) (v : Value), w.cell? p = some v → w'.cell? p = some v := fun p v hp => (hb.cell (World.block_lt_of_cell? w _ hp)).trans hp
    obtain ⟨h1, h2, h3, h4⟩ := hc j hj
    exact ⟨e _ _ h1, e _ _ h2, e _ _ h3, e _ _ h4⟩
/-- A row of tokens of the call's own. -/
def OwnK (e : TypeId) (w : World) (base : Nat) (v : Value) (L : List Tk) : Prop := w.ownsRow base e 4 v L.length (cellsK L)
theorem ownK_nil (e : TypeId) (w : World) (base : Nat) : OwnK e w base (.slice none 0 0) [] := World.ownsRow_nil _ _ _ _
theorem OwnK.ks {e : TypeId} {w : World} {base : Nat} {v : Value} {L : List Tk} (h : OwnK e w base v L) : ∃ A cap, v = .slice A L.length cap ∧ KsP w A L ∧ L.length ≤ cap := by
  have h' := h
  rcases h.2 with ⟨rfl, h0⟩ | ⟨g, cap, cur, rfl, _, _, hle, _⟩
  · have : L = [] := List.eq_nil_of_length_eq_zero h0
    subst this
    exact ⟨none, 0, rfl, .inl rfl, Nat.le_refl _⟩
  · refine ⟨_, cap, rfl, .inr ⟨g, 0, rfl, fun j hj => ?_⟩, hle⟩
    obtain ⟨h1, h2, h3, h4⟩ := cellsK_at L j hj
    have hl := cellsK_length L
    rw [Nat.zero_add]
    exact ⟨(World.ownsRow.cellAt h' _ (by omega)).trans h1, (World.ownsRow.cellAt h' _ (by omega)).trans h2, (World.ownsRow.cellAt h' _ (by omega)).trans h3, (World.ownsRow.cellAt h' _ (by omega)).trans h4⟩
/-- What is asked of a type e of tokens and of its slices t. -/
structure KT (t e : TypeId) : Prop where
  u : Tryd.prog.underlying t = some (.slice e)
  i : (Tryd.prog.info? e).map (fun i => (i.zero, i.size, i.bytes)) = some (some (.agg #[.int .i64 0, .string ⟨#[]⟩, .int .i64 0, .int .i64 0]), 4, 40)
theorem kt_lex : KT 23 33 := ⟨Tryd.underlying23, by kernel_rfl⟩
theorem kt_ref : KT 27 34 := ⟨Tryd.underlying27, by kernel_rfl⟩
/-- 'l = append(l, t)' at a row of tokens of the call's own. -/
theorem wpList_appK {t e : TypeId} (K : KT t e) {wr : World} {base : Nat} {v : Value} {xs : List Tk} (R : OwnK e wr base v xs) (hbase : base ≤ wr.heap.size) {ops : Array Oper} {rest : List Oper} {o : Oper} {a : Act} {Q : Exit → Act → World → Prop} (hgd : o.guard = none) (s x : Operand)
    (ho : o.op = .call { callee := .builtin .append, args := #[s, x], argTypes := #[t, t] }) (hs : a.eval s = v) (nb : Nat) (hnb : nb = wr.heap.size) (hx : a.eval x = .slice (some ⟨nb, 0, none⟩) 1 1)
    (y : Tk) (k : Nat) (hk : xs.length = k) (hlen : k < 10000)
    (h : ∀ A' cap' w1, OwnK e w1 base (.slice A' (k + 1) cap') (xs ++ [y]) → Below base wr w1 → wr.heap.size ≤ w1.heap.size → (∀ j, j < wr.heap.size → some j ≠ v.ownBlock → w1.heap[j]? = wr.heap[j]?) → wpList Tryd.prog ops Q rest (a.put o.dst (.slice A' (k + 1) cap')) w1) : wpList Tryd.prog ops Q (o :: rest) a (wr.alloc (.cells (tokA y) e)) := by
  subst hnb
  obtain ⟨i0, hi, hz0, hz1, hz2⟩ := info_parts K.i
  have hb : Below base wr (wr.alloc (.cells (tokA y) e)) := (Below.refl base wr).alloc hbase _
  have hown := World.ownsRow.alloc R (.cells (tokA y) e)
  refine wpList_append_own _ hgd s x t ho base e i0 (.agg #[.int .i64 0, .string ⟨#[]⟩, .int .i64 0, .int .i64 0]) 4 40 K.u hi hz0 hz1 hz2 rfl (by decide) v xs.length _ hs hown ⟨wr.heap.size, 0, none⟩ 1 1 [.int .i64 y.k, .string (sOf y.t), .int .i64 y.n, .int .i64 y.p] hx rfl ?_ ?_ ?_ ?_ ?_ ?_
  · intro j u hj
    unfold tokA
    match j, hj with
    | 0, hj => simp at hj; subst hj; simp [Addr.add, go_sem]
    | 1, hj => simp at hj; subst hj; simp [Addr.add, go_sem]
    | 2, hj => simp at hj; subst hj; simp [Addr.add, go_sem]
    | 3, hj => simp at hj; subst hj; simp [Addr.add, go_sem]
  · intro u hu
    simp at hu
    rcases hu with rfl | rfl | rfl | rfl <;> rfl
  · unfold maxLen; omega
  · omega
  · simp; omega
  · intro v' w1 hown' hgrow _
    have hO : OwnK e w1 base v' (xs ++ [y]) := by
      unfold OwnK
      rw [List.length_append, cellsK_append]
      exact hown'
    obtain ⟨A', cap', rfl, -, -⟩ := hO.ks
    rw [List.length_append, hk] at hO ⊢
    have hb2 := hb.grown hgrow (by simp; omega) fun k hk => (hown.lt k hk).1
    refine h A' cap' w1 hO hb2 (by have := hgrow.size; simp at this; omega) fun j hj hne => ?_
    rw [hgrow.block j (by simp; omega) hne]
    exact Below.heap_alloc _ _ _ hj
/-- Where the own row lies. -/
theorem OwnK.lt {e : TypeId} {w : World} {base : Nat} {v : Value} {L : List Tk} (h : OwnK e w base v L) : ∀ j, some j = v.ownBlock → j < w.heap.size := fun j hj => (World.ownsRow.lt h j hj.symm).2
end Go.Proofs.YtcmcikcagpkocaaDoor
