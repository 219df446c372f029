/-
  A lexer's reader of strings.
-/
import Derived.Test.YtcmcikcagpkocaaDoorLxK
import Derived.Test.YtcmcikcagpkocaaDoorShl
import Derived.Lib.IndexLaws
namespace Go.Proofs.YtcmcikcagpkocaaDoor
open Go.RowKit
set_option linter.unusedVariables false
attribute [local go_sem] Oper.semAt_some

theorem quo_none (m : UInt8) (l : List UInt8) (h : ∀ x ∈ l, x ≠ m) : quoN m l = none := by
  fun_induction quoN m l with
  | case1 => rfl
  | case2 => exact absurd rfl (h m (by simp))
  | case3 c hc => rfl
  | case4 r ih => exact absurd rfl (h m (by simp))
  | case5 d r hd => exact absurd rfl (h m (by simp))
  | case6 c d r hc ih => rw [ih fun x hx => h x (by simp at hx ⊢; exact .inr hx)]; rfl
theorem quo_part (m : UInt8) (a r : List UInt8) (h : ∀ x ∈ a, x ≠ m) : quoN m (a ++ m :: r) = if r.head? = some m then (quoN m r.tail).map (fun p => (a ++ m :: p.1, a.length + 2 + p.2)) else some (a, a.length + 1) := by
  induction a with
  | nil =>
    cases r with
    | nil =>
      rw [List.nil_append, quoN, if_pos rfl]
      rfl
    | cons d r =>
      rw [List.nil_append, quoN, if_pos rfl]
      by_cases hd : d = m
      · subst hd
        rw [if_pos (show (d :: r).head? = some d from rfl), if_pos rfl]
        show Option.map _ (quoN d r) = Option.map _ (quoN d r)
        cases quoN d r with
        | none => simp
        | some p => simp; omega
      · rw [if_neg hd, if_neg (by simpa using hd)]
        rfl
  | cons c a ih =>
    have hc := h c (by simp)
    have ih := ih fun x hx => h x (by simp [hx])
    obtain ⟨d, q, hd⟩ : ∃ d q, a ++ m :: r = d :: q := by
      cases hh : a ++ m :: r with
      | nil => simp at hh
      | cons d q => exact ⟨d, q, rfl⟩
    rw [List.cons_append, hd, quoN, if_neg hc, ← hd, ih]
    by_cases hr : r.head? = some m
    · rw [if_pos hr, if_pos hr]
      cases quoN m r.tail with
      | none => rfl
      | some p => simp; omega
    · rw [if_neg hr, if_neg hr]
      rfl
/-- The bytes of the parts, each with a mark behind it. -/
def accL (m : UInt8) : List (List UInt8) → List UInt8
  | [] => []
  | a :: P => a ++ m :: accL m P
theorem acc_app (m : UInt8) (P : List (List UInt8)) (a : List UInt8) : accL m (P ++ [a]) = accL m P ++ (a ++ [m]) := by
  induction P with
  | nil => rfl
  | cons b P ih => rw [List.cons_append, accL, accL, ih]; simp
theorem acc_join (m : UInt8) (P : List (List UInt8)) (a : List UInt8) : Lib.join (P ++ [a]) [m] = accL m P ++ a := by
  induction P with
  | nil => exact Lib.join_one a [m]
  | cons b P ih =>
    rw [List.cons_append, accL]
    cases hP : P ++ [a] with
    | nil => simp at hP
    | cons c Q =>
      rw [hP] at ih
      show [m].intercalate (b :: c :: Q) = _
      have : [m].intercalate (b :: c :: Q) = b ++ [m] ++ [m].intercalate (c :: Q) := by simp [List.intercalate, List.intersperse]
      rw [this, show [m].intercalate (c :: Q) = accL m P ++ a from ih]
      simp
/-- Where the first mark stands. -/
theorem idx_cases (l : List UInt8) (m : UInt8) : (Lib.indexByte l m < 0 ∧ ∀ x ∈ l, x ≠ m) ∨ ∃ (i : Nat) (r : List UInt8), Lib.indexByte l m = i ∧ l = l.take i ++ m :: r ∧ i < l.length ∧ ∀ x ∈ l.take i, x ≠ m := by
  have hg := Lib.indexByte_ge l m
  by_cases h : Lib.indexByte l m = -1
  · refine .inl ⟨by omega, fun x hx e => ?_⟩
    obtain ⟨k, hk⟩ := List.getElem?_of_mem hx
    exact Lib.indexByte_none h k (by rw [hk, e])
  · obtain ⟨i, hi⟩ : ∃ i : Nat, Lib.indexByte l m = i := ⟨(Lib.indexByte l m).toNat, by omega⟩
    obtain ⟨h1, h2⟩ := Lib.indexByte_some hi
    have hlt : i < l.length := (List.getElem?_eq_some_iff.1 h1).1
    refine .inr ⟨i, l.drop (i + 1), hi, ?_, hlt, fun x hx e => ?_⟩
    · have e1 : l[i] = m := (List.getElem?_eq_some_iff.1 h1).2
      have := List.drop_eq_getElem_cons hlt
      rw [e1] at this
      rw [← this, List.take_append_drop]
    · obtain ⟨k, hk⟩ := List.getElem?_of_mem hx
      rw [List.getElem?_take] at hk
      split at hk
      · next hki => exact h2 k hki (by rw [hk, e])
      · cases hk
/-! ### Rows of strings -/
/-- A row of strings of the call's own. -/
def OwnL (w : World) (base : Nat) (v : Value) (P : List (List UInt8)) : Prop := w.ownsRow base 9 1 v P.length (P.map fun x => Value.string (sOf x))
theorem ownL_nil (w : World) (base : Nat) : OwnL w base (.slice none 0 0) [] := World.ownsRow_nil _ _ _ _
theorem OwnL.row {w : World} {base : Nat} {v : Value} {P : List (List UInt8)} (h : OwnL w base v P) (hP : P ≠ []) : ∃ g cap, v = .slice (some ⟨g, 0, none⟩) P.length cap ∧ g < w.heap.size ∧ P.length ≤ cap ∧ ∀ (j : Nat) x, (P.map sOf)[j]? = some x → w.cell? ⟨g, 0 + j, none⟩ = some (.string x) := by
  have h' := h
  rcases h.2 with ⟨rfl, h0⟩ | ⟨g, cap, cur, rfl, _, hg, hm, hle, _⟩
  · exact absurd (List.eq_nil_of_length_eq_zero h0) hP
  · refine ⟨g, cap, rfl, (Array.getElem?_eq_some_iff.1 hg).1, hm, fun j x hx => ?_⟩
    have hj : j < P.length := by have := (List.getElem?_eq_some_iff.1 hx).1; simpa using this
    have := World.ownsRow.cellAt h' j (by simpa using hj)
    rw [Nat.zero_add]
    refine this.trans ?_
    rw [List.getElem?_map] at hx ⊢
    cases hq : P[j]? with
    | none => rw [hq] at hx; cases hx
    | some y => rw [hq] at hx; cases hx; rfl
theorem OwnL.len {w : World} {base : Nat} {v : Value} {P : List (List UInt8)} (h : OwnL w base v P) : ∃ A cap, v = .slice A P.length cap := by
  rcases h.2 with ⟨rfl, h0⟩ | ⟨g, cap, cur, rfl, _⟩
  · rw [show P.length = 0 by simpa using h0]
    exact ⟨none, 0, rfl⟩
  · exact ⟨_, cap, rfl⟩
theorem OwnL.lk {w w' : World} {D B : Nat} {v : Value} {P : List (List UInt8)} (h : OwnL w B v P) (hB : D < B) (K : LK D w w') : OwnL w' B v P := by
  refine ⟨h.1, ?_⟩
  rcases h.2 with e | ⟨g, cap, cur, e1, e2, e3, e4⟩
  · exact .inl e
  · exact .inr ⟨g, cap, cur, e1, e2, (K.same g (Array.getElem?_eq_some_iff.1 e3).1 (by omega)).trans e3, e4⟩
theorem info_string : (Tryd.prog.info? 9).map (fun i => (i.zero, i.size, i.bytes)) = some (some (.string ⟨#[]⟩), 1, 16) := by kernel_rfl
/-- 'l = append(l, x)' at a row of strings of the call's own. -/
theorem wpList_appL {wr : World} {base : Nat} {v : Value} {xs : List (List UInt8)} (R : OwnL wr base v xs) (hbase : base ≤ wr.heap.size) {ops : Array Oper} {rest : List Oper} {o : Oper} {a : Act} {Q : Exit → Act → World → Prop} (hgd : o.guard = none) (s x : Operand)
    (ho : o.op = .call { callee := .builtin .append, args := #[s, x], argTypes := #[47, 47] }) (hs : a.eval s = v) (nb : Nat) (hnb : nb = wr.heap.size) (hx : a.eval x = .slice (some ⟨nb, 0, none⟩) 1 1)
    (y : List UInt8) (k : Nat) (hk : xs.length = k) (hlen : k < 200000)
    (h : ∀ A' cap' w1, OwnL w1 base (.slice A' (k + 1) cap') (xs ++ [y]) → Below base wr w1 → wr.heap.size ≤ w1.heap.size → wpList Tryd.prog ops Q rest (a.put o.dst (.slice A' (k + 1) cap')) w1) : wpList Tryd.prog ops Q (o :: rest) a (wr.alloc (.cells #[.string (sOf y)] 9)) := by
  subst hnb
  obtain ⟨i0, hi, hz0, hz1, hz2⟩ := info_parts info_string
  have hb : Below base wr (wr.alloc (.cells #[.string (sOf y)] 9)) := (Below.refl base wr).alloc hbase _
  have hown := World.ownsRow.alloc R (.cells #[.string (sOf y)] 9)
  refine wpList_append_own _ hgd s x 47 ho base 9 i0 (.string ⟨#[]⟩) 1 16 Tryd.underlying47 hi hz0 hz1 hz2 rfl (by decide) v xs.length _ hs hown ⟨wr.heap.size, 0, none⟩ 1 1 [.string (sOf y)] hx rfl ?_ ?_ ?_ ?_ ?_ ?_
  · intro j u hj
    match j, hj with
    | 0, hj => simp at hj; subst hj; simp [Addr.add, go_sem]
  · intro u hu
    simp at hu
    subst hu
    rfl
  · unfold maxLen; omega
  · omega
  · simp; omega
  · intro v' w1 hown' hgrow _
    have hO : OwnL w1 base v' (xs ++ [y]) := by
      unfold OwnL
      rw [List.length_append, List.map_append]
      exact hown'
    obtain ⟨A', cap', rfl⟩ := hO.len
    have hb2 := hb.grown hgrow (by simp; omega) fun k hk => (hown.lt k hk).1
    rw [List.length_append, hk] at hO ⊢
    exact h A' cap' w1 hO hb2 (by have := hb2.size; have := hgrow.size; simp at this; omega)
end Go.Proofs.YtcmcikcagpkocaaDoor
