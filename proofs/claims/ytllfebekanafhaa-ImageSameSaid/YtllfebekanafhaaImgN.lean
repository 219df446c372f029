/-
  The runs of a list of cells. No program.
-/
import Derived.Test.YtllfebekanafhaaImgM
namespace Go.Proofs.Ytllfebekanafhaa
open Go.RowKit
set_option linter.unusedVariables false

abbrev Rn := Nat × List UInt8
def addCell (out : List Rn) (c : Cel) : List Rn :=
  match out.getLast? with
  | some r => if r.1 + r.2.length = c.1 then out.dropLast ++ [(r.1, r.2 ++ [c.2])] else out ++ [(c.1, [c.2])]
  | none => [(c.1, [c.2])]
theorem addCell_nil (c : Cel) : addCell [] c = [(c.1, [c.2])] := rfl
theorem addCell_same (out : List Rn) (r : Rn) (c : Cel) (h : r.1 + r.2.length = c.1) : addCell (out ++ [r]) c = out ++ [(r.1, r.2 ++ [c.2])] := by
  unfold addCell
  rw [List.getLast?_concat]
  simp only [if_pos h, List.dropLast_concat]
theorem addCell_other (out : List Rn) (r : Rn) (c : Cel) (h : r.1 + r.2.length ≠ c.1) : addCell (out ++ [r]) c = out ++ [r] ++ [(c.1, [c.2])] := by
  unfold addCell
  rw [List.getLast?_concat]
  simp only [if_neg h]
def runsW (W : List Cel) : List Rn := W.foldl addCell []
theorem runsW_snoc (W : List Cel) (c : Cel) : runsW (W ++ [c]) = addCell (runsW W) c := by unfold runsW; rw [List.foldl_append]; rfl
theorem snoc_cases {α : Type} (l : List α) : l = [] ∨ ∃ i x, l = i ++ [x] := by
  rcases List.eq_nil_or_concat l with h | ⟨i, x, h⟩
  · exact .inl h
  · exact .inr ⟨i, x, by rw [h, List.concat_eq_append]⟩
/-- The last run ends behind the last cell. -/
theorem runs_end (W : List Cel) (c : Cel) : ∃ out r, runsW (W ++ [c]) = out ++ [r] ∧ r.1 + r.2.length = c.1 + 1 ∧ r.2 ≠ [] := by
  rw [runsW_snoc]
  rcases snoc_cases (runsW W) with h | ⟨out, r, h⟩
  · rw [h, addCell_nil]; exact ⟨[], _, rfl, rfl, by simp⟩
  · rw [h]
    by_cases e : r.1 + r.2.length = c.1
    · rw [addCell_same out r c e]
      exact ⟨out, _, rfl, by simp only [List.length_append, List.length_cons, List.length_nil]; omega, by simp⟩
    · rw [addCell_other out r c e]
      exact ⟨out ++ [r], _, rfl, rfl, by simp⟩
theorem fold_same (out : List Rn) (a : Nat) (d ys : List UInt8) : (mkW (a + d.length) ys).foldl addCell (out ++ [(a, d)]) = out ++ [(a, d ++ ys)] := by
  induction ys generalizing d with
  | nil => simp [mkW]
  | cons y t ih =>
    simp only [mkW, List.foldl_cons]
    rw [addCell_same out (a, d) _ rfl]
    have h := ih (d ++ [y])
    rw [List.length_append] at h
    have e : a + (d.length + [y].length) = a + d.length + 1 := by simp only [List.length_cons, List.length_nil]; omega
    rw [e] at h
    rw [h]
    simp
theorem runs_mk (W : List Cel) (a : Nat) (xs : List UInt8) (hx : xs ≠ []) (hW : W = [] ∨ ∃ V c, W = V ++ [c] ∧ c.1 + 1 ≠ a) : runsW (W ++ mkW a xs) = runsW W ++ [(a, xs)] := by
  cases xs with
  | nil => exact absurd rfl hx
  | cons x t =>
    have h1 : addCell (runsW W) (a, x) = runsW W ++ [(a, [x])] := by
      rcases hW with rfl | ⟨V, c, rfl, hc⟩
      · rfl
      · obtain ⟨out, r, e1, e2, _⟩ := runs_end V c
        rw [e1, addCell_other out r (a, x) (by show _ ≠ a; omega)]
    unfold runsW at h1 ⊢
    rw [List.foldl_append]
    simp only [mkW, List.foldl_cons]
    rw [h1]
    exact fold_same _ a [x] t

/-- What an image's loop adds. -/
def segB (W : List Cel) (k e : Nat) : List UInt8 := (List.range (e - k)).map fun j => byteW W (k + j)
theorem segB_length (W : List Cel) (k e : Nat) : (segB W k e).length = e - k := by unfold segB; simp
theorem segB_getD (W : List Cel) (k e i : Nat) (h1 : k ≤ i) (h2 : i < e) : (segB W k e).getD (i - k) 0 = byteW W i := by
  unfold segB
  rw [List.getD_eq_getElem?_getD, List.getElem?_map, List.getElem?_range (by omega)]
  simp only [Option.map_some, Option.getD_some]
  rw [show k + (i - k) = i by omega]
def below (W : List Cel) (k : Nat) : List Cel := W.filter fun c => decide (c.1 < k)
theorem mem_below {W : List Cel} {k : Nat} {c : Cel} : c ∈ below W k ↔ c ∈ W ∧ c.1 < k := by unfold below; rw [List.mem_filter]; simp
theorem below_sorted {W : List Cel} (h : SortedW W) (k : Nat) : (below W k).Pairwise (fun a b => a.1 < b.1) := h.1.sublist List.filter_sublist
theorem below_all {W : List Cel} (h : SortedW W) : below W 65536 = W := List.filter_eq_self.2 fun c hc => decide_eq_true (h.2 c hc)
theorem below_first {W : List Cel} {k : Nat} (h : NextI (hasW W) 0 true k) : below W k = [] := by
  apply List.filter_eq_nil_iff.2
  intro c hc hlt
  have hlt' : c.1 < k := of_decide_eq_true hlt
  have := h.2.2.1 c.1 (Nat.zero_le _) hlt'
  rw [hasW_iff.2 ⟨c, hc, rfl⟩] at this
  cases this
theorem below_next {W : List Cel} (hs : SortedW W) {k e k' : Nat} (h1 : NextI (hasW W) k false e) (h2 : NextI (hasW W) e true k') : below W k' = below W k ++ mkW k (segB W k e) := by
  have h1k := h1.1
  have h2k := h2.1
  apply sorted_ext (below_sorted hs k')
  · rw [List.pairwise_append]
    refine ⟨below_sorted hs k, mkW_sorted _ _, fun c hc d hd => ?_⟩
    have := (mem_below.1 hc).2
    have := (mkW_mem.1 hd).1
    omega
  · intro c
    rw [List.mem_append, mem_below, mem_below, mkW_mem, segB_length]
    constructor
    · rintro ⟨hc, hlt⟩
      by_cases hk : c.1 < k
      · exact .inl ⟨hc, hk⟩
      · right
        have hH := hasW_iff.2 ⟨c, hc, rfl⟩
        have he : c.1 < e := by
          rcases Nat.lt_or_ge c.1 e with h | h
          · exact h
          · have := h2.2.2.1 c.1 h hlt
            rw [hH] at this; cases this
        refine ⟨by omega, by omega, ?_⟩
        rw [segB_getD W k e c.1 (by omega) he]
        exact byteW_mem hs.1 hc
    · rintro (⟨hc, hlt⟩ | ⟨h3, h4, h5⟩)
      · exact ⟨hc, by omega⟩
      · have hH := h1.2.2.1 c.1 h3 (by omega)
        rw [segB_getD W k e c.1 h3 (by omega)] at h5
        exact ⟨(mem_iff hs.1 c).2 ⟨by simpa using hH, h5⟩, by omega⟩
theorem runs_next {W : List Cel} (hs : SortedW W) {k e k' : Nat} (hk : k < e) (hgap : ∀ c ∈ W, c.1 + 1 ≠ k) (h1 : NextI (hasW W) k false e) (h2 : NextI (hasW W) e true k') :
    runsW (below W k') = runsW (below W k) ++ [(k, segB W k e)] := by
  rw [below_next hs h1 h2]
  apply runs_mk
  · intro h0
    have := congrArg List.length h0
    rw [segB_length] at this
    simp at this
    omega
  · rcases snoc_cases (below W k) with h | ⟨V, c, h⟩
    · exact .inl h
    · refine .inr ⟨V, c, h, hgap c ?_⟩
      have : c ∈ below W k := by rw [h]; simp
      exact (mem_below.1 this).1
theorem gap_first {W : List Cel} {k : Nat} (h : NextI (hasW W) 0 true k) : ∀ c ∈ W, c.1 + 1 ≠ k := by
  intro c hc e
  have := h.2.2.1 c.1 (Nat.zero_le _) (by omega)
  rw [hasW_iff.2 ⟨c, hc, rfl⟩] at this
  cases this
theorem gap_next {W : List Cel} {k e k' : Nat} (h1 : NextI (hasW W) k false e) (h2 : NextI (hasW W) e true k') (hk : k' < 65536) : ∀ c ∈ W, c.1 + 1 ≠ k' := by
  intro c hc hcc
  have hH := hasW_iff.2 ⟨c, hc, rfl⟩
  have h3 := h2.1
  by_cases he : e = k'
  · have a1 := h1.2.2.2 (by omega)
    have a2 := h2.2.2.2 hk
    rw [he, a2] at a1
    cases a1
  · have := h2.2.2.1 c.1 (by omega) (by omega)
    rw [hH] at this
    cases this
/-- All cells of runs, one after the other. -/
def expand (l : List Rn) : List Cel := l.flatMap fun r => mkW r.1 r.2
theorem expand_append (l m : List Rn) : expand (l ++ m) = expand l ++ expand m := by unfold expand; rw [List.flatMap_append]
theorem expand_runs (W : List Cel) : expand (runsW W) = W := by
  have h : ∀ n, ∀ W : List Cel, W.length = n → expand (runsW W) = W := by
    intro n
    induction n with
    | zero => intro W hW; rw [List.eq_nil_of_length_eq_zero hW]; rfl
    | succ n ih =>
      intro W hW
      rcases snoc_cases W with rfl | ⟨V, c, rfl⟩
      · simp at hW
      · have hV := ih V (by simpa using hW)
        rw [runsW_snoc]
        rcases snoc_cases (runsW V) with h | ⟨out, r, h⟩
        · rw [h] at hV ⊢
          rw [← hV]
          rfl
        · rw [h] at hV ⊢
          by_cases e : r.1 + r.2.length = c.1
          · rw [addCell_same out r c e, expand_append]
            rw [expand_append] at hV
            have e1 : expand [(r.1, r.2 ++ [c.2])] = expand [r] ++ [c] := by
              unfold expand
              simp only [List.flatMap_cons, List.flatMap_nil, List.append_nil]
              rw [mkW_append, e]
              rfl
            rw [e1, ← List.append_assoc, hV]
          · rw [addCell_other out r c e, expand_append, hV]
            rfl
  exact h _ W rfl
/-- Runs whose neighbours don't touch, and none of which is empty. -/
def Canon (l : List Rn) : Prop := (∀ r ∈ l, r.2 ≠ []) ∧ ∀ i (h : i + 1 < l.length), l[i].1 + l[i].2.length < l[i + 1].1
theorem canon_snoc {l : List Rn} {r : Rn} (h : Canon l) (hr : r.2 ≠ []) (hl : ∀ q, l.getLast? = some q → q.1 + q.2.length < r.1) : Canon (l ++ [r]) := by
  refine ⟨fun q hq => ?_, fun i hi => ?_⟩
  · rcases List.mem_append.1 hq with h1 | h1
    · exact h.1 q h1
    · rw [List.mem_singleton.1 h1]; exact hr
  · rw [List.length_append] at hi
    simp only [List.length_cons, List.length_nil] at hi
    by_cases e : i + 1 < l.length
    · rw [List.getElem_append_left (by omega), List.getElem_append_left e]
      exact h.2 i e
    · have hi1 : i + 1 = l.length := by omega
      rw [List.getElem_append_left (by omega : i < l.length), List.getElem_append_right (by omega)]
      have : l.getLast? = some l[i] := by
        rw [List.getLast?_eq_getElem?, List.getElem?_eq_getElem (by omega)]
        congr 1
        congr 1
        omega
      simpa using hl _ this
theorem canon_init {l : List Rn} {r : Rn} (h : Canon (l ++ [r])) : Canon l ∧ ∀ q, l.getLast? = some q → q.1 + q.2.length < r.1 := by
  refine ⟨⟨fun q hq => h.1 q (List.mem_append_left _ hq), fun i hi => ?_⟩, fun q hq => ?_⟩
  · have := h.2 i (by simp; omega)
    rw [List.getElem_append_left (by omega), List.getElem_append_left (by omega)] at this
    exact this
  · rw [List.getLast?_eq_getElem?] at hq
    obtain ⟨hlt, e⟩ := List.getElem?_eq_some_iff.1 hq
    have := h.2 (l.length - 1) (by simp; omega)
    rw [List.getElem_append_left (by omega), List.getElem_append_right (by omega)] at this
    rw [← e]
    simpa using this
theorem canon_runs {W : List Cel} (hs : W.Pairwise (fun a b => a.1 < b.1)) : Canon (runsW W) := by
  have h : ∀ n, ∀ W : List Cel, W.length = n → W.Pairwise (fun a b => a.1 < b.1) → Canon (runsW W) := by
    intro n
    induction n with
    | zero =>
      intro W hW _
      rw [List.eq_nil_of_length_eq_zero hW]
      exact ⟨fun r hr => absurd hr List.not_mem_nil, fun i hi => absurd hi (Nat.not_lt_zero _)⟩
    | succ n ih =>
      intro W hW hs
      rcases snoc_cases W with rfl | ⟨V, c, rfl⟩
      · simp at hW
      · rw [List.pairwise_append] at hs
        obtain ⟨hV, _, hc⟩ := hs
        have hC := ih V (by simpa using hW) hV
        rw [runsW_snoc]
        rcases snoc_cases (runsW V) with h | ⟨out, r, h⟩
        · rw [h, addCell_nil]
          exact ⟨fun q hq => by rw [List.mem_singleton.1 hq]; simp, fun i hi => by simp at hi⟩
        · rw [h] at hC ⊢
          have hrV : ∀ d ∈ mkW r.1 r.2, d ∈ V := fun d hd => by
            rw [← expand_runs V, h, expand_append]
            exact List.mem_append_right _ (by unfold expand; simpa using hd)
          by_cases e : r.1 + r.2.length = c.1
          · rw [addCell_same out r c e]
            obtain ⟨h1, h2⟩ := canon_init hC
            exact canon_snoc h1 (by simp) h2
          · rw [addCell_other out r c e]
            refine canon_snoc hC (by simp) fun q hq => ?_
            rw [List.getLast?_concat] at hq
            have hq' := Option.some.inj hq
            subst hq'
            have hne := hC.1 r (by simp)
            have hpos : 0 < r.2.length := List.length_pos_iff.2 hne
            have hmem : (r.1 + (r.2.length - 1), r.2.getD (r.2.length - 1) 0) ∈ mkW r.1 r.2 := mkW_mem.2 ⟨by show r.1 ≤ r.1 + _; omega, by show r.1 + (r.2.length - 1) < _; omega, by show r.2.getD (r.1 + (r.2.length - 1) - r.1) 0 = _; rw [show r.1 + (r.2.length - 1) - r.1 = r.2.length - 1 by omega]⟩
            have := hc _ (hrV _ hmem) c (List.mem_singleton.2 rfl)
            simp only at this
            show r.1 + r.2.length < c.1
            omega
  exact h _ W rfl hs
end Go.Proofs.Ytllfebekanafhaa
