/-
  The addresses at which two lists of cells differ: by a merge of the two, and by asking every address. No program.
-/
import Derived.Test.YtmeegpdjhcilkaaDoorHexAllD
namespace Go.Proofs.YtmeegpdjhcilkaaDoor
open Go.RowKit
set_option linter.unusedVariables false
/-- Whether two lists of cells differ at an address. -/
def difB (V W : List Im.Cel) (a : Nat) : Bool := (Im.hasW V a != Im.hasW W a) || (Im.byteW V a != Im.byteW W a)
/-- The two lists merged: the addresses that only one has, and those with different bytes. -/
def mergeD : List Im.Cel → List Im.Cel → List Nat
  | [], W => W.map (·.1)
  | c :: V, [] => (c :: V).map (·.1)
  | c :: V, d :: W => if c.1 < d.1 then c.1 :: mergeD V (d :: W) else if d.1 < c.1 then d.1 :: mergeD (c :: V) W else if c.2 = d.2 then mergeD V W else c.1 :: mergeD V W
termination_by V W => V.length + W.length
theorem mergeD_nil (V : List Im.Cel) : mergeD V [] = V.map (·.1) := by cases V <;> simp [mergeD]
theorem hasW_cons (c : Im.Cel) (V : List Im.Cel) (a : Nat) : Im.hasW (c :: V) a = ((c.1 == a) || Im.hasW V a) := by unfold Im.hasW; rw [List.any_cons]
theorem byteW_cons (c : Im.Cel) (V : List Im.Cel) (a : Nat) : Im.byteW (c :: V) a = if c.1 = a then c.2 else Im.byteW V a := by
  unfold Im.byteW
  rw [List.find?_cons]
  by_cases h : c.1 = a
  · have h1 : (c.1 == a) = true := by simp [h]
    rw [h1, if_pos h]; rfl
  · have h1 : (c.1 == a) = false := by simp [h]
    rw [h1, if_neg h]
theorem has_above {V : List Im.Cel} {a : Nat} (h : ∀ c ∈ V, a < c.1) : Im.hasW V a = false ∧ Im.byteW V a = 0 := by
  have h1 : Im.hasW V a = false := Im.hasW_false.2 fun c hc e => by have := h c hc; omega
  exact ⟨h1, Im.byteW_none h1⟩
abbrev Asc (V : List Im.Cel) : Prop := V.Pairwise (fun a b => a.1 < b.1)
theorem difB_comm (V W : List Im.Cel) (a : Nat) : difB V W a = difB W V a := by
  unfold difB
  rw [show (Im.hasW V a != Im.hasW W a) = (Im.hasW W a != Im.hasW V a) from by cases Im.hasW V a <;> cases Im.hasW W a <;> rfl,
    show (Im.byteW V a != Im.byteW W a) = (Im.byteW W a != Im.byteW V a) from by
      by_cases h : Im.byteW V a = Im.byteW W a
      · rw [h]
      · rw [bne_iff_ne.2 h, bne_iff_ne.2 (Ne.symm h)]]
theorem difB_nil (V : List Im.Cel) (a : Nat) : difB V [] a = Im.hasW V a := by
  unfold difB
  have h1 : Im.hasW ([] : List Im.Cel) a = false := rfl
  have h2 : Im.byteW ([] : List Im.Cel) a = 0 := rfl
  rw [h1, h2]
  cases h : Im.hasW V a
  · rw [Im.byteW_none h]; rfl
  · rfl
theorem mem_keys {V : List Im.Cel} {a : Nat} : a ∈ V.map (·.1) ↔ Im.hasW V a = true := by
  rw [List.mem_map, Im.hasW_iff]
/-- A head below all the others of both lists. -/
theorem difB_head {c : Im.Cel} {V W : List Im.Cel} (hV : ∀ d ∈ V, c.1 < d.1) (hW : ∀ d ∈ W, c.1 < d.1) (a : Nat) : difB (c :: V) W a = true ↔ a = c.1 ∨ difB V W a = true := by
  by_cases h : c.1 = a
  · subst h
    obtain ⟨w1, w2⟩ := has_above hW
    refine ⟨fun _ => .inl rfl, fun _ => ?_⟩
    unfold difB
    rw [hasW_cons, w1]
    simp
  · have e1 : Im.hasW (c :: V) a = Im.hasW V a := by rw [hasW_cons]; simp [h]
    have e2 : Im.byteW (c :: V) a = Im.byteW V a := by rw [byteW_cons, if_neg h]
    unfold difB
    rw [e1, e2]
    exact ⟨.inr, fun h' => h'.resolve_left fun e => h e.symm⟩
theorem difB_both {c d : Im.Cel} {V W : List Im.Cel} (he : c.1 = d.1) (hV : ∀ e ∈ V, c.1 < e.1) (hW : ∀ e ∈ W, c.1 < e.1) (a : Nat) : difB (c :: V) (d :: W) a = true ↔ (a = c.1 ∧ c.2 ≠ d.2) ∨ difB V W a = true := by
  by_cases h : c.1 = a
  · subst h
    obtain ⟨v1, v2⟩ := has_above hV
    obtain ⟨w1, w2⟩ := has_above hW
    have q : difB V W c.1 = false := by unfold difB; rw [v1, w1, v2, w2]; rfl
    rw [q]
    unfold difB
    rw [hasW_cons, hasW_cons, byteW_cons, byteW_cons, if_pos rfl, if_pos he.symm, he]
    simp
  · have e1 : Im.hasW (c :: V) a = Im.hasW V a := by rw [hasW_cons]; simp [h]
    have e2 : Im.byteW (c :: V) a = Im.byteW V a := by rw [byteW_cons, if_neg h]
    have h' : ¬ d.1 = a := by omega
    have e3 : Im.hasW (d :: W) a = Im.hasW W a := by rw [hasW_cons]; simp [h']
    have e4 : Im.byteW (d :: W) a = Im.byteW W a := by rw [byteW_cons, if_neg h']
    unfold difB
    rw [e1, e2, e3, e4]
    exact ⟨.inr, fun g => g.resolve_left fun e => h e.1.symm⟩
theorem mergeD_mem : ∀ (V W : List Im.Cel), Asc V → Asc W → ∀ a, a ∈ mergeD V W ↔ difB V W a = true
  | [], W, _, hW, a => by
    unfold mergeD
    rw [mem_keys, difB_comm, difB_nil]
  | c :: V, [], hV, _, a => by
    unfold mergeD
    rw [mem_keys, difB_nil]
  | c :: V, d :: W, hV, hW, a => by
    have hV' := List.pairwise_cons.1 hV
    have hW' := List.pairwise_cons.1 hW
    unfold mergeD
    by_cases h1 : c.1 < d.1
    · rw [if_pos h1, List.mem_cons, mergeD_mem V (d :: W) hV'.2 hW a, difB_head hV'.1 (fun e he => ?_) a]
      rcases List.mem_cons.1 he with rfl | he
      · exact h1
      · have := hW'.1 e he; omega
    · rw [if_neg h1]
      by_cases h2 : d.1 < c.1
      · rw [if_pos h2, List.mem_cons, mergeD_mem (c :: V) W hV hW'.2 a, difB_comm (c :: V) (d :: W), difB_head hW'.1 (fun e he => ?_) a, difB_comm W]
        rcases List.mem_cons.1 he with rfl | he
        · exact h2
        · have := hV'.1 e he; omega
      · rw [if_neg h2]
        have he : c.1 = d.1 := by omega
        have hb := difB_both he hV'.1 (fun e h => by have := hW'.1 e h; omega) a
        by_cases h3 : c.2 = d.2
        · rw [if_pos h3, mergeD_mem V W hV'.2 hW'.2 a, hb]
          exact ⟨.inr, fun g => g.resolve_left fun e => e.2 h3⟩
        · rw [if_neg h3, List.mem_cons, mergeD_mem V W hV'.2 hW'.2 a, hb]
          exact ⟨fun g => g.imp (fun e => ⟨e, h3⟩) id, fun g => g.imp (fun e => e.1) id⟩
termination_by V W => V.length + W.length
theorem mergeD_keys {V W : List Im.Cel} (hV : Asc V) (hW : Asc W) {a : Nat} (h : a ∈ mergeD V W) : (∃ c ∈ V, c.1 = a) ∨ ∃ c ∈ W, c.1 = a := by
  have h1 := (mergeD_mem V W hV hW a).1 h
  rw [← Im.hasW_iff, ← Im.hasW_iff]
  apply Decidable.byContradiction
  intro hn
  have n1 : Im.hasW V a = false := by cases e : Im.hasW V a <;> simp_all
  have n2 : Im.hasW W a = false := by cases e : Im.hasW W a <;> simp_all
  unfold difB at h1
  rw [n1, n2, Im.byteW_none n1, Im.byteW_none n2] at h1
  exact absurd h1 (by decide)
theorem mergeD_asc : ∀ (V W : List Im.Cel), Asc V → Asc W → (mergeD V W).Pairwise (· < ·)
  | [], W, _, hW => by unfold mergeD; exact List.pairwise_map.2 hW
  | c :: V, [], hV, _ => by unfold mergeD; exact List.pairwise_map.2 hV
  | c :: V, d :: W, hV, hW => by
    have hV' := List.pairwise_cons.1 hV
    have hW' := List.pairwise_cons.1 hW
    unfold mergeD
    by_cases h1 : c.1 < d.1
    · rw [if_pos h1]
      refine List.pairwise_cons.2 ⟨fun a ha => ?_, mergeD_asc V (d :: W) hV'.2 hW⟩
      rcases mergeD_keys hV'.2 hW ha with ⟨e, he, rfl⟩ | ⟨e, he, rfl⟩
      · exact hV'.1 e he
      · rcases List.mem_cons.1 he with rfl | he
        · exact h1
        · have := hW'.1 e he; omega
    · rw [if_neg h1]
      by_cases h2 : d.1 < c.1
      · rw [if_pos h2]
        refine List.pairwise_cons.2 ⟨fun a ha => ?_, mergeD_asc (c :: V) W hV hW'.2⟩
        rcases mergeD_keys hV hW'.2 ha with ⟨e, he, rfl⟩ | ⟨e, he, rfl⟩
        · rcases List.mem_cons.1 he with rfl | he
          · exact h2
          · have := hV'.1 e he; omega
        · exact hW'.1 e he
      · rw [if_neg h2]
        by_cases h3 : c.2 = d.2
        · rw [if_pos h3]; exact mergeD_asc V W hV'.2 hW'.2
        · rw [if_neg h3]
          refine List.pairwise_cons.2 ⟨fun a ha => ?_, mergeD_asc V W hV'.2 hW'.2⟩
          rcases mergeD_keys hV'.2 hW'.2 ha with ⟨e, he, rfl⟩ | ⟨e, he, rfl⟩
          · exact hV'.1 e he
          · have := hW'.1 e he; omega
termination_by V W => V.length + W.length
/-- Every address is asked. -/
def scanD (V W : List Im.Cel) (k : Nat) : List Nat := (List.range k).filter (difB V W)
theorem scanD_succ (V W : List Im.Cel) (k : Nat) : scanD V W (k + 1) = if difB V W k = true then scanD V W k ++ [k] else scanD V W k := by
  unfold scanD
  rw [List.range_succ, List.filter_append]
  cases h : difB V W k
  · rw [if_neg (by decide)]
    simp [h]
  · rw [if_pos rfl]
    simp [h]
theorem asc_ext : ∀ {l m : List Nat}, l.Pairwise (· < ·) → m.Pairwise (· < ·) → (∀ a, a ∈ l ↔ a ∈ m) → l = m
  | [], [], _, _, _ => rfl
  | [], b :: m, _, _, h => absurd ((h b).2 (by simp)) List.not_mem_nil
  | a :: l, [], _, _, h => absurd ((h a).1 (by simp)) List.not_mem_nil
  | a :: l, b :: m, hl, hm, h => by
    have hl' := List.pairwise_cons.1 hl
    have hm' := List.pairwise_cons.1 hm
    have e : a = b := by
      rcases List.mem_cons.1 ((h a).1 (by simp)) with h1 | h1
      · exact h1
      · rcases List.mem_cons.1 ((h b).2 (by simp)) with h2 | h2
        · exact h2.symm
        · have := hm'.1 a h1; have := hl'.1 b h2; omega
    subst e
    rw [asc_ext hl'.2 hm'.2 fun c => ?_]
    constructor
    · intro hc
      rcases List.mem_cons.1 ((h c).1 (by simp [hc])) with h1 | h1
      · have := hl'.1 c hc; omega
      · exact h1
    · intro hc
      rcases List.mem_cons.1 ((h c).2 (by simp [hc])) with h1 | h1
      · have := hm'.1 c hc; omega
      · exact h1
theorem scan_merge {V W : List Im.Cel} (hV : Im.SortedW V) (hW : Im.SortedW W) : scanD V W 65536 = mergeD V W := by
  refine asc_ext ((List.pairwise_lt_range).filter _) (mergeD_asc V W hV.1 hW.1) fun a => ?_
  unfold scanD
  rw [List.mem_filter, List.mem_range, mergeD_mem V W hV.1 hW.1]
  refine ⟨fun h => h.2, fun h => ⟨?_, h⟩⟩
  rcases mergeD_keys hV.1 hW.1 ((mergeD_mem V W hV.1 hW.1 a).2 h) with ⟨e, he, rfl⟩ | ⟨e, he, rfl⟩
  · exact hV.2 e he
  · exact hW.2 e he
theorem scan_comm (V W : List Im.Cel) (k : Nat) : scanD W V k = scanD V W k := by
  unfold scanD
  rw [show difB W V = difB V W from funext fun a => difB_comm W V a]
theorem scan_le (V W : List Im.Cel) (k : Nat) : (scanD V W k).length ≤ k := by
  have := List.length_filter_le (difB V W) (List.range k)
  rw [List.length_range] at this
  exact this
theorem scan_nil {V : List Im.Cel} (hV : Im.SortedW V) : (scanD V [] 65536).length = V.length := by
  rw [scan_merge hV Im.sorted_nil, mergeD_nil, List.length_map]
theorem scan_empty {V W : List Im.Cel} (hV : Im.SortedW V) (hW : Im.SortedW W) : scanD V W 65536 = [] ↔ V = W := by
  constructor
  · intro h
    have hn : ∀ a, a < 65536 → difB V W a = false := fun a ha => by
      cases e : difB V W a
      · rfl
      · have : a ∈ scanD V W 65536 := List.mem_filter.2 ⟨List.mem_range.2 ha, e⟩
        rw [h] at this
        cases this
    refine Im.cells_ext hV hW (fun a ha => ?_) fun a ha => ?_
    · have h1 := hn a ha
      unfold difB at h1
      rw [Bool.or_eq_false_iff] at h1
      simpa using h1.1
    · have h1 := hn a ha
      unfold difB at h1
      rw [Bool.or_eq_false_iff] at h1
      simpa using h1.2
  · rintro rfl
    unfold scanD
    rw [List.filter_eq_nil_iff]
    intro a _
    unfold difB
    simp
/-- One step of the reference's merge. -/
theorem mergeD_step (V W : List Im.Cel) (i k : Nat) :
    (k = W.length → (h : i < V.length) → mergeD (V.drop i) (W.drop k) = V[i].1 :: mergeD (V.drop (i + 1)) (W.drop k)) ∧
    (i = V.length → (h : k < W.length) → mergeD (V.drop i) (W.drop k) = W[k].1 :: mergeD (V.drop i) (W.drop (k + 1))) ∧
    ((h : i < V.length) → (h2 : k < W.length) → (V[i].1 < W[k].1 → mergeD (V.drop i) (W.drop k) = V[i].1 :: mergeD (V.drop (i + 1)) (W.drop k)) ∧
      (W[k].1 < V[i].1 → mergeD (V.drop i) (W.drop k) = W[k].1 :: mergeD (V.drop i) (W.drop (k + 1))) ∧
      (V[i].1 = W[k].1 → mergeD (V.drop i) (W.drop k) = (if V[i].2 = W[k].2 then [] else [V[i].1]) ++ mergeD (V.drop (i + 1)) (W.drop (k + 1)))) := by
  refine ⟨fun hk h => ?_, fun hi h => ?_, fun h h2 => ⟨fun h3 => ?_, fun h3 => ?_, fun h3 => ?_⟩⟩
  · rw [hk, List.drop_length, mergeD_nil, mergeD_nil, List.drop_eq_getElem_cons h]; rfl
  · rw [hi, List.drop_length, List.drop_eq_getElem_cons h]
    unfold mergeD
    rfl
  · rw [List.drop_eq_getElem_cons h, List.drop_eq_getElem_cons h2]
    conv => lhs; unfold mergeD
    rw [if_pos h3]
  · rw [List.drop_eq_getElem_cons h, List.drop_eq_getElem_cons h2]
    conv => lhs; unfold mergeD
    rw [if_neg (by omega), if_pos h3]
  · rw [List.drop_eq_getElem_cons h, List.drop_eq_getElem_cons h2]
    conv => lhs; unfold mergeD
    rw [if_neg (by omega), if_neg (by omega)]
    split <;> rfl
end Go.Proofs.YtmeegpdjhcilkaaDoor
