/-
  An instruction with other numbers: the operands with the numbers put in, one after the other. No program.
-/
import Derived.Test.YthpaamekpfhkjaaDoorInD
namespace Go.Proofs.YthpaamekpfhkjaaDoor
open Go.RowKit
set_option linter.unusedVariables false

def t0 : Tr := (0, 0, 0)
def cntK (L : List Tr) (k : Nat) : Nat := (numsL (L.take k)).length
def wEl (L : List Tr) (ns : List Int) (k : Nat) : Tr := if nbT (L.getD k t0) then ((L.getD k t0).1, (L.getD k t0).2.1, ns.getD (cntK L k) 0) else L.getD k t0
/-- The operands with other numbers. -/
def withL (L : List Tr) (ns : List Int) : List Tr := (List.range L.length).map (wEl L ns)
def mixL (L : List Tr) (ns : List Int) (k : Nat) : List Tr := (List.range L.length).map fun j => if j < k then wEl L ns j else L.getD j t0
theorem withL_len (L : List Tr) (ns : List Int) : (withL L ns).length = L.length := by unfold withL; rw [List.length_map, List.length_range]
theorem mixL_len (L : List Tr) (ns : List Int) (k : Nat) : (mixL L ns k).length = L.length := by unfold mixL; rw [List.length_map, List.length_range]
theorem getD_of (L : List Tr) (k : Nat) (h : k < L.length) : L.getD k t0 = L[k] := by rw [List.getD_eq_getElem?_getD, List.getElem?_eq_getElem h]; rfl
theorem mixL_at (L : List Tr) (ns : List Int) (k j : Nat) (h : j < L.length) (h' : j < (mixL L ns k).length) : (mixL L ns k)[j] = if j < k then wEl L ns j else L[j] := by
  simp only [mixL, List.getElem_map, List.getElem_range, getD_of L j h]
theorem withL_at (L : List Tr) (ns : List Int) (j : Nat) (h' : j < (withL L ns).length) : (withL L ns)[j] = wEl L ns j := by
  simp only [withL, List.getElem_map, List.getElem_range]
theorem mixL_zero (L : List Tr) (ns : List Int) : mixL L ns 0 = L :=
  List.ext_getElem (mixL_len L ns 0) fun j h1 h2 => by rw [mixL_at L ns 0 j h2 h1, if_neg (by omega)]
theorem mixL_end (L : List Tr) (ns : List Int) : mixL L ns L.length = withL L ns :=
  List.ext_getElem (by rw [mixL_len, withL_len]) fun j h1 h2 => by
    have hj : j < L.length := by rw [mixL_len] at h1; exact h1
    rw [mixL_at L ns _ j hj h1, if_pos hj, withL_at]
theorem wEl_yes (L : List Tr) (ns : List Int) (k : Nat) (h : k < L.length) (hb : nbT L[k] = true) : wEl L ns k = (L[k].1, L[k].2.1, ns.getD (cntK L k) 0) := by
  unfold wEl
  rw [getD_of L k h, if_pos hb]
theorem wEl_no (L : List Tr) (ns : List Int) (k : Nat) (h : k < L.length) (hb : nbT L[k] = false) : wEl L ns k = L[k] := by
  unfold wEl
  rw [getD_of L k h, if_neg (by simp [hb])]
theorem mixL_yes (L : List Tr) (ns : List Int) (k : Nat) (h : k < L.length) (hb : nbT L[k] = true) : (mixL L ns k).set k (L[k].1, L[k].2.1, ns.getD (cntK L k) 0) = mixL L ns (k + 1) := by
  refine List.ext_getElem (by rw [List.length_set, mixL_len, mixL_len]) fun j h1 h2 => ?_
  have hj : j < L.length := by rw [mixL_len] at h2; exact h2
  rw [mixL_at L ns (k + 1) j hj h2, List.getElem_set]
  by_cases e : k = j
  · subst e
    rw [if_pos rfl, if_pos (by omega), wEl_yes L ns k h hb]
  · rw [if_neg e, mixL_at L ns k j hj (by rw [mixL_len]; exact hj)]
    by_cases hlt : j < k
    · rw [if_pos hlt, if_pos (by omega)]
    · rw [if_neg hlt, if_neg (by omega)]
theorem mixL_no (L : List Tr) (ns : List Int) (k : Nat) (h : k < L.length) (hb : nbT L[k] = false) : mixL L ns k = mixL L ns (k + 1) := by
  refine List.ext_getElem (by rw [mixL_len, mixL_len]) fun j h1 h2 => ?_
  have hj : j < L.length := by rw [mixL_len] at h2; exact h2
  rw [mixL_at L ns (k + 1) j hj h2, mixL_at L ns k j hj h1]
  by_cases hlt : j < k
  · rw [if_pos hlt, if_pos (by omega)]
  · by_cases e : j = k
    · subst e
      rw [if_neg hlt, if_pos (by omega), wEl_no L ns j h hb]
    · rw [if_neg hlt, if_neg (by omega)]
theorem take_with (L : List Tr) (ns : List Int) (k : Nat) (h : k < L.length) : (withL L ns).take (k + 1) = (withL L ns).take k ++ [wEl L ns k] := by
  have h' : k < (withL L ns).length := by rw [withL_len]; exact h
  rw [List.take_succ_eq_append_getElem h', withL_at]
theorem cells_set : ∀ (L : List Tr) (k : Nat) (a b c : Int) (h : k < L.length) (h1 : L[k].1 = a) (h2 : L[k].2.1 = b), cellsT (L.set k (a, b, c)) = (cellsT L).set (k * 3 + 2) (.int .i64 c)
  | x :: t, 0, a, b, c, h, h1, h2 => by
    simp only [List.getElem_cons_zero] at h1 h2
    subst h1 h2
    rfl
  | x :: t, k + 1, a, b, c, h, h1, h2 => by
    have ih := cells_set t k a b c (by simpa using h) (by simpa using h1) (by simpa using h2)
    rw [show (k + 1) * 3 + 2 = (k * 3 + 2) + 1 + 1 + 1 by omega]
    show cellsT (x :: t.set k (a, b, c)) = _
    have e : ∀ y : List Tr, cellsT (x :: y) = .int .i64 x.1 :: .int .i64 x.2.1 :: .int .i64 x.2.2 :: cellsT y := fun _ => rfl
    rw [e, e, ih]
    rfl
theorem cnt_yes (L : List Tr) (k : Nat) (h : k < L.length) (hb : nbT L[k] = true) : cntK L (k + 1) = cntK L k + 1 := by
  unfold cntK
  rw [nums_yes L k h hb, List.length_append]
  rfl
theorem cnt_no (L : List Tr) (k : Nat) (h : k < L.length) (hb : nbT L[k] = false) : cntK L (k + 1) = cntK L k := by
  unfold cntK
  rw [nums_no L k h hb]
theorem cnt_all (L : List Tr) (k : Nat) : cntK L k ≤ (numsL L).length := by
  unfold cntK numsL
  rw [List.length_map, List.length_map]
  conv => rhs; rw [← List.take_append_drop k L, List.filter_append, List.length_append]
  omega
theorem cnt_lt (L : List Tr) (k : Nat) (h : k < L.length) (hb : nbT L[k] = true) : cntK L k < (numsL L).length := by
  have h1 := cnt_all L (k + 1)
  rw [cnt_yes L k h hb] at h1
  omega
/-- With its own numbers the operands stay. -/
theorem nums_split (L : List Tr) (k : Nat) (h : k < L.length) (hb : nbT L[k] = true) : (numsL L).getD (cntK L k) 0 = L[k].2.2 := by
  have e : numsL L = numsL (L.take (k + 1)) ++ numsL (L.drop (k + 1)) := by
    unfold numsL
    rw [← List.map_append, ← List.filter_append, List.take_append_drop]
  rw [e, nums_yes L k h hb, List.append_assoc, List.getD_eq_getElem?_getD, cntK, List.getElem?_append_right (Nat.le_refl _), Nat.sub_self]
  rfl
theorem with_own (L : List Tr) : withL L (numsL L) = L := by
  refine List.ext_getElem (withL_len L _) fun j h1 h2 => ?_
  rw [withL_at]
  cases hb : nbT L[j]
  · exact wEl_no L _ j h2 hb
  · rw [wEl_yes L _ j h2 hb, nums_split L j h2 hb]
/-- Whether With has a result. -/
def okW (s : ByteArray) (L : List Tr) (ns : List Int) : Bool := decide (ns.length = (numsL L).length) && decide (codeI s (withL L ns) = 0)
theorem ok_len (s : ByteArray) (L : List Tr) (ns : List Int) (h : ¬ ns.length = (numsL L).length) : okW s L ns = false := by unfold okW; rw [decide_eq_false h]; rfl
theorem ok_code (s : ByteArray) (L : List Tr) (ns : List Int) (h : ns.length = (numsL L).length) (hc : ¬ codeI s (withL L ns) = 0) : okW s L ns = false := by unfold okW; rw [decide_eq_true h, decide_eq_false hc]; rfl
theorem ok_yes (s : ByteArray) (L : List Tr) (ns : List Int) (h : ns.length = (numsL L).length) (hc : codeI s (withL L ns) = 0) : okW s L ns = true := by unfold okW; rw [decide_eq_true h, decide_eq_true hc]; rfl
/-- What With returns: an instruction with operands in new memory and true, or nothing and false. -/
def RetW (w : World) (s : ByteArray) (L : List Tr) (ns : List Int) (e : Ending) (w' : World) : Prop :=
  ∃ v, e = .returned (.tuple #[.agg #[.string (if okW s L ns then s else ⟨#[]⟩), v], .bool (okW s L ns)]) ∧ OwnT w' w.heap.size v (if okW s L ns then withL L ns else []) ∧ Below w.heap.size w w'
theorem RetW.no {w : World} {s : ByteArray} {L : List Tr} {ns : List Int} {w' : World} (h : okW s L ns = false) (hb : Below w.heap.size w w') : RetW w s L ns (.returned (.tuple #[.agg #[.string ⟨#[]⟩, .slice none 0 0], .bool false])) w' :=
  ⟨.slice none 0 0, by rw [h]; rfl, by rw [h]; exact World.ownsRow_nil _ _ _ _, hb⟩
theorem RetW.yes {w : World} {s : ByteArray} {L : List Tr} {ns : List Int} {w' : World} {v : Value} (h : okW s L ns = true) (ho : OwnT w' w.heap.size v (withL L ns)) (hb : Below w.heap.size w w') : RetW w s L ns (.returned (.tuple #[.agg #[.string s, v], .bool true])) w' :=
  ⟨v, by rw [h]; rfl, by rw [h]; exact ho, hb⟩
def sW (s : ByteArray) (L : List Tr) (ns : List Int) : ByteArray := if okW s L ns then s else ⟨#[]⟩
def lW (s : ByteArray) (L : List Tr) (ns : List Int) : List Tr := if okW s L ns then withL L ns else []
/-- The same with the parts of the result as names. -/
theorem ret_n {P : Program} {f : FuncId} {args : Array Value} {w : World} {s : ByteArray} {L : List Tr} {ns : List Int} (h : Calls P f args w (RetW w s L ns)) : Calls P f args w fun e w' =>
    ∃ A9 cap9, e = .returned (.tuple #[.agg #[.string (sW s L ns), .slice A9 (lW s L ns).length cap9], .bool (okW s L ns)]) ∧ OwnT w' w.heap.size (.slice A9 (lW s L ns).length cap9) (lW s L ns) ∧ Below w.heap.size w w' := by
  refine h.mono ?_
  rintro e w' ⟨v, rfl, hO, hb⟩
  have hO2 : OwnT w' w.heap.size v (lW s L ns) := hO
  obtain ⟨A9, cap9, rfl, -, -⟩ := hO2.ops
  exact ⟨A9, cap9, rfl, hO2, hb⟩
theorem ok_own (s : ByteArray) (L : List Tr) : okW s L (numsL L) = decide (codeI s L = 0) := by unfold okW; rw [with_own, decide_eq_true rfl]; rfl
theorem lW_le (s : ByteArray) (L : List Tr) (ns : List Int) (k : Nat) (h : L.length ≤ k) : (lW s L ns).length ≤ k := by
  unfold lW
  split
  · rw [withL_len]; exact h
  · exact Nat.zero_le _
end Go.Proofs.YthpaamekpfhkjaaDoor
