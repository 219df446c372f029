/-
  Written texts are read back: in any order of the records, with blank lines between them. No program.
-/
import Derived.Test.YtmeegpdjhcilkaaDoorRdM

namespace Go.Proofs.YtmeegpdjhcilkaaDoor
open Go.RowKit
set_option linter.unusedVariables false

/-! ### Bytes of lines -/
theorem hexU_all : ∀ x : Fin 16, (48 ≤ (hexU (x.val : Int)).toNat ∧ (hexU (x.val : Int)).toNat ≤ 57) ∨ (65 ≤ (hexU (x.val : Int)).toNat ∧ (hexU (x.val : Int)).toNat ≤ 70) := by decide +kernel
/-- The byte of a line of a record. -/
def LnC (c : UInt8) : Prop := c.toNat = 58 ∨ (48 ≤ c.toNat ∧ c.toNat ≤ 57) ∨ (65 ≤ c.toNat ∧ c.toNat ≤ 70)
theorem digU_c (n : Int) (i : Nat) : LnC (hexU (digI n i)) := by
  obtain ⟨h0, h1⟩ := digI_bd n i
  have h := hexU_all ⟨(digI n i).toNat, by omega⟩
  have e : (((digI n i).toNat : Nat) : Int) = digI n i := by omega
  simp only [e] at h
  exact .inr h
theorem hexL_c (xs : List UInt8) : ∀ c ∈ hexL xs, LnC c := by
  induction xs with
  | nil => intro c hc; cases hc
  | cons x t ih =>
    intro c hc
    rw [hexL_cons] at hc
    simp only [List.mem_cons] at hc
    rcases hc with rfl | rfl | hc
    · exact digU_c _ _
    · exact digU_c _ _
    · exact ih c hc
theorem print_c (T a : Int) (D : List UInt8) : ∀ c ∈ printL T a D, LnC c := by
  intro c hc
  unfold printL at hc
  rcases List.mem_cons.1 hc with rfl | hc
  · exact .inl rfl
  · exact hexL_c _ c hc
theorem trimC_no {x : List UInt8} (h : ∀ c ∈ x, c ≠ 13) : trimC x = x := by
  unfold trimC
  rw [if_neg fun e => h 13 (List.mem_of_getLast? e) rfl]
theorem trimC_13 (x : List UInt8) : trimC (x ++ [13]) = x := by
  unfold trimC
  rw [if_pos (by simp), List.dropLast_concat]
theorem lnC_13 {c : UInt8} (h : LnC c) : c ≠ 13 := by
  rintro rfl
  rcases h with h | h | h <;> revert h <;> decide
theorem blankL_cons (c : UInt8) (t : List UInt8) (h : c ≠ 32 ∧ c ≠ 9) : blankL (c :: t) = false := by
  unfold blankL
  rw [List.all_cons]
  have h1 : (c == 32 || c == 9) = false := by simp [h.1, h.2]
  rw [h1]; rfl

/-! ### Lines of records -/
def IsLn (p : Int × List UInt8) (x : List UInt8) : Prop := lnBlank x = false ∧ parCode (lnS x) = 0 ∧ parT (lnS x) = 0 ∧ parA (lnS x) = p.1 ∧ parD (lnS x) = p.2
def IsEnd (x : List UInt8) : Prop := lnBlank x = false ∧ parCode (lnS x) = 0 ∧ parT (lnS x) = 1 ∧ parD (lnS x) = []
theorem strOf_cons' (c : UInt8) (t : List UInt8) : strOf (c :: t) = ⟨#[c]⟩ ++ strOf t := by
  apply bytes_ext
  rw [strOf_list, append_data]
  simp [strOf]
theorem lnc_line {T a : Int} {D : List UInt8} (h : rightB T a D.length = true) (y : List UInt8) (hy : DigitsOf (strOf y) (fullB T a D)) (x : List UInt8) (hx : trimC x = 58 :: y) :
    lnBlank x = false ∧ parCode (lnS x) = 0 ∧ parT (lnS x) = T ∧ parA (lnS x) = a ∧ parD (lnS x) = D := by
  have e : lnS x = ⟨#[58]⟩ ++ strOf y := by unfold lnS; rw [hx]; exact strOf_cons' _ _
  rw [e]
  exact ⟨by unfold lnBlank; rw [hx]; exact blankL_cons _ _ (by decide), par_line T a D h _ hy⟩
/-- The small letters of a line. -/
def lowT (x : List UInt8) : List UInt8 := x.map lowC
theorem loB_str (x : List UInt8) : loB (strOf x) = strOf (x.map lowC) := by
  apply bytes_ext
  rw [loB_list, strOf_list, strOf_list]
theorem low_13 {x : List UInt8} (h : ∀ c ∈ x, LnC c) : ∀ c ∈ lowT x, c ≠ 13 := by
  intro c hc
  obtain ⟨d, hd, rfl⟩ := List.mem_map.1 hc
  intro e
  have h1 := lowC_nat d
  rw [e] at h1
  have h2 : ((13 : UInt8).toNat : Int) = 13 := rfl
  rw [h2] at h1
  unfold lowI at h1
  rcases h d hd with h | h | h <;> split at h1 <;> omega
theorem print_forms {T a : Int} {D : List UInt8} (h : rightB T a D.length = true) (x : List UInt8) (hx : x = printL T a D ∨ x = lowT (printL T a D) ++ [13]) :
    lnBlank x = false ∧ parCode (lnS x) = 0 ∧ parT (lnS x) = T ∧ parA (lnS x) = a ∧ parD (lnS x) = D := by
  have hc := print_c T a D
  have e : printL T a D = 58 :: hexL (fullB T a D) := rfl
  rcases hx with rfl | rfl
  · exact lnc_line h (hexL (fullB T a D)) (digits_hex _) _ (by rw [trimC_no fun c h => lnC_13 (hc c h), e])
  · refine lnc_line h ((hexL (fullB T a D)).map lowC) ?_ _ ?_
    · rw [← loB_str]; exact digits_low (digits_hex _)
    · rw [trimC_13, e]; unfold lowT; rw [List.map_cons]; rfl
theorem line_is {p : Int × List UInt8} (h : rightB 0 p.1 p.2.length = true) (x : List UInt8) (hx : x = lineB p ∨ x = lowT (lineB p) ++ [13]) : IsLn p x := print_forms h x hx
theorem end_is (x : List UInt8) (hx : x = printL 1 0 [] ∨ x = lowT (printL 1 0 []) ++ [13]) : IsEnd x := by
  obtain ⟨h1, h2, h3, _, h5⟩ := print_forms (T := 1) (a := 0) (D := []) (by decide) x hx
  exact ⟨h1, h2, h3, h5⟩

/-! ### Reading -/
theorem readL_ln {n : Nat} {V : List Im.Cel} {p : Int × List UInt8} {x : List UInt8} {t : List (List UInt8)} (h : IsLn p x) (hc : Im.codeW V p.1 p.2 = 0) : readL n V false (x :: t) = readL (n + 1) (Im.putW V p.1 p.2) false t := by
  obtain ⟨h1, h2, h3, h4, h5⟩ := h
  have e : lnCode V false x = 0 := by
    unfold lnCode recCode
    rw [h1, if_neg (by decide), if_neg (by decide), if_neg (fun h => h h2), if_pos h3, h4, h5]
    exact hc
  rw [readL_go e]
  have e1 : lnV V x = Im.putW V p.1 p.2 := by unfold lnV; rw [h1, if_neg (by decide), if_pos h3, h4, h5]
  have e2 : lnE false x = false := by unfold lnE; rw [h1, if_neg (by decide), h3]; rfl
  rw [e1, e2]
theorem readL_blank {n : Nat} {V : List Im.Cel} {e : Bool} {x : List UInt8} {t : List (List UInt8)} (h : lnBlank x = true) : readL n V e (x :: t) = readL (n + 1) V e t := by
  rw [readL_go (by unfold lnCode; rw [if_pos h])]
  unfold lnV lnE
  rw [if_pos h, if_pos h]
theorem readL_blanks {n : Nat} {V : List Im.Cel} {e : Bool} {bs : List (List UInt8)} (h : ∀ b ∈ bs, lnBlank b = true) (t : List (List UInt8)) : readL n V e (bs ++ t) = readL (n + bs.length) V e t := by
  induction bs generalizing n with
  | nil => rfl
  | cons b bs ih =>
    rw [List.cons_append, readL_blank (h b (by simp)), ih fun c hc => h c (by simp [hc]), List.length_cons]
    congr 1
    omega
theorem readL_end {n : Nat} {V : List Im.Cel} {x : List UInt8} {t : List (List UInt8)} (h : IsEnd x) : readL n V false (x :: t) = readL (n + 1) V true t := by
  obtain ⟨h1, h2, h3, h5⟩ := h
  have e : lnCode V false x = 0 := by
    unfold lnCode recCode
    rw [h1, if_neg (by decide), if_neg (by decide), if_neg (fun h => h h2), if_neg (by rw [h3]; decide), if_pos h3, if_pos h5]
  rw [readL_go e]
  have e1 : lnV V x = V := by unfold lnV; rw [h1, if_neg (by decide), if_neg (by rw [h3]; decide)]
  have e2 : lnE false x = true := by unfold lnE; rw [h1, if_neg (by decide), h3]; rfl
  rw [e1, e2]
theorem readL_after {n : Nat} {V : List Im.Cel} {x : List UInt8} {t : List (List UInt8)} (h : lnBlank x = false) : readL n V true (x :: t) = ([], (n : Int) + 1, 9) := by
  have e : lnCode V true x = 9 := by unfold lnCode; rw [h]; rfl
  rw [readL_stop (by rw [e]; decide), e]
def toR (p : Int × List UInt8) : Im.R := ⟨p.1, none, 0, p.2⟩
/-- A record's line, and blank lines behind it. -/
def Pc (z : (Int × List UInt8) × List (List UInt8)) : Prop := ∃ x bs, z.2 = x :: bs ∧ IsLn z.1 x ∧ ∀ b ∈ bs, lnBlank b = true
theorem readL_pcs {zs : List ((Int × List UInt8) × List (List UInt8))} (h : ∀ z ∈ zs, Pc z) {n : Nat} {V V' : List Im.Cel} (ho : Im.ofW V (zs.map fun z => toR z.1) = (V', 0)) (t : List (List UInt8)) :
    readL n V false (zs.flatMap (·.2) ++ t) = readL (n + (zs.flatMap (·.2)).length) V' false t := by
  induction zs generalizing n V with
  | nil =>
    simp only [List.map_nil, Im.ofW, Prod.mk.injEq, and_true] at ho
    subst ho
    rfl
  | cons z zs ih =>
    obtain ⟨x, bs, e, h1, h2⟩ := h z (by simp)
    rw [List.map_cons] at ho
    unfold Im.ofW at ho
    by_cases hc : Im.codeW V z.1.1 z.1.2 = 0
    · rw [if_pos (show Im.codeW V (toR z.1).addr (toR z.1).data = 0 from hc)] at ho
      rw [List.flatMap_cons, e, List.cons_append, List.cons_append, List.append_assoc, readL_ln h1 hc, readL_blanks h2, ih (fun y hy => h y (by simp [hy])) (V := Im.putW V z.1.1 z.1.2) ho, List.length_cons, List.length_append]
      congr 1
      omega
    · rw [if_neg (show ¬ Im.codeW V (toR z.1).addr (toR z.1).data = 0 from hc)] at ho
      exact absurd (congrArg (·.2) ho) hc

/-! ### The written text -/
theorem rec_stepS {s : Nat} (h1 : 1 ≤ s) (h2 : s ≤ 255) {V : List Im.Cel} (hV : Im.SortedW V) (k : Nat) (h : k < (recsW s V).length) :
    Im.codeW (cellsL ((recsW s V).take k)) (recsW s V)[k].1 (recsW s V)[k].2 = 0 ∧ Im.putW (cellsL ((recsW s V).take k)) (recsW s V)[k].1 (recsW s V)[k].2 = cellsL ((recsW s V).take (k + 1)) := by
  have hok := recs_ok h1 h2 hV
  have hcr := cells_recs h1 h2 hV
  obtain ⟨l, hl⟩ : ∃ l, recsW s V = l := ⟨_, rfl⟩
  simp only [hl] at h hok hcr ⊢
  obtain ⟨a0, a1, a2, a3⟩ := hok _ (List.getElem_mem h)
  obtain ⟨a, ha⟩ : ∃ a : Nat, l[k].1 = (a : Int) := ⟨l[k].1.toNat, by omega⟩
  have e1 : cellsL (l.take (k + 1)) = cellsL (l.take k) ++ Im.mkW a l[k].2 := by
    rw [List.take_succ_eq_append_getElem h, cellsL_append, cellsL_one, ha]; rfl
  have e2 : V = (cellsL (l.take k) ++ Im.mkW a l[k].2) ++ cellsL (l.drop (k + 1)) := by
    rw [← e1, ← cellsL_append, List.take_append_drop, hcr]
  have hs : Im.SortedW (cellsL (l.take k) ++ Im.mkW a l[k].2) := by
    rw [e2] at hV
    exact ⟨(List.pairwise_append.1 hV.1).1, fun c hc => hV.2 c (List.mem_append_left _ hc)⟩
  obtain ⟨p1, p2, p3⟩ := put_end hs a2
  rw [ha]
  exact ⟨p1, p2.trans e1.symm⟩
theorem of_recs {s : Nat} (h1 : 1 ≤ s) (h2 : s ≤ 255) {V : List Im.Cel} (hV : Im.SortedW V) : Im.ofW [] ((recsW s V).map toR) = (V, 0) := by
  have hst := fun k h => rec_stepS h1 h2 hV k h
  have hcr := cells_recs h1 h2 hV
  obtain ⟨l, hl⟩ : ∃ l, recsW s V = l := ⟨_, rfl⟩
  simp only [hl] at hst hcr ⊢
  have key : ∀ k, k ≤ l.length → Im.ofW [] (l.map toR) = Im.ofW (cellsL (l.take k)) ((l.drop k).map toR) := fun k => by
    induction k with
    | zero => intro _; rfl
    | succ k ih =>
      intro hk
      obtain ⟨q1, q2⟩ := hst k hk
      rw [ih (by omega), List.drop_eq_getElem_cons hk, List.map_cons]
      unfold Im.ofW
      rw [if_pos (show Im.codeW _ (toR l[k]).addr (toR l[k]).data = 0 from q1)]
      show Im.ofW (Im.putW _ l[k].1 l[k].2) _ = _
      rw [q2]
      cases List.map toR (List.drop (k + 1) l) <;> rfl
  rw [key l.length (Nat.le_refl _), List.drop_length, List.take_length, hcr]
  rfl
theorem recs_pcs {s : Nat} (h1 : 1 ≤ s) (h2 : s ≤ 255) {V : List Im.Cel} (hV : Im.SortedW V) (n : Nat) (t : List (List UInt8)) :
    readL n [] false ((recsW s V).map lineB ++ t) = readL (n + (recsW s V).length) V false t := by
  have hr := recs_right h1 h2 hV
  have ho := of_recs h1 h2 hV
  obtain ⟨l, hl⟩ : ∃ l, recsW s V = l := ⟨_, rfl⟩
  simp only [hl] at hr ho ⊢
  have e : l.map lineB = (l.map fun p => (p, [lineB p])).flatMap (·.2) := by
    clear hl hr ho
    induction l with
    | nil => rfl
    | cons p l ih => rw [List.map_cons, List.map_cons, List.flatMap_cons, ← ih]; rfl
  have e2 : ((l.map fun p => (p, [lineB p])).flatMap (·.2)).length = l.length := by rw [← e, List.length_map]
  have hz : ∀ z ∈ l.map fun p => (p, [lineB p]), Pc z := fun z hz => by
    obtain ⟨p, hp, rfl⟩ := List.mem_map.1 hz
    exact ⟨_, [], rfl, line_is (hr p hp) _ (.inl rfl), fun b hb => (by cases hb)⟩
  have ho2 : Im.ofW [] ((l.map fun p => (p, [lineB p])).map fun z => toR z.1) = (V, 0) := by
    rw [List.map_map]
    exact ho
  rw [e, readL_pcs hz ho2, e2]
/-- What is read from a written text and a text behind it. -/
theorem read_more {s : Nat} (h1 : 1 ≤ s) (h2 : s ≤ 255) {V : List Im.Cel} (hV : Im.SortedW V) (more : List UInt8) : readT (textW s V ++ more) = readL ((recsW s V).length + 1) V true (linesOf more) := by
  unfold readT textW
  rw [linesOf_join (lines_noLf s V)]
  unfold linesW
  rw [List.append_assoc, recs_pcs h1 h2 hV, Nat.zero_add, List.singleton_append, readL_end (end_is _ (.inl rfl))]
theorem read_text {s : Nat} (h1 : 1 ≤ s) (h2 : s ≤ 255) {V : List Im.Cel} (hV : Im.SortedW V) : readT (textW s V) = (V, 0, 0) := by
  have h := read_more h1 h2 hV []
  rw [List.append_nil] at h
  rw [h]
  show readL _ V true [[]] = _
  rw [readL_blank (by rfl)]
  rfl
/-- Without the last line there is no End. -/
theorem read_less {s : Nat} (h1 : 1 ≤ s) (h2 : s ≤ 255) {V : List Im.Cel} (hV : Im.SortedW V) : readT (joinL ((recsW s V).map lineB)) = ([], 0, 8) := by
  have hn : ∀ x ∈ (recsW s V).map lineB, NoLf x := fun x hx => lines_noLf s V x (List.mem_append_left _ hx)
  have h := linesOf_join hn []
  rw [List.append_nil] at h
  unfold readT
  rw [h, recs_pcs h1 h2 hV]
  show readL _ V false [[]] = _
  rw [readL_blank (by rfl)]
  rfl
theorem readL_true {n : Nat} {V : List Im.Cel} {l : List (List UInt8)} (h : ∀ x ∈ l, lnBlank x = true) : readL n V true l = (V, 0, 0) := by
  have := readL_blanks (n := n) (V := V) (e := true) h []
  rw [List.append_nil] at this
  rw [this]
  rfl
end Go.Proofs.YtmeegpdjhcilkaaDoor
