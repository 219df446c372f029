/-
  HexP, HexQ, HexJ, HexR: texts joined to one.
-/
import Derived.Test.YtmeegpdjhcilkaaDoorRecAllC
import Derived.Test.YtmeegpdjhcilkaaDoorRecY
import Derived.Test.YtmeegpdjhcilkaaDoorImgAllB
import Derived.Test.YtmeegpdjhcilkaaDoorNumAll
import Derived.Test.YtmeegpdjhcilkaaDoorRecAllA
import Derived.Test.YtmeegpdjhcilkaaDoorRecAllB
import Derived.Test.YtmeegpdjhcilkaaDoorLawAll
import Derived.Test.YtmeegpdjhcilkaaDoorRecX
import Derived.Test.YtmeegpdjhcilkaaDoorImgAllC
/-
  HEX texts and dumps: lines with line feeds; the records of an image's runs; what a text says of the image. No program.
-/
namespace Go.Proofs.YtmeegpdjhcilkaaDoor
open Go.RowKit
set_option linter.unusedVariables false

/-! ### Lines with line feeds -/
def joinL (l : List (List UInt8)) : List UInt8 := l.flatMap fun x => x ++ [10]
theorem joinL_nil : joinL [] = [] := rfl
theorem joinL_append (l m : List (List UInt8)) : joinL (l ++ m) = joinL l ++ joinL m := by unfold joinL; rw [List.flatMap_append]
theorem joinL_cons (x : List UInt8) (l : List (List UInt8)) : joinL (x :: l) = x ++ 10 :: joinL l := by unfold joinL; simp
theorem joinL_one (x : List UInt8) : joinL [x] = x ++ [10] := by unfold joinL; simp
theorem joinL_take (l : List (List UInt8)) (k : Nat) (h : k < l.length) : joinL (l.take (k + 1)) = joinL (l.take k) ++ (l[k] ++ [10]) := by
  rw [List.take_succ_eq_append_getElem h, joinL_append, joinL_one]
theorem joinL_le (l : List (List UInt8)) (k : Nat) : (joinL (l.take k)).length ≤ (joinL l).length := by
  conv => rhs; rw [← List.take_append_drop k l, joinL_append, List.length_append]
  omega
def NoLf (x : List UInt8) : Prop := ∀ c ∈ x, c ≠ 10
theorem split_lf {x y s t : List UInt8} (hx : NoLf x) (hy : NoLf y) (h : x ++ 10 :: s = y ++ 10 :: t) : x = y ∧ s = t := by
  induction x generalizing y with
  | nil =>
    cases y with
    | nil => simpa using h
    | cons c y =>
      simp only [List.nil_append, List.cons_append, List.cons.injEq] at h
      exact absurd h.1.symm (hy c (by simp))
  | cons a x ih =>
    cases y with
    | nil =>
      simp only [List.nil_append, List.cons_append, List.cons.injEq] at h
      exact absurd h.1 (hx a (by simp))
    | cons c y =>
      simp only [List.cons_append, List.cons.injEq] at h
      obtain ⟨h1, h2⟩ := ih (fun c hc => hx c (by simp [hc])) (fun c hc => hy c (by simp [hc])) h.2
      exact ⟨by rw [h.1, h1], h2⟩
theorem joinL_inj {l m : List (List UInt8)} (hl : ∀ x ∈ l, NoLf x) (hm : ∀ x ∈ m, NoLf x) (h : joinL l = joinL m) : l = m := by
  induction l generalizing m with
  | nil =>
    cases m with
    | nil => rfl
    | cons y m => rw [joinL_cons, joinL_nil] at h; simp at h
  | cons x l ih =>
    cases m with
    | nil => rw [joinL_cons, joinL_nil] at h; simp at h
    | cons y m =>
      rw [joinL_cons, joinL_cons] at h
      obtain ⟨h1, h2⟩ := split_lf (hl x (by simp)) (hm y (by simp)) h
      rw [h1, ih (fun z hz => hl z (by simp [hz])) (fun z hz => hm z (by simp [hz])) h2]
theorem count_noLf {x : List UInt8} (h : NoLf x) : x.count 10 = 0 := List.count_eq_zero.2 fun hc => h 10 hc rfl
theorem count_join {l : List (List UInt8)} (h : ∀ x ∈ l, NoLf x) : (joinL l).count 10 = l.length := by
  induction l with
  | nil => rfl
  | cons x l ih =>
    rw [joinL_cons, List.count_append, List.count_cons, count_noLf (h x (by simp)), ih fun y hy => h y (by simp [hy])]
    simp

/-! ### Digits -/
theorem hexU_lf : ∀ x : Fin 16, hexU (x.val : Int) ≠ 10 := by decide +kernel
theorem hexU_ne (x : Int) (h0 : 0 ≤ x) (h1 : x < 16) : hexU x ≠ 10 := by
  have h := hexU_lf ⟨x.toNat, by omega⟩
  have e : ((x.toNat : Nat) : Int) = x := by omega
  simp only [e] at h
  exact h
theorem digU_ne (n : Int) (i : Nat) : hexU (digI n i) ≠ 10 := hexU_ne _ (digI_bd n i).1 (digI_bd n i).2
theorem digU_inj {n m : Int} {i j : Nat} (h : hexU (digI n i) = hexU (digI m j)) : digI n i = digI m j := by
  rw [← hexU_v (digI n i) (digI_bd n i).1 (digI_bd n i).2, ← hexU_v (digI m j) (digI_bd m j).1 (digI_bd m j).2, h]
theorem hexL_noLf (xs : List UInt8) : NoLf (hexL xs) := by
  induction xs with
  | nil => intro c hc; cases hc
  | cons x t ih =>
    intro c hc
    rw [hexL_cons] at hc
    simp only [List.mem_cons] at hc
    rcases hc with rfl | rfl | hc
    · exact digU_ne _ _
    · exact digU_ne _ _
    · exact ih c hc
theorem print_noLf (T a : Int) (D : List UInt8) : NoLf (printL T a D) := by
  intro c hc
  unfold printL at hc
  rcases List.mem_cons.1 hc with rfl | hc
  · decide
  · exact hexL_noLf _ c hc
theorem print_length (T a : Int) (D : List UInt8) : (printL T a D).length = 2 * D.length + 11 := by
  show (58 :: hexL (fullB T a D)).length = _
  rw [List.length_cons, hexL_length, fullB_length]
  omega
theorem strOf_inj {x y : List UInt8} (h : strOf x = strOf y) : x = y := by
  have := congrArg (fun s : ByteArray => s.data.toList) h
  simpa [strOf] using this
theorem strOf_list (x : List UInt8) : (strOf x).data.toList = x := by simp [strOf]
theorem list_strOf (s : ByteArray) : strOf s.data.toList = s := by apply bytes_ext; rw [strOf_list]
theorem line_inj {a b : Int} {D E : List UInt8} (hD : rightB 0 a D.length = true) (hE : rightB 0 b E.length = true) (h : printL 0 a D = printL 0 b E) : a = b ∧ D = E := by
  obtain ⟨_, _, a1, a2⟩ := par_line 0 a D hD _ (digits_hex _)
  obtain ⟨_, _, b1, b2⟩ := par_line 0 b E hE _ (digits_hex _)
  rw [← print_line] at a1 a2 b1 b2
  rw [h] at a1 a2
  exact ⟨a1.symm.trans b1, a2.symm.trans b2⟩

/-! ### The records of runs -/
def recsR (s : Nat) (l : List Im.Rn) : List (Int × List UInt8) := l.flatMap fun r => splW (r.1 : Int) (s : Int) r.2
theorem recsR_take (s : Nat) (l : List Im.Rn) (k : Nat) (h : k < l.length) : recsR s (l.take (k + 1)) = recsR s (l.take k) ++ splW (l[k].1 : Int) (s : Int) l[k].2 := by
  unfold recsR
  rw [List.take_succ_eq_append_getElem h, List.flatMap_append]
  simp
theorem recsR_le (s : Nat) (l : List Im.Rn) (k : Nat) : (recsR s (l.take k)).length ≤ (recsR s l).length := by
  unfold recsR
  conv => rhs; rw [← List.take_append_drop k l, List.flatMap_append, List.length_append]
  omega
theorem runs_ok {W : List Im.Cel} (h : Im.SortedW W) : ∀ r ∈ Im.runsW W, r.2 ≠ [] ∧ r.1 + r.2.length ≤ 65536 := fun r hr => by
  have h0 := (Im.canon_runs h.1).1 r hr
  refine ⟨h0, ?_⟩
  have hpos : 0 < r.2.length := List.length_pos_iff.2 h0
  have hmem : (r.1 + (r.2.length - 1), r.2.getD (r.2.length - 1) 0) ∈ Im.mkW r.1 r.2 := Im.mkW_mem.2 ⟨by show r.1 ≤ r.1 + _; omega, by show r.1 + (r.2.length - 1) < _; omega, by show r.2.getD (r.1 + (r.2.length - 1) - r.1) 0 = _; rw [show r.1 + (r.2.length - 1) - r.1 = r.2.length - 1 by omega]⟩
  have hW : (r.1 + (r.2.length - 1), r.2.getD (r.2.length - 1) 0) ∈ W := by
    rw [← Im.expand_runs W]
    exact List.mem_flatMap.2 ⟨r, hr, hmem⟩
  have := h.2 _ hW
  simp only at this
  omega
def cellsL (l : List (Int × List UInt8)) : List Im.Cel := l.flatMap fun p => Im.mkW p.1.toNat p.2
theorem cellsL_append (l m : List (Int × List UInt8)) : cellsL (l ++ m) = cellsL l ++ cellsL m := by unfold cellsL; rw [List.flatMap_append]
theorem cellsL_one (p : Int × List UInt8) : cellsL [p] = Im.mkW p.1.toNat p.2 := by unfold cellsL; simp
theorem cells_spl (a : Nat) (xs : List UInt8) (s : Nat) (hs : 1 ≤ s) (m : Nat) (hm : m ≤ cnt xs.length s) : cellsL (spl (a : Int) xs s m) = Im.mkW a (xs.take (m * s)) := by
  induction m with
  | zero => simp [spl, cellsL, Im.mkW]
  | succ k ih =>
    have hk := (cnt_lt xs.length s k hs).1 (by omega)
    rw [spl_succ, cellsL_append, ih (by omega), cellsL_one, Nat.add_mul, Nat.one_mul, List.take_add, Im.mkW_append]
    have e1 : (xs.take (k * s)).length = k * s := by rw [List.length_take]; omega
    have e2 : ((a : Int) + ((k * s : Nat) : Int)).toNat = a + k * s := by omega
    rw [e1, e2]
    rfl
theorem cells_splW (a s : Nat) (xs : List UInt8) (h1 : 1 ≤ s) (h2 : s ≤ 255) (h3 : xs ≠ []) (h4 : a + xs.length ≤ 65536) : cellsL (splW (a : Int) (s : Int) xs) = Im.mkW a xs := by
  have hpos : 0 < xs.length := List.length_pos_iff.2 h3
  rw [spOk_yes h1 h2 (by omega) (by omega) (by omega), cells_spl a xs s h1 _ (Nat.le_refl _), List.take_of_length_le]
  have h5 := mt (cnt_lt xs.length s (cnt xs.length s) h1).2 (Nat.lt_irrefl _)
  omega
theorem splW_ok (a s : Nat) (xs : List UInt8) (h1 : 1 ≤ s) (h2 : s ≤ 255) (h3 : xs ≠ []) (h4 : a + xs.length ≤ 65536) : ∀ p ∈ splW (a : Int) (s : Int) xs, 0 ≤ p.1 ∧ p.1.toNat + p.2.length ≤ 65536 ∧ p.2 ≠ [] ∧ p.2.length ≤ s := fun p hp => by
  have hpos : 0 < xs.length := List.length_pos_iff.2 h3
  rw [spOk_yes h1 h2 (by omega) (by omega) (by omega)] at hp
  unfold spl at hp
  obtain ⟨k, hk, rfl⟩ := List.mem_map.1 hp
  have hk' := (cnt_lt xs.length s k h1).1 (List.mem_range.1 hk)
  have hl := chD_length xs s k
  have e2 : ((a : Int) + ((k * s : Nat) : Int)).toNat = a + k * s := by omega
  refine ⟨by show (0 : Int) ≤ (a : Int) + ((k * s : Nat) : Int); omega, ?_, ?_, ?_⟩
  · show ((a : Int) + ((k * s : Nat) : Int)).toNat + (chD xs s k).length ≤ 65536
    rw [e2]; omega
  · show chD xs s k ≠ []
    intro h0; rw [h0] at hl; simp at hl; omega
  · show (chD xs s k).length ≤ s
    omega
def recsW (s : Nat) (W : List Im.Cel) : List (Int × List UInt8) := recsR s (Im.runsW W)
theorem cells_recs {s : Nat} {W : List Im.Cel} (h1 : 1 ≤ s) (h2 : s ≤ 255) (hW : Im.SortedW W) : cellsL (recsW s W) = W := by
  have h : ∀ l : List Im.Rn, (∀ r ∈ l, r.2 ≠ [] ∧ r.1 + r.2.length ≤ 65536) → cellsL (recsR s l) = Im.expand l := fun l => by
    induction l with
    | nil => intro _; rfl
    | cons r l ih =>
      intro hl
      have e : recsR s (r :: l) = splW (r.1 : Int) (s : Int) r.2 ++ recsR s l := by unfold recsR; simp
      have e2 : Im.expand (r :: l) = Im.mkW r.1 r.2 ++ Im.expand l := by unfold Im.expand; simp
      have hr := hl r (by simp)
      rw [e, e2, cellsL_append, cells_splW r.1 s r.2 h1 h2 hr.1 hr.2, ih fun q hq => hl q (by simp [hq])]
  unfold recsW
  rw [h _ (runs_ok hW), Im.expand_runs]
theorem recs_ok {s : Nat} {W : List Im.Cel} (h1 : 1 ≤ s) (h2 : s ≤ 255) (hW : Im.SortedW W) : ∀ p ∈ recsW s W, 0 ≤ p.1 ∧ p.1.toNat + p.2.length ≤ 65536 ∧ p.2 ≠ [] ∧ p.2.length ≤ s := fun p hp => by
  unfold recsW recsR at hp
  obtain ⟨r, hr, hp⟩ := List.mem_flatMap.1 hp
  have := runs_ok hW r hr
  exact splW_ok r.1 s r.2 h1 h2 this.1 this.2 p hp
theorem recs_right {s : Nat} {W : List Im.Cel} (h1 : 1 ≤ s) (h2 : s ≤ 255) (hW : Im.SortedW W) : ∀ p ∈ recsW s W, rightB 0 p.1 p.2.length = true := fun p hp => by
  obtain ⟨a1, a2, a3, a4⟩ := recs_ok h1 h2 hW p hp
  have hpos : 0 < p.2.length := List.length_pos_iff.2 a3
  unfold rightB
  exact decide_eq_true ⟨by omega, by omega, a1, by omega, by omega⟩

/-! ### The text -/
def lineB (p : Int × List UInt8) : List UInt8 := printL 0 p.1 p.2
def linesW (s : Nat) (W : List Im.Cel) : List (List UInt8) := (recsW s W).map lineB ++ [printL 1 0 []]
def textW (s : Nat) (W : List Im.Cel) : List UInt8 := joinL (linesW s W)
theorem lines_noLf (s : Nat) (W : List Im.Cel) : ∀ x ∈ linesW s W, NoLf x := fun x hx => by
  unfold linesW at hx
  rcases List.mem_append.1 hx with hx | hx
  · obtain ⟨p, _, rfl⟩ := List.mem_map.1 hx
    exact print_noLf _ _ _
  · rw [List.mem_singleton.1 hx]
    exact print_noLf _ _ _
theorem lines_length (s : Nat) (W : List Im.Cel) : (linesW s W).length = (recsW s W).length + 1 := by unfold linesW; simp
theorem text_count (s : Nat) (W : List Im.Cel) : (textW s W).count 10 = (recsW s W).length + 1 := by
  unfold textW
  rw [count_join (lines_noLf s W), lines_length]
theorem map_line_inj {l m : List (Int × List UInt8)} (hl : ∀ p ∈ l, rightB 0 p.1 p.2.length = true) (hm : ∀ p ∈ m, rightB 0 p.1 p.2.length = true) (h : l.map lineB = m.map lineB) : l = m := by
  induction l generalizing m with
  | nil =>
    cases m with
    | nil => rfl
    | cons q m => simp at h
  | cons p l ih =>
    cases m with
    | nil => simp at h
    | cons q m =>
      simp only [List.map_cons, List.cons.injEq] at h
      obtain ⟨h1, h2⟩ := line_inj (hl p (by simp)) (hm q (by simp)) h.1
      rw [show p = q from Prod.ext h1 h2, ih (fun x hx => hl x (by simp [hx])) (fun x hx => hm x (by simp [hx])) h.2]
theorem text_inj {s : Nat} {V W : List Im.Cel} (h1 : 1 ≤ s) (h2 : s ≤ 255) (hV : Im.SortedW V) (hW : Im.SortedW W) (h : textW s V = textW s W) : V = W := by
  have h3 := joinL_inj (lines_noLf s V) (lines_noLf s W) h
  unfold linesW at h3
  have h4 := map_line_inj (recs_right h1 h2 hV) (recs_right h1 h2 hW) (List.append_inj_left' h3 rfl)
  rw [← cells_recs h1 h2 hV, ← cells_recs h1 h2 hW, h4]
theorem recs_length {s : Nat} {W : List Im.Cel} (h1 : 1 ≤ s) (h2 : s ≤ 255) (hW : Im.SortedW W) : (recsW s W).length ≤ W.length := by
  have h : ∀ l : List (Int × List UInt8), (∀ p ∈ l, p.2 ≠ []) → l.length ≤ (cellsL l).length := fun l => by
    induction l with
    | nil => intro _; simp
    | cons p l ih =>
      intro hl
      have e : cellsL (p :: l) = Im.mkW p.1.toNat p.2 ++ cellsL l := by unfold cellsL; simp
      have hp : 0 < p.2.length := List.length_pos_iff.2 (hl p (by simp))
      rw [e, List.length_append, Im.mkW_length, List.length_cons]
      have := ih fun q hq => hl q (by simp [hq])
      omega
  have := h (recsW s W) fun p hp => (recs_ok h1 h2 hW p hp).2.2.1
  rwa [cells_recs h1 h2 hW] at this
theorem join_bound (l : List (List UInt8)) (b : Nat) (h : ∀ x ∈ l, x.length ≤ b) : (joinL l).length ≤ l.length * (b + 1) := by
  induction l with
  | nil => simp [joinL_nil]
  | cons x l ih =>
    rw [joinL_cons, List.length_append, List.length_cons, List.length_cons, Nat.add_mul, Nat.one_mul]
    have h1 := h x (by simp)
    have h2 := ih fun y hy => h y (by simp [hy])
    omega
theorem lines_le {s : Nat} {W : List Im.Cel} (h1 : 1 ≤ s) (h2 : s ≤ 255) (hW : Im.SortedW W) : ∀ x ∈ linesW s W, x.length ≤ 600 := fun x hx => by
  unfold linesW at hx
  rcases List.mem_append.1 hx with hx | hx
  · obtain ⟨p, hp, rfl⟩ := List.mem_map.1 hx
    have := (recs_ok h1 h2 hW p hp).2.2.2
    show (printL 0 p.1 p.2).length ≤ 600
    rw [print_length]
    omega
  · rw [List.mem_singleton.1 hx, print_length]
    simp
theorem text_le {s : Nat} {W : List Im.Cel} (h1 : 1 ≤ s) (h2 : s ≤ 255) (hW : Im.SortedW W) : (textW s W).length ≤ 40000000 := by
  have h3 := join_bound _ 600 (lines_le h1 h2 hW)
  rw [lines_length] at h3
  have h4 := recs_length h1 h2 hW
  have h5 := Im.sorted_length hW
  unfold textW
  omega
end Go.Proofs.YtmeegpdjhcilkaaDoor
/-
  Dumps: the rows of cells, their texts; what a dump says of the image. No program.
-/
namespace Go.Proofs.YtmeegpdjhcilkaaDoor
open Go.RowKit
set_option linter.unusedVariables false

def addRow (out : List Im.Rn) (c : Im.Cel) : List Im.Rn :=
  match out.getLast? with
  | some r => if r.1 + r.2.length = c.1 ∧ c.1 % 16 ≠ 0 then out.dropLast ++ [(r.1, r.2 ++ [c.2])] else out ++ [(c.1, [c.2])]
  | none => [(c.1, [c.2])]
theorem addRow_nil (c : Im.Cel) : addRow [] c = [(c.1, [c.2])] := rfl
theorem addRow_more (out : List Im.Rn) (r : Im.Rn) (c : Im.Cel) (h : r.1 + r.2.length = c.1) (h2 : c.1 % 16 ≠ 0) : addRow (out ++ [r]) c = out ++ [(r.1, r.2 ++ [c.2])] := by
  unfold addRow
  rw [List.getLast?_concat]
  simp only [if_pos (And.intro h h2), List.dropLast_concat]
theorem addRow_new (out : List Im.Rn) (r : Im.Rn) (c : Im.Cel) (h : r.1 + r.2.length ≠ c.1 ∨ c.1 % 16 = 0) : addRow (out ++ [r]) c = out ++ [r] ++ [(c.1, [c.2])] := by
  unfold addRow
  rw [List.getLast?_concat]
  simp only
  rw [if_neg]
  rintro ⟨h1, h2⟩
  rcases h with h | h
  · exact h h1
  · exact h2 h
def rowsC (W : List Im.Cel) : List Im.Rn := W.foldl addRow []
theorem rowsC_snoc (W : List Im.Cel) (c : Im.Cel) : rowsC (W ++ [c]) = addRow (rowsC W) c := by unfold rowsC; rw [List.foldl_append]; rfl
theorem rows_end (W : List Im.Cel) (c : Im.Cel) : ∃ out r, rowsC (W ++ [c]) = out ++ [r] ∧ r.1 + r.2.length = c.1 + 1 ∧ r.2 ≠ [] := by
  rw [rowsC_snoc]
  rcases Im.snoc_cases (rowsC W) with h | ⟨out, r, h⟩
  · rw [h, addRow_nil]; exact ⟨[], _, rfl, rfl, by simp⟩
  · rw [h]
    by_cases e : r.1 + r.2.length = c.1 ∧ c.1 % 16 ≠ 0
    · rw [addRow_more out r c e.1 e.2]
      exact ⟨out, _, rfl, by simp only [List.length_append, List.length_cons, List.length_nil]; omega, by simp⟩
    · rw [addRow_new out r c (by omega)]
      exact ⟨out ++ [r], _, rfl, rfl, by simp⟩
theorem expand_rows (W : List Im.Cel) : Im.expand (rowsC W) = W := by
  have h : ∀ n, ∀ W : List Im.Cel, W.length = n → Im.expand (rowsC W) = W := by
    intro n
    induction n with
    | zero => intro W hW; rw [List.eq_nil_of_length_eq_zero hW]; rfl
    | succ n ih =>
      intro W hW
      rcases Im.snoc_cases W with rfl | ⟨V, c, rfl⟩
      · simp at hW
      · have hV := ih V (by simpa using hW)
        rw [rowsC_snoc]
        rcases Im.snoc_cases (rowsC V) with h | ⟨out, r, h⟩
        · rw [h] at hV ⊢
          rw [← hV]
          rfl
        · rw [h] at hV ⊢
          by_cases e : r.1 + r.2.length = c.1 ∧ c.1 % 16 ≠ 0
          · rw [addRow_more out r c e.1 e.2, Im.expand_append]
            rw [Im.expand_append] at hV
            have e1 : Im.expand [(r.1, r.2 ++ [c.2])] = Im.expand [r] ++ [c] := by
              unfold Im.expand
              simp only [List.flatMap_cons, List.flatMap_nil, List.append_nil]
              rw [Im.mkW_append, e.1]
              rfl
            rw [e1, ← List.append_assoc, hV]
          · rw [addRow_new out r c (by omega), Im.expand_append, hV]
            rfl
  exact h _ W rfl
theorem fold_row (out : List Im.Rn) (a : Nat) (d ys : List UInt8) (h : ∀ i, i < ys.length → (a + d.length + i) % 16 ≠ 0) : (Im.mkW (a + d.length) ys).foldl addRow (out ++ [(a, d)]) = out ++ [(a, d ++ ys)] := by
  induction ys generalizing d with
  | nil => simp [Im.mkW]
  | cons y t ih =>
    simp only [Im.mkW, List.foldl_cons]
    rw [addRow_more out (a, d) _ rfl (by have := h 0 (by simp); simpa using this)]
    have h2 := ih (d ++ [y]) (fun i hi => by
      have := h (i + 1) (by simpa using hi)
      rw [List.length_append, List.length_singleton]
      rwa [show a + (d.length + 1) + i = a + d.length + (i + 1) by omega])
    rw [List.length_append] at h2
    have e : a + (d.length + [y].length) = a + d.length + 1 := by simp only [List.length_cons, List.length_nil]; omega
    rw [e] at h2
    rw [h2]
    simp
theorem rows_mk (W : List Im.Cel) (a : Nat) (xs : List UInt8) (hx : xs ≠ []) (hin : a % 16 + xs.length ≤ 16) (hW : W = [] ∨ ∃ V c, W = V ++ [c] ∧ (c.1 + 1 ≠ a ∨ a % 16 = 0)) : rowsC (W ++ Im.mkW a xs) = rowsC W ++ [(a, xs)] := by
  cases xs with
  | nil => exact absurd rfl hx
  | cons x t =>
    have h1 : addRow (rowsC W) (a, x) = rowsC W ++ [(a, [x])] := by
      rcases hW with rfl | ⟨V, c, rfl, hc⟩
      · rfl
      · obtain ⟨out, r, e1, e2, _⟩ := rows_end V c
        rw [e1, addRow_new out r (a, x) (by show _ ≠ a ∨ a % 16 = 0; omega)]
    unfold rowsC at h1 ⊢
    rw [List.foldl_append]
    simp only [Im.mkW, List.foldl_cons]
    rw [h1]
    refine fold_row _ a [x] t fun i hi => ?_
    simp only [List.length_cons, List.length_nil] at hin ⊢
    omega
/-- Cells in front of which there is a gap. -/
theorem rows_fresh (V U : List Im.Cel) (h : ∀ c ∈ V, ∀ d, U.head? = some d → c.1 + 1 ≠ d.1) : rowsC (V ++ U) = rowsC V ++ rowsC U := by
  have key : ∀ n, ∀ U : List Im.Cel, U.length = n → (∀ c ∈ V, ∀ d, U.head? = some d → c.1 + 1 ≠ d.1) → rowsC (V ++ U) = rowsC V ++ rowsC U := by
    intro n
    induction n with
    | zero => intro U hU _; rw [List.eq_nil_of_length_eq_zero hU]; simp [rowsC]
    | succ n ih =>
      intro U hU h
      rcases Im.snoc_cases U with rfl | ⟨T, x, rfl⟩
      · simp at hU
      · rcases Im.snoc_cases T with rfl | ⟨T', y, rfl⟩
        · rw [List.nil_append, rowsC_snoc]
          have e2 : rowsC [x] = [(x.1, [x.2])] := rfl
          rw [e2]
          rcases Im.snoc_cases V with rfl | ⟨V', c, rfl⟩
          · rfl
          · obtain ⟨out, r, e1, e3, _⟩ := rows_end V' c
            have := h c (by simp) x rfl
            rw [e1, addRow_new out r x (by omega)]
        · have hT := ih (T' ++ [y]) (by simpa using hU) (fun c hc d hd => h c hc d (by
            cases T' with
            | nil => simpa using hd
            | cons z t => simpa using hd))
          obtain ⟨out, r, e1, e3, _⟩ := rows_end T' y
          rw [← List.append_assoc, rowsC_snoc, hT, rowsC_snoc (T' ++ [y]) x, e1, ← List.append_assoc]
          by_cases e : r.1 + r.2.length = x.1 ∧ x.1 % 16 ≠ 0
          · rw [addRow_more _ r x e.1 e.2, addRow_more _ r x e.1 e.2, List.append_assoc]
          · rw [addRow_new _ r x (by omega), addRow_new _ r x (by omega)]
            simp
  exact key _ U rfl h
theorem canon_lt {l : List Im.Rn} (h : Im.Canon l) (i j : Nat) (hij : i < j) (hj : j < l.length) : (l[i]'(by omega)).1 + (l[i]'(by omega)).2.length < l[j].1 := by
  induction j with
  | zero => omega
  | succ j ih =>
    have h2 := h.2 j hj
    by_cases e : i = j
    · subst e; exact h2
    · have := ih (by omega) (by omega)
      omega
theorem rows_take {W : List Im.Cel} (hW : Im.SortedW W) (k : Nat) (hk : k < (Im.runsW W).length) :
    rowsC (Im.expand ((Im.runsW W).take (k + 1))) = rowsC (Im.expand ((Im.runsW W).take k)) ++ rowsC (Im.mkW (Im.runsW W)[k].1 (Im.runsW W)[k].2) := by
  rw [List.take_succ_eq_append_getElem hk, Im.expand_append]
  have e : Im.expand [(Im.runsW W)[k]] = Im.mkW (Im.runsW W)[k].1 (Im.runsW W)[k].2 := by unfold Im.expand; simp
  rw [e]
  refine rows_fresh _ _ fun c hc d hd => ?_
  have hd1 : d.1 = (Im.runsW W)[k].1 := by
    cases hx : (Im.runsW W)[k].2 with
    | nil => rw [hx] at hd; simp [Im.mkW] at hd
    | cons x t => rw [hx] at hd; simp [Im.mkW] at hd; rw [← hd]
  unfold Im.expand at hc
  obtain ⟨r, hr, hc⟩ := List.mem_flatMap.1 hc
  obtain ⟨i, hi, rfl⟩ := List.mem_iff_getElem.1 hr
  rw [List.length_take] at hi
  rw [List.getElem_take] at hc
  have h1 := canon_lt (Im.canon_runs hW.1) i k (by omega) hk
  have h2 := Im.mkW_mem.1 hc
  omega
theorem rows_ok {W : List Im.Cel} (hW : Im.SortedW W) : ∀ r ∈ rowsC W, r.1 < 65536 := fun r hr => by
  have hne : ∀ n, ∀ W : List Im.Cel, W.length = n → ∀ r ∈ rowsC W, r.2 ≠ [] := by
    intro n
    induction n with
    | zero => intro W hW r hr; rw [List.eq_nil_of_length_eq_zero hW] at hr; simp [rowsC] at hr
    | succ n ih =>
      intro W hW r hr
      rcases Im.snoc_cases W with rfl | ⟨V, c, rfl⟩
      · simp at hW
      · have hV := ih V (by simpa using hW)
        rw [rowsC_snoc] at hr
        rcases Im.snoc_cases (rowsC V) with h | ⟨out, q, h⟩
        · rw [h, addRow_nil] at hr
          rw [List.mem_singleton.1 hr]; simp
        · rw [h] at hr hV
          by_cases e : q.1 + q.2.length = c.1 ∧ c.1 % 16 ≠ 0
          · rw [addRow_more out q c e.1 e.2] at hr
            rcases List.mem_append.1 hr with hr | hr
            · exact hV r (List.mem_append_left _ hr)
            · rw [List.mem_singleton.1 hr]; simp
          · rw [addRow_new out q c (by omega)] at hr
            rcases List.mem_append.1 hr with hr | hr
            · exact hV r hr
            · rw [List.mem_singleton.1 hr]; simp
  have h0 := hne _ W rfl r hr
  have hpos : 0 < r.2.length := List.length_pos_iff.2 h0
  have hmem : (r.1, r.2.getD 0 0) ∈ Im.mkW r.1 r.2 := Im.mkW_mem.2 ⟨Nat.le_refl _, by show r.1 < _; omega, by show r.2.getD (r.1 - r.1) 0 = _; rw [Nat.sub_self]⟩
  have hin : (r.1, r.2.getD 0 0) ∈ W := by
    rw [← expand_rows W]
    exact List.mem_flatMap.2 ⟨r, hr, hmem⟩
  exact hW.2 _ hin

/-! ### The text -/
/-- The bytes of a row, each behind a space. -/
def spcL (D : List UInt8) : List UInt8 := D.flatMap fun x => 32 :: (hexS (x.toNat : Int) 2).data.toList
theorem spcL_append (D E : List UInt8) : spcL (D ++ E) = spcL D ++ spcL E := by unfold spcL; rw [List.flatMap_append]
theorem spcL_cons (x : UInt8) (t : List UInt8) : spcL (x :: t) = 32 :: hexU (digI (x.toNat : Int) 1) :: hexU (digI (x.toNat : Int) 0) :: spcL t := by
  show (32 :: (hexS (x.toNat : Int) 2).data.toList) ++ spcL t = _
  rw [hexS2_list]; rfl
theorem spcL_one (x : UInt8) : spcL [x] = 32 :: (hexS (x.toNat : Int) 2).data.toList := by unfold spcL; simp
theorem spcL_take (D : List UInt8) (k : Nat) (h : k < D.length) : spcL (D.take (k + 1)) = spcL (D.take k) ++ [32] ++ (hexS (D[k].toNat : Int) 2).data.toList := by
  rw [List.take_succ_eq_append_getElem h, spcL_append, spcL_one]
  simp
theorem spcL_length (D : List UInt8) : (spcL D).length = 3 * D.length := by
  induction D with
  | nil => rfl
  | cons x t ih => rw [spcL_cons]; simp only [List.length_cons, ih]; omega
def rowB (a : Int) (D : List UInt8) : List UInt8 := (hexS a 4).data.toList ++ [58] ++ spcL D
theorem rowB_length (a : Int) (D : List UInt8) : (rowB a D).length = 5 + 3 * D.length := by
  unfold rowB
  rw [List.length_append, List.length_append, spcL_length]
  have : (hexS a 4).data.toList.length = 4 := by have := hexS_size a 4; simpa using this
  rw [this]; rfl
theorem rowB_snoc (a : Int) (D : List UInt8) (x : UInt8) : rowB a (D ++ [x]) = rowB a D ++ (32 :: (hexS (x.toNat : Int) 2).data.toList) := by
  unfold rowB
  rw [spcL_append, spcL_one, List.append_assoc, List.append_assoc, List.append_assoc]
theorem spcL_noLf (D : List UInt8) : NoLf (spcL D) := by
  induction D with
  | nil => intro c hc; cases hc
  | cons x t ih =>
    intro c hc
    rw [spcL_cons] at hc
    simp only [List.mem_cons] at hc
    rcases hc with rfl | rfl | rfl | hc
    · decide
    · exact digU_ne _ _
    · exact digU_ne _ _
    · exact ih c hc
theorem rowB_noLf (a : Int) (D : List UInt8) : NoLf (rowB a D) := by
  intro c hc
  unfold rowB at hc
  rw [hexS4] at hc
  rcases List.mem_append.1 hc with hc | hc
  · simp only [List.cons_append, List.nil_append, List.mem_cons, List.not_mem_nil, or_false] at hc
    rcases hc with rfl | rfl | rfl | rfl | rfl
    · exact digU_ne _ _
    · exact digU_ne _ _
    · exact digU_ne _ _
    · exact digU_ne _ _
    · decide
  · exact spcL_noLf D c hc
theorem byte_dig {x y : UInt8} (h1 : digI (x.toNat : Int) 1 = digI (y.toNat : Int) 1) (h0 : digI (x.toNat : Int) 0 = digI (y.toNat : Int) 0) : x = y := by
  apply UInt8.toNat_inj.1
  have a := x.toNat_lt
  have b := y.toNat_lt
  unfold digI at h1 h0
  simp at h1 h0
  omega
theorem spcL_inj {D E : List UInt8} (h : spcL D = spcL E) : D = E := by
  induction D generalizing E with
  | nil =>
    cases E with
    | nil => rfl
    | cons y t => rw [spcL_cons] at h; simp [spcL] at h
  | cons x t ih =>
    cases E with
    | nil => rw [spcL_cons] at h; simp [spcL] at h
    | cons y u =>
      rw [spcL_cons, spcL_cons] at h
      simp only [List.cons.injEq, true_and] at h
      obtain ⟨h1, h2, h3⟩ := h
      rw [byte_dig (digU_inj h1) (digU_inj h2), ih h3]
theorem rowB_inj {a b : Nat} (ha : a < 65536) (hb : b < 65536) {D E : List UInt8} (h : rowB (a : Int) D = rowB (b : Int) E) : a = b ∧ D = E := by
  unfold rowB at h
  rw [hexS4, hexS4] at h
  simp only [List.cons_append, List.nil_append, List.cons.injEq, true_and] at h
  obtain ⟨h3, h2, h1, h0, hD⟩ := h
  refine ⟨?_, spcL_inj hD⟩
  have d3 := digU_inj h3
  have d2 := digU_inj h2
  have d1 := digU_inj h1
  have d0 := digU_inj h0
  unfold digI at d3 d2 d1 d0
  simp at d3 d2 d1 d0
  omega
def rowT' (r : Im.Rn) : List UInt8 := rowB (r.1 : Int) r.2
def dumpL (W : List Im.Cel) : List UInt8 := joinL ((rowsC W).map rowT')
theorem dump_nil : dumpL [] = [] := rfl
theorem map_row_inj {l m : List Im.Rn} (hl : ∀ r ∈ l, r.1 < 65536) (hm : ∀ r ∈ m, r.1 < 65536) (h : l.map rowT' = m.map rowT') : l = m := by
  induction l generalizing m with
  | nil =>
    cases m with
    | nil => rfl
    | cons q m => simp at h
  | cons p l ih =>
    cases m with
    | nil => simp at h
    | cons q m =>
      simp only [List.map_cons, List.cons.injEq] at h
      obtain ⟨h1, h2⟩ := rowB_inj (hl p (by simp)) (hm q (by simp)) h.1
      rw [show p = q from Prod.ext h1 h2, ih (fun x hx => hl x (by simp [hx])) (fun x hx => hm x (by simp [hx])) h.2]
theorem dump_inj {V W : List Im.Cel} (hV : Im.SortedW V) (hW : Im.SortedW W) (h : dumpL V = dumpL W) : V = W := by
  have hn : ∀ (l : List Im.Rn), ∀ x ∈ l.map rowT', NoLf x := fun l x hx => by
    obtain ⟨r, _, rfl⟩ := List.mem_map.1 hx
    exact rowB_noLf _ _
  have h4 := map_row_inj (rows_ok hV) (rows_ok hW) (joinL_inj (hn _) (hn _) h)
  rw [← expand_rows V, ← expand_rows W, h4]
/-- A cell more: a new row, or a byte more in the last one. -/
theorem dump_new (W : List Im.Cel) (c : Im.Cel) (h : W = [] ∨ ∃ V d, W = V ++ [d] ∧ (d.1 + 1 ≠ c.1 ∨ c.1 % 16 = 0)) : dumpL (W ++ [c]) = dumpL W ++ (hexS (c.1 : Int) 4).data.toList ++ [58] ++ [32] ++ (hexS (c.2.toNat : Int) 2).data.toList ++ [10] := by
  have e : rowsC (W ++ [c]) = rowsC W ++ [(c.1, [c.2])] := by
    rw [rowsC_snoc]
    rcases h with rfl | ⟨V, d, rfl, hd⟩
    · rfl
    · obtain ⟨out, r, e1, e2, _⟩ := rows_end V d
      rw [e1, addRow_new out r c (by omega)]
  unfold dumpL
  rw [e, List.map_append, joinL_append, List.map_singleton, joinL_one]
  unfold rowT' rowB
  rw [spcL_one]
  simp
theorem dump_more (W : List Im.Cel) (d c : Im.Cel) (h1 : d.1 + 1 = c.1) (h2 : c.1 % 16 ≠ 0) : ∃ t, dumpL (W ++ [d]) = t ++ [10] ∧ dumpL (W ++ [d] ++ [c]) = t ++ [32] ++ (hexS (c.2.toNat : Int) 2).data.toList ++ [10] := by
  obtain ⟨out, r, e1, e2, _⟩ := rows_end W d
  refine ⟨joinL (out.map rowT') ++ rowT' r, ?_, ?_⟩
  · unfold dumpL
    rw [e1, List.map_append, joinL_append, List.map_singleton, joinL_one, List.append_assoc]
  · unfold dumpL
    rw [rowsC_snoc, e1, addRow_more out r c (by omega) h2, List.map_append, joinL_append, List.map_singleton, joinL_one]
    have e3 : rowT' (r.1, r.2 ++ [c.2]) = rowT' r ++ (32 :: (hexS (c.2.toNat : Int) 2).data.toList) := rowB_snoc _ _ _
    rw [e3]
    simp
theorem dump_length (W : List Im.Cel) : (dumpL W).length ≤ 9 * W.length := by
  have h : ∀ n, ∀ W : List Im.Cel, W.length = n → (dumpL W).length ≤ 9 * W.length := by
    intro n
    induction n with
    | zero => intro W hW; rw [List.eq_nil_of_length_eq_zero hW, dump_nil]; simp
    | succ n ih =>
      intro W hW
      have h4 : ∀ a : Int, (hexS a 4).data.toList.length = 4 := fun a => by have := hexS_size a 4; simpa using this
      have h2 : ∀ a : Int, (hexS a 2).data.toList.length = 2 := fun a => by have := hexS_size a 2; simpa using this
      rcases Im.snoc_cases W with rfl | ⟨V, c, rfl⟩
      · simp at hW
      · have hV := ih V (by simpa using hW)
        rcases Im.snoc_cases V with rfl | ⟨T, d, rfl⟩
        · rw [dump_new [] c (.inl rfl)]
          simp only [List.length_append, h4, h2, List.length_cons, List.length_nil, dump_nil]
          omega
        · by_cases e : d.1 + 1 = c.1 ∧ c.1 % 16 ≠ 0
          · obtain ⟨t, e1, e2⟩ := dump_more T d c e.1 e.2
            rw [e2]
            rw [e1] at hV
            simp only [List.length_append, h2, List.length_cons, List.length_nil] at hV ⊢
            omega
          · rw [dump_new _ c (.inr ⟨T, d, rfl, by omega⟩)]
            simp only [List.length_append, h4, h2, List.length_cons, List.length_nil] at hV ⊢
            omega
  exact h _ W rfl
theorem rows_length (W : List Im.Cel) : (rowsC W).length ≤ W.length := by
  have h : ∀ n, ∀ W : List Im.Cel, W.length = n → (rowsC W).length ≤ W.length := by
    intro n
    induction n with
    | zero => intro W hW; rw [List.eq_nil_of_length_eq_zero hW]; simp [rowsC]
    | succ n ih =>
      intro W hW
      rcases Im.snoc_cases W with rfl | ⟨V, c, rfl⟩
      · simp at hW
      · have hV := ih V (by simpa using hW)
        rw [rowsC_snoc]
        rcases Im.snoc_cases (rowsC V) with h | ⟨out, q, h⟩
        · rw [h, addRow_nil]; simp
        · rw [h] at hV ⊢
          by_cases e : q.1 + q.2.length = c.1 ∧ c.1 % 16 ≠ 0
          · rw [addRow_more out q c e.1 e.2]
            simp only [List.length_append, List.length_cons, List.length_nil] at hV ⊢
            omega
          · rw [addRow_new out q c (by omega)]
            simp only [List.length_append, List.length_cons, List.length_nil] at hV ⊢
            omega
  exact h _ W rfl
end Go.Proofs.YtmeegpdjhcilkaaDoor
/-
  strings.Builder at whatever moment (copyCheck, WriteByte, WriteString, String); slices of strings; the walk over hexwrite.Join: for all strings, each with a line feed behind it.
-/
namespace Go.Proofs.YtmeegpdjhcilkaaDoor
open Go.RowKit
set_option linter.unusedVariables false

theorem copyCheck_any (b : Nat) (w : World) (p v : Value) (bs : List UInt8) (hp : p = selfP b ∨ p = .pointer none) (h : Bld b w p v bs) :
    Calls Tryd.prog 101 #[.pointer (some ⟨b, 0, none⟩)] w fun e w' => e = .returned (.tuple #[]) ∧ Bld b w' (selfP b) v bs ∧ KeptP (· ≠ b) w w' ∧ w'.heap.size = w.heap.size := by
  rcases hp with rfl | rfl
  · refine (copyCheck_used b w v bs h).mono ?_
    rintro e w' ⟨rfl, rfl⟩
    exact ⟨rfl, h, KeptP.refl _ _, rfl⟩
  · refine (copyCheck_fresh b w v bs h).mono ?_
    rintro e w' ⟨rfl, rfl⟩
    exact ⟨rfl, h.set0 _, KeptP.put _ _ (by simp) _, by simp [World.setCell]⟩
theorem own_lt0 {w : World} {v : Value} {n base : Nat} {e : TypeId} {xs : List Value} (h : w.ownsRow base e 1 v n xs) {g : Nat} (hg : v.ownBlock = some g) : g < w.heap.size := (h.lt g hg).2
/-- append(v, c): where the result lies. -/
theorem app_byte {w : World} {v : Value} {bs : List UInt8} (hown : w.ownsRow 0 5 1 v bs.length (bs.map u8V)) (c : UInt8) (hlen : bs.length + 1 ≤ 140737488355328) (ty : TypeId) :
    ∃ v' w', (Builtin.append_ #[59, 59] ty #[v, .slice (some ⟨w.heap.size, 0, none⟩) 1 1]).run Tryd.prog (w.alloc (.cells #[.int .u8 (c.toNat : Int)] 5)) = .ok v' w' ∧ w'.ownsRow 0 5 1 v' (bs ++ [c]).length ((bs ++ [c]).map u8V) ∧
      (w.alloc (.cells #[.int .u8 (c.toNat : Int)] 5)).grownBy w' v.ownBlock ∧ ∀ g, v'.ownBlock = some g → v.ownBlock = some g ∨ w.heap.size ≤ g := by
  obtain ⟨i0, hi, hz0, hz1, hz2⟩ := info_parts info_u8
  obtain ⟨v', w', k1, k2, k3, _, k5⟩ := run_append_own_at (P := Tryd.prog) (w := w.alloc (.cells #[.int .u8 (c.toNat : Int)] 5)) 0 59 ty 5 i0 _ 1 1 Tryd.underlying59 hi hz0 hz1 hz2 rfl (by decide) v bs.length _ (hown.alloc _) ⟨w.heap.size, 0, none⟩ 1 1 [.int .u8 (c.toNat : Int)] rfl
    (fun j u hj => by
      match j, hj with
      | 0, hj => simp at hj; subst hj; simp [Addr.add, go_sem])
    (fun u hu => by simp at hu; subst hu; rfl) (by unfold maxLen; omega) (by omega) (Nat.zero_le _)
  refine ⟨v', w', k1, ?_, k3, fun g hg => ?_⟩
  · rw [List.length_append, List.map_append]
    exact k2
  · rcases k5 with k5 | k5
    · exact .inl (k5 ▸ hg)
    · right
      rw [hg] at k5
      have := Option.some.inj k5
      simp at this
      omega
/-- Builder b holds bs; its buffer and itself lie from B on; below B the world is as w. -/
structure BJ (B b : Nat) (w wr : World) (v : Value) (bs : List UInt8) : Prop where
  bld : ∃ p, (p = selfP b ∨ p = .pointer none) ∧ Bld b wr p v bs
  own : ∀ g, v.ownBlock = some g → B ≤ g
  below : Below B w wr
  hb : B ≤ b
  hw : B ≤ w.heap.size
theorem BJ.start (w : World) : BJ w.heap.size w.heap.size w (w.alloc (.cells #[.pointer none, .slice none 0 0] 125)) (.slice none 0 0) [] :=
  ⟨⟨_, .inr rfl, Bld.fresh w _ rfl⟩, fun g hg => by simp [Value.ownBlock] at hg, (Below.refl _ _).alloc (Nat.le_refl _) _, Nat.le_refl _, Nat.le_refl _⟩
theorem BJ.more {B b : Nat} {w wr w' : World} {v : Value} {bs : List UInt8} (h : BJ B b w wr v bs) (k : Below wr.heap.size wr w') : BJ B b w w' v bs := by
  obtain ⟨⟨p, hp, hB⟩, h2, h3, h4, h5⟩ := h
  exact ⟨⟨p, hp, hB.kept (KeptP.of_all k) trivial fun _ _ => trivial⟩, h2, h3.trans (k.mono (Nat.le_trans h5 h3.size)), h4, h5⟩
theorem keptOwn {B b : Nat} {w w' : World} {v : Value} (h : KeptP (fun i => i ≠ b ∧ some i ≠ v.ownBlock) w w') (hb : B ≤ b) (hv : ∀ g, v.ownBlock = some g → B ≤ g) (hs : B ≤ w.heap.size) : Below B w w' :=
  h.below (fun i hi => ⟨by omega, fun e => by have := hv i e.symm; omega⟩) hs
set_option maxHeartbeats 1000000 in
theorem BJ.str {B b : Nat} {w wr : World} {v : Value} {bs : List UInt8} (h : BJ B b w wr v bs) (s : ByteArray) (hlen : bs.length + s.size ≤ 140737488355328) :
    Calls Tryd.prog 72 #[.pointer (some ⟨b, 0, none⟩), .string s] wr fun e w' => e = .returned (.tuple #[.int .i64 s.size, .nilIface]) ∧ ∃ v', BJ B b w w' v' (bs ++ s.data.toList) := by
  obtain ⟨⟨p, hp, hB0⟩, hv0, hbel, hbb, hww⟩ := h
  have hcc := copyCheck_any b wr p v bs hp hB0
  have G := Lib.hid (And.intro hv0 (And.intro hbel (And.intro hbb hww)))
  clear hp hB0 hv0 hbel hbb hww
  go_enter Tryd.func72, Tryd.ntmps72
  go_wp2_with fail
  refine hcc.mono ?_
  rintro e w1 ⟨rfl, h, hk, hs1⟩
  clear hcc
  obtain ⟨v', w2, hr, hown', hgrow, hblk⟩ := app_str h.2.1 s hlen 59
  have hlt := h.lt
  have hb2 : w2.heap[b]? = some (.cells #[selfP b, v] 125 (0, 0)) := by
    rw [hgrow.block b hlt (fun e => h.2.2 e.symm)]
    exact h.1
  have c1 := h.c1
  have d1 : w2.cell? ⟨b, 1, none⟩ = some v := by rw [Lib.cell_of_heap hb2]; rfl
  have f1 : w2.frozen? ⟨b, 1, none⟩ = false := Lib.frozen_of_heap hb2 1
  have hB := Bld.set1 hb2 hown'
  have N : Hid (BJ B b w (w2.setCell ⟨b, 1, none⟩ v') v' (bs ++ s.data.toList)) := by
    obtain ⟨g1, g2, g3, g4⟩ := G.out
    have g5 := Nat.le_trans g4 g2.size
    refine ⟨⟨_, .inl rfl, hB⟩, fun g hg => ?_, ?_, g3, g4⟩
    · rcases hblk g hg with h4 | h4
      · exact g1 g h4
      · omega
    · refine g2.trans (keptOwn (b := b) (v := v) ((hk.mono fun i _ hi => hi.1).trans (((KeptP.refl _ _).grown hgrow (fun k hk h => h.2 hk.symm)).setCell (fun h => h.1 rfl) _)) g3 g1 (by omega))
  have HR := Lib.hid hr
  obtain ⟨ao, n', cap', hv'⟩ : ∃ ao n' cap', v' = .slice ao n' cap' := by
    rcases hown'.2 with ⟨hv, _⟩ | ⟨g, cap, cur, hv, _⟩
    · exact ⟨_, _, _, hv⟩
    · exact ⟨_, _, _, hv⟩
  subst hv'
  clear hB hk hs1 hblk hr hown' hgrow hb2 h hlt hlen
  go_wp2_with (at_builtin; refine wpList_app_str HR.out rfl _ _ rfl rfl rfl rfl ?_)
  go_ret2
  exact ⟨rfl, _, N.out⟩
set_option maxHeartbeats 1000000 in
theorem BJ.byte {B b : Nat} {w wr : World} {v : Value} {bs : List UInt8} (h : BJ B b w wr v bs) (c : UInt8) (n : Int) (hn : n = (c.toNat : Int)) (hlen : bs.length + 1 ≤ 140737488355328) :
    Calls Tryd.prog 74 #[.pointer (some ⟨b, 0, none⟩), .int .u8 n] wr fun e w' => e = .returned .nilIface ∧ ∃ v', BJ B b w w' v' (bs ++ [c]) := by
  subst hn
  obtain ⟨⟨p, hp, hB0⟩, hv0, hbel, hbb, hww⟩ := h
  have hcc := copyCheck_any b wr p v bs hp hB0
  have G := Lib.hid (And.intro hv0 (And.intro hbel (And.intro hbb hww)))
  clear hp hB0 hv0 hbel hbb hww
  go_enter Tryd.func74, Tryd.ntmps74
  go_wp2_with fail
  refine hcc.mono ?_
  rintro e w1 ⟨rfl, h, hk, hs1⟩
  clear hcc
  obtain ⟨v', w2, hr, hown', hgrow, hblk⟩ := app_byte h.2.1 c hlen 59
  have hlt := h.lt
  have hb2 : w2.heap[b]? = some (.cells #[selfP b, v] 125 (0, 0)) := by
    rw [hgrow.block b (by simp; omega) (fun e => h.2.2 e.symm), Lib.alloc_old w1 _ b hlt]
    exact h.1
  have c1 := h.c1
  have d1 : w2.cell? ⟨b, 1, none⟩ = some v := by rw [Lib.cell_of_heap hb2]; rfl
  have f1 : w2.frozen? ⟨b, 1, none⟩ = false := Lib.frozen_of_heap hb2 1
  have hB := Bld.set1 hb2 hown'
  have N : Hid (BJ B b w (w2.setCell ⟨b, 1, none⟩ v') v' (bs ++ [c])) := by
    obtain ⟨g1, g2, g3, g4⟩ := G.out
    have g5 := Nat.le_trans g4 g2.size
    refine ⟨⟨_, .inl rfl, hB⟩, fun g hg => ?_, ?_, g3, g4⟩
    · rcases hblk g hg with h4 | h4
      · exact g1 g h4
      · omega
    · refine g2.trans (keptOwn (b := b) (v := v) ((hk.mono fun i _ hi => hi.1).trans ((((KeptP.refl _ _).alloc _).grown hgrow (fun k hk h => h.2 hk.symm)).setCell (fun h => h.1 rfl) _)) g3 g1 (by omega))
  have HR := Lib.hid hr
  obtain ⟨ao, n', cap', hv'⟩ : ∃ ao n' cap', v' = .slice ao n' cap' := by
    rcases hown'.2 with ⟨hv, _⟩ | ⟨g, cap, cur, hv, _⟩
    · exact ⟨_, _, _, hv⟩
    · exact ⟨_, _, _, hv⟩
  subst hv'
  clear hB hk hs1 hblk hr hown' hgrow hb2 h hlt hlen
  go_wp2_with (at_builtin; refine wpList_run_append HR.out rfl _ _ rfl rfl rfl rfl ?_)
  go_ret
  exact ⟨rfl, _, N.out⟩
theorem BJ.string {B b : Nat} {w wr : World} {v : Value} {bs : List UInt8} (h : BJ B b w wr v bs) (h0 : bs ≠ []) :
    Calls Tryd.prog 76 #[.pointer (some ⟨b, 0, none⟩)] wr fun e w' => e = .returned (.string (strOf bs)) ∧ Below B w w' := by
  obtain ⟨⟨p, hp, hB0⟩, hv0, hbel, hbb, -⟩ := h
  refine (bString_any B b wr p v bs h0 hB0 hv0).mono ?_
  rintro e w' ⟨rfl, hb⟩
  exact ⟨rfl, hbel.trans hb⟩
set_option maxHeartbeats 1000000 in
/-- A builder that nothing was written to. -/
theorem bString_none (b : Nat) (w : World) (p : Value) (h : Bld b w p (.slice none 0 0) []) :
    Calls Tryd.prog 76 #[.pointer (some ⟨b, 0, none⟩)] w fun e w' => e = .returned (.string (strOf [])) ∧ Below w.heap.size w w' := by
  have c1 : w.drew.cell? ⟨b, 1, none⟩ = some (.slice none 0 0) := by
    have : w.drew.heap[b]? = some (.cells #[p, .slice none 0 0] 125 (0, 0)) := h.1
    rw [Lib.cell_of_heap this]; rfl
  have hSD : (Builtin.unsafeSliceData_ #[59] 167 #[.slice none 0 0]).run Tryd.prog w.drew = .ok (.pointer none) w.drew := Lib.run_unsafeSliceData_nil _ _ _ _ _
  have hUS : (Builtin.unsafeString_ #[167, 3] 9 #[.pointer none, .int .i64 0]).run Tryd.prog w.drew = .ok (.string (strOf [])) w.drew := Lib.run_unsafeString_none _ _ _ _ _
  have N : Hid (Below w.heap.size w w.drew) := (Below.refl _ _).drew
  clear h
  go_enter Tryd.func76, Tryd.ntmps76
  go_wp2
  go_region
  all_goals (go_wp2; go_ret; exact ⟨rfl, N.out⟩)

/-! ### Slices of strings -/
def StrsP (P : Nat → Prop) (w : World) (A : Option Addr) (ss : List ByteArray) : Prop :=
  ss = [] ∨ ∃ b off, A = some ⟨b, off, none⟩ ∧ P b ∧ ∀ j (h : j < ss.length), w.cell? ⟨b, off + j, none⟩ = some (.string ss[j])
theorem StrsP.at_ {P : Nat → Prop} {w : World} {A : Option Addr} {ss : List ByteArray} (h : StrsP P w A ss) {k : Nat} (hk : k < ss.length) : ∃ b off, A = some ⟨b, off, none⟩ ∧ w.cell? ⟨b, off + k, none⟩ = some (.string ss[k]) := by
  rcases h with rfl | ⟨b, off, rfl, _, hc⟩
  · simp at hk
  · exact ⟨b, off, rfl, hc k hk⟩
theorem StrsP.mono {P Q : Nat → Prop} {w : World} {A : Option Addr} {ss : List ByteArray} (h : StrsP P w A ss) (hPQ : ∀ i, i < w.heap.size → P i → Q i) : StrsP Q w A ss := by
  by_cases hx : ss = []
  · exact .inl hx
  · rcases h with rfl | ⟨b, off, rfl, hp, hc⟩
    · exact .inl rfl
    · exact .inr ⟨b, off, rfl, hPQ b (World.block_lt_of_cell? w _ (hc 0 (List.length_pos_iff.2 hx))) hp, hc⟩
theorem StrsP.blocks {P : Nat → Prop} {w w' : World} {A : Option Addr} {ss : List ByteArray} (h : StrsP P w A ss) (hk : ∀ i, i < w.heap.size → P i → w'.heap[i]? = w.heap[i]?) : StrsP P w' A ss := by
  rcases h with rfl | ⟨b, off, rfl, hp, hc⟩
  · exact .inl rfl
  · refine .inr ⟨b, off, rfl, hp, fun j hj => ?_⟩
    exact (World.cell?_of_block (w := w) (hk b (World.block_lt_of_cell? w _ (hc j hj)) hp)).trans (hc j hj)
theorem StrsP.below {P : Nat → Prop} {w w' : World} {A : Option Addr} {ss : List ByteArray} (h : StrsP P w A ss) (hb : Below w.heap.size w w') : StrsP P w' A ss := h.blocks fun i hi _ => hb.block i hi
def joinS (ss : List ByteArray) : List UInt8 := joinL (ss.map fun s => s.data.toList)
theorem joinS_take (ss : List ByteArray) (k : Nat) (h : k < ss.length) : joinS (ss.take (k + 1)) = joinS (ss.take k) ++ ss[k].data.toList ++ [10] := by
  unfold joinS
  rw [List.map_take, joinL_take _ k (by simpa using h), List.map_take, List.append_assoc]
  simp
theorem joinS_le (ss : List ByteArray) (k : Nat) : (joinS (ss.take k)).length ≤ (joinS ss).length := by
  unfold joinS
  rw [List.map_take]
  exact joinL_le _ k
theorem joinS_ne (ss : List ByteArray) (h : 0 < ss.length) : joinS ss ≠ [] := by
  cases ss with
  | nil => simp at h
  | cons s t => unfold joinS; rw [List.map_cons, joinL_cons]; simp
set_option maxHeartbeats 2000000 in
theorem join_any (P : Nat → Prop) (A : Option Addr) (cap : Nat) (ss : List ByteArray) (hl : ss.length ≤ maxLen) (hlen : (joinS ss).length ≤ 140737488355328) (w : World) (hX : StrsP P w A ss) :
    Calls Tryd.prog 37 #[.slice A ss.length cap] w fun e w' => e = .returned (.string (strOf (joinS ss))) ∧ Below w.heap.size w w' := by
  unfold maxLen at hl
  have X := Lib.hid (hX.mono (Q := fun i => i < w.heap.size) fun i hi _ => hi)
  have HL := Lib.hid hlen
  clear hX hlen
  go_enter Tryd.func37, Tryd.ntmps37
  go_wp2
  go_loopw [8] (fun i wr => ∃ (k : Nat), k ≤ ss.length ∧ i = .int .i64 k ∧ Hid (∃ v, BJ w.heap.size w.heap.size w wr v (joinS (ss.take k)) ∧ (k = 0 → v = .slice none 0 0))) (fun i _ => ss.length - (intOf i).toNat)
  case atStart => exact ⟨0, Nat.zero_le _, rfl, _, BJ.start w, fun _ => rfl⟩
  case round =>
    obtain ⟨k, hk, rfl, G⟩ := hrel
    by_cases hlt : k < ss.length
    · obtain ⟨v, hB, -⟩ := G.out
      obtain ⟨g, off, hA, g0⟩ := (X.out.blocks fun i hi hp => hB.below.block i hp).at_ hlt
      subst hA
      have T := joinS_take ss k hlt
      have L1 := joinS_le ss (k + 1)
      have L2 := HL.out
      rw [T, List.length_append, List.length_append, List.length_singleton] at L1
      have es : ss[k].data.toList.length = ss[k].size := by simp
      have hws := hB.str ss[k] (by omega)
      obtain ⟨s, hs⟩ : ∃ s, ss[k] = s := ⟨_, rfl⟩
      rw [hs] at g0 hws T es L1
      have TT := Lib.hid T
      have LL : Hid ((joinS (ss.take k) ++ s.data.toList).length + 1 ≤ 140737488355328) := by show _ ≤ _; rw [List.length_append]; omega
      clear hs T L1 L2 es hB G
      go_wp2_with fail
      refine hws.mono ?_
      rintro e w1 ⟨rfl, v1, hB1⟩
      have hwb := hB1.byte 10 10 rfl LL.out
      clear hws hB1
      go_wp2_with fail
      refine hwb.mono ?_
      rintro e w2 ⟨rfl, v2, hB2⟩
      have N : Hid (∃ v, BJ w.heap.size w.heap.size w w2 v (joinS (ss.take (k + 1))) ∧ (k + 1 = 0 → v = .slice none 0 0)) := ⟨v2, by rw [TT.out]; exact hB2, fun h => absurd h (Nat.succ_ne_zero _)⟩
      clear hwb hB2
      go_wp2
      go_roundw
      case rel => exact ⟨k + 1, by omega, by go_num, N.out⟩
      case measure => simp [intOf]; omega
    · obtain ⟨v, hB, h0⟩ := G.out
      have hst : Calls Tryd.prog 76 #[.pointer (some ⟨w.heap.size, 0, none⟩)] wr fun e w' => e = .returned (.string (strOf (joinS ss))) ∧ Below w.heap.size w w' := by
        rw [List.take_of_length_le (by omega)] at hB
        by_cases hz : ss.length = 0
        · obtain rfl := List.eq_nil_of_length_eq_zero hz
          obtain rfl := h0 (by simp at hk; omega)
          obtain ⟨⟨p, -, hb⟩, -, hbel, -, -⟩ := hB
          refine (bString_none _ wr p hb).mono ?_
          rintro e w' ⟨rfl, hb'⟩
          exact ⟨rfl, hbel.trans (hb'.mono hbel.size)⟩
        · exact hB.string (joinS_ne ss (by omega))
      clear hB h0 G
      go_wp2_with fail
      refine hst.mono ?_
      rintro e w1 ⟨rfl, hb⟩
      have N := Lib.hid hb
      clear hst hb
      go_wp2
      go_ret
      exact ⟨rfl, N.out⟩
end Go.Proofs.YtmeegpdjhcilkaaDoor
/-
  What the rounds of a loop keep for an iterator: blocks by their number or their make; rows of runs and of records, and their bytes, across rounds; the runs of an image or of none; the walk over hexwrite.records.
-/
namespace Go.Proofs.YtmeegpdjhcilkaaDoor
open Go.RowKit
set_option linter.unusedVariables false

/-! ### What is kept -/
structure KeptO (Q : Nat → Obj → Prop) (w w' : World) : Prop where
  os : w'.os = w.os
  tape : w'.tape = w.tape
  output : w'.output = w.output
  size : w.heap.size ≤ w'.heap.size
  block : ∀ i o, w.heap[i]? = some o → Q i o → w'.heap[i]? = some o
theorem KeptO.refl (Q : Nat → Obj → Prop) (w : World) : KeptO Q w w := ⟨rfl, rfl, rfl, Nat.le_refl _, fun _ _ h _ => h⟩
theorem KeptO.trans {Q : Nat → Obj → Prop} {w w1 w2 : World} (h : KeptO Q w w1) (k : KeptO Q w1 w2) : KeptO Q w w2 :=
  ⟨k.os.trans h.os, k.tape.trans h.tape, k.output.trans h.output, Nat.le_trans h.size k.size, fun i o hi hq => k.block i o (h.block i o hi hq) hq⟩
theorem KeptO.of_all {Q : Nat → Obj → Prop} {w w' : World} (h : Below w.heap.size w w') : KeptO Q w w' :=
  ⟨h.os, h.tape, h.output, h.size, fun i o hi _ => (h.block i (Array.getElem?_eq_some_iff.1 hi).1).trans hi⟩
theorem KeptO.grown {Q : Nat → Obj → Prop} {w w' : World} {row : Option Nat} (h : w.grownBy w' row) (hr : ∀ k o, row = some k → w.heap[k]? = some o → ¬ Q k o) : KeptO Q w w' :=
  ⟨h.os, h.tape, h.output, h.size, fun i o hi hq => (h.block i (Array.getElem?_eq_some_iff.1 hi).1 fun e => hr i o e.symm hi hq).trans hi⟩
theorem KeptO.alloc {Q : Nat → Obj → Prop} (w : World) (o : Obj) : KeptO Q w (w.alloc o) := KeptO.of_all ((Below.refl _ _).alloc (Nat.le_refl _) _)
theorem KeptO.putObj {Q : Nat → Obj → Prop} (W : World) (l : Nat) (o o' : Obj) (hl : W.heap[l]? = some o) (h : ¬ Q l o) : KeptO Q W (W.putObj l o') :=
  KeptO.grown (grownBy_putObj' W l o') fun k x e hx => by cases e; rw [hl] at hx; cases hx; exact h
/-- The blocks that hold the iterator's rows. -/
def rowT (o : Obj) : Prop := ∃ cs t fr, o = .cells cs t fr ∧ (t = 5 ∨ t = 91 ∨ t = 78)
theorem rowT_cells {o : Obj} (h : o.isCells = false) : ¬ rowT o := by
  rintro ⟨cs, t, fr, rfl, _⟩
  cases h

/-! ### Bytes in a block of bytes -/
def BytesT (w : World) (A : Option Addr) (xs : List UInt8) : Prop :=
  xs = [] ∨ ∃ b off cs, A = some ⟨b, off, none⟩ ∧ w.heap[b]? = some (.cells cs 5 (0, 0)) ∧ ∀ j (h : j < xs.length), cs[off + j]? = some (.int .u8 (xs[j].toNat : Int))
theorem BytesT.toP {w : World} {A : Option Addr} {xs : List UInt8} (h : BytesT w A xs) : BytesP (fun i => i < w.heap.size) w A xs := by
  rcases h with h | ⟨b, off, cs, h1, h2, h3⟩
  · exact .inl h
  · exact .inr ⟨b, off, h1, (Array.getElem?_eq_some_iff.1 h2).1, fun j hj => (Lib.cell_of_heap h2 (off + j)).trans (h3 j hj)⟩
theorem BytesT.keptO {Q : Nat → Obj → Prop} (hQ : ∀ i o, rowT o → Q i o) {w w' : World} {A : Option Addr} {xs : List UInt8} (h : BytesT w A xs) (k : KeptO Q w w') : BytesT w' A xs := by
  rcases h with h | ⟨b, off, cs, h1, h2, h3⟩
  · exact .inl h
  · exact .inr ⟨b, off, cs, h1, k.block b _ h2 (hQ b _ ⟨cs, _, _, rfl, .inl rfl⟩), h3⟩
theorem bytesT_of {P : Nat → Prop} {w : World} {A : Option Addr} {xs : List UInt8} (hb : BytesP P w A xs) (hw : xs = [] ∨ ∃ (b off : Nat) (cs : Array Value) (t : {t : TypeId // t = 5}), A = some ⟨b, off, none⟩ ∧ w.heap[b]? = some (.cells cs t.1 (0, 0))) : BytesT w A xs := by
  rcases hw with h | ⟨b, off, cs, ⟨t, rfl⟩, h1, h2⟩
  · exact .inl h
  · rcases hb with h | ⟨b', off', h3, _, h4⟩
    · exact .inl h
    · rw [h1] at h3
      simp only [Option.some.injEq, Addr.mk.injEq, and_true] at h3
      obtain ⟨rfl, rfl⟩ := h3
      exact .inr ⟨b, off, cs, h1, h2, fun j hj => (Lib.cell_of_heap h2 (off + j)).symm.trans (h4 j hj)⟩

/-! ### Rows -/
theorem ownsRow_keptO {Q : Nat → Obj → Prop} {w w' : World} {e : TypeId} {n₀ s k : Nat} {v : Value} {xs : List Value} (hQ : ∀ i cs, Q i (.cells cs e (0, 0))) (h : w.ownsRow n₀ e s v k xs) (hk : KeptO Q w w') : w'.ownsRow n₀ e s v k xs := by
  rcases h.2 with ⟨h1, h0⟩ | ⟨g, cap, cur, rfl, hb, hg, hr⟩
  · exact ⟨h.1, .inl ⟨h1, h0⟩⟩
  · exact ⟨h.1, .inr ⟨g, cap, cur, rfl, hb, hk.block g _ hg (hQ g cur), hr⟩⟩
theorem ownsRow_zero {w : World} {e : TypeId} {n₀ s k : Nat} {v : Value} {xs : List Value} (h : w.ownsRow n₀ e s v k xs) : w.ownsRow 0 e s v k xs := by
  rcases h.2 with ⟨h1, h0⟩ | ⟨g, cap, cur, rfl, hb, hg, hr⟩
  · exact ⟨h.1, .inl ⟨h1, h0⟩⟩
  · exact ⟨h.1, .inr ⟨g, cap, cur, rfl, Nat.zero_le _, hg, hr⟩⟩
/-- v is a row of runs. -/
def RunT (w : World) (v : Value) (rs : List Im.R) : Prop := w.ownsRow 0 91 2 v rs.length (Im.runsV rs) ∧ ∀ r ∈ rs, BytesT w r.A r.data ∧ r.data.length ≤ r.cap
theorem RunT.keptO {Q : Nat → Obj → Prop} (hQ : ∀ i o, rowT o → Q i o) {w w' : World} {v : Value} {rs : List Im.R} (h : RunT w v rs) (k : KeptO Q w w') : RunT w' v rs :=
  ⟨ownsRow_keptO (fun i cs => hQ i _ ⟨cs, _, _, rfl, .inr (.inl rfl)⟩) h.1 k, fun r hr => ⟨(h.2 r hr).1.keptO hQ k, (h.2 r hr).2⟩⟩
theorem RunT.below {w w' : World} {v : Value} {rs : List Im.R} (h : RunT w v rs) (k : Below w.heap.size w w') : RunT w' v rs := h.keptO (Q := fun _ _ => True) (fun _ _ _ => trivial) (KeptO.of_all k)
theorem RunT.val {w : World} {v : Value} {rs : List Im.R} (h : RunT w v rs) : ∃ A cap, v = .slice A rs.length cap := by
  rcases h.1.2 with ⟨h1, h0⟩ | ⟨g, cap, cur, rfl, _⟩
  · exact ⟨none, 0, by rw [h1, h0]⟩
  · exact ⟨_, cap, rfl⟩
theorem RunT.at_ {w : World} {v : Value} {rs : List Im.R} (h : RunT w v rs) {k : Nat} (hk : k < rs.length) : ∃ g cap, v = .slice (some ⟨g, 0, none⟩) rs.length cap ∧
    w.cell? ⟨g, k * 2, none⟩ = some (.int .i64 rs[k].addr) ∧ w.cell? ⟨g, k * 2 + 1, none⟩ = some (.slice rs[k].A rs[k].data.length rs[k].cap) := by
  rcases h.1.2 with ⟨_, h0⟩ | ⟨g, cap, cur, rfl, hb, hg, _⟩
  · omega
  · obtain ⟨h1, h2⟩ := Im.runsV_get rs k hk
    exact ⟨g, cap, rfl, (h.1.cellAt (k * 2) (by omega)).trans h1, (h.1.cellAt (k * 2 + 1) (by omega)).trans h2⟩
/-- v is a row of data records. -/
def RecT (w : World) (v : Value) (rs : List R) : Prop := w.ownsRow 0 78 3 v rs.length (runsV rs) ∧ ∀ r ∈ rs, BytesT w r.A r.data
theorem RecT.keptO {Q : Nat → Obj → Prop} (hQ : ∀ i o, rowT o → Q i o) {w w' : World} {v : Value} {rs : List R} (h : RecT w v rs) (k : KeptO Q w w') : RecT w' v rs :=
  ⟨ownsRow_keptO (fun i cs => hQ i _ ⟨cs, _, _, rfl, .inr (.inr rfl)⟩) h.1 k, fun r hr => (h.2 r hr).keptO hQ k⟩
theorem RecT.below {w w' : World} {v : Value} {rs : List R} (h : RecT w v rs) (k : Below w.heap.size w w') : RecT w' v rs := h.keptO (Q := fun _ _ => True) (fun _ _ _ => trivial) (KeptO.of_all k)
theorem RecT.val {w : World} {v : Value} {rs : List R} (h : RecT w v rs) : ∃ A cap, v = .slice A rs.length cap := by
  rcases h.1.2 with ⟨h1, h0⟩ | ⟨g, cap, cur, rfl, _⟩
  · exact ⟨none, 0, by rw [h1, h0]⟩
  · exact ⟨_, cap, rfl⟩
theorem RecT.at_ {w : World} {v : Value} {rs : List R} (h : RecT w v rs) {k : Nat} (hk : k < rs.length) : ∃ g cap, v = .slice (some ⟨g, 0, none⟩) rs.length cap ∧
    w.cell? ⟨g, k * 3, none⟩ = some (.int .i64 0) ∧ w.cell? ⟨g, k * 3 + 1, none⟩ = some (.int .i64 rs[k].addr) ∧ w.cell? ⟨g, k * 3 + 2, none⟩ = some (.slice rs[k].A rs[k].data.length rs[k].cap) := by
  rcases h.1.2 with ⟨_, h0⟩ | ⟨g, cap, cur, rfl, hb, hg, _⟩
  · omega
  · obtain ⟨h1, h2, h3⟩ := runsV_get rs k hk
    exact ⟨g, cap, rfl, (h.1.cellAt (k * 3) (by omega)).trans h1, (h.1.cellAt (k * 3 + 1) (by omega)).trans h2, (h.1.cellAt (k * 3 + 2) (by omega)).trans h3⟩
theorem recT_of {n₀ : Nat} {P : Nat → Prop} {w : World} {v : Value} {rs : List R} (h : OwnR 78 n₀ P w v rs) (hw : ∀ r ∈ rs, Wr w r.A r.data) : RecT w v rs :=
  ⟨ownsRow_zero h.1, fun r hr => bytesT_of (h.2 r hr) (hw r hr)⟩

/-! ### The runs of an image, or of none -/
/-- m is an image of V, or nil. -/
def ImgM (w : World) (m : Value) (V : List Im.Cel) : Prop := (m = .pointer none ∧ V = []) ∨ ∃ b, m = .pointer (some ⟨b, 0, none⟩) ∧ Im.ImgOf w b V
theorem ImgM.below {w w' : World} {m : Value} {V : List Im.Cel} (h : ImgM w m V) (k : Below w.heap.size w w') : ImgM w' m V := by
  rcases h with h | ⟨b, h1, h2⟩
  · exact .inl h
  · exact .inr ⟨b, h1, h2.below k⟩
theorem ImgM.sorted {w : World} {m : Value} {V : List Im.Cel} (h : ImgM w m V) : Im.SortedW V := by
  rcases h with ⟨_, rfl⟩ | ⟨b, _, h2⟩
  · exact Im.sorted_nil
  · exact h2.1
theorem runsM_any (m : Value) (V : List Im.Cel) (w : World) (h : ImgM w m V) :
    Calls Tryd.prog 39 #[m] w fun e w' => ∃ v rs, e = .returned v ∧ RunT w' v rs ∧ Im.pairs rs = Im.pairN (Im.runsW V) ∧ Below w.heap.size w w' := by
  rcases h with ⟨rfl, rfl⟩ | ⟨b, rfl, h⟩
  · refine (Im.runsNil_any w).mono ?_
    rintro e w' ⟨rfl, rfl⟩
    exact ⟨_, [], rfl, ⟨World.ownsRow_nil _ _ _ _, fun r hr => absurd hr List.not_mem_nil⟩, rfl, Below.refl _ _⟩
  · refine (Im.runsW_any b V w h).mono ?_
    rintro e w' ⟨v, rs, rfl, hO, hp, hw⟩
    exact ⟨v, rs, rfl, ⟨ownsRow_zero hO.1, fun r hr => ⟨bytesT_of (P := fun i => w.heap.size ≤ i ∧ some i ≠ v.ownBlock) (hO.2.2 r hr) (hw r hr).1, (hw r hr).2⟩⟩, hp, hO.2.1⟩

theorem pairsN_at {rs : List Im.R} {l : List Im.Rn} (h : Im.pairs rs = Im.pairN l) {k : Nat} (hk : k < rs.length) : ∃ hl : k < l.length, rs[k].addr = (l[k].1 : Int) ∧ rs[k].data = l[k].2 := Im.pairs_get h k hk
set_option maxHeartbeats 1000000 in
theorem records_any (s : Int) (m : Value) (hm : m = .pointer none ∨ ∃ b, m = .pointer (some ⟨b, 0, none⟩)) (w : World) (n : Nat) (hn : w.heap.size = n) :
    Calls Tryd.prog 35 #[.int .i64 s, m] w fun e w' => e = .returned (.func (.func 67) #[] #[.pointer (some ⟨n + 1, 0, none⟩), .pointer (some ⟨n, 0, none⟩)]) ∧ (w.alloc (.cells #[.int .i64 s] 3)).alloc (.cells #[m] 23) = w' := by
  subst hn
  have hmf : ∀ (fn : Fn) (first cap : Array Value) (w : World), (Instr.makeFunc fn first cap).run Tryd.prog w = .ok (.func fn first cap) w := fun _ _ _ _ => rfl
  rcases hm with rfl | ⟨b, rfl⟩
  all_goals
    go_enter Tryd.func35, Tryd.ntmps35
    go_wp2
    go_ret
    exact ⟨rfl, rfl⟩
end Go.Proofs.YtmeegpdjhcilkaaDoor
