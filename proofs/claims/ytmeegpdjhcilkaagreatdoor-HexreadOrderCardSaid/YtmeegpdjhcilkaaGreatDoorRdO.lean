/-
  A written text whose records stand in the other order, some lines in small letters, with a byte 13 and a blank line behind them, is read to the same cells. No program.
-/
import Derived.Test.YtmeegpdjhcilkaaGreatDoorRdN
namespace Go.Proofs.YtmeegpdjhcilkaaGreatDoor
open Go.RowKit
set_option linter.unusedVariables false
theorem linesOf_lf (x t : List UInt8) : linesOf (x ++ 10 :: t) = linesOf x ++ linesOf t := by
  obtain ⟨l, u, h1, h2, h3, h4⟩ := lines_last x
  rw [h1, h2, List.append_assoc, linesOf_join h3, linesOf_cons h4]
  simp
/-- Lines with a line feed between them. -/
def interL : List (List UInt8) → List UInt8
  | [] => []
  | [x] => x
  | x :: y :: t => x ++ 10 :: interL (y :: t)
theorem linesOf_inter : ∀ (l : List (List UInt8)), l ≠ [] → linesOf (interL l) = l.flatMap linesOf
  | [], h => absurd rfl h
  | [x], _ => by simp [interL]
  | x :: y :: t, _ => by
    show linesOf (x ++ 10 :: interL (y :: t)) = _
    rw [linesOf_lf, linesOf_inter (y :: t) (by simp)]
    simp only [List.flatMap_cons]
theorem interL_snoc : ∀ (l : List (List UInt8)) (x : List UInt8), l ≠ [] → interL (l ++ [x]) = interL l ++ 10 :: x
  | [], _, h => absurd rfl h
  | [y], x, _ => by simp [interL]
  | y :: z :: t, x, _ => by
    show y ++ 10 :: interL ((z :: t) ++ [x]) = (y ++ 10 :: interL (z :: t)) ++ 10 :: x
    rw [interL_snoc (z :: t) x (by simp)]
    simp
theorem interL_length : ∀ (l : List (List UInt8)) (b : Nat), (∀ x ∈ l, x.length ≤ b) → (interL l).length ≤ l.length * (b + 1)
  | [], b, _ => by simp [interL]
  | [x], b, h => by have := h x (by simp); simp [interL]; omega
  | x :: y :: t, b, h => by
    have h1 := h x (by simp)
    have h2 := interL_length (y :: t) b fun z hz => h z (by simp [hz])
    show (x ++ 10 :: interL (y :: t)).length ≤ _
    rw [List.length_append, List.length_cons]
    rw [List.length_cons, Nat.succ_mul]
    omega
/-- A line as the law may turn it. -/
def tw (b : Bool) (x : List UInt8) : List UInt8 := if b then lowT x ++ [13, 10, 32, 9] else x
theorem low_noLf {x : List UInt8} (h : ∀ c ∈ x, LnC c) : NoLf (lowT x) := by
  intro c hc
  obtain ⟨d, hd, rfl⟩ := List.mem_map.1 hc
  intro e
  have h1 := lowC_nat d
  rw [e] at h1
  have h2 : ((10 : UInt8).toNat : Int) = 10 := rfl
  rw [h2] at h1
  unfold lowI at h1
  rcases h d hd with h | h | h <;> split at h1 <;> omega
theorem linesOf_tw (b : Bool) {x : List UInt8} (hx : ∀ c ∈ x, LnC c) (hn : NoLf x) : linesOf (tw b x) = if b then [lowT x ++ [13], [32, 9]] else [x] := by
  unfold tw
  cases b
  · exact linesOf_noLf hn
  · have e : lowT x ++ [13, 10, 32, 9] = (lowT x ++ [13]) ++ 10 :: [32, 9] := by simp
    have h13 : NoLf (lowT x ++ [13]) := by
      intro c hc
      rcases List.mem_append.1 hc with hc | hc
      · exact low_noLf hx c hc
      · simp at hc; subst hc; decide
    rw [if_pos rfl, if_pos rfl, e, linesOf_cons h13, linesOf_noLf (x := [32, 9]) (by intro c hc; simp at hc; rcases hc with rfl | rfl <;> decide)]
/-- The lines, each turned or not. -/
def twL (c : Nat → Bool) : Nat → List (List UInt8) → List (List UInt8)
  | _, [] => []
  | j, x :: t => tw (c j) x :: twL c (j + 1) t
theorem twL_length (c : Nat → Bool) (j : Nat) (l : List (List UInt8)) : (twL c j l).length = l.length := by
  induction l generalizing j with
  | nil => rfl
  | cons x t ih => simp [twL, ih]
theorem twL_append (c : Nat → Bool) (j : Nat) (l m : List (List UInt8)) : twL c j (l ++ m) = twL c j l ++ twL c (j + l.length) m := by
  induction l generalizing j with
  | nil => rfl
  | cons x t ih =>
    simp only [List.cons_append, twL, ih, List.length_cons]
    rw [show j + 1 + t.length = j + (t.length + 1) by omega]
theorem twL_get (c : Nat → Bool) (j : Nat) (l : List (List UInt8)) (i : Nat) (h : i < l.length) : (twL c j l)[i]'(by rw [twL_length]; exact h) = tw (c (j + i)) l[i] := by
  induction l generalizing j i with
  | nil => exact absurd h (Nat.not_lt_zero _)
  | cons x t ih =>
    cases i with
    | zero => rfl
    | succ i =>
      simp only [twL, List.getElem_cons_succ]
      rw [ih (j + 1) i (by simpa using h), show j + 1 + i = j + (i + 1) by omega]
/-- The pieces of a list of records' lines. -/
def pcsL (c : Nat → Bool) : Nat → List (Int × List UInt8) → List ((Int × List UInt8) × List (List UInt8))
  | _, [] => []
  | j, p :: t => (p, linesOf (tw (c j) (lineB p))) :: pcsL c (j + 1) t
theorem pcsL_flat (c : Nat → Bool) (j : Nat) (l : List (Int × List UInt8)) : (pcsL c j l).flatMap (·.2) = (twL c j (l.map lineB)).flatMap linesOf := by
  induction l generalizing j with
  | nil => rfl
  | cons p t ih => simp only [pcsL, List.map_cons, twL, List.flatMap_cons, ih]
theorem pcsL_map (c : Nat → Bool) (j : Nat) (l : List (Int × List UInt8)) : (pcsL c j l).map (fun z => toR z.1) = l.map toR := by
  induction l generalizing j with
  | nil => rfl
  | cons p t ih => simp only [pcsL, List.map_cons, ih]
theorem pcsL_ok (c : Nat → Bool) (j : Nat) (l : List (Int × List UInt8)) (h : ∀ p ∈ l, rightB 0 p.1 p.2.length = true) : ∀ z ∈ pcsL c j l, Pc z := by
  induction l generalizing j with
  | nil => intro z hz; cases hz
  | cons p t ih =>
    intro z hz
    rcases List.mem_cons.1 hz with rfl | hz
    · have hp := h p (by simp)
      have e := linesOf_tw (c j) (print_c 0 p.1 p.2) (print_noLf 0 p.1 p.2)
      unfold Pc
      show ∃ x bs, linesOf (tw (c j) (lineB p)) = x :: bs ∧ _
      rw [show lineB p = printL 0 p.1 p.2 from rfl, e]
      cases c j
      · exact ⟨_, [], rfl, line_is hp _ (.inl rfl), fun b hb => by cases hb⟩
      · exact ⟨_, [[32, 9]], rfl, line_is hp _ (.inr rfl), fun b hb => by simp at hb; subst hb; rfl⟩
    · exact ih (j + 1) (fun q hq => h q (by simp [hq])) z hz
/-- The lines that the law hands to Join. -/
def ordL (V : List Im.Cel) : List (List UInt8) := (recsW 16 V).reverse.map lineB ++ [printL 1 0 [], []]
theorem read_order {V : List Im.Cel} (hV : Im.SortedW V) (c : Nat → Bool) : readT (interL (twL c 0 (ordL V))) = (V, 0, 0) := by
  have hne : twL c 0 (ordL V) ≠ [] := by
    intro e
    have h := twL_length c 0 (ordL V)
    rw [e] at h
    unfold ordL at h
    simp at h
  unfold readT
  rw [linesOf_inter _ hne]
  unfold ordL
  have hr := recs_right (s := 16) (by omega) (by omega) hV
  have ho := of_recs (s := 16) (by omega) (by omega) hV
  obtain ⟨l, hl⟩ : ∃ l, recsW 16 V = l := ⟨_, rfl⟩
  simp only [hl] at hr ho ⊢
  have ho2 : Im.ofW [] (l.reverse.map toR) = (V, 0) := by
    rw [List.map_reverse]
    have h := Im.of_reverse (l.map toR)
    rw [ho] at h
    have h1 := h.1.2 rfl
    have h2 := h.2 rfl
    exact Prod.ext h2 h1
  rw [twL_append, List.flatMap_append, ← pcsL_flat, readL_pcs (V' := V) (pcsL_ok c 0 _ fun p hp => hr p (List.mem_reverse.1 hp)) (by rw [pcsL_map]; exact ho2)]
  obtain ⟨j, hj⟩ : ∃ j, 0 + (l.reverse.map lineB).length = j := ⟨_, rfl⟩
  obtain ⟨n, hn⟩ : ∃ n, 0 + ((pcsL c 0 l.reverse).flatMap (·.2)).length = n := ⟨_, rfl⟩
  rw [hj, hn]
  show readL n V false (linesOf (tw (c j) (printL 1 0 [])) ++ (linesOf (tw (c (j + 1)) []) ++ [])) = _
  rw [List.append_nil, linesOf_tw (c j) (print_c 1 0 []) (print_noLf 1 0 []), linesOf_tw (c (j + 1)) (x := []) (fun c hc => by cases hc) (fun c hc => by cases hc)]
  have hb : ∀ x ∈ (if c (j + 1) = true then [lowT [] ++ [13], [32, 9]] else [([] : List UInt8)]), lnBlank x = true := by
    intro x hx
    split at hx
    · simp at hx
      rcases hx with rfl | rfl
      · rfl
      · rfl
    · simp at hx; subst hx; rfl
  cases c j
  · rw [if_neg (by decide), List.singleton_append, readL_end (end_is _ (.inl rfl)), readL_true hb]
  · rw [if_pos rfl, List.cons_append, readL_end (end_is _ (.inr rfl)), List.singleton_append, readL_blank (by rfl), readL_true hb]
end Go.Proofs.YtmeegpdjhcilkaaGreatDoor
