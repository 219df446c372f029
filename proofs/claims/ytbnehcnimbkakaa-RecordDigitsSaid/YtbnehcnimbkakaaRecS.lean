/-
  What Parse makes of the line of a record, also in small letters. No program.
-/
import Derived.Test.YtbnehcnimbkakaaRecN
import Derived.Test.YtbnehcnimbkakaaRecF
import Derived.Test.YtbnehcnimbkakaaRecR
namespace Go.Proofs.Ytbnehcnimbkakaa
open Go.RowKit
set_option linter.unusedVariables false

/-! ### Digits and bytes -/
theorem hexU_val : ∀ x : Fin 16, hexV ((hexU (x.val : Int)).toNat : Int) = (x.val : Int) := by decide +kernel
theorem hexU_v (x : Int) (h0 : 0 ≤ x) (h1 : x < 16) : hexV ((hexU x).toNat : Int) = x := by
  have h := hexU_val ⟨x.toNat, by omega⟩
  have e : ((x.toNat : Nat) : Int) = x := by omega
  simp only [e] at h
  exact h
theorem hexS2_list (n : Int) : (hexS n 2).data.toList = [hexU (digI n 1), hexU (digI n 0)] := by unfold hexS; simp [List.range_succ]
theorem hexL_cons (x : UInt8) (t : List UInt8) : hexL (x :: t) = hexU (digI (x.toNat : Int) 1) :: hexU (digI (x.toNat : Int) 0) :: hexL t := by
  show (hexS (x.toNat : Int) 2).data.toList ++ hexL t = _
  rw [hexS2_list]; rfl
theorem hexL_get (xs : List UInt8) (j : Nat) (h : j < xs.length) : (hexL xs).getD (2 * j) 0 = hexU (digI (xs[j].toNat : Int) 1) ∧ (hexL xs).getD (2 * j + 1) 0 = hexU (digI (xs[j].toNat : Int) 0) := by
  induction xs generalizing j with
  | nil => simp at h
  | cons x t ih =>
    rw [hexL_cons]
    cases j with
    | zero => exact ⟨rfl, rfl⟩
    | succ j =>
      obtain ⟨h1, h2⟩ := ih j (by simpa using h)
      rw [show 2 * (j + 1) = 2 * j + 1 + 1 by omega]
      simp only [List.getD_cons_succ, List.getElem_cons_succ]
      exact ⟨h1, h2⟩
/-- A string whose digits have the values of those of bytes. -/
def DigitsOf (s : ByteArray) (xs : List UInt8) : Prop := s.size = 2 * xs.length ∧ ∀ i, i < s.size → hexAt s i = hexV (((hexL xs).getD i 0).toNat : Int)
theorem pair_of {s : ByteArray} {xs : List UInt8} (h : DigitsOf s xs) (j : Nat) (hj : j < xs.length) : goodP s j ∧ lowU (pairI s j) = xs[j] := by
  obtain ⟨h1, h2⟩ := h
  obtain ⟨g1, g2⟩ := hexL_get xs j hj
  have a := h2 (2 * j) (by omega)
  have b := h2 (2 * j + 1) (by omega)
  rw [g1, hexU_v _ (digI_bd _ _).1 (digI_bd _ _).2] at a
  rw [g2, hexU_v _ (digI_bd _ _).1 (digI_bd _ _).2] at b
  have d1 := digI_bd (xs[j].toNat : Int) 1
  have d0 := digI_bd (xs[j].toNat : Int) 0
  refine ⟨by unfold goodP; rw [a, b]; exact ⟨d1.1, d0.1⟩, ?_⟩
  apply UInt8.toNat_inj.1
  have hl := lowU_nat (pairI s j)
  have e : pairI s j = (xs[j].toNat : Int) := by
    unfold pairI
    rw [a, b]
    have e1 : digI (xs[j].toNat : Int) 1 = (xs[j].toNat : Int) / 16 % 16 := by unfold digI; simp
    have e0 : digI (xs[j].toNat : Int) 0 = (xs[j].toNat : Int) % 16 := by unfold digI; simp
    have := xs[j].toNat_lt
    omega
  have := xs[j].toNat_lt
  omega
theorem bytes_of {s : ByteArray} {xs : List UInt8} (h : DigitsOf s xs) : bytesOk s = true ∧ bytesL s = xs := by
  have hs : s.size / 2 = xs.length := by have := h.1; omega
  obtain ⟨h1, h2⟩ := bytes_good s (by have := h.1; omega) fun j hj => (pair_of h j (by omega)).1
  refine ⟨h1, ?_⟩
  rw [h2, hs]
  apply List.ext_getElem (by simp)
  intro j hj hj2
  simp only [List.getElem_map, List.getElem_range]
  exact (pair_of h j hj2).2
theorem hexAt_strOf (l : List UInt8) (i : Nat) : hexAt (strOf l) i = hexV ((l.getD i 0).toNat : Int) := by unfold hexAt strOf; simp
theorem digits_hex (xs : List UInt8) : DigitsOf (strOf (hexL xs)) xs := ⟨by rw [strOf_size, hexL_length], fun i _ => hexAt_strOf _ i⟩
theorem hexV_lowC (c : UInt8) : hexV ((lowC c).toNat : Int) = hexV (c.toNat : Int) := by
  rw [lowC_nat]
  unfold lowI
  split
  · unfold hexV; split <;> (try split) <;> (try split) <;> (try split) <;> (try split) <;> omega
  · rfl
theorem digits_low {s : ByteArray} {xs : List UInt8} (h : DigitsOf s xs) : DigitsOf (loB s) xs := by
  refine ⟨by rw [loB_size]; exact h.1, fun i hi => ?_⟩
  rw [loB_size] at hi
  rw [← h.2 i hi]
  unfold hexAt
  rw [loB_list, List.getD_eq_getElem?_getD, List.getD_eq_getElem?_getD, List.getElem?_map, List.getElem?_eq_getElem (by simpa using hi)]
  simp only [Option.map_some, Option.getD_some]
  exact hexV_lowC _

/-! ### Lines -/
theorem size_list3 (s : ByteArray) : s.data.toList.length = s.size := by simp
theorem line_size (t : ByteArray) : ((⟨#[58]⟩ : ByteArray) ++ t).size = t.size + 1 := by
  have hd : ((⟨#[58]⟩ : ByteArray) ++ t).data.toList = 58 :: t.data.toList := by rw [append_data]; rfl
  have h1 : ((⟨#[58]⟩ : ByteArray) ++ t).data.toList.length = ((⟨#[58]⟩ : ByteArray) ++ t).size := size_list3 _
  have h2 : t.data.toList.length = t.size := size_list3 _
  rw [hd] at h1
  simp only [List.length_cons] at h1
  omega
theorem line_pre (t : ByteArray) : linPre (⟨#[58]⟩ ++ t) = true ∧ linCut (⟨#[58]⟩ ++ t) = t := by
  have hd : ((⟨#[58]⟩ : ByteArray) ++ t).data.toList = 58 :: t.data.toList := by rw [append_data]; rfl
  have hsz := line_size t
  have hp : linPre (⟨#[58]⟩ ++ t) = true := by
    rw [linPre_iff _ (by omega)]
    have h0 : ((⟨#[58]⟩ : ByteArray) ++ t).data.toList[0]'(by rw [size_list3]; omega) = ((⟨#[58]⟩ : ByteArray) ++ t)[0]'(by omega) := rfl
    rw [← h0]
    simp only [hd]
    rfl
  refine ⟨hp, ?_⟩
  rw [linCut_of hp]
  apply bytes_ext
  rw [Lib.extract_data, hd]
  have h2 : t.data.toList.length = t.size := by simp
  simp only [List.drop_succ_cons, List.drop_zero]
  exact List.take_of_length_le (by omega)
theorem strOf_cons (l : List UInt8) : strOf (58 :: l) = ⟨#[58]⟩ ++ strOf l := by
  apply bytes_ext
  rw [append_data]
  unfold strOf
  simp
/-- The bytes of a record's line. -/
def fullB (T a : Int) (D : List UInt8) : List UInt8 := recB T a D ++ [lowU (chkI (recB T a D))]
theorem fullB_length (T a : Int) (D : List UInt8) : (fullB T a D).length = D.length + 5 := by unfold fullB recB hdrB; simp
theorem chk_full (T a : Int) (D : List UInt8) : chkI (fullB T a D) = 0 := by
  unfold fullB chkI
  rw [sumI_append, sumI_one, lowU_nat]
  omega
theorem full_parts (T a : Int) (D : List UInt8) (h : rightB T a D.length = true) :
    numI ((fullB T a D).take 1) = (D.length : Int) ∧ recT (fullB T a D) = T ∧ recA (fullB T a D) = a ∧ recD (fullB T a D) D.length = D := by
  obtain ⟨r1, r2, r3, r4, r5⟩ : 0 ≤ T ∧ T ≤ 255 ∧ 0 ≤ a ∧ a ≤ 65535 ∧ D.length ≤ 255 := by unfold rightB at h; exact of_decide_eq_true h
  have e : fullB T a D = lowU D.length :: lowU (a / 256) :: lowU a :: lowU T :: (D ++ [lowU (chkI (recB T a D))]) := by unfold fullB recB hdrB; rfl
  have n1 := lowU_nat (D.length : Int)
  have n2 := lowU_nat (a / 256)
  have n3 := lowU_nat a
  have n4 := lowU_nat T
  refine ⟨?_, ?_, ?_, ?_⟩
  · rw [e]; show (0 : Int) * 256 + ((lowU (D.length : Int)).toNat : Int) = _; omega
  · unfold recT; rw [e]; show (0 : Int) * 256 + ((lowU T).toNat : Int) = _; omega
  · unfold recA; rw [e]; show ((0 : Int) * 256 + ((lowU (a / 256)).toNat : Int)) * 256 + ((lowU a).toNat : Int) = _; omega
  · unfold recD; rw [e]
    simp only [List.drop_succ_cons, List.drop_zero]
    rw [List.take_append_of_le_length (Nat.le_refl _), List.take_of_length_le (Nat.le_refl _)]
/-- A line with the digits of a right record. -/
theorem par_line (T a : Int) (D : List UInt8) (h : rightB T a D.length = true) (t : ByteArray) (ht : DigitsOf t (fullB T a D)) :
    parCode (⟨#[58]⟩ ++ t) = 0 ∧ parT (⟨#[58]⟩ ++ t) = T ∧ parA (⟨#[58]⟩ ++ t) = a ∧ parD (⟨#[58]⟩ ++ t) = D := by
  obtain ⟨l1, l2⟩ := line_pre t
  obtain ⟨b1, b2⟩ := bytes_of ht
  obtain ⟨p1, p2, p3, p4⟩ := full_parts T a D h
  have hl := fullB_length T a D
  have hb : bytesL (linCut (⟨#[58]⟩ ++ t)) = fullB T a D := by rw [l2]; exact b2
  have hc : parCode (⟨#[58]⟩ ++ t) = 0 := by
    refine par0 (lin_yes l1 (by rw [l2]; exact b1) (by rw [hb, hl]; omega)) ?_ ?_
    · rw [hb, hl, p1]; omega
    · rw [hb]; exact chk_full T a D
  refine ⟨hc, ?_, ?_, ?_⟩
  · unfold parT; rw [if_pos hc, hb]; exact p2
  · unfold parA; rw [if_pos hc, hb]; exact p3
  · unfold parD; rw [if_pos hc, hb, hl, show D.length + 5 - 5 = D.length by omega]; exact p4
theorem print_line (T a : Int) (D : List UInt8) : strOf (printL T a D) = ⟨#[58]⟩ ++ strOf (hexL (fullB T a D)) := strOf_cons _
end Go.Proofs.Ytbnehcnimbkakaa
