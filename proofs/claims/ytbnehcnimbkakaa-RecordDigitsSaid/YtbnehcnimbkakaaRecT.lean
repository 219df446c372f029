/-
  A line in which one digit is replaced. No program, but for the row of bytes of a string.
-/
import Derived.Test.YtbnehcnimbkakaaRecS
import Derived.Deep.Cut
namespace Go.Proofs.Ytbnehcnimbkakaa
open Go.RowKit
set_option linter.unusedVariables false

theorem sumI_set (xs : List UInt8) (j : Nat) (h : j < xs.length) (b : UInt8) : sumI (xs.set j b) = sumI xs - (xs[j].toNat : Int) + (b.toNat : Int) := by
  induction xs generalizing j with
  | nil => simp at h
  | cons x t ih =>
    cases j with
    | zero => simp only [List.set_cons_zero, sumI_cons, List.getElem_cons_zero]; omega
    | succ j => simp only [List.set_cons_succ, sumI_cons, List.getElem_cons_succ]; rw [ih j (by simpa using h)]; omega
theorem hexAt_set (l : List UInt8) (k i : Nat) (c : UInt8) (hk : k < l.length) : hexAt (strOf (l.set k c)) i = if i = k then hexV (c.toNat : Int) else hexAt (strOf l) i := by
  rw [hexAt_strOf, hexAt_strOf, List.getD_eq_getElem?_getD, List.getD_eq_getElem?_getD, List.getElem?_set]
  by_cases e : k = i
  · subst e
    rw [if_pos rfl, if_pos rfl, if_pos hk]
    rfl
  · rw [if_neg e, if_neg (fun h => e h.symm)]
theorem hex_at (bs : List UInt8) (j : Nat) (h : j < bs.length) : hexAt (strOf (hexL bs)) (2 * j) = (bs[j].toNat : Int) / 16 ∧ hexAt (strOf (hexL bs)) (2 * j + 1) = (bs[j].toNat : Int) % 16 := by
  obtain ⟨g1, g2⟩ := hexL_get bs j h
  rw [hexAt_strOf, hexAt_strOf, g1, g2, hexU_v _ (digI_bd _ _).1 (digI_bd _ _).2, hexU_v _ (digI_bd _ _).1 (digI_bd _ _).2]
  have := bs[j].toNat_lt
  unfold digI
  simp
  omega
theorem digit_val (bs : List UInt8) (k : Nat) (hk : k < 2 * bs.length) (v : Int) (hne : hexU v ≠ (hexL bs).getD k 0) : v ≠ hexAt (strOf (hexL bs)) k := by
  intro e
  apply hne
  rcases Nat.mod_two_eq_zero_or_one k with h | h
  · have e2 : k = 2 * (k / 2) := by omega
    rw [e2] at e ⊢
    have h1 := (hexL_get bs (k / 2) (by omega)).1
    rw [hexAt_strOf, h1, hexU_v _ (digI_bd _ _).1 (digI_bd _ _).2] at e
    rw [h1, e]
  · have e2 : k = 2 * (k / 2) + 1 := by omega
    rw [e2] at e ⊢
    have h1 := (hexL_get bs (k / 2) (by omega)).2
    rw [hexAt_strOf, h1, hexU_v _ (digI_bd _ _).1 (digI_bd _ _).2] at e
    rw [h1, e]
theorem changed (bs : List UInt8) (k : Nat) (hk : k < 2 * bs.length) (v : Int) (v0 : 0 ≤ v) (v1 : v < 16) (hne : hexU v ≠ (hexL bs).getD k 0) (hz : chkI bs = 0) :
    ¬ (bytesOk (strOf ((hexL bs).set k (hexU v))) = true ∧ chkI (bytesL (strOf ((hexL bs).set k (hexU v)))) = 0) := by
  rintro ⟨h1, h2⟩
  have hv := digit_val bs k hk v hne
  have hl : k < (hexL bs).length := by rw [hexL_length]; exact hk
  have hA := fun i => hexAt_set (hexL bs) k i (hexU v) hl
  rw [hexU_v v v0 v1] at hA
  have hsz : (strOf ((hexL bs).set k (hexU v))).size = 2 * bs.length := by rw [strOf_size, List.length_set, hexL_length]
  obtain ⟨S, hS⟩ : ∃ S, strOf ((hexL bs).set k (hexU v)) = S := ⟨_, rfl⟩
  rw [hS] at h1 h2 hA hsz
  have hpr : ∀ j (hj : j < bs.length), pairI S j = if j = k / 2 then pairI S (k / 2) else (bs[j].toNat : Int) := fun j hj => by
    by_cases e : j = k / 2
    · subst e; rw [if_pos rfl]
    · rw [if_neg e]
      obtain ⟨a1, a2⟩ := hex_at bs j hj
      unfold pairI
      rw [hA, hA, if_neg (by omega), if_neg (by omega), a1, a2]
      omega
  have hj : k / 2 < bs.length := by omega
  obtain ⟨a1, a2⟩ := hex_at bs (k / 2) hj
  have hb := bs[k / 2].toNat_lt
  have hP : pairI S (k / 2) ≠ (bs[k / 2].toNat : Int) ∧ 0 ≤ pairI S (k / 2) ∧ pairI S (k / 2) ≤ 255 := by
    unfold pairI
    rw [hA, hA]
    rcases Nat.mod_two_eq_zero_or_one k with h | h
    · have e2 : 2 * (k / 2) = k := by omega
      rw [if_pos e2, if_neg (by omega), a2]
      rw [← e2, a1] at hv
      omega
    · have e2 : 2 * (k / 2) + 1 = k := by omega
      rw [if_neg (by omega), if_pos e2, a1]
      rw [← e2, a2] at hv
      omega
  have hL : bytesL S = bs.set (k / 2) (lowU (pairI S (k / 2))) := by
    unfold bytesL
    rw [if_pos h1, hsz]
    apply List.ext_getElem (by simp)
    intro j hj1 hj2
    have hjb : j < bs.length := by simpa using hj2
    simp only [List.getElem_map, List.getElem_range]
    rw [hpr j hjb, List.getElem_set]
    by_cases e : j = k / 2
    · rw [if_pos e, if_pos e.symm]
    · rw [if_neg e, if_neg (fun h => e h.symm)]
      apply UInt8.toNat_inj.1
      have := lowU_nat (bs[j].toNat : Int)
      have := bs[j].toNat_lt
      omega
  rw [hL] at h2
  unfold chkI at h2 hz
  rw [sumI_set bs (k / 2) hj] at h2
  have := lowU_nat (pairI S (k / 2))
  omega
/-- The line is not accepted. -/
theorem par_changed (T a : Int) (D : List UInt8) (k : Nat) (hk : k < 2 * (fullB T a D).length) (v : Int) (v0 : 0 ≤ v) (v1 : v < 16) (hne : hexU v ≠ (hexL (fullB T a D)).getD k 0) :
    parCode (⟨#[58]⟩ ++ strOf ((hexL (fullB T a D)).set k (hexU v))) ≠ 0 := by
  intro h
  apply changed (fullB T a D) k hk v v0 v1 hne (chk_full T a D)
  obtain ⟨l1, l2⟩ := line_pre (strOf ((hexL (fullB T a D)).set k (hexU v)))
  unfold parCode at h
  split at h
  · cases h
  · rename_i h1
    split at h
    · cases h
    · split at h
      · cases h
      · rename_i h2 h3
        rw [l2] at h3
        have h4 : linOk (⟨#[58]⟩ ++ strOf ((hexL (fullB T a D)).set k (hexU v))) = true := by simpa using h1
        unfold linOk at h4
        rw [l2] at h4
        simp only [Bool.and_eq_true] at h4
        exact ⟨h4.2.1, by simpa using h3⟩

/-! ### The row of a string's bytes -/
def RowS (n : Nat) (s : ByteArray) (wr : World) : Prop := n < wr.heap.size ∧ (∀ j (h : j < s.size), wr.cell? ⟨n, j, none⟩ = some (.int .u8 (s[j].toNat : Int))) ∧ ∀ j, j < s.size → wr.frozen? ⟨n, j, none⟩ = false
theorem RowS.of {w wr : World} {s : ByteArray} (h : LoRel w s 0 wr) (hs : w.heap.size < wr.heap.size) : RowS w.heap.size s wr := by
  obtain ⟨h1, h2, h3⟩ := h
  exact ⟨hs, fun j hj => by rw [h1 j hj, if_neg (by omega)], h2⟩
theorem RowS.kept {n : Nat} {s : ByteArray} {w w' : World} {P : Nat → Prop} (h : RowS n s w) (k : KeptP P w w') (hP : P n) : RowS n s w' := by
  obtain ⟨h0, h1, h2⟩ := h
  exact ⟨Nat.lt_of_lt_of_le h0 k.size, fun j hj => (k.cell (p := ⟨n, j, none⟩) h0 hP).trans (h1 j hj), fun j hj => (k.frozen (p := ⟨n, j, none⟩) h0 hP).trans (h2 j hj)⟩
/-- The string with a byte replaced. -/
def setS (s : ByteArray) (j : Nat) (c : UInt8) : ByteArray := strOf (s.data.toList.set j c)
theorem setS_size (s : ByteArray) (j : Nat) (c : UInt8) : (setS s j c).size = s.size := by unfold setS; rw [strOf_size, List.length_set]; simp
theorem setS_at (s : ByteArray) (j : Nat) (c : UInt8) (i : Nat) (h : i < s.size) (h' : i < (setS s j c).size) : (setS s j c)[i] = if j = i then c else s[i] := by
  have h1 : (setS s j c)[i] = (setS s j c).data.toList[i]'(by rw [size_list3]; exact h') := rfl
  have h2 : (setS s j c).data.toList = s.data.toList.set j c := by unfold setS strOf; simp
  rw [h1]
  simp only [h2, List.getElem_set]
  rfl
theorem RowS.set {n : Nat} {s : ByteArray} {w : World} (h : RowS n s w) (j : Nat) (c : UInt8) : RowS n (setS s j c) (w.setCell ⟨n, j, none⟩ (.int .u8 (c.toNat : Int))) := by
  obtain ⟨h0, h1, h2⟩ := h
  refine ⟨by simpa [World.setCell] using h0, fun i hi => ?_, fun i hi => ?_⟩
  · rw [setS_size] at hi
    rw [setS_at s j c i hi]
    by_cases e : j = i
    · subst e
      rw [if_pos rfl]
      exact World.cell?_setCell_same _ _ _ (h1 j hi)
    · rw [if_neg e, World.cell?_setCell_other _ _ _ _ (by simp only [ne_eq, Addr.mk.injEq, true_and, and_true]; omega)]
      exact h1 i hi
  · rw [setS_size] at hi
    simp only [World.frozen?_setCell]
    exact h2 i hi
theorem RowS.back {n : Nat} {s : ByteArray} {w : World} (h : RowS n s w) (cap : Nat) : (convert 22 9 (.slice (some ⟨n, 0, none⟩) s.size cap)).run Try.prog w = .ok (.string s) w :=
  Lib.run_convert_whole (P := Try.prog) w 22 5 9 Try.underlying22 Try.underlying5 Try.underlying9 n 0 s (fun i hi => by rw [Nat.zero_add]; exact h.2.1 i hi) cap
end Go.Proofs.Ytbnehcnimbkakaa
