/-
  Valid operands of one kind with the same form are equal; what the form of an operand denotes as a name. No program.
-/
import Derived.Test.YtbcbhdhhinopaaaDoorOpN
import Derived.Test.YtbcbhdhhinopaaaDoorNumL
namespace Go.Proofs.YtbcbhdhhinopaaaDoor
open Go.RowKit
set_option linter.unusedVariables false

theorem ba_list {a b : ByteArray} (h : a.data.toList = b.data.toList) : a = b := by
  apply ByteArray.ext
  exact Array.toList_inj.1 h
theorem textS_inj (n m : Int) (n0 : 0 ≤ n) (n1 : n ≤ 65535) (m0 : 0 ≤ m) (m1 : m ≤ 65535) (h : textS n = textS m) : n = m := by
  have e1 := par_text n n0 n1
  have e2 := par_text m m0 m1
  rw [h, e2] at e1
  exact (Option.some.inj e1).symm
theorem decB_bd {c : Int} (h : decB c = true) : 48 ≤ c ∧ c ≤ 57 := by unfold decB at h; simpa using h
theorem hexU_small : ∀ i : Fin 10, 48 ≤ ((hexU (i.val : Int)).toNat : Int) ∧ ((hexU (i.val : Int)).toNat : Int) ≤ 57 := by decide +kernel
/-- The text of a number begins with a digit. -/
theorem textS_head (n : Int) (h0 : 0 ≤ n) (h1 : n ≤ 65535) : ∃ c t, (textS n).data.toList = c :: t ∧ 48 ≤ (c.toNat : Int) ∧ (c.toNat : Int) ≤ 57 := by
  unfold textS
  rw [if_neg (by omega)]
  split
  · rename_i hs
    refine ⟨hexU n, [], rfl, ?_⟩
    have h := hexU_small ⟨n.toNat, by omega⟩
    have e : ((n.toNat : Nat) : Int) = n := by omega
    simp only [e] at h
    exact h
  · split
    · rename_i hd
      have hp := digS_pos n (by omega) h1
      cases hl : (digS n).data.toList with
      | nil =>
        have h2 : (digS n).data.toList.length = (digS n).size := by simp
        rw [hl] at h2
        simp at h2
        omega
      | cons c t =>
        rw [hl] at hd
        exact ⟨c, t ++ [72], by simp, decB_bd (by simpa using hd)⟩
    · exact ⟨48, (digS n).data.toList ++ [72], by simp, by decide, by decide⟩
theorem offS_neg (n : Int) (h : n < 0) : (offS n).data.toList = 45 :: (textS (-n)).data.toList := by unfold offS; rw [if_pos h, append_data]; rfl
theorem offS_pos' (n : Int) (h : 0 ≤ n) : (offS n).data.toList = 43 :: (textS n).data.toList := by unfold offS; rw [if_neg (by omega), append_data]; rfl
theorem offS_inj (n m : Int) (n0 : -65535 ≤ n) (n1 : n ≤ 65535) (m0 : -65535 ≤ m) (m1 : m ≤ 65535) (h : offS n = offS m) : n = m := by
  have h' : (offS n).data.toList = (offS m).data.toList := by rw [h]
  by_cases hn : n < 0
  · by_cases hm : m < 0
    · rw [offS_neg n hn, offS_neg m hm, List.cons.injEq] at h'
      have := textS_inj (-n) (-m) (by omega) (by omega) (by omega) (by omega) (ba_list h'.2)
      omega
    · rw [offS_neg n hn, offS_pos' m (by omega), List.cons.injEq] at h'
      exact absurd h'.1 (by decide)
  · by_cases hm : m < 0
    · rw [offS_pos' n (by omega), offS_neg m hm, List.cons.injEq] at h'
      exact absurd h'.1 (by decide)
    · rw [offS_pos' n (by omega), offS_pos' m (by omega), List.cons.injEq] at h'
      exact textS_inj n m (by omega) (by omega) (by omega) (by omega) (ba_list h'.2)
theorem brS_list (s : ByteArray) : (brS s).data.toList = 40 :: (s.data.toList ++ [41]) := by unfold brS; rw [append_data, append_data]; rfl
theorem brS_inj {s t : ByteArray} (h : brS s = brS t) : s = t := by
  have h' := congrArg (fun s : ByteArray => s.data.toList) h
  simp only [brS_list, List.cons.injEq, List.append_cancel_right_eq, true_and] at h'
  exact ba_list h'
/-- The registers of a valid operand with a name. -/
theorem vld_reg (k : Nat) (r : Int) (h : neB (nmS k r) = true) : 0 ≤ r ∧ r < ((nmL k).length : Int) := by
  by_cases hr : 0 ≤ r ∧ r < ((nmL k).length : Int)
  · exact hr
  · unfold nmS at h
    rw [atS_out _ r (by omega), neB_nil] at h
    cases h
theorem nm_inj1 : ∀ i j : Fin 8, neB (nmS 1 (i.val : Int)) = true → (nmS 1 (i.val : Int)).data = (nmS 1 (j.val : Int)).data → i = j := by decide +kernel
theorem nm_inj2 : ∀ i j : Fin 4, neB (nmS 2 (i.val : Int)) = true → (nmS 2 (i.val : Int)).data = (nmS 2 (j.val : Int)).data → i = j := by decide +kernel
theorem nm_inj3 : ∀ i j : Fin 8, neB (nmS 3 (i.val : Int)) = true → (nmS 3 (i.val : Int)).data = (nmS 3 (j.val : Int)).data → i = j := by decide +kernel
theorem nm_inj4 : ∀ i j : Fin 9, neB (nmS 4 (i.val : Int)) = true → (nmS 4 (i.val : Int)).data = (nmS 4 (j.val : Int)).data → i = j := by decide +kernel
theorem nm_inj5 : ∀ i j : Fin 7, neB (nmS 5 (i.val : Int)) = true → (nmS 5 (i.val : Int)).data = (nmS 5 (j.val : Int)).data → i = j := by decide +kernel
theorem nm_inj8 : ∀ i j : Fin 8, neB (nmS 8 (i.val : Int)) = true → (nmS 8 (i.val : Int)).data = (nmS 8 (j.val : Int)).data → i = j := by decide +kernel
theorem nm_inj9 : ∀ i j : Fin 2, neB (nmS 9 (i.val : Int)) = true → (nmS 9 (i.val : Int)).data = (nmS 9 (j.val : Int)).data → i = j := by decide +kernel
theorem nm_size5 (r : Int) (h : neB (nmS 5 r) = true) : (nmS 5 r).size = 2 := by
  obtain ⟨h0, h1⟩ := vld_reg 5 r h
  have hd : ∀ i : Fin 7, neB (nmS 5 (i.val : Int)) = true → (nmS 5 (i.val : Int)).size = 2 := by decide +kernel
  have h1' : r < 7 := h1
  have e : ((r.toNat : Nat) : Int) = r := by omega
  have := hd ⟨r.toNat, by omega⟩
  simp only [e] at this
  exact this h
theorem reg_1 (r r' : Int) (h : neB (nmS 1 r) = true) (h' : neB (nmS 1 r') = true) (e : nmS 1 r = nmS 1 r') : r = r' := by
  obtain ⟨a0, a1⟩ := vld_reg 1 r h
  obtain ⟨b0, b1⟩ := vld_reg 1 r' h'
  have a2 : r < 8 := a1
  have b2 : r' < 8 := b1
  have e1 : ((r.toNat : Nat) : Int) = r := by omega
  have e2 : ((r'.toNat : Nat) : Int) = r' := by omega
  have hi := nm_inj1 ⟨r.toNat, by omega⟩ ⟨r'.toNat, by omega⟩
  simp only [e1, e2] at hi
  have := Fin.mk.inj (hi h (by rw [e]))
  omega
theorem reg_2 (r r' : Int) (h : neB (nmS 2 r) = true) (h' : neB (nmS 2 r') = true) (e : nmS 2 r = nmS 2 r') : r = r' := by
  obtain ⟨a0, a1⟩ := vld_reg 2 r h
  obtain ⟨b0, b1⟩ := vld_reg 2 r' h'
  have a2 : r < 4 := a1
  have b2 : r' < 4 := b1
  have e1 : ((r.toNat : Nat) : Int) = r := by omega
  have e2 : ((r'.toNat : Nat) : Int) = r' := by omega
  have hi := nm_inj2 ⟨r.toNat, by omega⟩ ⟨r'.toNat, by omega⟩
  simp only [e1, e2] at hi
  have := Fin.mk.inj (hi h (by rw [e]))
  omega
theorem reg_3 (r r' : Int) (h : neB (nmS 3 r) = true) (h' : neB (nmS 3 r') = true) (e : nmS 3 r = nmS 3 r') : r = r' := by
  obtain ⟨a0, a1⟩ := vld_reg 3 r h
  obtain ⟨b0, b1⟩ := vld_reg 3 r' h'
  have a2 : r < 8 := a1
  have b2 : r' < 8 := b1
  have e1 : ((r.toNat : Nat) : Int) = r := by omega
  have e2 : ((r'.toNat : Nat) : Int) = r' := by omega
  have hi := nm_inj3 ⟨r.toNat, by omega⟩ ⟨r'.toNat, by omega⟩
  simp only [e1, e2] at hi
  have := Fin.mk.inj (hi h (by rw [e]))
  omega
theorem reg_4 (r r' : Int) (h : neB (nmS 4 r) = true) (h' : neB (nmS 4 r') = true) (e : nmS 4 r = nmS 4 r') : r = r' := by
  obtain ⟨a0, a1⟩ := vld_reg 4 r h
  obtain ⟨b0, b1⟩ := vld_reg 4 r' h'
  have a2 : r < 9 := a1
  have b2 : r' < 9 := b1
  have e1 : ((r.toNat : Nat) : Int) = r := by omega
  have e2 : ((r'.toNat : Nat) : Int) = r' := by omega
  have hi := nm_inj4 ⟨r.toNat, by omega⟩ ⟨r'.toNat, by omega⟩
  simp only [e1, e2] at hi
  have := Fin.mk.inj (hi h (by rw [e]))
  omega
theorem reg_5 (r r' : Int) (h : neB (nmS 5 r) = true) (h' : neB (nmS 5 r') = true) (e : nmS 5 r = nmS 5 r') : r = r' := by
  obtain ⟨a0, a1⟩ := vld_reg 5 r h
  obtain ⟨b0, b1⟩ := vld_reg 5 r' h'
  have a2 : r < 7 := a1
  have b2 : r' < 7 := b1
  have e1 : ((r.toNat : Nat) : Int) = r := by omega
  have e2 : ((r'.toNat : Nat) : Int) = r' := by omega
  have hi := nm_inj5 ⟨r.toNat, by omega⟩ ⟨r'.toNat, by omega⟩
  simp only [e1, e2] at hi
  have := Fin.mk.inj (hi h (by rw [e]))
  omega
theorem reg_8 (r r' : Int) (h : neB (nmS 8 r) = true) (h' : neB (nmS 8 r') = true) (e : nmS 8 r = nmS 8 r') : r = r' := by
  obtain ⟨a0, a1⟩ := vld_reg 8 r h
  obtain ⟨b0, b1⟩ := vld_reg 8 r' h'
  have a2 : r < 8 := a1
  have b2 : r' < 8 := b1
  have e1 : ((r.toNat : Nat) : Int) = r := by omega
  have e2 : ((r'.toNat : Nat) : Int) = r' := by omega
  have hi := nm_inj8 ⟨r.toNat, by omega⟩ ⟨r'.toNat, by omega⟩
  simp only [e1, e2] at hi
  have := Fin.mk.inj (hi h (by rw [e]))
  omega
theorem reg_9 (r r' : Int) (h : neB (nmS 9 r) = true) (h' : neB (nmS 9 r') = true) (e : nmS 9 r = nmS 9 r') : r = r' := by
  obtain ⟨a0, a1⟩ := vld_reg 9 r h
  obtain ⟨b0, b1⟩ := vld_reg 9 r' h'
  have a2 : r < 2 := a1
  have b2 : r' < 2 := b1
  have e1 : ((r.toNat : Nat) : Int) = r := by omega
  have e2 : ((r'.toNat : Nat) : Int) = r' := by omega
  have hi := nm_inj9 ⟨r.toNat, by omega⟩ ⟨r'.toNat, by omega⟩
  simp only [e1, e2] at hi
  have := Fin.mk.inj (hi h (by rw [e]))
  omega
theorem zero_of {n : Int} (h : (n == 0) = true) : n = 0 := by simpa using h
/-- Valid operands of one kind with the same form are equal. -/
theorem txt_inj (k r n r' n' : Int) (h : vldB k r n = true) (h' : vldB k r' n' = true) (e : txtS k r n = txtS k r' n') : r = r' ∧ n = n' := by
  have hk := vld_kind k r n h
  rw [txt_yes k r n h, txt_yes k r' n' h'] at e
  rcases hk with rfl | rfl | rfl | rfl | rfl | rfl | rfl | rfl | rfl | rfl
  · rw [vld_1, Bool.and_eq_true] at h h'
    exact ⟨reg_1 r r' h.1 h'.1 e, by rw [zero_of h.2, zero_of h'.2]⟩
  · rw [vld_2, Bool.and_eq_true] at h h'
    exact ⟨reg_2 r r' h.1 h'.1 e, by rw [zero_of h.2, zero_of h'.2]⟩
  · rw [vld_3, Bool.and_eq_true] at h h'
    exact ⟨reg_3 r r' h.1 h'.1 e, by rw [zero_of h.2, zero_of h'.2]⟩
  · rw [vld_4, neB_4, Bool.and_eq_true] at h h'
    exact ⟨reg_4 r r' h.1 h'.1 (brS_inj e), by rw [zero_of h.2, zero_of h'.2]⟩
  · rw [vld_5, Bool.and_eq_true, Bool.and_eq_true, decide_eq_true_eq, decide_eq_true_eq] at h h'
    have e1 := congrArg (fun s : ByteArray => s.data.toList) (brS_inj e)
    simp only [append_data] at e1
    have z1 := nm_size5 r h.1
    have z2 := nm_size5 r' h'.1
    obtain ⟨e2, e3⟩ := List.append_inj e1 (by
      have a1 : (nmS 5 r).data.toList.length = (nmS 5 r).size := by simp
      have a2 : (nmS 5 r').data.toList.length = (nmS 5 r').size := by simp
      show (nmS 5 r).data.toList.length = (nmS 5 r').data.toList.length
      omega)
    exact ⟨reg_5 r r' h.1 h'.1 (ba_list e2), offS_inj n n' (by omega) (by omega) (by omega) (by omega) (ba_list e3)⟩
  · rw [vld_6, Bool.and_eq_true, Bool.and_eq_true, decide_eq_true_eq, decide_eq_true_eq] at h h'
    refine ⟨by rw [zero_of h.1, zero_of h'.1], ?_⟩
    have e1 : (if n < 0 then offS n else textS n) = (if n' < 0 then offS n' else textS n') := e
    by_cases c1 : n < 0
    · by_cases c2 : n' < 0
      · rw [if_pos c1, if_pos c2] at e1
        exact offS_inj n n' (by omega) (by omega) (by omega) (by omega) e1
      · rw [if_pos c1, if_neg c2] at e1
        obtain ⟨c, t, ht, b0, b1⟩ := textS_head n' (by omega) (by omega)
        have e2 := congrArg (fun s : ByteArray => s.data.toList) e1
        simp only [offS_neg n c1, ht, List.cons.injEq] at e2
        rw [← e2.1] at b0
        exact absurd b0 (by decide)
    · by_cases c2 : n' < 0
      · rw [if_neg c1, if_pos c2] at e1
        obtain ⟨c, t, ht, b0, b1⟩ := textS_head n (by omega) (by omega)
        have e2 := congrArg (fun s : ByteArray => s.data.toList) e1
        simp only [offS_neg n' c2, ht, List.cons.injEq] at e2
        rw [e2.1] at b0
        exact absurd b0 (by decide)
      · rw [if_neg c1, if_neg c2] at e1
        exact textS_inj n n' (by omega) (by omega) (by omega) (by omega) e1
  · rw [vld_7, Bool.and_eq_true, Bool.and_eq_true, decide_eq_true_eq, decide_eq_true_eq] at h h'
    exact ⟨by rw [zero_of h.1, zero_of h'.1], textS_inj n n' (by omega) (by omega) (by omega) (by omega) (brS_inj e)⟩
  · rw [vld_8, Bool.and_eq_true] at h h'
    exact ⟨reg_8 r r' h.1 h'.1 e, by rw [zero_of h.2, zero_of h'.2]⟩
  · rw [vld_9, Bool.and_eq_true] at h h'
    exact ⟨reg_9 r r' h.1 h'.1 e, by rw [zero_of h.2, zero_of h'.2]⟩
  · rw [vld_10, Bool.and_eq_true, Bool.and_eq_true, decide_eq_true_eq, decide_eq_true_eq] at h h'
    refine ⟨by rw [zero_of h.1, zero_of h'.1], ?_⟩
    have e1 := congrArg (fun s : ByteArray => s.data.toList) e
    have e2 : (⟨#[36]⟩ ++ offS (n + 2)).data.toList = (⟨#[36]⟩ ++ offS (n' + 2)).data.toList := e1
    rw [append_data, append_data] at e2
    have := offS_inj (n + 2) (n' + 2) (by omega) (by omega) (by omega) (by omega) (ba_list (List.append_cancel_left e2))
    omega

/-! ### Names -/
/-- Has the kind names? -/
def nmdB (k : Int) : Bool := k == 1 || k == 2 || k == 3 || k == 8 || k == 9
theorem nmAll_kinds : ∀ x ∈ nmAll, nmdB x.2.1 = true ∧ x.2.1 ≤ 9 := by decide +kernel
theorem nmAll_heads : ∀ x ∈ nmAll, 65 ≤ ((x.1.data.toList.getD 0 0).toNat : Int) := by decide +kernel
/-- A text that does not begin with a letter is no name. -/
theorem named_none (s : ByteArray) (c : UInt8) (t : List UInt8) (h : s.data.toList = c :: t) (hc : (c.toNat : Int) < 65) : namedL s = [] := by
  unfold namedL selL
  rw [List.map_eq_nil_iff, List.filter_eq_nil_iff]
  intro x hx he
  have h1 := nmAll_heads x hx
  have he' : x.1.toList = (upB s).toList := by simpa using he
  rw [ByteArray.toList_eq, ByteArray.toList_eq] at he'
  rw [he', upB_list, h] at h1
  have h2 : (((c :: t).map capU).getD 0 0) = capU c := rfl
  rw [h2, capU_nat] at h1
  unfold capI at h1
  split at h1 <;> omega
/-- The operand is among those that its form denotes, exactly if its kind has names; and they are two for C alone. -/
def OnceOk (k r n : Int) : Prop := decide ((k, r, n) ∈ namedL (txtS k r n)) = nmdB k ∧ (1 < (namedL (txtS k r n)).length → txtS k r n = ⟨#[67]⟩)
theorem once_none {k r n : Int} (hk : nmdB k = false) (c : UInt8) (t : List UInt8) (h : (txtS k r n).data.toList = c :: t) (hc : (c.toNat : Int) < 65) : OnceOk k r n := by
  unfold OnceOk
  rw [named_none _ c t h hc, hk]
  exact ⟨by simp, fun h => by simp at h⟩
theorem once_1 (r : Int) (h : neB (nmS 1 r) = true) : OnceOk 1 r 0 := by
  obtain ⟨a0, a1⟩ := vld_reg 1 r h
  have a2 : r < 8 := a1
  have e1 : ((r.toNat : Nat) : Int) = r := by omega
  have hd : ∀ i : Fin 8, neB (nmS 1 (i.val : Int)) = true → decide ((1, (i.val : Int), 0) ∈ namedL (txtS 1 (i.val : Int) 0)) = nmdB 1 ∧ (1 < (namedL (txtS 1 (i.val : Int) 0)).length → (txtS 1 (i.val : Int) 0).data = #[67]) := by decide +kernel
  have hx := hd ⟨r.toNat, by omega⟩
  simp only [e1] at hx
  obtain ⟨x1, x2⟩ := hx h
  exact ⟨x1, fun hl => ByteArray.ext (x2 hl)⟩
theorem once_2 (r : Int) (h : neB (nmS 2 r) = true) : OnceOk 2 r 0 := by
  obtain ⟨a0, a1⟩ := vld_reg 2 r h
  have a2 : r < 4 := a1
  have e1 : ((r.toNat : Nat) : Int) = r := by omega
  have hd : ∀ i : Fin 4, neB (nmS 2 (i.val : Int)) = true → decide ((2, (i.val : Int), 0) ∈ namedL (txtS 2 (i.val : Int) 0)) = nmdB 2 ∧ (1 < (namedL (txtS 2 (i.val : Int) 0)).length → (txtS 2 (i.val : Int) 0).data = #[67]) := by decide +kernel
  have hx := hd ⟨r.toNat, by omega⟩
  simp only [e1] at hx
  obtain ⟨x1, x2⟩ := hx h
  exact ⟨x1, fun hl => ByteArray.ext (x2 hl)⟩
theorem once_3 (r : Int) (h : neB (nmS 3 r) = true) : OnceOk 3 r 0 := by
  obtain ⟨a0, a1⟩ := vld_reg 3 r h
  have a2 : r < 8 := a1
  have e1 : ((r.toNat : Nat) : Int) = r := by omega
  have hd : ∀ i : Fin 8, neB (nmS 3 (i.val : Int)) = true → decide ((3, (i.val : Int), 0) ∈ namedL (txtS 3 (i.val : Int) 0)) = nmdB 3 ∧ (1 < (namedL (txtS 3 (i.val : Int) 0)).length → (txtS 3 (i.val : Int) 0).data = #[67]) := by decide +kernel
  have hx := hd ⟨r.toNat, by omega⟩
  simp only [e1] at hx
  obtain ⟨x1, x2⟩ := hx h
  exact ⟨x1, fun hl => ByteArray.ext (x2 hl)⟩
theorem once_8 (r : Int) (h : neB (nmS 8 r) = true) : OnceOk 8 r 0 := by
  obtain ⟨a0, a1⟩ := vld_reg 8 r h
  have a2 : r < 8 := a1
  have e1 : ((r.toNat : Nat) : Int) = r := by omega
  have hd : ∀ i : Fin 8, neB (nmS 8 (i.val : Int)) = true → decide ((8, (i.val : Int), 0) ∈ namedL (txtS 8 (i.val : Int) 0)) = nmdB 8 ∧ (1 < (namedL (txtS 8 (i.val : Int) 0)).length → (txtS 8 (i.val : Int) 0).data = #[67]) := by decide +kernel
  have hx := hd ⟨r.toNat, by omega⟩
  simp only [e1] at hx
  obtain ⟨x1, x2⟩ := hx h
  exact ⟨x1, fun hl => ByteArray.ext (x2 hl)⟩
theorem once_9 (r : Int) (h : neB (nmS 9 r) = true) : OnceOk 9 r 0 := by
  obtain ⟨a0, a1⟩ := vld_reg 9 r h
  have a2 : r < 2 := a1
  have e1 : ((r.toNat : Nat) : Int) = r := by omega
  have hd : ∀ i : Fin 2, neB (nmS 9 (i.val : Int)) = true → decide ((9, (i.val : Int), 0) ∈ namedL (txtS 9 (i.val : Int) 0)) = nmdB 9 ∧ (1 < (namedL (txtS 9 (i.val : Int) 0)).length → (txtS 9 (i.val : Int) 0).data = #[67]) := by decide +kernel
  have hx := hd ⟨r.toNat, by omega⟩
  simp only [e1] at hx
  obtain ⟨x1, x2⟩ := hx h
  exact ⟨x1, fun hl => ByteArray.ext (x2 hl)⟩
theorem once_ok (k r n : Int) (h : vldB k r n = true) : OnceOk k r n := by
  have hk := vld_kind k r n h
  have ht := txt_yes k r n h
  rcases hk with rfl | rfl | rfl | rfl | rfl | rfl | rfl | rfl | rfl | rfl
  · rw [vld_1, Bool.and_eq_true] at h
    rw [zero_of h.2]; exact once_1 r h.1
  · rw [vld_2, Bool.and_eq_true] at h
    rw [zero_of h.2]; exact once_2 r h.1
  · rw [vld_3, Bool.and_eq_true] at h
    rw [zero_of h.2]; exact once_3 r h.1
  · exact once_none rfl 40 _ (by rw [ht]; exact brS_list _) (by decide)
  · exact once_none rfl 40 _ (by rw [ht]; exact brS_list _) (by decide)
  · rw [vld_6, Bool.and_eq_true, Bool.and_eq_true, decide_eq_true_eq, decide_eq_true_eq] at h
    have ht' : txtS 6 r n = if n < 0 then offS n else textS n := ht
    by_cases c1 : n < 0
    · exact once_none rfl 45 _ (by rw [ht', if_pos c1]; exact offS_neg n c1) (by decide)
    · obtain ⟨c, t, h1, b0, b1⟩ := textS_head n (by omega) (by omega)
      exact once_none rfl c t (by rw [ht', if_neg c1]; exact h1) (by omega)
  · exact once_none rfl 40 _ (by rw [ht]; exact brS_list _) (by decide)
  · rw [vld_8, Bool.and_eq_true] at h
    rw [zero_of h.2]; exact once_8 r h.1
  · rw [vld_9, Bool.and_eq_true] at h
    rw [zero_of h.2]; exact once_9 r h.1
  · exact once_none rfl 36 _ (by rw [ht]; show (⟨#[36]⟩ ++ offS (n + 2)).data.toList = _; rw [append_data]; rfl) (by decide)
end Go.Proofs.YtbcbhdhhinopaaaDoor
