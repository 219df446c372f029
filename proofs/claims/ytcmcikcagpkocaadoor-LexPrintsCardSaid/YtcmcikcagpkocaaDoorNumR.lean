/-
  Plain facts: no word denotes two numbers; the document's Parse (the greatest number of a word in all forms) is num's Parse (the first one).
-/
import Derived.Test.YtcmcikcagpkocaaDoorNumL
import Derived.Test.YtcmcikcagpkocaaDoorNumQ
namespace Go.Proofs.YtcmcikcagpkocaaDoor
set_option linter.unusedVariables false

theorem byteTab (p : UInt8 → Bool) (h : ∀ n : Fin 256, p (UInt8.ofNat n.val) = true) (c : UInt8) : p c = true := by
  have := h ⟨c.toNat, c.toNat_lt⟩
  simpa using this
theorem hexV_cap (c : UInt8) : hexV ((capU c).toNat : Int) = hexV (c.toNat : Int) := by
  have t : ∀ n : Fin 256, hexV (capI (n.val : Int)) = hexV (n.val : Int) := by decide +kernel
  have h := t ⟨c.toNat, c.toNat_lt⟩
  rw [capU_nat]
  exact h
theorem cap_facts (c : UInt8) : (capU c = 48 ↔ (c.toNat : Int) = 48) ∧ (capU c = 88 ↔ ((c.toNat : Int) = 120 ∨ (c.toNat : Int) = 88)) ∧ (capU c = 36 ↔ (c.toNat : Int) = 36) ∧ (capU c = 37 ↔ (c.toNat : Int) = 37) ∧
    (capU c = 72 ↔ ((c.toNat : Int) = 104 ∨ (c.toNat : Int) = 72)) ∧ (capU c = 66 ↔ ((c.toNat : Int) = 98 ∨ (c.toNat : Int) = 66)) ∧ (decB ((capU c).toNat : Int) = decide (digV (c.toNat : Int) < 10)) := by
  have h := byteTab (fun c => decide ((capU c = 48 ↔ (c.toNat : Int) = 48) ∧ (capU c = 88 ↔ ((c.toNat : Int) = 120 ∨ (c.toNat : Int) = 88)) ∧ (capU c = 36 ↔ (c.toNat : Int) = 36) ∧ (capU c = 37 ↔ (c.toNat : Int) = 37) ∧
    (capU c = 72 ↔ ((c.toNat : Int) = 104 ∨ (c.toNat : Int) = 72)) ∧ (capU c = 66 ↔ ((c.toNat : Int) = 98 ∨ (c.toNat : Int) = 66)) ∧ (decB ((capU c).toNat : Int) = decide (digV (c.toNat : Int) < 10)))) (by decide +kernel) c
  exact of_decide_eq_true h
theorem rdStep_cap (base : Int) (o : Option Int) (c : UInt8) : rdStep base o (capU c) = rdStep base o c := by unfold rdStep; rw [hexV_cap]
theorem rdL_cap (base : Int) (l : List UInt8) : rdL base (l.map capU) = rdL base l := by
  unfold rdL
  rw [List.foldl_map]
  congr 1
  funext o c
  exact rdStep_cap base o c
theorem rdLO_cap (base : Int) (l : List UInt8) : rdLO base (l.map capU) = rdLO base l := by
  unfold rdLO
  rw [rdL_cap]
  by_cases h : l = []
  · subst h; rfl
  · rw [if_neg h, if_neg (by simpa using h)]
theorem refV_list (base : Int) (s : ByteArray) : refV base s = (rdLO base s.data.toList).getD (-1) := rfl
theorem refV_of (base : Int) (s : ByteArray) (l : List UInt8) (h : s.data.toList = l) : refV base s = (rdLO base l).getD (-1) := by rw [refV_list, h]

/-- Digits: what reading them gives is not below 0, and each of them is one of the base's digits. -/
theorem rdL_digits (base : Int) (hb : 0 ≤ base) (l : List UInt8) : ∀ (n x : Int), 0 ≤ n → l.foldl (rdStep base) (some n) = some x → 0 ≤ x ∧ ∀ c ∈ l, 0 ≤ hexV (c.toNat : Int) ∧ hexV (c.toNat : Int) < base := by
  induction l with
  | nil => intro n x hn h; simp at h; subst h; exact ⟨hn, by simp⟩
  | cons c l ih =>
    intro n x hn h
    rw [List.foldl_cons] at h
    by_cases hv : hexV (c.toNat : Int) < 0 ∨ base ≤ hexV (c.toNat : Int)
    · have e : rdStep base (some n) c = none := by unfold rdStep; simp only [Option.bind_some]; rw [if_pos hv]
      rw [e, rdL_none] at h
      cases h
    · by_cases hle : n * base + hexV (c.toNat : Int) ≤ 65535
      · have e : rdStep base (some n) c = some (n * base + hexV (c.toNat : Int)) := by unfold rdStep; simp only [Option.bind_some]; rw [if_neg hv, if_pos hle]
        rw [e] at h
        have hm : 0 ≤ n * base := Int.mul_nonneg hn hb
        obtain ⟨h1, h2⟩ := ih _ x (by omega) h
        refine ⟨h1, fun d hd => ?_⟩
        rcases List.mem_cons.1 hd with rfl | hd
        · omega
        · exact h2 d hd
      · have e : rdStep base (some n) c = none := by unfold rdStep; simp only [Option.bind_some]; rw [if_neg hv, if_neg hle]
        rw [e, rdL_none] at h
        cases h
theorem rdLO_digits (base x : Int) (hb : 0 ≤ base) (l : List UInt8) (h : rdLO base l = some x) : l ≠ [] ∧ 0 ≤ x ∧ ∀ c ∈ l, 0 ≤ hexV (c.toNat : Int) ∧ hexV (c.toNat : Int) < base := by
  unfold rdLO at h
  by_cases e : l = []
  · rw [if_pos e] at h; cases h
  · rw [if_neg e] at h
    exact ⟨e, rdL_digits base hb l 0 x (by omega) h⟩

/-! ### What a word that has a form looks like -/
theorem some0 (u : ByteArray) (x : Int) (h : attO 0 u = some x) : 0 ≤ x ∧ ∀ c ∈ u.data.toList, 0 ≤ hexV (c.toNat : Int) ∧ hexV (c.toNat : Int) < 10 := by
  rw [att0_eq] at h
  obtain ⟨_, h1, h2⟩ := rdLO_digits 10 x (by omega) _ h
  exact ⟨h1, h2⟩
theorem some1 (u : ByteArray) (x : Int) (h : attO 1 u = some x) : 0 ≤ x ∧ ∃ r, u.data.toList = 48 :: 88 :: r ∧ r ≠ [] ∧ ∀ c ∈ r, 0 ≤ hexV (c.toNat : Int) ∧ hexV (c.toNat : Int) < 16 := by
  by_cases e : ∃ r, u.data.toList = 48 :: 88 :: r
  · obtain ⟨r, hr⟩ := e
    rw [att1_eq u r hr] at h
    obtain ⟨h0, h1, h2⟩ := rdLO_digits 16 x (by omega) _ h
    exact ⟨h1, r, hr, h0, h2⟩
  · rw [att1_no u e] at h; cases h
theorem some2 (u : ByteArray) (x : Int) (h : attO 2 u = some x) : 0 ≤ x ∧ ∃ r, u.data.toList = 36 :: r := by
  by_cases e : ∃ r, u.data.toList = 36 :: r
  · obtain ⟨r, hr⟩ := e
    rw [att2_eq u r hr] at h
    obtain ⟨h0, h1, h2⟩ := rdLO_digits 16 x (by omega) _ h
    exact ⟨h1, r, hr⟩
  · rw [att2_no u e] at h; cases h
theorem some5 (u : ByteArray) (x : Int) (h : attO 5 u = some x) : 0 ≤ x ∧ ∃ r, u.data.toList = 37 :: r := by
  by_cases e : ∃ r, u.data.toList = 37 :: r
  · obtain ⟨r, hr⟩ := e
    rw [att5_eq u r hr] at h
    obtain ⟨h0, h1, h2⟩ := rdLO_digits 2 x (by omega) _ h
    exact ⟨h1, r, hr⟩
  · rw [att5_no u e] at h; cases h
theorem some3 (u : ByteArray) (x : Int) (h : attO 3 u = some x) : 0 ≤ x ∧ ∃ c r, u.data.toList = (c :: r) ++ [72] ∧ decB (c.toNat : Int) = true := by
  by_cases e : ∃ c r, u.data.toList = (c :: r) ++ [72] ∧ decB (c.toNat : Int) = true
  · obtain ⟨c, r, hr, hc⟩ := e
    rw [att3_eq u c r hr hc] at h
    obtain ⟨h0, h1, h2⟩ := rdLO_digits 16 x (by omega) _ h
    exact ⟨h1, c, r, hr, hc⟩
  · rw [att3_no u e] at h; cases h
theorem some4 (u : ByteArray) (x : Int) (h : attO 4 u = some x) : 0 ≤ x ∧ ∃ r, u.data.toList = r ++ [66] ∧ r ≠ [] ∧ ∀ c ∈ r, 0 ≤ hexV (c.toNat : Int) ∧ hexV (c.toNat : Int) < 2 := by
  by_cases e : ∃ r, u.data.toList = r ++ [66]
  · obtain ⟨r, hr⟩ := e
    rw [att4_eq u r hr] at h
    obtain ⟨h0, h1, h2⟩ := rdLO_digits 2 x (by omega) _ h
    exact ⟨h1, r, hr, h0, h2⟩
  · rw [att4_no u e] at h; cases h

/-! ### No word has two forms -/
theorem d01 (u : ByteArray) (x y : Int) (h : attO 0 u = some x) (k : attO 1 u = some y) : False := by
  obtain ⟨_, h2⟩ := some0 u x h
  obtain ⟨_, r, hr, _⟩ := some1 u y k
  have := h2 88 (by rw [hr]; simp)
  exact absurd this.1 (by decide)
theorem d02 (u : ByteArray) (x y : Int) (h : attO 0 u = some x) (k : attO 2 u = some y) : False := by
  obtain ⟨_, h2⟩ := some0 u x h
  obtain ⟨_, r, hr⟩ := some2 u y k
  have := h2 36 (by rw [hr]; simp)
  exact absurd this.1 (by decide)
theorem d03 (u : ByteArray) (x y : Int) (h : attO 0 u = some x) (k : attO 3 u = some y) : False := by
  obtain ⟨_, h2⟩ := some0 u x h
  obtain ⟨_, c, r, hr, _⟩ := some3 u y k
  have := h2 72 (by rw [hr]; simp)
  exact absurd this.1 (by decide)
theorem d04 (u : ByteArray) (x y : Int) (h : attO 0 u = some x) (k : attO 4 u = some y) : False := by
  obtain ⟨_, h2⟩ := some0 u x h
  obtain ⟨_, r, hr, _⟩ := some4 u y k
  have := h2 66 (by rw [hr]; simp)
  exact absurd this.2 (by decide)
theorem d05 (u : ByteArray) (x y : Int) (h : attO 0 u = some x) (k : attO 5 u = some y) : False := by
  obtain ⟨_, h2⟩ := some0 u x h
  obtain ⟨_, r, hr⟩ := some5 u y k
  have := h2 37 (by rw [hr]; simp)
  exact absurd this.1 (by decide)
theorem d12 (u : ByteArray) (x y : Int) (h : attO 1 u = some x) (k : attO 2 u = some y) : False := by
  obtain ⟨_, r, hr, _⟩ := some1 u x h
  obtain ⟨_, q, hq⟩ := some2 u y k
  rw [hr] at hq
  have e := (List.cons.inj hq).1
  exact absurd e (by decide)
theorem d15 (u : ByteArray) (x y : Int) (h : attO 1 u = some x) (k : attO 5 u = some y) : False := by
  obtain ⟨_, r, hr, _⟩ := some1 u x h
  obtain ⟨_, q, hq⟩ := some5 u y k
  rw [hr] at hq
  have e := (List.cons.inj hq).1
  exact absurd e (by decide)
theorem d25 (u : ByteArray) (x y : Int) (h : attO 2 u = some x) (k : attO 5 u = some y) : False := by
  obtain ⟨_, r, hr⟩ := some2 u x h
  obtain ⟨_, q, hq⟩ := some5 u y k
  rw [hr] at hq
  have e := (List.cons.inj hq).1
  exact absurd e (by decide)
/-- A list that is not empty has a last element. -/
theorem last_of (r : List UInt8) (h : r ≠ []) : ∃ q z, r = q ++ [z] := ⟨r.dropLast, r.getLast h, (List.dropLast_concat_getLast h).symm⟩
theorem d13 (u : ByteArray) (x y : Int) (h : attO 1 u = some x) (k : attO 3 u = some y) : False := by
  obtain ⟨_, r, hr, h0, h2⟩ := some1 u x h
  obtain ⟨_, c, q, hq, _⟩ := some3 u y k
  obtain ⟨r', z, hz⟩ := last_of r h0
  rw [hr, hz] at hq
  have e : (48 :: 88 :: r') ++ [z] = (c :: q) ++ [72] := hq
  have ez := (List.append_inj' e rfl).2
  have ez' : z = 72 := by simpa using ez
  have := h2 z (by rw [hz]; simp)
  rw [ez'] at this
  exact absurd this.1 (by decide)
theorem d14 (u : ByteArray) (x y : Int) (h : attO 1 u = some x) (k : attO 4 u = some y) : False := by
  obtain ⟨_, r, hr, h0, h2⟩ := some1 u x h
  obtain ⟨_, q, hq, _, h4⟩ := some4 u y k
  obtain ⟨r', z, hz⟩ := last_of r h0
  rw [hr, hz] at hq
  have e : (48 :: 88 :: r') ++ [z] = q ++ [66] := hq
  have eq := (List.append_inj' e rfl).1
  have := h4 88 (by rw [← eq]; simp)
  exact absurd this.1 (by decide)
theorem d23 (u : ByteArray) (x y : Int) (h : attO 2 u = some x) (k : attO 3 u = some y) : False := by
  obtain ⟨_, r, hr⟩ := some2 u x h
  obtain ⟨_, c, q, hq, hc⟩ := some3 u y k
  rw [hr] at hq
  have e : (36 : UInt8) = c := (List.cons.inj (show 36 :: r = c :: (q ++ [72]) from hq)).1
  rw [← e] at hc
  exact absurd hc (by decide)
theorem d35 (u : ByteArray) (x y : Int) (h : attO 3 u = some x) (k : attO 5 u = some y) : False := by
  obtain ⟨_, r, hr⟩ := some5 u y k
  obtain ⟨_, c, q, hq, hc⟩ := some3 u x h
  rw [hr] at hq
  have e : (37 : UInt8) = c := (List.cons.inj (show 37 :: r = c :: (q ++ [72]) from hq)).1
  rw [← e] at hc
  exact absurd hc (by decide)
theorem head_app (a : UInt8) (r q : List UInt8) (z : UInt8) (hq : q ≠ []) (h : a :: r = q ++ [z]) : a ∈ q := by
  cases q with
  | nil => exact absurd rfl hq
  | cons b q => rw [(List.cons.inj h).1]; simp
theorem d24 (u : ByteArray) (x y : Int) (h : attO 2 u = some x) (k : attO 4 u = some y) : False := by
  obtain ⟨_, r, hr⟩ := some2 u x h
  obtain ⟨_, q, hq, h0, h4⟩ := some4 u y k
  rw [hr] at hq
  have := h4 36 (head_app _ _ _ _ h0 hq)
  exact absurd this.1 (by decide)
theorem d45 (u : ByteArray) (x y : Int) (h : attO 4 u = some x) (k : attO 5 u = some y) : False := by
  obtain ⟨_, r, hr⟩ := some5 u y k
  obtain ⟨_, q, hq, h0, h4⟩ := some4 u x h
  rw [hr] at hq
  have := h4 37 (head_app _ _ _ _ h0 hq)
  exact absurd this.1 (by decide)
theorem d34 (u : ByteArray) (x y : Int) (h : attO 3 u = some x) (k : attO 4 u = some y) : False := by
  obtain ⟨_, c, q, hq, hc⟩ := some3 u x h
  obtain ⟨_, r, hr, _⟩ := some4 u y k
  rw [hr] at hq
  have ez := (List.append_inj' hq rfl).2
  exact absurd ez (by decide)

/-- The first of six is the greatest of them, if no two are numbers. -/
theorem first_max (u : ByteArray) : (firstO u 6).getD (-1) = max (max (max (max (max ((attO 0 u).getD (-1)) ((attO 1 u).getD (-1))) ((attO 2 u).getD (-1))) ((attO 5 u).getD (-1))) ((attO 3 u).getD (-1))) ((attO 4 u).getD (-1)) := by
  show (((((((none : Option Int).or (attO 0 u)).or (attO 1 u)).or (attO 2 u)).or (attO 3 u)).or (attO 4 u)).or (attO 5 u)).getD (-1) = _
  cases h0 : attO 0 u with
  | some x =>
    have g := (some0 u x h0).1
    have e1 : attO 1 u = none := by cases k : attO 1 u with | none => rfl | some y => exact (d01 u x y h0 k).elim
    have e2 : attO 2 u = none := by cases k : attO 2 u with | none => rfl | some y => exact (d02 u x y h0 k).elim
    have e3 : attO 3 u = none := by cases k : attO 3 u with | none => rfl | some y => exact (d03 u x y h0 k).elim
    have e4 : attO 4 u = none := by cases k : attO 4 u with | none => rfl | some y => exact (d04 u x y h0 k).elim
    have e5 : attO 5 u = none := by cases k : attO 5 u with | none => rfl | some y => exact (d05 u x y h0 k).elim
    rw [e1, e2, e3, e4, e5]
    simp; omega
  | none =>
    cases h1 : attO 1 u with
    | some x =>
      have g := (some1 u x h1).1
      have e2 : attO 2 u = none := by cases k : attO 2 u with | none => rfl | some y => exact (d12 u x y h1 k).elim
      have e3 : attO 3 u = none := by cases k : attO 3 u with | none => rfl | some y => exact (d13 u x y h1 k).elim
      have e4 : attO 4 u = none := by cases k : attO 4 u with | none => rfl | some y => exact (d14 u x y h1 k).elim
      have e5 : attO 5 u = none := by cases k : attO 5 u with | none => rfl | some y => exact (d15 u x y h1 k).elim
      rw [e2, e3, e4, e5]
      simp; omega
    | none =>
      cases h2 : attO 2 u with
      | some x =>
        have g := (some2 u x h2).1
        have e3 : attO 3 u = none := by cases k : attO 3 u with | none => rfl | some y => exact (d23 u x y h2 k).elim
        have e4 : attO 4 u = none := by cases k : attO 4 u with | none => rfl | some y => exact (d24 u x y h2 k).elim
        have e5 : attO 5 u = none := by cases k : attO 5 u with | none => rfl | some y => exact (d25 u x y h2 k).elim
        rw [e3, e4, e5]
        simp; omega
      | none =>
        cases h3 : attO 3 u with
        | some x =>
          have g := (some3 u x h3).1
          have e4 : attO 4 u = none := by cases k : attO 4 u with | none => rfl | some y => exact (d34 u x y h3 k).elim
          have e5 : attO 5 u = none := by cases k : attO 5 u with | none => rfl | some y => exact (d35 u x y h3 k).elim
          rw [e4, e5]
          simp; omega
        | none =>
          cases h4 : attO 4 u with
          | some x =>
            have g := (some4 u x h4).1
            have e5 : attO 5 u = none := by cases k : attO 5 u with | none => rfl | some y => exact (d45 u x y h4 k).elim
            rw [e5]
            simp; omega
          | none =>
            cases h5 : attO 5 u with
            | some x => have g := (some5 u x h5).1; simp; omega
            | none => simp

/-! ### The document's tests and parts -/
theorem att_ge (k : Nat) (u : ByteArray) (hk : k < 6) : -1 ≤ (attO k u).getD (-1) := by
  cases h : attO k u with
  | none => simp
  | some x =>
    have : 0 ≤ x := by
      have hc : k = 0 ∨ k = 1 ∨ k = 2 ∨ k = 3 ∨ k = 4 ∨ k = 5 := by omega
      rcases hc with rfl | rfl | rfl | rfl | rfl | rfl
      · exact (some0 u x h).1
      · exact (some1 u x h).1
      · exact (some2 u x h).1
      · exact (some3 u x h).1
      · exact (some4 u x h).1
      · exact (some5 u x h).1
    simp; omega
theorem size_list (s : ByteArray) : s.data.toList.length = s.size := by simp
theorem drop_list (s : ByteArray) (a : Nat) : (s.extract a s.size).data.toList = s.data.toList.drop a := by
  rw [Lib.extract_data]
  exact List.take_of_length_le (by rw [List.length_drop, size_list]; omega)
theorem take_list (s : ByteArray) (b : Nat) : (s.extract 0 b).data.toList = s.data.toList.take b := by
  rw [Lib.extract_data, List.drop_zero, Nat.sub_zero]
theorem atI_list (s : ByteArray) (i : Nat) (l : List UInt8) (h : s.data.toList = l) : atI s i = ((l.getD i 0).toNat : Int) := by unfold atI; rw [h]

theorem part0 (s : ByteArray) : xr0 s = (attO 0 (upB s)).getD (-1) := by
  unfold xr0
  rw [refV_list, att0_eq, upB_list, rdLO_cap]
theorem part1 (s : ByteArray) : (cnd1 s = true → refV 16 (s.extract 2 s.size) = (attO 1 (upB s)).getD (-1)) ∧ (cnd1 s = false → attO 1 (upB s) = none) := by
  rw [refV_of 16 _ _ (drop_list s 2)]
  have hs := size_list s
  match hl : s.data.toList with
  | [] =>
    rw [hl] at hs
    refine ⟨fun h => ?_, fun _ => att1_no _ (by rintro ⟨r, hr⟩; rw [upB_list, hl] at hr; simp at hr)⟩
    have := cnd1_lt h
    simp at hs; omega
  | [a] =>
    rw [hl] at hs
    refine ⟨fun h => ?_, fun _ => att1_no _ (by rintro ⟨r, hr⟩; rw [upB_list, hl] at hr; simp at hr)⟩
    have := cnd1_lt h
    simp at hs; omega
  | a :: b :: r =>
    rw [hl] at hs
    have ha := atI_list s 0 _ hl
    have hb := atI_list s 1 _ hl
    have fa := cap_facts a
    have fb := cap_facts b
    constructor
    · intro h
      unfold cnd1 at h
      rw [ha, hb] at h
      simp only [List.getD_cons_zero, List.getD_cons_succ, Bool.and_eq_true, Bool.or_eq_true, beq_iff_eq, decide_eq_true_eq] at h
      rw [att1_eq (upB s) (r.map capU) (by rw [upB_list, hl]; simp only [List.map_cons]; rw [fa.1.2 h.1.2, fb.2.1.2 h.2]), rdLO_cap]
      rfl
    · intro h
      by_cases e : ∃ q, (upB s).data.toList = 48 :: 88 :: q
      · obtain ⟨q, hq⟩ := e
        have hq' := hq
        rw [upB_list, hl] at hq'
        simp only [List.map_cons, List.cons.injEq] at hq'
        have hsz : ¬ 2 < s.size := by
          intro h2
          have : cnd1 s = true := by
            unfold cnd1
            rw [ha, hb]
            simp only [List.getD_cons_zero, List.getD_cons_succ, Bool.and_eq_true, Bool.or_eq_true, beq_iff_eq, decide_eq_true_eq]
            exact ⟨⟨h2, fa.1.1 hq'.1⟩, fb.2.1.1 hq'.2.1⟩
          rw [this] at h
          cases h
        have hr : r = [] := List.eq_nil_of_length_eq_zero (by simp at hs; omega)
        rw [att1_eq _ q hq, ← hq'.2.2, hr]
        rfl
      · exact att1_no _ e
theorem partPre (k : Nat) (p : UInt8) (base : Int) (s : ByteArray) (cnd : Bool) (hc : cnd = (decide (1 < s.size) && (atI s 0 == (p.toNat : Int))))
    (heq : ∀ u r, u.data.toList = p :: r → attO k u = rdLO base r) (hno : ∀ u, (¬ ∃ r, u.data.toList = p :: r) → attO k u = none) (hp : ∀ c, capU c = p ↔ (c.toNat : Int) = (p.toNat : Int)) :
    (cnd = true → refV base (s.extract 1 s.size) = (attO k (upB s)).getD (-1)) ∧ (cnd = false → attO k (upB s) = none) := by
  subst hc
  rw [refV_of base _ _ (drop_list s 1)]
  have hs := size_list s
  match hl : s.data.toList with
  | [] =>
    rw [hl] at hs
    refine ⟨fun h => ?_, fun _ => hno _ (by rintro ⟨r, hr⟩; rw [upB_list, hl] at hr; simp at hr)⟩
    simp only [Bool.and_eq_true, decide_eq_true_eq] at h
    simp at hs; omega
  | a :: r =>
    rw [hl] at hs
    have ha := atI_list s 0 _ hl
    rw [ha]
    simp only [List.getD_cons_zero]
    constructor
    · intro h
      simp only [Bool.and_eq_true, beq_iff_eq, decide_eq_true_eq] at h
      rw [heq (upB s) (r.map capU) (by rw [upB_list, hl]; simp only [List.map_cons]; rw [(hp a).2 h.2]), rdLO_cap]
      rfl
    · intro h
      by_cases e : ∃ q, (upB s).data.toList = p :: q
      · obtain ⟨q, hq⟩ := e
        have hq' := hq
        rw [upB_list, hl] at hq'
        simp only [List.map_cons, List.cons.injEq] at hq'
        have hsz : ¬ 1 < s.size := by
          intro h2
          rw [decide_eq_true h2, (hp a).1 hq'.1] at h
          simp at h
        have hr : r = [] := List.eq_nil_of_length_eq_zero (by simp at hs; omega)
        rw [heq _ q hq, ← hq'.2, hr]
        rfl
      · exact hno _ e
theorem part2 (s : ByteArray) : (cnd2 s = true → refV 16 (s.extract 1 s.size) = (attO 2 (upB s)).getD (-1)) ∧ (cnd2 s = false → attO 2 (upB s) = none) :=
  partPre 2 36 16 s (cnd2 s) rfl att2_eq att2_no (fun c => (cap_facts c).2.2.1)
theorem part3 (s : ByteArray) : (cnd3 s = true → refV 2 (s.extract 1 s.size) = (attO 5 (upB s)).getD (-1)) ∧ (cnd3 s = false → attO 5 (upB s) = none) :=
  partPre 5 37 2 s (cnd3 s) rfl att5_eq att5_no (fun c => (cap_facts c).2.2.2.1)
theorem snoc_cases (s : ByteArray) (h : 1 < s.size) : ∃ a r z, s.data.toList = (a :: r) ++ [z] ∧ (s.extract 0 (s.size - 1)).data.toList = a :: r ∧ atI s 0 = (a.toNat : Int) ∧ atI s (s.size - 1) = (z.toNat : Int) := by
  have hs := size_list s
  obtain ⟨q, z, hq⟩ := last_of s.data.toList (by intro e; rw [e] at hs; simp at hs; omega)
  have hn : q.length = s.size - 1 := by rw [hq] at hs; simp at hs; omega
  cases q with
  | nil => simp at hn; omega
  | cons a r =>
    refine ⟨a, r, z, hq, ?_, ?_, ?_⟩
    · rw [take_list, hq, ← hn, List.take_left]
    · rw [atI_list s 0 _ hq]; rfl
    · rw [atI_list s _ _ hq, ← hn, List.getD_eq_getElem?_getD, List.getElem?_append_right (Nat.le_refl _)]; simp
theorem part4 (s : ByteArray) : (cnd4 s = true → refV 16 (s.extract 0 (s.size - 1)) = (attO 3 (upB s)).getD (-1)) ∧ (cnd4 s = false → attO 3 (upB s) = none) := by
  constructor
  · intro h
    obtain ⟨a, r, z, hl, he, ha, hz⟩ := snoc_cases s (cnd4_lt h)
    unfold cnd4 at h
    rw [ha, hz] at h
    simp only [Bool.and_eq_true, Bool.or_eq_true, beq_iff_eq, decide_eq_true_eq] at h
    have hU : (upB s).data.toList = (capU a :: r.map capU) ++ [72] := by rw [upB_list, hl, List.map_append, List.map_cons, List.map_cons, List.map_nil, (cap_facts z).2.2.2.2.1.2 h.1.2]
    rw [refV_of 16 _ _ he, att3_eq (upB s) (capU a) (r.map capU) hU (by rw [(cap_facts a).2.2.2.2.2.2]; exact decide_eq_true h.2), show capU a :: r.map capU = (a :: r).map capU from rfl, rdLO_cap]
  · intro h
    refine att3_no _ ?_
    rintro ⟨c, q, hq, hc⟩
    have hs := size_list s
    have hsz : 1 < s.size := by
      have : (upB s).data.toList.length = s.size := by rw [size_list, upB_size]
      rw [hq] at this
      simp at this
      omega
    obtain ⟨a, r, z, hl, he, ha, hz⟩ := snoc_cases s hsz
    rw [upB_list, hl, List.map_append] at hq
    have e1 := (List.append_inj' hq rfl).1
    have e2 := (List.append_inj' hq rfl).2
    have ea : capU a = c := (List.cons.inj e1).1
    have ez : capU z = 72 := (List.cons.inj e2).1
    rw [← ea, (cap_facts a).2.2.2.2.2.2] at hc
    have : cnd4 s = true := by
      unfold cnd4
      rw [ha, hz]
      simp only [Bool.and_eq_true, Bool.or_eq_true, beq_iff_eq, decide_eq_true_eq]
      exact ⟨⟨hsz, (cap_facts z).2.2.2.2.1.1 ez⟩, of_decide_eq_true hc⟩
    rw [this] at h
    cases h
theorem part5 (s : ByteArray) : (cnd5 s = true → refV 2 (s.extract 0 (s.size - 1)) = (attO 4 (upB s)).getD (-1)) ∧ (cnd5 s = false → attO 4 (upB s) = none) := by
  constructor
  · intro h
    obtain ⟨a, r, z, hl, he, ha, hz⟩ := snoc_cases s (cnd5_lt h)
    unfold cnd5 at h
    rw [hz] at h
    simp only [Bool.and_eq_true, Bool.or_eq_true, beq_iff_eq, decide_eq_true_eq] at h
    have hU : (upB s).data.toList = (a :: r).map capU ++ [66] := by rw [upB_list, hl, List.map_append, List.map_cons (a := z), List.map_nil, (cap_facts z).2.2.2.2.2.1.2 h.2]
    rw [refV_of 2 _ _ he, att4_eq (upB s) _ hU, rdLO_cap]
  · intro h
    by_cases e : ∃ q, (upB s).data.toList = q ++ [66]
    · obtain ⟨q, hq⟩ := e
      have hq0 := hq
      by_cases hsz : 1 < s.size
      · obtain ⟨a, r, z, hl, he, ha, hz⟩ := snoc_cases s hsz
        rw [upB_list, hl, List.map_append] at hq
        have e2 := (List.append_inj' hq rfl).2
        have ez : capU z = 66 := (List.cons.inj e2).1
        have : cnd5 s = true := by
          unfold cnd5
          rw [hz]
          simp only [Bool.and_eq_true, Bool.or_eq_true, beq_iff_eq, decide_eq_true_eq]
          exact ⟨hsz, (cap_facts z).2.2.2.2.2.1.1 ez⟩
        rw [this] at h
        cases h
      · have hlen : (upB s).data.toList.length = s.size := by rw [size_list, upB_size]
        rw [hq] at hlen
        have hn : q = [] := List.eq_nil_of_length_eq_zero (by simp at hlen; omega)
        rw [att4_eq _ q hq0, hn]
        rfl
    · exact att4_no _ e
theorem step_max (c : Bool) (x y z : Int) (o : Option Int) (hx : -1 ≤ x) (h1 : c = true → y = o.getD (-1)) (h0 : c = false → o = none) : (if c then max x y else x) = max x (o.getD (-1)) := by
  cases c with
  | true => rw [if_pos rfl, h1 rfl]
  | false => rw [if_neg (by simp), h0 rfl]; simp; omega
/-- The document's Parse is num's. -/
theorem xr5_par (s : ByteArray) : xr5 s = (parO s).getD (-1) := by
  have u := upB s
  have h0 := part0 s
  have g0 := att_ge 0 (upB s) (by omega)
  have h1 : xr1 s = max (xr0 s) ((attO 1 (upB s)).getD (-1)) := by unfold xr1; exact step_max _ _ _ 0 _ (by omega) (part1 s).1 (part1 s).2
  have h2 : xr2 s = max (xr1 s) ((attO 2 (upB s)).getD (-1)) := by unfold xr2; exact step_max _ _ _ 0 _ (by omega) (part2 s).1 (part2 s).2
  have h3 : xr3 s = max (xr2 s) ((attO 5 (upB s)).getD (-1)) := by unfold xr3; exact step_max _ _ _ 0 _ (by omega) (part3 s).1 (part3 s).2
  have h4 : xr4 s = max (xr3 s) ((attO 3 (upB s)).getD (-1)) := by unfold xr4; exact step_max _ _ _ 0 _ (by omega) (part4 s).1 (part4 s).2
  have h5 : xr5 s = max (xr4 s) ((attO 4 (upB s)).getD (-1)) := by unfold xr5; exact step_max _ _ _ 0 _ (by omega) (part5 s).1 (part5 s).2
  unfold parO
  rw [first_max, h5, h4, h3, h2, h1, h0]
theorem xr5_res (s : ByteArray) : max (xr5 s) 0 = parV s ∧ decide (0 ≤ xr5 s) = parOk s := by
  rw [xr5_par]
  unfold parV parOk
  cases h : parO s with
  | none => exact ⟨by decide, by decide⟩
  | some x =>
    have hge : 0 ≤ x := by
      have h2 := first_max (upB s)
      have e : firstO (upB s) 6 = some x := h
      have := h2
      rw [e] at this
      by_cases g : 0 ≤ x
      · exact g
      · have g0 := att_ge 0 (upB s) (by omega)
        have a0 : ∀ k, k < 6 → (attO k (upB s)).getD (-1) = -1 ∨ 0 ≤ (attO k (upB s)).getD (-1) := fun k hk => by
          have := att_ge k (upB s) hk
          omega
        have hx : x = -1 := by
          have : -1 ≤ x := by
            have := h2
            rw [e] at this
            simp only [Option.getD_some] at this
            omega
          omega
        exfalso
        subst hx
        have hk : ∃ k, k < 6 ∧ attO k (upB s) = some (-1) := by
          have e' : (((((((none : Option Int).or (attO 0 (upB s))).or (attO 1 (upB s))).or (attO 2 (upB s))).or (attO 3 (upB s))).or (attO 4 (upB s))).or (attO 5 (upB s))) = some (-1) := e
          cases h0 : attO 0 (upB s) with
          | some y => rw [h0] at e'; simp at e'; exact ⟨0, by omega, by rw [h0, e']⟩
          | none => cases h1 : attO 1 (upB s) with
            | some y => rw [h0, h1] at e'; simp at e'; exact ⟨1, by omega, by rw [h1, e']⟩
            | none => cases h2 : attO 2 (upB s) with
              | some y => rw [h0, h1, h2] at e'; simp at e'; exact ⟨2, by omega, by rw [h2, e']⟩
              | none => cases h3 : attO 3 (upB s) with
                | some y => rw [h0, h1, h2, h3] at e'; simp at e'; exact ⟨3, by omega, by rw [h3, e']⟩
                | none => cases h4 : attO 4 (upB s) with
                  | some y => rw [h0, h1, h2, h3, h4] at e'; simp at e'; exact ⟨4, by omega, by rw [h4, e']⟩
                  | none => rw [h0, h1, h2, h3, h4] at e'; simp at e'; exact ⟨5, by omega, e'⟩
        obtain ⟨k, hk, hs⟩ := hk
        have hc : k = 0 ∨ k = 1 ∨ k = 2 ∨ k = 3 ∨ k = 4 ∨ k = 5 := by omega
        rcases hc with rfl | rfl | rfl | rfl | rfl | rfl
        · have := (some0 _ _ hs).1; omega
        · have := (some1 _ _ hs).1; omega
        · have := (some2 _ _ hs).1; omega
        · have := (some3 _ _ hs).1; omega
        · have := (some4 _ _ hs).1; omega
        · have := (some5 _ _ hs).1; omega
    exact ⟨by simp; omega, by simp; omega⟩
theorem upB_up (s : ByteArray) : upB (upB s) = upB s := by
  refine up_of _ (fun b hb => ?_)
  rw [upB_list] at hb
  obtain ⟨c, _, rfl⟩ := List.mem_map.1 hb
  have h := byteTab (fun c => decide (capU (capU c) = capU c)) (by decide +kernel) c
  exact of_decide_eq_true h
theorem par_up (s : ByteArray) : parV (upB s) = parV s ∧ parOk (upB s) = parOk s := by
  have h : parO (upB s) = parO s := by unfold parO; rw [upB_up]
  unfold parV parOk
  rw [h]
  exact ⟨rfl, rfl⟩
end Go.Proofs.YtcmcikcagpkocaaDoor
