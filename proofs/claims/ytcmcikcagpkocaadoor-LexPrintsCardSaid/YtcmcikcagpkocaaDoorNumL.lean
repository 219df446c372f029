/-
  Plain facts on words: which words have which form, what num.Parse returns for num.Text's words.
-/
import Derived.Test.YtcmcikcagpkocaaDoorNumE
import Derived.Test.YtcmcikcagpkocaaDoorNumJ
namespace Go.Proofs.YtcmcikcagpkocaaDoor
set_option linter.unusedVariables false

def rdLO (base : Int) (l : List UInt8) : Option Int := if l = [] then none else rdL base l
theorem preB_iff (u p : ByteArray) : preB u p = true ↔ ∃ r, u.data.toList = p.data.toList ++ r := by
  unfold preB
  rw [Bool.and_eq_true, decide_eq_true_iff, beq_iff_eq, ByteArray.toList_eq, ByteArray.toList_eq, Lib.extract_data]
  have hu : u.data.toList.length = u.size := by simp
  have hp : p.data.toList.length = p.size := by simp
  constructor
  · rintro ⟨_, h⟩
    simp only [List.drop_zero, Nat.sub_zero] at h
    exact ⟨u.data.toList.drop p.size, by rw [← h, List.take_append_drop]⟩
  · rintro ⟨r, h⟩
    refine ⟨?_, ?_⟩
    · rw [← hu, h, List.length_append]; omega
    · simp only [List.drop_zero, Nat.sub_zero]
      rw [h, ← hp, List.take_left]
theorem cutPre_of (u p : ByteArray) (r : List UInt8) (h : u.data.toList = p.data.toList ++ r) : preB u p = true ∧ (cutPre u p).data.toList = r := by
  have h1 := (preB_iff u p).2 ⟨r, h⟩
  have hu : u.data.toList.length = u.size := by simp
  have hp : p.data.toList.length = p.size := by simp
  refine ⟨h1, ?_⟩
  unfold cutPre
  rw [if_pos h1, Lib.extract_data, h, ← hp, List.drop_left]
  exact List.take_of_length_le (by rw [← hu, h, List.length_append]; omega)
theorem sufB_iff (u p : ByteArray) : sufB u p = true ↔ ∃ r, u.data.toList = r ++ p.data.toList := by
  unfold sufB
  rw [Bool.and_eq_true, decide_eq_true_iff, beq_iff_eq, ByteArray.toList_eq, ByteArray.toList_eq, Lib.extract_data]
  have hu : u.data.toList.length = u.size := by simp
  have hp : p.data.toList.length = p.size := by simp
  constructor
  · rintro ⟨hle, h⟩
    rw [List.take_of_length_le (by rw [List.length_drop]; omega)] at h
    exact ⟨u.data.toList.take (u.size - p.size), by rw [← h, List.take_append_drop]⟩
  · rintro ⟨r, h⟩
    have hr : u.size - p.size = r.length := by rw [← hu, h, List.length_append]; omega
    refine ⟨?_, ?_⟩
    · rw [← hu, h, List.length_append]; omega
    · rw [hr, h, List.drop_left]
      exact List.take_of_length_le (by rw [← hu, h, List.length_append]; omega)
theorem cutSuf_of (u p : ByteArray) (r : List UInt8) (h : u.data.toList = r ++ p.data.toList) : sufB u p = true ∧ (cutSuf u p).data.toList = r := by
  have h1 := (sufB_iff u p).2 ⟨r, h⟩
  have hu : u.data.toList.length = u.size := by simp
  have hp : p.data.toList.length = p.size := by simp
  have hr : u.size - p.size = r.length := by rw [← hu, h, List.length_append]; omega
  refine ⟨h1, ?_⟩
  unfold cutSuf
  rw [if_pos h1, Lib.extract_data, hr, h, List.drop_zero, Nat.sub_zero, List.take_left]

theorem att0_eq (u : ByteArray) : attO 0 u = rdLO 10 u.data.toList := by unfold attO; rw [if_pos (show hasW 0 u = true from rfl)]; rfl
theorem attPre_eq (k : Nat) (p u : ByteArray) (base : Int) (hw : hasW k u = preB u p) (hc : cutW k u = cutPre u p) (hb : baseW k = base) (r : List UInt8) (h : u.data.toList = p.data.toList ++ r) : attO k u = rdLO base r := by
  obtain ⟨h1, h2⟩ := cutPre_of u p r h
  unfold attO
  rw [hw, if_pos h1, hc, hb]
  unfold rdO
  rw [h2]
  rfl
theorem attPre_no (k : Nat) (p u : ByteArray) (hw : hasW k u = preB u p) (h : ¬ ∃ r, u.data.toList = p.data.toList ++ r) : attO k u = none := by
  unfold attO
  rw [hw, if_neg (fun e => h ((preB_iff u p).1 e))]
theorem att1_eq (u : ByteArray) (r : List UInt8) (h : u.data.toList = 48 :: 88 :: r) : attO 1 u = rdLO 16 r := attPre_eq 1 ⟨#[48, 88]⟩ u 16 rfl rfl rfl r h
theorem att1_no (u : ByteArray) (h : ¬ ∃ r, u.data.toList = 48 :: 88 :: r) : attO 1 u = none := attPre_no 1 ⟨#[48, 88]⟩ u rfl h
theorem att2_eq (u : ByteArray) (r : List UInt8) (h : u.data.toList = 36 :: r) : attO 2 u = rdLO 16 r := attPre_eq 2 ⟨#[36]⟩ u 16 rfl rfl rfl r h
theorem att2_no (u : ByteArray) (h : ¬ ∃ r, u.data.toList = 36 :: r) : attO 2 u = none := attPre_no 2 ⟨#[36]⟩ u rfl h
theorem att5_eq (u : ByteArray) (r : List UInt8) (h : u.data.toList = 37 :: r) : attO 5 u = rdLO 2 r := attPre_eq 5 ⟨#[37]⟩ u 2 rfl rfl rfl r h
theorem att5_no (u : ByteArray) (h : ¬ ∃ r, u.data.toList = 37 :: r) : attO 5 u = none := attPre_no 5 ⟨#[37]⟩ u rfl h
theorem att4_eq (u : ByteArray) (r : List UInt8) (h : u.data.toList = r ++ [66]) : attO 4 u = rdLO 2 r := by
  obtain ⟨h1, h2⟩ := cutSuf_of u ⟨#[66]⟩ r h
  unfold attO
  rw [show hasW 4 u = sufB u ⟨#[66]⟩ from rfl, if_pos h1]
  unfold rdO
  rw [show cutW 4 u = cutSuf u ⟨#[66]⟩ from rfl, h2]
  rfl
theorem att4_no (u : ByteArray) (h : ¬ ∃ r, u.data.toList = r ++ [66]) : attO 4 u = none := by
  unfold attO
  rw [show hasW 4 u = sufB u ⟨#[66]⟩ from rfl, if_neg (fun e => h ((sufB_iff u _).1 e))]
theorem hexB_of (u : ByteArray) (r : List UInt8) (h : u.data.toList = r ++ [72]) : hexB u = (!r.isEmpty && decB ((r.getD 0 0).toNat : Int)) := by
  obtain ⟨h1, h2⟩ := cutSuf_of u ⟨#[72]⟩ r h
  unfold hexB
  rw [h1, ByteArray.toList_eq, h2, Bool.true_and]
theorem att3_eq (u : ByteArray) (c : UInt8) (r : List UInt8) (h : u.data.toList = (c :: r) ++ [72]) (hc : decB (c.toNat : Int) = true) : attO 3 u = rdLO 16 (c :: r) := by
  obtain ⟨h1, h2⟩ := cutSuf_of u ⟨#[72]⟩ (c :: r) h
  have h3 : hasW 3 u = true := by
    rw [show hasW 3 u = hexB u from rfl, hexB_of u (c :: r) h]
    simpa using hc
  unfold attO
  rw [if_pos h3]
  unfold rdO
  rw [show cutW 3 u = cutSuf u ⟨#[72]⟩ from rfl, h2]
  rfl
theorem att3_no (u : ByteArray) (h : ¬ ∃ c r, u.data.toList = (c :: r) ++ [72] ∧ decB (c.toNat : Int) = true) : attO 3 u = none := by
  have h3 : hasW 3 u = false := by
    rw [show hasW 3 u = hexB u from rfl]
    by_cases h1 : sufB u ⟨#[72]⟩ = true
    · obtain ⟨r, hr⟩ := (sufB_iff u _).1 h1
      rw [hexB_of u r hr]
      cases r with
      | nil => rfl
      | cons c r =>
        by_cases hc : decB (c.toNat : Int) = true
        · exact absurd ⟨c, r, hr, hc⟩ h
        · simpa using hc
    · exact hexB_no (by simpa using h1)
  unfold attO
  rw [h3]
  rfl

/-- A byte that a digit, or the H behind the digits, is. -/
theorem capU_hexU : ∀ x : Fin 16, capU (hexU (x.val : Int)) = hexU (x.val : Int) ∧ hexU (x.val : Int) ≠ 88 ∧ hexU (x.val : Int) ≠ 36 ∧ hexV ((hexU (x.val : Int)).toNat : Int) = (x.val : Int) := by decide +kernel
theorem hexU_facts (x : Int) (h0 : 0 ≤ x) (h1 : x < 16) : capU (hexU x) = hexU x ∧ hexU x ≠ 88 ∧ hexU x ≠ 36 ∧ hexV ((hexU x).toNat : Int) = x := by
  have h := capU_hexU ⟨x.toNat, by omega⟩
  have e : ((x.toNat : Nat) : Int) = x := by omega
  simp only [e] at h
  exact h
theorem rd16_step (m x : Int) (h0 : 0 ≤ x) (h1 : x < 16) (h2 : m * 16 + x ≤ 65535) : rdStep 16 (some m) (hexU x) = some (m * 16 + x) := by
  unfold rdStep
  rw [(hexU_facts x h0 h1).2.2.2]
  simp only [Option.bind_some]
  rw [if_neg (by omega), if_pos h2]
/-- A word of digits with an H behind it, the first of which is decimal. -/
theorem par_of_digits (u : ByteArray) (c : UInt8) (r : List UInt8) (n : Int) (h : u.data.toList = (c :: r) ++ [72]) (hup : upB u = u) (hc : decB (c.toNat : Int) = true) (hx : ∀ b ∈ r, b ≠ 88)
    (hn : rdL 16 (c :: r) = some n) : parO u = some n := by
  unfold parO
  rw [hup]
  have a0 : attO 0 u = none := by
    rw [att0_eq, h]
    unfold rdLO
    rw [if_neg (by simp), rdL_snoc]
    unfold rdStep
    cases rdL 10 (c :: r) with
    | none => rfl
    | some m => simp only [Option.bind_some]; rw [if_pos (.inl (by decide))]
  have a1 : attO 1 u = none := att1_no u (by
    rintro ⟨q, hq⟩
    rw [h] at hq
    cases r with
    | nil => simp at hq
    | cons b r =>
      have hb : b = 88 := by
        simp only [List.cons_append, List.cons.injEq] at hq
        exact hq.2.1
      exact hx b (by simp) hb)
  have a2 : attO 2 u = none := att2_no u (by
    rintro ⟨q, hq⟩
    rw [h] at hq
    have hb : c = 36 := by
      simp only [List.cons_append, List.cons.injEq] at hq
      exact hq.1
    rw [hb] at hc
    exact absurd hc (by decide))
  have a3 : attO 3 u = some n := by
    rw [att3_eq u c r h hc]
    unfold rdLO
    rw [if_neg (by simp)]
    exact hn
  show ((((((none : Option Int).or (attO 0 u)).or (attO 1 u)).or (attO 2 u)).or (attO 3 u)).or (attO 4 u)).or (attO 5 u) = some n
  rw [a0, a1, a2, a3]
  rfl
theorem up_of (u : ByteArray) (h : ∀ b ∈ u.data.toList, capU b = b) : upB u = u := by
  apply bytes_ext
  rw [upB_list]
  conv => rhs; rw [← List.map_id u.data.toList]
  exact List.map_congr_left h
theorem dig_caps (n : Int) (h0 : 10 ≤ n) (h1 : n ≤ 65535) : ∀ b ∈ (digS n).data.toList, capU b = b ∧ b ≠ 88 := by
  have f := fun i => hexU_facts (digI n i) (digI_bd n i).1 (digI_bd n i).2
  intro b hb
  rcases digS_cases n h0 h1 with ⟨_, h, _⟩ | ⟨_, _, h, _⟩ | ⟨_, _, h, _⟩ | ⟨_, h, _⟩ <;> rw [h] at hb <;> simp only [List.mem_cons, List.not_mem_nil, or_false] at hb
  · rcases hb with rfl | rfl | rfl | rfl <;> exact ⟨(f _).1, (f _).2.1⟩
  · rcases hb with rfl | rfl | rfl <;> exact ⟨(f _).1, (f _).2.1⟩
  · rcases hb with rfl | rfl <;> exact ⟨(f _).1, (f _).2.1⟩
  · subst hb; exact ⟨(f _).1, (f _).2.1⟩
theorem dig_value (n : Int) (h0 : 10 ≤ n) (h1 : n ≤ 65535) : (digS n).data.toList.foldl (rdStep 16) (some 0) = some n := by
  have d3 : digI n 3 = n / 4096 % 16 := by unfold digI; simp
  have d2 : digI n 2 = n / 256 % 16 := by unfold digI; simp
  have d1 : digI n 1 = n / 16 % 16 := by unfold digI; simp
  have d0 : digI n 0 = n % 16 := by unfold digI; simp
  have b := fun i => digI_bd n i
  have b3 := b 3
  have b2 := b 2
  have b1 := b 1
  have b0 := b 0
  rcases digS_cases n h0 h1 with ⟨_, h, _⟩ | ⟨_, _, h, _⟩ | ⟨_, _, h, _⟩ | ⟨_, h, _⟩ <;> rw [h] <;> simp only [List.foldl_cons, List.foldl_nil]
  · rw [rd16_step 0 _ b3.1 b3.2 (by omega), rd16_step _ _ b2.1 b2.2 (by omega), rd16_step _ _ b1.1 b1.2 (by omega), rd16_step _ _ b0.1 b0.2 (by omega)]
    congr 1; omega
  · rw [rd16_step 0 _ b2.1 b2.2 (by omega), rd16_step _ _ b1.1 b1.2 (by omega), rd16_step _ _ b0.1 b0.2 (by omega)]
    congr 1; omega
  · rw [rd16_step 0 _ b1.1 b1.2 (by omega), rd16_step _ _ b0.1 b0.2 (by omega)]
    congr 1; omega
  · rw [rd16_step 0 _ b0.1 b0.2 (by omega)]
    congr 1; omega
theorem par_text_small : ∀ i : Fin 10, parO (textS (i.val : Int)) = some (i.val : Int) := by decide +kernel
/-- P1.7: Parse inverts Text. -/
theorem par_text (n : Int) (h0 : 0 ≤ n) (h1 : n ≤ 65535) : parO (textS n) = some n := by
  by_cases h2 : n < 10
  · have h := par_text_small ⟨n.toNat, by omega⟩
    have e : ((n.toNat : Nat) : Int) = n := by omega
    simp only [e] at h
    exact h
  · have hp := digS_pos n (by omega) h1
    have hl := list_cons (digS n) hp
    have hcaps := dig_caps n (by omega) h1
    have hval := dig_value n (by omega) h1
    by_cases h3 : decB ((digS n)[0].toNat : Int) = true
    · have ht : (textS n).data.toList = ((digS n)[0] :: ((digS n).extract 1 (digS n).size).data.toList) ++ [72] := by
        rw [← text_dec n (by omega) h1 hp h3, append_data, ← hl]
      refine par_of_digits _ _ _ n ht (up_of _ fun b hb => ?_) h3 (fun b hb => (hcaps b (by rw [hl]; exact List.mem_cons_of_mem _ hb)).2) (by rw [← hl]; exact hval)
      rw [ht, ← hl] at hb
      rcases List.mem_append.1 hb with hb | hb
      · exact (hcaps b hb).1
      · simp at hb; subst hb; decide
    · have h3' : decB ((digS n)[0].toNat : Int) = false := by simpa using h3
      have ht : (textS n).data.toList = (48 :: (digS n).data.toList) ++ [72] := by
        rw [← text_let n (by omega) h1 hp h3', append_data, append_data]
        rfl
      refine par_of_digits _ _ _ n ht (up_of _ fun b hb => ?_) (by decide) (fun b hb => (hcaps b hb).2) (by
        unfold rdL
        rw [List.foldl_cons, show rdStep 16 (some 0) 48 = some 0 by decide]
        exact hval)
      rw [ht] at hb
      rcases List.mem_append.1 hb with hb | hb
      · rcases List.mem_cons.1 hb with rfl | hb
        · decide
        · exact (hcaps b hb).1
      · simp at hb; subst hb; decide
theorem text_out (n : Int) (h : n < 0 ∨ 65535 < n) : parV (textS n) = 0 ∧ parOk (textS n) = false := by
  have e : textS n = ⟨#[]⟩ := by unfold textS; rw [if_pos h]
  rw [e]
  decide +kernel
theorem text_in (n : Int) (h0 : 0 ≤ n) (h1 : n ≤ 65535) : parV (textS n) = n ∧ parOk (textS n) = true := by
  unfold parV parOk
  rw [par_text n h0 h1]
  exact ⟨rfl, rfl⟩
theorem textS_max (n : Int) : (textS n).size ≤ maxLen := by
  have h := digS_le n
  have hl : (digS n).data.toList.length = (digS n).size := by simp
  unfold textS maxLen
  split
  · show (#[] : Array UInt8).size ≤ _; simp
  · split
    · show (#[hexU n] : Array UInt8).size ≤ _; simp
    · split
      · show ((digS n).data.toList ++ [72]).toArray.size ≤ _
        simp only [List.size_toArray, List.length_append, List.length_cons, List.length_nil]; omega
      · show (48 :: (digS n).data.toList ++ [72]).toArray.size ≤ _
        simp only [List.size_toArray, List.length_append, List.length_cons, List.length_nil]; omega
end Go.Proofs.YtcmcikcagpkocaaDoor
