/-
  What the reference's Values and Fill make, and that the program makes the same (no program).
-/
import Derived.Test.YtbbpkoaeedkncaaGreatDoorGAB
set_option linter.all false
set_option maxRecDepth 100000
set_option maxHeartbeats 4000000
namespace Go.Proofs.YtbbpkoaeedkncaaGreatDoor
open Go.RowKit
theorem letR_cases (ex : Str) (L : List Tr) (k : Nat) : letR ex L k = 100 ∨ letR ex L k = 101 ∨ letR ex L k = 110 ∨ letR ex L k = 119 ∨ letR ex L k = 0 := by
  unfold letR
  repeat' split
  all_goals simp
def valR (ex : Str) (L C : List Tr) : Nat → Int × Int
  | 0 => (0, 0)
  | k + 1 => if letR ex L k = 100 then ((C.getD k tr0).2.2, (valR ex L C k).2) else if letR ex L k = 0 then valR ex L C k else ((valR ex L C k).1, (C.getD k tr0).2.2)
def numTo (ks : List Int) (L C : List Tr) (k : Nat) : Int := match atV ks L with
  | some j => if j < k then (C.getD j tr0).2.2 else 0
  | none => 0
theorem numTo_hit {ks : List Int} {L C : List Tr} {k : Nat} (h : atV ks L = some k) : numTo ks L C (k + 1) = (C.getD k tr0).2.2 := by
  unfold numTo
  rw [h]
  simp
theorem numTo_miss {ks : List Int} {L C : List Tr} {k : Nat} (h : atV ks L ≠ some k) : numTo ks L C (k + 1) = numTo ks L C k := by
  unfold numTo
  cases hj : atV ks L with
  | none => rfl
  | some j =>
    have : j ≠ k := fun e => h (by rw [hj, e])
    simp only
    by_cases h1 : j < k
    · rw [if_pos h1, if_pos (by omega)]
    · rw [if_neg h1, if_neg (by omega)]
theorem valR_eq {ex : Str} {L : List Tr} (C : List Tr) (hp : placesB ex L = true) : ∀ k, k ≤ L.length → valR ex L C k = (numTo (varsV ex).1.1 L C k, numTo (varsV ex).2.1 L C k)
  | 0, _ => by
    have e : ∀ ks, numTo ks L C 0 = 0 := fun ks => by unfold numTo; split <;> simp
    rw [e, e]
    rfl
  | k + 1, hk => by
    have ih := valR_eq C hp k (by omega)
    have hpk := List.all_eq_true.1 hp k (List.mem_range.2 (by omega))
    unfold placeB at hpk
    unfold valR
    by_cases h1 : atV (varsV ex).1.1 L = some k
    · rw [if_pos h1] at hpk
      simp only [Bool.and_eq_true, beq_iff_eq, decide_eq_true_eq] at hpk
      rw [if_pos hpk.1.1, numTo_hit h1, numTo_miss hpk.2, ih]
    · rw [if_neg h1] at hpk
      by_cases h2 : atV (varsV ex).2.1 L = some k
      · rw [if_pos h2] at hpk
        simp only [Bool.and_eq_true, bne_iff_ne, ne_eq, decide_eq_true_eq] at hpk
        rw [if_neg hpk.1.1, if_neg hpk.1.2, numTo_miss h1, numTo_hit h2, ih]
      · rw [if_neg h2] at hpk
        have hz : letR ex L k = 0 := beq_iff_eq.1 hpk
        rw [if_neg (by rw [hz]; decide), if_pos hz, numTo_miss h1, numTo_miss h2, ih]
theorem numTo_all {ks : List Int} {L C : List Tr} (h : L.map ks2 = C.map ks2) : numTo ks L C L.length = numV ks C := by
  unfold numTo numV
  rw [← atV_congr ks h]
  cases hj : atV ks L with
  | none => rfl
  | some j => simp [atV_lt hj]
theorem val_same {m ex : Str} {L : List Tr} (hp : placesB ex L = true) (s : ByteArray) (C : List Tr) : valV m L ex s C = if fitsR m L ex s C = true then valR ex L C C.length else (0, 0) := by
  unfold valV
  rw [has_fits hp]
  by_cases hf : fitsR m L ex s C = true
  · rw [if_pos hf, if_pos hf]
    have hsh : L.map ks2 = C.map ks2 := by
      unfold fitsR shpR at hf
      simp only [Bool.and_eq_true, decide_eq_true_eq] at hf
      exact hf.1.2
    rw [← len_of_shape hsh, valR_eq C hp _ (Nat.le_refl _), numTo_all hsh, numTo_all hsh]
  · rw [if_neg hf, if_neg hf]
def stR (ex : Str) (L : List Tr) (d n : Int) (k : Nat) : Tr := if letR ex L k = 100 then ((L.getD k tr0).1, (L.getD k tr0).2.1, d) else if letR ex L k = 0 then L.getD k tr0 else ((L.getD k tr0).1, (L.getD k tr0).2.1, n)
def okR (ex : Str) (L : List Tr) (d n : Int) (k : Nat) : Bool := letR ex L k == 0 || withR (letR ex L k) (stR ex L d n k).2.2
def useD (ex : Str) (L : List Tr) (d : Int) (k : Nat) : Bool := (d == 0) || (List.range k).any fun j => letR ex L j == 100
def useN (ex : Str) (L : List Tr) (n : Int) (k : Nat) : Bool := (n == 0) || (List.range k).any fun j => letR ex L j != 100 && letR ex L j != 0
def fillR (ex : Str) (L : List Tr) (d n : Int) : Option (List Tr) :=
  if (List.range L.length).all (okR ex L d n) = true ∧ useD ex L d L.length = true ∧ useN ex L n L.length = true then some ((List.range L.length).map (stR ex L d n)) else none
theorem let_d {ex : Str} {L : List Tr} (hp : placesB ex L = true) {k : Nat} (hk : k < L.length) : letR ex L k = 100 ↔ atV (varsV ex).1.1 L = some k := by
  have h := places_at hp k hk
  unfold placeB at h
  constructor
  · intro e
    by_cases h1 : atV (varsV ex).1.1 L = some k
    · exact h1
    · rw [if_neg h1] at h
      by_cases h2 : atV (varsV ex).2.1 L = some k
      · rw [if_pos h2, e] at h
        simp at h
      · rw [if_neg h2, e] at h
        cases h
  · intro h1
    rw [if_pos h1] at h
    simp only [Bool.and_eq_true, beq_iff_eq, decide_eq_true_eq] at h
    exact h.1.1
theorem let_n {ex : Str} {L : List Tr} (hp : placesB ex L = true) {k : Nat} (hk : k < L.length) : (letR ex L k ≠ 100 ∧ letR ex L k ≠ 0) ↔ atV (varsV ex).2.1 L = some k := by
  have h := places_at hp k hk
  unfold placeB at h
  constructor
  · rintro ⟨e1, e2⟩
    by_cases h1 : atV (varsV ex).1.1 L = some k
    · exact absurd ((let_d hp hk).2 h1) e1
    · rw [if_neg h1] at h
      by_cases h2 : atV (varsV ex).2.1 L = some k
      · exact h2
      · rw [if_neg h2] at h
        exact absurd (beq_iff_eq.1 h) e2
  · intro h2
    by_cases h1 : atV (varsV ex).1.1 L = some k
    · rw [if_pos h1] at h
      simp only [Bool.and_eq_true, decide_eq_true_eq] at h
      exact absurd h2 h.2
    · rw [if_neg h1, if_pos h2] at h
      simp only [Bool.and_eq_true, bne_iff_ne, ne_eq, decide_eq_true_eq] at h
      exact h.1
theorem rng_d {ex : Str} {L : List Tr} (hp : placesB ex L = true) {k : Nat} (h1 : atV (varsV ex).1.1 L = some k) (d : Int) : inV (varsV ex).1 d = withR 100 d := by
  have h := places_at hp k (atV_lt h1)
  unfold placeB at h
  rw [if_pos h1] at h
  simp only [Bool.and_eq_true, beq_iff_eq, decide_eq_true_eq] at h
  rw [withR_range]
  unfold inV
  rw [← h.1.2]
theorem rng_n {ex : Str} {L : List Tr} (hp : placesB ex L = true) {k : Nat} (h2 : atV (varsV ex).2.1 L = some k) (n : Int) : inV (varsV ex).2 n = withR (letR ex L k) n := by
  have h := places_at hp k (atV_lt h2)
  unfold placeB at h
  by_cases h1 : atV (varsV ex).1.1 L = some k
  · rw [if_pos h1] at h
    simp only [Bool.and_eq_true, decide_eq_true_eq] at h
    exact absurd h2 h.2
  · rw [if_neg h1, if_pos h2] at h
    simp only [Bool.and_eq_true, bne_iff_ne, ne_eq, decide_eq_true_eq] at h
    rw [withR_range]
    unfold inV
    rw [← h.2]
theorem put_d {ex : Str} {L : List Tr} (hp : placesB ex L = true) (d n : Int) : putB (varsV ex).1 L d = true ↔ (∀ k, k < L.length → letR ex L k = 100 → okR ex L d n k = true) ∧ useD ex L d L.length = true := by
  unfold putB useD
  cases hj : atV (varsV ex).1.1 L with
  | none =>
    simp only [decide_eq_true_eq, Bool.or_eq_true, beq_iff_eq, List.any_eq_true, List.mem_range]
    have hno : ∀ k, k < L.length → letR ex L k ≠ 100 := fun k hk e => by
      have := (let_d hp hk).1 e
      rw [hj] at this
      cases this
    constructor
    · exact fun h => ⟨fun k hk e => absurd e (hno k hk), .inl h⟩
    · rintro ⟨-, h | ⟨k, hk, e⟩⟩
      · exact h
      · exact absurd e (hno k hk)
  | some j =>
    have hjl := atV_lt hj
    have hlj := (let_d hp hjl).2 hj
    simp only
    rw [rng_d hp hj]
    simp only [Bool.or_eq_true, beq_iff_eq, List.any_eq_true, List.mem_range]
    constructor
    · intro h
      refine ⟨fun k hk e => ?_, .inr ⟨j, hjl, hlj⟩⟩
      unfold okR stR
      rw [if_pos e, e]
      simp [h]
    · rintro ⟨h, -⟩
      have := h j hjl hlj
      unfold okR stR at this
      rw [if_pos hlj, hlj] at this
      simpa using this
theorem put_n {ex : Str} {L : List Tr} (hp : placesB ex L = true) (d n : Int) : putB (varsV ex).2 L n = true ↔ (∀ k, k < L.length → letR ex L k ≠ 100 → letR ex L k ≠ 0 → okR ex L d n k = true) ∧ useN ex L n L.length = true := by
  unfold putB useN
  cases hj : atV (varsV ex).2.1 L with
  | none =>
    simp only [decide_eq_true_eq, Bool.or_eq_true, beq_iff_eq, List.any_eq_true, List.mem_range, Bool.and_eq_true, bne_iff_ne, ne_eq]
    have hno : ∀ k, k < L.length → ¬ (letR ex L k ≠ 100 ∧ letR ex L k ≠ 0) := fun k hk e => by
      have := (let_n hp hk).1 e
      rw [hj] at this
      cases this
    constructor
    · exact fun h => ⟨fun k hk e1 e2 => absurd ⟨e1, e2⟩ (hno k hk), .inl h⟩
    · rintro ⟨-, h | ⟨k, hk, e⟩⟩
      · exact h
      · exact absurd e (hno k hk)
  | some j =>
    have hjl := atV_lt hj
    have hlj := (let_n hp hjl).2 hj
    simp only
    rw [rng_n hp hj]
    simp only [Bool.or_eq_true, beq_iff_eq, List.any_eq_true, List.mem_range, Bool.and_eq_true, bne_iff_ne, ne_eq]
    constructor
    · intro h
      refine ⟨fun k hk e1 e2 => ?_, .inr ⟨j, hjl, hlj⟩⟩
      have hkj : k = j := by
        have := (let_n hp hk).1 ⟨e1, e2⟩
        rw [hj] at this
        exact (Option.some.inj this).symm
      subst hkj
      unfold okR stR
      rw [if_neg e1, if_neg e2]
      simp [h]
    · rintro ⟨h, -⟩
      have := h j hjl hlj.1 hlj.2
      unfold okR stR at this
      rw [if_neg hlj.1, if_neg hlj.2] at this
      simpa [hlj.2] using this
theorem putB_shape (v : Vr) {L C : List Tr} (h : L.map ks2 = C.map ks2) (n : Int) : putB v L n = putB v C n := by
  unfold putB
  rw [atV_congr v.1 h]
theorem fill_same {ex : Str} {L : List Tr} (hp : placesB ex L = true) (d n : Int) : fillR ex L d n = fillV ex L d n := by
  have hd := put_d hp d n
  have hn := put_n hp d n
  have hsh := putL_shape (varsV ex).1.1 L d
  rw [← putB_shape _ hsh] at hn
  have hc : ((List.range L.length).all (okR ex L d n) = true ∧ useD ex L d L.length = true ∧ useN ex L n L.length = true) ↔ (putB (varsV ex).1 L d = true ∧ putB (varsV ex).2 (putL (varsV ex).1.1 L d) n = true) := by
    rw [hd, hn, List.all_eq_true]
    constructor
    · rintro ⟨h1, h2, h3⟩
      exact ⟨⟨fun k hk _ => h1 k (List.mem_range.2 hk), h2⟩, fun k hk _ _ => h1 k (List.mem_range.2 hk), h3⟩
    · rintro ⟨⟨h1, h2⟩, h3, h4⟩
      refine ⟨fun k hk => ?_, h2, h4⟩
      have hk := List.mem_range.1 hk
      by_cases e1 : letR ex L k = 100
      · exact h1 k hk e1
      · by_cases e2 : letR ex L k = 0
        · unfold okR
          rw [e2]
          rfl
        · exact h3 k hk e1 e2
  unfold fillR
  by_cases h : putB (varsV ex).1 L d = true ∧ putB (varsV ex).2 (putL (varsV ex).1.1 L d) n = true
  · have hf : fillV ex L d n = some (putL (varsV ex).2.1 (putL (varsV ex).1.1 L d) n) := by unfold fillV; rw [if_pos h]
    rw [if_pos (hc.2 h), hf]
    have hl := len_of_shape (fill_shape hf).1
    refine congrArg some (ext_getD (by rw [List.length_map, List.length_range]; exact hl.symm) fun i hi => ?_)
    rw [List.length_map, List.length_range] at hi
    rw [fill_get hf i hi, List.getD_eq_getElem?_getD, List.getElem?_map, List.getElem?_range hi]
    simp only [Option.map_some, Option.getD_some]
    unfold stR
    by_cases e1 : letR ex L i = 100
    · have a1 := (let_d hp hi).1 e1
      have a2 : atV (varsV ex).2.1 L ≠ some i := fun e => ((let_n hp hi).2 e).1 e1
      rw [if_pos e1, if_neg a2, if_pos a1]
    · have a1 : atV (varsV ex).1.1 L ≠ some i := fun e => e1 ((let_d hp hi).2 e)
      rw [if_neg e1]
      by_cases e2 : letR ex L i = 0
      · have a2 : atV (varsV ex).2.1 L ≠ some i := fun e => ((let_n hp hi).2 e).2 e2
        rw [if_pos e2, if_neg a2, if_neg a1]
      · rw [if_neg e2, if_pos ((let_n hp hi).1 ⟨e1, e2⟩)]
  · have hf : fillV ex L d n = none := by unfold fillV; rw [if_neg h]
    rw [if_neg (fun e => h (hc.1 e)), hf]
end Go.Proofs.YtbbpkoaeedkncaaGreatDoor
