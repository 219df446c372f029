/-
  Runs that are put in one after the other: when that succeeds, and what it makes. No program.
-/
import Derived.Test.YtllfebekanafhaaImgT
namespace Go.Proofs.Ytllfebekanafhaa
open Go.RowKit
set_option linter.unusedVariables false

def inR (r : R) (i : Nat) : Prop := r.addr.toNat ≤ i ∧ i < r.addr.toNat + r.data.length
def okR (r : R) : Prop := 0 ≤ r.addr ∧ r.addr < 65536 ∧ r.addr.toNat + r.data.length ≤ 65536
theorem code_iff {W : List Cel} {n : Int} {xs : List UInt8} : codeW W n xs = 0 ↔ (0 ≤ n ∧ n < 65536 ∧ n.toNat + xs.length ≤ 65536) ∧ ∀ c ∈ W, ¬ (n.toNat ≤ c.1 ∧ c.1 < n.toNat + xs.length) := by
  constructor
  · intro h
    obtain ⟨h1, h2, h3, h4⟩ := code_zero h
    refine ⟨⟨h1, h2, h3⟩, fun c hc hh => ?_⟩
    rw [anyB_hasW.2 ⟨c, hc, hh.1, hh.2⟩] at h4
    cases h4
  · rintro ⟨⟨h1, h2, h3⟩, h4⟩
    have ha : addrB n = true := by unfold addrB; rw [decide_eq_true h1, decide_eq_true h2]; rfl
    have hy : anyB (fun j => hasW W (n.toNat + j)) xs.length = false := by
      cases hy : anyB (fun j => hasW W (n.toNat + j)) xs.length
      · rfl
      · obtain ⟨c, hc, q1, q2⟩ := anyB_hasW.1 hy
        exact absurd ⟨q1, q2⟩ (h4 c hc)
    unfold codeW putE
    rw [if_neg (by rw [ha]; decide), if_neg (by omega), hy]
    rfl
theorem ofW_fail (W : List Cel) (l : List R) (h : (ofW W l).2 ≠ 0) : (ofW W l).1 = [] := by
  induction l generalizing W with
  | nil => exact absurd rfl h
  | cons r t ih =>
    simp only [ofW] at h ⊢
    by_cases hc : codeW W r.addr r.data = 0
    · rw [if_pos hc] at h ⊢; exact ih _ h
    · rw [if_neg hc]
theorem putW_mem {W : List Cel} {n : Int} {xs : List UInt8} (h : codeW W n xs = 0) (c : Cel) : c ∈ putW W n xs ↔ c ∈ W ∨ c ∈ mkW n.toNat xs := by
  unfold putW; rw [if_pos h]; exact mem_insW
theorem of_iff (V : List Cel) (l : List R) : (ofW V l).2 = 0 ↔ (∀ r ∈ l, okR r) ∧ (∀ r ∈ l, ∀ c ∈ V, ¬ inR r c.1) ∧ l.Pairwise (fun r s => ∀ i, inR r i → ¬ inR s i) := by
  induction l generalizing V with
  | nil => simp [ofW]
  | cons r t ih =>
    simp only [ofW]
    by_cases hc : codeW V r.addr r.data = 0
    · rw [if_pos hc, ih (putW V r.addr r.data), List.pairwise_cons]
      obtain ⟨h1, h2⟩ := code_iff.1 hc
      constructor
      · rintro ⟨q1, q2, q3⟩
        refine ⟨fun s hs => ?_, fun s hs c hc' => ?_, fun s hs i hi hi' => ?_, q3⟩
        · rcases List.mem_cons.1 hs with rfl | hs
          · exact h1
          · exact q1 s hs
        · rcases List.mem_cons.1 hs with rfl | hs
          · exact h2 c hc'
          · exact q2 s hs c ((putW_mem hc c).2 (.inl hc'))
        · exact q2 s hs (i, r.data.getD (i - r.addr.toNat) 0) ((putW_mem hc _).2 (.inr (mkW_mem.2 ⟨hi.1, hi.2, rfl⟩))) hi'
      · rintro ⟨q1, q2, q3, q4⟩
        refine ⟨fun s hs => q1 s (List.mem_cons_of_mem _ hs), fun s hs c hc' => ?_, q4⟩
        rcases (putW_mem hc c).1 hc' with h | h
        · exact q2 s (List.mem_cons_of_mem _ hs) c h
        · have := mkW_mem.1 h
          exact q3 s hs c.1 ⟨this.1, this.2.1⟩
    · rw [if_neg hc]
      constructor
      · intro h; exact absurd h hc
      · rintro ⟨q1, q2, _⟩
        exact absurd (code_iff.2 ⟨q1 r List.mem_cons_self, q2 r List.mem_cons_self⟩) hc
theorem of_mem (V : List Cel) (l : List R) (h : (ofW V l).2 = 0) (c : Cel) : c ∈ (ofW V l).1 ↔ c ∈ V ∨ ∃ r ∈ l, c ∈ mkW r.addr.toNat r.data := by
  induction l generalizing V with
  | nil => simp [ofW]
  | cons r t ih =>
    simp only [ofW] at h ⊢
    by_cases hc : codeW V r.addr r.data = 0
    · rw [if_pos hc] at h ⊢
      rw [ih _ h, putW_mem hc]
      constructor
      · rintro ((h | h) | ⟨s, hs, h⟩)
        · exact .inl h
        · exact .inr ⟨r, List.mem_cons_self, h⟩
        · exact .inr ⟨s, List.mem_cons_of_mem _ hs, h⟩
      · rintro (hm | ⟨s, hs, hm⟩)
        · exact .inl (.inl hm)
        · rcases List.mem_cons.1 hs with e | hs
          · rw [e] at hm; exact .inl (.inr hm)
          · exact .inr ⟨s, hs, hm⟩
    · rw [if_neg hc] at h; exact absurd h hc
theorem of_reverse (rs : List R) : ((ofW [] rs.reverse).2 = 0 ↔ (ofW [] rs).2 = 0) ∧ ((ofW [] rs).2 = 0 → (ofW [] rs.reverse).1 = (ofW [] rs).1) := by
  have e : (ofW [] rs.reverse).2 = 0 ↔ (ofW [] rs).2 = 0 := by
    rw [of_iff, of_iff, List.pairwise_reverse]
    constructor
    · rintro ⟨q1, q2, q3⟩
      exact ⟨fun r hr => q1 r (List.mem_reverse.2 hr), fun r hr c hc => absurd hc List.not_mem_nil, q3.imp fun h i hi hi' => h i hi' hi⟩
    · rintro ⟨q1, q2, q3⟩
      exact ⟨fun r hr => q1 r (List.mem_reverse.1 hr), fun r hr c hc => absurd hc List.not_mem_nil, q3.imp fun h i hi hi' => h i hi' hi⟩
  refine ⟨e, fun h => sorted_ext (ofW_sorted _ _ sorted_nil).1 (ofW_sorted _ _ sorted_nil).1 fun c => ?_⟩
  rw [of_mem _ _ (e.2 h), of_mem _ _ h]
  simp only [List.mem_reverse]
/-- Of inverts Runs. -/
theorem of_runs {W : List Cel} (hs : SortedW W) {rs : List R} (h : pairs rs = pairN (runsW W)) : ofW [] rs = (W, 0) := by
  have hmem : ∀ c, (∃ r ∈ rs, c ∈ mkW r.addr.toNat r.data) ↔ c ∈ W := fun c => by
    conv => rhs; rw [← expand_runs W]
    unfold expand
    rw [List.mem_flatMap]
    constructor
    · rintro ⟨r, hr, hc⟩
      obtain ⟨k, hk, rfl⟩ := List.mem_iff_getElem.1 hr
      obtain ⟨hl, e1, e2⟩ := pairs_get h k hk
      refine ⟨_, List.getElem_mem hl, ?_⟩
      rw [e1, e2] at hc
      simpa using hc
    · rintro ⟨r, hr, hc⟩
      obtain ⟨k, hk, rfl⟩ := List.mem_iff_getElem.1 hr
      have hk' : k < rs.length := by rw [pairs_length h]; exact hk
      obtain ⟨hl, e1, e2⟩ := pairs_get h k hk'
      refine ⟨_, List.getElem_mem hk', ?_⟩
      rw [e1, e2]
      simpa using hc
  have hcan := canon_runs hs.1
  have hne : ∀ r ∈ rs, r.data ≠ [] ∧ 0 ≤ r.addr := fun r hr => by
    obtain ⟨k, hk, rfl⟩ := List.mem_iff_getElem.1 hr
    obtain ⟨hl, e1, e2⟩ := pairs_get h k hk
    exact ⟨by rw [e2]; exact hcan.1 _ (List.getElem_mem hl), by rw [e1]; omega⟩
  have hin : ∀ r ∈ rs, ∀ i, inR r i → i < 65536 := fun r hr i hi => hs.2 (i, r.data.getD (i - r.addr.toNat) 0) ((hmem _).1 ⟨r, hr, mkW_mem.2 ⟨hi.1, hi.2, rfl⟩⟩)
  have hz : (ofW [] rs).2 = 0 := by
    rw [of_iff]
    refine ⟨fun r hr => ?_, fun r hr c hc => absurd hc List.not_mem_nil, ?_⟩
    · obtain ⟨q1, q2⟩ := hne r hr
      have hpos := List.length_pos_iff.2 q1
      have a1 := hin r hr r.addr.toNat ⟨Nat.le_refl _, by omega⟩
      have a2 := hin r hr (r.addr.toNat + (r.data.length - 1)) ⟨by omega, by omega⟩
      exact ⟨q2, by omega, by omega⟩
    · rw [List.pairwise_iff_getElem]
      intro i j hi hj hij k hk hk'
      obtain ⟨li, e1, e2⟩ := pairs_get h i hi
      obtain ⟨lj, e3, e4⟩ := pairs_get h j hj
      have hlt : ∀ (d j : Nat) (hj : j < (runsW W).length), i + d + 1 = j → (runsW W)[i].1 + (runsW W)[i].2.length < (runsW W)[j].1 := by
        intro d
        induction d with
        | zero =>
          intro j hj e
          subst e
          exact hcan.2 i hj
        | succ d ih =>
          intro j hj e
          have h1 := ih (i + d + 1) (by omega) rfl
          have h2 := hcan.2 (i + d + 1) (by omega)
          have e' : i + d + 1 + 1 = j := by omega
          subst e'
          omega
      have := hlt (j - i - 1) j lj (by omega)
      unfold inR at hk hk'
      rw [e1, e2] at hk
      rw [e3, e4] at hk'
      simp only [Int.toNat_natCast] at hk hk'
      omega
  have hW : (ofW [] rs).1 = W := sorted_ext (ofW_sorted _ _ sorted_nil).1 hs.1 fun c => by
    rw [of_mem _ _ hz, ← hmem c]
    simp
  exact Prod.ext hW hz
end Go.Proofs.Ytllfebekanafhaa
