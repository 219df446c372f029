/-
  The reference's Prefixes; slices.Equal at bytes.
-/
import Derived.Test.YtipgecdfnbldnaaDoorTaF
namespace Go.Proofs.YtipgecdfnbldnaaDoor
open Go.RowKit Go.Shelf
set_option linter.unusedVariables false

theorem rprefixes_1 (w : World) : Calls Tryd.prog 11 #[.int .i64 1] w (RetB w [203]) := by
  have O := Lib.hid (own_lit w [203] (by decide))
  go_enter Tryd.func11, Tryd.ntmps11
  go_wp2
  go_ret
  exact ⟨_, rfl, O.out, (Below.refl _ _).alloc (Nat.le_refl _) _⟩
theorem rprefixes_2 (w : World) : Calls Tryd.prog 11 #[.int .i64 2] w (RetB w [237]) := by
  have O := Lib.hid (own_lit w [237] (by decide))
  go_enter Tryd.func11, Tryd.ntmps11
  go_wp2
  go_ret
  exact ⟨_, rfl, O.out, (Below.refl _ _).alloc (Nat.le_refl _) _⟩
theorem rprefixes_3 (w : World) : Calls Tryd.prog 11 #[.int .i64 3] w (RetB w [221]) := by
  have O := Lib.hid (own_lit w [221] (by decide))
  go_enter Tryd.func11, Tryd.ntmps11
  go_wp2
  go_ret
  exact ⟨_, rfl, O.out, (Below.refl _ _).alloc (Nat.le_refl _) _⟩
theorem rprefixes_4 (w : World) : Calls Tryd.prog 11 #[.int .i64 4] w (RetB w [253]) := by
  have O := Lib.hid (own_lit w [253] (by decide))
  go_enter Tryd.func11, Tryd.ntmps11
  go_wp2
  go_ret
  exact ⟨_, rfl, O.out, (Below.refl _ _).alloc (Nat.le_refl _) _⟩
theorem rprefixes_5 (w : World) : Calls Tryd.prog 11 #[.int .i64 5] w (RetB w [221, 203]) := by
  have O := Lib.hid (own_lit w [221, 203] (by decide))
  go_enter Tryd.func11, Tryd.ntmps11
  go_wp2
  go_ret
  exact ⟨_, rfl, O.out, (Below.refl _ _).alloc (Nat.le_refl _) _⟩
theorem rprefixes_6 (w : World) : Calls Tryd.prog 11 #[.int .i64 6] w (RetB w [253, 203]) := by
  have O := Lib.hid (own_lit w [253, 203] (by decide))
  go_enter Tryd.func11, Tryd.ntmps11
  go_wp2
  go_ret
  exact ⟨_, rfl, O.out, (Below.refl _ _).alloc (Nat.le_refl _) _⟩
theorem rprefixes_any (page : Int) (w : World) : Calls Tryd.prog 11 #[.int .i64 page] w (RetB w (preS page)) := by
  unfold preS
  by_cases h1 : page = 1
  · rw [if_pos h1]; subst h1; exact rprefixes_1 w
  by_cases h2 : page = 2
  · rw [if_neg h1, if_pos h2]; subst h2; exact rprefixes_2 w
  by_cases h3 : page = 3
  · rw [if_neg h1, if_neg h2, if_pos h3]; subst h3; exact rprefixes_3 w
  by_cases h4 : page = 4
  · rw [if_neg h1, if_neg h2, if_neg h3, if_pos h4]; subst h4; exact rprefixes_4 w
  by_cases h5 : page = 5
  · rw [if_neg h1, if_neg h2, if_neg h3, if_neg h4, if_pos h5]; subst h5; exact rprefixes_5 w
  by_cases h6 : page = 6
  · rw [if_neg h1, if_neg h2, if_neg h3, if_neg h4, if_neg h5, if_pos h6]; subst h6; exact rprefixes_6 w
  rw [if_neg h1, if_neg h2, if_neg h3, if_neg h4, if_neg h5, if_neg h6]
  have e1 : (page == 1) = false := by simpa using h1
  have e2 : (page == 2) = false := by simpa using h2
  have e3 : (page == 3) = false := by simpa using h3
  have e4 : (page == 4) = false := by simpa using h4
  have e5 : (page == 5) = false := by simpa using h5
  have e6 : (page == 6) = false := by simpa using h6
  clear h1 h2 h3 h4 h5 h6
  go_enter Tryd.func11, Tryd.ntmps11
  go_wp2
  go_ret
  exact ⟨_, rfl, World.ownsRow_nil _ _ _ _, Below.refl _ _⟩
theorem BytesAt.at_ {w : World} {A : Option Addr} {L : Str} (h : BytesAt w A L) {k : Nat} (hk : k < L.length) : ∃ b off, A = some ⟨b, off, none⟩ ∧ w.cell? ⟨b, off + k, none⟩ = some (.int .u8 (L[k].toNat : Int)) := by
  rcases h with rfl | ⟨b, off, rfl, hc⟩
  · simp at hk
  · exact ⟨b, off, rfl, hc k hk⟩
set_option maxRecDepth 100000 in
set_option maxHeartbeats 2000000 in
theorem equalU_any (A1 A2 : Option Addr) (c1 c2 : Nat) (L1 L2 : Str) (h1 : L1.length ≤ maxLen) (h2 : L2.length ≤ maxLen) (w : World) (H1 : BytesAt w A1 L1) (H2 : BytesAt w A2 L2) :
    Calls Tryd.prog 10 #[.slice A1 L1.length c1, .slice A2 L2.length c2] w fun e w' => e = .returned (.bool (decide (L1 = L2))) ∧ Below w.heap.size w w' := by
  unfold maxLen at h1 h2
  by_cases hl : L1.length = L2.length
  · have X1 := Lib.hid H1
    have X2 := Lib.hid H2
    have HL := Lib.hid hl
    obtain ⟨n, hn⟩ : ∃ n, L1.length = n := ⟨_, rfl⟩
    have HN := Lib.hid hn
    rw [hn] at h1
    rw [← hl, hn]
    clear H1 H2 hl h2 hn
    go_enter Tryd.func10, Tryd.ntmps10
    go_wp2
    go_loopw [13] (fun i wr => ∃ j : Nat, j ≤ n ∧ i = .int .i64 j ∧ Hid (∀ k, k < j → ∀ (a : k < L1.length) (b : k < L2.length), L1[k] = L2[k]) ∧ Hid (Below w.heap.size w wr)) (fun i _ => n - (intOf i).toNat)
    case atStart => exact ⟨0, Nat.zero_le _, rfl, fun k h => by omega, Below.refl _ _⟩
    case round =>
      obtain ⟨j, hj, rfl, R, B⟩ := hrel
      by_cases hlt : j < n
      · have hj1 : j < L1.length := by have := HN.out; omega
        have hj2 : j < L2.length := by have := HL.out; omega
        obtain ⟨b1, o1, hA1, p0⟩ := (X1.out.below B.out).at_ hj1
        obtain ⟨b2, o2, hA2, q0⟩ := (X2.out.below B.out).at_ hj2
        subst hA1
        subst hA2
        have B2 := fun q => Lib.hid (B.out.trans (below_drewN wr w.heap.size q))
        by_cases he : L1[j] = L2[j]
        · have R2 : Hid (∀ k, k < j + 1 → ∀ (a : k < L1.length) (b : k < L2.length), L1[k] = L2[k]) := fun k hk a b => by
            by_cases e : k = j
            · subst e; exact he
            · exact R.out k (by omega) a b
          rw [he] at p0
          clear he hj1 R
          go_wp2
          go_quiet (fail)
          go_wp2
          go_roundw
          case rel => exact ⟨j + 1, by omega, by go_num, R2.out, (B2 _).out⟩
          case measure => simp [intOf]; omega
        · have T : Hid (false = decide (L1 = L2)) := (decide_eq_false (fun e => he (by simp only [e]))).symm
          have hne : ((L1[j].toNat : Int) == (L2[j].toNat : Int)) = false := by
            refine beq_eq_false_iff_ne.2 fun e => he (UInt8.toNat_inj.1 (by omega))
          have hne2 : ((L1[j].toNat : Int) != (L2[j].toNat : Int)) = true := by unfold bne; rw [hne]; rfl
          clear he R
          go_wp2
          go_quiet (fail)
          go_wp2
          go_ret
          exact ⟨ret_bool T.out, (B2 _).out⟩
      · have T : Hid (true = decide (L1 = L2)) := by
          refine (decide_eq_true (List.ext_getElem HL.out fun k a b => ?_)).symm
          exact R.out k (by have := HN.out; omega) a b
        go_wp2
        go_ret
        exact ⟨ret_bool T.out, B.out⟩
  · have T : Hid (false = decide (L1 = L2)) := (decide_eq_false (fun e => hl (by rw [e]))).symm
    have hne : ((L1.length : Int) == (L2.length : Int)) = false := by
      refine beq_eq_false_iff_ne.2 fun e => hl (by omega)
    have hne2 : ((L1.length : Int) != (L2.length : Int)) = true := by unfold bne; rw [hne]; rfl
    go_enter Tryd.func10, Tryd.ntmps10
    go_wp2
    go_ret
    exact ⟨ret_bool T.out, Below.refl _ _⟩
theorem pre_inj : ∀ p q : Fin 7, preS (p.val : Int) = preS (q.val : Int) → p = q := by decide +kernel
theorem pageF_pre (xs : Str) : ∀ (k : Nat) (p : Int), pageF xs k = some p → ∃ q : Nat, q < k ∧ p = q ∧ preS (q : Int) = xs
  | 0, p, h => by cases h
  | k + 1, p, h => by
    unfold pageF at h
    cases hp : pageF xs k with
    | some r =>
      rw [hp] at h
      simp only [Option.some.injEq] at h
      obtain ⟨q, h1, h2, h3⟩ := pageF_pre xs k r hp
      exact ⟨q, by omega, h ▸ h2, h3⟩
    | none =>
      rw [hp] at h
      simp only at h
      split at h
      · next e => exact ⟨k, by omega, (Option.some.inj h).symm, e⟩
      · cases h
theorem pageF_hit (xs : Str) (k : Nat) (hk : k < 7) (h : preS (k : Int) = xs) : pageF xs (k + 1) = some (k : Int) := by
  unfold pageF
  cases hp : pageF xs k with
  | some p =>
    obtain ⟨q, h1, h2, h3⟩ := pageF_pre xs k p hp
    have e := pre_inj ⟨q, by omega⟩ ⟨k, hk⟩ (by rw [h3, h])
    simp at e
    omega
  | none => simp [h]
theorem pageF_miss (xs : Str) (k : Nat) (h : preS (k : Int) ≠ xs) : pageF xs (k + 1) = pageF xs k := by
  have e : pageF xs (k + 1) = match pageF xs k with
    | some p => some p
    | none => if preS (k : Int) = xs then some (k : Int) else none := rfl
  rw [e]
  cases pageF xs k with
  | some p => rfl
  | none => rw [if_neg h]
theorem page_all : ∀ p : Fin 7, pageT (preS (p.val : Int)) = some (p.val : Int) := by decide +kernel
theorem pre_none (page : Int) (h : page < 0 ∨ 7 ≤ page) : preS page = [] := by
  unfold preS
  rw [if_neg (by omega), if_neg (by omega), if_neg (by omega), if_neg (by omega), if_neg (by omega), if_neg (by omega)]
theorem page_is (page : Int) : pageT (preS page) = some (if 0 ≤ page ∧ page < 7 then page else 0) := by
  by_cases h : 0 ≤ page ∧ page < 7
  · rw [if_pos h]
    obtain ⟨n, rfl⟩ : ∃ n : Nat, page = n := ⟨page.toNat, by omega⟩
    exact page_all ⟨n, by omega⟩
  · rw [if_neg h, pre_none page (by omega)]
    exact page_all ⟨0, by decide⟩
end Go.Proofs.YtipgecdfnbldnaaDoor
