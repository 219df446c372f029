/-
  The walk over breadboardref04.Dump: for every image, the dump that hexwrite.Dump returns.
-/
import Derived.Test.YtnldpcnbhibinaaHexZ
import Derived.Test.YtnldpcnbhibinaaHexW
namespace Go.Proofs.Ytnldpcnbhibinaa
open Go.RowKit
set_option linter.unusedVariables false

/-- The text so far, without its last line feed. -/
def DmpS (V : List Im.Cel) (k : Nat) (T : ByteArray) : Prop := (k = 0 ∧ T = ⟨#[]⟩) ∨ (0 < k ∧ T.data.toList ++ [10] = dumpL (V.take k))
theorem take_snoc_cel (V : List Im.Cel) (k : Nat) (hk : k < V.length) : V.take (k + 1) = V.take k ++ [V[k]] := by rw [List.take_succ_eq_append_getElem hk]
theorem dmp_first {V : List Im.Cel} (hk : 0 < V.length) {T H4 H2 : ByteArray} (hT : T = ⟨#[]⟩) (e4 : hexS (V[0].1 : Int) 4 = H4) (e2 : hexS (V[0].2.toNat : Int) 2 = H2) : DmpS V (0 + 1) (T ++ H4 ++ ⟨#[58]⟩ ++ ⟨#[32]⟩ ++ H2) := by
  refine .inr ⟨by omega, ?_⟩
  rw [take_snoc_cel V 0 hk, List.take_zero, dump_new [] V[0] (.inl rfl), e4, e2, hT, dump_nil]
  simp [append_data]
theorem dmp_new {V : List Im.Cel} {k : Nat} (hk : k + 1 < V.length) {T H4 H2 : ByteArray} (hT : DmpS V (k + 1) T) (h : V[k].1 + 1 ≠ V[k + 1].1 ∨ V[k + 1].1 % 16 = 0) (e4 : hexS (V[k + 1].1 : Int) 4 = H4) (e2 : hexS (V[k + 1].2.toNat : Int) 2 = H2) : DmpS V (k + 1 + 1) (T ++ ⟨#[10]⟩ ++ H4 ++ ⟨#[58]⟩ ++ ⟨#[32]⟩ ++ H2) := by
  rcases hT with ⟨h0, _⟩ | ⟨_, hT⟩
  · omega
  · refine .inr ⟨by omega, ?_⟩
    rw [take_snoc_cel V (k + 1) hk, dump_new _ V[k + 1] (.inr ⟨V.take k, V[k], take_snoc_cel V k (by omega), h⟩), e4, e2, ← hT]
    simp [append_data]
theorem dmp_more {V : List Im.Cel} {k : Nat} (hk : k + 1 < V.length) {T H2 : ByteArray} (hT : DmpS V (k + 1) T) (h1 : V[k].1 + 1 = V[k + 1].1) (h2 : V[k + 1].1 % 16 ≠ 0) (e2 : hexS (V[k + 1].2.toNat : Int) 2 = H2) : DmpS V (k + 1 + 1) (T ++ ⟨#[32]⟩ ++ H2) := by
  rcases hT with ⟨h0, _⟩ | ⟨_, hT⟩
  · omega
  · refine .inr ⟨by omega, ?_⟩
    obtain ⟨t, g1, g2⟩ := dump_more (V.take k) V[k] V[k + 1] h1 h2
    rw [take_snoc_cel V (k + 1) hk, take_snoc_cel V k (by omega), g2, e2]
    rw [take_snoc_cel V k (by omega), g1] at hT
    rw [← List.append_cancel_right hT]
    simp [append_data]
theorem dump_pos {W : List Im.Cel} (h : W ≠ []) : 2 ≤ (dumpL W).length := by
  rcases Im.snoc_cases W with rfl | ⟨V, c, rfl⟩
  · exact absurd rfl h
  · obtain ⟨out, r, e1, _, _⟩ := rows_end V c
    unfold dumpL
    rw [e1, List.map_append, joinL_append, List.length_append, List.map_singleton, joinL_one, List.length_append]
    have := rowB_length (r.1 : Int) r.2
    show 2 ≤ _ + ((rowB (r.1 : Int) r.2).length + _)
    omega
theorem dmp_ne {V : List Im.Cel} {k : Nat} {T : ByteArray} (h : DmpS V k T) (h0 : V.length ≠ 0) (hk : k = V.length) : T.toList.isEmpty = false := by
  rcases h with ⟨h, _⟩ | ⟨_, h⟩
  · omega
  · rw [hk, List.take_length] at h
    have h1 := dump_pos (W := V) (fun e => h0 (by rw [e]; rfl))
    rw [← h, List.length_append, List.length_singleton] at h1
    rw [ByteArray.toList_eq]
    cases hl : T.data.toList with
    | nil => rw [hl] at h1; simp at h1
    | cons a t => rfl
set_option maxHeartbeats 4000000 in
theorem rdump_any (P : Nat → Prop) (A : Option Addr) (cap : Nat) (V : List Im.Cel) (hs : Im.SortedW V) (w : World) (hW : Im.CellsP P w A V) :
    Calls Try.prog 17 #[.slice A V.length cap] w fun e w' => e = .returned (.string (strOf (dumpL V))) ∧ w = w' := by
  have hl := Im.sorted_length hs
  have Z := Lib.hid hW
  have VS := Lib.hid hs
  clear hW hs
  go_enter Try.func17, Try.ntmps17
  go_wp2
  go_loop [3, 4] (fun sv i => ∃ (k : Nat) (T : ByteArray), k ≤ V.length ∧ i = .int .i64 k ∧ sv = .string T ∧ T.size ≤ 9 * k ∧ Hid (DmpS V k T)) (fun _ i => V.length - (intOf i).toNat)
  case atStart => exact ⟨0, ⟨#[]⟩, Nat.zero_le _, rfl, rfl, Nat.le_refl _, .inl ⟨rfl, rfl⟩⟩
  case round =>
    obtain ⟨k, T, hk, rfl, rfl, hT, DS⟩ := hrel
    by_cases hlt : k < V.length
    · have hlt' : (k : Int) < (V.length : Int) := by omega
      obtain ⟨b, off, hA, g1, g2⟩ := Z.out.at_ hlt
      subst hA
      have hp0 := VS.out.2 _ (List.getElem_mem hlt)
      obtain ⟨H4, e4⟩ : ∃ H4, hexS (V[k].1 : Int) 4 = H4 := ⟨_, rfl⟩
      obtain ⟨H2, e2⟩ : ∃ H2, hexS (V[k].2.toNat : Int) 2 = H2 := ⟨_, rfl⟩
      have s4 : H4.size = 4 := by rw [← e4, hexS_size]
      have s2 : H2.size = 2 := by rw [← e2, hexS_size]
      have r4 := fun w => rhex_any (V[k].1 : Int) 4 (by omega) w
      have r2 := fun w => rhex_any (V[k].2.toNat : Int) 2 (by omega) w
      rw [e4] at r4
      rw [e2] at r2
      have E4 := Lib.hid e4
      have E2 := Lib.hid e2
      have hx1 := V[k].2.toNat_lt
      obtain ⟨p, hp⟩ : ∃ p, V[k].1 = p := ⟨_, rfl⟩
      obtain ⟨x, hx⟩ : ∃ x, V[k].2.toNat = x := ⟨_, rfl⟩
      rw [hp] at g1 hp0 r4
      rw [hx] at g2 r2 hx1
      have c1 : ¬ 9223372036854775807 < T.size + H4.size := by omega
      have c2 : ¬ 9223372036854775807 < T.size + H4.size + 1 := by omega
      have c3 : ¬ 9223372036854775807 < T.size + H4.size + 1 + 1 := by omega
      have c4 : ¬ 9223372036854775807 < T.size + H4.size + 1 + 1 + H2.size := by omega
      have d0 : ¬ 9223372036854775807 < T.size + 1 := by omega
      have d1 : ¬ 9223372036854775807 < T.size + 1 + H4.size := by omega
      have d2 : ¬ 9223372036854775807 < T.size + 1 + H4.size + 1 := by omega
      have d3 : ¬ 9223372036854775807 < T.size + 1 + H4.size + 1 + 1 := by omega
      have d4 : ¬ 9223372036854775807 < T.size + 1 + H4.size + 1 + 1 + H2.size := by omega
      have d5 : ¬ 9223372036854775807 < T.size + 1 + H2.size := by omega
      have sz1 : (T ++ H4 ++ ⟨#[58]⟩ ++ ⟨#[32]⟩ ++ H2).size ≤ 9 * (k + 1) := by
        simp only [ByteArray.size_append, s4, s2]
        show T.size + 4 + 1 + 1 + 2 ≤ _
        omega
      have sz2 : (T ++ ⟨#[10]⟩ ++ H4 ++ ⟨#[58]⟩ ++ ⟨#[32]⟩ ++ H2).size ≤ 9 * (k + 1) := by
        simp only [ByteArray.size_append, s4, s2]
        show T.size + 1 + 4 + 1 + 1 + 2 ≤ _
        omega
      have sz3 : (T ++ ⟨#[32]⟩ ++ H2).size ≤ 9 * (k + 1) := by
        simp only [ByteArray.size_append, s2]
        show T.size + 1 + 2 ≤ _
        omega
      have SZ := Lib.hid (And.intro sz1 (And.intro sz2 sz3))
      clear sz1 sz2 sz3 s4 s2 e4 e2
      by_cases hk0 : k = 0
      case pos =>
        have F : Hid (DmpS V (k + 1) (T ++ H4 ++ ⟨#[58]⟩ ++ ⟨#[32]⟩ ++ H2)) := by
          have E4' := E4.out
          have E2' := E2.out
          subst hk0
          rcases DS.out with ⟨_, h⟩ | ⟨h, _⟩
          · exact dmp_first hlt h E4' E2'
          · omega
        have e0 : ((k : Int) == 0) = true := by rw [hk0]; rfl
        have e1 : decide (0 < (k : Int)) = false := decide_eq_false (by omega)
        have e1n : decide (0 < k) = false := decide_eq_false (by omega)
        have HL := Lib.hid hlt
        clear E4 E2 hp hx hk0 hlt DS
        go_wp2_with fail
        refine (r4 _).mono ?_
        rintro e w' ⟨rfl, rfl⟩
        go_wp2_with fail
        refine (r2 _).mono ?_
        rintro e w' ⟨rfl, rfl⟩
        go_wp2
        go_round
        case rel => exact ⟨k + 1, _, by have := HL.out; omega, by go_num, rfl, SZ.out.1, F.out⟩
        case measure => have := HL.out; simp [intOf]; omega
      case neg =>
        obtain ⟨j, hj⟩ : ∃ j, k = j + 1 := ⟨k - 1, by omega⟩
        have e0 : ((k : Int) == 0) = false := beq_eq_false_iff_ne.2 (by omega)
        have e1 : decide (0 < (k : Int)) = true := decide_eq_true (by omega)
        have e1n : decide (0 < k) = true := decide_eq_true (by omega)
        have e1p : 0 < k := by omega
        have hkk : (k : Int) - 1 = (j : Int) := by omega
        obtain ⟨b', off', hA', g3, -⟩ := Z.out.at_ (show j < V.length by omega)
        simp only [Option.some.injEq, Addr.mk.injEq, and_true] at hA'
        obtain ⟨rfl, rfl⟩ := hA'
        have hlj : (j : Int) < (V.length : Int) := by omega
        have hq0 := VS.out.2 _ (List.getElem_mem (show j < V.length by omega))
        obtain ⟨q, hq⟩ : ∃ q, V[j].1 = q := ⟨_, rfl⟩
        rw [hq] at g3 hq0
        have HLT := Lib.hid hlt
        have HQ : Hid (∀ h : j + 1 < V.length, (V[j]'(Nat.lt_of_succ_lt h)).1 = q ∧ V[j + 1].1 = p ∧ hexS (V[j + 1].1 : Int) 4 = H4 ∧ hexS (V[j + 1].2.toNat : Int) 2 = H2) := by
          intro h
          have E4' := E4.out
          have E2' := E2.out
          subst hj
          exact ⟨hq, hp, E4', E2'⟩
        have DJ : Hid (DmpS V (j + 1) T) := hj ▸ DS.out
        have HJ := Lib.hid hj
        clear E4 E2 hp hx hq hk0 hj DS
        by_cases hc : q + 1 = p
        case pos =>
          have hne : ((q : Int) != (p : Int) - 1) = false := by unfold bne; rw [beq_iff_eq.2 (by omega)]; rfl
          have hne' : ((q : Int) == (p : Int) - 1) = true := beq_iff_eq.2 (by omega)
          by_cases hm : p % 16 = 0
          case pos =>
            have hm' : ((p : Int) % 16 == 0) = true := beq_iff_eq.2 (by omega)
            have F : Hid (DmpS V (k + 1) (T ++ ⟨#[10]⟩ ++ H4 ++ ⟨#[58]⟩ ++ ⟨#[32]⟩ ++ H2)) := by
              have h := HLT.out
              rw [HJ.out] at h
              obtain ⟨z1, z2, z3, z4⟩ := HQ.out h
              rw [HJ.out]
              exact dmp_new h DJ.out (.inr (by rw [z2]; exact hm)) z3 z4
            clear hm hc
            go_wp2_with fail
            refine (r4 _).mono ?_
            rintro e w' ⟨rfl, rfl⟩
            go_wp2_with fail
            refine (r2 _).mono ?_
            rintro e w' ⟨rfl, rfl⟩
            go_wp2
            go_round
            case rel => exact ⟨k + 1, _, by have := HLT.out; omega, by go_num, rfl, SZ.out.2.1, F.out⟩
            case measure => have := HLT.out; simp [intOf]; omega
          case neg =>
            have hm' : ((p : Int) % 16 == 0) = false := beq_eq_false_iff_ne.2 (by omega)
            have F : Hid (DmpS V (k + 1) (T ++ ⟨#[32]⟩ ++ H2)) := by
              have h := HLT.out
              rw [HJ.out] at h
              obtain ⟨z1, z2, z3, z4⟩ := HQ.out h
              rw [HJ.out]
              exact dmp_more h DJ.out (by rw [z1, z2]; exact hc) (by rw [z2]; exact hm) z4
            clear hm hc
            go_wp2_with fail
            refine (r2 _).mono ?_
            rintro e w' ⟨rfl, rfl⟩
            go_wp2
            go_round
            case rel => exact ⟨k + 1, _, by have := HLT.out; omega, by go_num, rfl, SZ.out.2.2, F.out⟩
            case measure => have := HLT.out; simp [intOf]; omega
        case neg =>
          have hne : ((q : Int) != (p : Int) - 1) = true := by unfold bne; rw [beq_eq_false_iff_ne.2 (by omega)]; rfl
          have hne' : ((q : Int) == (p : Int) - 1) = false := beq_eq_false_iff_ne.2 (by omega)
          have F : Hid (DmpS V (k + 1) (T ++ ⟨#[10]⟩ ++ H4 ++ ⟨#[58]⟩ ++ ⟨#[32]⟩ ++ H2)) := by
            have h := HLT.out
            rw [HJ.out] at h
            obtain ⟨z1, z2, z3, z4⟩ := HQ.out h
            rw [HJ.out]
            exact dmp_new h DJ.out (.inl (by rw [z1, z2]; exact hc)) z3 z4
          clear hc
          go_wp2_with fail
          refine (r4 _).mono ?_
          rintro e w' ⟨rfl, rfl⟩
          go_wp2_with fail
          refine (r2 _).mono ?_
          rintro e w' ⟨rfl, rfl⟩
          go_wp2
          go_round
          case rel => exact ⟨k + 1, _, by have := HLT.out; omega, by go_num, rfl, SZ.out.2.1, F.out⟩
          case measure => have := HLT.out; simp [intOf]; omega
    · have hlt' : decide ((k : Int) < (V.length : Int)) = false := decide_eq_false (by omega)
      have hkV : k = V.length := by omega
      have hcat : ¬ 9223372036854775807 < T.size + 1 := by omega
      by_cases h0 : V.length = 0
      case pos =>
        have hTe : T = ⟨#[]⟩ := by
          rcases DS.out with ⟨_, h⟩ | ⟨h, _⟩
          · exact h
          · omega
        have F : Hid (strOf (dumpL V) = ⟨#[]⟩) := by
          show _ = _
          rw [List.eq_nil_of_length_eq_zero h0]
          rfl
        subst hTe
        have hemp : (⟨#[]⟩ : ByteArray).toList.isEmpty = true := by rw [ByteArray.toList_eq]; rfl
        clear h0 hkV hT hcat
        go_wp2
        go_ret
        rw [F.out]
        exact ⟨rfl, rfl⟩
      case neg =>
        have F : Hid (T ++ ⟨#[10]⟩ = strOf (dumpL V)) := by
          show _ = _
          rcases DS.out with ⟨h, _⟩ | ⟨_, h⟩
          · omega
          · rw [hkV, List.take_length] at h
            apply bytes_ext
            rw [append_data, strOf_list]
            exact h
        have hne := dmp_ne DS.out h0 hkV
        clear h0 hkV hT
        go_wp2
        go_ret
        rw [← F.out]
        exact ⟨rfl, rfl⟩
end Go.Proofs.Ytnldpcnbhibinaa
