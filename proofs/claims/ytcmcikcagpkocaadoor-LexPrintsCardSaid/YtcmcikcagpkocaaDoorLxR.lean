/-
  The walk over the reference's sign.
-/
import Derived.Test.YtcmcikcagpkocaaDoorLxQ
import Derived.Test.YtcmcikcagpkocaaDoorLxK
import Derived.Test.YtcmcikcagpkocaaDoorMixP
import Derived.Test.YtcmcikcagpkocaaDoorLxB
namespace Go.Proofs.YtcmcikcagpkocaaDoor
open Go.RowKit
set_option linter.unusedVariables false
attribute [local go_sem] Oper.semAt_some

def oneL : List UInt8 := [44, 40, 41, 43, 45, 42, 47, 38, 124, 94, 126, 58, 61, 36]
def oneS : ByteArray := ⟨#[44, 40, 41, 43, 45, 42, 47, 38, 124, 94, 126, 58, 61, 36]⟩
theorem one_tab : ∀ n : Fin 256, (oneL.map fun x => [x]).find? (fun s => s.isPrefixOf [UInt8.ofNat n.val]) = if oneL.contains (UInt8.ofNat n.val) = true then some [UInt8.ofNat n.val] else none := by decide +kernel
theorem sign_one (c : UInt8) (r : List UInt8) (h1 : [60, 60].isPrefixOf (c :: r) = false) (h2 : [62, 62].isPrefixOf (c :: r) = false) : signO (c :: r) = if oneL.contains c = true then some [c] else none := by
  have e : signsL = [60, 60] :: [62, 62] :: oneL.map fun x => [x] := rfl
  unfold signO
  rw [e, List.find?_cons, List.find?_cons, h1, h2]
  have t := one_tab ⟨c.toNat, c.toNat_lt⟩
  simp only [UInt8.ofNat_toNat] at t
  rw [← t]
  refine find_cong _ _ _ fun x hx => ?_
  obtain ⟨y, -, rfl⟩ := List.mem_map.1 hx
  simp only [List.isPrefixOf]
  try simp
theorem sign_two (l : List UInt8) (h : [60, 60].isPrefixOf l = true) : signO l = some [60, 60] := by
  unfold signO signsL
  rw [List.find?_cons, h]
theorem sign_two' (l : List UInt8) (h1 : [60, 60].isPrefixOf l = false) (h : [62, 62].isPrefixOf l = true) : signO l = some [62, 62] := by
  unfold signO signsL
  rw [List.find?_cons, h1, List.find?_cons, h]
/-- The length of the sign that stands first, or 0. -/
def sgnN (l : List UInt8) : Nat := match signO l with
  | some x => x.length
  | none => 0
theorem pre_two (s : ByteArray) (a : Nat) (c : UInt8) (h : a + 1 < s.size) : [c, c].isPrefixOf (rst s a) = ((s.extract a (a + 2)).toList == [c, c]) := by
  rw [eq_list, sOf_ext s a 2, sOf_list]
  show _ = decide ((rst s a).take 2 = [c, c])
  rw [rst_cons s a (by omega), rst_cons s (a + 1) h]
  rw [Bool.eq_iff_iff, decide_eq_true_iff, List.isPrefixOf_iff_prefix]
  constructor
  · rintro ⟨q, hq⟩
    simp at hq
    simp [hq.1.symm, hq.2.1.symm]
  · intro hq
    simp at hq
    rw [hq.1, hq.2]
    exact ⟨_, rfl⟩
theorem pre_short (s : ByteArray) (a : Nat) (c : UInt8) (ha : a < s.size) (h : ¬ a + 1 < s.size) : [c, c].isPrefixOf (rst s a) = false := by
  rw [rst_cons s a ha, show a + 1 = s.size by omega, rst_end]
  simp [List.isPrefixOf]
set_option maxRecDepth 100000 in
set_option maxHeartbeats 1000000 in
theorem rsign16_any (s : ByteArray) (a : Nat) (hs : s.size ≤ 100000) (ha : a < s.size) (w : World) :
    Calls Tryd.prog 55 #[.string s, .int .i64 a] w fun e w' => e = .returned (.int .i64 (sgnN (rst s a) : Nat)) ∧ Below w.heap.size w w' := by
  obtain ⟨m, hm⟩ : ∃ m, sgnN (rst s a) = m := ⟨_, rfl⟩
  have hr := rst_cons s a ha
  obtain ⟨q1, hq1⟩ : ∃ q, [60, 60].isPrefixOf (rst s a) = q := ⟨_, rfl⟩
  obtain ⟨q2, hq2⟩ : ∃ q, [62, 62].isPrefixOf (rst s a) = q := ⟨_, rfl⟩
  have M1 : q1 = true → m = 2 := fun h => by rw [← hm]; unfold sgnN; rw [sign_two _ (hq1.trans h)]; rfl
  have M2 : q1 = false → q2 = true → m = 2 := fun h h' => by rw [← hm]; unfold sgnN; rw [sign_two' _ (hq1.trans h) (hq2.trans h')]; rfl
  have M3 : q1 = false → q2 = false → m = if oneL.contains s[a] = true then 1 else 0 := fun h h' => by
    rw [← hm]
    unfold sgnN
    rw [hr] at hq1 hq2 ⊢
    rw [sign_one _ _ (hq1.trans h) (hq2.trans h')]
    by_cases hc : oneL.contains s[a] = true
    · rw [if_pos hc, if_pos hc]; rfl
    · rw [if_neg hc, if_neg hc]
  rw [hm]
  have T : (a + 1 < s.size ∧ ((s.extract a (a + 2)).toList == [60, 60]) = q1 ∧ ((s.extract a (a + 2)).toList == [62, 62]) = q2) ∨ (¬ a + 1 < s.size ∧ q1 = false ∧ q2 = false) := by
    by_cases h : a + 1 < s.size
    · exact .inl ⟨h, by rw [← hq1, pre_two s a 60 h], by rw [← hq2, pre_two s a 62 h]⟩
    · exact .inr ⟨h, by rw [← hq1, pre_short s a 60 ha h], by rw [← hq2, pre_short s a 62 ha h]⟩
  have N1 := Lib.hid M1
  have N2 := Lib.hid M2
  have N3 := Lib.hid M3
  clear M1 M2 M3 hq1 hq2 hr hm
  have loop : q1 = false → q2 = false → ∀ (c : Int), c = (s[a].toNat : Int) → Hid (m = if oneL.contains s[a] = true then 1 else 0) := fun h h' _ _ => N3.out h h'
  rcases T with ⟨h, e1, e2⟩ | ⟨h, rfl, rfl⟩
  · cases q1
    · cases q2
      · have E := Lib.hid (N3.out rfl rfl)
        clear loop N1 N2 N3
        go_enter Tryd.func55, Tryd.ntmps55
        go_wp2
        go_loopw [6] (fun iv wr => ∃ i : Nat, i ≤ 14 ∧ iv = .int .i64 i ∧ Hid (Below w.heap.size w wr) ∧ Hid (∀ k, k < i → oneL[k]? ≠ some s[a])) (fun iv _ => 14 - (intOf iv).toNat)
        case atStart => exact ⟨0, Nat.zero_le _, rfl, Below.refl _ _, fun k hk => by omega⟩
        case round =>
          obtain ⟨i, hi, rfl, B, NO⟩ := hrel
          by_cases h14 : i < 14
          · have h14' : i < oneS.size := h14
            obtain ⟨y, hy⟩ : ∃ y, oneS[i] = y := ⟨_, rfl⟩
            have hyl : oneL[i]? = some y := by
              rw [List.getElem?_eq_getElem (show i < oneL.length from h14), ← hy]
              rfl
            have kb := beq_u8 s[a] y
            obtain ⟨S, hS⟩ : ∃ S, oneS = S := ⟨_, rfl⟩
            have hSs : S.size = 14 := by rw [← hS]; rfl
            have hyS : ∀ (h : i < S.size), S[i] = y := by subst hS; exact fun _ => hy
            have eS : (⟨#[44, 40, 41, 43, 45, 42, 47, 38, 124, 94, 126, 58, 61, 36]⟩ : ByteArray) = S := hS
            rw [eS]
            have HY := Lib.hid hyl
            clear hy hyl eS hS h14'
            have hiS : i < S.size := by rw [hSs]; exact h14
            have hy2 := hyS hiS
            go_wp2
            refine Mixed.wp_region_mixed (fun w' => Below w.heap.size w w') 6 [(0, true), (1, true), (2, true), (3, true), (4, true), (5, true)] (by kernel_rfl) (by kernel_rfl) (below_dq B.out 1) ?_
            refine Mixed.mo rfl (.string s) (fun w h => by clear h; go_simp; try rfl) ?_
            refine Mixed.mo rfl (.int .i64 (a : Int)) (fun w h => by clear h; go_simp; try rfl) ?_
            refine Mixed.mo rfl (.int .u8 (s[a].toNat : Int)) (fun w h => by clear h; go_simp; try rfl) ?_
            refine Mixed.mo rfl (.string S) (fun w h => by clear h; go_simp; try rfl) ?_
            refine Mixed.mo rfl (.int .i64 (i : Int)) (fun w h => by clear h; go_simp; try rfl) ?_
            refine Mixed.mo rfl (.int .u8 (y.toNat : Int)) (fun w h => by clear h; go_simp; try rfl) ?_
            simp only [Mixed.wpMix, List.drop_succ_cons, List.drop_zero]
            have B2 := Lib.hid (below_dq B.out 1)
            by_cases hc : s[a] = y
            · have ke : ((s[a].toNat : Int) == (y.toNat : Int)) = true := by rw [kb, decide_eq_true hc]
              have N : Hid (m = 1) := by
                show m = 1
                rw [E.out, if_pos]
                rw [List.contains_iff_mem, hc]
                exact List.mem_of_getElem? HY.out
              clear kb hc hyS hy2 NO
              go_wp2
              go_ret
              exact ⟨ret_int (by rw [N.out]; rfl), B2.out⟩
            · have ke : ((s[a].toNat : Int) == (y.toNat : Int)) = false := by rw [kb, decide_eq_false hc]
              have N : Hid (∀ k, k < i + 1 → oneL[k]? ≠ some s[a]) := fun k hk e => by
                by_cases hki : k = i
                · subst hki
                  rw [HY.out] at e
                  exact hc (Option.some.inj e).symm
                · exact NO.out k (by omega) e
              clear kb hc hyS hy2 NO
              go_wp2
              go_roundw
              case rel => exact ⟨i + 1, h14, by go_num, B2.out, N⟩
              case measure => simp [intOf]; omega
          · have N : Hid (m = 0) := by
              show m = 0
              rw [E.out, if_neg]
              rw [List.contains_iff_mem]
              intro hx
              obtain ⟨k, hk⟩ := List.getElem?_of_mem hx
              have hkl : k < 14 := (List.getElem?_eq_some_iff.1 hk).1
              exact NO.out k (by omega) hk
            clear NO
            go_wp2
            go_ret
            exact ⟨ret_int (by rw [N.out]; rfl), B.out⟩
      · have E := Lib.hid (N2.out rfl rfl)
        clear loop N1 N2 N3
        go_enter Tryd.func55, Tryd.ntmps55
        go_wp2
        go_ret
        exact ⟨ret_int (by rw [E.out]; rfl), Below.refl _ _⟩
    · have E := Lib.hid (N1.out rfl)
      clear loop N1 N2 N3
      go_enter Tryd.func55, Tryd.ntmps55
      go_wp2
      go_ret
      exact ⟨ret_int (by rw [E.out]; rfl), Below.refl _ _⟩
  · have E := Lib.hid (N3.out rfl rfl)
    clear loop N1 N2 N3
    go_enter Tryd.func55, Tryd.ntmps55
    go_wp2
    go_loopw [6] (fun iv wr => ∃ i : Nat, i ≤ 14 ∧ iv = .int .i64 i ∧ Hid (Below w.heap.size w wr) ∧ Hid (∀ k, k < i → oneL[k]? ≠ some s[a])) (fun iv _ => 14 - (intOf iv).toNat)
    case atStart => exact ⟨0, Nat.zero_le _, rfl, Below.refl _ _, fun k hk => by omega⟩
    case round =>
      obtain ⟨i, hi, rfl, B, NO⟩ := hrel
      by_cases h14 : i < 14
      · have h14' : i < oneS.size := h14
        obtain ⟨y, hy⟩ : ∃ y, oneS[i] = y := ⟨_, rfl⟩
        have hyl : oneL[i]? = some y := by
          rw [List.getElem?_eq_getElem (show i < oneL.length from h14), ← hy]
          rfl
        have kb := beq_u8 s[a] y
        obtain ⟨S, hS⟩ : ∃ S, oneS = S := ⟨_, rfl⟩
        have hSs : S.size = 14 := by rw [← hS]; rfl
        have hyS : ∀ (h : i < S.size), S[i] = y := by subst hS; exact fun _ => hy
        have eS : (⟨#[44, 40, 41, 43, 45, 42, 47, 38, 124, 94, 126, 58, 61, 36]⟩ : ByteArray) = S := hS
        rw [eS]
        have HY := Lib.hid hyl
        clear hy hyl eS hS h14'
        have hiS : i < S.size := by rw [hSs]; exact h14
        have hy2 := hyS hiS
        go_wp2
        refine Mixed.wp_region_mixed (fun w' => Below w.heap.size w w') 6 [(0, true), (1, true), (2, true), (3, true), (4, true), (5, true)] (by kernel_rfl) (by kernel_rfl) (below_dq B.out 1) ?_
        refine Mixed.mo rfl (.string s) (fun w h => by clear h; go_simp; try rfl) ?_
        refine Mixed.mo rfl (.int .i64 (a : Int)) (fun w h => by clear h; go_simp; try rfl) ?_
        refine Mixed.mo rfl (.int .u8 (s[a].toNat : Int)) (fun w h => by clear h; go_simp; try rfl) ?_
        refine Mixed.mo rfl (.string S) (fun w h => by clear h; go_simp; try rfl) ?_
        refine Mixed.mo rfl (.int .i64 (i : Int)) (fun w h => by clear h; go_simp; try rfl) ?_
        refine Mixed.mo rfl (.int .u8 (y.toNat : Int)) (fun w h => by clear h; go_simp; try rfl) ?_
        simp only [Mixed.wpMix, List.drop_succ_cons, List.drop_zero]
        have B2 := Lib.hid (below_dq B.out 1)
        by_cases hc : s[a] = y
        · have ke : ((s[a].toNat : Int) == (y.toNat : Int)) = true := by rw [kb, decide_eq_true hc]
          have N : Hid (m = 1) := by
            show m = 1
            rw [E.out, if_pos]
            rw [List.contains_iff_mem, hc]
            exact List.mem_of_getElem? HY.out
          clear kb hc hyS hy2 NO
          go_wp2
          go_ret
          exact ⟨ret_int (by rw [N.out]; rfl), B2.out⟩
        · have ke : ((s[a].toNat : Int) == (y.toNat : Int)) = false := by rw [kb, decide_eq_false hc]
          have N : Hid (∀ k, k < i + 1 → oneL[k]? ≠ some s[a]) := fun k hk e => by
            by_cases hki : k = i
            · subst hki
              rw [HY.out] at e
              exact hc (Option.some.inj e).symm
            · exact NO.out k (by omega) e
          clear kb hc hyS hy2 NO
          go_wp2
          go_roundw
          case rel => exact ⟨i + 1, h14, by go_num, B2.out, N⟩
          case measure => simp [intOf]; omega
      · have N : Hid (m = 0) := by
          show m = 0
          rw [E.out, if_neg]
          rw [List.contains_iff_mem]
          intro hx
          obtain ⟨k, hk⟩ := List.getElem?_of_mem hx
          have hkl : k < 14 := (List.getElem?_eq_some_iff.1 hk).1
          exact NO.out k (by omega) hk
        clear NO
        go_wp2
        go_ret
        exact ⟨ret_int (by rw [N.out]; rfl), B.out⟩
end Go.Proofs.YtcmcikcagpkocaaDoor
