/-
  The walks over Ops, Known and the document's own Ops and Known; whether strings are equal.
-/
import Derived.Test.YthpaamekpfhkjaaDoorInA
import Derived.Test.YthpaamekpfhkjaaDoorIter
import Derived.Sort.KeysCollected
import Derived.Sort.OwnSorted
import Derived.WalkKit
import Derived.TacticsIn
import Derived.TacticsInMore
namespace Go.Proofs.YthpaamekpfhkjaaDoor
open Go.RowKit Go.Maps Go.Sort
set_option linter.unusedVariables false

theorem le_tr : ∀ a b c : List UInt8, decide (a ≤ b) = true → decide (b ≤ c) = true → decide (a ≤ c) = true := fun a b c h1 h2 => by
  simp only [decide_eq_true_eq] at *
  exact List.le_trans h1 h2
theorem le_to : ∀ a b : List UInt8, (decide (a ≤ b) || decide (b ≤ a)) = true := fun a b => by
  simp only [Bool.or_eq_true, decide_eq_true_eq]
  exact List.le_total a b
/-- A slice of strings that reads as L. -/
def StrsA (w : World) (A : Option Addr) (L : List ByteArray) : Prop := L = [] ∨ ∃ b off, A = some ⟨b, off, none⟩ ∧ ∀ j (h : j < L.length), w.cell? ⟨b, off + j, none⟩ = some (.string L[j])
theorem StrsA.at_ {w : World} {A : Option Addr} {L : List ByteArray} (h : StrsA w A L) {k : Nat} (hk : k < L.length) : ∃ b off, A = some ⟨b, off, none⟩ ∧ w.cell? ⟨b, off + k, none⟩ = some (.string L[k]) := by
  rcases h with rfl | ⟨b, off, rfl, hc⟩
  · simp at hk
  · exact ⟨b, off, rfl, hc k hk⟩
theorem StrsA.below {w w' : World} {A : Option Addr} {L : List ByteArray} (h : StrsA w A L) (hb : Below w.heap.size w w') : StrsA w' A L := by
  rcases h with rfl | ⟨b, off, rfl, hc⟩
  · exact .inl rfl
  · exact .inr ⟨b, off, rfl, fun j hj => (hb.cell (World.block_lt_of_cell? w _ (hc j hj))).trans (hc j hj)⟩
def RetStrs (w : World) (L : List ByteArray) (e : Ending) (w' : World) : Prop := ∃ A cap, e = .returned (.slice A L.length cap) ∧ StrsA w' A L ∧ Below w.heap.size w w'
theorem strB_ne {a b : ByteArray} (h : a ≠ b) : (a.toList == b.toList) = false := beq_eq_false_iff_ne.2 fun e => h (by
  rw [ByteArray.toList_eq, ByteArray.toList_eq] at e
  exact ByteArray.ext (Array.toList_inj.1 e))
theorem strB_eq (a : ByteArray) : (a.toList == a.toList) = true := beq_self_eq_true _
theorem strs_of_new (w : World) (L : List ByteArray) (t : TypeId) : StrsA (w.alloc (.cells (L.map Value.string).toArray t)) (some ⟨w.heap.size, 0, none⟩) L :=
  .inr ⟨_, 0, rfl, fun j hj => by rw [Nat.zero_add]; exact strs_new w L t j hj⟩
theorem ops_pw : opsC.Pairwise (fun a b => decide (a ≤ b) = true) := by decide +kernel
theorem ops_keys : strKeys mnD = opsC := by decide +kernel
theorem opsC_len : opsC.length = 68 := by decide +kernel
theorem sort_ops (ss : List (List UInt8)) (h : ss.Perm opsC) : (ss.mergeSort fun x y => decide (x ≤ y)) = opsC := by
  have h1 : (ss.mergeSort fun x y => decide (x ≤ y)).Pairwise (fun a b => decide (a ≤ b) = true) := List.pairwise_mergeSort le_tr le_to ss
  have h2 : (ss.mergeSort fun x y => decide (x ≤ y)).Perm opsC := (List.mergeSort_perm _ _).trans h
  exact h2.eq_of_pairwise (le := fun a b => decide (a ≤ b) = true) (fun a b _ _ h3 h4 => by
    simp only [decide_eq_true_eq] at h3 h4
    exact List.le_antisymm h3 h4) h1 ops_pw
theorem strs_of_row {w : World} {n : Nat} {v : Value} (h : w.ownsRow n 9 1 v 68 (opsC.map encStr)) : ∃ A cap, v = .slice A opsL.length cap ∧ StrsA w A opsL := by
  rcases h.2 with ⟨_, h0⟩ | ⟨g, cap, cur, rfl, _⟩
  · omega
  · refine ⟨_, cap, by rw [ops_len], .inr ⟨g, 0, rfl, fun j hj => ?_⟩⟩
    have hj' : j < opsC.length := by rw [ops_len] at hj; rw [opsC_len]; exact hj
    rw [Nat.zero_add, h.cellAt j (by rw [opsC_len] at hj'; omega), List.getElem?_map, List.getElem?_eq_getElem hj']
    have e : opsL[j] = ⟨opsC[j].toArray⟩ := by simp only [opsL, List.getElem_map]
    exact congrArg (fun z => some (Value.string z)) e.symm
theorem size_mnD : Maps.size mnD = 68 := by decide +kernel
set_option maxRecDepth 10000 in
set_option maxHeartbeats 1000000 in
theorem ops_any (w : World) : Calls Tryd.prog 23 #[] w (RetStrs w opsL) := by
  have hs : Maps.size mnD ≤ maxLen := by rw [size_mnD]; unfold maxLen; omega
  have hs2 : Maps.size mnD * 16 ≤ 140737488355328 := by rw [size_mnD]; omega
  refine (callsIn_wide (n := 6)).1 ?_
  have hfM : Fence.wide.fn 27 := trivial
  have hfK : Fence.wide.fn 38 := trivial
  have hfS : Fence.wide.fn 37 := trivial
  refine callsIn_of_wp Tryd.func23 rfl trivial ?_ rfl
  simp only [Tryd.ntmps23, List.size_toArray, List.length_cons, List.length_nil, Nat.reduceAdd, Nat.reduceSub, Array.replicate_succ, Array.replicate_zero, List.push_toArray, List.append_toArray, List.nil_append, List.cons_append]
  gi_wp2_with (first
    | (gi_at_call 27; refine (callsIn_wide.2 (mnemonics_any _)).mono ?_; rintro e w1 ⟨mb, rfl, hown, hB1⟩)
    | (gi_at_call 38; refine (Tryd.maps_Keys_38 _ _).mono ?_; rintro e w2 ⟨rfl, rfl⟩)
    | (gi_at_call 37; refine (Tryd.slices_Sorted_keys_37_38 _ 68 mnD _ w1 hown hs hs2).mono ?_; rintro e w3 ⟨v, ss, rfl, hS, hrow, hnil, hb⟩))
  go_ret
  have e0 : ss.Perm opsC := ops_keys ▸ hS
  have e1 : ss.length = 68 := by rw [e0.length_eq, opsC_len]
  rw [sort_ops ss e0, e1] at hrow
  obtain ⟨A, cap, rfl, hA⟩ := strs_of_row hrow
  exact ⟨A, cap, rfl, hA, (hB1.alloc hB1.size _).trans (hb.mono (by have := hB1.size; simp; omega))⟩
set_option maxRecDepth 100000 in
set_option maxHeartbeats 2000000 in
theorem equalS_any (A1 A2 : Option Addr) (c1 c2 : Nat) (L1 L2 : List ByteArray) (h1 : L1.length ≤ maxLen) (h2 : L2.length ≤ maxLen) (w : World) (H1 : StrsA w A1 L1) (H2 : StrsA w A2 L2) :
    Calls Tryd.prog 22 #[.slice A1 L1.length c1, .slice A2 L2.length c2] w fun e w' => e = .returned (.bool (decide (L1 = L2))) ∧ Below w.heap.size w w' := by
  unfold maxLen at h1 h2
  by_cases hl : L1.length = L2.length
  · have X1 := Lib.hid H1
    have X2 := Lib.hid H2
    have HL := Lib.hid hl
    obtain ⟨n, hn⟩ : ∃ n, L1.length = n := ⟨_, rfl⟩
    have HN := Lib.hid hn
    rw [hn] at h1
    rw [← hl, hn]
    clear H1 H2 hl h2 hn
    go_enter Tryd.func22, Tryd.ntmps22
    go_wp2
    go_loopw [13] (fun i wr => ∃ j : Nat, j ≤ n ∧ i = .int .i64 j ∧ Hid (∀ k, k < j → ∀ (a : k < L1.length) (b : k < L2.length), L1[k] = L2[k]) ∧ Hid (Below w.heap.size w wr)) (fun i _ => n - (intOf i).toNat)
    case atStart => exact ⟨0, Nat.zero_le _, rfl, fun k h => by omega, Below.refl _ _⟩
    case round =>
      obtain ⟨j, hj, rfl, R, B⟩ := hrel
      by_cases hlt : j < n
      · have hj1 : j < L1.length := by have := HN.out; omega
        have hj2 : j < L2.length := by have := HL.out; omega
        obtain ⟨b1, o1, hA1, p0⟩ := (X1.out.below B.out).at_ hj1
        obtain ⟨b2, o2, hA2, q0⟩ := (X2.out.below B.out).at_ hj2
        subst hA1
        subst hA2
        have B2 := fun q => Lib.hid (B.out.trans (below_drewN wr w.heap.size q))
        by_cases he : L1[j] = L2[j]
        · have R2 : Hid (∀ k, k < j + 1 → ∀ (a : k < L1.length) (b : k < L2.length), L1[k] = L2[k]) := fun k hk a b => by
            by_cases e : k = j
            · subst e; exact he
            · exact R.out k (by omega) a b
          rw [he] at p0
          obtain ⟨x, hx⟩ : ∃ x, L2[j] = x := ⟨_, rfl⟩
          rw [hx] at p0 q0
          have q1 := strB_eq x
          clear he hx hj1 hj2 R
          go_wp2
          go_quiet (fail)
          go_wp2
          go_roundw
          case rel => exact ⟨j + 1, by omega, by go_num, R2.out, (B2 _).out⟩
          case measure => simp [intOf]; omega
        · have T : Hid (false = decide (L1 = L2)) := (decide_eq_false (fun e => he (by simp only [e]))).symm
          have q1 := strB_ne he
          obtain ⟨x, hx⟩ : ∃ x, L1[j] = x := ⟨_, rfl⟩
          obtain ⟨y, hy⟩ : ∃ y, L2[j] = y := ⟨_, rfl⟩
          rw [hx] at p0 q1
          rw [hy] at q0 q1
          clear he hx hy hj1 hj2 R
          go_wp2
          go_quiet (fail)
          go_wp2
          go_ret
          exact ⟨ret_bool T.out, (B2 _).out⟩
      · have T : Hid (true = decide (L1 = L2)) := by
          refine (decide_eq_true (List.ext_getElem HL.out fun k a b => ?_)).symm
          exact R.out k (by have := HN.out; omega) a b
        clear R
        go_wp2
        go_ret
        exact ⟨ret_bool T.out, B.out⟩
  · have T : Hid (false = decide (L1 = L2)) := (decide_eq_false (fun e => hl (by rw [e]))).symm
    have hl' : ((L1.length : Int) == (L2.length : Int)) = false := beq_eq_false_iff_ne.2 (by omega)
    have hl2 : ¬ ((L1.length : Int) = (L2.length : Int)) := by omega
    clear H1 H2
    go_enter Tryd.func22, Tryd.ntmps22
    go_wp2
    go_ret
    exact ⟨ret_bool T.out, Below.refl _ _⟩

set_option maxRecDepth 100000 in
set_option maxHeartbeats 1000000 in
theorem rops_any (w : World) : Calls Tryd.prog 24 #[] w (RetStrs w opsL) := by
  go_enter Tryd.func24, Tryd.ntmps24
  go_wp2
  go_ret
  exact ⟨_, 68, rfl, strs_of_new w opsL 9, (Below.refl _ _).alloc (Nat.le_refl _) _⟩
set_option maxHeartbeats 1000000 in
theorem known_any (s : ByteArray) (hs : s.size ≤ maxLen) (w : World) :
    Calls Tryd.prog 19 #[.string s] w fun e w' => e = .returned (.bool (knB (upB s))) ∧ Below w.heap.size w w' := by
  have hu : (upB s).size ≤ maxLen := by rw [upB_size]; exact hs
  have UP := Lib.hid (upper_any s hs)
  go_enter Tryd.func19, Tryd.ntmps19
  go_wp2_with fail
  refine (mnemonics_any _).mono ?_
  rintro e w1 ⟨mb, rfl, hM, h1⟩
  have M1 := Lib.hid hM
  have B1 := Lib.hid h1
  clear hM h1
  go_wp2_with fail
  refine (UP.out _).mono ?_
  rintro e w2 ⟨rfl, h2⟩
  have LK := look_mn (M1.out.below h2) (upB s) hu
  have B2 := Lib.hid (B1.out.trans (h2.mono B1.out.size))
  clear h2 UP
  go_wp2
  go_ret
  exact ⟨rfl, B2.out⟩
theorem kn_yes (s : ByteArray) (j : Nat) (h : j < opsL.length) (e : (opsL[j].toList == s.toList) = true) : true = knB s :=
  (List.any_eq_true.2 ⟨_, List.getElem_mem h, e⟩).symm
theorem kn_no (s : ByteArray) (h : ∀ k, k < 68 → ∀ (a : k < opsL.length), (opsL[k].toList == s.toList) = false) : false = knB s := by
  refine (List.any_eq_false.2 fun x hx => ?_).symm
  obtain ⟨k, hk, rfl⟩ := List.getElem_of_mem hx
  rw [h k (by rw [ops_len] at hk; exact hk) hk]
  exact Bool.false_ne_true
set_option maxHeartbeats 2000000 in
theorem rknown_any (s : ByteArray) (w : World) :
    Calls Tryd.prog 20 #[.string s] w fun e w' => e = .returned (.bool (knB s)) ∧ Below w.heap.size w w' := by
  go_enter Tryd.func20, Tryd.ntmps20
  go_wp2_with fail
  refine (rops_any _).mono ?_
  rintro e w1 ⟨A, cap, rfl, hA, h1⟩
  have X := Lib.hid hA
  have B1 := Lib.hid h1
  clear hA h1
  rw [ops_len]
  go_wp2
  go_loopw [4] (fun i wr => ∃ j : Nat, j ≤ 68 ∧ i = .int .i64 j ∧ Hid (∀ k, k < j → ∀ (a : k < opsL.length), (opsL[k].toList == s.toList) = false) ∧ wr = w1) (fun i _ => 68 - (intOf i).toNat)
  case atStart => exact ⟨0, Nat.zero_le _, rfl, fun k h => by omega, rfl⟩
  case round =>
    obtain ⟨j, hj, rfl, R, rfl⟩ := hrel
    by_cases hlt : j < 68
    · have hj1 : j < opsL.length := by rw [ops_len]; exact hlt
      obtain ⟨b1, o1, hA1, p0⟩ := X.out.at_ hj1
      subst hA1
      cases q : (opsL[j].toList == s.toList)
      · have R2 : Hid (∀ k, k < j + 1 → ∀ (a : k < opsL.length), (opsL[k].toList == s.toList) = false) := fun k hk a => by
          by_cases e : k = j
          · subst e; exact q
          · exact R.out k (by omega) a
        obtain ⟨x, hx⟩ : ∃ x, opsL[j] = x := ⟨_, rfl⟩
        rw [hx] at p0 q
        clear hx R hj1
        go_wp2
        go_roundw
        case rel => exact ⟨j + 1, by omega, by go_num, R2.out, trivial⟩
        case measure => simp [intOf]; omega
      · have T : Hid (true = knB s) := kn_yes s j hj1 q
        obtain ⟨x, hx⟩ : ∃ x, opsL[j] = x := ⟨_, rfl⟩
        rw [hx] at p0 q
        clear hx R hj1
        go_wp2
        go_ret
        exact ⟨ret_bool T.out, B1.out⟩
    · have hj8 : j = 68 := by omega
      subst hj8
      have T : Hid (false = knB s) := kn_no s R.out
      clear R hlt
      go_wp2
      go_ret
      exact ⟨ret_bool T.out, B1.out⟩
end Go.Proofs.YthpaamekpfhkjaaDoor
