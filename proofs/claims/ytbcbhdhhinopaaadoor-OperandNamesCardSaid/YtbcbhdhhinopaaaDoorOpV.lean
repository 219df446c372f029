/-
  The walks over slices.Equal, Index and Contains at strings, over operand.Reserved and over the document's own Names; a name denotes an operand exactly if it is among the names.
-/
import Derived.Test.YtbcbhdhhinopaaaDoorOpU
import Derived.Test.YtbcbhdhhinopaaaDoorOpM
namespace Go.Proofs.YtbcbhdhhinopaaaDoor
open Go.RowKit
set_option linter.unusedVariables false

theorem strB_ne {a b : ByteArray} (h : a ≠ b) : (a.toList == b.toList) = false := beq_eq_false_iff_ne.2 fun e => h (by
  rw [ByteArray.toList_eq, ByteArray.toList_eq] at e
  exact ByteArray.ext (Array.toList_inj.1 e))
theorem strB_eq (a : ByteArray) : (a.toList == a.toList) = true := beq_self_eq_true _
set_option maxRecDepth 100000 in
set_option maxHeartbeats 2000000 in
theorem equalS_any (A1 A2 : Option Addr) (c1 c2 : Nat) (L1 L2 : List ByteArray) (h1 : L1.length ≤ maxLen) (h2 : L2.length ≤ maxLen) (w : World) (H1 : StrsA w A1 L1) (H2 : StrsA w A2 L2) :
    Calls Tryd.prog 17 #[.slice A1 L1.length c1, .slice A2 L2.length c2] w fun e w' => e = .returned (.bool (decide (L1 = L2))) ∧ Below w.heap.size w w' := by
  unfold maxLen at h1 h2
  by_cases hl : L1.length = L2.length
  · have X1 := Lib.hid H1
    have X2 := Lib.hid H2
    have HL := Lib.hid hl
    obtain ⟨n, hn⟩ : ∃ n, L1.length = n := ⟨_, rfl⟩
    have HN := Lib.hid hn
    rw [hn] at h1
    rw [← hl, hn]
    clear H1 H2 hl h2 hn
    go_enter Tryd.func17, Tryd.ntmps17
    go_wp2
    go_loopw [13] (fun i wr => ∃ j : Nat, j ≤ n ∧ i = .int .i64 j ∧ Hid (∀ k, k < j → ∀ (a : k < L1.length) (b : k < L2.length), L1[k] = L2[k]) ∧ Hid (Below w.heap.size w wr)) (fun i _ => n - (intOf i).toNat)
    case atStart => exact ⟨0, Nat.zero_le _, rfl, fun k h => by omega, Below.refl _ _⟩
    case round =>
      obtain ⟨j, hj, rfl, R, B⟩ := hrel
      by_cases hlt : j < n
      · have hj1 : j < L1.length := by have := HN.out; omega
        have hj2 : j < L2.length := by have := HL.out; omega
        obtain ⟨b1, o1, hA1, p0⟩ := (X1.out.below B.out).at_ hj1
        obtain ⟨b2, o2, hA2, q0⟩ := (X2.out.below B.out).at_ hj2
        subst hA1
        subst hA2
        have B2 := fun q => Lib.hid (B.out.trans (below_drewN wr w.heap.size q))
        by_cases he : L1[j] = L2[j]
        · have R2 : Hid (∀ k, k < j + 1 → ∀ (a : k < L1.length) (b : k < L2.length), L1[k] = L2[k]) := fun k hk a b => by
            by_cases e : k = j
            · subst e; exact he
            · exact R.out k (by omega) a b
          rw [he] at p0
          obtain ⟨x, hx⟩ : ∃ x, L2[j] = x := ⟨_, rfl⟩
          rw [hx] at p0 q0
          have q1 := strB_eq x
          clear he hx hj1 hj2 R
          go_wp2
          go_quiet (fail)
          go_wp2
          go_roundw
          case rel => exact ⟨j + 1, by omega, by go_num, R2.out, (B2 _).out⟩
          case measure => simp [intOf]; omega
        · have T : Hid (false = decide (L1 = L2)) := (decide_eq_false (fun e => he (by simp only [e]))).symm
          have q1 := strB_ne he
          obtain ⟨x, hx⟩ : ∃ x, L1[j] = x := ⟨_, rfl⟩
          obtain ⟨y, hy⟩ : ∃ y, L2[j] = y := ⟨_, rfl⟩
          rw [hx] at p0 q1
          rw [hy] at q0 q1
          clear he hx hy hj1 hj2 R
          go_wp2
          go_quiet (fail)
          go_wp2
          go_ret
          exact ⟨ret_bool T.out, (B2 _).out⟩
      · have T : Hid (true = decide (L1 = L2)) := by
          refine (decide_eq_true (List.ext_getElem HL.out fun k a b => ?_)).symm
          exact R.out k (by have := HN.out; omega) a b
        clear R
        go_wp2
        go_ret
        exact ⟨ret_bool T.out, B.out⟩
  · have T : Hid (false = decide (L1 = L2)) := (decide_eq_false (fun e => hl (by rw [e]))).symm
    have hl' : ((L1.length : Int) == (L2.length : Int)) = false := beq_eq_false_iff_ne.2 (by omega)
    have hl2 : ¬ ((L1.length : Int) = (L2.length : Int)) := by omega
    clear H1 H2
    go_enter Tryd.func17, Tryd.ntmps17
    go_wp2
    go_ret
    exact ⟨ret_bool T.out, Below.refl _ _⟩
theorem bool_no {q : Bool} {p : Prop} (h : q = true ↔ p) (hn : ¬ p) : q = false := by
  cases q
  · rfl
  · exact absurd (h.1 rfl) hn
def RetIxS (w : World) (q : Bool) (e : Ending) (w' : World) : Prop := ∃ i : Int, e = .returned (.int .i64 i) ∧ decide (0 ≤ i) = q ∧ Below w.heap.size w w'
set_option maxRecDepth 100000 in
set_option maxHeartbeats 2000000 in
theorem indexS_any (A : Option Addr) (c : Nat) (L : List ByteArray) (hL : L.length ≤ maxLen) (t : ByteArray) (q : Bool) (hq : q = true ↔ t ∈ L) (w : World) (H : StrsA w A L) :
    Calls Tryd.prog 36 #[.slice A L.length c, .string t] w (RetIxS w q) := by
  unfold maxLen at hL
  have X := Lib.hid H
  have HQ := Lib.hid hq
  obtain ⟨n, hn⟩ : ∃ n, L.length = n := ⟨_, rfl⟩
  have HN := Lib.hid hn
  rw [hn] at hL ⊢
  clear hn H hq
  go_enter Tryd.func36, Tryd.ntmps36
  go_wp2
  go_loopw [8] (fun i wr => ∃ j : Nat, j ≤ n ∧ i = .int .i64 j ∧ Hid (∀ k, k < j → ∀ (a : k < L.length), L[k] ≠ t) ∧ Hid (Below w.heap.size w wr)) (fun i _ => n - (intOf i).toNat)
  case atStart => exact ⟨0, Nat.zero_le _, rfl, fun k h => by omega, Below.refl _ _⟩
  case round =>
    obtain ⟨j, hj, rfl, R, B⟩ := hrel
    by_cases hlt : j < n
    · have hj1 : j < L.length := by have := HN.out; omega
      obtain ⟨b1, o1, hA1, p0⟩ := (X.out.below B.out).at_ hj1
      subst hA1
      by_cases he : L[j] = t
      · have T : Hid (t ∈ L) := he ▸ List.getElem_mem hj1
        rw [he] at p0
        have q1 := strB_eq t
        clear he hj1 R
        go_wp2
        go_ret
        exact ⟨_, rfl, by rw [HQ.out.2 T.out]; exact decide_eq_true (by omega), B.out⟩
      · have R2 : Hid (∀ k, k < j + 1 → ∀ (a : k < L.length), L[k] ≠ t) := fun k hk a => by
          by_cases e : k = j
          · subst e; exact he
          · exact R.out k (by omega) a
        have q1 := strB_ne (fun e => he e.symm)
        obtain ⟨x, hx⟩ : ∃ x, L[j] = x := ⟨_, rfl⟩
        rw [hx] at p0 q1
        clear he hx hj1 R
        go_wp2
        go_roundw
        case rel => exact ⟨j + 1, by omega, by go_num, R2.out, B.out⟩
        case measure => simp [intOf]; omega
    · have T : Hid (t ∉ L) := fun hm => by
        obtain ⟨k, hk, he⟩ := List.getElem_of_mem hm
        exact R.out k (by have := HN.out; omega) hk he
      clear R
      go_wp2
      go_ret
      exact ⟨_, rfl, by rw [bool_no HQ.out T.out]; rfl, B.out⟩
set_option maxHeartbeats 1000000 in
theorem containsS_any (A : Option Addr) (c : Nat) (L : List ByteArray) (hL : L.length ≤ maxLen) (t : ByteArray) (q : Bool) (hq : q = true ↔ t ∈ L) (w : World) (H : StrsA w A L) :
    Calls Tryd.prog 20 #[.slice A L.length c, .string t] w fun e w' => e = .returned (.bool q) ∧ Below w.heap.size w w' := by
  have IX := Lib.hid (indexS_any A c L hL t q hq w H)
  clear H hq
  go_enter Tryd.func20, Tryd.ntmps20
  go_wp2_with fail
  refine IX.out.mono ?_
  rintro e w1 ⟨i, rfl, hi, hb⟩
  have N := Lib.hid hb
  have T := Lib.hid hi
  clear hb hi
  go_wp2
  go_ret
  exact ⟨ret_bool T.out, N.out⟩
theorem named_len (s : ByteArray) : (namedL s).length ≤ 40 := by
  have h1 := selL_le (upB s) nmAll
  have h2 : nmAll.length ≤ 40 := nmP_le 5 (by omega)
  unfold namedL
  omega
set_option maxHeartbeats 1000000 in
theorem reserved_any (s : ByteArray) (hs : s.size ≤ maxLen) (w : World) :
    Calls Tryd.prog 16 #[.string s] w fun e w' => e = .returned (.bool (decide (0 < (namedL s).length))) ∧ Below w.heap.size w w' := by
  have NM := Lib.hid (named_any s hs w)
  have hl := named_len s
  obtain ⟨L, hL⟩ : ∃ L, namedL s = L := ⟨_, rfl⟩
  rw [hL] at NM hl ⊢
  clear hL
  go_enter Tryd.func16, Tryd.ntmps16
  go_wp2_with fail
  refine NM.out.mono ?_
  rintro e w1 ⟨A, cap, rfl, hO, hb⟩
  have N := Lib.hid hb
  clear hO hb
  go_wp2
  go_ret
  exact ⟨rfl, N.out⟩
theorem strs_of_new (w : World) (L : List ByteArray) (t : TypeId) : StrsA (w.alloc (.cells (L.map Value.string).toArray t)) (some ⟨w.heap.size, 0, none⟩) L :=
  .inr ⟨_, 0, rfl, fun j hj => by rw [Nat.zero_add]; exact strs_new w L t j hj⟩
set_option maxRecDepth 100000 in
set_option maxHeartbeats 1000000 in
theorem rnames_any (w : World) : Calls Tryd.prog 19 #[] w (RetStrs w namesL) := by
  go_enter Tryd.func19, Tryd.ntmps19
  go_wp2
  go_ret
  exact ⟨_, 28, rfl, strs_of_new w namesL 9, (Below.refl _ _).alloc (Nat.le_refl _) _⟩
/-- A name denotes an operand exactly if it is among the names. -/
theorem nm_sub : ∀ x ∈ nmAll, x.1.data ∈ namesL.map (·.data) := by decide +kernel
theorem nm_sup : ∀ x ∈ namesL, x.data ∈ nmAll.map (·.1.data) := by decide +kernel
theorem in_names (s : ByteArray) : decide (0 < (namedL s).length) = true ↔ upB s ∈ namesL := by
  have key : upB s ∈ namesL ↔ 0 < (namedL s).length := by
    constructor
    · intro h
      obtain ⟨x, hx, he⟩ := List.mem_map.1 (nm_sup _ h)
      have hm : nmT x ∈ namedL s := by
        unfold namedL selL
        refine List.mem_map.2 ⟨x, List.mem_filter.2 ⟨hx, ?_⟩, rfl⟩
        have e : x.1 = upB s := ByteArray.ext he
        rw [e]
        exact strB_eq _
      exact List.length_pos_of_mem hm
    · intro h
      obtain ⟨t, ht⟩ := List.exists_mem_of_length_pos h
      unfold namedL selL at ht
      obtain ⟨x, hx, -⟩ := List.mem_map.1 ht
      obtain ⟨hx1, hx2⟩ := List.mem_filter.1 hx
      obtain ⟨y, hy, he⟩ := List.mem_map.1 (nm_sub x hx1)
      have e1 : x.1 = upB s := by
        have h3 := eq_of_beq hx2
        rw [ByteArray.toList_eq, ByteArray.toList_eq] at h3
        exact ByteArray.ext (Array.toList_inj.1 h3)
      have e2 : y = x.1 := ByteArray.ext he
      rw [← e1, ← e2]
      exact hy
  rw [key, decide_eq_true_eq]
end Go.Proofs.YtbcbhdhhinopaaaDoor
