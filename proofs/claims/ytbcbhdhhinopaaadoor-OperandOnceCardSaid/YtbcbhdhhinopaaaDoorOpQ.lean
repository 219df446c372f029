/-
  The walks over slices.Index and slices.Contains at operands.
-/
import Derived.Test.YtbcbhdhhinopaaaDoorOpM
import Derived.Test.YtbcbhdhhinopaaaDoorOpJ
import Derived.Deep.DeepCutAuto
namespace Go.Proofs.YtbcbhdhhinopaaaDoor
open Go.RowKit
set_option linter.unusedVariables false

/-- Where an operand is found: at a number that is not negative, exactly if it is there. -/
def RetIx (w : World) (q : Bool) (e : Ending) (w' : World) : Prop := ∃ i : Int, e = .returned (.int .i64 i) ∧ decide (0 ≤ i) = q ∧ Below w.heap.size w w'
set_option maxRecDepth 100000 in
set_option maxHeartbeats 2000000 in
theorem indexO_any (A : Option Addr) (c : Nat) (L : List Tr) (hL : L.length ≤ maxLen) (t : Tr) (w : World) (H : OpsP w A L) :
    Calls Tryd.prog 38 #[.slice A L.length c, .agg #[.int .i64 t.1, .int .i64 t.2.1, .int .i64 t.2.2]] w (RetIx w (decide (t ∈ L))) := by
  unfold maxLen at hL
  obtain ⟨t0, t1, t2⟩ := t
  simp only
  have hal : Below w.heap.size w (w.alloc (.cells #[.int .i64 t0, .int .i64 t1, .int .i64 t2] 23)) := (Below.refl _ _).alloc (Nat.le_refl _) _
  have X := Lib.hid (H.below hal)
  have B0 := Lib.hid hal
  have TB := Lib.hid (Box.new w t0 t1 t2 23)
  obtain ⟨wa, hwa⟩ : ∃ wa, w.alloc (.cells #[.int .i64 t0, .int .i64 t1, .int .i64 t2] 23) = wa := ⟨_, rfl⟩
  rw [hwa] at X B0 TB
  have HWA := Lib.hid hwa
  clear H hal hwa
  obtain ⟨n, hn⟩ : ∃ n, L.length = n := ⟨_, rfl⟩
  have HN := Lib.hid hn
  rw [hn] at hL ⊢
  clear hn
  go_enter Tryd.func38, Tryd.ntmps38
  go_wp2
  rw [HWA.out]
  go_loopw [8] (fun i wr => ∃ j : Nat, j ≤ n ∧ i = .int .i64 j ∧ Hid (∀ k, k < j → ∀ (a : k < L.length), L[k] ≠ (t0, t1, t2)) ∧ Hid (Below wa.heap.size wa wr)) (fun i _ => n - (intOf i).toNat)
  case atStart => exact ⟨0, Nat.zero_le _, rfl, fun k h => by omega, Below.refl _ _⟩
  case round =>
    obtain ⟨j, hj, rfl, R, B⟩ := hrel
    obtain ⟨z0, z1, z2⟩ := TB.out.below B.out
    by_cases hlt : j < n
    · have hj1 : j < L.length := by have := HN.out; omega
      obtain ⟨b1, o1, hA1, -, p0, p1, p2⟩ := (X.out.below B.out).at_ hj1
      subst hA1
      have B2 := fun q => Lib.hid (B0.out.trans ((B.out.trans (below_drewN wr wa.heap.size q)).mono B0.out.size))
      have B3 := fun q => Lib.hid (B.out.trans (below_drewN wr wa.heap.size q))
      by_cases he : L[j] = (t0, t1, t2)
      · have T : Hid ((t0, t1, t2) ∈ L) := he ▸ List.getElem_mem hj1
        rw [he] at p0 p1 p2
        simp only at p0 p1 p2
        clear he hj1 R
        go_wp2
        go_quiet (fail)
        go_wp2
        go_ret
        exact ⟨_, rfl, by rw [decide_eq_true T.out]; exact decide_eq_true (by omega), (B2 _).out⟩
      · have R2 : Hid (∀ k, k < j + 1 → ∀ (a : k < L.length), L[k] ≠ (t0, t1, t2)) := fun k hk a => by
          by_cases e : k = j
          · subst e; exact he
          · exact R.out k (by omega) a
        have hne := tr_ne (fun e => he e.symm)
        obtain ⟨⟨x0, x1, x2⟩, hx⟩ : ∃ x, L[j] = x := ⟨_, rfl⟩
        rw [hx] at p0 p1 p2 hne
        simp only at p0 p1 p2 hne
        clear he hx hj1 R
        have d0 : x0 = t0 → t0 = x0 := fun h => h.symm
        clear d0
        rcases hne with hne | ⟨e1, hne⟩ | ⟨e1, e2, hne⟩
        · go_wp2
          go_quiet (fail)
          go_wp2
          go_roundw
          case rel => exact ⟨j + 1, by omega, by go_num, R2.out, (B3 _).out⟩
          case measure => simp [intOf]; omega
        · subst e1
          go_wp2
          go_quiet (fail)
          go_wp2
          go_roundw
          case rel => exact ⟨j + 1, by omega, by go_num, R2.out, (B3 _).out⟩
          case measure => simp [intOf]; omega
        · subst e1
          subst e2
          go_wp2
          go_quiet (fail)
          go_wp2
          go_roundw
          case rel => exact ⟨j + 1, by omega, by go_num, R2.out, (B3 _).out⟩
          case measure => simp [intOf]; omega
    · have T : Hid ((t0, t1, t2) ∉ L) := fun hm => by
        obtain ⟨k, hk, he⟩ := List.getElem_of_mem hm
        exact R.out k (by have := HN.out; omega) hk he
      have B2 := Lib.hid (B0.out.trans (B.out.mono B0.out.size))
      clear R
      go_wp2
      go_ret
      exact ⟨_, rfl, by rw [decide_eq_false T.out]; rfl, B2.out⟩
set_option maxHeartbeats 1000000 in
theorem containsO_any (A : Option Addr) (c : Nat) (L : List Tr) (hL : L.length ≤ maxLen) (t : Tr) (w : World) (H : OpsP w A L) :
    Calls Tryd.prog 22 #[.slice A L.length c, .agg #[.int .i64 t.1, .int .i64 t.2.1, .int .i64 t.2.2]] w fun e w' => e = .returned (.bool (decide (t ∈ L))) ∧ Below w.heap.size w w' := by
  obtain ⟨t0, t1, t2⟩ := t
  have hal : Below w.heap.size w (w.alloc (.cells #[.int .i64 t0, .int .i64 t1, .int .i64 t2] 23)) := (Below.refl _ _).alloc (Nat.le_refl _) _
  have IX := Lib.hid (indexO_any A c L hL (t0, t1, t2) _ (H.below hal))
  have B0 := Lib.hid hal
  obtain ⟨q, hq⟩ : ∃ q, decide ((t0, t1, t2) ∈ L) = q := ⟨_, rfl⟩
  rw [hq] at IX ⊢
  clear hal H hq
  go_enter Tryd.func22, Tryd.ntmps22
  go_wp2_with fail
  refine IX.out.mono ?_
  rintro e w1 ⟨i, rfl, hi, hb⟩
  have N := Lib.hid (B0.out.trans (hb.mono B0.out.size))
  have T := Lib.hid hi
  clear hb hi
  go_wp2
  go_ret
  exact ⟨ret_bool T.out, N.out⟩
end Go.Proofs.YtbcbhdhhinopaaaDoor
