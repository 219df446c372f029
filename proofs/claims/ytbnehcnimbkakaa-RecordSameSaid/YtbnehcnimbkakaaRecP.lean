/-
  Rows of bytes of the call's own: the walks over slices.Clone and slices.Reverse.
-/
import Derived.Test.YtbnehcnimbkakaaRecN
import Derived.Test.YtbnehcnimbkakaaMixed2
namespace Go.Proofs.Ytbnehcnimbkakaa
open Go.RowKit
set_option linter.unusedVariables false

set_option maxHeartbeats 1000000 in
theorem cloneO_any (P : Nat → Prop) (A : Option Addr) (cap : Nat) (xs : List UInt8) (hl : xs.length ≤ 70368744177664) (w : World) (hx : BytesP P w A xs) :
    Calls Try.prog 18 #[.slice A xs.length cap] w (RetOwn w xs) := by
  cases A with
  | none =>
    obtain rfl : xs = [] := by
      rcases hx with h | ⟨b, off, h, _⟩
      · exact h
      · cases h
    clear hx
    have hnil := fun w => Lib.run_eql_slice_nil (P := Try.prog) w 22 5 none 0 cap 0 0 Try.underlying22
    go_enter Try.func18, Try.ntmps18
    go_wp2
    go_ret
    exact ⟨_, rfl, ownB_start w⟩
  | some a =>
    obtain ⟨i0, hi, hz0, hz1, hz2⟩ := info_parts info_u8
    have hb : Below w.heap.size w (w.alloc (.cells #[] 5)) := (Below.refl _ _).alloc (Nat.le_refl _) _
    have hown := World.ownsRow_made (base := w.heap.size) (e := 5) (size := 1) w #[] 0 (Nat.le_refl _) (by unfold maxLen; omega) rfl
    obtain ⟨v', w', k1, k2, k3⟩ := run_append_src (w.alloc (.cells #[] 5)) w.heap.size 22 22 5 i0 _ 1 1 Try.underlying22 hi hz0 hz1 hz2 rfl (by decide) _ 0 [] hown (some a) xs.length cap (xs.map u8V)
      (by simp) (hx.below hb).news (fun u hu => by obtain ⟨x, _, rfl⟩ := List.mem_map.1 hu; rfl) (by unfold maxLen; omega) (by omega) (by simp)
    have N : Hid (RetOwn w xs (.returned v') w') := by
      rw [List.nil_append, Nat.zero_add] at k2
      exact ⟨_, rfl, k2, hb.grown k3 (by simp) fun k hk => (hown.lt k hk).1⟩
    have K := Lib.hid k1
    clear hx hb hown k1 k2 k3 hi hz0 hz1 hz2
    go_enter Try.func18, Try.ntmps18
    have hnil := fun w => Lib.run_eql_slice_nil (P := Try.prog) w 22 5 (some a) xs.length cap 0 0 Try.underlying22
    go_wp2_with (at_builtin; refine wpList_run_append K.out rfl _ _ rfl rfl rfl rfl ?_)
    go_ret
    exact N.out


theorem OwnB.at_ {w wr : World} {v : Value} {xs : List UInt8} (h : OwnB w wr v xs) (hn : 0 < xs.length) : ∃ g cap, v = .slice (some ⟨g, 0, none⟩) xs.length cap ∧ w.heap.size ≤ g ∧
    ∀ k (hk : k < xs.length), wr.cell? ⟨g, k, none⟩ = some (.int .u8 (xs[k].toNat : Int)) ∧ wr.frozen? ⟨g, k, none⟩ = false := by
  rcases h.1.2 with ⟨_, h0⟩ | ⟨g, cap, cur, rfl, hb, hg, _⟩
  · omega
  · refine ⟨g, cap, rfl, hb, fun k hk => ⟨?_, frozen_of_row wr g _ cur _ hg⟩⟩
    rw [h.1.cellAt k (by omega)]
    simp [u8V, List.getElem?_eq_getElem hk]
theorem OwnB.set {w wr : World} {g n cap : Nat} {xs : List UInt8} (h : OwnB w wr (.slice (some ⟨g, 0, none⟩) n cap) xs) (hn : n = xs.length) (i : Nat) (r : UInt8) :
    OwnB w (wr.setCell ⟨g, i, none⟩ (.int .u8 (r.toNat : Int))) (.slice (some ⟨g, 0, none⟩) n cap) (xs.set i r) := by
  subst hn
  obtain ⟨s1, g1⟩ := h.1.stored i (.int .u8 (r.toNat : Int))
  have hg := (h.1.lt g rfl).1
  refine ⟨?_, h.2.setCell hg _⟩
  rw [List.length_set, show (xs.set i r).map u8V = (xs.map u8V).set i (u8V r) from List.map_set]
  exact s1
theorem OwnB.drew {w wr : World} {v : Value} {xs : List UInt8} (h : OwnB w wr v xs) : OwnB w wr.drew v xs := ⟨h.1, h.2.drew⟩
/-- The first and the last k exchanged. -/
def revU (rs : List UInt8) (k : Nat) : List UInt8 := (List.range rs.length).map fun t => if t < k ∨ rs.length - k ≤ t then rs.getD (rs.length - 1 - t) default else rs.getD t default
theorem revU_length (rs : List UInt8) (k : Nat) : (revU rs k).length = rs.length := by unfold revU; simp
theorem revU_get (rs : List UInt8) (k t : Nat) (h : t < rs.length) : (revU rs k)[t]'(by rw [revU_length]; exact h) = if t < k ∨ rs.length - k ≤ t then rs.getD (rs.length - 1 - t) default else rs.getD t default := by
  unfold revU; rw [List.getElem_map, List.getElem_range]
theorem revU_zero (rs : List UInt8) : revU rs 0 = rs := by
  apply List.ext_getElem (revU_length rs 0)
  intro t h1 h2
  rw [revU_get rs 0 t h2, if_neg (by omega)]
  simp [List.getD_eq_getElem?_getD, List.getElem?_eq_getElem h2]
theorem revU_end (rs : List UInt8) (k : Nat) (h : rs.length ≤ 2 * k + 1) : revU rs k = rs.reverse := by
  apply List.ext_getElem (by rw [revU_length, List.length_reverse])
  intro t h1 h2
  rw [revU_length] at h1
  rw [revU_get rs k t h1, List.getElem_reverse]
  have hb : rs.length - 1 - t < rs.length := by omega
  by_cases hc : t < k ∨ rs.length - k ≤ t
  · rw [if_pos hc]; simp [List.getD_eq_getElem?_getD, List.getElem?_eq_getElem hb]
  · rw [if_neg hc]
    have : rs.length - 1 - t = t := by omega
    simp [List.getD_eq_getElem?_getD, List.getElem?_eq_getElem h1, this]
theorem revU_mem (rs : List UInt8) (k : Nat) : ∀ r ∈ revU rs k, r ∈ rs := by
  intro r hr
  obtain ⟨t, ht, rfl⟩ := List.mem_iff_getElem.1 hr
  rw [revU_length] at ht
  rw [revU_get rs k t ht]
  have hb : rs.length - 1 - t < rs.length := by omega
  split
  · simp [List.getD_eq_getElem?_getD, List.getElem?_eq_getElem hb]
  · simp [List.getD_eq_getElem?_getD, List.getElem?_eq_getElem ht]
theorem revU_next (rs : List UInt8) (k : Nat) (h : 2 * k + 1 < rs.length) (r1 r2 : UInt8) (h1 : r1 = (revU rs k)[k]'(by rw [revU_length]; omega)) (h2 : r2 = (revU rs k)[rs.length - 1 - k]'(by rw [revU_length]; omega)) :
    ((revU rs k).set k r2).set (rs.length - 1 - k) r1 = revU rs (k + 1) := by
  apply List.ext_getElem (by simp [revU_length])
  intro t ha hb
  rw [revU_length] at hb
  rw [revU_get rs (k + 1) t hb, List.getElem_set]
  by_cases e1 : rs.length - 1 - k = t
  · rw [if_pos e1, h1, revU_get rs k k (by omega), if_neg (by omega), if_pos (by omega)]
    rw [← e1, show rs.length - 1 - (rs.length - 1 - k) = k by omega]
  · rw [if_neg e1, List.getElem_set]
    by_cases e2 : k = t
    · rw [if_pos e2, h2, revU_get rs k _ (by omega), if_neg (by omega), if_pos (by omega), e2]
    · rw [if_neg e2, revU_get rs k t hb]
      by_cases hc : t < k ∨ rs.length - k ≤ t
      · rw [if_pos hc, if_pos (by omega)]
      · rw [if_neg hc, if_neg (by omega)]


set_option maxHeartbeats 4000000 in
theorem rev_any (w0 : World) (v : Value) (xs : List UInt8) (hl : xs.length ≤ 1099511627776) (w : World) (hO : OwnB w0 w v xs) :
    Calls Try.prog 19 #[v] w fun e w' => e = .returned (.tuple #[]) ∧ OwnB w0 w' v xs.reverse ∧ w.heap.size ≤ w'.heap.size := by
  obtain ⟨A, cap, hv, _⟩ := ownB_endC hO
  injection hv with hv
  subst hv
  have O := Lib.hid hO
  obtain ⟨n, hn⟩ : ∃ n, xs.length = n := ⟨_, rfl⟩
  have HN := Lib.hid hn
  rw [hn] at hl O ⊢
  clear hO hn
  go_enter Try.func19, Try.ntmps19
  go_wp2
  go_loopw [2, 3] (fun i j wr => ∃ (k : Nat) (x : Int), 2 * k ≤ n ∧ i = .int .i64 k ∧ j = .int .i64 x ∧ x = (n : Int) - 1 - (k : Int) ∧ OwnB w0 wr (.slice A n cap) (revU xs k) ∧ w.heap.size ≤ wr.heap.size) (fun i _ _ => n - (intOf i).toNat)
  case atStart => exact ⟨0, (n : Int) - 1, by omega, rfl, by go_num, by omega, by rw [revU_zero]; exact O.out, Nat.le_refl _⟩
  case round =>
    obtain ⟨k, x, hk, rfl, rfl, hx, hR, hsz⟩ := hrel
    have RR0 := Lib.hid hR
    have HSZ := Lib.hid hsz
    clear hR hsz
    by_cases hlt : 2 * k + 1 < n
    · obtain ⟨j, hj⟩ : ∃ j : Nat, n - 1 - k = j := ⟨_, rfl⟩
      obtain rfl : x = (j : Int) := by omega
      have hkn : k < n := by omega
      have hjn : j < n := by omega
      have hL := revU_length xs k
      rw [HN.out] at hL
      obtain ⟨g, cap', hv, hg0, hcl⟩ := RR0.out.at_ (by rw [hL]; omega)
      rw [hL] at hv
      simp only [Value.slice.injEq, true_and] at hv
      obtain ⟨rfl, rfl⟩ := hv
      obtain ⟨c1, c3⟩ := hcl k (by rw [hL]; exact hkn)
      obtain ⟨d1, d3⟩ := hcl j (by rw [hL]; exact hjn)
      have hnx := revU_next xs k (by rw [HN.out]; exact hlt) _ _ rfl rfl
      obtain ⟨r1, hr1⟩ : ∃ r, (revU xs k)[k]'(by rw [hL]; exact hkn) = r := ⟨_, rfl⟩
      obtain ⟨r2, hr2⟩ : ∃ r, (revU xs k)[j]'(by rw [hL]; exact hjn) = r := ⟨_, rfl⟩
      have hjj : xs.length - 1 - k = j := by rw [HN.out]; exact hj
      simp only [hjj, hr1, hr2] at hnx
      rw [hr1] at c1
      rw [hr2] at d1
      have O1 := RR0.out.set hL.symm k r2
      have hL1 : ((revU xs k).set k r2).length = n := by rw [List.length_set]; exact hL
      have O2 := O1.set hL1.symm j r1
      rw [hnx] at O2
      obtain ⟨g', cap', hv', _, hcl1⟩ := O1.at_ (by rw [hL1]; omega)
      rw [hL1] at hv'
      simp only [Value.slice.injEq, Option.some.injEq, Addr.mk.injEq, and_true, true_and] at hv'
      obtain ⟨rfl, rfl⟩ := hv'
      obtain ⟨e1, e3⟩ := hcl1 j (by rw [hL1]; exact hjn)
      have hne : k ≠ j := by omega
      have hej : ((revU xs k).set k r2)[j]'(by rw [hL1]; exact hjn) = r2 := by rw [List.getElem_set_ne hne]; exact hr2
      rw [hej] at e1
      have ON := Lib.hid O2
      have hk1 : (k : Int) < (n : Int) := by omega
      have hj1 : (j : Int) < (n : Int) := by omega
      have hkj : (k : Int) < (j : Int) := by omega
      have C1 : Hid (wr.drew.cell? ⟨g, k, none⟩ = some (.int .u8 (r1.toNat : Int)) ∧ wr.drew.cell? ⟨g, j, none⟩ = some (.int .u8 (r2.toNat : Int))) := ⟨c1, d1⟩
      have HJ := Lib.hid hj
      have hkj2 : (j : Int) - 1 = (n : Int) - 1 - ((k + 1 : Nat) : Int) := by omega
      have HJ2 := Lib.hid hkj2
      clear hcl hcl1 hnx hr1 hr2 hjj O1 O2 hx hj hne hej hL hL1 d1 d3 hkj2
      go_wp2
      refine Mixed2.wp_region_mixed (fun w' => w'.cell? ⟨g, k, none⟩ = some (.int .u8 (r1.toNat : Int)) ∧ w'.cell? ⟨g, j, none⟩ = some (.int .u8 (r2.toNat : Int))) 15 13
        [(0, 1), (1, 1), (2, 1), (3, 1), (4, 1), (5, 1), (6, 1), (7, 0), (8, 1), (9, 1), (10, 1), (11, 0), (12, 1), (13, 2), (14, 1)] (by kernel_rfl) (by kernel_rfl) C1.out ?_
      refine Mixed2.wpMix_move rfl rfl _ rfl _ rfl ?_
      refine Mixed2.wpMix_move rfl rfl _ rfl _ rfl ?_
      refine Mixed2.wpMix_move rfl rfl _ rfl _ rfl ?_
      refine Mixed2.wpMix_move rfl rfl _ rfl _ rfl ?_
      refine Mixed2.wpMix_move rfl rfl _ rfl _ rfl ?_
      refine Mixed2.wpMix_move rfl rfl _ rfl _ rfl ?_
      refine Mixed2.wpMix_pure rfl rfl _ (fun w => by go_simp; rfl) ?_
      refine Mixed2.wpMix_held rfl rfl _ (fun w h => by obtain ⟨p1, p3⟩ := h; go_simp; rfl) ?_
      refine Mixed2.wpMix_move rfl rfl _ rfl _ rfl ?_
      refine Mixed2.wpMix_move rfl rfl _ rfl _ rfl ?_
      refine Mixed2.wpMix_pure rfl rfl _ (fun w => by go_simp; rfl) ?_
      refine Mixed2.wpMix_held rfl rfl _ (fun w h => by obtain ⟨p1, p3⟩ := h; go_simp; rfl) ?_
      refine Mixed2.wpMix_pure rfl rfl _ (fun w => by go_simp; rfl) ?_
      refine Mixed2.wpMix_loud rfl ?_
      go_wp2
      show Mixed2.wpMix _ _ _ _ _ _ _ _ _
      refine Mixed2.wpMix_pure rfl rfl _ (fun w => by go_simp; rfl) ?_
      simp only [Mixed2.wpMix, List.drop_succ_cons, List.drop_zero]
      go_wp2
      go_roundw
      case rel => exact ⟨k + 1, (n : Int) - 1 - ((k + 1 : Nat) : Int), by omega, by go_num, by rw [← HJ2.out], rfl, ON.out.drew, by simpa [World.setCell] using HSZ.out⟩
      case measure => simp [intOf]; omega
    · have hlt' : decide ((k : Int) < x) = false := decide_eq_false (by omega)
      have N : Hid (OwnB w0 wr (.slice A n cap) xs.reverse) := by
        have h := RR0.out
        rw [revU_end xs k (by rw [HN.out]; omega)] at h
        exact h
      go_wp2
      go_end0
      exact ⟨rfl, N.out, HSZ.out⟩
theorem sumI_reverse (xs : List UInt8) : sumI xs.reverse = sumI xs := by
  induction xs with
  | nil => rfl
  | cons x t ih => rw [List.reverse_cons, sumI_append, ih, sumI_one, sumI_cons]; omega
end Go.Proofs.Ytbnehcnimbkakaa
