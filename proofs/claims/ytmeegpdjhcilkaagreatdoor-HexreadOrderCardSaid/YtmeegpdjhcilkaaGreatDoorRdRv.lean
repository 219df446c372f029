/-
  The walk over slices.Reverse at the beginning of a row of strings.
-/
import Derived.Test.YtmeegpdjhcilkaaGreatDoorRdSr
import Derived.Test.YtmeegpdjhcilkaaGreatDoorRecAllA
namespace Go.Proofs.YtmeegpdjhcilkaaGreatDoor
open Go.RowKit
set_option linter.unusedVariables false
def revS (rs : List ByteArray) (k : Nat) : List ByteArray := (List.range rs.length).map fun t => if t < k ∨ rs.length - k ≤ t then rs.getD (rs.length - 1 - t) default else rs.getD t default
theorem revS_length (rs : List ByteArray) (k : Nat) : (revS rs k).length = rs.length := by unfold revS; simp
theorem revS_get (rs : List ByteArray) (k t : Nat) (h : t < rs.length) : (revS rs k)[t]'(by rw [revS_length]; exact h) = if t < k ∨ rs.length - k ≤ t then rs.getD (rs.length - 1 - t) default else rs.getD t default := by
  unfold revS; rw [List.getElem_map, List.getElem_range]
theorem revS_zero (rs : List ByteArray) : revS rs 0 = rs := by
  apply List.ext_getElem (revS_length rs 0)
  intro t h1 h2
  rw [revS_get rs 0 t h2, if_neg (by omega)]
  simp [List.getD_eq_getElem?_getD, List.getElem?_eq_getElem h2]
theorem revS_end (rs : List ByteArray) (k : Nat) (h : rs.length ≤ 2 * k + 1) : revS rs k = rs.reverse := by
  apply List.ext_getElem (by rw [revS_length, List.length_reverse])
  intro t h1 h2
  rw [revS_length] at h1
  rw [revS_get rs k t h1, List.getElem_reverse]
  have hb : rs.length - 1 - t < rs.length := by omega
  by_cases hc : t < k ∨ rs.length - k ≤ t
  · rw [if_pos hc]; simp [List.getD_eq_getElem?_getD, List.getElem?_eq_getElem hb]
  · rw [if_neg hc]
    have : rs.length - 1 - t = t := by omega
    simp [List.getD_eq_getElem?_getD, List.getElem?_eq_getElem h1, this]
theorem revS_mem (rs : List ByteArray) (k : Nat) : ∀ r ∈ revS rs k, r ∈ rs := by
  intro r hr
  obtain ⟨t, ht, rfl⟩ := List.mem_iff_getElem.1 hr
  rw [revS_length] at ht
  rw [revS_get rs k t ht]
  have hb : rs.length - 1 - t < rs.length := by omega
  split
  · simp [List.getD_eq_getElem?_getD, List.getElem?_eq_getElem hb]
  · simp [List.getD_eq_getElem?_getD, List.getElem?_eq_getElem ht]
theorem revS_next (rs : List ByteArray) (k : Nat) (h : 2 * k + 1 < rs.length) (r1 r2 : ByteArray) (h1 : r1 = (revS rs k)[k]'(by rw [revS_length]; omega)) (h2 : r2 = (revS rs k)[rs.length - 1 - k]'(by rw [revS_length]; omega)) :
    ((revS rs k).set k r2).set (rs.length - 1 - k) r1 = revS rs (k + 1) := by
  apply List.ext_getElem (by simp [revS_length])
  intro t ha hb
  rw [revS_length] at hb
  rw [revS_get rs (k + 1) t hb, List.getElem_set]
  by_cases e1 : rs.length - 1 - k = t
  · rw [if_pos e1, h1, revS_get rs k k (by omega), if_neg (by omega), if_pos (by omega)]
    rw [← e1, show rs.length - 1 - (rs.length - 1 - k) = k by omega]
  · rw [if_neg e1, List.getElem_set]
    by_cases e2 : k = t
    · rw [if_pos e2, h2, revS_get rs k _ (by omega), if_neg (by omega), if_pos (by omega), e2]
    · rw [if_neg e2, revS_get rs k t hb]
      by_cases hc : t < k ∨ rs.length - k ≤ t
      · rw [if_pos hc, if_pos (by omega)]
      · rw [if_neg hc, if_neg (by omega)]


set_option maxRecDepth 100000 in
set_option maxHeartbeats 4000000 in
theorem srev_any (b cap : Nat) (xs rest : List ByteArray) (hl : xs.length ≤ 1000000000) (w : World) (hO : RowS b (xs ++ rest) w) :
    Calls Tryz.prog 16 #[.slice (some ⟨b, 0, none⟩) xs.length cap] w fun e w' => e = .returned (.tuple #[]) ∧ RowS b (xs.reverse ++ rest) w' ∧ KeptP (· ≠ b) w w' := by
  have O := Lib.hid hO
  obtain ⟨n, hn⟩ : ∃ n, xs.length = n := ⟨_, rfl⟩
  have HN := Lib.hid hn
  rw [hn] at hl ⊢
  clear hO hn
  go_enter Tryz.func16, Tryz.ntmps16
  go_wp2
  go_loopw [2, 3] (fun i j wr => ∃ (k : Nat) (x : Int), 2 * k ≤ n ∧ i = .int .i64 k ∧ j = .int .i64 x ∧ x = (n : Int) - 1 - (k : Int) ∧ Hid (RowS b (revS xs k ++ rest) wr) ∧ Hid (KeptP (· ≠ b) w wr)) (fun i _ _ => n - (intOf i).toNat)
  case atStart => exact ⟨0, (n : Int) - 1, by omega, rfl, by go_num, by omega, by show RowS _ _ _; rw [revS_zero]; exact O.out, KeptP.refl _ _⟩
  case round =>
    obtain ⟨k, x, hk, rfl, rfl, hx, R, K⟩ := hrel
    by_cases hlt : 2 * k + 1 < n
    · obtain ⟨j, hj⟩ : ∃ j : Nat, n - 1 - k = j := ⟨_, rfl⟩
      obtain rfl : x = (j : Int) := by omega
      have hkn : k < n := by omega
      have hjn : j < n := by omega
      have hL := revS_length xs k
      rw [HN.out] at hL
      have hLL : n ≤ (revS xs k ++ rest).length := by rw [List.length_append, hL]; omega
      obtain ⟨c1, c3⟩ := R.out.at_ k (by omega)
      obtain ⟨d1, d3⟩ := R.out.at_ j (by omega)
      rw [List.getElem_append_left (by omega)] at c1 d1
      have hnx := revS_next xs k (by rw [HN.out]; exact hlt) _ _ rfl rfl
      have hjj : xs.length - 1 - k = j := by rw [HN.out]; exact hj
      obtain ⟨r1, hr1⟩ : ∃ r, (revS xs k)[k]'(by rw [hL]; exact hkn) = r := ⟨_, rfl⟩
      obtain ⟨r2, hr2⟩ : ∃ r, (revS xs k)[j]'(by rw [hL]; exact hjn) = r := ⟨_, rfl⟩
      simp only [hjj, hr1, hr2] at hnx
      rw [hr1] at c1
      rw [hr2] at d1
      have O1 := R.out.set k r2
      have O2 := O1.set j r1
      rw [List.set_append_left _ _ (by omega), List.set_append_left _ _ (by rw [List.length_set]; omega), hnx] at O2
      obtain ⟨e1, e3⟩ := O1.at_ j (by rw [List.length_set]; omega)
      have hne : k ≠ j := by omega
      rw [List.getElem_set_ne hne, List.getElem_append_left (by omega), hr2] at e1
      have ON := Lib.hid O2
      have KN : Hid (KeptP (· ≠ b) w ((wr.setCell ⟨b, k, none⟩ (.string r2)).setCell ⟨b, j, none⟩ (.string r1))) := (K.out.setCell (by simp) _).setCell (by simp) _
      have hk1 : (k : Int) < (n : Int) := by omega
      have hj1 : (j : Int) < (n : Int) := by omega
      have hkj : (k : Int) < (j : Int) := by omega
      have C1 : Hid (wr.drew.cell? ⟨b, k, none⟩ = some (.string r1) ∧ wr.drew.cell? ⟨b, j, none⟩ = some (.string r2)) := ⟨c1, d1⟩
      have hkj2 : (j : Int) - 1 = (n : Int) - 1 - ((k + 1 : Nat) : Int) := by omega
      have HJ2 := Lib.hid hkj2
      clear hnx hr1 hr2 hjj O1 O2 hx hj hne hL d1 d3 hkj2 R K hLL
      go_wp2
      refine Mixed2.wp_region_mixed (fun w' => w'.cell? ⟨b, k, none⟩ = some (.string r1) ∧ w'.cell? ⟨b, j, none⟩ = some (.string r2)) 15 13
        [(0, 1), (1, 1), (2, 1), (3, 1), (4, 1), (5, 1), (6, 1), (7, 0), (8, 1), (9, 1), (10, 1), (11, 0), (12, 1), (13, 2), (14, 1)] (by kernel_rfl) (by kernel_rfl) C1.out ?_
      refine Mixed2.wpMix_move rfl rfl _ rfl _ rfl ?_
      refine Mixed2.wpMix_move rfl rfl _ rfl _ rfl ?_
      refine Mixed2.wpMix_move rfl rfl _ rfl _ rfl ?_
      refine Mixed2.wpMix_move rfl rfl _ rfl _ rfl ?_
      refine Mixed2.wpMix_move rfl rfl _ rfl _ rfl ?_
      refine Mixed2.wpMix_move rfl rfl _ rfl _ rfl ?_
      refine Mixed2.wpMix_pure rfl rfl _ (fun w => by go_simp; rfl) ?_
      refine Mixed2.wpMix_held rfl rfl _ (fun w h => by obtain ⟨p1, p3⟩ := h; go_simp; rfl) ?_
      refine Mixed2.wpMix_move rfl rfl _ rfl _ rfl ?_
      refine Mixed2.wpMix_move rfl rfl _ rfl _ rfl ?_
      refine Mixed2.wpMix_pure rfl rfl _ (fun w => by go_simp; rfl) ?_
      refine Mixed2.wpMix_held rfl rfl _ (fun w h => by obtain ⟨p1, p3⟩ := h; go_simp; rfl) ?_
      refine Mixed2.wpMix_pure rfl rfl _ (fun w => by go_simp; rfl) ?_
      refine Mixed2.wpMix_loud rfl ?_
      go_wp2
      show Mixed2.wpMix _ _ _ _ _ _ _ _ _
      refine Mixed2.wpMix_pure rfl rfl _ (fun w => by go_simp; rfl) ?_
      simp only [Mixed2.wpMix, List.drop_succ_cons, List.drop_zero]
      go_wp2
      go_roundw
      case rel => exact ⟨k + 1, (n : Int) - 1 - ((k + 1 : Nat) : Int), by omega, by go_num, by rw [← HJ2.out], rfl, ON.out.drew, KN.out.drew⟩
      case measure => simp [intOf]; omega
    · have hlt' : decide ((k : Int) < x) = false := decide_eq_false (by omega)
      have N : Hid (RowS b (xs.reverse ++ rest) wr) := by
        have h := R.out
        rw [revS_end xs k (by rw [HN.out]; omega)] at h
        exact h
      go_wp2
      go_end0
      exact ⟨rfl, N.out, K.out⟩
end Go.Proofs.YtmeegpdjhcilkaaGreatDoor
