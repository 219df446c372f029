/-
  The walk over slices.Reverse at a row of runs of the call's own.
-/
import Derived.Test.YtllfebekanafhaaImgU
import Derived.Test.YtllfebekanafhaaMixed2
namespace Go.Proofs.Ytllfebekanafhaa
open Go.RowKit
set_option linter.unusedVariables false

theorem OwnR.at_ {e : TypeId} {P : Nat → Prop} {w wr : World} {v : Value} {rs : List R} (h : OwnR e P w wr v rs) (hn : 0 < rs.length) : ∃ g cap, v = .slice (some ⟨g, 0, none⟩) rs.length cap ∧ w.heap.size ≤ g ∧
    ∀ k (hk : k < rs.length), wr.cell? ⟨g, k * 2, none⟩ = some (.int .i64 rs[k].addr) ∧ wr.cell? ⟨g, k * 2 + 1, none⟩ = some (.slice rs[k].A rs[k].data.length rs[k].cap) ∧ wr.frozen? ⟨g, k * 2, none⟩ = false ∧ wr.frozen? ⟨g, k * 2 + 1, none⟩ = false := by
  rcases h.1.2 with ⟨_, h0⟩ | ⟨g, cap, cur, rfl, hb, hg, _⟩
  · omega
  · refine ⟨g, cap, rfl, hb, fun k hk => ?_⟩
    obtain ⟨h1, h2⟩ := runsV_get rs k hk
    rw [h.1.cellAt (k * 2) (by omega), h.1.cellAt (k * 2 + 1) (by omega)]
    exact ⟨h1, h2, frozen_of_row wr g _ cur _ hg, frozen_of_row wr g _ cur _ hg⟩
theorem runsV_setAt (l : List R) (i : Nat) (r : R) (hi : i < l.length) : ((runsV l).set (i * 2) (.int .i64 r.addr)).set (i * 2 + 1) (.slice r.A r.data.length r.cap) = runsV (l.set i r) := by
  induction l generalizing i with
  | nil => simp at hi
  | cons c t ih =>
    have e : ∀ (c : R) (t : List R), runsV (c :: t) = .int .i64 c.addr :: .slice c.A c.data.length c.cap :: runsV t := fun _ _ => rfl
    cases i with
    | zero =>
      show _ = runsV (r :: t)
      rw [e, e]
      rfl
    | succ i =>
      rw [e, List.set_cons_succ, e, ← ih i (by simpa using hi), show (i + 1) * 2 = i * 2 + 1 + 1 by omega]
      simp only [List.set_cons_succ]
theorem OwnR.set {e : TypeId} {P : Nat → Prop} {w wr : World} {g n cap : Nat} {rs : List R} (h : OwnR e P w wr (.slice (some ⟨g, 0, none⟩) n cap) rs) (hn : n = rs.length) (i : Nat) (hi : i < rs.length) (r : R) (hr : BytesP (fun i => P i ∧ some i ≠ some g) wr r.A r.data) :
    OwnR e P w ((wr.setCell ⟨g, i * 2, none⟩ (.int .i64 r.addr)).setCell ⟨g, i * 2 + 1, none⟩ (.slice r.A r.data.length r.cap)) (.slice (some ⟨g, 0, none⟩) n cap) (rs.set i r) := by
  subst hn
  obtain ⟨s1, g1⟩ := h.1.stored (i * 2) (.int .i64 r.addr)
  obtain ⟨s2, g2⟩ := s1.stored (i * 2 + 1) (.slice r.A r.data.length r.cap)
  have hg := (h.1.lt g rfl).1
  refine ⟨?_, (h.2.1.setCell hg _).setCell hg _, fun q hq => ?_⟩
  · rw [runsV_setAt rs i r hi] at s2
    rw [List.length_set]
    exact s2
  · have q0 : BytesP (fun i => P i ∧ some i ≠ some g) wr q.A q.data := by
      rcases List.mem_or_eq_of_mem_set hq with hq | hq
      · exact h.2.2 q hq
      · rw [hq]; exact hr
    refine q0.blocks fun k _ hk => ?_
    have hkg : k ≠ g := fun e => hk.2 (by rw [e])
    rw [Below.heap_setCell _ _ _ _ hkg, Below.heap_setCell _ _ _ _ hkg]
/-- The first and the last k exchanged. -/
def revK (rs : List R) (k : Nat) : List R := (List.range rs.length).map fun t => if t < k ∨ rs.length - k ≤ t then rs.getD (rs.length - 1 - t) default else rs.getD t default
theorem revK_length (rs : List R) (k : Nat) : (revK rs k).length = rs.length := by unfold revK; simp
theorem revK_get (rs : List R) (k t : Nat) (h : t < rs.length) : (revK rs k)[t]'(by rw [revK_length]; exact h) = if t < k ∨ rs.length - k ≤ t then rs.getD (rs.length - 1 - t) default else rs.getD t default := by
  unfold revK; rw [List.getElem_map, List.getElem_range]
theorem revK_zero (rs : List R) : revK rs 0 = rs := by
  apply List.ext_getElem (revK_length rs 0)
  intro t h1 h2
  rw [revK_get rs 0 t h2, if_neg (by omega)]
  simp [List.getD_eq_getElem?_getD, List.getElem?_eq_getElem h2]
theorem revK_end (rs : List R) (k : Nat) (h : rs.length ≤ 2 * k + 1) : revK rs k = rs.reverse := by
  apply List.ext_getElem (by rw [revK_length, List.length_reverse])
  intro t h1 h2
  rw [revK_length] at h1
  rw [revK_get rs k t h1, List.getElem_reverse]
  have hb : rs.length - 1 - t < rs.length := by omega
  by_cases hc : t < k ∨ rs.length - k ≤ t
  · rw [if_pos hc]; simp [List.getD_eq_getElem?_getD, List.getElem?_eq_getElem hb]
  · rw [if_neg hc]
    have : rs.length - 1 - t = t := by omega
    simp [List.getD_eq_getElem?_getD, List.getElem?_eq_getElem h1, this]
theorem revK_mem (rs : List R) (k : Nat) : ∀ r ∈ revK rs k, r ∈ rs := by
  intro r hr
  obtain ⟨t, ht, rfl⟩ := List.mem_iff_getElem.1 hr
  rw [revK_length] at ht
  rw [revK_get rs k t ht]
  have hb : rs.length - 1 - t < rs.length := by omega
  split
  · simp [List.getD_eq_getElem?_getD, List.getElem?_eq_getElem hb]
  · simp [List.getD_eq_getElem?_getD, List.getElem?_eq_getElem ht]
theorem revK_next (rs : List R) (k : Nat) (h : 2 * k + 1 < rs.length) (r1 r2 : R) (h1 : r1 = (revK rs k)[k]'(by rw [revK_length]; omega)) (h2 : r2 = (revK rs k)[rs.length - 1 - k]'(by rw [revK_length]; omega)) :
    ((revK rs k).set k r2).set (rs.length - 1 - k) r1 = revK rs (k + 1) := by
  apply List.ext_getElem (by simp [revK_length])
  intro t ha hb
  rw [revK_length] at hb
  rw [revK_get rs (k + 1) t hb, List.getElem_set]
  by_cases e1 : rs.length - 1 - k = t
  · rw [if_pos e1, h1, revK_get rs k k (by omega), if_neg (by omega), if_pos (by omega)]
    rw [← e1, show rs.length - 1 - (rs.length - 1 - k) = k by omega]
  · rw [if_neg e1, List.getElem_set]
    by_cases e2 : k = t
    · rw [if_pos e2, h2, revK_get rs k _ (by omega), if_neg (by omega), if_pos (by omega), e2]
    · rw [if_neg e2, revK_get rs k t hb]
      by_cases hc : t < k ∨ rs.length - k ≤ t
      · rw [if_pos hc, if_pos (by omega)]
      · rw [if_neg hc, if_neg (by omega)]

set_option maxHeartbeats 4000000 in
theorem rev_any (P : Nat → Prop) (w0 : World) (v : Value) (rs : List R) (hl : rs.length ≤ 1099511627776) (w : World) (hO : OwnR 47 P w0 w v rs) :
    Calls Try.prog 24 #[v] w fun e w' => e = .returned (.tuple #[]) ∧ OwnR 47 P w0 w' v rs.reverse ∧ w.heap.size ≤ w'.heap.size := by
  obtain ⟨A, cap, rfl, _⟩ := hO.runsP
  have O := Lib.hid hO
  obtain ⟨n, hn⟩ : ∃ n, rs.length = n := ⟨_, rfl⟩
  have HN := Lib.hid hn
  rw [hn] at hl O ⊢
  clear hO hn
  go_enter Try.func24, Try.ntmps24
  go_wp2
  go_loopw [2, 3] (fun i j wr => ∃ (k : Nat) (x : Int), 2 * k ≤ n ∧ i = .int .i64 k ∧ j = .int .i64 x ∧ x = (n : Int) - 1 - (k : Int) ∧ OwnR 47 P w0 wr (.slice A n cap) (revK rs k) ∧ w.heap.size ≤ wr.heap.size) (fun i _ _ => n - (intOf i).toNat)
  case atStart => exact ⟨0, (n : Int) - 1, by omega, rfl, by go_num, by omega, by rw [revK_zero]; exact O.out, Nat.le_refl _⟩
  case round =>
    obtain ⟨k, x, hk, rfl, rfl, hx, hR, hsz⟩ := hrel
    have RR0 := Lib.hid hR
    have HSZ := Lib.hid hsz
    clear hR hsz
    by_cases hlt : 2 * k + 1 < n
    · obtain ⟨j, hj⟩ : ∃ j : Nat, n - 1 - k = j := ⟨_, rfl⟩
      obtain rfl : x = (j : Int) := by omega
      have hkn : k < n := by omega
      have hjn : j < n := by omega
      have hL := revK_length rs k
      rw [HN.out] at hL
      obtain ⟨g, cap', hv, hg0, hcl⟩ := RR0.out.at_ (by rw [hL]; omega)
      rw [hL] at hv
      simp only [Value.slice.injEq, true_and] at hv
      obtain ⟨rfl, rfl⟩ := hv
      obtain ⟨c1, c2, c3, c4⟩ := hcl k (by rw [hL]; exact hkn)
      obtain ⟨d1, d2, d3, d4⟩ := hcl j (by rw [hL]; exact hjn)
      have hm1 := List.getElem_mem (l := revK rs k) (by rw [hL]; exact hkn)
      have hm2 := List.getElem_mem (l := revK rs k) (by rw [hL]; exact hjn)
      have hnx := revK_next rs k (by rw [HN.out]; exact hlt) _ _ rfl rfl
      obtain ⟨r1, hr1⟩ : ∃ r, (revK rs k)[k]'(by rw [hL]; exact hkn) = r := ⟨_, rfl⟩
      obtain ⟨r2, hr2⟩ : ∃ r, (revK rs k)[j]'(by rw [hL]; exact hjn) = r := ⟨_, rfl⟩
      have hjj : rs.length - 1 - k = j := by rw [HN.out]; exact hj
      simp only [hjj, hr1, hr2] at hnx
      rw [hr1] at c1 c2 hm1
      rw [hr2] at d1 d2 hm2
      have D1 := RR0.out.2.2 r1 hm1
      have D2 := RR0.out.2.2 r2 hm2
      have O1 := RR0.out.set hL.symm k (by rw [hL]; exact hkn) r2 D2
      have D1' : BytesP (fun i => P i ∧ some i ≠ some g) ((wr.setCell ⟨g, k * 2, none⟩ (.int .i64 r2.addr)).setCell ⟨g, k * 2 + 1, none⟩ (.slice r2.A r2.data.length r2.cap)) r1.A r1.data := by
        refine D1.blocks fun q _ hq => ?_
        have hqg : q ≠ g := fun e => hq.2 (by rw [e]; rfl)
        rw [Below.heap_setCell _ _ _ _ hqg, Below.heap_setCell _ _ _ _ hqg]
      have hL1 : ((revK rs k).set k r2).length = n := by rw [List.length_set]; exact hL
      have O2 := O1.set hL1.symm j (by rw [hL1]; exact hjn) r1 D1'
      rw [hnx] at O2
      obtain ⟨g', cap', hv', _, hcl1⟩ := O1.at_ (by rw [hL1]; omega)
      rw [hL1] at hv'
      simp only [Value.slice.injEq, Option.some.injEq, Addr.mk.injEq, and_true, true_and] at hv'
      obtain ⟨rfl, rfl⟩ := hv'
      obtain ⟨e1, e2, e3, e4⟩ := hcl1 j (by rw [hL1]; exact hjn)
      have hne : k ≠ j := by omega
      have hej : ((revK rs k).set k r2)[j]'(by rw [hL1]; exact hjn) = r2 := by rw [List.getElem_set_ne hne]; exact hr2
      rw [hej] at e1 e2
      have ON := Lib.hid O2
      have hk1 : (k : Int) < (n : Int) := by omega
      have hj1 : (j : Int) < (n : Int) := by omega
      have hkj : (k : Int) < (j : Int) := by omega
      have C1 : Hid ((wr.drew.cell? ⟨g, k * 2, none⟩ = some (.int .i64 r1.addr) ∧ wr.drew.cell? ⟨g, k * 2 + 1, none⟩ = some (.slice r1.A r1.data.length r1.cap)) ∧ wr.drew.cell? ⟨g, j * 2, none⟩ = some (.int .i64 r2.addr) ∧ wr.drew.cell? ⟨g, j * 2 + 1, none⟩ = some (.slice r2.A r2.data.length r2.cap)) := ⟨⟨c1, c2⟩, d1, d2⟩
      have HJ := Lib.hid hj
      have hkj2 : (j : Int) - 1 = (n : Int) - 1 - ((k + 1 : Nat) : Int) := by omega
      have HJ2 := Lib.hid hkj2
      clear hcl hcl1 hm1 hm2 hnx hr1 hr2 hjj O1 O2 D1 D2 D1' hx hj hne hej hL hL1 d1 d2 d3 d4 hkj2
      go_wp2
      refine Mixed2.wp_region_mixed (fun w' => (w'.cell? ⟨g, k * 2, none⟩ = some (.int .i64 r1.addr) ∧ w'.cell? ⟨g, k * 2 + 1, none⟩ = some (.slice r1.A r1.data.length r1.cap)) ∧ w'.cell? ⟨g, j * 2, none⟩ = some (.int .i64 r2.addr) ∧ w'.cell? ⟨g, j * 2 + 1, none⟩ = some (.slice r2.A r2.data.length r2.cap)) 15 13
        [(0, 1), (1, 1), (2, 1), (3, 1), (4, 1), (5, 1), (6, 1), (7, 0), (8, 1), (9, 1), (10, 1), (11, 0), (12, 1), (13, 2), (14, 1)] (by kernel_rfl) (by kernel_rfl) C1.out ?_
      refine Mixed2.wpMix_move rfl rfl _ rfl _ rfl ?_
      refine Mixed2.wpMix_move rfl rfl _ rfl _ rfl ?_
      refine Mixed2.wpMix_move rfl rfl _ rfl _ rfl ?_
      refine Mixed2.wpMix_move rfl rfl _ rfl _ rfl ?_
      refine Mixed2.wpMix_move rfl rfl _ rfl _ rfl ?_
      refine Mixed2.wpMix_move rfl rfl _ rfl _ rfl ?_
      refine Mixed2.wpMix_pure rfl rfl _ (fun w => by go_simp; rfl) ?_
      refine Mixed2.wpMix_held rfl rfl _ (fun w h => by obtain ⟨⟨p1, p2⟩, p3, p4⟩ := h; go_simp; rfl) ?_
      refine Mixed2.wpMix_move rfl rfl _ rfl _ rfl ?_
      refine Mixed2.wpMix_move rfl rfl _ rfl _ rfl ?_
      refine Mixed2.wpMix_pure rfl rfl _ (fun w => by go_simp; rfl) ?_
      refine Mixed2.wpMix_held rfl rfl _ (fun w h => by obtain ⟨⟨p1, p2⟩, p3, p4⟩ := h; go_simp; rfl) ?_
      refine Mixed2.wpMix_pure rfl rfl _ (fun w => by go_simp; rfl) ?_
      refine Mixed2.wpMix_loud rfl ?_
      go_wp2
      show Mixed2.wpMix _ _ _ _ _ _ _ _ _
      refine Mixed2.wpMix_pure rfl rfl _ (fun w => by go_simp; rfl) ?_
      simp only [Mixed2.wpMix, List.drop_succ_cons, List.drop_zero]
      go_wp2
      go_roundw
      case rel => exact ⟨k + 1, (n : Int) - 1 - ((k + 1 : Nat) : Int), by omega, by go_num, by rw [← HJ2.out], rfl, ON.out.below (Below.refl _ _).drew, by simpa [World.setCell] using HSZ.out⟩
      case measure => simp [intOf]; omega
    · have hlt' : decide ((k : Int) < x) = false := decide_eq_false (by omega)
      have N : Hid (OwnR 47 P w0 wr (.slice A n cap) rs.reverse) := by
        have h := RR0.out
        rw [revK_end rs k (by rw [HN.out]; omega)] at h
        exact h
      go_wp2
      go_end0
      exact ⟨rfl, N.out, HSZ.out⟩
end Go.Proofs.Ytllfebekanafhaa
