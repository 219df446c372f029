/-
  Walks over the document's own answers (package breadboardref06): signed, Text, Index.
-/
import Derived.Test.YthpaamekpfhkjaaDoorOpH
import Derived.Test.YthpaamekpfhkjaaDoorNumJ
import Derived.Test.YthpaamekpfhkjaaDoorMixed
import Derived.Test.YthpaamekpfhkjaaDoorMixG
namespace Go.Proofs.YthpaamekpfhkjaaDoor
open Go.RowKit
set_option linter.unusedVariables false

set_option maxHeartbeats 1000000 in
theorem rsigned_any (n : Int) (h0 : -100000 ≤ n) (h1 : n ≤ 100000) (w : World) :
    Calls Tryd.prog 50 #[.int .i64 n] w fun e w' => e = .returned (.string (offS n)) ∧ w = w' := by
  have zt := textS_le n
  have zn := textS_le (-n)
  by_cases h : n < 0
  · have T := Lib.hid (show ⟨#[45]⟩ ++ textS (-n) = offS n by unfold offS; rw [if_pos h])
    go_enter Tryd.func50, Tryd.ntmps50
    go_wp2_with fail
    refine (rtext_any _ _).mono ?_
    rintro e w' ⟨rfl, rfl⟩
    go_wp2
    go_ret
    exact ⟨ret_str T.out, rfl⟩
  · have T := Lib.hid (show ⟨#[43]⟩ ++ textS n = offS n by unfold offS; rw [if_neg h])
    go_enter Tryd.func50, Tryd.ntmps50
    go_wp2_with fail
    refine (rtext_any _ _).mono ?_
    rintro e w' ⟨rfl, rfl⟩
    go_wp2
    go_ret
    exact ⟨ret_str T.out, rfl⟩
theorem txt_yes (k r n : Int) (h : vldB k r n = true) : txtS k r n = formS k.toNat (nmS k.toNat r) n := by unfold txtS; rw [h]; rfl
set_option maxRecDepth 100000 in
set_option maxHeartbeats 1000000 in
theorem rtxt_no (k r n : Int) (h : vldB k r n = false) (w : World) :
    Calls Tryd.prog 42 #[.agg #[.int .i64 k, .int .i64 r, .int .i64 n]] w fun e w' => e = .returned (.string (txtS k r n)) ∧ Below w.heap.size w w' := by
  have HV := Lib.hid (rvalid_any k r n)
  rw [h] at HV
  rw [txt_no k r n h]
  clear h
  go_enter Tryd.func42, Tryd.ntmps42
  go_wp2_with fail
  refine (HV.out _).mono ?_
  rintro e w1 ⟨rfl, h1⟩
  have N : Hid (Below w.heap.size w w1) := ((Below.refl _ _).alloc (Nat.le_refl _) _).trans (h1.mono (by simp))
  clear h1
  go_wp2
  go_ret
  exact ⟨rfl, N.out⟩
theorem brS_4 (r : Int) (h : neB (nmS 4 r) = true) : brS (nmS 4 r) = atS (rnK 4) r := by
  by_cases hr : 0 ≤ r ∧ r < 9
  · obtain ⟨j, rfl⟩ : ∃ j : Nat, r = j := ⟨r.toNat, by omega⟩
    have hd : ∀ i : Fin 9, neB (nmS 4 ((i.val : Nat) : Int)) = true → (brS (nmS 4 ((i.val : Nat) : Int))).data = (atS (rnK 4) ((i.val : Nat) : Int)).data := by decide +kernel
    have := hd ⟨j, by omega⟩ h
    exact ByteArray.ext this
  · unfold nmS at h
    rw [atS_out _ r (by show r < 0 ∨ (9 : Int) ≤ r; omega), neB_nil] at h
    cases h
set_option maxRecDepth 100000 in
set_option maxHeartbeats 1000000 in
theorem rtxt_1 (r n : Int) (h : vldB 1 r n = true) (w : World) :
    Calls Tryd.prog 42 #[.agg #[.int .i64 1, .int .i64 r, .int .i64 n]] w fun e w' => e = .returned (.string (txtS 1 r n)) ∧ Below w.heap.size w w' := by
  have HV := Lib.hid (rvalid_any 1 r n)
  rw [h] at HV
  have e1 : txtS 1 r n = atS (rnK 1) r := by rw [txt_yes 1 r n h]; rfl
  rw [e1]
  clear e1 h
  go_enter Tryd.func42, Tryd.ntmps42
  go_wp2_with fail
  refine (HV.out _).mono ?_
  rintro e w1 ⟨rfl, h1⟩
  have N : Hid (Below w.heap.size w w1) := ((Below.refl _ _).alloc (Nat.le_refl _) _).trans (h1.mono (by simp))
  obtain ⟨hc, -⟩ := bcell h1
  have hz : w.heap.size < w1.heap.size := by have := h1.size; simp at this; omega
  clear h1
  go_wp2_with fail
  refine (rname_any 1 r _).mono ?_
  rintro e w2 ⟨rfl, h2⟩
  have M : Hid (Below w.heap.size w w2) := N.out.trans (h2.mono N.out.size)
  clear h2
  go_wp2
  go_ret
  exact ⟨rfl, M.out⟩
set_option maxRecDepth 100000 in
set_option maxHeartbeats 1000000 in
theorem rtxt_2 (r n : Int) (h : vldB 2 r n = true) (w : World) :
    Calls Tryd.prog 42 #[.agg #[.int .i64 2, .int .i64 r, .int .i64 n]] w fun e w' => e = .returned (.string (txtS 2 r n)) ∧ Below w.heap.size w w' := by
  have HV := Lib.hid (rvalid_any 2 r n)
  rw [h] at HV
  have e1 : txtS 2 r n = atS (rnK 2) r := by rw [txt_yes 2 r n h]; rfl
  rw [e1]
  clear e1 h
  go_enter Tryd.func42, Tryd.ntmps42
  go_wp2_with fail
  refine (HV.out _).mono ?_
  rintro e w1 ⟨rfl, h1⟩
  have N : Hid (Below w.heap.size w w1) := ((Below.refl _ _).alloc (Nat.le_refl _) _).trans (h1.mono (by simp))
  obtain ⟨hc, -⟩ := bcell h1
  have hz : w.heap.size < w1.heap.size := by have := h1.size; simp at this; omega
  clear h1
  go_wp2_with fail
  refine (rname_any 2 r _).mono ?_
  rintro e w2 ⟨rfl, h2⟩
  have M : Hid (Below w.heap.size w w2) := N.out.trans (h2.mono N.out.size)
  clear h2
  go_wp2
  go_ret
  exact ⟨rfl, M.out⟩
set_option maxRecDepth 100000 in
set_option maxHeartbeats 1000000 in
theorem rtxt_3 (r n : Int) (h : vldB 3 r n = true) (w : World) :
    Calls Tryd.prog 42 #[.agg #[.int .i64 3, .int .i64 r, .int .i64 n]] w fun e w' => e = .returned (.string (txtS 3 r n)) ∧ Below w.heap.size w w' := by
  have HV := Lib.hid (rvalid_any 3 r n)
  rw [h] at HV
  have e1 : txtS 3 r n = atS (rnK 3) r := by rw [txt_yes 3 r n h]; rfl
  rw [e1]
  clear e1 h
  go_enter Tryd.func42, Tryd.ntmps42
  go_wp2_with fail
  refine (HV.out _).mono ?_
  rintro e w1 ⟨rfl, h1⟩
  have N : Hid (Below w.heap.size w w1) := ((Below.refl _ _).alloc (Nat.le_refl _) _).trans (h1.mono (by simp))
  obtain ⟨hc, -⟩ := bcell h1
  have hz : w.heap.size < w1.heap.size := by have := h1.size; simp at this; omega
  clear h1
  go_wp2_with fail
  refine (rname_any 3 r _).mono ?_
  rintro e w2 ⟨rfl, h2⟩
  have M : Hid (Below w.heap.size w w2) := N.out.trans (h2.mono N.out.size)
  clear h2
  go_wp2
  go_ret
  exact ⟨rfl, M.out⟩
set_option maxRecDepth 100000 in
set_option maxHeartbeats 1000000 in
theorem rtxt_4 (r n : Int) (h : vldB 4 r n = true) (w : World) :
    Calls Tryd.prog 42 #[.agg #[.int .i64 4, .int .i64 r, .int .i64 n]] w fun e w' => e = .returned (.string (txtS 4 r n)) ∧ Below w.heap.size w w' := by
  have HV := Lib.hid (rvalid_any 4 r n)
  rw [h] at HV
  have hb : neB (nmS 4 r) = true := by
    rw [vld_4, neB_4, Bool.and_eq_true] at h
    exact h.1
  have e1 : txtS 4 r n = atS (rnK 4) r := by rw [txt_yes 4 r n h]; exact brS_4 r hb
  clear hb
  rw [e1]
  clear e1 h
  go_enter Tryd.func42, Tryd.ntmps42
  go_wp2_with fail
  refine (HV.out _).mono ?_
  rintro e w1 ⟨rfl, h1⟩
  have N : Hid (Below w.heap.size w w1) := ((Below.refl _ _).alloc (Nat.le_refl _) _).trans (h1.mono (by simp))
  obtain ⟨hc, -⟩ := bcell h1
  have hz : w.heap.size < w1.heap.size := by have := h1.size; simp at this; omega
  clear h1
  go_wp2_with fail
  refine (rname_any 4 r _).mono ?_
  rintro e w2 ⟨rfl, h2⟩
  have M : Hid (Below w.heap.size w w2) := N.out.trans (h2.mono N.out.size)
  clear h2
  go_wp2
  go_ret
  exact ⟨rfl, M.out⟩
set_option maxRecDepth 100000 in
set_option maxHeartbeats 1000000 in
theorem rtxt_8 (r n : Int) (h : vldB 8 r n = true) (w : World) :
    Calls Tryd.prog 42 #[.agg #[.int .i64 8, .int .i64 r, .int .i64 n]] w fun e w' => e = .returned (.string (txtS 8 r n)) ∧ Below w.heap.size w w' := by
  have HV := Lib.hid (rvalid_any 8 r n)
  rw [h] at HV
  have e1 : txtS 8 r n = atS (rnK 8) r := by rw [txt_yes 8 r n h]; rfl
  rw [e1]
  clear e1 h
  go_enter Tryd.func42, Tryd.ntmps42
  go_wp2_with fail
  refine (HV.out _).mono ?_
  rintro e w1 ⟨rfl, h1⟩
  have N : Hid (Below w.heap.size w w1) := ((Below.refl _ _).alloc (Nat.le_refl _) _).trans (h1.mono (by simp))
  obtain ⟨hc, -⟩ := bcell h1
  have hz : w.heap.size < w1.heap.size := by have := h1.size; simp at this; omega
  clear h1
  go_wp2_with fail
  refine (rname_any 8 r _).mono ?_
  rintro e w2 ⟨rfl, h2⟩
  have M : Hid (Below w.heap.size w w2) := N.out.trans (h2.mono N.out.size)
  clear h2
  go_wp2
  go_ret
  exact ⟨rfl, M.out⟩
set_option maxRecDepth 100000 in
set_option maxHeartbeats 1000000 in
theorem rtxt_9 (r n : Int) (h : vldB 9 r n = true) (w : World) :
    Calls Tryd.prog 42 #[.agg #[.int .i64 9, .int .i64 r, .int .i64 n]] w fun e w' => e = .returned (.string (txtS 9 r n)) ∧ Below w.heap.size w w' := by
  have HV := Lib.hid (rvalid_any 9 r n)
  rw [h] at HV
  have e1 : txtS 9 r n = atS (rnK 9) r := by rw [txt_yes 9 r n h]; rfl
  rw [e1]
  clear e1 h
  go_enter Tryd.func42, Tryd.ntmps42
  go_wp2_with fail
  refine (HV.out _).mono ?_
  rintro e w1 ⟨rfl, h1⟩
  have N : Hid (Below w.heap.size w w1) := ((Below.refl _ _).alloc (Nat.le_refl _) _).trans (h1.mono (by simp))
  obtain ⟨hc, -⟩ := bcell h1
  have hz : w.heap.size < w1.heap.size := by have := h1.size; simp at this; omega
  clear h1
  go_wp2_with fail
  refine (rname_any 9 r _).mono ?_
  rintro e w2 ⟨rfl, h2⟩
  have M : Hid (Below w.heap.size w w2) := N.out.trans (h2.mono N.out.size)
  clear h2
  go_wp2
  go_ret
  exact ⟨rfl, M.out⟩
attribute [local irreducible] Go.Mixed.wpMix
set_option maxRecDepth 100000 in
set_option maxHeartbeats 1000000 in
theorem rtxt_5 (r n : Int) (h : vldB 5 r n = true) (w : World) :
    Calls Tryd.prog 42 #[.agg #[.int .i64 5, .int .i64 r, .int .i64 n]] w fun e w' => e = .returned (.string (txtS 5 r n)) ∧ Below w.heap.size w w' := by
  have HV := Lib.hid (rvalid_any 5 r n)
  rw [h] at HV
  have hb : -128 ≤ n ∧ n ≤ 127 := by
    rw [vld_5] at h
    simp only [Bool.and_eq_true, decide_eq_true_eq] at h
    exact h.2
  obtain ⟨b0, b1⟩ := hb
  have T : Hid (⟨#[40]⟩ ++ atS (rnK 5) r ++ offS n ++ ⟨#[41]⟩ = txtS 5 r n) := by
    rw [txt_yes 5 r n h]
    show _ = brS (nmS 5 r ++ offS n)
    unfold brS
    show ⟨#[40]⟩ ++ nmS 5 r ++ offS n ++ ⟨#[41]⟩ = _
    simp only [ByteArray.append_assoc]
  have zs : (atS (rnK 5) r).size ≤ 50 := nmS_le 5 r
  have zo := offS_le n
  have HR := Lib.hid (rname_any 5 r)
  obtain ⟨s, hs⟩ : ∃ s, atS (rnK 5) r = s := ⟨_, rfl⟩
  rw [hs] at T HR zs
  clear h hs
  go_enter Tryd.func42, Tryd.ntmps42
  go_wp2_with fail
  refine (HV.out _).mono ?_
  rintro e w1 ⟨rfl, h1⟩
  have N : Hid (Below w.heap.size w w1) := ((Below.refl _ _).alloc (Nat.le_refl _) _).trans (h1.mono (by simp))
  obtain ⟨hc, -⟩ := bcell h1
  have hz : w.heap.size < w1.heap.size := by have := h1.size; simp at this; omega
  clear h1
  have k1 : w1.cell? ⟨w.heap.size, 1, none⟩ = some (.int .i64 r) := by rw [hc _ _ (by simp)]; simp [go_sem]
  have k2 : w1.cell? ⟨w.heap.size, 2, none⟩ = some (.int .i64 n) := by rw [hc _ _ (by simp)]; simp [go_sem]
  go_wp2
  refine Mixed.wp_region_mixed (fun w' => w'.cell? ⟨w.heap.size, 1, none⟩ = some (.int .i64 r) ∧ w'.cell? ⟨w.heap.size, 2, none⟩ = some (.int .i64 n)) 9 [(0, true), (1, true), (4, true), (5, true), (2, false), (3, true), (6, false), (7, true), (8, true)] (by kernel_rfl) (by kernel_rfl) ⟨k1, k2⟩ ?_
  refine Mixed.wpMix_pure rfl (by kernel_rfl) (.pointer (some ⟨w.heap.size, 1, none⟩)) (fun w h => by clear h; go_simp; try rfl) ?_
  refine Mixed.wpMix_pure rfl (by kernel_rfl) (.int .i64 r) (fun w h => by obtain ⟨h1, h2⟩ := h; go_simp; try rfl) ?_
  refine Mixed.wpMix_pure rfl (by kernel_rfl) (.pointer (some ⟨w.heap.size, 2, none⟩)) (fun w h => by clear h; go_simp; try rfl) ?_
  refine Mixed.wpMix_pure rfl (by kernel_rfl) (.int .i64 n) (fun w h => by obtain ⟨h1, h2⟩ := h; go_simp; try rfl) ?_
  refine Mixed.wpMix_loudG rfl (by kernel_rfl) ?_
  clear hc
  go_wp2_with fail
  refine (HR.out _).mono ?_
  rintro e w2 ⟨rfl, h2⟩
  have h2' : Below w1.heap.size w1 w2 := (below_drewN w1 _ 1).trans h2
  have M : Hid (Below w.heap.size w w2) := N.out.trans (h2'.mono N.out.size)
  have j1 : w2.cell? ⟨w.heap.size, 1, none⟩ = some (.int .i64 r) := (h2'.cell hz).trans k1
  have j2 : w2.cell? ⟨w.heap.size, 2, none⟩ = some (.int .i64 n) := (h2'.cell hz).trans k2
  clear h2 h2' k1 k2
  go_wp2
  refine ⟨⟨j1, j2⟩, ?_⟩
  refine Mixed.wpMix_pure rfl (by kernel_rfl) (.string (⟨#[40]⟩ ++ s)) (fun w h => by clear h; go_simp; omega) ?_
  refine Mixed.wpMix_loudG rfl (by kernel_rfl) ?_
  go_wp2_with fail
  refine (rsigned_any n (by omega) (by omega) _).mono ?_
  rintro e w3 ⟨rfl, rfl⟩
  go_wp2
  refine ⟨⟨j1, j2⟩, ?_⟩
  refine Mixed.wpMix_pure rfl (by kernel_rfl) (.string (⟨#[40]⟩ ++ s ++ offS n)) (fun w h => by clear h; go_simp; omega) ?_
  refine Mixed.wpMix_pure rfl (by kernel_rfl) (.string (⟨#[40]⟩ ++ s ++ offS n ++ ⟨#[41]⟩)) (fun w h => by clear h; go_simp; omega) ?_
  simp only [Mixed.wpMix, List.drop_succ_cons, List.drop_zero]
  go_wp2
  go_ret
  exact ⟨ret_str T.out, M.out⟩
set_option maxRecDepth 100000 in
set_option maxHeartbeats 1000000 in
theorem rtxt_6 (r n : Int) (h : vldB 6 r n = true) (w : World) :
    Calls Tryd.prog 42 #[.agg #[.int .i64 6, .int .i64 r, .int .i64 n]] w fun e w' => e = .returned (.string (txtS 6 r n)) ∧ Below w.heap.size w w' := by
  have HV := Lib.hid (rvalid_any 6 r n)
  rw [h] at HV
  have hb : -32768 ≤ n ∧ n ≤ 65535 := by
    rw [vld_6] at h
    simp only [Bool.and_eq_true, decide_eq_true_eq] at h
    exact h.2
  obtain ⟨b0, b1⟩ := hb
  have e1 : txtS 6 r n = if n < 0 then offS n else textS n := by rw [txt_yes 6 r n h]; rfl
  rw [e1]
  clear e1 h
  by_cases hn : n < 0
  · rw [if_pos hn]
    go_enter Tryd.func42, Tryd.ntmps42
    go_wp2_with fail
    refine (HV.out _).mono ?_
    rintro e w1 ⟨rfl, h1⟩
    have N : Hid (Below w.heap.size w w1) := ((Below.refl _ _).alloc (Nat.le_refl _) _).trans (h1.mono (by simp))
    obtain ⟨hc, -⟩ := bcell h1
    have hz : w.heap.size < w1.heap.size := by have := h1.size; simp at this; omega
    clear h1
    go_wp2_with fail
    refine (rsigned_any n (by omega) (by omega) _).mono ?_
    rintro e w2 ⟨rfl, rfl⟩
    go_wp2
    go_ret
    exact ⟨rfl, N.out⟩
  · rw [if_neg hn]
    go_enter Tryd.func42, Tryd.ntmps42
    go_wp2_with fail
    refine (HV.out _).mono ?_
    rintro e w1 ⟨rfl, h1⟩
    have N : Hid (Below w.heap.size w w1) := ((Below.refl _ _).alloc (Nat.le_refl _) _).trans (h1.mono (by simp))
    obtain ⟨hc, -⟩ := bcell h1
    have hz : w.heap.size < w1.heap.size := by have := h1.size; simp at this; omega
    clear h1
    go_wp2_with fail
    refine (rtext_any n _).mono ?_
    rintro e w2 ⟨rfl, rfl⟩
    go_wp2
    go_ret
    exact ⟨rfl, N.out⟩
set_option maxRecDepth 100000 in
set_option maxHeartbeats 1000000 in
theorem rtxt_7 (r n : Int) (h : vldB 7 r n = true) (w : World) :
    Calls Tryd.prog 42 #[.agg #[.int .i64 7, .int .i64 r, .int .i64 n]] w fun e w' => e = .returned (.string (txtS 7 r n)) ∧ Below w.heap.size w w' := by
  have HV := Lib.hid (rvalid_any 7 r n)
  rw [h] at HV
  have e1 : txtS 7 r n = ⟨#[40]⟩ ++ textS n ++ ⟨#[41]⟩ := by rw [txt_yes 7 r n h]; rfl
  have zt := textS_le n
  rw [e1]
  clear e1 h
  go_enter Tryd.func42, Tryd.ntmps42
  go_wp2_with fail
  refine (HV.out _).mono ?_
  rintro e w1 ⟨rfl, h1⟩
  have N : Hid (Below w.heap.size w w1) := ((Below.refl _ _).alloc (Nat.le_refl _) _).trans (h1.mono (by simp))
  obtain ⟨hc, -⟩ := bcell h1
  have hz : w.heap.size < w1.heap.size := by have := h1.size; simp at this; omega
  clear h1
  go_wp2_with fail
  refine (rtext_any n _).mono ?_
  rintro e w2 ⟨rfl, rfl⟩
  go_wp2
  go_ret
  exact ⟨rfl, N.out⟩
set_option maxRecDepth 100000 in
set_option maxHeartbeats 1000000 in
theorem rtxt_10 (r n : Int) (h : vldB 10 r n = true) (w : World) :
    Calls Tryd.prog 42 #[.agg #[.int .i64 10, .int .i64 r, .int .i64 n]] w fun e w' => e = .returned (.string (txtS 10 r n)) ∧ Below w.heap.size w w' := by
  have HV := Lib.hid (rvalid_any 10 r n)
  rw [h] at HV
  have hb : -128 ≤ n ∧ n ≤ 127 := by
    rw [vld_10] at h
    simp only [Bool.and_eq_true, decide_eq_true_eq] at h
    exact h.2
  obtain ⟨b0, b1⟩ := hb
  have e1 : txtS 10 r n = ⟨#[36]⟩ ++ offS (n + 2) := by rw [txt_yes 10 r n h]; rfl
  have zt := offS_le (n + 2)
  rw [e1]
  clear e1 h
  go_enter Tryd.func42, Tryd.ntmps42
  go_wp2_with fail
  refine (HV.out _).mono ?_
  rintro e w1 ⟨rfl, h1⟩
  have N : Hid (Below w.heap.size w w1) := ((Below.refl _ _).alloc (Nat.le_refl _) _).trans (h1.mono (by simp))
  obtain ⟨hc, -⟩ := bcell h1
  have hz : w.heap.size < w1.heap.size := by have := h1.size; simp at this; omega
  clear h1
  go_wp2_with fail
  refine (rsigned_any (n + 2) (by omega) (by omega) _).mono ?_
  rintro e w2 ⟨rfl, rfl⟩
  go_wp2
  go_ret
  exact ⟨rfl, N.out⟩
theorem vld_kind (k r n : Int) (h : vldB k r n = true) : k = 1 ∨ k = 2 ∨ k = 3 ∨ k = 4 ∨ k = 5 ∨ k = 6 ∨ k = 7 ∨ k = 8 ∨ k = 9 ∨ k = 10 := by
  unfold vldB at h
  simp only [Bool.and_eq_true, decide_eq_true_eq] at h
  omega
theorem rtxt_any (k r n : Int) (w : World) :
    Calls Tryd.prog 42 #[.agg #[.int .i64 k, .int .i64 r, .int .i64 n]] w fun e w' => e = .returned (.string (txtS k r n)) ∧ Below w.heap.size w w' := by
  cases hv : vldB k r n
  · exact rtxt_no k r n hv w
  · rcases vld_kind k r n hv with rfl | rfl | rfl | rfl | rfl | rfl | rfl | rfl | rfl | rfl
    · exact rtxt_1 r n hv w
    · exact rtxt_2 r n hv w
    · exact rtxt_3 r n hv w
    · exact rtxt_4 r n hv w
    · exact rtxt_5 r n hv w
    · exact rtxt_6 r n hv w
    · exact rtxt_7 r n hv w
    · exact rtxt_8 r n hv w
    · exact rtxt_9 r n hv w
    · exact rtxt_10 r n hv w
end Go.Proofs.YthpaamekpfhkjaaDoor
