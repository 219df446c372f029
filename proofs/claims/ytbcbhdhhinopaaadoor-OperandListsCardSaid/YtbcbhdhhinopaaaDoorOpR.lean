/-
  The walks over operand.List and the document's own List.
-/
import Derived.Test.YtbcbhdhhinopaaaDoorOpN
import Derived.Test.YtbcbhdhhinopaaaDoorStr
namespace Go.Proofs.YtbcbhdhhinopaaaDoor
open Go.RowKit
set_option linter.unusedVariables false

theorem txt_le (k r n : Int) : (txtS k r n).size ≤ 60 := by
  cases hv : vldB k r n
  · rw [txt_no k r n hv]; decide
  · have hk := vld_kind k r n hv
    have q : ∀ j : Fin 11, (nmS j.val r).size ≤ 50 := fun j => nmS_le j r
    have q4 : (nmS 4 r).size ≤ 50 := q 4
    have q5 : (nmS 5 r).size ≤ 50 := q 5
    have z1 := offS_le n
    have z2 := offS_le (n + 2)
    have z3 := textS_le n
    have br : ∀ s : ByteArray, (brS s).size = 1 + s.size + 1 := fun s => by unfold brS; rw [ByteArray.size_append, ByteArray.size_append]; rfl
    rw [txt_yes k r n hv]
    rcases hk with rfl | rfl | rfl | rfl | rfl | rfl | rfl | rfl | rfl | rfl
    · show (nmS 1 r).size ≤ _; exact Nat.le_trans (q 1) (by decide)
    · show (nmS 2 r).size ≤ _; exact Nat.le_trans (q 2) (by decide)
    · show (nmS 3 r).size ≤ _; exact Nat.le_trans (q 3) (by decide)
    · show (brS (nmS 4 r)).size ≤ _; rw [br]; omega
    · show (brS (nmS 5 r ++ offS n)).size ≤ _; rw [br, ByteArray.size_append]; omega
    · show (if n < 0 then offS n else textS n).size ≤ _; split <;> omega
    · show (brS (textS n)).size ≤ _; rw [br]; omega
    · show (nmS 8 r).size ≤ _; exact Nat.le_trans (q 8) (by decide)
    · show (nmS 9 r).size ≤ _; exact Nat.le_trans (q 9) (by decide)
    · show (⟨#[36]⟩ ++ offS (n + 2)).size ≤ _; rw [ByteArray.size_append]; show 1 + _ ≤ _; omega
def formT (t : Tr) : ByteArray := txtS t.1 t.2.1 t.2.2
def formsL (L : List Tr) : List (List UInt8) := L.map fun t => (formT t).data.toList
/-- The forms with commas between them. -/
def listS (L : List Tr) : ByteArray := St.strOf (St.interL (formsL L))
theorem forms_len (L : List Tr) : (formsL L).length = L.length := by unfold formsL; rw [List.length_map]
theorem forms_at (L : List Tr) (k : Nat) (h : k < L.length) (h' : k < (formsL L).length) : (formsL L)[k] = (formT L[k]).data.toList := by simp only [formsL, List.getElem_map]
theorem forms_strs (L : List Tr) : (formsL L).map St.strOf = L.map formT := by
  unfold formsL
  rw [List.map_map]
  exact List.map_congr_left fun t _ => St.list_strOf _
theorem sum_le (l : List (List UInt8)) (b : Nat) (h : ∀ x ∈ l, x.length ≤ b) : (l.map List.length).sum ≤ b * l.length := by
  induction l with
  | nil => simp
  | cons x t ih =>
    have h1 := ih fun y hy => h y (List.mem_cons_of_mem _ hy)
    have h2 := h x List.mem_cons_self
    rw [List.map_cons, List.sum_cons, List.length_cons, Nat.mul_add]
    omega
theorem form_le (L : List Tr) : ∀ x ∈ formsL L, x.length ≤ 60 := by
  intro x hx
  obtain ⟨t, -, rfl⟩ := List.mem_map.1 hx
  have h := txt_le t.1 t.2.1 t.2.2
  have e : (formT t).data.toList.length = (formT t).size := by simp
  rw [e]
  exact h
theorem inter_le (L : List Tr) (h : L.length ≤ 60) (k : Nat) : (St.interL ((formsL L).take k)).length ≤ 4000 := by
  by_cases h0 : (formsL L).take k = []
  · rw [h0]; decide
  · have h1 := St.interL_len _ h0
    have h2 := sum_le ((formsL L).take k) 60 fun x hx => form_le L x (List.mem_of_mem_take hx)
    have h3 : ((formsL L).take k).length ≤ 60 := by rw [List.length_take, forms_len]; omega
    have h4 : 60 * ((formsL L).take k).length ≤ 60 * 60 := Nat.mul_le_mul_left _ h3
    omega

theorem ba_list' {a b : ByteArray} (h : a.data.toList = b.data.toList) : a = b := by
  apply ByteArray.ext
  exact Array.toList_inj.1 h
/-! ### strings.Join at no string and at one -/
set_option maxHeartbeats 1000000 in
theorem join_none (A : Option Addr) (cap : Nat) (sep : ByteArray) (w : World) :
    Calls Tryd.prog 39 #[.slice A 0 cap, .string sep] w fun e w' => e = .returned (.string ⟨#[]⟩) ∧ Below w.heap.size w w' := by
  go_enter Tryd.func39, Tryd.ntmps39
  go_wp2
  go_ret
  exact ⟨rfl, Below.refl _ _⟩
set_option maxHeartbeats 1000000 in
theorem join_one (b off cap : Nat) (sep t : ByteArray) (w : World) (h : w.cell? ⟨b, off, none⟩ = some (.string t)) :
    Calls Tryd.prog 39 #[.slice (some ⟨b, off, none⟩) 1 cap, .string sep] w fun e w' => e = .returned (.string t) ∧ Below w.heap.size w w' := by
  go_enter Tryd.func39, Tryd.ntmps39
  go_wp2
  go_ret
  exact ⟨rfl, Below.refl _ _⟩
theorem joinL_any (L : List Tr) (hL : L.length ≤ 60) (b : Nat) (w : World) (hc : ∀ j (h : j < L.length), w.cell? ⟨b, j, none⟩ = some (.string (formT L[j]))) :
    Calls Tryd.prog 39 #[.slice (some ⟨b, 0, none⟩) L.length L.length, .string ⟨#[44]⟩] w fun e w' => e = .returned (.string (listS L)) ∧ Below w.heap.size w w' := by
  by_cases h0 : L.length = 0
  · have : L = [] := List.eq_nil_of_length_eq_zero h0
    subst this
    exact join_none _ _ _ w
  · by_cases h1 : L.length = 1
    · obtain ⟨t, rfl⟩ := List.length_eq_one_iff.1 h1
      have e : listS [t] = formT t := by
        unfold listS formsL
        show St.strOf (formT t).data.toList = _
        exact St.list_strOf _
      rw [e]
      exact join_one b 0 1 _ _ w (hc 0 (by simp))
    · have h := St.sjoin_any (fun _ => True) (some ⟨b, 0, none⟩) L.length (formsL L) (by rw [forms_len]; omega) (by rw [forms_len]; omega) (by
          have := inter_le L hL (formsL L).length
          rw [List.take_length] at this
          omega) w (by
          rw [forms_strs]
          refine .inr ⟨b, 0, rfl, trivial, fun j hj => ?_⟩
          have hj' : j < L.length := by simpa using hj
          rw [Nat.zero_add, List.getElem_map]
          exact hc j hj')
      rw [forms_len] at h
      exact h

/-! ### operand.List -/
theorem info_strR : (Tryd.prog.info? 9).map (fun i => (i.zero, i.size, i.bytes)) = some (some (.string ⟨#[]⟩), 1, 16) := by kernel_rfl
/-- The forms of the first k operands have been stored in block b. -/
def SpL (b k n : Nat) (L : List Tr) (wr : World) : Prop :=
  ∃ cs, wr.heap[b]? = some (.cells cs 9 (0, 0)) ∧ (∀ j (h : j < L.length), j < k → cs[j]? = some (.string (formT L[j]))) ∧ ∀ j, j < n → ∃ v, cs[j]? = some (.string v)
theorem SpL.start (w : World) (n : Nat) (L : List Tr) : SpL w.heap.size 0 n L (w.alloc (.cells (madeCells #[.string ⟨#[]⟩] n) 9)) := by
  refine ⟨_, heap_alloc_new w _, fun j _ h => absurd h (Nat.not_lt_zero _), fun j hj => ⟨⟨#[]⟩, ?_⟩⟩
  unfold madeCells
  rw [Array.getElem?_map, Array.getElem?_range, if_pos (by simpa using hj)]
  simp [Nat.mod_one]
theorem SpL.below {b k n : Nat} {L : List Tr} {w w' : World} (h : SpL b k n L w) (hb : Below w.heap.size w w') : SpL b k n L w' := by
  obtain ⟨cs, h1, h2, h3⟩ := h
  exact ⟨cs, (hb.block b (Array.getElem?_eq_some_iff.1 h1).1).trans h1, h2, h3⟩
theorem SpL.at_ {b k n : Nat} {L : List Tr} {w : World} (h : SpL b k n L w) (j : Nat) (hj : j < n) : (∃ v, w.cell? ⟨b, j, none⟩ = some (.string v)) ∧ w.frozen? ⟨b, j, none⟩ = false := by
  obtain ⟨cs, h1, _, h3⟩ := h
  obtain ⟨v, hv⟩ := h3 j hj
  exact ⟨⟨v, (Lib.cell_of_heap h1 j).trans hv⟩, Lib.frozen_of_heap h1 j⟩
theorem SpL.set {b k n : Nat} {L : List Tr} {w : World} (h : SpL b k n L w) (hk : k < L.length) (hn : k < n) : SpL b (k + 1) n L (w.setCell ⟨b, k, none⟩ (.string (formT L[k]))) := by
  obtain ⟨cs, h1, h2, h3⟩ := h
  refine ⟨_, heap_setCell_same w b k cs _ _ h1, fun j hj hjk => ?_, fun j hj => ?_⟩
  · rw [Array.getElem?_setIfInBounds]
    by_cases e : k = j
    · subst e
      obtain ⟨v, hv⟩ := h3 k hn
      have : k < cs.size := (Array.getElem?_eq_some_iff.1 hv).1
      rw [if_pos rfl, if_pos this]
    · rw [if_neg e]
      exact h2 j hj (by omega)
  · rw [Array.getElem?_setIfInBounds]
    obtain ⟨v, hv⟩ := h3 j hj
    by_cases e : k = j
    · subst e
      have : k < cs.size := (Array.getElem?_eq_some_iff.1 hv).1
      rw [if_pos rfl, if_pos this]
      exact ⟨_, rfl⟩
    · rw [if_neg e]
      exact ⟨v, hv⟩
theorem SpL.done {b n : Nat} {L : List Tr} {w : World} (h : SpL b L.length n L w) : ∀ j (h : j < L.length), w.cell? ⟨b, j, none⟩ = some (.string (formT L[j])) := by
  obtain ⟨cs, h1, h2, _⟩ := h
  exact fun j hj => (Lib.cell_of_heap h1 j).trans (h2 j hj hj)
set_option maxRecDepth 100000 in
set_option maxHeartbeats 4000000 in
theorem list_any (A : Option Addr) (c : Nat) (L : List Tr) (hL : L.length ≤ 60) (w : World) (H : OpsP w A L) :
    Calls Tryd.prog 23 #[.slice A L.length c] w fun e w' => e = .returned (.string (listS L)) ∧ Below w.heap.size w w' := by
  have X := Lib.hid H
  have HL := Lib.hid hL
  have JN := Lib.hid (joinL_any L hL)
  have hmk : ∀ w, (Instr.makeSlice 32 (.int .i64 (L.length : Int)) (.int .i64 (L.length : Int))).run Tryd.prog w = .ok (.slice (some ⟨w.heap.size, 0, none⟩) L.length L.length) (w.alloc (.cells (madeCells #[.string ⟨#[]⟩] L.length) 9)) := fun w =>
    run_make_row' (P := Tryd.prog) 32 9 (.string ⟨#[]⟩) 16 Tryd.underlying32 info_strR rfl .i64 .i64 L.length (by omega) (by omega) w
  have S0 := Lib.hid (SpL.start w L.length L)
  have B0 : Hid (Below w.heap.size w (w.alloc (.cells (madeCells #[.string ⟨#[]⟩] L.length) 9))) := (Below.refl _ _).alloc (Nat.le_refl _) _
  obtain ⟨n, hn⟩ : ∃ n, L.length = n := ⟨_, rfl⟩
  have HN := Lib.hid hn
  rw [hn] at hL hmk S0 B0 ⊢
  clear H hn
  go_enter Tryd.func23, Tryd.ntmps23
  go_wp2
  go_loopw [11] (fun i wr => ∃ k : Nat, k ≤ n ∧ i = .int .i64 k ∧ Hid (Below w.heap.size w wr) ∧ Hid (SpL w.heap.size k n L wr)) (fun i _ => n - (intOf i).toNat)
  case atStart => exact ⟨0, Nat.zero_le _, rfl, B0.out, S0.out⟩
  case round =>
    clear B0 S0 hmk
    obtain ⟨k, hk, rfl, B, S⟩ := hrel
    by_cases hlt : k < n
    · have hk1 : k < L.length := by have := HN.out; omega
      have hW : Below w.heap.size w wr := B.out
      obtain ⟨b1, o1, hA1, hb1, p0, p1, p2⟩ := X.out.at_ hk1
      subst hA1
      have q0 : wr.cell? ⟨b1, o1 + k * 3, none⟩ = some (.int .i64 L[k].1) := (hW.cell hb1).trans p0
      have q1 : wr.cell? ⟨b1, o1 + k * 3 + 1, none⟩ = some (.int .i64 L[k].2.1) := (hW.cell hb1).trans p1
      have q2 : wr.cell? ⟨b1, o1 + k * 3 + 2, none⟩ = some (.int .i64 L[k].2.2) := (hW.cell hb1).trans p2
      have HT : Hid (formT L[k] = txtS L[k].1 L[k].2.1 L[k].2.2) := rfl
      have SET : Hid (∀ w2, SpL w.heap.size k n L w2 → SpL w.heap.size (k + 1) n L (w2.setCell ⟨w.heap.size, k, none⟩ (.string (formT L[k])))) := fun w2 h => h.set hk1 hlt
      obtain ⟨⟨x0, x1, x2⟩, hx⟩ : ∃ x, L[k] = x := ⟨_, rfl⟩
      rw [hx] at q0 q1 q2 HT SET
      simp only at q0 q1 q2 HT
      have TX := Lib.hid (otext_any x0 x1 x2)
      rw [← HT.out] at TX
      obtain ⟨s, hs⟩ : ∃ s, formT (x0, x1, x2) = s := ⟨_, rfl⟩
      rw [hs] at TX SET
      have hal : Below wr.heap.size wr (wr.alloc (.cells #[.int .i64 x0, .int .i64 x1, .int .i64 x2] 23)) := (Below.refl _ _).alloc (Nat.le_refl _) _
      have BA := Lib.hid (B.out.trans (hal.mono B.out.size))
      have SA := Lib.hid (S.out.below hal)
      clear p0 p1 p2 hk1 hx hs HT hal hb1 hW B S
      go_wp2_with fail
      refine (TX.out _).mono ?_
      rintro e w2 ⟨rfl, hb⟩
      have B2 := Lib.hid (BA.out.trans (hb.mono BA.out.size))
      have S2 := Lib.hid (SA.out.below hb)
      obtain ⟨⟨v, c0⟩, f0⟩ := S2.out.at_ k hlt
      have S3 := Lib.hid (SET.out _ S2.out)
      have B3 : Hid (Below w.heap.size w (w2.setCell ⟨w.heap.size, k, none⟩ (.string s))) := B2.out.setCell (by simp) _
      clear hb q0 q1 q2 BA SA TX
      go_wp2
      go_roundw
      case rel => exact ⟨k + 1, by omega, by go_num, B3.out, S3.out⟩
      case measure => simp [intOf]; omega
    · have hkn : k = n := by omega
      have JJ : Hid (∀ W, SpL w.heap.size k n L W → Calls Tryd.prog 39 #[.slice (some ⟨w.heap.size, 0, none⟩) n n, .string ⟨#[44]⟩] W fun e w' => e = .returned (.string (listS L)) ∧ Below W.heap.size W w') := fun W h => by
        have e : L.length = k := HN.out.trans hkn.symm
        have h2 := JN.out w.heap.size W (SpL.done (n := n) (by rw [e]; exact h))
        rw [HN.out] at h2
        exact h2
      clear hkn
      go_wp2_with fail
      refine (JJ.out _ S.out).mono ?_
      rintro e w2 ⟨rfl, hb⟩
      have B2 := Lib.hid (B.out.trans (hb.mono B.out.size))
      clear hb JJ
      go_wp2
      go_ret
      exact ⟨rfl, B2.out⟩

/-! ### The document's own List -/
theorem inter_none (L : List Tr) : St.strOf (St.interL ((formsL L).take 0)) = ⟨#[]⟩ := rfl
theorem inter_one (L : List Tr) (h : 0 < L.length) : St.strOf (St.interL ((formsL L).take 0)) ++ formT L[0] = St.strOf (St.interL ((formsL L).take 1)) := by
  cases L with
  | nil => simp at h
  | cons t L =>
    apply ba_list'
    rw [append_data, St.strOf_list, St.strOf_list]
    rfl
theorem inter_more (L : List Tr) (k : Nat) (h0 : 0 < k) (h : k < L.length) : (St.strOf (St.interL ((formsL L).take k)) ++ ⟨#[44]⟩) ++ formT L[k] = St.strOf (St.interL ((formsL L).take (k + 1))) := by
  apply ba_list'
  have hk : k < (formsL L).length := by rw [forms_len]; exact h
  rw [append_data, append_data, St.strOf_list, St.strOf_list, St.interL_take _ k h0 hk, forms_at L k h hk]
set_option maxRecDepth 100000 in
set_option maxHeartbeats 4000000 in
theorem rlist_any (A : Option Addr) (c : Nat) (L : List Tr) (hL : L.length ≤ 60) (w : World) (H : OpsP w A L) :
    Calls Tryd.prog 24 #[.slice A L.length c] w fun e w' => e = .returned (.string (listS L)) ∧ Below w.heap.size w w' := by
  have X := Lib.hid H
  have LE := Lib.hid (inter_le L hL)
  obtain ⟨n, hn⟩ : ∃ n, L.length = n := ⟨_, rfl⟩
  have HN := Lib.hid hn
  rw [hn] at hL ⊢
  clear H hn
  go_enter Tryd.func24, Tryd.ntmps24
  go_wp2
  go_loopw [3, 4] (fun v i wr => ∃ (k : Nat) (s : ByteArray), k ≤ n ∧ i = .int .i64 k ∧ v = .string s ∧ Hid (St.strOf (St.interL ((formsL L).take k)) = s) ∧ Hid (Below w.heap.size w wr)) (fun _ i _ => n - (intOf i).toNat)
  case atStart => exact ⟨0, ⟨#[]⟩, Nat.zero_le _, rfl, rfl, rfl, Below.refl _ _⟩
  case round =>
    obtain ⟨k, s, hk, rfl, rfl, S, B⟩ := hrel
    have zs : s.size ≤ 4000 := by
      have h := LE.out k
      rw [← St.strOf_size, S.out] at h
      exact h
    by_cases hlt : k < n
    · have hk1 : k < L.length := by have := HN.out; omega
      have hW : Below w.heap.size w wr := B.out
      obtain ⟨b1, o1, hA1, hb1, p0, p1, p2⟩ := X.out.at_ hk1
      subst hA1
      have q0 : wr.cell? ⟨b1, o1 + k * 3, none⟩ = some (.int .i64 L[k].1) := (hW.cell hb1).trans p0
      have q1 : wr.cell? ⟨b1, o1 + k * 3 + 1, none⟩ = some (.int .i64 L[k].2.1) := (hW.cell hb1).trans p1
      have q2 : wr.cell? ⟨b1, o1 + k * 3 + 2, none⟩ = some (.int .i64 L[k].2.2) := (hW.cell hb1).trans p2
      have HT : Hid (formT L[k] = txtS L[k].1 L[k].2.1 L[k].2.2) := rfl
      have I1 : Hid (k = 0 → s ++ formT L[k] = St.strOf (St.interL ((formsL L).take (k + 1)))) := fun h => by
        have hs := S.out
        subst h
        rw [← hs]
        exact inter_one L hk1
      have I2 : Hid (0 < k → (s ++ ⟨#[44]⟩) ++ formT L[k] = St.strOf (St.interL ((formsL L).take (k + 1)))) := fun h => by
        have hs := S.out
        rw [← hs]
        exact inter_more L k h hk1
      obtain ⟨⟨x0, x1, x2⟩, hx⟩ : ∃ x, L[k] = x := ⟨_, rfl⟩
      rw [hx] at q0 q1 q2 HT I1 I2
      simp only at q0 q1 q2 HT
      have TX := Lib.hid (rtxt_any x0 x1 x2)
      have zt := txt_le x0 x1 x2
      rw [← HT.out] at TX zt
      obtain ⟨t, ht⟩ : ∃ t, formT (x0, x1, x2) = t := ⟨_, rfl⟩
      rw [ht] at TX I1 I2 zt
      clear p0 p1 p2 hk1 hx ht HT hb1 hW
      by_cases hk0 : k = 0
      · have T := Lib.hid (I1.out hk0)
        subst hk0
        clear I1 I2
        simp only [Nat.zero_mul, Nat.add_zero] at q0 q1 q2
        go_wp2_with fail
        refine (TX.out _).mono ?_
        rintro e w2 ⟨rfl, hb⟩
        have B2 := Lib.hid (B.out.trans (hb.mono B.out.size))
        clear hb q0 q1 q2
        go_wp2
        go_roundw
        case rel => exact ⟨0 + 1, s ++ t, by omega, by go_num, rfl, T.out.symm, B2.out⟩
        case measure => simp [intOf]; omega
      · have hk0' : 0 < k := by omega
        have hk0i : (0 : Int) < (k : Int) := by omega
        have T := Lib.hid (I2.out hk0')
        clear I1 I2
        go_wp2_with fail
        refine (TX.out _).mono ?_
        rintro e w2 ⟨rfl, hb⟩
        have B2 := Lib.hid (B.out.trans (hb.mono B.out.size))
        clear hb q0 q1 q2
        go_wp2
        go_roundw
        case rel => exact ⟨k + 1, s ++ (⟨#[44]⟩ : ByteArray) ++ t, by omega, by go_num, rfl, T.out.symm, B2.out⟩
        case measure => simp [intOf]; omega
    · have T : Hid (s = listS L) := by
        have hs := S.out
        show _ = _
        rw [← hs]
        unfold listS
        rw [List.take_of_length_le (by rw [forms_len]; have := HN.out; omega)]
      go_wp2
      go_ret
      exact ⟨ret_str T.out, B.out⟩
end Go.Proofs.YtbcbhdhhinopaaaDoor
