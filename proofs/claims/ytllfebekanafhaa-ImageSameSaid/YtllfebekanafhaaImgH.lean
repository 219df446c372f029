/-
  The walks over breadboardref02.Of and image.Of: for every list of runs.
-/
import Derived.Test.YtllfebekanafhaaImgG
namespace Go.Proofs.Ytllfebekanafhaa
open Go.RowKit
set_option linter.unusedVariables false

/-- The cells into which runs have been put in order, and 0; or none, and the code of the first that can't be put in. -/
def ofW (W : List Cel) : List R → List Cel × Int
  | [] => (W, 0)
  | r :: t => if codeW W r.addr r.data = 0 then ofW (putW W r.addr r.data) t else ([], codeW W r.addr r.data)
theorem ofW_append (W W' : List Cel) (l t : List R) (h : ofW W l = (W', 0)) : ofW W (l ++ t) = ofW W' t := by
  induction l generalizing W with
  | nil => simp only [ofW, Prod.mk.injEq] at h; rw [h.1]; rfl
  | cons r l ih =>
    simp only [ofW, List.cons_append] at h ⊢
    by_cases hc : codeW W r.addr r.data = 0
    · rw [if_pos hc] at h ⊢; exact ih _ h
    · rw [if_neg hc] at h
      exact absurd (congrArg Prod.snd h) hc
theorem ofW_take (rs : List R) (k : Nat) (hk : k < rs.length) (W : List Cel) (h : ofW [] (rs.take k) = (W, 0)) (hc : codeW W rs[k].addr rs[k].data = 0) : ofW [] (rs.take (k + 1)) = (putW W rs[k].addr rs[k].data, 0) := by
  rw [List.take_succ_eq_append_getElem hk, ofW_append _ _ _ _ h]
  simp only [ofW]
  rw [if_pos hc]
theorem ofW_bad (rs : List R) (k : Nat) (hk : k < rs.length) (W : List Cel) (h : ofW [] (rs.take k) = (W, 0)) (hc : codeW W rs[k].addr rs[k].data ≠ 0) : ofW [] rs = ([], codeW W rs[k].addr rs[k].data) := by
  have e : rs = rs.take k ++ rs[k] :: rs.drop (k + 1) := by
    rw [← List.drop_eq_getElem_cons hk, List.take_append_drop]
  conv => lhs; rw [e]
  rw [ofW_append _ _ _ _ h]
  simp only [ofW]
  rw [if_neg hc]
theorem ofW_sorted (rs : List R) (W : List Cel) (h : SortedW W) : SortedW (ofW W rs).1 := by
  induction rs generalizing W with
  | nil => exact h
  | cons r t ih =>
    simp only [ofW]
    by_cases hc : codeW W r.addr r.data = 0
    · rw [if_pos hc]; exact ih _ (putW_sorted h _ _)
    · rw [if_neg hc]; exact sorted_nil

set_option maxHeartbeats 1000000 in
theorem rof_any (S P : Nat → Prop) (A : Option Addr) (cap : Nat) (rs : List R) (hl : rs.length ≤ 140737488355328) (w : World) (hW : RunsP S P w A rs) (hd : ∀ r ∈ rs, r.data.length ≤ maxLen) :
    Calls Try.prog 17 #[.slice A rs.length cap] w (RetCells (w.heap.size ≤ ·) w (ofW [] rs).1 (ofW [] rs).2) := by
  have Z := Lib.hid hW
  have HD := Lib.hid hd
  clear hW hd
  go_enter Try.func17, Try.ntmps17
  go_wp2
  go_loopw [4, 5] (fun v i wr => ∃ (k : Nat) (W : List Cel) (A : Option Addr) (cap : Nat), k ≤ rs.length ∧ i = .int .i64 k ∧ v = .slice A W.length cap ∧ W.length ≤ cap ∧ Hid (ofW [] (rs.take k) = (W, 0)) ∧ Hid (SortedW W) ∧ CellsP (w.heap.size ≤ ·) wr A W ∧ Below w.heap.size w wr) (fun _ i _ => rs.length - (intOf i).toNat)
  case atStart => exact ⟨0, [], none, 0, Nat.zero_le _, rfl, rfl, Nat.le_refl _, rfl, sorted_nil, .inl rfl, Below.refl _ _⟩
  case round =>
    obtain ⟨k, W, A2, cap2, hk, rfl, rfl, hcap2, E, HS, hC, hB⟩ := hrel
    have C2 := Lib.hid hC
    have B2 := Lib.hid hB
    clear hC hB
    by_cases hlt : k < rs.length
    · have Z2 := Lib.hid (Z.out.below B2.out)
      obtain ⟨b, off, hA, g1, g2⟩ := Z2.out.at_ hlt
      subst hA
      have hlt' : (k : Int) < (rs.length : Int) := by omega
      have X := Lib.hid (Z2.out.2 _ (List.getElem_mem hlt))
      have hdk := Lib.hid (HD.out _ (List.getElem_mem hlt))
      obtain ⟨r, hr⟩ : ∃ r, rs[k] = r := ⟨_, rfl⟩
      have T := Lib.hid (ofW_take rs k hlt W E.out)
      have F := Lib.hid (ofW_bad rs k hlt W E.out)
      rw [hr] at g1 g2 X hdk T F
      clear hr
      have b0 := B2.out.size
      have hput := rput_any (w.heap.size ≤ ·) A2 cap2 W HS.out r.addr P r.A r.cap r.data hdk.out wr.drew (fun i hi => Nat.le_trans b0 hi) hcap2 (C2.out.below (Below.refl _ _).drew) (X.out.below (Below.refl _ _).drew)
      clear b0
      have hC0 : wr.drew.cell? ⟨b, off + k * 2, none⟩ = some (.int .i64 r.addr) ∧ wr.drew.cell? ⟨b, off + k * 2 + 1, none⟩ = some (.slice r.A r.data.length r.cap) := ⟨g1, g2⟩
      have hbl := World.block_lt_of_cell? wr _ g1
      go_wp2
      refine Mixed.wp_region_mixed (fun w' => w'.cell? ⟨b, off + k * 2, none⟩ = some (.int .i64 r.addr) ∧ w'.cell? ⟨b, off + k * 2 + 1, none⟩ = some (.slice r.A r.data.length r.cap)) 16
        [(0, true), (1, true), (2, true), (3, true), (4, true), (5, true), (6, true), (7, true), (8, true), (9, true), (10, true), (11, false), (12, true), (13, true), (14, true), (15, true)] (by kernel_rfl) (by kernel_rfl) hC0 ?_
      refine Mixed.wpMix_move rfl rfl _ rfl _ rfl ?_
      refine Mixed.wpMix_move rfl rfl _ rfl _ rfl ?_
      refine Mixed.wpMix_move rfl rfl _ rfl _ rfl ?_
      refine Mixed.wpMix_pure rfl rfl _ (fun w h => by obtain ⟨q1, q2⟩ := h; go_simp; rfl) ?_
      refine Mixed.wpMix_pure rfl rfl _ (fun w h => by obtain ⟨q1, q2⟩ := h; go_simp; rfl) ?_
      refine Mixed.wpMix_pure rfl rfl _ (fun w h => by obtain ⟨q1, q2⟩ := h; go_simp; rfl) ?_
      refine Mixed.wpMix_move rfl rfl _ rfl _ rfl ?_
      refine Mixed.wpMix_move rfl rfl _ rfl _ rfl ?_
      refine Mixed.wpMix_pure rfl rfl _ (fun w h => by obtain ⟨q1, q2⟩ := h; go_simp; rfl) ?_
      refine Mixed.wpMix_pure rfl rfl _ (fun w h => by obtain ⟨q1, q2⟩ := h; go_simp; rfl) ?_
      refine Mixed.wpMix_pure rfl rfl _ (fun w h => by obtain ⟨q1, q2⟩ := h; go_simp; rfl) ?_
      refine Mixed.wpMix_loud rfl ?_
      go_wp2_with fail
      refine hput.mono ?_
      rintro e w1 ⟨A3, cap3, rfl, hc3, C3, B3⟩
      have hB3 := Lib.hid (B2.out.drew.trans (B3.mono (Nat.le_trans B2.out.size (Nat.le_refl _))))
      have hC3 := Lib.hid C3
      have hq : w1.cell? ⟨b, off + k * 2, none⟩ = some (.int .i64 r.addr) ∧ w1.cell? ⟨b, off + k * 2 + 1, none⟩ = some (.slice r.A r.data.length r.cap) :=
        ⟨(B3.cell (p := ⟨b, off + k * 2, none⟩) hbl).trans hC0.1, (B3.cell (p := ⟨b, off + k * 2 + 1, none⟩) hbl).trans hC0.2⟩
      clear B3 C3 hput
      have HQ := Lib.hid hq
      clear hq
      go_wp2
      refine ⟨HQ.out, ?_⟩
      refine Mixed.wpMix_move rfl rfl _ rfl _ rfl ?_
      refine Mixed.wpMix_pure rfl rfl _ (fun w h => by clear h; go_simp; rfl) ?_
      refine Mixed.wpMix_pure rfl rfl _ (fun w h => by clear h; go_simp; rfl) ?_
      refine Mixed.wpMix_assign rfl rfl _ rfl _ rfl ?_
      simp only [Mixed.wpMix, List.drop_succ_cons, List.drop_zero]
      clear hC0 hbl g1 g2
      by_cases hc : codeW W r.addr r.data = 0
      · have HS2 := Lib.hid (putW_sorted HS.out r.addr r.data)
        have T2 := Lib.hid (T.out hc)
        rw [hc]
        clear hc
        go_wp2
        go_roundw
        case rel => exact ⟨k + 1, _, A3, cap3, by omega, by go_num, rfl, hc3, T2, HS2, hC3.out, hB3.out⟩
        case measure => simp [intOf]; omega
      · have F2 := Lib.hid (F.out hc)
        have hne : (codeW W r.addr r.data == 0) = false := beq_eq_false_iff_ne.2 hc
        obtain ⟨c, hcc⟩ : ∃ c, codeW W r.addr r.data = c := ⟨_, rfl⟩
        rw [hcc] at hne hc F2 ⊢
        have hne2 : (c != 0) = true := by unfold bne; rw [hne]; rfl
        have N : Hid (RetCells (w.heap.size ≤ ·) w (ofW [] rs).1 (ofW [] rs).2 (.returned (.tuple #[.slice none 0 0, .int .i64 c])) w1) := by
          show RetCells _ _ _ _ _ _
          rw [F2.out]
          exact ⟨none, 0, rfl, Nat.le_refl _, .inl rfl, hB3.out⟩
        clear hcc hc
        go_wp2
        go_ret2
        exact N.out
    · have hlt' : decide ((k : Int) < (rs.length : Int)) = false := decide_eq_false (by omega)
      have N : Hid (RetCells (w.heap.size ≤ ·) w (ofW [] rs).1 (ofW [] rs).2 (.returned (.tuple #[.slice A2 W.length cap2, .int .i64 0])) wr) := by
        have h := E.out
        rw [List.take_of_length_le (by omega)] at h
        show RetCells _ _ _ _ _ _
        rw [h]
        exact ⟨A2, cap2, rfl, hcap2, C2.out, B2.out⟩
      go_wp2
      go_ret2
      exact N.out
end Go.Proofs.Ytllfebekanafhaa
