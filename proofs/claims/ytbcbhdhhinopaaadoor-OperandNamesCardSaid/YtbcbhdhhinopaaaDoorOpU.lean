/-
  The walk over operand.Names: all names in ascending order, each once.
-/
import Derived.Test.YtbcbhdhhinopaaaDoorOpL
import Derived.Test.YtbcbhdhhinopaaaDoorSrt
import Derived.Sort.OwnSorted
namespace Go.Proofs.YtbcbhdhhinopaaaDoor
open Go.RowKit Go.Shelf Go.Sort
set_option linter.unusedVariables false
attribute [local go_sem] Oper.semAt_some

/-- All names, sorted. -/
def sortL : List (List UInt8) := [[65], [65, 70], [65, 70, 39], [66], [66, 67], [67], [67], [68], [68, 69], [69], [72], [72, 76], [73], [73, 88], [73, 88, 72], [73, 88, 76], [73, 89], [73, 89, 72], [73, 89, 76], [76], [77], [78, 67], [78, 90], [80], [80, 69], [80, 79], [82], [83, 80], [90]]
/-- All names, sorted, each once. -/
def onceL : List (List UInt8) := [[65], [65, 70], [65, 70, 39], [66], [66, 67], [67], [68], [68, 69], [69], [72], [72, 76], [73], [73, 88], [73, 88, 72], [73, 88, 76], [73, 89], [73, 89, 72], [73, 89, 76], [76], [77], [78, 67], [78, 90], [80], [80, 69], [80, 79], [82], [83, 80], [90]]
def namesL : List ByteArray := onceL.map fun l => ⟨l.toArray⟩
def rawL : List (List UInt8) := nmAll.map fun x => x.1.data.toList
theorem raw_perm : rawL.Perm sortL := by decide +kernel
theorem le_tr : ∀ a b c : List UInt8, decide (a ≤ b) = true → decide (b ≤ c) = true → decide (a ≤ c) = true := fun a b c h1 h2 => by
  simp only [decide_eq_true_eq] at *
  exact List.le_trans h1 h2
theorem le_to : ∀ a b : List UInt8, (decide (a ≤ b) || decide (b ≤ a)) = true := fun a b => by
  simp only [Bool.or_eq_true, decide_eq_true_eq]
  exact List.le_total a b
theorem sort_pw : sortL.Pairwise (fun a b => decide (a ≤ b) = true) := by decide +kernel
theorem raw_sorted : (rawL.mergeSort fun x y => decide (x ≤ y)) = sortL := by
  have h1 : (rawL.mergeSort fun x y => decide (x ≤ y)).Pairwise (fun a b => decide (a ≤ b) = true) := List.pairwise_mergeSort le_tr le_to rawL
  have h2 : (rawL.mergeSort fun x y => decide (x ≤ y)).Perm sortL := (List.mergeSort_perm _ _).trans raw_perm
  exact h2.eq_of_pairwise (le := fun a b => decide (a ≤ b) = true) (fun a b _ _ h3 h4 => by
    simp only [decide_eq_true_eq] at h3 h4
    exact List.le_antisymm h3 h4) h1 sort_pw
theorem sort_once : Lib.compact sortL = onceL := by decide +kernel
theorem raw_len : rawL.length = 29 := by decide +kernel
theorem sort_len : sortL.length = 29 := by decide +kernel
theorem once_len : onceL.length = 28 := by decide +kernel
theorem nmAll_len : nmAll.length = 29 := by decide +kernel
theorem names_len : namesL.length = 28 := by unfold namesL; rw [List.length_map]; exact once_len
/-- A slice of strings that reads as L. -/
def StrsA (w : World) (A : Option Addr) (L : List ByteArray) : Prop := L = [] ∨ ∃ b off, A = some ⟨b, off, none⟩ ∧ ∀ j (h : j < L.length), w.cell? ⟨b, off + j, none⟩ = some (.string L[j])
theorem StrsA.at_ {w : World} {A : Option Addr} {L : List ByteArray} (h : StrsA w A L) {k : Nat} (hk : k < L.length) : ∃ b off, A = some ⟨b, off, none⟩ ∧ w.cell? ⟨b, off + k, none⟩ = some (.string L[k]) := by
  rcases h with rfl | ⟨b, off, rfl, hc⟩
  · simp at hk
  · exact ⟨b, off, rfl, hc k hk⟩
theorem StrsA.below {w w' : World} {A : Option Addr} {L : List ByteArray} (h : StrsA w A L) (hb : Below w.heap.size w w') : StrsA w' A L := by
  rcases h with rfl | ⟨b, off, rfl, hc⟩
  · exact .inl rfl
  · exact .inr ⟨b, off, rfl, fun j hj => (hb.cell (World.block_lt_of_cell? w _ (hc j hj))).trans (hc j hj)⟩
def RetStrs (w : World) (L : List ByteArray) (e : Ending) (w' : World) : Prop := ∃ A cap, e = .returned (.slice A L.length cap) ∧ StrsA w' A L ∧ Below w.heap.size w w'
theorem kinds_apartS : ∀ (i : Nat) cs t fr, (fun (_ : Nat) o => kindsT o) i (Obj.cells cs t fr) → t ≠ 9 ∧ t ≠ 32 := by
  rintro i cs t fr ⟨cs', fr', h⟩
  simp only [Obj.cells.injEq] at h
  rw [h.2.1]
  exact ⟨by decide, by decide⟩
theorem info_strU : (Tryd.prog.info? 9).map (fun i => (i.zero, i.size, i.bytes)) = some (some (.string ⟨#[]⟩), 1, 16) := by kernel_rfl
/-- What holds between the rounds. -/
def SN (w0 : World) (bl : Nat) (pre : List Nm) (W : World) : Prop := Col.Col 32 9 1 w0 bl w0.heap.size pre.length (pre.map fun x => Value.string x.1) W
theorem raw_enc : (nmAll.map fun x => Value.string x.1) = rawL.map encStr := by
  unfold rawL
  rw [List.map_map]
  rfl
set_option maxRecDepth 100000 in
set_option maxHeartbeats 8000000 in
theorem names_any (w : World) : Calls Tryd.prog 18 #[] w (RetStrs w namesL) := by
  refine callsIn_wide.1 (callsIn_of_wp_marks (n := 3) Tryd.func18 rfl trivial ?_ rfl)
  simp only [Tryd.ntmps18, List.size_toArray, List.length_cons, List.length_nil, Nat.reduceAdd, Nat.reduceSub, Array.replicate_succ, Array.replicate_zero, List.push_toArray, List.append_toArray, List.nil_append, List.cons_append]
  refine wpIn_wide.2 ?_
  go_wp2
  have hB0 : Below w.heap.size w (w.alloc (.cells #[.slice none 0 0] 32)) := (Below.refl _ _).alloc (Nat.le_refl _) _
  have hl0 : Boxed (w.alloc (.cells #[.slice none 0 0] 32)) w.heap.size 32 (.slice none 0 0) := Boxed.new w _ _
  obtain ⟨W0, hW0⟩ : ∃ W0, w.alloc (.cells #[.slice none 0 0] 32) = W0 := ⟨_, rfl⟩
  have hz0 : W0.heap.size = w.heap.size + 1 := by rw [← hW0]; simp
  rw [hW0] at hB0 hl0 ⊢
  obtain ⟨bl, hbl⟩ : ∃ bl, w.heap.size = bl := ⟨_, rfl⟩
  rw [hbl] at hl0 hz0 ⊢
  have I0 : SN W0 bl [] W0 := Col.Col.start _ _ _ W0 bl (by omega) hl0
  clear hW0 hl0
  refine wpIn_wide.1 (Each.wpIn_each (F := Fence.wide) (n := 3) rfl (by omega) (gf := 31) (lb := #[]) rfl trivial (enters_of Tryd.func31 (by kernel_rfl) rfl)
    (names_gives 2 W0) (fun h k => h.trans k) (fun W l o o' hl ho hc => Col.Kept.putObj W l o o' ho fun hq => kindsT_cells hc hq) (fun _ => rfl)
    (SN W0 bl) (fun pre X Y row h hg hr => h.grown (B := W0.heap.size) (Nat.le_refl _) hg hr) I0
    (fun x a' W => a' = { tmps := #[.slice none 0 0, .pointer (some ⟨bl, 0, none⟩), .string x.1, .string x.1, .agg #[.int .i64 x.2.1, .int .i64 x.2.2, .int .i64 0], undef, undef, undef, undef, undef, undef, undef, undef], defers := [] })
    (fun x a' X Y row h hg hr => h) ?assign ?body ?done)
  case assign =>
    intro l pre x W K hI hE hK
    have F := Lib.hid (hK _ _ (KeepsFrom.refl _ _) (Col.Kept.refl _ _) hI rfl)
    clear hI hE hK
    simp only [nmV]
    gi_wp2
    exact F.out
  case body =>
    rintro l pre x a' W ⟨v, a1, a2, a3⟩ rfl hlt
    have hll : pre.length ≤ 1000000000 := by omega
    obtain ⟨g, cap', w4, k1, c1, d1, KF, KQ, CC⟩ := Col.Col.step (P := Tryd.prog) (Q := fun _ o => kindsT o) Tryd.underlying32 info_strU rfl (by decide) (by decide) (Nat.le_refl _) (by omega) hll a1 a2 a3 kinds_apartS (Below.refl _ W) [.string x.1] rfl (fun u hu => by simp at hu; rcases hu with rfl; rfl) 32
    have YES : Hid (KeepsFrom W0.heap.size W (w4.setCell ⟨bl, 0, none⟩ (.slice (some ⟨g, 0, none⟩) (pre.length + 1) cap')) ∧ KK W (w4.setCell ⟨bl, 0, none⟩ (.slice (some ⟨g, 0, none⟩) (pre.length + 1) cap')) ∧ SN W0 bl (pre ++ [x]) (w4.setCell ⟨bl, 0, none⟩ (.slice (some ⟨g, 0, none⟩) (pre.length + 1) cap'))) :=
      ⟨KF _, KQ, by unfold SN; rw [List.length_append, List.map_append]; exact CC⟩
    have hv := a1.cell
    have t1 := d1.cell
    have t2 := d1.frozen
    have K1 := Lib.hid k1
    obtain ⟨m, hm⟩ : ∃ m, pre.length = m := ⟨_, rfl⟩
    rw [hm] at K1 YES
    obtain ⟨s1, k, r⟩ := x
    simp only at K1 YES ⊢
    clear a1 a2 a3 hlt hll k1 c1 d1 KF KQ CC hB0 I0 hm hbl
    gi_wp2_with (gi_at_builtin; refine wpListIn_run_append K1.out rfl _ _ rfl rfl rfl rfl ?_)
    exact YES.out
  case done =>
    rintro D ys W hD rfl ⟨v, a1, a2, a3⟩ hK
    have hbW : Below w.heap.size w W := hB0.trans ⟨a3.os, a3.tape, a3.output, a3.size, fun i hi => by
      obtain ⟨o, ho⟩ : ∃ o, W0.heap[i]? = some o := ⟨_, Array.getElem?_eq_getElem (by have := hB0.size; omega)⟩
      rw [a3.block i o ho ⟨by have := hB0.size; omega, by omega⟩, ho]⟩
    rw [nmAll_len, raw_enc] at a2
    rcases a2.2 with ⟨_, h0⟩ | ⟨g, cap, cur, rfl, hg1, hgb, hle, hcm, hcs, htk⟩
    · omega
    have hgl : g < W.heap.size := (Array.getElem?_eq_some_iff.1 hgb).1
    have hH : Holds encStr W g 0 rawL.toArray := holds_of_block hgb (by rw [raw_len]; simpa using htk)
    have SC := Tryd.slices_Sort_string g 0 cap rawL W hH hgl (by rw [raw_len]; decide)
    rw [raw_sorted, raw_len] at SC
    have hc1 := a1.cell
    have SCH := Lib.hid SC
    have hDg : D ≠ g := fun e => by subst e; rw [hK] at hgb; cases hgb
    have hgbl : g ≠ bl := by omega
    clear SC hH htk a2 a3
    go_wp2_with fail
    refine SCH.out.mono ?_
    rintro e w2 ⟨rfl, n, os, hw2⟩
    have G2 : w2.grownBy w2 none := ⟨rfl, rfl, rfl, Nat.le_refl _, fun _ _ _ => rfl⟩
    have hgr : W.grownBy w2 (some g) := by rw [hw2]; exact grownBy_sorted _
    have hg2 : w2.heap[g]? = some (.cells (putCells encStr 0 sortL.toArray cur) 9 (0, 0)) := by rw [hw2]; exact heap_sorted _ hgb
    have b2 : Boxed w2 bl 32 (.slice (some ⟨g, 0, none⟩) 29 cap) := a1.kept hgr fun e => hgbl (Option.some.inj e).symm
    have hK2 : w2.heap[D]? = some (.deferred (some [])) := (hgr.block D (Array.getElem?_eq_some_iff.1 hK).1 fun e => hDg (Option.some.inj e)).trans hK
    have hB2 : Below w.heap.size w w2 := hbW.grown hgr hbW.size fun k e => by cases e; have := hB0.size; omega
    have hcur : (putCells encStr 0 sortL.toArray cur).size = cap * 1 := by simp [putCells, hcs]
    have htk2 : (putCells encStr 0 sortL.toArray cur).toList.take sortL.length = sortL.map encStr := take_putCells cur sortL (by rw [sort_len]; omega)
    have hH2 : Holds encStr w2 g 0 sortL.toArray := holds_of_block hg2 htk2
    have CC := Tryd.slices_Compact_string g 0 cap sortL w2 hH2 (by rw [sort_len]; decide) (by rw [sort_len]; exact hle)
    rw [sort_once, sort_len, once_len] at CC
    have CCH := Lib.hid CC
    have hc2 := b2.cell
    clear SCH hc1 a1 hgb hgl hcs hw2 G2 hgr hbW hK htk2 hH2 CC b2 hB0 I0
    go_wp2_with fail
    refine CCH.out.mono ?_
    rintro e w3 ⟨rfl, q, hw3⟩
    have hw3' : w3 = grow (putRow encStr (Sort.ahead w2 q) g 0 (onceL ++ List.replicate (29 - 28) []).toArray) #[] := by rw [hw3]; simp
    have hgr3 : w2.grownBy w3 (some g) := by rw [hw3']; exact grownBy_sorted _
    have hg3 : w3.heap[g]? = some (.cells (putCells encStr 0 (onceL ++ List.replicate (29 - 28) []).toArray (putCells encStr 0 sortL.toArray cur)) 9 (0, 0)) := by rw [hw3']; exact heap_sorted _ hg2
    have hK3 : w3.heap[D]? = some (.deferred (some [])) := (hgr3.block D (Array.getElem?_eq_some_iff.1 hK2).1 fun e => hDg (Option.some.inj e)).trans hK2
    have hB3 : Below w.heap.size w w3 := hB2.grown hgr3 hB2.size fun k e => by cases e; omega
    have F : Hid (RetStrs w namesL (.returned (.slice (some ⟨g, 0, none⟩) 28 cap)) (w3.putObj D (.deferred none))) := by
      refine ⟨_, cap, by rw [names_len], .inr ⟨g, 0, rfl, fun j hj => ?_⟩, ?_⟩
      · have hj' : j < onceL.length := by rw [names_len] at hj; rw [once_len]; exact hj
        have hj2 : j < (onceL ++ List.replicate (29 - 28) ([] : List UInt8)).length := by rw [List.length_append]; omega
        have htk3 := take_putCells (putCells encStr 0 sortL.toArray cur) (onceL ++ List.replicate (29 - 28) []) (by rw [hcur, List.length_append, once_len]; simp; omega)
        rw [Lib.cell_of_heap ((World.putObj_heap_other hDg.symm).trans hg3) (0 + j), Nat.zero_add, ← Array.getElem?_toList]
        have h1 : ((putCells encStr 0 (onceL ++ List.replicate (29 - 28) []).toArray (putCells encStr 0 sortL.toArray cur)).toList.take (onceL ++ List.replicate (29 - 28) ([] : List UInt8)).length)[j]? = ((onceL ++ List.replicate (29 - 28) []).map encStr)[j]? := by rw [htk3]
        rw [List.getElem?_take_of_lt hj2] at h1
        rw [h1, List.getElem?_map, List.getElem?_append_left hj', List.getElem?_eq_getElem hj']
        have e : namesL[j] = ⟨onceL[j].toArray⟩ := by simp only [namesL, List.getElem_map]
        exact congrArg (fun z => some (Value.string z)) e.symm
      · exact hB3.grown (grownBy_putObj' w3 D _) hB3.size fun k e => by cases e; omega
    clear CCH hc2 hw3 hw3' hgr3 hg3 hB2 hB3 hK2 hg2 hcur
    go_wp2
    refine ⟨by simp, .inl ⟨_, _, rfl, run_takeDeferred hK3, ?_⟩⟩
    refine ⟨_, results_tmp rfl _ _ _, ?_⟩
    exact F.out
end Go.Proofs.YtbcbhdhhinopaaaDoor
