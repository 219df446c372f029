/-
  strings.Split at a line feed, with the row that it makes; the walk over slices.Reverse at the beginning of such a row.
-/
import Derived.Test.YtmeegpdjhcilkaaGreatDoorRdLo
namespace Go.Proofs.YtmeegpdjhcilkaaGreatDoor
open Go.RowKit
set_option linter.unusedVariables false

/-- Block b is a row of strings that may be stored to, and begins with these. -/
def RowS (b : Nat) (ss : List ByteArray) (wr : World) : Prop :=
  ∃ cs, wr.heap[b]? = some (.cells cs 9 (0, 0)) ∧ ∀ j (h : j < ss.length), cs[j]? = some (.string ss[j])
theorem RowS.lt {b : Nat} {ss : List ByteArray} {wr : World} (h : RowS b ss wr) : b < wr.heap.size := by
  obtain ⟨cs, h1, _⟩ := h
  exact (Array.getElem?_eq_some_iff.1 h1).1
theorem RowS.at_ {b : Nat} {ss : List ByteArray} {wr : World} (h : RowS b ss wr) (j : Nat) (hj : j < ss.length) : wr.cell? ⟨b, j, none⟩ = some (.string ss[j]) ∧ wr.frozen? ⟨b, j, none⟩ = false := by
  obtain ⟨cs, h1, h3⟩ := h
  exact ⟨(Lib.cell_of_heap h1 j).trans (h3 j hj), Lib.frozen_of_heap h1 j⟩
theorem RowS.set {b : Nat} {ss : List ByteArray} {wr : World} (h : RowS b ss wr) (k : Nat) (s : ByteArray) : RowS b (ss.set k s) (wr.setCell ⟨b, k, none⟩ (.string s)) := by
  obtain ⟨cs, h1, h3⟩ := h
  refine ⟨_, heap_setCell_same wr b k cs _ _ h1, fun j hj => ?_⟩
  have hj' : j < ss.length := by rwa [List.length_set] at hj
  have hc : j < cs.size := (Array.getElem?_eq_some_iff.1 (h3 j hj')).1
  rw [Array.getElem?_setIfInBounds, List.getElem_set]
  by_cases e : k = j
  · subst e
    rw [if_pos rfl, if_pos hc, if_pos rfl]
  · rw [if_neg e, if_neg e]
    exact h3 j hj'
theorem RowS.keptP {P : Nat → Prop} {b : Nat} {ss : List ByteArray} {w w' : World} (h : RowS b ss w) (k : KeptP P w w') (hP : P b) : RowS b ss w' := by
  have hl := h.lt
  obtain ⟨cs, h1, h3⟩ := h
  exact ⟨cs, (k.block b hl hP).trans h1, h3⟩
theorem RowS.below {b : Nat} {ss : List ByteArray} {w w' : World} (h : RowS b ss w) (k : Below w.heap.size w w') : RowS b ss w' := by
  have hl := h.lt
  obtain ⟨cs, h1, h3⟩ := h
  exact ⟨cs, (k.block b hl).trans h1, h3⟩
theorem RowS.drew {b : Nat} {ss : List ByteArray} {w : World} (h : RowS b ss w) : RowS b ss w.drew := h
theorem RowS.strs {b : Nat} {ss : List ByteArray} {w : World} (h : RowS b ss w) : StrsP (fun _ => True) w (some ⟨b, 0, none⟩) ss :=
  .inr ⟨b, 0, rfl, trivial, fun j hj => by rw [Nat.zero_add]; exact (h.at_ j hj).1⟩
theorem SpR.doneR {n L : Nat} {lines : List (List UInt8)} {wr : World} (h : SpR n L L lines wr) (hL : lines.length = L) (u : ByteArray) : RowS n (lines.map strOf ++ [u]) (wr.setCell ⟨n, L, none⟩ (.string u)) := by
  obtain ⟨cs, h1, h2, h3⟩ := h
  refine ⟨_, heap_setCell_same wr n L cs _ _ h1, fun j hj => ?_⟩
  have hj' : j < L + 1 := by simpa [hL] using hj
  rw [Array.getElem?_setIfInBounds]
  by_cases e : L = j
  · subst e
    obtain ⟨v, hv⟩ := h3 L (Nat.le_refl _)
    have : L < cs.size := (Array.getElem?_eq_some_iff.1 hv).1
    rw [if_pos rfl, if_pos this, List.getElem_append_right (by simp [hL])]
    simp [hL]
  · rw [if_neg e, h2 j (by omega) (by omega), List.getElem_append_left (by simp [hL]; omega), List.getElem_map]
def RetSpR (w : World) (ss : List ByteArray) (e : Ending) (w' : World) : Prop :=
  ∃ b cap, e = .returned (.slice (some ⟨b, 0, none⟩) ss.length cap) ∧ ss.length ≤ cap ∧ w.heap.size ≤ b ∧ RowS b ss w' ∧ Below w.heap.size w w'
set_option maxRecDepth 100000 in
set_option maxHeartbeats 4000000 in
theorem genSplitR_any (lines : List (List UInt8)) (u : List UInt8) (hn : ∀ x ∈ lines, NoLf x) (hu : NoLf u) (hb : (joinL lines ++ u).length ≤ 40000000) (w : World) :
    Calls Tryz.prog 37 #[.string (strOf (joinL lines ++ u)), .string ⟨#[10]⟩, .int .i64 0, .int .i64 (-1)] w (RetSpR w (lines.map strOf ++ [strOf u])) := by
  obtain ⟨s, hs⟩ : ∃ s, strOf (joinL lines ++ u) = s := ⟨_, rfl⟩
  obtain ⟨L, hL⟩ : ∃ L, lines.length = L := ⟨_, rfl⟩
  have hcn := fun w => count_any s w
  have hc : s.data.toList.count 10 = L := by rw [← hs, strOf_list, List.count_append, count_join hn, count_noLf hu, hL]; rfl
  rw [hc] at hcn
  have hsz : s.size = (joinL lines ++ u).length := by rw [← hs, strOf_size]
  have hjc := joinL_count lines
  have hsb : s.size ≤ 40000000 := by omega
  have hjl : (joinL lines).length ≤ s.size := by rw [hsz, List.length_append]; omega
  have hmin : min ((L : Int) + 1) ((s.size : Int) + 1) = (L : Int) + 1 := by omega
  have hLb : L ≤ 40000000 := by omega
  have hmk : ∀ w, (Instr.makeSlice 42 (.int .i64 ((L : Int) + 1)) (.int .i64 ((L : Int) + 1))).run Tryz.prog w = .ok (.slice (some ⟨w.heap.size, 0, none⟩) (L + 1) (L + 1)) (w.alloc (.cells (madeCells #[.string ⟨#[]⟩] (L + 1)) 9)) := fun w => by
    have h := run_make_row' (P := Tryz.prog) 42 9 (.string ⟨#[]⟩) 16 Tryz.underlying42 info_str rfl .i64 .i64 (L + 1) (by omega) (by omega) w
    rw [show ((L + 1 : Nat) : Int) = (L : Int) + 1 by omega] at h
    exact h
  have h10 : (⟨#[10]⟩ : ByteArray).size = 1 := rfl
  have hne : (⟨#[10]⟩ : ByteArray).toList.isEmpty = false := by rw [ByteArray.toList_eq]; rfl
  have HS := Lib.hid hs
  have HL := Lib.hid hL
  have HN := Lib.hid hn
  have SS := fun w => Lib.hid (SpR.start w _ rfl L lines)
  rw [hs]
  clear hs hc hsz hjc hjl hL hn hu hb
  go_enter Tryz.func37, Tryz.ntmps37
  go_wp2_with fail
  refine (hcn _).mono ?_
  rintro e w' ⟨rfl, rfl⟩
  go_wp2
  have S0 := SS w
  have B0 : Hid (Below w.heap.size w (w.alloc (.cells (madeCells #[.string ⟨#[]⟩] (L + 1)) 9))) := (Below.refl _ _).alloc (Nat.le_refl _) _
  obtain ⟨w0, hw0⟩ : ∃ w0, w.alloc (.cells (madeCells #[.string ⟨#[]⟩] (L + 1)) 9) = w0 := ⟨_, rfl⟩
  rw [hw0] at S0 B0 ⊢
  clear hw0 SS hcn hmk hmin
  go_loopw [0, 10] (fun sv iv wr => ∃ (i : Nat) (S : ByteArray), i ≤ L ∧ iv = .int .i64 i ∧ sv = .string S ∧ S.size ≤ 40000000 ∧ Hid (S = strOf (joinL (lines.drop i) ++ u)) ∧ Hid (Below w.heap.size w wr) ∧ Hid (SpR w.heap.size i L lines wr)) (fun _ iv _ => L - (intOf iv).toNat)
  case atStart => exact ⟨0, s, Nat.zero_le _, rfl, rfl, hsb, HS.out.symm, B0.out, S0.out⟩
  case round =>
    clear S0 B0
    obtain ⟨i, S, hi, rfl, rfl, hSb, E, B, R⟩ := hrel
    by_cases hlt : i < L
    · have hlt' : (i : Int) < (L : Int) := by omega
      have hil : i < lines.length := by rw [HL.out]; exact hlt
      obtain ⟨e1, e2, e3, e4⟩ := cut_line lines u i hil S E.out
      have hix := index_any S wr
      rw [e4 (HN.out _ (List.getElem_mem hil))] at hix
      obtain ⟨⟨v, c0⟩, f0⟩ := R.out.at_ i (by omega)
      have R2 := Lib.hid (R.out.set hil (by omega))
      have B2 : Hid (Below w.heap.size w (wr.setCell ⟨w.heap.size, i, none⟩ (.string (strOf lines[i])))) := B.out.setCell (p := ⟨w.heap.size, i, none⟩) (Nat.le_refl _) _
      rw [← e1] at R2 B2
      obtain ⟨m, hm⟩ : ∃ m, lines[i].length = m := ⟨_, rfl⟩
      rw [hm] at e2 e3 hix R2 B2
      have E2 := Lib.hid e2
      have hsz2 : (S.extract (m + 1) S.size).size ≤ 40000000 := by
        have := extract_le S (m + 1) S.size
        omega
      have SZ2 := Lib.hid hsz2
      clear e1 e2 e4 hil hm hsz2
      go_wp2_with fail
      refine hix.mono ?_
      rintro e w' ⟨rfl, rfl⟩
      clear hix
      go_wp2
      go_roundw
      case rel => exact ⟨i + 1, _, by omega, by go_num, rfl, SZ2.out, E2.out, B2.out, R2.out⟩
      case measure => simp [intOf]; omega
    · have hlt' : decide ((i : Int) < (L : Int)) = false := decide_eq_false (by omega)
      have hiL : i = L := by omega
      have R1 := R.out
      rw [hiL] at R1
      have hS : S = strOf u := by
        have h := E.out
        rw [hiL, List.drop_of_length_le (by rw [HL.out]; exact Nat.le_refl _)] at h
        exact h
      obtain ⟨⟨v, c0⟩, f0⟩ := R.out.at_ i hi
      have hsl : ∀ w', (Instr.slice 42 (.slice (some ⟨w.heap.size, 0, none⟩) (L + 1) (L + 1)) none (some (.int .i64 ((i : Int) + 1))) none).run Tryz.prog w' = .ok (.slice (some ⟨w.heap.size, 0, none⟩) (L + 1) (L + 1)) w' := fun w' => by
        have h := slS_h (some ⟨w.heap.size, 0, none⟩) (L + 1) (L + 1) (L + 1) (Nat.le_refl _) w'
        rw [show ((L + 1 : Nat) : Int) = (i : Int) + 1 by omega] at h
        exact h
      have F : Hid (RetSpR w (lines.map strOf ++ [strOf u]) (.returned (.slice (some ⟨w.heap.size, 0, none⟩) (L + 1) (L + 1))) (wr.setCell ⟨w.heap.size, i, none⟩ (.string S))) := by
        have hlen : (lines.map strOf ++ [strOf u]).length = L + 1 := by simp [HL.out]
        rw [hiL, hS]
        exact ⟨_, L + 1, by rw [hlen], by rw [hlen]; exact Nat.le_refl _, Nat.le_refl _, R1.doneR HL.out (strOf u), B.out.setCell (p := ⟨w.heap.size, L, none⟩) (Nat.le_refl _) _⟩
      have hiB : (i : Int) ≤ 40000000 := by omega
      clear hiL R1 hS E
      go_wp2
      go_ret
      exact F.out
theorem split_linesR (lines : List (List UInt8)) (u : List UInt8) (hn : ∀ x ∈ lines, NoLf x) (hu : NoLf u) (hb : (joinL lines ++ u).length ≤ 40000000) (w : World) :
    Calls Tryz.prog 15 #[.string (strOf (joinL lines ++ u)), .string ⟨#[10]⟩] w (RetSpR w (lines.map strOf ++ [strOf u])) := by
  have hg := genSplitR_any lines u hn hu hb w
  go_enter Tryz.func15, Tryz.ntmps15
  go_wp2_with fail
  refine hg.mono ?_
  rintro e w' ⟨b, cap, rfl, h1, h0, h2, h3⟩
  have hlen : (lines.map strOf ++ [strOf u]).length = lines.length + 1 := by simp
  have F : Hid (RetSpR w (lines.map strOf ++ [strOf u]) (.returned (.slice (some ⟨b, 0, none⟩) (lines.length + 1) cap)) w') := ⟨b, cap, by rw [hlen], h1, h0, h2, h3⟩
  rw [hlen]
  clear h0 h1 h2 h3 hg hlen
  go_wp2
  go_ret
  exact F.out
end Go.Proofs.YtmeegpdjhcilkaaGreatDoor
