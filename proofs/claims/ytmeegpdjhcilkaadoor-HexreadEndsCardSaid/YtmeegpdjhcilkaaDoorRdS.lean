/-
  The walks over strings.Index and strings.Split at a line feed: the lines of any text.
-/
import Derived.Test.YtmeegpdjhcilkaaDoorRdL
import Derived.Test.YtmeegpdjhcilkaaDoorNumAll
import Derived.Deep.OwnRows
namespace Go.Proofs.YtmeegpdjhcilkaaDoor
open Go.RowKit
set_option linter.unusedVariables false

theorem index_line (x t : List UInt8) (h : NoLf x) : Lib.indexByte (x ++ 10 :: t) 10 = (x.length : Int) := by
  induction x with
  | nil => rfl
  | cons a x ih =>
    have ha : (a == 10) = false := by simpa using h a (by simp)
    have hx := ih fun c hc => h c (by simp [hc])
    show (if a == 10 then (0 : Int) else if Lib.indexByte (x ++ 10 :: t) 10 == -1 then -1 else Lib.indexByte (x ++ 10 :: t) 10 + 1) = _
    rw [ha, hx]
    have h1 : ((x.length : Int) == -1) = false := beq_eq_false_iff_ne.2 (by omega)
    rw [h1]
    simp
set_option maxRecDepth 100000 in
set_option maxHeartbeats 2000000 in
theorem slIndex_any (s : ByteArray) (w : World) :
    Calls Tryd.prog 81 #[.string s, .string ⟨#[10]⟩] w fun e w' => e = .returned (.int .i64 (Lib.indexByte s.data.toList 10)) ∧ w = w' := by
  have hsz : (⟨#[10]⟩ : ByteArray).size = 1 := rfl
  obtain ⟨q, hq⟩ : ∃ q, (([10] : List UInt8) == s.toList) = q := ⟨_, rfl⟩
  cases q
  · go_enter Tryd.func81, Tryd.ntmps81
    go_wp2_with fail
    refine (slIndexByte_any s 10 _).mono ?_
    rintro e w' ⟨rfl, rfl⟩
    go_wp2
    go_ret
    exact ⟨rfl, rfl⟩
  · have E : Hid (Lib.indexByte s.data.toList 10 = 0) := by
      show _ = _
      have h := eq_of_beq hq
      rw [ByteArray.toList_eq] at h
      rw [← h]
      rfl
    go_enter Tryd.func81, Tryd.ntmps81
    go_wp2
    go_ret
    rw [E.out]
    exact ⟨rfl, rfl⟩
theorem index_any (s : ByteArray) (w : World) :
    Calls Tryd.prog 45 #[.string s, .string ⟨#[10]⟩] w fun e w' => e = .returned (.int .i64 (Lib.indexByte s.data.toList 10)) ∧ w = w' := by
  go_enter Tryd.func45, Tryd.ntmps45
  go_wp2_with fail
  refine (slIndex_any s _).mono ?_
  rintro e w' ⟨rfl, rfl⟩
  go_wp2
  go_ret
  exact ⟨rfl, rfl⟩
theorem elem_S : Tryd.prog.elem 43 = 9 := by unfold Program.elem; rw [Tryd.underlying43]
theorem und_S : Tryd.prog.underlying 43 = some (.slice (Tryd.prog.elem 43)) := by rw [elem_S]; exact Tryd.underlying43
theorem slS_h (A : Option Addr) (len cap n : Nat) (hn : n ≤ cap) (w : World) :
    (Instr.slice 43 (.slice A len cap) none (some (.int .i64 (n : Int))) none).run Tryd.prog w = .ok (.slice A n cap) w := by
  rw [run_slice_h w 43 A len cap und_S .i64 (n : Int) (by omega) (by omega), elem_S, Tryd.sizeOf9]
  simp only [Result.andThen_ok, sliced]
  have e := subA_zero A cap
  unfold subA at e
  rw [e, show ((n : Int)).toNat - 0 = n by omega, Nat.sub_zero]
/-- The first k lines have been stored in block n; it has a place for one more than all. -/
def SpR (n k L : Nat) (lines : List (List UInt8)) (wr : World) : Prop :=
  ∃ cs, wr.heap[n]? = some (.cells cs 9 (0, 0)) ∧ (∀ j (h : j < lines.length), j < k → cs[j]? = some (.string (strOf lines[j]))) ∧ ∀ j, j ≤ L → ∃ v, cs[j]? = some (.string v)
theorem SpR.start (w : World) (n : Nat) (hn : w.heap.size = n) (L : Nat) (lines : List (List UInt8)) : SpR n 0 L lines (w.alloc (.cells (madeCells #[.string ⟨#[]⟩] (L + 1)) 9)) := by
  subst hn
  refine ⟨_, heap_alloc_new w _, fun j _ h => absurd h (Nat.not_lt_zero _), fun j hj => ⟨⟨#[]⟩, ?_⟩⟩
  unfold madeCells
  rw [Array.getElem?_map, Array.getElem?_range, if_pos (by omega)]
  simp [Nat.mod_one]
theorem SpR.at_ {n k L : Nat} {lines : List (List UInt8)} {wr : World} (h : SpR n k L lines wr) (j : Nat) (hj : j ≤ L) : (∃ v, wr.cell? ⟨n, j, none⟩ = some (.string v)) ∧ wr.frozen? ⟨n, j, none⟩ = false := by
  obtain ⟨cs, h1, _, h3⟩ := h
  obtain ⟨v, hv⟩ := h3 j hj
  exact ⟨⟨v, (Lib.cell_of_heap h1 j).trans hv⟩, Lib.frozen_of_heap h1 j⟩
theorem SpR.set {n k L : Nat} {lines : List (List UInt8)} {wr : World} (h : SpR n k L lines wr) (hk : k < lines.length) (hkL : k ≤ L) : SpR n (k + 1) L lines (wr.setCell ⟨n, k, none⟩ (.string (strOf lines[k]))) := by
  obtain ⟨cs, h1, h2, h3⟩ := h
  refine ⟨_, heap_setCell_same wr n k cs _ _ h1, fun j hj hjk => ?_, fun j hj => ?_⟩
  · rw [Array.getElem?_setIfInBounds]
    by_cases e : k = j
    · subst e
      obtain ⟨v, hv⟩ := h3 k hkL
      have : k < cs.size := (Array.getElem?_eq_some_iff.1 hv).1
      rw [if_pos rfl, if_pos this]
    · rw [if_neg e]
      exact h2 j hj (by omega)
  · rw [Array.getElem?_setIfInBounds]
    obtain ⟨v, hv⟩ := h3 j hj
    by_cases e : k = j
    · subst e
      have : k < cs.size := (Array.getElem?_eq_some_iff.1 hv).1
      rw [if_pos rfl, if_pos this]
      exact ⟨_, rfl⟩
    · rw [if_neg e]
      exact ⟨v, hv⟩
theorem SpR.done {n L n0 : Nat} {lines : List (List UInt8)} {wr : World} (h : SpR n L L lines wr) (hL : lines.length = L) (hn : n0 ≤ n) (u : ByteArray) : StrsP (n0 ≤ ·) (wr.setCell ⟨n, L, none⟩ (.string u)) (some ⟨n, 0, none⟩) (lines.map strOf ++ [u]) := by
  obtain ⟨cs, h1, h2, h3⟩ := h
  refine .inr ⟨n, 0, rfl, hn, fun j hj => ?_⟩
  have hj' : j < L + 1 := by simpa [hL] using hj
  rw [Nat.zero_add, Lib.cell_of_heap (heap_setCell_same wr n L cs _ _ h1), Array.getElem?_setIfInBounds]
  by_cases e : L = j
  · subst e
    obtain ⟨v, hv⟩ := h3 L (Nat.le_refl _)
    have : L < cs.size := (Array.getElem?_eq_some_iff.1 hv).1
    rw [if_pos rfl, if_pos this, List.getElem_append_right (by simp [hL])]
    simp [hL]
  · rw [if_neg e, h2 j (by omega) (by omega), List.getElem_append_left (by simp [hL]; omega), List.getElem_map]
/-- What Split returns. -/
def RetSpS (w : World) (ss : List ByteArray) (e : Ending) (w' : World) : Prop :=
  ∃ b cap, e = .returned (.slice (some ⟨b, 0, none⟩) ss.length cap) ∧ ss.length ≤ cap ∧ StrsP (w.heap.size ≤ ·) w' (some ⟨b, 0, none⟩) ss ∧ Below w.heap.size w w'
theorem joinL_count (l : List (List UInt8)) : l.length ≤ (joinL l).length := by
  induction l with
  | nil => simp
  | cons x t ih => rw [joinL_cons, List.length_append, List.length_cons, List.length_cons]; omega
theorem index_none (x : List UInt8) (h : NoLf x) : Lib.indexByte x 10 = -1 := by
  induction x with
  | nil => rfl
  | cons a x ih =>
    have ha : (a == 10) = false := by simpa using h a (by simp)
    have hx := ih fun c hc => h c (by simp [hc])
    show (if a == 10 then (0 : Int) else if Lib.indexByte x 10 == -1 then -1 else Lib.indexByte x 10 + 1) = _
    rw [ha, hx]
    rfl
theorem cut_line (lines : List (List UInt8)) (u : List UInt8) (i : Nat) (h : i < lines.length) (S : ByteArray) (hS : S = strOf (joinL (lines.drop i) ++ u)) :
    S.extract 0 lines[i].length = strOf lines[i] ∧ S.extract (lines[i].length + 1) S.size = strOf (joinL (lines.drop (i + 1)) ++ u) ∧ lines[i].length + 1 ≤ S.size ∧ (NoLf lines[i] → Lib.indexByte S.data.toList 10 = (lines[i].length : Int)) := by
  have e : S.data.toList = lines[i] ++ 10 :: (joinL (lines.drop (i + 1)) ++ u) := by
    rw [hS, strOf_list, List.drop_eq_getElem_cons h, joinL_cons, List.append_assoc, List.cons_append]
  have hs : S.size = lines[i].length + 1 + (joinL (lines.drop (i + 1)) ++ u).length := by
    have := congrArg List.length e
    rw [List.length_append, List.length_cons] at this
    have h2 : S.data.toList.length = S.size := by simp
    omega
  refine ⟨?_, ?_, by omega, fun hn => by rw [e, index_line _ _ hn]⟩
  · apply bytes_ext
    rw [Lib.extract_data, e, strOf_list]
    simp
  · apply bytes_ext
    rw [Lib.extract_data, e, strOf_list, hs]
    obtain ⟨y, hy⟩ : ∃ y, joinL (lines.drop (i + 1)) ++ u = y := ⟨_, rfl⟩
    rw [hy]
    have e2 : lines[i] ++ 10 :: y = (lines[i] ++ [10]) ++ y := by simp
    have hd : (lines[i] ++ [10]).drop (lines[i].length + 1) = [] := List.drop_of_length_le (by simp)
    rw [e2, List.drop_append_of_le_length (by simp), hd, List.nil_append]
    exact List.take_of_length_le (by omega)
set_option maxRecDepth 100000 in
set_option maxHeartbeats 4000000 in
theorem genSplit_any (lines : List (List UInt8)) (u : List UInt8) (hn : ∀ x ∈ lines, NoLf x) (hu : NoLf u) (hb : (joinL lines ++ u).length ≤ 40000000) (w : World) :
    Calls Tryd.prog 51 #[.string (strOf (joinL lines ++ u)), .string ⟨#[10]⟩, .int .i64 0, .int .i64 (-1)] w (RetSpS w (lines.map strOf ++ [strOf u])) := by
  obtain ⟨s, hs⟩ : ∃ s, strOf (joinL lines ++ u) = s := ⟨_, rfl⟩
  obtain ⟨L, hL⟩ : ∃ L, lines.length = L := ⟨_, rfl⟩
  have hcn := fun w => count_any s w
  have hc : s.data.toList.count 10 = L := by rw [← hs, strOf_list, List.count_append, count_join hn, count_noLf hu, hL]; rfl
  rw [hc] at hcn
  have hsz : s.size = (joinL lines ++ u).length := by rw [← hs, strOf_size]
  have hjc := joinL_count lines
  have hsb : s.size ≤ 40000000 := by omega
  have hjl : (joinL lines).length ≤ s.size := by rw [hsz, List.length_append]; omega
  have hmin : min ((L : Int) + 1) ((s.size : Int) + 1) = (L : Int) + 1 := by omega
  have hLb : L ≤ 40000000 := by omega
  have hmk : ∀ w, (Instr.makeSlice 43 (.int .i64 ((L : Int) + 1)) (.int .i64 ((L : Int) + 1))).run Tryd.prog w = .ok (.slice (some ⟨w.heap.size, 0, none⟩) (L + 1) (L + 1)) (w.alloc (.cells (madeCells #[.string ⟨#[]⟩] (L + 1)) 9)) := fun w => by
    have h := run_make_row' (P := Tryd.prog) 43 9 (.string ⟨#[]⟩) 16 Tryd.underlying43 info_str rfl .i64 .i64 (L + 1) (by omega) (by omega) w
    rw [show ((L + 1 : Nat) : Int) = (L : Int) + 1 by omega] at h
    exact h
  have h10 : (⟨#[10]⟩ : ByteArray).size = 1 := rfl
  have hne : (⟨#[10]⟩ : ByteArray).toList.isEmpty = false := by rw [ByteArray.toList_eq]; rfl
  have HS := Lib.hid hs
  have HL := Lib.hid hL
  have HN := Lib.hid hn
  have SS := fun w => Lib.hid (SpR.start w _ rfl L lines)
  rw [hs]
  clear hs hc hsz hjc hjl hL hn hu hb
  go_enter Tryd.func51, Tryd.ntmps51
  go_wp2_with fail
  refine (hcn _).mono ?_
  rintro e w' ⟨rfl, rfl⟩
  go_wp2
  have S0 := SS w
  have B0 : Hid (Below w.heap.size w (w.alloc (.cells (madeCells #[.string ⟨#[]⟩] (L + 1)) 9))) := (Below.refl _ _).alloc (Nat.le_refl _) _
  obtain ⟨w0, hw0⟩ : ∃ w0, w.alloc (.cells (madeCells #[.string ⟨#[]⟩] (L + 1)) 9) = w0 := ⟨_, rfl⟩
  rw [hw0] at S0 B0 ⊢
  clear hw0 SS hcn hmk hmin
  go_loopw [0, 10] (fun sv iv wr => ∃ (i : Nat) (S : ByteArray), i ≤ L ∧ iv = .int .i64 i ∧ sv = .string S ∧ S.size ≤ 40000000 ∧ Hid (S = strOf (joinL (lines.drop i) ++ u)) ∧ Hid (Below w.heap.size w wr) ∧ Hid (SpR w.heap.size i L lines wr)) (fun _ iv _ => L - (intOf iv).toNat)
  case atStart => exact ⟨0, s, Nat.zero_le _, rfl, rfl, hsb, HS.out.symm, B0.out, S0.out⟩
  case round =>
    clear S0 B0
    obtain ⟨i, S, hi, rfl, rfl, hSb, E, B, R⟩ := hrel
    by_cases hlt : i < L
    · have hlt' : (i : Int) < (L : Int) := by omega
      have hil : i < lines.length := by rw [HL.out]; exact hlt
      obtain ⟨e1, e2, e3, e4⟩ := cut_line lines u i hil S E.out
      have hix := index_any S wr
      rw [e4 (HN.out _ (List.getElem_mem hil))] at hix
      obtain ⟨⟨v, c0⟩, f0⟩ := R.out.at_ i (by omega)
      have R2 := Lib.hid (R.out.set hil (by omega))
      have B2 : Hid (Below w.heap.size w (wr.setCell ⟨w.heap.size, i, none⟩ (.string (strOf lines[i])))) := B.out.setCell (p := ⟨w.heap.size, i, none⟩) (Nat.le_refl _) _
      rw [← e1] at R2 B2
      obtain ⟨m, hm⟩ : ∃ m, lines[i].length = m := ⟨_, rfl⟩
      rw [hm] at e2 e3 hix R2 B2
      have E2 := Lib.hid e2
      have hsz2 : (S.extract (m + 1) S.size).size ≤ 40000000 := by
        have := extract_le S (m + 1) S.size
        omega
      have SZ2 := Lib.hid hsz2
      clear e1 e2 e4 hil hm hsz2
      go_wp2_with fail
      refine hix.mono ?_
      rintro e w' ⟨rfl, rfl⟩
      clear hix
      go_wp2
      go_roundw
      case rel => exact ⟨i + 1, _, by omega, by go_num, rfl, SZ2.out, E2.out, B2.out, R2.out⟩
      case measure => simp [intOf]; omega
    · have hlt' : decide ((i : Int) < (L : Int)) = false := decide_eq_false (by omega)
      have hiL : i = L := by omega
      have R1 := R.out
      rw [hiL] at R1
      have hS : S = strOf u := by
        have h := E.out
        rw [hiL, List.drop_of_length_le (by rw [HL.out]; exact Nat.le_refl _)] at h
        exact h
      obtain ⟨⟨v, c0⟩, f0⟩ := R.out.at_ i hi
      have hsl : ∀ w', (Instr.slice 43 (.slice (some ⟨w.heap.size, 0, none⟩) (L + 1) (L + 1)) none (some (.int .i64 ((i : Int) + 1))) none).run Tryd.prog w' = .ok (.slice (some ⟨w.heap.size, 0, none⟩) (L + 1) (L + 1)) w' := fun w' => by
        have h := slS_h (some ⟨w.heap.size, 0, none⟩) (L + 1) (L + 1) (L + 1) (Nat.le_refl _) w'
        rw [show ((L + 1 : Nat) : Int) = (i : Int) + 1 by omega] at h
        exact h
      have F : Hid (RetSpS w (lines.map strOf ++ [strOf u]) (.returned (.slice (some ⟨w.heap.size, 0, none⟩) (L + 1) (L + 1))) (wr.setCell ⟨w.heap.size, i, none⟩ (.string S))) := by
        have hlen : (lines.map strOf ++ [strOf u]).length = L + 1 := by simp [HL.out]
        rw [hiL, hS]
        exact ⟨_, L + 1, by rw [hlen], by rw [hlen]; exact Nat.le_refl _, R1.done HL.out (Nat.le_refl _) (strOf u), B.out.setCell (p := ⟨w.heap.size, L, none⟩) (Nat.le_refl _) _⟩
      have hiB : (i : Int) ≤ 40000000 := by omega
      clear hiL R1 hS E
      go_wp2
      go_ret
      exact F.out
theorem split_lines (lines : List (List UInt8)) (u : List UInt8) (hn : ∀ x ∈ lines, NoLf x) (hu : NoLf u) (hb : (joinL lines ++ u).length ≤ 40000000) (w : World) :
    Calls Tryd.prog 19 #[.string (strOf (joinL lines ++ u)), .string ⟨#[10]⟩] w (RetSpS w (lines.map strOf ++ [strOf u])) := by
  have hg := genSplit_any lines u hn hu hb w
  go_enter Tryd.func19, Tryd.ntmps19
  go_wp2_with fail
  refine hg.mono ?_
  rintro e w' ⟨b, cap, rfl, h1, h2, h3⟩
  have hlen : (lines.map strOf ++ [strOf u]).length = lines.length + 1 := by simp
  have F : Hid (RetSpS w (lines.map strOf ++ [strOf u]) (.returned (.slice (some ⟨b, 0, none⟩) (lines.length + 1) cap)) w') := ⟨b, cap, by rw [hlen], h1, h2, h3⟩
  rw [hlen]
  clear h1 h2 h3 hg hlen
  go_wp2
  go_ret
  exact F.out
end Go.Proofs.YtmeegpdjhcilkaaDoor
