/-
  The walk over num.Parse: for every word the number of the first form that it has, or 0 and false; nothing that was there is changed.
-/
import Derived.Test.YtcmcikcagpkocaaDoorNumD
import Derived.Test.YtcmcikcagpkocaaDoorNumG
import Derived.Laws.EntriesVeiled
namespace Go.Proofs.YtcmcikcagpkocaaDoor
open Go.RowKit
set_option linter.unusedVariables false

def baseW (k : Nat) : Int := match k with
  | 0 => 10
  | 1 => 16
  | 2 => 16
  | 3 => 16
  | _ => 2
/-- The number that the word u (in capital letters) denotes in the form k. -/
def attO (k : Nat) (u : ByteArray) : Option Int := if hasW k u = true then rdO (baseW k) (cutW k u) else none
/-- The first form before k that the word has. -/
def firstO (u : ByteArray) : Nat → Option Int
  | 0 => none
  | k + 1 => (firstO u k).or (attO k u)
def parO (s : ByteArray) : Option Int := firstO (upB s) 6
def parV (s : ByteArray) : Int := (parO s).getD 0
def parOk (s : ByteArray) : Bool := (parO s).isSome
theorem first_none (u : ByteArray) (k : Nat) (h : firstO u k = none) (h' : attO k u = none) : firstO u (k + 1) = none := by show (firstO u k).or (attO k u) = none; rw [h, h']; rfl
theorem first_some (u : ByteArray) (x : Int) : ∀ (m k : Nat), k < m → firstO u k = none → attO k u = some x → firstO u m = some x
  | 0, k, h, _, _ => by omega
  | m + 1, k, h, hn, hx => by
    show (firstO u m).or (attO m u) = some x
    by_cases e : k = m
    · subst e; rw [hn, hx]; rfl
    · rw [first_some u x m k (by omega) hn hx]; rfl
theorem par_hit (s : ByteArray) (k : Nat) (hk : k < 6) (h : firstO (upB s) k = none) (hA : hasW k (upB s) = true) (hB : rdOk (baseW k) (cutW k (upB s)) = true) :
    parV s = rdV (baseW k) (cutW k (upB s)) ∧ parOk s = true := by
  unfold rdOk at hB
  obtain ⟨x, hx⟩ := Option.isSome_iff_exists.1 hB
  have h1 : parO s = some x := first_some (upB s) x 6 k hk h (by unfold attO; rw [if_pos hA]; exact hx)
  unfold parV parOk rdV
  rw [h1, hx]
  exact ⟨rfl, rfl⟩
theorem par_miss (s : ByteArray) (h : firstO (upB s) 6 = none) : parV s = 0 ∧ parOk s = false := by
  unfold parV parOk parO
  rw [h]
  exact ⟨rfl, rfl⟩
theorem att_no (k : Nat) (u : ByteArray) (hA : hasW k u = false) : attO k u = none := by unfold attO; rw [hA]; rfl
theorem att_bad (k : Nat) (u : ByteArray) (hA : hasW k u = true) (hB : rdOk (baseW k) (cutW k u) = false) : attO k u = none := by
  unfold attO rdOk at *
  rw [if_pos hA]
  simpa using hB
/-- What holds at the head of round k, w1 being the world in which num.forms was called. -/
def ParRel (w w1 : World) (s : ByteArray) (k : Nat) (wr : World) : Prop :=
  k ≤ 6 ∧ firstO (upB s) k = none ∧ Below (w1.alloc formsObj).heap.size (w1.alloc formsObj) wr ∧ Below w.heap.size w wr
theorem parRel_cells {w w1 wr : World} {s : ByteArray} {k : Nat} (h : ParRel w w1 s k wr) : ∀ j, wr.cell? ⟨w1.heap.size, j, none⟩ = (w1.alloc formsObj).cell? ⟨w1.heap.size, j, none⟩ := fun j =>
  h.2.2.1.cell (p := ⟨w1.heap.size, j, none⟩) (by simp)
theorem parRel_step {w w1 wr w2 : World} {s : ByteArray} {k : Nat} (h : ParRel w w1 s k wr) (hk : k < 6) (ha : attO k (upB s) = none) (hb : Below wr.heap.size wr w2) : ParRel w w1 s (k + 1) w2 :=
  ⟨by omega, first_none _ _ h.2.1 ha, h.2.2.1.trans (hb.mono h.2.2.1.size), h.2.2.2.trans (hb.mono h.2.2.2.size)⟩

theorem cutW_size (k : Nat) (u : ByteArray) : (cutW k u).size ≤ u.size := by
  unfold cutW cutPre cutSuf
  split <;> (try split) <;> (first | exact Nat.le_refl _ | exact extract_le _ _ _)
theorem cutW_max (k : Nat) (u : ByteArray) (h : u.size ≤ maxLen) : (cutW k u).size ≤ maxLen := Nat.le_trans (cutW_size k u) h

set_option maxHeartbeats 2000000 in
theorem parse_any (s : ByteArray) (hs : s.size ≤ maxLen) (w : World) :
    Calls Tryd.prog 75 #[.string s] w fun e w' => e = .returned (.tuple #[.int .i64 (parV s), .bool (parOk s)]) ∧ Below w.heap.size w w' := by
  have hu : (upB s).size ≤ maxLen := by rw [upB_size]; exact hs
  go_enter Tryd.func75, Tryd.ntmps75
  go_wp2_with (first | (go_at_call 60; refine (upper_any _ hs _).mono ?_; rintro e w1 ⟨rfl, hb1⟩) | (go_at_call 98; refine (forms_any _).mono ?_; rintro e w' ⟨rfl, rfl⟩))
  go_loopw [15] (fun i wr => ∃ k : Nat, i = .int .i64 k ∧ ParRel w w1 s k wr) (fun i _ => 6 - (intOf i).toNat)
  case atStart => exact ⟨0, rfl, by omega, rfl, Below.refl _ _, hb1.alloc hb1.size _⟩
  case round =>
    obtain ⟨k, rfl, hr⟩ := hrel
    have hk6 := hr.1
    have hcells := parRel_cells hr
    have R := Lib.hid hr
    have hB1 := Lib.hid hb1
    clear hr hb1
    have hcase : k = 0 ∨ k = 1 ∨ k = 2 ∨ k = 3 ∨ k = 4 ∨ k = 5 ∨ k = 6 := by omega
    clear hk6
    rcases hcase with rfl | rfl | rfl | rfl | rfl | rfl | rfl
    · have f0 : wr.cell? ⟨w1.heap.size, 0, none⟩ = some (.int .i64 10) := by rw [hcells]; simp [formsObj, go_sem]
      have f1 : wr.cell? ⟨w1.heap.size, 1, none⟩ = some (.func (Fn.func 104) #[] #[]) := by rw [hcells]; simp [formsObj, go_sem]
      clear hcells
      by_cases hA : hasW 0 (upB s) = true
      · by_cases hB : rdOk 10 (cutW 0 (upB s)) = true
        · have E := par_hit s 0 (by omega) R.out.2.1 hA hB
          have E1 := Lib.hid E.1
          have E2 := Lib.hid E.2
          clear E
          go_wp2_with (first | (go_at_call 104; refine (form0_any _ hu _).mono ?_; rintro e w' ⟨rfl, rfl⟩) | (go_at_call 99; refine (read_any _ 10 (cutW_max 0 _ hu) (by omega) (by omega) _).mono ?_; rintro e w2 ⟨rfl, hb2⟩))
          go_ret2
          exact ⟨ret_pair E1.out.symm E2.out.symm, R.out.2.2.2.trans (((Below.refl _ _).alloc (Nat.le_refl _) _).trans (hb2.mono (by simp)) |>.mono R.out.2.2.2.size)⟩
        · have hB' : rdOk 10 (cutW 0 (upB s)) = false := by simpa using hB
          clear hB
          have A := Lib.hid (att_bad 0 _ hA hB')
          go_wp2_with (first | (go_at_call 104; refine (form0_any _ hu _).mono ?_; rintro e w' ⟨rfl, rfl⟩) | (go_at_call 99; refine (read_any _ 10 (cutW_max 0 _ hu) (by omega) (by omega) _).mono ?_; rintro e w2 ⟨rfl, hb2⟩))
          have N := Lib.hid (parRel_step (w2 := w2) R.out (by omega) A.out (((Below.refl _ _).alloc (Nat.le_refl _) _).trans (hb2.mono (by simp))))
          go_roundw
          case rel => exact ⟨1, rfl, N.out⟩
          case measure => simp [intOf]
      · have hA' : hasW 0 (upB s) = false := by simpa using hA
        clear hA
        have A := Lib.hid (att_no 0 _ hA')
        have N := fun O => Lib.hid (parRel_step (w2 := wr.alloc O) R.out (by omega) A.out ((Below.refl _ _).alloc (Nat.le_refl _) _))
        go_wp2_with ((go_at_call 104; refine (form0_any _ hu _).mono ?_; rintro e w' ⟨rfl, rfl⟩))
        go_roundw
        case rel => exact ⟨1, rfl, (N _).out⟩
        case measure => simp [intOf]
    · have f0 : wr.cell? ⟨w1.heap.size, 2, none⟩ = some (.int .i64 16) := by rw [hcells]; simp [formsObj, go_sem]
      have f1 : wr.cell? ⟨w1.heap.size, 3, none⟩ = some (.func (Fn.func 105) #[] #[]) := by rw [hcells]; simp [formsObj, go_sem]
      clear hcells
      by_cases hA : hasW 1 (upB s) = true
      · by_cases hB : rdOk 16 (cutW 1 (upB s)) = true
        · have E := par_hit s 1 (by omega) R.out.2.1 hA hB
          have E1 := Lib.hid E.1
          have E2 := Lib.hid E.2
          clear E
          go_wp2_with (first | (go_at_call 105; refine (form1_any _ hu _).mono ?_; rintro e w' ⟨rfl, rfl⟩) | (go_at_call 99; refine (read_any _ 16 (cutW_max 1 _ hu) (by omega) (by omega) _).mono ?_; rintro e w2 ⟨rfl, hb2⟩))
          go_ret2
          exact ⟨ret_pair E1.out.symm E2.out.symm, R.out.2.2.2.trans (((Below.refl _ _).alloc (Nat.le_refl _) _).trans (hb2.mono (by simp)) |>.mono R.out.2.2.2.size)⟩
        · have hB' : rdOk 16 (cutW 1 (upB s)) = false := by simpa using hB
          clear hB
          have A := Lib.hid (att_bad 1 _ hA hB')
          go_wp2_with (first | (go_at_call 105; refine (form1_any _ hu _).mono ?_; rintro e w' ⟨rfl, rfl⟩) | (go_at_call 99; refine (read_any _ 16 (cutW_max 1 _ hu) (by omega) (by omega) _).mono ?_; rintro e w2 ⟨rfl, hb2⟩))
          have N := Lib.hid (parRel_step (w2 := w2) R.out (by omega) A.out (((Below.refl _ _).alloc (Nat.le_refl _) _).trans (hb2.mono (by simp))))
          go_roundw
          case rel => exact ⟨2, rfl, N.out⟩
          case measure => simp [intOf]
      · have hA' : hasW 1 (upB s) = false := by simpa using hA
        clear hA
        have A := Lib.hid (att_no 1 _ hA')
        have N := fun O => Lib.hid (parRel_step (w2 := wr.alloc O) R.out (by omega) A.out ((Below.refl _ _).alloc (Nat.le_refl _) _))
        go_wp2_with ((go_at_call 105; refine (form1_any _ hu _).mono ?_; rintro e w' ⟨rfl, rfl⟩))
        go_roundw
        case rel => exact ⟨2, rfl, (N _).out⟩
        case measure => simp [intOf]
    · have f0 : wr.cell? ⟨w1.heap.size, 4, none⟩ = some (.int .i64 16) := by rw [hcells]; simp [formsObj, go_sem]
      have f1 : wr.cell? ⟨w1.heap.size, 5, none⟩ = some (.func (Fn.func 107) #[] #[]) := by rw [hcells]; simp [formsObj, go_sem]
      clear hcells
      by_cases hA : hasW 2 (upB s) = true
      · by_cases hB : rdOk 16 (cutW 2 (upB s)) = true
        · have E := par_hit s 2 (by omega) R.out.2.1 hA hB
          have E1 := Lib.hid E.1
          have E2 := Lib.hid E.2
          clear E
          go_wp2_with (first | (go_at_call 107; refine (form2_any _ hu _).mono ?_; rintro e w' ⟨rfl, rfl⟩) | (go_at_call 99; refine (read_any _ 16 (cutW_max 2 _ hu) (by omega) (by omega) _).mono ?_; rintro e w2 ⟨rfl, hb2⟩))
          go_ret2
          exact ⟨ret_pair E1.out.symm E2.out.symm, R.out.2.2.2.trans (((Below.refl _ _).alloc (Nat.le_refl _) _).trans (hb2.mono (by simp)) |>.mono R.out.2.2.2.size)⟩
        · have hB' : rdOk 16 (cutW 2 (upB s)) = false := by simpa using hB
          clear hB
          have A := Lib.hid (att_bad 2 _ hA hB')
          go_wp2_with (first | (go_at_call 107; refine (form2_any _ hu _).mono ?_; rintro e w' ⟨rfl, rfl⟩) | (go_at_call 99; refine (read_any _ 16 (cutW_max 2 _ hu) (by omega) (by omega) _).mono ?_; rintro e w2 ⟨rfl, hb2⟩))
          have N := Lib.hid (parRel_step (w2 := w2) R.out (by omega) A.out (((Below.refl _ _).alloc (Nat.le_refl _) _).trans (hb2.mono (by simp))))
          go_roundw
          case rel => exact ⟨3, rfl, N.out⟩
          case measure => simp [intOf]
      · have hA' : hasW 2 (upB s) = false := by simpa using hA
        clear hA
        have A := Lib.hid (att_no 2 _ hA')
        have N := fun O => Lib.hid (parRel_step (w2 := wr.alloc O) R.out (by omega) A.out ((Below.refl _ _).alloc (Nat.le_refl _) _))
        go_wp2_with ((go_at_call 107; refine (form2_any _ hu _).mono ?_; rintro e w' ⟨rfl, rfl⟩))
        go_roundw
        case rel => exact ⟨3, rfl, (N _).out⟩
        case measure => simp [intOf]
    · have f0 : wr.cell? ⟨w1.heap.size, 6, none⟩ = some (.int .i64 16) := by rw [hcells]; simp [formsObj, go_sem]
      have f1 : wr.cell? ⟨w1.heap.size, 7, none⟩ = some (.func (Fn.func 108) #[] #[]) := by rw [hcells]; simp [formsObj, go_sem]
      clear hcells
      by_cases hA : hasW 3 (upB s) = true
      · by_cases hB : rdOk 16 (cutW 3 (upB s)) = true
        · have E := par_hit s 3 (by omega) R.out.2.1 hA hB
          have E1 := Lib.hid E.1
          have E2 := Lib.hid E.2
          clear E
          go_wp2_with (first | (go_at_call 108; refine (form3_any _ hu _).mono ?_; rintro e w' ⟨rfl, rfl⟩) | (go_at_call 99; refine (read_any _ 16 (cutW_max 3 _ hu) (by omega) (by omega) _).mono ?_; rintro e w2 ⟨rfl, hb2⟩))
          go_ret2
          exact ⟨ret_pair E1.out.symm E2.out.symm, R.out.2.2.2.trans (((Below.refl _ _).alloc (Nat.le_refl _) _).trans (hb2.mono (by simp)) |>.mono R.out.2.2.2.size)⟩
        · have hB' : rdOk 16 (cutW 3 (upB s)) = false := by simpa using hB
          clear hB
          have A := Lib.hid (att_bad 3 _ hA hB')
          go_wp2_with (first | (go_at_call 108; refine (form3_any _ hu _).mono ?_; rintro e w' ⟨rfl, rfl⟩) | (go_at_call 99; refine (read_any _ 16 (cutW_max 3 _ hu) (by omega) (by omega) _).mono ?_; rintro e w2 ⟨rfl, hb2⟩))
          have N := Lib.hid (parRel_step (w2 := w2) R.out (by omega) A.out (((Below.refl _ _).alloc (Nat.le_refl _) _).trans (hb2.mono (by simp))))
          go_roundw
          case rel => exact ⟨4, rfl, N.out⟩
          case measure => simp [intOf]
      · have hA' : hasW 3 (upB s) = false := by simpa using hA
        clear hA
        have A := Lib.hid (att_no 3 _ hA')
        have N := fun O => Lib.hid (parRel_step (w2 := wr.alloc O) R.out (by omega) A.out ((Below.refl _ _).alloc (Nat.le_refl _) _))
        go_wp2_with ((go_at_call 108; refine (form3_any _ hu _).mono ?_; rintro e w' ⟨rfl, rfl⟩))
        go_roundw
        case rel => exact ⟨4, rfl, (N _).out⟩
        case measure => simp [intOf]
    · have f0 : wr.cell? ⟨w1.heap.size, 8, none⟩ = some (.int .i64 2) := by rw [hcells]; simp [formsObj, go_sem]
      have f1 : wr.cell? ⟨w1.heap.size, 9, none⟩ = some (.func (Fn.func 109) #[] #[]) := by rw [hcells]; simp [formsObj, go_sem]
      clear hcells
      by_cases hA : hasW 4 (upB s) = true
      · by_cases hB : rdOk 2 (cutW 4 (upB s)) = true
        · have E := par_hit s 4 (by omega) R.out.2.1 hA hB
          have E1 := Lib.hid E.1
          have E2 := Lib.hid E.2
          clear E
          go_wp2_with (first | (go_at_call 109; refine (form4_any _ hu _).mono ?_; rintro e w' ⟨rfl, rfl⟩) | (go_at_call 99; refine (read_any _ 2 (cutW_max 4 _ hu) (by omega) (by omega) _).mono ?_; rintro e w2 ⟨rfl, hb2⟩))
          go_ret2
          exact ⟨ret_pair E1.out.symm E2.out.symm, R.out.2.2.2.trans (((Below.refl _ _).alloc (Nat.le_refl _) _).trans (hb2.mono (by simp)) |>.mono R.out.2.2.2.size)⟩
        · have hB' : rdOk 2 (cutW 4 (upB s)) = false := by simpa using hB
          clear hB
          have A := Lib.hid (att_bad 4 _ hA hB')
          go_wp2_with (first | (go_at_call 109; refine (form4_any _ hu _).mono ?_; rintro e w' ⟨rfl, rfl⟩) | (go_at_call 99; refine (read_any _ 2 (cutW_max 4 _ hu) (by omega) (by omega) _).mono ?_; rintro e w2 ⟨rfl, hb2⟩))
          have N := Lib.hid (parRel_step (w2 := w2) R.out (by omega) A.out (((Below.refl _ _).alloc (Nat.le_refl _) _).trans (hb2.mono (by simp))))
          go_roundw
          case rel => exact ⟨5, rfl, N.out⟩
          case measure => simp [intOf]
      · have hA' : hasW 4 (upB s) = false := by simpa using hA
        clear hA
        have A := Lib.hid (att_no 4 _ hA')
        have N := fun O => Lib.hid (parRel_step (w2 := wr.alloc O) R.out (by omega) A.out ((Below.refl _ _).alloc (Nat.le_refl _) _))
        go_wp2_with ((go_at_call 109; refine (form4_any _ hu _).mono ?_; rintro e w' ⟨rfl, rfl⟩))
        go_roundw
        case rel => exact ⟨5, rfl, (N _).out⟩
        case measure => simp [intOf]
    · have f0 : wr.cell? ⟨w1.heap.size, 10, none⟩ = some (.int .i64 2) := by rw [hcells]; simp [formsObj, go_sem]
      have f1 : wr.cell? ⟨w1.heap.size, 11, none⟩ = some (.func (Fn.func 111) #[] #[]) := by rw [hcells]; simp [formsObj, go_sem]
      clear hcells
      by_cases hA : hasW 5 (upB s) = true
      · by_cases hB : rdOk 2 (cutW 5 (upB s)) = true
        · have E := par_hit s 5 (by omega) R.out.2.1 hA hB
          have E1 := Lib.hid E.1
          have E2 := Lib.hid E.2
          clear E
          go_wp2_with (first | (go_at_call 111; refine (form5_any _ hu _).mono ?_; rintro e w' ⟨rfl, rfl⟩) | (go_at_call 99; refine (read_any _ 2 (cutW_max 5 _ hu) (by omega) (by omega) _).mono ?_; rintro e w2 ⟨rfl, hb2⟩))
          go_ret2
          exact ⟨ret_pair E1.out.symm E2.out.symm, R.out.2.2.2.trans (((Below.refl _ _).alloc (Nat.le_refl _) _).trans (hb2.mono (by simp)) |>.mono R.out.2.2.2.size)⟩
        · have hB' : rdOk 2 (cutW 5 (upB s)) = false := by simpa using hB
          clear hB
          have A := Lib.hid (att_bad 5 _ hA hB')
          go_wp2_with (first | (go_at_call 111; refine (form5_any _ hu _).mono ?_; rintro e w' ⟨rfl, rfl⟩) | (go_at_call 99; refine (read_any _ 2 (cutW_max 5 _ hu) (by omega) (by omega) _).mono ?_; rintro e w2 ⟨rfl, hb2⟩))
          have N := Lib.hid (parRel_step (w2 := w2) R.out (by omega) A.out (((Below.refl _ _).alloc (Nat.le_refl _) _).trans (hb2.mono (by simp))))
          go_roundw
          case rel => exact ⟨6, rfl, N.out⟩
          case measure => simp [intOf]
      · have hA' : hasW 5 (upB s) = false := by simpa using hA
        clear hA
        have A := Lib.hid (att_no 5 _ hA')
        have N := fun O => Lib.hid (parRel_step (w2 := wr.alloc O) R.out (by omega) A.out ((Below.refl _ _).alloc (Nat.le_refl _) _))
        go_wp2_with ((go_at_call 111; refine (form5_any _ hu _).mono ?_; rintro e w' ⟨rfl, rfl⟩))
        go_roundw
        case rel => exact ⟨6, rfl, (N _).out⟩
        case measure => simp [intOf]
    · have E := par_miss s R.out.2.1
      have E1 := Lib.hid E.1
      have E2 := Lib.hid E.2
      clear E
      go_wp2
      go_ret2
      exact ⟨ret_pair E1.out.symm E2.out.symm, R.out.2.2.2⟩
end Go.Proofs.YtcmcikcagpkocaaDoor
