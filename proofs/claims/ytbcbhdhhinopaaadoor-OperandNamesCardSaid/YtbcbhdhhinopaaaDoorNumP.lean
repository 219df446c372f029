/-
  Walks over num.Bytes and breadboardref01.Bytes: for every string the bytes that its pairs of digits denote, or nothing and false.
-/
import Derived.Test.YtbcbhdhhinopaaaDoorNumO
namespace Go.Proofs.YtbcbhdhhinopaaaDoor
open Go.RowKit
set_option linter.unusedVariables false

/-- The value of the digit number i of a string. -/
def hexAt (s : ByteArray) (i : Nat) : Int := hexV ((s.data.toList.getD i 0).toNat : Int)
theorem hexAt_of (s : ByteArray) (i : Nat) (h : i < s.size) : hexAt s i = hexV (s[i].toNat : Int) := by
  unfold hexAt
  rw [List.getD_eq_getElem?_getD, List.getElem?_eq_getElem (by simpa using h)]
  rfl
def goodP (s : ByteArray) (j : Nat) : Prop := 0 ≤ hexAt s (2 * j) ∧ 0 ≤ hexAt s (2 * j + 1)
instance (s : ByteArray) (j : Nat) : Decidable (goodP s j) := inferInstanceAs (Decidable (_ ∧ _))
def pairI (s : ByteArray) (j : Nat) : Int := 16 * hexAt s (2 * j) + hexAt s (2 * j + 1)
theorem pairI_bd (s : ByteArray) (j : Nat) (h : goodP s j) : 0 ≤ pairI s j ∧ pairI s j ≤ 255 := by
  have h1 := hexV_bd ((s.data.toList.getD (2 * j) 0).toNat : Int)
  have h2 := hexV_bd ((s.data.toList.getD (2 * j + 1) 0).toNat : Int)
  unfold goodP at h
  unfold pairI
  unfold hexAt at *
  omega
/-- Does a string consist of pairs of digits? -/
def bytesOk (s : ByteArray) : Bool := decide (s.size % 2 = 0 ∧ ∀ j, j < s.size / 2 → goodP s j)
/-- The bytes that the pairs denote. -/
def bytesL (s : ByteArray) : List UInt8 := if bytesOk s then (List.range (s.size / 2)).map (fun j => lowU (pairI s j)) else []
theorem bytes_odd (s : ByteArray) (h : ¬ s.size % 2 = 0) : bytesOk s = false ∧ bytesL s = [] := by
  have h1 : bytesOk s = false := by unfold bytesOk; exact decide_eq_false (fun e => h e.1)
  exact ⟨h1, by unfold bytesL; rw [h1]; rfl⟩
theorem bytes_bad (s : ByteArray) (k : Nat) (hk : k < s.size / 2) (h : ¬ goodP s k) : bytesOk s = false ∧ bytesL s = [] := by
  have h1 : bytesOk s = false := by unfold bytesOk; exact decide_eq_false (fun e => h (e.2 k hk))
  exact ⟨h1, by unfold bytesL; rw [h1]; rfl⟩
theorem bytes_good (s : ByteArray) (h0 : s.size % 2 = 0) (h : ∀ j, j < s.size / 2 → goodP s j) : bytesOk s = true ∧ bytesL s = (List.range (s.size / 2)).map (fun j => lowU (pairI s j)) := by
  have h1 : bytesOk s = true := by unfold bytesOk; exact decide_eq_true ⟨h0, h⟩
  exact ⟨h1, by unfold bytesL; rw [h1]; rfl⟩
/-- The call returns a slice that reads as xs, and a bool; nothing that was there is changed. -/
def RetBytesOk (w : World) (xs : List UInt8) (ok : Bool) (e : Ending) (w' : World) : Prop := ∃ A cap, e = .returned (.tuple #[.slice A xs.length cap, .bool ok]) ∧ BytesB w' A xs ∧ Below w.heap.size w w'
/-- The same, and the slice's capacity is not less than its length. -/
def RetBytesC (w : World) (xs : List UInt8) (ok : Bool) (e : Ending) (w' : World) : Prop := ∃ A cap, e = .returned (.tuple #[.slice A xs.length cap, .bool ok]) ∧ BytesB w' A xs ∧ xs.length ≤ cap ∧ NewA w A ∧ Below w.heap.size w w'
theorem RetBytesC.ok {w : World} {xs : List UInt8} {ok : Bool} {e : Ending} {w' : World} (h : RetBytesC w xs ok e w') : RetBytesOk w xs ok e w' := by
  obtain ⟨A, cap, h1, h2, _, _, h3⟩ := h
  exact ⟨A, cap, h1, h2, h3⟩
theorem retBytes_none {w w' : World} {xs : List UInt8} {ok : Bool} (h : ok = false ∧ xs = []) (hb : Below w.heap.size w w') : RetBytesC w xs ok (.returned (.tuple #[.slice none 0 0, .bool false])) w' := by
  obtain ⟨rfl, rfl⟩ := h
  exact ⟨none, 0, rfl, .inl rfl, Nat.le_refl _, fun a h => (by cases h), hb⟩

theorem pair_list (s : ByteArray) (k : Nat) (h : 2 * k + 1 < s.size) : (s.extract (2 * k) (2 * k + 2)).data.toList = [s[2 * k], s[2 * k + 1]] := by
  rw [Lib.extract_data, show 2 * k + 2 - 2 * k = 2 by omega]
  have hl : s.data.toList.length = s.size := by simp
  rw [List.drop_eq_getElem_cons (by rw [hl]; omega), List.drop_eq_getElem_cons (by rw [hl]; omega)]
  rfl
theorem rd_pair (s : ByteArray) (k : Nat) (h : 2 * k + 1 < s.size) :
    (goodP s k → rdV 16 (s.extract (2 * k) (2 * k + 2)) = pairI s k ∧ rdOk 16 (s.extract (2 * k) (2 * k + 2)) = true) ∧ (¬ goodP s k → rdOk 16 (s.extract (2 * k) (2 * k + 2)) = false) := by
  have b1 := hexV_bd (s[2 * k].toNat : Int)
  have b2 := hexV_bd (s[2 * k + 1].toNat : Int)
  unfold goodP pairI rdV rdOk rdO
  rw [pair_list s k h, hexAt_of s _ (by omega), hexAt_of s _ h, if_neg (by simp)]
  unfold rdL
  simp only [List.foldl_cons, List.foldl_nil]
  constructor
  · rintro ⟨g1, g2⟩
    unfold rdStep
    simp only [Option.bind_some]
    rw [if_neg (by omega), if_pos (by omega)]
    simp only [Option.bind_some]
    rw [if_neg (by omega), if_pos (by omega)]
    exact ⟨by rw [Option.getD_some]; omega, rfl⟩
  · intro g
    unfold rdStep
    simp only [Option.bind_some]
    by_cases g1 : hexV (s[2 * k].toNat : Int) < 0 ∨ 16 ≤ hexV (s[2 * k].toNat : Int)
    · rw [if_pos g1]; rfl
    · rw [if_neg g1, if_pos (by omega)]
      simp only [Option.bind_some]
      rw [if_pos (by omega)]; rfl

def BytesRel (w : World) (s : ByteArray) (m k : Nat) (wr : World) : Prop :=
  (∀ j, j < k → goodP s j) ∧ (∀ j, j < m → wr.cell? ⟨w.heap.size, j, none⟩ = some (.int .u8 (if j < k then pairI s j else 0))) ∧ (∀ j, j < m → wr.frozen? ⟨w.heap.size, j, none⟩ = false) ∧ Below w.heap.size w wr
theorem bytesRel_start (w : World) (s : ByteArray) (m : Nat) (e : TypeId) : BytesRel w s m 0 (w.alloc (.cells (madeCells #[.int .u8 0] m) e)) := by
  refine ⟨fun j h => by omega, fun j h => ?_, fun j h => ?_, (Below.refl _ _).alloc (Nat.le_refl _) _⟩
  · rw [if_neg (by omega)]
    simp [go_sem, madeCells, h, Nat.mod_one]
  · simp [go_sem]
theorem bytesRel_below {w wr w1 : World} {s : ByteArray} {m k : Nat} (h : BytesRel w s m k wr) (hb : Below wr.heap.size wr w1) : BytesRel w s m k w1 := by
  obtain ⟨r0, r1, r2, r3⟩ := h
  refine ⟨r0, fun j hj => ?_, fun j hj => ?_, r3.trans (hb.mono r3.size)⟩
  · rw [hb.cell (p := ⟨w.heap.size, j, none⟩) (World.block_lt_of_cell? wr _ (r1 j hj))]; exact r1 j hj
  · rw [hb.frozen (p := ⟨w.heap.size, j, none⟩) (World.block_lt_of_cell? wr _ (r1 j hj))]; exact r2 j hj
theorem bytesRel_next {w wr : World} {s : ByteArray} {m k : Nat} (hk : k < m) (hg : goodP s k) (h : BytesRel w s m k wr) : BytesRel w s m (k + 1) (wr.setCell ⟨w.heap.size, k, none⟩ (.int .u8 (pairI s k))) := by
  obtain ⟨r0, r1, r2, r3⟩ := h
  refine ⟨fun j hj => ?_, fun j hj => ?_, fun j hj => ?_, r3.setCell (by simp) _⟩
  · by_cases e : j = k
    · subst e; exact hg
    · exact r0 j (by omega)
  · by_cases e : j = k
    · subst e
      have := r1 _ hj
      rw [if_pos (by omega)]
      simp [go_sem, this]
    · rw [World.cell?_setCell_other _ _ _ _ (by simp), r1 j hj]
      by_cases h1 : j < k
      · rw [if_pos h1, if_pos (by omega)]
      · rw [if_neg h1, if_neg (by omega)]
  · simp [go_sem, r2 j hj]
theorem bytesRel_end {w wr : World} {s : ByteArray} {m : Nat} (hm : m = s.size / 2) (h0 : s.size % 2 = 0) (h : BytesRel w s m m wr) :
    RetBytesC w (bytesL s) (bytesOk s) (.returned (.tuple #[.slice (some ⟨w.heap.size, 0, none⟩) m m, .bool true])) wr := by
  subst hm
  obtain ⟨r0, r1, r2, r3⟩ := h
  obtain ⟨h1, h2⟩ := bytes_good s h0 r0
  rw [h1, h2]
  refine ⟨some ⟨w.heap.size, 0, none⟩, s.size / 2, by rw [List.length_map, List.length_range], .inr ⟨_, 0, rfl, fun j hj => ?_⟩, by rw [List.length_map, List.length_range]; exact Nat.le_refl _, fun a h => (by cases h; exact Nat.le_refl _), r3⟩
  have hj' : j < s.size / 2 := by simpa using hj
  have hb := pairI_bd s j (r0 j hj')
  rw [Nat.zero_add, r1 j hj', if_pos hj']
  simp only [List.getElem_map, List.getElem_range]
  rw [lowU_nat, Int.emod_eq_of_lt hb.1 (by omega)]

theorem digV_15 (c : Int) : 15 < digV c ↔ hexV c < 0 := by
  unfold digV hexV; split <;> (try split) <;> (try split) <;> (try split) <;> (try split) <;> omega
/-- The bytes of the pairs before k. -/
def pairsL (s : ByteArray) (k : Nat) : List UInt8 := (List.range k).map (fun j => lowU (pairI s j))
theorem pairsL_snoc (s : ByteArray) (k : Nat) : pairsL s (k + 1) = pairsL s k ++ [lowU (pairI s k)] := by unfold pairsL; rw [List.range_succ, List.map_append]; rfl
theorem pairsL_len (s : ByteArray) (k : Nat) : (pairsL s k).length = k := by unfold pairsL; simp
theorem ownB_endC {w wr : World} {v : Value} {xs : List UInt8} (h : OwnB w wr v xs) : ∃ A cap, Ending.returned v = .returned (.slice A xs.length cap) ∧ xs.length ≤ cap ∧ NewA w A ∧ BytesB wr A xs ∧ Below w.heap.size w wr := by
  rcases h.1.2 with ⟨rfl, h0⟩ | ⟨g, cap, cur, rfl, hb, _, hm, hcs⟩
  · have := List.eq_nil_of_length_eq_zero h0
    subst this
    exact ⟨none, 0, rfl, Nat.le_refl _, fun a h => (by cases h), .inl rfl, h.2⟩
  · obtain ⟨_, A, cap', e, hB⟩ := BytesB.of_own h.1
    simp only [Value.slice.injEq] at e
    obtain ⟨rfl, -, rfl⟩ := e
    exact ⟨_, cap, rfl, by first | exact hm | exact hm.1 | exact hcs.1 | omega, fun a h => (by cases h; exact hb), hB, h.2⟩
theorem retBytes_ok {w wr : World} {v : Value} {s : ByteArray} {m : Nat} (hm : m = s.size / 2) (h0 : s.size % 2 = 0) (hg : ∀ j, j < m → goodP s j) (h : OwnB w wr v (pairsL s m)) :
    RetBytesC w (bytesL s) (bytesOk s) (.returned (.tuple #[v, .bool true])) wr := by
  subst hm
  obtain ⟨h1, h2⟩ := bytes_good s h0 hg
  rw [h1, h2]
  obtain ⟨A, cap, e, hc, hnew, hb, hbel⟩ := ownB_endC h
  injection e with e
  subst e
  exact ⟨A, cap, rfl, hb, hc, hnew, hbel⟩

end Go.Proofs.YtbcbhdhhinopaaaDoor
