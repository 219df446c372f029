/-
  The block of a lexer, its cursor's methods, and its readers of the end, of words, of numbers and of signs.
-/
import Derived.Test.YtcmcikcagpkocaaDoorLxG
import Derived.Test.YtcmcikcagpkocaaDoorLxT
import Derived.Test.YtcmcikcagpkocaaDoorNumE
import Derived.Test.YtcmcikcagpkocaaDoorMixP
import Derived.Deep.QuietTactic
import Derived.BigQuiet
import Derived.Deep.DeepCutAuto
import Derived.Deep.Cut
namespace Go.Proofs.YtcmcikcagpkocaaDoor
open Go.RowKit
set_option linter.unusedVariables false
attribute [local go_sem] Oper.semAt_some

theorem below_dq {B : Nat} {a w : World} (h : Below B a w) (n : Nat) : Below B a (w.drewN n) := ⟨h.os, h.tape, h.output, h.size, h.block⟩
/-- A lexer's block D: the line and the place. -/
structure Lxr (w0 : World) (D : Nat) (s : ByteArray) (w : World) (p : Nat) : Prop where
  blk : w.heap[D]? = some (.cells #[.string s, .int .i64 p] 54 (0, 0))
  bel : Below D w0 w
/-- All blocks but D are as they were. -/
structure LK (D : Nat) (w w' : World) : Prop where
  size : w.heap.size ≤ w'.heap.size
  same : ∀ k, k < w.heap.size → k ≠ D → w'.heap[k]? = w.heap[k]?
section
variable {w0 w w' : World} {D : Nat} {s : ByteArray} {p : Nat}
theorem Lxr.lt (h : Lxr w0 D s w p) : D < w.heap.size := (Array.getElem?_eq_some_iff.1 h.blk).1
theorem Lxr.all (h : Lxr w0 D s w p) (hb : Below w.heap.size w w') : Lxr w0 D s w' p :=
  ⟨(hb.block D h.lt).trans h.blk, h.bel.trans (hb.mono (Nat.le_of_lt h.lt))⟩
theorem Lxr.cells (h : Lxr w0 D s w p) : w.cell? ⟨D, 0, none⟩ = some (.string s) ∧ w.cell? ⟨D, 1, none⟩ = some (.int .i64 p) ∧ ∀ i, w.frozen? ⟨D, i, none⟩ = false :=
  ⟨Lib.cell_of_heap h.blk 0, Lib.cell_of_heap h.blk 1, fun i => Lib.frozen_of_heap h.blk i⟩
theorem Lxr.set (h : Lxr w0 D s w p) (x : Nat) : Lxr w0 D s (w.setCell ⟨D, 1, none⟩ (.int .i64 x)) x :=
  ⟨heap_setCell_same w D 1 _ _ (.int .i64 x) h.blk, h.bel.setCell (p := ⟨D, 1, none⟩) (Nat.le_refl _) _⟩
theorem LK.refl (D : Nat) (w : World) : LK D w w := ⟨Nat.le_refl _, fun _ _ _ => rfl⟩
theorem LK.of_below (h : Below w.heap.size w w') : LK D w w' := ⟨h.size, fun k hk _ => h.block k hk⟩
theorem LK.trans {w'' : World} (h : LK D w w') (h' : LK D w' w'') : LK D w w'' :=
  ⟨Nat.le_trans h.size h'.size, fun k hk hb => (h'.same k (Nat.lt_of_lt_of_le hk h.size) hb).trans (h.same k hk hb)⟩
theorem LK.set (h : LK D w w') (j : Nat) (u : Value) : LK D w (w'.setCell ⟨D, j, none⟩ u) :=
  ⟨by simpa using h.size, fun k hk hb => (heap_setCell_other w' ⟨D, j, none⟩ k u hb).trans (h.same k hk hb)⟩
end
theorem ext_ext (s : ByteArray) (p z : Nat) (h : p + z ≤ s.size) : (s.extract p s.size).extract 0 z = s.extract p (p + z) := by
  apply bytes_ext
  rw [ext_take, ext_drop, ext_mid, Nat.add_sub_cancel_left]
theorem sOf_ext (s : ByteArray) (p z : Nat) : s.extract p (p + z) = sOf ((s.data.toList.drop p).take z) := by
  apply bytes_ext
  rw [ext_mid, Nat.add_sub_cancel_left, sOf_list]
/-- What the line still holds. -/
def rst (s : ByteArray) (p : Nat) : List UInt8 := s.data.toList.drop p
theorem rst_len (s : ByteArray) (p : Nat) : (rst s p).length = s.size - p := by unfold rst; rw [List.length_drop]; simp
set_option maxRecDepth 100000 in
set_option maxHeartbeats 1000000 in
theorem rest_any {w0 : World} {D : Nat} {s : ByteArray} {w : World} {p : Nat} (hs : s.size ≤ 100000) (hp : p ≤ s.size) (X : Lxr w0 D s w p) :
    Calls Tryd.prog 72 #[.pointer (some ⟨D, 0, none⟩)] w fun e w' => e = .returned (.string (s.extract p s.size)) ∧ Below w.heap.size w w' := by
  obtain ⟨e0, e1, -⟩ := X.cells
  have e2 : w.drew.cell? ⟨D, 0, none⟩ = some (.string s) := e0
  have e3 : w.drew.cell? ⟨D, 1, none⟩ = some (.int .i64 p) := e1
  clear X e0 e1
  go_enter Tryd.func72, Tryd.ntmps72
  go_wp2
  refine Mixed.wp_region_mixed (fun w' => w'.cell? ⟨D, 0, none⟩ = some (.string s) ∧ w'.cell? ⟨D, 1, none⟩ = some (.int .i64 (p : Int))) 9 [(0, true), (1, true), (2, true), (3, true), (4, true), (5, true), (6, true), (7, true), (8, true)] (by kernel_rfl) (by kernel_rfl) ⟨e2, e3⟩ ?_
  clear e2 e3
  refine Mixed.mp rfl (.pointer (some ⟨D, 0, none⟩)) ?_
  refine Mixed.mp rfl (.pointer (some ⟨D, 0, none⟩)) ?_
  refine Mixed.mp rfl (.pointer (some ⟨D, 0, none⟩)) ?_
  refine Mixed.mo rfl (.string s) (fun w h => by obtain ⟨h1, h2⟩ := h; go_simp; try rfl) ?_
  refine Mixed.mp rfl (.pointer (some ⟨D, 0, none⟩)) ?_
  refine Mixed.mp rfl (.pointer (some ⟨D, 0, none⟩)) ?_
  refine Mixed.mp rfl (.pointer (some ⟨D, 1, none⟩)) ?_
  refine Mixed.mo rfl (.int .i64 (p : Int)) (fun w h => by obtain ⟨h1, h2⟩ := h; go_simp; try rfl) ?_
  refine Mixed.mo rfl (.string (s.extract p s.size)) (fun w h => by clear h; go_simp; try rfl) ?_
  simp only [Mixed.wpMix, List.drop_succ_cons, List.drop_zero]
  go_wp2
  go_ret
  exact ⟨rfl, below_dq (Below.refl _ _) 1⟩
set_option maxRecDepth 100000 in
set_option maxHeartbeats 1000000 in
theorem take_any {w0 : World} {D : Nat} {s : ByteArray} {w : World} {p z : Nat} (hs : s.size ≤ 100000) (hp : p + z ≤ s.size) (X : Lxr w0 D s w p) :
    Calls Tryd.prog 73 #[.pointer (some ⟨D, 0, none⟩), .int .i64 z] w fun e w' => e = .returned (.string (s.extract p (p + z))) ∧ Lxr w0 D s w' (p + z) ∧ LK D w w' := by
  have R := rest_any hs (by omega) X
  have E := Lib.hid (ext_ext s p z hp)
  have X0 := Lib.hid X
  have hz : (s.extract p s.size).size = s.size - p := by simp
  clear X
  go_enter Tryd.func73, Tryd.ntmps73
  go_wp2_with fail
  refine R.mono ?_
  rintro e w1 ⟨rfl, hb⟩
  have X1 := Lib.hid (X0.out.all hb)
  have K1 := Lib.hid (LK.of_below (D := D) hb)
  obtain ⟨e0, e1, e2⟩ := X1.out.cells
  have e3 := e2 1
  clear X0 hb e2
  go_wp2
  go_ret
  refine ⟨by rw [E.out]; rfl, ?_, K1.out.set 1 _⟩
  have := X1.out.set (p + z)
  rw [Int.natCast_add] at this
  exact this
set_option maxRecDepth 100000 in
set_option maxHeartbeats 1000000 in
theorem skip_any {w0 : World} {D : Nat} {s : ByteArray} {w : World} {p : Nat} (hs : s.size ≤ 100000) (hp : p ≤ s.size) (X : Lxr w0 D s w p) :
    Calls Tryd.prog 45 #[.pointer (some ⟨D, 0, none⟩)] w fun e w' => e = .returned (.tuple #[]) ∧ Lxr w0 D s w' (p + skN (rst s p)) ∧ LK D w w' := by
  have hl := rst_len s p
  have hk := sk_le (rst s p)
  obtain ⟨k, hkk⟩ : ∃ k, skN (rst s p) = k := ⟨_, rfl⟩
  have L1 : (Lt.trimLS [32, 9] (s.extract p s.size)).size = s.size - p - k := by
    have e := Lt.trimLS_list (s.extract p s.size)
    rw [ext_drop] at e
    have e2 := congrArg List.length e
    rw [List.length_drop, List.length_drop] at e2
    have e3 : (Lt.trimLS [32, 9] (s.extract p s.size)).data.toList.length = (Lt.trimLS [32, 9] (s.extract p s.size)).size := by simp
    have e4 : s.data.toList.length = s.size := by simp
    rw [e3, e4] at e2
    rw [e2, ← hkk]
    rfl
  rw [hkk] at hk ⊢
  rw [hl] at hk
  obtain ⟨t, ht⟩ : ∃ t, Lt.trimLS [32, 9] (s.extract p s.size) = t := ⟨_, rfl⟩
  rw [ht] at L1
  have XD : ∀ w', Below w.heap.size w w' → Lxr w0 D s w' p := fun w' h => X.all h
  have R := fun w' (h : Below w.heap.size w w') => rest_any hs hp (XD w' h)
  have T := fun w' => Lt.trimL_any (s.extract p s.size) (Nat.le_trans (extract_le s p s.size) (by unfold maxLen; omega)) w'
  rw [ht] at T
  have B0 : Below w.heap.size w w.drew := below_dq (Below.refl _ _) 1
  have R1 := Lib.hid R
  have T1 := Lib.hid T
  have XD1 := Lib.hid XD
  have B1 := Lib.hid B0
  clear R T XD B0 X ht hl hkk
  go_enter Tryd.func45, Tryd.ntmps45
  refine Mixed.wp_region_mixed (fun w' => Below w.heap.size w w') 11 [(0, true), (1, true), (2, true), (3, true), (4, true), (5, true), (6, true), (7, false), (8, false), (9, true), (10, true)] (by kernel_rfl) (by kernel_rfl) B1.out ?_
  refine Mixed.mp rfl (.pointer (some ⟨D, 0, none⟩)) ?_
  refine Mixed.mp rfl (.pointer (some ⟨D, 0, none⟩)) ?_
  refine Mixed.mp rfl (.pointer (some ⟨D, 0, none⟩)) ?_
  refine Mixed.mp rfl (.pointer (some ⟨D, 0, none⟩)) ?_
  refine Mixed.mo rfl (.string s) (fun w h => by obtain ⟨h1, h2, h3⟩ := (XD1.out w h).cells; clear h; go_simp; try rfl) ?_
  refine Mixed.mo rfl (.int .i64 (s.size : Int)) (fun w h => by clear h; go_simp; try rfl) ?_
  refine Mixed.mp rfl (.pointer (some ⟨D, 0, none⟩)) ?_
  refine Mixed.wpMix_loud rfl ?_
  go_wp2_with fail
  refine (R1.out _ B1.out).mono ?_
  rintro e w1 ⟨rfl, hb⟩
  have B2 := B1.out.trans (hb.mono (B1.out.size))
  have B3 := Lib.hid B2
  go_wp2
  refine ⟨B2, ?_⟩
  clear hb B2
  refine Mixed.wpMix_loud rfl ?_
  go_wp2_with fail
  refine (T1.out _).mono ?_
  rintro e w2 ⟨rfl, hb⟩
  have B4 := B3.out.trans (hb.mono (B3.out.size))
  have B5 := Lib.hid B4
  go_wp2
  refine ⟨B4, ?_⟩
  clear hb B4
  refine Mixed.mo rfl (.int .i64 (t.size : Int)) (fun w h => by clear h; go_simp; try rfl) ?_
  refine Mixed.mo rfl (.int .i64 ((p + k : Nat) : Int)) (fun w h => by clear h; go_simp; rw [IntKind.wrap_i64]; omega) ?_
  simp only [Mixed.wpMix, List.drop_succ_cons, List.drop_zero]
  have X5 := Lib.hid (XD1.out _ B5.out)
  obtain ⟨e0, e1, e2⟩ := X5.out.cells
  have e3 := e2 1
  clear e2
  go_wp2
  refine bodyPost_end (v := .tuple #[]) (by simp [results, Tryd.results45, go_sem]) rfl ⟨rfl, X5.out.set (p + k), (LK.of_below B5.out).set 1 _⟩
end Go.Proofs.YtcmcikcagpkocaaDoor
