/-
  The block of a token; a lexer's readers of the end, of words and of numbers.
-/
import Derived.Test.YtcmcikcagpkocaaDoorLxH
import Derived.Test.YtcmcikcagpkocaaDoorLxI
import Derived.Test.YtcmcikcagpkocaaDoorNumE
import Derived.Test.YtcmcikcagpkocaaDoorFr
namespace Go.Proofs.YtcmcikcagpkocaaDoor
open Go.RowKit
set_option linter.unusedVariables false
attribute [local go_sem] Oper.semAt_some

/-- Block b is a token. -/
structure TkB (e : TypeId) (w : World) (b : Nat) (k : Int) (t : ByteArray) (n p : Int) : Prop where
  blk : w.heap[b]? = some (.cells #[.int .i64 k, .string t, .int .i64 n, .int .i64 p] e (0, 0))
section
variable {e : TypeId} {w w' : World} {b : Nat} {k : Int} {t : ByteArray} {n p : Int}
theorem TkB.lt (h : TkB e w b k t n p) : b < w.heap.size := (Array.getElem?_eq_some_iff.1 h.blk).1
theorem TkB.all (h : TkB e w b k t n p) (hb : Below w.heap.size w w') : TkB e w' b k t n p := ⟨(hb.block b h.lt).trans h.blk⟩
theorem TkB.lk {D : Nat} (h : TkB e w b k t n p) (K : LK D w w') (hD : b ≠ D) : TkB e w' b k t n p := ⟨(K.same b h.lt hD).trans h.blk⟩
theorem TkB.cells (h : TkB e w b k t n p) : w.cell? ⟨b, 0, none⟩ = some (.int .i64 k) ∧ w.cell? ⟨b, 1, none⟩ = some (.string t) ∧ w.cell? ⟨b, 2, none⟩ = some (.int .i64 n) ∧ w.cell? ⟨b, 3, none⟩ = some (.int .i64 p) ∧ ∀ i, w.frozen? ⟨b, i, none⟩ = false :=
  ⟨Lib.cell_of_heap h.blk 0, Lib.cell_of_heap h.blk 1, Lib.cell_of_heap h.blk 2, Lib.cell_of_heap h.blk 3, fun i => Lib.frozen_of_heap h.blk i⟩
theorem TkB.put (h : TkB e w b k t n p) (k' : Int) (t' : ByteArray) (n' p' : Int) :
    ∃ w', (((w.setCell ⟨b, 0, none⟩ (.int .i64 k')).setCell ⟨b, 1, none⟩ (.string t')).setCell ⟨b, 2, none⟩ (.int .i64 n')).setCell ⟨b, 3, none⟩ (.int .i64 p') = w' ∧ TkB e w' b k' t' n' p' ∧ Below b w w' ∧ w'.heap.size = w.heap.size ∧ ∀ j, j ≠ b → w'.heap[j]? = w.heap[j]? := by
  refine ⟨_, rfl, ⟨?_⟩, ?_, by simp, fun j hj => ?_⟩
  · exact heap_setCell_same _ b 3 _ _ _ (heap_setCell_same _ b 2 _ _ _ (heap_setCell_same _ b 1 _ _ _ (heap_setCell_same w b 0 _ _ (.int .i64 k') h.blk)))
  · exact ((((Below.refl b w).setCell (p := ⟨b, 0, none⟩) (Nat.le_refl _) _).setCell (p := ⟨b, 1, none⟩) (Nat.le_refl _) _).setCell (p := ⟨b, 2, none⟩) (Nat.le_refl _) _).setCell (p := ⟨b, 3, none⟩) (Nat.le_refl _) _
  · exact (heap_setCell_other _ ⟨b, 3, none⟩ j _ hj).trans ((heap_setCell_other _ ⟨b, 2, none⟩ j _ hj).trans ((heap_setCell_other _ ⟨b, 1, none⟩ j _ hj).trans (heap_setCell_other _ ⟨b, 0, none⟩ j _ hj)))
theorem TkB.put3 (h : TkB e w b k t n p) (p' : Int) :
    ∃ w', w.setCell ⟨b, 3, none⟩ (.int .i64 p') = w' ∧ TkB e w' b k t n p' ∧ Below b w w' ∧ w'.heap.size = w.heap.size ∧ ∀ j, j ≠ b → w'.heap[j]? = w.heap[j]? :=
  ⟨_, rfl, ⟨heap_setCell_same w b 3 _ _ (.int .i64 p') h.blk⟩, (Below.refl b w).setCell (p := ⟨b, 3, none⟩) (Nat.le_refl _) _, by simp, fun j hj => heap_setCell_other _ ⟨b, 3, none⟩ j _ hj⟩
/-- A token in a new block. -/
theorem tk_start (e : TypeId) (w : World) (n : Nat) (hn : w.heap.size = n) (k : Int) (t : ByteArray) (x p : Int) : ∃ w1, w.alloc (.cells #[.int .i64 k, .string t, .int .i64 x, .int .i64 p] e) = w1 ∧ TkB e w1 n k t x p ∧ Below w.heap.size w w1 ∧ w1.heap.size = n + 1 := by
  subst hn
  exact ⟨_, rfl, ⟨World.alloc_heap_new w _⟩, (Below.refl _ w).alloc (Nat.le_refl _) _, by simp⟩
end
/-- A reader returns a token (without its place) and a code, and leaves the lexer at q. -/
def Rd (w0 : World) (D : Nat) (s : ByteArray) (w : World) (e : Ending) (w' : World) (c k : Int) (t : List UInt8) (n : Int) (q : Nat) : Prop :=
  e = .returned (.tuple #[.agg #[.int .i64 k, .string (sOf t), .int .i64 n, .int .i64 0], .int .i64 c]) ∧ Lxr w0 D s w' q ∧ LK D w w'
/-- The result is stored. -/
theorem rd_put {w0 w w2 : World} {D n q : Nat} {s : ByteArray} {e : TypeId} {k0 n0 p0 : Int} {t0 : ByteArray} (T : TkB e w2 n k0 t0 n0 p0) (X : Lxr w0 D s w2 q) (K : LK D w w2) (hn : w.heap.size = n) (hD : D < n) (k : Int) (t : ByteArray) (x p : Int) :
    ∃ w', (((w2.setCell ⟨n, 0, none⟩ (.int .i64 k)).setCell ⟨n, 1, none⟩ (.string t)).setCell ⟨n, 2, none⟩ (.int .i64 x)).setCell ⟨n, 3, none⟩ (.int .i64 p) = w' ∧ TkB e w' n k t x p ∧ Lxr w0 D s w' q ∧ LK D w w' := by
  obtain ⟨w', h1, h2, h3, h4, h5⟩ := T.put k t x p
  exact ⟨w', h1, h2, ⟨(h5 D (by omega)).trans X.blk, X.bel.trans (h3.mono (Nat.le_of_lt hD))⟩, ⟨by rw [h4]; exact K.size, fun j hj hd => (h5 j (by omega)).trans (K.same j hj hd)⟩⟩
def endB (l : List UInt8) : Bool := l.isEmpty || l.head? == some 59
set_option maxRecDepth 100000 in
set_option maxHeartbeats 1000000 in
theorem end_any {w0 : World} {D : Nat} {s : ByteArray} {w : World} {p : Nat} (hs : s.size ≤ 100000) (hp : p ≤ s.size) (X : Lxr w0 D s w p) :
    Calls Tryd.prog 46 #[.pointer (some ⟨D, 0, none⟩)] w fun e w' =>
      (endB (rst s p) = true ∧ Rd w0 D s w e w' 0 0 [] 0 p) ∨ (endB (rst s p) = false ∧ Rd w0 D s w e w' 20 0 [] 0 p) := by
  obtain ⟨n, hn⟩ : ∃ z, w.heap.size = z := ⟨_, rfl⟩
  have hD : D < n := by rw [← hn]; exact X.lt
  obtain ⟨w1, hw1, T1, y1, z1⟩ := tk_start 33 w n hn 0 ⟨#[]⟩ 0 0
  have X1 := X.all y1
  have R := Lib.hid (rest_any hs hp X1)
  have X2 := Lib.hid X1
  have T2 := Lib.hid T1
  have Y1 := Lib.hid y1
  have HN := Lib.hid hn
  have E : Hid (endB (rst s p) = (((s.extract p s.size).toList.isEmpty) || (s.extract p s.size).data.toList.head? == some 59)) := by
    show endB _ = _
    unfold endB rst
    rw [ByteArray.toList_eq, ext_drop]
  obtain ⟨r, hr⟩ : ∃ r, s.extract p s.size = r := ⟨_, rfl⟩
  rw [hr] at E R
  clear X X1 T1 y1 hr
  go_enter Tryd.func46, Tryd.ntmps46
  go_wp2_with fail
  refine R.out.mono ?_
  rintro e w3 ⟨rfl, hb⟩
  have X3 := X2.out.all hb
  have T3 := T2.out.all hb
  have K3 : LK D w w3 := LK.of_below (Y1.out.trans (hb.mono (by rw [z1, HN.out]; omega)))
  cases he : r.toList.isEmpty
  case true =>
    obtain ⟨w4, hw4, T4, X4, K4⟩ := rd_put T3 X3 K3 HN.out hD 0 ⟨#[]⟩ 0 0
    obtain ⟨g0, g1, g2, g3, -⟩ := T4.cells
    obtain ⟨q0, q1, q2, q3, qf⟩ := T3.cells
    have F : Hid ((endB (rst s p) = true ∧ Rd w0 D s w (.returned (.tuple #[.agg #[.int .i64 0, .string (sOf []), .int .i64 0, .int .i64 0], .int .i64 0])) w4 0 0 [] 0 p) ∨ (endB (rst s p) = false ∧ Rd w0 D s w (.returned (.tuple #[.agg #[.int .i64 0, .string (sOf []), .int .i64 0, .int .i64 0], .int .i64 0])) w4 20 0 [] 0 p)) := .inl ⟨by rw [E.out, he]; rfl, rfl, X4, K4⟩
    clear X3 T3 K3 T4 X4 K4 E R X2 T2 Y1 hb
    go_wp2
    refine bodyPost_ret (v := .tuple #[.agg #[.int .i64 0, .string (sOf []), .int .i64 0, .int .i64 0], .int .i64 0]) ?_ rfl F.out
    simp [results, Tryd.results46, go_sem, g0, g1, g2, g3]
    rfl
  case false =>
    obtain ⟨h0, r', e', -⟩ := bz_not he
    obtain ⟨c, hc⟩ : ∃ c : Int, ((r[0]).toNat : Int) = c := ⟨_, rfl⟩
    have E2 : endB (rst s p) = decide (c = 59) := by
      rw [E.out, he, e', Bool.false_or, ← hc, Bool.eq_iff_iff]
      simp
      constructor
      · intro h; rw [h]; rfl
      · intro h; exact UInt8.toNat_inj.1 (by have e9 : (59 : UInt8).toNat = 59 := rfl
                                             omega)
    by_cases h59 : c = 59
    · obtain ⟨w4, hw4, T4, X4, K4⟩ := rd_put T3 X3 K3 HN.out hD 0 ⟨#[]⟩ 0 0
      obtain ⟨g0, g1, g2, g3, -⟩ := T4.cells
      obtain ⟨q0, q1, q2, q3, qf⟩ := T3.cells
      have F : Hid ((endB (rst s p) = true ∧ Rd w0 D s w (.returned (.tuple #[.agg #[.int .i64 0, .string (sOf []), .int .i64 0, .int .i64 0], .int .i64 0])) w4 0 0 [] 0 p) ∨ (endB (rst s p) = false ∧ Rd w0 D s w (.returned (.tuple #[.agg #[.int .i64 0, .string (sOf []), .int .i64 0, .int .i64 0], .int .i64 0])) w4 20 0 [] 0 p)) := .inl ⟨by rw [E2]; exact decide_eq_true h59, rfl, X4, K4⟩
      have k1 : (c != 59) = false := by rw [h59]; rfl
      clear X3 T3 K3 T4 X4 K4 E R X2 T2 Y1 hb E2 h59 e'
      go_wp2
      refine bodyPost_ret (v := .tuple #[.agg #[.int .i64 0, .string (sOf []), .int .i64 0, .int .i64 0], .int .i64 0]) ?_ rfl F.out
      simp [results, Tryd.results46, go_sem, g0, g1, g2, g3]
      rfl
    · obtain ⟨w4, hw4, T4, X4, K4⟩ := rd_put T3 X3 K3 HN.out hD 0 ⟨#[]⟩ 0 0
      obtain ⟨g0, g1, g2, g3, -⟩ := T4.cells
      obtain ⟨q0, q1, q2, q3, qf⟩ := T3.cells
      have F : Hid ((endB (rst s p) = true ∧ Rd w0 D s w (.returned (.tuple #[.agg #[.int .i64 0, .string (sOf []), .int .i64 0, .int .i64 0], .int .i64 20])) w4 0 0 [] 0 p) ∨ (endB (rst s p) = false ∧ Rd w0 D s w (.returned (.tuple #[.agg #[.int .i64 0, .string (sOf []), .int .i64 0, .int .i64 0], .int .i64 20])) w4 20 0 [] 0 p)) := .inr ⟨by rw [E2]; exact decide_eq_false h59, rfl, X4, K4⟩
      have k1 : (c != 59) = true := bne_iff_ne.2 h59
      clear X3 T3 K3 T4 X4 K4 E R X2 T2 Y1 hb E2 h59 e'
      go_wp2
      refine bodyPost_ret (v := .tuple #[.agg #[.int .i64 0, .string (sOf []), .int .i64 0, .int .i64 0], .int .i64 20]) ?_ rfl F.out
      simp [results, Tryd.results46, go_sem, g0, g1, g2, g3]
      rfl
set_option maxRecDepth 100000 in
set_option maxHeartbeats 1000000 in
theorem word_any {w0 : World} {D : Nat} {s : ByteArray} {w : World} {p : Nat} (hs : s.size ≤ 100000) (hp : p ≤ s.size) (X : Lxr w0 D s w p) :
    Calls Tryd.prog 47 #[.pointer (some ⟨D, 0, none⟩)] w fun e w' =>
      (0 < wordN (rst s p) ∧ Rd w0 D s w e w' 0 1 ((rst s p).take (wordN (rst s p))) 0 (p + wordN (rst s p))) ∨ (wordN (rst s p) = 0 ∧ Rd w0 D s w e w' 20 0 [] 0 p) := by
  obtain ⟨n, hn⟩ : ∃ z, w.heap.size = z := ⟨_, rfl⟩
  have hD : D < n := by rw [← hn]; exact X.lt
  obtain ⟨w1, hw1, T1, y1, z1⟩ := tk_start 33 w n hn 0 ⟨#[]⟩ 0 0
  have X1 := X.all y1
  have R := Lib.hid (rest_any hs hp X1)
  have X2 := Lib.hid X1
  have T2 := Lib.hid T1
  have Y1 := Lib.hid y1
  have HN := Lib.hid hn
  have W := fun w => wordSize_any (s.extract p s.size) (Nat.le_trans (extract_le s p s.size) hs) w
  rw [ext_drop] at W
  have hz := word_le (rst s p)
  rw [rst_len] at hz
  have e1 : s.extract p (p + wordN (rst s p)) = sOf ((rst s p).take (wordN (rst s p))) := sOf_ext s p _
  have W' : ∀ w, Calls Tryd.prog 34 #[.string (s.extract p s.size)] w fun e w' => e = .returned (.int .i64 (wordN (rst s p) : Nat)) ∧ Below w.heap.size w w' := W
  obtain ⟨z, hzz⟩ : ∃ z, wordN (rst s p) = z := ⟨_, rfl⟩
  rw [hzz] at W' hz e1 ⊢
  have W1 := Lib.hid W'
  have E1 := Lib.hid e1
  have HS := Lib.hid hs
  have TK := fun w' (X' : Lxr w0 D s w' p) => take_any (z := z) hs (by omega) X'
  have TK1 := Lib.hid TK
  clear X X1 T1 y1 W W' e1 hzz TK
  go_enter Tryd.func47, Tryd.ntmps47
  go_wp2_with fail
  refine R.out.mono ?_
  rintro e w2 ⟨rfl, hb⟩
  have X3 := Lib.hid (X2.out.all hb)
  have T3 := Lib.hid (T2.out.all hb)
  have Y3 : Hid (Below n w w2) := (Y1.out.trans (hb.mono (by rw [z1, HN.out]; omega))).mono (by rw [HN.out]; omega)
  have z2 := hb.size
  clear hb R X2 T2 Y1
  go_wp2_with fail
  refine (W1.out w2).mono ?_
  rintro e w3 ⟨rfl, hb⟩
  have X4 := X3.out.all hb
  have T4 := T3.out.all hb
  have Y4 : Below n w w3 := Y3.out.trans (hb.mono (by omega))
  have K4 : LK D w w3 := LK.of_below (by rw [HN.out]; exact Y4)
  clear hb X3 T3 Y3 W1
  by_cases h0 : z = 0
  · obtain ⟨w4, hw4, T5, X5, K5⟩ := rd_put T4 X4 K4 HN.out hD 0 ⟨#[]⟩ 0 0
    obtain ⟨g0, g1, g2, g3, -⟩ := T5.cells
    obtain ⟨q0, q1, q2, q3, qf⟩ := T4.cells
    have F : Hid ((0 < z ∧ Rd w0 D s w (.returned (.tuple #[.agg #[.int .i64 0, .string (sOf []), .int .i64 0, .int .i64 0], .int .i64 20])) w4 0 1 ((rst s p).take z) 0 (p + z)) ∨ (z = 0 ∧ Rd w0 D s w (.returned (.tuple #[.agg #[.int .i64 0, .string (sOf []), .int .i64 0, .int .i64 0], .int .i64 20])) w4 20 0 [] 0 p)) := .inr ⟨h0, rfl, X5, K5⟩
    have k1 : ((z : Int) == 0) = true := by rw [h0]; rfl
    clear X4 T4 K4 T5 X5 K5 Y4 h0 E1
    go_wp2
    refine bodyPost_ret (v := .tuple #[.agg #[.int .i64 0, .string (sOf []), .int .i64 0, .int .i64 0], .int .i64 20]) ?_ rfl F.out
    simp [results, Tryd.results47, go_sem, g0, g1, g2, g3]
    rfl
  · have k1 : ((z : Int) == 0) = false := beq_eq_false_iff_ne.2 (by omega)
    have TT := TK1.out w3 X4
    rw [E1.out] at TT
    have T5 := Lib.hid T4
    have K5 := Lib.hid K4
    clear X4 T4 K4 Y4 E1 TK1
    go_wp2_with fail
    refine TT.mono ?_
    rintro e w4 ⟨rfl, X6, K6⟩
    have T6 := T5.out.lk K6 (by omega)
    obtain ⟨w5, hw5, T7, X7, K7⟩ := rd_put T6 X6 (K5.out.trans K6) HN.out hD 1 (sOf ((rst s p).take z)) 0 0
    obtain ⟨g0, g1, g2, g3, -⟩ := T7.cells
    obtain ⟨q0, q1, q2, q3, qf⟩ := T6.cells
    have F : Hid ((0 < z ∧ Rd w0 D s w (.returned (.tuple #[.agg #[.int .i64 1, .string (sOf ((rst s p).take z)), .int .i64 0, .int .i64 0], .int .i64 0])) w5 0 1 ((rst s p).take z) 0 (p + z)) ∨ (z = 0 ∧ Rd w0 D s w (.returned (.tuple #[.agg #[.int .i64 1, .string (sOf ((rst s p).take z)), .int .i64 0, .int .i64 0], .int .i64 0])) w5 20 0 [] 0 p)) := .inl ⟨by omega, rfl, X7, K7⟩
    clear T5 K5 T6 X6 K6 T7 X7 K7 TT
    go_wp2
    refine bodyPost_ret (v := .tuple #[.agg #[.int .i64 1, .string (sOf ((rst s p).take z)), .int .i64 0, .int .i64 0], .int .i64 0]) ?_ rfl F.out
    simp [results, Tryd.results47, go_sem, g0, g1, g2, g3]
end Go.Proofs.YtcmcikcagpkocaaDoor
