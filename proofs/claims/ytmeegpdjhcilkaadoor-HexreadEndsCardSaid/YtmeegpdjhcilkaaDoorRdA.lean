/-
  Rows of strings and of integers that a call appends to; the walks over the reference's Split, trim and blank.
-/
import Derived.Test.YtmeegpdjhcilkaaDoorRdT
import Derived.Test.YtmeegpdjhcilkaaDoorRdS
import Derived.Test.YtmeegpdjhcilkaaDoorHexPa
namespace Go.Proofs.YtmeegpdjhcilkaaDoor
open Go.RowKit
set_option linter.unusedVariables false

def strV (s : ByteArray) : Value := .string s
def intV (z : Int) : Value := .int .i64 z
/-- The row of strings that the call itself appends to. -/
def OwnS (w wr : World) (v : Value) (ss : List ByteArray) : Prop := wr.ownsRow w.heap.size 9 1 v ss.length (ss.map strV) ∧ Below w.heap.size w wr
theorem ownS_start (w : World) : OwnS w w (.slice none 0 0) [] := ⟨World.ownsRow_nil _ _ _ _, Below.refl _ _⟩
theorem OwnS.below {w wr w' : World} {v : Value} {ss : List ByteArray} (h : OwnS w wr v ss) (k : Below wr.heap.size wr w') : OwnS w w' v ss :=
  ⟨h.1.kept (row := none) ⟨k.os, k.tape, k.output, k.size, fun i hi _ => k.block i hi⟩ (by
    rcases h.1.2 with ⟨h1, _⟩ | ⟨g, cap, cur, h1, _⟩
    · rw [h1]; exact .inl rfl
    · rw [h1]; exact .inr (by simp [Value.ownBlock])), h.2.trans (k.mono h.2.size)⟩
theorem wpList_appS {w wr : World} {v : Value} {xs : List ByteArray} (R : OwnS w wr v xs) {ops : Array Oper} {rest : List Oper} {o : Oper} {a : Act} {Q : Exit → Act → World → Prop} (hgd : o.guard = none) (s x : Operand)
    (ho : o.op = .call { callee := .builtin .append, args := #[s, x], argTypes := #[43, 43] }) (hs : a.eval s = v) (hx : a.eval x = .slice (some ⟨wr.heap.size, 0, none⟩) 1 1)
    (y : ByteArray) (hlen : xs.length < 1099511627776)
    (h : ∀ v' w1, OwnS w w1 v' (xs ++ [y]) → wpList Tryd.prog ops Q rest (a.put o.dst v') w1) : wpList Tryd.prog ops Q (o :: rest) a (wr.alloc (.cells #[.string y] 9)) := by
  obtain ⟨i0, hi, hz0, hz1, hz2⟩ := info_parts info_str
  have hB := R.2.size
  refine wpList_append_own _ hgd s x 43 ho w.heap.size 9 i0 _ 1 16 Tryd.underlying43 hi hz0 hz1 hz2 rfl (by decide) v xs.length _ hs (R.1.alloc _) ⟨wr.heap.size, 0, none⟩ 1 1 [.string y] hx rfl ?_ ?_ ?_ ?_ ?_ ?_
  · intro j u hj
    match j, hj with
    | 0, hj => simp at hj; subst hj; simp [Addr.add, go_sem]
  · intro u hu; simp at hu; subst hu; rfl
  · unfold maxLen; omega
  · omega
  · simp; omega
  · intro v' w1 hown' hgrow _
    refine h v' w1 ⟨?_, (R.2.alloc R.2.size _).grown hgrow (by simp; omega) (fun j hj => (R.1.lt j hj).1)⟩
    simpa [strV] using hown'
theorem OwnS.strs {w wr : World} {v : Value} {ss : List ByteArray} (h : OwnS w wr v ss) : ∃ A cap, v = .slice A ss.length cap ∧ ss.length ≤ cap ∧ StrsP (w.heap.size ≤ ·) wr A ss := by
  rcases h.1.2 with ⟨rfl, h0⟩ | ⟨g, cap, cur, rfl, hb, hg, hnc, _⟩
  · have : ss = [] := List.eq_nil_of_length_eq_zero h0
    subst this
    exact ⟨none, 0, rfl, Nat.le_refl _, .inl rfl⟩
  · refine ⟨_, cap, rfl, hnc, .inr ⟨g, 0, rfl, hb, fun j hj => ?_⟩⟩
    rw [Nat.zero_add, h.1.cellAt j (by omega)]
    simp [List.getElem?_eq_getElem hj, strV]
/-- The row of integers that the call itself appends to. -/
theorem info_int : (Tryd.prog.info? 3).map (fun i => (i.zero, i.size, i.bytes)) = some (some (.int .i64 0), 1, 8) := by kernel_rfl
def OwnI (w wr : World) (v : Value) (zs : List Int) : Prop := wr.ownsRow w.heap.size 3 1 v zs.length (zs.map intV) ∧ Below w.heap.size w wr
theorem ownI_start (w : World) : OwnI w w (.slice none 0 0) [] := ⟨World.ownsRow_nil _ _ _ _, Below.refl _ _⟩
theorem OwnI.below {w wr w' : World} {v : Value} {zs : List Int} (h : OwnI w wr v zs) (k : Below wr.heap.size wr w') : OwnI w w' v zs :=
  ⟨h.1.kept (row := none) ⟨k.os, k.tape, k.output, k.size, fun i hi _ => k.block i hi⟩ (by
    rcases h.1.2 with ⟨h1, _⟩ | ⟨g, cap, cur, h1, _⟩
    · rw [h1]; exact .inl rfl
    · rw [h1]; exact .inr (by simp [Value.ownBlock])), h.2.trans (k.mono h.2.size)⟩
theorem wpList_appI {w wr : World} {v : Value} {xs : List Int} (R : OwnI w wr v xs) {ops : Array Oper} {rest : List Oper} {o : Oper} {a : Act} {Q : Exit → Act → World → Prop} (hgd : o.guard = none) (s x : Operand)
    (ho : o.op = .call { callee := .builtin .append, args := #[s, x], argTypes := #[53, 53] }) (hs : a.eval s = v) (hx : a.eval x = .slice (some ⟨wr.heap.size, 0, none⟩) 1 1)
    (y : Int) (hlen : xs.length < 1099511627776)
    (h : ∀ v' w1, OwnI w w1 v' (xs ++ [y]) → wpList Tryd.prog ops Q rest (a.put o.dst v') w1) : wpList Tryd.prog ops Q (o :: rest) a (wr.alloc (.cells #[.int .i64 y] 3)) := by
  obtain ⟨i0, hi, hz0, hz1, hz2⟩ := info_parts info_int
  have hB := R.2.size
  refine wpList_append_own _ hgd s x 53 ho w.heap.size 3 i0 _ 1 8 Tryd.underlying53 hi hz0 hz1 hz2 rfl (by decide) v xs.length _ hs (R.1.alloc _) ⟨wr.heap.size, 0, none⟩ 1 1 [.int .i64 y] hx rfl ?_ ?_ ?_ ?_ ?_ ?_
  · intro j u hj
    match j, hj with
    | 0, hj => simp at hj; subst hj; simp [Addr.add, go_sem]
  · intro u hu; simp at hu; subst hu; rfl
  · unfold maxLen; omega
  · omega
  · simp; omega
  · intro v' w1 hown' hgrow _
    refine h v' w1 ⟨?_, (R.2.alloc R.2.size _).grown hgrow (by simp; omega) (fun j hj => (R.1.lt j hj).1)⟩
    simpa [intV] using hown'
theorem OwnI.ints {w wr : World} {v : Value} {zs : List Int} (h : OwnI w wr v zs) : ∃ A cap, v = .slice A zs.length cap ∧ zs.length ≤ cap ∧ IntsAt wr A zs := by
  rcases h.1.2 with ⟨rfl, h0⟩ | ⟨g, cap, cur, rfl, hb, hg, hnc, _⟩
  · have : zs = [] := List.eq_nil_of_length_eq_zero h0
    subst this
    exact ⟨none, 0, rfl, Nat.le_refl _, .inl rfl⟩
  · refine ⟨_, cap, rfl, hnc, .inr ⟨g, 0, rfl, fun j hj => ?_⟩⟩
    rw [Nat.zero_add, h.1.cellAt j (by omega)]
    simp [List.getElem?_eq_getElem hj, intV]

/-! ### Split -/
def RetStrs (w : World) (ss : List ByteArray) (e : Ending) (w' : World) : Prop := ∃ A cap, e = .returned (.slice A ss.length cap) ∧ ss.length ≤ cap ∧ StrsP (w.heap.size ≤ ·) w' A ss ∧ Below w.heap.size w w'
theorem OwnS.ret {w wr : World} {v : Value} {ss : List ByteArray} (h : OwnS w wr v ss) : RetStrs w ss (.returned v) wr := by
  obtain ⟨A, cap, rfl, h1, h2⟩ := h.strs
  exact ⟨A, cap, rfl, h1, h2, h.2⟩
/-- The first i bytes: lines, and the beginning of the next one. -/
def Sp5 (x : List UInt8) (i f : Nat) (ss : List ByteArray) : Prop := ∃ l t, x.take i = joinL l ++ t ∧ (∀ y ∈ l, NoLf y) ∧ NoLf t ∧ ss = l.map strOf ∧ f = (joinL l).length
theorem Sp5.piece {x : List UInt8} {i f : Nat} {ss : List ByteArray} (h : Sp5 x i f ss) (hi : i ≤ x.length) : f ≤ i ∧ ss.length ≤ i ∧ ∃ t, NoLf t ∧ (strOf x).extract f i = strOf t ∧ ∀ l, ss = l.map strOf → x.take i = joinL l ++ t := by
  obtain ⟨l, t, h1, h2, h3, rfl, rfl⟩ := h
  have hl := congrArg List.length h1
  rw [List.length_take, List.length_append] at hl
  have hc := joinL_count l
  refine ⟨by omega, by rw [List.length_map]; omega, t, h3, ?_, fun m hm => ?_⟩
  · apply bytes_ext
    rw [Lib.extract_data, strOf_list, strOf_list]
    have e : (x.drop (joinL l).length).take (i - (joinL l).length) = (x.take i).drop (joinL l).length := by rw [List.drop_take]
    rw [e, h1]
    simp
  · have e : l = m := by
      have := List.map_inj_right (f := strOf) (fun _ _ h => strOf_inj h) |>.1 hm
      exact this
    rw [← e, h1]
set_option maxRecDepth 100000 in
set_option maxHeartbeats 4000000 in
theorem rsplit5_any (x : List UInt8) (hx : x.length ≤ 40000000) (w : World) :
    Calls Tryd.prog 88 #[.string (strOf x)] w (RetStrs w ((linesOf x).map strOf)) := by
  obtain ⟨s, hs, hsz, hat⟩ : ∃ s, strOf x = s ∧ s.size = x.length ∧ ∀ i (h : i < x.length) (h' : i < s.size), s[i] = x[i] := ⟨_, rfl, strOf_size x, fun i h h' => by
    have h1 : (strOf x).data[i]'h' = x[i] := by simp only [strOf, List.getElem_toArray]; rfl
    exact h1⟩
  have SS := Lib.hid hs
  have HAT := Lib.hid hat
  have hsb : s.size ≤ 40000000 := by omega
  have SZ := Lib.hid hsz
  rw [hs]
  clear hs hat hsz hx
  go_enter Tryd.func88, Tryd.ntmps88
  go_wp2
  go_loopw [3, 4, 5] (fun ov fv iv wr => (∃ (i f : Nat) (ss : List ByteArray), i ≤ s.size ∧ f ≤ i ∧ iv = .int .i64 i ∧ fv = .int .i64 f ∧ Hid (Sp5 x i f ss) ∧ Hid (OwnS w wr ov ss)) ∨ (iv = .int .i64 (s.size + 1 : Nat) ∧ Hid (OwnS w wr ov ((linesOf x).map strOf)))) (fun _ _ iv _ => s.size + 1 - (intOf iv).toNat)
  case atStart => exact .inl ⟨0, 0, [], Nat.zero_le _, Nat.le_refl _, rfl, rfl, ⟨[], [], rfl, fun y hy => (by cases hy), fun c hc => (by cases hc), rfl, rfl⟩, ownS_start w⟩
  case round =>
    rcases hrel with ⟨i, f, ss, hi, hf, rfl, rfl, P, O⟩ | ⟨rfl, O⟩
    · obtain ⟨-, hsl, t, ht, hx1, hx2⟩ := P.out.piece (by rw [← SZ.out]; exact hi)
      rw [SS.out] at hx1
      by_cases hlt : i < s.size
      · have hix : i < x.length := by rw [← SZ.out]; exact hlt
        have hc := HAT.out i hix hlt
        have htk := List.take_succ_eq_append_getElem hix
        by_cases h10 : s[i] = 10
        · have P2 : Hid (Sp5 x (i + 1) (i + 1) (ss ++ [strOf t])) := by
            obtain ⟨l, t', g1, g2, g3, rfl, rfl⟩ := P.out
            have e : joinL l ++ t = joinL l ++ t' := (hx2 l rfl).symm.trans g1
            have e2 : t = t' := List.append_cancel_left e
            subst e2
            refine ⟨l ++ [t], [], ?_, fun y hy => ?_, fun c hc => (by cases hc), by simp, ?_⟩
            · rw [htk, g1, ← hc, h10, joinL_append, joinL_one]; simp
            · rcases List.mem_append.1 hy with hy | hy
              · exact g2 y hy
              · simp at hy; subst hy; exact g3
            · have hl := congrArg List.length g1
              rw [List.length_take, List.length_append] at hl
              rw [joinL_append, joinL_one, List.length_append, List.length_append]
              simp
              omega
          have hv : ((s[i].toNat : Int) == 10) = true := by rw [h10]; rfl
          have hne : ((i : Int) == (s.size : Int)) = false := beq_eq_false_iff_ne.2 (by omega)
          have X1 := Lib.hid hx1
          clear hc htk h10 hx2 hx1 ht hix
          go_wp2_with (at_builtin; refine wpList_appS O.out rfl _ _ rfl rfl rfl (s.extract f i) (by omega) ?_; intro v' w1 hown')
          have N := Lib.hid hown'
          clear hown'
          go_wp2
          go_roundw
          case rel => exact .inl ⟨i + 1, i + 1, ss ++ [strOf t], by omega, Nat.le_refl _, by go_num, by go_num, P2.out, by rw [← X1.out]; exact N.out⟩
          case measure => simp [intOf]; omega
        · have P2 : Hid (Sp5 x (i + 1) f ss) := by
            obtain ⟨l, t', g1, g2, g3, rfl, rfl⟩ := P.out
            refine ⟨l, t' ++ [x[i]], ?_, g2, fun c hc' => ?_, rfl, rfl⟩
            · rw [htk, g1, List.append_assoc]
            · rcases List.mem_append.1 hc' with h | h
              · exact g3 c h
              · simp at h; subst h; rw [← hc]; exact h10
          have hv : ((s[i].toNat : Int) == 10) = false := beq_eq_false_iff_ne.2 fun h => h10 (UInt8.toNat_inj.1 (by have : ((10 : UInt8).toNat : Int) = 10 := rfl; omega))
          have hne : ((i : Int) == (s.size : Int)) = false := beq_eq_false_iff_ne.2 (by omega)
          clear hc htk h10 hx2 hx1 ht hix
          go_wp2
          go_roundw
          case rel => exact .inl ⟨i + 1, f, ss, by omega, by omega, by go_num, rfl, P2.out, O.out⟩
          case measure => simp [intOf]; omega
      · have hie : i = s.size := by omega
        have E : Hid (ss ++ [strOf t] = (linesOf x).map strOf) := by
          obtain ⟨l, t', g1, g2, g3, rfl, rfl⟩ := P.out
          have e0 := hx2 l rfl
          rw [List.take_of_length_le (by rw [← SZ.out]; omega)] at e0
          show l.map strOf ++ [strOf t] = _
          rw [e0, linesOf_join g2, linesOf_noLf ht]
          simp
        have X1 := Lib.hid hx1
        have hne : ((i : Int) == (s.size : Int)) = true := beq_iff_eq.2 (by omega)
        have HIE := Lib.hid hie
        clear hx2 hx1 ht hie hlt
        go_wp2_with (at_builtin; refine wpList_appS O.out rfl _ _ rfl rfl rfl (s.extract f i) (by omega) ?_; intro v' w1 hown')
        have N : Hid (OwnS w w1 v' ((linesOf x).map strOf)) := by show OwnS _ _ _ _; rw [← E.out, ← X1.out]; exact hown'
        clear hown'
        go_wp2
        go_roundw
        case rel => exact .inr ⟨by rw [HIE.out]; go_num, N.out⟩
        case measure => have := HIE.out; simp [intOf]; omega
    · have hlt' : decide (((s.size + 1 : Nat) : Int) ≤ (s.size : Int)) = false := decide_eq_false (by omega)
      go_wp2
      go_ret
      exact O.out.ret
end Go.Proofs.YtmeegpdjhcilkaaDoor
