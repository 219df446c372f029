/-
  The walks over Numbers, by both texts; whether rows of numbers are equal.
-/
import Derived.Test.YthpaamekpfhkjaaDoorInC
namespace Go.Proofs.YthpaamekpfhkjaaDoor
open Go.RowKit
set_option linter.unusedVariables false

/-! ### Rows of numbers -/
def i64V (n : Int) : Value := .int .i64 n
theorem info_intD : (Tryd.prog.info? 3).map (fun i => (i.zero, i.size, i.bytes)) = some (some (.int .i64 0), 1, 8) := by kernel_rfl
/-- A row of numbers of the call's own; below the start all is as it was. -/
def OwnI (w wr : World) (v : Value) (xs : List Int) : Prop := wr.ownsRow w.heap.size 3 1 v xs.length (xs.map i64V) ∧ Below w.heap.size w wr
theorem below_row {w w' : World} {n : Nat} {e : TypeId} {s k : Nat} {v : Value} {xs : List Value} (h : w.ownsRow n e s v k xs) (b : Below w.heap.size w w') : w'.ownsRow n e s v k xs :=
  World.ownsRow.kept h (row := none) ⟨b.os, b.tape, b.output, b.size, fun i hi _ => b.block i hi⟩ (by
    cases e : v.ownBlock with
    | none => exact .inl rfl
    | some g => exact .inr (by simp))
theorem OwnI.below {w wr w' : World} {v : Value} {xs : List Int} (h : OwnI w wr v xs) (k : Below wr.heap.size wr w') : OwnI w w' v xs := ⟨below_row h.1 k, h.2.trans (k.mono h.2.size)⟩
theorem OwnI.start (w wr : World) (h : Below w.heap.size w wr) : OwnI w wr (.slice none 0 0) [] := ⟨World.ownsRow_nil _ _ _ _, h⟩
theorem OwnI.ints {w wr : World} {v : Value} {xs : List Int} (h : OwnI w wr v xs) : ∃ A cap, v = .slice A xs.length cap ∧ IntsAt wr A xs ∧ xs.length ≤ cap := by
  rcases h.1.2 with ⟨rfl, h0⟩ | ⟨g, cap, cur, rfl, _, _, hle, _⟩
  · have : xs = [] := List.eq_nil_of_length_eq_zero h0
    subst this
    exact ⟨none, 0, rfl, .inl rfl, Nat.le_refl _⟩
  · refine ⟨_, cap, rfl, .inr ⟨g, 0, rfl, fun j hj => ?_⟩, hle⟩
    rw [Nat.zero_add, h.1.cellAt j (by omega)]
    simp [i64V, List.getElem?_eq_getElem hj]
theorem row_mono {w : World} {base base' : Nat} {e : TypeId} {size : Nat} {v : Value} {n : Nat} {xs : List Value} (h : w.ownsRow base e size v n xs) (hb : base' ≤ base) : w.ownsRow base' e size v n xs := by
  refine ⟨h.1, ?_⟩
  rcases h.2 with h2 | ⟨g, cap, cur, h1, h2, h3⟩
  · exact .inl h2
  · exact .inr ⟨g, cap, cur, h1, Nat.le_trans hb h2, h3⟩
theorem OwnI.lift {w w1 wr : World} {v : Value} {xs : List Int} (h : OwnI w1 wr v xs) (k : Below w.heap.size w w1) : OwnI w wr v xs := ⟨row_mono h.1 k.size, k.trans (h.2.mono k.size)⟩
/-- 'out = append(out, n)' at a row of numbers of the call's own. -/
theorem wpList_appI {w wr : World} {v : Value} {xs : List Int} (R : OwnI w wr v xs) {ops : Array Oper} {rest : List Oper} {o : Oper} {a : Act} {Q : Exit → Act → World → Prop} (hgd : o.guard = none) (s x : Operand)
    (ho : o.op = .call { callee := .builtin .append, args := #[s, x], argTypes := #[32, 32] }) (hs : a.eval s = v) (hx : a.eval x = .slice (some ⟨wr.heap.size, 0, none⟩) 1 1)
    (y : Int) (hlen : xs.length < 10000)
    (h : ∀ v' w1, OwnI w w1 v' (xs ++ [y]) → wpList Tryd.prog ops Q rest (a.put o.dst v') w1) : wpList Tryd.prog ops Q (o :: rest) a (wr.alloc (.cells #[.int .i64 y] 3)) := by
  obtain ⟨i0, hi, hz0, hz1, hz2⟩ := info_parts info_intD
  have hB := R.2.size
  have hb : Below w.heap.size w (wr.alloc (.cells #[.int .i64 y] 3)) := R.2.alloc R.2.size _
  have hown := R.1.alloc (.cells #[.int .i64 y] 3)
  refine wpList_append_own _ hgd s x 32 ho w.heap.size 3 i0 (.int .i64 0) 1 8 Tryd.underlying32 hi hz0 hz1 hz2 rfl (by decide) v xs.length _ hs hown ⟨wr.heap.size, 0, none⟩ 1 1 [.int .i64 y] hx rfl ?_ ?_ ?_ ?_ ?_ ?_
  · intro j u hj
    match j, hj with
    | 0, hj => simp at hj; subst hj; simp [Addr.add, go_sem]
  · intro u hu; simp at hu; subst hu; rfl
  · unfold maxLen; omega
  · omega
  · simp; omega
  · intro v' w1 hown' hgrow _
    refine h v' w1 ⟨?_, hb.grown hgrow hb.size fun k hk => (hown.lt k hk).1⟩
    rw [List.length_append, List.map_append]
    exact hown'
/-! ### The numbers of an instruction -/
def nbT (t : Tr) : Bool := nbB t.1
def numsL (L : List Tr) : List Int := (L.filter nbT).map fun t => t.2.2
theorem nums_yes (L : List Tr) (k : Nat) (h : k < L.length) (hb : nbT L[k] = true) : numsL (L.take (k + 1)) = numsL (L.take k) ++ [L[k].2.2] := by
  unfold numsL
  rw [List.take_succ_eq_append_getElem h, List.filter_append, List.map_append]
  simp [List.filter_cons, hb]
theorem nums_no (L : List Tr) (k : Nat) (h : k < L.length) (hb : nbT L[k] = false) : numsL (L.take (k + 1)) = numsL (L.take k) := by
  unfold numsL
  rw [List.take_succ_eq_append_getElem h, List.filter_append, List.map_append]
  simp [List.filter_cons, hb]
theorem nums_le (L : List Tr) : (numsL L).length ≤ L.length := by
  unfold numsL
  rw [List.length_map]
  exact List.length_filter_le _ _
theorem nums_take_le (L : List Tr) (k : Nat) : (numsL (L.take k)).length ≤ k := by
  have h1 := nums_le (L.take k)
  have h2 : (L.take k).length ≤ k := by rw [List.length_take]; omega
  omega
/-- What a call returns: numbers in new memory. -/
def RetInts (w : World) (xs : List Int) (e : Ending) (w' : World) : Prop := ∃ v, e = .returned v ∧ OwnI w w' v xs
set_option maxRecDepth 100000 in
set_option maxHeartbeats 4000000 in
theorem numbers_any (s : ByteArray) (A : Option Addr) (cap : Nat) (L : List Tr) (hL : L.length ≤ 1000) (w : World) (H : OpsP w A L) :
    Calls Tryd.prog 14 #[.agg #[.string s, .slice A L.length cap]] w (RetInts w (numsL L)) := by
  have X := Lib.hid H
  have NL := fun k => Lib.hid (nums_take_le L k)
  have NT : Hid (numsL (L.take L.length) = numsL L) := by rw [List.take_length]; exact rfl
  obtain ⟨n, hn⟩ : ∃ n, L.length = n := ⟨_, rfl⟩
  have HN := Lib.hid hn
  rw [hn] at hL NT ⊢
  have B0 : Hid (Below w.heap.size w (w.alloc (.cells #[.string s, .slice A n cap] 24))) := (Below.refl _ _).alloc (Nat.le_refl _) _
  clear H hn
  go_enter Tryd.func14, Tryd.ntmps14
  go_wp2
  go_loopw [3, 9] (fun v i wr => ∃ j : Nat, j ≤ n ∧ i = .int .i64 j ∧ Hid (OwnI w wr v (numsL (L.take j)))) (fun _ i _ => n - (intOf i).toNat)
  case atStart => exact ⟨0, Nat.zero_le _, rfl, OwnI.start _ _ B0.out⟩
  case round =>
    clear B0
    obtain ⟨j, hj, rfl, R⟩ := hrel
    by_cases hlt : j < n
    · have hj1 : j < L.length := by have := HN.out; omega
      obtain ⟨b1, o1, hA1, -, p0, p1, p2⟩ := (X.out.below R.out.2).at_ hj1
      subst hA1
      have HV : Hid (nbT L[j] = nbB L[j].1) := rfl
      have RY := fun q => Lib.hid (nums_yes L j hj1 q)
      have RN := fun q => Lib.hid (nums_no L j hj1 q)
      have hle := (NL j).out
      obtain ⟨vb, hvb⟩ : ∃ vb, nbT L[j] = vb := ⟨_, rfl⟩
      rw [hvb] at HV RY RN
      obtain ⟨⟨y0, y1, y2⟩, hy⟩ : ∃ y, L[j] = y := ⟨_, rfl⟩
      rw [hy] at p0 p1 p2 HV RY
      simp only at p0 p1 p2 HV RY
      have VV := Lib.hid (hasNumber_any y0 y1 y2)
      rw [← HV.out] at VV
      have hal : Below wr.heap.size wr (wr.alloc (.cells #[.int .i64 y0, .int .i64 y1, .int .i64 y2] 36)) := (Below.refl _ _).alloc (Nat.le_refl _) _
      have c2 : (wr.alloc (.cells #[.int .i64 y0, .int .i64 y1, .int .i64 y2] 36)).cell? ⟨wr.heap.size, 2, none⟩ = some (.int .i64 y2) := by simp [go_sem]
      have RA := Lib.hid (R.out.below hal)
      have RC := Lib.hid c2
      clear hy hvb hj1 HV hal R c2
      go_wp2_with fail
      refine (VV.out _).mono ?_
      rintro e w2 ⟨rfl, hb⟩
      have R2 := Lib.hid (RA.out.below hb)
      have c2 : w2.cell? ⟨wr.heap.size, 2, none⟩ = some (.int .i64 y2) := (hb.cell (by simp)).trans RC.out
      clear hb RA RC VV
      cases vb with
      | true =>
        have hl2 : (numsL (L.take j)).length < 10000 := by omega
        clear hle
        go_wp2_with (at_builtin; refine wpList_appI R2.out rfl _ _ rfl rfl rfl y2 hl2 ?_; intro v' w3 hR3)
        rw [← (RY trivial).out] at hR3
        have R3 := Lib.hid hR3
        clear hR3
        go_roundw
        case rel => exact ⟨j + 1, by omega, by go_num, R3.out⟩
        case measure => simp [intOf]; omega
      | false =>
        rw [← (RN rfl).out] at R2
        clear hle
        go_wp2
        go_roundw
        case rel => exact ⟨j + 1, by omega, by go_num, R2.out⟩
        case measure => simp [intOf]; omega
    · have hjn : j = n := by omega
      subst hjn
      rw [NT.out] at R
      go_wp2
      go_ret
      exact ⟨_, rfl, R.out⟩
set_option maxRecDepth 100000 in
set_option maxHeartbeats 4000000 in
theorem rnumbers_any (s : ByteArray) (A : Option Addr) (cap : Nat) (L : List Tr) (hL : L.length ≤ 1000) (w : World) (H : OpsP w A L) :
    Calls Tryd.prog 15 #[.agg #[.string s, .slice A L.length cap]] w (RetInts w (numsL L)) := by
  have X := Lib.hid H
  have NL := fun k => Lib.hid (nums_take_le L k)
  have NT : Hid (numsL (L.take L.length) = numsL L) := by rw [List.take_length]; exact rfl
  obtain ⟨n, hn⟩ : ∃ n, L.length = n := ⟨_, rfl⟩
  have HN := Lib.hid hn
  rw [hn] at hL NT ⊢
  have B0 : Hid (Below w.heap.size w (w.alloc (.cells #[.string s, .slice A n cap] 24))) := (Below.refl _ _).alloc (Nat.le_refl _) _
  have T0 := Lib.hid (Bx.new w s A n cap 24)
  clear H hn
  go_enter Tryd.func15, Tryd.ntmps15
  go_wp2
  go_loopw [3, 4] (fun v i wr => ∃ j : Nat, j ≤ n ∧ i = .int .i64 j ∧ Hid (OwnI (w.alloc (.cells #[.string s, .slice A n cap] 24)) wr v (numsL (L.take j)))) (fun _ i _ => n - (intOf i).toNat)
  case atStart => exact ⟨0, Nat.zero_le _, rfl, OwnI.start _ _ (Below.refl _ _)⟩
  case round =>
    obtain ⟨j, hj, rfl, R⟩ := hrel
    have T : Hid (Bx wr w.heap.size s A n cap) := T0.out.all R.out.2
    obtain ⟨x0, x1⟩ := T.out
    by_cases hlt : j < n
    · have hj1 : j < L.length := by have := HN.out; omega
      obtain ⟨b1, o1, hA1, -, p0, p1, p2⟩ := ((X.out.below B0.out).below R.out.2).at_ hj1
      obtain ⟨b1', o1', hA1', hbl, q0, q1, q2⟩ := (X.out.below B0.out).at_ hj1
      subst hA1
      simp only [Option.some.injEq, Addr.mk.injEq, and_true] at hA1'
      obtain ⟨rfl, rfl⟩ := hA1'
      have HV : Hid (nbT L[j] = nbB L[j].1) := rfl
      have RY := fun q => Lib.hid (nums_yes L j hj1 q)
      have RN := fun q => Lib.hid (nums_no L j hj1 q)
      have hle := (NL j).out
      obtain ⟨vb, hvb⟩ : ∃ vb, nbT L[j] = vb := ⟨_, rfl⟩
      rw [hvb] at HV RY RN
      obtain ⟨⟨y0, y1, y2⟩, hy⟩ : ∃ y, L[j] = y := ⟨_, rfl⟩
      rw [hy] at p0 p1 p2 HV RY q2
      simp only at p0 p1 p2 HV RY q2
      have VV := Lib.hid (rnumber_any y0 y1 y2)
      rw [← HV.out] at VV
      have P2 := Lib.hid q2
      have HB := Lib.hid hbl
      clear hy hvb hj1 HV q0 q1 q2 hbl
      go_wp2_with fail
      refine (VV.out _).mono ?_
      rintro e w2 ⟨rfl, hb⟩
      have R2 := Lib.hid (R.out.below hb)
      have T2 := Lib.hid (T.out.all hb)
      have p2' : w2.cell? ⟨b1, o1 + j * 3 + 2, none⟩ = some (.int .i64 y2) := (R2.out.2.cell HB.out).trans P2.out
      clear hb VV p0 p1 p2 x0 x1 T R
      obtain ⟨x0, x1⟩ := T2.out
      cases vb with
      | true =>
        have hl2 : (numsL (L.take j)).length < 10000 := by omega
        clear hle
        go_wp2_with (at_builtin; refine wpList_appI R2.out rfl _ _ rfl rfl rfl y2 hl2 ?_; intro v' w3 hR3)
        rw [← (RY trivial).out] at hR3
        have R3 := Lib.hid hR3
        clear hR3
        go_wp2
        go_roundw
        case rel => exact ⟨j + 1, by omega, by go_num, R3.out⟩
        case measure => simp [intOf]; omega
      | false =>
        rw [← (RN rfl).out] at R2
        clear hle
        go_wp2
        go_roundw
        case rel => exact ⟨j + 1, by omega, by go_num, R2.out⟩
        case measure => simp [intOf]; omega
    · have hjn : j = n := by omega
      subst hjn
      rw [NT.out] at R
      have F := Lib.hid (R.out.lift B0.out)
      go_wp2
      go_ret
      exact ⟨_, rfl, F.out⟩
end Go.Proofs.YthpaamekpfhkjaaDoor
