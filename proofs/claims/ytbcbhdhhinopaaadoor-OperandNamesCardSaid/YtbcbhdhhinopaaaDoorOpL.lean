/-
  The walk over operand.Named and operand.Reserved: the operands that a name denotes.
-/
import Derived.Test.YtbcbhdhhinopaaaDoorOpK
namespace Go.Proofs.YtbcbhdhhinopaaaDoor
open Go.RowKit Go.Shelf
set_option linter.unusedVariables false
attribute [local go_sem] Oper.semAt_some

theorem wpListIn_run_append {F : Fence} {n : Nat} {w w1 : World} {t ty : TypeId} {v y v' : Value} (h1 : (Builtin.append_ #[t, t] ty #[v, y]).run Tryd.prog w = .ok v' w1) {ops : Array Oper} {rest : List Oper} {o : Oper} {a : Act} {Q : Exit → Act → World → Prop} (hgd : o.guard = none) (s x : Operand)
    (ho : o.op = .call { callee := .builtin .append, args := #[s, x], argTypes := #[t, t] }) (hty : o.type = ty) (hs : a.eval s = v) (hx : a.eval x = y) (hk : wpListIn F n Tryd.prog ops Q rest (a.put o.dst v') w1) : wpListIn F n Tryd.prog ops Q (o :: rest) a w := by
  subst hty
  refine wpListIn_plain hgd fun K hK => ?_
  unfold Oper.wpIn
  refine ⟨?_, ?_⟩
  · simp [Oper.about, ho, resolve, Target.leads, Sem.run_pure]
  · rw [Oper.semAt_plain F _ _ (by rw [ho]; intro c hc; cases hc)]
    simp [execOp, ho, resolve, invoke, builtin, hs, hx, h1, Result.andThen]
    exact hK _ _ hk
/-! ### Slices of operands -/
abbrev Tr := Int × Int × Int
def cellsT : List Tr → List Value
  | [] => []
  | x :: t => .int .i64 x.1 :: .int .i64 x.2.1 :: .int .i64 x.2.2 :: cellsT t
theorem cellsT_length : ∀ L : List Tr, (cellsT L).length = L.length * 3
  | [] => rfl
  | x :: t => by
    have h := cellsT_length t
    show (cellsT t).length + 1 + 1 + 1 = (t.length + 1) * 3
    omega
theorem cellsT_append : ∀ a b : List Tr, cellsT (a ++ b) = cellsT a ++ cellsT b
  | [], b => rfl
  | x :: t, b => by
    show _ :: _ :: _ :: cellsT (t ++ b) = _ :: _ :: _ :: (cellsT t ++ cellsT b)
    rw [cellsT_append t b]
theorem cellsT_at : ∀ (L : List Tr) (j : Nat) (h : j < L.length), (cellsT L)[j * 3]? = some (.int .i64 L[j].1) ∧ (cellsT L)[j * 3 + 1]? = some (.int .i64 L[j].2.1) ∧ (cellsT L)[j * 3 + 2]? = some (.int .i64 L[j].2.2)
  | x :: t, 0, h => ⟨rfl, rfl, rfl⟩
  | x :: t, j + 1, h => by
    obtain ⟨h1, h2, h3⟩ := cellsT_at t j (by simpa using h)
    have e : cellsT (x :: t) = .int .i64 x.1 :: .int .i64 x.2.1 :: .int .i64 x.2.2 :: cellsT t := rfl
    rw [e, show (j + 1) * 3 = j * 3 + 1 + 1 + 1 by omega, show j * 3 + 1 + 1 + 1 + 1 = (j * 3 + 1) + 1 + 1 + 1 by omega, show j * 3 + 1 + 1 + 1 + 2 = (j * 3 + 2) + 1 + 1 + 1 by omega]
    simp only [List.getElem?_cons_succ, List.getElem_cons_succ]
    exact ⟨h1, h2, h3⟩
/-- A slice of operands that reads as L. -/
def OpsP (w : World) (A : Option Addr) (L : List Tr) : Prop :=
  L = [] ∨ ∃ b off, A = some ⟨b, off, none⟩ ∧ ∀ j (h : j < L.length), w.cell? ⟨b, off + j * 3, none⟩ = some (.int .i64 L[j].1) ∧ w.cell? ⟨b, off + j * 3 + 1, none⟩ = some (.int .i64 L[j].2.1) ∧ w.cell? ⟨b, off + j * 3 + 2, none⟩ = some (.int .i64 L[j].2.2)
theorem OpsP.at_ {w : World} {A : Option Addr} {L : List Tr} (h : OpsP w A L) {k : Nat} (hk : k < L.length) : ∃ b off, A = some ⟨b, off, none⟩ ∧ b < w.heap.size ∧ w.cell? ⟨b, off + k * 3, none⟩ = some (.int .i64 L[k].1) ∧ w.cell? ⟨b, off + k * 3 + 1, none⟩ = some (.int .i64 L[k].2.1) ∧ w.cell? ⟨b, off + k * 3 + 2, none⟩ = some (.int .i64 L[k].2.2) := by
  rcases h with rfl | ⟨b, off, rfl, hc⟩
  · simp at hk
  · exact ⟨b, off, rfl, World.block_lt_of_cell? w _ (hc k hk).1, hc k hk⟩
theorem OpsP.below {w w' : World} {A : Option Addr} {L : List Tr} (h : OpsP w A L) (hb : Below w.heap.size w w') : OpsP w' A L := by
  rcases h with rfl | ⟨b, off, rfl, hc⟩
  · exact .inl rfl
  · refine .inr ⟨b, off, rfl, fun j hj => ?_⟩
    have e : ∀ (p : Addr) (v : Value), w.cell? p = some v → w'.cell? p = some v := fun p v hp => (hb.cell (World.block_lt_of_cell? w _ hp)).trans hp
    obtain ⟨h1, h2, h3⟩ := hc j hj
    exact ⟨e _ _ h1, e _ _ h2, e _ _ h3⟩
theorem ops_of_row {w : World} {base : Nat} {v : Value} {L : List Tr} (h : w.ownsRow base 23 3 v L.length (cellsT L)) : ∃ A cap, v = .slice A L.length cap ∧ OpsP w A L ∧ L.length ≤ cap := by
  rcases h.2 with ⟨rfl, h0⟩ | ⟨g, cap, cur, rfl, _, _, hle, _⟩
  · have : L = [] := List.eq_nil_of_length_eq_zero h0
    subst this
    exact ⟨none, 0, rfl, .inl rfl, Nat.le_refl _⟩
  · refine ⟨_, cap, rfl, .inr ⟨g, 0, rfl, fun j hj => ?_⟩, hle⟩
    obtain ⟨h1, h2, h3⟩ := cellsT_at L j hj
    rw [Nat.zero_add]
    exact ⟨(h.cellAt _ (by omega)).trans h1, (h.cellAt _ (by omega)).trans h2, (h.cellAt _ (by omega)).trans h3⟩
/-- What a call returns: a slice that reads as L, in memory of its own. -/
def RetOps (w : World) (L : List Tr) (e : Ending) (w' : World) : Prop := ∃ A cap, e = .returned (.slice A L.length cap) ∧ OpsP w' A L ∧ Below w.heap.size w w'

/-! ### The operands that a name denotes -/
def nmT (x : Nm) : Tr := (x.2.1, x.2.2, 0)
def selL (u : ByteArray) (l : List Nm) : List Tr := (l.filter fun x => x.1.toList == u.toList).map nmT
theorem selL_yes (u : ByteArray) (l : List Nm) (x : Nm) (h : (x.1.toList == u.toList) = true) : selL u (l ++ [x]) = selL u l ++ [nmT x] := by
  unfold selL
  rw [List.filter_append, List.map_append]
  simp only [List.filter_cons, h, if_true, List.filter_nil, List.map_cons, List.map_nil]
theorem selL_no (u : ByteArray) (l : List Nm) (x : Nm) (h : (x.1.toList == u.toList) = false) : selL u (l ++ [x]) = selL u l := by
  unfold selL
  rw [List.filter_append, List.map_append]
  simp [List.filter_cons, h]
theorem selL_le (u : ByteArray) (l : List Nm) : (selL u l).length ≤ l.length := by
  unfold selL
  rw [List.length_map]
  exact List.length_filter_le _ _
/-- The operands that a name denotes. -/
def namedL (s : ByteArray) : List Tr := selL (upB s) nmAll

theorem opd_ne : (23 : TypeId) ≠ 64 := by decide
theorem opds_ne : (27 : TypeId) ≠ 64 := by decide
theorem kinds_apart : ∀ (i : Nat) cs t fr, (fun (_ : Nat) o => kindsT o) i (Obj.cells cs t fr) → t ≠ 23 ∧ t ≠ 27 := by
  rintro i cs t fr ⟨cs', fr', h⟩
  simp only [Obj.cells.injEq] at h
  rw [h.2.1]
  exact ⟨opd_ne.symm, opds_ne.symm⟩
theorem info_opd : (Tryd.prog.info? 23).map (fun i => (i.zero, i.size, i.bytes)) = some (some (.agg #[.int .i64 0, .int .i64 0, .int .i64 0]), 3, 24) := by kernel_rfl
/-- What holds between the rounds: the name's box, and the operands so far. -/
def NI (w0 : World) (bn bl : Nat) (u : ByteArray) (pre : List Nm) (W : World) : Prop :=
  Col.Col 27 23 3 w0 bl w0.heap.size (selL u pre).length (cellsT (selL u pre)) W
set_option maxRecDepth 100000 in
set_option maxHeartbeats 8000000 in
theorem named_any (s : ByteArray) (hs : s.size ≤ maxLen) (w : World) :
    Calls Tryd.prog 13 #[.string s] w (RetOps w (namedL s)) := by
  refine callsIn_wide.1 (callsIn_of_wp_marks (n := 3) Tryd.func13 rfl trivial ?_ rfl)
  simp only [Tryd.ntmps13, List.size_toArray, List.length_cons, List.length_nil, Nat.reduceAdd, Nat.reduceSub, Array.replicate_succ, Array.replicate_zero, List.push_toArray, List.append_toArray, List.nil_append, List.cons_append]
  refine wpIn_wide.2 ?_
  go_wp2_with fail
  refine (upper_any s hs _).mono ?_
  rintro e w1 ⟨rfl, hb⟩
  have hz : w.heap.size < w1.heap.size := by have := hb.size; simp at this; omega
  have hbox : Boxed w1 w.heap.size 9 (.string s) := (hb.block w.heap.size (by simp)).trans (Boxed.new w 9 (.string s))
  have hB1 : Below w.heap.size w w1 := ((Below.refl _ _).alloc (Nat.le_refl _) _).trans (hb.mono (by simp))
  have c0 := hbox.cell
  have f0 := hbox.frozen
  have U : Hid (selL (upB s) nmAll = namedL s) := rfl
  obtain ⟨u, hu⟩ : ∃ u, upB s = u := ⟨_, rfl⟩
  rw [hu] at U
  rw [hu]
  have HB := Lib.hid hB1
  have hbx2 : Hid (Boxed (w1.setCell ⟨w.heap.size, 0, none⟩ (.string u)) w.heap.size 9 (.string u)) := hbox.set _
  have HB2 : Hid (Below w.heap.size w (w1.setCell ⟨w.heap.size, 0, none⟩ (.string u))) := hB1.setCell (by simp) _
  clear hb hbox hB1 hu
  go_wp2
  obtain ⟨wa, hwa⟩ : ∃ wa, w1.setCell ⟨w.heap.size, 0, none⟩ (.string u) = wa := ⟨_, rfl⟩
  have hsz : w1.heap.size = wa.heap.size := by rw [← hwa]; simp [World.setCell]
  rw [hwa] at hbx2 HB2 ⊢
  rw [hsz]
  have hB0 : Below w.heap.size w (wa.alloc (.cells #[.slice none 0 0] 27)) := HB2.out.alloc (by omega) _
  have hbox0 : Boxed (wa.alloc (.cells #[.slice none 0 0] 27)) w.heap.size 9 (.string u) := hbx2.out.alloc _
  have hl0 : Boxed (wa.alloc (.cells #[.slice none 0 0] 27)) wa.heap.size 27 (.slice none 0 0) := Boxed.new wa _ _
  obtain ⟨W0, hW0⟩ : ∃ W0, wa.alloc (.cells #[.slice none 0 0] 27) = W0 := ⟨_, rfl⟩
  have hz0 : W0.heap.size = wa.heap.size + 1 := by rw [← hW0]; simp
  rw [hW0] at hB0 hbox0 hl0 ⊢
  have hz2 : w.heap.size < wa.heap.size := by omega
  obtain ⟨bl, hbl⟩ : ∃ bl, wa.heap.size = bl := ⟨_, rfl⟩
  rw [hbl] at hl0 hz0 hz2 ⊢
  have I0 : NI W0 w.heap.size bl u [] W0 := Col.Col.start _ _ _ W0 bl (by omega) hl0
  clear hW0 hwa hsz HB2 hbx2 HB c0 f0 hz hbl hl0
  refine wpIn_wide.1 (Each.wpIn_each (F := Fence.wide) (n := 3) rfl (by omega) (gf := 31) (lb := #[]) rfl trivial (enters_of Tryd.func31 (by kernel_rfl) rfl)
    (names_gives 2 W0) (fun h k => h.trans k) (fun W l o o' hl ho hc => Col.Kept.putObj W l o o' ho fun hq => kindsT_cells hc hq) (fun _ => rfl)
    (NI W0 w.heap.size bl u) (fun pre X Y row h hg hr => h.grown (B := W0.heap.size) (Nat.le_refl _) hg hr) I0
    (fun x a' W => ∃ b, a' = { tmps := #[.string s, .pointer (some ⟨w.heap.size, 0, none⟩), .slice none 0 0, .pointer (some ⟨bl, 0, none⟩), .string x.1, .pointer (some ⟨b, 0, none⟩), .string s, .string u, .string x.1, .agg #[.int .i64 x.2.1, .int .i64 x.2.2, .int .i64 0], undef, undef, undef, undef, undef, undef, undef, undef], defers := [] } ∧ W.heap[b]? = some (.cells #[.int .i64 x.2.1, .int .i64 x.2.2, .int .i64 0] 23 (0, 0)))
    (fun x a' X Y row h hg hr => by
      obtain ⟨b, h1, h2⟩ := h
      refine ⟨b, h1, (hg.block b (Array.getElem?_eq_some_iff.1 h2).1 fun e => ?_).trans h2⟩
      obtain ⟨o, ho, hc⟩ := (hr b e.symm).2
      rw [h2] at ho; cases ho; cases hc) ?assign ?body ?done)
  case assign =>
    intro l pre x W K hI hE hK
    have hal : Below W.heap.size W (W.alloc (.cells #[.int .i64 x.2.1, .int .i64 x.2.2, .int .i64 0] 23)) := (Below.refl _ _).alloc (Nat.le_refl _) _
    have F := Lib.hid (hK _ _ ((Col.keepsOthers_below hal).from _) (Col.Kept.of_all hal) (Col.Col.below hI hal) ⟨_, rfl, heap_alloc_new W _⟩)
    clear hI hE hK hal
    simp only [nmV]
    gi_wp2
    exact F.out
  case done =>
    rintro D ys W hD rfl ⟨v, a1, a2, a3⟩ hK
    have a2' := Col.row_turn a2 (grownBy_putObj' W D (.deferred none)) (fun r e => by cases e; exact ⟨_, hK, rfl⟩)
    obtain ⟨A, cap, rfl, hO, -⟩ := ops_of_row a2'
    have hc1 := a1.cell
    have F : Hid (RetOps w (namedL s) (.returned (.slice A (selL u nmAll).length cap)) (W.putObj D (.deferred none))) := by
      refine ⟨A, cap, by rw [U.out], by rw [← U.out]; exact hO, ?_⟩
      have q1 : Below w.heap.size W0 W := ⟨a3.os, a3.tape, a3.output, a3.size, fun i hi => by
        obtain ⟨o, ho⟩ : ∃ o, W0.heap[i]? = some o := ⟨_, Array.getElem?_eq_getElem (by have := hB0.size; omega)⟩
        rw [a3.block i o ho ⟨by have := hB0.size; omega, by omega⟩, ho]⟩
      have q2 := hB0.trans q1
      exact q2.grown (grownBy_putObj' W D _) q2.size fun k e => by cases e; have := hB0.size; omega
    clear a1 a2 a3 a2' hO hB0 hbox0 I0
    go_wp2
    refine ⟨by simp, .inl ⟨_, _, rfl, run_takeDeferred hK, ?_⟩⟩
    refine ⟨_, results_tmp rfl _ _ _, ?_⟩
    exact F.out
  case body =>
    rintro l pre x a' W ⟨v, a1, a2, a3⟩ ⟨b, rfl, hb⟩ hlt
    have hn : W.cell? ⟨w.heap.size, 0, none⟩ = some (.string u) := Boxed.cell (t := 9) (a3.block _ _ hbox0 ⟨by omega, by omega⟩)
    have b0 : W.cell? ⟨b, 0, none⟩ = some (.int .i64 x.2.1) := (Lib.cell_of_heap hb 0).trans rfl
    have b1 : W.cell? ⟨b, 1, none⟩ = some (.int .i64 x.2.2) := (Lib.cell_of_heap hb 1).trans rfl
    have b2 : W.cell? ⟨b, 2, none⟩ = some (.int .i64 0) := (Lib.cell_of_heap hb 2).trans rfl
    have hll : (selL u pre).length ≤ 1000000000 := by have := selL_le u pre; omega
    obtain ⟨g, cap', w4, k1, c1, d1, KF, KQ, CC⟩ := Col.Col.step (P := Tryd.prog) (Q := fun _ o => kindsT o) Tryd.underlying27 info_opd rfl (by decide) (by decide) (Nat.le_refl _) (by omega) hll a1 a2 a3 kinds_apart (Below.refl _ W) [.int .i64 x.2.1, .int .i64 x.2.2, .int .i64 0] rfl (fun u hu => by simp at hu; rcases hu with rfl | rfl | rfl <;> rfl) 27
    have NO : Hid ((x.1.toList == u.toList) = false → KeepsFrom W0.heap.size W W ∧ KK W W ∧ NI W0 w.heap.size bl u (pre ++ [x]) W) := fun h =>
      ⟨KeepsFrom.refl _ _, Col.Kept.refl _ _, by unfold NI; rw [selL_no u pre x h]; exact ⟨v, a1, a2, a3⟩⟩
    have YES : Hid ((x.1.toList == u.toList) = true → KeepsFrom W0.heap.size W (w4.setCell ⟨bl, 0, none⟩ (.slice (some ⟨g, 0, none⟩) ((selL u pre).length + 1) cap')) ∧ KK W (w4.setCell ⟨bl, 0, none⟩ (.slice (some ⟨g, 0, none⟩) ((selL u pre).length + 1) cap')) ∧ NI W0 w.heap.size bl u (pre ++ [x]) (w4.setCell ⟨bl, 0, none⟩ (.slice (some ⟨g, 0, none⟩) ((selL u pre).length + 1) cap'))) := fun h =>
      ⟨KF _, KQ, by unfold NI; rw [selL_yes u pre x h, List.length_append, cellsT_append]; exact CC⟩
    have hv := a1.cell
    have t1 := d1.cell
    have t2 := d1.frozen
    have K1 := Lib.hid k1
    obtain ⟨m, hm⟩ : ∃ m, (selL u pre).length = m := ⟨_, rfl⟩
    rw [hm] at K1 YES
    obtain ⟨s1, k, r⟩ := x
    simp only at K1 NO YES b0 b1 b2 ⊢
    clear a1 a2 a3 hb hlt hll k1 c1 d1 KF KQ CC hB0 hbox0 I0 hm
    cases hq : (s1.toList == u.toList)
    · have N := NO.out hq
      have HN := Lib.hid N
      clear N
      gi_wp2
      exact HN.out
    · have N := YES.out hq
      have HN := Lib.hid N
      clear N
      gi_wp2_with (gi_at_builtin; refine wpListIn_run_append K1.out rfl _ _ rfl rfl rfl rfl ?_)
      exact HN.out
end Go.Proofs.YtbcbhdhhinopaaaDoor
