/-
  Instructions: slices of operands in memory, marks, numbers, shapes; an operand's mark and whether it has a number, by both texts.
-/
import Derived.Test.YthpaamekpfhkjaaDoorOpI
import Derived.Test.YthpaamekpfhkjaaDoorInL
import Derived.Test.YthpaamekpfhkjaaDoorNumO
import Derived.RangeFuncBox
import Derived.OwnWalk
import Derived.Laws.AppendOwn
import Derived.Laws.OwnMore
import Derived.OneCell
import Derived.Lib.SliceRun
import Derived.Maps.AppendAt
namespace Go.Proofs.YthpaamekpfhkjaaDoor
open Go.RowKit
set_option linter.unusedVariables false

/-! ### Slices of operands -/
abbrev Tr := Int × Int × Int
def cellsT : List Tr → List Value
  | [] => []
  | x :: t => .int .i64 x.1 :: .int .i64 x.2.1 :: .int .i64 x.2.2 :: cellsT t
theorem cellsT_length : ∀ L : List Tr, (cellsT L).length = L.length * 3
  | [] => rfl
  | x :: t => by
    have h := cellsT_length t
    show (cellsT t).length + 1 + 1 + 1 = (t.length + 1) * 3
    omega
theorem cellsT_append : ∀ a b : List Tr, cellsT (a ++ b) = cellsT a ++ cellsT b
  | [], b => rfl
  | x :: t, b => by
    show _ :: _ :: _ :: cellsT (t ++ b) = _ :: _ :: _ :: (cellsT t ++ cellsT b)
    rw [cellsT_append t b]
theorem cellsT_at : ∀ (L : List Tr) (j : Nat) (h : j < L.length), (cellsT L)[j * 3]? = some (.int .i64 L[j].1) ∧ (cellsT L)[j * 3 + 1]? = some (.int .i64 L[j].2.1) ∧ (cellsT L)[j * 3 + 2]? = some (.int .i64 L[j].2.2)
  | x :: t, 0, h => ⟨rfl, rfl, rfl⟩
  | x :: t, j + 1, h => by
    obtain ⟨h1, h2, h3⟩ := cellsT_at t j (by simpa using h)
    have e : cellsT (x :: t) = .int .i64 x.1 :: .int .i64 x.2.1 :: .int .i64 x.2.2 :: cellsT t := rfl
    rw [e, show (j + 1) * 3 = j * 3 + 1 + 1 + 1 by omega, show j * 3 + 1 + 1 + 1 + 1 = (j * 3 + 1) + 1 + 1 + 1 by omega, show j * 3 + 1 + 1 + 1 + 2 = (j * 3 + 2) + 1 + 1 + 1 by omega]
    simp only [List.getElem?_cons_succ, List.getElem_cons_succ]
    exact ⟨h1, h2, h3⟩
/-- A slice of operands that reads as L. -/
def OpsP (w : World) (A : Option Addr) (L : List Tr) : Prop :=
  L = [] ∨ ∃ b off, A = some ⟨b, off, none⟩ ∧ ∀ j (h : j < L.length), w.cell? ⟨b, off + j * 3, none⟩ = some (.int .i64 L[j].1) ∧ w.cell? ⟨b, off + j * 3 + 1, none⟩ = some (.int .i64 L[j].2.1) ∧ w.cell? ⟨b, off + j * 3 + 2, none⟩ = some (.int .i64 L[j].2.2)
theorem OpsP.at_ {w : World} {A : Option Addr} {L : List Tr} (h : OpsP w A L) {k : Nat} (hk : k < L.length) : ∃ b off, A = some ⟨b, off, none⟩ ∧ b < w.heap.size ∧ w.cell? ⟨b, off + k * 3, none⟩ = some (.int .i64 L[k].1) ∧ w.cell? ⟨b, off + k * 3 + 1, none⟩ = some (.int .i64 L[k].2.1) ∧ w.cell? ⟨b, off + k * 3 + 2, none⟩ = some (.int .i64 L[k].2.2) := by
  rcases h with rfl | ⟨b, off, rfl, hc⟩
  · simp at hk
  · exact ⟨b, off, rfl, World.block_lt_of_cell? w _ (hc k hk).1, hc k hk⟩
theorem OpsP.below {w w' : World} {A : Option Addr} {L : List Tr} (h : OpsP w A L) (hb : Below w.heap.size w w') : OpsP w' A L := by
  rcases h with rfl | ⟨b, off, rfl, hc⟩
  · exact .inl rfl
  · refine .inr ⟨b, off, rfl, fun j hj => ?_⟩
    have e : ∀ (p : Addr) (v : Value), w.cell? p = some v → w'.cell? p = some v := fun p v hp => (hb.cell (World.block_lt_of_cell? w _ hp)).trans hp
    obtain ⟨h1, h2, h3⟩ := hc j hj
    exact ⟨e _ _ h1, e _ _ h2, e _ _ h3⟩
theorem ops_of_row {w : World} {base : Nat} {v : Value} {L : List Tr} (h : w.ownsRow base 36 3 v L.length (cellsT L)) : ∃ A cap, v = .slice A L.length cap ∧ OpsP w A L ∧ L.length ≤ cap := by
  rcases h.2 with ⟨rfl, h0⟩ | ⟨g, cap, cur, rfl, _, _, hle, _⟩
  · have : L = [] := List.eq_nil_of_length_eq_zero h0
    subst this
    exact ⟨none, 0, rfl, .inl rfl, Nat.le_refl _⟩
  · refine ⟨_, cap, rfl, .inr ⟨g, 0, rfl, fun j hj => ?_⟩, hle⟩
    obtain ⟨h1, h2, h3⟩ := cellsT_at L j hj
    rw [Nat.zero_add]
    exact ⟨(h.cellAt _ (by omega)).trans h1, (h.cellAt _ (by omega)).trans h2, (h.cellAt _ (by omega)).trans h3⟩
theorem info_opd : (Tryd.prog.info? 36).map (fun i => (i.zero, i.size, i.bytes)) = some (some (.agg #[.int .i64 0, .int .i64 0, .int .i64 0]), 3, 24) := by kernel_rfl
theorem run_append_nothing (w : World) (base : Nat) (t ty e : TypeId) (size : Nat) (ht : Tryd.prog.underlying t = some (.slice e)) (hs : ∀ w, (sizeOf e).run Tryd.prog w = .ok size w)
    (v : Value) (n : Nat) (xs : List Value) (hown : w.ownsRow base e size v n xs) (A : Option Addr) (c : Nat) :
    (Builtin.append_ #[t, t] ty #[v, .slice A 0 c]).run Tryd.prog w = .ok v w := by
  have h0 : ∀ x, (loadCells x 0).run Tryd.prog w = .ok #[] w := fun x => by simpa using run_loadCells_list (P := Tryd.prog) w x [] (by simp)
  rcases hown.2 with ⟨rfl, h⟩ | ⟨g, cap, cur, rfl, hb, hg, hm, hle, _⟩
  · cases A <;> simp [Builtin.append_, run_underlying ht, hs, Builtin.lenOf, Builtin.firstCells, h0]
  · cases A <;> simp [Builtin.append_, run_underlying ht, hs, Builtin.lenOf, Builtin.firstCells, h0, hm, storeCells] <;> omega
theorem run_append_src (w : World) (base : Nat) (t ty e : TypeId) (i : TypeInfo) (z : Value) (size bytes : Nat) (ht : Tryd.prog.underlying t = some (.slice e)) (hi : Tryd.prog.info? e = some i) (hz : i.zero = some z)
    (hsize : i.size = size) (hby : i.bytes = bytes) (hzs : z.cells.size = size) (hsz : 0 < size)
    (v : Value) (n : Nat) (xs : List Value) (hown : w.ownsRow base e size v n xs)
    (A : Option Addr) (m c : Nat) (news : List Value) (hl : news.length = m * size) (hnews : m = 0 ∨ ∃ a, A = some a ∧ ∀ j u, news[j]? = some u → w.cell? (a.add j) = some u) (h1 : ∀ u ∈ news, u.oneCell' = true)
    (h63 : n + m ≤ maxLen) (hbytes : (n + m) * bytes ≤ 140737488355328) (hbase : base ≤ w.heap.size) :
    ∃ v' w', (Builtin.append_ #[t, t] ty #[v, .slice A m c]).run Tryd.prog w = .ok v' w' ∧ w'.ownsRow base e size v' (n + m) (xs ++ news) ∧ w.grownBy w' v.ownBlock := by
  by_cases hm : m = 0
  · subst hm
    have hn0 : news = [] := List.eq_nil_of_length_eq_zero (by omega)
    subst hn0
    refine ⟨v, w, run_append_nothing w base t ty e size ht (fun w => ?_) v n xs hown A c, ?_, World.grownBy.refl _ _⟩
    · simp [sizeOf, typeInfo, hi, hsize]
    · simpa using hown
  · obtain ⟨a, rfl, hn⟩ := hnews.resolve_left hm
    obtain ⟨v', w', h2, h3, h4, _⟩ := run_append_own (P := Tryd.prog) w base t ty e i z size bytes ht hi hz hsize hby hzs hsz v n xs hown a m c news hl hn h1 h63 hbytes hbase
    exact ⟨v', w', h2, h3, h4⟩
theorem wpList_run_append {w w1 : World} {t ty : TypeId} {v y v' : Value} (h1 : (Builtin.append_ #[t, t] ty #[v, y]).run Tryd.prog w = .ok v' w1) {ops : Array Oper} {rest : List Oper} {o : Oper} {a : Act} {Q : Exit → Act → World → Prop} (hgd : o.guard = none) (s x : Operand)
    (ho : o.op = .call { callee := .builtin .append, args := #[s, x], argTypes := #[t, t] }) (hty : o.type = ty) (hs : a.eval s = v) (hx : a.eval x = y) (hk : wpList Tryd.prog ops Q rest (a.put o.dst v') w1) : wpList Tryd.prog ops Q (o :: rest) a w := by
  subst hty
  refine wpList_plain hgd fun K hK => ?_
  unfold Oper.wp
  simp [execOp, ho, resolve, invoke, builtin, hs, hx, h1, Result.andThen]
  exact hK _ _ hk
theorem cellsT_one : ∀ (L : List Tr), ∀ u ∈ cellsT L, u.oneCell' = true
  | [], u, h => by cases h
  | x :: t, u, h => by
    have e : cellsT (x :: t) = .int .i64 x.1 :: .int .i64 x.2.1 :: .int .i64 x.2.2 :: cellsT t := rfl
    rw [e] at h
    rcases List.mem_cons.1 h with rfl | h
    · rfl
    · rcases List.mem_cons.1 h with rfl | h
      · rfl
      · rcases List.mem_cons.1 h with rfl | h
        · rfl
        · exact cellsT_one t u h
theorem cellsT_take3 (L : List Tr) (j : Nat) (u : Value) (hu : (cellsT L)[j]? = some u) : ∃ (k : Nat) (h : k < L.length), (j = k * 3 ∧ u = .int .i64 L[k].1) ∨ (j = k * 3 + 1 ∧ u = .int .i64 L[k].2.1) ∨ (j = k * 3 + 2 ∧ u = .int .i64 L[k].2.2) := by
  have hj : j < L.length * 3 := by
    rw [← cellsT_length]
    exact (List.getElem?_eq_some_iff.1 hu).1
  have hk : j / 3 < L.length := by omega
  obtain ⟨h1, h2, h3⟩ := cellsT_at L (j / 3) hk
  refine ⟨j / 3, hk, ?_⟩
  have : j % 3 = 0 ∨ j % 3 = 1 ∨ j % 3 = 2 := by omega
  rcases this with h | h | h
  · have e : j = j / 3 * 3 := by omega
    rw [← e, hu] at h1
    exact .inl ⟨e, by simpa using h1⟩
  · have e : j = j / 3 * 3 + 1 := by omega
    rw [← e, hu] at h2
    exact .inr (.inl ⟨e, by simpa using h2⟩)
  · have e : j = j / 3 * 3 + 2 := by omega
    rw [← e, hu] at h3
    exact .inr (.inr ⟨e, by simpa using h3⟩)
theorem OpsP.news {w : World} {A : Option Addr} {L : List Tr} (h : OpsP w A L) : L.length = 0 ∨ ∃ a, A = some a ∧ ∀ j u, (cellsT L)[j]? = some u → w.cell? (a.add j) = some u := by
  rcases h with rfl | ⟨b, off, rfl, hc⟩
  · exact .inl rfl
  · refine .inr ⟨_, rfl, fun j u hu => ?_⟩
    have hadd : (⟨b, off, none⟩ : Addr).add j = ⟨b, off + j, none⟩ := by unfold Addr.add; split <;> simp_all
    rw [hadd]
    obtain ⟨k, hk, e⟩ := cellsT_take3 L j u hu
    obtain ⟨h1, h2, h3⟩ := hc k hk
    rcases e with ⟨rfl, rfl⟩ | ⟨rfl, rfl⟩ | ⟨rfl, rfl⟩
    · exact h1
    · exact h2
    · exact h3
/-- A row of operands of the call's own, from block n on. -/
def OwnT (w : World) (n : Nat) (v : Value) (L : List Tr) : Prop := w.ownsRow n 36 3 v L.length (cellsT L)
theorem OwnT.ops {w : World} {n : Nat} {v : Value} {L : List Tr} (h : OwnT w n v L) : ∃ A cap, v = .slice A L.length cap ∧ OpsP w A L ∧ L.length ≤ cap := ops_of_row h
theorem OwnT.below {w w' : World} {n : Nat} {v : Value} {L : List Tr} (h : OwnT w n v L) (k : Below w.heap.size w w') : OwnT w' n v L :=
  World.ownsRow.kept h (row := none) ⟨k.os, k.tape, k.output, k.size, fun i hi _ => k.block i hi⟩ (by
    cases e : v.ownBlock with
    | none => exact .inl rfl
    | some g => exact .inr (by simp))
/-- What a call returns: operands in new memory. -/
def RetOwn (w : World) (L : List Tr) (e : Ending) (w' : World) : Prop := ∃ v, e = .returned v ∧ OwnT w' w.heap.size v L ∧ Below w.heap.size w w'
/-- append to an empty row: the operands of a slice, in new memory. -/
theorem append_ops (A : Option Addr) (cap : Nat) (L : List Tr) (hl : L.length ≤ 1000) (w : World) (hx : OpsP w A L) :
    ∃ v' w', (Builtin.append_ #[22, 22] 22 #[.slice (some ⟨w.heap.size, 0, none⟩) 0 0, .slice A L.length cap]).run Tryd.prog (w.alloc (.cells #[] 36)) = .ok v' w' ∧ OwnT w' w.heap.size v' L ∧ Below w.heap.size w w' := by
  obtain ⟨i0, hi, hz0, hz1, hz2⟩ := info_parts info_opd
  have hb : Below w.heap.size w (w.alloc (.cells #[] 36)) := (Below.refl _ _).alloc (Nat.le_refl _) _
  have hown := World.ownsRow_made (base := w.heap.size) (e := 36) (size := 3) w #[] 0 (Nat.le_refl _) (by unfold maxLen; omega) rfl
  obtain ⟨v', w', k1, k2, k3⟩ := run_append_src (w.alloc (.cells #[] 36)) w.heap.size 22 22 36 i0 _ 3 24 Tryd.underlying22 hi hz0 hz1 hz2 rfl (by decide) _ 0 [] hown A L.length cap (cellsT L)
    (cellsT_length L) (hx.below hb).news (cellsT_one L) (by unfold maxLen; omega) (by omega) (by simp)
  rw [List.nil_append, Nat.zero_add] at k2
  exact ⟨v', w', k1, k2, hb.grown k3 (by simp) fun k hk => (hown.lt k hk).1⟩
set_option maxHeartbeats 1000000 in
theorem cloneO_any (A : Option Addr) (cap : Nat) (L : List Tr) (hl : L.length ≤ 1000) (w : World) (hx : OpsP w A L) :
    Calls Tryd.prog 36 #[.slice A L.length cap] w (RetOwn w L) := by
  cases A with
  | none =>
    obtain rfl : L = [] := by
      rcases hx with h | ⟨b, off, h, _⟩
      · exact h
      · cases h
    clear hx
    have hnil := fun w => Lib.run_eql_slice_nil (P := Tryd.prog) w 22 36 none 0 cap 0 0 Tryd.underlying22
    go_enter Tryd.func36, Tryd.ntmps36
    go_wp2
    go_ret
    exact ⟨_, rfl, World.ownsRow_nil _ _ _ _, Below.refl _ _⟩
  | some a =>
    obtain ⟨v', w', k1, k2, k3⟩ := append_ops (some a) cap L hl w hx
    have N : Hid (RetOwn w L (.returned v') w') := ⟨v', rfl, k2, k3⟩
    have K := Lib.hid k1
    clear hx k1 k2 k3
    go_enter Tryd.func36, Tryd.ntmps36
    have hnil := fun w => Lib.run_eql_slice_nil (P := Tryd.prog) w 22 36 (some a) L.length cap 0 0 Tryd.underlying22
    go_wp2_with (at_builtin; refine wpList_run_append K.out rfl _ _ rfl rfl rfl rfl ?_)
    go_ret
    exact N.out
end Go.Proofs.YthpaamekpfhkjaaDoor
