/-
  Rows of cells of the call's own, and appending to them; the walk over breadboardref02.Put.
-/
import Derived.Test.YtllfebekanafhaaImgD
import Derived.Test.YtllfebekanafhaaMixed
import Derived.OwnWalk
import Derived.Laws.AppendOwn
import Derived.Laws.OwnMore
namespace Go.Proofs.Ytllfebekanafhaa
open Go.RowKit
set_option linter.unusedVariables false

/-! ### append from whatever slice, also an empty one -/
theorem run_append_nothing (w : World) (base : Nat) (t ty e : TypeId) (size : Nat) (ht : Try.prog.underlying t = some (.slice e)) (hs : ∀ w, (sizeOf e).run Try.prog w = .ok size w)
    (v : Value) (n : Nat) (xs : List Value) (hown : w.ownsRow base e size v n xs) (A : Option Addr) (c : Nat) :
    (Builtin.append_ #[t, t] ty #[v, .slice A 0 c]).run Try.prog w = .ok v w := by
  have h0 : ∀ x, (loadCells x 0).run Try.prog w = .ok #[] w := fun x => by simpa using run_loadCells_list (P := Try.prog) w x [] (by simp)
  rcases hown.2 with ⟨rfl, h⟩ | ⟨g, cap, cur, rfl, hb, hg, hm, hle, _⟩
  · cases A <;> simp [Builtin.append_, run_underlying ht, hs, Builtin.lenOf, Builtin.firstCells, h0]
  · cases A <;> simp [Builtin.append_, run_underlying ht, hs, Builtin.lenOf, Builtin.firstCells, h0, hm, storeCells] <;> omega
theorem run_append_src (w : World) (base : Nat) (t ty e : TypeId) (i : TypeInfo) (z : Value) (size bytes : Nat) (ht : Try.prog.underlying t = some (.slice e)) (hi : Try.prog.info? e = some i) (hz : i.zero = some z)
    (hsize : i.size = size) (hby : i.bytes = bytes) (hzs : z.cells.size = size) (hsz : 0 < size)
    (v : Value) (n : Nat) (xs : List Value) (hown : w.ownsRow base e size v n xs)
    (A : Option Addr) (m c : Nat) (news : List Value) (hl : news.length = m * size) (hnews : m = 0 ∨ ∃ a, A = some a ∧ ∀ j u, news[j]? = some u → w.cell? (a.add j) = some u) (h1 : ∀ u ∈ news, u.oneCell' = true)
    (h63 : n + m ≤ maxLen) (hbytes : (n + m) * bytes ≤ 140737488355328) (hbase : base ≤ w.heap.size) :
    ∃ v' w', (Builtin.append_ #[t, t] ty #[v, .slice A m c]).run Try.prog w = .ok v' w' ∧ w'.ownsRow base e size v' (n + m) (xs ++ news) ∧ w.grownBy w' v.ownBlock := by
  by_cases hm : m = 0
  · subst hm
    have hn0 : news = [] := List.eq_nil_of_length_eq_zero (by omega)
    subst hn0
    refine ⟨v, w, run_append_nothing w base t ty e size ht (fun w => ?_) v n xs hown A c, ?_, World.grownBy.refl _ _⟩
    · simp [sizeOf, typeInfo, hi, hsize]
    · simpa using hown
  · obtain ⟨a, rfl, hn⟩ := hnews.resolve_left hm
    obtain ⟨v', w', h2, h3, h4, _⟩ := run_append_own (P := Try.prog) w base t ty e i z size bytes ht hi hz hsize hby hzs hsz v n xs hown a m c news hl hn h1 h63 hbytes hbase
    exact ⟨v', w', h2, h3, h4⟩

/-! ### Rows of cells -/
def cellsV (W : List Cel) : List Value := W.flatMap fun c => [.int .i64 (c.1 : Int), .int .u8 (c.2.toNat : Int)]
theorem cellsV_append (V W : List Cel) : cellsV (V ++ W) = cellsV V ++ cellsV W := by unfold cellsV; rw [List.flatMap_append]
theorem cellsV_length (W : List Cel) : (cellsV W).length = W.length * 2 := by
  induction W with
  | nil => rfl
  | cons c t ih =>
    have : cellsV (c :: t) = [.int .i64 (c.1 : Int), .int .u8 (c.2.toNat : Int)] ++ cellsV t := rfl
    rw [this, List.length_append, ih]
    simp only [List.length_cons, List.length_nil]
    omega
theorem cellsV_get (W : List Cel) (j : Nat) (h : j < W.length) : (cellsV W)[j * 2]? = some (.int .i64 (W[j].1 : Int)) ∧ (cellsV W)[j * 2 + 1]? = some (.int .u8 (W[j].2.toNat : Int)) := by
  induction W generalizing j with
  | nil => simp at h
  | cons c t ih =>
    have e : cellsV (c :: t) = .int .i64 (c.1 : Int) :: .int .u8 (c.2.toNat : Int) :: cellsV t := rfl
    cases j with
    | zero => rw [e]; exact ⟨rfl, rfl⟩
    | succ j =>
      obtain ⟨h1, h2⟩ := ih j (by simpa using h)
      rw [e, show (j + 1) * 2 = j * 2 + 1 + 1 by omega]
      simp only [List.getElem?_cons_succ, List.getElem_cons_succ]
      exact ⟨h1, h2⟩
theorem cellsV_at {W : List Cel} {j : Nat} {u : Value} (h : (cellsV W)[j]? = some u) : ∃ k, ∃ hk : k < W.length, (j = k * 2 ∧ u = .int .i64 (W[k].1 : Int)) ∨ (j = k * 2 + 1 ∧ u = .int .u8 (W[k].2.toNat : Int)) := by
  have hj : j < W.length * 2 := by
    rw [← cellsV_length]
    exact (List.getElem?_eq_some_iff.1 h).1
  have hk : j / 2 < W.length := by omega
  refine ⟨j / 2, hk, ?_⟩
  obtain ⟨h1, h2⟩ := cellsV_get W (j / 2) hk
  rcases Nat.mod_two_eq_zero_or_one j with e | e
  · left
    have e2 : j = j / 2 * 2 := by omega
    rw [← e2, h] at h1
    exact ⟨e2, Option.some.inj h1⟩
  · right
    have e2 : j = j / 2 * 2 + 1 := by omega
    rw [← e2, h] at h2
    exact ⟨e2, Option.some.inj h2⟩
theorem CellsP.news {P : Nat → Prop} {w : World} {A : Option Addr} {W : List Cel} (h : CellsP P w A W) : W.length = 0 ∨ ∃ a, A = some a ∧ ∀ j u, (cellsV W)[j]? = some u → w.cell? (a.add j) = some u := by
  rcases h with rfl | ⟨b, off, rfl, _, hc⟩
  · exact .inl rfl
  · refine .inr ⟨_, rfl, fun j u hu => ?_⟩
    have hadd : (⟨b, off, none⟩ : Addr).add j = ⟨b, off + j, none⟩ := by unfold Addr.add; split <;> simp_all
    rw [hadd]
    obtain ⟨k, hk, ⟨rfl, rfl⟩ | ⟨rfl, rfl⟩⟩ := cellsV_at hu
    · exact (hc k hk).1
    · exact (hc k hk).2
theorem cellsV_one (W : List Cel) : ∀ u ∈ cellsV W, u.oneCell' = true := by
  intro u hu
  unfold cellsV at hu
  obtain ⟨c, _, h⟩ := List.mem_flatMap.1 hu
  simp only [List.mem_cons, List.not_mem_nil, or_false] at h
  rcases h with rfl | rfl <;> rfl
/-- v is a row of the call's own (made since w) that holds W. -/
def OwnC (w wr : World) (v : Value) (W : List Cel) : Prop := wr.ownsRow w.heap.size 65 2 v W.length (cellsV W) ∧ Below w.heap.size w wr
theorem ownC_start (w : World) : OwnC w w (.slice none 0 0) [] := ⟨World.ownsRow_nil _ _ _ _, Below.refl _ _⟩
theorem OwnC.alloc {w wr : World} {v : Value} {W : List Cel} (h : OwnC w wr v W) (o : Obj) : OwnC w (wr.alloc o) v W := ⟨h.1.alloc o, h.2.alloc h.2.size o⟩
theorem OwnC.cellsP {w wr : World} {v : Value} {W : List Cel} (h : OwnC w wr v W) : ∃ A cap, v = .slice A W.length cap ∧ W.length ≤ cap ∧ CellsP (w.heap.size ≤ ·) wr A W := by
  rcases h.1.2 with ⟨rfl, h0⟩ | ⟨g, cap, cur, rfl, hb, _, hm, hcs⟩
  · have := List.eq_nil_of_length_eq_zero h0
    subst this
    exact ⟨none, 0, rfl, Nat.le_refl _, .inl rfl⟩
  · refine ⟨_, cap, rfl, by first | exact hm | exact hm.1 | exact hcs.1 | omega, .inr ⟨g, 0, rfl, hb, fun j hj => ?_⟩⟩
    obtain ⟨h1, h2⟩ := cellsV_get W j hj
    rw [Nat.zero_add, h.1.cellAt (j * 2) (by omega), h.1.cellAt (j * 2 + 1) (by omega)]
    exact ⟨h1, h2⟩
theorem info_cell : (Try.prog.info? 65).map (fun i => (i.zero, i.size, i.bytes)) = some (some (.agg #[.int .i64 0, .int .u8 0]), 2, 16) := by kernel_rfl
theorem append_cells {w wr : World} {v : Value} {W : List Cel} (h : OwnC w wr v W) {P : Nat → Prop} {A : Option Addr} {V : List Cel} (hV : CellsP P wr A V) (c : Nat) (hlen : W.length + V.length ≤ 8796093022208) (ty : TypeId) :
    ∃ v' w', (Builtin.append_ #[27, 27] ty #[v, .slice A V.length c]).run Try.prog wr = .ok v' w' ∧ OwnC w w' v' (W ++ V) := by
  obtain ⟨i0, hi, hz0, hz1, hz2⟩ := info_parts info_cell
  obtain ⟨v', w', h1, h2, h3⟩ := run_append_src wr w.heap.size 27 ty 65 i0 _ 2 16 Try.underlying27 hi hz0 hz1 hz2 rfl (by decide) v W.length _ h.1 A V.length c (cellsV V)
    (cellsV_length V) hV.news (cellsV_one V) (by unfold maxLen; omega) (by omega) h.2.size
  refine ⟨v', w', h1, ?_, h.2.grown h3 h.2.size fun k hk => (h.1.lt k hk).1⟩
  rw [List.length_append, cellsV_append]
  exact h2
theorem wpList_appC {w wr : World} {v : Value} {W : List Cel} (h : OwnC w wr v W) {P : Nat → Prop} {A : Option Addr} {V : List Cel} (hV : CellsP P wr A V) (m c : Nat) (hm : m = V.length) (hlen : W.length + V.length ≤ 8796093022208)
    {ops : Array Oper} {rest : List Oper} {o : Oper} {a : Act} {Q : Exit → Act → World → Prop} (hgd : o.guard = none) (s x : Operand)
    (ho : o.op = .call { callee := .builtin .append, args := #[s, x], argTypes := #[27, 27] }) (hs : a.eval s = v) (hx : a.eval x = .slice A m c)
    (hk : ∀ v' w1, OwnC w w1 v' (W ++ V) → wpList Try.prog ops Q rest (a.put o.dst v') w1) : wpList Try.prog ops Q (o :: rest) a wr := by
  subst hm
  obtain ⟨v', w', h1, h2⟩ := append_cells h hV c hlen o.type
  refine wpList_plain hgd fun K hK => ?_
  unfold Oper.wp
  simp [execOp, ho, resolve, invoke, builtin, hs, hx, h1, Result.andThen]
  exact hK _ _ (hk _ _ h2)
theorem cell_one (wr : World) (a : Nat) (x : UInt8) (n m : Int) (hn : n = a) (hm : m = x.toNat) : CellsP (fun _ => True) (wr.alloc (.cells #[.int .i64 n, .int .u8 m] 65)) (some ⟨wr.heap.size, 0, none⟩) [(a, x)] := by
  subst hn hm
  refine .inr ⟨_, 0, rfl, trivial, fun j hj => ?_⟩
  have : j = 0 := by simpa using hj
  subst this
  simp [go_sem]
theorem mk_take (a : Nat) (xs : List UInt8) (k : Nat) (h : k < xs.length) : mkW a (xs.take (k + 1)) = mkW a (xs.take k) ++ [(a + k, xs[k])] := by
  rw [List.take_succ_eq_append_getElem h, mkW_append, List.length_take, Nat.min_eq_left (by omega)]
  rfl

/-- What the reference's Put returns: cells W' and a code. -/
def RetCells (P : Nat → Prop) (w : World) (W : List Cel) (c : Int) (e : Ending) (w' : World) : Prop :=
  ∃ A cap, e = .returned (.tuple #[.slice A W.length cap, .int .i64 c]) ∧ W.length ≤ cap ∧ CellsP P w' A W ∧ Below w.heap.size w w'
end Go.Proofs.Ytllfebekanafhaa
