/-
  InW, CnW, CnD, LsA.
-/
import Derived.Test.YtmnleknehjkmgaaGreatGAA
import Derived.Lib.SmallJoins
import Derived.Deep.Slices
import Derived.Deep.Strs
import Derived.Deep.Fields
import Derived.ChangeSame
import Derived.OpenShut
import Derived.Laws.AppendOwn
import Derived.Laws.OwnMore
set_option linter.all false
set_option maxRecDepth 100000
set_option maxHeartbeats 4000000
namespace Go.Proofs.YtmnleknehjkmgaaGreat
open Go.RowKit Go.ChangeShapes Go.WideShapes Go.Deep
theorem plain_cell {w : World} {a : Addr} {v : Value} (h : w.cell? (a.add 0) = some v) : ∃ b off, a = ⟨b, off, none⟩ := by
  obtain ⟨b, off, spot⟩ := a
  have hs : spot = none := by simpa [Addr.add] using World.cell?_spot h
  subst hs
  exact ⟨b, off, rfl⟩
theorem add_twice (b off i j : Nat) : ((⟨b, off, none⟩ : Addr).add i).add j = ⟨b, off + i + j, none⟩ := by
  unfold Addr.add
  by_cases hi : i = 0 <;> by_cases hj : j = 0 <;> simp [hi, hj]
section
variable {H : Type} {enc : TypeId × Value → H} {w : World} {spare : Nat → Bool} {fuel : Nat}
theorem open_opdC {cs : List Value} {x : DataW H × List MemPlace} (h : DataW.trod enc Tryz.prog w 0 spare true fuel 67 cs = some x) : ∃ t : Tr, cs = [.int .i64 t.1, .int .i64 t.2.1, .int .i64 t.2.2] := by
  obtain ⟨y0, y1, y2, n, _, hl, h0, h1, h2⟩ := trod_struct3 Tryz.underlying67 h
  have c3 : Tryz.prog.cellsOf 67 = 3 := by kernel_rfl
  have c1 : Tryz.prog.cellsOf 3 = 1 := by kernel_rfl
  rw [c3] at hl
  match cs, hl with
  | [p0, p1, p2], _ =>
    simp only [c1] at h0 h1 h2
    obtain ⟨k, e0, _, _⟩ := DataW.trod_int Tryz.underlying3 h0
    obtain ⟨r, e1, _, _⟩ := DataW.trod_int Tryz.underlying3 h1
    obtain ⟨m, e2, _, _⟩ := DataW.trod_int Tryz.underlying3 h2
    have e0' : p0 = .int .i64 k := by simpa using e0
    have e1' : p1 = .int .i64 r := by simpa using e1
    have e2' : p2 = .int .i64 m := by simpa using e2
    subst e0' e1' e2'
    exact ⟨(k, r, m), rfl⟩
theorem open_opds {v : Value} {x : DataW H × List MemPlace} (h : DataW.trod enc Tryz.prog w 0 spare true fuel 30 [v] = some x) :
    ∃ A len cap L, v = .slice A len cap ∧ len = L.length ∧ len ≤ maxLen ∧ OpsP w A L := by
  rcases Deep.open_slice Tryz.underlying30 h with ⟨hcs, _⟩ | ⟨a, len, cap, m, n, D, Pl, hcs, _, hl, hm, hmm, _, hx⟩
  · simp only [List.cons.injEq, and_true] at hcs
    exact ⟨none, 0, 0, [], hcs, rfl, Nat.zero_le _, .inl rfl⟩
  · simp only [List.cons.injEq, and_true] at hcs
    have hlm : len ≤ m := by rw [hmm]; split <;> omega
    have c3 : Tryz.prog.cellsOf 67 = 3 := by kernel_rfl
    have hall : ∀ i, i < len → ∃ t : Tr, w.cells? 0 (a.add (i * 3)) 3 = some [.int .i64 t.1, .int .i64 t.2.1, .int .i64 t.2.2] := fun i hi => by
      obtain ⟨cs, h1, h2⟩ := hx i (by omega)
      rw [c3] at h1
      obtain ⟨t, e⟩ := open_opdC h2
      rw [e] at h1
      exact ⟨t, h1⟩
    obtain ⟨f, hf⟩ := Deep.choose_lt hall
    refine ⟨some a, len, cap, (List.range len).map f, hcs, by simp, by omega, ?_⟩
    by_cases h0 : len = 0
    · left; subst h0; simp
    · have q := (World.cells?_some (hf 0 (by omega))).2.2 0 (by omega)
      rw [Nat.zero_mul, show (a.add 0).add 0 = a.add 0 by simp [Addr.add]] at q
      obtain ⟨b, off, rfl⟩ := plain_cell q
      refine .inr ⟨b, off, rfl, fun j hj => ?_⟩
      have hj' : j < len := by simpa using hj
      have e0 := (World.cells?_some (hf j hj')).2.2 0 (by omega)
      have e1 := (World.cells?_some (hf j hj')).2.2 1 (by omega)
      have e2 := (World.cells?_some (hf j hj')).2.2 2 (by omega)
      rw [add_twice] at e0 e1 e2
      simp only [List.getElem_map, List.getElem_range]
      exact ⟨e0, e1, e2⟩
end
end Go.Proofs.YtmnleknehjkmgaaGreat
namespace Go.Proofs.YtmnleknehjkmgaaGreat
open Go.RowKit
end Go.Proofs.YtmnleknehjkmgaaGreat
namespace Go.Proofs.YtmnleknehjkmgaaGreat
open Go.RowKit
def RowS (w : World) (n g off : Nat) (L : List Tr) : Prop := n ≤ g ∧ ∃ cur, w.heap[g]? = some (.cells cur 67 (0, 0)) ∧ ∀ j u, (cellsT L)[j]? = some u → cur[off + j]? = some u
def OwnS (w : World) (n : Nat) (v : Value) (L : List Tr) : Prop :=
  (v = .slice none 0 0 ∧ L = []) ∨ ∃ g off cap, v = .slice (some ⟨g, off, none⟩) L.length cap ∧ L.length ≤ cap ∧ cap ≤ maxLen ∧ RowS w n g off L
theorem RowS.lt {w : World} {n g off : Nat} {L : List Tr} (h : RowS w n g off L) : g < w.heap.size := by
  obtain ⟨-, cur, hc, -⟩ := h
  exact (Array.getElem?_eq_some_iff.1 hc).1
theorem RowS.below {w w' : World} {n g off : Nat} {L : List Tr} (h : RowS w n g off L) (hb : Below w.heap.size w w') : RowS w' n g off L := by
  have hl := h.lt
  obtain ⟨h1, cur, hc, h2⟩ := h
  exact ⟨h1, cur, (hb.block _ hl).trans hc, h2⟩
theorem RowS.cellAt {w : World} {n g off : Nat} {L : List Tr} (h : RowS w n g off L) (j : Nat) (u : Value) (e : (cellsT L)[j]? = some u) : w.cell? ⟨g, off + j, none⟩ = some u := by
  obtain ⟨-, cur, hc, h2⟩ := h
  rw [Lib.cell_of_heap hc]
  exact h2 j u e
theorem RowS.frozen {w : World} {n g off : Nat} {L : List Tr} (h : RowS w n g off L) (j : Nat) : w.frozen? ⟨g, j, none⟩ = false := by
  obtain ⟨-, cur, hc, -⟩ := h
  exact Lib.frozen_of_heap hc j
theorem RowS.at_ {w : World} {n g off : Nat} {L : List Tr} (h : RowS w n g off L) (j : Nat) (hj : j < L.length) : w.cell? ⟨g, off + j * 3, none⟩ = some (.int .i64 L[j].1) ∧ w.cell? ⟨g, off + j * 3 + 1, none⟩ = some (.int .i64 L[j].2.1) ∧ w.cell? ⟨g, off + j * 3 + 2, none⟩ = some (.int .i64 L[j].2.2) := by
  obtain ⟨h1, h2, h3⟩ := cellsT_at L j hj
  exact ⟨h.cellAt _ _ h1, by rw [Nat.add_assoc]; exact h.cellAt _ _ h2, by rw [Nat.add_assoc]; exact h.cellAt _ _ h3⟩
theorem RowS.put {w : World} {n g off : Nat} {L L' : List Tr} (h : RowS w n g off L) (j : Nat) (u : Value) (e : (cellsT L).set j u = cellsT L') : RowS (w.setCell ⟨g, off + j, none⟩ u) n g off L' := by
  obtain ⟨h1, cur, hc, h2⟩ := h
  refine ⟨h1, _, heap_setCell_same w g (off + j) _ _ u hc, fun k x hk => ?_⟩
  rw [← e, List.getElem?_set] at hk
  by_cases hjk : j = k
  · subst hjk
    rw [if_pos rfl] at hk
    have hlen : off + j < cur.size := by
      by_cases hj : j < (cellsT L).length
      · have := h2 j _ (List.getElem?_eq_getElem hj)
        exact (Array.getElem?_eq_some_iff.1 this).1
      · rw [if_neg hj] at hk; cases hk
    split at hk
    · simp only [Option.some.injEq] at hk
      subst hk
      simp [hlen]
    · cases hk
  · rw [if_neg hjk] at hk
    rw [Array.getElem?_setIfInBounds, if_neg (by omega)]
    exact h2 k x hk
theorem OwnS.below {w w' : World} {n : Nat} {v : Value} {L : List Tr} (h : OwnS w n v L) (hb : Below w.heap.size w w') : OwnS w' n v L := by
  rcases h with h | ⟨g, off, cap, h1, h2, h3, h4⟩
  · exact .inl h
  · exact .inr ⟨g, off, cap, h1, h2, h3, h4.below hb⟩
theorem OwnS.ops {w : World} {n : Nat} {v : Value} {L : List Tr} (h : OwnS w n v L) : ∃ A cap, v = .slice A L.length cap ∧ OpsP w A L ∧ L.length ≤ cap ∧ cap ≤ maxLen := by
  rcases h with ⟨rfl, rfl⟩ | ⟨g, off, cap, rfl, h2, h3, h4⟩
  · exact ⟨none, 0, rfl, .inl rfl, Nat.le_refl _, by unfold maxLen; omega⟩
  · exact ⟨_, cap, rfl, .inr ⟨g, off, rfl, fun j hj => h4.at_ j hj⟩, h2, h3⟩
theorem OwnT.own {w : World} {n : Nat} {v : Value} {L : List Tr} (h : OwnT w n v L) : OwnS w n v L := by
  obtain ⟨hl, h | ⟨g, cap, cur, rfl, h1, h2, h3, h4, h5, h6⟩⟩ := h
  · exact .inl ⟨h.1, List.eq_nil_of_length_eq_zero h.2⟩
  · refine .inr ⟨g, 0, cap, rfl, h3, h4, h1, cur, h2, fun j u hj => ?_⟩
    rw [← h6, List.getElem?_take] at hj
    split at hj
    · rw [Nat.zero_add]; simpa using hj
    · cases hj
theorem OwnS.lift {w : World} {n m : Nat} {v : Value} {L : List Tr} (h : OwnS w n v L) (k : m ≤ n) : OwnS w m v L := by
  rcases h with h | ⟨g, off, cap, h1, h2, h3, h4, h5⟩
  · exact .inl h
  · exact .inr ⟨g, off, cap, h1, h2, h3, Nat.le_trans k h4, h5⟩
theorem OwnS.alloc {w : World} {n : Nat} {v : Value} {L : List Tr} (h : OwnS w n v L) (o : Obj) : OwnS (w.alloc o) n v L := h.below ((Below.refl _ _).alloc (Nat.le_refl _) _)
end Go.Proofs.YtmnleknehjkmgaaGreat
namespace Go.Proofs.YtmnleknehjkmgaaGreat
open Go.RowKit Go.ChangeShapes Go.WideShapes Go.Deep
structure Ie where
  s : ByteArray
  A : Option Addr
  cap : Nat
  L : List Tr
instance : Inhabited Ie := ⟨⟨⟨#[]⟩, none, 0, []⟩⟩
def Ie.v (r : Ie) : Value := .slice r.A r.L.length r.cap
def InsP (w : World) (A : Option Addr) (R : List Ie) : Prop :=
  R = [] ∨ ∃ b off, A = some ⟨b, off, none⟩ ∧ ∀ j (h : j < R.length), w.cell? ⟨b, off + j * 2, none⟩ = some (.string R[j].s) ∧ w.cell? ⟨b, off + j * 2 + 1, none⟩ = some R[j].v ∧ OpsP w R[j].A R[j].L
theorem InsP.at_ {w : World} {A : Option Addr} {R : List Ie} (h : InsP w A R) {k : Nat} (hk : k < R.length) : ∃ b off, A = some ⟨b, off, none⟩ ∧ w.cell? ⟨b, off + k * 2, none⟩ = some (.string R[k].s) ∧ w.cell? ⟨b, off + k * 2 + 1, none⟩ = some R[k].v ∧ OpsP w R[k].A R[k].L := by
  rcases h with rfl | ⟨b, off, rfl, hc⟩
  · simp at hk
  · exact ⟨b, off, rfl, hc k hk⟩
theorem InsP.below {w w' : World} {A : Option Addr} {R : List Ie} (h : InsP w A R) (hb : Below w.heap.size w w') : InsP w' A R := by
  rcases h with rfl | ⟨b, off, rfl, hc⟩
  · exact .inl rfl
  · refine .inr ⟨b, off, rfl, fun j hj => ?_⟩
    have e : ∀ (p : Addr) (v : Value), w.cell? p = some v → w'.cell? p = some v := fun p v hp => (hb.cell (World.block_lt_of_cell? w _ hp)).trans hp
    obtain ⟨h1, h2, h3⟩ := hc j hj
    exact ⟨e _ _ h1, e _ _ h2, h3.below hb⟩
section
variable {H : Type} {enc : TypeId × Value → H} {w : World} {spare : Nat → Bool} {fuel : Nat}
theorem open_insC {cs : List Value} {x : DataW H × List MemPlace} (h : DataW.trod enc Tryz.prog w 0 spare true fuel 32 cs = some x) : ∃ r : Ie, cs = [.string r.s, r.v] ∧ r.s.size ≤ maxLen ∧ r.L.length ≤ maxLen ∧ OpsP w r.A r.L := by
  obtain ⟨y0, y1, n, _, hl, h0, h1⟩ := trod_struct2 Tryz.underlying32 h
  have c2 : Tryz.prog.cellsOf 32 = 2 := by kernel_rfl
  have c1 : Tryz.prog.cellsOf 9 = 1 := by kernel_rfl
  have c3 : Tryz.prog.cellsOf 30 = 1 := by kernel_rfl
  rw [c2] at hl
  match cs, hl with
  | [p0, p1], _ =>
    simp only [c1, c3] at h0 h1
    obtain ⟨s, e0, _, hs⟩ := DataW.trod_string Tryz.underlying9 h0
    have e0' : p0 = .string s := by simpa using e0
    simp only [List.drop_succ_cons, List.drop_zero, List.take_succ_cons, List.take_zero] at h1
    obtain ⟨A, len, cap, L, e2, e3, e4, hL⟩ := open_opds h1
    subst e0' e2 e3
    exact ⟨⟨s, A, cap, L⟩, rfl, hs, e4, hL⟩
end
def cellsE : List Ie → List Value
  | [] => []
  | r :: t => .string r.s :: r.v :: cellsE t
theorem cellsE_append : ∀ a b : List Ie, cellsE (a ++ b) = cellsE a ++ cellsE b
  | [], b => rfl
  | x :: t, b => by
    show _ :: _ :: cellsE (t ++ b) = _ :: _ :: (cellsE t ++ cellsE b)
    rw [cellsE_append t b]
theorem cellsE_at : ∀ (R : List Ie) (j : Nat) (h : j < R.length), (cellsE R)[j * 2]? = some (.string R[j].s) ∧ (cellsE R)[j * 2 + 1]? = some R[j].v
  | x :: t, 0, h => ⟨rfl, rfl⟩
  | x :: t, j + 1, h => by
    obtain ⟨h1, h2⟩ := cellsE_at t j (by simpa using h)
    have e : cellsE (x :: t) = .string x.s :: x.v :: cellsE t := rfl
    rw [e, show (j + 1) * 2 = j * 2 + 1 + 1 by omega, show j * 2 + 1 + 1 + 1 = (j * 2 + 1) + 1 + 1 by omega]
    simp only [List.getElem?_cons_succ, List.getElem_cons_succ]
    exact ⟨h1, h2⟩
theorem info_ins : (Tryz.prog.info? 32).map (fun i => (i.zero, i.size, i.bytes)) = some (some (.agg #[.string ⟨#[]⟩, .slice none 0 0]), 2, 40) := by kernel_rfl
def OwnE (w : World) (n : Nat) (v : Value) (R : List Ie) : Prop := w.ownsRow n 32 2 v R.length (cellsE R) ∧ ∀ r ∈ R, OwnT w n r.v r.L
theorem OwnE.below {w w' : World} {n : Nat} {v : Value} {R : List Ie} (h : OwnE w n v R) (k : Below w.heap.size w w') : OwnE w' n v R :=
  ⟨World.ownsRow.kept h.1 (row := none) ⟨k.os, k.tape, k.output, k.size, fun i hi _ => k.block i hi⟩ (by
    cases e : v.ownBlock with
    | none => exact .inl rfl
    | some g => exact .inr (by simp)), fun r hr => (h.2 r hr).below k⟩
theorem OwnE.ins {w : World} {n : Nat} {v : Value} {R : List Ie} (h : OwnE w n v R) : ∃ A cap, v = .slice A R.length cap ∧ InsP w A R ∧ R.length ≤ cap := by
  rcases h.1.2 with ⟨rfl, h0⟩ | ⟨g, cap, cur, rfl, _, _, hle, _⟩
  · have : R = [] := List.eq_nil_of_length_eq_zero h0
    subst this
    exact ⟨none, 0, rfl, .inl rfl, Nat.le_refl _⟩
  · refine ⟨_, cap, rfl, .inr ⟨g, 0, rfl, fun j hj => ?_⟩, hle⟩
    obtain ⟨h1, h2⟩ := cellsE_at R j hj
    rw [Nat.zero_add]
    obtain ⟨A', c', e, hP, -⟩ := (h.2 _ (List.getElem_mem hj)).ops
    simp only [Ie.v, Value.slice.injEq] at e
    refine ⟨(World.ownsRow.cellAt h.1 _ (by omega)).trans h1, (World.ownsRow.cellAt h.1 _ (by omega)).trans h2, ?_⟩
    rw [e.1]; exact hP
theorem ownE_nil (w : World) (n : Nat) : OwnE w n (.slice none 0 0) [] := ⟨World.ownsRow_nil _ _ _ _, fun r hr => absurd hr List.not_mem_nil⟩
theorem OwnT.kept {w w' : World} {n g : Nat} {v : Value} {L : List Tr} {row : Option Nat} (h : OwnT w n v L) (k : w.grownBy w' row) (hr : ∀ q, row = some q → ∀ cur fz, w.heap[q]? ≠ some (.cells cur 67 fz)) : OwnT w' n v L :=
  World.ownsRow.kept h k (by
    cases e : v.ownBlock with
    | none => exact .inl rfl
    | some q =>
      refine .inr fun e' => ?_
      rcases h.2 with ⟨rfl, _⟩ | ⟨g', cap, cur, rfl, _, hg, _⟩
      · simp [Value.ownBlock] at e
      · simp only [Value.ownBlock, Option.some.injEq] at e
        subst e
        exact hr _ e'.symm _ _ hg)
end Go.Proofs.YtmnleknehjkmgaaGreat
