/-
  Slices of instructions that came in; rows of instructions of the call's own.
-/
import Derived.Test.YtbmgfkbgfgknbaaInW
import Derived.Test.YtbmgfkbgfgknbaaCnD
import Derived.Laws.AppendOwn
import Derived.Laws.OwnMore
namespace Go.Proofs.Ytbmgfkbgfgknbaa
open Go.RowKit Go.ChangeShapes Go.WideShapes Go.Deep
set_option linter.unusedVariables false

/-- An instruction as its parts: the mnemonic, where its operands lie, and the operands. -/
structure Ie where
  s : ByteArray
  A : Option Addr
  cap : Nat
  L : List Tr
instance : Inhabited Ie := ⟨⟨⟨#[]⟩, none, 0, []⟩⟩
def Ie.v (r : Ie) : Value := .slice r.A r.L.length r.cap
def InsP (w : World) (A : Option Addr) (R : List Ie) : Prop :=
  R = [] ∨ ∃ b off, A = some ⟨b, off, none⟩ ∧ ∀ j (h : j < R.length), w.cell? ⟨b, off + j * 2, none⟩ = some (.string R[j].s) ∧ w.cell? ⟨b, off + j * 2 + 1, none⟩ = some R[j].v ∧ OpsP w R[j].A R[j].L
theorem InsP.at_ {w : World} {A : Option Addr} {R : List Ie} (h : InsP w A R) {k : Nat} (hk : k < R.length) : ∃ b off, A = some ⟨b, off, none⟩ ∧ w.cell? ⟨b, off + k * 2, none⟩ = some (.string R[k].s) ∧ w.cell? ⟨b, off + k * 2 + 1, none⟩ = some R[k].v ∧ OpsP w R[k].A R[k].L := by
  rcases h with rfl | ⟨b, off, rfl, hc⟩
  · simp at hk
  · exact ⟨b, off, rfl, hc k hk⟩
theorem InsP.below {w w' : World} {A : Option Addr} {R : List Ie} (h : InsP w A R) (hb : Below w.heap.size w w') : InsP w' A R := by
  rcases h with rfl | ⟨b, off, rfl, hc⟩
  · exact .inl rfl
  · refine .inr ⟨b, off, rfl, fun j hj => ?_⟩
    have e : ∀ (p : Addr) (v : Value), w.cell? p = some v → w'.cell? p = some v := fun p v hp => (hb.cell (World.block_lt_of_cell? w _ hp)).trans hp
    obtain ⟨h1, h2, h3⟩ := hc j hj
    exact ⟨e _ _ h1, e _ _ h2, h3.below hb⟩
section
variable {H : Type} {enc : TypeId × Value → H} {w : World} {spare : Nat → Bool} {fuel : Nat}
set_option maxRecDepth 100000 in
theorem open_insC {cs : List Value} {x : DataW H × List MemPlace} (h : DataW.trod enc Try.prog w 0 spare true fuel 24 cs = some x) : ∃ r : Ie, cs = [.string r.s, r.v] ∧ r.s.size ≤ maxLen ∧ r.L.length ≤ maxLen ∧ OpsP w r.A r.L := by
  obtain ⟨y0, y1, n, _, hl, h0, h1⟩ := trod_struct2 Try.underlying24 h
  have c2 : Try.prog.cellsOf 24 = 2 := by kernel_rfl
  have c1 : Try.prog.cellsOf 9 = 1 := by kernel_rfl
  have c3 : Try.prog.cellsOf 22 = 1 := by kernel_rfl
  rw [c2] at hl
  match cs, hl with
  | [p0, p1], _ =>
    simp only [c1, c3] at h0 h1
    obtain ⟨s, e0, _, hs⟩ := DataW.trod_string Try.underlying9 h0
    have e0' : p0 = .string s := by simpa using e0
    simp only [List.drop_succ_cons, List.drop_zero, List.take_succ_cons, List.take_zero] at h1
    obtain ⟨A, len, cap, L, e2, e3, e4, hL⟩ := open_opds h1
    subst e0' e2 e3
    exact ⟨⟨s, A, cap, L⟩, rfl, hs, e4, hL⟩
set_option maxRecDepth 100000 in
theorem open_inss {v : Value} {x : DataW H × List MemPlace} (h : DataW.trod enc Try.prog w 0 spare true fuel 30 [v] = some x) :
    ∃ A len cap R, v = .slice A len cap ∧ len = R.length ∧ len ≤ maxLen ∧ InsP w A R ∧ ∀ r ∈ R, r.s.size ≤ maxLen ∧ r.L.length ≤ maxLen := by
  rcases Deep.open_slice Try.underlying30 h with ⟨hcs, _⟩ | ⟨a, len, cap, m, n, D, Pl, hcs, _, hl, hm, hmm, _, hx⟩
  · simp only [List.cons.injEq, and_true] at hcs
    exact ⟨none, 0, 0, [], hcs, rfl, Nat.zero_le _, .inl rfl, fun r hr => absurd hr List.not_mem_nil⟩
  · simp only [List.cons.injEq, and_true] at hcs
    have hlm : len ≤ m := by rw [hmm]; split <;> omega
    have c2 : Try.prog.cellsOf 24 = 2 := by kernel_rfl
    have hall : ∀ i, i < len → ∃ r : Ie, w.cells? 0 (a.add (i * 2)) 2 = some [.string r.s, r.v] ∧ r.s.size ≤ maxLen ∧ r.L.length ≤ maxLen ∧ OpsP w r.A r.L := fun i hi => by
      obtain ⟨cs, h1, h2⟩ := hx i (by omega)
      rw [c2] at h1
      obtain ⟨r, e, h3, h4, h5⟩ := open_insC h2
      rw [e] at h1
      exact ⟨r, h1, h3, h4, h5⟩
    obtain ⟨f, hf⟩ := Deep.choose_lt hall
    refine ⟨some a, len, cap, (List.range len).map f, hcs, by simp, by omega, ?_, ?_⟩
    · by_cases h0 : len = 0
      · left; subst h0; simp
      · have q := (World.cells?_some (hf 0 (by omega)).1).2.2 0 (by omega)
        rw [Nat.zero_mul, show (a.add 0).add 0 = a.add 0 by simp [Addr.add]] at q
        obtain ⟨b, off, rfl⟩ := plain_cell q
        refine .inr ⟨b, off, rfl, fun j hj => ?_⟩
        have hj' : j < len := by simpa using hj
        have e0 := (World.cells?_some (hf j hj').1).2.2 0 (by omega)
        have e1 := (World.cells?_some (hf j hj').1).2.2 1 (by omega)
        rw [add_twice] at e0 e1
        simp only [List.getElem_map, List.getElem_range]
        exact ⟨e0, e1, (hf j hj').2.2.2⟩
    · intro r hr
      obtain ⟨i, hi, rfl⟩ := List.mem_map.1 hr
      exact ⟨(hf i (List.mem_range.1 hi)).2.1, (hf i (List.mem_range.1 hi)).2.2.1⟩
end
/-! ### A row of instructions of the call's own -/
def cellsE : List Ie → List Value
  | [] => []
  | r :: t => .string r.s :: r.v :: cellsE t
theorem cellsE_length : ∀ R : List Ie, (cellsE R).length = R.length * 2
  | [] => rfl
  | r :: t => by
    have h := cellsE_length t
    show (cellsE t).length + 1 + 1 = (t.length + 1) * 2
    omega
theorem cellsE_append : ∀ a b : List Ie, cellsE (a ++ b) = cellsE a ++ cellsE b
  | [], b => rfl
  | x :: t, b => by
    show _ :: _ :: cellsE (t ++ b) = _ :: _ :: (cellsE t ++ cellsE b)
    rw [cellsE_append t b]
theorem cellsE_at : ∀ (R : List Ie) (j : Nat) (h : j < R.length), (cellsE R)[j * 2]? = some (.string R[j].s) ∧ (cellsE R)[j * 2 + 1]? = some R[j].v
  | x :: t, 0, h => ⟨rfl, rfl⟩
  | x :: t, j + 1, h => by
    obtain ⟨h1, h2⟩ := cellsE_at t j (by simpa using h)
    have e : cellsE (x :: t) = .string x.s :: x.v :: cellsE t := rfl
    rw [e, show (j + 1) * 2 = j * 2 + 1 + 1 by omega, show j * 2 + 1 + 1 + 1 = (j * 2 + 1) + 1 + 1 by omega]
    simp only [List.getElem?_cons_succ, List.getElem_cons_succ]
    exact ⟨h1, h2⟩
theorem info_ins : (Try.prog.info? 24).map (fun i => (i.zero, i.size, i.bytes)) = some (some (.agg #[.string ⟨#[]⟩, .slice none 0 0]), 2, 40) := by kernel_rfl
/-- A row of instructions of the call's own, whose operands are its own too. -/
def OwnE (w : World) (n : Nat) (v : Value) (R : List Ie) : Prop := w.ownsRow n 24 2 v R.length (cellsE R) ∧ ∀ r ∈ R, OwnT w n r.v r.L
theorem OwnE.below {w w' : World} {n : Nat} {v : Value} {R : List Ie} (h : OwnE w n v R) (k : Below w.heap.size w w') : OwnE w' n v R :=
  ⟨World.ownsRow.kept h.1 (row := none) ⟨k.os, k.tape, k.output, k.size, fun i hi _ => k.block i hi⟩ (by
    cases e : v.ownBlock with
    | none => exact .inl rfl
    | some g => exact .inr (by simp)), fun r hr => (h.2 r hr).below k⟩
theorem OwnE.ins {w : World} {n : Nat} {v : Value} {R : List Ie} (h : OwnE w n v R) : ∃ A cap, v = .slice A R.length cap ∧ InsP w A R ∧ R.length ≤ cap := by
  rcases h.1.2 with ⟨rfl, h0⟩ | ⟨g, cap, cur, rfl, _, _, hle, _⟩
  · have : R = [] := List.eq_nil_of_length_eq_zero h0
    subst this
    exact ⟨none, 0, rfl, .inl rfl, Nat.le_refl _⟩
  · refine ⟨_, cap, rfl, .inr ⟨g, 0, rfl, fun j hj => ?_⟩, hle⟩
    obtain ⟨h1, h2⟩ := cellsE_at R j hj
    rw [Nat.zero_add]
    obtain ⟨A', c', e, hP, -⟩ := (h.2 _ (List.getElem_mem hj)).ops
    simp only [Ie.v, Value.slice.injEq] at e
    refine ⟨(World.ownsRow.cellAt h.1 _ (by omega)).trans h1, (World.ownsRow.cellAt h.1 _ (by omega)).trans h2, ?_⟩
    rw [e.1]; exact hP
theorem ownE_nil (w : World) (n : Nat) : OwnE w n (.slice none 0 0) [] := ⟨World.ownsRow_nil _ _ _ _, fun r hr => absurd hr List.not_mem_nil⟩
theorem OwnT.kept {w w' : World} {n g : Nat} {v : Value} {L : List Tr} {row : Option Nat} (h : OwnT w n v L) (k : w.grownBy w' row) (hr : ∀ q, row = some q → ∀ cur fz, w.heap[q]? ≠ some (.cells cur 33 fz)) : OwnT w' n v L :=
  World.ownsRow.kept h k (by
    cases e : v.ownBlock with
    | none => exact .inl rfl
    | some q =>
      refine .inr fun e' => ?_
      rcases h.2 with ⟨rfl, _⟩ | ⟨g', cap, cur, rfl, _, hg, _⟩
      · simp [Value.ownBlock] at e
      · simp only [Value.ownBlock, Option.some.injEq] at e
        subst e
        exact hr _ e'.symm _ _ hg)
/-- append of one instruction. -/
theorem run_appE (w : World) (B : Nat) (v : Value) (R : List Ie) (hR : R.length ≤ 1000) (h : OwnE w B v R) (r : Ie) (ho : OwnT w B r.v r.L) (hB : B ≤ w.heap.size) :
    ∃ v' w', (Builtin.append_ #[30, 30] 30 #[v, .slice (some ⟨w.heap.size, 0, none⟩) 1 1]).run Try.prog (w.alloc (.cells #[.string r.s, r.v] 24)) = .ok v' w' ∧ OwnE w' B v' (R ++ [r]) ∧ Below B w w' := by
  obtain ⟨i0, hi, hz0, hz1, hz2⟩ := info_parts info_ins
  obtain ⟨w1, hw1⟩ : ∃ w1, w.alloc (.cells #[.string r.s, r.v] 24) = w1 := ⟨_, rfl⟩
  have hb : Below w.heap.size w w1 := by rw [← hw1]; exact (Below.refl _ _).alloc (Nat.le_refl _) _
  have h1 := h.below hb
  have hc : w1.heap[w.heap.size]? = some (.cells #[.string r.s, r.v] 24 (0, 0)) := by rw [← hw1]; exact heap_alloc_new w _
  have hs1 : w1.heap.size = w.heap.size + 1 := by rw [← hw1]; simp
  rw [hw1]
  obtain ⟨v', w', k1, k2, k3⟩ := run_append_src w1 B 30 30 24 i0 _ 2 40 Try.underlying30 hi hz0 hz1 hz2 rfl (by decide) v R.length (cellsE R) h1.1 (some ⟨w.heap.size, 0, none⟩) 1 1 [.string r.s, r.v]
    rfl (.inr ⟨_, rfl, fun j u hj => by
      rw [show (⟨w.heap.size, 0, none⟩ : Addr).add j = ⟨w.heap.size, 0 + j, none⟩ by unfold Addr.add; split <;> simp_all, Nat.zero_add, Lib.cell_of_heap hc]
      match j, hj with
      | 0, hj => exact hj
      | 1, hj => exact hj
      | j + 2, hj => cases hj⟩) (fun u hu => by
      rcases List.mem_cons.1 hu with rfl | hu
      · rfl
      · obtain rfl := List.mem_singleton.1 hu
        rfl) (by unfold maxLen; omega) (by omega) (by omega)
  have hty : ∀ q, v.ownBlock = some q → ∀ cur fz, w1.heap[q]? ≠ some (.cells cur 33 fz) := fun q hq cur fz hx => by
    rcases h1.1.2 with ⟨rfl, _⟩ | ⟨g', cap, cur', rfl, _, hg, _⟩
    · simp [Value.ownBlock] at hq
    · simp only [Value.ownBlock, Option.some.injEq] at hq
      subst hq
      rw [hx] at hg
      simp at hg
  refine ⟨v', w', k1, ⟨?_, fun r' hr' => ?_⟩, ?_⟩
  · rw [cellsE_append, List.length_append]
    exact k2
  · rcases List.mem_append.1 hr' with hr' | hr'
    · exact OwnT.kept (g := 0) (h1.2 r' hr') k3 hty
    · obtain rfl := List.mem_singleton.1 hr'
      exact OwnT.kept (g := 0) (ho.below hb) k3 hty
  · exact (hb.mono hB).grown k3 (by omega) fun k hk => (World.ownsRow.lt h1.1 k hk).1
end Go.Proofs.Ytbmgfkbgfgknbaa
