/-
  What a round of record.Split's loop keeps and does.
-/
import Derived.Test.YtbnehcnimbkakaaRecV
namespace Go.Proofs.Ytbnehcnimbkakaa
open Go.RowKit Go.Shelf
set_option linter.unusedVariables false

/-- The bytes lie in a block that may be written. -/
def Wr (w : World) (A : Option Addr) (xs : List UInt8) : Prop := xs = [] ∨ ∃ b off cs t, A = some ⟨b, off, none⟩ ∧ w.heap[b]? = some (.cells cs t (0, 0))
theorem Wr.kept {w w' : World} {A : Option Addr} {xs : List UInt8} {P Q : Nat → Prop} (h : Wr w A xs) (hb : BytesP P w A xs) (k : KeptP Q w w') (hPQ : ∀ i, P i → Q i) : Wr w' A xs := by
  rcases h with h | ⟨b, off, cs, t, h1, h2⟩
  · exact .inl h
  · rcases hb with h | ⟨b', off', h3, h4, _⟩
    · exact .inl h
    · rw [h1] at h3
      simp only [Option.some.injEq, Addr.mk.injEq, and_true] at h3
      obtain ⟨rfl, rfl⟩ := h3
      exact .inr ⟨b, off, cs, t, h1, (k.block b (Array.getElem?_eq_some_iff.1 h2).1 (hPQ b h4)).trans h2⟩
theorem Wr.below {w w' : World} {A : Option Addr} {xs : List UInt8} (h : Wr w A xs) (k : Below w.heap.size w w') : Wr w' A xs := by
  rcases h with h | ⟨b, off, cs, t, h1, h2⟩
  · exact .inl h
  · exact .inr ⟨b, off, cs, t, h1, (k.block b (Array.getElem?_eq_some_iff.1 h2).1).trans h2⟩
theorem own_wr {w : World} {base : Nat} {e : TypeId} {n cap : Nat} {A : Option Addr} {xs : List UInt8} (h : w.ownsRow base e 1 (.slice A n cap) n (xs.map u8V)) : Wr w A xs := by
  rcases h.2 with ⟨h1, h0⟩ | ⟨g, cap', cur, h1, _, hg, _⟩
  · have := h.1
    rw [h0] at this
    left
    exact List.map_eq_nil_iff.1 (List.eq_nil_of_length_eq_zero (by omega))
  · simp only [Value.slice.injEq, true_and] at h1
    obtain ⟨rfl, rfl⟩ := h1
    exact .inr ⟨g, 0, cur, e, rfl, hg⟩
theorem keptP_grown {w w' : World} {row : Option Nat} (k : w.grownBy w' row) : KeptP (fun i => some i ≠ row) w w' := ⟨k.os, k.tape, k.output, k.size, fun i hi hp => k.block i hi hp⟩
theorem BytesP.cells {P : Nat → Prop} {w : World} {A : Option Addr} {xs : List UInt8} (h : BytesP P w A xs) : BytesP (fun i => P i ∧ ∃ o : Obj, w.heap[i]? = some o ∧ o.isCells = true) w A xs := by
  by_cases h0 : xs = []
  · exact .inl h0
  · rcases h with h | ⟨b, off, rfl, hp, hc⟩
    · exact absurd h h0
    · have hl : 0 < xs.length := List.length_pos_iff.2 h0
      exact .inr ⟨b, off, rfl, ⟨hp, cells_of_cell (hc 0 hl)⟩, hc⟩
/-- The turn of a block that is no cells. -/
theorem OwnR.turn {e : TypeId} {n₀ : Nat} {P : Nat → Prop} {w w' : World} {v : Value} {rs : List R} (h : OwnR e n₀ P w v rs) {row : Option Nat} (hg : w.grownBy w' row) (hr : ∀ r, row = some r → ∃ o : Obj, w.heap[r]? = some o ∧ o.isCells = false) : OwnR e n₀ P w' v rs := by
  refine ⟨h.1.kept hg ?_, fun r hm => ?_⟩
  · rcases h.1.2 with ⟨h1, _⟩ | ⟨g, cap, cur, h1, _, hgb, _⟩
    · rw [h1]; exact .inl rfl
    · rw [h1]
      refine .inr fun e' => ?_
      obtain ⟨o, ho, hc⟩ := hr g (by simpa [Value.ownBlock] using e'.symm)
      rw [hgb] at ho; cases ho; cases hc
  · refine ((h.2 r hm).cells.blocks fun i hi hp => hg.block i hi fun e' => ?_).mono fun i _ hp => hp.1
    obtain ⟨o, ho, hc⟩ := hr i e'.symm
    obtain ⟨o', ho', hc'⟩ := hp.2
    rw [ho] at ho'; cases ho'; rw [hc] at hc'; cases hc'
theorem Wr.turn {w w' : World} {A : Option Addr} {xs : List UInt8} (h : Wr w A xs) {row : Option Nat} (hg : w.grownBy w' row) (hr : ∀ r, row = some r → ∃ o : Obj, w.heap[r]? = some o ∧ o.isCells = false) : Wr w' A xs := by
  rcases h with h | ⟨b, off, cs, t, h1, h2⟩
  · exact .inl h
  · refine .inr ⟨b, off, cs, t, h1, (hg.block b (Array.getElem?_eq_some_iff.1 h2).1 fun e' => ?_).trans h2⟩
    obtain ⟨o, ho, hc⟩ := hr b e'.symm
    rw [h2] at ho; cases ho; cases hc

/-! ### What has come -/
def sumL (xs : List UInt8) (s : Nat) (pre : List Nat) : Nat := (pre.map fun x => (chD xs s x).length).sum
theorem sumL_snoc (xs : List UInt8) (s : Nat) (pre : List Nat) (x : Nat) : sumL xs s (pre ++ [x]) = sumL xs s pre + (chD xs s x).length := by unfold sumL; simp
theorem sumL_le (xs : List UInt8) (s : Nat) (hs : s ≤ 255) (pre : List Nat) : sumL xs s pre ≤ 255 * pre.length := by
  unfold sumL
  induction pre with
  | nil => simp
  | cons x t ih =>
    have h := chD_length xs s x
    simp only [List.map_cons, List.sum_cons, List.length_cons]
    omega
def acc (ad : Int) (xs : List UInt8) (s : Nat) (pre : List Nat) : List (Int × List UInt8) := (List.range pre.length).map fun k => (ad + (sumL xs s (pre.take k) : Int), chD xs s (pre.getD k 0))
theorem acc_length (ad : Int) (xs : List UInt8) (s : Nat) (pre : List Nat) : (acc ad xs s pre).length = pre.length := by unfold acc; simp
theorem acc_snoc (ad : Int) (xs : List UInt8) (s : Nat) (pre : List Nat) (x : Nat) : acc ad xs s (pre ++ [x]) = acc ad xs s pre ++ [(ad + (sumL xs s pre : Int), chD xs s x)] := by
  unfold acc
  rw [List.length_append, List.length_singleton, List.range_succ, List.map_append]
  congr 1
  · refine List.map_congr_left fun k hk => ?_
    have hk' : k < pre.length := List.mem_range.1 hk
    rw [List.take_append_of_le_length (by omega), List.getD_eq_getElem?_getD, List.getD_eq_getElem?_getD, List.getElem?_append_left hk']
  · simp
theorem sumL_range (xs : List UInt8) (s k : Nat) : sumL xs s (List.range k) = min (k * s) xs.length := by
  induction k with
  | zero => simp [sumL]
  | succ k ih =>
    rw [List.range_succ, sumL_snoc, ih, chD_length, Nat.add_mul, Nat.one_mul]
    omega
theorem acc_range (ad : Int) (xs : List UInt8) (s m : Nat) (hs : 1 ≤ s) (hm : m ≤ cnt xs.length s) : acc ad xs s (List.range m) = spl ad xs s m := by
  unfold acc spl
  rw [List.length_range]
  refine List.map_congr_left fun k hk => ?_
  have hk' : k < m := List.mem_range.1 hk
  have h1 := (cnt_lt xs.length s k hs).1 (by omega)
  rw [List.take_range, sumL_range, show min k m = k by omega, show min (k * s) xs.length = k * s by omega, List.getD_eq_getElem?_getD, List.getElem?_range hk']
  rfl

/-! ### Between two rounds -/
/-- Box bl holds the row of the records, box ba the next address; what was there before the loop is as it was. -/
def SInv (w0 : World) (ba bl n1 : Nat) (ad : Int) (xs : List UInt8) (s : Nat) (pre : List Nat) (W : World) : Prop :=
  ∃ v rs, Boxed W bl 48 v ∧ Boxed W ba 3 (.int .i64 (ad + (sumL xs s pre : Int))) ∧ OwnR 28 n1 (n1 ≤ ·) W v rs ∧ (∀ r ∈ rs, Wr W r.A r.data) ∧ pairs rs = acc ad xs s pre ∧ KeptP (fun i => i < n1 ∧ i ≠ ba ∧ i ≠ bl) w0 W
theorem SInv.own {w0 : World} {ba bl n1 : Nat} {ad : Int} {xs : List UInt8} {s : Nat} (h1 : ba < n1) (h2 : bl < n1) : OwnFrom n1 (SInv w0 ba bl n1 ad xs s) := by
  rintro pre X Y row ⟨v, rs, a1, a2, a3, a4, a5, a6⟩ hg hr
  have hn : ∀ b, b < n1 → some b ≠ row := fun b hb e => by
    have := (hr b e.symm).1
    omega
  exact ⟨v, rs, a1.kept hg (hn _ h2), a2.kept hg (hn _ h1), a3.turn hg fun r e => (hr r e).2, fun r hm => (a4 r hm).turn hg fun r e => (hr r e).2, a5, a6.grown hg fun k e hk => hn k hk.1 e.symm⟩
theorem SInv.drew {w0 : World} {ba bl n1 : Nat} {ad : Int} {xs : List UInt8} {s : Nat} {pre : List Nat} {W : World} (h : SInv w0 ba bl n1 ad xs s pre W) : SInv w0 ba bl n1 ad xs s pre W.drew := by
  obtain ⟨v, rs, a1, a2, a3, a4, a5, a6⟩ := h
  have k : KeptP (fun _ => True) W W.drew := (KeptP.refl _ _).drew
  exact ⟨v, rs, a1, a2, a3.kept k (fun _ _ => trivial) fun _ _ => trivial, fun r hm => (a4 r hm).kept (a3.2 r hm) k fun _ _ => trivial, a5, a6.drew⟩
theorem keepsOthers_of_below {w w' : World} (h : Below w.heap.size w w') : KeepsOthers w w' := ⟨h.size, fun k o hk _ => (h.block k (Array.getElem?_eq_some_iff.1 hk).1).trans hk⟩
/-- A round: the piece is cloned, the record appended, the address moved on. -/
theorem SInv.step {w0 : World} {ba bl n1 : Nat} {ad : Int} {xs : List UInt8} {s : Nat} {pre : List Nat} {W : World} (hw0 : w0.heap.size = n1) (hba : ba < n1) (hbl : bl < n1) (hne : ba ≠ bl) (hlen : pre.length ≤ 65536) {v : Value} {rs : List R} {a : Int} (ha : ad + (sumL xs s pre : Int) = a)
    (a1 : Boxed W bl 48 v) (a2 : Boxed W ba 3 (.int .i64 a)) (a3 : OwnR 28 n1 (n1 ≤ ·) W v rs) (a4 : ∀ r ∈ rs, Wr W r.A r.data) (a5 : pairs rs = acc ad xs s pre) (a6 : KeptP (fun i => i < n1 ∧ i ≠ ba ∧ i ≠ bl) w0 W) (x : Nat)
    {A1 : Option Addr} {cap1 n : Nat} (hn : (chD xs s x).length = n) {w2 : World} (hO : OwnB W w2 (.slice A1 n cap1) (chD xs s x)) (ty : TypeId) :
    ∃ g cap' w4, (Builtin.append_ #[48, 48] ty #[v, .slice (some ⟨w2.heap.size, 0, none⟩) 1 1]).run Try.prog (w2.alloc (.cells #[.int .i64 0, .int .i64 a, .slice A1 n cap1] 28)) = .ok (.slice (some ⟨g, 0, none⟩) (rs.length + 1) cap') w4 ∧
      (Boxed w2 bl 48 v ∧ Boxed w2 ba 3 (.int .i64 a)) ∧ (Boxed w4 bl 48 v ∧ Boxed w4 ba 3 (.int .i64 a)) ∧
      KeepsFrom n1 W ((w4.setCell ⟨bl, 0, none⟩ (.slice (some ⟨g, 0, none⟩) (rs.length + 1) cap')).setCell ⟨ba, 0, none⟩ (.int .i64 (a + (n : Int)))) ∧
      KeptP (fun i => i < n1 ∧ i ≠ ba ∧ i ≠ bl) W ((w4.setCell ⟨bl, 0, none⟩ (.slice (some ⟨g, 0, none⟩) (rs.length + 1) cap')).setCell ⟨ba, 0, none⟩ (.int .i64 (a + (n : Int)))) ∧
      SInv w0 ba bl n1 ad xs s (pre ++ [x]) ((w4.setCell ⟨bl, 0, none⟩ (.slice (some ⟨g, 0, none⟩) (rs.length + 1) cap')).setCell ⟨ba, 0, none⟩ (.int .i64 (a + (n : Int)))) := by
  subst ha hn
  have hW : n1 ≤ W.heap.size := hw0 ▸ a6.size
  have hb2 := hO.2
  obtain ⟨A1', cap1', hv, hB⟩ := own_bytes hO.1 rfl
  simp only [Value.slice.injEq, true_and] at hv
  obtain ⟨rfl, rfl⟩ := hv
  have hF := own_wr hO.1
  obtain ⟨ob, hob⟩ : ∃ o, Obj.cells #[.int .i64 0, .int .i64 (ad + (sumL xs s pre : Int)), .slice A1 (chD xs s x).length cap1] 28 = o := ⟨_, rfl⟩
  have hal : Below w2.heap.size w2 (w2.alloc ob) := (Below.refl _ _).alloc (Nat.le_refl _) ob
  have tc := three_cells w2 w2.heap.size rfl (.int .i64 0) (.int .i64 (ad + (sumL xs s pre : Int))) (.slice A1 (chD xs s x).length cap1) 28
  rw [hob] at tc ⊢
  have b3 := (a3.below hb2).alloc ob
  have hd : BytesP (fun i => n1 ≤ i ∧ some i ≠ v.ownBlock) (w2.alloc ob) A1 (chD xs s x) := (hB.below hal).mono fun i _ hi => ⟨Nat.le_trans hW hi.1, fun h => by
    have h5 := (a3.1.lt i h.symm).2
    have h6 := hi.1
    omega⟩
  have hrs : rs.length = pre.length := by
    have := congrArg List.length a5
    rw [acc_length] at this
    unfold pairs at this
    simpa using this
  obtain ⟨v', w4, k1, k2, k3, k5⟩ := append_rec 48 28 Try.underlying48 info_rec (n₀ := n1) (Nat.le_trans hW (Nat.le_trans hb2.size hal.size)) b3 ⟨ad + (sumL xs s pre : Int), A1, cap1, chD xs s x⟩ ⟨w2.heap.size, 0, none⟩ 1 (by simpa [Addr.add] using tc.1) (by simpa [Addr.add] using tc.2.1) (by simpa [Addr.add] using tc.2.2) hd (by omega) ty
  have k2' := k2.1
  rw [List.length_append, List.length_singleton] at k2'
  obtain ⟨g, cap', rfl⟩ := ownsRow_succ k2'
  have hg1 : n1 ≤ g := (k2'.lt g rfl).1
  have hb3 : Below W.heap.size W (w2.alloc ob) := hb2.trans (hal.mono hb2.size)
  have c1 : Boxed w2 bl 48 v := (hb2.block bl a1.lt).trans a1
  have c2 : Boxed w2 ba 3 (.int .i64 (ad + (sumL xs s pre : Int))) := (hb2.block ba a2.lt).trans a2
  have hrow : ∀ k, v.ownBlock = some k → n1 ≤ k := fun k hk => (a3.1.lt k hk).1
  have d1 : Boxed w4 bl 48 v := (c1.alloc ob).kept k3 fun e => by have := hrow bl e.symm; omega
  have d2 : Boxed w4 ba 3 (.int .i64 (ad + (sumL xs s pre : Int))) := (c2.alloc ob).kept k3 fun e => by have := hrow ba e.symm; omega
  obtain ⟨w5, hw5⟩ : ∃ w5, w4.setCell ⟨bl, 0, none⟩ (.slice (some ⟨g, 0, none⟩) (rs.length + 1) cap') = w5 := ⟨_, rfl⟩
  have e1 : Boxed w5 bl 48 (.slice (some ⟨g, 0, none⟩) (rs.length + 1) cap') := hw5 ▸ d1.set _
  have e2 : Boxed w5 ba 3 (.int .i64 (ad + (sumL xs s pre : Int))) := hw5 ▸ d2.other hne _
  obtain ⟨w6, hw6⟩ : ∃ w6, w5.setCell ⟨ba, 0, none⟩ (.int .i64 (ad + (sumL xs s pre : Int) + ((chD xs s x).length : Int))) = w6 := ⟨_, rfl⟩
  have f1 : Boxed w6 bl 48 (.slice (some ⟨g, 0, none⟩) (rs.length + 1) cap') := hw6 ▸ e1.other (Ne.symm hne) _
  have f2 : Boxed w6 ba 3 (.int .i64 (ad + (sumL xs s pre : Int) + ((chD xs s x).length : Int))) := hw6 ▸ e2.set _
  have K46 : KeptP (fun i => i ≠ bl ∧ i ≠ ba) w4 w6 := by
    rw [← hw6, ← hw5]
    exact ((KeptP.refl _ _).setCell (by simp) _).setCell (by simp) _
  have KQ : KeptP (fun i => i < n1 ∧ i ≠ ba ∧ i ≠ bl) W w6 :=
    (((KeptP.of_all hb3).grown k3 fun k hk hq => by have := hrow k hk; omega).trans (K46.mono fun i _ hq => ⟨hq.2.2, hq.2.1⟩))
  have KF : KeepsFrom n1 W w6 := by
    have q1 : KeepsOthers W (w2.alloc ob) := keepsOthers_of_below hb3
    have q2 : KeepsOthers (w2.alloc ob) w4 := KeepsOthers.of_grownBy k3 fun j o ej hj => by
      rcases b3.1.2 with ⟨rfl, _⟩ | ⟨g0, cap0, cur, rfl, _, hgb, _⟩
      · simp [Value.ownBlock] at ej
      · obtain rfl : g0 = j := by simpa [Value.ownBlock] using ej
        rw [hgb] at hj; cases hj; rfl
    rw [← hw6, ← hw5]
    exact (((q1.trans q2).trans (KeepsOthers.setCell _ _ _)).trans (KeepsOthers.setCell _ _ _)).from _
  refine ⟨g, cap', w4, k1, ⟨c1, c2⟩, ⟨d1, d2⟩, ?_⟩
  rw [hw5, hw6]
  refine ⟨KF, KQ, _, rs ++ [⟨ad + (sumL xs s pre : Int), A1, cap1, chD xs s x⟩], f1, ?_, ?_, ?_, ?_, a6.trans KQ⟩
  · rw [sumL_snoc, show ad + ((sumL xs s pre + (chD xs s x).length : Nat) : Int) = ad + (sumL xs s pre : Int) + ((chD xs s x).length : Int) by omega]
    exact f2
  · exact k2.kept K46 (fun i hi => by
      have := Option.some.inj hi
      subst this
      omega) fun i hi => by
        have : n1 ≤ i := hi
        omega
  · have W3 : ∀ r ∈ rs ++ [(⟨ad + (sumL xs s pre : Int), A1, cap1, chD xs s x⟩ : R)], Wr w4 r.A r.data := fun r hr => by
      have hx : BytesP (fun i => n1 ≤ i ∧ some i ≠ v.ownBlock) (w2.alloc ob) r.A r.data ∧ Wr (w2.alloc ob) r.A r.data := by
        rcases List.mem_append.1 hr with hr | hr
        · exact ⟨b3.2 r hr, ((a4 r hr).below hb2).below hal⟩
        · rw [List.mem_singleton.1 hr]
          exact ⟨hd, hF.below hal⟩
      exact hx.2.kept hx.1 (keptP_grown k3) fun i hi => hi.2
    intro r hr
    exact (W3 r hr).kept (k2.2 r hr) K46 fun i hi => by
      have : n1 ≤ i := hi.1
      omega
  · rw [pairs_snoc, a5, acc_snoc]
end Go.Proofs.Ytbnehcnimbkakaa
