/-
  What rounds of a loop over a function keep; a box with a row that grows by one element a round. No program of its own: laws over any program.
-/
import Derived.Test.YtbcbhdhhinopaaaDoorEach
import Derived.RangeFuncBox
import Derived.RangeFuncOwn
import Derived.RangeFuncWrites
import Derived.Maps.AppendAt
import Derived.Laws.OwnMore
namespace Go.Col
open Go Go.RowKit
set_option linter.unusedVariables false

/-- The blocks with the property Q are as they were. -/
structure Kept (Q : Nat → Obj → Prop) (w w' : World) : Prop where
  os : w'.os = w.os
  tape : w'.tape = w.tape
  output : w'.output = w.output
  size : w.heap.size ≤ w'.heap.size
  block : ∀ i o, w.heap[i]? = some o → Q i o → w'.heap[i]? = some o
variable {Q : Nat → Obj → Prop}
theorem Kept.refl (Q : Nat → Obj → Prop) (w : World) : Kept Q w w := ⟨rfl, rfl, rfl, Nat.le_refl _, fun _ _ h _ => h⟩
theorem Kept.trans {w w1 w2 : World} (h : Kept Q w w1) (k : Kept Q w1 w2) : Kept Q w w2 :=
  ⟨k.os.trans h.os, k.tape.trans h.tape, k.output.trans h.output, Nat.le_trans h.size k.size, fun i o hi hq => k.block i o (h.block i o hi hq) hq⟩
theorem Kept.of_all {w w' : World} (h : Below w.heap.size w w') : Kept Q w w' :=
  ⟨h.os, h.tape, h.output, h.size, fun i o hi _ => (h.block i (Array.getElem?_eq_some_iff.1 hi).1).trans hi⟩
theorem Kept.grown {w w' : World} {row : Option Nat} (h : w.grownBy w' row) (hr : ∀ k o, row = some k → w.heap[k]? = some o → ¬ Q k o) : Kept Q w w' :=
  ⟨h.os, h.tape, h.output, h.size, fun i o hi hq => (h.block i (Array.getElem?_eq_some_iff.1 hi).1 fun e => hr i o e.symm hi hq).trans hi⟩
theorem Kept.putObj (W : World) (l : Nat) (o o' : Obj) (hl : W.heap[l]? = some o) (h : ¬ Q l o) : Kept Q W (W.putObj l o') :=
  Kept.grown (grownBy_putObj' W l o') fun k x e hx => by cases e; rw [hl] at hx; cases hx; exact h
theorem Kept.below {B : Nat} {w w' : World} (h : Kept (fun i _ => i < B) w w') (hB : B ≤ w.heap.size) : Below B w w' :=
  ⟨h.os, h.tape, h.output, h.size, fun i hi => by
    obtain ⟨o, ho⟩ : ∃ o, w.heap[i]? = some o := ⟨_, Array.getElem?_eq_getElem (by omega)⟩
    rw [h.block i o ho hi, ho]⟩
theorem grown_none {X Y : World} (k : Below X.heap.size X Y) : X.grownBy Y none := ⟨k.os, k.tape, k.output, k.size, fun i hi _ => k.block i hi⟩
theorem row_turn {w w' : World} {e : TypeId} {n₀ s k : Nat} {v : Value} {xs : List Value} (h : w.ownsRow n₀ e s v k xs) {row : Option Nat} (hg : w.grownBy w' row) (hr : ∀ r, row = some r → ∃ o : Obj, w.heap[r]? = some o ∧ o.isCells = false) : w'.ownsRow n₀ e s v k xs := by
  refine h.kept hg ?_
  rcases h.2 with ⟨h1, _⟩ | ⟨g, cap, cur, h1, _, hgb, _⟩
  · rw [h1]; exact .inl rfl
  · rw [h1]
    refine .inr fun e' => ?_
    obtain ⟨o, ho, hc⟩ := hr g (by simpa [Value.ownBlock] using e'.symm)
    rw [hgb] at ho; cases ho; cases hc
/-- Box bl (of type S) holds a row of n elements of type e, in a block from nB on; below nB, the box aside, the world is as w0. -/
def Col (S e : TypeId) (s : Nat) (w0 : World) (bl nB n : Nat) (vs : List Value) (W : World) : Prop :=
  ∃ v, Boxed W bl S v ∧ W.ownsRow nB e s v n vs ∧ Kept (fun i _ => i < nB ∧ i ≠ bl) w0 W
theorem Col.grown {S e : TypeId} {s : Nat} {w0 : World} {bl nB n B : Nat} {vs : List Value} {X Y : World} {row : Option Nat} (h : Col S e s w0 bl nB n vs X) (hB : nB ≤ B) (hg : X.grownBy Y row) (hr : ∀ r, row = some r → B ≤ r ∧ ∃ o : Obj, X.heap[r]? = some o ∧ o.isCells = false) : Col S e s w0 bl nB n vs Y := by
  obtain ⟨v, a1, a2, a3⟩ := h
  refine ⟨v, ?_, row_turn a2 hg fun r e => (hr r e).2, a3.trans (Kept.grown hg fun k o e _ hk => ?_)⟩
  · exact a1.kept hg fun e => by
      obtain ⟨o, ho, hc⟩ := (hr bl e.symm).2
      rw [show X.heap[bl]? = _ from a1] at ho; cases ho; cases hc
  · have := (hr k e).1
    have := hk.1
    omega
theorem Col.below {S e : TypeId} {s : Nat} {w0 : World} {bl nB n : Nat} {vs : List Value} {X Y : World} (h : Col S e s w0 bl nB n vs X) (k : Below X.heap.size X Y) : Col S e s w0 bl nB n vs Y :=
  h.grown (B := nB) (Nat.le_refl _) (grown_none k) fun r e => by cases e
theorem keepsOthers_below {w w' : World} (h : Below w.heap.size w w') : KeepsOthers w w' := ⟨h.size, fun k o hk _ => (h.block k (Array.getElem?_eq_some_iff.1 hk).1).trans hk⟩
theorem keepsOthers_row {w w' : World} {e : TypeId} {n₀ s k : Nat} {v : Value} {xs : List Value} (h : w.ownsRow n₀ e s v k xs) (hg : w.grownBy w' v.ownBlock) : KeepsOthers w w' :=
  KeepsOthers.of_grownBy hg fun j o ej hj => by
    rcases h.2 with ⟨rfl, _⟩ | ⟨g0, cap0, cur, rfl, _, hgb, _⟩
    · simp [Value.ownBlock] at ej
    · obtain rfl : g0 = j := by simpa [Value.ownBlock] using ej
      rw [hgb] at hj; cases hj; rfl
theorem row_succ {w : World} {base n : Nat} {e : TypeId} {s : Nat} {v : Value} {xs : List Value} (h : w.ownsRow base e s v (n + 1) xs) : ∃ g cap, v = .slice (some ⟨g, 0, none⟩) (n + 1) cap := by
  rcases h.2 with ⟨_, h0⟩ | ⟨g, cap, cur, rfl, _⟩
  · omega
  · exact ⟨g, cap, rfl⟩
theorem info_open {P : Program} {e : TypeId} {z : Value} {s b : Nat} (h : (P.info? e).map (fun i => (i.zero, i.size, i.bytes)) = some (some z, s, b)) : ∃ i, P.info? e = some i ∧ i.zero = some z ∧ i.size = s ∧ i.bytes = b := by
  cases hi : P.info? e with
  | none => rw [hi] at h; cases h
  | some i => rw [hi] at h; simp only [Option.map_some, Option.some.injEq, Prod.mk.injEq] at h; exact ⟨i, rfl, h.1, h.2.1, h.2.2⟩
/-- 'l = append(l, x)', behind whatever only added blocks. -/
theorem Col.step {P : Program} {S e : TypeId} {s bytes : Nat} {z : Value} (hS : P.underlying S = some (.slice e)) (hi : (P.info? e).map (fun i => (i.zero, i.size, i.bytes)) = some (some z, s, bytes)) (hz : z.cells.size = s) (hs : 0 < s) (hby : bytes ≤ 100)
    {w0 : World} {bl nB n : Nat} (hw0 : nB ≤ w0.heap.size) (hbl : bl < nB) (hlen : n ≤ 1000000000) {vs : List Value} {W : World} {v : Value}
    (a1 : Boxed W bl S v) (a2 : W.ownsRow nB e s v n vs) (a3 : Kept (fun i _ => i < nB ∧ i ≠ bl) w0 W)
    (hQ : ∀ i cs t fr, Q i (.cells cs t fr) → t ≠ e ∧ t ≠ S) {w2 : World} (hb : Below W.heap.size W w2) (news : List Value) (hn : news.length = s) (h1 : ∀ u ∈ news, u.oneCell' = true) (ty : TypeId) :
    ∃ g cap' w4, (Builtin.append_ #[S, S] ty #[v, .slice (some ⟨w2.heap.size, 0, none⟩) 1 1]).run P (w2.alloc (.cells news.toArray e)) = .ok (.slice (some ⟨g, 0, none⟩) (n + 1) cap') w4 ∧
      Boxed w2 bl S v ∧ Boxed w4 bl S v ∧
      (∀ B, KeepsFrom B W (w4.setCell ⟨bl, 0, none⟩ (.slice (some ⟨g, 0, none⟩) (n + 1) cap'))) ∧
      Kept Q W (w4.setCell ⟨bl, 0, none⟩ (.slice (some ⟨g, 0, none⟩) (n + 1) cap')) ∧
      Col S e s w0 bl nB (n + 1) (vs ++ news) (w4.setCell ⟨bl, 0, none⟩ (.slice (some ⟨g, 0, none⟩) (n + 1) cap')) := by
  obtain ⟨i0, hi0, hz0, hz1, hz2⟩ := info_open hi
  have hsW : nB ≤ W.heap.size := Nat.le_trans hw0 a3.size
  have hal : Below w2.heap.size w2 (w2.alloc (.cells news.toArray e)) := (Below.refl _ _).alloc (Nat.le_refl _) _
  have hb3 : Below W.heap.size W (w2.alloc (.cells news.toArray e)) := hb.trans (hal.mono hb.size)
  have o3 : (w2.alloc (.cells news.toArray e)).ownsRow nB e s v n vs := row_turn a2 (grown_none hb3) fun r e => by cases e
  have c1 : Boxed w2 bl S v := (hb.block bl a1.lt).trans a1
  have hcell : ∀ j u, news[j]? = some u → (w2.alloc (.cells news.toArray e)).cell? ((⟨w2.heap.size, 0, none⟩ : Addr).add j) = some u := fun j u hj => by
    have hadd : (⟨w2.heap.size, 0, none⟩ : Addr).add j = ⟨w2.heap.size, j, none⟩ := by unfold Addr.add; split <;> simp_all
    rw [hadd]
    simpa [go_sem] using hj
  obtain ⟨v', w4, k1, k2, k3, _, k5⟩ := run_append_own_at (P := P) (w := w2.alloc (.cells news.toArray e)) nB S ty e i0 z s bytes hS hi0 hz0 hz1 hz2 hz hs v n _ o3 ⟨w2.heap.size, 0, none⟩ 1 1 news (by omega) hcell h1
    (by unfold maxLen; omega) (by
      have : (n + 1) * bytes ≤ 1000000001 * 100 := Nat.mul_le_mul (by omega) hby
      omega) (Nat.le_trans hsW hb3.size)
  obtain ⟨g, cap', rfl⟩ := row_succ k2
  have hg1 : nB ≤ g := (k2.lt g rfl).1
  have hrow : ∀ k, v.ownBlock = some k → nB ≤ k := fun k hk => (a2.lt k hk).1
  have d1 : Boxed w4 bl S v := (c1.alloc _).kept k3 fun e => by have := hrow bl e.symm; omega
  have hQ1 : Kept Q (w2.alloc (.cells news.toArray e)) w4 := Kept.grown k3 fun k o ek ho hq => by
    rcases o3.2 with ⟨h1, _⟩ | ⟨g0, cap0, cur, h1, _, hgb, _⟩
    · rw [h1] at ek; simp [Value.ownBlock] at ek
    · rw [h1] at ek
      obtain rfl : g0 = k := by simpa [Value.ownBlock] using ek
      rw [hgb] at ho
      cases ho
      exact (hQ _ _ _ _ hq).1 rfl
  have hQ2 : Kept Q w4 (w4.setCell ⟨bl, 0, none⟩ (.slice (some ⟨g, 0, none⟩) (n + 1) cap')) := Kept.grown (grownBy_setCell' w4 bl _) fun k o ek ho hq => by
    obtain rfl := Option.some.inj ek
    rw [show w4.heap[bl]? = _ from d1] at ho
    cases ho
    exact (hQ _ _ _ _ hq).2 rfl
  refine ⟨g, cap', w4, k1, c1, d1, fun B => ?_, ((Kept.of_all hb3).trans hQ1).trans hQ2, _, d1.set _, ?_, ?_⟩
  · exact (((keepsOthers_below hb3).trans (keepsOthers_row o3 k3)).trans (KeepsOthers.setCell _ _ _)).from B
  · exact k2.kept (grownBy_setCell' w4 bl _) (.inr fun e => by
      have h : g = bl := Option.some.inj e
      omega)
  · refine a3.trans ((Kept.of_all hb3).trans ((Kept.grown k3 fun k o hk _ hq => ?_).trans (Kept.grown (grownBy_setCell' w4 bl _) fun k o ek _ hq => hq.2 (Option.some.inj ek).symm)))
    have := hrow k hk
    have := hq.1
    omega
theorem Col.start (S e : TypeId) (s : Nat) (w : World) (bl : Nat) (hbl : bl < w.heap.size) (h : Boxed w bl S (.slice none 0 0)) : Col S e s w bl w.heap.size 0 [] w :=
  ⟨_, h, World.ownsRow_nil _ _ _ _, Kept.refl _ _⟩
end Go.Col
