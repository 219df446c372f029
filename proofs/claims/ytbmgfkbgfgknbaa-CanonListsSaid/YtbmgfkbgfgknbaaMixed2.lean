/-
  The same as Mixed, for a region in which a store (operation s) changes what an operation reads that the store waits for: C has to hold only as long as operation s has not come up.
  No program of its own: laws over any program.
-/
import Derived.Test.YtbmgfkbgfgknbaaMixed
namespace Go.Mixed2
open Go Go.Mixed
set_option linter.unusedVariables false
section
variable {P : Program} {ops : Array Oper} {md : Region.Mode}
def CS (s : Nat) (C : World → Prop) (listed : Array Bool) (w : World) : Prop := listed.getD s true = false → C w
def wpAnyC (P : Program) (md : Region.Mode) (ops : Array Oper) (n s : Nat) (C : World → Prop) (L : Array Bool → Act → World → Prop) : Nat → Array Bool → Act → World → Prop
  | 0, listed, a, w => CS s C listed w ∧ L listed a w
  | f + 1, listed, a, w => CS s C listed w ∧ Region.ready md ops listed ≠ [] ∧ ∀ i ∈ Region.ready md ops listed, i < n ∧ wpOp P ops QF i (wpAnyC P md ops n s C L f (listed.setIfInBounds i true)) a w
theorem wpAnyC_C {n s : Nat} {C : World → Prop} {L : Array Bool → Act → World → Prop} {f : Nat} {listed : Array Bool} {a : Act} {w : World} (h : wpAnyC P md ops n s C L f listed a w) : CS s C listed w := by
  cases f <;> exact h.1
theorem wpAny_of_headC {n g s : Nat} {C : World → Prop} {L : Array Bool → Act → World → Prop} {Q' : Exit → Act → World → Prop} (hL : ∀ listed a w, L listed a w → wpAny P md ops Q' g listed a w) :
    ∀ (f : Nat) (listed : Array Bool) (a : Act) (w : World), wpAnyC P md ops n s C L f listed a w → wpAny P md ops Q' (f + g) listed a w
  | 0, listed, a, w, h => by rw [Nat.zero_add]; exact hL _ _ _ h.2
  | f + 1, listed, a, w, h => by
    rw [show f + 1 + g = (f + g) + 1 by omega]
    exact ⟨fun h0 => absurd h0 h.2.1, fun i hi => wpOp_QF (fun a' w' h' => wpAny_of_headC hL f _ a' w' h') (h.2.2 i hi).2⟩
theorem getD_false {listed : Array Bool} {i : Nat} (h : listed.getD i true = false) : listed.getD i false = false := getD_both h
/-- A pure operation may be taken first: D is its class; as long as it is pending D holds. -/
theorem wpAnyC_first {C D : World → Prop} {n i s : Nat} {oi : Oper} {v : Value} {L : Array Bool → Act → World → Prop} (hi : ops[i]? = some oi) (hsel : ∀ (j : Nat) (o : Oper) cs b, ops[j]? = some o → o.op ≠ .select cs b)
    (hs : Region.sinkB md ops n = true) (hc : Region.chainB md ops n = true) (hn : n < ops.size) (hin : i < n) (his : i ≠ s)
    (hD : ∀ listed w, HeadInv md ops n listed → listed.getD i true = false → CS s C listed w → D w)
    (hdone : ∀ listed a w, L listed a w → ∀ j ∈ Region.ready md ops listed, n ≤ j) :
    ∀ (f : Nat) (listed : Array Bool) (a : Act) (w : World), HeadInv md ops n listed →
      (∀ j oj, ops[j]? = some oj → j ≠ i → listed.getD j true = false → (∀ e ∈ oj.after, Region.binds md e = true → e.on ≠ i) → oi.apart ops oj = true) →
      i ∈ Region.ready md ops listed → Pure P ops D oi v a → CS s C listed w →
      wpAnyC P md ops n s C L f (listed.setIfInBounds i true) (a.put oi.dst v) w → wpAnyC P md ops n s C L (f + 1) listed a w := by
  intro f
  induction f with
  | zero =>
    intro listed a w inv _ hr hy hCw H
    have hun := (mem_ready.1 hr).1
    refine ⟨hCw, fun h => (by rw [h] at hr; cases hr), fun j hj => ?_⟩
    have hjn : j < n := by
      rcases Nat.lt_or_ge j n with h | h
      · exact h
      · exact absurd hj (tail_waits hs hc hn inv _ i rfl hin hun j h)
    refine ⟨hjn, ?_⟩
    by_cases hji : j = i
    · subst hji; exact hy.wpOp hi (hD _ _ inv hun hCw) H
    · have := hdone _ _ _ H.2 j (ready_mono hj hji)
      omega
  | succ f ih =>
    intro listed a w inv hfree hr hy hCw H
    have hun := (mem_ready.1 hr).1
    refine ⟨hCw, fun h => (by rw [h] at hr; cases hr), fun j hj => ?_⟩
    have hjn : j < n := by
      rcases Nat.lt_or_ge j n with h | h
      · exact h
      · exact absurd hj (tail_waits hs hc hn inv _ i rfl hin hun j h)
    refine ⟨hjn, ?_⟩
    by_cases hji : j = i
    · subst hji; exact hy.wpOp hi (hD _ _ inv hun hCw) H
    · have h1 := (H.2.2 j (ready_mono hj hji)).2
      obtain ⟨hjun, oj, hoj, hall⟩ := mem_ready.1 hj
      have hnot : ∀ e ∈ oj.after, Region.binds md e = true → e.on ≠ i := fun e he hb heq => by
        have h1 := hall e he hb
        rw [heq, getD_both hun] at h1
        cases h1
      have h2 := Mixed.wpOp_put hoj (hfree j oj hoj hji hjun hnot) (fun cs b => hsel i oi cs b hi) (fun cs b => hsel j oj cs b hoj) hy h1
      have hfree' : ∀ k ok, ops[k]? = some ok → k ≠ i → (listed.setIfInBounds j true).getD k true = false →
          (∀ e ∈ ok.after, Region.binds md e = true → e.on ≠ i) → oi.apart ops ok = true := fun k ok hk hki hun hno => by
        refine hfree k ok hk hki ?_ hno
        by_cases hjk : j = k
        · subst hjk; exact hjun
        · rw [getD_set_ne true hjk] at hun; exact hun
      refine wpOp_QF (fun a' w' h3 => ?_) h2
      obtain ⟨h3, h4⟩ := h3
      rw [Array.setIfInBounds_comm _ _ (fun e => hji e.symm)] at h4
      have hi' := ready_mono hr (Ne.symm hji)
      refine ih (listed.setIfInBounds j true) a' w' (inv.set hj hjn) hfree' hi' h3 (fun hsl => ?_) h4
      have h5 := wpAnyC_C h4
      refine h5 ?_
      rw [getD_set_ne true his]
      exact hsl

/-- The order of the walk: 0: pure as long as C holds, and operation s waits for it; 1: pure in every world; 2: loud: no other is ready. -/
def ordB (md : Region.Mode) (ops : Array Oper) (n g s : Nat) : List (Nat × Nat) → Array Bool → Bool
  | [], listed => Region.seqB md ops g n listed
  | (k, 0) :: r, listed => (Region.ready md ops listed).contains k && decide (k < n) && decide (k ≠ s) && Region.waitsFor md ops s k && Region.free md ops listed k && ordB md ops n g s r (listed.setIfInBounds k true)
  | (k, 1) :: r, listed => (Region.ready md ops listed).contains k && decide (k < n) && decide (k ≠ s) && Region.free md ops listed k && ordB md ops n g s r (listed.setIfInBounds k true)
  | (k, _) :: r, listed => decide (Region.ready md ops listed = [k]) && decide (k < n) && ordB md ops n g s r (listed.setIfInBounds k true)
def mixedB (md : Region.Mode) (ops : Array Oper) (n s : Nat) (ord : List (Nat × Nat)) : Bool :=
  Region.noSelect ops && decide (n < ops.size) && decide (ord.length + (ops.size - n) = ops.size) && Region.sinkB md ops n && Region.chainB md ops n && ordB md ops n (ops.size - n) s ord (Array.replicate ops.size false)
def wpMix (P : Program) (ops : Array Oper) (s : Nat) (C : World → Prop) (T : Act → World → Prop) : Bool → List (Nat × Nat) → Act → World → Prop
  | _, [], a, w => T a w
  | sw, (k, 0) :: r, a, w => match ops[k]? with
    | none => False
    | some o => ∃ v, Pure P ops C o v a ∧ wpMix P ops s C T sw r (a.put o.dst v) w
  | sw, (k, 1) :: r, a, w => match ops[k]? with
    | none => False
    | some o => ∃ v, Pure P ops (fun _ => True) o v a ∧ wpMix P ops s C T sw r (a.put o.dst v) w
  | sw, (k, _) :: r, a, w => wpOp P ops QF k (fun a' w' => ((sw || decide (k = s)) = false → C w') ∧ wpMix P ops s C T (sw || decide (k = s)) r a' w') a w
theorem head_waits {n s k : Nat} {listed : Array Bool} (inv : HeadInv md ops n listed) (hw : Region.waitsFor md ops s k = true) (hk : listed.getD k true = false) (hss : s < listed.size) : listed.getD s true = false := by
  obtain ⟨os, hos, e, he, hb, hon⟩ := Region.waitsFor_spec hw
  cases hl : listed.getD s false with
  | true =>
    have := inv.closed s os hos hl e he hb
    rw [hon, getD_both hk] at this
    cases this
  | false => exact getD_in hss hl
theorem wpAnyC_ord {C : World → Prop} {n g s : Nat} {T : Act → World → Prop} (hsel : Region.noSelect ops = true) (hs : Region.sinkB md ops n = true) (hc : Region.chainB md ops n = true) (hn : n < ops.size) :
    ∀ (ord : List (Nat × Nat)) (sw : Bool) (listed : Array Bool) (a : Act) (w : World), HeadInv md ops n listed → (sw = true → listed.getD s true = true) → ordB md ops n g s ord listed = true → CS s C listed w → wpMix P ops s C T sw ord a w →
    wpAnyC P md ops n s C (fun listed' a' w' => Region.seqB md ops g n listed' = true ∧ T a' w') ord.length listed a w
  | [], sw, listed, a, w, _, _, hB, hC, h => ⟨hC, hB, h⟩
  | (k, 0) :: r, sw, listed, a, w, inv, hsw, hB, hC, h => by
    simp only [ordB, Bool.and_eq_true, decide_eq_true_eq] at hB
    obtain ⟨⟨⟨⟨⟨hr, hk⟩, hks⟩, hws⟩, hf⟩, hB'⟩ := hB
    have hr' : k ∈ Region.ready md ops listed := by simpa using hr
    simp only [wpMix] at h
    cases ho : ops[k]? with
    | none => rw [ho] at h; exact h.elim
    | some o =>
      rw [ho] at h
      obtain ⟨v, hv, hK⟩ := h
      refine wpAnyC_first ho (Region.noSelect_spec hsel) hs hc hn hk hks (fun listed w inv hun hCS => hCS (head_waits inv hws hun ?_)) (fun listed' a' w' hL => seqB_ready hL.1) r.length listed a w inv (Region.free_spec ho hf) hr' hv hC
        (wpAnyC_ord hsel hs hc hn r sw _ _ w (inv.set hr' hk) (fun h => ?_) hB' (fun h => hC ?_) hK)
      · obtain ⟨os, hos, _⟩ := Region.waitsFor_spec hws
        rw [inv.size]
        exact (Array.getElem?_eq_some_iff.1 hos).1
      · rw [getD_set_ne true hks]; exact hsw h
      · rw [getD_set_ne true hks] at h; exact h
  | (k, 1) :: r, sw, listed, a, w, inv, hsw, hB, hC, h => by
    simp only [ordB, Bool.and_eq_true, decide_eq_true_eq] at hB
    obtain ⟨⟨⟨⟨hr, hk⟩, hks⟩, hf⟩, hB'⟩ := hB
    have hr' : k ∈ Region.ready md ops listed := by simpa using hr
    simp only [wpMix] at h
    cases ho : ops[k]? with
    | none => rw [ho] at h; exact h.elim
    | some o =>
      rw [ho] at h
      obtain ⟨v, hv, hK⟩ := h
      refine wpAnyC_first ho (Region.noSelect_spec hsel) hs hc hn hk hks (fun listed w inv hun hCS => trivial) (fun listed' a' w' hL => seqB_ready hL.1) r.length listed a w inv (Region.free_spec ho hf) hr' hv hC
        (wpAnyC_ord hsel hs hc hn r sw _ _ w (inv.set hr' hk) (fun h => ?_) hB' (fun h => hC ?_) hK)
      · rw [getD_set_ne true hks]; exact hsw h
      · rw [getD_set_ne true hks] at h; exact h
  | (k, m + 2) :: r, sw, listed, a, w, inv, hsw, hB, hC, h => by
    simp only [ordB, Bool.and_eq_true, decide_eq_true_eq] at hB
    obtain ⟨⟨hr, hk⟩, hB'⟩ := hB
    simp only [wpMix] at h
    have hne : Region.ready md ops listed ≠ [] := by rw [hr]; exact List.cons_ne_nil _ _
    refine ⟨hC, hne, fun i hi => ?_⟩
    rw [hr] at hi
    have hik : i = k := by simpa using hi
    subst hik
    have hks : i < listed.size := by rw [inv.size]; omega
    refine ⟨hk, wpOp_QF (fun a' w' h' => ?_) h⟩
    refine wpAnyC_ord hsel hs hc hn r _ _ a' w' (inv.set (by rw [hr]; exact List.mem_singleton.2 rfl) hk) (fun h => ?_) hB' (fun hsl => h'.1 ?_) h'.2
    · by_cases e : i = s
      · subst e; simp [hks]
      · rw [getD_set_ne true e]
        simp only [decide_eq_false e, Bool.or_false] at h
        exact hsw h
    · by_cases e : i = s
      · subst e; simp [hks] at hsl
      · rw [getD_set_ne true e] at hsl
        cases sw with
        | true => rw [hsw rfl] at hsl; cases hsl
        | false => simp [e]
/-- ONE WALK SERVES EVERY ORDER. -/
theorem wp_region_mixed {id : Nat} {Q : Exit → Act → World → Prop} {a : Act} {w : World} {l : List Oper} (C : World → Prop) (n s : Nat) (ord : List (Nat × Nat)) (hm : P.follows .mixedOrders = true) (hB : mixedB .any l.toArray n s ord = true)
    (hC : C w.drew) (h : wpMix P l.toArray s C (fun a' w' => wpList P l.toArray Q (l.drop n) a' w') false ord a w.drew) : (Code.region id l.toArray true).wp P Q a w := by
  simp only [mixedB, Bool.and_eq_true, decide_eq_true_eq] at hB
  obtain ⟨⟨⟨⟨⟨hsel, hn⟩, hlen⟩, hs⟩, hc⟩, hord⟩ := hB
  have hdl : (l.drop n).length = l.toArray.size - n := by simp
  have inv0 : HeadInv .any l.toArray n (Array.replicate l.toArray.size false) :=
    ⟨by simp, fun j oj _ hl => (by rw [getD_replicate_false] at hl; cases hl), fun t _ ht => getD_in (by simpa using ht) (getD_replicate_false _ _)⟩
  have H := wpAnyC_ord (s := s) hsel hs hc hn ord false _ a w.drew inv0 (fun h => by cases h) hord (fun _ => hC) h
  refine wp_region_any hm ?_
  have := wpAny_of_headC (Q' := Q) (g := l.toArray.size - n) (fun listed a' w' hL => by
    have := wpAny_of_seq (md := .any) (Q' := Q) (l.drop n) n listed a' w' (fun j => by simp [List.getElem?_drop]) (by rw [hdl]; exact hL.1) hL.2
    rwa [hdl] at this) _ _ _ _ H
  rw [hlen] at this
  exact this
theorem wpMix_held {s : Nat} {sw : Bool} {C : World → Prop} {T : Act → World → Prop} {k : Nat} {r : List (Nat × Nat)} {a : Act} {w : World} {o : Oper} (ho : ops[k]? = some o) (hw : Region.wanted o (yielded ops a.tmps) = true) (v : Value)
    (hv : ∀ w, C w → (execOp a.eval o).run P w = .ok (.value v) w) (h : wpMix P ops s C T sw r (a.put o.dst v) w) : wpMix P ops s C T sw ((k, 0) :: r) a w := by
  simp only [wpMix, ho]
  exact ⟨v, .inl ⟨hw, hv⟩, h⟩
theorem wpMix_pure {s : Nat} {sw : Bool} {C : World → Prop} {T : Act → World → Prop} {k : Nat} {r : List (Nat × Nat)} {a : Act} {w : World} {o : Oper} (ho : ops[k]? = some o) (hw : Region.wanted o (yielded ops a.tmps) = true) (v : Value)
    (hv : ∀ w, (execOp a.eval o).run P w = .ok (.value v) w) (h : wpMix P ops s C T sw r (a.put o.dst v) w) : wpMix P ops s C T sw ((k, 1) :: r) a w := by
  simp only [wpMix, ho]
  exact ⟨v, .inl ⟨hw, fun w _ => hv w⟩, h⟩
theorem wpMix_move {s : Nat} {sw : Bool} {C : World → Prop} {T : Act → World → Prop} {k : Nat} {r : List (Nat × Nat)} {a : Act} {w : World} {o : Oper} (ho : ops[k]? = some o) (hw : Region.wanted o (yielded ops a.tmps) = true) (x : Operand) (hx : o.op = .move x) (v : Value)
    (hv : a.eval x = v) (h : wpMix P ops s C T sw r (a.put o.dst v) w) : wpMix P ops s C T sw ((k, 1) :: r) a w := by
  subst hv
  exact wpMix_pure ho hw _ (fun w => by unfold execOp; simp [hx]) h
theorem wpMix_loud {s : Nat} {sw : Bool} {C : World → Prop} {T : Act → World → Prop} {k : Nat} {r : List (Nat × Nat)} {a : Act} {w : World} {o : Oper} (ho : ops[k]? = some o)
    (h : wpList P ops (QK fun a' w' => ((sw || decide (k = s)) = false → C w') ∧ wpMix P ops s C T (sw || decide (k = s)) r a' w') [o] a w) : wpMix P ops s C T sw ((k, 2) :: r) a w := by
  simp only [wpMix]
  unfold wpOp
  simp only [ho]
  simp only [wpList] at h
  split
  · rename_i hw
    simp only [hw, if_true] at h
    rcases h with h | h
    · exact .inl (upon_QK h)
    · exact absurd h.2 (not_letsOut_QK _)
  · rename_i hw
    simp only [hw] at h
    exact h
end
end Go.Mixed2
