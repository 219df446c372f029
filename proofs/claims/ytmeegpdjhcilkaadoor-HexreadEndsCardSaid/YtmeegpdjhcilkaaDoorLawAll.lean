/-
  Mixed, Mixed2, Round, Each: texts joined to one.
-/
import Derived.StillTail
import Derived.Deep.Quiet
import Derived.Tactics
import Derived.Tactics2
import Derived.KernelRfl
import Derived.RangeFuncNested
import Derived.RangeFuncBound
import Derived.RangeFuncCalls
import Derived.RangeFuncLeaves
import Derived.RangeFuncBox
import Derived.OwnWalkIn
import Derived.TacticsInMore
/-
  A region that draws its order, in which operations that only compute (or read what no operation of the region's head changes) stand beside operations that change the world in one forced order: one walk serves every order.
  No program of its own: laws over any program.
-/
namespace Go.Mixed
open Go
set_option linter.unusedVariables false

def QF : Exit → Act → World → Prop := fun _ _ _ => False
theorem not_letsOut : ¬ LetsOut QF := fun ⟨_, _, h⟩ => h
section
variable {P : Program} {ops : Array Oper} {md : Region.Mode}

theorem upon_QF {o : Oper} {a : Act} {K K' : Act → World → Prop} {Q : Exit → Act → World → Prop} {r : Result Next} (hK : ∀ a w, K a w → K' a w) (h : o.upon P a K QF r) : o.upon P a K' Q r := by
  cases r with
  | ok n w' =>
    cases n <;> simp only [Oper.upon] at h ⊢
    case value v => exact hK _ _ h
    case skip => exact hK _ _ h
    case defer d => exact hK _ _ h
    case enter f args =>
      refine h.mono fun e w'' he => ?_
      cases e with
      | returned v => exact hK _ _ he
      | panicked c => exact (he : False).elim
      | outgrown => exact absurd he not_letsOut
    case row row args => exact h.mono fun v w'' hv => hK _ _ hv
  | halt x w' =>
    cases x <;> simp only [Oper.upon] at h
    case panic v => exact (h : False).elim
theorem wpOp_QF {i : Nat} {a : Act} {w : World} {K K' : Act → World → Prop} {Q : Exit → Act → World → Prop} (hK : ∀ a w, K a w → K' a w) (h : wpOp P ops QF i K a w) : wpOp P ops Q i K' a w := by
  unfold wpOp at *
  split
  · rename_i ho; simp only [ho] at h; exact hK _ _ h
  · rename_i o ho
    simp only [ho] at h
    split
    · rename_i hw
      simp only [hw, if_true] at h
      rcases h with h | h
      · exact .inl (upon_QF hK h)
      · exact absurd h.2 not_letsOut
    · rename_i hw; simp only [hw] at h; exact hK _ _ h

/-- Whatever order is picked for the operations of the head; in every world on the way C holds. -/
def wpAnyC (P : Program) (md : Region.Mode) (ops : Array Oper) (n : Nat) (C : World → Prop) (L : Array Bool → Act → World → Prop) : Nat → Array Bool → Act → World → Prop
  | 0, listed, a, w => C w ∧ L listed a w
  | f + 1, listed, a, w => C w ∧ Region.ready md ops listed ≠ [] ∧ ∀ i ∈ Region.ready md ops listed, i < n ∧ wpOp P ops QF i (wpAnyC P md ops n C L f (listed.setIfInBounds i true)) a w

theorem wpAnyC_C {n : Nat} {C : World → Prop} {L : Array Bool → Act → World → Prop} {f : Nat} {listed : Array Bool} {a : Act} {w : World} (h : wpAnyC P md ops n C L f listed a w) : C w := by
  cases f <;> exact h.1
theorem wpAny_of_headC {n g : Nat} {C : World → Prop} {L : Array Bool → Act → World → Prop} {Q' : Exit → Act → World → Prop} (hL : ∀ listed a w, L listed a w → wpAny P md ops Q' g listed a w) :
    ∀ (f : Nat) (listed : Array Bool) (a : Act) (w : World), wpAnyC P md ops n C L f listed a w → wpAny P md ops Q' (f + g) listed a w
  | 0, listed, a, w, h => by rw [Nat.zero_add]; exact hL _ _ _ h.2
  | f + 1, listed, a, w, h => by
    rw [show f + 1 + g = (f + g) + 1 by omega]
    exact ⟨fun h0 => absurd h0 h.2.1, fun i hi => wpOp_QF (fun a' w' h' => wpAny_of_headC hL f _ a' w' h') (h.2.2 i hi).2⟩

/-- In state 'a', in every world of the class, operation 'o' yields v and leaves the world as it was. -/
def Pure (P : Program) (ops : Array Oper) (C : World → Prop) (o : Oper) (v : Value) (a : Act) : Prop :=
  (Region.wanted o (yielded ops a.tmps) = true ∧ ∀ w, C w → (execOp a.eval o).run P w = .ok (.value v) w) ∨
  (Region.wanted o (yielded ops a.tmps) = false ∧ v = undef)
theorem Pure.of_same {C : World → Prop} {o : Oper} {v : Value} {a a' : Act} (hy : Pure P ops C o v a) (he : execOp a'.eval o = execOp a.eval o)
    (hw : Region.wanted o (yielded ops a'.tmps) = Region.wanted o (yielded ops a.tmps)) : Pure P ops C o v a' := by
  unfold Pure at *
  rw [he, hw]
  exact hy
theorem Pure.wpOp {C : World → Prop} {i : Nat} {o : Oper} {v : Value} {a : Act} {w : World} {K : Act → World → Prop} {Q : Exit → Act → World → Prop} (hi : ops[i]? = some o) (hy : Pure P ops C o v a) (hC : C w) (h : K (a.put o.dst v) w) : wpOp P ops Q i K a w := by
  unfold Go.wpOp
  simp only [hi]
  rcases hy with ⟨hw, hv⟩ | ⟨hw, rfl⟩
  · simp only [hw, if_true]
    left
    unfold Oper.wp
    rw [hv w hC]
    exact h
  · simp only [hw, Bool.false_eq_true, if_false]; exact h
theorem put_defers (a : Act) (ds : List Deferred) (x : Option Tmp) (v : Value) : ({ a with defers := ds }.put x v) = { (a.put x v) with defers := ds } := by
  cases x <;> rfl
theorem defers_put (a : Act) (x : Option Tmp) (v : Value) : (a.put x v).defers = a.defers := by
  cases x <;> rfl
/-- An operation apart from a pure one: whether the pure one's value is already there makes no difference. -/
theorem wpOp_put {C : World → Prop} {j : Nat} {oi oj : Oper} {v : Value} (hj : ops[j]? = some oj) (hap : oi.apart ops oj = true)
    (hsi : ∀ cs b, oi.op ≠ .select cs b) (hsj : ∀ cs b, oj.op ≠ .select cs b) {K : Act → World → Prop} {a : Act} {w : World}
    (hy : Pure P ops C oi v a) (h : wpOp P ops QF j K (a.put oi.dst v) w) :
    wpOp P ops QF j (fun a' w' => Pure P ops C oi v a' ∧ K (a'.put oi.dst v) w') a w := by
  obtain ⟨h1, h2, h3⟩ := Oper.apart_spec hap
  have keep : ∀ (a : Act), Pure P ops C oi v a → ∀ u, Pure P ops C oi v (a.put oj.dst u) := fun a hy u =>
    hy.of_same (execOp_put oi hsi a oj.dst u h3) (wanted_put oi a oj.dst u h3)
  unfold wpOp at *
  simp only [hj] at *
  rw [wanted_put oj a oi.dst v h1] at h
  split
  · rename_i hw
    simp only [hw, if_true] at h
    rcases h with h | h
    · left
      unfold Oper.wp at *
      rw [execOp_put oj hsj a oi.dst v h1] at h
      generalize (execOp a.eval oj).run P w = r at *
      cases r with
      | ok n w' =>
        cases n <;> simp only [Oper.upon] at h ⊢
        case value u => exact ⟨keep a hy u, by rw [← Act.put_comm a v u h2]; exact h⟩
        case skip => exact ⟨keep a hy _, by rw [← Act.put_comm a v undef h2]; exact h⟩
        case defer d =>
          refine ⟨?_, ?_⟩
          · have hy' : Pure P ops C oi v { a with defers := d :: a.defers } := hy
            exact keep _ hy' _
          · rw [← Act.put_comm _ v undef h2]
            have e : ({ a with defers := d :: a.defers }.put oi.dst v) = { (a.put oi.dst v) with defers := d :: (a.put oi.dst v).defers } := by rw [defers_put]; exact put_defers a _ _ _
            rw [e]
            exact h
        case enter f args =>
          refine h.mono fun e w'' he => ?_
          cases e with
          | returned u => exact ⟨keep a hy u, by rw [← Act.put_comm a v u h2]; exact he⟩
          | panicked c => exact (he : False).elim
          | outgrown => exact he
        case row row args => exact h.mono fun u w'' hv => ⟨keep a hy u, by rw [← Act.put_comm a v u h2]; exact hv⟩
      | halt x w' =>
        cases x <;> simp only [Oper.upon] at h
        case panic v => exact (h : False).elim
    · exact absurd h.2 not_letsOut
  · rename_i hw
    simp only [hw] at h
    exact ⟨keep a hy _, by rw [← Act.put_comm a v undef h2]; exact h⟩
theorem wpAnyC_first {C : World → Prop} {n i : Nat} {oi : Oper} {v : Value} {L : Array Bool → Act → World → Prop} (hi : ops[i]? = some oi) (hsel : ∀ (j : Nat) (o : Oper) cs b, ops[j]? = some o → o.op ≠ .select cs b)
    (hs : Region.sinkB md ops n = true) (hc : Region.chainB md ops n = true) (hn : n < ops.size) (hin : i < n)
    (hdone : ∀ listed a w, L listed a w → ∀ j ∈ Region.ready md ops listed, n ≤ j) :
    ∀ (f : Nat) (listed : Array Bool) (a : Act) (w : World), HeadInv md ops n listed →
      (∀ j oj, ops[j]? = some oj → j ≠ i → listed.getD j true = false → (∀ e ∈ oj.after, Region.binds md e = true → e.on ≠ i) → oi.apart ops oj = true) →
      i ∈ Region.ready md ops listed → Pure P ops C oi v a → C w →
      wpAnyC P md ops n C L f (listed.setIfInBounds i true) (a.put oi.dst v) w → wpAnyC P md ops n C L (f + 1) listed a w := by
  intro f
  induction f with
  | zero =>
    intro listed a w inv _ hr hy hCw H
    have hun := (mem_ready.1 hr).1
    refine ⟨hCw, fun h => (by rw [h] at hr; cases hr), fun j hj => ?_⟩
    have hjn : j < n := by
      rcases Nat.lt_or_ge j n with h | h
      · exact h
      · exact absurd hj (tail_waits hs hc hn inv _ i rfl hin hun j h)
    refine ⟨hjn, ?_⟩
    by_cases hji : j = i
    · subst hji; exact hy.wpOp hi hCw H
    · have := hdone _ _ _ H.2 j (ready_mono hj hji)
      omega
  | succ f ih =>
    intro listed a w inv hfree hr hy hCw H
    have hun := (mem_ready.1 hr).1
    refine ⟨hCw, fun h => (by rw [h] at hr; cases hr), fun j hj => ?_⟩
    have hjn : j < n := by
      rcases Nat.lt_or_ge j n with h | h
      · exact h
      · exact absurd hj (tail_waits hs hc hn inv _ i rfl hin hun j h)
    refine ⟨hjn, ?_⟩
    by_cases hji : j = i
    · subst hji; exact hy.wpOp hi hCw H
    · have h1 := (H.2.2 j (ready_mono hj hji)).2
      obtain ⟨hjun, oj, hoj, hall⟩ := mem_ready.1 hj
      have hnot : ∀ e ∈ oj.after, Region.binds md e = true → e.on ≠ i := fun e he hb heq => by
        have h1 := hall e he hb
        rw [heq, getD_both hun] at h1
        cases h1
      have h2 := wpOp_put hoj (hfree j oj hoj hji hjun hnot) (fun cs b => hsel i oi cs b hi) (fun cs b => hsel j oj cs b hoj) hy h1
      have hfree' : ∀ k ok, ops[k]? = some ok → k ≠ i → (listed.setIfInBounds j true).getD k true = false →
          (∀ e ∈ ok.after, Region.binds md e = true → e.on ≠ i) → oi.apart ops ok = true := fun k ok hk hki hun hno => by
        refine hfree k ok hk hki ?_ hno
        by_cases hjk : j = k
        · subst hjk; exact hjun
        · rw [getD_set_ne true hjk] at hun; exact hun
      refine wpOp_QF (fun a' w' h3 => ?_) h2
      obtain ⟨h3, h4⟩ := h3
      rw [Array.setIfInBounds_comm _ _ (fun e => hji e.symm)] at h4
      have hi' := ready_mono hr (Ne.symm hji)
      exact ih (listed.setIfInBounds j true) a' w' (inv.set hj hjn) hfree' hi' h3 (wpAnyC_C h4) h4

/-- The order of the walk: each operation of the head by its number; true: it is pure, and may be taken first; false: no other is ready. -/
def ordB (md : Region.Mode) (ops : Array Oper) (n g : Nat) : List (Nat × Bool) → Array Bool → Bool
  | [], listed => Region.seqB md ops g n listed
  | (k, true) :: r, listed => (Region.ready md ops listed).contains k && decide (k < n) && Region.free md ops listed k && ordB md ops n g r (listed.setIfInBounds k true)
  | (k, false) :: r, listed => decide (Region.ready md ops listed = [k]) && decide (k < n) && ordB md ops n g r (listed.setIfInBounds k true)
def mixedB (md : Region.Mode) (ops : Array Oper) (n : Nat) (ord : List (Nat × Bool)) : Bool :=
  Region.noSelect ops && decide (n < ops.size) && decide (ord.length + (ops.size - n) = ops.size) && Region.sinkB md ops n && Region.chainB md ops n && ordB md ops n (ops.size - n) ord (Array.replicate ops.size false)

def wpMix (P : Program) (ops : Array Oper) (C : World → Prop) (T : Act → World → Prop) : List (Nat × Bool) → Act → World → Prop
  | [], a, w => T a w
  | (k, true) :: r, a, w => match ops[k]? with
    | none => False
    | some o => ∃ v, Pure P ops C o v a ∧ wpMix P ops C T r (a.put o.dst v) w
  | (k, false) :: r, a, w => wpOp P ops QF k (fun a' w' => C w' ∧ wpMix P ops C T r a' w') a w

theorem wpAnyC_ord {C : World → Prop} {n g : Nat} {T : Act → World → Prop} (hsel : Region.noSelect ops = true) (hs : Region.sinkB md ops n = true) (hc : Region.chainB md ops n = true) (hn : n < ops.size) :
    ∀ (ord : List (Nat × Bool)) (listed : Array Bool) (a : Act) (w : World), HeadInv md ops n listed → ordB md ops n g ord listed = true → C w → wpMix P ops C T ord a w →
    wpAnyC P md ops n C (fun listed' a' w' => Region.seqB md ops g n listed' = true ∧ T a' w') ord.length listed a w
  | [], listed, a, w, _, hB, hC, h => ⟨hC, hB, h⟩
  | (k, true) :: r, listed, a, w, inv, hB, hC, h => by
    simp only [ordB, Bool.and_eq_true, decide_eq_true_eq] at hB
    obtain ⟨⟨⟨hr, hk⟩, hf⟩, hB'⟩ := hB
    have hr' : k ∈ Region.ready md ops listed := by simpa using hr
    simp only [wpMix] at h
    cases ho : ops[k]? with
    | none => rw [ho] at h; exact h.elim
    | some o =>
      rw [ho] at h
      obtain ⟨v, hv, hK⟩ := h
      exact wpAnyC_first ho (Region.noSelect_spec hsel) hs hc hn hk (fun listed' a' w' hL => seqB_ready hL.1) r.length listed a w inv (Region.free_spec ho hf) hr' hv hC
        (wpAnyC_ord hsel hs hc hn r _ _ w (inv.set hr' hk) hB' hC hK)
  | (k, false) :: r, listed, a, w, inv, hB, hC, h => by
    simp only [ordB, Bool.and_eq_true, decide_eq_true_eq] at hB
    obtain ⟨⟨hr, hk⟩, hB'⟩ := hB
    simp only [wpMix] at h
    have hne : Region.ready md ops listed ≠ [] := by rw [hr]; exact List.cons_ne_nil _ _
    refine ⟨hC, hne, fun i hi => ?_⟩
    rw [hr] at hi
    have hik : i = k := by simpa using hi
    subst hik
    refine ⟨hk, wpOp_QF (fun a' w' h' => ?_) h⟩
    exact wpAnyC_ord hsel hs hc hn r _ a' w' (inv.set (by rw [hr]; exact List.mem_singleton.2 rfl) hk) hB' h'.1 h'.2

/-- ONE WALK SERVES EVERY ORDER. -/
theorem wp_region_mixed {id : Nat} {Q : Exit → Act → World → Prop} {a : Act} {w : World} {l : List Oper} (C : World → Prop) (n : Nat) (ord : List (Nat × Bool)) (hm : P.follows .mixedOrders = true) (hB : mixedB .any l.toArray n ord = true)
    (hC : C w.drew) (h : wpMix P l.toArray C (fun a' w' => wpList P l.toArray Q (l.drop n) a' w') ord a w.drew) : (Code.region id l.toArray true).wp P Q a w := by
  simp only [mixedB, Bool.and_eq_true, decide_eq_true_eq] at hB
  obtain ⟨⟨⟨⟨⟨hsel, hn⟩, hlen⟩, hs⟩, hc⟩, hord⟩ := hB
  have hdl : (l.drop n).length = l.toArray.size - n := by simp
  have inv0 : HeadInv .any l.toArray n (Array.replicate l.toArray.size false) :=
    ⟨by simp, fun j oj _ hl => (by rw [getD_replicate_false] at hl; cases hl), fun t _ ht => getD_in (by simpa using ht) (getD_replicate_false _ _)⟩
  have H := wpAnyC_ord hsel hs hc hn ord _ a w.drew inv0 hord hC h
  refine wp_region_any hm ?_
  have := wpAny_of_headC (Q' := Q) (g := l.toArray.size - n) (fun listed a' w' hL => by
    have := wpAny_of_seq (md := .any) (Q' := Q) (l.drop n) n listed a' w' (fun j => by simp [List.getElem?_drop]) (by rw [hdl]; exact hL.1) hL.2
    rwa [hdl] at this) _ _ _ _ H
  rw [hlen] at this
  exact this

theorem wpMix_pure {C : World → Prop} {T : Act → World → Prop} {k : Nat} {r : List (Nat × Bool)} {a : Act} {w : World} {o : Oper} (ho : ops[k]? = some o) (hw : Region.wanted o (yielded ops a.tmps) = true) (v : Value)
    (hv : ∀ w, C w → (execOp a.eval o).run P w = .ok (.value v) w) (h : wpMix P ops C T r (a.put o.dst v) w) : wpMix P ops C T ((k, true) :: r) a w := by
  simp only [wpMix, ho]
  exact ⟨v, .inl ⟨hw, hv⟩, h⟩
theorem wpMix_move {C : World → Prop} {T : Act → World → Prop} {k : Nat} {r : List (Nat × Bool)} {a : Act} {w : World} {o : Oper} (ho : ops[k]? = some o) (hw : Region.wanted o (yielded ops a.tmps) = true) (x : Operand) (hx : o.op = .move x) (v : Value)
    (hv : a.eval x = v) (h : wpMix P ops C T r (a.put o.dst v) w) : wpMix P ops C T ((k, true) :: r) a w := by
  subst hv
  exact wpMix_pure ho hw _ (fun w _ => by unfold execOp; simp [hx]) h
theorem wpMix_assign {C : World → Prop} {T : Act → World → Prop} {k : Nat} {r : List (Nat × Bool)} {a : Act} {w : World} {o : Oper} (ho : ops[k]? = some o) (hw : Region.wanted o (yielded ops a.tmps) = true) (x : Operand) (hx : o.op = .assign x) (v : Value)
    (hv : a.eval x = v) (h : wpMix P ops C T r (a.put o.dst v) w) : wpMix P ops C T ((k, true) :: r) a w := by
  subst hv
  exact wpMix_pure ho hw _ (fun w _ => by unfold execOp; simp [hx]) h
/-- A loud operation, as a walk of one operation. -/
def QK (K : Act → World → Prop) : Exit → Act → World → Prop
  | .normal, a, w => K a w
  | _, _, _ => False
theorem not_letsOut_QK (K : Act → World → Prop) : ¬ LetsOut (QK K) := fun ⟨_, _, h⟩ => h
theorem upon_QK {o : Oper} {a : Act} {K : Act → World → Prop} {K' : Act → World → Prop} {r : Result Next} (h : o.upon P a K (QK K') r) : o.upon P a K QF r := by
  cases r with
  | ok n w' =>
    cases n <;> simp only [Oper.upon] at h ⊢
    case value v => exact h
    case skip => exact h
    case defer d => exact h
    case enter f args =>
      refine h.mono fun e w'' he => ?_
      cases e with
      | returned v => exact he
      | panicked c => exact (he : False).elim
      | outgrown => exact absurd he (not_letsOut_QK _)
    case row row args => exact h
  | halt x w' =>
    cases x <;> simp only [Oper.upon] at h
    case panic v => exact (h : False).elim
theorem wpMix_loud {C : World → Prop} {T : Act → World → Prop} {k : Nat} {r : List (Nat × Bool)} {a : Act} {w : World} {o : Oper} (ho : ops[k]? = some o) (h : wpList P ops (QK fun a' w' => C w' ∧ wpMix P ops C T r a' w') [o] a w) :
    wpMix P ops C T ((k, false) :: r) a w := by
  simp only [wpMix]
  unfold wpOp
  simp only [ho]
  simp only [wpList] at h
  split
  · rename_i hw
    simp only [hw, if_true] at h
    rcases h with h | h
    · exact .inl (upon_QK h)
    · exact absurd h.2 (not_letsOut_QK _)
  · rename_i hw
    simp only [hw] at h
    exact h
end
end Go.Mixed
/-
  The same as Mixed, for a region in which a store (operation s) changes what an operation reads that the store waits for: C has to hold only as long as operation s has not come up.
  No program of its own: laws over any program.
-/
namespace Go.Mixed2
open Go Go.Mixed
set_option linter.unusedVariables false
section
variable {P : Program} {ops : Array Oper} {md : Region.Mode}
def CS (s : Nat) (C : World → Prop) (listed : Array Bool) (w : World) : Prop := listed.getD s true = false → C w
def wpAnyC (P : Program) (md : Region.Mode) (ops : Array Oper) (n s : Nat) (C : World → Prop) (L : Array Bool → Act → World → Prop) : Nat → Array Bool → Act → World → Prop
  | 0, listed, a, w => CS s C listed w ∧ L listed a w
  | f + 1, listed, a, w => CS s C listed w ∧ Region.ready md ops listed ≠ [] ∧ ∀ i ∈ Region.ready md ops listed, i < n ∧ wpOp P ops QF i (wpAnyC P md ops n s C L f (listed.setIfInBounds i true)) a w
theorem wpAnyC_C {n s : Nat} {C : World → Prop} {L : Array Bool → Act → World → Prop} {f : Nat} {listed : Array Bool} {a : Act} {w : World} (h : wpAnyC P md ops n s C L f listed a w) : CS s C listed w := by
  cases f <;> exact h.1
theorem wpAny_of_headC {n g s : Nat} {C : World → Prop} {L : Array Bool → Act → World → Prop} {Q' : Exit → Act → World → Prop} (hL : ∀ listed a w, L listed a w → wpAny P md ops Q' g listed a w) :
    ∀ (f : Nat) (listed : Array Bool) (a : Act) (w : World), wpAnyC P md ops n s C L f listed a w → wpAny P md ops Q' (f + g) listed a w
  | 0, listed, a, w, h => by rw [Nat.zero_add]; exact hL _ _ _ h.2
  | f + 1, listed, a, w, h => by
    rw [show f + 1 + g = (f + g) + 1 by omega]
    exact ⟨fun h0 => absurd h0 h.2.1, fun i hi => wpOp_QF (fun a' w' h' => wpAny_of_headC hL f _ a' w' h') (h.2.2 i hi).2⟩
theorem getD_false {listed : Array Bool} {i : Nat} (h : listed.getD i true = false) : listed.getD i false = false := getD_both h
/-- A pure operation may be taken first: D is its class; as long as it is pending D holds. -/
theorem wpAnyC_first {C D : World → Prop} {n i s : Nat} {oi : Oper} {v : Value} {L : Array Bool → Act → World → Prop} (hi : ops[i]? = some oi) (hsel : ∀ (j : Nat) (o : Oper) cs b, ops[j]? = some o → o.op ≠ .select cs b)
    (hs : Region.sinkB md ops n = true) (hc : Region.chainB md ops n = true) (hn : n < ops.size) (hin : i < n) (his : i ≠ s)
    (hD : ∀ listed w, HeadInv md ops n listed → listed.getD i true = false → CS s C listed w → D w)
    (hdone : ∀ listed a w, L listed a w → ∀ j ∈ Region.ready md ops listed, n ≤ j) :
    ∀ (f : Nat) (listed : Array Bool) (a : Act) (w : World), HeadInv md ops n listed →
      (∀ j oj, ops[j]? = some oj → j ≠ i → listed.getD j true = false → (∀ e ∈ oj.after, Region.binds md e = true → e.on ≠ i) → oi.apart ops oj = true) →
      i ∈ Region.ready md ops listed → Pure P ops D oi v a → CS s C listed w →
      wpAnyC P md ops n s C L f (listed.setIfInBounds i true) (a.put oi.dst v) w → wpAnyC P md ops n s C L (f + 1) listed a w := by
  intro f
  induction f with
  | zero =>
    intro listed a w inv _ hr hy hCw H
    have hun := (mem_ready.1 hr).1
    refine ⟨hCw, fun h => (by rw [h] at hr; cases hr), fun j hj => ?_⟩
    have hjn : j < n := by
      rcases Nat.lt_or_ge j n with h | h
      · exact h
      · exact absurd hj (tail_waits hs hc hn inv _ i rfl hin hun j h)
    refine ⟨hjn, ?_⟩
    by_cases hji : j = i
    · subst hji; exact hy.wpOp hi (hD _ _ inv hun hCw) H
    · have := hdone _ _ _ H.2 j (ready_mono hj hji)
      omega
  | succ f ih =>
    intro listed a w inv hfree hr hy hCw H
    have hun := (mem_ready.1 hr).1
    refine ⟨hCw, fun h => (by rw [h] at hr; cases hr), fun j hj => ?_⟩
    have hjn : j < n := by
      rcases Nat.lt_or_ge j n with h | h
      · exact h
      · exact absurd hj (tail_waits hs hc hn inv _ i rfl hin hun j h)
    refine ⟨hjn, ?_⟩
    by_cases hji : j = i
    · subst hji; exact hy.wpOp hi (hD _ _ inv hun hCw) H
    · have h1 := (H.2.2 j (ready_mono hj hji)).2
      obtain ⟨hjun, oj, hoj, hall⟩ := mem_ready.1 hj
      have hnot : ∀ e ∈ oj.after, Region.binds md e = true → e.on ≠ i := fun e he hb heq => by
        have h1 := hall e he hb
        rw [heq, getD_both hun] at h1
        cases h1
      have h2 := Mixed.wpOp_put hoj (hfree j oj hoj hji hjun hnot) (fun cs b => hsel i oi cs b hi) (fun cs b => hsel j oj cs b hoj) hy h1
      have hfree' : ∀ k ok, ops[k]? = some ok → k ≠ i → (listed.setIfInBounds j true).getD k true = false →
          (∀ e ∈ ok.after, Region.binds md e = true → e.on ≠ i) → oi.apart ops ok = true := fun k ok hk hki hun hno => by
        refine hfree k ok hk hki ?_ hno
        by_cases hjk : j = k
        · subst hjk; exact hjun
        · rw [getD_set_ne true hjk] at hun; exact hun
      refine wpOp_QF (fun a' w' h3 => ?_) h2
      obtain ⟨h3, h4⟩ := h3
      rw [Array.setIfInBounds_comm _ _ (fun e => hji e.symm)] at h4
      have hi' := ready_mono hr (Ne.symm hji)
      refine ih (listed.setIfInBounds j true) a' w' (inv.set hj hjn) hfree' hi' h3 (fun hsl => ?_) h4
      have h5 := wpAnyC_C h4
      refine h5 ?_
      rw [getD_set_ne true his]
      exact hsl

/-- The order of the walk: 0: pure as long as C holds, and operation s waits for it; 1: pure in every world; 2: loud: no other is ready. -/
def ordB (md : Region.Mode) (ops : Array Oper) (n g s : Nat) : List (Nat × Nat) → Array Bool → Bool
  | [], listed => Region.seqB md ops g n listed
  | (k, 0) :: r, listed => (Region.ready md ops listed).contains k && decide (k < n) && decide (k ≠ s) && Region.waitsFor md ops s k && Region.free md ops listed k && ordB md ops n g s r (listed.setIfInBounds k true)
  | (k, 1) :: r, listed => (Region.ready md ops listed).contains k && decide (k < n) && decide (k ≠ s) && Region.free md ops listed k && ordB md ops n g s r (listed.setIfInBounds k true)
  | (k, _) :: r, listed => decide (Region.ready md ops listed = [k]) && decide (k < n) && ordB md ops n g s r (listed.setIfInBounds k true)
def mixedB (md : Region.Mode) (ops : Array Oper) (n s : Nat) (ord : List (Nat × Nat)) : Bool :=
  Region.noSelect ops && decide (n < ops.size) && decide (ord.length + (ops.size - n) = ops.size) && Region.sinkB md ops n && Region.chainB md ops n && ordB md ops n (ops.size - n) s ord (Array.replicate ops.size false)
def wpMix (P : Program) (ops : Array Oper) (s : Nat) (C : World → Prop) (T : Act → World → Prop) : Bool → List (Nat × Nat) → Act → World → Prop
  | _, [], a, w => T a w
  | sw, (k, 0) :: r, a, w => match ops[k]? with
    | none => False
    | some o => ∃ v, Pure P ops C o v a ∧ wpMix P ops s C T sw r (a.put o.dst v) w
  | sw, (k, 1) :: r, a, w => match ops[k]? with
    | none => False
    | some o => ∃ v, Pure P ops (fun _ => True) o v a ∧ wpMix P ops s C T sw r (a.put o.dst v) w
  | sw, (k, _) :: r, a, w => wpOp P ops QF k (fun a' w' => ((sw || decide (k = s)) = false → C w') ∧ wpMix P ops s C T (sw || decide (k = s)) r a' w') a w
theorem head_waits {n s k : Nat} {listed : Array Bool} (inv : HeadInv md ops n listed) (hw : Region.waitsFor md ops s k = true) (hk : listed.getD k true = false) (hss : s < listed.size) : listed.getD s true = false := by
  obtain ⟨os, hos, e, he, hb, hon⟩ := Region.waitsFor_spec hw
  cases hl : listed.getD s false with
  | true =>
    have := inv.closed s os hos hl e he hb
    rw [hon, getD_both hk] at this
    cases this
  | false => exact getD_in hss hl
theorem wpAnyC_ord {C : World → Prop} {n g s : Nat} {T : Act → World → Prop} (hsel : Region.noSelect ops = true) (hs : Region.sinkB md ops n = true) (hc : Region.chainB md ops n = true) (hn : n < ops.size) :
    ∀ (ord : List (Nat × Nat)) (sw : Bool) (listed : Array Bool) (a : Act) (w : World), HeadInv md ops n listed → (sw = true → listed.getD s true = true) → ordB md ops n g s ord listed = true → CS s C listed w → wpMix P ops s C T sw ord a w →
    wpAnyC P md ops n s C (fun listed' a' w' => Region.seqB md ops g n listed' = true ∧ T a' w') ord.length listed a w
  | [], sw, listed, a, w, _, _, hB, hC, h => ⟨hC, hB, h⟩
  | (k, 0) :: r, sw, listed, a, w, inv, hsw, hB, hC, h => by
    simp only [ordB, Bool.and_eq_true, decide_eq_true_eq] at hB
    obtain ⟨⟨⟨⟨⟨hr, hk⟩, hks⟩, hws⟩, hf⟩, hB'⟩ := hB
    have hr' : k ∈ Region.ready md ops listed := by simpa using hr
    simp only [wpMix] at h
    cases ho : ops[k]? with
    | none => rw [ho] at h; exact h.elim
    | some o =>
      rw [ho] at h
      obtain ⟨v, hv, hK⟩ := h
      refine wpAnyC_first ho (Region.noSelect_spec hsel) hs hc hn hk hks (fun listed w inv hun hCS => hCS (head_waits inv hws hun ?_)) (fun listed' a' w' hL => seqB_ready hL.1) r.length listed a w inv (Region.free_spec ho hf) hr' hv hC
        (wpAnyC_ord hsel hs hc hn r sw _ _ w (inv.set hr' hk) (fun h => ?_) hB' (fun h => hC ?_) hK)
      · obtain ⟨os, hos, _⟩ := Region.waitsFor_spec hws
        rw [inv.size]
        exact (Array.getElem?_eq_some_iff.1 hos).1
      · rw [getD_set_ne true hks]; exact hsw h
      · rw [getD_set_ne true hks] at h; exact h
  | (k, 1) :: r, sw, listed, a, w, inv, hsw, hB, hC, h => by
    simp only [ordB, Bool.and_eq_true, decide_eq_true_eq] at hB
    obtain ⟨⟨⟨⟨hr, hk⟩, hks⟩, hf⟩, hB'⟩ := hB
    have hr' : k ∈ Region.ready md ops listed := by simpa using hr
    simp only [wpMix] at h
    cases ho : ops[k]? with
    | none => rw [ho] at h; exact h.elim
    | some o =>
      rw [ho] at h
      obtain ⟨v, hv, hK⟩ := h
      refine wpAnyC_first ho (Region.noSelect_spec hsel) hs hc hn hk hks (fun listed w inv hun hCS => trivial) (fun listed' a' w' hL => seqB_ready hL.1) r.length listed a w inv (Region.free_spec ho hf) hr' hv hC
        (wpAnyC_ord hsel hs hc hn r sw _ _ w (inv.set hr' hk) (fun h => ?_) hB' (fun h => hC ?_) hK)
      · rw [getD_set_ne true hks]; exact hsw h
      · rw [getD_set_ne true hks] at h; exact h
  | (k, m + 2) :: r, sw, listed, a, w, inv, hsw, hB, hC, h => by
    simp only [ordB, Bool.and_eq_true, decide_eq_true_eq] at hB
    obtain ⟨⟨hr, hk⟩, hB'⟩ := hB
    simp only [wpMix] at h
    have hne : Region.ready md ops listed ≠ [] := by rw [hr]; exact List.cons_ne_nil _ _
    refine ⟨hC, hne, fun i hi => ?_⟩
    rw [hr] at hi
    have hik : i = k := by simpa using hi
    subst hik
    have hks : i < listed.size := by rw [inv.size]; omega
    refine ⟨hk, wpOp_QF (fun a' w' h' => ?_) h⟩
    refine wpAnyC_ord hsel hs hc hn r _ _ a' w' (inv.set (by rw [hr]; exact List.mem_singleton.2 rfl) hk) (fun h => ?_) hB' (fun hsl => h'.1 ?_) h'.2
    · by_cases e : i = s
      · subst e; simp [hks]
      · rw [getD_set_ne true e]
        simp only [decide_eq_false e, Bool.or_false] at h
        exact hsw h
    · by_cases e : i = s
      · subst e; simp [hks] at hsl
      · rw [getD_set_ne true e] at hsl
        cases sw with
        | true => rw [hsw rfl] at hsl; cases hsl
        | false => simp [e]
/-- ONE WALK SERVES EVERY ORDER. -/
theorem wp_region_mixed {id : Nat} {Q : Exit → Act → World → Prop} {a : Act} {w : World} {l : List Oper} (C : World → Prop) (n s : Nat) (ord : List (Nat × Nat)) (hm : P.follows .mixedOrders = true) (hB : mixedB .any l.toArray n s ord = true)
    (hC : C w.drew) (h : wpMix P l.toArray s C (fun a' w' => wpList P l.toArray Q (l.drop n) a' w') false ord a w.drew) : (Code.region id l.toArray true).wp P Q a w := by
  simp only [mixedB, Bool.and_eq_true, decide_eq_true_eq] at hB
  obtain ⟨⟨⟨⟨⟨hsel, hn⟩, hlen⟩, hs⟩, hc⟩, hord⟩ := hB
  have hdl : (l.drop n).length = l.toArray.size - n := by simp
  have inv0 : HeadInv .any l.toArray n (Array.replicate l.toArray.size false) :=
    ⟨by simp, fun j oj _ hl => (by rw [getD_replicate_false] at hl; cases hl), fun t _ ht => getD_in (by simpa using ht) (getD_replicate_false _ _)⟩
  have H := wpAnyC_ord (s := s) hsel hs hc hn ord false _ a w.drew inv0 (fun h => by cases h) hord (fun _ => hC) h
  refine wp_region_any hm ?_
  have := wpAny_of_headC (Q' := Q) (g := l.toArray.size - n) (fun listed a' w' hL => by
    have := wpAny_of_seq (md := .any) (Q' := Q) (l.drop n) n listed a' w' (fun j => by simp [List.getElem?_drop]) (by rw [hdl]; exact hL.1) hL.2
    rwa [hdl] at this) _ _ _ _ H
  rw [hlen] at this
  exact this
theorem wpMix_held {s : Nat} {sw : Bool} {C : World → Prop} {T : Act → World → Prop} {k : Nat} {r : List (Nat × Nat)} {a : Act} {w : World} {o : Oper} (ho : ops[k]? = some o) (hw : Region.wanted o (yielded ops a.tmps) = true) (v : Value)
    (hv : ∀ w, C w → (execOp a.eval o).run P w = .ok (.value v) w) (h : wpMix P ops s C T sw r (a.put o.dst v) w) : wpMix P ops s C T sw ((k, 0) :: r) a w := by
  simp only [wpMix, ho]
  exact ⟨v, .inl ⟨hw, hv⟩, h⟩
theorem wpMix_pure {s : Nat} {sw : Bool} {C : World → Prop} {T : Act → World → Prop} {k : Nat} {r : List (Nat × Nat)} {a : Act} {w : World} {o : Oper} (ho : ops[k]? = some o) (hw : Region.wanted o (yielded ops a.tmps) = true) (v : Value)
    (hv : ∀ w, (execOp a.eval o).run P w = .ok (.value v) w) (h : wpMix P ops s C T sw r (a.put o.dst v) w) : wpMix P ops s C T sw ((k, 1) :: r) a w := by
  simp only [wpMix, ho]
  exact ⟨v, .inl ⟨hw, fun w _ => hv w⟩, h⟩
theorem wpMix_move {s : Nat} {sw : Bool} {C : World → Prop} {T : Act → World → Prop} {k : Nat} {r : List (Nat × Nat)} {a : Act} {w : World} {o : Oper} (ho : ops[k]? = some o) (hw : Region.wanted o (yielded ops a.tmps) = true) (x : Operand) (hx : o.op = .move x) (v : Value)
    (hv : a.eval x = v) (h : wpMix P ops s C T sw r (a.put o.dst v) w) : wpMix P ops s C T sw ((k, 1) :: r) a w := by
  subst hv
  exact wpMix_pure ho hw _ (fun w => by unfold execOp; simp [hx]) h
theorem wpMix_loud {s : Nat} {sw : Bool} {C : World → Prop} {T : Act → World → Prop} {k : Nat} {r : List (Nat × Nat)} {a : Act} {w : World} {o : Oper} (ho : ops[k]? = some o)
    (h : wpList P ops (QK fun a' w' => ((sw || decide (k = s)) = false → C w') ∧ wpMix P ops s C T (sw || decide (k = s)) r a' w') [o] a w) : wpMix P ops s C T sw ((k, 2) :: r) a w := by
  simp only [wpMix]
  unfold wpOp
  simp only [ho]
  simp only [wpList] at h
  split
  · rename_i hw
    simp only [hw, if_true] at h
    rcases h with h | h
    · exact .inl (upon_QK h)
    · exact absurd h.2 (not_letsOut_QK _)
  · rename_i hw
    simp only [hw] at h
    exact h
end
end Go.Mixed2
/-
  A region in a round of a loop over a function: what is shown of it as everywhere holds in the round.
  No program of its own: laws over any program.
-/
namespace Go.Mixed
open Go
set_option linter.unusedVariables false
theorem rowsIn_wide {n : Nat} {P : Program} {row : String} {args : Array Value} {w : World} {R : Value → World → Prop} (h : Rows P row args w R) : RowsIn Fence.wide n P row args w R := fun c cs _ =>
  let ⟨v, w', r, s⟩ := h c cs; ⟨v, w', r, stepsIn_wide.2 s⟩
theorem opsIn_of_ops {P : Program} {r n : Nat} {ops : Array Oper} {Q : Exit → Act → World → Prop} (hnd : ∀ (i : Nat) (o : Oper), ops[i]? = some o → ∀ c, o.op ≠ .defer c) (hQ : ¬ LetsOut Q) :
    ∀ (l : List Nat) (a : Act) (w : World), wpOps P ops Q l a w → wpOpsIn (Fence.wide.inRound r) n P ops Q l a w
  | [], a, w, h => h
  | i :: rest, a, w, h => by
    have ih := opsIn_of_ops (P := P) (r := r) (n := n) hnd hQ rest
    simp only [wpOps] at h
    simp only [wpOpsIn]
    cases ho : ops[i]? with
    | none => simp only [ho] at h; exact ih _ _ h
    | some o =>
      simp only [ho] at h ⊢
      by_cases hw : Region.wanted o (yielded ops a.tmps) = true
      · simp only [hw, if_true] at h ⊢
        rcases h with h | h
        · refine ⟨fun _ _ => trivial, ?_⟩
          rw [Oper.semAt_eq _ _ _ (hnd i o ho)]
          unfold Oper.wp at h
          generalize (execOp a.eval o).run P w = rs at *
          cases rs with
          | ok x w' =>
            cases x <;> simp only [Oper.upon] at h
            case value v => exact ih _ _ h
            case skip => exact ih _ _ h
            case defer d => exact ih _ _ h
            case enter f args =>
              refine ⟨fun h => (by cases h), CallsIn.inRound r (callsIn_wide.2 (h.mono fun e w'' he => ?_))⟩
              cases e with
              | returned v => exact ih _ _ he
              | panicked c => exact he
              | outgrown => exact he
            case row row args =>
              refine ⟨fun h => (by cases h), ?_⟩
              have h2 := rowsIn_wide (n := n - 1) (h.mono fun v w'' hv => ih _ _ hv)
              exact h2
          | halt x w' =>
            cases x <;> simp only [Oper.upon] at h
            case panic v => exact h
        · exact absurd h.2 hQ
      · have hw' : Region.wanted o (yielded ops a.tmps) = false := by simpa using hw
        simp only [hw', Bool.false_eq_true, if_false] at h ⊢
        exact ⟨fun _ _ => trivial, ih _ _ h⟩
def noDefer (l : List Oper) : Bool := l.all fun o => match o.op with | .defer _ => false | _ => true
theorem noDefer_spec {l : List Oper} (h : noDefer l = true) : ∀ (i : Nat) (o : Oper), l.toArray[i]? = some o → ∀ c, o.op ≠ .defer c := fun i o ho c e => by
  have hm : o ∈ l := by
    have := Array.mem_of_getElem? ho
    simpa using this
  have := List.all_eq_true.1 h o hm
  rw [e] at this
  cases this
/-- ONE WALK SERVES EVERY ORDER, in a round too. -/
theorem wpIn_region_mixed {id r m : Nat} {P : Program} {Q : Exit → Act → World → Prop} {a : Act} {w : World} {l : List Oper} (C : World → Prop) (n : Nat) (ord : List (Nat × Bool)) (hm : P.follows .mixedOrders = true) (hQ : ¬ LetsOut Q) (hd : noDefer l = true) (hB : mixedB .any l.toArray n ord = true)
    (hC : C w.drew) (h : wpMix P l.toArray C (fun a' w' => wpList P l.toArray Q (l.drop n) a' w') ord a w.drew) : (Code.region id l.toArray true).wpIn (Fence.wide.inRound r) m P Q a w := by
  simp only [mixedB, Bool.and_eq_true, decide_eq_true_eq] at hB
  obtain ⟨⟨⟨⟨⟨hsel, hn⟩, hlen⟩, hs⟩, hc⟩, hord⟩ := hB
  have hdl : (l.drop n).length = l.toArray.size - n := by simp
  have inv0 : HeadInv .any l.toArray n (Array.replicate l.toArray.size false) :=
    ⟨by simp, fun j oj _ hl => (by rw [getD_replicate_false] at hl; cases hl), fun t _ ht => getD_in (by simpa using ht) (getD_replicate_false _ _)⟩
  have H := wpAnyC_ord hsel hs hc hn ord _ a w.drew inv0 hord hC h
  have h3 := wpAny_of_headC (Q' := Q) (g := l.toArray.size - n) (fun listed a' w' hL => by
    have := wpAny_of_seq (md := .any) (Q' := Q) (l.drop n) n listed a' w' (fun j => by simp [List.getElem?_drop]) (by rw [hdl]; exact hL.1) hL.2
    rwa [hdl] at this) _ _ _ _ H
  rw [hlen] at h3
  refine wpIn_region_draw fun t => opsIn_of_ops (noDefer_spec hd) hQ _ _ _ ?_
  simp only [Region.schedule, hm, Bool.true_or, if_true]
  exact wpAny_sound _ t _ a _ h3
end Go.Mixed
/-
  A loop over a function in which every round goes on, and whose iterator can say something of an element in the world of the call of yield: what it says reaches the round.
  No program of its own: laws over any program.
-/
namespace Go.Each
open Go Go.RowKit
set_option linter.unusedVariables false

/-- What an iterator promises to rounds that all go on: element by element; of each, E holds in the world of its round. -/
def Gives {α : Type} (F : Fence) (n : Nat) (P : Program) (g : Nat) (lb : Array Value) (encs : α → Array Value) (E : α → World → Prop) (Kp : World → World → Prop) (S : List α → Prop) (N : Nat) (w : World) : Prop :=
  ∀ (l : Nat) (J : List α → World → Prop) (W : World), Below w.heap.size w W → AbidesFrom W.heap.size J →
    (∀ pre x W1, J pre W1 → E x W1 → pre.length < N → YieldAt F (n - 1) P l (encs x) W1 fun e W' => e = .returned (.bool true) ∧ J (pre ++ [x]) W' ∧ Kp W1 W') →
    J [] W → CallsIn F n P g (#[.func (.yield l) #[] #[]] ++ lb) W fun e W' => (∃ v, e = .returned v) ∧ ∃ xs, S xs ∧ J xs W'

/-- A round ends by going on. -/
def goesOn (K : World → Prop) : Exit → Act → World → Prop
  | .normal, _, W' => K W'
  | .ret, _, _ => False
  | .exit _, _, _ => False
  | .goto _, _, _ => False
  | .panic _, _, _ => False
  | .outgrown, _, _ => False

variable {F : Fence} {n : Nat} {P : Program}

theorem wpIn_each {α : Type} {g : Operand} {ps : Array Tmp} {assign body : Code} {Q : Exit → Act → World → Prop} {a : Act} {w : World} (hro : F.round = none) (h1 : 1 ≤ n)
    {gf : Nat} {lb : Array Value} (hg : a.eval g = .func (.func gf) #[] lb) (hFg : F.fn gf) (eg : ∀ args w, (callFunc gf args).run P w = .ok (.enter gf args) w)
    {encs : α → Array Value} {E : α → World → Prop} {Kp : World → World → Prop} {S : List α → Prop} {N : Nat} (hseq : Gives F (n - 1) P gf lb encs E Kp S N w)
    (hKt : ∀ {A B C : World}, Kp A B → Kp B C → Kp A C) (hKb : ∀ (W : World) (l : Nat) (o o' : Obj), w.heap.size ≤ l → W.heap[l]? = some o → o.isCells = false → Kp W (W.putObj l o')) (hps : ∀ x, (encs x).size = ps.size)
    (I : List α → World → Prop) (hI : OwnFrom w.heap.size I) (h0 : I [] w) (Ax : α → Act → World → Prop) (hAx : ∀ x, OwnFrom w.heap.size (Ax x))
    (hassign : ∀ (l : Nat) (pre : List α) (x : α) (W : World) (K : Act → World → Prop), I pre W → E x W → (∀ a' W', KeepsFrom w.heap.size W W' → Kp W W' → I pre W' → Ax x a' W' → K a' W') →
      assign.wpIn (F.inRound l) (n - 1 - 1) P (Exit.then K (fun _ _ _ => False)) { tmps := (ps.zip (encs x)).foldl (fun t (p, v) => t.setIfInBounds p v) a.tmps, defers := [] } W)
    (hbody : ∀ (l : Nat) (pre : List α) (x : α) (a' : Act) (W : World), I pre W → Ax x a' W → pre.length < N → body.wpIn (F.inRound l) (n - 1 - 1) P (goesOn fun W' => KeepsFrom w.heap.size W W' ∧ Kp W W' ∧ I (pre ++ [x]) W') a' W)
    (hdone : ∀ (D : Nat) (xs : List α) (W : World), w.heap.size ≤ D → S xs → I xs W → W.heap[D]? = some (.deferred (some [])) → Q .normal { a with defers := { target := .collected D, args := #[] } :: a.defers } W) :
    (Code.rangeFunc g ps assign body).wpIn F n P Q a w := by
  refine wpIn_rangeFunc fun fn hfn => ?_
  rw [hro]
  -- the loop's record, ready or busy; the block of the rounds' deferred calls lies in front of it
  let R : LoopState → Loop := fun st => { state := st, pending := none, fn := fn, tmps := a.tmps, params := ps, assign := assign, body := body, defers := w.heap.size }
  let B : World := (w.alloc (.deferred (some []))).alloc (.loop (R .ready))
  have bD : B.heap[w.heap.size]? = some (.deferred (some [])) := (Below.heap_alloc _ _ _ (by simp)).trans (World.alloc_heap_new w _)
  have bL : B.heap[w.heap.size + 1]? = some (.loop (R .ready)) := by
    have h := World.alloc_heap_new (w.alloc (.deferred (some []))) (.loop (R .ready))
    rwa [World.size_alloc] at h
  have bI : I [] B := hI.alloc _ (hI.alloc _ h0)
  have bB : Below w.heap.size w B := ((Below.refl _ w).alloc (Nat.le_refl _) _).alloc (by simp) _
  have bz : B.heap.size = w.heap.size + 1 + 1 := by simp [B]
  refine ⟨w.heap.size + 1, [{ target := .collected w.heap.size, args := #[] }], B, { target := .fn (.func gf) lb, args := #[.func (.yield (w.heap.size + 1)) #[] #[]] }, B, gf, #[.func (.yield (w.heap.size + 1)) #[] #[]] ++ lb, B,
    run_enterLoop_outer _ _ _ _ _, by simp only [resolve, hg]; simp [go_sem], fun f' hf' => by simp [Target.leads] at hf'; subst hf'; exact hFg, by simp [invoke, go_sem, eg], fun _ => h1, ?_⟩
  -- what the caller keeps, the record and the block beside it
  refine (hseq (w.heap.size + 1) (fun pre W => I pre W ∧ W.heap[w.heap.size + 1]? = some (.loop (R .ready)) ∧ W.heap[w.heap.size]? = some (.deferred (some []))) B bB ?_ ?_ ⟨bI, bL, bD⟩).mono ?_
  · rintro s X Y row ⟨s1, s2, s3⟩ hg' hr
    have hc : ∀ r, row = some r → ∃ o : Obj, X.heap[r]? = some o ∧ o.isWalk = true := fun r e => (hr r e).2
    refine ⟨hI s X Y row s1 hg' fun r e => ?_, (grownBy_keeps hg' hc s2 rfl).trans s2, (grownBy_keeps hg' hc s3 rfl).trans s3⟩
    obtain ⟨k1, o, k2, k3⟩ := hr r e
    exact ⟨by omega, o, k2, Obj.not_cells_of_walk k3⟩
  · rintro pre x W ⟨s1, s2, s3⟩ hx hlen
    have hlt : w.heap.size + 1 < W.heap.size := (Array.getElem?_eq_some_iff.1 s2).1
    refine ⟨fn, _, assign, body, run_yield (P := P) (args := encs x) s2 (hps x), roundIn_of_wpIn hfn (hassign _ pre x W _ s1 hx fun a' U u1 uK uI uA => ?_)⟩
    have u2 := u1.same _ _ (by omega) s2 rfl
    have u3 := u1.same _ _ (Nat.le_refl _) s3 rfl
    have hlu : w.heap.size + 1 < U.heap.size := (Array.getElem?_eq_some_iff.1 u2).1
    refine ⟨_, run_beginRound u2 rfl, ?_⟩
    obtain ⟨V, hV⟩ : ∃ V, U.putObj (w.heap.size + 1) (.loop { R .ready with state := .busy }) = V := ⟨_, rfl⟩
    have v2 : V.heap[w.heap.size + 1]? = some (.loop { R .ready with state := .busy }) := hV ▸ World.putObj_heap_same hlu
    have v3 : V.heap[w.heap.size]? = some (.deferred (some [])) := hV ▸ (World.putObj_heap_other (by omega)).trans u3
    have vI : I pre V := hV ▸ hI.putObj _ uI (by omega) u2 rfl
    have vE : Ax x a' V := hV ▸ (hAx x).putObj _ uA (by omega) u2 rfl
    have vK : Kp W V := hKt uK (hV ▸ hKb _ _ _ _ (by omega) u2 rfl)
    show body.wpIn _ _ _ _ _ (U.putObj (w.heap.size + 1) (.loop { R .ready with state := .busy }))
    rw [hV]
    refine wpIn_mono (hbody _ pre x a' V vI vE hlen) ?_
    rintro (_ | _ | _ | _ | _ | _) a3 Z hz
    case normal =>
      obtain ⟨z1, z2, z3⟩ := hz
      have l3 := z1.same _ _ (by omega) v2 rfl
      refine ⟨_, _, run_endRound (P := P) none l3, rfl, ⟨hI.putObj _ z3 (by omega) l3 rfl, World.putObj_heap_same (Array.getElem?_eq_some_iff.1 l3).1, (World.putObj_heap_other (by omega)).trans (z1.same _ _ (Nat.le_refl _) v3 rfl)⟩, hKt (hKt vK z2) (hKb _ _ _ _ (by omega) l3 rfl)⟩
    all_goals exact hz.elim
  · rintro e Z ⟨⟨v, rfl⟩, xs, hS, z1, z2, z3⟩
    exact ⟨none, _, run_endLoop (P := P) z2 (by simp [R]), hdone _ xs _ (Nat.le_refl _) hS (hI.putObj _ z1 (by omega) z2 rfl) ((World.putObj_heap_other (by omega)).trans z3)⟩
end Go.Each
