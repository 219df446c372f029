/-
  A region that draws its order, in which operations that only compute (or read what no operation of the region's head changes) stand beside operations that change the world in one forced order: one walk serves every order.
  No program of its own: laws over any program.
-/
import Derived.StillTail
import Derived.Deep.Quiet
import Derived.Tactics
import Derived.Tactics2
import Derived.KernelRfl
namespace Go.Mixed
open Go
set_option linter.unusedVariables false

def QF : Exit → Act → World → Prop := fun _ _ _ => False
theorem not_letsOut : ¬ LetsOut QF := fun ⟨_, _, h⟩ => h
section
variable {P : Program} {ops : Array Oper} {md : Region.Mode}

theorem upon_QF {o : Oper} {a : Act} {K K' : Act → World → Prop} {Q : Exit → Act → World → Prop} {r : Result Next} (hK : ∀ a w, K a w → K' a w) (h : o.upon P a K QF r) : o.upon P a K' Q r := by
  cases r with
  | ok n w' =>
    cases n <;> simp only [Oper.upon] at h ⊢
    case value v => exact hK _ _ h
    case skip => exact hK _ _ h
    case defer d => exact hK _ _ h
    case enter f args =>
      refine h.mono fun e w'' he => ?_
      cases e with
      | returned v => exact hK _ _ he
      | panicked c => exact (he : False).elim
      | outgrown => exact absurd he not_letsOut
    case row row args => exact h.mono fun v w'' hv => hK _ _ hv
  | halt x w' =>
    cases x <;> simp only [Oper.upon] at h
    case panic v => exact (h : False).elim
theorem wpOp_QF {i : Nat} {a : Act} {w : World} {K K' : Act → World → Prop} {Q : Exit → Act → World → Prop} (hK : ∀ a w, K a w → K' a w) (h : wpOp P ops QF i K a w) : wpOp P ops Q i K' a w := by
  unfold wpOp at *
  split
  · rename_i ho; simp only [ho] at h; exact hK _ _ h
  · rename_i o ho
    simp only [ho] at h
    split
    · rename_i hw
      simp only [hw, if_true] at h
      rcases h with h | h
      · exact .inl (upon_QF hK h)
      · exact absurd h.2 not_letsOut
    · rename_i hw; simp only [hw] at h; exact hK _ _ h

/-- Whatever order is picked for the operations of the head; in every world on the way C holds. -/
def wpAnyC (P : Program) (md : Region.Mode) (ops : Array Oper) (n : Nat) (C : World → Prop) (L : Array Bool → Act → World → Prop) : Nat → Array Bool → Act → World → Prop
  | 0, listed, a, w => C w ∧ L listed a w
  | f + 1, listed, a, w => C w ∧ Region.ready md ops listed ≠ [] ∧ ∀ i ∈ Region.ready md ops listed, i < n ∧ wpOp P ops QF i (wpAnyC P md ops n C L f (listed.setIfInBounds i true)) a w

theorem wpAnyC_C {n : Nat} {C : World → Prop} {L : Array Bool → Act → World → Prop} {f : Nat} {listed : Array Bool} {a : Act} {w : World} (h : wpAnyC P md ops n C L f listed a w) : C w := by
  cases f <;> exact h.1
theorem wpAny_of_headC {n g : Nat} {C : World → Prop} {L : Array Bool → Act → World → Prop} {Q' : Exit → Act → World → Prop} (hL : ∀ listed a w, L listed a w → wpAny P md ops Q' g listed a w) :
    ∀ (f : Nat) (listed : Array Bool) (a : Act) (w : World), wpAnyC P md ops n C L f listed a w → wpAny P md ops Q' (f + g) listed a w
  | 0, listed, a, w, h => by rw [Nat.zero_add]; exact hL _ _ _ h.2
  | f + 1, listed, a, w, h => by
    rw [show f + 1 + g = (f + g) + 1 by omega]
    exact ⟨fun h0 => absurd h0 h.2.1, fun i hi => wpOp_QF (fun a' w' h' => wpAny_of_headC hL f _ a' w' h') (h.2.2 i hi).2⟩

/-- In state 'a', in every world of the class, operation 'o' yields v and leaves the world as it was. -/
def Pure (P : Program) (ops : Array Oper) (C : World → Prop) (o : Oper) (v : Value) (a : Act) : Prop :=
  (Region.wanted o (yielded ops a.tmps) = true ∧ ∀ w, C w → (execOp a.eval o).run P w = .ok (.value v) w) ∨
  (Region.wanted o (yielded ops a.tmps) = false ∧ v = undef)
theorem Pure.of_same {C : World → Prop} {o : Oper} {v : Value} {a a' : Act} (hy : Pure P ops C o v a) (he : execOp a'.eval o = execOp a.eval o)
    (hw : Region.wanted o (yielded ops a'.tmps) = Region.wanted o (yielded ops a.tmps)) : Pure P ops C o v a' := by
  unfold Pure at *
  rw [he, hw]
  exact hy
theorem Pure.wpOp {C : World → Prop} {i : Nat} {o : Oper} {v : Value} {a : Act} {w : World} {K : Act → World → Prop} {Q : Exit → Act → World → Prop} (hi : ops[i]? = some o) (hy : Pure P ops C o v a) (hC : C w) (h : K (a.put o.dst v) w) : wpOp P ops Q i K a w := by
  unfold Go.wpOp
  simp only [hi]
  rcases hy with ⟨hw, hv⟩ | ⟨hw, rfl⟩
  · simp only [hw, if_true]
    left
    unfold Oper.wp
    rw [hv w hC]
    exact h
  · simp only [hw, Bool.false_eq_true, if_false]; exact h
theorem put_defers (a : Act) (ds : List Deferred) (x : Option Tmp) (v : Value) : ({ a with defers := ds }.put x v) = { (a.put x v) with defers := ds } := by
  cases x <;> rfl
theorem defers_put (a : Act) (x : Option Tmp) (v : Value) : (a.put x v).defers = a.defers := by
  cases x <;> rfl
/-- An operation apart from a pure one: whether the pure one's value is already there makes no difference. -/
theorem wpOp_put {C : World → Prop} {j : Nat} {oi oj : Oper} {v : Value} (hj : ops[j]? = some oj) (hap : oi.apart ops oj = true)
    (hsi : ∀ cs b, oi.op ≠ .select cs b) (hsj : ∀ cs b, oj.op ≠ .select cs b) {K : Act → World → Prop} {a : Act} {w : World}
    (hy : Pure P ops C oi v a) (h : wpOp P ops QF j K (a.put oi.dst v) w) :
    wpOp P ops QF j (fun a' w' => Pure P ops C oi v a' ∧ K (a'.put oi.dst v) w') a w := by
  obtain ⟨h1, h2, h3⟩ := Oper.apart_spec hap
  have keep : ∀ (a : Act), Pure P ops C oi v a → ∀ u, Pure P ops C oi v (a.put oj.dst u) := fun a hy u =>
    hy.of_same (execOp_put oi hsi a oj.dst u h3) (wanted_put oi a oj.dst u h3)
  unfold wpOp at *
  simp only [hj] at *
  rw [wanted_put oj a oi.dst v h1] at h
  split
  · rename_i hw
    simp only [hw, if_true] at h
    rcases h with h | h
    · left
      unfold Oper.wp at *
      rw [execOp_put oj hsj a oi.dst v h1] at h
      generalize (execOp a.eval oj).run P w = r at *
      cases r with
      | ok n w' =>
        cases n <;> simp only [Oper.upon] at h ⊢
        case value u => exact ⟨keep a hy u, by rw [← Act.put_comm a v u h2]; exact h⟩
        case skip => exact ⟨keep a hy _, by rw [← Act.put_comm a v undef h2]; exact h⟩
        case defer d =>
          refine ⟨?_, ?_⟩
          · have hy' : Pure P ops C oi v { a with defers := d :: a.defers } := hy
            exact keep _ hy' _
          · rw [← Act.put_comm _ v undef h2]
            have e : ({ a with defers := d :: a.defers }.put oi.dst v) = { (a.put oi.dst v) with defers := d :: (a.put oi.dst v).defers } := by rw [defers_put]; exact put_defers a _ _ _
            rw [e]
            exact h
        case enter f args =>
          refine h.mono fun e w'' he => ?_
          cases e with
          | returned u => exact ⟨keep a hy u, by rw [← Act.put_comm a v u h2]; exact he⟩
          | panicked c => exact (he : False).elim
          | outgrown => exact he
        case row row args => exact h.mono fun u w'' hv => ⟨keep a hy u, by rw [← Act.put_comm a v u h2]; exact hv⟩
      | halt x w' =>
        cases x <;> simp only [Oper.upon] at h
        case panic v => exact (h : False).elim
    · exact absurd h.2 not_letsOut
  · rename_i hw
    simp only [hw] at h
    exact ⟨keep a hy _, by rw [← Act.put_comm a v undef h2]; exact h⟩
theorem wpAnyC_first {C : World → Prop} {n i : Nat} {oi : Oper} {v : Value} {L : Array Bool → Act → World → Prop} (hi : ops[i]? = some oi) (hsel : ∀ (j : Nat) (o : Oper) cs b, ops[j]? = some o → o.op ≠ .select cs b)
    (hs : Region.sinkB md ops n = true) (hc : Region.chainB md ops n = true) (hn : n < ops.size) (hin : i < n)
    (hdone : ∀ listed a w, L listed a w → ∀ j ∈ Region.ready md ops listed, n ≤ j) :
    ∀ (f : Nat) (listed : Array Bool) (a : Act) (w : World), HeadInv md ops n listed →
      (∀ j oj, ops[j]? = some oj → j ≠ i → listed.getD j true = false → (∀ e ∈ oj.after, Region.binds md e = true → e.on ≠ i) → oi.apart ops oj = true) →
      i ∈ Region.ready md ops listed → Pure P ops C oi v a → C w →
      wpAnyC P md ops n C L f (listed.setIfInBounds i true) (a.put oi.dst v) w → wpAnyC P md ops n C L (f + 1) listed a w := by
  intro f
  induction f with
  | zero =>
    intro listed a w inv _ hr hy hCw H
    have hun := (mem_ready.1 hr).1
    refine ⟨hCw, fun h => (by rw [h] at hr; cases hr), fun j hj => ?_⟩
    have hjn : j < n := by
      rcases Nat.lt_or_ge j n with h | h
      · exact h
      · exact absurd hj (tail_waits hs hc hn inv _ i rfl hin hun j h)
    refine ⟨hjn, ?_⟩
    by_cases hji : j = i
    · subst hji; exact hy.wpOp hi hCw H
    · have := hdone _ _ _ H.2 j (ready_mono hj hji)
      omega
  | succ f ih =>
    intro listed a w inv hfree hr hy hCw H
    have hun := (mem_ready.1 hr).1
    refine ⟨hCw, fun h => (by rw [h] at hr; cases hr), fun j hj => ?_⟩
    have hjn : j < n := by
      rcases Nat.lt_or_ge j n with h | h
      · exact h
      · exact absurd hj (tail_waits hs hc hn inv _ i rfl hin hun j h)
    refine ⟨hjn, ?_⟩
    by_cases hji : j = i
    · subst hji; exact hy.wpOp hi hCw H
    · have h1 := (H.2.2 j (ready_mono hj hji)).2
      obtain ⟨hjun, oj, hoj, hall⟩ := mem_ready.1 hj
      have hnot : ∀ e ∈ oj.after, Region.binds md e = true → e.on ≠ i := fun e he hb heq => by
        have h1 := hall e he hb
        rw [heq, getD_both hun] at h1
        cases h1
      have h2 := wpOp_put hoj (hfree j oj hoj hji hjun hnot) (fun cs b => hsel i oi cs b hi) (fun cs b => hsel j oj cs b hoj) hy h1
      have hfree' : ∀ k ok, ops[k]? = some ok → k ≠ i → (listed.setIfInBounds j true).getD k true = false →
          (∀ e ∈ ok.after, Region.binds md e = true → e.on ≠ i) → oi.apart ops ok = true := fun k ok hk hki hun hno => by
        refine hfree k ok hk hki ?_ hno
        by_cases hjk : j = k
        · subst hjk; exact hjun
        · rw [getD_set_ne true hjk] at hun; exact hun
      refine wpOp_QF (fun a' w' h3 => ?_) h2
      obtain ⟨h3, h4⟩ := h3
      rw [Array.setIfInBounds_comm _ _ (fun e => hji e.symm)] at h4
      have hi' := ready_mono hr (Ne.symm hji)
      exact ih (listed.setIfInBounds j true) a' w' (inv.set hj hjn) hfree' hi' h3 (wpAnyC_C h4) h4

/-- The order of the walk: each operation of the head by its number; true: it is pure, and may be taken first; false: no other is ready. -/
def ordB (md : Region.Mode) (ops : Array Oper) (n g : Nat) : List (Nat × Bool) → Array Bool → Bool
  | [], listed => Region.seqB md ops g n listed
  | (k, true) :: r, listed => (Region.ready md ops listed).contains k && decide (k < n) && Region.free md ops listed k && ordB md ops n g r (listed.setIfInBounds k true)
  | (k, false) :: r, listed => decide (Region.ready md ops listed = [k]) && decide (k < n) && ordB md ops n g r (listed.setIfInBounds k true)
def mixedB (md : Region.Mode) (ops : Array Oper) (n : Nat) (ord : List (Nat × Bool)) : Bool :=
  Region.noSelect ops && decide (n < ops.size) && decide (ord.length + (ops.size - n) = ops.size) && Region.sinkB md ops n && Region.chainB md ops n && ordB md ops n (ops.size - n) ord (Array.replicate ops.size false)

def wpMix (P : Program) (ops : Array Oper) (C : World → Prop) (T : Act → World → Prop) : List (Nat × Bool) → Act → World → Prop
  | [], a, w => T a w
  | (k, true) :: r, a, w => match ops[k]? with
    | none => False
    | some o => ∃ v, Pure P ops C o v a ∧ wpMix P ops C T r (a.put o.dst v) w
  | (k, false) :: r, a, w => wpOp P ops QF k (fun a' w' => C w' ∧ wpMix P ops C T r a' w') a w

theorem wpAnyC_ord {C : World → Prop} {n g : Nat} {T : Act → World → Prop} (hsel : Region.noSelect ops = true) (hs : Region.sinkB md ops n = true) (hc : Region.chainB md ops n = true) (hn : n < ops.size) :
    ∀ (ord : List (Nat × Bool)) (listed : Array Bool) (a : Act) (w : World), HeadInv md ops n listed → ordB md ops n g ord listed = true → C w → wpMix P ops C T ord a w →
    wpAnyC P md ops n C (fun listed' a' w' => Region.seqB md ops g n listed' = true ∧ T a' w') ord.length listed a w
  | [], listed, a, w, _, hB, hC, h => ⟨hC, hB, h⟩
  | (k, true) :: r, listed, a, w, inv, hB, hC, h => by
    simp only [ordB, Bool.and_eq_true, decide_eq_true_eq] at hB
    obtain ⟨⟨⟨hr, hk⟩, hf⟩, hB'⟩ := hB
    have hr' : k ∈ Region.ready md ops listed := by simpa using hr
    simp only [wpMix] at h
    cases ho : ops[k]? with
    | none => rw [ho] at h; exact h.elim
    | some o =>
      rw [ho] at h
      obtain ⟨v, hv, hK⟩ := h
      exact wpAnyC_first ho (Region.noSelect_spec hsel) hs hc hn hk (fun listed' a' w' hL => seqB_ready hL.1) r.length listed a w inv (Region.free_spec ho hf) hr' hv hC
        (wpAnyC_ord hsel hs hc hn r _ _ w (inv.set hr' hk) hB' hC hK)
  | (k, false) :: r, listed, a, w, inv, hB, hC, h => by
    simp only [ordB, Bool.and_eq_true, decide_eq_true_eq] at hB
    obtain ⟨⟨hr, hk⟩, hB'⟩ := hB
    simp only [wpMix] at h
    have hne : Region.ready md ops listed ≠ [] := by rw [hr]; exact List.cons_ne_nil _ _
    refine ⟨hC, hne, fun i hi => ?_⟩
    rw [hr] at hi
    have hik : i = k := by simpa using hi
    subst hik
    refine ⟨hk, wpOp_QF (fun a' w' h' => ?_) h⟩
    exact wpAnyC_ord hsel hs hc hn r _ a' w' (inv.set (by rw [hr]; exact List.mem_singleton.2 rfl) hk) hB' h'.1 h'.2

/-- ONE WALK SERVES EVERY ORDER. -/
theorem wp_region_mixed {id : Nat} {Q : Exit → Act → World → Prop} {a : Act} {w : World} {l : List Oper} (C : World → Prop) (n : Nat) (ord : List (Nat × Bool)) (hm : P.follows .mixedOrders = true) (hB : mixedB .any l.toArray n ord = true)
    (hC : C w.drew) (h : wpMix P l.toArray C (fun a' w' => wpList P l.toArray Q (l.drop n) a' w') ord a w.drew) : (Code.region id l.toArray true).wp P Q a w := by
  simp only [mixedB, Bool.and_eq_true, decide_eq_true_eq] at hB
  obtain ⟨⟨⟨⟨⟨hsel, hn⟩, hlen⟩, hs⟩, hc⟩, hord⟩ := hB
  have hdl : (l.drop n).length = l.toArray.size - n := by simp
  have inv0 : HeadInv .any l.toArray n (Array.replicate l.toArray.size false) :=
    ⟨by simp, fun j oj _ hl => (by rw [getD_replicate_false] at hl; cases hl), fun t _ ht => getD_in (by simpa using ht) (getD_replicate_false _ _)⟩
  have H := wpAnyC_ord hsel hs hc hn ord _ a w.drew inv0 hord hC h
  refine wp_region_any hm ?_
  have := wpAny_of_headC (Q' := Q) (g := l.toArray.size - n) (fun listed a' w' hL => by
    have := wpAny_of_seq (md := .any) (Q' := Q) (l.drop n) n listed a' w' (fun j => by simp [List.getElem?_drop]) (by rw [hdl]; exact hL.1) hL.2
    rwa [hdl] at this) _ _ _ _ H
  rw [hlen] at this
  exact this

theorem wpMix_pure {C : World → Prop} {T : Act → World → Prop} {k : Nat} {r : List (Nat × Bool)} {a : Act} {w : World} {o : Oper} (ho : ops[k]? = some o) (hw : Region.wanted o (yielded ops a.tmps) = true) (v : Value)
    (hv : ∀ w, C w → (execOp a.eval o).run P w = .ok (.value v) w) (h : wpMix P ops C T r (a.put o.dst v) w) : wpMix P ops C T ((k, true) :: r) a w := by
  simp only [wpMix, ho]
  exact ⟨v, .inl ⟨hw, hv⟩, h⟩
theorem wpMix_move {C : World → Prop} {T : Act → World → Prop} {k : Nat} {r : List (Nat × Bool)} {a : Act} {w : World} {o : Oper} (ho : ops[k]? = some o) (hw : Region.wanted o (yielded ops a.tmps) = true) (x : Operand) (hx : o.op = .move x) (v : Value)
    (hv : a.eval x = v) (h : wpMix P ops C T r (a.put o.dst v) w) : wpMix P ops C T ((k, true) :: r) a w := by
  subst hv
  exact wpMix_pure ho hw _ (fun w _ => by unfold execOp; simp [hx]) h
theorem wpMix_assign {C : World → Prop} {T : Act → World → Prop} {k : Nat} {r : List (Nat × Bool)} {a : Act} {w : World} {o : Oper} (ho : ops[k]? = some o) (hw : Region.wanted o (yielded ops a.tmps) = true) (x : Operand) (hx : o.op = .assign x) (v : Value)
    (hv : a.eval x = v) (h : wpMix P ops C T r (a.put o.dst v) w) : wpMix P ops C T ((k, true) :: r) a w := by
  subst hv
  exact wpMix_pure ho hw _ (fun w _ => by unfold execOp; simp [hx]) h
/-- A loud operation, as a walk of one operation. -/
def QK (K : Act → World → Prop) : Exit → Act → World → Prop
  | .normal, a, w => K a w
  | _, _, _ => False
theorem not_letsOut_QK (K : Act → World → Prop) : ¬ LetsOut (QK K) := fun ⟨_, _, h⟩ => h
theorem upon_QK {o : Oper} {a : Act} {K : Act → World → Prop} {K' : Act → World → Prop} {r : Result Next} (h : o.upon P a K (QK K') r) : o.upon P a K QF r := by
  cases r with
  | ok n w' =>
    cases n <;> simp only [Oper.upon] at h ⊢
    case value v => exact h
    case skip => exact h
    case defer d => exact h
    case enter f args =>
      refine h.mono fun e w'' he => ?_
      cases e with
      | returned v => exact he
      | panicked c => exact (he : False).elim
      | outgrown => exact absurd he (not_letsOut_QK _)
    case row row args => exact h
  | halt x w' =>
    cases x <;> simp only [Oper.upon] at h
    case panic v => exact (h : False).elim
theorem wpMix_loud {C : World → Prop} {T : Act → World → Prop} {k : Nat} {r : List (Nat × Bool)} {a : Act} {w : World} {o : Oper} (ho : ops[k]? = some o) (h : wpList P ops (QK fun a' w' => C w' ∧ wpMix P ops C T r a' w') [o] a w) :
    wpMix P ops C T ((k, false) :: r) a w := by
  simp only [wpMix]
  unfold wpOp
  simp only [ho]
  simp only [wpList] at h
  split
  · rename_i hw
    simp only [hw, if_true] at h
    rcases h with h | h
    · exact .inl (upon_QK h)
    · exact absurd h.2 (not_letsOut_QK _)
  · rename_i hw
    simp only [hw] at h
    exact h
end
end Go.Mixed
