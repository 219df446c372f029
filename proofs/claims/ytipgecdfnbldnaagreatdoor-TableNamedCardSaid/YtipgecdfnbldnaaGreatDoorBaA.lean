/-
  NumA, NumB, NumC, NumD, Mixed, Round, Each, Stops, Ob, MixG, MixT: texts joined to one.
-/
import Derived.Test.YtipgecdfnbldnaaGreatDoorProg
import Derived.WalkKit
import Derived.WalkSpells
import Derived.WalkLawsBesides
import Derived.Lib.Bytealg
import Derived.Lib.Hide
import Derived.OneCell
import Derived.Laws.IdiomStrings
import Derived.Lib.SlBytesRow
import Derived.StillTail
import Derived.Deep.Quiet
import Derived.Tactics
import Derived.Tactics2
import Derived.KernelRfl
import Derived.RangeFuncNested
import Derived.RangeFuncBound
import Derived.RangeFuncCalls
import Derived.RangeFuncLeaves
import Derived.RangeFuncBox
import Derived.OwnWalkIn
import Derived.TacticsInMore
import Derived.Deep.QuietTactic
import Derived.BigQuiet
import Derived.OwnWalk
import Derived.Laws.AppendOwn
import Derived.Laws.OwnMore
import Derived.Lib.SliceRun
import Derived.Maps.AppendAt
set_option linter.all false
set_option maxRecDepth 100000
set_option maxHeartbeats 4000000
/-
  Walks over the leaf functions of package num: capital, isDecimal, strings.IndexByte, value, Signed. For every byte: what each returns; the world is left as it was.
-/
namespace Go.Proofs.YtipgecdfnbldnaaGreatDoor
open Go.RowKit
theorem ret_int {k : IntKind} {a b : Int} (h : a = b) : Ending.returned (.int k a) = .returned (.int k b) := by rw [h]
def capI (c : Int) : Int := if 97 ≤ c ∧ c ≤ 122 then c - 32 else c
def decB (c : Int) : Bool := decide (48 ≤ c) && decide (c ≤ 57)
theorem isDecimal_any (c : Int) (h0 : 0 ≤ c) (h1 : c ≤ 255) (w : World) :
    Calls Tryz.prog 145 #[.int .u8 c] w fun e w' => e = .returned (.bool (decB c)) ∧ w = w' := by
  by_cases ha : 48 ≤ c
  · have e1 : decB c = decide (c ≤ 57) := by unfold decB; simp [ha]
    rw [e1]
    go_enter Tryz.func145, Tryz.ntmps145
    go_wp2
    go_ret
    exact ⟨rfl, rfl⟩
  · have e1 : decB c = false := by unfold decB; simp [ha]
    rw [e1]
    go_enter Tryz.func145, Tryz.ntmps145
    go_wp2
    go_ret
    exact ⟨rfl, rfl⟩
end Go.Proofs.YtipgecdfnbldnaaGreatDoor
/-
  Walks over num.read and its closure: for every string and base (2 to 16) the number that the digits denote, or 0 and false; nothing that was there is changed.
-/
namespace Go.Proofs.YtipgecdfnbldnaaGreatDoor
open Go.RowKit
end Go.Proofs.YtipgecdfnbldnaaGreatDoor
/-
  Walks over strings.CutPrefix, strings.CutSuffix and the functions that num.forms lists: for every word, what each cuts and whether the word has the form; the world is left as it was.
-/
namespace Go.Proofs.YtipgecdfnbldnaaGreatDoor
open Go.RowKit
theorem ret_bool {a b : Bool} (h : a = b) : Ending.returned (.bool a) = .returned (.bool b) := by rw [h]
theorem ret_str {a b : ByteArray} (h : a = b) : Ending.returned (.string a) = .returned (.string b) := by rw [h]
end Go.Proofs.YtipgecdfnbldnaaGreatDoor
/-
  Walks over num.forms and num.Upper: for every string, the string with capital letters instead of a to z; nothing that was there is changed.
-/
namespace Go.Proofs.YtipgecdfnbldnaaGreatDoor
open Go.RowKit
end Go.Proofs.YtipgecdfnbldnaaGreatDoor
/-
  A region that draws its order, in which operations that only compute (or read what no operation of the region's head changes) stand beside operations that change the world in one forced order: one walk serves every order.
  No program of its own: laws over any program.
-/
namespace Go.Mixed
open Go
def QF : Exit → Act → World → Prop := fun _ _ _ => False
theorem not_letsOut : ¬ LetsOut QF := fun ⟨_, _, h⟩ => h
section
variable {P : Program} {ops : Array Oper} {md : Region.Mode}
theorem upon_QF {o : Oper} {a : Act} {K K' : Act → World → Prop} {Q : Exit → Act → World → Prop} {r : Result Next} (hK : ∀ a w, K a w → K' a w) (h : o.upon P a K QF r) : o.upon P a K' Q r := by
  cases r with
  | ok n w' =>
    cases n <;> simp only [Oper.upon] at h ⊢
    case value v => exact hK _ _ h
    case skip => exact hK _ _ h
    case defer d => exact hK _ _ h
    case enter f args =>
      refine h.mono fun e w'' he => ?_
      cases e with
      | returned v => exact hK _ _ he
      | panicked c => exact (he : False).elim
      | outgrown => exact absurd he not_letsOut
    case row row args => exact h.mono fun v w'' hv => hK _ _ hv
  | halt x w' =>
    cases x <;> simp only [Oper.upon] at h
    case panic v => exact (h : False).elim
theorem wpOp_QF {i : Nat} {a : Act} {w : World} {K K' : Act → World → Prop} {Q : Exit → Act → World → Prop} (hK : ∀ a w, K a w → K' a w) (h : wpOp P ops QF i K a w) : wpOp P ops Q i K' a w := by
  unfold wpOp at *
  split
  · rename_i ho; simp only [ho] at h; exact hK _ _ h
  · rename_i o ho
    simp only [ho] at h
    split
    · rename_i hw
      simp only [hw, if_true] at h
      rcases h with h | h
      · exact .inl (upon_QF hK h)
      · exact absurd h.2 not_letsOut
    · rename_i hw; simp only [hw] at h; exact hK _ _ h
def wpAnyC (P : Program) (md : Region.Mode) (ops : Array Oper) (n : Nat) (C : World → Prop) (L : Array Bool → Act → World → Prop) : Nat → Array Bool → Act → World → Prop
  | 0, listed, a, w => C w ∧ L listed a w
  | f + 1, listed, a, w => C w ∧ Region.ready md ops listed ≠ [] ∧ ∀ i ∈ Region.ready md ops listed, i < n ∧ wpOp P ops QF i (wpAnyC P md ops n C L f (listed.setIfInBounds i true)) a w
theorem wpAnyC_C {n : Nat} {C : World → Prop} {L : Array Bool → Act → World → Prop} {f : Nat} {listed : Array Bool} {a : Act} {w : World} (h : wpAnyC P md ops n C L f listed a w) : C w := by
  cases f <;> exact h.1
theorem wpAny_of_headC {n g : Nat} {C : World → Prop} {L : Array Bool → Act → World → Prop} {Q' : Exit → Act → World → Prop} (hL : ∀ listed a w, L listed a w → wpAny P md ops Q' g listed a w) :
    ∀ (f : Nat) (listed : Array Bool) (a : Act) (w : World), wpAnyC P md ops n C L f listed a w → wpAny P md ops Q' (f + g) listed a w
  | 0, listed, a, w, h => by rw [Nat.zero_add]; exact hL _ _ _ h.2
  | f + 1, listed, a, w, h => by
    rw [show f + 1 + g = (f + g) + 1 by omega]
    exact ⟨fun h0 => absurd h0 h.2.1, fun i hi => wpOp_QF (fun a' w' h' => wpAny_of_headC hL f _ a' w' h') (h.2.2 i hi).2⟩
def Pure (P : Program) (ops : Array Oper) (C : World → Prop) (o : Oper) (v : Value) (a : Act) : Prop :=
  (Region.wanted o (yielded ops a.tmps) = true ∧ ∀ w, C w → (execOp a.eval o).run P w = .ok (.value v) w) ∨
  (Region.wanted o (yielded ops a.tmps) = false ∧ v = undef)
theorem Pure.of_same {C : World → Prop} {o : Oper} {v : Value} {a a' : Act} (hy : Pure P ops C o v a) (he : execOp a'.eval o = execOp a.eval o)
    (hw : Region.wanted o (yielded ops a'.tmps) = Region.wanted o (yielded ops a.tmps)) : Pure P ops C o v a' := by
  unfold Pure at *
  rw [he, hw]
  exact hy
theorem Pure.wpOp {C : World → Prop} {i : Nat} {o : Oper} {v : Value} {a : Act} {w : World} {K : Act → World → Prop} {Q : Exit → Act → World → Prop} (hi : ops[i]? = some o) (hy : Pure P ops C o v a) (hC : C w) (h : K (a.put o.dst v) w) : wpOp P ops Q i K a w := by
  unfold Go.wpOp
  simp only [hi]
  rcases hy with ⟨hw, hv⟩ | ⟨hw, rfl⟩
  · simp only [hw, if_true]
    left
    unfold Oper.wp
    rw [hv w hC]
    exact h
  · simp only [hw, Bool.false_eq_true, if_false]; exact h
theorem put_defers (a : Act) (ds : List Deferred) (x : Option Tmp) (v : Value) : ({ a with defers := ds }.put x v) = { (a.put x v) with defers := ds } := by
  cases x <;> rfl
theorem defers_put (a : Act) (x : Option Tmp) (v : Value) : (a.put x v).defers = a.defers := by
  cases x <;> rfl
theorem wpOp_put {C : World → Prop} {j : Nat} {oi oj : Oper} {v : Value} (hj : ops[j]? = some oj) (hap : oi.apart ops oj = true)
    (hsi : ∀ cs b, oi.op ≠ .select cs b) (hsj : ∀ cs b, oj.op ≠ .select cs b) {K : Act → World → Prop} {a : Act} {w : World}
    (hy : Pure P ops C oi v a) (h : wpOp P ops QF j K (a.put oi.dst v) w) :
    wpOp P ops QF j (fun a' w' => Pure P ops C oi v a' ∧ K (a'.put oi.dst v) w') a w := by
  obtain ⟨h1, h2, h3⟩ := Oper.apart_spec hap
  have keep : ∀ (a : Act), Pure P ops C oi v a → ∀ u, Pure P ops C oi v (a.put oj.dst u) := fun a hy u =>
    hy.of_same (execOp_put oi hsi a oj.dst u h3) (wanted_put oi a oj.dst u h3)
  unfold wpOp at *
  simp only [hj] at *
  rw [wanted_put oj a oi.dst v h1] at h
  split
  · rename_i hw
    simp only [hw, if_true] at h
    rcases h with h | h
    · left
      unfold Oper.wp at *
      rw [execOp_put oj hsj a oi.dst v h1] at h
      generalize (execOp a.eval oj).run P w = r at *
      cases r with
      | ok n w' =>
        cases n <;> simp only [Oper.upon] at h ⊢
        case value u => exact ⟨keep a hy u, by rw [← Act.put_comm a v u h2]; exact h⟩
        case skip => exact ⟨keep a hy _, by rw [← Act.put_comm a v undef h2]; exact h⟩
        case defer d =>
          refine ⟨?_, ?_⟩
          · have hy' : Pure P ops C oi v { a with defers := d :: a.defers } := hy
            exact keep _ hy' _
          · rw [← Act.put_comm _ v undef h2]
            have e : ({ a with defers := d :: a.defers }.put oi.dst v) = { (a.put oi.dst v) with defers := d :: (a.put oi.dst v).defers } := by rw [defers_put]; exact put_defers a _ _ _
            rw [e]
            exact h
        case enter f args =>
          refine h.mono fun e w'' he => ?_
          cases e with
          | returned u => exact ⟨keep a hy u, by rw [← Act.put_comm a v u h2]; exact he⟩
          | panicked c => exact (he : False).elim
          | outgrown => exact he
        case row row args => exact h.mono fun u w'' hv => ⟨keep a hy u, by rw [← Act.put_comm a v u h2]; exact hv⟩
      | halt x w' =>
        cases x <;> simp only [Oper.upon] at h
        case panic v => exact (h : False).elim
    · exact absurd h.2 not_letsOut
  · rename_i hw
    simp only [hw] at h
    exact ⟨keep a hy _, by rw [← Act.put_comm a v undef h2]; exact h⟩
theorem wpAnyC_first {C : World → Prop} {n i : Nat} {oi : Oper} {v : Value} {L : Array Bool → Act → World → Prop} (hi : ops[i]? = some oi) (hsel : ∀ (j : Nat) (o : Oper) cs b, ops[j]? = some o → o.op ≠ .select cs b)
    (hs : Region.sinkB md ops n = true) (hc : Region.chainB md ops n = true) (hn : n < ops.size) (hin : i < n)
    (hdone : ∀ listed a w, L listed a w → ∀ j ∈ Region.ready md ops listed, n ≤ j) :
    ∀ (f : Nat) (listed : Array Bool) (a : Act) (w : World), HeadInv md ops n listed →
      (∀ j oj, ops[j]? = some oj → j ≠ i → listed.getD j true = false → (∀ e ∈ oj.after, Region.binds md e = true → e.on ≠ i) → oi.apart ops oj = true) →
      i ∈ Region.ready md ops listed → Pure P ops C oi v a → C w →
      wpAnyC P md ops n C L f (listed.setIfInBounds i true) (a.put oi.dst v) w → wpAnyC P md ops n C L (f + 1) listed a w := by
  intro f
  induction f with
  | zero =>
    intro listed a w inv _ hr hy hCw H
    have hun := (mem_ready.1 hr).1
    refine ⟨hCw, fun h => (by rw [h] at hr; cases hr), fun j hj => ?_⟩
    have hjn : j < n := by
      rcases Nat.lt_or_ge j n with h | h
      · exact h
      · exact absurd hj (tail_waits hs hc hn inv _ i rfl hin hun j h)
    refine ⟨hjn, ?_⟩
    by_cases hji : j = i
    · subst hji; exact hy.wpOp hi hCw H
    · have := hdone _ _ _ H.2 j (ready_mono hj hji)
      omega
  | succ f ih =>
    intro listed a w inv hfree hr hy hCw H
    have hun := (mem_ready.1 hr).1
    refine ⟨hCw, fun h => (by rw [h] at hr; cases hr), fun j hj => ?_⟩
    have hjn : j < n := by
      rcases Nat.lt_or_ge j n with h | h
      · exact h
      · exact absurd hj (tail_waits hs hc hn inv _ i rfl hin hun j h)
    refine ⟨hjn, ?_⟩
    by_cases hji : j = i
    · subst hji; exact hy.wpOp hi hCw H
    · have h1 := (H.2.2 j (ready_mono hj hji)).2
      obtain ⟨hjun, oj, hoj, hall⟩ := mem_ready.1 hj
      have hnot : ∀ e ∈ oj.after, Region.binds md e = true → e.on ≠ i := fun e he hb heq => by
        have h1 := hall e he hb
        rw [heq, getD_both hun] at h1
        cases h1
      have h2 := wpOp_put hoj (hfree j oj hoj hji hjun hnot) (fun cs b => hsel i oi cs b hi) (fun cs b => hsel j oj cs b hoj) hy h1
      have hfree' : ∀ k ok, ops[k]? = some ok → k ≠ i → (listed.setIfInBounds j true).getD k true = false →
          (∀ e ∈ ok.after, Region.binds md e = true → e.on ≠ i) → oi.apart ops ok = true := fun k ok hk hki hun hno => by
        refine hfree k ok hk hki ?_ hno
        by_cases hjk : j = k
        · subst hjk; exact hjun
        · rw [getD_set_ne true hjk] at hun; exact hun
      refine wpOp_QF (fun a' w' h3 => ?_) h2
      obtain ⟨h3, h4⟩ := h3
      rw [Array.setIfInBounds_comm _ _ (fun e => hji e.symm)] at h4
      have hi' := ready_mono hr (Ne.symm hji)
      exact ih (listed.setIfInBounds j true) a' w' (inv.set hj hjn) hfree' hi' h3 (wpAnyC_C h4) h4
def ordB (md : Region.Mode) (ops : Array Oper) (n g : Nat) : List (Nat × Bool) → Array Bool → Bool
  | [], listed => Region.seqB md ops g n listed
  | (k, true) :: r, listed => (Region.ready md ops listed).contains k && decide (k < n) && Region.free md ops listed k && ordB md ops n g r (listed.setIfInBounds k true)
  | (k, false) :: r, listed => decide (Region.ready md ops listed = [k]) && decide (k < n) && ordB md ops n g r (listed.setIfInBounds k true)
def mixedB (md : Region.Mode) (ops : Array Oper) (n : Nat) (ord : List (Nat × Bool)) : Bool :=
  Region.noSelect ops && decide (n < ops.size) && decide (ord.length + (ops.size - n) = ops.size) && Region.sinkB md ops n && Region.chainB md ops n && ordB md ops n (ops.size - n) ord (Array.replicate ops.size false)
def wpMix (P : Program) (ops : Array Oper) (C : World → Prop) (T : Act → World → Prop) : List (Nat × Bool) → Act → World → Prop
  | [], a, w => T a w
  | (k, true) :: r, a, w => match ops[k]? with
    | none => False
    | some o => ∃ v, Pure P ops C o v a ∧ wpMix P ops C T r (a.put o.dst v) w
  | (k, false) :: r, a, w => wpOp P ops QF k (fun a' w' => C w' ∧ wpMix P ops C T r a' w') a w
theorem wpAnyC_ord {C : World → Prop} {n g : Nat} {T : Act → World → Prop} (hsel : Region.noSelect ops = true) (hs : Region.sinkB md ops n = true) (hc : Region.chainB md ops n = true) (hn : n < ops.size) :
    ∀ (ord : List (Nat × Bool)) (listed : Array Bool) (a : Act) (w : World), HeadInv md ops n listed → ordB md ops n g ord listed = true → C w → wpMix P ops C T ord a w →
    wpAnyC P md ops n C (fun listed' a' w' => Region.seqB md ops g n listed' = true ∧ T a' w') ord.length listed a w
  | [], listed, a, w, _, hB, hC, h => ⟨hC, hB, h⟩
  | (k, true) :: r, listed, a, w, inv, hB, hC, h => by
    simp only [ordB, Bool.and_eq_true, decide_eq_true_eq] at hB
    obtain ⟨⟨⟨hr, hk⟩, hf⟩, hB'⟩ := hB
    have hr' : k ∈ Region.ready md ops listed := by simpa using hr
    simp only [wpMix] at h
    cases ho : ops[k]? with
    | none => rw [ho] at h; exact h.elim
    | some o =>
      rw [ho] at h
      obtain ⟨v, hv, hK⟩ := h
      exact wpAnyC_first ho (Region.noSelect_spec hsel) hs hc hn hk (fun listed' a' w' hL => seqB_ready hL.1) r.length listed a w inv (Region.free_spec ho hf) hr' hv hC
        (wpAnyC_ord hsel hs hc hn r _ _ w (inv.set hr' hk) hB' hC hK)
  | (k, false) :: r, listed, a, w, inv, hB, hC, h => by
    simp only [ordB, Bool.and_eq_true, decide_eq_true_eq] at hB
    obtain ⟨⟨hr, hk⟩, hB'⟩ := hB
    simp only [wpMix] at h
    have hne : Region.ready md ops listed ≠ [] := by rw [hr]; exact List.cons_ne_nil _ _
    refine ⟨hC, hne, fun i hi => ?_⟩
    rw [hr] at hi
    have hik : i = k := by simpa using hi
    subst hik
    refine ⟨hk, wpOp_QF (fun a' w' h' => ?_) h⟩
    exact wpAnyC_ord hsel hs hc hn r _ a' w' (inv.set (by rw [hr]; exact List.mem_singleton.2 rfl) hk) hB' h'.1 h'.2
theorem wp_region_mixed {id : Nat} {Q : Exit → Act → World → Prop} {a : Act} {w : World} {l : List Oper} (C : World → Prop) (n : Nat) (ord : List (Nat × Bool)) (hm : P.follows .mixedOrders = true) (hB : mixedB .any l.toArray n ord = true)
    (hC : C w.drew) (h : wpMix P l.toArray C (fun a' w' => wpList P l.toArray Q (l.drop n) a' w') ord a w.drew) : (Code.region id l.toArray true).wp P Q a w := by
  simp only [mixedB, Bool.and_eq_true, decide_eq_true_eq] at hB
  obtain ⟨⟨⟨⟨⟨hsel, hn⟩, hlen⟩, hs⟩, hc⟩, hord⟩ := hB
  have hdl : (l.drop n).length = l.toArray.size - n := by simp
  have inv0 : HeadInv .any l.toArray n (Array.replicate l.toArray.size false) :=
    ⟨by simp, fun j oj _ hl => (by rw [getD_replicate_false] at hl; cases hl), fun t _ ht => getD_in (by simpa using ht) (getD_replicate_false _ _)⟩
  have H := wpAnyC_ord hsel hs hc hn ord _ a w.drew inv0 hord hC h
  refine wp_region_any hm ?_
  have := wpAny_of_headC (Q' := Q) (g := l.toArray.size - n) (fun listed a' w' hL => by
    have := wpAny_of_seq (md := .any) (Q' := Q) (l.drop n) n listed a' w' (fun j => by simp [List.getElem?_drop]) (by rw [hdl]; exact hL.1) hL.2
    rwa [hdl] at this) _ _ _ _ H
  rw [hlen] at this
  exact this
theorem wpMix_pure {C : World → Prop} {T : Act → World → Prop} {k : Nat} {r : List (Nat × Bool)} {a : Act} {w : World} {o : Oper} (ho : ops[k]? = some o) (hw : Region.wanted o (yielded ops a.tmps) = true) (v : Value)
    (hv : ∀ w, C w → (execOp a.eval o).run P w = .ok (.value v) w) (h : wpMix P ops C T r (a.put o.dst v) w) : wpMix P ops C T ((k, true) :: r) a w := by
  simp only [wpMix, ho]
  exact ⟨v, .inl ⟨hw, hv⟩, h⟩
theorem wpMix_move {C : World → Prop} {T : Act → World → Prop} {k : Nat} {r : List (Nat × Bool)} {a : Act} {w : World} {o : Oper} (ho : ops[k]? = some o) (hw : Region.wanted o (yielded ops a.tmps) = true) (x : Operand) (hx : o.op = .move x) (v : Value)
    (hv : a.eval x = v) (h : wpMix P ops C T r (a.put o.dst v) w) : wpMix P ops C T ((k, true) :: r) a w := by
  subst hv
  exact wpMix_pure ho hw _ (fun w _ => by unfold execOp; simp [hx]) h
def QK (K : Act → World → Prop) : Exit → Act → World → Prop
  | .normal, a, w => K a w
  | _, _, _ => False
theorem not_letsOut_QK (K : Act → World → Prop) : ¬ LetsOut (QK K) := fun ⟨_, _, h⟩ => h
theorem upon_QK {o : Oper} {a : Act} {K : Act → World → Prop} {K' : Act → World → Prop} {r : Result Next} (h : o.upon P a K (QK K') r) : o.upon P a K QF r := by
  cases r with
  | ok n w' =>
    cases n <;> simp only [Oper.upon] at h ⊢
    case value v => exact h
    case skip => exact h
    case defer d => exact h
    case enter f args =>
      refine h.mono fun e w'' he => ?_
      cases e with
      | returned v => exact he
      | panicked c => exact (he : False).elim
      | outgrown => exact absurd he (not_letsOut_QK _)
    case row row args => exact h
  | halt x w' =>
    cases x <;> simp only [Oper.upon] at h
    case panic v => exact (h : False).elim
theorem wpMix_loud {C : World → Prop} {T : Act → World → Prop} {k : Nat} {r : List (Nat × Bool)} {a : Act} {w : World} {o : Oper} (ho : ops[k]? = some o) (h : wpList P ops (QK fun a' w' => C w' ∧ wpMix P ops C T r a' w') [o] a w) :
    wpMix P ops C T ((k, false) :: r) a w := by
  simp only [wpMix]
  unfold wpOp
  simp only [ho]
  simp only [wpList] at h
  split
  · rename_i hw
    simp only [hw, if_true] at h
    rcases h with h | h
    · exact .inl (upon_QK h)
    · exact absurd h.2 (not_letsOut_QK _)
  · rename_i hw
    simp only [hw] at h
    exact h
end
end Go.Mixed
/-
  A region in a round of a loop over a function: what is shown of it as everywhere holds in the round.
  No program of its own: laws over any program.
-/
namespace Go.Mixed
open Go
theorem rowsIn_wide {n : Nat} {P : Program} {row : String} {args : Array Value} {w : World} {R : Value → World → Prop} (h : Rows P row args w R) : RowsIn Fence.wide n P row args w R := fun c cs _ =>
  let ⟨v, w', r, s⟩ := h c cs; ⟨v, w', r, stepsIn_wide.2 s⟩
theorem opsIn_of_ops {P : Program} {r n : Nat} {ops : Array Oper} {Q : Exit → Act → World → Prop} (hnd : ∀ (i : Nat) (o : Oper), ops[i]? = some o → ∀ c, o.op ≠ .defer c) (hQ : ¬ LetsOut Q) :
    ∀ (l : List Nat) (a : Act) (w : World), wpOps P ops Q l a w → wpOpsIn (Fence.wide.inRound r) n P ops Q l a w
  | [], a, w, h => h
  | i :: rest, a, w, h => by
    have ih := opsIn_of_ops (P := P) (r := r) (n := n) hnd hQ rest
    simp only [wpOps] at h
    simp only [wpOpsIn]
    cases ho : ops[i]? with
    | none => simp only [ho] at h; exact ih _ _ h
    | some o =>
      simp only [ho] at h ⊢
      by_cases hw : Region.wanted o (yielded ops a.tmps) = true
      · simp only [hw, if_true] at h ⊢
        rcases h with h | h
        · refine ⟨fun _ _ => trivial, ?_⟩
          rw [Oper.semAt_eq _ _ _ (hnd i o ho)]
          unfold Oper.wp at h
          generalize (execOp a.eval o).run P w = rs at *
          cases rs with
          | ok x w' =>
            cases x <;> simp only [Oper.upon] at h
            case value v => exact ih _ _ h
            case skip => exact ih _ _ h
            case defer d => exact ih _ _ h
            case enter f args =>
              refine ⟨fun h => (by cases h), CallsIn.inRound r (callsIn_wide.2 (h.mono fun e w'' he => ?_))⟩
              cases e with
              | returned v => exact ih _ _ he
              | panicked c => exact he
              | outgrown => exact he
            case row row args =>
              refine ⟨fun h => (by cases h), ?_⟩
              have h2 := rowsIn_wide (n := n - 1) (h.mono fun v w'' hv => ih _ _ hv)
              exact h2
          | halt x w' =>
            cases x <;> simp only [Oper.upon] at h
            case panic v => exact h
        · exact absurd h.2 hQ
      · have hw' : Region.wanted o (yielded ops a.tmps) = false := by simpa using hw
        simp only [hw', Bool.false_eq_true, if_false] at h ⊢
        exact ⟨fun _ _ => trivial, ih _ _ h⟩
def noDefer (l : List Oper) : Bool := l.all fun o => match o.op with | .defer _ => false | _ => true
theorem noDefer_spec {l : List Oper} (h : noDefer l = true) : ∀ (i : Nat) (o : Oper), l.toArray[i]? = some o → ∀ c, o.op ≠ .defer c := fun i o ho c e => by
  have hm : o ∈ l := by
    have := Array.mem_of_getElem? ho
    simpa using this
  have := List.all_eq_true.1 h o hm
  rw [e] at this
  cases this
theorem wpIn_region_mixed {id r m : Nat} {P : Program} {Q : Exit → Act → World → Prop} {a : Act} {w : World} {l : List Oper} (C : World → Prop) (n : Nat) (ord : List (Nat × Bool)) (hm : P.follows .mixedOrders = true) (hQ : ¬ LetsOut Q) (hd : noDefer l = true) (hB : mixedB .any l.toArray n ord = true)
    (hC : C w.drew) (h : wpMix P l.toArray C (fun a' w' => wpList P l.toArray Q (l.drop n) a' w') ord a w.drew) : (Code.region id l.toArray true).wpIn (Fence.wide.inRound r) m P Q a w := by
  simp only [mixedB, Bool.and_eq_true, decide_eq_true_eq] at hB
  obtain ⟨⟨⟨⟨⟨hsel, hn⟩, hlen⟩, hs⟩, hc⟩, hord⟩ := hB
  have hdl : (l.drop n).length = l.toArray.size - n := by simp
  have inv0 : HeadInv .any l.toArray n (Array.replicate l.toArray.size false) :=
    ⟨by simp, fun j oj _ hl => (by rw [getD_replicate_false] at hl; cases hl), fun t _ ht => getD_in (by simpa using ht) (getD_replicate_false _ _)⟩
  have H := wpAnyC_ord hsel hs hc hn ord _ a w.drew inv0 hord hC h
  have h3 := wpAny_of_headC (Q' := Q) (g := l.toArray.size - n) (fun listed a' w' hL => by
    have := wpAny_of_seq (md := .any) (Q' := Q) (l.drop n) n listed a' w' (fun j => by simp [List.getElem?_drop]) (by rw [hdl]; exact hL.1) hL.2
    rwa [hdl] at this) _ _ _ _ H
  rw [hlen] at h3
  refine wpIn_region_draw fun t => opsIn_of_ops (noDefer_spec hd) hQ _ _ _ ?_
  simp only [Region.schedule, hm, Bool.true_or, if_true]
  exact wpAny_sound _ t _ a _ h3
end Go.Mixed
/-
  A loop over a function in which every round goes on, and whose iterator can say something of an element in the world of the call of yield: what it says reaches the round.
  No program of its own: laws over any program.
-/
namespace Go.Each
open Go Go.RowKit
def Gives {α : Type} (F : Fence) (n : Nat) (P : Program) (g : Nat) (lb : Array Value) (encs : α → Array Value) (E : α → World → Prop) (Kp : World → World → Prop) (S : List α → Prop) (N : Nat) (w : World) : Prop :=
  ∀ (l : Nat) (J : List α → World → Prop) (W : World), Below w.heap.size w W → AbidesFrom W.heap.size J →
    (∀ pre x W1, J pre W1 → E x W1 → pre.length < N → YieldAt F (n - 1) P l (encs x) W1 fun e W' => e = .returned (.bool true) ∧ J (pre ++ [x]) W' ∧ Kp W1 W') →
    J [] W → CallsIn F n P g (#[.func (.yield l) #[] #[]] ++ lb) W fun e W' => (∃ v, e = .returned v) ∧ ∃ xs, S xs ∧ J xs W'
def goesOn (K : World → Prop) : Exit → Act → World → Prop
  | .normal, _, W' => K W'
  | .ret, _, _ => False
  | .exit _, _, _ => False
  | .goto _, _, _ => False
  | .panic _, _, _ => False
  | .outgrown, _, _ => False
variable {F : Fence} {n : Nat} {P : Program}
end Go.Each
/-
  A loop over a function whose iterator writes one box of its own between two rounds (a string that gets shorter), which tells of each element what it is, and whose rounds go on or return.
  No program of its own: laws over any program.
-/
namespace Go.Stops
open Go Go.RowKit
def Apart {β : Type} (Bs : Nat) (J : β → World → Prop) : Prop := ∀ s X Y, J s X → X.grownBy Y (some Bs) → J s Y
def Tells {α : Type} (F : Fence) (n : Nat) (P : Program) (g : Nat) (lb : Array Value) (encs : α → Array Value) (E : List α → α → Prop) (Bs : Nat) (Kp : World → World → Prop) (S : List α → Prop) (w : World) : Prop :=
  ∀ (l : Nat) (J Jx : List α → World → Prop) (W : World), Below w.heap.size w W → AbidesFrom W.heap.size J → Apart Bs J →
    (∀ pre x W1, J pre W1 → E pre x → YieldAt F (n - 1) P l (encs x) W1 fun e W' => (e = .returned (.bool true) ∧ J (pre ++ [x]) W' ∧ Kp W1 W') ∨ (e = .returned (.bool false) ∧ Jx (pre ++ [x]) W')) →
    AbidesFrom W.heap.size Jx → J [] W → CallsIn F n P g (#[.func (.yield l) #[] #[]] ++ lb) W fun e W' => (∃ v, e = .returned v) ∧ ((∃ xs, S xs ∧ J xs W') ∨ ∃ pre, Jx pre W')
def endsSo {α : Type} (B : Nat) (Kp : World → World → Prop) (I Ix : List α → World → Prop) (xs : List α) (W : World) : Exit → Act → World → Prop
  | .normal, _, W' => KeepsFrom B W W' ∧ Kp W W' ∧ I xs W'
  | .ret, _, W' => KeepsFrom B W W' ∧ Ix xs W'
  | .exit _, _, _ => False
  | .goto _, _, _ => False
  | .panic _, _, _ => False
  | .outgrown, _, _ => False
variable {F : Fence} {n : Nat} {P : Program}
theorem wpIn_tellsA {α : Type} {g : Operand} {ps : Array Tmp} {assign body : Code} {Q : Exit → Act → World → Prop} {a : Act} {w : World} (hro : F.round = none) (h1 : 1 ≤ n)
    {gf : Nat} {lb : Array Value} (hg : a.eval g = .func (.func gf) #[] lb) (hFg : F.fn gf) (eg : ∀ args w, (callFunc gf args).run P w = .ok (.enter gf args) w)
    {encs : α → Array Value} {E : List α → α → Prop} {Bs : Nat} {Kp : World → World → Prop} {S : List α → Prop} (hseq : Tells F (n - 1) P gf lb encs E Bs Kp S w) (hBs : Bs < w.heap.size)
    (hKt : ∀ {A B C : World}, Kp A B → Kp B C → Kp A C) (hKb : ∀ (W : World) (l : Nat) (o o' : Obj), w.heap.size ≤ l → W.heap[l]? = some o → o.isCells = false → Kp W (W.putObj l o')) (hps : ∀ x, (encs x).size = ps.size)
    (I Ix : List α → World → Prop) (hI : OwnFrom w.heap.size I) (hIB : Apart Bs I) (hIx : OwnFrom w.heap.size Ix) (h0 : I [] w) (Ax : α → Act → World → Prop) (hAx : ∀ x, OwnFrom w.heap.size (Ax x))
    (hassign : ∀ (l : Nat) (pre : List α) (x : α) (W : World) (K : Act → World → Prop), I pre W → E pre x → (∀ a' W', KeepsFrom w.heap.size W W' → Kp W W' → I pre W' → Ax x a' W' → K a' W') →
      assign.wpIn (F.inRound l) (n - 1 - 1) P (Exit.then K (fun _ _ _ => False)) { tmps := (ps.zip (encs x)).foldl (fun t (p, v) => t.setIfInBounds p v) a.tmps, defers := [] } W)
    (hbody : ∀ (l : Nat) (pre : List α) (x : α) (a' : Act) (W : World), I pre W → Ax x a' W → E pre x → body.wpIn (F.inRound l) (n - 1 - 1) P (endsSo w.heap.size Kp I Ix (pre ++ [x]) W) a' W)
    (hdone : ∀ (D : Nat) (xs : List α) (W : World), w.heap.size ≤ D → S xs → I xs W → W.heap[D]? = some (.deferred (some [])) → Q .normal { a with defers := { target := .collected D, args := #[] } :: a.defers } W)
    (hstop : ∀ (D : Nat) (pre : List α) (W : World), w.heap.size ≤ D → Ix pre W → W.heap[D]? = some (.deferred (some [])) → Code.ret.wpIn F n P Q { a with defers := { target := .collected D, args := #[] } :: a.defers } W) :
    (Code.rangeFunc g ps assign body).wpIn F n P Q a w := by
  refine wpIn_rangeFunc fun fn hfn => ?_
  rw [hro]
  let R : LoopState → Option Code → Loop := fun st j => { state := st, pending := j, fn := fn, tmps := a.tmps, params := ps, assign := assign, body := body, defers := w.heap.size }
  let B : World := (w.alloc (.deferred (some []))).alloc (.loop (R .ready none))
  have bD : B.heap[w.heap.size]? = some (.deferred (some [])) := (Below.heap_alloc _ _ _ (by simp)).trans (World.alloc_heap_new w _)
  have bL : B.heap[w.heap.size + 1]? = some (.loop (R .ready none)) := by
    have h := World.alloc_heap_new (w.alloc (.deferred (some []))) (.loop (R .ready none))
    rwa [World.size_alloc] at h
  have bI : I [] B := hI.alloc _ (hI.alloc _ h0)
  have bB : Below w.heap.size w B := ((Below.refl _ w).alloc (Nat.le_refl _) _).alloc (by simp) _
  have bz : B.heap.size = w.heap.size + 1 + 1 := by simp [B]
  -- what a turn of a walk of the iterator's own leaves of the two blocks
  have walk : ∀ {X Y : World} {row : Option Nat} {k : Nat} {o : Obj}, X.grownBy Y row → (∀ r, row = some r → B.heap.size ≤ r ∧ ∃ o : Obj, X.heap[r]? = some o ∧ o.isWalk = true) → X.heap[k]? = some o → k < w.heap.size + 2 → Y.heap[k]? = some o := fun hg' hr hk hlt =>
    (hg'.block _ (Array.getElem?_eq_some_iff.1 hk).1 fun e => by have := (hr _ e.symm).1; omega).trans hk
  have cells : ∀ {X Y : World} {row : Option Nat}, (∀ r, row = some r → B.heap.size ≤ r ∧ ∃ o : Obj, X.heap[r]? = some o ∧ o.isWalk = true) → (∀ r, row = some r → w.heap.size ≤ r ∧ ∃ o : Obj, X.heap[r]? = some o ∧ o.isCells = false) := fun hr r e => by
    obtain ⟨k1, o, k2, k3⟩ := hr r e
    exact ⟨by omega, o, k2, Obj.not_cells_of_walk k3⟩
  refine ⟨w.heap.size + 1, [{ target := .collected w.heap.size, args := #[] }], B, { target := .fn (.func gf) lb, args := #[.func (.yield (w.heap.size + 1)) #[] #[]] }, B, gf, #[.func (.yield (w.heap.size + 1)) #[] #[]] ++ lb, B,
    run_enterLoop_outer _ _ _ _ _, by simp only [resolve, hg]; simp [go_sem], fun f' hf' => by simp [Target.leads] at hf'; subst hf'; exact hFg, by simp [invoke, go_sem, eg], fun _ => h1, ?_⟩
  refine (hseq (w.heap.size + 1) (fun pre W => I pre W ∧ W.heap[w.heap.size + 1]? = some (.loop (R .ready none)) ∧ W.heap[w.heap.size]? = some (.deferred (some [])))
    (fun pre W => Ix pre W ∧ W.heap[w.heap.size + 1]? = some (.loop (R .done (some .ret))) ∧ W.heap[w.heap.size]? = some (.deferred (some []))) B bB ?_ ?_ ?_ ?_ ⟨bI, bL, bD⟩).mono ?_
  · rintro s X Y row ⟨s1, s2, s3⟩ hg' hr
    exact ⟨hI s X Y row s1 hg' (cells (Y := Y) hr), walk hg' hr s2 (by omega), walk hg' hr s3 (by omega)⟩
  · rintro s X Y ⟨s1, s2, s3⟩ hg'
    have q : ∀ {k : Nat} {o : Obj}, w.heap.size ≤ k → X.heap[k]? = some o → Y.heap[k]? = some o := fun hk ho => (hg'.block _ (Array.getElem?_eq_some_iff.1 ho).1 fun e => by have := Option.some.inj e; omega).trans ho
    exact ⟨hIB s X Y s1 hg', q (by omega) s2, q (Nat.le_refl _) s3⟩
  · rintro pre x W ⟨s1, s2, s3⟩ hx
    refine ⟨fn, _, assign, body, run_yield (P := P) (args := encs x) s2 (hps x), roundIn_of_wpIn hfn (hassign _ pre x W _ s1 hx fun a' U u1 uK uI uA => ?_)⟩
    have u2 := u1.same _ _ (by omega) s2 rfl
    have u3 := u1.same _ _ (Nat.le_refl _) s3 rfl
    have hlu : w.heap.size + 1 < U.heap.size := (Array.getElem?_eq_some_iff.1 u2).1
    refine ⟨_, run_beginRound u2 rfl, ?_⟩
    obtain ⟨V, hV⟩ : ∃ V, U.putObj (w.heap.size + 1) (.loop { R .ready none with state := .busy }) = V := ⟨_, rfl⟩
    have v2 : V.heap[w.heap.size + 1]? = some (.loop { R .ready none with state := .busy }) := hV ▸ World.putObj_heap_same hlu
    have v3 : V.heap[w.heap.size]? = some (.deferred (some [])) := hV ▸ (World.putObj_heap_other (by omega)).trans u3
    have vI : I pre V := hV ▸ hI.putObj _ uI (by omega) u2 rfl
    have vE : Ax x a' V := hV ▸ (hAx x).putObj _ uA (by omega) u2 rfl
    have vK : Kp W V := hKt uK (hV ▸ hKb _ _ _ _ (by omega) u2 rfl)
    show body.wpIn _ _ _ _ _ (U.putObj (w.heap.size + 1) (.loop { R .ready none with state := .busy }))
    rw [hV]
    refine wpIn_mono (hbody _ pre x a' V vI vE hx) ?_
    rintro (_ | _ | _ | _ | _ | _) a3 Z hz
    case normal =>
      obtain ⟨z1, z2, z3⟩ := hz
      have l3 := z1.same _ _ (by omega) v2 rfl
      exact ⟨_, _, run_endRound (P := P) none l3, .inl ⟨rfl, ⟨hI.putObj _ z3 (by omega) l3 rfl, World.putObj_heap_same (Array.getElem?_eq_some_iff.1 l3).1, (World.putObj_heap_other (by omega)).trans (z1.same _ _ (Nat.le_refl _) v3 rfl)⟩, hKt (hKt vK z2) (hKb _ _ _ _ (by omega) l3 rfl)⟩⟩
    case ret =>
      obtain ⟨z1, z3⟩ := hz
      have l3 := z1.same _ _ (by omega) v2 rfl
      exact ⟨_, _, run_endRound (P := P) (some .ret) l3, .inr ⟨rfl, hIx.putObj _ z3 (by omega) l3 rfl, World.putObj_heap_same (Array.getElem?_eq_some_iff.1 l3).1, (World.putObj_heap_other (by omega)).trans (z1.same _ _ (Nat.le_refl _) v3 rfl)⟩⟩
    all_goals exact hz.elim
  · rintro s X Y row ⟨s1, s2, s3⟩ hg' hr
    exact ⟨hIx s X Y row s1 hg' (cells (Y := Y) hr), walk hg' hr s2 (by omega), walk hg' hr s3 (by omega)⟩
  · rintro e Z ⟨⟨v, rfl⟩, (⟨xs, hS, z1, z2, z3⟩ | ⟨pre, z1, z2, z3⟩)⟩
    · exact ⟨none, _, run_endLoop (P := P) z2 (by simp [R]), hdone _ xs _ (Nat.le_refl _) hS (hI.putObj _ z1 (by omega) z2 rfl) ((World.putObj_heap_other (by omega)).trans z3)⟩
    · exact ⟨some .ret, _, run_endLoop (P := P) z2 (by simp [R]), hstop _ pre _ (Nat.le_refl _) (hIx.putObj _ z1 (by omega) z2 rfl) ((World.putObj_heap_other (by omega)).trans z3)⟩
end Go.Stops
/-
  Slices of operands in memory: lists of triples, rows of the call's own, boxes that hold an instruction; slices.Clone and slices.Equal at operands, instr.Make.
-/
namespace Go.Proofs.YtipgecdfnbldnaaGreatDoor
open Go.RowKit
theorem below_drewN (w : World) (n q : Nat) : Below n w (w.drewN q) := ⟨rfl, rfl, rfl, Nat.le_refl _, fun _ _ => rfl⟩
theorem below_dn {B : Nat} {a w : World} (h : Below B a w) (n : Nat) : Below B a (w.drewN n) := ⟨h.os, h.tape, h.output, h.size, h.block⟩
abbrev Tr := Int × Int × Int
def cellsT : List Tr → List Value
  | [] => []
  | x :: t => .int .i64 x.1 :: .int .i64 x.2.1 :: .int .i64 x.2.2 :: cellsT t
theorem cellsT_length : ∀ L : List Tr, (cellsT L).length = L.length * 3
  | [] => rfl
  | x :: t => by
    have h := cellsT_length t
    show (cellsT t).length + 1 + 1 + 1 = (t.length + 1) * 3
    omega
theorem cellsT_append : ∀ a b : List Tr, cellsT (a ++ b) = cellsT a ++ cellsT b
  | [], b => rfl
  | x :: t, b => by
    show _ :: _ :: _ :: cellsT (t ++ b) = _ :: _ :: _ :: (cellsT t ++ cellsT b)
    rw [cellsT_append t b]
theorem cellsT_at : ∀ (L : List Tr) (j : Nat) (h : j < L.length), (cellsT L)[j * 3]? = some (.int .i64 L[j].1) ∧ (cellsT L)[j * 3 + 1]? = some (.int .i64 L[j].2.1) ∧ (cellsT L)[j * 3 + 2]? = some (.int .i64 L[j].2.2)
  | x :: t, 0, h => ⟨rfl, rfl, rfl⟩
  | x :: t, j + 1, h => by
    obtain ⟨h1, h2, h3⟩ := cellsT_at t j (by simpa using h)
    have e : cellsT (x :: t) = .int .i64 x.1 :: .int .i64 x.2.1 :: .int .i64 x.2.2 :: cellsT t := rfl
    rw [e, show (j + 1) * 3 = j * 3 + 1 + 1 + 1 by omega, show j * 3 + 1 + 1 + 1 + 1 = (j * 3 + 1) + 1 + 1 + 1 by omega, show j * 3 + 1 + 1 + 1 + 2 = (j * 3 + 2) + 1 + 1 + 1 by omega]
    simp only [List.getElem?_cons_succ, List.getElem_cons_succ]
    exact ⟨h1, h2, h3⟩
def OpsP (w : World) (A : Option Addr) (L : List Tr) : Prop :=
  L = [] ∨ ∃ b off, A = some ⟨b, off, none⟩ ∧ ∀ j (h : j < L.length), w.cell? ⟨b, off + j * 3, none⟩ = some (.int .i64 L[j].1) ∧ w.cell? ⟨b, off + j * 3 + 1, none⟩ = some (.int .i64 L[j].2.1) ∧ w.cell? ⟨b, off + j * 3 + 2, none⟩ = some (.int .i64 L[j].2.2)
theorem OpsP.at_ {w : World} {A : Option Addr} {L : List Tr} (h : OpsP w A L) {k : Nat} (hk : k < L.length) : ∃ b off, A = some ⟨b, off, none⟩ ∧ b < w.heap.size ∧ w.cell? ⟨b, off + k * 3, none⟩ = some (.int .i64 L[k].1) ∧ w.cell? ⟨b, off + k * 3 + 1, none⟩ = some (.int .i64 L[k].2.1) ∧ w.cell? ⟨b, off + k * 3 + 2, none⟩ = some (.int .i64 L[k].2.2) := by
  rcases h with rfl | ⟨b, off, rfl, hc⟩
  · simp at hk
  · exact ⟨b, off, rfl, World.block_lt_of_cell? w _ (hc k hk).1, hc k hk⟩
theorem OpsP.below {w w' : World} {A : Option Addr} {L : List Tr} (h : OpsP w A L) (hb : Below w.heap.size w w') : OpsP w' A L := by
  rcases h with rfl | ⟨b, off, rfl, hc⟩
  · exact .inl rfl
  · refine .inr ⟨b, off, rfl, fun j hj => ?_⟩
    have e : ∀ (p : Addr) (v : Value), w.cell? p = some v → w'.cell? p = some v := fun p v hp => (hb.cell (World.block_lt_of_cell? w _ hp)).trans hp
    obtain ⟨h1, h2, h3⟩ := hc j hj
    exact ⟨e _ _ h1, e _ _ h2, e _ _ h3⟩
theorem ops_of_row {w : World} {base : Nat} {v : Value} {L : List Tr} (h : w.ownsRow base 69 3 v L.length (cellsT L)) : ∃ A cap, v = .slice A L.length cap ∧ OpsP w A L ∧ L.length ≤ cap := by
  rcases h.2 with ⟨rfl, h0⟩ | ⟨g, cap, cur, rfl, _, _, hle, _⟩
  · have : L = [] := List.eq_nil_of_length_eq_zero h0
    subst this
    exact ⟨none, 0, rfl, .inl rfl, Nat.le_refl _⟩
  · refine ⟨_, cap, rfl, .inr ⟨g, 0, rfl, fun j hj => ?_⟩, hle⟩
    obtain ⟨h1, h2, h3⟩ := cellsT_at L j hj
    rw [Nat.zero_add]
    exact ⟨(h.cellAt _ (by omega)).trans h1, (h.cellAt _ (by omega)).trans h2, (h.cellAt _ (by omega)).trans h3⟩
theorem info_opd : (Tryz.prog.info? 69).map (fun i => (i.zero, i.size, i.bytes)) = some (some (.agg #[.int .i64 0, .int .i64 0, .int .i64 0]), 3, 24) := by kernel_rfl
theorem run_append_nothing (w : World) (base : Nat) (t ty e : TypeId) (size : Nat) (ht : Tryz.prog.underlying t = some (.slice e)) (hs : ∀ w, (sizeOf e).run Tryz.prog w = .ok size w)
    (v : Value) (n : Nat) (xs : List Value) (hown : w.ownsRow base e size v n xs) (A : Option Addr) (c : Nat) :
    (Builtin.append_ #[t, t] ty #[v, .slice A 0 c]).run Tryz.prog w = .ok v w := by
  have h0 : ∀ x, (loadCells x 0).run Tryz.prog w = .ok #[] w := fun x => by simpa using run_loadCells_list (P := Tryz.prog) w x [] (by simp)
  rcases hown.2 with ⟨rfl, h⟩ | ⟨g, cap, cur, rfl, hb, hg, hm, hle, _⟩
  · cases A <;> simp [Builtin.append_, run_underlying ht, hs, Builtin.lenOf, Builtin.firstCells, h0]
  · cases A <;> simp [Builtin.append_, run_underlying ht, hs, Builtin.lenOf, Builtin.firstCells, h0, hm, storeCells] <;> omega
theorem run_append_src (w : World) (base : Nat) (t ty e : TypeId) (i : TypeInfo) (z : Value) (size bytes : Nat) (ht : Tryz.prog.underlying t = some (.slice e)) (hi : Tryz.prog.info? e = some i) (hz : i.zero = some z)
    (hsize : i.size = size) (hby : i.bytes = bytes) (hzs : z.cells.size = size) (hsz : 0 < size)
    (v : Value) (n : Nat) (xs : List Value) (hown : w.ownsRow base e size v n xs)
    (A : Option Addr) (m c : Nat) (news : List Value) (hl : news.length = m * size) (hnews : m = 0 ∨ ∃ a, A = some a ∧ ∀ j u, news[j]? = some u → w.cell? (a.add j) = some u) (h1 : ∀ u ∈ news, u.oneCell' = true)
    (h63 : n + m ≤ maxLen) (hbytes : (n + m) * bytes ≤ 140737488355328) (hbase : base ≤ w.heap.size) :
    ∃ v' w', (Builtin.append_ #[t, t] ty #[v, .slice A m c]).run Tryz.prog w = .ok v' w' ∧ w'.ownsRow base e size v' (n + m) (xs ++ news) ∧ w.grownBy w' v.ownBlock := by
  by_cases hm : m = 0
  · subst hm
    have hn0 : news = [] := List.eq_nil_of_length_eq_zero (by omega)
    subst hn0
    refine ⟨v, w, run_append_nothing w base t ty e size ht (fun w => ?_) v n xs hown A c, ?_, World.grownBy.refl _ _⟩
    · simp [sizeOf, typeInfo, hi, hsize]
    · simpa using hown
  · obtain ⟨a, rfl, hn⟩ := hnews.resolve_left hm
    obtain ⟨v', w', h2, h3, h4, _⟩ := run_append_own (P := Tryz.prog) w base t ty e i z size bytes ht hi hz hsize hby hzs hsz v n xs hown a m c news hl hn h1 h63 hbytes hbase
    exact ⟨v', w', h2, h3, h4⟩
theorem wpList_run_append {w w1 : World} {t ty : TypeId} {v y v' : Value} (h1 : (Builtin.append_ #[t, t] ty #[v, y]).run Tryz.prog w = .ok v' w1) {ops : Array Oper} {rest : List Oper} {o : Oper} {a : Act} {Q : Exit → Act → World → Prop} (hgd : o.guard = none) (s x : Operand)
    (ho : o.op = .call { callee := .builtin .append, args := #[s, x], argTypes := #[t, t] }) (hty : o.type = ty) (hs : a.eval s = v) (hx : a.eval x = y) (hk : wpList Tryz.prog ops Q rest (a.put o.dst v') w1) : wpList Tryz.prog ops Q (o :: rest) a w := by
  subst hty
  refine wpList_plain hgd fun K hK => ?_
  unfold Oper.wp
  simp [execOp, ho, resolve, invoke, builtin, hs, hx, h1, Result.andThen]
  exact hK _ _ hk
theorem cellsT_one : ∀ (L : List Tr), ∀ u ∈ cellsT L, u.oneCell' = true
  | [], u, h => by cases h
  | x :: t, u, h => by
    have e : cellsT (x :: t) = .int .i64 x.1 :: .int .i64 x.2.1 :: .int .i64 x.2.2 :: cellsT t := rfl
    rw [e] at h
    rcases List.mem_cons.1 h with rfl | h
    · rfl
    · rcases List.mem_cons.1 h with rfl | h
      · rfl
      · rcases List.mem_cons.1 h with rfl | h
        · rfl
        · exact cellsT_one t u h
theorem cellsT_take3 (L : List Tr) (j : Nat) (u : Value) (hu : (cellsT L)[j]? = some u) : ∃ (k : Nat) (h : k < L.length), (j = k * 3 ∧ u = .int .i64 L[k].1) ∨ (j = k * 3 + 1 ∧ u = .int .i64 L[k].2.1) ∨ (j = k * 3 + 2 ∧ u = .int .i64 L[k].2.2) := by
  have hj : j < L.length * 3 := by
    rw [← cellsT_length]
    exact (List.getElem?_eq_some_iff.1 hu).1
  have hk : j / 3 < L.length := by omega
  obtain ⟨h1, h2, h3⟩ := cellsT_at L (j / 3) hk
  refine ⟨j / 3, hk, ?_⟩
  have : j % 3 = 0 ∨ j % 3 = 1 ∨ j % 3 = 2 := by omega
  rcases this with h | h | h
  · have e : j = j / 3 * 3 := by omega
    rw [← e, hu] at h1
    exact .inl ⟨e, by simpa using h1⟩
  · have e : j = j / 3 * 3 + 1 := by omega
    rw [← e, hu] at h2
    exact .inr (.inl ⟨e, by simpa using h2⟩)
  · have e : j = j / 3 * 3 + 2 := by omega
    rw [← e, hu] at h3
    exact .inr (.inr ⟨e, by simpa using h3⟩)
theorem OpsP.news {w : World} {A : Option Addr} {L : List Tr} (h : OpsP w A L) : L.length = 0 ∨ ∃ a, A = some a ∧ ∀ j u, (cellsT L)[j]? = some u → w.cell? (a.add j) = some u := by
  rcases h with rfl | ⟨b, off, rfl, hc⟩
  · exact .inl rfl
  · refine .inr ⟨_, rfl, fun j u hu => ?_⟩
    have hadd : (⟨b, off, none⟩ : Addr).add j = ⟨b, off + j, none⟩ := by unfold Addr.add; split <;> simp_all
    rw [hadd]
    obtain ⟨k, hk, e⟩ := cellsT_take3 L j u hu
    obtain ⟨h1, h2, h3⟩ := hc k hk
    rcases e with ⟨rfl, rfl⟩ | ⟨rfl, rfl⟩ | ⟨rfl, rfl⟩
    · exact h1
    · exact h2
    · exact h3
def OwnT (w : World) (n : Nat) (v : Value) (L : List Tr) : Prop := w.ownsRow n 69 3 v L.length (cellsT L)
theorem OwnT.ops {w : World} {n : Nat} {v : Value} {L : List Tr} (h : OwnT w n v L) : ∃ A cap, v = .slice A L.length cap ∧ OpsP w A L ∧ L.length ≤ cap := ops_of_row h
theorem OwnT.below {w w' : World} {n : Nat} {v : Value} {L : List Tr} (h : OwnT w n v L) (k : Below w.heap.size w w') : OwnT w' n v L :=
  World.ownsRow.kept h (row := none) ⟨k.os, k.tape, k.output, k.size, fun i hi _ => k.block i hi⟩ (by
    cases e : v.ownBlock with
    | none => exact .inl rfl
    | some g => exact .inr (by simp))
def RetOwn (w : World) (L : List Tr) (e : Ending) (w' : World) : Prop := ∃ v, e = .returned v ∧ OwnT w' w.heap.size v L ∧ Below w.heap.size w w'
def Bx (w : World) (b : Nat) (s : ByteArray) (A : Option Addr) (len cap : Nat) : Prop := w.cell? ⟨b, 0, none⟩ = some (.string s) ∧ w.cell? ⟨b, 1, none⟩ = some (.slice A len cap)
theorem Bx.lt {w : World} {b : Nat} {s : ByteArray} {A : Option Addr} {len cap : Nat} (h : Bx w b s A len cap) : b < w.heap.size := World.block_lt_of_cell? w _ h.1
theorem Bx.below {w w' : World} {b : Nat} {s : ByteArray} {A : Option Addr} {len cap B : Nat} (h : Bx w b s A len cap) (hb : Below B w w') (hB : b < B) : Bx w' b s A len cap :=
  ⟨(hb.cell hB).trans h.1, (hb.cell hB).trans h.2⟩
theorem Bx.all {w w' : World} {b : Nat} {s : ByteArray} {A : Option Addr} {len cap : Nat} (h : Bx w b s A len cap) (hb : Below w.heap.size w w') : Bx w' b s A len cap := h.below hb h.lt
theorem Bx.new (w : World) (s : ByteArray) (A : Option Addr) (len cap : Nat) (t : TypeId) : Bx (w.alloc (.cells #[.string s, .slice A len cap] t)) w.heap.size s A len cap := ⟨by simp [go_sem], by simp [go_sem]⟩
theorem row_mono {w : World} {base base' : Nat} {e : TypeId} {size : Nat} {v : Value} {n : Nat} {xs : List Value} (h : w.ownsRow base e size v n xs) (hb : base' ≤ base) : w.ownsRow base' e size v n xs := by
  refine ⟨h.1, ?_⟩
  rcases h.2 with h2 | ⟨g, cap, cur, h1, h2, h3⟩
  · exact .inl h2
  · exact .inr ⟨g, cap, cur, h1, Nat.le_trans hb h2, h3⟩
theorem row_set {w : World} {base : Nat} {e : TypeId} {size n : Nat} {v : Value} {xs : List Value} (h : w.ownsRow base e size v n xs) {p : Addr} (hp : p.block < base) (u : Value) : (w.setCell p u).ownsRow base e size v n xs :=
  World.ownsRow.kept h (row := some p.block) ⟨rfl, rfl, rfl, by simp, fun k _ hk => heap_setCell_other w p k u (fun e => hk (by rw [e]))⟩ (by
    cases e : v.ownBlock with
    | none => exact .inl rfl
    | some g => exact .inr (fun e' => by have := (h.lt g e).1; cases e'; omega))
theorem OwnT.lift {w : World} {n m : Nat} {v : Value} {L : List Tr} (h : OwnT w n v L) (k : m ≤ n) : OwnT w m v L := row_mono h k
def Rz (w : World) (b : Nat) : Prop := w.heap[b]? = some (.cells #[.string ⟨#[]⟩, .slice none 0 0] 25 (0, 0))
def Ri (w : World) (b : Nat) (s : ByteArray) (v : Value) : Prop := w.heap[b]? = some (.cells #[.string s, v] 25 (0, 0))
theorem Rz.cells {w : World} {b : Nat} (h : Rz w b) : w.cell? ⟨b, 0, none⟩ = some (.string ⟨#[]⟩) ∧ w.cell? ⟨b, 1, none⟩ = some (.slice none 0 0) ∧ w.frozen? ⟨b, 0, none⟩ = false ∧ w.frozen? ⟨b, 1, none⟩ = false :=
  ⟨by rw [Lib.cell_of_heap h]; rfl, by rw [Lib.cell_of_heap h]; rfl, Lib.frozen_of_heap h 0, Lib.frozen_of_heap h 1⟩
theorem Ri.cells {w : World} {b : Nat} {s : ByteArray} {v : Value} (h : Ri w b s v) : w.cell? ⟨b, 0, none⟩ = some (.string s) ∧ w.cell? ⟨b, 1, none⟩ = some v :=
  ⟨by rw [Lib.cell_of_heap h]; rfl, by rw [Lib.cell_of_heap h]; rfl⟩
theorem Rz.set {w : World} {b : Nat} (h : Rz w b) (s : ByteArray) (v : Value) : ((w.setCell ⟨b, 0, none⟩ (.string s)).setCell ⟨b, 1, none⟩ v).cell? ⟨b, 0, none⟩ = some (.string s) ∧ ((w.setCell ⟨b, 0, none⟩ (.string s)).setCell ⟨b, 1, none⟩ v).cell? ⟨b, 1, none⟩ = some v := by
  obtain ⟨h0, h1, -, -⟩ := h.cells
  exact ⟨by simp [go_sem, h0], by simp [go_sem, h1]⟩
theorem Rz.done {w : World} {b : Nat} (h : Rz w b) (s : ByteArray) (v : Value) : Ri ((w.setCell ⟨b, 0, none⟩ (.string s)).setCell ⟨b, 1, none⟩ v) b s v := by
  have h1 := heap_setCell_same w b 0 _ _ (.string s) h
  have h2 := heap_setCell_same (w.setCell ⟨b, 0, none⟩ (.string s)) b 1 _ _ v h1
  exact h2
theorem OwnT.form {w : World} {b : Nat} {v : Value} {L : List Tr} (h : OwnT w b v L) (h0 : 0 < L.length) : ∃ g cap, v = .slice (some ⟨g, 0, none⟩) L.length cap ∧ b ≤ g ∧ (∃ cur, w.heap[g]? = some (.cells cur 69 (0, 0))) ∧
    (∀ j (hj : j < L.length), w.cell? ⟨g, j * 3, none⟩ = some (.int .i64 L[j].1) ∧ w.cell? ⟨g, j * 3 + 1, none⟩ = some (.int .i64 L[j].2.1) ∧ w.cell? ⟨g, j * 3 + 2, none⟩ = some (.int .i64 L[j].2.2)) ∧ ∀ j, w.frozen? ⟨g, j, none⟩ = false := by
  rcases h.2 with ⟨_, h1⟩ | ⟨g, cap, cur, rfl, hb, hg, _⟩
  · omega
  · refine ⟨g, cap, rfl, hb, ⟨cur, hg⟩, fun j hj => ?_, fun j => World.ownsRow.frozenAt h j⟩
    obtain ⟨h1, h2, h3⟩ := cellsT_at L j hj
    exact ⟨(World.ownsRow.cellAt h _ (by omega)).trans h1, (World.ownsRow.cellAt h _ (by omega)).trans h2, (World.ownsRow.cellAt h _ (by omega)).trans h3⟩
theorem OwnT.put {w : World} {b g cap n : Nat} {L L' : List Tr} (h : OwnT w b (.slice (some ⟨g, 0, none⟩) n cap) L) (hn : L.length = n) (hn' : L'.length = n) (j : Nat) (u : Value) (e : (cellsT L).set j u = cellsT L') : OwnT (w.setCell ⟨g, j, none⟩ u) b (.slice (some ⟨g, 0, none⟩) n cap) L' := by
  unfold OwnT at h ⊢
  rw [hn] at h
  rw [hn', ← e]
  exact (World.ownsRow.stored h j u).1
theorem Ri.apart {w : World} {b g : Nat} {s : ByteArray} {v : Value} {cur : Array Value} (h : Ri w b s v) (hg : w.heap[g]? = some (.cells cur 69 (0, 0))) : g ≠ b := by
  rintro rfl
  rw [show w.heap[g]? = _ from h] at hg
  simp at hg
theorem strB_ne {a b : ByteArray} (h : a ≠ b) : (a.toList == b.toList) = false := beq_eq_false_iff_ne.2 fun e => h (by
  rw [ByteArray.toList_eq, ByteArray.toList_eq] at e
  exact ByteArray.ext (Array.toList_inj.1 e))
theorem strB_eq (a : ByteArray) : (a.toList == a.toList) = true := beq_self_eq_true _
theorem tr_ne {a b : Tr} (h : a ≠ b) : ¬ a.1 = b.1 ∨ (a.1 = b.1 ∧ ¬ a.2.1 = b.2.1) ∨ (a.1 = b.1 ∧ a.2.1 = b.2.1 ∧ ¬ a.2.2 = b.2.2) := by
  obtain ⟨a1, a2, a3⟩ := a
  obtain ⟨b1, b2, b3⟩ := b
  by_cases h1 : a1 = b1
  · by_cases h2 : a2 = b2
    · refine .inr (.inr ⟨h1, h2, fun h3 => h (by simp only at h3; rw [h1, h2, h3])⟩)
    · exact .inr (.inl ⟨h1, h2⟩)
  · exact .inl h1
end Go.Proofs.YtipgecdfnbldnaaGreatDoor
/-
  Steps of a mixed region behind guards. No program of its own.
-/
namespace Go.Mixed
open Go
theorem execOp_bare (ρ : Operand → Value) (o : Oper) : execOp ρ { o with guard := none } = execOp ρ o := by unfold execOp; rfl
theorem wpMix_loudG {P : Program} {ops : Array Oper} {C : World → Prop} {T : Act → World → Prop} {k : Nat} {r : List (Nat × Bool)} {a : Act} {w : World} {o : Oper} (ho : ops[k]? = some o) (hw : Region.wanted o (yielded ops a.tmps) = true)
    (h : wpList P ops (QK fun a' w' => C w' ∧ wpMix P ops C T r a' w') [{ o with guard := none }] a w) : wpMix P ops C T ((k, false) :: r) a w := by
  simp only [wpMix]
  unfold wpOp
  simp only [ho, hw, if_true]
  simp only [wpList] at h
  rw [if_pos (by simp [Region.wanted])] at h
  rcases h with h | h
  · refine .inl ?_
    unfold Oper.wp at h ⊢
    rw [execOp_bare] at h
    have h2 := upon_QK h
    generalize (execOp a.eval o).run P w = rs at h2 ⊢
    cases rs with
    | ok x w' => cases x <;> exact h2
    | halt x w' => cases x <;> exact h2
  · exact absurd h.2 (not_letsOut_QK _)
theorem wpMix_skip {P : Program} {ops : Array Oper} {C : World → Prop} {T : Act → World → Prop} {k : Nat} {r : List (Nat × Bool)} {a : Act} {w : World} {o : Oper} (ho : ops[k]? = some o) (hw : Region.wanted o (yielded ops a.tmps) = false)
    (h : wpMix P ops C T r (a.put o.dst undef) w) : wpMix P ops C T ((k, true) :: r) a w := by
  simp only [wpMix, ho]
  exact ⟨undef, .inr ⟨hw, rfl⟩, h⟩
theorem wpMix_skipL {P : Program} {ops : Array Oper} {C : World → Prop} {T : Act → World → Prop} {k : Nat} {r : List (Nat × Bool)} {a : Act} {w : World} {o : Oper} (ho : ops[k]? = some o) (hw : Region.wanted o (yielded ops a.tmps) = false)
    (hC : C w) (h : wpMix P ops C T r (a.put o.dst undef) w) : wpMix P ops C T ((k, false) :: r) a w := by
  simp only [wpMix]
  unfold wpOp
  simp only [ho, hw, Bool.false_eq_true, if_false]
  exact ⟨hC, h⟩
end Go.Mixed
/-
  As Mixed, where two operations that change the world may come in either order: the walk goes both ways.
  No program of its own: laws over any program.
-/
namespace Go.Mixed
open Go
inductive Ord where
  | done : Ord
  | pure : Nat → Ord → Ord
  | one : Nat → Ord → Ord
  | two : Nat → Ord → Nat → Ord → Ord
section
variable {P : Program} {ops : Array Oper} {md : Region.Mode}
def Ord.len : Ord → Nat
  | .done => 0
  | .pure _ t => t.len + 1
  | .one _ t => t.len + 1
  | .two _ t _ _ => t.len + 1
def ordT (md : Region.Mode) (ops : Array Oper) (n g : Nat) : Ord → Array Bool → Bool
  | .done, listed => Region.seqB md ops g n listed
  | .pure k r, listed => (Region.ready md ops listed).contains k && decide (k < n) && Region.free md ops listed k && ordT md ops n g r (listed.setIfInBounds k true)
  | .one k r, listed => decide (Region.ready md ops listed = [k]) && decide (k < n) && ordT md ops n g r (listed.setIfInBounds k true)
  | .two k r k2 r2, listed => decide (Region.ready md ops listed = [k, k2]) && decide (k < n) && decide (k2 < n) && decide (r2.len = r.len) && ordT md ops n g r (listed.setIfInBounds k true) && ordT md ops n g r2 (listed.setIfInBounds k2 true)
def mixedT (md : Region.Mode) (ops : Array Oper) (n : Nat) (ord : Ord) : Bool :=
  Region.noSelect ops && decide (n < ops.size) && decide (ord.len + (ops.size - n) = ops.size) && Region.sinkB md ops n && Region.chainB md ops n && ordT md ops n (ops.size - n) ord (Array.replicate ops.size false)
def wpMixT (P : Program) (ops : Array Oper) (C : World → Prop) (T : Act → World → Prop) : Ord → Act → World → Prop
  | .done, a, w => T a w
  | .pure k r, a, w => match ops[k]? with
    | none => False
    | some o => ∃ v, Pure P ops C o v a ∧ wpMixT P ops C T r (a.put o.dst v) w
  | .one k r, a, w => wpOp P ops QF k (fun a' w' => C w' ∧ wpMixT P ops C T r a' w') a w
  | .two k r k2 r2, a, w => wpOp P ops QF k (fun a' w' => C w' ∧ wpMixT P ops C T r a' w') a w ∧ wpOp P ops QF k2 (fun a' w' => C w' ∧ wpMixT P ops C T r2 a' w') a w
theorem wpAnyC_ordT {C : World → Prop} {n g : Nat} {T : Act → World → Prop} (hsel : Region.noSelect ops = true) (hs : Region.sinkB md ops n = true) (hc : Region.chainB md ops n = true) (hn : n < ops.size) :
    ∀ (ord : Ord) (listed : Array Bool) (a : Act) (w : World), HeadInv md ops n listed → ordT md ops n g ord listed = true → C w → wpMixT P ops C T ord a w →
    wpAnyC P md ops n C (fun listed' a' w' => Region.seqB md ops g n listed' = true ∧ T a' w') ord.len listed a w
  | .done, listed, a, w, _, hB, hC, h => ⟨hC, hB, h⟩
  | .pure k r, listed, a, w, inv, hB, hC, h => by
    simp only [ordT, Bool.and_eq_true, decide_eq_true_eq] at hB
    obtain ⟨⟨⟨hr, hk⟩, hf⟩, hB'⟩ := hB
    have hr' : k ∈ Region.ready md ops listed := by simpa using hr
    simp only [wpMixT] at h
    cases ho : ops[k]? with
    | none => rw [ho] at h; exact h.elim
    | some o =>
      rw [ho] at h
      obtain ⟨v, hv, hK⟩ := h
      exact wpAnyC_first ho (Region.noSelect_spec hsel) hs hc hn hk (fun listed' a' w' hL => seqB_ready hL.1) r.len listed a w inv (Region.free_spec ho hf) hr' hv hC
        (wpAnyC_ordT hsel hs hc hn r _ _ w (inv.set hr' hk) hB' hC hK)
  | .one k r, listed, a, w, inv, hB, hC, h => by
    simp only [ordT, Bool.and_eq_true, decide_eq_true_eq] at hB
    obtain ⟨⟨hr, hk⟩, hB'⟩ := hB
    simp only [wpMixT] at h
    have hne : Region.ready md ops listed ≠ [] := by rw [hr]; exact List.cons_ne_nil _ _
    refine ⟨hC, hne, fun i hi => ?_⟩
    rw [hr] at hi
    have hik : i = k := by simpa using hi
    subst hik
    refine ⟨hk, wpOp_QF (fun a' w' h' => ?_) h⟩
    exact wpAnyC_ordT hsel hs hc hn r _ a' w' (inv.set (by rw [hr]; exact List.mem_singleton.2 rfl) hk) hB' h'.1 h'.2
  | .two k r k2 r2, listed, a, w, inv, hB, hC, h => by
    simp only [ordT, Bool.and_eq_true, decide_eq_true_eq] at hB
    obtain ⟨⟨⟨⟨⟨hr, hk⟩, hk2⟩, hlen⟩, hB1⟩, hB2⟩ := hB
    simp only [wpMixT] at h
    have hne : Region.ready md ops listed ≠ [] := by rw [hr]; exact List.cons_ne_nil _ _
    refine ⟨hC, hne, fun i hi => ?_⟩
    have hi0 := hi
    rw [hr] at hi
    have hik : i = k ∨ i = k2 := by simpa using hi
    rcases hik with rfl | rfl
    · refine ⟨hk, wpOp_QF (fun a' w' h' => ?_) h.1⟩
      exact wpAnyC_ordT hsel hs hc hn r _ a' w' (inv.set hi0 hk) hB1 h'.1 h'.2
    · refine ⟨hk2, wpOp_QF (fun a' w' h' => ?_) h.2⟩
      have := wpAnyC_ordT hsel hs hc hn r2 _ a' w' (inv.set hi0 hk2) hB2 h'.1 h'.2
      rwa [hlen] at this
theorem wp_region_mixedT {id : Nat} {Q : Exit → Act → World → Prop} {a : Act} {w : World} {l : List Oper} (C : World → Prop) (n : Nat) (ord : Ord) (hm : P.follows .mixedOrders = true) (hB : mixedT .any l.toArray n ord = true)
    (hC : C w.drew) (h : wpMixT P l.toArray C (fun a' w' => wpList P l.toArray Q (l.drop n) a' w') ord a w.drew) : (Code.region id l.toArray true).wp P Q a w := by
  simp only [mixedT, Bool.and_eq_true, decide_eq_true_eq] at hB
  obtain ⟨⟨⟨⟨⟨hsel, hn⟩, hlen⟩, hs⟩, hc⟩, hord⟩ := hB
  have hdl : (l.drop n).length = l.toArray.size - n := by simp
  have inv0 : HeadInv .any l.toArray n (Array.replicate l.toArray.size false) :=
    ⟨by simp, fun j oj _ hl => (by rw [getD_replicate_false] at hl; cases hl), fun t _ ht => getD_in (by simpa using ht) (getD_replicate_false _ _)⟩
  have H := wpAnyC_ordT hsel hs hc hn ord _ a w.drew inv0 hord hC h
  refine wp_region_any hm ?_
  have := wpAny_of_headC (Q' := Q) (g := l.toArray.size - n) (fun listed a' w' hL => by
    have := wpAny_of_seq (md := .any) (Q' := Q) (l.drop n) n listed a' w' (fun j => by simp [List.getElem?_drop]) (by rw [hdl]; exact hL.1) hL.2
    rwa [hdl] at this) _ _ _ _ H
  rw [hlen] at this
  exact this
theorem wpMixT_pure {C : World → Prop} {T : Act → World → Prop} {k : Nat} {r : Ord} {a : Act} {w : World} {o : Oper} (ho : ops[k]? = some o) (hw : Region.wanted o (yielded ops a.tmps) = true) (v : Value)
    (hv : ∀ w, C w → (execOp a.eval o).run P w = .ok (.value v) w) (h : wpMixT P ops C T r (a.put o.dst v) w) : wpMixT P ops C T (.pure k r) a w := by
  simp only [wpMixT, ho]
  exact ⟨v, .inl ⟨hw, hv⟩, h⟩
theorem wpOp_loudT {K : Act → World → Prop} {k : Nat} {a : Act} {w : World} {o : Oper} (ho : ops[k]? = some o) (hw : Region.wanted o (yielded ops a.tmps) = true) (h : wpList P ops (QK K) [{ o with guard := none }] a w) : wpOp P ops QF k K a w := by
  unfold wpOp
  simp only [ho, hw, if_true]
  have hw2 : Region.wanted { o with guard := none } (yielded ops a.tmps) = true := rfl
  simp only [wpList, hw2, if_true] at h
  rcases h with h | h
  · exact .inl (upon_QK h)
  · exact absurd h.2 (not_letsOut_QK _)
theorem wpMixT_loud {C : World → Prop} {T : Act → World → Prop} {k : Nat} {r : Ord} {a : Act} {w : World} {o : Oper} (ho : ops[k]? = some o) (hw : Region.wanted o (yielded ops a.tmps) = true) (h : wpList P ops (QK fun a' w' => C w' ∧ wpMixT P ops C T r a' w') [{ o with guard := none }] a w) :
    wpMixT P ops C T (.one k r) a w := by
  simp only [wpMixT]
  exact wpOp_loudT ho hw h
theorem wpMixT_both {C : World → Prop} {T : Act → World → Prop} {k k2 : Nat} {r r2 : Ord} {a : Act} {w : World} {o o2 : Oper} (ho : ops[k]? = some o) (hw : Region.wanted o (yielded ops a.tmps) = true) (ho2 : ops[k2]? = some o2) (hw2 : Region.wanted o2 (yielded ops a.tmps) = true)
    (h : wpList P ops (QK fun a' w' => C w' ∧ wpMixT P ops C T r a' w') [{ o with guard := none }] a w) (h2 : wpList P ops (QK fun a' w' => C w' ∧ wpMixT P ops C T r2 a' w') [{ o2 with guard := none }] a w) :
    wpMixT P ops C T (.two k r k2 r2) a w := by
  simp only [wpMixT]
  exact ⟨wpOp_loudT ho hw h, wpOp_loudT ho2 hw2 h2⟩
end
end Go.Mixed
