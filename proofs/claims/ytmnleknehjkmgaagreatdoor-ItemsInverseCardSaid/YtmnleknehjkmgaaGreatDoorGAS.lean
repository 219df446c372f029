/-
  MixE, DgG, DgH, DgI, SeG, DfE, DgJ.
-/
import Derived.Test.YtmnleknehjkmgaaGreatDoorGAR
import Derived.Defers
import Derived.Recover
import Derived.Test.YtmnleknehjkmgaaGreatDoorGAE
import Derived.Test.YtmnleknehjkmgaaGreatDoorGAP
import Derived.Deep.QuietTactic
import Derived.BigQuiet
set_option linter.all false
set_option maxRecDepth 100000
set_option maxHeartbeats 4000000
namespace Go.MixE
open Go Go.Mixed
def QE (E:List PanicEntry→List Deferred→World→Prop):Exit→Act→World→Prop
 | .panic ch,a,w=>E ch a.defers w
 | _,_,_=>False
theorem not_letsOut (E:List PanicEntry→List Deferred→World→Prop):¬LetsOut (QE E):=fun ⟨_,_,h⟩=>h
section
variable {P:Program} {ops:Array Oper} {md:Region.Mode} {E:List PanicEntry→List Deferred→World→Prop}
theorem upon_QE {o:Oper} {a:Act} {K K':Act→World→Prop} {Q:Exit→Act→World→Prop} {r:Result Next} (hE:∀ ch a w,E ch a.defers w→Q (.panic ch) a w) (hK:∀ a w,K a w→K' a w) (h:o.upon P a K (QE E) r):o.upon P a K' Q r:=by
 cases r with
 | ok n w'=>
  cases n <;> simp only [Oper.upon] at h ⊢
  case value v=>exact hK _ _ h
  case skip=>exact hK _ _ h
  case defer d=>exact hK _ _ h
  case enter f args=>
   refine h.mono fun e w'' he=>?_
   cases e with
   | returned v=>exact hK _ _ he
   | panicked c=>exact hE _ _ _ he
   | outgrown=>exact absurd he (not_letsOut E)
  case row row args=>exact h.mono fun v w'' hv=>hK _ _ hv
 | halt x w'=>
  cases x <;> simp only [Oper.upon] at h ⊢
  case panic v=>exact hE _ _ _ h
theorem wpOp_QE {i:Nat} {a:Act} {w:World} {K K':Act→World→Prop} {Q:Exit→Act→World→Prop} (hE:∀ ch a w,E ch a.defers w→Q (.panic ch) a w) (hK:∀ a w,K a w→K' a w) (h:wpOp P ops (QE E) i K a w):wpOp P ops Q i K' a w:=by
 unfold wpOp at *
 split
 ·rename_i ho;simp only [ho] at h;exact hK _ _ h
 ·rename_i o ho
  simp only [ho] at h
  split
  ·rename_i hw
   simp only [hw,if_true] at h
   rcases h with h | h
   ·exact .inl (upon_QE hE hK h)
   ·exact absurd h.2 (not_letsOut E)
  ·rename_i hw;simp only [hw] at h;exact hK _ _ h
theorem wpOp_QE' {i:Nat} {a:Act} {w:World} {K K':Act→World→Prop} (hK:∀ a w,K a w→K' a w) (h:wpOp P ops (QE E) i K a w):wpOp P ops (QE E) i K' a w:=wpOp_QE (fun _ _ _ h=>h) hK h
def wpAnyC (P:Program) (md:Region.Mode) (ops:Array Oper) (n:Nat) (C:World→Prop) (E:List PanicEntry→List Deferred→World→Prop) (L:Array Bool→Act→World→Prop):Nat→Array Bool→Act→World→Prop
 | 0,listed,a,w=>C w∧L listed a w
 | f+1,listed,a,w=>C w∧Region.ready md ops listed≠[]∧∀ i∈Region.ready md ops listed,i<n∧wpOp P ops (QE E) i (wpAnyC P md ops n C E L f (listed.setIfInBounds i true)) a w
theorem wpAnyC_C {n:Nat} {C:World→Prop} {L:Array Bool→Act→World→Prop} {f:Nat} {listed:Array Bool} {a:Act} {w:World} (h:wpAnyC P md ops n C E L f listed a w):C w:=by
 cases f <;> exact h.1
theorem wpAny_of_headC {n g:Nat} {C:World→Prop} {L:Array Bool→Act→World→Prop} {Q':Exit→Act→World→Prop} (hE:∀ ch a w,E ch a.defers w→Q' (.panic ch) a w) (hL:∀ listed a w,L listed a w→wpAny P md ops Q' g listed a w) :
  ∀ (f:Nat) (listed:Array Bool) (a:Act) (w:World),wpAnyC P md ops n C E L f listed a w→wpAny P md ops Q' (f+g) listed a w
 | 0,listed,a,w,h=>by rw [Nat.zero_add];exact hL _ _ _ h.2
 | f+1,listed,a,w,h=>by
  rw [show f+1+g=(f+g)+1 by omega]
  exact ⟨fun h0=>absurd h0 h.2.1,fun i hi=>wpOp_QE hE (fun a' w' h'=>wpAny_of_headC hE hL f _ a' w' h') (h.2.2 i hi).2⟩
theorem wpOp_put {C:World→Prop} {j:Nat} {oi oj:Oper} {v:Value} (hj:ops[j]?=some oj) (hap:oi.apart ops oj=true)
  (hsi:∀ cs b,oi.op≠.select cs b) (hsj:∀ cs b,oj.op≠.select cs b) {K:Act→World→Prop} {a:Act} {w:World}
  (hy:Pure P ops C oi v a) (h:wpOp P ops (QE E) j K (a.put oi.dst v) w) :
  wpOp P ops (QE E) j (fun a' w'=>Pure P ops C oi v a'∧K (a'.put oi.dst v) w') a w:=by
 obtain ⟨h1,h2,h3⟩:=Oper.apart_spec hap
 have keep:∀ (a:Act),Pure P ops C oi v a→∀ u,Pure P ops C oi v (a.put oj.dst u):=fun a hy u=>
  hy.of_same (execOp_put oi hsi a oj.dst u h3) (wanted_put oi a oj.dst u h3)
 unfold wpOp at *
 simp only [hj] at *
 rw [wanted_put oj a oi.dst v h1] at h
 split
 ·rename_i hw
  simp only [hw,if_true] at h
  rcases h with h | h
  ·left
   unfold Oper.wp at *
   rw [execOp_put oj hsj a oi.dst v h1] at h
   generalize (execOp a.eval oj).run P w=r at *
   cases r with
   | ok n w'=>
    cases n <;> simp only [Oper.upon] at h ⊢
    case value u=>exact ⟨keep a hy u,by rw [← Act.put_comm a v u h2];exact h⟩
    case skip=>exact ⟨keep a hy _,by rw [← Act.put_comm a v undef h2];exact h⟩
    case defer d=>
     refine ⟨?_,?_⟩
     ·have hy':Pure P ops C oi v {a with defers:=d :: a.defers}:=hy
      exact keep _ hy' _
     ·rw [← Act.put_comm _ v undef h2]
      have e:({a with defers:=d :: a.defers}.put oi.dst v)={(a.put oi.dst v) with defers:=d :: (a.put oi.dst v).defers}:=by rw [defers_put];exact put_defers a _ _ _
      rw [e]
      exact h
    case enter f args=>
     refine h.mono fun e w'' he=>?_
     cases e with
     | returned u=>exact ⟨keep a hy u,by rw [← Act.put_comm a v u h2];exact he⟩
     | panicked c=>exact (show E c a.defers w'' by rw [← defers_put a oi.dst v];exact he)
     | outgrown=>exact he
    case row row args=>exact h.mono fun u w'' hv=>⟨keep a hy u,by rw [← Act.put_comm a v u h2];exact hv⟩
   | halt x w'=>
    cases x <;> simp only [Oper.upon] at h ⊢
    case panic u=>exact (show E [{v:=u,recovered:=false}] a.defers w' by rw [← defers_put a oi.dst v];exact h)
  ·exact absurd h.2 (not_letsOut E)
 ·rename_i hw
  simp only [hw] at h
  exact ⟨keep a hy _,by rw [← Act.put_comm a v undef h2];exact h⟩
theorem wpAnyC_first {C:World→Prop} {n i:Nat} {oi:Oper} {v:Value} {L:Array Bool→Act→World→Prop} (hi:ops[i]?=some oi) (hsel:∀ (j:Nat) (o:Oper) cs b,ops[j]?=some o→o.op≠.select cs b)
  (hs:Region.sinkB md ops n=true) (hc:Region.chainB md ops n=true) (hn:n<ops.size) (hin:i<n)
  (hdone:∀ listed a w,L listed a w→∀ j∈Region.ready md ops listed,n≤j) :
  ∀ (f:Nat) (listed:Array Bool) (a:Act) (w:World),HeadInv md ops n listed→
   (∀ j oj,ops[j]?=some oj→j≠i→listed.getD j true=false→(∀ e∈oj.after,Region.binds md e=true→e.on≠i)→oi.apart ops oj=true)→
   i∈Region.ready md ops listed→Pure P ops C oi v a→C w→
   wpAnyC P md ops n C E L f (listed.setIfInBounds i true) (a.put oi.dst v) w→wpAnyC P md ops n C E L (f+1) listed a w:=by
 intro f
 induction f with
 | zero=>
  intro listed a w inv _ hr hy hCw H
  have hun:=(mem_ready.1 hr).1
  refine ⟨hCw,fun h=>(by rw [h] at hr;cases hr),fun j hj=>?_⟩
  have hjn:j<n:=by
   rcases Nat.lt_or_ge j n with h | h
   ·exact h
   ·exact absurd hj (tail_waits hs hc hn inv _ i rfl hin hun j h)
  refine ⟨hjn,?_⟩
  by_cases hji:j=i
  ·subst hji;exact hy.wpOp hi hCw H
  ·have:=hdone _ _ _ H.2 j (ready_mono hj hji)
   omega
 | succ f ih=>
  intro listed a w inv hfree hr hy hCw H
  have hun:=(mem_ready.1 hr).1
  refine ⟨hCw,fun h=>(by rw [h] at hr;cases hr),fun j hj=>?_⟩
  have hjn:j<n:=by
   rcases Nat.lt_or_ge j n with h | h
   ·exact h
   ·exact absurd hj (tail_waits hs hc hn inv _ i rfl hin hun j h)
  refine ⟨hjn,?_⟩
  by_cases hji:j=i
  ·subst hji;exact hy.wpOp hi hCw H
  ·have h1:=(H.2.2 j (ready_mono hj hji)).2
   obtain ⟨hjun,oj,hoj,hall⟩:=mem_ready.1 hj
   have hnot:∀ e∈oj.after,Region.binds md e=true→e.on≠i:=fun e he hb heq=>by
    have h1:=hall e he hb
    rw [heq,getD_both hun] at h1
    cases h1
   have h2:=wpOp_put hoj (hfree j oj hoj hji hjun hnot) (fun cs b=>hsel i oi cs b hi) (fun cs b=>hsel j oj cs b hoj) hy h1
   have hfree':∀ k ok,ops[k]?=some ok→k≠i→(listed.setIfInBounds j true).getD k true=false→
     (∀ e∈ok.after,Region.binds md e=true→e.on≠i)→oi.apart ops ok=true:=fun k ok hk hki hun hno=>by
    refine hfree k ok hk hki ?_ hno
    by_cases hjk:j=k
    ·subst hjk;exact hjun
    ·rw [getD_set_ne true hjk] at hun;exact hun
   refine wpOp_QE' (fun a' w' h3=>?_) h2
   obtain ⟨h3,h4⟩:=h3
   rw [Array.setIfInBounds_comm _ _ (fun e=>hji e.symm)] at h4
   have hi':=ready_mono hr (Ne.symm hji)
   exact ih (listed.setIfInBounds j true) a' w' (inv.set hj hjn) hfree' hi' h3 (wpAnyC_C h4) h4
def wpMixE (P:Program) (ops:Array Oper) (C:World→Prop) (E:List PanicEntry→List Deferred→World→Prop) (T:Act→World→Prop):Ord→Act→World→Prop
 | .done,a,w=>T a w
 | .pure k r,a,w=>match ops[k]? with
  | none=>False
  | some o=>∃ v,Pure P ops C o v a∧wpMixE P ops C E T r (a.put o.dst v) w
 | .one k r,a,w=>wpOp P ops (QE E) k (fun a' w'=>C w'∧wpMixE P ops C E T r a' w') a w
 | .two k r k2 r2,a,w=>wpOp P ops (QE E) k (fun a' w'=>C w'∧wpMixE P ops C E T r a' w') a w∧wpOp P ops (QE E) k2 (fun a' w'=>C w'∧wpMixE P ops C E T r2 a' w') a w
theorem wpAnyC_ordE {C:World→Prop} {n g:Nat} {T:Act→World→Prop} (hsel:Region.noSelect ops=true) (hs:Region.sinkB md ops n=true) (hc:Region.chainB md ops n=true) (hn:n<ops.size) :
  ∀ (ord:Ord) (listed:Array Bool) (a:Act) (w:World),HeadInv md ops n listed→ordT md ops n g ord listed=true→C w→wpMixE P ops C E T ord a w→
  wpAnyC P md ops n C E (fun listed' a' w'=>Region.seqB md ops g n listed'=true∧T a' w') ord.len listed a w
 | .done,listed,a,w,_,hB,hC,h=>⟨hC,hB,h⟩
 | .pure k r,listed,a,w,inv,hB,hC,h=>by
  simp only [ordT,Bool.and_eq_true,decide_eq_true_eq] at hB
  obtain ⟨⟨⟨hr,hk⟩,hf⟩,hB'⟩:=hB
  have hr':k∈Region.ready md ops listed:=by simpa using hr
  simp only [wpMixE] at h
  cases ho:ops[k]? with
  | none=>rw [ho] at h;exact h.elim
  | some o=>
   rw [ho] at h
   obtain ⟨v,hv,hK⟩:=h
   exact wpAnyC_first ho (Region.noSelect_spec hsel) hs hc hn hk (fun listed' a' w' hL=>seqB_ready hL.1) r.len listed a w inv (Region.free_spec ho hf) hr' hv hC
    (wpAnyC_ordE hsel hs hc hn r _ _ w (inv.set hr' hk) hB' hC hK)
 | .one k r,listed,a,w,inv,hB,hC,h=>by
  simp only [ordT,Bool.and_eq_true,decide_eq_true_eq] at hB
  obtain ⟨⟨hr,hk⟩,hB'⟩:=hB
  simp only [wpMixE] at h
  have hne:Region.ready md ops listed≠[]:=by rw [hr];exact List.cons_ne_nil _ _
  refine ⟨hC,hne,fun i hi=>?_⟩
  rw [hr] at hi
  have hik:i=k:=by simpa using hi
  subst hik
  refine ⟨hk,wpOp_QE' (fun a' w' h'=>?_) h⟩
  exact wpAnyC_ordE hsel hs hc hn r _ a' w' (inv.set (by rw [hr];exact List.mem_singleton.2 rfl) hk) hB' h'.1 h'.2
 | .two k r k2 r2,listed,a,w,inv,hB,hC,h=>by
  simp only [ordT,Bool.and_eq_true,decide_eq_true_eq] at hB
  obtain ⟨⟨⟨⟨⟨hr,hk⟩,hk2⟩,hlen⟩,hB1⟩,hB2⟩:=hB
  simp only [wpMixE] at h
  have hne:Region.ready md ops listed≠[]:=by rw [hr];exact List.cons_ne_nil _ _
  refine ⟨hC,hne,fun i hi=>?_⟩
  have hi0:=hi
  rw [hr] at hi
  have hik:i=k∨i=k2:=by simpa using hi
  rcases hik with rfl | rfl
  ·refine ⟨hk,wpOp_QE' (fun a' w' h'=>?_) h.1⟩
   exact wpAnyC_ordE hsel hs hc hn r _ a' w' (inv.set hi0 hk) hB1 h'.1 h'.2
  ·refine ⟨hk2,wpOp_QE' (fun a' w' h'=>?_) h.2⟩
   have:=wpAnyC_ordE hsel hs hc hn r2 _ a' w' (inv.set hi0 hk2) hB2 h'.1 h'.2
   rwa [hlen] at this
theorem wp_region_mixedE {id:Nat} {Q:Exit→Act→World→Prop} {a:Act} {w:World} {l:List Oper} (C:World→Prop) (E:List PanicEntry→List Deferred→World→Prop) (n:Nat) (ord:Ord) (hm:P.follows .mixedOrders=true) (hB:mixedT .any l.toArray n ord=true)
  (hC:C w.drew) (hE:∀ ch a w,E ch a.defers w→Q (.panic ch) a w) (h:wpMixE P l.toArray C E (fun a' w'=>wpList P l.toArray Q (l.drop n) a' w') ord a w.drew):(Code.region id l.toArray true).wp P Q a w:=by
 simp only [mixedT,Bool.and_eq_true,decide_eq_true_eq] at hB
 obtain ⟨⟨⟨⟨⟨hsel,hn⟩,hlen⟩,hs⟩,hc⟩,hord⟩:=hB
 have hdl:(l.drop n).length=l.toArray.size - n:=by simp
 have inv0:HeadInv .any l.toArray n (Array.replicate l.toArray.size false):=
  ⟨by simp,fun j oj _ hl=>(by rw [getD_replicate_false] at hl;cases hl),fun t _ ht=>getD_in (by simpa using ht) (getD_replicate_false _ _)⟩
 have H:=wpAnyC_ordE hsel hs hc hn ord _ a w.drew inv0 hord hC h
 refine wp_region_any hm ?_
 have:=wpAny_of_headC hE (Q':=Q) (g:=l.toArray.size - n) (fun listed a' w' hL=>by
  have:=wpAny_of_seq (md:=.any) (Q':=Q) (l.drop n) n listed a' w' (fun j=>by simp [List.getElem?_drop]) (by rw [hdl];exact hL.1) hL.2
  rwa [hdl] at this) _ _ _ _ H
 rw [hlen] at this
 exact this
theorem wpMixE_pure {C:World→Prop} {T:Act→World→Prop} {k:Nat} {r:Ord} {a:Act} {w:World} {o:Oper} (ho:ops[k]?=some o) (hw:Region.wanted o (yielded ops a.tmps)=true) (v:Value)
  (hv:∀ w,C w→(execOp a.eval o).run P w=.ok (.value v) w) (h:wpMixE P ops C E T r (a.put o.dst v) w):wpMixE P ops C E T (.pure k r) a w:=by
 simp only [wpMixE,ho]
 exact ⟨v,.inl ⟨hw,hv⟩,h⟩
def QK (E:List PanicEntry→List Deferred→World→Prop) (K:Act→World→Prop):Exit→Act→World→Prop
 | .normal,a,w=>K a w
 | .panic ch,a,w=>E ch a.defers w
 | _,_,_=>False
theorem not_letsOut_QK (K:Act→World→Prop):¬LetsOut (QK E K):=fun ⟨_,_,h⟩=>h
theorem upon_QK {o:Oper} {a:Act} {K:Act→World→Prop} {K':Act→World→Prop} {r:Result Next} (h:o.upon P a K (QK E K') r):o.upon P a K (QE E) r:=by
 cases r with
 | ok n w'=>
  cases n <;> simp only [Oper.upon] at h ⊢
  case value v=>exact h
  case skip=>exact h
  case defer d=>exact h
  case enter f args=>
   refine h.mono fun e w'' he=>?_
   cases e with
   | returned v=>exact he
   | panicked c=>exact he
   | outgrown=>exact absurd he (not_letsOut_QK _)
  case row row args=>exact h
 | halt x w'=>
  cases x <;> simp only [Oper.upon] at h ⊢
  case panic v=>exact h
theorem wpOp_loudE {K:Act→World→Prop} {k:Nat} {a:Act} {w:World} {o:Oper} (ho:ops[k]?=some o) (hw:Region.wanted o (yielded ops a.tmps)=true) (h:wpList P ops (QK E K) [{o with guard:=none}] a w):wpOp P ops (QE E) k K a w:=by
 unfold wpOp
 simp only [ho,hw,if_true]
 have hw2:Region.wanted {o with guard:=none} (yielded ops a.tmps)=true:=rfl
 simp only [wpList,hw2,if_true] at h
 rcases h with h | h
 ·exact .inl (upon_QK h)
 ·exact absurd h.2 (not_letsOut_QK _)
theorem wpMixE_loud {C:World→Prop} {T:Act→World→Prop} {k:Nat} {r:Ord} {a:Act} {w:World} {o:Oper} (ho:ops[k]?=some o) (hw:Region.wanted o (yielded ops a.tmps)=true) (h:wpList P ops (QK E fun a' w'=>C w'∧wpMixE P ops C E T r a' w') [{o with guard:=none}] a w) :
  wpMixE P ops C E T (.one k r) a w:=by
 simp only [wpMixE]
 exact wpOp_loudE ho hw h
theorem wpMixE_both {C:World→Prop} {T:Act→World→Prop} {k k2:Nat} {r r2:Ord} {a:Act} {w:World} {o o2:Oper} (ho:ops[k]?=some o) (hw:Region.wanted o (yielded ops a.tmps)=true) (ho2:ops[k2]?=some o2) (hw2:Region.wanted o2 (yielded ops a.tmps)=true)
  (h:wpList P ops (QK E fun a' w'=>C w'∧wpMixE P ops C E T r a' w') [{o with guard:=none}] a w) (h2:wpList P ops (QK E fun a' w'=>C w'∧wpMixE P ops C E T r2 a' w') [{o2 with guard:=none}] a w) :
  wpMixE P ops C E T (.two k r k2 r2) a w:=by
 simp only [wpMixE]
 exact ⟨wpOp_loudE ho hw h,wpOp_loudE ho2 hw2 h2⟩
end
end Go.MixE
namespace Go.Proofs.YtmnleknehjkmgaaGreatDoor
open Go.RowKit Go.Shelf
attribute [local go_sem] Oper.semAt_some
attribute [local irreducible] Go.MixE.wpMixE
def cntD (D:Nat) (w:World):Nat:=match w.cell? ⟨D,1,none⟩ with
 | some v=>(intOf v).toNat
 | none=>0
theorem Dec.cnt {w0 w:World} {D:Nat} {S:Value} {k:Nat} {p nd d n:Int} (h:Dec w0 D S w k p nd d n):cntD D w=k:=by
 unfold cntD
 rw [h.cells.2.1]
 simp [intOf]
theorem pre_kk {p:Int} (hp:0≤p∧p≤6):(preS p).length≤2∧kkP p≤4:=by
 rcases page_cases hp with rfl | rfl | rfl | rfl | rfl | rfl | rfl <;> exact ⟨by decide,by decide⟩
def RetWh (w0:World) (D:Nat) (S:Value) (b:Str) (l:Nat) (w:World) (e:Ending) (w':World):Prop:=
 ((itR b).kind≠4∧(∃ B c2,e=.returned (.agg #[.int .i64 (itR b).kind,.slice none 0 0,.string (sB (itR b).m),.slice B (itR b).C.length c2,.bool (itR b).al])∧OwnT w' w.heap.size (.slice B (itR b).C.length c2) (itR b).C)∧(∃ k p nd d n,k≤l∧(itR b).raw=b.take k∧Dec w0 D S w' k p nd d n)∧DK D w w')∨
 (itR b=iteO 4 b∧∃ p,DMiss w0 D S w e w' l p (needR b:Nat))
theorem RetWh.put {w0 w w2 w3:World} {D:Nat} {S:Value} {b:Str} {l I:Nat} {v:Value} {kind:Int} {va vb:Value} {s:ByteArray} {al:Bool} (h:RetWh w0 D S b l w (.returned v) w2) (hI:ItAt w2 I kind va s vb al) (hDI:D<I) (hwI:w.heap.size≤I) (i2:Below I w2 w3) (i6:∀ k,k≠I→w3.heap[k]?=w2.heap[k]?):RetWh w0 D S b l w (.returned v) w3:=by
 rcases h with ⟨h1,⟨B,c2,h2,h3⟩,⟨k,p,nd,d,n,h4,h5,h6⟩,h7⟩ | ⟨h1,p,h2,h3⟩
 ·exact .inl ⟨h1,⟨B,c2,h2,it_ownT hI h3 i6⟩,⟨k,p,nd,d,n,h4,h5,⟨(i2.block D hDI).trans h6.blk,h6.bel.trans (i2.mono (by omega))⟩⟩,⟨Nat.le_trans h7.size i2.size,fun k hk hb=>(i6 k (by omega)).trans (h7.same k hk hb)⟩⟩
 ·cases h2
theorem whole_none {w0 w w':World} {D:Nat} {S:Value} {b:Str} {l:Nat} (kind:Int) (hk4:kind≠4) (k:Nat) (hk:k≤l) (hi:itR b=iteO kind (b.take k)) {p nd d n:Int} (X:Dec w0 D S w' k p nd d n) (K:DK D w w') :
  RetWh w0 D S b l w (.returned (.agg #[.int .i64 kind,.slice none 0 0,.string ⟨#[]⟩,.slice none 0 0,.bool false])) w':=by
 refine .inl ⟨by rw [hi];exact hk4,⟨none,0,by rw [hi];rfl,by rw [hi];exact ownT_nil _ _⟩,⟨k,p,nd,d,n,hk,by rw [hi];rfl,X⟩,K⟩
theorem whole_code {w0 w w1 w':World} {D:Nat} {S:Value} {b:Str} {l:Nat} (hl:b.length=l) (hwb:w.heap.size≤w1.heap.size) (K:DK D w w1) {p:Int} {o:UInt8} {t:Str} {x:En} {C:List Tr} {e:Ending}
  (hd:hdB b=some (p,o,t)) (hx:ratT p o.toNat=some x) (hC:fillV x.2.2.1 x.2.1 (numB x.2.2.1 t).1 (numB x.2.2.1 t).2=some C) (hsz:kkP p+sumN (behS p x.2.2.1) (behS p x.2.2.1).length=sizeT p x.2.2.1)
  (R:RetDI w0 D S b l w1 (kkP p) p (sizeT p x.2.2.1:Nat) (behS p x.2.2.1) x.1 C x.2.2.2 e w'):RetWh w0 D S b l w e w':=by
 have hi:=it_of hd
 have hn:=need_some hd
 rw [hx] at hi hn
 simp only at hi hn
 rcases R with ⟨h1,⟨B,c2,h2,h3⟩,⟨d,n,h4⟩,h5⟩ | ⟨h1,h2⟩
 ·rw [hsz] at h1 h4
  rw [if_neg (by omega),hC] at hi
  have ek:(itR b).kind=1:=by rw [hi]
  have er:(itR b).raw=b.take (sizeT p x.2.2.1):=by rw [hi]
  have em:(itR b).m=x.1:=by rw [hi]
  have ec:(itR b).C=C:=by rw [hi];rfl
  have ea:(itR b).al=x.2.2.2:=by rw [hi]
  refine .inl ⟨by rw [ek];decide,⟨B,c2,?_,?_⟩,⟨_,_,_,_,_,h1,er,h4⟩,K.trans h5⟩
  ·rw [ek,em,ec,ea];exact h2
  ·rw [ec];exact row_mono h3 hwb
 ·rw [hsz] at h1
  rw [if_pos (by omega)] at hi
  refine .inr ⟨hi,p,?_⟩
  rw [hn]
  exact ⟨h2.1,h2.2.1,K.trans h2.2.2⟩
theorem whole_any {w0:World} {D:Nat} {b:Str} {A:Option Addr} {l cap:Nat} (H:DH w0 D b A l cap) (hM:MaxAt w0) {w:World} {nd:Int} (X:Dec w0 D (.slice A l cap) w 0 0 nd 0 0) :
  Calls Tryz.prog 66 #[.pointer (some ⟨D,0,none⟩)] w (RetWh w0 D (.slice A l cap) b l w):=by
 have hl:=H.hl
 obtain ⟨S,hS⟩:∃ z,Value.slice A l cap=z:=⟨_,rfl⟩
 have OP:=Lib.hid (fun w (p nd d n:Int) hk X hp=>opcode_any H (w:=w) (p:=p) (nd:=nd) (d:=d) (n:=n) hk X hp)
 have TK:=Lib.hid (fun w k (p nd d n:Int) hk X=>taken_any H (w:=w) (k:=k) hk (p:=p) (nd:=nd) (d:=d) (n:=n) X)
 have KF:=Lib.hid (fun w k (p nd d n:Int) hk X=>keep_any H (w:=w) (k:=k) hk (p:=p) (nd:=nd) (d:=d) (n:=n) X)
 have IN:=Lib.hid (fun w k (p nd d n:Int) hk X i ex hx op m hm hup Ae ne ce L hne hne2 al B hB O C hC=>dinstr_any H (w:=w) (k:=k) hk (p:=p) (nd:=nd) (d:=d) (n:=n) X (i:=i) (ex:=ex) hx op m hm hup Ae ne ce L hne hne2 al B hB O C hC)
 have MX:Hid (∀ w1,Below D w0 w1→MaxAt w1):=fun w1 h=>hM.belowN h (Nat.lt_of_lt_of_le hM.lt H.hD)
 have hl2:=H.hl2
 rw [hS] at X OP TK KF IN ⊢
 have HL:=Lib.hid hl
 obtain ⟨I,hI⟩:∃ z,w.heap.size=z:=⟨_,rfl⟩
 obtain ⟨wI,hwI,I0,yI,zI⟩:=it_start w I hI
 have XI:=Lib.hid (X.all yI)
 have KI:=Lib.hid (DK.of_below (D:=D) yI)
 have hDI:D<I:=by rw [← hI];exact X.lt
 have UP:Hid (∀ wz,DK D wI wz→ItAt wz I 0 (.slice none 0 0) ⟨#[]⟩ (.slice none 0 0) false∧DK D w wz):=fun wz K=>⟨K.blk I0 (by omega),KI.out.trans K⟩
 have HI:=Lib.hid hI
 clear H hM X I0 yI KI hS hl
 go_enter Tryz.func66,Tryz.ntmps66
 go_wp2
 go_loopw [] (fun wr=>∃ (p:Int) (r:Str) (nd:Int),(0≤p∧p≤6)∧Hid (b=preS p++r)∧Hid (Dec w0 D S wr (preS p).length p nd 0 0∧DK D wI wr)) (fun wr=>3 - cntD D wr)
 case atStart=>exact ⟨0,b,nd,⟨by decide,by decide⟩,rfl,⟨XI.out,DK.refl _ _⟩⟩
 case round=>
  obtain ⟨p,r,nd,hp,HB,XK⟩:=hrel
  obtain ⟨hk2,hkk4⟩:=pre_kk hp
  have hkl:(preS p).length≤l:=by
   have h:=congrArg List.length HB.out
   rw [List.length_append,HL.out] at h
   omega
  have hcnt:cntD D wr=(preS p).length:=XK.out.1.cnt
  have MB:Hid (l<kkP p→itR b=iteO 4 b∧needR b=kkP p):=fun h=>missB hp HB.out (by rw [HL.out];exact h)
  have OPP:=fun w1 X=>OP.out w1 p nd 0 0 hkl X hp
  have X1:=XK.out.1
  obtain ⟨o,ho⟩:∃ z,b.getD (kkP p - 1) 0=z:=⟨_,rfl⟩
  have HA:Hid (kkP p≤l→∃ t,(p≤4→b=preS p++o :: t∧b.drop (kkP p)=t)∧(5≤p→hdB b=some (p,o,t)∧∃ u,t=b.getD (preS p).length 0 :: u)):=fun h=>by
   obtain ⟨o',t,h1,h2⟩:=hasB hp HB.out (by rw [HL.out];exact h)
   rw [ho] at h1
   subst h1
   exact ⟨t,h2⟩
  obtain ⟨kk,hkk⟩:∃ z,kkP p=z:=⟨_,rfl⟩
  obtain ⟨dd,hdd⟩:∃ z,ddP b p 0=z:=⟨_,rfl⟩
  obtain ⟨q,hq⟩:∃ z,(preS p).length=z:=⟨_,rfl⟩
  rw [ho] at OPP
  rw [hkk] at OPP MB hkk4
  rw [hdd] at OPP
  rw [hq] at OPP X1 hcnt hk2 hkl
  have OPP:=Lib.hid OPP
  have HO:=Lib.hid ho
  have HKK:=Lib.hid hkk
  have HDD:=Lib.hid hdd
  have HQ:=Lib.hid hq
  have MS:Hid (∀ w5,l<kk→(∃ d n,Dec w0 D S w5 l p kk d n)→DK D wr w5→RetWh w0 D S b l w (.panicked missE) w5):=fun w5 h h1 h2=>by
   obtain ⟨m1,m2⟩:=MB.out h
   exact .inr ⟨m1,p,rfl,by rw [m2];exact h1,(UP.out w5 (XK.out.2.trans h2)).2⟩
  have hDr:D<wr.heap.size:=X1.lt
  have X1:=Lib.hid X1
  have KR:Hid (DK D wI wr):=XK.out.2
  clear ho hkk hdd hq MB XK
  go_upto_region 1 with fail
  go_cut [3,4] (fun pe pk wx=>∃ (c:Nat) (pp oo:Int) (m:Str) (Av:Option Addr) (nv cv:Nat) (ex:Str) (al:Bool) (kd:Int),pe=.pointer (some ⟨c,0,none⟩)∧pk=.int .i64 kd∧Hid (kk≤l∧wx.heap[c]?=some (.cells #[.int .i64 pp,.int .u8 oo,.string (sB m),.slice Av nv cv,.string (sB ex),.bool al] 55 (0,0))∧Dec w0 D S wx kk p kk dd 0∧DK D wr wx∧
   (∀ x,ratT p o.toNat=some x→kd=1∧pp=p∧oo=(o.toNat:Int)∧m=x.1∧ex=x.2.2.1∧al=x.2.2.2∧nv=x.2.1.length∧OwnT wx (D+1) (.slice Av nv cv) x.2.1)∧(ratT p o.toNat=none→kd=rkindT p o.toNat)))
  case first=>
   obtain ⟨w4,hw4⟩:∃ z,wr.drew=z:=⟨_,rfl⟩
   have dq:Below wr.heap.size wr w4:=by rw [← hw4];exact below_drewN wr _ 1
   have X4:=Lib.hid (X1.out.all dq)
   have K4:=Lib.hid (DK.of_below (D:=D) dq)
   have z4:wr.heap.size≤w4.heap.size:=dq.size
   refine MixE.wp_region_mixedE (fun w'=>w'.cell? ⟨D,2,none⟩=some (.int .i64 p)) (fun ch ds w'=>ds=[]∧RetWh w0 D S b l w (.panicked ch) w') 12
    (.pure 0 (.pure 1 (.pure 2 (.pure 3 (.pure 4 (.two 5 (.two 6 (.pure 7 (.pure 8 (.pure 9 (.one 10 (.one 11 .done))))) 10 (.one 6 (.pure 7 (.pure 8 (.pure 9 (.one 11 .done)))))) 10 (.one 5 (.one 6 (.pure 7 (.pure 8 (.pure 9 (.one 11 .done)))))))))))) (by kernel_rfl) (by kernel_rfl) (by rw [hw4];exact X4.out.cells.2.2.1) (fun ch a w h=>⟨h.1,h.2⟩) ?_
   rw [hw4]
   clear hw4 dq
   refine MixE.wpMixE_pure rfl (by kernel_rfl) (.pointer (some ⟨D,0,none⟩)) (fun w h=>by clear h;go_simp;try rfl) ?_
   refine MixE.wpMixE_pure rfl (by kernel_rfl) (.pointer (some ⟨D,0,none⟩)) (fun w h=>by clear h;go_simp;try rfl) ?_
   refine MixE.wpMixE_pure rfl (by kernel_rfl) (.pointer (some ⟨D,2,none⟩)) (fun w h=>by clear h;go_simp;try rfl) ?_
   refine MixE.wpMixE_pure rfl (by kernel_rfl) (.int .i64 p) (fun w h=>by go_simp;try rfl) ?_
   refine MixE.wpMixE_pure rfl (by kernel_rfl) (.pointer (some ⟨D,0,none⟩)) (fun w h=>by clear h;go_simp;try rfl) ?_
   refine MixE.wpMixE_both rfl (by kernel_rfl) rfl (by kernel_rfl) ?_ ?_
   ·go_wp2_with fail
    refine (OPP.out w4 X4.out).mono ?_
    rintro e w5 (⟨h,rfl,h1,h2⟩ | ⟨h,rfl,h1,h2⟩)
    rotate_left
    ·exact ⟨rfl,MS.out w5 h h1 (K4.out.trans h2)⟩
    have hkl5:=Lib.hid h
    have X4:=Lib.hid h1
    have K4:=Lib.hid (K4.out.trans h2)
    have z5:wr.heap.size≤w5.heap.size:=K4.out.size
    clear h h1 h2
    go_wp2
    refine ⟨X4.out.cells.2.2.1,?_⟩
    refine MixE.wpMixE_both rfl (by kernel_rfl) rfl (by kernel_rfl) ?_ ?_
    ·go_wp2_with fail
     refine (tat2_any p o w5 (MX.out w5 X4.out.bel)).mono ?_
     rintro e w6 ⟨pp,oo,m,Av,nv,cv,ex,al,kd,rfl,hb,f1,f2⟩
     have zz:D+1≤w5.heap.size:=X4.out.lt
     have FE:Hid ((∀ x,ratT p o.toNat=some x→kd=1∧pp=p∧oo=(o.toNat:Int)∧m=x.1∧ex=x.2.2.1∧al=x.2.2.2∧nv=x.2.1.length∧OwnT w6 (D+1) (.slice Av nv cv) x.2.1)∧(ratT p o.toNat=none→kd=rkindT p o.toNat)):=⟨fun x hx=>by
      obtain ⟨g1,g2,g3,g4,g5,g6,g7,g8⟩:=f1 x hx
      exact ⟨g1,g2,g3,g4,g5,g6,g7,row_mono g8 zz⟩,f2⟩
     have X4:=Lib.hid (X4.out.all hb)
     have K4:=Lib.hid (K4.out.trans (DK.of_below hb))
     clear hb f1 f2 zz
     go_wp2
     refine ⟨X4.out.cells.2.2.1,?_⟩
     refine MixE.wpMixE_pure rfl (by kernel_rfl) (.tuple #[.agg #[.int .i64 pp,.int .u8 oo,.string (sB m),.slice Av nv cv,.string (sB ex),.bool al],.int .i64 kd]) (fun w h=>by clear h;go_simp;try rfl) ?_
     refine MixE.wpMixE_pure rfl (by kernel_rfl) (.agg #[.int .i64 pp,.int .u8 oo,.string (sB m),.slice Av nv cv,.string (sB ex),.bool al]) (fun w h=>by clear h;go_simp;try rfl) ?_
     refine MixE.wpMixE_pure rfl (by kernel_rfl) (.int .i64 kd) (fun w h=>by clear h;go_simp;try rfl) ?_
     refine MixE.wpMixE_loud rfl (by kernel_rfl) ?_
     obtain ⟨c,w7,hc,hwa,SB,yb,zb⟩:=Fr.box (Fr.nil w6) #[.int .i64 0,.int .u8 0,.string ⟨#[]⟩,.slice none 0 0,.string ⟨#[]⟩,.bool false] 55
     have bx:Hid (w7.heap[c]?=some (.cells #[.int .i64 0,.int .u8 0,.string ⟨#[]⟩,.slice none 0 0,.string ⟨#[]⟩,.bool false] 55 (0,0))):=SB.out.1
     have FE:Hid ((∀ x,ratT p o.toNat=some x→kd=1∧pp=p∧oo=(o.toNat:Int)∧m=x.1∧ex=x.2.2.1∧al=x.2.2.2∧nv=x.2.1.length∧OwnT w7 (D+1) (.slice Av nv cv) x.2.1)∧(ratT p o.toNat=none→kd=rkindT p o.toNat)):=⟨fun x hx=>by
      obtain ⟨g1,g2,g3,g4,g5,g6,g7,g8⟩:=FE.out.1 x hx
      exact ⟨g1,g2,g3,g4,g5,g6,g7,g8.below yb⟩,FE.out.2⟩
     have hcr:wr.heap.size≤c:=by have:=K4.out.size;omega
     have X4:=Lib.hid (X4.out.all yb)
     have K4:=Lib.hid (K4.out.trans (DK.of_below yb))
     clear SB yb zb
     go_wp2
     refine ⟨X4.out.cells.2.2.1,?_⟩
     refine MixE.wpMixE_loud rfl (by kernel_rfl) ?_
     obtain ⟨wz,hwz,a1,a2,a3,a4⟩:=ent_put X4.out K4.out hDr bx.out hcr #[.int .i64 pp,.int .u8 oo,.string (sB m),.slice Av nv cv,.string (sB ex),.bool al]
     refine wpList_store_row rfl 55 _ _ rfl c #[.int .i64 pp,.int .u8 oo,.string (sB m),.slice Av nv cv,.string (sB ex),.bool al] rfl rfl _ _ bx.out (by kernel_rfl) (by kernel_rfl) (by kernel_rfl) ?_
     rw [hwz]
     have F:Hid (kk≤l∧wz.heap[c]?=some (.cells #[.int .i64 pp,.int .u8 oo,.string (sB m),.slice Av nv cv,.string (sB ex),.bool al] 55 (0,0))∧Dec w0 D S wz kk p kk dd 0∧DK D wr wz∧
      (∀ x,ratT p o.toNat=some x→kd=1∧pp=p∧oo=(o.toNat:Int)∧m=x.1∧ex=x.2.2.1∧al=x.2.2.2∧nv=x.2.1.length∧OwnT wz (D+1) (.slice Av nv cv) x.2.1)∧(ratT p o.toNat=none→kd=rkindT p o.toNat)):=⟨hkl5.out,a1,a2,a3,fun x hx=>by
       obtain ⟨g1,g2,g3,g4,g5,g6,g7,g8⟩:=FE.out.1 x hx
       exact ⟨g1,g2,g3,g4,g5,g6,g7,a4 _ _ _ g8⟩,FE.out.2⟩
     refine ⟨a2.cells.2.2.1,?_⟩
     clear hwz a1 a2 a3 a4 X4 K4 FE bx
     simp only [MixE.wpMixE,List.drop_succ_cons,List.drop_zero]
     go_wp2
     go_meet
     exact ⟨c,pp,oo,m,Av,nv,cv,ex,al,kd,rfl,rfl,F⟩
    ·obtain ⟨c,w6,hc,hwa,SB,yb,zb⟩:=Fr.box (Fr.nil w5) #[.int .i64 0,.int .u8 0,.string ⟨#[]⟩,.slice none 0 0,.string ⟨#[]⟩,.bool false] 55
     have bx:Hid (w6.heap[c]?=some (.cells #[.int .i64 0,.int .u8 0,.string ⟨#[]⟩,.slice none 0 0,.string ⟨#[]⟩,.bool false] 55 (0,0))):=SB.out.1
     have hcr:wr.heap.size≤c:=by have:=K4.out.size;omega
     have X4:=Lib.hid (X4.out.all yb)
     have K4:=Lib.hid (K4.out.trans (DK.of_below yb))
     clear SB yb zb
     go_wp2
     refine ⟨X4.out.cells.2.2.1,?_⟩
     refine MixE.wpMixE_loud rfl (by kernel_rfl) ?_
     go_wp2_with fail
     refine (tat2_any p o w6 (MX.out w6 X4.out.bel)).mono ?_
     rintro e w7 ⟨pp,oo,m,Av,nv,cv,ex,al,kd,rfl,hb,f1,f2⟩
     have zz:D+1≤w6.heap.size:=X4.out.lt
     have FE:Hid ((∀ x,ratT p o.toNat=some x→kd=1∧pp=p∧oo=(o.toNat:Int)∧m=x.1∧ex=x.2.2.1∧al=x.2.2.2∧nv=x.2.1.length∧OwnT w7 (D+1) (.slice Av nv cv) x.2.1)∧(ratT p o.toNat=none→kd=rkindT p o.toNat)):=⟨fun x hx=>by
      obtain ⟨g1,g2,g3,g4,g5,g6,g7,g8⟩:=f1 x hx
      exact ⟨g1,g2,g3,g4,g5,g6,g7,row_mono g8 zz⟩,f2⟩
     have bx:=Lib.hid ((hb.block c (Array.getElem?_eq_some_iff.1 bx.out).1).trans bx.out)
     have X4:=Lib.hid (X4.out.all hb)
     have K4:=Lib.hid (K4.out.trans (DK.of_below hb))
     clear hb f1 f2 zz
     go_wp2
     refine ⟨X4.out.cells.2.2.1,?_⟩
     refine MixE.wpMixE_pure rfl (by kernel_rfl) (.tuple #[.agg #[.int .i64 pp,.int .u8 oo,.string (sB m),.slice Av nv cv,.string (sB ex),.bool al],.int .i64 kd]) (fun w h=>by clear h;go_simp;try rfl) ?_
     refine MixE.wpMixE_pure rfl (by kernel_rfl) (.agg #[.int .i64 pp,.int .u8 oo,.string (sB m),.slice Av nv cv,.string (sB ex),.bool al]) (fun w h=>by clear h;go_simp;try rfl) ?_
     refine MixE.wpMixE_pure rfl (by kernel_rfl) (.int .i64 kd) (fun w h=>by clear h;go_simp;try rfl) ?_
     refine MixE.wpMixE_loud rfl (by kernel_rfl) ?_
     obtain ⟨wz,hwz,a1,a2,a3,a4⟩:=ent_put X4.out K4.out hDr bx.out hcr #[.int .i64 pp,.int .u8 oo,.string (sB m),.slice Av nv cv,.string (sB ex),.bool al]
     refine wpList_store_row rfl 55 _ _ rfl c #[.int .i64 pp,.int .u8 oo,.string (sB m),.slice Av nv cv,.string (sB ex),.bool al] rfl rfl _ _ bx.out (by kernel_rfl) (by kernel_rfl) (by kernel_rfl) ?_
     rw [hwz]
     have F:Hid (kk≤l∧wz.heap[c]?=some (.cells #[.int .i64 pp,.int .u8 oo,.string (sB m),.slice Av nv cv,.string (sB ex),.bool al] 55 (0,0))∧Dec w0 D S wz kk p kk dd 0∧DK D wr wz∧
      (∀ x,ratT p o.toNat=some x→kd=1∧pp=p∧oo=(o.toNat:Int)∧m=x.1∧ex=x.2.2.1∧al=x.2.2.2∧nv=x.2.1.length∧OwnT wz (D+1) (.slice Av nv cv) x.2.1)∧(ratT p o.toNat=none→kd=rkindT p o.toNat)):=⟨hkl5.out,a1,a2,a3,fun x hx=>by
       obtain ⟨g1,g2,g3,g4,g5,g6,g7,g8⟩:=FE.out.1 x hx
       exact ⟨g1,g2,g3,g4,g5,g6,g7,a4 _ _ _ g8⟩,FE.out.2⟩
     refine ⟨a2.cells.2.2.1,?_⟩
     clear hwz a1 a2 a3 a4 X4 K4 FE bx
     simp only [MixE.wpMixE,List.drop_succ_cons,List.drop_zero]
     go_wp2
     go_meet
     exact ⟨c,pp,oo,m,Av,nv,cv,ex,al,kd,rfl,rfl,F⟩
   ·obtain ⟨c,w5,hc,hwa,SB,yb,zb⟩:=Fr.box (Fr.nil w4) #[.int .i64 0,.int .u8 0,.string ⟨#[]⟩,.slice none 0 0,.string ⟨#[]⟩,.bool false] 55
    have bx:Hid (w5.heap[c]?=some (.cells #[.int .i64 0,.int .u8 0,.string ⟨#[]⟩,.slice none 0 0,.string ⟨#[]⟩,.bool false] 55 (0,0))):=SB.out.1
    have hcr:wr.heap.size≤c:=by have:=K4.out.size;omega
    have X4:=Lib.hid (X4.out.all yb)
    have K4:=Lib.hid (K4.out.trans (DK.of_below yb))
    clear SB yb zb
    go_wp2
    refine ⟨X4.out.cells.2.2.1,?_⟩
    refine MixE.wpMixE_loud rfl (by kernel_rfl) ?_
    go_wp2_with fail
    refine (OPP.out w5 X4.out).mono ?_
    rintro e w6 (⟨h,rfl,h1,h2⟩ | ⟨h,rfl,h1,h2⟩)
    rotate_left
    ·exact ⟨rfl,MS.out w6 h h1 (K4.out.trans h2)⟩
    have hkl5:=Lib.hid h
    have X4:=Lib.hid h1
    have K4:=Lib.hid (K4.out.trans h2)
    have z5:wr.heap.size≤w6.heap.size:=K4.out.size
    have bx:=Lib.hid (h2.blk bx.out (by omega))
    clear h h1 h2
    go_wp2
    refine ⟨X4.out.cells.2.2.1,?_⟩
    refine MixE.wpMixE_loud rfl (by kernel_rfl) ?_
    go_wp2_with fail
    refine (tat2_any p o w6 (MX.out w6 X4.out.bel)).mono ?_
    rintro e w7 ⟨pp,oo,m,Av,nv,cv,ex,al,kd,rfl,hb,f1,f2⟩
    have zz:D+1≤w6.heap.size:=X4.out.lt
    have FE:Hid ((∀ x,ratT p o.toNat=some x→kd=1∧pp=p∧oo=(o.toNat:Int)∧m=x.1∧ex=x.2.2.1∧al=x.2.2.2∧nv=x.2.1.length∧OwnT w7 (D+1) (.slice Av nv cv) x.2.1)∧(ratT p o.toNat=none→kd=rkindT p o.toNat)):=⟨fun x hx=>by
     obtain ⟨g1,g2,g3,g4,g5,g6,g7,g8⟩:=f1 x hx
     exact ⟨g1,g2,g3,g4,g5,g6,g7,row_mono g8 zz⟩,f2⟩
    have bx:=Lib.hid ((hb.block c (Array.getElem?_eq_some_iff.1 bx.out).1).trans bx.out)
    have X4:=Lib.hid (X4.out.all hb)
    have K4:=Lib.hid (K4.out.trans (DK.of_below hb))
    clear hb f1 f2 zz
    go_wp2
    refine ⟨X4.out.cells.2.2.1,?_⟩
    refine MixE.wpMixE_pure rfl (by kernel_rfl) (.tuple #[.agg #[.int .i64 pp,.int .u8 oo,.string (sB m),.slice Av nv cv,.string (sB ex),.bool al],.int .i64 kd]) (fun w h=>by clear h;go_simp;try rfl) ?_
    refine MixE.wpMixE_pure rfl (by kernel_rfl) (.agg #[.int .i64 pp,.int .u8 oo,.string (sB m),.slice Av nv cv,.string (sB ex),.bool al]) (fun w h=>by clear h;go_simp;try rfl) ?_
    refine MixE.wpMixE_pure rfl (by kernel_rfl) (.int .i64 kd) (fun w h=>by clear h;go_simp;try rfl) ?_
    refine MixE.wpMixE_loud rfl (by kernel_rfl) ?_
    obtain ⟨wz,hwz,a1,a2,a3,a4⟩:=ent_put X4.out K4.out hDr bx.out hcr #[.int .i64 pp,.int .u8 oo,.string (sB m),.slice Av nv cv,.string (sB ex),.bool al]
    refine wpList_store_row rfl 55 _ _ rfl c #[.int .i64 pp,.int .u8 oo,.string (sB m),.slice Av nv cv,.string (sB ex),.bool al] rfl rfl _ _ bx.out (by kernel_rfl) (by kernel_rfl) (by kernel_rfl) ?_
    rw [hwz]
    have F:Hid (kk≤l∧wz.heap[c]?=some (.cells #[.int .i64 pp,.int .u8 oo,.string (sB m),.slice Av nv cv,.string (sB ex),.bool al] 55 (0,0))∧Dec w0 D S wz kk p kk dd 0∧DK D wr wz∧
     (∀ x,ratT p o.toNat=some x→kd=1∧pp=p∧oo=(o.toNat:Int)∧m=x.1∧ex=x.2.2.1∧al=x.2.2.2∧nv=x.2.1.length∧OwnT wz (D+1) (.slice Av nv cv) x.2.1)∧(ratT p o.toNat=none→kd=rkindT p o.toNat)):=⟨hkl5.out,a1,a2,a3,fun x hx=>by
      obtain ⟨g1,g2,g3,g4,g5,g6,g7,g8⟩:=FE.out.1 x hx
      exact ⟨g1,g2,g3,g4,g5,g6,g7,a4 _ _ _ g8⟩,FE.out.2⟩
    refine ⟨a2.cells.2.2.1,?_⟩
    clear hwz a1 a2 a3 a4 X4 K4 FE bx
    simp only [MixE.wpMixE,List.drop_succ_cons,List.drop_zero]
    go_wp2
    go_meet
    exact ⟨c,pp,oo,m,Av,nv,cv,ex,al,kd,rfl,rfl,F⟩
  case rest=>
   obtain ⟨c,pp,oo,m,Av,nv,cv,ex,al,kd,rfl,rfl,R⟩:=hcut
   obtain ⟨hkl5,bx,XC,KC,f1,f2⟩:=R.out
   obtain ⟨t,ht4,ht5⟩:=HA.out (by rw [HKK.out];exact hkl5)
   have KC2:=Lib.hid (KR.out.trans KC)
   clear OPP MS X1 R
   cases hx:ratT p o.toNat with
   | some x=>
    obtain ⟨rfl,e2,e3,e4,e5,e6,e7,O⟩:=f1 x hx
    have hd:hdB b=some (p,o,t):=by
     by_cases h5:5≤p
     ·exact (ht5 h5).1
     ·rw [(ht4 (by omega)).1];exact hd_some ⟨hp.1,by omega⟩ t hx
    have hxp:=exP_of o.toNat_lt hx
    have nk:=num_kk hxp (fun h=>(ht4 h).2) (fun h=>(ht5 h).2)
    obtain ⟨C,hC⟩:=fill_in hxp (plc_of o.toNat_lt hx) (numB_in hxp t)
    have hsz:=sz_kk hxp
    have OKS:=InTab.ok (k:=(p,(o.toNat:Int),x.1,x.2.1,x.2.2.1,x.2.2.2)) ⟨o.toNat,o.toNat_lt,rfl,hx⟩
    have hm10:=OKS.m
    have hup:=OKS.up
    have hl3:=OKS.len
    simp only at hm10 hup hl3
    rw [e7] at O
    have CI:=IN.out wc kk p kk dd 0 hkl5 XC o.toNat x.2.2.1 hxp (o.toNat:Int) x.1 (by omega) hup Av x.2.1.length cv x.2.1 rfl (by omega) x.2.2.2 (D+1) (by omega) O C (fun _=>by rw [← HDD.out,← HKK.out,nk];exact hC)
    have W:=Lib.hid (fun e w' R=>whole_code (w0:=w0) (w:=w) (w1:=wc) (w':=w') (D:=D) (S:=S) (b:=b) HL.out (UP.out wc KC2.out).2.size (UP.out wc KC2.out).2 (C:=C) (e:=e) hd hx hC hsz (by rw [HKK.out];exact R))
    unfold enV at CI
    obtain ⟨q0,q1,q2,q3,q4,q5⟩:=Fr.cells6 bx
    rw [e2] at q0
    rw [e3] at q1
    rw [e4] at q2
    rw [e7] at q3
    rw [e5] at q4
    rw [e6] at q5
    clear bx XC KC f1 f2 hd hxp nk hC hsz OKS hup O e2 e3 e4 e5 e6 e7 ht4 ht5 HA hx
    go_wp2_with fail
    refine CI.mono ?_
    rintro e w2 hR
    have HW:=W.out e w2 hR
    rcases hR with ⟨h1,⟨B,c2,rfl,hO⟩,-,h5⟩ | ⟨h1,rfl,h2⟩
    ·have I2:=(UP.out w2 (KC2.out.trans h5)).1
     obtain ⟨w3,hw3,i1,i2,-,-,-,i6⟩:=I2.put 1 (.slice none 0 0) (sB x.1) (.slice B C.length c2) x.2.2.2
     have F:=Lib.hid (HW.put I2 hDI (Nat.le_of_eq HI.out) i2 i6)
     obtain ⟨k0,k1,k2,k3,k4,k5⟩:=I2.cells
     obtain ⟨j0,j1,j2,j3,j4,j5⟩:=i1.cells
     clear CI W HW h1 hO h5 I2 i1 i2 i6 q0 q1 q2 q3 q4 q5
     go_wp2
     refine bodyPost_ret (v:=.agg #[.int .i64 1,.slice none 0 0,.string (sB x.1),.slice B C.length c2,.bool x.2.2.2]) ?_ rfl F.out
     simp [results,Tryz.results66,go_sem,j0,j1,j2,j3,j4]
    ·exact ⟨rfl,HW⟩
   | none=>
    obtain rfl:=f2 hx
    rcases knd_of hp hx with ⟨h2,hp4,p',hpg,hpre,hp'⟩ | ⟨h03,hat⟩
    ·rw [h2]
     obtain ⟨hb4,hdr⟩:=ht4 hp4
     have hkq:kk=q+1:=by rw [← HKK.out,← HQ.out];unfold kkP;rw [if_neg (by omega)]
     have htk:b.take kk=preS p':=by
      rw [hpre,hkq,← HQ.out,hb4,List.take_append,List.take_of_length_le (by omega),show (preS p).length+1 - (preS p).length=1 by omega]
      rfl
     have hk':(preS p').length=kk:=by rw [hpre,hkq,← HQ.out,List.length_append];rfl
     have hdd0:dd=0:=by rw [← HDD.out];unfold ddP;rw [if_neg (by omega)]
     have hq2:=(pre_kk hp').1
     have TK2:=TK.out wc kk p kk dd 0 hkl5 XC
     obtain ⟨e0,e1,e2,e3,e4,e5,e6⟩:=XC.cells
     have PO:=Lib.hid (fun A' c' w' h=>pageOf_any A' c' (preS p') (by unfold maxLen;omega) w' h)
     rw [hk',hpre,hpg] at PO
     rw [← hpre] at PO
     rw [htk] at TK2
     have hb5:Hid (b=preS p'++t):=by show b=_;rw [hpre,hb4];simp
     have XC:=Lib.hid XC
     subst hdd0
     have HK':=Lib.hid hk'
     have hqk:q<kk:=by omega
     clear bx KC f1 f2 hx ht4 ht5 HA hpg htk hdr hb4 hpre h2 hk' hkq
     go_wp2_with fail
     refine TK2.mono ?_
     rintro e w2 ⟨A',c',rfl,hO,hb⟩
     obtain ⟨A2,c2,e7,hP⟩:=hO.bytes
     simp only [Value.slice.injEq] at e7
     obtain ⟨rfl,-,rfl⟩:=e7
     have PO2:=PO.out A' c' w2 hP
     have X2:=XC.out.all hb
     have K2:=KC2.out.trans (DK.of_below (D:=D) hb)
     clear TK2 hO hb hP PO
     go_wp2_with fail
     refine PO2.mono ?_
     rintro e w3 ⟨rfl,hb⟩
     have X3:=X2.all hb
     obtain ⟨g0,g1,g2,g3,g4,g5,g6⟩:=X3.cells
     have X4:=Lib.hid (X3.set2 p')
     have K4:=Lib.hid ((K2.trans (DK.of_below (D:=D) hb)).set 2 (.int .i64 p'))
     clear PO2 hb X2 X3 K2 e0 e1 e2 e3 e4 e5 e6
     go_wp2
     go_roundw
     case rel=>exact ⟨p',t,kk,hp',hb5,by show _∧_;rw [HK'.out];exact ⟨X4.out,K4.out⟩⟩
     case measure=>rw [X4.out.cnt,hcnt];omega
    ·have hd:hdB b=some (p,o,t):=by
      by_cases h5:5≤p
      ·exact (ht5 h5).1
      ·have h:=hat (by omega) t
       rw [← (ht4 (by omega)).1] at h
       exact h
     have hi:=it_of hd
     rw [hx] at hi
     simp only at hi
     have I2:=(UP.out wc KC2.out).1
     have KW:=Lib.hid (UP.out wc KC2.out).2
     rcases h03 with h0 | ⟨h3,hp2⟩
     ·rw [h0] at hi ⊢
      rw [if_pos rfl] at hi
      have KP:=KF.out wc kk p kk dd 0 hkl5 XC
      have hl1:1≤l:=by
       have:1≤kk:=by rw [← HKK.out];unfold kkP;split <;> omega
       omega
      have HIT:=Lib.hid hi
      clear bx XC KC f1 f2 hx ht4 ht5 HA hd hi hat h0
      go_wp2_with fail
      refine KP.mono ?_
      rintro e w2 ⟨rfl,h1,h2⟩
      have I3:ItAt w2 I _ _ _ _ _:=(UP.out w2 (KC2.out.trans h2)).1
      obtain ⟨w3,hw3,i1,i2,-,-,-,i6⟩:=I3.put 2 (.slice none 0 0) ⟨#[]⟩ (.slice none 0 0) false
      have F:=Lib.hid ((whole_none (b:=b) 2 (by decide) 1 hl1 HIT.out h1 (KW.out.trans h2)).put I3 hDI (Nat.le_of_eq HI.out) i2 i6)
      obtain ⟨k0,k1,k2,k3,k4,k5⟩:=I3.cells
      obtain ⟨j0,j1,j2,j3,j4,j5⟩:=i1.cells
      clear KP h1 h2 I3 I2 i1 i2 i6
      go_wp2
      refine bodyPost_ret (v:=.agg #[.int .i64 2,.slice none 0 0,.string ⟨#[]⟩,.slice none 0 0,.bool false]) ?_ rfl F.out
      simp [results,Tryz.results66,go_sem,j0,j1,j2,j3,j4]
     ·rw [h3] at hi ⊢
      rw [if_neg (by decide)] at hi
      obtain rfl:kk=2:=by rw [← HKK.out,hp2];rfl
      obtain ⟨w3,hw3,i1,i2,-,-,-,i6⟩:=I2.put 3 (.slice none 0 0) ⟨#[]⟩ (.slice none 0 0) false
      have F:=Lib.hid ((whole_none (b:=b) 3 (by decide) 2 hkl5 hi XC KW.out).put I2 hDI (Nat.le_of_eq HI.out) i2 i6)
      obtain ⟨k0,k1,k2,k3,k4,k5⟩:=I2.cells
      obtain ⟨j0,j1,j2,j3,j4,j5⟩:=i1.cells
      clear bx XC KC f1 f2 hx ht4 ht5 HA hd hi hat h3 I2 i1 i2 i6
      go_wp2
      refine bodyPost_ret (v:=.agg #[.int .i64 3,.slice none 0 0,.string ⟨#[]⟩,.slice none 0 0,.bool false]) ?_ rfl F.out
      simp [results,Tryz.results66,go_sem,j0,j1,j2,j3,j4]
end Go.Proofs.YtmnleknehjkmgaaGreatDoor
namespace Go.Proofs.YtmnleknehjkmgaaGreatDoor
open Go.RowKit Go.Shelf
attribute [local go_sem] Oper.semAt_some
def PtD (w:World) (x D:Nat):Prop:=w.heap[x]?=some (.cells #[.pointer (some ⟨D,0,none⟩)] 98 (0,0))
theorem ItAt.put1 {w:World} {b:Nat} {kind:Int} {va vb:Value} {s:ByteArray} {al:Bool} (h:ItAt w b kind va s vb al) (va':Value) :
  ∃ w',w.setCell ⟨b,1,none⟩ va'=w'∧ItAt w' b kind va' s vb al∧Below b w w'∧∀ k,k≠b→w'.heap[k]?=w.heap[k]?:=
 ⟨_,rfl,heap_setCell_same w b 1 _ _ _ h,(Below.refl b w).setCell (p:=⟨b,1,none⟩) (Nat.le_refl _) _,fun k hk=>heap_setCell_other _ ⟨b,1,none⟩ k _ hk⟩
theorem PtD.ne {w:World} {x D I:Nat} (h:PtD w x D) {kind:Int} {va vb:Value} {s:ByteArray} {al:Bool} (hI:ItAt w I kind va s vb al):x≠I:=fun e=>by
 subst e
 unfold PtD at h
 rw [show w.heap[x]?=_ from hI] at h
 simp at h
theorem PtD.cells {w:World} {x D:Nat} (h:PtD w x D):w.cell? ⟨x,0,none⟩=some (.pointer (some ⟨D,0,none⟩))∧w.frozen? ⟨x,0,none⟩=false:=⟨Lib.cell_of_heap h 0,Lib.frozen_of_heap h 0⟩
theorem raw_put {w0 w w3:World} {D:Nat} {S:Value} {b:Str} {k I:Nat} {p nd d n:Int} (X:Dec w0 D S w k p nd d n) (hDI:D<I) {kind:Int} {va vb:Value} {s:ByteArray} {al:Bool} (HI:ItAt w I kind va s vb al) {A':Option Addr} {c':Nat} (O:TOwnB w3 w.heap.size (.slice A' k c') (b.take k)) (hb:Below w.heap.size w w3) :
  ∃ w4,w3.setCell ⟨I,1,none⟩ (.slice A' k c')=w4∧ItAt w4 I kind (.slice A' k c') s vb al∧TOwnB w4 D (.slice A' k c') (b.take k)∧Dec w0 D S w4 k p nd d n∧∀ B u L,OwnT w B u L→OwnT w4 B u L:=by
 have I3:=HI.all hb
 have X3:=X.all hb
 obtain ⟨w4,hw4,i1,i2,i6⟩:=I3.put1 (.slice A' k c')
 exact ⟨w4,hw4,i1,(it_ownB I3 O i6).lift (Nat.le_of_lt X.lt),⟨(i2.block D hDI).trans X3.blk,X3.bel.trans (i2.mono (by omega))⟩,fun B u L h=>it_ownT I3 (h.below hb) i6⟩
theorem catch_miss {w0:World} {D:Nat} {b:Str} {A:Option Addr} {l cap:Nat} (H:DH w0 D b A l cap) {w:World} {k:Nat} (hk:k≤l) {p nd d n:Int} (X:Dec w0 D (.slice A l cap) w k p nd d n) {I x:Nat} (hDI:D<I) (hDx:D<x) (HX:PtD w x D) {kind:Int} {va vb:Value} {s:ByteArray} {al:Bool} (HI:ItAt w I kind va s vb al) :
  CallsD Tryz.prog 64 #[.pointer (some ⟨I,0,none⟩),.pointer (some ⟨x,0,none⟩)] (.panicking missE) w fun e u' w'=>
   e=.returned (.tuple #[])∧u'=.panicking [{v:=.iface 126 (.agg #[]),recovered:=true}]∧∃ A' c',ItAt w' I 4 (.slice A' k c') ⟨#[]⟩ (.slice none 0 0) false∧TOwnB w' D (.slice A' k c') (b.take k)∧Dec w0 D (.slice A l cap) w' k p nd d n:=by
 refine callsD_of_wpS Tryz.func64 rfl fun c₀ cs hu=>?_
 unfold missE at hu
 simp only [Tryz.ntmps64,List.size_toArray,List.length_cons,List.length_nil,Nat.reduceAdd,Nat.reduceSub,Array.replicate_succ,Array.replicate_zero,List.push_toArray,List.append_toArray,List.nil_append,List.cons_append]
 have hta:∀ w,(Instr.typeAssert (.iface 126 (.agg #[])) 20 126 true).run Tryz.prog w=.ok (.tuple #[.agg #[],.bool true]) w:=fun w=>by kernel_rfl
 obtain ⟨S,hS⟩:∃ z,Value.slice A l cap=z:=⟨_,rfl⟩
 have TK:=Lib.hid (fun w X=>taken_any H (w:=w) (k:=k) hk (p:=p) (nd:=nd) (d:=d) (n:=n) X)
 rw [hS] at X TK ⊢
 obtain ⟨w1,hw1⟩:∃ z,w.alloc (.cells #[] 126)=z:=⟨_,rfl⟩
 have hal:Below w.heap.size w w1:=by rw [← hw1];exact up_alloc _ _
 have X1:=X.all hal
 have I1:=HI.all hal
 have P1:PtD w1 x D:=(hal.block x (Array.getElem?_eq_some_iff.1 HX).1).trans HX
 obtain ⟨w2,hw2,i1,i2,-,-,-,i6⟩:=I1.put 4 (.slice none 0 0) ⟨#[]⟩ (.slice none 0 0) false
 have X2:Hid (Dec w0 D S w2 k p nd d n):=⟨(i2.block D hDI).trans X1.blk,X1.bel.trans (i2.mono (by omega))⟩
 have P2:PtD w2 x D:=(i6 x (P1.ne I1)).trans P1
 obtain ⟨k0,k1,k2,k3,k4,k5⟩:=I1.cells
 obtain ⟨p0,-⟩:=P2.cells
 have I2:=Lib.hid i1
 clear hS H X HX HI hal X1 I1 P1 P2 i1 i2 i6
 apply wpS_seq
 apply wpS_seq
 apply wpS_region
 simp [wpOpsS,go_sem,recoverD,hu,Exit.thenS]
 refine wpS_of_wp ?_
 go_upto_region 7 with fail
 clear hw1
 go_wp2
 refine wpS_of_wp ?_
 go_wp2_with fail
 refine (TK.out w2 X2.out).mono ?_
 rintro e w3 ⟨A',c',rfl,hO,hb⟩
 obtain ⟨w4,hw4,F1,F2,F3,-⟩:=raw_put X2.out hDI I2.out hO hb
 have F:Hid (ItAt w4 I 4 (.slice A' k c') ⟨#[]⟩ (.slice none 0 0) false∧TOwnB w4 D (.slice A' k c') (b.take k)∧Dec w0 D S w4 k p nd d n):=⟨F1,F2,F3⟩
 obtain ⟨g0,g1,g2,g3,g4,g5⟩:=(show ItAt w3 I _ _ _ _ _ from I2.out.all hb).cells
 clear TK hO hb F1 F2 F3 X2 I2 k0 k1 k2 k3 k4 k5 p0
 go_wp2
 exact ⟨rfl,_,rfl,.tuple #[],by simp [results,Tryz.results64],rfl,rfl,A',c',F.out⟩
theorem catch_idle {w0:World} {D:Nat} {b:Str} {A:Option Addr} {l cap:Nat} (H:DH w0 D b A l cap) {w:World} {k:Nat} (hk:k≤l) {p nd d n:Int} (X:Dec w0 D (.slice A l cap) w k p nd d n) {I x:Nat} (hDI:D<I) (hDx:D<x) (HX:PtD w x D) {kind:Int} {va vb:Value} {s:ByteArray} {al:Bool} (HI:ItAt w I kind va s vb al) :
  CallsD Tryz.prog 64 #[.pointer (some ⟨I,0,none⟩),.pointer (some ⟨x,0,none⟩)] .returning w fun e u' w'=>
   e=.returned (.tuple #[])∧u'=.returning∧∃ A' c',ItAt w' I kind (.slice A' k c') s vb al∧TOwnB w' D (.slice A' k c') (b.take k)∧Dec w0 D (.slice A l cap) w' k p nd d n∧∀ B u L,OwnT w B u L→OwnT w' B u L:=by
 refine callsD_of_wpS Tryz.func64 rfl fun c₀ cs hu=>?_
 simp only [Tryz.ntmps64,List.size_toArray,List.length_cons,List.length_nil,Nat.reduceAdd,Nat.reduceSub,Array.replicate_succ,Array.replicate_zero,List.push_toArray,List.append_toArray,List.nil_append,List.cons_append]
 obtain ⟨S,hS⟩:∃ z,Value.slice A l cap=z:=⟨_,rfl⟩
 have TK:=Lib.hid (taken_any H hk X)
 rw [hS] at X ⊢
 obtain ⟨p0,-⟩:=HX.cells
 have X2:=Lib.hid X
 have I2:=Lib.hid HI
 clear hS H X HX HI
 apply wpS_seq
 apply wpS_seq
 apply wpS_region
 simp [wpOpsS,go_sem,recoverD,hu,Exit.thenS]
 refine wpS_of_wp ?_
 go_wp2
 refine wpS_of_wp ?_
 go_wp2_with fail
 refine TK.out.mono ?_
 rintro e w3 ⟨A',c',rfl,hO,hb⟩
 obtain ⟨w4,hw4,F1,F2,F3,F4⟩:=raw_put X2.out hDI I2.out hO hb
 have F:Hid (ItAt w4 I kind (.slice A' k c') s vb al∧TOwnB w4 D (.slice A' k c') (b.take k)∧Dec w0 D S w4 k p nd d n∧∀ B u L,OwnT w B u L→OwnT w4 B u L):=⟨F1,F2,F3,F4⟩
 obtain ⟨g0,g1,g2,g3,g4,g5⟩:=(show ItAt w3 I _ _ _ _ _ from I2.out.all hb).cells
 clear TK hO hb F1 F2 F3 F4 X2 I2 p0
 go_wp2
 exact ⟨rfl,.returning,by cases c₀;simp_all,.tuple #[],by simp [results,Tryz.results64],rfl,rfl,A',c',F.out⟩
def RetDIt (w0:World) (D:Nat) (S:Value) (b:Str) (e:Ending) (w':World):Prop:=
 (∃ A' c' B c2,e=.returned (.agg #[.int .i64 (itR b).kind,.slice A' (itR b).raw.length c',.string (sB (itR b).m),.slice B (itR b).C.length c2,.bool (itR b).al])∧TOwnB w' D (.slice A' (itR b).raw.length c') (itR b).raw∧OwnT w' D (.slice B (itR b).C.length c2) (itR b).C)∧
 ∃ k p nd d n,Dec w0 D S w' k p nd d n∧((itR b).kind=4→nd=(needR b:Nat))
theorem ditem_any {w0:World} {D:Nat} {b:Str} {A:Option Addr} {l cap:Nat} (H:DH w0 D b A l cap) (hM:MaxAt w0) {w:World} {nd:Int} (X:Dec w0 D (.slice A l cap) w 0 0 nd 0 0) :
  Calls Tryz.prog 46 #[.pointer (some ⟨D,0,none⟩)] w (RetDIt w0 D (.slice A l cap) b):=by
 have hmf:∀ (fn:Fn) (first cap:Array Value) (w:World),(Instr.makeFunc fn first cap).run Tryz.prog w=.ok (.func fn first cap) w:=fun _ _ _ _=>rfl
 have hl:=H.hl
 obtain ⟨S,hS⟩:∃ z,Value.slice A l cap=z:=⟨_,rfl⟩
 have WH:=Lib.hid (fun w X=>whole_any H hM (w:=w) (nd:=nd) X)
 have CM:=Lib.hid (fun w k hk (p nd d n:Int) X I x h1 h2 h3 (kind:Int) (va vb:Value) (s:ByteArray) (al:Bool) h4=>catch_miss H (w:=w) (k:=k) hk (p:=p) (nd:=nd) (d:=d) (n:=n) X (I:=I) (x:=x) h1 h2 h3 (kind:=kind) (va:=va) (vb:=vb) (s:=s) (al:=al) h4)
 have CI:=Lib.hid (fun w k hk (p nd d n:Int) X I x h1 h2 h3 (kind:Int) (va vb:Value) (s:ByteArray) (al:Bool) h4=>catch_idle H (w:=w) (k:=k) hk (p:=p) (nd:=nd) (d:=d) (n:=n) X (I:=I) (x:=x) h1 h2 h3 (kind:=kind) (va:=va) (vb:=vb) (s:=s) (al:=al) h4)
 rw [hS] at X WH CM CI ⊢
 have HL:=Lib.hid hl
 obtain ⟨x,hx⟩:∃ z,w.heap.size=z:=⟨_,rfl⟩
 obtain ⟨w1,hw1⟩:∃ z,w.alloc (.cells #[.pointer (some ⟨D,0,none⟩)] 98)=z:=⟨_,rfl⟩
 have y1:Below w.heap.size w w1:=by rw [← hw1];exact up_alloc _ _
 have P1:PtD w1 x D:=by rw [← hw1,← hx];exact World.alloc_heap_new w _
 have z1:w1.heap.size=x+1:=by rw [← hw1,← hx];simp
 obtain ⟨w2,hw2,I2,y2,z2⟩:=it_start w1 (x+1) z1
 have hDx:D<x:=by rw [← hx];exact X.lt
 have X2:=(X.all y1).all y2
 have P2:PtD w2 x D:=(y2.block x (by omega)).trans P1
 have C1:=WH.out w2 X2
 obtain ⟨p0,-⟩:=P2.cells
 have P2:=Lib.hid P2
 have I2:=Lib.hid I2
 clear H hM X WH hS hl y1 y2 P1 X2
 go_enter_defers Tryz.func46,Tryz.ntmps46
 go_wp2_with fail
 refine C1.mono ?_
 rintro e w3 (⟨h1,⟨B,c2,rfl,hO⟩,⟨k,p,nd',d,n,hk,hraw,X3⟩,K⟩ | ⟨hi,p,rfl,⟨d,n,X3⟩,K⟩)
 ·have I3:ItAt w3 (x+1) _ _ _ _ _:=K.blk I2.out (by omega)
  have P3:PtD w3 x D:=K.blk P2.out (by omega)
  obtain ⟨w4,hw4,i1,i2,-,-,-,i6⟩:=I3.put (itR b).kind (.slice none 0 0) (sB (itR b).m) (.slice B (itR b).C.length c2) (itR b).al
  have P4:PtD w4 x D:=(i6 x (by omega)).trans P3
  have X4:Dec w0 D S w4 k p nd' d n:=⟨(i2.block D (by omega)).trans X3.blk,X3.bel.trans (i2.mono (by omega))⟩
  have O4:=Lib.hid (it_ownT I3 (row_mono hO (show D≤w2.heap.size by omega)) i6)
  have C2:=CI.out w4 k hk p nd' d n X4 (x+1) x (by omega) hDx P4 _ _ _ _ _ i1
  obtain ⟨k0,k1,k2,k3,k4,k5⟩:=I3.cells
  have HR:Hid ((itR b).raw=b.take k):=hraw
  have H4:Hid ((itR b).kind≠4):=h1
  have LK:Hid ((b.take k).length=k):=by show _=_;rw [List.length_take,HL.out];omega
  have RT:Hid (∀ A' c' w5,ItAt w5 (x+1) (itR b).kind (.slice A' k c') (sB (itR b).m) (.slice B (itR b).C.length c2) (itR b).al→TOwnB w5 D (.slice A' k c') (b.take k)→Dec w0 D S w5 k p nd' d n→(∀ B u L,OwnT w4 B u L→OwnT w5 B u L)→
    RetDIt w0 D S b (.returned (.agg #[.int .i64 (itR b).kind,.slice A' k c',.string (sB (itR b).m),.slice B (itR b).C.length c2,.bool (itR b).al])) w5):=fun A' c' w5 g1 g2 g3 g4=>by
   refine ⟨⟨A',c',B,c2,?_,?_,g4 _ _ _ O4.out⟩,k,p,nd',d,n,g3,fun h=>absurd h H4.out⟩
   ·rw [HR.out,LK.out]
   ·rw [HR.out,LK.out];exact g2
  obtain ⟨kind,hkind⟩:∃ z,(itR b).kind=z:=⟨_,rfl⟩
  obtain ⟨m,hm⟩:∃ z,(itR b).m=z:=⟨_,rfl⟩
  obtain ⟨lc,hlc⟩:∃ z,(itR b).C.length=z:=⟨_,rfl⟩
  obtain ⟨al,hal⟩:∃ z,(itR b).al=z:=⟨_,rfl⟩
  rw [hkind,hm,hlc,hal] at C2 RT hw4
  simp only [hkind,hm,hlc,hal]
  clear C1 CM CI h1 hO hraw X3 K I3 P3 i1 i2 i6 P4 X4 O4 HR H4 I2 P2 p0
  go_wp2
  refine leaves_cons (f:=64) (args:=#[.pointer (some ⟨x+1,0,none⟩),.pointer (some ⟨x,0,none⟩)]) (by simp) (by simp [go_sem]) ?_
  refine C2.mono ?_
  rintro e u' w5 ⟨rfl,rfl,A',c',g1,g2,g3,g4⟩
  obtain ⟨j0,j1,j2,j3,j4,j5⟩:=g1.cells
  have F:=Lib.hid (RT.out A' c' w5 g1 g2 g3 g4)
  clear g1 g2 g3 g4 C2 RT
  simp [Leaves,settle,results,Tryz.results46,go_sem,j0,j1,j2,j3,j4]
  exact F.out
 ·have I3:ItAt w3 (x+1) _ _ _ _ _:=K.blk I2.out (by omega)
  have P3:PtD w3 x D:=K.blk P2.out (by omega)
  have C2:=CM.out w3 _ (Nat.le_refl _) p _ d n X3 (x+1) x (by omega) hDx P3 _ _ _ _ _ I3
  have HII:=Lib.hid hi
  clear C1 CM CI X3 K I3 P3 hi I2 P2 p0
  refine leaves_cons (f:=64) (args:=#[.pointer (some ⟨x+1,0,none⟩),.pointer (some ⟨x,0,none⟩)]) (by simp) (by simp [go_sem]) ?_
  refine C2.mono ?_
  rintro e u' w5 ⟨rfl,rfl,A',c',g1,g2,g3⟩
  obtain ⟨j0,j1,j2,j3,j4,j5⟩:=g1.cells
  have F:Hid (RetDIt w0 D S b (.returned (.agg #[.int .i64 4,.slice A' l c',.string ⟨#[]⟩,.slice none 0 0,.bool false])) w5):=by
   have hT:b.take l=b:=by rw [← HL.out,List.take_length]
   rw [hT] at g2
   refine ⟨⟨A',c',none,0,?_,?_,?_⟩,_,p,_,d,n,g3,fun _=>rfl⟩
   ·rw [HII.out];simp only [iteO,HL.out];rfl
   ·rw [HII.out];simp only [iteO,HL.out];exact g2
   ·rw [HII.out];exact ownT_nil _ _
  clear g1 g2 g3 C2
  simp [Leaves,settle,results,Tryz.results46,go_sem,j0,j1,j2,j3,j4]
  exact F.out
end Go.Proofs.YtmnleknehjkmgaaGreatDoor
namespace Go.Proofs.YtmnleknehjkmgaaGreatDoor
open Go.RowKit Go.Shelf
attribute [local go_sem] Oper.semAt_some
def itP (b:Str):Ite:=if b=[] then ⟨0,[],[],[],false⟩ else itR b
theorem itP_ne {b:Str} (h:b≠[]):itP b=itR b:=if_neg h
theorem dh_of {w w1:World} {b:Str} {A:Option Addr} {cap l:Nat} (hl:b.length=l) (hc:l≤cap) (hcm:cap≤maxLen) (hl2:l≤100000) (H:BytesAt w A b) (hb:Below w.heap.size w w1):DH w1 w1.heap.size b A l cap:=⟨hl,hl2,Nat.le_refl _,H.below hb,hc,hcm⟩
theorem dfirst_any (b:Str) (A:Option Addr) (cap l:Nat) (hl:b.length=l) (hc:l≤cap) (hcm:cap≤maxLen) (hl2:l≤100000) (w:World) (H:BytesAt w A b) (hM:MaxAt w) :
  Calls Tryz.prog 31 #[.slice A l cap] w (RetIt w (itP b)):=by
 obtain ⟨n,hn⟩:∃ z,w.heap.size=z:=⟨_,rfl⟩
 obtain ⟨w0,hw0,I0,y0,z0⟩:=it_start w n hn
 have HN:=Lib.hid hn
 have HL:=Lib.hid hl
 by_cases hb:b=[]
 ·have HP:Hid (itP b=⟨0,[],[],[],false⟩):=if_pos hb
  obtain rfl:l=0:=by rw [← hl,hb];rfl
  obtain ⟨w1,hw1,i1,i2,i3,i4,i5,i6⟩:=I0.put 0 (.slice none 0 0) ⟨#[]⟩ (.slice none 0 0) false
  obtain ⟨k0,k1,k2,k3,k4,k5⟩:=I0.cells
  obtain ⟨j0,j1,j2,j3,j4,j5⟩:=i1.cells
  have F:=Lib.hid (retIt_put (w:=w) (w1:=w0) (w2:=w1) (x:=⟨0,[],[],[],false⟩) (A:=none) (B:=none) (c:=0) (c2:=0) hn (by rw [← hn];exact y0) I0.lt (townB_nil _ _) (ownT_nil _ _) ⟨i2,i4,i5⟩)
  clear H hM hl hb I0 y0 i1 i2 i3 i4 i5 i6
  go_enter Tryz.func31,Tryz.ntmps31
  go_wp2
  refine bodyPost_ret (v:=.agg #[.int .i64 0,.slice none 0 0,.string ⟨#[]⟩,.slice none 0 0,.bool false]) ?_ rfl ?_
  ·simp [results,Tryz.results31,go_sem,j0,j1,j2,j3,j4]
  ·rw [HP.out];exact F.out
 ·have HP:Hid (itP b=itR b):=if_neg hb
  have h1:1≤l:=by rw [← hl];cases b;exact absurd rfl hb;simp
  have ND:=newDec_any b A l cap w0
  have DD:=Lib.hid (dh_of hl hc hcm hl2 H y0)
  have M0:=Lib.hid (hM.below y0)
  have IT:=Lib.hid (fun w1 X=>ditem_any DD.out M0.out (w:=w1) (nd:=0) X)
  have I0:=Lib.hid I0
  have Y0:=Lib.hid y0
  clear H hM hl hc hcm hb y0
  go_enter Tryz.func31,Tryz.ntmps31
  go_wp2_with fail
  refine ND.mono ?_
  rintro e w1 ⟨rfl,X1,hb1⟩
  rw [z0] at X1 ⊢
  have IT1:=IT.out w1 (by rw [z0];exact X1)
  rw [z0] at IT1
  clear ND hb1 X1 IT DD M0
  go_wp2_with fail
  refine IT1.mono ?_
  rintro e w2 ⟨⟨A',c',B,c2,rfl,hO,hT⟩,k,p,nd,d,m,X2,-⟩
  have B2:=X2.bel
  have I2:ItAt w2 n _ _ _ _ _:=(B2.block n (by omega)).trans I0.out
  obtain ⟨w3,hw3,i1,i2,i3,i4,i5,i6⟩:=I2.put (itR b).kind (.slice A' (itR b).raw.length c') (sB (itR b).m) (.slice B (itR b).C.length c2) (itR b).al
  obtain ⟨k0,k1,k2,k3,k4,k5⟩:=I2.cells
  obtain ⟨j0,j1,j2,j3,j4,j5⟩:=i1.cells
  have F:=Lib.hid (retIt_put (w:=w) (w1:=w2) (w2:=w3) (x:=itR b) HN.out ((show Below n w w0 by rw [← HN.out];exact Y0.out).trans (B2.mono (by omega))) I2.lt hO hT ⟨i2,i4,i5⟩)
  clear IT1 hO hT X2 B2 I2 i1 i2 i3 i4 i5 i6 I0 Y0
  go_wp2
  refine bodyPost_ret (v:=.agg #[.int .i64 (itR b).kind,.slice A' (itR b).raw.length c',.string (sB (itR b).m),.slice B (itR b).C.length c2,.bool (itR b).al]) ?_ rfl ?_
  ·simp [results,Tryz.results31,go_sem,j0,j1,j2,j3,j4]
  ·rw [HP.out];exact F.out
end Go.Proofs.YtmnleknehjkmgaaGreatDoor
namespace Go.Proofs.YtmnleknehjkmgaaGreatDoor
open Go.RowKit Go.Shelf
attribute [local go_sem] Oper.semAt_some
attribute [local irreducible] Go.Mixed.wpMixT
attribute [local irreducible] Go.Mixed.wpMix
theorem isame2_any (s1 s2:ByteArray) (A1 A2:Option Addr) (c1 c2 n1 n2:Nat) (L1 L2:List Tr) (hn1:L1.length=n1) (hn2:L2.length=n2) (h1:n1≤1000) (h2:n2≤1000) (w:World) (H1:OpsP w A1 L1) (H2:OpsP w A2 L2) :
  Calls Tryz.prog 41 #[.agg #[.string s1,.slice A1 n1 c1],.agg #[.string s2,.slice A2 n2 c2]] w fun e w'=>e=.returned (.bool (decide (s1=s2)&&decide (L1=L2)))∧Below w.heap.size w w':=by
 have hal:Below w.heap.size w ((w.alloc (.cells #[.string s1,.slice A1 n1 c1] 26)).alloc (.cells #[.string s2,.slice A2 n2 c2] 26)):=((Below.refl _ _).alloc (Nat.le_refl _) _).alloc (by simp) _
 have eq:=equalO_any A1 A2 c1 c2 L1 L2 (by unfold maxLen;omega) (by unfold maxLen;omega) _ (H1.below hal) (H2.below hal)
 rw [hn1,hn2] at eq
 have EQ:=Lib.hid eq
 have B0:=Lib.hid hal
 obtain ⟨b,hb⟩:∃ b,decide (L1=L2)=b:=⟨_,rfl⟩
 rw [hb] at EQ
 rw [hb]
 clear H1 H2 hal hn1 hn2 hb eq
 by_cases hs:s1=s2
 ·subst hs
  have hq:=strB_eq s1
  rw [decide_eq_true rfl,Bool.true_and]
  go_enter Tryz.func41,Tryz.ntmps41
  go_wp2_with fail
  refine EQ.out.mono ?_
  rintro e w1 ⟨rfl,hb⟩
  have B1:=Lib.hid (B0.out.trans (hb.mono B0.out.size))
  clear hb
  go_wp2
  go_ret
  exact ⟨rfl,B1.out⟩
 ·have hq:=strB_ne hs
  rw [decide_eq_false hs,Bool.false_and]
  clear hs EQ
  go_enter Tryz.func41,Tryz.ntmps41
  go_wp2
  go_ret
  exact ⟨rfl,B0.out⟩
theorem OpsP.put_ins {w:World} {A:Option Addr} {L:List Tr} (h:OpsP w A L) {c:Nat} {s:ByteArray} {Ai:Option Addr} {n cap:Nat} (hc:w.heap[c]?=some (.cells #[.string s,.slice Ai n cap] 26 (0,0))) (j:Nat) (u:Value):OpsP (w.setCell ⟨c,j,none⟩ u) A L:=by
 rcases h with rfl | ⟨g,off,rfl,hh⟩
 ·exact .inl rfl
 ·refine .inr ⟨g,off,rfl,fun k hk=>?_⟩
  obtain ⟨h1,h2,h3⟩:=hh k hk
  have hne:g≠c:=by
   rintro rfl
   rw [Lib.cell_of_heap hc] at h1
   have h9:=(Array.getElem?_eq_some_iff.1 h1).1
   have:off+k*3=0∨off+k*3=1:=by simp at h9;omega
   rcases this with e | e
   ·rw [e] at h1;cases h1
   ·rw [e] at h1;cases h1
  have e:∀ (p:Nat) (v:Value),w.cell? ⟨g,p,none⟩=some v→(w.setCell ⟨c,j,none⟩ u).cell? ⟨g,p,none⟩=some v:=fun p v hp=>(World.cell?_of_block (a:=⟨g,p,none⟩) (heap_setCell_other w ⟨c,j,none⟩ g u hne)).trans hp
  exact ⟨e _ _ h1,e _ _ h2,e _ _ h3⟩
end Go.Proofs.YtmnleknehjkmgaaGreatDoor
namespace Go.Proofs.YtmnleknehjkmgaaGreatDoor
open Go.RowKit Go.Shelf
attribute [local go_sem] Oper.semAt_some
end Go.Proofs.YtmnleknehjkmgaaGreatDoor
namespace Go.Proofs.YtmnleknehjkmgaaGreatDoor
open Go.RowKit Go.Shelf
attribute [local go_sem] Oper.semAt_some
attribute [local irreducible] Go.Mixed.wpMix
def RetDAt (w:World) (b:Str) (at_:Int) (e:Ending) (w':World):Prop:=
 ((at_<0∨(b.length:Int)≤at_)∧e=.returned (.tuple #[.agg #[.int .i64 0,.slice none 0 0,.string ⟨#[]⟩,.slice none 0 0,.bool false],.int .i64 0,.bool false])∧Below w.heap.size w w')∨
 (∃ k:Nat,at_=k∧k<b.length∧∃ A c B c2,e=.returned (.tuple #[.agg #[.int .i64 (itR (b.drop k)).kind,.slice A (itR (b.drop k)).raw.length c,.string (sB (itR (b.drop k)).m),.slice B (itR (b.drop k)).C.length c2,.bool (itR (b.drop k)).al],.int .i64 ((k+(itR (b.drop k)).raw.length:Nat):Int),.bool true])∧
  TOwnB w' w.heap.size (.slice A (itR (b.drop k)).raw.length c) (itR (b.drop k)).raw∧OwnT w' w.heap.size (.slice B (itR (b.drop k)).C.length c2) (itR (b.drop k)).C∧Below w.heap.size w w')
theorem raw_le (b:Str):(itR b).raw.length≤b.length:=by
 unfold itR
 split
 ·exact Nat.le_refl _
 ·split
  ·split
   ·show (b.take 1).length≤_;rw [List.length_take];omega
   ·show (b.take 2).length≤_;rw [List.length_take];omega
  ·split
   ·exact Nat.le_refl _
   ·show (b.take _).length≤_;rw [List.length_take];omega
theorem drop_at2 {w:World} {g off:Nat} {xs:Str} (h:BytesAt w (some ⟨g,off,none⟩) xs) (k:Nat):BytesAt w (some ⟨g,off+k,none⟩) (xs.drop k):=by
 rcases h with rfl | ⟨b,o,e,hc⟩
 ·exact .inl (by simp)
 ·simp only [Option.some.injEq,Addr.mk.injEq] at e
  obtain ⟨rfl,rfl,-⟩:=e
  refine .inr ⟨g,off+k,rfl,fun j hj=>?_⟩
  rw [List.length_drop] at hj
  rw [List.getElem_drop,Nat.add_assoc]
  exact hc (k+j) (by omega)
theorem dat_any (b:Str) (A:Option Addr) (cap l:Nat) (hl:b.length=l) (hc:l≤cap) (hcm:cap≤maxLen) (hl2:l≤100000) (w:World) (H:BytesAt w A b) (hM:MaxAt w) (at_:Int) :
  Calls Tryz.prog 23 #[.slice A l cap,.int .i64 at_] w (RetDAt w b at_):=by
 obtain ⟨n,hn⟩:∃ z,w.heap.size=z:=⟨_,rfl⟩
 obtain ⟨w0,hw0,I0,y0,z0⟩:=it_start w n hn
 have HN:=Lib.hid hn
 have HL:=Lib.hid hl
 by_cases hout:at_<0∨(l:Int)≤at_
 ·obtain ⟨w1,hw1,i1,i2,i3,i4,i5,i6⟩:=I0.put 0 (.slice none 0 0) ⟨#[]⟩ (.slice none 0 0) false
  obtain ⟨k0,k1,k2,k3,k4,k5⟩:=I0.cells
  obtain ⟨j0,j1,j2,j3,j4,j5⟩:=i1.cells
  have F:Hid (RetDAt w b at_ (.returned (.tuple #[.agg #[.int .i64 0,.slice none 0 0,.string ⟨#[]⟩,.slice none 0 0,.bool false],.int .i64 0,.bool false])) w1):=.inl ⟨by rw [hl];exact hout,rfl,y0.trans (by rw [hn];exact i2)⟩
  have hh:decide (at_<0)=true∨(decide (at_<0)=false∧decide ((l:Int)≤at_)=true):=by
   by_cases h:at_<0
   ·exact .inl (decide_eq_true h)
   ·exact .inr ⟨decide_eq_false h,decide_eq_true (by omega)⟩
  have hx:at_<0∨(¬at_<0∧at_≥(l:Int)):=by omega
  clear H hM hl I0 y0 i1 i2 i3 i4 i5 i6 hout
  rcases hx with t1 | ⟨t1,t2⟩
  ·clear hh
   go_enter Tryz.func23,Tryz.ntmps23
   go_wp2
   refine bodyPost_ret (v:=.tuple #[.agg #[.int .i64 0,.slice none 0 0,.string ⟨#[]⟩,.slice none 0 0,.bool false],.int .i64 0,.bool false]) ?_ rfl F.out
   simp [results,Tryz.results23,go_sem,j0,j1,j2,j3,j4]
  ·clear hh
   go_enter Tryz.func23,Tryz.ntmps23
   go_wp2
   refine bodyPost_ret (v:=.tuple #[.agg #[.int .i64 0,.slice none 0 0,.string ⟨#[]⟩,.slice none 0 0,.bool false],.int .i64 0,.bool false]) ?_ rfl F.out
   simp [results,Tryz.results23,go_sem,j0,j1,j2,j3,j4]
 ·obtain ⟨k,rfl⟩:∃ k:Nat,at_=k:=⟨at_.toNat,by omega⟩
  have hkl:k<l:=by omega
  obtain ⟨g,off,rfl,-⟩:=H.cellAt (j:=k) (by omega)
  have hne:b.drop k≠[]:=fun e=>by
   have:=congrArg List.length e
   rw [List.length_drop,hl] at this
   simp at this
   omega
  have hdl:(b.drop k).length=l - k:=by rw [List.length_drop,hl]
  have FI:=dfirst_any (b.drop k) (some ⟨g,off+k,none⟩) (cap - k) (l - k) hdl (by omega) (by omega) (by omega) w0 ((drop_at2 H k).below y0) (hM.below y0)
  rw [itP_ne hne] at FI
  have hrl:=raw_le (b.drop k)
  rw [hdl] at hrl
  have RT:Hid (∀ e w',(∃ A c B c2,e=.returned (.tuple #[.agg #[.int .i64 (itR (b.drop k)).kind,.slice A (itR (b.drop k)).raw.length c,.string (sB (itR (b.drop k)).m),.slice B (itR (b.drop k)).C.length c2,.bool (itR (b.drop k)).al],.int .i64 ((k+(itR (b.drop k)).raw.length:Nat):Int),.bool true])∧
   TOwnB w' w.heap.size (.slice A (itR (b.drop k)).raw.length c) (itR (b.drop k)).raw∧OwnT w' w.heap.size (.slice B (itR (b.drop k)).C.length c2) (itR (b.drop k)).C∧Below w.heap.size w w')→RetDAt w b k e w'):=fun e w' h=>.inr ⟨k,rfl,by rw [hl];exact hkl,h⟩
  obtain ⟨x,hx⟩:∃ z,itR (b.drop k)=z:=⟨_,rfl⟩
  rw [hx] at FI RT hrl
  have I0:=Lib.hid I0
  have Y0:=Lib.hid y0
  have t1:¬((k:Int)<0):=by omega
  have t2:¬((k:Int)≥(l:Int)):=by omega
  clear H hM hl hdl hne y0 hx hout
  go_enter Tryz.func23,Tryz.ntmps23
  go_wp2_with fail
  refine FI.mono ?_
  rintro e w1 ⟨A',c',B,c2,rfl,hO,hT,hb⟩
  obtain ⟨y,w2,hy,hw2,S2,y2,z2⟩:=Fr.box (Fr.nil w1) #[.int .i64 x.kind,.slice A' x.raw.length c',.string (sB x.m),.slice B x.C.length c2,.bool x.al] 39
  have I2:ItAt w2 y x.kind (.slice A' x.raw.length c') (sB x.m) (.slice B x.C.length c2) x.al:=S2.out.1
  have In:ItAt w2 n 0 (.slice none 0 0) ⟨#[]⟩ (.slice none 0 0) false:=(I0.out.all hb).all y2
  obtain ⟨w3,hw3⟩:∃ z,w2.drew=z:=⟨_,rfl⟩
  have dq:Below w2.heap.size w2 w3:=by rw [← hw3];exact below_drewN w2 _ 1
  have I3:=Lib.hid (I2.all dq)
  have N3:=Lib.hid (In.all dq)
  have O3:=Lib.hid ((hO.below y2).below dq)
  have T3:=Lib.hid ((hT.below y2).below dq)
  have B3:Hid (Below n w w3):=(show Below n w w0 by rw [← HN.out];exact Y0.out).trans (((hb.trans (y2.mono hb.size)).trans (dq.mono (by have:=hb.size;omega))).mono (by omega))
  have hny:n<y:=by have h:=I0.out.lt;have:=hb.size;omega
  clear FI hO hT hb S2 y2 I2 In dq I0 Y0
  go_upto_region 4 with fail
  refine Mixed.wp_region_mixed (fun w'=>ItAt w' y x.kind (.slice A' x.raw.length c') (sB x.m) (.slice B x.C.length c2) x.al) 7 [(0,true),(1,true),(2,true),(3,true),(4,true),(5,true),(6,false)] (by kernel_rfl) (by kernel_rfl) (by rw [hw3];exact I3.out) ?_
  rw [hw3]
  clear hw3
  refine Mixed.mo rfl (.agg #[.int .i64 x.kind,.slice A' x.raw.length c',.string (sB x.m),.slice B x.C.length c2,.bool x.al]) (fun w h=>by obtain ⟨h0,h1,h2,h3,h4,h5⟩:=h.cells;clear h;go_simp;try rfl) ?_
  refine Mixed.mo rfl (.int .i64 (k:Int)) (fun w h=>by clear h;go_simp;try rfl) ?_
  refine Mixed.mo rfl (.pointer (some ⟨y,1,none⟩)) (fun w h=>by clear h;go_simp;try rfl) ?_
  refine Mixed.mo rfl (.slice A' x.raw.length c') (fun w h=>by obtain ⟨h0,h1,h2,h3,h4,h5⟩:=h.cells;clear h;go_simp;try rfl) ?_
  refine Mixed.mo rfl (.int .i64 (x.raw.length:Int)) (fun w h=>by clear h;go_simp;try rfl) ?_
  refine Mixed.mo rfl (.int .i64 ((k+x.raw.length:Nat):Int)) (fun w h=>by clear h;go_simp;rw [IntKind.wrap_i64];omega) ?_
  refine Mixed.wpMix_loud rfl ?_
  refine wpList_store_row rfl 39 _ _ rfl n #[.int .i64 x.kind,.slice A' x.raw.length c',.string (sB x.m),.slice B x.C.length c2,.bool x.al] rfl rfl _ _ N3.out (by kernel_rfl) (by kernel_rfl) (by kernel_rfl) ?_
  obtain ⟨w4,hw4⟩:∃ z,w3.setRow n #[.int .i64 x.kind,.slice A' x.raw.length c',.string (sB x.m),.slice B x.C.length c2,.bool x.al]=z:=⟨_,rfl⟩
  have i6:∀ k,k≠n→w4.heap[k]?=w3.heap[k]?:=fun k hk=>by rw [← hw4];exact setRow_other w3 n k _ hk
  have i2:Below n w3 w4:=by rw [← hw4];exact below_setRow (Below.refl n w3) (Nat.le_refl _) _
  have i1:ItAt w4 n x.kind (.slice A' x.raw.length c') (sB x.m) (.slice B x.C.length c2) x.al:=by rw [← hw4];exact setRow_heap w3 n _ _ 39 (0,0) N3.out
  have I4:ItAt w4 y x.kind (.slice A' x.raw.length c') (sB x.m) (.slice B x.C.length c2) x.al:=(i6 y (by omega)).trans I3.out
  have F:=Lib.hid (RT.out _ w4 ⟨A',c',B,c2,rfl,(it_ownB N3.out O3.out i6).lift (by omega),row_mono (it_ownT N3.out T3.out i6) (by omega),by rw [HN.out];exact B3.out.trans i2⟩)
  rw [hw4]
  obtain ⟨j0,j1,j2,j3,j4,j5⟩:=i1.cells
  clear hw4 i1 i2 i6 I3 N3 O3 T3 B3 RT
  refine ⟨I4,?_⟩
  clear I4
  simp only [Mixed.wpMix,List.drop_succ_cons,List.drop_zero]
  go_wp2
  refine bodyPost_ret (v:=.tuple #[.agg #[.int .i64 x.kind,.slice A' x.raw.length c',.string (sB x.m),.slice B x.C.length c2,.bool x.al],.int .i64 ((k+x.raw.length:Nat):Int),.bool true]) ?_ rfl F.out
  simp [results,Tryz.results23,go_sem,j0,j1,j2,j3,j4]
end Go.Proofs.YtmnleknehjkmgaaGreatDoor
