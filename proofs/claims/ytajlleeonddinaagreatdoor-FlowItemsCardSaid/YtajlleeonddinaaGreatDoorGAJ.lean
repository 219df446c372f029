/-
  EvG, EvH, TbT, TbU, TbZ, RkA.
-/
import Derived.Test.YtajlleeonddinaaGreatDoorGAI
import Derived.Test.YtajlleeonddinaaGreatDoorGAE
import Derived.Test.YtajlleeonddinaaGreatDoorGAB
import Derived.Deep.DeepCutAuto
import Derived.Deep.Cut
import Derived.StillTail
import Derived.StillTailTactics
import Derived.Deep.RegionHeld3
import Derived.RegionTactic
set_option linter.all false
set_option maxRecDepth 100000
set_option maxHeartbeats 4000000
namespace Go.Ev
open Go Go.RowKit
theorem look_append {α:Type}:∀ (d t:List (Nat×α)) (k:Nat),look (d++t) k=match look d k with | some x=>some x | none=>look t k
 | [],t,k=>rfl
 | (j,x) :: d,t,k=>by
  rw [List.cons_append,look_cons,look_cons]
  split
  ·rfl
  ·exact look_append d t k
structure SR (nt:Nat) (ρ:Ren) (T:Tm) (a:Act):Prop where
 tr:TR ρ T a
 size:a.tmps.size=nt
 defers:a.defers=[]
theorem SR.ext {nt:Nat} {ρ ρ':Ren} {T:Tm} {a:Act} (h:SR nt ρ T a) (e:Ext ρ ρ'):SR nt ρ' T a:=⟨h.tr.ext e,h.size,h.defers⟩
theorem SR.put {nt:Nat} {ρ:Ren} {T:Tm} {a:Act} (h:SR nt ρ T a) {d:Nat} (hd:d<nt) {x:AV} {v:Value} (hx:x.rel ρ v):SR nt ρ ((d,some x) :: T) (a.put (some d) v):=by
 refine ⟨fun t y hy=>?_,by simp [Act.put,h.size],h.defers⟩
 rw [look_cons] at hy
 have hs:=h.size
 split at hy
 ·rename_i e
  subst e
  cases hy
  have:(a.put (some d) v).tmps.getD d undef=v:=by simp [Act.put,Array.getD_eq_getD_getElem?,hs,hd]
  rw [this];exact hx
 ·rename_i e
  have:(a.put (some d) v).tmps.getD t undef=a.tmps.getD t undef:=by simp [Act.put,Array.getD_eq_getD_getElem?,Array.getElem?_setIfInBounds_ne e]
  rw [this];exact h.tr t y hy
theorem SR.drop {nt:Nat} {ρ:Ren} {T:Tm} {a:Act} (h:SR nt ρ T a) (d:Nat) (v:Value):SR nt ρ ((d,none) :: T) (a.put (some d) v):=by
 refine ⟨fun t y hy=>?_,by simp [Act.put,h.size],h.defers⟩
 rw [look_cons] at hy
 split at hy
 ·cases hy
 ·rename_i e
  have:(a.put (some d) v).tmps.getD t undef=a.tmps.getD t undef:=by simp [Act.put,Array.getD_eq_getD_getElem?,Array.getElem?_setIfInBounds_ne e]
  rw [this];exact h.tr t y hy
def wantA (ops:Array Oper) (T:Tm) (o:Oper):Option Bool:=match o.guard with
 | none=>some true
 | some (j,want)=>match ops[j]? with
  | some oj=>match oj.dst with
   | some d=>match opc T (.tmp d) with
    | some (.bool b)=>some (b == want)
    | _=>none
   | none=>none
  | none=>none
theorem want_rel {ρ:Ren} {T:Tm} {a:Act} (hT:TR ρ T a) {ops:Array Oper} {o:Oper} {b:Bool} (h:wantA ops T o=some b):Region.wanted o (yielded ops a.tmps)=b:=by
 unfold wantA at h
 unfold Region.wanted
 split at h
 ·rename_i hg;rw [hg];cases h;rfl
 ·rename_i j want hg
  rw [hg]
  split at h
  ·rename_i oj hj
   split at h
   ·rename_i d hd
    split at h
    ·rename_i c hc
     cases h
     have hv:a.tmps.getD d undef=.bool c:=opc_rel hT hc
     have hv':a.tmps[d]?=some (.bool c):=by
      rw [Array.getD_eq_getD_getElem?] at hv
      cases e:a.tmps[d]? with
      | none=>rw [e] at hv;cases hv
      | some u=>rw [e] at hv;exact congrArg some hv
     have hy:yielded ops a.tmps j=some c:=by simp [yielded,hj,hd,hv']
     simp only [hy]
     rfl
    ·cases h
   ·cases h
  ·cases h
def callOf (o:Oper):Option (FuncId×List Operand):=match o.op with
 | .call ⟨.value (.func f),args,_⟩=>some (f,args.toList)
 | _=>none
def argsA (T:Tm):List Operand→Option (List A1)
 | []=>some []
 | x :: t=>match op1 T x,argsA T t with
  | some v,some l=>some (v :: l)
  | _,_=>none
theorem argsA_rel {ρ:Ren} {T:Tm} {a:Act} (h:TR ρ T a):∀ {l:List Operand} {vs:List A1},argsA T l=some vs→R1 ρ vs (l.map a.eval)
 | [],vs,e=>by cases e;rfl
 | x :: t,vs,e=>by
  simp only [argsA] at e
  split at e
  ·rename_i v l' h1 h2
   cases e
   exact ⟨_,_,rfl,op1_rel h h1,argsA_rel h h2⟩
  ·cases e
def putA (nt:Nat) (dst:Option Tmp) (v:AV):Option Tm:=match dst with
 | none=>some []
 | some d=>match Nat.blt d nt with
  | true=>some [(d,some v)]
  | false=>none
theorem SR.putA {nt:Nat} {ρ:Ren} {T e:Tm} {a:Act} (h:SR nt ρ T a) {dst:Option Tmp} {x:AV} {v:Value} (he:putA nt dst x=some e) (hx:x.rel ρ v):SR nt ρ (e++T) (a.put dst v):=by
 unfold Ev.putA at he
 split at he
 ·cases he;exact h
 ·split at he
  ·rename_i d hd;cases he;exact h.put (Nat.le_of_ble_eq_true hd) hx
  ·cases he
abbrev Caller:=FuncId→List A1→Hp→Nat→Option (AV×Hp)
def evStep (call:Caller) (P:Program) (nt:Nat) (ops:Array Oper) (T:Tm) (σ:Hp) (i nm:Nat):Option (Tm×Hp):=match ops[i]? with
 | none=>none
 | some o=>match wantA ops T o with
  | none=>none
  | some false=>match o.dst with
   | some d=>some ([(d,none)],[])
   | none=>some ([],[])
  | some true=>match callOf o with
   | some (f,args)=>match argsA T args with
    | some vs=>match call f vs σ nm with
     | some (v,δ)=>match putA nt o.dst v with
      | some e=>some (e,δ)
      | none=>none
     | none=>none
    | none=>none
   | none=>match evOp P T σ nm o with
    | some (some v,δ)=>match putA nt o.dst v with
     | some e=>some (e,δ)
     | none=>none
    | some (none,δ)=>match o.dst with
     | none=>some ([],δ)
     | some _=>none
    | none=>none
def CallOK (P:Program) (w0:World) (call:Caller):Prop:=∀ f vs σ nm v δ,call f vs σ nm=some (v,δ)→(∀ args w,(callFunc f args).run P w=.ok (.enter f args) w)∧∀ ρ w us,HR w0 ρ σ w→R1 ρ vs us→
 Calls P f us.toArray w fun e w'=>∃ u ρ',e=.returned u∧Ext ρ ρ'∧v.rel ρ' u∧HR w0 ρ' (δ++σ) w'
section
variable {P:Program} {w0:World} {call:Caller} {nt:Nat} {ops:Array Oper}
theorem evStep_wp (hC:CallOK P w0 call) {T e:Tm} {σ δ:Hp} {i nm:Nat} (h:evStep call P nt ops T σ i nm=some (e,δ)) {ρ:Ren} {a:Act} {w:World} (hS:SR nt ρ T a) (hs:HR w0 ρ σ w) {Q:Exit→Act→World→Prop} {K:Act→World→Prop}
  (hK:∀ ρ' a' w',Ext ρ ρ'→SR nt ρ' (e++T) a'→HR w0 ρ' (δ++σ) w'→K a' w'):wpOp P ops Q i K a w:=by
 unfold evStep at h
 split at h
 ·cases h
 ·rename_i o ho
  unfold wpOp
  rw [ho]
  simp only
  split at h
  ·cases h
  ·rename_i hw
   rw [want_rel hS.tr hw]
   simp only [Bool.false_eq_true,if_false]
   split at h
   ·rename_i d hd
    cases h
    rw [hd]
    exact hK ρ _ _ (Ext.refl _) (hS.drop d undef) hs
   ·rename_i hd
    cases h
    rw [hd]
    exact hK ρ _ _ (Ext.refl _) hS hs
  ·rename_i hw
   rw [want_rel hS.tr hw]
   simp only [if_true]
   refine .inl ?_
   unfold Oper.wp
   split at h
   ·rename_i f args hco
    split at h
    ·rename_i vs hvs
     split at h
     ·rename_i v δ' hcall
      split at h
      ·rename_i e' hput
       cases h
       obtain ⟨hent,hcl⟩:=hC f vs σ nm v δ hcall
       unfold callOf at hco
       split at hco
       ·rename_i f' args' ts hop
        cases hco
        have hrun:(execOp a.eval o).run P w=.ok (.enter f (args'.toList.map a.eval).toArray) w:=by
         simp only [execOp,hop,resolve,Deferred.ofValue,Act.eval,invoke,Sem.run_bind,Sem.run_pure,Result.andThen_ok,hent]
         simp
         exact Array.ext' (by simp)
        rw [hrun]
        refine (hcl ρ w _ hs (argsA_rel hS.tr hvs)).mono ?_
        rintro en w' ⟨u,ρ',rfl,k1,k2,k3⟩
        exact hK ρ' _ _ k1 ((hS.ext k1).putA hput k2) k3
       ·cases hco
      ·cases h
     ·cases h
    ·cases h
   ·split at h
    ·rename_i v δ' hev
     split at h
     ·rename_i e' hput
      cases h
      obtain ⟨n,w',ρ',k1,k2,k3,u,rfl,k4⟩:=evOp_res hs hS.tr hev
      rw [k1]
      exact hK ρ' _ _ k2 ((hS.ext k2).putA hput k4) k3
     ·cases h
    ·rename_i δ' hev
     split at h
     ·rename_i hd
      cases h
      obtain ⟨n,w',ρ',k1,k2,k3,k4⟩:=evOp_res hs hS.tr hev
      have k4:n=.skip:=k4
      subst k4
      rw [k1]
      show K (a.put o.dst undef) w'
      rw [hd]
      exact hK ρ' _ _ k2 (hS.ext k2) k3
     ·cases h
    ·cases h
def evSeq (call:Caller) (P:Program) (nt:Nat) (ops:Array Oper) (T:Tm) (σ:Hp) (nm:Nat):List Nat→Tm→Hp→Option (Tm×Hp)
 | [],e,δ=>some (e,δ)
 | i :: rest,e,δ=>match evStep call P nt ops (e++T) (δ++σ) i (nm+i) with
  | some (e1,δ1)=>evSeq call P nt ops T σ nm rest (e1++e) (δ1++δ)
  | none=>none
theorem evSeq_wp (hC:CallOK P w0 call) {T:Tm} {σ:Hp} {nm:Nat} {ρ0:Ren} {Q:Exit→Act→World→Prop} {e':Tm} {δ':Hp} (hQ:∀ ρ' a' w',Ext ρ0 ρ'→SR nt ρ' (e'++T) a'→HR w0 ρ' (δ'++σ) w'→Q .normal a' w') :
  ∀ (l:List Nat) (e:Tm) (δ:Hp),evSeq call P nt ops T σ nm l e δ=some (e',δ')→∀ (ρ:Ren) (a:Act) (w:World),Ext ρ0 ρ→SR nt ρ (e++T) a→HR w0 ρ (δ++σ) w→wpOps P ops Q l a w
 | [],e,δ,h,ρ,a,w,h0,hS,hs=>by
  cases h
  exact hQ ρ a w h0 hS hs
 | i :: rest,e,δ,h,ρ,a,w,h0,hS,hs=>by
  simp only [evSeq] at h
  split at h
  ·rename_i e1 δ1 h1
   rw [wpOps_cons]
   refine evStep_wp hC h1 hS hs fun ρ' a' w' k1 k2 k3=>?_
   exact evSeq_wp hC hQ rest _ _ h ρ' a' w' (h0.trans k1) (by rw [List.append_assoc];exact k2) (by rw [List.append_assoc];exact k3)
  ·cases h
def maskArr (n m:Nat):Array Bool:=((List.range n).map fun i=>Nat.testBit m i).toArray
theorem maskArr_zero (n:Nat):maskArr n 0=Array.replicate n false:=by
 unfold maskArr
 apply Array.ext'
 simp only [Nat.zero_testBit,Array.toList_replicate]
 rw [List.map_const',List.length_range]
theorem maskArr_set (n m i:Nat):maskArr n (m ||| 2 ^ i)=(maskArr n m).setIfInBounds i true:=by
 unfold maskArr
 apply Array.ext
 ·simp
 ·intro j h1 h2
  have hj:j<n:=by simpa using h1
  simp only [List.getElem_toArray,List.getElem_map,List.getElem_range,Nat.testBit_or,Nat.testBit_two_pow,Array.getElem_setIfInBounds]
  by_cases e:i=j
  ·simp [e]
  ·simp [e]
def optB:Option AV→Option AV→Bool
 | some x,some y=>x.eqb y
 | none,none=>true
 | _,_=>false
theorem optB_eq {x y:Option AV} (h:optB x y=true):x=y:=by
 cases x <;> cases y <;> simp only [optB] at h
 ·rfl
 ·cases h
 ·cases h
 ·rw [AV.eqb_eq h]
def optN:Option Nat→Option Nat→Bool
 | some x,some y=>Nat.beq x y
 | none,none=>true
 | _,_=>false
def aoB (x y:AO):Bool:=Nat.beq x.t y.t&&(cellsB x.c y.c&&optN x.s y.s)
theorem aoB_eq {x y:AO} (h:aoB x y=true):x=y:=by
 obtain ⟨t,c,s⟩:=x
 obtain ⟨t',c',s'⟩:=y
 simp only [aoB,Bool.and_eq_true] at h
 have h1:t=t':=Nat.eq_of_beq_eq_true h.1
 have h2:s=s':=by
  have h3:=h.2.2
  cases s <;> cases s' <;> simp only [optN] at h3
  ·rfl
  ·cases h3
  ·cases h3
  ·rw [Nat.eq_of_beq_eq_true h3]
 rw [h1,cellsB_eq h.2.1,h2]
def sameAt {α:Type} (eq:α→α→Bool) (d1 d2:List (Nat×α)):List (Nat×α)→Bool
 | []=>true
 | (k,_) :: t=>(match look d1 k,look d2 k with
  | some x,some y=>eq x y
  | none,none=>true
  | _,_=>false)&&sameAt eq d1 d2 t
theorem sameAt_look {α:Type} {eq:α→α→Bool} (he:∀ x y,eq x y=true→x=y) {d1 d2:List (Nat×α)}:∀ {l:List (Nat×α)},sameAt eq d1 d2 l=true→∀ k,(look l k).isSome=true→look d1 k=look d2 k
 | [],_,k,h=>by cases h
 | (j,x) :: t,h,k,hk=>by
  simp only [sameAt,Bool.and_eq_true] at h
  rw [look_cons] at hk
  split at hk
  ·rename_i e
   subst e
   have h1:=h.1
   split at h1
   ·rename_i u v e1 e2;rw [e1,e2,he u v h1]
   ·rename_i e1 e2;rw [e1,e2]
   ·cases h1
  ·exact sameAt_look he h.2 k hk
def sameL {α:Type} (eq:α→α→Bool) (d1 d2:List (Nat×α)):Bool:=sameAt eq d1 d2 d1&&sameAt eq d1 d2 d2
theorem sameL_look {α:Type} {eq:α→α→Bool} (he:∀ x y,eq x y=true→x=y) {d1 d2:List (Nat×α)} (h:sameL eq d1 d2=true) (k:Nat):look d1 k=look d2 k:=by
 simp only [sameL,Bool.and_eq_true] at h
 cases e1:look d1 k with
 | some x=>rw [← e1];exact sameAt_look he h.1 k (by rw [e1];rfl)
 | none=>
  cases e2:look d2 k with
  | some y=>rw [← e1,← e2];exact sameAt_look he h.2 k (by rw [e2];rfl)
  | none=>rfl
theorem SR.same {ρ:Ren} {T T':Tm} {a:Act} (h:SR nt ρ T a) (e:∀ k,look T k=look T' k):SR nt ρ T' a:=⟨fun t x hx=>h.tr t x ((e t).trans hx),h.size,h.defers⟩
theorem HR.same {ρ:Ren} {σ σ':Hp} {w:World} (h:HR w0 ρ σ w) (e:∀ k,look σ k=look σ' k):HR w0 ρ σ' w:=⟨h.below,fun b k hb=>by rw [← e b];exact h.dom b k hb,fun b o ho=>h.obj b o ((e b).trans ho),h.inj⟩
theorem look_same {α:Type} {d d' t:List (Nat×α)} (e:∀ k,look d k=look d' k) (k:Nat):look (d++t) k=look (d'++t) k:=by rw [look_append,look_append,e k]
abbrev Sts:=List (Nat×Tm×Hp)
def insL:Sts→Nat→Tm→Hp→Option Sts
 | [],m,e,δ=>some [(m,e,δ)]
 | (m',e',δ') :: t,m,e,δ=>match Nat.beq m m' with
  | true=>match sameL optB e' e&&sameL aoB δ' δ with
   | true=>some ((m',e',δ') :: t)
   | false=>none
  | false=>match insL t m e δ with
   | some t'=>some ((m',e',δ') :: t')
   | none=>none
def Cov (L:Sts) (m:Nat) (e:Tm) (δ:Hp):Prop:=∃ e' δ',(m,e',δ')∈L∧(∀ k,look e k=look e' k)∧∀ k,look δ k=look δ' k
theorem Cov.sub {L L':Sts} (h:∀ x∈L,x∈L') {m:Nat} {e:Tm} {δ:Hp} (k:Cov L m e δ):Cov L' m e δ:=by
 obtain ⟨e',δ',k1,k2⟩:=k
 exact ⟨e',δ',h _ k1,k2⟩
theorem insL_ok:∀ {L L':Sts} {m:Nat} {e:Tm} {δ:Hp},insL L m e δ=some L'→Cov L' m e δ∧∀ x∈L,x∈L'
 | [],L',m,e,δ,h=>by
  cases h
  exact ⟨⟨e,δ,List.mem_singleton.2 rfl,fun _=>rfl,fun _=>rfl⟩,fun x hx=>by cases hx⟩
 | (m',e',δ') :: t,L',m,e,δ,h=>by
  simp only [insL] at h
  split at h
  ·rename_i hm
   have hm:=Nat.eq_of_beq_eq_true hm
   subst hm
   split at h
   ·rename_i hsm
    simp only [Bool.and_eq_true] at hsm
    cases h
    exact ⟨⟨e',δ',List.mem_cons_self,fun k=>(sameL_look (fun x y=>optB_eq) hsm.1 k).symm,fun k=>(sameL_look (fun x y=>aoB_eq) hsm.2 k).symm⟩,fun x hx=>hx⟩
   ·cases h
  ·split at h
   ·rename_i t' ht
    cases h
    obtain ⟨k1,k2⟩:=insL_ok ht
    refine ⟨k1.sub fun x hx=>List.mem_cons_of_mem _ hx,fun x hx=>?_⟩
    rcases List.mem_cons.1 hx with rfl | hx
    ·exact List.mem_cons_self
    ·exact List.mem_cons_of_mem _ (k2 x hx)
   ·cases h
def evFrom (call:Caller) (P:Program) (nt:Nat) (ops:Array Oper) (T:Tm) (σ:Hp) (nm:Nat) (m:Nat) (e:Tm) (δ:Hp):List Nat→Sts→Option Sts
 | [],L=>some L
 | i :: rest,L=>match evStep call P nt ops (e++T) (δ++σ) i (nm+i) with
  | some (e1,δ1)=>match insL L (m ||| 2 ^ i) (e1++e) (δ1++δ) with
   | some L'=>evFrom call P nt ops T σ nm m e δ rest L'
   | none=>none
  | none=>none
theorem evFrom_ok {T:Tm} {σ:Hp} {nm m:Nat} {e:Tm} {δ:Hp}:∀ {l:List Nat} {L L':Sts},evFrom call P nt ops T σ nm m e δ l L=some L'→(∀ i∈l,∃ e1 δ1,evStep call P nt ops (e++T) (δ++σ) i (nm+i)=some (e1,δ1)∧Cov L' (m ||| 2 ^ i) (e1++e) (δ1++δ))∧∀ x∈L,x∈L'
 | [],L,L',h=>by
  cases h
  exact ⟨fun i hi=>by (cases hi),fun x hx=>hx⟩
 | i :: rest,L,L',h=>by
  simp only [evFrom] at h
  split at h
  ·rename_i e1 δ1 h1
   split at h
   ·rename_i L1 h2
    obtain ⟨k1,k2⟩:=insL_ok h2
    obtain ⟨k3,k4⟩:=evFrom_ok h
    refine ⟨fun j hj=>?_,fun x hx=>k4 x (k2 x hx)⟩
    rcases List.mem_cons.1 hj with rfl | hj
    ·exact ⟨e1,δ1,h1,k1.sub k4⟩
    ·exact k3 j hj
   ·cases h
  ·cases h
def freeS (ops:Array Oper) (i:Nat):Bool:=Region.noSelect ops&&Region.free .any ops (Array.replicate ops.size false) i
theorem freeS_free {i:Nat} (h:freeS ops i=true) (listed:Array Bool):Region.noSelect ops=true∧Region.free .any ops listed i=true:=by
 unfold freeS at h
 rw [Bool.and_eq_true] at h
 refine ⟨h.1,?_⟩
 have h2:=h.2
 unfold Region.free at h2 ⊢
 split at h2
 ·cases h2
 ·rename_i oi hi
  rw [List.all_eq_true] at h2 ⊢
  intro j hj
  have h3:=h2 j hj
  have hlt:j<ops.size:=List.mem_range.1 hj
  have e:(Array.replicate ops.size false).getD j true=false:=by simp [Array.getD_eq_getD_getElem?,hlt]
  rw [e] at h3
  simp only [Bool.or_false,Bool.or_eq_true] at h3 ⊢
  rcases h3 with h3 | h3
  ·exact .inl (.inl h3)
  ·exact .inr h3
def pureStep (P:Program) (nt:Nat) (ops:Array Oper) (T:Tm) (i:Nat):Option Tm:=match ops[i]? with
 | none=>none
 | some o=>match freeS ops i with
  | false=>none
  | true=>match wantA ops T o with
   | none=>none
   | some false=>match o.dst with
    | some d=>some [(d,none)]
    | none=>some []
   | some true=>match evP P T o with
    | some v=>putA nt o.dst v
    | none=>none
theorem pureStep_ok {T e:Tm} {i:Nat} (h:pureStep P nt ops T i=some e) {ρ:Ren} {a:Act} (hS:SR nt ρ T a):∃ o v,ops[i]?=some o∧freeS ops i=true∧Yields P ops o v a∧SR nt ρ (e++T) (a.put o.dst v):=by
 unfold pureStep at h
 split at h
 ·cases h
 ·rename_i o ho
  split at h
  ·cases h
  ·rename_i hf
   split at h
   ·cases h
   ·rename_i hw
    have hw:=want_rel hS.tr hw
    split at h
    ·rename_i d hd
     cases h
     exact ⟨o,undef,ho,hf,.inr ⟨hw,rfl⟩,by rw [hd];exact hS.drop d undef⟩
    ·rename_i hd
     cases h
     exact ⟨o,undef,ho,hf,.inr ⟨hw,rfl⟩,by rw [hd];exact hS⟩
   ·rename_i hw
    have hw:=want_rel hS.tr hw
    split at h
    ·rename_i v hv
     obtain ⟨u,k1,k2⟩:=evP_run hS.tr hv
     exact ⟨o,u,ho,hf,.inl ⟨hw,k2⟩,hS.putA h k1⟩
    ·cases h
def firstPure (P:Program) (nt:Nat) (ops:Array Oper) (T:Tm):List Nat→Option (Nat×Tm)
 | []=>none
 | i :: r=>match pureStep P nt ops T i with
  | some e=>some (i,e)
  | none=>firstPure P nt ops T r
theorem firstPure_ok {T:Tm}:∀ {l:List Nat} {i:Nat} {e:Tm},firstPure P nt ops T l=some (i,e)→i∈l∧pureStep P nt ops T i=some e
 | [],i,e,h=>by cases h
 | j :: r,i,e,h=>by
  simp only [firstPure] at h
  split at h
  ·rename_i e' he
   cases h
   exact ⟨List.mem_cons_self,he⟩
  ·obtain ⟨k1,k2⟩:=firstPure_ok h
   exact ⟨List.mem_cons_of_mem _ k1,k2⟩
def readyOf (ops:Array Oper) (m:Nat):Nat→List Oper→List Nat
 | _,[]=>[]
 | i,o :: t=>match Nat.testBit m i with
  | true=>readyOf ops m (i+1) t
  | false=>match o.after.toList.all fun e=>!Region.binds .any e||(Nat.blt e.on ops.size&&Nat.testBit m e.on) with
   | true=>i :: readyOf ops m (i+1) t
   | false=>readyOf ops m (i+1) t
theorem mask_getD (n m i:Nat) (d:Bool):(maskArr n m).getD i d=if i<n then Nat.testBit m i else d:=by
 unfold maskArr
 rw [Array.getD_eq_getD_getElem?,List.getElem?_toArray,List.getElem?_map]
 split
 ·rename_i h;rw [List.getElem?_range h];rfl
 ·rename_i h;rw [List.getElem?_eq_none (by simpa using h)];rfl
theorem readyOf_mem {m:Nat}:∀ (l:List Oper) (i:Nat),(∀ j,l[j]?=ops[i+j]?)→∀ k,k∈readyOf ops m i l↔i≤k∧k∈Region.ready .any ops (maskArr ops.size m)
 | [],i,hl,k=>by
  constructor
  ·intro h;cases h
  ·rintro ⟨h1,h2⟩
   obtain ⟨-,o,ho,-⟩:=mem_ready.1 h2
   have:=hl (k - i)
   rw [show i+(k - i)=k by omega,ho] at this
   cases this
 | o :: t,i,hl,k=>by
  have ih:=readyOf_mem (m:=m) t (i+1) (fun j=>by
   have:=hl (j+1)
   rw [List.getElem?_cons_succ] at this
   rw [this]
   congr 1
   omega) k
  have ho:ops[i]?=some o:=(hl 0).symm
  have hlt:i<ops.size:=(Array.getElem?_eq_some_iff.1 ho).1
  have hi:i∈Region.ready .any ops (maskArr ops.size m)↔Nat.testBit m i=false∧(o.after.toList.all fun e=>!Region.binds .any e||(Nat.blt e.on ops.size&&Nat.testBit m e.on))=true:=by
   rw [mem_ready,mask_getD,if_pos hlt]
   refine and_congr_right fun h0=>?_
   rw [ho,List.all_eq_true]
   constructor
   ·rintro ⟨o',e1,h⟩ e he
    cases e1
    cases hb:Region.binds .any e
    ·rfl
    ·have h1:=h e (Array.mem_toList_iff.1 he) hb
     rw [mask_getD] at h1
     split at h1
     ·rename_i h2
      rw [h1]
      have:Nat.blt e.on ops.size=true:=Nat.ble_eq_true_of_le h2
      rw [this]
      rfl
     ·cases h1
   ·intro h
    refine ⟨o,rfl,fun e he hb=>?_⟩
    have h1:=h e (Array.mem_toList_iff.2 he)
    rw [hb] at h1
    simp only [Bool.not_true,Bool.false_or,Bool.and_eq_true] at h1
    have hlt2:e.on<ops.size:=Nat.le_of_ble_eq_true h1.1
    rw [mask_getD,if_pos hlt2]
    exact h1.2
  have hne:∀ k,i+1≤k→i≠k:=fun k h e=>by omega
  simp only [readyOf]
  split
  ·rename_i hb
   rw [ih]
   constructor
   ·rintro ⟨h1,h2⟩;exact ⟨by omega,h2⟩
   ·rintro ⟨h1,h2⟩
    refine ⟨?_,h2⟩
    rcases Nat.lt_or_ge i k with h | h
    ·exact h
    ·obtain rfl:k=i:=by omega
     rw [(hi.1 h2).1] at hb
     cases hb
  ·rename_i hb
   split
   ·rename_i hall
    rw [List.mem_cons,ih]
    constructor
    ·rintro (rfl | ⟨h1,h2⟩)
     ·exact ⟨Nat.le_refl _,hi.2 ⟨hb,hall⟩⟩
     ·exact ⟨by omega,h2⟩
    ·rintro ⟨h1,h2⟩
     rcases Nat.lt_or_ge i k with h | h
     ·exact .inr ⟨h,h2⟩
     ·exact .inl (by omega)
   ·rename_i hall
    rw [ih]
    constructor
    ·rintro ⟨h1,h2⟩;exact ⟨by omega,h2⟩
    ·rintro ⟨h1,h2⟩
     refine ⟨?_,h2⟩
     rcases Nat.lt_or_ge i k with h | h
     ·exact h
     ·obtain rfl:k=i:=by omega
      rw [(hi.1 h2).2] at hall
      cases hall
theorem ready_mem {m:Nat} (k:Nat):k∈readyOf ops m 0 ops.toList↔k∈Region.ready .any ops (maskArr ops.size m):=by
 rw [readyOf_mem ops.toList 0 (fun j=>by rw [Nat.zero_add,Array.getElem?_toList])]
 simp
def evUp (call:Caller) (P:Program) (nt:Nat) (ops:Array Oper) (T:Tm) (σ:Hp) (nm:Nat):Sts→Sts→Option Sts
 | [],L=>some L
 | (m,e,δ) :: t,L=>match readyOf ops m 0 ops.toList with
  | []=>none
  | i :: r=>match firstPure P nt ops (e++T) (i :: r) with
   | some (j,e1)=>match insL L (m ||| 2 ^ j) (e1++e) δ with
    | some L'=>evUp call P nt ops T σ nm t L'
    | none=>none
   | none=>match evFrom call P nt ops T σ nm m e δ (i :: r) L with
    | some L'=>evUp call P nt ops T σ nm t L'
    | none=>none
def Up (call:Caller) (P:Program) (nt:Nat) (ops:Array Oper) (T:Tm) (σ:Hp) (nm:Nat) (L':Sts) (m:Nat) (e:Tm) (δ:Hp):Prop:=
 (∃ j e1,j∈Region.ready .any ops (maskArr ops.size m)∧pureStep P nt ops (e++T) j=some e1∧Cov L' (m ||| 2 ^ j) (e1++e) δ)∨
 (Region.ready .any ops (maskArr ops.size m)≠[]∧∀ i∈Region.ready .any ops (maskArr ops.size m),∃ e1 δ1,evStep call P nt ops (e++T) (δ++σ) i (nm+i)=some (e1,δ1)∧Cov L' (m ||| 2 ^ i) (e1++e) (δ1++δ))
theorem Up.sub {T:Tm} {σ:Hp} {nm:Nat} {L L':Sts} (h:∀ x∈L,x∈L') {m:Nat} {e:Tm} {δ:Hp} (k:Up call P nt ops T σ nm L m e δ):Up call P nt ops T σ nm L' m e δ:=by
 rcases k with ⟨j,e1,h1,h2,h3⟩ | ⟨h1,h2⟩
 ·exact .inl ⟨j,e1,h1,h2,h3.sub h⟩
 ·refine .inr ⟨h1,fun i hi=>?_⟩
  obtain ⟨e1,δ1,q1,q2⟩:=h2 i hi
  exact ⟨e1,δ1,q1,q2.sub h⟩
theorem evUp_ok {T:Tm} {σ:Hp} {nm:Nat}:∀ {S L L':Sts},evUp call P nt ops T σ nm S L=some L'→(∀ m e δ,(m,e,δ)∈S→Up call P nt ops T σ nm L' m e δ)∧∀ x∈L,x∈L'
 | [],L,L',h=>by
  cases h
  exact ⟨fun m e δ hi=>by (cases hi),fun x hx=>hx⟩
 | (m,e,δ) :: t,L,L',h=>by
  simp only [evUp] at h
  split at h
  ·cases h
  ·rename_i i r hr
   have hmem:∀ k,k∈i :: r↔k∈Region.ready .any ops (maskArr ops.size m):=fun k=>by rw [← hr];exact ready_mem k
   split at h
   ·rename_i j e1 hp
    obtain ⟨p1,p2⟩:=firstPure_ok hp
    split at h
    ·rename_i L1 h1
     obtain ⟨k1,k2⟩:=insL_ok h1
     obtain ⟨k3,k4⟩:=evUp_ok h
     refine ⟨fun m' e' δ' hm=>?_,fun x hx=>k4 x (k2 x hx)⟩
     rcases List.mem_cons.1 hm with hm | hm
     ·cases hm
      exact .inl ⟨j,e1,(hmem j).1 p1,p2,k1.sub k4⟩
     ·exact k3 m' e' δ' hm
    ·cases h
   ·split at h
    ·rename_i L1 h1
     obtain ⟨k1,k2⟩:=evFrom_ok h1
     obtain ⟨k3,k4⟩:=evUp_ok h
     refine ⟨fun m' e' δ' hm=>?_,fun x hx=>k4 x (k2 x hx)⟩
     rcases List.mem_cons.1 hm with hm | hm
     ·cases hm
      refine .inr ⟨fun e=>?_,fun j hj=>?_⟩
      ·have:=(hmem i).1 List.mem_cons_self
       rw [e] at this
       cases this
      ·obtain ⟨e1,δ1,q1,q2⟩:=k1 j ((hmem j).2 hj)
       exact ⟨e1,δ1,q1,q2.sub k4⟩
     ·exact k3 m' e' δ' hm
    ·cases h
def evIter (call:Caller) (P:Program) (nt:Nat) (ops:Array Oper) (T:Tm) (σ:Hp) (nm:Nat):Nat→Sts→Option (Tm×Hp)
 | 0,[(m,e,δ)]=>match readyOf ops m 0 ops.toList with
  | []=>some (e,δ)
  | _ :: _=>none
 | 0,_=>none
 | k+1,S=>match evUp call P nt ops T σ nm S [] with
  | some S'=>evIter call P nt ops T σ nm k S'
  | none=>none
theorem evIter_wp (hC:CallOK P w0 call) {T:Tm} {σ:Hp} {nm:Nat} {ρ0:Ren} {Q:Exit→Act→World→Prop} {e':Tm} {δ':Hp} (hP:∀ c a w,¬Q (.panic c) a w) (hQ:∀ ρ' a' w',Ext ρ0 ρ'→SR nt ρ' (e'++T) a'→HR w0 ρ' (δ'++σ) w'→Q .normal a' w') :
  ∀ (k:Nat) (S:Sts),evIter call P nt ops T σ nm k S=some (e',δ')→∀ (m:Nat) (e:Tm) (δ:Hp),(m,e,δ)∈S→∀ (ρ:Ren) (a:Act) (w:World),Ext ρ0 ρ→SR nt ρ (e++T) a→HR w0 ρ (δ++σ) w→wpAny P .any ops Q k (maskArr ops.size m) a w
 | 0,S,h,m,e,δ,hm,ρ,a,w,h0,hS,hs=>by
  unfold evIter at h
  split at h
  ·rename_i m' e1 δ1
   split at h
   ·rename_i hr
    cases h
    cases List.mem_singleton.1 hm
    refine ⟨?_,hQ ρ a w h0 hS hs⟩
    cases hr2:Region.ready .any ops (maskArr ops.size m) with
    | nil=>rfl
    | cons x xs=>
     have:x∈readyOf ops m 0 ops.toList:=(ready_mem x).2 (by rw [hr2];exact List.mem_cons_self)
     rw [hr] at this
     cases this
   ·cases h
  ·cases h
  ·rename_i hk;cases hk
 | k+1,S,h,m,e,δ,hm,ρ,a,w,h0,hS,hs=>by
  simp only [evIter] at h
  split at h
  ·rename_i S' h1
   obtain ⟨k1,-⟩:=evUp_ok h1
   rcases k1 m e δ hm with ⟨j,e1,j1,j2,e2,δ2,q2,q3,q4⟩ | ⟨k2,k3⟩
   ·obtain ⟨o,v,y1,y2,y3,y4⟩:=pureStep_ok j2 hS
    obtain ⟨f1,f2⟩:=freeS_free y2 (maskArr ops.size m)
    refine wpAny_take y1 f1 f2 (by simpa using j1) (fun c a w hc=>absurd hc (hP c _ _)) y3 ?_
    rw [← maskArr_set]
    refine evIter_wp hC hP hQ k S' h _ e2 δ2 q2 ρ _ w h0 (SR.same y4 fun x=>?_) (HR.same hs fun x=>?_)
    ·rw [← List.append_assoc];exact look_same q3 x
    ·exact look_same q4 x
   ·refine ⟨fun hr=>absurd hr k2,fun i hi=>?_⟩
    obtain ⟨e1,δ1,q1,e2,δ2,q2,q3,q4⟩:=k3 i hi
    refine evStep_wp hC q1 hS hs fun ρ' a' w' j1 j2 j3=>?_
    rw [← maskArr_set]
    refine evIter_wp hC hP hQ k S' h _ e2 δ2 q2 ρ' a' w' (h0.trans j1) (SR.same j2 fun x=>?_) (HR.same j3 fun x=>?_)
    ·rw [← List.append_assoc];exact look_same q3 x
    ·rw [← List.append_assoc];exact look_same q4 x
  ·cases h
end
end Go.Ev
namespace Go.Ev
open Go Go.RowKit
inductive Ex where
 | normal
 | exit (id:Nat)
 | ret
def Ex.to:Ex→Exit
 | .normal=>.normal
 | .exit id=>.exit id
 | .ret=>.ret
structure Fin where
 ex:Ex
 T:Tm
 d:Hp
 c:Nat
def evCode (call:Caller) (P:Program) (nt:Nat) (σ:Hp) (p:Nat):Nat→Code→Tm→Hp→Nat→Option Fin
 | 0,_,_,_,_=>none
 | k+1,.skip,T,d,c=>some ⟨.normal,T,d,c⟩
 | k+1,.label _,T,d,c=>some ⟨.normal,T,d,c⟩
 | k+1,.region _ ops false,T,d,c=>match evSeq call P nt ops T (d++σ) ((p*4096+c)*64) (List.range ops.size) [] [] with
  | some (e,δ)=>some ⟨.normal,e++T,δ++d,c+1⟩
  | none=>none
 | k+1,.region _ ops true,T,d,c=>match P.follows .mixedOrders,evIter call P nt ops T (d++σ) ((p*4096+c)*64) ops.size [(0,[],[])] with
  | true,some (e,δ)=>some ⟨.normal,e++T,δ++d,c+1⟩
  | _,_=>none
 | k+1,.seq x y,T,d,c=>match evCode call P nt σ p k x T d c with
  | some ⟨.normal,T',d',c'⟩=>evCode call P nt σ p k y T' d' c'
  | r=>r
 | k+1,.cond b x y,T,d,c=>match opc T b with
  | some (.bool true)=>evCode call P nt σ p k x T d c
  | some (.bool false)=>evCode call P nt σ p k y T d c
  | _=>none
 | k+1,.block id b,T,d,c=>match evCode call P nt σ p k b T d c with
  | some ⟨.exit id',T',d',c'⟩=>match Nat.beq id' id with
   | true=>some ⟨.normal,T',d',c'⟩
   | false=>some ⟨.exit id',T',d',c'⟩
  | r=>r
 | k+1,.loop b,T,d,c=>match evCode call P nt σ p k b T d c with
  | some ⟨.normal,T',d',c'⟩=>evCode call P nt σ p k (.loop b) T' d' c'
  | r=>r
 | k+1,.exit id,T,d,c=>some ⟨.exit id,T,d,c⟩
 | k+1,.ret,T,d,c=>some ⟨.ret,T,d,c⟩
 | k+1,_,_,_,_=>none
section
variable {P:Program} {w0:World} {call:Caller} {nt:Nat} {σ:Hp} {p:Nat}
def Goal (P:Program) (w0:World) (nt:Nat) (σ:Hp) (r:Fin) (ρ:Ren) (Q:Exit→Act→World→Prop):Prop:=∀ ρ' a' w',Ext ρ ρ'→SR nt ρ' r.T a'→HR w0 ρ' (r.d++σ) w'→Q r.ex.to a' w'
theorem Goal.ext {r:Fin} {ρ ρ':Ren} {Q:Exit→Act→World→Prop} (h:Goal P w0 nt σ r ρ Q) (e:Ext ρ ρ'):Goal P w0 nt σ r ρ' Q:=fun ρ2 a w h1 h2 h3=>h ρ2 a w (e.trans h1) h2 h3
theorem evCode_wp (hC:CallOK P w0 call):∀ (k:Nat),(∀ (code:Code) (T:Tm) (d:Hp) (c:Nat) (r:Fin),evCode call P nt σ p k code T d c=some r→∀ (ρ:Ren) (a:Act) (w:World) (Q:Exit→Act→World→Prop),SR nt ρ T a→HR w0 ρ (d++σ) w→Goal P w0 nt σ r ρ Q→code.wp P Q a w)∧
  (∀ (b:Code) (T:Tm) (d:Hp) (c:Nat) (r:Fin),evCode call P nt σ p k (.loop b) T d c=some r→∀ (ρ:Ren) (a:Act) (w:World) (Q:Exit→Act→World→Prop),SR nt ρ T a→HR w0 ρ (d++σ) w→Goal P w0 nt σ r ρ Q→Code.rounds P b Q k a w)
 | 0=>⟨fun code T d c r h=>by (simp only [evCode] at h;cases h),fun b T d c r h=>by (simp only [evCode] at h;cases h)⟩
 | k+1=>by
  obtain ⟨ih1,ih2⟩:=evCode_wp hC k
  have hloop:∀ (b:Code) (T:Tm) (d:Hp) (c:Nat) (r:Fin),evCode call P nt σ p (k+1) (.loop b) T d c=some r→∀ (ρ:Ren) (a:Act) (w:World) (Q:Exit→Act→World→Prop),SR nt ρ T a→HR w0 ρ (d++σ) w→Goal P w0 nt σ r ρ Q→Code.rounds P b Q (k+1) a w:=by
   intro b T d c r h ρ a w Q hS hs hQ
   rw [rounds_succ]
   simp only [evCode] at h
   split at h
   ·rename_i T' d' c' hb
    refine ih1 b T d c _ hb ρ a w _ hS hs fun ρ1 a1 w1 h1 h2 h3=>?_
    exact ih2 b T' d' c' r h ρ1 a1 w1 Q h2 h3 (hQ.ext h1)
   ·rename_i hne
    refine ih1 b T d c r h ρ a w _ hS hs fun ρ1 a1 w1 h1 h2 h3=>?_
    have hq:=hQ ρ1 a1 w1 h1 h2 h3
    obtain ⟨ex,T',d',c'⟩:=r
    cases ex
    ·exact absurd h (hne T' d' c')
    ·exact hq
    ·exact hq
  refine ⟨fun code T d c r h ρ a w Q hS hs hQ=>?_,hloop⟩
  cases code with
  | skip=>
   simp only [evCode] at h
   cases h
   exact wp_skip (hQ ρ a w (Ext.refl _) hS hs)
  | label l=>
   simp only [evCode] at h
   cases h
   exact wp_label (hQ ρ a w (Ext.refl _) hS hs)
  | exit id=>
   simp only [evCode] at h
   cases h
   exact wp_exit (hQ ρ a w (Ext.refl _) hS hs)
  | ret=>
   simp only [evCode] at h
   cases h
   exact wp_ret (hQ ρ a w (Ext.refl _) hS hs)
  | region id ops draw=>
   cases draw with
   | false=>
    simp only [evCode] at h
    split at h
    ·rename_i e δ h1
     cases h
     refine wp_region (evSeq_wp hC (fun ρ' a' w' k1 k2 k3=>?_) _ _ _ h1 ρ a w (Ext.refl _) hS hs)
     exact hQ ρ' a' w' k1 k2 (by rw [List.append_assoc];exact k3)
    ·cases h
   | true=>
    simp only [evCode] at h
    split at h
    ·rename_i e δ hm h1
     cases h
     refine wp_mono (Q:=fun ex a' w'=>ex=.normal∧Q .normal a' w') (wp_region_any hm ?_) fun ex a' w' hx=>by obtain ⟨rfl,hx⟩:=hx;exact hx
     rw [← maskArr_zero]
     exact evIter_wp hC (fun c a w hc=>by cases hc.1) (fun ρ' a' w' k1 k2 k3=>⟨rfl,hQ ρ' a' w' k1 k2 (by rw [List.append_assoc];exact k3)⟩) _ _ h1 0 [] [] (List.mem_singleton.2 rfl) ρ a _ (Ext.refl _) hS hs.drew
    ·cases h
  | seq x y=>
   simp only [evCode] at h
   refine wp_seq ?_
   split at h
   ·rename_i T' d' c' hx
    refine ih1 x T d c _ hx ρ a w _ hS hs fun ρ1 a1 w1 h1 h2 h3=>?_
    exact ih1 y T' d' c' r h ρ1 a1 w1 Q h2 h3 (hQ.ext h1)
   ·rename_i hne
    refine ih1 x T d c r h ρ a w _ hS hs fun ρ1 a1 w1 h1 h2 h3=>?_
    have hq:=hQ ρ1 a1 w1 h1 h2 h3
    obtain ⟨ex,T',d',c'⟩:=r
    cases ex
    ·exact absurd h (hne T' d' c')
    ·exact hq
    ·exact hq
  | cond b x y=>
   simp only [evCode] at h
   split at h
   ·rename_i hb
    have hv:a.eval b=.bool true:=opc_rel hS.tr hb
    exact wp_cond_true hv (ih1 x T d c r h ρ a w Q hS hs hQ)
   ·rename_i hb
    have hv:a.eval b=.bool false:=opc_rel hS.tr hb
    exact wp_cond_false hv (ih1 y T d c r h ρ a w Q hS hs hQ)
   ·cases h
  | block id b=>
   simp only [evCode] at h
   refine wp_block ?_
   split at h
   ·rename_i id' T' d' c' hb
    refine ih1 b T d c _ hb ρ a w _ hS hs fun ρ1 a1 w1 h1 h2 h3=>?_
    split at h
    ·rename_i hid
     have hid:=Nat.eq_of_beq_eq_true hid
     cases h
     show (if id'=id then _ else _)
     rw [if_pos hid]
     exact hQ ρ1 a1 w1 h1 h2 h3
    ·rename_i hid
     cases h
     show (if id'=id then _ else _)
     rw [if_neg fun e=>by rw [e] at hid;exact absurd hid (by simp)]
     exact hQ ρ1 a1 w1 h1 h2 h3
   ·rename_i hne
    refine ih1 b T d c r h ρ a w _ hS hs fun ρ1 a1 w1 h1 h2 h3=>?_
    have hq:=hQ ρ1 a1 w1 h1 h2 h3
    obtain ⟨ex,T',d',c'⟩:=r
    cases ex with
    | normal=>exact hq
    | exit id'=>exact absurd h (hne id' T' d' c')
    | ret=>exact hq
  | loop b=>exact wp_loop_rounds (k+1) (hloop b T d c r h ρ a w Q hS hs hQ)
  | rangeFunc f ps xs b=>simp only [evCode] at h;cases h
  | scope b=>simp only [evCode] at h;cases h
  | goto l=>simp only [evCode] at h;cases h
  | refuse y=>simp only [evCode] at h;cases h
end
def argT:Nat→List A1→Tm
 | _,[]=>[]
 | i,v :: t=>(i,some (.one v)) :: argT (i+1) t
def resA (P:Program) (T:Tm) (σ:Hp):List ResultVar→Option (List A1)
 | []=>some []
 | .tmp t :: r=>match op1 T (.tmp t),resA P T σ r with
  | some v,some l=>some (v :: l)
  | _,_=>none
 | .cell t ty :: r=>match opc T (.tmp t) with
  | some (.ptr b off)=>match loadA P σ ty b off,resA P T σ r with
   | some v,some l=>some (v :: l)
   | _,_=>none
  | _=>none
def tupA:List A1→AV
 | [x]=>.one x
 | l=>.tup l
def evCall (P:Program) (K:Nat):Nat→Caller
 | 0,_,_,_,_=>none
 | n+1,f,vs,σ,p=>match P.funcs[f]? with
  | some fn => match fn.name == "runtime.NumGoroutine", fn.body with
   | false,some c=>match evCode (evCall P K n) P (vs.length+(fn.ntmps - vs.length)) σ p K c (argT 0 vs) [] 0 with
    | some ⟨.exit _,_,_,_⟩=>none
    | some ⟨_,T,d,_⟩=>match resA P T (d++σ) fn.results.toList with
     | some l=>some (tupA l,d)
     | none=>none
    | none=>none
   | _,_=>none
  | none=>none
section
variable {P:Program} {w0:World}
theorem argT_look:∀ (vs:List A1) (i t:Nat) (x:AV),look (argT i vs) t=some (some x)→∃ v,i≤t∧vs[t - i]?=some v∧x=.one v
 | [],i,t,x,h=>by cases h
 | v :: r,i,t,x,h=>by
  simp only [argT] at h
  rw [look_cons] at h
  split at h
  ·rename_i e
   subst e
   cases h
   exact ⟨v,Nat.le_refl _,by simp,rfl⟩
  ·obtain ⟨u,k1,k2,k3⟩:=argT_look r (i+1) t x h
   exact ⟨u,by omega,by rw [show t - i=(t - (i+1))+1 by omega];simpa using k2,k3⟩
theorem R1.length {ρ:Ren}:∀ {l:List A1} {vs:List Value},R1 ρ l vs→vs.length=l.length
 | [],_,h=>by rw [show _=_ from h];rfl
 | x :: t,_,⟨v,u,h1,h2,h3⟩=>by rw [h1,List.length_cons,R1.length h3,List.length_cons]
theorem start_SR {ρ:Ren} {vs:List A1} {us:List Value} (h:R1 ρ vs us) (n:Nat):SR (vs.length+(n - vs.length)) ρ (argT 0 vs) {tmps:=us.toArray++Array.replicate (n - us.toArray.size) undef,defers:=[]}:=by
 have hl:=h.length
 refine ⟨fun t x hx=>?_,by simp [hl],rfl⟩
 obtain ⟨v,-,k2,rfl⟩:=argT_look vs 0 t x hx
 rw [Nat.sub_zero] at k2
 obtain ⟨u,k3,k4⟩:=h.get k2
 have hlt:=(List.getElem?_eq_some_iff.1 k3).1
 have e:(us.toArray++Array.replicate (n - us.toArray.size) undef).getD t undef=u:=by
  rw [Array.getD_eq_getD_getElem?,Array.getElem?_append_left (by simpa using hlt),List.getElem?_toArray,k3]
  rfl
 exact (by rw [e];exact k4:A1.rel ρ v ((us.toArray++Array.replicate (n - us.toArray.size) undef).getD t undef))
def getRes (tmps:Array Value) (x:ResultVar):Sem Value:=match x with
 | .tmp t=>pure (tmps.getD t undef)
 | .cell b t=>do loadVar t (← asAddr (tmps.getD b undef))
theorem resA_run {ρ:Ren} {T:Tm} {σ:Hp} {a:Act} {w:World} (hT:TR ρ T a) (hs:HR w0 ρ σ w):∀ {rs:List ResultVar} {l:List A1},resA P T σ rs=some l→∃ vs,R1 ρ l vs∧(rs.mapM (getRes a.tmps)).run P w=.ok vs w
 | [],l,h=>by cases h;exact ⟨[],rfl,by simp⟩
 | .tmp t :: r,l,h=>by
  simp only [resA] at h
  split at h
  ·rename_i v l' h1 h2
   cases h
   obtain ⟨vs,k1,k2⟩:=resA_run hT hs h2
   have h3:v.rel ρ (a.tmps.getD t undef):=op1_rel hT h1
   exact ⟨_,⟨_,vs,rfl,h3,k1⟩,by simp [List.mapM_cons,getRes,k2]⟩
  ·cases h
 | .cell t ty :: r,l,h=>by
  simp only [resA] at h
  split at h
  ·rename_i b off hp
   split at h
   ·rename_i v l' h1 h2
    cases h
    obtain ⟨vs,k1,k2⟩:=resA_run hT hs h2
    obtain ⟨k,cp,hk,hv⟩:=opc_rel hT hp
    have hv:a.tmps.getD t undef=.pointer (some ⟨k,off,none⟩):=hv
    obtain ⟨u,h3,h4⟩:=loadA_run hs h1 hk
    exact ⟨_,⟨_,vs,rfl,h3,k1⟩,by simp [List.mapM_cons,getRes,hv,asAddr,h4,k2]⟩
   ·cases h
  ·cases h
theorem results_run {ρ:Ren} {T:Tm} {σ:Hp} {a:Act} {w:World} (hT:TR ρ T a) (hs:HR w0 ρ σ w) {fn:Func} {l:List A1} (h:resA P T σ fn.results.toList=some l):∃ v,(tupA l).rel ρ v∧(results fn a.tmps).run P w=.ok v w:=by
 obtain ⟨vs,k1,k2⟩:=resA_run hT hs h
 have hl:=k1.length
 refine ⟨if h:vs.toArray.size=1 then vs.toArray[0] else .tuple vs.toArray,?_,?_⟩
 ·cases l with
  | nil=>
   rw [show vs=[] from k1]
   exact ⟨_,rfl,rfl⟩
  | cons x t=>
   obtain ⟨v,u,rfl,k3,k4⟩:=k1
   cases t with
   | nil=>
    rw [show u=[] from k4]
    exact k3
   | cons y r=>
    have hne:¬(v :: u).toArray.size=1:=by simp at hl ⊢;intro e;rw [e] at hl;simp at hl
    rw [dif_neg hne]
    exact ⟨_,rfl,v,u,rfl,k3,k4⟩
 ·have e:results fn a.tmps=(fn.results.mapM (getRes a.tmps)) >>= fun vs=>pure (if h:vs.size=1 then vs[0] else .tuple vs):=by
   unfold results
   congr 2
  rw [e,Array.mapM_eq_mapM_toList]
  simp only [Sem.run_bind,Sem.run_map,k2,Result.andThen_ok]
  rfl
theorem evCall_ok (K:Nat):∀ n,CallOK P w0 (evCall P K n)
 | 0=>fun f vs σ nm v δ h=>by (simp only [evCall] at h;cases h)
 | n+1=>fun f vs σ nm v δ h=>by
  have ih:=evCall_ok K n
  simp only [evCall] at h
  split at h
  ·rename_i fn hf
   split at h
   ·rename_i c hname hbody
    have hent:∀ args w,(callFunc f args).run P w=.ok (.enter f args) w:=fun args w=>by
     have h1 : fn.name ≠ "runtime.NumGoroutine" := by simpa using hname
     simp [callFunc,hf,h1,hbody]
    split at h
    ·cases h
    ·rename_i ex T d c' hne hc
     split at h
     ·rename_i l hl
      cases h
      refine ⟨hent,fun ρ w us hs hus=>calls_of_wp hf hbody ?_⟩
      refine (evCode_wp ih K).1 c _ [] 0 _ hc ρ _ w _ (start_SR hus _) hs fun ρ' a' w' k1 k2 k3=>?_
      obtain ⟨v,j1,j2⟩:=results_run k2.tr k3 hl
      cases ex with
      | normal=>exact ⟨k2.defers,v,j2,v,ρ',rfl,k1,j1,k3⟩
      | ret=>exact ⟨k2.defers,v,j2,v,ρ',rfl,k1,j1,k3⟩
      | exit id=>exact (hne id rfl).elim
     ·cases h
    ·cases h
   ·cases h
  ·cases h
theorem run_call {K n:Nat} {f:FuncId} {vs:List A1} {v:AV} {δ:Hp} (h:evCall P K n f vs [] 1=some (v,δ)) {us:List Value} (hus:R1 (fun _=>none) vs us) (w:World) :
  Calls P f us.toArray w fun e w'=>∃ u ρ,e=.returned u∧v.rel ρ u∧HR w ρ δ w':=by
 refine ((evCall_ok K n f vs [] 1 v δ h).2 _ w us (HR.start w) hus).mono ?_
 rintro e w' ⟨u,ρ,rfl,-,h2,h3⟩
 exact ⟨u,ρ,rfl,h2,by simpa using h3⟩
end
end Go.Ev
namespace Go.Proofs.YtajlleeonddinaaGreatDoor
open Go.RowKit Go.Shelf
def argsU (p:Pat) (a:Nat):Str:=if (cutL [32] p.2).1=[97] then arB a++(cutL [32] p.2).2.1 else (cutL [32] p.2).2.1
theorem argsU_eq (p:Pat) (op:Int):(wordsT p op).2.1++(wordsT p op).2.2=argsU p (numP p.1 op 97).toNat:=by
 unfold wordsT argsU
 split
 ·rfl
 ·split <;> rfl
theorem pats_small:∀ p∈mainP++cbP++edP,p.1.length=8∧p.2.length≤100:=by decide +kernel
theorem pats_num:∀ p∈mainP++cbP++edP,∀ n<256,numN p.1 n 97 8≤7∧numN p.1 n 111 8≤7:=by decide +kernel
theorem pats_words:∀ p∈mainP++cbP++edP,∀ a<8,(argsU p a).length≤100∧∀ w∈splitW (argsU p a),w∈wordsAll:=by decide +kernel
theorem wordsF_len:∀ (n:Nat) (l:Str),(wordsF n l).length≤l.length
 | 0,l=>Nat.zero_le _
 | n+1,l=>by
  unfold wordsF
  split
  ·exact Nat.zero_le _
  ·next h=>
   have hl:0<l.length:=List.length_pos_iff.2 (by simpa using h)
   have h1:=(cutL_lt [44] l (by decide) hl).1
   have h2:=wordsF_len n (cutL [44] l).2.1
   rw [List.length_cons]
   omega
theorem extraF_len (p:Pat) (op:Int):∀ (n:Nat) (l:Str),(extraT p op (wordsF n l)).length≤l.length
 | 0,l=>Nat.zero_le _
 | n+1,l=>by
  unfold wordsF
  split
  ·exact Nat.zero_le _
  ·have h1:=cutL_sum [44] l
   have h2:=extraF_len p op n (cutL [44] l).2.1
   have h3:=opT_len p op (cutL [44] l).1
   show ((opT p op (cutL [44] l).1).2++extraT p op (wordsF n (cutL [44] l).2.1)).length≤_
   rw [List.length_append]
   omega
theorem good2_of {p:Pat} (hp:p∈mainP++cbP++edP) (op:Int) (h0:0≤op) (h1:op≤255):Good2 p op:=by
 obtain ⟨n,rfl⟩:∃ n:Nat,op=n:=⟨op.toNat,by omega⟩
 have hn:n<256:=by omega
 obtain ⟨e1,e2⟩:=pats_small p hp
 obtain ⟨e3,e4⟩:=pats_num p hp n hn
 have na:numP p.1 (n:Int) 97≤7:=by rw [numP_eq _ _ hn];omega
 have no:numP p.1 (n:Int) 111≤7:=by rw [numP_eq _ _ hn];omega
 have n0:=(numP_bd p.1 (n:Int) h0 h1 97).1
 obtain ⟨e5,e6⟩:=pats_words p hp (numP p.1 (n:Int) 97).toNat (by omega)
 rw [← argsU_eq] at e5 e6
 have l1:=wordsF_len ((wordsT p (n:Int)).2.1++(wordsT p (n:Int)).2.2).length ((wordsT p (n:Int)).2.1++(wordsT p (n:Int)).2.2)
 have l2:=extraF_len p (n:Int) ((wordsT p (n:Int)).2.1++(wordsT p (n:Int)).2.2).length ((wordsT p (n:Int)).2.1++(wordsT p (n:Int)).2.2)
 exact ⟨⟨e1,e2,h0,h1,na,no,e5,e6⟩,Nat.le_trans l1 e5,Nat.le_trans l2 (by omega)⟩
theorem op6_all:∀ n:Fin 256,op6 (n.val:Int)=((n.val / 8*8+6:Nat):Int):=by decide +kernel
theorem op6_bd (op:Int) (h0:0≤op) (h1:op≤255):0≤op6 op∧op6 op≤255:=by
 obtain ⟨n,rfl⟩:∃ n:Nat,op=n:=⟨op.toNat,by omega⟩
 have h:=op6_all ⟨n,by omega⟩
 simp only at h
 omega
theorem find_mem {page op:Int} {p:Pat} (h:findP (listS page) op=some p):p∈mainP++cbP++edP:=by
 have h1:=List.mem_of_find?_eq_some h
 rw [patsOf_page] at h1
 exact page_mem h1
end Go.Proofs.YtajlleeonddinaaGreatDoor
namespace Go.Proofs.YtajlleeonddinaaGreatDoor
open Go.RowKit Go.Shelf
def atT (page op:Int):Option En:=match findP (listS page) op with
 | some p=>entryT p page op
 | none=>none
def RetAt (w:World) (page op:Int) (x:Option En) (e:Ending) (w':World):Prop:=
 (match x with
  | some x=>∃ v,e=.returned (.tuple #[enV page op x.1 v x.2.2.1 x.2.2.2,.int .i64 1])∧OwnT w' w.heap.size v x.2.1
  | none=>e=.returned (.tuple #[enV 0 0 [] (.slice none 0 0) [] false,.int .i64 (kindT page op)]))∧Below w.heap.size w w'
theorem opd0_start (w:World):∃ w0,w.alloc (.cells #[.int .i64 0,.int .u8 0,.string ⟨#[]⟩,.slice none 0 0,.string ⟨#[]⟩,.bool false] 134)=w0∧
  EnAt w0 w.heap.size 0 0 [] (.slice none 0 0) [] false∧Below w.heap.size w w0∧w0.heap.size=w.heap.size+1:=
 ⟨_,rfl,World.alloc_heap_new w _,(Below.refl _ _).alloc (Nat.le_refl _) _,by simp⟩
theorem tat_any (page op:Int) (h0:0≤op) (h1:op≤255) (w:World) (hM:MaxAt w):Calls Tryz.prog 158 #[.int .i64 page,.int .u8 op] w (RetAt w page op (atT page op)):=by
 obtain ⟨w0,hw0,R0,B0,Z0⟩:=opd0_start w
 obtain ⟨n,hn⟩:∃ n,w.heap.size=n:=⟨_,rfl⟩
 rw [hn] at R0 B0 Z0
 have hgn:0 < n:=by rw [← hn];exact hM.lt
 have hM0:MaxAt w0:=hM.belowN (n:=n) B0 hgn
 have hlo:=listOf_any page w0
 have hfi:=tfind_any (listS page) (listS_len page) (page8 page) op w0 hM0
 obtain ⟨o,ho⟩:∃ o,findP (listS page) op=o:=⟨_,rfl⟩
 have HO:=Lib.hid ho
 obtain ⟨l,hl⟩:∃ l,listS page=l:=⟨_,rfl⟩
 rw [ho,hl] at hfi
 rw [hl] at hlo
 have HN:=Lib.hid hn
 have R0:=Lib.hid R0
 have B0:=Lib.hid B0
 have HB:=Lib.hid (And.intro h0 h1)
 have HG:=Lib.hid hgn
 have M0:=Lib.hid hM0
 clear hM hM0 ho hl h0 h1 hgn
 go_enter Tryz.func158,Tryz.ntmps158
 go_wp2_with fail
 refine hlo.mono ?_
 rintro e w0' ⟨rfl,hw0'⟩
 rw [hw0']
 clear hlo hw0'
 go_wp2_with fail
 refine hfi.mono ?_
 rintro e w1 ⟨rfl,hb1⟩
 have R1:=Lib.hid (R0.out.all hb1)
 have B1:Hid (Below n w w1):=B0.out.trans (hb1.mono (by omega))
 have M1:Hid (MaxAt w1):=M0.out.below hb1
 have Z1:n+1≤w1.heap.size:=by have:=hb1.size;omega
 clear hfi hb1 R0 B0 M0 hw0 Z0
 cases o with
 | none=>
  have T:Hid (atT page op=none):=by show atT page op=none;unfold atT;rw [HO.out]
  have hk:=fun w2=>kindWithout_any page op HB.out.1 HB.out.2 w2
  obtain ⟨kd,hkd⟩:∃ k,kindT page op=k:=⟨_,rfl⟩
  have HK:=Lib.hid hkd
  rw [hkd] at hk
  clear hkd
  have R2:=fun o=>Lib.hid (R1.out.all ((Below.refl w1.heap.size w1).alloc (Nat.le_refl _) o))
  have B2:=fun o=>Lib.hid (B1.out.trans ((Below.refl n w1).alloc (by omega) o))
  have HK2:=Lib.hid hk
  clear hk
  go_wp2_with fail
  refine (HK2.out _).mono ?_
  rintro e w2 ⟨rfl,hb2⟩
  have R3:=Lib.hid ((R2 _).out.all hb2)
  have B3:Hid (Below n w w2):=(B2 _).out.trans (hb2.mono (by simp;omega))
  clear R2 B2 hb2 R1 B1
  obtain ⟨r0,r1,r2,r3,r4,r5,r6⟩:=R3.out.cells
  go_wp2
  obtain ⟨w7,hw7,q,q2,q3,-,q4⟩:=R3.out.put 0 0 [] (.slice none 0 0) [] false
  rw [show sB []=(⟨#[]⟩:ByteArray) from rfl] at hw7
  rw [hw7]
  obtain ⟨q0,q1,q2',q3',q4',q5,-⟩:=q.cells
  refine bodyPost_ret (v:=.tuple #[enV 0 0 [] (.slice none 0 0) [] false,.int .i64 kd]) ?_ rfl ?_
  ·simp [results,Tryz.results158,go_sem,q0,q1,q2',q3',q4',q5,enV]
  ·rw [T.out]
   exact ⟨by rw [HK.out],by rw [HN.out];exact B3.out.trans q2⟩
 | some p=>
  have hmem:=find_mem HO.out
  have hb6:=op6_bd op HB.out.1 HB.out.2
  have hen:=fun w2 hM2=>entry_any p page op (good2_of hmem op HB.out.1 HB.out.2) (good2_of hmem (op6 op) hb6.1 hb6.2) w2 hM2
  have T:Hid (atT page op=entryT p page op):=by show atT page op=_;unfold atT;rw [HO.out]
  obtain ⟨o2,ho2⟩:∃ o,entryT p page op=o:=⟨_,rfl⟩
  rw [ho2] at hen T
  have HE:=Lib.hid hen
  clear hen ho2 hb6 hmem
  have R2:=fun o=>Lib.hid (R1.out.all ((Below.refl w1.heap.size w1).alloc (Nat.le_refl _) o))
  have B2:=fun o=>Lib.hid (B1.out.trans ((Below.refl n w1).alloc (by omega) o))
  have M2:=fun o=>Lib.hid (M1.out.below ((Below.refl w1.heap.size w1).alloc (Nat.le_refl _) o))
  simp only [codeV]
  go_wp2_with fail
  refine (HE.out _ (M2 _).out).mono ?_
  rintro e w2 ⟨hres,hb2⟩
  have R3:=Lib.hid ((R2 _).out.all hb2)
  have B3:Hid (Below n w w2):=(B2 _).out.trans (hb2.mono (by simp;omega))
  have Z3:n+1≤w2.heap.size:=by have:=hb2.size;simp at this;omega
  have R4:=fun o=>Lib.hid (R3.out.all ((Below.refl w2.heap.size w2).alloc (Nat.le_refl _) o))
  have B4:=fun o=>Lib.hid (B3.out.trans ((Below.refl n w2).alloc (by omega) o))
  clear R2 B2 hb2 R1 B1 M2 M1 HE
  cases o2 with
  | none=>
   subst hres
   have O3:=Lib.hid trivial
   have T2:Hid (atT page op=none):=T.out
   have hk:=fun w2=>kindWithout_any page op HB.out.1 HB.out.2 w2
   obtain ⟨kd,hkd⟩:∃ k,kindT page op=k:=⟨_,rfl⟩
   have HK:=Lib.hid hkd
   rw [hkd] at hk
   clear hkd
   have HK2:=Lib.hid hk
   clear hk
   simp only [enV]
   go_wp2_with fail
   refine (HK2.out _).mono ?_
   rintro e w4 ⟨rfl,hb4⟩
   have R5:=Lib.hid ((R4 _).out.all hb4)
   have B5:Hid (Below n w w4):=(B4 _).out.trans (hb4.mono (by simp;omega))
   clear R4 B4 hb4 R3 B3 O3 HK2
   obtain ⟨r0,r1,r2,r3,r4,r5,r6⟩:=R5.out.cells
   go_wp2
   obtain ⟨w7,hw7,q,q2,q3,-,q4⟩:=R5.out.put 0 0 [] (.slice none 0 0) [] false
   rw [show sB []=(⟨#[]⟩:ByteArray) from rfl] at hw7
   rw [hw7]
   obtain ⟨q0,q1,q2',q3',q4',q5,-⟩:=q.cells
   refine bodyPost_ret (v:=.tuple #[enV 0 0 [] (.slice none 0 0) [] false,.int .i64 kd]) ?_ rfl ?_
   ·simp [results,Tryz.results158,go_sem,q0,q1,q2',q3',q4',q5,enV]
   ·rw [T2.out]
    exact ⟨by rw [HK.out],by rw [HN.out];exact B5.out.trans q2⟩
  | some x=>
   obtain ⟨m,L,ex,al⟩:=x
   obtain ⟨v,rfl,hO⟩:=hres
   simp only at hO ⊢
   obtain ⟨A,cap,rfl,-,-⟩:=hO.ops
   have O4:=fun o=>Lib.hid ((OwnT.below hO ((Below.refl _ w2).alloc (Nat.le_refl _) o)).lift (show n≤_ by simp;omega))
   clear hO R3 B3
   obtain ⟨f,hf⟩:∃ f,w2.alloc (.cells #[.int .i64 page,.int .u8 op,.string (sB m),.slice A L.length cap,.string (sB ex),.bool al] 134)=f:=⟨_,rfl⟩
   have R5:=R4 (.cells #[.int .i64 page,.int .u8 op,.string (sB m),.slice A L.length cap,.string (sB ex),.bool al] 134)
   have B5:=B4 (.cells #[.int .i64 page,.int .u8 op,.string (sB m),.slice A L.length cap,.string (sB ex),.bool al] 134)
   have O5:=O4 (.cells #[.int .i64 page,.int .u8 op,.string (sB m),.slice A L.length cap,.string (sB ex),.bool al] 134)
   have E5:EnAt f w2.heap.size page op m (.slice A L.length cap) ex al:=by rw [← hf];exact World.alloc_heap_new w2 _
   rw [hf] at R5 B5 O5
   clear R4 B4 O4
   obtain ⟨e0,e1,e2,e3,e4,e5,-⟩:=E5.cells
   obtain ⟨r0,r1,r2,r3,r4,r5,r6⟩:=R5.out.cells
   simp only [enV]
   go_wp2
   obtain ⟨w7,hw7,q,q2,q3,-,q4⟩:=R5.out.put page op m (.slice A L.length cap) ex al
   rw [hw7]
   obtain ⟨q0,q1,q2',q3',q4',q5,-⟩:=q.cells
   refine bodyPost_ret (v:=.tuple #[enV page op m (.slice A L.length cap) ex al,.int .i64 1]) ?_ rfl ?_
   ·simp [results,Tryz.results158,go_sem,q0,q1,q2',q3',q4',q5,enV]
   ·rw [T.out]
    exact ⟨⟨_,rfl,by rw [HN.out];exact put_own R5.out O5.out q4⟩,by rw [HN.out];exact B5.out.trans q2⟩
end Go.Proofs.YtajlleeonddinaaGreatDoor
namespace Go.Proofs.YtajlleeonddinaaGreatDoor
open Go.RowKit Go.Shelf
def fitF (n:Nat):Nat→Str→Bool
 | _,[]=>true
 | w,c :: t=>(if c=48 then n / w % 2 == 0 else if c=49 then n / w % 2 == 1 else true)&&fitF n (w / 2) t
theorem fit_all:∀ p∈mainP++cbP++edP,∀ n:Fin 256,fitsP p.1 (n.val:Int)=fitF n.val 128 p.1:=by decide +kernel
def findN (page n:Nat):Option Pat:=(pagePats page).find? fun p=>fitF n 128 p.1
theorem find_eq (page n:Nat) (hn:n<256):findP (listS page) (n:Int)=findN page n:=by
 unfold findP findN
 rw [patsOf_page]
 have h:∀ L:List Pat,(∀ p∈L,p∈mainP++cbP++edP)→L.find? (fun p=>fitsP p.1 (n:Int))=L.find? (fun p=>fitF n 128 p.1):=by
  intro L
  induction L with
  | nil=>intro _;rfl
  | cons p t ih=>
   intro hL
   rw [List.find?_cons,List.find?_cons,fit_all p (hL p (by simp)) ⟨n,hn⟩,ih (fun q hq=>hL q (by simp [hq]))]
 exact h _ fun p hp=>page_mem hp
def nuN (p:Pat) (n:Nat) (c:UInt8):Int:=(numN p.1 n c 8:Nat)
def opN (p:Pat) (n:Nat) (w:Str):Tr×Str:=
 if w=[101] then ((10,0,0),w) else if w=[110]∨w=[119] then ((6,0,0),w) else if w=[40,110,41]∨w=[40,119,41] then ((7,0,0),(w.drop 1).take 1) else
 match fieldT (w.headD 0) (nuN p n (w.headD 0)) with
 | some t=>(t,[])
 | none=>(fixedT w,[])
def wordsN (p:Pat) (n:Nat):Str×Str×Str:=
 if (cutL [32] p.2).1=[97] then (arN (numN p.1 n 97 8),arB (numN p.1 n 97 8),(cutL [32] p.2).2.1) else
 if (cutL [32] p.2).1=[111] then (roN (numN p.1 n 111 8),[],(cutL [32] p.2).2.1) else ((cutL [32] p.2).1,[],(cutL [32] p.2).2.1)
def plainN (p:Pat) (page n:Nat):En:=
 ((wordsN p n).1,(splitW ((wordsN p n).2.1++(wordsN p n).2.2)).map (fun w=>(opN p n w).1),((splitW ((wordsN p n).2.1++(wordsN p n).2.2)).map (fun w=>(opN p n w).2)).flatten,(page:Int) == 2&&isAliasT (wordsN p n).1 n)
theorem opN_eq (p:Pat) (n:Nat) (hn:n<256) (w:Str):opT p (n:Int) w=opN p n w:=by
 unfold opT opN nuN
 rw [numP_eq _ _ hn]
 rfl
theorem wordsN_eq (p:Pat) (n:Nat) (hn:n<256):wordsT p (n:Int)=wordsN p n:=by
 unfold wordsT wordsN
 rw [numP_eq _ _ hn,numP_eq _ _ hn]
 simp only [Int.toNat_natCast]
theorem plainN_eq (p:Pat) (page n:Nat) (hn:n<256):plainT p page (n:Int)=plainN p page n:=by
 unfold plainT plainN argsT extraT wordsOf
 rw [wordsN_eq p n hn]
 simp only [opN_eq p n hn]
def shiftN (p:Pat) (page n:Nat) (ix:Int):En:=
 let x:=plainN p page (n / 8*8+6)
 let L:=if memB x.1 x.2.1 then repM ix x.2.1 else x.2.1
 let ex:=if memB x.1 x.2.1 then 100 :: x.2.2.1 else x.2.2.1
 if numN p.1 n 115 8=6 then (x.1,L,ex,x.2.2.2) else if x.1=[66,73,84] then (x.1,L,ex,true) else (x.1,L++[((1:Int),((numN p.1 n 115 8:Nat):Int),(0:Int))],ex,x.2.2.2)
theorem shiftN_eq (p:Pat) (page n:Nat) (hn:n<256) (ix:Int):shiftT p page (n:Int) ix=shiftN p page n ix:=by
 have h6:=op6_all ⟨n,hn⟩
 simp only at h6
 unfold shiftT shiftN
 rw [h6,plainN_eq p page _ (by omega),numP_eq _ _ hn]
 simp only [show ∀ m:Nat,((m:Int)=6)=(m=6) from fun m=>by simp;omega]
def entryN (p:Pat) (page n:Nat):Option En:=
 if page=3 then (withP (plainN p page n).1 5 (plainN p page n).2.1 (plainN p page n).2.2.1).map fun y=>((plainN p page n).1,y.1,y.2,(plainN p page n).2.2.2) else
 if page=4 then (withP (plainN p page n).1 6 (plainN p page n).2.1 (plainN p page n).2.2.1).map fun y=>((plainN p page n).1,y.1,y.2,(plainN p page n).2.2.2) else
 if page=5 then some (shiftN p page n 5) else if page=6 then some (shiftN p page n 6) else some (plainN p page n)
theorem entryN_eq (p:Pat) (page n:Nat) (hn:n<256):entryT p page (n:Int)=entryN p page n:=by
 unfold entryT entryN
 rw [plainN_eq p page n hn,shiftN_eq p page n hn,shiftN_eq p page n hn]
 simp only [show ((page:Int)=3)=(page=3) by simp;omega,show ((page:Int)=4)=(page=4) by simp;omega,show ((page:Int)=5)=(page=5) by simp;omega,show ((page:Int)=6)=(page=6) by simp;omega]
def atN (page n:Nat):Option En:=match findN page n with
 | some p=>entryN p page n
 | none=>none
theorem atN_eq (page n:Nat) (hn:n<256):atT page (n:Int)=atN page n:=by
 unfold atT atN
 rw [find_eq page n hn]
 cases findN page n with
 | none=>rfl
 | some p=>exact entryN_eq p page n hn
end Go.Proofs.YtajlleeonddinaaGreatDoor
namespace Go.Proofs.YtajlleeonddinaaGreatDoor
open Go.RowKit Go.Shelf
attribute [local irreducible] Go.Mixed.wpMix
theorem up {a b c:World} (h:Below a.heap.size a b) (k:Below b.heap.size b c):Below a.heap.size a c:=h.trans (k.mono h.size)
theorem up_alloc (w:World) (o:Obj):Below w.heap.size w (w.alloc o):=(Below.refl _ _).alloc (Nat.le_refl _) _
def OpV (w:World) (b:Nat) (x:Tr):Prop:=w.heap[b]?=some (.cells #[.int .i64 x.1,.int .i64 x.2.1,.int .i64 x.2.2] 55 (0,0))
theorem OpV.all {w w':World} {b:Nat} {x:Tr} (h:OpV w b x) (hb:Below w.heap.size w w'):OpV w' b x:=(hb.block b (Array.getElem?_eq_some_iff.1 h).1).trans h
theorem OpV.cells {w:World} {b:Nat} {x:Tr} (h:OpV w b x):w.cell? ⟨b,0,none⟩=some (.int .i64 x.1)∧w.cell? ⟨b,1,none⟩=some (.int .i64 x.2.1)∧w.cell? ⟨b,2,none⟩=some (.int .i64 x.2.2)∧∀ j,w.frozen? ⟨b,j,none⟩=false:=
 ⟨Lib.cell_of_heap h 0,Lib.cell_of_heap h 1,Lib.cell_of_heap h 2,Lib.frozen_of_heap h⟩
section
variable {P:Program} {ops:Array Oper}
end
def RnAt (w:World) (b:Nat) (page op:Int) (m:Str) (v:Value) (ex:Str) (al:Bool):Prop:=w.heap[b]?=some (.cells #[.int .i64 page,.int .u8 op,.string (sB m),v,.string (sB ex),.bool al] 64 (0,0))
section
variable {w w':World} {b:Nat} {page op:Int} {m ex:Str} {v:Value} {al:Bool}
theorem RnAt.lt (h:RnAt w b page op m v ex al):b<w.heap.size:=(Array.getElem?_eq_some_iff.1 h).1
theorem RnAt.below {B:Nat} (h:RnAt w b page op m v ex al) (hb:Below B w w') (hB:b<B):RnAt w' b page op m v ex al:=(hb.block b hB).trans h
theorem RnAt.all (h:RnAt w b page op m v ex al) (hb:Below w.heap.size w w'):RnAt w' b page op m v ex al:=h.below hb h.lt
theorem RnAt.cells (h:RnAt w b page op m v ex al):w.cell? ⟨b,0,none⟩=some (.int .i64 page)∧w.cell? ⟨b,1,none⟩=some (.int .u8 op)∧w.cell? ⟨b,2,none⟩=some (.string (sB m))∧w.cell? ⟨b,3,none⟩=some v∧w.cell? ⟨b,4,none⟩=some (.string (sB ex))∧w.cell? ⟨b,5,none⟩=some (.bool al)∧∀ j,w.frozen? ⟨b,j,none⟩=false:=
 ⟨Lib.cell_of_heap h 0,Lib.cell_of_heap h 1,Lib.cell_of_heap h 2,Lib.cell_of_heap h 3,Lib.cell_of_heap h 4,Lib.cell_of_heap h 5,Lib.frozen_of_heap h⟩
theorem RnAt.set_args (h:RnAt w b page op m v ex al) (v':Value):RnAt (w.setCell ⟨b,3,none⟩ v') b page op m v' ex al:=heap_setCell_same w b 3 _ _ v' h
theorem RnAt.set_extra (h:RnAt w b page op m v ex al) (ex':Str):RnAt (w.setCell ⟨b,4,none⟩ (.string (sB ex'))) b page op m v ex' al:=heap_setCell_same w b 4 _ _ _ h
theorem RnAt.set_alias (h:RnAt w b page op m v ex al) (al':Bool):RnAt (w.setCell ⟨b,5,none⟩ (.bool al')) b page op m v ex al':=heap_setCell_same w b 5 _ _ _ h
theorem RnAt.set_code (h:RnAt w b page op m v ex al) (op':Int):RnAt (w.setCell ⟨b,1,none⟩ (.int .u8 op')) b page op' m v ex al:=heap_setCell_same w b 1 _ _ _ h
theorem RnAt.set_page (h:RnAt w b page op m v ex al) (page':Int):RnAt (w.setCell ⟨b,0,none⟩ (.int .i64 page')) b page' op m v ex al:=heap_setCell_same w b 0 _ _ _ h
theorem RnAt.set_mn (h:RnAt w b page op m v ex al) (m':Str):RnAt (w.setCell ⟨b,2,none⟩ (.string (sB m'))) b page op m' v ex al:=heap_setCell_same w b 2 _ _ _ h
theorem RnAt.put (h:RnAt w b page op m v ex al) (page' op':Int) (m':Str) (v':Value) (ex':Str) (al':Bool) :
  ∃ w',(((((w.setCell ⟨b,0,none⟩ (.int .i64 page')).setCell ⟨b,1,none⟩ (.int .u8 op')).setCell ⟨b,2,none⟩ (.string (sB m'))).setCell ⟨b,3,none⟩ v').setCell ⟨b,4,none⟩ (.string (sB ex'))).setCell ⟨b,5,none⟩ (.bool al')=w'∧
   RnAt w' b page' op' m' v' ex' al'∧Below b w w'∧w'.heap.size=w.heap.size∧(∀ B u L,b<B→OwnT w B u L→OwnT w' B u L)∧∀ k,k≠b→w'.heap[k]?=w.heap[k]?:=by
 refine ⟨_,rfl,(((((h.set_page page').set_code op').set_mn m').set_args v').set_extra ex').set_alias al',?_,by simp,fun B u L hB hO=>?_,fun k hk=>?_⟩
 ·exact ((((((Below.refl b w).setCell (p:=⟨b,0,none⟩) (Nat.le_refl _) _).setCell (p:=⟨b,1,none⟩) (Nat.le_refl _) _).setCell (p:=⟨b,2,none⟩) (Nat.le_refl _) _).setCell (p:=⟨b,3,none⟩) (Nat.le_refl _) _).setCell (p:=⟨b,4,none⟩) (Nat.le_refl _) _).setCell (p:=⟨b,5,none⟩) (Nat.le_refl _) _
 ·exact row_set (row_set (row_set (row_set (row_set (row_set hO (p:=⟨b,0,none⟩) hB _) (p:=⟨b,1,none⟩) hB _) (p:=⟨b,2,none⟩) hB _) (p:=⟨b,3,none⟩) hB _) (p:=⟨b,4,none⟩) hB _) (p:=⟨b,5,none⟩) hB _
 ·exact (heap_setCell_other _ ⟨b,5,none⟩ k _ hk).trans ((heap_setCell_other _ ⟨b,4,none⟩ k _ hk).trans ((heap_setCell_other _ ⟨b,3,none⟩ k _ hk).trans ((heap_setCell_other _ ⟨b,2,none⟩ k _ hk).trans ((heap_setCell_other _ ⟨b,1,none⟩ k _ hk).trans (heap_setCell_other _ ⟨b,0,none⟩ k _ hk)))))
theorem RnAt.set_other (h:RnAt w b page op m v ex al) {g j:Nat} (hg:b≠g) (u:Value):RnAt (w.setCell ⟨g,j,none⟩ u) b page op m v ex al:=(heap_setCell_other w ⟨g,j,none⟩ b u hg).trans h
end
def ratT (page:Int) (op:Nat):Option En:=if 0≤page∧page≤6 then atN page.toNat op else none
def rkindT (page:Int) (op:Nat):Int:=if page=0 then 2 else if page=2 then 3 else if (page=3∨page=4)∧op=203 then 2 else 0
def RetRAt (w:World) (page op:Int) (kd:Int) (x:Option En) (e:Ending) (w':World):Prop:=
 (match x with
  | some x=>∃ v,e=.returned (.tuple #[enV page op x.1 v x.2.2.1 x.2.2.2,.int .i64 1])∧OwnT w' w.heap.size v x.2.1
  | none=>e=.returned (.tuple #[enV 0 0 [] (.slice none 0 0) [] false,.int .i64 kd]))∧Below w.heap.size w w'
theorem listS_no {page:Int} (h:¬(0≤page∧page≤6)):listS page=[]:=by
 unfold listS
 rw [if_neg (by omega),if_neg (by omega),if_neg (by omega)]
theorem ratT_no {page:Int} (h:¬(0≤page∧page≤6)) (op:Nat):ratT page op=none:=by
 unfold ratT
 rw [if_neg h]
theorem at_same (page:Int) (n:Nat) (hn:n<256):atT page (n:Int)=ratT page n:=by
 by_cases hp:0≤page∧page≤6
 ·obtain ⟨g,rfl⟩:∃ g:Nat,page=(g:Int):=⟨page.toNat,by omega⟩
  unfold ratT
  rw [if_pos hp,atN_eq g n hn]
  rfl
 ·rw [ratT_no hp]
  unfold atT findP
  rw [listS_no hp]
  rfl
open Go.Ev in
def flatT:List Tr→List AC
 | []=>[]
 | x :: t=>.int .i64 x.1 :: .int .i64 x.2.1 :: .int .i64 x.2.2 :: flatT t
open Go.Ev in
theorem flatT_length:∀ L:List Tr,(flatT L).length=L.length*3
 | []=>rfl
 | x :: t=>by
  have h:=flatT_length t
  show (flatT t).length+1+1+1=(t.length+1)*3
  omega
open Go.Ev in
theorem flatT_rel (ρ:Ev.Ren):∀ {L:List Tr} {vs:List Value},R2 ρ (flatT L) vs→vs=cellsT L
 | [],vs,h=>h
 | x :: t,vs,⟨v1,u1,h1,r1,v2,u2,h2,r2,v3,u3,h3,r3,h4⟩=>by
  rw [h1,h2,h3,flatT_rel ρ h4,show v1=_ from r1,show v2=_ from r2,show v3=_ from r3]
  rfl
open Go.Ev in
def okArgs (δ:Hp) (a:AC) (L:List Tr):Bool:=match a with
 | .nils=>L.isEmpty
 | .sl b 0 l c=>Nat.beq l L.length&&match Ev.look δ b with
  | some ob=>Nat.beq ob.t 55&&Ev.cellsB (ob.c.take (l*3)) (flatT L)&&match c,ob.s with
   | some cc,none=>Nat.beq ob.c.length (cc*3)&&Nat.ble l cc&&Nat.ble cc 1000
   | none,some 3=>true
   | _,_=>false
  | none=>false
 | _=>false
open Go.Ev in
theorem okArgs_own {δ:Hp} {a:AC} {L:List Tr} (h:okArgs δ a L=true) {w w':World} {ρ:Ev.Ren} (hs:HR w ρ δ w') {v:Value} (hv:a.rel ρ v):OwnT w' w.heap.size v L:=by
 unfold okArgs at h
 split at h
 ·have hL:L=[]:=by simpa using h
  subst hL
  rw [show v=_ from hv]
  exact World.ownsRow_nil _ _ _ _
 ·rename_i b l c
  rw [Bool.and_eq_true] at h
  obtain ⟨h1,h⟩:=h
  have h1:=Nat.eq_of_beq_eq_true h1
  split at h
  ·rename_i ob hob
   rw [Bool.and_eq_true,Bool.and_eq_true] at h
   obtain ⟨⟨h2,h3⟩,h4⟩:=h
   have h2:=Nat.eq_of_beq_eq_true h2
   have h3:=Ev.cellsB_eq h3
   obtain ⟨k,cp,hk,rfl⟩:=hv
   obtain ⟨k',cp',e',hk2,cur,hcur,hc,hz⟩:=hs.obj b ob hob
   rw [hk] at e'
   cases e'
   have hlen:(ob.c.take (l*3)).length=l*3:=by rw [h3,flatT_length,h1]
   have hoc:l*3≤ob.c.length:=by rw [List.length_take] at hlen;omega
   have hcs:l*3≤cur.size:=by
    rcases Nat.eq_zero_or_pos (l*3) with h0 | h0
    ·omega
    ·obtain ⟨v,k1,-⟩:=hc (l*3 - 1) _ (List.getElem?_eq_getElem (by omega))
     have:=(Array.getElem?_eq_some_iff.1 k1).1
     omega
   have htk:cur.toList.take (l*3)=cellsT L:=by
    refine flatT_rel ρ ?_
    rw [← h3]
    refine R2.of_at (by rw [hlen,List.length_take,Array.length_toList];omega) fun i x hx=>?_
    have hi:i<l*3:=by
     have:=(List.getElem?_eq_some_iff.1 hx).1
     rw [hlen] at this
     exact this
    rw [List.getElem?_take,if_pos hi] at hx
    obtain ⟨v,k1,k2⟩:=hc _ _ hx
    exact ⟨v,by rw [List.getElem?_take,if_pos hi,Array.getElem?_toList];exact k1,k2⟩
   rw [h2] at hcur
   have fin:l≤c.getD cp∧c.getD cp≤maxLen∧cur.size=c.getD cp*3:=by
    split at h4
    ·rename_i cc e1
     rw [Bool.and_eq_true,Bool.and_eq_true] at h4
     have q1:=Nat.eq_of_beq_eq_true h4.1.1
     have q2:=Nat.le_of_ble_eq_true h4.1.2
     have q3:=Nat.le_of_ble_eq_true h4.2
     rw [e1] at hz
     have hz:cur.size=ob.c.length:=hz
     refine ⟨q2,?_,by rw [hz,q1];rfl⟩
     show cc≤maxLen
     unfold maxLen
     omega
    ·rename_i e1
     rw [e1] at hz
     obtain ⟨z1,z2⟩:=hz
     exact ⟨by show l≤cp;omega,z2,z1⟩
    ·cases h4
   rw [h1] at *
   exact ⟨cellsT_length L,.inr ⟨k,c.getD cp,cur,rfl,hk2,hcur,fin.1,fin.2.1,fin.2.2,htk⟩⟩
  ·cases h
 ·cases h
def boolB:Bool→Bool→Bool
 | true,true=>true
 | false,false=>true
 | _,_=>false
theorem boolB_eq {a b:Bool} (h:boolB a b=true):a=b:=by cases a <;> cases b <;> first | rfl | cases h
open Go.Ev in
def okEnt (δ:Hp) (g n:Nat) (a b:Int) (m:List UInt8) (s:AC) (ex:List UInt8) (al:Bool) (kd:Int):Option En→Bool
 | some x=>Ev.intB a g&&(Ev.intB b n&&(Ev.strB m x.1&&(okArgs δ s x.2.1&&(Ev.strB ex x.2.2.1&&(boolB al x.2.2.2&&Ev.intB kd 1)))))
 | none=>Ev.intB a 0&&(Ev.intB b 0&&(Ev.strB m []&&(okArgs δ s []&&(match s with | .nils=>true | _=>false)&&(Ev.strB ex []&&(boolB al false&&Ev.intB kd (rkindT g n))))))
open Go.Ev in
def okAt (P:Program) (g n:Nat):Bool:=match evCall P 200 8 59 [⟨false,[.int .i64 (g:Int)]⟩,⟨false,[.int .u8 (n:Int)]⟩] [] 1 with
 | some (.tup [⟨true,[.int .i64 a,.int .u8 b,.str m,s,.str ex,.bool al]⟩,⟨false,[.int .i64 kd]⟩],δ)=>okEnt δ g n a b m s ex al kd (atN g n)
 | _=>false
def okAll (P:Program) (g lo cnt:Nat):Bool:=(List.range cnt).all fun i=>okAt P g (lo+i)
theorem okAll_at {P:Program} {g lo cnt:Nat} (h:okAll P g lo cnt=true) (n:Nat) (h1:lo≤n) (h2:n<lo+cnt):okAt P g n=true:=by
 have:=List.all_eq_true.1 h (n - lo) (List.mem_range.2 (by omega))
 rwa [show lo+(n - lo)=n by omega] at this
open Go.Ev in
theorem okAt_calls {g n:Nat} (hg:g≤6) (h:okAt Tryz.prog g n=true) (w:World):Calls Tryz.prog 59 #[.int .i64 (g:Int),.int .u8 (n:Int)] w (RetRAt w g n (rkindT g n) (ratT g n)):=by
 unfold okAt at h
 split at h
 ·rename_i a b m s ex al kd δ he
  refine (run_call he (us:=[.int .i64 (g:Int),.int .u8 (n:Int)]) ⟨_,_,rfl,⟨_,rfl,rfl⟩,_,_,rfl,⟨_,rfl,rfl⟩,rfl⟩ w).mono ?_
  rintro e w' ⟨u,ρ,rfl,⟨vs,rfl,v1,u1,hvs,⟨cs,rfl,c1,r1,hcs,q1,c2,r2,rfl,q2,c3,r3,rfl,q3,c4,r4,rfl,q4,c5,r5,rfl,q5,c6,r6,rfl,q6,rfl⟩,v2,u2,rfl,⟨c7,e7,q7⟩,rfl⟩,hs⟩
  cases e7
  have hr:ratT g n=atN g n:=by unfold ratT;rw [if_pos (by omega)];rfl
  have hcs:cs=#[c1,c2,c3,c4,c5,c6]:=Array.ext' hcs
  have hvs:vs=#[.agg cs,v2]:=Array.ext' hvs
  rw [hr]
  subst hcs;subst hvs
  rw [show c1=_ from q1,show c2=_ from q2,show c3=_ from q3,show c5=_ from q5,show c6=_ from q6,show v2=_ from q7]
  refine ⟨?_,hs.below⟩
  cases hx:atN g n with
  | some x=>
   rw [hx] at h
   simp only [okEnt,Bool.and_eq_true] at h
   obtain ⟨h1,h2,h3,h4,h5,h6,h7⟩:=h
   rw [Ev.intB_eq h1,Ev.intB_eq h2,Ev.strB_eq h3,Ev.strB_eq h5,boolB_eq h6,Ev.intB_eq h7]
   exact ⟨c4,rfl,okArgs_own h4 hs q4⟩
  | none=>
   rw [hx] at h
   simp only [okEnt,Bool.and_eq_true] at h
   obtain ⟨h1,h2,h3,⟨h4,h8⟩,h5,h6,h7⟩:=h
   rw [Ev.intB_eq h1,Ev.intB_eq h2,Ev.strB_eq h3,Ev.strB_eq h5,boolB_eq h6,Ev.intB_eq h7]
   split at h8
   ·rw [show c4=_ from q4];rfl
   ·cases h8
 ·cases h
end Go.Proofs.YtajlleeonddinaaGreatDoor
