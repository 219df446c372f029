/-
  SeA, SeVa, NumF, NumG, NumE, NumH, NumI, NumJ, NumL, OpA, Sa, OpB, SeB, Round, Each.
-/
import Derived.Test.YtclhaejdjogfbaaGreatDoorGAA
import Derived.Laws.IdiomStrings
import Derived.Lib.SlBytesRow
import Derived.Deep.OwnRows
import Derived.Laws.EntriesVeiled
import Derived.Deep.QuietTactic
import Derived.BigQuiet
import Derived.RangeFuncBox
import Derived.Deep.DeepCutAuto
import Derived.RangeFuncNested
import Derived.RangeFuncBound
import Derived.RangeFuncCalls
import Derived.RangeFuncLeaves
import Derived.OwnWalkIn
import Derived.TacticsInMore
import Derived.Test.YtclhaejdjogfbaaGreatDoorQ0
set_option linter.all false
set_option maxRecDepth 100000
set_option maxHeartbeats 4000000
namespace Go.Proofs.YtclhaejdjogfbaaGreatDoor
open Go.RowKit
abbrev Vr:=List Int×Int×Int
def vr0:Vr:=([],0,0)
def stepV (p:Vr×Vr) (c:UInt8):Vr×Vr:=
 if c=100 then (([5],-128,127),p.2) else if c=101 then (p.1,([10],-128,127)) else if c=110 then (p.1,([6,7],0,255)) else if c=119 then (p.1,([6,7],0,65535)) else p
def varsV (ex:Str):Vr×Vr:=ex.foldl stepV (vr0,vr0)
def atV (ks:List Int):List Tr→Option Nat
 | []=>none
 | t :: r=>match atV ks r with
  | some k=>some (k+1)
  | none=>if t.1∈ks then some 0 else none
def tr0:Tr:=(0,0,0)
def numV (ks:List Int) (L:List Tr):Int:=match atV ks L with
 | some k=>(L.getD k tr0).2.2
 | none=>0
def setN (L:List Tr) (k:Nat) (n:Int):List Tr:=L.set k ((L.getD k tr0).1,(L.getD k tr0).2.1,n)
def putL (ks:List Int) (L:List Tr) (n:Int):List Tr:=match atV ks L with
 | some k=>setN L k n
 | none=>L
def inV (v:Vr) (n:Int):Bool:=decide (v.2.1≤n)&&decide (n≤v.2.2)
def putB (v:Vr) (L:List Tr) (n:Int):Bool:=match atV v.1 L with
 | some _=>inV v n
 | none=>decide (n=0)
def fillV (ex:Str) (L:List Tr) (d n:Int):Option (List Tr):=
 if putB (varsV ex).1 L d=true∧putB (varsV ex).2 (putL (varsV ex).1.1 L d) n=true then some (putL (varsV ex).2.1 (putL (varsV ex).1.1 L d) n) else none
def hasV (m:Str) (L:List Tr) (ex:Str) (s:ByteArray) (C:List Tr):Bool:=
 match fillV ex L (numV (varsV ex).1.1 C) (numV (varsV ex).2.1 C) with
 | some L2=>decide (sB m=s)&&decide (L2=C)
 | none=>false
def valV (m:Str) (L:List Tr) (ex:Str) (s:ByteArray) (C:List Tr):Int×Int:=
 if hasV m L ex s C=true then (numV (varsV ex).1.1 C,numV (varsV ex).2.1 C) else (0,0)
def ks2 (t:Tr):Int×Int:=(t.1,t.2.1)
def varKB (t:Tr):Bool:=t.1 == 6||t.1 == 7
def letR (ex:Str) (L:List Tr) (k:Nat):UInt8:=
 if (L.getD k tr0).1=5∧ex.contains 100=true then 100 else
 if (L.getD k tr0).1=10∧ex.contains 101=true then 101 else
 if varKB (L.getD k tr0)=false then 0 else
 if (L.drop (k+1)).any varKB=true then 0 else
 if ex.contains 110=true then 110 else if ex.contains 119=true then 119 else 0
def withR (c:UInt8) (n:Int):Bool:=
 if c=100∨c=101 then decide (-128≤n)&&decide (n≤127) else if c=110 then decide (0≤n)&&decide (n≤255) else decide (0≤n)&&decide (n≤65535)
def fitT (ex:Str) (L:List Tr) (k:Nat) (t:Tr):Bool:=
 if letR ex L k=0 then decide ((L.getD k tr0).2.2=t.2.2) else withR (letR ex L k) t.2.2
def shpR (m:Str) (L:List Tr) (s:ByteArray) (C:List Tr):Bool:=decide (sB m=s)&&decide (L.map ks2=C.map ks2)
def fitsR (m:Str) (L:List Tr) (ex:Str) (s:ByteArray) (C:List Tr):Bool:=shpR m L s C&&(List.range C.length).all fun k=>fitT ex L k (C.getD k tr0)
def rangeR (c:UInt8):Int×Int:=if c=100∨c=101 then (-128,127) else if c=110 then (0,255) else (0,65535)
def placeB (ex:Str) (L:List Tr) (k:Nat):Bool:=
 if atV (varsV ex).1.1 L=some k then letR ex L k == 100&&decide ((varsV ex).1.2=rangeR 100)&&decide (atV (varsV ex).2.1 L≠some k) else
 if atV (varsV ex).2.1 L=some k then letR ex L k != 100&&letR ex L k != 0&&decide ((varsV ex).2.2=rangeR (letR ex L k)) else letR ex L k == 0
def placesB (ex:Str) (L:List Tr):Bool:=(List.range L.length).all fun k=>placeB ex L k
theorem withR_range (c:UInt8) (n:Int):withR c n=(decide ((rangeR c).1≤n)&&decide (n≤(rangeR c).2)):=by
 unfold withR rangeR
 split
 ·rfl
 ·split <;> rfl
theorem atV_lt {ks:List Int}:∀ {L:List Tr} {k:Nat},atV ks L=some k→k<L.length
 | [],k,h=>by cases h
 | t :: r,k,h=>by
  unfold atV at h
  cases hr:atV ks r with
  | some j=>
   rw [hr] at h
   obtain rfl:=Option.some.inj h
   have:=atV_lt hr
   simp;omega
  | none=>
   rw [hr] at h
   simp only at h
   split at h
   ·obtain rfl:=Option.some.inj h
    simp
   ·cases h
theorem atV_congr (ks:List Int):∀ {L C:List Tr},L.map ks2=C.map ks2→atV ks L=atV ks C
 | [],[],_=>rfl
 | [],c :: C,h=>by simp at h
 | t :: L,[],h=>by simp at h
 | t :: L,c :: C,h=>by
  simp only [List.map_cons,List.cons.injEq] at h
  unfold atV
  rw [atV_congr ks h.2]
  have h1:t.1=c.1:=congrArg (fun z:Int×Int=>z.1) h.1
  rw [h1]
theorem setN_shape (L:List Tr) (k:Nat) (n:Int):(setN L k n).map ks2=L.map ks2:=by
 unfold setN
 refine List.ext_getElem (by simp) fun i h1 h2=>?_
 rw [List.getElem_map,List.getElem_map,List.getElem_set]
 have hi:i<L.length:=by simpa using h2
 split
 ·rename_i e
  subst e
  rw [List.getD_eq_getElem?_getD,List.getElem?_eq_getElem hi]
  rfl
 ·rfl
theorem putL_shape (ks:List Int) (L:List Tr) (n:Int):(putL ks L n).map ks2=L.map ks2:=by
 unfold putL
 split
 ·exact setN_shape L _ n
 ·rfl
theorem setN_get (L:List Tr) (k:Nat) (n:Int) (i:Nat) (hi:i<L.length):(setN L k n).getD i tr0=if i=k then ((L.getD i tr0).1,(L.getD i tr0).2.1,n) else L.getD i tr0:=by
 unfold setN
 rw [List.getD_eq_getElem?_getD,List.getElem?_set]
 by_cases e:k=i
 ·subst e
  rw [if_pos rfl,if_pos hi,if_pos rfl]
  rfl
 ·rw [if_neg e,if_neg (fun h=>e h.symm),List.getD_eq_getElem?_getD]
theorem putL_get (ks:List Int) (L:List Tr) (n:Int) (i:Nat) (hi:i<L.length):(putL ks L n).getD i tr0=if atV ks L=some i then ((L.getD i tr0).1,(L.getD i tr0).2.1,n) else L.getD i tr0:=by
 unfold putL
 cases h:atV ks L with
 | none=>simp
 | some k=>
  simp only [Option.some.injEq]
  rw [setN_get L k n i hi]
  by_cases e:i=k
  ·rw [if_pos e,if_pos e.symm]
  ·rw [if_neg e,if_neg (fun h=>e h.symm)]
theorem len_of_shape {L C:List Tr} (h:L.map ks2=C.map ks2):L.length=C.length:=by simpa using congrArg List.length h
theorem get_of_shape {L C:List Tr} (h:L.map ks2=C.map ks2) (i:Nat) (hi:i<L.length):(L.getD i tr0).1=(C.getD i tr0).1∧(L.getD i tr0).2.1=(C.getD i tr0).2.1:=by
 have hc:i<C.length:=by rw [← len_of_shape h];exact hi
 have h1:=congrArg (fun z=>z[i]?) h
 simp only [List.getElem?_map,List.getElem?_eq_getElem hi,List.getElem?_eq_getElem hc,Option.map_some,Option.some.injEq] at h1
 rw [List.getD_eq_getElem?_getD,List.getD_eq_getElem?_getD,List.getElem?_eq_getElem hi,List.getElem?_eq_getElem hc]
 exact ⟨congrArg (fun z:Int×Int=>z.1) h1,congrArg (fun z:Int×Int=>z.2) h1⟩
theorem ext_getD {L C:List Tr} (hl:L.length=C.length) (h:∀ i,i<L.length→L.getD i tr0=C.getD i tr0):L=C:=by
 refine List.ext_getElem hl fun i h1 h2=>?_
 have:=h i h1
 rw [List.getD_eq_getElem?_getD,List.getD_eq_getElem?_getD,List.getElem?_eq_getElem h1,List.getElem?_eq_getElem h2] at this
 exact this
theorem fill_shape {ex:Str} {L L2:List Tr} {d n:Int} (h:fillV ex L d n=some L2):L2.map ks2=L.map ks2∧putB (varsV ex).1 L d=true∧putB (varsV ex).2 L n=true∧L2=putL (varsV ex).2.1 (putL (varsV ex).1.1 L d) n:=by
 unfold fillV at h
 split at h
 ·rename_i hc
  obtain rfl:=Option.some.inj h
  refine ⟨(putL_shape _ _ _).trans (putL_shape _ _ _),hc.1,?_,rfl⟩
  have h2:=hc.2
  unfold putB at h2 ⊢
  rw [← atV_congr (varsV ex).2.1 (putL_shape (varsV ex).1.1 L d)]
  exact h2
 ·cases h
theorem places_at {ex:Str} {L:List Tr} (h:placesB ex L=true) (k:Nat) (hk:k<L.length):placeB ex L k=true:=List.all_eq_true.1 h k (List.mem_range.2 hk)
theorem fill_get {ex:Str} {L L2:List Tr} {d n:Int} (h:fillV ex L d n=some L2) (i:Nat) (hi:i<L.length) :
  L2.getD i tr0=if atV (varsV ex).2.1 L=some i then ((L.getD i tr0).1,(L.getD i tr0).2.1,n) else if atV (varsV ex).1.1 L=some i then ((L.getD i tr0).1,(L.getD i tr0).2.1,d) else L.getD i tr0:=by
 obtain ⟨-,-,-,rfl⟩:=fill_shape h
 have h1:=len_of_shape (putL_shape (varsV ex).1.1 L d)
 rw [putL_get _ _ _ _ (by omega),atV_congr (varsV ex).2.1 (putL_shape (varsV ex).1.1 L d),putL_get _ _ _ _ hi]
 split
 ·split <;> rfl
 ·rfl
theorem has_fits {m ex:Str} {L:List Tr} (hp:placesB ex L=true) (s:ByteArray) (C:List Tr):hasV m L ex s C=fitsR m L ex s C:=by
 by_cases hs:sB m=s
 rotate_left
 ·unfold hasV fitsR shpR
  rw [decide_eq_false hs]
  split <;> simp
 by_cases hsh:L.map ks2=C.map ks2
 rotate_left
 ·have e2:fitsR m L ex s C=false:=by unfold fitsR shpR;rw [decide_eq_false hsh];simp
  rw [e2]
  unfold hasV
  cases hf:fillV ex L (numV (varsV ex).1.1 C) (numV (varsV ex).2.1 C) with
  | none=>rfl
  | some L2=>
   have h1:=(fill_shape hf).1
   have:L2≠C:=fun e=>hsh (by rw [← h1,e])
   simp [this]
 have hl:=len_of_shape hsh
 have a1:=atV_congr (varsV ex).1.1 hsh
 have a2:=atV_congr (varsV ex).2.1 hsh
 rw [Bool.eq_iff_iff]
 constructor
 ·intro h
  unfold hasV at h
  cases hf:fillV ex L (numV (varsV ex).1.1 C) (numV (varsV ex).2.1 C) with
  | none=>rw [hf] at h;cases h
  | some L2=>
   rw [hf] at h
   simp only [Bool.and_eq_true,decide_eq_true_eq] at h
   obtain rfl:=h.2
   unfold fitsR shpR
   rw [decide_eq_true hs,decide_eq_true hsh]
   simp only [Bool.and_self,Bool.true_and,List.all_eq_true,List.mem_range]
   intro k hk
   have hk':k<L.length:=by omega
   have hg:=fill_get hf k hk'
   have hpl:=places_at hp k hk'
   obtain ⟨-,b1,b2,-⟩:=fill_shape hf
   unfold fitT
   unfold placeB at hpl
   by_cases e1:atV (varsV ex).1.1 L=some k
   ·rw [if_pos e1] at hpl
    simp only [Bool.and_eq_true,beq_iff_eq,decide_eq_true_eq] at hpl
    rw [hpl.1.1,if_neg (by decide),withR_range,← hpl.1.2]
    rw [if_neg hpl.2,if_pos e1] at hg
    unfold putB at b1
    rw [e1] at b1
    rw [hg]
    exact b1
   ·rw [if_neg e1] at hpl
    by_cases e2:atV (varsV ex).2.1 L=some k
    ·rw [if_pos e2] at hpl
     simp only [Bool.and_eq_true,bne_iff_ne,decide_eq_true_eq] at hpl
     rw [if_neg hpl.1.2,withR_range,← hpl.2]
     rw [if_pos e2] at hg
     unfold putB at b2
     rw [e2] at b2
     rw [hg]
     exact b2
    ·rw [if_neg e2] at hpl
     rw [if_pos (by simpa using hpl)]
     rw [if_neg e2,if_neg e1] at hg
     rw [hg]
     exact decide_eq_true rfl
 ·intro h
  unfold fitsR shpR at h
  simp only [Bool.and_eq_true,List.all_eq_true,List.mem_range] at h
  have hfit:∀ k,k<L.length→fitT ex L k (C.getD k tr0)=true:=fun k hk=>h.2 k (by omega)
  have n1:∀ k,atV (varsV ex).1.1 L=some k→numV (varsV ex).1.1 C=(C.getD k tr0).2.2:=fun k hk=>by unfold numV;rw [← a1,hk]
  have n2:∀ k,atV (varsV ex).2.1 L=some k→numV (varsV ex).2.1 C=(C.getD k tr0).2.2:=fun k hk=>by unfold numV;rw [← a2,hk]
  have b1:putB (varsV ex).1 L (numV (varsV ex).1.1 C)=true:=by
   unfold putB
   cases e1:atV (varsV ex).1.1 L with
   | none=>simp only;unfold numV;rw [← a1,e1];exact decide_eq_true rfl
   | some k=>
    have hk:=atV_lt e1
    have hpl:=places_at hp k hk
    have hf:=hfit k hk
    unfold placeB at hpl
    rw [if_pos e1] at hpl
    simp only [Bool.and_eq_true,beq_iff_eq,decide_eq_true_eq] at hpl
    unfold fitT at hf
    rw [hpl.1.1,if_neg (by decide),withR_range,← hpl.1.2,← n1 k e1] at hf
    exact hf
  have b2:putB (varsV ex).2 (putL (varsV ex).1.1 L (numV (varsV ex).1.1 C)) (numV (varsV ex).2.1 C)=true:=by
   unfold putB
   rw [atV_congr (varsV ex).2.1 (putL_shape (varsV ex).1.1 L _)]
   cases e2:atV (varsV ex).2.1 L with
   | none=>simp only;unfold numV;rw [← a2,e2];exact decide_eq_true rfl
   | some k=>
    have hk:=atV_lt e2
    have hpl:=places_at hp k hk
    have hf:=hfit k hk
    unfold placeB at hpl
    have e1:¬atV (varsV ex).1.1 L=some k:=fun e1=>by
     rw [if_pos e1] at hpl
     simp only [Bool.and_eq_true,decide_eq_true_eq] at hpl
     exact hpl.2 e2
    rw [if_neg e1,if_pos e2] at hpl
    simp only [Bool.and_eq_true,bne_iff_ne,decide_eq_true_eq] at hpl
    unfold fitT at hf
    rw [if_neg hpl.1.2,withR_range,← hpl.2,← n2 k e2] at hf
    exact hf
  have hf:fillV ex L (numV (varsV ex).1.1 C) (numV (varsV ex).2.1 C)=some (putL (varsV ex).2.1 (putL (varsV ex).1.1 L (numV (varsV ex).1.1 C)) (numV (varsV ex).2.1 C)):=by
   unfold fillV
   rw [if_pos ⟨b1,b2⟩]
  unfold hasV
  rw [hf]
  simp only [Bool.and_eq_true,decide_eq_true_eq]
  refine ⟨hs,?_⟩
  have hsh2:=(fill_shape hf).1
  have hl2:=len_of_shape hsh2
  refine ext_getD (by omega) fun i hi=>?_
  have hi':i<L.length:=by omega
  have hg:=fill_get hf i hi'
  have hgs:=get_of_shape hsh i hi'
  rw [hg]
  have hpl:=places_at hp i hi'
  have hfi:=hfit i hi'
  unfold placeB at hpl
  have e3:∀ n:Int,(C.getD i tr0).2.2=n→((L.getD i tr0).1,(L.getD i tr0).2.1,n)=C.getD i tr0:=fun n hn=>by rw [hgs.1,hgs.2,← hn]
  by_cases e2:atV (varsV ex).2.1 L=some i
  ·rw [if_pos e2]
   exact e3 _ (n2 i e2).symm
  ·rw [if_neg e2]
   by_cases e1:atV (varsV ex).1.1 L=some i
   ·rw [if_pos e1]
    exact e3 _ (n1 i e1).symm
   ·rw [if_neg e1]
    rw [if_neg e1,if_neg e2] at hpl
    unfold fitT at hfi
    rw [if_pos (by simpa using hpl)] at hfi
    have:=of_decide_eq_true hfi
    exact e3 _ this.symm
end Go.Proofs.YtclhaejdjogfbaaGreatDoor
namespace Go.Proofs.YtclhaejdjogfbaaGreatDoor
open Go.RowKit
theorem letR_cases (ex:Str) (L:List Tr) (k:Nat):letR ex L k=100∨letR ex L k=101∨letR ex L k=110∨letR ex L k=119∨letR ex L k=0:=by
 unfold letR
 repeat' split
 all_goals simp
def valR (ex:Str) (L C:List Tr):Nat→Int×Int
 | 0=>(0,0)
 | k+1=>if letR ex L k=100 then ((C.getD k tr0).2.2,(valR ex L C k).2) else if letR ex L k=0 then valR ex L C k else ((valR ex L C k).1,(C.getD k tr0).2.2)
def numTo (ks:List Int) (L C:List Tr) (k:Nat):Int:=match atV ks L with
 | some j=>if j<k then (C.getD j tr0).2.2 else 0
 | none=>0
theorem numTo_hit {ks:List Int} {L C:List Tr} {k:Nat} (h:atV ks L=some k):numTo ks L C (k+1)=(C.getD k tr0).2.2:=by
 unfold numTo
 rw [h]
 simp
theorem numTo_miss {ks:List Int} {L C:List Tr} {k:Nat} (h:atV ks L≠some k):numTo ks L C (k+1)=numTo ks L C k:=by
 unfold numTo
 cases hj:atV ks L with
 | none=>rfl
 | some j=>
  have:j≠k:=fun e=>h (by rw [hj,e])
  simp only
  by_cases h1:j<k
  ·rw [if_pos h1,if_pos (by omega)]
  ·rw [if_neg h1,if_neg (by omega)]
theorem valR_eq {ex:Str} {L:List Tr} (C:List Tr) (hp:placesB ex L=true):∀ k,k≤L.length→valR ex L C k=(numTo (varsV ex).1.1 L C k,numTo (varsV ex).2.1 L C k)
 | 0,_=>by
  have e:∀ ks,numTo ks L C 0=0:=fun ks=>by unfold numTo;split <;> simp
  rw [e,e]
  rfl
 | k+1,hk=>by
  have ih:=valR_eq C hp k (by omega)
  have hpk:=List.all_eq_true.1 hp k (List.mem_range.2 (by omega))
  unfold placeB at hpk
  unfold valR
  by_cases h1:atV (varsV ex).1.1 L=some k
  ·rw [if_pos h1] at hpk
   simp only [Bool.and_eq_true,beq_iff_eq,decide_eq_true_eq] at hpk
   rw [if_pos hpk.1.1,numTo_hit h1,numTo_miss hpk.2,ih]
  ·rw [if_neg h1] at hpk
   by_cases h2:atV (varsV ex).2.1 L=some k
   ·rw [if_pos h2] at hpk
    simp only [Bool.and_eq_true,bne_iff_ne,ne_eq,decide_eq_true_eq] at hpk
    rw [if_neg hpk.1.1,if_neg hpk.1.2,numTo_miss h1,numTo_hit h2,ih]
   ·rw [if_neg h2] at hpk
    have hz:letR ex L k=0:=beq_iff_eq.1 hpk
    rw [if_neg (by rw [hz];decide),if_pos hz,numTo_miss h1,numTo_miss h2,ih]
theorem numTo_all {ks:List Int} {L C:List Tr} (h:L.map ks2=C.map ks2):numTo ks L C L.length=numV ks C:=by
 unfold numTo numV
 rw [← atV_congr ks h]
 cases hj:atV ks L with
 | none=>rfl
 | some j=>simp [atV_lt hj]
theorem val_same {m ex:Str} {L:List Tr} (hp:placesB ex L=true) (s:ByteArray) (C:List Tr):valV m L ex s C=if fitsR m L ex s C=true then valR ex L C C.length else (0,0):=by
 unfold valV
 rw [has_fits hp]
 by_cases hf:fitsR m L ex s C=true
 ·rw [if_pos hf,if_pos hf]
  have hsh:L.map ks2=C.map ks2:=by
   unfold fitsR shpR at hf
   simp only [Bool.and_eq_true,decide_eq_true_eq] at hf
   exact hf.1.2
  rw [← len_of_shape hsh,valR_eq C hp _ (Nat.le_refl _),numTo_all hsh,numTo_all hsh]
 ·rw [if_neg hf,if_neg hf]
def stR (ex:Str) (L:List Tr) (d n:Int) (k:Nat):Tr:=if letR ex L k=100 then ((L.getD k tr0).1,(L.getD k tr0).2.1,d) else if letR ex L k=0 then L.getD k tr0 else ((L.getD k tr0).1,(L.getD k tr0).2.1,n)
def okR (ex:Str) (L:List Tr) (d n:Int) (k:Nat):Bool:=letR ex L k == 0||withR (letR ex L k) (stR ex L d n k).2.2
def useD (ex:Str) (L:List Tr) (d:Int) (k:Nat):Bool:=(d == 0)||(List.range k).any fun j=>letR ex L j == 100
def useN (ex:Str) (L:List Tr) (n:Int) (k:Nat):Bool:=(n == 0)||(List.range k).any fun j=>letR ex L j != 100&&letR ex L j != 0
def fillR (ex:Str) (L:List Tr) (d n:Int):Option (List Tr):=
 if (List.range L.length).all (okR ex L d n)=true∧useD ex L d L.length=true∧useN ex L n L.length=true then some ((List.range L.length).map (stR ex L d n)) else none
theorem let_d {ex:Str} {L:List Tr} (hp:placesB ex L=true) {k:Nat} (hk:k<L.length):letR ex L k=100↔atV (varsV ex).1.1 L=some k:=by
 have h:=places_at hp k hk
 unfold placeB at h
 constructor
 ·intro e
  by_cases h1:atV (varsV ex).1.1 L=some k
  ·exact h1
  ·rw [if_neg h1] at h
   by_cases h2:atV (varsV ex).2.1 L=some k
   ·rw [if_pos h2,e] at h
    simp at h
   ·rw [if_neg h2,e] at h
    cases h
 ·intro h1
  rw [if_pos h1] at h
  simp only [Bool.and_eq_true,beq_iff_eq,decide_eq_true_eq] at h
  exact h.1.1
theorem let_n {ex:Str} {L:List Tr} (hp:placesB ex L=true) {k:Nat} (hk:k<L.length):(letR ex L k≠100∧letR ex L k≠0)↔atV (varsV ex).2.1 L=some k:=by
 have h:=places_at hp k hk
 unfold placeB at h
 constructor
 ·rintro ⟨e1,e2⟩
  by_cases h1:atV (varsV ex).1.1 L=some k
  ·exact absurd ((let_d hp hk).2 h1) e1
  ·rw [if_neg h1] at h
   by_cases h2:atV (varsV ex).2.1 L=some k
   ·exact h2
   ·rw [if_neg h2] at h
    exact absurd (beq_iff_eq.1 h) e2
 ·intro h2
  by_cases h1:atV (varsV ex).1.1 L=some k
  ·rw [if_pos h1] at h
   simp only [Bool.and_eq_true,decide_eq_true_eq] at h
   exact absurd h2 h.2
  ·rw [if_neg h1,if_pos h2] at h
   simp only [Bool.and_eq_true,bne_iff_ne,ne_eq,decide_eq_true_eq] at h
   exact h.1
theorem rng_d {ex:Str} {L:List Tr} (hp:placesB ex L=true) {k:Nat} (h1:atV (varsV ex).1.1 L=some k) (d:Int):inV (varsV ex).1 d=withR 100 d:=by
 have h:=places_at hp k (atV_lt h1)
 unfold placeB at h
 rw [if_pos h1] at h
 simp only [Bool.and_eq_true,beq_iff_eq,decide_eq_true_eq] at h
 rw [withR_range]
 unfold inV
 rw [← h.1.2]
theorem rng_n {ex:Str} {L:List Tr} (hp:placesB ex L=true) {k:Nat} (h2:atV (varsV ex).2.1 L=some k) (n:Int):inV (varsV ex).2 n=withR (letR ex L k) n:=by
 have h:=places_at hp k (atV_lt h2)
 unfold placeB at h
 by_cases h1:atV (varsV ex).1.1 L=some k
 ·rw [if_pos h1] at h
  simp only [Bool.and_eq_true,decide_eq_true_eq] at h
  exact absurd h2 h.2
 ·rw [if_neg h1,if_pos h2] at h
  simp only [Bool.and_eq_true,bne_iff_ne,ne_eq,decide_eq_true_eq] at h
  rw [withR_range]
  unfold inV
  rw [← h.2]
theorem put_d {ex:Str} {L:List Tr} (hp:placesB ex L=true) (d n:Int):putB (varsV ex).1 L d=true↔(∀ k,k<L.length→letR ex L k=100→okR ex L d n k=true)∧useD ex L d L.length=true:=by
 unfold putB useD
 cases hj:atV (varsV ex).1.1 L with
 | none=>
  simp only [decide_eq_true_eq,Bool.or_eq_true,beq_iff_eq,List.any_eq_true,List.mem_range]
  have hno:∀ k,k<L.length→letR ex L k≠100:=fun k hk e=>by
   have:=(let_d hp hk).1 e
   rw [hj] at this
   cases this
  constructor
  ·exact fun h=>⟨fun k hk e=>absurd e (hno k hk),.inl h⟩
  ·rintro ⟨-,h | ⟨k,hk,e⟩⟩
   ·exact h
   ·exact absurd e (hno k hk)
 | some j=>
  have hjl:=atV_lt hj
  have hlj:=(let_d hp hjl).2 hj
  simp only
  rw [rng_d hp hj]
  simp only [Bool.or_eq_true,beq_iff_eq,List.any_eq_true,List.mem_range]
  constructor
  ·intro h
   refine ⟨fun k hk e=>?_,.inr ⟨j,hjl,hlj⟩⟩
   unfold okR stR
   rw [if_pos e,e]
   simp [h]
  ·rintro ⟨h,-⟩
   have:=h j hjl hlj
   unfold okR stR at this
   rw [if_pos hlj,hlj] at this
   simpa using this
theorem put_n {ex:Str} {L:List Tr} (hp:placesB ex L=true) (d n:Int):putB (varsV ex).2 L n=true↔(∀ k,k<L.length→letR ex L k≠100→letR ex L k≠0→okR ex L d n k=true)∧useN ex L n L.length=true:=by
 unfold putB useN
 cases hj:atV (varsV ex).2.1 L with
 | none=>
  simp only [decide_eq_true_eq,Bool.or_eq_true,beq_iff_eq,List.any_eq_true,List.mem_range,Bool.and_eq_true,bne_iff_ne,ne_eq]
  have hno:∀ k,k<L.length→¬(letR ex L k≠100∧letR ex L k≠0):=fun k hk e=>by
   have:=(let_n hp hk).1 e
   rw [hj] at this
   cases this
  constructor
  ·exact fun h=>⟨fun k hk e1 e2=>absurd ⟨e1,e2⟩ (hno k hk),.inl h⟩
  ·rintro ⟨-,h | ⟨k,hk,e⟩⟩
   ·exact h
   ·exact absurd e (hno k hk)
 | some j=>
  have hjl:=atV_lt hj
  have hlj:=(let_n hp hjl).2 hj
  simp only
  rw [rng_n hp hj]
  simp only [Bool.or_eq_true,beq_iff_eq,List.any_eq_true,List.mem_range,Bool.and_eq_true,bne_iff_ne,ne_eq]
  constructor
  ·intro h
   refine ⟨fun k hk e1 e2=>?_,.inr ⟨j,hjl,hlj⟩⟩
   have hkj:k=j:=by
    have:=(let_n hp hk).1 ⟨e1,e2⟩
    rw [hj] at this
    exact (Option.some.inj this).symm
   subst hkj
   unfold okR stR
   rw [if_neg e1,if_neg e2]
   simp [h]
  ·rintro ⟨h,-⟩
   have:=h j hjl hlj.1 hlj.2
   unfold okR stR at this
   rw [if_neg hlj.1,if_neg hlj.2] at this
   simpa [hlj.2] using this
theorem putB_shape (v:Vr) {L C:List Tr} (h:L.map ks2=C.map ks2) (n:Int):putB v L n=putB v C n:=by
 unfold putB
 rw [atV_congr v.1 h]
theorem fill_same {ex:Str} {L:List Tr} (hp:placesB ex L=true) (d n:Int):fillR ex L d n=fillV ex L d n:=by
 have hd:=put_d hp d n
 have hn:=put_n hp d n
 have hsh:=putL_shape (varsV ex).1.1 L d
 rw [← putB_shape _ hsh] at hn
 have hc:((List.range L.length).all (okR ex L d n)=true∧useD ex L d L.length=true∧useN ex L n L.length=true)↔(putB (varsV ex).1 L d=true∧putB (varsV ex).2 (putL (varsV ex).1.1 L d) n=true):=by
  rw [hd,hn,List.all_eq_true]
  constructor
  ·rintro ⟨h1,h2,h3⟩
   exact ⟨⟨fun k hk _=>h1 k (List.mem_range.2 hk),h2⟩,fun k hk _ _=>h1 k (List.mem_range.2 hk),h3⟩
  ·rintro ⟨⟨h1,h2⟩,h3,h4⟩
   refine ⟨fun k hk=>?_,h2,h4⟩
   have hk:=List.mem_range.1 hk
   by_cases e1:letR ex L k=100
   ·exact h1 k hk e1
   ·by_cases e2:letR ex L k=0
    ·unfold okR
     rw [e2]
     rfl
    ·exact h3 k hk e1 e2
 unfold fillR
 by_cases h:putB (varsV ex).1 L d=true∧putB (varsV ex).2 (putL (varsV ex).1.1 L d) n=true
 ·have hf:fillV ex L d n=some (putL (varsV ex).2.1 (putL (varsV ex).1.1 L d) n):=by unfold fillV;rw [if_pos h]
  rw [if_pos (hc.2 h),hf]
  have hl:=len_of_shape (fill_shape hf).1
  refine congrArg some (ext_getD (by rw [List.length_map,List.length_range];exact hl.symm) fun i hi=>?_)
  rw [List.length_map,List.length_range] at hi
  rw [fill_get hf i hi,List.getD_eq_getElem?_getD,List.getElem?_map,List.getElem?_range hi]
  simp only [Option.map_some,Option.getD_some]
  unfold stR
  by_cases e1:letR ex L i=100
  ·have a1:=(let_d hp hi).1 e1
   have a2:atV (varsV ex).2.1 L≠some i:=fun e=>((let_n hp hi).2 e).1 e1
   rw [if_pos e1,if_neg a2,if_pos a1]
  ·have a1:atV (varsV ex).1.1 L≠some i:=fun e=>e1 ((let_d hp hi).2 e)
   rw [if_neg e1]
   by_cases e2:letR ex L i=0
   ·have a2:atV (varsV ex).2.1 L≠some i:=fun e=>((let_n hp hi).2 e).2 e2
    rw [if_pos e2,if_neg a2,if_neg a1]
   ·rw [if_neg e2,if_pos ((let_n hp hi).1 ⟨e1,e2⟩)]
 ·have hf:fillV ex L d n=none:=by unfold fillV;rw [if_neg h]
  rw [if_neg (fun e=>h (hc.1 e)),hf]
end Go.Proofs.YtclhaejdjogfbaaGreatDoor
namespace Go.Proofs.YtclhaejdjogfbaaGreatDoor
open Go.RowKit
def IntsAt (w:World) (A:Option Addr) (zs:List Int):Prop:=
 zs=[]∨∃ b off,A=some ⟨b,off,none⟩∧∀ j (h:j<zs.length),w.cell? ⟨b,off+j,none⟩=some (.int .i64 zs[j])
theorem IntsAt.at_ {w:World} {A:Option Addr} {zs:List Int} (h:IntsAt w A zs) {k:Nat} (hk:k<zs.length):∃ b off,A=some ⟨b,off,none⟩∧w.cell? ⟨b,off+k,none⟩=some (.int .i64 zs[k]):=by
 rcases h with rfl | ⟨b,off,rfl,hc⟩
 ·simp at hk
 ·exact ⟨b,off,rfl,hc k hk⟩
def fitsB (lo hi:Int) (zs:List Int):Bool:=zs.all fun n=>decide (lo≤n)&&decide (n≤hi)
theorem fits_bad (lo hi:Int) (zs:List Int) (k:Nat) (h:k<zs.length) (hb:zs[k]<lo∨hi<zs[k]):fitsB lo hi zs=false:=by
 unfold fitsB
 rw [List.all_eq_false]
 refine ⟨zs[k],List.getElem_mem h,?_⟩
 simp
 omega
theorem fits_all (lo hi:Int) (zs:List Int) (h:∀ j (h:j<zs.length),lo≤zs[j]∧zs[j]≤hi):fitsB lo hi zs=true:=by
 unfold fitsB
 rw [List.all_eq_true]
 intro x hx
 obtain ⟨j,hj,rfl⟩:=List.getElem_of_mem hx
 have:=h j hj
 simp
 omega
theorem fits_any (lo hi:Int) (A:Option Addr) (cap:Nat) (zs:List Int) (hl:zs.length≤maxLen) (w:World) (hz:IntsAt w A zs) :
  Calls Tryz.prog 128 #[.int .i64 lo,.int .i64 hi,.slice A zs.length cap] w fun e w'=>e=.returned (.bool (fitsB lo hi zs))∧w=w':=by
 unfold maxLen at hl
 have Z:=J9 hz
 clear hz
 go_enter Tryz.func128,Tryz.ntmps128
 go_wp2
 go_loop [11] (fun i=>∃ k:Nat,k≤zs.length∧i=.int .i64 k∧Hid (∀ j (h:j<zs.length),j<k→lo≤zs[j]∧zs[j]≤hi)) (fun i=>zs.length - (intOf i).toNat)
 case atStart=>exact ⟨0,Nat.zero_le _,rfl,fun j h h'=>by omega⟩
 case round=>
  obtain ⟨k,hk,rfl,R⟩:=hrel
  by_cases hlt:k<zs.length
  ·obtain ⟨b,off,hA,hc⟩:=Z.out.at_ hlt
   subst hA
   by_cases h1:zs[k]<lo
   ·have F:=J9 (fits_bad lo hi zs k hlt (.inl h1))
    go_wp2
    go_ret
    exact ⟨ret_bool F.out.symm,rfl⟩
   ·by_cases h2:hi<zs[k]
    ·have F:=J9 (fits_bad lo hi zs k hlt (.inr h2))
     go_wp2
     go_ret
     exact ⟨ret_bool F.out.symm,rfl⟩
    ·have N:Hid (∀ j (h:j<zs.length),j<k+1→lo≤zs[j]∧zs[j]≤hi):=fun j h h'=>by
      by_cases e:j=k
      ·subst e;omega
      ·exact R.out j h (by omega)
     go_wp2
     go_round
     case rel=>exact ⟨k+1,by omega,by go_num,N⟩
     case measure=>simp [intOf];omega
  ·have F:=J9 (fits_all lo hi zs fun j h=>R.out j h (by omega))
   go_wp2
   go_ret
   exact ⟨ret_bool F.out.symm,rfl⟩
theorem ints_one (w:World) (x:Int) (t:TypeId):IntsAt (w.alloc (.cells #[.int .i64 x] t)) (some ⟨w.heap.size,0,none⟩) [x]:=by
 refine .inr ⟨_,_,rfl,fun j h=>?_⟩
 obtain rfl:j=0:=by simp at h;omega
 simp [go_sem]
theorem info_u8:(Tryz.prog.info? 5).map (fun i=>(i.zero,i.size,i.bytes))=some (some (.int .u8 0),1,1):=by kernel_rfl
def hexU (x:Int):UInt8:=(if x<10 then 48+x else 55+x).toNat.toUInt8
def hexTab:ByteArray:=⟨#[48,49,50,51,52,53,54,55,56,57,65,66,67,68,69,70]⟩
theorem hexTab_at (x:Int) (h0:0≤x) (h1:x<16) (h:x.toNat<hexTab.size):hexTab[x.toNat]=hexU x:=by
 have t:∀ i:Fin 16,∀ h:i.val<hexTab.size,hexTab[i.val]=hexU (i.val:Int):=by decide +kernel
 have:=t ⟨x.toNat,by omega⟩ h
 simpa [Int.toNat_of_nonneg h0] using this
theorem and15 (x:Int):bits .and .i64 x 15=x % 16:=by
 show IntKind.i64.wrap ((BitVec.ofInt 64 x &&& BitVec.ofInt 64 15).toNat:Int)=_
 rw [BitVec.toNat_and,show (BitVec.ofInt 64 15).toNat=2 ^ 4 - 1 from rfl,Nat.and_two_pow_sub_one_eq_mod,BitVec.toNat_ofInt,IntKind.wrap_i64]
 omega
def digI (n:Int) (i:Nat):Int:=(n / 2 ^ (4*i)) % 16
theorem digI_bd (n:Int) (i:Nat):0≤digI n i∧digI n i<16:=by unfold digI;omega
def hexS (n:Int) (d:Nat):ByteArray:=⟨((List.range d).map fun j=>hexU (digI n (d - 1 - j))).toArray⟩
theorem hexS_size (n:Int) (d:Nat):(hexS n d).size=d:=by show (((List.range d).map fun j=>hexU (digI n (d - 1 - j))).toArray).size=d;simp
theorem hexS_at (n:Int) (d j:Nat) (h:j<(hexS n d).size):(hexS n d)[j]=hexU (digI n (d - 1 - j)):=by
 have h1:(hexS n d).data[j]'h=hexU (digI n (d - 1 - j)):=by simp [hexS]
 exact h1
def HexRel (w:World) (n:Int) (d k:Nat) (wr:World):Prop:=
 (∀ j,j<d→wr.cell? ⟨w.heap.size+1,j,none⟩=some (.int .u8 (if d - 1 - j<k then ((hexU (digI n (d - 1 - j))).toNat:Int) else 0)))∧(∀ j,j<d→wr.frozen? ⟨w.heap.size+1,j,none⟩=false)∧Below w.heap.size w wr
theorem hexRel_start (w:World) (n:Int) (d:Nat) (O:Obj) (e:TypeId):HexRel w n d 0 ((w.alloc O).alloc (.cells (madeCells #[.int .u8 0] d) e)):=by
 refine ⟨fun j h=>?_,fun j h=>?_,((Below.refl _ _).alloc (Nat.le_refl _) _).alloc (by simp) _⟩
 ·rw [if_neg (by omega)]
  simp [go_sem,madeCells,h,Nat.mod_one]
 ·simp [go_sem]
theorem hexRel_next (w wr:World) (n:Int) (d k:Nat) (hk:k<d) (hr:HexRel w n d k wr) :
  HexRel w n d (k+1) (wr.setCell ⟨w.heap.size+1,d - 1 - k,none⟩ (.int .u8 ((hexU (digI n k)).toNat:Int))):=by
 obtain ⟨r1,r2,r3⟩:=hr
 refine ⟨fun j hj=>?_,fun j hj=>?_,r3.setCell (by simp) _⟩
 ·by_cases e:j=d - 1 - k
  ·subst e
   have:=r1 _ hj
   have e2:d - 1 - (d - 1 - k)=k:=by omega
   rw [if_pos (by omega),e2]
   simp [go_sem,this]
  ·rw [World.cell?_setCell_other _ _ _ _ (by simp),r1 j hj]
   by_cases h1:d - 1 - j<k
   ·rw [if_pos h1,if_pos (by omega)]
   ·rw [if_neg h1,if_neg (by omega)]
 ·simp [go_sem,r2 j hj]
theorem hexRel_end (w wr:World) (n:Int) (d cap:Nat) (hr:HexRel w n d d wr) :
  (convert 25 9 (.slice (some ⟨w.heap.size+1,0,none⟩) d cap)).run Tryz.prog wr=.ok (.string (hexS n d)) wr:=by
 have h:=Lib.run_convert_whole (P:=Tryz.prog) wr 25 5 9 Tryz.underlying25 Tryz.underlying5 Tryz.underlying9 (w.heap.size+1) 0 (hexS n d) (fun i hi=>by
  have hi':i<d:=by rw [hexS_size] at hi;exact hi
  rw [Nat.zero_add,hr.1 i hi',if_pos (by omega),hexS_at n d i hi]) cap
 rw [hexS_size] at h
 exact h
theorem hex_any (n:Int) (d:Nat) (hd:d≤8) (w:World) :
  Calls Tryz.prog 192 #[.int .i64 n,.int .i64 d] w fun e w'=>e=.returned (.string (hexS n d))∧Below w.heap.size w w':=by
 have hF:fitsB 0 8 [(d:Int)]=true:=by simp [fitsB];omega
 have hmk:=fun w=>run_make_row' (P:=Tryz.prog) 25 5 (.int .u8 0) 1 Tryz.underlying25 info_u8 rfl .i64 .i64 d (by omega) (by omega) w
 have S:=fun O=>J9 (hexRel_start w n d O 5)
 go_enter Tryz.func192,Tryz.ntmps192
 go_wp2_with (go_at_call 128;refine (fits_any 0 8 _ _ [(d:Int)] (by simp [maxLen]) _ (ints_one _ _ _)).mono ?_;rintro e w' ⟨rfl,rfl⟩)
 clear hmk
 go_loopw [14] (fun i wr=>∃ k:Nat,k≤d∧i=.int .i64 k∧HexRel w n d k wr) (fun i _=>d - (intOf i).toNat)
 case atStart=>exact ⟨0,Nat.zero_le _,rfl,(S _).out⟩
 case round=>
  obtain ⟨k,hk,rfl,hr⟩:=hrel
  have R:=J9 hr
  clear hr
  by_cases hlt:k<d
  ·have hbit:=and15 (n / 2 ^ (4*k))
   obtain ⟨x0,x1⟩:=digI_bd n k
   have hd0:digI n k=n / 2 ^ (4*k) % 16:=rfl
   rw [← hd0] at hbit
   clear hd0
   obtain ⟨x,hx⟩:=N9 (digI n k)
   rw [hx] at hbit x0 x1
   have X:=J9 hx
   clear hx
   have g1:=R.out.1 (d - 1 - k) (by omega)
   have g2:=R.out.2.1 (d - 1 - k) (by omega)
   have N:=J9 (hexRel_next w wr n d k hlt R.out)
   go_wp2
   go_roundw
   case rel=>exact ⟨k+1,by omega,by go_num,by have h:=N.out;rw [X.out,← hexTab_at x x0 x1 (by show x.toNat<16;omega)] at h;exact h⟩
   case measure=>simp [intOf];omega
  ·obtain rfl:k=d:=by omega
   have hback:=hexRel_end w wr n k k R.out
   go_wp2
   go_ret
   exact ⟨rfl,R.out.2.2⟩
end Go.Proofs.YtclhaejdjogfbaaGreatDoor
namespace Go.Proofs.YtclhaejdjogfbaaGreatDoor
open Go.RowKit
theorem extract_le (s:ByteArray) (a b:Nat):(s.extract a b).size≤s.size:=by simp;omega
theorem bytes_ext {a b:ByteArray} (h:a.data.toList=b.data.toList):a=b:=by
 apply ByteArray.ext
 exact Array.toList_inj.1 h
def strLen:Value→Nat
 | .string s=>s.size
 | _=>0
def trimL (c:UInt8) (s:ByteArray):ByteArray:=⟨(s.data.toList.dropWhile (· == c)).toArray⟩
theorem list_cons (t:ByteArray) (h:0<t.size):t.data.toList=t[0] :: (t.extract 1 t.size).data.toList:=by
 rw [Lib.extract_data]
 have hl:0<t.data.toList.length:=by simpa using h
 have h1:=List.drop_eq_getElem_cons hl
 rw [List.drop_zero] at h1
 rw [List.take_of_length_le (by simp),← show t.data.toList[0]=t[0] from rfl]
 exact h1
theorem trimL_same (c:UInt8) (t:ByteArray) (h:0<t.size) (e:t[0]=c):trimL c (t.extract 1 t.size)=trimL c t:=by
 apply bytes_ext
 unfold trimL
 simp only [list_cons t h,List.dropWhile_cons,e,beq_self_eq_true,if_true]
theorem trimL_stop (c:UInt8) (t:ByteArray) (h:0<t.size) (e:¬t[0]=c):trimL c t=t:=by
 apply bytes_ext
 unfold trimL
 show List.dropWhile (· == c) t.data.toList=_
 rw [list_cons t h,List.dropWhile_cons]
 simp [e]
theorem trimL_nil (c:UInt8) (t:ByteArray) (h:¬0<t.size):trimL c t=t:=by
 apply bytes_ext
 have h3:t.data.toList.length=t.size:=by simp
 have h1:t.data.toList=[]:=List.eq_nil_of_length_eq_zero (by omega)
 unfold trimL
 simp [h1]
theorem trimLeftByte_any (s:ByteArray) (c:UInt8) (hs:s.size≤maxLen) (w:World) :
  Calls Tryz.prog 202 #[.string s,.int .u8 (c.toNat:Int)] w fun e w'=>e=.returned (.string (trimL c s))∧w=w':=by
 unfold maxLen at hs
 go_enter Tryz.func202,Tryz.ntmps202
 go_wp2
 go_loop [0] (fun v=>∃ t:ByteArray,v=.string t∧t.size≤2 ^ 63 - 1∧Hid (trimL c t=trimL c s)) (fun v=>strLen v)
 case atStart=>exact ⟨s,rfl,hs,rfl⟩
 case round=>
  obtain ⟨t,rfl,ht,T⟩:=hrel
  by_cases h:0<t.size
  ·have hne:((t.size:Int) == 0)=false:=by rw [beq_eq_false_iff_ne];omega
   by_cases e:t[0]=c
   ·have e1:((t[0].toNat:Int) == (c.toNat:Int))=true:=by rw [e];simp
    have N:Hid (trimL c (t.extract 1 t.size)=trimL c s):=(trimL_same c t h e).trans T.out
    clear e
    go_wp2
    go_round
    case rel=>exact ⟨_,rfl,Nat.le_trans (extract_le t 1 t.size) ht,N⟩
    case measure=>simp [strLen];omega
   ·have e1:((t[0].toNat:Int) == (c.toNat:Int))=false:=by
     rw [beq_eq_false_iff_ne]
     intro h2
     exact e (UInt8.toNat_inj.1 (by omega))
    have N:Hid (t=trimL c s):=(trimL_stop c t h e).symm.trans T.out
    clear e
    go_wp2
    go_ret
    exact ⟨ret_str N.out,rfl⟩
  ·have N:Hid (t=trimL c s):=(trimL_nil c t h).symm.trans T.out
   go_wp2
   go_ret
   exact ⟨ret_str N.out,rfl⟩
theorem trimLeft0_any (s:ByteArray) (hs:s.size≤maxLen) (w:World) :
  Calls Tryz.prog 191 #[.string s,.string ⟨#[48]⟩] w fun e w'=>e=.returned (.string (trimL 48 s))∧w=w':=by
 have hs0:=hs
 unfold maxLen at hs
 by_cases h:s.toList.isEmpty=true
 ·have h1:¬0<s.size:=by
   rw [ByteArray.toList_eq] at h
   have h2:s.data.toList=[]:=by simpa using h
   have h3:s.data.toList.length=s.size:=by simp
   rw [h2] at h3
   simp at h3
   omega
  have N:=J9 (trimL_nil 48 s h1).symm
  go_enter Tryz.func191,Tryz.ntmps191
  go_wp2
  go_ret
  exact ⟨ret_str N.out,rfl⟩
 ·have h':s.toList.isEmpty=false:=by simpa using h
  clear h
  go_enter Tryz.func191,Tryz.ntmps191
  go_wp2_with (go_at_call 202;refine (trimLeftByte_any _ 48 hs0 _).mono ?_;rintro e w' ⟨rfl,rfl⟩)
  go_ret
  exact ⟨rfl,rfl⟩
end Go.Proofs.YtclhaejdjogfbaaGreatDoor
namespace Go.Proofs.YtclhaejdjogfbaaGreatDoor
open Go.RowKit
end Go.Proofs.YtclhaejdjogfbaaGreatDoor
namespace Go.Proofs.YtclhaejdjogfbaaGreatDoor
open Go.RowKit
def digS (n:Int):ByteArray:=trimL 48 (hexS n 4)
theorem hexU_48:∀ x:Fin 16,(hexU (x.val:Int)=48↔x.val=0):=by decide +kernel
theorem hexU_zero (x:Int) (h0:0≤x) (h1:x<16):hexU x=48↔x=0:=by
 have h:=hexU_48 ⟨x.toNat,by omega⟩
 have e:((x.toNat:Nat):Int)=x:=by omega
 simp only [e] at h
 rw [h]
 omega
theorem hexS4 (n:Int):(hexS n 4).data.toList=[hexU (digI n 3),hexU (digI n 2),hexU (digI n 1),hexU (digI n 0)]:=by
 unfold hexS;simp [List.range_succ]
theorem digS_cases (n:Int) (h0:10≤n) (h1:n≤65535) :
  (4096≤n∧(digS n).data.toList=[hexU (digI n 3),hexU (digI n 2),hexU (digI n 1),hexU (digI n 0)]∧1≤digI n 3)∨
  (n<4096∧256≤n∧(digS n).data.toList=[hexU (digI n 2),hexU (digI n 1),hexU (digI n 0)]∧1≤digI n 2)∨
  (n<256∧16≤n∧(digS n).data.toList=[hexU (digI n 1),hexU (digI n 0)]∧1≤digI n 1)∨
  (n<16∧(digS n).data.toList=[hexU (digI n 0)]∧1≤digI n 0):=by
 have z3:=hexU_zero (digI n 3) (digI_bd n 3).1 (digI_bd n 3).2
 have z2:=hexU_zero (digI n 2) (digI_bd n 2).1 (digI_bd n 2).2
 have z1:=hexU_zero (digI n 1) (digI_bd n 1).1 (digI_bd n 1).2
 have z0:=hexU_zero (digI n 0) (digI_bd n 0).1 (digI_bd n 0).2
 have d3:digI n 3=n / 4096 % 16:=by unfold digI;simp
 have d2:digI n 2=n / 256 % 16:=by unfold digI;simp
 have d1:digI n 1=n / 16 % 16:=by unfold digI;simp
 have d0:digI n 0=n % 16:=by unfold digI;simp
 have hl:(digS n).data.toList=List.dropWhile (· == 48) [hexU (digI n 3),hexU (digI n 2),hexU (digI n 1),hexU (digI n 0)]:=by
  unfold digS trimL;rw [hexS4]
 rw [hl]
 simp only [List.dropWhile_cons,beq_iff_eq,z3,z2,z1,z0]
 by_cases c3:4096≤n
 ·left
  rw [if_neg (by omega)]
  exact ⟨c3,rfl,by omega⟩
 ·right
  rw [if_pos (by omega)]
  by_cases c2:256≤n
  ·left
   rw [if_neg (by omega)]
   exact ⟨by omega,c2,rfl,by omega⟩
  ·right
   rw [if_pos (by omega)]
   by_cases c1:16≤n
   ·left
    rw [if_neg (by omega)]
    exact ⟨by omega,c1,rfl,by omega⟩
   ·right
    rw [if_pos (by omega),if_neg (by omega)]
    exact ⟨by omega,rfl,by omega⟩
theorem digS_pos (n:Int) (h0:10≤n) (h1:n≤65535):0<(digS n).size:=by
 have hl:(digS n).data.toList.length=(digS n).size:=by simp
 rcases digS_cases n h0 h1 with ⟨_,h,_⟩ | ⟨_,_,h,_⟩ | ⟨_,_,h,_⟩ | ⟨_,h,_⟩ <;> rw [h] at hl <;> simp at hl <;> omega
theorem trimL_le (c:UInt8) (s:ByteArray):(trimL c s).size≤s.size:=by
 show (List.dropWhile (· == c) s.data.toList).toArray.size≤s.data.size
 have h:=(List.dropWhile_sublist (p:=(· == c)) (l:=s.data.toList)).length_le
 simpa using h
theorem digS_le (n:Int):(digS n).size≤4:=by
 have h:=trimL_le 48 (hexS n 4)
 rw [hexS_size] at h
 exact h
theorem hexS4_max (n:Int):(hexS n 4).size≤maxLen:=by rw [hexS_size];simp [maxLen]
theorem hex4_any (n:Int) (w:World) :
  Calls Tryz.prog 192 #[.int .i64 n,.int .i64 4] w fun e w'=>e=.returned (.string (hexS n 4))∧Below w.heap.size w w':=hex_any n 4 (by omega) w
theorem trimDig_any (n:Int) (w:World) :
  Calls Tryz.prog 191 #[.string (hexS n 4),.string ⟨#[48]⟩] w fun e w'=>e=.returned (.string (digS n))∧w=w':=trimLeft0_any _ (hexS4_max n) w
def textS (n:Int):ByteArray:=
 if n<0∨65535<n then ⟨#[]⟩
 else if n<10 then ⟨#[hexU n]⟩
 else if decB (((digS n).data.toList.getD 0 0).toNat:Int) then ⟨((digS n).data.toList++[72]).toArray⟩ else ⟨(48 :: (digS n).data.toList++[72]).toArray⟩
theorem fits16_yes (n:Int) (h0:0≤n) (h1:n≤65535):fitsB 0 65535 [n]=true:=by simp [fitsB];omega
theorem fits16_no (n:Int) (h:n<0∨65535<n):fitsB 0 65535 [n]=false:=by simp [fitsB];omega
theorem text_small (n:Int) (h0:0≤n) (h2:n<10):hexTab.extract n.toNat (n+1).toNat=textS n:=by
 have t:∀ i:Fin 10,hexTab.extract i.val (i.val+1)=⟨#[hexU (i.val:Int)]⟩:=by decide +kernel
 have h:=t ⟨n.toNat,by omega⟩
 have e:((n.toNat:Nat):Int)=n:=by omega
 have e2:(n+1).toNat=n.toNat+1:=by omega
 simp only [e] at h
 unfold textS
 rw [if_neg (by omega),if_pos h2,e2]
 exact h
theorem getD0 (t:ByteArray) (h:0<t.size):t.data.toList.getD 0 0=t[0]:=by
 rw [List.getD_eq_getElem?_getD,List.getElem?_eq_getElem (by simpa using h)];rfl
theorem append_data (a b:ByteArray):(a++b).data.toList=a.data.toList++b.data.toList:=by simp
theorem text_dec (n:Int) (h0:10≤n) (h1:n≤65535) (hp:0<(digS n).size) (h3:decB ((digS n)[0].toNat:Int)=true):digS n++⟨#[72]⟩=textS n:=by
 apply bytes_ext
 unfold textS
 rw [if_neg (by omega),if_neg (by omega),getD0 _ hp,h3,append_data]
 simp
theorem text_let (n:Int) (h0:10≤n) (h1:n≤65535) (hp:0<(digS n).size) (h3:decB ((digS n)[0].toNat:Int)=false):(⟨#[48]⟩++digS n)++⟨#[72]⟩=textS n:=by
 apply bytes_ext
 unfold textS
 rw [if_neg (by omega),if_neg (by omega),getD0 _ hp,h3,append_data,append_data]
 simp
theorem text_any (n:Int) (w:World) :
  Calls Tryz.prog 181 #[.int .i64 n] w fun e w'=>e=.returned (.string (textS n))∧Below w.heap.size w w':=by
 by_cases h0:n<0∨65535<n
 ·have hF:=fits16_no n h0
  have T:=J9 (show (⟨#[]⟩:ByteArray)=textS n by unfold textS;rw [if_pos h0])
  clear h0
  go_enter Tryz.func181,Tryz.ntmps181
  go_wp2_with (go_at_call 128;refine (fits_any 0 65535 _ _ [n] (by simp [maxLen]) _ (ints_one _ _ _)).mono ?_;rintro e w' ⟨rfl,rfl⟩)
  go_ret
  exact ⟨ret_str T.out,(Below.refl _ _).alloc (Nat.le_refl _) _⟩
 ·have h1:n≤65535:=by omega
  have h0':0≤n:=by omega
  have hF:=fits16_yes n h0' h1
  clear h0
  by_cases h2:n<10
  ·have T:=J9 (text_small n h0' h2)
   go_enter Tryz.func181,Tryz.ntmps181
   go_wp2_with (go_at_call 128;refine (fits_any 0 65535 _ _ [n] (by simp [maxLen]) _ (ints_one _ _ _)).mono ?_;rintro e w' ⟨rfl,rfl⟩)
   go_ret
   exact ⟨ret_str T.out,(Below.refl _ _).alloc (Nat.le_refl _) _⟩
  ·have hp:=digS_pos n (by omega) h1
   have hq:=digS_le n
   have c0:(0:Int)≤((digS n)[0].toNat:Int):=by omega
   have c1:((digS n)[0].toNat:Int)≤255:=by have:=(digS n)[0].toNat_lt;omega
   by_cases h3:decB ((digS n)[0].toNat:Int)=true
   ·have T:=J9 (text_dec n (by omega) h1 hp h3)
    go_enter Tryz.func181,Tryz.ntmps181
    go_wp2_with (first | (go_at_call 128;refine (fits_any 0 65535 _ _ [n] (by simp [maxLen]) _ (ints_one _ _ _)).mono ?_;rintro e w' ⟨rfl,rfl⟩) | (go_at_call 192;refine (hex4_any n _).mono ?_;rintro e w1 ⟨rfl,hb1⟩) | (go_at_call 191;refine (trimDig_any n _).mono ?_;rintro e w' ⟨rfl,rfl⟩) | (go_at_call 193;refine (isDecimal_any _ c0 c1 _).mono ?_;rintro e w' ⟨rfl,rfl⟩))
    go_ret
    exact ⟨ret_str T.out,((Below.refl _ _).alloc (Nat.le_refl _) _).trans (hb1.mono (by simp))⟩
   ·have h3':decB ((digS n)[0].toNat:Int)=false:=by simpa using h3
    clear h3
    have T:=J9 (text_let n (by omega) h1 hp h3')
    go_enter Tryz.func181,Tryz.ntmps181
    go_wp2_with (first | (go_at_call 128;refine (fits_any 0 65535 _ _ [n] (by simp [maxLen]) _ (ints_one _ _ _)).mono ?_;rintro e w' ⟨rfl,rfl⟩) | (go_at_call 192;refine (hex4_any n _).mono ?_;rintro e w1 ⟨rfl,hb1⟩) | (go_at_call 191;refine (trimDig_any n _).mono ?_;rintro e w' ⟨rfl,rfl⟩) | (go_at_call 193;refine (isDecimal_any _ c0 c1 _).mono ?_;rintro e w' ⟨rfl,rfl⟩))
    go_ret
    exact ⟨ret_str T.out,((Below.refl _ _).alloc (Nat.le_refl _) _).trans (hb1.mono (by simp))⟩
end Go.Proofs.YtclhaejdjogfbaaGreatDoor
namespace Go.Proofs.YtclhaejdjogfbaaGreatDoor
open Go.RowKit
end Go.Proofs.YtclhaejdjogfbaaGreatDoor
namespace Go.Proofs.YtclhaejdjogfbaaGreatDoor
open Go.RowKit
end Go.Proofs.YtclhaejdjogfbaaGreatDoor
namespace Go.Proofs.YtclhaejdjogfbaaGreatDoor
end Go.Proofs.YtclhaejdjogfbaaGreatDoor
namespace Go.Proofs.YtclhaejdjogfbaaGreatDoor
open Go.RowKit
def nmL:Nat→List ByteArray
 | 1=>[⟨#[66]⟩,⟨#[67]⟩,⟨#[68]⟩,⟨#[69]⟩,⟨#[72]⟩,⟨#[76]⟩,⟨#[]⟩,⟨#[65]⟩]
 | 2=>[⟨#[73,88,72]⟩,⟨#[73,88,76]⟩,⟨#[73,89,72]⟩,⟨#[73,89,76]⟩]
 | 3=>[⟨#[66,67]⟩,⟨#[68,69]⟩,⟨#[72,76]⟩,⟨#[83,80]⟩,⟨#[65,70]⟩,⟨#[73,88]⟩,⟨#[73,89]⟩,⟨#[65,70,39]⟩]
 | 4=>[⟨#[66,67]⟩,⟨#[68,69]⟩,⟨#[72,76]⟩,⟨#[83,80]⟩,⟨#[]⟩,⟨#[73,88]⟩,⟨#[73,89]⟩,⟨#[]⟩,⟨#[67]⟩]
 | 5=>[⟨#[]⟩,⟨#[]⟩,⟨#[]⟩,⟨#[]⟩,⟨#[]⟩,⟨#[73,88]⟩,⟨#[73,89]⟩]
 | 8=>[⟨#[78,90]⟩,⟨#[90]⟩,⟨#[78,67]⟩,⟨#[67]⟩,⟨#[80,79]⟩,⟨#[80,69]⟩,⟨#[80]⟩,⟨#[77]⟩]
 | 9=>[⟨#[73]⟩,⟨#[82]⟩]
 | _=>[]
def atS (L:List ByteArray) (r:Int):ByteArray:=if 0≤r then L.getD r.toNat ⟨#[]⟩ else ⟨#[]⟩
def neB (s:ByteArray):Bool:=!s.toList.isEmpty
theorem atS_in (L:List ByteArray) (k:Nat) (h:k<L.length):atS L (k:Int)=L[k]:=by
 unfold atS
 rw [if_pos (by omega),List.getD_eq_getElem?_getD,Int.toNat_natCast,List.getElem?_eq_getElem h]
 rfl
theorem atS_out (L:List ByteArray) (r:Int) (h:r<0∨(L.length:Int)≤r):atS L r=⟨#[]⟩:=by
 unfold atS
 split
 ·rw [List.getD_eq_getElem?_getD,List.getElem?_eq_none (by omega)];rfl
 ·rfl
def nmS (k:Nat) (r:Int):ByteArray:=atS (nmL k) r
theorem atS_mem (L:List ByteArray) (r:Int):atS L r=⟨#[]⟩∨atS L r∈L:=by
 by_cases h:0≤r∧r<(L.length:Int)
 ·right
  obtain ⟨k,rfl⟩:∃ k:Nat,r=k:=⟨r.toNat,by omega⟩
  rw [atS_in L k (by omega)]
  exact List.getElem_mem _
 ·left;exact atS_out L r (by omega)
end Go.Proofs.YtclhaejdjogfbaaGreatDoor
namespace Go.Proofs.YtclhaejdjogfbaaGreatDoor
open Go.RowKit
theorem strs_new (w:World) (L:List ByteArray) (t:TypeId):∀ j (h:j<L.length),(w.alloc (.cells (L.map Value.string).toArray t)).cell? ⟨w.heap.size,j,none⟩=some (.string L[j]):=by
 intro j h
 simp [go_sem,h]
def StrsA (w:World) (A:Option Addr) (L:List ByteArray):Prop:=L=[]∨∃ b off,A=some ⟨b,off,none⟩∧∀ j (h:j<L.length),w.cell? ⟨b,off+j,none⟩=some (.string L[j])
theorem StrsA.at_ {w:World} {A:Option Addr} {L:List ByteArray} (h:StrsA w A L) {k:Nat} (hk:k<L.length):∃ b off,A=some ⟨b,off,none⟩∧w.cell? ⟨b,off+k,none⟩=some (.string L[k]):=by
 rcases h with rfl | ⟨b,off,rfl,hc⟩
 ·simp at hk
 ·exact ⟨b,off,rfl,hc k hk⟩
theorem StrsA.below {w w':World} {A:Option Addr} {L:List ByteArray} (h:StrsA w A L) (hb:Below w.heap.size w w'):StrsA w' A L:=by
 rcases h with rfl | ⟨b,off,rfl,hc⟩
 ·exact .inl rfl
 ·exact .inr ⟨b,off,rfl,fun j hj=>(hb.cell (World.block_lt_of_cell? w _ (hc j hj))).trans (hc j hj)⟩
theorem strs_of_new (w:World) (L:List ByteArray) (t:TypeId):StrsA (w.alloc (.cells (L.map Value.string).toArray t)) (some ⟨w.heap.size,0,none⟩) L:=
 .inr ⟨_,0,rfl,fun j hj=>by rw [Nat.zero_add];exact strs_new w L t j hj⟩
end Go.Proofs.YtclhaejdjogfbaaGreatDoor
namespace Go.Proofs.YtclhaejdjogfbaaGreatDoor
open Go.RowKit
theorem fits1_yes (lo hi n:Int) (h0:lo≤n) (h1:n≤hi):fitsB lo hi [n]=true:=by simp [fitsB];omega
theorem fits1_no (lo hi n:Int) (h:n<lo∨hi<n):fitsB lo hi [n]=false:=by simp [fitsB];omega
theorem fit1_any (lo hi x:Int) (b:Nat) (q:Bool) (hq:fitsB lo hi [x]=q) (w:World) (hc:w.cell? ⟨b,0,none⟩=some (.int .i64 x)) :
  Calls Tryz.prog 128 #[.int .i64 lo,.int .i64 hi,.slice (some ⟨b,0,none⟩) 1 1] w fun e w'=>e=.returned (.bool q)∧w=w':=by
 subst hq
 refine fits_any lo hi _ 1 [x] (by simp [maxLen]) w (.inr ⟨b,0,rfl,fun j h=>?_⟩)
 obtain rfl:j=0:=by simp at h;omega
 exact hc
theorem neB_nil:neB ⟨#[]⟩=false:=by decide +kernel
theorem at_any (r:Int) (b cap n:Nat) (L:List ByteArray) (hn:n=L.length) (hl:L.length≤100) (w:World) (hc:∀ j (h:j<L.length),w.cell? ⟨b,j,none⟩=some (.string L[j])) :
  Calls Tryz.prog 178 #[.int .i64 r,.slice (some ⟨b,0,none⟩) n cap] w fun e w'=>e=.returned (.tuple #[.string (atS L r),.bool (neB (atS L r))])∧Below w.heap.size w w':=by
 by_cases h:0≤r∧r<(L.length:Int)
 ·obtain ⟨k,rfl⟩:∃ k:Nat,r=k:=⟨r.toNat,by omega⟩
  have hk:k<L.length:=by omega
  have hck:=hc k hk
  have e1:=atS_in L k hk
  have HF:=fits1_yes 0 ((n:Int) - 1) (k:Int) (by omega) (by omega)
  obtain ⟨s,hs⟩:=N9 (L[k])
  rw [hs] at hck e1
  rw [e1]
  have hkn:k<n:=by omega
  have hnb:n≤100:=by omega
  have hb:=World.block_lt_of_cell? w _ hck
  have hck2:∀ o,(w.alloc o).cell? ⟨b,k,none⟩=some (.string s):=fun o=>(World.cell?_alloc_lt w o _ hb).trans hck
  clear hc h hk e1 hs hn hl hck hb
  go_enter Tryz.func178,Tryz.ntmps178
  go_wp2_with fail
  refine (fits_any 0 ((n:Int) - 1) _ _ [(k:Int)] (by simp [maxLen]) _ (ints_one _ _ _)).mono ?_
  rintro e w' ⟨rfl,rfl⟩
  rw [HF]
  clear HF
  go_wp2
  go_quiet (fail)
  go_wp2
  go_ret2
  exact ⟨rfl,((Below.refl _ _).alloc (Nat.le_refl _) _).trans (below_drewN _ _ _)⟩
 ·have e1:=atS_out L r (by omega)
  have HF:=fits1_no 0 ((n:Int) - 1) r (by omega)
  rw [e1,neB_nil]
  have hnb:n≤100:=by omega
  clear hc h e1 hn hl
  go_enter Tryz.func178,Tryz.ntmps178
  go_wp2_with fail
  refine (fits_any 0 ((n:Int) - 1) _ _ [r] (by simp [maxLen]) _ (ints_one _ _ _)).mono ?_
  rintro e w' ⟨rfl,rfl⟩
  rw [HF]
  clear HF
  go_wp2
  go_ret2
  exact ⟨rfl,((Below.refl _ _).alloc (Nat.le_refl _) _)⟩
theorem name8_any (r:Int) (w:World) :
  Calls Tryz.prog 151 #[.int .i64 r] w fun e w'=>e=.returned (.tuple #[.string (nmS 1 r),.bool (neB (nmS 1 r))])∧Below w.heap.size w w':=by
 go_enter Tryz.func151,Tryz.ntmps151
 go_wp2_with fail
 refine (at_any r _ _ _ (nmL 1) rfl (by decide) _ (strs_new w (nmL 1) 9)).mono ?_
 rintro e w' ⟨rfl,hb⟩
 have N:=J9 (((Below.refl _ _).alloc (Nat.le_refl _) _).trans (hb.mono (by simp)))
 clear hb
 go_wp2
 go_ret2
 exact ⟨rfl,N.out⟩
theorem nameHalf_any (r:Int) (w:World) :
  Calls Tryz.prog 153 #[.int .i64 r] w fun e w'=>e=.returned (.tuple #[.string (nmS 2 r),.bool (neB (nmS 2 r))])∧Below w.heap.size w w':=by
 go_enter Tryz.func153,Tryz.ntmps153
 go_wp2_with fail
 refine (at_any r _ _ _ (nmL 2) rfl (by decide) _ (strs_new w (nmL 2) 9)).mono ?_
 rintro e w' ⟨rfl,hb⟩
 have N:=J9 (((Below.refl _ _).alloc (Nat.le_refl _) _).trans (hb.mono (by simp)))
 clear hb
 go_wp2
 go_ret2
 exact ⟨rfl,N.out⟩
theorem name16_any (r:Int) (w:World) :
  Calls Tryz.prog 154 #[.int .i64 r] w fun e w'=>e=.returned (.tuple #[.string (nmS 3 r),.bool (neB (nmS 3 r))])∧Below w.heap.size w w':=by
 go_enter Tryz.func154,Tryz.ntmps154
 go_wp2_with fail
 refine (at_any r _ _ _ (nmL 3) rfl (by decide) _ (strs_new w (nmL 3) 9)).mono ?_
 rintro e w' ⟨rfl,hb⟩
 have N:=J9 (((Below.refl _ _).alloc (Nat.le_refl _) _).trans (hb.mono (by simp)))
 clear hb
 go_wp2
 go_ret2
 exact ⟨rfl,N.out⟩
theorem namePointer_any (r:Int) (w:World) :
  Calls Tryz.prog 155 #[.int .i64 r] w fun e w'=>e=.returned (.tuple #[.string (nmS 4 r),.bool (neB (nmS 4 r))])∧Below w.heap.size w w':=by
 go_enter Tryz.func155,Tryz.ntmps155
 go_wp2_with fail
 refine (at_any r _ _ _ (nmL 4) rfl (by decide) _ (strs_new w (nmL 4) 9)).mono ?_
 rintro e w' ⟨rfl,hb⟩
 have N:=J9 (((Below.refl _ _).alloc (Nat.le_refl _) _).trans (hb.mono (by simp)))
 clear hb
 go_wp2
 go_ret2
 exact ⟨rfl,N.out⟩
theorem nameIndex_any (r:Int) (w:World) :
  Calls Tryz.prog 157 #[.int .i64 r] w fun e w'=>e=.returned (.tuple #[.string (nmS 5 r),.bool (neB (nmS 5 r))])∧Below w.heap.size w w':=by
 go_enter Tryz.func157,Tryz.ntmps157
 go_wp2_with fail
 refine (at_any r _ _ _ (nmL 5) rfl (by decide) _ (strs_new w (nmL 5) 9)).mono ?_
 rintro e w' ⟨rfl,hb⟩
 have N:=J9 (((Below.refl _ _).alloc (Nat.le_refl _) _).trans (hb.mono (by simp)))
 clear hb
 go_wp2
 go_ret2
 exact ⟨rfl,N.out⟩
theorem nameCondition_any (r:Int) (w:World) :
  Calls Tryz.prog 162 #[.int .i64 r] w fun e w'=>e=.returned (.tuple #[.string (nmS 8 r),.bool (neB (nmS 8 r))])∧Below w.heap.size w w':=by
 go_enter Tryz.func162,Tryz.ntmps162
 go_wp2_with fail
 refine (at_any r _ _ _ (nmL 8) rfl (by decide) _ (strs_new w (nmL 8) 9)).mono ?_
 rintro e w' ⟨rfl,hb⟩
 have N:=J9 (((Below.refl _ _).alloc (Nat.le_refl _) _).trans (hb.mono (by simp)))
 clear hb
 go_wp2
 go_ret2
 exact ⟨rfl,N.out⟩
theorem nameControl_any (r:Int) (w:World) :
  Calls Tryz.prog 163 #[.int .i64 r] w fun e w'=>e=.returned (.tuple #[.string (nmS 9 r),.bool (neB (nmS 9 r))])∧Below w.heap.size w w':=by
 go_enter Tryz.func163,Tryz.ntmps163
 go_wp2_with fail
 refine (at_any r _ _ _ (nmL 9) rfl (by decide) _ (strs_new w (nmL 9) 9)).mono ?_
 rintro e w' ⟨rfl,hb⟩
 have N:=J9 (((Below.refl _ _).alloc (Nat.le_refl _) _).trans (hb.mono (by simp)))
 clear hb
 go_wp2
 go_ret2
 exact ⟨rfl,N.out⟩
theorem noName_any (r:Int) (w:World) :
  Calls Tryz.prog 159 #[.int .i64 r] w fun e w'=>e=.returned (.tuple #[.string ⟨#[]⟩,.bool (r == 0)])∧w=w':=by
 go_enter Tryz.func159,Tryz.ntmps159
 go_wp2
 go_ret2
 exact ⟨rfl,rfl⟩
end Go.Proofs.YtclhaejdjogfbaaGreatDoor
namespace Go.Proofs.YtclhaejdjogfbaaGreatDoor
open Go.RowKit
def KsP (w:World) (A:Option Addr) (L:List Int):Prop:=L=[]∨∃ b off,A=some ⟨b,off,none⟩∧∀ k (h:k<L.length),w.cell? ⟨b,off+k,none⟩=some (.int .i64 L[k])
theorem KsP.below {w w':World} {A:Option Addr} {L:List Int} (h:KsP w A L) (hb:Below w.heap.size w w'):KsP w' A L:=by
 rcases h with rfl | ⟨b,off,rfl,hc⟩
 ·exact .inl rfl
 ·exact .inr ⟨b,off,rfl,fun k hk=>(hb.cell (World.block_lt_of_cell? w _ (hc k hk))).trans (hc k hk)⟩
theorem KsP.at_ {w:World} {A:Option Addr} {L:List Int} (h:KsP w A L) {k:Nat} (hk:k<L.length):∃ b off,A=some ⟨b,off,none⟩∧w.cell? ⟨b,off+k,none⟩=some (.int .i64 L[k]):=by
 rcases h with rfl | ⟨b,off,rfl,hc⟩
 ·simp at hk
 ·exact ⟨b,off,rfl,hc k hk⟩
theorem indexI_any (A:Option Addr) (c n:Nat) (L:List Int) (hn:L.length=n) (hL:n≤1000) (x:Int) (w:World) (H:KsP w A L) :
  Calls Tryz.prog 148 #[.slice A n c,.int .i64 x] w fun e w'=>(∃ i:Int,e=.returned (.int .i64 i)∧decide (0≤i)=decide (x∈L))∧w'=w:=by
 have X:=J9 H
 have HN:=J9 hn
 clear H hn
 go_enter Tryz.func148,Tryz.ntmps148
 go_wp2
 go_loopw [8] (fun i wr=>∃ j:Nat,j≤n∧i=.int .i64 j∧Hid (∀ k,k<j→∀ (a:k<L.length),L[k]≠x)∧Hid (wr=w)) (fun i _=>n - (intOf i).toNat)
 case atStart=>exact ⟨0,Nat.zero_le _,rfl,fun k h=>by omega,rfl⟩
 case round=>
  obtain ⟨j,hj,rfl,R,B⟩:=hrel
  by_cases hlt:j<n
  ·have hj1:j<L.length:=by have:=HN.out;omega
   obtain ⟨b1,o1,hA1,p0⟩:=X.out.at_ hj1
   rw [← B.out] at p0
   subst hA1
   by_cases he:L[j]=x
   ·have T:Hid (x∈L):=he ▸ List.getElem_mem hj1
    have he':=he.symm
    rw [he] at p0
    clear he he' hj1 R
    go_wp2
    go_ret
    exact ⟨⟨_,rfl,by rw [decide_eq_true T.out];exact decide_eq_true (by omega)⟩,B.out⟩
   ·have R2:Hid (∀ k,k<j+1→∀ (a:k<L.length),L[k]≠x):=fun k hk a=>by
     by_cases e:k=j
     ·subst e;exact he
     ·exact R.out k (by omega) a
    obtain ⟨y,hy⟩:=N9 (L[j])
    rw [hy] at p0 he
    have hne:(x == y)=false:=beq_eq_false_iff_ne.2 fun e=>he e.symm
    clear hy he hj1 R
    go_wp2
    go_roundw
    case rel=>exact ⟨j+1,by omega,by go_num,R2.out,B.out⟩
    case measure=>simp [intOf];omega
  ·have T:Hid (x∉L):=fun hm=>by
    obtain ⟨k,hk,he⟩:=List.getElem_of_mem hm
    exact R.out k (by have:=HN.out;omega) hk he
   clear R
   go_wp2
   go_ret
   exact ⟨⟨_,rfl,by rw [decide_eq_false T.out];rfl⟩,B.out⟩
theorem containsI_any (A:Option Addr) (c n:Nat) (L:List Int) (hn:L.length=n) (hL:n≤1000) (x:Int) (w:World) (H:KsP w A L) :
  Calls Tryz.prog 126 #[.slice A n c,.int .i64 x] w fun e w'=>e=.returned (.bool (decide (x∈L)))∧w'=w:=by
 have IX:=J9 (indexI_any A c n L hn hL x w H)
 obtain ⟨q,hq⟩:=N9 (decide (x∈L))
 rw [hq] at IX ⊢
 clear H hq hn
 go_enter Tryz.func126,Tryz.ntmps126
 go_wp2_with fail
 refine IX.out.mono ?_
 rintro e w1 ⟨⟨i,rfl,hi⟩,rfl⟩
 have Q:=J9 hi
 clear IX
 clear hi
 go_wp2
 go_ret
 exact ⟨ret_bool Q.out,rfl⟩
def VarA (w:World) (v:Value) (x:Vr):Prop:=∃ b1 b2 b3 A cap,v=.agg #[.func (.func 125) #[] #[.pointer (some ⟨b1,0,none⟩)],.func (.func 127) #[] #[.pointer (some ⟨b2,0,none⟩),.pointer (some ⟨b3,0,none⟩)]]∧
 Boxed w b1 109 (.slice A x.1.length cap)∧KsP w A x.1∧Boxed w b2 3 (.int .i64 x.2.1)∧Boxed w b3 3 (.int .i64 x.2.2)∧x.1.length≤1000
theorem Boxed.under {w w':World} {b:Nat} {t:TypeId} {v:Value} (h:Boxed w b t v) (hb:Below w.heap.size w w'):Boxed w' b t v:=(hb.block b h.lt).trans h
theorem VarA.below {w w':World} {v:Value} {x:Vr} (h:VarA w v x) (hb:Below w.heap.size w w'):VarA w' v x:=by
 obtain ⟨b1,b2,b3,A,cap,rfl,h1,h2,h3,h4,h5⟩:=h
 exact ⟨b1,b2,b3,A,cap,rfl,Boxed.under h1 hb,h2.below hb,Boxed.under h3 hb,Boxed.under h4 hb,h5⟩
theorem ofKinds_any (A:Option Addr) (n cap:Nat) (w:World):Calls Tryz.prog 94 #[.slice A n cap] w fun e w'=>e=.returned (.func (.func 125) #[] #[.pointer (some ⟨w.heap.size,0,none⟩)])∧w.alloc (.cells #[.slice A n cap] 109)=w':=by
 go_enter Tryz.func94,Tryz.ntmps94
 go_wp2
 go_ret
 exact ⟨rfl,rfl⟩
theorem within_any (lo hi:Int) (w:World):Calls Tryz.prog 95 #[.int .i64 lo,.int .i64 hi] w fun e w'=>e=.returned (.func (.func 127) #[] #[.pointer (some ⟨w.heap.size,0,none⟩),.pointer (some ⟨w.heap.size+1,0,none⟩)])∧(w.alloc (.cells #[.int .i64 lo] 3)).alloc (.cells #[.int .i64 hi] 3)=w':=by
 go_enter Tryz.func95,Tryz.ntmps95
 go_wp2
 go_ret
 exact ⟨rfl,rfl⟩
theorem isIn_any (b1:Nat) (A:Option Addr) (cap n:Nat) (L:List Int) (hn:L.length=n) (hL:n≤1000) (t:Tr) (w:World) (h1:Boxed w b1 109 (.slice A n cap)) (h2:KsP w A L) :
  Calls Tryz.prog 125 #[.agg #[.int .i64 t.1,.int .i64 t.2.1,.int .i64 t.2.2],.pointer (some ⟨b1,0,none⟩)] w fun e w'=>e=.returned (.bool (decide (t.1∈L)))∧Below w.heap.size w w':=by
 obtain ⟨t0,t1,t2⟩:=t
 simp only
 have hal:Below w.heap.size w (w.alloc (.cells #[.int .i64 t0,.int .i64 t1,.int .i64 t2] 56)):=(Below.refl _ _).alloc (Nat.le_refl _) _
 have C:=J9 (containsI_any A cap n L hn hL t0 _ (h2.below hal))
 have c1:=(Boxed.under h1 hal).cell
 have hne:b1≠w.heap.size:=by have:=h1.lt;omega
 have B:=J9 hal
 obtain ⟨q,hq⟩:=N9 (decide (t0∈L))
 rw [hq] at C ⊢
 obtain ⟨wa,hwa⟩:=N9 (w.alloc (.cells #[.int .i64 t0,.int .i64 t1,.int .i64 t2] 56))
 have n0:(w.alloc (.cells #[.int .i64 t0,.int .i64 t1,.int .i64 t2] 56)).heap[w.heap.size]?=some (.cells #[.int .i64 t0,.int .i64 t1,.int .i64 t2] 56 (0,0)):=World.alloc_heap_new w _
 rw [hwa] at c1 n0 C B
 have k0:=C9 n0 0
 have HW:=J9 hwa
 clear hal h1 h2 hq hn n0 hwa
 go_enter Tryz.func125,Tryz.ntmps125
 go_upto_region 1 with fail
 rw [HW.out]
 go_wp2_with fail
 refine C.out.mono ?_
 rintro e w1 ⟨rfl,rfl⟩
 go_wp2
 go_ret
 exact ⟨rfl,B.out⟩
theorem fits_in (v:Vr) (n:Int):fitsB v.2.1 v.2.2 [n]=inV v n:=by
 unfold inV
 by_cases h:v.2.1≤n∧n≤v.2.2
 ·rw [fits1_yes _ _ _ h.1 h.2,decide_eq_true h.1,decide_eq_true h.2];rfl
 ·rw [fits1_no _ _ _ (by omega)]
  by_cases h1:v.2.1≤n
  ·rw [decide_eq_true h1,decide_eq_false (fun h2=>h ⟨h1,h2⟩)];rfl
  ·rw [decide_eq_false h1];rfl
theorem allows_any (b2 b3:Nat) (v:Vr) (n:Int) (w:World) (h1:Boxed w b2 3 (.int .i64 v.2.1)) (h2:Boxed w b3 3 (.int .i64 v.2.2)) :
  Calls Tryz.prog 127 #[.int .i64 n,.pointer (some ⟨b2,0,none⟩),.pointer (some ⟨b3,0,none⟩)] w fun e w'=>e=.returned (.bool (inV v n))∧Below w.heap.size w w':=by
 have hal:Below w.heap.size w (w.alloc (.cells #[.int .i64 n] 3)):=(Below.refl _ _).alloc (Nat.le_refl _) _
 have C:=J9 (fit1_any v.2.1 v.2.2 n w.heap.size (inV v n) (fits_in v n) (w.alloc (.cells #[.int .i64 n] 3)) (by simp [go_sem]))
 have B:=J9 hal
 have c1:=h1.cell
 have c2:=h2.cell
 obtain ⟨q,hq⟩:=N9 (inV v n)
 rw [hq] at C ⊢
 clear hal h1 h2 hq
 go_enter Tryz.func127,Tryz.ntmps127
 go_wp2_with fail
 refine C.out.mono ?_
 rintro e w1 ⟨rfl,rfl⟩
 go_wp2
 go_ret
 exact ⟨rfl,B.out⟩
end Go.Proofs.YtclhaejdjogfbaaGreatDoor
namespace Go.Mixed
open Go
theorem rowsIn_wide {n:Nat} {P:Program} {row:String} {args:Array Value} {w:World} {R:Value→World→Prop} (h:Rows P row args w R):RowsIn Fence.wide n P row args w R:=fun c cs _=>
 let ⟨v,w',r,s⟩:=h c cs;⟨v,w',r,stepsIn_wide.2 s⟩
theorem opsIn_of_ops {P:Program} {r n:Nat} {ops:Array Oper} {Q:Exit→Act→World→Prop} (hnd:∀ (i:Nat) (o:Oper),ops[i]?=some o→∀ c,o.op≠.defer c) (hQ:¬LetsOut Q) :
  ∀ (l:List Nat) (a:Act) (w:World),wpOps P ops Q l a w→wpOpsIn (Fence.wide.inRound r) n P ops Q l a w
 | [],a,w,h=>h
 | i :: rest,a,w,h=>by
  have ih:=opsIn_of_ops (P:=P) (r:=r) (n:=n) hnd hQ rest
  simp only [wpOps] at h
  simp only [wpOpsIn]
  cases ho:ops[i]? with
  | none=>simp only [ho] at h;exact ih _ _ h
  | some o=>
   simp only [ho] at h ⊢
   by_cases hw:Region.wanted o (yielded ops a.tmps)=true
   ·simp only [hw,if_true] at h ⊢
    rcases h with h | h
    ·refine ⟨fun _ _=>trivial,?_⟩
     rw [Oper.semAt_eq _ _ _ (hnd i o ho)]
     unfold Oper.wp at h
     generalize (execOp a.eval o).run P w=rs at *
     cases rs with
     | ok x w'=>
      cases x <;> simp only [Oper.upon] at h
      case value v=>exact ih _ _ h
      case skip=>exact ih _ _ h
      case defer d=>exact ih _ _ h
      case enter f args=>
       refine ⟨fun h=>(by cases h),CallsIn.inRound r (callsIn_wide.2 (h.mono fun e w'' he=>?_))⟩
       cases e with
       | returned v=>exact ih _ _ he
       | panicked c=>exact he
       | outgrown=>exact he
      case row row args=>
       refine ⟨fun h=>(by cases h),?_⟩
       have h2:=rowsIn_wide (n:=n - 1) (h.mono fun v w'' hv=>ih _ _ hv)
       exact h2
     | halt x w'=>
      cases x <;> simp only [Oper.upon] at h
      case panic v=>exact h
    ·exact absurd h.2 hQ
   ·have hw':Region.wanted o (yielded ops a.tmps)=false:=by simpa using hw
    simp only [hw',Bool.false_eq_true,if_false] at h ⊢
    exact ⟨fun _ _=>trivial,ih _ _ h⟩
def noDefer (l:List Oper):Bool:=l.all fun o=>match o.op with | .defer _=>false | _=>true
theorem noDefer_spec {l:List Oper} (h:noDefer l=true):∀ (i:Nat) (o:Oper),l.toArray[i]?=some o→∀ c,o.op≠.defer c:=fun i o ho c e=>by
 have hm:o∈l:=by
  have:=Array.mem_of_getElem? ho
  simpa using this
 have:=List.all_eq_true.1 h o hm
 rw [e] at this
 cases this
theorem wpIn_region_mixed {id r m:Nat} {P:Program} {Q:Exit→Act→World→Prop} {a:Act} {w:World} {l:List Oper} (C:World→Prop) (n:Nat) (ord:List (Nat×Bool)) (hm:P.follows .mixedOrders=true) (hQ:¬LetsOut Q) (hd:noDefer l=true) (hB:mixedB .any l.toArray n ord=true)
  (hC:C w.drew) (h:wpMix P l.toArray C (fun a' w'=>wpList P l.toArray Q (l.drop n) a' w') ord a w.drew):(Code.region id l.toArray true).wpIn (Fence.wide.inRound r) m P Q a w:=by
 simp only [mixedB,Bool.and_eq_true,decide_eq_true_eq] at hB
 obtain ⟨⟨⟨⟨⟨hsel,hn⟩,hlen⟩,hs⟩,hc⟩,hord⟩:=hB
 have hdl:(l.drop n).length=l.toArray.size - n:=by simp
 have inv0:HeadInv .any l.toArray n (Array.replicate l.toArray.size false):=
  ⟨by simp,fun j oj _ hl=>(by rw [getD_replicate_false] at hl;cases hl),fun t _ ht=>getD_in (by simpa using ht) (getD_replicate_false _ _)⟩
 have H:=wpAnyC_ord hsel hs hc hn ord _ a w.drew inv0 hord hC h
 have h3:=wpAny_of_headC (Q':=Q) (g:=l.toArray.size - n) (fun listed a' w' hL=>by
  have:=wpAny_of_seq (md:=.any) (Q':=Q) (l.drop n) n listed a' w' (fun j=>by simp [List.getElem?_drop]) (by rw [hdl];exact hL.1) hL.2
  rwa [hdl] at this) _ _ _ _ H
 rw [hlen] at h3
 refine wpIn_region_draw fun t=>opsIn_of_ops (noDefer_spec hd) hQ _ _ _ ?_
 simp only [Region.schedule,hm,Bool.true_or,if_true]
 exact wpAny_sound _ t _ a _ h3
end Go.Mixed
namespace Go.Each
open Go Go.RowKit
def Gives {α:Type} (F:Fence) (n:Nat) (P:Program) (g:Nat) (lb:Array Value) (encs:α→Array Value) (E:α→World→Prop) (Kp:World→World→Prop) (S:List α→Prop) (N:Nat) (w:World):Prop:=
 ∀ (l:Nat) (J:List α→World→Prop) (W:World),Below w.heap.size w W→AbidesFrom W.heap.size J→
  (∀ pre x W1,J pre W1→E x W1→pre.length<N→YieldAt F (n - 1) P l (encs x) W1 fun e W'=>e=.returned (.bool true)∧J (pre++[x]) W'∧Kp W1 W')→
  J [] W→CallsIn F n P g (#[.func (.yield l) #[] #[]]++lb) W fun e W'=>(∃ v,e=.returned v)∧∃ xs,S xs∧J xs W'
def goesOn (K:World→Prop):Exit→Act→World→Prop
 | .normal,_,W'=>K W'
 | .ret,_,_=>False
 | .exit _,_,_=>False
 | .goto _,_,_=>False
 | .panic _,_,_=>False
 | .outgrown,_,_=>False
variable {F:Fence} {n:Nat} {P:Program}
end Go.Each
