/-
  SeA, SeB, StW, SeC, SeRa, OpC.
-/
import Derived.Test.YtoilebmbljpieaaGreatDoorGAL
import Derived.Test.YtoilebmbljpieaaGreatDoorGAC
import Derived.RangeFuncBox
import Derived.Deep.DeepCutAuto
import Derived.Laws.EntriesVeiled
import Derived.Test.YtoilebmbljpieaaGreatDoorGAD
import Derived.Shelf.Abstract
import Derived.Shelf.RegionOpen
import Derived.WalkKit
import Derived.TacticsIn
import Derived.TacticsInMore
import Derived.OwnWalkIn
import Derived.Deep.Cut
import Derived.LoopNIn
import Derived.LoopIn
import Derived.Laws.Tables
import Derived.Deep.WholeRow
set_option linter.all false
set_option maxRecDepth 100000
set_option maxHeartbeats 4000000
namespace Go.Proofs.YtoilebmbljpieaaGreatDoor
open Go.RowKit
abbrev Vr:=List Int×Int×Int
def vr0:Vr:=([],0,0)
def stepV (p:Vr×Vr) (c:UInt8):Vr×Vr:=
 if c=100 then (([5],-128,127),p.2) else if c=101 then (p.1,([10],-128,127)) else if c=110 then (p.1,([6,7],0,255)) else if c=119 then (p.1,([6,7],0,65535)) else p
def varsV (ex:Str):Vr×Vr:=ex.foldl stepV (vr0,vr0)
def atV (ks:List Int):List Tr→Option Nat
 | []=>none
 | t :: r=>match atV ks r with
  | some k=>some (k+1)
  | none=>if t.1∈ks then some 0 else none
def tr0:Tr:=(0,0,0)
def numV (ks:List Int) (L:List Tr):Int:=match atV ks L with
 | some k=>(L.getD k tr0).2.2
 | none=>0
def setN (L:List Tr) (k:Nat) (n:Int):List Tr:=L.set k ((L.getD k tr0).1,(L.getD k tr0).2.1,n)
def putL (ks:List Int) (L:List Tr) (n:Int):List Tr:=match atV ks L with
 | some k=>setN L k n
 | none=>L
def inV (v:Vr) (n:Int):Bool:=decide (v.2.1≤n)&&decide (n≤v.2.2)
def putB (v:Vr) (L:List Tr) (n:Int):Bool:=match atV v.1 L with
 | some _=>inV v n
 | none=>decide (n=0)
def fillV (ex:Str) (L:List Tr) (d n:Int):Option (List Tr):=
 if putB (varsV ex).1 L d=true∧putB (varsV ex).2 (putL (varsV ex).1.1 L d) n=true then some (putL (varsV ex).2.1 (putL (varsV ex).1.1 L d) n) else none
def hasV (m:Str) (L:List Tr) (ex:Str) (s:ByteArray) (C:List Tr):Bool:=
 match fillV ex L (numV (varsV ex).1.1 C) (numV (varsV ex).2.1 C) with
 | some L2=>decide (sB m=s)&&decide (L2=C)
 | none=>false
def valV (m:Str) (L:List Tr) (ex:Str) (s:ByteArray) (C:List Tr):Int×Int:=
 if hasV m L ex s C=true then (numV (varsV ex).1.1 C,numV (varsV ex).2.1 C) else (0,0)
def ks2 (t:Tr):Int×Int:=(t.1,t.2.1)
def varKB (t:Tr):Bool:=t.1 == 6||t.1 == 7
def letR (ex:Str) (L:List Tr) (k:Nat):UInt8:=
 if (L.getD k tr0).1=5∧ex.contains 100=true then 100 else
 if (L.getD k tr0).1=10∧ex.contains 101=true then 101 else
 if varKB (L.getD k tr0)=false then 0 else
 if (L.drop (k+1)).any varKB=true then 0 else
 if ex.contains 110=true then 110 else if ex.contains 119=true then 119 else 0
def withR (c:UInt8) (n:Int):Bool:=
 if c=100∨c=101 then decide (-128≤n)&&decide (n≤127) else if c=110 then decide (0≤n)&&decide (n≤255) else decide (0≤n)&&decide (n≤65535)
def fitT (ex:Str) (L:List Tr) (k:Nat) (t:Tr):Bool:=
 if letR ex L k=0 then decide ((L.getD k tr0).2.2=t.2.2) else withR (letR ex L k) t.2.2
def shpR (m:Str) (L:List Tr) (s:ByteArray) (C:List Tr):Bool:=decide (sB m=s)&&decide (L.map ks2=C.map ks2)
def fitsR (m:Str) (L:List Tr) (ex:Str) (s:ByteArray) (C:List Tr):Bool:=shpR m L s C&&(List.range C.length).all fun k=>fitT ex L k (C.getD k tr0)
def rangeR (c:UInt8):Int×Int:=if c=100∨c=101 then (-128,127) else if c=110 then (0,255) else (0,65535)
def placeB (ex:Str) (L:List Tr) (k:Nat):Bool:=
 if atV (varsV ex).1.1 L=some k then letR ex L k == 100&&decide ((varsV ex).1.2=rangeR 100)&&decide (atV (varsV ex).2.1 L≠some k) else
 if atV (varsV ex).2.1 L=some k then letR ex L k != 100&&letR ex L k != 0&&decide ((varsV ex).2.2=rangeR (letR ex L k)) else letR ex L k == 0
def placesB (ex:Str) (L:List Tr):Bool:=(List.range L.length).all fun k=>placeB ex L k
theorem withR_range (c:UInt8) (n:Int):withR c n=(decide ((rangeR c).1≤n)&&decide (n≤(rangeR c).2)):=by
 unfold withR rangeR
 split
 ·rfl
 ·split <;> rfl
theorem atV_lt {ks:List Int}:∀ {L:List Tr} {k:Nat},atV ks L=some k→k<L.length
 | [],k,h=>by cases h
 | t :: r,k,h=>by
  unfold atV at h
  cases hr:atV ks r with
  | some j=>
   rw [hr] at h
   obtain rfl:=Option.some.inj h
   have:=atV_lt hr
   simp;omega
  | none=>
   rw [hr] at h
   simp only at h
   split at h
   ·obtain rfl:=Option.some.inj h
    simp
   ·cases h
theorem atV_congr (ks:List Int):∀ {L C:List Tr},L.map ks2=C.map ks2→atV ks L=atV ks C
 | [],[],_=>rfl
 | [],c :: C,h=>by simp at h
 | t :: L,[],h=>by simp at h
 | t :: L,c :: C,h=>by
  simp only [List.map_cons,List.cons.injEq] at h
  unfold atV
  rw [atV_congr ks h.2]
  have h1:t.1=c.1:=congrArg (fun z:Int×Int=>z.1) h.1
  rw [h1]
theorem setN_shape (L:List Tr) (k:Nat) (n:Int):(setN L k n).map ks2=L.map ks2:=by
 unfold setN
 refine List.ext_getElem (by simp) fun i h1 h2=>?_
 rw [List.getElem_map,List.getElem_map,List.getElem_set]
 have hi:i<L.length:=by simpa using h2
 split
 ·rename_i e
  subst e
  rw [List.getD_eq_getElem?_getD,List.getElem?_eq_getElem hi]
  rfl
 ·rfl
theorem putL_shape (ks:List Int) (L:List Tr) (n:Int):(putL ks L n).map ks2=L.map ks2:=by
 unfold putL
 split
 ·exact setN_shape L _ n
 ·rfl
theorem setN_get (L:List Tr) (k:Nat) (n:Int) (i:Nat) (hi:i<L.length):(setN L k n).getD i tr0=if i=k then ((L.getD i tr0).1,(L.getD i tr0).2.1,n) else L.getD i tr0:=by
 unfold setN
 rw [List.getD_eq_getElem?_getD,List.getElem?_set]
 by_cases e:k=i
 ·subst e
  rw [if_pos rfl,if_pos hi,if_pos rfl]
  rfl
 ·rw [if_neg e,if_neg (fun h=>e h.symm),List.getD_eq_getElem?_getD]
theorem putL_get (ks:List Int) (L:List Tr) (n:Int) (i:Nat) (hi:i<L.length):(putL ks L n).getD i tr0=if atV ks L=some i then ((L.getD i tr0).1,(L.getD i tr0).2.1,n) else L.getD i tr0:=by
 unfold putL
 cases h:atV ks L with
 | none=>simp
 | some k=>
  simp only [Option.some.injEq]
  rw [setN_get L k n i hi]
  by_cases e:i=k
  ·rw [if_pos e,if_pos e.symm]
  ·rw [if_neg e,if_neg (fun h=>e h.symm)]
theorem len_of_shape {L C:List Tr} (h:L.map ks2=C.map ks2):L.length=C.length:=by simpa using congrArg List.length h
theorem get_of_shape {L C:List Tr} (h:L.map ks2=C.map ks2) (i:Nat) (hi:i<L.length):(L.getD i tr0).1=(C.getD i tr0).1∧(L.getD i tr0).2.1=(C.getD i tr0).2.1:=by
 have hc:i<C.length:=by rw [← len_of_shape h];exact hi
 have h1:=congrArg (fun z=>z[i]?) h
 simp only [List.getElem?_map,List.getElem?_eq_getElem hi,List.getElem?_eq_getElem hc,Option.map_some,Option.some.injEq] at h1
 rw [List.getD_eq_getElem?_getD,List.getD_eq_getElem?_getD,List.getElem?_eq_getElem hi,List.getElem?_eq_getElem hc]
 exact ⟨congrArg (fun z:Int×Int=>z.1) h1,congrArg (fun z:Int×Int=>z.2) h1⟩
theorem ext_getD {L C:List Tr} (hl:L.length=C.length) (h:∀ i,i<L.length→L.getD i tr0=C.getD i tr0):L=C:=by
 refine List.ext_getElem hl fun i h1 h2=>?_
 have:=h i h1
 rw [List.getD_eq_getElem?_getD,List.getD_eq_getElem?_getD,List.getElem?_eq_getElem h1,List.getElem?_eq_getElem h2] at this
 exact this
theorem fill_shape {ex:Str} {L L2:List Tr} {d n:Int} (h:fillV ex L d n=some L2):L2.map ks2=L.map ks2∧putB (varsV ex).1 L d=true∧putB (varsV ex).2 L n=true∧L2=putL (varsV ex).2.1 (putL (varsV ex).1.1 L d) n:=by
 unfold fillV at h
 split at h
 ·rename_i hc
  obtain rfl:=Option.some.inj h
  refine ⟨(putL_shape _ _ _).trans (putL_shape _ _ _),hc.1,?_,rfl⟩
  have h2:=hc.2
  unfold putB at h2 ⊢
  rw [← atV_congr (varsV ex).2.1 (putL_shape (varsV ex).1.1 L d)]
  exact h2
 ·cases h
theorem places_at {ex:Str} {L:List Tr} (h:placesB ex L=true) (k:Nat) (hk:k<L.length):placeB ex L k=true:=List.all_eq_true.1 h k (List.mem_range.2 hk)
theorem fill_get {ex:Str} {L L2:List Tr} {d n:Int} (h:fillV ex L d n=some L2) (i:Nat) (hi:i<L.length) :
  L2.getD i tr0=if atV (varsV ex).2.1 L=some i then ((L.getD i tr0).1,(L.getD i tr0).2.1,n) else if atV (varsV ex).1.1 L=some i then ((L.getD i tr0).1,(L.getD i tr0).2.1,d) else L.getD i tr0:=by
 obtain ⟨-,-,-,rfl⟩:=fill_shape h
 have h1:=len_of_shape (putL_shape (varsV ex).1.1 L d)
 rw [putL_get _ _ _ _ (by omega),atV_congr (varsV ex).2.1 (putL_shape (varsV ex).1.1 L d),putL_get _ _ _ _ hi]
 split
 ·split <;> rfl
 ·rfl
theorem has_fits {m ex:Str} {L:List Tr} (hp:placesB ex L=true) (s:ByteArray) (C:List Tr):hasV m L ex s C=fitsR m L ex s C:=by
 by_cases hs:sB m=s
 rotate_left
 ·unfold hasV fitsR shpR
  rw [decide_eq_false hs]
  split <;> simp
 by_cases hsh:L.map ks2=C.map ks2
 rotate_left
 ·have e2:fitsR m L ex s C=false:=by unfold fitsR shpR;rw [decide_eq_false hsh];simp
  rw [e2]
  unfold hasV
  cases hf:fillV ex L (numV (varsV ex).1.1 C) (numV (varsV ex).2.1 C) with
  | none=>rfl
  | some L2=>
   have h1:=(fill_shape hf).1
   have:L2≠C:=fun e=>hsh (by rw [← h1,e])
   simp [this]
 have hl:=len_of_shape hsh
 have a1:=atV_congr (varsV ex).1.1 hsh
 have a2:=atV_congr (varsV ex).2.1 hsh
 rw [Bool.eq_iff_iff]
 constructor
 ·intro h
  unfold hasV at h
  cases hf:fillV ex L (numV (varsV ex).1.1 C) (numV (varsV ex).2.1 C) with
  | none=>rw [hf] at h;cases h
  | some L2=>
   rw [hf] at h
   simp only [Bool.and_eq_true,decide_eq_true_eq] at h
   obtain rfl:=h.2
   unfold fitsR shpR
   rw [decide_eq_true hs,decide_eq_true hsh]
   simp only [Bool.and_self,Bool.true_and,List.all_eq_true,List.mem_range]
   intro k hk
   have hk':k<L.length:=by omega
   have hg:=fill_get hf k hk'
   have hpl:=places_at hp k hk'
   obtain ⟨-,b1,b2,-⟩:=fill_shape hf
   unfold fitT
   unfold placeB at hpl
   by_cases e1:atV (varsV ex).1.1 L=some k
   ·rw [if_pos e1] at hpl
    simp only [Bool.and_eq_true,beq_iff_eq,decide_eq_true_eq] at hpl
    rw [hpl.1.1,if_neg (by decide),withR_range,← hpl.1.2]
    rw [if_neg hpl.2,if_pos e1] at hg
    unfold putB at b1
    rw [e1] at b1
    rw [hg]
    exact b1
   ·rw [if_neg e1] at hpl
    by_cases e2:atV (varsV ex).2.1 L=some k
    ·rw [if_pos e2] at hpl
     simp only [Bool.and_eq_true,bne_iff_ne,decide_eq_true_eq] at hpl
     rw [if_neg hpl.1.2,withR_range,← hpl.2]
     rw [if_pos e2] at hg
     unfold putB at b2
     rw [e2] at b2
     rw [hg]
     exact b2
    ·rw [if_neg e2] at hpl
     rw [if_pos (by simpa using hpl)]
     rw [if_neg e2,if_neg e1] at hg
     rw [hg]
     exact decide_eq_true rfl
 ·intro h
  unfold fitsR shpR at h
  simp only [Bool.and_eq_true,List.all_eq_true,List.mem_range] at h
  have hfit:∀ k,k<L.length→fitT ex L k (C.getD k tr0)=true:=fun k hk=>h.2 k (by omega)
  have n1:∀ k,atV (varsV ex).1.1 L=some k→numV (varsV ex).1.1 C=(C.getD k tr0).2.2:=fun k hk=>by unfold numV;rw [← a1,hk]
  have n2:∀ k,atV (varsV ex).2.1 L=some k→numV (varsV ex).2.1 C=(C.getD k tr0).2.2:=fun k hk=>by unfold numV;rw [← a2,hk]
  have b1:putB (varsV ex).1 L (numV (varsV ex).1.1 C)=true:=by
   unfold putB
   cases e1:atV (varsV ex).1.1 L with
   | none=>simp only;unfold numV;rw [← a1,e1];exact decide_eq_true rfl
   | some k=>
    have hk:=atV_lt e1
    have hpl:=places_at hp k hk
    have hf:=hfit k hk
    unfold placeB at hpl
    rw [if_pos e1] at hpl
    simp only [Bool.and_eq_true,beq_iff_eq,decide_eq_true_eq] at hpl
    unfold fitT at hf
    rw [hpl.1.1,if_neg (by decide),withR_range,← hpl.1.2,← n1 k e1] at hf
    exact hf
  have b2:putB (varsV ex).2 (putL (varsV ex).1.1 L (numV (varsV ex).1.1 C)) (numV (varsV ex).2.1 C)=true:=by
   unfold putB
   rw [atV_congr (varsV ex).2.1 (putL_shape (varsV ex).1.1 L _)]
   cases e2:atV (varsV ex).2.1 L with
   | none=>simp only;unfold numV;rw [← a2,e2];exact decide_eq_true rfl
   | some k=>
    have hk:=atV_lt e2
    have hpl:=places_at hp k hk
    have hf:=hfit k hk
    unfold placeB at hpl
    have e1:¬atV (varsV ex).1.1 L=some k:=fun e1=>by
     rw [if_pos e1] at hpl
     simp only [Bool.and_eq_true,decide_eq_true_eq] at hpl
     exact hpl.2 e2
    rw [if_neg e1,if_pos e2] at hpl
    simp only [Bool.and_eq_true,bne_iff_ne,decide_eq_true_eq] at hpl
    unfold fitT at hf
    rw [if_neg hpl.1.2,withR_range,← hpl.2,← n2 k e2] at hf
    exact hf
  have hf:fillV ex L (numV (varsV ex).1.1 C) (numV (varsV ex).2.1 C)=some (putL (varsV ex).2.1 (putL (varsV ex).1.1 L (numV (varsV ex).1.1 C)) (numV (varsV ex).2.1 C)):=by
   unfold fillV
   rw [if_pos ⟨b1,b2⟩]
  unfold hasV
  rw [hf]
  simp only [Bool.and_eq_true,decide_eq_true_eq]
  refine ⟨hs,?_⟩
  have hsh2:=(fill_shape hf).1
  have hl2:=len_of_shape hsh2
  refine ext_getD (by omega) fun i hi=>?_
  have hi':i<L.length:=by omega
  have hg:=fill_get hf i hi'
  have hgs:=get_of_shape hsh i hi'
  rw [hg]
  have hpl:=places_at hp i hi'
  have hfi:=hfit i hi'
  unfold placeB at hpl
  have e3:∀ n:Int,(C.getD i tr0).2.2=n→((L.getD i tr0).1,(L.getD i tr0).2.1,n)=C.getD i tr0:=fun n hn=>by rw [hgs.1,hgs.2,← hn]
  by_cases e2:atV (varsV ex).2.1 L=some i
  ·rw [if_pos e2]
   exact e3 _ (n2 i e2).symm
  ·rw [if_neg e2]
   by_cases e1:atV (varsV ex).1.1 L=some i
   ·rw [if_pos e1]
    exact e3 _ (n1 i e1).symm
   ·rw [if_neg e1]
    rw [if_neg e1,if_neg e2] at hpl
    unfold fitT at hfi
    rw [if_pos (by simpa using hpl)] at hfi
    have:=of_decide_eq_true hfi
    exact e3 _ this.symm
end Go.Proofs.YtoilebmbljpieaaGreatDoor
namespace Go.Proofs.YtoilebmbljpieaaGreatDoor
open Go.RowKit
def KsP (w:World) (A:Option Addr) (L:List Int):Prop:=L=[]∨∃ b off,A=some ⟨b,off,none⟩∧∀ k (h:k<L.length),w.cell? ⟨b,off+k,none⟩=some (.int .i64 L[k])
theorem KsP.below {w w':World} {A:Option Addr} {L:List Int} (h:KsP w A L) (hb:Below w.heap.size w w'):KsP w' A L:=by
 rcases h with rfl | ⟨b,off,rfl,hc⟩
 ·exact .inl rfl
 ·exact .inr ⟨b,off,rfl,fun k hk=>(hb.cell (World.block_lt_of_cell? w _ (hc k hk))).trans (hc k hk)⟩
theorem KsP.at_ {w:World} {A:Option Addr} {L:List Int} (h:KsP w A L) {k:Nat} (hk:k<L.length):∃ b off,A=some ⟨b,off,none⟩∧w.cell? ⟨b,off+k,none⟩=some (.int .i64 L[k]):=by
 rcases h with rfl | ⟨b,off,rfl,hc⟩
 ·simp at hk
 ·exact ⟨b,off,rfl,hc k hk⟩
theorem indexI_any (A:Option Addr) (c n:Nat) (L:List Int) (hn:L.length=n) (hL:n≤1000) (x:Int) (w:World) (H:KsP w A L) :
  Calls Tryz.prog 165 #[.slice A n c,.int .i64 x] w fun e w'=>(∃ i:Int,e=.returned (.int .i64 i)∧decide (0≤i)=decide (x∈L))∧w'=w:=by
 have X:=Lib.hid H
 have HN:=Lib.hid hn
 clear H hn
 go_enter Tryz.func165,Tryz.ntmps165
 go_wp2
 go_loopw [8] (fun i wr=>∃ j:Nat,j≤n∧i=.int .i64 j∧Hid (∀ k,k<j→∀ (a:k<L.length),L[k]≠x)∧Hid (wr=w)) (fun i _=>n - (intOf i).toNat)
 case atStart=>exact ⟨0,Nat.zero_le _,rfl,fun k h=>by omega,rfl⟩
 case round=>
  obtain ⟨j,hj,rfl,R,B⟩:=hrel
  by_cases hlt:j<n
  ·have hj1:j<L.length:=by have:=HN.out;omega
   obtain ⟨b1,o1,hA1,p0⟩:=X.out.at_ hj1
   rw [← B.out] at p0
   subst hA1
   by_cases he:L[j]=x
   ·have T:Hid (x∈L):=he ▸ List.getElem_mem hj1
    have he':=he.symm
    rw [he] at p0
    clear he he' hj1 R
    go_wp2
    go_ret
    exact ⟨⟨_,rfl,by rw [decide_eq_true T.out];exact decide_eq_true (by omega)⟩,B.out⟩
   ·have R2:Hid (∀ k,k<j+1→∀ (a:k<L.length),L[k]≠x):=fun k hk a=>by
     by_cases e:k=j
     ·subst e;exact he
     ·exact R.out k (by omega) a
    obtain ⟨y,hy⟩:∃ y,L[j]=y:=⟨_,rfl⟩
    rw [hy] at p0 he
    have hne:(x == y)=false:=beq_eq_false_iff_ne.2 fun e=>he e.symm
    clear hy he hj1 R
    go_wp2
    go_roundw
    case rel=>exact ⟨j+1,by omega,by go_num,R2.out,B.out⟩
    case measure=>simp [intOf];omega
  ·have T:Hid (x∉L):=fun hm=>by
    obtain ⟨k,hk,he⟩:=List.getElem_of_mem hm
    exact R.out k (by have:=HN.out;omega) hk he
   clear R
   go_wp2
   go_ret
   exact ⟨⟨_,rfl,by rw [decide_eq_false T.out];rfl⟩,B.out⟩
theorem containsI_any (A:Option Addr) (c n:Nat) (L:List Int) (hn:L.length=n) (hL:n≤1000) (x:Int) (w:World) (H:KsP w A L) :
  Calls Tryz.prog 141 #[.slice A n c,.int .i64 x] w fun e w'=>e=.returned (.bool (decide (x∈L)))∧w'=w:=by
 have IX:=Lib.hid (indexI_any A c n L hn hL x w H)
 obtain ⟨q,hq⟩:∃ q,decide (x∈L)=q:=⟨_,rfl⟩
 rw [hq] at IX ⊢
 clear H hq hn
 go_enter Tryz.func141,Tryz.ntmps141
 go_wp2_with fail
 refine IX.out.mono ?_
 rintro e w1 ⟨⟨i,rfl,hi⟩,rfl⟩
 have Q:=Lib.hid hi
 clear IX
 clear hi
 go_wp2
 go_ret
 exact ⟨ret_bool Q.out,rfl⟩
def VarA (w:World) (v:Value) (x:Vr):Prop:=∃ b1 b2 b3 A cap,v=.agg #[.func (.func 140) #[] #[.pointer (some ⟨b1,0,none⟩)],.func (.func 142) #[] #[.pointer (some ⟨b2,0,none⟩),.pointer (some ⟨b3,0,none⟩)]]∧
 Boxed w b1 125 (.slice A x.1.length cap)∧KsP w A x.1∧Boxed w b2 3 (.int .i64 x.2.1)∧Boxed w b3 3 (.int .i64 x.2.2)∧x.1.length≤1000
theorem Boxed.under {w w':World} {b:Nat} {t:TypeId} {v:Value} (h:Boxed w b t v) (hb:Below w.heap.size w w'):Boxed w' b t v:=(hb.block b h.lt).trans h
theorem VarA.below {w w':World} {v:Value} {x:Vr} (h:VarA w v x) (hb:Below w.heap.size w w'):VarA w' v x:=by
 obtain ⟨b1,b2,b3,A,cap,rfl,h1,h2,h3,h4,h5⟩:=h
 exact ⟨b1,b2,b3,A,cap,rfl,Boxed.under h1 hb,h2.below hb,Boxed.under h3 hb,Boxed.under h4 hb,h5⟩
theorem ofKinds_any (A:Option Addr) (n cap:Nat) (w:World):Calls Tryz.prog 109 #[.slice A n cap] w fun e w'=>e=.returned (.func (.func 140) #[] #[.pointer (some ⟨w.heap.size,0,none⟩)])∧w.alloc (.cells #[.slice A n cap] 125)=w':=by
 go_enter Tryz.func109,Tryz.ntmps109
 go_wp2
 go_ret
 exact ⟨rfl,rfl⟩
theorem within_any (lo hi:Int) (w:World):Calls Tryz.prog 110 #[.int .i64 lo,.int .i64 hi] w fun e w'=>e=.returned (.func (.func 142) #[] #[.pointer (some ⟨w.heap.size,0,none⟩),.pointer (some ⟨w.heap.size+1,0,none⟩)])∧(w.alloc (.cells #[.int .i64 lo] 3)).alloc (.cells #[.int .i64 hi] 3)=w':=by
 go_enter Tryz.func110,Tryz.ntmps110
 go_wp2
 go_ret
 exact ⟨rfl,rfl⟩
theorem isIn_any (b1:Nat) (A:Option Addr) (cap n:Nat) (L:List Int) (hn:L.length=n) (hL:n≤1000) (t:Tr) (w:World) (h1:Boxed w b1 125 (.slice A n cap)) (h2:KsP w A L) :
  Calls Tryz.prog 140 #[.agg #[.int .i64 t.1,.int .i64 t.2.1,.int .i64 t.2.2],.pointer (some ⟨b1,0,none⟩)] w fun e w'=>e=.returned (.bool (decide (t.1∈L)))∧Below w.heap.size w w':=by
 obtain ⟨t0,t1,t2⟩:=t
 simp only
 have hal:Below w.heap.size w (w.alloc (.cells #[.int .i64 t0,.int .i64 t1,.int .i64 t2] 63)):=(Below.refl _ _).alloc (Nat.le_refl _) _
 have C:=Lib.hid (containsI_any A cap n L hn hL t0 _ (h2.below hal))
 have c1:=(Boxed.under h1 hal).cell
 have hne:b1≠w.heap.size:=by have:=h1.lt;omega
 have B:=Lib.hid hal
 obtain ⟨q,hq⟩:∃ q,decide (t0∈L)=q:=⟨_,rfl⟩
 rw [hq] at C ⊢
 obtain ⟨wa,hwa⟩:∃ wa,w.alloc (.cells #[.int .i64 t0,.int .i64 t1,.int .i64 t2] 63)=wa:=⟨_,rfl⟩
 have n0:(w.alloc (.cells #[.int .i64 t0,.int .i64 t1,.int .i64 t2] 63)).heap[w.heap.size]?=some (.cells #[.int .i64 t0,.int .i64 t1,.int .i64 t2] 63 (0,0)):=World.alloc_heap_new w _
 rw [hwa] at c1 n0 C B
 have k0:=Lib.cell_of_heap n0 0
 have HW:=Lib.hid hwa
 clear hal h1 h2 hq hn n0 hwa
 go_enter Tryz.func140,Tryz.ntmps140
 go_upto_region 1 with fail
 rw [HW.out]
 go_wp2_with fail
 refine C.out.mono ?_
 rintro e w1 ⟨rfl,rfl⟩
 go_wp2
 go_ret
 exact ⟨rfl,B.out⟩
theorem fits_in (v:Vr) (n:Int):fitsB v.2.1 v.2.2 [n]=inV v n:=by
 unfold inV
 by_cases h:v.2.1≤n∧n≤v.2.2
 ·rw [fits1_yes _ _ _ h.1 h.2,decide_eq_true h.1,decide_eq_true h.2];rfl
 ·rw [fits1_no _ _ _ (by omega)]
  by_cases h1:v.2.1≤n
  ·rw [decide_eq_true h1,decide_eq_false (fun h2=>h ⟨h1,h2⟩)];rfl
  ·rw [decide_eq_false h1];rfl
theorem allows_any (b2 b3:Nat) (v:Vr) (n:Int) (w:World) (h1:Boxed w b2 3 (.int .i64 v.2.1)) (h2:Boxed w b3 3 (.int .i64 v.2.2)) :
  Calls Tryz.prog 142 #[.int .i64 n,.pointer (some ⟨b2,0,none⟩),.pointer (some ⟨b3,0,none⟩)] w fun e w'=>e=.returned (.bool (inV v n))∧Below w.heap.size w w':=by
 have hal:Below w.heap.size w (w.alloc (.cells #[.int .i64 n] 3)):=(Below.refl _ _).alloc (Nat.le_refl _) _
 have C:=Lib.hid (fit1_any v.2.1 v.2.2 n w.heap.size (inV v n) (fits_in v n) (w.alloc (.cells #[.int .i64 n] 3)) (by simp [go_sem]))
 have B:=Lib.hid hal
 have c1:=h1.cell
 have c2:=h2.cell
 obtain ⟨q,hq⟩:∃ q,inV v n=q:=⟨_,rfl⟩
 rw [hq] at C ⊢
 clear hal h1 h2 hq
 go_enter Tryz.func142,Tryz.ntmps142
 go_wp2_with fail
 refine C.out.mono ?_
 rintro e w1 ⟨rfl,rfl⟩
 go_wp2
 go_ret
 exact ⟨rfl,B.out⟩
end Go.Proofs.YtoilebmbljpieaaGreatDoor
namespace Go.Stops
open Go Go.RowKit
def TellsW {α:Type} (F:Fence) (n:Nat) (P:Program) (g:Nat) (lb:Array Value) (encs:α→Array Value) (E:List α→α→World→Prop) (Kp:World→World→Prop) (S:List α→Prop) (w:World):Prop:=
 ∀ (l:Nat) (J Jx:List α→World→Prop) (W:World),Below w.heap.size w W→AbidesFrom W.heap.size J→
  (∀ pre x W1,J pre W1→E pre x W1→YieldAt F (n - 1) P l (encs x) W1 fun e W'=>(e=.returned (.bool true)∧J (pre++[x]) W'∧Kp W1 W')∨(e=.returned (.bool false)∧Jx (pre++[x]) W'))→
  AbidesFrom W.heap.size Jx→J [] W→CallsIn F n P g (#[.func (.yield l) #[] #[]]++lb) W fun e W'=>(∃ v,e=.returned v)∧((∃ xs,S xs∧J xs W')∨∃ pre,Jx pre W')
variable {F:Fence} {n:Nat} {P:Program}
theorem wpIn_tellsW {α:Type} {g:Operand} {ps:Array Tmp} {assign body:Code} {Q:Exit→Act→World→Prop} {a:Act} {w:World} (hro:F.round=none) (h1:1≤n)
  {gf:Nat} {lb:Array Value} (hg:a.eval g=.func (.func gf) #[] lb) (hFg:F.fn gf) (eg:∀ args w,(callFunc gf args).run P w=.ok (.enter gf args) w)
  {encs:α→Array Value} {E:List α→α→World→Prop} {Kp:World→World→Prop} {S:List α→Prop} (hseq:TellsW F (n - 1) P gf lb encs E Kp S w)
  (hKt:∀ {A B C:World},Kp A B→Kp B C→Kp A C) (hKb:∀ (W:World) (l:Nat) (o o':Obj),w.heap.size≤l→W.heap[l]?=some o→o.isCells=false→Kp W (W.putObj l o')) (hps:∀ x,(encs x).size=ps.size)
  (I Ix:List α→World→Prop) (hI:OwnFrom w.heap.size I) (hIx:OwnFrom w.heap.size Ix) (h0:I [] w) (Ax:List α→α→Act→World→Prop) (hAx:∀ p x,OwnFrom w.heap.size (Ax p x))
  (hassign:∀ (l:Nat) (pre:List α) (x:α) (W:World) (K:Act→World→Prop),I pre W→E pre x W→(∀ a' W',KeepsFrom w.heap.size W W'→Kp W W'→I pre W'→Ax pre x a' W'→K a' W')→
   assign.wpIn (F.inRound l) (n - 1 - 1) P (Exit.then K (fun _ _ _=>False)) {tmps:=(ps.zip (encs x)).foldl (fun t (p,v)=>t.setIfInBounds p v) a.tmps,defers:=[]} W)
  (hbody:∀ (l:Nat) (pre:List α) (x:α) (a':Act) (W:World),I pre W→Ax pre x a' W→body.wpIn (F.inRound l) (n - 1 - 1) P (endsSo w.heap.size Kp I Ix (pre++[x]) W) a' W)
  (hdone:∀ (D:Nat) (xs:List α) (W:World),w.heap.size≤D→S xs→I xs W→W.heap[D]?=some (.deferred (some []))→Q .normal {a with defers:={target:=.collected D,args:=#[]} :: a.defers} W)
  (hstop:∀ (D:Nat) (pre:List α) (W:World),w.heap.size≤D→Ix pre W→W.heap[D]?=some (.deferred (some []))→Code.ret.wpIn F n P Q {a with defers:={target:=.collected D,args:=#[]} :: a.defers} W) :
  (Code.rangeFunc g ps assign body).wpIn F n P Q a w:=by
 refine wpIn_rangeFunc fun fn hfn=>?_
 rw [hro]
 let R:LoopState→Option Code→Loop:=fun st j=>{state:=st,pending:=j,fn:=fn,tmps:=a.tmps,params:=ps,assign:=assign,body:=body,defers:=w.heap.size}
 let B:World:=(w.alloc (.deferred (some []))).alloc (.loop (R .ready none))
 have bD:B.heap[w.heap.size]?=some (.deferred (some [])):=(Below.heap_alloc _ _ _ (by simp)).trans (World.alloc_heap_new w _)
 have bL:B.heap[w.heap.size+1]?=some (.loop (R .ready none)):=by
  have h:=World.alloc_heap_new (w.alloc (.deferred (some []))) (.loop (R .ready none))
  rwa [World.size_alloc] at h
 have bI:I [] B:=hI.alloc _ (hI.alloc _ h0)
 have bB:Below w.heap.size w B:=((Below.refl _ w).alloc (Nat.le_refl _) _).alloc (by simp) _
 have bz:B.heap.size=w.heap.size+1+1:=by simp [B]
 -- what a turn of a walk of the iterator's own leaves of the two blocks
 have walk:∀ {X Y:World} {row:Option Nat} {k:Nat} {o:Obj},X.grownBy Y row→(∀ r,row=some r→B.heap.size≤r∧∃ o:Obj,X.heap[r]?=some o∧o.isWalk=true)→X.heap[k]?=some o→k<w.heap.size+2→Y.heap[k]?=some o:=fun hg' hr hk hlt=>
  (hg'.block _ (Array.getElem?_eq_some_iff.1 hk).1 fun e=>by have:=(hr _ e.symm).1;omega).trans hk
 have cells:∀ {X Y:World} {row:Option Nat},(∀ r,row=some r→B.heap.size≤r∧∃ o:Obj,X.heap[r]?=some o∧o.isWalk=true)→(∀ r,row=some r→w.heap.size≤r∧∃ o:Obj,X.heap[r]?=some o∧o.isCells=false):=fun hr r e=>by
  obtain ⟨k1,o,k2,k3⟩:=hr r e
  exact ⟨by omega,o,k2,Obj.not_cells_of_walk k3⟩
 refine ⟨w.heap.size+1,[{target:=.collected w.heap.size,args:=#[]}],B,{target:=.fn (.func gf) lb,args:=#[.func (.yield (w.heap.size+1)) #[] #[]]},B,gf,#[.func (.yield (w.heap.size+1)) #[] #[]]++lb,B,
  run_enterLoop_outer _ _ _ _ _,by simp only [resolve,hg];simp [go_sem],fun f' hf'=>by simp [Target.leads] at hf';subst hf';exact hFg,by simp [invoke,go_sem,eg],fun _=>h1,?_⟩
 refine (hseq (w.heap.size+1) (fun pre W=>I pre W∧W.heap[w.heap.size+1]?=some (.loop (R .ready none))∧W.heap[w.heap.size]?=some (.deferred (some [])))
  (fun pre W=>Ix pre W∧W.heap[w.heap.size+1]?=some (.loop (R .done (some .ret)))∧W.heap[w.heap.size]?=some (.deferred (some []))) B bB ?_ ?_ ?_ ⟨bI,bL,bD⟩).mono ?_
 ·rintro s X Y row ⟨s1,s2,s3⟩ hg' hr
  exact ⟨hI s X Y row s1 hg' (cells (Y:=Y) hr),walk hg' hr s2 (by omega),walk hg' hr s3 (by omega)⟩
 ·rintro pre x W ⟨s1,s2,s3⟩ hx
  refine ⟨fn,_,assign,body,run_yield (P:=P) (args:=encs x) s2 (hps x),roundIn_of_wpIn hfn (hassign _ pre x W _ s1 hx fun a' U u1 uK uI uA=>?_)⟩
  have u2:=u1.same _ _ (by omega) s2 rfl
  have u3:=u1.same _ _ (Nat.le_refl _) s3 rfl
  have hlu:w.heap.size+1<U.heap.size:=(Array.getElem?_eq_some_iff.1 u2).1
  refine ⟨_,run_beginRound u2 rfl,?_⟩
  obtain ⟨V,hV⟩:∃ V,U.putObj (w.heap.size+1) (.loop {R .ready none with state:=.busy})=V:=⟨_,rfl⟩
  have v2:V.heap[w.heap.size+1]?=some (.loop {R .ready none with state:=.busy}):=hV ▸ World.putObj_heap_same hlu
  have v3:V.heap[w.heap.size]?=some (.deferred (some [])):=hV ▸ (World.putObj_heap_other (by omega)).trans u3
  have vI:I pre V:=hV ▸ hI.putObj _ uI (by omega) u2 rfl
  have vE:Ax pre x a' V:=hV ▸ (hAx pre x).putObj _ uA (by omega) u2 rfl
  have vK:Kp W V:=hKt uK (hV ▸ hKb _ _ _ _ (by omega) u2 rfl)
  show body.wpIn _ _ _ _ _ (U.putObj (w.heap.size+1) (.loop {R .ready none with state:=.busy}))
  rw [hV]
  refine wpIn_mono (hbody _ pre x a' V vI vE) ?_
  rintro (_ | _ | _ | _ | _ | _) a3 Z hz
  case normal=>
   obtain ⟨z1,z2,z3⟩:=hz
   have l3:=z1.same _ _ (by omega) v2 rfl
   exact ⟨_,_,run_endRound (P:=P) none l3,.inl ⟨rfl,⟨hI.putObj _ z3 (by omega) l3 rfl,World.putObj_heap_same (Array.getElem?_eq_some_iff.1 l3).1,(World.putObj_heap_other (by omega)).trans (z1.same _ _ (Nat.le_refl _) v3 rfl)⟩,hKt (hKt vK z2) (hKb _ _ _ _ (by omega) l3 rfl)⟩⟩
  case ret=>
   obtain ⟨z1,z3⟩:=hz
   have l3:=z1.same _ _ (by omega) v2 rfl
   exact ⟨_,_,run_endRound (P:=P) (some .ret) l3,.inr ⟨rfl,hIx.putObj _ z3 (by omega) l3 rfl,World.putObj_heap_same (Array.getElem?_eq_some_iff.1 l3).1,(World.putObj_heap_other (by omega)).trans (z1.same _ _ (Nat.le_refl _) v3 rfl)⟩⟩
  all_goals exact hz.elim
 ·rintro s X Y row ⟨s1,s2,s3⟩ hg' hr
  exact ⟨hIx s X Y row s1 hg' (cells (Y:=Y) hr),walk hg' hr s2 (by omega),walk hg' hr s3 (by omega)⟩
 ·rintro e Z ⟨⟨v,rfl⟩,(⟨xs,hS,z1,z2,z3⟩ | ⟨pre,z1,z2,z3⟩)⟩
  ·exact ⟨none,_,run_endLoop (P:=P) z2 (by simp [R]),hdone _ xs _ (Nat.le_refl _) hS (hI.putObj _ z1 (by omega) z2 rfl) ((World.putObj_heap_other (by omega)).trans z3)⟩
  ·exact ⟨some .ret,_,run_endLoop (P:=P) z2 (by simp [R]),hstop _ pre _ (Nat.le_refl _) (hIx.putObj _ z1 (by omega) z2 rfl) ((World.putObj_heap_other (by omega)).trans z3)⟩
end Go.Stops
namespace Go.Proofs.YtoilebmbljpieaaGreatDoor
open Go.RowKit
attribute [local go_sem] Oper.semAt_some
theorem atV_none {ks:List Int}:∀ {L:List Tr},(∀ j,j<L.length→(L.getD j tr0).1∉ks)→atV ks L=none
 | [],_=>rfl
 | t :: r,h=>by
  unfold atV
  rw [atV_none (L:=r) (fun j hj=>by have:=h (j+1) (by simp;omega);rwa [List.getD_cons_succ] at this)]
  exact if_neg (h 0 (by simp))
theorem atV_last {ks:List Int}:∀ {L:List Tr} {k:Nat},k<L.length→(L.getD k tr0).1∈ks→(∀ j,k<j→j<L.length→(L.getD j tr0).1∉ks)→atV ks L=some k
 | [],k,hk,_,_=>by simp at hk
 | t :: r,0,_,h1,h2=>by
  unfold atV
  rw [atV_none (L:=r) (fun j hj=>by have:=h2 (j+1) (by omega) (by simp;omega);rwa [List.getD_cons_succ] at this)]
  exact if_pos h1
 | t :: r,k+1,hk,h1,h2=>by
  unfold atV
  rw [List.getD_cons_succ] at h1
  rw [atV_last (L:=r) (by simpa using hk) h1 (fun j hj hl=>by have:=h2 (j+1) (by omega) (by simp;omega);rwa [List.getD_cons_succ] at this)]
def atI (ks:List Int) (L:List Tr):Int:=match atV ks L with
 | some k=>k
 | none=>-1
def KeepN (N:Nat) (W W':World):Prop:=∀ k,k<N→W'.heap[k]?=W.heap[k]?
theorem KeepN.trans {N:Nat} {A B C:World} (h:KeepN N A B) (k:KeepN N B C):KeepN N A C:=fun x hx=>(k x hx).trans (h x hx)
theorem KeepN.of_below {N B:Nat} {W W':World} (h:Below B W W') (hN:N≤B):KeepN N W W':=fun k hk=>h.block k (by omega)
theorem KeepN.put {N:Nat} (W:World) (l:Nat) (o':Obj) (hl:N≤l):KeepN N W (W.putObj l o'):=fun k hk=>World.putObj_heap_other (by omega)
theorem KeepN.cell {N:Nat} {W W':World} (h:KeepN N W W') {a:Addr} (ha:a.block<N):W'.cell? a=W.cell? a:=World.cell?_of_block (h _ ha)
theorem OpsP.keepN {N:Nat} {W W':World} {A:Option Addr} {L:List Tr} (h:OpsP W A L) (k:KeepN N W W') (hA:∀ a,A=some a→L≠[]→a.block<N):OpsP W' A L:=by
 by_cases hL:L=[]
 ·exact .inl hL
 rcases h with h | ⟨b,off,rfl,hc⟩
 ·exact absurd h hL
 ·have hb:b<N:=hA _ rfl hL
  refine .inr ⟨b,off,rfl,fun j hj=>?_⟩
  obtain ⟨h1,h2,h3⟩:=hc j hj
  exact ⟨(k.cell (a:=⟨b,_,none⟩) hb).trans h1,(k.cell (a:=⟨b,_,none⟩) hb).trans h2,(k.cell (a:=⟨b,_,none⟩) hb).trans h3⟩
def opdV (t:Tr):Value:=.agg #[.int .i64 t.1,.int .i64 t.2.1,.int .i64 t.2.2]
def BackE (L:List Tr) (pre:List (Nat×Tr)) (x:Nat×Tr) (W:World):Prop:=pre.length<L.length∧x.1=L.length - 1 - pre.length∧x.2=L.getD x.1 tr0
theorem backward_any (A:Option Addr) (n cap:Nat) (w:World):Calls Tryz.prog 143 #[.slice A n cap] w fun e w'=>e=.returned (.func (.func 166) #[] #[.pointer (some ⟨w.heap.size,0,none⟩)])∧w.alloc (.cells #[.slice A n cap] 24)=w':=by
 go_enter Tryz.func143,Tryz.ntmps143
 go_wp2
 go_ret
 exact ⟨rfl,rfl⟩
theorem back_tells (n:Nat) (Bs:Nat) (A:Option Addr) (cap l:Nat) (L:List Tr) (hl:L.length=l) (hL:l≤1000) (N:Nat) (w:World) (hs:Boxed w Bs 24 (.slice A l cap)) (hP:OpsP w A L) (hB:Bs<N) (hA:∀ a,A=some a→L≠[]→a.block<N) (hN:N≤w.heap.size) :
  Stops.TellsW Fence.wide n Tryz.prog 166 #[.pointer (some ⟨Bs,0,none⟩)] (fun x:Nat×Tr=>#[.int .i64 x.1,opdV x.2]) (BackE L) (KeepN N) (fun ys=>ys.length=L.length) w:=fun lp J Jx W hW hJ hY hJx h0=>by
 have hJd:∀ (m:Nat) (z:List (Nat×Tr)) (X:World),J z X→J z (X.drewN m):=fun m z X h=>hJ z X _ none h ⟨rfl,rfl,rfl,Nat.le_refl _,fun _ _ _=>rfl⟩ (fun r e=>by cases e)
 have kb:Boxed W Bs 24 (.slice A l cap):=Boxed.under hs hW
 have kp:OpsP W A L:=hP.below hW
 have hc:=kb.cell
 have KB:=Lib.hid kb
 have KPP:=Lib.hid kp
 have J0:=Lib.hid h0
 have HY:=Lib.hid hY
 have HL:=Lib.hid hl
 have HA:=Lib.hid hA
 have HJd:=Lib.hid hJd
 clear h0 hY hJ hJx hW hs hP kb kp hl hA hN hJd
 refine callsIn_wide.2 ?_
 show Calls Tryz.prog 166 #[.func (.yield lp) #[] #[],.pointer (some ⟨Bs,0,none⟩)] W _
 go_enter Tryz.func166,Tryz.ntmps166
 go_wp2
 go_loopw [3] (fun i wr=>∃ (pre:List (Nat×Tr)),pre.length≤l∧i=.int .i64 ((l:Int) - 1 - (pre.length:Int))∧Hid (KeepN N W wr)∧Hid (J pre wr)) (fun i _=>(intOf i+1).toNat)
 case atStart=>exact ⟨[],Nat.zero_le _,by simp,fun _ _=>rfl,J0.out⟩
 case round=>
  clear J0 hc
  obtain ⟨pre,hpl,rfl,KK,JJ⟩:=hrel
  by_cases hlt:pre.length<l
  ·obtain ⟨j,hj⟩:∃ j:Nat,j=l - 1 - pre.length:=⟨_,rfl⟩
   have hji:(l:Int) - 1 - (pre.length:Int)=(j:Int):=by omega
   have hjL:j<L.length:=by have:=HL.out;omega
   obtain ⟨b,off,rfl,-,p0,p1,p2⟩:=(KPP.out.keepN KK.out HA.out).at_ hjL
   have hgd:L.getD j tr0=L[j]:=by rw [List.getD_eq_getElem?_getD,List.getElem?_eq_getElem hjL];rfl
   rw [← hgd] at p0 p1 p2
   have E:Hid (BackE L pre (j,L.getD j tr0) wr):=⟨by rw [HL.out];exact hlt,by rw [HL.out];exact hj,rfl⟩
   obtain ⟨t,ht⟩:∃ t,L.getD j tr0=t:=⟨_,rfl⟩
   rw [ht] at p0 p1 p2 E
   obtain ⟨t0,t1,t2⟩:=t
   simp only at p0 p1 p2
   have hjl:j<l:=by omega
   have hjc:(j:Int)<(l:Int):=by omega
   have hc:wr.cell? ⟨Bs,0,none⟩=some (.slice (some ⟨b,off,none⟩) l cap):=(KK.out.cell (a:=⟨Bs,0,none⟩) hB).trans KB.out.cell
   have hyd:=HY.out pre (j,t0,t1,t2) wr JJ.out E.out
   have PL:Hid (pre.length+1+j=l):=by show pre.length+1+j=l;omega
   rw [hji]
   obtain ⟨fn,tmps,assign,body,hy,hR⟩:=hyd
   simp only [opdV] at hy
   clear hji hgd ht hjL E hlt hpl hj
   go_upto_region 3 with fail
   refine (wpIn_wide (n:=n)).1 ?_
   gi_wp2
   refine ⟨fun h=>(by cases h),hR.mono ?_⟩
   rintro e3 W3 (⟨rfl,hJ3,hk3⟩ | ⟨rfl,hJx3⟩)
   ·have K3:=Lib.hid (KK.out.trans hk3)
    have J3:=Lib.hid hJ3
    clear hJ3 hk3 hR hy
    gi_wp2
    go_wp2
    go_roundw
    case rel=>exact ⟨pre++[(j,t0,t1,t2)],by have:=PL.out;simp;omega,by have:=PL.out;simp;omega,K3.out,J3.out⟩
    case measure=>simp [intOf]
   ·clear hR hy
    gi_wp2
    go_wp2
    refine bodyPost_ret (results_none rfl _ _ _) rfl ?_
    exact ⟨⟨_,rfl⟩,.inr ⟨_,hJx3⟩⟩
  ·have P:Hid (pre.length=L.length):=by have:=HL.out;show _=_;omega
   have hji:(l:Int) - 1 - (pre.length:Int)=-1:=by omega
   rw [hji]
   go_wp2
   go_end0
   have h:=JJ.out
   exact ⟨⟨_,rfl⟩,.inl ⟨_,P.out,h⟩⟩
theorem vat_any (x:Vr) (v:Value) (s:ByteArray) (A:Option Addr) (cap l:Nat) (L:List Tr) (hl:L.length=l) (hL:l≤1000) (w:World) (hv:VarA w v x) (H:OpsP w A L) :
  Calls Tryz.prog 111 #[v,.agg #[.string s,.slice A l cap]] w fun e w'=>e=.returned (.int .i64 (atI x.1 L))∧Below w.heap.size w w':=by
 obtain ⟨b1,b2,b3,Ak,ck,rfl,v1,v2,v3,v4,v5⟩:=hv
 obtain ⟨ks,hks⟩:∃ ks,x.1=ks:=⟨_,rfl⟩
 rw [hks] at v1 v2 v5 ⊢
 clear hks v3 v4
 obtain ⟨f2,hf2⟩:∃ f:Value,Value.func (.func 142) #[] #[.pointer (some ⟨b2,0,none⟩),.pointer (some ⟨b3,0,none⟩)]=f:=⟨_,rfl⟩
 obtain ⟨w0,hw0⟩:∃ w0,((w.alloc (.cells #[.func (.func 140) #[] #[.pointer (some ⟨b1,0,none⟩)],.func (.func 142) #[] #[.pointer (some ⟨b2,0,none⟩),.pointer (some ⟨b3,0,none⟩)]] 129)).alloc (.cells #[.string s,.slice A l cap] 26)).alloc (.cells #[.int .i64 0] 3)=w0:=⟨_,rfl⟩
 obtain ⟨n,hn⟩:∃ n,w.heap.size=n:=⟨_,rfl⟩
 have z0:w0.heap.size=n+1+1+1:=by rw [← hw0,← hn];simp
 have b0:Below n w w0:=by rw [← hw0,← hn];exact (((Below.refl _ w).alloc (Nat.le_refl _) _).alloc (by simp) _).alloc (by simp;omega) _
 have c0:w0.heap[n]?=some (.cells #[.func (.func 140) #[] #[.pointer (some ⟨b1,0,none⟩)],f2] 129 (0,0)):=by
  rw [← hw0,← hn,← hf2]
  exact (Below.heap_alloc _ _ _ (by simp;omega)).trans ((Below.heap_alloc _ _ _ (by simp)).trans (World.alloc_heap_new w _))
 have c1:w0.heap[n+1]?=some (.cells #[.string s,.slice A l cap] 26 (0,0)):=by
  rw [← hw0,← hn]
  refine (Below.heap_alloc _ _ _ (by simp)).trans ?_
  have h:=World.alloc_heap_new (w.alloc (.cells #[.func (.func 140) #[] #[.pointer (some ⟨b1,0,none⟩)],.func (.func 142) #[] #[.pointer (some ⟨b2,0,none⟩),.pointer (some ⟨b3,0,none⟩)]] 129)) (.cells #[.string s,.slice A l cap] 26)
  rwa [World.size_alloc] at h
 have c2:Boxed w0 (n+1+1) 3 (.int .i64 0):=by
  rw [← hw0,← hn]
  have h:=Boxed.new ((w.alloc (.cells #[.func (.func 140) #[] #[.pointer (some ⟨b1,0,none⟩)],.func (.func 142) #[] #[.pointer (some ⟨b2,0,none⟩),.pointer (some ⟨b3,0,none⟩)]] 129)).alloc (.cells #[.string s,.slice A l cap] 26)) 3 (.int .i64 0)
  rwa [World.size_alloc,World.size_alloc] at h
 rw [hf2] at hw0
 have hbk:=backward_any A l cap w0
 rw [z0] at hbk
 have k1:=Lib.cell_of_heap c1 1
 refine callsIn_wide.1 (callsIn_of_wp_marks (n:=3) Tryz.func111 rfl trivial ?_ rfl)
 simp only [Tryz.ntmps111,List.size_toArray,List.length_cons,List.length_nil,Nat.reduceAdd,Nat.reduceSub,Array.replicate_succ,Array.replicate_zero,List.push_toArray,List.append_toArray,List.nil_append,List.cons_append]
 refine wpIn_wide.2 ?_
 rw [hf2]
 go_wp2_with fail
 refine hbk.mono ?_
 rintro e W0 ⟨rfl,hW0⟩
 have hs:Boxed W0 (n+1+1+1) 24 (.slice A l cap):=by
  have h:=Boxed.new w0 24 (.slice A l cap)
  rw [hW0,z0] at h
  exact h
 have zW:W0.heap.size=n+1+1+1+1:=by rw [← hW0];simp;omega
 have bW:Below w0.heap.size w0 W0:=by rw [← hW0];exact (Below.refl _ _).alloc (Nat.le_refl _) _
 have d0:=(bW.block n (by omega)).trans c0
 have d2:Boxed W0 (n+1+1) 3 (.int .i64 0):=(bW.block _ c2.lt).trans c2
 have bN:Below n w W0:=b0.trans (bW.mono (by omega))
 have HW:OpsP W0 A L:=H.below (by rw [hn];exact bN)
 have hA:∀ a,A=some a→L≠[]→a.block<n:=fun a ha hne=>by
  rcases H with h | ⟨bb,off,e,hc⟩
  ·exact absurd h hne
  ·rw [ha] at e
   obtain rfl:=Option.some.inj e
   have h9:bb<w.heap.size:=World.block_lt_of_cell? w _ (hc 0 (List.length_pos_iff.2 hne)).1
   show bb<n
   omega
 have v1':Boxed W0 b1 125 (.slice Ak ks.length ck):=Boxed.under v1 (by rw [hn];exact bN)
 have v2':KsP W0 Ak ks:=v2.below (by rw [hn];exact bN)
 have hseq:=back_tells 2 (n+1+1+1) A cap l L hl hL (n+1+1+1+1) W0 hs HW (by omega) (fun a h1 h2=>by have:=hA a h1 h2;omega) (by omega)
 have HL:=Lib.hid hl
 have HN:=Lib.hid hn
 have BN:=Lib.hid bN
 have D0:=Lib.hid d0
 have D2:=Lib.hid d2
 have V1:=Lib.hid v1'
 have V2:=Lib.hid v2'
 have V5:=Lib.hid v5
 clear hbk hs bW b0 c0 c1 c2 hW0 hw0 hn z0 hl hA H HW v1 v2 v1' v2' v5 k1 w0 d0 d2 bN hf2
 go_wp2_with fail
 refine wpIn_wide.1 (Stops.wpIn_tellsW (F:=Fence.wide) (n:=3) rfl (by omega) (gf:=166) (lb:=#[.pointer (some ⟨n+1+1+1,0,none⟩)]) rfl trivial (enters_of Tryz.func166 (by kernel_rfl) rfl)
  hseq (fun h k=>h.trans k) (fun W l o o' hl _ _=>KeepN.put W l o' (by omega)) (fun _=>rfl)
  (fun pre W=>(∀ j,l≤j+pre.length→j<l→(L.getD j tr0).1∉ks)∧Below (n+1+1+1+1) W0 W)
  (fun pre W=>∃ k,atV ks L=some k∧Boxed W (n+1+1) 3 (.int .i64 (k:Nat))∧Below n w W)
  (fun s X Y row h hg hr=>⟨h.1,h.2.grown hg (by have:=h.2.size;omega) fun r e=>by have:=(hr r e).1;omega⟩)
  (fun s X Y row h hg hr=>by
   obtain ⟨k,h1,h2,h3⟩:=h
   have hne:∀ k,k<n+1+1+1+1→some k≠row:=fun k hk e=>by have:=(hr k e.symm).1;omega
   exact ⟨k,h1,h2.kept hg (hne _ (by omega)),h3.grown hg (by have:=h2.lt;omega) fun r e=>by have:=(hr r e).1;omega⟩)
  ⟨fun j h1 h2=>by simp at h1;omega,Below.refl _ _⟩
  (fun pre x a' W=>BackE L pre x W∧∃ b,n+4≤b∧W.heap[b]?=some (.cells #[.int .i64 x.2.1,.int .i64 x.2.2.1,.int .i64 x.2.2.2] 63 (0,0))∧a'={tmps:=#[.agg #[.func (.func 140) #[] #[.pointer (some ⟨b1,0,none⟩)],f2],.agg #[.string s,.slice A l cap],.pointer (some ⟨n,0,none⟩),.pointer (some ⟨n+1,0,none⟩),.pointer (some ⟨n+1+1,0,none⟩),.int .i64 x.1,.pointer (some ⟨b,0,none⟩),.pointer (some ⟨n+1,1,none⟩),.slice A l cap,.func (.func 166) #[] #[.pointer (some ⟨n+1+1+1,0,none⟩)],.int .i64 x.1,opdV x.2,undef,undef,undef,undef,undef],defers:=[]})
  (fun pre x s X Y row h hg hr=>by
   obtain ⟨h0,b,h1,h2,h3⟩:=h
   exact ⟨h0,b,h1,(grownBy_keeps_cells hg (fun r e=>(hr r e).2) h2 rfl).trans h2,h3⟩)
  ?assign ?body ?done ?stop)
 case assign=>
  rintro lp pre ⟨k,t0,t1,t2⟩ W K hI hE hK
  simp only [opdV]
  gi_wp2
  refine hK _ _ ((KeepsOthers.alloc _ _).from _) (KeepN.of_below ((Below.refl (n+1+1+1+1) W).alloc (by have:=hI.2.size;omega) _) (Nat.le_refl _)) ⟨hI.1,hI.2.alloc (by have:=hI.2.size;omega) _⟩ ⟨hE,W.heap.size,by have:=hI.2.size;omega,World.alloc_heap_new W _,rfl⟩
 case body=>
  rintro lp pre ⟨k,t0,t1,t2⟩ a' W ⟨g1,g2⟩ ⟨hE,b,hb,hc,rfl⟩
  obtain ⟨e1,e2,e3⟩:=hE
  simp only at e1 e2 e3 hc
  have q0:=Lib.cell_of_heap hc 0
  have q1:=Lib.cell_of_heap hc 1
  have q2:=Lib.cell_of_heap hc 2
  have d0:=(g2.block n (by omega)).trans D0.out
  have p0:=Lib.cell_of_heap d0 0
  have his:=isIn_any b1 Ak ck ks.length ks rfl V5.out (t0,t1,t2) W (Boxed.under V1.out (by rw [zW];exact g2)) (V2.out.below (by rw [zW];exact g2))
  simp only at his
  have KL:Hid (pre.length<l):=by rw [← HL.out];exact e1
  have KE:Hid (k=l - 1 - pre.length):=by rw [← HL.out];exact e2
  have KT:Hid ((L.getD k tr0).1=t0):=by show (L.getD k tr0).1=t0;rw [← e3]
  have G:=Lib.hid (And.intro g1 (And.intro g2 hb))
  have hWb:Hid (n+4≤W.heap.size):=by have:=g2.size;show _≤_;omega
  simp only [opdV]
  by_cases hin:t0∈ks
  ·have HI:=Lib.hid hin
   rw [decide_eq_true hin] at his
   have x2:Boxed W (n+1+1) 3 (.int .i64 0):=(g2.block _ (by omega)).trans D2.out
   have X2:=Lib.hid x2
   clear hc d0 g1 g2 hb e1 e2 e3 hin x2
   gi_wp2_with fail
   refine ⟨trivial,CallsIn.inRound lp (callsIn_wide.2 his) |>.mono ?_⟩
   rintro e w' ⟨rfl,hb⟩
   have y:=Boxed.under X2.out hb
   have y5:=y.cell
   have y6:=y.frozen
   have Y:=Lib.hid y
   have BW:=Lib.hid hb
   clear his hb y
   gi_wp2
   have hb1:Below W.heap.size W w':=BW.out
   refine ⟨(keepsFrom_below hb1 _).trans (KeepsOthers.from (KeepsOthers.setCell _ _ _) _),k,?_,?_,?_⟩
   ·refine atV_last (by rw [HL.out];have:=KL.out;have:=KE.out;omega) (by rw [KT.out];exact HI.out) (fun j h1 h2=>G.out.1 j (by have:=KE.out;have:=KL.out;omega) (by rw [← HL.out];exact h2))
   ·exact Boxed.set _ Y.out
   ·exact (BN.out.trans ((G.out.2.1.mono (by omega)).trans (hb1.mono (by have:=hWb.out;omega)))).setCell (p:=⟨n+1+1,0,none⟩) (by simp;omega) _
  ·have HI:=Lib.hid hin
   rw [decide_eq_false hin] at his
   clear hc d0 g1 g2 hb e1 e2 e3 hin
   gi_wp2_with fail
   refine ⟨trivial,CallsIn.inRound lp (callsIn_wide.2 his) |>.mono ?_⟩
   rintro e w' ⟨rfl,hb⟩
   have P:Hid (KeepsFrom W0.heap.size W w'∧KeepN (n+1+1+1+1) W w'∧(∀ j,l≤j+(pre++[((k,t0,t1,t2):Nat×Tr)]).length→j<l→(L.getD j tr0).1∉ks)∧Below (n+1+1+1+1) W0 w'):=by
    refine ⟨keepsFrom_below hb _,KeepN.of_below hb hWb.out,fun j h1 h2=>?_,G.out.2.1.trans (hb.mono hWb.out)⟩
    by_cases e:j=k
    ·subst e;rw [KT.out];exact HI.out
    ·exact G.out.1 j (by have:=KE.out;have:=KL.out;simp at h1;omega) h2
   clear his hb
   gi_wp2
   exact P.out
 case done=>
  rintro D ys W hD hys ⟨g1,g2⟩ hK
  have b2:Boxed W (n+1+1) 3 (.int .i64 0):=(g2.block _ (by omega)).trans D2.out
  have y5:=b2.cell
  have y6:=b2.frozen
  have X2:=Lib.hid b2
  have HK:=Lib.hid hK
  have FN:Hid (atI ks L=-1):=by
   show atI ks L=-1
   unfold atI
   rw [atV_none (fun j hj=>g1 j (by rw [hys,HL.out];omega) (by rw [← HL.out];exact hj))]
  have BW:Hid (Below n w W):=BN.out.trans (g2.mono (by omega))
  have HD:=Lib.hid hD
  clear g1 g2 hK b2 hD hseq hys
  go_wp2
  have z1:=Boxed.set (.int .i64 (-1)) X2.out
  have z2:KeepsOthers W (W.setCell ⟨n+1+1,0,none⟩ (.int .i64 (-1))):=KeepsOthers.setCell _ _ _
  have z3:Below n w (W.setCell ⟨n+1+1,0,none⟩ (.int .i64 (-1))):=BW.out.setCell (p:=⟨n+1+1,0,none⟩) (by simp;omega) _
  obtain ⟨w2,hw2⟩:∃ w2,W.setCell ⟨n+1+1,0,none⟩ (.int .i64 (-1))=w2:=⟨_,rfl⟩
  rw [hw2] at z1 z2 z3 ⊢
  have hK2:w2.heap[D]?=some (.deferred (some [])):=z2.same D _ HK.out rfl
  have hg:=grownBy_putObj' w2 D (.deferred none)
  have hDn:=HD.out
  have q2:=(z1.kept hg (by simp;omega)).cell
  refine ⟨by simp,.inl ⟨_,_,rfl,run_takeDeferred hK2,?_⟩⟩
  refine ⟨.int .i64 (-1),?_,?_⟩
  ·simp [results,Tryz.results111,go_sem,q2]
  ·have hn0:w.heap.size=n:=HN.out
   exact ⟨by rw [FN.out],by rw [HN.out];exact z3.trans (belowK_b (w:=w) (by omega) w2 D _ _ (by omega) hK2 rfl rfl)⟩
 case stop=>
  rintro D pre W hD ⟨k,h1,h6,h7⟩ hK
  have hg:=grownBy_putObj' W D (.deferred none)
  have q2:=(h6.kept hg (by simp;omega)).cell
  have F:Hid (atI ks L=(k:Int)):=by
   show atI ks L=_
   unfold atI
   rw [h1]
  have hn0:w.heap.size=n:=HN.out
  have BB:Hid (Below w.heap.size w (W.putObj D (.deferred none))):=by
   rw [HN.out];exact h7.trans (belowK_b (w:=w) (by omega) W D _ _ (by omega) hK rfl rfl)
  have HK:=Lib.hid hK
  clear h1 h6 h7 hK hg hseq hn0
  gi_wp2
  refine ⟨by simp,.inl ⟨_,_,rfl,run_takeDeferred HK.out,?_⟩⟩
  refine ⟨.int .i64 k,?_,by rw [F.out],BB.out⟩
  simp [results,Tryz.results111,go_sem,q2]
end Go.Proofs.YtoilebmbljpieaaGreatDoor
namespace Go.Proofs.YtoilebmbljpieaaGreatDoor
open Go.RowKit Go.Shelf
attribute [local go_sem] Oper.semAt_some
theorem u8_beq (a b:UInt8):((a.toNat:Int) == (b.toNat:Int))=decide (a=b):=by
 by_cases h:a=b
 ·subst h
  rw [decide_eq_true rfl]
  exact beq_self_eq_true _
 ·rw [decide_eq_false h]
  exact beq_eq_false_iff_ne.2 fun e=>h (UInt8.toNat_inj.1 (by omega))
theorem rhas_any (ex:Str) (hx:ex.length≤1000) (c:UInt8) (w:World) :
  Calls Tryz.prog 116 #[.string (sB ex),.int .u8 (c.toNat:Int)] w fun e w'=>e=.returned (.bool (ex.contains c))∧w'=w:=by
 obtain ⟨s,hs⟩:∃ s,sB ex=s:=⟨_,rfl⟩
 have hz:s.size=ex.length:=by rw [← hs,sB_size]
 have hat:∀ k (h:k<s.size) (h':k<ex.length),s[k]=ex[k]:=fun k h h'=>by subst hs;exact sB_at ex k h h'
 have HAT:=Lib.hid hat
 rw [hs]
 obtain ⟨l,hl⟩:∃ l,ex.length=l:=⟨_,rfl⟩
 have HL:=Lib.hid hl
 rw [hl] at hz hx
 obtain ⟨x,hx9⟩:∃ x,(c.toNat:Int)=x:=⟨_,rfl⟩
 have HX:=Lib.hid hx9
 rw [hx9]
 clear hs hat hl hx9
 go_enter Tryz.func116,Tryz.ntmps116
 go_wp2
 go_loopw [5] (fun i wr=>∃ j:Nat,j≤l∧i=.int .i64 j∧Hid (∀ k (h:k<ex.length),k<j→ex[k]≠c)∧Hid (wr=w)) (fun i _=>l - (intOf i).toNat)
 case atStart=>exact ⟨0,Nat.zero_le _,rfl,fun k h h2=>by omega,rfl⟩
 case round=>
  obtain ⟨j,hj,rfl,R,B⟩:=hrel
  by_cases hlt:j<l
  ·have hlt':j<s.size:=by omega
   have hj1:j<ex.length:=by rw [HL.out];exact hlt
   have e1:=HAT.out j hlt' hj1
   have hb:((s[j].toNat:Int) == x)=decide (ex[j]=c):=by rw [← HX.out,e1];exact u8_beq _ _
   obtain ⟨tt,htt⟩:∃ z,decide (ex[j]=c)=z:=⟨_,rfl⟩
   rw [htt] at hb
   have hj1k:j≤1000:=by omega
   cases tt with
   | true=>
    have T:Hid (true=ex.contains c):=by
     show true=_
     exact (List.contains_iff_mem.2 (of_decide_eq_true htt ▸ List.getElem_mem hj1)).symm
    clear htt e1 hj1 R
    go_wp2
    go_ret
    exact ⟨ret_bool T.out,B.out⟩
   | false=>
    have R2:Hid (∀ k (h:k<ex.length),k<j+1→ex[k]≠c):=fun k h h2=>by
     by_cases e:k=j
     ·subst e;exact of_decide_eq_false htt
     ·exact R.out k h (by omega)
    clear htt e1 hj1 R
    go_wp2
    go_roundw
    case rel=>exact ⟨j+1,by omega,by go_num,R2.out,B.out⟩
    case measure=>simp [intOf];omega
  ·have T:Hid (false=ex.contains c):=by
    show false=_
    refine (Bool.eq_false_iff.2 fun h=>?_).symm
    obtain ⟨k,hk,e⟩:=List.getElem_of_mem (List.contains_iff_mem.1 h)
    exact R.out k hk (by have:=HL.out;omega) e
   clear R
   go_wp2
   go_ret
   exact ⟨ret_bool T.out,B.out⟩
theorem rwithin_any (c:UInt8) (n:Int) (w:World) :
  Calls Tryz.prog 84 #[.int .u8 (c.toNat:Int),.int .i64 n] w fun e w'=>e=.returned (.bool (withR c n))∧w'=w:=by
 have e1:((c.toNat:Int) == 100)=decide (c=100):=u8_beq c 100
 have e2:((c.toNat:Int) == 101)=decide (c=101):=u8_beq c 101
 have e3:((c.toNat:Int) == 110)=decide (c=110):=u8_beq c 110
 obtain ⟨x,hx⟩:∃ x,(c.toNat:Int)=x:=⟨_,rfl⟩
 rw [hx] at e1 e2 e3 ⊢
 clear hx
 have cmp:∀ a b:Int,((a≤n∧n≤b)∨(a≤n∧¬n≤b)∨¬a≤n):=fun a b=>by omega
 by_cases h1:c=100
 ·subst h1
  have T:Hid (withR 100 n=(decide (-128≤n)&&decide (n≤127))):=rfl
  rw [decide_eq_true rfl] at e1
  clear e2 e3
  rcases cmp (-128) 127 with ⟨g1,g2⟩ | ⟨g1,g2⟩ | g1
  all_goals
   go_enter Tryz.func84,Tryz.ntmps84
   go_wp2
   go_ret
   exact ⟨ret_bool (by rw [T.out];simp_all <;> (intros;omega)),rfl⟩
 ·rw [decide_eq_false h1] at e1
  by_cases h2:c=101
  ·subst h2
   have T:Hid (withR 101 n=(decide (-128≤n)&&decide (n≤127))):=rfl
   rw [decide_eq_true rfl] at e2
   clear e3 h1
   rcases cmp (-128) 127 with ⟨g1,g2⟩ | ⟨g1,g2⟩ | g1
   all_goals
    go_enter Tryz.func84,Tryz.ntmps84
    go_wp2
    go_ret
    exact ⟨ret_bool (by rw [T.out];simp_all <;> (intros;omega)),rfl⟩
  ·rw [decide_eq_false h2] at e2
   by_cases h3:c=110
   ·subst h3
    have T:Hid (withR 110 n=(decide (0≤n)&&decide (n≤255))):=rfl
    rw [decide_eq_true rfl] at e3
    clear h1 h2
    rcases cmp 0 255 with ⟨g1,g2⟩ | ⟨g1,g2⟩ | g1
    all_goals
     go_enter Tryz.func84,Tryz.ntmps84
     go_wp2
     go_ret
     exact ⟨ret_bool (by rw [T.out];simp_all <;> (intros;omega)),rfl⟩
   ·have T:Hid (withR c n=(decide (0≤n)&&decide (n≤65535))):=by show _=_;unfold withR;rw [if_neg (by rintro (h | h) <;> contradiction),if_neg h3]
    rw [decide_eq_false h3] at e3
    clear h1 h2 h3
    rcases cmp 0 65535 with ⟨g1,g2⟩ | ⟨g1,g2⟩ | g1
    all_goals
     go_enter Tryz.func84,Tryz.ntmps84
     go_wp2
     go_ret
     exact ⟨ret_bool (by rw [T.out];simp_all <;> (intros;omega)),rfl⟩
end Go.Proofs.YtoilebmbljpieaaGreatDoor
namespace Go.Proofs.YtoilebmbljpieaaGreatDoor
open Go.RowKit
def kindsA:Array Value:=#[.nilFunc,.int .i64 0,.int .i64 0,.nilFunc,
 .func (.func 180) #[] #[],.int .i64 0,.int .i64 0,.func (.func 181) #[] #[],
 .func (.func 182) #[] #[],.int .i64 0,.int .i64 0,.func (.func 181) #[] #[],
 .func (.func 183) #[] #[],.int .i64 0,.int .i64 0,.func (.func 181) #[] #[],
 .func (.func 184) #[] #[],.int .i64 0,.int .i64 0,.func (.func 185) #[] #[],
 .func (.func 186) #[] #[],.int .i64 (-128),.int .i64 127,.func (.func 187) #[] #[],
 .func (.func 188) #[] #[],.int .i64 (-32768),.int .i64 65535,.func (.func 189) #[] #[],
 .func (.func 188) #[] #[],.int .i64 0,.int .i64 65535,.func (.func 190) #[] #[],
 .func (.func 191) #[] #[],.int .i64 0,.int .i64 0,.func (.func 181) #[] #[],
 .func (.func 192) #[] #[],.int .i64 0,.int .i64 0,.func (.func 181) #[] #[],
 .func (.func 188) #[] #[],.int .i64 (-128),.int .i64 127,.func (.func 193) #[] #[]]
theorem wpList_build {P:Program} {ops:Array Oper} {Q:Exit→Act→World→Prop} {o:Oper} {l:List Oper} {a:Act} {w:World} (t:TypeId) (parts:Array (Nat×Operand)) (ho:o.op=.build t parts) (hg:o.guard=none) (cells:Array Value)
  (hc:P.built t (parts.map fun (i,x)=>(i,a.eval x)).toList=some cells) (h:wpList P ops Q l (a.put o.dst (.agg cells)) w):wpList P ops Q (o :: l) a w:=by
 simp only [wpList]
 rw [if_pos (by simp [Region.wanted,hg])]
 left
 exact wp_build t parts ho (by rw [hc];rfl) (by rw [hc];exact h)
theorem kindsA_size:kindsA.size=44:=rfl
theorem kinds_any (w:World) :
  Calls Tryz.prog 170 #[] w fun e w'=>e=.returned (.agg kindsA)∧w.alloc (.cells kindsA 216)=w':=by
 have hst:∀ c:Array Value,c.size=44→(storeCells ⟨w.heap.size,0,none⟩ kindsA.toList 0).run Tryz.prog (w.alloc (.cells c 216))=.ok () (w.alloc (.cells kindsA 216)):=fun c hc=>
  run_storeCells_new w 216 c kindsA (by kernel_rfl) (by rw [hc,kindsA_size]) (by kernel_rfl)
 have hld:(loadVar 216 ⟨w.heap.size,0,none⟩).run Tryz.prog (w.alloc (.cells kindsA 216))=.ok (.agg kindsA) (w.alloc (.cells kindsA 216)):=
  run_loadVar_new w 216 kindsA 11 199 (by kernel_rfl) (by kernel_rfl)
 have hks:=kindsA_size
 go_enter Tryz.func170,Tryz.ntmps170
 go_wp2_with (with_reducible refine wpList_build (o:=⟨some 11,_,_,_,_,_⟩) _ _ rfl rfl kindsA (by kernel_rfl) ?_)
 refine bodyPost_ret (v:=.agg kindsA) ?_ rfl ⟨rfl,rfl⟩
 simp [results,Tryz.results170,asAddr,hld]
end Go.Proofs.YtoilebmbljpieaaGreatDoor
