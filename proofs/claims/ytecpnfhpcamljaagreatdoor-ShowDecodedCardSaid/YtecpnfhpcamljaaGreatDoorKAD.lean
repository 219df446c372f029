/-
  TbC, TbD, TbE, TbF, TbG, TbH, TbI, TbJ, TbK, TbL, TbM.
-/
import Derived.Test.YtecpnfhpcamljaaGreatDoorKAC
import Derived.Test.YtecpnfhpcamljaaGreatDoorCut
import Derived.StillTailTactics
import Derived.Deep.DeepCutAuto
set_option linter.all false
set_option maxRecDepth 100000
set_option maxHeartbeats 4000000
namespace Go.Proofs.YtecpnfhpcamljaaGreatDoor
open Tryz
open Go.RowKit Go.Shelf
attribute [local go_sem] Oper.semAt_some
def qad (w:World):Prop:=∃ h,w.cell? ⟨0,0,none⟩=some (.int .i64 h)
theorem qad.lt {w:World} (h:qad w):0 < w.heap.size:=by
 obtain ⟨m,h⟩:=h;exact Qq w _ h
theorem qad.below {w w':World} (h:qad w) (q:Below w.heap.size w w'):qad w':=by
 have m:=h.lt;obtain ⟨y,h⟩:=h;exact ⟨y,(q.cell m).trans h⟩
theorem qad.qA6 {w w':World} {n:Nat} (h:qad w) (q:Below n w w') (m:0 < n):qad w':=by
 obtain ⟨y,h⟩:=h;exact ⟨y,(q.cell m).trans h⟩
theorem qeI (l e:Str) (G:l.length<=100000) (w:World) (n:qad w) :
  Calls prog 238 #[.string (sB l),.string (sB e)] w fun y m=>y=.returned (.tuple #[.string (sB (qbp e l).1),.string (sB (qbp e l).2.1),.bool (qbp e l).2.2])/\∃ E,m=w.drewN E:=by
 obtain ⟨z,q⟩:=n;have h:=Tryz.strings_Cut (sB l) (sB e) z w (by rw [qaB];omega) q;rw [qrS] at h;exact h
theorem qmD (l:Str):((sB l).toList == ([]:List UInt8))=l.isEmpty:=by
 rw [QO];cases l <;> rfl
def patsOf (l:Str):List Pat:=qiE l.length l
theorem qpD (n:Nat):qiE n []=[]:=by cases n <;> rfl
theorem qe7 (l:Str) (w:World) :
  Calls prog 216 #[.string (sB l)] w fun h e=>h=.returned (.func (.func 237) #[] #[.pointer (some ⟨w.heap.size,0,none⟩)])/\w.alloc (.cells #[.string (sB l)] 9)=e:=by
 go_enter func216,ntmps216
 go_wp2;go_ret;exact ⟨rfl,rfl⟩
def qnK:Value->Nat
 | .string h=>h.size
 | _=>0
def qfW (q h:World):Prop:=h.cell? ⟨0,0,none⟩=q.cell? ⟨0,0,none⟩
theorem qfW.trans {A B C:World} (h:qfW A B) (k:qfW B C):qfW A C:=Eq.trans k h
theorem qfW.max {A B:World} (h:qfW A B) (k:qad A):qad B:=by
 obtain ⟨m,k⟩:=k;exact ⟨m,Eq.trans h k⟩
theorem qc5 (n:Nat) (m:Nat) (l:Str) (aq:l.length<=100000) (w:World) (ad:Boxed w m 9 (.string (sB l))) (an:qad w) :
  Stops.qBO Fence.wide n prog 237 #[.pointer (some ⟨m,0,none⟩)] (fun x:Pat=>#[.agg #[.string (sB x.1),.string (sB x.2)]]) (fun j x=>j++[x] <+: patsOf l) m qfW (fun ys=>ys=patsOf l) w:=fun aJ O aV V ac ar aU aA aP ax=>by
 have ao:∀ (am:Nat) (y:List Pat) (z:World),O y z->O y (z.drewN am):=fun am y z h=>ar y z _ none h ⟨rfl,rfl,rfl,Qa _,fun _ _ _=>rfl⟩ (fun K X=>by cases X)
 have ay:Boxed V m 9 (.string (sB l)):=(ac.block m ad.lt).trans ad;have aM:=ay.cell;have aw:Hid (qad V):=an.below ac;have aj:=J9 ax;have aN:=J9 aA;have ah:=J9 ao;have aH:=J9 aq;clear aq ax aA aU ao ar aP ac ad an ay;refine callsIn_wide.2 ?_;show Calls prog 237 #[.func (.yield aJ) #[] #[],.pointer (some ⟨m,0,none⟩)] V _
 go_enter func237,ntmps237
 go_wp2
 go_loopw [3] (fun K wr=>∃ (j:List Pat) (e:Str) (k:Nat),K=.string (sB e)/\e.length<=k/\e.length<=l.length/\Hid (j++qiE k e=patsOf l)/\Hid (qad wr)/\Hid (O j wr)) (fun K _=>qnK K)
 case atStart=>exact ⟨[],l,l.length,rfl,Qa _,Qa _,rfl,aw.o,aj.o⟩
 case round=>
  clear aw aj aM;obtain ⟨j,e,k,rfl,aZ,aX,aa,ab,U⟩:=hrel;by_cases q:e=[]
  ·subst q
   have av:=qmD [];have aL:Hid (j=patsOf l):=by
    have h:=aa.o;rw [qpD,Zu] at h;exact h
   go_wp2
   go_end0
   have h:=U.o;exact ⟨⟨_,rfl⟩,.inl ⟨_,aL.o,h⟩⟩
  ·have av:=qmD e
   rw [List.isEmpty_eq_false_iff.2 q] at av;have aF:e.length<=100000:=(by have:=aH.o;omega);have aC:0<e.length:=Zp.2 q;obtain ⟨k,rfl⟩:∃ aR,k=aR+1:=⟨k - 1,by omega⟩;have ai:=qlh [59,32] e (by decide) aC;have hcut:=qeI e [59,32] aF wr ab.o;have r:=qeI (qbp [59,32] e).1 [32] (by omega);obtain ⟨row,E⟩:=N9 ((qbp [59,32] e).1);obtain ⟨rest,J⟩:=N9 ((qbp [59,32] e).2.1);have aB:Hid ((j++[rowP row])++qiE k rest=patsOf l):=by
    have h:=aa.o;rw [qiE,Qe (by simpa using q),E,J] at h;rw [Za];exact h
   have M:Hid (rest.length<e.length):=(by rw [<- J];exact ai.1);have aI:Hid (qnK (.string (sB e))=e.length):=qaB e;have aO:Hid (qnK (.string (sB rest))=rest.length):=qaB rest;rw [E,J] at hcut;rw [E] at r;have W:j++[rowP row] <+: patsOf l:=(by rw [<- aB.o];exact List.prefix_append _ _);have W:=J9 W;clear aa ai E J q
   go_wp2_with fail
   refine hcut.mono ?_;rintro X aQ ⟨rfl,G,rfl⟩;have T:Hid (qad (wr.drewN G)):=ab.o.below (below_drewN _ _ _);have az:=J9 (ah.o G _ _ U.o);have r:=r _ T.o;clear hcut
   go_wp2_with fail
   refine r.mono ?_;rintro X aQ ⟨rfl,P,rfl⟩;have ag:Hid (qad ((wr.drewN G).drewN P)):=T.o.below (below_drewN _ _ _);have ak:=J9 (ah.o P _ _ az.o);clear r T az U ab;obtain ⟨aD,af⟩:=N9 ((wr.drewN G).drewN P);rw [af] at ag ak |-;clear af;have aS:=aN.o j (rowP row) aD ak.o W.o;obtain ⟨aY,tmps,assign,body,ae,Z⟩:=aS;simp only [rowP] at ae
   go_upto_region 5 with fail
   refine (wpIn_wide (n:=n)).1 ?_
   gi_wp2
   refine ⟨fun h=>(by cases h),Z.mono ?_⟩;rintro aW aK (⟨rfl,ap,au⟩ | ⟨rfl,aT⟩)
   ·have aE:Hid (qad aK):=au.max ag.o
    have aG:=J9 ap;clear ap au Z ae
    gi_wp2
    go_wp2;go_roundw
    case rel=>exact ⟨j++[rowP row],rest,k,rfl,by have:=M.o;omega,by have:=M.o;omega,aB.o,aE.o,aG.o⟩
    case measure=>rw [aI.o,aO.o];exact M.o
   ·clear Z ae
    gi_wp2
    go_wp2;refine bodyPost_ret (results_none rfl _ _ _) rfl ?_;exact ⟨⟨_,rfl⟩,.inr ⟨_,aT⟩⟩
def qag (p:Pat) (h:Int):Value:=.agg #[.string (sB p.1),.string (sB p.2),.int .u8 h]
def qcS (l:Str) (h:Int):Option Pat:=(patsOf l).find? fun p=>qcD p.1 h
def qkm (w:World) (o:Option Pat) (p:Int) (e:Ending) (w':World):Prop:=
 e=.returned (.tuple #[match o with | some h=>qag h p | none=>.agg #[.string ⟨#[]⟩,.string ⟨#[]⟩,.int .u8 0],.bool o.isSome])/\Below w.heap.size w w'
theorem qpg {l:Str} {h:Int} {ys:List Pat} (y:ys=patsOf l) (k:∀ x∈ys,qcD x.1 h=false):qcS l h=none:=by
 unfold qcS;rw [<- y,List.find?_eq_none];intro q z;rw [k q z];decide
theorem qo0 {l:Str} {h:Int} {p:List Pat} {x:Pat} (E:p++[x] <+: patsOf l) (k:∀ q∈p,qcD q.1 h=false) (G:qcD x.1 h=true):qcS l h=some x:=by
 unfold qcS;obtain ⟨K,J⟩:=E;rw [<- J,List.find?_append,List.find?_append];have t:p.find? (fun y=>qcD y.1 h)=none:=by
  rw [List.find?_eq_none];intro q z;rw [k q z];decide
 rw [t];simp [G]
theorem qnv {l:Str} {q:List Pat} {x:Pat} (h:q++[x] <+: patsOf l):x∈patsOf l:=h.subset (by simp)
theorem qjj {h:World} (z:qad h) (q:World) (l:Nat) (y:Obj) (E:h.heap.size<=l):qfW q (q.putObj l y):=by
 have G:=z.lt;exact Q1 (World.putObj_heap_other (by show 0≠l;omega))
theorem set3 {w:World} {b:Nat} {z:TypeId} {T K G:Value} (J:w.heap[b]?=some (.cells #[T,K,G] z (0,0))) (h q y:Value):(((w.setCell ⟨b,0,none⟩ h).setCell ⟨b,1,none⟩ q).setCell ⟨b,2,none⟩ y).heap[b]?=some (.cells #[h,q,y] z (0,0)):=by
 have E:=heap_setCell_same w b 0 _ _ h J;have M:=heap_setCell_same (w.setCell ⟨b,0,none⟩ h) b 1 _ _ q E;have O:=heap_setCell_same ((w.setCell ⟨b,0,none⟩ h).setCell ⟨b,1,none⟩ q) b 2 _ _ y M;exact O
theorem qxn {w:World} {b:Nat} {E G:TypeId} {O M J u:Value} (K:w.heap[b]?=some (.cells #[O,M,J] E (0,0))) (k:Boxed w (b+1) G u) (y q z v:Value) :
  ∃ h,(((w.setCell ⟨b,0,none⟩ y).setCell ⟨b,1,none⟩ q).setCell ⟨b,2,none⟩ z).setCell ⟨b+1,0,none⟩ v=h/\h.heap[b]?=some (.cells #[y,q,z] E (0,0))/\Boxed h (b+1) G v/\KeepsOthers w h/\Below b w h/\h.heap.size=w.heap.size:=by
 refine ⟨_,rfl,(heap_setCell_other _ ⟨b+1,0,none⟩ b v (by simp)).trans (set3 K y q z),?_,?_,?_,by simp⟩
 ·refine Boxed.set (v:=u) v ?_
  exact (heap_setCell_other _ ⟨b,2,none⟩ (b+1) z (by simp)).trans ((heap_setCell_other _ ⟨b,1,none⟩ (b+1) q (by simp)).trans ((heap_setCell_other _ ⟨b,0,none⟩ (b+1) y (by simp)).trans k))
 ·exact (((KeepsOthers.setCell _ _ _).trans (KeepsOthers.setCell _ _ _)).trans (KeepsOthers.setCell _ _ _)).trans (KeepsOthers.setCell _ _ _)
 ·exact ((((Qc b w).setCell (p:=⟨b,0,none⟩) (Qa _) _).setCell (p:=⟨b,1,none⟩) (Qa _) _).setCell (p:=⟨b,2,none⟩) (Qa _) _).setCell (p:=⟨b+1,0,none⟩) (by simp) _
theorem qdR {B:Nat} {q h:World} (y:Below B q h) (z:0 < B):qfW q h:=y.cell z
theorem qay {h o:World} (k:Below h.heap.size h o) (B:Nat):KeepsFrom B h o:=⟨k.size,fun y z _ q _=>(k.block y (Qb.1 q).1).trans q⟩
theorem qqF (l:Str) (aI:l.length<=100000) (a7:∀ p∈patsOf l,p.1.length=8) (h:Int) (w:World) (aG:qad w) :
  Calls prog 179 #[.string (sB l),.int .u8 h] w (qkm w (qcS l h) h):=by
 obtain ⟨x,aa⟩:=N9 (((w.alloc (.cells #[.int .u8 h] 5)).alloc (.cells #[.string ⟨#[]⟩,.string ⟨#[]⟩,.int .u8 0] 221)).alloc (.cells #[.bool false] 4));obtain ⟨n,D⟩:=N9 (w.heap.size);have az:x.heap.size=n+1+1+1:=by rw [<- aa,<- D];simp
 have aJ:Below n w x:=by rw [<- aa,<- D];exact (((B0 (w:=w))).alloc (by simp) _).alloc (by simp;omega) _
 have ay:Boxed x n 5 (.int .u8 h):=by rw [<- aa,<- D];exact ((Boxed.new w 5 (.int .u8 h)).alloc _).alloc _
 have a2:x.heap[n+1]?=some (.cells #[.string ⟨#[]⟩,.string ⟨#[]⟩,.int .u8 0] 221 (0,0)):=by
  rw [<- aa,<- D];refine (Below.heap_alloc _ _ _ (by simp)).trans ?_;have k:=World.alloc_heap_new (w.alloc (.cells #[.int .u8 h] 5)) (.cells #[.string ⟨#[]⟩,.string ⟨#[]⟩,.int .u8 0] 221)
  rwa [QB] at k
 have aV:Boxed x (n+1+1) 4 (.bool false):=by
  rw [<- aa,<- D];have k:=Boxed.new ((w.alloc (.cells #[.int .u8 h] 5)).alloc (.cells #[.string ⟨#[]⟩,.string ⟨#[]⟩,.int .u8 0] 221)) 4 (.bool false)
  rwa [QB,QB] at k
 have a5:qad x:=aG.below (by rw [D];exact aJ);have bn:0 < n:=by rw [<- D];exact aG.lt
 have aM:=qe7 l x;rw [az] at aM;refine callsIn_wide.1 (callsIn_of_wp_marks (n:=3) func179 rfl trivial ?_ rfl);simp only [ntmps179,List.size_toArray,Qt,QP,Nat.reduceAdd,Nat.reduceSub,Array.replicate_succ,Array.replicate_zero,List.push_toArray,List.append_toArray,List.nil_append,Zn];refine wpIn_wide.2 ?_
 go_wp2_with fail
 refine aM.mono ?_;rintro s z ⟨rfl,an⟩;have bc:Boxed z (n+1+1+1) 9 (.string (sB l)):=by
  have k:=Boxed.new x 9 (.string (sB l));rw [an,az] at k;exact k
 have bw:z.heap.size=n+1+1+1+1:=by rw [<- an];simp;omega
 have ab:Below x.heap.size x z:=by rw [<- an];exact B0
 have a4:Boxed z n 5 (.int .u8 h):=(ab.block _ ay.lt).trans ay;have aX:=(ab.block (n+1) (by omega)).trans a2;have aS:Boxed z (n+1+1) 4 (.bool false):=(ab.block _ aV.lt).trans aV;have aL:=aJ.trans (ab.mono (by omega));have aE:qad z:=a5.below ab;have be:=qc5 2 (n+1+1+1) l aI z bc aE;have bj:=J9 a7;have a3:=D;have bq:=J9 aE;clear aG a5 aM bc ab aJ ay a2 aV an aa D az aI a7 x aE
 go_wp2_with fail
 refine wpIn_wide.1 (Stops.qBD (F:=Fence.wide) (n:=3) rfl (by omega) (gf:=237) (lb:=#[.pointer (some ⟨n+1+1+1,0,none⟩)]) rfl trivial (enters_of func237 (by kernel_rfl) rfl)
  be (by omega) (fun k Z=>k.trans Z) (fun b l bx bo aI _ _=>qjj bq.o b l bo (by omega)) (fun _=>rfl)
  (fun J b=>(∀ G∈J,qcD G.1 h=false)/\Below (n+1+1+1) z b)
  (fun J b=>∃ p e,J=p++[e]/\(∀ G∈p,qcD G.1 h=false)/\qcD e.1 h=true/\p++[e] <+: patsOf l/\b.heap[n+1]?=some (.cells #[.string (sB e.1),.string (sB e.2),.int .u8 h] 221 (0,0))/\Boxed b (n+1+1) 4 (.bool true)/\Below n w b)
  (fun aY ax a0 row k o ag=>⟨k.1,k.2.grown o (by have:=k.2.size;omega) fun af s=>by have:=(ag af s).1;omega⟩)
  (fun aY ax a0 k o=>⟨k.1,k.2.grown o (by have:=k.2.size;omega) fun af s=>by cases s;omega⟩)
  (fun aY ax a0 row k o ag=>by
   obtain ⟨p,e,aR,V,Y,aq,U,ar,au⟩:=k;have bb:∀ Z,Z<n+1+1+1+1->some Z≠row:=fun Z bF s=>by have:=(ag Z s.symm).1;omega
   exact ⟨p,e,aR,V,Y,aq,(o.block _ (Qb.1 U).1 (bb _ (by omega))).trans U,ar.kept o (bb _ (by omega)),au.grown o (by have:=(Qb.1 U).1;omega) fun af s=>by have:=(ag af s).1;omega⟩)
  ⟨fun G a1=>(by cases a1),Qc _ _⟩
  (fun e a9 b=>∃ W,n+4<=W/\b.heap[W]?=some (.cells #[.string (sB e.1),.string (sB e.2)] 219 (0,0))/\a9={tmps:=#[.string (sB l),.int .u8 h,undef,.pointer (some ⟨n,0,none⟩),.pointer (some ⟨n+1,0,none⟩),.pointer (some ⟨n+1+1,0,none⟩),.pointer (some ⟨W,0,none⟩),.string (sB l),.func (.func 237) #[] #[.pointer (some ⟨n+1+1+1,0,none⟩)],.agg #[.string (sB e.1),.string (sB e.2)],undef,undef,undef,undef,undef,undef,undef],defers:=[]})
  (fun e aY ax a0 row k o ag=>by
   obtain ⟨W,aR,V,Y⟩:=k;exact ⟨W,aR,(grownBy_keeps_cells o (fun af s=>(ag af s).2) V rfl).trans V,Y⟩)
  ?assign ?body ?done ?stop)
 case assign=>
  rintro aK J e b bC ak bA P
  gi_wp2
  refine P _ _ ((KeepsOthers.alloc _ _).from _) (qdR ((Qc n b).alloc (by have:=ak.2.size;omega) _) bn) ⟨ak.1,ak.2.alloc (by have:=ak.2.size;omega) _⟩ ⟨b.heap.size,by have:=ak.2.size;omega,World.alloc_heap_new b _,rfl⟩
 case body=>
  rintro aK J e a9 b ⟨ah,M⟩ ⟨W,q,aj,rfl⟩ aQ;have a6:=qnv aQ;have ae:Boxed b n 5 (.int .u8 h):=(M.block n (by omega)).trans a4;have bl:=ae.cell;have av:=C9 aj 0;have r:=C9 aj 1;have ad:=qpI e.1 e.2 (bj.o e a6) h b;have E:=J9 (Zb ah (Zb M (Zb q aQ)));clear a6 ah M q aQ;have bv:=J9 ae;have aA:Hid (b.heap.size>=n+4):=by have:=E.o.2.1.size;show _>=_;omega
  have ai:=Qp aj;cases X:qcD e.1 h
  ·have aO:=J9 X
   rw [X] at ad;clear ae X aj
   gi_wp2_with fail
   refine ⟨trivial,CallsIn.inRound aK (callsIn_wide.2 ad) |>.mono ?_⟩;rintro s T ⟨rfl,q⟩;have bm:Hid (KeepsFrom z.heap.size b T/\qfW b T/\(∀ G∈J++[e],qcD G.1 h=false)/\Below (n+1+1+1) z T):=by
    refine ⟨qay q _,qdR q (by have:=aA.o;omega),fun G a1=>?_,E.o.2.1.trans (q.mono (by have:=aA.o;omega))⟩;rcases QY.1 a1 with k | k
    ·exact E.o.1 G k
    ·rw [QI.1 k];exact aO.o
   clear ad q
   gi_wp2
   exact bm.o
  ·have aO:=J9 X
   have y:b.heap[n+1]?=_:=(E.o.2.1.block (n+1) (by omega)).trans aX;have K:Boxed b (n+1+1) 4 (.bool false):=(E.o.2.1.block (n+1+1) (by omega)).trans aS;rw [X] at ad;clear X aj
   gi_wp2_with fail
   refine ⟨trivial,CallsIn.inRound aK (callsIn_wide.2 ad) |>.mono ?_⟩;rintro s T ⟨rfl,q⟩;have bd:Boxed T n 5 (.int .u8 h):=(q.block n ae.lt).trans ae;have ac:=(q.block (n+1) (Qb.1 y).1).trans y;have ap:Boxed T (n+1+1) 4 (.bool false):=(q.block (n+1+1) K.lt).trans K;have bG:=(q.cell (Qq b _ av)).trans av;have bB:=(q.cell (Qq b _ r)).trans r;have bD:=bd.cell;have bg:=C9 ac 0;have bi:=C9 ac 1;have bf:=C9 ac 2;have bh:=Qp ac;have bu:=ap.cell;have bp:=ap.frozen;have aB:=J9 ac;have aD:=J9 ap;have aZ:Hid (Below n w T):=(aL.trans ((E.o.2.1.mono (by omega)))).trans (q.mono (by have:=aA.o;omega));have bt:Hid (Below b.heap.size b T):=q;clear ad q y K bd ac ap bl av r ai ae
   gi_wp2
   obtain ⟨am,aw,ao,aF,aT,aC,bk⟩:=qxn aB.o aD.o (.string (sB e.1)) (.string (sB e.2)) (.int .u8 h) (.bool true);rw [aw];refine ⟨((qay bt.o _).trans (aT.from _)),J,e,rfl,E.o.1,aO.o,E.o.2.2.2,ao,aF,aZ.o.trans (aC.mono (by omega))⟩
 case done=>
  rintro O bz b aH rfl ⟨ah,M⟩ P;have y:b.heap[n+1]?=_:=(M.block (n+1) (by omega)).trans aX;have K:Boxed b (n+1+1) 4 (.bool false):=(M.block (n+1+1) (by omega)).trans aS;have bg:=C9 y 0;have bi:=C9 y 1;have bf:=C9 y 2;have bh:=Qp y;have bu:=K.cell;have bp:=K.frozen;have aB:=J9 y;have aD:=J9 K;have aN:=J9 P;have bs:Hid (qcS l h=none):=qpg rfl ah;have aZ:=J9 (aL.trans (M.mono (by omega)));have br:=J9 aH;clear ah M P y K aH be a4 aX aS aL;go_wp2;obtain ⟨am,aw,ao,aF,aT,aC,bk⟩:=qxn aB.o aD.o (.string ⟨#[]⟩) (.string ⟨#[]⟩) (.int .u8 0) (.bool false);rw [aw];have a8:am.heap[O]?=some (.deferred (some [])):=aT.same O _ aN.o rfl;have o:=grownBy_putObj' am O (.deferred none);have bE:=br.o;have r:=(o.block (n+1) (Qb.1 ao).1 (by simp;omega)).trans ao;have ai:=(aF.kept o (by simp;omega)).cell;have aP:=C9 r 0;have aW:=C9 r 1;have aU:=C9 r 2;refine ⟨by simp,.inl ⟨_,_,rfl,run_takeDeferred a8,?_⟩⟩;refine ⟨.tuple #[.agg #[.string ⟨#[]⟩,.string ⟨#[]⟩,.int .u8 0],.bool false],?_,?_⟩
  ·simp [results,results179,go_sem,ai,aP,aW,aU]
  ·rw [bs.o]
   exact ⟨rfl,by rw [a3];exact (aZ.o.trans (aC.mono (by omega))).trans (belowK_b (w:=w) (by omega) am O _ _ (by omega) a8 rfl rfl)⟩
 case stop=>
  rintro O J b aH ⟨p,e,rfl,V,Y,aq,U,ar,au⟩ P;have o:=grownBy_putObj' b O (.deferred none);have r:=(o.block (n+1) (Qb.1 U).1 (by simp;omega)).trans U;have ai:=(ar.kept o (by simp;omega)).cell;have aP:=C9 r 0;have aW:=C9 r 1;have aU:=C9 r 2;have F:Hid (qkm w (qcS l h) h (.returned (.tuple #[qag e h,.bool true])) (b.putObj O (.deferred none))):=by
   show qkm _ _ _ _ _;rw [qo0 aq V Y];exact ⟨rfl,by rw [a3];exact au.trans (belowK_b (w:=w) (by omega) b O _ _ (by omega) P rfl rfl)⟩
  have aN:=J9 P;clear V Y aq U ar au P o r
  gi_wp2
  refine ⟨by simp,.inl ⟨_,_,rfl,run_takeDeferred aN.o,?_⟩⟩;refine ⟨.tuple #[qag e h,.bool true],?_,F.o⟩;simp [results,results179,go_sem,ai,aP,aW,aU,qag]
end Go.Proofs.YtecpnfhpcamljaaGreatDoor
namespace Go.Proofs.YtecpnfhpcamljaaGreatDoor
open Tryz
open Go.RowKit Go.Shelf
theorem qg9 (e:Int) (w:World) :
  Calls prog 180 #[.int .i64 e] w fun h M=>h=.returned (.string (sB (listS e)))/\M=w:=by
 by_cases J:e=0
 ·subst J
  go_enter func180,ntmps180
  go_wp2;go_ret;exact ⟨rfl,rfl⟩
 by_cases y:e=1
 ·subst y
  go_enter func180,ntmps180
  go_wp2;go_ret;exact ⟨rfl,rfl⟩
 by_cases z:e=2
 ·subst z
  go_enter func180,ntmps180
  go_wp2;go_ret;exact ⟨rfl,rfl⟩
 by_cases G:e=3
 ·subst G
  go_enter func180,ntmps180
  go_wp2;go_ret;exact ⟨rfl,rfl⟩
 by_cases E:e=4
 ·subst E
  go_enter func180,ntmps180
  go_wp2;go_ret;exact ⟨rfl,rfl⟩
 by_cases K:e=5
 ·subst K
  go_enter func180,ntmps180
  go_wp2;go_ret;exact ⟨rfl,rfl⟩
 by_cases q:e=6
 ·subst q
  go_enter func180,ntmps180
  go_wp2;go_ret;exact ⟨rfl,rfl⟩
 ·have h:listS e=[]:=by unfold listS;simp [J,y,z,G,E,K,q]
  rw [h]
  go_enter func180,ntmps180
  go_wp2;go_ret;exact ⟨rfl,rfl⟩
theorem qkp:patsOf qtw=mainP:=by decide +kernel
theorem qq6:patsOf cbS=cbP:=by decide +kernel
theorem qoO:patsOf edS=edP:=by decide +kernel
def qdu (h:Int):List Pat:=if h=0\/h=3\/h=4 then mainP else if h=1\/h=5\/h=6 then cbP else if h=2 then edP else []
theorem qbZ (h:Int):patsOf (listS h)=qdu h:=by
 unfold listS qdu;split
 ·exact qkp
 ·split
  ·exact qq6
  ·split
   ·exact qoO
   ·rfl
theorem qiU (y:Int):(listS y).length<=100000:=by
 have E:qtw.length<=100000:=by decide +kernel
 have h:cbS.length<=100000:=by decide +kernel
 have q:edS.length<=100000:=by decide +kernel
 have z:([]:Str).length<=100000:=by decide +kernel
 unfold listS;split
 ·exact E
 ·split
  ·exact h
  ·split
   ·exact q
   ·exact z
theorem qAC:∀ h∈mainP++cbP++edP,h.1.length=8:=by decide +kernel
theorem qfw {q:Int} {p:Pat} (h:p∈qdu q):p∈mainP++cbP++edP:=by
 unfold qdu at h;split at h
 ·simp [h]
 ·split at h
  ·simp [h]
  ·split at h
   ·simp [h]
   ·cases h
theorem qzo (q:Int):∀ h∈patsOf (listS q),h.1.length=8:=fun h p=>qAC h (qfw (by rw [<- qbZ];exact p))
def trV (x:Tr):Value:=.agg #[.int .i64 x.1,.int .i64 x.2.1,.int .i64 x.2.2]
def qb3 (w:World) (x:Tr) (e:Ending) (w':World):Prop:=e=.returned (trV x)/\Below w.heap.size w w'
def qaI (w:World) (n:Nat):Prop:=w.heap[n]?=some (.cells #[.int .i64 0,.int .i64 0,.int .i64 0] 56 (0,0))
theorem qaI.below {w w':World} {n:Nat} (h:qaI w n) (q:Below w.heap.size w w'):qaI w' n:=(q.block n (Qb.1 h).1).trans h
theorem qaI.qA6 {w w':World} {n m:Nat} (q:qaI w n) (y:Below m w w') (h:n<m):qaI w' n:=(y.block n h).trans q
theorem qaI.cells {w:World} {n:Nat} (h:qaI w n):w.cell? ⟨n,0,none⟩=some (.int .i64 0)/\w.cell? ⟨n,1,none⟩=some (.int .i64 0)/\w.cell? ⟨n,2,none⟩=some (.int .i64 0)/\∀ j,w.frozen? ⟨n,j,none⟩=false:=
 ⟨C9 h 0,C9 h 1,C9 h 2,Qp h⟩
theorem qaP {w:World} {n:Nat} (q:qaI w n) (a b c:Int):∃ h,((w.setCell ⟨n,0,none⟩ (.int .i64 a)).setCell ⟨n,1,none⟩ (.int .i64 b)).setCell ⟨n,2,none⟩ (.int .i64 c)=h/\
  h.heap[n]?=some (.cells #[.int .i64 a,.int .i64 b,.int .i64 c] 56 (0,0))/\Below n w h/\h.heap.size=w.heap.size:=
 ⟨_,rfl,set3 q _ _ _,((((Qc n w).setCell (p:=⟨n,0,none⟩) (Qa _) _).setCell (p:=⟨n,1,none⟩) (Qa _) _).setCell (p:=⟨n,2,none⟩) (Qa _) _),by simp⟩
theorem qaJ (w:World) (p:Pat) (q:Int):∃ h,(w.alloc (.cells #[.string (sB p.1),.string (sB p.2),.int .u8 q] 221)).alloc (.cells #[.int .i64 0,.int .i64 0,.int .i64 0] 56)=h/\
  qaI h (w.heap.size+1)/\Below w.heap.size w h/\h.heap.size=w.heap.size+2/\h.heap[w.heap.size]?=some (.cells #[.string (sB p.1),.string (sB p.2),.int .u8 q] 221 (0,0)):=by
 refine ⟨_,rfl,?_,((B0 (w:=w))).alloc (by simp) _,by simp,(Below.heap_alloc _ _ _ (by simp)).trans (World.alloc_heap_new w _)⟩;have y:=World.alloc_heap_new (w.alloc (.cells #[.string (sB p.1),.string (sB p.2),.int .u8 q] 221)) (.cells #[.int .i64 0,.int .i64 0,.int .i64 0] 56);rw [QB] at y;exact y
theorem register_any (r:Int) (w:World):Calls prog 246 #[.int .i64 r] w (qb3 w (1,r,0)):=by
 go_enter func246,ntmps246
 go_wp2;refine bodyPost_ret (v:=trV (1,r,0)) ?_ rfl ?_
 ·simp [results,results246,go_sem,trV]
 ·exact ⟨rfl,B0⟩
theorem qmN (r:Int) (w:World):Calls prog 261 #[.int .i64 r] w (qb3 w (2,r,0)):=by
 go_enter func261,ntmps261
 go_wp2;refine bodyPost_ret (v:=trV (2,r,0)) ?_ rfl ?_
 ·simp [results,results261,go_sem,trV]
 ·exact ⟨rfl,B0⟩
theorem pair_any (r:Int) (w:World):Calls prog 255 #[.int .i64 r] w (qb3 w (3,r,0)):=by
 go_enter func255,ntmps255
 go_wp2;refine bodyPost_ret (v:=trV (3,r,0)) ?_ rfl ?_
 ·simp [results,results255,go_sem,trV]
 ·exact ⟨rfl,B0⟩
theorem tpointer_any (r:Int) (w:World):Calls prog 253 #[.int .i64 r] w (qb3 w (4,r,0)):=by
 go_enter func253,ntmps253
 go_wp2;refine bodyPost_ret (v:=trV (4,r,0)) ?_ rfl ?_
 ·simp [results,results253,go_sem,trV]
 ·exact ⟨rfl,B0⟩
theorem value_any (r:Int) (w:World):Calls prog 258 #[.int .i64 r] w (qb3 w (6,0,r)):=by
 go_enter func258,ntmps258
 go_wp2;refine bodyPost_ret (v:=trV (6,0,r)) ?_ rfl ?_
 ·simp [results,results258,go_sem,trV]
 ·exact ⟨rfl,B0⟩
theorem qoQ (p:Pat) (ag:p.1.length=8) (e:Int) (ai:0<=e) (ad:e<=255) (c:UInt8) (w:World) :
  Calls prog 263 #[qag p e,.int .u8 (c.toNat:Int)] w (qb3 w (3,qbe p.1 e c,0)):=by
 unfold qag;obtain ⟨an,ao,h,B0,W,n⟩:=qaJ w p e;obtain ⟨q,J⟩:=N9 (w.heap.size);rw [J] at h B0 W n;have ah:=C9 n 0;have ab:=C9 n 1;have ap:=C9 n 2;have K:=qaU p.1 p.2 ag e ai ad c an;have h:=J9 h;have B0:=J9 B0;have ae:=J9 J;clear n
 go_enter func263,ntmps263
 go_wp2_with fail
 refine K.mono ?_;rintro ac G ⟨rfl,y⟩;have O:Hid (qaI G (q+1)):=h.o.below y;have M:=J9 (B0.o.trans (y.mono (by omega)));have V:Hid (q+2<=G.heap.size):=by have:=y.size;show _<=_;omega
 clear y K ao h B0 W J ah ab ap
 go_wp2_with fail
 refine (pair_any _ G).mono ?_;rintro ac U ⟨rfl,E⟩;have T:Hid (qaI U (q+1)):=O.o.below E;have Z:Hid (Below q w U):=M.o.trans (E.mono (by have:=V.o;omega));clear E O M V;simp only [trV];obtain ⟨au,ar,aw,aq⟩:=T.o.cells;go_wp2;obtain ⟨av,am,z,aj,-⟩:=qaP T.o 3 (qbe p.1 e c) 0;rw [am];have af:=C9 z 0;have aa:=C9 z 1;have ak:=C9 z 2;refine bodyPost_ret (v:=trV (3,(qbe p.1 e c),0)) ?_ rfl ?_
 ·simp [results,results263,go_sem,af,aa,ak,trV]
 ·exact ⟨rfl,by rw [ae.o];exact Z.o.trans (aj.mono (by omega))⟩
theorem qtD (p:Pat) (ag:p.1.length=8) (e:Int) (ai:0<=e) (ad:e<=255) (c:UInt8) (w:World) :
  Calls prog 266 #[qag p e,.int .u8 (c.toNat:Int)] w (qb3 w (6,0,qbe p.1 e c)):=by
 unfold qag;obtain ⟨an,ao,h,B0,W,n⟩:=qaJ w p e;obtain ⟨q,J⟩:=N9 (w.heap.size);rw [J] at h B0 W n;have ah:=C9 n 0;have ab:=C9 n 1;have ap:=C9 n 2;have K:=qaU p.1 p.2 ag e ai ad c an;have h:=J9 h;have B0:=J9 B0;have ae:=J9 J;clear n
 go_enter func266,ntmps266
 go_wp2_with fail
 refine K.mono ?_;rintro ac G ⟨rfl,y⟩;have O:Hid (qaI G (q+1)):=h.o.below y;have M:=J9 (B0.o.trans (y.mono (by omega)));have V:Hid (q+2<=G.heap.size):=by have:=y.size;show _<=_;omega
 clear y K ao h B0 W J ah ab ap
 go_wp2_with fail
 refine (value_any _ G).mono ?_;rintro ac U ⟨rfl,E⟩;have T:Hid (qaI U (q+1)):=O.o.below E;have Z:Hid (Below q w U):=M.o.trans (E.mono (by have:=V.o;omega));clear E O M V;simp only [trV];obtain ⟨au,ar,aw,aq⟩:=T.o.cells;go_wp2;obtain ⟨av,am,z,aj,-⟩:=qaP T.o 6 0 (qbe p.1 e c);rw [am];have af:=C9 z 0;have aa:=C9 z 1;have ak:=C9 z 2;refine bodyPost_ret (v:=trV (6,0,(qbe p.1 e c))) ?_ rfl ?_
 ·simp [results,results266,go_sem,af,aa,ak,trV]
 ·exact ⟨rfl,by rw [ae.o];exact Z.o.trans (aj.mono (by omega))⟩
theorem qjP (p:Pat) (aa:p.1.length=8) (e:Int) (ac:0<=e) (U:e<=255) (c:UInt8) (w:World) :
  Calls prog 265 #[qag p e,.int .u8 (c.toNat:Int)] w (qb3 w (8,qbe p.1 e c,0)):=by
 unfold qag;obtain ⟨ag,ah,h,B0,M,n⟩:=qaJ w p e;obtain ⟨K,z⟩:=N9 (w.heap.size);rw [z] at h B0 M n;have ab:=C9 n 0;have T:=C9 n 1;have ai:=C9 n 2;have E:=qaU p.1 p.2 aa e ac U c ag;have h:=J9 h;have B0:=J9 B0;have V:=J9 z;clear n
 go_enter func265,ntmps265
 go_wp2_with fail
 refine E.mono ?_;rintro aj J ⟨rfl,q⟩;have G:Hid (qaI J (K+1)):=h.o.below q;have W:=J9 (B0.o.trans (q.mono (by omega)));have ao:Hid (K+2<=J.heap.size):=by have:=q.size;show _<=_;omega
 clear q E ah h B0 M z ab T ai;obtain ⟨an,am,aq,ak⟩:=G.o.cells;go_wp2;obtain ⟨ap,af,y,ad,-⟩:=qaP G.o 8 (qbe p.1 e c) 0;rw [af];have Z:=C9 y 0;have O:=C9 y 1;have ae:=C9 y 2;refine bodyPost_ret (v:=trV (8,(qbe p.1 e c),0)) ?_ rfl ?_
 ·simp [results,results265,go_sem,Z,O,ae,trV]
 ·exact ⟨rfl,by rw [V.o];exact W.o.trans (ad.mono (by omega))⟩
theorem qiN (p:Pat) (ag:p.1.length=8) (e:Int) (ai:0<=e) (ad:e<=255) (c:UInt8) (aw:0<=qbe p.1 e c) (aq:qbe p.1 e c<=255) (w:World) :
  Calls prog 267 #[qag p e,.int .u8 (c.toNat:Int)] w (qb3 w (6,0,8*qbe p.1 e c)):=by
 unfold qag;obtain ⟨an,ao,h,B0,W,n⟩:=qaJ w p e;obtain ⟨q,J⟩:=N9 (w.heap.size);rw [J] at h B0 W n;have ah:=C9 n 0;have ab:=C9 n 1;have ap:=C9 n 2;have K:=qaU p.1 p.2 ag e ai ad c an;have h:=J9 h;have B0:=J9 B0;have ae:=J9 J;clear n
 go_enter func267,ntmps267
 go_wp2_with fail
 refine K.mono ?_;rintro ac G ⟨rfl,y⟩;have O:Hid (qaI G (q+1)):=h.o.below y;have M:=J9 (B0.o.trans (y.mono (by omega)));have V:Hid (q+2<=G.heap.size):=by have:=y.size;show _<=_;omega
 clear y K ao h B0 W J ah ab ap
 go_wp2_with fail
 refine (value_any _ G).mono ?_;rintro ac U ⟨rfl,E⟩;have T:Hid (qaI U (q+1)):=O.o.below E;have Z:Hid (Below q w U):=M.o.trans (E.mono (by have:=V.o;omega));clear E O M V;simp only [trV];obtain ⟨av,au,ay,ar⟩:=T.o.cells;go_wp2;obtain ⟨ax,am,z,aj,-⟩:=qaP T.o 6 0 (8*(qbe p.1 e c));rw [am];have af:=C9 z 0;have aa:=C9 z 1;have ak:=C9 z 2;refine bodyPost_ret (v:=trV (6,0,(8*(qbe p.1 e c)))) ?_ rfl ?_
 ·simp [results,results267,go_sem,af,aa,ak,trV]
 ·exact ⟨rfl,by rw [ae.o];exact Z.o.trans (aj.mono (by omega))⟩
def qrl (n:Int):Tr:=if n=6 then (4,2,0) else (1,n,0)
def qh2 (n:Int):Tr:=if n=3 then (3,4,0) else (3,n,0)
theorem qeh (p:Pat) (au:p.1.length=8) (e:Int) (aw:0<=e) (ao:e<=255) (c:UInt8) (w:World) :
  Calls prog 262 #[qag p e,.int .u8 (c.toNat:Int)] w (qb3 w (qrl (qbe p.1 e c))):=by
 unfold qag;obtain ⟨az,aA,y,B0,ak,E⟩:=qaJ w p e;obtain ⟨n,aa⟩:=N9 (w.heap.size);rw [aa] at y B0 ak E;have av:=C9 E 0;have am:=C9 E 1;have aB:=C9 E 2;have aj:=qaU p.1 p.2 au e aw ao c az;have y:=J9 y;have B0:=J9 B0;have ah:=J9 aa;clear E
 go_enter func262,ntmps262
 go_wp2_with fail
 refine aj.mono ?_;rintro ag K ⟨rfl,T⟩;have J:Hid (qaI K (n+1)):=y.o.below T;have G:=J9 (B0.o.trans (T.mono (by omega)));have M:Hid (n+2<=K.heap.size):=by have:=T.size;show _<=_;omega
 clear T aj aA y B0 ak aa av am aB;by_cases O:qbe p.1 e c=6
 ·have U:Hid (qrl (qbe p.1 e c)=(4,2,0)):=by show qrl _=_;unfold qrl;rw [Qi O]
  rw [O]
  go_wp2_with fail
  refine (tpointer_any _ K).mono ?_;rintro ag z ⟨rfl,m⟩;have q:Hid (qaI z (n+1)):=J.o.below m;have V:Hid (Below n w z):=G.o.trans (m.mono (by have:=M.o;omega));clear m J G M;simp only [trV];obtain ⟨ar,aq,ay,ap⟩:=q.o.cells;go_wp2;obtain ⟨ax,af,h,ad,-⟩:=qaP q.o 4 2 0;rw [af];have ac:=C9 h 0;have W:=C9 h 1;have ae:=C9 h 2;refine bodyPost_ret (v:=trV (4,2,0)) ?_ rfl ?_
  ·simp [results,results262,go_sem,ac,W,ae,trV]
  ·exact ⟨by rw [U.o],by rw [ah.o];exact V.o.trans (ad.mono (by omega))⟩
 ·have U:Hid (qrl (qbe p.1 e c)=(1,(qbe p.1 e c),0)):=by show qrl _=_;unfold qrl;rw [Qe O]
  obtain ⟨Z,ab⟩:=N9 (qbe p.1 e c);have an:Hid (qrl (qbe p.1 e c)=(1,Z,0)):=by have ai:=U.o;rw [ab] at ai |-;exact ai
  rw [ab] at O |-;clear ab
  go_wp2_with fail
  refine (register_any _ K).mono ?_;rintro ag z ⟨rfl,m⟩;have q:Hid (qaI z (n+1)):=J.o.below m;have V:Hid (Below n w z):=G.o.trans (m.mono (by have:=M.o;omega));clear m J G M;simp only [trV];obtain ⟨ar,aq,ay,ap⟩:=q.o.cells;go_wp2;obtain ⟨ax,af,h,ad,-⟩:=qaP q.o 1 Z 0;rw [af];have ac:=C9 h 0;have W:=C9 h 1;have ae:=C9 h 2;refine bodyPost_ret (v:=trV (1,Z,0)) ?_ rfl ?_
  ·simp [results,results262,go_sem,ac,W,ae,trV]
  ·exact ⟨by rw [an.o],by rw [ah.o];exact V.o.trans (ad.mono (by omega))⟩
theorem qlb (p:Pat) (au:p.1.length=8) (e:Int) (aw:0<=e) (ao:e<=255) (c:UInt8) (w:World) :
  Calls prog 264 #[qag p e,.int .u8 (c.toNat:Int)] w (qb3 w (qh2 (qbe p.1 e c))):=by
 unfold qag;obtain ⟨az,aA,y,B0,ak,E⟩:=qaJ w p e;obtain ⟨n,aa⟩:=N9 (w.heap.size);rw [aa] at y B0 ak E;have av:=C9 E 0;have am:=C9 E 1;have aB:=C9 E 2;have aj:=qaU p.1 p.2 au e aw ao c az;have y:=J9 y;have B0:=J9 B0;have ah:=J9 aa;clear E
 go_enter func264,ntmps264
 go_wp2_with fail
 refine aj.mono ?_;rintro ag K ⟨rfl,T⟩;have J:Hid (qaI K (n+1)):=y.o.below T;have G:=J9 (B0.o.trans (T.mono (by omega)));have M:Hid (n+2<=K.heap.size):=by have:=T.size;show _<=_;omega
 clear T aj aA y B0 ak aa av am aB;by_cases O:qbe p.1 e c=3
 ·have U:Hid (qh2 (qbe p.1 e c)=(3,4,0)):=by show qh2 _=_;unfold qh2;rw [Qi O]
  rw [O]
  go_wp2_with fail
  refine (pair_any _ K).mono ?_;rintro ag z ⟨rfl,m⟩;have q:Hid (qaI z (n+1)):=J.o.below m;have V:Hid (Below n w z):=G.o.trans (m.mono (by have:=M.o;omega));clear m J G M;simp only [trV];obtain ⟨ar,aq,ay,ap⟩:=q.o.cells;go_wp2;obtain ⟨ax,af,h,ad,-⟩:=qaP q.o 3 4 0;rw [af];have ac:=C9 h 0;have W:=C9 h 1;have ae:=C9 h 2;refine bodyPost_ret (v:=trV (3,4,0)) ?_ rfl ?_
  ·simp [results,results264,go_sem,ac,W,ae,trV]
  ·exact ⟨by rw [U.o],by rw [ah.o];exact V.o.trans (ad.mono (by omega))⟩
 ·have U:Hid (qh2 (qbe p.1 e c)=(3,(qbe p.1 e c),0)):=by show qh2 _=_;unfold qh2;rw [Qe O]
  obtain ⟨Z,ab⟩:=N9 (qbe p.1 e c);have an:Hid (qh2 (qbe p.1 e c)=(3,Z,0)):=by have ai:=U.o;rw [ab] at ai |-;exact ai
  rw [ab] at O |-;clear ab
  go_wp2_with fail
  refine (pair_any _ K).mono ?_;rintro ag z ⟨rfl,m⟩;have q:Hid (qaI z (n+1)):=J.o.below m;have V:Hid (Below n w z):=G.o.trans (m.mono (by have:=M.o;omega));clear m J G M;simp only [trV];obtain ⟨ar,aq,ay,ap⟩:=q.o.cells;go_wp2;obtain ⟨ax,af,h,ad,-⟩:=qaP q.o 3 Z 0;rw [af];have ac:=C9 h 0;have W:=C9 h 1;have ae:=C9 h 2;refine bodyPost_ret (v:=trV (3,Z,0)) ?_ rfl ?_
  ·simp [results,results264,go_sem,ac,W,ae,trV]
  ·exact ⟨by rw [an.o],by rw [ah.o];exact V.o.trans (ad.mono (by omega))⟩
theorem qwd (x:Nat) (q:x<256):bits .and .u8 (x:Int) 1=((x % 2:Nat):Int):=by
 have:∀ h:Fin 256,bits .and .u8 (h.val:Int) 1=((h.val % 2:Nat):Int):=by decide +kernel
 exact this ⟨x,q⟩
theorem qx0 (o b:Nat) (q:o<128) (h:b<2):bits .or .i64 (wrap64 ((o:Int)*2)) (wrap64 (b:Int))=((2*o+b:Nat):Int):=by
 have:∀ (o:Fin 128) (b:Fin 2),bits .or .i64 (wrap64 ((o.val:Int)*2)) (wrap64 (b.val:Int))=((2*o.val+b.val:Nat):Int):=by decide +kernel
 exact this ⟨o,q⟩ ⟨b,h⟩
def numN (l:Str) (n:Nat) (c:UInt8):Nat->Nat
 | 0=>0
 | k+1=>if l[k]?.getD 0=c then 2*numN l n c k+n / 2 ^ (7 - k) % 2 else numN l n c k
theorem qkY (l:Str) (n:Nat) (e:n<256) (c:UInt8):∀ k,k<=8->qrh l (n:Int) c k=(numN l n c k:Nat)/\numN l n c k<2 ^ k
 | 0,_=>⟨rfl,Nat.one_pos⟩
 | k+1,E=>by
  obtain ⟨h,q⟩:=qkY l n e c k (by omega);unfold qrh numN;have G:numN l n c k<2 ^ 7:=Zk q (Nat.pow_le_pow_right (by decide) (by omega));split
  ·have y:(n:Int) / 2 ^ (7 - k)=((n / 2 ^ (7 - k):Nat):Int):=by simp
   have z:n / 2 ^ (7 - k)<256:=Nat.lt_of_le_of_lt (Nat.div_le_self _ _) e;rw [h,y,qwd _ z,qx0 _ _ (by omega) (by omega)];refine ⟨rfl,?_⟩;rw [Nat.pow_succ];omega
  ·exact ⟨h,by rw [Nat.pow_succ];omega⟩
theorem qcl (l:Str) (n:Nat) (h:n<256) (c:UInt8):qbe l (n:Int) c=(numN l n c 8:Nat):=(qkY l n h c 8 (Qa _)).1
theorem qgz (l:Str) (e:Int) (y:0<=e) (q:e<=255) (c:UInt8):0<=qbe l e c/\qbe l e c<=255:=by
 obtain ⟨h,rfl⟩:∃ h:Nat,e=h:=⟨e.toNat,by omega⟩;have n:=qkY l h (by omega) c 8 (Qa _);have z:qbe l (h:Int) c=(numN l h c 8:Nat):=n.1;omega
def qeY (w:Str):Tr:=
 if w=[65] then (1,7,0) else if w=[68,69] then (3,1,0) else if w=[72,76] then (3,2,0) else if w=[83,80] then (3,3,0) else if w=[65,70] then (3,4,0) else
 if w=[65,70,39] then (3,7,0) else if w=[40,66,67,41] then (4,0,0) else if w=[40,68,69,41] then (4,1,0) else if w=[40,72,76,41] then (4,2,0) else
 if w=[40,83,80,41] then (4,3,0) else if w=[40,67,41] then (4,8,0) else if w=[73] then (9,0,0) else if w=[82] then (9,1,0) else (6,0,((w.headD 0).toNat:Int) - 48)
def quk (c:UInt8) (n:Int):Option Tr:=
 if c=114\/c=115 then some (qrl n) else if c=112 then some (3,n,0) else if c=113 then some (qh2 n) else if c=99\/c=107 then some (8,n,0) else if c=98 then some (6,0,n) else if c=116 then some (6,0,8*n) else none
def opT (p:Pat) (h:Int) (w:Str):Tr×Str:=
 if w=[101] then ((10,0,0),w) else if w=[110]\/w=[119] then ((6,0,0),w) else if w=[40,110,41]\/w=[40,119,41] then ((7,0,0),(w.drop 1).take 1) else
 match quk (w.headD 0) (qbe p.1 h (w.headD 0)) with
 | some q=>(q,[])
 | none=>(qeY w,[])
theorem qo9 (w:World):∃ h,w.alloc (.cells #[.int .i64 0,.int .i64 0,.int .i64 0] 56)=h/\qaI h w.heap.size/\Below w.heap.size w h/\h.heap.size=w.heap.size+1:=
 ⟨_,rfl,World.alloc_heap_new w _,(B0 (w:=w)),by simp⟩
theorem qul (a:Str) (e:a∈([[65],[68,69],[72,76],[83,80],[65,70],[65,70,39],[40,66,67,41],[40,68,69,41],[40,72,76,41],[40,83,80,41],[40,67,41],[48],[49],[50]]:List Str)) (w:World):Calls prog 260 #[.string (sB a)] w (qb3 w (qeY a)):=by
 obtain ⟨c,ad,b,B0,K⟩:=qo9 w;obtain ⟨V,z⟩:=N9 (w.heap.size);rw [z] at b B0 K;have b:=J9 b;have B0:=J9 B0;have O:=J9 z;have G:∀ w,(Instr.index 9 (.string (sB a)) (.int .i64 0)).run prog w=.ok (.int .u8 ((a.headD 0).toNat:Int)) w:=by
  simp only [QM,Q9,or_false] at e;rcases e with rfl | rfl | rfl | rfl | rfl | rfl | rfl | rfl | rfl | rfl | rfl | rfl | rfl | rfl
  all_goals exact fun _=>by kernel_rfl
 obtain ⟨⟨t,h,n⟩,y⟩:∃ ac:Tr,qeY a=ac:=⟨_,rfl⟩;rw [y];simp only [QM,Q9,or_false] at e;rcases e with rfl | rfl | rfl | rfl | rfl | rfl | rfl | rfl | rfl | rfl | rfl | rfl | rfl | rfl
 all_goals
  unfold sB at G |-;simp only [List.headD_cons] at G
  go_enter func260,ntmps260
  go_wp2_with fail
  refine Calls.mono (?_:Calls _ _ _ _ (qb3 c (t,h,n))) ?_
  ·rw [<- y]
   first
    | exact register_any _ c
    | exact pair_any _ c
    | exact tpointer_any _ c
    | exact value_any _ c
  clear y;rintro ae U ⟨rfl,E⟩;have J:Hid (qaI U V):=b.o.below E;have T:=J9 (B0.o.trans (E.mono (by omega)));clear E ad b B0 K z;simp only [trV];obtain ⟨ah,af,aj,ag⟩:=J.o.cells;go_wp2;obtain ⟨ai,ab,q,Z,-⟩:=qaP J.o t h n;rw [ab];have W:=C9 q 0;have M:=C9 q 1;have aa:=C9 q 2;refine bodyPost_ret (v:=trV (t,h,n)) ?_ rfl ?_
  ·simp [results,results260,go_sem,W,M,aa,trV]
  ·exact ⟨rfl,by rw [O.o];exact T.o.trans Z⟩
theorem qvr (h:Str) (q:h∈([[73],[82]]:List Str)) (w:World):Calls prog 260 #[.string (sB h)] w (qb3 w (qeY h)):=by
 simp only [QM,Q9,or_false] at q;rcases q with rfl | rfl
 ·go_enter func260,ntmps260
  unfold sB;go_wp2;refine bodyPost_ret (v:=trV (9,0,0)) ?_ rfl ?_
  ·simp [results,results260,go_sem,trV]
  ·exact ⟨rfl,B0⟩
 ·go_enter func260,ntmps260
  unfold sB;go_wp2;refine bodyPost_ret (v:=trV (9,1,0)) ?_ rfl ?_
  ·simp [results,results260,go_sem,trV]
  ·exact ⟨rfl,B0⟩
def qhO:List Str:=[[65],[68,69],[72,76],[83,80],[65,70],[65,70,39],[40,66,67,41],[40,68,69,41],[40,72,76,41],[40,83,80,41],[40,67,41],[48],[49],[50],[73],[82]]
theorem qpR (h:Str) (y:h∈qhO) (w:World):Calls prog 260 #[.string (sB h)] w (qb3 w (qeY h)):=by
 have q:h∈([[65],[68,69],[72,76],[83,80],[65,70],[65,70,39],[40,66,67,41],[40,68,69,41],[40,72,76,41],[40,83,80,41],[40,67,41],[48],[49],[50]]:List Str)++[[73],[82]]:=y;rcases QY.1 q with q | q
 ·exact qul h q w
 ·exact qvr h q w
end Go.Proofs.YtecpnfhpcamljaaGreatDoor
namespace Go.Proofs.YtecpnfhpcamljaaGreatDoor
open Tryz
open Go.RowKit Go.Shelf
attribute [local irreducible] Go.Mixed.qAU
theorem qm2 (p:Pat) (h:Int) {e:Int} {F:FuncId} (q:(e,F)∈([(114,262),(115,262),(112,263),(113,264),(99,265),(107,265),(98,266),(116,267)]:List (Int×FuncId))) (w:World):Calls prog 259 #[qag p h,.int .u8 e] w fun z y=>z=.returned (.func (.func F) #[qag p h] #[])/\Below w.heap.size w y:=by
 simp only [QM,Q9,or_false,Zl] at q;unfold qag;rcases q with ⟨rfl,rfl⟩ | ⟨rfl,rfl⟩ | ⟨rfl,rfl⟩ | ⟨rfl,rfl⟩ | ⟨rfl,rfl⟩ | ⟨rfl,rfl⟩ | ⟨rfl,rfl⟩ | ⟨rfl,rfl⟩
 all_goals
  go_enter func259,ntmps259
  go_wp2;go_ret;exact ⟨rfl,B0⟩
theorem qqi (p:Pat) (y:Int) {e:Int} (h:e∈([65,68,72,83,40,73,82,48,49,50]:List Int)) (w:World):Calls prog 259 #[qag p y,.int .u8 e] w fun z q=>z=.returned .nilFunc/\Below w.heap.size w q:=by
 unfold qag;simp only [QM,Q9,or_false] at h;rcases h with rfl | rfl | rfl | rfl | rfl | rfl | rfl | rfl | rfl | rfl
 all_goals
  go_enter func259,ntmps259
  go_wp2;go_ret;exact ⟨rfl,B0⟩
theorem operand_nil (p:Pat) (E:Int) (s:ByteArray) (U:Int) (x:Tr) (aD:(s.toList == [101])=false) (aJ:(s.toList == [110])=false) (aE:(s.toList == [119])=false) (aK:(s.toList == [40,110,41])=false) (aG:(s.toList == [40,119,41])=false) (aF:∀ w,(Instr.index 9 (.string s) (.int .i64 0)).run prog w=.ok (.int .u8 U) w) (ah:U∈([65,68,72,83,40,73,82,48,49,50]:List Int)) (am:∀ w,Calls prog 260 #[.string s] w (qb3 w x)) (w:World):Calls prog 243 #[qag p E,.string s] w
  fun q au=>q=.returned (.tuple #[trV x,.string ⟨#[]⟩])/\Below w.heap.size w au:=by
 have ai:=J9 fun w=>qqi p E ah w
 have ar:=J9 am;clear ah am;obtain ⟨V,K,M⟩:=x;unfold qag at ai;unfold qag;obtain ⟨ak,aB,b,B0,J,c⟩:=qaJ w p E;obtain ⟨a,ag⟩:=N9 (w.heap.size);rw [ag] at b B0 J c;have aw:=C9 c 0;have an:=C9 c 1;have aC:=C9 c 2;obtain ⟨ae,ab,aj,aa⟩:=b.cells;have b:=J9 b;have B0:=J9 B0;have aq:=J9 ag
 go_enter func243,ntmps243
 go_wp2
 go_still_tail 3,(by kernel_rfl)
 change wpList _ _ _ _ _ ak.drew;obtain ⟨n,e⟩:=N9 (ak.drew);have ad:Hid (qaI n (a+1)):=by rw [<- e];exact b.o
 have Z:Hid (Below a w n):=by rw [<- e];exact B0.o.drew
 have ax:n.heap.size=a+2:=by rw [<- e];exact J
 rw [e];clear b B0 c aB e J ae ab aj aa aw an aC
 go_wp2_with fail
 refine (ai.o n).mono ?_;rintro q z ⟨rfl,h⟩;have af:Hid (qaI z (a+1)):=ad.o.below h;have T:=J9 (Z.o.trans (h.mono (by omega)));have ac:Hid (a+2<=z.heap.size):=by have:=h.size;show _<=_;omega
 clear h ad Z ax;have aH:∀ w,(binOp .neq 283 .nilFunc .nilFunc).run prog w=.ok (.bool false) w:=fun _=>by kernel_rfl
 go_wp2_with fail
 refine (ar.o z).mono ?_;rintro q W ⟨rfl,G⟩;have O:Hid (qaI W (a+1)):=af.o.below G;have ap:Hid (Below a w W):=T.o.trans (G.mono (by have:=ac.o;omega));clear G af T ac;simp only [trV];obtain ⟨ae,ab,aj,aa⟩:=O.o.cells;go_wp2;obtain ⟨aI,aA,y,ay,-⟩:=qaP O.o V K M;rw [aA];have av:=C9 y 0;have ao:=C9 y 1;have az:=C9 y 2;refine bodyPost_ret (v:=.tuple #[trV (V,K,M),.string ⟨#[]⟩]) ?_ rfl ?_
 ·simp [results,results243,go_sem,av,ao,az,trV]
 ·exact ⟨rfl,by rw [aq.o];exact ap.o.trans (ay.mono (by omega))⟩
theorem qaN (p:Pat) (c:Int) (s:ByteArray) (E:Int) (x:Tr) (aD:(s.toList == [101])=false) (aJ:(s.toList == [110])=false) (aE:(s.toList == [119])=false) (aK:(s.toList == [40,110,41])=false) (aG:(s.toList == [40,119,41])=false) (aF:∀ w,(Instr.index 9 (.string s) (.int .i64 0)).run prog w=.ok (.int .u8 E) w) (F:FuncId) (aL:∀ args w,(callFunc F args).run prog w=.ok (.enter F args) w) (ai:(E,F)∈([(114,262),(115,262),(112,263),(113,264),(99,265),(107,265),(98,266),(116,267)]:List (Int×FuncId))) (an:∀ w,Calls prog F #[qag p c,.int .u8 E] w (qb3 w x)) (w:World):Calls prog 243 #[qag p c,.string s] w
  fun y au=>y=.returned (.tuple #[trV x,.string ⟨#[]⟩])/\Below w.heap.size w au:=by
 have aj:=J9 fun w=>qm2 p c ai w
 have W:=J9 an;clear ai an;obtain ⟨V,M,O⟩:=x;unfold qag at aj W;unfold qag;obtain ⟨am,aB,b,B0,K,e⟩:=qaJ w p c;obtain ⟨a,ah⟩:=N9 (w.heap.size);rw [ah] at b B0 K e;have aw:=C9 e 0;have ao:=C9 e 1;have aC:=C9 e 2;obtain ⟨af,ac,ak,ab⟩:=b.cells;have b:=J9 b;have B0:=J9 B0;have ar:=J9 ah
 go_enter func243,ntmps243
 go_wp2
 go_still_tail 3,(by kernel_rfl)
 change wpList _ _ _ _ _ am.drew;obtain ⟨q,h⟩:=N9 (am.drew);have ae:Hid (qaI q (a+1)):=by rw [<- h];exact b.o
 have aa:Hid (Below a w q):=by rw [<- h];exact B0.o.drew
 have ax:q.heap.size=a+2:=by rw [<- h];exact K
 rw [h];clear b B0 e aB h K af ac ak ab aw ao aC
 go_wp2_with fail
 refine (aj.o q).mono ?_;rintro y G ⟨rfl,n⟩;have ag:Hid (qaI G (a+1)):=ae.o.below n;have U:=J9 (aa.o.trans (n.mono (by omega)));have ad:Hid (a+2<=G.heap.size):=by have:=n.size;show _<=_;omega
 clear n ae aa ax;have aH:∀ w,(binOp .neq 283 (.func (.func F) #[.agg #[.string (sB p.1),.string (sB p.2),.int .u8 c]] #[]) .nilFunc).run prog w=.ok (.bool true) w:=fun _=>by kernel_rfl
 go_wp2_with fail
 refine (W.o G).mono ?_;rintro y Z ⟨rfl,J⟩;have T:Hid (qaI Z (a+1)):=ag.o.below J;have aq:Hid (Below a w Z):=U.o.trans (J.mono (by have:=ad.o;omega));clear J ag U ad;simp only [trV];obtain ⟨af,ac,ak,ab⟩:=T.o.cells;go_wp2;obtain ⟨aI,aA,z,ay,-⟩:=qaP T.o V M O;rw [aA];have av:=C9 z 0;have ap:=C9 z 1;have az:=C9 z 2;refine bodyPost_ret (v:=.tuple #[trV (V,M,O),.string ⟨#[]⟩]) ?_ rfl ?_
 ·simp [results,results243,go_sem,av,ap,az,trV]
 ·exact ⟨rfl,by rw [ar.o];exact aq.o.trans (ay.mono (by omega))⟩
theorem qou (p:Pat) (y:Int) (w:World):Calls prog 243 #[qag p y,.string ⟨#[101]⟩] w
  fun E J=>E=.returned (.tuple #[trV (10,0,0),.string ⟨#[101]⟩])/\Below w.heap.size w J:=by
 unfold qag;obtain ⟨af,ag,e,B0,U,h⟩:=qaJ w p y;obtain ⟨ab,q⟩:=N9 (w.heap.size);rw [q] at e B0 U h;have ac:=C9 h 0;have V:=C9 h 1;have ah:=C9 h 2;obtain ⟨aa,Z,ae,W⟩:=e.cells;have e:=J9 e;have B0:=J9 B0;have G:=J9 q
 go_enter func243,ntmps243
 go_wp2;obtain ⟨ad,T,n,M,-⟩:=qaP e.o 10 0 0;rw [T];have K:=C9 n 0;have z:=C9 n 1;have O:=C9 n 2;refine bodyPost_ret (v:=.tuple #[trV (10,0,0),.string ⟨#[101]⟩]) ?_ rfl ?_
 ·simp [results,results243,go_sem,K,z,O,trV]
 ·exact ⟨rfl,by rw [G.o];exact B0.o.trans (M.mono (by omega))⟩
theorem qkb (p:Pat) (U:Int) (e:UInt8) (ai:e=110\/e=119) (w:World):Calls prog 243 #[qag p U,.string ⟨#[e]⟩] w
  fun E af=>E=.returned (.tuple #[trV (6,0,0),.string ⟨#[e]⟩])/\Below w.heap.size w af:=by
 unfold qag;obtain ⟨ao,ap,h,B0,W,n⟩:=qaJ w p U;obtain ⟨ae,T⟩:=N9 (w.heap.size);rw [T] at h B0 W n;have aj:=C9 n 0;have ac:=C9 n 1;have aq:=C9 n 2;obtain ⟨M,J,V,G⟩:=h.cells;have h:=J9 h;have B0:=J9 B0;have ad:=J9 T;obtain ⟨z,K⟩:=N9 (Value.string ⟨#[e]⟩);have Z:Hid (Value.string ⟨#[e]⟩=z):=K;clear K;clear M J V G aj ac aq;rcases ai with rfl | rfl
 all_goals
  go_enter func243,ntmps243
  go_wp2_with fail
  refine (value_any _ ao).mono ?_;rintro E ag ⟨rfl,y⟩;have O:Hid (qaI ag (ae+1)):=h.o.below y;have aa:=J9 (B0.o.trans (y.mono (by omega)));clear y h B0 W ap;simp only [trV];obtain ⟨M,J,V,G⟩:=O.o.cells;go_wp2;obtain ⟨ar,an,q,ak,-⟩:=qaP O.o 6 0 0;rw [an];have ah:=C9 q 0;have ab:=C9 q 1;have am:=C9 q 2;refine bodyPost_ret (v:=.tuple #[trV (6,0,0),z]) ?_ rfl ?_
  ·rw [<- Z.o]
   simp [results,results243,go_sem,ah,ab,am,trV]
  ·exact ⟨by rw [<- Z.o],by rw [ad.o];exact aa.o.trans (ak.mono (by omega))⟩
theorem qjk (p:Pat) (Z:Int) (e:UInt8) (aj:e=110\/e=119) (w:World):Calls prog 243 #[qag p Z,.string ⟨#[40,e,41]⟩] w
  fun ad ah=>ad=.returned (.tuple #[trV (7,0,0),.string ⟨#[e]⟩])/\Below w.heap.size w ah:=by
 unfold qag;obtain ⟨ap,aq,h,B0,J,n⟩:=qaJ w p Z;obtain ⟨G,W⟩:=N9 (w.heap.size);rw [W] at h B0 J n;have ak:=C9 n 0;have ac:=C9 n 1;have ar:=C9 n 2;obtain ⟨U,O,aa,M⟩:=h.cells;have h:=J9 h;have B0:=J9 B0;have ae:=J9 W;obtain ⟨y,T⟩:=N9 (Value.string ⟨#[e]⟩);have K:Hid (Value.string ⟨#[e]⟩=y):=T;clear T;rcases aj with rfl | rfl
 all_goals
  go_enter func243,ntmps243
  go_wp2;obtain ⟨E,q⟩:=N9 (ap.drew);have V:Hid (qaI E (G+1)):=by rw [<- q];exact h.o
  have ag:Hid (Below G w E):=by rw [<- q];exact B0.o.drew
  have au:E.heap.size=G+2:=by rw [<- q];exact J
  refine Mixed.qAQ (fun _=>True) 4 [(0,true),(1,true),(2,true),(3,false)] (by kernel_rfl) (by kernel_rfl) trivial ?_;rw [q];clear h B0 n aq q J U O aa M ak ac ar;obtain ⟨U,O,aa,M⟩:=V.o.cells;refine Mixed.mo rfl (.agg #[.int .i64 7,.int .i64 0,.int .i64 0]) (fun w af=>by kernel_rfl) ?_;refine Mixed.qAT rfl (by kernel_rfl) _ rfl _ rfl ?_;refine Mixed.mo rfl y (fun w af=>by rw [<- K.o];kernel_rfl) ?_;refine Mixed.qAR rfl (by kernel_rfl) ?_;go_wp2;refine ⟨trivial,?_⟩;simp only [Mixed.qAU,Qr,Qx];go_wp2;obtain ⟨av,ao,z,am,-⟩:=qaP V.o 7 0 0;rw [ao];have ai:=C9 z 0;have ab:=C9 z 1;have an:=C9 z 2;refine bodyPost_ret (v:=.tuple #[trV (7,0,0),y]) ?_ rfl ?_
  ·rw [<- K.o]
   simp [results,results243,go_sem,ai,ab,an,trV]
  ·exact ⟨by rw [<- K.o],by rw [ae.o];exact ag.o.trans (am.mono (by omega))⟩
def qeg:List Str:=[[101],[110],[119],[40,110,41],[40,119,41],[114],[115],[112],[113],[99],[107],[98],[116],[65],[68,69],[72,76],[83,80],[65,70],[65,70,39],[40,66,67,41],[40,68,69,41],[40,72,76,41],[40,83,80,41],[40,67,41],[73],[82],[48],[49],[50]]
theorem qll (p:Pat) (h:Int) (e:Str) (hF:e∈qhO) (w:World):Calls prog 243 #[qag p h,.string (sB e)] w
  fun q y=>q=.returned (.tuple #[trV (opT p h e).1,.string (sB (opT p h e).2)])/\Below w.heap.size w y:=by
 have q:opT p h e=(qeY e,[]):=by
  unfold qhO at hF;simp only [QM,Q9,or_false] at hF;rcases hF with rfl | rfl | rfl | rfl | rfl | rfl | rfl | rfl | rfl | rfl | rfl | rfl | rfl | rfl | rfl | rfl <;> rfl
 rw [q];refine operand_nil p h (sB e) ((e.headD 0).toNat:Int) (qeY e) ?_ ?_ ?_ ?_ ?_ ?_ ?_ (qpR e hF) w
 all_goals
  unfold qhO at hF;simp only [QM,Q9,or_false] at hF;rcases hF with rfl | rfl | rfl | rfl | rfl | rfl | rfl | rfl | rfl | rfl | rfl | rfl | rfl | rfl | rfl | rfl <;> first | exact fun _=>by kernel_rfl | kernel_rfl | decide
theorem qkO (p:Pat) (y:p.1.length=8) (e:Int) (q:0<=e) (h:e<=255) (z:Str) (E:z∈qeg) (w:World):Calls prog 243 #[qag p e,.string (sB z)] w
  fun J G=>J=.returned (.tuple #[trV (opT p e z).1,.string (sB (opT p e z).2)])/\Below w.heap.size w G:=by
 unfold qeg at E;simp only [QM,Q9,or_false] at E;rcases E with rfl | rfl | rfl | rfl | rfl | rfl | rfl | rfl | rfl | rfl | rfl | rfl | rfl | rfl | rfl | rfl | rfl | rfl | rfl | rfl | rfl | rfl | rfl | rfl | rfl | rfl | rfl | rfl | rfl
 ·exact qou p e w
 ·exact qkb p e 110 (.inl rfl) w
 ·exact qkb p e 119 (.inr rfl) w
 ·exact qjk p e 110 (.inl rfl) w
 ·exact qjk p e 119 (.inr rfl) w
 ·exact qaN p e ⟨#[114]⟩ 114 _ (by kernel_rfl) (by kernel_rfl) (by kernel_rfl) (by kernel_rfl) (by kernel_rfl) (fun _=>by kernel_rfl) 262 (fun _ _=>by kernel_rfl) (by decide) (fun w=>qeh p y e q h 114 w) w
 ·exact qaN p e ⟨#[115]⟩ 115 _ (by kernel_rfl) (by kernel_rfl) (by kernel_rfl) (by kernel_rfl) (by kernel_rfl) (fun _=>by kernel_rfl) 262 (fun _ _=>by kernel_rfl) (by decide) (fun w=>qeh p y e q h 115 w) w
 ·exact qaN p e ⟨#[112]⟩ 112 _ (by kernel_rfl) (by kernel_rfl) (by kernel_rfl) (by kernel_rfl) (by kernel_rfl) (fun _=>by kernel_rfl) 263 (fun _ _=>by kernel_rfl) (by decide) (fun w=>qoQ p y e q h 112 w) w
 ·exact qaN p e ⟨#[113]⟩ 113 _ (by kernel_rfl) (by kernel_rfl) (by kernel_rfl) (by kernel_rfl) (by kernel_rfl) (fun _=>by kernel_rfl) 264 (fun _ _=>by kernel_rfl) (by decide) (fun w=>qlb p y e q h 113 w) w
 ·exact qaN p e ⟨#[99]⟩ 99 _ (by kernel_rfl) (by kernel_rfl) (by kernel_rfl) (by kernel_rfl) (by kernel_rfl) (fun _=>by kernel_rfl) 265 (fun _ _=>by kernel_rfl) (by decide) (fun w=>qjP p y e q h 99 w) w
 ·exact qaN p e ⟨#[107]⟩ 107 _ (by kernel_rfl) (by kernel_rfl) (by kernel_rfl) (by kernel_rfl) (by kernel_rfl) (fun _=>by kernel_rfl) 265 (fun _ _=>by kernel_rfl) (by decide) (fun w=>qjP p y e q h 107 w) w
 ·exact qaN p e ⟨#[98]⟩ 98 _ (by kernel_rfl) (by kernel_rfl) (by kernel_rfl) (by kernel_rfl) (by kernel_rfl) (fun _=>by kernel_rfl) 266 (fun _ _=>by kernel_rfl) (by decide) (fun w=>qtD p y e q h 98 w) w
 ·exact qaN p e ⟨#[116]⟩ 116 _ (by kernel_rfl) (by kernel_rfl) (by kernel_rfl) (by kernel_rfl) (by kernel_rfl) (fun _=>by kernel_rfl) 267 (fun _ _=>by kernel_rfl) (by decide) (fun w=>qiN p y e q h 116 (qgz p.1 e q h 116).1 (qgz p.1 e q h 116).2 w) w
 all_goals exact qll p e _ (by decide) w
end Go.Proofs.YtecpnfhpcamljaaGreatDoor
namespace Go.Proofs.YtecpnfhpcamljaaGreatDoor
open Tryz
open Go.RowKit Go.Shelf
def arN (n:Nat):Str:=([[65,68,68],[65,68,67],[83,85,66],[83,66,67],[65,78,68],[88,79,82],[79,82],[67,80]]:List Str).getD n []
def arB (n:Nat):Str:=([[65,44],[65,44],[],[65,44],[],[],[],[]]:List Str).getD n []
def roN (n:Nat):Str:=([[82,76,67],[82,82,67],[82,76],[82,82],[83,76,65],[83,82,65],[83,76,76],[83,82,76]]:List Str).getD n []
theorem qcU (l k:Str):((sB l).toList == k)=decide (l=k):=by
 rw [QO];show (l.toArray.toList == k)=_;rw [List.toList_toArray];by_cases h:l=k
 ·subst h;simp
 ·rw [Qh h];simpa using h
theorem qaF (p:Pat) (aa:p.1.length=8) (e:Int) (ac:0<=e) (U:e<=255) (k:Int) (s:ByteArray) (q y E:Bool) (W:qbe p.1 e 97=k) (ag:∀ w,(Instr.index 282 (.agg #[.string ⟨#[65,68,68]⟩,.string ⟨#[65,68,67]⟩,.string ⟨#[83,85,66]⟩,.string ⟨#[83,66,67]⟩,.string ⟨#[65,78,68]⟩,.string ⟨#[88,79,82]⟩,.string ⟨#[79,82]⟩,.string ⟨#[67,80]⟩]) (.int .i64 k)).run prog w=.ok (.string s) w) (ae:(s.toList == [65,68,68])=q) (ai:(s.toList == [65,68,67])=y) (af:(s.toList == [83,66,67])=E) (w:World):Calls prog 257 #[qag p e] w
  fun K Z=>K=.returned (.tuple #[.string s,.string (if q||y||E then ⟨#[65,44]⟩ else ⟨#[]⟩)])/\Below w.heap.size w Z:=by
 unfold qag;obtain ⟨G,J⟩:=N9 (w.alloc (.cells #[.string (sB p.1),.string (sB p.2),.int .u8 e] 221));have B0:Hid (Below w.heap.size w G):=by rw [<- J];exact B0
 have h:G.heap[w.heap.size]?=some (.cells #[.string (sB p.1),.string (sB p.2),.int .u8 e] 221 (0,0)):=by rw [<- J];exact World.alloc_heap_new w _
 have ab:=C9 h 0;have T:=C9 h 1;have ad:=C9 h 2;have z:=qaU p.1 p.2 aa e ac U 97 G;rw [W] at z;have M:=B0.o.size;clear h
 go_enter func257,ntmps257
 go_wp2_with fail
 refine z.mono ?_;rintro K ah ⟨rfl,O⟩;have V:=J9 (B0.o.trans (O.mono M));clear O z J B0 M ab T ad;cases q <;> cases y <;> cases E
 all_goals
  go_wp2
  go_ret2
  exact ⟨rfl,V.o⟩
theorem lt8 {n:Int} (q:0<=n) (h:n<=7):n=0\/n=1\/n=2\/n=3\/n=4\/n=5\/n=6\/n=7:=by omega
theorem qgN (p:Pat) (z:p.1.length=8) (h:Int) (y:0<=h) (q:h<=255) (E:qbe p.1 h 97<=7) (w:World):Calls prog 257 #[qag p h] w
  fun J G=>J=.returned (.tuple #[.string (sB (arN (qbe p.1 h 97).toNat)),.string (sB (arB (qbe p.1 h 97).toNat))])/\Below w.heap.size w G:=by
 rcases lt8 (qgz p.1 h y q 97).1 E with e | e | e | e | e | e | e | e
 ·rw [e]
  exact qaF p z h y q 0 (sB (arN 0)) true false false e (fun _=>by kernel_rfl) (by kernel_rfl) (by kernel_rfl) (by kernel_rfl) w
 ·rw [e]
  exact qaF p z h y q 1 (sB (arN 1)) false true false e (fun _=>by kernel_rfl) (by kernel_rfl) (by kernel_rfl) (by kernel_rfl) w
 ·rw [e]
  exact qaF p z h y q 2 (sB (arN 2)) false false false e (fun _=>by kernel_rfl) (by kernel_rfl) (by kernel_rfl) (by kernel_rfl) w
 ·rw [e]
  exact qaF p z h y q 3 (sB (arN 3)) false false true e (fun _=>by kernel_rfl) (by kernel_rfl) (by kernel_rfl) (by kernel_rfl) w
 ·rw [e]
  exact qaF p z h y q 4 (sB (arN 4)) false false false e (fun _=>by kernel_rfl) (by kernel_rfl) (by kernel_rfl) (by kernel_rfl) w
 ·rw [e]
  exact qaF p z h y q 5 (sB (arN 5)) false false false e (fun _=>by kernel_rfl) (by kernel_rfl) (by kernel_rfl) (by kernel_rfl) w
 ·rw [e]
  exact qaF p z h y q 6 (sB (arN 6)) false false false e (fun _=>by kernel_rfl) (by kernel_rfl) (by kernel_rfl) (by kernel_rfl) w
 ·rw [e]
  exact qaF p z h y q 7 (sB (arN 7)) false false false e (fun _=>by kernel_rfl) (by kernel_rfl) (by kernel_rfl) (by kernel_rfl) w
def qaj (p:Pat) (h:Int):Str×Str×Str:=
 if (qbp [32] p.2).1=[97] then (arN (qbe p.1 h 97).toNat,arB (qbe p.1 h 97).toNat,(qbp [32] p.2).2.1) else
 if (qbp [32] p.2).1=[111] then (roN (qbe p.1 h 111).toNat,[],(qbp [32] p.2).2.1) else ((qbp [32] p.2).1,[],(qbp [32] p.2).2.1)
def qee (w:World) (x:Str×Str×Str) (e:Ending) (w':World):Prop:=e=.returned (.tuple #[.string (sB x.1),.string (sB x.2.1),.string (sB x.2.2)])/\Below w.heap.size w w'
theorem qdN (w:World) (p:Pat) (q:Int):∃ h,w.alloc (.cells #[.string (sB p.1),.string (sB p.2),.int .u8 q] 221)=h/\Below w.heap.size w h/\h.heap.size=w.heap.size+1/\h.heap[w.heap.size]?=some (.cells #[.string (sB p.1),.string (sB p.2),.int .u8 q] 221 (0,0)):=
 ⟨_,rfl,B0,by simp,World.alloc_heap_new w _⟩
theorem quF (p:Pat) (am:p.1.length=8) (ao:p.2.length<=100000) (a:Int) (an:0<=a) (aj:a<=255) (ak:qbe p.1 a 97<=7) (z:(qbp [32] p.2).1=[97]) (w:World) (U:qad w):Calls prog 242 #[qag p a] w (qee w (qaj p a)):=by
 unfold qag;obtain ⟨f,ap,K,ab,h⟩:=qdN w p a;have V:=U.below K;have hcut:=qeI p.2 [32] ao f V;have J:=C9 h 0;have y:=C9 h 1;have M:=C9 h 2;have B0:=J9 K;have ad:=J9 h;clear K h;obtain ⟨aq,G⟩:=N9 ((qbp [32] p.2).1);obtain ⟨ai,x⟩:=N9 ((qbp [32] p.2).2.1);obtain ⟨ax,Z⟩:=N9 ((qbp [32] p.2).2.2);rw [G,x,Z] at hcut;rw [z] at G;subst G;have O:Hid (qaj p a=(arN (qbe p.1 a 97).toNat,arB (qbe p.1 a 97).toNat,ai)):=by show qaj p a=_;unfold qaj;rw [Qi z,x]
 have e:=qgN p am a an aj ak;obtain ⟨ar,af⟩:=N9 (arN (qbe p.1 a 97).toNat);obtain ⟨au,ac⟩:=N9 (arB (qbe p.1 a 97).toNat);rw [af,ac] at e O;simp only [qag] at e;have av:((sB [97]).toList == [97])=true:=by rw [qcU];rfl
 clear af ac x Z z
 go_enter func242,ntmps242
 go_wp2_with fail
 refine hcut.mono ?_;rintro ah W ⟨rfl,m,rfl⟩;have E:Hid (Below w.heap.size w (f.drewN m)):=qce B0.o m;have q:(f.drewN m).heap[w.heap.size]?=some (.cells #[.string (sB p.1),.string (sB p.2),.int .u8 a] 221 (0,0)):=ad.o;have aa:(f.drewN m).heap.size=w.heap.size+1:=ab;obtain ⟨W,ae⟩:=N9 (f.drewN m);rw [ae] at E q aa |-;clear ae hcut ap J y M B0 ad ab V f U;have J:=C9 q 0;have y:=C9 q 1;have M:=C9 q 2;clear q;have e:=e W
 go_wp2_with fail
 refine e.mono ?_;rintro ah aw ⟨rfl,T⟩;have ag:=J9 (E.o.trans (T.mono (by omega)));clear T e E J y M aa;go_wp2
 go_ret3
 exact ⟨by rw [O.o];rfl,ag.o⟩
theorem qcb (p:Pat) (ak:p.1.length=8) (an:p.2.length<=100000) (a:Int) (am:0<=a) (aj:a<=255) (k:Int) (r:Str) (Z:qbe p.1 a 111=k) (ap:roN k.toNat=r) (au:∀ w,(Instr.index 282 (.agg #[.string ⟨#[82,76,67]⟩,.string ⟨#[82,82,67]⟩,.string ⟨#[82,76]⟩,.string ⟨#[82,82]⟩,.string ⟨#[83,76,65]⟩,.string ⟨#[83,82,65]⟩,.string ⟨#[83,76,76]⟩,.string ⟨#[83,82,76]⟩]) (.int .i64 k)).run prog w=.ok (.string (sB r)) w) (y:(qbp [32] p.2).1=[111]) (w:World) (U:qad w):Calls prog 242 #[qag p a] w (qee w (qaj p a)):=by
 unfold qag;obtain ⟨e,ao,M,ac,h⟩:=qdN w p a;have V:=U.below M;have hcut:=qeI p.2 [32] an e V;have K:=C9 h 0;have E:=C9 h 1;have O:=C9 h 2;have B0:=J9 M;have ad:=J9 h;clear M h;obtain ⟨ar,J⟩:=N9 ((qbp [32] p.2).1);obtain ⟨ai,z⟩:=N9 ((qbp [32] p.2).2.1);obtain ⟨ax,aa⟩:=N9 ((qbp [32] p.2).2.2);rw [J,z,aa] at hcut;rw [y] at J;subst J;have af:Hid (qaj p a=(r,[],ai)):=by show qaj p a=_;unfold qaj;rw [Qe (by rw [y];decide),Qi y,z,Z,ap]
 have f:=qaU p.1 p.2 ak a am aj 111;rw [Z] at f;have av:((sB [111]).toList == [97])=false:=by rw [qcU];rfl
 have aq:((sB [111]).toList == [111])=true:=by rw [qcU];rfl
 clear z aa y
 go_enter func242,ntmps242
 go_wp2_with fail
 refine hcut.mono ?_;rintro ah W ⟨rfl,m,rfl⟩;have G:Hid (Below w.heap.size w (e.drewN m)):=qce B0.o m;have q:(e.drewN m).heap[w.heap.size]?=some (.cells #[.string (sB p.1),.string (sB p.2),.int .u8 a] 221 (0,0)):=ad.o;have ab:(e.drewN m).heap.size=w.heap.size+1:=ac;obtain ⟨W,ae⟩:=N9 (e.drewN m);rw [ae] at G q ab |-;clear ae hcut ao K E O B0 ad ac V e U;have K:=C9 q 0;have E:=C9 q 1;have O:=C9 q 2;clear q;have f:=f W
 go_wp2_with fail
 refine f.mono ?_;rintro ah aw ⟨rfl,T⟩;have ag:=J9 (G.o.trans (T.mono (by omega)));clear T f G K E O ab;go_wp2
 go_ret3
 exact ⟨by rw [af.o];rfl,ag.o⟩
theorem qvc (p:Pat) (an:p.1.length=8) (ag:p.2.length<=100000) (a:Int) (ao:0<=a) (ak:a<=255) (E:(qbp [32] p.2).1≠[97]) (J:(qbp [32] p.2).1≠[111]) (w:World) (M:qad w):Calls prog 242 #[qag p a] w (qee w (qaj p a)):=by
 unfold qag;obtain ⟨e,ah,G,W,f⟩:=qdN w p a;have T:=M.below G;have hcut:=qeI p.2 [32] ag e T;have V:=C9 f 0;have K:=C9 f 1;have ab:=C9 f 2;have B0:=J9 G;have Z:=J9 f;clear G f;obtain ⟨z,h⟩:=N9 ((qbp [32] p.2).1);obtain ⟨ad,y⟩:=N9 ((qbp [32] p.2).2.1);obtain ⟨ap,U⟩:=N9 ((qbp [32] p.2).2.2);rw [h,y,U] at hcut;have ac:Hid (qaj p a=(z,[],ad)):=by show qaj p a=_;unfold qaj;rw [Qe E,Qe J,h,y]
 have am:((sB z).toList == [97])=false:=by rw [qcU,<- h];exact Qh E
 have ai:((sB z).toList == [111])=false:=by rw [qcU,<- h];exact Qh J
 clear y U E J h
 go_enter func242,ntmps242
 go_wp2_with fail
 refine hcut.mono ?_;rintro aj ae ⟨rfl,m,rfl⟩;have O:Hid (Below w.heap.size w (e.drewN m)):=qce B0.o m;have q:(e.drewN m).heap[w.heap.size]?=some (.cells #[.string (sB p.1),.string (sB p.2),.int .u8 a] 221 (0,0)):=Z.o;have af:(e.drewN m).heap.size=w.heap.size+1:=W;obtain ⟨ae,aa⟩:=N9 (e.drewN m);rw [aa] at O q af |-;clear aa hcut ah V K ab B0 Z W T e M;have V:=C9 q 0;have K:=C9 q 1;have ab:=C9 q 2;clear q;go_wp2
 go_ret3
 exact ⟨by rw [ac.o];rfl,O.o⟩
theorem qkd (p:Pat) (J:p.1.length=8) (G:p.2.length<=100000) (h:Int) (z:0<=h) (y:h<=255) (O:qbe p.1 h 97<=7) (T:qbe p.1 h 111<=7) (w:World) (E:qad w):Calls prog 242 #[qag p h] w (qee w (qaj p h)):=by
 by_cases M:(qbp [32] p.2).1=[97]
 ·exact quF p J G h z y O M w E
 ·by_cases K:(qbp [32] p.2).1=[111]
  ·rcases lt8 (qgz p.1 h z y 111).1 T with q | q | q | q | q | q | q | q
   ·exact qcb p J G h z y 0 (roN 0) q rfl (fun _=>by kernel_rfl) K w E
   ·exact qcb p J G h z y 1 (roN 1) q rfl (fun _=>by kernel_rfl) K w E
   ·exact qcb p J G h z y 2 (roN 2) q rfl (fun _=>by kernel_rfl) K w E
   ·exact qcb p J G h z y 3 (roN 3) q rfl (fun _=>by kernel_rfl) K w E
   ·exact qcb p J G h z y 4 (roN 4) q rfl (fun _=>by kernel_rfl) K w E
   ·exact qcb p J G h z y 5 (roN 5) q rfl (fun _=>by kernel_rfl) K w E
   ·exact qcb p J G h z y 6 (roN 6) q rfl (fun _=>by kernel_rfl) K w E
   ·exact qcb p J G h z y 7 (roN 7) q rfl (fun _=>by kernel_rfl) K w E
  ·exact qvc p J G h z y M K w E
theorem qcy {wr:World} {base:Nat} {v:Value} {xs:List Tr} (R:qaf wr base v xs) (ae:base<=wr.heap.size) {ops:Array Oper} {rest:List Oper} {o:Oper} {a:Act} {Q:Exit->Act->World->Prop} (W:o.guard=none) (s x:Operand)
  (ag:o.op=.call {callee:=.builtin .append,args:=#[s,x],argTypes:=#[22,22]}) (T:a.eval s=v) (E:Nat) (aa:E=wr.heap.size) (ai:a.eval x=.slice (some ⟨E,0,none⟩) 1 1)
  (h:Tr) (k:Nat) (z:xs.length=k) (ak:k<10000)
  (U:∀ u q w1,qaf w1 base (.slice u (k+1) q) (xs++[h])->Below base wr w1->wpList prog ops Q rest (a.put o.dst (.slice u (k+1) q)) w1):wpList prog ops Q (o :: rest) a (wr.alloc (.cells #[.int .i64 h.1,.int .i64 h.2.1,.int .i64 h.2.2] 56)):=by
 subst aa;obtain ⟨M,ac,ab,ad,Z⟩:=info_parts qdy;have O:Below base wr (wr.alloc (.cells #[.int .i64 h.1,.int .i64 h.2.1,.int .i64 h.2.2] 56)):=(Qc base wr).alloc ae _;have G:=World.ownsRow.alloc R (.cells #[.int .i64 h.1,.int .i64 h.2.1,.int .i64 h.2.2] 56);refine wpList_append_own _ W s x 22 ag base 56 M (.agg #[.int .i64 0,.int .i64 0,.int .i64 0]) 3 24 underlying22 ac ab ad Z rfl (by decide) v xs.length _ T G ⟨wr.heap.size,0,none⟩ 1 1 [.int .i64 h.1,.int .i64 h.2.1,.int .i64 h.2.2] ai rfl ?_ ?_ ?_ ?_ ?_ ?_
 ·intro af aj j
  match af,j with
  | 0,j=>simp at j;subst j;simp [Addr.add,go_sem]
  | 1,j=>simp at j;subst j;simp [Addr.add,go_sem]
  | 2,j=>simp at j;subst j;simp [Addr.add,go_sem]
 ·intro aj J
  simp at J;rcases J with rfl | rfl | rfl <;> rfl
 ·unfold maxLen;omega
 ·omega
 ·simp;omega
 ·intro ah w1 V K _
  have y:qaf w1 base ah (xs++[h]):=by
   unfold qaf;rw [Qk,qcu];exact V
  obtain ⟨u,q,rfl,-,-⟩:=y.ops;rw [Qk,z] at y |-;exact U u q w1 y (O.grown K (by simp;omega) fun k z=>(G.lt k z).1)
def qap (m:Str) (h:Int):Bool:=
 if m=[78,69,71] then h != 68 else if m=[82,69,84,78] then h != 69 else if m=[73,77] then h != 70&&h != 86&&h != 94 else h == 99||h == 107
theorem qkT (m:Str) (e:Int) (w:World):Calls prog 244 #[.string (sB m),.int .u8 e] w fun W M=>W=.returned (.bool (qap m e))/\M=w:=by
 by_cases q:m=[78,69,71]
 ·have h:Hid (qap m e=(e != 68)):=by show qap m e=_;unfold qap;rw [Qi q]
  have T:((sB m).toList == [78,69,71])=true:=by rw [qcU];exact Qn q
  clear q
  go_enter func244,ntmps244
  go_wp2;go_ret;exact ⟨qab h.o.symm,rfl⟩
 ·have T:((sB m).toList == [78,69,71])=false:=by rw [qcU];exact Qh q
  by_cases y:m=[82,69,84,78]
  ·have h:Hid (qap m e=(e != 69)):=by show qap m e=_;unfold qap;rw [Qe q,Qi y]
   have U:((sB m).toList == [82,69,84,78])=true:=(by rw [qcU];exact Qn y);clear q y
   go_enter func244,ntmps244
   go_wp2;go_ret;exact ⟨qab h.o.symm,rfl⟩
  ·have U:((sB m).toList == [82,69,84,78])=false:=by rw [qcU];exact Qh y
   by_cases E:m=[73,77]
   ·have h:Hid (qap m e=(e != 70&&e != 86&&e != 94)):=by show qap m e=_;unfold qap;rw [Qe q,Qe y,Qi E]
    have O:((sB m).toList == [73,77])=true:=(by rw [qcU];exact Qn E);clear q y E;by_cases z:e=70
    ·subst z
     go_enter func244,ntmps244
     go_wp2;go_ret;exact ⟨qab h.o.symm,rfl⟩
    ·by_cases G:e=86
     ·subst G
      go_enter func244,ntmps244
      go_wp2;go_ret;exact ⟨qab h.o.symm,rfl⟩
     ·have K:(e != 70)=true:=by simpa using z
      have V:(e != 86)=true:=(by simpa using G);have J:Hid (qap m e=(e != 94)):=(by have F:=h.o;rw [K,V] at F;show qap m e=_;simpa using F);clear z G
      go_enter func244,ntmps244
      go_wp2;go_ret;exact ⟨qab J.o.symm,rfl⟩
   ·have h:Hid (qap m e=(e == 99||e == 107)):=by show qap m e=_;unfold qap;rw [Qe q,Qe y,Qe E]
    have O:((sB m).toList == [73,77])=false:=(by rw [qcU];exact Qh E);clear q y E;by_cases z:e=99
    ·subst z
     go_enter func244,ntmps244
     go_wp2;go_ret;exact ⟨qab h.o.symm,rfl⟩
    ·have K:(e == 99)=false:=by simpa using z
     have J:Hid (qap m e=(e == 107)):=(by have F:=h.o;rw [K] at F;show qap m e=_;simpa using F);clear z
     go_enter func244,ntmps244
     go_wp2;go_ret;exact ⟨qab J.o.symm,rfl⟩
def qdf:Nat->Str->List Str
 | 0,_=>[]
 | n+1,l=>if l.isEmpty then [] else (qbp [44] l).1 :: qdf n (qbp [44] l).2.1
theorem qnN (n:Nat):qdf n []=[]:=by cases n <;> rfl
def splitW (l:Str):List Str:=qdf l.length l
abbrev En:=Str×List Tr×Str×Bool
def qbK (p:Pat) (h:Int) (q:List Str):List Tr:=q.map fun w=>(opT p h w).1
def qbj (p:Pat) (h:Int) (q:List Str):Str:=(q.map fun w=>(opT p h w).2).flatten
def qbH (p:Pat) (h:Int):List Str:=splitW ((qaj p h).2.1++(qaj p h).2.2)
def qae (p:Pat) (q h:Int):En:=((qaj p h).1,qbK p h (qbH p h),qbj p h (qbH p h),q == 2&&qap (qaj p h).1 h)
structure Good (p:Pat) (op:Int):Prop where
 len:p.1.length=8
 form:p.2.length<=100
 op0:0<=op
 op1:op<=255
 na:qbe p.1 op 97<=7
 no:qbe p.1 op 111<=7
 args:((qaj p op).2.1++(qaj p op).2.2).length<=100
 words:∀ w∈qbH p op,w∈qeg
def qbl (w:World) (b:Nat) (q h:Int) (m:Str) (v:Value) (ex:Str) (al:Bool):Prop:=w.heap[b]?=some (.cells #[.int .i64 q,.int .u8 h,.string (sB m),v,.string (sB ex),.bool al] 88 (0,0))
def enV (q h:Int) (m:Str) (v:Value) (ex:Str) (al:Bool):Value:=.agg #[.int .i64 q,.int .u8 h,.string (sB m),v,.string (sB ex),.bool al]
def qyU (w:World) (v q:Int) (x:En) (e:Ending) (w':World):Prop:=∃ h,e=.returned (enV v q x.1 h x.2.2.1 x.2.2.2)/\qaf w' w.heap.size h x.2.1/\Below w.heap.size w w'
theorem qnG (p:Pat) (h:Int) (a:List Str) (x:Str):qbK p h (a++[x])=qbK p h a++[(opT p h x).1]:=by unfold qbK;simp
theorem qkQ (p:Pat) (h:Int) (a:List Str) (x:Str):qbj p h (a++[x])=qbj p h a++(opT p h x).2:=by unfold qbj;simp
theorem qf6 (a b:Str):sB a++sB b=sB (a++b):=by
 refine ByteArray.ext ?_;show (sB a++sB b).data=(a++b).toArray;rw [ByteArray.data_append];simp [sB]
theorem qpq (p:Pat) (h:Int) (w:Str):(opT p h w).2.length<=w.length:=by
 unfold opT;split
 ·exact Qa _
 ·split
  ·exact Qa _
  ·split
   ·simp;omega
   ·split <;> simp
theorem qlU (h l:Str):(qbp h l).1.length+(qbp h l).2.1.length<=l.length:=by
 unfold qbp;split
 ·simp
 ·simp;omega
section
variable {w w':World} {b:Nat} {page op:Int} {m ex:Str} {v:Value} {al:Bool}
theorem qbl.lt (h:qbl w b page op m v ex al):b<w.heap.size:=(Qb.1 h).1
theorem qbl.below {B:Nat} (h:qbl w b page op m v ex al) (q:Below B w w') (y:b<B):qbl w' b page op m v ex al:=(q.block b y).trans h
theorem qbl.all (h:qbl w b page op m v ex al) (q:Below w.heap.size w w'):qbl w' b page op m v ex al:=h.below q h.lt
theorem qbl.cells (h:qbl w b page op m v ex al):w.cell? ⟨b,0,none⟩=some (.int .i64 page)/\w.cell? ⟨b,1,none⟩=some (.int .u8 op)/\w.cell? ⟨b,2,none⟩=some (.string (sB m))/\w.cell? ⟨b,3,none⟩=some v/\w.cell? ⟨b,4,none⟩=some (.string (sB ex))/\w.cell? ⟨b,5,none⟩=some (.bool al)/\∀ j,w.frozen? ⟨b,j,none⟩=false:=
 ⟨C9 h 0,C9 h 1,C9 h 2,C9 h 3,C9 h 4,C9 h 5,Qp h⟩
theorem qbl.qBg (q:qbl w b page op m v ex al) (h:Value):qbl (w.setCell ⟨b,3,none⟩ h) b page op m h ex al:=heap_setCell_same w b 3 _ _ h q
theorem qbl.qBe (q:qbl w b page op m v ex al) (h:Str):qbl (w.setCell ⟨b,4,none⟩ (.string (sB h))) b page op m v h al:=heap_setCell_same w b 4 _ _ _ q
theorem qbl.qBa (q:qbl w b page op m v ex al) (h:Bool):qbl (w.setCell ⟨b,5,none⟩ (.bool h)) b page op m v ex h:=heap_setCell_same w b 5 _ _ _ q
theorem qbl.qBn (q:qbl w b page op m v ex al) (h:Int):qbl (w.setCell ⟨b,1,none⟩ (.int .u8 h)) b page h m v ex al:=heap_setCell_same w b 1 _ _ _ q
theorem qbl.qBy (q:qbl w b page op m v ex al) (h:Int):qbl (w.setCell ⟨b,0,none⟩ (.int .i64 h)) b h op m v ex al:=heap_setCell_same w b 0 _ _ _ q
theorem qbl.qBJ (q:qbl w b page op m v ex al) (h:Str):qbl (w.setCell ⟨b,2,none⟩ (.string (sB h))) b page op h v ex al:=heap_setCell_same w b 2 _ _ _ q
theorem qbl.put (M:qbl w b page op m v ex al) (J y:Int) (G:Str) (K:Value) (z:Str) (E:Bool) :
  ∃ w',(((((w.setCell ⟨b,0,none⟩ (.int .i64 J)).setCell ⟨b,1,none⟩ (.int .u8 y)).setCell ⟨b,2,none⟩ (.string (sB G))).setCell ⟨b,3,none⟩ K).setCell ⟨b,4,none⟩ (.string (sB z))).setCell ⟨b,5,none⟩ (.bool E)=w'/\
   qbl w' b J y G K z E/\Below b w w'/\w'.heap.size=w.heap.size/\(∀ B u L,b<B->qaf w B u L->qaf w' B u L)/\∀ k,k≠b->w'.heap[k]?=w.heap[k]?:=by
 refine ⟨_,rfl,(((((M.qBy J).qBn y).qBJ G).qBg K).qBe z).qBa E,?_,by simp,fun B u L h O=>?_,fun k q=>?_⟩
 ·exact ((((((Qc b w).setCell (p:=⟨b,0,none⟩) (Qa _) _).setCell (p:=⟨b,1,none⟩) (Qa _) _).setCell (p:=⟨b,2,none⟩) (Qa _) _).setCell (p:=⟨b,3,none⟩) (Qa _) _).setCell (p:=⟨b,4,none⟩) (Qa _) _).setCell (p:=⟨b,5,none⟩) (Qa _) _
 ·exact row_set (row_set (row_set (row_set (row_set (row_set O (p:=⟨b,0,none⟩) h _) (p:=⟨b,1,none⟩) h _) (p:=⟨b,2,none⟩) h _) (p:=⟨b,3,none⟩) h _) (p:=⟨b,4,none⟩) h _) (p:=⟨b,5,none⟩) h _
 ·exact (heap_setCell_other _ ⟨b,5,none⟩ k _ q).trans ((heap_setCell_other _ ⟨b,4,none⟩ k _ q).trans ((heap_setCell_other _ ⟨b,3,none⟩ k _ q).trans ((heap_setCell_other _ ⟨b,2,none⟩ k _ q).trans ((heap_setCell_other _ ⟨b,1,none⟩ k _ q).trans (heap_setCell_other _ ⟨b,0,none⟩ k _ q)))))
theorem qbl.qBd (h:qbl w b page op m v ex al) {g j:Nat} (q:b≠g) (u:Value):qbl (w.setCell ⟨g,j,none⟩ u) b page op m v ex al:=(heap_setCell_other w ⟨g,j,none⟩ b u q).trans h
end
theorem qdm (p:Pat) (k b:Int) (z:Good p b) (w:World) (aY:qad w):Calls prog 219 #[qag p b,.int .i64 k] w (qyU w k b (qae p k b)):=by
 unfold qag;obtain ⟨T,ap⟩:=N9 ((w.alloc (.cells #[.string (sB p.1),.string (sB p.2),.int .u8 b] 221)).alloc (.cells #[.int .i64 0,.int .u8 0,.string ⟨#[]⟩,.slice none 0 0,.string ⟨#[]⟩,.bool false] 88));obtain ⟨n,ab⟩:=N9 (w.heap.size);have bO:T.heap.size=n+1+1:=by rw [<- ap,<- ab];simp
 have B0:Below n w T:=by rw [<- ap,<- ab];exact ((B0 (w:=w))).alloc (by simp) _
 have ao:T.heap[n]?=some (.cells #[.string (sB p.1),.string (sB p.2),.int .u8 b] 221 (0,0)):=by rw [<- ap,<- ab];exact (Below.heap_alloc _ _ _ (by simp)).trans (World.alloc_heap_new w _)
 have bu:qbl T (n+1) 0 0 [] (.slice none 0 0) [] false:=by
  rw [<- ap,<- ab];have j:=World.alloc_heap_new (w.alloc (.cells #[.string (sB p.1),.string (sB p.2),.int .u8 b] 221)) (.cells #[.int .i64 0,.int .u8 0,.string ⟨#[]⟩,.slice none 0 0,.string ⟨#[]⟩,.bool false] 88);rw [QB] at j;exact j
 have b0:0 < n:=by rw [<- ab];exact aY.lt
 have a0:qad T:=aY.qA6 (n:=n) B0 b0;have y:=qkd p z.len (by have:=z.form;omega) b z.op0 z.op1 z.na z.no T a0;have Z:=C9 ao 0;have V:=C9 ao 1;have aa:=C9 ao 2;have az:=J9 z;have aJ:=J9 ab;simp only [qag] at y;obtain ⟨o,aZ⟩:=N9 ((qaj p b).1);obtain ⟨am,aA⟩:=N9 ((qaj p b).2.1);obtain ⟨ah,aI⟩:=N9 ((qaj p b).2.2);have aG:Hid ((qaj p b).1=o/\qbH p b=splitW (am++ah)/\(am++ah).length<=100):=⟨aZ,by unfold qbH;rw [aA,aI],by rw [<- aA,<- aI];exact z.args⟩;unfold qee at y;rw [aZ,aA,aI] at y;clear aZ aA aI z aY
 go_enter func219,ntmps219
 go_wp2_with fail
 refine y.mono ?_;rintro a5 x ⟨rfl,G⟩;have af:=(G.block n (by omega)).trans ao;have R1:qbl x (n+1) 0 0 [] (.slice none 0 0) [] false:=(G.block (n+1) (by omega)).trans bu;have bj:=B0.trans (G.mono (by omega));have bM:n+1+1<=x.heap.size:=by have:=G.size;omega
 have aj:qad x:=a0.below G;clear G y Z V aa ao bu B0 ap bO a0 T;have Z:=C9 af 0;have V:=C9 af 1;have aa:=C9 af 2;obtain ⟨e,a4⟩:=N9 (x.heap.size);have ai:=J9 (Zb af (Zb R1 (Zb bj aj)));have cw:n+1+1<=e:=by omega
 clear bM af R1 bj aj;have b8:(sB am).size+(sB ah).size<=100:=by have j:=aG.o.2.2;rw [qaB,qaB];simpa using j
 go_wp2;obtain ⟨aR,ae⟩:=N9 (x.alloc (.cells #[.int .i64 k,.int .u8 b,.string (sB o),.slice none 0 0,.string ⟨#[]⟩,.bool false] 88));have aB:qbl aR e k b o (.slice none 0 0) [] false:=by rw [<- ae,<- a4];exact World.alloc_heap_new x _
 have aD:aR.heap.size=e+1:=by rw [<- ae,<- a4];simp
 have aE:Below e x aR:=by rw [<- ae,<- a4];exact B0
 rw [ae];have aB:=J9 aB;have aE:=J9 aE;have aD:=J9 aD;clear ae Z V aa b8;rw [qf6];have a1:(am++ah).length<=100:=aG.o.2.2;obtain ⟨bq,bD⟩:=N9 (am++ah);have bT:=J9 bD;rw [bD] at a1 |-
 go_loopw [7] (fun bc wr=>∃ (done:List Str) (K:Nat) (h:Str) (v:Value),bc=.string (sB h)/\h.length<=K/\done.length+h.length<=100/\(qbj p b done).length+h.length<=100/\Hid (done++qdf K h=qbH p b)/\Hid (qbl wr e k b o v (qbj p b done) false)/\Hid (qaf wr (e+1) v (qbK p b done))/\Hid (Below e x wr)/\e+1<=wr.heap.size) (fun bc _=>qnK bc)
 case atStart=>exact ⟨[],bq.length,bq,_,rfl,Qa _,by simpa using a1,by simpa [qbj] using a1,by show []++_=_;rw [aG.o.2.1,bT.o];rfl,aB.o,Zm _ _ _ _,aE.o,by rw [aD.o];exact Qa _⟩
 case round=>
  clear aB aE aD;obtain ⟨done,K,h,v,rfl,bW,b9,cx,aH,ag,av,ac,bA⟩:=hrel;by_cases an:h=[]
  ·subst an
   have ce:=qmD [];have aM:Hid (done=qbH p b):=by
    have j:=aH.o;rw [qnN,Zu] at j;exact j
   have a3:Hid (qbl wr (n+1) 0 0 [] (.slice none 0 0) [] false):=ai.o.2.1.below ac.o (by omega);have br:=J9 (ai.o.2.2.1.trans (ac.o.mono (by omega)));have E:=(ac.o.block n (by omega)).trans ai.o.1;have Z:=C9 E 0;have V:=C9 E 1;have aa:=C9 E 2;obtain ⟨O,J,rfl,-,-⟩:=av.o.ops;obtain ⟨bB,bE,bk,aT,bH,bg,bn⟩:=ag.o.cells;obtain ⟨ck,ch,cu,cp,cn,cr,cm⟩:=a3.o.cells;have ad:Hid (qae p k b=(o,qbK p b done,qbj p b done,k == 2&&qap o b)):=by
    show qae p k b=_;unfold qae;rw [aG.o.1,aM.o]
   have ay:=qkT o b wr;obtain ⟨W,bh⟩:=N9 (qap o b);rw [bh] at ay ad;clear aH bW b9 bh E;have G:e≠n+1:=(by omega);by_cases bw:k=2
   ·subst bw
    go_wp2_with fail
    refine ay.mono ?_;rintro a5 b3 ⟨rfl,bp⟩;rw [bp];clear ay bp;go_wp2;have aq:=J9 (ag.o.qBa W);have U:Hid (qaf (wr.setCell ⟨e,5,none⟩ (.bool W)) (e+1) (.slice O (qbK p b done).length J) (qbK p b done)):=row_set av.o (p:=⟨e,5,none⟩) (by simp) _;have be:Hid (qbl (wr.setCell ⟨e,5,none⟩ (.bool W)) (n+1) 0 0 [] (.slice none 0 0) [] false):=a3.o.qBd G.symm _;have M:Hid (Below n w (wr.setCell ⟨e,5,none⟩ (.bool W))):=br.o.setCell (p:=⟨e,5,none⟩) (by simp;omega) _;obtain ⟨b6,bd,aC,aw,bl,a6,-⟩:=be.o.put 2 b o (.slice O (qbK p b done).length J) (qbj p b done) W;rw [bd];obtain ⟨aO,aW,aU,a2,bb,a8,-⟩:=aC.cells;refine bodyPost_ret (v:=enV 2 b o (.slice O (qbK p b done).length J) (qbj p b done) W) ?_ rfl ?_
    ·simp [results,results219,go_sem,aO,aW,aU,a2,bb,a8,enV]
    ·refine ⟨.slice O (qbK p b done).length J,by rw [ad.o];rfl,?_,?_⟩
     ·rw [ad.o,aJ.o];exact (a6 _ _ _ (by omega) U.o).lift (by omega)
     ·rw [aJ.o];exact M.o.trans (aw.mono (by omega))
   ·have b1:(k == 2)=false:=by simpa using bw
    clear ay;go_wp2;have aq:=J9 (ag.o.qBa false);have U:Hid (qaf (wr.setCell ⟨e,5,none⟩ (.bool false)) (e+1) (.slice O (qbK p b done).length J) (qbK p b done)):=row_set av.o (p:=⟨e,5,none⟩) (by simp) _;have be:Hid (qbl (wr.setCell ⟨e,5,none⟩ (.bool false)) (n+1) 0 0 [] (.slice none 0 0) [] false):=a3.o.qBd G.symm _;have M:Hid (Below n w (wr.setCell ⟨e,5,none⟩ (.bool false))):=br.o.setCell (p:=⟨e,5,none⟩) (by simp;omega) _;obtain ⟨b6,bd,aC,aw,bl,a6,-⟩:=be.o.put k b o (.slice O (qbK p b done).length J) (qbj p b done) false;rw [bd];obtain ⟨aO,aW,aU,a2,bb,a8,-⟩:=aC.cells;refine bodyPost_ret (v:=enV k b o (.slice O (qbK p b done).length J) (qbj p b done) false) ?_ rfl ?_
    ·simp [results,results219,go_sem,aO,aW,aU,a2,bb,a8,enV]
    ·refine ⟨.slice O (qbK p b done).length J,by rw [ad.o,b1];rfl,?_,?_⟩
     ·rw [ad.o,aJ.o];exact (a6 _ _ _ (by omega) U.o).lift (by omega)
     ·rw [aJ.o];exact M.o.trans (aw.mono (by omega))
  ·have b5:=qmD h
   rw [List.isEmpty_eq_false_iff.2 an] at b5;have bL:0<h.length:=Zp.2 an;obtain ⟨K,rfl⟩:∃ au,K=au+1:=⟨K - 1,by omega⟩;have aQ:=qlh [44] h (by decide) bL;have a9:=qlU [44] h;have aj:qad wr:=ai.o.2.2.2.qA6 ac.o (by omega);have hcut:=qeI h [44] (by omega) wr aj;obtain ⟨q,y⟩:=N9 ((qbp [44] h).1);obtain ⟨rest,ak⟩:=N9 ((qbp [44] h).2.1);obtain ⟨co,bo⟩:=N9 ((qbp [44] h).2.2);have aM:Hid ((done++[q])++qdf K rest=qbH p b):=by
    have j:=aH.o;rw [qdf,Qe (by simpa using an),y,ak] at j;rw [Za];exact j
   have b4:Hid (q∈qeg):=az.o.words q (by rw [<- aM.o];simp);rw [y,ak] at a9;rw [ak] at aQ;have bf:Hid (rest.length<h.length):=aQ.1;have bz:Hid (q.length+rest.length<=h.length):=a9;have bR:Hid (qnK (.string (sB h))=h.length):=qaB h;have b2:Hid (qnK (.string (sB rest))=rest.length):=qaB rest;rw [y,ak,bo] at hcut;clear aH aQ a9 y ak bo an aj
   go_wp2_with fail
   refine hcut.mono ?_;rintro a5 b3 ⟨rfl,ax,rfl⟩;have aK:=below_drewN wr wr.heap.size ax;have aq:=J9 (ag.o.all aK);have U:=J9 (av.o.below aK);have M:Hid (Below e x (wr.drewN ax)):=ac.o.trans (aK.mono (by omega));have bx:e+1<=(wr.drewN ax).heap.size:=bA;obtain ⟨bU,bI⟩:=N9 (wr.drewN ax);rw [bI] at aq U M bx |-;clear bI aK hcut ag av ac bA wr;have E:=(M.o.block n (by omega)).trans ai.o.1;have Z:=C9 E 0;have V:=C9 E 1;have aa:=C9 E 2;clear E;have aF:=qkO p az.o.len b az.o.op0 az.o.op1 q b4.o bU;obtain ⟨⟨⟨aX,aS,aV⟩,a7⟩,aN⟩:=N9 (opT p b q);have bv:=J9 aN;have bi:Hid (a7.length<=q.length):=(by have j:=qpq p b q;rw [aN] at j;exact j);rw [aN] at aF;simp only [qag,trV] at aF;clear aN
   go_wp2_with fail
   refine aF.mono ?_;rintro a5 A ⟨rfl,ar⟩;have bs:=J9 (aq.o.all ar);have bP:=J9 (U.o.below ar);have bK:=J9 (M.o.trans (ar.mono (by omega)));have bN:e+1<=A.heap.size:=(by have:=ar.size;omega);clear ar aF aq U M bx Z V aa;obtain ⟨bB,bE,bk,aT,bH,bg,bn⟩:=bs.o.cells;have b7:Hid (qaf (A.alloc (.cells #[.int .i64 aX,.int .i64 aS,.int .i64 aV] 56)) (e+1) v (qbK p b done)):=bP.o.below (B0);have bG:Hid ((qbK p b done).length=done.length):=(by show (qbK p b done).length=_;unfold qbK;simp);obtain ⟨au,bX⟩:=N9 (done.length);rw [bX] at bG;have bY:au<10000:=(by omega);have ct:e≠A.heap.size:=(by omega);have cf:∀ aP,(A.alloc aP).cell? ⟨e,3,none⟩=some v:=(fun aP=>(((Qc (e+1) A).alloc bN aP).cell (show e<e+1 by omega)).trans aT);have ca:(sB (qbj p b done)).size+(sB a7).size<=100:=(by have j:=bi.o;have aw:=bz.o;rw [qaB,qaB];omega);clear bB bE bk aT bH bg bn
   go_wp2_with (at_builtin;refine qcy b7.o (by simp;omega) rfl _ _ rfl rfl (A.heap.size+1) (by simp) rfl (aX,aS,aV) au bG.o bY ?_;intro bQ bJ bF bt aL;have bm:=J9 ((bs.o.all ((Qc A.heap.size A).alloc (Qa _) _)).below aL (by omega));have bV:=J9 bt;have bZ:Hid (Below e x bF):=(bK.o.trans ((Qc e A).alloc (by omega) _)).trans (aL.mono (by omega));have cg:e+1<=bF.heap.size:=(by have:=aL.size;simp at this;omega);obtain ⟨cl,ci,cc,cd,cv,cj,cq⟩:=bm.o.cells;clear bt aL)
   rw [qf6];have bC:Hid (qbj p b (done++[q])=qbj p b done++a7):=(by show _=_;rw [qkQ,bv.o]);have bS:Hid (qbK p b (done++[q])=qbK p b done++[(aX,aS,aV)]):=(by show _=_;rw [qnG,bv.o]);go_roundw
   case rel=>
    have aC:=bf.o;have aw:=bz.o;have bl:=bi.o;refine ⟨done++[q],K,rest,.slice bQ (au+1) bJ,rfl,by omega,by rw [Qk];simp;omega,by rw [bC.o,Qk];omega,aM.o,?_,?_,?_,by simp;omega⟩
    ·rw [bC.o];exact (bm.o.qBg _).qBe _
    ·rw [bS.o];exact row_set (row_set bV.o (p:=⟨e,3,none⟩) (by simp) _) (p:=⟨e,4,none⟩) (by simp) _
    ·exact (bZ.o.setCell (p:=⟨e,3,none⟩) (Qa _) _).setCell (p:=⟨e,4,none⟩) (Qa _) _
   case measure=>rw [bR.o,b2.o];exact bf.o
end Go.Proofs.YtecpnfhpcamljaaGreatDoor
namespace Go.Proofs.YtecpnfhpcamljaaGreatDoor
open Tryz
open Go.RowKit Go.Shelf
def Box (w:World) (b:Nat) (k r n:Int):Prop:=w.cell? ⟨b,0,none⟩=some (.int .i64 k)/\w.cell? ⟨b,1,none⟩=some (.int .i64 r)/\w.cell? ⟨b,2,none⟩=some (.int .i64 n)
theorem Box.new (w:World) (k r n:Int) (t:TypeId):Box (w.alloc (.cells #[.int .i64 k,.int .i64 r,.int .i64 n] t)) w.heap.size k r n:=⟨by simp [go_sem],by simp [go_sem],by simp [go_sem]⟩
theorem Box.below {w w':World} {b:Nat} {k r n:Int} (h:Box w b k r n) (q:Below w.heap.size w w'):Box w' b k r n:=
 ⟨(q.cell (Qq w _ h.1)).trans h.1,(q.cell (Qq w _ h.2.1)).trans h.2.1,(q.cell (Qq w _ h.2.2)).trans h.2.2⟩
def qxq (w:World) (L:List Tr) (t:Tr) (e:Ending) (w':World):Prop:=
 ((t∉L/\e=.returned (.int .i64 (-1)))\/∃ a:Nat,(∃ j:a<L.length,L[a]=t)/\(∀ h,h<a->∀ (k:h<L.length),L[h]≠t)/\e=.returned (.int .i64 a))/\Below w.heap.size w w'
def qyO (w:World) (i:Bool) (e:Ending) (w':World):Prop:=∃ h:Int,e=.returned (.int .i64 h)/\decide (0<=h)=i/\Below w.heap.size w w'
theorem qz2 {w w':World} {L:List Tr} {t:Tr} {e:Ending} (h:qxq w L t e w'):qyO w (decide (t∈L)) e w':=by
 obtain ⟨h | ⟨y,⟨z,E⟩,-,rfl⟩,j⟩:=h
 ·exact ⟨-1,h.2,by rw [Qh h.1];rfl,j⟩
 ·have q:t∈L:=by rw [<- E];exact QJ z
  exact ⟨y,rfl,(Qn (by omega)).trans (Qn q).symm,j⟩
theorem qg1 (A:Option Addr) (c:Nat) (L:List Tr) (ah:L.length<=maxLen) (t:Tr) (w:World) (H:qai w A L) :
  Calls prog 252 #[.slice A L.length c,.agg #[.int .i64 t.1,.int .i64 t.2.1,.int .i64 t.2.2]] w (qxq w L t):=by
 unfold maxLen at ah;obtain ⟨h,i,j⟩:=t;simp only;have aa:Below w.heap.size w (w.alloc (.cells #[.int .i64 h,.int .i64 i,.int .i64 j] 56)):=B0;have af:=J9 (H.below aa);have B0:=J9 aa;have ae:=J9 (Box.new w h i j 56);obtain ⟨E,Z⟩:=N9 (w.alloc (.cells #[.int .i64 h,.int .i64 i,.int .i64 j] 56));rw [Z] at af B0 ae;have ak:=J9 Z;clear H aa Z;obtain ⟨V,W⟩:=N9 (L.length);have ac:=J9 W;rw [W] at ah |-;clear W
 go_enter func252,ntmps252
 go_wp2;rw [ak.o]
 go_loopw [8] (fun M wr=>∃ a:Nat,a<=V/\M=.int .i64 a/\Hid (∀ e,e<a->∀ (B:e<L.length),L[e]≠(h,i,j))/\Hid (Below E.heap.size E wr)) (fun M _=>V - (intOf M).toNat)
 case atStart=>exact ⟨0,Qu _,rfl,fun e T=>by omega,Qc _ _⟩
 case round=>
  obtain ⟨a,ar,rfl,q,y⟩:=hrel;obtain ⟨ay,ax,aw⟩:=ae.o.below y.o;by_cases aB:a<V
  ·have z:a<L.length:=by have:=ac.o;omega
   obtain ⟨aA,au,aq,-,G,J,K⟩:=(af.o.below y.o).at_ z;subst aq;have O:=(fun X=>J9 (B0.o.trans ((y.o.trans (below_drewN wr E.heap.size X)).mono B0.o.size)));have U:=(fun X=>J9 (y.o.trans (below_drewN wr E.heap.size X)));by_cases k:L[a]=(h,i,j)
   ·have ad:Hid ((∃ T:a<L.length,L[a]=(h,i,j))/\∀ e,e<a->∀ (B:e<L.length),L[e]≠(h,i,j)):=⟨⟨z,k⟩,q.o⟩
    rw [k] at G J K;simp only at G J K;clear k z q;go_wp2
    go_quiet (fail)
    go_wp2;go_ret;exact ⟨.inr ⟨a,ad.o.1,ad.o.2,rfl⟩,(O _).o⟩
   ·have R2:Hid (∀ e,e<a+1->∀ (B:e<L.length),L[e]≠(h,i,j)):=fun e ai B=>by
     by_cases R:e=a
     ·subst R;exact k
     ·exact q.o e (by omega) B
    have n:=qlE (fun R=>k R.symm);obtain ⟨⟨ag,az,av⟩,aj⟩:=N9 (L[a]);rw [aj] at G J K n;simp only at G J K n;clear k aj z q;have an:ag=h->h=ag:=(fun T=>T.symm);clear an;rcases n with n | ⟨ab,n⟩ | ⟨ab,ap,n⟩
    ·go_wp2
     go_quiet (fail)
     go_wp2;go_roundw
     case rel=>exact ⟨a+1,by omega,by go_num,R2.o,(U _).o⟩
     case measure=>simp [intOf];omega
    ·subst ab
     go_wp2
     go_quiet (fail)
     go_wp2;go_roundw
     case rel=>exact ⟨a+1,by omega,by go_num,R2.o,(U _).o⟩
     case measure=>simp [intOf];omega
    ·subst ab
     subst ap;go_wp2
     go_quiet (fail)
     go_wp2;go_roundw
     case rel=>exact ⟨a+1,by omega,by go_num,R2.o,(U _).o⟩
     case measure=>simp [intOf];omega
  ·have am:Hid ((h,i,j)∉L):=fun ao=>by
    obtain ⟨e,ai,k⟩:=Ze ao;exact q.o e (by have:=ac.o;omega) ai k
   have O:=J9 (B0.o.trans (y.o.mono B0.o.size));clear q;go_wp2;go_ret;exact ⟨.inl ⟨am.o,rfl⟩,O.o⟩
theorem qig (A:Option Addr) (c:Nat) (L:List Tr) (U:L.length<=maxLen) (t:Tr) (w:World) (H:qai w A L) :
  Calls prog 254 #[.slice A L.length c,.agg #[.int .i64 t.1,.int .i64 t.2.1,.int .i64 t.2.2]] w fun e y=>e=.returned (.bool (decide (t∈L)))/\Below w.heap.size w y:=by
 obtain ⟨q,h,i⟩:=t;have z:Below w.heap.size w (w.alloc (.cells #[.int .i64 q,.int .i64 h,.int .i64 i] 56)):=B0;have E:=J9 (qg1 A c L U (q,h,i) _ (H.below z));have B0:=J9 z;have M:=J9 (E.o.mono (R':=fun e y=>qyO (w.alloc (.cells #[.int .i64 q,.int .i64 h,.int .i64 i] 56)) (decide ((q,h,i)∈L)) e y) (fun e y O=>qz2 O));clear E;obtain ⟨Z,J⟩:=N9 (decide ((q,h,i)∈L));rw [J] at M |-;clear z H J
 go_enter func254,ntmps254
 go_wp2_with fail
 refine M.o.mono ?_;rintro e W ⟨V,rfl,K,G⟩;have T:=J9 (B0.o.trans (G.mono B0.o.size));have N:=J9 K;clear G K;go_wp2;go_ret;exact ⟨qab N.o,T.o⟩
theorem qhW (x b:Tr) (w:World):(binOp .eql 56 (trV x) (trV b)).run prog w=.ok (.bool (decide (x=b))) w:=by
 obtain ⟨z,f,h⟩:=x;obtain ⟨q,y,e⟩:=b;simp only [trV]
 go_simp
 by_cases a:z=q
 ·by_cases c:f=y
  ·by_cases d:h=e
   ·simp [a,c,d]
   ·simp [a,c,d]
  ·simp [a,c]
 ·simp [a]
theorem qq3 (x b:Tr) (w:World):(binOp .neq 56 (trV x) (trV b)).run prog w=.ok (.bool (!decide (x=b))) w:=by
 obtain ⟨z,f,h⟩:=x;obtain ⟨q,y,e⟩:=b;simp only [trV]
 go_simp
 by_cases a:z=q
 ·by_cases c:f=y
  ·by_cases d:h=e
   ·simp [a,c,d]
   ·simp [a,c,d]
  ·simp [a,c]
 ·simp [a]
def opX (h:Int) (o:Tr):Tr:=
 if o=(1,4,0) then (2,if h=6 then 2 else 0,0) else if o=(1,5,0) then (2,if h=6 then 3 else 1,0) else if o=(3,2,0) then (3,h,0) else if o=(4,2,0) then (4,h,0) else o
theorem qpf (w:World) (o:Tr):∃ h,(w.alloc (.cells #[.int .i64 o.1,.int .i64 o.2.1,.int .i64 o.2.2] 56)).alloc (.cells #[.int .i64 0,.int .i64 0,.int .i64 0] 56)=h/\
  qaI h (w.heap.size+1)/\Below w.heap.size w h/\h.heap.size=w.heap.size+2/\h.heap[w.heap.size]?=some (.cells #[.int .i64 o.1,.int .i64 o.2.1,.int .i64 o.2.2] 56 (0,0)):=by
 refine ⟨_,rfl,?_,((B0 (w:=w))).alloc (by simp) _,by simp,(Below.heap_alloc _ _ _ (by simp)).trans (World.alloc_heap_new w _)⟩;have q:=World.alloc_heap_new (w.alloc (.cells #[.int .i64 o.1,.int .i64 o.2.1,.int .i64 o.2.2] 56)) (.cells #[.int .i64 0,.int .i64 0,.int .i64 0] 56);rw [QB] at q;exact q
theorem qxg (b:Nat) (K:Int) (aV:K=5\/K=6) (a c d:Int) (ax az ar aA:Bool) (a3:∀ w,(binOp .eql 56 (.agg #[.int .i64 a,.int .i64 c,.int .i64 d]) (.agg #[.int .i64 1,.int .i64 4,.int .i64 0])).run prog w=.ok (.bool ax) w) (a6:∀ w,(binOp .eql 56 (.agg #[.int .i64 a,.int .i64 c,.int .i64 d]) (.agg #[.int .i64 1,.int .i64 5,.int .i64 0])).run prog w=.ok (.bool az) w) (a5:∀ w,(binOp .eql 56 (.agg #[.int .i64 a,.int .i64 c,.int .i64 d]) (.agg #[.int .i64 3,.int .i64 2,.int .i64 0])).run prog w=.ok (.bool ar) w) (a8:∀ w,(binOp .eql 56 (.agg #[.int .i64 a,.int .i64 c,.int .i64 d]) (.agg #[.int .i64 4,.int .i64 2,.int .i64 0])).run prog w=.ok (.bool aA) w) (w:World) (aN:w.cell? ⟨b,6,none⟩=some (.int .i64 K)):Calls prog 256 #[.pointer (some ⟨b,0,none⟩),.agg #[.int .i64 a,.int .i64 c,.int .i64 d]] w (qb3 w (if ax then ((2,if K=6 then 2 else 0,0):Tr) else if az then (2,if K=6 then 3 else 1,0) else if ar then (3,K,0) else if aA then (4,K,0) else (a,c,d))):=by
 obtain ⟨aU,aQ,af,B0,aD,am⟩:=qpf w (a,c,d);have aM:=Qq w _ aN;have aL:=(B0.cell aM).trans aN;obtain ⟨h,aI⟩:=N9 (w.heap.size);rw [aI] at af B0 aD am;have a2:b<h:=by rw [<- aI];exact aM
 have q:=C9 am 0;have n:=C9 am 1;have u:=C9 am 2;obtain ⟨ak,aP⟩:=N9 (aU);rw [aP] at aQ af B0 aD q n u aL;clear am aP;have af:=J9 af;have B0:=J9 B0;have an:=J9 aI;have a9:=J9 a2;obtain ⟨aB,aE⟩:∃ aj:Int,(if K=6 then 2 else 0)=aj:=⟨_,rfl⟩;obtain ⟨v,aC⟩:∃ aj:Int,(if K=6 then 3 else 1)=aj:=⟨_,rfl⟩;obtain ⟨Z,aF⟩:∃ aj:Int,K=aj:=⟨_,rfl⟩;rw [aE,aC,aF];have aR:=J9 aF;obtain ⟨a7,aK⟩:=N9 ((if ax then ((2,aB,0):Tr) else if az then (2,v,0) else if ar then (3,Z,0) else if aA then (4,Z,0) else (a,c,d)));rw [aK];have HR:=J9 aK;clear aK;have a1:=J9 aE;have aY:=J9 aC;clear aM aN aE aC aF;rcases aV with rfl | rfl
 all_goals
  go_enter func256,ntmps256
  go_wp2_with fail
  refine (register_any _ ak).mono ?_;rintro ac M ⟨rfl,e⟩;have aw:Hid (qaI M (h+1)):=af.o.below e;have ao:=J9 (B0.o.trans (e.mono (by omega)));have aT:h+2<=M.heap.size:=by have:=e.size;omega
  have aJ:=(e.cell (show b<ak.heap.size by omega)).trans aL;have G:=(e.cell (show h<ak.heap.size by omega)).trans q;have z:=(e.cell (show h<ak.heap.size by omega)).trans n;have J:=(e.cell (show h<ak.heap.size by omega)).trans u;clear q n u;have q:=G;have n:=z;have u:=J;clear G z J e af B0 aD aL aQ;simp only [trV];cases ax
  rotate_left
  ·go_wp2_with fail
   refine Calls.mono (?_:Calls _ _ _ _ (qb3 M (2,aB,0))) ?_
   ·rw [<- a1.o];exact qmN _ M
   rintro ac E ⟨rfl,e⟩;have ad:Hid (qaI E (h+1)):=aw.o.below e;have ag:=J9 (ao.o.trans (e.mono (by omega)));clear e aw ao aJ q n u;simp only [trV];obtain ⟨aq,ap,ay,av⟩:=ad.o.cells;go_wp2;obtain ⟨au,W,i,U,-⟩:=qaP ad.o 2 aB 0;rw [W];have T:=C9 i 0;have O:=C9 i 1;have V:=C9 i 2;refine bodyPost_ret (v:=trV (2,aB,0)) ?_ rfl ?_
   ·simp [results,results256,go_sem,T,O,V,trV]
   ·exact ⟨by rw [<- HR.o];rfl,by rw [an.o];exact ag.o.trans (U.mono (by omega))⟩
  go_wp2_with fail
  refine (register_any _ M).mono ?_;rintro ac E ⟨rfl,e⟩;have ad:Hid (qaI E (h+1)):=aw.o.below e;have ag:=J9 (ao.o.trans (e.mono (by omega)));have aX:h+2<=E.heap.size:=by have:=e.size;omega
  have aG:=(e.cell (show b<M.heap.size by omega)).trans aJ;have G:=(e.cell (show h<M.heap.size by omega)).trans q;have z:=(e.cell (show h<M.heap.size by omega)).trans n;have J:=(e.cell (show h<M.heap.size by omega)).trans u;clear q n u;have q:=G;have n:=z;have u:=J;clear G z J e aw ao aT aJ;simp only [trV];cases az
  rotate_left
  ·go_wp2_with fail
   refine Calls.mono (?_:Calls _ _ _ _ (qb3 E (2,v,0))) ?_
   ·rw [<- aY.o];exact qmN _ E
   rintro ac y ⟨rfl,e⟩;have aa:Hid (qaI y (h+1)):=ad.o.below e;have ah:=J9 (ag.o.trans (e.mono (by omega)));clear e ad ag aG q n u;simp only [trV];obtain ⟨aq,ap,ay,av⟩:=aa.o.cells;go_wp2;obtain ⟨au,W,i,U,-⟩:=qaP aa.o 2 v 0;rw [W];have T:=C9 i 0;have O:=C9 i 1;have V:=C9 i 2;refine bodyPost_ret (v:=trV (2,v,0)) ?_ rfl ?_
   ·simp [results,results256,go_sem,T,O,V,trV]
   ·exact ⟨by rw [<- HR.o];rfl,by rw [an.o];exact ah.o.trans (U.mono (by omega))⟩
  go_wp2_with fail
  refine (pair_any _ E).mono ?_;rintro ac y ⟨rfl,e⟩;have aa:Hid (qaI y (h+1)):=ad.o.below e;have ah:=J9 (ag.o.trans (e.mono (by omega)));have a0:h+2<=y.heap.size:=by have:=e.size;omega
  have aH:=(e.cell (show b<E.heap.size by omega)).trans aG;have G:=(e.cell (show h<E.heap.size by omega)).trans q;have z:=(e.cell (show h<E.heap.size by omega)).trans n;have J:=(e.cell (show h<E.heap.size by omega)).trans u;clear q n u;have q:=G;have n:=z;have u:=J;clear G z J e ad ag aX aG;simp only [trV];cases ar
  rotate_left
  ·go_wp2_with fail
   refine Calls.mono (?_:Calls _ _ _ _ (qb3 y (3,Z,0))) ?_
   ·rw [<- aR.o];exact pair_any _ y
   rintro ac ae ⟨rfl,e⟩;have ab:Hid (qaI ae (h+1)):=aa.o.below e;have ai:=J9 (ah.o.trans (e.mono (by omega)));clear e aa ah aH q n u;simp only [trV];obtain ⟨aq,ap,ay,av⟩:=ab.o.cells;go_wp2;obtain ⟨au,W,i,U,-⟩:=qaP ab.o 3 Z 0;rw [W];have T:=C9 i 0;have O:=C9 i 1;have V:=C9 i 2;refine bodyPost_ret (v:=trV (3,Z,0)) ?_ rfl ?_
   ·simp [results,results256,go_sem,T,O,V,trV]
   ·exact ⟨by rw [<- HR.o];rfl,by rw [an.o];exact ai.o.trans (U.mono (by omega))⟩
  go_wp2_with fail
  refine (tpointer_any _ y).mono ?_;rintro ac ae ⟨rfl,e⟩;have ab:Hid (qaI ae (h+1)):=aa.o.below e;have ai:=J9 (ah.o.trans (e.mono (by omega)));have a4:h+2<=ae.heap.size:=by have:=e.size;omega
  have aS:=(e.cell (show b<y.heap.size by omega)).trans aH;have G:=(e.cell (show h<y.heap.size by omega)).trans q;have z:=(e.cell (show h<y.heap.size by omega)).trans n;have J:=(e.cell (show h<y.heap.size by omega)).trans u;clear q n u;have q:=G;have n:=z;have u:=J;clear G z J e aa ah a0 aH;simp only [trV];cases aA
  rotate_left
  ·go_wp2_with fail
   refine Calls.mono (?_:Calls _ _ _ _ (qb3 ae (4,Z,0))) ?_
   ·rw [<- aR.o];exact tpointer_any _ ae
   rintro ac aZ ⟨rfl,e⟩;have aO:Hid (qaI aZ (h+1)):=ab.o.below e;have aW:=J9 (ai.o.trans (e.mono (by omega)));clear e ab ai aS q n u;simp only [trV];obtain ⟨aq,ap,ay,av⟩:=aO.o.cells;go_wp2;obtain ⟨au,W,i,U,-⟩:=qaP aO.o 4 Z 0;rw [W];have T:=C9 i 0;have O:=C9 i 1;have V:=C9 i 2;refine bodyPost_ret (v:=trV (4,Z,0)) ?_ rfl ?_
   ·simp [results,results256,go_sem,T,O,V,trV]
   ·exact ⟨by rw [<- HR.o];rfl,by rw [an.o];exact aW.o.trans (U.mono (by omega))⟩
  obtain ⟨aq,ap,ay,av⟩:=ab.o.cells;go_wp2;obtain ⟨au,W,i,U,-⟩:=qaP ab.o a c d;rw [W];have T:=C9 i 0;have O:=C9 i 1;have V:=C9 i 2;refine bodyPost_ret (v:=trV (a,c,d)) ?_ rfl ?_
  ·simp [results,results256,go_sem,T,O,V,trV]
  ·exact ⟨by rw [<- HR.o];rfl,by rw [an.o];exact ai.o.trans (U.mono (by omega))⟩
theorem qpr (b:Nat) (h:Int) (y:h=5\/h=6) (o:Tr) (w:World) (z:w.cell? ⟨b,6,none⟩=some (.int .i64 h)):Calls prog 256 #[.pointer (some ⟨b,0,none⟩),trV o] w (qb3 w (opX h o)):=by
 have q:=qxg b h y o.1 o.2.1 o.2.2 _ _ _ _ (fun w=>qhW o (1,4,0) w) (fun w=>qhW o (1,5,0) w) (fun w=>qhW o (3,2,0) w) (fun w=>qhW o (4,2,0) w) w z;simp only [Qf] at q;exact q
end Go.Proofs.YtecpnfhpcamljaaGreatDoor
