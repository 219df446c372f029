/-
  SeE, SeF, SeRe, InM, InL, InR, InC.
-/
import Derived.Test.YtecpnfhpcamljaaGreatDoorKAH
import Derived.Test.YtecpnfhpcamljaaGreatDoorKAZ
import Derived.Great.FillDense
set_option linter.all false
set_option maxRecDepth 100000
set_option maxHeartbeats 4000000
namespace Go.Proofs.YtecpnfhpcamljaaGreatDoor
open Tryz
open Go.RowKit
attribute [local go_sem] Oper.semAt_some
theorem ql1 {h:List Int} {L:List Tr} (q:atV h L=none):atI h L=-1:=by unfold atI;rw [q]
theorem qlX {h:List Int} {L:List Tr} {k:Nat} (q:atV h L=some k):atI h L=(k:Int):=by unfold atI;rw [q]
theorem getD_at {L:List Tr} {k:Nat} (h:k<L.length):L.getD k tr0=L[k]:=by rw [Ql,Qg h];rfl
theorem qs7 (x:Vr) (v:Value) (s:ByteArray) (A:Option Addr) (cap l:Nat) (L:List Tr) (ar:L.length=l) (aw:l<=1000) (w:World) (O:qdV w v x) (H:qai w A L) :
  Calls prog 158 #[v,.agg #[.string s,.slice A l cap]] w fun b ao=>b=.returned (.int .i64 (qcX x.1 L))/\Below w.heap.size w ao:=by
 have au:=O;obtain ⟨W,V,M,ax,ay,rfl,-⟩:=au;obtain ⟨y,K⟩:=N9 ((w.alloc (.cells #[.func (.func 227) #[] #[.pointer (some ⟨W,0,none⟩)],.func (.func 229) #[] #[.pointer (some ⟨V,0,none⟩),.pointer (some ⟨M,0,none⟩)]] 199)).alloc (.cells #[.string s,.slice A l cap] 24));obtain ⟨q,h⟩:=N9 (w.heap.size);have G:Below q w y:=by rw [<- K,<- h];exact ((B0 (w:=w))).alloc (by simp) _
 have aB:y.heap.size=q+1+1:=by rw [<- K,<- h];simp
 have U:y.heap[q]?=some (.cells #[.func (.func 227) #[] #[.pointer (some ⟨W,0,none⟩)],.func (.func 229) #[] #[.pointer (some ⟨V,0,none⟩),.pointer (some ⟨M,0,none⟩)]] 199 (0,0)):=by
  rw [<- K,<- h];exact (Below.heap_alloc _ _ _ (by simp)).trans (World.alloc_heap_new w _)
 have k:y.heap[q+1]?=some (.cells #[.string s,.slice A l cap] 24 (0,0)):=by
  rw [<- K,<- h];have ah:=World.alloc_heap_new (w.alloc (.cells #[.func (.func 227) #[] #[.pointer (some ⟨W,0,none⟩)],.func (.func 229) #[] #[.pointer (some ⟨V,0,none⟩),.pointer (some ⟨M,0,none⟩)]] 199)) (.cells #[.string s,.slice A l cap] 24)
  rwa [QB] at ah
 have n:=J9 (qqR x _ s A cap l L ar aw y (O.below (by rw [h];exact G)) (H.below (by rw [h];exact G)));have aa:=J9 h;have B0:=J9 G;have ai:=J9 k;have ak:=J9 H;have Z:=C9 U 0;have ac:=C9 U 1;have ab:=C9 k 0;have ad:=C9 k 1;clear H O G U k;cases b:atV x.1 L with
 | none=>
  have E:Hid (qcX x.1 L=0):=by show qcX x.1 L=0;unfold qcX;rw [b]
  rw [ql1 b] at n;clear b
  go_enter func158,ntmps158
  go_wp2_with fail
  refine n.o.mono ?_;rintro b an ⟨rfl,e⟩;have T:=J9 (B0.o.trans (e.mono (by omega)));clear e n Z ac ab ad;go_wp2;go_ret;exact ⟨by rw [E.o];rfl,by rw [aa.o];exact T.o⟩
 | some z=>
  have af:=qc6 b;have aD:z<l:=by omega
  have E:Hid (qcX x.1 L=L[z].2.2):=by show qcX x.1 L=_;unfold qcX;rw [b];simp only;rw [getD_at af]
  rw [qlX b] at n;obtain ⟨ag,ap,rfl,e,aj,am,J⟩:=(ak.o.below (by rw [h];exact B0.o)).at_ af;have av:=J9 J;have aq:=J9 e;have aC:(z:Int)<(l:Int):=by omega
  clear b aj am J e
  go_enter func158,ntmps158
  go_wp2_with fail
  refine n.o.mono ?_;rintro b an ⟨rfl,e⟩;have T:=J9 (B0.o.trans (e.mono (by omega)));have k:=(e.block (q+1) (by omega)).trans ai.o;have az:=C9 k 1;have J:=(e.cell (p:=⟨ag,ap+z*3+2,none⟩) aq.o).trans av.o;obtain ⟨aA,ae⟩:=N9 (L[z].2.2);rw [ae] at J E;clear e n k ae Z ac ab ad;go_wp2;go_ret;exact ⟨by rw [E.o];rfl,by rw [aa.o];exact T.o⟩
theorem qti {w:World} {B g cap l:Nat} {L:List Tr} (y:qaf w B (.slice (some ⟨g,0,none⟩) l cap) L) (h:L.length=l) (k:Nat) (q:k<L.length) (n:Int):qaf (w.setCell ⟨g,k*3+2,none⟩ (.int .i64 n)) B (.slice (some ⟨g,0,none⟩) l cap) (qsF L k n):=by
 refine y.put h (by unfold qsF;rw [List.length_set];exact h) (k*3+2) _ ?_;unfold qsF;rw [getD_at q];exact (qeb L k _ _ n q rfl rfl).symm
theorem qtp {w:World} {v:Value} {x:Vr} (K:qdV w v x) {g:Nat} {O:Array Value} (y:w.heap[g]?=some (.cells O 56 (0,0))) (E q:Nat) (j:Nat) (u:Value) {M:Nat}
  (e:v=.agg #[.func (.func 227) #[] #[.pointer (some ⟨M,0,none⟩)],.func (.func 229) #[] #[.pointer (some ⟨E,0,none⟩),.pointer (some ⟨q,0,none⟩)]]) :
  Boxed (w.setCell ⟨g,j,none⟩ u) E 3 (.int .i64 x.2.1)/\Boxed (w.setCell ⟨g,j,none⟩ u) q 3 (.int .i64 x.2.2):=by
 subst e;obtain ⟨W,aa,V,ac,T,e,U,ab,A,z,Z⟩:=K;cases e;have G:∀ {b:Nat} {h:Value},Boxed w b 3 h->b≠g:=fun {b h} J=>by
  rintro rfl;rw [show w.heap[b]?=_ from J] at y;simp at y
 exact ⟨(heap_setCell_other w ⟨g,j,none⟩ _ u (G A)).trans A,(heap_setCell_other w ⟨g,j,none⟩ _ u (G z)).trans z⟩
theorem qbf {w w':World} (h:Below w.heap.size w w') (row:Option Nat):w.grownBy w' row:=⟨h.os,h.tape,h.output,h.size,fun k q _=>h.block k q⟩
theorem qaO (w:World) (b i:Nat) (v:Value):w.grownBy (w.setCell ⟨b,i,none⟩ v) (some b):=
 ⟨rfl,rfl,rfl,by simp,fun e q k=>heap_setCell_other w ⟨b,i,none⟩ e v (fun h=>k (by rw [h]))⟩
theorem qo7 (x:Vr) (v:Value) (s:ByteArray) (A:Option Addr) (cap l B:Nat) (L:List Tr) (an:L.length=l) (aH:l<=1000) (e:Int) (w:World) (W:qdV w v x) (H:qaf w B (.slice A l cap) L) (aR:B<=w.heap.size) :
  Calls prog 196 #[v,.agg #[.string s,.slice A l cap],.int .i64 e] w fun g au=>g=.returned (.bool (qcA x L e))/\qaf au B (.slice A l cap) (qdC x.1 L e)/\w.grownBy au (Value.slice A l cap).ownBlock:=by
 have aO:=W;obtain ⟨ag,K,M,a0,a7,rfl,-⟩:=aO;obtain ⟨E,U⟩:=N9 ((w.alloc (.cells #[.func (.func 227) #[] #[.pointer (some ⟨ag,0,none⟩)],.func (.func 229) #[] #[.pointer (some ⟨K,0,none⟩),.pointer (some ⟨M,0,none⟩)]] 199)).alloc (.cells #[.string s,.slice A l cap] 24));obtain ⟨n,G⟩:=N9 (w.heap.size);have ao:Below n w E:=by rw [<- U,<- G];exact ((B0 (w:=w))).alloc (by simp) _
 have aX:E.heap.size=n+1+1:=by rw [<- U,<- G];simp
 have u:E.heap[n]?=some (.cells #[.func (.func 227) #[] #[.pointer (some ⟨ag,0,none⟩)],.func (.func 229) #[] #[.pointer (some ⟨K,0,none⟩),.pointer (some ⟨M,0,none⟩)]] 199 (0,0)):=by
  rw [<- U,<- G];exact (Below.heap_alloc _ _ _ (by simp)).trans (World.alloc_heap_new w _)
 have q:E.heap[n+1]?=some (.cells #[.string s,.slice A l cap] 24 (0,0)):=by
  rw [<- U,<- G];have aJ:=World.alloc_heap_new (w.alloc (.cells #[.func (.func 227) #[] #[.pointer (some ⟨ag,0,none⟩)],.func (.func 229) #[] #[.pointer (some ⟨K,0,none⟩),.pointer (some ⟨M,0,none⟩)]] 199)) (.cells #[.string s,.slice A l cap] 24)
  rwa [QB] at aJ
 have O:Below w.heap.size w E:=by rw [G];exact ao
 have ad:=W.below O;have af:=H.below O;have aC:qai E A L:=by
  obtain ⟨aZ,aD,g,aE,-⟩:=af.ops;simp only [Qy] at g;rw [g.1];exact aE
 have J:=J9 (qqR x _ s A cap l L an aH E ad aC);have a8:=J9 G;have aA:=J9 (qbf O (Value.slice A l cap).ownBlock);have aK:=J9 u;have aF:=J9 q;have aI:=J9 ad;have az:=J9 af;have aS:Hid (B<=n):=by show B<=n;omega
 have ah:=C9 u 0;have ax:=C9 u 1;have ai:=C9 q 0;have ap:=C9 q 1;clear H W ao u q ad af aC O aR;cases g:atV x.1 L with
 | none=>
  have ab:Hid (qdC x.1 L e=L):=by show qdC x.1 L e=L;unfold qdC;rw [g]
  have aa:Hid (decide (e=0)=qcA x L e):=by show _=qcA x L e;unfold qcA;rw [g]
  rw [ql1 g] at J;clear g
  go_enter func196,ntmps196
  go_wp2_with fail
  refine J.o.mono ?_;rintro g y ⟨rfl,h⟩;have Z:Hid (w.grownBy y (Value.slice A l cap).ownBlock):=World.grownBy.trans aA.o (qbf h _);have aL:=J9 (az.o.below h);clear h J ah ax ai ap;go_wp2;go_ret;exact ⟨qab aa.o,by rw [ab.o];exact aL.o,Z.o⟩
 | some k=>
  have aq:=qc6 g;have a3:k<l:=by omega
  have ab:Hid (qdC x.1 L e=qsF L k e):=by show qdC x.1 L e=_;unfold qdC;rw [g]
  have aa:Hid (inV x e=qcA x L e):=by show _=qcA x L e;unfold qcA;rw [g]
  rw [qlX g] at J;have bb:(k:Int)<(l:Int):=by omega
  have ae:=J9 aq;clear g aq
  go_enter func196,ntmps196
  go_wp2_with fail
  refine J.o.mono ?_;rintro g y ⟨rfl,h⟩;have Z:Hid (w.grownBy y (Value.slice A l cap).ownBlock):=World.grownBy.trans aA.o (qbf h _);have u:=(h.block n (by omega)).trans aK.o;have q:=(h.block (n+1) (by omega)).trans aF.o;have ac:=az.o.below h;have av:=aI.o.below h;obtain ⟨z,aD,aw,a1,⟨a4,T⟩,ar,ay⟩:=ac.form (by have:=ae.o;omega);simp only [Qy] at aw;obtain ⟨rfl,-,rfl⟩:=aw;have aB:=(ar k ae.o).2.2;have a6:=ay (k*3+2);have aU:z≠n:=by
   rintro rfl;rw [T] at u;simp at u
  have a5:z≠n+1:=by
   rintro rfl;rw [T] at q;simp at q
  have aW:=C9 q 1;have am:=(heap_setCell_other y ⟨z,k*3+2,none⟩ n (.int .i64 e) (Ne.symm aU)).trans u;have a2:=C9 am 1;have V:=qtp av T K M (k*3+2) (.int .i64 e) rfl;have ak:=J9 (qoj K M x e _ V.1 V.2);have aQ:=J9 (qti ac an k ae.o e);have aM:Hid (w.grownBy (y.setCell ⟨z,k*3+2,none⟩ (.int .i64 e)) (some z)):=World.grownBy.trans Z.o (qaO y z (k*3+2) (.int .i64 e));obtain ⟨aV,aj⟩:=N9 (L[k].2.2);have aP:=h.size;have a9:Hid (B<=y.heap.size):=by have:=aS.o;show B<=_;omega
  clear ah ax ai ap h J u q ac av ar ay T am V aP;have aY:y.cell? ⟨z,k*3+2,none⟩=some (.int .i64 aV):=by rw [<- aj];exact aB
  clear aB aj
  go_wp2_with fail
  refine ak.o.mono ?_;rintro g aG ⟨rfl,h⟩;have aN:Hid (w.grownBy aG (some z)):=World.grownBy.trans aM.o (qbf h _);have aT:=J9 (aQ.o.below h);clear h ak;go_wp2;go_ret;exact ⟨qab aa.o,by rw [ab.o];exact aT.o,aN.o⟩
end Go.Proofs.YtecpnfhpcamljaaGreatDoor
namespace Go.Proofs.YtecpnfhpcamljaaGreatDoor
open Tryz
open Go.RowKit Go.Shelf
attribute [local go_sem] Oper.semAt_some
def qla (w:World) (m:Str) (o:Option (List Tr)) (e:Ending) (w':World):Prop:=match o with
 | some q=>∃ h,e=.returned (.tuple #[.agg #[.string (upB (sB m)),h],.bool true])/\qaf w' w.heap.size h q/\Below w.heap.size w w'
 | none=>e=.returned (.tuple #[.agg #[.string ⟨#[]⟩,.slice none 0 0],.bool false])/\Below w.heap.size w w'
theorem qta (h:List Int) (L:List Tr) (n:Int):(qdC h L n).length=L.length:=qar (qaT h L n)
theorem qhw {w1:World} {f g y q:Value} {x G:Vr} (z:qdV w1 (.agg #[f,g]) x) (J:qdV w1 (.agg #[y,q]) G) (b:Nat) (K:w1.heap.size=b) :
  ∃ h,(w1.alloc (.cells #[f,g] 199)).alloc (.cells #[y,q] 199)=h/\
   h.heap[b]?=some (.cells #[f,g] 199 (0,0))/\h.heap[b+1]?=some (.cells #[y,q] 199 (0,0))/\qdV h (.agg #[f,g]) x/\qdV h (.agg #[y,q]) G/\Below w1.heap.size w1 h/\h.heap.size=b+2:=by
 subst K;have E:Below w1.heap.size w1 ((w1.alloc (.cells #[f,g] 199)).alloc (.cells #[y,q] 199)):=((B0 (w:=w1))).alloc (by simp) _;refine ⟨_,rfl,(Below.heap_alloc _ _ _ (by simp)).trans (World.alloc_heap_new w1 _),?_,z.below E,J.below E,E,by simp⟩;have z:=World.alloc_heap_new (w1.alloc (.cells #[f,g] 199)) (.cells #[y,q] 199)
 rwa [QB] at z
theorem qiv (h:World) (u:ByteArray) (v:Value) (c:Nat) (y:h.heap.size=c):∃ q,h.alloc (.cells #[.string u,v] 24)=q/\q.heap[c]?=some (.cells #[.string u,v] 24 (0,0))/\Below h.heap.size h q/\q.heap.size=c+1:=by
 subst y;exact ⟨_,rfl,World.alloc_heap_new h _,(B0 (w:=h)),by simp⟩
theorem qmd (ad ac:Int) (m:Str) (cg:m.length<=1000) (A:Option Addr) (cap l:Nat) (L:List Tr) (aw:L.length=l) (bc:l<=1000) (ex:Str) (bQ:ex.length<=1000) (al:Bool) (d n:Int) (w:World) (H:qai w A L) :
  Calls prog 157 #[enV ad ac m (.slice A l cap) ex al,.int .i64 d,.int .i64 n] w (qla w m (qaW ex L d n)):=by
 have Z:=fun w=>qew ad ac m A l cap ex bQ al w
 have aZ:=fun w q=>qmn (sB m) (by rw [qaB];unfold maxLen;omega) A cap L (by omega) w q
 rw [aw] at aZ;obtain ⟨E,aV⟩:=N9 ((varsV ex).1);obtain ⟨J,aO⟩:=N9 ((varsV ex).2);have aT:Hid (qaW ex L d n=if qcA E L d=true/\qcA J (qdC E.1 L d) n=true then some (qdC J.1 (qdC E.1 L d) n) else none):=by show _=_;rw [<- aV,<- aO];rfl
 unfold qkD at Z;rw [aV,aO] at Z;clear aV aO;unfold enV at Z |-;obtain ⟨U,ae⟩:=N9 ((w.alloc (.cells #[.int .i64 ad,.int .u8 ac,.string (sB m),.slice A l cap,.string (sB ex),.bool al] 88)).alloc (.cells #[.string ⟨#[]⟩,.slice none 0 0] 24));obtain ⟨b,W⟩:=N9 (w.heap.size);have aQ:Below b w U:=by rw [<- ae,<- W];exact ((B0 (w:=w))).alloc (by simp) _
 have a7:U.heap.size=b+1+1:=by rw [<- ae,<- W];simp
 have h:U.heap[b]?=some (.cells #[.int .i64 ad,.int .u8 ac,.string (sB m),.slice A l cap,.string (sB ex),.bool al] 88 (0,0)):=by
  rw [<- ae,<- W];exact (Below.heap_alloc _ _ _ (by simp)).trans (World.alloc_heap_new w _)
 have aa:U.heap[b+1]?=some (.cells #[.string ⟨#[]⟩,.slice none 0 0] 24 (0,0)):=by
  rw [<- ae,<- W];have q:=World.alloc_heap_new (w.alloc (.cells #[.int .i64 ad,.int .u8 ac,.string (sB m),.slice A l cap,.string (sB ex),.bool al] 88)) (.cells #[.string ⟨#[]⟩,.slice none 0 0] 24)
  rwa [QB] at q
 have bf:=J9 (Z U);have br:=J9 aZ;have aF:=J9 W;have B0:=J9 aQ;have aU:=J9 h;have ao:=J9 aa;have a8:=J9 (H.below (by rw [W];exact aQ));have bJ:=C9 h 0;have bw:=C9 h 1;have aW:=C9 h 2;have a3:=C9 h 3;have bW:=C9 h 4;have bA:=C9 h 5;clear Z aZ h aa aQ H
 go_enter func157,ntmps157
 go_wp2_with fail
 refine bf.o.mono ?_;rintro k bC ⟨b5,ce,b4,cf,rfl,aX,aR,az⟩;obtain ⟨b9,ch,ca,bR,bH⟩:=aX.form;obtain ⟨bZ,bD,bu,bL,bV⟩:=aR.form;subst bR bH bL bV;obtain ⟨c,bG⟩:=N9 (bC.heap.size);have bI:b+2<=c:=by have:=az.size;omega
 obtain ⟨aJ,b1,bo,bl,bn,a5,a0,aA⟩:=qhw aX aR c bG;have a4:=J9 (B0.o.trans (az.mono (by omega)));have bj:=J9 (a4.o.trans (a0.mono (by omega)));have aG:Below (b+1+1) U aJ:=(az.mono (by omega)).trans (a0.mono (by omega));have h:=(aG.block b (by omega)).trans aU.o;have aa:=(aG.block (b+1) (by omega)).trans ao.o;have bg:=J9 (a8.o.below (by rw [a7];exact aG));have a9:=J9 bo;have bd:=J9 bl;have bb:=J9 bn;have bp:=J9 a5;have mk:=br.o aJ bg.o;have aU:=J9 h;have ao:=J9 aa;clear bJ bw aW a3 bW bA bf aX aR az bo bl bn a5 a0 aG a8 B0 br ae a7
 go_upto_region 2 with fail
 have aW:=C9 h 2;have a3:=C9 h 3;clear h aa
 go_wp2_with fail
 refine mk.mono ?_;rintro k bi ⟨v,rfl,aB,ax⟩;obtain ⟨f,g,bh,-,-⟩:=aB.ops;rw [aw] at bh;subst bh;obtain ⟨G,aL⟩:=N9 (upB (sB m));obtain ⟨M,bO⟩:=N9 (bi.heap.size);obtain ⟨av,b6,a6,aM,b0⟩:=qiv bi G (.slice f l g) M bO;rw [aL];have O:=ax.trans (aM.mono ax.size);have b2:c+2<=M:=by have:=ax.size;omega
 have bS:=J9 O;have bz:=J9 (bj.o.trans (O.mono (by omega)));have bt:=J9 ((O.block c (by omega)).trans a9.o);have bE:=J9 ((O.block (c+1) (by omega)).trans bd.o);have aS:=J9 a6;have bP:=J9 ((O.block (b+1) (by omega)).trans ao.o);have bq:=bb.o.below O;have b7:=J9 (bp.o.below O);have be:qaf av (c+2) (.slice f l g) L:=by have q:=qaf.below aB aM;rw [aA] at q;exact q
 have W2:Hid (qdV aJ _ J):=bp;have aI:=J9 (qo7 E _ G f g l (c+2) L aw bc d av bq be (by omega));have an:Hid (∀ aj,(Value.slice f l g).ownBlock=some aj->c+2<=aj/\aj<M):=fun aj k=>by
  have q:=(World.ownsRow.lt aB aj k);rw [aA] at q;omega
 have bx:=J9 aA;have bv:=J9 aL;have ar:=C9 bt.o 0;have ap:=C9 bt.o 1;have aq:=C9 aS.o 0;have aH:=C9 aS.o 1;clear mk aB ax a6 aM O bq a9 bd bb bg a4 bj aA aW a3 aU ao be aL
 go_upto_region 3 with fail
 go_wp2_with fail
 refine aI.o.mono ?_;rintro k z ⟨rfl,aY,T⟩;have V:∀ K,K<c+2->some K≠(Value.slice f l g).ownBlock:=fun K cc k=>by have:=(an.o K k.symm).1;omega
 have ag:some M≠(Value.slice f l g).ownBlock:=fun k=>by have:=(an.o M k.symm).2;omega
 have au:=(T.block (c+1) (by omega) (V _ (by omega))).trans bE.o;have x:=(T.block M (by omega) ag).trans aS.o;have e:=(T.block (b+1) (by omega) (V _ (by omega))).trans bP.o;have ay:Below (c+2) av z:=(Qc _ av).grown T (by omega) fun K k=>(an.o K k).1
 have bm:=J9 (bz.o.trans (ay.mono (by omega)));have bY:M+1<=z.heap.size:=by have:=T.size;omega
 have aK:qdV z (.agg #[.func (.func 227) #[] #[.pointer (some ⟨bZ,0,none⟩)],.func (.func 229) #[] #[.pointer (some ⟨bD,0,none⟩),.pointer (some ⟨bu,0,none⟩)]]) J:=W2.o.below (bS.o.trans (by rw [bx.o];exact ay));cases aD:qcA E L d with
 | false=>
  have a2:Hid (qaW ex L d n=none):=by show _=_;rw [aT.o,Qe (by rw [aD];exact fun q=>absurd q.1 (by decide))]
  have bT:=C9 e 0;have bU:=C9 e 1;have bB:=Qp e;have aE:=J9 e;clear aD au x aK aY T ay aI ar ap aq aH e V ag;go_wp2;have af:Hid (Below b w ((z.setCell ⟨b+1,0,none⟩ (.string ⟨#[]⟩)).setCell ⟨b+1,1,none⟩ (.slice none 0 0))):=(bm.o.setCell (p:=⟨b+1,0,none⟩) (show b<=b+1 by omega) _).setCell (p:=⟨b+1,1,none⟩) (show b<=b+1 by omega) _;have u:((z.setCell ⟨b+1,0,none⟩ (.string ⟨#[]⟩)).setCell ⟨b+1,1,none⟩ (.slice none 0 0)).heap[b+1]?=some (.cells #[.string ⟨#[]⟩,.slice none 0 0] 24 (0,0)):=heap_setCell_same _ (b+1) 1 _ _ _ (heap_setCell_same z (b+1) 0 _ _ _ aE.o);obtain ⟨bs,am⟩:=N9 ((z.setCell ⟨b+1,0,none⟩ (.string ⟨#[]⟩)).setCell ⟨b+1,1,none⟩ (.slice none 0 0));rw [am] at af u |-;have ai:=C9 u 0;have ab:=C9 u 1;refine bodyPost_ret (v:=.tuple #[.agg #[.string ⟨#[]⟩,.slice none 0 0],.bool false]) ?_ rfl ?_
  ·simp [results,results157,go_sem,ai,ab]
  ·rw [a2.o]
   exact ⟨rfl,by rw [aF.o];exact af.o⟩
 | true=>
  have aN:=J9 (qo7 J _ G f g l (c+2) (qdC E.1 L d) (by rw [<- aw];exact qta _ _ _) bc n z aK aY (by omega));have bX:=J9 aD;have b8:=J9 bY;have bM:=J9 x;have bN:=J9 e;have ar:=C9 au 0;have ap:=C9 au 1;have aq:=C9 x 0;have aH:=C9 x 1;clear aD aK aY T ay aI au x e
  go_wp2_with fail
  refine aN.o.mono ?_;rintro k y ⟨rfl,a1,ah⟩;have x:=(ah.block M (by omega) ag).trans bM.o;have e:=(ah.block (b+1) (by omega) (V _ (by omega))).trans bN.o;have aP:Below (c+2) z y:=(Qc _ z).grown ah (by omega) fun K k=>(an.o K k).1
  have af:=J9 (bm.o.trans (aP.mono (by omega)));have bT:=C9 e 0;have bU:=C9 e 1;have bB:=Qp e;have aE:=J9 e;have bK:=J9 a1;have cd:=C9 x 0;have ci:=C9 x 1;have b3:Hid (b+2<=c):=bI;cases aC:qcA J (qdC E.1 L d) n with
  | false=>
   have a2:Hid (qaW ex L d n=none):=(by show _=_;rw [aT.o,Qe (by rw [aC];exact fun q=>absurd q.2 (by decide))]);clear aC ar ap aq aH x e aP aN a1 ah V ag;go_wp2;have ak:Hid (Below b w ((y.setCell ⟨b+1,0,none⟩ (.string ⟨#[]⟩)).setCell ⟨b+1,1,none⟩ (.slice none 0 0))):=(af.o.setCell (p:=⟨b+1,0,none⟩) (show b<=b+1 by omega) _).setCell (p:=⟨b+1,1,none⟩) (show b<=b+1 by omega) _;have u:((y.setCell ⟨b+1,0,none⟩ (.string ⟨#[]⟩)).setCell ⟨b+1,1,none⟩ (.slice none 0 0)).heap[b+1]?=some (.cells #[.string ⟨#[]⟩,.slice none 0 0] 24 (0,0)):=heap_setCell_same _ (b+1) 1 _ _ _ (heap_setCell_same y (b+1) 0 _ _ _ aE.o);obtain ⟨bs,am⟩:=N9 ((y.setCell ⟨b+1,0,none⟩ (.string ⟨#[]⟩)).setCell ⟨b+1,1,none⟩ (.slice none 0 0));rw [am] at ak u |-;have ai:=C9 u 0;have ab:=C9 u 1;refine bodyPost_ret (v:=.tuple #[.agg #[.string ⟨#[]⟩,.slice none 0 0],.bool false]) ?_ rfl ?_
   ·simp [results,results157,go_sem,ai,ab]
   ·rw [a2.o]
    exact ⟨rfl,by rw [aF.o];exact ak.o⟩
  | true=>
   have bF:Hid (qaW ex L d n=some (qdC J.1 (qdC E.1 L d) n)):=(by show _=_;rw [aT.o,Qi ⟨bX.o,aC⟩]);clear aC ar ap aq aH x e aP aN a1 ah V ag;go_wp2;have ak:Hid (Below b w ((y.setCell ⟨b+1,0,none⟩ (.string G)).setCell ⟨b+1,1,none⟩ (.slice f l g))):=(af.o.setCell (p:=⟨b+1,0,none⟩) (show b<=b+1 by omega) _).setCell (p:=⟨b+1,1,none⟩) (show b<=b+1 by omega) _;have u:((y.setCell ⟨b+1,0,none⟩ (.string G)).setCell ⟨b+1,1,none⟩ (.slice f l g)).heap[b+1]?=some (.cells #[.string G,.slice f l g] 24 (0,0)):=heap_setCell_same _ (b+1) 1 _ _ _ (heap_setCell_same y (b+1) 0 _ _ _ aE.o);have bk:Hid (qaf ((y.setCell ⟨b+1,0,none⟩ (.string G)).setCell ⟨b+1,1,none⟩ (.slice f l g)) b (.slice f l g) (qdC J.1 (qdC E.1 L d) n)):=
    row_mono (row_set (row_set bK.o (p:=⟨b+1,0,none⟩) (show b+1<c+2 by omega) _) (p:=⟨b+1,1,none⟩) (show b+1<c+2 by omega) _) (by omega)
   obtain ⟨bs,am⟩:=N9 ((y.setCell ⟨b+1,0,none⟩ (.string G)).setCell ⟨b+1,1,none⟩ (.slice f l g));rw [am] at ak u bk |-;have ai:=C9 u 0;have ab:=C9 u 1;refine bodyPost_ret (v:=.tuple #[.agg #[.string G,.slice f l g],.bool true]) ?_ rfl ?_
   ·simp [results,results157,go_sem,ai,ab]
   ·rw [bF.o]
    exact ⟨_,by rw [bv.o],by rw [aF.o];exact bk.o,by rw [aF.o];exact ak.o⟩
end Go.Proofs.YtecpnfhpcamljaaGreatDoor
namespace Go.Proofs.YtecpnfhpcamljaaGreatDoor
open Tryz
open Go.RowKit Go.Shelf
attribute [local go_sem] Oper.semAt_some
attribute [local irreducible] Go.Mixed.qAU
theorem qsw {m ex:Str} {L:List Tr} {s:ByteArray} {C:List Tr} {k:Nat} (q:k<C.length) (h:qgW ex L k (C.getD k tr0)=false):qa9 m L ex s C=false:=by
 unfold qa9;rw [show ((List.range C.length).all fun k=>qgW ex L k (C.getD k tr0))=false from List.all_eq_false.2 ⟨k,QZ.2 q,by rw [h];decide⟩];simp
theorem qqh {m ex:Str} {L:List Tr} {s:ByteArray} {C:List Tr} (h:qfg m L s C=true) (q:∀ k,k<C.length->qgW ex L k (C.getD k tr0)=true):qa9 m L ex s C=true:=by
 unfold qa9;rw [h,show ((List.range C.length).all fun k=>qgW ex L k (C.getD k tr0))=true from QA.2 fun k y=>q k (QZ.1 y)];rfl
theorem qkM (aw au:Int) (m:Str) (A:Option Addr) (cap l:Nat) (L:List Tr) (aQ:L.length=l) (bs:l<=1000) (ex:Str) (bG:ex.length<=1000) (al:Bool) (s:ByteArray) (ax:Option Addr) (aG az:Nat) (I:List Tr) (bY:I.length=az) (cf:az<=900) (w:World) (H:qai w A L) (bu:qai w ax I) :
  Calls prog 45 #[enV aw au m (.slice A l cap) ex al,.agg #[.string s,.slice ax az aG]] w fun af x=>af=.returned (.bool (qa9 m L ex s (canL (opc s) I)))/\Below w.heap.size w x:=by
 have aK:=fun w b=>qiq s ax aG I (by omega) w b
 rw [bY] at aK;have bI:=qeA (opc s) I;obtain ⟨G,be⟩:=N9 (canL (opc s) I);rw [be] at aK bI;rw [be];obtain ⟨n,aZ⟩:=N9 (G.length);have b5:n<=1000:=by omega
 have a2:=fun M (a6:M<l) x b=>qhs aw au m A cap l L aQ bs ex bG al M a6 x b
 have bd:=fun aS R x e h=>qho aw au m A cap l L aQ bs ex al s aS R n G aZ b5 x e h
 unfold enV at a2 bd |-;obtain ⟨aD,aE⟩:=N9 ((w.alloc (.cells #[.int .i64 aw,.int .u8 au,.string (sB m),.slice A l cap,.string (sB ex),.bool al] 30)).alloc (.cells #[.string s,.slice ax az aG] 24));obtain ⟨q,ap⟩:=N9 (w.heap.size);have aR:Below q w aD:=by rw [<- aE,<- ap];exact ((B0 (w:=w))).alloc (by simp) _
 have bW:aD.heap.size=q+1+1:=by rw [<- aE,<- ap];simp
 have bo:aD.heap[q]?=some (.cells #[.int .i64 aw,.int .u8 au,.string (sB m),.slice A l cap,.string (sB ex),.bool al] 30 (0,0)):=by
  rw [<- aE,<- ap];exact (Below.heap_alloc _ _ _ (by simp)).trans (World.alloc_heap_new w _)
 have aX:aD.heap[q+1]?=some (.cells #[.string s,.slice ax az aG] 24 (0,0)):=by
  rw [<- aE,<- ap];have b:=World.alloc_heap_new (w.alloc (.cells #[.int .i64 aw,.int .u8 au,.string (sB m),.slice A l cap,.string (sB ex),.bool al] 30)) (.cells #[.string s,.slice ax az aG] 24)
  rwa [QB] at b
 have bM:=J9 (aK aD (bu.below (by rw [ap];exact aR)));have bZ:=J9 a2;have bK:=J9 bd;have aT:=J9 ap;have B0:=J9 aR;have bA:=J9 bo;have bp:=J9 (H.below (by rw [ap];exact aR));have bv:=J9 aQ;have aO:=J9 aZ;have b1:=C9 aX 0;have bP:=C9 aX 1;clear aK a2 bd bo aX aR H bu bG be bI aQ aZ
 go_enter func45,ntmps45
 go_wp2_with fail
 refine bM.o.mono ?_;rintro af aY ⟨b9,rfl,bF,K⟩;obtain ⟨aS,R,rfl,bx,-,-⟩:=bF.ops;rw [aO.o];have bn:=J9 (B0.o.trans (K.mono (by omega)));have bm:=J9 ((K.block q (by omega)).trans bA.o);have bJ:=J9 (bp.o.below K);have R1:=J9 bx;have bq:Hid (q+2<=aY.heap.size):=by have:=K.size;show _<=_;omega
 clear bM K bF bx B0 bA bp b1 bP aE bW
 go_upto_region 2 with fail
 obtain ⟨J,a1⟩:=N9 (aY.heap.size);obtain ⟨bV,bl,aL,E,bR⟩:=qiv aY s (.slice aS n R) J a1;rw [bl,a1];have ca:q+2<=J:=by have:=bq.o;omega
 have bD:=J9 (bn.o.trans (E.mono (by omega)));have a4:=J9 (bJ.o.below E);have R2:=J9 (R1.o.below E);have ae:=J9 ((E.block q (by omega)).trans bm.o);have bj:=J9 aL;have bt:=bK.o aS R bV a4.o R2.o;have a9:=C9 ae.o 0;have bh:=C9 ae.o 1;have a8:=C9 ae.o 2;have bg:=C9 ae.o 3;have aW:=C9 ae.o 4;have a3:=C9 ae.o 5;have bO:=C9 aL 0;have T:=C9 aL 1;clear bl a1 aL E bn bJ R1 bm bq bK
 go_wp2_with fail
 refine bt.mono ?_;rintro af U ⟨rfl,K⟩;have ao:=J9 (bD.o.trans (K.mono (by omega)));have bz:=J9 (a4.o.below K);have aJ:=J9 (R2.o.below K);have b3:=J9 ((K.block q (by omega)).trans ae.o);have bC:=J9 ((K.block J (by omega)).trans bj.o);have ag:Hid (J+1<=U.heap.size):=by have:=K.size;show _<=_;omega
 clear bt K bD a4 R2 ae bj a9 bh a8 bg aW a3 bO T bR;cases aI:qfg m L s G with
 | false=>
  have am:Hid (false=qa9 m L ex s G):=by show false=_;unfold qa9;rw [aI];rfl
  clear aI;go_wp2;go_ret;exact ⟨qab am.o,by rw [aT.o];exact ao.o⟩
 | true=>
  have b2:n=l:=by
   have e:=aI;unfold qfg at e;simp only [Qd,Qf] at e;have:=qar e.2;have:=bv.o;have:=aO.o;omega
  subst b2;have bU:=J9 aI;have T:=C9 bC.o 1;clear aI;go_wp2;clear T
  go_loopw [6] (fun a7 wr=>∃ k:Nat,k<=n/\a7=.int .i64 k/\Hid (∀ M,M<k->qgW ex L M (G.getD M tr0)=true)/\Hid (Below U.heap.size U wr)) (fun a7 _=>n - (intOf a7).toNat)
  case atStart=>exact ⟨0,Qu _,rfl,fun M b=>by omega,Qc _ _⟩
  case round=>
   obtain ⟨k,cc,rfl,aN,ai⟩:=hrel;have ad:=(ai.o.block q (by have:=ag.o;omega)).trans b3.o;have aU:=(ai.o.block J (by have:=ag.o;omega)).trans bC.o;have T:=C9 aU 1;have bL:Hid (Below q w wr):=ao.o.trans (ai.o.mono (by have:=ag.o;omega));by_cases b6:k<n
   ·have bb:k<L.length:=by have:=bv.o;omega
    have aP:k<G.length:=(by have:=aO.o;omega);have bc:=bZ.o k b6 wr (bz.o.below ai.o);have a9:=C9 ad 0;have bh:=C9 ad 1;have a8:=C9 ad 2;have bg:=C9 ad 3;have aW:=C9 ad 4;have a3:=C9 ad 5;have br:L.getD k tr0=L[k]:=(by rw [Ql,Qg bb];rfl);have bB:G.getD k tr0=G[k]:=(by rw [Ql,Qg aP];rfl);have a5:=J9 ad;have bf:=J9 aU;have aq:Hid (qgW ex L k (G.getD k tr0)=true->∀ M,M<k+1->qgW ex L M (G.getD M tr0)=true):=fun b M a6=>by
     by_cases af:M=k
     ·subst af;exact b
     ·exact aN.o M (by omega)
    have ay:Hid (qgW ex L k (G.getD k tr0)=false->qa9 m L ex s G=false):=(fun b=>qsw aP b);have an:Hid (qgW ex L k (G.getD k tr0)=if letR ex L k=0 then decide ((L.getD k tr0).2.2=(G.getD k tr0).2.2) else withR (letR ex L k) (G.getD k tr0).2.2):=(by show _=_;unfold qgW;rfl);obtain ⟨aj,bN⟩:=N9 (letR ex L k);rw [bN] at bc an;have b7:=qc2 aj 0;clear bN ad aU aN
    go_wp2_with fail
    refine bc.mono ?_;rintro af ar ⟨rfl,K⟩;have ak:=J9 (ai.o.trans (K.mono ai.o.size));have bk:=(K.block q (Qb.1 a5.o).1).trans a5.o;have bw:=(K.block J (Qb.1 bf.o).1).trans bf.o;obtain ⟨C,B,rfl,-,bT,b0,Z⟩:=(bz.o.below ak.o).at_ bb;obtain ⟨r,v,rfl,-,bQ,bX,W⟩:=(aJ.o.below ak.o).at_ aP;rw [<- br] at Z;rw [<- bB] at W;obtain ⟨O,bH⟩:=N9 ((L.getD k tr0).2.2);obtain ⟨E,bi⟩:=N9 ((G.getD k tr0).2.2);rw [bH] at Z an;rw [bi] at W an;have aF:=(fun aB=>J9 (ak.o.trans (below_drewN ar U.heap.size aB)));have aM:Hid (∀ aB,Below q w (ar.drewN aB)):=(fun aB=>ao.o.trans ((aF aB).o.mono (by have:=ag.o;omega)));have ah:=C9 bk 3;have T:=C9 bw 1;have b8:(k:Int)<(n:Int):=(by omega);clear bc K a9 bh a8 bg aW a3 br bB bb aP bT b0 bQ bX bH bi bk bw bL ai a5 bf;obtain ⟨ac,aV⟩:=N9 ((aj.toNat:Int));have aA:((ac:Int) == 0)=decide (aj=0):=(by rw [<- aV];exact qc2 aj 0);have aH:=(fun x=>qdS aj E x);rw [aV] at aH |-;clear b7;by_cases av:aj=0
    ·have aa:Hid (qgW ex L k (G.getD k tr0)=decide (O=E)):=by show _=_;rw [an.o,Qi av]
     rw [Qn av] at aA;obtain rfl:ac=0:=by simpa using aA
     clear an av aV aH aA;by_cases a0:O=E
     ·subst a0
      have aJ:=J9 (aq.o (by rw [aa.o];exact Qn rfl));clear aq ay aa
      go_upto_region 8 with fail
      obtain ⟨y,z⟩:=N9 (ar.drew);have V:Hid (y.cell? ⟨q,3,none⟩=some (.slice (some ⟨C,B,none⟩) n cap)/\y.cell? ⟨J,1,none⟩=some (.slice (some ⟨r,v,none⟩) n R)/\y.cell? ⟨C,B+k*3+2,none⟩=some (.int .i64 O)/\y.cell? ⟨r,v+k*3+2,none⟩=some (.int .i64 O)):=(by rw [<- z];exact ⟨ah,T,Z,W⟩);have ab:Hid (Below U.heap.size U y):=(by rw [<- z];exact ak.drew);have aC:Hid (Below q w y):=ao.o.trans (ab.o.mono (by have:=ag.o;omega));clear ah T Z W aF aM;refine Mixed.qAQ (fun x=>x.cell? ⟨q,3,none⟩=some (.slice (some ⟨C,B,none⟩) n cap)/\x.cell? ⟨J,1,none⟩=some (.slice (some ⟨r,v,none⟩) n R)/\x.cell? ⟨C,B+k*3+2,none⟩=some (.int .i64 O)/\x.cell? ⟨r,v+k*3+2,none⟩=some (.int .i64 O)) 32 [(0,true),(1,true),(2,true),(3,true),(4,true),(5,true),(6,true),(7,true),(8,true),(9,true),(10,true),(11,true),(12,true),(13,true),(14,true),(15,true),(16,true),(17,true),(18,true),(19,true),(20,true),(21,true),(22,true),(23,true),(24,true),(25,true),(26,true),(27,true),(28,true),(29,false),(30,true),(31,true)] (by kernel_rfl) (by kernel_rfl) (by rw [z];exact V.o) ?_;rw [z];clear z;refine Mixed.mo rfl (.int .u8 0) (fun w b=>by obtain ⟨e,h,i,j⟩:=b;go_simp;try rfl) ?_;refine Mixed.mo rfl (.bool true) (fun w b=>by obtain ⟨e,h,i,j⟩:=b;go_simp;try rfl) ?_;refine Mixed.mo rfl (.bool true) (fun w b=>by obtain ⟨e,h,i,j⟩:=b;go_simp;try rfl) ?_;refine Mixed.mo rfl (.pointer (some ⟨q,2,none⟩)) (fun w b=>by obtain ⟨e,h,i,j⟩:=b;go_simp;try rfl) ?_;refine Mixed.mo rfl (.pointer (some ⟨q,3,none⟩)) (fun w b=>by obtain ⟨e,h,i,j⟩:=b;go_simp;try rfl) ?_;refine Mixed.mo rfl (.slice (some ⟨C,B,none⟩) n cap) (fun w b=>by obtain ⟨e,h,i,j⟩:=b;go_simp;try rfl) ?_;refine Mixed.mo rfl (.int .i64 k) (fun w b=>by obtain ⟨e,h,i,j⟩:=b;go_simp;try rfl) ?_;refine Mixed.mo rfl (.pointer (some ⟨C,B+k*3,none⟩)) (fun w b=>by obtain ⟨e,h,i,j⟩:=b;go_simp;try rfl) ?_;refine Mixed.mo rfl (.pointer (some ⟨C,B+k*3+2,none⟩)) (fun w b=>by obtain ⟨e,h,i,j⟩:=b;go_simp;try rfl) ?_;refine Mixed.mo rfl (.int .i64 O) (fun w b=>by obtain ⟨e,h,i,j⟩:=b;go_simp;try rfl) ?_;refine Mixed.mo rfl (.pointer (some ⟨J,1,none⟩)) (fun w b=>by obtain ⟨e,h,i,j⟩:=b;go_simp;try rfl) ?_;refine Mixed.mo rfl (.slice (some ⟨r,v,none⟩) n R) (fun w b=>by obtain ⟨e,h,i,j⟩:=b;go_simp;try rfl) ?_;refine Mixed.mo rfl (.int .i64 k) (fun w b=>by obtain ⟨e,h,i,j⟩:=b;go_simp;try rfl) ?_;refine Mixed.mo rfl (.pointer (some ⟨r,v+k*3,none⟩)) (fun w b=>by obtain ⟨e,h,i,j⟩:=b;go_simp;try rfl) ?_;refine Mixed.mo rfl (.pointer (some ⟨r,v+k*3+2,none⟩)) (fun w b=>by obtain ⟨e,h,i,j⟩:=b;go_simp;try rfl) ?_;refine Mixed.mo rfl (.int .i64 O) (fun w b=>by obtain ⟨e,h,i,j⟩:=b;go_simp;try rfl) ?_;refine Mixed.mo rfl (.bool false) (fun w b=>by obtain ⟨e,h,i,j⟩:=b;go_simp;try rfl) ?_;refine Mixed.mo rfl (.bool false) (fun w b=>by obtain ⟨e,h,i,j⟩:=b;go_simp;try rfl) ?_;refine Mixed.mo rfl (.bool false) (fun w b=>by obtain ⟨e,h,i,j⟩:=b;go_simp;try rfl) ?_;refine Mixed.mo rfl (.int .u8 0) (fun w b=>by obtain ⟨e,h,i,j⟩:=b;go_simp;try rfl) ?_;refine Mixed.mo rfl (.bool false) (fun w b=>by obtain ⟨e,h,i,j⟩:=b;go_simp;try rfl) ?_;refine Mixed.mo rfl (.bool false) (fun w b=>by obtain ⟨e,h,i,j⟩:=b;go_simp;try rfl) ?_;refine Mixed.ms rfl ?_;refine Mixed.ms rfl ?_;refine Mixed.ms rfl ?_;refine Mixed.ms rfl ?_;refine Mixed.ms rfl ?_;refine Mixed.ms rfl ?_;refine Mixed.ms rfl ?_;refine Mixed.qBh rfl (by kernel_rfl) V.o ?_;refine Mixed.ms rfl ?_;refine Mixed.mo rfl (.bool false) (fun w b=>by obtain ⟨e,h,i,j⟩:=b;go_simp;try rfl) ?_;simp only [Mixed.qAU,Qr,Qx];go_wp2;go_roundw
      case rel=>exact ⟨k+1,by omega,by go_num,aJ.o,ab.o⟩
      case measure=>simp [intOf];omega
     ·have am:=J9 (ay.o (by rw [aa.o];exact Qh a0))
      have ce:(O == E)=false:=Qm.2 a0;clear aq ay aa
      go_upto_region 8 with fail
      obtain ⟨y,z⟩:=N9 (ar.drew);have V:Hid (y.cell? ⟨q,3,none⟩=some (.slice (some ⟨C,B,none⟩) n cap)/\y.cell? ⟨J,1,none⟩=some (.slice (some ⟨r,v,none⟩) n R)/\y.cell? ⟨C,B+k*3+2,none⟩=some (.int .i64 O)/\y.cell? ⟨r,v+k*3+2,none⟩=some (.int .i64 E)):=(by rw [<- z];exact ⟨ah,T,Z,W⟩);have ab:Hid (Below U.heap.size U y):=(by rw [<- z];exact ak.drew);have aC:Hid (Below q w y):=ao.o.trans (ab.o.mono (by have:=ag.o;omega));clear ah T Z W aF aM;refine Mixed.qAQ (fun x=>x.cell? ⟨q,3,none⟩=some (.slice (some ⟨C,B,none⟩) n cap)/\x.cell? ⟨J,1,none⟩=some (.slice (some ⟨r,v,none⟩) n R)/\x.cell? ⟨C,B+k*3+2,none⟩=some (.int .i64 O)/\x.cell? ⟨r,v+k*3+2,none⟩=some (.int .i64 E)) 32 [(0,true),(1,true),(2,true),(3,true),(4,true),(5,true),(6,true),(7,true),(8,true),(9,true),(10,true),(11,true),(12,true),(13,true),(14,true),(15,true),(16,true),(17,true),(18,true),(19,true),(20,true),(21,true),(22,true),(23,true),(24,true),(25,true),(26,true),(27,true),(28,true),(29,false),(30,true),(31,true)] (by kernel_rfl) (by kernel_rfl) (by rw [z];exact V.o) ?_;rw [z];clear z;refine Mixed.mo rfl (.int .u8 0) (fun w b=>by obtain ⟨e,h,i,j⟩:=b;go_simp;try rfl) ?_;refine Mixed.mo rfl (.bool true) (fun w b=>by obtain ⟨e,h,i,j⟩:=b;go_simp;try rfl) ?_;refine Mixed.mo rfl (.bool true) (fun w b=>by obtain ⟨e,h,i,j⟩:=b;go_simp;try rfl) ?_;refine Mixed.mo rfl (.pointer (some ⟨q,2,none⟩)) (fun w b=>by obtain ⟨e,h,i,j⟩:=b;go_simp;try rfl) ?_;refine Mixed.mo rfl (.pointer (some ⟨q,3,none⟩)) (fun w b=>by obtain ⟨e,h,i,j⟩:=b;go_simp;try rfl) ?_;refine Mixed.mo rfl (.slice (some ⟨C,B,none⟩) n cap) (fun w b=>by obtain ⟨e,h,i,j⟩:=b;go_simp;try rfl) ?_;refine Mixed.mo rfl (.int .i64 k) (fun w b=>by obtain ⟨e,h,i,j⟩:=b;go_simp;try rfl) ?_;refine Mixed.mo rfl (.pointer (some ⟨C,B+k*3,none⟩)) (fun w b=>by obtain ⟨e,h,i,j⟩:=b;go_simp;try rfl) ?_;refine Mixed.mo rfl (.pointer (some ⟨C,B+k*3+2,none⟩)) (fun w b=>by obtain ⟨e,h,i,j⟩:=b;go_simp;try rfl) ?_;refine Mixed.mo rfl (.int .i64 O) (fun w b=>by obtain ⟨e,h,i,j⟩:=b;go_simp;try rfl) ?_;refine Mixed.mo rfl (.pointer (some ⟨J,1,none⟩)) (fun w b=>by obtain ⟨e,h,i,j⟩:=b;go_simp;try rfl) ?_;refine Mixed.mo rfl (.slice (some ⟨r,v,none⟩) n R) (fun w b=>by obtain ⟨e,h,i,j⟩:=b;go_simp;try rfl) ?_;refine Mixed.mo rfl (.int .i64 k) (fun w b=>by obtain ⟨e,h,i,j⟩:=b;go_simp;try rfl) ?_;refine Mixed.mo rfl (.pointer (some ⟨r,v+k*3,none⟩)) (fun w b=>by obtain ⟨e,h,i,j⟩:=b;go_simp;try rfl) ?_;refine Mixed.mo rfl (.pointer (some ⟨r,v+k*3+2,none⟩)) (fun w b=>by obtain ⟨e,h,i,j⟩:=b;go_simp;try rfl) ?_;refine Mixed.mo rfl (.int .i64 E) (fun w b=>by obtain ⟨e,h,i,j⟩:=b;go_simp;try rfl) ?_;refine Mixed.mo rfl (.bool true) (fun w b=>by obtain ⟨e,h,i,j⟩:=b;go_simp;try rfl) ?_;refine Mixed.mo rfl (.bool true) (fun w b=>by obtain ⟨e,h,i,j⟩:=b;go_simp;try rfl) ?_;refine Mixed.mo rfl (.bool true) (fun w b=>by obtain ⟨e,h,i,j⟩:=b;go_simp;try rfl) ?_;refine Mixed.ms rfl ?_;refine Mixed.ms rfl ?_;refine Mixed.ms rfl ?_;refine Mixed.ms rfl ?_;refine Mixed.ms rfl ?_;refine Mixed.ms rfl ?_;refine Mixed.ms rfl ?_;refine Mixed.ms rfl ?_;refine Mixed.ms rfl ?_;refine Mixed.ms rfl ?_;refine Mixed.qBh rfl (by kernel_rfl) V.o ?_;refine Mixed.ms rfl ?_;refine Mixed.ms rfl ?_;simp only [Mixed.qAU,Qr,Qx];go_wp2;go_ret;exact ⟨qab am.o.symm,by rw [aT.o];exact aC.o⟩
    ·have aa:Hid (qgW ex L k (G.getD k tr0)=withR aj E):=by show _=_;rw [an.o,Qe av]
     rw [Qh av] at aA;obtain ⟨bS,bE⟩:=N9 (withR aj E);rw [bE] at aH aa;have cd:¬ac=0:=fun b=>by rw [b] at aA;simp at aA
     clear an av bE aV;cases bS with
     | true=>
      have aJ:=J9 (aq.o aa.o);clear aq ay aa
      go_upto_region 8 with fail
      obtain ⟨y,z⟩:=N9 (ar.drew);have V:Hid (y.cell? ⟨q,3,none⟩=some (.slice (some ⟨C,B,none⟩) n cap)/\y.cell? ⟨J,1,none⟩=some (.slice (some ⟨r,v,none⟩) n R)/\y.cell? ⟨C,B+k*3+2,none⟩=some (.int .i64 O)/\y.cell? ⟨r,v+k*3+2,none⟩=some (.int .i64 E)):=(by rw [<- z];exact ⟨ah,T,Z,W⟩);have ab:Hid (Below U.heap.size U y):=(by rw [<- z];exact ak.drew);have aC:Hid (Below q w y):=ao.o.trans (ab.o.mono (by have:=ag.o;omega));clear ah T Z W aF aM;refine Mixed.qAQ (fun x=>x.cell? ⟨q,3,none⟩=some (.slice (some ⟨C,B,none⟩) n cap)/\x.cell? ⟨J,1,none⟩=some (.slice (some ⟨r,v,none⟩) n R)/\x.cell? ⟨C,B+k*3+2,none⟩=some (.int .i64 O)/\x.cell? ⟨r,v+k*3+2,none⟩=some (.int .i64 E)) 32 [(0,true),(1,true),(2,true),(3,true),(4,true),(5,true),(6,true),(7,true),(8,true),(9,true),(10,true),(11,true),(12,true),(13,true),(14,true),(15,true),(16,true),(17,true),(18,true),(19,true),(20,true),(21,true),(22,true),(23,true),(24,true),(25,true),(26,true),(27,true),(28,true),(29,false),(30,true),(31,true)] (by kernel_rfl) (by kernel_rfl) (by rw [z];exact V.o) ?_;rw [z];clear z;refine Mixed.mo rfl (.int .u8 ac) (fun w b=>by obtain ⟨e,h,i,j⟩:=b;go_simp;try rfl) ?_;refine Mixed.mo rfl (.bool false) (fun w b=>by obtain ⟨e,h,i,j⟩:=b;go_simp;try rfl) ?_;refine Mixed.mo rfl (.bool false) (fun w b=>by obtain ⟨e,h,i,j⟩:=b;go_simp;try rfl) ?_;refine Mixed.ms rfl ?_;refine Mixed.ms rfl ?_;refine Mixed.ms rfl ?_;refine Mixed.ms rfl ?_;refine Mixed.ms rfl ?_;refine Mixed.ms rfl ?_;refine Mixed.ms rfl ?_;refine Mixed.ms rfl ?_;refine Mixed.ms rfl ?_;refine Mixed.ms rfl ?_;refine Mixed.ms rfl ?_;refine Mixed.ms rfl ?_;refine Mixed.ms rfl ?_;refine Mixed.ms rfl ?_;refine Mixed.mo rfl (.bool false) (fun w b=>by obtain ⟨e,h,i,j⟩:=b;go_simp;try rfl) ?_;refine Mixed.mo rfl (.bool false) (fun w b=>by obtain ⟨e,h,i,j⟩:=b;go_simp;try rfl) ?_;refine Mixed.mo rfl (.int .u8 ac) (fun w b=>by obtain ⟨e,h,i,j⟩:=b;go_simp;try rfl) ?_;refine Mixed.mo rfl (.bool true) (fun w b=>by obtain ⟨e,h,i,j⟩:=b;go_simp;try rfl) ?_;refine Mixed.mo rfl (.bool true) (fun w b=>by obtain ⟨e,h,i,j⟩:=b;go_simp;try rfl) ?_;refine Mixed.mo rfl (.int .u8 ac) (fun w b=>by obtain ⟨e,h,i,j⟩:=b;go_simp;try rfl) ?_;refine Mixed.mo rfl (.pointer (some ⟨J,1,none⟩)) (fun w b=>by obtain ⟨e,h,i,j⟩:=b;go_simp;try rfl) ?_;refine Mixed.mo rfl (.slice (some ⟨r,v,none⟩) n R) (fun w b=>by obtain ⟨e,h,i,j⟩:=b;go_simp;try rfl) ?_;refine Mixed.mo rfl (.int .i64 k) (fun w b=>by obtain ⟨e,h,i,j⟩:=b;go_simp;try rfl) ?_;refine Mixed.mo rfl (.pointer (some ⟨r,v+k*3,none⟩)) (fun w b=>by obtain ⟨e,h,i,j⟩:=b;go_simp;try rfl) ?_;refine Mixed.mo rfl (.pointer (some ⟨r,v+k*3+2,none⟩)) (fun w b=>by obtain ⟨e,h,i,j⟩:=b;go_simp;try rfl) ?_;refine Mixed.mo rfl (.int .i64 E) (fun w b=>by obtain ⟨e,h,i,j⟩:=b;go_simp;try rfl) ?_;refine Mixed.qAR rfl (by kernel_rfl) ?_
      go_wp2_with fail
      refine (aH _).mono ?_;rintro af b4 ⟨rfl,rfl⟩;go_wp2;refine ⟨V.o,?_⟩;refine Mixed.mo rfl (.bool false) (fun w b=>by obtain ⟨e,h,i,j⟩:=b;go_simp;try rfl) ?_;refine Mixed.mo rfl (.bool false) (fun w b=>by obtain ⟨e,h,i,j⟩:=b;go_simp;try rfl) ?_;simp only [Mixed.qAU,Qr,Qx];go_wp2;go_roundw
      case rel=>exact ⟨k+1,by omega,by go_num,aJ.o,ab.o⟩
      case measure=>simp [intOf];omega
     | false=>
      have am:=J9 (ay.o aa.o);clear aq ay aa
      go_upto_region 8 with fail
      obtain ⟨y,z⟩:=N9 (ar.drew);have V:Hid (y.cell? ⟨q,3,none⟩=some (.slice (some ⟨C,B,none⟩) n cap)/\y.cell? ⟨J,1,none⟩=some (.slice (some ⟨r,v,none⟩) n R)/\y.cell? ⟨C,B+k*3+2,none⟩=some (.int .i64 O)/\y.cell? ⟨r,v+k*3+2,none⟩=some (.int .i64 E)):=(by rw [<- z];exact ⟨ah,T,Z,W⟩);have ab:Hid (Below U.heap.size U y):=(by rw [<- z];exact ak.drew);have aC:Hid (Below q w y):=ao.o.trans (ab.o.mono (by have:=ag.o;omega));clear ah T Z W aF aM;refine Mixed.qAQ (fun x=>x.cell? ⟨q,3,none⟩=some (.slice (some ⟨C,B,none⟩) n cap)/\x.cell? ⟨J,1,none⟩=some (.slice (some ⟨r,v,none⟩) n R)/\x.cell? ⟨C,B+k*3+2,none⟩=some (.int .i64 O)/\x.cell? ⟨r,v+k*3+2,none⟩=some (.int .i64 E)) 32 [(0,true),(1,true),(2,true),(3,true),(4,true),(5,true),(6,true),(7,true),(8,true),(9,true),(10,true),(11,true),(12,true),(13,true),(14,true),(15,true),(16,true),(17,true),(18,true),(19,true),(20,true),(21,true),(22,true),(23,true),(24,true),(25,true),(26,true),(27,true),(28,true),(29,false),(30,true),(31,true)] (by kernel_rfl) (by kernel_rfl) (by rw [z];exact V.o) ?_;rw [z];clear z;refine Mixed.mo rfl (.int .u8 ac) (fun w b=>by obtain ⟨e,h,i,j⟩:=b;go_simp;try rfl) ?_;refine Mixed.mo rfl (.bool false) (fun w b=>by obtain ⟨e,h,i,j⟩:=b;go_simp;try rfl) ?_;refine Mixed.mo rfl (.bool false) (fun w b=>by obtain ⟨e,h,i,j⟩:=b;go_simp;try rfl) ?_;refine Mixed.ms rfl ?_;refine Mixed.ms rfl ?_;refine Mixed.ms rfl ?_;refine Mixed.ms rfl ?_;refine Mixed.ms rfl ?_;refine Mixed.ms rfl ?_;refine Mixed.ms rfl ?_;refine Mixed.ms rfl ?_;refine Mixed.ms rfl ?_;refine Mixed.ms rfl ?_;refine Mixed.ms rfl ?_;refine Mixed.ms rfl ?_;refine Mixed.ms rfl ?_;refine Mixed.ms rfl ?_;refine Mixed.mo rfl (.bool false) (fun w b=>by obtain ⟨e,h,i,j⟩:=b;go_simp;try rfl) ?_;refine Mixed.mo rfl (.bool false) (fun w b=>by obtain ⟨e,h,i,j⟩:=b;go_simp;try rfl) ?_;refine Mixed.mo rfl (.int .u8 ac) (fun w b=>by obtain ⟨e,h,i,j⟩:=b;go_simp;try rfl) ?_;refine Mixed.mo rfl (.bool true) (fun w b=>by obtain ⟨e,h,i,j⟩:=b;go_simp;try rfl) ?_;refine Mixed.mo rfl (.bool true) (fun w b=>by obtain ⟨e,h,i,j⟩:=b;go_simp;try rfl) ?_;refine Mixed.mo rfl (.int .u8 ac) (fun w b=>by obtain ⟨e,h,i,j⟩:=b;go_simp;try rfl) ?_;refine Mixed.mo rfl (.pointer (some ⟨J,1,none⟩)) (fun w b=>by obtain ⟨e,h,i,j⟩:=b;go_simp;try rfl) ?_;refine Mixed.mo rfl (.slice (some ⟨r,v,none⟩) n R) (fun w b=>by obtain ⟨e,h,i,j⟩:=b;go_simp;try rfl) ?_;refine Mixed.mo rfl (.int .i64 k) (fun w b=>by obtain ⟨e,h,i,j⟩:=b;go_simp;try rfl) ?_;refine Mixed.mo rfl (.pointer (some ⟨r,v+k*3,none⟩)) (fun w b=>by obtain ⟨e,h,i,j⟩:=b;go_simp;try rfl) ?_;refine Mixed.mo rfl (.pointer (some ⟨r,v+k*3+2,none⟩)) (fun w b=>by obtain ⟨e,h,i,j⟩:=b;go_simp;try rfl) ?_;refine Mixed.mo rfl (.int .i64 E) (fun w b=>by obtain ⟨e,h,i,j⟩:=b;go_simp;try rfl) ?_;refine Mixed.qAR rfl (by kernel_rfl) ?_
      go_wp2_with fail
      refine (aH _).mono ?_;rintro af b4 ⟨rfl,rfl⟩;go_wp2;refine ⟨V.o,?_⟩;refine Mixed.mo rfl (.bool true) (fun w b=>by obtain ⟨e,h,i,j⟩:=b;go_simp;try rfl) ?_;refine Mixed.mo rfl (.bool true) (fun w b=>by obtain ⟨e,h,i,j⟩:=b;go_simp;try rfl) ?_;simp only [Mixed.qAU,Qr,Qx];go_wp2;go_ret;exact ⟨qab am.o.symm,by rw [aT.o];exact aC.o⟩
   ·obtain rfl:k=n:=by omega
    have am:Hid (true=qa9 m L ex s G):=by
     show true=_;exact (qqh bU.o (fun M a6=>aN.o M (by have:=aO.o;omega))).symm
    clear aN ai ad aU;go_wp2;go_ret;exact ⟨qab am.o,by rw [aT.o];exact bL.o⟩
end Go.Proofs.YtecpnfhpcamljaaGreatDoor
namespace Go.Proofs.YtecpnfhpcamljaaGreatDoor
open Tryz
open Go.RowKit Go.Maps
def qAM:List (List UInt8):=[[65,68,67],[65,68,68],[65,78,68],[66,73,84],[67,65,76,76],[67,67,70],[67,80],[67,80,68],[67,80,68,82],[67,80,73],[67,80,73,82],[67,80,76],[68,65,65],[68,69,67],[68,73],[68,74,78,90],[69,73],[69,88],[69,88,88],[72,65,76,84],[73,77],[73,78],[73,78,67],[73,78,68],[73,78,68,82],[73,78,73],[73,78,73,82],[74,80],[74,82],[76,68],[76,68,68],[76,68,68,82],[76,68,73],[76,68,73,82],[78,69,71],[78,79,80],[79,82],[79,84,68,82],[79,84,73,82],[79,85,84],[79,85,84,68],[79,85,84,73],[80,79,80],[80,85,83,72],[82,69,83],[82,69,84],[82,69,84,73],[82,69,84,78],[82,76],[82,76,65],[82,76,67],[82,76,67,65],[82,76,68],[82,82],[82,82,65],[82,82,67],[82,82,67,65],[82,82,68],[82,83,84],[83,66,67],[83,67,70],[83,69,84],[83,76,65],[83,76,76],[83,82,65],[83,82,76],[83,85,66],[88,79,82]]
def opsL:List ByteArray:=qAM.map fun h=>⟨h.toArray⟩
def opsOf:Option Code->List Oper
 | some (.seq _ (.seq (.region _ ops _) _))=>ops.toList
 | _=>[]
def quR:Option Code->List Oper
 | some (.seq (.region _ ops _) _)=>ops.toList
 | _=>[]
def qoP (p:String) (k:ByteArray):Oper:=⟨none,.insert 203 (.tmp 1) (.const (.string k)) (.const (.bool true)),0,p,#[⟨0,.data⟩],none⟩
theorem qvf:∃ (p:String) (r h y q:Oper),f160.body=some (.seq (.region 0 #[r] false) (.seq (.region 1 (h :: (opsL.map (qoP p)++[y,q])).toArray false) .ret))/\(r.op=.assign (.const (.map none))/\r.dst=some 0/\r.guard=none)/\
  (h.op=.makeMap 203 none/\h.dst=some 1/\h.guard=none)/\(y.op=.move (.tmp 1)/\y.dst=some 2/\y.guard=none)/\(q.op=.assign (.tmp 2)/\q.dst=some 0/\q.guard=none):=
 ⟨((opsOf f160.body).getD 1 default).pos,(quR f160.body).getD 0 default,(opsOf f160.body).getD 0 default,(opsOf f160.body).getD 69 default,(opsOf f160.body).getD 70 default,by kernel_rfl,
  ⟨by kernel_rfl,by kernel_rfl,by kernel_rfl⟩,⟨by kernel_rfl,by kernel_rfl,by kernel_rfl⟩,⟨by kernel_rfl,by kernel_rfl,by kernel_rfl⟩,⟨by kernel_rfl,by kernel_rfl,by kernel_rfl⟩⟩
theorem qAs:Keyed prog 9:=string_keyed underlying9
def klit (s:ByteArray):Lit:=.string s.data.toList
abbrev qsJ:DataW Unit:=.lit (.bool true)
theorem qdD {p:String} {ops:Array Oper} {rest:List Oper} {a:Act} {Q:Exit->Act->World->Prop} (b:Nat) (G:a.eval (.tmp 1)=.map (some b)) :
  ∀ (e:List ByteArray) (D:DataW Unit) (n:Nat) (w:World),(∀ s∈e,s.size<=maxLen)->n+e.length<=1000->w.ownsMap prog 9 (plainElem prog 4) b n D->
   (∀ w',w'.ownsMap prog 9 (plainElem prog 4) b (n+e.length) ((e.map klit).foldl (fun m x=>m.put x qsJ) D)->w.grownBy w' (some b)->wpList prog ops Q rest a w')->
   wpList prog ops Q (e.map (qoP p)++rest) a w
 | [],D,n,w,_,_,y,q=>q w y (World.grownBy.refl _ _)
 | s :: e,D,n,w,E,V,y,q=>by
  have O:s.size<=maxLen:=E s (QD ..);simp only [Qt] at V;show wpList prog ops Q (qoP p s :: (e.map (qoP p)++rest)) a w;obtain ⟨w',Z,K,ab⟩:=y.update qAs underlying203 (show n<maxLen by unfold maxLen;omega) (WideMaps.keyOf_string_mk underlying9 O) (plainElem_bool underlying4 true);have ae:=qdD (p:=p) (ops:=ops) (rest:=rest) (Q:=Q) b G e _ (n+1) w' (fun x z=>E x (QG _ z)) (by omega) K fun W J ac=>q W (by rw [show n+1+e.length=n+(s :: e).length by rw [Qt];omega] at J;exact J) (ab.trans ac)
  obtain ⟨h,o⟩:=N9 (qoP p s);have aa:h.op=.insert 203 (.tmp 1) (.const (.string s)) (.const (.bool true)):=by rw [<- o];rfl
  have af:h.dst=none:=by rw [<- o];rfl
  have T:h.guard=none:=by rw [<- o];rfl
  rw [o];have z:a.eval (.const (.string s))=.string s:=rfl;have U:a.eval (.const (.bool true))=.bool true:=rfl;refine wpList_plain T fun ag ad=>?_
  unfold Oper.wp;simp [execOp,aa,G,z,U,Z,Result.andThen];have M:a.put h.dst undef=a:=by rw [af];rfl
  unfold Oper.upon;rw [M];exact ad _ _ ae
theorem qf3:opsL.length=68:=by decide +kernel
theorem qo5:∀ h∈opsL,h.size<=4:=by decide +kernel
def mnD:DataW Unit:=setOf qsJ (opsL.map klit)
attribute [local irreducible] opsL
theorem qxK (w:World) :
  Calls prog 160 #[] w fun V p=>V=.returned (.map (some w.heap.size))/\p.ownsMap prog 9 (plainElem prog 4) w.heap.size 68 mnD/\Below w.heap.size w p:=by
 obtain ⟨aC,⟨ai,aA,aG,ax,af,am⟩,⟨ar,aq,av,aj,ay,aI⟩,⟨ah,au,ao,ag,ak,aD⟩,⟨aw,aB,ap,aE,az,aF⟩,k,⟨q,T,K⟩,⟨O,U,s⟩,⟨y,z,h⟩,⟨M,E,G⟩⟩:=qvf;simp only at O U s y z h M E G q T K;subst O U s y z h M E G q T K;have an:=@run_makeMap prog;have B0:=J9 ((Qc w.heap.size w).alloc (Qa _) (.map #[] 0));have ac:=J9 (World.ownsMap_made (H:=Unit) w prog 9 (plainElem prog 4));refine calls_of_wp func160 k ?_;clear k;simp only [ntmps160,List.size_toArray,Qt,QP,Nat.reduceAdd,Nat.reduceSub,Array.replicate_succ,Array.replicate_zero,List.push_toArray,List.append_toArray,List.nil_append,Zn];go_wp2;refine qdD w.heap.size rfl opsL (.map []) 0 _ (fun W Z=>Qj (qo5 W Z) (by unfold maxLen;omega)) (by rw [qf3];omega) ac.o ?_;intro ab e J;have ae:Hid (ab.ownsMap prog 9 (plainElem prog 4) w.heap.size 68 mnD):=by rw [qf3] at e;exact e
 have aa:=J9 (B0.o.grown J (by simp) fun aH ad=>by cases ad;exact Qa _);clear e J;go_wp2;go_ret;exact ⟨rfl,ae.o,aa.o⟩
end Go.Proofs.YtecpnfhpcamljaaGreatDoor
namespace Go.Proofs.YtecpnfhpcamljaaGreatDoor
open Tryz
open Go.RowKit Go.Maps
def knB (s:ByteArray):Bool:=opsL.any fun h=>h.toList == s.toList
theorem qek {H:Type} {P:Program} {e:TypeId} (y:P.underlying e=some .bool) {v:Value} {q:DataW H×List MemPlace} (h:plainElem P e v=some q):∃ x,v=.bool x/\q=(.lit (.bool x),[]):=by
 unfold plainElem at h;rw [y] at h;cases v <;> simp at h;rename_i x;exact ⟨x,rfl,h.symm⟩
theorem qsY (s:ByteArray):WideAt.IsKeyLit (klit s):=by first | trivial | exact ⟨_,rfl⟩ | simp [klit,WideAt.IsKeyLit]
theorem qjR (a b:ByteArray):(klit a).sameKey (klit b)=(a.toList == b.toList):=by rw [QO,QO];rfl
theorem qp0 (e:DataW Unit) (s:ByteArray):∀ (l:List ByteArray) (m:DataW Unit),IsMap m->((l.map klit).foldl (fun m x=>m.put x qsJ) m).atKey (klit s) e=if (l.any fun x=>x.toList == s.toList) then qsJ else m.atKey (klit s) e
 | [],m,_=>rfl
 | x :: l,m,y=>by
  have z:=qp0 e s l (m.put (klit x) qsJ) (y.put _ _);show ((l.map klit).foldl (fun m x=>m.put x qsJ) (m.put (klit x) qsJ)).atKey (klit s) e=_;rw [z,List.any_cons];by_cases h:klit s=klit x
  ·have q:(x.toList == s.toList)=true:=by rw [<- qjR,h];show (x.data.toList == x.data.toList)=true;exact beq_self_eq_true _
   rw [h,atKey_put_same y (qsY x)];simp [q]
  ·have q:(x.toList == s.toList)=false:=by rw [<- qjR];exact sameKey_ne fun E=>h E.symm
   rw [atKey_put_other h];simp [q]
theorem qsv (h:DataW Unit) (s:ByteArray) (l:List ByteArray):(setOf qsJ (l.map klit)).atKey (klit s) h=if (l.any fun x=>x.toList == s.toList) then qsJ else h:=qp0 h s l (.map []) isMap_empty
theorem qyN (s:ByteArray):mnD.atKey (klit s) (.lit (.bool false))=.lit (.bool (knB s)):=by
 unfold mnD;rw [qsv];unfold knB;split <;> simp_all
theorem qq0 (w:World):(zeroValue 4).run prog w=.ok (.bool false) w:=by kernel_rfl
def Mn (w:World) (b:Nat):Prop:=w.ownsMap prog 9 (plainElem prog 4) b 68 mnD
theorem Mn.below {w w':World} {b:Nat} (i:Mn w b) (k:Below w.heap.size w w'):Mn w' b:=World.ownsMap.kept i (row:=none) ⟨k.os,k.tape,k.output,k.size,fun h q _=>k.block h q⟩ (by simp)
theorem qv8 {w:World} {b:Nat} (q:Mn w b) (s:ByteArray) (v:s.size<=maxLen):(Instr.lookup 203 (.map (some b)) (.string s) false).run prog w=.ok (.bool (knB s)) w:=by
 obtain ⟨G,J,x,z⟩:=World.ownsMap.lookup q qAs underlying203 (qq0 w) (plainElem_bool underlying4 false) (WideMaps.keyOf_string_mk underlying9 v);obtain ⟨e,rfl,E⟩:=qek underlying4 z;have h:mnD.atKey (klit s) (.lit (.bool false))=.lit (.bool e):=(Zl .. ▸ E).1;rw [qyN] at h;have y:knB s=e:=by simpa using h
 rw [y];exact x
theorem qhH (w:World):Calls prog 160 #[] w fun h e=>∃ b,h=.returned (.map (some b))/\Mn e b/\Below w.heap.size w e:=(qxK w).mono fun h e q=>⟨_,q⟩
theorem qse (w:World):Calls prog 123 #[] w (qlv w opsL):=by
 go_enter func123,ntmps123
 go_wp2;go_ret;exact ⟨_,68,rfl,qaH w opsL 9,B0⟩
theorem qyx (s:ByteArray) (j:Nat) (h:j<opsL.length) (e:(opsL[j].toList == s.toList)=true):true=knB s:=
 (List.any_eq_true.2 ⟨_,QJ h,e⟩).symm
theorem qzs (s:ByteArray) (q:∀ k,k<68->∀ (a:k<opsL.length),(opsL[k].toList == s.toList)=false):false=knB s:=by
 refine (List.any_eq_false.2 fun y x=>?_).symm;obtain ⟨k,h,rfl⟩:=Ze x;rw [q k (by rw [qf3] at h;exact h) h];exact Bool.false_ne_true
theorem qnF (s:ByteArray) (w:World) :
  Calls prog 74 #[.string s] w fun k U=>k=.returned (.bool (knB s))/\Below w.heap.size w U:=by
 go_enter func74,ntmps74
 go_wp2_with fail
 refine (qse _).mono ?_;rintro k T ⟨ad,X,rfl,A,E⟩;have R:=J9 A;have J:=J9 E;clear A E;rw [qf3];go_wp2
 go_loopw [4] (fun x wr=>∃ a:Nat,a<=68/\x=.int .i64 a/\Hid (∀ e,e<a->∀ (y:e<opsL.length),(opsL[e].toList == s.toList)=false)/\wr=T) (fun x _=>68 - (intOf x).toNat)
 case atStart=>exact ⟨0,Qu _,rfl,fun e aa=>by omega,rfl⟩
 case round=>
  obtain ⟨a,W,rfl,h,rfl⟩:=hrel;by_cases K:a<68
  ·have j:a<opsL.length:=by rw [qf3];exact K
   obtain ⟨ab,Z,V,G⟩:=R.o.at_ j;subst V;cases q:(opsL[a].toList == s.toList)
   ·have R2:Hid (∀ e,e<a+1->∀ (y:e<opsL.length),(opsL[e].toList == s.toList)=false):=fun e ac y=>by
     by_cases k:e=a
     ·subst k;exact q
     ·exact h.o e (by omega) y
    obtain ⟨O,i⟩:=N9 (opsL[a]);rw [i] at G q;clear i h j;go_wp2;go_roundw
    case rel=>exact ⟨a+1,by omega,by go_num,R2.o,trivial⟩
    case measure=>simp [intOf];omega
   ·have z:Hid (true=knB s):=qyx s a j q
    obtain ⟨O,i⟩:=N9 (opsL[a]);rw [i] at G q;clear i h j;go_wp2;go_ret;exact ⟨qab z.o,J.o⟩
  ·have M:a=68:=by omega
   subst M;have z:Hid (false=knB s):=qzs s h.o;clear h K;go_wp2;go_ret;exact ⟨qab z.o,J.o⟩
end Go.Proofs.YtecpnfhpcamljaaGreatDoor
namespace Go.Proofs.YtecpnfhpcamljaaGreatDoor
open Tryz
open Go.RowKit
def vT (t:Tr):Bool:=qaC t.1 t.2.1 t.2.2
def qa5 (s:ByteArray) (L:List Tr):Int:=if knB s=false then 12 else if 3<L.length then 11 else if L.all vT then 0 else 2
theorem qpt (s:ByteArray) (L:List Tr) (h:knB s=false):(12:Int)=qa5 s L:=by unfold qa5;rw [Qi h]
theorem qqL (s:ByteArray) (L:List Tr) (h:knB s=true) (q:3<L.length):(11:Int)=qa5 s L:=by unfold qa5;rw [Qe (by simp [h]),Qi q]
theorem qo4 (s:ByteArray) (L:List Tr) (q:knB s=true) (y:¬3<L.length) (x:∀ k,k<L.length->∀ (a:k<L.length),vT L[k]=true):(0:Int)=qa5 s L:=by
 unfold qa5;rw [Qe (by simp [q]),Qe y,Qi];refine QA.2 fun E z=>?_
 obtain ⟨k,h,rfl⟩:=Ze z;exact x k h h
theorem que (s:ByteArray) (L:List Tr) (h:knB s=true) (y:¬3<L.length) (k:Nat) (z:k<L.length) (q:vT L[k]=false):(2:Int)=qa5 s L:=by
 unfold qa5;rw [Qe (by simp [h]),Qe y,Qe];intro E;have:=QA.1 E _ (QJ z);rw [q] at this;cases this
attribute [local irreducible] Go.Mixed.qAU
theorem qpU (s:ByteArray) (A:Option Addr) (cap:Nat) (L:List Tr) (ax:s.size<=maxLen) (ar:L.length<=maxLen) (w:World) (H:qai w A L) :
  Calls prog 111 #[.agg #[.string s,.slice A L.length cap]] w fun j T=>j=.returned (.int .i64 (qa5 s L))/\Below w.heap.size w T:=by
 unfold maxLen at ar;have ay:=J9 H;have aF:=J9 (qpt s L);have aC:=J9 (qqL s L);have aE:=J9 (qo4 s L);have az:=J9 (que s L);obtain ⟨h,U⟩:=N9 (L.length);have B:=J9 U;obtain ⟨aB,an⟩:=N9 (knB s);have z:=J9 an;rw [U] at ar |-;have O:=J9 (Bx.new w s A h cap 24);have B0:Hid (Below w.heap.size w (w.alloc (.cells #[.string s,.slice A h cap] 24))):=B0;clear H U an
 go_enter func111,ntmps111
 go_wp2;refine Mixed.qAQ (fun T=>Bx T w.heap.size s A h cap) 3 [(1,true),(2,true),(0,false)] (by kernel_rfl) (by kernel_rfl) O.o ?_;refine Mixed.mo rfl (.pointer (some ⟨w.heap.size,0,none⟩)) (fun w G=>by obtain ⟨n,aD⟩:=G;go_simp;try rfl) ?_;refine Mixed.mo rfl (.string s) (fun w G=>by obtain ⟨n,aD⟩:=G;go_simp;try rfl) ?_;refine Mixed.qAR rfl (by kernel_rfl) ?_
 go_wp2_with fail
 refine (qhH _).mono ?_;rintro j aj ⟨aJ,rfl,af,n⟩;have ak:Hid (Bx aj w.heap.size s A h cap):=O.o.all (((below_drewN _ _ 1)).trans n);have R:Hid (Below w.heap.size w aj):=(B0.o.trans (below_drewN _ _ 1)).trans (n.mono (by simp));have aw:=qv8 af s ax;rw [z.o] at aw;have E:=ak.o;clear af n O B0;go_wp2;refine ⟨E,?_⟩;simp only [Mixed.qAU,Qr,Qx];clear E;cases aB with
 | false=>
  have i:=J9 (aF.o z.o);go_wp2;go_ret;exact ⟨qao i.o,R.o⟩
 | true=>
  have E:=ak.o;obtain ⟨aL,aN⟩:=E;by_cases W:3<h
  ·have i:=J9 (aC.o z.o (by rw [B.o];exact W))
   have ag:(3:Int)<(h:Int):=(by omega);go_wp2;go_ret;exact ⟨qao i.o,R.o⟩
  ·have Z:Hid (¬3<L.length):=by rw [B.o];exact W
   have ag:¬(3:Int)<(h:Int):=(by omega);go_wp2;clear ag W
   go_loopw [17] (fun K wr=>∃ a:Nat,a<=h/\K=.int .i64 a/\Hid (∀ e,e<a->∀ (k:e<L.length),vT L[e]=true)/\Hid (Below w.heap.size w wr)) (fun K _=>h - (intOf K).toNat)
   case atStart=>exact ⟨0,Qu _,rfl,fun e G=>by omega,R.o⟩
   case round=>
    obtain ⟨a,aI,rfl,J,y⟩:=hrel;by_cases aQ:a<h
    ·have M:a<L.length:=by have:=B.o;omega
     obtain ⟨aP,aK,aG,-,ah,ai,ap⟩:=(ay.o.below y.o).at_ M;subst aG;have q:Hid (vT L[a]=qaC L[a].1 L[a].2.1 L[a].2.2):=rfl;have R2:Hid (vT L[a]=true->∀ e,e<a+1->∀ (k:e<L.length),vT L[e]=true):=fun X e aH k=>by
      by_cases j:e=a
      ·subst j;exact X
      ·exact J.o e (by omega) k
     have av:Hid (vT L[a]=false->2=qa5 s L):=(fun X=>az.o z.o Z.o a M X);obtain ⟨aA,ae⟩:=N9 (vT L[a]);rw [ae] at q R2 av;obtain ⟨⟨aa,am,au⟩,aq⟩:=N9 (L[a]);rw [aq] at ah ai ap q;simp only at ah ai ap q;have ab:=J9 (qfU aa am au);rw [<- q.o] at ab;have ao:Below wr.heap.size wr (wr.alloc (.cells #[.int .i64 aa,.int .i64 am,.int .i64 au] 56)):=B0;have V:=J9 (y.o.trans (ao.mono y.o.size));clear aq ae M J q ao y
     go_wp2_with fail
     refine (ab.o _).mono ?_;rintro j aM ⟨rfl,ad⟩;have ac:=J9 (V.o.trans (ad.mono V.o.size));clear ad V;cases aA with
     | true=>
      go_wp2;go_roundw
      case rel=>exact ⟨a+1,by omega,by go_num,R2.o trivial,ac.o⟩
      case measure=>simp [intOf];omega
     | false=>
      go_wp2;go_ret;exact ⟨qao (av.o trivial),ac.o⟩
    ·have aO:a=h:=by omega
     have i:Hid (0=qa5 s L):=aE.o z.o Z.o fun e aH k=>J.o e (by have:=B.o;omega) k
     clear J;go_wp2;go_ret;exact ⟨qao i.o,y.o⟩
theorem qok (s:ByteArray) (A:Option Addr) (cap:Nat) (L:List Tr) (am:L.length<=maxLen) (w:World) (H:qai w A L) :
  Calls prog 40 #[.agg #[.string s,.slice A L.length cap]] w fun j av=>j=.returned (.int .i64 (qa5 s L))/\Below w.heap.size w av:=by
 unfold maxLen at am;have aq:=J9 H;have aB:=J9 (qpt s L);have az:=J9 (qqL s L);have aA:=J9 (qo4 s L);have au:=J9 (que s L);have K:=J9 (qnF s);obtain ⟨h,U⟩:=N9 (L.length);have y:=J9 U;obtain ⟨ay,X⟩:=N9 (knB s);have z:=J9 X;rw [X] at K;rw [U] at am |-;have ae:=J9 (Bx.new w s A h cap 24);have B0:Hid (Below w.heap.size w (w.alloc (.cells #[.string s,.slice A h cap] 24))):=B0;clear H U X
 go_enter func40,ntmps40
 go_wp2_with fail
 refine (K.o _).mono ?_;rintro j ar ⟨rfl,M⟩;have ai:Hid (Bx ar w.heap.size s A h cap):=ae.o.all M;have T:=J9 (B0.o.trans (M.mono (by simp)));clear M ae B0 K;cases ay with
 | false=>
  have i:=J9 (aB.o z.o);go_wp2;go_ret;exact ⟨qao i.o,T.o⟩
 | true=>
  have ap:=ai.o;obtain ⟨R,W⟩:=ap;by_cases V:3<h
  ·have i:=J9 (az.o z.o (by rw [y.o];exact V))
   have af:(3:Int)<(h:Int):=(by omega);go_wp2;go_ret;exact ⟨qao i.o,T.o⟩
  ·have aa:Hid (¬3<L.length):=by rw [y.o];exact V
   have af:¬(3:Int)<(h:Int):=(by omega);go_wp2;clear af V R W
   go_loopw [3] (fun E wr=>∃ a:Nat,a<=h/\E=.int .i64 a/\Hid (∀ e,e<a->∀ (k:e<L.length),vT L[e]=true)/\Hid (Bx wr w.heap.size s A h cap)/\Hid (Below w.heap.size w wr)) (fun E _=>h - (intOf E).toNat)
   case atStart=>exact ⟨0,Qu _,rfl,fun e aI=>by omega,ai.o,T.o⟩
   case round=>
    obtain ⟨a,aG,rfl,B,O,q⟩:=hrel;obtain ⟨R,W⟩:=O.o;by_cases aM:a<h
    ·have G:a<L.length:=by have:=y.o;omega
     obtain ⟨aL,aH,aC,-,ag,ah,aj⟩:=(aq.o.below q.o).at_ G;subst aC;have n:Hid (vT L[a]=qaC L[a].1 L[a].2.1 L[a].2.2):=rfl;have R2:Hid (vT L[a]=true->∀ e,e<a+1->∀ (k:e<L.length),vT L[e]=true):=fun Z e aD k=>by
      by_cases j:e=a
      ·subst j;exact Z
      ·exact B.o e (by omega) k
     have an:Hid (vT L[a]=false->2=qa5 s L):=(fun Z=>au.o z.o aa.o a G Z);obtain ⟨ax,ad⟩:=N9 (vT L[a]);rw [ad] at n R2 an;obtain ⟨⟨ao,aw,aE⟩,ak⟩:=N9 (L[a]);rw [ak] at ag ah aj n;simp only at ag ah aj n;have ab:=J9 (qaD ao aw aE);rw [<- n.o] at ab;clear ak ad G B n
     go_wp2_with fail
     refine (ab.o _).mono ?_;rintro j aJ ⟨rfl,J⟩;have ac:=J9 (q.o.trans (J.mono q.o.size));have aF:=J9 (O.o.all J);clear J q R W O;cases ax with
     | true=>
      go_wp2;go_roundw
      case rel=>exact ⟨a+1,by omega,by go_num,R2.o trivial,aF.o,ac.o⟩
      case measure=>simp [intOf];omega
     | false=>
      go_wp2;go_ret;exact ⟨qao (an.o trivial),ac.o⟩
    ·have aK:a=h:=by omega
     have i:Hid (0=qa5 s L):=aA.o z.o aa.o fun e aD k=>B.o e (by have:=y.o;omega) k
     clear B;go_wp2;go_ret;exact ⟨qao i.o,q.o⟩
theorem qpl (s:ByteArray) (A:Option Addr) (cap:Nat) (L:List Tr) (h:s.size<=maxLen) (y:L.length<=1000) (w:World) (H:qai w A L) :
  Calls prog 111 #[.agg #[.string s,.slice A L.length cap]] w fun q e=>q=.returned (.int .i64 (qa5 s L))/\Below w.heap.size w e:=qpU s A cap L h (by unfold maxLen;omega) w H
theorem qm3 (s:ByteArray) (A:Option Addr) (cap:Nat) (L:List Tr) (q:L.length<=1000) (w:World) (H:qai w A L) :
  Calls prog 40 #[.agg #[.string s,.slice A L.length cap]] w fun h e=>h=.returned (.int .i64 (qa5 s L))/\Below w.heap.size w e:=qok s A cap L (by unfold maxLen;omega) w H
end Go.Proofs.YtecpnfhpcamljaaGreatDoor
