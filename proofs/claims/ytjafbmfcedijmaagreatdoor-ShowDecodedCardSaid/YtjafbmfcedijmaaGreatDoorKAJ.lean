/-
  SeLqRSK, MixTqRSK, SeGqRSK, SeHqRSK, SeMqRSK, SeRgqRSK, LsAqRSK.
-/
import Derived.Test.YtjafbmfcedijmaaGreatDoorKAI
import Derived.Laws.CopyOwn
set_option linter.all false
set_option maxRecDepth 100000
set_option maxHeartbeats 4000000
namespace Go.Proofs.YtjafbmfcedijmaaGreatDoor
open Tryz
open Go.RowKit Go.Shelf
attribute [local go_sem] Oper.semAt_some
theorem qoh (y:Int):∀ h,(entsR y h).length<=h
 | 0=>Qa _
 | h+1=>by
  have z:=qoh y h;unfold entsR;cases qaX y h with
  | none=>exact Nat.le_succ_of_le z
  | some E=>simp;exact z
def qnn (x:Int) (n:Nat):Bool:=match qaX x n with
 | some h=>decide (h.2.1.length<=3)
 | none=>true
theorem qxZ:∀ g:Fin 7,∀ h:Fin 256,qnn (g.val:Int) h.val=true:=by decide +kernel
theorem qrN (g:Int) (n:Nat) (y:n<256):qnn g n=true:=by
 by_cases z:0<=g/\g<=6
 ·obtain ⟨h,rfl⟩:∃ h:Nat,g=(h:Int):=⟨g.toNat,by omega⟩
  exact qxZ ⟨h,by omega⟩ ⟨n,y⟩
 ·unfold qnn
  rw [qg1 z]
theorem qha (z:Int):∀ x,x<=256->∀ y∈entsR z x,y.2.2.2.1.length<=3
 | 0,_,y,h=>by cases h
 | x+1,M,y,h=>by
  have K:=qha z x (by omega);have E:=qrN z x (by omega);unfold qnn at E;unfold entsR at h;cases J:qaX z x with
  | none=>rw [J] at h;exact K y h
  | some O=>
   rw [J] at h E;rcases QO.1 h with G | G
   ·exact K y G
   ·obtain rfl:=QA.1 G
    exact Qt E
theorem qkC (z:Str) (p:Int):∀ h∈keysPg (fun m=>decide (m=z)) p,h.2.2.2.1.length<=3:=fun h y=>by
 rw [qcv] at y;exact qha p 256 (Qa _) h (List.mem_filter.1 y).1
theorem qpR (h:Str) (p:Int):(keysPg (fun m=>decide (m=h)) p).length<=256:=by
 rw [qcv];exact Qm (List.length_filter_le _ _) (qoh p 256)
theorem qmL (h:Str->Bool) (p:Int):qay h (qg4 [p])=keysPg h p:=by
 unfold qay qg4;rw [Qd (by simp)];simp
theorem qqX (w:World) (p:Int):qjb (w.alloc (.cells #[.int .i64 p] 3)) (some ⟨w.heap.size,0,none⟩) [p]:=by
 refine .inr ⟨_,0,rfl,fun k h=>?_⟩;have:k=0:=by simp at h;omega
 subst this;simp [go_sem]
theorem qlW (n:Nat) (E cb:Nat) (g:Str) (A:Option Addr) (cap ae:Nat) (C:List Tr) (a6:C.length=ae) (br:ae<=1000) (w:World) (a1:w.heap[E]?=some (.cells #[.string (sB g),.slice A ae cap] 24 (0,0))) (a5:qaj w A C) (bu:qac w) (b0:cb<w.heap.size) (aj:E≠cb) (bq:∀ a,A=some a->C≠[]->a.block≠cb) (bi:0≠cb) :
  Stops.qE7 Fence.wide n prog 201 #[.pointer (some ⟨E,0,none⟩)] (fun x:Ee=>#[eeV x]) (ShE g C) (qaD cb) (fun ys=>ys.map Ee.k=candK g C) w:=fun bX aJ cp aQ Y bw bj b8 bD=>by
 have bh:∀ (az:List Ee) (ag aB:World),aJ az ag->Below ag.heap.size ag aB->aJ az aB:=fun az ag aB K e=>bw az ag aB none K (qbj e none) (fun a2 ai=>by cases ai)
 have ap:=(Y.block E (Qb.1 a1).1).trans a1;have j:=qsM (sB g) A cap ae C a6 br aQ (a5.below Y);have aV:Hid (cb<aQ.heap.size):=by have:=Y.size;show cb<_;omega
 have a4:=C9 ap 0;have aq:=C9 ap 1;have ah:=J9 (Zf ap (Zf (a5.below Y) (bu.below Y)));have bC:=J9 bD;have bU:=J9 bj;have cd:=J9 a6;have ao:=J9 (Zf aj (Zf bq bi));have al:=J9 bh;clear bD bj bw b8 Y a1 a5 ap a6 aj bq bi bh bu b0;refine callsIn_wide.2 ?_;show Calls prog 201 #[.func (.yield bX) #[] #[],.pointer (some ⟨E,0,none⟩)] aQ _
 go_enter func201,ntmps201
 go_wp2_with fail
 refine j.mono ?_;rintro ai r ⟨cj,rfl,bt,e,bz⟩;have bm:=J9 bt;obtain ⟨m,aw⟩:=N9 (qbG C);rw [aw] at bm |-;have bn:=J9 aw;have b6:m.length<=3:=by rw [<- aw];unfold qbG;split <;> (try split) <;> simp
 have aK:Hid (r.heap[E]?=some (.cells #[.string (sB g),.slice A ae cap] 24 (0,0))/\qaj r A C/\qac r):=⟨(e.block E (Qb.1 ah.o.1).1).trans ah.o.1,ah.o.2.1.below e,ah.o.2.2.below e⟩;have bs:=J9 (al.o _ _ _ bC.o e);have b7:Hid (cb<r.heap.size):=by have:=e.size;have:=aV.o;show cb<_;omega
 have ca:Hid (∀ a,cj=some a->m≠[]->a.block≠cb):=fun a bJ _=>by have:=bz a bJ;have:=aV.o;omega
 obtain ⟨aF,aP⟩:=N9 (m.length);have bA:=J9 aP;rw [aP] at b6 |-;clear bt e bz ah bC aV j aw a4 aq aP;go_wp2
 go_loopw [10] (fun U wr=>∃ (h:Nat) (J:List Ee),h<=aF/\U=.int .i64 h/\Hid (qaD cb r wr)/\Hid (aJ J wr)/\Hid (J.map Ee.k=qf9 g C (m.take h))) (fun U _=>aF - (intOf U).toNat)
 case atStart=>exact ⟨0,[],Qs _,rfl,qaD.refl _ _,bs.o,rfl⟩
 case round=>
  clear bs;obtain ⟨h,J,cw,rfl,G,W,V⟩:=hrel;by_cases b4:h<aF
  ·have aM:h<m.length:=by rw [bA.o];exact b4
   obtain ⟨co,cq,rfl,bB⟩:=(bm.o.qEH G.o ca.o).at_ aM;obtain ⟨j,a3⟩:=N9 (m[h]);have b1:Hid (m.take (h+1)=m.take h++[j]):=(by show m.take (h+1)=_;rw [Qx aM,a3]);rw [a3] at bB;have Z:=G.o.2 E _ ao.o.1 aK.o.1 rfl;have a4:=C9 Z 0;have bp:=aK.o.2.2.qEH G.o ao.o.2.2;have o:=up1 wr (.cells #[.int .i64 j] 3);have aT:=qsN g _ (bp.below o) (some ⟨wr.heap.size,0,none⟩) 1 [j] (qqX wr j) (by simp);rw [qmL] at aT;have aE:=J9 o;clear aM Z a3
   go_wp2_with fail
   refine aT.mono ?_;rintro ai W2 ⟨cv,cn,i,rfl,bl,aS,e⟩;have aO:Below wr.heap.size wr W2:=o.trans (e.mono o.size);have bx:Hid (qaD cb r W2):=G.o.trans (qaD.of_below aO);have O:=J9 (al.o _ _ _ W.o aO);have aX:cb<(wr.alloc (.cells #[.int .i64 j] 3)).heap.size:=(by have cy:=G.o.1;have:=b7.o;simp;omega);have bk:=J9 bl.esN;obtain ⟨cl,bd⟩:=N9 ((wr.alloc (.cells #[.int .i64 j] 3)).heap.size);rw [bd] at bk aX;have b5:=J9 aX;have bo:Hid (i.map Ee.k=keysPg (fun y=>decide (y=g)) j):=aS;have bb:Hid (qf9 g C (m.take (h+1))=J.map Ee.k++(i.map Ee.k).filter (qzI C)):=by
    show _=_;rw [b1.o,qoQ,V.o,bo.o]
   have cf:i.length<=256:=by
    have aj:(i.map Ee.k).length=_:=congrArg List.length aS;rw [QM] at aj;rw [aj];exact qpR g j
   have ch:Hid (qf9 g C (m.take (h+1)) <+: candK g C):=by
    show _ <+: _;unfold candK;rw [bn.o];exact qsr g C m (h+1)
   obtain ⟨a8,aZ⟩:=N9 (i.length);have bc:=J9 aZ;have bH:Hid (h+1<=aF):=(by show _<=_;omega);rw [aZ] at cf |-;clear aT bl aS e aO bd aX a4 bB bp o G W V aZ;go_wp2
   go_loopw [20] (fun U wr=>∃ (k:Nat) (z:List Ee),k<=a8/\U=.int .i64 k/\Hid (qaD cb r wr)/\Hid (qaD cb W2 wr)/\Hid (aJ z wr)/\Hid (z.map Ee.k=J.map Ee.k++qhW C i k)) (fun U _=>a8 - (intOf U).toNat)
   case atStart=>exact ⟨0,J,Qs _,rfl,bx.o,qaD.refl _ _,O.o,by show _=_;simp [qhW]⟩
   case round=>
    clear bx O;obtain ⟨k,z,cz,rfl,am,G,W,V⟩:=hrel;by_cases bG:k<a8
    ·have ax:k<i.length:=by rw [bc.o];exact bG
     have aN:=(bk.o.qEH G.o b5.o).1.at_ ax;have CS:=qpn C i k ax;obtain ⟨a2,aY⟩:=N9 (i[k]);have bv:a2.k∈keysPg (fun y=>decide (y=g)) j:=(by rw [<- bo.o,<- aY];exact List.mem_map_of_mem (QB ax));rw [aY] at aN CS;have ay:=J9 CS;have bR:Hid (∀ aI,aI<=i.length->J.map Ee.k++qhW C i aI <+: candK g C):=fun aI cm=>by
      refine List.IsPrefix.trans ?_ ch.o;rw [bb.o];refine (List.prefix_append_right_inj _).2 ?_;unfold qhW
      conv=>rhs;rw [<- Zy aI (i.map Ee.k),List.filter_append,<- List.map_take]
      exact List.prefix_append _ _
     have bL:=J9 (bR.o (k+1) (by omega));obtain ⟨ab,af,y,R,P,M,aa,ac⟩:=a2;simp only [Ee.v] at aN;obtain ⟨cr,ct,rfl,bY,ci,bO,b9,aU,bV,bM,a9⟩:=aN;obtain ⟨aW,aC⟩:=N9 (M.length);rw [aC] at aU;have bS:=J9 aC;have Z:=am.o.2 E _ ao.o.1 aK.o.1 rfl;have aq:=C9 Z 1;have ba:=aK.o.2.1.qEH am.o ao.o.2.1;obtain ⟨ak,bE⟩:=N9 (wr.alloc (.cells #[.int .i64 ab,.int .u8 af,.string (sB y),.slice R aW P,.string (sB aa),.bool ac] 163));have o:Below wr.heap.size wr ak:=(by rw [<- bE];exact up1 _ _);have N:ak.heap[wr.heap.size]?=some (.cells #[.int .i64 ab,.int .u8 af,.string (sB y),.slice R aW P,.string (sB aa),.bool ac] 163 (0,0)):=(by rw [<- bE];exact World.alloc_heap_new _ _);have cx:=(o.cell (p:=⟨E,1,none⟩) (Qb.1 Z).1).trans aq;have b2:=C9 N 0;have bQ:=C9 N 1;have bK:=C9 N 2;have cg:=C9 N 3;have bN:=C9 N 4;have bT:=C9 N 5;have an:=qqs R A P cap aW ae M C aC cd.o (by have K:=qkC g j _ bv;simp only [Ee.k] at K;omega) br ak (a9.below o) (ba.below o);have aE:=J9 o;have bF:=J9 N;have cc:=J9 (a9.below o);have a0:qzI C (Ee.k ⟨ab,af,y,R,P,M,aa,ac⟩)=decide (M.map ks2=C.map ks2):=rfl;obtain ⟨bZ,bf⟩:=N9 (decide (M.map ks2=C.map ks2));rw [bf] at an a0;rw [a0] at ay CS;have ay:=J9 CS;clear CS ax bv a9 Z aq ba aC bf a0 bY o N aY
     go_upto_region 6 with fail
     clear ci bO b9 aU bV bM;have au:Hid (qaD cb r ak):=am.o.trans (qaD.of_below aE.o);have ar:Hid (qaD cb W2 ak):=G.o.trans (qaD.of_below aE.o);have O:=J9 (al.o _ _ _ W.o aE.o);clear am G W;cases bZ with
     | false=>
      have av:Hid (z.map Ee.k=J.map Ee.k++qhW C i (k+1)):=by show _=_;rw [ay.o,V.o,Qd (by decide),Zs]
      go_wp2_with fail
      refine an.mono ?_;rintro ai ad ⟨rfl,e⟩;have aH:Hid (qaD cb r ad):=au.o.trans (qaD.of_below e);have aA:Hid (qaD cb W2 ad):=ar.o.trans (qaD.of_below e);have aG:=J9 (al.o _ _ _ O.o e);clear an e au ar O;go_wp2;go_roundw
      case rel=>exact ⟨k+1,z,by omega,by go_num,aH.o,aA.o,aG.o,av.o⟩
      case measure=>simp [intOf];omega
     | true=>
      have av:Hid ((z++[(⟨ab,af,y,R,P,M,aa,ac⟩:Ee)]).map Ee.k=J.map Ee.k++qhW C i (k+1)):=by
       show _=_;rw [ay.o,Zc,V.o,Qk rfl,Ze];rfl
      have ce:Hid ((z++[(⟨ab,af,y,R,P,M,aa,ac⟩:Ee)]).map Ee.k <+: candK g C):=(by show _ <+: _;rw [av.o];exact bL.o);refine (wpIn_wide (n:=n)).1 ?_
      gi_wp2_with fail
      refine ⟨trivial,fun K=>(by cases K),(callsIn_wide.2 an).mono ?_⟩;rintro ai ad ⟨rfl,e⟩;have aH:Hid (qaD cb r ad):=au.o.trans (qaD.of_below e);have aA:Hid (qaD cb W2 ad):=ar.o.trans (qaD.of_below e);have aG:=J9 (al.o _ _ _ O.o e);have bP:=bU.o z ⟨ab,af,y,R,P,M,aa,ac⟩ ad aG.o ⟨ce.o,cc.o.below e⟩;obtain ⟨cu,tmps,assign,body,aD,aL⟩:=bP;have X:=(e.block _ (Qb.1 bF.o).1).trans bF.o;have b2:=C9 X 0;have bQ:=C9 X 1;have bK:=C9 X 2;have cg:=C9 X 3;have bN:=C9 X 4;have bT:=C9 X 5;simp only [eeV,enV,Ee.v] at aD;rw [bS.o] at aD;clear an e au ar O X
      gi_wp2
      refine ⟨fun K=>(by cases K),aL.mono ?_⟩;rintro aU be (⟨rfl,bg,a7⟩ | ⟨rfl,b3⟩)
      ·have ck:Hid (qaD cb r be):=aH.o.trans a7
       have bW:Hid (qaD cb W2 be):=aA.o.trans a7;have bI:=J9 bg;clear bg a7 aL aD aH aA aG
       gi_wp2
       go_wp2;go_roundw
       case rel=>exact ⟨k+1,_,by omega,by go_num,ck.o,bW.o,bI.o,av.o⟩
       case measure=>simp [intOf];omega
      ·clear aL aD
       gi_wp2
       go_wp2;refine bodyPost_ret (results_none rfl _ _ _) rfl ?_;exact ⟨⟨_,rfl⟩,.inr ⟨_,b3⟩⟩
    ·have aR:Hid (z.map Ee.k=qf9 g C (m.take (h+1))):=by
      show _=_;rw [bb.o,V.o];unfold qhW;rw [QJ (by have:=bc.o;omega)]
     go_wp2;go_roundw
     case rel=>exact ⟨h+1,z,bH.o,by go_num,am.o,W.o,aR.o⟩
     case measure=>simp [intOf];omega
  ·have aR:Hid (J.map Ee.k=candK g C):=by
    show _=_;unfold candK;rw [bn.o,V.o,QJ (by have:=bA.o;omega)]
   go_wp2
   go_end0
   have K:=W.o;exact ⟨⟨_,rfl⟩,.inl ⟨_,aR.o,K⟩⟩
end Go.Proofs.YtjafbmfcedijmaaGreatDoor
namespace Go.Mixed
open Go
inductive Ord where
 | done:Ord
 | pure:Nat->Ord->Ord
 | one:Nat->Ord->Ord
 | two:Nat->Ord->Nat->Ord->Ord
section
variable {P:Program} {ops:Array Oper} {md:Region.Mode}
def Ord.len:Ord->Nat
 | .done=>0
 | .pure _ h=>h.len+1
 | .one _ h=>h.len+1
 | .two _ h _ _=>h.len+1
def qqj (md:Region.Mode) (ops:Array Oper) (n g:Nat):Ord->Array Bool->Bool
 | .done,h=>Region.seqB md ops g n h
 | .pure k r,h=>(Region.ready md ops h).contains k&&decide (k<n)&&Region.free md ops h k&&qqj md ops n g r (h.setIfInBounds k true)
 | .one k r,h=>decide (Region.ready md ops h=[k])&&decide (k<n)&&qqj md ops n g r (h.setIfInBounds k true)
 | .two k r y z,h=>decide (Region.ready md ops h=[k,y])&&decide (k<n)&&decide (y<n)&&decide (z.len=r.len)&&qqj md ops n g r (h.setIfInBounds k true)&&qqj md ops n g z (h.setIfInBounds y true)
def qnW (md:Region.Mode) (ops:Array Oper) (n:Nat) (h:Ord):Bool:=
 Region.noSelect ops&&decide (n<ops.size)&&decide (h.len+(ops.size - n)=ops.size)&&Region.sinkB md ops n&&Region.chainB md ops n&&qqj md ops n (ops.size - n) h (Array.replicate ops.size false)
def qEd (P:Program) (ops:Array Oper) (C:World->Prop) (T:Act->World->Prop):Ord->Act->World->Prop
 | .done,a,h=>T a h
 | .pure k r,a,h=>match ops[k]? with
  | none=>False
  | some o=>∃ v,Pure P ops C o v a/\qEd P ops C T r (a.put o.dst v) h
 | .one k r,a,h=>wpOp P ops QF k (fun w w'=>C w'/\qEd P ops C T r w w') a h
 | .two k r y z,a,h=>wpOp P ops QF k (fun w w'=>C w'/\qEd P ops C T r w w') a h/\wpOp P ops QF y (fun w w'=>C w'/\qEd P ops C T z w w') a h
theorem qcc {C:World->Prop} {n g:Nat} {T:Act->World->Prop} (U:Region.noSelect ops=true) (O:Region.sinkB md ops n=true) (M:Region.chainB md ops n=true) (V:n<ops.size) :
  ∀ (ae:Ord) (i:Array Bool) (a:Act) (w:World),HeadInv md ops n i->qqj md ops n g ae i=true->C w->qEd P ops C T ae a w->
  qa8 P md ops n C (fun ag r w'=>Region.seqB md ops g n ag=true/\T r w') ae.len i a w
 | .done,i,a,w,_,k,y,h=>⟨y,k,h⟩
 | .pure J K,i,a,w,E,k,y,h=>by
  simp only [qqj,Qh,Ql] at k;obtain ⟨⟨⟨o,z⟩,an⟩,ab⟩:=k;have ai:J∈Region.ready md ops i:=by simpa using o
  simp only [qEd] at h;cases aa:ops[J]? with
  | none=>rw [aa] at h;exact h.elim
  | some aw=>
   rw [aa] at h;obtain ⟨av,au,aj⟩:=h;exact qa0 aa (Region.noSelect_spec U) O M V z (fun ag r w' ap=>seqB_ready ap.1) K.len i a w E (Region.free_spec aa an) ai au y
    (qcc U O M V K _ _ w (E.set ai z) ab y aj)
 | .one J K,i,a,w,E,k,y,h=>by
  simp only [qqj,Qh,Ql] at k;obtain ⟨⟨o,z⟩,ab⟩:=k;simp only [qEd] at h;have ac:Region.ready md ops i≠[]:=by rw [o];exact List.cons_ne_nil _ _
  refine ⟨y,ac,fun Z G=>?_⟩;rw [o] at G;have ad:Z=J:=by simpa using G
  subst ad;refine ⟨z,qcW (fun r w' v=>?_) h⟩;exact qcc U O M V K _ r w' (E.set (by rw [o];exact QA.2 rfl) z) ab v.1 v.2
 | .two J K aq ar,i,a,w,E,k,y,h=>by
  simp only [qqj,Qh,Ql] at k;obtain ⟨⟨⟨⟨⟨o,z⟩,ah⟩,ao⟩,ak⟩,am⟩:=k;simp only [qEd] at h;have ac:Region.ready md ops i≠[]:=by rw [o];exact List.cons_ne_nil _ _
  refine ⟨y,ac,fun Z G=>?_⟩;have af:=G;rw [o] at G;have ad:Z=J\/Z=aq:=by simpa using G
  rcases ad with rfl | rfl
  ·refine ⟨z,qcW (fun r w' v=>?_) h.1⟩
   exact qcc U O M V K _ r w' (E.set af z) ak v.1 v.2
  ·refine ⟨ah,qcW (fun r w' v=>?_) h.2⟩
   have:=qcc U O M V ar _ r w' (E.set af ah) am v.1 v.2
   rwa [ao] at this
theorem qEg {aa:Nat} {Q:Exit->Act->World->Prop} {a:Act} {w:World} {l:List Oper} (C:World->Prop) (n:Nat) (j:Ord) (af:P.follows .mixedOrders=true) (t:qnW .any l.toArray n j=true)
  (Z:C w.drew) (ad:qEd P l.toArray C (fun h w'=>wpList P l.toArray Q (l.drop n) h w') j a w.drew):(Code.region aa l.toArray true).wp P Q a w:=by
 simp only [qnW,Qh,Ql] at t;obtain ⟨⟨⟨⟨⟨V,ab⟩,O⟩,K⟩,J⟩,U⟩:=t;have E:(l.drop n).length=l.toArray.size - n:=by simp
 have H:HeadInv .any l.toArray n (Array.replicate l.toArray.size false):=
  ⟨by simp,fun M ah _ y=>(by rw [getD_replicate_false] at y;cases y),fun ag _ ae=>getD_in (by simpa using ae) (getD_replicate_false _ _)⟩
 have G:=qcc V K J ab j _ a w.drew H U Z ad;refine wp_region_any af ?_;have:=qaq (Q':=Q) (g:=l.toArray.size - n) (fun ac h w' z=>by
  have:=wpAny_of_seq (md:=.any) (Q':=Q) (l.drop n) n ac h w' (fun M=>by simp [Zl]) (by rw [E];exact z.1) z.2
  rwa [E] at this) _ _ _ _ G
 rw [O] at this;exact this
theorem qD4 {C:World->Prop} {T:Act->World->Prop} {k:Nat} {r:Ord} {a:Act} {w:World} {o:Oper} (h:ops[k]?=some o) (y:Region.wanted o (yielded ops a.tmps)=true) (v:Value)
  (z:∀ w,C w->(execOp a.eval o).run P w=.ok (.value v) w) (E:qEd P ops C T r (a.put o.dst v) w):qEd P ops C T (.pure k r) a w:=by
 simp only [qEd,h];exact ⟨v,.inl ⟨y,z⟩,E⟩
theorem qdP {y:Act->World->Prop} {k:Nat} {a:Act} {w:World} {o:Oper} (z:ops[k]?=some o) (E:Region.wanted o (yielded ops a.tmps)=true) (h:wpList P ops (QK y) [{o with guard:=none}] a w):wpOp P ops QF k y a w:=by
 unfold wpOp;simp only [z,E,if_true];have G:Region.wanted {o with guard:=none} (yielded ops a.tmps)=true:=rfl;simp only [wpList,G,if_true] at h;rcases h with h | h
 ·exact .inl (qfC h)
 ·exact absurd h.2 (qaA _)
theorem qD9 {C:World->Prop} {T:Act->World->Prop} {k:Nat} {r:Ord} {a:Act} {w:World} {o:Oper} (y:ops[k]?=some o) (z:Region.wanted o (yielded ops a.tmps)=true) (E:wpList P ops (QK fun h w'=>C w'/\qEd P ops C T r h w') [{o with guard:=none}] a w) :
  qEd P ops C T (.one k r) a w:=by
 simp only [qEd];exact qdP y z E
theorem qEe {C:World->Prop} {T:Act->World->Prop} {k z:Nat} {r E:Ord} {a:Act} {w:World} {o h:Oper} (O:ops[k]?=some o) (G:Region.wanted o (yielded ops a.tmps)=true) (J:ops[z]?=some h) (M:Region.wanted h (yielded ops a.tmps)=true)
  (U:wpList P ops (QK fun y w'=>C w'/\qEd P ops C T r y w') [{o with guard:=none}] a w) (K:wpList P ops (QK fun y w'=>C w'/\qEd P ops C T E y w') [{h with guard:=none}] a w) :
  qEd P ops C T (.two k r z E) a w:=by
 simp only [qEd];exact ⟨qdP O G U,qdP J M K⟩
end
end Go.Mixed
namespace Go.Proofs.YtjafbmfcedijmaaGreatDoor
open Tryz
open Go.RowKit Go.Shelf
attribute [local go_sem] Oper.semAt_some
attribute [local irreducible] Go.Mixed.qEd
attribute [local irreducible] Go.Mixed.qD8
theorem qpz (y s2:ByteArray) (A1 G:Option Addr) (U c2 E z:Nat) (e h:List Tr) (ac:e.length=E) (Z:h.length=z) (ag:E<=1000) (ah:z<=1000) (w:World) (aa:qaj w A1 e) (V:qaj w G h) :
  Calls prog 209 #[.agg #[.string y,.slice A1 E U],.agg #[.string s2,.slice G z c2]] w fun ab af=>ab=.returned (.bool (decide (y=s2)&&decide (e=h)))/\Below w.heap.size w af:=by
 have K:Below w.heap.size w ((w.alloc (.cells #[.string y,.slice A1 E U] 24)).alloc (.cells #[.string s2,.slice G z c2] 24)):=(B0).alloc (by simp) _;have O:=qh5 A1 G U c2 e h (by unfold maxLen;omega) (by unfold maxLen;omega) _ (aa.below K) (V.below K);rw [ac,Z] at O;have M:=J9 O;have B0:=J9 K;obtain ⟨ai,b⟩:=N9 (decide (e=h));rw [b] at M;rw [b];clear aa V K ac Z b O;by_cases J:y=s2
 ·subst J
  have ae:=qEp y;rw [Qn rfl,Bool.true_and]
  go_enter func209,ntmps209
  go_wp2_with fail
  refine M.o.mono ?_;rintro ab aj ⟨rfl,b⟩;have ad:=J9 (B0.o.trans (b.mono B0.o.size));clear b;go_wp2;go_ret;exact ⟨rfl,ad.o⟩
 ·have ae:=qao J
  rw [Qf J,Bool.false_and];clear J M
  go_enter func209,ntmps209
  go_wp2;go_ret;exact ⟨rfl,B0.o⟩
theorem qaj.qEV {w:World} {A:Option Addr} {L:List Tr} (O:qaj w A L) {c:Nat} {s:ByteArray} {U:Option Addr} {n cap:Nat} (z:w.heap[c]?=some (.cells #[.string s,.slice U n cap] 24 (0,0))) (j:Nat) (u:Value):qaj (w.setCell ⟨c,j,none⟩ u) A L:=by
 rcases O with rfl | ⟨h,y,rfl,M⟩
 ·exact .inl rfl
 ·refine .inr ⟨h,y,rfl,fun p V=>?_⟩
  obtain ⟨e,K,G⟩:=M p V;have J:h≠c:=by
   rintro rfl;rw [C9 z] at e;have E:=(Qb.1 e).1;have:y+p*3=0\/y+p*3=1:=(by simp at E;omega);rcases this with g | g
   ·rw [g] at e;cases e
   ·rw [g] at e;cases e
  have g:∀ (k:Nat) (v:Value),w.cell? ⟨h,k,none⟩=some v->(w.setCell ⟨c,j,none⟩ u).cell? ⟨h,k,none⟩=some v:=fun k v Z=>(QN (a:=⟨h,k,none⟩) (heap_setCell_other w ⟨c,j,none⟩ h u J)).trans Z
  exact ⟨g _ _ e,g _ _ K,g _ _ G⟩
end Go.Proofs.YtjafbmfcedijmaaGreatDoor
namespace Go.Proofs.YtjafbmfcedijmaaGreatDoor
open Tryz
open Go.RowKit Go.Shelf
attribute [local go_sem] Oper.semAt_some
attribute [local irreducible] Go.Mixed.qEd
attribute [local irreducible] Go.Mixed.qD8
theorem qrm {W:World} {c n:Nat} (K:n<c) (z:W.heap[c]?=some (.cells #[.string ⟨#[]⟩,.slice none 0 0] 24 (0,0))) {J:Option Addr} {M:List Tr} (V:qaj W J M) {G:Option Addr} {C:List Tr} (k:qaj W G C) {o:Obj} (U:W.heap[n]?=some o) (u:ByteArray) (y:Option Addr) (h c2:Nat) :
  ((W.setCell ⟨c,0,none⟩ (.string u)).setCell ⟨c,1,none⟩ (.slice y h c2)).heap[c]?=some (.cells #[.string u,.slice y h c2] 24 (0,0))/\qaj ((W.setCell ⟨c,0,none⟩ (.string u)).setCell ⟨c,1,none⟩ (.slice y h c2)) J M/\qaj ((W.setCell ⟨c,0,none⟩ (.string u)).setCell ⟨c,1,none⟩ (.slice y h c2)) G C/\
   ((W.setCell ⟨c,0,none⟩ (.string u)).setCell ⟨c,1,none⟩ (.slice y h c2)).heap[n]?=some o/\Below n W ((W.setCell ⟨c,0,none⟩ (.string u)).setCell ⟨c,1,none⟩ (.slice y h c2))/\∀ k,k≠c->((W.setCell ⟨c,0,none⟩ (.string u)).setCell ⟨c,1,none⟩ (.slice y h c2)).heap[k]?=W.heap[k]?:=by
 have E:(W.setCell ⟨c,0,none⟩ (.string u)).heap[c]?=some (.cells #[.string u,.slice none 0 0] 24 (0,0)):=heap_setCell_same W c 0 _ _ _ z;refine ⟨heap_setCell_same _ c 1 _ _ _ E,(V.qEV z _ _).qEV E _ _,(k.qEV z _ _).qEV E _ _,?_,?_,fun k O=>(heap_setCell_other _ ⟨c,1,none⟩ k _ O).trans (heap_setCell_other _ ⟨c,0,none⟩ k _ O)⟩
 ·exact (heap_setCell_other _ ⟨c,1,none⟩ n _ (by simp;omega)).trans ((heap_setCell_other _ ⟨c,0,none⟩ n _ (by simp;omega)).trans U)
 ·exact ((Qc n W).setCell (p:=⟨c,0,none⟩) (Zb K) _).setCell (p:=⟨c,1,none⟩) (Zb K) _
def qCp (m:Str) (s:ByteArray) (C:List Tr):Option (List Tr)->Bool
 | some h=>decide (sB m=s)&&decide (h=C)
 | none=>false
theorem qAg (m:Str) (L:List Tr) (ex:Str) (s:ByteArray) (C:List Tr):qqr m L ex s C=qCp m s C (qaZ ex L (qdn (varsV ex).1.1 C) (qdn (varsV ex).2.1 C)):=by
 unfold qqr;cases qaZ ex L (qdn (varsV ex).1.1 C) (qdn (varsV ex).2.1 C) <;> rfl
theorem qkX (Z ab:Int) (m:Str) (bQ:m.length<=1000) (bv:upB (sB m)=sB m) (A:Option Addr) (cap l:Nat) (L:List Tr) (bV:L.length=l) (bG:l<=1000) (ex:Str) (bj:ex.length<=1000) (al:Bool) (s:ByteArray) (E:Option Addr) (M G:Nat) (C:List Tr) (bs:C.length=G) (bK:G<=1000) (w:World) (H:qaj w A L) (bE:qaj w E C) :
  Calls prog 151 #[.agg #[.string s,.slice E G M],enV Z ab m (.slice A l cap) ex al] w fun q x=>q=.returned (.bool (qqr m L ex s C))/\Below w.heap.size w x:=by
 have a0:=fun w=>qeK Z ab m A l cap ex bj al w
 have ax:=fun a4 a3 w e=>qnl Z ab m bQ A cap l L bV bG ex bj al a4 a3 w e
 have bX:=fun b4 A1 U aK bt (q:List.length bt=aK) cj (x:World) k f=>qpz b4 s A1 E U M aK G bt C q bs cj bK x k f
 obtain ⟨aN,bf⟩:=N9 ((varsV ex).1);obtain ⟨bb,bn⟩:=N9 ((varsV ex).2);have a9:=fun (aN:Vr) aD x k f=>quU aN aD s E M G C bs bK x k f
 obtain ⟨a4,au⟩:=N9 (qdn aN.1 C);obtain ⟨a3,bl⟩:=N9 (qdn bb.1 C);obtain ⟨a5,aX⟩:=N9 (qaZ ex L a4 a3);have bC:Hid (qqr m L ex s C=qCp m s C a5):=by
  show _=_;rw [<- aX,<- au,<- bl,<- bf,<- bn];exact qAg m L ex s C
 have aJ:Hid (∀ R,a5=some R->R.length=l):=fun R q=>by
  rw [q] at aX;rw [qat (qbi aX).1,bV]
 have ax:=ax a4 a3;rw [aX] at ax;unfold qmQ at ax;rw [bv] at ax;unfold qmu at a0;rw [bf,bn] at a0;have aK:=fun aD x k f=>a9 aN aD x k f
 have aq:=fun aD x k f=>a9 bb aD x k f
 rw [au] at aK;rw [bl] at aq;have cc:=J9 bG;clear a9 bf bn au bl aX bv;unfold enV at a0 ax |-;obtain ⟨aL,aU⟩:=N9 ((w.alloc (.cells #[.string s,.slice E G M] 24)).alloc (.cells #[.int .i64 Z,.int .u8 ab,.string (sB m),.slice A l cap,.string (sB ex),.bool al] 163));obtain ⟨n,aF⟩:=N9 (w.heap.size);have a1:Below n w aL:=by rw [<- aU,<- aF];exact ((B0 (w:=w))).alloc (by simp) _
 have bk:aL.heap.size=n+1+1:=by rw [<- aU,<- aF];simp
 have aV:aL.heap[n]?=some (.cells #[.string s,.slice E G M] 24 (0,0)):=by
  rw [<- aU,<- aF];exact (Below.heap_alloc _ _ _ (by simp)).trans (World.alloc_heap_new w _)
 have U:aL.heap[n+1]?=some (.cells #[.int .i64 Z,.int .u8 ab,.string (sB m),.slice A l cap,.string (sB ex),.bool al] 163 (0,0)):=by
  rw [<- aU,<- aF];have e:=World.alloc_heap_new (w.alloc (.cells #[.string s,.slice E G M] 24)) (.cells #[.int .i64 Z,.int .u8 ab,.string (sB m),.slice A l cap,.string (sB ex),.bool al] 163)
  rwa [QL] at e
 have bL:=J9 (a0 aL);have aP:=J9 ax;have bS:=J9 bX;have aT:=J9 aK;have az:=J9 aq;have bM:=J9 aF;have B0:=J9 a1;have bF:=J9 aV;have bJ:=J9 U;have bY:=J9 (H.below (by rw [aF];exact a1));have bu:=J9 (bE.below (by rw [aF];exact a1));have cp:=C9 U 0;have b0:=C9 U 1;have b9:=C9 U 2;have cq:=C9 U 3;have co:=C9 U 4;have ck:=C9 U 5;clear a0 ax bX aK aq aV U a1 H bE bQ bj
 go_enter func151,ntmps151
 go_wp2_with fail
 refine bL.o.mono ?_;rintro q cv ⟨cz,cG,cI,cB,rfl,bc,br,c⟩;obtain ⟨aB,aE,aC,b1,b8⟩:=bc.form;obtain ⟨aI,aA,aG,b2,cf⟩:=br.form;subst b1 b8 b2 cf;obtain ⟨o,cx⟩:=N9 (cv.heap.size);have cA:n+2<=o:=by have:=c.size;omega
 obtain ⟨ae,cF,bI,bU,bN,bD,bd,bB⟩:=qiq bc br o cx;have bH:Hid (Below n w ae):=(B0.o.trans (c.mono (by omega))).trans (bd.mono (by omega));have aS:Below (n+1+1) aL ae:=(c.mono (by omega)).trans (bd.mono (by omega));have aV:=(aS.block n (by omega)).trans bF.o;have U:=(aS.block (n+1) (by omega)).trans bJ.o;have au:=below_drewN ae ae.heap.size 1;have be:Hid (ae.drew.heap[n]?=some (.cells #[.string s,.slice E G M] 24 (0,0))/\ae.drew.heap[n+1]?=some (.cells #[.int .i64 Z,.int .u8 ab,.string (sB m),.slice A l cap,.string (sB ex),.bool al] 163 (0,0))/\ae.drew.heap[o]?=some (.cells #[.func (.func 279) #[] #[.pointer (some ⟨aB,0,none⟩)],.func (.func 280) #[] #[.pointer (some ⟨aE,0,none⟩),.pointer (some ⟨aC,0,none⟩)]] 267 (0,0))/\ae.drew.heap[o+1]?=some (.cells #[.func (.func 279) #[] #[.pointer (some ⟨aI,0,none⟩)],.func (.func 280) #[] #[.pointer (some ⟨aA,0,none⟩),.pointer (some ⟨aG,0,none⟩)]] 267 (0,0))):=⟨aV,U,bI,bU⟩;have a6:=J9 ((bY.o.below (by rw [bk];exact aS)).below au);have bi:=J9 ((bu.o.below (by rw [bk];exact aS)).below au);have a7:=J9 (bN.below au);have bm:=J9 (bD.below au);have bo:Hid (Below n w ae.drew):=bH.o.drew;have a8:Hid (ae.drew.heap.size=o+2):=bB;clear cp b0 b9 cq co ck bL bc br c bI bU bN bD bd bB aS bY bu B0 bH bF bJ aU bk aV U au
 go_upto_region 2 with fail
 obtain ⟨K,ay⟩:=N9 (ae.drew);have bW:ae.drewN 1=K:=ay;rw [bW] at a6 bi a7 bm;rw [ay] at be bo a8;have b:Hid (∀ aa,Below K.heap.size K aa->(aa.heap[n]?=some (.cells #[.string s,.slice E G M] 24 (0,0))/\aa.heap[n+1]?=some (.cells #[.int .i64 Z,.int .u8 ab,.string (sB m),.slice A l cap,.string (sB ex),.bool al] 163 (0,0))/\aa.heap[o]?=some (.cells #[.func (.func 279) #[] #[.pointer (some ⟨aB,0,none⟩)],.func (.func 280) #[] #[.pointer (some ⟨aE,0,none⟩),.pointer (some ⟨aC,0,none⟩)]] 267 (0,0))/\aa.heap[o+1]?=some (.cells #[.func (.func 279) #[] #[.pointer (some ⟨aI,0,none⟩)],.func (.func 280) #[] #[.pointer (some ⟨aA,0,none⟩),.pointer (some ⟨aG,0,none⟩)]] 267 (0,0)))/\qaj aa A L/\qaj aa E C/\qeB aa (.agg #[.func (.func 279) #[] #[.pointer (some ⟨aB,0,none⟩)],.func (.func 280) #[] #[.pointer (some ⟨aE,0,none⟩),.pointer (some ⟨aC,0,none⟩)]]) aN/\qeB aa (.agg #[.func (.func 279) #[] #[.pointer (some ⟨aI,0,none⟩)],.func (.func 280) #[] #[.pointer (some ⟨aA,0,none⟩),.pointer (some ⟨aG,0,none⟩)]]) bb/\Below n w aa/\o+1<aa.heap.size):=fun aa an=>by
  obtain ⟨cr,b7,cu,ci⟩:=be.o;have cC:=a8.o;have cK:=an.size;exact ⟨⟨(an.block _ (by omega)).trans cr,(an.block _ (by omega)).trans b7,(an.block _ (by omega)).trans cu,(an.block _ (by omega)).trans ci⟩,a6.o.below an,bi.o.below an,a7.o.below an,bm.o.below an,bo.o.trans (an.mono (by omega)),by omega⟩
 have u:Hid (Below K.heap.size K K):=Qc _ _;clear be a6 bi a7 bm bo a8 bW
 go_cut [7,8] (fun b6 ch wx=>∃ (r:Nat) (aY:Bool) (ad:Option Addr) (af aq:Nat) (R:List Tr) (aQ:ByteArray),b6=.pointer (some ⟨r,0,none⟩)/\ch=.bool aY/\Hid (wx.heap[r]?=some (.cells #[.string aQ,.slice ad aq af] 24 (0,0))/\qaj wx ad R/\R.length=aq/\aq<=1000/\Below n w wx/\wx.heap[n]?=some (.cells #[.string s,.slice E G M] 24 (0,0))/\qaj wx E C/\qCp m s C a5=(aY&&(decide (aQ=s)&&decide (R=C)))))
 case first=>
  cases a5 with
  | none=>
   refine Mixed.qEg (fun x=>x.heap[n]?=some (.cells #[.string s,.slice E G M] 24 (0,0))/\x.heap[n+1]?=some (.cells #[.int .i64 Z,.int .u8 ab,.string (sB m),.slice A l cap,.string (sB ex),.bool al] 163 (0,0))/\x.heap[o]?=some (.cells #[.func (.func 279) #[] #[.pointer (some ⟨aB,0,none⟩)],.func (.func 280) #[] #[.pointer (some ⟨aE,0,none⟩),.pointer (some ⟨aC,0,none⟩)]] 267 (0,0))/\x.heap[o+1]?=some (.cells #[.func (.func 279) #[] #[.pointer (some ⟨aI,0,none⟩)],.func (.func 280) #[] #[.pointer (some ⟨aA,0,none⟩),.pointer (some ⟨aG,0,none⟩)]] 267 (0,0))) 13 (.pure 0 (.pure 1 (.pure 2 (.pure 4 (.pure 5 (.two 3 (.two 6 (.two 7 (.pure 8 (.pure 9 (.pure 10 (.one 11 (.one 12 .done))))) 11 (.one 7 (.pure 8 (.pure 9 (.pure 10 (.one 12 .done)))))) 11 (.one 6 (.one 7 (.pure 8 (.pure 9 (.pure 10 (.one 12 .done))))))) 11 (.one 3 (.one 6 (.one 7 (.pure 8 (.pure 9 (.pure 10 (.one 12 .done))))))))))))) (by kernel_rfl) (by kernel_rfl) (by rw [ay];exact (b.o _ u.o).1) ?_;rw [ay];clear ay;refine Mixed.qD4 rfl (by kernel_rfl) (.agg #[.int .i64 Z,.int .u8 ab,.string (sB m),.slice A l cap,.string (sB ex),.bool al]) (fun w e=>by
    obtain ⟨k,f,V,S⟩:=e;have av:=C9 f 0;have aw:=C9 f 1;have b3:=C9 f 2;have cm:=C9 f 3;have ca:=C9 f 4;have cn:=C9 f 5
    go_simp;try rfl) ?_
   refine Mixed.qD4 rfl (by kernel_rfl) (.agg #[.func (.func 279) #[] #[.pointer (some ⟨aB,0,none⟩)],.func (.func 280) #[] #[.pointer (some ⟨aE,0,none⟩),.pointer (some ⟨aC,0,none⟩)]]) (fun w e=>by
    obtain ⟨k,f,V,S⟩:=e;have av:=C9 V 0;have aw:=C9 V 1
    go_simp;try rfl) ?_
   refine Mixed.qD4 rfl (by kernel_rfl) (.agg #[.string s,.slice E G M]) (fun w e=>by
    obtain ⟨k,f,V,S⟩:=e;have av:=C9 k 0;have aw:=C9 k 1
    go_simp;try rfl) ?_
   refine Mixed.qD4 rfl (by kernel_rfl) (.agg #[.func (.func 279) #[] #[.pointer (some ⟨aI,0,none⟩)],.func (.func 280) #[] #[.pointer (some ⟨aA,0,none⟩),.pointer (some ⟨aG,0,none⟩)]]) (fun w e=>by
    obtain ⟨k,f,V,S⟩:=e;have av:=C9 S 0;have aw:=C9 S 1
    go_simp;try rfl) ?_
   refine Mixed.qD4 rfl (by kernel_rfl) (.agg #[.string s,.slice E G M]) (fun w e=>by
    obtain ⟨k,f,V,S⟩:=e;have av:=C9 k 0;have aw:=C9 k 1
    go_simp;try rfl) ?_
   refine Mixed.qEe rfl (by kernel_rfl) rfl (by kernel_rfl) ?_ ?_
   focus
    go_wp2_with fail
    refine (aT.o _ _ (b.o _ u.o).2.2.2.1 (b.o _ u.o).2.2.1).mono ?_;rintro q aj ⟨rfl,c⟩;have p:=J9 (u.o.trans (c.mono u.o.size));clear c u;go_wp2;refine ⟨(b.o _ p.o).1,?_⟩;refine Mixed.qEe rfl (by kernel_rfl) rfl (by kernel_rfl) ?_ ?_
   focus
    go_wp2_with fail
    refine (az.o _ _ (b.o _ p.o).2.2.2.2.1 (b.o _ p.o).2.2.1).mono ?_;rintro q ak ⟨rfl,c⟩;have z:=J9 (p.o.trans (c.mono p.o.size));clear c p;go_wp2;refine ⟨(b.o _ z.o).1,?_⟩;refine Mixed.qEe rfl (by kernel_rfl) rfl (by kernel_rfl) ?_ ?_
   focus
    go_wp2_with fail
    refine (aP.o _ (b.o _ z.o).2.1).mono ?_;rintro q ac ⟨rfl,c⟩;have am:Hid (qaj ac none []):=.inl rfl;have ai:=J9 (z.o.trans (c.mono z.o.size));clear c z;go_wp2;refine ⟨(b.o _ ai.o).1,?_⟩;refine Mixed.qD4 rfl (by kernel_rfl) (.tuple #[.agg #[.string ⟨#[]⟩,.slice none 0 0],.bool false]) (fun w e=>by clear e;go_simp;try rfl) ?_;refine Mixed.qD4 rfl (by kernel_rfl) (.agg #[.string ⟨#[]⟩,.slice none 0 0]) (fun w e=>by clear e;go_simp;try rfl) ?_;refine Mixed.qD4 rfl (by kernel_rfl) (.bool false) (fun w e=>by clear e;go_simp;try rfl) ?_;refine Mixed.qD9 rfl (by kernel_rfl) ?_;obtain ⟨ao,aW⟩:=N9 (ac.alloc (.cells #[.string ⟨#[]⟩,.slice none 0 0] 24));have d:ao.heap[ac.heap.size]?=some (.cells #[.string ⟨#[]⟩,.slice none 0 0] 24 (0,0)):=(by rw [<- aW];exact World.alloc_heap_new _ _);have h:Below ac.heap.size ac ao:=(by rw [<- aW];exact B0);obtain ⟨r,O⟩:=N9 (ac.heap.size);rw [O] at d;have aH:o+1<r:=(by have:=(b.o _ ai.o).2.2.2.2.2.2;omega);have J:=J9 (ai.o.trans (h.mono ai.o.size));have am:=J9 (am.o.below h);clear h ai;go_wp2;refine ⟨(b.o _ J.o).1,?_⟩
   rotate_left
   focus
    obtain ⟨ap,aM⟩:=N9 (ak.alloc (.cells #[.string ⟨#[]⟩,.slice none 0 0] 24));have d:ap.heap[ak.heap.size]?=some (.cells #[.string ⟨#[]⟩,.slice none 0 0] 24 (0,0)):=(by rw [<- aM];exact World.alloc_heap_new _ _);have h:Below ak.heap.size ak ap:=(by rw [<- aM];exact B0);obtain ⟨r,O⟩:=N9 (ak.heap.size);rw [O] at d;have aH:o+1<r:=(by have:=(b.o _ z.o).2.2.2.2.2.2;omega);have v:=J9 (z.o.trans (h.mono z.o.size));clear h z;go_wp2;refine ⟨(b.o _ v.o).1,?_⟩
   rotate_left
   focus
    obtain ⟨ag,ah⟩:=N9 (aj.alloc (.cells #[.string ⟨#[]⟩,.slice none 0 0] 24));have d:ag.heap[aj.heap.size]?=some (.cells #[.string ⟨#[]⟩,.slice none 0 0] 24 (0,0)):=(by rw [<- ah];exact World.alloc_heap_new _ _);have h:Below aj.heap.size aj ag:=(by rw [<- ah];exact B0);obtain ⟨r,O⟩:=N9 (aj.heap.size);rw [O] at d;have aH:o+1<r:=(by have:=(b.o _ p.o).2.2.2.2.2.2;omega);have g:=J9 (p.o.trans (h.mono p.o.size));clear h p;go_wp2;refine ⟨(b.o _ g.o).1,?_⟩;refine Mixed.qD9 rfl (by kernel_rfl) ?_
    go_wp2_with fail
    refine (az.o _ _ (b.o _ g.o).2.2.2.2.1 (b.o _ g.o).2.2.1).mono ?_;rintro q ap ⟨rfl,c⟩;have v:=J9 (g.o.trans (c.mono g.o.size));have d:=(c.block _ (Qb.1 d).1).trans d;clear c g;go_wp2;refine ⟨(b.o _ v.o).1,?_⟩
   rotate_left
   focus
    obtain ⟨ag,ah⟩:=N9 (K.alloc (.cells #[.string ⟨#[]⟩,.slice none 0 0] 24));have d:ag.heap[K.heap.size]?=some (.cells #[.string ⟨#[]⟩,.slice none 0 0] 24 (0,0)):=(by rw [<- ah];exact World.alloc_heap_new _ _);have h:Below K.heap.size K ag:=(by rw [<- ah];exact B0);obtain ⟨r,O⟩:=N9 (K.heap.size);rw [O] at d;have aH:o+1<r:=(by have:=(b.o _ u.o).2.2.2.2.2.2;omega);have g:=J9 (u.o.trans (h.mono u.o.size));clear h u;go_wp2;refine ⟨(b.o _ g.o).1,?_⟩;refine Mixed.qD9 rfl (by kernel_rfl) ?_
    go_wp2_with fail
    refine (aT.o _ _ (b.o _ g.o).2.2.2.1 (b.o _ g.o).2.2.1).mono ?_;rintro q ce ⟨rfl,c⟩;have W:=J9 (g.o.trans (c.mono g.o.size));have d:=(c.block _ (Qb.1 d).1).trans d;clear c g;go_wp2;refine ⟨(b.o _ W.o).1,?_⟩;refine Mixed.qD9 rfl (by kernel_rfl) ?_
    go_wp2_with fail
    refine (az.o _ _ (b.o _ W.o).2.2.2.2.1 (b.o _ W.o).2.2.1).mono ?_;rintro q ap ⟨rfl,c⟩;have v:=J9 (W.o.trans (c.mono W.o.size));have d:=(c.block _ (Qb.1 d).1).trans d;clear c W;go_wp2;refine ⟨(b.o _ v.o).1,?_⟩
   rotate_left 2
   iterate 3
    focus
     refine Mixed.qD9 rfl (by kernel_rfl) ?_
     go_wp2_with fail
     refine (aP.o _ (b.o _ v.o).2.1).mono ?_;rintro q ao ⟨rfl,c⟩;have am:Hid (qaj ao none []):=.inl rfl;have J:=J9 (v.o.trans (c.mono v.o.size));have d:=(c.block _ (Qb.1 d).1).trans d;clear c v;go_wp2;refine ⟨(b.o _ J.o).1,?_⟩;refine Mixed.qD4 rfl (by kernel_rfl) (.tuple #[.agg #[.string ⟨#[]⟩,.slice none 0 0],.bool false]) (fun w e=>by clear e;go_simp;try rfl) ?_;refine Mixed.qD4 rfl (by kernel_rfl) (.agg #[.string ⟨#[]⟩,.slice none 0 0]) (fun w e=>by clear e;go_simp;try rfl) ?_;refine Mixed.qD4 rfl (by kernel_rfl) (.bool false) (fun w e=>by clear e;go_simp;try rfl) ?_
    rotate_left
   all_goals
    refine Mixed.qD9 rfl (by kernel_rfl) ?_;have ct:=C9 d 0;have cl:=C9 d 1;have cw:=Qr d;have y:=J9 (qrm (n:=n) (by omega) d am.o (b.o _ J.o).2.2.1 (b.o _ J.o).1.1 (⟨#[]⟩) none 0 0);have bp:Hid (Below n w ao):=(b.o _ J.o).2.2.2.2.2.1;have ar:=J9 (b.o _ J.o).1;clear d am J;go_wp2;refine ⟨⟨(y.o.2.2.2.2.2 n (by omega)).trans ar.o.1,(y.o.2.2.2.2.2 (n+1) (by omega)).trans ar.o.2.1,(y.o.2.2.2.2.2 o (by omega)).trans ar.o.2.2.1,(y.o.2.2.2.2.2 (o+1) (by omega)).trans ar.o.2.2.2⟩,?_⟩;simp only [Mixed.qEd,Qq,Qy];go_wp2
    go_meet
    exact ⟨r,false,none,0,0,[],⟨#[]⟩,rfl,rfl,y.o.1,y.o.2.1,rfl,Qs _,bp.o.trans y.o.2.2.2.2.1,y.o.2.2.2.1,y.o.2.2.1,rfl⟩
  | some R=>
   have aJ:Hid (R.length=l):=aJ.o R rfl;refine Mixed.qEg (fun x=>x.heap[n]?=some (.cells #[.string s,.slice E G M] 24 (0,0))/\x.heap[n+1]?=some (.cells #[.int .i64 Z,.int .u8 ab,.string (sB m),.slice A l cap,.string (sB ex),.bool al] 163 (0,0))/\x.heap[o]?=some (.cells #[.func (.func 279) #[] #[.pointer (some ⟨aB,0,none⟩)],.func (.func 280) #[] #[.pointer (some ⟨aE,0,none⟩),.pointer (some ⟨aC,0,none⟩)]] 267 (0,0))/\x.heap[o+1]?=some (.cells #[.func (.func 279) #[] #[.pointer (some ⟨aI,0,none⟩)],.func (.func 280) #[] #[.pointer (some ⟨aA,0,none⟩),.pointer (some ⟨aG,0,none⟩)]] 267 (0,0))) 13 (.pure 0 (.pure 1 (.pure 2 (.pure 4 (.pure 5 (.two 3 (.two 6 (.two 7 (.pure 8 (.pure 9 (.pure 10 (.one 11 (.one 12 .done))))) 11 (.one 7 (.pure 8 (.pure 9 (.pure 10 (.one 12 .done)))))) 11 (.one 6 (.one 7 (.pure 8 (.pure 9 (.pure 10 (.one 12 .done))))))) 11 (.one 3 (.one 6 (.one 7 (.pure 8 (.pure 9 (.pure 10 (.one 12 .done))))))))))))) (by kernel_rfl) (by kernel_rfl) (by rw [ay];exact (b.o _ u.o).1) ?_;rw [ay];clear ay;refine Mixed.qD4 rfl (by kernel_rfl) (.agg #[.int .i64 Z,.int .u8 ab,.string (sB m),.slice A l cap,.string (sB ex),.bool al]) (fun w e=>by
    obtain ⟨k,f,V,S⟩:=e;have av:=C9 f 0;have aw:=C9 f 1;have b3:=C9 f 2;have cm:=C9 f 3;have ca:=C9 f 4;have cn:=C9 f 5
    go_simp;try rfl) ?_
   refine Mixed.qD4 rfl (by kernel_rfl) (.agg #[.func (.func 279) #[] #[.pointer (some ⟨aB,0,none⟩)],.func (.func 280) #[] #[.pointer (some ⟨aE,0,none⟩),.pointer (some ⟨aC,0,none⟩)]]) (fun w e=>by
    obtain ⟨k,f,V,S⟩:=e;have av:=C9 V 0;have aw:=C9 V 1
    go_simp;try rfl) ?_
   refine Mixed.qD4 rfl (by kernel_rfl) (.agg #[.string s,.slice E G M]) (fun w e=>by
    obtain ⟨k,f,V,S⟩:=e;have av:=C9 k 0;have aw:=C9 k 1
    go_simp;try rfl) ?_
   refine Mixed.qD4 rfl (by kernel_rfl) (.agg #[.func (.func 279) #[] #[.pointer (some ⟨aI,0,none⟩)],.func (.func 280) #[] #[.pointer (some ⟨aA,0,none⟩),.pointer (some ⟨aG,0,none⟩)]]) (fun w e=>by
    obtain ⟨k,f,V,S⟩:=e;have av:=C9 S 0;have aw:=C9 S 1
    go_simp;try rfl) ?_
   refine Mixed.qD4 rfl (by kernel_rfl) (.agg #[.string s,.slice E G M]) (fun w e=>by
    obtain ⟨k,f,V,S⟩:=e;have av:=C9 k 0;have aw:=C9 k 1
    go_simp;try rfl) ?_
   refine Mixed.qEe rfl (by kernel_rfl) rfl (by kernel_rfl) ?_ ?_
   focus
    go_wp2_with fail
    refine (aT.o _ _ (b.o _ u.o).2.2.2.1 (b.o _ u.o).2.2.1).mono ?_;rintro q aj ⟨rfl,c⟩;have p:=J9 (u.o.trans (c.mono u.o.size));clear c u;go_wp2;refine ⟨(b.o _ p.o).1,?_⟩;refine Mixed.qEe rfl (by kernel_rfl) rfl (by kernel_rfl) ?_ ?_
   focus
    go_wp2_with fail
    refine (az.o _ _ (b.o _ p.o).2.2.2.2.1 (b.o _ p.o).2.2.1).mono ?_;rintro q ak ⟨rfl,c⟩;have z:=J9 (p.o.trans (c.mono p.o.size));clear c p;go_wp2;refine ⟨(b.o _ z.o).1,?_⟩;refine Mixed.qEe rfl (by kernel_rfl) rfl (by kernel_rfl) ?_ ?_
   focus
    go_wp2_with fail
    refine (aP.o _ (b.o _ z.o).2.1).mono ?_;rintro q ac ⟨aD,rfl,aR,c⟩;obtain ⟨ad,af,aO,aZ,-⟩:=aR.ops;rw [aJ.o] at aO;subst aO;have am:=J9 aZ;clear aZ aR;have ai:=J9 (z.o.trans (c.mono z.o.size));clear c z;go_wp2;refine ⟨(b.o _ ai.o).1,?_⟩;refine Mixed.qD4 rfl (by kernel_rfl) (.tuple #[.agg #[.string (sB m),.slice ad l af],.bool true]) (fun w e=>by clear e;go_simp;try rfl) ?_;refine Mixed.qD4 rfl (by kernel_rfl) (.agg #[.string (sB m),.slice ad l af]) (fun w e=>by clear e;go_simp;try rfl) ?_;refine Mixed.qD4 rfl (by kernel_rfl) (.bool true) (fun w e=>by clear e;go_simp;try rfl) ?_;refine Mixed.qD9 rfl (by kernel_rfl) ?_;obtain ⟨ao,aW⟩:=N9 (ac.alloc (.cells #[.string ⟨#[]⟩,.slice none 0 0] 24));have d:ao.heap[ac.heap.size]?=some (.cells #[.string ⟨#[]⟩,.slice none 0 0] 24 (0,0)):=(by rw [<- aW];exact World.alloc_heap_new _ _);have h:Below ac.heap.size ac ao:=(by rw [<- aW];exact B0);obtain ⟨r,O⟩:=N9 (ac.heap.size);rw [O] at d;have aH:o+1<r:=(by have:=(b.o _ ai.o).2.2.2.2.2.2;omega);have J:=J9 (ai.o.trans (h.mono ai.o.size));have am:=J9 (am.o.below h);clear h ai;go_wp2;refine ⟨(b.o _ J.o).1,?_⟩
   rotate_left
   focus
    obtain ⟨ap,aM⟩:=N9 (ak.alloc (.cells #[.string ⟨#[]⟩,.slice none 0 0] 24));have d:ap.heap[ak.heap.size]?=some (.cells #[.string ⟨#[]⟩,.slice none 0 0] 24 (0,0)):=(by rw [<- aM];exact World.alloc_heap_new _ _);have h:Below ak.heap.size ak ap:=(by rw [<- aM];exact B0);obtain ⟨r,O⟩:=N9 (ak.heap.size);rw [O] at d;have aH:o+1<r:=(by have:=(b.o _ z.o).2.2.2.2.2.2;omega);have v:=J9 (z.o.trans (h.mono z.o.size));clear h z;go_wp2;refine ⟨(b.o _ v.o).1,?_⟩
   rotate_left
   focus
    obtain ⟨ag,ah⟩:=N9 (aj.alloc (.cells #[.string ⟨#[]⟩,.slice none 0 0] 24));have d:ag.heap[aj.heap.size]?=some (.cells #[.string ⟨#[]⟩,.slice none 0 0] 24 (0,0)):=(by rw [<- ah];exact World.alloc_heap_new _ _);have h:Below aj.heap.size aj ag:=(by rw [<- ah];exact B0);obtain ⟨r,O⟩:=N9 (aj.heap.size);rw [O] at d;have aH:o+1<r:=(by have:=(b.o _ p.o).2.2.2.2.2.2;omega);have g:=J9 (p.o.trans (h.mono p.o.size));clear h p;go_wp2;refine ⟨(b.o _ g.o).1,?_⟩;refine Mixed.qD9 rfl (by kernel_rfl) ?_
    go_wp2_with fail
    refine (az.o _ _ (b.o _ g.o).2.2.2.2.1 (b.o _ g.o).2.2.1).mono ?_;rintro q ap ⟨rfl,c⟩;have v:=J9 (g.o.trans (c.mono g.o.size));have d:=(c.block _ (Qb.1 d).1).trans d;clear c g;go_wp2;refine ⟨(b.o _ v.o).1,?_⟩
   rotate_left
   focus
    obtain ⟨ag,ah⟩:=N9 (K.alloc (.cells #[.string ⟨#[]⟩,.slice none 0 0] 24));have d:ag.heap[K.heap.size]?=some (.cells #[.string ⟨#[]⟩,.slice none 0 0] 24 (0,0)):=(by rw [<- ah];exact World.alloc_heap_new _ _);have h:Below K.heap.size K ag:=(by rw [<- ah];exact B0);obtain ⟨r,O⟩:=N9 (K.heap.size);rw [O] at d;have aH:o+1<r:=(by have:=(b.o _ u.o).2.2.2.2.2.2;omega);have g:=J9 (u.o.trans (h.mono u.o.size));clear h u;go_wp2;refine ⟨(b.o _ g.o).1,?_⟩;refine Mixed.qD9 rfl (by kernel_rfl) ?_
    go_wp2_with fail
    refine (aT.o _ _ (b.o _ g.o).2.2.2.1 (b.o _ g.o).2.2.1).mono ?_;rintro q ce ⟨rfl,c⟩;have W:=J9 (g.o.trans (c.mono g.o.size));have d:=(c.block _ (Qb.1 d).1).trans d;clear c g;go_wp2;refine ⟨(b.o _ W.o).1,?_⟩;refine Mixed.qD9 rfl (by kernel_rfl) ?_
    go_wp2_with fail
    refine (az.o _ _ (b.o _ W.o).2.2.2.2.1 (b.o _ W.o).2.2.1).mono ?_;rintro q ap ⟨rfl,c⟩;have v:=J9 (W.o.trans (c.mono W.o.size));have d:=(c.block _ (Qb.1 d).1).trans d;clear c W;go_wp2;refine ⟨(b.o _ v.o).1,?_⟩
   rotate_left 2
   iterate 3
    focus
     refine Mixed.qD9 rfl (by kernel_rfl) ?_
     go_wp2_with fail
     refine (aP.o _ (b.o _ v.o).2.1).mono ?_;rintro q ao ⟨aD,rfl,aR,c⟩;obtain ⟨ad,af,aO,aZ,-⟩:=aR.ops;rw [aJ.o] at aO;subst aO;have am:=J9 aZ;clear aZ aR;have J:=J9 (v.o.trans (c.mono v.o.size));have d:=(c.block _ (Qb.1 d).1).trans d;clear c v;go_wp2;refine ⟨(b.o _ J.o).1,?_⟩;refine Mixed.qD4 rfl (by kernel_rfl) (.tuple #[.agg #[.string (sB m),.slice ad l af],.bool true]) (fun w e=>by clear e;go_simp;try rfl) ?_;refine Mixed.qD4 rfl (by kernel_rfl) (.agg #[.string (sB m),.slice ad l af]) (fun w e=>by clear e;go_simp;try rfl) ?_;refine Mixed.qD4 rfl (by kernel_rfl) (.bool true) (fun w e=>by clear e;go_simp;try rfl) ?_
    rotate_left
   all_goals
    refine Mixed.qD9 rfl (by kernel_rfl) ?_;have ct:=C9 d 0;have cl:=C9 d 1;have cw:=Qr d;have y:=J9 (qrm (n:=n) (by omega) d am.o (b.o _ J.o).2.2.1 (b.o _ J.o).1.1 (sB m) ad l af);have bp:Hid (Below n w ao):=(b.o _ J.o).2.2.2.2.2.1;have ar:=J9 (b.o _ J.o).1;clear d am J;go_wp2;refine ⟨⟨(y.o.2.2.2.2.2 n (by omega)).trans ar.o.1,(y.o.2.2.2.2.2 (n+1) (by omega)).trans ar.o.2.1,(y.o.2.2.2.2.2 o (by omega)).trans ar.o.2.2.1,(y.o.2.2.2.2.2 (o+1) (by omega)).trans ar.o.2.2.2⟩,?_⟩;simp only [Mixed.qEd,Qq,Qy];go_wp2
    go_meet
    exact ⟨r,true,ad,af,l,R,sB m,rfl,rfl,y.o.1,y.o.2.1,aJ.o,cc.o,bp.o.trans y.o.2.2.2.2.1,y.o.2.2.2.1,y.o.2.2.1,rfl⟩
 case rest=>
  obtain ⟨r,aY,ad,af,aq,R,aQ,rfl,rfl,bA⟩:=hcut;obtain ⟨bg,bw,bP,bR,bO,a2,bZ,bq⟩:=bA.o;have bh:=J9 (bS.o aQ ad af aq R bP bR wc bw bZ);obtain ⟨cd,bz⟩:=N9 ((decide (aQ=s)&&decide (R=C)));rw [bz] at bh bq;have bx:Hid (qqr m L ex s C=(aY&&cd)):=by show _=_;rw [bC.o];exact bq
  have bT:=J9 bO;have cH:=C9 bg 0;have cD:=C9 bg 1;have cJ:=C9 a2 0;have cE:=C9 a2 1;have cg:Hid (n<=wc.heap.size):=Zb (Qb.1 a2).1;clear bg bw bP bR bO a2 bZ bq bA bz bS aP aT az b u bC aJ;cases aY with
  | false=>
   go_wp2;go_ret;exact ⟨by rw [bx.o];rfl,by rw [bM.o];exact bT.o⟩
  | true=>
   go_wp2_with fail
   refine bh.o.mono ?_;rintro q cy ⟨rfl,c⟩;have b5:=J9 (bT.o.trans (c.mono cg.o));clear c bh;go_wp2;go_ret;exact ⟨by rw [bx.o,Bool.true_and];rfl,by rw [bM.o];exact b5.o⟩
end Go.Proofs.YtjafbmfcedijmaaGreatDoor
namespace Go.Proofs.YtjafbmfcedijmaaGreatDoor
open Tryz
open Go.RowKit Go.Shelf
attribute [local go_sem] Oper.semAt_some
attribute [local irreducible] Go.Mixed.qD8
def qqM (h:Str) (C:List Tr) (k:Ke):Bool:=qqr k.2.2.1 k.2.2.2.1 k.2.2.2.2.1 (sB h) C
def qga (k:Ke):Bool:=!k.2.2.2.2.2
def qlg (h:Str) (C:List Tr):List Ke:=(candK h C).filter qga
def qd8 (h:Str) (C:List Tr):Option Ke:=(qlg h C).find? (qqM h C)
def codeF (h:Str) (I:List Tr) (C:List Tr):Int:=if qa6 (sB h) I≠0 then qa6 (sB h) I else if (qlg h C).isEmpty then 11 else 2
def qjn (w:World) (y:Str) (I:List Tr) (o:Option Ke) (e:Ending) (w':World):Prop:=match o with
 | some h=>∃ k z,e=.returned (.tuple #[enV h.1 h.2.1 h.2.2.1 (.slice k h.2.2.2.1.length z) h.2.2.2.2.1 h.2.2.2.2.2,.int .i64 0])/\qaj w' k h.2.2.2.1/\Below w.heap.size w w'
 | none=>e=.returned (.tuple #[enV 0 0 [] (.slice none 0 0) [] false,.int .i64 (codeF y I (canL (opc (sB y)) I))])/\Below w.heap.size w w'
theorem qsz {h:Str} {C:List Tr} {k:Ke} (p:k∈candK h C):qcU k/\k.2.2.1=h/\k.2.2.2.1.map ks2=C.map ks2/\k.1∈qbG C:=by
 unfold candK qf9 at p;obtain ⟨e,K⟩:=List.mem_filter.1 p;unfold qay at e;obtain ⟨J,z,e⟩:=List.mem_flatMap.1 e;rw [qcv] at e;obtain ⟨E,G⟩:=List.mem_filter.1 e;obtain ⟨y,M⟩:=qsP J 256 (Qa _) k E;exact ⟨M,Qt G,Qt K,y ▸ z⟩
theorem qyO {e:Str} {C:List Tr} {k:Ke} (h:qcU k) (z:k.2.2.1=e) (y:k.2.2.2.1.map ks2=C.map ks2) (n:k.1∈qbG C):k∈candK e C:=by
 unfold candK qf9;refine List.mem_filter.2 ⟨?_,Qn y⟩;unfold qay;refine List.mem_flatMap.2 ⟨k.1,n,?_⟩;rw [qcv];refine List.mem_filter.2 ⟨qqB h 256 ?_,Qn z⟩;obtain ⟨G,J,E,-⟩:=h;omega
theorem qyx {h:Str} {C:List Tr} {y:List Ke} {x:Ke} (M:y++[x] <+: candK h C) (E:∀ t∈y,qga t=true->qqM h C t=false) (J:qga x=true) (K:qqM h C x=true):qd8 h C=some x:=by
 obtain ⟨V,U⟩:=M;unfold qd8 qlg;rw [<- U,List.filter_append,List.filter_append,List.find?_append,List.find?_append];have z:(y.filter qga).find? (qqM h C)=none:=by
  rw [List.find?_eq_none];intro t G;obtain ⟨z,O⟩:=List.mem_filter.1 G;rw [E t z O];decide
 rw [z];simp [J,K]
theorem qlf {y:Str} {C:List Tr} (z:∀ h∈candK y C,qga h=true->qqM y C h=false):qd8 y C=none:=by
 unfold qd8 qlg;rw [List.find?_eq_none];intro h E;obtain ⟨J,G⟩:=List.mem_filter.1 E;rw [z h J G];decide
def cdF (h:List Ke):Int:=if (h.filter qga).isEmpty then 11 else 2
theorem qr1 (h:List Ke) (x:Ke) (y:qga x=false):cdF (h++[x])=cdF h:=by
 unfold cdF;rw [List.filter_append,List.filter_cons_of_neg (by rw [y];decide),List.filter_nil,Zs]
theorem qyH (h:List Ke) (x:Ke) (y:qga x=true):cdF (h++[x])=2:=by
 unfold cdF;rw [List.filter_append];simp [y]
theorem qvY {A B C:World} {cb N:Nat} {row:Option Nat} (e:A.grownBy B (some cb)) (k:B.grownBy C row) (G:N=A.heap.size) (z:∀ r,row=some r->N<=r):A.grownBy C (some cb):=
 ⟨k.os.trans e.os,k.tape.trans e.tape,k.output.trans e.output,Qm e.size k.size,fun h i E=>(k.block h (Zo i e.size) (fun y=>by have:=z h y.symm;omega)).trans (e.block h i E)⟩
theorem qhN {A B:World} {cb:Nat} (h:A.grownBy B (some cb)):qaD cb A B:=⟨h.size,fun o z y e _=>(h.block o (Qb.1 e).1 (fun k=>y (Qw k))).trans e⟩
theorem qhg {W j:World} {A:Option Addr} {L:List Tr} {row:Option Nat} (Z:qaj W A L) (J:W.grownBy j row) (y:∀ r,row=some r->∃ o:Obj,W.heap[r]?=some o/\o.isCells=false):qaj j A L:=by
 rcases Z with rfl | ⟨e,O,rfl,G⟩
 ·exact .inl rfl
 ·refine .inr ⟨e,O,rfl,fun M z=>?_⟩
  have p:∀ b h,W.cell? ⟨e,b,none⟩=some h->j.cell? ⟨e,b,none⟩=some h:=fun b h v=>by
   obtain ⟨o,V,aa⟩:=cells_of_cell v;exact (QN (a:=⟨e,b,none⟩) (grownBy_keeps_cells J y V aa)).trans v
  obtain ⟨E,U,K⟩:=G M z;exact ⟨p _ _ E,p _ _ U,p _ _ K⟩
theorem qqh {W:World} {c h:Nat} {t:Tr} {M K:Value} {m ex:ByteArray} {A:Option Addr} {n cap:Nat} {T:TypeId} (O:W.cell? ⟨c,h+0*3,none⟩=some (.int .i64 t.1)/\W.cell? ⟨c,h+0*3+1,none⟩=some (.int .i64 t.2.1)/\W.cell? ⟨c,h+0*3+2,none⟩=some (.int .i64 t.2.2))
  (G:W.heap[c]?=some (.cells #[M,K,.string m,.slice A n cap,.string ex,.bool false] T (0,0))):False:=by
 obtain ⟨E,z,y⟩:=O;rw [C9 G] at E z y;have J:=(Qb.1 y).1;have:h=0\/h=1\/h=2\/h=3:=by simp at J;omega
 rcases this with rfl | rfl | rfl | rfl
 all_goals first | (cases E;done) | (cases z;done) | (cases y;done)
theorem qhJ {W:World} {c h:Nat} {t:Tr} {T:TypeId} {v:Value} (G:W.cell? ⟨c,h+0*3,none⟩=some (.int .i64 t.1)/\W.cell? ⟨c,h+0*3+1,none⟩=some (.int .i64 t.2.1)/\W.cell? ⟨c,h+0*3+2,none⟩=some (.int .i64 t.2.2))
  (z:Boxed W c T v):False:=by
 obtain ⟨K,J,y⟩:=G;rw [C9 (show W.heap[c]?=_ from z)] at y;have E:=(Qb.1 y).1;simp at E
theorem qDI {w:World} {b:Nat} {T:TypeId} {h:Array Value} (z:w.heap[b]?=some (.cells h T (0,0))) (cs:Array Value):∃ w',w.setRow b cs=w'/\
  w'.heap[b]?=some (.cells cs T (0,0))/\(∀ k,k≠b->w'.heap[k]?=w.heap[k]?)/\Below b w w'/\w'.heap.size=w.heap.size:=
 ⟨_,rfl,setRow_heap w b h cs T (0,0) z,fun k y=>setRow_other w b k cs y,below_setRow (Qc b w) (Qa _) cs,by simp⟩
theorem qDE {w:World} {b:Nat} {T:TypeId} {V O U M Z ab:Value} (aa:w.heap[b]?=some (.cells #[V,O,U,M,Z,ab] T (0,0))) (K z y G J E:Value):∃ w',(((((w.setCell ⟨b,0,none⟩ K).setCell ⟨b,1,none⟩ z).setCell ⟨b,2,none⟩ y).setCell ⟨b,3,none⟩ G).setCell ⟨b,4,none⟩ J).setCell ⟨b,5,none⟩ E=w'/\
  w'.heap[b]?=some (.cells #[K,z,y,G,J,E] T (0,0))/\(∀ k,k≠b->w'.heap[k]?=w.heap[k]?)/\KeepsOthers w w'/\Below b w w'/\w'.heap.size=w.heap.size:=by
 refine ⟨_,rfl,?_,fun k h=>?_,?_,?_,by simp⟩
 ·exact heap_setCell_same _ b 5 _ _ E (heap_setCell_same _ b 4 _ _ J (heap_setCell_same _ b 3 _ _ G (heap_setCell_same _ b 2 _ _ y (heap_setCell_same _ b 1 _ _ z (heap_setCell_same w b 0 _ _ K aa)))))
 ·exact (heap_setCell_other _ ⟨b,5,none⟩ k _ h).trans ((heap_setCell_other _ ⟨b,4,none⟩ k _ h).trans ((heap_setCell_other _ ⟨b,3,none⟩ k _ h).trans ((heap_setCell_other _ ⟨b,2,none⟩ k _ h).trans ((heap_setCell_other _ ⟨b,1,none⟩ k _ h).trans (heap_setCell_other _ ⟨b,0,none⟩ k _ h)))))
 ·exact (((((KeepsOthers.setCell _ _ _).trans (KeepsOthers.setCell _ _ _)).trans (KeepsOthers.setCell _ _ _)).trans (KeepsOthers.setCell _ _ _)).trans (KeepsOthers.setCell _ _ _)).trans (KeepsOthers.setCell _ _ _)
 ·exact ((((((Qc b w).setCell (p:=⟨b,0,none⟩) (Qa _) _).setCell (p:=⟨b,1,none⟩) (Qa _) _).setCell (p:=⟨b,2,none⟩) (Qa _) _).setCell (p:=⟨b,3,none⟩) (Qa _) _).setCell (p:=⟨b,4,none⟩) (Qa _) _).setCell (p:=⟨b,5,none⟩) (Qa _) _
theorem qs0 (g:Str) (dB:g.length<=1000) (Z:Option Addr) (av an:Nat) (I:List Tr) (cQ:I.length=an) (dV:an<=900) (w:World) (cj:qac w) (b4:qaj w Z I) :
  Calls prog 107 #[.agg #[.string (sB g),.slice Z an av]] w (qjn w g I (qd8 g (canL (opc (sB g)) I))):=by
 have bA:=fun w b=>qsU (sB g) Z av I (by omega) w b
 rw [cQ] at bA;have cf:=fun w b=>qsj (sB g) Z av I (by rw [qaH];unfold maxLen;omega) (by omega) w b
 rw [cQ] at cf;have cE:=qdR (opc (sB g)) I;obtain ⟨q,cq⟩:=N9 (canL (opc (sB g)) I);have cI:Hid (canL (opc (sB g)) I=q):=cq;rw [cq] at bA cE |-;obtain ⟨af,co⟩:=N9 (q.length);have c5:af<=1000:=by omega
 obtain ⟨ak,aZ⟩:=N9 (((w.alloc (.cells #[.string (sB g),.slice Z an av] 24)).alloc (.cells #[.int .i64 0,.int .u8 0,.string ⟨#[]⟩,.slice none 0 0,.string ⟨#[]⟩,.bool false] 163)).alloc (.cells #[.int .i64 0] 73));obtain ⟨n,aq⟩:=N9 (w.heap.size);have cl:ak.heap.size=n+1+1+1:=by rw [<- aZ,<- aq];simp
 have bU:Below n w ak:=by rw [<- aZ,<- aq];exact (((B0 (w:=w))).alloc (by simp) _).alloc (by simp;omega) _
 have ap:ak.heap[n]?=some (.cells #[.string (sB g),.slice Z an av] 24 (0,0)):=by
  rw [<- aZ,<- aq];exact (Below.heap_alloc _ _ _ (by simp;omega)).trans ((Below.heap_alloc _ _ _ (by simp)).trans (World.alloc_heap_new w _))
 have cF:ak.heap[n+1]?=some (.cells #[.int .i64 0,.int .u8 0,.string ⟨#[]⟩,.slice none 0 0,.string ⟨#[]⟩,.bool false] 163 (0,0)):=by
  rw [<- aZ,<- aq];refine (Below.heap_alloc _ _ _ (by simp)).trans ?_;have b:=World.alloc_heap_new (w.alloc (.cells #[.string (sB g),.slice Z an av] 24)) (.cells #[.int .i64 0,.int .u8 0,.string ⟨#[]⟩,.slice none 0 0,.string ⟨#[]⟩,.bool false] 163)
  rwa [QL] at b
 have cu:Boxed ak (n+1+1) 73 (.int .i64 0):=by
  rw [<- aZ,<- aq];have b:=Boxed.new ((w.alloc (.cells #[.string (sB g),.slice Z an av] 24)).alloc (.cells #[.int .i64 0,.int .u8 0,.string ⟨#[]⟩,.slice none 0 0,.string ⟨#[]⟩,.bool false] 163)) 73 (.int .i64 0)
  rwa [QL,QL] at b
 have bK:Below w.heap.size w ak:=by rw [aq];exact bU
 have cB:=bA ak (b4.below bK);have dS:0 < n:=by rw [<- aq];exact cj.lt
 have c7:qac ak:=cj.below bK;have cm:=C9 ap 0;have bW:=C9 ap 1;have df:=J9 (b4.below bK);refine callsIn_wide.1 (callsIn_of_wp_marks (n:=3) func107 rfl trivial ?_ rfl);simp only [ntmps107,Zx,Qv,QH,Nat.reduceAdd,Nat.reduceSub,Array.replicate_succ,Array.replicate_zero,List.push_toArray,List.append_toArray,Zk,List.cons_append];refine wpIn_wide.2 ?_
 go_wp2_with fail
 refine cB.mono ?_;rintro h ax ⟨dQ,rfl,cM,bQ⟩;obtain ⟨U,am,rfl,b0,-,-⟩:=cM.ops;rw [co];obtain ⟨e,o⟩:=N9 (ax.heap.size);obtain ⟨aw,bm⟩:=N9 ((ax.alloc (.cells #[.string (sB g),.slice U af am] 24)).alloc (.cells #[.int .i64 11] 73));have ay:aw.heap.size=e+1+1:=by rw [<- bm,<- o];simp
 have aU:Below e ax aw:=by rw [<- bm,<- o];exact ((B0 (w:=ax))).alloc (by simp) _
 have dp:n+3<=e:=by have:=bQ.size;omega
 have bF:aw.heap[e]?=some (.cells #[.string (sB g),.slice U af am] 24 (0,0)):=by
  rw [<- bm,<- o];exact (Below.heap_alloc _ _ _ (by simp)).trans (World.alloc_heap_new ax _)
 have bT:Boxed aw (e+1) 73 (.int .i64 11):=by
  rw [<- bm,<- o];have b:=Boxed.new (ax.alloc (.cells #[.string (sB g),.slice U af am] 24)) 73 (.int .i64 11)
  rwa [QL] at b
 have b5:=qmW (sB g) U af am aw;rw [ay] at b5;have bD:=C9 bF 0;have bJ:=C9 bF 1
 go_wp2_with fail
 refine b5.mono ?_;rintro h K ⟨rfl,aW⟩;have ce:K.heap.size=e+1+1+1:=by rw [<- aW];simp;omega
 have a8:Below aw.heap.size aw K:=by rw [<- aW];exact B0
 have c2:K.heap[e+1+1]?=some (.cells #[.string (sB g),.slice U af am] 24 (0,0)):=by
  rw [<- aW,<- ay];exact World.alloc_heap_new aw _
 have aL:Below (n+1+1+1) ak K:=(bQ.mono (by omega)).trans ((aU.mono (by omega)).trans (a8.mono (by omega)));have cS:=aU.trans (a8.mono (by omega));have cV:=J9 ((aL.block n (by omega)).trans ap);have cx:=J9 ((aL.block (n+1) (by omega)).trans cF);have dc:Hid (Boxed K (n+1+1) 73 (.int .i64 0)):=(aL.block _ (by omega)).trans cu;have dH:=J9 ((a8.block e (by omega)).trans bF);have cO:Hid (Boxed K (e+1) 73 (.int .i64 11)):=(a8.block _ bT.lt).trans bT;have cZ:=J9 (bU.trans (aL.mono (by omega)));have dh:Hid (qac K):=c7.below (by rw [cl];exact aL);have cD:Hid (qaj K U q):=b0.below (by rw [o];exact cS);have dj:Hid (qaj K Z I):=df.o.below (by rw [cl];exact aL);have b7:∀ aX,U=some aX->q≠[]->aX.block≠e+1:=fun aX aG V=>by
  rcases b0 with b | ⟨aM,bB,h,P⟩
  ·exact absurd b V
  ·rw [aG] at h
   obtain rfl:=Qw h;have dK:aM<ax.heap.size:=Qp ax _ (P 0 (Q9.2 V)).1;show aM≠e+1;omega
 have dr:=J9 b7;have cr:=qlW 2 (e+1+1) (e+1) g U am af q co c5 K c2 cD.o dh.o (by omega) (by omega) b7 (by omega);have ch:=J9 aq;have dz:=J9 co;have cn:=J9 cf;have l:Hid (n+3<=e):=dp;have dJ:Hid (∀ (a:Ee) (ac:World) (dE:Option Addr),qcU a.k->qaj ac a.A a.L->qaj ac U q->Calls prog 151 #[.agg #[.string (sB g),.slice U af am],eeV a] ac fun h du=>h=.returned (.bool (qqM g q a.k))/\Below ac.heap.size ac du):=fun a ac dE bN C M=>by
  have b:=bN.ok;exact qkX a.g a.o a.m (by have:=b.m;simp only [Ee.k] at this;omega) b.up a.A a.cap a.L.length a.L rfl (by have:=b.len;simp only [Ee.k] at this;omega) a.ex (by have:=b.ex;simp only [Ee.k] at this;omega) a.al (sB g) U am af q dz.o c5 ac C M
 clear b5 c2 a8 bU ap cF cu bF bT aW aZ aq cl ay bA cf cB cm bW bD bJ c7 cj b4 df bK bQ cM b0 o aU bm aL cS b7 cq dB cE ak ax aw
 go_wp2_with fail
 refine wpIn_wide.1 (Stops.qEN (F:=Fence.wide) (n:=3) rfl (by omega) (gf:=201) (lb:=#[.pointer (some ⟨e+1+1,0,none⟩)]) rfl trivial (enters_of func201 (by kernel_rfl) rfl)
  cr (fun b O=>b.trans O) (fun k dy ag dm _ dF aR=>qaD.put k dy ag dm dF aR) (fun _=>rfl)
  (fun G k=>(∀ X∈G,qga X.k=true->qqM g q X.k=false)/\Boxed k (e+1) 73 (.int .i64 (cdF (G.map Ee.k)))/\K.grownBy k (some (e+1)))
  (fun G k=>∃ p a,G=p++[a]/\qd8 g q=some a.k/\k.heap[n+1]?=some (.cells #[.int .i64 a.g,.int .u8 a.o,.string (sB a.m),a.v,.string (sB a.ex),.bool a.al] 163 (0,0))/\Boxed k (n+1+1) 73 (.int .i64 0)/\qaj k a.A a.L/\Below n w k)
  (fun cL cU c4 row b r ao=>⟨b.1,b.2.1.kept r (fun h=>by have:=(ao _ h.symm).1;omega),qvY b.2.2 r rfl fun aj h=>(ao aj h).1⟩)
  (fun cL cU c4 row b r ao=>by
   obtain ⟨p,a,C,M,aC,a4,bx,bE⟩:=b;have V:∀ O,O<e+1+1+1->some O≠row:=fun O a3 h=>by have:=(ao O h.symm).1;omega
   exact ⟨p,a,C,M,(r.block _ (Qb.1 aC).1 (V _ (by have:=l.o;omega))).trans aC,a4.kept r (V _ (by have:=l.o;omega)),qhg bx r fun aj h=>(ao aj h).2,bE.grown r (by have:=a4.lt;omega) fun aj h=>by have:=(ao aj h).1;have:=l.o;omega⟩)
  ⟨fun X z=>(by cases z),cO.o,World.grownBy.refl _ _⟩
  (fun G a cJ k=>ShE g q G a k/\∃ aP,e+3<=aP/\k.heap[aP]?=some (.cells #[.int .i64 a.g,.int .u8 a.o,.string (sB a.m),a.v,.string (sB a.ex),.bool a.al] 163 (0,0))/\cJ={tmps:=#[.agg #[.string (sB g),.slice Z an av],.pointer (some ⟨n,0,none⟩),.pointer (some ⟨n+1,0,none⟩),.pointer (some ⟨n+1+1,0,none⟩),.pointer (some ⟨e,0,none⟩),.pointer (some ⟨e+1,0,none⟩),.pointer (some ⟨aP,0,none⟩),undef,.agg #[.string (sB g),.slice Z an av],.agg #[.string (sB g),.slice U af am],.agg #[.string (sB g),.slice U af am],.func (.func 201) #[] #[.pointer (some ⟨e+1+1,0,none⟩)],eeV a,undef,undef,undef,undef,undef,undef,undef,undef,undef,undef,undef,undef,undef],defers:=[]})
  (fun G a cL cU c4 row b r ao=>by
   obtain ⟨W,aP,C,M,aC⟩:=b;exact ⟨⟨W.1,qhg W.2 r fun aj h=>(ao aj h).2⟩,aP,C,(grownBy_keeps_cells r (fun aj h=>(ao aj h).2) M rfl).trans M,aC⟩)
  ?assign ?body ?done ?stop)
 case assign=>
  rintro cN G a k dR ⟨bw,bu,aQ⟩ az ah;obtain ⟨a2,ag,aT,aD,aV,ar,a0,ck⟩:=a;obtain ⟨cW,bl⟩:=N9 (ar.length);simp only [eeV,enV,Ee.v,bl] at ah |-;have aE:=aQ.size
  gi_wp2
  exact ah _ _ ((KeepsOthers.alloc _ _).from _) (qaD.of_below (up1 _ _)) ⟨bw,bu.alloc _,World.grownBy.trans aQ (qbj (up1 _ _) _)⟩ ⟨⟨az.1,az.2.below (up1 _ _)⟩,k.heap.size,by omega,World.alloc_heap_new k _,rfl⟩
 case body=>
  rintro cN G a cJ k ⟨bw,bu,aQ⟩ ⟨az,aP,dZ,P,rfl⟩;have bN:qcU a.k:=(qsz (az.1.subset (by simp))).1;have cK:(G++[a]).map Ee.k=G.map Ee.k++[a.k]:=by simp
  have ab:=qhN aQ;have aY:=dJ.o a k a.A bN az.2 (cD.o.qEH ab dr.o);have cd:=ab.2 e _ (by omega) dH.o rfl;have aa:=ab.2 (n+1) _ (by have:=l.o;omega) cx.o rfl;have ad:=ab.boxed dc.o (by have:=l.o;omega);have aE:=aQ.size;have dC:Hid ((G++[a]).map Ee.k <+: candK g q):=az.1;have dt:=J9 az.2;have I1:=J9 bw;have I2:=J9 bu;have I3:=J9 aQ;have al:=J9 aa;have ai:=J9 ad;have cG:Hid (e+3<=k.heap.size):=by show _<=_;omega
  have ct:=J9 cK;obtain ⟨a2,ag,aT,aD,aV,ar,a0,ck⟩:=a;obtain ⟨cW,bl⟩:=N9 (ar.length);have dl:=J9 bl;simp only [eeV,enV,Ee.v,bl] at aY P |-;have cz:=J9 P;have c0:=C9 P 0;have cC:=C9 P 1;have cy:=C9 P 2;have de:=C9 P 3;have cA:=C9 P 4;have cH:=C9 P 5;have bD:=C9 cd 0;have bJ:=C9 cd 1;clear bw bu aQ az bN ab cd aa ad aE P cK bl;cases ck with
  | true=>
   have dw:Hid (KeepsFrom K.heap.size k k/\qaD (e+1) k k/\(∀ X∈G++[(⟨a2,ag,aT,aD,aV,ar,a0,true⟩:Ee)],qga X.k=true->qqM g q X.k=false)/\Boxed k (e+1) 73 (.int .i64 (cdF ((G++[(⟨a2,ag,aT,aD,aV,ar,a0,true⟩:Ee)]).map Ee.k)))/\K.grownBy k (some (e+1))):=by
    refine ⟨qaC (Qc _ _) _,qaD.refl _ _,fun X z b=>?_,?_,I3.o⟩
    ·rcases QO.1 z with z | z
     ·exact I1.o X z b
     ·rw [QA.1 z] at b
      cases b
    ·rw [ct.o,qr1 _ _ rfl]
     exact I2.o
   clear aY
   gi_wp2
   have b:=dw.o;rw [ce] at b;exact b
  | false=>
   obtain ⟨ds,b1⟩:=N9 (qqM g q (Ee.k ⟨a2,ag,aT,aD,aV,ar,a0,false⟩));rw [b1] at aY;have da:=J9 b1;clear b1
   gi_wp2_with fail
   refine ⟨trivial,CallsIn.inRound cN (callsIn_wide.2 aY) |>.mono ?_⟩;rintro h J ⟨rfl,o⟩;have aA:=J9 o;have c1:Hid (K.grownBy J (some (e+1))):=World.grownBy.trans I3.o (qbj o _);have bi:=(o.block _ I2.o.lt).trans I2.o;cases ds with
   | true=>
    have C:=(o.block _ (Qb.1 al.o).1).trans al.o;have M:Boxed J (n+1+1) 73 (.int .i64 0):=(o.block _ ai.o.lt).trans ai.o;have aH:=(o.block aP (Qb.1 cz.o).1).trans cz.o;have dW:=C9 aH 0;have dO:=C9 aH 1;have dX:=C9 aH 2;have dN:=C9 aH 3;have dP:=C9 aH 4;have dL:=C9 aH 5;have bM:=C9 C 0;have bG:=C9 C 1;have bO:=C9 C 2;have bv:=C9 C 3;have bt:=C9 C 4;have bC:=C9 C 5;have bs:=Qr C;have c8:=M.cell;have c6:=M.frozen;have dg:=J9 C;have dD:=J9 M;have cv:=J9 (dt.o.below o);have bL:Hid (Below n w J):=(cZ.o.grown c1.o (by rw [ce];have:=l.o;omega) fun O h=>by cases h;have:=l.o;omega);clear aY o C M aH bi c0 cC cy de cA cH bD bJ
    gi_wp2
    obtain ⟨E,dA,aN,Y,dv,aI,bP⟩:=qDE dg.o (.int .i64 a2) (.int .u8 ag) (.string (sB aT)) (.slice aD cW aV) (.string (sB a0)) (.bool false);rw [dA];have aU:Boxed E (n+1+1) 73 (.int .i64 0):=(Y _ (by omega)).trans dD.o;have cT:qaj E aD ar:=cv.o.qEH (cb:=n+1) ⟨by omega,fun O ag a3 aR _=>(Y O a3).trans aR⟩ (fun aX aG V=>by
     rcases cv.o with b | ⟨aM,bB,h,bX⟩
     ·exact absurd b V
     ·rw [aG] at h
      obtain rfl:=Qw h;rintro rfl;exact qqh (bX 0 (Q9.2 V)) dg.o)
    have di:qaj (E.setCell ⟨n+1+1,0,none⟩ (.int .i64 0)) aD ar:=cT.qEH (cb:=n+1+1) ⟨by simp,fun O ag a3 aR _=>(heap_setCell_other E ⟨n+1+1,0,none⟩ O _ a3).trans aR⟩ (fun aX aG V=>by
     rcases cT with b | ⟨aM,bB,h,bX⟩
     ·exact absurd b V
     ·rw [aG] at h
      obtain rfl:=Qw h;rintro rfl;exact qhJ (bX 0 (Q9.2 V)) aU)
    refine ⟨((qaC aA.o _).trans (dv.from _)).trans (KeepsOthers.from (KeepsOthers.setCell _ _ _) _),G,_,rfl,qyx (by have b:=dC.o;rw [ct.o] at b;exact b) (fun X z b=>?_) rfl da.o,?_,Boxed.set _ aU,di,?_⟩
    ·obtain ⟨b6,aE,rfl⟩:=List.mem_map.1 z
     exact I1.o b6 aE b
    ·simp only [dl.o]
     exact (heap_setCell_other E ⟨n+1+1,0,none⟩ (n+1) _ (by simp)).trans aN
    ·exact (bL.o.trans (aI.mono (by omega))).setCell (p:=⟨n+1+1,0,none⟩) (show n<=n+1+1 by omega) _
   | false=>
    have dY:=Boxed.cell bi;have dU:=Boxed.frozen bi;have dk:=J9 bi;clear aY o bi c0 cC cy de cA cH bD bJ
    gi_wp2
    refine ⟨(qaC aA.o _).trans (KeepsOthers.from (KeepsOthers.setCell _ _ _) _),(qaD.of_below aA.o).trans ⟨by simp,fun O ag a3 aR _=>(heap_setCell_other J ⟨e+1,0,none⟩ O _ a3).trans aR⟩,fun X z b=>?_,?_,World.grownBy.trans c1.o (qaR J (e+1) 0 _)⟩
    ·rcases QO.1 z with z | z
     ·exact I1.o X z b
     ·rw [QA.1 z]
      exact da.o
    ·rw [ct.o,qyH _ _ rfl]
     exact Boxed.set _ dk.o
 case done=>
  rintro s c9 k cc b9 ⟨cY,aF,bz⟩ ah;have c3:Hid (qd8 g q=none):=by
   show qd8 g q=none;refine qlf fun X z=>?_
   rw [<- b9] at z;obtain ⟨b6,aE,rfl⟩:=List.mem_map.1 z;exact cY b6 aE
  have a9:Hid (cdF (c9.map Ee.k)=if (qlg g q).isEmpty then 11 else 2):=by show cdF _=_;rw [b9];rfl
  have ab:=qhN bz;have b3:=ab.2 n _ (by have:=l.o;omega) cV.o rfl;have aa:=ab.2 (n+1) _ (by have:=l.o;omega) cx.o rfl;have ad:=ab.boxed dc.o (by have:=l.o;omega);have aE:=bz.size;have aW:(K.heap[n]?:Option Obj)=_:=cV.o;have cm:=C9 b3 0;have bW:=C9 b3 1;have cP:qaj k Z I:=by
   rcases dj.o with b | ⟨aM,bB,h,P⟩
   ·exact .inl b
   ·by_cases dx:I=[]
    ·exact .inl dx
    ·refine qaj.qEH (cb:=e+1) (.inr ⟨aM,bB,h,P⟩) ab fun aX aG V=>?_
     rw [aG] at h;obtain rfl:=Qw h;rintro b;have dn:aM=e+1:=b;subst dn;exact qhJ (P 0 (Q9.2 V)) cO.o
  have cp:=cn.o k cP;have bH:Hid (e+3<=s):=by show _<=_;omega
  have be:=J9 ah;have al:=J9 aa;have ai:=J9 ad;have aJ:=J9 aF;have bL:Hid (Below n w k):=cZ.o.grown bz (by rw [ce];have:=l.o;omega) fun O h=>by cases h;have:=l.o;omega
  obtain ⟨aB,ci⟩:=N9 (qa6 (sB g) I);rw [ci] at cp;have br:=J9 ci;have cG:Hid (e+3<=k.heap.size):=by show _<=_;omega
  clear cY aF bz ah cr b9 ab b3 aa ad aE aW cP ci cc
  go_wp2_with fail
  refine cp.mono ?_;rintro h J ⟨rfl,o⟩;have aa:=(o.block _ (Qb.1 al.o).1).trans al.o;have ad:Boxed J (n+1+1) 73 (.int .i64 0):=(o.block _ ai.o.lt).trans ai.o;have aF:Boxed J (e+1) 73 _:=(o.block _ aJ.o.lt).trans aJ.o;have bI:=J9 ((o.block s (Qb.1 be.o).1).trans be.o);have aA:Hid (Below n w J):=bL.o.trans (o.mono (by have:=cG.o;have:=l.o;omega));have al:=J9 aa;have ai:=J9 ad;obtain ⟨ap,b2⟩:=N9 (cdF (c9.map Ee.k));have a9:Hid (ap=if (qlg g q).isEmpty then 11 else 2):=by show ap=_;rw [<- b2];exact a9.o
  rw [b2] at aF;have aJ:=J9 aF;have cR:=aF.cell;have gf:=aF.frozen;clear o cp aa ad aF cm bW b2 be bL
  -- the code that is returned
  obtain ⟨E,m,dd,db,aa,ad,cX,cw,bf⟩:∃ (E:World) (m:Int),Hid (codeF g I q=m)/\Hid (Boxed E (e+1) 73 (.int .i64 m))/\Hid (E.heap[n+1]?=some (.cells #[.int .i64 0,.int .u8 0,.string ⟨#[]⟩,.slice none 0 0,.string ⟨#[]⟩,.bool false] 163 (0,0)))/\Hid (Boxed E (n+1+1) 73 (.int .i64 0))/\Hid (E.heap[s]?=some (.deferred (some [])))/\Hid (Below n w E)/\(if aB=0 then E=J else E=J.setCell ⟨e+1,0,none⟩ (.int .i64 aB)):=by
   have dM:=l.o;by_cases W:aB=0
   ·refine ⟨J,ap,?_,aJ,al,ai,bI,aA,by rw [Qk W]⟩
    show codeF g I q=ap;unfold codeF;rw [br.o,Qd (by simpa using W),a9.o]
   ·refine ⟨J.setCell ⟨e+1,0,none⟩ (.int .i64 aB),aB,?_,Boxed.set _ aJ.o,(heap_setCell_other J ⟨e+1,0,none⟩ (n+1) _ (by simp;omega)).trans al.o,(heap_setCell_other J ⟨e+1,0,none⟩ (n+1+1) _ (by simp;omega)).trans ai.o,(KeepsOthers.setCell J _ _).same s _ bI.o rfl,aA.o.setCell (p:=⟨e+1,0,none⟩) (show n<=e+1 by omega) _,by rw [Qd W]⟩
    show codeF g I q=aB;unfold codeF;rw [br.o,Qk W]
  by_cases W:aB=0
  ·rw [Qk W] at bf
   subst W;subst bf;clear a9 cn br al ai bI aA aJ
   go_upto_region 11 with fail
   obtain ⟨ae,D⟩:=N9 (E.drew);have aO:Boxed ae (e+1) 73 (.int .i64 m):=(by rw [<- D];exact db.o);have x:ae.heap[n+1]?=some (.cells #[.int .i64 0,.int .u8 0,.string ⟨#[]⟩,.slice none 0 0,.string ⟨#[]⟩,.bool false] 163 (0,0)):=(by rw [<- D];exact aa.o);have bj:Boxed ae (n+1+1) 73 (.int .i64 0):=(by rw [<- D];exact ad.o);have bR:Hid (ae.heap[s]?=some (.deferred (some []))):=(by rw [<- D];exact cX.o);have b8:Hid (Below n w ae):=(by rw [<- D];exact cw.o.drew);refine Mixed.qD5 (fun ac=>Boxed ac (e+1) 73 (.int .i64 m)) 3 [(0,true),(1,true),(2,false)] (by kernel_rfl) (by kernel_rfl) (by rw [D];exact aO) ?_;rw [D];refine Mixed.mp rfl (.agg #[.int .i64 0,.int .u8 0,.string ⟨#[]⟩,.slice none 0 0,.string ⟨#[]⟩,.bool false]) ?_;refine Mixed.mo rfl (.int .i64 m) (fun w b=>by have C:=Boxed.cell b;clear b;go_simp;try rfl) ?_;have bM:=C9 x 0;have bG:=C9 x 1;have bO:=C9 x 2;have bv:=C9 x 3;have bt:=C9 x 4;have bC:=C9 x 5;have bs:=Qr x;have a5:=J9 x;have cg:=J9 aO;have bZ:=J9 bj;clear x aO bj D cR gf;refine Mixed.qEh rfl ?_;refine wpList_store_row rfl 163 _ _ rfl (n+1) #[.int .i64 0,.int .u8 0,.string ⟨#[]⟩,.slice none 0 0,.string ⟨#[]⟩,.bool false] rfl rfl _ _ a5.o (by kernel_rfl) (by kernel_rfl) (by kernel_rfl) ?_;obtain ⟨y,bb,aN,Y,aI,bP⟩:=qDI a5.o #[.int .i64 0,.int .u8 0,.string ⟨#[]⟩,.slice none 0 0,.string ⟨#[]⟩,.bool false];rw [bb];have bk:Boxed y (e+1) 73 (.int .i64 m):=(Y _ (by have:=l.o;omega)).trans cg.o;have au:Boxed y (n+1+1) 73 (.int .i64 0):=(Y _ (by omega)).trans bZ.o;have bS:Hid (y.heap[s]?=some (.deferred (some []))):=(Y _ (by have:=bH.o;have:=l.o;omega)).trans bR.o;have bV:=J9 (b8.o.trans (aI.mono (by omega)));refine ⟨bk,?_⟩;simp only [Mixed.qD8,Qq,Qy];have c8:=au.cell;have c6:=au.frozen;have bY:=J9 au;have A1:=J9 aN;clear bM bG bO bv bt bC bs bb aN Y aI bP bk au;go_wp2;have bq:=Boxed.set (.int .i64 m) bY.o;have ay:KeepsOthers y (y.setCell ⟨n+1+1,0,none⟩ (.int .i64 m)):=KeepsOthers.setCell _ _ _;have bg:Below n w (y.setCell ⟨n+1+1,0,none⟩ (.int .i64 m)):=bV.o.setCell (p:=⟨n+1+1,0,none⟩) (show n<=n+1+1 by omega) _;have aK:(y.setCell ⟨n+1+1,0,none⟩ (.int .i64 m)).heap[n+1]?=some (.cells #[.int .i64 0,.int .u8 0,.string ⟨#[]⟩,.slice none 0 0,.string ⟨#[]⟩,.bool false] 163 (0,0)):=(heap_setCell_other y ⟨n+1+1,0,none⟩ (n+1) _ (by simp)).trans A1.o;obtain ⟨aS,ca⟩:=N9 (y.setCell ⟨n+1+1,0,none⟩ (.int .i64 m));rw [ca] at bq ay bg aK |-;have bp:aS.heap[s]?=some (.deferred (some [])):=ay.same s _ bS.o rfl;have r:=grownBy_putObj' aS s (.deferred none);have dq:=bH.o;have dI:=l.o;have a1:w.heap.size=n:=ch.o;have a7:=(bq.kept r (by simp;omega)).cell;have v:=(r.block (n+1) (Qb.1 aK).1 (by simp;omega)).trans aK;have bn:=C9 v 0;have bh:=C9 v 1;have bo:=C9 v 2;have bd:=C9 v 3;have bc:=C9 v 4;have a6:=C9 v 5;refine ⟨by simp,.inl ⟨_,_,rfl,run_takeDeferred bp,?_⟩⟩;refine ⟨.tuple #[.agg #[.int .i64 0,.int .u8 0,.string ⟨#[]⟩,.slice none 0 0,.string ⟨#[]⟩,.bool false],.int .i64 m],?_,?_⟩
   ·simp [results,results107,go_sem,a7,bn,bh,bo,bd,bc,a6]
   ·rw [c3.o]
    refine ⟨by rw [cI.o,dd.o];rfl,?_⟩;rw [a1];exact bg.trans (belowK_b (w:=w) (by omega) aS s _ _ (by omega) bp rfl rfl)
  ·rw [Qd W] at bf
   have dG:(aB == 0)=false:=Qj.2 W;clear a9 cn br al ai bI aA aJ W
   go_upto_region 11 with fail
   rw [<- bf];clear bf dG;obtain ⟨ae,D⟩:=N9 (E.drew);have aO:Boxed ae (e+1) 73 (.int .i64 m):=(by rw [<- D];exact db.o);have x:ae.heap[n+1]?=some (.cells #[.int .i64 0,.int .u8 0,.string ⟨#[]⟩,.slice none 0 0,.string ⟨#[]⟩,.bool false] 163 (0,0)):=(by rw [<- D];exact aa.o);have bj:Boxed ae (n+1+1) 73 (.int .i64 0):=(by rw [<- D];exact ad.o);have bR:Hid (ae.heap[s]?=some (.deferred (some []))):=(by rw [<- D];exact cX.o);have b8:Hid (Below n w ae):=(by rw [<- D];exact cw.o.drew);refine Mixed.qD5 (fun ac=>Boxed ac (e+1) 73 (.int .i64 m)) 3 [(0,true),(1,true),(2,false)] (by kernel_rfl) (by kernel_rfl) (by rw [D];exact aO) ?_;rw [D];refine Mixed.mp rfl (.agg #[.int .i64 0,.int .u8 0,.string ⟨#[]⟩,.slice none 0 0,.string ⟨#[]⟩,.bool false]) ?_;refine Mixed.mo rfl (.int .i64 m) (fun w b=>by have C:=Boxed.cell b;clear b;go_simp;try rfl) ?_;have bM:=C9 x 0;have bG:=C9 x 1;have bO:=C9 x 2;have bv:=C9 x 3;have bt:=C9 x 4;have bC:=C9 x 5;have bs:=Qr x;have a5:=J9 x;have cg:=J9 aO;have bZ:=J9 bj;clear x aO bj D cR gf;refine Mixed.qEh rfl ?_;refine wpList_store_row rfl 163 _ _ rfl (n+1) #[.int .i64 0,.int .u8 0,.string ⟨#[]⟩,.slice none 0 0,.string ⟨#[]⟩,.bool false] rfl rfl _ _ a5.o (by kernel_rfl) (by kernel_rfl) (by kernel_rfl) ?_;obtain ⟨y,bb,aN,Y,aI,bP⟩:=qDI a5.o #[.int .i64 0,.int .u8 0,.string ⟨#[]⟩,.slice none 0 0,.string ⟨#[]⟩,.bool false];rw [bb];have bk:Boxed y (e+1) 73 (.int .i64 m):=(Y _ (by have:=l.o;omega)).trans cg.o;have au:Boxed y (n+1+1) 73 (.int .i64 0):=(Y _ (by omega)).trans bZ.o;have bS:Hid (y.heap[s]?=some (.deferred (some []))):=(Y _ (by have:=bH.o;have:=l.o;omega)).trans bR.o;have bV:=J9 (b8.o.trans (aI.mono (by omega)));refine ⟨bk,?_⟩;simp only [Mixed.qD8,Qq,Qy];have c8:=au.cell;have c6:=au.frozen;have bY:=J9 au;have A1:=J9 aN;clear bM bG bO bv bt bC bs bb aN Y aI bP bk au;go_wp2;have bq:=Boxed.set (.int .i64 m) bY.o;have ay:KeepsOthers y (y.setCell ⟨n+1+1,0,none⟩ (.int .i64 m)):=KeepsOthers.setCell _ _ _;have bg:Below n w (y.setCell ⟨n+1+1,0,none⟩ (.int .i64 m)):=bV.o.setCell (p:=⟨n+1+1,0,none⟩) (show n<=n+1+1 by omega) _;have aK:(y.setCell ⟨n+1+1,0,none⟩ (.int .i64 m)).heap[n+1]?=some (.cells #[.int .i64 0,.int .u8 0,.string ⟨#[]⟩,.slice none 0 0,.string ⟨#[]⟩,.bool false] 163 (0,0)):=(heap_setCell_other y ⟨n+1+1,0,none⟩ (n+1) _ (by simp)).trans A1.o;obtain ⟨aS,ca⟩:=N9 (y.setCell ⟨n+1+1,0,none⟩ (.int .i64 m));rw [ca] at bq ay bg aK |-;have bp:aS.heap[s]?=some (.deferred (some [])):=ay.same s _ bS.o rfl;have r:=grownBy_putObj' aS s (.deferred none);have dq:=bH.o;have dI:=l.o;have a1:w.heap.size=n:=ch.o;have a7:=(bq.kept r (by simp;omega)).cell;have v:=(r.block (n+1) (Qb.1 aK).1 (by simp;omega)).trans aK;have bn:=C9 v 0;have bh:=C9 v 1;have bo:=C9 v 2;have bd:=C9 v 3;have bc:=C9 v 4;have a6:=C9 v 5;refine ⟨by simp,.inl ⟨_,_,rfl,run_takeDeferred bp,?_⟩⟩;refine ⟨.tuple #[.agg #[.int .i64 0,.int .u8 0,.string ⟨#[]⟩,.slice none 0 0,.string ⟨#[]⟩,.bool false],.int .i64 m],?_,?_⟩
   ·simp [results,results107,go_sem,a7,bn,bh,bo,bd,bc,a6]
   ·rw [c3.o]
    refine ⟨by rw [cI.o,dd.o];rfl,?_⟩;rw [a1];exact bg.trans (belowK_b (w:=w) (by omega) aS s _ _ (by omega) bp rfl rfl)
 case stop=>
  rintro s G k cc ⟨p,a,rfl,M,aC,a4,bx,bE⟩ ah;have r:=grownBy_putObj' k s (.deferred none);have dT:K.heap.size<=s:=cc;have v:=(r.block (n+1) (Qb.1 aC).1 (by simp;have:=l.o;omega)).trans aC;have a7:=(a4.kept r (by simp;have:=l.o;omega)).cell;have a1:w.heap.size=n:=ch.o;have F:Hid (qjn w g I (qd8 g q) (.returned (.tuple #[enV a.g a.o a.m a.v a.ex a.al,.int .i64 0])) (k.putObj s (.deferred none))):=by
   show qjn _ _ _ _ _ _;rw [M];refine ⟨a.A,a.cap,rfl,qhg bx r fun aj h=>by cases h;exact ⟨_,ah,rfl⟩,?_⟩;rw [a1];exact bE.trans (belowK_b (w:=w) (by omega) k s _ _ (by have:=l.o;omega) ah rfl rfl)
  have be:=J9 ah;obtain ⟨a2,ag,aT,aD,aV,ar,a0,ck⟩:=a;have bn:=C9 v 0;have bh:=C9 v 1;have bo:=C9 v 2;have bd:=C9 v 3;have bc:=C9 v 4;have a6:=C9 v 5;clear M aC a4 bx bE ah r cr v a1
  gi_wp2
  refine ⟨by simp,.inl ⟨_,_,rfl,run_takeDeferred be.o,?_⟩⟩;refine ⟨_,?_,F.o⟩;simp [results,results107,go_sem,a7,bn,bh,bo,bd,bc,a6,enV,Ee.v]
end Go.Proofs.YtjafbmfcedijmaaGreatDoor
namespace Go.Proofs.YtjafbmfcedijmaaGreatDoor
open Tryz
open Go.RowKit Go.Shelf
attribute [local go_sem] Oper.semAt_some
def Hit (s:ByteArray) (C:List Tr) (x:Int) (n:Nat):Prop:=∃ h:En,qaX x n=some h/\h.2.2.2=false/\qa3 h.1 h.2.1 h.2.2.1 s C=true
def qfi (s:ByteArray) (I C:List Tr):Prop:=qa6 s I=0/\∃ (h:Int) (n:Nat),qlE C<=h/\h<=quq C/\n<256/\Hit s C h n
def qzQ (w:World) (s:ByteArray) (I C:List Tr) (e:Ending) (w':World):Prop:=∃ (m g:Int) (o:Str) (h:Option Addr) (l y:Nat) (z:Str) (A:Bool) (c:Int),e=.returned (.tuple #[enV m g o (.slice h l y) z A,.int .i64 c])/\Below w.heap.size w w'/\((c=0/\qfi s I C)\/(c≠0/\¬qfi s I C))
theorem qx0 (C:List Tr):0<=qlE C/\qlE C<=3:=by unfold qlE;split <;> omega
theorem qxS (C:List Tr):quq C<=6/\qlE C<=quq C+1:=by unfold quq qlE;split <;> omega
theorem qyq {w:World} {b:Nat} {T:TypeId} {ad ab ac Z ae ag:Value} (af:w.heap[b]?=some (.cells #[ad,ab,ac,Z,ae,ag] T (0,0))) {B:Nat} {u:World} (aa:Below B u w) (U:B<=b) (K z y G J E:Value):∃ h,(((((w.setCell ⟨b,0,none⟩ K).setCell ⟨b,1,none⟩ z).setCell ⟨b,2,none⟩ y).setCell ⟨b,3,none⟩ G).setCell ⟨b,4,none⟩ J).setCell ⟨b,5,none⟩ E=h/\
  h.heap[b]?=some (.cells #[K,z,y,G,J,E] T (0,0))/\Below B u h:=by
 obtain ⟨h,M,V,-,-,O,-⟩:=qDE af K z y G J E;exact ⟨h,M,V,aa.trans (O.mono U)⟩
theorem qzh (w:World) (g o:Int) (m:Str) (v:Value) (ex:Str) (al:Bool) (c:Nat) (y:w.heap.size=c):∃ h,w.alloc (.cells #[.int .i64 g,.int .u8 o,.string (sB m),v,.string (sB ex),.bool al] 66)=h/\h.heap[c]?=some (.cells #[.int .i64 g,.int .u8 o,.string (sB m),v,.string (sB ex),.bool al] 66 (0,0))/\Below w.heap.size w h/\h.heap.size=c+1:=by
 subst y;exact ⟨_,rfl,World.alloc_heap_new w _,(B0 (w:=w)),by simp⟩
theorem qda (s:ByteArray) (db:s.size<=1000) (O:Option Addr) (ab Z:Nat) (I:List Tr) (b7:I.length=Z) (cY:Z<=900) (w:World) (bn:qaj w O I) :
  Calls prog 34 #[.agg #[.string s,.slice O Z ab]] w (qzQ w s I (canL (opc s) I)):=by
 have a5:=fun w m=>qjc s O ab I (by omega) w m
 have bz:=fun w m=>qoN s O ab I (by omega) w m
 rw [b7] at a5 bz;have b0:=qdR (opc s) I;have bo:=fun cC cK n (ck:List.length n<=1000) cT cB bC b4 (c1:List.length b4=bC) (cN:bC<=1000) E (U:List.length E<=1000) aA bs q M=>qlT cC cK n cT cB bC b4 c1 cN E U aA s O ab Z I b7 cY bs q M
 obtain ⟨h,cq⟩:=N9 (canL (opc s) I);rw [cq] at a5 b0 bo |-;obtain ⟨aC,cl⟩:=N9 (h.length);have bw:aC<=1000:=by omega
 obtain ⟨aU,aP⟩:=N9 ((w.alloc (.cells #[.string s,.slice O Z ab] 24)).alloc (.cells #[.int .i64 0,.int .u8 0,.string ⟨#[]⟩,.slice none 0 0,.string ⟨#[]⟩,.bool false] 66));obtain ⟨b,ar⟩:=N9 (w.heap.size);have aY:Below b w aU:=by rw [<- aP,<- ar];exact ((B0 (w:=w))).alloc (by simp) _
 have cX:aU.heap.size=b+1+1:=by rw [<- aP,<- ar];simp
 have A:aU.heap[b]?=some (.cells #[.string s,.slice O Z ab] 24 (0,0)):=by
  rw [<- aP,<- ar];exact (Below.heap_alloc _ _ _ (by simp)).trans (World.alloc_heap_new w _)
 have p:aU.heap[b+1]?=some (.cells #[.int .i64 0,.int .u8 0,.string ⟨#[]⟩,.slice none 0 0,.string ⟨#[]⟩,.bool false] 66 (0,0)):=by
  rw [<- aP,<- ar];have m:=World.alloc_heap_new (w.alloc (.cells #[.string s,.slice O Z ab] 24)) (.cells #[.int .i64 0,.int .u8 0,.string ⟨#[]⟩,.slice none 0 0,.string ⟨#[]⟩,.bool false] 66)
  rwa [QL] at m
 have bK:=J9 (bz aU (bn.below (by rw [ar];exact aY)));have bE:=J9 a5;have ax:=J9 bo;have bB:=J9 ar;have B0:=J9 aY;have ay:=J9 A;have an:=J9 p;have cx:=J9 (bn.below (by rw [ar];exact aY));have be:=J9 cl;have aB:=C9 A 0;have aw:=C9 A 1;obtain ⟨a2,bF⟩:=N9 (qa6 s I);have bP:=J9 bF;rw [bF] at bK;clear a5 bz bo A p aY bn cq b0 cl bF
 go_enter func34,ntmps34
 go_wp2_with fail
 refine bK.o.mono ?_;rintro G ct ⟨rfl,c⟩;have bh:=J9 (B0.o.trans (c.mono (by omega)));have A:=(c.block b (by omega)).trans ay.o;have p:=(c.block (b+1) (by omega)).trans an.o;have bA:=J9 (cx.o.below c);have aK:Hid (b+2<=ct.heap.size):=by have:=c.size;show _<=_;omega
 have ay:=J9 A;have an:=J9 p;have aB:=C9 A 0;have aw:=C9 A 1;clear bK c B0 cx aP cX;by_cases aS:a2=0
 ·subst aS
  have bU:=bE.o ct bA.o;clear A p bE
  go_wp2_with fail
  refine bU.mono ?_;rintro G bg ⟨v,rfl,aH,c⟩;obtain ⟨aG,aW,rfl,b2,-,-⟩:=aH.ops;rw [be.o];have b6:Hid (Below b w bg):=bh.o.trans (c.mono (by have:=aK.o;omega));have A:=(c.block b (by have:=aK.o;omega)).trans ay.o;have p:=(c.block (b+1) (by have:=aK.o;omega)).trans an.o;have bO:=J9 (bA.o.below c);have R2:=J9 b2;have cr:Hid (b+2<=bg.heap.size):=Qm aK.o c.size;have ay:=J9 A;have an:=J9 p;clear bU c aH b2 A p bh bA aK aB aw
  go_upto_region 6 with fail
  obtain ⟨aj,bM⟩:=N9 (bg.heap.size);obtain ⟨y,cj,C,L,c5⟩:=qjT bg s (.slice aG aC aW) aj bM;rw [cj,bM];have c9:b+2<=aj:=by have:=cr.o;omega
  have bL:=J9 (b6.o.trans (L.mono (by omega)));have cF:=J9 (bO.o.below L);have bH:=J9 (R2.o.below L);have aI:Hid (y.heap[b]?=some (.cells #[.string s,.slice O Z ab] 24 (0,0))/\y.heap[b+1]?=some (.cells #[.int .i64 0,.int .u8 0,.string ⟨#[]⟩,.slice none 0 0,.string ⟨#[]⟩,.bool false] 66 (0,0))/\y.heap[aj]?=some (.cells #[.string s,.slice aG aC aW] 24 (0,0))):=⟨(L.block b (by omega)).trans ay.o,(L.block (b+1) (by omega)).trans an.o,C⟩;have ad:Hid (aj+1<=y.heap.size):=by show _<=_;omega
  have bm:=qkT s aG aW aC h be.o bw y bH.o;have aR:=C9 C 0;have aJ:=C9 C 1;have cU:=qx0 h;have bX:=qxS h;have bj:=J9 (fun bs m=>qtK s aG aW aC h be.o bw bs m);obtain ⟨bf,br⟩:=N9 (qlE h);obtain ⟨b8,bD⟩:=N9 (quq h);have co:=J9 br;have bR:=J9 bD;rw [br] at bm cU bX;rw [bD] at bj bX;clear cj bM C L c5 b6 bO R2 ay an cr br bD
  go_wp2_with fail
  refine bm.mono ?_;rintro G dc ⟨rfl,c⟩;have bZ:=J9 c;clear c bm aR aJ;go_wp2
  go_loopw [7,6] (fun l bJ wr=>∃ (e x:Int),bf<=e/\e<=b8+1/\l=.int .i64 e/\bJ=.int .i64 x/\Hid (x≠0)/\Hid (∀ (z:Int) (b:Nat),bf<=z->z<e->b<256->¬Hit s h z b)/\Hid (Below y.heap.size y wr)) (fun l _ _=>(7 - intOf l).toNat)
  case atStart=>exact ⟨bf,11,Int.le_refl _,by omega,rfl,rfl,by show (11:Int)≠0;decide,fun z b q M=>by omega,bZ.o⟩
  case round=>
   clear bZ;obtain ⟨e,x,c4,da,rfl,rfl,aa,ap,K⟩:=hrel;have ah:=(K.o.block aj (by have:=ad.o;omega)).trans aI.o.2.2;have aR:=C9 ah 0;have aJ:=C9 ah 1;have bW:=bj.o wr (bH.o.below K.o);have cZ:=J9 ah;clear ah
   go_wp2_with fail
   refine bW.mono ?_;rintro G cJ ⟨rfl,c⟩;have a0:=J9 (K.o.trans (c.mono K.o.size));clear bW c K aR aJ cZ;by_cases cM:e<=b8
   ·go_wp2
    go_loopw [8,6] (fun l bJ wr=>∃ (k:Nat) (x:Int),k<=256/\l=.int .i64 k/\bJ=.int .i64 x/\Hid (x≠0)/\Hid (∀ b:Nat,b<k->¬Hit s h e b)/\Hid (Below y.heap.size y wr)) (fun l _ _=>256 - (intOf l).toNat)
    case atStart=>exact ⟨0,x,Qs _,rfl,rfl,aa,fun b m=>by omega,a0.o⟩
    case round=>
     clear a0 aa;obtain ⟨k,x,df,rfl,rfl,aa,RR,K⟩:=hrel;by_cases bx:k<256
     ·have c3:IntKind.u8.wrap (k:Int)=k:=by rw [IntKind.wrap_u8];omega
      have cn:=qrg e k bx wr;have ca:Hid (y.heap.size<=wr.heap.size):=K.o.size
      go_wp2_with fail
      refine cn.mono ?_;rintro G cg ⟨bb,c⟩;have ai:=J9 (K.o.trans (c.mono K.o.size));clear c3 cn K;cases U:qaX e k with
      | none=>
       rw [U] at bb;subst bb;have bI:=qwp e k;obtain ⟨cz,b3⟩:=N9 (rkindT e k);rw [b3] at bI |-;have dd:¬cz=1:=fun m=>by rw [m] at bI;cases bI
       simp only [enV];have cQ:=(fun c6=>J9 (ai.o.alloc ai.o.size c6));have R2:Hid (∀ b:Nat,b<k+1->¬Hit s h e b):=fun b m aM=>by
        by_cases G:b=k
        ·subst G
         obtain ⟨l,q,-⟩:=aM;rw [U] at q;cases q
        ·exact RR.o b (by omega) aM
       clear U b3 c ai RR;go_wp2;go_roundw
       case rel=>exact ⟨k+1,x,by omega,by go_num,rfl,aa,R2.o,(cQ _).o⟩
       case measure=>simp [intOf];omega
      | some l=>
       have a6:=(qcU.ok (k:=(e,(k:Int),l.1,l.2.1,l.2.2.1,l.2.2.2)) ⟨k,bx,rfl,U⟩);rw [U] at bb;obtain ⟨v,rfl,aH⟩:=bb;obtain ⟨au,ak,rfl,bk,-⟩:=aH.ops;have J:Hid ((l.2.2.2=true\/qa3 l.1 l.2.1 l.2.2.1 s h=false)->∀ b:Nat,b<k+1->¬Hit s h e b):=fun cW b m aM=>by
        by_cases G:b=k
        ·subst G
         obtain ⟨c8,q,M,al⟩:=aM;rw [U] at q;obtain rfl:=Qw q;rcases cW with m | m
         ·rw [M] at m;cases m
         ·rw [al] at m;cases m
        ·exact RR.o b (by omega) aM
       have ag:Hid (l.2.2.2=false->qa3 l.1 l.2.1 l.2.2.1 s h=true->qfi s I h):=fun q M=>⟨bP.o,e,k,by rw [co.o];exact c4,by rw [bR.o];exact cM,bx,l,U,q,M⟩
       have ck:=a6.m;have cP:=a6.ex;have cd:=a6.len;obtain ⟨n,ao,E,aA⟩:=l;simp only at ck cP cd J ag bk |-;obtain ⟨aq,bl⟩:=N9 (ao.length);rw [bl] at cd |-;simp only [enV];have b1:=J9 bk;have bT:=J9 bl;clear U c aH bk bl a6 RR
       go_upto_region 13 with fail
       obtain ⟨az,bq⟩:=N9 (cg.heap.size);obtain ⟨ae,cy,C,L,-⟩:=qzh cg e k n (.slice au aq ak) E aA az bq;rw [cy,bq];have c7:aj+1<=az:=(by have q:=ca.o;have M:=ai.o.size;have al:=ad.o;omega);have V:=J9 (ai.o.trans (L.mono ai.o.size));have bi:=J9 (b1.o.below L);have cu:=J9 (bH.o.below V.o);have cm:=J9 (cF.o.below V.o);have ch:Hid (y.heap.size<=ae.heap.size):=V.o.size;have aQ:=(V.o.block b (by have:=ad.o;omega)).trans aI.o.1;have u:=(V.o.block (b+1) (by have:=ad.o;omega)).trans aI.o.2.1;have ah:=(V.o.block aj (by have:=ad.o;omega)).trans aI.o.2.2;have bp:Hid (ae.heap[az]?=some (.cells #[.int .i64 e,.int .u8 k,.string (sB n),.slice au aq ak,.string (sB E),.bool aA] 66 (0,0))):=C;have am:=qiG e k n au ak aq ao bT.o (by omega) E aA s aG aW aC h be.o bw ae bi.o cu.o;simp only [enV] at am;have a9:=J9 am;have a4:Hid (ae.heap[b]?=some (.cells #[.string s,.slice O Z ab] 24 (0,0))/\ae.heap[b+1]?=some (.cells #[.int .i64 0,.int .u8 0,.string ⟨#[]⟩,.slice none 0 0,.string ⟨#[]⟩,.bool false] 66 (0,0))):=⟨aQ,u⟩;have aZ:=C9 C 0;have a3:=C9 C 1;have a1:=C9 C 2;have bc:=C9 C 3;have a7:=C9 C 4;have a8:=C9 C 5;have aR:=C9 ah 0;have aJ:=C9 ah 1;have cS:Hid (Below b w y):=bL.o;clear am cy bq C L aQ u ah ai b1 bL aB aw;cases aA with
       | true=>
        have R2:Hid (∀ b:Nat,b<k+1->¬Hit s h e b):=J.o (.inl rfl);clear J ag a9 ax ap;go_wp2;go_roundw
        case rel=>exact ⟨k+1,x,by omega,by go_num,rfl,aa,R2.o,V.o⟩
        case measure=>simp [intOf];omega
       | false=>
        by_cases bd:sB n=s
        rotate_left
        ·have cw:=qao bd
         have R2:Hid (∀ b:Nat,b<k+1->¬Hit s h e b):=J.o (.inr (by unfold qa3 qfU;rw [Qf bd];rfl));clear J ag a9 ax ap bd;go_wp2;go_roundw
         case rel=>exact ⟨k+1,x,by omega,by go_num,rfl,aa,R2.o,V.o⟩
         case measure=>simp [intOf];omega
        ·subst bd
         have cw:=qEp (sB n);have am:=a9.o;have SR:Hid (qfU n ao (sB n) h=false->qa3 n ao E (sB n) h=false):=fun m=>by unfold qa3;rw [m];rfl
         obtain ⟨cE,ci⟩:=N9 (qfU n ao (sB n) h);rw [ci] at am SR;clear a9 ci
         go_wp2_with fail
         refine am.mono ?_;rintro G v ⟨rfl,c⟩;have bt:=J9 (V.o.trans (c.mono ch.o));have av:=ax.o e k n (by omega) au ak aq ao bT.o (by omega) E (by omega) false v (bi.o.below c) (cm.o.below c);simp only [enV] at av;obtain ⟨cH,bS⟩:=N9 (qa3 n ao E (sB n) h);rw [bS] at av SR J ag;have cI:b+1<ae.heap.size:=(Qb.1 a4.o.2).1;have cL:az<ae.heap.size:=(Qb.1 bp.o).1;have ac:=J9 ((c.block az cL).trans bp.o);have bN:=J9 ((c.block b (by omega)).trans a4.o.1);have ce:=J9 ((c.block (b+1) cI).trans a4.o.2);have bu:Hid (ae.heap.size<=v.heap.size):=c.size;have bG:=J9 av;clear av c bS ax ap ca bi cu cm a4 bp V aZ a3 a1 bc a7 a8 aR aJ am cw;cases cE with
         | false=>
          have R2:Hid (∀ b:Nat,b<k+1->¬Hit (sB n) h e b):=J.o (.inr (SR.o rfl));clear J ag SR bG;go_wp2;go_roundw
          case rel=>exact ⟨k+1,x,by omega,by go_num,rfl,aa,R2.o,bt.o⟩
          case measure=>simp [intOf];omega
         | true=>
          have aZ:=C9 ac.o 0;have a3:=C9 ac.o 1;have a1:=C9 ac.o 2;have bc:=C9 ac.o 3;have a7:=C9 ac.o 4;have a8:=C9 ac.o 5;have aB:=C9 bN.o 0;have aw:=C9 bN.o 1;have av:=bG.o;clear SR bG
          go_wp2_with fail
          refine av.mono ?_;rintro G l ⟨rfl,c⟩;have b9:Hid (Below y.heap.size y l):=bt.o.trans (c.mono (by have:=ch.o;have:=bu.o;omega));have aQ:=(c.block az (by have:=bu.o;omega)).trans ac.o;have u:=(c.block (b+1) (by have:=bu.o;omega)).trans ce.o;have aD:=J9 aQ;have af:=J9 u;clear av c aZ a3 a1 bc a7 a8 aB aw bt ac bN ce aQ u;cases cH with
          | false=>
           have R2:Hid (∀ b:Nat,b<k+1->¬Hit (sB n) h e b):=J.o (.inr rfl);have cV:Hid ((2:Int)≠0):=(by show (2:Int)≠0;decide);clear J ag;go_wp2;go_roundw
           case rel=>exact ⟨k+1,2,by omega,by go_num,rfl,cV,R2.o,b9.o⟩
           case measure=>simp [intOf];omega
          | true=>
           have c0:Hid (qfi (sB n) I h):=(by have m:=ag.o;show qfi (sB n) I h;simpa using m);have bv:Hid (Below b w l):=cS.o.trans (b9.o.mono (by have:=ad.o;omega));have aZ:=C9 aD.o 0;have a3:=C9 aD.o 1;have a1:=C9 aD.o 2;have bc:=C9 aD.o 3;have a7:=C9 aD.o 4;have a8:=C9 aD.o 5;have cp:=C9 af.o 0;have cf:=C9 af.o 1;have cv:=C9 af.o 2;have bY:=C9 af.o 3;have bV:=C9 af.o 4;have b5:=C9 af.o 5;have bQ:=Qr af.o;clear J ag;go_wp2;obtain ⟨cc,aE,o,aF⟩:=qyq af.o bv.o (by omega) (.int .i64 e) (.int .u8 k) (.string (sB n)) (.slice au aq ak) (.string (sB E)) (.bool false);rw [aE];have aN:=C9 o 0;have aX:=C9 o 1;have aO:=C9 o 2;have aT:=C9 o 3;have aL:=C9 o 4;have aV:=C9 o 5;refine bodyPost_ret (v:=.tuple #[.agg #[.int .i64 e,.int .u8 k,.string (sB n),.slice au aq ak,.string (sB E),.bool false],.int .i64 0]) ?_ rfl ?_
           ·simp [results,results34,go_sem,aN,aX,aO,aT,aL,aV]
           ·exact ⟨e,k,n,au,aq,ak,E,false,0,rfl,by rw [bB.o];exact aF,.inl ⟨rfl,c0.o⟩⟩
     ·obtain rfl:k=256:=by omega
      have R2:Hid (∀ (z:Int) (b:Nat),bf<=z->z<e+1->b<256->¬Hit s h z b):=fun z b q M al=>by
       by_cases G:z=e
       ·subst G;exact RR.o b al
       ·exact ap.o z b q (by omega) al
      clear RR ap;go_wp2;go_roundw
      case rel=>exact ⟨e+1,x,by omega,by omega,by go_num,rfl,aa,R2.o,K.o⟩
      case measure=>simp [intOf];omega
   ·have cR:Hid (¬qfi s I h):=fun m=>by
     obtain ⟨-,z,b,q,M,al,cA⟩:=m;rw [co.o] at q;rw [bR.o] at M;exact ap.o z b q (by omega) al cA
    have u:=(a0.o.block (b+1) (by have:=ad.o;omega)).trans aI.o.2.1;have cp:=C9 u 0;have cf:=C9 u 1;have cv:=C9 u 2;have bY:=C9 u 3;have bV:=C9 u 4;have b5:=C9 u 5;have bQ:=Qr u;have bv:Hid (Below b w cJ):=bL.o.trans (a0.o.mono (by have:=ad.o;omega));have cG:=J9 u;clear u ap ax bj;go_wp2;obtain ⟨cc,aE,o,aF⟩:=qyq cG.o bv.o (by omega) (.int .i64 0) (.int .u8 0) (.string ⟨#[]⟩) (.slice none 0 0) (.string ⟨#[]⟩) (.bool false);rw [aE];have aN:=C9 o 0;have aX:=C9 o 1;have aO:=C9 o 2;have aT:=C9 o 3;have aL:=C9 o 4;have aV:=C9 o 5;refine bodyPost_ret (v:=.tuple #[.agg #[.int .i64 0,.int .u8 0,.string ⟨#[]⟩,.slice none 0 0,.string ⟨#[]⟩,.bool false],.int .i64 x]) ?_ rfl ?_
    ·simp [results,results34,go_sem,aN,aX,aO,aT,aL,aV]
    ·exact ⟨0,0,[],none,0,0,[],false,x,rfl,by rw [bB.o];exact aF,.inr ⟨aa.o,cR.o⟩⟩
 ·have de:(a2 == 0)=false:=Qj.2 aS
  have cO:Hid (¬qfi s I h):=fun m=>aS (by rw [<- bP.o];exact m.1)
  have cD:=J9 aS;have cp:=C9 p 0;have cf:=C9 p 1;have cv:=C9 p 2;have bY:=C9 p 3;have bV:=C9 p 4;have b5:=C9 p 5;have bQ:=Qr p;clear aS A p bE ax aB aw;go_wp2;obtain ⟨cc,aE,o,aF⟩:=qyq an.o bh.o (by omega) (.int .i64 0) (.int .u8 0) (.string ⟨#[]⟩) (.slice none 0 0) (.string ⟨#[]⟩) (.bool false);rw [aE];have aN:=C9 o 0;have aX:=C9 o 1;have aO:=C9 o 2;have aT:=C9 o 3;have aL:=C9 o 4;have aV:=C9 o 5;refine bodyPost_ret (v:=.tuple #[.agg #[.int .i64 0,.int .u8 0,.string ⟨#[]⟩,.slice none 0 0,.string ⟨#[]⟩,.bool false],.int .i64 a2]) ?_ rfl ?_
  ·simp [results,results34,go_sem,aN,aX,aO,aT,aL,aV]
  ·exact ⟨0,0,[],none,0,0,[],false,a2,rfl,by rw [bB.o];exact aF,.inr ⟨cD.o,cO.o⟩⟩
end Go.Proofs.YtjafbmfcedijmaaGreatDoor
namespace Go.Proofs.YtjafbmfcedijmaaGreatDoor
open Tryz
open Go.RowKit Go.ChangeShapes Go.WideShapes Go.Deep
structure Ie where
 s:ByteArray
 A:Option Addr
 cap:Nat
 L:List Tr
instance:Inhabited Ie:=⟨⟨⟨#[]⟩,none,0,[]⟩⟩
def Ie.v (r:Ie):Value:=.slice r.A r.L.length r.cap
def qwy (w:World) (A:Option Addr) (h:List Ie):Prop:=
 h=[]\/∃ j y,A=some ⟨j,y,none⟩/\∀ b (z:b<h.length),w.cell? ⟨j,y+b*2,none⟩=some (.string h[b].s)/\w.cell? ⟨j,y+b*2+1,none⟩=some h[b].v/\qaj w h[b].A h[b].L
theorem qwy.at_ {w:World} {A:Option Addr} {b:List Ie} (G:qwy w A b) {k:Nat} (z:k<b.length):∃ h y,A=some ⟨h,y,none⟩/\w.cell? ⟨h,y+k*2,none⟩=some (.string b[k].s)/\w.cell? ⟨h,y+k*2+1,none⟩=some b[k].v/\qaj w b[k].A b[k].L:=by
 rcases G with rfl | ⟨h,y,rfl,E⟩
 ·simp at z
 ·exact ⟨h,y,rfl,E k z⟩
theorem qwy.below {w w':World} {A:Option Addr} {j:List Ie} (K:qwy w A j) (v:Below w.heap.size w w'):qwy w' A j:=by
 rcases K with rfl | ⟨E,M,rfl,y⟩
 ·exact .inl rfl
 ·refine .inr ⟨E,M,rfl,fun J R=>?_⟩
  have h:∀ (b:Addr) (e:Value),w.cell? b=some e->w'.cell? b=some e:=fun b e p=>(v.cell (Qp w _ p)).trans p
  obtain ⟨z,O,G⟩:=y J R;exact ⟨h _ _ z,h _ _ O,G.below v⟩
section
variable {H:Type} {enc:TypeId×Value->H} {w:World} {spare:Nat->Bool} {fuel:Nat}
end
def qw2:List Ie->List Value
 | []=>[]
 | r :: h=>.string r.s :: r.v :: qw2 h
def qCV (w:World) (n:Nat) (v:Value) (h:List Ie):Prop:=w.ownsRow n 24 2 v h.length (qw2 h)/\∀ r∈h,qah w n r.v r.L
theorem qCV.below {w w':World} {n:Nat} {v:Value} {e:List Ie} (g:qCV w n v e) (k:Below w.heap.size w w'):qCV w' n v e:=
 ⟨World.ownsRow.kept g.1 (row:=none) ⟨k.os,k.tape,k.output,k.size,fun y h _=>k.block y h⟩ (by
  cases z:v.ownBlock with
  | none=>exact .inl rfl
  | some E=>exact .inr (by simp)),fun r i=>(g.2 r i).below k⟩
theorem qah.kept {w w':World} {n g:Nat} {v:Value} {L:List Tr} {row:Option Nat} (y:qah w n v L) (k:w.grownBy w' row) (G:∀ q,row=some q->∀ h J,w.heap[q]?≠some (.cells h 57 J)):qah w' n v L:=
 World.ownsRow.kept y k (by
  cases e:v.ownBlock with
  | none=>exact .inl rfl
  | some q=>
   refine .inr fun z=>?_
   rcases y.2 with ⟨rfl,_⟩ | ⟨K,M,h,rfl,_,E,_⟩
   ·simp [Value.ownBlock] at e
   ·simp only [Value.ownBlock,Qz] at e
    subst e;exact G _ z.symm _ _ E)
end Go.Proofs.YtjafbmfcedijmaaGreatDoor
