/-
  SeL, MixT, SeG, SeH, SeM, SeRg, SeI, SeV, InW.
-/
import Derived.Test.YtecpnfhpcamljaaGreatDoorKAK
import Derived.Laws.CopyOwn
set_option linter.all false
set_option maxRecDepth 100000
set_option maxHeartbeats 4000000
namespace Go.Proofs.YtecpnfhpcamljaaGreatDoor
open Tryz
open Go.RowKit Go.Shelf
attribute [local go_sem] Oper.semAt_some
theorem qlL (q:Int):∀ h,(entsR q h).length<=h
 | 0=>Qa _
 | h+1=>by
  have y:=qlL q h;unfold entsR;cases qaX q h with
  | none=>exact Nat.le_succ_of_le y
  | some z=>simp;exact y
def qmI (q:Int) (n:Nat):Bool:=match qaX q n with
 | some h=>decide (h.2.1.length<=3)
 | none=>true
theorem qwu:∀ g:Fin 7,∀ h:Fin 256,qmI (g.val:Int) h.val=true:=by decide +kernel
theorem qpW (g:Int) (n:Nat) (q:n<256):qmI g n=true:=by
 by_cases y:0<=g/\g<=6
 ·obtain ⟨h,rfl⟩:∃ h:Nat,g=(h:Int):=⟨g.toNat,by omega⟩
  exact qwu ⟨h,by omega⟩ ⟨n,q⟩
 ·unfold qmI
  rw [qeQ y]
theorem qgi (y:Int):∀ q,q<=256->∀ x∈entsR y q,x.2.2.2.1.length<=3
 | 0,_,x,h=>by cases h
 | q+1,K,x,h=>by
  have G:=qgi y q (by omega);have z:=qpW y q (by omega);unfold qmI at z;unfold entsR at h;cases J:qaX y q with
  | none=>rw [J] at h;exact G x h
  | some M=>
   rw [J] at h z;rcases QY.1 h with E | E
   ·exact G x E
   ·obtain rfl:=QI.1 E
    exact Qo z
theorem qjl (y:Str) (p:Int):∀ h∈keysPg (fun m=>decide (m=y)) p,h.2.2.2.1.length<=3:=fun h q=>by
 rw [qca] at q;exact qgi p 256 (Qa _) h (List.mem_filter.1 q).1
theorem qnS (h:Str) (p:Int):(keysPg (fun m=>decide (m=h)) p).length<=256:=by
 rw [qca];exact Qj (List.length_filter_le _ _) (qlL p 256)
theorem qkR (h:Str->Bool) (p:Int):qaw h (qgg [p])=keysPg h p:=by
 unfold qaw qgg;rw [Qe (by simp)];simp
theorem qow (w:World) (p:Int):qio (w.alloc (.cells #[.int .i64 p] 3)) (some ⟨w.heap.size,0,none⟩) [p]:=by
 refine .inr ⟨_,0,rfl,fun k h=>?_⟩;have:k=0:=by simp at h;omega
 subst this;simp [go_sem]
theorem qlA (n:Nat) (G cb:Nat) (g:Str) (A:Option Addr) (cap X:Nat) (C:List Tr) (aN:C.length=X) (bx:X<=1000) (w:World) (a1:w.heap[G]?=some (.cells #[.string (sB g),.slice A X cap] 24 (0,0))) (aK:qai w A C) (bi:qad w) (bU:cb<w.heap.size) (ak:G≠cb) (bB:∀ a,A=some a->C≠[]->a.block≠cb) (bd:0≠cb) :
  Stops.qBI Fence.wide n prog 151 #[.pointer (some ⟨G,0,none⟩)] (fun x:Ee=>#[eeV x]) (ShE g C) (qaA cb) (fun ys=>ys.map Ee.k=candK g C) w:=fun bS ap cj aP ac bp bw b1 bt=>by
 have bj:∀ (ao:List Ee) (ai aE:World),ap ao ai->Below ai.heap.size ai aE->ap ao aE:=fun ao ai aE J e=>bp ao ai aE none J (qbf e none) (fun a5 aj=>by cases aj)
 have aq:=(ac.block G (Qb.1 a1).1).trans a1;have m:=qoG (sB g) A cap X C aN bx aP (aK.below ac);have aL:Hid (cb<aP.heap.size):=by have:=ac.size;show cb<_;omega
 have aR:=C9 aq 0;have am:=C9 aq 1;have al:=J9 (Zb aq (Zb (aK.below ac) (bi.below ac)));have be:=J9 bt;have b0:=J9 bw;have bP:=J9 aN;have an:=J9 (Zb ak (Zb bB bd));have ah:=J9 bj;clear bt bw bp b1 ac a1 aK aq aN ak bB bd bj bi bU;refine callsIn_wide.2 ?_;show Calls prog 151 #[.func (.yield bS) #[] #[],.pointer (some ⟨G,0,none⟩)] aP _
 go_enter func151,ntmps151
 go_wp2_with fail
 refine m.mono ?_;rintro aj q ⟨bQ,rfl,bD,e,bb⟩;have bA:=J9 bD;obtain ⟨j,aD⟩:=N9 (qbD C);rw [aD] at bA |-;have bC:=J9 aD;have bL:j.length<=3:=by rw [<- aD];unfold qbD;split <;> (try split) <;> simp
 have au:Hid (q.heap[G]?=some (.cells #[.string (sB g),.slice A X cap] 24 (0,0))/\qai q A C/\qad q):=⟨(e.block G (Qb.1 al.o.1).1).trans al.o.1,al.o.2.1.below e,al.o.2.2.below e⟩;have bu:=J9 (ah.o _ _ _ be.o e);have b6:Hid (cb<q.heap.size):=by have:=e.size;have:=aL.o;show cb<_;omega
 have ca:Hid (∀ a,bQ=some a->j≠[]->a.block≠cb):=fun a bO _=>by have:=bb a bO;have:=aL.o;omega
 obtain ⟨ar,a6⟩:=N9 (j.length);have bg:=J9 a6;rw [a6] at bL |-;clear bD e bb al be aL m aD aR am a6;go_wp2
 go_loopw [10] (fun T wr=>∃ (h:Nat) (z:List Ee),h<=ar/\T=.int .i64 h/\Hid (qaA cb q wr)/\Hid (ap z wr)/\Hid (z.map Ee.k=qfj g C (j.take h))) (fun T _=>ar - (intOf T).toNat)
 case atStart=>exact ⟨0,[],Qu _,rfl,qaA.refl _ _,bu.o,rfl⟩
 case round=>
  clear bu;obtain ⟨h,z,cq,rfl,E,O,R⟩:=hrel;by_cases ch:h<ar
  ·have aX:h<j.length:=by rw [bg.o];exact ch
   obtain ⟨cx,cm,rfl,ba⟩:=(bA.o.qBl E.o ca.o).at_ aX;obtain ⟨m,aV⟩:=N9 (j[h]);have b9:Hid (j.take (h+1)=j.take h++[m]):=(by show j.take (h+1)=_;rw [QL aX,aV]);rw [aV] at ba;have Y:=E.o.2 G _ an.o.1 au.o.1 rfl;have aR:=C9 Y 0;have bn:=au.o.2.2.qBl E.o an.o.2.2;have o:=up1 wr (.cells #[.int .i64 m] 3);have aO:=qpZ g _ (bn.below o) (some ⟨wr.heap.size,0,none⟩) 1 [m] (qow wr m) (by simp);rw [qkR] at aO;have av:=J9 o;clear aX Y aV
   go_wp2_with fail
   refine aO.mono ?_;rintro aj W2 ⟨cr,ck,i,rfl,bq,aT,e⟩;have aJ:Below wr.heap.size wr W2:=o.trans (e.mono o.size);have bs:Hid (qaA cb q W2):=E.o.trans (qaA.of_below aJ);have N:=J9 (ah.o _ _ _ O.o aJ);have aZ:cb<(wr.alloc (.cells #[.int .i64 m] 3)).heap.size:=(by have ct:=E.o.1;have:=b6.o;simp;omega);have bc:=J9 bq.esN;obtain ⟨cl,a9⟩:=N9 ((wr.alloc (.cells #[.int .i64 m] 3)).heap.size);rw [a9] at bc aZ;have bN:=J9 aZ;have bh:Hid (i.map Ee.k=keysPg (fun y=>decide (y=g)) m):=aT;have bm:Hid (qfj g C (j.take (h+1))=z.map Ee.k++(i.map Ee.k).filter (qwB C)):=by
    show _=_;rw [b9.o,qnf,R.o,bh.o]
   have b8:i.length<=256:=by
    have ak:(i.map Ee.k).length=_:=congrArg List.length aT;rw [QC] at ak;rw [ak];exact qnS g m
   have bX:Hid (qfj g C (j.take (h+1)) <+: candK g C):=by
    show _ <+: _;unfold candK;rw [bC.o];exact qpb g C j (h+1)
   obtain ⟨aS,aQ⟩:=N9 (i.length);have br:=J9 aQ;have bI:Hid (h+1<=ar):=(by show _<=_;omega);rw [aQ] at b8 |-;clear aO bq aT e aJ a9 aZ aR ba bn o E O R aQ;go_wp2
   go_loopw [20] (fun T wr=>∃ (k:Nat) (r:List Ee),k<=aS/\T=.int .i64 k/\Hid (qaA cb q wr)/\Hid (qaA cb W2 wr)/\Hid (ap r wr)/\Hid (r.map Ee.k=z.map Ee.k++qgO C i k)) (fun T _=>aS - (intOf T).toNat)
   case atStart=>exact ⟨0,z,Qu _,rfl,bs.o,qaA.refl _ _,N.o,by show _=_;simp [qgO]⟩
   case round=>
    clear bs N;obtain ⟨k,r,cp,rfl,af,E,O,R⟩:=hrel;by_cases bY:k<aS
    ·have aw:k<i.length:=by rw [br.o];exact bY
     have aU:=(bc.o.qBl E.o bN.o).1.at_ aw;have CS:=qn0 C i k aw;obtain ⟨a5,a7⟩:=N9 (i[k]);have bk:a5.k∈keysPg (fun y=>decide (y=g)) m:=(by rw [<- bh.o,<- a7];exact List.mem_map_of_mem (QJ aw));rw [a7] at aU CS;have az:=J9 CS;have bW:Hid (∀ aC,aC<=i.length->z.map Ee.k++qgO C i aC <+: candK g C):=fun aC cw=>by
      refine List.IsPrefix.trans ?_ bX.o;rw [bm.o];refine (List.prefix_append_right_inj _).2 ?_;unfold qgO
      conv=>rhs;rw [<- List.take_append_drop aC (i.map Ee.k),List.filter_append,<- List.map_take]
      exact List.prefix_append _ _
     have bM:=J9 (bW.o (k+1) (by omega));obtain ⟨ab,W,y,P,V,M,aa,Z⟩:=a5;simp only [Ee.v] at aU;obtain ⟨cu,cv,rfl,bV,b2,b3,bK,aM,cd,bF,a0⟩:=aU;obtain ⟨a3,aA⟩:=N9 (M.length);rw [aA] at aM;have bZ:=J9 aA;have Y:=af.o.2 G _ an.o.1 au.o.1 rfl;have am:=C9 Y 1;have bv:=au.o.2.1.qBl af.o an.o.2.1;obtain ⟨ag,bz⟩:=N9 (wr.alloc (.cells #[.int .i64 ab,.int .u8 W,.string (sB y),.slice P a3 V,.string (sB aa),.bool Z] 88));have o:Below wr.heap.size wr ag:=(by rw [<- bz];exact up1 _ _);have K:ag.heap[wr.heap.size]?=some (.cells #[.int .i64 ab,.int .u8 W,.string (sB y),.slice P a3 V,.string (sB aa),.bool Z] 88 (0,0)):=(by rw [<- bz];exact World.alloc_heap_new _ _);have cn:=(o.cell (p:=⟨G,1,none⟩) (Qb.1 Y).1).trans am;have b4:=C9 K 0;have bE:=C9 K 1;have cc:=C9 K 2;have bG:=C9 K 3;have ci:=C9 K 4;have bT:=C9 K 5;have ae:=qni P A V cap a3 X M C aA bP.o (by have J:=qjl g m _ bk;simp only [Ee.k] at J;omega) bx ag (a0.below o) (bv.below o);have av:=J9 o;have a8:=J9 K;have bJ:=J9 (a0.below o);have a2:qwB C (Ee.k ⟨ab,W,y,P,V,M,aa,Z⟩)=decide (M.map ks2=C.map ks2):=rfl;obtain ⟨bH,bf⟩:=N9 (decide (M.map ks2=C.map ks2));rw [bf] at ae a2;rw [a2] at az CS;have az:=J9 CS;clear CS aw bk a0 Y am bv aA bf a2 bV o K a7
     go_upto_region 6 with fail
     clear b2 b3 bK aM cd bF;have aF:Hid (qaA cb q ag):=af.o.trans (qaA.of_below av.o);have aI:Hid (qaA cb W2 ag):=E.o.trans (qaA.of_below av.o);have N:=J9 (ah.o _ _ _ O.o av.o);clear af E O;cases bH with
     | false=>
      have ax:Hid (r.map Ee.k=z.map Ee.k++qgO C i (k+1)):=by show _=_;rw [az.o,R.o,Qe (by decide),Zu]
      go_wp2_with fail
      refine ae.mono ?_;rintro aj ad ⟨rfl,e⟩;have aB:Hid (qaA cb q ad):=aF.o.trans (qaA.of_below e);have aG:Hid (qaA cb W2 ad):=aI.o.trans (qaA.of_below e);have ay:=J9 (ah.o _ _ _ N.o e);clear ae e aF aI N;go_wp2;go_roundw
      case rel=>exact ⟨k+1,r,by omega,by go_num,aB.o,aG.o,ay.o,ax.o⟩
      case measure=>simp [intOf];omega
     | true=>
      have ax:Hid ((r++[(⟨ab,W,y,P,V,M,aa,Z⟩:Ee)]).map Ee.k=z.map Ee.k++qgO C i (k+1)):=by
       show _=_;rw [az.o,Zg,R.o,Qi rfl,Za];rfl
      have ce:Hid ((r++[(⟨ab,W,y,P,V,M,aa,Z⟩:Ee)]).map Ee.k <+: candK g C):=(by show _ <+: _;rw [ax.o];exact bM.o);refine (wpIn_wide (n:=n)).1 ?_
      gi_wp2_with fail
      refine ⟨trivial,fun J=>(by cases J),(callsIn_wide.2 ae).mono ?_⟩;rintro aj ad ⟨rfl,e⟩;have aB:Hid (qaA cb q ad):=aF.o.trans (qaA.of_below e);have aG:Hid (qaA cb W2 ad):=aI.o.trans (qaA.of_below e);have ay:=J9 (ah.o _ _ _ N.o e);have b7:=b0.o r ⟨ab,W,y,P,V,M,aa,Z⟩ ad ay.o ⟨ce.o,bJ.o.below e⟩;obtain ⟨co,tmps,assign,body,aH,aY⟩:=b7;have U:=(e.block _ (Qb.1 a8.o).1).trans a8.o;have b4:=C9 U 0;have bE:=C9 U 1;have cc:=C9 U 2;have bG:=C9 U 3;have ci:=C9 U 4;have bT:=C9 U 5;simp only [eeV,enV,Ee.v] at aH;rw [bZ.o] at aH;clear ae e aF aI N U
      gi_wp2
      refine ⟨fun J=>(by cases J),aY.mono ?_⟩;rintro aM bo (⟨rfl,bl,aW⟩ | ⟨rfl,cg⟩)
      ·have cf:Hid (qaA cb q bo):=aB.o.trans aW
       have b5:Hid (qaA cb W2 bo):=aG.o.trans aW;have bR:=J9 bl;clear bl aW aY aH aB aG ay
       gi_wp2
       go_wp2;go_roundw
       case rel=>exact ⟨k+1,_,by omega,by go_num,cf.o,b5.o,bR.o,ax.o⟩
       case measure=>simp [intOf];omega
      ·clear aY aH
       gi_wp2
       go_wp2;refine bodyPost_ret (results_none rfl _ _ _) rfl ?_;exact ⟨⟨_,rfl⟩,.inr ⟨_,cg⟩⟩
    ·have a4:Hid (r.map Ee.k=qfj g C (j.take (h+1))):=by
      show _=_;rw [bm.o,R.o];unfold qgO;rw [QW (by have:=br.o;omega)]
     go_wp2;go_roundw
     case rel=>exact ⟨h+1,r,bI.o,by go_num,af.o,O.o,a4.o⟩
     case measure=>simp [intOf];omega
  ·have a4:Hid (z.map Ee.k=candK g C):=by
    show _=_;unfold candK;rw [bC.o,R.o,QW (by have:=bg.o;omega)]
   go_wp2
   go_end0
   have J:=O.o;exact ⟨⟨_,rfl⟩,.inl ⟨_,a4.o,J⟩⟩
end Go.Proofs.YtecpnfhpcamljaaGreatDoor
namespace Go.Mixed
open Go
inductive Ord where
 | done:Ord
 | pure:Nat->Ord->Ord
 | one:Nat->Ord->Ord
 | two:Nat->Ord->Nat->Ord->Ord
section
variable {P:Program} {ops:Array Oper} {md:Region.Mode}
def Ord.len:Ord->Nat
 | .done=>0
 | .pure _ h=>h.len+1
 | .one _ h=>h.len+1
 | .two _ h _ _=>h.len+1
def qnz (md:Region.Mode) (ops:Array Oper) (n g:Nat):Ord->Array Bool->Bool
 | .done,h=>Region.seqB md ops g n h
 | .pure k r,h=>(Region.ready md ops h).contains k&&decide (k<n)&&Region.free md ops h k&&qnz md ops n g r (h.setIfInBounds k true)
 | .one k r,h=>decide (Region.ready md ops h=[k])&&decide (k<n)&&qnz md ops n g r (h.setIfInBounds k true)
 | .two k r q y,h=>decide (Region.ready md ops h=[k,q])&&decide (k<n)&&decide (q<n)&&decide (y.len=r.len)&&qnz md ops n g r (h.setIfInBounds k true)&&qnz md ops n g y (h.setIfInBounds q true)
def qmR (md:Region.Mode) (ops:Array Oper) (n:Nat) (h:Ord):Bool:=
 Region.noSelect ops&&decide (n<ops.size)&&decide (h.len+(ops.size - n)=ops.size)&&Region.sinkB md ops n&&Region.chainB md ops n&&qnz md ops n (ops.size - n) h (Array.replicate ops.size false)
def qA0 (P:Program) (ops:Array Oper) (C:World->Prop) (q:Act->World->Prop):Ord->Act->World->Prop
 | .done,a,h=>q a h
 | .pure k r,a,h=>match ops[k]? with
  | none=>False
  | some o=>∃ v,Pure P ops C o v a/\qA0 P ops C q r (a.put o.dst v) h
 | .one k r,a,h=>wpOp P ops QF k (fun w w'=>C w'/\qA0 P ops C q r w w') a h
 | .two k r z y,a,h=>wpOp P ops QF k (fun w w'=>C w'/\qA0 P ops C q r w w') a h/\wpOp P ops QF z (fun w w'=>C w'/\qA0 P ops C q y w w') a h
theorem qb4 {C:World->Prop} {n g:Nat} {ad:Act->World->Prop} (T:Region.noSelect ops=true) (K:Region.sinkB md ops n=true) (M:Region.chainB md ops n=true) (O:n<ops.size) :
  ∀ (aa:Ord) (i:Array Bool) (a:Act) (w:World),HeadInv md ops n i->qnz md ops n g aa i=true->C w->qA0 P ops C ad aa a w->
  qa6 P md ops n C (fun ae q w'=>Region.seqB md ops g n ae=true/\ad q w') aa.len i a w
 | .done,i,a,w,_,k,r,h=>⟨r,k,h⟩
 | .pure J G,i,a,w,z,k,r,h=>by
  simp only [qnz,Qd,Qf] at k;obtain ⟨⟨⟨v,y⟩,an⟩,W⟩:=k;have ag:J∈Region.ready md ops i:=by simpa using v
  simp only [qA0] at h;cases V:ops[J]? with
  | none=>rw [V] at h;exact h.elim
  | some ar=>
   rw [V] at h;obtain ⟨au,ai,ah⟩:=h;exact qaR V (Region.noSelect_spec T) K M O y (fun ae q w' ap=>seqB_ready ap.1) G.len i a w z (Region.free_spec V an) ag ai r
    (qb4 T K M O G _ _ w (z.set ag y) W r ah)
 | .one J G,i,a,w,z,k,r,h=>by
  simp only [qnz,Qd,Qf] at k;obtain ⟨⟨v,y⟩,W⟩:=k;simp only [qA0] at h;have Z:Region.ready md ops i≠[]:=by rw [v];exact List.cons_ne_nil _ _
  refine ⟨r,Z,fun U E=>?_⟩;rw [v] at E;have ab:U=J:=by simpa using E
  subst ab;refine ⟨y,qcL (fun q w' o=>?_) h⟩;exact qb4 T K M O G _ q w' (z.set (by rw [v];exact QI.2 rfl) y) W o.1 o.2
 | .two J G aq aj,i,a,w,z,k,r,h=>by
  simp only [qnz,Qd,Qf] at k;obtain ⟨⟨⟨⟨⟨v,y⟩,af⟩,ao⟩,ak⟩,am⟩:=k;simp only [qA0] at h;have Z:Region.ready md ops i≠[]:=by rw [v];exact List.cons_ne_nil _ _
  refine ⟨r,Z,fun U E=>?_⟩;have ac:=E;rw [v] at E;have ab:U=J\/U=aq:=by simpa using E
  rcases ab with rfl | rfl
  ·refine ⟨y,qcL (fun q w' o=>?_) h.1⟩
   exact qb4 T K M O G _ q w' (z.set ac y) ak o.1 o.2
  ·refine ⟨af,qcL (fun q w' o=>?_) h.2⟩
   have:=qb4 T K M O aj _ q w' (z.set ac af) am o.1 o.2
   rwa [ao] at this
theorem qA7 {V:Nat} {Q:Exit->Act->World->Prop} {a:Act} {w:World} {l:List Oper} (C:World->Prop) (n:Nat) (j:Ord) (U:P.follows .mixedOrders=true) (q:qmR .any l.toArray n j=true)
  (ab:C w.drew) (J:qA0 P l.toArray C (fun h w'=>wpList P l.toArray Q (l.drop n) h w') j a w.drew):(Code.region V l.toArray true).wp P Q a w:=by
 simp only [qmR,Qd,Qf] at q;obtain ⟨⟨⟨⟨⟨ac,T⟩,W⟩,K⟩,M⟩,H⟩:=q;have y:(l.drop n).length=l.toArray.size - n:=by simp
 have G:HeadInv .any l.toArray n (Array.replicate l.toArray.size false):=
  ⟨by simp,fun aa ad _ t=>(by rw [getD_replicate_false] at t;cases t),fun ae _ O=>getD_in (by simpa using O) (getD_replicate_false _ _)⟩
 have E:=qb4 ac K M T j _ a w.drew G H ab J;refine wp_region_any U ?_;have:=qam (Q':=Q) (g:=l.toArray.size - n) (fun Z h w' z=>by
  have:=wpAny_of_seq (md:=.any) (Q':=Q) (l.drop n) n Z h w' (fun aa=>by simp [Zc]) (by rw [y];exact z.1) z.2
  rwa [y] at this) _ _ _ _ E
 rw [W] at this;exact this
theorem qAS {C:World->Prop} {h:Act->World->Prop} {k:Nat} {r:Ord} {a:Act} {w:World} {o:Oper} (E:ops[k]?=some o) (z:Region.wanted o (yielded ops a.tmps)=true) (v:Value)
  (y:∀ w,C w->(execOp a.eval o).run P w=.ok (.value v) w) (q:qA0 P ops C h r (a.put o.dst v) w):qA0 P ops C h (.pure k r) a w:=by
 simp only [qA0,E];exact ⟨v,.inl ⟨z,y⟩,q⟩
theorem qeD {q:Act->World->Prop} {k:Nat} {a:Act} {w:World} {o:Oper} (z:ops[k]?=some o) (y:Region.wanted o (yielded ops a.tmps)=true) (h:wpList P ops (QK q) [{o with guard:=none}] a w):wpOp P ops QF k q a w:=by
 unfold wpOp;simp only [z,y,if_true];have E:Region.wanted {o with guard:=none} (yielded ops a.tmps)=true:=rfl;simp only [wpList,E,if_true] at h;rcases h with h | h
 ·exact .inl (qeJ h)
 ·exact absurd h.2 (qax _)
theorem qAW {C:World->Prop} {h:Act->World->Prop} {k:Nat} {r:Ord} {a:Act} {w:World} {o:Oper} (z:ops[k]?=some o) (y:Region.wanted o (yielded ops a.tmps)=true) (q:wpList P ops (QK fun E w'=>C w'/\qA0 P ops C h r E w') [{o with guard:=none}] a w) :
  qA0 P ops C h (.one k r) a w:=by
 simp only [qA0];exact qeD z y q
theorem qA4 {C:World->Prop} {h:Act->World->Prop} {k E:Nat} {r z:Ord} {a:Act} {w:World} {o q:Oper} (T:ops[k]?=some o) (G:Region.wanted o (yielded ops a.tmps)=true) (M:ops[E]?=some q) (J:Region.wanted q (yielded ops a.tmps)=true)
  (K:wpList P ops (QK fun y w'=>C w'/\qA0 P ops C h r y w') [{o with guard:=none}] a w) (O:wpList P ops (QK fun y w'=>C w'/\qA0 P ops C h z y w') [{q with guard:=none}] a w) :
  qA0 P ops C h (.two k r E z) a w:=by
 simp only [qA0];exact ⟨qeD T G K,qeD M J O⟩
end
end Go.Mixed
namespace Go.Proofs.YtecpnfhpcamljaaGreatDoor
open Tryz
open Go.RowKit Go.Shelf
attribute [local go_sem] Oper.semAt_some
attribute [local irreducible] Go.Mixed.qA0
attribute [local irreducible] Go.Mixed.qAU
theorem qn4 (e s2:ByteArray) (A1 J:Option Addr) (M c2 z y:Nat) (h q:List Tr) (T:h.length=z) (W:q.length=y) (ae:z<=1000) (ag:y<=1000) (w:World) (V:qai w A1 h) (Z:qai w J q) :
  Calls prog 159 #[.agg #[.string e,.slice A1 z M],.agg #[.string s2,.slice J y c2]] w fun U ac=>U=.returned (.bool (decide (e=s2)&&decide (h=q)))/\Below w.heap.size w ac:=by
 have G:Below w.heap.size w ((w.alloc (.cells #[.string e,.slice A1 z M] 24)).alloc (.cells #[.string s2,.slice J y c2] 24)):=(B0).alloc (by simp) _;have K:=qht A1 J M c2 h q (by unfold maxLen;omega) (by unfold maxLen;omega) _ (V.below G) (Z.below G);rw [T,W] at K;have O:=J9 K;have B0:=J9 G;obtain ⟨ad,b⟩:=N9 (decide (h=q));rw [b] at O;rw [b];clear V Z G T W b K;by_cases E:e=s2
 ·subst E
  have aa:=qAZ e;rw [Qn rfl,Bool.true_and]
  go_enter func159,ntmps159
  go_wp2_with fail
  refine O.o.mono ?_;rintro U af ⟨rfl,b⟩;have ab:=J9 (B0.o.trans (b.mono B0.o.size));clear b;go_wp2;go_ret;exact ⟨rfl,ab.o⟩
 ·have aa:=qak E
  rw [Qh E,Bool.false_and];clear E O
  go_enter func159,ntmps159
  go_wp2;go_ret;exact ⟨rfl,B0.o⟩
theorem qai.qBz {w:World} {A:Option Addr} {L:List Tr} (y:qai w A L) {c:Nat} {s:ByteArray} {M:Option Addr} {n cap:Nat} (E:w.heap[c]?=some (.cells #[.string s,.slice M n cap] 24 (0,0))) (j:Nat) (u:Value):qai (w.setCell ⟨c,j,none⟩ u) A L:=by
 rcases y with rfl | ⟨h,p,rfl,J⟩
 ·exact .inl rfl
 ·refine .inr ⟨h,p,rfl,fun v U=>?_⟩
  obtain ⟨g,T,K⟩:=J v U;have O:h≠c:=by
   rintro rfl;rw [C9 E] at g;have z:=(Qb.1 g).1;have:p+v*3=0\/p+v*3=1:=(by simp at z;omega);rcases this with e | e
   ·rw [e] at g;cases g
   ·rw [e] at g;cases g
  have e:∀ (k:Nat) (q:Value),w.cell? ⟨h,k,none⟩=some q->(w.setCell ⟨c,j,none⟩ u).cell? ⟨h,k,none⟩=some q:=fun k q G=>(Q1 (a:=⟨h,k,none⟩) (heap_setCell_other w ⟨c,j,none⟩ h u O)).trans G
  exact ⟨e _ _ g,e _ _ T,e _ _ K⟩
end Go.Proofs.YtecpnfhpcamljaaGreatDoor
namespace Go.Proofs.YtecpnfhpcamljaaGreatDoor
open Tryz
open Go.RowKit Go.Shelf
attribute [local go_sem] Oper.semAt_some
attribute [local irreducible] Go.Mixed.qA0
attribute [local irreducible] Go.Mixed.qAU
theorem qoZ {h:World} {c n:Nat} (G:n<c) (z:h.heap[c]?=some (.cells #[.string ⟨#[]⟩,.slice none 0 0] 24 (0,0))) {K:Option Addr} {J:List Tr} (T:qai h K J) {O:Option Addr} {C:List Tr} (k:qai h O C) {o:Obj} (U:h.heap[n]?=some o) (u:ByteArray) (y:Option Addr) (q c2:Nat) :
  ((h.setCell ⟨c,0,none⟩ (.string u)).setCell ⟨c,1,none⟩ (.slice y q c2)).heap[c]?=some (.cells #[.string u,.slice y q c2] 24 (0,0))/\qai ((h.setCell ⟨c,0,none⟩ (.string u)).setCell ⟨c,1,none⟩ (.slice y q c2)) K J/\qai ((h.setCell ⟨c,0,none⟩ (.string u)).setCell ⟨c,1,none⟩ (.slice y q c2)) O C/\
   ((h.setCell ⟨c,0,none⟩ (.string u)).setCell ⟨c,1,none⟩ (.slice y q c2)).heap[n]?=some o/\Below n h ((h.setCell ⟨c,0,none⟩ (.string u)).setCell ⟨c,1,none⟩ (.slice y q c2))/\∀ k,k≠c->((h.setCell ⟨c,0,none⟩ (.string u)).setCell ⟨c,1,none⟩ (.slice y q c2)).heap[k]?=h.heap[k]?:=by
 have E:(h.setCell ⟨c,0,none⟩ (.string u)).heap[c]?=some (.cells #[.string u,.slice none 0 0] 24 (0,0)):=heap_setCell_same h c 0 _ _ _ z;refine ⟨heap_setCell_same _ c 1 _ _ _ E,(T.qBz z _ _).qBz E _ _,(k.qBz z _ _).qBz E _ _,?_,?_,fun k M=>(heap_setCell_other _ ⟨c,1,none⟩ k _ M).trans (heap_setCell_other _ ⟨c,0,none⟩ k _ M)⟩
 ·exact (heap_setCell_other _ ⟨c,1,none⟩ n _ (by simp;omega)).trans ((heap_setCell_other _ ⟨c,0,none⟩ n _ (by simp;omega)).trans U)
 ·exact ((Qc n h).setCell (p:=⟨c,0,none⟩) (QV G) _).setCell (p:=⟨c,1,none⟩) (QV G) _
def qzT (m:Str) (s:ByteArray) (C:List Tr):Option (List Tr)->Bool
 | some h=>decide (sB m=s)&&decide (h=C)
 | none=>false
theorem qw0 (m:Str) (L:List Tr) (ex:Str) (s:ByteArray) (C:List Tr):qnZ m L ex s C=qzT m s C (qaW ex L (qcX (varsV ex).1.1 C) (qcX (varsV ex).2.1 C)):=by
 unfold qnZ;cases qaW ex L (qcX (varsV ex).1.1 C) (qcX (varsV ex).2.1 C) <;> rfl
theorem qju (ab aa:Int) (m:Str) (bV:m.length<=1000) (bx:upB (sB m)=sB m) (A:Option Addr) (cap l:Nat) (L:List Tr) (bF:L.length=l) (bz:l<=1000) (ex:Str) (bq:ex.length<=1000) (al:Bool) (s:ByteArray) (E:Option Addr) (M J:Nat) (C:List Tr) (bX:C.length=J) (bP:J<=1000) (w:World) (H:qai w A L) (bC:qai w E C) :
  Calls prog 110 #[.agg #[.string s,.slice E J M],enV ab aa m (.slice A l cap) ex al] w fun r x=>r=.returned (.bool (qnZ m L ex s C))/\Below w.heap.size w x:=by
 have aM:=fun w=>qew ab aa m A l cap ex bq al w
 have aw:=fun a2 a1 w e=>qmd ab aa m bV A cap l L bF bz ex bq al a2 a1 w e
 have bv:=fun bZ A1 T aJ bs (r:List.length bs=aJ) b7 (x:World) k f=>qn4 bZ s A1 E T M aJ J bs C r bX b7 bP x k f
 obtain ⟨aW,bh⟩:=N9 ((varsV ex).1);obtain ⟨a6,be⟩:=N9 ((varsV ex).2);have bd:=fun (aW:Vr) aD x k f=>qs7 aW aD s E M J C bX bP x k f
 obtain ⟨a2,av⟩:=N9 (qcX aW.1 C);obtain ⟨a1,a5⟩:=N9 (qcX a6.1 C);obtain ⟨a0,aY⟩:=N9 (qaW ex L a2 a1);have bU:Hid (qnZ m L ex s C=qzT m s C a0):=by
  show _=_;rw [<- aY,<- av,<- a5,<- bh,<- be];exact qw0 m L ex s C
 have aK:Hid (∀ R,a0=some R->R.length=l):=fun R r=>by
  rw [r] at aY;rw [qar (qbA aY).1,bF]
 have aw:=aw a2 a1;rw [aY] at aw;unfold qla at aw;rw [bx] at aw;unfold qkD at aM;rw [bh,be] at aM;have aJ:=fun aD x k f=>bd aW aD x k f
 have au:=fun aD x k f=>bd a6 aD x k f
 rw [av] at aJ;rw [a5] at au;have b4:=J9 bz;clear bd bh be av a5 aY bx;unfold enV at aM aw |-;obtain ⟨aI,aT⟩:=N9 ((w.alloc (.cells #[.string s,.slice E J M] 24)).alloc (.cells #[.int .i64 ab,.int .u8 aa,.string (sB m),.slice A l cap,.string (sB ex),.bool al] 88));obtain ⟨n,aF⟩:=N9 (w.heap.size);have a3:Below n w aI:=by rw [<- aT,<- aF];exact ((B0 (w:=w))).alloc (by simp) _
 have a7:aI.heap.size=n+1+1:=by rw [<- aT,<- aF];simp
 have aP:aI.heap[n]?=some (.cells #[.string s,.slice E J M] 24 (0,0)):=by
  rw [<- aT,<- aF];exact (Below.heap_alloc _ _ _ (by simp)).trans (World.alloc_heap_new w _)
 have T:aI.heap[n+1]?=some (.cells #[.int .i64 ab,.int .u8 aa,.string (sB m),.slice A l cap,.string (sB ex),.bool al] 88 (0,0)):=by
  rw [<- aT,<- aF];have e:=World.alloc_heap_new (w.alloc (.cells #[.string s,.slice E J M] 24)) (.cells #[.int .i64 ab,.int .u8 aa,.string (sB m),.slice A l cap,.string (sB ex),.bool al] 88)
  rwa [QB] at e
 have bE:=J9 (aM aI);have aQ:=J9 aw;have bR:=J9 bv;have aV:=J9 aJ;have aE:=J9 au;have bT:=J9 aF;have B0:=J9 a3;have bG:=J9 aP;have br:=J9 T;have bu:=J9 (H.below (by rw [aF];exact a3));have bY:=J9 (bC.below (by rw [aF];exact a3));have cf:=C9 T 0;have b0:=C9 T 1;have ci:=C9 T 2;have cu:=C9 T 3;have cr:=C9 T 4;have b2:=C9 T 5;clear aM aw bv aJ au aP T a3 H bC bV bq
 go_enter func110,ntmps110
 go_wp2_with fail
 refine bE.o.mono ?_;rintro r b5 ⟨cA,cG,cz,cI,rfl,bj,bf,c⟩;obtain ⟨aB,aG,aC,cl,ce⟩:=bj.form;obtain ⟨aH,az,ay,ch,co⟩:=bf.form;subst cl ce ch co;obtain ⟨o,cd⟩:=N9 (b5.heap.size);have cB:n+2<=o:=by have:=c.size;omega
 obtain ⟨W,cx,bN,bL,bM,bt,bl,bJ⟩:=qhw bj bf o cd;have bI:Hid (Below n w W):=(B0.o.trans (c.mono (by omega))).trans (bl.mono (by omega));have aX:Below (n+1+1) aI W:=(c.mono (by omega)).trans (bl.mono (by omega));have aP:=(aX.block n (by omega)).trans bG.o;have T:=(aX.block (n+1) (by omega)).trans br.o;have av:=below_drewN W W.heap.size 1;have bi:Hid (W.drew.heap[n]?=some (.cells #[.string s,.slice E J M] 24 (0,0))/\W.drew.heap[n+1]?=some (.cells #[.int .i64 ab,.int .u8 aa,.string (sB m),.slice A l cap,.string (sB ex),.bool al] 88 (0,0))/\W.drew.heap[o]?=some (.cells #[.func (.func 227) #[] #[.pointer (some ⟨aB,0,none⟩)],.func (.func 229) #[] #[.pointer (some ⟨aG,0,none⟩),.pointer (some ⟨aC,0,none⟩)]] 199 (0,0))/\W.drew.heap[o+1]?=some (.cells #[.func (.func 227) #[] #[.pointer (some ⟨aH,0,none⟩)],.func (.func 229) #[] #[.pointer (some ⟨az,0,none⟩),.pointer (some ⟨ay,0,none⟩)]] 199 (0,0))):=⟨aP,T,bN,bL⟩;have bg:=J9 ((bu.o.below (by rw [a7];exact aX)).below av);have bn:=J9 ((bY.o.below (by rw [a7];exact aX)).below av);have a9:=J9 (bM.below av);have bm:=J9 (bt.below av);have bk:Hid (Below n w W.drew):=bI.o.drew;have bo:Hid (W.drew.heap.size=o+2):=bJ;clear cf b0 ci cu cr b2 bE bj bf c bN bL bM bt bl bJ aX bu bY B0 bI bG br aT a7 aP T av
 go_upto_region 2 with fail
 obtain ⟨K,ax⟩:=N9 (W.drew);have bH:W.drewN 1=K:=ax;rw [bH] at bg bn a9 bm;rw [ax] at bi bk bo;have b:Hid (∀ Z,Below K.heap.size K Z->(Z.heap[n]?=some (.cells #[.string s,.slice E J M] 24 (0,0))/\Z.heap[n+1]?=some (.cells #[.int .i64 ab,.int .u8 aa,.string (sB m),.slice A l cap,.string (sB ex),.bool al] 88 (0,0))/\Z.heap[o]?=some (.cells #[.func (.func 227) #[] #[.pointer (some ⟨aB,0,none⟩)],.func (.func 229) #[] #[.pointer (some ⟨aG,0,none⟩),.pointer (some ⟨aC,0,none⟩)]] 199 (0,0))/\Z.heap[o+1]?=some (.cells #[.func (.func 227) #[] #[.pointer (some ⟨aH,0,none⟩)],.func (.func 229) #[] #[.pointer (some ⟨az,0,none⟩),.pointer (some ⟨ay,0,none⟩)]] 199 (0,0)))/\qai Z A L/\qai Z E C/\qdV Z (.agg #[.func (.func 227) #[] #[.pointer (some ⟨aB,0,none⟩)],.func (.func 229) #[] #[.pointer (some ⟨aG,0,none⟩),.pointer (some ⟨aC,0,none⟩)]]) aW/\qdV Z (.agg #[.func (.func 227) #[] #[.pointer (some ⟨aH,0,none⟩)],.func (.func 229) #[] #[.pointer (some ⟨az,0,none⟩),.pointer (some ⟨ay,0,none⟩)]]) a6/\Below n w Z/\o+1<Z.heap.size):=fun Z am=>by
  obtain ⟨b6,cc,b1,b9⟩:=bi.o;have cy:=bo.o;have cC:=am.size;exact ⟨⟨(am.block _ (by omega)).trans b6,(am.block _ (by omega)).trans cc,(am.block _ (by omega)).trans b1,(am.block _ (by omega)).trans b9⟩,bg.o.below am,bn.o.below am,a9.o.below am,bm.o.below am,bk.o.trans (am.mono (by omega)),by omega⟩
 have u:Hid (Below K.heap.size K K):=Qc _ _;clear bi bg bn a9 bm bk bo bH
 go_cut [7,8] (fun cg cw wx=>∃ (q:Nat) (aR:Bool) (ac:Option Addr) (ai au:Nat) (R:List Tr) (aZ:ByteArray),cg=.pointer (some ⟨q,0,none⟩)/\cw=.bool aR/\Hid (wx.heap[q]?=some (.cells #[.string aZ,.slice ac au ai] 24 (0,0))/\qai wx ac R/\R.length=au/\au<=1000/\Below n w wx/\wx.heap[n]?=some (.cells #[.string s,.slice E J M] 24 (0,0))/\qai wx E C/\qzT m s C a0=(aR&&(decide (aZ=s)&&decide (R=C)))))
 case first=>
  cases a0 with
  | none=>
   refine Mixed.qA7 (fun x=>x.heap[n]?=some (.cells #[.string s,.slice E J M] 24 (0,0))/\x.heap[n+1]?=some (.cells #[.int .i64 ab,.int .u8 aa,.string (sB m),.slice A l cap,.string (sB ex),.bool al] 88 (0,0))/\x.heap[o]?=some (.cells #[.func (.func 227) #[] #[.pointer (some ⟨aB,0,none⟩)],.func (.func 229) #[] #[.pointer (some ⟨aG,0,none⟩),.pointer (some ⟨aC,0,none⟩)]] 199 (0,0))/\x.heap[o+1]?=some (.cells #[.func (.func 227) #[] #[.pointer (some ⟨aH,0,none⟩)],.func (.func 229) #[] #[.pointer (some ⟨az,0,none⟩),.pointer (some ⟨ay,0,none⟩)]] 199 (0,0))) 13 (.pure 0 (.pure 1 (.pure 2 (.pure 4 (.pure 5 (.two 3 (.two 6 (.two 7 (.pure 8 (.pure 9 (.pure 10 (.one 11 (.one 12 .done))))) 11 (.one 7 (.pure 8 (.pure 9 (.pure 10 (.one 12 .done)))))) 11 (.one 6 (.one 7 (.pure 8 (.pure 9 (.pure 10 (.one 12 .done))))))) 11 (.one 3 (.one 6 (.one 7 (.pure 8 (.pure 9 (.pure 10 (.one 12 .done))))))))))))) (by kernel_rfl) (by kernel_rfl) (by rw [ax];exact (b.o _ u.o).1) ?_;rw [ax];clear ax;refine Mixed.qAS rfl (by kernel_rfl) (.agg #[.int .i64 ab,.int .u8 aa,.string (sB m),.slice A l cap,.string (sB ex),.bool al]) (fun w e=>by
    obtain ⟨k,f,U,V⟩:=e;have ao:=C9 f 0;have aq:=C9 f 1;have ca:=C9 f 2;have cj:=C9 f 3;have cm:=C9 f 4;have ck:=C9 f 5
    go_simp;try rfl) ?_
   refine Mixed.qAS rfl (by kernel_rfl) (.agg #[.func (.func 227) #[] #[.pointer (some ⟨aB,0,none⟩)],.func (.func 229) #[] #[.pointer (some ⟨aG,0,none⟩),.pointer (some ⟨aC,0,none⟩)]]) (fun w e=>by
    obtain ⟨k,f,U,V⟩:=e;have ao:=C9 U 0;have aq:=C9 U 1
    go_simp;try rfl) ?_
   refine Mixed.qAS rfl (by kernel_rfl) (.agg #[.string s,.slice E J M]) (fun w e=>by
    obtain ⟨k,f,U,V⟩:=e;have ao:=C9 k 0;have aq:=C9 k 1
    go_simp;try rfl) ?_
   refine Mixed.qAS rfl (by kernel_rfl) (.agg #[.func (.func 227) #[] #[.pointer (some ⟨aH,0,none⟩)],.func (.func 229) #[] #[.pointer (some ⟨az,0,none⟩),.pointer (some ⟨ay,0,none⟩)]]) (fun w e=>by
    obtain ⟨k,f,U,V⟩:=e;have ao:=C9 V 0;have aq:=C9 V 1
    go_simp;try rfl) ?_
   refine Mixed.qAS rfl (by kernel_rfl) (.agg #[.string s,.slice E J M]) (fun w e=>by
    obtain ⟨k,f,U,V⟩:=e;have ao:=C9 k 0;have aq:=C9 k 1
    go_simp;try rfl) ?_
   refine Mixed.qA4 rfl (by kernel_rfl) rfl (by kernel_rfl) ?_ ?_
   focus
    go_wp2_with fail
    refine (aV.o _ _ (b.o _ u.o).2.2.2.1 (b.o _ u.o).2.2.1).mono ?_;rintro r aj ⟨rfl,c⟩;have p:=J9 (u.o.trans (c.mono u.o.size));clear c u;go_wp2;refine ⟨(b.o _ p.o).1,?_⟩;refine Mixed.qA4 rfl (by kernel_rfl) rfl (by kernel_rfl) ?_ ?_
   focus
    go_wp2_with fail
    refine (aE.o _ _ (b.o _ p.o).2.2.2.2.1 (b.o _ p.o).2.2.1).mono ?_;rintro r ag ⟨rfl,c⟩;have y:=J9 (p.o.trans (c.mono p.o.size));clear c p;go_wp2;refine ⟨(b.o _ y.o).1,?_⟩;refine Mixed.qA4 rfl (by kernel_rfl) rfl (by kernel_rfl) ?_ ?_
   focus
    go_wp2_with fail
    refine (aQ.o _ (b.o _ y.o).2.1).mono ?_;rintro r ad ⟨rfl,c⟩;have ak:Hid (qai ad none []):=.inl rfl;have ae:=J9 (y.o.trans (c.mono y.o.size));clear c y;go_wp2;refine ⟨(b.o _ ae.o).1,?_⟩;refine Mixed.qAS rfl (by kernel_rfl) (.tuple #[.agg #[.string ⟨#[]⟩,.slice none 0 0],.bool false]) (fun w e=>by clear e;go_simp;try rfl) ?_;refine Mixed.qAS rfl (by kernel_rfl) (.agg #[.string ⟨#[]⟩,.slice none 0 0]) (fun w e=>by clear e;go_simp;try rfl) ?_;refine Mixed.qAS rfl (by kernel_rfl) (.bool false) (fun w e=>by clear e;go_simp;try rfl) ?_;refine Mixed.qAW rfl (by kernel_rfl) ?_;obtain ⟨an,aL⟩:=N9 (ad.alloc (.cells #[.string ⟨#[]⟩,.slice none 0 0] 24));have d:an.heap[ad.heap.size]?=some (.cells #[.string ⟨#[]⟩,.slice none 0 0] 24 (0,0)):=(by rw [<- aL];exact World.alloc_heap_new _ _);have h:Below ad.heap.size ad an:=(by rw [<- aL];exact B0);obtain ⟨q,O⟩:=N9 (ad.heap.size);rw [O] at d;have aA:o+1<q:=(by have:=(b.o _ ae.o).2.2.2.2.2.2;omega);have G:=J9 (ae.o.trans (h.mono ae.o.size));have ak:=J9 (ak.o.below h);clear h ae;go_wp2;refine ⟨(b.o _ G.o).1,?_⟩
   rotate_left
   focus
    obtain ⟨ar,aS⟩:=N9 (ag.alloc (.cells #[.string ⟨#[]⟩,.slice none 0 0] 24));have d:ar.heap[ag.heap.size]?=some (.cells #[.string ⟨#[]⟩,.slice none 0 0] 24 (0,0)):=(by rw [<- aS];exact World.alloc_heap_new _ _);have h:Below ag.heap.size ag ar:=(by rw [<- aS];exact B0);obtain ⟨q,O⟩:=N9 (ag.heap.size);rw [O] at d;have aA:o+1<q:=(by have:=(b.o _ y.o).2.2.2.2.2.2;omega);have v:=J9 (y.o.trans (h.mono y.o.size));clear h y;go_wp2;refine ⟨(b.o _ v.o).1,?_⟩
   rotate_left
   focus
    obtain ⟨ah,af⟩:=N9 (aj.alloc (.cells #[.string ⟨#[]⟩,.slice none 0 0] 24));have d:ah.heap[aj.heap.size]?=some (.cells #[.string ⟨#[]⟩,.slice none 0 0] 24 (0,0)):=(by rw [<- af];exact World.alloc_heap_new _ _);have h:Below aj.heap.size aj ah:=(by rw [<- af];exact B0);obtain ⟨q,O⟩:=N9 (aj.heap.size);rw [O] at d;have aA:o+1<q:=(by have:=(b.o _ p.o).2.2.2.2.2.2;omega);have g:=J9 (p.o.trans (h.mono p.o.size));clear h p;go_wp2;refine ⟨(b.o _ g.o).1,?_⟩;refine Mixed.qAW rfl (by kernel_rfl) ?_
    go_wp2_with fail
    refine (aE.o _ _ (b.o _ g.o).2.2.2.2.1 (b.o _ g.o).2.2.1).mono ?_;rintro r ar ⟨rfl,c⟩;have v:=J9 (g.o.trans (c.mono g.o.size));have d:=(c.block _ (Qb.1 d).1).trans d;clear c g;go_wp2;refine ⟨(b.o _ v.o).1,?_⟩
   rotate_left
   focus
    obtain ⟨ah,af⟩:=N9 (K.alloc (.cells #[.string ⟨#[]⟩,.slice none 0 0] 24));have d:ah.heap[K.heap.size]?=some (.cells #[.string ⟨#[]⟩,.slice none 0 0] 24 (0,0)):=(by rw [<- af];exact World.alloc_heap_new _ _);have h:Below K.heap.size K ah:=(by rw [<- af];exact B0);obtain ⟨q,O⟩:=N9 (K.heap.size);rw [O] at d;have aA:o+1<q:=(by have:=(b.o _ u.o).2.2.2.2.2.2;omega);have g:=J9 (u.o.trans (h.mono u.o.size));clear h u;go_wp2;refine ⟨(b.o _ g.o).1,?_⟩;refine Mixed.qAW rfl (by kernel_rfl) ?_
    go_wp2_with fail
    refine (aV.o _ _ (b.o _ g.o).2.2.2.1 (b.o _ g.o).2.2.1).mono ?_;rintro r cq ⟨rfl,c⟩;have S:=J9 (g.o.trans (c.mono g.o.size));have d:=(c.block _ (Qb.1 d).1).trans d;clear c g;go_wp2;refine ⟨(b.o _ S.o).1,?_⟩;refine Mixed.qAW rfl (by kernel_rfl) ?_
    go_wp2_with fail
    refine (aE.o _ _ (b.o _ S.o).2.2.2.2.1 (b.o _ S.o).2.2.1).mono ?_;rintro r ar ⟨rfl,c⟩;have v:=J9 (S.o.trans (c.mono S.o.size));have d:=(c.block _ (Qb.1 d).1).trans d;clear c S;go_wp2;refine ⟨(b.o _ v.o).1,?_⟩
   rotate_left 2
   iterate 3
    focus
     refine Mixed.qAW rfl (by kernel_rfl) ?_
     go_wp2_with fail
     refine (aQ.o _ (b.o _ v.o).2.1).mono ?_;rintro r an ⟨rfl,c⟩;have ak:Hid (qai an none []):=.inl rfl;have G:=J9 (v.o.trans (c.mono v.o.size));have d:=(c.block _ (Qb.1 d).1).trans d;clear c v;go_wp2;refine ⟨(b.o _ G.o).1,?_⟩;refine Mixed.qAS rfl (by kernel_rfl) (.tuple #[.agg #[.string ⟨#[]⟩,.slice none 0 0],.bool false]) (fun w e=>by clear e;go_simp;try rfl) ?_;refine Mixed.qAS rfl (by kernel_rfl) (.agg #[.string ⟨#[]⟩,.slice none 0 0]) (fun w e=>by clear e;go_simp;try rfl) ?_;refine Mixed.qAS rfl (by kernel_rfl) (.bool false) (fun w e=>by clear e;go_simp;try rfl) ?_
    rotate_left
   all_goals
    refine Mixed.qAW rfl (by kernel_rfl) ?_;have cp:=C9 d 0;have cv:=C9 d 1;have cn:=Qp d;have z:=J9 (qoZ (n:=n) (by omega) d ak.o (b.o _ G.o).2.2.1 (b.o _ G.o).1.1 (⟨#[]⟩) none 0 0);have bb:Hid (Below n w an):=(b.o _ G.o).2.2.2.2.2.1;have ap:=J9 (b.o _ G.o).1;clear d ak G;go_wp2;refine ⟨⟨(z.o.2.2.2.2.2 n (by omega)).trans ap.o.1,(z.o.2.2.2.2.2 (n+1) (by omega)).trans ap.o.2.1,(z.o.2.2.2.2.2 o (by omega)).trans ap.o.2.2.1,(z.o.2.2.2.2.2 (o+1) (by omega)).trans ap.o.2.2.2⟩,?_⟩;simp only [Mixed.qA0,Qr,Qx];go_wp2
    go_meet
    exact ⟨q,false,none,0,0,[],⟨#[]⟩,rfl,rfl,z.o.1,z.o.2.1,rfl,Qu _,bb.o.trans z.o.2.2.2.2.1,z.o.2.2.2.1,z.o.2.2.1,rfl⟩
  | some R=>
   have aK:Hid (R.length=l):=aK.o R rfl;refine Mixed.qA7 (fun x=>x.heap[n]?=some (.cells #[.string s,.slice E J M] 24 (0,0))/\x.heap[n+1]?=some (.cells #[.int .i64 ab,.int .u8 aa,.string (sB m),.slice A l cap,.string (sB ex),.bool al] 88 (0,0))/\x.heap[o]?=some (.cells #[.func (.func 227) #[] #[.pointer (some ⟨aB,0,none⟩)],.func (.func 229) #[] #[.pointer (some ⟨aG,0,none⟩),.pointer (some ⟨aC,0,none⟩)]] 199 (0,0))/\x.heap[o+1]?=some (.cells #[.func (.func 227) #[] #[.pointer (some ⟨aH,0,none⟩)],.func (.func 229) #[] #[.pointer (some ⟨az,0,none⟩),.pointer (some ⟨ay,0,none⟩)]] 199 (0,0))) 13 (.pure 0 (.pure 1 (.pure 2 (.pure 4 (.pure 5 (.two 3 (.two 6 (.two 7 (.pure 8 (.pure 9 (.pure 10 (.one 11 (.one 12 .done))))) 11 (.one 7 (.pure 8 (.pure 9 (.pure 10 (.one 12 .done)))))) 11 (.one 6 (.one 7 (.pure 8 (.pure 9 (.pure 10 (.one 12 .done))))))) 11 (.one 3 (.one 6 (.one 7 (.pure 8 (.pure 9 (.pure 10 (.one 12 .done))))))))))))) (by kernel_rfl) (by kernel_rfl) (by rw [ax];exact (b.o _ u.o).1) ?_;rw [ax];clear ax;refine Mixed.qAS rfl (by kernel_rfl) (.agg #[.int .i64 ab,.int .u8 aa,.string (sB m),.slice A l cap,.string (sB ex),.bool al]) (fun w e=>by
    obtain ⟨k,f,U,V⟩:=e;have ao:=C9 f 0;have aq:=C9 f 1;have ca:=C9 f 2;have cj:=C9 f 3;have cm:=C9 f 4;have ck:=C9 f 5
    go_simp;try rfl) ?_
   refine Mixed.qAS rfl (by kernel_rfl) (.agg #[.func (.func 227) #[] #[.pointer (some ⟨aB,0,none⟩)],.func (.func 229) #[] #[.pointer (some ⟨aG,0,none⟩),.pointer (some ⟨aC,0,none⟩)]]) (fun w e=>by
    obtain ⟨k,f,U,V⟩:=e;have ao:=C9 U 0;have aq:=C9 U 1
    go_simp;try rfl) ?_
   refine Mixed.qAS rfl (by kernel_rfl) (.agg #[.string s,.slice E J M]) (fun w e=>by
    obtain ⟨k,f,U,V⟩:=e;have ao:=C9 k 0;have aq:=C9 k 1
    go_simp;try rfl) ?_
   refine Mixed.qAS rfl (by kernel_rfl) (.agg #[.func (.func 227) #[] #[.pointer (some ⟨aH,0,none⟩)],.func (.func 229) #[] #[.pointer (some ⟨az,0,none⟩),.pointer (some ⟨ay,0,none⟩)]]) (fun w e=>by
    obtain ⟨k,f,U,V⟩:=e;have ao:=C9 V 0;have aq:=C9 V 1
    go_simp;try rfl) ?_
   refine Mixed.qAS rfl (by kernel_rfl) (.agg #[.string s,.slice E J M]) (fun w e=>by
    obtain ⟨k,f,U,V⟩:=e;have ao:=C9 k 0;have aq:=C9 k 1
    go_simp;try rfl) ?_
   refine Mixed.qA4 rfl (by kernel_rfl) rfl (by kernel_rfl) ?_ ?_
   focus
    go_wp2_with fail
    refine (aV.o _ _ (b.o _ u.o).2.2.2.1 (b.o _ u.o).2.2.1).mono ?_;rintro r aj ⟨rfl,c⟩;have p:=J9 (u.o.trans (c.mono u.o.size));clear c u;go_wp2;refine ⟨(b.o _ p.o).1,?_⟩;refine Mixed.qA4 rfl (by kernel_rfl) rfl (by kernel_rfl) ?_ ?_
   focus
    go_wp2_with fail
    refine (aE.o _ _ (b.o _ p.o).2.2.2.2.1 (b.o _ p.o).2.2.1).mono ?_;rintro r ag ⟨rfl,c⟩;have y:=J9 (p.o.trans (c.mono p.o.size));clear c p;go_wp2;refine ⟨(b.o _ y.o).1,?_⟩;refine Mixed.qA4 rfl (by kernel_rfl) rfl (by kernel_rfl) ?_ ?_
   focus
    go_wp2_with fail
    refine (aQ.o _ (b.o _ y.o).2.1).mono ?_;rintro r ad ⟨aD,rfl,aU,c⟩;obtain ⟨ac,ai,aO,aN,-⟩:=aU.ops;rw [aK.o] at aO;subst aO;have ak:=J9 aN;clear aN aU;have ae:=J9 (y.o.trans (c.mono y.o.size));clear c y;go_wp2;refine ⟨(b.o _ ae.o).1,?_⟩;refine Mixed.qAS rfl (by kernel_rfl) (.tuple #[.agg #[.string (sB m),.slice ac l ai],.bool true]) (fun w e=>by clear e;go_simp;try rfl) ?_;refine Mixed.qAS rfl (by kernel_rfl) (.agg #[.string (sB m),.slice ac l ai]) (fun w e=>by clear e;go_simp;try rfl) ?_;refine Mixed.qAS rfl (by kernel_rfl) (.bool true) (fun w e=>by clear e;go_simp;try rfl) ?_;refine Mixed.qAW rfl (by kernel_rfl) ?_;obtain ⟨an,aL⟩:=N9 (ad.alloc (.cells #[.string ⟨#[]⟩,.slice none 0 0] 24));have d:an.heap[ad.heap.size]?=some (.cells #[.string ⟨#[]⟩,.slice none 0 0] 24 (0,0)):=(by rw [<- aL];exact World.alloc_heap_new _ _);have h:Below ad.heap.size ad an:=(by rw [<- aL];exact B0);obtain ⟨q,O⟩:=N9 (ad.heap.size);rw [O] at d;have aA:o+1<q:=(by have:=(b.o _ ae.o).2.2.2.2.2.2;omega);have G:=J9 (ae.o.trans (h.mono ae.o.size));have ak:=J9 (ak.o.below h);clear h ae;go_wp2;refine ⟨(b.o _ G.o).1,?_⟩
   rotate_left
   focus
    obtain ⟨ar,aS⟩:=N9 (ag.alloc (.cells #[.string ⟨#[]⟩,.slice none 0 0] 24));have d:ar.heap[ag.heap.size]?=some (.cells #[.string ⟨#[]⟩,.slice none 0 0] 24 (0,0)):=(by rw [<- aS];exact World.alloc_heap_new _ _);have h:Below ag.heap.size ag ar:=(by rw [<- aS];exact B0);obtain ⟨q,O⟩:=N9 (ag.heap.size);rw [O] at d;have aA:o+1<q:=(by have:=(b.o _ y.o).2.2.2.2.2.2;omega);have v:=J9 (y.o.trans (h.mono y.o.size));clear h y;go_wp2;refine ⟨(b.o _ v.o).1,?_⟩
   rotate_left
   focus
    obtain ⟨ah,af⟩:=N9 (aj.alloc (.cells #[.string ⟨#[]⟩,.slice none 0 0] 24));have d:ah.heap[aj.heap.size]?=some (.cells #[.string ⟨#[]⟩,.slice none 0 0] 24 (0,0)):=(by rw [<- af];exact World.alloc_heap_new _ _);have h:Below aj.heap.size aj ah:=(by rw [<- af];exact B0);obtain ⟨q,O⟩:=N9 (aj.heap.size);rw [O] at d;have aA:o+1<q:=(by have:=(b.o _ p.o).2.2.2.2.2.2;omega);have g:=J9 (p.o.trans (h.mono p.o.size));clear h p;go_wp2;refine ⟨(b.o _ g.o).1,?_⟩;refine Mixed.qAW rfl (by kernel_rfl) ?_
    go_wp2_with fail
    refine (aE.o _ _ (b.o _ g.o).2.2.2.2.1 (b.o _ g.o).2.2.1).mono ?_;rintro r ar ⟨rfl,c⟩;have v:=J9 (g.o.trans (c.mono g.o.size));have d:=(c.block _ (Qb.1 d).1).trans d;clear c g;go_wp2;refine ⟨(b.o _ v.o).1,?_⟩
   rotate_left
   focus
    obtain ⟨ah,af⟩:=N9 (K.alloc (.cells #[.string ⟨#[]⟩,.slice none 0 0] 24));have d:ah.heap[K.heap.size]?=some (.cells #[.string ⟨#[]⟩,.slice none 0 0] 24 (0,0)):=(by rw [<- af];exact World.alloc_heap_new _ _);have h:Below K.heap.size K ah:=(by rw [<- af];exact B0);obtain ⟨q,O⟩:=N9 (K.heap.size);rw [O] at d;have aA:o+1<q:=(by have:=(b.o _ u.o).2.2.2.2.2.2;omega);have g:=J9 (u.o.trans (h.mono u.o.size));clear h u;go_wp2;refine ⟨(b.o _ g.o).1,?_⟩;refine Mixed.qAW rfl (by kernel_rfl) ?_
    go_wp2_with fail
    refine (aV.o _ _ (b.o _ g.o).2.2.2.1 (b.o _ g.o).2.2.1).mono ?_;rintro r cq ⟨rfl,c⟩;have S:=J9 (g.o.trans (c.mono g.o.size));have d:=(c.block _ (Qb.1 d).1).trans d;clear c g;go_wp2;refine ⟨(b.o _ S.o).1,?_⟩;refine Mixed.qAW rfl (by kernel_rfl) ?_
    go_wp2_with fail
    refine (aE.o _ _ (b.o _ S.o).2.2.2.2.1 (b.o _ S.o).2.2.1).mono ?_;rintro r ar ⟨rfl,c⟩;have v:=J9 (S.o.trans (c.mono S.o.size));have d:=(c.block _ (Qb.1 d).1).trans d;clear c S;go_wp2;refine ⟨(b.o _ v.o).1,?_⟩
   rotate_left 2
   iterate 3
    focus
     refine Mixed.qAW rfl (by kernel_rfl) ?_
     go_wp2_with fail
     refine (aQ.o _ (b.o _ v.o).2.1).mono ?_;rintro r an ⟨aD,rfl,aU,c⟩;obtain ⟨ac,ai,aO,aN,-⟩:=aU.ops;rw [aK.o] at aO;subst aO;have ak:=J9 aN;clear aN aU;have G:=J9 (v.o.trans (c.mono v.o.size));have d:=(c.block _ (Qb.1 d).1).trans d;clear c v;go_wp2;refine ⟨(b.o _ G.o).1,?_⟩;refine Mixed.qAS rfl (by kernel_rfl) (.tuple #[.agg #[.string (sB m),.slice ac l ai],.bool true]) (fun w e=>by clear e;go_simp;try rfl) ?_;refine Mixed.qAS rfl (by kernel_rfl) (.agg #[.string (sB m),.slice ac l ai]) (fun w e=>by clear e;go_simp;try rfl) ?_;refine Mixed.qAS rfl (by kernel_rfl) (.bool true) (fun w e=>by clear e;go_simp;try rfl) ?_
    rotate_left
   all_goals
    refine Mixed.qAW rfl (by kernel_rfl) ?_;have cp:=C9 d 0;have cv:=C9 d 1;have cn:=Qp d;have z:=J9 (qoZ (n:=n) (by omega) d ak.o (b.o _ G.o).2.2.1 (b.o _ G.o).1.1 (sB m) ac l ai);have bb:Hid (Below n w an):=(b.o _ G.o).2.2.2.2.2.1;have ap:=J9 (b.o _ G.o).1;clear d ak G;go_wp2;refine ⟨⟨(z.o.2.2.2.2.2 n (by omega)).trans ap.o.1,(z.o.2.2.2.2.2 (n+1) (by omega)).trans ap.o.2.1,(z.o.2.2.2.2.2 o (by omega)).trans ap.o.2.2.1,(z.o.2.2.2.2.2 (o+1) (by omega)).trans ap.o.2.2.2⟩,?_⟩;simp only [Mixed.qA0,Qr,Qx];go_wp2
    go_meet
    exact ⟨q,true,ac,ai,l,R,sB m,rfl,rfl,z.o.1,z.o.2.1,aK.o,b4.o,bb.o.trans z.o.2.2.2.2.1,z.o.2.2.2.1,z.o.2.2.1,rfl⟩
 case rest=>
  obtain ⟨q,aR,ac,ai,au,R,aZ,rfl,rfl,bA⟩:=hcut;obtain ⟨bc,bW,bO,bK,bS,a4,bD,bp⟩:=bA.o;have a8:=J9 (bR.o aZ ac ai au R bO bK wc bW bD);obtain ⟨b3,bB⟩:=N9 ((decide (aZ=s)&&decide (R=C)));rw [bB] at a8 bp;have bQ:Hid (qnZ m L ex s C=(aR&&b3)):=by show _=_;rw [bU.o];exact bp
  have bw:=J9 bS;have cJ:=C9 bc 0;have cD:=C9 bc 1;have cE:=C9 a4 0;have cH:=C9 a4 1;have ct:Hid (n<=wc.heap.size):=QV (Qb.1 a4).1;clear bc bW bO bK bS a4 bD bp bA bB bR aQ aV aE b u bU aK;cases aR with
  | false=>
   go_wp2;go_ret;exact ⟨by rw [bQ.o];rfl,by rw [bT.o];exact bw.o⟩
  | true=>
   go_wp2_with fail
   refine a8.o.mono ?_;rintro r cF ⟨rfl,c⟩;have b8:=J9 (bw.o.trans (c.mono ct.o));clear c a8;go_wp2;go_ret;exact ⟨by rw [bQ.o,Bool.true_and];rfl,by rw [bT.o];exact b8.o⟩
end Go.Proofs.YtecpnfhpcamljaaGreatDoor
namespace Go.Proofs.YtecpnfhpcamljaaGreatDoor
open Tryz
open Go.RowKit Go.Shelf
attribute [local go_sem] Oper.semAt_some
attribute [local irreducible] Go.Mixed.qAU
def qoz (h:Str) (C:List Tr) (k:Ke):Bool:=qnZ k.2.2.1 k.2.2.2.1 k.2.2.2.2.1 (sB h) C
def qfe (k:Ke):Bool:=!k.2.2.2.2.2
def qjU (h:Str) (C:List Tr):List Ke:=(candK h C).filter qfe
def qdB (h:Str) (C:List Tr):Option Ke:=(qjU h C).find? (qoz h C)
def codeF (h:Str) (I:List Tr) (C:List Tr):Int:=if qa5 (sB h) I≠0 then qa5 (sB h) I else if (qjU h C).isEmpty then 11 else 2
def qhB (w:World) (k:Str) (I:List Tr) (o:Option Ke) (e:Ending) (w':World):Prop:=match o with
 | some h=>∃ q y,e=.returned (.tuple #[enV h.1 h.2.1 h.2.2.1 (.slice q h.2.2.2.1.length y) h.2.2.2.2.1 h.2.2.2.2.2,.int .i64 0])/\qai w' q h.2.2.2.1/\Below w.heap.size w w'
 | none=>e=.returned (.tuple #[enV 0 0 [] (.slice none 0 0) [] false,.int .i64 (codeF k I (canL (opc (sB k)) I))])/\Below w.heap.size w w'
theorem qpa {p:Str} {C:List Tr} {k:Ke} (h:k∈candK p C):qdA k/\k.2.2.1=p/\k.2.2.2.1.map ks2=C.map ks2/\k.1∈qbD C:=by
 unfold candK qfj at h;obtain ⟨e,z⟩:=List.mem_filter.1 h;unfold qaw at e;obtain ⟨y,q,e⟩:=List.mem_flatMap.1 e;rw [qca] at e;obtain ⟨G,E⟩:=List.mem_filter.1 e;obtain ⟨J,K⟩:=qp3 y 256 (Qa _) k G;exact ⟨K,Qo E,Qo z,J ▸ q⟩
theorem qvx {h:Str} {C:List Tr} {k:Ke} (e:qdA k) (n:k.2.2.1=h) (q:k.2.2.2.1.map ks2=C.map ks2) (y:k.1∈qbD C):k∈candK h C:=by
 unfold candK qfj;refine List.mem_filter.2 ⟨?_,Qn q⟩;unfold qaw;refine List.mem_flatMap.2 ⟨k.1,y,?_⟩;rw [qca];refine List.mem_filter.2 ⟨qqV e 256 ?_,Qn n⟩;obtain ⟨G,z,E,-⟩:=e;omega
theorem qup {h:Str} {C:List Tr} {y:List Ke} {x:Ke} (J:y++[x] <+: candK h C) (z:∀ q∈y,qfe q=true->qoz h C q=false) (M:qfe x=true) (E:qoz h C x=true):qdB h C=some x:=by
 obtain ⟨T,O⟩:=J;unfold qdB qjU;rw [<- O,List.filter_append,List.filter_append,List.find?_append,List.find?_append];have t:(y.filter qfe).find? (qoz h C)=none:=by
  rw [List.find?_eq_none];intro q G;obtain ⟨t,K⟩:=List.mem_filter.1 G;rw [z q t K];decide
 rw [t];simp [M,E]
theorem qjB {q:Str} {C:List Tr} (y:∀ h∈candK q C,qfe h=true->qoz q C h=false):qdB q C=none:=by
 unfold qdB qjU;rw [List.find?_eq_none];intro h z;obtain ⟨E,G⟩:=List.mem_filter.1 z;rw [y h E G];decide
def cdF (h:List Ke):Int:=if (h.filter qfe).isEmpty then 11 else 2
theorem qoq (h:List Ke) (x:Ke) (q:qfe x=false):cdF (h++[x])=cdF h:=by
 unfold cdF;rw [List.filter_append,List.filter_cons_of_neg (by rw [q];decide),List.filter_nil,Zu]
theorem qv5 (q:List Ke) (x:Ke) (h:qfe x=true):cdF (q++[x])=2:=by
 unfold cdF;rw [List.filter_append];simp [h]
theorem qsk {A B C:World} {cb N:Nat} {row:Option Nat} (e:A.grownBy B (some cb)) (k:B.grownBy C row) (E:N=A.heap.size) (q:∀ r,row=some r->N<=r):A.grownBy C (some cb):=
 ⟨k.os.trans e.os,k.tape.trans e.tape,k.output.trans e.output,Qj e.size k.size,fun h i z=>(k.block h (Zk i e.size) (fun y=>by have:=q h y.symm;omega)).trans (e.block h i z)⟩
theorem qgo {A B:World} {cb:Nat} (e:A.grownBy B (some cb)):qaA cb A B:=⟨e.size,fun k y o h _=>(e.block k (Qb.1 h).1 (fun q=>o (Qs q))).trans h⟩
theorem qgj {e q:World} {A:Option Addr} {L:List Tr} {row:Option Nat} (G:qai e A L) (K:e.grownBy q row) (V:∀ r,row=some r->∃ o:Obj,e.heap[r]?=some o/\o.isCells=false):qai q A L:=by
 rcases G with rfl | ⟨b,M,rfl,J⟩
 ·exact .inl rfl
 ·refine .inr ⟨b,M,rfl,fun U y=>?_⟩
  have j:∀ h p,e.cell? ⟨b,h,none⟩=some p->q.cell? ⟨b,h,none⟩=some p:=fun h p v=>by
   obtain ⟨o,W,z⟩:=cells_of_cell v;exact (Q1 (a:=⟨b,h,none⟩) (grownBy_keeps_cells K V W z)).trans v
  obtain ⟨E,T,O⟩:=J U y;exact ⟨j _ _ E,j _ _ T,j _ _ O⟩
theorem qol {q:World} {c h:Nat} {t:Tr} {T O:Value} {m ex:ByteArray} {A:Option Addr} {n cap:Nat} {G:TypeId} (J:q.cell? ⟨c,h+0*3,none⟩=some (.int .i64 t.1)/\q.cell? ⟨c,h+0*3+1,none⟩=some (.int .i64 t.2.1)/\q.cell? ⟨c,h+0*3+2,none⟩=some (.int .i64 t.2.2))
  (M:q.heap[c]?=some (.cells #[T,O,.string m,.slice A n cap,.string ex,.bool false] G (0,0))):False:=by
 obtain ⟨z,E,y⟩:=J;rw [C9 M] at z E y;have K:=(Qb.1 y).1;have:h=0\/h=1\/h=2\/h=3:=by simp at K;omega
 rcases this with rfl | rfl | rfl | rfl
 all_goals first | (cases z;done) | (cases E;done) | (cases y;done)
theorem qgw {h:World} {c q:Nat} {t:Tr} {z:TypeId} {v:Value} (E:h.cell? ⟨c,q+0*3,none⟩=some (.int .i64 t.1)/\h.cell? ⟨c,q+0*3+1,none⟩=some (.int .i64 t.2.1)/\h.cell? ⟨c,q+0*3+2,none⟩=some (.int .i64 t.2.2))
  (G:Boxed h c z v):False:=by
 obtain ⟨K,M,y⟩:=E;rw [C9 (show h.heap[c]?=_ from G)] at y;have J:=(Qb.1 y).1;simp at J
theorem qAt {w:World} {b:Nat} {h:TypeId} {q:Array Value} (y:w.heap[b]?=some (.cells q h (0,0))) (cs:Array Value):∃ w',w.setRow b cs=w'/\
  w'.heap[b]?=some (.cells cs h (0,0))/\(∀ k,k≠b->w'.heap[k]?=w.heap[k]?)/\Below b w w'/\w'.heap.size=w.heap.size:=
 ⟨_,rfl,setRow_heap w b q cs h (0,0) y,fun k z=>setRow_other w b k cs z,below_setRow (Qc b w) (Qa _) cs,by simp⟩
theorem qAu {w:World} {b:Nat} {K:TypeId} {Z T V W M U:Value} (O:w.heap[b]?=some (.cells #[Z,T,V,W,M,U] K (0,0))) (y E G q z J:Value):∃ w',(((((w.setCell ⟨b,0,none⟩ y).setCell ⟨b,1,none⟩ E).setCell ⟨b,2,none⟩ G).setCell ⟨b,3,none⟩ q).setCell ⟨b,4,none⟩ z).setCell ⟨b,5,none⟩ J=w'/\
  w'.heap[b]?=some (.cells #[y,E,G,q,z,J] K (0,0))/\(∀ k,k≠b->w'.heap[k]?=w.heap[k]?)/\KeepsOthers w w'/\Below b w w'/\w'.heap.size=w.heap.size:=by
 refine ⟨_,rfl,?_,fun k h=>?_,?_,?_,by simp⟩
 ·exact heap_setCell_same _ b 5 _ _ J (heap_setCell_same _ b 4 _ _ z (heap_setCell_same _ b 3 _ _ q (heap_setCell_same _ b 2 _ _ G (heap_setCell_same _ b 1 _ _ E (heap_setCell_same w b 0 _ _ y O)))))
 ·exact (heap_setCell_other _ ⟨b,5,none⟩ k _ h).trans ((heap_setCell_other _ ⟨b,4,none⟩ k _ h).trans ((heap_setCell_other _ ⟨b,3,none⟩ k _ h).trans ((heap_setCell_other _ ⟨b,2,none⟩ k _ h).trans ((heap_setCell_other _ ⟨b,1,none⟩ k _ h).trans (heap_setCell_other _ ⟨b,0,none⟩ k _ h)))))
 ·exact (((((KeepsOthers.setCell _ _ _).trans (KeepsOthers.setCell _ _ _)).trans (KeepsOthers.setCell _ _ _)).trans (KeepsOthers.setCell _ _ _)).trans (KeepsOthers.setCell _ _ _)).trans (KeepsOthers.setCell _ _ _)
 ·exact ((((((Qc b w).setCell (p:=⟨b,0,none⟩) (Qa _) _).setCell (p:=⟨b,1,none⟩) (Qa _) _).setCell (p:=⟨b,2,none⟩) (Qa _) _).setCell (p:=⟨b,3,none⟩) (Qa _) _).setCell (p:=⟨b,4,none⟩) (Qa _) _).setCell (p:=⟨b,5,none⟩) (Qa _) _
theorem qqA (g:Str) (dv:g.length<=1000) (Y:Option Addr) (au aw:Nat) (I:List Tr) (cG:I.length=aw) (dU:aw<=900) (w:World) (b1:qad w) (bZ:qai w Y I) :
  Calls prog 65 #[.agg #[.string (sB g),.slice Y aw au]] w (qhB w g I (qdB g (canL (opc (sB g)) I))):=by
 have bq:=fun w b=>quj (sB g) Y au I (by omega) w b
 rw [cG] at bq;have bW:=fun w b=>qpl (sB g) Y au I (by rw [qaB];unfold maxLen;omega) (by omega) w b
 rw [cG] at bW;have cY:=qeA (opc (sB g)) I;obtain ⟨q,cj⟩:=N9 (canL (opc (sB g)) I);have cX:Hid (canL (opc (sB g)) I=q):=cj;rw [cj] at bq cY |-;obtain ⟨ac,bX⟩:=N9 (q.length);have c3:ac<=1000:=by omega
 obtain ⟨ah,aY⟩:=N9 (((w.alloc (.cells #[.string (sB g),.slice Y aw au] 24)).alloc (.cells #[.int .i64 0,.int .u8 0,.string ⟨#[]⟩,.slice none 0 0,.string ⟨#[]⟩,.bool false] 88)).alloc (.cells #[.int .i64 0] 89));obtain ⟨n,av⟩:=N9 (w.heap.size);have bV:ah.heap.size=n+1+1+1:=by rw [<- aY,<- av];simp
 have b6:Below n w ah:=by rw [<- aY,<- av];exact (((B0 (w:=w))).alloc (by simp) _).alloc (by simp;omega) _
 have am:ah.heap[n]?=some (.cells #[.string (sB g),.slice Y aw au] 24 (0,0)):=by
  rw [<- aY,<- av];exact (Below.heap_alloc _ _ _ (by simp;omega)).trans ((Below.heap_alloc _ _ _ (by simp)).trans (World.alloc_heap_new w _))
 have cA:ah.heap[n+1]?=some (.cells #[.int .i64 0,.int .u8 0,.string ⟨#[]⟩,.slice none 0 0,.string ⟨#[]⟩,.bool false] 88 (0,0)):=by
  rw [<- aY,<- av];refine (Below.heap_alloc _ _ _ (by simp)).trans ?_;have b:=World.alloc_heap_new (w.alloc (.cells #[.string (sB g),.slice Y aw au] 24)) (.cells #[.int .i64 0,.int .u8 0,.string ⟨#[]⟩,.slice none 0 0,.string ⟨#[]⟩,.bool false] 88)
  rwa [QB] at b
 have cU:Boxed ah (n+1+1) 89 (.int .i64 0):=by
  rw [<- aY,<- av];have b:=Boxed.new ((w.alloc (.cells #[.string (sB g),.slice Y aw au] 24)).alloc (.cells #[.int .i64 0,.int .u8 0,.string ⟨#[]⟩,.slice none 0 0,.string ⟨#[]⟩,.bool false] 88)) 89 (.int .i64 0)
  rwa [QB,QB] at b
 have bv:Below w.heap.size w ah:=by rw [av];exact b6
 have cV:=bq ah (bZ.below bv);have dS:0 < n:=by rw [<- av];exact b1.lt
 have cH:qad ah:=b1.below bv;have b4:=C9 am 0;have bR:=C9 am 1;have cx:=J9 (bZ.below bv);refine callsIn_wide.1 (callsIn_of_wp_marks (n:=3) func65 rfl trivial ?_ rfl);simp only [ntmps65,List.size_toArray,Qt,QP,Nat.reduceAdd,Nat.reduceSub,Array.replicate_succ,Array.replicate_zero,List.push_toArray,List.append_toArray,List.nil_append,Zn];refine wpIn_wide.2 ?_
 go_wp2_with fail
 refine cV.mono ?_;rintro h an ⟨dO,rfl,cP,cr⟩;obtain ⟨T,ak,rfl,b3,-,-⟩:=cP.ops;rw [bX];obtain ⟨e,m⟩:=N9 (an.heap.size);obtain ⟨ao,a3⟩:=N9 ((an.alloc (.cells #[.string (sB g),.slice T ac ak] 24)).alloc (.cells #[.int .i64 11] 89));have ap:ao.heap.size=e+1+1:=by rw [<- a3,<- m];simp
 have aX:Below e an ao:=by rw [<- a3,<- m];exact ((B0 (w:=an))).alloc (by simp) _
 have dp:n+3<=e:=by have:=cr.size;omega
 have bx:ao.heap[e]?=some (.cells #[.string (sB g),.slice T ac ak] 24 (0,0)):=by
  rw [<- a3,<- m];exact (Below.heap_alloc _ _ _ (by simp)).trans (World.alloc_heap_new an _)
 have cm:Boxed ao (e+1) 89 (.int .i64 11):=by
  rw [<- a3,<- m];have b:=Boxed.new (an.alloc (.cells #[.string (sB g),.slice T ac ak] 24)) 89 (.int .i64 11)
  rwa [QB] at b
 have cf:=qlx (sB g) T ac ak ao;rw [ap] at cf;have bE:=C9 bx 0;have bu:=C9 bx 1
 go_wp2_with fail
 refine cf.mono ?_;rintro h J ⟨rfl,aT⟩;have bS:J.heap.size=e+1+1+1:=by rw [<- aT];simp;omega
 have bc:Below ao.heap.size ao J:=by rw [<- aT];exact B0
 have c2:J.heap[e+1+1]?=some (.cells #[.string (sB g),.slice T ac ak] 24 (0,0)):=by
  rw [<- aT,<- ap];exact World.alloc_heap_new ao _
 have aP:Below (n+1+1+1) ah J:=(cr.mono (by omega)).trans ((aX.mono (by omega)).trans (bc.mono (by omega)));have cQ:=aX.trans (bc.mono (by omega));have dc:=J9 ((aP.block n (by omega)).trans am);have da:=J9 ((aP.block (n+1) (by omega)).trans cA);have cB:Hid (Boxed J (n+1+1) 89 (.int .i64 0)):=(aP.block _ (by omega)).trans cU;have dC:=J9 ((bc.block e (by omega)).trans bx);have cF:Hid (Boxed J (e+1) 89 (.int .i64 11)):=(bc.block _ cm.lt).trans cm;have cK:=J9 (b6.trans (aP.mono (by omega)));have dg:Hid (qad J):=cH.below (by rw [bV];exact aP);have cS:Hid (qai J T q):=b3.below (by rw [m];exact cQ);have dt:Hid (qai J Y I):=cx.o.below (by rw [bV];exact aP);have bU:∀ aW,T=some aW->q≠[]->aW.block≠e+1:=fun aW aI V=>by
  rcases b3 with b | ⟨aO,bC,h,O⟩
  ·exact absurd b V
  ·rw [aI] at h
   obtain rfl:=Qs h;have dM:aO<an.heap.size:=Qq an _ (O 0 (Zp.2 V)).1;show aO≠e+1;omega
 have dA:=J9 bU;have cq:=qlA 2 (e+1+1) (e+1) g T ak ac q bX c3 J c2 cS.o dg.o (by omega) (by omega) bU (by omega);have cp:=J9 av;have dl:=J9 bX;have ch:=J9 bW;have o:Hid (n+3<=e):=dp;have dG:Hid (∀ (a:Ee) (ae:World) (dx:Option Addr),qdA a.k->qai ae a.A a.L->qai ae T q->Calls prog 110 #[.agg #[.string (sB g),.slice T ac ak],eeV a] ae fun h dB=>h=.returned (.bool (qoz g q a.k))/\Below ae.heap.size ae dB):=fun a ae dx bI D P=>by
  have b:=bI.ok;exact qju a.g a.o a.m (by have:=b.m;simp only [Ee.k] at this;omega) b.up a.A a.cap a.L.length a.L rfl (by have:=b.len;simp only [Ee.k] at this;omega) a.ex (by have:=b.ex;simp only [Ee.k] at this;omega) a.al (sB g) T ak ac q dl.o c3 ae D P
 clear cf c2 bc b6 am cA cU bx cm aT aY av bV ap bq bW cV b4 bR bE bu cH b1 bZ cx bv cr cP b3 m aX a3 aP cQ bU cj dv cY ah an ao
 go_wp2_with fail
 refine wpIn_wide.1 (Stops.qBs (F:=Fence.wide) (n:=3) rfl (by omega) (gf:=151) (lb:=#[.pointer (some ⟨e+1+1,0,none⟩)]) rfl trivial (enters_of func151 (by kernel_rfl) rfl)
  cq (fun b M=>b.trans M) (fun k dE Z du _ dq aR=>qaA.put k dE Z du dq aR) (fun _=>rfl)
  (fun E k=>(∀ W∈E,qfe W.k=true->qoz g q W.k=false)/\Boxed k (e+1) 89 (.int .i64 (cdF (E.map Ee.k)))/\J.grownBy k (some (e+1)))
  (fun E k=>∃ p a,E=p++[a]/\qdB g q=some a.k/\k.heap[n+1]?=some (.cells #[.int .i64 a.g,.int .u8 a.o,.string (sB a.m),a.v,.string (sB a.ex),.bool a.al] 88 (0,0))/\Boxed k (n+1+1) 89 (.int .i64 0)/\qai k a.A a.L/\Below n w k)
  (fun cZ cy c8 row b s ax=>⟨b.1,b.2.1.kept s (fun h=>by have:=(ax _ h.symm).1;omega),qsk b.2.2 s rfl fun al h=>(ax al h).1⟩)
  (fun cZ cy c8 row b s ax=>by
   obtain ⟨p,a,D,P,aA,bf,bz,bH⟩:=b;have V:∀ M,M<e+1+1+1->some M≠row:=fun M aZ h=>by have:=(ax M h.symm).1;omega
   exact ⟨p,a,D,P,(s.block _ (Qb.1 aA).1 (V _ (by have:=o.o;omega))).trans aA,bf.kept s (V _ (by have:=o.o;omega)),qgj bz s fun al h=>(ax al h).2,bH.grown s (by have:=bf.lt;omega) fun al h=>by have:=(ax al h).1;have:=o.o;omega⟩)
  ⟨fun W z=>(by cases z),cF.o,World.grownBy.refl _ _⟩
  (fun E a cT k=>ShE g q E a k/\∃ aG,e+3<=aG/\k.heap[aG]?=some (.cells #[.int .i64 a.g,.int .u8 a.o,.string (sB a.m),a.v,.string (sB a.ex),.bool a.al] 88 (0,0))/\cT={tmps:=#[.agg #[.string (sB g),.slice Y aw au],.pointer (some ⟨n,0,none⟩),.pointer (some ⟨n+1,0,none⟩),.pointer (some ⟨n+1+1,0,none⟩),.pointer (some ⟨e,0,none⟩),.pointer (some ⟨e+1,0,none⟩),.pointer (some ⟨aG,0,none⟩),undef,.agg #[.string (sB g),.slice Y aw au],.agg #[.string (sB g),.slice T ac ak],.agg #[.string (sB g),.slice T ac ak],.func (.func 151) #[] #[.pointer (some ⟨e+1+1,0,none⟩)],eeV a,undef,undef,undef,undef,undef,undef,undef,undef,undef,undef,undef,undef,undef],defers:=[]})
  (fun E a cZ cy c8 row b s ax=>by
   obtain ⟨U,aG,D,P,aA⟩:=b;exact ⟨⟨U.1,qgj U.2 s fun al h=>(ax al h).2⟩,aG,D,(grownBy_keeps_cells s (fun al h=>(ax al h).2) P rfl).trans P,aA⟩)
  ?assign ?body ?done ?stop)
 case assign=>
  rintro cJ E a k dK ⟨bO,bA,aQ⟩ ay ai;obtain ⟨a2,Z,aV,aB,a0,ar,a1,cc⟩:=a;obtain ⟨c6,be⟩:=N9 (ar.length);simp only [eeV,enV,Ee.v,be] at ai |-;have az:=aQ.size
  gi_wp2
  exact ai _ _ ((KeepsOthers.alloc _ _).from _) (qaA.of_below (up1 _ _)) ⟨bO,bA.alloc _,World.grownBy.trans aQ (qbf (up1 _ _) _)⟩ ⟨⟨ay.1,ay.2.below (up1 _ _)⟩,k.heap.size,by omega,World.alloc_heap_new k _,rfl⟩
 case body=>
  rintro cJ E a cT k ⟨bO,bA,aQ⟩ ⟨ay,aG,dJ,O,rfl⟩;have bI:qdA a.k:=(qpa (ay.1.subset (by simp))).1;have dd:(E++[a]).map Ee.k=E.map Ee.k++[a.k]:=by simp
  have af:=qgo aQ;have aS:=dG.o a k a.A bI ay.2 (cS.o.qBl af dA.o);have b7:=af.2 e _ (by omega) dC.o rfl;have ab:=af.2 (n+1) _ (by have:=o.o;omega) da.o rfl;have aa:=af.boxed cB.o (by have:=o.o;omega);have az:=aQ.size;have dI:Hid ((E++[a]).map Ee.k <+: candK g q):=ay.1;have dn:=J9 ay.2;have I1:=J9 bO;have I2:=J9 bA;have I3:=J9 aQ;have aj:=J9 ab;have ag:=J9 aa;have de:Hid (e+3<=k.heap.size):=by show _<=_;omega
  have cl:=J9 dd;obtain ⟨a2,Z,aV,aB,a0,ar,a1,cc⟩:=a;obtain ⟨c6,be⟩:=N9 (ar.length);have ds:=J9 be;simp only [eeV,enV,Ee.v,be] at aS O |-;have cO:=J9 O;have cW:=C9 O 0;have ct:=C9 O 1;have c9:=C9 O 2;have cu:=C9 O 3;have df:=C9 O 4;have cL:=C9 O 5;have bE:=C9 b7 0;have bu:=C9 b7 1;clear bO bA aQ ay bI af b7 ab aa az O dd be;cases cc with
  | true=>
   have dr:Hid (KeepsFrom J.heap.size k k/\qaA (e+1) k k/\(∀ W∈E++[(⟨a2,Z,aV,aB,a0,ar,a1,true⟩:Ee)],qfe W.k=true->qoz g q W.k=false)/\Boxed k (e+1) 89 (.int .i64 (cdF ((E++[(⟨a2,Z,aV,aB,a0,ar,a1,true⟩:Ee)]).map Ee.k)))/\J.grownBy k (some (e+1))):=by
    refine ⟨qay (Qc _ _) _,qaA.refl _ _,fun W z b=>?_,?_,I3.o⟩
    ·rcases QY.1 z with z | z
     ·exact I1.o W z b
     ·rw [QI.1 z] at b
      cases b
    ·rw [cl.o,qoq _ _ rfl]
     exact I2.o
   clear aS
   gi_wp2
   have b:=dr.o;rw [bS] at b;exact b
  | false=>
   obtain ⟨dh,bY⟩:=N9 (qoz g q (Ee.k ⟨a2,Z,aV,aB,a0,ar,a1,false⟩));rw [bY] at aS;have db:=J9 bY;clear bY
   gi_wp2_with fail
   refine ⟨trivial,CallsIn.inRound cJ (callsIn_wide.2 aS) |>.mono ?_⟩;rintro h K ⟨rfl,m⟩;have aE:=J9 m;have cD:Hid (J.grownBy K (some (e+1))):=World.grownBy.trans I3.o (qbf m _);have a4:=(m.block _ I2.o.lt).trans I2.o;cases dh with
   | true=>
    have D:=(m.block _ (Qb.1 aj.o).1).trans aj.o;have P:Boxed K (n+1+1) 89 (.int .i64 0):=(m.block _ ag.o.lt).trans ag.o;have aL:=(m.block aG (Qb.1 cO.o).1).trans cO.o;have dT:=C9 aL 0;have dV:=C9 aL 1;have dN:=C9 aL 2;have dW:=C9 aL 3;have dR:=C9 aL 4;have dL:=C9 aL 5;have bF:=C9 D 0;have bL:=C9 D 1;have bD:=C9 D 2;have bt:=C9 D 3;have bw:=C9 D 4;have bB:=C9 D 5;have bM:=Qp D;have c4:=P.cell;have cR:=P.frozen;have c7:=J9 D;have dH:=J9 P;have cN:=J9 (dn.o.below m);have bJ:Hid (Below n w K):=(cK.o.grown cD.o (by rw [bS];have:=o.o;omega) fun M h=>by cases h;have:=o.o;omega);clear aS m D P aL a4 cW ct c9 cu df cL bE bu
    gi_wp2
    obtain ⟨G,di,aF,X,dy,aJ,bK⟩:=qAu c7.o (.int .i64 a2) (.int .u8 Z) (.string (sB aV)) (.slice aB c6 a0) (.string (sB a1)) (.bool false);rw [di];have aX:Boxed G (n+1+1) 89 (.int .i64 0):=(X _ (by omega)).trans dH.o;have cE:qai G aB ar:=cN.o.qBl (cb:=n+1) ⟨by omega,fun M Z aZ aR _=>(X M aZ).trans aR⟩ (fun aW aI V=>by
     rcases cN.o with b | ⟨aO,bC,h,bP⟩
     ·exact absurd b V
     ·rw [aI] at h
      obtain rfl:=Qs h;rintro rfl;exact qol (bP 0 (Zp.2 V)) c7.o)
    have dD:qai (G.setCell ⟨n+1+1,0,none⟩ (.int .i64 0)) aB ar:=cE.qBl (cb:=n+1+1) ⟨by simp,fun M Z aZ aR _=>(heap_setCell_other G ⟨n+1+1,0,none⟩ M _ aZ).trans aR⟩ (fun aW aI V=>by
     rcases cE with b | ⟨aO,bC,h,bP⟩
     ·exact absurd b V
     ·rw [aI] at h
      obtain rfl:=Qs h;rintro rfl;exact qgw (bP 0 (Zp.2 V)) aX)
    refine ⟨((qay aE.o _).trans (dy.from _)).trans (KeepsOthers.from (KeepsOthers.setCell _ _ _) _),E,_,rfl,qup (by have b:=dI.o;rw [cl.o] at b;exact b) (fun W z b=>?_) rfl db.o,?_,Boxed.set _ aX,dD,?_⟩
    ·obtain ⟨bT,az,rfl⟩:=Zq.1 z
     exact I1.o bT az b
    ·simp only [ds.o]
     exact (heap_setCell_other G ⟨n+1+1,0,none⟩ (n+1) _ (by simp)).trans aF
    ·exact (bJ.o.trans (aJ.mono (by omega))).setCell (p:=⟨n+1+1,0,none⟩) (show n<=n+1+1 by omega) _
   | false=>
    have dP:=Boxed.cell a4;have dQ:=Boxed.frozen a4;have dj:=J9 a4;clear aS m a4 cW ct c9 cu df cL bE bu
    gi_wp2
    refine ⟨(qay aE.o _).trans (KeepsOthers.from (KeepsOthers.setCell _ _ _) _),(qaA.of_below aE.o).trans ⟨by simp,fun M Z aZ aR _=>(heap_setCell_other K ⟨e+1,0,none⟩ M _ aZ).trans aR⟩,fun W z b=>?_,?_,World.grownBy.trans cD.o (qaO K (e+1) 0 _)⟩
    ·rcases QY.1 z with z | z
     ·exact I1.o W z b
     ·rw [QI.1 z]
      exact db.o
    ·rw [cl.o,qv5 _ _ rfl]
     exact Boxed.set _ dj.o
 case done=>
  rintro v cz k b2 bQ ⟨cC,aC,bN⟩ ai;have c0:Hid (qdB g q=none):=by
   show qdB g q=none;refine qjB fun W z=>?_
   rw [<- bQ] at z;obtain ⟨bT,az,rfl⟩:=Zq.1 z;exact cC bT az
  have a6:Hid (cdF (cz.map Ee.k)=if (qjU g q).isEmpty then 11 else 2):=by show cdF _=_;rw [bQ];rfl
  have af:=qgo bN;have ca:=af.2 n _ (by have:=o.o;omega) dc.o rfl;have ab:=af.2 (n+1) _ (by have:=o.o;omega) da.o rfl;have aa:=af.boxed cB.o (by have:=o.o;omega);have az:=bN.size;have aT:(J.heap[n]?:Option Obj)=_:=dc.o;have b4:=C9 ca 0;have bR:=C9 ca 1;have cI:qai k Y I:=by
   rcases dt.o with b | ⟨aO,bC,h,O⟩
   ·exact .inl b
   ·by_cases dw:I=[]
    ·exact .inl dw
    ·refine qai.qBl (cb:=e+1) (.inr ⟨aO,bC,h,O⟩) af fun aW aI V=>?_
     rw [aI] at h;obtain rfl:=Qs h;rintro b;have dm:aO=e+1:=b;subst dm;exact qgw (O 0 (Zp.2 V)) cF.o
  have co:=ch.o k cI;have bG:Hid (e+3<=v):=by show _<=_;omega
  have a8:=J9 ai;have aj:=J9 ab;have ag:=J9 aa;have aN:=J9 aC;have bJ:Hid (Below n w k):=cK.o.grown bN (by rw [bS];have:=o.o;omega) fun M h=>by cases h;have:=o.o;omega
  obtain ⟨aD,b8⟩:=N9 (qa5 (sB g) I);rw [b8] at co;have bs:=J9 b8;have de:Hid (e+3<=k.heap.size):=by show _<=_;omega
  clear cC aC bN ai cq bQ af ca ab aa az aT cI b8 b2
  go_wp2_with fail
  refine co.mono ?_;rintro h K ⟨rfl,m⟩;have ab:=(m.block _ (Qb.1 aj.o).1).trans aj.o;have aa:Boxed K (n+1+1) 89 (.int .i64 0):=(m.block _ ag.o.lt).trans ag.o;have aC:Boxed K (e+1) 89 _:=(m.block _ aN.o.lt).trans aN.o;have br:=J9 ((m.block v (Qb.1 a8.o).1).trans a8.o);have aE:Hid (Below n w K):=bJ.o.trans (m.mono (by have:=de.o;have:=o.o;omega));have aj:=J9 ab;have ag:=J9 aa;obtain ⟨am,cg⟩:=N9 (cdF (cz.map Ee.k));have a6:Hid (am=if (qjU g q).isEmpty then 11 else 2):=by show am=_;rw [<- cg];exact a6.o
  rw [cg] at aC;have aN:=J9 aC;have cw:=aC.cell;have gf:=aC.frozen;clear m co ab aa aC b4 bR cg a8 bJ
  -- the code that is returned
  obtain ⟨G,l,c1,c5,ab,aa,cv,cM,bm⟩:∃ (G:World) (l:Int),Hid (codeF g I q=l)/\Hid (Boxed G (e+1) 89 (.int .i64 l))/\Hid (G.heap[n+1]?=some (.cells #[.int .i64 0,.int .u8 0,.string ⟨#[]⟩,.slice none 0 0,.string ⟨#[]⟩,.bool false] 88 (0,0)))/\Hid (Boxed G (n+1+1) 89 (.int .i64 0))/\Hid (G.heap[v]?=some (.deferred (some [])))/\Hid (Below n w G)/\(if aD=0 then G=K else G=K.setCell ⟨e+1,0,none⟩ (.int .i64 aD)):=by
   have dY:=o.o;by_cases U:aD=0
   ·refine ⟨K,am,?_,aN,aj,ag,br,aE,by rw [Qi U]⟩
    show codeF g I q=am;unfold codeF;rw [bs.o,Qe (by simpa using U),a6.o]
   ·refine ⟨K.setCell ⟨e+1,0,none⟩ (.int .i64 aD),aD,?_,Boxed.set _ aN.o,(heap_setCell_other K ⟨e+1,0,none⟩ (n+1) _ (by simp;omega)).trans aj.o,(heap_setCell_other K ⟨e+1,0,none⟩ (n+1+1) _ (by simp;omega)).trans ag.o,(KeepsOthers.setCell K _ _).same v _ br.o rfl,aE.o.setCell (p:=⟨e+1,0,none⟩) (show n<=e+1 by omega) _,by rw [Qe U]⟩
    show codeF g I q=aD;unfold codeF;rw [bs.o,Qi U]
  by_cases U:aD=0
  ·rw [Qi U] at bm
   subst U;subst bm;clear a6 ch bs aj ag br aE aN
   go_upto_region 11 with fail
   obtain ⟨ad,C⟩:=N9 (G.drew);have aK:Boxed ad (e+1) 89 (.int .i64 l):=(by rw [<- C];exact c5.o);have y:ad.heap[n+1]?=some (.cells #[.int .i64 0,.int .u8 0,.string ⟨#[]⟩,.slice none 0 0,.string ⟨#[]⟩,.bool false] 88 (0,0)):=(by rw [<- C];exact ab.o);have bo:Boxed ad (n+1+1) 89 (.int .i64 0):=(by rw [<- C];exact aa.o);have b9:Hid (ad.heap[v]?=some (.deferred (some []))):=(by rw [<- C];exact cv.o);have cn:Hid (Below n w ad):=(by rw [<- C];exact cM.o.drew);refine Mixed.qAQ (fun ae=>Boxed ae (e+1) 89 (.int .i64 l)) 3 [(0,true),(1,true),(2,false)] (by kernel_rfl) (by kernel_rfl) (by rw [C];exact aK) ?_;rw [C];refine Mixed.mp rfl (.agg #[.int .i64 0,.int .u8 0,.string ⟨#[]⟩,.slice none 0 0,.string ⟨#[]⟩,.bool false]) ?_;refine Mixed.mo rfl (.int .i64 l) (fun w b=>by have D:=Boxed.cell b;clear b;go_simp;try rfl) ?_;have bF:=C9 y 0;have bL:=C9 y 1;have bD:=C9 y 2;have bt:=C9 y 3;have bw:=C9 y 4;have bB:=C9 y 5;have bM:=Qp y;have bl:=J9 y;have b0:=J9 aK;have cd:=J9 bo;clear y aK bo C cw gf;refine Mixed.qA5 rfl ?_;refine wpList_store_row rfl 88 _ _ rfl (n+1) #[.int .i64 0,.int .u8 0,.string ⟨#[]⟩,.slice none 0 0,.string ⟨#[]⟩,.bool false] rfl rfl _ _ bl.o (by kernel_rfl) (by kernel_rfl) (by kernel_rfl) ?_;obtain ⟨x,bh,aF,X,aJ,bK⟩:=qAt bl.o #[.int .i64 0,.int .u8 0,.string ⟨#[]⟩,.slice none 0 0,.string ⟨#[]⟩,.bool false];rw [bh];have bp:Boxed x (e+1) 89 (.int .i64 l):=(X _ (by have:=o.o;omega)).trans b0.o;have aq:Boxed x (n+1+1) 89 (.int .i64 0):=(X _ (by omega)).trans cd.o;have b5:Hid (x.heap[v]?=some (.deferred (some []))):=(X _ (by have:=bG.o;have:=o.o;omega)).trans b9.o;have ce:=J9 (cn.o.trans (aJ.mono (by omega)));refine ⟨bp,?_⟩;simp only [Mixed.qAU,Qr,Qx];have c4:=aq.cell;have cR:=aq.frozen;have ck:=J9 aq;have A1:=J9 aF;clear bF bL bD bt bw bB bM bh aF X aJ bK bp aq;go_wp2;have a7:=Boxed.set (.int .i64 l) ck.o;have ap:KeepsOthers x (x.setCell ⟨n+1+1,0,none⟩ (.int .i64 l)):=KeepsOthers.setCell _ _ _;have bg:Below n w (x.setCell ⟨n+1+1,0,none⟩ (.int .i64 l)):=ce.o.setCell (p:=⟨n+1+1,0,none⟩) (show n<=n+1+1 by omega) _;have aH:(x.setCell ⟨n+1+1,0,none⟩ (.int .i64 l)).heap[n+1]?=some (.cells #[.int .i64 0,.int .u8 0,.string ⟨#[]⟩,.slice none 0 0,.string ⟨#[]⟩,.bool false] 88 (0,0)):=(heap_setCell_other x ⟨n+1+1,0,none⟩ (n+1) _ (by simp)).trans A1.o;obtain ⟨aM,ci⟩:=N9 (x.setCell ⟨n+1+1,0,none⟩ (.int .i64 l));rw [ci] at a7 ap bg aH |-;have bd:aM.heap[v]?=some (.deferred (some [])):=ap.same v _ b5.o rfl;have s:=grownBy_putObj' aM v (.deferred none);have dk:=bG.o;have dF:=o.o;have aU:w.heap.size=n:=cp.o;have a5:=(a7.kept s (by simp;omega)).cell;have r:=(s.block (n+1) (Qb.1 aH).1 (by simp;omega)).trans aH;have bb:=C9 r 0;have bj:=C9 r 1;have bi:=C9 r 2;have a9:=C9 r 3;have bn:=C9 r 4;have bk:=C9 r 5;refine ⟨by simp,.inl ⟨_,_,rfl,run_takeDeferred bd,?_⟩⟩;refine ⟨.tuple #[.agg #[.int .i64 0,.int .u8 0,.string ⟨#[]⟩,.slice none 0 0,.string ⟨#[]⟩,.bool false],.int .i64 l],?_,?_⟩
   ·simp [results,results65,go_sem,a5,bb,bj,bi,a9,bn,bk]
   ·rw [c0.o]
    refine ⟨by rw [cX.o,c1.o];rfl,?_⟩;rw [aU];exact bg.trans (belowK_b (w:=w) (by omega) aM v _ _ (by omega) bd rfl rfl)
  ·rw [Qe U] at bm
   have dz:(aD == 0)=false:=Qm.2 U;clear a6 ch bs aj ag br aE aN U
   go_upto_region 11 with fail
   rw [<- bm];clear bm dz;obtain ⟨ad,C⟩:=N9 (G.drew);have aK:Boxed ad (e+1) 89 (.int .i64 l):=(by rw [<- C];exact c5.o);have y:ad.heap[n+1]?=some (.cells #[.int .i64 0,.int .u8 0,.string ⟨#[]⟩,.slice none 0 0,.string ⟨#[]⟩,.bool false] 88 (0,0)):=(by rw [<- C];exact ab.o);have bo:Boxed ad (n+1+1) 89 (.int .i64 0):=(by rw [<- C];exact aa.o);have b9:Hid (ad.heap[v]?=some (.deferred (some []))):=(by rw [<- C];exact cv.o);have cn:Hid (Below n w ad):=(by rw [<- C];exact cM.o.drew);refine Mixed.qAQ (fun ae=>Boxed ae (e+1) 89 (.int .i64 l)) 3 [(0,true),(1,true),(2,false)] (by kernel_rfl) (by kernel_rfl) (by rw [C];exact aK) ?_;rw [C];refine Mixed.mp rfl (.agg #[.int .i64 0,.int .u8 0,.string ⟨#[]⟩,.slice none 0 0,.string ⟨#[]⟩,.bool false]) ?_;refine Mixed.mo rfl (.int .i64 l) (fun w b=>by have D:=Boxed.cell b;clear b;go_simp;try rfl) ?_;have bF:=C9 y 0;have bL:=C9 y 1;have bD:=C9 y 2;have bt:=C9 y 3;have bw:=C9 y 4;have bB:=C9 y 5;have bM:=Qp y;have bl:=J9 y;have b0:=J9 aK;have cd:=J9 bo;clear y aK bo C cw gf;refine Mixed.qA5 rfl ?_;refine wpList_store_row rfl 88 _ _ rfl (n+1) #[.int .i64 0,.int .u8 0,.string ⟨#[]⟩,.slice none 0 0,.string ⟨#[]⟩,.bool false] rfl rfl _ _ bl.o (by kernel_rfl) (by kernel_rfl) (by kernel_rfl) ?_;obtain ⟨x,bh,aF,X,aJ,bK⟩:=qAt bl.o #[.int .i64 0,.int .u8 0,.string ⟨#[]⟩,.slice none 0 0,.string ⟨#[]⟩,.bool false];rw [bh];have bp:Boxed x (e+1) 89 (.int .i64 l):=(X _ (by have:=o.o;omega)).trans b0.o;have aq:Boxed x (n+1+1) 89 (.int .i64 0):=(X _ (by omega)).trans cd.o;have b5:Hid (x.heap[v]?=some (.deferred (some []))):=(X _ (by have:=bG.o;have:=o.o;omega)).trans b9.o;have ce:=J9 (cn.o.trans (aJ.mono (by omega)));refine ⟨bp,?_⟩;simp only [Mixed.qAU,Qr,Qx];have c4:=aq.cell;have cR:=aq.frozen;have ck:=J9 aq;have A1:=J9 aF;clear bF bL bD bt bw bB bM bh aF X aJ bK bp aq;go_wp2;have a7:=Boxed.set (.int .i64 l) ck.o;have ap:KeepsOthers x (x.setCell ⟨n+1+1,0,none⟩ (.int .i64 l)):=KeepsOthers.setCell _ _ _;have bg:Below n w (x.setCell ⟨n+1+1,0,none⟩ (.int .i64 l)):=ce.o.setCell (p:=⟨n+1+1,0,none⟩) (show n<=n+1+1 by omega) _;have aH:(x.setCell ⟨n+1+1,0,none⟩ (.int .i64 l)).heap[n+1]?=some (.cells #[.int .i64 0,.int .u8 0,.string ⟨#[]⟩,.slice none 0 0,.string ⟨#[]⟩,.bool false] 88 (0,0)):=(heap_setCell_other x ⟨n+1+1,0,none⟩ (n+1) _ (by simp)).trans A1.o;obtain ⟨aM,ci⟩:=N9 (x.setCell ⟨n+1+1,0,none⟩ (.int .i64 l));rw [ci] at a7 ap bg aH |-;have bd:aM.heap[v]?=some (.deferred (some [])):=ap.same v _ b5.o rfl;have s:=grownBy_putObj' aM v (.deferred none);have dk:=bG.o;have dF:=o.o;have aU:w.heap.size=n:=cp.o;have a5:=(a7.kept s (by simp;omega)).cell;have r:=(s.block (n+1) (Qb.1 aH).1 (by simp;omega)).trans aH;have bb:=C9 r 0;have bj:=C9 r 1;have bi:=C9 r 2;have a9:=C9 r 3;have bn:=C9 r 4;have bk:=C9 r 5;refine ⟨by simp,.inl ⟨_,_,rfl,run_takeDeferred bd,?_⟩⟩;refine ⟨.tuple #[.agg #[.int .i64 0,.int .u8 0,.string ⟨#[]⟩,.slice none 0 0,.string ⟨#[]⟩,.bool false],.int .i64 l],?_,?_⟩
   ·simp [results,results65,go_sem,a5,bb,bj,bi,a9,bn,bk]
   ·rw [c0.o]
    refine ⟨by rw [cX.o,c1.o];rfl,?_⟩;rw [aU];exact bg.trans (belowK_b (w:=w) (by omega) aM v _ _ (by omega) bd rfl rfl)
 case stop=>
  rintro v E k b2 ⟨p,a,rfl,P,aA,bf,bz,bH⟩ ai;have s:=grownBy_putObj' k v (.deferred none);have dX:J.heap.size<=v:=b2;have r:=(s.block (n+1) (Qb.1 aA).1 (by simp;have:=o.o;omega)).trans aA;have a5:=(bf.kept s (by simp;have:=o.o;omega)).cell;have aU:w.heap.size=n:=cp.o;have F:Hid (qhB w g I (qdB g q) (.returned (.tuple #[enV a.g a.o a.m a.v a.ex a.al,.int .i64 0])) (k.putObj v (.deferred none))):=by
   show qhB _ _ _ _ _ _;rw [P];refine ⟨a.A,a.cap,rfl,qgj bz s fun al h=>by cases h;exact ⟨_,ai,rfl⟩,?_⟩;rw [aU];exact bH.trans (belowK_b (w:=w) (by omega) k v _ _ (by have:=o.o;omega) ai rfl rfl)
  have a8:=J9 ai;obtain ⟨a2,Z,aV,aB,a0,ar,a1,cc⟩:=a;have bb:=C9 r 0;have bj:=C9 r 1;have bi:=C9 r 2;have a9:=C9 r 3;have bn:=C9 r 4;have bk:=C9 r 5;clear P aA bf bz bH ai s cq r aU
  gi_wp2
  refine ⟨by simp,.inl ⟨_,_,rfl,run_takeDeferred a8.o,?_⟩⟩;refine ⟨_,?_,F.o⟩;simp [results,results65,go_sem,a5,bb,bj,bi,a9,bn,bk,enV,Ee.v]
end Go.Proofs.YtecpnfhpcamljaaGreatDoor
namespace Go.Proofs.YtecpnfhpcamljaaGreatDoor
open Tryz
open Go.RowKit Go.Shelf
attribute [local go_sem] Oper.semAt_some
def Hit (s:ByteArray) (C:List Tr) (q:Int) (n:Nat):Prop:=∃ h:En,qaX q n=some h/\h.2.2.2=false/\qa9 h.1 h.2.1 h.2.2.1 s C=true
def qq8 (s:ByteArray) (I C:List Tr):Prop:=qa5 s I=0/\∃ (h:Int) (n:Nat),qki C<=h/\h<=qtf C/\n<256/\Hit s C h n
def qzp (w:World) (s:ByteArray) (I C:List Tr) (e:Ending) (w':World):Prop:=∃ (m o:Int) (q:Str) (z:Option Addr) (g y:Nat) (l:Str) (h:Bool) (c:Int),e=.returned (.tuple #[enV m o q (.slice z g y) l h,.int .i64 c])/\Below w.heap.size w w'/\((c=0/\qq8 s I C)\/(c≠0/\¬qq8 s I C))
theorem qvX (C:List Tr):0<=qki C/\qki C<=3:=by unfold qki;split <;> omega
theorem quJ (C:List Tr):qtf C<=6/\qki C<=qtf C+1:=by unfold qtf qki;split <;> omega
theorem qwv {w:World} {b:Nat} {K:TypeId} {ae W ab ad O Z:Value} (U:w.heap[b]?=some (.cells #[ae,W,ab,ad,O,Z] K (0,0))) {B:Nat} {u:World} (M:Below B u w) (V:B<=b) (y E G q z J:Value):∃ h,(((((w.setCell ⟨b,0,none⟩ y).setCell ⟨b,1,none⟩ E).setCell ⟨b,2,none⟩ G).setCell ⟨b,3,none⟩ q).setCell ⟨b,4,none⟩ z).setCell ⟨b,5,none⟩ J=h/\
  h.heap[b]?=some (.cells #[y,E,G,q,z,J] K (0,0))/\Below B u h:=by
 obtain ⟨h,T,ac,-,-,aa,-⟩:=qAu U y E G q z J;exact ⟨h,T,ac,M.trans (aa.mono V)⟩
theorem qus (w:World) (g o:Int) (m:Str) (v:Value) (ex:Str) (al:Bool) (c:Nat) (q:w.heap.size=c):∃ h,w.alloc (.cells #[.int .i64 g,.int .u8 o,.string (sB m),v,.string (sB ex),.bool al] 30)=h/\h.heap[c]?=some (.cells #[.int .i64 g,.int .u8 o,.string (sB m),v,.string (sB ex),.bool al] 30 (0,0))/\Below w.heap.size w h/\h.heap.size=c+1:=by
 subst q;exact ⟨_,rfl,World.alloc_heap_new w _,(B0 (w:=w)),by simp⟩
theorem qgB (s:ByteArray) (dd:s.size<=1000) (M:Option Addr) (W Z:Nat) (I:List Tr) (b1:I.length=Z) (c3:Z<=900) (w:World) (bq:qai w M I) :
  Calls prog 14 #[.agg #[.string s,.slice M Z W]] w (qzp w s I (canL (opc s) I)):=by
 have aY:=fun w l=>qiq s M W I (by omega) w l
 have bk:=fun w l=>qm3 s M W I (by omega) w l
 rw [b1] at aY bk;have cm:=qeA (opc s) I;have bg:=fun cL cK n (cr:List.length n<=1000) cZ cA bI bO (cM:List.length bO=bI) (cH:bI<=1000) G (T:List.length G<=1000) aA bz q U=>qkM cL cK n cZ cA bI bO cM cH G T aA s M W Z I b1 c3 bz q U
 obtain ⟨h,ch⟩:=N9 (canL (opc s) I);rw [ch] at aY cm bg |-;obtain ⟨aw,bY⟩:=N9 (h.length);have bH:aw<=1000:=by omega
 obtain ⟨aH,aM⟩:=N9 ((w.alloc (.cells #[.string s,.slice M Z W] 24)).alloc (.cells #[.int .i64 0,.int .u8 0,.string ⟨#[]⟩,.slice none 0 0,.string ⟨#[]⟩,.bool false] 30));obtain ⟨b,ar⟩:=N9 (w.heap.size);have a4:Below b w aH:=by rw [<- aM,<- ar];exact ((B0 (w:=w))).alloc (by simp) _
 have cE:aH.heap.size=b+1+1:=by rw [<- aM,<- ar];simp
 have z:aH.heap[b]?=some (.cells #[.string s,.slice M Z W] 24 (0,0)):=by
  rw [<- aM,<- ar];exact (Below.heap_alloc _ _ _ (by simp)).trans (World.alloc_heap_new w _)
 have p:aH.heap[b+1]?=some (.cells #[.int .i64 0,.int .u8 0,.string ⟨#[]⟩,.slice none 0 0,.string ⟨#[]⟩,.bool false] 30 (0,0)):=by
  rw [<- aM,<- ar];have l:=World.alloc_heap_new (w.alloc (.cells #[.string s,.slice M Z W] 24)) (.cells #[.int .i64 0,.int .u8 0,.string ⟨#[]⟩,.slice none 0 0,.string ⟨#[]⟩,.bool false] 30)
  rwa [QB] at l
 have bx:=J9 (bk aH (bq.below (by rw [ar];exact a4)));have bK:=J9 aY;have av:=J9 bg;have bD:=J9 ar;have B0:=J9 a4;have ay:=J9 z;have ai:=J9 p;have bV:=J9 (bq.below (by rw [ar];exact a4));have a3:=J9 bY;have ax:=C9 z 0;have au:=C9 z 1;obtain ⟨a6,br⟩:=N9 (qa5 s I);have bR:=J9 br;rw [br] at bx;clear aY bk bg z p a4 bq ch cm bY br
 go_enter func14,ntmps14
 go_wp2_with fail
 refine bx.o.mono ?_;rintro E bT ⟨rfl,c⟩;have bi:=J9 (B0.o.trans (c.mono (by omega)));have z:=(c.block b (by omega)).trans ay.o;have p:=(c.block (b+1) (by omega)).trans ai.o;have bE:=J9 (bV.o.below c);have aF:Hid (b+2<=bT.heap.size):=by have:=c.size;show _<=_;omega
 have ay:=J9 z;have ai:=J9 p;have ax:=C9 z 0;have au:=C9 z 1;clear bx c B0 bV aM cE;by_cases aR:a6=0
 ·subst aR
  have cn:=bK.o bT bE.o;clear z p bK
  go_wp2_with fail
  refine cn.mono ?_;rintro E a1 ⟨v,rfl,aQ,c⟩;obtain ⟨aP,aU,rfl,b4,-,-⟩:=aQ.ops;rw [a3.o];have b9:Hid (Below b w a1):=bi.o.trans (c.mono (by have:=aF.o;omega));have z:=(c.block b (by have:=aF.o;omega)).trans ay.o;have p:=(c.block (b+1) (by have:=aF.o;omega)).trans ai.o;have b5:=J9 (bE.o.below c);have R2:=J9 b4;have cc:Hid (b+2<=a1.heap.size):=Qj aF.o c.size;have ay:=J9 z;have ai:=J9 p;clear cn c aQ b4 z p bi bE aF ax au
  go_upto_region 6 with fail
  obtain ⟨ag,bm⟩:=N9 (a1.heap.size);obtain ⟨y,cv,A,L,cz⟩:=qiv a1 s (.slice aP aw aU) ag bm;rw [cv,bm];have c9:b+2<=ag:=by have:=cc.o;omega
  have bv:=J9 (b9.o.trans (L.mono (by omega)));have cS:=J9 (b5.o.below L);have bJ:=J9 (R2.o.below L);have aN:Hid (y.heap[b]?=some (.cells #[.string s,.slice M Z W] 24 (0,0))/\y.heap[b+1]?=some (.cells #[.int .i64 0,.int .u8 0,.string ⟨#[]⟩,.slice none 0 0,.string ⟨#[]⟩,.bool false] 30 (0,0))/\y.heap[ag]?=some (.cells #[.string s,.slice aP aw aU] 24 (0,0))):=⟨(L.block b (by omega)).trans ay.o,(L.block (b+1) (by omega)).trans ai.o,A⟩;have ad:Hid (ag+1<=y.heap.size):=by show _<=_;omega
  have bj:=qjc s aP aU aw h a3.o bH y bJ.o;have aD:=C9 A 0;have aS:=C9 A 1;have cy:=qvX h;have b2:=quJ h;have bu:=J9 (fun bz l=>qsE s aP aU aw h a3.o bH bz l);obtain ⟨bd,bl⟩:=N9 (qki h);obtain ⟨b6,bC⟩:=N9 (qtf h);have cw:=J9 bl;have bN:=J9 bC;rw [bl] at bj cy b2;rw [bC] at bu b2;clear cv bm A L cz b9 b5 R2 ay ai cc bl bC
  go_wp2_with fail
  refine bj.mono ?_;rintro E c8 ⟨rfl,c⟩;have bQ:=J9 c;clear c bj aD aS;go_wp2
  go_loopw [7,6] (fun m bo wr=>∃ (e u:Int),bd<=e/\e<=b6+1/\m=.int .i64 e/\bo=.int .i64 u/\Hid (u≠0)/\Hid (∀ (C:Int) (b:Nat),bd<=C->C<e->b<256->¬Hit s h C b)/\Hid (Below y.heap.size y wr)) (fun m _ _=>(7 - intOf m).toNat)
  case atStart=>exact ⟨bd,11,Int.le_refl _,by omega,rfl,rfl,by show (11:Int)≠0;decide,fun C b q U=>by omega,bQ.o⟩
  case round=>
   clear bQ;obtain ⟨e,u,cW,db,rfl,rfl,V,al,K⟩:=hrel;have ab:=(K.o.block ag (by have:=ad.o;omega)).trans aN.o.2.2;have aD:=C9 ab 0;have aS:=C9 ab 1;have cf:=bu.o wr (bJ.o.below K.o);have cF:=J9 ab;clear ab
   go_wp2_with fail
   refine cf.mono ?_;rintro E c1 ⟨rfl,c⟩;have bb:=J9 (K.o.trans (c.mono K.o.size));clear cf c K aD aS cF;by_cases cI:e<=b6
   ·go_wp2
    go_loopw [8,6] (fun m bo wr=>∃ (k:Nat) (u:Int),k<=256/\m=.int .i64 k/\bo=.int .i64 u/\Hid (u≠0)/\Hid (∀ b:Nat,b<k->¬Hit s h e b)/\Hid (Below y.heap.size y wr)) (fun m _ _=>256 - (intOf m).toNat)
    case atStart=>exact ⟨0,u,Qu _,rfl,rfl,V,fun b l=>by omega,bb.o⟩
    case round=>
     clear bb V;obtain ⟨k,u,da,rfl,rfl,V,az,K⟩:=hrel;by_cases bM:k<256
     ·have cD:IntKind.u8.wrap (k:Int)=k:=by rw [IntKind.wrap_u8];omega
      have cd:=qqN e k bM wr;have cp:Hid (y.heap.size<=wr.heap.size):=K.o.size
      go_wp2_with fail
      refine cd.mono ?_;rintro E ck ⟨a2,c⟩;have ao:=J9 (K.o.trans (c.mono K.o.size));clear cD cd K;cases T:qaX e k with
      | none=>
       rw [T] at a2;subst a2;have bL:=qtm e k;obtain ⟨cO,ce⟩:=N9 (rkindT e k);rw [ce] at bL |-;have de:¬cO=1:=fun l=>by rw [l] at bL;cases bL
       simp only [enV];have c0:=(fun cB=>J9 (ao.o.alloc ao.o.size cB));have R2:Hid (∀ b:Nat,b<k+1->¬Hit s h e b):=fun b l aL=>by
        by_cases E:b=k
        ·subst E
         obtain ⟨m,q,-⟩:=aL;rw [T] at q;cases q
        ·exact az.o b (by omega) aL
       clear T ce c ao az;go_wp2;go_roundw
       case rel=>exact ⟨k+1,u,by omega,by go_num,rfl,V,R2.o,(c0 _).o⟩
       case measure=>simp [intOf];omega
      | some m=>
       have aZ:=(qdA.ok (k:=(e,(k:Int),m.1,m.2.1,m.2.2.1,m.2.2.2)) ⟨k,bM,rfl,T⟩);rw [T] at a2;obtain ⟨v,rfl,aQ⟩:=a2;obtain ⟨aq,aj,rfl,bB,-⟩:=aQ.ops;have J:Hid ((m.2.2.2=true\/qa9 m.1 m.2.1 m.2.2.1 s h=false)->∀ b:Nat,b<k+1->¬Hit s h e b):=fun cR b l aL=>by
        by_cases E:b=k
        ·subst E
         obtain ⟨c6,q,U,ak⟩:=aL;rw [T] at q;obtain rfl:=Qs q;rcases cR with l | l
         ·rw [U] at l;cases l
         ·rw [ak] at l;cases l
        ·exact az.o b (by omega) aL
       have aa:Hid (m.2.2.2=false->qa9 m.1 m.2.1 m.2.2.1 s h=true->qq8 s I h):=fun q U=>⟨bR.o,e,k,by rw [cw.o];exact cW,by rw [bN.o];exact cI,bM,m,T,q,U⟩
       have cr:=aZ.m;have cC:=aZ.ex;have cj:=aZ.len;obtain ⟨n,ah,G,aA⟩:=m;simp only at cr cC cj J aa bB |-;obtain ⟨an,bn⟩:=N9 (ah.length);rw [bn] at cj |-;simp only [enV];have co:=J9 bB;have bS:=J9 bn;clear T c aQ bB bn aZ az
       go_upto_region 13 with fail
       obtain ⟨aB,bt⟩:=N9 (ck.heap.size);obtain ⟨af,bX,A,L,-⟩:=qus ck e k n (.slice aq an aj) G aA aB bt;rw [bX,bt];have c7:ag+1<=aB:=(by have q:=cp.o;have U:=ao.o.size;have ak:=ad.o;omega);have O:=J9 (ao.o.trans (L.mono ao.o.size));have bh:=J9 (co.o.below L);have b3:=J9 (bJ.o.below O.o);have b7:=J9 (cS.o.below O.o);have bZ:Hid (y.heap.size<=af.heap.size):=O.o.size;have aK:=(O.o.block b (by have:=ad.o;omega)).trans aN.o.1;have x:=(O.o.block (b+1) (by have:=ad.o;omega)).trans aN.o.2.1;have ab:=(O.o.block ag (by have:=ad.o;omega)).trans aN.o.2.2;have bw:Hid (af.heap[aB]?=some (.cells #[.int .i64 e,.int .u8 k,.string (sB n),.slice aq an aj,.string (sB G),.bool aA] 30 (0,0))):=A;have am:=qho e k n aq aj an ah bS.o (by omega) G aA s aP aU aw h a3.o bH af bh.o b3.o;simp only [enV] at am;have bc:=J9 am;have a0:Hid (af.heap[b]?=some (.cells #[.string s,.slice M Z W] 24 (0,0))/\af.heap[b+1]?=some (.cells #[.int .i64 0,.int .u8 0,.string ⟨#[]⟩,.slice none 0 0,.string ⟨#[]⟩,.bool false] 30 (0,0))):=⟨aK,x⟩;have a8:=C9 A 0;have bf:=C9 A 1;have a7:=C9 A 2;have be:=C9 A 3;have aX:=C9 A 4;have a5:=C9 A 5;have aD:=C9 ab 0;have aS:=C9 ab 1;have cY:Hid (Below b w y):=bv.o;clear am bX bt A L aK x ab ao co bv ax au;cases aA with
       | true=>
        have R2:Hid (∀ b:Nat,b<k+1->¬Hit s h e b):=J.o (.inl rfl);clear J aa bc av al;go_wp2;go_roundw
        case rel=>exact ⟨k+1,u,by omega,by go_num,rfl,V,R2.o,O.o⟩
        case measure=>simp [intOf];omega
       | false=>
        by_cases a9:sB n=s
        rotate_left
        ·have bP:=qak a9
         have R2:Hid (∀ b:Nat,b<k+1->¬Hit s h e b):=J.o (.inr (by unfold qa9 qfg;rw [Qh a9];rfl));clear J aa bc av al a9;go_wp2;go_roundw
         case rel=>exact ⟨k+1,u,by omega,by go_num,rfl,V,R2.o,O.o⟩
         case measure=>simp [intOf];omega
        ·subst a9
         have bP:=qAZ (sB n);have am:=bc.o;have SR:Hid (qfg n ah (sB n) h=false->qa9 n ah G (sB n) h=false):=fun l=>by unfold qa9;rw [l];rfl
         obtain ⟨cP,cx⟩:=N9 (qfg n ah (sB n) h);rw [cx] at am SR;clear bc cx
         go_wp2_with fail
         refine am.mono ?_;rintro E v ⟨rfl,c⟩;have bA:=J9 (O.o.trans (c.mono bZ.o));have ap:=av.o e k n (by omega) aq aj an ah bS.o (by omega) G (by omega) false v (bh.o.below c) (b7.o.below c);simp only [enV] at ap;obtain ⟨cG,b0⟩:=N9 (qa9 n ah G (sB n) h);rw [b0] at ap SR J aa;have cN:b+1<af.heap.size:=(Qb.1 a0.o.2).1;have c4:aB<af.heap.size:=(Qb.1 bw.o).1;have ac:=J9 ((c.block aB c4).trans bw.o);have bF:=J9 ((c.block b (by omega)).trans a0.o.1);have b8:=J9 ((c.block (b+1) cN).trans a0.o.2);have bs:Hid (af.heap.size<=v.heap.size):=c.size;have bp:=J9 ap;clear ap c b0 av al cp bh b3 b7 a0 bw O a8 bf a7 be aX a5 aD aS am bP;cases cP with
         | false=>
          have R2:Hid (∀ b:Nat,b<k+1->¬Hit (sB n) h e b):=J.o (.inr (SR.o rfl));clear J aa SR bp;go_wp2;go_roundw
          case rel=>exact ⟨k+1,u,by omega,by go_num,rfl,V,R2.o,bA.o⟩
          case measure=>simp [intOf];omega
         | true=>
          have a8:=C9 ac.o 0;have bf:=C9 ac.o 1;have a7:=C9 ac.o 2;have be:=C9 ac.o 3;have aX:=C9 ac.o 4;have a5:=C9 ac.o 5;have ax:=C9 bF.o 0;have au:=C9 bF.o 1;have ap:=bp.o;clear SR bp
          go_wp2_with fail
          refine ap.mono ?_;rintro E m ⟨rfl,c⟩;have cg:Hid (Below y.heap.size y m):=bA.o.trans (c.mono (by have:=bZ.o;have:=bs.o;omega));have aK:=(c.block aB (by have:=bs.o;omega)).trans ac.o;have x:=(c.block (b+1) (by have:=bs.o;omega)).trans b8.o;have aC:=J9 aK;have ae:=J9 x;clear ap c a8 bf a7 be aX a5 ax au bA ac bF b8 aK x;cases cG with
          | false=>
           have R2:Hid (∀ b:Nat,b<k+1->¬Hit (sB n) h e b):=J.o (.inr rfl);have cU:Hid ((2:Int)≠0):=(by show (2:Int)≠0;decide);clear J aa;go_wp2;go_roundw
           case rel=>exact ⟨k+1,2,by omega,by go_num,rfl,cU,R2.o,cg.o⟩
           case measure=>simp [intOf];omega
          | true=>
           have cJ:Hid (qq8 (sB n) I h):=(by have l:=aa.o;show qq8 (sB n) I h;simpa using l);have bG:Hid (Below b w m):=cY.o.trans (cg.o.mono (by have:=ad.o;omega));have a8:=C9 aC.o 0;have bf:=C9 aC.o 1;have a7:=C9 aC.o 2;have be:=C9 aC.o 3;have aX:=C9 aC.o 4;have a5:=C9 aC.o 5;have cl:=C9 ae.o 0;have cu:=C9 ae.o 1;have ci:=C9 ae.o 2;have bU:=C9 ae.o 3;have bW:=C9 ae.o 4;have ca:=C9 ae.o 5;have ct:=Qp ae.o;clear J aa;go_wp2;obtain ⟨cq,aW,o,aI⟩:=qwv ae.o bG.o (by omega) (.int .i64 e) (.int .u8 k) (.string (sB n)) (.slice aq an aj) (.string (sB G)) (.bool false);rw [aW];have aE:=C9 o 0;have aJ:=C9 o 1;have aG:=C9 o 2;have aO:=C9 o 3;have aV:=C9 o 4;have aT:=C9 o 5;refine bodyPost_ret (v:=.tuple #[.agg #[.int .i64 e,.int .u8 k,.string (sB n),.slice aq an aj,.string (sB G),.bool false],.int .i64 0]) ?_ rfl ?_
           ·simp [results,results14,go_sem,aE,aJ,aG,aO,aV,aT]
           ·exact ⟨e,k,n,aq,an,aj,G,false,0,rfl,by rw [bD.o];exact aI,.inl ⟨rfl,cJ.o⟩⟩
     ·obtain rfl:k=256:=by omega
      have R2:Hid (∀ (C:Int) (b:Nat),bd<=C->C<e+1->b<256->¬Hit s h C b):=fun C b q U ak=>by
       by_cases E:C=e
       ·subst E;exact az.o b ak
       ·exact al.o C b q (by omega) ak
      clear az al;go_wp2;go_roundw
      case rel=>exact ⟨e+1,u,by omega,by omega,by go_num,rfl,V,R2.o,K.o⟩
      case measure=>simp [intOf];omega
   ·have cQ:Hid (¬qq8 s I h):=fun l=>by
     obtain ⟨-,C,b,q,U,ak,cV⟩:=l;rw [cw.o] at q;rw [bN.o] at U;exact al.o C b q (by omega) ak cV
    have x:=(bb.o.block (b+1) (by have:=ad.o;omega)).trans aN.o.2.1;have cl:=C9 x 0;have cu:=C9 x 1;have ci:=C9 x 2;have bU:=C9 x 3;have bW:=C9 x 4;have ca:=C9 x 5;have ct:=Qp x;have bG:Hid (Below b w c1):=bv.o.trans (bb.o.mono (by have:=ad.o;omega));have c5:=J9 x;clear x al av bu;go_wp2;obtain ⟨cq,aW,o,aI⟩:=qwv c5.o bG.o (by omega) (.int .i64 0) (.int .u8 0) (.string ⟨#[]⟩) (.slice none 0 0) (.string ⟨#[]⟩) (.bool false);rw [aW];have aE:=C9 o 0;have aJ:=C9 o 1;have aG:=C9 o 2;have aO:=C9 o 3;have aV:=C9 o 4;have aT:=C9 o 5;refine bodyPost_ret (v:=.tuple #[.agg #[.int .i64 0,.int .u8 0,.string ⟨#[]⟩,.slice none 0 0,.string ⟨#[]⟩,.bool false],.int .i64 u]) ?_ rfl ?_
    ·simp [results,results14,go_sem,aE,aJ,aG,aO,aV,aT]
    ·exact ⟨0,0,[],none,0,0,[],false,u,rfl,by rw [bD.o];exact aI,.inr ⟨V.o,cQ.o⟩⟩
 ·have dc:(a6 == 0)=false:=Qm.2 aR
  have cX:Hid (¬qq8 s I h):=fun l=>aR (by rw [<- bR.o];exact l.1)
  have cT:=J9 aR;have cl:=C9 p 0;have cu:=C9 p 1;have ci:=C9 p 2;have bU:=C9 p 3;have bW:=C9 p 4;have ca:=C9 p 5;have ct:=Qp p;clear aR z p bK av ax au;go_wp2;obtain ⟨cq,aW,o,aI⟩:=qwv ai.o bi.o (by omega) (.int .i64 0) (.int .u8 0) (.string ⟨#[]⟩) (.slice none 0 0) (.string ⟨#[]⟩) (.bool false);rw [aW];have aE:=C9 o 0;have aJ:=C9 o 1;have aG:=C9 o 2;have aO:=C9 o 3;have aV:=C9 o 4;have aT:=C9 o 5;refine bodyPost_ret (v:=.tuple #[.agg #[.int .i64 0,.int .u8 0,.string ⟨#[]⟩,.slice none 0 0,.string ⟨#[]⟩,.bool false],.int .i64 a6]) ?_ rfl ?_
  ·simp [results,results14,go_sem,aE,aJ,aG,aO,aV,aT]
  ·exact ⟨0,0,[],none,0,0,[],false,a6,rfl,by rw [bD.o];exact aI,.inr ⟨cT.o,cX.o⟩⟩
end Go.Proofs.YtecpnfhpcamljaaGreatDoor
namespace Go.Proofs.YtecpnfhpcamljaaGreatDoor
open Tryz
open Go.RowKit Go.Shelf
attribute [local go_sem] Oper.semAt_some
attribute [local irreducible] Go.Mixed.qAU
end Go.Proofs.YtecpnfhpcamljaaGreatDoor
namespace Go.Proofs.YtecpnfhpcamljaaGreatDoor
open Tryz
open Go.RowKit Go.ChangeShapes Go.WideShapes Go.Deep
theorem qhk {w:World} {a:Addr} {v:Value} (y:w.cell? (a.add 0)=some v):∃ b h,a=⟨b,h,none⟩:=by
 obtain ⟨b,h,q⟩:=a;have z:q=none:=by simpa [Addr.add] using World.cell?_spot y
 subst z;exact ⟨b,h,rfl⟩
theorem qiO (b h i j:Nat):((⟨b,h,none⟩:Addr).add i).add j=⟨b,h+i+j,none⟩:=by
 unfold Addr.add;by_cases y:i=0 <;> by_cases q:j=0 <;> simp [y,q]
section
variable {H:Type} {enc:TypeId×Value->H} {w:World} {spare:Nat->Bool} {fuel:Nat}
theorem qox {cs:List Value} {x:DataW H×List MemPlace} (z:DataW.trod enc prog w 0 spare true fuel 56 cs=some x):∃ t:Tr,cs=[.int .i64 t.1,.int .i64 t.2.1,.int .i64 t.2.2]:=by
 obtain ⟨aa,ac,ad,ab,_,m,n,k,r⟩:=trod_struct3 underlying56 z;have G:prog.cellsOf 56=3:=by kernel_rfl
 have J:prog.cellsOf 3=1:=by kernel_rfl
 rw [G] at m
 match cs,m with
 | [E,O,U],_=>
  simp only [J] at n k r;obtain ⟨y,W,_,_⟩:=DataW.trod_int underlying3 n;obtain ⟨q,Z,_,_⟩:=DataW.trod_int underlying3 k;obtain ⟨h,T,_,_⟩:=DataW.trod_int underlying3 r;have M:E=.int .i64 y:=by simpa using W
  have V:O=.int .i64 q:=by simpa using Z
  have K:U=.int .i64 h:=by simpa using T
  subst M V K;exact ⟨(y,q,h),rfl⟩
theorem qi5 {v:Value} {x:DataW H×List MemPlace} (T:DataW.trod enc prog w 0 spare true fuel 22 [v]=some x) :
  ∃ A a n t,v=.slice A a n/\a=t.length/\a<=maxLen/\qai w A t:=by
 rcases Deep.open_slice underlying22 T with ⟨b,_⟩ | ⟨h,a,n,L,ad,ai,ah,b,_,af,ae,O,_,ab⟩
 ·simp only [Q3,and_true] at b
  exact ⟨none,0,0,[],b,rfl,Qu _,.inl rfl⟩
 ·simp only [Q3,and_true] at b
  have ac:a<=L:=by rw [O];split <;> omega
  have U:prog.cellsOf 56=3:=by kernel_rfl
  have G:∀ f,f<a->∃ e:Tr,w.cells? 0 (h.add (f*3)) 3=some [.int .i64 e.1,.int .i64 e.2.1,.int .i64 e.2.2]:=fun f ag=>by
   obtain ⟨aj,q,aa⟩:=ab f (by omega);rw [U] at q;obtain ⟨e,M⟩:=qox aa;rw [M] at q;exact ⟨e,q⟩
  obtain ⟨Z,i⟩:=Deep.choose_lt G;refine ⟨some h,a,n,(List.range a).map Z,b,by simp,by omega,?_⟩;by_cases W:a=0
  ·left;subst W;simp
  ·have z:=(World.cells?_some (i 0 (by omega))).2.2 0 (by omega)
   rw [Nat.zero_mul,show (h.add 0).add 0=h.add 0 by simp [Addr.add]] at z;obtain ⟨J,V,rfl⟩:=qhk z;refine .inr ⟨J,V,rfl,fun j K=>?_⟩;have m:j<a:=(by simpa using K);have D:=(World.cells?_some (i j m)).2.2 0 (by omega);have E:=(World.cells?_some (i j m)).2.2 1 (by omega);have y:=(World.cells?_some (i j m)).2.2 2 (by omega);rw [qiO] at D E y;simp only [Zo,List.getElem_range];exact ⟨D,E,y⟩
theorem qhR {K:Nat} {v:Value} {d:DataW H} {p:List MemPlace} (y:Value.okWide prog w .any K 24 v) (n:DataW.Trod enc prog w 0 spare true 24 v d p) :
  ∃ (s:ByteArray) (A:Option Addr) (cap:Nat) (L:List Tr),v=.agg #[.string s,.slice A L.length cap]/\s.size<=maxLen/\L.length<=maxLen/\qai w A L:=by
 obtain ⟨E,W,V,aa,Z,rfl,-,-,M,h⟩:=Joins.open_agg2 underlying24 (by kernel_rfl) (by kernel_rfl) y n;obtain ⟨s,U,_,q⟩:=DataW.trod_string underlying9 M;have z:E=.string s:=by simpa using U
 obtain ⟨A,ab,cap,L,G,J,O,T⟩:=qi5 h;subst z G J;exact ⟨s,A,cap,L,rfl,q,O,T⟩
end
end Go.Proofs.YtecpnfhpcamljaaGreatDoor
