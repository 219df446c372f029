/-
  SeRjqRS, DfAqRS, DgBqRS, DgCqRS, TrDqRS, DfCqRS, DgEqRS, DgFqRS, MixEqRS.
-/
import Derived.Test.YtjafbmfcedijmaaGreatDoorKAN
set_option linter.all false
set_option maxRecDepth 100000
set_option maxHeartbeats 4000000
namespace Go.Proofs.YtjafbmfcedijmaaGreatDoor
open Tryz
open Go.RowKit Go.Shelf
attribute [local go_sem] Oper.semAt_some
def qbb (w:World) (m:Str) (o:Option (List Tr)) (e:Ending) (w':World):Prop:=match o with
 | some v=>∃ h,e=.returned (.tuple #[.agg #[.string (sB m),h],.bool true])/\qah w' w.heap.size h v/\Below w.heap.size w w'
 | none=>e=.returned (.tuple #[.agg #[.string ⟨#[]⟩,.slice none 0 0],.bool false])/\Below w.heap.size w w'
theorem qoe {ex:Str} {L:List Tr} {d n:Int} {k:Nat} (y:k<L.length) (z:okR ex L d n k=false):qbN ex L d n=none:=by
 unfold qbN;refine Qd fun h=>?_
 have:=QR.1 h.1 k (QW.2 y);rw [z] at this;cases this
theorem qqx {ex:Str} {L:List Tr} {d n:Int} (y:∀ k,k<L.length->okR ex L d n k=true) (E:qlI ex L d L.length=true) (z:qlG ex L n L.length=true):qbN ex L d n=some ((List.range L.length).map (stR ex L d n)):=by
 unfold qbN;exact Qk ⟨QR.2 fun k h=>y k (QW.1 h),E,z⟩
theorem qqP {ex:Str} {L:List Tr} {d n:Int} (y:qlI ex L d L.length=false):qbN ex L d n=none:=by
 unfold qbN;refine Qd fun h=>?_
 rw [y] at h;exact absurd h.2.1 (by simp)
theorem qsL {ex:Str} {L:List Tr} {d n:Int} (y:qlG ex L n L.length=false):qbN ex L d n=none:=by
 unfold qbN;refine Qd fun h=>?_
 rw [y] at h;exact absurd h.2.2 (by simp)
theorem qgV (ex:Str) (L:List Tr) (d:Int) (k:Nat):qlI ex L d (k+1)=(qlI ex L d k||letR ex L k == 100):=by
 unfold qlI;rw [List.range_succ,List.any_append];simp [Bool.or_assoc]
theorem qgS (ex:Str) (L:List Tr) (n:Int) (k:Nat):qlG ex L n (k+1)=(qlG ex L n k||(letR ex L k != 100&&letR ex L k != 0)):=by
 unfold qlG;rw [List.range_succ,List.any_append];simp [Bool.or_assoc]
theorem qjw (ex:Str) (L:List Tr) (d n:Int) (k:Nat):(List.range (k+1)).map (stR ex L d n)=(List.range k).map (stR ex L d n)++[stR ex L d n k]:=by
 rw [List.range_succ,Zc];rfl
theorem qpI (w:World) (y z:Int) (m:Str) (v:Value) (ex:Str) (al:Bool) (n:Nat) (E:w.heap.size=n):∃ h,((w.alloc (.cells #[.int .i64 y,.int .u8 z,.string (sB m),v,.string (sB ex),.bool al] 66)).alloc (.cells #[.string ⟨#[]⟩,.slice none 0 0] 24))=h/\
  h.heap[n]?=some (.cells #[.int .i64 y,.int .u8 z,.string (sB m),v,.string (sB ex),.bool al] 66 (0,0))/\Rz h (n+1)/\Below w.heap.size w h/\h.heap.size=n+2:=by
 subst E;refine ⟨_,rfl,(Below.heap_alloc _ _ _ (by simp)).trans (World.alloc_heap_new w _),?_,((B0 (w:=w))).alloc (by simp) _,by simp⟩;have G:=World.alloc_heap_new (w.alloc (.cells #[.int .i64 y,.int .u8 z,.string (sB m),v,.string (sB ex),.bool al] 66)) (.cells #[.string ⟨#[]⟩,.slice none 0 0] 24)
 rwa [QL] at G
theorem qr0 (bu bC:Int) (m:Str) (A:Option Addr) (cap l:Nat) (L:List Tr) (ca:L.length=l) (cn:l<=1000) (ex:Str) (cy:ex.length<=1000) (al:Bool) (d q:Int) (w:World) (H:qaj w A L) :
  Calls prog 99 #[enV bu bC m (.slice A l cap) ex al,.int .i64 d,.int .i64 q] w (qbb w m (qbN ex L d q)):=by
 unfold enV;obtain ⟨n,bF⟩:=N9 (w.heap.size);obtain ⟨aI,cu,ab,bV,bN,ac⟩:=qpI w bu bC m (.slice A l cap) ex al n bF;have bZ:Hid (Below n w aI):=by rw [<- bF];exact bN
 have aF:=J9 bF;have aJ:=J9 ca;have bb:=J9 ac;have cz:=J9 H;have bU:=J9 ab;have ci:=J9 bV;have bq:=C9 ab 0;have bd:=C9 ab 1;have bh:=C9 ab 2;have bs:=C9 ab 3;have bp:=C9 ab 4;have bn:=C9 ab 5;clear H bN ab ac bV ca
 go_enter func99,ntmps99
 go_upto_region 1 with fail
 clear cu
 go_upto_region 2 with fail
 obtain ⟨z,a1⟩:=N9 (aI.alloc (.cells #[.string (sB m),.slice none 0 0] 24));obtain ⟨e,ad⟩:=N9 (aI.heap.size);have aa:Below aI.heap.size aI z:=by rw [<- a1];exact B0
 have cc:Hid (Ri z e (sB m) (.slice none 0 0)):=by rw [<- a1,<- ad];exact heap_alloc_new aI _
 have cE:n+1<e:=by have:=bb.o;omega
 have cr:Hid (z.heap.size=e+1):=by show _=_;rw [<- a1,<- ad];simp
 have bI:Hid (Below n w z):=bZ.o.trans (aa.mono (by have:=bb.o;omega));have co:=J9 ((aa.block n (by have:=bb.o;omega)).trans bU.o);have cw:Hid (Rz z (n+1)):=(aa.block (n+1) (by have:=bb.o;omega)).trans ci.o;rw [a1,ad];clear a1 ad aa bq bd bh bs bp bn bZ bb bU ci;have bE:Hid ((d == 0)=qlI ex L d 0):=by show _=_;unfold qlI;simp
 have bB:Hid ((q == 0)=qlG ex L q 0):=by show _=_;unfold qlG;simp
 obtain ⟨cm,bX⟩:=N9 ((d == 0));obtain ⟨cC,bM⟩:=N9 ((q == 0));rw [bX] at bE;rw [bM] at bB;have cd:Hid (qah z (e+1) (.slice none 0 0) ((List.range 0).map (stR ex L d q))):=Zm _ _ _ _;go_wp2;clear bX bM
 go_loopw [9,10,11] (fun ck cl bH wr=>∃ (b:Nat) (y:Option Addr) (x:Nat) (p aD:Bool),b<=l/\bH=.int .i64 b/\ck=.bool p/\cl=.bool aD/\Hid (p=qlI ex L d b)/\Hid (aD=qlG ex L q b)/\Hid (∀ j,j<b->okR ex L d q j=true)/\Hid (Ri wr e (sB m) (.slice y b x))/\Hid (qah wr (e+1) (.slice y b x) ((List.range b).map (stR ex L d q)))/\Hid (Below e z wr)/\Hid (e+1<=wr.heap.size)) (fun _ _ bH _=>l - (intOf bH).toNat)
 case atStart=>exact ⟨0,none,0,cm,cC,Qs _,rfl,rfl,rfl,bE.o,bB.o,fun j cf=>by omega,cc.o,cd.o,Qc _ _,Nat.le_of_eq cr.o.symm⟩
 case round=>
  clear cc cd bE bB;obtain ⟨b,y,x,p,aD,cD,rfl,rfl,rfl,be,bf,a5,aM,aq,aO,aG⟩:=hrel;have av:=(aO.o.block n (by omega)).trans co.o;have b2:=J9 av;have ax:Hid (Rz wr (n+1)):=(aO.o.block (n+1) (by omega)).trans cw.o;have a6:=J9 (bI.o.trans (aO.o.mono (by omega)));have bJ:Hid (qaj wr A L):=cz.o.below (by rw [aF.o];exact a6.o);have bq:=C9 av 0;have bd:=C9 av 1;have bh:=C9 av 2;have bs:=C9 av 3;have bp:=C9 av 4;have bn:=C9 av 5;clear av;by_cases cv:b<l
  ·have bl:b<L.length:=by have:=aJ.o;omega
   obtain ⟨cp,ct,rfl,-,bt,bi,bm⟩:=bJ.o.at_ bl;have ch:L.getD b tr0=L[b]:=(by rw [Qo,Qi bl];rfl);rw [<- ch] at bt bi bm;have b5:=J9 bl;obtain ⟨⟨O,V,aa⟩,bG⟩:=N9 (L.getD b tr0);have bA:=J9 bG;rw [bG] at bt bi bm;simp only at bt bi bm;have cj:Below wr.heap.size wr (wr.alloc (.cells #[.int .i64 O,.int .i64 V,.int .i64 aa] 57)):=B0;have ap:=J9 cj;have bT:(wr.alloc (.cells #[.int .i64 O,.int .i64 V,.int .i64 aa] 57)).heap[wr.heap.size]?=some (.cells #[.int .i64 O,.int .i64 V,.int .i64 aa] 57 (0,0)):=heap_alloc_new wr _;have bj:=J9 bT;have bw:=(fun aW cf=>qh9 bu bC m (some ⟨cp,ct,none⟩) cap l L aJ.o cn ex cy al b cv aW cf);simp only [enV] at bw;have bW:=J9 bw;clear bG bl ch cj bT bw
   go_upto_region 8 with fail
   obtain ⟨h,bD⟩:=N9 (wr.heap.size);obtain ⟨a3,bc⟩:=N9 (wr.alloc (.cells #[.int .i64 O,.int .i64 V,.int .i64 aa] 57));rw [bc,bD];rw [bc,bD] at bj;rw [bc] at ap;have au:=(ap.o.block n (by have:=aG.o;omega)).trans b2.o;have cA:=J9 au;have b9:Hid (Rz a3 (n+1)):=(ap.o.block (n+1) (by have:=aG.o;omega)).trans ax.o;have bS:=J9 (bJ.o.below ap.o);have bO:Hid (Ri a3 e (sB m) (.slice y b x)):=(ap.o.block e (by have:=aG.o;omega)).trans aM.o;have bQ:=J9 (aq.o.below ap.o);have bR:Hid (Below e z a3):=aO.o.trans (ap.o.mono (by have:=aG.o;omega));have az:Hid (e+1<=h/\h<a3.heap.size):=by
    have aL:=aG.o;exact ⟨by omega,(Qb.1 bj.o).1⟩
   have b4:Hid (∀ bg,(Value.slice y b x).ownBlock=some bg->bg≠h):=fun bg cq=>by have:=(World.ownsRow.lt aq.o bg cq).2;omega
   have bq:=C9 au 0;have bd:=C9 au 1;have bh:=C9 au 2;have bs:=C9 au 3;have bp:=C9 au 4;have bn:=C9 au 5;clear bc au bt bi bm bD ap b2 ax a6 bJ aM aq aO aG
   go_wp2_with fail
   refine (bW.o a3 bS.o).mono ?_;rintro aw i ⟨rfl,ad⟩;have a4:Hid (Rz i (n+1)):=(ad.block (n+1) (by have:=az.o;omega)).trans b9.o;have aK:Hid (Ri i e (sB m) (.slice y b x)):=(ad.block e (by have:=az.o;omega)).trans bO.o;have aN:=J9 (bQ.o.below ad);have aH:Hid (Below e z i):=bR.o.trans (ad.mono (by have:=az.o;omega));have a7:Hid (i.heap[h]?=some (.cells #[.int .i64 O,.int .i64 V,.int .i64 aa] 57 (0,0))):=(ad.block h az.o.2).trans bj.o;have aE:Hid (e+1<=h/\h<i.heap.size):=⟨az.o.1,Zo az.o.2 ad.size⟩;have b7:h≠e:=(by have:=aE.o.1;omega);have b3:h≠n+1:=(by have:=aE.o.1;omega);have bY:=C9 a7.o 0;have ce:=C9 a7.o 1;have bP:=C9 a7.o 2;have b1:((List.range b).map (stR ex L d q)).length=b:=(by rw [QM,List.length_range]);have bx:=J9 b1;clear ad bq bd bh bs bp bn bW bS b9 bO bQ bR bj az cA b1;rcases qqi ex L b with ag | ag | ag | ag | ag
   rotate_left 4
   ·have F:letR ex L b=0:=ag
    rw [ag];simp only [show ((0:UInt8).toNat:Int)=0 from rfl];have aC:Hid (stR ex L d q b=(O,V,aa)):=(by show stR ex L d q b=_;unfold stR;rw [Qd (by rw [F];decide),Qk F,bA.o]);have aj:Hid (okR ex L d q b=true):=(by show okR ex L d q b=_;unfold okR;rw [F];rfl);have aY:Hid (p=qlI ex L d (b+1)):=(by show _=_;rw [qgV,F];rw [<- be.o];simp);have aP:Hid (aD=qlG ex L q (b+1)):=(by show _=_;rw [qgS,F];rw [<- bf.o];simp);have ah:=aK;have aB:=aN;have ak:=aH;have ar:Hid (e+1<=i.heap.size):=(by have:=aE.o;show _<=_;omega);have aT:Hid (∀ j,j<b+1->okR ex L d q j=true):=fun j bL=>by
     by_cases aw:j=b
     ·rw [aw];exact aj.o
     ·exact a5.o j (by omega)
    have aQ:Hid ((List.range (b+1)).map (stR ex L d q)=(List.range b).map (stR ex L d q)++[(O,V,aa)]):=(by show _=_;rw [qjw,aC.o]);clear aK aN aH a4;obtain ⟨-,b0⟩:=ah.o.cells;have a9:Hid (∀ g,Below (e+1) i g->Ri g e (sB m) (.slice y b x)/\Below e z g/\e+1<=g.heap.size):=fun g r=>⟨(r.block e (by omega)).trans ah.o,ak.o.trans (r.mono (by omega)),Qm ar.o r.size⟩
    go_wp2_with (at_builtin;refine qcQ aB.o ar.o rfl _ _ rfl rfl i.heap.size (by simp) rfl (O,V,aa) b bx.o (by omega) ?_;intro o k g M r;obtain ⟨E,af,ae⟩:=a9.o g r;rw [<- aQ.o] at M;obtain ⟨aR,b6⟩:=E.cells;have b8:g.frozen? ⟨e,1,none⟩=false:=Qr E 1;have M:=J9 M;have E:=J9 E;have af:=J9 af;have ae:=J9 ae;clear r aR)
    have aX:Hid (Ri (g.setCell ⟨e,1,none⟩ (.slice o (b+1) k)) e (sB m) (.slice o (b+1) k)):=heap_setCell_same g e 1 _ _ _ E.o;have aS:Hid (qah (g.setCell ⟨e,1,none⟩ (.slice o (b+1) k)) (e+1) (.slice o (b+1) k) ((List.range (b+1)).map (stR ex L d q))):=row_set M.o (p:=⟨e,1,none⟩) (by simp) _;have aZ:Hid (Below e z (g.setCell ⟨e,1,none⟩ (.slice o (b+1) k))):=af.o.setCell (p:=⟨e,1,none⟩) (Qa _) _;have a2:Hid (e+1<=(g.setCell ⟨e,1,none⟩ (.slice o (b+1) k)).heap.size):=(by have aL:=ae.o;simp [Hid] at aL |-;omega);go_roundw
    case rel=>exact ⟨b+1,o,k,_,_,by omega,by go_num,rfl,rfl,aY.o,aP.o,aT.o,aX.o,aS.o,aZ.o,a2.o⟩
    case measure=>simp [intOf];omega
   ·have F:letR ex L b=100:=ag
    rw [ag];simp only [show ((100:UInt8).toNat:Int)=100 from rfl];have cB:i.frozen? ⟨h,2,none⟩=false:=Qr a7.o 2;have G:=J9 (fun aW=>qev 100 d aW);simp only [show ((100:UInt8).toNat:Int)=100 from rfl] at G;have aC:Hid (stR ex L d q b=(O,V,d)):=(by show stR ex L d q b=_;unfold stR;rw [Qk F,bA.o]);have aj:Hid (okR ex L d q b=withR 100 d):=(by show okR ex L d q b=_;unfold okR;rw [aC.o,F];simp);have aY:Hid (true=qlI ex L d (b+1)):=(by show _=_;rw [qgV,F];simp);have aP:Hid (aD=qlG ex L q (b+1)):=(by show _=_;rw [qgS,F];rw [<- bf.o];simp);obtain ⟨bK,a0⟩:=N9 (withR 100 d);rw [a0] at aj G;have ah:Hid (Ri (i.setCell ⟨h,2,none⟩ (.int .i64 d)) e (sB m) (.slice y b x)):=(heap_setCell_other i ⟨h,2,none⟩ e _ b7.symm).trans aK.o;have aB:Hid (qah (i.setCell ⟨h,2,none⟩ (.int .i64 d)) (e+1) (.slice y b x) ((List.range b).map (stR ex L d q))):=qcK aN.o (p:=⟨h,2,none⟩) b4.o _;have ak:Hid (Below e z (i.setCell ⟨h,2,none⟩ (.int .i64 d))):=aH.o.setCell (p:=⟨h,2,none⟩) (by have:=aE.o.1;simp;omega) _;have aU:Hid (Rz (i.setCell ⟨h,2,none⟩ (.int .i64 d)) (n+1)):=(heap_setCell_other i ⟨h,2,none⟩ (n+1) _ b3.symm).trans a4.o;have ar:Hid (e+1<=(i.setCell ⟨h,2,none⟩ (.int .i64 d)).heap.size):=(by have:=aE.o;simp [Hid];omega);clear a0 aK aN aH a4
    go_wp2_with fail
    refine (G.o _).mono ?_;rintro aw wx ⟨rfl,rfl⟩;cases bK with
    | false=>
     have bv:Hid (Below n w (i.setCell ⟨h,2,none⟩ (.int .i64 d))):=bI.o.trans (ak.o.mono (by omega));have ay:=J9 (qoe b5.o aj.o);clear bY ce bP G ah aB ak;have aA:Hid (qbN ex L d q=none):=ay.o;obtain ⟨ac,an,ao,ai⟩:=aU.o.cells;have Z:Hid (qbb w m (qbN ex L d q) (.returned (.tuple #[.agg #[.string ⟨#[]⟩,.slice none 0 0],.bool false])) (((i.setCell ⟨h,2,none⟩ (.int .i64 d)).setCell ⟨n+1,0,none⟩ (.string ⟨#[]⟩)).setCell ⟨n+1,1,none⟩ (.slice none 0 0))):=by
      show qbb w m (qbN ex L d q) _ _;rw [aA.o];refine ⟨rfl,?_⟩;rw [aF.o];exact (bv.o.setCell (p:=⟨n+1,0,none⟩) (by simp) _).setCell (p:=⟨n+1,1,none⟩) (by simp) _
     have am:=J9 (aU.o.set ⟨#[]⟩ (.slice none 0 0));go_wp2;obtain ⟨U,J⟩:=am.o;obtain ⟨bo,K⟩:=N9 ((((i.setCell ⟨h,2,none⟩ (.int .i64 d)).setCell ⟨n+1,0,none⟩ (.string ⟨#[]⟩)).setCell ⟨n+1,1,none⟩ (.slice none 0 0)));rw [K] at Z U J |-;clear K ac an ao ai;refine bodyPost_ret (v:=.tuple #[.agg #[.string ⟨#[]⟩,.slice none 0 0],.bool false]) ?_ rfl Z.o;simp [results,results99,go_sem,U,J]
    | true=>
     have aT:Hid (∀ j,j<b+1->okR ex L d q j=true):=fun j bL=>by
      by_cases aw:j=b
      ·rw [aw];exact aj.o
      ·exact a5.o j (by omega)
     have aQ:Hid ((List.range (b+1)).map (stR ex L d q)=(List.range b).map (stR ex L d q)++[(O,V,d)]):=(by show _=_;rw [qjw,aC.o]);clear G;obtain ⟨-,b0⟩:=ah.o.cells;have a9:Hid (∀ g,Below (e+1) (i.setCell ⟨h,2,none⟩ (.int .i64 d)) g->Ri g e (sB m) (.slice y b x)/\Below e z g/\e+1<=g.heap.size):=fun g r=>⟨(r.block e (by omega)).trans ah.o,ak.o.trans (r.mono (by omega)),Qm ar.o r.size⟩
     go_wp2_with (at_builtin;refine qcQ aB.o ar.o rfl _ _ rfl rfl i.heap.size (by simp) rfl (O,V,d) b bx.o (by omega) ?_;intro o k g M r;obtain ⟨E,af,ae⟩:=a9.o g r;rw [<- aQ.o] at M;obtain ⟨aR,b6⟩:=E.cells;have b8:g.frozen? ⟨e,1,none⟩=false:=Qr E 1;have M:=J9 M;have E:=J9 E;have af:=J9 af;have ae:=J9 ae;clear r aR)
     have aX:Hid (Ri (g.setCell ⟨e,1,none⟩ (.slice o (b+1) k)) e (sB m) (.slice o (b+1) k)):=heap_setCell_same g e 1 _ _ _ E.o;have aS:Hid (qah (g.setCell ⟨e,1,none⟩ (.slice o (b+1) k)) (e+1) (.slice o (b+1) k) ((List.range (b+1)).map (stR ex L d q))):=row_set M.o (p:=⟨e,1,none⟩) (by simp) _;have aZ:Hid (Below e z (g.setCell ⟨e,1,none⟩ (.slice o (b+1) k))):=af.o.setCell (p:=⟨e,1,none⟩) (Qa _) _;have a2:Hid (e+1<=(g.setCell ⟨e,1,none⟩ (.slice o (b+1) k)).heap.size):=(by have aL:=ae.o;simp [Hid] at aL |-;omega);go_roundw
     case rel=>exact ⟨b+1,o,k,_,_,by omega,by go_num,rfl,rfl,aY.o,aP.o,aT.o,aX.o,aS.o,aZ.o,a2.o⟩
     case measure=>simp [intOf];omega
   all_goals
    have F:=ag;have G:=(fun aW=>qev (letR ex L b) q aW);have cB:i.frozen? ⟨h,2,none⟩=false:=Qr a7.o 2;have aC:Hid (stR ex L d q b=(O,V,q)):=(by show stR ex L d q b=_;unfold stR;rw [Qd (by rw [F];decide),Qd (by rw [F];decide),bA.o]);have aj:Hid (okR ex L d q b=withR (letR ex L b) q):=(by show okR ex L d q b=_;unfold okR;rw [aC.o,F];simp);have aY:Hid (p=qlI ex L d (b+1)):=(by show _=_;rw [qgV,F];rw [<- be.o];simp);have aP:Hid (true=qlG ex L q (b+1)):=(by show _=_;rw [qgS,F];simp);obtain ⟨bK,a0⟩:=N9 (withR (letR ex L b) q);rw [a0] at aj G;rw [ag] at G |-;simp only [UInt8.reduceToNat,Int.cast_ofNat_Int] at G |-;have G:=J9 G;have ah:Hid (Ri (i.setCell ⟨h,2,none⟩ (.int .i64 q)) e (sB m) (.slice y b x)):=(heap_setCell_other i ⟨h,2,none⟩ e _ b7.symm).trans aK.o;have aB:Hid (qah (i.setCell ⟨h,2,none⟩ (.int .i64 q)) (e+1) (.slice y b x) ((List.range b).map (stR ex L d q))):=qcK aN.o (p:=⟨h,2,none⟩) b4.o _;have ak:Hid (Below e z (i.setCell ⟨h,2,none⟩ (.int .i64 q))):=aH.o.setCell (p:=⟨h,2,none⟩) (by have:=aE.o.1;simp;omega) _;have aU:Hid (Rz (i.setCell ⟨h,2,none⟩ (.int .i64 q)) (n+1)):=(heap_setCell_other i ⟨h,2,none⟩ (n+1) _ b3.symm).trans a4.o;have ar:Hid (e+1<=(i.setCell ⟨h,2,none⟩ (.int .i64 q)).heap.size):=(by have:=aE.o;simp [Hid];omega);clear a0 aK aN aH a4
    go_wp2_with fail
    refine (G.o _).mono ?_;rintro aw wx ⟨rfl,rfl⟩;cases bK with
    | false=>
     have bv:Hid (Below n w (i.setCell ⟨h,2,none⟩ (.int .i64 q))):=bI.o.trans (ak.o.mono (by omega));have ay:=J9 (qoe b5.o aj.o);clear bY ce bP G ah aB ak;have aA:Hid (qbN ex L d q=none):=ay.o;obtain ⟨ac,an,ao,ai⟩:=aU.o.cells;have Z:Hid (qbb w m (qbN ex L d q) (.returned (.tuple #[.agg #[.string ⟨#[]⟩,.slice none 0 0],.bool false])) (((i.setCell ⟨h,2,none⟩ (.int .i64 q)).setCell ⟨n+1,0,none⟩ (.string ⟨#[]⟩)).setCell ⟨n+1,1,none⟩ (.slice none 0 0))):=by
      show qbb w m (qbN ex L d q) _ _;rw [aA.o];refine ⟨rfl,?_⟩;rw [aF.o];exact (bv.o.setCell (p:=⟨n+1,0,none⟩) (by simp) _).setCell (p:=⟨n+1,1,none⟩) (by simp) _
     have am:=J9 (aU.o.set ⟨#[]⟩ (.slice none 0 0));go_wp2;obtain ⟨U,J⟩:=am.o;obtain ⟨bo,K⟩:=N9 ((((i.setCell ⟨h,2,none⟩ (.int .i64 q)).setCell ⟨n+1,0,none⟩ (.string ⟨#[]⟩)).setCell ⟨n+1,1,none⟩ (.slice none 0 0)));rw [K] at Z U J |-;clear K ac an ao ai;refine bodyPost_ret (v:=.tuple #[.agg #[.string ⟨#[]⟩,.slice none 0 0],.bool false]) ?_ rfl Z.o;simp [results,results99,go_sem,U,J]
    | true=>
     have aT:Hid (∀ j,j<b+1->okR ex L d q j=true):=fun j bL=>by
      by_cases aw:j=b
      ·rw [aw];exact aj.o
      ·exact a5.o j (by omega)
     have aQ:Hid ((List.range (b+1)).map (stR ex L d q)=(List.range b).map (stR ex L d q)++[(O,V,q)]):=(by show _=_;rw [qjw,aC.o]);clear G;obtain ⟨-,b0⟩:=ah.o.cells;have a9:Hid (∀ g,Below (e+1) (i.setCell ⟨h,2,none⟩ (.int .i64 q)) g->Ri g e (sB m) (.slice y b x)/\Below e z g/\e+1<=g.heap.size):=fun g r=>⟨(r.block e (by omega)).trans ah.o,ak.o.trans (r.mono (by omega)),Qm ar.o r.size⟩
     go_wp2_with (at_builtin;refine qcQ aB.o ar.o rfl _ _ rfl rfl i.heap.size (by simp) rfl (O,V,q) b bx.o (by omega) ?_;intro o k g M r;obtain ⟨E,af,ae⟩:=a9.o g r;rw [<- aQ.o] at M;obtain ⟨aR,b6⟩:=E.cells;have b8:g.frozen? ⟨e,1,none⟩=false:=Qr E 1;have M:=J9 M;have E:=J9 E;have af:=J9 af;have ae:=J9 ae;clear r aR)
     have aX:Hid (Ri (g.setCell ⟨e,1,none⟩ (.slice o (b+1) k)) e (sB m) (.slice o (b+1) k)):=heap_setCell_same g e 1 _ _ _ E.o;have aS:Hid (qah (g.setCell ⟨e,1,none⟩ (.slice o (b+1) k)) (e+1) (.slice o (b+1) k) ((List.range (b+1)).map (stR ex L d q))):=row_set M.o (p:=⟨e,1,none⟩) (by simp) _;have aZ:Hid (Below e z (g.setCell ⟨e,1,none⟩ (.slice o (b+1) k))):=af.o.setCell (p:=⟨e,1,none⟩) (Qa _) _;have a2:Hid (e+1<=(g.setCell ⟨e,1,none⟩ (.slice o (b+1) k)).heap.size):=(by have aL:=ae.o;simp [Hid] at aL |-;omega);go_roundw
     case rel=>exact ⟨b+1,o,k,_,_,by omega,by go_num,rfl,rfl,aY.o,aP.o,aT.o,aX.o,aS.o,aZ.o,a2.o⟩
     case measure=>simp [intOf];omega
  ·obtain rfl:b=l:=by omega
   have cx:=aq.o;have br:Hid (∀ j,j<L.length->okR ex L d q j=true):=(fun j bL=>a5.o j (by have:=aJ.o;omega));obtain ⟨ab,bz⟩:=aM.o.cells;have a8:Hid (p=qlI ex L d L.length):=(by show _=_;rw [aJ.o];exact be.o);have aV:Hid (aD=qlG ex L q L.length):=(by show _=_;rw [aJ.o];exact bf.o);have bk:=aq;clear cx be bf a5;cases p with
   | false=>
    have ay:=J9 (qqP (n:=q) a8.o.symm);clear a8 aV ab bz aq aM bk br;have aA:Hid (qbN ex L d q=none):=ay.o;obtain ⟨ac,an,ao,ai⟩:=ax.o.cells;have Z:Hid (qbb w m (qbN ex L d q) (.returned (.tuple #[.agg #[.string ⟨#[]⟩,.slice none 0 0],.bool false])) ((wr.setCell ⟨n+1,0,none⟩ (.string ⟨#[]⟩)).setCell ⟨n+1,1,none⟩ (.slice none 0 0))):=by
     show qbb w m (qbN ex L d q) _ _;rw [aA.o];refine ⟨rfl,?_⟩;rw [aF.o];exact (a6.o.setCell (p:=⟨n+1,0,none⟩) (by simp) _).setCell (p:=⟨n+1,1,none⟩) (by simp) _
    have am:=J9 (ax.o.set ⟨#[]⟩ (.slice none 0 0));go_wp2;obtain ⟨U,J⟩:=am.o;obtain ⟨bo,K⟩:=N9 (((wr.setCell ⟨n+1,0,none⟩ (.string ⟨#[]⟩)).setCell ⟨n+1,1,none⟩ (.slice none 0 0)));rw [K] at Z U J |-;clear K ac an ao ai;refine bodyPost_ret (v:=.tuple #[.agg #[.string ⟨#[]⟩,.slice none 0 0],.bool false]) ?_ rfl Z.o;simp [results,results99,go_sem,U,J]
   | true=>
    cases aD with
    | false=>
     have ay:=J9 (qsL (d:=d) aV.o.symm);clear a8 aV ab bz aq aM bk br;have aA:Hid (qbN ex L d q=none):=ay.o;obtain ⟨ac,an,ao,ai⟩:=ax.o.cells;have Z:Hid (qbb w m (qbN ex L d q) (.returned (.tuple #[.agg #[.string ⟨#[]⟩,.slice none 0 0],.bool false])) ((wr.setCell ⟨n+1,0,none⟩ (.string ⟨#[]⟩)).setCell ⟨n+1,1,none⟩ (.slice none 0 0))):=by
      show qbb w m (qbN ex L d q) _ _;rw [aA.o];refine ⟨rfl,?_⟩;rw [aF.o];exact (a6.o.setCell (p:=⟨n+1,0,none⟩) (by simp) _).setCell (p:=⟨n+1,1,none⟩) (by simp) _
     have am:=J9 (ax.o.set ⟨#[]⟩ (.slice none 0 0));go_wp2;obtain ⟨U,J⟩:=am.o;obtain ⟨bo,K⟩:=N9 (((wr.setCell ⟨n+1,0,none⟩ (.string ⟨#[]⟩)).setCell ⟨n+1,1,none⟩ (.slice none 0 0)));rw [K] at Z U J |-;clear K ac an ao ai;refine bodyPost_ret (v:=.tuple #[.agg #[.string ⟨#[]⟩,.slice none 0 0],.bool false]) ?_ rfl Z.o;simp [results,results99,go_sem,U,J]
    | true=>
     have cg:=J9 (qqx br.o a8.o.symm aV.o.symm);have Z:Hid (qbb w m (qbN ex L d q) (.returned (.tuple #[.agg #[.string (sB m),.slice y b x],.bool true])) ((wr.setCell ⟨n+1,0,none⟩ (.string (sB m))).setCell ⟨n+1,1,none⟩ (.slice y b x))):=by
      show qbb w m (qbN ex L d q) _ _;rw [cg.o,aJ.o];refine ⟨_,rfl,?_,?_⟩
      ·rw [aF.o]
       exact row_mono (row_set (row_set bk.o (p:=⟨n+1,0,none⟩) (by simp;omega) _) (p:=⟨n+1,1,none⟩) (by simp;omega) _) (by omega)
      ·rw [aF.o]
       exact (a6.o.setCell (p:=⟨n+1,0,none⟩) (by simp) _).setCell (p:=⟨n+1,1,none⟩) (by simp) _
     obtain ⟨ac,an,ao,ai⟩:=ax.o.cells;have am:=J9 (ax.o.set (sB m) (.slice y b x));clear a8 aV aq aM bk br cg;go_wp2;obtain ⟨U,J⟩:=am.o;obtain ⟨bo,K⟩:=N9 (((wr.setCell ⟨n+1,0,none⟩ (.string (sB m))).setCell ⟨n+1,1,none⟩ (.slice y b x)));rw [K] at Z U J |-;clear K ac an ao ai ab bz;refine bodyPost_ret (v:=.tuple #[.agg #[.string (sB m),.slice y b x],.bool true]) ?_ rfl Z.o;simp [results,results99,go_sem,U,J]
section
variable {w w':World} {b:Nat} {kind:Int} {va vb:Value} {s:ByteArray} {al:Bool}
end
theorem qbY (w:World) (n:Nat) (y:w.heap.size=n):∃ h,w.alloc (.cells #[.int .i64 0,.slice none 0 0,.string ⟨#[]⟩,.slice none 0 0,.bool false] 50)=h/\qar h n 0 (.slice none 0 0) ⟨#[]⟩ (.slice none 0 0) false/\Below w.heap.size w h/\h.heap.size=n+1:=by
 subst y;exact ⟨_,rfl,World.alloc_heap_new w _,(B0 (w:=w)),by simp⟩
def qt2 (w:World) (x:Ite) (e:Ending) (w':World):Prop:=∃ c y h z,e=.returned (.agg #[.int .i64 x.kind,.slice c x.raw.length y,.string (sB x.m),.slice h x.C.length z,.bool x.al])/\
 qap w' w.heap.size (.slice c x.raw.length y) x.raw/\qah w' w.heap.size (.slice h x.C.length z) x.C/\Below w.heap.size w w'
theorem qc1 (w:World) (n:Nat):qah w n (.slice none 0 0) []:=Zm _ _ _ _
theorem take_at {w:World} {A:Option Addr} {xs:Str} (y:BytesAt w A xs) (k:Nat):BytesAt w A (xs.take k):=by
 rcases y with rfl | ⟨h,z,rfl,b⟩
 ·exact .inl (by simp)
 ·refine .inr ⟨h,z,rfl,fun j E=>?_⟩
  rw [List.getElem_take];exact b j (by rw [QD] at E;omega)
theorem qlQ (b:Str) (ai:b≠[]) (A:Option Addr) (cap l:Nat) (u:b.length=l) (w:World) (H:BytesAt w A b) :
  Calls prog 95 #[.slice A l cap] w fun O ap=>O=.returned (.tuple #[.int .i64 (pgA b).1,.int .i64 ((pgA b).2:Nat)])/\ap=w:=by
 cases b with
 | nil=>exact absurd rfl ai
 | cons g G=>
  obtain ⟨aj,ag,rfl,am⟩:=H.cellAt (j:=0) (by simp);simp only [List.getElem_cons_zero,Nat.add_zero] at am;have au:1<=l:=by simp at u;omega
  have ad:((g.toNat:Int) == 203)=decide (g=203):=qdK g 203;have ab:((g.toNat:Int) == 237)=decide (g=237):=qdK g 237;have K:((g.toNat:Int) == 221)=decide (g=221):=qdK g 221;have J:((g.toNat:Int) == 253)=decide (g=253):=qdK g 253;have p:Hid (pgA (g :: G)=if g=203 then (1,1) else if g=237 then (2,1) else if g=221 then (if G.head?=some 203 then (5,3) else (3,1)) else if g=253 then (if G.head?=some 203 then (6,3) else (4,1)) else (0,0)):=rfl;obtain ⟨⟨ae,an⟩,af⟩:=N9 (pgA (g :: G));rw [af] at p |-;have E:Hid (∀ h z,G=h :: z->w.cell? ⟨aj,ag+1,none⟩=some (.int .u8 (h.toNat:Int))/\((h.toNat:Int) == 203)=decide (h=203)):=fun h z O=>by
   subst O;obtain ⟨ar,aq,O,ak⟩:=H.cellAt (j:=1) (by simp);simp only [Qz,Addr.mk.injEq] at O;obtain ⟨rfl,rfl,-⟩:=O;exact ⟨ak,qdK h 203⟩
  clear af H ai;by_cases k:g=203
  ·rw [Qn k] at ad
   have e:=p.o;rw [Qk k] at e;obtain ⟨rfl,rfl⟩:=Prod.mk.inj e;clear k ab K J p e E u
   go_enter func95,ntmps95
   go_wp2
   go_ret2
   exact ⟨rfl,rfl⟩
  rw [Qf k] at ad;by_cases y:g=237
  ·rw [Qn y] at ab
   have e:=p.o;rw [Qd k,Qk y] at e;obtain ⟨rfl,rfl⟩:=Prod.mk.inj e;clear k y K J p e E u
   go_enter func95,ntmps95
   go_wp2
   go_ret2
   exact ⟨rfl,rfl⟩
  rw [Qf y] at ab;by_cases c:g=221\/g=253
  ·by_cases r:G.head?=some 203
   ·obtain ⟨z,rfl⟩:∃ z,G=203 :: z:=by
     cases G with
     | nil=>cases r
     | cons h z=>simp only [List.head?_cons,Qz] at r;subst r;exact ⟨z,rfl⟩
    obtain ⟨U,M⟩:=E.o 203 z rfl;have av:2<=l:=(by simp at u;omega);rw [show (((203:UInt8).toNat:Nat):Int)=203 from rfl] at U;have e:=p.o;rw [Qd k,Qd y] at e;rcases c with c | c
    ·rw [Qk c,Qk r] at e
     obtain ⟨rfl,rfl⟩:=Prod.mk.inj e;rw [Qn c] at K;rw [Qf (by rw [c];decide)] at J;clear k y c r p e E u M
     go_enter func95,ntmps95
     go_wp2
     go_ret2
     exact ⟨rfl,rfl⟩
    ·rw [Qd (by rw [c];decide),Qk c,Qk r] at e
     obtain ⟨rfl,rfl⟩:=Prod.mk.inj e;rw [Qn c] at J;rw [Qf (by rw [c];decide)] at K;clear k y c r p e E u M
     go_enter func95,ntmps95
     go_wp2
     go_ret2
     exact ⟨rfl,rfl⟩
   ·have e:=p.o
    rw [Qd k,Qd y] at e;have Z:(g=221/\ae=3\/g=253/\ae=4)/\an=1:=by
     rcases c with c | c
     ·rw [Qk c,Qd r] at e
      obtain ⟨rfl,rfl⟩:=Prod.mk.inj e;exact ⟨.inl ⟨c,rfl⟩,rfl⟩
     ·rw [Qd (by rw [c];decide),Qk c,Qd r] at e
      obtain ⟨rfl,rfl⟩:=Prod.mk.inj e;exact ⟨.inr ⟨c,rfl⟩,rfl⟩
    obtain ⟨Z,rfl⟩:=Z;have ah:l=1\/(2<=l/\∃ h,w.cell? ⟨aj,ag+1,none⟩=some (.int .u8 (h:Int))/\((h:Int) == 203)=false):=by
     cases G with
     | nil=>simp at u;exact .inl u.symm
     | cons h z=>
      obtain ⟨U,M⟩:=E.o h z rfl;refine .inr ⟨by simp at u;omega,(h.toNat:Int),U,?_⟩;rw [M];simp only [List.head?_cons,Qz] at r;exact Qf r
    rcases Z with ⟨c,rfl⟩ | ⟨c,rfl⟩
    ·rw [Qn c] at K
     rw [Qf (by rw [c];decide)] at J;clear k y c r p e E u;rcases ah with rfl | ⟨ao,h,U,M⟩
     ·go_enter func95,ntmps95
      go_wp2
      go_ret2
      exact ⟨rfl,rfl⟩
     ·go_enter func95,ntmps95
      go_wp2
      go_ret2
      exact ⟨rfl,rfl⟩
    ·rw [Qn c] at J
     rw [Qf (by rw [c];decide)] at K;clear k y c r p e E u;rcases ah with rfl | ⟨ao,h,U,M⟩
     ·go_enter func95,ntmps95
      go_wp2
      go_ret2
      exact ⟨rfl,rfl⟩
     ·go_enter func95,ntmps95
      go_wp2
      go_ret2
      exact ⟨rfl,rfl⟩
  ·have aa:g≠221:=fun ac=>c (.inl ac)
   have V:g≠253:=(fun ac=>c (.inr ac));rw [Qf aa] at K;rw [Qf V] at J;have e:=p.o;rw [Qd k,Qd y,Qd aa,Qd V] at e;obtain ⟨rfl,rfl⟩:=Prod.mk.inj e;clear k y aa V c p e E u
   go_enter func95,ntmps95
   go_wp2
   go_ret2
   exact ⟨rfl,rfl⟩
theorem qmd (kind:Int) (b:Str) (A:Option Addr) (cap l:Nat) (am:b.length=l) (aD:l<=cap) (ao:cap<=maxLen) (k:Nat) (aP:k<=l) (aO:l<=10000) (w:World) (H:BytesAt w A b) :
  Calls prog 96 #[.int .i64 kind,.slice A l cap,.int .i64 k] w (qt2 w (qbB kind (b.take k))):=by
 obtain ⟨h,Z⟩:=N9 (w.heap.size);obtain ⟨U,aF,af,M,aj⟩:=qbY w h Z;obtain ⟨E,ad⟩:=N9 (U.alloc (.cells #[] 5));have J:Below U.heap.size U E:=by rw [<- ad];exact qaG _ _
 have ag:Hid (qap E (h+1) (.slice (some ⟨h+1,0,none⟩) 0 0) []):=by rw [<- ad,<- aj];exact qbo U [] (by decide)
 have ar:Hid (BytesAt E A (b.take k)):=take_at ((H.below M).below J) k;have I1:=J9 (af.all J);have ab:Hid (Below h w E):=by rw [<- Z];exact M.trans (J.mono M.size)
 have aw:Hid (h+1<=E.heap.size):=by have:=J.size;show _<=_;omega
 have O:Hid ((b.take k).length=k):=by show _=_;rw [QD];omega
 have ae:=J9 Z;have aH:¬cap<k:=by omega
 unfold maxLen at ao;clear H M J af am
 go_enter func96,ntmps96
 have ak:Hid (∀ y n z,qap z (h+1) (.slice y k n) ([]++b.take k)->Below (h+1) E z->qar z h 0 (.slice none 0 0) ⟨#[]⟩ (.slice none 0 0) false/\qap z (h+1) (.slice y k n) (b.take k)/\Below h w z):=fun y n z K G=>⟨(G.block h (by omega)).trans I1.o,K,ab.o.trans (G.mono (by omega))⟩
 clear ab I1
 go_wp2_with (at_builtin;refine qcq (xs:=[]) (ys:=b.take k) ag.o ar.o aw.o (by rw [O.o];simp;omega) rfl _ _ rfl rfl rfl k O.o rfl k (by simp) ?_;intro y n z K G;obtain ⟨V,aa,ac⟩:=ak.o y n z K G;have I2:=J9 V;have an:=J9 aa;have ap:=J9 ac;obtain ⟨aC,aG,aK,aL,aB,aM⟩:=V.cells;clear K G V aa ac)
 obtain ⟨aJ,aA,az,ax,aI,aQ,ai,aN⟩:=I2.o.put kind (.slice y k n) ⟨#[]⟩ (.slice none 0 0) false;rw [aA];obtain ⟨aq,au,ay,av,ah,aE⟩:=az.cells;refine bodyPost_ret (v:=.agg #[.int .i64 kind,.slice y k n,.string ⟨#[]⟩,.slice none 0 0,.bool false]) ?_ rfl ?_
 ·simp [results,results96,go_sem,aq,au,ay,av,ah]
 ·refine ⟨y,n,none,0,?_,?_,?_,?_⟩
  ·simp only [qbB,O.o];rfl
  ·simp only [qbB,O.o,ae.o]
   exact (ai (h+1) _ _ (by omega) an.o).lift (by omega)
  ·exact qc1 _ _
  ·rw [ae.o];exact ap.o.trans ax
end Go.Proofs.YtjafbmfcedijmaaGreatDoor
namespace Go.Proofs.YtjafbmfcedijmaaGreatDoor
open Tryz
open Go.RowKit Go.Shelf
attribute [local go_sem] Oper.semAt_some
section
variable {w0 w w':World} {D:Nat} {S:Value} {k:Nat} {p nd d n:Int}
theorem Dec.set1 (h:Dec w0 D S w k p nd d n) (x:Nat):Dec w0 D S (w.setCell ⟨D,1,none⟩ (.int .i64 x)) x p nd d n:=
 ⟨heap_setCell_same w D 1 _ _ (.int .i64 x) h.blk,h.bel.setCell (p:=⟨D,1,none⟩) (Qa _) _⟩
theorem Dec.set2 (h:Dec w0 D S w k p nd d n) (x:Int):Dec w0 D S (w.setCell ⟨D,2,none⟩ (.int .i64 x)) k x nd d n:=
 ⟨heap_setCell_same w D 2 _ _ (.int .i64 x) h.blk,h.bel.setCell (p:=⟨D,2,none⟩) (Qa _) _⟩
theorem Dec.set4 (h:Dec w0 D S w k p nd d n) (x:Int):Dec w0 D S (w.setCell ⟨D,4,none⟩ (.int .i64 x)) k p nd x n:=
 ⟨heap_setCell_same w D 4 _ _ (.int .i64 x) h.blk,h.bel.setCell (p:=⟨D,4,none⟩) (Qa _) _⟩
theorem Dec.set5 (h:Dec w0 D S w k p nd d n) (x:Int):Dec w0 D S (w.setCell ⟨D,5,none⟩ (.int .i64 x)) k p nd d x:=
 ⟨heap_setCell_same w D 5 _ _ (.int .i64 x) h.blk,h.bel.setCell (p:=⟨D,5,none⟩) (Qa _) _⟩
end
def DOk (w0:World) (D:Nat) (S:Value) (w:World) (e:Ending) (w':World) (v:Value) (k:Nat) (p nd d n:Int):Prop:=e=.returned v/\Dec w0 D S w' k p nd d n/\DK D w w'
theorem qdV {w0:World} {D:Nat} {b:Str} {A:Option Addr} {l cap:Nat} (H:DH w0 D b A l cap) {w:World} {k:Nat} (am:k<=l) {p nd d n:Int} (X:Dec w0 D (.slice A l cap) w k p nd d n) :
  Calls prog 230 #[.pointer (some ⟨D,0,none⟩)] w fun e w'=>
   (k<l/\DOk w0 D (.slice A l cap) w e w' (.int .u8 ((b.getD k 0).toNat:Int)) (k+1) p nd d n)\/(k=l/\qiN w0 D (.slice A l cap) w e w' l p nd):=by
 have ak:=H.hl2;have h:=fun g=>below_drewN w w.heap.size g
 obtain ⟨O,ab,U,Z,G,V,K⟩:=X.cells;by_cases E:k<l
 ·have M:=J9 (fun x (af:Below D w0 x)=>H.byte E af)
  obtain ⟨ai,J⟩:=N9 (b.getD k 0);rw [J] at M |-;have y:Hid (∀ g,Dec w0 D (.slice A l cap) ((w.drewN g).setCell ⟨D,1,none⟩ (.int .i64 ((k:Int)+1))) (k+1) p nd d n):=fun g=>(X.all (h g)).set1 (k+1)
  have z:Hid (∀ g,DK D w ((w.drewN g).setCell ⟨D,1,none⟩ (.int .i64 ((k:Int)+1)))):=fun g=>(DK.of_below (h g)).set 1 _
  have ad:((k:Int) == (l:Int))=false:=Qj.2 (by omega);clear H X h J
  go_enter func230,ntmps230
  go_wp2
  go_quiet (fail)
  go_upto_region 4 with fail
  have q:=y.o nq;have ac:=J9 (z.o nq);obtain ⟨x,aa⟩:=N9 ((w.drewN nq).setCell ⟨D,1,none⟩ (.int .i64 ((k:Int)+1)));rw [aa] at q ac |-;clear O ab U Z G V K y z aa;obtain ⟨aj,ag,ae,ah⟩:=M.o x q.bel;obtain ⟨O,ab,U,Z,G,V,K⟩:=q.cells;have q:=J9 q;have h:=J9 (fun g=>below_drewN x x.heap.size g);subst ae;go_wp2
  go_quiet (fail)
  go_wp2;go_ret;exact .inl ⟨E,rfl,q.o.all (h.o _),ac.o.trans (DK.of_below (h.o _))⟩
 ·obtain rfl:k=l:=by omega
  have y:Hid (∀ g,Dec w0 D (.slice A k cap) (w.drewN g) k p nd d n):=fun g=>X.all (h g)
  have z:Hid (∀ g,DK D w (w.drewN g)):=fun g=>DK.of_below (h g)
  have ad:((k:Int) == (k:Int))=true:=beq_iff_eq.2 rfl;clear H X h E
  go_enter func230,ntmps230
  go_wp2
  go_quiet (fail)
  go_wp2;exact ⟨rfl,.inr ⟨trivial,rfl,⟨d,n,y.o _⟩,z.o _⟩⟩
theorem qgy {w0:World} {D:Nat} {b:Str} {A:Option Addr} {l cap:Nat} (H:DH w0 D b A l cap) {w:World} {k:Nat} (M:k<=l) {p nd d n:Int} (X:Dec w0 D (.slice A l cap) w k p nd d n) :
  Calls prog 229 #[.pointer (some ⟨D,0,none⟩)] w fun e w'=>
   (k<l/\DOk w0 D (.slice A l cap) w e w' (.int .i64 (sgB (b.getD k 0))) (k+1) p nd d n)\/(k=l/\qiN w0 D (.slice A l cap) w e w' l p nd):=by
 have E:=qdV H M X;have K:=(b.getD k 0).toNat_lt;have z:=J9 (fun w=>qpc ((b.getD k 0).toNat:Int) (by omega) (by omega) w);clear H X K
 go_enter func229,ntmps229
 go_wp2_with fail
 refine E.mono ?_;rintro e w' (⟨G,rfl,h,y⟩ | ⟨G,rfl,h,y⟩)
 ·have h:=J9 h
  have y:=J9 y;clear E
  go_wp2_with fail
  refine (z.o _).mono ?_;rintro e N ⟨rfl,J⟩;clear z;go_wp2;go_ret
  first | subst J | (rw [<- J]) | skip
  exact .inl ⟨G,rfl,h.o,y.o⟩
 ·clear E z
  exact ⟨rfl,.inr ⟨G,rfl,h,y⟩⟩
theorem qvn {w0:World} {D:Nat} {b:Str} {A:Option Addr} {l cap:Nat} (H:DH w0 D b A l cap) {w:World} {k:Nat} (Z:k<=l) {p nd d n:Int} (X:Dec w0 D (.slice A l cap) w k p nd d n) :
  Calls prog 271 #[.pointer (some ⟨D,0,none⟩)] w fun e w'=>
   (k+1<l/\DOk w0 D (.slice A l cap) w e w' (.int .i64 (((b.getD k 0).toNat:Int)+256*((b.getD (k+1) 0).toNat:Int))) (k+2) p nd d n)\/(l<=k+1/\qiN w0 D (.slice A l cap) w e w' l p nd):=by
 have z:=qdV H Z X;have E:=J9 (fun J (U:k+1<=l) (h:Dec w0 D (.slice A l cap) J (k+1) p nd d n)=>qdV H U h);have O:=(b.getD k 0).toNat_lt;have V:=(b.getD (k+1) 0).toNat_lt;obtain ⟨ab,M⟩:=N9 ((b.getD k 0).toNat);obtain ⟨ac,K⟩:=N9 ((b.getD (k+1) 0).toNat);rw [M] at z O |-;rw [K] at E V |-;clear H X M K
 go_enter func271,ntmps271
 go_wp2_with fail
 refine z.mono ?_;rintro e J (⟨aa,rfl,h,g⟩ | ⟨aa,rfl,h,g⟩)
 ·have G:=E.o J (by omega) h
  have g:=J9 g;clear z h E
  go_wp2_with fail
  refine G.mono ?_;rintro e ad (⟨N,rfl,x,y⟩ | ⟨N,rfl,x,y⟩)
  ·have x:=J9 x
   have y:=J9 (g.o.trans y);clear G g;go_wp2;go_ret;exact .inl ⟨N,rfl,x.o,y.o⟩
  ·clear G
   exact ⟨rfl,.inr ⟨by omega,rfl,x,g.o.trans y⟩⟩
 ·clear z E
  exact ⟨rfl,.inr ⟨by omega,rfl,h,g⟩⟩
theorem qvi {w0:World} {D:Nat} {b:Str} {A:Option Addr} {l cap:Nat} (H:DH w0 D b A l cap) {w:World} {k:Nat} (V:k<=l) {p nd d n:Int} (X:Dec w0 D (.slice A l cap) w k p nd d n) :
  Calls prog 191 #[.pointer (some ⟨D,0,none⟩)] w fun h z=>DOk w0 D (.slice A l cap) w h z (.tuple #[]) 1 p nd d n:=by
 obtain ⟨J,U,K,O,E,M,G⟩:=X.cells;have y:=J9 (X.set1 1);have e:=J9 ((DK.refl D w).set 1 (.int .i64 ((1:Nat):Int)));clear H X
 go_enter func191,ntmps191
 go_wp2
 go_end0
 exact ⟨rfl,y.o,e.o⟩
theorem qfs {w0:World} {D:Nat} {b:Str} {A:Option Addr} {l cap:Nat} (H:DH w0 D b A l cap) {w:World} {k:Nat} (ac:k<=l) {p nd d n:Int} (X:Dec w0 D (.slice A l cap) w k p nd d n) :
  Calls prog 228 #[.pointer (some ⟨D,0,none⟩)] w fun z E=>DOk w0 D (.slice A l cap) w z E (.bool (decide (p=5\/p=6))) k p nd d n:=by
 obtain ⟨U,ab,V,aa,J,Z,M⟩:=X.cells;have y:=J9 X;clear H X;by_cases h:p=5
 ·subst h
  have e:=J9 (show decide ((5:Int)=5\/(5:Int)=6)=true from rfl)
  go_enter func228,ntmps228
  go_wp2;go_ret;exact ⟨rfl,y.o,DK.refl _ _⟩
 ·have K:(p == 5)=false:=Qj.2 h
  have e:=J9 (show decide (p=5\/p=6)=(p == 6) from by
   by_cases t:p=6
   ·subst t;rfl
   ·rw [Qf (by omega),Qj.2 t])
  obtain ⟨O,G⟩:=N9 ((p == 6));rw [G] at e;clear h
  go_enter func228,ntmps228
  go_wp2;go_ret;exact ⟨by rw [e.o];rfl,y.o,DK.refl _ _⟩
end Go.Proofs.YtjafbmfcedijmaaGreatDoor
namespace Go.Proofs.YtjafbmfcedijmaaGreatDoor
open Tryz
open Go.RowKit Go.Shelf
attribute [local go_sem] Oper.semAt_some
theorem qpV (A:Option Addr) (cap l:Nat) (xs:Str) (b:xs.length=l) (ai:l<=100000) (w:World) (a:BytesAt w A xs) :
  Calls prog 186 #[.slice A l cap] w fun ac M=>∃ y G,ac=.returned (.slice y l G)/\qap M w.heap.size (.slice y l G) xs/\Below w.heap.size w M:=by
 cases A with
 | none=>
  obtain rfl:xs=[]:=by
   rcases a with h | ⟨ag,af,h,_⟩
   ·exact h
   ·cases h
  obtain rfl:l=0:=b.symm;clear a b;have ad:=fun w=>Lib.run_eql_slice_nil (P:=prog) w 44 5 none 0 cap 0 0 underlying44
  go_enter func186,ntmps186
  go_wp2;go_ret;exact ⟨none,0,rfl,qb7 _ _,Qc _ _⟩
 | some ae=>
  have O:=J9 (qbo w [] (by decide));have e:Below w.heap.size w (w.alloc (.cells #[] 5)):=(B0 (w:=w));have ab:=J9 (a.below e);have E:=J9 e;have K:=J9 b;clear a e b
  go_enter func186,ntmps186
  have ad:=fun w=>Lib.run_eql_slice_nil (P:=prog) w 44 5 (some ae) l cap 0 0 underlying44
  go_wp2_with (at_builtin;refine qcq (xs:=[]) (ys:=xs) O.o ab.o E.o.size (by rw [K.o];simp;omega) rfl _ _ rfl rfl rfl l K.o rfl l (by simp) ?_;intro V U ah z J;have Z:=J9 z;have aa:=J9 J;clear z J)
  go_ret;exact ⟨V,U,rfl,Z.o,E.o.trans aa.o⟩
theorem qgH {w0:World} {D:Nat} {b:Str} {A:Option Addr} {l cap:Nat} (H:DH w0 D b A l cap) {w:World} {k:Nat} (aw:k<=l) {p nd d n:Int} (X:Dec w0 D (.slice A l cap) w k p nd d n) :
  Calls prog 140 #[.pointer (some ⟨D,0,none⟩)] w fun ab h=>∃ O V,ab=.returned (.slice O k V)/\qap h w.heap.size (.slice O k V) (b.take k)/\Below w.heap.size w h:=by
 obtain ⟨Z,aa,am,ap,ac,ao,ae⟩:=X.cells;have av:=H.hl2;have ar:¬cap<k:=by have:=H.hc;omega
 have aj:=H.hcm;have aq:Hid ((b.take k).length=k):=by show _=_;rw [QD,H.hl];omega
 obtain ⟨J,y⟩:=N9 (w.drew);have z:Below w.heap.size w J:=by rw [<- y];exact below_drewN w _ 1
 have U:J.heap.size=w.heap.size:=by rw [<- y];rfl
 have M:=J9 (qpV A cap k (b.take k) aq.o (by omega) J (take_at ((X.bytes H.hD H.H0).below z) k));have K:=J9 z;have an:=J9 U;unfold maxLen at aj;clear H X z U
 go_enter func140,ntmps140
 go_wp2;refine Mixed.qD5 (fun h=>h.cell? ⟨D,0,none⟩=some (.slice A l cap)/\h.cell? ⟨D,1,none⟩=some (.int .i64 (k:Int))) 9 [(0,true),(1,true),(2,true),(3,true),(4,true),(5,true),(6,true),(7,true),(8,true)] (by kernel_rfl) (by kernel_rfl) ⟨Z,aa⟩ ?_;clear Z aa am ap ac ao ae;refine Mixed.mp rfl (.pointer (some ⟨D,0,none⟩)) ?_;refine Mixed.mp rfl (.pointer (some ⟨D,0,none⟩)) ?_;refine Mixed.mp rfl (.pointer (some ⟨D,0,none⟩)) ?_;refine Mixed.mo rfl (.slice A l cap) (fun w e=>by obtain ⟨af,ai⟩:=e;go_simp;try rfl) ?_;refine Mixed.mp rfl (.pointer (some ⟨D,0,none⟩)) ?_;refine Mixed.mp rfl (.pointer (some ⟨D,0,none⟩)) ?_;refine Mixed.mp rfl (.pointer (some ⟨D,1,none⟩)) ?_;refine Mixed.mo rfl (.int .i64 (k:Int)) (fun w e=>by obtain ⟨af,ai⟩:=e;go_simp;try rfl) ?_;refine Mixed.mo rfl (.slice A k cap) (fun w e=>by clear e;go_simp;try rfl) ?_;simp only [Mixed.qD8,Qq,Qy];rw [y];clear y
 go_wp2_with fail
 refine M.o.mono ?_;rintro ab au ⟨ag,ad,rfl,E,G⟩;rw [an.o] at E G;have ah:=J9 E;have ak:=J9 (K.o.trans G);clear E G M K;go_wp2;go_ret;exact ⟨ag,ad,rfl,ah.o,ak.o⟩
theorem qu0 {w0:World} {D:Nat} {b:Str} {A:Option Addr} {l cap:Nat} (H:DH w0 D b A l cap) {w:World} {k:Nat} (aj:k<=l) {p nd d n:Int} (X:Dec w0 D (.slice A l cap) w k p nd d n) {c:UInt8} (am:c=100\/c=101\/c=110\/c=119) :
  Calls prog 233 #[.pointer (some ⟨D,0,none⟩),.int .i32 (c.toNat:Int)] w fun e w'=>
   (k+qhX c<=l/\DOk w0 D (.slice A l cap) w e w' (.tuple #[]) (k+qhX c) p nd (qa1 c (b.drop k) (d,n)).1 (qa1 c (b.drop k) (d,n)).2)\/(l<k+qhX c/\qiN w0 D (.slice A l cap) w e w' l p nd):=by
 have K:(b.drop k).getD 0 0=b.getD k 0:=by rw [getD_drop];rfl
 have aa:(b.drop k).getD 1 0=b.getD (k+1) 0:=by rw [getD_drop]
 have ak:=(b.getD k 0).toNat_lt;have M:=J9 (qdV H aj X);have J:=J9 (qgy H aj X);have U:=J9 (qvn H aj X);clear H X;rcases am with rfl | rfl | rfl | rfl
 ·have G:qa1 100 (b.drop k) (d,n)=(sgB (b.getD k 0),n):=by unfold qa1;rw [Qk rfl,K]
  rw [G,show qhX 100=1 from rfl];obtain ⟨E,z⟩:=N9 (sgB (b.getD k 0));simp only [z] at J |-;rw [show (((100:UInt8).toNat:Nat):Int)=100 from rfl];clear G z K aa M U
  go_enter func233,ntmps233
  go_wp2_with fail
  refine J.o.mono ?_;rintro e ai (⟨Z,rfl,h,y⟩ | ⟨Z,rfl,h,y⟩)
  ·obtain ⟨ad,ah,ae,af,ab,ag,ac⟩:=h.cells
   have V:=J9 (h.set4 E);have O:=J9 (y.set 4 (.int .i64 E));clear h y J;go_wp2
   go_end0
   exact .inl ⟨by omega,rfl,V.o,O.o⟩
  ·clear J
   exact ⟨rfl,.inr ⟨by omega,rfl,h,y⟩⟩
 ·have G:qa1 101 (b.drop k) (d,n)=(d,sgB (b.getD k 0)):=by unfold qa1;rw [Qd (by decide),Qk rfl,K]
  rw [G,show qhX 101=1 from rfl];obtain ⟨E,z⟩:=N9 (sgB (b.getD k 0));simp only [z] at J |-;rw [show (((101:UInt8).toNat:Nat):Int)=101 from rfl];clear G z K aa M U
  go_enter func233,ntmps233
  go_wp2_with fail
  refine J.o.mono ?_;rintro e ai (⟨Z,rfl,h,y⟩ | ⟨Z,rfl,h,y⟩)
  ·obtain ⟨ad,ah,ae,af,ab,ag,ac⟩:=h.cells
   have V:=J9 (h.set5 E);have O:=J9 (y.set 5 (.int .i64 E));clear h y J;go_wp2
   go_end0
   exact .inl ⟨by omega,rfl,V.o,O.o⟩
  ·clear J
   exact ⟨rfl,.inr ⟨by omega,rfl,h,y⟩⟩
 ·have G:qa1 110 (b.drop k) (d,n)=(d,((b.getD k 0).toNat:Int)):=by unfold qa1;rw [Qd (by decide),Qd (by decide),Qk rfl,K]
  rw [G,show qhX 110=1 from rfl];obtain ⟨E,z⟩:=N9 ((b.getD k 0).toNat);rw [z] at M ak |-;rw [show (((110:UInt8).toNat:Nat):Int)=110 from rfl];clear G z K aa J U
  go_enter func233,ntmps233
  go_wp2_with fail
  refine M.o.mono ?_;rintro e ai (⟨Z,rfl,h,y⟩ | ⟨Z,rfl,h,y⟩)
  ·obtain ⟨ad,ah,ae,af,ab,ag,ac⟩:=h.cells
   have V:=J9 (h.set5 (E:Int));have O:=J9 (y.set 5 (.int .i64 (E:Int)));clear h y M;go_wp2
   go_end0
   exact .inl ⟨by omega,rfl,V.o,O.o⟩
  ·clear M
   exact ⟨rfl,.inr ⟨by omega,rfl,h,y⟩⟩
 ·have G:qa1 119 (b.drop k) (d,n)=(d,((b.getD k 0).toNat:Int)+256*((b.getD (k+1) 0).toNat:Int)):=by unfold qa1;rw [Qd (by decide),Qd (by decide),Qd (by decide),Qk rfl,K,aa]
  rw [G,show qhX 119=2 from rfl];obtain ⟨E,z⟩:=N9 (((b.getD k 0).toNat:Int)+256*((b.getD (k+1) 0).toNat:Int));simp only [z] at U |-;rw [show (((119:UInt8).toNat:Nat):Int)=119 from rfl];clear G z K aa J M
  go_enter func233,ntmps233
  go_wp2_with fail
  refine U.o.mono ?_;rintro e ai (⟨Z,rfl,h,y⟩ | ⟨Z,rfl,h,y⟩)
  ·obtain ⟨ad,ah,ae,af,ab,ag,ac⟩:=h.cells
   have V:=J9 (h.set5 E);have O:=J9 (y.set 5 (.int .i64 E));clear h y U;go_wp2
   go_end0
   exact .inl ⟨by omega,rfl,V.o,O.o⟩
  ·clear U
   exact ⟨rfl,.inr ⟨by omega,rfl,h,y⟩⟩
theorem ql2 {w0:World} {D:Nat} {b:Str} {A:Option Addr} {l cap:Nat} (H:DH w0 D b A l cap) {w:World} {k:Nat} (V:k<=l) {p nd d n:Int} (X:Dec w0 D (.slice A l cap) w k p nd d n) (Z:¬(p=5\/p=6)) :
  Calls prog 188 #[.pointer (some ⟨D,0,none⟩)] w fun e w'=>
   (k<l/\DOk w0 D (.slice A l cap) w e w' (.int .u8 ((b.getD k 0).toNat:Int)) (k+1) p ((k:Int)+1) d n)\/(k=l/\qiN w0 D (.slice A l cap) w e w' l p ((k:Int)+1)):=by
 have aj:=H.hl2;obtain ⟨ac,ag,ad,af,aa,ae,ab⟩:=X.cells;have U:=X.set3 ((k:Int)+1);have z:=(DK.refl D w).set 3 (.int .i64 ((k:Int)+1));have K:=qfs H V U;rw [Qf Z] at K;have E:=J9 (fun M y=>qdV H V (w:=M) (p:=p) (nd:=(k:Int)+1) (d:=d) (n:=n) y);obtain ⟨ah,O⟩:=N9 ((b.getD k 0).toNat);rw [O] at E |-;have z:=J9 z;clear H X U O Z
 go_enter func188,ntmps188
 go_wp2_with fail
 refine K.mono ?_;rintro e M ⟨rfl,h,x⟩;have J:=E.o M h;have G:=J9 (z.o.trans x);clear K h x z E ac ag ad af aa ae ab
 go_wp2_with fail
 refine J.mono ?_;rintro e ai (⟨y,rfl,h,x⟩ | ⟨y,rfl,h,x⟩)
 ·have h:=J9 h
  have x:=J9 (G.o.trans x);clear J G;go_wp2;go_ret;exact .inl ⟨y,rfl,h.o,x.o⟩
 ·clear J
  exact ⟨rfl,.inr ⟨y,rfl,h,G.o.trans x⟩⟩
theorem qlZ {w0:World} {D:Nat} {b:Str} {A:Option Addr} {l cap:Nat} (H:DH w0 D b A l cap) {w:World} {k:Nat} (an:k<=l) {p nd d n:Int} (X:Dec w0 D (.slice A l cap) w k p nd d n) (ao:p=5\/p=6) :
  Calls prog 188 #[.pointer (some ⟨D,0,none⟩)] w fun e w'=>
   (k+1<l/\DOk w0 D (.slice A l cap) w e w' (.int .u8 ((b.getD (k+1) 0).toNat:Int)) (k+2) p ((k:Int)+2) (sgB (b.getD k 0)) n)\/(l<=k+1/\qiN w0 D (.slice A l cap) w e w' l p ((k:Int)+2)):=by
 have aB:=H.hl2;obtain ⟨ae,ai,af,ah,ab,ag,ad⟩:=X.cells;have am:=X.set3 ((k:Int)+1);have K:=(DK.refl D w).set 3 (.int .i64 ((k:Int)+1));have Z:=qfs H an am;rw [Qn ao] at Z;have M:=J9 (fun z x=>qgy H an (w:=z) (p:=p) (nd:=(k:Int)+2) (d:=d) (n:=n) x);obtain ⟨E,ak⟩:=N9 (sgB (b.getD k 0));rw [ak] at M |-;have J:=J9 (fun z (g:k+1<=l) x=>qdV H g (w:=z) (p:=p) (nd:=(k:Int)+2) (d:=E) (n:=n) x);obtain ⟨aA,ac⟩:=N9 ((b.getD (k+1) 0).toNat);rw [ac] at J |-;have K:=J9 K;clear H X am ac ao ak
 go_enter func188,ntmps188
 go_wp2_with fail
 refine Z.mono ?_;rintro e z ⟨rfl,g,h⟩;obtain ⟨ar,au,aw,ay,aq,ap,av⟩:=g.cells;have V:=M.o _ (show Dec w0 D (.slice A l cap) (z.setCell ⟨D,3,none⟩ (.int .i64 ((k:Int)+2))) k p ((k:Int)+2) d n from g.set3 ((k:Int)+2));have O:=J9 ((K.o.trans h).set 3 (.int .i64 ((k:Int)+2)));clear Z g h K M ae ai af ah ab ag ad
 go_wp2_with fail
 refine V.mono ?_;rintro e ax (⟨x,rfl,g,h⟩ | ⟨x,rfl,g,h⟩)
 ·obtain ⟨ae,ai,af,ah,ab,ag,ad⟩:=g.cells
  have U:=J.o _ x (show Dec w0 D (.slice A l cap) (ax.setCell ⟨D,4,none⟩ (.int .i64 E)) (k+1) p ((k:Int)+2) E n from g.set4 E);have aa:=J9 ((O.o.trans h).set 4 (.int .i64 E));clear V g h O J ar au aw ay aq ap av
  go_wp2_with fail
  refine U.mono ?_;rintro e az (⟨aj,rfl,y,G⟩ | ⟨aj,rfl,y,G⟩)
  ·have y:=J9 y
   have G:=J9 (aa.o.trans G);clear U aa;go_wp2;go_ret;exact .inl ⟨aj,rfl,y.o,G.o⟩
  ·clear U
   exact ⟨rfl,.inr ⟨by omega,rfl,y,aa.o.trans G⟩⟩
 ·clear V J
  exact ⟨rfl,.inr ⟨by omega,rfl,g,O.o.trans h⟩⟩
theorem qpA (b:Str) (A:Option Addr) (l cap:Nat) (w:World) :
  Calls prog 90 #[.slice A l cap] w fun y h=>y=.returned (.pointer (some ⟨w.heap.size,0,none⟩))/\Dec w w.heap.size (.slice A l cap) h 0 0 0 0 0/\Below w.heap.size w h:=by
 have e:Hid (Dec w w.heap.size (.slice A l cap) (w.alloc (.cells #[.slice A l cap,.int .i64 0,.int .i64 0,.int .i64 0,.int .i64 0,.int .i64 0] 204)) 0 0 0 0 0):=⟨World.alloc_heap_new w _,(B0 (w:=w))⟩
 go_enter func90,ntmps90
 go_wp2;go_ret;exact ⟨rfl,e.o,e.o.bel⟩
theorem qut (w:World):Calls prog 270 #[.string ⟨#[100]⟩,.string ⟨#[100]⟩] w fun h y=>h=.returned (.string ⟨#[]⟩)/\y=w:=by
 have e:=fun w=>qe3 ⟨#[100]⟩ ⟨#[100]⟩ (by decide) (by decide) w
 rw [show preB (⟨#[100]⟩:ByteArray) ⟨#[100]⟩=true from by decide +kernel] at e
 go_enter func270,ntmps270
 go_wp2_with fail
 refine (e w).mono ?_;rintro h y ⟨rfl,rfl⟩;clear e;go_wp2;go_ret;exact ⟨rfl,rfl⟩
theorem qrd (w:World):Calls prog 232 #[.string ⟨#[100]⟩,.string ⟨#[100]⟩] w fun e h=>e=.returned (.string ⟨#[]⟩)/\h=w:=by
 go_enter func232,ntmps232
 go_wp2_with fail
 refine (qut w).mono ?_;rintro e h ⟨rfl,rfl⟩;go_wp2;go_ret;exact ⟨rfl,rfl⟩
def qf8 (h:Int) (ex:Str):Str:=if 5<=h then [] else ex
theorem qyF {w:World} {e:Nat} {s2:Str} {j:Nat} (J:w.heap[e]?=some (.stringIter (sB s2) j)) (z:j<s2.length) (c:Nat) (E:s2[j].toNat=c) (K:c<128) :
  ∀ ty,(Instr.next (.pointer (some ⟨e,0,none⟩)) true ty).run prog w=.ok (.tuple #[.bool true,.int .i64 j,.int .i32 (c:Int)]) (w.iterAt e (sB s2) (j+1)):=fun ty=>by
 have h:j<(sB s2).size:=by rw [qaH];exact z
 have G:(sB s2)[j]=s2[j]:=qj4 s2 j h z;have y:((sB s2)[j]).toNat=c:=(congrArg UInt8.toNat G).trans E;rw [Lib.run_next_ascii_at w e (sB s2) j ty J h (by rw [y];exact K),y]
end Go.Proofs.YtjafbmfcedijmaaGreatDoor
namespace Go.Proofs.YtjafbmfcedijmaaGreatDoor
open Tryz
open Go.RowKit Go.Shelf
attribute [local go_sem] Oper.semAt_some
attribute [local irreducible] Go.Mixed.qD8
theorem qcb {w w1 w2:World} {n:Nat} {x:Ite} {A B:Option Addr} {c c2:Nat} (y:w.heap.size=n) (E:Below n w w1) (G:n<w1.heap.size) (z:qap w1 (n+1) (.slice A x.raw.length c) x.raw) (T:qah w1 (n+1) (.slice B x.C.length c2) x.C)
  (h:Below n w1 w2/\(∀ B u L,n<B->qah w1 B u L->qah w2 B u L)/\(∀ B u L,n<B->qap w1 B u L->qap w2 B u L)) :
  qt2 w x (.returned (.agg #[.int .i64 x.kind,.slice A x.raw.length c,.string (sB x.m),.slice B x.C.length c2,.bool x.al])) w2:=
 ⟨A,c,B,c2,rfl,by rw [y];exact (h.2.2 _ _ _ (by omega) z).lift (by omega),by rw [y];exact row_mono (h.2.1 _ _ _ (by omega) T) (by omega),by rw [y];exact E.trans h.1⟩
def itF (n:Nat) (kind:Int) (va:Value) (s:ByteArray) (vb:Value) (al:Bool):Fr.F:=⟨fun h=>qar h n kind va s vb al,fun w y=>w.all y⟩
def byF (A:Option Addr) (b:Str):Fr.F:=⟨fun h=>BytesAt h A b,fun w y=>w.below y⟩
def opF (A:Option Addr) (L:List Tr):Fr.F:=⟨fun h=>qaj h A L,fun w y=>w.below y⟩
theorem qgI {w w':World} {b B:Nat} {kind:Int} {va vb u:Value} {s:ByteArray} {al:Bool} {xs:Str} (O:qar w b kind va s vb al) (h:qap w B u xs) (k:∀ k,k≠b->w'.heap[k]?=w.heap[k]?):qap w' B u xs:=by
 refine ⟨h.1,?_⟩;rcases h.2 with K | ⟨e,E,z,G,y,g,J⟩
 ·exact .inl K
 ·refine .inr ⟨e,E,z,G,y,(k e (fun M=>?_)).trans g,J⟩
  subst M;rw [show w.heap[e]?=_ from O] at g;simp at g
theorem qar.put2 {w:World} {b:Nat} {kind:Int} {va vb:Value} {s:ByteArray} {al:Bool} (G:qar w b kind va s vb al) (y:ByteArray) (z:Value) :
  ∃ h,(w.setCell ⟨b,2,none⟩ (.string y)).setCell ⟨b,3,none⟩ z=h/\qar h b kind va y z al/\Below b w h/\∀ k,k≠b->h.heap[k]?=w.heap[k]?:=by
 refine ⟨_,rfl,?_,?_,fun k E=>?_⟩
 ·exact heap_setCell_same _ b 3 _ _ z (heap_setCell_same w b 2 _ _ (.string y) G)
 ·exact ((Qc b w).setCell (p:=⟨b,2,none⟩) (Qa _) _).setCell (p:=⟨b,3,none⟩) (Qa _) _
 ·exact (heap_setCell_other _ ⟨b,3,none⟩ k _ E).trans (heap_setCell_other _ ⟨b,2,none⟩ k _ E)
theorem qar.put4 {w:World} {b:Nat} {kind:Int} {va vb:Value} {s:ByteArray} {al:Bool} (E:qar w b kind va s vb al) (y:Bool) :
  ∃ h,w.setCell ⟨b,4,none⟩ (.bool y)=h/\qar h b kind va s vb y/\Below b w h/\∀ k,k≠b->h.heap[k]?=w.heap[k]?:=
 ⟨_,rfl,heap_setCell_same w b 4 _ _ _ E,(Qc b w).setCell (p:=⟨b,4,none⟩) (Qa _) _,fun k z=>heap_setCell_other _ ⟨b,4,none⟩ k _ z⟩
theorem qdF (b:Str) (c8:b≠[]) (A:Option Addr) (cap l:Nat) (bO:b.length=l) (c5:l<=cap) (cO:cap<=maxLen) (dv:l<=10000) (w:World) (H:BytesAt w A b) :
  Calls prog 56 #[.slice A l cap] w (qt2 w (itR b)):=by
 obtain ⟨o,bI⟩:=N9 (w.heap.size);have bi:=J9 bI;obtain ⟨bH,dR,av,cl,ds⟩:=qbY w o bI;have bw:=qlQ b c8 A cap l bO bH (H.below cl);have ag:=J9 (fun dn aA bp F g=>qmd dn b A cap l bO c5 cO aA bp dv F g);have aU:Hid (∀ F,Below o w F->BytesAt F A b):=fun F g=>H.below (by rw [bI];exact g)
 have av:=J9 av;have B0:Hid (Below o w bH):=by rw [<- bI];exact cl
 obtain ⟨bJ,bs,bq⟩:=qwS b;have bx:=J9 (@qxj b);have bu:=J9 (@qxU b);have b3:Hid (nxA b=if 5<=(pgA b).1 then 2 else (pgA b).2+1):=rfl;have bP:=J9 (fun aV aX i (U:ExP aV aX i) a7 g=>qAY (b:=b) U a7 g);have bN:=J9 (fun aV aX i (U:ExP aV aX i) a7 g=>qAN (b:=b) U a7 g);obtain ⟨⟨n,az⟩,co⟩:=N9 (pgA b);have a6:=J9 co;rw [co] at bw bJ bs bq;simp only at bw bJ bs bq;have z:=J9 bO;clear H cl co bO cO c5 c8
 go_enter func56,ntmps56
 go_wp2_with fail
 refine bw.mono ?_;rintro ad F ⟨rfl,c3⟩;rw [c3];clear bw c3;by_cases dc:l<=az
 ·have cR:hdB b=none:=bx.o (by rw [a6.o,z.o];exact dc)
  have aj:Hid (itR b=qbB 4 (b.take l)):=by show itR b=_;unfold itR;rw [cR,<- z.o,List.take_length]
  have L:=ag.o 4 l (Qa _) bH (aU.o _ B0.o);have p:Hid ((b.take l).length=l):=by show _=_;rw [QD,z.o];omega
  clear cR ag bx bu bP bN
  go_wp2_with fail
  refine L.mono ?_;rintro ad aO ⟨A1,Z,W,V,rfl,k,m,j⟩;rw [ds] at k m;have I1:=av.o.all j;have a0:=B0.o.trans (j.mono (by omega));simp only [qbB,QH] at k m |-;rw [p.o] at k |-;obtain ⟨w2,dX,K,J,aI,M,O,aN⟩:=I1.put 4 (.slice A1 l Z) (sB []) (.slice W 0 V) false;have s:=J9 (qcb (w:=w) (w2:=w2) (x:=qbB 4 (b.take l)) bi.o a0 I1.lt (by simp only [qbB];rw [p.o];exact k) m ⟨J,M,O⟩);obtain ⟨bm,aZ,a9,bo,bl,bh⟩:=I1.cells;obtain ⟨ao,al,am,ar,aq,bB⟩:=K.cells;simp only [qbB,QH] at s;rw [p.o] at s;clear L j k m a0 I1 K J aI M O aN B0 av;go_wp2;refine bodyPost_ret (v:=.agg #[.int .i64 4,.slice A1 l Z,.string (sB []),.slice W 0 V,.bool false]) ?_ rfl ?_
  ·simp [results,results56,go_sem,ao,al,am,ar,aq]
  ·rw [aj.o]
   exact s.o
 ·have be:az<l:=by omega
  have au:=bu.o (by rw [a6.o,z.o];exact be);have a8:=fun aV aX i (U:ExP aV aX i) a7=>bP.o aV aX i U a7 (by rw [a6.o,z.o];exact be)
  have bF:=b3.o;simp only [a6.o] at au a8 bF;have dt:az<b.length:=by rw [z.o];exact be
  obtain ⟨aC,aF,rfl,aE⟩:=(aU.o _ B0.o).cellAt dt;obtain ⟨y,ci⟩:=N9 (b[az]);rw [ci] at aE au;obtain ⟨rest,ch⟩:=N9 ((if 5<=n then b.getD 2 0 :: b.drop 4 else b.drop (az+1)));rw [ch] at au a8;have ab:=qrg n y.toNat y.toNat_lt bH;unfold qnC at ab;have dW:=J9 au;have E:Hid (itR b=match qaX n y.toNat with
   | none=>if rkindT n y.toNat=0 then qbB 2 (b.take 1) else qbB 3 (b.take 2)
   | some x=>if b.length<sizeT n x.2.2.1 then qbB 4 b else ⟨1,b.take (sizeT n x.2.2.1),x.1,(qaZ x.2.2.1 x.2.1 (qdb x.2.2.1 rest).1 (qdb x.2.2.1 rest).2).getD [],x.2.2.2⟩):=by
   show itR b=_;unfold itR;rw [au];try rfl
   try rfl
  have bp:=@qmN b n y rest au;have cg:=qqF au;have cj:=@qip n y.toNat y.toNat_lt;have cf:=@qte n y.toNat y.toNat_lt;cases U:qaX n y.toNat with
  | none=>
   rw [U] at ab E;simp only at ab E;obtain ⟨bR,c1⟩:=N9 (rkindT n y.toNat);have bz:=bp U;rw [c1] at ab E bz;have aH:Hid (bR=3->2<=l):=fun g=>by
    have bD:n=2:=by rcases bz with c9 | c9;omega;exact c9.2
    have:=cg.1;rw [bD,z.o] at this;exact this
   have dd:bR=0\/bR=3:=by rcases bz with g | g;exact .inl g;exact .inr g.1
   clear bp bz c1 U au cg cj cf a8 bx bu bP bN b3 bF bq bs bJ ch ci;unfold enV at ab
   go_wp2_with fail
   refine ab.mono ?_;rintro ad aO ⟨rfl,j⟩;have a0:=B0.o.trans (j.mono (by omega));have I1:=av.o.all j;have du:o<aO.heap.size:=I1.lt;clear ab j B0 av aE
   go_upto_region 5 with fail
   obtain ⟨wx,aY⟩:=N9 (aO.alloc (.cells #[.int .i64 0,.int .u8 0,.string (sB []),.slice none 0 0,.string (sB []),.bool false] 66));have aR:Below aO.heap.size aO wx:=(by rw [<- aY];exact qaG _ _);have aB:=J9 (I1.all aR);have af:=J9 (a0.trans (aR.mono (by omega)));have aK:Hid (o+1<=wx.heap.size):=(by have:=aR.size;show _<=_;omega);rw [aY];clear aY a0 I1 du aR;rcases dd with rfl | rfl
   ·have L:=ag.o 2 1 (by omega) wx (aU.o _ af.o)
    have aj:Hid (itR b=qbB 2 (b.take 1)):=(by show itR b=_;rw [E.o,Qk rfl]);have p:Hid ((b.take 1).length=1):=(by show _=_;rw [QD,z.o];omega);clear ag E
    go_wp2_with fail
    refine L.mono ?_;rintro ad w2 ⟨A1,Z,W,V,rfl,k,m,j⟩;have I2:=aB.o.all j;have ay:Below o w w2:=af.o.trans (j.mono (by have:=aK.o;omega));have k:=k.lift aK.o;have m:=row_mono m aK.o;simp only [qbB,QH] at k m |-;rw [p.o] at k |-;obtain ⟨an,bk,K,J,aI,M,O,aN⟩:=I2.put 2 (.slice A1 1 Z) (sB []) (.slice W 0 V) false;have s:=J9 (qcb (w:=w) (w2:=an) (x:=qbB 2 (b.take 1)) bi.o ay I2.lt (by simp only [qbB];rw [p.o];exact k) m ⟨J,M,O⟩);obtain ⟨bm,aZ,a9,bo,bl,bh⟩:=I2.cells;obtain ⟨ao,al,am,ar,aq,bB⟩:=K.cells;simp only [qbB,QH] at s;rw [p.o] at s;clear L j k m ay I2 K J aI M O aN af aB;go_wp2;refine bodyPost_ret (v:=.agg #[.int .i64 2,.slice A1 1 Z,.string (sB []),.slice W 0 V,.bool false]) ?_ rfl ?_
    ·simp [results,results56,go_sem,ao,al,am,ar,aq]
    ·rw [aj.o]
     exact s.o
   ·have L:=ag.o 3 2 (aH.o rfl) wx (aU.o _ af.o)
    have aj:Hid (itR b=qbB 3 (b.take 2)):=(by show itR b=_;rw [E.o,Qd (by decide)]);have p:Hid ((b.take 2).length=2):=(by show _=_;rw [QD,z.o];have:=aH.o rfl;omega);clear ag E
    go_wp2_with fail
    refine L.mono ?_;rintro ad w2 ⟨A1,Z,W,V,rfl,k,m,j⟩;have I2:=aB.o.all j;have ay:Below o w w2:=af.o.trans (j.mono (by have:=aK.o;omega));have k:=k.lift aK.o;have m:=row_mono m aK.o;simp only [qbB,QH] at k m |-;rw [p.o] at k |-;obtain ⟨an,bk,K,J,aI,M,O,aN⟩:=I2.put 3 (.slice A1 2 Z) (sB []) (.slice W 0 V) false;have s:=J9 (qcb (w:=w) (w2:=an) (x:=qbB 3 (b.take 2)) bi.o ay I2.lt (by simp only [qbB];rw [p.o];exact k) m ⟨J,M,O⟩);obtain ⟨bm,aZ,a9,bo,bl,bh⟩:=I2.cells;obtain ⟨ao,al,am,ar,aq,bB⟩:=K.cells;simp only [qbB,QH] at s;rw [p.o] at s;clear L j k m ay I2 K J aI M O aN af aB;go_wp2;refine bodyPost_ret (v:=.agg #[.int .i64 3,.slice A1 2 Z,.string (sB []),.slice W 0 V,.bool false]) ?_ rfl ?_
    ·simp [results,results56,go_sem,ao,al,am,ar,aq]
    ·rw [aj.o]
     exact s.o
  | some x=>
   obtain ⟨ah,aT,i,ap⟩:=x;rw [U] at ab E;simp only at ab E;have aP:=cj U;have cp:=cf U;have cr:qcU (n,(y.toNat:Int),ah,aT,i,ap):=⟨y.toNat,y.toNat_lt,rfl,U⟩;have ok:=cr.ok;have cu:=ok.ex;have cD:=ok.len;have bG:=ok.places;simp only at cu cD bG aP cp;obtain ⟨bb,bQ⟩:=qm6 aP cp (qm5 aP rest);have bA:=a8 n y.toNat i aP rfl;have aJ:=(fun bf=>bN.o n y.toNat i aP (by rw [a6.o]) bf);have bY:=qzz aP;rw [bQ,Option.getD_some] at E;obtain ⟨h,bS⟩:=N9 (nxA b);have cm:h<=4/\(if 5<=n then (2:Nat) else az+1)=h:=by rw [<- bS,bF];split <;> omega
   rw [bS] at bA aJ;obtain ⟨G,cS⟩:=N9 (sizeT n i);rw [cS] at E aJ bY;have aH:=J9 (fun A o cap F=>qsA n (y.toNat:Int) ah A o cap i (by omega) ap F);rw [bY] at aH;obtain ⟨c0,cx⟩:=N9 (qdb i rest);rw [cx] at bA bQ;have aw:=J9 (fun A cap F g=>qr0 n (y.toNat:Int) ah A cap aT.length aT rfl (by omega) i (by omega) ap c0.1 c0.2 F g);rw [qrn bG,bQ] at aw;unfold qbb at aw;simp only at aw;have bv:=J9 bA;have bU:=J9 aJ;have dS:1<=G/\G<=4:=(by have:=(qhd cr 0 0).2;simp only at this;omega);unfold enV at ab aH aw;clear bp U au cg cj cf a8 bx bu bP bN b3 cr ok aP cp bQ bA aJ bY bS cx ch ci cS bG bF bq bs bJ
   go_wp2_with fail
   refine ab.mono ?_;rintro ad aO ⟨⟨v,rfl,cU⟩,j⟩;obtain ⟨A1,Z,rfl,cW,-⟩:=cU.ops;have da:Hid (Fr.St aO [opF A1 aT,itF o 0 (.slice none 0 0) ⟨#[]⟩ (.slice none 0 0) false,byF (some ⟨aC,aF,none⟩) b,Fr.bel o w]):=
    ⟨cW,av.o.all j,(aU.o _ B0.o).below j,⟨B0.o.trans (j.mono (by omega)),by have:=j.size;show o<=_;omega⟩,trivial⟩
   clear ab j B0 av aE cU cW aU
   go_upto_region 5 with fail
   obtain ⟨d8,wx,di,aY,b1,aR,aK⟩:=Fr.box da #[.int .i64 n,.int .u8 (y.toNat:Int),.string (sB ah),.slice A1 aT.length Z,.string (sB i),.bool ap] 66;rw [aY,di];clear aY da aR;obtain ⟨bn,a3,bg,bc,a5,a2⟩:=Fr.qEL b1.o.1
   go_wp2_with fail
   refine (aH.o A1 aT.length Z wx).mono ?_;rintro ad aW ⟨rfl,j⟩;have C:=Fr.up b1 j;clear aH b1 j bn a3 bg bc a5 a2;by_cases bf:l<G
   ·have dk:(G:Int) > (l:Int):=by omega
    have L:=ag.o 4 l (Qa _) aW C.o.2.2.2.1;have aj:Hid (itR b=qbB 4 (b.take l)):=(by show itR b=_;rw [E.o,Qk (by rw [z.o];exact bf),<- z.o,List.take_length]);have p:Hid ((b.take l).length=l):=(by show _=_;rw [QD,z.o];omega);have af:=C.o.2.2.2.2.1;have aB:=J9 C.o.2.2.1;have bK:o+1<=aW.heap.size:=aB.o.lt;clear ag E C aw bv bU
    go_wp2_with fail
    refine L.mono ?_;rintro ad w2 ⟨aL,aM,W,V,rfl,k,m,j⟩;have I2:qar w2 o _ _ _ _ _:=aB.o.all j;have ay:=af.1.trans (j.mono af.2);have k:=k.lift bK;have m:=row_mono m bK;simp only [qbB,QH] at k m |-;rw [p.o] at k |-;obtain ⟨an,bk,K,J,aI,M,O,aN⟩:=I2.put 4 (.slice aL l aM) (sB []) (.slice W 0 V) false;have s:=J9 (qcb (w:=w) (w2:=an) (x:=qbB 4 (b.take l)) bi.o ay I2.lt (by simp only [qbB];rw [p.o];exact k) m ⟨J,M,O⟩);obtain ⟨bm,aZ,a9,bo,bl,bh⟩:=I2.cells;obtain ⟨ao,al,am,ar,aq,bB⟩:=K.cells;simp only [qbB,QH] at s;rw [p.o] at s;clear L j k m ay I2 K J aI M O aN af aB;go_wp2;refine bodyPost_ret (v:=.agg #[.int .i64 4,.slice aL l aM,.string (sB []),.slice W 0 V,.bool false]) ?_ rfl ?_
    ·simp [results,results56,go_sem,ao,al,am,ar,aq]
    ·rw [aj.o]
     exact s.o
   ·have dk:¬((G:Int) > (l:Int)):=by omega
    have aJ:=bU.o (by rw [z.o];omega);have cZ:=J9 aJ;have aj:Hid (itR b=⟨1,b.take G,ah,bb,ap⟩):=(by show itR b=_;rw [E.o,Qd (by rw [z.o];exact bf)]);obtain ⟨ax,bC⟩:=N9 (sB i);have dw:ax.size=i.length:=(by rw [<- bC,qaH]);have b4:Hid (∀ aA (g:aA<ax.size) (cL:aA<i.length),ax[aA]=i[aA]):=fun aA g cL=>by subst bC;exact qj4 i aA g cL
    obtain ⟨bt,bE⟩:=N9 (i.length);rw [bE] at dw cu;have db:=J9 bE;rw [bC] at C aw;rw [bE] at bv;clear aJ bU E bE bC;have b0:Hid ((5<=n->(h:Int)=2)/\(¬5<=n->(h:Int)=(az:Int)+1)):=by
     refine ⟨fun g=>?_,fun g=>?_⟩
     ·have:=cm.2;rw [Qk g] at this;omega
     ·have:=cm.2;rw [Qd g] at this;omega
    by_cases bZ:5<=n
    case' pos=>
     have ck:Hid ((h:Int)=2):=b0.o.1 bZ
     go_upto_region 18 with fail
    case' neg=>
     have ck:Hid ((h:Int)=(az:Int)+1):=b0.o.2 bZ
     go_upto_region 18 with fail
    all_goals clear b0 bZ cm bf
    all_goals
     go_wp2
     go_loopw [8,9,10,11] (fun dh vn dr b9 wr=>∃ e:Nat,e<=bt/\b9=.int .i64 e/\dr=.int .i64 ((h+e:Nat):Int)/\dh=.int .i64 (stJ i b h e).1/\vn=.int .i64 (stJ i b h e).2/\Hid (Below aW.heap.size aW wr)) (fun _ _ _ b9 _=>bt - (intOf b9).toNat)
     case atStart=>exact ⟨0,Qs _,rfl,by have:=ck.o;simp;omega,rfl,rfl,Qc _ _⟩
     case round=>
      obtain ⟨e,d2,rfl,rfl,rfl,rfl,aS⟩:=hrel;have C:=Fr.up C aS.o;obtain ⟨bn,a3,bg,bc,a5,a2⟩:=Fr.qEL C.o.1;by_cases be:e<bt
      ·have b6:e<i.length:=by rw [db.o];exact be
       have df:e<ax.size:=(by omega);obtain ⟨b8,aQ,c6⟩:=cZ.o e b6;have ai:=b4.o e df b6;obtain ⟨dj,dm,a1,aE⟩:=(show BytesAt wr (some ⟨aC,aF,none⟩) b from C.o.2.2.2.1).cellAt b8;simp only [Qz,Addr.mk.injEq] at a1;obtain ⟨rfl,rfl,-⟩:=a1;have ae:stJ i b h (e+1)=qa1 i[e] (b.drop (h+e)) (stJ i b h e):=by
        show qa1 (i.getD e 0) _ _=_;rw [Qo,Qi b6];rfl
       have ak:(b.drop (h+e)).getD 0 0=b[h+e]:=(by rw [getD_drop,Nat.add_zero,Qo,Qi b8];rfl);have j:h+e<l:=(by rw [<- z.o];exact b8);obtain ⟨aa,c2⟩:=N9 (b[h+e]);rw [c2] at aE ak;have ea:=aa.toNat_lt;have aD:=qmy (aa.toNat:Int) (by omega) (by omega) wr;rw [show qtE (aa.toNat:Int)=sgB aa from rfl] at aD;obtain ⟨d4,cH⟩:=N9 (i[e]);rw [cH] at ai aQ c6 ae;obtain ⟨⟨bX,dg⟩,cM⟩:=N9 (stJ i b h e);rw [cM] at ae |-;simp only;clear c2 cH cM b4;rcases c6 with rfl | rfl | rfl | rfl
       ·have ce:(ax[e].toNat:Int)=100:=by rw [ai];rfl
        have ac:Hid (stJ i b h (e+1)=(sgB aa,dg)):=(by show _=_;rw [ae];unfold qa1;rw [Qk rfl,ak]);clear ai aQ ae ak
        go_wp2_with fail
        refine aD.mono ?_;rintro ad F ⟨rfl,rfl⟩;clear aD;go_wp2;go_roundw
        case rel=>exact ⟨e+1,by omega,by go_num,by go_num,by rw [ac.o],by rw [ac.o],aS⟩
        case measure=>simp [intOf];omega
       ·have ce:(ax[e].toNat:Int)=101:=by rw [ai];rfl
        have ac:Hid (stJ i b h (e+1)=(bX,sgB aa)):=(by show _=_;rw [ae];unfold qa1;rw [Qd (by decide),Qk rfl,ak]);clear ai aQ ae ak
        go_wp2_with fail
        refine aD.mono ?_;rintro ad F ⟨rfl,rfl⟩;clear aD;go_wp2;go_roundw
        case rel=>exact ⟨e+1,by omega,by go_num,by go_num,by rw [ac.o],by rw [ac.o],aS⟩
        case measure=>simp [intOf];omega
       ·have ce:(ax[e].toNat:Int)=110:=by rw [ai];rfl
        have ac:Hid (stJ i b h (e+1)=(bX,(aa.toNat:Int))):=(by show _=_;rw [ae];unfold qa1;rw [Qd (by decide),Qd (by decide),Qk rfl,ak]);clear ai aQ ae ak aD;go_wp2;go_roundw
        case rel=>exact ⟨e+1,by omega,by go_num,by go_num,by rw [ac.o],by rw [ac.o],aS⟩
        case measure=>simp [intOf];omega
       ·have ce:(ax[e].toNat:Int)=119:=by rw [ai];rfl
        have ct:=aQ rfl;obtain ⟨dj,dm,a1,cc⟩:=(show BytesAt wr (some ⟨aC,aF,none⟩) b from C.o.2.2.2.1).cellAt ct;simp only [Qz,Addr.mk.injEq] at a1;obtain ⟨rfl,rfl,-⟩:=a1;have dA:h+e+1<l:=(by rw [<- z.o];exact ct);have cv:(b.drop (h+e)).getD 1 0=b[h+e+1]:=(by rw [getD_drop,Qo,Qi ct];rfl);obtain ⟨aG,cz⟩:=N9 (b[h+e+1]);rw [cz] at cc cv;have dN:=aG.toNat_lt;have ac:Hid (stJ i b h (e+1)=(bX,(aa.toNat:Int)+256*(aG.toNat:Int))):=(by show _=_;rw [ae];unfold qa1;rw [Qd (by decide),Qd (by decide),Qd (by decide),Qk rfl,ak,cv]);clear ai aQ ae ak cv aD cz;obtain ⟨an,bk⟩:=N9 (wr.drew);have de:Hid (Below aW.heap.size aW an):=aS.o.trans ((show Below wr.heap.size wr an by rw [<- bk];exact below_drewN wr _ 1).mono aS.o.size)
        go_upto_region 29 with fail
        refine Mixed.qD5 (fun F=>F.cell? ⟨aC,aF+(h+e),none⟩=some (.int .u8 (aa.toNat:Int))/\F.cell? ⟨aC,aF+(h+e+1),none⟩=some (.int .u8 (aG.toNat:Int))) 13 [(0,true),(1,true),(2,true),(3,true),(4,true),(5,true),(6,true),(7,true),(8,true),(9,true),(10,true),(11,true),(12,true)] (by kernel_rfl) (by kernel_rfl) ⟨aE,cc⟩ ?_;clear C bn a3 bg bc a5 a2 aE cc;refine Mixed.qD7 rfl (by kernel_rfl) _ rfl _ rfl ?_;refine Mixed.qD7 rfl (by kernel_rfl) _ rfl _ rfl ?_;refine Mixed.mo rfl (.pointer (some ⟨aC,aF+(h+e),none⟩)) (fun w g=>by clear g;go_simp;rw [Qk (by omega),show ((h:Int)+(e:Int)).toNat=h+e from by omega]) ?_;refine Mixed.mo rfl (.int .u8 (aa.toNat:Int)) (fun w g=>by obtain ⟨c4,bD⟩:=g;go_simp;try rfl) ?_;refine Mixed.mo rfl (.int .i64 (aa.toNat:Int)) (fun w g=>by clear g;go_simp;rw [IntKind.wrap_i64];omega) ?_;refine Mixed.qD7 rfl (by kernel_rfl) _ rfl _ rfl ?_;refine Mixed.qD7 rfl (by kernel_rfl) _ rfl _ rfl ?_;refine Mixed.mo rfl (.int .i64 ((h+e+1:Nat):Int)) (fun w g=>by clear g;go_simp;rw [IntKind.wrap_i64];omega) ?_;refine Mixed.mo rfl (.pointer (some ⟨aC,aF+(h+e+1),none⟩)) (fun w g=>by clear g;go_simp;rw [Qk (by omega),show ((h:Int)+(e:Int)+1).toNat=h+e+1 from by omega]) ?_;refine Mixed.mo rfl (.int .u8 (aG.toNat:Int)) (fun w g=>by obtain ⟨c4,bD⟩:=g;go_simp;try rfl) ?_;refine Mixed.mo rfl (.int .i64 (aG.toNat:Int)) (fun w g=>by clear g;go_simp;rw [IntKind.wrap_i64];omega) ?_;refine Mixed.mo rfl (.int .i64 (256*(aG.toNat:Int))) (fun w g=>by clear g;go_simp;rw [IntKind.wrap_i64];omega) ?_;refine Mixed.mo rfl (.int .i64 ((aa.toNat:Int)+256*(aG.toNat:Int))) (fun w g=>by clear g;go_simp;rw [IntKind.wrap_i64];omega) ?_;simp only [Mixed.qD8,Qq,Qy];go_wp2;go_roundw
        case rel=>exact ⟨e+1,by omega,by go_num,by go_num,by rw [ac.o],by rw [ac.o],de⟩
        case measure=>simp [intOf];omega
      ·obtain rfl:e=bt:=by omega
       have cy:=bv.o;have L:=ag.o 1 G (by omega) wr C.o.2.2.2.1;have p:Hid ((b.take G).length=G):=(by show _=_;rw [QD,z.o];omega);have dl:=C.o.2.2.2.2.1;have bK:o+1<=wr.heap.size:=(show qar wr o _ _ _ _ _ from C.o.2.2.1).lt;rw [cy];clear cZ b4 bv cy ag ck
       go_upto_region 31 with fail
       go_wp2_with fail
       refine L.mono ?_;rintro ad w2 ⟨aL,aM,W,V,rfl,k,m,j⟩;have bd:=Fr.up C j;simp only [qbB,QH] at k m |-;rw [p.o] at k |-;obtain ⟨ca,bM⟩:=N9 (w2.heap.size);obtain ⟨an,bk,I3,cq,dL⟩:=qbY w2 ca bM;obtain ⟨bL,dy,I4,cV,dF,-,-,cK⟩:=I3.put 1 (.slice aL G aM) (sB []) (.slice W 0 V) false;have cC:=J9 (qgI I3 (qap.below k cq) cK);have a4:Below w2.heap.size w2 bL:=cq.trans (by rw [bM];exact cV);have b7:=Fr.up bd a4;have cY:=aw.o A1 Z bL b7.o.2.1;obtain ⟨bm,aZ,a9,bo,bl,bh⟩:=I3.cells;obtain ⟨bn,a3,bg,bc,a5,a2⟩:=Fr.qEL b7.o.1;have I4:=J9 I4;have a4:=J9 a4;clear aw C L j k m I3 cq cV cK b7
       go_wp2_with fail
       refine cY.mono ?_;rintro ad cJ ⟨v,rfl,cw,br⟩;obtain ⟨b5,bW,rfl,-,-⟩:=cw.ops;have I5:qar cJ ca _ _ _ _ _:=I4.o.all br;have c7:=qap.below cC.o br;have cF:Below ca bL cJ:=br.mono (by omega);obtain ⟨dq,dK,I6,cN,b2⟩:=I5.put2 (sB ah) (.slice b5 bb.length bW);have cB:=qgI I5 c7 b2;have cP:=qer I5 cw b2;have bT:Below w2.heap.size w2 dq:=a4.o.trans (by rw [bM];exact cF.trans cN);have cG:=Fr.up bd bT;obtain ⟨cd,dz,cE,cI,cn⟩:=I6.put4 ap;have cA:=qgI I6 cB cn;have cT:=qer I6 cP cn;have cQ:Below w2.heap.size w2 cd:=bT.trans (by rw [bM];exact cI);have bV:=Fr.up bd cQ;have bj:qar cd o _ _ _ _ _:=bV.o.2.2.1;obtain ⟨dp,d5,K,J,-,M,O,-⟩:=bj.put 1 (.slice aL G aM) (sB ah) (.slice b5 bb.length bW) ap;have cX:o+1<=bL.heap.size:=by
        have c4:=dl.1.size;have bD:=I4.o.lt;have dG:=bj.lt;have dx:=(show qar w2 o _ _ _ _ _ from bd.o.2.2.1).lt;omega
       have s:=J9 (qcb (w:=w) (w2:=dp) (x:=⟨1,b.take G,ah,bb,ap⟩) bi.o bV.o.2.2.2.2.1.1 bj.lt (by show qap cd (o+1) (.slice aL (b.take G).length aM) _;rw [p.o];exact cA.lift bK) (row_mono cT cX) ⟨J,M,O⟩);obtain ⟨dP,cu,cD,bG,dM,dZ⟩:=I5.cells;obtain ⟨dJ,dT,dD,d0,d1,dY⟩:=I6.cells;obtain ⟨d3,dO,d6,dI,dQ,dE⟩:=cE.cells;obtain ⟨d7,dV,d9,dC,dB,dH⟩:=bj.cells;obtain ⟨ao,al,am,ar,aq,bB⟩:=K.cells;obtain ⟨-,-,-,-,-,dU⟩:=Fr.qEL cG.o.1;simp only [] at s;rw [p.o] at s;clear cY cw br I5 c7 cF I6 cN b2 cB cP bT cG cE cI cn cA cT cQ bV bj K J M O bm aZ a9 bo bl bh bn a3 bg bc a5 a2 cC a4 I4 bd cX p;go_wp2;refine bodyPost_ret (v:=.agg #[.int .i64 1,.slice aL G aM,.string (sB ah),.slice b5 bb.length bW,.bool ap]) ?_ rfl ?_
       ·simp [results,results56,go_sem,ao,al,am,ar,aq]
       ·rw [aj.o]
        exact s.o
end Go.Proofs.YtjafbmfcedijmaaGreatDoor
namespace Go.Proofs.YtjafbmfcedijmaaGreatDoor
open Tryz
open Go.RowKit Go.Shelf
attribute [local go_sem] Oper.semAt_some
attribute [local irreducible] Go.Mixed.qEd
section
variable {w0 w w':World} {D:Nat} {S:Value} {k:Nat} {p nd d n:Int}
end
theorem qDD {g:Int} {i:Nat} {ex:Str} (y:ExP g i ex):(qf8 g ex).length<=2/\∀ k (h:k<(qf8 g ex).length),(qf8 g ex)[k]=100\/(qf8 g ex)[k]=101\/(qf8 g ex)[k]=110\/(qf8 g ex)[k]=119:=by
 unfold qf8;by_cases z:5<=g
 ·rw [Qk z]
  exact ⟨Qs _,fun k h=>absurd h (Nat.not_lt_zero _)⟩
 ·rw [Qd z]
  exact ⟨qwv y,fun k h=>qz0 y h⟩
theorem qwj {w0 w1:World} {D:Nat} {b:Str} {S:Value} {l:Nat} {s2:Str} {k:Nat} {p h:Int} {s0:Int×Int} (X:Dec w0 D S w1 k p h s0.1 s0.2) (z:k<=l):DL w0 w1 (w1.iter (sB s2) 0) D b S l w1.heap.size s2 k p h s0 0:=by
 have y:Below w1.heap.size w1 (w1.iter (sB s2) 0):=(B0 (w:=w1));exact ⟨Qs _,World.iter_heap _ _ _,X.all y,z,DK.of_below y⟩
theorem qr3 {w0 wr w:World} {D:Nat} {S:Value} {k:Nat} {p nd d n:Int} {c B:Nat} {ab U u:Value} {C:List Tr} (X:Dec w0 D S w k p nd d n) (y:DK D wr w) (ac:D<wr.heap.size) (J:w.heap[c]?=some (.cells #[ab,U] 24 (0,0))) (ad:wr.heap.size<=c) (z:qah w B u C) (x:Value) :
  ∃ b,(w.setCell ⟨c,0,none⟩ x).setCell ⟨c,1,none⟩ u=b/\b.heap[c]?=some (.cells #[x,u] 24 (0,0))/\qah b B u C/\Dec w0 D S b k p nd d n/\DK D wr b:=by
 have g:∀ k,k≠c->((w.setCell ⟨c,0,none⟩ x).setCell ⟨c,1,none⟩ u).heap[k]?=w.heap[k]?:=fun k e=>(heap_setCell_other _ ⟨c,1,none⟩ k _ e).trans (heap_setCell_other _ ⟨c,0,none⟩ k _ e)
 have E:Below c w ((w.setCell ⟨c,0,none⟩ x).setCell ⟨c,1,none⟩ u):=((Qc c w).setCell (p:=⟨c,0,none⟩) (Qa _) _).setCell (p:=⟨c,1,none⟩) (Qa _) _;refine ⟨_,rfl,heap_setCell_same _ c 1 _ _ u (heap_setCell_same w c 0 _ _ x J),⟨z.1,?_⟩,⟨(g D (by omega)).trans X.blk,X.bel.trans (E.mono (by omega))⟩,⟨Qm y.size E.size,fun k e Z=>(g k (by omega)).trans (y.same k e Z)⟩⟩;rcases z.2 with s | ⟨G,O,M,aa,V,h,K⟩
 ·exact .inl s
 ·refine .inr ⟨G,O,M,aa,V,(g G (fun s=>?_)).trans h,K⟩
  subst s;rw [J] at h;simp at h
def qvR (w0:World) (D:Nat) (S:Value) (b:Str) (l:Nat) (w:World) (k:Nat) (p h:Int) (s2:Str) (m:Str) (C:List Tr) (al:Bool) (e:Ending) (w':World):Prop:=
 (k+qc8 s2 s2.length<=l/\(∃ n d,e=.returned (.agg #[.int .i64 1,.slice none 0 0,.string (sB m),.slice n C.length d,.bool al])/\qah w' w.heap.size (.slice n C.length d) C)/\(∃ y z,Dec w0 D S w' (k+qc8 s2 s2.length) p h y z)/\DK D w w')\/
 (l<k+qc8 s2 s2.length/\qiN w0 D S w e w' l p h)
theorem qpT {w0:World} {D:Nat} {b:Str} {A:Option Addr} {l cap:Nat} (H:DH w0 D b A l cap) {w:World} {k:Nat} (az:k<=l) {p nd d n:Int} (X:Dec w0 D (.slice A l cap) w k p nd d n)
  {i:Nat} {ex:Str} (ar:ExP p i ex) (Z:Int) (m:Str) (cJ:m.length<=1000) (cj:upB (sB m)=sB m) (O:Option Addr) (F M:Nat) (L:List Tr) (bD:L.length=F) (cW:F<=1000) (al:Bool) (B:Nat) (ce:D<B) (bK:qah w B (.slice O F M) L)
  (C:List Tr) (bm:k+qc8 (qf8 p ex) (qf8 p ex).length<=l->qaZ ex L (mS (d,n) (qf8 p ex) b k (qf8 p ex).length).1 (mS (d,n) (qf8 p ex) b k (qf8 p ex).length).2=some C) :
  Calls prog 189 #[.pointer (some ⟨D,0,none⟩),enV p Z m (.slice O F M) ex al] w (qvR w0 D (.slice A l cap) b l w k p (sizeT p ex:Nat) (qf8 p ex) m C al):=by
 have cP:=qwv ar;have ao:=fun w=>qvQ p Z m O F M ex (by omega) al w
 have a8:=J9 (fun d cD w e=>qnl p Z m cJ O M F L bD cW ex (by omega) al d cD w e);obtain ⟨R,bY⟩:=N9 (sizeT p ex);rw [bY] at ao |-;have ck:=J9 ar;obtain ⟨cZ,c9⟩:=ar.pg;obtain ⟨s2,bx,c5,bL,bm⟩:∃ s2,qf8 p ex=s2/\s2.length<=2/\(∀ k (az:k<s2.length),s2[k]=100\/s2[k]=101\/s2[k]=110\/s2[k]=119)/\(k+qc8 s2 s2.length<=l->qaZ ex L (mS (d,n) s2 b k s2.length).1 (mS (d,n) s2 b k s2.length).2=some C):=⟨_,rfl,(qDD ar).1,(qDD ar).2,bm⟩;rw [bx];have bH:=J9 bL;have b5:=J9 bx;have bM:Hid (5<=p->ex=[100]):=ar.hi;have b3:=J9 (fun w k az p nd d n X c bC=>qu0 H (w:=w) (k:=k) az (p:=p) (nd:=nd) (d:=d) (n:=n) X (c:=c) bC);have bO:=J9 (fun w X=>qfs H az (w:=w) (p:=p) (nd:=(R:Int)) (d:=d) (n:=n) X)
 -- the two boxes
 obtain ⟨E,a3⟩:=N9 (w.heap.size);obtain ⟨bj,aZ⟩:=N9 (w.alloc (.cells #[.int .i64 p,.int .u8 Z,.string (sB m),.slice O F M,.string (sB ex),.bool al] 163));have a0:Below w.heap.size w bj:=by rw [<- aZ];exact qaG _ _
 have aT:bj.heap[E]?=some (.cells #[.int .i64 p,.int .u8 Z,.string (sB m),.slice O F M,.string (sB ex),.bool al] 163 (0,0)):=by rw [<- aZ,<- a3];exact World.alloc_heap_new w _
 have cn:bj.heap.size=E+1:=by rw [<- aZ,<- a3];simp
 obtain ⟨bd,de,a4,aN,dc⟩:=qbY bj (E+1) cn;have aY:=(X.all a0).all aN;have bP:=J9 ((bK.below a0).below aN);have b1:=J9 ((DK.of_below (D:=D) a0).trans (DK.of_below aN));have ad:bd.heap[E]?=some (.cells #[.int .i64 p,.int .u8 Z,.string (sB m),.slice O F M,.string (sB ex),.bool al] 163 (0,0)):=(aN.block E (by omega)).trans aT;have dl:D<E:=by rw [<- a3];exact X.lt
 have bR:=J9 ad;have a4:=J9 a4;have cY:=C9 ad 0;have ci:=C9 ad 1;have cO:=C9 ad 2;have cm:=C9 ad 3;have au:=C9 ad 4;have cL:=C9 ad 5;have ao:=ao bd;unfold enV at ao a8 |-;have aY:=J9 aY;have cX:=J9 a3;have dg:=J9 bD;have ca:=J9 bm;have cp:=J9 az;have ay:Hid (∀ K,DK D bd K->K.heap[E]?=some (.cells #[.int .i64 p,.int .u8 Z,.string (sB m),.slice O F M,.string (sB ex),.bool al] 163 (0,0))/\qar K (E+1) 0 (.slice none 0 0) ⟨#[]⟩ (.slice none 0 0) false/\qah K B (.slice O F M) L/\DK D w K):=fun K ak=>
  ⟨ak.blk bR.o (by omega),ak.blk a4.o (by omega),bP.o.dk ce ak,b1.o.trans ak⟩
 obtain ⟨aP,bp⟩:=N9 (sB ex);have bh:=J9 bp;rw [bp] at ao a8 ay aZ au |-;clear H X bK a0 aT aN ad ar bY bx bL bm bD cP bR a4 bP b1 bp
 go_enter func189,ntmps189
 go_wp2_with fail
 refine ao.mono ?_;rintro U cc ⟨rfl,J⟩;have bG:=aY.o.all J;obtain ⟨cT,ch,cF,cv,co,cg,cr⟩:=bG.cells;have bz:=J9 (bG.set3 R);have aK:Hid (DK D bd (cc.setCell ⟨D,3,none⟩ (.int .i64 (R:Int)))):=(DK.of_below J).set 3 _;clear ao J bG aY cY ci cO cm au cL
 go_upto_region 2 with fail
 obtain ⟨w2,b4⟩:=N9 (cc.setCell ⟨D,3,none⟩ (.int .i64 (R:Int)));rw [b4] at bz aK |-;clear b4 cT ch cF cv co cg cr;obtain ⟨b2,-,-,-⟩:=ay.o w2 aK.o;have au:=C9 b2 4;have aJ:=bO.o w2 bz.o;have bb:Hid ((5<=p->s2=[])/\(¬5<=p->s2=ex)):=by rw [<- b5.o];unfold qf8;exact ⟨fun e=>Qk e,fun e=>Qd e⟩
 clear b2 bO bz;by_cases bs:p=5\/p=6
 case' pos=>
  have bA:w2.cell? ⟨E,4,none⟩=some (.string ⟨#[100]⟩):=by rw [au];show some (Value.string aP)=_;rw [<- bh.o,bM.o (by omega)];rfl
  have bZ:=J9 (bb.o.1 (by omega));rw [Qn bs] at aJ;clear au bb bh
  go_wp2_with fail
  refine aJ.mono ?_;rintro U bf ⟨rfl,h,z⟩;have a1:=h;have bF:=J9 (aK.o.trans z);clear h z aK aJ
  go_wp2_with fail
  refine (qrd bf).mono ?_;rintro U aa ⟨rfl,b7⟩;rw [b7];clear b7
  go_upto_region 5 with fail
  rw [show (⟨#[]⟩:ByteArray)=sB s2 from by rw [bZ.o];rfl];clear bZ bA
 case' neg=>
  have bA:w2.cell? ⟨E,4,none⟩=some (.string (sB s2)):=by rw [au];show some (Value.string aP)=_;rw [<- bh.o,bb.o.2 (by omega)]
  rw [Qf bs] at aJ;clear au bb bh
  go_wp2_with fail
  refine aJ.mono ?_;rintro U bf ⟨rfl,h,z⟩;have a1:=h;have bF:=J9 (aK.o.trans z);clear h z aK aJ
  go_upto_region 5 with fail
  clear bA
 all_goals
  clear bs ck b5 bM;have bv:=J9 (qwj (b:=b) (s2:=s2) (s0:=(d,n)) a1 cp.o);obtain ⟨aF,bu⟩:=N9 (bf.heap.size);rw [bu] at bv;have cd:=J9 (Nat.le_of_eq bu);have b9:D<aF:=by rw [<- bu];exact a1.lt
  clear a1;go_wp2
  go_loopw [] (fun wr=>∃ j,Hid (DL w0 bf wr D b (.slice A l cap) l aF s2 k p R (d,n) j)) (fun wr=>s2.length - wr.iterPos aF)
  case atStart=>exact ⟨0,bv.o⟩
  case round=>
   obtain ⟨j,L⟩:=hrel;have cq:=L.o.le;have bS:wr.iterPos aF=j:=iterPos_of L.o.iter;by_cases aG:j<s2.length
   ·obtain ⟨b0,bT,ct⟩:=L.o.next b9 cd.o
    have ag:=b3.o _ _ L.o.kl _ _ _ _ b0 s2[j] (bH.o j aG);have af:=(fun w2 cQ X ak=>L.o.put (w2:=w2) b9 cd.o aG cQ X ak);have aA:=qyF L.o.iter aG _ rfl (by rcases bH.o j aG with U | U | U | U <;> rw [U] <;> decide);have aB:=bT;obtain ⟨q,bq⟩:=N9 (s2[j]);rw [bq] at ag af aA;obtain ⟨aC,an⟩:=N9 (k+qc8 s2 j);have bo:Hid (l<aC+qhX q->l<k+qc8 s2 s2.length):=fun e=>by
     have h:=qt3 s2 (j:=j+1) aG;rw [qdr s2 j aG,bq] at h;omega
    obtain ⟨dd,br⟩:=N9 (mS (d,n) s2 b k j);rw [an,br] at ag;rw [an,br] at af;obtain ⟨dh,b6⟩:=N9 (wr.iterAt aF (sB s2) (j+1));rw [b6] at ag af aA aB;have af:=J9 af;have ag:=J9 ag;have aB:=J9 aB;clear b0 bT ct bq b6 an br
    go_wp2_with fail
    refine ag.o.mono ?_;rintro U w2 (⟨e,rfl,h,z⟩ | ⟨e,rfl,h,z⟩)
    ·have bN:=J9 (af.o w2 e h z)
     clear e h z ag aA af bo aB;go_wp2;go_roundw
     case rel=>exact ⟨j+1,bN⟩
     case measure=>rw [iterPos_of bN.o.iter,bS];omega
    ·have V:Hid (qvR w0 D (.slice A l cap) b l w k p R s2 m C al (.panicked qsf) w2):=.inr ⟨bo.o e,rfl,h,(ay.o _ (bF.o.trans (aB.o.trans z))).2.2.2⟩
     clear e h z ag aA af bo aB;exact ⟨rfl,V.o⟩
   ·have cM:j=s2.length:=by omega
    subst cM;have aA:=(fun cH=>Lib.run_next_end_at (P:=prog) wr aF (sB s2) s2.length cH L.o.iter (by rw [qaH];omega));have ae:=L.o.dec;have bt:=L.o.kl;have bk:=J9 (bF.o.trans L.o.dk);have a9:=ca.o bt;obtain ⟨⟨aq,am⟩,bI⟩:=N9 (mS (d,n) s2 b k s2.length);rw [bI] at ae a9;simp only at ae a9;have ai:=(fun w e=>a8.o aq am w e);rw [a9] at ai;unfold qmQ at ai;rw [cj] at ai;obtain ⟨aC,an⟩:=N9 (k+qc8 s2 s2.length);rw [an] at ae bt;have bU:=J9 an;obtain ⟨G,b8⟩:=N9 (C.length);have bi:=J9 b8;obtain ⟨aI,cC⟩:=N9 (wr.heap.size);have dj:=ae.lt;have bV:Hid (E<=aI):=(by have h:=(ay.o wr bk.o).2.2.2.size;show E<=aI;omega);have ae:=J9 ae;have ai:=J9 ai;clear L bS cq bv bH b3 a8 a9 ca bI an b8
    go_upto_region 9 with fail
    go_cut [8] (fun cI wx=>∃ (c:Nat) (y:Option Addr) (q:Nat),cI=.pointer (some ⟨c,0,none⟩)/\Hid (wx.heap[c]?=some (.cells #[.string (sB m),.slice y G q] 24 (0,0))/\qah wx E (.slice y G q) C/\Dec w0 D (.slice A l cap) wx aC p R aq am/\DK D wr wx))
    case first=>
     obtain ⟨bl,aM⟩:=N9 (wr.drew);have bW:Below wr.heap.size wr bl:=(by rw [<- aM];exact below_drewN wr _ 1);have c6:bl.heap.size=aI:=(by rw [<- aM];exact cC);have aU:=J9 (ae.o.all bW);have aH:=J9 (DK.of_below (D:=D) bW);have ac:Hid (∀ K,DK D wr K->K.heap[E]?=some (.cells #[.int .i64 p,.int .u8 Z,.string (sB m),.slice O F M,.string aP,.bool al] 163 (0,0))/\qah K B (.slice O F M) L):=fun K ak=>by
      obtain ⟨h,-,z,-⟩:=ay.o K (bk.o.trans ak);exact ⟨h,z⟩
     refine Mixed.qEg (fun bX=>bX.heap[E]?=some (.cells #[.int .i64 p,.int .u8 Z,.string (sB m),.slice O F M,.string aP,.bool al] 163 (0,0))/\Dec w0 D (.slice A l cap) bX aC p R aq am) 15
      (.pure 0 (.pure 1 (.pure 2 (.pure 3 (.pure 4 (.pure 5 (.pure 6 (.pure 7 (.pure 8 (.two 9 (.pure 10 (.pure 11 (.pure 12 (.one 13 (.one 14 .done))))) 13 (.one 9 (.pure 10 (.pure 11 (.pure 12 (.one 14 .done))))))))))))))) (by kernel_rfl) (by kernel_rfl) (by rw [aM];exact ⟨(ac.o _ aH.o).1,aU.o⟩) ?_
     rw [aM];clear aM aA;refine Mixed.qD4 rfl (by kernel_rfl) (.agg #[.int .i64 p,.int .u8 Z,.string (sB m),.slice O F M,.string aP,.bool al]) (fun w e=>by
      obtain ⟨h,z⟩:=e;obtain ⟨be,bn,a2,bg,bc,bw⟩:=Fr.qEL h;clear h z
      go_simp;try rfl) ?_
     refine Mixed.qD4 rfl (by kernel_rfl) (.pointer (some ⟨D,0,none⟩)) (fun w e=>by clear e;go_simp;try rfl) ?_;refine Mixed.qD4 rfl (by kernel_rfl) (.pointer (some ⟨D,0,none⟩)) (fun w e=>by clear e;go_simp;try rfl) ?_;refine Mixed.qD4 rfl (by kernel_rfl) (.pointer (some ⟨D,4,none⟩)) (fun w e=>by clear e;go_simp;try rfl) ?_;refine Mixed.qD4 rfl (by kernel_rfl) (.int .i64 aq) (fun w e=>by obtain ⟨h,z⟩:=e;obtain ⟨be,bn,a2,bg,bc,bw,cl⟩:=z.cells;clear h z;go_simp;try rfl) ?_;refine Mixed.qD4 rfl (by kernel_rfl) (.pointer (some ⟨D,0,none⟩)) (fun w e=>by clear e;go_simp;try rfl) ?_;refine Mixed.qD4 rfl (by kernel_rfl) (.pointer (some ⟨D,0,none⟩)) (fun w e=>by clear e;go_simp;try rfl) ?_;refine Mixed.qD4 rfl (by kernel_rfl) (.pointer (some ⟨D,5,none⟩)) (fun w e=>by clear e;go_simp;try rfl) ?_;refine Mixed.qD4 rfl (by kernel_rfl) (.int .i64 am) (fun w e=>by obtain ⟨h,z⟩:=e;obtain ⟨be,bn,a2,bg,bc,bw,cl⟩:=z.cells;clear h z;go_simp;try rfl) ?_;refine Mixed.qEe rfl (by kernel_rfl) rfl (by kernel_rfl) ?_ ?_
     ·have aW:=ai.o bl (ac.o _ aH.o).2.opsP
      go_wp2_with fail
      refine aW.mono ?_;rintro U aE ⟨v,rfl,ab,J⟩;obtain ⟨y,q,rfl,-,-⟩:=ab.ops;rw [bi.o] at ab |-;have ap:=J9 (aU.o.all J);have av:=J9 (aH.o.trans (DK.of_below J));have aX:=J9 (show qah aE E (.slice y G q) C from row_mono ab (by have:=bV.o;omega));have c8:aI<=aE.heap.size:=(by have:=J.size;omega);clear aW J ab aU aH;go_wp2;refine ⟨⟨(ac.o _ av.o).1,ap.o⟩,?_⟩;refine Mixed.qD4 rfl (by kernel_rfl) (.tuple #[.agg #[.string (sB m),.slice y G q],.bool true]) (fun w e=>by clear e;go_simp;try rfl) ?_;refine Mixed.qD4 rfl (by kernel_rfl) (.agg #[.string (sB m),.slice y G q]) (fun w e=>by clear e;go_simp;try rfl) ?_;refine Mixed.qD4 rfl (by kernel_rfl) (.bool true) (fun w e=>by clear e;go_simp;try rfl) ?_;refine Mixed.qD9 rfl (by kernel_rfl) ?_;obtain ⟨c,aR,bC,cu,aO,ah,cz⟩:=Fr.box (Fr.nil aE) #[.string ⟨#[]⟩,.slice none 0 0] 24;have aw:aR.heap[c]?=some (.cells #[.string ⟨#[]⟩,.slice none 0 0] 24 (0,0)):=aO.o.1;have ax:=J9 (ap.o.all ah);have aj:=J9 (av.o.trans (DK.of_below ah));have bJ:=J9 (aX.o.below ah);have cU:aI<=c:=(by omega);clear aO ah ap av aX;go_wp2;refine ⟨⟨(ac.o _ aj.o).1,ax.o⟩,?_⟩;refine Mixed.qD9 rfl (by kernel_rfl) ?_;obtain ⟨aa,cf,aS,aL,aV,aQ⟩:=qr3 ax.o aj.o (by omega) aw (by omega) bJ.o (.string (sB m));obtain ⟨cx,cN⟩:=Fr.qEc aw;have cR:=(fun i=>Qr aw i);have V:=J9 (⟨aS,aL,aV,aQ⟩:aa.heap[c]?=some (.cells #[.string (sB m),.slice y G q] 24 (0,0))/\qah aa E (.slice y G q) C/\Dec w0 D (.slice A l cap) aa aC p R aq am/\DK D wr aa);clear aS aL aV aQ ax aj bJ aw;go_wp2;refine ⟨⟨(ac.o _ V.o.2.2.2).1,V.o.2.2.1⟩,?_⟩;simp only [Mixed.qEd,Qq,Qy];go_wp2
      go_meet
      exact ⟨c,y,q,rfl,V⟩
     ·obtain ⟨c,aR,bC,cu,aO,ah,cz⟩:=Fr.box (Fr.nil bl) #[.string ⟨#[]⟩,.slice none 0 0] 24
      have aw:aR.heap[c]?=some (.cells #[.string ⟨#[]⟩,.slice none 0 0] 24 (0,0)):=aO.o.1;have ax:=J9 (aU.o.all ah);have aj:=J9 (aH.o.trans (DK.of_below ah));obtain rfl:c=aI:=by omega
      have cU:c<=c:=Qa _;have cS:Hid (E<=aR.heap.size):=(by have:=bV.o;show _<=_;omega);have aW:=ai.o aR (ac.o _ aj.o).2.opsP;clear aO ah aU aH;go_wp2;refine ⟨⟨(ac.o _ aj.o).1,ax.o⟩,?_⟩;refine Mixed.qD9 rfl (by kernel_rfl) ?_
      go_wp2_with fail
      refine aW.mono ?_;rintro U aE ⟨v,rfl,ab,J⟩;obtain ⟨y,q,rfl,-,-⟩:=ab.ops;rw [bi.o] at ab |-;have ap:=J9 (ax.o.all J);have av:=J9 (aj.o.trans (DK.of_below J));have aX:=J9 (show qah aE E (.slice y G q) C from row_mono ab cS.o);have a7:aE.heap[c]?=some (.cells #[.string ⟨#[]⟩,.slice none 0 0] 24 (0,0)):=(J.block c (by omega)).trans aw;clear aW J ab ax aj aw;go_wp2;refine ⟨⟨(ac.o _ av.o).1,ap.o⟩,?_⟩;refine Mixed.qD4 rfl (by kernel_rfl) (.tuple #[.agg #[.string (sB m),.slice y G q],.bool true]) (fun w e=>by clear e;go_simp;try rfl) ?_;refine Mixed.qD4 rfl (by kernel_rfl) (.agg #[.string (sB m),.slice y G q]) (fun w e=>by clear e;go_simp;try rfl) ?_;refine Mixed.qD4 rfl (by kernel_rfl) (.bool true) (fun w e=>by clear e;go_simp;try rfl) ?_;refine Mixed.qD9 rfl (by kernel_rfl) ?_;obtain ⟨aa,cf,aS,aL,aV,aQ⟩:=qr3 ap.o av.o (by omega) a7 (by omega) aX.o (.string (sB m));obtain ⟨cx,cN⟩:=Fr.qEc a7;have cR:=(fun i=>Qr a7 i);have V:=J9 (⟨aS,aL,aV,aQ⟩:aa.heap[c]?=some (.cells #[.string (sB m),.slice y G q] 24 (0,0))/\qah aa E (.slice y G q) C/\Dec w0 D (.slice A l cap) aa aC p R aq am/\DK D wr aa);clear aS aL aV aQ ap av aX a7;go_wp2;refine ⟨⟨(ac.o _ V.o.2.2.2).1,V.o.2.2.1⟩,?_⟩;simp only [Mixed.qEd,Qq,Qy];go_wp2
      go_meet
      exact ⟨c,y,q,rfl,V⟩
    case rest=>
     obtain ⟨c,y,q,rfl,aD⟩:=hcut;obtain ⟨aT,a6,-,bB⟩:=ay.o wc (bk.o.trans aD.o.2.2.2);obtain ⟨c1,da⟩:=Fr.qEc aD.o.1;obtain ⟨be,bn,a2,bg,bc,bw⟩:=Fr.qEL aT;obtain ⟨c7,c3,df,c4,dm,c0⟩:=a6.cells;obtain ⟨K,di,bQ,a5,cE,cA,cB,bE⟩:=a6.put 1 (.slice none 0 0) (sB m) (.slice y G q) al;have V:Hid (qvR w0 D (.slice A l cap) b l w k p R s2 m C al (.returned (.agg #[.int .i64 1,.slice none 0 0,.string (sB m),.slice y G q,.bool al])) K):=
      .inl ⟨by rw [bU.o];exact bt,⟨y,q,by rw [bi.o],by rw [bi.o,cX.o];exact qer a6 aD.o.2.1 bE⟩,⟨aq,am,by rw [bU.o];exact ⟨(a5.block D (by omega)).trans aD.o.2.2.1.blk,aD.o.2.2.1.bel.trans (a5.mono (by omega))⟩⟩,
       ⟨Qm bB.size a5.size,fun k az J=>(bE k (by omega)).trans (bB.same k az J)⟩⟩
     obtain ⟨cG,cw,cy,cV,cK,db⟩:=bQ.cells;clear aD aT a6 bB bQ a5 cE cA cB bE ay bk ae ai be bn a2 bg bc;go_wp2;refine bodyPost_ret (v:=.agg #[.int .i64 1,.slice none 0 0,.string (sB m),.slice y G q,.bool al]) ?_ rfl V.o;simp [results,results189,go_sem,cG,cw,cy,cV,cK]
end Go.Proofs.YtjafbmfcedijmaaGreatDoor
namespace Go.Proofs.YtjafbmfcedijmaaGreatDoor
open Tryz
open Go.RowKit Go.Shelf
attribute [local go_sem] Oper.semAt_some
def kkP (p:Int):Nat:=(qaQ p).length+if 5<=p then 2 else 1
theorem qCt {p:Int} (z:0<=p/\p<=6) {b r:Str} (E:b=qaQ p++r) (h:b.length<kkP p):itR b=qbB 4 b/\needR b=kkP p:=by
 subst E;unfold kkP at h |-;rw [Qg] at h;by_cases y:5<=p
 ·rw [Qk y] at h |-
  rw [qC5 ⟨y,z.2⟩];exact qDm ⟨y,z.2⟩ (by omega)
 ·rw [Qd y] at h |-
  obtain rfl:r=[]:=List.length_eq_zero_iff.1 (by omega);rw [Zs];exact qDy ⟨z.1,by omega⟩
theorem hasB {p:Int} (z:0<=p/\p<=6) {b r:Str} (E:b=qaQ p++r) (h:kkP p<=b.length) :
  ∃ o t,b.getD (kkP p - 1) 0=o/\(p<=4->b=qaQ p++o :: t/\b.drop (kkP p)=t)/\(5<=p->hdB b=some (p,o,t)/\∃ u,t=b.getD (qaQ p).length 0 :: u):=by
 subst E;unfold kkP at h |-;rw [Qg] at h;by_cases x:5<=p
 ·rw [Qk x] at h |-
  match r,h with
  | [],h=>exact absurd h (by simp only [QH];omega)
  | [y],h=>exact absurd h (by simp only [QH,Qv];omega)
  | y :: o :: u,h=>
   refine ⟨o,y :: u,?_,fun G=>by omega,fun _=>⟨qBt ⟨x,z.2⟩ y o u,u,?_⟩⟩
   ·rw [Qo,Zj (by omega),show (qaQ p).length+2 - 1 - (qaQ p).length=1 by omega];rfl
   ·rw [Qo,Zj (by omega),Nat.sub_self];rfl
 ·rw [Qd x] at h |-
  match r,h with
  | [],h=>exact absurd h (by simp only [QH];omega)
  | o :: t,h=>
   refine ⟨o,t,?_,fun _=>⟨rfl,?_⟩,fun h=>absurd h x⟩
   ·rw [Qo,Zj (by omega),show (qaQ p).length+1 - 1 - (qaQ p).length=0 by omega];rfl
   ·rw [List.drop_append]
    simp
theorem qCu {p:Int} {i:Nat} {ex:Str} (y:ExP p i ex):kkP p+qc8 (qf8 p ex) (qf8 p ex).length=sizeT p ex:=by
 unfold kkP qf8 sizeT;by_cases h:5<=p
 ·rw [Qk h,Qk h,y.hi h]
  rfl
 ·rw [Qd h,Qd h]
def ddP (b:Str) (p d:Int):Int:=if 5<=p then sgB (b.getD (qaQ p).length 0) else d
theorem qAd {p:Int} {i:Nat} {ex:Str} (y:ExP p i ex) {b t:Str} (z:p<=4->b.drop (kkP p)=t) (E:5<=p->∃ u,t=b.getD (qaQ p).length 0 :: u) :
  mS (ddP b p 0,0) (qf8 p ex) b (kkP p) (qf8 p ex).length=qdb ex t:=by
 unfold ddP qf8;by_cases h:5<=p
 ·obtain ⟨u,rfl⟩:=E h
  rw [Qk h,Qk h,y.hi h,qmR];rfl
 ·rw [Qd h,Qd h,qBF y,z (by omega)]
theorem qoT {w0:World} {D:Nat} {b:Str} {A:Option Addr} {l cap:Nat} (H:DH w0 D b A l cap) {w:World} {p nd d n:Int} (E:(qaQ p).length<=l) (X:Dec w0 D (.slice A l cap) w (qaQ p).length p nd d n) (G:0<=p/\p<=6) :
  Calls prog 188 #[.pointer (some ⟨D,0,none⟩)] w fun e w'=>
   (kkP p<=l/\DOk w0 D (.slice A l cap) w e w' (.int .u8 ((b.getD (kkP p - 1) 0).toNat:Int)) (kkP p) p (kkP p:Nat) (ddP b p d) n)\/(l<kkP p/\qiN w0 D (.slice A l cap) w e w' l p (kkP p:Nat)):=by
 unfold kkP ddP;by_cases z:5<=p
 ·rw [Qk z,Qk z]
  refine (qlZ H E X (by omega)).mono ?_;rintro e w' (⟨y,h⟩ | ⟨y,h⟩)
  ·exact .inl ⟨y,h⟩
  ·exact .inr ⟨by omega,h⟩
 ·rw [Qd z,Qd z]
  refine (ql2 H E X (by omega)).mono ?_;rintro e w' (⟨y,h⟩ | ⟨y,h⟩)
  ·exact .inl ⟨y,h⟩
  ·exact .inr ⟨by omega,h⟩
theorem qiP (e:Int) (o:UInt8) (w:World) (aa:qac w):Calls prog 187 #[.int .i64 e,.int .u8 (o.toNat:Int)] w fun U w'=>∃ (K V:Int) (m:Str) (v:Option Addr) (G y:Nat) (ex:Str) (al:Bool) (z:Int),
  U=.returned (.tuple #[.agg #[.int .i64 K,.int .u8 V,.string (sB m),.slice v G y,.string (sB ex),.bool al],.int .i64 z])/\Below w.heap.size w w'/\
  (∀ x,qaX e o.toNat=some x->z=1/\K=e/\V=(o.toNat:Int)/\m=x.1/\ex=x.2.2.1/\al=x.2.2.2/\G=x.2.1.length/\qah w' w.heap.size (.slice v G y) x.2.1)/\(qaX e o.toNat=none->z=rkindT e o.toNat):=by
 refine (qzr e (o.toNat:Int) (by omega) (by have:=o.toNat_lt;omega) w aa).mono ?_;rintro U w' ⟨h,O⟩;rw [ql5 e o.toNat o.toNat_lt] at h;cases E:qaX e o.toNat with
 | some x=>
  rw [E] at h;obtain ⟨ab,rfl,M⟩:=h;obtain ⟨v,y,rfl,-,-⟩:=M.ops;exact ⟨_,_,_,v,_,y,_,_,_,rfl,O,(fun Z J=>by cases J;exact ⟨rfl,rfl,rfl,rfl,rfl,rfl,rfl,M⟩),fun h=>by cases h⟩
 | none=>
  rw [E] at h;simp only at h;subst h;exact ⟨_,_,_,_,_,_,_,_,_,rfl,O,(fun Z J=>by cases J),fun _=>ok_none o.toNat_lt E⟩
theorem qmp {w0 wr w:World} {D:Nat} {S:Value} {k:Nat} {p nd d n:Int} {c:Nat} {e:Array Value} (X:Dec w0 D S w k p nd d n) (E:DK D wr w) (aa:D<wr.heap.size) (L:w.heap[c]?=some (.cells e 163 (0,0))) (ab:wr.heap.size<=c) (cs:Array Value) :
  ∃ b,w.setRow c cs=b/\b.heap[c]?=some (.cells cs 163 (0,0))/\Dec w0 D S b k p nd d n/\DK D wr b/\∀ h u g,qah w h u g->qah b h u g:=by
 have s:∀ k,k≠c->(w.setRow c cs).heap[k]?=w.heap[k]?:=fun k B=>setRow_other w c k cs B
 have J:Below c w (w.setRow c cs):=below_setRow (Qc c w) (Qa _) cs;refine ⟨_,rfl,setRow_heap w c e cs 163 (0,0) L,⟨(s D (by omega)).trans X.blk,X.bel.trans (J.mono (by omega))⟩,⟨Qm E.size J.size,fun k B V=>(s k (by omega)).trans (E.same k B V)⟩,fun h u g G=>⟨G.1,?_⟩⟩;rcases G.2 with z | ⟨K,O,e,Z,U,y,M⟩
 ·exact .inl z
 ·refine .inr ⟨K,O,e,Z,U,(s K (fun z=>?_)).trans y,M⟩
  subst z;rw [L] at y;simp at y
end Go.Proofs.YtjafbmfcedijmaaGreatDoor
namespace Go.MixE
open Go Go.Mixed
section
variable {P:Program} {ops:Array Oper} {md:Region.Mode} {E:List PanicEntry->List Deferred->World->Prop}
theorem qb9 {C:World->Prop} {n g:Nat} {T:Act->World->Prop} (V:Region.noSelect ops=true) (U:Region.sinkB md ops n=true) (O:Region.chainB md ops n=true) (Z:n<ops.size) :
  ∀ (af:Ord) (i:Array Bool) (a:Act) (w:World),HeadInv md ops n i->qqj md ops n g af i=true->C w->qEk P ops C E T af a w->
  qa8 P md ops n C E (fun ah r w'=>Region.seqB md ops g n ah=true/\T r w') af.len i a w
 | .done,i,a,w,_,k,y,h=>⟨y,k,h⟩
 | .pure K M,i,a,w,G,k,y,h=>by
  simp only [qqj,Qh,Ql] at k;obtain ⟨⟨⟨o,z⟩,ao⟩,ac⟩:=k;have aj:K∈Region.ready md ops i:=by simpa using o
  simp only [qEk] at h;cases ab:ops[K]? with
  | none=>rw [ab] at h;exact h.elim
  | some ax=>
   rw [ab] at h;obtain ⟨aw,av,ak⟩:=h;exact qa0 ab (Region.noSelect_spec V) U O Z z (fun ah r w' aq=>seqB_ready aq.1) M.len i a w G (Region.free_spec ab ao) aj av y
    (qb9 V U O Z M _ _ w (G.set aj z) ac y ak)
 | .one K M,i,a,w,G,k,y,h=>by
  simp only [qqj,Qh,Ql] at k;obtain ⟨⟨o,z⟩,ac⟩:=k;simp only [qEk] at h;have ad:Region.ready md ops i≠[]:=by rw [o];exact List.cons_ne_nil _ _
  refine ⟨y,ad,fun aa J=>?_⟩;rw [o] at J;have ae:aa=K:=by simpa using J
  subst ae;refine ⟨z,qgv (fun r w' v=>?_) h⟩;exact qb9 V U O Z M _ r w' (G.set (by rw [o];exact QA.2 rfl) z) ac v.1 v.2
 | .two K M ar au,i,a,w,G,k,y,h=>by
  simp only [qqj,Qh,Ql] at k;obtain ⟨⟨⟨⟨⟨o,z⟩,ai⟩,ap⟩,am⟩,an⟩:=k;simp only [qEk] at h;have ad:Region.ready md ops i≠[]:=by rw [o];exact List.cons_ne_nil _ _
  refine ⟨y,ad,fun aa J=>?_⟩;have ag:=J;rw [o] at J;have ae:aa=K\/aa=ar:=by simpa using J
  rcases ae with rfl | rfl
  ·refine ⟨z,qgv (fun r w' v=>?_) h.1⟩
   exact qb9 V U O Z M _ r w' (G.set ag z) am v.1 v.2
  ·refine ⟨ai,qgv (fun r w' v=>?_) h.2⟩
   have:=qb9 V U O Z au _ r w' (G.set ag ai) an v.1 v.2
   rwa [ap] at this
theorem qEG {ad:Nat} {Q:Exit->Act->World->Prop} {a:Act} {w:World} {l:List Oper} (C:World->Prop) (E:List PanicEntry->List Deferred->World->Prop) (n:Nat) (j:Ord) (ai:P.follows .mixedOrders=true) (t:qnW .any l.toArray n j=true)
  (ac:C w.drew) (Z:∀ z a w,E z a.defers w->Q (.panic z) a w) (ag:qEk P l.toArray C E (fun h w'=>wpList P l.toArray Q (l.drop n) h w') j a w.drew):(Code.region ad l.toArray true).wp P Q a w:=by
 simp only [qnW,Qh,Ql] at t;obtain ⟨⟨⟨⟨⟨ab,ae⟩,V⟩,O⟩,M⟩,aa⟩:=t;have H:(l.drop n).length=l.toArray.size - n:=by simp
 have K:HeadInv .any l.toArray n (Array.replicate l.toArray.size false):=
  ⟨by simp,fun U ak _ y=>(by rw [getD_replicate_false] at y;cases y),fun aj _ ah=>getD_in (by simpa using ah) (getD_replicate_false _ _)⟩
 have J:=qb9 ab O M ae j _ a w.drew K aa ac ag;refine wp_region_any ai ?_;have:=qaq Z (Q':=Q) (g:=l.toArray.size - n) (fun af h w' G=>by
  have:=wpAny_of_seq (md:=.any) (Q':=Q) (l.drop n) n af h w' (fun U=>by simp [Zl]) (by rw [H];exact G.1) G.2
  rwa [H] at this) _ _ _ _ J
 rw [V] at this;exact this
theorem qEf {C:World->Prop} {T:Act->World->Prop} {k:Nat} {r:Ord} {a:Act} {w:World} {o:Oper} (h:ops[k]?=some o) (y:Region.wanted o (yielded ops a.tmps)=true) (v:Value)
  (z:∀ w,C w->(execOp a.eval o).run P w=.ok (.value v) w) (G:qEk P ops C E T r (a.put o.dst v) w):qEk P ops C E T (.pure k r) a w:=by
 simp only [qEk,h];exact ⟨v,.inl ⟨y,z⟩,G⟩
theorem qfr {y:Act->World->Prop} {k:Nat} {a:Act} {w:World} {o:Oper} (z:ops[k]?=some o) (G:Region.wanted o (yielded ops a.tmps)=true) (h:wpList P ops (QK E y) [{o with guard:=none}] a w):wpOp P ops (QE E) k y a w:=by
 unfold wpOp;simp only [z,G,if_true];have J:Region.wanted {o with guard:=none} (yielded ops a.tmps)=true:=rfl;simp only [wpList,J,if_true] at h;rcases h with h | h
 ·exact .inl (qfC h)
 ·exact absurd h.2 (qaA _)
theorem qEn {C:World->Prop} {T:Act->World->Prop} {k:Nat} {r:Ord} {a:Act} {w:World} {o:Oper} (y:ops[k]?=some o) (z:Region.wanted o (yielded ops a.tmps)=true) (G:wpList P ops (QK E fun h w'=>C w'/\qEk P ops C E T r h w') [{o with guard:=none}] a w) :
  qEk P ops C E T (.one k r) a w:=by
 simp only [qEk];exact qfr y z G
theorem qEM {C:World->Prop} {T:Act->World->Prop} {k z:Nat} {r G:Ord} {a:Act} {w:World} {o h:Oper} (U:ops[k]?=some o) (J:Region.wanted o (yielded ops a.tmps)=true) (K:ops[z]?=some h) (O:Region.wanted h (yielded ops a.tmps)=true)
  (V:wpList P ops (QK E fun y w'=>C w'/\qEk P ops C E T r y w') [{o with guard:=none}] a w) (M:wpList P ops (QK E fun y w'=>C w'/\qEk P ops C E T G y w') [{h with guard:=none}] a w) :
  qEk P ops C E T (.two k r z G) a w:=by
 simp only [qEk];exact ⟨qfr U J V,qfr K O M⟩
end
end Go.MixE
