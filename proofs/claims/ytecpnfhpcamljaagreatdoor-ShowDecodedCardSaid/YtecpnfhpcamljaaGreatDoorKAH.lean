/-
  CnUb, CnUc, CnUd, CnU, SeD.
-/
import Derived.Test.YtecpnfhpcamljaaGreatDoorKAG
set_option linter.all false
set_option maxRecDepth 100000
set_option maxHeartbeats 4000000
namespace Go.Proofs.YtecpnfhpcamljaaGreatDoor
open Tryz
open Go.RowKit
attribute [local irreducible] Go.Mixed.qAU
theorem qw5 (s:ByteArray) (A:Option Addr) (cap:Nat) (L:List Tr) (cq:L.length<=900) (w:World) (H:qai w A L) (aH:¬I1 s) (bX:¬I2 s) (cf:¬I3 s) (cQ:qcP (opc s) L=2) :
  Calls prog 16 #[.agg #[.string s,.slice A L.length cap]] w (qiF w s (canL (opc s) L)):=by
 obtain ⟨g,V⟩:=N9 (((w.alloc (.cells #[.string s,.slice A L.length cap] 24)).alloc (.cells #[.string ⟨#[]⟩,.slice none 0 0] 24)).alloc (.cells #[.int .i64 1,.int .i64 7,.int .i64 0] 56));have x:Hid (Below w.heap.size w g):=by rw [<- V];exact ((B0).alloc (by simp) _).alloc (by simp;omega) _
 have aF:Hid (Bx g w.heap.size s A L.length cap):=by rw [<- V];exact ⟨by simp [go_sem],by simp [go_sem]⟩
 have bQ:Hid (Rz g (w.heap.size+1)):=by
  rw [<- V];have aQ:=heap_alloc_new (w.alloc (.cells #[.string s,.slice A L.length cap] 24)) (.cells #[.string ⟨#[]⟩,.slice none 0 0] 24);have z:Below (w.heap.size+2) ((w.alloc (.cells #[.string s,.slice A L.length cap] 24)).alloc (.cells #[.string ⟨#[]⟩,.slice none 0 0] 24)) (((w.alloc (.cells #[.string s,.slice A L.length cap] 24)).alloc (.cells #[.string ⟨#[]⟩,.slice none 0 0] 24)).alloc (.cells #[.int .i64 1,.int .i64 7,.int .i64 0] 56)):=(Qc _ _).alloc (by simp) _;show Rz _ _;refine (z.block _ (by omega)).trans ?_;simpa [Rz] using aQ
 have aA:Hid (g.heap.size=w.heap.size+3):=by rw [<- V];simp [Hid]
 have A1:Hid (g.heap[w.heap.size+2]?=some (.cells #[.int .i64 1,.int .i64 7,.int .i64 0] 56 (0,0))):=by
  rw [<- V];have aQ:=heap_alloc_new ((w.alloc (.cells #[.string s,.slice A L.length cap] 24)).alloc (.cells #[.string ⟨#[]⟩,.slice none 0 0] 24)) (.cells #[.int .i64 1,.int .i64 7,.int .i64 0] 56);simpa [Hid] using aQ
 have cc:=J9 (H.below x.o);obtain ⟨cK,ar,bO,bt,z⟩:=qcp A cap L (by omega) g cc.o;have aw:=J9 bO;have ce:Hid (Sv g ar g.heap.size cK L):=by
  obtain ⟨cu,bK,rfl,-,-⟩:=bt.ops;exact ⟨cu,bK,rfl,bt.own,z⟩
 obtain ⟨o,bv⟩:=N9 (L.length);have ax:=J9 bv;rw [bv] at aF aw V |-;have cz:o<=900:=by omega
 have bM:=J9 V;have b8:=J9 H;clear H bO bt z cc bv cq V
 go_enter func16,ntmps16
 go_upto_region 2 with fail
 rw [bM.o];obtain ⟨aS,aa⟩:=N9 (w.heap.size+1+1);rw [aa];obtain ⟨c,bD⟩:=N9 (g.heap.size);obtain ⟨ab,af,rfl,aJ,bi⟩:=ce.o;rw [ax.o] at aw aJ;rw [bD] at aw aJ bi aA;have aY:(g.alloc (.cells #[] 56)).cell? ⟨w.heap.size,1,none⟩=some (.slice A o cap):=(World.cell?_alloc_lt g _ _ (by have:=aA.o;simp;omega)).trans aF.o.2;have FK:Hid (∀ wx,Below c g wx->(wx.cell? ⟨w.heap.size,0,none⟩=some (.string s)/\wx.cell? ⟨w.heap.size,1,none⟩=some (.slice A o cap))/\(wx.cell? ⟨aS,0,none⟩=some (.int .i64 1)/\wx.cell? ⟨aS,1,none⟩=some (.int .i64 7)/\wx.cell? ⟨aS,2,none⟩=some (.int .i64 0))/\qai wx A L):=fun wx q=>by
  have cJ:=aA.o;have bH:wx.heap[aS]?=some (.cells #[.int .i64 1,.int .i64 7,.int .i64 0] 56 (0,0)):=(q.block _ (by omega)).trans (by rw [<- aa];exact A1.o);exact ⟨⟨(q.cell (p:=⟨w.heap.size,0,none⟩) (by simp;omega)).trans aF.o.1,(q.cell (p:=⟨w.heap.size,1,none⟩) (by simp;omega)).trans aF.o.2⟩,⟨by rw [C9 bH];rfl,by rw [C9 bH];rfl,by rw [C9 bH];rfl⟩,b8.o.below (x.o.trans (q.mono (by omega)))⟩
 have bx:=J9 aJ;have a2:=J9 bi;have a6:=fun (wx:World) A bf=>J9 (qen A bf W1 (by decide) s wx)
 have aK:=fun (wx:World) A bf=>J9 (qen A bf W2 (by decide) s wx)
 rw [qy6] at a6;rw [qza] at aK;obtain ⟨b6,bJ⟩:=N9 (decide (I1 s));obtain ⟨cA,bg⟩:=N9 (decide (I2 s));simp only [bJ] at a6;simp only [bg] at aK;have bq:=J9 bJ;have bd:=J9 bg;have bU:=J9 bD;clear aJ bi ce aF A1 bM bD b8 bJ bg aa;have cD:g.heap.size=c:=bU.o
 go_upto_region 3 with (at_builtin;refine qal aw.o rfl _ _ rfl rfl rfl rfl ?_)
 clear cD aY aw;have aE:Hid (c<=g.heap.size):=by have:=bU.o;show c<=g.heap.size;omega
 go_cut [29] (fun p wx=>p=.bool (b3L (opc s) L)/\Hid (qan wx c (.slice ab o af) L)/\Hid (Below c g wx))
 case first=>
  obtain ⟨N,a3⟩:=N9 (ar.drew);have bI:Below ar.heap.size ar N:=by rw [<- a3];exact below_drewN ar _ 1
  have ap:=J9 (bx.o.below bI);have ag:=J9 (a2.o.trans (bI.mono (Qj aE.o a2.o.size)));clear bI bx a2;refine Mixed.qAQ (fun b2=>qan b2 c (.slice ab o af) L/\Below c g b2) 15 [(1,true),(2,true),(0,false),(3,false),(4,true),(5,true),(6,true),(7,true),(8,true),(9,true),(10,true),(11,true),(12,true),(13,true),(14,true)] (by kernel_rfl) (by kernel_rfl) (by rw [a3];exact ⟨ap.o,ag.o⟩) ?_;rw [a3];clear a3;refine Mixed.mp rfl (.pointer (some ⟨w.heap.size,0,none⟩)) ?_;refine Mixed.mo rfl (.string s) (fun w bV=>by obtain ⟨⟨aQ,z⟩,-,-⟩:=FK.o w bV.2;clear bV;go_simp;try rfl) ?_;refine Mixed.qAR rfl (by kernel_rfl) ?_;have ac:∀ h,Below N.heap.size N (N.alloc h):=fun h=>(Qc _ _).alloc (Qa _) h
  have ai:=fun h=>J9 (ap.o.below (ac h))
  have ad:=fun h=>J9 (ag.o.trans ((ac h).mono (Qj aE.o ag.o.size)))
  have ay:=J9 ((a6 (N.alloc (.cells (W1.map Value.string).toArray 9)) (some ⟨N.heap.size,0,none⟩) 5).o (qaH N W1 9));have az:=fun h=>(show qan (N.alloc h) c (.slice ab o af) L/\Below c g (N.alloc h) from ⟨(ai h).o,(ad h).o⟩)
  clear ac ap ag;go_wp2;refine ⟨az _,?_⟩;clear az;refine Mixed.qAR rfl (by kernel_rfl) ?_
  go_wp2_with fail
  refine ay.o.mono ?_;rintro bZ Z ⟨rfl,Y⟩;have J:Hid (qan Z c (.slice ab o af) L):=by rw [<- Y];exact (ai _).o
  have M:Hid (Below c g Z):=by rw [<- Y];exact (ad _).o
  have az:qan Z c (.slice ab o af) L/\Below c g Z:=⟨J.o,M.o⟩;clear Y ai ad ay;go_wp2;refine ⟨az,?_⟩;clear az;refine Mixed.mp rfl (.bool b6) ?_;cases b6 with
  | false=>
   have aB:Hid (false=b3L (opc s) L):=(Qh fun n=>qeZ (QX bq.o) n.1).symm;refine Mixed.ms rfl ?_;refine Mixed.ms rfl ?_;refine Mixed.ms rfl ?_;refine Mixed.mp rfl (.bool false) ?_;refine Mixed.mp rfl (.bool false) ?_;refine Mixed.ms rfl ?_;refine Mixed.ms rfl ?_;refine Mixed.ms rfl ?_;refine Mixed.ms rfl ?_;refine Mixed.ms rfl ?_;simp only [Mixed.qAU,Qr,Qx];go_wp2
   go_meet
   exact ⟨by rw [aB.o],J.o,M.o⟩
  | true=>exact absurd (Qo bq.o) aH
 case rest=>
  obtain ⟨rfl,ap,ag⟩:=hcut;clear bx a2 a6;have bo:Hid (qan wc c (.slice ab o af) L/\Below c g wc):=⟨ap.o,ag.o⟩;clear ap ag
  go_upto_if 29 with fail
  obtain ⟨O,aa⟩:=N9 (b3L (opc s) L);rw [aa];have aG:=J9 aa;clear aa
  go_cut [4] (fun v wx=>∃ aC aD,v=.slice aC (if O then 1 else o) aD/\Hid (qan wx c v (if O then L.tail else L))/\Hid (Below c g wx))
  case first=>
   cases O with
   | false=>
    go_wp2
    go_meet
    exact ⟨ab,af,rfl,bo.o.1,bo.o.2⟩
   | true=>
    obtain ⟨cw,z,T⟩:=Qo aG.o;exact absurd cw (qeZ aH)
  case rest=>
   obtain ⟨aC,aD,rfl,J,M⟩:=hcut;have av:=J9 (qea (opc s) L O aG.o);have y:(if O then L.tail else L).length=(if O then 1 else o):=by
    cases O with
    | true=>
     obtain ⟨-,z,-⟩:=Qo aG.o;simp only [if_true,List.length_tail,z]
    | false=>simpa using ax.o
   obtain ⟨Q,bh⟩:=N9 ((if O then L.tail else L));obtain ⟨aj,a1⟩:=N9 ((if O then 1 else o));rw [bh,a1] at y;rw [bh] at av J;have cP:aj<=900:=by rw [<- a1];split <;> omega
   have b7:=J9 y;obtain ⟨F,ao⟩:=N9 (b5L (opc s) Q);rw [ao] at av;have aR:=J9 ao;rw [a1] at J |-;clear bh a1 y ao bo aG
   go_upto_region 5 with fail
   go_cut [40] (fun p wx=>p=.bool F/\Hid (qan wx c (.slice aC aj aD) Q)/\Hid (Below c g wx))
   case first=>
    have W:c<=wc.heap.size:=Qj aE.o M.o.size;have ac:∀ h,Below wc.heap.size wc (wc.alloc h):=(fun h=>(Qc _ _).alloc (Qa _) h);have ai:=(fun h=>J9 (J.o.below (ac h)));have ad:=(fun h=>J9 (M.o.trans ((ac h).mono W)));have ay:=J9 ((aK (wc.alloc (.cells (W2.map Value.string).toArray 9)) (some ⟨wc.heap.size,0,none⟩) 3).o (qaH wc W2 9));have aX:=(FK.o _ (ad (.cells #[.string ⟨#[65,68,68]⟩,.string ⟨#[65,68,67]⟩,.string ⟨#[83,66,67]⟩] 9)).o).1.1;clear ac W J M
    go_wp2_with fail
    refine ay.o.mono ?_;rintro bZ Z ⟨rfl,Y⟩;have J:Hid (qan Z c (.slice aC aj aD) Q):=(by rw [<- Y];exact (ai _).o);have M:Hid (Below c g Z):=(by rw [<- Y];exact (ad _).o);clear Y ai ad ay aX;cases cA with
    | false=>
     have aB:Hid (false=F):=(by rw [<- aR.o];exact (Qh fun n=>qe8 (QX bd.o) n.1).symm);go_wp2
     go_meet
     exact ⟨by rw [aB.o],J.o,M.o⟩
    | true=>exact absurd (Qo bd.o) bX
   case rest=>
    obtain ⟨rfl,bW,bS⟩:=hcut;clear J M aK
    go_upto_if 40 with fail
    go_cut [4] (fun v wx=>∃ bp bc,v=.slice bp (if F then 2 else aj) bc/\Hid (qan wx c v (if F then qbV :: Q else Q))/\Hid (Below c g wx))
    case first=>
     cases F with
     | false=>
      go_wp2
      go_meet
      exact ⟨aC,aD,rfl,bW.o,bS.o⟩
     | true=>
      obtain ⟨cr,z⟩:=Qo aR.o;exact absurd cr (qe8 bX)
    case rest=>
     obtain ⟨bp,bc,rfl,aP,bw⟩:=hcut;have y:(if F then qbV :: Q else Q).length=(if F then 2 else aj):=by
      cases F with
      | true=>
       obtain ⟨-,z⟩:=Qo aR.o;simp only [if_true,Qt,z]
      | false=>simpa using b7.o
     obtain ⟨i,a8⟩:=N9 ((if F then qbV :: Q else Q));obtain ⟨a5,aZ⟩:=N9 ((if F then 2 else aj));rw [a8,aZ] at y;rw [a8] at av aP;have cv:a5<=900:=by rw [<- aZ];split <;> omega
     have ca:=J9 y;obtain ⟨G,bG⟩:=N9 (b9L (opc s) i);have bs:=J9 bG;have aL:=J9 (qfy (opc s) i);rw [bG] at aL;rw [aZ] at aP |-;clear a8 aZ y bG bW bS aR b7 bq bd cP
     go_upto_region 9 with fail
     obtain ⟨K,au⟩:=N9 ((wc.alloc (.cells #[.int .i64 3,.int .i64 2,.int .i64 0] 56)).alloc (.cells #[.int .i64 3,.int .i64 1,.int .i64 0] 56));have bb:Below wc.heap.size wc K:=(by rw [<- au];exact (B0).alloc (by simp) _);have W:c<=wc.heap.size:=Qj aE.o bw.o.size;have b1:=J9 (aP.o.below bb);have bB:=J9 (bw.o.trans (bb.mono W));have bA:K.cell? ⟨wc.heap.size,0,none⟩=some (.int .i64 3)/\K.cell? ⟨wc.heap.size,1,none⟩=some (.int .i64 2)/\K.cell? ⟨wc.heap.size,2,none⟩=some (.int .i64 0):=(by rw [<- au];exact ⟨by simp [go_sem],by simp [go_sem],by simp [go_sem]⟩);have bE:K.cell? ⟨wc.heap.size+1,0,none⟩=some (.int .i64 3)/\K.cell? ⟨wc.heap.size+1,1,none⟩=some (.int .i64 1)/\K.cell? ⟨wc.heap.size+1,2,none⟩=some (.int .i64 0):=(by rw [<- au];exact ⟨by simp [go_sem],by simp [go_sem],by simp [go_sem]⟩);rw [au];obtain ⟨c0,ao⟩:=N9 (wc.heap.size);obtain ⟨cV,cg⟩:=N9 (wc.heap.size+1);rw [cg] at bE |-;rw [ao] at bA |-;have bL:=J9 bA;have bY:=J9 bE;clear au bb W aP bw ao cg bA bE
     go_cut [69] (fun p wx=>p=.bool G/\Hid (∃ n,wx=K.drewN n))
     case first=>
      obtain ⟨⟨bn,-⟩,-,-⟩:=FK.o K bB.o;obtain ⟨c6,cS,c1⟩:=bL.o;obtain ⟨cX,c5,cW⟩:=bY.o;by_cases T:I3 s
      ·exact absurd T cf
      ·have cY:(s.toList == [69,88])=false:=by simpa using qak T
       have aB:Hid (false=G):=by
        rw [<- bs.o];exact (Qh fun n=>qfR T n.1).symm
       clear T
       go_quiet (fail)
       go_wp2
       go_meet
       exact ⟨by rw [aB.o],⟨_,rfl⟩⟩
     case rest=>
      obtain ⟨rfl,co,rfl⟩:=hcut
      go_upto_if 69 with fail
      go_cut [4] (fun v wx=>∃ an U,v=.slice an (if G then 2 else a5) U/\Hid (qan wx c v (if G then [deT,hlT] else i))/\Hid (Below c g wx))
      case first=>
       cases G with
       | false=>
        go_wp2
        go_meet
        exact ⟨bp,bc,rfl,b1.o,qce bB.o co⟩
       | true=>
        exact absurd (Qo bs.o).1 (qfR cf)
      case rest=>
       obtain ⟨an,U,rfl,aW,aI⟩:=hcut;have y:(if G then [deT,hlT] else i).length=(if G then 2 else a5):=by
        cases G with
        | true=>rfl
        | false=>simpa using ca.o
       obtain ⟨j,bj⟩:=N9 ((if G then [deT,hlT] else i));obtain ⟨nq,aM⟩:=N9 ((if G then 2 else a5));rw [bj,aM] at y;rw [bj] at aL aW;have cR:nq<=900:=by rw [<- aM];split <;> omega
       have bm:=J9 y;rw [aM] at aW |-;have bz:Hid (canL (opc s) L=j.map (wrapT (qeK (qcP (opc s) L)))):=by
        show canL (opc s) L=_;unfold canL;rw [av.o,aL.o]
       clear bj aM y bs b1 bB ca av aL bL bY cv;obtain ⟨⟨bn,aH⟩,-,bN⟩:=FK.o wc aI.o;have a4:=J9 (qdr s A cap L (by rw [ax.o];omega) wc bN);have cH:=qbT (opc s) L;obtain ⟨bC,m⟩:=N9 (qcP (opc s) L);have cm:Hid (bC=2):=m.symm.trans cQ;rw [m] at a4 cH bz;rw [ax.o] at a4;have cO:=(fun v=>J9 (qjS v j));have cp:=(fun v=>J9 (qiK v j));have cl:=(fun v=>J9 (qjm v j));have cI:=(fun v=>J9 (qjs v j));have aV:∀ v e,(wL v j e).length=nq:=fun v e=>by rw [qgp];exact bm.o
       have W:c<=wc.heap.size:=Qj aE.o aI.o.size;have bP:=J9 W;have cd:Hid (∀ wr v,Below c g wr->qan wr c v (j.map (wrapT (qeK bC)))->∃ a0 b9 aT,v=.slice a0 b9 aT/\(wr.cell? ⟨w.heap.size,0,none⟩=some (.string s))/\Rz wr (w.heap.size+1)/\qiF w s (canL (opc s) L) (.returned (.agg #[.string s,v])) ((wr.setCell ⟨w.heap.size+1,0,none⟩ (.string s)).setCell ⟨w.heap.size+1,1,none⟩ v)):=fun wr v q cj=>by
        have cJ:=aA.o;obtain ⟨a0,aT,aU,-,-,-⟩:=cj.ops;refine ⟨a0,_,aT,aU,(FK.o wr q).1.1,(q.block _ (by omega)).trans bQ.o,v,rfl,?_,?_⟩
        ·rw [bz.o]
         exact ((cj.low ⟨w.heap.size+1,0,none⟩ (by simp;omega) _).low ⟨w.heap.size+1,1,none⟩ (by simp;omega) _).lift (by omega)
        ·exact ((x.o.trans (q.mono (by omega))).setCell (p:=⟨w.heap.size+1,0,none⟩) (by simp) _).setCell (p:=⟨w.heap.size+1,1,none⟩) (by simp) _
       clear bN W m bz bQ aA x ax cz
       go_wp2_with fail
       refine a4.o.mono ?_;rintro bZ c3 ⟨rfl,q⟩;have b4:=J9 (aW.o.below q);have b3:=J9 (aI.o.trans (q.mono bP.o));clear q a4 aW aI bn aH bP;obtain rfl:bC=2:=cm.o;rw [show qeK 2=65536 from rfl] at cd;go_wp2
       go_loopw [8] (fun br wr=>∃ e:Nat,e<=nq/\br=.int .i64 e/\Hid (qan wr c (.slice an nq U) (wL 65536 j e))/\Hid (Below c g wr)) (fun br _=>nq - (intOf br).toNat)
       case atStart=>exact ⟨0,Qu _,rfl,b4.o,b3.o⟩
       case round=>
        clear b4 b3;obtain ⟨e,cZ,rfl,B,x⟩:=hrel;by_cases ci:e<nq
        ·have aO:e<j.length:=by rw [bm.o];exact ci
         have bk:e<(wL 65536 j e).length:=(by rw [aV];exact ci);obtain ⟨am,ak,bK,a7,be,bT,E⟩:=B.o.qA8 (by omega);rw [aV] at a7 be;simp only [Qy] at a7;obtain ⟨rfl,-,rfl⟩:=a7;obtain ⟨a9,bl,bF⟩:=E.at_ e bk;rw [(cI 65536).o e aO bk] at a9 bl bF;have c7:=E.frozen (ak+e*3+2);have ae:=J9 ((cO 65536).o e aO);have i:=J9 ((cp 65536).o e aO);obtain ⟨⟨ct,cT,ah⟩,ch⟩:=N9 (j[e]);rw [ch] at a9 bl bF ae i;simp only at a9 bl bF ae i;have cL:Hid (c<=am):=E.1;have cE:=J9 be;have cG:=J9 bT;have E:=J9 E;clear aO bk ch be bT;by_cases aq:ct=6
         ·by_cases bR:ah<0
          ·have cF:¬(0:Int)<=ah:=by omega
           by_cases cU : -32768<=ah
           ·have m:=ae.o ⟨aq,by omega,bR⟩
            have cM:Hid (qan (wr.setCell ⟨am,ak+e*3+2,none⟩ (.int .i64 (ah+65536))) c (.slice (some ⟨am,ak,none⟩) nq U) (wL 65536 j (e+1))):=by
             have T:=E.o.put (e*3+2) _ m;rw [<- Nat.add_assoc] at T;exact .inr ⟨am,ak,U,by rw [aV],by rw [aV];exact cE.o,cG.o,T⟩
            have cB:Hid (Below c g (wr.setCell ⟨am,ak+e*3+2,none⟩ (.int .i64 (ah+65536)))):=x.o.setCell (p:=⟨am,ak+e*3+2,none⟩) cL.o _;subst aq;clear m ae i B x E;go_wp2;go_roundw
            case rel=>exact ⟨e+1,by omega,by go_num,cM.o,cB.o⟩
            case measure=>simp [intOf];omega
           ·have m:=i.o fun n=>absurd n.2.1 (by omega)
            rw [m] at B;subst aq;clear m ae i E;go_wp2;go_roundw
            case rel=>exact ⟨e+1,by omega,by go_num,B.o,x.o⟩
            case measure=>simp [intOf];omega
          ·have m:=i.o fun n=>bR n.2.2
           have cF:(0:Int)<=ah:=(by omega);rw [m] at B;subst aq;clear m ae i E;go_wp2;go_roundw
           case rel=>exact ⟨e+1,by omega,by go_num,B.o,x.o⟩
           case measure=>simp [intOf];omega
         ·have m:=i.o fun n=>aq n.1
          rw [m] at B;clear m ae i E;go_wp2;go_roundw
          case rel=>exact ⟨e+1,by omega,by go_num,B.o,x.o⟩
          case measure=>simp [intOf];omega
        ·have cN:e=nq:=by omega
         subst cN;have b5:wL 65536 j e=j.map (wrapT 65536):=by
          rw [show e=j.length from bm.o.symm];exact (cl 65536).o
         rw [b5] at B;obtain ⟨a0,b9,aT,aU,bn,bu,aN⟩:=cd.o wr _ x.o B.o;simp only [Qy] at aU;obtain ⟨rfl,rfl,rfl⟩:=aU;obtain ⟨cn,cy,cx,cC⟩:=bu.cells;have ck:=J9 (bu.set s (.slice an e U));have aN:=J9 aN;clear bu b5;go_wp2;obtain ⟨aX,aY⟩:=ck.o;obtain ⟨c4,b0⟩:=N9 (((wr.setCell ⟨w.heap.size+1,0,none⟩ (.string s)).setCell ⟨w.heap.size+1,1,none⟩ (.slice an e U)));rw [b0] at aN aX aY |-;clear b0 cn cy cx cC;refine bodyPost_ret (v:=.agg #[.string s,.slice an e U]) ?_ rfl aN.o;simp [results,results16,go_sem,aX,aY]
theorem qzJ (s:ByteArray) (A:Option Addr) (cap:Nat) (L:List Tr) (cC:L.length<=900) (w:World) (H:qai w A L) (aU:¬I1 s) (ca:¬I2 s) (c0:I3 s) (c6:qcP (opc s) L=1) :
  Calls prog 16 #[.agg #[.string s,.slice A L.length cap]] w (qiF w s (canL (opc s) L)):=by
 obtain ⟨g,ah⟩:=N9 (((w.alloc (.cells #[.string s,.slice A L.length cap] 24)).alloc (.cells #[.string ⟨#[]⟩,.slice none 0 0] 24)).alloc (.cells #[.int .i64 1,.int .i64 7,.int .i64 0] 56));have E:Hid (Below w.heap.size w g):=by rw [<- ah];exact ((B0).alloc (by simp) _).alloc (by simp;omega) _
 have aS:Hid (Bx g w.heap.size s A L.length cap):=by rw [<- ah];exact ⟨by simp [go_sem],by simp [go_sem]⟩
 have b3:Hid (Rz g (w.heap.size+1)):=by
  rw [<- ah];have aM:=heap_alloc_new (w.alloc (.cells #[.string s,.slice A L.length cap] 24)) (.cells #[.string ⟨#[]⟩,.slice none 0 0] 24);have o:Below (w.heap.size+2) ((w.alloc (.cells #[.string s,.slice A L.length cap] 24)).alloc (.cells #[.string ⟨#[]⟩,.slice none 0 0] 24)) (((w.alloc (.cells #[.string s,.slice A L.length cap] 24)).alloc (.cells #[.string ⟨#[]⟩,.slice none 0 0] 24)).alloc (.cells #[.int .i64 1,.int .i64 7,.int .i64 0] 56)):=(Qc _ _).alloc (by simp) _;show Rz _ _;refine (o.block _ (by omega)).trans ?_;simpa [Rz] using aM
 have aN:Hid (g.heap.size=w.heap.size+3):=by rw [<- ah];simp [Hid]
 have A1:Hid (g.heap[w.heap.size+2]?=some (.cells #[.int .i64 1,.int .i64 7,.int .i64 0] 56 (0,0))):=by
  rw [<- ah];have aM:=heap_alloc_new ((w.alloc (.cells #[.string s,.slice A L.length cap] 24)).alloc (.cells #[.string ⟨#[]⟩,.slice none 0 0] 24)) (.cells #[.int .i64 1,.int .i64 7,.int .i64 0] 56);simpa [Hid] using aM
 have co:=J9 (H.below E.o);obtain ⟨cX,aF,b0,bK,o⟩:=qcp A cap L (by omega) g co.o;have aI:=J9 b0;have cr:Hid (Sv g aF g.heap.size cX L):=by
  obtain ⟨cE,bk,rfl,-,-⟩:=bK.ops;exact ⟨cE,bk,rfl,bK.own,o⟩
 obtain ⟨y,W⟩:=N9 (L.length);have aJ:=J9 W;rw [W] at aS aI ah |-;have cK:y<=900:=by omega
 have bY:=J9 ah;have cm:=J9 H;clear H b0 bK o co W cC ah
 go_enter func16,ntmps16
 go_upto_region 2 with fail
 rw [bY.o];obtain ⟨a4,am⟩:=N9 (w.heap.size+1+1);rw [am];obtain ⟨c,bR⟩:=N9 (g.heap.size);obtain ⟨ao,ar,rfl,aW,bx⟩:=cr.o;rw [aJ.o] at aI aW;rw [bR] at aI aW bx aN;have bb:(g.alloc (.cells #[] 56)).cell? ⟨w.heap.size,1,none⟩=some (.slice A y cap):=(World.cell?_alloc_lt g _ _ (by have:=aN.o;simp;omega)).trans aS.o.2;have FK:Hid (∀ wx,Below c g wx->(wx.cell? ⟨w.heap.size,0,none⟩=some (.string s)/\wx.cell? ⟨w.heap.size,1,none⟩=some (.slice A y cap))/\(wx.cell? ⟨a4,0,none⟩=some (.int .i64 1)/\wx.cell? ⟨a4,1,none⟩=some (.int .i64 7)/\wx.cell? ⟨a4,2,none⟩=some (.int .i64 0))/\qai wx A L):=fun wx z=>by
  have cW:=aN.o;have bU:wx.heap[a4]?=some (.cells #[.int .i64 1,.int .i64 7,.int .i64 0] 56 (0,0)):=(z.block _ (by omega)).trans (by rw [<- am];exact A1.o);exact ⟨⟨(z.cell (p:=⟨w.heap.size,0,none⟩) (by simp;omega)).trans aS.o.1,(z.cell (p:=⟨w.heap.size,1,none⟩) (by simp;omega)).trans aS.o.2⟩,⟨by rw [C9 bU];rfl,by rw [C9 bU];rfl,by rw [C9 bU];rfl⟩,cm.o.below (E.o.trans (z.mono (by omega)))⟩
 have bO:=J9 aW;have bh:=J9 bx;have bj:=fun (wx:World) A bt=>J9 (qen A bt W1 (by decide) s wx)
 have aX:=fun (wx:World) A bt=>J9 (qen A bt W2 (by decide) s wx)
 rw [qy6] at bj;rw [qza] at aX;obtain ⟨cj,bW⟩:=N9 (decide (I1 s));obtain ⟨cL,bv⟩:=N9 (decide (I2 s));simp only [bW] at bj;simp only [bv] at aX;have bF:=J9 bW;have bq:=J9 bv;have b8:=J9 bR;clear aW bx cr aS A1 bY bR cm bW bv am;have cQ:g.heap.size=c:=b8.o
 go_upto_region 3 with (at_builtin;refine qal aI.o rfl _ _ rfl rfl rfl rfl ?_)
 clear cQ bb aI;have aA:Hid (c<=g.heap.size):=by have:=b8.o;show c<=g.heap.size;omega
 go_cut [29] (fun p wx=>p=.bool (b3L (opc s) L)/\Hid (qan wx c (.slice ao y ar) L)/\Hid (Below c g wx))
 case first=>
  obtain ⟨j,Z⟩:=N9 (aF.drew);have bV:Below aF.heap.size aF j:=by rw [<- Z];exact below_drewN aF _ 1
  have aC:=J9 (bO.o.below bV);have K:=J9 (bh.o.trans (bV.mono (Qj aA.o bh.o.size)));clear bV bO bh;refine Mixed.qAQ (fun cf=>qan cf c (.slice ao y ar) L/\Below c g cf) 15 [(1,true),(2,true),(0,false),(3,false),(4,true),(5,true),(6,true),(7,true),(8,true),(9,true),(10,true),(11,true),(12,true),(13,true),(14,true)] (by kernel_rfl) (by kernel_rfl) (by rw [Z];exact ⟨aC.o,K.o⟩) ?_;rw [Z];clear Z;refine Mixed.mp rfl (.pointer (some ⟨w.heap.size,0,none⟩)) ?_;refine Mixed.mo rfl (.string s) (fun w ag=>by obtain ⟨⟨aM,o⟩,-,-⟩:=FK.o w ag.2;clear ag;go_simp;try rfl) ?_;refine Mixed.qAR rfl (by kernel_rfl) ?_;have O:∀ h,Below j.heap.size j (j.alloc h):=fun h=>(Qc _ _).alloc (Qa _) h
  have af:=fun h=>J9 (aC.o.below (O h))
  have Y:=fun h=>J9 (K.o.trans ((O h).mono (Qj aA.o K.o.size)))
  have aK:=J9 ((bj (j.alloc (.cells (W1.map Value.string).toArray 9)) (some ⟨j.heap.size,0,none⟩) 5).o (qaH j W1 9));have aL:=fun h=>(show qan (j.alloc h) c (.slice ao y ar) L/\Below c g (j.alloc h) from ⟨(af h).o,(Y h).o⟩)
  clear O aC K;go_wp2;refine ⟨aL _,?_⟩;clear aL;refine Mixed.qAR rfl (by kernel_rfl) ?_
  go_wp2_with fail
  refine aK.o.mono ?_;rintro cc ak ⟨rfl,aj⟩;have T:Hid (qan ak c (.slice ao y ar) L):=by rw [<- aj];exact (af _).o
  have U:Hid (Below c g ak):=by rw [<- aj];exact (Y _).o
  have aL:qan ak c (.slice ao y ar) L/\Below c g ak:=⟨T.o,U.o⟩;clear aj af Y aK;go_wp2;refine ⟨aL,?_⟩;clear aL;refine Mixed.mp rfl (.bool cj) ?_;cases cj with
  | false=>
   have J:Hid (false=b3L (opc s) L):=(Qh fun F=>qeZ (QX bF.o) F.1).symm;refine Mixed.ms rfl ?_;refine Mixed.ms rfl ?_;refine Mixed.ms rfl ?_;refine Mixed.mp rfl (.bool false) ?_;refine Mixed.mp rfl (.bool false) ?_;refine Mixed.ms rfl ?_;refine Mixed.ms rfl ?_;refine Mixed.ms rfl ?_;refine Mixed.ms rfl ?_;refine Mixed.ms rfl ?_;simp only [Mixed.qAU,Qr,Qx];go_wp2
   go_meet
   exact ⟨by rw [J.o],T.o,U.o⟩
  | true=>exact absurd (Qo bF.o) aU
 case rest=>
  obtain ⟨rfl,aC,K⟩:=hcut;clear bO bh bj;have bD:Hid (qan wc c (.slice ao y ar) L/\Below c g wc):=⟨aC.o,K.o⟩;clear aC K
  go_upto_if 29 with fail
  obtain ⟨V,am⟩:=N9 (b3L (opc s) L);rw [am];have aT:=J9 am;clear am
  go_cut [4] (fun v wx=>∃ aP aQ,v=.slice aP (if V then 1 else y) aQ/\Hid (qan wx c v (if V then L.tail else L))/\Hid (Below c g wx))
  case first=>
   cases V with
   | false=>
    go_wp2
    go_meet
    exact ⟨ao,ar,rfl,bD.o.1,bD.o.2⟩
   | true=>
    obtain ⟨cG,o,ab⟩:=Qo aT.o;exact absurd cG (qeZ aU)
  case rest=>
   obtain ⟨aP,aQ,rfl,T,U⟩:=hcut;have aH:=J9 (qea (opc s) L V aT.o);have G:(if V then L.tail else L).length=(if V then 1 else y):=by
    cases V with
    | true=>
     obtain ⟨-,o,-⟩:=Qo aT.o;simp only [if_true,List.length_tail,o]
    | false=>simpa using aJ.o
   obtain ⟨aa,bw⟩:=N9 ((if V then L.tail else L));obtain ⟨ax,bg⟩:=N9 ((if V then 1 else y));rw [bw,bg] at G;rw [bw] at aH T;have c5:ax<=900:=by rw [<- bg];split <;> omega
   have cl:=J9 G;obtain ⟨Q,aB⟩:=N9 (b5L (opc s) aa);rw [aB] at aH;have a3:=J9 aB;rw [bg] at T |-;clear bw bg G aB bD aT
   go_upto_region 5 with fail
   go_cut [40] (fun p wx=>p=.bool Q/\Hid (qan wx c (.slice aP ax aQ) aa)/\Hid (Below c g wx))
   case first=>
    have B:c<=wc.heap.size:=Qj aA.o U.o.size;have O:∀ h,Below wc.heap.size wc (wc.alloc h):=(fun h=>(Qc _ _).alloc (Qa _) h);have af:=(fun h=>J9 (T.o.below (O h)));have Y:=(fun h=>J9 (U.o.trans ((O h).mono B)));have aK:=J9 ((aX (wc.alloc (.cells (W2.map Value.string).toArray 9)) (some ⟨wc.heap.size,0,none⟩) 3).o (qaH wc W2 9));have a9:=(FK.o _ (Y (.cells #[.string ⟨#[65,68,68]⟩,.string ⟨#[65,68,67]⟩,.string ⟨#[83,66,67]⟩] 9)).o).1.1;clear O B T U
    go_wp2_with fail
    refine aK.o.mono ?_;rintro cc ak ⟨rfl,aj⟩;have T:Hid (qan ak c (.slice aP ax aQ) aa):=(by rw [<- aj];exact (af _).o);have U:Hid (Below c g ak):=(by rw [<- aj];exact (Y _).o);clear aj af Y aK a9;cases cL with
    | false=>
     have J:Hid (false=Q):=(by rw [<- a3.o];exact (Qh fun F=>qe8 (QX bq.o) F.1).symm);go_wp2
     go_meet
     exact ⟨by rw [J.o],T.o,U.o⟩
    | true=>exact absurd (Qo bq.o) ca
   case rest=>
    obtain ⟨rfl,b9,b6⟩:=hcut;clear T U aX
    go_upto_if 40 with fail
    go_cut [4] (fun v wx=>∃ bE bp,v=.slice bE (if Q then 2 else ax) bp/\Hid (qan wx c v (if Q then qbV :: aa else aa))/\Hid (Below c g wx))
    case first=>
     cases Q with
     | false=>
      go_wp2
      go_meet
      exact ⟨aP,aQ,rfl,b9.o,b6.o⟩
     | true=>
      obtain ⟨cD,o⟩:=Qo a3.o;exact absurd cD (qe8 ca)
    case rest=>
     obtain ⟨bE,bp,rfl,a2,bN⟩:=hcut;have G:(if Q then qbV :: aa else aa).length=(if Q then 2 else ax):=by
      cases Q with
      | true=>
       obtain ⟨-,o⟩:=Qo a3.o;simp only [if_true,Qt,o]
      | false=>simpa using cl.o
     obtain ⟨m,bm⟩:=N9 ((if Q then qbV :: aa else aa));obtain ⟨au,be⟩:=N9 ((if Q then 2 else ax));rw [bm,be] at G;rw [bm] at aH a2;have cF:au<=900:=by rw [<- be];split <;> omega
     have bd:=J9 G;obtain ⟨n,bT⟩:=N9 (b9L (opc s) m);have ce:=J9 bT;have aY:=J9 (qfy (opc s) m);rw [bT] at aY;rw [be] at a2 |-;clear bm be G bT b9 b6 a3 cl bF bq c5
     go_upto_region 9 with fail
     obtain ⟨M,aG⟩:=N9 ((wc.alloc (.cells #[.int .i64 3,.int .i64 2,.int .i64 0] 56)).alloc (.cells #[.int .i64 3,.int .i64 1,.int .i64 0] 56));have bn:Below wc.heap.size wc M:=(by rw [<- aG];exact (B0).alloc (by simp) _);have B:c<=wc.heap.size:=Qj aA.o bN.o.size;have bL:=J9 (a2.o.below bn);have bc:=J9 (bN.o.trans (bn.mono B));have bQ:M.cell? ⟨wc.heap.size,0,none⟩=some (.int .i64 3)/\M.cell? ⟨wc.heap.size,1,none⟩=some (.int .i64 2)/\M.cell? ⟨wc.heap.size,2,none⟩=some (.int .i64 0):=(by rw [<- aG];exact ⟨by simp [go_sem],by simp [go_sem],by simp [go_sem]⟩);have bS:M.cell? ⟨wc.heap.size+1,0,none⟩=some (.int .i64 3)/\M.cell? ⟨wc.heap.size+1,1,none⟩=some (.int .i64 1)/\M.cell? ⟨wc.heap.size+1,2,none⟩=some (.int .i64 0):=(by rw [<- aG];exact ⟨by simp [go_sem],by simp [go_sem],by simp [go_sem]⟩);rw [aG];obtain ⟨bI,aB⟩:=N9 (wc.heap.size);obtain ⟨bu,ct⟩:=N9 (wc.heap.size+1);rw [ct] at bS |-;rw [aB] at bQ |-;have bl:=J9 bQ;have bG:=J9 bS;clear aG bn B a2 bN aB ct bQ bS
     go_cut [69] (fun p wx=>p=.bool n/\Hid (∃ F,wx=M.drewN F))
     case first=>
      obtain ⟨⟨bC,-⟩,-,-⟩:=FK.o M bc.o;obtain ⟨di,c8,dd⟩:=bl.o;obtain ⟨db,dg,da⟩:=bG.o;by_cases ab:I3 s
      ·have bJ:=qvQ ab
       have ac:Hid ((m=[hlT,deT])=(n=true)):=by
        rw [<- ce.o];unfold b9L;simp [bJ,Hid]
       obtain rfl:s=_:=ab;by_cases o:au=2
       ·obtain ⟨aR,cy,rfl⟩:=qlR m (by rw [bd.o];exact o)
        obtain rfl:=o;obtain ⟨ap,an,bk,av,-,-,x⟩:=bL.o.qA8 (by simp);simp only [Qy] at av;obtain ⟨rfl,-,-⟩:=av;obtain ⟨aw,ay,aD⟩:=x.at_ 0 (by simp);obtain ⟨bX,b7,b4⟩:=x.at_ 1 (by simp);simp only [List.getElem_cons_zero,List.getElem_cons_succ,Nat.zero_mul,Nat.add_zero,Nat.one_mul] at aw ay aD bX b7 b4;obtain ⟨cY,cP,cM⟩:=aR;obtain ⟨bs,b1,ae⟩:=cy;simp only at aw ay aD bX b7 b4;clear x bJ;by_cases i:(cY,cP,cM)=hlT
        ·by_cases ai:(bs,b1,ae)=deT
         ·have J:Hid (true=n):=(ac.o.mp (by rw [i,ai])).symm
          simp only [hlT,Zl] at i;simp only [deT,Zl] at ai;obtain ⟨rfl,rfl,rfl⟩:=i;obtain ⟨rfl,rfl,rfl⟩:=ai;clear ac
          go_quiet (fail)
          go_wp2
          go_meet
          exact ⟨by rw [J.o],⟨_,rfl⟩⟩
         ·have J:Hid (false=n):=by
           cases n with
           | false=>rfl
           | true=>
            have:=ac.o.mpr rfl;simp only [Q3,and_true] at this;exact absurd this.2 ai
          have W:=qlE ai;simp only [deT] at W;simp only [hlT,Zl] at i;obtain ⟨rfl,rfl,rfl⟩:=i;clear ac;rcases W with ag | ⟨rfl,ag⟩ | ⟨rfl,rfl,ag⟩
          all_goals
           go_quiet (fail)
           go_wp2
           go_meet
           exact ⟨by rw [J.o],⟨_,rfl⟩⟩
        ·have J:Hid (false=n):=by
          cases n with
          | false=>rfl
          | true=>
           have:=ac.o.mpr rfl;simp only [Q3,and_true] at this;exact absurd this.1 i
         have W:=qlE i;simp only [hlT] at W;clear ac;rcases W with ag | ⟨rfl,ag⟩ | ⟨rfl,rfl,ag⟩
         all_goals
          go_quiet (fail)
          go_wp2
          go_meet
          exact ⟨by rw [J.o],⟨_,rfl⟩⟩
       ·have J:Hid (false=n):=by
         cases n with
         | false=>rfl
         | true=>
          have:=ac.o.mpr rfl;have aO:=bd.o;rw [this] at aO;exact absurd aO.symm o
        have aO:¬((au:Int)=2):=(by omega);have cJ:((au:Int) == 2)=false:=Qm.2 aO;clear ac bJ
        go_quiet (fail)
        go_wp2
        go_meet
        exact ⟨by rw [J.o],⟨_,rfl⟩⟩
      ·exact absurd c0 ab
     case rest=>
      obtain ⟨rfl,bo,rfl⟩:=hcut
      go_upto_if 69 with fail
      go_cut [4] (fun v wx=>∃ az ad,v=.slice az (if n then 2 else au) ad/\Hid (qan wx c v (if n then [deT,hlT] else m))/\Hid (Below c g wx))
      case first=>
       cases n with
       | false=>
        go_wp2
        go_meet
        exact ⟨bE,bp,rfl,bL.o,qce bc.o bo⟩
       | true=>
        obtain ⟨j,Z⟩:=N9 (M.drewN bo);have K:Hid (Below c g j):=(by rw [<- Z];exact qce bc.o bo);have B:c<=j.heap.size:=Qj aA.o K.o.size;have ck:Hid ((j.cell? ⟨bI,0,none⟩=some (.int .i64 3)/\j.cell? ⟨bI,1,none⟩=some (.int .i64 2)/\j.cell? ⟨bI,2,none⟩=some (.int .i64 0))/\j.cell? ⟨bu,0,none⟩=some (.int .i64 3)/\j.cell? ⟨bu,1,none⟩=some (.int .i64 1)/\j.cell? ⟨bu,2,none⟩=some (.int .i64 0)):=(by rw [<- Z];exact ⟨bl.o,bG.o⟩);have O:∀ h,Below j.heap.size j (j.alloc h):=(fun h=>(Qc _ _).alloc (Qa _) h);have af:=J9 (qjv j deT hlT c B);have Y:=(fun h=>J9 (K.o.trans ((O h).mono B)));rw [Z];obtain ⟨⟨aM,o,ab⟩,aO,cJ,dh⟩:=ck.o;clear O K B ck Z;go_wp2
        go_meet
        exact ⟨_,2,rfl,af.o,(Y _).o⟩
      case rest=>
       obtain ⟨az,ad,rfl,a8,aV⟩:=hcut;have G:(if n then [deT,hlT] else m).length=(if n then 2 else au):=by
        cases n with
        | true=>rfl
        | false=>simpa using bd.o
       obtain ⟨q,bz⟩:=N9 ((if n then [deT,hlT] else m));obtain ⟨nq,aZ⟩:=N9 ((if n then 2 else au));rw [bz,aZ] at G;rw [bz] at aY a8;have c7:nq<=900:=by rw [<- aZ];split <;> omega
       have bB:=J9 G;rw [aZ] at a8 |-;have bP:Hid (canL (opc s) L=q.map (wrapT (qeK (qcP (opc s) L)))):=by
        show canL (opc s) L=_;unfold canL;rw [aH.o,aY.o]
       clear bz aZ G ce bL bc bd aH aY bl bG cF;obtain ⟨⟨bC,aU⟩,-,bZ⟩:=FK.o wc aV.o;have bi:=J9 (qdr s A cap L (by rw [aJ.o];omega) wc bZ);have cU:=qbT (opc s) L;obtain ⟨aR,i⟩:=N9 (qcP (opc s) L);have cz:Hid (aR=1):=i.symm.trans c6;rw [i] at bi cU bP;rw [aJ.o] at bi;have c4:=(fun v=>J9 (qjS v q));have cB:=(fun v=>J9 (qiK v q));have cx:=(fun v=>J9 (qjm v q));have cV:=(fun v=>J9 (qjs v q));have a7:∀ v e,(wL v q e).length=nq:=fun v e=>by rw [qgp];exact bB.o
       have B:c<=wc.heap.size:=Qj aA.o aV.o.size;have b2:=J9 B;have cp:Hid (∀ wr v,Below c g wr->qan wr c v (q.map (wrapT (qeK aR)))->∃ bf cn a5,v=.slice bf cn a5/\(wr.cell? ⟨w.heap.size,0,none⟩=some (.string s))/\Rz wr (w.heap.size+1)/\qiF w s (canL (opc s) L) (.returned (.agg #[.string s,v])) ((wr.setCell ⟨w.heap.size+1,0,none⟩ (.string s)).setCell ⟨w.heap.size+1,1,none⟩ v)):=fun wr v z cv=>by
        have cW:=aN.o;obtain ⟨bf,a5,a6,-,-,-⟩:=cv.ops;refine ⟨bf,_,a5,a6,(FK.o wr z).1.1,(z.block _ (by omega)).trans b3.o,v,rfl,?_,?_⟩
        ·rw [bP.o]
         exact ((cv.low ⟨w.heap.size+1,0,none⟩ (by simp;omega) _).low ⟨w.heap.size+1,1,none⟩ (by simp;omega) _).lift (by omega)
        ·exact ((E.o.trans (z.mono (by omega))).setCell (p:=⟨w.heap.size+1,0,none⟩) (by simp) _).setCell (p:=⟨w.heap.size+1,1,none⟩) (by simp) _
       clear bZ B i bP b3 aN E aJ cK
       go_wp2_with fail
       refine bi.o.mono ?_;rintro cc de ⟨rfl,z⟩;have ch:=J9 (a8.o.below z);have cg:=J9 (aV.o.trans (z.mono b2.o));clear z bi a8 aV bC aU b2;obtain rfl:aR=1:=cz.o;rw [show qeK 1=256 from rfl] at cp;go_wp2
       go_loopw [8] (fun bH wr=>∃ e:Nat,e<=nq/\bH=.int .i64 e/\Hid (qan wr c (.slice az nq ad) (wL 256 q e))/\Hid (Below c g wr)) (fun bH _=>nq - (intOf bH).toNat)
       case atStart=>exact ⟨0,Qu _,rfl,ch.o,cg.o⟩
       case round=>
        clear ch cg;obtain ⟨e,dc,rfl,N,E⟩:=hrel;by_cases cu:e<nq
        ·have a1:e<q.length:=by rw [bB.o];exact cu
         have bA:e<(wL 256 q e).length:=(by rw [a7];exact cu);obtain ⟨ap,an,bk,av,br,cq,x⟩:=N.o.qA8 (by omega);rw [a7] at av br;simp only [Qy] at av;obtain ⟨rfl,-,rfl⟩:=av;obtain ⟨aw,ay,aD⟩:=x.at_ e bA;rw [(cV 256).o e a1 bA] at aw ay aD;have dj:=x.frozen (an+e*3+2);have aq:=J9 ((c4 256).o e a1);have m:=J9 ((cB 256).o e a1);obtain ⟨⟨bs,b1,ae⟩,ai⟩:=N9 (q[e]);rw [ai] at aw ay aD aq m;simp only at aw ay aD aq m;have cZ:Hid (c<=ap):=x.1;have cR:=J9 br;have cT:=J9 cq;have x:=J9 x;clear a1 bA ai br cq;by_cases aE:bs=6
         ·by_cases b5:ae<0
          ·have cS:¬(0:Int)<=ae:=by omega
           by_cases c9 : -128<=ae
           ·have i:=aq.o ⟨aE,by omega,b5⟩
            have c1:Hid (qan (wr.setCell ⟨ap,an+e*3+2,none⟩ (.int .i64 (ae+256))) c (.slice (some ⟨ap,an,none⟩) nq ad) (wL 256 q (e+1))):=by
             have ab:=x.o.put (e*3+2) _ i;rw [<- Nat.add_assoc] at ab;exact .inr ⟨ap,an,ad,by rw [a7],by rw [a7];exact cR.o,cT.o,ab⟩
            have cN:Hid (Below c g (wr.setCell ⟨ap,an+e*3+2,none⟩ (.int .i64 (ae+256)))):=E.o.setCell (p:=⟨ap,an+e*3+2,none⟩) cZ.o _;subst aE;clear i aq m N E x;go_wp2;go_roundw
            case rel=>exact ⟨e+1,by omega,by go_num,c1.o,cN.o⟩
            case measure=>simp [intOf];omega
           ·have i:=m.o fun F=>absurd F.2.1 (by omega)
            rw [i] at N;subst aE;clear i aq m x;go_wp2;go_roundw
            case rel=>exact ⟨e+1,by omega,by go_num,N.o,E.o⟩
            case measure=>simp [intOf];omega
          ·have i:=m.o fun F=>b5 F.2.2
           have cS:(0:Int)<=ae:=(by omega);rw [i] at N;subst aE;clear i aq m x;go_wp2;go_roundw
           case rel=>exact ⟨e+1,by omega,by go_num,N.o,E.o⟩
           case measure=>simp [intOf];omega
         ·have i:=m.o fun F=>aE F.1
          rw [i] at N;clear i aq m x;go_wp2;go_roundw
          case rel=>exact ⟨e+1,by omega,by go_num,N.o,E.o⟩
          case measure=>simp [intOf];omega
        ·have c3:e=nq:=by omega
         subst c3;have ci:wL 256 q e=q.map (wrapT 256):=by
          rw [show e=q.length from bB.o.symm];exact (cx 256).o
         rw [ci] at N;obtain ⟨bf,cn,a5,a6,bC,bM,a0⟩:=cp.o wr _ E.o N.o;simp only [Qy] at a6;obtain ⟨rfl,rfl,rfl⟩:=a6;obtain ⟨cA,cI,cH,cO⟩:=bM.cells;have cw:=J9 (bM.set s (.slice az e ad));have a0:=J9 a0;clear bM ci;go_wp2;obtain ⟨a9,bb⟩:=cw.o;obtain ⟨df,cd⟩:=N9 (((wr.setCell ⟨w.heap.size+1,0,none⟩ (.string s)).setCell ⟨w.heap.size+1,1,none⟩ (.slice az e ad)));rw [cd] at a0 a9 bb |-;clear cd cA cI cH cO;refine bodyPost_ret (v:=.agg #[.string s,.slice az e ad]) ?_ rfl a0.o;simp [results,results16,go_sem,a9,bb]
theorem qzN (s:ByteArray) (A:Option Addr) (cap:Nat) (L:List Tr) (cA:L.length<=900) (w:World) (H:qai w A L) (ck:¬I3 s) (c8:qcP (opc s) L=1) :
  Calls prog 16 #[.agg #[.string s,.slice A L.length cap]] w (qiF w s (canL (opc s) L)):=by
 obtain ⟨g,ao⟩:=N9 (((w.alloc (.cells #[.string s,.slice A L.length cap] 24)).alloc (.cells #[.string ⟨#[]⟩,.slice none 0 0] 24)).alloc (.cells #[.int .i64 1,.int .i64 7,.int .i64 0] 56));have T:Hid (Below w.heap.size w g):=by rw [<- ao];exact ((B0).alloc (by simp) _).alloc (by simp;omega) _
 have aZ:Hid (Bx g w.heap.size s A L.length cap):=by rw [<- ao];exact ⟨by simp [go_sem],by simp [go_sem]⟩
 have b2:Hid (Rz g (w.heap.size+1)):=by
  rw [<- ao];have aa:=heap_alloc_new (w.alloc (.cells #[.string s,.slice A L.length cap] 24)) (.cells #[.string ⟨#[]⟩,.slice none 0 0] 24);have c:Below (w.heap.size+2) ((w.alloc (.cells #[.string s,.slice A L.length cap] 24)).alloc (.cells #[.string ⟨#[]⟩,.slice none 0 0] 24)) (((w.alloc (.cells #[.string s,.slice A L.length cap] 24)).alloc (.cells #[.string ⟨#[]⟩,.slice none 0 0] 24)).alloc (.cells #[.int .i64 1,.int .i64 7,.int .i64 0] 56)):=(Qc _ _).alloc (by simp) _;show Rz _ _;refine (c.block _ (by omega)).trans ?_;simpa [Rz] using aa
 have aU:Hid (g.heap.size=w.heap.size+3):=by rw [<- ao];simp [Hid]
 have A1:Hid (g.heap[w.heap.size+2]?=some (.cells #[.int .i64 1,.int .i64 7,.int .i64 0] 56 (0,0))):=by
  rw [<- ao];have aa:=heap_alloc_new ((w.alloc (.cells #[.string s,.slice A L.length cap] 24)).alloc (.cells #[.string ⟨#[]⟩,.slice none 0 0] 24)) (.cells #[.int .i64 1,.int .i64 7,.int .i64 0] 56);simpa [Hid] using aa
 have ch:=J9 (H.below T.o);obtain ⟨cZ,W,b0,bJ,c⟩:=qcp A cap L (by omega) g ch.o;have aR:=J9 b0;have cj:Hid (Sv g W g.heap.size cZ L):=by
  obtain ⟨cD,aK,rfl,-,-⟩:=bJ.ops;exact ⟨cD,aK,rfl,bJ.own,c⟩
 obtain ⟨u,aG⟩:=N9 (L.length);have am:=J9 aG;rw [aG] at aZ aR ao |-;have cJ:u<=900:=by omega
 have bX:=J9 ao;have ce:=J9 H;clear H b0 bJ c ch aG cA ao
 go_enter func16,ntmps16
 go_upto_region 2 with fail
 rw [bX.o];obtain ⟨bb,au⟩:=N9 (w.heap.size+1+1);rw [au];obtain ⟨a,bQ⟩:=N9 (g.heap.size);obtain ⟨ap,B,rfl,a2,bx⟩:=cj.o;rw [am.o] at aR a2;rw [bQ] at aR a2 bx aU;have bh:(g.alloc (.cells #[] 56)).cell? ⟨w.heap.size,1,none⟩=some (.slice A u cap):=(World.cell?_alloc_lt g _ _ (by have:=aU.o;simp;omega)).trans aZ.o.2;have FK:Hid (∀ wx,Below a g wx->(wx.cell? ⟨w.heap.size,0,none⟩=some (.string s)/\wx.cell? ⟨w.heap.size,1,none⟩=some (.slice A u cap))/\(wx.cell? ⟨bb,0,none⟩=some (.int .i64 1)/\wx.cell? ⟨bb,1,none⟩=some (.int .i64 7)/\wx.cell? ⟨bb,2,none⟩=some (.int .i64 0))/\qai wx A L):=fun wx M=>by
  have cY:=aU.o;have bU:wx.heap[bb]?=some (.cells #[.int .i64 1,.int .i64 7,.int .i64 0] 56 (0,0)):=(M.block _ (by omega)).trans (by rw [<- au];exact A1.o);exact ⟨⟨(M.cell (p:=⟨w.heap.size,0,none⟩) (by simp;omega)).trans aZ.o.1,(M.cell (p:=⟨w.heap.size,1,none⟩) (by simp;omega)).trans aZ.o.2⟩,⟨by rw [C9 bU];rfl,by rw [C9 bU];rfl,by rw [C9 bU];rfl⟩,ce.o.below (T.o.trans (M.mono (by omega)))⟩
 have bM:=J9 a2;have bl:=J9 bx;have bo:=fun (wx:World) A bu=>J9 (qen A bu W1 (by decide) s wx)
 have a3:=fun (wx:World) A bu=>J9 (qen A bu W2 (by decide) s wx)
 rw [qy6] at bo;rw [qza] at a3;obtain ⟨cd,bA⟩:=N9 (decide (I1 s));obtain ⟨cK,bv⟩:=N9 (decide (I2 s));simp only [bA] at bo;simp only [bv] at a3;have bG:=J9 bA;have bt:=J9 bv;have b4:=J9 bQ;clear a2 bx cj aZ A1 bX bQ ce bA bv au;have cR:g.heap.size=a:=b4.o
 go_upto_region 3 with (at_builtin;refine qal aR.o rfl _ _ rfl rfl rfl rfl ?_)
 clear cR bh aR;have ax:Hid (a<=g.heap.size):=by have:=b4.o;show a<=g.heap.size;omega
 go_cut [29] (fun p wx=>p=.bool (b3L (opc s) L)/\Hid (qan wx a (.slice ap u B) L)/\Hid (Below a g wx))
 case first=>
  obtain ⟨x,ai⟩:=N9 (W.drew);have aA:Below W.heap.size W x:=by rw [<- ai];exact below_drewN W _ 1
  have ae:=J9 (bM.o.below aA);have Q:=J9 (bl.o.trans (aA.mono (Qj ax.o bl.o.size)));clear aA bM bl;refine Mixed.qAQ (fun aV=>qan aV a (.slice ap u B) L/\Below a g aV) 15 [(1,true),(2,true),(0,false),(3,false),(4,true),(5,true),(6,true),(7,true),(8,true),(9,true),(10,true),(11,true),(12,true),(13,true),(14,true)] (by kernel_rfl) (by kernel_rfl) (by rw [ai];exact ⟨ae.o,Q.o⟩) ?_;rw [ai];clear ai;refine Mixed.mp rfl (.pointer (some ⟨w.heap.size,0,none⟩)) ?_;refine Mixed.mo rfl (.string s) (fun w y=>by obtain ⟨⟨aa,c⟩,-,-⟩:=FK.o w y.2;clear y;go_simp;try rfl) ?_;refine Mixed.qAR rfl (by kernel_rfl) ?_;have ab:∀ e,Below x.heap.size x (x.alloc e):=fun e=>(Qc _ _).alloc (Qa _) e
  have ak:=fun e=>J9 (ae.o.below (ab e))
  have ac:=fun e=>J9 (Q.o.trans ((ab e).mono (Qj ax.o Q.o.size)))
  have aS:=J9 ((bo (x.alloc (.cells (W1.map Value.string).toArray 9)) (some ⟨x.heap.size,0,none⟩) 5).o (qaH x W1 9));have an:=fun e=>(show qan (x.alloc e) a (.slice ap u B) L/\Below a g (x.alloc e) from ⟨(ak e).o,(ac e).o⟩)
  clear ab ae Q;go_wp2;refine ⟨an _,?_⟩;clear an;refine Mixed.qAR rfl (by kernel_rfl) ?_
  go_wp2_with fail
  refine aS.o.mono ?_;rintro b6 ar ⟨rfl,aq⟩;have z:Hid (qan ar a (.slice ap u B) L):=by rw [<- aq];exact (ak _).o
  have J:Hid (Below a g ar):=by rw [<- aq];exact (ac _).o
  have an:qan ar a (.slice ap u B) L/\Below a g ar:=⟨z.o,J.o⟩;clear aq ak ac aS;go_wp2;refine ⟨an,?_⟩;clear an;refine Mixed.mp rfl (.bool cd) ?_;cases cd with
  | false=>
   have G:Hid (false=b3L (opc s) L):=(Qh fun n=>qeZ (QX bG.o) n.1).symm;refine Mixed.ms rfl ?_;refine Mixed.ms rfl ?_;refine Mixed.ms rfl ?_;refine Mixed.mp rfl (.bool false) ?_;refine Mixed.mp rfl (.bool false) ?_;refine Mixed.ms rfl ?_;refine Mixed.ms rfl ?_;refine Mixed.ms rfl ?_;refine Mixed.ms rfl ?_;refine Mixed.ms rfl ?_;simp only [Mixed.qAU,Qr,Qx];go_wp2
   go_meet
   exact ⟨by rw [G.o],z.o,J.o⟩
  | true=>
   have a4:=qtA (Qo bG.o);by_cases c:u=2
   ·obtain ⟨j,aL,rfl⟩:=qlR L (by rw [am.o];exact c)
    have cQ:Hid (j=qbV->true=b3L (opc s) [j,aL]):=(fun n=>(Qn ⟨a4,rfl,by rw [n];rfl⟩).symm);have cH:Hid (¬j=qbV->false=b3L (opc s) [j,aL]):=(fun n=>(Qh fun cz=>n (by simpa using cz.2.2)).symm);obtain ⟨i,h,aK,r,-,-,o⟩:=z.o.qA8 (by simp);simp only [Qy] at r;obtain ⟨rfl,-,-⟩:=r;have aY:Hid (∀ wx,qan wx a (.slice (some ⟨i,h,none⟩) u B) [j,aL]->wx.cell? ⟨i,h,none⟩=some (.int .i64 j.1)/\wx.cell? ⟨i,h+1,none⟩=some (.int .i64 j.2.1)/\wx.cell? ⟨i,h+2,none⟩=some (.int .i64 j.2.2)):=fun wx aJ=>by
     obtain ⟨c0,cT,cB,r,-,-,o⟩:=aJ.qA8 (by simp);simp only [Qy,Qv,Addr.mk.injEq,and_true] at r;obtain ⟨⟨rfl,rfl⟩,-,-⟩:=r;have m:=o.at_ 0 (by simp);simpa using m
    subst c;obtain ⟨ay,aw,av⟩:=j;simp only at aY;clear o a4;refine Mixed.mp rfl (.slice (some ⟨i,h,none⟩) 2 B) ?_;refine Mixed.mp rfl (.int .i64 2) ?_;refine Mixed.mp rfl (.bool true) ?_;refine Mixed.mp rfl (.bool true) ?_;refine Mixed.mp rfl (.bool true) ?_;refine Mixed.mp rfl (.slice (some ⟨i,h,none⟩) 2 B) ?_;refine Mixed.mp rfl (.pointer (some ⟨i,h,none⟩)) ?_;refine Mixed.mo rfl (.agg #[.int .i64 ay,.int .i64 aw,.int .i64 av]) (fun w y=>by obtain ⟨aa,c,m⟩:=aY.o w y.1;clear y;go_simp;try rfl) ?_;refine Mixed.mo rfl (.agg #[.int .i64 1,.int .i64 7,.int .i64 0]) (fun w y=>by obtain ⟨-,⟨aa,c,m⟩,-⟩:=FK.o w y.2;clear y;go_simp;try rfl) ?_;by_cases q:(ay,aw,av)=qbV
    ·have G:=J9 (cQ.o q)
     simp only [qbV,Zl] at q;obtain ⟨rfl,rfl,rfl⟩:=q;refine Mixed.mp rfl (.bool true) ?_;simp only [Mixed.qAU,Qr,Qx];go_wp2
     go_meet
     exact ⟨by rw [<- G.o],z.o,J.o⟩
    ·have G:=J9 (cH.o q)
     have aG:=qlE q;simp only [qbV] at aG;rcases aG with y | ⟨rfl,y⟩ | ⟨rfl,rfl,y⟩
     all_goals
      refine Mixed.mp rfl (.bool false) ?_;simp only [Mixed.qAU,Qr,Qx];go_wp2
      go_meet
      exact ⟨by rw [<- G.o],z.o,J.o⟩
   ·have G:Hid (false=b3L (opc s) L):=(Qh fun n=>c (by rw [<- am.o];exact n.2.1)).symm
    have m:¬((u:Int)=2):=(by omega);refine Mixed.mp rfl (.slice ap u B) ?_;refine Mixed.mp rfl (.int .i64 u) ?_;refine Mixed.mp rfl (.bool false) ?_;refine Mixed.mp rfl (.bool false) ?_;refine Mixed.mp rfl (.bool false) ?_;refine Mixed.ms rfl ?_;refine Mixed.ms rfl ?_;refine Mixed.ms rfl ?_;refine Mixed.ms rfl ?_;refine Mixed.ms rfl ?_;simp only [Mixed.qAU,Qr,Qx];go_wp2
    go_meet
    exact ⟨by rw [G.o],z.o,J.o⟩
 case rest=>
  obtain ⟨rfl,ae,Q⟩:=hcut;clear bM bl bo;have aT:Hid (qan wc a (.slice ap u B) L/\Below a g wc):=⟨ae.o,Q.o⟩;clear ae Q
  go_upto_if 29 with fail
  obtain ⟨ag,au⟩:=N9 (b3L (opc s) L);rw [au];have a0:=J9 au;clear au
  go_cut [4] (fun v wx=>∃ aW ah,v=.slice aW (if ag then 1 else u) ah/\Hid (qan wx a v (if ag then L.tail else L))/\Hid (Below a g wx))
  case first=>
   cases ag with
   | false=>
    go_wp2
    go_meet
    exact ⟨ap,B,rfl,aT.o.1,aT.o.2⟩
   | true=>
    obtain ⟨a4,c,m⟩:=Qo a0.o;obtain ⟨j,aL,rfl⟩:=qlR L c;obtain rfl:u=2:=am.o.symm;obtain ⟨i,h,aK,r,aB,aP,o⟩:=aT.o.1.qA8 (by simp);simp only [Qy] at r;obtain ⟨rfl,-,rfl⟩:=r;have dh:2<=B:=aB;have cr:=aP;unfold maxLen at cr;have da:¬(B=1):=(by omega);have cv:Hid (qc8 wc a i (h+3) [aL]):=by
     obtain ⟨aa,cL,cM,c⟩:=o;refine ⟨aa,cL,cM,fun b bV Z=>?_⟩
     match b,Z with
     | 0,Z=>exact c 3 bV Z
     | 1,Z=>exact c 4 bV Z
     | 2,Z=>exact c 5 bV Z
     | b+3,Z=>cases Z
    have c4:Hid (B - 1<=maxLen):=(by unfold maxLen Hid;omega);clear o a4 c m aB aP;go_wp2
    go_meet
    exact ⟨_,B - 1,rfl,.inr ⟨i,h+3,B - 1,rfl,by simp;omega,c4.o,cv.o⟩,aT.o.2⟩
  case rest=>
   obtain ⟨aW,ah,rfl,z,J⟩:=hcut;have aQ:=J9 (qea (opc s) L ag a0.o);have U:(if ag then L.tail else L).length=(if ag then 1 else u):=by
    cases ag with
    | true=>
     obtain ⟨-,c,-⟩:=Qo a0.o;simp only [if_true,List.length_tail,c]
    | false=>simpa using am.o
   obtain ⟨V,bw⟩:=N9 ((if ag then L.tail else L));obtain ⟨K,bk⟩:=N9 ((if ag then 1 else u));rw [bw,bk] at U;rw [bw] at aQ z;have c7:K<=900:=by rw [<- bk];split <;> omega
   have aX:=J9 U;obtain ⟨N,aI⟩:=N9 (b5L (opc s) V);rw [aI] at aQ;have aF:=J9 aI;rw [bk] at z |-;clear bw bk U aI aT a0
   go_upto_region 5 with fail
   go_cut [40] (fun p wx=>p=.bool N/\Hid (qan wx a (.slice aW K ah) V)/\Hid (Below a g wx))
   case first=>
    have O:a<=wc.heap.size:=Qj ax.o J.o.size;have ab:∀ e,Below wc.heap.size wc (wc.alloc e):=(fun e=>(Qc _ _).alloc (Qa _) e);have ak:=(fun e=>J9 (z.o.below (ab e)));have ac:=(fun e=>J9 (J.o.trans ((ab e).mono O)));have aS:=J9 ((a3 (wc.alloc (.cells (W2.map Value.string).toArray 9)) (some ⟨wc.heap.size,0,none⟩) 3).o (qaH wc W2 9));have bg:=(FK.o _ (ac (.cells #[.string ⟨#[65,68,68]⟩,.string ⟨#[65,68,67]⟩,.string ⟨#[83,66,67]⟩] 9)).o).1.1;clear ab O z J
    go_wp2_with fail
    refine aS.o.mono ?_;rintro b6 ar ⟨rfl,aq⟩;have z:Hid (qan ar a (.slice aW K ah) V):=(by rw [<- aq];exact (ak _).o);have J:Hid (Below a g ar):=(by rw [<- aq];exact (ac _).o);clear aq ak ac aS bg;cases cK with
    | false=>
     have G:Hid (false=N):=(by rw [<- aF.o];exact (Qh fun n=>qe8 (QX bt.o) n.1).symm);go_wp2
     go_meet
     exact ⟨by rw [G.o],z.o,J.o⟩
    | true=>
     have aO:=qrd (Qo bt.o);by_cases c:K=1
     ·have G:Hid (true=N):=by rw [<- aF.o];exact (Qn ⟨aO,by rw [aX.o,c]⟩).symm
      have m:(K:Int)=1:=(by omega);have cO:((K:Int) == 1)=true:=(by rw [m];rfl);clear aO c m;go_wp2
      go_meet
      exact ⟨by rw [G.o],z.o,J.o⟩
     ·have G:Hid (false=N):=by rw [<- aF.o];exact (Qh fun n=>c (by rw [<- aX.o];exact n.2)).symm
      have m:¬((K:Int)=1):=(by omega);have cO:((K:Int) == 1)=false:=Qm.2 m;clear aO;go_wp2
      go_meet
      exact ⟨by rw [G.o],z.o,J.o⟩
   case rest=>
    obtain ⟨rfl,aE,aC⟩:=hcut;clear z J a3
    go_upto_if 40 with fail
    go_cut [4] (fun v wx=>∃ bF bs,v=.slice bF (if N then 2 else K) bs/\Hid (qan wx a v (if N then qbV :: V else V))/\Hid (Below a g wx))
    case first=>
     cases N with
     | false=>
      go_wp2
      go_meet
      exact ⟨aW,ah,rfl,aE.o,aC.o⟩
     | true=>
      obtain ⟨aO,c⟩:=Qo aF.o;obtain ⟨j,rfl⟩:∃ j,V=[j]:=by
       cases V with
       | nil=>simp at c
       | cons cF cm=>
        cases cm with
        | nil=>exact ⟨cF,rfl⟩
        | cons c9 cm=>simp at c
      obtain rfl:K=1:=aX.o.symm;obtain ⟨i,h,aK,r,-,-,o⟩:=aE.o.qA8 (by simp);simp only [Qy] at r;obtain ⟨rfl,-,-⟩:=r;have aY:Hid (∀ wx,qan wx a (.slice (some ⟨i,h,none⟩) 1 ah) [j]->wx.cell? ⟨i,h,none⟩=some (.int .i64 j.1)/\wx.cell? ⟨i,h+1,none⟩=some (.int .i64 j.2.1)/\wx.cell? ⟨i,h+2,none⟩=some (.int .i64 j.2.2)):=fun wx aJ=>by
       obtain ⟨c0,cT,cB,r,-,-,o⟩:=aJ.qA8 (by simp);simp only [Qy,Qv,Addr.mk.injEq,and_true] at r;obtain ⟨⟨rfl,rfl⟩,-,-⟩:=r;have m:=o.at_ 0 (by simp);simpa using m
      obtain ⟨ay,aw,av⟩:=j;simp only at aY;clear o aO c
      go_upto_region 6 with fail
      obtain ⟨W,bY⟩:∃ j,j=wc:=⟨_,rfl⟩;rw [<- bY] at aE aC |-;clear bY;obtain ⟨x,ai⟩:=N9 (W.drew);have aA:Below W.heap.size W x:=(by rw [<- ai];exact below_drewN W _ 1);have ae:=J9 (aE.o.below aA);have Q:=J9 (aC.o.trans (aA.mono (Qj ax.o aC.o.size)));clear aA aE aC;refine Mixed.qAQ (fun aV=>qan aV a (.slice (some ⟨i,h,none⟩) 1 ah) [(ay,aw,av)]/\Below a g aV) 5 [(0,true),(1,true),(2,true),(3,true),(4,false)] (by kernel_rfl) (by kernel_rfl) (by rw [ai];exact ⟨ae.o,Q.o⟩) ?_;rw [ai];clear ai;refine Mixed.mo rfl (.agg #[.int .i64 1,.int .i64 7,.int .i64 0]) (fun w y=>by obtain ⟨-,⟨aa,c,m⟩,-⟩:=FK.o w y.2;clear y;go_simp;try rfl) ?_;refine Mixed.mp rfl (.slice (some ⟨i,h,none⟩) 1 ah) ?_;refine Mixed.mp rfl (.pointer (some ⟨i,h,none⟩)) ?_;refine Mixed.mo rfl (.agg #[.int .i64 ay,.int .i64 aw,.int .i64 av]) (fun w y=>by obtain ⟨aa,c,m⟩:=aY.o w y.1;clear y;go_simp;try rfl) ?_;refine Mixed.qAR rfl (by kernel_rfl) ?_;have O:a<=x.heap.size:=Qj ax.o Q.o.size;have ab:∀ e,Below x.heap.size x (x.alloc e):=(fun e=>(Qc _ _).alloc (Qa _) e);have ak:=J9 (qjv x qbV (ay,aw,av) a O);have ac:=(fun e=>J9 (Q.o.trans ((ab e).mono O)));have an:=(fun e=>(show qan (x.alloc e) a (.slice (some ⟨i,h,none⟩) 1 ah) [(ay,aw,av)]/\Below a g (x.alloc e) from ⟨ae.o.alloc e,(ac e).o⟩));clear ab ae Q O;go_wp2;refine ⟨an _,?_⟩;clear an;simp only [Mixed.qAU,Qr,Qx];go_wp2
      go_meet
      exact ⟨_,2,rfl,ak.o,(ac _).o⟩
    case rest=>
     obtain ⟨bF,bs,rfl,a9,bL⟩:=hcut;have U:(if N then qbV :: V else V).length=(if N then 2 else K):=by
      cases N with
      | true=>
       obtain ⟨-,c⟩:=Qo aF.o;simp only [if_true,Qt,c]
      | false=>simpa using aX.o
     obtain ⟨E,bp⟩:=N9 ((if N then qbV :: V else V));obtain ⟨bn,bi⟩:=N9 ((if N then 2 else K));rw [bp,bi] at U;rw [bp] at aQ a9;have cE:bn<=900:=by rw [<- bi];split <;> omega
     have cg:=J9 U;obtain ⟨ad,bT⟩:=N9 (b9L (opc s) E);have bI:=J9 bT;have a5:=J9 (qfy (opc s) E);rw [bT] at a5;rw [bi] at a9 |-;clear bp bi U bT aE aC aF aX bG bt c7
     go_upto_region 9 with fail
     obtain ⟨af,aN⟩:=N9 ((wc.alloc (.cells #[.int .i64 3,.int .i64 2,.int .i64 0] 56)).alloc (.cells #[.int .i64 3,.int .i64 1,.int .i64 0] 56));have br:Below wc.heap.size wc af:=(by rw [<- aN];exact (B0).alloc (by simp) _);have O:a<=wc.heap.size:=Qj ax.o bL.o.size;have b8:=J9 (a9.o.below br);have bP:=J9 (bL.o.trans (br.mono O));have bO:af.cell? ⟨wc.heap.size,0,none⟩=some (.int .i64 3)/\af.cell? ⟨wc.heap.size,1,none⟩=some (.int .i64 2)/\af.cell? ⟨wc.heap.size,2,none⟩=some (.int .i64 0):=(by rw [<- aN];exact ⟨by simp [go_sem],by simp [go_sem],by simp [go_sem]⟩);have bR:af.cell? ⟨wc.heap.size+1,0,none⟩=some (.int .i64 3)/\af.cell? ⟨wc.heap.size+1,1,none⟩=some (.int .i64 1)/\af.cell? ⟨wc.heap.size+1,2,none⟩=some (.int .i64 0):=(by rw [<- aN];exact ⟨by simp [go_sem],by simp [go_sem],by simp [go_sem]⟩);rw [aN];obtain ⟨dk,aI⟩:=N9 (wc.heap.size);obtain ⟨df,cl⟩:=N9 (wc.heap.size+1);rw [cl] at bR |-;rw [aI] at bO |-;have bW:=J9 bO;have b5:=J9 bR;clear aN br O a9 bL aI cl bO bR
     go_cut [69] (fun p wx=>p=.bool ad/\Hid (∃ n,wx=af.drewN n))
     case first=>
      obtain ⟨⟨bE,-⟩,-,-⟩:=FK.o af bP.o;obtain ⟨dq,dc,dl⟩:=bW.o;obtain ⟨di,dp,dg⟩:=b5.o;by_cases m:I3 s
      ·exact absurd m ck
      ·have dj:(s.toList == [69,88])=false:=by simpa using qak m
       have G:Hid (false=ad):=by
        rw [<- bI.o];exact (Qh fun n=>qfR m n.1).symm
       clear m
       go_quiet (fail)
       go_wp2
       go_meet
       exact ⟨by rw [G.o],⟨_,rfl⟩⟩
     case rest=>
      obtain ⟨rfl,cx,rfl⟩:=hcut
      go_upto_if 69 with fail
      go_cut [4] (fun v wx=>∃ aH aj,v=.slice aH (if ad then 2 else bn) aj/\Hid (qan wx a v (if ad then [deT,hlT] else E))/\Hid (Below a g wx))
      case first=>
       cases ad with
       | false=>
        go_wp2
        go_meet
        exact ⟨bF,bs,rfl,b8.o,qce bP.o cx⟩
       | true=>
        exact absurd (Qo bI.o).1 (qfR ck)
      case rest=>
       obtain ⟨aH,aj,rfl,bf,a1⟩:=hcut;have U:(if ad then [deT,hlT] else E).length=(if ad then 2 else bn):=by
        cases ad with
        | true=>rfl
        | false=>simpa using cg.o
       obtain ⟨F,bz⟩:=N9 ((if ad then [deT,hlT] else E));obtain ⟨nq,a6⟩:=N9 ((if ad then 2 else bn));rw [bz,a6] at U;rw [bz] at a5 bf;have db:nq<=900:=by rw [<- a6];split <;> omega
       have bD:=J9 U;rw [a6] at bf |-;have bN:Hid (canL (opc s) L=F.map (wrapT (qeK (qcP (opc s) L)))):=by
        show canL (opc s) L=_;unfold canL;rw [aQ.o,a5.o]
       clear bz a6 U bI b8 bP cg aQ a5 bW b5 cE;obtain ⟨⟨bE,cq⟩,-,bZ⟩:=FK.o wc a1.o;have bm:=J9 (qdr s A cap L (by rw [am.o];omega) wc bZ);have cW:=qbT (opc s) L;obtain ⟨j,q⟩:=N9 (qcP (opc s) L);have cu:Hid (j=1):=q.symm.trans c8;rw [q] at bm cW bN;rw [am.o] at bm;have c6:=(fun v=>J9 (qjS v F));have cy:=(fun v=>J9 (qiK v F));have ct:=(fun v=>J9 (qjm v F));have cX:=(fun v=>J9 (qjs v F));have be:∀ v b,(wL v F b).length=nq:=fun v b=>by rw [qgp];exact bD.o
       have O:a<=wc.heap.size:=Qj ax.o a1.o.size;have b1:=J9 O;have ci:Hid (∀ wr v,Below a g wr->qan wr a v (F.map (wrapT (qeK j)))->∃ bj cf bc,v=.slice bj cf bc/\(wr.cell? ⟨w.heap.size,0,none⟩=some (.string s))/\Rz wr (w.heap.size+1)/\qiF w s (canL (opc s) L) (.returned (.agg #[.string s,v])) ((wr.setCell ⟨w.heap.size+1,0,none⟩ (.string s)).setCell ⟨w.heap.size+1,1,none⟩ v)):=fun wr v M aJ=>by
        have cY:=aU.o;obtain ⟨bj,bc,bd,-,-,-⟩:=aJ.ops;refine ⟨bj,_,bc,bd,(FK.o wr M).1.1,(M.block _ (by omega)).trans b2.o,v,rfl,?_,?_⟩
        ·rw [bN.o]
         exact ((aJ.low ⟨w.heap.size+1,0,none⟩ (by simp;omega) _).low ⟨w.heap.size+1,1,none⟩ (by simp;omega) _).lift (by omega)
        ·exact ((T.o.trans (M.mono (by omega))).setCell (p:=⟨w.heap.size+1,0,none⟩) (by simp) _).setCell (p:=⟨w.heap.size+1,1,none⟩) (by simp) _
       clear bZ O q bN b2 aU T am cJ
       go_wp2_with fail
       refine bm.o.mono ?_;rintro b6 dm ⟨rfl,M⟩;have ca:=J9 (bf.o.below M);have b9:=J9 (a1.o.trans (M.mono b1.o));clear M bm bf a1 bE cq b1;obtain rfl:j=1:=cu.o;rw [show qeK 1=256 from rfl] at ci;go_wp2
       go_loopw [8] (fun bH wr=>∃ b:Nat,b<=nq/\bH=.int .i64 b/\Hid (qan wr a (.slice aH nq aj) (wL 256 F b))/\Hid (Below a g wr)) (fun bH _=>nq - (intOf bH).toNat)
       case atStart=>exact ⟨0,Qu _,rfl,ca.o,b9.o⟩
       case round=>
        clear ca b9;obtain ⟨b,Z,rfl,Y,T⟩:=hrel;by_cases co:b<nq
        ·have a8:b<F.length:=by rw [bD.o];exact co
         have bB:b<(wL 256 F b).length:=(by rw [be];exact co);obtain ⟨i,h,aK,r,aB,aP,o⟩:=Y.o.qA8 (by omega);rw [be] at r aB;simp only [Qy] at r;obtain ⟨rfl,-,rfl⟩:=r;obtain ⟨bq,bC,bS⟩:=o.at_ b bB;rw [(cX 256).o b a8 bB] at bq bC bS;have dr:=o.frozen (h+b*3+2);have az:=J9 ((c6 256).o b a8);have E:=J9 ((cy 256).o b a8);obtain ⟨⟨cC,dd,aD⟩,cn⟩:=N9 (F[b]);rw [cn] at bq bC bS az E;simp only at bq bC bS az E;have c1:Hid (a<=i):=o.1;have cS:=J9 aB;have cV:=J9 aP;have o:=J9 o;clear a8 bB cn aB aP;by_cases aM:cC=6
         ·by_cases b3:aD<0
          ·have cU:¬(0:Int)<=aD:=by omega
           by_cases de : -128<=aD
           ·have q:=az.o ⟨aM,by omega,b3⟩
            have c3:Hid (qan (wr.setCell ⟨i,h+b*3+2,none⟩ (.int .i64 (aD+256))) a (.slice (some ⟨i,h,none⟩) nq aj) (wL 256 F (b+1))):=by
             have m:=o.o.put (b*3+2) _ q;rw [<- Nat.add_assoc] at m;exact .inr ⟨i,h,aj,by rw [be],by rw [be];exact cS.o,cV.o,m⟩
            have cN:Hid (Below a g (wr.setCell ⟨i,h+b*3+2,none⟩ (.int .i64 (aD+256)))):=T.o.setCell (p:=⟨i,h+b*3+2,none⟩) c1.o _;subst aM;clear q az E Y T o;go_wp2;go_roundw
            case rel=>exact ⟨b+1,by omega,by go_num,c3.o,cN.o⟩
            case measure=>simp [intOf];omega
           ·have q:=E.o fun n=>absurd n.2.1 (by omega)
            rw [q] at Y;subst aM;clear q az E o;go_wp2;go_roundw
            case rel=>exact ⟨b+1,by omega,by go_num,Y.o,T.o⟩
            case measure=>simp [intOf];omega
          ·have q:=E.o fun n=>b3 n.2.2
           have cU:(0:Int)<=aD:=(by omega);rw [q] at Y;subst aM;clear q az E o;go_wp2;go_roundw
           case rel=>exact ⟨b+1,by omega,by go_num,Y.o,T.o⟩
           case measure=>simp [intOf];omega
         ·have q:=E.o fun n=>aM n.1
          rw [q] at Y;clear q az E o;go_wp2;go_roundw
          case rel=>exact ⟨b+1,by omega,by go_num,Y.o,T.o⟩
          case measure=>simp [intOf];omega
        ·have c5:b=nq:=by omega
         subst c5;have cc:wL 256 F b=F.map (wrapT 256):=by
          rw [show b=F.length from bD.o.symm];exact (ct 256).o
         rw [cc] at Y;obtain ⟨bj,cf,bc,bd,bE,bK,a7⟩:=ci.o wr _ T.o Y.o;simp only [Qy] at bd;obtain ⟨rfl,rfl,rfl⟩:=bd;obtain ⟨cw,cI,cG,cP⟩:=bK.cells;have cp:=J9 (bK.set s (.slice aH b aj));have a7:=J9 a7;clear bK cc;go_wp2;obtain ⟨bg,bh⟩:=cp.o;obtain ⟨dn,b7⟩:=N9 (((wr.setCell ⟨w.heap.size+1,0,none⟩ (.string s)).setCell ⟨w.heap.size+1,1,none⟩ (.slice aH b aj)));rw [b7] at a7 bg bh |-;clear b7 cw cI cG cP;refine bodyPost_ret (v:=.agg #[.string s,.slice aH b aj]) ?_ rfl a7.o;simp [results,results16,go_sem,bg,bh]
theorem qkq {s:ByteArray} {L:List Tr} {c:Nat} (h:opc s=c) (q:c=1\/c=2\/c=3):qcP (opc s) L=1:=by
 rw [h];unfold qcP;rcases q with rfl | rfl | rfl <;> simp
theorem qiq (s:ByteArray) (A:Option Addr) (cap:Nat) (L:List Tr) (y:L.length<=900) (w:World) (H:qai w A L) :
  Calls prog 16 #[.agg #[.string s,.slice A L.length cap]] w (qiF w s (canL (opc s) L)):=by
 by_cases q:I3 s
 ·have G:=qvQ q
  exact qzJ s A cap L y w H (fun k=>by have:=qtA k;omega) (fun k=>by have:=qrd k;omega) q (qkq G (.inr (.inr rfl)))
 have z:qcP (opc s) L≠1->¬I1 s:=fun h k=>h (qkq (qtA k) (.inl rfl))
 have E:qcP (opc s) L≠1->¬I2 s:=fun h k=>h (qkq (qrd k) (.inr (.inl rfl)))
 rcases qbT (opc s) L with h | h | h
 ·exact qyF s A cap L y w H (z (by rw [h];omega)) (E (by rw [h];omega)) q h
 ·exact qzN s A cap L y w H q h
 ·exact qw5 s A cap L y w H (z (by rw [h];omega)) (E (by rw [h];omega)) q h
end Go.Proofs.YtecpnfhpcamljaaGreatDoor
namespace Go.Proofs.YtecpnfhpcamljaaGreatDoor
open Tryz
open Go.RowKit Go.Shelf
attribute [local go_sem] Oper.semAt_some
attribute [local irreducible] Go.Mixed.qAU
theorem qeG (w1:World) (A:Option Addr) (cap n:Nat) (L:List Int) (q y:Int) (E:L.length=n) (J:n<=1000) (z:KsP w1 A L) :
  ∃ w2 h,w1.alloc (.cells #[.slice A n cap] 168)=w2/\(w2.alloc (.cells #[.int .i64 q] 3)).alloc (.cells #[.int .i64 y] 3)=h/\
  qdV h (.agg #[.func (.func 227) #[] #[.pointer (some ⟨w1.heap.size,0,none⟩)],.func (.func 229) #[] #[.pointer (some ⟨w2.heap.size,0,none⟩),.pointer (some ⟨w2.heap.size+1,0,none⟩)]]) (L,q,y)/\Below w1.heap.size w1 h/\h.heap.size=w1.heap.size+3:=by
 subst E;refine ⟨_,_,rfl,rfl,⟨_,_,_,A,cap,rfl,?_,?_,?_,?_,J⟩,?_,by simp⟩
 ·exact ((Boxed.new w1 _ _).alloc _).alloc _
 ·exact z.below ((((B0 (w:=w1))).alloc (by simp) _).alloc (by simp;omega) _)
 ·exact (Boxed.new _ _ _).alloc _
 ·have G:=Boxed.new ((w1.alloc (.cells #[.slice A L.length cap] 168)).alloc (.cells #[.int .i64 q] 3)) 3 (.int .i64 y)
  rwa [QB] at G
 ·exact (((B0 (w:=w1))).alloc (by simp) _).alloc (by simp;omega) _
theorem qmm (w:World) (L:List Int) (cs:Array Value) (h:cs.toList=L.map fun n=>.int .i64 n) (t:TypeId):KsP (w.alloc (.cells cs t)) (some ⟨w.heap.size,0,none⟩) L:=by
 refine .inr ⟨_,0,rfl,fun q k=>?_⟩;rw [C9 (heap_alloc_new w _),QT,<- Q8,h,Zi,Qg k];rfl
def qgP (w:World) (b:Nat) (x:Vr):Prop:=∃ f g,w.heap[b]?=some (.cells #[f,g] 199 (0,0))/\qdV w (.agg #[f,g]) x
theorem qgP.lt {w:World} {b:Nat} {x:Vr} (g:qgP w b x):b<w.heap.size:=by
 obtain ⟨h,q,f,-⟩:=g;exact (Qb.1 f).1
theorem qgP.below {w w':World} {b:Nat} {x:Vr} (f:qgP w b x) (g:Below w.heap.size w w'):qgP w' b x:=by
 have E:=f.lt;obtain ⟨q,z,h,y⟩:=f;exact ⟨q,z,(g.block _ E).trans h,y.below g⟩
theorem KsP.put {w:World} {A:Option Addr} {L:List Int} (z:KsP w A L) {b:Nat} {f g:Value} (y:w.heap[b]?=some (.cells #[f,g] 199 (0,0))) (K:∀ k n,f≠.int k n) (G:∀ k n,g≠.int k n) (j:Nat) (u:Value):KsP (w.setCell ⟨b,j,none⟩ u) A L:=by
 rcases z with rfl | ⟨h,q,rfl,E⟩
 ·exact .inl rfl
 ·refine .inr ⟨h,q,rfl,fun k O=>?_⟩
  have c:=E k O;have J:h≠b:=by
   rintro rfl;rw [C9 y] at c;have:q+k=0\/q+k=1:=by
    have M:=(Qb.1 c).1;simp at M;omega
   rcases this with e | e
   ·rw [e] at c;exact K _ _ (Qs c)
   ·rw [e] at c;exact G _ _ (Qs c)
  have e:=Q1 (a:=⟨h,q+k,none⟩) (heap_setCell_other w ⟨b,j,none⟩ h u J);exact e.trans c
theorem Boxed.other {w:World} {b c:Nat} {t:TypeId} {v:Value} (h:Boxed w c t v) (q:c≠b) (j:Nat) (u:Value):Boxed (w.setCell ⟨b,j,none⟩ u) c t v:=(heap_setCell_other w ⟨b,j,none⟩ c u q).trans h
theorem Boxed.apart {w:World} {b c:Nat} {t:TypeId} {v:Value} (q:Boxed w c t v) {cs:Array Value} {ty:TypeId} {y:Nat×Nat} (h:w.heap[b]?=some (.cells cs ty y)) (z:t≠ty):c≠b:=by
 rintro rfl;rw [show w.heap[c]?=_ from q] at h;simp at h;exact z h.2.1
theorem qdV.funs {w:World} {f g:Value} {x:Vr} (e:qdV w (.agg #[f,g]) x):(∀ k n,f≠.int k n)/\∀ k n,g≠.int k n:=by
 obtain ⟨z,q,y,A,E,h,-⟩:=e;cases h;exact ⟨fun k n e=>(by cases e),fun k n e=>(by cases e)⟩
theorem qdV.form {w:World} {f g:Value} {x:Vr} (y:qdV w (.agg #[f,g]) x):∃ q e h,f=.func (.func 227) #[] #[.pointer (some ⟨q,0,none⟩)]/\g=.func (.func 229) #[] #[.pointer (some ⟨e,0,none⟩),.pointer (some ⟨h,0,none⟩)]:=by
 obtain ⟨q,e,h,A,E,z,-⟩:=y;cases z;exact ⟨q,e,h,rfl,rfl⟩
theorem qdV.put {w:World} {v:Value} {x:Vr} (G:qdV w v x) {b:Nat} {f g:Value} (h:w.heap[b]?=some (.cells #[f,g] 199 (0,0))) (A:(∀ k n,f≠.int k n)/\∀ k n,g≠.int k n) (j:Nat) (u:Value):qdV (w.setCell ⟨b,j,none⟩ u) v x:=by
 obtain ⟨T,M,J,U,E,rfl,q,O,z,y,K⟩:=G;exact ⟨T,M,J,U,E,rfl,Boxed.other q (Boxed.apart q h (by decide)) j u,O.put h A.1 A.2 j u,Boxed.other z (Boxed.apart z h (by decide)) j u,Boxed.other y (Boxed.apart y h (by decide)) j u,K⟩
theorem qdV.store {w:World} {v:Value} {x:Vr} (E:qdV w v x) {b:Nat} {f g:Value} (z:w.heap[b]?=some (.cells #[f,g] 199 (0,0))) (y:(∀ k n,f≠.int k n)/\∀ k n,g≠.int k n) (h q:Value) (G:(∀ k n,h≠.int k n)/\∀ k n,q≠.int k n) :
  qdV ((w.setCell ⟨b,0,none⟩ h).setCell ⟨b,1,none⟩ q) v x:=by
 have J:(w.setCell ⟨b,0,none⟩ h).heap[b]?=some (.cells #[h,g] 199 (0,0)):=heap_setCell_same w b 0 _ _ h z;exact (E.put z y 0 h).put J ⟨G.1,y.2⟩ 1 q
theorem qgP.store {w:World} {c:Nat} {x:Vr} (E:qgP w c x) {b:Nat} {f g:Value} (y:w.heap[b]?=some (.cells #[f,g] 199 (0,0))) (J:(∀ k n,f≠.int k n)/\∀ k n,g≠.int k n) (p h:Value) (O:(∀ k n,p≠.int k n)/\∀ k n,h≠.int k n) (q:c≠b) :
  qgP ((w.setCell ⟨b,0,none⟩ p).setCell ⟨b,1,none⟩ h) c x:=by
 obtain ⟨K,G,z,M⟩:=E;exact ⟨K,G,(heap_setCell_other _ ⟨b,1,none⟩ c h q).trans ((heap_setCell_other _ ⟨b,0,none⟩ c p q).trans z),M.store y J p h O⟩
theorem qgP.put {w:World} {b:Nat} {h q:Value} {x:Vr} (y:qdV w (.agg #[h,q]) x) {f g:Value} (z:w.heap[b]?=some (.cells #[f,g] 199 (0,0))) (E:(∀ k n,f≠.int k n)/\∀ k n,g≠.int k n) :
  qgP ((w.setCell ⟨b,0,none⟩ h).setCell ⟨b,1,none⟩ q) b x:=by
 have G:(w.setCell ⟨b,0,none⟩ h).heap[b]?=some (.cells #[h,g] 199 (0,0)):=heap_setCell_same w b 0 _ _ h z;have J:((w.setCell ⟨b,0,none⟩ h).setCell ⟨b,1,none⟩ q).heap[b]?=some (.cells #[h,q] 199 (0,0)):=heap_setCell_same _ b 1 _ _ q G;exact ⟨h,q,J,y.store z E h q y.funs⟩
theorem qdn {w w':World} {s:ByteArray} {b B:Nat} (j:qnu w s b) (y:Below B w w') (z:b<B):qnu w' s b:=fun h q=>(y.cell (p:=⟨b,h,none⟩) z).trans (j h q)
theorem qbd {w:World} {s:ByteArray} {b c:Nat} (k:qnu w s b) (y:b≠c) (j:Nat) (u:Value):qnu (w.setCell ⟨c,j,none⟩ u) s b:=fun h q=>(Q1 (a:=⟨b,h,none⟩) (heap_setCell_other w ⟨c,j,none⟩ b u y)).trans (k h q)
def qbM (ex:Str) (k:Nat):Vr×Vr:=(ex.take k).foldl qjg (vr0,vr0)
theorem qns (ex:Str) (k:Nat) (h:k<ex.length):qbM ex (k+1)=qjg (qbM ex k) ex[k]:=by
 unfold qbM;rw [QL h,List.foldl_append];rfl
theorem qoR (ex:Str):qbM ex ex.length=varsV ex:=by
 unfold qbM varsV;rw [Zt]
def qkD (w:World) (ex:Str) (e:Ending) (w':World):Prop:=∃ f g q h,e=.returned (.tuple #[.agg #[f,g],.agg #[q,h]])/\qdV w' (.agg #[f,g]) (varsV ex).1/\qdV w' (.agg #[q,h]) (varsV ex).2/\Below w.heap.size w w'
theorem qrg (c:UInt8) (n:Nat) (q:n<256) (h:c≠UInt8.ofNat n):((c.toNat:Int) == (n:Int))=false:=(qed c n q _ rfl).symm.trans (Qh h)
theorem qew (aE aD:Int) (m:Str) (A:Option Addr) (aC cap:Nat) (ex:Str) (cA:ex.length<=1000) (al:Bool) (w:World) :
  Calls prog 156 #[enV aE aD m (.slice A aC cap) ex al] w (qkD w ex):=by
 unfold enV;obtain ⟨h,bd⟩:=N9 (sB ex);have bL:h.size=ex.length:=by rw [<- bd,qaB]
 have b0:∀ e (W:e<h.size) (bT:e<ex.length),h[e]=ex[e]:=fun e W bT=>by subst bd;exact qjr ex e W bT
 have cg:=J9 b0;obtain ⟨be,bs⟩:=N9 (ex.length);have bS:=J9 bs;rw [bs] at bL cA;have cy:=fun (w:World)=>run_bytes_of_string (P:=prog) w 9 35 5 h underlying9 underlying35 underlying5
 rw [bd];clear bd b0 bs;obtain ⟨av,aF⟩:=N9 (((w.alloc (.cells #[.int .i64 aE,.int .u8 aD,.string (sB m),.slice A aC cap,.string h,.bool al] 88)).alloc (.cells #[.nilFunc,.nilFunc] 199)).alloc (.cells #[.nilFunc,.nilFunc] 199));obtain ⟨c,aJ⟩:=N9 (w.heap.size);have B0:Below c w av:=by rw [<- aF,<- aJ];exact (((B0 (w:=w))).alloc (by simp) _).alloc (by simp;omega) _
 have bP:av.heap.size=c+1+1+1:=by rw [<- aF,<- aJ];simp
 have bJ:av.heap[c]?=some (.cells #[.int .i64 aE,.int .u8 aD,.string (sB m),.slice A aC cap,.string h,.bool al] 88 (0,0)):=by
  rw [<- aF,<- aJ];exact (Below.heap_alloc _ _ _ (by simp;omega)).trans ((Below.heap_alloc _ _ _ (by simp)).trans (World.alloc_heap_new w _))
 have au:av.heap[c+1]?=some (.cells #[.nilFunc,.nilFunc] 199 (0,0)):=by
  rw [<- aF,<- aJ];refine (Below.heap_alloc _ _ _ (by simp)).trans ?_;have W:=World.alloc_heap_new (w.alloc (.cells #[.int .i64 aE,.int .u8 aD,.string (sB m),.slice A aC cap,.string h,.bool al] 88)) (.cells #[.nilFunc,.nilFunc] 199)
  rwa [QB] at W
 have ay:av.heap[c+1+1]?=some (.cells #[.nilFunc,.nilFunc] 199 (0,0)):=by
  rw [<- aF,<- aJ];have W:=World.alloc_heap_new ((w.alloc (.cells #[.int .i64 aE,.int .u8 aD,.string (sB m),.slice A aC cap,.string h,.bool al] 88)).alloc (.cells #[.nilFunc,.nilFunc] 199)) (.cells #[.nilFunc,.nilFunc] 199)
  rwa [QB,QB] at W
 obtain ⟨Z,k,J,V,bg,bw,cw⟩:=qeG av none 0 0 [] 0 0 rfl (by omega) (.inl rfl);obtain ⟨bK,an,aO,bW,bp,bf,cf⟩:=qeG k none 0 0 [] 0 0 rfl (by omega) (.inl rfl);have l:=qbx none 0 0 av;have n:=qbU 0 0 Z;have bc:=qbx none 0 0 k;have aW:=qbU 0 0 bK;rw [J] at l;rw [V] at n;rw [aO] at bc;rw [bW] at aW;have T:Z.heap.size=c+4:=by rw [<- J];simp;omega
 have bm:bK.heap.size=c+7:=by rw [<- aO];simp;omega
 have bk:k.heap.size=c+6:=by omega
 have b1:Below c w an:=(B0.trans (bw.mono (by omega))).trans (bf.mono (by omega));have a8:Below (c+1+1+1) av an:=(bw.mono (by omega)).trans (bf.mono (by omega));rw [T,bP] at bg;rw [bk,bm] at bp;rw [bP] at l;rw [T] at n;rw [bk] at bc;rw [bm] at aW;have bY:=bg.below bf;have b8:an.heap.size=c+9:=by omega
 have aQ:=(a8.block (c+1) (by omega)).trans au;have a1:=(a8.block (c+1+1) (by omega)).trans ay;have aX:=(a8.block c (by omega)).trans bJ;have b7:(∀ e c,Value.nilFunc≠.int e c)/\∀ e c,Value.nilFunc≠.int e c:=⟨fun e c W=>(by cases W),fun e c W=>(by cases W)⟩;have ax:Hid (an.heap[c+1]?=some (.cells #[.nilFunc,.nilFunc] 199 (0,0))/\an.heap[c+1+1]?=some (.cells #[.nilFunc,.nilFunc] 199 (0,0))/\an.heap[c]?=some (.cells #[.int .i64 aE,.int .u8 aD,.string (sB m),.slice A aC cap,.string h,.bool al] 88 (0,0))/\Below c w an):=⟨aQ,a1,aX,b1⟩;have bt:=J9 bY;have bx:=J9 bp;have b9:=J9 aJ;have bb:=J9 b7;have ce:=J9 aF;clear J V aO bW bg bw cw bf cf bY bp a8 b1 aQ a1 aX b7 B0 bJ au ay T bm bk aJ
 go_enter func156,ntmps156
 go_upto_region 1 with fail
 clear ce aF
 go_wp2_with fail
 refine l.mono ?_;rintro af aa ⟨rfl,rfl⟩;clear l
 go_wp2_with fail
 refine n.mono ?_;rintro af aa ⟨rfl,rfl⟩;clear n
 go_wp2_with fail
 refine bc.mono ?_;rintro af aa ⟨rfl,rfl⟩;clear bc
 go_wp2_with fail
 refine aW.mono ?_;rintro af aa ⟨rfl,rfl⟩;clear aW;rw [b9.o];have ck:=Qp ax.o.1;have cq:=Qp ax.o.2.1;have ct:=C9 ax.o.1 0;have cr:=C9 ax.o.1 1;have ch:=C9 ax.o.2.1 0;have cx:=C9 ax.o.2.1 1
 go_upto_region 2 with fail
 obtain ⟨B,aT,bi,bO,b2,bU⟩:∃ B,(((an.setCell ⟨c+1,0,none⟩ (.func (.func 227) #[] #[.pointer (some ⟨c+1+1+1,0,none⟩)])).setCell ⟨c+1,1,none⟩ (.func (.func 229) #[] #[.pointer (some ⟨c+4,0,none⟩),.pointer (some ⟨c+4+1,0,none⟩)])).setCell ⟨c+1+1,0,none⟩ (.func (.func 227) #[] #[.pointer (some ⟨c+6,0,none⟩)])).setCell ⟨c+1+1,1,none⟩ (.func (.func 229) #[] #[.pointer (some ⟨c+7,0,none⟩),.pointer (some ⟨c+7+1,0,none⟩)])=B/\
   (qgP B (c+1) vr0/\qgP B (c+1+1) vr0)/\B.heap[c]?=some (.cells #[.int .i64 aE,.int .u8 aD,.string (sB m),.slice A aC cap,.string h,.bool al] 88 (0,0))/\Below c w B/\B.heap.size=c+9:=by
  obtain ⟨aQ,a1,aX,co⟩:=ax.o;have bM:qgP _ (c+1) vr0:=qgP.put bt.o aQ bb.o;have ca:((an.setCell ⟨c+1,0,none⟩ (.func (.func 227) #[] #[.pointer (some ⟨c+1+1+1,0,none⟩)])).setCell ⟨c+1,1,none⟩ (.func (.func 229) #[] #[.pointer (some ⟨c+4,0,none⟩),.pointer (some ⟨c+4+1,0,none⟩)])).heap[c+1+1]?=some (.cells #[.nilFunc,.nilFunc] 199 (0,0)):=(heap_setCell_other _ ⟨c+1,1,none⟩ _ _ (by simp)).trans ((heap_setCell_other _ ⟨c+1,0,none⟩ _ _ (by simp)).trans a1);have bQ:=bx.o.store aQ bb.o _ _ bt.o.funs;refine ⟨_,rfl,⟨bM.store ca bb.o _ _ bx.o.funs (by omega),qgP.put bQ ca bb.o⟩,?_,?_,by simp;exact b8⟩
  ·exact (heap_setCell_other _ ⟨c+1+1,1,none⟩ _ _ (by simp;omega)).trans ((heap_setCell_other _ ⟨c+1+1,0,none⟩ _ _ (by simp;omega)).trans ((heap_setCell_other _ ⟨c+1,1,none⟩ _ _ (by simp)).trans ((heap_setCell_other _ ⟨c+1,0,none⟩ _ _ (by simp)).trans aX)))
  ·exact (((co.setCell (p:=⟨c+1,0,none⟩) (by simp) _).setCell (p:=⟨c+1,1,none⟩) (by simp) _).setCell (p:=⟨c+1+1,0,none⟩) (by simp;omega) _).setCell (p:=⟨c+1+1,1,none⟩) (by simp;omega) _
 rw [aT];have cH:=C9 bO 4;have a0:=J9 (qdp B h (grownCap B h.size 0 5) 5);have a5:Below B.heap.size B (B.alloc (.cells (bytesRow h (grownCap B h.size 0 5)) 5 ((bytesRow h (grownCap B h.size 0 5)).size,(bytesRow h (grownCap B h.size 0 5)).size+1))).drew:=(B0).drew;have bA:=J9 (Zb (bi.1.below a5) (bi.2.below a5));have bv:=J9 (b2.trans (a5.mono (by omega)));have bu:Hid (c+10<=(B.alloc (.cells (bytesRow h (grownCap B h.size 0 5)) 5 ((bytesRow h (grownCap B h.size 0 5)).size,(bytesRow h (grownCap B h.size 0 5)).size+1))).drew.heap.size):=by show _<=_;simp;omega
 rw [bU] at a0;rw [bL] at a0 bA bv bu;clear bi bO b2 aT a5 ck cq ct cr ch cx ax bt bx b8;go_wp2;clear cy bU
 go_loopw [16] (fun bz wr=>∃ e:Nat,e<=be/\bz=.int .i64 e/\Hid (qnu wr h (c+9))/\Hid (qgP wr (c+1) (qbM ex e).1/\qgP wr (c+1+1) (qbM ex e).2)/\Hid (Below c w wr)/\Hid (c+10<=wr.heap.size)) (fun bz _=>be - (intOf bz).toNat)
 case atStart=>exact ⟨0,Qu _,rfl,a0.o,bA.o,bv.o,bu.o⟩
 case round=>
  clear a0 bA bv bu;obtain ⟨e,cE,rfl,ab,i,ai,ae⟩:=hrel;by_cases cz:e<be
  ·have cc:e<h.size:=by omega
   have bZ:e<ex.length:=(by rw [bS.o];exact cz);have aO:wr.cell? ⟨c+9,e,none⟩=some (.int .u8 (h[e].toNat:Int)):=ab.o e cc;rw [cg.o e cc bZ] at aO;have ar:=qns ex e bZ;obtain ⟨aw,b4⟩:=N9 (ex[e]);rw [b4] at aO ar;have ar:=J9 ar;clear b4;have cF:e<=1000:=(by omega);by_cases ba:aw=100
   ·subst ba
    have aq:Hid (qbM ex (e+1)=((([5],-128,127):Vr),(qbM ex e).2)):=by
     show qbM ex (e+1)=_;rw [ar.o];unfold qjg;rfl
    have i:=i.o;obtain ⟨K,M,z,R⟩:=i.1;have ac:=i.2;clear i;have O:=R.funs;obtain ⟨f,g⟩:=N9 (wr.heap.size);obtain ⟨y,U⟩:=N9 (wr.alloc (.cells #[.int .i64 5] 3));have S:Below wr.heap.size wr y:=(by rw [<- U];exact B0);have aj:KsP y (some ⟨f,0,none⟩) [5]:=(by rw [<- U,<- g];exact qmm wr [5] _ rfl _);have ag:y.heap.size=f+1:=(by rw [<- U,<- g];simp);obtain ⟨Z,k,J,V,q,ad,aL⟩:=qeG y (some ⟨f,0,none⟩) 1 1 [5] (-128) (127) rfl (by omega) aj;have l:=qbx (some ⟨f,0,none⟩) 1 1 y;have n:=qbU (-128) (127) Z;rw [J] at l;rw [V] at n;have T:Z.heap.size=f+2:=(by rw [<- J];simp;omega);rw [ag] at l;rw [T] at n;rw [ag,T] at q;have E:Below f wr k:=(by rw [<- g];exact S.trans (ad.mono S.size));have G:Below wr.heap.size wr k:=(by rw [g];exact E);have aI:c+1<f:=(by rw [<- g];exact (Qb.1 z).1);have s:Hid (k.heap[c+1]?=some (.cells #[K,M] 199 (0,0))):=(E.block _ aI).trans z;have aH:=J9 (ac.below G);have ah:=J9 O;have q:=J9 q;have aA:c<=f:=(by omega);have aK:=J9 (ai.o.trans (E.mono aA));have aM:Hid (qnu k h (c+9)):=qdn ab.o G (by rw [g];have:=ae.o;rw [g] at this;omega);have aB:Hid (c+10<=k.heap.size):=(by have aG:=G.size;have aN:=ae.o;show _<=_;omega);clear z R ac O ad aL S E G aj J V ab ai i
    go_wp2_with fail
    refine l.mono ?_;rintro af aa ⟨rfl,rfl⟩;clear l
    go_wp2_with fail
    refine n.mono ?_;rintro af aa ⟨rfl,rfl⟩;clear n;have bB:=Qp s.o;have bE:=C9 s.o 0;have bF:=C9 s.o 1;go_wp2;go_roundw
    case rel=>
     refine ⟨e+1,by omega,by go_num,qbd (qbd aM.o (by omega) _ _) (by omega) _ _,?_,(aK.o.setCell (p:=⟨c+1,0,none⟩) (show c<=c+1 by omega) _).setCell (p:=⟨c+1,1,none⟩) (show c<=c+1 by omega) _,by show c+10<=_;simpa using aB.o⟩;rw [aq.o];exact ⟨qgP.put q.o (s).o ah.o,aH.o.store s.o ah.o _ _ q.o.funs (by omega)⟩
    case measure=>simp [intOf];omega
   by_cases a3:aw=101
   ·subst a3
    have aq:Hid (qbM ex (e+1)=((qbM ex e).1,(([10],-128,127):Vr))):=by
     show qbM ex (e+1)=_;rw [ar.o];unfold qjg;rw [Qe (by decide)];rfl
    have i:=i.o;obtain ⟨K,M,z,R⟩:=i.2;have ac:=i.1;clear i;have O:=R.funs;obtain ⟨f,g⟩:=N9 (wr.heap.size);obtain ⟨y,U⟩:=N9 (wr.alloc (.cells #[.int .i64 10] 3));have S:Below wr.heap.size wr y:=(by rw [<- U];exact B0);have aj:KsP y (some ⟨f,0,none⟩) [10]:=(by rw [<- U,<- g];exact qmm wr [10] _ rfl _);have ag:y.heap.size=f+1:=(by rw [<- U,<- g];simp);obtain ⟨Z,k,J,V,q,ad,aL⟩:=qeG y (some ⟨f,0,none⟩) 1 1 [10] (-128) (127) rfl (by omega) aj;have l:=qbx (some ⟨f,0,none⟩) 1 1 y;have n:=qbU (-128) (127) Z;rw [J] at l;rw [V] at n;have T:Z.heap.size=f+2:=(by rw [<- J];simp;omega);rw [ag] at l;rw [T] at n;rw [ag,T] at q;have E:Below f wr k:=(by rw [<- g];exact S.trans (ad.mono S.size));have G:Below wr.heap.size wr k:=(by rw [g];exact E);have aI:c+1+1<f:=(by rw [<- g];exact (Qb.1 z).1);have s:Hid (k.heap[c+1+1]?=some (.cells #[K,M] 199 (0,0))):=(E.block _ aI).trans z;have aH:=J9 (ac.below G);have ah:=J9 O;have q:=J9 q;have aA:c<=f:=(by omega);have aK:=J9 (ai.o.trans (E.mono aA));have aM:Hid (qnu k h (c+9)):=qdn ab.o G (by rw [g];have:=ae.o;rw [g] at this;omega);have aB:Hid (c+10<=k.heap.size):=(by have aG:=G.size;have aN:=ae.o;show _<=_;omega);clear z R ac O ad aL S E G aj J V ab ai i
    go_wp2_with fail
    refine l.mono ?_;rintro af aa ⟨rfl,rfl⟩;clear l
    go_wp2_with fail
    refine n.mono ?_;rintro af aa ⟨rfl,rfl⟩;clear n;have bB:=Qp s.o;have bE:=C9 s.o 0;have bF:=C9 s.o 1;go_wp2;go_roundw
    case rel=>
     refine ⟨e+1,by omega,by go_num,qbd (qbd aM.o (by omega) _ _) (by omega) _ _,?_,(aK.o.setCell (p:=⟨c+1+1,0,none⟩) (show c<=c+1+1 by omega) _).setCell (p:=⟨c+1+1,1,none⟩) (show c<=c+1+1 by omega) _,by show c+10<=_;simpa using aB.o⟩;rw [aq.o];exact ⟨aH.o.store s.o ah.o _ _ q.o.funs (by omega),qgP.put q.o (s).o ah.o⟩
    case measure=>simp [intOf];omega
   by_cases aY:aw=110
   ·subst aY
    have aq:Hid (qbM ex (e+1)=((qbM ex e).1,(([6,7],0,255):Vr))):=by
     show qbM ex (e+1)=_;rw [ar.o];unfold qjg;rw [Qe (by decide)];rw [Qe (by decide)];rfl
    have i:=i.o;obtain ⟨K,M,z,R⟩:=i.2;have ac:=i.1;clear i;have O:=R.funs;obtain ⟨f,g⟩:=N9 (wr.heap.size);obtain ⟨y,U⟩:=N9 (wr.alloc (.cells #[.int .i64 6,.int .i64 7] 3));have S:Below wr.heap.size wr y:=(by rw [<- U];exact B0);have aj:KsP y (some ⟨f,0,none⟩) [6,7]:=(by rw [<- U,<- g];exact qmm wr [6,7] _ rfl _);have ag:y.heap.size=f+1:=(by rw [<- U,<- g];simp);obtain ⟨Z,k,J,V,q,ad,aL⟩:=qeG y (some ⟨f,0,none⟩) 2 2 [6,7] (0) (255) rfl (by omega) aj;have l:=qbx (some ⟨f,0,none⟩) 2 2 y;have n:=qbU (0) (255) Z;rw [J] at l;rw [V] at n;have T:Z.heap.size=f+2:=(by rw [<- J];simp;omega);rw [ag] at l;rw [T] at n;rw [ag,T] at q;have E:Below f wr k:=(by rw [<- g];exact S.trans (ad.mono S.size));have G:Below wr.heap.size wr k:=(by rw [g];exact E);have aI:c+1+1<f:=(by rw [<- g];exact (Qb.1 z).1);have s:Hid (k.heap[c+1+1]?=some (.cells #[K,M] 199 (0,0))):=(E.block _ aI).trans z;have aH:=J9 (ac.below G);have ah:=J9 O;have q:=J9 q;have aA:c<=f:=(by omega);have aK:=J9 (ai.o.trans (E.mono aA));have aM:Hid (qnu k h (c+9)):=qdn ab.o G (by rw [g];have:=ae.o;rw [g] at this;omega);have aB:Hid (c+10<=k.heap.size):=(by have aG:=G.size;have aN:=ae.o;show _<=_;omega);clear z R ac O ad aL S E G aj J V ab ai i
    go_wp2_with fail
    refine l.mono ?_;rintro af aa ⟨rfl,rfl⟩;clear l
    go_wp2_with fail
    refine n.mono ?_;rintro af aa ⟨rfl,rfl⟩;clear n;have bB:=Qp s.o;have bE:=C9 s.o 0;have bF:=C9 s.o 1;go_wp2;go_roundw
    case rel=>
     refine ⟨e+1,by omega,by go_num,qbd (qbd aM.o (by omega) _ _) (by omega) _ _,?_,(aK.o.setCell (p:=⟨c+1+1,0,none⟩) (show c<=c+1+1 by omega) _).setCell (p:=⟨c+1+1,1,none⟩) (show c<=c+1+1 by omega) _,by show c+10<=_;simpa using aB.o⟩;rw [aq.o];exact ⟨aH.o.store s.o ah.o _ _ q.o.funs (by omega),qgP.put q.o (s).o ah.o⟩
    case measure=>simp [intOf];omega
   by_cases a2:aw=119
   ·subst a2
    have aq:Hid (qbM ex (e+1)=((qbM ex e).1,(([6,7],0,65535):Vr))):=by
     show qbM ex (e+1)=_;rw [ar.o];unfold qjg;rw [Qe (by decide)];rw [Qe (by decide)];rw [Qe (by decide)];rfl
    have i:=i.o;obtain ⟨K,M,z,R⟩:=i.2;have ac:=i.1;clear i;have O:=R.funs;obtain ⟨f,g⟩:=N9 (wr.heap.size);obtain ⟨y,U⟩:=N9 (wr.alloc (.cells #[.int .i64 6,.int .i64 7] 3));have S:Below wr.heap.size wr y:=(by rw [<- U];exact B0);have aj:KsP y (some ⟨f,0,none⟩) [6,7]:=(by rw [<- U,<- g];exact qmm wr [6,7] _ rfl _);have ag:y.heap.size=f+1:=(by rw [<- U,<- g];simp);obtain ⟨Z,k,J,V,q,ad,aL⟩:=qeG y (some ⟨f,0,none⟩) 2 2 [6,7] (0) (65535) rfl (by omega) aj;have l:=qbx (some ⟨f,0,none⟩) 2 2 y;have n:=qbU (0) (65535) Z;rw [J] at l;rw [V] at n;have T:Z.heap.size=f+2:=(by rw [<- J];simp;omega);rw [ag] at l;rw [T] at n;rw [ag,T] at q;have E:Below f wr k:=(by rw [<- g];exact S.trans (ad.mono S.size));have G:Below wr.heap.size wr k:=(by rw [g];exact E);have aI:c+1+1<f:=(by rw [<- g];exact (Qb.1 z).1);have s:Hid (k.heap[c+1+1]?=some (.cells #[K,M] 199 (0,0))):=(E.block _ aI).trans z;have aH:=J9 (ac.below G);have ah:=J9 O;have q:=J9 q;have aA:c<=f:=(by omega);have aK:=J9 (ai.o.trans (E.mono aA));have aM:Hid (qnu k h (c+9)):=qdn ab.o G (by rw [g];have:=ae.o;rw [g] at this;omega);have aB:Hid (c+10<=k.heap.size):=(by have aG:=G.size;have aN:=ae.o;show _<=_;omega);clear z R ac O ad aL S E G aj J V ab ai i
    go_wp2_with fail
    refine l.mono ?_;rintro af aa ⟨rfl,rfl⟩;clear l
    go_wp2_with fail
    refine n.mono ?_;rintro af aa ⟨rfl,rfl⟩;clear n;have bB:=Qp s.o;have bE:=C9 s.o 0;have bF:=C9 s.o 1;go_wp2;go_roundw
    case rel=>
     refine ⟨e+1,by omega,by go_num,qbd (qbd aM.o (by omega) _ _) (by omega) _ _,?_,(aK.o.setCell (p:=⟨c+1+1,0,none⟩) (show c<=c+1+1 by omega) _).setCell (p:=⟨c+1+1,1,none⟩) (show c<=c+1+1 by omega) _,by show c+10<=_;simpa using aB.o⟩;rw [aq.o];exact ⟨aH.o.store s.o ah.o _ _ q.o.funs (by omega),qgP.put q.o (s).o ah.o⟩
    case measure=>simp [intOf];omega
   have bM:=qrg aw 100 (by decide) ba;have bQ:=qrg aw 101 (by decide) a3;have cG:=qrg aw 110 (by decide) aY;have cB:=qrg aw 119 (by decide) a2;have aq:Hid (qbM ex (e+1)=qbM ex e):=by
    show qbM ex (e+1)=_;rw [ar.o];unfold qjg;rw [Qe ba,Qe a3,Qe aY,Qe a2]
   clear ba a3 aY a2;go_wp2;go_roundw
   case rel=>exact ⟨e+1,by omega,by go_num,ab.o,by rw [aq.o];exact i.o,ai.o,ae.o⟩
   case measure=>simp [intOf];omega
  ·obtain rfl:e=be:=by omega
   have ci:Hid (qbM ex e=varsV ex):=(by show qbM ex e=_;rw [<- bS.o];exact qoR ex);have i:=i.o;rw [ci.o] at i;obtain ⟨⟨K,M,z,R⟩,ak,am,a7,a4⟩:=i;obtain ⟨bq,bH,br,cu,cj⟩:=R.form;obtain ⟨cd,bN,bI,cn,cv⟩:=a4.form;have O:=J9 R.funs;have a6:=J9 a4.funs;have cC:=J9 (Zb z a7);have aV:=below_drewN wr wr.heap.size 1;have ap:=J9 ((aV.block _ (Qb.1 z).1).trans z);have aZ:=J9 ((aV.block _ (Qb.1 a7).1).trans a7);have A1:=J9 (R.below aV);have bC:=J9 (a4.below aV);have bj:Hid (Below c w wr.drew):=ai.o.drew;have cD:c<=wr.heap.size:=(by have:=ae.o;omega);clear ab i ai z a7 R a4 aV ae
   go_upto_region 15 with fail
   obtain ⟨aP,aU⟩:=N9 (wr.drew);have bX:wr.drewN 1=aP:=aU;rw [bX] at ap aZ A1 bC;rw [aU] at bj;refine Mixed.qAQ (fun b5=>b5.heap[c+1]?=some (.cells #[K,M] 199 (0,0))/\b5.heap[c+1+1]?=some (.cells #[ak,am] 199 (0,0))) 3 [(0,true),(1,true),(2,false)] (by kernel_rfl) (by kernel_rfl) (by rw [aU];exact ⟨ap.o,aZ.o⟩) ?_;rw [aU];refine Mixed.mo rfl (.agg #[K,M]) (fun w W=>by
    obtain ⟨aG,aN⟩:=W;have cm:=C9 aG 0;have az:=C9 aG 1
    go_simp;try rfl) ?_
   refine Mixed.mo rfl (.agg #[ak,am]) (fun w W=>by
    obtain ⟨aG,aN⟩:=W;have cm:=C9 aN 0;have az:=C9 aN 1
    go_simp;try rfl) ?_
   have au:=C9 ap.o 0;have ay:=C9 ap.o 1;have bn:=Qp ap.o;have az:((aP.setCell ⟨c+1,0,none⟩ K).setCell ⟨c+1,1,none⟩ M).heap[c+1]?=some (.cells #[K,M] 199 (0,0)):=heap_setCell_same _ (c+1) 1 _ _ M (heap_setCell_same aP (c+1) 0 _ _ K ap.o);have aS:((aP.setCell ⟨c+1,0,none⟩ K).setCell ⟨c+1,1,none⟩ M).heap[c+1+1]?=some (.cells #[ak,am] 199 (0,0)):=(heap_setCell_other _ ⟨c+1,1,none⟩ _ _ (by simp)).trans ((heap_setCell_other _ ⟨c+1,0,none⟩ _ _ (by simp)).trans aZ.o);have bl:=J9 (A1.o.store ap.o O.o K M O.o);have bo:=J9 (bC.o.store ap.o O.o K M O.o);have bD:Hid (Below c w ((aP.setCell ⟨c+1,0,none⟩ K).setCell ⟨c+1,1,none⟩ M)):=(bj.o.setCell (p:=⟨c+1,0,none⟩) (show c<=c+1 by omega) _).setCell (p:=⟨c+1,1,none⟩) (show c<=c+1 by omega) _;have a9:=J9 az;have ao:=J9 aS;clear az aS ap aZ A1 bC bj aU bX;refine Mixed.qAR rfl (by kernel_rfl) ?_;subst cu cj;go_wp2;obtain ⟨aR,bR⟩:=N9 ((aP.setCell ⟨c+1,0,none⟩ (.func (.func 227) #[] #[.pointer (some ⟨bq,0,none⟩)])).setCell ⟨c+1,1,none⟩ (.func (.func 229) #[] #[.pointer (some ⟨bH,0,none⟩),.pointer (some ⟨br,0,none⟩)]));rw [bR] at a9 ao bl bo bD |-;refine ⟨⟨a9.o,ao.o⟩,?_⟩;clear au ay bn;have au:=C9 ao.o 0;have ay:=C9 ao.o 1;have bn:=Qp ao.o;have aS:((aR.setCell ⟨c+1+1,0,none⟩ ak).setCell ⟨c+1+1,1,none⟩ am).heap[c+1+1]?=some (.cells #[ak,am] 199 (0,0)):=heap_setCell_same _ (c+1+1) 1 _ _ am (heap_setCell_same aR (c+1+1) 0 _ _ ak ao.o);have az:((aR.setCell ⟨c+1+1,0,none⟩ ak).setCell ⟨c+1+1,1,none⟩ am).heap[c+1]?=some (.cells #[.func (.func 227) #[] #[.pointer (some ⟨bq,0,none⟩)],.func (.func 229) #[] #[.pointer (some ⟨bH,0,none⟩),.pointer (some ⟨br,0,none⟩)]] 199 (0,0)):=(heap_setCell_other _ ⟨c+1+1,1,none⟩ _ _ (by simp)).trans ((heap_setCell_other _ ⟨c+1+1,0,none⟩ _ _ (by simp)).trans a9.o);have b6:=J9 (bl.o.store ao.o a6.o ak am a6.o);have bV:=J9 (bo.o.store ao.o a6.o ak am a6.o);have b3:Hid (Below c w ((aR.setCell ⟨c+1+1,0,none⟩ ak).setCell ⟨c+1+1,1,none⟩ am)):=(bD.o.setCell (p:=⟨c+1+1,0,none⟩) (show c<=c+1+1 by omega) _).setCell (p:=⟨c+1+1,1,none⟩) (show c<=c+1+1 by omega) _;have bh:=J9 az;have bG:=J9 aS;clear az aS a9 ao bl bo bD bR;simp only [Mixed.qAU,Qr,Qx];subst cn cv;go_wp2;obtain ⟨B,aT⟩:=N9 ((aR.setCell ⟨c+1+1,0,none⟩ (.func (.func 227) #[] #[.pointer (some ⟨cd,0,none⟩)])).setCell ⟨c+1+1,1,none⟩ (.func (.func 229) #[] #[.pointer (some ⟨bN,0,none⟩),.pointer (some ⟨bI,0,none⟩)]));rw [aT] at bh bG b6 bV b3 |-;clear au ay bn aT;have au:=C9 bh.o 0;have ay:=C9 bh.o 1;have cp:=C9 bG.o 0;have cl:=C9 bG.o 1;refine bodyPost_ret (v:=.tuple #[.agg #[.func (.func 227) #[] #[.pointer (some ⟨bq,0,none⟩)],.func (.func 229) #[] #[.pointer (some ⟨bH,0,none⟩),.pointer (some ⟨br,0,none⟩)]],.agg #[.func (.func 227) #[] #[.pointer (some ⟨cd,0,none⟩)],.func (.func 229) #[] #[.pointer (some ⟨bN,0,none⟩),.pointer (some ⟨bI,0,none⟩)]]]) ?_ rfl ?_
   ·simp [results,results156,go_sem,au,ay,cp,cl]
   ·exact ⟨_,_,_,_,rfl,b6.o,bV.o,by rw [b9.o];exact b3.o⟩
end Go.Proofs.YtecpnfhpcamljaaGreatDoor
