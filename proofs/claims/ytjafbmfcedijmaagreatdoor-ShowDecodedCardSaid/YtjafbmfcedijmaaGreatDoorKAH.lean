/-
  CnUcqRSK, CnUdqRSK, CnUqRSK, SeDqRSK, SeEqRSK, SeFqRSK, MixPqRSK.
-/
import Derived.Test.YtjafbmfcedijmaaGreatDoorKAG
set_option linter.all false
set_option maxRecDepth 100000
set_option maxHeartbeats 4000000
namespace Go.Proofs.YtjafbmfcedijmaaGreatDoor
open Tryz
open Go.RowKit
attribute [local irreducible] Go.Mixed.qD8
theorem qC0 (s:ByteArray) (A:Option Addr) (cap:Nat) (L:List Tr) (cF:L.length<=900) (w:World) (H:qaj w A L) (aZ:¬I1 s) (b9:¬I2 s) (c3:I3 s) (c7:qdc (opc s) L=1) :
  Calls prog 68 #[.agg #[.string s,.slice A L.length cap]] w (qjU w s (canL (opc s) L)):=by
 obtain ⟨g,ah⟩:=N9 (((w.alloc (.cells #[.string s,.slice A L.length cap] 24)).alloc (.cells #[.string ⟨#[]⟩,.slice none 0 0] 24)).alloc (.cells #[.int .i64 1,.int .i64 7,.int .i64 0] 57));have E:Hid (Below w.heap.size w g):=by rw [<- ah];exact ((B0).alloc (by simp) _).alloc (by simp;omega) _
 have aK:Hid (Bx g w.heap.size s A L.length cap):=by rw [<- ah];exact ⟨by simp [go_sem],by simp [go_sem]⟩
 have cd:Hid (Rz g (w.heap.size+1)):=by
  rw [<- ah];have aS:=heap_alloc_new (w.alloc (.cells #[.string s,.slice A L.length cap] 24)) (.cells #[.string ⟨#[]⟩,.slice none 0 0] 24);have o:Below (w.heap.size+2) ((w.alloc (.cells #[.string s,.slice A L.length cap] 24)).alloc (.cells #[.string ⟨#[]⟩,.slice none 0 0] 24)) (((w.alloc (.cells #[.string s,.slice A L.length cap] 24)).alloc (.cells #[.string ⟨#[]⟩,.slice none 0 0] 24)).alloc (.cells #[.int .i64 1,.int .i64 7,.int .i64 0] 57)):=(Qc _ _).alloc (by simp) _;show Rz _ _;refine (o.block _ (by omega)).trans ?_;simpa [Rz] using aS
 have aU:Hid (g.heap.size=w.heap.size+3):=by rw [<- ah];simp [Hid]
 have A1:Hid (g.heap[w.heap.size+2]?=some (.cells #[.int .i64 1,.int .i64 7,.int .i64 0] 57 (0,0))):=by
  rw [<- ah];have aS:=heap_alloc_new ((w.alloc (.cells #[.string s,.slice A L.length cap] 24)).alloc (.cells #[.string ⟨#[]⟩,.slice none 0 0] 24)) (.cells #[.int .i64 1,.int .i64 7,.int .i64 0] 57);simpa [Hid] using aS
 have cl:=J9 (H.below E.o);obtain ⟨cU,aT,b2,bz,o⟩:=qcE A cap L (by omega) g cl.o;have aO:=J9 b2;have cj:Hid (Sv g aT g.heap.size cU L):=by
  obtain ⟨cL,bo,rfl,-,-⟩:=bz.ops;exact ⟨cL,bo,rfl,bz.own,o⟩
 obtain ⟨y,ab⟩:=N9 (L.length);have aN:=J9 ab;rw [ab] at aK aO ah |-;have cQ:y<=900:=by omega
 have b6:=J9 ah;have b5:=J9 H;clear H b2 bz o cl ab cF ah
 go_enter func68,ntmps68
 go_upto_region 2 with fail
 rw [b6.o];obtain ⟨bk,au⟩:=N9 (w.heap.size+1+1);rw [au];obtain ⟨c,bX⟩:=N9 (g.heap.size);obtain ⟨ao,aq,rfl,bi,bC⟩:=cj.o;rw [aN.o] at aO bi;rw [bX] at aO bi bC aU;have a3:(g.alloc (.cells #[] 57)).cell? ⟨w.heap.size,1,none⟩=some (.slice A y cap):=(World.cell?_alloc_lt g _ _ (by have:=aU.o;simp;omega)).trans aK.o.2;have FK:Hid (∀ wx,Below c g wx->(wx.cell? ⟨w.heap.size,0,none⟩=some (.string s)/\wx.cell? ⟨w.heap.size,1,none⟩=some (.slice A y cap))/\(wx.cell? ⟨bk,0,none⟩=some (.int .i64 1)/\wx.cell? ⟨bk,1,none⟩=some (.int .i64 7)/\wx.cell? ⟨bk,2,none⟩=some (.int .i64 0))/\qaj wx A L):=fun wx B=>by
  have cN:=aU.o;have bF:wx.heap[bk]?=some (.cells #[.int .i64 1,.int .i64 7,.int .i64 0] 57 (0,0)):=(B.block _ (by omega)).trans (by rw [<- au];exact A1.o);exact ⟨⟨(B.cell (p:=⟨w.heap.size,0,none⟩) (by simp;omega)).trans aK.o.1,(B.cell (p:=⟨w.heap.size,1,none⟩) (by simp;omega)).trans aK.o.2⟩,⟨by rw [C9 bF];rfl,by rw [C9 bF];rfl,by rw [C9 bF];rfl⟩,b5.o.below (E.o.trans (B.mono (by omega)))⟩
 have br:=J9 bi;have a9:=J9 bC;have bl:=fun (wx:World) A bN=>J9 (qfe A bN W1 (by decide) s wx)
 have bj:=fun (wx:World) A bN=>J9 (qfe A bN W2 (by decide) s wx)
 rw [qB8] at bl;rw [qCb] at bj;obtain ⟨cg,bm⟩:=N9 (decide (I1 s));obtain ⟨cy,bT⟩:=N9 (decide (I2 s));simp only [bm] at bl;simp only [bT] at bj;have bH:=J9 bm;have bp:=J9 bT;have b0:=J9 bX;clear bi bC cj aK A1 b6 bX b5 bm bT au;have cA:g.heap.size=c:=b0.o
 go_upto_region 3 with (at_builtin;refine qag aO.o rfl _ _ rfl rfl rfl rfl ?_)
 clear cA a3 aO;have aA:Hid (c<=g.heap.size):=by have:=b0.o;show c<=g.heap.size;omega
 go_cut [29] (fun p wx=>p=.bool (b3L (opc s) L)/\Hid (qas wx c (.slice ao y aq) L)/\Hid (Below c g wx))
 case first=>
  obtain ⟨j,ac⟩:=N9 (aT.drew);have bE:Below aT.heap.size aT j:=by rw [<- ac];exact below_drewN aT _ 1
  have aF:=J9 (br.o.below bE);have J:=J9 (a9.o.trans (bE.mono (Qm aA.o a9.o.size)));clear bE br a9;refine Mixed.qD5 (fun cf=>qas cf c (.slice ao y aq) L/\Below c g cf) 15 [(1,true),(2,true),(0,false),(3,false),(4,true),(5,true),(6,true),(7,true),(8,true),(9,true),(10,true),(11,true),(12,true),(13,true),(14,true)] (by kernel_rfl) (by kernel_rfl) (by rw [ac];exact ⟨aF.o,J.o⟩) ?_;rw [ac];clear ac;refine Mixed.mp rfl (.pointer (some ⟨w.heap.size,0,none⟩)) ?_;refine Mixed.mo rfl (.string s) (fun w ak=>by obtain ⟨⟨aS,o⟩,-,-⟩:=FK.o w ak.2;clear ak;go_simp;try rfl) ?_;refine Mixed.qD6 rfl (by kernel_rfl) ?_;have U:∀ h,Below j.heap.size j (j.alloc h):=fun h=>(Qc _ _).alloc (Qa _) h
  have ad:=fun h=>J9 (aF.o.below (U h))
  have aa:=fun h=>J9 (J.o.trans ((U h).mono (Qm aA.o J.o.size)))
  have aH:=J9 ((bl (j.alloc (.cells (W1.map Value.string).toArray 9)) (some ⟨j.heap.size,0,none⟩) 5).o (qaJ j W1 9));have aM:=fun h=>(show qas (j.alloc h) c (.slice ao y aq) L/\Below c g (j.alloc h) from ⟨(ad h).o,(aa h).o⟩)
  clear U aF J;go_wp2;refine ⟨aM _,?_⟩;clear aM;refine Mixed.qD6 rfl (by kernel_rfl) ?_
  go_wp2_with fail
  refine aH.o.mono ?_;rintro cm aw ⟨rfl,an⟩;have Q:Hid (qas aw c (.slice ao y aq) L):=by rw [<- an];exact (ad _).o
  have Y:Hid (Below c g aw):=by rw [<- an];exact (aa _).o
  have aM:qas aw c (.slice ao y aq) L/\Below c g aw:=⟨Q.o,Y.o⟩;clear an ad aa aH;go_wp2;refine ⟨aM,?_⟩;clear aM;refine Mixed.mp rfl (.bool cg) ?_;cases cg with
  | false=>
   have F:Hid (false=b3L (opc s) L):=(Qf fun K=>qfO (Q3 bH.o) K.1).symm;refine Mixed.ms rfl ?_;refine Mixed.ms rfl ?_;refine Mixed.ms rfl ?_;refine Mixed.mp rfl (.bool false) ?_;refine Mixed.mp rfl (.bool false) ?_;refine Mixed.ms rfl ?_;refine Mixed.ms rfl ?_;refine Mixed.ms rfl ?_;refine Mixed.ms rfl ?_;refine Mixed.ms rfl ?_;simp only [Mixed.qD8,Qq,Qy];go_wp2
   go_meet
   exact ⟨by rw [F.o],Q.o,Y.o⟩
  | true=>exact absurd (Qt bH.o) aZ
 case rest=>
  obtain ⟨rfl,aF,J⟩:=hcut;clear br a9 bl;have bu:Hid (qas wc c (.slice ao y aq) L/\Below c g wc):=⟨aF.o,J.o⟩;clear aF J
  go_upto_if 29 with fail
  obtain ⟨Z,au⟩:=N9 (b3L (opc s) L);rw [au];have aY:=J9 au;clear au
  go_cut [4] (fun v wx=>∃ aQ aJ,v=.slice aQ (if Z then 1 else y) aJ/\Hid (qas wx c v (if Z then L.tail else L))/\Hid (Below c g wx))
  case first=>
   cases Z with
   | false=>
    go_wp2
    go_meet
    exact ⟨ao,aq,rfl,bu.o.1,bu.o.2⟩
   | true=>
    obtain ⟨cP,o,af⟩:=Qt aY.o;exact absurd cP (qfO aZ)
  case rest=>
   obtain ⟨aQ,aJ,rfl,Q,Y⟩:=hcut;have aP:=J9 (qeM (opc s) L Z aY.o);have G:(if Z then L.tail else L).length=(if Z then 1 else y):=by
    cases Z with
    | true=>
     obtain ⟨-,o,-⟩:=Qt aY.o;simp only [if_true,List.length_tail,o]
    | false=>simpa using aN.o
   obtain ⟨V,bM⟩:=N9 ((if Z then L.tail else L));obtain ⟨ax,be⟩:=N9 ((if Z then 1 else y));rw [bM,be] at G;rw [bM] at aP Q;have cS:ax<=900:=by rw [<- be];split <;> omega
   have ct:=J9 G;obtain ⟨M,ay⟩:=N9 (b5L (opc s) V);rw [ay] at aP;have a4:=J9 ay;rw [be] at Q |-;clear bM be G ay bu aY
   go_upto_region 5 with fail
   go_cut [40] (fun p wx=>p=.bool M/\Hid (qas wx c (.slice aQ ax aJ) V)/\Hid (Below c g wx))
   case first=>
    have z:c<=wc.heap.size:=Qm aA.o Y.o.size;have U:∀ h,Below wc.heap.size wc (wc.alloc h):=(fun h=>(Qc _ _).alloc (Qa _) h);have ad:=(fun h=>J9 (Q.o.below (U h)));have aa:=(fun h=>J9 (Y.o.trans ((U h).mono z)));have aH:=J9 ((bj (wc.alloc (.cells (W2.map Value.string).toArray 9)) (some ⟨wc.heap.size,0,none⟩) 3).o (qaJ wc W2 9));have bf:=(FK.o _ (aa (.cells #[.string ⟨#[65,68,68]⟩,.string ⟨#[65,68,67]⟩,.string ⟨#[83,66,67]⟩] 9)).o).1.1;clear U z Q Y
    go_wp2_with fail
    refine aH.o.mono ?_;rintro cm aw ⟨rfl,an⟩;have Q:Hid (qas aw c (.slice aQ ax aJ) V):=(by rw [<- an];exact (ad _).o);have Y:Hid (Below c g aw):=(by rw [<- an];exact (aa _).o);clear an ad aa aH bf;cases cy with
    | false=>
     have F:Hid (false=M):=(by rw [<- a4.o];exact (Qf fun K=>qfN (Q3 bp.o) K.1).symm);go_wp2
     go_meet
     exact ⟨by rw [F.o],Q.o,Y.o⟩
    | true=>exact absurd (Qt bp.o) b9
   case rest=>
    obtain ⟨rfl,bZ,ca⟩:=hcut;clear Q Y bj
    go_upto_if 40 with fail
    go_cut [4] (fun v wx=>∃ bs bw,v=.slice bs (if M then 2 else ax) bw/\Hid (qas wx c v (if M then qb4 :: V else V))/\Hid (Below c g wx))
    case first=>
     cases M with
     | false=>
      go_wp2
      go_meet
      exact ⟨aQ,aJ,rfl,bZ.o,ca.o⟩
     | true=>
      obtain ⟨cD,o⟩:=Qt a4.o;exact absurd cD (qfN b9)
    case rest=>
     obtain ⟨bs,bw,rfl,aW,bW⟩:=hcut;have G:(if M then qb4 :: V else V).length=(if M then 2 else ax):=by
      cases M with
      | true=>
       obtain ⟨-,o⟩:=Qt a4.o;simp only [if_true,Qv,o]
      | false=>simpa using ct.o
     obtain ⟨m,bt⟩:=N9 ((if M then qb4 :: V else V));obtain ⟨am,bb⟩:=N9 ((if M then 2 else ax));rw [bt,bb] at G;rw [bt] at aP aW;have c4:am<=900:=by rw [<- bb];split <;> omega
     have bc:=J9 G;obtain ⟨n,bI⟩:=N9 (b9L (opc s) m);have ci:=J9 bI;have bg:=J9 (qgl (opc s) m);rw [bI] at bg;rw [bb] at aW |-;clear bt bb G bI bZ ca a4 ct bH bp cS
     go_upto_region 9 with fail
     obtain ⟨O,aL⟩:=N9 ((wc.alloc (.cells #[.int .i64 3,.int .i64 2,.int .i64 0] 57)).alloc (.cells #[.int .i64 3,.int .i64 1,.int .i64 0] 57));have bK:Below wc.heap.size wc O:=(by rw [<- aL];exact (B0).alloc (by simp) _);have z:c<=wc.heap.size:=Qm aA.o bW.o.size;have bV:=J9 (aW.o.below bK);have aV:=J9 (bW.o.trans (bK.mono z));have bv:O.cell? ⟨wc.heap.size,0,none⟩=some (.int .i64 3)/\O.cell? ⟨wc.heap.size,1,none⟩=some (.int .i64 2)/\O.cell? ⟨wc.heap.size,2,none⟩=some (.int .i64 0):=(by rw [<- aL];exact ⟨by simp [go_sem],by simp [go_sem],by simp [go_sem]⟩);have bA:O.cell? ⟨wc.heap.size+1,0,none⟩=some (.int .i64 3)/\O.cell? ⟨wc.heap.size+1,1,none⟩=some (.int .i64 1)/\O.cell? ⟨wc.heap.size+1,2,none⟩=some (.int .i64 0):=(by rw [<- aL];exact ⟨by simp [go_sem],by simp [go_sem],by simp [go_sem]⟩);rw [aL];obtain ⟨bx,ay⟩:=N9 (wc.heap.size);obtain ⟨bU,cq⟩:=N9 (wc.heap.size+1);rw [cq] at bA |-;rw [ay] at bv |-;have bJ:=J9 bv;have bn:=J9 bA;clear aL bK z aW bW ay cq bv bA
     go_cut [69] (fun p wx=>p=.bool n/\Hid (∃ K,wx=O.drewN K))
     case first=>
      obtain ⟨⟨bP,-⟩,-,-⟩:=FK.o O aV.o;obtain ⟨dl,da,df⟩:=bJ.o;obtain ⟨dc,dh,de⟩:=bn.o;by_cases af:I3 s
      ·have bG:=qyP af
       have ag:Hid ((m=[hlT,deT])=(n=true)):=by
        rw [<- ci.o];unfold b9L;simp [bG,Hid]
       obtain rfl:s=_:=af;by_cases o:am=2
       ·obtain ⟨aI,cB,rfl⟩:=qnU m (by rw [bc.o];exact o)
        obtain rfl:=o;obtain ⟨av,ap,bo,aD,-,-,x⟩:=bV.o.qEs (by simp);simp only [QC] at aD;obtain ⟨rfl,-,-⟩:=aD;obtain ⟨aE,aB,aC⟩:=x.at_ 0 (by simp);obtain ⟨ch,cv,b1⟩:=x.at_ 1 (by simp);simp only [List.getElem_cons_zero,List.getElem_cons_succ,Nat.zero_mul,Nat.add_zero,Nat.one_mul] at aE aB aC ch cv b1;obtain ⟨cG,cI,c0⟩:=aI;obtain ⟨bR,cr,ae⟩:=cB;simp only at aE aB aC ch cv b1;clear x bG;by_cases i:(cG,cI,c0)=hlT
        ·by_cases aj:(bR,cr,ae)=deT
         ·have F:Hid (true=n):=(ag.o.mp (by rw [i,aj])).symm
          simp only [hlT,Zq] at i;simp only [deT,Zq] at aj;obtain ⟨rfl,rfl,rfl⟩:=i;obtain ⟨rfl,rfl,rfl⟩:=aj;clear ag
          go_quiet (fail)
          go_wp2
          go_meet
          exact ⟨by rw [F.o],⟨_,rfl⟩⟩
         ·have F:Hid (false=n):=by
           cases n with
           | false=>rfl
           | true=>
            have:=ag.o.mpr rfl;simp only [List.cons.injEq,and_true] at this;exact absurd this.2 aj
          have ab:=qp5 aj;simp only [deT] at ab;simp only [hlT,Zq] at i;obtain ⟨rfl,rfl,rfl⟩:=i;clear ag;rcases ab with ak | ⟨rfl,ak⟩ | ⟨rfl,rfl,ak⟩
          all_goals
           go_quiet (fail)
           go_wp2
           go_meet
           exact ⟨by rw [F.o],⟨_,rfl⟩⟩
        ·have F:Hid (false=n):=by
          cases n with
          | false=>rfl
          | true=>
           have:=ag.o.mpr rfl;simp only [List.cons.injEq,and_true] at this;exact absurd this.1 i
         have ab:=qp5 i;simp only [hlT] at ab;clear ag;rcases ab with ak | ⟨rfl,ak⟩ | ⟨rfl,rfl,ak⟩
         all_goals
          go_quiet (fail)
          go_wp2
          go_meet
          exact ⟨by rw [F.o],⟨_,rfl⟩⟩
       ·have F:Hid (false=n):=by
         cases n with
         | false=>rfl
         | true=>
          have:=ag.o.mpr rfl;have aG:=bc.o;rw [this] at aG;exact absurd aG.symm o
        have aG:¬((am:Int)=2):=(by omega);have cC:((am:Int) == 2)=false:=Qj.2 aG;clear ag bG
        go_quiet (fail)
        go_wp2
        go_meet
        exact ⟨by rw [F.o],⟨_,rfl⟩⟩
      ·exact absurd c3 af
     case rest=>
      obtain ⟨rfl,bD,rfl⟩:=hcut
      go_upto_if 69 with fail
      go_cut [4] (fun v wx=>∃ az ai,v=.slice az (if n then 2 else am) ai/\Hid (qas wx c v (if n then [deT,hlT] else m))/\Hid (Below c g wx))
      case first=>
       cases n with
       | false=>
        go_wp2
        go_meet
        exact ⟨bs,bw,rfl,bV.o,qbZ aV.o bD⟩
       | true=>
        obtain ⟨j,ac⟩:=N9 (O.drewN bD);have J:Hid (Below c g j):=(by rw [<- ac];exact qbZ aV.o bD);have z:c<=j.heap.size:=Qm aA.o J.o.size;have cw:Hid ((j.cell? ⟨bx,0,none⟩=some (.int .i64 3)/\j.cell? ⟨bx,1,none⟩=some (.int .i64 2)/\j.cell? ⟨bx,2,none⟩=some (.int .i64 0))/\j.cell? ⟨bU,0,none⟩=some (.int .i64 3)/\j.cell? ⟨bU,1,none⟩=some (.int .i64 1)/\j.cell? ⟨bU,2,none⟩=some (.int .i64 0)):=(by rw [<- ac];exact ⟨bJ.o,bn.o⟩);have U:∀ h,Below j.heap.size j (j.alloc h):=(fun h=>(Qc _ _).alloc (Qa _) h);have ad:=J9 (qj9 j deT hlT c z);have aa:=(fun h=>J9 (J.o.trans ((U h).mono z)));rw [ac];obtain ⟨⟨aS,o,af⟩,aG,cC,dg⟩:=cw.o;clear U J z cw ac;go_wp2
        go_meet
        exact ⟨_,2,rfl,ad.o,(aa _).o⟩
      case rest=>
       obtain ⟨az,ai,rfl,aX,a7⟩:=hcut;have G:(if n then [deT,hlT] else m).length=(if n then 2 else am):=by
        cases n with
        | true=>rfl
        | false=>simpa using bc.o
       obtain ⟨q,bq⟩:=N9 ((if n then [deT,hlT] else m));obtain ⟨nq,bd⟩:=N9 ((if n then 2 else am));rw [bq,bd] at G;rw [bq] at bg aX;have db:nq<=900:=by rw [<- bd];split <;> omega
       have bB:=J9 G;rw [bd] at aX |-;have bQ:Hid (canL (opc s) L=q.map (wrapT (qfv (qdc (opc s) L)))):=by
        show canL (opc s) L=_;unfold canL;rw [aP.o,bg.o]
       clear bq bd G ci bV aV bc aP bg bJ bn c4;obtain ⟨⟨bP,aZ⟩,-,cp⟩:=FK.o wc a7.o;have a6:=J9 (qd6 s A cap L (by rw [aN.o];omega) wc cp);have cY:=qb3 (opc s) L;obtain ⟨aI,i⟩:=N9 (qdc (opc s) L);have cT:Hid (aI=1):=i.symm.trans c7;rw [i] at a6 cY bQ;rw [aN.o] at a6;have c8:=(fun v=>J9 (qkf v q));have cR:=(fun v=>J9 (qkU v q));have cM:=(fun v=>J9 (qjY v q));have cK:=(fun v=>J9 (qkv v q));have a5:∀ v e,(wL v q e).length=nq:=fun v e=>by rw [qgA];exact bB.o
       have z:c<=wc.heap.size:=Qm aA.o a7.o.size;have cu:=J9 z;have ce:Hid (∀ wr v,Below c g wr->qas wr c v (q.map (wrapT (qfv aI)))->∃ a8 b7 a1,v=.slice a8 b7 a1/\(wr.cell? ⟨w.heap.size,0,none⟩=some (.string s))/\Rz wr (w.heap.size+1)/\qjU w s (canL (opc s) L) (.returned (.agg #[.string s,v])) ((wr.setCell ⟨w.heap.size+1,0,none⟩ (.string s)).setCell ⟨w.heap.size+1,1,none⟩ v)):=fun wr v B cn=>by
        have cN:=aU.o;obtain ⟨a8,a1,a0,-,-,-⟩:=cn.ops;refine ⟨a8,_,a1,a0,(FK.o wr B).1.1,(B.block _ (by omega)).trans cd.o,v,rfl,?_,?_⟩
        ·rw [bQ.o]
         exact ((cn.low ⟨w.heap.size+1,0,none⟩ (by simp;omega) _).low ⟨w.heap.size+1,1,none⟩ (by simp;omega) _).lift (by omega)
        ·exact ((E.o.trans (B.mono (by omega))).setCell (p:=⟨w.heap.size+1,0,none⟩) (by simp) _).setCell (p:=⟨w.heap.size+1,1,none⟩) (by simp) _
       clear cp z i bQ cd aU E aN cQ
       go_wp2_with fail
       refine a6.o.mono ?_;rintro cm c9 ⟨rfl,B⟩;have b4:=J9 (aX.o.below B);have co:=J9 (a7.o.trans (B.mono cu.o));clear B a6 aX a7 bP aZ cu;obtain rfl:aI=1:=cT.o;rw [show qfv 1=256 from rfl] at ce;go_wp2
       go_loopw [8] (fun bO wr=>∃ e:Nat,e<=nq/\bO=.int .i64 e/\Hid (qas wr c (.slice az nq ai) (wL 256 q e))/\Hid (Below c g wr)) (fun bO _=>nq - (intOf bO).toNat)
       case atStart=>exact ⟨0,Qs _,rfl,b4.o,co.o⟩
       case round=>
        clear b4 co;obtain ⟨e,dj,rfl,N,E⟩:=hrel;by_cases ck:e<nq
        ·have a2:e<q.length:=by rw [bB.o];exact ck
         have bL:e<(wL 256 q e).length:=(by rw [a5];exact ck);obtain ⟨av,ap,bo,aD,bS,b8,x⟩:=N.o.qEs (by omega);rw [a5] at aD bS;simp only [QC] at aD;obtain ⟨rfl,-,rfl⟩:=aD;obtain ⟨aE,aB,aC⟩:=x.at_ e bL;rw [(cK 256).o e a2 bL] at aE aB aC;have dk:=x.frozen (ap+e*3+2);have ar:=J9 ((c8 256).o e a2);have m:=J9 ((cR 256).o e a2);obtain ⟨⟨bR,cr,ae⟩,aj⟩:=N9 (q[e]);rw [aj] at aE aB aC ar m;simp only at aE aB aC ar m;have cV:Hid (c<=av):=x.1;have cH:=J9 bS;have cE:=J9 b8;have x:=J9 x;clear a2 bL aj bS b8;by_cases aR:bR=6
         ·by_cases b3:ae<0
          ·have cO:¬(0:Int)<=ae:=by omega
           by_cases dd : -128<=ae
           ·have i:=ar.o ⟨aR,by omega,b3⟩
            have cW:Hid (qas (wr.setCell ⟨av,ap+e*3+2,none⟩ (.int .i64 (ae+256))) c (.slice (some ⟨av,ap,none⟩) nq ai) (wL 256 q (e+1))):=by
             have af:=x.o.put (e*3+2) _ i;rw [<- Nat.add_assoc] at af;exact .inr ⟨av,ap,ai,by rw [a5],by rw [a5];exact cH.o,cE.o,af⟩
            have cZ:Hid (Below c g (wr.setCell ⟨av,ap+e*3+2,none⟩ (.int .i64 (ae+256)))):=E.o.setCell (p:=⟨av,ap+e*3+2,none⟩) cV.o _;subst aR;clear i ar m N E x;go_wp2;go_roundw
            case rel=>exact ⟨e+1,by omega,by go_num,cW.o,cZ.o⟩
            case measure=>simp [intOf];omega
           ·have i:=m.o fun K=>absurd K.2.1 (by omega)
            rw [i] at N;subst aR;clear i ar m x;go_wp2;go_roundw
            case rel=>exact ⟨e+1,by omega,by go_num,N.o,E.o⟩
            case measure=>simp [intOf];omega
          ·have i:=m.o fun K=>b3 K.2.2
           have cO:(0:Int)<=ae:=(by omega);rw [i] at N;subst aR;clear i ar m x;go_wp2;go_roundw
           case rel=>exact ⟨e+1,by omega,by go_num,N.o,E.o⟩
           case measure=>simp [intOf];omega
         ·have i:=m.o fun K=>aR K.1
          rw [i] at N;clear i ar m x;go_wp2;go_roundw
          case rel=>exact ⟨e+1,by omega,by go_num,N.o,E.o⟩
          case measure=>simp [intOf];omega
        ·have cz:e=nq:=by omega
         subst cz;have cx:wL 256 q e=q.map (wrapT 256):=by
          rw [show e=q.length from bB.o.symm];exact (cM 256).o
         rw [cx] at N;obtain ⟨a8,b7,a1,a0,bP,bY,bh⟩:=ce.o wr _ E.o N.o;simp only [QC] at a0;obtain ⟨rfl,rfl,rfl⟩:=a0;obtain ⟨cX,c5,c6,cJ⟩:=bY.cells;have c1:=J9 (bY.set s (.slice az e ai));have bh:=J9 bh;clear bY cx;go_wp2;obtain ⟨bf,a3⟩:=c1.o;obtain ⟨di,cc⟩:=N9 (((wr.setCell ⟨w.heap.size+1,0,none⟩ (.string s)).setCell ⟨w.heap.size+1,1,none⟩ (.slice az e ai)));rw [cc] at bh bf a3 |-;clear cc cX c5 c6 cJ;refine bodyPost_ret (v:=.agg #[.string s,.slice az e ai]) ?_ rfl bh.o;simp [results,results68,go_sem,bf,a3]
theorem qCC (s:ByteArray) (A:Option Addr) (cap:Nat) (L:List Tr) (cC:L.length<=900) (w:World) (H:qaj w A L) (cn:¬I3 s) (c9:qdc (opc s) L=1) :
  Calls prog 68 #[.agg #[.string s,.slice A L.length cap]] w (qjU w s (canL (opc s) L)):=by
 obtain ⟨g,ao⟩:=N9 (((w.alloc (.cells #[.string s,.slice A L.length cap] 24)).alloc (.cells #[.string ⟨#[]⟩,.slice none 0 0] 24)).alloc (.cells #[.int .i64 1,.int .i64 7,.int .i64 0] 57));have U:Hid (Below w.heap.size w g):=by rw [<- ao];exact ((B0).alloc (by simp) _).alloc (by simp;omega) _
 have aS:Hid (Bx g w.heap.size s A L.length cap):=by rw [<- ao];exact ⟨by simp [go_sem],by simp [go_sem]⟩
 have b7:Hid (Rz g (w.heap.size+1)):=by
  rw [<- ao];have ad:=heap_alloc_new (w.alloc (.cells #[.string s,.slice A L.length cap] 24)) (.cells #[.string ⟨#[]⟩,.slice none 0 0] 24);have c:Below (w.heap.size+2) ((w.alloc (.cells #[.string s,.slice A L.length cap] 24)).alloc (.cells #[.string ⟨#[]⟩,.slice none 0 0] 24)) (((w.alloc (.cells #[.string s,.slice A L.length cap] 24)).alloc (.cells #[.string ⟨#[]⟩,.slice none 0 0] 24)).alloc (.cells #[.int .i64 1,.int .i64 7,.int .i64 0] 57)):=(Qc _ _).alloc (by simp) _;show Rz _ _;refine (c.block _ (by omega)).trans ?_;simpa [Rz] using ad
 have a1:Hid (g.heap.size=w.heap.size+3):=by rw [<- ao];simp [Hid]
 have A1:Hid (g.heap[w.heap.size+2]?=some (.cells #[.int .i64 1,.int .i64 7,.int .i64 0] 57 (0,0))):=by
  rw [<- ao];have ad:=heap_alloc_new ((w.alloc (.cells #[.string s,.slice A L.length cap] 24)).alloc (.cells #[.string ⟨#[]⟩,.slice none 0 0] 24)) (.cells #[.int .i64 1,.int .i64 7,.int .i64 0] 57);simpa [Hid] using ad
 have cf:=J9 (H.below U.o);obtain ⟨cV,ae,b0,bC,c⟩:=qcE A cap L (by omega) g cf.o;have aW:=J9 b0;have cd:Hid (Sv g ae g.heap.size cV L):=by
  obtain ⟨cL,aM,rfl,-,-⟩:=bC.ops;exact ⟨cL,aM,rfl,bC.own,c⟩
 obtain ⟨r,aK⟩:=N9 (L.length);have aq:=J9 aK;rw [aK] at aS aW ao |-;have cR:r<=900:=by omega
 have b4:=J9 ao;have b3:=J9 H;clear H b0 bC c cf aK cC ao
 go_enter func68,ntmps68
 go_upto_region 2 with fail
 rw [b4.o];obtain ⟨bp,aA⟩:=N9 (w.heap.size+1+1);rw [aA];obtain ⟨a,bW⟩:=N9 (g.heap.size);obtain ⟨an,z,rfl,bn,bG⟩:=cd.o;rw [aq.o] at aW bn;rw [bW] at aW bn bG a1;have a9:(g.alloc (.cells #[] 57)).cell? ⟨w.heap.size,1,none⟩=some (.slice A r cap):=(World.cell?_alloc_lt g _ _ (by have:=a1.o;simp;omega)).trans aS.o.2;have FK:Hid (∀ wx,Below a g wx->(wx.cell? ⟨w.heap.size,0,none⟩=some (.string s)/\wx.cell? ⟨w.heap.size,1,none⟩=some (.slice A r cap))/\(wx.cell? ⟨bp,0,none⟩=some (.int .i64 1)/\wx.cell? ⟨bp,1,none⟩=some (.int .i64 7)/\wx.cell? ⟨bp,2,none⟩=some (.int .i64 0))/\qaj wx A L):=fun wx Q=>by
  have cO:=a1.o;have bH:wx.heap[bp]?=some (.cells #[.int .i64 1,.int .i64 7,.int .i64 0] 57 (0,0)):=(Q.block _ (by omega)).trans (by rw [<- aA];exact A1.o);exact ⟨⟨(Q.cell (p:=⟨w.heap.size,0,none⟩) (by simp;omega)).trans aS.o.1,(Q.cell (p:=⟨w.heap.size,1,none⟩) (by simp;omega)).trans aS.o.2⟩,⟨by rw [C9 bH];rfl,by rw [C9 bH];rfl,by rw [C9 bH];rfl⟩,b3.o.below (U.o.trans (Q.mono (by omega)))⟩
 have bv:=J9 bn;have bf:=J9 bG;have bq:=fun (wx:World) A bP=>J9 (qfe A bP W1 (by decide) s wx)
 have bo:=fun (wx:World) A bP=>J9 (qfe A bP W2 (by decide) s wx)
 rw [qB8] at bq;rw [qCb] at bo;obtain ⟨b9,br⟩:=N9 (decide (I1 s));obtain ⟨ct,bT⟩:=N9 (decide (I2 s));simp only [br] at bq;simp only [bT] at bo;have bJ:=J9 br;have bt:=J9 bT;have bZ:=J9 bW;clear bn bG cd aS A1 b4 bW b3 br bT aA;have cx:g.heap.size=a:=bZ.o
 go_upto_region 3 with (at_builtin;refine qag aW.o rfl _ _ rfl rfl rfl rfl ?_)
 clear cx a9 aW;have av:Hid (a<=g.heap.size):=by have:=bZ.o;show a<=g.heap.size;omega
 go_cut [29] (fun p wx=>p=.bool (b3L (opc s) L)/\Hid (qas wx a (.slice an r z) L)/\Hid (Below a g wx))
 case first=>
  obtain ⟨u,aj⟩:=N9 (ae.drew);have ay:Below ae.heap.size ae u:=by rw [<- aj];exact below_drewN ae _ 1
  have af:=J9 (bv.o.below ay);have N:=J9 (bf.o.trans (ay.mono (Qm av.o bf.o.size)));clear ay bv bf;refine Mixed.qD5 (fun aV=>qas aV a (.slice an r z) L/\Below a g aV) 15 [(1,true),(2,true),(0,false),(3,false),(4,true),(5,true),(6,true),(7,true),(8,true),(9,true),(10,true),(11,true),(12,true),(13,true),(14,true)] (by kernel_rfl) (by kernel_rfl) (by rw [aj];exact ⟨af.o,N.o⟩) ?_;rw [aj];clear aj;refine Mixed.mp rfl (.pointer (some ⟨w.heap.size,0,none⟩)) ?_;refine Mixed.mo rfl (.string s) (fun w y=>by obtain ⟨⟨ad,c⟩,-,-⟩:=FK.o w y.2;clear y;go_simp;try rfl) ?_;refine Mixed.qD6 rfl (by kernel_rfl) ?_;have ag:∀ e,Below u.heap.size u (u.alloc e):=fun e=>(Qc _ _).alloc (Qa _) e
  have am:=fun e=>J9 (af.o.below (ag e))
  have ab:=fun e=>J9 (N.o.trans ((ag e).mono (Qm av.o N.o.size)))
  have aN:=J9 ((bq (u.alloc (.cells (W1.map Value.string).toArray 9)) (some ⟨u.heap.size,0,none⟩) 5).o (qaJ u W1 9));have ap:=fun e=>(show qas (u.alloc e) a (.slice an r z) L/\Below a g (u.alloc e) from ⟨(am e).o,(ab e).o⟩)
  clear ag af N;go_wp2;refine ⟨ap _,?_⟩;clear ap;refine Mixed.qD6 rfl (by kernel_rfl) ?_
  go_wp2_with fail
  refine aN.o.mono ?_;rintro ci aB ⟨rfl,au⟩;have B:Hid (qas aB a (.slice an r z) L):=by rw [<- au];exact (am _).o
  have J:Hid (Below a g aB):=by rw [<- au];exact (ab _).o
  have ap:qas aB a (.slice an r z) L/\Below a g aB:=⟨B.o,J.o⟩;clear au am ab aN;go_wp2;refine ⟨ap,?_⟩;clear ap;refine Mixed.mp rfl (.bool b9) ?_;cases b9 with
  | false=>
   have G:Hid (false=b3L (opc s) L):=(Qf fun o=>qfO (Q3 bJ.o) o.1).symm;refine Mixed.ms rfl ?_;refine Mixed.ms rfl ?_;refine Mixed.ms rfl ?_;refine Mixed.mp rfl (.bool false) ?_;refine Mixed.mp rfl (.bool false) ?_;refine Mixed.ms rfl ?_;refine Mixed.ms rfl ?_;refine Mixed.ms rfl ?_;refine Mixed.ms rfl ?_;refine Mixed.ms rfl ?_;simp only [Mixed.qD8,Qq,Qy];go_wp2
   go_meet
   exact ⟨by rw [G.o],B.o,J.o⟩
  | true=>
   have bh:=quA (Qt bJ.o);by_cases c:r=2
   ·obtain ⟨j,aQ,rfl⟩:=qnU L (by rw [aq.o];exact c)
    have cz:Hid (j=qb4->true=b3L (opc s) [j,aQ]):=(fun o=>(Qn ⟨bh,rfl,by rw [o];rfl⟩).symm);have c5:Hid (¬j=qb4->false=b3L (opc s) [j,aQ]):=(fun o=>(Qf fun cw=>o (by simpa using cw.2.2)).symm);obtain ⟨i,h,aM,x,-,-,n⟩:=B.o.qEs (by simp);simp only [QC] at x;obtain ⟨rfl,-,-⟩:=x;have aO:Hid (∀ wx,qas wx a (.slice (some ⟨i,h,none⟩) r z) [j,aQ]->wx.cell? ⟨i,h,none⟩=some (.int .i64 j.1)/\wx.cell? ⟨i,h+1,none⟩=some (.int .i64 j.2.1)/\wx.cell? ⟨i,h+2,none⟩=some (.int .i64 j.2.2)):=fun wx aJ=>by
     obtain ⟨cD,cN,cA,x,-,-,n⟩:=aJ.qEs (by simp);simp only [QC,Qz,Addr.mk.injEq,and_true] at x;obtain ⟨⟨rfl,rfl⟩,-,-⟩:=x;have m:=n.at_ 0 (by simp);simpa using m
    subst c;obtain ⟨aw,ax,aC⟩:=j;simp only at aO;clear n bh;refine Mixed.mp rfl (.slice (some ⟨i,h,none⟩) 2 z) ?_;refine Mixed.mp rfl (.int .i64 2) ?_;refine Mixed.mp rfl (.bool true) ?_;refine Mixed.mp rfl (.bool true) ?_;refine Mixed.mp rfl (.bool true) ?_;refine Mixed.mp rfl (.slice (some ⟨i,h,none⟩) 2 z) ?_;refine Mixed.mp rfl (.pointer (some ⟨i,h,none⟩)) ?_;refine Mixed.mo rfl (.agg #[.int .i64 aw,.int .i64 ax,.int .i64 aC]) (fun w y=>by obtain ⟨ad,c,m⟩:=aO.o w y.1;clear y;go_simp;try rfl) ?_;refine Mixed.mo rfl (.agg #[.int .i64 1,.int .i64 7,.int .i64 0]) (fun w y=>by obtain ⟨-,⟨ad,c,m⟩,-⟩:=FK.o w y.2;clear y;go_simp;try rfl) ?_;by_cases q:(aw,ax,aC)=qb4
    ·have G:=J9 (cz.o q)
     simp only [qb4,Zq] at q;obtain ⟨rfl,rfl,rfl⟩:=q;refine Mixed.mp rfl (.bool true) ?_;simp only [Mixed.qD8,Qq,Qy];go_wp2
     go_meet
     exact ⟨by rw [<- G.o],B.o,J.o⟩
    ·have G:=J9 (c5.o q)
     have aK:=qp5 q;simp only [qb4] at aK;rcases aK with y | ⟨rfl,y⟩ | ⟨rfl,rfl,y⟩
     all_goals
      refine Mixed.mp rfl (.bool false) ?_;simp only [Mixed.qD8,Qq,Qy];go_wp2
      go_meet
      exact ⟨by rw [<- G.o],B.o,J.o⟩
   ·have G:Hid (false=b3L (opc s) L):=(Qf fun o=>c (by rw [<- aq.o];exact o.2.1)).symm
    have m:¬((r:Int)=2):=(by omega);refine Mixed.mp rfl (.slice an r z) ?_;refine Mixed.mp rfl (.int .i64 r) ?_;refine Mixed.mp rfl (.bool false) ?_;refine Mixed.mp rfl (.bool false) ?_;refine Mixed.mp rfl (.bool false) ?_;refine Mixed.ms rfl ?_;refine Mixed.ms rfl ?_;refine Mixed.ms rfl ?_;refine Mixed.ms rfl ?_;refine Mixed.ms rfl ?_;simp only [Mixed.qD8,Qq,Qy];go_wp2
    go_meet
    exact ⟨by rw [G.o],B.o,J.o⟩
 case rest=>
  obtain ⟨rfl,af,N⟩:=hcut;clear bv bf bq;have aP:Hid (qas wc a (.slice an r z) L/\Below a g wc):=⟨af.o,N.o⟩;clear af N
  go_upto_if 29 with fail
  obtain ⟨ai,aA⟩:=N9 (b3L (opc s) L);rw [aA];have a5:=J9 aA;clear aA
  go_cut [4] (fun v wx=>∃ aY ah,v=.slice aY (if ai then 1 else r) ah/\Hid (qas wx a v (if ai then L.tail else L))/\Hid (Below a g wx))
  case first=>
   cases ai with
   | false=>
    go_wp2
    go_meet
    exact ⟨an,z,rfl,aP.o.1,aP.o.2⟩
   | true=>
    obtain ⟨bh,c,m⟩:=Qt a5.o;obtain ⟨j,aQ,rfl⟩:=qnU L c;obtain rfl:r=2:=aq.o.symm;obtain ⟨i,h,aM,x,aL,aU,n⟩:=aP.o.1.qEs (by simp);simp only [QC] at x;obtain ⟨rfl,-,rfl⟩:=x;have db:2<=z:=aL;have cJ:=aU;unfold maxLen at cJ;have df:¬(z=1):=(by omega);have cQ:Hid (qdJ wc a i (h+3) [aQ]):=by
     obtain ⟨ad,cy,cZ,c⟩:=n;refine ⟨ad,cy,cZ,fun b bB ac=>?_⟩
     match b,ac with
     | 0,ac=>exact c 3 bB ac
     | 1,ac=>exact c 4 bB ac
     | 2,ac=>exact c 5 bB ac
     | b+3,ac=>cases ac
    have cK:Hid (z - 1<=maxLen):=(by unfold maxLen Hid;omega);clear n bh c m aL aU;go_wp2
    go_meet
    exact ⟨_,z - 1,rfl,.inr ⟨i,h+3,z - 1,rfl,by simp;omega,cK.o,cQ.o⟩,aP.o.2⟩
  case rest=>
   obtain ⟨aY,ah,rfl,B,J⟩:=hcut;have aX:=J9 (qeM (opc s) L ai a5.o);have Y:(if ai then L.tail else L).length=(if ai then 1 else r):=by
    cases ai with
    | true=>
     obtain ⟨-,c,-⟩:=Qt a5.o;simp only [if_true,List.length_tail,c]
    | false=>simpa using aq.o
   obtain ⟨V,bO⟩:=N9 ((if ai then L.tail else L));obtain ⟨K,bj⟩:=N9 ((if ai then 1 else r));rw [bO,bj] at Y;rw [bO] at aX B;have cT:K<=900:=by rw [<- bj];split <;> omega
   have a0:=J9 Y;obtain ⟨M,aD⟩:=N9 (b5L (opc s) V);rw [aD] at aX;have aG:=J9 aD;rw [bj] at B |-;clear bO bj Y aD aP a5
   go_upto_region 5 with fail
   go_cut [40] (fun p wx=>p=.bool M/\Hid (qas wx a (.slice aY K ah) V)/\Hid (Below a g wx))
   case first=>
    have O:a<=wc.heap.size:=Qm av.o J.o.size;have ag:∀ e,Below wc.heap.size wc (wc.alloc e):=(fun e=>(Qc _ _).alloc (Qa _) e);have am:=(fun e=>J9 (B.o.below (ag e)));have ab:=(fun e=>J9 (J.o.trans ((ag e).mono O)));have aN:=J9 ((bo (wc.alloc (.cells (W2.map Value.string).toArray 9)) (some ⟨wc.heap.size,0,none⟩) 3).o (qaJ wc W2 9));have bk:=(FK.o _ (ab (.cells #[.string ⟨#[65,68,68]⟩,.string ⟨#[65,68,67]⟩,.string ⟨#[83,66,67]⟩] 9)).o).1.1;clear ag O B J
    go_wp2_with fail
    refine aN.o.mono ?_;rintro ci aB ⟨rfl,au⟩;have B:Hid (qas aB a (.slice aY K ah) V):=(by rw [<- au];exact (am _).o);have J:Hid (Below a g aB):=(by rw [<- au];exact (ab _).o);clear au am ab aN bk;cases ct with
    | false=>
     have G:Hid (false=M):=(by rw [<- aG.o];exact (Qf fun o=>qfN (Q3 bt.o) o.1).symm);go_wp2
     go_meet
     exact ⟨by rw [G.o],B.o,J.o⟩
    | true=>
     have aR:=quu (Qt bt.o);by_cases c:K=1
     ·have G:Hid (true=M):=by rw [<- aG.o];exact (Qn ⟨aR,by rw [a0.o,c]⟩).symm
      have m:(K:Int)=1:=(by omega);have cr:((K:Int) == 1)=true:=(by rw [m];rfl);clear aR c m;go_wp2
      go_meet
      exact ⟨by rw [G.o],B.o,J.o⟩
     ·have G:Hid (false=M):=by rw [<- aG.o];exact (Qf fun o=>c (by rw [<- a0.o];exact o.2)).symm
      have m:¬((K:Int)=1):=(by omega);have cr:((K:Int) == 1)=false:=Qj.2 m;clear aR;go_wp2
      go_meet
      exact ⟨by rw [G.o],B.o,J.o⟩
   case rest=>
    obtain ⟨rfl,aE,aI⟩:=hcut;clear B J bo
    go_upto_if 40 with fail
    go_cut [4] (fun v wx=>∃ bw bA,v=.slice bw (if M then 2 else K) bA/\Hid (qas wx a v (if M then qb4 :: V else V))/\Hid (Below a g wx))
    case first=>
     cases M with
     | false=>
      go_wp2
      go_meet
      exact ⟨aY,ah,rfl,aE.o,aI.o⟩
     | true=>
      obtain ⟨aR,c⟩:=Qt aG.o;obtain ⟨j,rfl⟩:∃ j,V=[j]:=by
       cases V with
       | nil=>simp at c
       | cons cG ca=>
        cases ca with
        | nil=>exact ⟨cG,rfl⟩
        | cons dd ca=>simp at c
      obtain rfl:K=1:=a0.o.symm;obtain ⟨i,h,aM,x,-,-,n⟩:=aE.o.qEs (by simp);simp only [QC] at x;obtain ⟨rfl,-,-⟩:=x;have aO:Hid (∀ wx,qas wx a (.slice (some ⟨i,h,none⟩) 1 ah) [j]->wx.cell? ⟨i,h,none⟩=some (.int .i64 j.1)/\wx.cell? ⟨i,h+1,none⟩=some (.int .i64 j.2.1)/\wx.cell? ⟨i,h+2,none⟩=some (.int .i64 j.2.2)):=fun wx aJ=>by
       obtain ⟨cD,cN,cA,x,-,-,n⟩:=aJ.qEs (by simp);simp only [QC,Qz,Addr.mk.injEq,and_true] at x;obtain ⟨⟨rfl,rfl⟩,-,-⟩:=x;have m:=n.at_ 0 (by simp);simpa using m
      obtain ⟨aw,ax,aC⟩:=j;simp only at aO;clear n aR c
      go_upto_region 6 with fail
      obtain ⟨ae,cg⟩:∃ j,j=wc:=⟨_,rfl⟩;rw [<- cg] at aE aI |-;clear cg;obtain ⟨u,aj⟩:=N9 (ae.drew);have ay:Below ae.heap.size ae u:=(by rw [<- aj];exact below_drewN ae _ 1);have af:=J9 (aE.o.below ay);have N:=J9 (aI.o.trans (ay.mono (Qm av.o aI.o.size)));clear ay aE aI;refine Mixed.qD5 (fun aV=>qas aV a (.slice (some ⟨i,h,none⟩) 1 ah) [(aw,ax,aC)]/\Below a g aV) 5 [(0,true),(1,true),(2,true),(3,true),(4,false)] (by kernel_rfl) (by kernel_rfl) (by rw [aj];exact ⟨af.o,N.o⟩) ?_;rw [aj];clear aj;refine Mixed.mo rfl (.agg #[.int .i64 1,.int .i64 7,.int .i64 0]) (fun w y=>by obtain ⟨-,⟨ad,c,m⟩,-⟩:=FK.o w y.2;clear y;go_simp;try rfl) ?_;refine Mixed.mp rfl (.slice (some ⟨i,h,none⟩) 1 ah) ?_;refine Mixed.mp rfl (.pointer (some ⟨i,h,none⟩)) ?_;refine Mixed.mo rfl (.agg #[.int .i64 aw,.int .i64 ax,.int .i64 aC]) (fun w y=>by obtain ⟨ad,c,m⟩:=aO.o w y.1;clear y;go_simp;try rfl) ?_;refine Mixed.qD6 rfl (by kernel_rfl) ?_;have O:a<=u.heap.size:=Qm av.o N.o.size;have ag:∀ e,Below u.heap.size u (u.alloc e):=(fun e=>(Qc _ _).alloc (Qa _) e);have am:=J9 (qj9 u qb4 (aw,ax,aC) a O);have ab:=(fun e=>J9 (N.o.trans ((ag e).mono O)));have ap:=(fun e=>(show qas (u.alloc e) a (.slice (some ⟨i,h,none⟩) 1 ah) [(aw,ax,aC)]/\Below a g (u.alloc e) from ⟨af.o.alloc e,(ab e).o⟩));clear ag af N O;go_wp2;refine ⟨ap _,?_⟩;clear ap;simp only [Mixed.qD8,Qq,Qy];go_wp2
      go_meet
      exact ⟨_,2,rfl,am.o,(ab _).o⟩
    case rest=>
     obtain ⟨bw,bA,rfl,a3,bV⟩:=hcut;have Y:(if M then qb4 :: V else V).length=(if M then 2 else K):=by
      cases M with
      | true=>
       obtain ⟨-,c⟩:=Qt aG.o;simp only [if_true,Qv,c]
      | false=>simpa using a0.o
     obtain ⟨F,bx⟩:=N9 ((if M then qb4 :: V else V));obtain ⟨a2,bg⟩:=N9 ((if M then 2 else K));rw [bx,bg] at Y;rw [bx] at aX a3;have c6:a2<=900:=by rw [<- bg];split <;> omega
     have ch:=J9 Y;obtain ⟨Z,bK⟩:=N9 (b9L (opc s) F);have bI:=J9 bK;have bl:=J9 (qgl (opc s) F);rw [bK] at bl;rw [bg] at a3 |-;clear bx bg Y bK aE aI aG a0 bJ bt cT
     go_upto_region 9 with fail
     obtain ⟨ak,aT⟩:=N9 ((wc.alloc (.cells #[.int .i64 3,.int .i64 2,.int .i64 0] 57)).alloc (.cells #[.int .i64 3,.int .i64 1,.int .i64 0] 57));have bM:Below wc.heap.size wc ak:=(by rw [<- aT];exact (B0).alloc (by simp) _);have O:a<=wc.heap.size:=Qm av.o bV.o.size;have co:=J9 (a3.o.below bM);have bs:=J9 (bV.o.trans (bM.mono O));have bz:ak.cell? ⟨wc.heap.size,0,none⟩=some (.int .i64 3)/\ak.cell? ⟨wc.heap.size,1,none⟩=some (.int .i64 2)/\ak.cell? ⟨wc.heap.size,2,none⟩=some (.int .i64 0):=(by rw [<- aT];exact ⟨by simp [go_sem],by simp [go_sem],by simp [go_sem]⟩);have bD:ak.cell? ⟨wc.heap.size+1,0,none⟩=some (.int .i64 3)/\ak.cell? ⟨wc.heap.size+1,1,none⟩=some (.int .i64 1)/\ak.cell? ⟨wc.heap.size+1,2,none⟩=some (.int .i64 0):=(by rw [<- aT];exact ⟨by simp [go_sem],by simp [go_sem],by simp [go_sem]⟩);rw [aT];obtain ⟨dg,aD⟩:=N9 (wc.heap.size);obtain ⟨dr,cm⟩:=N9 (wc.heap.size+1);rw [cm] at bD |-;rw [aD] at bz |-;have cc:=J9 bz;have bY:=J9 bD;clear aT bM O a3 bV aD cm bz bD
     go_cut [69] (fun p wx=>p=.bool Z/\Hid (∃ o,wx=ak.drewN o))
     case first=>
      obtain ⟨⟨bR,-⟩,-,-⟩:=FK.o ak bs.o;obtain ⟨dt,de,dl⟩:=cc.o;obtain ⟨di,dm,dk⟩:=bY.o;by_cases m:I3 s
      ·exact absurd m cn
      ·have dp:(s.toList == [69,88])=false:=by simpa using qao m
       have G:Hid (false=Z):=by
        rw [<- bI.o];exact (Qf fun o=>qhi m o.1).symm
       clear m
       go_quiet (fail)
       go_wp2
       go_meet
       exact ⟨by rw [G.o],⟨_,rfl⟩⟩
     case rest=>
      obtain ⟨rfl,cH,rfl⟩:=hcut
      go_upto_if 69 with fail
      go_cut [4] (fun v wx=>∃ aF ar,v=.slice aF (if Z then 2 else a2) ar/\Hid (qas wx a v (if Z then [deT,hlT] else F))/\Hid (Below a g wx))
      case first=>
       cases Z with
       | false=>
        go_wp2
        go_meet
        exact ⟨bw,bA,rfl,co.o,qbZ bs.o cH⟩
       | true=>
        exact absurd (Qt bI.o).1 (qhi cn)
      case rest=>
       obtain ⟨aF,ar,rfl,a4,bd⟩:=hcut;have Y:(if Z then [deT,hlT] else F).length=(if Z then 2 else a2):=by
        cases Z with
        | true=>rfl
        | false=>simpa using ch.o
       obtain ⟨E,bu⟩:=N9 ((if Z then [deT,hlT] else F));obtain ⟨nq,bi⟩:=N9 ((if Z then 2 else a2));rw [bu,bi] at Y;rw [bu] at bl a4;have dh:nq<=900:=by rw [<- bi];split <;> omega
       have bE:=J9 Y;rw [bi] at a4 |-;have bS:Hid (canL (opc s) L=E.map (wrapT (qfv (qdc (opc s) L)))):=by
        show canL (opc s) L=_;unfold canL;rw [aX.o,bl.o]
       clear bu bi Y bI co bs ch aX bl cc bY c6;obtain ⟨⟨bR,cv⟩,-,cl⟩:=FK.o wc bd.o;have bc:=J9 (qd6 s A cap L (by rw [aq.o];omega) wc cl);have c0:=qb3 (opc s) L;obtain ⟨j,q⟩:=N9 (qdc (opc s) L);have cU:Hid (j=1):=q.symm.trans c9;rw [q] at bc c0 bS;rw [aq.o] at bc;have da:=(fun v=>J9 (qkf v E));have cS:=(fun v=>J9 (qkU v E));have cM:=(fun v=>J9 (qjY v E));have cI:=(fun v=>J9 (qkv v E));have bb:∀ v b,(wL v E b).length=nq:=fun v b=>by rw [qgA];exact bE.o
       have O:a<=wc.heap.size:=Qm av.o bd.o.size;have cp:=J9 O;have b8:Hid (∀ wr v,Below a g wr->qas wr a v (E.map (wrapT (qfv j)))->∃ be b5 a7,v=.slice be b5 a7/\(wr.cell? ⟨w.heap.size,0,none⟩=some (.string s))/\Rz wr (w.heap.size+1)/\qjU w s (canL (opc s) L) (.returned (.agg #[.string s,v])) ((wr.setCell ⟨w.heap.size+1,0,none⟩ (.string s)).setCell ⟨w.heap.size+1,1,none⟩ v)):=fun wr v Q aJ=>by
        have cO:=a1.o;obtain ⟨be,a7,a6,-,-,-⟩:=aJ.ops;refine ⟨be,_,a7,a6,(FK.o wr Q).1.1,(Q.block _ (by omega)).trans b7.o,v,rfl,?_,?_⟩
        ·rw [bS.o]
         exact ((aJ.low ⟨w.heap.size+1,0,none⟩ (by simp;omega) _).low ⟨w.heap.size+1,1,none⟩ (by simp;omega) _).lift (by omega)
        ·exact ((U.o.trans (Q.mono (by omega))).setCell (p:=⟨w.heap.size+1,0,none⟩) (by simp) _).setCell (p:=⟨w.heap.size+1,1,none⟩) (by simp) _
       clear cl O q bS b7 a1 U aq cR
       go_wp2_with fail
       refine bc.o.mono ?_;rintro ci dc ⟨rfl,Q⟩;have b2:=J9 (a4.o.below Q);have cj:=J9 (bd.o.trans (Q.mono cp.o));clear Q bc a4 bd bR cv cp;obtain rfl:j=1:=cU.o;rw [show qfv 1=256 from rfl] at b8;go_wp2
       go_loopw [8] (fun bQ wr=>∃ b:Nat,b<=nq/\bQ=.int .i64 b/\Hid (qas wr a (.slice aF nq ar) (wL 256 E b))/\Hid (Below a g wr)) (fun bQ _=>nq - (intOf bQ).toNat)
       case atStart=>exact ⟨0,Qs _,rfl,b2.o,cj.o⟩
       case round=>
        clear b2 cj;obtain ⟨b,ac,rfl,aa,U⟩:=hrel;by_cases ce:b<nq
        ·have a8:b<E.length:=by rw [bE.o];exact ce
         have bN:b<(wL 256 E b).length:=(by rw [bb];exact ce);obtain ⟨i,h,aM,x,aL,aU,n⟩:=aa.o.qEs (by omega);rw [bb] at x aL;simp only [QC] at x;obtain ⟨rfl,-,rfl⟩:=x;obtain ⟨bU,bF,bL⟩:=n.at_ b bN;rw [(cI 256).o b a8 bN] at bU bF bL;have dq:=n.frozen (h+b*3+2);have az:=J9 ((da 256).o b a8);have F:=J9 ((cS 256).o b a8);obtain ⟨⟨c1,ds,aH⟩,ck⟩:=N9 (E[b]);rw [ck] at bU bF bL az F;simp only at bU bF bL az F;have cW:Hid (a<=i):=n.1;have cE:=J9 aL;have cB:=J9 aU;have n:=J9 n;clear a8 bN ck aL aU;by_cases aZ:c1=6
         ·by_cases b1:aH<0
          ·have cP:¬(0:Int)<=aH:=by omega
           by_cases dj : -128<=aH
           ·have q:=az.o ⟨aZ,by omega,b1⟩
            have cX:Hid (qas (wr.setCell ⟨i,h+b*3+2,none⟩ (.int .i64 (aH+256))) a (.slice (some ⟨i,h,none⟩) nq ar) (wL 256 E (b+1))):=by
             have m:=n.o.put (b*3+2) _ q;rw [<- Nat.add_assoc] at m;exact .inr ⟨i,h,ar,by rw [bb],by rw [bb];exact cE.o,cB.o,m⟩
            have c3:Hid (Below a g (wr.setCell ⟨i,h+b*3+2,none⟩ (.int .i64 (aH+256)))):=U.o.setCell (p:=⟨i,h+b*3+2,none⟩) cW.o _;subst aZ;clear q az F aa U n;go_wp2;go_roundw
            case rel=>exact ⟨b+1,by omega,by go_num,cX.o,c3.o⟩
            case measure=>simp [intOf];omega
           ·have q:=F.o fun o=>absurd o.2.1 (by omega)
            rw [q] at aa;subst aZ;clear q az F n;go_wp2;go_roundw
            case rel=>exact ⟨b+1,by omega,by go_num,aa.o,U.o⟩
            case measure=>simp [intOf];omega
          ·have q:=F.o fun o=>b1 o.2.2
           have cP:(0:Int)<=aH:=(by omega);rw [q] at aa;subst aZ;clear q az F n;go_wp2;go_roundw
           case rel=>exact ⟨b+1,by omega,by go_num,aa.o,U.o⟩
           case measure=>simp [intOf];omega
         ·have q:=F.o fun o=>aZ o.1
          rw [q] at aa;clear q az F n;go_wp2;go_roundw
          case rel=>exact ⟨b+1,by omega,by go_num,aa.o,U.o⟩
          case measure=>simp [intOf];omega
        ·have cu:b=nq:=by omega
         subst cu;have cq:wL 256 E b=E.map (wrapT 256):=by
          rw [show b=E.length from bE.o.symm];exact (cM 256).o
         rw [cq] at aa;obtain ⟨be,b5,a7,a6,bR,bX,bm⟩:=b8.o wr _ U.o aa.o;simp only [QC] at a6;obtain ⟨rfl,rfl,rfl⟩:=a6;obtain ⟨cY,c7,c8,cF⟩:=bX.cells;have c4:=J9 (bX.set s (.slice aF b ar));have bm:=J9 bm;clear bX cq;go_wp2;obtain ⟨bk,a9⟩:=c4.o;obtain ⟨dn,b6⟩:=N9 (((wr.setCell ⟨w.heap.size+1,0,none⟩ (.string s)).setCell ⟨w.heap.size+1,1,none⟩ (.slice aF b ar)));rw [b6] at bm bk a9 |-;clear b6 cY c7 c8 cF;refine bodyPost_ret (v:=.agg #[.string s,.slice aF b ar]) ?_ rfl bm.o;simp [results,results68,go_sem,bk,a9]
theorem qmV {s:ByteArray} {L:List Tr} {c:Nat} (y:opc s=c) (h:c=1\/c=2\/c=3):qdc (opc s) L=1:=by
 rw [y];unfold qdc;rcases h with rfl | rfl | rfl <;> simp
theorem qjc (s:ByteArray) (A:Option Addr) (cap:Nat) (L:List Tr) (z:L.length<=900) (w:World) (H:qaj w A L) :
  Calls prog 68 #[.agg #[.string s,.slice A L.length cap]] w (qjU w s (canL (opc s) L)):=by
 by_cases y:I3 s
 ·have J:=qyP y
  exact qC0 s A cap L z w H (fun k=>by have:=quA k;omega) (fun k=>by have:=quu k;omega) y (qmV J (.inr (.inr rfl)))
 have G:qdc (opc s) L≠1->¬I1 s:=fun h k=>h (qmV (quA k) (.inl rfl))
 have E:qdc (opc s) L≠1->¬I2 s:=fun h k=>h (qmV (quu k) (.inr (.inl rfl)))
 rcases qb3 (opc s) L with h | h | h
 ·exact qBV s A cap L z w H (G (by rw [h];omega)) (E (by rw [h];omega)) y h
 ·exact qCC s A cap L z w H y h
 ·exact qAm s A cap L z w H (G (by rw [h];omega)) (E (by rw [h];omega)) y h
end Go.Proofs.YtjafbmfcedijmaaGreatDoor
namespace Go.Proofs.YtjafbmfcedijmaaGreatDoor
open Tryz
open Go.RowKit Go.Shelf
attribute [local go_sem] Oper.semAt_some
attribute [local irreducible] Go.Mixed.qD8
theorem qfK (w1:World) (A:Option Addr) (cap n:Nat) (L:List Int) (y z:Int) (E:L.length=n) (G:n<=1000) (K:KsP w1 A L) :
  ∃ w2 h,w1.alloc (.cells #[.slice A n cap] 33)=w2/\(w2.alloc (.cells #[.int .i64 y] 3)).alloc (.cells #[.int .i64 z] 3)=h/\
  qeB h (.agg #[.func (.func 279) #[] #[.pointer (some ⟨w1.heap.size,0,none⟩)],.func (.func 280) #[] #[.pointer (some ⟨w2.heap.size,0,none⟩),.pointer (some ⟨w2.heap.size+1,0,none⟩)]]) (L,y,z)/\Below w1.heap.size w1 h/\h.heap.size=w1.heap.size+3:=by
 subst E;refine ⟨_,_,rfl,rfl,⟨_,_,_,A,cap,rfl,?_,?_,?_,?_,G⟩,?_,by simp⟩
 ·exact ((Boxed.new w1 _ _).alloc _).alloc _
 ·exact K.below ((((B0 (w:=w1))).alloc (by simp) _).alloc (by simp;omega) _)
 ·exact (Boxed.new _ _ _).alloc _
 ·have J:=Boxed.new ((w1.alloc (.cells #[.slice A L.length cap] 33)).alloc (.cells #[.int .i64 y] 3)) 3 (.int .i64 z)
  rwa [QL] at J
 ·exact (((B0 (w:=w1))).alloc (by simp) _).alloc (by simp;omega) _
theorem qnP (w:World) (L:List Int) (cs:Array Value) (h:cs.toList=L.map fun n=>.int .i64 n) (t:TypeId):KsP (w.alloc (.cells cs t)) (some ⟨w.heap.size,0,none⟩) L:=by
 refine .inr ⟨_,0,rfl,fun y k=>?_⟩;rw [C9 (heap_alloc_new w _),QS,<- QV,h,Za,Qi k];rfl
def qhR (w:World) (b:Nat) (x:Vr):Prop:=∃ f g,w.heap[b]?=some (.cells #[f,g] 267 (0,0))/\qeB w (.agg #[f,g]) x
theorem qhR.lt {w:World} {b:Nat} {x:Vr} (f:qhR w b x):b<w.heap.size:=by
 obtain ⟨h,y,g,-⟩:=f;exact (Qb.1 g).1
theorem qhR.below {w w':World} {b:Nat} {x:Vr} (f:qhR w b x) (g:Below w.heap.size w w'):qhR w' b x:=by
 have z:=f.lt;obtain ⟨h,y,G,E⟩:=f;exact ⟨h,y,(g.block _ z).trans G,E.below g⟩
theorem KsP.put {w:World} {A:Option Addr} {L:List Int} (U:KsP w A L) {b:Nat} {f g:Value} (M:w.heap[b]?=some (.cells #[f,g] 267 (0,0))) (J:∀ k n,f≠.int k n) (E:∀ k n,g≠.int k n) (j:Nat) (u:Value):KsP (w.setCell ⟨b,j,none⟩ u) A L:=by
 rcases U with rfl | ⟨h,y,rfl,z⟩
 ·exact .inl rfl
 ·refine .inr ⟨h,y,rfl,fun k O=>?_⟩
  have c:=z k O;have G:h≠b:=by
   rintro rfl;rw [C9 M] at c;have:y+k=0\/y+k=1:=by
    have K:=(Qb.1 c).1;simp at K;omega
   rcases this with e | e
   ·rw [e] at c;exact J _ _ (Qw c)
   ·rw [e] at c;exact E _ _ (Qw c)
  have e:=QN (a:=⟨h,y+k,none⟩) (heap_setCell_other w ⟨b,j,none⟩ h u G);exact e.trans c
theorem Boxed.other {w:World} {b c:Nat} {t:TypeId} {v:Value} (y:Boxed w c t v) (h:c≠b) (j:Nat) (u:Value):Boxed (w.setCell ⟨b,j,none⟩ u) c t v:=(heap_setCell_other w ⟨b,j,none⟩ c u h).trans y
theorem Boxed.apart {w:World} {b c:Nat} {t:TypeId} {v:Value} (y:Boxed w c t v) {cs:Array Value} {ty:TypeId} {z:Nat×Nat} (h:w.heap[b]?=some (.cells cs ty z)) (E:t≠ty):c≠b:=by
 rintro rfl;rw [show w.heap[c]?=_ from y] at h;simp at h;exact E h.2.1
theorem qeB.funs {w:World} {f g:Value} {x:Vr} (e:qeB w (.agg #[f,g]) x):(∀ k n,f≠.int k n)/\∀ k n,g≠.int k n:=by
 obtain ⟨y,E,A,z,G,h,-⟩:=e;cases h;exact ⟨fun k n e=>(by cases e),fun k n e=>(by cases e)⟩
theorem qeB.form {w:World} {f g:Value} {x:Vr} (A:qeB w (.agg #[f,g]) x):∃ e y h,f=.func (.func 279) #[] #[.pointer (some ⟨e,0,none⟩)]/\g=.func (.func 280) #[] #[.pointer (some ⟨y,0,none⟩),.pointer (some ⟨h,0,none⟩)]:=by
 obtain ⟨e,y,h,E,G,z,-⟩:=A;cases z;exact ⟨e,y,h,rfl,rfl⟩
theorem qeB.put {w:World} {v:Value} {x:Vr} (V:qeB w v x) {b:Nat} {f g:Value} (h:w.heap[b]?=some (.cells #[f,g] 267 (0,0))) (E:(∀ k n,f≠.int k n)/\∀ k n,g≠.int k n) (j:Nat) (u:Value):qeB (w.setCell ⟨b,j,none⟩ u) v x:=by
 obtain ⟨G,J,U,O,K,rfl,z,M,A,y,Z⟩:=V;exact ⟨G,J,U,O,K,rfl,Boxed.other z (Boxed.apart z h (by decide)) j u,M.put h E.1 E.2 j u,Boxed.other A (Boxed.apart A h (by decide)) j u,Boxed.other y (Boxed.apart y h (by decide)) j u,Z⟩
theorem qeB.store {w:World} {v:Value} {x:Vr} (K:qeB w v x) {b:Nat} {f g:Value} (E:w.heap[b]?=some (.cells #[f,g] 267 (0,0))) (z:(∀ k n,f≠.int k n)/\∀ k n,g≠.int k n) (h y:Value) (J:(∀ k n,h≠.int k n)/\∀ k n,y≠.int k n) :
  qeB ((w.setCell ⟨b,0,none⟩ h).setCell ⟨b,1,none⟩ y) v x:=by
 have G:(w.setCell ⟨b,0,none⟩ h).heap[b]?=some (.cells #[h,g] 267 (0,0)):=heap_setCell_same w b 0 _ _ h E;exact (K.put E z 0 h).put G ⟨J.1,z.2⟩ 1 y
theorem qhR.store {w:World} {c:Nat} {x:Vr} (O:qhR w c x) {b:Nat} {f g:Value} (M:w.heap[b]?=some (.cells #[f,g] 267 (0,0))) (G:(∀ k n,f≠.int k n)/\∀ k n,g≠.int k n) (p h:Value) (J:(∀ k n,p≠.int k n)/\∀ k n,h≠.int k n) (q:c≠b) :
  qhR ((w.setCell ⟨b,0,none⟩ p).setCell ⟨b,1,none⟩ h) c x:=by
 obtain ⟨z,E,y,K⟩:=O;exact ⟨z,E,(heap_setCell_other _ ⟨b,1,none⟩ c h q).trans ((heap_setCell_other _ ⟨b,0,none⟩ c p q).trans y),K.store M G p h J⟩
theorem qhR.put {w:World} {b:Nat} {h y:Value} {x:Vr} (z:qeB w (.agg #[h,y]) x) {f g:Value} (E:w.heap[b]?=some (.cells #[f,g] 267 (0,0))) (K:(∀ k n,f≠.int k n)/\∀ k n,g≠.int k n) :
  qhR ((w.setCell ⟨b,0,none⟩ h).setCell ⟨b,1,none⟩ y) b x:=by
 have G:(w.setCell ⟨b,0,none⟩ h).heap[b]?=some (.cells #[h,g] 267 (0,0)):=heap_setCell_same w b 0 _ _ h E;have J:((w.setCell ⟨b,0,none⟩ h).setCell ⟨b,1,none⟩ y).heap[b]?=some (.cells #[h,y] 267 (0,0)):=heap_setCell_same _ b 1 _ _ y G;exact ⟨h,y,J,z.store E K h y z.funs⟩
theorem qdQ {w w':World} {s:ByteArray} {b B:Nat} (y:qpb w s b) (z:Below B w w') (j:b<B):qpb w' s b:=fun h E=>(z.cell (p:=⟨b,h,none⟩) j).trans (y h E)
theorem qbk {w:World} {s:ByteArray} {b c:Nat} (z:qpb w s b) (k:b≠c) (j:Nat) (u:Value):qpb (w.setCell ⟨c,j,none⟩ u) s b:=fun h y=>(QN (a:=⟨b,h,none⟩) (heap_setCell_other w ⟨c,j,none⟩ b u k)).trans (z h y)
def qbW (ex:Str) (k:Nat):Vr×Vr:=(ex.take k).foldl qli (vr0,vr0)
theorem qpg (ex:Str) (k:Nat) (h:k<ex.length):qbW ex (k+1)=qli (qbW ex k) ex[k]:=by
 unfold qbW;rw [Qx h,List.foldl_append];rfl
theorem qta (ex:Str):qbW ex ex.length=varsV ex:=by
 unfold qbW varsV;rw [List.take_length]
def qmu (w:World) (ex:Str) (e:Ending) (w':World):Prop:=∃ f g y h,e=.returned (.tuple #[.agg #[f,g],.agg #[y,h]])/\qeB w' (.agg #[f,g]) (varsV ex).1/\qeB w' (.agg #[y,h]) (varsV ex).2/\Below w.heap.size w w'
theorem qtH (c:UInt8) (n:Nat) (h:n<256) (y:c≠UInt8.ofNat n):((c.toNat:Int) == (n:Int))=false:=(qeQ c n h _ rfl).symm.trans (Qf y)
theorem qeK (aD aH:Int) (m:Str) (A:Option Addr) (aG cap:Nat) (ex:Str) (cw:ex.length<=1000) (al:Bool) (w:World) :
  Calls prog 206 #[enV aD aH m (.slice A aG cap) ex al] w (qmu w ex):=by
 unfold enV;obtain ⟨g,a9⟩:=N9 (sB ex);have b4:g.size=ex.length:=by rw [<- a9,qaH]
 have bQ:∀ e (ac:e<g.size) (bW:e<ex.length),g[e]=ex[e]:=fun e ac bW=>by subst a9;exact qj4 ex e ac bW
 have cn:=J9 bQ;obtain ⟨bc,bI⟩:=N9 (ex.length);have b6:=J9 bI;rw [bI] at b4 cw;have ck:=fun (w:World)=>run_bytes_of_string (P:=prog) w 9 44 5 g underlying9 underlying44 underlying5
 rw [a9];clear a9 bQ bI;obtain ⟨az,aJ⟩:=N9 (((w.alloc (.cells #[.int .i64 aD,.int .u8 aH,.string (sB m),.slice A aG cap,.string g,.bool al] 163)).alloc (.cells #[.nilFunc,.nilFunc] 267)).alloc (.cells #[.nilFunc,.nilFunc] 267));obtain ⟨c,aN⟩:=N9 (w.heap.size);have B0:Below c w az:=by rw [<- aJ,<- aN];exact (((B0 (w:=w))).alloc (by simp) _).alloc (by simp;omega) _
 have cg:az.heap.size=c+1+1+1:=by rw [<- aJ,<- aN];simp
 have b3:az.heap[c]?=some (.cells #[.int .i64 aD,.int .u8 aH,.string (sB m),.slice A aG cap,.string g,.bool al] 163 (0,0)):=by
  rw [<- aJ,<- aN];exact (Below.heap_alloc _ _ _ (by simp;omega)).trans ((Below.heap_alloc _ _ _ (by simp)).trans (World.alloc_heap_new w _))
 have ay:az.heap[c+1]?=some (.cells #[.nilFunc,.nilFunc] 267 (0,0)):=by
  rw [<- aJ,<- aN];refine (Below.heap_alloc _ _ _ (by simp)).trans ?_;have ac:=World.alloc_heap_new (w.alloc (.cells #[.int .i64 aD,.int .u8 aH,.string (sB m),.slice A aG cap,.string g,.bool al] 163)) (.cells #[.nilFunc,.nilFunc] 267)
  rwa [QL] at ac
 have aw:az.heap[c+1+1]?=some (.cells #[.nilFunc,.nilFunc] 267 (0,0)):=by
  rw [<- aJ,<- aN];have ac:=World.alloc_heap_new ((w.alloc (.cells #[.int .i64 aD,.int .u8 aH,.string (sB m),.slice A aG cap,.string g,.bool al] 163)).alloc (.cells #[.nilFunc,.nilFunc] 267)) (.cells #[.nilFunc,.nilFunc] 267)
  rwa [QL,QL] at ac
 obtain ⟨aa,k,G,ab,bE,bC,cD⟩:=qfK az none 0 0 [] 0 0 rfl (by omega) (.inl rfl);obtain ⟨cd,au,aR,cf,bq,a6,cq⟩:=qfK k none 0 0 [] 0 0 rfl (by omega) (.inl rfl);have n:=qbA none 0 0 az;have l:=qb5 0 0 aa;have bh:=qbA none 0 0 k;have a5:=qb5 0 0 cd;rw [G] at n;rw [ab] at l;rw [aR] at bh;rw [cf] at a5;have U:aa.heap.size=c+4:=by rw [<- G];simp;omega
 have bw:cd.heap.size=c+7:=by rw [<- aR];simp;omega
 have bJ:k.heap.size=c+6:=by omega
 have bZ:Below c w au:=(B0.trans (bC.mono (by omega))).trans (a6.mono (by omega));have bf:Below (c+1+1+1) az au:=(bC.mono (by omega)).trans (a6.mono (by omega));rw [U,cg] at bE;rw [bJ,bw] at bq;rw [cg] at n;rw [U] at l;rw [bJ] at bh;rw [bw] at a5;have bP:=bE.below a6;have bX:au.heap.size=c+9:=by omega
 have aY:=(bf.block (c+1) (by omega)).trans ay;have a1:=(bf.block (c+1+1) (by omega)).trans aw;have a8:=(bf.block c (by omega)).trans b3;have b7:(∀ e c,Value.nilFunc≠.int e c)/\∀ e c,Value.nilFunc≠.int e c:=⟨fun e c ac=>(by cases ac),fun e c ac=>(by cases ac)⟩;have ax:Hid (au.heap[c+1]?=some (.cells #[.nilFunc,.nilFunc] 267 (0,0))/\au.heap[c+1+1]?=some (.cells #[.nilFunc,.nilFunc] 267 (0,0))/\au.heap[c]?=some (.cells #[.int .i64 aD,.int .u8 aH,.string (sB m),.slice A aG cap,.string g,.bool al] 163 (0,0))/\Below c w au):=⟨aY,a1,a8,bZ⟩;have br:=J9 bP;have bp:=J9 bq;have b5:=J9 aN;have a2:=J9 b7;have cC:=J9 aJ;clear G ab aR cf bE bC cD a6 cq bP bq bf bZ aY a1 a8 b7 B0 b3 ay aw U bw bJ aN
 go_enter func206,ntmps206
 go_upto_region 1 with fail
 clear cC aJ
 go_wp2_with fail
 refine n.mono ?_;rintro aj an ⟨rfl,rfl⟩;clear n
 go_wp2_with fail
 refine l.mono ?_;rintro aj an ⟨rfl,rfl⟩;clear l
 go_wp2_with fail
 refine bh.mono ?_;rintro aj an ⟨rfl,rfl⟩;clear bh
 go_wp2_with fail
 refine a5.mono ?_;rintro aj an ⟨rfl,rfl⟩;clear a5;rw [b5.o];have cy:=Qr ax.o.1;have cA:=Qr ax.o.2.1;have ch:=C9 ax.o.1 0;have cB:=C9 ax.o.1 1;have ct:=C9 ax.o.2.1 0;have cz:=C9 ax.o.2.1 1
 go_upto_region 2 with fail
 obtain ⟨B,aT,bG,bM,bR,bY⟩:∃ B,(((au.setCell ⟨c+1,0,none⟩ (.func (.func 279) #[] #[.pointer (some ⟨c+1+1+1,0,none⟩)])).setCell ⟨c+1,1,none⟩ (.func (.func 280) #[] #[.pointer (some ⟨c+4,0,none⟩),.pointer (some ⟨c+4+1,0,none⟩)])).setCell ⟨c+1+1,0,none⟩ (.func (.func 279) #[] #[.pointer (some ⟨c+6,0,none⟩)])).setCell ⟨c+1+1,1,none⟩ (.func (.func 280) #[] #[.pointer (some ⟨c+7,0,none⟩),.pointer (some ⟨c+7+1,0,none⟩)])=B/\
   (qhR B (c+1) vr0/\qhR B (c+1+1) vr0)/\B.heap[c]?=some (.cells #[.int .i64 aD,.int .u8 aH,.string (sB m),.slice A aG cap,.string g,.bool al] 163 (0,0))/\Below c w B/\B.heap.size=c+9:=by
  obtain ⟨aY,a1,a8,cu⟩:=ax.o;have b0:qhR _ (c+1) vr0:=qhR.put br.o aY a2.o;have bV:((au.setCell ⟨c+1,0,none⟩ (.func (.func 279) #[] #[.pointer (some ⟨c+1+1+1,0,none⟩)])).setCell ⟨c+1,1,none⟩ (.func (.func 280) #[] #[.pointer (some ⟨c+4,0,none⟩),.pointer (some ⟨c+4+1,0,none⟩)])).heap[c+1+1]?=some (.cells #[.nilFunc,.nilFunc] 267 (0,0)):=(heap_setCell_other _ ⟨c+1,1,none⟩ _ _ (by simp)).trans ((heap_setCell_other _ ⟨c+1,0,none⟩ _ _ (by simp)).trans a1);have bT:=bp.o.store aY a2.o _ _ br.o.funs;refine ⟨_,rfl,⟨b0.store bV a2.o _ _ bp.o.funs (by omega),qhR.put bT bV a2.o⟩,?_,?_,by simp;exact bX⟩
  ·exact (heap_setCell_other _ ⟨c+1+1,1,none⟩ _ _ (by simp;omega)).trans ((heap_setCell_other _ ⟨c+1+1,0,none⟩ _ _ (by simp;omega)).trans ((heap_setCell_other _ ⟨c+1,1,none⟩ _ _ (by simp)).trans ((heap_setCell_other _ ⟨c+1,0,none⟩ _ _ (by simp)).trans a8)))
  ·exact (((cu.setCell (p:=⟨c+1,0,none⟩) (by simp) _).setCell (p:=⟨c+1,1,none⟩) (by simp) _).setCell (p:=⟨c+1+1,0,none⟩) (by simp;omega) _).setCell (p:=⟨c+1+1,1,none⟩) (by simp;omega) _
 rw [aT];have cJ:=C9 bM 4;have bb:=J9 (qdN B g (grownCap B g.size 0 5) 5);have aZ:Below B.heap.size B (B.alloc (.cells (bytesRow g (grownCap B g.size 0 5)) 5 ((bytesRow g (grownCap B g.size 0 5)).size,(bytesRow g (grownCap B g.size 0 5)).size+1))).drew:=(B0).drew;have bu:=J9 (Zf (bG.1.below aZ) (bG.2.below aZ));have bj:=J9 (bR.trans (aZ.mono (by omega)));have bk:Hid (c+10<=(B.alloc (.cells (bytesRow g (grownCap B g.size 0 5)) 5 ((bytesRow g (grownCap B g.size 0 5)).size,(bytesRow g (grownCap B g.size 0 5)).size+1))).drew.heap.size):=by show _<=_;simp;omega
 rw [bY] at bb;rw [b4] at bb bu bj bk;clear bG bM bR aT aZ cy cA ch cB ct cz ax br bp bX;go_wp2;clear ck bY
 go_loopw [16] (fun bF wr=>∃ e:Nat,e<=bc/\bF=.int .i64 e/\Hid (qpb wr g (c+9))/\Hid (qhR wr (c+1) (qbW ex e).1/\qhR wr (c+1+1) (qbW ex e).2)/\Hid (Below c w wr)/\Hid (c+10<=wr.heap.size)) (fun bF _=>bc - (intOf bF).toNat)
 case atStart=>exact ⟨0,Qs _,rfl,bb.o,bu.o,bj.o,bk.o⟩
 case round=>
  clear bb bu bj bk;obtain ⟨e,cK,rfl,ae,i,ah,am⟩:=hrel;by_cases cr:e<bc
  ·have b2:e<g.size:=by omega
   have bL:e<ex.length:=(by rw [b6.o];exact cr);have aR:wr.cell? ⟨c+9,e,none⟩=some (.int .u8 (g[e].toNat:Int)):=ae.o e b2;rw [cn.o e b2 bL] at aR;have aB:=qpg ex e bL;obtain ⟨aA,ca⟩:=N9 (ex[e]);rw [ca] at aR aB;have aB:=J9 aB;clear ca;have cI:e<=1000:=(by omega);by_cases bg:aA=100
   ·subst bg
    have ar:Hid (qbW ex (e+1)=((([5],-128,127):Vr),(qbW ex e).2)):=by
     show qbW ex (e+1)=_;rw [aB.o];unfold qli;rfl
    have i:=i.o;obtain ⟨M,O,E,R⟩:=i.1;have ad:=i.2;clear i;have S:=R.funs;obtain ⟨f,h⟩:=N9 (wr.heap.size);obtain ⟨z,V⟩:=N9 (wr.alloc (.cells #[.int .i64 5] 3));have Z:Below wr.heap.size wr z:=(by rw [<- V];exact B0);have ak:KsP z (some ⟨f,0,none⟩) [5]:=(by rw [<- V,<- h];exact qnP wr [5] _ rfl _);have af:z.heap.size=f+1:=(by rw [<- V,<- h];simp);obtain ⟨aa,k,G,ab,y,ag,aF⟩:=qfK z (some ⟨f,0,none⟩) 1 1 [5] (-128) (127) rfl (by omega) ak;have n:=qbA (some ⟨f,0,none⟩) 1 1 z;have l:=qb5 (-128) (127) aa;rw [G] at n;rw [ab] at l;have U:aa.heap.size=f+2:=(by rw [<- G];simp;omega);rw [af] at n;rw [U] at l;rw [af,U] at y;have J:Below f wr k:=(by rw [<- h];exact Z.trans (ag.mono Z.size));have K:Below wr.heap.size wr k:=(by rw [h];exact J);have aC:c+1<f:=(by rw [<- h];exact (Qb.1 E).1);have s:Hid (k.heap[c+1]?=some (.cells #[M,O] 267 (0,0))):=(J.block _ aC).trans E;have aQ:=J9 (ad.below K);have ai:=J9 S;have y:=J9 y;have aM:c<=f:=(by omega);have aI:=J9 (ah.o.trans (J.mono aM));have aP:Hid (qpb k g (c+9)):=qdQ ae.o K (by rw [h];have:=am.o;rw [h] at this;omega);have aK:Hid (c+10<=k.heap.size):=(by have aO:=K.size;have aL:=am.o;show _<=_;omega);clear E R ad S ag aF Z J K ak G ab ae ah i
    go_wp2_with fail
    refine n.mono ?_;rintro aj an ⟨rfl,rfl⟩;clear n
    go_wp2_with fail
    refine l.mono ?_;rintro aj an ⟨rfl,rfl⟩;clear l;have bA:=Qr s.o;have bs:=C9 s.o 0;have bK:=C9 s.o 1;go_wp2;go_roundw
    case rel=>
     refine ⟨e+1,by omega,by go_num,qbk (qbk aP.o (by omega) _ _) (by omega) _ _,?_,(aI.o.setCell (p:=⟨c+1,0,none⟩) (show c<=c+1 by omega) _).setCell (p:=⟨c+1,1,none⟩) (show c<=c+1 by omega) _,by show c+10<=_;simpa using aK.o⟩;rw [ar.o];exact ⟨qhR.put y.o (s).o ai.o,aQ.o.store s.o ai.o _ _ y.o.funs (by omega)⟩
    case measure=>simp [intOf];omega
   by_cases a7:aA=101
   ·subst a7
    have ar:Hid (qbW ex (e+1)=((qbW ex e).1,(([10],-128,127):Vr))):=by
     show qbW ex (e+1)=_;rw [aB.o];unfold qli;rw [Qd (by decide)];rfl
    have i:=i.o;obtain ⟨M,O,E,R⟩:=i.2;have ad:=i.1;clear i;have S:=R.funs;obtain ⟨f,h⟩:=N9 (wr.heap.size);obtain ⟨z,V⟩:=N9 (wr.alloc (.cells #[.int .i64 10] 3));have Z:Below wr.heap.size wr z:=(by rw [<- V];exact B0);have ak:KsP z (some ⟨f,0,none⟩) [10]:=(by rw [<- V,<- h];exact qnP wr [10] _ rfl _);have af:z.heap.size=f+1:=(by rw [<- V,<- h];simp);obtain ⟨aa,k,G,ab,y,ag,aF⟩:=qfK z (some ⟨f,0,none⟩) 1 1 [10] (-128) (127) rfl (by omega) ak;have n:=qbA (some ⟨f,0,none⟩) 1 1 z;have l:=qb5 (-128) (127) aa;rw [G] at n;rw [ab] at l;have U:aa.heap.size=f+2:=(by rw [<- G];simp;omega);rw [af] at n;rw [U] at l;rw [af,U] at y;have J:Below f wr k:=(by rw [<- h];exact Z.trans (ag.mono Z.size));have K:Below wr.heap.size wr k:=(by rw [h];exact J);have aC:c+1+1<f:=(by rw [<- h];exact (Qb.1 E).1);have s:Hid (k.heap[c+1+1]?=some (.cells #[M,O] 267 (0,0))):=(J.block _ aC).trans E;have aQ:=J9 (ad.below K);have ai:=J9 S;have y:=J9 y;have aM:c<=f:=(by omega);have aI:=J9 (ah.o.trans (J.mono aM));have aP:Hid (qpb k g (c+9)):=qdQ ae.o K (by rw [h];have:=am.o;rw [h] at this;omega);have aK:Hid (c+10<=k.heap.size):=(by have aO:=K.size;have aL:=am.o;show _<=_;omega);clear E R ad S ag aF Z J K ak G ab ae ah i
    go_wp2_with fail
    refine n.mono ?_;rintro aj an ⟨rfl,rfl⟩;clear n
    go_wp2_with fail
    refine l.mono ?_;rintro aj an ⟨rfl,rfl⟩;clear l;have bA:=Qr s.o;have bs:=C9 s.o 0;have bK:=C9 s.o 1;go_wp2;go_roundw
    case rel=>
     refine ⟨e+1,by omega,by go_num,qbk (qbk aP.o (by omega) _ _) (by omega) _ _,?_,(aI.o.setCell (p:=⟨c+1+1,0,none⟩) (show c<=c+1+1 by omega) _).setCell (p:=⟨c+1+1,1,none⟩) (show c<=c+1+1 by omega) _,by show c+10<=_;simpa using aK.o⟩;rw [ar.o];exact ⟨aQ.o.store s.o ai.o _ _ y.o.funs (by omega),qhR.put y.o (s).o ai.o⟩
    case measure=>simp [intOf];omega
   by_cases a0:aA=110
   ·subst a0
    have ar:Hid (qbW ex (e+1)=((qbW ex e).1,(([6,7],0,255):Vr))):=by
     show qbW ex (e+1)=_;rw [aB.o];unfold qli;rw [Qd (by decide)];rw [Qd (by decide)];rfl
    have i:=i.o;obtain ⟨M,O,E,R⟩:=i.2;have ad:=i.1;clear i;have S:=R.funs;obtain ⟨f,h⟩:=N9 (wr.heap.size);obtain ⟨z,V⟩:=N9 (wr.alloc (.cells #[.int .i64 6,.int .i64 7] 3));have Z:Below wr.heap.size wr z:=(by rw [<- V];exact B0);have ak:KsP z (some ⟨f,0,none⟩) [6,7]:=(by rw [<- V,<- h];exact qnP wr [6,7] _ rfl _);have af:z.heap.size=f+1:=(by rw [<- V,<- h];simp);obtain ⟨aa,k,G,ab,y,ag,aF⟩:=qfK z (some ⟨f,0,none⟩) 2 2 [6,7] (0) (255) rfl (by omega) ak;have n:=qbA (some ⟨f,0,none⟩) 2 2 z;have l:=qb5 (0) (255) aa;rw [G] at n;rw [ab] at l;have U:aa.heap.size=f+2:=(by rw [<- G];simp;omega);rw [af] at n;rw [U] at l;rw [af,U] at y;have J:Below f wr k:=(by rw [<- h];exact Z.trans (ag.mono Z.size));have K:Below wr.heap.size wr k:=(by rw [h];exact J);have aC:c+1+1<f:=(by rw [<- h];exact (Qb.1 E).1);have s:Hid (k.heap[c+1+1]?=some (.cells #[M,O] 267 (0,0))):=(J.block _ aC).trans E;have aQ:=J9 (ad.below K);have ai:=J9 S;have y:=J9 y;have aM:c<=f:=(by omega);have aI:=J9 (ah.o.trans (J.mono aM));have aP:Hid (qpb k g (c+9)):=qdQ ae.o K (by rw [h];have:=am.o;rw [h] at this;omega);have aK:Hid (c+10<=k.heap.size):=(by have aO:=K.size;have aL:=am.o;show _<=_;omega);clear E R ad S ag aF Z J K ak G ab ae ah i
    go_wp2_with fail
    refine n.mono ?_;rintro aj an ⟨rfl,rfl⟩;clear n
    go_wp2_with fail
    refine l.mono ?_;rintro aj an ⟨rfl,rfl⟩;clear l;have bA:=Qr s.o;have bs:=C9 s.o 0;have bK:=C9 s.o 1;go_wp2;go_roundw
    case rel=>
     refine ⟨e+1,by omega,by go_num,qbk (qbk aP.o (by omega) _ _) (by omega) _ _,?_,(aI.o.setCell (p:=⟨c+1+1,0,none⟩) (show c<=c+1+1 by omega) _).setCell (p:=⟨c+1+1,1,none⟩) (show c<=c+1+1 by omega) _,by show c+10<=_;simpa using aK.o⟩;rw [ar.o];exact ⟨aQ.o.store s.o ai.o _ _ y.o.funs (by omega),qhR.put y.o (s).o ai.o⟩
    case measure=>simp [intOf];omega
   by_cases a3:aA=119
   ·subst a3
    have ar:Hid (qbW ex (e+1)=((qbW ex e).1,(([6,7],0,65535):Vr))):=by
     show qbW ex (e+1)=_;rw [aB.o];unfold qli;rw [Qd (by decide)];rw [Qd (by decide)];rw [Qd (by decide)];rfl
    have i:=i.o;obtain ⟨M,O,E,R⟩:=i.2;have ad:=i.1;clear i;have S:=R.funs;obtain ⟨f,h⟩:=N9 (wr.heap.size);obtain ⟨z,V⟩:=N9 (wr.alloc (.cells #[.int .i64 6,.int .i64 7] 3));have Z:Below wr.heap.size wr z:=(by rw [<- V];exact B0);have ak:KsP z (some ⟨f,0,none⟩) [6,7]:=(by rw [<- V,<- h];exact qnP wr [6,7] _ rfl _);have af:z.heap.size=f+1:=(by rw [<- V,<- h];simp);obtain ⟨aa,k,G,ab,y,ag,aF⟩:=qfK z (some ⟨f,0,none⟩) 2 2 [6,7] (0) (65535) rfl (by omega) ak;have n:=qbA (some ⟨f,0,none⟩) 2 2 z;have l:=qb5 (0) (65535) aa;rw [G] at n;rw [ab] at l;have U:aa.heap.size=f+2:=(by rw [<- G];simp;omega);rw [af] at n;rw [U] at l;rw [af,U] at y;have J:Below f wr k:=(by rw [<- h];exact Z.trans (ag.mono Z.size));have K:Below wr.heap.size wr k:=(by rw [h];exact J);have aC:c+1+1<f:=(by rw [<- h];exact (Qb.1 E).1);have s:Hid (k.heap[c+1+1]?=some (.cells #[M,O] 267 (0,0))):=(J.block _ aC).trans E;have aQ:=J9 (ad.below K);have ai:=J9 S;have y:=J9 y;have aM:c<=f:=(by omega);have aI:=J9 (ah.o.trans (J.mono aM));have aP:Hid (qpb k g (c+9)):=qdQ ae.o K (by rw [h];have:=am.o;rw [h] at this;omega);have aK:Hid (c+10<=k.heap.size):=(by have aO:=K.size;have aL:=am.o;show _<=_;omega);clear E R ad S ag aF Z J K ak G ab ae ah i
    go_wp2_with fail
    refine n.mono ?_;rintro aj an ⟨rfl,rfl⟩;clear n
    go_wp2_with fail
    refine l.mono ?_;rintro aj an ⟨rfl,rfl⟩;clear l;have bA:=Qr s.o;have bs:=C9 s.o 0;have bK:=C9 s.o 1;go_wp2;go_roundw
    case rel=>
     refine ⟨e+1,by omega,by go_num,qbk (qbk aP.o (by omega) _ _) (by omega) _ _,?_,(aI.o.setCell (p:=⟨c+1+1,0,none⟩) (show c<=c+1+1 by omega) _).setCell (p:=⟨c+1+1,1,none⟩) (show c<=c+1+1 by omega) _,by show c+10<=_;simpa using aK.o⟩;rw [ar.o];exact ⟨aQ.o.store s.o ai.o _ _ y.o.funs (by omega),qhR.put y.o (s).o ai.o⟩
    case measure=>simp [intOf];omega
   have b0:=qtH aA 100 (by decide) bg;have bT:=qtH aA 101 (by decide) a7;have cH:=qtH aA 110 (by decide) a0;have cF:=qtH aA 119 (by decide) a3;have ar:Hid (qbW ex (e+1)=qbW ex e):=by
    show qbW ex (e+1)=_;rw [aB.o];unfold qli;rw [Qd bg,Qd a7,Qd a0,Qd a3]
   clear bg a7 a0 a3;go_wp2;go_roundw
   case rel=>exact ⟨e+1,by omega,by go_num,ae.o,by rw [ar.o];exact i.o,ah.o,am.o⟩
   case measure=>simp [intOf];omega
  ·obtain rfl:e=bc:=by omega
   have cv:Hid (qbW ex e=varsV ex):=(by show qbW ex e=_;rw [<- b6.o];exact qta ex);have i:=i.o;rw [cv.o] at i;obtain ⟨⟨M,O,E,R⟩,ap,ao,a4,bi⟩:=i;obtain ⟨bt,bB,bx,ci,cm⟩:=R.form;obtain ⟨ce,bU,b8,cj,co⟩:=bi.form;have S:=J9 R.funs;have bd:=J9 bi.funs;have cG:=J9 (Zf E a4);have aV:=below_drewN wr wr.heap.size 1;have aq:=J9 ((aV.block _ (Qb.1 E).1).trans E);have be:=J9 ((aV.block _ (Qb.1 a4).1).trans a4);have A1:=J9 (R.below aV);have bH:=J9 (bi.below aV);have bD:Hid (Below c w wr.drew):=ah.o.drew;have cE:c<=wr.heap.size:=(by have:=am.o;omega);clear ae i ah E a4 R bi aV am
   go_upto_region 15 with fail
   obtain ⟨aS,aW⟩:=N9 (wr.drew);have cc:wr.drewN 1=aS:=aW;rw [cc] at aq be A1 bH;rw [aW] at bD;refine Mixed.qD5 (fun b1=>b1.heap[c+1]?=some (.cells #[M,O] 267 (0,0))/\b1.heap[c+1+1]?=some (.cells #[ap,ao] 267 (0,0))) 3 [(0,true),(1,true),(2,false)] (by kernel_rfl) (by kernel_rfl) (by rw [aW];exact ⟨aq.o,be.o⟩) ?_;rw [aW];refine Mixed.mo rfl (.agg #[M,O]) (fun w ac=>by
    obtain ⟨aO,aL⟩:=ac;have cx:=C9 aO 0;have aE:=C9 aO 1
    go_simp;try rfl) ?_
   refine Mixed.mo rfl (.agg #[ap,ao]) (fun w ac=>by
    obtain ⟨aO,aL⟩:=ac;have cx:=C9 aL 0;have aE:=C9 aL 1
    go_simp;try rfl) ?_
   have ay:=C9 aq.o 0;have aw:=C9 aq.o 1;have bl:=Qr aq.o;have aE:((aS.setCell ⟨c+1,0,none⟩ M).setCell ⟨c+1,1,none⟩ O).heap[c+1]?=some (.cells #[M,O] 267 (0,0)):=heap_setCell_same _ (c+1) 1 _ _ O (heap_setCell_same aS (c+1) 0 _ _ M aq.o);have aU:((aS.setCell ⟨c+1,0,none⟩ M).setCell ⟨c+1,1,none⟩ O).heap[c+1+1]?=some (.cells #[ap,ao] 267 (0,0)):=(heap_setCell_other _ ⟨c+1,1,none⟩ _ _ (by simp)).trans ((heap_setCell_other _ ⟨c+1,0,none⟩ _ _ (by simp)).trans be.o);have bm:=J9 (A1.o.store aq.o S.o M O S.o);have bz:=J9 (bH.o.store aq.o S.o M O S.o);have bv:Hid (Below c w ((aS.setCell ⟨c+1,0,none⟩ M).setCell ⟨c+1,1,none⟩ O)):=(bD.o.setCell (p:=⟨c+1,0,none⟩) (show c<=c+1 by omega) _).setCell (p:=⟨c+1,1,none⟩) (show c<=c+1 by omega) _;have ba:=J9 aE;have av:=J9 aU;clear aE aU aq be A1 bH bD aW cc;refine Mixed.qD6 rfl (by kernel_rfl) ?_;subst ci cm;go_wp2;obtain ⟨aX,bN⟩:=N9 ((aS.setCell ⟨c+1,0,none⟩ (.func (.func 279) #[] #[.pointer (some ⟨bt,0,none⟩)])).setCell ⟨c+1,1,none⟩ (.func (.func 280) #[] #[.pointer (some ⟨bB,0,none⟩),.pointer (some ⟨bx,0,none⟩)]));rw [bN] at ba av bm bz bv |-;refine ⟨⟨ba.o,av.o⟩,?_⟩;clear ay aw bl;have ay:=C9 av.o 0;have aw:=C9 av.o 1;have bl:=Qr av.o;have aU:((aX.setCell ⟨c+1+1,0,none⟩ ap).setCell ⟨c+1+1,1,none⟩ ao).heap[c+1+1]?=some (.cells #[ap,ao] 267 (0,0)):=heap_setCell_same _ (c+1+1) 1 _ _ ao (heap_setCell_same aX (c+1+1) 0 _ _ ap av.o);have aE:((aX.setCell ⟨c+1+1,0,none⟩ ap).setCell ⟨c+1+1,1,none⟩ ao).heap[c+1]?=some (.cells #[.func (.func 279) #[] #[.pointer (some ⟨bt,0,none⟩)],.func (.func 280) #[] #[.pointer (some ⟨bB,0,none⟩),.pointer (some ⟨bx,0,none⟩)]] 267 (0,0)):=(heap_setCell_other _ ⟨c+1+1,1,none⟩ _ _ (by simp)).trans ((heap_setCell_other _ ⟨c+1+1,0,none⟩ _ _ (by simp)).trans ba.o);have bS:=J9 (bm.o.store av.o bd.o ap ao bd.o);have b9:=J9 (bz.o.store av.o bd.o ap ao bd.o);have bO:Hid (Below c w ((aX.setCell ⟨c+1+1,0,none⟩ ap).setCell ⟨c+1+1,1,none⟩ ao)):=(bv.o.setCell (p:=⟨c+1+1,0,none⟩) (show c<=c+1+1 by omega) _).setCell (p:=⟨c+1+1,1,none⟩) (show c<=c+1+1 by omega) _;have bn:=J9 aE;have bo:=J9 aU;clear aE aU ba av bm bz bv bN;simp only [Mixed.qD8,Qq,Qy];subst cj co;go_wp2;obtain ⟨B,aT⟩:=N9 ((aX.setCell ⟨c+1+1,0,none⟩ (.func (.func 279) #[] #[.pointer (some ⟨ce,0,none⟩)])).setCell ⟨c+1+1,1,none⟩ (.func (.func 280) #[] #[.pointer (some ⟨bU,0,none⟩),.pointer (some ⟨b8,0,none⟩)]));rw [aT] at bn bo bS b9 bO |-;clear ay aw bl aT;have ay:=C9 bn.o 0;have aw:=C9 bn.o 1;have cl:=C9 bo.o 0;have cp:=C9 bo.o 1;refine bodyPost_ret (v:=.tuple #[.agg #[.func (.func 279) #[] #[.pointer (some ⟨bt,0,none⟩)],.func (.func 280) #[] #[.pointer (some ⟨bB,0,none⟩),.pointer (some ⟨bx,0,none⟩)]],.agg #[.func (.func 279) #[] #[.pointer (some ⟨ce,0,none⟩)],.func (.func 280) #[] #[.pointer (some ⟨bU,0,none⟩),.pointer (some ⟨b8,0,none⟩)]]]) ?_ rfl ?_
   ·simp [results,results206,go_sem,ay,aw,cl,cp]
   ·exact ⟨_,_,_,_,rfl,bS.o,b9.o,by rw [b5.o];exact bO.o⟩
end Go.Proofs.YtjafbmfcedijmaaGreatDoor
namespace Go.Proofs.YtjafbmfcedijmaaGreatDoor
open Tryz
open Go.RowKit
attribute [local go_sem] Oper.semAt_some
theorem qoc {h:List Int} {L:List Tr} (y:atV h L=none):atI h L=-1:=by unfold atI;rw [y]
theorem qnG {h:List Int} {L:List Tr} {k:Nat} (y:atV h L=some k):atI h L=(k:Int):=by unfold atI;rw [y]
theorem getD_at {L:List Tr} {k:Nat} (h:k<L.length):L.getD k tr0=L[k]:=by rw [Qo,Qi h];rfl
theorem quU (x:Vr) (v:Value) (s:ByteArray) (A:Option Addr) (cap l:Nat) (L:List Tr) (am:L.length=l) (ap:l<=1000) (w:World) (ab:qeB w v x) (H:qaj w A L) :
  Calls prog 208 #[v,.agg #[.string s,.slice A l cap]] w fun b az=>b=.returned (.int .i64 (qdn x.1 L))/\Below w.heap.size w az:=by
 have av:=ab;obtain ⟨O,U,aa,aB,aE,rfl,-⟩:=av;obtain ⟨z,K⟩:=N9 ((w.alloc (.cells #[.func (.func 279) #[] #[.pointer (some ⟨O,0,none⟩)],.func (.func 280) #[] #[.pointer (some ⟨U,0,none⟩),.pointer (some ⟨aa,0,none⟩)]] 267)).alloc (.cells #[.string s,.slice A l cap] 24));obtain ⟨E,h⟩:=N9 (w.heap.size);have J:Below E w z:=by rw [<- K,<- h];exact ((B0 (w:=w))).alloc (by simp) _
 have aA:z.heap.size=E+1+1:=by rw [<- K,<- h];simp
 have Z:z.heap[E]?=some (.cells #[.func (.func 279) #[] #[.pointer (some ⟨O,0,none⟩)],.func (.func 280) #[] #[.pointer (some ⟨U,0,none⟩),.pointer (some ⟨aa,0,none⟩)]] 267 (0,0)):=by
  rw [<- K,<- h];exact (Below.heap_alloc _ _ _ (by simp)).trans (World.alloc_heap_new w _)
 have k:z.heap[E+1]?=some (.cells #[.string s,.slice A l cap] 24 (0,0)):=by
  rw [<- K,<- h];have ay:=World.alloc_heap_new (w.alloc (.cells #[.func (.func 279) #[] #[.pointer (some ⟨O,0,none⟩)],.func (.func 280) #[] #[.pointer (some ⟨U,0,none⟩),.pointer (some ⟨aa,0,none⟩)]] 267)) (.cells #[.string s,.slice A l cap] 24)
  rwa [QL] at ay
 have n:=J9 (qqW x _ s A cap l L am ap z (ab.below (by rw [h];exact J)) (H.below (by rw [h];exact J)));have af:=J9 h;have B0:=J9 J;have aw:=J9 k;have au:=J9 H;have ac:=C9 Z 0;have ad:=C9 Z 1;have ag:=C9 k 0;have ae:=C9 k 1;clear H ab J Z k;cases b:atV x.1 L with
 | none=>
  have G:Hid (qdn x.1 L=0):=by show qdn x.1 L=0;unfold qdn;rw [b]
  rw [qoc b] at n;clear b
  go_enter func208,ntmps208
  go_wp2_with fail
  refine n.o.mono ?_;rintro b ax ⟨rfl,e⟩;have V:=J9 (B0.o.trans (e.mono (by omega)));clear e n ac ad ag ae;go_wp2;go_ret;exact ⟨by rw [G.o];rfl,by rw [af.o];exact V.o⟩
 | some y=>
  have ai:=qdy b;have aF:y<l:=by omega
  have G:Hid (qdn x.1 L=L[y].2.2):=by show qdn x.1 L=_;unfold qdn;rw [b];simp only;rw [getD_at ai]
  rw [qnG b] at n;obtain ⟨ao,an,rfl,e,aq,ar,M⟩:=(au.o.below (by rw [h];exact B0.o)).at_ ai;have aj:=J9 M;have ak:=J9 e;have aD:(y:Int)<(l:Int):=by omega
  clear b aq ar M e
  go_enter func208,ntmps208
  go_wp2_with fail
  refine n.o.mono ?_;rintro b ax ⟨rfl,e⟩;have V:=J9 (B0.o.trans (e.mono (by omega)));have k:=(e.block (E+1) (by omega)).trans aw.o;have aC:=C9 k 1;have M:=(e.cell (p:=⟨ao,an+y*3+2,none⟩) ak.o).trans aj.o;obtain ⟨aG,ah⟩:=N9 (L[y].2.2);rw [ah] at M G;clear e n k ah ac ad ag ae;go_wp2;go_ret;exact ⟨by rw [G.o];rfl,by rw [af.o];exact V.o⟩
theorem qu3 {w:World} {B g cap l:Nat} {L:List Tr} (z:qah w B (.slice (some ⟨g,0,none⟩) l cap) L) (h:L.length=l) (k:Nat) (y:k<L.length) (n:Int):qah (w.setCell ⟨g,k*3+2,none⟩ (.int .i64 n)) B (.slice (some ⟨g,0,none⟩) l cap) (setN L k n):=by
 refine z.put h (by unfold setN;rw [List.length_set];exact h) (k*3+2) _ ?_;unfold setN;rw [getD_at y];exact (qe6 L k _ _ n y rfl rfl).symm
theorem qve {w:World} {v:Value} {x:Vr} (U:qeB w v x) {g:Nat} {M:Array Value} (A:w.heap[g]?=some (.cells M 57 (0,0))) (y G:Nat) (j:Nat) (u:Value) {K:Nat}
  (e:v=.agg #[.func (.func 279) #[] #[.pointer (some ⟨K,0,none⟩)],.func (.func 280) #[] #[.pointer (some ⟨y,0,none⟩),.pointer (some ⟨G,0,none⟩)]]) :
  Boxed (w.setCell ⟨g,j,none⟩ u) y 3 (.int .i64 x.2.1)/\Boxed (w.setCell ⟨g,j,none⟩ u) G 3 (.int .i64 x.2.2):=by
 subst e;obtain ⟨ae,V,ad,ac,Z,e,aa,ab,E,h,af⟩:=U;cases e;have z:∀ {b:Nat} {J:Value},Boxed w b 3 J->b≠g:=fun {b J} O=>by
  rintro rfl;rw [show w.heap[b]?=_ from O] at A;simp at A
 exact ⟨(heap_setCell_other w ⟨g,j,none⟩ _ u (z E)).trans E,(heap_setCell_other w ⟨g,j,none⟩ _ u (z h)).trans h⟩
theorem qbj {w w':World} (h:Below w.heap.size w w') (row:Option Nat):w.grownBy w' row:=⟨h.os,h.tape,h.output,h.size,fun k y _=>h.block k y⟩
theorem qaR (w:World) (b i:Nat) (v:Value):w.grownBy (w.setCell ⟨b,i,none⟩ v) (some b):=
 ⟨rfl,rfl,rfl,by simp,fun k y h=>heap_setCell_other w ⟨b,i,none⟩ k v (fun e=>h (by rw [e]))⟩
theorem qEU (x:Vr) (v:Value) (s:ByteArray) (A:Option Addr) (cap l B:Nat) (L:List Tr) (aA:L.length=l) (aN:l<=1000) (q:Int) (w:World) (ab:qeB w v x) (H:qah w B (.slice A l cap) L) (aG:B<=w.heap.size) :
  Calls prog 247 #[v,.agg #[.string s,.slice A l cap],.int .i64 q] w fun e au=>e=.returned (.bool (qcN x L q))/\qah au B (.slice A l cap) (qea x.1 L q)/\w.grownBy au (Value.slice A l cap).ownBlock:=by
 have aJ:=ab;obtain ⟨ae,K,M,a1,bd,rfl,-⟩:=aJ;obtain ⟨E,O⟩:=N9 ((w.alloc (.cells #[.func (.func 279) #[] #[.pointer (some ⟨ae,0,none⟩)],.func (.func 280) #[] #[.pointer (some ⟨K,0,none⟩),.pointer (some ⟨M,0,none⟩)]] 267)).alloc (.cells #[.string s,.slice A l cap] 24));obtain ⟨k,J⟩:=N9 (w.heap.size);have ak:Below k w E:=by rw [<- O,<- J];exact ((B0 (w:=w))).alloc (by simp) _
 have bb:E.heap.size=k+1+1:=by rw [<- O,<- J];simp
 have u:E.heap[k]?=some (.cells #[.func (.func 279) #[] #[.pointer (some ⟨ae,0,none⟩)],.func (.func 280) #[] #[.pointer (some ⟨K,0,none⟩),.pointer (some ⟨M,0,none⟩)]] 267 (0,0)):=by
  rw [<- O,<- J];exact (Below.heap_alloc _ _ _ (by simp)).trans (World.alloc_heap_new w _)
 have n:E.heap[k+1]?=some (.cells #[.string s,.slice A l cap] 24 (0,0)):=by
  rw [<- O,<- J];have aX:=World.alloc_heap_new (w.alloc (.cells #[.func (.func 279) #[] #[.pointer (some ⟨ae,0,none⟩)],.func (.func 280) #[] #[.pointer (some ⟨K,0,none⟩),.pointer (some ⟨M,0,none⟩)]] 267)) (.cells #[.string s,.slice A l cap] 24)
  rwa [QL] at aX
 have V:Below w.heap.size w E:=by rw [J];exact ak
 have ag:=ab.below V;have ad:=H.below V;have an:qaj E A L:=by
  obtain ⟨a5,aF,e,aT,-⟩:=ad.ops;simp only [QC] at e;rw [e.1];exact aT
 have G:=J9 (qqW x _ s A cap l L aA aN E ag an);have a8:=J9 J;have aB:=J9 (qbj V (Value.slice A l cap).ownBlock);have aM:=J9 u;have aQ:=J9 n;have aP:=J9 ag;have ao:=J9 ad;have aS:Hid (B<=k):=by show B<=k;omega
 have ay:=C9 u 0;have aq:=C9 u 1;have ar:=C9 n 0;have aC:=C9 n 1;clear H ab ak u n ag ad an V aG;cases e:atV x.1 L with
 | none=>
  have ai:Hid (qea x.1 L q=L):=by show qea x.1 L q=L;unfold qea;rw [e]
  have ah:Hid (decide (q=0)=qcN x L q):=by show _=qcN x L q;unfold qcN;rw [e]
  rw [qoc e] at G;clear e
  go_enter func247,ntmps247
  go_wp2_with fail
  refine G.o.mono ?_;rintro e z ⟨rfl,g⟩;have Z:Hid (w.grownBy z (Value.slice A l cap).ownBlock):=World.grownBy.trans aB.o (qbj g _);have aK:=J9 (ao.o.below g);clear g G ay aq ar aC;go_wp2;go_ret;exact ⟨qaa ah.o,by rw [ai.o];exact aK.o,Z.o⟩
 | some h=>
  have aD:=qdy e;have a4:h<l:=by omega
  have ai:Hid (qea x.1 L q=setN L h q):=by show qea x.1 L q=_;unfold qea;rw [e]
  have ah:Hid (inV x q=qcN x L q):=by show _=qcN x L q;unfold qcN;rw [e]
  rw [qnG e] at G;have a3:(h:Int)<(l:Int):=by omega
  have ac:=J9 aD;clear e aD
  go_enter func247,ntmps247
  go_wp2_with fail
  refine G.o.mono ?_;rintro e z ⟨rfl,g⟩;have Z:Hid (w.grownBy z (Value.slice A l cap).ownBlock):=World.grownBy.trans aB.o (qbj g _);have u:=(g.block k (by omega)).trans aM.o;have n:=(g.block (k+1) (by omega)).trans aQ.o;have af:=ao.o.below g;have aw:=aP.o.below g;obtain ⟨y,aF,ap,a2,⟨a0,U⟩,az,am⟩:=af.form (by have:=ac.o;omega);simp only [QC] at ap;obtain ⟨rfl,-,rfl⟩:=ap;have ax:=(az h ac.o).2.2;have aZ:=am (h*3+2);have aI:y≠k:=by
   rintro rfl;rw [U] at u;simp at u
  have a9:y≠k+1:=by
   rintro rfl;rw [U] at n;simp at n
  have aY:=C9 n 1;have av:=(heap_setCell_other z ⟨y,h*3+2,none⟩ k (.int .i64 q) (Ne.symm aI)).trans u;have bc:=C9 av 1;have aa:=qve aw U K M (h*3+2) (.int .i64 q) rfl;have aj:=J9 (qo9 K M x q _ aa.1 aa.2);have aH:=J9 (qu3 af aA h ac.o q);have aO:Hid (w.grownBy (z.setCell ⟨y,h*3+2,none⟩ (.int .i64 q)) (some y)):=World.grownBy.trans Z.o (qaR z y (h*3+2) (.int .i64 q));obtain ⟨aL,aE⟩:=N9 (L[h].2.2);have aR:=g.size;have a6:Hid (B<=z.heap.size):=by have:=aS.o;show B<=_;omega
  clear ay aq ar aC g G u n af aw az am U av aa aR;have a7:z.cell? ⟨y,h*3+2,none⟩=some (.int .i64 aL):=by rw [<- aE];exact ax
  clear ax aE
  go_wp2_with fail
  refine aj.o.mono ?_;rintro e aV ⟨rfl,g⟩;have aU:Hid (w.grownBy aV (some y)):=World.grownBy.trans aO.o (qbj g _);have aW:=J9 (aH.o.below g);clear g aj;go_wp2;go_ret;exact ⟨qaa ah.o,by rw [ai.o];exact aW.o,aU.o⟩
end Go.Proofs.YtjafbmfcedijmaaGreatDoor
namespace Go.Proofs.YtjafbmfcedijmaaGreatDoor
open Tryz
open Go.RowKit Go.Shelf
attribute [local go_sem] Oper.semAt_some
def qmQ (w:World) (m:Str) (o:Option (List Tr)) (e:Ending) (w':World):Prop:=match o with
 | some v=>∃ h,e=.returned (.tuple #[.agg #[.string (upB (sB m)),h],.bool true])/\qah w' w.heap.size h v/\Below w.heap.size w w'
 | none=>e=.returned (.tuple #[.agg #[.string ⟨#[]⟩,.slice none 0 0],.bool false])/\Below w.heap.size w w'
theorem qtZ (h:List Int) (L:List Tr) (n:Int):(qea h L n).length=L.length:=qat (qa2 h L n)
theorem qiq {w1:World} {f g z y:Value} {x J:Vr} (G:qeB w1 (.agg #[f,g]) x) (K:qeB w1 (.agg #[z,y]) J) (b:Nat) (M:w1.heap.size=b) :
  ∃ h,(w1.alloc (.cells #[f,g] 267)).alloc (.cells #[z,y] 267)=h/\
   h.heap[b]?=some (.cells #[f,g] 267 (0,0))/\h.heap[b+1]?=some (.cells #[z,y] 267 (0,0))/\qeB h (.agg #[f,g]) x/\qeB h (.agg #[z,y]) J/\Below w1.heap.size w1 h/\h.heap.size=b+2:=by
 subst M;have E:Below w1.heap.size w1 ((w1.alloc (.cells #[f,g] 267)).alloc (.cells #[z,y] 267)):=((B0 (w:=w1))).alloc (by simp) _;refine ⟨_,rfl,(Below.heap_alloc _ _ _ (by simp)).trans (World.alloc_heap_new w1 _),?_,G.below E,K.below E,E,by simp⟩;have G:=World.alloc_heap_new (w1.alloc (.cells #[f,g] 267)) (.cells #[z,y] 267)
 rwa [QL] at G
theorem qjT (h:World) (u:ByteArray) (v:Value) (c:Nat) (z:h.heap.size=c):∃ y,h.alloc (.cells #[.string u,v] 24)=y/\y.heap[c]?=some (.cells #[.string u,v] 24 (0,0))/\Below h.heap.size h y/\y.heap.size=c+1:=by
 subst z;exact ⟨_,rfl,World.alloc_heap_new h _,(B0 (w:=h)),by simp⟩
theorem qnl (ac ag:Int) (m:Str) (ch:m.length<=1000) (A:Option Addr) (cap l:Nat) (L:List Tr) (aH:L.length=l) (bg:l<=1000) (ex:Str) (bS:ex.length<=1000) (al:Bool) (d q:Int) (w:World) (H:qaj w A L) :
  Calls prog 207 #[enV ac ag m (.slice A l cap) ex al,.int .i64 d,.int .i64 q] w (qmQ w m (qaZ ex L d q)):=by
 have ao:=fun w=>qeK ac ag m A l cap ex bS al w
 have aP:=fun w n=>qjt (sB m) (by rw [qaH];unfold maxLen;omega) A cap L (by omega) w n
 rw [aH] at aP;obtain ⟨E,aX⟩:=N9 ((varsV ex).1);obtain ⟨J,a0⟩:=N9 ((varsV ex).2);have aN:Hid (qaZ ex L d q=if qcN E L d=true/\qcN J (qea E.1 L d) q=true then some (qea J.1 (qea E.1 L d) q) else none):=by show _=_;rw [<- aX,<- a0];rfl
 unfold qmu at ao;rw [aX,a0] at ao;clear aX a0;unfold enV at ao |-;obtain ⟨V,an⟩:=N9 ((w.alloc (.cells #[.int .i64 ac,.int .u8 ag,.string (sB m),.slice A l cap,.string (sB ex),.bool al] 163)).alloc (.cells #[.string ⟨#[]⟩,.slice none 0 0] 24));obtain ⟨b,Z⟩:=N9 (w.heap.size);have aK:Below b w V:=by rw [<- an,<- Z];exact ((B0 (w:=w))).alloc (by simp) _
 have bp:V.heap.size=b+1+1:=by rw [<- an,<- Z];simp
 have h:V.heap[b]?=some (.cells #[.int .i64 ac,.int .u8 ag,.string (sB m),.slice A l cap,.string (sB ex),.bool al] 163 (0,0)):=by
  rw [<- an,<- Z];exact (Below.heap_alloc _ _ _ (by simp)).trans (World.alloc_heap_new w _)
 have af:V.heap[b+1]?=some (.cells #[.string ⟨#[]⟩,.slice none 0 0] 24 (0,0)):=by
  rw [<- an,<- Z];have n:=World.alloc_heap_new (w.alloc (.cells #[.int .i64 ac,.int .u8 ag,.string (sB m),.slice A l cap,.string (sB ex),.bool al] 163)) (.cells #[.string ⟨#[]⟩,.slice none 0 0] 24)
  rwa [QL] at n
 have bm:=J9 (ao V);have bj:=J9 aP;have aC:=J9 Z;have B0:=J9 aK;have aS:=J9 h;have ay:=J9 af;have bv:=J9 (H.below (by rw [Z];exact aK));have bU:=C9 h 0;have bx:=C9 h 1;have aV:=C9 h 2;have a2:=C9 h 3;have bT:=C9 h 4;have bP:=C9 h 5;clear ao aP h af aK H
 go_enter func207,ntmps207
 go_wp2_with fail
 refine bm.o.mono ?_;rintro k bZ ⟨b5,ce,cg,b6,rfl,aO,aZ,aJ⟩;obtain ⟨b7,ca,b8,bz,bF⟩:=aO.form;obtain ⟨b1,bD,bR,bA,bJ⟩:=aZ.form;subst bz bF bA bJ;obtain ⟨c,b0⟩:=N9 (bZ.heap.size);have bH:b+2<=c:=by have:=aJ.size;omega
 obtain ⟨a3,cc,bi,br,bn,bf,aR,ar⟩:=qiq aO aZ c b0;have a9:=J9 (B0.o.trans (aJ.mono (by omega)));have bh:=J9 (a9.o.trans (aR.mono (by omega)));have aw:Below (b+1+1) V a3:=(aJ.mono (by omega)).trans (aR.mono (by omega));have h:=(aw.block b (by omega)).trans aS.o;have af:=(aw.block (b+1) (by omega)).trans ay.o;have a6:=J9 (bv.o.below (by rw [bp];exact aw));have bu:=J9 bi;have bo:=J9 br;have bb:=J9 bn;have bq:=J9 bf;have mk:=bj.o a3 a6.o;have aS:=J9 h;have ay:=J9 af;clear bU bx aV a2 bT bP bm aO aZ aJ bi br bn bf aR aw bv B0 bj an bp
 go_upto_region 2 with fail
 have aV:=C9 h 2;have a2:=C9 h 3;clear h af
 go_wp2_with fail
 refine mk.mono ?_;rintro k bl ⟨v,rfl,au,aD⟩;obtain ⟨e,f,be,-,-⟩:=au.ops;rw [aH] at be;subst be;obtain ⟨G,a5⟩:=N9 (upB (sB m));obtain ⟨K,bV⟩:=N9 (bl.heap.size);obtain ⟨aG,b2,bs,aQ,cj⟩:=qjT bl G (.slice e l f) K bV;rw [a5];have O:=aD.trans (aQ.mono aD.size);have ci:c+2<=K:=by have:=aD.size;omega
 have bO:=J9 O;have bE:=J9 (bh.o.trans (O.mono (by omega)));have bc:=J9 ((O.block c (by omega)).trans bu.o);have bW:=J9 ((O.block (c+1) (by omega)).trans bo.o);have aT:=J9 bs;have bL:=J9 ((O.block (b+1) (by omega)).trans ay.o);have bt:=bb.o.below O;have cf:=J9 (bq.o.below O);have a8:qah aG (c+2) (.slice e l f) L:=by have n:=qah.below au aQ;rw [ar] at n;exact n
 have W2:Hid (qeB a3 _ J):=bq;have aL:=J9 (qEU E _ G e f l (c+2) L aH bg d aG bt a8 (by omega));have ax:Hid (∀ aj,(Value.slice e l f).ownBlock=some aj->c+2<=aj/\aj<K):=fun aj k=>by
  have n:=(World.ownsRow.lt au aj k);rw [ar] at n;omega
 have bX:=J9 ar;have bI:=J9 a5;have ap:=C9 bc.o 0;have aB:=C9 bc.o 1;have aq:=C9 aT.o 0;have aF:=C9 aT.o 1;clear mk au aD bs aQ O bt bu bo bb a6 a9 bh ar aV a2 aS ay a8 a5
 go_upto_region 3 with fail
 go_wp2_with fail
 refine aL.o.mono ?_;rintro k y ⟨rfl,a4,U⟩;have aa:∀ M,M<c+2->some M≠(Value.slice e l f).ownBlock:=fun M ck k=>by have:=(ax.o M k.symm).1;omega
 have ah:some K≠(Value.slice e l f).ownBlock:=fun k=>by have:=(ax.o K k.symm).2;omega
 have aA:=(U.block (c+1) (by omega) (aa _ (by omega))).trans bW.o;have x:=(U.block K (by omega) ah).trans aT.o;have g:=(U.block (b+1) (by omega) (aa _ (by omega))).trans bL.o;have az:Below (c+2) aG y:=(Qc _ aG).grown U (by omega) fun M k=>(ax.o M k).1
 have bd:=J9 (bE.o.trans (az.mono (by omega)));have bG:K+1<=y.heap.size:=by have:=U.size;omega
 have a1:qeB y (.agg #[.func (.func 279) #[] #[.pointer (some ⟨b1,0,none⟩)],.func (.func 280) #[] #[.pointer (some ⟨bD,0,none⟩),.pointer (some ⟨bR,0,none⟩)]]) J:=W2.o.below (bO.o.trans (by rw [bX.o];exact az));cases aI:qcN E L d with
 | false=>
  have aY:Hid (qaZ ex L d q=none):=by show _=_;rw [aN.o,Qd (by rw [aI];exact fun n=>absurd n.1 (by decide))]
  have bY:=C9 g 0;have bB:=C9 g 1;have bN:=Qr g;have aE:=J9 g;clear aI aA x a1 a4 U az aL ap aB aq aF g aa ah;go_wp2;have ad:Hid (Below b w ((y.setCell ⟨b+1,0,none⟩ (.string ⟨#[]⟩)).setCell ⟨b+1,1,none⟩ (.slice none 0 0))):=(bd.o.setCell (p:=⟨b+1,0,none⟩) (show b<=b+1 by omega) _).setCell (p:=⟨b+1,1,none⟩) (show b<=b+1 by omega) _;have u:((y.setCell ⟨b+1,0,none⟩ (.string ⟨#[]⟩)).setCell ⟨b+1,1,none⟩ (.slice none 0 0)).heap[b+1]?=some (.cells #[.string ⟨#[]⟩,.slice none 0 0] 24 (0,0)):=heap_setCell_same _ (b+1) 1 _ _ _ (heap_setCell_same y (b+1) 0 _ _ _ aE.o);obtain ⟨bk,ae⟩:=N9 ((y.setCell ⟨b+1,0,none⟩ (.string ⟨#[]⟩)).setCell ⟨b+1,1,none⟩ (.slice none 0 0));rw [ae] at ad u |-;have ab:=C9 u 0;have am:=C9 u 1;refine bodyPost_ret (v:=.tuple #[.agg #[.string ⟨#[]⟩,.slice none 0 0],.bool false]) ?_ rfl ?_
  ·simp [results,results207,go_sem,ab,am]
  ·rw [aY.o]
   exact ⟨rfl,by rw [aC.o];exact ad.o⟩
 | true=>
  have aU:=J9 (qEU J _ G e f l (c+2) (qea E.1 L d) (by rw [<- aH];exact qtZ _ _ _) bg q y a1 a4 (by omega));have bK:=J9 aI;have b9:=J9 bG;have bM:=J9 x;have bC:=J9 g;have ap:=C9 aA 0;have aB:=C9 aA 1;have aq:=C9 x 0;have aF:=C9 x 1;clear aI a1 a4 U az aL aA x g
  go_wp2_with fail
  refine aU.o.mono ?_;rintro k z ⟨rfl,aM,ak⟩;have x:=(ak.block K (by omega) ah).trans bM.o;have g:=(ak.block (b+1) (by omega) (aa _ (by omega))).trans bC.o;have aW:Below (c+2) y z:=(Qc _ y).grown ak (by omega) fun M k=>(ax.o M k).1
  have ad:=J9 (bd.o.trans (aW.mono (by omega)));have bY:=C9 g 0;have bB:=C9 g 1;have bN:=Qr g;have aE:=J9 g;have bw:=J9 aM;have b3:=C9 x 0;have b4:=C9 x 1;have cd:Hid (b+2<=c):=bH;cases av:qcN J (qea E.1 L d) q with
  | false=>
   have aY:Hid (qaZ ex L d q=none):=(by show _=_;rw [aN.o,Qd (by rw [av];exact fun n=>absurd n.2 (by decide))]);clear av ap aB aq aF x g aW aU aM ak aa ah;go_wp2;have ai:Hid (Below b w ((z.setCell ⟨b+1,0,none⟩ (.string ⟨#[]⟩)).setCell ⟨b+1,1,none⟩ (.slice none 0 0))):=(ad.o.setCell (p:=⟨b+1,0,none⟩) (show b<=b+1 by omega) _).setCell (p:=⟨b+1,1,none⟩) (show b<=b+1 by omega) _;have u:((z.setCell ⟨b+1,0,none⟩ (.string ⟨#[]⟩)).setCell ⟨b+1,1,none⟩ (.slice none 0 0)).heap[b+1]?=some (.cells #[.string ⟨#[]⟩,.slice none 0 0] 24 (0,0)):=heap_setCell_same _ (b+1) 1 _ _ _ (heap_setCell_same z (b+1) 0 _ _ _ aE.o);obtain ⟨bk,ae⟩:=N9 ((z.setCell ⟨b+1,0,none⟩ (.string ⟨#[]⟩)).setCell ⟨b+1,1,none⟩ (.slice none 0 0));rw [ae] at ai u |-;have ab:=C9 u 0;have am:=C9 u 1;refine bodyPost_ret (v:=.tuple #[.agg #[.string ⟨#[]⟩,.slice none 0 0],.bool false]) ?_ rfl ?_
   ·simp [results,results207,go_sem,ab,am]
   ·rw [aY.o]
    exact ⟨rfl,by rw [aC.o];exact ai.o⟩
  | true=>
   have bQ:Hid (qaZ ex L d q=some (qea J.1 (qea E.1 L d) q)):=(by show _=_;rw [aN.o,Qk ⟨bK.o,av⟩]);clear av ap aB aq aF x g aW aU aM ak aa ah;go_wp2;have ai:Hid (Below b w ((z.setCell ⟨b+1,0,none⟩ (.string G)).setCell ⟨b+1,1,none⟩ (.slice e l f))):=(ad.o.setCell (p:=⟨b+1,0,none⟩) (show b<=b+1 by omega) _).setCell (p:=⟨b+1,1,none⟩) (show b<=b+1 by omega) _;have u:((z.setCell ⟨b+1,0,none⟩ (.string G)).setCell ⟨b+1,1,none⟩ (.slice e l f)).heap[b+1]?=some (.cells #[.string G,.slice e l f] 24 (0,0)):=heap_setCell_same _ (b+1) 1 _ _ _ (heap_setCell_same z (b+1) 0 _ _ _ aE.o);have a7:Hid (qah ((z.setCell ⟨b+1,0,none⟩ (.string G)).setCell ⟨b+1,1,none⟩ (.slice e l f)) b (.slice e l f) (qea J.1 (qea E.1 L d) q)):=
    row_mono (row_set (row_set bw.o (p:=⟨b+1,0,none⟩) (show b+1<c+2 by omega) _) (p:=⟨b+1,1,none⟩) (show b+1<c+2 by omega) _) (by omega)
   obtain ⟨bk,ae⟩:=N9 ((z.setCell ⟨b+1,0,none⟩ (.string G)).setCell ⟨b+1,1,none⟩ (.slice e l f));rw [ae] at ai u a7 |-;have ab:=C9 u 0;have am:=C9 u 1;refine bodyPost_ret (v:=.tuple #[.agg #[.string G,.slice e l f],.bool true]) ?_ rfl ?_
   ·simp [results,results207,go_sem,ab,am]
   ·rw [bQ.o]
    exact ⟨_,by rw [bI.o],by rw [aC.o];exact a7.o,by rw [aC.o];exact ai.o⟩
end Go.Proofs.YtjafbmfcedijmaaGreatDoor
namespace Go.Mixed
open Go
section
variable {P:Program} {ops:Array Oper}
end
end Go.Mixed
