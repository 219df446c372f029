/-
  TbQqRSK, TbRqRSK, TbSqRSK, EnBqRSK, NumFqRSK, NumGqRSK, NumHqRSK, NumMqRSK, NumNqRSK, CnAqRSK, SeAqRSK, OpAqRSK, SaqRSK, OpBqRSK, SeBqRSK, FrqRSK, StWqRSK, SeCqRSK.
-/
import Derived.Test.YtjafbmfcedijmaaGreatDoorKAB
import Derived.Deep.OwnRows
set_option linter.all false
set_option maxRecDepth 100000
set_option maxHeartbeats 4000000
namespace Go.Proofs.YtjafbmfcedijmaaGreatDoor
open Tryz
open Go.RowKit Go.Shelf
attribute [local irreducible] Go.Mixed.qD8
theorem qm7 {wr:World} {base:Nat} {v:Value} {xs:List Tr} (O:qah wr base v xs) (ae:base<=wr.heap.size) {ops:Array Oper} {rest:List Oper} {o:Oper} {a:Act} {Q:Exit->Act->World->Prop} (an:o.guard=none) (s x:Operand)
  (aj:o.op=.call {callee:=.builtin .append,args:=#[s,x],argTypes:=#[22,22]}) (Z:a.eval s=v) (J:Nat) (ac:J=wr.heap.size) (V:a.eval x=.slice (some ⟨J,0,none⟩) 1 1)
  (h:Tr) (k:Nat) (E:xs.length=k) (ao:k<10000)
  (ak:∀ u y w1,qah w1 base (.slice u (k+1) y) (xs++[h])->(wr.alloc (.cells #[.int .i64 h.1,.int .i64 h.2.1,.int .i64 h.2.2] 57)).grownBy w1 v.ownBlock->Below base wr w1->wpList prog ops Q rest (a.put o.dst (.slice u (k+1) y)) w1):wpList prog ops Q (o :: rest) a (wr.alloc (.cells #[.int .i64 h.1,.int .i64 h.2.1,.int .i64 h.2.2] 57)):=by
 subst ac;obtain ⟨ad,R,am,ag,ah⟩:=info_parts qd4;have ai:Below base wr (wr.alloc (.cells #[.int .i64 h.1,.int .i64 h.2.1,.int .i64 h.2.2] 57)):=(Qc base wr).alloc ae _;have K:=World.ownsRow.alloc O (.cells #[.int .i64 h.1,.int .i64 h.2.1,.int .i64 h.2.2] 57);refine wpList_append_own _ an s x 22 aj base 57 ad (.agg #[.int .i64 0,.int .i64 0,.int .i64 0]) 3 24 underlying22 R am ag ah rfl (by decide) v xs.length _ Z K ⟨wr.heap.size,0,none⟩ 1 1 [.int .i64 h.1,.int .i64 h.2.1,.int .i64 h.2.2] V rfl ?_ ?_ ?_ ?_ ?_ ?_
 ·intro aa ab j
  match aa,j with
  | 0,j=>simp at j;subst j;simp [Addr.add,go_sem]
  | 1,j=>simp at j;subst j;simp [Addr.add,go_sem]
  | 2,j=>simp at j;subst j;simp [Addr.add,go_sem]
 ·intro ab M
  simp at M;rcases M with rfl | rfl | rfl <;> rfl
 ·unfold maxLen;omega
 ·omega
 ·simp;omega
 ·intro af w1 U G _
  have z:qah w1 base af (xs++[h]):=by
   unfold qah;rw [Qg,qc7];exact U
  obtain ⟨u,y,rfl,-,-⟩:=z.ops;rw [Qg,E] at z |-;exact ak u y w1 z G (ai.grown G (by simp;omega) fun k E=>(K.lt k E).1)
def op6 (h:Int):Int:=bits .or .u8 (bits .andNot .u8 h 7) 6
def qbJ (p:Pat) (E y G:Int):En:=
 let h:=qae p E (op6 y);let x:=if qif h.1 h.2.1 then qog G h.2.1 else h.2.1
 let z:=if qif h.1 h.2.1 then 100 :: h.2.2.1 else h.2.2.1
 if qbm p.1 y 115=6 then (h.1,x,z,h.2.2.2) else if h.1=[66,73,84] then (h.1,x,z,true) else (h.1,x++[(1,qbm p.1 y 115,0)],z,h.2.2.2)
theorem qt1 {e y:World} {b n B:Nat} {M K U:Int} {m ex:Str} {v:Value} {al:Bool} {L:List Tr} {o:Obj} (X:qcl e b M K m v ex al U) (h:qbs e n 0 0 [] (.slice none 0 0) [] false) (O:qah e B v L)
  (R:(e.alloc o).grownBy y v.ownBlock):qcl y b M K m v ex al U/\qbs y n 0 0 [] (.slice none 0 0) [] false:=by
 have J:Below e.heap.size e (e.alloc o):=B0;constructor
 ·refine (R.block b (by have:=X.lt;simp;omega) ?_).trans (X.all J)
  intro E;obtain ⟨V,z⟩:=qbH O E.symm;exact X.apart z rfl
 ·refine (R.block n (by have:=h.lt;simp;omega) ?_).trans (h.all J)
  intro E;obtain ⟨V,z⟩:=qbH O E.symm;have G:=h;unfold qbs at G;rw [z] at G;simp at G
theorem qbC (w:World) (p:Pat) (y:Int):∃ h,(w.alloc (.cells #[.string (sB p.1),.string (sB p.2),.int .u8 y] 288)).alloc (.cells #[.int .i64 0,.int .u8 0,.string ⟨#[]⟩,.slice none 0 0,.string ⟨#[]⟩,.bool false] 163)=h/\
  h.heap[w.heap.size]?=some (.cells #[.string (sB p.1),.string (sB p.2),.int .u8 y] 288 (0,0))/\qbs h (w.heap.size+1) 0 0 [] (.slice none 0 0) [] false/\Below w.heap.size w h/\h.heap.size=w.heap.size+2:=by
 refine ⟨_,rfl,(Below.heap_alloc _ _ _ (by simp)).trans (World.alloc_heap_new w _),?_,((B0 (w:=w))).alloc (by simp) _,by simp⟩;have z:=World.alloc_heap_new (w.alloc (.cells #[.string (sB p.1),.string (sB p.2),.int .u8 y] 288)) (.cells #[.int .i64 0,.int .u8 0,.string ⟨#[]⟩,.slice none 0 0,.string ⟨#[]⟩,.bool false] 163);rw [QL] at z;exact z
theorem qg2 (p:Pat) (k b u:Int) (ct:p.1.length=8) (cv:0<=b) (aG:b<=255) (bu:Good p (op6 b)) (aP:(qae p k (op6 b)).2.1.length<=100) (aW:(qae p k (op6 b)).2.2.1.length<=1000) (w:World) (bc:qac w) :
  Calls prog 268 #[qai p b,.int .i64 k,.int .i64 u] w (qB3 w k b (qbJ p k b u)):=by
 unfold qai;obtain ⟨bS,cl,ah,bi,B0,bH⟩:=qbC w p b;obtain ⟨n,a9⟩:=N9 (w.heap.size);rw [a9] at ah bi B0 bH;have bN:0 < n:=by rw [<- a9];exact bc.lt
 have bR:qac bS:=bc.qEr (n:=n) B0 bN;have bb:=qa4 p.1 p.2 ct b cv aG 115 bS;have aE:=C9 ah 0;have an:=C9 ah 1;have au:=C9 ah 2;have ak:=J9 a9;have b7:=J9 bu;obtain ⟨⟨h,r,aB,y⟩,be⟩:=N9 (qae p k (op6 b));have aR:=J9 be;rw [be] at aP aW;simp only at aP aW;obtain ⟨B,a5⟩:=N9 (qbm p.1 b 115);rw [a5] at bb;have HR:=J9 a5;clear a5 be bu bc
 go_enter func268,ntmps268
 go_wp2_with fail
 refine bb.mono ?_;rintro a8 z ⟨rfl,ad⟩;have ae:=(ad.block n (by omega)).trans ah;have R1:qbs z (n+1) 0 0 [] (.slice none 0 0) [] false:=bi.below ad (by omega);have bn:=B0.trans (ad.mono (by omega));have bE:n+2<=z.heap.size:=by have:=ad.size;omega
 have bX:qac z:=bR.below ad;clear ad bb aE an au ah bi B0 bH bR cl;have aE:=C9 ae 0;have an:=C9 ae 1;have au:=C9 ae 2;have ca:=Qr ae;have bj:(z.setCell ⟨n,2,none⟩ (.int .u8 (op6 b))).heap[n]?=some (.cells #[.string (sB p.1),.string (sB p.2),.int .u8 (op6 b)] 288 (0,0)):=heap_setCell_same z n 2 _ _ _ ae;have R2:qbs (z.setCell ⟨n,2,none⟩ (.int .u8 (op6 b))) (n+1) 0 0 [] (.slice none 0 0) [] false:=R1.qEw (by omega) _;have bC:Below n w (z.setCell ⟨n,2,none⟩ (.int .u8 (op6 b))):=bn.setCell (p:=⟨n,2,none⟩) (Qa _) _;have b5:n+2<=(z.setCell ⟨n,2,none⟩ (.int .u8 (op6 b))).heap.size:=by simpa using bE
 have b3:qac (z.setCell ⟨n,2,none⟩ (.int .u8 (op6 b))):=bX.qEr ((Qc n z).setCell (p:=⟨n,2,none⟩) (Qa _) _) bN;have K:=J9 (Zf bj (Zf R2 (Zf bC (Zf b5 b3))));clear ae R1 bn bE bX bj R2 bC b5 b3
 go_upto_region 4 with fail
 rw [show bits .or .u8 (bits .andNot .u8 b 7) 6=op6 b from rfl];obtain ⟨bF,bg⟩:=N9 (op6 b);have co:=J9 bg;rw [bg] at K b7 aR |-;obtain ⟨b6,bO⟩:=N9 (z.setCell ⟨n,2,none⟩ (.int .u8 bF));rw [bO] at K |-;clear bO aE an au ca bg z;have aE:=C9 K.o.1 0;have an:=C9 K.o.1 1;have au:=C9 K.o.1 2;have aT:=qd3 p k bF b7.o b6 K.o.2.2.2.2;rw [aR.o] at aT;simp only [qai] at aT
 go_wp2_with fail
 refine aT.mono ?_;rintro a8 ai ⟨v,rfl,aV,aC⟩;simp only [enV];obtain ⟨o,m,rfl,-,-⟩:=aV.ops;obtain ⟨J,a1⟩:=N9 (b6.heap.size);rw [a1] at aV aC;have ch:n+2<=J:=by rw [<- a1];exact K.o.2.2.2.1
 have bV:=J9 (K.o.2.1.below aC (by omega));have b0:=J9 (K.o.2.2.1.trans (aC.mono (by omega)));have cj:J<=ai.heap.size:=by have:=aC.size;omega
 obtain ⟨g,cu⟩:=N9 (ai.heap.size);obtain ⟨aF,aZ⟩:=N9 (ai.alloc (.cells #[.int .i64 k,.int .u8 b,.string (sB h),.slice o r.length m,.string (sB aB),.bool y,.int .i64 u] 336));have bY:qcl aF g k b h (.slice o r.length m) aB y u:=by rw [<- aZ,<- cu];exact World.alloc_heap_new ai _
 have aY:Below ai.heap.size ai aF:=by rw [<- aZ];exact B0
 have a0:qah aF J (.slice o r.length m) r:=aV.below aY;have aM:=J9 (bV.o.all aY);have bq:=J9 (b0.o.trans (aY.mono (by omega)));have bm:=qii g J k b h _ aB y u r aP aW aF bY a0 (by omega);have ay:=J9 (show J<=g by omega);have aS:∀ (a3:World),Fr aF g (.slice o r.length m) a3->qbs a3 (n+1) 0 0 [] (.slice none 0 0) [] false:=fun a3 cw=>by
  refine (cw.same (n+1) aM.o.lt (by have:=ay.o;omega) ?_).trans aM.o;intro aq;obtain ⟨bt,cm⟩:=qbH a0 aq;have V:=aM.o;unfold qbs at V;rw [cm] at V;simp at V
 have aS:=J9 aS;have U:=J9 ch;clear aT aC aV bV b0 cj aY a0 bY aE an au a1
 go_wp2_with fail
 refine bm.mono ?_;rintro a8 ab ⟨rfl,E,G,bk,b8⟩;have am:=J9 (aS.o ab b8);have aN:Hid (Below n w ab):=bq.o.trans (bk.mono (by have:=U.o;omega));clear aZ bm bk aS aM bq b8;obtain ⟨A,aQ⟩:=N9 ((if qif h r then qog u r else r));obtain ⟨q,a2⟩:=N9 ((if qif h r then 100 :: aB else aB));have a4:A.length=r.length:=by rw [<- aQ];split;exact qoE _ _;rfl
 rw [aQ] at G;rw [a2] at E;have a6:Hid (qbJ p k b u=if B=6 then (h,A,q,y) else if h=[66,73,84] then (h,A,q,true) else (h,A++[(1,B,0)],q,y)):=by
  show qbJ p k b u=_;unfold qbJ;rw [co.o,aR.o];simp only;rw [HR.o,aQ,a2]
 rw [<- a4] at E G;obtain ⟨e,aX⟩:=N9 (A.length);have bM:r.length=e:=a4.symm.trans aX;have cB:e<=100:=by omega
 rw [aX] at E G;have cf:=J9 aX;rw [bM];have E:=J9 E;have G:=J9 G;clear aQ a2 a4 aX bM aP aW aR;obtain ⟨bB,bD,b1,bP,bw,bx,bv,bZ⟩:=E.o.cells;obtain ⟨bA,bL,br,bU,bW,bT,bp⟩:=am.o.cells;have bz:g≠n+1:=by have aG:=ay.o;have ag:=U.o;omega
 by_cases aa:B=6
 ·have L:Hid (qbJ p k b u=(h,A,q,y)):=by show _=_;rw [a6.o,Qk aa]
  subst aa;go_wp2;obtain ⟨bK,ao,az,ap,bQ,-,av⟩:=am.o.put k b h (.slice o e m) q y;rw [ao];obtain ⟨aw,aI,ax,aA,ar,aD,-⟩:=az.cells;refine bodyPost_ret (v:=enV k b h (.slice o e m) q y) ?_ rfl ?_
  ·simp [results,results268,go_sem,aw,aI,ax,aA,ar,aD,enV]
  ·refine ⟨(.slice o e m),by rw [L.o],?_,by rw [ak.o];exact aN.o.trans (ap.mono (by omega))⟩
   rw [L.o,ak.o];exact (qce am.o G.o av).lift (by have ag:=U.o;omega)
 ·have cA:(B == 6)=false:=by simpa using aa
  by_cases al:h=[66,73,84]
  ·have L:Hid (qbJ p k b u=(h,A,q,true)):=by show _=_;rw [a6.o,Qd aa,Qk al]
   have cy:((sB h).toList == [66,73,84])=true:=(by rw [qdh];exact Qn al);clear al aa;have aU:=J9 (E.o.qEv true);have af:Hid (qbs (ab.setCell ⟨g,5,none⟩ (.bool true)) (n+1) 0 0 [] (.slice none 0 0) [] false):=am.o.qEw bz.symm _;have aK:Hid (Below n w (ab.setCell ⟨g,5,none⟩ (.bool true))):=aN.o.setCell (p:=⟨g,5,none⟩) (by have aG:=ay.o;have ag:=U.o;simp;omega) _;have aJ:Hid (qah (ab.setCell ⟨g,5,none⟩ (.bool true)) J (.slice o e m) A):=qcK G.o (p:=⟨g,5,none⟩) (fun cp aq=>by
    obtain ⟨bt,bf⟩:=qbH G.o aq;exact E.o.apart bf) _
   go_wp2;obtain ⟨bK,ao,az,ap,bQ,-,av⟩:=af.o.put k b h (.slice o e m) q true;rw [ao];obtain ⟨aw,aI,ax,aA,ar,aD,-⟩:=az.cells;refine bodyPost_ret (v:=enV k b h (.slice o e m) q true) ?_ rfl ?_
   ·simp [results,results268,go_sem,aw,aI,ax,aA,ar,aD,enV]
   ·refine ⟨(.slice o e m),by rw [L.o],?_,by rw [ak.o];exact aK.o.trans (ap.mono (by omega))⟩
    rw [L.o,ak.o];exact (qce af.o aJ.o av).lift (by have ag:=U.o;omega)
  ·have L:Hid (qbJ p k b u=(h,A++[(1,B,0)],q,y)):=by show _=_;rw [a6.o,Qd aa,Qd al]
   have cy:((sB h).toList == [66,73,84])=false:=(by rw [qdh];exact Qf al);clear al aa
   go_upto_region 7 with fail
   obtain ⟨aj,ac⟩:=N9 (ab.drew);have aU:Hid (qcl aj g k b h (.slice o e m) q y u):=(by rw [<- ac];exact E.o);have aJ:Hid (qah aj J (.slice o e m) A):=(by rw [<- ac];exact G.o.below (below_drewN ab _ 1));have af:Hid (qbs aj (n+1) 0 0 [] (.slice none 0 0) [] false):=(by rw [<- ac];exact am.o);have aK:Hid (Below n w aj):=(by rw [<- ac];exact aN.o.drew);have b4:Hid (aj.cell? ⟨g,3,none⟩=some (.slice o e m)):=aU.o.cells.2.2.2.1;refine Mixed.qD5 (fun ck=>ck.cell? ⟨g,3,none⟩=some (.slice o e m)) 7 [(0,true),(1,true),(2,true),(3,true),(4,true),(5,false),(6,false)] (by kernel_rfl) (by kernel_rfl) (by rw [ac];exact b4.o) ?_;rw [ac];clear E G am aN b4 ac bB bD b1 bP bw bx bv bZ bA bL br bU bW bT bp;refine Mixed.mo rfl (.pointer (some ⟨g,0,none⟩)) (fun w V=>by go_simp;try rfl) ?_;refine Mixed.mo rfl (.pointer (some ⟨g,2,none⟩)) (fun w V=>by go_simp;try rfl) ?_;refine Mixed.mo rfl (.pointer (some ⟨g,3,none⟩)) (fun w V=>by go_simp;try rfl) ?_;refine Mixed.mo rfl (.slice o e m) (fun w V=>by go_simp;try rfl) ?_;refine Mixed.mo rfl (.int .i64 B) (fun w V=>by go_simp;try rfl) ?_;refine Mixed.qD6 rfl (by kernel_rfl) ?_
   go_wp2_with fail
   refine (register_any B aj).mono ?_;rintro a8 T ⟨rfl,aH⟩;have aO:=J9 (aU.o.all aH);have b2:=J9 (aJ.o.below aH);have cd:=J9 (af.o.all aH);have b9:Hid (Below n w T):=aK.o.trans (aH.mono (by have:=af.o.lt;omega));have bG:=aO.o.cells.2.2.2.1;clear aH aU aJ af aK;go_wp2;refine ⟨bG,?_⟩;clear bG;simp only [trV];have cn:g<T.heap.size:=aO.o.lt;have cc:∀ bh,(T.alloc bh).cell? ⟨g,3,none⟩=some (.slice o e m):=(fun bh=>(((Qc T.heap.size T).alloc (Qa _) bh).cell cn).trans aO.o.cells.2.2.2.1);refine Mixed.qD6 rfl (by kernel_rfl) ?_;go_wp2;refine ⟨cc _,?_⟩;simp only [Mixed.qD8,Qq,Qy];have cx:J<=T.heap.size:=(by have aG:=ay.o;omega);have cq:=J9 (fun (Z:World) (aL:(T.alloc (.cells #[.int .i64 1,.int .i64 B,.int .i64 0] 57)).grownBy Z (Value.slice o e m).ownBlock)=>qt1 aO.o cd.o b2.o aL)
   go_wp2_with (at_builtin;refine qm7 b2.o cx rfl _ _ rfl rfl T.heap.size rfl rfl (1,B,0) e cf.o (by omega) ?_;intro O M Z bs aL bI;obtain ⟨bd,a7⟩:=cq.o Z aL;have bo:=J9 bd;have cr:=J9 a7;have bl:=J9 bs;have cg:Hid (Below n w Z):=b9.o.trans (bI.mono (by have ag:=U.o;omega));obtain ⟨bB,bD,b1,bP,bw,bx,bv,bZ⟩:=bd.cells;obtain ⟨bA,bL,br,bU,bW,bT,bp⟩:=a7.cells;clear bs aL bI bd a7)
   have cz:=J9 (bo.o.qEA (.slice O (e+1) M));have bJ:Hid (qbs (Z.setCell ⟨g,3,none⟩ (.slice O (e+1) M)) (n+1) 0 0 [] (.slice none 0 0) [] false):=cr.o.qEw bz.symm _;have ci:Hid (Below n w (Z.setCell ⟨g,3,none⟩ (.slice O (e+1) M))):=cg.o.setCell (p:=⟨g,3,none⟩) (by have aG:=ay.o;have ag:=U.o;simp;omega) _;have ce:Hid (qah (Z.setCell ⟨g,3,none⟩ (.slice O (e+1) M)) J (.slice O (e+1) M) (A++[(1,B,0)])):=qcK bl.o (p:=⟨g,3,none⟩) (fun cp aq=>by
    obtain ⟨bt,bf⟩:=qbH bl.o aq;exact bo.o.apart bf) _
   obtain ⟨bK,ao,az,ap,bQ,-,av⟩:=bJ.o.put k b h (.slice O (e+1) M) q y;rw [ao];obtain ⟨aw,aI,ax,aA,ar,aD,-⟩:=az.cells;refine bodyPost_ret (v:=enV k b h (.slice O (e+1) M) q y) ?_ rfl ?_
   ·simp [results,results268,go_sem,aw,aI,ax,aA,ar,aD,enV]
   ·refine ⟨(.slice O (e+1) M),by rw [L.o],?_,by rw [ak.o];exact ci.o.trans (ap.mono (by omega))⟩
    rw [L.o,ak.o];exact (qce bJ.o ce.o av).lift (by have ag:=U.o;omega)
end Go.Proofs.YtjafbmfcedijmaaGreatDoor
namespace Go.Proofs.YtjafbmfcedijmaaGreatDoor
open Tryz
open Go.RowKit Go.Shelf
def qcu (p:Pat) (h y:Int):Option En:=
 if h=3 then (qbU (qae p h y).1 5 (qae p h y).2.1 (qae p h y).2.2.1).map fun z=>((qae p h y).1,z.1,z.2,(qae p h y).2.2.2) else
 if h=4 then (qbU (qae p h y).1 6 (qae p h y).2.1 (qae p h y).2.2.1).map fun z=>((qae p h y).1,z.1,z.2,(qae p h y).2.2.2) else
 if h=5 then some (qbJ p h y 5) else if h=6 then some (qbJ p h y 6) else some (qae p h y)
def qdS (w:World) (v y:Int) (x:Option En) (e:Ending) (w':World):Prop:=
 (match x with
  | some x=>∃ h,e=.returned (.tuple #[enV v y x.1 h x.2.2.1 x.2.2.2,.bool true])/\qah w' w.heap.size h x.2.1
  | none=>e=.returned (.tuple #[enV 0 0 [] (.slice none 0 0) [] false,.bool false]))/\Below w.heap.size w w'
structure Good2 (p:Pat) (op:Int):Prop where
 good:Good p op
 args:(qbO p op).length<=100
 extra:(qbq p op (qbO p op)).length<=1000
theorem Good2.qED {p:Pat} {h:Int} (y:Good2 p h) (z:Int):(qae p z h).2.1.length<=100:=by
 show (qbQ p h (qbO p h)).length<=100;unfold qbQ;rw [QM];exact y.args
theorem qyN (p:Pat) (e:Int) (A:Good2 p e) (ay:Good2 p (op6 e)) (w:World) (ao:qac w):Calls prog 226 #[qai p e,.int .i64 3] w (qdS w 3 e ((qbU (qae p 3 e).1 5 (qae p 3 e).2.1 (qae p 3 e).2.2.1).map fun h=>((qae p 3 e).1,h.1,h.2,(qae p 3 e).2.2.2))):=by
 unfold qai;obtain ⟨aj,aA,q,y,B0,aK⟩:=qbC w p e;obtain ⟨n,ak⟩:=N9 (w.heap.size);rw [ak] at q y B0 aK;have aE:0 < n:=by rw [<- ak];exact ao.lt
 have aw:qac aj:=ao.qEr (n:=n) B0 aE;have az:=C9 q 0;have aB:=C9 q 1;have aD:=C9 q 2;have ai:=J9 ak;have y:=J9 y;have B0:=J9 B0;have E:=qd3 p 3 e A.good aj aw;have ah:=A.qED 3;have an:(qae p 3 e).2.2.1.length<=1000:=A.extra;obtain ⟨⟨m,o,ac,J⟩,L⟩:=N9 (qae p 3 e);have aI:=J9 L;rw [L] at ah an E;simp only [qai] at ah an E;clear L A ay ao aw q;have U:Hid (((qbU (qae p 3 e).1 5 (qae p 3 e).2.1 (qae p 3 e).2.2.1).map fun h=>((qae p 3 e).1,h.1,h.2,(qae p 3 e).2.2.2))=(qbU m 5 o ac).map fun h=>(m,h.1,h.2,J)):=by show ((qbU (qae p 3 e).1 5 (qae p 3 e).2.1 (qae p 3 e).2.2.1).map fun h=>((qae p 3 e).1,h.1,h.2,(qae p 3 e).2.2.2))=_;rw [aI.o]
 go_enter func226,ntmps226
 go_wp2_with fail
 refine E.mono ?_;rintro aG aJ ⟨v,rfl,K,z⟩;simp only [enV] at K |-;obtain ⟨ag,T,rfl,-,-⟩:=K.ops;have G:=qn5 aj.heap.size 3 e m _ ac J 5 (by decide) o ah an aJ K z.size;have R1:=J9 (y.o.all z);have aq:=J9 (B0.o.trans (z.mono (by omega)));simp only [enV] at G;clear E z y B0 aA az aB aD;obtain ⟨aF,ax⟩:=N9 (qbU m 5 o ac);rw [ax] at G U
 go_wp2_with fail
 refine G.mono ?_;rintro aG aO ⟨ar,Z⟩;have R2:=J9 (R1.o.below Z (by omega));have au:=J9 (aq.o.trans (Z.mono (by omega)));clear G ax R1 aq Z;obtain ⟨aN,aM,aS,aR,aT,aP,aQ⟩:=R2.o.cells;cases aF with
 | none=>
  subst ar;simp only [enV];go_wp2;obtain ⟨aC,ad,aa,af,aH,-,av⟩:=R2.o.put 0 0 [] (.slice none 0 0) [] false;rw [ad];obtain ⟨M,al,O,ab,V,am,-⟩:=aa.cells;refine bodyPost_ret (v:=.tuple #[enV 0 0 [] (.slice none 0 0) [] false,.bool false]) ?_ rfl ?_
  ·simp [results,results226,go_sem,M,al,O,ab,V,am,enV]
  ·rw [U.o]
   exact ⟨rfl,by rw [ai.o];exact au.o.trans (af.mono (by omega))⟩
 | some h=>
  obtain ⟨aL,ap⟩:=h;obtain ⟨rfl,ae⟩:=ar;have ae:=J9 ae;simp only [enV];go_wp2;obtain ⟨aC,ad,aa,af,aH,-,av⟩:=R2.o.put 3 e m (.slice ag o.length T) ap J;rw [ad];obtain ⟨M,al,O,ab,V,am,-⟩:=aa.cells;refine bodyPost_ret (v:=.tuple #[enV 3 e m (.slice ag o.length T) ap J,.bool true]) ?_ rfl ?_
  ·simp [results,results226,go_sem,M,al,O,ab,V,am,enV]
  ·rw [U.o]
   refine ⟨⟨(.slice ag o.length T),rfl,?_⟩,by rw [ai.o];exact au.o.trans (af.mono (by omega))⟩;rw [ai.o];exact (qce R2.o ae.o av).lift (by omega)
theorem qxE (p:Pat) (e:Int) (A:Good2 p e) (ay:Good2 p (op6 e)) (w:World) (ao:qac w):Calls prog 226 #[qai p e,.int .i64 4] w (qdS w 4 e ((qbU (qae p 4 e).1 6 (qae p 4 e).2.1 (qae p 4 e).2.2.1).map fun h=>((qae p 4 e).1,h.1,h.2,(qae p 4 e).2.2.2))):=by
 unfold qai;obtain ⟨aj,aA,q,y,B0,aK⟩:=qbC w p e;obtain ⟨n,ak⟩:=N9 (w.heap.size);rw [ak] at q y B0 aK;have aE:0 < n:=by rw [<- ak];exact ao.lt
 have aw:qac aj:=ao.qEr (n:=n) B0 aE;have az:=C9 q 0;have aB:=C9 q 1;have aD:=C9 q 2;have ai:=J9 ak;have y:=J9 y;have B0:=J9 B0;have E:=qd3 p 4 e A.good aj aw;have ah:=A.qED 4;have an:(qae p 4 e).2.2.1.length<=1000:=A.extra;obtain ⟨⟨m,o,ac,J⟩,L⟩:=N9 (qae p 4 e);have aI:=J9 L;rw [L] at ah an E;simp only [qai] at ah an E;clear L A ay ao aw q;have U:Hid (((qbU (qae p 4 e).1 6 (qae p 4 e).2.1 (qae p 4 e).2.2.1).map fun h=>((qae p 4 e).1,h.1,h.2,(qae p 4 e).2.2.2))=(qbU m 6 o ac).map fun h=>(m,h.1,h.2,J)):=by show ((qbU (qae p 4 e).1 6 (qae p 4 e).2.1 (qae p 4 e).2.2.1).map fun h=>((qae p 4 e).1,h.1,h.2,(qae p 4 e).2.2.2))=_;rw [aI.o]
 go_enter func226,ntmps226
 go_wp2_with fail
 refine E.mono ?_;rintro aG aJ ⟨v,rfl,K,z⟩;simp only [enV] at K |-;obtain ⟨ag,T,rfl,-,-⟩:=K.ops;have G:=qn5 aj.heap.size 4 e m _ ac J 6 (by decide) o ah an aJ K z.size;have R1:=J9 (y.o.all z);have aq:=J9 (B0.o.trans (z.mono (by omega)));simp only [enV] at G;clear E z y B0 aA az aB aD;obtain ⟨aF,ax⟩:=N9 (qbU m 6 o ac);rw [ax] at G U
 go_wp2_with fail
 refine G.mono ?_;rintro aG aO ⟨ar,Z⟩;have R2:=J9 (R1.o.below Z (by omega));have au:=J9 (aq.o.trans (Z.mono (by omega)));clear G ax R1 aq Z;obtain ⟨aN,aM,aS,aR,aT,aP,aQ⟩:=R2.o.cells;cases aF with
 | none=>
  subst ar;simp only [enV];go_wp2;obtain ⟨aC,ad,aa,af,aH,-,av⟩:=R2.o.put 0 0 [] (.slice none 0 0) [] false;rw [ad];obtain ⟨M,al,O,ab,V,am,-⟩:=aa.cells;refine bodyPost_ret (v:=.tuple #[enV 0 0 [] (.slice none 0 0) [] false,.bool false]) ?_ rfl ?_
  ·simp [results,results226,go_sem,M,al,O,ab,V,am,enV]
  ·rw [U.o]
   exact ⟨rfl,by rw [ai.o];exact au.o.trans (af.mono (by omega))⟩
 | some h=>
  obtain ⟨aL,ap⟩:=h;obtain ⟨rfl,ae⟩:=ar;have ae:=J9 ae;simp only [enV];go_wp2;obtain ⟨aC,ad,aa,af,aH,-,av⟩:=R2.o.put 4 e m (.slice ag o.length T) ap J;rw [ad];obtain ⟨M,al,O,ab,V,am,-⟩:=aa.cells;refine bodyPost_ret (v:=.tuple #[enV 4 e m (.slice ag o.length T) ap J,.bool true]) ?_ rfl ?_
  ·simp [results,results226,go_sem,M,al,O,ab,V,am,enV]
  ·rw [U.o]
   refine ⟨⟨(.slice ag o.length T),rfl,?_⟩,by rw [ai.o];exact au.o.trans (af.mono (by omega))⟩;rw [ai.o];exact (qce R2.o ae.o av).lift (by omega)
theorem qy9 (p:Pat) (e:Int) (y:Good2 p e) (z:Good2 p (op6 e)) (w:World) (O:qac w):Calls prog 226 #[qai p e,.int .i64 5] w (qdS w 5 e (some (qbJ p 5 e 5))):=by
 unfold qai;obtain ⟨ab,ag,m,q,B0,aw⟩:=qbC w p e;obtain ⟨n,M⟩:=N9 (w.heap.size);rw [M] at m q B0 aw;have ap:0 < n:=by rw [<- M];exact O.lt
 have aa:qac ab:=O.qEr (n:=n) B0 ap;have af:=C9 m 0;have ah:=C9 m 1;have ao:=C9 m 2;have Z:=J9 M;have q:=J9 q;have B0:=J9 B0;have A:=qg2 p 5 e 5 y.good.len y.good.op0 y.good.op1 z.good (z.qED 5) z.extra ab aa;obtain ⟨⟨U,K,V,ac⟩,G⟩:=N9 (qbJ p 5 e 5);have au:=J9 G;rw [G] at A;simp only [qai] at A;clear G y z O aa m
 go_enter func226,ntmps226
 go_wp2_with fail
 refine A.mono ?_;rintro aA aC ⟨v,rfl,h,E⟩;simp only [enV] at h |-;obtain ⟨L,J,rfl,-,-⟩:=h.ops;have R1:=J9 (q.o.all E);have ai:=J9 (B0.o.trans (E.mono (by omega)));have h:=J9 h;clear A E q B0 ag af ah ao;obtain ⟨az,ay,aG,aF,aH,aD,aE⟩:=R1.o.cells;go_wp2;obtain ⟨ax,am,ak,an,aB,-,aq⟩:=R1.o.put 5 e U (.slice L K.length J) V ac;rw [am];obtain ⟨ad,av,ae,al,aj,ar,-⟩:=ak.cells;refine bodyPost_ret (v:=.tuple #[enV 5 e U (.slice L K.length J) V ac,.bool true]) ?_ rfl ?_
 ·simp [results,results226,go_sem,ad,av,ae,al,aj,ar,enV]
 ·rw [au.o]
  refine ⟨⟨(.slice L K.length J),rfl,?_⟩,by rw [Z.o];exact ai.o.trans (an.mono (by omega))⟩;rw [Z.o];exact (qce R1.o h.o aq).lift (by omega)
theorem qyA (p:Pat) (e:Int) (y:Good2 p e) (z:Good2 p (op6 e)) (w:World) (O:qac w):Calls prog 226 #[qai p e,.int .i64 6] w (qdS w 6 e (some (qbJ p 6 e 6))):=by
 unfold qai;obtain ⟨ab,ag,m,q,B0,aw⟩:=qbC w p e;obtain ⟨n,M⟩:=N9 (w.heap.size);rw [M] at m q B0 aw;have ap:0 < n:=by rw [<- M];exact O.lt
 have aa:qac ab:=O.qEr (n:=n) B0 ap;have af:=C9 m 0;have ah:=C9 m 1;have ao:=C9 m 2;have Z:=J9 M;have q:=J9 q;have B0:=J9 B0;have A:=qg2 p 6 e 6 y.good.len y.good.op0 y.good.op1 z.good (z.qED 6) z.extra ab aa;obtain ⟨⟨U,K,V,ac⟩,G⟩:=N9 (qbJ p 6 e 6);have au:=J9 G;rw [G] at A;simp only [qai] at A;clear G y z O aa m
 go_enter func226,ntmps226
 go_wp2_with fail
 refine A.mono ?_;rintro aA aC ⟨v,rfl,h,E⟩;simp only [enV] at h |-;obtain ⟨L,J,rfl,-,-⟩:=h.ops;have R1:=J9 (q.o.all E);have ai:=J9 (B0.o.trans (E.mono (by omega)));have h:=J9 h;clear A E q B0 ag af ah ao;obtain ⟨az,ay,aG,aF,aH,aD,aE⟩:=R1.o.cells;go_wp2;obtain ⟨ax,am,ak,an,aB,-,aq⟩:=R1.o.put 6 e U (.slice L K.length J) V ac;rw [am];obtain ⟨ad,av,ae,al,aj,ar,-⟩:=ak.cells;refine bodyPost_ret (v:=.tuple #[enV 6 e U (.slice L K.length J) V ac,.bool true]) ?_ rfl ?_
 ·simp [results,results226,go_sem,ad,av,ae,al,aj,ar,enV]
 ·rw [au.o]
  refine ⟨⟨(.slice L K.length J),rfl,?_⟩,by rw [Z.o];exact ai.o.trans (an.mono (by omega))⟩;rw [Z.o];exact (qce R1.o h.o aq).lift (by omega)
theorem qy2 (p:Pat) (e:Int) (Z:e≠3) (U:e≠4) (ac:e≠5) (aa:e≠6) (h:Int) (z:Good2 p h) (aj:Good2 p (op6 h)) (w:World) (O:qac w):Calls prog 226 #[qai p h,.int .i64 e] w (qdS w e h (some (qae p e h))):=by
 unfold qai;obtain ⟨ag,an,q,y,B0,aD⟩:=qbC w p h;obtain ⟨n,M⟩:=N9 (w.heap.size);rw [M] at q y B0 aD;have ay:0 < n:=by rw [<- M];exact O.lt
 have af:qac ag:=O.qEr (n:=n) B0 ay;have aK:(e == 3)=false:=by simpa using Z
 have aE:(e == 4)=false:=by simpa using U
 have aJ:(e == 5)=false:=by simpa using ac
 have aF:(e == 6)=false:=by simpa using aa
 clear Z U ac aa;have am:=C9 q 0;have ao:=C9 q 1;have ax:=C9 q 2;have ae:=J9 M;have y:=J9 y;have B0:=J9 B0;have A:=qd3 p e h z.good ag af;have ad:=z.qED e;have ah:(qae p e h).2.2.1.length<=1000:=z.extra;obtain ⟨⟨V,K,ab,ai⟩,G⟩:=N9 (qae p e h);have aB:=J9 G;rw [G] at ad ah A;simp only [qai] at ad ah A;clear G z aj O af q
 go_enter func226,ntmps226
 go_wp2_with fail
 refine A.mono ?_;rintro aL aN ⟨v,rfl,m,E⟩;simp only [enV] at m |-;obtain ⟨L,J,rfl,-,-⟩:=m.ops;have R1:=J9 (y.o.all E);have ap:=J9 (B0.o.trans (E.mono (by omega)));have m:=J9 m;clear A E y B0 an am ao ax;obtain ⟨aI,aH,aR,aQ,aS,aO,aP⟩:=R1.o.cells;go_wp2;obtain ⟨aG,av,ar,aw,aM,-,az⟩:=R1.o.put e h V (.slice L K.length J) ab ai;rw [av];obtain ⟨ak,aC,al,au,aq,aA,-⟩:=ar.cells;refine bodyPost_ret (v:=.tuple #[enV e h V (.slice L K.length J) ab ai,.bool true]) ?_ rfl ?_
 ·simp [results,results226,go_sem,ak,aC,al,au,aq,aA,enV]
 ·rw [aB.o]
  refine ⟨⟨(.slice L K.length J),rfl,?_⟩,by rw [ae.o];exact ap.o.trans (aw.mono (by omega))⟩;rw [ae.o];exact (qce R1.o m.o az).lift (by omega)
theorem qlm (p:Pat) (y h:Int) (z:Good2 p h) (E:Good2 p (op6 h)) (w:World) (G:qac w):Calls prog 226 #[qai p h,.int .i64 y] w (qdS w y h (qcu p y h)):=by
 unfold qcu;by_cases J:y=3
 ·subst J;exact qyN p h z E w G
 ·rw [Qd J]
  by_cases K:y=4
  ·subst K;exact qxE p h z E w G
  ·rw [Qd K]
   by_cases O:y=5
   ·subst O;exact qy9 p h z E w G
   ·rw [Qd O]
    by_cases M:y=6
    ·subst M;exact qyA p h z E w G
    ·rw [Qd M]
     exact qy2 p y J K O M h z E w G
def BytesAt (w:World) (A:Option Addr) (xs:Str):Prop:=xs=[]\/∃ h j,A=some ⟨h,j,none⟩/\∀ b (y:b<xs.length),w.cell? ⟨h,j+b,none⟩=some (.int .u8 (xs[b].toNat:Int))
theorem BytesAt.below {w w':World} {A:Option Addr} {xs:Str} (z:BytesAt w A xs) (G:Below w.heap.size w w'):BytesAt w' A xs:=by
 rcases z with rfl | ⟨y,E,rfl,b⟩
 ·exact .inl rfl
 ·exact .inr ⟨y,E,rfl,fun h j=>(G.cell (Qp w _ (b h j))).trans (b h j)⟩
def cellsB (xs:Str):List Value:=xs.map fun b=>.int .u8 (b.toNat:Int)
def qap (w:World) (n:Nat) (v:Value) (xs:Str):Prop:=w.ownsRow n 5 1 v xs.length (cellsB xs)
theorem qap.bytes {w:World} {n:Nat} {v:Value} {xs:Str} (j:qap w n v xs):∃ h g,v=.slice h xs.length g/\BytesAt w h xs:=by
 rcases j.2 with ⟨rfl,z⟩ | ⟨y,g,G,rfl,_,_,_⟩
 ·have:xs=[]:=Qu z
  subst this;exact ⟨none,0,rfl,.inl rfl⟩
 ·refine ⟨_,g,rfl,.inr ⟨y,0,rfl,fun A E=>?_⟩⟩
  rw [QS,World.ownsRow.cellAt j A (by omega)];unfold cellsB;rw [Za,Qi E];rfl
theorem qap.below {w w':World} {n:Nat} {v:Value} {xs:Str} (h:qap w n v xs) (k:Below w.heap.size w w'):qap w' n v xs:=
 World.ownsRow.kept h (row:=none) ⟨k.os,k.tape,k.output,k.size,fun g e _=>k.block g e⟩ (by
  cases i:v.ownBlock with
  | none=>exact .inl rfl
  | some y=>exact .inr (by simp))
def qaQ (h:Int):Str:=if h=1 then [203] else if h=2 then [237] else if h=3 then [221] else if h=4 then [253] else if h=5 then [221,203] else if h=6 then [253,203] else []
theorem BytesAt.news {w:World} {A:Option Addr} {ys:Str} (J:BytesAt w A ys):ys.length=0\/∃ a,A=some a/\∀ j u,(cellsB ys)[j]?=some u->w.cell? (a.add j)=some u:=by
 rcases J with rfl | ⟨y,z,rfl,E⟩
 ·exact .inl rfl
 ·refine .inr ⟨_,rfl,fun j u b=>?_⟩
  have K:(⟨y,z,none⟩:Addr).add j=⟨y,z+j,none⟩:=by unfold Addr.add;split <;> simp_all
  rw [K];unfold cellsB at b;rw [Za] at b;cases h:ys[j]? with
  | none=>rw [h] at b;cases b
  | some O=>
   rw [h] at b;obtain ⟨M,G⟩:=QP.1 h;obtain rfl:=Qw b;rw [E j M,G]
theorem qap.lift {w:World} {n m:Nat} {v:Value} {xs:Str} (h:qap w n v xs) (k:m<=n):qap w m v xs:=row_mono h k
end Go.Proofs.YtjafbmfcedijmaaGreatDoor
namespace Go.Proofs.YtjafbmfcedijmaaGreatDoor
open Tryz
open Go.RowKit
def qad (w:World) (A:Option Addr) (b:List Int):Prop:=
 b=[]\/∃ j y,A=some ⟨j,y,none⟩/\∀ h (z:h<b.length),w.cell? ⟨j,y+h,none⟩=some (.int .i64 b[h])
theorem qad.at_ {w:World} {A:Option Addr} {y:List Int} (G:qad w A y) {k:Nat} (z:k<y.length):∃ b h,A=some ⟨b,h,none⟩/\w.cell? ⟨b,h+k,none⟩=some (.int .i64 y[k]):=by
 rcases G with rfl | ⟨b,h,rfl,E⟩
 ·simp at z
 ·exact ⟨b,h,rfl,E k z⟩
def qcL (n y:Int) (z:List Int):Bool:=z.all fun h=>decide (n<=h)&&decide (h<=y)
theorem qnF (y z:Int) (h:List Int) (k:Nat) (E:k<h.length) (G:h[k]<y\/z<h[k]):qcL y z h=false:=by
 unfold qcL;rw [List.all_eq_false];refine ⟨h[k],QB E,?_⟩;simp;omega
theorem qvU (x y:Int) (h:List Int) (z:∀ j (z:j<h.length),x<=h[j]/\h[j]<=y):qcL x y h=true:=by
 unfold qcL;rw [QR];intro J E;obtain ⟨j,G,rfl⟩:=Zg E;have:=z j G;simp;omega
theorem fits_any (j i:Int) (A:Option Addr) (cap:Nat) (b:List Int) (N:b.length<=maxLen) (w:World) (J:qad w A b) :
  Calls prog 103 #[.int .i64 j,.int .i64 i,.slice A b.length cap] w fun F V=>F=.returned (.bool (qcL j i b))/\w=V:=by
 unfold maxLen at N;have Z:=J9 J;clear J
 go_enter func103,ntmps103
 go_wp2
 go_loop [11] (fun z=>∃ h:Nat,h<=b.length/\z=.int .i64 h/\Hid (∀ e (k:e<b.length),e<h->j<=b[e]/\b[e]<=i)) (fun z=>b.length - (intOf z).toNat)
 case atStart=>exact ⟨0,Qs _,rfl,fun e k M=>by omega⟩
 case round=>
  obtain ⟨h,ad,rfl,G⟩:=hrel;by_cases E:h<b.length
  ·obtain ⟨ac,ab,U,aa⟩:=Z.o.at_ E
   subst U;by_cases K:b[h]<j
   ·have y:=J9 (qnF j i b h E (.inl K))
    go_wp2;go_ret;exact ⟨qaa y.o.symm,rfl⟩
   ·by_cases O:i<b[h]
    ·have y:=J9 (qnF j i b h E (.inr O))
     go_wp2;go_ret;exact ⟨qaa y.o.symm,rfl⟩
    ·have R:Hid (∀ e (k:e<b.length),e<h+1->j<=b[e]/\b[e]<=i):=fun e k M=>by
      by_cases F:e=h
      ·subst F;omega
      ·exact G.o e k (by omega)
     go_wp2
     go_round
     case rel=>exact ⟨h+1,by omega,by go_num,R⟩
     case measure=>simp [intOf];omega
  ·have y:=J9 (qvU j i b fun e k=>G.o e k (by omega))
   go_wp2;go_ret;exact ⟨qaa y.o.symm,rfl⟩
theorem ints_one (w:World) (x:Int) (t:TypeId):qad (w.alloc (.cells #[.int .i64 x] t)) (some ⟨w.heap.size,0,none⟩) [x]:=by
 refine .inr ⟨_,_,rfl,fun h j=>?_⟩;obtain rfl:h=0:=by simp at j;omega
 simp [go_sem]
theorem qja:(prog.info? 5).map (fun i=>(i.zero,i.size,i.bytes))=some (some (.int .u8 0),1,1):=by kernel_rfl
def qci (x:Int):UInt8:=(if x<10 then 48+x else 55+x).toNat.toUInt8
def qeg:ByteArray:=⟨#[48,49,50,51,52,53,54,55,56,57,65,66,67,68,69,70]⟩
theorem qth (x:Int) (t:0<=x) (z:x<16) (i:x.toNat<qeg.size):qeg[x.toNat]=qci x:=by
 have y:∀ h:Fin 16,∀ i:h.val<qeg.size,qeg[h.val]=qci (h.val:Int):=by decide +kernel
 have:=y ⟨x.toNat,by omega⟩ i;simpa [Int.toNat_of_nonneg t] using this
theorem qAb (x:Int):bits .and .i64 x 15=x % 16:=by
 show IntKind.i64.wrap ((BitVec.ofInt 64 x &&& BitVec.ofInt 64 15).toNat:Int)=_;rw [BitVec.toNat_and,show (BitVec.ofInt 64 15).toNat=2 ^ 4 - 1 from rfl,Nat.and_two_pow_sub_one_eq_mod,BitVec.toNat_ofInt,IntKind.wrap_i64];omega
def qbw (n:Int) (i:Nat):Int:=(n / 2 ^ (4*i)) % 16
theorem qbM (n:Int) (i:Nat):0<=qbw n i/\qbw n i<16:=by unfold qbw;omega
def qcM (n:Int) (d:Nat):ByteArray:=⟨((List.range d).map fun h=>qci (qbw n (d - 1 - h))).toArray⟩
theorem qa9 (n:Int) (d:Nat):(qcM n d).size=d:=by show (((List.range d).map fun h=>qci (qbw n (d - 1 - h))).toArray).size=d;simp
theorem qzB (n:Int) (d j:Nat) (h:j<(qcM n d).size):(qcM n d)[j]=qci (qbw n (d - 1 - j)):=by
 have y:(qcM n d).data[j]'h=qci (qbw n (d - 1 - j)):=by simp [qcM]
 exact y
def qke (w:World) (n:Int) (d k:Nat) (wr:World):Prop:=
 (∀ h,h<d->wr.cell? ⟨w.heap.size+1,h,none⟩=some (.int .u8 (if d - 1 - h<k then ((qci (qbw n (d - 1 - h))).toNat:Int) else 0)))/\(∀ h,h<d->wr.frozen? ⟨w.heap.size+1,h,none⟩=false)/\Below w.heap.size w wr
theorem qlq (w:World) (n:Int) (d:Nat) (j:Obj) (e:TypeId):qke w n d 0 ((w.alloc j).alloc (.cells (madeCells #[.int .u8 0] d) e)):=by
 refine ⟨fun y h=>?_,fun y h=>?_,(B0).alloc (by simp) _⟩
 ·rw [Qd (by omega)]
  simp [go_sem,madeCells,h,Nat.mod_one]
 ·simp [go_sem]
theorem qnf (w wr:World) (n:Int) (d k:Nat) (M:k<d) (E:qke w n d k wr) :
  qke w n d (k+1) (wr.setCell ⟨w.heap.size+1,d - 1 - k,none⟩ (.int .u8 ((qci (qbw n k)).toNat:Int))):=by
 obtain ⟨j,K,G⟩:=E;refine ⟨fun e h=>?_,fun e h=>?_,G.setCell (by simp) _⟩
 ·by_cases z:e=d - 1 - k
  ·subst z
   have:=j _ h;have J:d - 1 - (d - 1 - k)=k:=(by omega);rw [Qk (by omega),J];simp [go_sem,this]
  ·rw [World.cell?_setCell_other _ _ _ _ (by simp),j e h]
   by_cases y:d - 1 - e<k
   ·rw [Qk y,Qk (by omega)]
   ·rw [Qd y,Qd (by omega)]
 ·simp [go_sem,K e h]
theorem qpy (w wr:World) (n:Int) (d cap:Nat) (z:qke w n d d wr) :
  (convert 44 9 (.slice (some ⟨w.heap.size+1,0,none⟩) d cap)).run prog wr=.ok (.string (qcM n d)) wr:=by
 have y:=Lib.run_convert_whole (P:=prog) wr 44 5 9 underlying44 underlying5 underlying9 (w.heap.size+1) 0 (qcM n d) (fun i h=>by
  have E:i<d:=by rw [qa9] at h;exact h
  rw [QS,z.1 i E,Qk (by omega),qzB n d i h]) cap
 rw [qa9] at y;exact y
theorem qmH (n:Int) (d:Nat) (ad:d<=8) (w:World) :
  Calls prog 129 #[.int .i64 n,.int .i64 d] w fun M K=>M=.returned (.string (qcM n d))/\Below w.heap.size w K:=by
 have hF:qcL 0 8 [(d:Int)]=true:=by simp [qcL];omega
 have O:=fun w=>run_make_row' (P:=prog) 44 5 (.int .u8 0) 1 underlying44 qja rfl .i64 .i64 d (by omega) (by omega) w
 have V:=fun R=>J9 (qlq w n d R 5)
 go_enter func129,ntmps129
 go_wp2_with (go_at_call 103;refine (fits_any 0 8 _ _ [(d:Int)] (by simp [maxLen]) _ (ints_one _ _ _)).mono ?_;rintro M K ⟨rfl,rfl⟩)
 clear O
 go_loopw [14] (fun i wr=>∃ e:Nat,e<=d/\i=.int .i64 e/\qke w n d e wr) (fun i _=>d - (intOf i).toNat)
 case atStart=>exact ⟨0,Qs _,rfl,(V _).o⟩
 case round=>
  obtain ⟨e,ab,rfl,x⟩:=hrel;have h:=J9 x;clear x;by_cases S:e<d
  ·have y:=qAb (n / 2 ^ (4*e))
   obtain ⟨G,J⟩:=qbM n e;have z:qbw n e=n / 2 ^ (4*e) % 16:=rfl;rw [<- z] at y;clear z;obtain ⟨E,k⟩:=N9 (qbw n e);rw [k] at y G J;have X:=J9 k;clear k;have Z:=h.o.1 (d - 1 - e) (by omega);have ac:=h.o.2.1 (d - 1 - e) (by omega);have U:=J9 (qnf w wr n d e S h.o);go_wp2;go_roundw
   case rel=>exact ⟨e+1,by omega,by go_num,by have N:=U.o;rw [X.o,<- qth E G J (by show E.toNat<16;omega)] at N;exact N⟩
   case measure=>simp [intOf];omega
  ·obtain rfl:e=d:=by omega
   have aa:=qpy w wr n e e h.o;go_wp2;go_ret;exact ⟨rfl,h.o.2.2⟩
theorem qir (s:ByteArray) (a b:Nat):(s.extract a b).size<=s.size:=by simp;omega
theorem qaB {a b:ByteArray} (h:a.data.toList=b.data.toList):a=b:=by
 apply ByteArray.ext;exact Array.toList_inj.1 h
def qnE:Value->Nat
 | .string h=>h.size
 | _=>0
def qcJ (c:UInt8) (s:ByteArray):ByteArray:=⟨(s.data.toList.dropWhile (· == c)).toArray⟩
theorem qk0 (t:ByteArray) (z:0<t.size):t.data.toList=t[0] :: (t.extract 1 t.size).data.toList:=by
 rw [Lib.extract_data];have y:0<t.data.toList.length:=by simpa using z
 have h:=Zv y;rw [Qy] at h;rw [QJ (by simp),<- show t.data.toList[0]=t[0] from rfl];exact h
theorem qiE (c:UInt8) (t:ByteArray) (h:0<t.size) (e:t[0]=c):qcJ c (t.extract 1 t.size)=qcJ c t:=by
 apply qaB;unfold qcJ;simp only [qk0 t h,List.dropWhile_cons,e,beq_self_eq_true,if_true]
theorem qit (c:UInt8) (t:ByteArray) (h:0<t.size) (e:¬t[0]=c):qcJ c t=t:=by
 apply qaB;unfold qcJ;show List.dropWhile (· == c) t.data.toList=_;rw [qk0 t h,List.dropWhile_cons];simp [e]
theorem qgD (c:UInt8) (t:ByteArray) (z:¬0<t.size):qcJ c t=t:=by
 apply qaB;have y:t.data.toList.length=t.size:=by simp
 have h:t.data.toList=[]:=Qu (by omega);unfold qcJ;simp [h]
theorem qgg (s:ByteArray) (c:UInt8) (E:s.size<=maxLen) (w:World) :
  Calls prog 236 #[.string s,.int .u8 (c.toNat:Int)] w fun h G=>h=.returned (.string (qcJ c s))/\w=G:=by
 unfold maxLen at E
 go_enter func236,ntmps236
 go_wp2
 go_loop [0] (fun z=>∃ e:ByteArray,z=.string e/\e.size<=2 ^ 63 - 1/\Hid (qcJ c e=qcJ c s)) (fun z=>qnE z)
 case atStart=>exact ⟨s,rfl,E,rfl⟩
 case round=>
  obtain ⟨e,rfl,J,v⟩:=hrel;by_cases y:0<e.size
  ·have M:((e.size:Int) == 0)=false:=by rw [Qj];omega
   by_cases h:e[0]=c
   ·have K:((e[0].toNat:Int) == (c.toNat:Int))=true:=by rw [h];simp
    have t:Hid (qcJ c (e.extract 1 e.size)=qcJ c s):=(qiE c e y h).trans v.o;clear h;go_wp2
    go_round
    case rel=>exact ⟨_,rfl,Qm (qir e 1 e.size) J,t⟩
    case measure=>simp [qnE];omega
   ·have K:((e[0].toNat:Int) == (c.toNat:Int))=false:=by
     rw [Qj];intro N;exact h (UInt8.toNat_inj.1 (by omega))
    have t:Hid (e=qcJ c s):=(qit c e y h).symm.trans v.o;clear h;go_wp2;go_ret;exact ⟨qaw t.o,rfl⟩
  ·have t:Hid (e=qcJ c s):=(qgD c e y).symm.trans v.o
   go_wp2;go_ret;exact ⟨qaw t.o,rfl⟩
theorem qjg (s:ByteArray) (z:s.size<=maxLen) (w:World) :
  Calls prog 192 #[.string s,.string ⟨#[48]⟩] w fun h E=>h=.returned (.string (qcJ 48 s))/\w=E:=by
 have J:=z;unfold maxLen at z;by_cases e:s.toList.isEmpty=true
 ·have M:¬0<s.size:=by
   rw [Qe] at e;have K:s.data.toList=[]:=(by simpa using e);have y:s.data.toList.length=s.size:=(by simp);rw [K] at y;simp at y;omega
  have G:=J9 (qgD 48 s M).symm
  go_enter func192,ntmps192
  go_wp2;go_ret;exact ⟨qaw G.o,rfl⟩
 ·have N:s.toList.isEmpty=false:=by simpa using e
  clear e
  go_enter func192,ntmps192
  go_wp2_with (go_at_call 236;refine (qgg _ 48 J _).mono ?_;rintro h E ⟨rfl,rfl⟩)
  go_ret;exact ⟨rfl,rfl⟩
def qdf (n:Int):ByteArray:=qcJ 48 (qcM n 4)
theorem qyJ:∀ x:Fin 16,(qci (x.val:Int)=48↔x.val=0):=by decide +kernel
theorem qeH (x:Int) (y:0<=x) (z:x<16):qci x=48↔x=0:=by
 have e:=qyJ ⟨x.toNat,by omega⟩;have h:((x.toNat:Nat):Int)=x:=by omega
 simp only [h] at e;rw [e];omega
theorem qCO (n:Int):(qcM n 4).data.toList=[qci (qbw n 3),qci (qbw n 2),qci (qbw n 1),qci (qbw n 0)]:=by unfold qcM;simp [List.range_succ]
theorem qij (n:Int) (U:10<=n) (ab:n<=65535) :
  (4096<=n/\(qdf n).data.toList=[qci (qbw n 3),qci (qbw n 2),qci (qbw n 1),qci (qbw n 0)]/\1<=qbw n 3)\/
  (n<4096/\256<=n/\(qdf n).data.toList=[qci (qbw n 2),qci (qbw n 1),qci (qbw n 0)]/\1<=qbw n 2)\/
  (n<256/\16<=n/\(qdf n).data.toList=[qci (qbw n 1),qci (qbw n 0)]/\1<=qbw n 1)\/
  (n<16/\(qdf n).data.toList=[qci (qbw n 0)]/\1<=qbw n 0):=by
 have M:=qeH (qbw n 3) (qbM n 3).1 (qbM n 3).2;have E:=qeH (qbw n 2) (qbM n 2).1 (qbM n 2).2;have h:=qeH (qbw n 1) (qbM n 1).1 (qbM n 1).2;have G:=qeH (qbw n 0) (qbM n 0).1 (qbM n 0).2;have V:qbw n 3=n / 4096 % 16:=by unfold qbw;simp
 have Z:qbw n 2=n / 256 % 16:=by unfold qbw;simp
 have O:qbw n 1=n / 16 % 16:=by unfold qbw;simp
 have aa:qbw n 0=n % 16:=by unfold qbw;simp
 have z:(qdf n).data.toList=List.dropWhile (· == 48) [qci (qbw n 3),qci (qbw n 2),qci (qbw n 1),qci (qbw n 0)]:=by unfold qdf qcJ;rw [qCO]
 rw [z];simp only [List.dropWhile_cons,beq_iff_eq,M,E,h,G];by_cases J:4096<=n
 ·left
  rw [Qd (by omega)];exact ⟨J,rfl,by omega⟩
 ·right
  rw [Qk (by omega)];by_cases y:256<=n
  ·left
   rw [Qd (by omega)];exact ⟨by omega,y,rfl,by omega⟩
  ·right
   rw [Qk (by omega)];by_cases K:16<=n
   ·left
    rw [Qd (by omega)];exact ⟨by omega,K,rfl,by omega⟩
   ·right
    rw [Qk (by omega),Qd (by omega)];exact ⟨by omega,rfl,by omega⟩
theorem qnS (n:Int) (z:10<=n) (E:n<=65535):0<(qdf n).size:=by
 have y:(qdf n).data.toList.length=(qdf n).size:=by simp
 rcases qij n z E with ⟨_,h,_⟩ | ⟨_,_,h,_⟩ | ⟨_,_,h,_⟩ | ⟨_,h,_⟩ <;> rw [h] at y <;> simp at y <;> omega
theorem qvZ (c:UInt8) (s:ByteArray):(qcJ c s).size<=s.size:=by
 show (List.dropWhile (· == c) s.data.toList).toArray.size<=s.data.size;have h:=(List.dropWhile_sublist (p:=(· == c)) (l:=s.data.toList)).length_le;simpa using h
theorem qlR (n:Int):(qdf n).size<=4:=by
 have h:=qvZ 48 (qcM n 4);rw [qa9] at h;exact h
theorem qtn (n:Int):(qcM n 4).size<=maxLen:=by rw [qa9];simp [maxLen]
theorem hex4_any (n:Int) (w:World) :
  Calls prog 129 #[.int .i64 n,.int .i64 4] w fun e h=>e=.returned (.string (qcM n 4))/\Below w.heap.size w h:=qmH n 4 (by omega) w
theorem trimDig_any (n:Int) (w:World) :
  Calls prog 192 #[.string (qcM n 4),.string ⟨#[48]⟩] w fun e h=>e=.returned (.string (qdf n))/\w=h:=qjg _ (qtn n) w
def qaM (n:Int):ByteArray:=
 if n<0\/65535<n then ⟨#[]⟩
 else if n<10 then ⟨#[qci n]⟩
 else if qnO (((qdf n).data.toList.getD 0 0).toNat:Int) then ⟨((qdf n).data.toList++[72]).toArray⟩ else ⟨(48 :: (qdf n).data.toList++[72]).toArray⟩
theorem qoO (n:Int) (h:0<=n) (y:n<=65535):qcL 0 65535 [n]=true:=by simp [qcL];omega
theorem qtb (n:Int) (h:n<0\/65535<n):qcL 0 65535 [n]=false:=by simp [qcL];omega
theorem qoY (n:Int) (E:0<=n) (y:n<10):qeg.extract n.toNat (n+1).toNat=qaM n:=by
 have z:∀ e:Fin 10,qeg.extract e.val (e.val+1)=⟨#[qci (e.val:Int)]⟩:=by decide +kernel
 have h:=z ⟨n.toNat,by omega⟩;have i:((n.toNat:Nat):Int)=n:=by omega
 have t:(n+1).toNat=n.toNat+1:=by omega
 simp only [i] at h;unfold qaM;rw [Qd (by omega),Qk y,t];exact h
theorem qAO (t:ByteArray) (h:0<t.size):t.data.toList.getD 0 0=t[0]:=by rw [Qo,Qi (by simpa using h)];rfl
theorem qam (a b:ByteArray):(a++b).data.toList=a.data.toList++b.data.toList:=by simp
theorem qnR (n:Int) (E:10<=n) (z:n<=65535) (y:0<(qdf n).size) (h:qnO ((qdf n)[0].toNat:Int)=true):qdf n++⟨#[72]⟩=qaM n:=by
 apply qaB;unfold qaM;rw [Qd (by omega),Qd (by omega),qAO _ y,h,qam];simp
theorem qn4 (n:Int) (E:10<=n) (z:n<=65535) (y:0<(qdf n).size) (h:qnO ((qdf n)[0].toNat:Int)=false):(⟨#[48]⟩++qdf n)++⟨#[72]⟩=qaM n:=by
 apply qaB;unfold qaM;rw [Qd (by omega),Qd (by omega),qAO _ y,h,qam,qam];simp
theorem qfd (n:Int) (w:World) :
  Calls prog 142 #[.int .i64 n] w fun e h=>e=.returned (.string (qaM n))/\Below w.heap.size w h:=by
 by_cases E:n<0\/65535<n
 ·have hF:=qtb n E
  have y:=J9 (show (⟨#[]⟩:ByteArray)=qaM n by unfold qaM;rw [Qk E]);clear E
  go_enter func142,ntmps142
  go_wp2_with (go_at_call 103;refine (fits_any 0 65535 _ _ [n] (by simp [maxLen]) _ (ints_one _ _ _)).mono ?_;rintro e h ⟨rfl,rfl⟩)
  go_ret;exact ⟨qaw y.o,B0⟩
 ·have z:n<=65535:=by omega
  have M:0<=n:=by omega
  have hF:=qoO n M z;clear E;by_cases U:n<10
  ·have y:=J9 (qoY n M U)
   go_enter func142,ntmps142
   go_wp2_with (go_at_call 103;refine (fits_any 0 65535 _ _ [n] (by simp [maxLen]) _ (ints_one _ _ _)).mono ?_;rintro e h ⟨rfl,rfl⟩)
   go_ret;exact ⟨qaw y.o,B0⟩
  ·have T:=qnS n (by omega) z
   have aa:=qlR n;have K:(0:Int)<=((qdf n)[0].toNat:Int):=(by omega);have O:((qdf n)[0].toNat:Int)<=255:=(by have:=(qdf n)[0].toNat_lt;omega);by_cases J:qnO ((qdf n)[0].toNat:Int)=true
   ·have y:=J9 (qnR n (by omega) z T J)
    go_enter func142,ntmps142
    go_wp2_with (first | (go_at_call 103;refine (fits_any 0 65535 _ _ [n] (by simp [maxLen]) _ (ints_one _ _ _)).mono ?_;rintro e h ⟨rfl,rfl⟩) | (go_at_call 129;refine (hex4_any n _).mono ?_;rintro e Z ⟨rfl,G⟩) | (go_at_call 192;refine (trimDig_any n _).mono ?_;rintro e h ⟨rfl,rfl⟩) | (go_at_call 193;refine (isDecimal_any _ K O _).mono ?_;rintro e h ⟨rfl,rfl⟩))
    go_ret;exact ⟨qaw y.o,(B0).trans (G.mono (by simp))⟩
   ·have V:qnO ((qdf n)[0].toNat:Int)=false:=by simpa using J
    clear J;have y:=J9 (qn4 n (by omega) z T V)
    go_enter func142,ntmps142
    go_wp2_with (first | (go_at_call 103;refine (fits_any 0 65535 _ _ [n] (by simp [maxLen]) _ (ints_one _ _ _)).mono ?_;rintro e h ⟨rfl,rfl⟩) | (go_at_call 129;refine (hex4_any n _).mono ?_;rintro e Z ⟨rfl,G⟩) | (go_at_call 192;refine (trimDig_any n _).mono ?_;rintro e h ⟨rfl,rfl⟩) | (go_at_call 193;refine (isDecimal_any _ K O _).mono ?_;rintro e h ⟨rfl,rfl⟩))
    go_ret;exact ⟨qaw y.o,(B0).trans (G.mono (by simp))⟩
def qdg (w:World) (A:Option Addr) (xs:List UInt8):Prop:=
 xs=[]\/∃ h j,A=some ⟨h,j,none⟩/\∀ b (y:b<xs.length),w.cell? ⟨h,j+b,none⟩=some (.int .u8 (xs[b].toNat:Int))
theorem qdg.at_ {w:World} {A:Option Addr} {xs:List UInt8} (E:qdg w A xs) {k:Nat} (y:k<xs.length):∃ b h,A=some ⟨b,h,none⟩/\w.cell? ⟨b,h+k,none⟩=some (.int .u8 (xs[k].toNat:Int)):=by
 rcases E with rfl | ⟨b,h,rfl,z⟩
 ·simp at y
 ·exact ⟨b,h,rfl,z k y⟩
theorem qdg.below {w w':World} {A:Option Addr} {xs:List UInt8} (E:qdg w A xs) (G:Below w.heap.size w w'):qdg w' A xs:=by
 rcases E with rfl | ⟨j,y,rfl,h⟩
 ·exact .inl rfl
 ·exact .inr ⟨j,y,rfl,fun b z=>(G.cell (p:=⟨j,y+b,none⟩) (Qp w _ (h b z))).trans (h b z)⟩
theorem qdg.drewN {w:World} {A:Option Addr} {xs:List UInt8} (y:qdg w A xs) (n:Nat):qdg (w.drewN n) A xs:=by
 rcases y with rfl | ⟨h,z,rfl,b⟩
 ·exact .inl rfl
 ·exact .inr ⟨h,z,rfl,fun j E=>by simpa using b j E⟩
theorem qad.below {w w':World} {A:Option Addr} {xs:List Int} (E:qad w A xs) (G:Below w.heap.size w w'):qad w' A xs:=by
 rcases E with rfl | ⟨j,y,rfl,h⟩
 ·exact .inl rfl
 ·exact .inr ⟨j,y,rfl,fun b z=>(G.cell (p:=⟨j,y+b,none⟩) (Qp w _ (h b z))).trans (h b z)⟩
def qwd (w:World) (xs:List UInt8) (e:Ending) (w':World):Prop:=∃ h y,e=.returned (.slice h xs.length y)/\qdg w' h xs/\Below w.heap.size w w'
def qDF (w:World) (A:Option Addr):Prop:=∀ a,A=some a->w.heap.size<=a.block
def qlA (w:World) (xs:List UInt8) (e:Ending) (w':World):Prop:=∃ h y,e=.returned (.slice h xs.length y)/\qdg w' h xs/\xs.length<=y/\qDF w h/\Below w.heap.size w w'
theorem qlA.ret {w:World} {xs:List UInt8} {e:Ending} {w':World} (z:qlA w xs e w'):qwd w xs e w':=by
 obtain ⟨h,A,G,E,_,_,y⟩:=z;exact ⟨h,A,G,E,y⟩
def qb4:Tr:=(1,7,0)
def hlT:Tr:=(3,2,0)
def deT:Tr:=(3,1,0)
def I1 (s:ByteArray):Prop:=s=⟨#[83,85,66]⟩\/s=⟨#[65,78,68]⟩\/s=⟨#[88,79,82]⟩\/s=⟨#[79,82]⟩\/s=⟨#[67,80]⟩
def I2 (s:ByteArray):Prop:=s=⟨#[65,68,68]⟩\/s=⟨#[65,68,67]⟩\/s=⟨#[83,66,67]⟩
def I3 (s:ByteArray):Prop:=s=⟨#[69,88]⟩
def I4 (s:ByteArray):Prop:=s=⟨#[66,73,84]⟩\/s=⟨#[82,69,83]⟩\/s=⟨#[83,69,84]⟩\/s=⟨#[73,77]⟩\/s=⟨#[82,83,84]⟩\/s=⟨#[79,85,84]⟩
def I5 (s:ByteArray):Prop:=s=⟨#[74,80]⟩\/s=⟨#[67,65,76,76]⟩
def I6 (s:ByteArray):Prop:=s=⟨#[76,68]⟩
instance (s:ByteArray):Decidable (I1 s):=by unfold I1;infer_instance
instance (s:ByteArray):Decidable (I2 s):=by unfold I2;infer_instance
instance (s:ByteArray):Decidable (I3 s):=by unfold I3;infer_instance
instance (s:ByteArray):Decidable (I4 s):=by unfold I4;infer_instance
instance (s:ByteArray):Decidable (I5 s):=by unfold I5;infer_instance
instance (s:ByteArray):Decidable (I6 s):=by unfold I6;infer_instance
def opc (s:ByteArray):Nat:=if I1 s then 1 else if I2 s then 2 else if I3 s then 3 else if I4 s then 4 else if I5 s then 5 else if I6 s then 6 else 0
theorem quA {s:ByteArray} (h:I1 s):opc s=1:=by rcases h with rfl | rfl | rfl | rfl | rfl <;> decide +kernel
theorem quu {s:ByteArray} (h:I2 s):opc s=2:=by rcases h with rfl | rfl | rfl <;> decide +kernel
theorem qyP {s:ByteArray} (h:I3 s):opc s=3:=by obtain rfl:s=_:=h;decide +kernel
theorem qCy {s:ByteArray} (h:I4 s):opc s=4:=by rcases h with rfl | rfl | rfl | rfl | rfl | rfl <;> decide +kernel
theorem qCz {s:ByteArray} (h:I5 s):opc s=5:=by rcases h with rfl | rfl <;> decide +kernel
theorem qAe {s:ByteArray} (h:I6 s):opc s=6:=by obtain rfl:s=_:=h;decide +kernel
theorem qfO {s:ByteArray} (h:¬I1 s):opc s≠1:=by
 unfold opc;rw [Qd h];split <;> try decide
 split <;> try decide
 split <;> try decide
 split <;> try decide
 split <;> decide
theorem qfN {s:ByteArray} (h:¬I2 s):opc s≠2:=by
 unfold opc;rw [Qd h];split <;> try decide
 split <;> try decide
 split <;> try decide
 split <;> try decide
 split <;> decide
theorem qhi {s:ByteArray} (h:¬I3 s):opc s≠3:=by
 unfold opc;rw [Qd h];split <;> try decide
 split <;> try decide
 split <;> try decide
 split <;> try decide
 split <;> decide
theorem qzM {s:ByteArray} (h:¬I4 s):opc s≠4:=by
 unfold opc;rw [Qd h];split <;> try decide
 split <;> try decide
 split <;> try decide
 split <;> try decide
 split <;> decide
theorem qAa {s:ByteArray} (h:¬I5 s):opc s≠5:=by
 unfold opc;rw [Qd h];split <;> try decide
 split <;> try decide
 split <;> try decide
 split <;> try decide
 split <;> decide
theorem qBy {s:ByteArray} (h:¬I6 s):opc s≠6:=by
 unfold opc;rw [Qd h];split <;> try decide
 split <;> try decide
 split <;> try decide
 split <;> try decide
 split <;> decide
def accL (c:Nat) (L:List Tr):List Tr:=if c=1/\L.length=2/\L.head?=some qb4 then L.tail else if c=2/\L.length=1 then qb4 :: L else L
def exL (c:Nat) (L:List Tr):List Tr:=if c=3/\L=[hlT,deT] then [deT,hlT] else L
def qdc (c:Nat) (L:List Tr):Int:=if c=4 then 0 else if c=5 then 2 else if c=6/\L.head?.map (fun h=>h.1)=some 3 then 2 else 1
def qfv (w:Int):Int:=if w=1 then 256 else if w=2 then 65536 else 0
def wrapT (v:Int) (t:Tr):Tr:=if t.1=6/\-(v / 2)<=t.2.2/\t.2.2<0 then (t.1,t.2.1,t.2.2+v) else t
def canL (c:Nat) (L:List Tr):List Tr:=(exL c (accL c L)).map (wrapT (qfv (qdc c L)))
theorem qh6 (w:Int):qfv w=256\/qfv w=65536\/qfv w=0:=by
 unfold qfv;split
 ·exact .inl rfl
 ·split
  ·exact .inr (.inl rfl)
  ·exact .inr (.inr rfl)
theorem qol (c:Nat) (L:List Tr):(accL c L).length<=L.length+1:=by
 unfold accL;split
 ·rw [List.length_tail];omega
 ·split
  ·exact Qa _
  ·omega
theorem qiQ (c:Nat) (L:List Tr):(exL c L).length=L.length:=by
 unfold exL;split
 ·rename_i h;rw [h.2];rfl
 ·rfl
theorem qdR (c:Nat) (L:List Tr):(canL c L).length<=L.length+1:=by
 unfold canL;rw [QM,qiQ];exact qol c L
theorem qnU (L:List Tr) (h:L.length=2):∃ a b,L=[a,b]:=by
 cases L with
 | nil=>simp at h
 | cons a c=>
  cases c with
  | nil=>simp at h
  | cons b c=>
   cases c with
   | nil=>exact ⟨a,b,rfl⟩
   | cons r c=>simp at h
abbrev Vr:=List Int×Int×Int
def vr0:Vr:=([],0,0)
def qli (p:Vr×Vr) (c:UInt8):Vr×Vr:=
 if c=100 then (([5],-128,127),p.2) else if c=101 then (p.1,([10],-128,127)) else if c=110 then (p.1,([6,7],0,255)) else if c=119 then (p.1,([6,7],0,65535)) else p
def varsV (ex:Str):Vr×Vr:=ex.foldl qli (vr0,vr0)
def atV (h:List Int):List Tr->Option Nat
 | []=>none
 | t :: r=>match atV h r with
  | some k=>some (k+1)
  | none=>if t.1∈h then some 0 else none
def tr0:Tr:=(0,0,0)
def qdn (h:List Int) (L:List Tr):Int:=match atV h L with
 | some k=>(L.getD k tr0).2.2
 | none=>0
def setN (L:List Tr) (k:Nat) (n:Int):List Tr:=L.set k ((L.getD k tr0).1,(L.getD k tr0).2.1,n)
def qea (h:List Int) (L:List Tr) (n:Int):List Tr:=match atV h L with
 | some k=>setN L k n
 | none=>L
def inV (v:Vr) (n:Int):Bool:=decide (v.2.1<=n)&&decide (n<=v.2.2)
def qcN (v:Vr) (L:List Tr) (n:Int):Bool:=match atV v.1 L with
 | some _=>inV v n
 | none=>decide (n=0)
def qaZ (ex:Str) (L:List Tr) (d n:Int):Option (List Tr):=
 if qcN (varsV ex).1 L d=true/\qcN (varsV ex).2 (qea (varsV ex).1.1 L d) n=true then some (qea (varsV ex).2.1 (qea (varsV ex).1.1 L d) n) else none
def qqr (m:Str) (L:List Tr) (ex:Str) (s:ByteArray) (C:List Tr):Bool:=
 match qaZ ex L (qdn (varsV ex).1.1 C) (qdn (varsV ex).2.1 C) with
 | some h=>decide (sB m=s)&&decide (h=C)
 | none=>false
def ks2 (t:Tr):Int×Int:=(t.1,t.2.1)
def qdm (t:Tr):Bool:=t.1 == 6||t.1 == 7
def letR (ex:Str) (L:List Tr) (k:Nat):UInt8:=
 if (L.getD k tr0).1=5/\ex.contains 100=true then 100 else
 if (L.getD k tr0).1=10/\ex.contains 101=true then 101 else
 if qdm (L.getD k tr0)=false then 0 else
 if (L.drop (k+1)).any qdm=true then 0 else
 if ex.contains 110=true then 110 else if ex.contains 119=true then 119 else 0
def withR (c:UInt8) (n:Int):Bool:=
 if c=100\/c=101 then decide (-128<=n)&&decide (n<=127) else if c=110 then decide (0<=n)&&decide (n<=255) else decide (0<=n)&&decide (n<=65535)
def qhV (ex:Str) (L:List Tr) (k:Nat) (t:Tr):Bool:=
 if letR ex L k=0 then decide ((L.getD k tr0).2.2=t.2.2) else withR (letR ex L k) t.2.2
def qfU (m:Str) (L:List Tr) (s:ByteArray) (C:List Tr):Bool:=decide (sB m=s)&&decide (L.map ks2=C.map ks2)
def qa3 (m:Str) (L:List Tr) (ex:Str) (s:ByteArray) (C:List Tr):Bool:=qfU m L s C&&(List.range C.length).all fun h=>qhV ex L h (C.getD h tr0)
def rangeR (c:UInt8):Int×Int:=if c=100\/c=101 then (-128,127) else if c=110 then (0,255) else (0,65535)
def qdC (ex:Str) (L:List Tr) (k:Nat):Bool:=
 if atV (varsV ex).1.1 L=some k then letR ex L k == 100&&decide ((varsV ex).1.2=rangeR 100)&&decide (atV (varsV ex).2.1 L≠some k) else
 if atV (varsV ex).2.1 L=some k then letR ex L k != 100&&letR ex L k != 0&&decide ((varsV ex).2.2=rangeR (letR ex L k)) else letR ex L k == 0
def qbx (ex:Str) (L:List Tr):Bool:=(List.range L.length).all fun h=>qdC ex L h
theorem qaY (c:UInt8) (n:Int):withR c n=(decide ((rangeR c).1<=n)&&decide (n<=(rangeR c).2)):=by
 unfold withR rangeR;split
 ·rfl
 ·split <;> rfl
theorem qdy {r:List Int}:∀ {L:List Tr} {k:Nat},atV r L=some k->k<L.length
 | [],k,h=>by cases h
 | t :: y,k,h=>by
  unfold atV at h;cases j:atV r y with
  | some z=>
   rw [j] at h;obtain rfl:=Qw h;have:=qdy j;simp;omega
  | none=>
   rw [j] at h;simp only at h;split at h
   ·obtain rfl:=Qw h
    simp
   ·cases h
theorem qbt (h:List Int):∀ {L C:List Tr},L.map ks2=C.map ks2->atV h L=atV h C
 | [],[],_=>rfl
 | [],y :: C,c=>by simp at c
 | t :: L,[],c=>by simp at c
 | t :: L,y :: C,c=>by
  simp only [List.map_cons,List.cons.injEq] at c;unfold atV;rw [qbt h c.2];have E:t.1=y.1:=congrArg (fun z:Int×Int=>z.1) c.1;rw [E]
theorem qqc (L:List Tr) (k:Nat) (n:Int):(setN L k n).map ks2=L.map ks2:=by
 unfold setN;refine List.ext_getElem (by simp) fun i z y=>?_
 rw [Zt,Zt,List.getElem_set];have h:i<L.length:=by simpa using y
 split
 ·rename_i e
  subst e;rw [Qo,Qi h];rfl
 ·rfl
theorem qa2 (h:List Int) (L:List Tr) (n:Int):(qea h L n).map ks2=L.map ks2:=by
 unfold qea;split
 ·exact qqc L _ n
 ·rfl
theorem qua (L:List Tr) (k:Nat) (n:Int) (i:Nat) (h:i<L.length):(setN L k n).getD i tr0=if i=k then ((L.getD i tr0).1,(L.getD i tr0).2.1,n) else L.getD i tr0:=by
 unfold setN;rw [Qo,List.getElem?_set];by_cases e:k=i
 ·subst e
  rw [Qk rfl,Qk h,Qk rfl];rfl
 ·rw [Qd e,Qd (fun y=>e y.symm),Qo]
theorem qnx (h:List Int) (L:List Tr) (n:Int) (i:Nat) (z:i<L.length):(qea h L n).getD i tr0=if atV h L=some i then ((L.getD i tr0).1,(L.getD i tr0).2.1,n) else L.getD i tr0:=by
 unfold qea;cases y:atV h L with
 | none=>simp
 | some k=>
  simp only [Qz];rw [qua L k n i z];by_cases e:i=k
  ·rw [Qk e,Qk e.symm]
  ·rw [Qd e,Qd (fun y=>e y.symm)]
theorem qat {L C:List Tr} (h:L.map ks2=C.map ks2):L.length=C.length:=by simpa using congrArg List.length h
theorem qbI {L C:List Tr} (G:L.map ks2=C.map ks2) (i:Nat) (y:i<L.length):(L.getD i tr0).1=(C.getD i tr0).1/\(L.getD i tr0).2.1=(C.getD i tr0).2.1:=by
 have E:i<C.length:=by rw [<- qat G];exact y
 have z:=congrArg (fun h=>h[i]?) G;simp only [Za,Qi y,Qi E,Option.map_some,Qz] at z;rw [Qo,Qo,Qi y,Qi E];exact ⟨congrArg (fun h:Int×Int=>h.1) z,congrArg (fun h:Int×Int=>h.2) z⟩
theorem qn3 {L C:List Tr} (y:L.length=C.length) (z:∀ i,i<L.length->L.getD i tr0=C.getD i tr0):L=C:=by
 refine List.ext_getElem y fun i h E=>?_
 have:=z i h;rw [Qo,Qo,Qi h,Qi E] at this;exact this
theorem qbi {ex:Str} {L y:List Tr} {d n:Int} (h:qaZ ex L d n=some y):y.map ks2=L.map ks2/\qcN (varsV ex).1 L d=true/\qcN (varsV ex).2 L n=true/\y=qea (varsV ex).2.1 (qea (varsV ex).1.1 L d) n:=by
 unfold qaZ at h;split at h
 ·rename_i z
  obtain rfl:=Qw h;refine ⟨(qa2 _ _ _).trans (qa2 _ _ _),z.1,?_,rfl⟩;have E:=z.2;unfold qcN at E |-;rw [<- qbt (varsV ex).2.1 (qa2 (varsV ex).1.1 L d)];exact E
 ·cases h
theorem qbn {ex:Str} {L:List Tr} (y:qbx ex L=true) (k:Nat) (h:k<L.length):qdC ex L k=true:=QR.1 y k (QW.2 h)
theorem qfa {ex:Str} {L h:List Tr} {d n:Int} (z:qaZ ex L d n=some h) (i:Nat) (y:i<L.length) :
  h.getD i tr0=if atV (varsV ex).2.1 L=some i then ((L.getD i tr0).1,(L.getD i tr0).2.1,n) else if atV (varsV ex).1.1 L=some i then ((L.getD i tr0).1,(L.getD i tr0).2.1,d) else L.getD i tr0:=by
 obtain ⟨-,-,-,rfl⟩:=qbi z;have E:=qat (qa2 (varsV ex).1.1 L d);rw [qnx _ _ _ _ (by omega),qbt (varsV ex).2.1 (qa2 (varsV ex).1.1 L d),qnx _ _ _ _ y];split
 ·split <;> rfl
 ·rfl
theorem qjB {m ex:Str} {L:List Tr} (U:qbx ex L=true) (s:ByteArray) (C:List Tr):qqr m L ex s C=qa3 m L ex s C:=by
 by_cases V:sB m=s
 rotate_left
 ·unfold qqr qa3 qfU
  rw [Qf V];split <;> simp
 by_cases J:L.map ks2=C.map ks2
 rotate_left
 ·have n:qa3 m L ex s C=false:=by unfold qa3 qfU;rw [Qf J];simp
  rw [n];unfold qqr;cases k:qaZ ex L (qdn (varsV ex).1.1 C) (qdn (varsV ex).2.1 C) with
  | none=>rfl
  | some ag=>
   have ak:=(qbi k).1;have:ag≠C:=(fun am=>J (by rw [<- ak,am]));simp [this]
 have aq:=qat J;have ah:=qbt (varsV ex).1.1 J;have ai:=qbt (varsV ex).2.1 J;rw [Bool.eq_iff_iff];constructor
 ·intro E
  unfold qqr at E;cases k:qaZ ex L (qdn (varsV ex).1.1 C) (qdn (varsV ex).2.1 C) with
  | none=>rw [k] at E;cases E
  | some ag=>
   rw [k] at E;simp only [Qh,Ql] at E;obtain rfl:=E.2;unfold qa3 qfU;rw [Qn V,Qn J];simp only [Bool.and_self,Bool.true_and,QR,QW];intro h z;have af:h<L.length:=(by omega);have G:=qfa k h af;have e:=qbn U h af;obtain ⟨-,K,M,-⟩:=qbi k;unfold qhV;unfold qdC at e;by_cases i:atV (varsV ex).1.1 L=some h
   ·rw [Qk i] at e
    simp only [Qh,beq_iff_eq,Ql] at e;rw [e.1.1,Qd (by decide),qaY,<- e.1.2];rw [Qd e.2,Qk i] at G;unfold qcN at K;rw [i] at K;rw [G];exact K
   ·rw [Qd i] at e
    by_cases n:atV (varsV ex).2.1 L=some h
    ·rw [Qk n] at e
     simp only [Qh,Zn,Ql] at e;rw [Qd e.1.2,qaY,<- e.2];rw [Qk n] at G;unfold qcN at M;rw [n] at M;rw [G];exact M
    ·rw [Qd n] at e
     rw [Qk (by simpa using e)];rw [Qd n,Qd i] at G;rw [G];exact Qn rfl
 ·intro E
  unfold qa3 qfU at E;simp only [Qh,QR,QW] at E;have Z:∀ h,h<L.length->qhV ex L h (C.getD h tr0)=true:=fun h z=>E.2 h (by omega)
  have ae:∀ h,atV (varsV ex).1.1 L=some h->qdn (varsV ex).1.1 C=(C.getD h tr0).2.2:=fun h z=>by unfold qdn;rw [<- ah,z]
  have ad:∀ h,atV (varsV ex).2.1 L=some h->qdn (varsV ex).2.1 C=(C.getD h tr0).2.2:=fun h z=>by unfold qdn;rw [<- ai,z]
  have K:qcN (varsV ex).1 L (qdn (varsV ex).1.1 C)=true:=by
   unfold qcN;cases i:atV (varsV ex).1.1 L with
   | none=>simp only;unfold qdn;rw [<- ah,i];exact Qn rfl
   | some h=>
    have z:=qdy i;have e:=qbn U h z;have k:=Z h z;unfold qdC at e;rw [Qk i] at e;simp only [Qh,beq_iff_eq,Ql] at e;unfold qhV at k;rw [e.1.1,Qd (by decide),qaY,<- e.1.2,<- ae h i] at k;exact k
  have M:qcN (varsV ex).2 (qea (varsV ex).1.1 L (qdn (varsV ex).1.1 C)) (qdn (varsV ex).2.1 C)=true:=by
   unfold qcN;rw [qbt (varsV ex).2.1 (qa2 (varsV ex).1.1 L _)];cases n:atV (varsV ex).2.1 L with
   | none=>simp only;unfold qdn;rw [<- ai,n];exact Qn rfl
   | some h=>
    have z:=qdy n;have e:=qbn U h z;have k:=Z h z;unfold qdC at e;have i:¬atV (varsV ex).1.1 L=some h:=fun i=>by
     rw [Qk i] at e;simp only [Qh,Ql] at e;exact e.2 n
    rw [Qd i,Qk n] at e;simp only [Qh,Zn,Ql] at e;unfold qhV at k;rw [Qd e.1.2,qaY,<- e.2,<- ad h n] at k;exact k
  have k:qaZ ex L (qdn (varsV ex).1.1 C) (qdn (varsV ex).2.1 C)=some (qea (varsV ex).2.1 (qea (varsV ex).1.1 L (qdn (varsV ex).1.1 C)) (qdn (varsV ex).2.1 C)):=by
   unfold qaZ;rw [Qk ⟨K,M⟩]
  unfold qqr;rw [k];simp only [Qh,Ql];refine ⟨V,?_⟩;have an:=(qbi k).1;have ar:=qat an;refine qn3 (by omega) fun y ap=>?_
  have O:y<L.length:=by omega
  have G:=qfa k y O;have aj:=qbI J y O;rw [G];have e:=qbn U y O;have aa:=Z y O;unfold qdC at e;have ab:∀ ac:Int,(C.getD y tr0).2.2=ac->((L.getD y tr0).1,(L.getD y tr0).2.1,ac)=C.getD y tr0:=fun ac ao=>by rw [aj.1,aj.2,<- ao]
  by_cases n:atV (varsV ex).2.1 L=some y
  ·rw [Qk n]
   exact ab _ (ad y n).symm
  ·rw [Qd n]
   by_cases i:atV (varsV ex).1.1 L=some y
   ·rw [Qk i]
    exact ab _ (ae y i).symm
   ·rw [Qd i]
    rw [Qd i,Qd n] at e;unfold qhV at aa;rw [Qk (by simpa using e)] at aa;have:=Qt aa;exact ab _ this.symm
def nmL:Nat->List ByteArray
 | 1=>[⟨#[66]⟩,⟨#[67]⟩,⟨#[68]⟩,⟨#[69]⟩,⟨#[72]⟩,⟨#[76]⟩,⟨#[]⟩,⟨#[65]⟩]
 | 2=>[⟨#[73,88,72]⟩,⟨#[73,88,76]⟩,⟨#[73,89,72]⟩,⟨#[73,89,76]⟩]
 | 3=>[⟨#[66,67]⟩,⟨#[68,69]⟩,⟨#[72,76]⟩,⟨#[83,80]⟩,⟨#[65,70]⟩,⟨#[73,88]⟩,⟨#[73,89]⟩,⟨#[65,70,39]⟩]
 | 4=>[⟨#[66,67]⟩,⟨#[68,69]⟩,⟨#[72,76]⟩,⟨#[83,80]⟩,⟨#[]⟩,⟨#[73,88]⟩,⟨#[73,89]⟩,⟨#[]⟩,⟨#[67]⟩]
 | 5=>[⟨#[]⟩,⟨#[]⟩,⟨#[]⟩,⟨#[]⟩,⟨#[]⟩,⟨#[73,88]⟩,⟨#[73,89]⟩]
 | 8=>[⟨#[78,90]⟩,⟨#[90]⟩,⟨#[78,67]⟩,⟨#[67]⟩,⟨#[80,79]⟩,⟨#[80,69]⟩,⟨#[80]⟩,⟨#[77]⟩]
 | 9=>[⟨#[73]⟩,⟨#[82]⟩]
 | _=>[]
def atS (L:List ByteArray) (r:Int):ByteArray:=if 0<=r then L.getD r.toNat ⟨#[]⟩ else ⟨#[]⟩
def neB (s:ByteArray):Bool:=!s.toList.isEmpty
theorem qrj (L:List ByteArray) (k:Nat) (h:k<L.length):atS L (k:Int)=L[k]:=by
 unfold atS;rw [Qk (by omega),Qo,Int.toNat_natCast,Qi h];rfl
theorem qej (L:List ByteArray) (r:Int) (h:r<0\/(L.length:Int)<=r):atS L r=⟨#[]⟩:=by
 unfold atS;split
 ·rw [Qo,List.getElem?_eq_none (by omega)];rfl
 ·rfl
def nmS (k:Nat) (r:Int):ByteArray:=atS (nmL k) r
theorem qzb (L:List ByteArray) (r:Int):atS L r=⟨#[]⟩\/atS L r∈L:=by
 by_cases k:0<=r/\r<(L.length:Int)
 ·right
  obtain ⟨h,rfl⟩:∃ h:Nat,r=h:=⟨r.toNat,by omega⟩;rw [qrj L h (by omega)];exact QB _
 ·left;exact qej L r (by omega)
theorem qb1 (w:World) (L:List ByteArray) (t:TypeId):∀ j (h:j<L.length),(w.alloc (.cells (L.map Value.string).toArray t)).cell? ⟨w.heap.size,j,none⟩=some (.string L[j]):=by
 intro j h;simp [go_sem,h]
def qew (w:World) (A:Option Addr) (L:List ByteArray):Prop:=L=[]\/∃ h j,A=some ⟨h,j,none⟩/\∀ b (y:b<L.length),w.cell? ⟨h,j+b,none⟩=some (.string L[b])
theorem qew.at_ {w:World} {A:Option Addr} {L:List ByteArray} (E:qew w A L) {k:Nat} (y:k<L.length):∃ b h,A=some ⟨b,h,none⟩/\w.cell? ⟨b,h+k,none⟩=some (.string L[k]):=by
 rcases E with rfl | ⟨b,h,rfl,z⟩
 ·simp at y
 ·exact ⟨b,h,rfl,z k y⟩
theorem qew.below {w w':World} {A:Option Addr} {L:List ByteArray} (z:qew w A L) (G:Below w.heap.size w w'):qew w' A L:=by
 rcases z with rfl | ⟨y,E,rfl,b⟩
 ·exact .inl rfl
 ·exact .inr ⟨y,E,rfl,fun h j=>(G.cell (Qp w _ (b h j))).trans (b h j)⟩
def ql1 (w:World) (L:List ByteArray) (e:Ending) (w':World):Prop:=∃ h y,e=.returned (.slice h L.length y)/\qew w' h L/\Below w.heap.size w w'
theorem qaJ (w:World) (L:List ByteArray) (t:TypeId):qew (w.alloc (.cells (L.map Value.string).toArray t)) (some ⟨w.heap.size,0,none⟩) L:=
 .inr ⟨_,0,rfl,fun h j=>by rw [QS];exact qb1 w L t h j⟩
theorem qcF (h y n:Int) (z:h<=n) (E:n<=y):qcL h y [n]=true:=by simp [qcL];omega
theorem qgo (h y n:Int) (z:n<h\/y<n):qcL h y [n]=false:=by simp [qcL];omega
theorem qcp (e h x:Int) (b:Nat) (q:Bool) (G:qcL e h [x]=q) (w:World) (y:w.cell? ⟨b,0,none⟩=some (.int .i64 x)) :
  Calls prog 103 #[.int .i64 e,.int .i64 h,.slice (some ⟨b,0,none⟩) 1 1] w fun j J=>j=.returned (.bool q)/\w=J:=by
 subst G;refine fits_any e h _ 1 [x] (by simp [maxLen]) w (.inr ⟨b,0,rfl,fun z E=>?_⟩);obtain rfl:z=0:=by simp at E;omega
 exact y
theorem qqL:neB ⟨#[]⟩=false:=by decide +kernel
theorem qhr (r:Int) (b cap n:Nat) (L:List ByteArray) (U:n=L.length) (M:L.length<=100) (w:World) (s:∀ j (G:j<L.length),w.cell? ⟨b,j,none⟩=some (.string L[j])) :
  Calls prog 282 #[.int .i64 r,.slice (some ⟨b,0,none⟩) n cap] w fun z J=>z=.returned (.tuple #[.string (atS L r),.bool (neB (atS L r))])/\Below w.heap.size w J:=by
 by_cases G:0<=r/\r<(L.length:Int)
 ·obtain ⟨e,rfl⟩:∃ e:Nat,r=e:=⟨r.toNat,by omega⟩
  have E:e<L.length:=by omega
  have o:=s e E;have h:=qrj L e E;have k:=qcF 0 ((n:Int) - 1) (e:Int) (by omega) (by omega);obtain ⟨V,K⟩:=N9 (L[e]);rw [K] at o h;rw [h];have aa:e<n:=by omega
  have Z:n<=100:=by omega
  have O:=Qp w _ o;have ab:∀ y,(w.alloc y).cell? ⟨b,e,none⟩=some (.string V):=fun y=>(World.cell?_alloc_lt w y _ O).trans o
  clear s G E h K U M o O
  go_enter func282,ntmps282
  go_wp2_with fail
  refine (fits_any 0 ((n:Int) - 1) _ _ [(e:Int)] (by simp [maxLen]) _ (ints_one _ _ _)).mono ?_;rintro z J ⟨rfl,rfl⟩;rw [k];clear k;go_wp2
  go_quiet (fail)
  go_wp2
  go_ret2
  exact ⟨rfl,(B0).trans (below_drewN _ _ _)⟩
 ·have h:=qej L r (by omega)
  have k:=qgo 0 ((n:Int) - 1) r (by omega);rw [h,qqL];have Z:n<=100:=by omega
  clear s G h U M
  go_enter func282,ntmps282
  go_wp2_with fail
  refine (fits_any 0 ((n:Int) - 1) _ _ [r] (by simp [maxLen]) _ (ints_one _ _ _)).mono ?_;rintro z J ⟨rfl,rfl⟩;rw [k];clear k;go_wp2
  go_ret2
  exact ⟨rfl,(B0)⟩
theorem qrB (r:Int) (w:World) :
  Calls prog 250 #[.int .i64 r] w fun e y=>e=.returned (.tuple #[.string (nmS 1 r),.bool (neB (nmS 1 r))])/\Below w.heap.size w y:=by
 go_enter func250,ntmps250
 go_wp2_with fail
 refine (qhr r _ _ _ (nmL 1) rfl (by decide) _ (qb1 w (nmL 1) 9)).mono ?_;rintro e y ⟨rfl,h⟩;have z:=J9 ((B0).trans (h.mono (by simp)));clear h;go_wp2
 go_ret2
 exact ⟨rfl,z.o⟩
theorem qki (r:Int) (w:World) :
  Calls prog 252 #[.int .i64 r] w fun e y=>e=.returned (.tuple #[.string (nmS 2 r),.bool (neB (nmS 2 r))])/\Below w.heap.size w y:=by
 go_enter func252,ntmps252
 go_wp2_with fail
 refine (qhr r _ _ _ (nmL 2) rfl (by decide) _ (qb1 w (nmL 2) 9)).mono ?_;rintro e y ⟨rfl,h⟩;have z:=J9 ((B0).trans (h.mono (by simp)));clear h;go_wp2
 go_ret2
 exact ⟨rfl,z.o⟩
theorem qoZ (r:Int) (w:World) :
  Calls prog 253 #[.int .i64 r] w fun e y=>e=.returned (.tuple #[.string (nmS 3 r),.bool (neB (nmS 3 r))])/\Below w.heap.size w y:=by
 go_enter func253,ntmps253
 go_wp2_with fail
 refine (qhr r _ _ _ (nmL 3) rfl (by decide) _ (qb1 w (nmL 3) 9)).mono ?_;rintro e y ⟨rfl,h⟩;have z:=J9 ((B0).trans (h.mono (by simp)));clear h;go_wp2
 go_ret2
 exact ⟨rfl,z.o⟩
theorem qhb (r:Int) (w:World) :
  Calls prog 254 #[.int .i64 r] w fun e y=>e=.returned (.tuple #[.string (nmS 4 r),.bool (neB (nmS 4 r))])/\Below w.heap.size w y:=by
 go_enter func254,ntmps254
 go_wp2_with fail
 refine (qhr r _ _ _ (nmL 4) rfl (by decide) _ (qb1 w (nmL 4) 9)).mono ?_;rintro e y ⟨rfl,h⟩;have z:=J9 ((B0).trans (h.mono (by simp)));clear h;go_wp2
 go_ret2
 exact ⟨rfl,z.o⟩
theorem qi1 (r:Int) (w:World) :
  Calls prog 256 #[.int .i64 r] w fun e y=>e=.returned (.tuple #[.string (nmS 5 r),.bool (neB (nmS 5 r))])/\Below w.heap.size w y:=by
 go_enter func256,ntmps256
 go_wp2_with fail
 refine (qhr r _ _ _ (nmL 5) rfl (by decide) _ (qb1 w (nmL 5) 9)).mono ?_;rintro e y ⟨rfl,h⟩;have z:=J9 ((B0).trans (h.mono (by simp)));clear h;go_wp2
 go_ret2
 exact ⟨rfl,z.o⟩
theorem qfy (r:Int) (w:World) :
  Calls prog 261 #[.int .i64 r] w fun e y=>e=.returned (.tuple #[.string (nmS 8 r),.bool (neB (nmS 8 r))])/\Below w.heap.size w y:=by
 go_enter func261,ntmps261
 go_wp2_with fail
 refine (qhr r _ _ _ (nmL 8) rfl (by decide) _ (qb1 w (nmL 8) 9)).mono ?_;rintro e y ⟨rfl,h⟩;have z:=J9 ((B0).trans (h.mono (by simp)));clear h;go_wp2
 go_ret2
 exact ⟨rfl,z.o⟩
theorem qhF (r:Int) (w:World) :
  Calls prog 262 #[.int .i64 r] w fun e y=>e=.returned (.tuple #[.string (nmS 9 r),.bool (neB (nmS 9 r))])/\Below w.heap.size w y:=by
 go_enter func262,ntmps262
 go_wp2_with fail
 refine (qhr r _ _ _ (nmL 9) rfl (by decide) _ (qb1 w (nmL 9) 9)).mono ?_;rintro e y ⟨rfl,h⟩;have z:=J9 ((B0).trans (h.mono (by simp)));clear h;go_wp2
 go_ret2
 exact ⟨rfl,z.o⟩
theorem qfF (r:Int) (w:World) :
  Calls prog 258 #[.int .i64 r] w fun e h=>e=.returned (.tuple #[.string ⟨#[]⟩,.bool (r == 0)])/\w=h:=by
 go_enter func258,ntmps258
 go_wp2
 go_ret2
 exact ⟨rfl,rfl⟩
def KsP (w:World) (A:Option Addr) (L:List Int):Prop:=L=[]\/∃ h k,A=some ⟨h,k,none⟩/\∀ b (y:b<L.length),w.cell? ⟨h,k+b,none⟩=some (.int .i64 L[b])
theorem KsP.below {w w':World} {A:Option Addr} {L:List Int} (z:KsP w A L) (G:Below w.heap.size w w'):KsP w' A L:=by
 rcases z with rfl | ⟨y,E,rfl,b⟩
 ·exact .inl rfl
 ·exact .inr ⟨y,E,rfl,fun h k=>(G.cell (Qp w _ (b h k))).trans (b h k)⟩
theorem KsP.at_ {w:World} {A:Option Addr} {L:List Int} (E:KsP w A L) {k:Nat} (y:k<L.length):∃ b h,A=some ⟨b,h,none⟩/\w.cell? ⟨b,h+k,none⟩=some (.int .i64 L[k]):=by
 rcases E with rfl | ⟨b,h,rfl,z⟩
 ·simp at y
 ·exact ⟨b,h,rfl,z k y⟩
theorem qpC (A:Option Addr) (c n:Nat) (L:List Int) (K:L.length=n) (af:n<=1000) (x:Int) (w:World) (H:KsP w A L) :
  Calls prog 49 #[.slice A n c,.int .i64 x] w fun e X=>(∃ i:Int,e=.returned (.int .i64 i)/\decide (0<=i)=decide (x∈L))/\X=w:=by
 have V:=J9 H;have J:=J9 K;clear H K
 go_enter func49,ntmps49
 go_wp2
 go_loopw [8] (fun i wr=>∃ h:Nat,h<=n/\i=.int .i64 h/\Hid (∀ a,a<h->∀ (G:a<L.length),L[a]≠x)/\Hid (wr=w)) (fun i _=>n - (intOf i).toNat)
 case atStart=>exact ⟨0,Qs _,rfl,fun a ag=>by omega,rfl⟩
 case round=>
  obtain ⟨h,ab,rfl,k,y⟩:=hrel;by_cases ae:h<n
  ·have z:h<L.length:=by have:=J.o;omega
   obtain ⟨aa,ac,T,E⟩:=V.o.at_ z;rw [<- y.o] at E;subst T;by_cases j:L[h]=x
   ·have B:Hid (x∈L):=j ▸ QB z
    have R:=j.symm;rw [j] at E;clear j R z k;go_wp2;go_ret;exact ⟨⟨_,rfl,by rw [Qn B.o];exact Qn (by omega)⟩,y.o⟩
   ·have R2:Hid (∀ a,a<h+1->∀ (G:a<L.length),L[a]≠x):=fun a O G=>by
     by_cases e:a=h
     ·subst e;exact j
     ·exact k.o a (by omega) G
    obtain ⟨U,M⟩:=N9 (L[h]);rw [M] at E j;have ad:(x == U)=false:=Qj.2 fun e=>j e.symm
    clear M j z k;go_wp2;go_roundw
    case rel=>exact ⟨h+1,by omega,by go_num,R2.o,y.o⟩
    case measure=>simp [intOf];omega
  ·have B:Hid (x∉L):=fun Z=>by
    obtain ⟨a,O,j⟩:=Zg Z;exact k.o a (by have:=J.o;omega) O j
   clear k;go_wp2;go_ret;exact ⟨⟨_,rfl,by rw [Qf B.o];rfl⟩,y.o⟩
theorem qe8 (A:Option Addr) (c n:Nat) (L:List Int) (q:L.length=n) (E:n<=1000) (x:Int) (w:World) (H:KsP w A L) :
  Calls prog 21 #[.slice A n c,.int .i64 x] w fun h G=>h=.returned (.bool (decide (x∈L)))/\G=w:=by
 have e:=J9 (qpC A c n L q E x w H);obtain ⟨J,y⟩:=N9 (decide (x∈L));rw [y] at e |-;clear H y q
 go_enter func21,ntmps21
 go_wp2_with fail
 refine e.o.mono ?_;rintro h M ⟨⟨K,rfl,i⟩,rfl⟩;have z:=J9 i;clear e;clear i;go_wp2;go_ret;exact ⟨qaa z.o,rfl⟩
def qeB (w:World) (v:Value) (x:Vr):Prop:=∃ h A y z E,v=.agg #[.func (.func 279) #[] #[.pointer (some ⟨h,0,none⟩)],.func (.func 280) #[] #[.pointer (some ⟨A,0,none⟩),.pointer (some ⟨y,0,none⟩)]]/\
 Boxed w h 33 (.slice z x.1.length E)/\KsP w z x.1/\Boxed w A 3 (.int .i64 x.2.1)/\Boxed w y 3 (.int .i64 x.2.2)/\x.1.length<=1000
theorem Boxed.under {w w':World} {b:Nat} {t:TypeId} {v:Value} (h:Boxed w b t v) (y:Below w.heap.size w w'):Boxed w' b t v:=(y.block b h.lt).trans h
theorem qeB.below {w w':World} {v:Value} {x:Vr} (K:qeB w v x) (h:Below w.heap.size w w'):qeB w' v x:=by
 obtain ⟨y,J,A,z,M,rfl,V,U,E,G,O⟩:=K;exact ⟨y,J,A,z,M,rfl,Boxed.under V h,U.below h,Boxed.under E h,Boxed.under G h,O⟩
theorem qbA (A:Option Addr) (n cap:Nat) (w:World):Calls prog 245 #[.slice A n cap] w fun e h=>e=.returned (.func (.func 279) #[] #[.pointer (some ⟨w.heap.size,0,none⟩)])/\w.alloc (.cells #[.slice A n cap] 33)=h:=by
 go_enter func245,ntmps245
 go_wp2;go_ret;exact ⟨rfl,rfl⟩
theorem qb5 (e h:Int) (w:World):Calls prog 246 #[.int .i64 e,.int .i64 h] w fun y z=>y=.returned (.func (.func 280) #[] #[.pointer (some ⟨w.heap.size,0,none⟩),.pointer (some ⟨w.heap.size+1,0,none⟩)])/\(w.alloc (.cells #[.int .i64 e] 3)).alloc (.cells #[.int .i64 h] 3)=z:=by
 go_enter func246,ntmps246
 go_wp2;go_ret;exact ⟨rfl,rfl⟩
theorem qug (z:Nat) (A:Option Addr) (cap n:Nat) (L:List Int) (O:L.length=n) (Z:n<=1000) (t:Tr) (w:World) (C:Boxed w z 33 (.slice A n cap)) (K:KsP w A L) :
  Calls prog 279 #[.agg #[.int .i64 t.1,.int .i64 t.2.1,.int .i64 t.2.2],.pointer (some ⟨z,0,none⟩)] w fun M ab=>M=.returned (.bool (decide (t.1∈L)))/\Below w.heap.size w ab:=by
 obtain ⟨e,h,q⟩:=t;simp only;have y:Below w.heap.size w (w.alloc (.cells #[.int .i64 e,.int .i64 h,.int .i64 q] 57)):=B0;have E:=J9 (qe8 A cap n L O Z e _ (K.below y));have aa:=(Boxed.under C y).cell;have ae:z≠w.heap.size:=by have:=C.lt;omega
 have J:=J9 y;obtain ⟨af,U⟩:=N9 (decide (e∈L));rw [U] at E |-;obtain ⟨ad,G⟩:=N9 (w.alloc (.cells #[.int .i64 e,.int .i64 h,.int .i64 q] 57));have B:(w.alloc (.cells #[.int .i64 e,.int .i64 h,.int .i64 q] 57)).heap[w.heap.size]?=some (.cells #[.int .i64 e,.int .i64 h,.int .i64 q] 57 (0,0)):=World.alloc_heap_new w _;rw [G] at aa B E J;have ac:=C9 B 0;have V:=J9 G;clear y C K U O B G
 go_enter func279,ntmps279
 go_upto_region 1 with fail
 rw [V.o]
 go_wp2_with fail
 refine E.o.mono ?_;rintro M ag ⟨rfl,rfl⟩;go_wp2;go_ret;exact ⟨rfl,J.o⟩
theorem qzj (v:Vr) (n:Int):qcL v.2.1 v.2.2 [n]=inV v n:=by
 unfold inV;by_cases h:v.2.1<=n/\n<=v.2.2
 ·rw [qcF _ _ _ h.1 h.2,Qn h.1,Qn h.2];rfl
 ·rw [qgo _ _ _ (by omega)]
  by_cases y:v.2.1<=n
  ·rw [Qn y,Qf (fun z=>h ⟨y,z⟩)];rfl
  ·rw [Qf y];rfl
theorem qo9 (q h:Nat) (v:Vr) (n:Int) (w:World) (C:Boxed w q 3 (.int .i64 v.2.1)) (B:Boxed w h 3 (.int .i64 v.2.2)) :
  Calls prog 280 #[.int .i64 n,.pointer (some ⟨q,0,none⟩),.pointer (some ⟨h,0,none⟩)] w fun e J=>e=.returned (.bool (inV v n))/\Below w.heap.size w J:=by
 have E:Below w.heap.size w (w.alloc (.cells #[.int .i64 n] 3)):=B0;have z:=J9 (qcp v.2.1 v.2.2 n w.heap.size (inV v n) (qzj v n) (w.alloc (.cells #[.int .i64 n] 3)) (by simp [go_sem]));have G:=J9 E;have U:=C.cell;have O:=B.cell;obtain ⟨K,y⟩:=N9 (inV v n);rw [y] at z |-;clear E C B y
 go_enter func280,ntmps280
 go_wp2_with fail
 refine z.o.mono ?_;rintro e M ⟨rfl,rfl⟩;go_wp2;go_ret;exact ⟨rfl,G.o⟩
end Go.Proofs.YtjafbmfcedijmaaGreatDoor
namespace Go.Fr
open Go Go.RowKit
structure F where
 p:World->Prop
 up:∀ {w w':World},p w->Below w.heap.size w w'->p w'
def St (w:World):List F->Prop
 | []=>True
 | f :: h=>f.p w/\St w h
theorem St.up {w w':World}:∀ {l:List F},St w l->Below w.heap.size w w'->St w' l
 | [],_,_=>trivial
 | f :: _,h,y=>⟨f.up h.1 y,St.up h.2 y⟩
theorem up {w w':World} {l:List F} (h:Hid (St w l)) (y:Below w.heap.size w w'):Hid (St w' l):=St.up (l:=l) h y
theorem add {w:World} {l:List F} (h:Hid (St w l)) (f:F) (y:f.p w):Hid (St w (f :: l)):=⟨y,h⟩
theorem nil (w:World):Hid (St w []):=trivial
def blk (b:Nat) (o:Obj):F:=⟨fun w=>w.heap[b]?=some o,fun h y=>(y.block _ (Qb.1 h).1).trans h⟩
def bel (n:Nat) (w0:World):F:=⟨fun w=>Below n w0 w/\n<=w.heap.size,fun h y=>⟨h.1.trans (y.mono h.2),Qm h.2 y.size⟩⟩
def sz (n:Nat):F:=⟨fun h=>n<=h.heap.size,fun y w=>Qm y w.size⟩
theorem start (w:World) (n:Nat) (h:w.heap.size=n):Hid (St w [bel n w]):=⟨⟨Qc _ _,Nat.le_of_eq h.symm⟩,trivial⟩
theorem box {w:World} {l:List F} (y:Hid (St w l)) (cs:Array Value) (t:TypeId):∃ b w2,w.heap.size=b/\w.alloc (.cells cs t)=w2/\Hid (St w2 (blk b (.cells cs t (0,0)) :: l))/\Below w.heap.size w w2/\w2.heap.size=b+1:=
 have h:Below w.heap.size w (w.alloc (.cells cs t)):=(B0 (w:=w))
 ⟨_,_,rfl,rfl,add (up y h) (blk w.heap.size _) (World.alloc_heap_new w _),h,by simp⟩
theorem qEc {w:World} {b:Nat} {y h:Value} {T:TypeId} {E:Nat×Nat} (z:w.heap[b]?=some (.cells #[y,h] T E)):w.cell? ⟨b,0,none⟩=some y/\w.cell? ⟨b,1,none⟩=some h:=⟨C9 z 0,C9 z 1⟩
theorem cells3 {w:World} {b:Nat} {E y z:Value} {T:TypeId} {G:Nat×Nat} (h:w.heap[b]?=some (.cells #[E,y,z] T G)):w.cell? ⟨b,0,none⟩=some E/\w.cell? ⟨b,1,none⟩=some y/\w.cell? ⟨b,2,none⟩=some z:=⟨C9 h 0,C9 h 1,C9 h 2⟩
end Go.Fr
namespace Go.Stops
open Go Go.RowKit
def qE7 {l:Type} (F:Fence) (n:Nat) (P:Program) (g:Nat) (lb:Array Value) (U:l->Array Value) (M:List l->l->World->Prop) (O:World->World->Prop) (S:List l->Prop) (w:World):Prop:=
 ∀ (J:Nat) (v E:List l->World->Prop) (x:World),Below w.heap.size w x->AbidesFrom x.heap.size v->
  (∀ e y W1,v e W1->M e y W1->YieldAt F (n - 1) P J (U y) W1 fun z h=>(z=.returned (.bool true)/\v (e++[y]) h/\O W1 h)\/(z=.returned (.bool false)/\E (e++[y]) h))->
  AbidesFrom x.heap.size E->v [] x->CallsIn F n P g (#[.func (.yield J) #[] #[]]++lb) x fun z h=>(∃ K,z=.returned K)/\((∃ G,S G/\v G h)\/∃ e,E e h)
variable {F:Fence} {n:Nat} {P:Program}
theorem qEN {j:Type} {g:Operand} {ps:Array Tmp} {assign body:Code} {Q:Exit->Act->World->Prop} {a:Act} {w:World} (aH:F.round=none) (aY:1<=n)
  {gf:Nat} {lb:Array Value} (aK:a.eval g=.func (.func gf) #[] lb) (aQ:F.fn gf) (aC:∀ args w,(callFunc gf args).run P w=.ok (.enter gf args) w)
  {ac:j->Array Value} {aw:List j->j->World->Prop} {G:World->World->Prop} {S:List j->Prop} (a3:qE7 F (n - 1) P gf lb ac aw G S w)
  (ag:∀ {A B C:World},G A B->G B C->G A C) (au:∀ (W:World) (l:Nat) (o aI:Obj),w.heap.size<=l->W.heap[l]?=some o->o.isCells=false->G W (W.putObj l aI)) (aJ:∀ x,(ac x).size=ps.size)
  (I af:List j->World->Prop) (V:OwnFrom w.heap.size I) (ah:OwnFrom w.heap.size af) (a4:I [] w) (ad:List j->j->Act->World->Prop) (aO:∀ p x,OwnFrom w.heap.size (ad p x))
  (aR:∀ (l:Nat) (e:List j) (x:j) (W:World) (ap:Act->World->Prop),I e W->aw e x W->(∀ J aa,KeepsFrom w.heap.size W aa->G W aa->I e aa->ad e x J aa->ap J aa)->
   assign.wpIn (F.inRound l) (n - 1 - 1) P (Exit.then ap (fun _ _ _=>False)) {tmps:=(ps.zip (ac x)).foldl (fun t (p,v)=>t.setIfInBounds p v) a.tmps,defers:=[]} W)
  (aZ:∀ (l:Nat) (e:List j) (x:j) (J:Act) (W:World),I e W->ad e x J W->body.wpIn (F.inRound l) (n - 1 - 1) P (qoj w.heap.size G I af (e++[x]) W) J W)
  (aE:∀ (D:Nat) (xs:List j) (W:World),w.heap.size<=D->S xs->I xs W->W.heap[D]?=some (.deferred (some []))->Q .normal {a with defers:={target:=.collected D,args:=#[]} :: a.defers} W)
  (aB:∀ (D:Nat) (e:List j) (W:World),w.heap.size<=D->af e W->W.heap[D]?=some (.deferred (some []))->Code.ret.wpIn F n P Q {a with defers:={target:=.collected D,args:=#[]} :: a.defers} W) :
  (Code.rangeFunc g ps assign body).wpIn F n P Q a w:=by
 refine wpIn_rangeFunc fun fn a0=>?_
 rw [aH];let r:LoopState->Option Code->Loop:=fun aD aP=>{state:=aD,pending:=aP,fn:=fn,tmps:=a.tmps,params:=ps,assign:=assign,body:=body,defers:=w.heap.size}
 let B:World:=(w.alloc (.deferred (some []))).alloc (.loop (r .ready none));have a5:B.heap[w.heap.size]?=some (.deferred (some [])):=(Below.heap_alloc _ _ _ (by simp)).trans (World.alloc_heap_new w _);have a2:B.heap[w.heap.size+1]?=some (.loop (r .ready none)):=by
  have a6:=World.alloc_heap_new (w.alloc (.deferred (some []))) (.loop (r .ready none))
  rwa [QL] at a6
 have aF:I [] B:=V.alloc _ (V.alloc _ a4);have aM:Below w.heap.size w B:=((B0 (w:=w))).alloc (by simp) _;have a7:B.heap.size=w.heap.size+1+1:=by simp [B]
 -- what a turn of a walk of the iterator's own leaves of the two blocks
 have walk:∀ {s Y:World} {row:Option Nat} {am:Nat} {o:Obj},s.grownBy Y row->(∀ h,row=some h->B.heap.size<=h/\∃ o:Obj,s.heap[h]?=some o/\o.isWalk=true)->s.heap[am]?=some o->am<w.heap.size+2->Y.heap[am]?=some o:=fun y k ax bb=>
  (y.block _ (Qb.1 ax).1 fun ae=>by have:=(k _ ae.symm).1;omega).trans ax
 have ao:∀ {s Y:World} {row:Option Nat},(∀ h,row=some h->B.heap.size<=h/\∃ o:Obj,s.heap[h]?=some o/\o.isWalk=true)->(∀ h,row=some h->w.heap.size<=h/\∃ o:Obj,s.heap[h]?=some o/\o.isCells=false):=fun k h ae=>by
  obtain ⟨a8,o,aL,a1⟩:=k h ae;exact ⟨by omega,o,aL,Obj.not_cells_of_walk a1⟩
 refine ⟨w.heap.size+1,[{target:=.collected w.heap.size,args:=#[]}],B,{target:=.fn (.func gf) lb,args:=#[.func (.yield (w.heap.size+1)) #[] #[]]},B,gf,#[.func (.yield (w.heap.size+1)) #[] #[]]++lb,B,
  run_enterLoop_outer _ _ _ _ _,by simp only [resolve,aK];simp [go_sem],fun bc an=>by simp [Target.leads] at an;subst an;exact aQ,by simp [invoke,go_sem,aC],fun _=>aY,?_⟩
 refine (a3 (w.heap.size+1) (fun e W=>I e W/\W.heap[w.heap.size+1]?=some (.loop (r .ready none))/\W.heap[w.heap.size]?=some (.deferred (some [])))
  (fun e W=>af e W/\W.heap[w.heap.size+1]?=some (.loop (r .done (some .ret)))/\W.heap[w.heap.size]?=some (.deferred (some []))) B aM ?_ ?_ ?_ ⟨aF,a2,a5⟩).mono ?_
 ·rintro aj s Y row ⟨X,R,Z⟩ y k
  exact ⟨V aj s Y row X y (ao (Y:=Y) k),walk y k R (by omega),walk y k Z (by omega)⟩
 ·rintro e x W ⟨X,R,Z⟩ aU
  refine ⟨fn,_,assign,body,run_yield (P:=P) (args:=ac x) R (aJ x),roundIn_of_wpIn a0 (aR _ e x W _ X aU fun J ai ar aV aW aX=>?_)⟩;have ab:=ar.same _ _ (by omega) R rfl;have aG:=ar.same _ _ (Qa _) Z rfl;have az:w.heap.size+1<ai.heap.size:=(Qb.1 ab).1;refine ⟨_,run_beginRound ab rfl,?_⟩;obtain ⟨O,U⟩:=N9 (ai.putObj (w.heap.size+1) (.loop {r .ready none with state:=.busy}));have av:O.heap[w.heap.size+1]?=some (.loop {r .ready none with state:=.busy}):=U ▸ World.putObj_heap_same az;have aq:O.heap[w.heap.size]?=some (.deferred (some [])):=U ▸ (World.putObj_heap_other (by omega)).trans aG;have ay:I e O:=U ▸ V.putObj _ aW (by omega) ab rfl;have aS:ad e x J O:=U ▸ (aO e x).putObj _ aX (by omega) ab rfl;have aT:G W O:=ag aV (U ▸ au _ _ _ _ (by omega) ab rfl);show body.wpIn _ _ _ _ _ (ai.putObj (w.heap.size+1) (.loop {r .ready none with state:=.busy}));rw [U];refine wpIn_mono (aZ _ e x J O ay aS) ?_;rintro (_ | _ | _ | _ | _ | _) a9 aN ak
  case normal=>
   obtain ⟨z,M,K⟩:=ak;have E:=z.same _ _ (by omega) av rfl;exact ⟨_,_,run_endRound (P:=P) none E,.inl ⟨rfl,⟨V.putObj _ K (by omega) E rfl,World.putObj_heap_same (Qb.1 E).1,(World.putObj_heap_other (by omega)).trans (z.same _ _ (Qa _) aq rfl)⟩,ag (ag aT M) (au _ _ _ _ (by omega) E rfl)⟩⟩
  case ret=>
   obtain ⟨z,K⟩:=ak;have E:=z.same _ _ (by omega) av rfl;exact ⟨_,_,run_endRound (P:=P) (some .ret) E,.inr ⟨rfl,ah.putObj _ K (by omega) E rfl,World.putObj_heap_same (Qb.1 E).1,(World.putObj_heap_other (by omega)).trans (z.same _ _ (Qa _) aq rfl)⟩⟩
  all_goals exact ak.elim
 ·rintro aj s Y row ⟨X,R,Z⟩ y k
  exact ⟨ah aj s Y row X y (ao (Y:=Y) k),walk y k R (by omega),walk y k Z (by omega)⟩
 ·rintro ae aN ⟨⟨v,rfl⟩,(⟨xs,aA,z,M,K⟩ | ⟨e,z,M,K⟩)⟩
  ·exact ⟨none,_,run_endLoop (P:=P) M (by simp [r]),aE _ xs _ (Qa _) aA (V.putObj _ z (by omega) M rfl) ((World.putObj_heap_other (by omega)).trans K)⟩
  ·exact ⟨some .ret,_,run_endLoop (P:=P) M (by simp [r]),aB _ e _ (Qa _) (ah.putObj _ z (by omega) M rfl) ((World.putObj_heap_other (by omega)).trans K)⟩
end Go.Stops
namespace Go.Proofs.YtjafbmfcedijmaaGreatDoor
open Tryz
open Go.RowKit
attribute [local go_sem] Oper.semAt_some
theorem qjK {y:List Int}:∀ {L:List Tr},(∀ j,j<L.length->(L.getD j tr0).1∉y)->atV y L=none
 | [],_=>rfl
 | t :: r,h=>by
  unfold atV;rw [qjK (L:=r) (fun j z=>by have:=h (j+1) (by simp;omega);rwa [List.getD_cons_succ] at this)];exact Qd (h 0 (by simp))
theorem qou {y:List Int}:∀ {L:List Tr} {k:Nat},k<L.length->(L.getD k tr0).1∈y->(∀ j,k<j->j<L.length->(L.getD j tr0).1∉y)->atV y L=some k
 | [],k,z,_,_=>by simp at z
 | t :: r,0,_,h,E=>by
  unfold atV;rw [qjK (L:=r) (fun j G=>by have:=E (j+1) (by omega) (by simp;omega);rwa [List.getD_cons_succ] at this)];exact Qk h
 | t :: r,k+1,z,h,E=>by
  unfold atV;rw [List.getD_cons_succ] at h;rw [qou (L:=r) (by simpa using z) h (fun j G J=>by have:=E (j+1) (by omega) (by simp;omega);rwa [List.getD_cons_succ] at this)]
def atI (h:List Int) (L:List Tr):Int:=match atV h L with
 | some k=>k
 | none=>-1
def qdx (N:Nat) (W k:World):Prop:=∀ h,h<N->k.heap[h]?=W.heap[h]?
theorem qdx.trans {N:Nat} {A B C:World} (y:qdx N A B) (k:qdx N B C):qdx N A C:=fun h x=>(k h x).trans (y h x)
theorem qdx.of_below {N B:Nat} {W h:World} (y:Below B W h) (z:N<=B):qdx N W h:=fun k E=>y.block k (by omega)
theorem qdx.put {N:Nat} (W:World) (l:Nat) (h:Obj) (y:N<=l):qdx N W (W.putObj l h):=fun k z=>World.putObj_heap_other (by omega)
theorem qdx.cell {N:Nat} {W h:World} (y:qdx N W h) {a:Addr} (z:a.block<N):h.cell? a=W.cell? a:=QN (y _ z)
theorem qaj.qFo {N:Nat} {W z:World} {A:Option Addr} {L:List Tr} (y:qaj W A L) (k:qdx N W z) (V:∀ a,A=some a->L≠[]->a.block<N):qaj z A L:=by
 by_cases h:L=[]
 ·exact .inl h
 rcases y with y | ⟨b,O,rfl,J⟩
 ·exact absurd y h
 ·have j:b<N:=V _ rfl h
  refine .inr ⟨b,O,rfl,fun M E=>?_⟩;obtain ⟨G,U,K⟩:=J M E;exact ⟨(k.cell (a:=⟨b,_,none⟩) j).trans G,(k.cell (a:=⟨b,_,none⟩) j).trans U,(k.cell (a:=⟨b,_,none⟩) j).trans K⟩
def qA7 (t:Tr):Value:=.agg #[.int .i64 t.1,.int .i64 t.2.1,.int .i64 t.2.2]
def qyB (L:List Tr) (h:List (Nat×Tr)) (x:Nat×Tr) (W:World):Prop:=h.length<L.length/\x.1=L.length - 1 - h.length/\x.2=L.getD x.1 tr0
theorem qkL (A:Option Addr) (n cap:Nat) (w:World):Calls prog 281 #[.slice A n cap] w fun e h=>e=.returned (.func (.func 299) #[] #[.pointer (some ⟨w.heap.size,0,none⟩)])/\w.alloc (.cells #[.slice A n cap] 22)=h:=by
 go_enter func281,ntmps281
 go_wp2;go_ret;exact ⟨rfl,rfl⟩
theorem qp8 (n:Nat) (h:Nat) (A:Option Addr) (cap l:Nat) (L:List Tr) (ap:L.length=l) (aT:l<=1000) (N:Nat) (w:World) (af:Boxed w h 22 (.slice A l cap)) (ai:qaj w A L) (aA:h<N) (au:∀ a,A=some a->L≠[]->a.block<N) (aC:N<=w.heap.size) :
  Stops.qE7 Fence.wide n prog 299 #[.pointer (some ⟨h,0,none⟩)] (fun x:Nat×Tr=>#[.int .i64 x.1,qA7 x.2]) (qyB L) (qdx N) (fun ys=>ys.length=L.length) w:=fun aI W aV m K an ad aN aw=>by
 have ac:∀ (Z:Nat) (r:List (Nat×Tr)) (t:World),W r t->W r (t.drewN Z):=fun Z r t i=>an r t _ none i ⟨rfl,rfl,rfl,Qa _,fun _ _ _=>rfl⟩ (fun aW aO=>by cases aO)
 have E:Boxed m h 22 (.slice A l cap):=Boxed.under af K;have ah:qaj m A L:=ai.below K;have ak:=E.cell;have aK:=J9 E;have aH:=J9 ah;have av:=J9 aw;have aE:=J9 ad;have y:=J9 ap;have az:=J9 au;have aY:=J9 ac;clear aw ad an aN K af ai E ah ap au aC ac;refine callsIn_wide.2 ?_;show Calls prog 299 #[.func (.yield aI) #[] #[],.pointer (some ⟨h,0,none⟩)] m _
 go_enter func299,ntmps299
 go_wp2
 go_loopw [3] (fun U wr=>∃ (e:List (Nat×Tr)),e.length<=l/\U=.int .i64 ((l:Int) - 1 - (e.length:Int))/\Hid (qdx N m wr)/\Hid (W e wr)) (fun U _=>(intOf U+1).toNat)
 case atStart=>exact ⟨[],Qs _,by simp,fun _ _=>rfl,av.o⟩
 case round=>
  clear av ak;obtain ⟨e,aP,rfl,G,aq⟩:=hrel;by_cases ag:e.length<l
  ·obtain ⟨b,aj⟩:∃ b:Nat,b=l - 1 - e.length:=⟨_,rfl⟩
   have j:(l:Int) - 1 - (e.length:Int)=(b:Int):=(by omega);have O:b<L.length:=(by have:=y.o;omega);obtain ⟨aB,aG,rfl,-,X,J,M⟩:=(aH.o.qFo G.o az.o).at_ O;have ay:L.getD b tr0=L[b]:=(by rw [Qo,Qi O];rfl);rw [<- ay] at X J M;have V:Hid (qyB L e (b,L.getD b tr0) wr):=⟨by rw [y.o];exact ag,by rw [y.o];exact aj,rfl⟩;obtain ⟨aF,ax⟩:=N9 (L.getD b tr0);rw [ax] at X J M V;obtain ⟨ao,ae,ar⟩:=aF;simp only at X J M;have aZ:b<l:=(by omega);have aR:(b:Int)<(l:Int):=(by omega);have ak:wr.cell? ⟨h,0,none⟩=some (.slice (some ⟨aB,aG,none⟩) l cap):=(G.o.cell (a:=⟨h,0,none⟩) aA).trans aK.o.cell;have aD:=aE.o e (b,ao,ae,ar) wr aq.o V.o;have aa:Hid (e.length+1+b=l):=(by show e.length+1+b=l;omega);rw [j];obtain ⟨aX,tmps,assign,body,P,z⟩:=aD;simp only [qA7] at P;clear j ay ax O V ag aP aj
   go_upto_region 3 with fail
   refine (wpIn_wide (n:=n)).1 ?_
   gi_wp2
   refine ⟨fun i=>(by cases i),z.mono ?_⟩;rintro aU aS (⟨rfl,ab,am⟩ | ⟨rfl,aL⟩)
   ·have aQ:=J9 (G.o.trans am)
    have aJ:=J9 ab;clear ab am z P
    gi_wp2
    go_wp2;go_roundw
    case rel=>exact ⟨e++[(b,ao,ae,ar)],by have:=aa.o;simp;omega,by have:=aa.o;simp;omega,aQ.o,aJ.o⟩
    case measure=>simp [intOf]
   ·clear z P
    gi_wp2
    go_wp2;refine bodyPost_ret (results_none rfl _ _ _) rfl ?_;exact ⟨⟨_,rfl⟩,.inr ⟨_,aL⟩⟩
  ·have aM:Hid (e.length=L.length):=by have:=y.o;show _=_;omega
   have j:(l:Int) - 1 - (e.length:Int)=-1:=(by omega);rw [j];go_wp2
   go_end0
   have i:=aq.o;exact ⟨⟨_,rfl⟩,.inl ⟨_,aM.o,i⟩⟩
theorem qqW (x:Vr) (v:Value) (s:ByteArray) (A:Option Addr) (cap l:Nat) (L:List Tr) (ay:L.length=l) (bz:l<=1000) (w:World) (bu:qeB w v x) (H:qaj w A L) :
  Calls prog 248 #[v,.agg #[.string s,.slice A l cap]] w fun f U=>f=.returned (.int .i64 (atI x.1 L))/\Below w.heap.size w U:=by
 obtain ⟨V,K,az,aG,bk,rfl,aL,aQ,bF,bt,aM⟩:=bu;obtain ⟨o,bg⟩:=N9 (x.1);rw [bg] at aL aQ aM |-;clear bg bF bt;obtain ⟨bf,ao⟩:∃ bv:Value,Value.func (.func 280) #[] #[.pointer (some ⟨K,0,none⟩),.pointer (some ⟨az,0,none⟩)]=bv:=⟨_,rfl⟩;obtain ⟨G,W⟩:=N9 (((w.alloc (.cells #[.func (.func 279) #[] #[.pointer (some ⟨V,0,none⟩)],.func (.func 280) #[] #[.pointer (some ⟨K,0,none⟩),.pointer (some ⟨az,0,none⟩)]] 267)).alloc (.cells #[.string s,.slice A l cap] 24)).alloc (.cells #[.int .i64 0] 3));obtain ⟨n,J⟩:=N9 (w.heap.size);have aR:G.heap.size=n+1+1+1:=by rw [<- W,<- J];simp
 have aY:Below n w G:=by rw [<- W,<- J];exact (((B0 (w:=w))).alloc (by simp) _).alloc (by simp;omega) _
 have bd:G.heap[n]?=some (.cells #[.func (.func 279) #[] #[.pointer (some ⟨V,0,none⟩)],bf] 267 (0,0)):=by
  rw [<- W,<- J,<- ao];exact (Below.heap_alloc _ _ _ (by simp;omega)).trans ((Below.heap_alloc _ _ _ (by simp)).trans (World.alloc_heap_new w _))
 have a0:G.heap[n+1]?=some (.cells #[.string s,.slice A l cap] 24 (0,0)):=by
  rw [<- W,<- J];refine (Below.heap_alloc _ _ _ (by simp)).trans ?_;have e:=World.alloc_heap_new (w.alloc (.cells #[.func (.func 279) #[] #[.pointer (some ⟨V,0,none⟩)],.func (.func 280) #[] #[.pointer (some ⟨K,0,none⟩),.pointer (some ⟨az,0,none⟩)]] 267)) (.cells #[.string s,.slice A l cap] 24)
  rwa [QL] at e
 have aA:Boxed G (n+1+1) 3 (.int .i64 0):=by
  rw [<- W,<- J];have e:=Boxed.new ((w.alloc (.cells #[.func (.func 279) #[] #[.pointer (some ⟨V,0,none⟩)],.func (.func 280) #[] #[.pointer (some ⟨K,0,none⟩),.pointer (some ⟨az,0,none⟩)]] 267)).alloc (.cells #[.string s,.slice A l cap] 24)) 3 (.int .i64 0)
  rwa [QL,QL] at e
 rw [ao] at W;have aF:=qkL A l cap G;rw [aR] at aF;have br:=C9 a0 1;refine callsIn_wide.1 (callsIn_of_wp_marks (n:=3) func248 rfl trivial ?_ rfl);simp only [ntmps248,Zx,Qv,QH,Nat.reduceAdd,Nat.reduceSub,Array.replicate_succ,Array.replicate_zero,List.push_toArray,List.append_toArray,Zk,List.cons_append];refine wpIn_wide.2 ?_;rw [ao]
 go_wp2_with fail
 refine aF.mono ?_;rintro f E ⟨rfl,aq⟩;have a8:Boxed E (n+1+1+1) 22 (.slice A l cap):=by
  have e:=Boxed.new G 22 (.slice A l cap);rw [aq,aR] at e;exact e
 have bb:E.heap.size=n+1+1+1+1:=by rw [<- aq];simp;omega
 have ak:Below G.heap.size G E:=by rw [<- aq];exact B0
 have ab:=(ak.block n (by omega)).trans bd;have a9:Boxed E (n+1+1) 3 (.int .i64 0):=(ak.block _ aA.lt).trans aA;have ah:=aY.trans (ak.mono (by omega));have a2:qaj E A L:=H.below (by rw [J];exact ah);have bn:∀ af,A=some af->L≠[]->af.block<n:=fun af bs ax=>by
  rcases H with e | ⟨a3,bN,f,P⟩
  ·exact absurd e ax
  ·rw [bs] at f
   obtain rfl:=Qw f;have bM:a3<w.heap.size:=Qp w _ (P 0 (Q9.2 ax)).1;show a3<n;omega
 have bl:Boxed E V 33 (.slice aG o.length bk):=Boxed.under aL (by rw [J];exact ah);have bi:KsP E aG o:=aQ.below (by rw [J];exact ah);have aU:=qp8 2 (n+1+1+1) A cap l L ay bz (n+1+1+1+1) E a8 a2 (by omega) (fun af j k=>by have:=bn af j k;omega) (by omega);have ac:=J9 ay;have aw:=J9 J;have a7:=J9 ah;have bA:=J9 ab;have bh:=J9 a9;have bB:=J9 bl;have bq:=J9 bi;have bJ:=J9 aM;clear aF a8 ak aY bd a0 aA aq W J aR ay bn H a2 aL aQ bl bi aM br G ab a9 ah ao
 go_wp2_with fail
 refine wpIn_wide.1 (Stops.qEN (F:=Fence.wide) (n:=3) rfl (by omega) (gf:=299) (lb:=#[.pointer (some ⟨n+1+1+1,0,none⟩)]) rfl trivial (enters_of func299 (by kernel_rfl) rfl)
  aU (fun e b=>e.trans b) (fun a l bT bw ay _ _=>qdx.put a l bw (by omega)) (fun _=>rfl)
  (fun D a=>(∀ h,l<=h+D.length->h<l->(L.getD h tr0).1∉o)/\Below (n+1+1+1+1) E a)
  (fun D a=>∃ b,atV o L=some b/\Boxed a (n+1+1) 3 (.int .i64 (b:Nat))/\Below n w a)
  (fun s a5 au row e z aa=>⟨e.1,e.2.grown z (by have:=e.2.size;omega) fun ag f=>by have:=(aa ag f).1;omega⟩)
  (fun s a5 au row e z aa=>by
   obtain ⟨b,j,k,aH⟩:=e;have ax:∀ b,b<n+1+1+1+1->some b≠row:=fun b bV f=>by have:=(aa b f.symm).1;omega
   exact ⟨b,j,k.kept z (ax _ (by omega)),aH.grown z (by have:=k.lt;omega) fun ag f=>by have:=(aa ag f).1;omega⟩)
  ⟨fun h j k=>by simp at j;omega,Qc _ _⟩
  (fun D x a1 a=>qyB L D x a/\∃ Y,n+4<=Y/\a.heap[Y]?=some (.cells #[.int .i64 x.2.1,.int .i64 x.2.2.1,.int .i64 x.2.2.2] 57 (0,0))/\a1={tmps:=#[.agg #[.func (.func 279) #[] #[.pointer (some ⟨V,0,none⟩)],bf],.agg #[.string s,.slice A l cap],.pointer (some ⟨n,0,none⟩),.pointer (some ⟨n+1,0,none⟩),.pointer (some ⟨n+1+1,0,none⟩),.int .i64 x.1,.pointer (some ⟨Y,0,none⟩),.pointer (some ⟨n+1,1,none⟩),.slice A l cap,.func (.func 299) #[] #[.pointer (some ⟨n+1+1+1,0,none⟩)],.int .i64 x.1,qA7 x.2,undef,undef,undef,undef,undef],defers:=[]})
  (fun D x s a5 au row e z aa=>by
   obtain ⟨bK,Y,j,k,aH⟩:=e;exact ⟨bK,Y,j,(grownBy_keeps_cells z (fun ag f=>(aa ag f).2) k rfl).trans k,aH⟩)
  ?assign ?body ?done ?stop)
 case assign=>
  rintro aI D ⟨b,ad,aJ,aS⟩ a bQ ai aB M;simp only [qA7]
  gi_wp2
  refine M _ _ ((KeepsOthers.alloc _ _).from _) (qdx.of_below ((Qc (n+1+1+1+1) a).alloc (by have:=ai.2.size;omega) _) (Qa _)) ⟨ai.1,ai.2.alloc (by have:=ai.2.size;omega) _⟩ ⟨aB,a.heap.size,by have:=ai.2.size;omega,World.alloc_heap_new a _,rfl⟩
 case body=>
  rintro aI D ⟨b,ad,aJ,aS⟩ a1 a ⟨Z,y⟩ ⟨aB,Y,r,P,rfl⟩;obtain ⟨am,av,ar⟩:=aB;simp only at am av ar P;have bP:=C9 P 0;have bU:=C9 P 1;have aj:=C9 P 2;have ab:=(y.block n (by omega)).trans bA.o;have bS:=C9 ab 0;have X:=qug V aG bk o.length o rfl bJ.o (ad,aJ,aS) a (Boxed.under bB.o (by rw [bb];exact y)) (bq.o.below (by rw [bb];exact y));simp only at X;have aP:Hid (D.length<l):=by rw [<- ac.o];exact am
  have aC:Hid (b=l - 1 - D.length):=by rw [<- ac.o];exact av
  have be:Hid ((L.getD b tr0).1=ad):=by show (L.getD b tr0).1=ad;rw [<- ar]
  have ap:=J9 (Zf Z (Zf y r));have aN:Hid (n+4<=a.heap.size):=by have:=y.size;show _<=_;omega
  simp only [qA7];by_cases ae:ad∈o
  ·have aD:=J9 ae
   rw [Qn ae] at X;have bj:Boxed a (n+1+1) 3 (.int .i64 0):=(y.block _ (by omega)).trans bh.o;have aO:=J9 bj;clear P ab Z y r am av ar ae bj
   gi_wp2_with fail
   refine ⟨trivial,CallsIn.inRound aI (callsIn_wide.2 X) |>.mono ?_⟩;rintro f U ⟨rfl,r⟩;have an:=Boxed.under aO.o r;have bL:=an.cell;have bx:=an.frozen;have au:=J9 an;have aT:=J9 r;clear X r an
   gi_wp2
   have aW:Below a.heap.size a U:=aT.o;refine ⟨(qaC aW _).trans (KeepsOthers.from (KeepsOthers.setCell _ _ _) _),b,?_,?_,?_⟩
   ·refine qou (by rw [ac.o];have:=aP.o;have:=aC.o;omega) (by rw [be.o];exact aD.o) (fun h j k=>ap.o.1 h (by have:=aC.o;have:=aP.o;omega) (by rw [<- ac.o];exact k))
   ·exact Boxed.set _ au.o
   ·exact (a7.o.trans ((ap.o.2.1.mono (by omega)).trans (aW.mono (by have:=aN.o;omega)))).setCell (p:=⟨n+1+1,0,none⟩) (by simp;omega) _
  ·have aD:=J9 ae
   rw [Qf ae] at X;clear P ab Z y r am av ar ae
   gi_wp2_with fail
   refine ⟨trivial,CallsIn.inRound aI (callsIn_wide.2 X) |>.mono ?_⟩;rintro f U ⟨rfl,r⟩;have bE:Hid (KeepsFrom E.heap.size a U/\qdx (n+1+1+1+1) a U/\(∀ h,l<=h+(D++[((b,ad,aJ,aS):Nat×Tr)]).length->h<l->(L.getD h tr0).1∉o)/\Below (n+1+1+1+1) E U):=by
    refine ⟨qaC r _,qdx.of_below r aN.o,fun h j k=>?_,ap.o.2.1.trans (r.mono aN.o)⟩;by_cases f:h=b
    ·subst f;rw [be.o];exact aD.o
    ·exact ap.o.1 h (by have:=aC.o;have:=aP.o;simp at j;omega) k
   clear X r
   gi_wp2
   exact bE.o
 case done=>
  rintro O bR a aK a6 ⟨Z,y⟩ M;have K:Boxed a (n+1+1) 3 (.int .i64 0):=(y.block _ (by omega)).trans bh.o;have bL:=K.cell;have bx:=K.frozen;have aO:=J9 K;have aE:=J9 M;have bD:Hid (atI o L=-1):=by
   show atI o L=-1;unfold atI;rw [qjK (fun h bI=>Z h (by rw [a6,ac.o];omega) (by rw [<- ac.o];exact bI))]
  have aT:=J9 (a7.o.trans (y.mono (by omega)));have bG:=J9 aK;clear Z y M K aK aU a6;go_wp2;have bo:=Boxed.set (.int .i64 (-1)) aO.o;have bp:KeepsOthers a (a.setCell ⟨n+1+1,0,none⟩ (.int .i64 (-1))):=KeepsOthers.setCell _ _ _;have a4:Below n w (a.setCell ⟨n+1+1,0,none⟩ (.int .i64 (-1))):=aT.o.setCell (p:=⟨n+1+1,0,none⟩) (by simp;omega) _;obtain ⟨aV,bH⟩:=N9 (a.setCell ⟨n+1+1,0,none⟩ (.int .i64 (-1)));rw [bH] at bo bp a4 |-;have bm:aV.heap[O]?=some (.deferred (some [])):=bp.same O _ aE.o rfl;have z:=grownBy_putObj' aV O (.deferred none);have bO:=bG.o;have aj:=(bo.kept z (by simp;omega)).cell;refine ⟨by simp,.inl ⟨_,_,rfl,run_takeDeferred bm,?_⟩⟩;refine ⟨.int .i64 (-1),?_,?_⟩
  ·simp [results,results248,go_sem,aj]
  ·have aZ:w.heap.size=n:=aw.o
   exact ⟨by rw [bD.o],by rw [aw.o];exact a4.trans (belowK_b (w:=w) (by omega) aV O _ _ (by omega) bm rfl rfl)⟩
 case stop=>
  rintro O D a aK ⟨b,j,bc,aX⟩ M;have z:=grownBy_putObj' a O (.deferred none);have aj:=(bc.kept z (by simp;omega)).cell;have F:Hid (atI o L=(b:Int)):=by
   show atI o L=_;unfold atI;rw [j]
  have aZ:w.heap.size=n:=aw.o;have bC:Hid (Below w.heap.size w (a.putObj O (.deferred none))):=by rw [aw.o];exact aX.trans (belowK_b (w:=w) (by omega) a O _ _ (by omega) M rfl rfl)
  have aE:=J9 M;clear j bc aX M z aU aZ
  gi_wp2
  refine ⟨by simp,.inl ⟨_,_,rfl,run_takeDeferred aE.o,?_⟩⟩;refine ⟨.int .i64 b,?_,by rw [F.o],bC.o⟩;simp [results,results248,go_sem,aj]
end Go.Proofs.YtjafbmfcedijmaaGreatDoor
