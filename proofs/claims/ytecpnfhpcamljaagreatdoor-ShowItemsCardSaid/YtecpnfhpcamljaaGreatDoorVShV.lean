/-
  ShowItems, walked.
-/
import Derived.Test.YtecpnfhpcamljaaGreatDoorKAP
import Derived.Test.YtecpnfhpcamljaaGreatDoorKAX
set_option linter.all false
set_option maxRecDepth 100000
set_option maxHeartbeats 4000000
namespace Go.Proofs.YtecpnfhpcamljaaGreatDoor
open Tryz
open Go.RowKit Go.Shelf
attribute [local go_sem] Oper.semAt_some
attribute [local irreducible] Go.Mixed.qAU
theorem qdl.nth {w:World} {A:Option Addr} {L:List ByteArray} (z:qdl w A L) (y:0<L.length):∃ b h,A=some ⟨b,h,none⟩/\b<w.heap.size/\∀ k (E:k<L.length),w.cell? ⟨b,h+k,none⟩=some (.string L[k]):=by
 rcases z with rfl | ⟨b,h,rfl,q⟩
 ·simp at y
 ·exact ⟨b,h,rfl,Qq w _ (q 0 y),q⟩
theorem qxL (a:Int) (A:Option Addr) (cap:Nat) (R:List Xe) (w:World) (bc:R.length<=maxLen) (H:qdX w A R) (O:qad w) :
  Calls prog 6 #[.int .i64 a,.slice A R.length cap] w fun k q=>k=.returned (.bool true)/\Below w.heap.size w q:=by
 obtain ⟨r,K⟩:=N9 (R.length);have U:=qhj R A r cap K (by omega) w H;rw [K];have ai:=J9 (fun q (h:Below w.heap.size w q)=>qbw q (O.below h));have ao:=J9 (qt8 (R:=R));obtain ⟨bq,aB⟩:=N9 (qra (R.map Xe.x));rw [aB] at U ao;cases bq with
 | false=>
  clear H O bc K aB ao
  go_enter func6,ntmps6
  go_wp2_with fail
  refine U.mono ?_;rintro k aQ ⟨rfl,rfl⟩;have ab:=ai.o aQ (Qc _ _);clear U ai
  go_wp2_with fail
  refine ab.mono ?_;rintro k F ⟨rfl,j⟩;have ak:=J9 j;clear ab j;go_wp2;go_ret;exact ⟨rfl,ak.o⟩
 | true=>
  obtain ⟨bp,ax⟩:=ao.o rfl;have aq:=J9 (qha R A r cap K (by omega) ax w O H);have a6:=J9 O;have aI:Hid ((R.map qbt).length=r):=by show _=_;rw [QC];exact K
  have au:Hid (∀ M,M<r->∃ i:Xe,qcj i.x/\(R.map qbt)[M]?=some (qbt i)/\∀ e,Below w.heap.size w e->ItJ e A i M):=fun M aG=>by
   have a9:M<R.length:=(by omega);refine ⟨R[M],ax _ (QJ _),by rw [Zi,Qg a9];rfl,fun e j=>(H.below j).j a9⟩
  obtain ⟨bv,hF⟩:=N9 (R.map qbt);rw [hF] at aq aI au;have bF:r<=60:=by omega
  clear H O bc K aB ao bp ax hF
  go_enter func6,ntmps6
  go_wp2_with fail
  refine U.mono ?_;rintro k aQ ⟨rfl,rfl⟩;clear U
  go_wp2_with fail
  refine aq.o.mono ?_;rintro k F ⟨bG,aR,rfl,aU,aV⟩;rw [aI.o];have aP:=J9 aU;have ak:=J9 aV;clear aq aU aV;go_wp2
  go_loopw [21] (fun aF wr=>∃ l:Nat,l<=r/\aF=.int .i64 l/\Hid (Below F.heap.size F wr)) (fun aF _=>r - (intOf aF).toNat)
  case atStart=>exact ⟨0,Qu _,rfl,Qc _ _⟩
  case round=>
   obtain ⟨l,bH,rfl,aa⟩:=hrel;have G:=J9 (ak.o.trans (aa.o.mono ak.o.size));by_cases bg:l<r
   ·obtain ⟨i,a3,aL,aG⟩:=au.o l bg
    have aY:=aG wr G.o;have af:=qmQ aY;obtain ⟨bA,bI,bl,bt,bi,bu,bx,bw,-,-⟩:=aY;subst bl;have be:l<bv.length:=(by rw [aI.o];exact bg);obtain ⟨E,y,br,bz,a8⟩:=(aP.o.below aa.o).nth (by omega);subst br;have aE:wr.cell? ⟨E,y+l,none⟩=some (.string (qbt i)):=by
     rw [a8 l be];rw [Qg be] at aL;rw [Qs aL]
    have ad:=J9 a3;have bj:=qAZ (qbt i);have bo:=qAZ (sB (rowB a i.x));have ae:Hid (∀ e,Below wr.heap.size wr e->Calls prog 22 #[i.v] e fun k q=>k=.returned (.string (qbt i))/\Below e.heap.size e q):=(fun e j=>qfJ i ad.o e (af.below j));have Z:Hid (∀ e,Below wr.heap.size wr e->Calls prog 23 #[i.v] e fun k q=>k=.returned (.string (qbt i))/\Below e.heap.size e q):=(fun e j=>qfS i ad.o e ((a6.o.below G.o).below j) (af.below j));have T:Hid (∀ e,Below wr.heap.size wr e->Calls prog 24 #[.int .i64 a,i.v] e fun k q=>k=.returned (.string (sB (rowB a i.x)))/\Below e.heap.size e q):=(fun e j=>qhK a i ad.o e ((a6.o.below G.o).below j) (af.below j));have V:Hid (∀ e,Below wr.heap.size wr e->Calls prog 25 #[.int .i64 a,i.v] e fun k q=>k=.returned (.string (sB (rowB a i.x)))/\Below e.heap.size e q):=(fun e j=>qmr a i ad.o e (af.below j));obtain ⟨ac,aZ⟩:=N9 (qbt i);obtain ⟨bC,aT⟩:=N9 (sB (rowB a i.x));rw [aZ] at aE bj ae Z;rw [aT] at bo T V;obtain ⟨b,A1,x,s,t⟩:=i;unfold Xe.v at ae Z T V;simp only at bt bi bu bx bw ae Z T V;obtain ⟨ah,z,bJ,bE,a0,ay,bD⟩:=Fr.box (Fr.nil wr) #[.int .i64 b.kind,.slice A1 b.raw.length x,.string (sB b.m),.slice s b.C.length t,.bool b.al] 45;have I4:qas z ah b.kind (.slice A1 b.raw.length x) (sB b.m) (.slice s b.C.length t) b.al:=a0.o.1;obtain ⟨bB,bs⟩:∃ bm:World->Prop,bm=fun e=>e.cell? ⟨E,y+l,none⟩=some (.string ac)/\qas e ah b.kind (.slice A1 b.raw.length x) (sB b.m) (.slice s b.C.length t) b.al:=⟨_,rfl⟩
    have J:Hid (∀ e,Below z.heap.size z e->(e.cell? ⟨E,y+l,none⟩=some (.string ac)/\qas e ah b.kind (.slice A1 b.raw.length x) (sB b.m) (.slice s b.C.length t) b.al)/\Below wr.heap.size wr e/\Below F.heap.size F e):=fun e j=>by
     have W:=ay.trans (j.mono ay.size);exact ⟨⟨(W.cell bz).trans aE,I4.all j⟩,W,aa.o.trans (W.mono aa.o.size)⟩
    clear af a3 aL aG a8 aZ aT a0 ay I4 aE bs aa G ad
    go_upto_region 9 with fail
    obtain ⟨aK,ap⟩:=N9 (z.drew);have am:Below z.heap.size z aK:=(by rw [<- ap];exact below_drewN z _ 1);have az:=J9 (J.o aK am);refine Mixed.qAQ (fun e=>e.cell? ⟨E,y+l,none⟩=some (.string ac)/\qas e ah b.kind (.slice A1 b.raw.length x) (sB b.m) (.slice s b.C.length t) b.al) 24 [(0,true),(1,true),(2,true),(3,true),(4,true),(5,false),(6,true),(7,true),(8,true),(10,true),(11,true),(12,true),(13,true),(9,false),(14,true),(15,true),(16,true),(17,true),(18,true),(20,true),(21,true),(19,false),(22,false),(23,true)] (by kernel_rfl) (by kernel_rfl) (by rw [ap];exact az.o.1) ?_;rw [ap];clear ap;refine Mixed.mp rfl (.slice (some ⟨E,y,none⟩) r aR) ?_;refine Mixed.mp rfl (.int .i64 (l:Int)) ?_;refine Mixed.mo rfl (.pointer (some ⟨E,y+l,none⟩)) (fun w h=>by clear h;go_simp;try rfl) ?_;refine Mixed.mo rfl (.string ac) (fun w h=>by obtain ⟨W,aN⟩:=h;clear aN;go_simp;try rfl) ?_;refine Mixed.mo rfl (.agg #[.int .i64 b.kind,.slice A1 b.raw.length x,.string (sB b.m),.slice s b.C.length t,.bool b.al]) (fun w h=>by obtain ⟨ar,aJ,av,aC,aD,aw⟩:=qas.cells h.2;clear h;go_simp;try rfl) ?_;refine Mixed.qAR rfl (by kernel_rfl) ?_;have a4:=J9 (ae.o aK az.o.2.1)
    go_wp2_with fail
    refine a4.o.mono ?_;rintro k a7 ⟨rfl,bd⟩;have an:=am.trans (bd.mono am.size);have aA:=J9 (J.o a7 an);clear a4 ae bd az am;go_wp2;refine ⟨aA.o.1,?_⟩;refine Mixed.mo rfl (.bool false) (fun w h=>by clear h;go_simp;try rfl) ?_;refine Mixed.mp rfl (.bool false) ?_;refine Mixed.mo rfl (.agg #[.int .i64 b.kind,.slice A1 b.raw.length x,.string (sB b.m),.slice s b.C.length t,.bool b.al]) (fun w h=>by obtain ⟨ar,aJ,av,aC,aD,aw⟩:=qas.cells h.2;clear h;go_simp;try rfl) ?_;refine Mixed.mp rfl (.slice (some ⟨E,y,none⟩) r aR) ?_;refine Mixed.mp rfl (.int .i64 (l:Int)) ?_;refine Mixed.mo rfl (.pointer (some ⟨E,y+l,none⟩)) (fun w h=>by clear h;go_simp;try rfl) ?_;refine Mixed.mo rfl (.string ac) (fun w h=>by obtain ⟨W,aN⟩:=h;clear aN;go_simp;try rfl) ?_;refine Mixed.qAR rfl (by kernel_rfl) ?_;have aX:=J9 (Z.o a7 aA.o.2.1)
    go_wp2_with fail
    refine aX.o.mono ?_;rintro k bb ⟨rfl,bh⟩;have aj:=an.trans (bh.mono an.size);have aM:=J9 (J.o bb aj);clear aX Z bh aA an;go_wp2;refine ⟨aM.o.1,?_⟩;refine Mixed.mo rfl (.bool false) (fun w h=>by clear h;go_simp;try rfl) ?_;refine Mixed.mp rfl (.bool false) ?_;refine Mixed.mp rfl (.bool false) ?_;refine Mixed.mp rfl (.int .i64 a) ?_;refine Mixed.mo rfl (.agg #[.int .i64 b.kind,.slice A1 b.raw.length x,.string (sB b.m),.slice s b.C.length t,.bool b.al]) (fun w h=>by obtain ⟨ar,aJ,av,aC,aD,aw⟩:=qas.cells h.2;clear h;go_simp;try rfl) ?_;refine Mixed.mp rfl (.int .i64 a) ?_;refine Mixed.mo rfl (.agg #[.int .i64 b.kind,.slice A1 b.raw.length x,.string (sB b.m),.slice s b.C.length t,.bool b.al]) (fun w h=>by obtain ⟨ar,aJ,av,aC,aD,aw⟩:=qas.cells h.2;clear h;go_simp;try rfl) ?_;refine Mixed.qAR rfl (by kernel_rfl) ?_;have aS:=J9 (T.o bb aM.o.2.1)
    go_wp2_with fail
    refine aS.o.mono ?_;rintro k aO ⟨rfl,aW⟩;have ag:=aj.trans (aW.mono aj.size);have aH:=J9 (J.o aO ag);clear aS T aW aM aj;go_wp2;refine ⟨aH.o.1,?_⟩;refine Mixed.qAR rfl (by kernel_rfl) ?_;have a2:=J9 (V.o aO aH.o.2.1)
    go_wp2_with fail
    refine a2.o.mono ?_;rintro k a5 ⟨rfl,bf⟩;have a1:=ag.trans (bf.mono ag.size);have C9:=J9 (J.o a5 a1);have bn:Hid (Below F.heap.size F a5):=C9.o.2.2;clear a2 V bf aH ag J a1;go_wp2;refine ⟨C9.o.1,?_⟩;refine Mixed.mo rfl (.bool false) (fun w h=>by clear h;go_simp;try rfl) ?_;simp only [Mixed.qAU,Qr,Qx];clear C9;go_wp2;go_roundw
    case rel=>exact ⟨l+1,by omega,by go_num,bn.o⟩
    case measure=>simp [intOf];omega
   ·obtain rfl:l=r:=by omega
    have ab:=J9 (ai.o wr G.o);clear ai au aP
    go_wp2_with fail
    refine ab.o.mono ?_;rintro k z ⟨rfl,j⟩;have bk:=J9 (G.o.trans (j.mono G.o.size));clear ab j;go_wp2;go_ret;exact ⟨rfl,bk.o⟩
end Go.Proofs.YtecpnfhpcamljaaGreatDoor
