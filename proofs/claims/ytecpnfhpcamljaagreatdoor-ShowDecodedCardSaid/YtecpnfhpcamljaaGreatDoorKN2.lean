/-
  Texts of items, rows and tables.
-/
import Derived.Test.YtecpnfhpcamljaaGreatDoorKAN
set_option linter.all false
set_option maxRecDepth 100000
set_option maxHeartbeats 4000000
namespace Go.Proofs.YtecpnfhpcamljaaGreatDoor
open Tryz
open Go.RowKit Go.Shelf Cm
attribute [local go_sem] Oper.semAt_some
attribute [local irreducible] Go.Mixed.qAU
theorem qeU (s:ByteArray) (bk:s.size<=1000) (A:Option Addr) (cap z:Nat) (I:List Tr) (ak:I.length=z) (bj:z<=900) (w:World) (H:qai w A I) :
  Calls prog 12 #[.agg #[.string s,.slice A z cap]] w fun n J=>n=.returned (.string (sB (showB s I)))/\Below w.heap.size w J:=by
 obtain ⟨aG,aV⟩:=N9 (w.heap.size);obtain ⟨U,ah,bp,bt,al,aM,bo⟩:=Fr.box (Fr.start w aG aV) #[.string s,.slice A z cap] 24;obtain rfl:U=aG:=by omega
 have au:=H.below aM;have aH:=J9 (qgB s bk A cap z I ak bj ah au);have ax:Hid (∀ o,Below ah.heap.size ah o->Calls prog 16 #[.agg #[.string s,.slice A z cap]] o (qiF o s (canL (opc s) I))):=fun o V=>by
  have e:=qiq s A cap I (by omega) o (au.below V);rw [ak] at e;exact e
 obtain ⟨a8,a2⟩:=Fr.qBb al.o.1;have ac:Hid (qcG s I=false->showB s I=[]):=fun e=>by unfold showB;rw [e];rfl
 have Z:Hid (qcG s I=true->(canL (opc s) I).length<=3/\showB s I=if canL (opc s) I=[] then s.data.toList else s.data.toList++32 :: (olistS (canL (opc s) I)).data.toList):=fun e=>by
  obtain ⟨-,ap,-⟩:=qb5 e;refine ⟨ap,?_⟩;unfold showB;rw [Qi e]
 obtain ⟨aE,af⟩:=N9 (showB s I);obtain ⟨h,aX⟩:=N9 (canL (opc s) I);rw [af] at ac Z;rw [aX] at Z ax;rw [aV,af];clear H au aM ak af aX
 go_enter func12,ntmps12
 go_wp2_with fail
 refine aH.o.mono ?_;rintro n o ⟨bh,a4,a7,be,a6,a3,bg,bd,bu,rfl,O,aR⟩;have am:=J9 (qmB aR);have a0:=Fr.up al O;have bC:U<o.heap.size:=by have:=O.size;omega
 obtain ⟨bw,ao,bs,bB,aN,ae,bx⟩:=Fr.box a0 #[.int .i64 bh,.int .u8 a4,.string (sB a7),.slice be a6 a3,.string (sB bg),.bool bd] 30;have ay:Hid (∀ m,Below ao.heap.size ao m->Calls prog 16 #[.agg #[.string s,.slice A z cap]] m (qiF m s h)):=fun m V=>ax.o m (O.trans ((ae.trans (V.mono ae.size)).mono O.size))
 obtain ⟨-,aa,⟨W,aP⟩,-⟩:=aN.o;obtain ⟨bc,bl⟩:=Fr.qBb aa;have aa:=J9 aa;have W:=J9 W;simp only [enV];clear aH ax O aR a8 a2 al a0 aN ae;rcases am.o with ⟨rfl,T⟩ | ⟨bv,T⟩
 ·obtain ⟨ap,aT⟩:=Z.o T
  have ab:=J9 aT;have aQ:=J9 (ay.o ao (Qc _ _));clear am T ay aa Z ac aT
  go_wp2_with fail
  refine aQ.o.mono ?_;rintro n m ⟨br,rfl,aU,ar⟩;obtain ⟨v,y,rfl,aD,-,-⟩:=aU.ops;obtain ⟨q,ai⟩:=N9 (h.length);rw [ai];have aB:=J9 (W.o.trans (ar.mono aP));have a1:U<=m.heap.size:=Qj aP ar.size;obtain ⟨g,C,bz,bA,aj,av,bq⟩:=Fr.box (Fr.nil m) #[.string s,.slice v q y] 24;have az:=J9 (aD.below av);have aq:=J9 (aB.o.trans (av.mono a1));have aJ:U<=C.heap.size:=by omega
  obtain ⟨aA,aL⟩:=Fr.qBb aj.o.1;have aF:=J9 aj.o.1;clear aQ ar aU aD av aj bc bl W aB;by_cases aW:q=0
  ·have ad:h=[]:=Qw (by omega)
   have E:Hid (s=sB aE):=by
    show s=_;rw [ab.o,Qi ad];unfold sB;simp
   subst aW;clear ab az;go_wp2;go_ret;rw [<- E.o];exact ⟨rfl,aq.o⟩
  ·have ad:h≠[]:=fun n=>aW (by rw [<- ai,n];rfl)
   have an:Hid (∀ G,Below C.heap.size C G->Calls prog 38 #[.slice v q y] G fun n J=>n=.returned (.string (olistS h))/\Below G.heap.size G J):=fun G V=>by
    have e:=qqT v y h (by omega) G (az.o.below V);rw [ai] at e;exact e
   have a5:=qhL h (by omega);have E:Hid ((s++⟨#[32]⟩)++olistS h=sB aE):=by
    show _=_;rw [ab.o,Qe ad];apply qah;rw [qaa,qaa];simp [sB]
   obtain ⟨a9,aZ⟩:=N9 (olistS h);rw [aZ] at an a5 E;clear ab az aZ ap ad
   go_upto_region 7 with fail
   obtain ⟨M,ag⟩:=N9 (C.drew);have K:Below C.heap.size C M:=(by rw [<- ag];exact below_drewN C _ 1);refine Mixed.qAQ (fun J=>J.cell? ⟨g,0,none⟩=some (.string s)/\J.cell? ⟨g,1,none⟩=some (.slice v q y)) 7 [(0,true),(1,true),(2,true),(3,true),(4,true),(5,false),(6,true)] (by kernel_rfl) (by kernel_rfl) ⟨aA,aL⟩ ?_;rw [ag];refine Mixed.mp rfl (.pointer (some ⟨g,0,none⟩)) ?_;refine Mixed.mo rfl (.string s) (fun w e=>by obtain ⟨bf,bm⟩:=e;go_simp;try rfl) ?_;refine Mixed.mo rfl (.string (s++⟨#[32]⟩)) (fun w e=>by clear e;go_simp;try omega) ?_;refine Mixed.mp rfl (.pointer (some ⟨g,1,none⟩)) ?_;refine Mixed.mo rfl (.slice v q y) (fun w e=>by obtain ⟨bf,bm⟩:=e;go_simp;try rfl) ?_;refine Mixed.qAR rfl (by kernel_rfl) ?_;have aO:=J9 (an.o M K);have aS:Hid (M.heap[g]?=some (.cells #[.string s,.slice v q y] 24 (0,0))):=(K.block g (by omega)).trans aF.o;have aK:=J9 (aq.o.trans (K.mono aJ));have bi:U<=M.heap.size:=Qj aJ K.size;have bn:g<M.heap.size:=(by have:=K.size;omega);clear an K aF aq aA aL ag
   go_wp2_with fail
   refine aO.o.mono ?_;rintro n aY ⟨rfl,aw⟩;have aC:=(aw.block g bn).trans aS.o;have aI:Hid (aY.cell? ⟨g,0,none⟩=some (.string s)/\aY.cell? ⟨g,1,none⟩=some (.slice v q y)):=Fr.qBb aC;have bb:=J9 (aK.o.trans (aw.mono bi));clear aO aw aC aS aK;go_wp2;refine ⟨aI.o,?_⟩;refine Mixed.mo rfl (.string ((s++⟨#[32]⟩)++a9)) (fun w e=>by clear e;go_simp;first | omega | (simp;omega)) ?_;simp only [Mixed.qAU,Qr,Qx];clear aI;go_wp2;go_ret;rw [E.o];exact ⟨rfl,bb.o⟩
 ·have E:=J9 (ac.o T)
  clear am T ay aa Z ac;go_wp2;go_ret;rw [E.o];exact ⟨rfl,W.o⟩
def qd6 (xs:Str) (k:Nat):Str:=if k=0 then [] else [68,69,70,66,32]++qdE [44] ((xs.map numT).take k)
theorem qjd (xs:Str):qd6 xs xs.length=dataB xs:=by
 unfold qd6 dataB;by_cases e:xs=[]
 ·subst e;rfl
 ·rw [Qe (fun h=>e (Qw h)),Qe e,QW (by simp)]
theorem qjH (xs:Str) (k:Nat) (z:xs.length<=1000):(qd6 xs k).length<=8000:=by
 unfold qd6;split
 ·simp
 ·have x:=qd2 [44] ((xs.map numT).take k) 1 6 (by decide) fun y q=>by
   obtain ⟨h,-,rfl⟩:=Zq.1 (List.mem_of_mem_take q);exact qhG h
  have E:((xs.map numT).take k).length<=1000:=by rw [QH,QC];omega
  rw [Qk];have G:([68,69,70,66,32]:Str).length=5:=rfl;omega
theorem qo3 (xs:Str) (h:0<xs.length):(⟨#[68,69,70,66,32]⟩:ByteArray)++textS (xs[0].toNat:Int)=sB (qd6 xs 1):=by
 apply qah;rw [qaa];unfold qd6;rw [Qe (by decide),qhV [44] _ (by simpa using h)];simp [sB,numT]
theorem qnO (xs:Str) (k:Nat) (q:0<k) (h:k<xs.length):(sB (qd6 xs k)++⟨#[44]⟩)++textS (xs[k].toNat:Int)=sB (qd6 xs (k+1)):=by
 apply qah;rw [qaa,qaa];unfold qd6;rw [Qe (by omega),Qe (by omega),qgE [44] _ k q (by simpa using h)];simp [sB,numT]
theorem qi3 (A:Option Addr) (n cap:Nat) (xs:Str) (W:xs.length=n) (am:n<=1000) (w:World) (H:BytesAt w A xs) :
  Calls prog 18 #[.slice A n cap] w fun k x=>k=.returned (.string (sB (dataB xs)))/\Below w.heap.size w x:=by
 obtain ⟨h,G⟩:=N9 (w.heap.size);have O:Hid (∀ (wr:World) (b:Nat) (e:ByteArray),b<n->e=sB (qd6 xs b)->Below h w wr->h<=wr.heap.size->e.size<=8000/\∃ (s y:Nat) (t:Int) (z:ByteArray),A=some ⟨s,y,none⟩/\wr.cell? ⟨s,y+b,none⟩=some (.int .u8 t)/\(0<=t/\t<=255)/\z.size<=6/\
   (Calls prog 50 #[.int .i64 t] wr fun k x=>k=.returned (.string z)/\Hid (Below h w x)/\h<=x.heap.size)/\
   Hid ((b=0->(⟨#[68,69,70,66,32]⟩:ByteArray)++z=sB (qd6 xs (b+1)))/\(0<b->(e++⟨#[44]⟩)++z=sB (qd6 xs (b+1))))):=by
  rintro wr b e ag rfl V ad;have E:b<xs.length:=by omega
  refine ⟨qjH xs b (by omega),?_⟩;obtain rfl | ⟨s,y,M,v⟩:=H.below (by rw [G];exact V)
  ·simp at E
  ·refine ⟨s,y,(xs[b].toNat:Int),textS (xs[b].toNat:Int),M,v b E,⟨by omega,by have:=xs[b].toNat_lt;omega⟩,qau _,(qda _ wr).mono ?_,?_⟩
   ·rintro k x ⟨rfl,rfl⟩
    exact ⟨rfl,V,ad⟩
   ·refine ⟨?_,fun aa=>qnO xs b aa E⟩
    rintro rfl;exact qo3 xs E
 have N:Hid (∀ e,e=sB (qd6 xs n)->e=sB (dataB xs)):=by
  rintro e rfl;rw [<- W,qjd]
 have B0:Hid (Below h w w):=Qc _ _;have Z:h<=w.heap.size:=by omega
 rw [G];clear H W G
 go_enter func18,ntmps18
 go_wp2
 go_loopw [3,4] (fun ae J wr=>∃ (b:Nat) (e:ByteArray),b<=n/\J=.int .i64 b/\ae=.string e/\Hid (e=sB (qd6 xs b))/\Hid (Below h w wr)/\h<=wr.heap.size) (fun _ J _=>n - (intOf J).toNat)
 case atStart=>exact ⟨0,⟨#[]⟩,Qu _,rfl,rfl,rfl,B0,Z⟩
 case round=>
  clear B0 Z;obtain ⟨b,e,ag,rfl,rfl,B,S,ab⟩:=hrel;by_cases ah:b<n
  ·obtain ⟨aj,s,y,t,z,M,v,⟨ak,an⟩,ai,q,i⟩:=O.o wr b e ah B.o S.o ab
   subst M;have q:=J9 q;clear S B O N;by_cases af:b=0
   ·subst af
    rw [Nat.add_zero] at v;have U:=J9 (i.o.1 rfl);clear i
    go_wp2_with fail
    refine q.o.mono ?_;rintro k ac ⟨rfl,K,T⟩;clear q v;go_wp2;go_roundw
    case rel=>exact ⟨0+1,_,by omega,by go_num,rfl,U.o,K,T⟩
    case measure=>simp [intOf];omega
   ·have U:=J9 (i.o.2 (by omega))
    clear i
    go_wp2_with fail
    refine q.o.mono ?_;rintro k ac ⟨rfl,K,T⟩;clear q v;go_wp2;go_roundw
    case rel=>exact ⟨b+1,_,by omega,by go_num,rfl,U.o,K,T⟩
    case measure=>simp [intOf];omega
  ·obtain rfl:b=n:=by omega
   have i:=J9 (N.o e B.o);clear B O N;go_wp2;go_ret;rw [i.o];exact ⟨rfl,S.o⟩
def qcj (x:Ite):Prop:=x.raw.length<=300/\x.m.length<=1000/\x.C.length<=900
def XAt (w:World) (r:Xe):Prop:=BytesAt w r.A r.x.raw/\qai w r.B r.x.C
theorem XAt.below {w w':World} {r:Xe} (h:XAt w r) (k:Below w.heap.size w w'):XAt w' r:=⟨h.1.below k,h.2.below k⟩
theorem qdj (m:Str):(sB m).size=m.length:=rfl
theorem qjD {x:Ite} (h:x.kind=1) (q:x.al=false):sB (itemB x)=sB (showB (sB x.m) x.C):=by unfold itemB;rw [Qi ⟨h,q⟩]
theorem qi8 {x:Ite} (h:¬(x.kind=1/\x.al=false)):sB (itemB x)=sB (dataB x.raw):=by unfold itemB;rw [Qe h]
theorem qfS (r:Xe) (an:qcj r.x) (w:World) (aa:qad w) (H:XAt w r) :
  Calls prog 23 #[r.v] w fun E G=>E=.returned (.string (sB (itemB r.x)))/\Below w.heap.size w G:=by
 obtain ⟨x,W,J,V,T⟩:=r;obtain ⟨Z,ac,U⟩:=an;obtain ⟨M,K⟩:=H;unfold Xe.v;simp only at Z ac U M K |-;obtain ⟨ah,O,au,ag,ab,C,ap⟩:=Fr.box (Fr.nil w) #[.int .i64 x.kind,.slice W x.raw.length J,.string (sB x.m),.slice V x.C.length T,.bool x.al] 45;have I2:qas O ah x.kind (.slice W x.raw.length J) (sB x.m) (.slice V x.C.length T) x.al:=ab.o.1;obtain ⟨af,aj,ai,al,am,aq⟩:=I2.cells;have z:=J9 (qct (sB x.m) (by rw [qdj];omega) V T x.C.length x.C rfl U O (aa.below C) (K.below C));have q:=J9 (qlJ W x.raw.length J x.raw rfl (by omega) O (M.below C));have A:=J9 (qjD (x:=x));have m:=J9 (qi8 (x:=x));have h:=J9 C;obtain ⟨ak,ar,ao,av,ae⟩:=x;simp only at af aj ai al am z q A m Z U ag;clear M K aa ab I2 C ac;by_cases ad:ak=1
 ·subst ad
  cases ae with
  | false=>
   have y:=J9 (A.o rfl rfl);clear A m q
   go_enter func23,ntmps23
   go_wp2_with fail
   refine z.o.mono ?_;rintro E G ⟨rfl,e⟩;have B:=J9 (h.o.trans (e.mono h.o.size));clear z e;go_wp2;go_ret;rw [y.o];exact ⟨rfl,B.o⟩
  | true=>
   have y:=J9 (m.o (by simp));clear A m z
   go_enter func23,ntmps23
   go_wp2_with fail
   refine q.o.mono ?_;rintro E G ⟨rfl,e⟩;have B:=J9 (h.o.trans (e.mono h.o.size));clear q e;go_wp2;go_ret;rw [y.o];exact ⟨rfl,B.o⟩
 ·have y:=J9 (m.o (by simp [ad]))
  clear A m z
  go_enter func23,ntmps23
  go_wp2_with fail
  refine q.o.mono ?_;rintro E G ⟨rfl,e⟩;have B:=J9 (h.o.trans (e.mono h.o.size));clear q e;go_wp2;go_ret;rw [y.o];exact ⟨rfl,B.o⟩
theorem qfJ (r:Xe) (am:qcj r.x) (w:World) (H:XAt w r) :
  Calls prog 22 #[r.v] w fun C E=>C=.returned (.string (sB (itemB r.x)))/\Below w.heap.size w E:=by
 obtain ⟨x,W,J,V,T⟩:=r;obtain ⟨Z,ab,U⟩:=am;obtain ⟨M,K⟩:=H;unfold Xe.v;simp only at Z ab U M K |-;obtain ⟨ag,O,ar,af,aa,G,ao⟩:=Fr.box (Fr.nil w) #[.int .i64 x.kind,.slice W x.raw.length J,.string (sB x.m),.slice V x.C.length T,.bool x.al] 45;have I2:qas O ag x.kind (.slice W x.raw.length J) (sB x.m) (.slice V x.C.length T) x.al:=aa.o.1;obtain ⟨ae,ai,ah,ak,al,ap⟩:=I2.cells;have z:=J9 (qeU (sB x.m) (by rw [qdj];omega) V T x.C.length x.C rfl U O (K.below G));have q:=J9 (qi3 W x.raw.length J x.raw rfl (by omega) O (M.below G));have A:=J9 (qjD (x:=x));have m:=J9 (qi8 (x:=x));have h:=J9 G;obtain ⟨aj,aq,an,au,ad⟩:=x;simp only at ae ai ah ak al z q A m Z U af;clear M K aa I2 G ab;by_cases ac:aj=1
 ·subst ac
  cases ad with
  | false=>
   have y:=J9 (A.o rfl rfl);clear A m q
   go_enter func22,ntmps22
   go_wp2_with fail
   refine z.o.mono ?_;rintro C E ⟨rfl,e⟩;have B:=J9 (h.o.trans (e.mono h.o.size));clear z e;go_wp2;go_ret;rw [y.o];exact ⟨rfl,B.o⟩
  | true=>
   have y:=J9 (m.o (by simp));clear A m z
   go_enter func22,ntmps22
   go_wp2_with fail
   refine q.o.mono ?_;rintro C E ⟨rfl,e⟩;have B:=J9 (h.o.trans (e.mono h.o.size));clear q e;go_wp2;go_ret;rw [y.o];exact ⟨rfl,B.o⟩
 ·have y:=J9 (m.o (by simp [ac]))
  clear A m z
  go_enter func22,ntmps22
  go_wp2_with fail
  refine q.o.mono ?_;rintro C E ⟨rfl,e⟩;have B:=J9 (h.o.trans (e.mono h.o.size));clear q e;go_wp2;go_ret;rw [y.o];exact ⟨rfl,B.o⟩
theorem qfC (s:ByteArray) (L:List Tr) (h:s.size<=1000):(showB s L).length<=6000:=by
 have z:s.data.toList.length=s.size:=by simp
 unfold showB;split
 ·rename_i e
  have q:=qhL (canL (opc s) L) (by have:=(qb5 e).2.1;omega);have y:(olistS (canL (opc s) L)).data.toList.length=(olistS (canL (opc s) L)).size:=by simp
  split
  ·omega
  ·rw [Qk,Qt];omega
 ·simp
theorem qnp (r:Xe) (an:qcj r.x) (w:World) (U:qad w) (H:XAt w r) :
  Calls prog 92 #[r.v] w fun O Z=>O=.returned (.string (sB (qgM r.x)))/\Below w.heap.size w Z:=by
 obtain ⟨x,ac,K,G,C⟩:=r;obtain ⟨T,ab,E⟩:=an;obtain ⟨V,A⟩:=H;unfold Xe.v;simp only at T ab E V A |-;obtain ⟨ag,aa,av,af,W,q,ap⟩:=Fr.box (Fr.nil w) #[.int .i64 x.kind,.slice ac x.raw.length K,.string (sB x.m),.slice G x.C.length C,.bool x.al] 45;have I2:qas aa ag x.kind (.slice ac x.raw.length K) (sB x.m) (.slice G x.C.length C) x.al:=W.o.1;obtain ⟨ae,ai,ah,aj,al,aq⟩:=I2.cells;have e:=J9 (qct (sB x.m) (by rw [qdj];omega) G C x.C.length x.C rfl E aa (U.below q) (A.below q));have t:=J9 q;have J:(sB (showB (sB x.m) x.C)).size<=6000:=qfC (sB x.m) x.C (by rw [qdj];omega);obtain ⟨ak,B⟩:=N9 (sB (showB (sB x.m) x.C));rw [B] at e J;have m:Hid (x.al=true->(⟨#[32,32,59,32]⟩:ByteArray)++ak=sB (qgM x)):=fun z=>by
  rw [<- B];apply qah;rw [qaa];unfold qgM;rw [Qi z];simp [sB]
 have h:Hid (x.al=false->(⟨#[]⟩:ByteArray)=sB (qgM x)):=fun z=>by unfold qgM;rw [z];rfl
 obtain ⟨ar,au,ao,aw,ad⟩:=x;simp only at ae ai ah aj al e m h T E af J;clear V A U W I2 q ab B;cases ad with
 | false=>
  have y:=J9 (h.o (by first | rfl | trivial));clear h e m
  go_enter func92,ntmps92
  go_wp2;go_ret;rw [y.o];exact ⟨rfl,t.o⟩
 | true=>
  have y:=J9 (m.o (by first | rfl | trivial));clear h m
  go_enter func92,ntmps92
  go_wp2_with fail
  refine e.o.mono ?_;rintro O Z ⟨rfl,M⟩;have am:=J9 (t.o.trans (M.mono t.o.size));clear e M;go_wp2;go_ret;rw [y.o];exact ⟨rfl,am.o⟩
end Go.Proofs.YtecpnfhpcamljaaGreatDoor
namespace Go.Proofs.YtecpnfhpcamljaaGreatDoor
open Tryz
open Go.RowKit
open Go.Ev in
def qv1 (P:Program) (n:Nat):Bool:=match qgv P 200 8 93 [⟨false,[.int .u64 1]⟩,⟨false,[.int .u64 (n:Int)]⟩] [] 1 with
 | some (.tup [⟨false,[.int .u64 b]⟩,⟨false,[.int .u64 a]⟩],h)=>Ev.intB b 0&&Ev.intB a n
 | _=>false
def qyu (P:Program):Bool:=(List.range 20).all fun h=>qv1 P h
theorem qwo:qyu prog=true:=by decide +kernel
open Go.Ev in
theorem quD (n:Nat) (G:n<20) (w:World):Calls prog 93 #[.int .u64 1,.int .u64 (n:Int)] w fun e h=>e=.returned (.tuple #[.int .u64 0,.int .u64 (n:Int)])/\Below w.heap.size w h:=by
 have a:=QA.1 (show (List.range 20).all (fun n=>qv1 prog n)=true from qwo) n (QZ.2 G);unfold qv1 at a;split at a
 ·rename_i V T U M
  refine (qmj M (us:=[.int .u64 1,.int .u64 (n:Int)]) ⟨_,_,rfl,⟨_,rfl,rfl⟩,_,_,rfl,⟨_,rfl,rfl⟩,rfl⟩ w).mono ?_;rintro e h ⟨ad,W,rfl,⟨z,rfl,q,aa,b,⟨Z,O,y⟩,u,ac,rfl,⟨ab,J,K⟩,rfl⟩,E⟩;cases O;cases J;have b:z=#[q,u]:=Array.ext' b;subst b;rw [Qd] at a;rw [show q=_ from y,show u=_ from K,Ev.qBf a.1,Ev.qBf a.2];exact ⟨rfl,E.below⟩
 ·cases a
def spS (n:Nat):ByteArray:=sB (List.replicate n 32)
theorem qzf (n:Nat) (q:n<=18):∀ h:ByteArray,h=sB (List.replicate 128 32)->h.extract 0 n=spS n:=by
 rintro h rfl;apply qah;rw [Lib.extract_data];unfold spS sB;show List.take (n - 0) (List.drop 0 (List.replicate 128 32))=List.replicate n 32;rw [Qx,Nat.sub_zero,List.take_replicate,Nat.min_eq_left (by omega)]
theorem qoe (s p:ByteArray) (y:s.size<=maxLen) (h:p.size<=maxLen) (w:World) :
  Calls prog 94 #[.string s,.string p] w fun z q=>z=.returned (.bool (preB s p))/\w=q:=by
 have e:=J9 (qev s p y h w);obtain ⟨G,E⟩:=N9 (preB s p);rw [E] at e |-;clear y h E
 go_enter func94,ntmps94
 go_wp2_with fail
 refine e.o.mono ?_;rintro z q ⟨rfl,rfl⟩;clear e;go_wp2;go_ret;exact ⟨rfl,rfl⟩
theorem quS (n:Nat) (O:n<=18) (w:World) :
  Calls prog 55 #[.string ⟨#[32]⟩,.int .i64 (n:Int)] w fun e q=>e=.returned (.string (spS n))/\Below w.heap.size w q:=by
 by_cases T:n=0
 ·subst T
  have V:Hid ((⟨#[]⟩:ByteArray)=spS 0):=rfl
  go_enter func55,ntmps55
  go_wp2;go_ret;exact ⟨rfl,Qc _ _⟩
 by_cases z:n=1
 ·subst z
  go_enter func55,ntmps55
  go_wp2;go_ret;exact ⟨rfl,Qc _ _⟩
 have y:=J9 (quD n (by omega) w);have U:2<=n:=by omega
 go_enter func55,ntmps55
 go_wp2_with fail
 refine y.o.mono ?_;rintro e W ⟨rfl,s⟩;have M:=J9 s;clear y s;have G:∀ p h w,preB h p=true->h.size<=200->p.size<=200->Hid (Calls prog 94 #[.string h,.string p] w fun e q=>e=.returned (.bool true)/\w=q):=fun p h w K z U=>by
  have E:=qoe h p (by unfold maxLen;omega) (by unfold maxLen;omega) w;rw [K] at E;exact E
 go_wp2_with fail
 refine (G _ _ _ (by decide +kernel) (by decide +kernel) (by decide +kernel)).o.mono ?_;rintro e q ⟨rfl,rfl⟩;clear G;go_wp2;go_ret;exact ⟨congrArg (fun J=>Ending.returned (.string J)) (qzf n O _ (by rfl)),M.o⟩
end Go.Proofs.YtecpnfhpcamljaaGreatDoor
namespace Go.Proofs.YtecpnfhpcamljaaGreatDoor
open Tryz
open Go.RowKit Go.Shelf
attribute [local go_sem] Oper.semAt_some
end Go.Proofs.YtecpnfhpcamljaaGreatDoor
namespace Go.Proofs.YtecpnfhpcamljaaGreatDoor
open Tryz
open Go.RowKit Go.Shelf
attribute [local go_sem] Oper.semAt_some
attribute [local irreducible] Go.Mixed.qAU
theorem qtz {w:World} {n l c:Nat} {A:Option Addr} {xs:Str} (q:qat w n (.slice A l c) xs):BytesAt w A xs:=by
 obtain ⟨y,z,e,h⟩:=q.bytes;simp only [Qy] at e;rw [e.1];exact h
def ItJ (w:World) (A:Option Addr) (r:Xe) (j:Nat):Prop:=∃ h b,A=some ⟨h,b,none⟩/\w.cell? ⟨h,b+j*5,none⟩=some (.int .i64 r.x.kind)/\w.cell? ⟨h,b+j*5+1,none⟩=some (.slice r.A r.x.raw.length r.ca)/\w.cell? ⟨h,b+j*5+2,none⟩=some (.string (sB r.x.m))/\w.cell? ⟨h,b+j*5+3,none⟩=some (.slice r.B r.x.C.length r.cb)/\w.cell? ⟨h,b+j*5+4,none⟩=some (.bool r.x.al)/\BytesAt w r.A r.x.raw/\qai w r.B r.x.C
theorem qdX.j {w:World} {A:Option Addr} {R:List Xe} (y:qdX w A R) {k:Nat} (E:k<R.length):ItJ w A R[k] k:=by
 obtain ⟨q,h,b,-,z⟩:=y.at_ E;exact ⟨q,h,b,z⟩
end Go.Proofs.YtecpnfhpcamljaaGreatDoor
namespace Go.Proofs.YtecpnfhpcamljaaGreatDoor
open Tryz
open Go.RowKit Go.Shelf Cm
attribute [local go_sem] Oper.semAt_some
attribute [local irreducible] Go.Mixed.qAU
def qtF:Array Value:=#[.int .i64 0,.int .i64 0,.func (.func 88) #[] #[],.int .i64 6,.int .i64 2,.func (.func 89) #[] #[],.int .i64 18,.int .i64 2,.func (.func 91) #[] #[]]
theorem qlu (w:World):Calls prog 54 #[] w fun o h=>o=.returned (.agg qtF)/\Below w.heap.size w h:=by
 have B0:∀ e,Hid (Below w.heap.size w (w.alloc e)):=fun e=>B0
 go_enter func54,ntmps54
 go_wp2;refine bodyPost_ret (v:=.agg qtF) ?_ rfl ⟨rfl,(B0 _).o⟩;simp [results,results54,go_sem,qtF]
theorem qzB:(45 : TypeId)≠5:=by decide
theorem qzk:(72 : TypeId)≠5:=by decide
section
variable (r:Xe) (hr:qcj r.x) (a:Int) (w:World)
theorem qro:Calls prog 88 #[.int .i64 a,r.v] w fun x z=>x=.returned (.string (hexS a 4))/\Below w.heap.size w z:=by
 obtain ⟨e,O,B,K,J⟩:=r;unfold Xe.v;obtain ⟨W,G,Z,T,E,A,U⟩:=Fr.box (Fr.nil w) #[.int .i64 e.kind,.slice O e.raw.length B,.string (sB e.m),.slice K e.C.length J,.bool e.al] 45;have h:=J9 (qkr a 4 (by omega) G);have q:=J9 A;obtain ⟨V,y⟩:=N9 (hexS a 4);rw [y] at h |-;clear y E A
 go_enter func88,ntmps88
 go_wp2_with fail
 refine h.o.mono ?_;rintro x z ⟨rfl,s⟩;have M:=J9 (q.o.trans (s.mono q.o.size));clear h s;go_wp2;go_ret;exact ⟨rfl,M.o⟩
include hr in
theorem qs8 (H:XAt w r):Calls prog 89 #[.int .i64 a,r.v] w fun B J=>B=.returned (.string (sB (qh5 r.x)))/\Below w.heap.size w J:=by
 obtain ⟨x,y,h,O,M⟩:=r;obtain ⟨V,ab,aa⟩:=hr;obtain ⟨q,Z⟩:=H;unfold Xe.v;simp only at V q |-;obtain ⟨W,K,am,ae,G,s,af⟩:=Fr.box (Fr.nil w) #[.int .i64 x.kind,.slice y x.raw.length h,.string (sB x.m),.slice O x.C.length M,.bool x.al] 45;have I2:qas K W x.kind (.slice y x.raw.length h) (sB x.m) (.slice O x.C.length M) x.al:=G.o.1;obtain ⟨ad,aj,ah,ak,an,ai⟩:=I2.cells;have T:∀ args w,(callFunc 90 args).run prog w=.ok (.enter 90 args) w:=enters_of func90 (by kernel_rfl) rfl;have e:=J9 (qp9 90 qd1 T qrz (fun x=>by rw [qfZ];omega) [32] (by decide) y x.raw.length h x.raw rfl (by omega) K (q.below s));have z:=J9 s;have U:sB [32]=⟨#[32]⟩:=rfl;rw [U] at e;unfold qh5;obtain ⟨ag,E⟩:=N9 (sB (qdE [32] (x.raw.map qd1)));rw [E] at e |-;clear E U q Z G I2 s ab aa T
 go_enter func89,ntmps89
 go_wp2_with fail
 refine e.o.mono ?_;rintro B J ⟨rfl,A⟩;have ac:=J9 (z.o.trans (A.mono z.o.size));clear e A;go_wp2;go_ret;exact ⟨rfl,ac.o⟩
theorem qr5 (b:Str) (h:b.length<=1000):(dataB b).length<=8000:=by rw [<- qjd];exact qjH b _ h
theorem qfx {x:Ite} (h:qcj x):(itemB x).length<=8000:=by
 unfold itemB;split
 ·exact Qj (qfC _ _ (by rw [qdj];exact h.2.1)) (by omega)
 ·exact qr5 _ (by have:=h.1;omega)
theorem qk6 {x:Ite} (e:qcj x):(qgM x).length<=8000:=by
 unfold qgM;split
 ·have:=qfC (sB x.m) x.C (by rw [qdj];exact e.2.1)
  rw [Qk];have h:([32,32,59,32]:Str).length=4:=rfl;omega
 ·simp
theorem qhQ {x:Ite} (h:qcj x):(qh5 x).length<=1000:=by
 have y:=qd2 [32] (x.raw.map qd1) 1 2 (by decide) fun E q=>by
  obtain ⟨z,-,rfl⟩:=Zq.1 q;rw [qfZ];omega
 rw [QC] at y;unfold qh5;have:=h.1;omega
include hr in
theorem qrr (ab:qad w) (H:XAt w r):Calls prog 91 #[.int .i64 a,r.v] w fun z E=>z=.returned (.string (sB (itemB r.x++qgM r.x)))/\Below w.heap.size w E:=by
 have U:Hid (∀ e,Below w.heap.size w e->Calls prog 23 #[r.v] e fun z E=>z=.returned (.string (sB (itemB r.x)))/\Below e.heap.size e E):=fun e y=>qfS r hr e (ab.below y) (H.below y)
 have M:Hid (∀ e,Below w.heap.size w e->Calls prog 92 #[r.v] e fun z E=>z=.returned (.string (sB (qgM r.x)))/\Below e.heap.size e E):=fun e y=>qnp r hr e (ab.below y) (H.below y)
 have aA:(sB (itemB r.x)).size<=8000:=qfx hr;have av:(sB (qgM r.x)).size<=8000:=qk6 hr;have V:Hid (sB (itemB r.x)++sB (qgM r.x)=sB (itemB r.x++qgM r.x)):=by
  apply qah;rw [qaa];simp [sB]
 obtain ⟨aw,ah⟩:=N9 (sB (itemB r.x));obtain ⟨aD,ak⟩:=N9 (sB (qgM r.x));rw [ah] at U aA V;rw [ak] at M av V;clear ah ak hr ab H;obtain ⟨x,t,h,s,q⟩:=r;unfold Xe.v at U M |-;simp only at U M V |-;obtain ⟨J,G,aG,au,aj,aq,aF⟩:=Fr.box (Fr.nil w) #[.int .i64 x.kind,.slice t x.raw.length h,.string (sB x.m),.slice s x.C.length q,.bool x.al] 45;have I2:qas G J x.kind (.slice t x.raw.length h) (sB x.m) (.slice s x.C.length q) x.al:=aj.o.1;have ad:=J9 aq;have B:Hid (∀ e,Below G.heap.size G e->qas e J x.kind (.slice t x.raw.length h) (sB x.m) (.slice s x.C.length q) x.al/\Below w.heap.size w e):=fun e y=>⟨I2.all y,ad.o.trans (y.mono ad.o.size)⟩
 clear aj I2 aq
 go_enter func91,ntmps91
 go_upto_region 1 with fail
 obtain ⟨T,Z⟩:=N9 (G.drew);have O:Below G.heap.size G T:=by rw [<- Z];exact below_drewN G _ 1
 have an:Hid (qas T J x.kind (.slice t x.raw.length h) (sB x.m) (.slice s x.C.length q) x.al):=(B.o T O).1;have ai:=J9 (B.o T O).2;refine Mixed.qAQ (fun E=>qas E J x.kind (.slice t x.raw.length h) (sB x.m) (.slice s x.C.length q) x.al) 5 [(0,true),(2,true),(1,false),(3,false),(4,true)] (by kernel_rfl) (by kernel_rfl) (by rw [Z];exact an.o) ?_;rw [Z];refine Mixed.mo rfl (.agg #[.int .i64 x.kind,.slice t x.raw.length h,.string (sB x.m),.slice s x.C.length q,.bool x.al]) (fun w A=>by obtain ⟨ar,aB,ay,aC,aE,az⟩:=qas.cells A;clear A;go_simp;try rfl) ?_;refine Mixed.mo rfl (.agg #[.int .i64 x.kind,.slice t x.raw.length h,.string (sB x.m),.slice s x.C.length q,.bool x.al]) (fun w A=>by obtain ⟨ar,aB,ay,aC,aE,az⟩:=qas.cells A;clear A;go_simp;try rfl) ?_;refine Mixed.qAR rfl (by kernel_rfl) ?_;have I3:=J9 (U.o T ai.o);clear Z au
 go_wp2_with fail
 refine I3.o.mono ?_;rintro z W ⟨rfl,ao⟩;have K:=O.trans (ao.mono O.size);have ae:Hid (qas W J x.kind (.slice t x.raw.length h) (sB x.m) (.slice s x.C.length q) x.al):=(B.o W K).1;have af:=J9 (B.o W K).2;clear I3 U ao an ai O;go_wp2;refine ⟨ae.o,?_⟩;refine Mixed.qAR rfl (by kernel_rfl) ?_;have am:=J9 (M.o W af.o)
 go_wp2_with fail
 refine am.o.mono ?_;rintro z aa ⟨rfl,ag⟩;have ac:=K.trans (ag.mono K.size);have ap:Hid (qas aa J x.kind (.slice t x.raw.length h) (sB x.m) (.slice s x.C.length q) x.al):=(B.o aa ac).1;have ax:=J9 (B.o aa ac).2;clear am M ag ae af K ac B;go_wp2;refine ⟨ap.o,?_⟩;refine Mixed.mo rfl (.string (aw++aD)) (fun w A=>by clear A;go_simp;try omega) ?_;simp only [Mixed.qAU,Qr,Qx];clear ap;go_wp2;go_ret;rw [V.o];exact ⟨rfl,ax.o⟩
end
def qga (a:Int) (x:Ite):Nat->Str
 | 0=>[]
 | 1=>(hexS a 4).data.toList
 | 2=>(hexS a 4).data.toList++(List.replicate 2 32++qh5 x)
 | _=>(hexS a 4).data.toList++(List.replicate 2 32++qh5 x)++(List.replicate (qkj (6+(qh5 x).length)) 32++(itemB x++qgM x))
theorem qcC (a:Int):(hexS a 4).data.toList.length=4:=by
 have e:=qaQ a 4;have h:(hexS a 4).data.toList.length=(hexS a 4).size:=by simp
 omega
theorem qlW (a:Int) {x:Ite} (h:qcj x):∀ k,(qga a x k).length<=20000
 | 0=>by simp [qga]
 | 1=>by simp only [qga,qcC];omega
 | 2=>by
  have:=qhQ h;simp only [qga,Qk,qcC,List.length_replicate];omega
 | k+3=>by
  have q:=qhQ h;have y:=qfx h;have E:=qk6 h;have z:qkj (6+(qh5 x).length)<=18:=by unfold qkj;omega
  simp only [qga,Qk,qcC,List.length_replicate];omega
theorem qmc {a:Int} (x:Ite) (h:qfB a=true):qga a x 3=rowB a x:=by
 unfold qfB at h;simp only [Qd,Qf] at h;unfold rowB;rw [Qi h];simp [qga]
structure Colm (a:Int) (r:Xe) (w2:World) (k:Nat) (st ls:Int) (F:FuncId) (sp:Nat) (T:ByteArray):Prop where
 ix:∀ w,(Instr.index 73 (.agg qtF) (.int .i64 (k:Int))).run prog w=.ok (.agg #[.int .i64 st,.int .i64 ls,.func (.func F) #[] #[]]) w
 en:∀ args w,(callFunc F args).run prog w=.ok (.enter F args) w
 b0:0<=st/\st<=18/\0<=ls/\ls<=2
 mx:max (st - ((qga a r.x k).length:Int)) ls=(sp:Int)
 sz:sp<=18
 tx:T.size<=16000
 nx:qga a r.x (k+1)=qga a r.x k++((spS sp).data.toList++T.data.toList)
 ca:∀ W,Below w2.heap.size w2 W->Calls prog F #[.int .i64 a,r.v] W fun e w'=>e=.returned (.string T)/\Below W.heap.size W w'
theorem qfq (n:Nat):(spS n).data.toList=List.replicate n 32:=by unfold spS sB;simp
theorem qAI (a:Int) (r:Xe) (q:qcj r.x) (w2:World) (z:qad w2) (H:XAt w2 r) (k:Nat) (K:k<3):∃ J M F G E,Colm a r w2 k J M F G E:=by
 match k,K with
 | 0,_=>
  refine ⟨0,0,88,0,hexS a 4,fun y=>by kernel_rfl,enters_of func88 (by kernel_rfl) rfl,by decide,by simp [qga],by omega,by rw [qaQ];omega,?_,fun w h=>qro r a w⟩;rw [qfq];simp [qga]
 | 1,_=>
  refine ⟨6,2,89,2,sB (qh5 r.x),fun y=>by kernel_rfl,enters_of func89 (by kernel_rfl) rfl,by decide,by simp only [qga,qcC];decide,by omega,Qj (qhQ q) (by omega),?_,fun w h=>qs8 r q a w (H.below h)⟩;rw [qfq];simp [qga,sB]
 | 2,_=>
  refine ⟨18,2,91,qkj (6+(qh5 r.x).length),sB (itemB r.x++qgM r.x),fun y=>by kernel_rfl,enters_of func91 (by kernel_rfl) rfl,by decide,?_,by unfold qkj;omega,?_,?_,fun w h=>qrr r q a w (z.below h) (H.below h)⟩
  ·simp only [qga,Qk,qcC,List.length_replicate]
   unfold qkj;omega
  ·show (itemB r.x++qgM r.x).length<=_
   rw [Qk];have O:=qfx q;have T:=qk6 q;omega
  ·rw [qfq]
   simp [qga,sB]
end Go.Proofs.YtecpnfhpcamljaaGreatDoor
namespace Go.Proofs.YtecpnfhpcamljaaGreatDoor
open Tryz
open Go.RowKit Go.Shelf Cm
attribute [local go_sem] Oper.semAt_some
attribute [local irreducible] Go.Mixed.qAU
theorem qx4 {a:Int} (x:Ite) (h:qfB a=false):(⟨#[]⟩:ByteArray)=sB (rowB a x):=by
 unfold qfB at h;unfold rowB;rw [Qe (fun q=>by simp [q.1,q.2] at h)];rfl
theorem qhK (a:Int) (r:Xe) (aW:qcj r.x) (w:World) (a6:qad w) (H:XAt w r) :
  Calls prog 24 #[.int .i64 a,r.v] w fun o aJ=>o=.returned (.string (sB (rowB a r.x)))/\Below w.heap.size w aJ:=by
 obtain ⟨x,J,K,B,G⟩:=r;obtain ⟨ah,M,bX,bE,bn,ak,bI⟩:=Fr.box (Fr.nil w) #[.int .i64 x.kind,.slice J x.raw.length K,.string (sB x.m),.slice B x.C.length G,.bool x.al] 45;have ai:Hid (∀ h,h<3->∃ t z A C ax,Colm a ⟨x,J,K,B,G⟩ M h t z A C ax):=fun h bc=>qAI a ⟨x,J,K,B,G⟩ aW M (a6.below ak) (H.below ak) h bc
 have ac:=J9 (qlW a aW);have I2:qas M ah x.kind (.slice J x.raw.length K) (sB x.m) (.slice B x.C.length G) x.al:=bn.o.1;have ad:=J9 (qgh a M);have ag:=J9 (qx4 (a:=a) x);have am:=J9 (qmc (a:=a) x);have ao:=J9 ak;have I2:=J9 I2;unfold Xe.v;simp only at ai ac |-;obtain ⟨bu,aY⟩:=N9 (qfB a);rw [aY] at ad ag am;clear aY a6 H aW bn ak;cases bu with
 | false=>
  have av:=J9 (ag.o rfl);clear ai ac I2 ag am
  go_enter func24,ntmps24
  go_wp2_with fail
  refine ad.o.mono ?_;rintro o aJ ⟨rfl,m⟩;have aM:=J9 (ao.o.trans (m.mono ao.o.size));clear ad m;go_wp2;go_ret;rw [av.o];exact ⟨rfl,aM.o⟩
 | true=>
  have av:=J9 (am.o rfl);clear ag am
  go_enter func24,ntmps24
  go_wp2_with fail
  refine ad.o.mono ?_;rintro o k ⟨rfl,aC⟩;obtain ⟨i,af⟩:=N9 (k.heap.size);have bB:M.heap.size<=i:=by rw [<- af];exact aC.size
  have aP:=J9 (qb9 k);obtain ⟨aA,aj⟩:=N9 (k.alloc (.cells #[.pointer none,.slice none 0 0] 100));rw [aj,af] at aP;have az:Hid (CB i i aA []):=by
   have e:=CB.fresh (B:=k.heap.size) k (Qa _);rw [aj,af] at e;exact e
  have a0:Hid (Below i k aA):=by rw [<- aj,<- af];exact B0
  have aU:Hid (∀ c,Below i k c->Below M.heap.size M c):=fun c m=>aC.trans (m.mono bB)
  clear ad aC aj
  go_wp2_with fail
  refine aP.o.mono ?_;rintro o aJ ⟨rfl,rfl⟩;have bf:=J9 (qlu aA);clear aP
  go_wp2_with fail
  refine bf.o.mono ?_;rintro o bA ⟨rfl,aT⟩;have a2:Hid (CB i i bA (qga a x 0)):=az.o.more aT;have be:=J9 (a0.o.trans (aT.mono (QV az.o.lt)));clear bf aT az a0;go_wp2
  go_loopw [14] (fun aG wr=>∃ h:Nat,h<=3/\aG=.int .i64 h/\Hid (CB i i wr (qga a x h))/\Hid (Below i k wr)) (fun aG _=>3 - (intOf aG).toNat)
  case atStart=>exact ⟨0,Qu _,rfl,a2,be⟩
  case round=>
   clear a2 be;obtain ⟨h,bc,rfl,T,an⟩:=hrel;by_cases bC:h<3
   ·obtain ⟨t,z,A,C,ax,bv⟩:=ai.o h bC
    obtain ⟨bT,bZ,⟨bJ,bR,bM,bP⟩,ar,bz,bS,aF,ap⟩:=bv;simp only at ar aF;unfold Xe.v at ap;simp only at ap;have bq:=J9 ap;have a7:=J9 aF;obtain ⟨q,E,bO,bN,aZ,aK,bQ⟩:=Fr.box (Fr.nil wr) #[.int .i64 t,.int .i64 z,.func (.func A) #[] #[]] 72;have a4:=J9 (T.o.more aK);have bD:i<wr.heap.size:=T.o.lt;have bd:Hid (Below i k E):=an.o.trans (aK.mono (by omega));have bk:Hid (E.heap[q]?=some (.cells #[.int .i64 t,.int .i64 z,.func (.func A) #[] #[]] 72 (0,0))):=aZ.o.1;clear T an aZ aK ap aF
    go_upto_region 7 with fail
    obtain ⟨ab,au⟩:=N9 (E.drew);have V:Below E.heap.size E ab:=(by rw [<- au];exact below_drewN E _ 1);have bm:=J9 (a4.o.more V);have bl:Hid (Below i k ab):=bd.o.trans (V.mono (by omega));have aH:Hid (ab.heap[q]?=some (.cells #[.int .i64 t,.int .i64 z,.func (.func A) #[] #[]] 72 (0,0))):=(V.block q (by omega)).trans bk.o;have bW:E.heap.size<=ab.heap.size:=V.size;refine Mixed.qAQ (fun c=>c.heap[q]?=some (.cells #[.int .i64 t,.int .i64 z,.func (.func A) #[] #[]] 72 (0,0))) 9 [(0,true),(1,true),(2,true),(6,true),(7,true),(3,false),(4,true),(5,true),(8,true)] (by kernel_rfl) (by kernel_rfl) (by rw [au];exact aH.o) ?_;rw [au];clear au V a4 bd bk;refine Mixed.mp rfl (.pointer (some ⟨q,0,none⟩)) ?_;refine Mixed.mo rfl (.int .i64 t) (fun w e=>by obtain ⟨aw,aL,ay⟩:=Fr.cells3 e;clear e;go_simp;try rfl) ?_;refine Mixed.mp rfl (.func (.func 67) #[] #[.pointer (some ⟨i,0,none⟩)]) ?_;refine Mixed.mp rfl (.pointer (some ⟨q,1,none⟩)) ?_;refine Mixed.mo rfl (.int .i64 z) (fun w e=>by obtain ⟨aw,aL,ay⟩:=Fr.cells3 e;clear e;go_simp;try rfl) ?_;refine Mixed.qAR rfl (by kernel_rfl) ?_;have F:=J9 (qdc (w:=k) bm.o bl.o (by omega) (by have:=ac.o h;omega));have aV:(St.strOf (qga a x h)).size=(qga a x h).length:=St.qA9 _;have bx:=ac.o h;obtain ⟨bG,bo⟩:=N9 (St.strOf (qga a x h));obtain ⟨a5,bp⟩:=N9 ((qga a x h).length);rw [bo] at F aV;rw [bp] at aV ar bx;clear bm bl bo
    go_wp2_with fail
    refine F.o.mono ?_;rintro o y ⟨rfl,W,aI,Z⟩;have aO:=J9 (aI.block aH.o (by omega) qzk);have W:=J9 W;have Z:=J9 Z;have bU:ab.heap.size<=y.heap.size:=aI.bel.size;clear F aH aI;go_wp2;refine ⟨aO.o,?_⟩;refine Mixed.mo rfl (.int .i64 (a5:Int)) (fun w e=>by clear e;go_simp;try omega) ?_;refine Mixed.mo rfl (.int .i64 (t - (a5:Int))) (fun w e=>by clear e;go_simp;exact IntWalk.i64_in _ (by omega)) ?_;refine Mixed.mo rfl (.int .i64 (C:Int)) (fun w e=>by clear e;go_simp;try (rw [<- ar];omega)) ?_;simp only [Mixed.qAU,Qr,Qx];clear aV ar
    go_upto_region 8 with fail
    obtain ⟨aN,ae⟩:=N9 (y.drew);have U:Below y.heap.size y aN:=(by rw [<- ae];exact below_drewN y _ 1);have C9:=J9 (W.o.more U);have bt:=J9 (Z.o.trans (U.mono (by omega)));have bb:Hid (∀ c,Below i k c->qas c ah x.kind (.slice J x.raw.length K) (sB x.m) (.slice B x.C.length G) x.al):=(fun c m=>I2.o.all (aU.o c m));have aa:Hid (∀ c,Below y.heap.size y c->c.heap[q]?=some (.cells #[.int .i64 t,.int .i64 z,.func (.func A) #[] #[]] 72 (0,0))/\Below i k c/\qas c ah x.kind (.slice J x.raw.length K) (sB x.m) (.slice B x.C.length G) x.al):=fun c m=>
     have e:=Z.o.trans (m.mono (by omega))
     ⟨(m.block q (by omega)).trans aO.o,e,bb.o c e⟩
    refine Mixed.qAQ (fun c=>c.heap[q]?=some (.cells #[.int .i64 t,.int .i64 z,.func (.func A) #[] #[]] 72 (0,0))/\Below i k c/\qas c ah x.kind (.slice J x.raw.length K) (sB x.m) (.slice B x.C.length G) x.al) 9 [(0,true),(1,true),(3,true),(4,true),(5,true),(6,true),(2,false),(7,false),(8,false)] (by kernel_rfl) (by kernel_rfl) (by rw [ae];exact aa.o aN U) ?_;rw [ae];clear ae aO;refine Mixed.mp rfl (.func (.func 67) #[] #[.pointer (some ⟨i,0,none⟩)]) ?_;refine Mixed.mp rfl (.int .i64 (C:Int)) ?_;refine Mixed.mp rfl (.pointer (some ⟨q,2,none⟩)) ?_;refine Mixed.mo rfl (.func (.func A) #[] #[]) (fun w e=>by obtain ⟨aw,aL,ay⟩:=Fr.cells3 e.1;clear e;go_simp;try rfl) ?_;refine Mixed.mp rfl (.int .i64 a) ?_;refine Mixed.mo rfl (.agg #[.int .i64 x.kind,.slice J x.raw.length K,.string (sB x.m),.slice B x.C.length G,.bool x.al]) (fun w e=>by obtain ⟨aw,aL,ay,bK,bL,bF⟩:=qas.cells e.2.2;clear e;go_simp;try rfl) ?_;refine Mixed.qAR rfl (by kernel_rfl) ?_;have a9:=J9 (quS C bz aN)
    go_wp2_with fail
    refine a9.o.mono ?_;rintro o aR ⟨rfl,bs⟩;have aq:=U.trans (bs.mono U.size);have aE:=J9 (aa.o aR aq);clear a9 bs C9 bt U;go_wp2;refine ⟨aE.o,?_⟩;refine Mixed.qAR rfl (by kernel_rfl) ?_;have a1:=J9 (bq.o aR (aU.o aR aE.o.2.1))
    go_wp2_with fail
    refine a1.o.mono ?_;rintro o aX ⟨rfl,bg⟩;have R:=aq.trans (bg.mono aq.size);have aQ:=J9 (aa.o aX R);have bj:=J9 (W.o.more R);clear a1 bq bg aE aq;go_wp2;refine ⟨aQ.o,?_⟩;refine Mixed.qAR rfl (by kernel_rfl) ?_;have a3:∀ O,Hid (Below y.heap.size y (aX.alloc O)):=(fun O=>R.alloc R.size O);have br:=(fun O=>J9 (aa.o (aX.alloc O) (a3 O).o));go_wp2;refine ⟨(br _).o,?_⟩;simp only [Mixed.qAU,Qr,Qx];have bY:(spS C).size<=18:=by
     have o:(spS C).data.toList.length=(spS C).size:=(by simp);rw [qfq,List.length_replicate] at o;omega
    have aD:=J9 (qer (w:=k) bj.o aQ.o.2.1 (by have:=R.size;omega) (spS C) ax (by rw [bp];omega));rw [<- a7.o] at aD;clear aQ bj aa bb br a3 R W Z a7
    go_wp2_with fail
    refine aD.o.mono ?_;rintro o bV ⟨rfl,aS,bw,aB⟩;have aS:=J9 aS;have aB:=J9 aB;clear aD bw;go_wp2;go_roundw
    case rel=>exact ⟨h+1,by omega,by go_num,aS.o,aB.o⟩
    case measure=>simp [intOf];omega
   ·obtain rfl:h=3:=by omega
    have F:=J9 (qdc (w:=k) T.o an.o (QV T.o.lt) (by have:=ac.o 3;omega));have bh:St.strOf (qga a x 3)=sB (rowB a x):=(by rw [av.o];rfl);rw [bh] at F;have a8:Hid (∀ c,Below i k c->Below w.heap.size w c):=(fun c m=>ao.o.trans ((aU.o c m).mono ao.o.size));obtain ⟨bH,bi⟩:=N9 (sB (rowB a x));rw [bi] at F;clear T an bh ai
    go_wp2_with fail
    refine F.o.mono ?_;rintro o E ⟨rfl,-,-,m⟩;have aM:=J9 (a8.o E m);clear F m a8;go_wp2;go_ret;rw [bi];exact ⟨rfl,aM.o⟩
end Go.Proofs.YtecpnfhpcamljaaGreatDoor
namespace Go.Proofs.YtecpnfhpcamljaaGreatDoor
open Tryz
open Go.RowKit Go.Shelf Cm
attribute [local go_sem] Oper.semAt_some
def qkc (a:Int) (x:Ite) (k:Nat):Str:=(hexS a 4).data.toList++[32,32]++qdE [32] ((x.raw.map qd1).take k)
def qiG (a:Int) (x:Ite) (j:Nat):Str:=(hexS a 4).data.toList++[32,32]++qh5 x++List.replicate j 32
theorem qtC (a:Int) (x:Ite):qkc a x x.raw.length=qiG a x 0:=by
 unfold qkc qiG qh5;rw [QW (by simp)];simp
theorem qre (a:Int) {x:Ite} (h:qcj x) (k:Nat):(qkc a x k).length<=2000:=by
 have E:=qd2 [32] ((x.raw.map qd1).take k) 1 2 (by decide) fun z e=>by
  obtain ⟨q,-,rfl⟩:=Zq.1 (List.mem_of_mem_take e);rw [qfZ];omega
 have y:((x.raw.map qd1).take k).length<=300:=by
  have:=h.1;rw [QH,QC];omega
 unfold qkc;rw [Qk,Qk,qcC];have G:([32,32]:Str).length=2:=rfl;omega
theorem qsx (a:Int) (x:Ite) (h:0<x.raw.length):sB (qkc a x 0)++hexS (x.raw[0].toNat:Int) 2=sB (qkc a x 1):=by
 apply qah;rw [qaa];unfold qkc;rw [qhV [32] _ (by simpa using h)];simp [sB,qdE,qd1]
theorem qqy (a:Int) (x:Ite) (k:Nat) (q:0<k) (h:k<x.raw.length):(sB (qkc a x k)++⟨#[32]⟩)++hexS (x.raw[k].toNat:Int) 2=sB (qkc a x (k+1)):=by
 apply qah;rw [qaa,qaa];unfold qkc;rw [qgE [32] _ k q (by simpa using h)];simp [sB,qd1]
theorem qsp (a:Int) (x:Ite) (j:Nat):(qiG a x j).length=6+(qh5 x).length+j:=by
 unfold qiG;rw [Qk,Qk,Qk,qcC,List.length_replicate];rfl
theorem qr0 (a:Int) (x:Ite):sB (qiG a x 0)++⟨#[32,32]⟩=sB (qiG a x 2):=by
 apply qah;rw [qaa];unfold qiG;simp [sB]
theorem qoW (a:Int) (x:Ite) (j:Nat):sB (qiG a x j)++⟨#[32]⟩=sB (qiG a x (j+1)):=by
 apply qah;rw [qaa];unfold qiG;simp [sB,List.replicate_succ']
theorem qs6 {a:Int} (x:Ite) (h:qfB a=true):qiG a x (qkj (6+(qh5 x).length))++(itemB x++qgM x)=rowB a x:=by
 unfold qfB at h;simp only [Qd,Qf] at h;unfold rowB qiG;rw [Qi h]
theorem qmr (a:Int) (r:Xe) (S:qcj r.x) (w:World) (H:XAt w r) :
  Calls prog 25 #[.int .i64 a,r.v] w fun k O=>k=.returned (.string (sB (rowB a r.x)))/\Below w.heap.size w O:=by
 have bf:(a<0\/65535<a)\/(0<=a/\a<=65535):=by omega
 have A:Hid (∀ h,Below w.heap.size w h->Calls prog 22 #[r.v] h fun k O=>k=.returned (.string (sB (itemB r.x)))/\Below h.heap.size h O):=fun h y=>qfJ r S h (H.below y)
 have E:Hid (∀ h,Below w.heap.size w h->Calls prog 12 #[.agg #[.string (sB r.x.m),r.b]] h fun k O=>k=.returned (.string (sB (showB (sB r.x.m) r.x.C)))/\Below h.heap.size h O):=fun h y=>
  qeU (sB r.x.m) (by rw [qdj];have:=S.2.1;omega) r.B r.cb r.x.C.length r.x.C rfl S.2.2 h (H.2.below y)
 have aZ:(sB (itemB r.x)).size<=8000:=qfx S;have a5:(sB (showB (sB r.x.m) r.x.C)).size<=8000:=Qj (qfC (sB r.x.m) r.x.C (by rw [qdj];exact S.2.1)) (by omega);have aW:=J9 (qre a S);have bv:=qhQ S;obtain ⟨x,W,aw,ay,aq⟩:=r;obtain ⟨s,av⟩:=N9 (x.raw.length);have bD:s<=300:=by rw [<- av];exact S.1
 obtain ⟨aE,m,az,bg,a9,af,bC⟩:=Fr.box (Fr.nil w) #[.int .i64 x.kind,.slice W s aw,.string (sB x.m),.slice ay x.C.length aq,.bool x.al] 45;have I2:qas m aE x.kind (.slice W s aw) (sB x.m) (.slice ay x.C.length aq) x.al:=a9.o.1;obtain ⟨z,aG⟩:=N9 (m.heap.size);have N:Hid (∀ h,Below z m h->qas h aE x.kind (.slice W s aw) (sB x.m) (.slice ay x.C.length aq) x.al/\Below w.heap.size w h/\BytesAt h W x.raw):=fun h y=>by
  have aV:Below m.heap.size m h:=by rw [aG];exact y
  have a0:=af.trans (aV.mono af.size);exact ⟨I2.all aV,a0,H.1.below a0⟩
 have ao:Hid (∀ (wr:World) (e:Nat) (b:ByteArray),e<s->b=sB (qkc a x e)->Below z m wr->z<=wr.heap.size->b.size<=2000/\∃ (ab aj:Nat) (ac:Int) (ae:ByteArray),W=some ⟨ab,aj,none⟩/\wr.cell? ⟨ab,aj+e,none⟩=some (.int .u8 ac)/\(0<=ac/\ac<=255)/\ae.size<=6/\
   (Calls prog 56 #[.int .i64 ac,.int .i64 2] wr fun k O=>k=.returned (.string ae)/\Hid (Below z m O)/\z<=O.heap.size)/\
   Hid ((e=0->b++ae=sB (qkc a x (e+1)))/\(0<e->(b++⟨#[32]⟩)++ae=sB (qkc a x (e+1))))):=by
  rintro wr e b bp rfl y bi;have ak:e<x.raw.length:=by omega
  refine ⟨aW.o e,?_⟩;obtain br | ⟨ab,aj,aD,ai⟩:=(N.o wr y).2.2
  ·rw [br] at ak;simp at ak
  ·refine ⟨ab,aj,(x.raw[e].toNat:Int),hexS (x.raw[e].toNat:Int) 2,aD,ai e ak,⟨by omega,by have:=x.raw[e].toNat_lt;omega⟩,by rw [qaQ];omega,(qfv _ 2 (by omega) wr).mono ?_,?_⟩
   ·rintro k O ⟨rfl,rfl⟩
    exact ⟨rfl,y,bi⟩
   ·refine ⟨?_,fun i=>qqy a x e i ak⟩
    rintro rfl;exact qsx a x ak
 have an:Hid (∀ b,b=sB (qkc a x s)->b=sB (qiG a x 0)):=by
  rintro b rfl;rw [<- av,qtC]
 have U:Hid (∀ (b:ByteArray) (j:Nat),b=sB (qiG a x j)->b.size=6+(qh5 x).length+j/\b++⟨#[32]⟩=sB (qiG a x (j+1))/\(j=0->b++⟨#[32,32]⟩=sB (qiG a x 2))):=by
  rintro b j rfl;refine ⟨qsp a x j,qoW a x j,?_⟩;rintro rfl;exact qr0 a x
 have am:=J9 (qfv a 4 (by omega) m);have bd:(hexS a 4).size=4:=qaQ a 4;have al:Hid (hexS a 4++⟨#[32,32]⟩=sB (qkc a x 0)):=by
  apply qah;rw [qaa];unfold qkc;simp [sB,qdE]
 have n:Hid (∀ b,0<=a/\a<=65535->b=sB (qiG a x (qkj (6+(qh5 x).length)))->(x.al=false->b++sB (itemB x)=sB (rowB a x))/\(x.al=true->(b++sB (itemB x))++⟨#[32,32,59,32]⟩++sB (showB (sB x.m) x.C)=sB (rowB a x))):=by
  rintro b t rfl;have i:=qs6 (a:=a) x (by unfold qfB;simp [t.1,t.2]);rw [<- i];refine ⟨fun i=>?_,fun i=>?_⟩
  ·apply qah
   rw [qaa];unfold qgM;rw [i];simp [sB]
  ·apply qah
   rw [qaa,qaa,qaa];unfold qgM;rw [Qi i];simp [sB]
 have ap:Hid (a<0\/65535<a->(⟨#[]⟩:ByteArray)=sB (rowB a x)):=fun i=>by
  unfold rowB;rw [Qe (by omega)];rfl
 have ar:=J9 af;have bt:z<=m.heap.size:=by omega
 have B0:Hid (Below z m m):=Qc _ _;have bF:w.heap.size<=z:=by rw [<- aG];exact af.size
 unfold Xe.v at A |-;unfold Xe.b at E;simp only at A E aZ a5 |-;rw [av] at A |-;obtain ⟨ax,aR⟩:=N9 ((qh5 x).length);rw [aR] at U n bv;obtain ⟨bO,aP⟩:=N9 (sB (itemB x));obtain ⟨bM,aO⟩:=N9 (sB (showB (sB x.m) x.C));obtain ⟨bN,a8⟩:=N9 (hexS a 4);obtain ⟨bB,aK⟩:=N9 (sB (rowB a x));rw [aP] at A n aZ;rw [aO] at E n a5;rw [a8] at am bd al;rw [aK] at n ap;rw [aK];obtain ⟨aI,a4,aH,aF,au⟩:=x;simp only at I2 N A E n bg |-;clear S H aW a9 av aG aP aO a8 aK aR af;obtain ⟨B,R,C,K,M,G⟩:=I2.cells;rcases bf with t | t
 ·have q:=J9 (ap.o t)
  clear I2 N ao an U am al n A E ap;rcases t with t | t
  ·go_enter func25,ntmps25
   go_wp2;go_ret;rw [q.o]
   first | exact ⟨rfl,ar.o⟩ | exact ⟨rfl,by have i:=ar.o;rw [az] at i;exact i⟩
  ·have bJ:¬a<0:=by omega
   go_enter func25,ntmps25
   go_wp2;go_ret;rw [q.o]
   first | exact ⟨rfl,ar.o⟩ | exact ⟨rfl,by have i:=ar.o;rw [az] at i;exact i⟩
 ·have bh:=J9 t
  obtain ⟨bH,bz⟩:=t;have n:=J9 fun b=>n.o b bh.o
  clear ap I2
  go_enter func25,ntmps25
  go_wp2_with fail
  refine am.o.mono ?_;rintro k bE ⟨rfl,rfl⟩;have a2:=B0;have aX:=bt;clear am B0 B R C K M G;go_wp2
  go_loopw [5,6] (fun v aJ wr=>∃ (e:Nat) (b:ByteArray),e<=s/\aJ=.int .i64 e/\v=.string b/\Hid (b=sB (qkc a ⟨aI,a4,aH,aF,au⟩ e))/\Hid (Below z m wr)/\z<=wr.heap.size) (fun _ aJ _=>s - (intOf aJ).toNat)
  case atStart=>exact ⟨0,_,Qu _,rfl,rfl,al.o,a2.o,aX⟩
  case round=>
   clear a2 aX al bd;obtain ⟨e,b,bp,rfl,rfl,J,Z,aQ⟩:=hrel;obtain ⟨aa,ad,-⟩:=N.o wr Z.o;obtain ⟨B,R,C,K,M,G⟩:=aa.cells;by_cases aA:e<s
   ·obtain ⟨bA,ab,aj,ac,ae,aD,ai,⟨bK,bG⟩,bI,V,q⟩:=ao.o wr e b aA J.o Z.o aQ
    subst aD;have V:=J9 V;clear Z J ao aa ad N A E n U an;by_cases bn:e=0
    ·subst bn
     rw [Nat.add_zero] at ai;have ag:=J9 (q.o.1 rfl);clear q
     go_wp2_with fail
     refine V.o.mono ?_;rintro k bl ⟨rfl,aC,aB⟩;clear V ai B R C K M G;go_wp2;go_roundw
     case rel=>exact ⟨0+1,_,by omega,by go_num,rfl,ag.o,aC,aB⟩
     case measure=>simp [intOf];omega
    ·have ag:=J9 (q.o.2 (by omega))
     clear q
     go_wp2_with fail
     refine V.o.mono ?_;rintro k bl ⟨rfl,aC,aB⟩;clear V ai B R C K M G;go_wp2;go_roundw
     case rel=>exact ⟨e+1,_,by omega,by go_num,rfl,ag.o,aC,aB⟩
     case measure=>simp [intOf];omega
   ·obtain rfl:e=s:=by omega
    have bj:=U.o b 0 (an.o b J.o);obtain ⟨ah,-,aY⟩:=bj;have a1:=J9 (aY rfl);clear J ao an aY aa ad;go_wp2;clear B R C K M G ah;obtain ⟨aM,bo⟩:∃ aM,aM=wr:=⟨_,rfl⟩;subst bo
    go_loopw [5] (fun v bu=>∃ (j:Nat) (b:ByteArray),2<=j/\j<=qkj (6+ax)/\v=.string b/\Hid (b=sB (qiG a ⟨aI,a4,aH,aF,au⟩ j))/\bu=aM) (fun v _=>2000 - (match v with | .string b=>b.size | _=>0))
    case atStart=>exact ⟨2,_,Qa _,by unfold qkj;omega,rfl,a1.o,rfl⟩
    case round=>
     clear a1;obtain ⟨j,b,bm,a3,rfl,J,rfl⟩:=hrel;obtain ⟨ah,aN,-⟩:=U.o b j J.o;by_cases aA:6+ax+j<18
     ·have ag:=J9 aN
      have bs:(b.size:Int)<18:=(by omega);have bw:b.size<18:=(by omega);have bk:j+1<=qkj (6+ax):=(by unfold qkj;omega);clear J aN U ah A E N n aA;go_wp2;go_roundw
      case rel=>exact ⟨j+1,_,by omega,bk,rfl,ag.o,by first | rfl | trivial⟩
      case measure=>
       have k:(b++(⟨#[32]⟩:ByteArray)).size=b.size+1:=(by rw [Zh];rfl);simp only [k];omega
     ·obtain rfl:j=qkj (6+ax):=by unfold qkj at a3 |-;omega
      obtain ⟨aT,bc⟩:=n.o b J.o;have R1:=J9 aT;have R2:=J9 bc;obtain ⟨aa,ad,-⟩:=N.o wr Z.o;have aU:=J9 (A.o wr ad);have aS:Hid (∀ h,Below wr.heap.size wr h->qas h aE aI (.slice W e aw) (sB aH) (.slice ay aF.length aq) au/\Below w.heap.size w h):=fun h y=>by
       obtain ⟨bq,bx,-⟩:=N.o h (Z.o.trans (y.mono aQ));exact ⟨bq,bx⟩
      have bs:¬(b.size:Int)<18:=(by omega);have bw:b.size<=2000:=(by unfold qkj at ah;omega);obtain ⟨B,R,C,K,M,G⟩:=aa.cells;clear J U ah aN aT bc n aa ad A N Z aA a3 bm
      go_wp2_with fail
      refine aU.o.mono ?_;rintro k a6 ⟨rfl,bb⟩;obtain ⟨I6,T⟩:=aS.o a6 bb;have aL:=J9 (E.o a6 T);have T:=J9 T;clear aU bb aS E B R C K M G;obtain ⟨B,R,C,K,M,G⟩:=I6.cells;clear I6;cases au with
      | false=>
       have q:=J9 (R1.o (by first | rfl | trivial));clear R1 R2 aL;go_wp2;go_ret;rw [q.o]
       first | exact ⟨rfl,T.o⟩ | exact ⟨rfl,by have i:=T.o;rw [az] at i;exact i⟩
      | true=>
       have q:=J9 (R2.o (by first | rfl | trivial));clear R1 R2
       go_wp2_with fail
       refine aL.o.mono ?_;rintro k bL ⟨rfl,be⟩;have a7:=J9 (T.o.trans (be.mono T.o.size));clear aL be B R C K M G T;go_wp2;go_ret;rw [q.o]
       first | exact ⟨rfl,a7.o⟩ | exact ⟨rfl,by have i:=a7.o;rw [az] at i;exact i⟩
theorem qmM (a:Int) {x:Ite} (y:qcj x):(rowB a x).length<=20000:=by
 cases h:qfB a with
 | true=>rw [<- qmc x h];exact qlW a y 3
 | false=>
  unfold qfB at h;unfold rowB;rw [Qe (fun q=>by simp [q.1,q.2] at h)];simp
theorem qlG {a:Int} (h:qfB a=false) (L:List Ite):qdW a L=[]:=by
 unfold qfB at h;cases L with
 | nil=>rfl
 | cons t x=>
  unfold qdW;rw [Qe (fun q=>by simp [q.1,q.2] at h)]
theorem qt2 {a:Int} (h:qfB a=true) (x:Ite) (t:List Ite):qdW a (x :: t)=rowB a x++[10]++qdW (a+x.raw.length) t:=by
 unfold qfB at h;simp only [Qd,Qf] at h;rw [qdW,Qi h]
theorem qo8 {a:Int} (h:qfB a=true):0<=a/\a<=65535:=by
 unfold qfB at h;simpa using h
theorem qmH {w:World} {A:Option Addr} {R:List Xe} (H:qdX w A R) (hF:∀ r∈R,qcj r.x) {l:Nat} (E:R.length=l) :
  ∀ j,j<l->∃ r:Xe,qcj r.x/\(R.map Xe.x).drop j=r.x :: (R.map Xe.x).drop (j+1)/\∀ h,Below w.heap.size w h->ItJ h A r j:=fun j G=>by
 have y:j<R.length:=by omega
 refine ⟨R[j],hF _ (QJ _),?_,fun h z=>(H.below z).j y⟩;have q:=List.drop_eq_getElem_cons (l:=R.map Xe.x) (i:=j) (by rw [QC];exact y);rw [Zo] at q;exact q
theorem qmQ {b:World} {A:Option Addr} {r:Xe} {j:Nat} (h:ItJ b A r j):XAt b r:=by
 obtain ⟨E,z,-,-,-,-,-,-,q,y⟩:=h;exact ⟨q,y⟩
theorem qnr (a:Int) (R:List Xe) (A:Option Addr) (l cap:Nat) (au:R.length=l) (bu:l<=1000) (hF:∀ r∈R,qcj r.x) (w:World) (aS:qad w) (H:qdX w A R) :
  Calls prog 26 #[.int .i64 a,.slice A l cap] w fun f V=>f=.returned (.string (sB (qdW a (R.map Xe.x))))/\Below w.heap.size w V:=by
 have O:=J9 (qmH H hF au);have a7:=J9 aS;obtain ⟨d,J⟩:=N9 (w.heap.size);rw [J] at O;have ar:Hid (∀ h,Below d w h->qad h):=fun h n=>a7.o.below (by rw [J];exact n)
 have aA:=J9 (qb9 w);obtain ⟨aO,ak⟩:=N9 (w.alloc (.cells #[.pointer none,.slice none 0 0] 100));rw [ak,J] at aA;have aJ:Hid (CB d d aO []):=by
  have i:=CB.fresh (B:=w.heap.size) w (Qa _);rw [ak,J] at i;exact i
 have C:Hid (Below d w aO):=by rw [<- ak,<- J];exact B0
 obtain ⟨q,ae⟩:=N9 (R.map Xe.x);rw [ae] at O;have ay:Hid (q.drop l=[]):=by rw [<- ae,<- au];exact List.drop_of_length_le (by simp)
 obtain ⟨T,av⟩:=N9 (qdW a q);have aD:Hid ([]++qdW a (q.drop 0)=T):=by rw [<- av];rfl
 rw [J,ae,av];clear H hF au aS a7 ak ae av
 go_enter func26,ntmps26
 go_wp2_with fail
 refine aA.o.mono ?_;rintro f V ⟨rfl,rfl⟩;clear aA;go_wp2
 go_loopw [0,11] (fun bm aw wr=>∃ (e:Nat) (b:Int) (k:Str),e<=l/\aw=.int .i64 e/\bm=.int .i64 b/\Hid (CB d d wr k)/\Hid (Below d w wr)/\Hid (k++qdW b (q.drop e)=T)/\Hid (k.length<=e*20001)) (fun _ aw _=>l - (intOf aw).toNat)
 case atStart=>exact ⟨0,a,[],Qu _,rfl,rfl,aJ,C,aD,by show _<=_;simp⟩
 case round=>
  clear aJ C aD;obtain ⟨e,b,k,bz,rfl,rfl,L,B,E,G⟩:=hrel;have K:Hid (∀ h,CB d d h k->Below d w h->k=T->Calls prog 67 #[.slice none 0 0,.pointer (some ⟨d,0,none⟩)] h fun f V=>f=.returned (.string (sB T))/\Below d w V):=by
   rintro h a6 n rfl;refine (qdc (w:=w) a6 n (QV a6.lt) (by have a2:=G.o;have:e*20001<=1000*20001:=Nat.mul_le_mul_right _ (by omega);omega)).mono ?_;rintro f V ⟨rfl,-,-,bk⟩;exact ⟨rfl,bk⟩
  by_cases bq:e<l
  ·obtain ⟨r,a5,bd,a0⟩:=O.o e bq
   have aW:=a0 wr B.o;have aK:=qmQ aW;obtain ⟨br,bB,bf,aU,aF,aY,bb,a8,-,-⟩:=aW;subst bf;have aa:=J9 a5;have aB:=J9 bd;have bn:d<wr.heap.size:=L.o.lt;obtain ⟨x,A1,an,C,ai⟩:=r;simp only at aU aF aY bb a8 aa aB;obtain ⟨aI,aQ,bD,bs,a9,af,bv⟩:=Fr.box (Fr.nil wr) #[.int .i64 x.kind,.slice A1 x.raw.length an,.string (sB x.m),.slice C x.C.length ai,.bool x.al] 45;have I2:Hid (qas aQ aI x.kind (.slice A1 x.raw.length an) (sB x.m) (.slice C x.C.length ai) x.al):=a9.o.1;have a3:=J9 (L.o.more af);have a1:=J9 (B.o.trans (af.mono (QV bn)));have aR:=J9 (aK.below af);have aC:=J9 (qgh b aQ);have ac:=J9 (fun i=>qlG (a:=b) i (q.drop e));have ab:Hid (qfB b=true->qdW b (q.drop e)=rowB b x++[10]++qdW (b+x.raw.length) (q.drop (e+1))):=fun i=>by rw [aB.o];exact qt2 i _ _
   have ad:=J9 (qo8 (a:=b));obtain ⟨bi,aG⟩:=N9 (qfB b);rw [aG] at aC ac ab ad;clear O L B a9 af aK a0 a5 bd aG aB
   go_wp2_with fail
   refine aC.o.mono ?_;rintro f aj ⟨rfl,M⟩;have W:=J9 (a3.o.more M);have bx:d<aj.heap.size:=W.o.lt;have U:=J9 (a1.o.trans (M.mono (by omega)));have ap:=J9 (aR.o.below M);have I3:=J9 (I2.o.all M);clear aC M a3 a1 aR I2 aU aF aY bb a8;cases bi with
   | false=>
    have y:=J9 (K.o aj W.o U.o (by have i:=E.o;rw [ac.o rfl,Zu] at i;exact i));clear K E ac ab ad W U ap I3 G aa ar ay
    go_wp2_with fail
    refine y.o.mono ?_;rintro f ag ⟨rfl,n⟩;have az:=J9 n;clear y n;go_wp2;go_ret;exact ⟨rfl,az.o⟩
   | true=>
    obtain ⟨bw,bC⟩:=ad.o rfl;have bc:=J9 (ab.o rfl);have Z:=J9 (qhK b ⟨x,A1,an,C,ai⟩ aa.o aj (ar.o aj U.o) ap.o);have aT:=qmM b aa.o;have bE:=aa.o.1;unfold Xe.v at Z;simp only at Z;obtain ⟨z,ah⟩:=N9 (sB (rowB b x));rw [ah] at Z;have aZ:Hid (z.data.toList=rowB b x):=(by show _=_;rw [<- ah];simp [sB]);have bA:z.size<=20000:=(by rw [<- ah];exact aT);obtain ⟨aE,a4,aM,aV,aX,aN⟩:=I3.o.cells;clear ac ab ad K ah aT ap
    go_wp2_with fail
    refine Z.o.mono ?_;rintro f ag ⟨rfl,am⟩;have aq:=J9 (W.o.more am);have be:d<ag.heap.size:=aq.o.lt;have aH:=J9 (U.o.trans (am.mono (by omega)));have I4:=J9 (I3.o.all am);have bg:k.length+(z.size+(⟨#[10]⟩:ByteArray).size)<=100000000:=by
     have a2:=G.o;have bF:e*20001<=1000*20001:=Nat.mul_le_mul_right _ (by omega);have f:(⟨#[10]⟩:ByteArray).size=1:=rfl;omega
    have y:=J9 (qer (w:=w) aq.o aH.o (QV be) z ⟨#[10]⟩ bg);have bl:Hid ((k++(z.data.toList++(⟨#[10]⟩:ByteArray).data.toList))++qdW (b+x.raw.length) (q.drop (e+1))=T):=by
     show _=_;rw [aZ.o,<- E.o,bc.o];simp
    have bh:Hid ((k++(z.data.toList++(⟨#[10]⟩:ByteArray).data.toList)).length<=(e+1)*20001):=by
     show _<=_;have a2:=G.o;have f:z.data.toList.length=z.size:=(by simp);rw [Qk,Qk,f,Nat.add_mul];have bt:(⟨#[10]⟩:ByteArray).data.toList.length=1:=rfl;omega
    have aP:Hid (∀ h,FK d d ag h->qas h aI x.kind (.slice A1 x.raw.length an) (sB x.m) (.slice C x.C.length ai) x.al):=(fun h bj=>bj.block I4.o (by omega) qzB);have bp:IntKind.i64.wrap (b+(x.raw.length:Int))=b+(x.raw.length:Int):=IntWalk.i64_in _ (by omega);clear Z am W U I3 aE a4 aM aV aX aN aq aH I4 E bc aZ G
    go_wp2_with fail
    refine y.o.mono ?_;rintro f bo ⟨rfl,ao,aL,ax⟩;have I5:=aP.o bo aL;have ao:=J9 ao;have ax:=J9 ax;obtain ⟨aE,a4,aM,aV,aX,aN⟩:=I5.cells;clear y aL aP I5;go_wp2;go_roundw
    case rel=>exact ⟨e+1,_,_,by omega,by go_num,by first | rfl | rw [bp],ao,ax,bl,bh⟩
    case measure=>simp [intOf];omega
  ·obtain rfl:e=l:=by omega
   have y:=J9 (K.o wr L.o B.o (by
    have i:=E.o;rw [ay.o] at i;simpa [qdW] using i))
   clear K E L B G O ar ay
   go_wp2_with fail
   refine y.o.mono ?_;rintro f ag ⟨rfl,n⟩;have az:=J9 n;clear y n;go_wp2;go_ret;exact ⟨rfl,az.o⟩
theorem qnk (a:Int) (R:List Xe) (A:Option Addr) (l cap:Nat) (ad:R.length=l) (aR:l<=1000) (hF:∀ r∈R,qcj r.x) (w:World) (H:qdX w A R) :
  Calls prog 27 #[.int .i64 a,.slice A l cap] w fun T aI=>T=.returned (.string (sB (qdW a (R.map Xe.x))))/\Below w.heap.size w aI:=by
 have y:=J9 (qmH H hF ad);obtain ⟨q,aw⟩:=N9 (w.heap.size);rw [aw] at y;have aa:Hid (Below q w w):=Qc _ _;have ax:q<=w.heap.size:=by omega
 obtain ⟨h,L⟩:=N9 (R.map Xe.x);rw [L] at y;have ah:Hid (h.drop l=[]):=by rw [<- L,<- ad];exact List.drop_of_length_le (by simp)
 obtain ⟨J,ae⟩:=N9 (qdW a h);have ak:Hid ((⟨#[]⟩:ByteArray).data.toList++qdW a (h.drop 0)=J):=by rw [<- ae];rfl
 rw [aw,L,ae];clear H hF ad L ae
 go_enter func27,ntmps27
 go_wp2
 go_loopw [0,5,6] (fun aH aL af wr=>∃ (d:Nat) (b:Int) (e:ByteArray),d<=l/\af=.int .i64 d/\aH=.int .i64 b/\aL=.string e/\Hid (Below q w wr)/\q<=wr.heap.size/\Hid (e.data.toList++qdW b (h.drop d)=J)/\Hid (e.size<=d*20001)) (fun _ _ af _=>l - (intOf af).toNat)
 case atStart=>exact ⟨0,a,⟨#[]⟩,Qu _,rfl,rfl,rfl,aa,ax,ak,by show (0:Nat)<=_;exact Qu _⟩
 case round=>
  clear aa ak ax;obtain ⟨d,b,e,aU,rfl,rfl,rfl,z,ao,n,G⟩:=hrel;have E:Hid (e.data.toList=J->e=sB J):=fun k=>by rw [<- k];unfold sB;simp
  by_cases aO:d<l
  ·cases i:qfB b with
   | false=>
    have N:=J9 (E.o (by have k:=n.o;rw [qlG i,Zu] at k;exact k));have B:b<0\/(0<=b/\65535<b):=(by unfold qfB at i;simp only [Bool.and_eq_false_iff,decide_eq_false_iff_not] at i;omega);clear E n G y ah i;rcases B with B | ⟨B,aQ⟩
    ·go_wp2
     go_ret;rw [N.o];exact ⟨rfl,z.o⟩
    ·go_wp2
     go_ret;rw [N.o];exact ⟨rfl,z.o⟩
   | true=>
    obtain ⟨aS,aY⟩:=qo8 i;obtain ⟨r,V,B,ag⟩:=y.o d aO;have ar:=ag wr z.o;have an:=qmQ ar;obtain ⟨aC,aJ,aD,aq,am,au,aA,az,-,-⟩:=ar;subst aD;have K:=J9 (qmr b r V wr an);have ac:=qmM b V;have aN:=V.1;have Z:Hid (qdW b (h.drop d)=rowB b r.x++[10]++qdW (b+r.x.raw.length) (h.drop (d+1))):=(by show _=_;rw [B];exact qt2 i _ _);have ai:Hid (∀ s,Below wr.heap.size wr s->Below q w s/\q<=s.heap.size/\s.cell? ⟨aC,aJ+d*5+1,none⟩=some (.slice r.A r.x.raw.length r.ca)):=fun s av=>by
     have U:=z.o.trans (av.mono ao);obtain ⟨aV,aX,aj,-,ap,-⟩:=ag s U;injection aj with aj
     injection aj with aK ab
     subst aK ab;exact ⟨U,Qj ao av.size,ap⟩
    obtain ⟨x,A1,aZ,aa,aT⟩:=r;unfold Xe.v at K;simp only at K aq am au aA az ac aN Z ai;obtain ⟨M,O⟩:=N9 (sB (rowB b x));rw [O] at K;have aW:M.size<=20000:=(by rw [<- O];exact ac);have aP:e.size<=21000000:=by
     have U:=G.o;have a0:d*20001<=1000*20001:=Nat.mul_le_mul_right _ (by omega);omega
    have aG:Hid (((e++M)++(⟨#[10]⟩:ByteArray)).data.toList++qdW (b+x.raw.length) (h.drop (d+1))=J):=by
     show _=_;have T:M.data.toList=rowB b x:=(by rw [<- O];simp [sB]);rw [qaa,qaa,T,<- n.o,Z.o];simp
    have aE:Hid (((e++M)++(⟨#[10]⟩:ByteArray)).size<=(d+1)*20001):=by
     show _<=_;have U:=G.o;have ab:(⟨#[10]⟩:ByteArray).size=1:=rfl;rw [Zh,Zh,Nat.add_mul,ab];omega
    have aM:IntKind.i64.wrap (b+(x.raw.length:Int))=b+(x.raw.length:Int):=IntWalk.i64_in _ (by omega);clear y z n G Z E V B ag an O i ac
    go_wp2_with fail
    refine K.o.mono ?_;rintro T aF ⟨rfl,ay⟩;obtain ⟨W,aB,ap⟩:=ai.o aF ay;have W:=J9 W;clear K ai ay aq am au aA az;go_wp2;go_roundw
    case rel=>exact ⟨d+1,_,_,by omega,by go_num,by first | rfl | rw [aM],rfl,W,aB,aG,aE⟩
    case measure=>simp [intOf];omega
  ·obtain rfl:d=l:=by omega
   have N:=J9 (E.o (by
    have k:=n.o;rw [ah.o] at k;simpa [qdW] using k))
   clear E n G y ah;go_wp2;go_ret;rw [N.o];exact ⟨rfl,z.o⟩
end Go.Proofs.YtecpnfhpcamljaaGreatDoor
