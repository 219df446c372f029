/-
  RkZ, EsB, SeN, SeRf, LpA, CoA, CoB, CoC, LpB, CoD, CoE, CoF, CoG, SeK.
-/
import Derived.Test.YtecpnfhpcamljaaGreatDoorKAI
import Derived.Test.YtecpnfhpcamljaaGreatDoorKZA
import Derived.Test.YtecpnfhpcamljaaGreatDoorKZB
import Derived.Test.YtecpnfhpcamljaaGreatDoorKZC
import Derived.Test.YtecpnfhpcamljaaGreatDoorKZD
import Derived.Deep.CutBlock
set_option linter.all false
set_option maxRecDepth 100000
set_option maxHeartbeats 4000000
namespace Go.Proofs.YtecpnfhpcamljaaGreatDoor
open Tryz
open Go.RowKit Go.Shelf
theorem qAE (n:Nat) (y:n<256):qqa prog 0 n=true:=by
 rcases (by omega:0<=n/\n<64\/64<=n/\n<128\/128<=n/\n<192\/192<=n/\n<256) with ⟨q,h⟩ | ⟨q,h⟩ | ⟨q,h⟩ | ⟨q,h⟩
 ·exact qac qwR n q h
 ·exact qac qur n q h
 ·exact qac qsg n q h
 ·exact qac qsK n q h
theorem qAJ (n:Nat) (y:n<256):qqa prog 1 n=true:=by
 rcases (by omega:0<=n/\n<64\/64<=n/\n<128\/128<=n/\n<192\/192<=n/\n<256) with ⟨q,h⟩ | ⟨q,h⟩ | ⟨q,h⟩ | ⟨q,h⟩
 ·exact qac qxy n q h
 ·exact qac qu2 n q h
 ·exact qac qsR n q h
 ·exact qac qsG n q h
theorem qAD (n:Nat) (y:n<256):qqa prog 2 n=true:=by
 rcases (by omega:0<=n/\n<16\/16<=n/\n<32\/32<=n/\n<48\/48<=n/\n<64\/64<=n/\n<80\/80<=n/\n<96\/96<=n/\n<112\/112<=n/\n<128\/128<=n/\n<144\/144<=n/\n<160\/160<=n/\n<176\/176<=n/\n<192\/192<=n/\n<208\/208<=n/\n<224\/224<=n/\n<240\/240<=n/\n<256) with ⟨q,h⟩ | ⟨q,h⟩ | ⟨q,h⟩ | ⟨q,h⟩ | ⟨q,h⟩ | ⟨q,h⟩ | ⟨q,h⟩ | ⟨q,h⟩ | ⟨q,h⟩ | ⟨q,h⟩ | ⟨q,h⟩ | ⟨q,h⟩ | ⟨q,h⟩ | ⟨q,h⟩ | ⟨q,h⟩ | ⟨q,h⟩
 ·exact qac qyG n q h
 ·exact qac qve n q h
 ·exact qac qvU n q h
 ·exact qac qvn n q h
 ·exact qac quK n q h
 ·exact qac qu1 n q h
 ·exact qac qwn n q h
 ·exact qac qtu n q h
 ·exact qac qtn n q h
 ·exact qac qrp n q h
 ·exact qac qrn n q h
 ·exact qac qsf n q h
 ·exact qac qr8 n q h
 ·exact qac qtq n q h
 ·exact qac qrP n q h
 ·exact qac qtv n q h
theorem qAH (n:Nat) (y:n<256):qqa prog 3 n=true:=by
 rcases (by omega:0<=n/\n<32\/32<=n/\n<64\/64<=n/\n<96\/96<=n/\n<128\/128<=n/\n<160\/160<=n/\n<192\/192<=n/\n<224\/224<=n/\n<256) with ⟨q,h⟩ | ⟨q,h⟩ | ⟨q,h⟩ | ⟨q,h⟩ | ⟨q,h⟩ | ⟨q,h⟩ | ⟨q,h⟩ | ⟨q,h⟩
 ·exact qac qxA n q h
 ·exact qac qvu n q h
 ·exact qac qut n q h
 ·exact qac qv0 n q h
 ·exact qac qsh n q h
 ·exact qac qst n q h
 ·exact qac qsH n q h
 ·exact qac qrR n q h
theorem qAz (n:Nat) (y:n<256):qqa prog 4 n=true:=by
 rcases (by omega:0<=n/\n<32\/32<=n/\n<64\/64<=n/\n<96\/96<=n/\n<128\/128<=n/\n<160\/160<=n/\n<192\/192<=n/\n<224\/224<=n/\n<256) with ⟨q,h⟩ | ⟨q,h⟩ | ⟨q,h⟩ | ⟨q,h⟩ | ⟨q,h⟩ | ⟨q,h⟩ | ⟨q,h⟩ | ⟨q,h⟩
 ·exact qac qyl n q h
 ·exact qac qu7 n q h
 ·exact qac qwm n q h
 ·exact qac qvN n q h
 ·exact qac qsV n q h
 ·exact qac qrO n q h
 ·exact qac qsy n q h
 ·exact qac qrk n q h
theorem qAO (n:Nat) (y:n<256):qqa prog 5 n=true:=by
 rcases (by omega:0<=n/\n<64\/64<=n/\n<128\/128<=n/\n<192\/192<=n/\n<256) with ⟨q,h⟩ | ⟨q,h⟩ | ⟨q,h⟩ | ⟨q,h⟩
 ·exact qac qyP n q h
 ·exact qac qvt n q h
 ·exact qac qtt n q h
 ·exact qac qs2 n q h
theorem qAK (n:Nat) (y:n<256):qqa prog 6 n=true:=by
 rcases (by omega:0<=n/\n<64\/64<=n/\n<128\/128<=n/\n<192\/192<=n/\n<256) with ⟨q,h⟩ | ⟨q,h⟩ | ⟨q,h⟩ | ⟨q,h⟩
 ·exact qac qxh n q h
 ·exact qac quY n q h
 ·exact qac qss n q h
 ·exact qac qtg n q h
theorem qpJ (w:World) (y q:Int):∃ h,(w.alloc (.cells #[.int .i64 0,.int .u8 0,.string ⟨#[]⟩,.slice none 0 0,.string ⟨#[]⟩,.bool false] 30)).alloc (.cells #[.int .i64 y,.int .u8 q,.string ⟨#[]⟩,.slice none 0 0,.string ⟨#[]⟩,.bool false] 30)=h/\
  qcV h w.heap.size 0 0 [] (.slice none 0 0) [] false/\qcV h (w.heap.size+1) y q [] (.slice none 0 0) [] false/\Below w.heap.size w h/\h.heap.size=w.heap.size+2:=by
 refine ⟨_,rfl,(Below.heap_alloc _ _ _ (by simp)).trans (World.alloc_heap_new w _),?_,((B0 (w:=w))).alloc (by simp) _,by simp⟩;have z:=World.alloc_heap_new (w.alloc (.cells #[.int .i64 0,.int .u8 0,.string ⟨#[]⟩,.slice none 0 0,.string ⟨#[]⟩,.bool false] 30)) (.cells #[.int .i64 y,.int .u8 q,.string ⟨#[]⟩,.slice none 0 0,.string ⟨#[]⟩,.bool false] 30);rw [QB] at z;exact z
theorem qzg (n:Nat) (ay:n<256) (h:Int) (M:¬(0<=h/\h<=6)) (w:World):Calls prog 43 #[.int .i64 h,.int .u8 n] w (qlT w h n (rkindT h n) (qaX h n)):=by
 obtain ⟨aC,T,y,q,B0,E⟩:=qpJ w h n;obtain ⟨ar,z⟩:=N9 (w.heap.size);rw [z] at y q B0 E;have J:=J9 z;have O:=J9 T;have G:=J9 y;have ax:=J9 q;have ag:=J9 B0;have am:=J9 E;clear T z y q B0 E;have af:Hid (rkindT h n=0):=(by unfold rkindT;rw [Qe (by omega),Qe (by omega),Qe (by omega)]:rkindT h n=0);have W:Hid (qaX h n=none):=qeQ M n;have ap:(h == 0)=false:=by simp;omega
 have aq:(h == 1)=false:=by simp;omega
 have aB:(h == 2)=false:=by simp;omega
 have av:(h == 3)=false:=by simp;omega
 have aF:(h == 4)=false:=by simp;omega
 have az:(h == 5)=false:=by simp;omega
 have ai:(h == 6)=false:=by simp;omega
 clear M
 go_enter func43,ntmps43
 go_upto_region 3 with fail
 rw [O.o,J.o];clear O;obtain ⟨aw,ak,aA,aE,ao,aj,an⟩:=G.o.cells;go_wp2;obtain ⟨au,K,Z,ae,ah,-,aD⟩:=G.o.put 0 0 [] (.slice none 0 0) [] false;rw [show sB []=(⟨#[]⟩:ByteArray) from rfl] at K;rw [K];obtain ⟨V,U,aa,ac,ad,ab,-⟩:=Z.cells;refine bodyPost_ret (v:=.tuple #[enV 0 0 [] (.slice none 0 0) [] false,.int .i64 0]) ?_ rfl ?_
 ·simp [results,results43,go_sem,V,U,aa,ac,ad,ab,enV]
 ·rw [W.o]
  exact ⟨by first | rfl | (rw [af.o]),by rw [J.o];exact ag.o.trans ae⟩
theorem qqN (h:Int) (q:Nat) (y:q<256) (w:World):Calls prog 43 #[.int .i64 h,.int .u8 q] w (qlT w h q (rkindT h q) (qaX h q)):=by
 by_cases z:0<=h/\h<=6
 ·rcases (by omega:h=0\/h=1\/h=2\/h=3\/h=4\/h=5\/h=6) with rfl | rfl | rfl | rfl | rfl | rfl | rfl
  ·exact qbs (g:=0) (by omega) (qAE q y) w
  ·exact qbs (g:=1) (by omega) (qAJ q y) w
  ·exact qbs (g:=2) (by omega) (qAD q y) w
  ·exact qbs (g:=3) (by omega) (qAH q y) w
  ·exact qbs (g:=4) (by omega) (qAz q y) w
  ·exact qbs (g:=5) (by omega) (qAO q y) w
  ·exact qbs (g:=6) (by omega) (qAK q y) w
 ·exact qzg q y h z w
def entsR (h:Int):Nat->List Ke
 | 0=>[]
 | k+1=>match qaX h k with
  | some x=>entsR h k++[(h,(k:Int),x.1,x.2.1,x.2.2.1,x.2.2.2)]
  | none=>entsR h k
theorem qtm (h:Int) (n:Nat):(rkindT h n == 1)=false:=by
 unfold rkindT;split
 ·rfl
 ·split
  ·rfl
  ·split <;> rfl
def ixT (t:Tr):Int:=
 if t.1=3\/t.1=4\/t.1=5 then (if t.2.1=5 then 5 else if t.2.1=6 then 6 else 0) else if t.1=2 then (if t.2.1=0\/t.2.1=1 then 5 else if t.2.1=2\/t.2.1=3 then 6 else 0) else 0
def qv4 (L:List Tr):Int:=L.foldl (fun h a=>max h (ixT a)) 0
def qfp (t:Tr):Bool:=decide (t.1=2)||(decide (3<=t.1)&&decide (t.1<=5)&&(decide (t.2.1=5)||decide (t.2.1=6)))
def qz1 (h:Int):Int:=if h=3\/h=5 then 5 else if h=4\/h=6 then 6 else 0
def qy3 (m:Str) (L:List Tr) (ex:Str):Bool:=
 (opc (sB m) != 1||L.length != 2)&&(opc (sB m) != 2||L.length != 1)&&(opc (sB m) != 3||!(L.map ks2 == [(3,2),(3,1)])) &&
 (List.range L.length).all fun h=>(L.getD h tr0).1 != 6||(if letR ex L h=0 then decide (0<=(L.getD h tr0).2.2) else decide (0<=(rangeR (letR ex L h)).1))
def qzA (L:List Tr) (ex:Str):Bool:=(List.range L.length).all fun h=>letR ex L h == 0||(decide (loK (L.getD h tr0).1.toNat<=(rangeR (letR ex L h)).1)&&decide ((rangeR (letR ex L h)).2<=hiK (L.getD h tr0).1.toNat))
def okS (h:Int) (x:En):Bool:=
 decide (x.1.length<=10)&&decide (x.2.2.1.length<=10)&&decide (x.2.1.length<=3)&&((upB (sB x.1)).data == (sB x.1).data)&&qbr x.2.2.1 x.2.1&&decide (qa5 (sB x.1) x.2.1=0)&&qy3 x.1 x.2.1 x.2.2.1&&qzA x.2.1 x.2.2.1&&decide (qv4 x.2.1=qz1 h)&&(x.2.1.any qfp == decide (3<=h))
def qAq (g n:Nat):Bool:=match qaX (g:Int) n with
 | some h=>okS (g:Int) h
 | none=>true
theorem qAh:∀ g:Fin 7,∀ h:Fin 256,qAq g.val h.val=true:=by decide +kernel
theorem qtX {g:Int} {n:Nat} (E:n<256) {x:En} (q:qaX g n=some x):okS g x=true/\0<=g/\g<=6:=by
 by_cases z:0<=g/\g<=6
 ·obtain ⟨y,rfl⟩:∃ y:Nat,g=(y:Int):=⟨g.toNat,by omega⟩
  have h:=qAh ⟨y,by omega⟩ ⟨n,E⟩;unfold qAq at h;rw [q] at h;exact ⟨h,z⟩
 ·rw [qeQ z] at q
  cases q
def qdA (k:Ke):Prop:=∃ h:Nat,h<256/\k.2.1=(h:Int)/\qaX k.1 h=some (k.2.2.1,k.2.2.2.1,k.2.2.2.2.1,k.2.2.2.2.2)
theorem qp3 (y:Int):∀ x,x<=256->∀ q∈entsR y x,q.1=y/\qdA q
 | 0,_,q,h=>by cases h
 | x+1,J,q,h=>by
  have G:=qp3 y x (by omega);unfold entsR at h;cases E:qaX y x with
  | none=>rw [E] at h;exact G q h
  | some K=>
   rw [E] at h;rcases QY.1 h with z | z
   ·exact G q z
   ·obtain rfl:=QI.1 z
    exact ⟨rfl,x,by omega,rfl,E⟩
theorem qqV {k:Ke} (b:qdA k):∀ a:Nat,k.2.1<(a:Int)->k∈entsR k.1 a
 | 0,e=>by obtain ⟨d,_,c,_⟩:=b;omega
 | a+1,e=>by
  have f:=qqV b a;obtain ⟨d,n,c,g⟩:=b;unfold entsR;by_cases h:d=a
  ·subst h
   rw [g];refine QY.2 (.inr (QI.2 ?_));obtain ⟨J,q,x,E,y,z⟩:=k;simp only at c;subst c;rfl
  ·have:=f (by omega)
   cases qaX k.1 a with
   | none=>exact this
   | some G=>exact QY.2 (.inl this)
structure OkS (k:Ke):Prop where
 m:k.2.2.1.length<=10
 ex:k.2.2.2.2.1.length<=10
 len:k.2.2.2.1.length<=3
 up:upB (sB k.2.2.1)=sB k.2.2.1
 places:qbr k.2.2.2.2.1 k.2.2.2.1=true
 code:qa5 (sB k.2.2.1) k.2.2.2.1=0
 can:qy3 k.2.2.1 k.2.2.2.1 k.2.2.2.2.1=true
 rng:qzA k.2.2.2.1 k.2.2.2.2.1=true
 ix:qv4 k.2.2.2.1=qz1 k.1
 fst:k.2.2.2.1.any qfp=decide (3<=k.1)
 lo:0<=k.1
 hi:k.1<=6
theorem qdA.ok {k:Ke} (g:qdA k):OkS k:=by
 obtain ⟨G,b,-,y⟩:=g;obtain ⟨a,h,n⟩:=qtX b y;unfold okS at a;simp only [Qd,Qf,beq_iff_eq] at a;obtain ⟨⟨⟨⟨⟨⟨⟨⟨⟨E,d⟩,e⟩,q⟩,z⟩,f⟩,l⟩,i⟩,j⟩,c⟩:=a;exact ⟨E,d,e,ByteArray.ext q,z,f,l,i,j,c,h,n⟩
theorem qu3 {t:Tr} (k:vT t=true):qiV t.1 t.2.1 t.2.2=ixT t:=by
 obtain ⟨h,O,E⟩:=t;unfold vT at k;simp only at k |-;unfold qiV ixT;rw [Qi k];have n:=k;unfold qaC at n;simp only [Qd,Qf] at n;obtain ⟨⟨⟨T,J⟩,U⟩,K,M⟩:=n;have G:h=1\/h=2\/h=3\/h=4\/h=5\/h=6\/h=7\/h=8\/h=9\/h=10:=by omega
 have y:h=2\/h=3\/h=4->E=0:=fun k=>by
  rcases k with rfl | rfl | rfl
  ·have r:loK (2:Int).toNat=0:=rfl
   have q:hiK (2:Int).toNat=0:=rfl;omega
  ·have r:loK (3:Int).toNat=0:=rfl
   have q:hiK (3:Int).toNat=0:=rfl;omega
  ·have r:loK (4:Int).toNat=0:=rfl
   have q:hiK (4:Int).toNat=0:=rfl;omega
 unfold inB inP;rcases G with rfl | rfl | rfl | rfl | rfl | rfl | rfl | rfl | rfl | rfl
 all_goals (try (have z:=y (by omega);subst z))
 all_goals simp
 all_goals (repeat' split) <;> simp_all <;> omega
end Go.Proofs.YtecpnfhpcamljaaGreatDoor
namespace Go.Proofs.YtecpnfhpcamljaaGreatDoor
open Tryz
open Go.RowKit Go.Shelf
attribute [local go_sem] Oper.semAt_some
def qki (C:List Tr):Int:=if C.any qfp=true then 3 else 0
def qtf (C:List Tr):Int:=if C.any qfp=true then 6 else 2
theorem qjc (s:ByteArray) (K:Option Addr) (af o:Nat) (C:List Tr) (au:C.length=o) (aI:o<=1000) (w:World) (ap:qai w K C) :
  Calls prog 41 #[.agg #[.string s,.slice K o af]] w fun Z ay=>Z=.returned (.int .i64 (qki C))/\Below w.heap.size w ay:=by
 obtain ⟨R,ag⟩:=N9 (w.alloc (.cells #[.string s,.slice K o af] 24));obtain ⟨an,ao⟩:=N9 (w.heap.size);have ae:Below w.heap.size w R:=by rw [<- ag];exact up1 _ _
 have ac:R.heap[an]?=some (.cells #[.string s,.slice K o af] 24 (0,0)):=by rw [<- ag,<- ao];exact World.alloc_heap_new w _
 have B0:=J9 ae;have az:=J9 (ap.below ae);have av:=J9 ac;have ai:=J9 au;have aH:=J9 ao;have aj:=C9 ac 1;clear ap ae ac au
 go_enter func41,ntmps41
 go_wp2;clear aj ag
 go_loopw [3] (fun U wr=>∃ h:Nat,h<=o/\U=.int .i64 h/\Hid (∀ i (q:i<C.length),i<h->qfp C[i]=false)/\Hid (Below w.heap.size w wr)/\Hid (Below R.heap.size R wr)) (fun U _=>o - (intOf U).toNat)
 case atStart=>exact ⟨0,Qu _,rfl,fun i q aA=>by omega,B0.o,Qc _ _⟩
 case round=>
  obtain ⟨h,aE,rfl,T,O,B⟩:=hrel;have ab:=(B.o.block an (Qb.1 av.o).1).trans av.o;have aj:=C9 ab 1;by_cases aN:h<o
  ·have V:h<C.length:=by have:=ai.o;omega
   obtain ⟨aM,aF,rfl,aC,ak,am,aq⟩:=(az.o.below B.o).at_ V;have k:Hid (qfp C[h]=true->qki C=3):=fun q=>by
    unfold qki;rw [Qi (List.any_eq_true.2 ⟨_,QJ V,q⟩)]
   have j:Hid (qfp C[h]=false->∀ i (q:i<C.length),i<h+1->qfp C[i]=false):=fun q i ax aA=>by
    by_cases Z:i=h
    ·subst Z;exact q
    ·exact T.o i ax (by omega)
   obtain ⟨⟨n,x,G⟩,ar⟩:=N9 (C[h]);rw [ar] at ak am aq k j;simp only at ak am aq;have E:=(fun aa=>J9 (O.o.trans ((up1 wr aa).mono O.o.size)));have W:=(fun aa=>J9 (B.o.trans ((up1 wr aa).mono B.o.size)));have aL:(h:Int)<(o:Int):=(by omega);clear ar V T ab aC O B;by_cases z:n=2
   ·subst z
    have e:qfp (2,x,G)=true:=rfl;have y:=J9 (k.o e);clear k j e;go_wp2;go_ret;exact ⟨by rw [y.o];rfl,(E _).o⟩
   ·have aJ:(n == 2)=false:=Qm.2 z
    by_cases J:3<=n
    ·by_cases M:n<=5
     ·by_cases ad:x=5
      ·subst ad
       have e:qfp (n,5,G)=true:=(by unfold qfp;simp [z,J,M]);have y:=J9 (k.o e);clear k j e;go_wp2;go_ret;exact ⟨by rw [y.o];rfl,(E _).o⟩
      ·have aO:(x == 5)=false:=Qm.2 ad
       by_cases ah:x=6
       ·subst ah
        have e:qfp (n,6,G)=true:=(by unfold qfp;simp [z,J,M]);have y:=J9 (k.o e);clear k j e;go_wp2;go_ret;exact ⟨by rw [y.o];rfl,(E _).o⟩
       ·have aK:(x == 6)=false:=Qm.2 ah
        have e:qfp (n,x,G)=false:=(by unfold qfp;simp [z,J,M,ad,ah]);have R2:=J9 (j.o e);clear k j e;go_wp2;go_roundw
        case rel=>exact ⟨h+1,by omega,by go_num,R2.o,(E _).o,(W _).o⟩
        case measure=>simp [intOf];omega
     ·have e:qfp (n,x,G)=false:=by unfold qfp;simp [z,J,M]
      have R2:=J9 (j.o e);clear k j e;go_wp2;go_roundw
      case rel=>exact ⟨h+1,by omega,by go_num,R2.o,(E _).o,(W _).o⟩
      case measure=>simp [intOf];omega
    ·have e:qfp (n,x,G)=false:=by unfold qfp;simp [z,J]
     have R2:=J9 (j.o e);clear k j e;go_wp2;go_roundw
     case rel=>exact ⟨h+1,by omega,by go_num,R2.o,(E _).o,(W _).o⟩
     case measure=>simp [intOf];omega
  ·have y:Hid (qki C=0):=by
    show qki C=0;unfold qki;rw [Qe];intro q;obtain ⟨aG,aB,aw⟩:=List.any_eq_true.1 q;obtain ⟨i,aD,rfl⟩:=Ze aB;rw [T.o i aD (by have:=ai.o;omega)] at aw;cases aw
   clear T ab B;go_wp2;go_ret;exact ⟨by rw [y.o];rfl,O.o⟩
theorem qsE (s:ByteArray) (f:Option Addr) (y e:Nat) (C:List Tr) (M:C.length=e) (O:e<=1000) (w:World) (K:qai w f C) :
  Calls prog 42 #[.agg #[.string s,.slice f e y]] w fun E T=>E=.returned (.int .i64 (qtf C))/\Below w.heap.size w T:=by
 have q:=up1 w (.cells #[.string s,.slice f e y] 24);have h:=qjc s f y e C M O _ (K.below q);have B0:=J9 q;obtain ⟨U,G⟩:=N9 (C.any qfp);unfold qki at h;unfold qtf;rw [G] at h |-;clear K M G q
 go_enter func42,ntmps42
 go_wp2_with fail
 refine h.mono ?_;rintro E V ⟨rfl,z⟩;have J:=J9 (B0.o.trans (z.mono B0.o.size));clear h z B0;cases U with
 | true=>
  simp only [Qi];go_wp2;go_ret;exact ⟨rfl,J.o⟩
 | false=>
  simp only [Bool.false_eq_true,if_false];go_wp2;go_ret;exact ⟨rfl,J.o⟩
end Go.Proofs.YtecpnfhpcamljaaGreatDoor
namespace Go.Stops
open Go Go.RowKit
variable {F:Fence} {n:Nat} {P:Program}
theorem qBB {k:Type} {g:Operand} {ps:Array Tmp} {assign body:Code} {Q:Exit->Act->World->Prop} {a:Act} {w:World} (aZ:F.round=none) (aQ:1<=n)
  {gf:Nat} {lb:Array Value} (aK:a.eval g=.func (.func gf) #[] lb) (aX:F.fn gf) (aC:∀ args w,(callFunc gf args).run P w=.ok (.enter gf args) w)
  {af:k->Array Value} {ah:List k->k->Prop} {ao:Nat} {E:World->World->Prop} {S:List k->Prop} (a8:qBO F (n - 1) P gf lb af ah ao E S w) (be:ao<w.heap.size)
  (am:∀ {A B C:World},E A B->E B C->E A C) (ap:∀ (e:World) (l:Nat) (o aT:Obj),w.heap.size<=l->e.heap[l]?=some o->o.isCells=false->E e (e.putObj l aT)) (aB:∀ x,(af x).size=ps.size)
  (I ae:List k->World->Prop) (X:OwnFrom w.heap.size I) (a7:Apart ao I) (ag:OwnFrom w.heap.size ae) (aV:I [] w) (ad:k->Act->World->Prop) (aP:∀ x,OwnFrom w.heap.size (ad x))
  (aU:∀ (l:Nat) (h:List k) (x:k) (e:World) (ar:Act->World->Prop),I h e->ah h x->(∀ G aa,KeepsFrom w.heap.size e aa->E e aa->I h aa->ad x G aa->ar G aa)->
   assign.wpIn (F.inRound l) (n - 1 - 1) P (Exit.then ar (fun _ _ _=>False)) {tmps:=(ps.zip (af x)).foldl (fun t (p,v)=>t.setIfInBounds p v) a.tmps,defers:=[]} e)
  (aD:∀ (l:Nat) (h:List k) (x:k) (G:Act) (e:World),w.heap.size<=l->(∃ r,e.heap[l]?=some (.loop r))->I h e->ad x G e->ah h x->body.wpIn (F.inRound l) (n - 1 - 1) P (qmw w.heap.size E I ae (h++[x]) e) G e)
  (aS:∀ (D:Nat) (xs:List k) (e:World),w.heap.size<=D->S xs->I xs e->e.heap[D]?=some (.deferred (some []))->Q .normal {a with defers:={target:=.collected D,args:=#[]} :: a.defers} e)
  (aG:∀ (D:Nat) (h:List k) (e:World),w.heap.size<=D->ae h e->e.heap[D]?=some (.deferred (some []))->Code.ret.wpIn F n P Q {a with defers:={target:=.collected D,args:=#[]} :: a.defers} e) :
  (Code.rangeFunc g ps assign body).wpIn F n P Q a w:=by
 refine wpIn_rangeFunc fun fn aF=>?_
 rw [aZ];let y:LoopState->Option Code->Loop:=fun a2 aY=>{state:=a2,pending:=aY,fn:=fn,tmps:=a.tmps,params:=ps,assign:=assign,body:=body,defers:=w.heap.size}
 let B:World:=(w.alloc (.deferred (some []))).alloc (.loop (y .ready none));have a0:B.heap[w.heap.size]?=some (.deferred (some [])):=(Below.heap_alloc _ _ _ (by simp)).trans (World.alloc_heap_new w _);have aL:B.heap[w.heap.size+1]?=some (.loop (y .ready none)):=by
  have aJ:=World.alloc_heap_new (w.alloc (.deferred (some []))) (.loop (y .ready none))
  rwa [QB] at aJ
 have aW:I [] B:=X.alloc _ (X.alloc _ aV);have aR:Below w.heap.size w B:=((B0 (w:=w))).alloc (by simp) _;have bc:B.heap.size=w.heap.size+1+1:=by simp [B]
 -- what a turn of a walk of the iterator's own leaves of the two blocks
 have walk:∀ {j Y:World} {row:Option Nat} {R:Nat} {o:Obj},j.grownBy Y row->(∀ r,row=some r->B.heap.size<=r/\∃ o:Obj,j.heap[r]?=some o/\o.isWalk=true)->j.heap[R]?=some o->R<w.heap.size+2->Y.heap[R]?=some o:=fun q s ak bf=>
  (q.block _ (Qb.1 ak).1 fun W=>by have:=(s _ W.symm).1;omega).trans ak
 have aw:∀ {j Y:World} {row:Option Nat},(∀ r,row=some r->B.heap.size<=r/\∃ o:Obj,j.heap[r]?=some o/\o.isWalk=true)->(∀ r,row=some r->w.heap.size<=r/\∃ o:Obj,j.heap[r]?=some o/\o.isCells=false):=fun s r W=>by
  obtain ⟨a9,o,aN,a5⟩:=s r W;exact ⟨by omega,o,aN,Obj.not_cells_of_walk a5⟩
 refine ⟨w.heap.size+1,[{target:=.collected w.heap.size,args:=#[]}],B,{target:=.fn (.func gf) lb,args:=#[.func (.yield (w.heap.size+1)) #[] #[]]},B,gf,#[.func (.yield (w.heap.size+1)) #[] #[]]++lb,B,
  run_enterLoop_outer _ _ _ _ _,by simp only [resolve,aK];simp [go_sem],fun bb au=>by simp [Target.leads] at au;subst au;exact aX,by simp [invoke,go_sem,aC],fun _=>aQ,?_⟩
 refine (a8 (w.heap.size+1) (fun h e=>I h e/\e.heap[w.heap.size+1]?=some (.loop (y .ready none))/\e.heap[w.heap.size]?=some (.deferred (some [])))
  (fun h e=>ae h e/\e.heap[w.heap.size+1]?=some (.loop (y .done (some .ret)))/\e.heap[w.heap.size]?=some (.deferred (some []))) B aR ?_ ?_ ?_ ?_ ⟨aW,aL,a0⟩).mono ?_
 ·rintro ac j Y row ⟨M,K,O⟩ q s
  exact ⟨X ac j Y row M q (aw (Y:=Y) s),walk q s K (by omega),walk q s O (by omega)⟩
 ·rintro ac j Y ⟨M,K,O⟩ q
  have aq:∀ {R:Nat} {o:Obj},w.heap.size<=R->j.heap[R]?=some o->Y.heap[R]?=some o:=fun ak ay=>(q.block _ (Qb.1 ay).1 fun W=>by have:=Qs W;omega).trans ay
  exact ⟨a7 ac j Y M q,aq (by omega) K,aq (Qa _) O⟩
 ·rintro h x e ⟨M,K,O⟩ az
  refine ⟨fn,_,assign,body,run_yield (P:=P) (args:=af x) K (aB x),roundIn_of_wpIn aF (aU _ h x e _ M az fun G aj ax aO aI a4=>?_)⟩;have ab:=ax.same _ _ (by omega) K rfl;have aA:=ax.same _ _ (Qa _) O rfl;have a1:w.heap.size+1<aj.heap.size:=(Qb.1 ab).1;refine ⟨_,run_beginRound ab rfl,?_⟩;obtain ⟨Z,V⟩:=N9 (aj.putObj (w.heap.size+1) (.loop {y .ready none with state:=.busy}));have an:Z.heap[w.heap.size+1]?=some (.loop {y .ready none with state:=.busy}):=V ▸ World.putObj_heap_same a1;have av:Z.heap[w.heap.size]?=some (.deferred (some [])):=V ▸ (World.putObj_heap_other (by omega)).trans aA;have aE:I h Z:=V ▸ X.putObj _ aI (by omega) ab rfl;have a6:ad x G Z:=V ▸ (aP x).putObj _ a4 (by omega) ab rfl;have a3:E e Z:=am aO (V ▸ ap _ _ _ _ (by omega) ab rfl);show body.wpIn _ _ _ _ _ (aj.putObj (w.heap.size+1) (.loop {y .ready none with state:=.busy}));rw [V];refine wpIn_mono (aD (w.heap.size+1) h x G Z (Nat.le_succ _) ⟨_,an⟩ aE a6 az) ?_;rintro (_ | _ | _ | _ | _ | _) bd aM ai
  case normal=>
   obtain ⟨z,T,U⟩:=ai;have J:=z.same _ _ (by omega) an rfl;exact ⟨_,_,run_endRound (P:=P) none J,.inl ⟨rfl,⟨X.putObj _ U (by omega) J rfl,World.putObj_heap_same (Qb.1 J).1,(World.putObj_heap_other (by omega)).trans (z.same _ _ (Qa _) av rfl)⟩,am (am a3 T) (ap _ _ _ _ (by omega) J rfl)⟩⟩
  case ret=>
   obtain ⟨z,U⟩:=ai;have J:=z.same _ _ (by omega) an rfl;exact ⟨_,_,run_endRound (P:=P) (some .ret) J,.inr ⟨rfl,ag.putObj _ U (by omega) J rfl,World.putObj_heap_same (Qb.1 J).1,(World.putObj_heap_other (by omega)).trans (z.same _ _ (Qa _) av rfl)⟩⟩
  all_goals exact ai.elim
 ·rintro ac j Y row ⟨M,K,O⟩ q s
  exact ⟨ag ac j Y row M q (aw (Y:=Y) s),walk q s K (by omega),walk q s O (by omega)⟩
 ·rintro W aM ⟨⟨v,rfl⟩,(⟨xs,aH,z,T,U⟩ | ⟨h,z,T,U⟩)⟩
  ·exact ⟨none,_,run_endLoop (P:=P) T (by simp [y]),aS _ xs _ (Qa _) aH (X.putObj _ z (by omega) T rfl) ((World.putObj_heap_other (by omega)).trans U)⟩
  ·exact ⟨some .ret,_,run_endLoop (P:=P) T (by simp [y]),aG _ h _ (Qa _) (ag.putObj _ z (by omega) T rfl) ((World.putObj_heap_other (by omega)).trans U)⟩
end Go.Stops
namespace Go.Each
open Go Go.RowKit
variable {F:Fence} {n:Nat} {P:Program}
def qBM {l:Type} (F:Fence) (n:Nat) (P:Program) (g:Nat) (ba lb:Array Value) (M:l->Array Value) (G:l->World->Prop) (J:World->World->Prop) (S:List l->Prop) (N:Nat) (w:World):Prop:=
 ∀ (z:Nat) (e:List l->World->Prop) (h:World),Below w.heap.size w h->AbidesFrom h.heap.size e->
  (∀ y x W1,e y W1->G x W1->y.length<N->YieldAt F (n - 1) P z (M x) W1 fun v q=>v=.returned (.bool true)/\e (y++[x]) q/\J W1 q)->
  e [] h->CallsIn F n P g (ba++#[.func (.yield z) #[] #[]]++lb) h fun v q=>(∃ K,v=.returned K)/\∃ E,S E/\e E q
theorem qBE {q:Type} {g:Operand} {ps:Array Tmp} {assign body:Code} {Q:Exit->Act->World->Prop} {a:Act} {w:World} {ag:Nat} {ai:Loop} (aM:F.round=some ag) (aQ:w.heap[ag]?=some (.loop ai)) (aB:1<=n)
  {gf:Nat} {ba lb:Array Value} (av:a.eval g=.func (.func gf) ba lb) (aL:F.fn gf) (an:∀ args w,(callFunc gf args).run P w=.ok (.enter gf args) w)
  {W:q->Array Value} {ab:q->World->Prop} {s:World->World->Prop} {S:List q->Prop} {N:Nat} (aV:qBM F (n - 1) P gf ba lb W ab s S N w)
  (aa:∀ {A B C:World},s A B->s B C->s A C) (ac:∀ (e:World) (l:Nat) (o aF:Obj),w.heap.size<=l->e.heap[l]?=some o->o.isCells=false->s e (e.putObj l aF)) (am:∀ x,(W x).size=ps.size)
  (I:List q->World->Prop) (J:OwnFrom w.heap.size I) (aJ:I [] w) (R:q->Act->World->Prop) (aA:∀ x,OwnFrom w.heap.size (R x))
  (aI:∀ (l:Nat) (h:List q) (x:q) (e:World) (af:Act->World->Prop),I h e->ab x e->(∀ y r,KeepsFrom w.heap.size e r->s e r->I h r->R x y r->af y r)->
   assign.wpIn (F.inRound l) (n - 1 - 1) P (Exit.then af (fun _ _ _=>False)) {tmps:=(ps.zip (W x)).foldl (fun t (p,v)=>t.setIfInBounds p v) a.tmps,defers:=[]} e)
  (ao:∀ (l:Nat) (h:List q) (x:q) (y:Act) (e:World),I h e->R x y e->h.length<N->body.wpIn (F.inRound l) (n - 1 - 1) P (qtZ fun r=>KeepsFrom w.heap.size e r/\s e r/\I (h++[x]) r) y e)
  (aE:∀ (xs:List q) (e:World),S xs->I xs e->Q .normal a e) :
  (Code.rangeFunc g ps assign body).wpIn F n P Q a w:=by
 refine wpIn_rangeFunc fun fn aq=>?_
 rw [aM];let z:LoopState->Loop:=fun aP=>{state:=aP,pending:=none,fn:=fn,tmps:=a.tmps,params:=ps,assign:=assign,body:=body,defers:=ai.defers}
 let B:World:=w.alloc (.loop (z .ready));have aw:B.heap[w.heap.size]?=some (.loop (z .ready)):=World.alloc_heap_new w _;have aK:I [] B:=J.alloc _ aJ;have aC:Below w.heap.size w B:=(B0 (w:=w));have a2:B.heap.size=w.heap.size+1:=by simp [B]
 refine ⟨w.heap.size,[],B,{target:=.fn (.func gf) lb,args:=ba++#[.func (.yield w.heap.size) #[] #[]]},B,gf,ba++#[.func (.yield w.heap.size) #[] #[]]++lb,B,
  run_enterLoop_inner aQ _ _ _ _ _,by simp only [resolve,av];simp [go_sem],fun a1 ah=>by simp [Target.leads] at ah;subst ah;exact aL,by simp [invoke,go_sem,an],fun _=>aB,?_⟩
 refine (aV w.heap.size (fun h e=>I h e/\e.heap[w.heap.size]?=some (.loop (z .ready))) B aC ?_ ?_ ⟨aK,aw⟩).mono ?_
 ·rintro aN ad aW row ⟨X,M⟩ aj ak
  have aD:∀ E,row=some E->∃ o:Obj,ad.heap[E]?=some o/\o.isWalk=true:=fun E U=>(ak E U).2
  refine ⟨J aN ad aW row X aj fun E U=>?_,(grownBy_keeps aj aD M rfl).trans M⟩;obtain ⟨a0,o,ay,aT⟩:=ak E U;exact ⟨by omega,o,ay,Obj.not_cells_of_walk aT⟩
 ·rintro h x e ⟨X,M⟩ aZ aY
  refine ⟨fn,_,assign,body,run_yield (P:=P) (args:=W x) M (am x),roundIn_of_wpIn aq (aI _ h x e _ X aZ fun y Y aX az au aS=>?_)⟩;have K:=aX.same _ _ (Qa _) M rfl;have aO:w.heap.size<Y.heap.size:=(Qb.1 K).1;refine ⟨_,run_beginRound K rfl,?_⟩;obtain ⟨O,G⟩:=N9 (Y.putObj w.heap.size (.loop {z .ready with state:=.busy}));have aH:O.heap[w.heap.size]?=some (.loop {z .ready with state:=.busy}):=G ▸ World.putObj_heap_same aO;have ap:I h O:=G ▸ J.putObj _ au (Qa _) K rfl;have aU:R x y O:=G ▸ (aA x).putObj _ aS (Qa _) K rfl;have aR:s e O:=aa az (G ▸ ac _ _ _ _ (Qa _) K rfl);show body.wpIn _ _ _ _ _ (Y.putObj w.heap.size (.loop {z .ready with state:=.busy}));rw [G];refine wpIn_mono (ao _ h x y O ap aU aY) ?_;rintro (_ | _ | _ | _ | _ | _) a3 ax ae
  case normal=>
   obtain ⟨Z,T,aG⟩:=ae;have V:=Z.same _ _ (Qa _) aH rfl;refine ⟨_,_,run_endRound (P:=P) none V,rfl,⟨J.putObj _ aG (Qa _) V rfl,World.putObj_heap_same (Qb.1 V).1⟩,aa (aa aR T) (ac _ _ _ _ (Qa _) V rfl)⟩
  all_goals exact ae.elim
 ·rintro U ax ⟨⟨v,rfl⟩,xs,ar,Z,T⟩
  exact ⟨none,_,run_endLoop (P:=P) T (by simp [z]),aE xs _ ar (J.putObj _ Z (Qa _) T rfl)⟩
end Go.Each
namespace Go.Proofs.YtecpnfhpcamljaaGreatDoor
open Tryz
open Go.RowKit Go.Shelf
attribute [local go_sem] Oper.semAt_some
def nxtG (h f:Int):Int:=bits .and .u8 (IntKind.u8.wrap (f - h)) h
def qon (q h:Int):Nat->Int->List Int
 | 0,_=>[]
 | k+1,f=>bits .or .u8 q f :: (if f=h then [] else qon q h k (nxtG h f))
def okG (h q:Int):Nat->Int->Bool
 | 0,_=>false
 | k+1,f=>decide (0<=bits .or .u8 h f)&&decide (bits .or .u8 h f<=255)&&(decide (f=q)||okG h q k (nxtG q f))
def opsP (p:Pat):List Int:=qon (qq9 p.1).1 (qq9 p.1).2 256 0
def okP (p:Pat):Bool:=okG (qq9 p.1).1 (qq9 p.1).2 256 0
theorem qfV (y q:Int):∀ (k m:Nat) (v:Int),okG y q k v=true->k<=m->qon y q m v=qon y q k v
 | 0,m,v,h,_=>by cases h
 | k+1,0,v,_,z=>by omega
 | k+1,m+1,v,h,z=>by
  unfold okG at h;simp only [Qd,Zv,Qf] at h;unfold qon;by_cases e:v=q
  ·rw [Qi e,Qi e]
  ·rw [Qe e,Qe e,qfV y q k m _ (h.2.resolve_left e) (by omega)]
theorem qo6 (q h:Int) (k:Nat) (v:Int) (z:okG q h (k+1) v=true) (e:v≠h) (E:k+1<=256):(qon q h 256 (nxtG h v)).length<(qon q h 256 v).length:=by
 have y:=z;unfold okG at y;simp only [Qd,Zv,Qf] at y;rw [qfV q h (k+1) 256 v z E,qfV q h k 256 _ (y.2.resolve_left e) (by omega)];show _<(_ :: _).length;rw [Qe e];exact Nat.lt_succ_self _
theorem qh3 (n:Nat) (p:Pat) (ag:p.1.length=8) (ac:okP p=true) (w:World) :
  Each.qBM Fence.wide n prog 248 #[.agg #[.string (sB p.1),.string (sB p.2)]] #[] (fun x:Int=>#[.int .u8 x]) (fun x _=>0<=x/\x<=255) (fun _ _=>True) (fun xs=>xs=opsP p) 256 w:=fun aB K U av af ab ai=>by
 have V:∀ (E:List Int) (y J:World),K E y->Below y.heap.size y J->K E J:=fun E y J r q=>af E y J none r ⟨q.os,q.tape,q.output,q.size,fun ar az _=>q.block ar az⟩ (fun aI ad=>by cases ad)
 have Y:=fun z=>qiP p.1 p.2 ag (U.alloc z)
 obtain ⟨h,O⟩:=N9 ((qq9 p.1).1);obtain ⟨f,G⟩:=N9 ((qq9 p.1).2);have an:Hid (opsP p=qon h f 256 0):=by show opsP p=_;unfold opsP;rw [O,G]
 have v:Hid (okG h f 256 0=true):=by show _=_;rw [<- ac];unfold okP;rw [O,G]
 rw [O,G] at Y;have ay:=J9 ab;have aE:=J9 V;have am:Hid (∀ z,K [] (U.alloc z)):=fun z=>V _ _ _ ai ((Qc _ _).alloc (Qa _) z)
 clear ai ab V af av O G ac ag;refine callsIn_wide.2 ?_;show Calls prog 248 #[.agg #[.string (sB p.1),.string (sB p.2)],.func (.yield aB) #[] #[]] U _
 go_enter func248,ntmps248
 go_wp2_with fail
 refine (Y _).mono ?_;rintro ad aF ⟨rfl,aq⟩;have ao:=J9 (aE.o _ _ _ (am.o _) aq);clear Y aq am
 go_upto_region 2 with fail
 go_wp2
 go_loopw [6] (fun aa wr=>∃ (k:List Int) (i:Nat) (e:Int),aa=.int .u8 e/\Hid (okG h f i e=true)/\Hid (k++qon h f i e=opsP p)/\Hid (k.length+i=256)/\Hid (K k wr)) (fun aa _=>(qon h f 256 (intOf aa)).length)
 case atStart=>exact ⟨[],256,0,rfl,v.o,an.o.symm,rfl,ao.o⟩
 case round=>
  clear ao an v;obtain ⟨k,i,e,rfl,v,ak,T,ae⟩:=hrel;cases i with
  | zero=>exact absurd v.o (by unfold okG;decide)
  | succ i=>
   have W:Hid ((0<=bits .or .u8 h e/\bits .or .u8 h e<=255)/\(e=f\/okG h f i (nxtG f e)=true)):=by
    have r:=v.o;unfold okG at r;simp only [Qd,Zv,Qf] at r;exact r
   have ax:=ay.o k (bits .or .u8 h e) wr ae.o W.o.1 (by have:=T.o;omega);obtain ⟨aJ,tmps,assign,body,aD,aj⟩:=ax;have Z:=J9 (qo6 h f i e v.o);have au:Hid (i+1<=256):=(by have:=T.o;omega:i+1<=256);have M:Hid (k++bits .or .u8 h e :: (if e=f then [] else qon h f i (nxtG f e))=opsP p):=ak.o;have aC:Hid ((k++[bits .or .u8 h e]).length+i=256):=(by show _=_;rw [Qk];have:=T.o;simp;omega);clear ak v ae T
   go_upto_region 3 with fail
   refine (wpIn_wide (n:=n)).1 ?_
   gi_wp2
   refine ⟨fun r=>(by cases r),aj.mono ?_⟩;rintro aG aH ⟨rfl,ah,-⟩;have ap:=J9 ah;clear ah aj aD;by_cases o:e=f
   ·have X:Hid (k++[bits .or .u8 h e]=opsP p):=by show _=_;rw [<- M.o,Qi o]
    have q:(e == f)=true:=(by rw [o];exact beq_self_eq_true _);clear o M Z
    gi_wp2
    go_wp2
    go_end0
    exact ⟨⟨_,rfl⟩,_,X.o,ap.o⟩
   ·have q:(e == f)=false:=by simpa using o
    have aw:Hid (okG h f i (nxtG f e)=true):=W.o.2.resolve_left o;have X:Hid ((k++[bits .or .u8 h e])++qon h f i (nxtG f e)=opsP p):=(by show _=_;rw [<- M.o,Qe o,Za];rfl);have aA:=J9 (Z.o o au.o);clear o M Z W
    gi_wp2
    go_wp2;go_roundw
    case rel=>exact ⟨k++[bits .or .u8 h e],i,nxtG f e,rfl,aw.o,X.o,aC.o,ap.o⟩
    case measure=>exact aA.o
end Go.Proofs.YtecpnfhpcamljaaGreatDoor
namespace Go.Proofs.YtecpnfhpcamljaaGreatDoor
open Tryz
open Go.RowKit Go.Shelf
def qeC (ps:List Pat) (i:Nat):Pat:=(ps.find? fun h=>qcD h.1 (i:Int)).getD ([],[])
def mkF (ps:List Pat) (p:Pat) (xs:List Int) (i:Nat):Pat:=if (i:Int)∈xs/\(qeC ps i).1=[] then p else qeC ps i
theorem quW (ps:List Pat) (p:Pat) (i:Nat):mkF ps p [] i=qeC ps i:=by
 unfold mkF;rw [Qe (by simp)]
theorem qrx (ps:List Pat) (p:Pat) (xs:List Int) (x:Nat) (k:(mkF ps p xs x).1≠[]) (i:Nat):mkF ps p (xs++[(x:Int)]) i=mkF ps p xs i:=by
 unfold mkF at k |-;by_cases y:i=x
 ·subst y
  by_cases h:(qeC ps i).1=[]
  ·by_cases q:(i:Int)∈xs
   ·rw [Qi ⟨by simp,h⟩,Qi ⟨q,h⟩]
   ·rw [Qe (fun e=>q e.1)] at k
    exact absurd h k
  ·rw [Qe (fun e=>h e.2),Qe (fun e=>h e.2)]
 ·have:((i:Int)∈xs++[(x:Int)])↔((i:Int)∈xs):=by
   simp only [QY,QI];exact ⟨fun e=>e.resolve_right (by omega),.inl⟩
  simp only [this]
theorem qvM (ps:List Pat) (p:Pat) (xs:List Int) (x:Nat) (h:(mkF ps p xs x).1=[]) (i:Nat):mkF ps p (xs++[(x:Int)]) i=if i=x then p else mkF ps p xs i:=by
 by_cases q:i=x
 ·subst q
  rw [Qi rfl];unfold mkF at h |-;by_cases e:(qeC ps i).1=[]
  ·rw [Qi ⟨by simp,e⟩]
  ·rw [Qe (fun k=>e k.2)] at h
   exact absurd h e
 ·rw [Qe q]
  unfold mkF;have:((i:Int)∈xs++[(x:Int)])↔((i:Int)∈xs):=by
   simp only [QY,QI];exact ⟨fun k=>k.resolve_right (by omega),.inl⟩
  simp only [this]
theorem qhF:∀ p∈mainP++cbP++edP,okP p=true/\p.1≠[]/\∀ i:Fin 256,decide ((i.val:Int)∈opsP p)=qcD p.1 (i.val:Int):=by decide +kernel
theorem qsN (ps:List Pat) (p:Pat) (z:p∈mainP++cbP++edP) (G:∀ k∈ps,k∈mainP++cbP++edP) (i:Nat) (J:i<256):mkF ps p (opsP p) i=qeC (ps++[p]) i:=by
 have h:=(qhF p z).2.2 ⟨i,J⟩;simp only at h;unfold mkF qeC;rw [List.find?_append];cases E:ps.find? fun p=>qcD p.1 (i:Int) with
 | none=>
  simp only [Option.getD_none,Option.none_or,List.find?_cons,List.find?_nil];cases y:qcD p.1 (i:Int)
  ·rw [y] at h
   rw [Qe (fun q=>QX h q.1)];rfl
  ·rw [y] at h
   rw [Qi ⟨Qo h,trivial⟩];rfl
 | some k=>
  have K:=(qhF k (G k (List.mem_of_find?_eq_some E))).2.1;simp only [Option.getD_some,Option.some_or];rw [Qe (fun q=>K q.2)]
def qbh (ps:List Pat):Nat->List (Pat×Int)
 | 0=>[]
 | k+1=>if (qeC ps k).1=[] then qbh ps k else qbh ps k++[(qeC ps k,(k:Int))]
end Go.Proofs.YtecpnfhpcamljaaGreatDoor
namespace Go.Proofs.YtecpnfhpcamljaaGreatDoor
open Tryz
open Go.RowKit Go.Shelf
attribute [local go_sem] Oper.semAt_some
def qpH (f:Nat->Pat) (i:Nat):Value:=.string (sB (if i % 2=0 then (f (i / 2)).1 else (f (i / 2)).2))
theorem qtJ (f:Nat->Pat) (i:Nat):qpH f (i*2)=.string (sB (f i).1):=by
 unfold qpH;rw [Qi (by omega),show i*2 / 2=i by omega]
theorem qt0 (f:Nat->Pat) (i:Nat):qpH f (i*2+1)=.string (sB (f i).2):=by
 unfold qpH;rw [Qe (by omega),show (i*2+1) / 2=i by omega]
def qfE (w:World) (b:Nat) (f:Nat->Pat):Prop:=w.rowIs b 272 512 (qpH f)
theorem qfE.c0 {w:World} {b:Nat} {f:Nat->Pat} (h:qfE w b f) {i:Nat} (q:i<256):w.cell? ⟨b,i*2,none⟩=some (.string (sB (f i).1)):=by rw [World.rowIs.cell h (by omega),qtJ]
theorem qfE.c1 {w:World} {b:Nat} {f:Nat->Pat} (h:qfE w b f) {i:Nat} (q:i<256):w.cell? ⟨b,i*2+1,none⟩=some (.string (sB (f i).2)):=by rw [World.rowIs.cell h (by omega),qt0]
theorem qfE.lt {w:World} {b:Nat} {f:Nat->Pat} (h:qfE w b f):b<w.heap.size:=World.rowIs.lt h
theorem qfE.block {w w':World} {b:Nat} {f:Nat->Pat} (h:qfE w b f) (e:w'.heap[b]?=w.heap[b]?):qfE w' b f:=World.rowIs.of_block h e
theorem qfE.congr {w:World} {b:Nat} {f g:Nat->Pat} (h:qfE w b f) (e:∀ i,i<256->f i=g i):qfE w b g:=World.rowIs.congr h fun i q=>by
 unfold qpH;rw [e (i / 2) (by omega)]
theorem qfE.put {w:World} {b:Nat} {f:Nat->Pat} (q:qfE w b f) (i:Nat) (p:Pat):qfE ((w.setCell ⟨b,i*2,none⟩ (.string (sB p.1))).setCell ⟨b,i*2+1,none⟩ (.string (sB p.2))) b (fun j=>if j=i then p else f j):=
 World.rowIs.congr (World.rowIs.set (World.rowIs.set q (i*2) _) (i*2+1) _) fun j y=>by
  unfold qpH;show (if j=i*2+1 then Value.string (sB p.2) else if j=i*2 then .string (sB p.1) else .string (sB (if j % 2=0 then (f (j / 2)).1 else (f (j / 2)).2)))=.string (sB (if j % 2=0 then (if j / 2=i then p else f (j / 2)).1 else (if j / 2=i then p else f (j / 2)).2));by_cases e:j / 2=i
  ·rw [Qi e]
   by_cases h:j % 2=0
   ·rw [Qe (by omega),Qi (by omega),Qi h]
   ·rw [Qi (by omega),Qe h]
  ·rw [Qe e,Qe (by omega),Qe (by omega)]
theorem qmE:(prog.info? 272).map (fun i=>(i.zero,i.size))=some (some (.agg (Array.replicate 512 (.string ⟨#[]⟩))),512):=by kernel_rfl
theorem und_row:prog.underlying 272=some (.array 256 219):=by kernel_rfl
theorem qtG (w:World):(zeroValue 272).run prog w=.ok (.agg (Array.replicate 512 (.string ⟨#[]⟩))) w:=(zero_of_info qmE).1 w
theorem qwg (w:World):qfE (w.alloc (.cells (Array.replicate 512 (.string ⟨#[]⟩)) 272)) w.heap.size (qeC []):=by
 have i:=World.rowIs_alloc w (Array.replicate 512 (.string ⟨#[]⟩)) 272 (qpH (qeC [])) (fun q h=>by
  rw [Array.size_replicate] at h;rw [Array.getElem?_replicate,Qi h];unfold qpH qeC;split <;> rfl)
 rwa [Array.size_replicate] at i
def qub (f:Nat->Pat):Array Value:=((List.range 512).map (qpH f)).toArray
theorem qmU (f:Nat->Pat) (j:Nat) (h:j<512):(qub f)[j]?=some (qpH f j):=by
 unfold qub;rw [List.getElem?_toArray,Zi,List.getElem?_range h];rfl
theorem qja (f:Nat->Pat):(qub f).size=512:=by unfold qub;simp
theorem qtI {w:World} {b:Nat} {f:Nat->Pat} (q:qfE w b f):(Instr.loadAt 272 (.pointer (some ⟨b,0,none⟩))).run prog w=.ok (.agg (qub f)) w:=by
 obtain ⟨e,z,i,y⟩:=q;have E:e=qub f:=by
  apply Array.ext_getElem?;intro c;have G:=qja f;by_cases h:c<512
  ·rw [y c h,qmU f c h]
  ·rw [Array.getElem?_eq_none (by omega),Array.getElem?_eq_none (by omega)]
 simp only [Instr.loadAt,Instr.sureAddr,Sem.run_bind,Sem.run_pure,Result.andThen];rw [<- E];exact run_loadVar_row _ b 272 272 e (0,0) _ z und_row rfl (by rw [i];exact (zero_of_info qmE).2)
theorem qso (f:Nat->Pat) (i:Nat) (y:i<256):(qub f).extract (i*2) (i*2+2)=#[.string (sB (f i).1),.string (sB (f i).2)]:=by
 have q:=qja f;have j:=qmU f;apply Array.ext_getElem?;intro h;rw [Array.getElem?_extract]
 match h with
 | 0=>rw [Qi (by omega),j _ (by omega),Nat.add_zero,qtJ];rfl
 | 1=>rw [Qi (by omega),j _ (by omega),qt0];rfl
 | h+2=>rw [Qe (by omega)];rfl
theorem qqq (f:Nat->Pat) (i:Nat) (y:i<256) (w:World):(Instr.index 272 (.agg (qub f)) (.int .i64 (i:Int))).run prog w=.ok (.agg #[.string (sB (f i).1),.string (sB (f i).2)]) w:=by
 have h:(prog.info? 219).map (fun i=>i.size)=some 2:=by kernel_rfl
 obtain ⟨q,M,K⟩:∃ q,prog.info? 219=some q/\q.size=2:=by
  cases z:prog.info? 219 with
  | none=>rw [z] at h;cases h
  | some i=>rw [z] at h;exact ⟨i,rfl,by simpa using h⟩
 have G:∀ w,(Go.sizeOf 219).run prog w=.ok 2 w:=fun w=>by simp [Go.sizeOf,typeInfo,M,K]
 have O:0<=(i:Int)/\(i:Int)<((256:Nat):Int):=by omega
 have J:=qso f i y;have E:¬256<=i:=by omega
 simp [Instr.index,run_underlying und_row,asIntOf,y,E,part,isAgg,G,J,run_underlying underlying219,go_sem]
end Go.Proofs.YtecpnfhpcamljaaGreatDoor
namespace Go.Each
open Go Go.RowKit
def qBN {l:Type} (F:Fence) (n:Nat) (P:Program) (g:Nat) (lb:Array Value) (M:l->Array Value) (G:l->World->Prop) (J:World->World->Prop) (S:List l->Prop) (N:Nat) (w:World):Prop:=
 ∀ (z:Nat) (e:List l->World->Prop) (h:World),Below w.heap.size w h->OwnFrom h.heap.size e->
  (∀ y x W1,e y W1->G x W1->y.length<N->YieldAt F (n - 1) P z (M x) W1 fun v q=>v=.returned (.bool true)/\e (y++[x]) q/\J W1 q)->
  e [] h->CallsIn F n P g (#[.func (.yield z) #[] #[]]++lb) h fun v q=>(∃ K,v=.returned K)/\∃ E,S E/\e E q
variable {F:Fence} {n:Nat} {P:Program}
theorem qBF {k:Type} {g:Operand} {ps:Array Tmp} {assign body:Code} {Q:Exit->Act->World->Prop} {a:Act} {w:World} (aO:F.round=none) (aF:1<=n)
  {gf:Nat} {lb:Array Value} (az:a.eval g=.func (.func gf) #[] lb) (aM:F.fn gf) (aq:∀ args w,(callFunc gf args).run P w=.ok (.enter gf args) w)
  {X:k->Array Value} {ad:k->World->Prop} {s:World->World->Prop} {S:List k->Prop} {N:Nat} (aY:qBN F (n - 1) P gf lb X ad s S N w)
  (aa:∀ {A B C:World},s A B->s B C->s A C) (ae:∀ (e:World) (l:Nat) (r aN:Loop),w.heap.size<=l->e.heap[l]?=some (.loop r)->s e (e.putObj l (.loop aN))) (ap:∀ x,(X x).size=ps.size)
  (I:List k->World->Prop) (E:OwnFrom w.heap.size I) (aK:I [] w) (R:k->Act->World->Prop) (aE:∀ x,OwnFrom w.heap.size (R x))
  (aJ:∀ (l:Nat) (h:List k) (x:k) (e:World) (ag:Act->World->Prop),I h e->ad x e->(∀ y o,KeepsFrom w.heap.size e o->s e o->I h o->R x y o->ag y o)->
   assign.wpIn (F.inRound l) (n - 1 - 1) P (Exit.then ag (fun _ _ _=>False)) {tmps:=(ps.zip (X x)).foldl (fun t (p,v)=>t.setIfInBounds p v) a.tmps,defers:=[]} e)
  (ar:∀ (l:Nat) (h:List k) (x:k) (y:Act) (e:World),I h e->R x y e->h.length<N->body.wpIn (F.inRound l) (n - 1 - 1) P (qtZ fun o=>KeepsFrom w.heap.size e o/\s e o/\I (h++[x]) o) y e)
  (aH:∀ (D:Nat) (xs:List k) (e:World),w.heap.size<=D->S xs->I xs e->e.heap[D]?=some (.deferred (some []))->Q .normal {a with defers:={target:=.collected D,args:=#[]} :: a.defers} e) :
  (Code.rangeFunc g ps assign body).wpIn F n P Q a w:=by
 refine wpIn_rangeFunc fun fn av=>?_
 rw [aO]
 -- the loop's record,ready or busy;the block of the rounds' deferred calls lies in front of it
 let q:LoopState->Loop:=fun aT=>{state:=aT,pending:=none,fn:=fn,tmps:=a.tmps,params:=ps,assign:=assign,body:=body,defers:=w.heap.size}
 let B:World:=(w.alloc (.deferred (some []))).alloc (.loop (q .ready));have aP:B.heap[w.heap.size]?=some (.deferred (some [])):=(Below.heap_alloc _ _ _ (by simp)).trans (World.alloc_heap_new w _);have aA:B.heap[w.heap.size+1]?=some (.loop (q .ready)):=by
  have ay:=World.alloc_heap_new (w.alloc (.deferred (some []))) (.loop (q .ready))
  rwa [QB] at ay
 have aL:I [] B:=E.alloc _ (E.alloc _ aK);have aG:Below w.heap.size w B:=((B0 (w:=w))).alloc (by simp) _;have a4:B.heap.size=w.heap.size+1+1:=by simp [B]
 refine ⟨w.heap.size+1,[{target:=.collected w.heap.size,args:=#[]}],B,{target:=.fn (.func gf) lb,args:=#[.func (.yield (w.heap.size+1)) #[] #[]]},B,gf,#[.func (.yield (w.heap.size+1)) #[] #[]]++lb,B,
  run_enterLoop_outer _ _ _ _ _,by simp only [resolve,az];simp [go_sem],fun a3 ah=>by simp [Target.leads] at ah;subst ah;exact aM,by simp [invoke,go_sem,aq],fun _=>aF,?_⟩
 -- what the caller keeps,the record and the block beside it
 refine (aY (w.heap.size+1) (fun h e=>I h e/\e.heap[w.heap.size+1]?=some (.loop (q .ready))/\e.heap[w.heap.size]?=some (.deferred (some []))) B aG ?_ ?_ ⟨aL,aA,aP⟩).mono ?_
 ·rintro aQ am aZ row ⟨Y,G,M⟩ ac ak
  have ai:∀ O,O<B.heap.size->some O≠row:=fun O a5 V=>by have:=(ak O V.symm).1;omega
  refine ⟨E aQ am aZ row Y ac fun r V=>?_,(ac.block _ (Qb.1 G).1 (ai _ (by omega))).trans G,(ac.block _ (Qb.1 M).1 (ai _ (by omega))).trans M⟩;obtain ⟨a2,an,aC,aW⟩:=ak r V;exact ⟨by omega,an,aC,aW⟩
 ·rintro h x e ⟨Y,G,M⟩ a1 a0
  have a7:w.heap.size+1<e.heap.size:=(Qb.1 G).1;refine ⟨fn,_,assign,body,run_yield (P:=P) (args:=X x) G (ap x),roundIn_of_wpIn av (aJ _ h x e _ Y a1 fun y Z aj aD ax aV=>?_)⟩;have K:=aj.same _ _ (by omega) G rfl;have ao:=aj.same _ _ (Qa _) M rfl;have aS:w.heap.size+1<Z.heap.size:=(Qb.1 K).1;refine ⟨_,run_beginRound K rfl,?_⟩;obtain ⟨J,z⟩:=N9 (Z.putObj (w.heap.size+1) (.loop {q .ready with state:=.busy}));have aI:J.heap[w.heap.size+1]?=some (.loop {q .ready with state:=.busy}):=z ▸ World.putObj_heap_same aS;have aR:J.heap[w.heap.size]?=some (.deferred (some [])):=z ▸ (World.putObj_heap_other (by omega)).trans ao;have au:I h J:=z ▸ E.putObj _ ax (by omega) K rfl;have aX:R x y J:=z ▸ (aE x).putObj _ aV (by omega) K rfl;have aU:s e J:=aa aD (z ▸ ae _ _ _ _ (by omega) K);show body.wpIn _ _ _ _ _ (Z.putObj (w.heap.size+1) (.loop {q .ready with state:=.busy}));rw [z];refine wpIn_mono (ar _ h x y J au aX a0) ?_;rintro (_ | _ | _ | _ | _ | _) a6 aB af
  case normal=>
   obtain ⟨U,T,ab⟩:=af;have W:=U.same _ _ (by omega) aI rfl;refine ⟨_,_,run_endRound (P:=P) none W,rfl,⟨E.putObj _ ab (by omega) W rfl,World.putObj_heap_same (Qb.1 W).1,(World.putObj_heap_other (by omega)).trans (U.same _ _ (Qa _) aR rfl)⟩,aa (aa aU T) (ae _ _ _ _ (by omega) W)⟩
  all_goals exact af.elim
 ·rintro V aB ⟨⟨v,rfl⟩,xs,aw,U,T,ab⟩
  exact ⟨none,_,run_endLoop (P:=P) T (by simp [q]),aH _ xs _ (Qa _) aw (E.putObj _ U (by omega) T rfl) ((World.putObj_heap_other (by omega)).trans ab)⟩
def marks (h:List Nat):List Deferred:=h.map fun q=>{target:=.collected q,args:=#[]}
theorem qBv {fn:Func} {tmps:Array Value} {R:Ending->World->Prop} (I:World->Prop) (ok:Nat->Prop) (J:∀ w D,ok D->I w->w.heap[D]?=some (.deferred (some []))->I (w.putObj D (.deferred none))):∀ (e:List Nat) (w:World),e.Nodup->(∀ D∈e,ok D/\w.heap[D]?=some (.deferred (some [])))->I w->
  (∀ w',I w'->LeavesInM F n P fn tmps R [] .returning w')->LeavesInM F n P fn tmps R (marks e) .returning w
 | [],w,_,_,k,z=>z w k
 | D :: e,w,E,y,k,z=>by
  obtain ⟨M,G⟩:=y D (by simp);refine ⟨by simp,.inl ⟨D,_,rfl,run_takeDeferred G,?_⟩⟩;refine qBv I ok J e _ (List.nodup_cons.1 E).2 (fun h q=>⟨(y h (QG _ q)).1,?_⟩) (J w D M k G) z;have O:h≠D:=fun K=>(List.nodup_cons.1 E).1 (K ▸ q)
  exact (World.putObj_heap_other (by omega)).trans (y h (QG _ q)).2
end Go.Each
namespace Go.Proofs.YtecpnfhpcamljaaGreatDoor
open Tryz
open Go.RowKit Go.Shelf
attribute [local go_sem] Oper.semAt_some
def qdQ (y q:World):Prop:=∀ (o:Nat) (h:Option (List Deferred)),y.heap[o]?=some (.deferred h)->q.heap[o]?=some (.deferred h)
theorem qdQ.trans {A B C:World} (o:qdQ A B) (k:qdQ B C):qdQ A C:=fun h e q=>k h e (o h e q)
theorem qdQ.below {e h:World} (q:Below e.heap.size e h):qdQ e h:=fun y z o=>(q.block y (Qb.1 o).1).trans o
def qjV (ps:List Pat) (x:Pat×Int):Prop:=qeC ps x.2.toNat=x.1/\x.1.1≠[]/\0<=x.2/\x.2<256
theorem qoC {ps:List Pat} {k:Nat} (q:k<256) (h:(qeC ps k).1≠[]):qjV ps (qeC ps k,(k:Int)):=⟨rfl,h,by simp,by simp;omega⟩
theorem qiY (l:Str):(sB l).toList.isEmpty=l.isEmpty:=by
 rw [QO];cases l <;> rfl
theorem qnn (X:World) (b i j:Nat) (u v:Value):X.grownBy ((X.setCell ⟨b,i,none⟩ u).setCell ⟨b,j,none⟩ v) (some b):=
 ⟨rfl,rfl,rfl,by simp,fun e k h=>(heap_setCell_other _ ⟨b,j,none⟩ e v (by simpa using h)).trans (heap_setCell_other _ ⟨b,i,none⟩ e u (by simpa using h))⟩
theorem qzU {P:Program} {w:World} {t:TypeId} {x:Operand} {p v:Value} {ops:Array Oper} {rest:List Oper} {o:Oper} {a:Act} {Q:Exit->Act->World->Prop} (h:(Instr.loadAt t p).run P w=.ok v w) (y:o.guard=none)
  (E:o.op=.load t x) (G:a.eval x=p) (z:wpList P ops Q rest (a.put o.dst v) w):wpList P ops Q (o :: rest) a w:=by
 refine wpList_plain y fun J q=>?_
 unfold Oper.wp;simp [execOp,E,G,h,Result.andThen];exact q _ _ z
theorem qvI {ps h:List Pat} {x:Pat} (q:∀ p∈ps,p∈mainP++cbP++edP) (y:h++[x] <+: ps):x∈mainP++cbP++edP/\∀ z∈h,z∈mainP++cbP++edP:=
 ⟨q _ (y.subset (by simp)),fun z E=>q _ (y.subset (List.mem_append_left _ E))⟩
def qwC (h:Nat) (q:World) (y:List Pat) (X:World):Prop:=Below h q X/\h+2<=X.heap.size/\qfE X h (qeC y)
theorem qwC.own {h:Nat} {G X Y:World} {z:List Pat} {row:Option Nat} (e:qwC h G z X) (q:X.grownBy Y row) (E:∀ r,row=some r->h+1<=r):qwC h G z Y:=
 ⟨e.1.grown q (by have:=e.2.1;omega) fun r y=>by have:=E r y;omega,Qj e.2.1 q.size,e.2.2.block (q.block h e.2.2.lt fun y=>by have:=E _ y.symm;omega)⟩
theorem qeP (ps:List Pat):∀ k,(qbh ps k).length<=k
 | 0=>Qa _
 | k+1=>by
  have h:=qeP ps k;unfold qbh;split
  ·omega
  ·rw [Qk];simp;omega
theorem qjO (n:Nat) (Z:Nat) (l:Str) (aJ:l.length<=100000) (bw:∀ p∈patsOf l,p∈mainP++cbP++edP) (w:World) (aV:Boxed w Z 9 (.string (sB l))) (a1:qad w) :
  Each.qBN Fence.wide n prog 247 #[.pointer (some ⟨Z,0,none⟩)] (fun x:Pat×Int=>#[qag x.1 x.2]) (fun x _=>qjV (patsOf l) x) qdQ (fun xs=>xs=qbh (patsOf l) 256) 256 w:=fun a7 W r aT aQ bl bh=>by
 have bm:∀ (s:List (Pat×Int)) (f P:World),W s f->Below f.heap.size f P->W s P:=fun s f P h ad=>aQ s f P none h ⟨ad.os,ad.tape,ad.output,ad.size,fun Q ai _=>ad.block Q ai⟩ (fun D i=>by cases i)
 have bj:Boxed r Z 9 (.string (sB l)):=(aT.block Z aV.lt).trans aV;have aU:qad r:=a1.below aT;obtain ⟨e,Y⟩:=N9 (r.heap.size);have bL:0 < e:=by rw [<- Y];exact aU.lt
 have bz:=qtG r;obtain ⟨G,aj⟩:=N9 (r.alloc (.cells (Array.replicate 512 (.string ⟨#[]⟩)) 272));have bf:qfE G e (qeC []):=by rw [<- aj,<- Y];exact qwg r
 have aK:Below e r G:=by rw [<- aj,<- Y];exact B0
 have aE:G.heap.size=e+1:=by rw [<- aj,<- Y];simp
 have bg:Boxed G Z 9 (.string (sB l)):=by rw [<- aj];exact bj.alloc _
 have bu:=bg.cell;have a3:qad G:=aU.below (by rw [Y];exact aK);have aL:=qe7 l G;rw [aE] at aL;have bM:=J9 bl;have aF:=J9 bm;have bt:Hid (∀ (s:List (Pat×Int)) (f:World) (z:Nat) (af:Option (List Deferred)),W s f->e<=z->f.heap[z]?=some (.deferred af)->W s (f.putObj z (.deferred none))):=fun s f z af h a6 aX=>aQ s f _ (some z) h (grownBy_putObj' f z _) (fun D i=>by cases i;exact ⟨by omega,_,aX,rfl⟩)
 have bC:=J9 bh;have bA:=J9 bw;have b1:=J9 Y;clear bh bl bm aQ aT a1 aV bj aU bg;refine callsIn_wide.2 (callsIn_wide.1 (callsIn_of_wp_marks (n:=6) func247 rfl trivial ?_ rfl));simp only [ntmps247,List.size_toArray,Qt,QP,Nat.reduceAdd,Nat.reduceSub,Array.replicate_succ,Array.replicate_zero,List.push_toArray,List.append_toArray,List.nil_append,Zn];refine wpIn_wide.2 ?_
 go_wp2_with fail
 refine aL.mono ?_;rintro i U ⟨rfl,aq⟩;have aZ:Boxed U (e+1) 9 (.string (sB l)):=by
  have h:=Boxed.new G 9 (.string (sB l));rw [aq,aE] at h;exact h
 have bY:U.heap.size=e+1+1:=by rw [<- aq];simp;omega
 have ax:Below G.heap.size G U:=by rw [<- aq];exact B0
 have a8:=aK.trans (ax.mono (by omega));have R1:qfE U e (qeC []):=bf.block (ax.block e (by omega));have aG:qad U:=a3.below ax;have bo:=qc5 5 (e+1) l aJ U aZ aG;have bk:=J9 aG;have bQ:Hid (qwC e r [] U):=⟨a8,by omega,R1⟩;clear bf aK bu a3 aL aZ ax a8 R1 aG aj aq aE bz aJ G
 go_wp2_with fail
 refine wpIn_wide.1 (Stops.qBB (F:=Fence.wide) (n:=6) rfl (by omega) (gf:=237) (lb:=#[.pointer (some ⟨e+1,0,none⟩)]) rfl trivial (enters_of func237 (by kernel_rfl) rfl)
  bo (by omega) (fun h ah=>h.trans ah) (fun r l af bO aJ _ _=>qjj bk.o r l bO (by omega)) (fun _=>rfl)
  (qwC e r) (fun _ _=>False)
  (fun an f P row h k V=>h.own k fun D i=>by have:=(V D i).1;omega)
  (fun an f P h k=>h.own k fun D i=>by cases i;omega)
  (fun an f P row h k V=>h.elim)
  bQ.o
  (fun x am W1=>∃ E,e+2<=E/\W1.heap[E]?=some (.cells #[.string (sB x.1),.string (sB x.2)] 219 (0,0))/\am={tmps:=#[.func (.yield a7) #[] #[],.pointer (some ⟨Z,0,none⟩),undef,.pointer (some ⟨e,0,none⟩),.pointer (some ⟨E,0,none⟩),undef,undef,undef,.string (sB l),.func (.func 237) #[] #[.pointer (some ⟨e+1,0,none⟩)],.agg #[.string (sB x.1),.string (sB x.2)],undef,undef,undef,undef,undef,undef,undef,undef,undef,undef,undef,undef,undef,undef,undef,undef,undef,undef,undef,undef,undef,undef,undef,undef,undef,undef,undef,undef,undef],defers:=[]})
  (fun x an f P row h k V=>by
   obtain ⟨E,aw,aa,aD⟩:=h;exact ⟨E,aw,(grownBy_keeps_cells k (fun D i=>(V D i).2) aa rfl).trans aa,aD⟩)
  ?assign ?body ?done (fun _ _ _ _ h=>h.elim))
 case assign=>
  rintro aC y x W1 bB q bZ ac;have ca:=q.2.1
  gi_wp2
  refine ac _ _ ((KeepsOthers.alloc _ _).from _) (qdR ((Qc e W1).alloc (by omega) _) bL) ⟨q.1.alloc (by omega) _,by simp;omega,World.rowIs.alloc q.2.2 _⟩ ⟨W1.heap.size,by omega,World.alloc_heap_new W1 _,rfl⟩
 case body=>
  rintro aC y x am W1 b8 ⟨b2,a2⟩ q ⟨E,ad,ak,rfl⟩ aO;have aP:=J9 (qvI bA.o aO);have aI:=aP.o.1;have aY:=qhF x aI;have bc:=(qhi x aI).1;have br:=C9 ak 0;have bE:=C9 ak 1;have bH:=J9 ak;have aS:=J9 q;have bJ:=qh3 3 x bc aY.1 W1;have bW:E<W1.heap.size:=(Qb.1 ak).1;have cf:e+2<=W1.heap.size:=q.2.1;have HR:=J9 a2;have ce:=J9 aO;clear aY bc aI ak q aO a2
  gi_wp2_with fail
  refine Each.qBE (F:=Fence.wide.inRound aC) (n:=6 - 1 - 1) rfl HR.o (by omega) (gf:=248) (ba:=#[.agg #[.string (sB x.1),.string (sB x.2)]]) (lb:=#[]) rfl trivial (enters_of func248 (by kernel_rfl) rfl)
   (N:=256) (fun bN ap W2 aw aa aD bP=>(bJ bN ap W2 aw aa aD bP).inRound aC) (fun _ _=>trivial) (fun _ _ _ _ _ _ _=>trivial) (fun _=>rfl)
   (fun xs f=>W1.grownBy f (some e)/\qfE f e (mkF y x xs))
   (fun an f P row h k V=>⟨h.1.andThen k fun b i=>.inl (V b i).1,h.2.block (k.block e h.2.lt fun i=>by have:=(V _ i.symm).1;omega)⟩)
   ⟨World.grownBy.refl _ _,aS.o.2.2.congr fun Q _=>(quW y x Q).symm⟩
   (fun T am f=>(0<=T/\T<=255)/\am={tmps:=#[.func (.yield a7) #[] #[],.pointer (some ⟨Z,0,none⟩),undef,.pointer (some ⟨e,0,none⟩),.pointer (some ⟨E,0,none⟩),.int .u8 T,undef,undef,.string (sB l),.func (.func 237) #[] #[.pointer (some ⟨e+1,0,none⟩)],.agg #[.string (sB x.1),.string (sB x.2)],.agg #[.string (sB x.1),.string (sB x.2)],.func (.func 248) #[.agg #[.string (sB x.1),.string (sB x.2)]] #[],.int .u8 T,undef,undef,undef,undef,undef,undef,undef,undef,undef,undef,undef,undef,undef,undef,undef,undef,undef,undef,undef,undef,undef,undef,undef,undef,undef,undef],defers:=[]})
   (fun x an f P row h k V=>h)
   ?assign2 ?body2 ?done2
  case assign2=>
   rintro bU xs T f bB aX az ac
   gi_wp2
   exact ac _ _ (KeepsFrom.refl _ _) trivial aX ⟨az,rfl⟩
  case body2=>
   rintro bU xs T am f ⟨J,M⟩ ⟨⟨bF,bx⟩,rfl⟩ bV;obtain ⟨j,rfl⟩:∃ s:Nat,T=(s:Int):=⟨T.toNat,by omega⟩;have a9:j<256:=(by omega);have bR:=M.c0 a9;have b6:=World.rowIs.frozen M (j*2);have b3:=World.rowIs.frozen M (j*2+1);have cc:=M.c1 a9;have aN:=(J.block E bW (by simp;omega)).trans bH.o;have b4:=C9 aN 0;have bX:=C9 aN 1;have ab:=qiY (mkF y x xs j).1;have ay:=J9 J;have bn:=J9 M;have bne:E≠e:=(by omega);have bq:Hid (∀ av,W1.grownBy av (some e)->f.grownBy av (some e)->KeepsFrom W1.heap.size f av):=(fun av aw aa=>⟨aa.size,fun ah af bK ag _=>(aa.block ah (Qb.1 ag).1 (by simp;omega)).trans ag⟩);clear J M aN bF bx bV;by_cases o:(mkF y x xs j).1=[]
   ·rw [o] at ab bR
    rw [List.isEmpty_nil] at ab;have O:Hid (qfE ((f.setCell ⟨e,j*2,none⟩ (.string (sB x.1))).setCell ⟨e,j*2+1,none⟩ (.string (sB x.2))) e (mkF y x (xs++[(j:Int)]))):=
     (bn.o.put j x).congr fun Q ai=>(qvM y x xs j o Q).symm
    clear o
    gi_wp2
    have k:f.grownBy ((f.setCell ⟨e,j*2,none⟩ (.string (sB x.1))).setCell ⟨e,j*2+1,none⟩ (.string (sB x.2))) (some e):=qnn _ _ _ _ _ _;exact ⟨bq.o _ (ay.o.trans k) k,trivial,ay.o.trans k,O.o⟩
   ·rw [List.isEmpty_eq_false_iff.2 o] at ab
    have O:Hid (qfE f e (mkF y x (xs++[(j:Int)]))):=bn.o.congr fun Q ai=>(qrx y x xs j o Q).symm
    clear o
    gi_wp2
    exact ⟨bq.o _ ay.o (World.grownBy.refl _ _),trivial,ay.o,O.o⟩
  case done2=>
   rintro xs f ao ⟨J,M⟩;rw [show xs=opsP x from ao] at M;have O:qwC e r (y++[x]) f:=⟨aS.o.1.trans ((Qc e W1).grown J (by omega) fun D i=>by cases i;omega),by have:=J.size;omega,M.congr fun Q ai=>qsN y x aP.o.1 aP.o.2 Q ai⟩;have a0:KeepsFrom (e+2) W1 f:=⟨J.size,fun ah af bK ag _=>(J.block ah (Qb.1 ag).1 (by simp;omega)).trans ag⟩;have bp:qfW W1 f:=Q1 (J.block _ (by show 0 < _;omega) (by simp;omega));have bv:=J9 (Zb a0 (Zb bp O));clear J M O a0 bp
   gi_wp2
   rw [show U.heap.size=e+2 by omega];exact bv.o
 case done=>
  rintro z xs W2 a6 ao q ac;rw [show xs=patsOf l from ao] at q;have aH:=qtI q.2.2;have ap:=J9 (aF.o _ _ _ bC.o (by rw [Y];exact q.1));have DK:=J9 ac;have bS:Hid (e+2<=z):=by show _<=_;omega
  have aS:=J9 q;obtain ⟨K,aR⟩:=N9 (qeC (patsOf l));have ar:=J9 aR;rw [aR] at aH;clear ac a6 q ao aR bo bk
  go_wp2_with (refine qzU aH rfl rfl rfl ?_)
  go_loopw [23] (fun D wr=>∃ b:Nat,D=.int .i64 (b:Int)/\b<=256/\Hid (W (qbh (patsOf l) b) wr)/\Hid (wr.heap[z]?=some (.deferred (some [])))) (fun D _=>256 - (intOf D).toNat)
  case atStart=>exact ⟨0,rfl,by omega,ap.o,DK.o⟩
  case round=>
   clear ap DK aH;obtain ⟨b,rfl,bb,au,X⟩:=hrel;by_cases a4:b=256
   ·subst a4
    clear bb;go_wp2;refine ⟨by simp,.inl ⟨_,_,rfl,run_takeDeferred X.o,?_⟩⟩;refine ⟨.tuple #[],by simp [results,results247,go_sem],⟨_,rfl⟩,_,rfl,bt.o _ _ _ _ au.o (by have:=bS.o;omega) X.o⟩
   ·have aA:b<256:=by omega
    have b9:(b:Int)<256:=(by omega);have bG:=qqq K b aA;have cd:IntKind.u8.wrap (b:Int)=(b:Int):=(by show (b:Int) % 256=_;omega);have ab:=qiY (K b).1;have ae:=J9 aA;clear a4 bb aA;by_cases o:(K b).1=[]
    ·rw [o] at ab bG
     rw [List.isEmpty_nil] at ab;have O:Hid (qbh (patsOf l) (b+1)=qbh (patsOf l) b):=by
      show qbh _ (b+1)=_;rw [qbh,ar.o,Qi o]
     clear o;go_wp2;refine ⟨⟨b+1,by simp,by have:=ae.o;omega,?_,(Below.heap_alloc _ _ _ (Qb.1 X.o).1).trans X.o⟩,?_⟩
     ·show W _ _
      rw [O.o];exact aF.o _ _ _ au.o (B0)
     ·show 256 - ((b:Int)+1).toNat<256 - (b:Int).toNat
      have:=ae.o;omega
    ·rw [List.isEmpty_eq_false_iff.2 o] at ab
     have O:Hid (qbh (patsOf l) (b+1)=qbh (patsOf l) b++[(K b,(b:Int))]):=by
      show qbh _ (b+1)=_;rw [qbh,ar.o,Qe o]
     have bd:Hid (qjV (patsOf l) (K b,(b:Int))):=by
      have h:=qoC (ps:=patsOf l) ae.o (by rw [ar.o];exact o);rw [ar.o] at h;exact h
     obtain ⟨aB,aW⟩:=N9 (wr.alloc (.cells #[.string (sB (K b).1),.string (sB (K b).2)] 219));have aM:aB.heap[wr.heap.size]?=some (.cells #[.string (sB (K b).1),.string (sB (K b).2)] 219 (0,0)):=(by rw [<- aW];exact World.alloc_heap_new wr _);have br:=C9 aM 0;have bE:=C9 aM 1;have bs:Hid (aB.heap[z]?=some (.deferred (some []))):=(by rw [<- aW];exact (Below.heap_alloc _ _ _ (Qb.1 X.o).1).trans X.o);have bT:=bM.o (qbh (patsOf l) b) (K b,(b:Int)) aB (by rw [<- aW];exact aF.o _ _ _ au.o (B0)) bd.o (Nat.lt_of_le_of_lt (qeP _ _) ae.o);obtain ⟨b7,tmps,assign,body,az,bi⟩:=bT;simp only [qag] at az;clear o bd au X aM
     go_upto_region 10 with fail
     refine (wpIn_wide (n:=n)).1 ?_
     gi_wp2
     refine ⟨fun h=>(by cases h),bi.mono ?_⟩;rintro b0 b5 ⟨rfl,a5,be⟩;have bD:=J9 a5;have bI:=J9 (be z _ bs.o);clear a5 be bi az
     gi_wp2
     go_wp2;refine ⟨⟨b+1,by simp,by have:=ae.o;omega,?_,bI.o⟩,?_⟩
     ·show W _ _
      rw [O.o];exact bD.o
     ·show 256 - ((b:Int)+1).toNat<256 - (b:Int).toNat
      have:=ae.o;omega
end Go.Proofs.YtecpnfhpcamljaaGreatDoor
namespace Go.Proofs.YtecpnfhpcamljaaGreatDoor
open Tryz
open Go.RowKit Go.Shelf
attribute [local go_sem] Oper.semAt_some
theorem qpv (l:Str) (w:World) :
  Calls prog 225 #[.string (sB l)] w fun h e=>h=.returned (.func (.func 247) #[] #[.pointer (some ⟨w.heap.size,0,none⟩)])/\w.alloc (.cells #[.string (sB l)] 9)=e:=by
 go_enter func225,ntmps225
 go_wp2;go_ret;exact ⟨rfl,rfl⟩
theorem qiM (p:Pat) (q:Int) (e:Good p q) (w:World) (E:qad w) :
  Calls prog 226 #[qag p q] w fun G h=>G=.returned (.string (sB (qaj p q).1))/\Below w.heap.size w h:=by
 have y:=fun h (K:qad h)=>qkd p e.len (by have:=e.form;omega) q e.op0 e.op1 e.na e.no h K
 unfold qag at y |-;have z:=qaE w (.cells #[.string (sB p.1),.string (sB p.2),.int .u8 q] 221);have y:=y _ (E.below z);have O:=J9 z;clear E z e
 go_enter func226,ntmps226
 go_wp2_with fail
 refine y.mono ?_;rintro G h ⟨rfl,J⟩;have M:=J9 (O.o.trans (J.mono (by simp)));clear y J;go_wp2;go_ret;exact ⟨rfl,M.o⟩
theorem qpB (a b:Str):((sB a).toList == (sB b).toList)=decide (a=b):=by
 rw [QO,QO];show (a == b)=_;by_cases h:a=b
 ·rw [h,Qn rfl]
  exact beq_self_eq_true _
 ·rw [Qh h]
  exact beq_false_of_ne h
theorem qlo (m e:Str) (h:Nat) (w:World) (y:Boxed w h 9 (.string (sB e))):Calls prog 193 #[.string (sB m),.pointer (some ⟨h,0,none⟩)] w fun z q=>z=.returned (.bool (decide (m=e)))/\q=w:=by
 have E:=y.cell;rw [<- qpB]
 go_enter func193,ntmps193
 go_wp2;go_ret;exact ⟨rfl,rfl⟩
def qxp (y q:Int):Option En->List Ke
 | some h=>[(y,q,h.1,h.2.1,h.2.2.1,h.2.2.2)]
 | none=>[]
def qtM (q:Str->Bool) (h:Int) (x:Pat×Int):List Ke:=if q (qaj x.1 x.2).1=true then qxp h x.2 (qb8 x.1 h x.2) else []
def qbW (h:Str->Bool) (q:Int) (xs:List (Pat×Int)):List Ke:=xs.flatMap (qtM h q)
theorem qeT (h:Str->Bool) (q:Int) (xs:List (Pat×Int)) (x:Pat×Int):qbW h q (xs++[x])=qbW h q xs++qtM h q x:=by
 unfold qbW;rw [List.flatMap_append];simp
def keysPg (q:Str->Bool) (h:Int):List Ke:=qbW q h (qbh (patsOf (listS h)) 256)
def qaw (h:Str->Bool) (q:List Int):List Ke:=q.flatMap (keysPg h)
theorem qe5 (h:Str->Bool) (xs:List Int) (x:Int):qaw h (xs++[x])=qaw h xs++keysPg h x:=by
 unfold qaw;rw [List.flatMap_append];simp
def qio (w:World) (A:Option Addr) (L:List Int):Prop:=L=[]\/∃ h k,A=some ⟨h,k,none⟩/\∀ b (q:b<L.length),w.cell? ⟨h,k+b,none⟩=some (.int .i64 L[b])
theorem qio.below {w w':World} {A:Option Addr} {L:List Int} (z:qio w A L) (E:Below w.heap.size w w'):qio w' A L:=by
 rcases z with rfl | ⟨y,q,rfl,b⟩
 ·exact .inl rfl
 ·exact .inr ⟨y,q,rfl,fun h k=>(E.cell (Qq w _ (b h k))).trans (b h k)⟩
theorem qvS {ps:List Pat} {i:Nat} (h:(qeC ps i).1≠[]):qeC ps i∈ps:=by
 unfold qeC at h |-;cases p:ps.find? fun q=>qcD q.1 (i:Int) with
 | none=>rw [p] at h;exact absurd rfl h
 | some y=>exact List.mem_of_find?_eq_some p
theorem qgQ {ps:List Pat} {x:Pat×Int} (h:qjV ps x):x.1∈ps:=by
 rw [<- h.1];exact qvS (by rw [h.1];exact h.2.1)
theorem qfr (q:Int):∀ p∈patsOf (listS q),p∈mainP++cbP++edP:=fun p h=>by
 rw [qbZ] at h;exact qfw h
end Go.Proofs.YtecpnfhpcamljaaGreatDoor
namespace Go.Proofs.YtecpnfhpcamljaaGreatDoor
open Tryz
open Go.RowKit Go.Shelf
attribute [local go_sem] Oper.semAt_some
attribute [local irreducible] Go.Mixed.qAU
def qyd (w:World) (z:List Ke) (e:Ending) (w':World):Prop:=∃ q y h,e=.returned (.slice q h.length y)/\qbO w' w.heap.size (.slice q h.length y) h/\h.map Ee.k=z/\Below w.heap.size w w'
def qgg (L:List Int):List Int:=if L=[] then [0,1,2,3,4,5,6] else L
theorem qze (w:World):qio (w.alloc (.cells #[.int .i64 0,.int .i64 1,.int .i64 2,.int .i64 3,.int .i64 4,.int .i64 5,.int .i64 6] 3)) (some ⟨w.heap.size,0,none⟩) [0,1,2,3,4,5,6]:=by
 refine .inr ⟨_,_,rfl,fun h k=>?_⟩;rw [QT,C9 (heap_alloc_new w _)];have q:h<7:=k;rcases (by omega:h=0\/h=1\/h=2\/h=3\/h=4\/h=5\/h=6) with rfl | rfl | rfl | rfl | rfl | rfl | rfl <;> rfl
theorem qbO.grown {X Y:World} {n:Nat} {v:Value} {R:List Ee} {row:Option Nat} (h:qbO X n v R) (y:X.grownBy Y row) (T:∀ r,row=some r->∃ o:Obj,X.heap[r]?=some o/\o.isCells=false):qbO Y n v R:=by
 have G:∀ (e:Value) (u:TypeId) (C m:Nat) (E:List Value),X.ownsRow n u C e m E->e.ownBlock=none\/e.ownBlock≠row:=fun e u C m E U=>by
  cases k:e.ownBlock with
  | none=>exact .inl rfl
  | some M=>
   refine .inr fun K=>?_
   obtain ⟨o,q,O⟩:=T M K.symm;rcases U.2 with ⟨rfl,_⟩ | ⟨W,V,Z,rfl,_,J,_⟩
   ·simp [Value.ownBlock] at k
   ·simp only [Value.ownBlock,Qv] at k
    subst k;rw [J] at q;cases q;cases O
 exact ⟨World.ownsRow.kept h.1 y (G _ _ _ _ _ h.1),fun r z=>World.ownsRow.kept (h.2 r z) y (G _ _ _ _ _ (h.2 r z))⟩
theorem qtx (h:Str->Bool) (q:Int) (x:Pat×Int):(qtM h q x).length<=1:=by
 unfold qtM;split
 ·unfold qxp
  split <;> simp
 ·simp
theorem qgm (h:Str->Bool) (q:Int):∀ xs:List (Pat×Int),(qbW h q xs).length<=xs.length
 | []=>Qa _
 | x :: t=>by
  have y:=qgm h q t;have z:=qtx h q x;show (qtM h q x++qbW h q t).length<=t.length+1;rw [Qk];omega
theorem qfY (h:Str->Bool):∀ ps:List Int,(qaw h ps).length<=256*ps.length
 | []=>Qa _
 | x :: q=>by
  have t:=qfY h q;have y:=Qj (qgm h x (qbh (patsOf (listS x)) 256)) (qeP _ _);show (keysPg h x++qaw h q).length<=256*(q.length+1);rw [Qk];unfold keysPg;omega
def qlp (w2:World) (h:Nat) (D:List Nat) (G:List Ke) (X:World):Prop:=
 ∃ y z q,Boxed X h 194 (.slice y q.length z)/\qbO X (h+1) (.slice y q.length z) q/\q.map Ee.k=G/\Below h w2 X/\h+1<=X.heap.size/\∀ E∈D,X.heap[E]?=some (.deferred (some []))
theorem qlp.own {w2 X Y:World} {q:Nat} {D:List Nat} {K:List Ke} {row:Option Nat} (O:qlp w2 q D K X) (aa:q<=w2.heap.size) (h:X.grownBy Y row) (z:∀ r,row=some r->q<r/\r∉D/\∃ o:Obj,X.heap[r]?=some o/\o.isCells=false):qlp w2 q D K Y:=by
 obtain ⟨W,R,Z,M,V,T,J,U,G⟩:=O;refine ⟨W,R,Z,M.kept h fun e=>?_,V.grown h fun r e=>(z r e).2.2,T,J.grown h (by have:=J.size;omega) fun r e=>by have:=(z r e).1;omega,Qj U h.size,fun y E=>?_⟩
 ·have:=(z q e.symm).1;omega
 ·refine (h.block y (Qb.1 (G y E)).1 fun e=>?_).trans (G y E)
  exact (z y e.symm).2.1 E
theorem qlp.below {w2 X Y:World} {h:Nat} {i:List Nat} {q:List Ke} (y:qlp w2 h i q X) (E:h<=w2.heap.size) (e:Below X.heap.size X Y):qlp w2 h i q Y:=
 y.own E (row:=none) ⟨e.os,e.tape,e.output,e.size,fun r z _=>e.block r z⟩ (fun J G=>by cases G)
theorem qbO.type {X:World} {n:Nat} {v:Value} {R:List Ee} (h:qbO X n v R) {k:Nat} (e:v.ownBlock=some k):∃ z,X.heap[k]?=some (.cells z 88 (0,0))/\n<=k:=by
 have y:=h.1.2;rcases y with ⟨rfl,_⟩ | ⟨G,J,K,rfl,E,q,_⟩
 ·simp [Value.ownBlock] at e
 ·simp only [Value.ownBlock,Qv] at e
  subst e;exact ⟨_,q,(World.ownsRow.lt h.1 _ rfl).1⟩
theorem qbO.other {X:World} {n:Nat} {v:Value} {R:List Ee} (e:qbO X n v R) {b:Nat} (J:b<n) (u:Value):qbO (X.setCell ⟨b,0,none⟩ u) n v R:=by
 have z:∀ (u:Value) (k:TypeId) (y h:Nat) (r:List Value),X.ownsRow n k y u h r->u.ownBlock=none\/u.ownBlock≠some b:=fun u k y h r G=>by
  cases C:u.ownBlock with
  | none=>exact .inl rfl
  | some K=>exact .inr fun E=>by cases E;have:=(World.ownsRow.lt G _ C).1;omega
 exact ⟨World.ownsRow.kept e.1 (grownBy_setCell' X b u) (z _ _ _ _ _ e.1),fun m q=>World.ownsRow.kept (e.2 m q) (grownBy_setCell' X b u) (z _ _ _ _ _ (e.2 m q))⟩
theorem qgs {h o:World} (k:Below h.heap.size h o):KeepsOthers h o:=⟨k.size,fun y z q _=>(k.block y (Qb.1 q).1).trans q⟩
theorem qnI (h:World) (l:Nat) (r z:Loop) (o:h.heap[l]?=some (.loop r)):qdQ h (h.putObj l (.loop z)):=fun y E e=>by
 have D:y≠l:=fun q=>by rw [q,o] at e;cases e
 exact (World.putObj_heap_other D).trans e
theorem qdQ.others {h e:World} (o:KeepsOthers h e):qdQ h e:=fun q z y=>o.same q _ y rfl
theorem qkL (g:Nat) (lb:Array Value) (dr:∀ args w,(callFunc g args).run prog w=.ok (.enter g args) w) (o:Str->Bool) (w:World) (bm:qad w) (A:Option Addr) (cap:Nat) (L:List Int) (bS:qio w A L) (b4:L.length<=10)
  (ct:∀ (m:Str) (w':World),Below w.heap.size w w'->Calls prog g (#[.string (sB m)]++lb) w' fun e w2=>e=.returned (.bool (o m))/\w2=w') :
  Calls prog 192 #[.slice A L.length cap,.func (.func g) #[] lb] w (qyd w (qaw o (qgg L))):=by
 obtain ⟨n,aE⟩:=N9 (w.heap.size);have cg:0 < n:=by rw [<- aE];exact bm.lt
 obtain ⟨ar,a7⟩:=N9 (w.alloc (.cells #[.func (.func g) #[] lb] 108));have bD:Below n w ar:=by rw [<- a7,<- aE];exact B0
 have Y:ar.heap.size=n+1:=by rw [<- a7,<- aE];simp
 have cn:Boxed ar n 108 (.func (.func g) #[] lb):=by rw [<- a7,<- aE];exact Boxed.new _ _ _
 have cu:Hid (qio ar A L):=bS.below (by rw [aE];exact bD);have c6:=J9 ct;have ag:=J9 bD;have bZ:=J9 cn;have bI:=J9 aE;have ci:=J9 bm;clear bS ct bD cn bm;refine callsIn_wide.1 (callsIn_of_wp_marks (n:=8) func192 rfl trivial ?_ rfl);simp only [ntmps192,List.size_toArray,Qt,QP,Nat.reduceAdd,Nat.reduceSub,Array.replicate_succ,Array.replicate_zero,List.push_toArray,List.append_toArray,List.nil_append,Zn];refine wpIn_wide.2 ?_;obtain ⟨l,a1⟩:=N9 (qgg L);rw [a1];have bk:=J9 a1;have cN:l.length<=10:=by
  rw [<- a1];unfold qgg;split
  ·decide
  ·exact b4
 clear a1
 go_upto_if 13 with fail
 go_cut [0] from 11 to 14 (fun b8 wx=>∃ av az,b8=.slice av l.length az/\Hid (qio wx av l)/\Hid (Below (n+1) ar wx))
 case first=>
  by_cases aX:L=[]
  ·subst aX
   obtain rfl:l=[0,1,2,3,4,5,6]:=bk.o.symm;clear cN;go_wp2
   go_meet
   exact ⟨_,_,rfl,(by have q:=qze ar;rw [Y] at q;exact q),(Qc _ _).alloc (by omega) _⟩
  ·have dB:0<L.length:=Zp.2 aX
   have dv:¬((L.length:Int)=0):=(by omega);obtain rfl:l=L:=by rw [<- bk.o];unfold qgg;rw [Qe aX]
   clear aX;go_wp2
   go_meet
   exact ⟨_,_,rfl,cu.o,Qc _ _⟩
 case rest=>
  obtain ⟨av,az,rfl,cc,bd⟩:=hcut;clear cu bk b4;obtain ⟨j,aA⟩:=N9 (wc.heap.size);obtain ⟨w2,aS⟩:=N9 (wc.alloc (.cells #[.slice none 0 0] 194));have dD:n+1<=j:=by have:=bd.o.size;omega
  have a6:Below j wc w2:=by rw [<- aS,<- aA];exact B0
  have X:w2.heap.size=j+1:=by rw [<- aS,<- aA];simp
  have cy:Hid (Boxed w2 j 194 (.slice none 0 0)):=by rw [<- aS,<- aA];exact Boxed.new _ _ _
  have bq:Hid (∀ O (q:O<l.length),∃ y ab,av=some ⟨y,ab,none⟩/\y<j/\w2.cell? ⟨y,ab+O,none⟩=some (.int .i64 l[O])):=fun O q=>by
   rcases cc.o with bB | ⟨y,ab,rfl,af⟩
   ·rw [bB] at q;cases q
   ·have aP:=Qq wc _ (af O q)
    exact ⟨y,ab,rfl,by rw [<- aA];exact aP,(a6.cell (by rw [<- aA];exact aP)).trans (af O q)⟩
  have cR:Hid (Boxed w2 n 108 (.func (.func g) #[] lb)):=(a6.block n (by omega)).trans ((bd.o.block n (by omega)).trans bZ.o);have a8:Hid (Below n w w2):=(ag.o.trans (bd.o.mono (by omega))).trans (a6.mono (by omega));have dz:=J9 aA;have dx:=J9 aS;clear cc bd ag bZ a6 Y a7 ar
  go_upto_block 0 with fail
  apply wp_block;have I2:Hid (qlp w2 j [] (qaw o (l.take 0)) w2):=⟨none,0,[],cy.o,qpc _ _,rfl,Qc _ _,by omega,fun x Z=>absurd Z Q9⟩;refine wp_loop (fun ax ae=>∃ (s:Nat) (M:List Nat) (cF bW b0 b5 cA bV b1 bQ:Value),ax={tmps:=#[.slice av l.length az,.func (.func g) #[] lb,undef,.pointer (some ⟨n,0,none⟩),.slice none 0 0,.pointer (some ⟨j,0,none⟩),undef,cF,undef,undef,undef,u11,u12,u13,u14,.slice av l.length az,.int .i64 (l.length:Int),.int .i64 (s:Int),bW,b0,b5,cA,bV,b1,undef,undef,undef,undef,undef,undef,undef,undef,undef,undef,undef,undef,undef,undef,undef,undef,undef,bQ,undef],defers:=Each.marks M}/\s<=l.length/\Hid (qlp w2 j M (qaw o (l.take s)) ae)/\Hid (M.Nodup/\∀ x∈M,j<x/\x<ae.heap.size)) (fun ax ae=>l.length - (intOf (ax.tmps.getD 17 undef)).toNat) ?_ ?_
  ·exact ⟨0,[],_,_,_,_,_,_,_,_,rfl,Qu _,I2.o,List.nodup_nil,fun x Z=>absurd Z Q9⟩
  ·clear I2 cy
   rintro ax ae ⟨s,M,cF,bW,b0,b5,cA,bV,b1,bQ,rfl,dE,aH,be⟩;by_cases bp:s=l.length
   ·have ds:¬((s:Int)<(l.length:Int)):=by omega
    obtain ⟨ac,W,r,H,J,E,G,ak,V⟩:=aH.o;have dq:=H.cell;have aZ:=J9 (Zb J (Zb E (Zb G V)));clear H J E G ak V aH
    go_wp2_with fail
    refine Each.qBv (fun k=>qbO k (j+1) (.slice ac r.length W) r/\Below n w k) (fun x=>j<x) ?_ M ae be.o.1 (fun x Z=>⟨(be.o.2 x Z).1,aZ.o.2.2.2 x Z⟩) ⟨aZ.o.1,a8.o.trans (aZ.o.2.2.1.mono (by omega))⟩ ?_
    ·rintro k x Z ⟨Y,X⟩ cL
     exact ⟨Y.grown (grownBy_putObj' k x _) fun ah e=>by cases e;exact ⟨_,cL,rfl⟩,X.grown (grownBy_putObj' k x _) (by have:=X.size;omega) fun ah e=>by cases e;omega⟩
    ·rintro k ⟨Y,X⟩
     refine ⟨.slice ac r.length W,by simp [results,results192,go_sem],ac,W,r,rfl,by rw [bI.o];exact Y.lift (by omega),?_,by rw [bI.o];exact X⟩;have E:=aZ.o.2.1
     rwa [bp,Zt] at E
   ·have bx:s<l.length:=by omega
    have dF:(s:Int)<(l.length:Int):=(by omega);obtain ⟨b,bw⟩:=N9 (l[s]);have b2:Hid (Below j w2 ae):=(by obtain ⟨ac,W,r,H,J,E,G,ak,V⟩:=aH.o;exact G);have dw:j+1<=ae.heap.size:=(by obtain ⟨ac,W,r,H,J,E,G,ak,V⟩:=aH.o;exact ak);have cG:qad ae:=(ci.o.qA6 a8.o cg).qA6 b2.o (by omega);have cI:Hid (l.take (s+1)=l.take s++[b]):=(by show _=_;rw [QL bx,bw]);have c8:∃ y ab,av=some ⟨y,ab,none⟩/\ae.cell? ⟨y,ab+s,none⟩=some (.int .i64 b):=by
     obtain ⟨y,ab,rfl,aP,af⟩:=bq.o s bx;exact ⟨y,ab,rfl,((b2.o.cell aP).trans af).trans (by rw [bw])⟩
    obtain ⟨bG,ab,rfl,dy⟩:=c8;obtain ⟨v,aM⟩:=N9 (ae.heap.size);obtain ⟨au,aR⟩:=N9 (ae.alloc (.cells #[.int .i64 b] 3));have a4:Below v ae au:=(by rw [<- aR,<- aM];exact qaE _ _);have bH:Boxed au v 3 (.int .i64 b):=(by rw [<- aR,<- aM];exact Boxed.new _ _ _);have bP:au.heap.size=v+1:=(by rw [<- aR,<- aM];simp);have ck:=qg9 b au;have br:=qpv (listS b) au;rw [bP] at br;have b7:qad au:=cG.qA6 a4 (by omega);have de:=bH.cell;have cE:=J9 bH;have cX:=J9 a4;have cw:Hid (qlp w2 j M (qaw o (l.take s)) au):=aH.o.below (by omega) (by rw [aM];exact a4);have c3:=J9 b7;have dC:=J9 bp;have bg:Hid (M.Nodup/\∀ x∈M,j<x/\x<v):=(by rw [<- aM];exact be.o);clear bH a4 b7 cG aH bw bp be
    go_wp2_with fail
    refine ck.mono ?_;rintro e bF ⟨rfl,rfl⟩
    go_wp2_with fail
    refine br.mono ?_;rintro e am ⟨rfl,aY⟩;have cv:Boxed am (v+1) 9 (.string (sB (listS b))):=by
     have q:=Boxed.new bF 9 (.string (sB (listS b)))
     rwa [aY,bP] at q
    have ba:Below bF.heap.size bF am:=(by rw [<- aY];exact qaE _ _);have dp:am.heap.size=v+1+1:=(by rw [<- aY];simp;omega);have b6:qad am:=c3.o.below ba;have ai:Boxed am v 3 (.int .i64 b):=(ba.block v (by omega)).trans cE.o;have dh:Hid (qlp w2 j M (qaw o (l.take s)) am):=cw.o.below (by omega) ba;have db:=J9 ai;have bO:=qjO 7 (v+1) (listS b) (qiU b) (qfr b) am cv b6;clear ck br cv ba b6 ai aY bP de cE cX cw aR
    go_wp2_with fail
    have cV:Hid (qbW o b (qbh (patsOf (listS b)) 256)=keysPg o b):=rfl;refine wpIn_wide.1 (Each.qBF (F:=Fence.wide) (n:=8) rfl (by omega) (gf:=247) (lb:=#[.pointer (some ⟨v+1,0,none⟩)]) rfl trivial (enters_of func247 (by kernel_rfl) rfl)
     bO (fun q O=>q.trans O) (fun cU df ah c9 _ q=>qnI cU df ah c9 q) (fun _=>rfl)
     (fun K k=>qlp w2 j M (qaw o (l.take s)++qbW o b K) k/\Boxed k v 3 (.int .i64 b)/\v+2<=k.heap.size)
     (fun da z k row q aK aq=>⟨q.1.own (by omega) aK fun ah e=>⟨by have:=(aq ah e).1;omega,fun Z=>by have:=(bg.o.2 ah Z).2;have:=(aq ah e).1;omega,(aq ah e).2⟩,q.2.1.kept aK fun e=>by have:=(aq _ e.symm).1;omega,Qj q.2.2 aK.size⟩)
     ⟨by rw [show qbW o b []=[] from rfl,Zu];exact dh.o,db.o,by omega⟩
     (fun h ax k=>qjV (patsOf (listS b)) h/\∃ y,v+2<=y/\k.heap[y]?=some (.cells #[.string (sB h.1.1),.string (sB h.1.2),.int .u8 h.2] 221 (0,0))/\ax={tmps:=#[.slice (some ⟨bG,ab,none⟩) l.length az,.func (.func g) #[] lb,undef,.pointer (some ⟨n,0,none⟩),.slice none 0 0,.pointer (some ⟨j,0,none⟩),undef,.pointer (some ⟨v,0,none⟩),.pointer (some ⟨y,0,none⟩),undef,undef,u11,u12,u13,u14,.slice (some ⟨bG,ab,none⟩) l.length az,.int .i64 (l.length:Int),.int .i64 (s:Int),.bool true,.pointer (some ⟨bG,ab+s,none⟩),.int .i64 b,.int .i64 b,.string (sB (listS b)),.func (.func 247) #[] #[.pointer (some ⟨v+1,0,none⟩)],.agg #[.string (sB h.1.1),.string (sB h.1.2),.int .u8 h.2],undef,undef,undef,undef,undef,undef,undef,undef,undef,undef,undef,undef,undef,undef,undef,undef,bQ,undef],defers:=[]})
     (fun h da z k row q aK aq=>by
      obtain ⟨bB,y,H,J,E⟩:=q;exact ⟨bB,y,H,(grownBy_keeps_cells aK (fun ah e=>(aq ah e).2) J rfl).trans J,E⟩)
     ?assign ?body ?done)
    case assign=>
     rintro bT K h k dt ⟨Y,X,bc⟩ D bu;simp only [qag]
     gi_wp2
     refine bu _ _ ((KeepsOthers.alloc _ _).from _) (qdQ.below (qaE _ _)) ⟨Y.below (by omega) (qaE _ _),X.alloc _,by simp;omega⟩ ⟨D,k.heap.size,by omega,World.alloc_heap_new k _,rfl⟩
    case body=>
     rintro bT K h ax k ⟨Y,X,bc⟩ ⟨D,y,aP,af,rfl⟩ dL;obtain ⟨ac,W,r,H,J,E,G,ak,V⟩:=Y;have bh:=qfn (qfr b _ (qgQ D)) h.2 D.2.2.1 (by have:=D.2.2.2;omega);have ce:=qfn (qfr b _ (qgQ D)) (op6 h.2) (qpP h.2 D.2.2.1 (by have:=D.2.2.2;omega)).1 (qpP h.2 D.2.2.1 (by have:=D.2.2.2;omega)).2;have bo:qad k:=(ci.o.qA6 a8.o cg).qA6 G (by omega);obtain ⟨cD,a2⟩:=N9 (k.drew);have bJ:Below k.heap.size k cD:=(by rw [<- a2];exact below_drewN _ _ 1);have bn:=qiM h.1 h.2 bh.good cD (bo.below bJ);have aD:=(fun z (q:qad z)=>qjo h.1 b h.2 bh ce z q);unfold qag at bn aD;have bE:Hid (∀ z,Below k.heap.size k z->z.cell? ⟨n,0,none⟩=some (.func (.func g) #[] lb)/\z.cell? ⟨y,0,none⟩=some (.string (sB h.1.1))/\z.cell? ⟨y,1,none⟩=some (.string (sB h.1.2))/\z.cell? ⟨y,2,none⟩=some (.int .u8 h.2)):=fun z aj=>by
      have aF:=((aj.block n (by omega)).trans (G.block n (by omega))).trans cR.o;have ao:=(aj.block y (Qb.1 af).1).trans af;exact ⟨Boxed.cell aF,C9 ao 0,C9 ao 1,C9 ao 2⟩
     have dj:=J9 (Zb H (Zb J (Zb E (Zb G V))));have dA:=J9 af;have cj:=J9 X;have c4:=J9 bo;have cS:=J9 aD;have aW:=J9 bJ;have cZ:Hid (∀ z,Below k.heap.size k z->Below w.heap.size w z):=fun z aj=>by rw [bI.o];exact (a8.o.trans (G.mono (by omega))).trans (aj.mono (by omega))
     have bU:Hid (∀ z,Below k.heap.size k z->qbW o b (K++[h])=qbW o b K->KeepsFrom am.heap.size k z/\qdQ k z/\qlp w2 j M (qaw o (l.take s)++qbW o b (K++[h])) z/\Boxed z v 3 (.int .i64 b)/\v+2<=z.heap.size):=fun z aj bu=>
      ⟨(qgs aj).from _,qdQ.below aj,by rw [bu];exact qlp.below ⟨ac,W,r,H,J,E,G,ak,V⟩ (by omega) aj,(aj.block v (by omega)).trans X,Qj bc aj.size⟩
     clear H J E G V af bh ce bo aD bJ D X bO
     gi_wp2_with fail
     refine Mixed.qBk (fun w'=>w'.cell? ⟨n,0,none⟩=some (.func (.func g) #[] lb)/\w'.cell? ⟨y,0,none⟩=some (.string (sB h.1.1))/\w'.cell? ⟨y,1,none⟩=some (.string (sB h.1.2))/\w'.cell? ⟨y,2,none⟩=some (.int .u8 h.2)) 3 [(0,true),(1,true),(2,false)] (by kernel_rfl) (fun ⟨_,_,q⟩=>q) (by kernel_rfl) (by kernel_rfl) (by rw [a2];exact bE.o _ aW.o) ?_;rw [a2];clear a2;refine Mixed.mo rfl (.func (.func g) #[] lb) (fun w q=>by obtain ⟨H,J,E,G⟩:=q;go_simp;try rfl) ?_;refine Mixed.mo rfl (.agg #[.string (sB h.1.1),.string (sB h.1.2),.int .u8 h.2]) (fun w q=>by obtain ⟨H,J,E,G⟩:=q;go_simp;try rfl) ?_;refine Mixed.qA5 rfl ?_
     go_wp2_with fail
     refine bn.mono ?_;rintro e cO ⟨rfl,cH⟩;have ag:=J9 (aW.o.trans (cH.mono aW.o.size));have ch:=bE.o _ ag.o;have bi:=c6.o (qaj h.1 h.2).1 cO (cZ.o _ ag.o);clear bn cH aW bE;have cY:=J9 ch;obtain ⟨cT,cP,cQ,di⟩:=ch;obtain ⟨m,bM⟩:=N9 ((qaj h.1 h.2).1);rw [bM] at bi |-;have cq:=J9 bM;clear bM;go_wp2;refine ⟨cY.o,?_⟩;simp only [Mixed.qAU,Qr,Qx]
     go_wp2_with fail
     refine bi.mono ?_;rintro e bK ⟨rfl,rfl⟩;clear bi;cases a9:o m with
     | false=>
      have aT:Hid (qbW o b (K++[h])=qbW o b K):=by
       show _=_;rw [qeT,qtM,cq.o,a9,Qe (by decide),Zu]
      clear a9;go_wp2
      gi_wp2
      exact bU.o _ ag.o aT.o
     | true=>
      have aT:Hid (qbW o b (K++[h])=qbW o b K++qxp b h.2 (qb8 h.1 b h.2)):=by
       show _=_;rw [qeT,qtM,cq.o,a9,Qi rfl]
      have dd:bK.cell? ⟨v,0,none⟩=some (.int .i64 b):=Boxed.cell ((ag.o.block v (by omega)).trans cj.o);have aD:=cS.o bK (c4.o.below ag.o);clear a9;go_wp2
      gi_wp2_with fail
      refine ⟨trivial,CallsIn.inRound bT (callsIn_wide.2 aD) |>.mono ?_⟩;rintro e aC ⟨aV,bC⟩;have aJ:=J9 (ag.o.trans (bC.mono ag.o.size));have cf:Hid (k.heap.size<=aC.heap.size):=aJ.o.size;have cW:Hid (j+1<=bK.heap.size):=(by have:=ag.o.size;show _<=_;omega);clear aD dd cT cP cQ di;cases aI:qb8 h.1 b h.2 with
      | none=>
       rw [aI] at aV;subst aV;have bA:Hid (qbW o b (K++[h])=qbW o b K):=by
        show _=_;rw [aT.o,aI];exact Zu _
       simp only [enV];clear aI bC
       gi_wp2
       exact bU.o _ (aJ.o.trans ((qaE _ _).mono cf.o)) bA.o
      | some cJ=>
       obtain ⟨T,P,U,R⟩:=cJ;rw [aI] at aV;obtain ⟨b8,rfl,bb⟩:=aV;simp only at bb |-;obtain ⟨ad,aa,rfl,cz,-⟩:=bb.ops;have bA:Hid (qbW o b (K++[h])=qbW o b K++[(b,h.2,T,P,U,R)]):=by
        show _=_;rw [aT.o,aI];rfl
       simp only [enV];obtain ⟨H,J,E,G,V⟩:=dj.o;have cm:=bb.lift cW.o;obtain ⟨cK,dk⟩:=N9 (aC.heap.size);obtain ⟨ap,bv⟩:=N9 (aC.alloc (.cells #[.int .i64 b,.int .u8 h.2,.string (sB T),.slice ad P.length aa,.string (sB U),.bool R] 88));have bY:Hid (qbl ap cK b h.2 T (.slice ad P.length aa) U R):=(by rw [<- bv,<- dk];exact World.alloc_heap_new aC _);have aQ:Below aC.heap.size aC ap:=(by rw [<- bv];exact qaE _ _);obtain ⟨cM,dl⟩:=N9 (ap.heap.size);obtain ⟨aL,bN⟩:=N9 (ap.alloc (.cells #[.int .i64 b,.int .u8 h.2,.string (sB T),.slice ad P.length aa,.string (sB U),.bool R] 88));have cd:Below ap.heap.size ap aL:=(by rw [<- bN];exact qaE _ _);have bj:=aQ.trans (cd.mono aQ.size);have al:=aJ.o.trans (bj.mono cf.o);have bf:=qvw ap ⟨b,h.2,T,ad,aa,P,U,R⟩ (cz.below aQ);simp only [Ee.v] at bf;rw [bN,dl] at bf;have cC:Boxed ap j 194 (.slice ac r.length W):=(aQ.block j (by have:=aJ.o.size;omega)).trans ((aJ.o.block j (by omega)).trans H);have bL:Boxed aL j 194 (.slice ac r.length W):=(al.block j (by omega)).trans H;have a5:=J.below al;have dg:r.length<=5000:=by
        have aF:r.length=(qaw o (l.take s)++qbW o b K).length:=(by rw [<- E,QC]);have ao:=qfY o (l.take s);have bX:=qgm o b K;rw [QH] at ao;rw [Qk] at aF;omega
       obtain ⟨dM,an,bR,bt,cB,aG⟩:=qqW aL (j+1) (.slice ac r.length W) r a5 (some ⟨cM,0,none⟩) 1 [(⟨b,h.2,T,ad,aa,P,U,R⟩:Ee)] bf (fun ah aq=>by
        obtain rfl:=QI.1 aq;exact cm.below bj) (by have:=al.size;omega) (by simp;omega)
       have b9:=bt;obtain ⟨aw,ai,rfl,-,-⟩:=b9.es;have a0:Boxed an j 194 (.slice ac r.length W):=bL.kept aG fun e=>by
        have:=(World.ownsRow.lt a5.1 _ e.symm).1;omega
       have bs:∀ O aB,aL.heap[O]?=some aB->(∀ aO,aB≠Obj.cells aO 88 (0,0))->an.heap[O]?=some aB:=fun O aB aN a3=>(aG.block O (Qb.1 aN).1 fun e=>by
        obtain ⟨aO,af,-⟩:=a5.type e.symm;rw [aN] at af;exact a3 aO (Qs af)).trans aN
       have aU:KeepsOthers k (an.setCell ⟨j,0,none⟩ (.slice aw (r++[(⟨b,h.2,T,ad,aa,P,U,R⟩:Ee)]).length ai)):=
        (qgs al).trans (KeepsOthers.trans ⟨aG.size,fun O aB aN a3=>bs O aB aN fun aO e=>by rw [e] at a3;cases a3⟩ (KeepsOthers.setCell _ _ _))
       have cx:Hid (KeepsFrom am.heap.size k (an.setCell ⟨j,0,none⟩ (.slice aw (r++[(⟨b,h.2,T,ad,aa,P,U,R⟩:Ee)]).length ai))/\qdQ k (an.setCell ⟨j,0,none⟩ (.slice aw (r++[(⟨b,h.2,T,ad,aa,P,U,R⟩:Ee)]).length ai))/\qlp w2 j M (qaw o (l.take s)++qbW o b (K++[h])) (an.setCell ⟨j,0,none⟩ (.slice aw (r++[(⟨b,h.2,T,ad,aa,P,U,R⟩:Ee)]).length ai))/\Boxed (an.setCell ⟨j,0,none⟩ (.slice aw (r++[(⟨b,h.2,T,ad,aa,P,U,R⟩:Ee)]).length ai)) v 3 (.int .i64 b)/\v+2<=(an.setCell ⟨j,0,none⟩ (.slice aw (r++[(⟨b,h.2,T,ad,aa,P,U,R⟩:Ee)]).length ai)).heap.size):=by
        refine ⟨aU.from _,qdQ.others aU,⟨aw,ai,r++[(⟨b,h.2,T,ad,aa,P,U,R⟩:Ee)],a0.set _,bt.other (by omega) _,?_,?_,?_,fun x Z=>aU.same x _ (V x Z) rfl⟩,?_,?_⟩
        ·rw [Zg,E,bA.o,Za];rfl
        ·exact (G.trans (al.mono (by omega))).trans ((show Below j aL an from cB.mono (Nat.le_succ j)).setCell (p:=⟨j,0,none⟩) (Qa _) _)
        ·have aF:=aG.size;have ao:=al.size;rw [World.size_setCell];omega
        ·refine (heap_setCell_other _ ⟨j,0,none⟩ v _ (by simp;omega)).trans (bs v _ ((al.block v (by omega)).trans cj.o) fun aO e=>?_)
         simp at e
        ·have aF:=aG.size;have ao:=al.size;rw [World.size_setCell];omega
       have bz:=J9 bR;have c7:=cC.cell;have c1:=bL.cell;have dc:=a0.cell;have dG:=a0.frozen;obtain ⟨dH,aF,ao,bX,dK,dm,du⟩:=bY.o.cells;obtain ⟨dn,cp⟩:=N9 ((r++[(⟨b,h.2,T,ad,aa,P,U,R⟩:Ee)]).length);rw [cp] at bz cx;obtain ⟨dJ,cr⟩:=N9 (r.length);rw [cr] at bz c7 c1 dc;obtain ⟨dI,cl⟩:=N9 (P.length);rw [cl] at bv bN bX |-;clear aI bC bb cz H J E G V cm bY aQ cd bj al bf cC bL a0 a5 dg bR bt b9 cB aG bs aU cp cr cl
       gi_wp2_with (gi_at_builtin;refine qb0 bz.o rfl _ _ rfl rfl rfl rfl ?_)
       exact cx.o
    case done=>
     rintro x c5 k Z b3 ⟨Y,X,bc⟩ bl;rw [show c5=_ from b3,cV.o,<- qe5,<- cI.o] at Y;obtain ⟨ac,W,r,H,J,E,G,ak,V⟩:=Y;have co:x<k.heap.size:=(Qb.1 bl).1;have c0:Hid (qlp w2 j (x :: M) (qaw o (l.take (s+1))) k):=⟨ac,W,r,H,J,E,G,ak,fun ay D=>by
      rcases QM.1 D with rfl | D
      ·exact bl
      ·exact V ay D⟩
     have bq:Hid ((x :: M).Nodup/\∀ ay∈x :: M,j<ay/\ay<k.heap.size):=by
      refine ⟨List.nodup_cons.2 ⟨fun D=>by have:=(bg.o.2 x D).2;omega,bg.o.1⟩,fun ay D=>?_⟩;rcases QM.1 D with rfl | D
      ·exact ⟨by omega,co⟩
      ·have:=bg.o.2 ay D
       exact ⟨this.1,by omega⟩
     have ca:=J9 bx;clear H J E G ak V bl X bc Z co b3 bO;go_wp2;refine ⟨⟨s+1,x :: M,_,_,_,_,_,_,_,_,rfl,ca.o,c0.o,bq.o⟩,?_⟩;have:=ca.o;show l.length - ((s:Int)+1).toNat<l.length - (s:Int).toNat;omega
end Go.Proofs.YtecpnfhpcamljaaGreatDoor
namespace Go.Proofs.YtecpnfhpcamljaaGreatDoor
open Tryz
open Go.RowKit Go.Shelf
attribute [local go_sem] Oper.semAt_some
theorem qry (h:Int) (i:Nat):((qeC (patsOf (listS h)) i).1=[]->qcS (listS h) (i:Int)=none)/\((qeC (patsOf (listS h)) i).1≠[]->qcS (listS h) (i:Int)=some (qeC (patsOf (listS h)) i)):=by
 unfold qcS qeC;cases y:(patsOf (listS h)).find? fun z=>qcD z.1 (i:Int) with
 | none=>exact ⟨fun _=>rfl,fun p=>absurd rfl p⟩
 | some q=>
  have E:=(qhF q (qfr h q (List.mem_of_find?_eq_some y))).2.1;exact ⟨fun p=>absurd p E,fun _=>rfl⟩
def quv (e:Str->Bool) (h:Int) (k:Nat):List Ke:=(entsR h k).filter fun q=>e q.2.2.1
theorem qhe (y:Str->Bool) (h:Int) (J:∀ (i:Nat) (p:Pat) (E:En),i<256->qcS (listS h) (i:Int)=some p->qb8 p h (i:Int)=some E->y (qaj p (i:Int)).1=y E.1):∀ k,k<=256->qbW y h (qbh (patsOf (listS h)) k)=quv y h k
 | 0,_=>rfl
 | k+1,U=>by
  have K:=qhe y h J k (by omega);have q:=qkX h k (by omega);obtain ⟨M,G⟩:=qry h k;unfold atT at q;unfold qbh;by_cases z:(qeC (patsOf (listS h)) k).1=[]
  ·rw [Qi z,K]
   rw [M z] at q;unfold quv;rw [entsR,<- q]
  ·rw [Qe z,qeT,K]
   rw [G z] at q;simp only at q;unfold quv qtM;rw [entsR,<- q];cases T:qb8 (qeC (patsOf (listS h)) k) h (k:Int) with
   | none=>split <;> simp [qxp]
   | some E=>
    have O:=J k _ E (by omega) (G z) T;simp only [List.filter_append,List.filter_cons,List.filter_nil,qxp];rw [O]
theorem qAF:∀ h∈mainP++cbP++edP,h∈cbP->∀ n<256,numN h.1 (n / 8*8+6) 97 8=numN h.1 n 97 8/\numN h.1 (n / 8*8+6) 111 8=numN h.1 n 111 8:=by decide +kernel
theorem qAd {p:Pat} (y:p∈mainP++cbP++edP) (z:p∈cbP) (n:Nat) (h:n<256):qbe p.1 (op6 (n:Int)) 97=qbe p.1 (n:Int) 97/\qbe p.1 (op6 (n:Int)) 111=qbe p.1 (n:Int) 111:=by
 have q:=qls ⟨n,h⟩;simp only at q;obtain ⟨G,E⟩:=qAF p y z n h;rw [q,qcl _ _ (by omega),qcl _ _ h,qcl _ _ (by omega),qcl _ _ h];omega
theorem qua {p:Pat} (q:p∈mainP++cbP++edP) (y:p∈cbP) (n:Nat) (h:n<256):(qaj p (op6 (n:Int))).1=(qaj p (n:Int)).1:=by
 obtain ⟨E,z⟩:=qAd q y n h;unfold qaj;rw [E,z]
theorem qgT (p:Pat) (q h y:Int):(qbE p q h y).1=(qaj p (op6 h)).1:=by
 unfold qbE;simp only;split
 ·rfl
 ·split <;> rfl
theorem qnW {q:Int} {p:Pat} {M:En} (n:Nat) (G:n<256) (J:qcS (listS q) (n:Int)=some p) (h:qb8 p q (n:Int)=some M):(qaj p (n:Int)).1=M.1:=by
 have K:=qmp J;unfold qb8 at h;by_cases U:q=3
 ·rw [Qi U] at h
  obtain ⟨V,-,rfl⟩:=Option.map_eq_some_iff.1 h;rfl
 rw [Qe U] at h;by_cases O:q=4
 ·rw [Qi O] at h
  obtain ⟨V,-,rfl⟩:=Option.map_eq_some_iff.1 h;rfl
 rw [Qe O] at h;have T:(q=5\/q=6)->p∈cbP:=fun W=>by
  have y:=List.mem_of_find?_eq_some J;rw [qbZ] at y;unfold qdu at y;rw [Qe (by omega),Qi (by omega)] at y;exact y
 by_cases E:q=5
 ·rw [Qi E] at h
  obtain rfl:=Qs h;rw [qgT];exact (qua K (T (.inl E)) n G).symm
 rw [Qe E] at h;by_cases z:q=6
 ·rw [Qi z] at h
  obtain rfl:=Qs h;rw [qgT];exact (qua K (T (.inr z)) n G).symm
 rw [Qe z] at h;obtain rfl:=Qs h;rfl
theorem qca (h:Str) (i:Int):keysPg (fun m=>decide (m=h)) i=(entsR i 256).filter fun e=>decide (e.2.2.1=h):=by
 unfold keysPg;rw [qhe _ i (fun y E G z q p=>congrArg (fun m=>decide (m=h)) (qnW y z q p)) 256 (Qa _)];rfl
theorem qpZ (e:Str) (w:World) (J:qad w) (A:Option Addr) (cap:Nat) (L:List Int) (G:qio w A L) (W:L.length<=10) :
  Calls prog 153 #[.string (sB e),.slice A L.length cap] w (qyd w (qaw (fun m=>decide (m=e)) (qgg L))):=by
 obtain ⟨y,T⟩:=N9 (w.alloc (.cells #[.string (sB e)] 9));have h:Below w.heap.size w y:=by rw [<- T];exact qaE _ _
 have E:Boxed y w.heap.size 9 (.string (sB e)):=by rw [<- T];exact Boxed.new _ _ _
 have K:=qkL 193 #[.pointer (some ⟨w.heap.size,0,none⟩)] (enters_of func193 (by kernel_rfl) rfl) (fun m=>decide (m=e)) y (J.below h) A cap L (G.below h) W
  (fun m M U=>qlo m e w.heap.size M ((U.block _ E.lt).trans E))
 have z:=J9 h;clear G J h E
 go_enter func153,ntmps153
 go_wp2_with fail
 refine K.mono ?_;rintro aa M ⟨A1,V,Z,rfl,H,R,O⟩;have q:=J9 (Zb (H.lift z.o.size) (Zb R (z.o.trans (O.mono z.o.size))));clear H R O K;go_wp2;go_ret;exact ⟨A1,V,Z,rfl,q.o.1,q.o.2.1,q.o.2.2⟩
def qaA (cb:Nat) (q o:World):Prop:=q.heap.size<=o.heap.size/\∀ k h,k≠cb->q.heap[k]?=some h->h.isCells=true->o.heap[k]?=some h
theorem qaA.trans {cb:Nat} {A B C:World} (o:qaA cb A B) (k:qaA cb B C):qaA cb A C:=⟨Qj o.1 k.1,fun h x y z q=>k.2 h x y (o.2 h x y z q) q⟩
theorem qaA.refl (cb:Nat) (h:World):qaA cb h h:=⟨Qa _,fun _ _ _ q _=>q⟩
theorem qaA.of_below {cb:Nat} {h o:World} (k:Below h.heap.size h o):qaA cb h o:=⟨k.size,fun y z _ q _=>(k.block y (Qb.1 q).1).trans q⟩
theorem qaA.put {cb:Nat} (h:World) (l:Nat) (o x:Obj) (y:h.heap[l]?=some o) (E:o.isCells=false):qaA cb h (h.putObj l x):=⟨by simp,fun z J _ k q=>by
 have G:z≠l:=by
  rintro rfl;rw [y] at k;obtain rfl:=Qs k;rw [E] at q;cases q
 exact (World.putObj_heap_other G).trans k⟩
theorem qaA.cell {cb:Nat} {y h:World} (E:qaA cb y h) {a:Addr} {v:Value} (o:y.cell? a=some v) (z:a.block≠cb):h.cell? a=some v:=by
 obtain ⟨J,q,G⟩:=cells_of_cell o;exact (Q1 ((E.2 _ J z q G).trans q.symm)).trans o
theorem qaA.boxed {cb:Nat} {q h:World} (y:qaA cb q h) {b:Nat} {t:TypeId} {v:Value} (z:Boxed q b t v) (E:b≠cb):Boxed h b t v:=y.2 b _ E z rfl
theorem qai.qBl {cb:Nat} {y z:World} {A:Option Addr} {L:List Tr} (h:qai y A L) (k:qaA cb y z) (G:∀ a,A=some a->L≠[]->a.block≠cb):qai z A L:=by
 by_cases j:L=[]
 ·exact .inl j
 rcases h with h | ⟨q,M,rfl,K⟩
 ·exact absurd h j
 ·have b:q≠cb:=G _ rfl j
  refine .inr ⟨q,M,rfl,fun U E=>?_⟩;obtain ⟨J,T,O⟩:=K U E;exact ⟨k.cell J b,k.cell T b,k.cell O b⟩
theorem KsP.qBl {cb:Nat} {y q:World} {A:Option Addr} {L:List Int} (b:KsP y A L) (k:qaA cb y q) (M:∀ a,A=some a->L≠[]->a.block≠cb):KsP q A L:=by
 by_cases h:L=[]
 ·exact .inl h
 rcases b with b | ⟨j,z,rfl,E⟩
 ·exact absurd b h
 ·have K:j≠cb:=M _ rfl h
  exact .inr ⟨j,z,rfl,fun G J=>k.cell (E G J) K⟩
theorem qad.qBl {cb:Nat} {m h:World} (y:qad m) (k:qaA cb m h) (z:0≠cb):qad h:=by
 obtain ⟨E,q⟩:=y;exact ⟨E,k.cell q z⟩
def EsN (N:Nat) (q:World) (A:Option Addr) (R:List Ee):Prop:=EsP q A R/\(∀ a,A=some a->R≠[]->N<=a.block)/\∀ h∈R,∀ a,h.A=some a->h.L≠[]->N<=a.block
theorem EsN.qBl {cb N:Nat} {j z:World} {A:Option Addr} {R:List Ee} (b:EsN N j A R) (k:qaA cb j z) (Z:cb<N):EsN N z A R:=by
 obtain ⟨O,y,u⟩:=b;refine ⟨?_,y,u⟩;by_cases h:R=[]
 ·exact .inl h
 rcases O with b | ⟨i,T,rfl,q⟩
 ·exact absurd b h
 ·have K:i≠cb:=by have:=y _ rfl h;simp at this;omega
  refine .inr ⟨i,T,rfl,fun E a=>⟨fun G W U=>k.cell ((q E a).1 G W U) K,(q E a).2.qBl k fun M J V=>?_⟩⟩;have:=u _ (QJ a) M J V;omega
theorem qjA {w:World} {n:Nat} {v:Value} {L:List Tr} {A:Option Addr} {m c:Nat} (g:qaf w n v L) (e:v=.slice A m c) (a:Addr) (h:A=some a):n<=a.block:=by
 subst e h;rcases g.2 with ⟨g,_⟩ | ⟨y,z,E,g,q,_⟩
 ·cases g
 ·cases g
  exact q
theorem qbO.esN {w:World} {n:Nat} {A:Option Addr} {cap:Nat} {R:List Ee} (a:qbO w n (.slice A R.length cap) R):EsN n w A R:=by
 obtain ⟨G,E,g,q,-⟩:=a.es;simp only [Qy] at g;obtain ⟨rfl,-,-⟩:=g;refine ⟨q,fun h e _=>?_,fun y z h e _=>qjA (a.2 y z) rfl h e⟩;subst e;rcases a.1.2 with ⟨a,_⟩ | ⟨J,cap,K,a,r,_⟩
 ·cases a
 ·cases a
  exact r
def qwB (C:List Tr) (k:Ke):Bool:=decide (k.2.2.2.1.map ks2=C.map ks2)
def qfj (h:Str) (C:List Tr) (l:List Int):List Ke:=(qaw (fun m=>decide (m=h)) l).filter (qwB C)
def candK (h:Str) (C:List Tr):List Ke:=qfj h C (qbD C)
def qgO (C:List Tr) (R:List Ee) (k:Nat):List Ke:=((R.take k).map Ee.k).filter (qwB C)
theorem qn0 (C:List Tr) (R:List Ee) (k:Nat) (h:k<R.length):qgO C R (k+1)=qgO C R k++(if qwB C R[k].k=true then [R[k].k] else []):=by
 unfold qgO;rw [QL h,Zg,List.filter_append];simp only [List.map_cons,List.map_nil,List.filter_cons,List.filter_nil]
theorem qnf (h:Str) (C:List Tr) (l:List Int) (p:Int):qfj h C (l++[p])=qfj h C l++(keysPg (fun m=>decide (m=h)) p).filter (qwB C):=by
 unfold qfj;rw [qe5,List.filter_append]
theorem qpb (h:Str) (C:List Tr) (l:List Int) (j:Nat):qfj h C (l.take j) <+: qfj h C l:=by
 have q:qaw (fun m=>decide (m=h)) (l.take j) <+: qaw (fun m=>decide (m=h)) l:=by
  conv=>rhs;rw [<- List.take_append_drop j l]
  unfold qaw;rw [List.flatMap_append];exact List.prefix_append _ _
 exact q.filter _
theorem qlx (s:ByteArray) (A:Option Addr) (n cap:Nat) (w:World):Calls prog 109 #[.agg #[.string s,.slice A n cap]] w fun h e=>h=.returned (.func (.func 151) #[] #[.pointer (some ⟨w.heap.size,0,none⟩)])/\w.alloc (.cells #[.string s,.slice A n cap] 24)=e:=by
 go_enter func109,ntmps109
 go_wp2;go_ret;exact ⟨rfl,rfl⟩
def eeV (x:Ee):Value:=enV x.g x.o x.m x.v x.ex x.al
def ShE (q:Str) (C:List Tr) (h:List Ee) (x:Ee) (y:World):Prop:=(h++[x]).map Ee.k <+: candK q C/\qai y x.A x.L
end Go.Proofs.YtecpnfhpcamljaaGreatDoor
