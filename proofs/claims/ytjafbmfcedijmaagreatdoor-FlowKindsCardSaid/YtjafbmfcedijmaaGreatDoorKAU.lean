/-
  InWqK, FmEqK, FmQqK.
-/
import Derived.Lib.SmallJoins
import Derived.Test.YtjafbmfcedijmaaGreatDoorKAM
set_option linter.all false
set_option maxRecDepth 100000
set_option maxHeartbeats 4000000
namespace Go.Proofs.YtjafbmfcedijmaaGreatDoor
open Tryz
open Go.RowKit Go.ChangeShapes Go.WideShapes Go.Deep
theorem qpX {w:World} {a:Addr} {v:Value} (E:w.cell? (a.add 0)=some v):∃ b h,a=⟨b,h,none⟩:=by
 obtain ⟨b,h,y⟩:=a;have z:y=none:=by simpa [Addr.add] using World.cell?_spot E
 subst z;exact ⟨b,h,rfl⟩
theorem qrJ (b h i j:Nat):((⟨b,h,none⟩:Addr).add i).add j=⟨b,h+i+j,none⟩:=by
 unfold Addr.add;by_cases y:i=0 <;> by_cases z:j=0 <;> simp [y,z]
section
variable {H:Type} {enc:TypeId×Value->H} {w:World} {spare:Nat->Bool} {fuel:Nat}
theorem qrt {cs:List Value} {x:DataW H×List MemPlace} (ab:DataW.trod enc prog w 0 spare true fuel 57 cs=some x):∃ t:Tr,cs=[.int .i64 t.1,.int .i64 t.2.1,.int .i64 t.2.2]:=by
 obtain ⟨ad,af,ae,ag,_,r,z,m,y⟩:=trod_struct3 underlying57 ab;have U:prog.cellsOf 57=3:=by kernel_rfl
 have ac:prog.cellsOf 3=1:=by kernel_rfl
 rw [U] at r
 match cs,r with
 | [M,V,J],_=>
  simp only [ac] at z m y;obtain ⟨k,K,_,_⟩:=DataW.trod_int underlying3 z;obtain ⟨n,Z,_,_⟩:=DataW.trod_int underlying3 m;obtain ⟨h,O,_,_⟩:=DataW.trod_int underlying3 y;have aa:M=.int .i64 k:=by simpa using K
  have G:V=.int .i64 n:=by simpa using Z
  have E:J=.int .i64 h:=by simpa using O
  subst aa G E;exact ⟨(k,n,h),rfl⟩
theorem qsS {v:Value} {x:DataW H×List MemPlace} (ad:DataW.trod enc prog w 0 spare true fuel 22 [v]=some x) :
  ∃ z a m t,v=.slice z a m/\a=t.length/\a<=maxLen/\qaj w z t:=by
 rcases Deep.open_slice underlying22 ad with ⟨b,_⟩ | ⟨j,a,m,J,aj,ai,ak,b,_,ah,am,M,_,K⟩
 ·simp only [List.cons.injEq,and_true] at b
  exact ⟨none,0,0,[],b,rfl,Qs _,.inl rfl⟩
 ·simp only [List.cons.injEq,and_true] at b
  have af:a<=J:=by rw [M];split <;> omega
  have aa:prog.cellsOf 57=3:=by kernel_rfl
  have O:∀ f,f<a->∃ e:Tr,w.cells? 0 (j.add (f*3)) 3=some [.int .i64 e.1,.int .i64 e.2.1,.int .i64 e.2.2]:=fun f ae=>by
   obtain ⟨ag,n,V⟩:=K f (by omega);rw [aa] at n;obtain ⟨e,ab⟩:=qrt V;rw [ab] at n;exact ⟨e,n⟩
  obtain ⟨G,i⟩:=Deep.choose_lt O;refine ⟨some j,a,m,(List.range a).map G,b,by simp,by omega,?_⟩;by_cases ac:a=0
  ·left;subst ac;simp
  ·have y:=(World.cells?_some (i 0 (by omega))).2.2 0 (by omega)
   rw [Nat.zero_mul,show (j.add 0).add 0=j.add 0 by simp [Addr.add]] at y;obtain ⟨Z,U,rfl⟩:=qpX y;refine .inr ⟨Z,U,rfl,fun h L=>?_⟩;have q:h<a:=(by simpa using L);have A:=(World.cells?_some (i h q)).2.2 0 (by omega);have E:=(World.cells?_some (i h q)).2.2 1 (by omega);have D:=(World.cells?_some (i h q)).2.2 2 (by omega);rw [qrJ] at A E D;simp only [Zt,List.getElem_range];exact ⟨A,E,D⟩
theorem qwa {n:Nat} {v:Value} {d:DataW H} {p:List MemPlace} (V:Value.okWide prog w .any n 24 v) (Z:DataW.Trod enc prog w 0 spare true 24 v d p) :
  ∃ (s:ByteArray) (A:Option Addr) (cap:Nat) (L:List Tr),v=.agg #[.string s,.slice A L.length cap]/\s.size<=maxLen/\L.length<=maxLen/\qaj w A L:=by
 obtain ⟨E,ad,aa,ab,ac,rfl,-,-,U,y⟩:=Joins.open_agg2 underlying24 (by kernel_rfl) (by kernel_rfl) V Z;obtain ⟨s,G,_,z⟩:=DataW.trod_string underlying9 U;have O:E=.string s:=by simpa using G
 obtain ⟨A,ae,cap,L,K,M,h,J⟩:=qsS y;subst O K M;exact ⟨s,A,cap,L,rfl,z,h,J⟩
end
end Go.Proofs.YtjafbmfcedijmaaGreatDoor
namespace Go.Proofs.YtjafbmfcedijmaaGreatDoor
open Tryz
open Go.RowKit Go.Shelf
attribute [local go_sem] Oper.semAt_some
theorem qnc (a:Int) (s:ByteArray) (V:s.size<=1000) (A:Option Addr) (cap b:Nat) (I:List Tr) (C:I.length=b) (U:b<=900) (w:World) (M:qac w) (H:qaj w A I) :
  Calls prog 8 #[.int .i64 a,.agg #[.string s,.slice A b cap]] w (qhM w (tgF a s I)):=by
 obtain ⟨aj,af,an,am,K,h,ao⟩:=Fr.box (Fr.nil w) #[.string s,.slice A b cap] 24;have v:=J9 h;obtain ⟨ag,ai⟩:=Fr.qEc K.o.1;have J:=J9 (qcr s V A cap b I C U af (M.below h) (H.below h));clear H M h K C
 go_enter func8,ntmps8
 go_wp2_with fail
 refine J.o.mono ?_;rintro ad ae ⟨O,Z,ah,E,rfl,z,y,e⟩;have B:=J9 (v.o.trans (y.mono v.o.size));obtain ⟨ac,ab,rfl,q,-,-⟩:=z.ops;have k:=qfI O Z E E.length rfl e.len e.imm e.rel ac ab a ae q;rw [e.tg a] at k;clear J y e z q
 go_wp2_with fail
 refine k.mono ?_;rintro ad ak ⟨rfl,G⟩;have aa:=J9 (B.o.trans (G.mono B.o.size));clear k G;go_wp2
 go_ret2
 exact ⟨rfl,aa.o⟩
end Go.Proofs.YtjafbmfcedijmaaGreatDoor
namespace Go.Proofs.YtjafbmfcedijmaaGreatDoor
open Tryz
open Go.RowKit Go.Shelf
attribute [local go_sem] Oper.semAt_some
attribute [local irreducible] Go.Mixed.qD8
theorem qBd (a:Int) (s:ByteArray) (A:Option Addr) (cap:Nat) (L:List Tr) (w:World) (aY:s.size<=maxLen) (aM:L.length<=maxLen) (H:qaj w A L) (aw:qac w) :
  Calls prog 3 #[.int .i64 a,.agg #[.string s,.slice A L.length cap]] w fun y l=>y=.returned (.bool true)/\Below w.heap.size w l:=by
 obtain ⟨h,U⟩:=N9 (L.length);rw [U] at aM |-;have ad:=J9 (fun l (b:Below w.heap.size w l)=>qei l (aw.below b));obtain ⟨aL,aU,e,aX,ab,aT,a1⟩:=Fr.box (Fr.add (Fr.add (Fr.start w w.heap.size rfl) (qaW A L) H) qmt aw) #[.string s,.slice A h cap] 24;obtain ⟨ao,ag⟩:=Fr.qEc ab.o.1;have a6:s.size<=9223372036854775807:=by unfold maxLen at aY;omega
 have a4:h<=9223372036854775807:=by unfold maxLen at aM;omega
 by_cases aD:100<s.size\/20<h
 ·have A1:=ad.o aU ab.o.2.2.2.1.1
  have au:=J9 ab.o.2.2.2.1.1;clear H aw aT ab ad U;by_cases z:100<s.size
  ·have aN:((s.size:Int) > 100):=by omega
   clear aD
   go_enter func3,ntmps3
   go_wp2_with fail
   refine A1.mono ?_;rintro y aK ⟨rfl,Z⟩;have aB:=J9 (au.o.trans (Z.mono au.o.size));clear A1 Z ao ag;go_wp2;go_ret;exact ⟨rfl,aB.o⟩
  ·have aN:¬((s.size:Int) > 100):=by omega
   have a0:((h:Int) > 20):=(by omega);clear aD
   go_enter func3,ntmps3
   go_wp2_with fail
   refine A1.mono ?_;rintro y aK ⟨rfl,Z⟩;have aB:=J9 (au.o.trans (Z.mono au.o.size));clear A1 Z ao ag;go_wp2;go_ret;exact ⟨rfl,aB.o⟩
 ·have aN:¬((s.size:Int) > 100):=by omega
  have a0:¬((h:Int) > 20):=by omega
  have aJ:=J9 (qnc a s (by omega) A cap h L U (by omega) aU ab.o.2.1 ab.o.2.2.1);have aC:=J9 (fun l b=>qcP a s (by omega) A cap h L U (by omega) l b);have am:=J9 (fun l z aG=>qkZ s (by omega) A cap h L U (by omega) l z aG);have aq:=J9 (fun l b=>qes s (by omega) A cap h L U (by omega) l b);have af:=J9 (fun l z aG=>qj2 s (by omega) A cap h L U (by omega) l z aG);have ah:=J9 (fun l b=>qhu s (by omega) A cap h L U (by omega) l b);have az:=qop a s L;obtain ⟨J,aP⟩:=N9 (tgF a s L);obtain ⟨a2,aS⟩:=N9 (kdF s L);obtain ⟨aR,aO⟩:=N9 (smF s L);rw [aP] at aJ aC az;rw [aS] at am aq;rw [aO] at af ah;have aE:=J9 az;clear H aw aT U aP aS aO az aD
  go_enter func3,ntmps3
  go_wp2_with fail
  refine aJ.o.mono ?_;rintro y aK ⟨rfl,Z⟩;have av:=Fr.up ab Z;clear aJ Z ao ag ab aX a1;obtain ⟨ao,ag⟩:=Fr.qEc av.o.1;have R2:=aC.o aK av.o.2.2.1;clear aC
  go_wp2_with fail
  refine R2.mono ?_;rintro y V ⟨rfl,aQ⟩;have ax:=Fr.up av aQ;clear R2 aQ ao ag av;rcases aE.o with b | b
  ·subst b
   clear aE
   go_upto_region 5 with fail
   obtain ⟨ap,K⟩:=N9 (V.drew);have T:=Fr.up ax (show Below V.heap.size V ap by rw [<- K];exact below_drewN V _ 1);clear ax;refine Mixed.qD5 (fun l=>Fr.St l [Fr.blk aL (.cells #[.string s,.slice A h cap] 24 (0,0)),qmt,qaW A L,Fr.bel w.heap.size w]) 27 [(0,false),(1,true),(2,true),(4,true),(3,false),(5,false),(6,true),(7,true),(8,true),(9,true),(11,true),(10,false),(12,false),(13,true),(14,true),(15,true),(16,true),(17,true),(18,true),(19,true),(20,true),(21,true),(22,true),(23,true),(24,true),(25,true),(26,true)] (by kernel_rfl) (by kernel_rfl) (by rw [K];exact T.o) ?_;rw [K];clear K;refine Mixed.qEh rfl ?_;have ar:=ad.o ap T.o.2.2.2.1.1;clear ad
   go_wp2_with fail
   refine ar.mono ?_;rintro y ay ⟨rfl,ae⟩;have E:=Fr.up T ae;clear ar ae T;go_wp2;refine ⟨E.o,?_⟩;refine Mixed.mo rfl (.bool true) (fun w b=>by clear b;go_simp;try rfl) ?_;refine Mixed.mo rfl (.agg #[.string s,.slice A h cap]) (fun w b=>by obtain ⟨aa,z⟩:=Fr.qEc b.1;clear b;go_simp;try rfl) ?_;refine Mixed.mo rfl (.agg #[.string s,.slice A h cap]) (fun w b=>by obtain ⟨aa,z⟩:=Fr.qEc b.1;clear b;go_simp;try rfl) ?_;refine Mixed.qD6 rfl (by kernel_rfl) ?_;have an:=am.o ay E.o.2.1 E.o.2.2.1;clear am
   go_wp2_with fail
   refine an.mono ?_;rintro y aI ⟨rfl,e⟩;have M:=Fr.up E e;clear an e E;go_wp2;refine ⟨M.o,?_⟩;refine Mixed.qD6 rfl (by kernel_rfl) ?_;have aj:=aq.o aI M.o.2.2.1;clear aq
   go_wp2_with fail
   refine aj.mono ?_;rintro y aF ⟨rfl,e⟩;have G:=Fr.up M e;clear aj e M;go_wp2;refine ⟨G.o,?_⟩;refine Mixed.mo rfl (.bool true) (fun w b=>by clear b;go_simp;try rfl) ?_;refine Mixed.mo rfl (.bool true) (fun w b=>by clear b;go_simp;try rfl) ?_;refine Mixed.mo rfl (.bool true) (fun w b=>by clear b;go_simp;try rfl) ?_;refine Mixed.mo rfl (.agg #[.string s,.slice A h cap]) (fun w b=>by obtain ⟨aa,z⟩:=Fr.qEc b.1;clear b;go_simp;try rfl) ?_;refine Mixed.mo rfl (.agg #[.string s,.slice A h cap]) (fun w b=>by obtain ⟨aa,z⟩:=Fr.qEc b.1;clear b;go_simp;try rfl) ?_;refine Mixed.qD6 rfl (by kernel_rfl) ?_;have ai:=af.o aF G.o.2.1 G.o.2.2.1;clear af
   go_wp2_with fail
   refine ai.mono ?_;rintro y aH ⟨rfl,e⟩;have O:=Fr.up G e;clear ai e G;go_wp2;refine ⟨O.o,?_⟩;refine Mixed.qD6 rfl (by kernel_rfl) ?_;have ak:=ah.o aH O.o.2.2.1;clear ah
   go_wp2_with fail
   refine ak.mono ?_;rintro y aV ⟨rfl,e⟩;have ac:=Fr.up O e;clear ak e O;go_wp2;refine ⟨ac.o,?_⟩;refine Mixed.mo rfl (.bool true) (fun w b=>by clear b;cases aR <;> (go_simp;try rfl)) ?_;refine Mixed.mo rfl (.bool true) (fun w b=>by clear b;go_simp;try rfl) ?_;refine Mixed.mo rfl (.bool true) (fun w b=>by clear b;go_simp;try rfl) ?_;refine Mixed.mo rfl (.bool false) (fun w b=>by clear b;go_simp;try rfl) ?_;refine Mixed.mo rfl (.int .i64 (-1)) (fun w b=>by clear b;go_simp;try rfl) ?_;refine Mixed.mo rfl (.bool false) (fun w b=>by clear b;go_simp;try rfl) ?_;refine Mixed.mo rfl (.bool true) (fun w b=>by clear b;go_simp;try rfl) ?_;refine Mixed.mo rfl (.bool true) (fun w b=>by clear b;go_simp;try rfl) ?_;refine Mixed.mo rfl (.bool true) (fun w b=>by clear b;go_simp;try rfl) ?_;refine Mixed.mo rfl (.int .i64 0) (fun w b=>by clear b;go_simp;try rfl) ?_;refine Mixed.mo rfl (.int .i64 (-1)) (fun w b=>by clear b;go_simp;try rfl) ?_;refine Mixed.mo rfl (.int .i64 0) (fun w b=>by clear b;go_simp;try rfl) ?_;refine Mixed.mo rfl (.bool true) (fun w b=>by clear b;go_simp;try rfl) ?_;refine Mixed.mo rfl (.bool true) (fun w b=>by clear b;go_simp;try rfl) ?_;simp only [Mixed.qD8,Qq,Qy];have aA:=J9 ac.o.2.2.2.1.1;clear ac;go_wp2;go_ret;exact ⟨rfl,aA.o⟩
  ·have aW:decide (0<=J)=true:=Qn b.1
   have aZ:max J 0=J:=Int.max_eq_left b.1;have aa:0<=J:=b.1;have a5:decide (J>=0)=true:=Qn b.1;have a3:¬J<0:=(by omega);rw [aW,aZ];clear aE b
   go_upto_region 5 with fail
   obtain ⟨ap,K⟩:=N9 (V.drew);have T:=Fr.up ax (show Below V.heap.size V ap by rw [<- K];exact below_drewN V _ 1);clear ax;refine Mixed.qD5 (fun l=>Fr.St l [Fr.blk aL (.cells #[.string s,.slice A h cap] 24 (0,0)),qmt,qaW A L,Fr.bel w.heap.size w]) 27 [(0,false),(1,true),(2,true),(4,true),(3,false),(5,false),(6,true),(7,true),(8,true),(9,true),(11,true),(10,false),(12,false),(13,true),(14,true),(15,true),(16,true),(17,true),(18,true),(19,true),(20,true),(21,true),(22,true),(23,true),(24,true),(25,true),(26,true)] (by kernel_rfl) (by kernel_rfl) (by rw [K];exact T.o) ?_;rw [K];clear K;refine Mixed.qEh rfl ?_;have ar:=ad.o ap T.o.2.2.2.1.1;clear ad
   go_wp2_with fail
   refine ar.mono ?_;rintro y ay ⟨rfl,ae⟩;have E:=Fr.up T ae;clear ar ae T;go_wp2;refine ⟨E.o,?_⟩;refine Mixed.mo rfl (.bool true) (fun w b=>by clear b;go_simp;try rfl) ?_;refine Mixed.mo rfl (.agg #[.string s,.slice A h cap]) (fun w b=>by obtain ⟨aa,z⟩:=Fr.qEc b.1;clear b;go_simp;try rfl) ?_;refine Mixed.mo rfl (.agg #[.string s,.slice A h cap]) (fun w b=>by obtain ⟨aa,z⟩:=Fr.qEc b.1;clear b;go_simp;try rfl) ?_;refine Mixed.qD6 rfl (by kernel_rfl) ?_;have an:=am.o ay E.o.2.1 E.o.2.2.1;clear am
   go_wp2_with fail
   refine an.mono ?_;rintro y aI ⟨rfl,e⟩;have M:=Fr.up E e;clear an e E;go_wp2;refine ⟨M.o,?_⟩;refine Mixed.qD6 rfl (by kernel_rfl) ?_;have aj:=aq.o aI M.o.2.2.1;clear aq
   go_wp2_with fail
   refine aj.mono ?_;rintro y aF ⟨rfl,e⟩;have G:=Fr.up M e;clear aj e M;go_wp2;refine ⟨G.o,?_⟩;refine Mixed.mo rfl (.bool true) (fun w b=>by clear b;go_simp;try rfl) ?_;refine Mixed.mo rfl (.bool true) (fun w b=>by clear b;go_simp;try rfl) ?_;refine Mixed.mo rfl (.bool true) (fun w b=>by clear b;go_simp;try rfl) ?_;refine Mixed.mo rfl (.agg #[.string s,.slice A h cap]) (fun w b=>by obtain ⟨aa,z⟩:=Fr.qEc b.1;clear b;go_simp;try rfl) ?_;refine Mixed.mo rfl (.agg #[.string s,.slice A h cap]) (fun w b=>by obtain ⟨aa,z⟩:=Fr.qEc b.1;clear b;go_simp;try rfl) ?_;refine Mixed.qD6 rfl (by kernel_rfl) ?_;have ai:=af.o aF G.o.2.1 G.o.2.2.1;clear af
   go_wp2_with fail
   refine ai.mono ?_;rintro y aH ⟨rfl,e⟩;have O:=Fr.up G e;clear ai e G;go_wp2;refine ⟨O.o,?_⟩;refine Mixed.qD6 rfl (by kernel_rfl) ?_;have ak:=ah.o aH O.o.2.2.1;clear ah
   go_wp2_with fail
   refine ak.mono ?_;rintro y aV ⟨rfl,e⟩;have ac:=Fr.up O e;clear ak e O;go_wp2;refine ⟨ac.o,?_⟩;refine Mixed.mo rfl (.bool true) (fun w b=>by clear b;cases aR <;> (go_simp;try rfl)) ?_;refine Mixed.mo rfl (.bool true) (fun w b=>by clear b;go_simp;try rfl) ?_;refine Mixed.mo rfl (.bool true) (fun w b=>by clear b;go_simp;try rfl) ?_;refine Mixed.mo rfl (.bool true) (fun w b=>by clear b;go_simp;try rfl) ?_;refine Mixed.mo rfl (.int .i64 J) (fun w b=>by clear b;go_simp;try rfl) ?_;refine Mixed.mo rfl (.bool true) (fun w b=>by clear b;go_simp;try rfl) ?_;refine Mixed.mo rfl (.bool true) (fun w b=>by clear b;go_simp;try rfl) ?_;refine Mixed.mo rfl (.bool true) (fun w b=>by clear b;go_simp;try rfl) ?_;refine Mixed.mo rfl (.bool true) (fun w b=>by clear b;go_simp;try rfl) ?_;refine Mixed.mo rfl (.int .i64 J) (fun w b=>by clear b;go_simp;try rfl) ?_;refine Mixed.mo rfl (.int .i64 J) (fun w b=>by clear b;go_simp;try rfl) ?_;refine Mixed.mo rfl (.int .i64 J) (fun w b=>by clear b;go_simp;try rfl) ?_;refine Mixed.mo rfl (.bool true) (fun w b=>by clear b;go_simp;try rfl) ?_;refine Mixed.mo rfl (.bool true) (fun w b=>by clear b;go_simp;try rfl) ?_;simp only [Mixed.qD8,Qq,Qy];have aA:=J9 ac.o.2.2.2.1.1;clear ac;go_wp2;go_ret;exact ⟨rfl,aA.o⟩
end Go.Proofs.YtjafbmfcedijmaaGreatDoor
