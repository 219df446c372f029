/-
  NumAqRSK, NumCqRSK, NumDqRSK, ObqRSK, TbAqRSK, MixedqRSK, TbBqRSK, RoundqRSK, EachqRSK, StopsqRSK, TbCqRSK, TbDqRSK, TbEqRSK, TbFqRSK, TbGqRSK, MixGqRSK.
-/
import Derived.WalkSpells
import Derived.WalkLawsBesides
import Derived.Lib.SlBytesRow
import Derived.RangeFuncNested
import Derived.RangeFuncBound
import Derived.OwnWalkIn
import Derived.Test.YtjafbmfcedijmaaGreatDoorCut
import Derived.Shelf.RegionOpen
import Derived.Deep.Cut
import Derived.LoopNIn
import Derived.LoopIn
import Derived.Laws.EntriesVeiled
import Derived.StillTailTactics
import Derived.Test.YtjafbmfcedijmaaGreatDoorQ0
set_option linter.all false
set_option maxRecDepth 100000
set_option maxHeartbeats 4000000
namespace Go.Proofs.YtjafbmfcedijmaaGreatDoor
open Tryz
open Go.RowKit
theorem qan {k:IntKind} {a b:Int} (h:a=b):Ending.returned (.int k a)=.returned (.int k b):=by rw [h]
def qmc (c:Int):Int:=if 97<=c/\c<=122 then c - 32 else c
def qnO (c:Int):Bool:=decide (48<=c)&&decide (c<=57)
theorem qmJ (c:Int) (G:0<=c) (J:c<=255) (w:World) :
  Calls prog 102 #[.int .u8 c] w fun h E=>h=.returned (.int .u8 (qmc c))/\w=E:=by
 by_cases z:97<=c
 ·by_cases y:c<=122
  ·go_enter func102,ntmps102
   go_wp2;go_ret;refine ⟨?_,rfl⟩;have e:qmc c=c - 32:=(by unfold qmc;rw [Qk ⟨z,y⟩]);rw [e];exact qan (by omega)
  ·go_enter func102,ntmps102
   go_wp2;go_ret;refine ⟨?_,rfl⟩;have e:qmc c=c:=(by unfold qmc;rw [Qd (by omega)]);rw [e];rfl
 ·go_enter func102,ntmps102
  go_wp2;go_ret;refine ⟨?_,rfl⟩;have e:qmc c=c:=by unfold qmc;rw [Qd (by omega)]
  rw [e];rfl
theorem isDecimal_any (c:Int) (E:0<=c) (G:c<=255) (w:World) :
  Calls prog 193 #[.int .u8 c] w fun y z=>y=.returned (.bool (qnO c))/\w=z:=by
 by_cases h:48<=c
 ·have e:qnO c=decide (c<=57):=by unfold qnO;simp [h]
  rw [e]
  go_enter func193,ntmps193
  go_wp2;go_ret;exact ⟨rfl,rfl⟩
 ·have e:qnO c=false:=by unfold qnO;simp [h]
  rw [e]
  go_enter func193,ntmps193
  go_wp2;go_ret;exact ⟨rfl,rfl⟩
theorem qxD (c:Int) (h:0<=c) (y:c<=255):0<=qmc c/\qmc c<=255:=by unfold qmc;split <;> omega
def qtE (c:Int):Int:=if c<128 then c else c - 256
theorem qaa {a b:Bool} (h:a=b):Ending.returned (.bool a)=.returned (.bool b):=by rw [h]
theorem qaw {a b:ByteArray} (h:a=b):Ending.returned (.string a)=.returned (.string b):=by rw [h]
def qzE (c:UInt8):UInt8:=(qmc (c.toNat:Int)).toNat.toUInt8
theorem qt5 (c:UInt8):((qzE c).toNat:Int)=qmc (c.toNat:Int):=by
 have h:=qxD (c.toNat:Int) (by omega) (by have:=c.toNat_lt;omega);unfold qzE;have:(qmc (c.toNat:Int)).toNat<256:=by omega
 rw [UInt8.toNat_ofNat_of_lt' this];omega
def upB (s:ByteArray):ByteArray:=⟨s.data.map qzE⟩
theorem qnI (s:ByteArray):(upB s).size=s.size:=by unfold upB;show (s.data.map qzE).size=s.data.size;simp
theorem qAw (s:ByteArray) (j:Nat) (y:j<s.size) (h:j<(upB s).size):(upB s)[j]=qzE s[j]:=by
 have z:(upB s).data[j]'h=qzE (s.data[j]'y):=by simp [upB]
 exact z
def qtv (w:World) (s:ByteArray) (k:Nat) (wr:World):Prop:=
 (∀ h (j:h<s.size),wr.cell? ⟨w.heap.size,h,none⟩=some (.int .u8 (if h<k then qmc (s[h].toNat:Int) else (s[h].toNat:Int))))/\(∀ h,h<s.size->wr.frozen? ⟨w.heap.size,h,none⟩=false)/\Below w.heap.size w wr
theorem qlV (w:World) (s:ByteArray) (cap:Nat) (e:TypeId) :
  qtv w s 0 (w.alloc (.cells (bytesRow s cap) e ((bytesRow s cap).size,(bytesRow s cap).size+1))).drew:=by
 refine ⟨fun h y=>?_,fun h y=>?_,(B0).drew⟩
 ·have j:=World.cell?_alloc_mark w (bytesRow s cap) e ((bytesRow s cap).size,(bytesRow s cap).size+1) h
  rw [bytesRow_at s cap h y] at j;exact j
 ·have j:=World.frozen?_alloc_mark w (bytesRow s cap) e (bytesRow s cap).size ((bytesRow s cap).size+1) h
  have E:h<(bytesRow s cap).size:=by
   unfold bytesRow;rw [Array.size_append,Array.size_map];have:s.data.size=s.size:=rfl;omega
  have z:decide ((bytesRow s cap).size<=h)=false:=by simp;exact E
  rw [z,Bool.false_and] at j;simpa using j
theorem qpt (w wr:World) (s:ByteArray) (k:Nat) (K:k<s.size) (E:qtv w s k wr):qtv w s (k+1) (wr.setCell ⟨w.heap.size,k,none⟩ (.int .u8 (qmc (s[k].toNat:Int)))):=by
 obtain ⟨j,J,G⟩:=E;refine ⟨fun e h=>?_,fun e h=>?_,G.setCell (by simp) _⟩
 ·by_cases z:e=k
  ·subst z
   have:=j e h;rw [Qk (by omega)];simp [go_sem,this]
  ·rw [World.cell?_setCell_other _ _ _ _ (by simp),j e h]
   by_cases y:e<k
   ·rw [Qk y,Qk (by omega)]
   ·rw [Qd y,Qd (by omega)]
 ·simp [go_sem,J e h]
theorem qs5 (w wr:World) (s:ByteArray) (cap:Nat) (E:qtv w s s.size wr) :
  (convert 44 9 (.slice (some ⟨w.heap.size,0,none⟩) s.size cap)).run prog wr=.ok (.string (upB s)) wr:=by
 have z:=Lib.run_convert_whole (P:=prog) wr 44 5 9 underlying44 underlying5 underlying9 w.heap.size 0 (upB s) (fun i h=>by
  have y:i<s.size:=by rw [qnI] at h;exact h
  rw [QS,E.1 i y,Qk y,qAw s i y h,qt5]) cap
 rw [qnI] at z;exact z
theorem qs2 (s:ByteArray) (G:s.size<=maxLen) (w:World) :
  Calls prog 60 #[.string s] w fun E z=>E=.returned (.string (upB s))/\Below w.heap.size w z:=by
 unfold maxLen at G;have J:=fun (w:World)=>run_bytes_of_string (P:=prog) w 9 44 5 s underlying9 underlying44 underlying5
 have N:=J9 (qlV w s (grownCap w s.size 0 5) 5)
 go_enter func60,ntmps60
 go_wp2;clear J
 go_loopw [10] (fun i wr=>∃ e:Nat,e<=s.size/\i=.int .i64 e/\qtv w s e wr) (fun i _=>s.size - (intOf i).toNat)
 case atStart=>exact ⟨0,Qs _,rfl,N.o⟩
 case round=>
  obtain ⟨e,U,rfl,y⟩:=hrel;have h:=J9 y;clear y;by_cases k:e<s.size
  ·have K:(0:Int)<=(s[e].toNat:Int):=by omega
   have O:(s[e].toNat:Int)<=255:=(by have:=s[e].toNat_lt;omega);have R:wr.cell? ⟨w.heap.size,e,none⟩=some (.int .u8 (s[e].toNat:Int)):=(by rw [h.o.1 e k,Qd (by omega)]);have V:=h.o.2.1 e k;have M:=J9 (qpt w wr s e k h.o)
   go_wp2_with (go_at_call 102;refine (qmJ _ K O _).mono ?_;rintro E z ⟨rfl,rfl⟩)
   go_roundw
   case rel=>exact ⟨e+1,by omega,by go_num,M.o⟩
   case measure=>simp [intOf];omega
  ·obtain rfl:e=s.size:=by omega
   have S:=qs5 w wr s (grownCap w s.size 0 5) h.o;go_wp2;go_ret;exact ⟨rfl,h.o.2.2⟩
theorem below_drewN (w:World) (n q:Nat):Below n w (w.drewN q):=⟨rfl,rfl,rfl,Qa _,fun _ _=>rfl⟩
theorem qbZ {B:Nat} {a w:World} (h:Below B a w) (n:Nat):Below B a (w.drewN n):=⟨h.os,h.tape,h.output,h.size,h.block⟩
abbrev Tr:=Int×Int×Int
def cellsT:List Tr->List Value
 | []=>[]
 | x :: h=>.int .i64 x.1 :: .int .i64 x.2.1 :: .int .i64 x.2.2 :: cellsT h
theorem qbX:∀ L:List Tr,(cellsT L).length=L.length*3
 | []=>rfl
 | x :: h=>by
  have t:=qbX h;show (cellsT h).length+1+1+1=(h.length+1)*3;omega
theorem qc7:∀ a b:List Tr,cellsT (a++b)=cellsT a++cellsT b
 | [],b=>rfl
 | x :: t,b=>by
  show _ :: _ :: _ :: cellsT (t++b)=_ :: _ :: _ :: (cellsT t++cellsT b);rw [qc7 t b]
theorem qdG:∀ (L:List Tr) (j:Nat) (h:j<L.length),(cellsT L)[j*3]?=some (.int .i64 L[j].1)/\(cellsT L)[j*3+1]?=some (.int .i64 L[j].2.1)/\(cellsT L)[j*3+2]?=some (.int .i64 L[j].2.2)
 | x :: e,0,h=>⟨rfl,rfl,rfl⟩
 | x :: e,j+1,h=>by
  obtain ⟨E,z,y⟩:=qdG e j (by simpa using h);have t:cellsT (x :: e)=.int .i64 x.1 :: .int .i64 x.2.1 :: .int .i64 x.2.2 :: cellsT e:=rfl;rw [t,show (j+1)*3=j*3+1+1+1 by omega,show j*3+1+1+1+1=(j*3+1)+1+1+1 by omega,show j*3+1+1+1+2=(j*3+2)+1+1+1 by omega];simp only [List.getElem?_cons_succ,List.getElem_cons_succ];exact ⟨E,z,y⟩
def qaj (w:World) (A:Option Addr) (L:List Tr):Prop:=
 L=[]\/∃ h j,A=some ⟨h,j,none⟩/\∀ b (y:b<L.length),w.cell? ⟨h,j+b*3,none⟩=some (.int .i64 L[b].1)/\w.cell? ⟨h,j+b*3+1,none⟩=some (.int .i64 L[b].2.1)/\w.cell? ⟨h,j+b*3+2,none⟩=some (.int .i64 L[b].2.2)
theorem qaj.at_ {w:World} {A:Option Addr} {L:List Tr} (E:qaj w A L) {k:Nat} (y:k<L.length):∃ b h,A=some ⟨b,h,none⟩/\b<w.heap.size/\w.cell? ⟨b,h+k*3,none⟩=some (.int .i64 L[k].1)/\w.cell? ⟨b,h+k*3+1,none⟩=some (.int .i64 L[k].2.1)/\w.cell? ⟨b,h+k*3+2,none⟩=some (.int .i64 L[k].2.2):=by
 rcases E with rfl | ⟨b,h,rfl,z⟩
 ·simp at y
 ·exact ⟨b,h,rfl,Qp w _ (z k y).1,z k y⟩
theorem qaj.below {w w':World} {A:Option Addr} {L:List Tr} (G:qaj w A L) (K:Below w.heap.size w w'):qaj w' A L:=by
 rcases G with rfl | ⟨y,J,rfl,p⟩
 ·exact .inl rfl
 ·refine .inr ⟨y,J,rfl,fun E O=>?_⟩
  have b:∀ (e:Addr) (h:Value),w.cell? e=some h->w'.cell? e=some h:=fun e h j=>(K.cell (Qp w _ j)).trans j
  obtain ⟨v,M,z⟩:=p E O;exact ⟨b _ _ v,b _ _ M,b _ _ z⟩
theorem qpD {w:World} {base:Nat} {v:Value} {L:List Tr} (g:w.ownsRow base 57 3 v L.length (cellsT L)):∃ j h,v=.slice j L.length h/\qaj w j L/\L.length<=h:=by
 rcases g.2 with ⟨rfl,E⟩ | ⟨y,h,O,rfl,_,_,J,_⟩
 ·have:L=[]:=Qu E
  subst this;exact ⟨none,0,rfl,.inl rfl,Qa _⟩
 ·refine ⟨_,h,rfl,.inr ⟨y,0,rfl,fun A K=>?_⟩,J⟩
  obtain ⟨M,G,z⟩:=qdG L A K;rw [QS];exact ⟨(g.cellAt _ (by omega)).trans M,(g.cellAt _ (by omega)).trans G,(g.cellAt _ (by omega)).trans z⟩
theorem qd4:(prog.info? 57).map (fun i=>(i.zero,i.size,i.bytes))=some (some (.agg #[.int .i64 0,.int .i64 0,.int .i64 0]),3,24):=by kernel_rfl
theorem run_append_nothing (w:World) (base:Nat) (t ty e:TypeId) (size:Nat) (y:prog.underlying t=some (.slice e)) (h:∀ w,(sizeOf e).run prog w=.ok size w)
  (v:Value) (n:Nat) (xs:List Value) (z:w.ownsRow base e size v n xs) (A:Option Addr) (c:Nat) :
  (Builtin.append_ #[t,t] ty #[v,.slice A 0 c]).run prog w=.ok v w:=by
 have x:∀ g,(loadCells g 0).run prog w=.ok #[] w:=fun g=>by simpa using run_loadCells_list (P:=prog) w g [] (by simp)
 rcases z.2 with ⟨rfl,U⟩ | ⟨O,J,G,rfl,M,K,E,V,_⟩
 ·cases A <;> simp [Builtin.append_,run_underlying y,h,Builtin.lenOf,Builtin.firstCells,x]
 ·cases A <;> simp [Builtin.append_,run_underlying y,h,Builtin.lenOf,Builtin.firstCells,x,E,storeCells] <;> omega
theorem qau (w:World) (base:Nat) (t ty e:TypeId) (i:TypeInfo) (E:Value) (size bytes:Nat) (M:prog.underlying t=some (.slice e)) (K:prog.info? e=some i) (ag:i.zero=some E)
  (J:i.size=size) (aj:i.bytes=bytes) (am:E.cells.size=size) (U:0<size)
  (v:Value) (n:Nat) (xs:List Value) (G:w.ownsRow base e size v n xs)
  (A:Option Addr) (m c:Nat) (h:List Value) (ad:h.length=m*size) (ac:m=0\/∃ a,A=some a/\∀ j u,h[j]?=some u->w.cell? (a.add j)=some u) (aa:∀ u∈h,u.oneCell'=true)
  (Z:n+m<=maxLen) (af:(n+m)*bytes<=140737488355328) (ah:base<=w.heap.size) :
  ∃ z y,(Builtin.append_ #[t,t] ty #[v,.slice A m c]).run prog w=.ok z y/\y.ownsRow base e size z (n+m) (xs++h)/\w.grownBy y v.ownBlock:=by
 by_cases O:m=0
 ·subst O
  have ak:h=[]:=Qu (by omega);subst ak;refine ⟨v,w,run_append_nothing w base t ty e size M (fun w=>?_) v n xs G A c,?_,World.grownBy.refl _ _⟩
  ·simp [sizeOf,typeInfo,K,J]
  ·simpa using G
 ·obtain ⟨a,rfl,ai⟩:=ac.resolve_left O
  obtain ⟨z,y,ae,ab,V,_⟩:=run_append_own (P:=prog) w base t ty e i E size bytes M K ag J aj am U v n xs G a m c h ad ai aa Z af ah;exact ⟨z,y,ae,ab,V⟩
theorem qag {w w1:World} {t ty:TypeId} {v y h:Value} (G:(Builtin.append_ #[t,t] ty #[v,y]).run prog w=.ok h w1) {ops:Array Oper} {rest:List Oper} {o:Oper} {a:Act} {Q:Exit->Act->World->Prop} (U:o.guard=none) (s x:Operand)
  (K:o.op=.call {callee:=.builtin .append,args:=#[s,x],argTypes:=#[t,t]}) (O:o.type=ty) (J:a.eval s=v) (E:a.eval x=y) (M:wpList prog ops Q rest (a.put o.dst h) w1):wpList prog ops Q (o :: rest) a w:=by
 subst O;refine wpList_plain U fun V z=>?_
 unfold Oper.wp;simp [execOp,K,resolve,invoke,builtin,J,E,G,Result.andThen];exact z _ _ M
theorem qfG:∀ (L:List Tr),∀ h∈cellsT L,h.oneCell'=true
 | [],h,e=>by cases e
 | x :: t,h,e=>by
  have u:cellsT (x :: t)=.int .i64 x.1 :: .int .i64 x.2.1 :: .int .i64 x.2.2 :: cellsT t:=rfl;rw [u] at e;rcases QI.1 e with rfl | e
  ·rfl
  ·rcases QI.1 e with rfl | e
   ·rfl
   ·rcases QI.1 e with rfl | e
    ·rfl
    ·exact qfG t h e
theorem qkE (L:List Tr) (j:Nat) (u:Value) (h:(cellsT L)[j]?=some u):∃ (k:Nat) (y:k<L.length),(j=k*3/\u=.int .i64 L[k].1)\/(j=k*3+1/\u=.int .i64 L[k].2.1)\/(j=k*3+2/\u=.int .i64 L[k].2.2):=by
 have K:j<L.length*3:=by
  rw [<- qbX];exact (QP.1 h).1
 have E:j / 3<L.length:=by omega
 obtain ⟨J,G,z⟩:=qdG L (j / 3) E;refine ⟨j / 3,E,?_⟩;have:j % 3=0\/j % 3=1\/j % 3=2:=by omega
 rcases this with y | y | y
 ·have e:j=j / 3*3:=by omega
  rw [<- e,h] at J;exact .inl ⟨e,by simpa using J⟩
 ·have e:j=j / 3*3+1:=by omega
  rw [<- e,h] at G;exact .inr (.inl ⟨e,by simpa using G⟩)
 ·have e:j=j / 3*3+2:=by omega
  rw [<- e,h] at z;exact .inr (.inr ⟨e,by simpa using z⟩)
theorem qaj.news {w:World} {A:Option Addr} {L:List Tr} (G:qaj w A L):L.length=0\/∃ a,A=some a/\∀ j b,(cellsT L)[j]?=some b->w.cell? (a.add j)=some b:=by
 rcases G with rfl | ⟨e,h,rfl,k⟩
 ·exact .inl rfl
 ·refine .inr ⟨_,rfl,fun j b J=>?_⟩
  have K:(⟨e,h,none⟩:Addr).add j=⟨e,h+j,none⟩:=by unfold Addr.add;split <;> simp_all
  rw [K];obtain ⟨z,E,u⟩:=qkE L j b J;obtain ⟨O,M,y⟩:=k z E;rcases u with ⟨rfl,rfl⟩ | ⟨rfl,rfl⟩ | ⟨rfl,rfl⟩
  ·exact O
  ·exact M
  ·exact y
theorem qe6:∀ (L:List Tr) (k:Nat) (a b c:Int) (y:k<L.length) (h:L[k].1=a) (e:L[k].2.1=b),cellsT (L.set k (a,b,c))=(cellsT L).set (k*3+2) (.int .i64 c)
 | x :: t,0,a,b,c,y,h,e=>by
  simp only [List.getElem_cons_zero] at h e;subst h e;rfl
 | x :: t,k+1,a,b,c,y,h,e=>by
  have G:=qe6 t k a b c (by simpa using y) (by simpa using h) (by simpa using e);rw [show (k+1)*3+2=(k*3+2)+1+1+1 by omega];show cellsT (x :: t.set k (a,b,c))=_;have z:∀ E:List Tr,cellsT (x :: E)=.int .i64 x.1 :: .int .i64 x.2.1 :: .int .i64 x.2.2 :: cellsT E:=fun _=>rfl
  rw [z,z,G];rfl
def qah (w:World) (n:Nat) (v:Value) (L:List Tr):Prop:=w.ownsRow n 57 3 v L.length (cellsT L)
theorem qah.ops {w:World} {n:Nat} {v:Value} {L:List Tr} (z:qah w n v L):∃ h y,v=.slice h L.length y/\qaj w h L/\L.length<=y:=qpD z
theorem qah.below {w w':World} {n:Nat} {v:Value} {L:List Tr} (h:qah w n v L) (k:Below w.heap.size w w'):qah w' n v L:=
 World.ownsRow.kept h (row:=none) ⟨k.os,k.tape,k.output,k.size,fun g e _=>k.block g e⟩ (by
  cases i:v.ownBlock with
  | none=>exact .inl rfl
  | some y=>exact .inr (by simp))
def qqY (w:World) (L:List Tr) (e:Ending) (w':World):Prop:=∃ h,e=.returned h/\qah w' w.heap.size h L/\Below w.heap.size w w'
theorem qcE (A:Option Addr) (cap:Nat) (L:List Tr) (ac:L.length<=1000) (w:World) (K:qaj w A L) :
  ∃ k h,(Builtin.append_ #[22,22] 22 #[.slice (some ⟨w.heap.size,0,none⟩) 0 0,.slice A L.length cap]).run prog (w.alloc (.cells #[] 57))=.ok k h/\qah h w.heap.size k L/\Below w.heap.size w h:=by
 obtain ⟨O,G,ab,V,Z⟩:=info_parts qd4;have z:Below w.heap.size w (w.alloc (.cells #[] 57)):=B0;have E:=World.ownsRow_made (base:=w.heap.size) (e:=57) (size:=3) w #[] 0 (Qa _) (by unfold maxLen;omega) rfl;obtain ⟨k,h,M,y,U⟩:=qau (w.alloc (.cells #[] 57)) w.heap.size 22 22 57 O _ 3 24 underlying22 G ab V Z rfl (by decide) _ 0 [] E A L.length cap (cellsT L)
  (qbX L) (K.below z).news (qfG L) (by unfold maxLen;omega) (by omega) (by simp)
 rw [Zk,QS] at y;exact ⟨k,h,M,y,z.grown U (by simp) fun J aa=>(E.lt J aa).1⟩
theorem qid (A:Option Addr) (cap:Nat) (L:List Tr) (N:L.length<=1000) (w:World) (a:qaj w A L) :
  Calls prog 61 #[.slice A L.length cap] w (qqY w L):=by
 cases A with
 | none=>
  obtain rfl:L=[]:=by
   rcases a with b | ⟨U,V,b,_⟩
   ·exact b
   ·cases b
  clear a;have J:=fun w=>Lib.run_eql_slice_nil (P:=prog) w 22 57 none 0 cap 0 0 underlying22
  go_enter func61,ntmps61
  go_wp2;go_ret;exact ⟨_,rfl,Zm _ _ _ _,Qc _ _⟩
 | some h=>
  obtain ⟨z,O,y,G,E⟩:=qcE (some h) cap L N w a;have M:Hid (qqY w L (.returned z) O):=⟨z,rfl,G,E⟩;have K:=J9 y;clear a y G E
  go_enter func61,ntmps61
  have J:=fun w=>Lib.run_eql_slice_nil (P:=prog) w 22 57 (some h) L.length cap 0 0 underlying22
  go_wp2_with (at_builtin;refine qag K.o rfl _ _ rfl rfl rfl rfl ?_)
  go_ret;exact M.o
def Bx (w:World) (b:Nat) (s:ByteArray) (A:Option Addr) (h cap:Nat):Prop:=w.cell? ⟨b,0,none⟩=some (.string s)/\w.cell? ⟨b,1,none⟩=some (.slice A h cap)
theorem Bx.lt {w:World} {b:Nat} {s:ByteArray} {A:Option Addr} {y cap:Nat} (h:Bx w b s A y cap):b<w.heap.size:=Qp w _ h.1
theorem Bx.below {w w':World} {b:Nat} {s:ByteArray} {A:Option Addr} {E cap B:Nat} (y:Bx w b s A E cap) (z:Below B w w') (h:b<B):Bx w' b s A E cap:=
 ⟨(z.cell h).trans y.1,(z.cell h).trans y.2⟩
theorem Bx.all {w w':World} {b:Nat} {s:ByteArray} {A:Option Addr} {y cap:Nat} (h:Bx w b s A y cap) (z:Below w.heap.size w w'):Bx w' b s A y cap:=h.below z h.lt
theorem Bx.new (w:World) (s:ByteArray) (A:Option Addr) (h cap:Nat) (t:TypeId):Bx (w.alloc (.cells #[.string s,.slice A h cap] t)) w.heap.size s A h cap:=⟨by simp [go_sem],by simp [go_sem]⟩
theorem row_mono {w:World} {base h:Nat} {e:TypeId} {size:Nat} {v:Value} {n:Nat} {xs:List Value} (y:w.ownsRow base e size v n xs) (K:h<=base):w.ownsRow h e size v n xs:=by
 refine ⟨y.1,?_⟩;rcases y.2 with g | ⟨z,J,G,M,g,E⟩
 ·exact .inl g
 ·exact .inr ⟨z,J,G,M,Qm K g,E⟩
theorem row_set {w:World} {base:Nat} {e:TypeId} {size n:Nat} {v:Value} {xs:List Value} (g:w.ownsRow base e size v n xs) {p:Addr} (E:p.block<base) (u:Value):(w.setCell p u).ownsRow base e size v n xs:=
 World.ownsRow.kept g (row:=some p.block) ⟨rfl,rfl,rfl,by simp,fun y _ z=>heap_setCell_other w p y u (fun e=>z (by rw [e]))⟩ (by
  cases e:v.ownBlock with
  | none=>exact .inl rfl
  | some k=>exact .inr (fun h=>by have:=(g.lt k e).1;cases h;omega))
def qxd (w:World) (s:ByteArray) (L:List Tr) (e:Ending) (w':World):Prop:=∃ h,e=.returned (.agg #[.string s,h])/\qah w' w.heap.size h L/\Below w.heap.size w w'
theorem qah.lift {w:World} {n m:Nat} {v:Value} {L:List Tr} (h:qah w n v L) (k:m<=n):qah w m v L:=row_mono h k
def Rz (w:World) (b:Nat):Prop:=w.heap[b]?=some (.cells #[.string ⟨#[]⟩,.slice none 0 0] 24 (0,0))
def Ri (w:World) (b:Nat) (s:ByteArray) (v:Value):Prop:=w.heap[b]?=some (.cells #[.string s,v] 24 (0,0))
theorem Rz.cells {w:World} {b:Nat} (h:Rz w b):w.cell? ⟨b,0,none⟩=some (.string ⟨#[]⟩)/\w.cell? ⟨b,1,none⟩=some (.slice none 0 0)/\w.frozen? ⟨b,0,none⟩=false/\w.frozen? ⟨b,1,none⟩=false:=
 ⟨by rw [C9 h];rfl,by rw [C9 h];rfl,Qr h 0,Qr h 1⟩
theorem Ri.cells {w:World} {b:Nat} {s:ByteArray} {v:Value} (h:Ri w b s v):w.cell? ⟨b,0,none⟩=some (.string s)/\w.cell? ⟨b,1,none⟩=some v:=
 ⟨by rw [C9 h];rfl,by rw [C9 h];rfl⟩
theorem Rz.set {w:World} {b:Nat} (y:Rz w b) (s:ByteArray) (v:Value):((w.setCell ⟨b,0,none⟩ (.string s)).setCell ⟨b,1,none⟩ v).cell? ⟨b,0,none⟩=some (.string s)/\((w.setCell ⟨b,0,none⟩ (.string s)).setCell ⟨b,1,none⟩ v).cell? ⟨b,1,none⟩=some v:=by
 obtain ⟨h,z,-,-⟩:=y.cells;exact ⟨by simp [go_sem,h],by simp [go_sem,z]⟩
theorem Rz.done {w:World} {b:Nat} (h:Rz w b) (s:ByteArray) (v:Value):Ri ((w.setCell ⟨b,0,none⟩ (.string s)).setCell ⟨b,1,none⟩ v) b s v:=by
 have z:=heap_setCell_same w b 0 _ _ (.string s) h;have y:=heap_setCell_same (w.setCell ⟨b,0,none⟩ (.string s)) b 1 _ _ v z;exact y
theorem qah.form {w:World} {b:Nat} {v:Value} {L:List Tr} (h:qah w b v L) (U:0<L.length):∃ g z,v=.slice (some ⟨g,0,none⟩) L.length z/\b<=g/\(∃ y,w.heap[g]?=some (.cells y 57 (0,0)))/\
  (∀ j (E:j<L.length),w.cell? ⟨g,j*3,none⟩=some (.int .i64 L[j].1)/\w.cell? ⟨g,j*3+1,none⟩=some (.int .i64 L[j].2.1)/\w.cell? ⟨g,j*3+2,none⟩=some (.int .i64 L[j].2.2))/\∀ j,w.frozen? ⟨g,j,none⟩=false:=by
 rcases h.2 with ⟨_,G⟩ | ⟨g,z,y,rfl,M,J,_⟩
 ·omega
 ·refine ⟨g,z,rfl,M,⟨y,J⟩,fun j E=>?_,fun j=>World.ownsRow.frozenAt h j⟩
  obtain ⟨G,O,K⟩:=qdG L j E;exact ⟨(World.ownsRow.cellAt h _ (by omega)).trans G,(World.ownsRow.cellAt h _ (by omega)).trans O,(World.ownsRow.cellAt h _ (by omega)).trans K⟩
theorem qah.put {w:World} {b g cap n:Nat} {L L':List Tr} (h:qah w b (.slice (some ⟨g,0,none⟩) n cap) L) (z:L.length=n) (y:L'.length=n) (j:Nat) (u:Value) (e:(cellsT L).set j u=cellsT L'):qah (w.setCell ⟨g,j,none⟩ u) b (.slice (some ⟨g,0,none⟩) n cap) L':=by
 unfold qah at h |-;rw [z] at h;rw [y,<- e];exact (World.ownsRow.stored h j u).1
theorem Ri.apart {w:World} {b g:Nat} {s:ByteArray} {v:Value} {y:Array Value} (z:Ri w b s v) (h:w.heap[g]?=some (.cells y 57 (0,0))):g≠b:=by
 rintro rfl;rw [show w.heap[g]?=_ from z] at h;simp at h
theorem qzA {A:Option Addr} {cap n:Nat} {L:List Tr} (G:∀ w,qaj w A L->Calls prog 61 #[.slice A n cap] w (qqY w L)) (E:L.length=n) (w:World) (H:qaj w A L) :
  Calls prog 61 #[.slice A n cap] w fun z y=>∃ h e,z=.returned (.slice h n e)/\qah y w.heap.size (.slice h n e) L/\Below w.heap.size w y:=by
 refine (G w H).mono ?_;rintro z y ⟨K,rfl,v,J⟩;obtain ⟨h,e,rfl,-,-⟩:=v.ops;rw [E] at v |-;exact ⟨h,e,rfl,v,J⟩
theorem qao {a b:ByteArray} (h:a≠b):(a.toList == b.toList)=false:=Qj.2 fun e=>h (by
 rw [Qe,Qe] at e;exact ByteArray.ext (Array.toList_inj.1 e))
theorem qEp (a:ByteArray):(a.toList == a.toList)=true:=beq_self_eq_true _
theorem qp5 {a b:Tr} (M:a≠b):¬a.1=b.1\/(a.1=b.1/\¬a.2.1=b.2.1)\/(a.1=b.1/\a.2.1=b.2.1/\¬a.2.2=b.2.2):=by
 obtain ⟨G,J,U⟩:=a;obtain ⟨E,K,O⟩:=b;by_cases h:G=E
 ·by_cases y:J=K
  ·refine .inr (.inr ⟨h,y,fun z=>M (by simp only at z;rw [h,y,z])⟩)
  ·exact .inr (.inl ⟨h,y⟩)
 ·exact .inl h
theorem qh5 (A1 ah:Option Addr) (aw c2:Nat) (a b:List Tr) (ag:a.length<=maxLen) (ai:b.length<=maxLen) (w:World) (ac:qaj w A1 a) (Z:qaj w ah b) :
  Calls prog 197 #[.slice A1 a.length aw,.slice ah b.length c2] w fun j ax=>j=.returned (.bool (decide (a=b)))/\Below w.heap.size w ax:=by
 unfold maxLen at ag ai;by_cases O:a.length=b.length
 ·have av:=J9 ac
  have an:=J9 Z;have ak:=J9 O;obtain ⟨af,T⟩:=N9 (a.length);have aj:=J9 T;rw [T] at ag;rw [<- O,T];clear ac Z O ai T
  go_enter func197,ntmps197
  go_wp2
  go_loopw [13] (fun V wr=>∃ h:Nat,h<=af/\V=.int .i64 h/\Hid (∀ e,e<h->∀ (K:e<a.length) (B:e<b.length),a[e]=b[e])/\Hid (Below w.heap.size w wr)) (fun V _=>af - (intOf V).toNat)
  case atStart=>exact ⟨0,Qs _,rfl,fun e aK=>by omega,Qc _ _⟩
  case round=>
   obtain ⟨h,aB,rfl,n,z⟩:=hrel;by_cases aG:h<af
   ·have ad:h<a.length:=by have:=aj.o;omega
    have ae:h<b.length:=(by have:=ak.o;omega);obtain ⟨ay,aC,ap,-,G,J,E⟩:=(av.o.below z.o).at_ ad;obtain ⟨aA,az,aq,-,M,U,R⟩:=(an.o.below z.o).at_ ae;subst ap;subst aq;by_cases k:a[h]=b[h]
    ·have R2:Hid (∀ e,e<h+1->∀ (K:e<a.length) (B:e<b.length),a[e]=b[e]):=fun e aJ K B=>by
      by_cases j:e=h
      ·subst j;exact k
      ·exact n.o e (by omega) K B
     rw [k] at G J E;obtain ⟨⟨ar,au,ao⟩,q⟩:=N9 (b[h]);rw [q] at G J E M U R;simp only at G J E M U R;clear k q ad ae n;go_wp2
     go_quiet (fail)
     have ab:=(fun aa=>J9 (z.o.trans (below_drewN wr w.heap.size aa)));go_wp2;go_roundw
     case rel=>exact ⟨h+1,by omega,by go_num,R2.o,(ab _).o⟩
     case measure=>simp [intOf];omega
    ·have y:Hid (false=decide (a=b)):=(Qf (fun j=>k (by simp only [j]))).symm
     have i:=qp5 k;obtain ⟨⟨ar,au,ao⟩,q⟩:=N9 (a[h]);obtain ⟨⟨aD,aH,aE⟩,am⟩:=N9 (b[h]);rw [q] at G J E i;rw [am] at M U R i;simp only at G J E M U R i;have ab:=(fun aa=>J9 (z.o.trans (below_drewN wr w.heap.size aa)));clear k q am ad ae n;rcases i with i | ⟨rfl,i⟩ | ⟨rfl,rfl,i⟩
     all_goals
      go_wp2
      go_quiet (fail)
      go_wp2;go_ret;exact ⟨qaa y.o,(ab _).o⟩
   ·have y:Hid (true=decide (a=b)):=by
     refine (Qn (List.ext_getElem ak.o fun e K B=>?_)).symm;exact n.o e (by have:=aj.o;omega) K B
    clear n;go_wp2;go_ret;exact ⟨qaa y.o,z.o⟩
 ·have y:Hid (false=decide (a=b)):=(Qf (fun j=>O (by rw [j]))).symm
  have aF:((a.length:Int) == (b.length:Int))=false:=Qj.2 (by omega);have aI:¬((a.length:Int)=(b.length:Int)):=by omega
  clear ac Z
  go_enter func197,ntmps197
  go_wp2;go_ret;exact ⟨qaa y.o,Qc _ _⟩
theorem qjt (s:ByteArray) (ai:s.size<=maxLen) (A:Option Addr) (cap:Nat) (L:List Tr) (an:L.length<=1000) (w:World) (H:qaj w A L) :
  Calls prog 29 #[.string s,.slice A L.length cap] w (qxd w (upB s) L):=by
 have ac:=J9 (qs2 s ai);have ag:=J9 (qid A cap L an);obtain ⟨h,af⟩:=N9 (upB s);rw [af] at ac |-;have B0:Hid (Below w.heap.size w (w.alloc (.cells #[.string ⟨#[]⟩,.slice none 0 0] 24))):=B0;have U:=J9 (H.below B0.o);have V:(w.alloc (.cells #[.string ⟨#[]⟩,.slice none 0 0] 24)).heap[w.heap.size]?=some (.cells #[.string ⟨#[]⟩,.slice none 0 0] 24 (0,0)):=heap_alloc_new w _;have Z:=J9 V;clear H af V
 go_enter func29,ntmps29
 go_wp2_with fail
 refine (ac.o _).mono ?_;rintro aq M ⟨rfl,y⟩;have ae:=J9 (U.o.below y);have G:=J9 (B0.o.trans (y.mono B0.o.size));have ad:Hid (M.heap[w.heap.size]?=some (.cells #[.string ⟨#[]⟩,.slice none 0 0] 24 (0,0))):=(y.block _ (by simp)).trans Z.o;have E:Hid (w.heap.size<M.heap.size):=by have:=y.size;simp at this;show w.heap.size<M.heap.size;omega
 clear y U B0 Z
 go_wp2_with fail
 refine (ag.o _ ae.o).mono ?_;rintro aq e ⟨v,rfl,K,J⟩;obtain ⟨u,z,rfl,-,-⟩:=K.ops;have ak:=J9 K;have ao:=J9 (G.o.trans (J.mono G.o.size));have F:Hid (e.heap[w.heap.size]?=some (.cells #[.string ⟨#[]⟩,.slice none 0 0] 24 (0,0))):=(J.block _ E.o).trans ad.o;clear J ae G ad K;have aj:e.cell? ⟨w.heap.size,0,none⟩=some (.string ⟨#[]⟩):=by rw [C9 F.o];rfl
 have ah:e.cell? ⟨w.heap.size,1,none⟩=some (.slice none 0 0):=by rw [C9 F.o];rfl
 have ar:e.frozen? ⟨w.heap.size,0,none⟩=false:=Qr F.o 0;have au:e.frozen? ⟨w.heap.size,1,none⟩=false:=Qr F.o 1;have ab:Hid (qxd w h L (.returned (.agg #[.string h,.slice u L.length z])) ((e.setCell ⟨w.heap.size,0,none⟩ (.string h)).setCell ⟨w.heap.size,1,none⟩ (.slice u L.length z))):=
  ⟨_,rfl,row_mono (row_set (row_set ak.o (p:=⟨w.heap.size,0,none⟩) E.o _) (p:=⟨w.heap.size,1,none⟩) E.o _) (Zb E.o),(ao.o.setCell (p:=⟨w.heap.size,0,none⟩) (Qa _) _).setCell (p:=⟨w.heap.size,1,none⟩) (Qa _) _⟩
 go_wp2;obtain ⟨aa,O⟩:=N9 (((e.setCell ⟨w.heap.size,0,none⟩ (.string h)).setCell ⟨w.heap.size,1,none⟩ (.slice u L.length z)));have am:aa.cell? ⟨w.heap.size,0,none⟩=some (.string h):=by rw [<- O];simp [go_sem,aj]
 have ap:aa.cell? ⟨w.heap.size,1,none⟩=some (.slice u L.length z):=by rw [<- O];simp [go_sem,ah]
 rw [O] at ab |-;refine bodyPost_ret (v:=.agg #[.string h,.slice u L.length z]) ?_ rfl ab.o;simp [results,results29,go_sem,am,ap]
abbrev Str:=List UInt8
def ixL (h:Str):Str->Option Nat
 | []=>if h.isEmpty then some 0 else none
 | b :: l=>if h.isPrefixOf (b :: l) then some 0 else (ixL h l).map (· + 1)
theorem qlk (h:Str):∀ l:Str,Lib.index l h=match ixL h l with | none=>-1 | some n=>(n:Int)
 | []=>by
  unfold Lib.index ixL;cases h.isEmpty <;> simp
 | b :: l=>by
  have y:=qlk h l;unfold Lib.index ixL;rw [y];cases h.isPrefixOf (b :: l)
  ·cases ixL h l <;> simp <;> omega
  ·simp
def qbu (n l:Str):Str×Str×Bool:=match ixL n l with
 | none=>(l,[],false)
 | some h=>(l.take h,l.drop (h+n.length),true)
theorem quP (l h:Str):Lib.cut l h=qbu h l:=by
 unfold Lib.cut qbu;rw [qlk];cases y:ixL h l <;> simp
theorem qwM (m:Str):∀ (l:Str) (n:Nat),ixL m l=some n->n+m.length<=l.length
 | [],n,h=>by
  unfold ixL at h;cases m with
  | nil=>simp at h;subst h;simp
  | cons=>simp at h
 | b :: l,n,h=>by
  unfold ixL at h;split at h
  ·next E=>
   have:=List.IsPrefix.length_le (List.isPrefixOf_iff_prefix.1 E);simp at h;subst h;simpa using this
  ·cases y:ixL m l with
   | none=>rw [y] at h;simp at h
   | some z=>
    rw [y] at h;have G:=qwM m l z y;simp at h;simp;omega
theorem qmZ (h l:Str) (E:0<h.length) (y:0<l.length):(qbu h l).2.1.length<l.length/\(qbu h l).1.length<=l.length:=by
 unfold qbu;cases z:ixL h l with
 | none=>simpa using y
 | some n=>
  have:=qwM h l n z;simp;omega
abbrev Pat:=Str×Str
def rowP (row:Str):Pat:=((qbu [32] row).1,(qbu [32] row).2.1)
def qjj:Nat->Str->List Pat
 | 0,_=>[]
 | n+1,l=>if l.isEmpty then [] else rowP (qbu [59,32] l).1 :: qjj n (qbu [59,32] l).2.1
def quJ:Str:=[48,48,48,48,48,48,48,48,32,78,79,80,59,32,48,48,48,48,49,48,48,48,32,69,88,32,65,70,44,65,70,39,59,32,48,48,48,49,48,48,
 48,48,32,68,74,78,90,32,101,59,32,48,48,48,49,49,48,48,48,32,74,82,32,101,59,32,48,48,49,107,107,48,48,48,32,74,82,32,107,44,
 101,59,32,48,48,112,112,48,48,48,49,32,76,68,32,112,44,119,59,32,48,48,112,112,49,48,48,49,32,65,68,68,32,72,76,44,112,59,32,48,
 48,48,48,48,48,49,48,32,76,68,32,40,66,67,41,44,65,59,32,48,48,48,49,48,48,49,48,32,76,68,32,40,68,69,41,44,65,59,32,48,
 48,49,48,48,48,49,48,32,76,68,32,40,119,41,44,72,76,59,32,48,48,49,49,48,48,49,48,32,76,68,32,40,119,41,44,65,59,32,48,48,
 48,48,49,48,49,48,32,76,68,32,65,44,40,66,67,41,59,32,48,48,48,49,49,48,49,48,32,76,68,32,65,44,40,68,69,41,59,32,48,48,
 49,48,49,48,49,48,32,76,68,32,72,76,44,40,119,41,59,32,48,48,49,49,49,48,49,48,32,76,68,32,65,44,40,119,41,59,32,48,48,112,
 112,48,48,49,49,32,73,78,67,32,112,59,32,48,48,112,112,49,48,49,49,32,68,69,67,32,112,59,32,48,48,114,114,114,49,48,48,32,73,78,
 67,32,114,59,32,48,48,114,114,114,49,48,49,32,68,69,67,32,114,59,32,48,48,114,114,114,49,49,48,32,76,68,32,114,44,110,59,32,48,48,
 48,48,48,49,49,49,32,82,76,67,65,59,32,48,48,48,48,49,49,49,49,32,82,82,67,65,59,32,48,48,48,49,48,49,49,49,32,82,76,65,
 59,32,48,48,48,49,49,49,49,49,32,82,82,65,59,32,48,48,49,48,48,49,49,49,32,68,65,65,59,32,48,48,49,48,49,49,49,49,32,67,
 80,76,59,32,48,48,49,49,48,49,49,49,32,83,67,70,59,32,48,48,49,49,49,49,49,49,32,67,67,70,59,32,48,49,49,49,48,49,49,48,
 32,72,65,76,84,59,32,48,49,114,114,114,115,115,115,32,76,68,32,114,44,115,59,32,49,48,97,97,97,115,115,115,32,97,32,115,59,32,49,49,
 99,99,99,48,48,48,32,82,69,84,32,99,59,32,49,49,113,113,48,48,48,49,32,80,79,80,32,113,59,32,49,49,48,48,49,48,48,49,32,82,
 69,84,59,32,49,49,48,49,49,48,48,49,32,69,88,88,59,32,49,49,49,48,49,48,48,49,32,74,80,32,40,72,76,41,59,32,49,49,49,49,
 49,48,48,49,32,76,68,32,83,80,44,72,76,59,32,49,49,99,99,99,48,49,48,32,74,80,32,99,44,119,59,32,49,49,48,48,48,48,49,49,
 32,74,80,32,119,59,32,49,49,48,49,48,48,49,49,32,79,85,84,32,40,110,41,44,65,59,32,49,49,48,49,49,48,49,49,32,73,78,32,65,
 44,40,110,41,59,32,49,49,49,48,48,48,49,49,32,69,88,32,40,83,80,41,44,72,76,59,32,49,49,49,48,49,48,49,49,32,69,88,32,68,
 69,44,72,76,59,32,49,49,49,49,48,48,49,49,32,68,73,59,32,49,49,49,49,49,48,49,49,32,69,73,59,32,49,49,99,99,99,49,48,48,
 32,67,65,76,76,32,99,44,119,59,32,49,49,113,113,48,49,48,49,32,80,85,83,72,32,113,59,32,49,49,48,48,49,49,48,49,32,67,65,76,
 76,32,119,59,32,49,49,97,97,97,49,49,48,32,97,32,110,59,32,49,49,116,116,116,49,49,49,32,82,83,84,32,116]
def cbS:Str:=[48,48,111,111,111,115,115,115,32,111,32,115,59,32,48,49,98,98,98,115,115,115,32,66,73,84,32,98,44,115,59,32,49,48,98,98,98,115,115,115,
 32,82,69,83,32,98,44,115,59,32,49,49,98,98,98,115,115,115,32,83,69,84,32,98,44,115]
def edS:Str:=[48,49,49,49,48,48,48,48,32,73,78,32,40,67,41,59,32,48,49,114,114,114,48,48,48,32,73,78,32,114,44,40,67,41,59,32,48,49,49,49,
 48,48,48,49,32,79,85,84,32,40,67,41,44,48,59,32,48,49,114,114,114,48,48,49,32,79,85,84,32,40,67,41,44,114,59,32,48,49,112,112,
 48,48,49,48,32,83,66,67,32,72,76,44,112,59,32,48,49,112,112,49,48,49,48,32,65,68,67,32,72,76,44,112,59,32,48,49,112,112,48,48,
 49,49,32,76,68,32,40,119,41,44,112,59,32,48,49,112,112,49,48,49,49,32,76,68,32,112,44,40,119,41,59,32,48,49,120,120,120,49,48,48,
 32,78,69,71,59,32,48,49,48,48,49,49,48,49,32,82,69,84,73,59,32,48,49,120,120,120,49,48,49,32,82,69,84,78,59,32,48,49,120,48,
 120,49,49,48,32,73,77,32,48,59,32,48,49,120,49,48,49,49,48,32,73,77,32,49,59,32,48,49,120,49,49,49,49,48,32,73,77,32,50,59,
 32,48,49,48,48,48,49,49,49,32,76,68,32,73,44,65,59,32,48,49,48,48,49,49,49,49,32,76,68,32,82,44,65,59,32,48,49,48,49,48,
 49,49,49,32,76,68,32,65,44,73,59,32,48,49,48,49,49,49,49,49,32,76,68,32,65,44,82,59,32,48,49,49,48,48,49,49,49,32,82,82,
 68,59,32,48,49,49,48,49,49,49,49,32,82,76,68,59,32,49,48,49,48,48,48,48,48,32,76,68,73,59,32,49,48,49,48,48,48,48,49,32,
 67,80,73,59,32,49,48,49,48,48,48,49,48,32,73,78,73,59,32,49,48,49,48,48,48,49,49,32,79,85,84,73,59,32,49,48,49,48,49,48,
 48,48,32,76,68,68,59,32,49,48,49,48,49,48,48,49,32,67,80,68,59,32,49,48,49,48,49,48,49,48,32,73,78,68,59,32,49,48,49,48,
 49,48,49,49,32,79,85,84,68,59,32,49,48,49,49,48,48,48,48,32,76,68,73,82,59,32,49,48,49,49,48,48,48,49,32,67,80,73,82,59,
 32,49,48,49,49,48,48,49,48,32,73,78,73,82,59,32,49,48,49,49,48,48,49,49,32,79,84,73,82,59,32,49,48,49,49,49,48,48,48,32,
 76,68,68,82,59,32,49,48,49,49,49,48,48,49,32,67,80,68,82,59,32,49,48,49,49,49,48,49,48,32,73,78,68,82,59,32,49,48,49,49,
 49,48,49,49,32,79,84,68,82]
def listS (h:Int):Str:=if h=0\/h=3\/h=4 then quJ else if h=1\/h=5\/h=6 then cbS else if h=2 then edS else []
def mainP:List Pat:=qjj 60 quJ
def cbP:List Pat:=qjj 60 cbS
def edP:List Pat:=qjj 60 edS
end Go.Proofs.YtjafbmfcedijmaaGreatDoor
namespace Go.Mixed
open Go
def QF:Exit->Act->World->Prop:=fun _ _ _=>False
theorem qbd:¬LetsOut QF:=fun ⟨_,_,h⟩=>h
section
variable {P:Program} {ops:Array Oper} {md:Region.Mode}
theorem qzm {o:Oper} {a:Act} {n h:Act->World->Prop} {Q:Exit->Act->World->Prop} {r:Result Next} (d:∀ a w,n a w->h a w) (c:o.upon P a n QF r):o.upon P a h Q r:=by
 cases r with
 | ok z G=>
  cases z <;> simp only [Oper.upon] at c |-
  case value f=>exact d _ _ c
  case skip=>exact d _ _ c
  case defer M=>exact d _ _ c
  case enter J args=>
   refine c.mono fun y v e=>?_
   cases y with
   | returned f=>exact d _ _ e
   | panicked K=>exact (e:False).elim
   | outgrown=>exact absurd e qbd
  case row row args=>exact c.mono fun f v E=>d _ _ E
 | halt x G=>
  cases x <;> simp only [Oper.upon] at c
  case panic f=>exact (c:False).elim
theorem qcW {i:Nat} {a:Act} {w:World} {E G:Act->World->Prop} {Q:Exit->Act->World->Prop} (y:∀ a w,E a w->G a w) (h:wpOp P ops QF i E a w):wpOp P ops Q i G a w:=by
 unfold wpOp at *;split
 ·rename_i o;simp only [o] at h;exact y _ _ h
 ·rename_i J o
  simp only [o] at h;split
  ·rename_i z
   simp only [z,if_true] at h;rcases h with h | h
   ·exact .inl (qzm y h)
   ·exact absurd h.2 qbd
  ·rename_i z;simp only [z] at h;exact y _ _ h
def qa8 (P:Program) (md:Region.Mode) (ops:Array Oper) (n:Nat) (C:World->Prop) (L:Array Bool->Act->World->Prop):Nat->Array Bool->Act->World->Prop
 | 0,h,w,a=>C a/\L h w a
 | f+1,h,w,a=>C a/\Region.ready md ops h≠[]/\∀ i∈Region.ready md ops h,i<n/\wpOp P ops QF i (qa8 P md ops n C L f (h.setIfInBounds i true)) w a
theorem qeS {n:Nat} {C:World->Prop} {L:Array Bool->Act->World->Prop} {f:Nat} {h:Array Bool} {a:Act} {w:World} (y:qa8 P md ops n C L f h a w):C w:=by cases f <;> exact y.1
theorem qaq {n g:Nat} {C:World->Prop} {L:Array Bool->Act->World->Prop} {Q':Exit->Act->World->Prop} (z:∀ h a w,L h a w->wpAny P md ops Q' g h a w) :
  ∀ (f:Nat) (h:Array Bool) (a:Act) (w:World),qa8 P md ops n C L f h a w->wpAny P md ops Q' (f+g) h a w
 | 0,h,a,w,y=>by rw [QS];exact z _ _ _ y.2
 | f+1,h,a,w,y=>by
  rw [show f+1+g=(f+g)+1 by omega];exact ⟨fun G=>absurd G y.2.1,fun i J=>qcW (fun E w' K=>qaq z f _ E w' K) (y.2.2 i J).2⟩
def Pure (P:Program) (ops:Array Oper) (C:World->Prop) (o:Oper) (v:Value) (a:Act):Prop:=
 (Region.wanted o (yielded ops a.tmps)=true/\∀ h,C h->(execOp a.eval o).run P h=.ok (.value v) h)\/
 (Region.wanted o (yielded ops a.tmps)=false/\v=undef)
theorem Pure.of_same {C:World->Prop} {o:Oper} {v:Value} {a h:Act} (y:Pure P ops C o v a) (z:execOp h.eval o=execOp a.eval o)
  (E:Region.wanted o (yielded ops h.tmps)=Region.wanted o (yielded ops a.tmps)):Pure P ops C o v h:=by
 unfold Pure at *;rw [z,E];exact y
theorem Pure.wpOp {C:World->Prop} {i:Nat} {o:Oper} {v:Value} {a:Act} {w:World} {y:Act->World->Prop} {Q:Exit->Act->World->Prop} (E:ops[i]?=some o) (G:Pure P ops C o v a) (K:C w) (z:y (a.put o.dst v) w):wpOp P ops Q i y a w:=by
 unfold Go.wpOp;simp only [E];rcases G with ⟨h,J⟩ | ⟨h,rfl⟩
 ·simp only [h,if_true]
  left;unfold Oper.wp;rw [J w K];exact z
 ·simp only [h,Bool.false_eq_true,if_false];exact z
theorem put_defers (a:Act) (h:List Deferred) (x:Option Tmp) (v:Value):({a with defers:=h}.put x v)={(a.put x v) with defers:=h}:=by cases x <;> rfl
theorem qdT (a:Act) (x:Option Tmp) (v:Value):(a.put x v).defers=a.defers:=by cases x <;> rfl
theorem wpOp_put {C:World->Prop} {j:Nat} {d f:Oper} {v:Value} (V:ops[j]?=some f) (O:d.apart ops f=true)
  (U:∀ cs b,d.op≠.select cs b) (ac:∀ cs b,f.op≠.select cs b) {K:Act->World->Prop} {a:Act} {w:World}
  (h:Pure P ops C d v a) (c:wpOp P ops QF j K (a.put d.dst v) w) :
  wpOp P ops QF j (fun J w'=>Pure P ops C d v J/\K (J.put d.dst v) w') a w:=by
 obtain ⟨G,u,M⟩:=Oper.apart_spec O;have n:∀ (a:Act),Pure P ops C d v a->∀ e,Pure P ops C d v (a.put f.dst e):=fun a h e=>
  h.of_same (execOp_put d U a f.dst e M) (wanted_put d a f.dst e M)
 unfold wpOp at *;simp only [V] at *;rw [wanted_put f a d.dst v G] at c;split
 ·rename_i x
  simp only [x,if_true] at c;rcases c with c | c
  ·left
   unfold Oper.wp at *;rw [execOp_put f ac a d.dst v G] at c;generalize (execOp a.eval f).run P w=r at *;cases r with
   | ok ab w'=>
    cases ab <;> simp only [Oper.upon] at c |-
    case value e=>exact ⟨n a h e,by rw [<- Act.put_comm a v e u];exact c⟩
    case skip=>exact ⟨n a h _,by rw [<- Act.put_comm a v undef u];exact c⟩
    case defer z=>
     refine ⟨?_,?_⟩
     ·have ae:Pure P ops C d v {a with defers:=z :: a.defers}:=h
      exact n _ ae _
     ·rw [<- Act.put_comm _ v undef u]
      have E:({a with defers:=z :: a.defers}.put d.dst v)={(a.put d.dst v) with defers:=z :: (a.put d.dst v).defers}:=(by rw [qdT];exact put_defers a _ _ _);rw [E];exact c
    case enter af args=>
     refine c.mono fun E Z y=>?_
     cases E with
     | returned e=>exact ⟨n a h e,by rw [<- Act.put_comm a v e u];exact y⟩
     | panicked ag=>exact (y:False).elim
     | outgrown=>exact y
    case row row args=>exact c.mono fun e Z ad=>⟨n a h e,by rw [<- Act.put_comm a v e u];exact ad⟩
   | halt aa w'=>
    cases aa <;> simp only [Oper.upon] at c
    case panic v=>exact (c:False).elim
  ·exact absurd c.2 qbd
 ·rename_i x
  simp only [x] at c;exact ⟨n a h _,by rw [<- Act.put_comm a v undef u];exact c⟩
theorem qa0 {C:World->Prop} {n i:Nat} {K:Oper} {v:Value} {L:Array Bool->Act->World->Prop} (ab:ops[i]?=some K) (ai:∀ (j:Nat) (o:Oper) cs b,ops[j]?=some o->o.op≠.select cs b)
  (ah:Region.sinkB md ops n=true) (ag:Region.chainB md ops n=true) (ak:n<ops.size) (aj:i<n)
  (aB:∀ h a w,L h a w->∀ j∈Region.ready md ops h,n<=j) :
  ∀ (f:Nat) (h:Array Bool) (a:Act) (w:World),HeadInv md ops n h->
   (∀ j H,ops[j]?=some H->j≠i->h.getD j true=false->(∀ e∈H.after,Region.binds md e=true->e.on≠i)->K.apart ops H=true)->
   i∈Region.ready md ops h->Pure P ops C K v a->C w->
   qa8 P md ops n C L f (h.setIfInBounds i true) (a.put K.dst v) w->qa8 P md ops n C L (f+1) h a w:=by
 intro f
 induction f with
 | zero=>
  intro h a w Z _ y aa O M;have E:=(mem_ready.1 y).1;refine ⟨O,fun k=>(by rw [k] at y;cases y),fun j G=>?_⟩;have U:j<n:=by
   rcases Nat.lt_or_ge j n with k | k
   ·exact k
   ·exact absurd G (tail_waits ah ag ak Z _ i rfl aj E j k)
  refine ⟨U,?_⟩;by_cases z:j=i
  ·subst z;exact aa.wpOp ab O M
  ·have:=aB _ _ _ M.2 j (ready_mono G z)
   omega
 | succ f aq=>
  intro h a w Z am y aa O M;have E:=(mem_ready.1 y).1;refine ⟨O,fun k=>(by rw [k] at y;cases y),fun j G=>?_⟩;have U:j<n:=by
   rcases Nat.lt_or_ge j n with k | k
   ·exact k
   ·exact absurd G (tail_waits ah ag ak Z _ i rfl aj E j k)
  refine ⟨U,?_⟩;by_cases z:j=i
  ·subst z;exact aa.wpOp ab O M
  ·have V:=(M.2.2 j (ready_mono G z)).2
   obtain ⟨af,H,ae,aw⟩:=mem_ready.1 G;have ao:∀ e∈H.after,Region.binds md e=true->e.on≠i:=fun e ap aC av=>by
    have V:=aw e ap aC;rw [av,getD_both E] at V;cases V
   have ay:=wpOp_put ae (am j H ae z af ao) (fun cs b=>ai i K cs b ab) (fun cs b=>ai j H cs b ae) aa V;have aA:∀ J ok,ops[J]?=some ok->J≠i->(h.setIfInBounds j true).getD J true=false->
     (∀ e∈ok.after,Region.binds md e=true->e.on≠i)->K.apart ops ok=true:=fun J ok aD ax E ar=>by
    refine am J ok aD ax ?_ ar;by_cases an:j=J
    ·subst an;exact af
    ·rw [getD_set_ne true an] at E;exact E
   refine qcW (fun au aE ad=>?_) ay;obtain ⟨ad,ac⟩:=ad;rw [Array.setIfInBounds_comm _ _ (fun e=>z e.symm)] at ac;have az:=ready_mono y (Ne.symm z);exact aq (h.setIfInBounds j true) au aE (Z.set G U) aA az ad (qeS ac) ac
def qlL (md:Region.Mode) (ops:Array Oper) (n g:Nat):List (Nat×Bool)->Array Bool->Bool
 | [],h=>Region.seqB md ops g n h
 | (k,true) :: r,h=>(Region.ready md ops h).contains k&&decide (k<n)&&Region.free md ops h k&&qlL md ops n g r (h.setIfInBounds k true)
 | (k,false) :: r,h=>decide (Region.ready md ops h=[k])&&decide (k<n)&&qlL md ops n g r (h.setIfInBounds k true)
def qgK (md:Region.Mode) (ops:Array Oper) (n:Nat) (h:List (Nat×Bool)):Bool:=
 Region.noSelect ops&&decide (n<ops.size)&&decide (h.length+(ops.size - n)=ops.size)&&Region.sinkB md ops n&&Region.chainB md ops n&&qlL md ops n (ops.size - n) h (Array.replicate ops.size false)
def qD8 (P:Program) (ops:Array Oper) (C:World->Prop) (T:Act->World->Prop):List (Nat×Bool)->Act->World->Prop
 | [],a,h=>T a h
 | (k,true) :: r,a,h=>match ops[k]? with
  | none=>False
  | some o=>∃ v,Pure P ops C o v a/\qD8 P ops C T r (a.put o.dst v) h
 | (k,false) :: r,a,h=>wpOp P ops QF k (fun w w'=>C w'/\qD8 P ops C T r w w') a h
theorem qa5 {C:World->Prop} {n g:Nat} {T:Act->World->Prop} (U:Region.noSelect ops=true) (O:Region.sinkB md ops n=true) (M:Region.chainB md ops n=true) (V:n<ops.size) :
  ∀ (Z:List (Nat×Bool)) (i:Array Bool) (a:Act) (w:World),HeadInv md ops n i->qlL md ops n g Z i=true->C w->qD8 P ops C T Z a w->
  qa8 P md ops n C (fun ab z w'=>Region.seqB md ops g n ab=true/\T z w') Z.length i a w
 | [],i,a,w,_,o,r,h=>⟨r,o,h⟩
 | (k,true) :: E,i,a,w,G,o,r,h=>by
  simp only [qlL,Qh,Ql] at o;obtain ⟨⟨⟨v,y⟩,ah⟩,K⟩:=o;have ad:k∈Region.ready md ops i:=by simpa using v
  simp only [qD8] at h;cases J:ops[k]? with
  | none=>rw [J] at h;exact h.elim
  | some an=>
   rw [J] at h;obtain ⟨am,ak,ae⟩:=h;exact qa0 J (Region.noSelect_spec U) O M V y (fun ab z w' ai=>seqB_ready ai.1) E.length i a w G (Region.free_spec J ah) ad ak r
    (qa5 U O M V E _ _ w (G.set ad y) K r ae)
 | (k,false) :: E,i,a,w,G,o,r,h=>by
  simp only [qlL,Qh,Ql] at o;obtain ⟨⟨v,y⟩,K⟩:=o;simp only [qD8] at h;have ag:Region.ready md ops i≠[]:=by rw [v];exact List.cons_ne_nil _ _
  refine ⟨r,ag,fun af aa=>?_⟩;rw [v] at aa;have aj:af=k:=by simpa using aa
  subst aj;refine ⟨y,qcW (fun z w' ac=>?_) h⟩;exact qa5 U O M V E _ z w' (G.set (by rw [v];exact QA.2 rfl) y) K ac.1 ac.2
theorem qD5 {aa:Nat} {Q:Exit->Act->World->Prop} {a:Act} {w:World} {l:List Oper} (C:World->Prop) (n:Nat) (j:List (Nat×Bool)) (af:P.follows .mixedOrders=true) (t:qgK .any l.toArray n j=true)
  (Z:C w.drew) (ad:qD8 P l.toArray C (fun h w'=>wpList P l.toArray Q (l.drop n) h w') j a w.drew):(Code.region aa l.toArray true).wp P Q a w:=by
 simp only [qgK,Qh,Ql] at t;obtain ⟨⟨⟨⟨⟨V,ab⟩,O⟩,K⟩,J⟩,U⟩:=t;have E:(l.drop n).length=l.toArray.size - n:=by simp
 have H:HeadInv .any l.toArray n (Array.replicate l.toArray.size false):=
  ⟨by simp,fun M ah _ y=>(by rw [getD_replicate_false] at y;cases y),fun ag _ ae=>getD_in (by simpa using ae) (getD_replicate_false _ _)⟩
 have G:=qa5 V K J ab j _ a w.drew H U Z ad;refine wp_region_any af ?_;have:=qaq (Q':=Q) (g:=l.toArray.size - n) (fun ac h w' z=>by
  have:=wpAny_of_seq (md:=.any) (Q':=Q) (l.drop n) n ac h w' (fun M=>by simp [Zl]) (by rw [E];exact z.1) z.2
  rwa [E] at this) _ _ _ _ G
 rw [O] at this;exact this
theorem qEb {C:World->Prop} {T:Act->World->Prop} {k:Nat} {r:List (Nat×Bool)} {a:Act} {w:World} {o:Oper} (h:ops[k]?=some o) (y:Region.wanted o (yielded ops a.tmps)=true) (v:Value)
  (z:∀ w,C w->(execOp a.eval o).run P w=.ok (.value v) w) (E:qD8 P ops C T r (a.put o.dst v) w):qD8 P ops C T ((k,true) :: r) a w:=by
 simp only [qD8,h];exact ⟨v,.inl ⟨y,z⟩,E⟩
theorem qD7 {C:World->Prop} {T:Act->World->Prop} {k:Nat} {r:List (Nat×Bool)} {a:Act} {w:World} {o:Oper} (h:ops[k]?=some o) (y:Region.wanted o (yielded ops a.tmps)=true) (x:Operand) (z:o.op=.move x) (v:Value)
  (E:a.eval x=v) (G:qD8 P ops C T r (a.put o.dst v) w):qD8 P ops C T ((k,true) :: r) a w:=by
 subst E;exact qEb h y _ (fun w _=>by unfold execOp;simp [z]) G
def QK (w:Act->World->Prop):Exit->Act->World->Prop
 | .normal,a,h=>w a h
 | _,_,_=>False
theorem qaA (h:Act->World->Prop):¬LetsOut (QK h):=fun ⟨_,_,y⟩=>y
theorem qfC {o:Oper} {a:Act} {e:Act->World->Prop} {v:Act->World->Prop} {r:Result Next} (c:o.upon P a e (QK v) r):o.upon P a e QF r:=by
 cases r with
 | ok x y=>
  cases x <;> simp only [Oper.upon] at c |-
  case value f=>exact c
  case skip=>exact c
  case defer G=>exact c
  case enter z args=>
   refine c.mono fun h J d=>?_
   cases h with
   | returned f=>exact d
   | panicked E=>exact (d:False).elim
   | outgrown=>exact absurd d (qaA _)
  case row row args=>exact c
 | halt n y=>
  cases n <;> simp only [Oper.upon] at c
  case panic f=>exact (c:False).elim
theorem mp {C:World->Prop} {T:Act->World->Prop} {k:Nat} {r:List (Nat×Bool)} {a:Act} {w:World} {o:Oper} (y:ops[k]?=some o) (v:Value)
  (h:qD8 P ops C T r (a.put o.dst v) w) (z:Region.wanted o (yielded ops a.tmps)=true:=by kernel_rfl)
  (E:∀ w,C w->(execOp a.eval o).run P w=.ok (.value v) w:=by intro w h;first | (clear h;go_simp;done) | (clear h;go_simp;rfl) | (go_simp;done) | (go_simp;rfl)):qD8 P ops C T ((k,true) :: r) a w:=qEb y z v E h
theorem mo {C:World->Prop} {T:Act->World->Prop} {k:Nat} {r:List (Nat×Bool)} {a:Act} {w:World} {o:Oper} (h:ops[k]?=some o) (v:Value)
  (z:∀ w,C w->(execOp a.eval o).run P w=.ok (.value v) w) (E:qD8 P ops C T r (a.put o.dst v) w) (y:Region.wanted o (yielded ops a.tmps)=true:=by kernel_rfl):qD8 P ops C T ((k,true) :: r) a w:=qEb h y v z E
theorem qEh {C:World->Prop} {T:Act->World->Prop} {k:Nat} {r:List (Nat×Bool)} {a:Act} {w:World} {o:Oper} (E:ops[k]?=some o) (h:wpList P ops (QK fun z w'=>C w'/\qD8 P ops C T r z w') [o] a w) :
  qD8 P ops C T ((k,false) :: r) a w:=by
 simp only [qD8];unfold wpOp;simp only [E];simp only [wpList] at h;split
 ·rename_i y
  simp only [y,if_true] at h;rcases h with h | h
  ·exact .inl (qfC h)
  ·exact absurd h.2 (qaA _)
 ·rename_i y
  simp only [y] at h;exact h
end
end Go.Mixed
namespace Go.Proofs.YtjafbmfcedijmaaGreatDoor
open Tryz
open Go.RowKit
attribute [local go_sem] Oper.semAt_some
def sB (l:Str):ByteArray:=⟨l.toArray⟩
theorem qaH (l:Str):(sB l).size=l.length:=by show l.toArray.size=l.length;simp
theorem qj4 (l:Str) (j:Nat) (h:j<(sB l).size) (z:j<l.length):(sB l)[j]=l[j]:=by
 have y:(sB l).data[j]'h=l[j]:=by simp [sB]
 exact y
def qpb (w:World) (s:ByteArray) (b:Nat):Prop:=∀ h (j:h<s.size),w.cell? ⟨b,h,none⟩=some (.int .u8 (s[h].toNat:Int))
theorem qdN (w:World) (s:ByteArray) (cap:Nat) (e:TypeId):qpb (w.alloc (.cells (bytesRow s cap) e ((bytesRow s cap).size,(bytesRow s cap).size+1))).drew s w.heap.size:=fun h y=>by
 have j:=World.cell?_alloc_mark w (bytesRow s cap) e ((bytesRow s cap).size,(bytesRow s cap).size+1) h;rw [bytesRow_at s cap h y] at j;exact j
def qlK (l:Str):Nat->Int×Int
 | 0=>(0,0)
 | k+1=>if l[k]?.getD 0=48 then qlK l k else if l[k]?.getD 0=49 then (bits .or .u8 (qlK l k).1 (128 / 2 ^ k),(qlK l k).2) else ((qlK l k).1,bits .or .u8 (qlK l k).2 (128 / 2 ^ k))
theorem qeQ (c:UInt8) (n:Nat) (y:n<256) (b:Bool) (e:((c.toNat:Int) == (n:Int))=b):decide (c=UInt8.ofNat n)=b:=by
 have h:(UInt8.ofNat n).toNat=n:=UInt8.toNat_ofNat_of_lt' y;cases b
 ·simp at e |-
  intro z;subst z;exact e (by rw [h])
 ·simp at e |-
  exact UInt8.toNat_inj.1 (by rw [h];omega)
def qtG (l:Str):Int×Int:=qlK l 8
theorem qj5 (l f:Str) (K:l.length=8) (w:World) :
  Calls prog 287 #[.agg #[.string (sB l),.string (sB f)]] w fun ah aj=>ah=.returned (.tuple #[.int .u8 (qtG l).1,.int .u8 (qtG l).2])/\Below w.heap.size w aj:=by
 obtain ⟨e,z⟩:=N9 (sB l);have af:e.size=8:=by rw [<- z,qaH,K]
 have aa:∀ c (s:c<e.size) (V:c<l.length),e[c]=l[c]:=fun c s V=>by subst z;exact qj4 l c s V
 have ag:=J9 aa;have ai:=J9 K;have ae:=fun (w:World)=>run_bytes_of_string (P:=prog) w 9 44 5 e underlying9 underlying44 underlying5
 have M:=J9 (qdN (w.alloc (.cells #[.string e,.string (sB f)] 286)) e (grownCap (w.alloc (.cells #[.string e,.string (sB f)] 286)) e.size 0 5) 5);have J:Hid (Below w.heap.size w ((w.alloc (.cells #[.string e,.string (sB f)] 286)).alloc (.cells (bytesRow e (grownCap (w.alloc (.cells #[.string e,.string (sB f)] 286)) e.size 0 5)) 5 ((bytesRow e (grownCap (w.alloc (.cells #[.string e,.string (sB f)] 286)) e.size 0 5)).size,(bytesRow e (grownCap (w.alloc (.cells #[.string e,.string (sB f)] 286)) e.size 0 5)).size+1))).drew):=
  (((B0 (w:=w))).alloc (by simp) _).drew
 rw [af] at M J;rw [z];clear z aa K
 go_enter func287,ntmps287
 go_wp2;clear ae
 go_loopw [10,2,3] (fun E ab Z wr=>∃ c:Nat,c<=8/\E=.int .i64 c/\ab=.int .u8 (qlK l c).1/\Z=.int .u8 (qlK l c).2/\Hid (qpb wr e (w.heap.size+1))/\Hid (Below w.heap.size w wr)) (fun E _ _ _=>8 - (intOf E).toNat)
 case atStart=>exact ⟨0,Qs _,rfl,rfl,rfl,(by have s:=M.o;rw [QL] at s;exact s),J.o⟩
 case round=>
  clear M J;obtain ⟨c,an,rfl,rfl,rfl,u,y⟩:=hrel;by_cases ak:c<8
  ·have U:c<e.size:=by omega
   have ac:wr.cell? ⟨w.heap.size+1,c,none⟩=some (.int .u8 (e[c].toNat:Int)):=u.o c U;obtain ⟨h,G⟩:=N9 (e[c]);rw [G] at ac;have ad:=J9 G;clear G;obtain ⟨ab,O⟩:=N9 ((qlK l c).1);obtain ⟨Z,S⟩:=N9 ((qlK l c).2);rw [O,S];have B:=J9 O;have R:=J9 S;clear O S;go_wp2
   all_goals (have am:=ai.o)
   all_goals (have i:l[c]?.getD 0=h:=by rw [Qi (by omega),Option.getD_some,<- ag.o c U (by omega)];exact ad.o)
   ·have k:h=48:=Qt (qeQ h 48 (by decide) true (by assumption))
    go_roundw
    case rel=>exact ⟨c+1,by omega,by go_num,by rw [qlK,Qk (i.trans k),B.o],by rw [qlK,Qk (i.trans k),R.o],u,y⟩
    case measure=>simp [intOf];omega
   ·have o:¬h=48:=Q3 (qeQ h 48 (by decide) false (by assumption))
    have k:h=49:=Qt (qeQ h 49 (by decide) true (by assumption));go_roundw
    case rel=>exact ⟨c+1,by omega,by go_num,by rw [qlK,Qd (by rw [i];exact o),Qk (i.trans k),B.o],by rw [qlK,Qd (by rw [i];exact o),Qk (i.trans k),R.o],u,y⟩
    case measure=>simp [intOf];omega
   ·have o:¬h=48:=Q3 (qeQ h 48 (by decide) false (by assumption))
    have k:¬h=49:=Q3 (qeQ h 49 (by decide) false (by assumption));go_roundw
    case rel=>exact ⟨c+1,by omega,by go_num,by rw [qlK,Qd (by rw [i];exact o),Qd (by rw [i];exact k),B.o],by rw [qlK,Qd (by rw [i];exact o),Qd (by rw [i];exact k),R.o],u,y⟩
    case measure=>simp [intOf];omega
  ·obtain rfl:c=8:=by omega
   go_wp2
   go_ret2
   exact ⟨rfl,y.o⟩
def qcO (l:Str) (h:Int):Bool:=bits .andNot .u8 h (qtG l).2 == (qtG l).1
def quM (l:Str) (h:Int) (c:UInt8):Nat->Int
 | 0=>0
 | k+1=>if l[k]?.getD 0=c then bits .or .i64 (wrap64 (quM l h c k*2)) (wrap64 (bits .and .u8 (h / 2 ^ (7 - k)) 1)) else quM l h c k
def qbm (l:Str) (h:Int) (c:UInt8):Int:=quM l h c 8
theorem qa4 (l f:Str) (K:l.length=8) (i:Int) (ay:0<=i) (aq:i<=255) (c:UInt8) (w:World) :
  Calls prog 293 #[.agg #[.string (sB l),.string (sB f),.int .u8 i],.int .u8 (c.toNat:Int)] w fun S ao=>S=.returned (.int .i64 (qbm l i c))/\Below w.heap.size w ao:=by
 obtain ⟨e,s⟩:=N9 (sB l);have aj:e.size=8:=by rw [<- s,qaH,K]
 have af:∀ d (o:d<e.size) (ad:d<l.length),e[d]=l[d]:=fun d o ad=>by subst s;exact qj4 l d o ad
 have ak:=J9 af;have ap:=J9 K;have ai:=fun (w:World)=>run_bytes_of_string (P:=prog) w 9 44 5 e underlying9 underlying44 underlying5
 obtain ⟨h,y⟩:=N9 (w.alloc (.cells #[.string e,.string (sB f),.int .u8 i] 288));have M:=J9 (qdN h e (grownCap h e.size 0 5) 5);have G:Hid (Below w.heap.size w (h.alloc (.cells (bytesRow e (grownCap h e.size 0 5)) 5 ((bytesRow e (grownCap h e.size 0 5)).size,(bytesRow e (grownCap h e.size 0 5)).size+1))).drew):=by
  subst y;exact (((B0 (w:=w))).alloc (by simp) _).drew
 have R:Hid (Below h.heap.size h (h.alloc (.cells (bytesRow e (grownCap h e.size 0 5)) 5 ((bytesRow e (grownCap h e.size 0 5)).size,(bytesRow e (grownCap h e.size 0 5)).size+1))).drew):=
  ((B0 (w:=h))).drew
 have au:h.cell? ⟨w.heap.size,0,none⟩=some (.string e):=by subst y;simp [go_sem]
 have ac:h.cell? ⟨w.heap.size,2,none⟩=some (.int .u8 i):=by subst y;simp [go_sem]
 have an:=J9 ac;have ah:h.heap.size=w.heap.size+1:=by subst y;simp
 rw [aj] at M G R;rw [s];clear s af K ac
 go_enter func293,ntmps293
 go_wp2;clear ai
 go_loopw [13,5] (fun B ag wr=>∃ d:Nat,d<=8/\B=.int .i64 d/\ag=.int .i64 (quM l i c d)/\Hid (qpb wr e h.heap.size)/\Hid (Below w.heap.size w wr)/\Hid (Below h.heap.size h wr)) (fun B _ _=>8 - (intOf B).toNat)
 case atStart=>exact ⟨0,Qs _,rfl,rfl,M.o,G.o,R.o⟩
 case round=>
  clear M G R;obtain ⟨d,az,rfl,rfl,z,E,J⟩:=hrel;by_cases av:d<8
  ·have aa:d<e.size:=by omega
   have ab:wr.cell? ⟨h.heap.size,d,none⟩=some (.int .u8 (e[d].toNat:Int)):=z.o d aa;have aA:wr.cell? ⟨w.heap.size,2,none⟩=some (.int .u8 i):=(J.o.cell (show w.heap.size<h.heap.size by omega)).trans an.o;rw [ah] at ab;obtain ⟨k,V⟩:=N9 (e[d]);rw [V] at ab;have am:=J9 V;clear V;obtain ⟨ag,U⟩:=N9 (quM l i c d);rw [U];have Z:=J9 U;clear U;have aw:(d:Int)<=7:=(by omega);go_wp2
   all_goals (have ax:=ap.o)
   all_goals (have ae:l[d]?.getD 0=k:=by rw [Qi (by omega),Option.getD_some,<- ak.o d aa (by omega)];exact am.o)
   ·have O:k=c:=UInt8.toNat_inj.1 (by
     have o:((k.toNat:Int) == (c.toNat:Int))=true:=(by assumption);have ar:(k.toNat:Int)=(c.toNat:Int):=(by simpa using o);omega)
    go_roundw
    case rel=>exact ⟨d+1,by omega,by go_num,by rw [quM,Qk (ae.trans O),Z.o],z,E,J⟩
    case measure=>simp [intOf];omega
   ·have O:¬k=c:=fun S=>by
     subst S;have o:((k.toNat:Int) == (k.toNat:Int))=false:=(by assumption);simp at o
    go_roundw
    case rel=>exact ⟨d+1,by omega,by go_num,by rw [quM,Qd (by rw [ae];exact O),Z.o],z,E,J⟩
    case measure=>simp [intOf];omega
  ·obtain rfl:d=8:=by omega
   go_wp2;go_ret;exact ⟨rfl,E.o⟩
end Go.Proofs.YtjafbmfcedijmaaGreatDoor
namespace Go.Mixed
open Go
theorem qmE {n:Nat} {P:Program} {row:String} {args:Array Value} {w:World} {c:Value->World->Prop} (y:Rows P row args w c):RowsIn Fence.wide n P row args w c:=fun r s _=>
 let ⟨E,z,v,h⟩:=y r s;⟨E,z,v,stepsIn_wide.2 h⟩
theorem qf1 {P:Program} {r n:Nat} {ops:Array Oper} {Q:Exit->Act->World->Prop} (E:∀ (i:Nat) (o:Oper),ops[i]?=some o->∀ c,o.op≠.defer c) (z:¬LetsOut Q) :
  ∀ (l:List Nat) (a:Act) (w:World),wpOps P ops Q l a w->wpOpsIn (Fence.wide.inRound r) n P ops Q l a w
 | [],a,w,d=>d
 | i :: rest,a,w,d=>by
  have e:=qf1 (P:=P) (r:=r) (n:=n) E z rest;simp only [wpOps] at d;simp only [wpOpsIn];cases x:ops[i]? with
  | none=>simp only [x] at d;exact e _ _ d
  | some o=>
   simp only [x] at d |-;by_cases y:Region.wanted o (yielded ops a.tmps)=true
   ·simp only [y,if_true] at d |-
    rcases d with d | d
    ·refine ⟨fun _ _=>trivial,?_⟩
     rw [Oper.semAt_eq _ _ _ (E i o x)];unfold Oper.wp at d;generalize (execOp a.eval o).run P w=rs at *;cases rs with
     | ok v U=>
      cases v <;> simp only [Oper.upon] at d
      case value h=>exact e _ _ d
      case skip=>exact e _ _ d
      case defer Z=>exact e _ _ d
      case enter V args=>
       refine ⟨fun d=>(by cases d),CallsIn.inRound r (callsIn_wide.2 (d.mono fun M G f=>?_))⟩;cases M with
       | returned h=>exact e _ _ f
       | panicked c=>exact f
       | outgrown=>exact f
      case row row args=>
       refine ⟨fun d=>(by cases d),?_⟩;have J:=qmE (n:=n - 1) (d.mono fun h G O=>e _ _ O);exact J
     | halt v U=>
      cases v <;> simp only [Oper.upon] at d
      case panic h=>exact d
    ·exact absurd d.2 z
   ·have K:Region.wanted o (yielded ops a.tmps)=false:=by simpa using y
    simp only [K,Bool.false_eq_true,if_false] at d |-;exact ⟨fun _ _=>trivial,e _ _ d⟩
def qq1 (l:List Oper):Bool:=l.all fun h=>match h.op with | .defer _=>false | _=>true
theorem qkH {l:List Oper} (y:qq1 l=true):∀ (i:Nat) (o:Oper),l.toArray[i]?=some o->∀ c,o.op≠.defer c:=fun i o h c e=>by
 have z:o∈l:=by
  have:=Array.mem_of_getElem? h;simpa using this
 have:=QR.1 y o z;rw [e] at this;cases this
theorem qEF {ae r m:Nat} {P:Program} {Q:Exit->Act->World->Prop} {a:Act} {w:World} {l:List Oper} (C:World->Prop) (n:Nat) (j:List (Nat×Bool)) (aj:P.follows .mixedOrders=true) (U:¬LetsOut Q) (M:qq1 l=true) (z:qgK .any l.toArray n j=true)
  (ad:C w.drew) (ah:qD8 P l.toArray C (fun h w'=>wpList P l.toArray Q (l.drop n) h w') j a w.drew):(Code.region ae l.toArray true).wpIn (Fence.wide.inRound r) m P Q a w:=by
 simp only [qgK,Qh,Ql] at z;obtain ⟨⟨⟨⟨⟨ac,af⟩,aa⟩,V⟩,O⟩,ab⟩:=z;have H:(l.drop n).length=l.toArray.size - n:=by simp
 have K:HeadInv .any l.toArray n (Array.replicate l.toArray.size false):=
  ⟨by simp,fun Z ak _ E=>(by rw [getD_replicate_false] at E;cases E),fun t _ ai=>getD_in (by simpa using ai) (getD_replicate_false _ _)⟩
 have J:=qa5 ac V O af j _ a w.drew K ab ad ah;have y:=qaq (Q':=Q) (g:=l.toArray.size - n) (fun ag h w' G=>by
  have:=wpAny_of_seq (md:=.any) (Q':=Q) (l.drop n) n ag h w' (fun Z=>by simp [Zl]) (by rw [H];exact G.1) G.2
  rwa [H] at this) _ _ _ _ J
 rw [aa] at y;refine wpIn_region_draw fun t=>qf1 (qkH M) U _ _ _ ?_
 simp only [Region.schedule,aj,Bool.true_or,if_true];exact wpAny_sound _ t _ a _ y
end Go.Mixed
namespace Go.Each
open Go Go.RowKit
def qDZ {h:Type} (F:Fence) (n:Nat) (P:Program) (g:Nat) (lb:Array Value) (O:h->Array Value) (K:h->World->Prop) (M:World->World->Prop) (S:List h->Prop) (N:Nat) (w:World):Prop:=
 ∀ (G:Nat) (e:List h->World->Prop) (v:World),Below w.heap.size w v->AbidesFrom v.heap.size e->
  (∀ y x W1,e y W1->K x W1->y.length<N->YieldAt F (n - 1) P G (O x) W1 fun z l=>z=.returned (.bool true)/\e (y++[x]) l/\M W1 l)->
  e [] v->CallsIn F n P g (#[.func (.yield G) #[] #[]]++lb) v fun z l=>(∃ J,z=.returned J)/\∃ E,S E/\e E l
def qxe (y:World->Prop):Exit->Act->World->Prop
 | .normal,_,h=>y h
 | .ret,_,_=>False
 | .exit _,_,_=>False
 | .goto _,_,_=>False
 | .panic _,_,_=>False
 | .outgrown,_,_=>False
variable {F:Fence} {n:Nat} {P:Program}
end Go.Each
namespace Go.Stops
open Go Go.RowKit
def Apart {E:Type} (G:Nat) (s:E->World->Prop):Prop:=∀ h y z,s h y->y.grownBy z (some G)->s h z
def qFi {v:Type} (F:Fence) (n:Nat) (P:Program) (g:Nat) (lb:Array Value) (V:v->Array Value) (O:List v->v->Prop) (K:Nat) (U:World->World->Prop) (S:List v->Prop) (w:World):Prop:=
 ∀ (J:Nat) (e E:List v->World->Prop) (x:World),Below w.heap.size w x->AbidesFrom x.heap.size e->Apart K e->
  (∀ h y W1,e h W1->O h y->YieldAt F (n - 1) P J (V y) W1 fun z l=>(z=.returned (.bool true)/\e (h++[y]) l/\U W1 l)\/(z=.returned (.bool false)/\E (h++[y]) l))->
  AbidesFrom x.heap.size E->e [] x->CallsIn F n P g (#[.func (.yield J) #[] #[]]++lb) x fun z l=>(∃ M,z=.returned M)/\((∃ G,S G/\e G l)\/∃ h,E h l)
def qoj {y:Type} (B:Nat) (z:World->World->Prop) (I E:List y->World->Prop) (xs:List y) (W:World):Exit->Act->World->Prop
 | .normal,_,h=>KeepsFrom B W h/\z W h/\I xs h
 | .ret,_,h=>KeepsFrom B W h/\E xs h
 | .exit _,_,_=>False
 | .goto _,_,_=>False
 | .panic _,_,_=>False
 | .outgrown,_,_=>False
variable {F:Fence} {n:Nat} {P:Program}
end Go.Stops
namespace Go.Proofs.YtjafbmfcedijmaaGreatDoor
open Tryz
open Go.RowKit Go.Shelf
attribute [local go_sem] Oper.semAt_some
def qac (w:World):Prop:=∃ h,w.cell? ⟨0,0,none⟩=some (.int .i64 h)
theorem qac.lt {w:World} (h:qac w):0 < w.heap.size:=by
 obtain ⟨m,h⟩:=h;exact Qp w _ h
theorem qac.below {w w':World} (h:qac w) (z:Below w.heap.size w w'):qac w':=by
 have y:=h.lt;obtain ⟨m,h⟩:=h;exact ⟨m,(z.cell y).trans h⟩
theorem qac.qEr {w w':World} {n:Nat} (h:qac w) (z:Below n w w') (m:0 < n):qac w':=by
 obtain ⟨y,h⟩:=h;exact ⟨y,(z.cell m).trans h⟩
theorem qft (l e:Str) (J:l.length<=100000) (w:World) (E:qac w) :
  Calls prog 286 #[.string (sB l),.string (sB e)] w fun m z=>m=.returned (.tuple #[.string (sB (qbu e l).1),.string (sB (qbu e l).2.1),.bool (qbu e l).2.2])/\∃ n,z=w.drewN n:=by
 obtain ⟨y,G⟩:=E;have h:=Tryz.strings_Cut (sB l) (sB e) y w (by rw [qaH];omega) G;rw [quP] at h;exact h
theorem qnr (l:Str):((sB l).toList == ([]:List UInt8))=l.isEmpty:=by
 rw [Qe];cases l <;> rfl
def patsOf (l:Str):List Pat:=qjj l.length l
theorem qqG (n:Nat):qjj n []=[]:=by cases n <;> rfl
theorem qf3 (l:Str) (w:World) :
  Calls prog 264 #[.string (sB l)] w fun e h=>e=.returned (.func (.func 285) #[] #[.pointer (some ⟨w.heap.size,0,none⟩)])/\w.alloc (.cells #[.string (sB l)] 9)=h:=by
 go_enter func264,ntmps264
 go_wp2;go_ret;exact ⟨rfl,rfl⟩
def qpl:Value->Nat
 | .string h=>h.size
 | _=>0
def qgT (W h:World):Prop:=h.cell? ⟨0,0,none⟩=W.cell? ⟨0,0,none⟩
theorem qgT.trans {A B C:World} (h:qgT A B) (k:qgT B C):qgT A C:=Eq.trans k h
theorem qgT.max {A B:World} (m:qgT A B) (k:qac A):qac B:=by
 obtain ⟨h,k⟩:=k;exact ⟨h,Eq.trans m k⟩
theorem qdu (n:Nat) (m:Nat) (l:Str) (az:l.length<=100000) (w:World) (W:Boxed w m 9 (.string (sB l))) (au:qac w) :
  Stops.qFi Fence.wide n prog 285 #[.pointer (some ⟨m,0,none⟩)] (fun x:Pat=>#[.agg #[.string (sB x.1),.string (sB x.2)]]) (fun j x=>j++[x] <+: patsOf l) m qgT (fun ys=>ys=patsOf l) w:=fun aJ af aY P U ax aH an aQ aC=>by
 have am:∀ (ag:Nat) (y:List Pat) (z:World),af y z->af y (z.drewN ag):=fun ag y z h=>ax y z _ none h ⟨rfl,rfl,rfl,Qa _,fun _ _ _=>rfl⟩ (fun G X=>by cases X)
 have ah:Boxed P m 9 (.string (sB l)):=(U.block m W.lt).trans W;have aT:=ah.cell;have av:Hid (qac P):=au.below U;have aB:=J9 aC;have aG:=J9 an;have ay:=J9 am;have aS:=J9 az;clear az aC an aH am ax aQ U W au ah;refine callsIn_wide.2 ?_;show Calls prog 285 #[.func (.yield aJ) #[] #[],.pointer (some ⟨m,0,none⟩)] P _
 go_enter func285,ntmps285
 go_wp2
 go_loopw [3] (fun G wr=>∃ (j:List Pat) (e:Str) (k:Nat),G=.string (sB e)/\e.length<=k/\e.length<=l.length/\Hid (j++qjj k e=patsOf l)/\Hid (qac wr)/\Hid (af j wr)) (fun G _=>qpl G)
 case atStart=>exact ⟨[],l,l.length,rfl,Qa _,Qa _,rfl,av.o,aB.o⟩
 case round=>
  clear av aB aT;obtain ⟨j,e,k,rfl,a0,aW,ab,Z,ad⟩:=hrel;by_cases r:e=[]
  ·subst r
   have ar:=qnr [];have aP:Hid (j=patsOf l):=by
    have h:=ab.o;rw [qqG,Zs] at h;exact h
   go_wp2
   go_end0
   have h:=ad.o;exact ⟨⟨_,rfl⟩,.inl ⟨_,aP.o,h⟩⟩
  ·have ar:=qnr e
   rw [List.isEmpty_eq_false_iff.2 r] at ar;have aI:e.length<=100000:=(by have:=aS.o;omega);have aR:0<e.length:=Q9.2 r;obtain ⟨k,rfl⟩:∃ aN,k=aN+1:=⟨k - 1,by omega⟩;have aj:=qmZ [59,32] e (by decide) aR;have hcut:=qft e [59,32] aI wr Z.o;have q:=qft (qbu [59,32] e).1 [32] (by omega);obtain ⟨row,K⟩:=N9 ((qbu [59,32] e).1);obtain ⟨rest,J⟩:=N9 ((qbu [59,32] e).2.1);have ao:Hid ((j++[rowP row])++qjj k rest=patsOf l):=by
    have h:=ab.o;rw [qjj,Qd (by simpa using r),K,J] at h;rw [Ze];exact h
   have V:Hid (rest.length<e.length):=(by rw [<- J];exact aj.1);have aL:Hid (qpl (.string (sB e))=e.length):=qaH e;have aV:Hid (qpl (.string (sB rest))=rest.length):=qaH rest;rw [K,J] at hcut;rw [K] at q;have ae:j++[rowP row] <+: patsOf l:=(by rw [<- ao.o];exact List.prefix_append _ _);have ae:=J9 ae;clear ab aj K J r
   go_wp2_with fail
   refine hcut.mono ?_;rintro X aK ⟨rfl,E,rfl⟩;have ac:Hid (qac (wr.drewN E)):=Z.o.below (below_drewN _ _ _);have ap:=J9 (ay.o E _ _ ad.o);have q:=q _ ac.o;clear hcut
   go_wp2_with fail
   refine q.mono ?_;rintro X aK ⟨rfl,O,rfl⟩;have aA:Hid (qac ((wr.drewN E).drewN O)):=ac.o.below (below_drewN _ _ _);have ai:=J9 (ay.o O _ _ ap.o);clear q ac ap ad Z;obtain ⟨aU,aq⟩:=N9 ((wr.drewN E).drewN O);rw [aq] at aA ai |-;clear aq;have aF:=aG.o j (rowP row) aU ai.o ae.o;obtain ⟨aZ,tmps,assign,body,aa,M⟩:=aF;simp only [rowP] at aa
   go_upto_region 5 with fail
   refine (wpIn_wide (n:=n)).1 ?_
   gi_wp2
   refine ⟨fun h=>(by cases h),M.mono ?_⟩;rintro aX aE (⟨rfl,ak,aw⟩ | ⟨rfl,aO⟩)
   ·have aD:Hid (qac aE):=aw.max aA.o
    have aM:=J9 ak;clear ak aw M aa
    gi_wp2
    go_wp2;go_roundw
    case rel=>exact ⟨j++[rowP row],rest,k,rfl,by have:=V.o;omega,by have:=V.o;omega,ao.o,aD.o,aM.o⟩
    case measure=>rw [aL.o,aV.o];exact V.o
   ·clear M aa
    gi_wp2
    go_wp2;refine bodyPost_ret (results_none rfl _ _ _) rfl ?_;exact ⟨⟨_,rfl⟩,.inr ⟨_,aO⟩⟩
end Go.Proofs.YtjafbmfcedijmaaGreatDoor
namespace Go.Proofs.YtjafbmfcedijmaaGreatDoor
open Tryz
open Go.RowKit Go.Shelf
attribute [local go_sem] Oper.semAt_some
def qai (p:Pat) (h:Int):Value:=.agg #[.string (sB p.1),.string (sB p.2),.int .u8 h]
def qdj (l:Str) (h:Int):Option Pat:=(patsOf l).find? fun p=>qcO p.1 h
theorem qk3 {h:World} (z:qac h) (W:World) (l:Nat) (y:Obj) (G:h.heap.size<=l):qgT W (W.putObj l y):=by
 have E:=z.lt;exact QN (World.putObj_heap_other (by show 0≠l;omega))
theorem set3 {w:World} {b:Nat} {T:TypeId} {K E J:Value} (M:w.heap[b]?=some (.cells #[K,E,J] T (0,0))) (h y z:Value):(((w.setCell ⟨b,0,none⟩ h).setCell ⟨b,1,none⟩ y).setCell ⟨b,2,none⟩ z).heap[b]?=some (.cells #[h,y,z] T (0,0)):=by
 have U:=heap_setCell_same w b 0 _ _ h M;have O:=heap_setCell_same (w.setCell ⟨b,0,none⟩ h) b 1 _ _ y U;have G:=heap_setCell_same ((w.setCell ⟨b,0,none⟩ h).setCell ⟨b,1,none⟩ y) b 2 _ _ z O;exact G
theorem qex {B:Nat} {W h:World} (z:Below B W h) (y:0 < B):qgT W h:=z.cell y
theorem qaC {W h:World} (o:Below W.heap.size W h) (B:Nat):KeepsFrom B W h:=⟨o.size,fun y z _ k _=>(o.block y (Qb.1 k).1).trans k⟩
end Go.Proofs.YtjafbmfcedijmaaGreatDoor
namespace Go.Proofs.YtjafbmfcedijmaaGreatDoor
open Tryz
open Go.RowKit Go.Shelf
theorem qh1 (e:Int) (w:World) :
  Calls prog 225 #[.int .i64 e] w fun h O=>h=.returned (.string (sB (listS e)))/\O=w:=by
 by_cases G:e=0
 ·subst G
  go_enter func225,ntmps225
  go_wp2;go_ret;exact ⟨rfl,rfl⟩
 by_cases y:e=1
 ·subst y
  go_enter func225,ntmps225
  go_wp2;go_ret;exact ⟨rfl,rfl⟩
 by_cases K:e=2
 ·subst K
  go_enter func225,ntmps225
  go_wp2;go_ret;exact ⟨rfl,rfl⟩
 by_cases z:e=3
 ·subst z
  go_enter func225,ntmps225
  go_wp2;go_ret;exact ⟨rfl,rfl⟩
 by_cases E:e=4
 ·subst E
  go_enter func225,ntmps225
  go_wp2;go_ret;exact ⟨rfl,rfl⟩
 by_cases M:e=5
 ·subst M
  go_enter func225,ntmps225
  go_wp2;go_ret;exact ⟨rfl,rfl⟩
 by_cases J:e=6
 ·subst J
  go_enter func225,ntmps225
  go_wp2;go_ret;exact ⟨rfl,rfl⟩
 ·have h:listS e=[]:=by unfold listS;simp [G,y,K,z,E,M,J]
  rw [h]
  go_enter func225,ntmps225
  go_wp2;go_ret;exact ⟨rfl,rfl⟩
theorem qmw:patsOf quJ=mainP:=by decide +kernel
theorem qrT:patsOf cbS=cbP:=by decide +kernel
theorem qqJ:patsOf edS=edP:=by decide +kernel
def qdY (h:Int):List Pat:=if h=0\/h=3\/h=4 then mainP else if h=1\/h=5\/h=6 then cbP else if h=2 then edP else []
theorem qcf (h:Int):patsOf (listS h)=qdY h:=by
 unfold listS qdY;split
 ·exact qmw
 ·split
  ·exact qrT
  ·split
   ·exact qqJ
   ·rfl
theorem qk8 (h:Int):(listS h).length<=100000:=by
 have z:quJ.length<=100000:=by decide +kernel
 have G:cbS.length<=100000:=by decide +kernel
 have E:edS.length<=100000:=by decide +kernel
 have y:([]:Str).length<=100000:=by decide +kernel
 unfold listS;split
 ·exact z
 ·split
  ·exact G
  ·split
   ·exact E
   ·exact y
theorem qgx {y:Int} {p:Pat} (h:p∈qdY y):p∈mainP++cbP++edP:=by
 unfold qdY at h;split at h
 ·simp [h]
 ·split at h
  ·simp [h]
  ·split at h
   ·simp [h]
   ·cases h
def trV (x:Tr):Value:=.agg #[.int .i64 x.1,.int .i64 x.2.1,.int .i64 x.2.2]
def qcg (w:World) (x:Tr) (e:Ending) (w':World):Prop:=e=.returned (trV x)/\Below w.heap.size w w'
def qaL (w:World) (n:Nat):Prop:=w.heap[n]?=some (.cells #[.int .i64 0,.int .i64 0,.int .i64 0] 57 (0,0))
theorem qaL.below {w w':World} {n:Nat} (h:qaL w n) (y:Below w.heap.size w w'):qaL w' n:=(y.block n (Qb.1 h).1).trans h
theorem qaL.qEr {w w':World} {n m:Nat} (y:qaL w n) (z:Below m w w') (h:n<m):qaL w' n:=(z.block n h).trans y
theorem qaL.cells {w:World} {n:Nat} (h:qaL w n):w.cell? ⟨n,0,none⟩=some (.int .i64 0)/\w.cell? ⟨n,1,none⟩=some (.int .i64 0)/\w.cell? ⟨n,2,none⟩=some (.int .i64 0)/\∀ j,w.frozen? ⟨n,j,none⟩=false:=
 ⟨C9 h 0,C9 h 1,C9 h 2,Qr h⟩
theorem qaU {w:World} {n:Nat} (y:qaL w n) (a b c:Int):∃ h,((w.setCell ⟨n,0,none⟩ (.int .i64 a)).setCell ⟨n,1,none⟩ (.int .i64 b)).setCell ⟨n,2,none⟩ (.int .i64 c)=h/\
  h.heap[n]?=some (.cells #[.int .i64 a,.int .i64 b,.int .i64 c] 57 (0,0))/\Below n w h/\h.heap.size=w.heap.size:=
 ⟨_,rfl,set3 y _ _ _,((((Qc n w).setCell (p:=⟨n,0,none⟩) (Qa _) _).setCell (p:=⟨n,1,none⟩) (Qa _) _).setCell (p:=⟨n,2,none⟩) (Qa _) _),by simp⟩
theorem qaN (w:World) (p:Pat) (y:Int):∃ h,(w.alloc (.cells #[.string (sB p.1),.string (sB p.2),.int .u8 y] 288)).alloc (.cells #[.int .i64 0,.int .i64 0,.int .i64 0] 57)=h/\
  qaL h (w.heap.size+1)/\Below w.heap.size w h/\h.heap.size=w.heap.size+2/\h.heap[w.heap.size]?=some (.cells #[.string (sB p.1),.string (sB p.2),.int .u8 y] 288 (0,0)):=by
 refine ⟨_,rfl,?_,((B0 (w:=w))).alloc (by simp) _,by simp,(Below.heap_alloc _ _ _ (by simp)).trans (World.alloc_heap_new w _)⟩;have z:=World.alloc_heap_new (w.alloc (.cells #[.string (sB p.1),.string (sB p.2),.int .u8 y] 288)) (.cells #[.int .i64 0,.int .i64 0,.int .i64 0] 57);rw [QL] at z;exact z
theorem register_any (r:Int) (w:World):Calls prog 294 #[.int .i64 r] w (qcg w (1,r,0)):=by
 go_enter func294,ntmps294
 go_wp2;refine bodyPost_ret (v:=trV (1,r,0)) ?_ rfl ?_
 ·simp [results,results294,go_sem,trV]
 ·exact ⟨rfl,B0⟩
theorem qov (r:Int) (w:World):Calls prog 315 #[.int .i64 r] w (qcg w (2,r,0)):=by
 go_enter func315,ntmps315
 go_wp2;refine bodyPost_ret (v:=trV (2,r,0)) ?_ rfl ?_
 ·simp [results,results315,go_sem,trV]
 ·exact ⟨rfl,B0⟩
theorem pair_any (r:Int) (w:World):Calls prog 304 #[.int .i64 r] w (qcg w (3,r,0)):=by
 go_enter func304,ntmps304
 go_wp2;refine bodyPost_ret (v:=trV (3,r,0)) ?_ rfl ?_
 ·simp [results,results304,go_sem,trV]
 ·exact ⟨rfl,B0⟩
theorem tpointer_any (r:Int) (w:World):Calls prog 302 #[.int .i64 r] w (qcg w (4,r,0)):=by
 go_enter func302,ntmps302
 go_wp2;refine bodyPost_ret (v:=trV (4,r,0)) ?_ rfl ?_
 ·simp [results,results302,go_sem,trV]
 ·exact ⟨rfl,B0⟩
theorem value_any (r:Int) (w:World):Calls prog 307 #[.int .i64 r] w (qcg w (6,0,r)):=by
 go_enter func307,ntmps307
 go_wp2;refine bodyPost_ret (v:=trV (6,0,r)) ?_ rfl ?_
 ·simp [results,results307,go_sem,trV]
 ·exact ⟨rfl,B0⟩
theorem qtD (p:Pat) (ag:p.1.length=8) (e:Int) (aq:0<=e) (ad:e<=255) (c:UInt8) (w:World) :
  Calls prog 317 #[qai p e,.int .u8 (c.toNat:Int)] w (qcg w (3,qbm p.1 e c,0)):=by
 unfold qai;obtain ⟨ap,ae,h,B0,ab,n⟩:=qaN w p e;obtain ⟨z,J⟩:=N9 (w.heap.size);rw [J] at h B0 ab n;have ac:=C9 n 0;have af:=C9 n 1;have ak:=C9 n 2;have Z:=qa4 p.1 p.2 ag e aq ad c ap;have h:=J9 h;have B0:=J9 B0;have am:=J9 J;clear n
 go_enter func317,ntmps317
 go_wp2_with fail
 refine Z.mono ?_;rintro ao K ⟨rfl,y⟩;have aa:Hid (qaL K (z+1)):=h.o.below y;have O:=J9 (B0.o.trans (y.mono (by omega)));have U:Hid (z+2<=K.heap.size):=by have:=y.size;show _<=_;omega
 clear y Z ae h B0 ab J ac af ak
 go_wp2_with fail
 refine (pair_any _ K).mono ?_;rintro ao V ⟨rfl,G⟩;have M:Hid (qaL V (z+1)):=aa.o.below G;have aj:Hid (Below z w V):=O.o.trans (G.mono (by have:=U.o;omega));clear G aa O U;simp only [trV];obtain ⟨aw,az,av,ay⟩:=M.o.cells;go_wp2;obtain ⟨ax,au,E,an,-⟩:=qaU M.o 3 (qbm p.1 e c) 0;rw [au];have ai:=C9 E 0;have ah:=C9 E 1;have ar:=C9 E 2;refine bodyPost_ret (v:=trV (3,(qbm p.1 e c),0)) ?_ rfl ?_
 ·simp [results,results317,go_sem,ai,ah,ar,trV]
 ·exact ⟨rfl,by rw [am.o];exact aj.o.trans (an.mono (by omega))⟩
theorem quW (p:Pat) (ag:p.1.length=8) (e:Int) (aq:0<=e) (ad:e<=255) (c:UInt8) (w:World) :
  Calls prog 320 #[qai p e,.int .u8 (c.toNat:Int)] w (qcg w (6,0,qbm p.1 e c)):=by
 unfold qai;obtain ⟨ap,ae,h,B0,ab,n⟩:=qaN w p e;obtain ⟨z,J⟩:=N9 (w.heap.size);rw [J] at h B0 ab n;have ac:=C9 n 0;have af:=C9 n 1;have ak:=C9 n 2;have Z:=qa4 p.1 p.2 ag e aq ad c ap;have h:=J9 h;have B0:=J9 B0;have am:=J9 J;clear n
 go_enter func320,ntmps320
 go_wp2_with fail
 refine Z.mono ?_;rintro ao K ⟨rfl,y⟩;have aa:Hid (qaL K (z+1)):=h.o.below y;have O:=J9 (B0.o.trans (y.mono (by omega)));have U:Hid (z+2<=K.heap.size):=by have:=y.size;show _<=_;omega
 clear y Z ae h B0 ab J ac af ak
 go_wp2_with fail
 refine (value_any _ K).mono ?_;rintro ao V ⟨rfl,G⟩;have M:Hid (qaL V (z+1)):=aa.o.below G;have aj:Hid (Below z w V):=O.o.trans (G.mono (by have:=U.o;omega));clear G aa O U;simp only [trV];obtain ⟨aw,az,av,ay⟩:=M.o.cells;go_wp2;obtain ⟨ax,au,E,an,-⟩:=qaU M.o 6 0 (qbm p.1 e c);rw [au];have ai:=C9 E 0;have ah:=C9 E 1;have ar:=C9 E 2;refine bodyPost_ret (v:=trV (6,0,(qbm p.1 e c))) ?_ rfl ?_
 ·simp [results,results320,go_sem,ai,ah,ar,trV]
 ·exact ⟨rfl,by rw [am.o];exact aj.o.trans (an.mono (by omega))⟩
theorem qll (p:Pat) (ac:p.1.length=8) (e:Int) (aj:0<=e) (V:e<=255) (c:UInt8) (w:World) :
  Calls prog 319 #[qai p e,.int .u8 (c.toNat:Int)] w (qcg w (8,qbm p.1 e c,0)):=by
 unfold qai;obtain ⟨ai,Z,h,B0,O,n⟩:=qaN w p e;obtain ⟨G,E⟩:=N9 (w.heap.size);rw [E] at h B0 O n;have U:=C9 n 0;have aa:=C9 n 1;have af:=C9 n 2;have K:=qa4 p.1 p.2 ac e aj V c ai;have h:=J9 h;have B0:=J9 B0;have ag:=J9 E;clear n
 go_enter func319,ntmps319
 go_wp2_with fail
 refine K.mono ?_;rintro au J ⟨rfl,y⟩;have M:Hid (qaL J (G+1)):=h.o.below y;have ab:=J9 (B0.o.trans (y.mono (by omega)));have ar:Hid (G+2<=J.heap.size):=by have:=y.size;show _<=_;omega
 clear y K Z h B0 O E U aa af;obtain ⟨ao,av,an,aq⟩:=M.o.cells;go_wp2;obtain ⟨ap,am,z,ah,-⟩:=qaU M.o 8 (qbm p.1 e c) 0;rw [am];have ae:=C9 z 0;have ad:=C9 z 1;have ak:=C9 z 2;refine bodyPost_ret (v:=trV (8,(qbm p.1 e c),0)) ?_ rfl ?_
 ·simp [results,results319,go_sem,ae,ad,ak,trV]
 ·exact ⟨rfl,by rw [ag.o];exact ab.o.trans (ah.mono (by omega))⟩
theorem qlc (p:Pat) (ag:p.1.length=8) (e:Int) (aq:0<=e) (ad:e<=255) (c:UInt8) (aB:0<=qbm p.1 e c) (aA:qbm p.1 e c<=255) (w:World) :
  Calls prog 321 #[qai p e,.int .u8 (c.toNat:Int)] w (qcg w (6,0,8*qbm p.1 e c)):=by
 unfold qai;obtain ⟨ap,ae,h,B0,aa,n⟩:=qaN w p e;obtain ⟨z,J⟩:=N9 (w.heap.size);rw [J] at h B0 aa n;have ac:=C9 n 0;have af:=C9 n 1;have ak:=C9 n 2;have Z:=qa4 p.1 p.2 ag e aq ad c ap;have h:=J9 h;have B0:=J9 B0;have am:=J9 J;clear n
 go_enter func321,ntmps321
 go_wp2_with fail
 refine Z.mono ?_;rintro ao K ⟨rfl,y⟩;have ab:Hid (qaL K (z+1)):=h.o.below y;have O:=J9 (B0.o.trans (y.mono (by omega)));have U:Hid (z+2<=K.heap.size):=by have:=y.size;show _<=_;omega
 clear y Z ae h B0 aa J ac af ak
 go_wp2_with fail
 refine (value_any _ K).mono ?_;rintro ao V ⟨rfl,G⟩;have M:Hid (qaL V (z+1)):=ab.o.below G;have aj:Hid (Below z w V):=O.o.trans (G.mono (by have:=U.o;omega));clear G ab O U;simp only [trV];obtain ⟨aw,az,av,ay⟩:=M.o.cells;go_wp2;obtain ⟨ax,au,E,an,-⟩:=qaU M.o 6 0 (8*(qbm p.1 e c));rw [au];have ai:=C9 E 0;have ah:=C9 E 1;have ar:=C9 E 2;refine bodyPost_ret (v:=trV (6,0,(8*(qbm p.1 e c)))) ?_ rfl ?_
 ·simp [results,results321,go_sem,ai,ah,ar,trV]
 ·exact ⟨rfl,by rw [am.o];exact aj.o.trans (an.mono (by omega))⟩
def qvX (n:Int):Tr:=if n=6 then (4,2,0) else (1,n,0)
def qjk (n:Int):Tr:=if n=3 then (3,4,0) else (3,n,0)
theorem qfc (p:Pat) (ax:p.1.length=8) (e:Int) (aD:0<=e) (ar:e<=255) (c:UInt8) (w:World) :
  Calls prog 316 #[qai p e,.int .u8 (c.toNat:Int)] w (qcg w (qvX (qbm p.1 e c))):=by
 unfold qai;obtain ⟨aC,au,z,B0,ao,E⟩:=qaN w p e;obtain ⟨n,af⟩:=N9 (w.heap.size);rw [af] at z B0 ao E;have aq:=C9 E 0;have aw:=C9 E 1;have aA:=C9 E 2;have am:=qa4 p.1 p.2 ax e aD ar c aC;have z:=J9 z;have B0:=J9 B0;have aj:=J9 af;clear E
 go_enter func316,ntmps316
 go_wp2_with fail
 refine am.mono ?_;rintro ak O ⟨rfl,J⟩;have V:Hid (qaL O (n+1)):=z.o.below J;have K:=J9 (B0.o.trans (J.mono (by omega)));have M:Hid (n+2<=O.heap.size):=by have:=J.size;show _<=_;omega
 clear J am au z B0 ao af aq aw aA;by_cases U:qbm p.1 e c=6
 ·have aa:Hid (qvX (qbm p.1 e c)=(4,2,0)):=by show qvX _=_;unfold qvX;rw [Qk U]
  rw [U]
  go_wp2_with fail
  refine (tpointer_any _ O).mono ?_;rintro ak G ⟨rfl,m⟩;have y:Hid (qaL G (n+1)):=V.o.below m;have ad:Hid (Below n w G):=K.o.trans (m.mono (by have:=M.o;omega));clear m V K M;simp only [trV];obtain ⟨ay,aE,ap,aB⟩:=y.o.cells;go_wp2;obtain ⟨az,ah,h,ae,-⟩:=qaU y.o 4 2 0;rw [ah];have ac:=C9 h 0;have ab:=C9 h 1;have ag:=C9 h 2;refine bodyPost_ret (v:=trV (4,2,0)) ?_ rfl ?_
  ·simp [results,results316,go_sem,ac,ab,ag,trV]
  ·exact ⟨by rw [aa.o],by rw [aj.o];exact ad.o.trans (ae.mono (by omega))⟩
 ·have aa:Hid (qvX (qbm p.1 e c)=(1,(qbm p.1 e c),0)):=by show qvX _=_;unfold qvX;rw [Qd U]
  obtain ⟨Z,ai⟩:=N9 (qbm p.1 e c);have av:Hid (qvX (qbm p.1 e c)=(1,Z,0)):=by have an:=aa.o;rw [ai] at an |-;exact an
  rw [ai] at U |-;clear ai
  go_wp2_with fail
  refine (register_any _ O).mono ?_;rintro ak G ⟨rfl,m⟩;have y:Hid (qaL G (n+1)):=V.o.below m;have ad:Hid (Below n w G):=K.o.trans (m.mono (by have:=M.o;omega));clear m V K M;simp only [trV];obtain ⟨ay,aE,ap,aB⟩:=y.o.cells;go_wp2;obtain ⟨az,ah,h,ae,-⟩:=qaU y.o 1 Z 0;rw [ah];have ac:=C9 h 0;have ab:=C9 h 1;have ag:=C9 h 2;refine bodyPost_ret (v:=trV (1,Z,0)) ?_ rfl ?_
  ·simp [results,results316,go_sem,ac,ab,ag,trV]
  ·exact ⟨by rw [av.o],by rw [aj.o];exact ad.o.trans (ae.mono (by omega))⟩
theorem qmr (p:Pat) (ax:p.1.length=8) (e:Int) (aD:0<=e) (ar:e<=255) (c:UInt8) (w:World) :
  Calls prog 318 #[qai p e,.int .u8 (c.toNat:Int)] w (qcg w (qjk (qbm p.1 e c))):=by
 unfold qai;obtain ⟨aC,au,z,B0,ao,E⟩:=qaN w p e;obtain ⟨n,af⟩:=N9 (w.heap.size);rw [af] at z B0 ao E;have aq:=C9 E 0;have aw:=C9 E 1;have aA:=C9 E 2;have am:=qa4 p.1 p.2 ax e aD ar c aC;have z:=J9 z;have B0:=J9 B0;have aj:=J9 af;clear E
 go_enter func318,ntmps318
 go_wp2_with fail
 refine am.mono ?_;rintro ak O ⟨rfl,J⟩;have V:Hid (qaL O (n+1)):=z.o.below J;have K:=J9 (B0.o.trans (J.mono (by omega)));have M:Hid (n+2<=O.heap.size):=by have:=J.size;show _<=_;omega
 clear J am au z B0 ao af aq aw aA;by_cases U:qbm p.1 e c=3
 ·have aa:Hid (qjk (qbm p.1 e c)=(3,4,0)):=by show qjk _=_;unfold qjk;rw [Qk U]
  rw [U]
  go_wp2_with fail
  refine (pair_any _ O).mono ?_;rintro ak G ⟨rfl,m⟩;have y:Hid (qaL G (n+1)):=V.o.below m;have ad:Hid (Below n w G):=K.o.trans (m.mono (by have:=M.o;omega));clear m V K M;simp only [trV];obtain ⟨ay,aE,ap,aB⟩:=y.o.cells;go_wp2;obtain ⟨az,ah,h,ae,-⟩:=qaU y.o 3 4 0;rw [ah];have ac:=C9 h 0;have ab:=C9 h 1;have ag:=C9 h 2;refine bodyPost_ret (v:=trV (3,4,0)) ?_ rfl ?_
  ·simp [results,results318,go_sem,ac,ab,ag,trV]
  ·exact ⟨by rw [aa.o],by rw [aj.o];exact ad.o.trans (ae.mono (by omega))⟩
 ·have aa:Hid (qjk (qbm p.1 e c)=(3,(qbm p.1 e c),0)):=by show qjk _=_;unfold qjk;rw [Qd U]
  obtain ⟨Z,ai⟩:=N9 (qbm p.1 e c);have av:Hid (qjk (qbm p.1 e c)=(3,Z,0)):=by have an:=aa.o;rw [ai] at an |-;exact an
  rw [ai] at U |-;clear ai
  go_wp2_with fail
  refine (pair_any _ O).mono ?_;rintro ak G ⟨rfl,m⟩;have y:Hid (qaL G (n+1)):=V.o.below m;have ad:Hid (Below n w G):=K.o.trans (m.mono (by have:=M.o;omega));clear m V K M;simp only [trV];obtain ⟨ay,aE,ap,aB⟩:=y.o.cells;go_wp2;obtain ⟨az,ah,h,ae,-⟩:=qaU y.o 3 Z 0;rw [ah];have ac:=C9 h 0;have ab:=C9 h 1;have ag:=C9 h 2;refine bodyPost_ret (v:=trV (3,Z,0)) ?_ rfl ?_
  ·simp [results,results318,go_sem,ac,ab,ag,trV]
  ·exact ⟨by rw [av.o],by rw [aj.o];exact ad.o.trans (ae.mono (by omega))⟩
theorem qzl (x:Nat) (y:x<256):bits .and .u8 (x:Int) 1=((x % 2:Nat):Int):=by
 have:∀ h:Fin 256,bits .and .u8 (h.val:Int) 1=((h.val % 2:Nat):Int):=by decide +kernel
 exact this ⟨x,y⟩
theorem qB4 (o b:Nat) (y:o<128) (h:b<2):bits .or .i64 (wrap64 ((o:Int)*2)) (wrap64 (b:Int))=((2*o+b:Nat):Int):=by
 have:∀ (o:Fin 128) (b:Fin 2),bits .or .i64 (wrap64 ((o.val:Int)*2)) (wrap64 (b.val:Int))=((2*o.val+b.val:Nat):Int):=by decide +kernel
 exact this ⟨o,y⟩ ⟨b,h⟩
def numN (l:Str) (n:Nat) (c:UInt8):Nat->Nat
 | 0=>0
 | k+1=>if l[k]?.getD 0=c then 2*numN l n c k+n / 2 ^ (7 - k) % 2 else numN l n c k
theorem qme (l:Str) (n:Nat) (e:n<256) (c:UInt8):∀ k,k<=8->quM l (n:Int) c k=(numN l n c k:Nat)/\numN l n c k<2 ^ k
 | 0,_=>⟨rfl,Nat.one_pos⟩
 | k+1,J=>by
  obtain ⟨h,E⟩:=qme l n e c k (by omega);unfold quM numN;have G:numN l n c k<2 ^ 7:=Zo E (Nat.pow_le_pow_right (by decide) (by omega));split
  ·have y:(n:Int) / 2 ^ (7 - k)=((n / 2 ^ (7 - k):Nat):Int):=by simp
   have z:n / 2 ^ (7 - k)<256:=Nat.lt_of_le_of_lt (Nat.div_le_self _ _) e;rw [h,y,qzl _ z,qB4 _ _ (by omega) (by omega)];refine ⟨rfl,?_⟩;rw [Nat.pow_succ];omega
  ·exact ⟨h,by rw [Nat.pow_succ];omega⟩
theorem qcz (l:Str) (n:Nat) (h:n<256) (c:UInt8):qbm l (n:Int) c=(numN l n c 8:Nat):=(qme l n h c 8 (Qa _)).1
theorem qgO (l:Str) (e:Int) (z:0<=e) (E:e<=255) (c:UInt8):0<=qbm l e c/\qbm l e c<=255:=by
 obtain ⟨h,rfl⟩:∃ h:Nat,e=h:=⟨e.toNat,by omega⟩;have n:=qme l h (by omega) c 8 (Qa _);have y:qbm l (h:Int) c=(numN l h c 8:Nat):=n.1;omega
def qf0 (w:Str):Tr:=
 if w=[65] then (1,7,0) else if w=[68,69] then (3,1,0) else if w=[72,76] then (3,2,0) else if w=[83,80] then (3,3,0) else if w=[65,70] then (3,4,0) else
 if w=[65,70,39] then (3,7,0) else if w=[40,66,67,41] then (4,0,0) else if w=[40,68,69,41] then (4,1,0) else if w=[40,72,76,41] then (4,2,0) else
 if w=[40,83,80,41] then (4,3,0) else if w=[40,67,41] then (4,8,0) else if w=[73] then (9,0,0) else if w=[82] then (9,1,0) else (6,0,((w.headD 0).toNat:Int) - 48)
def qw6 (c:UInt8) (n:Int):Option Tr:=
 if c=114\/c=115 then some (qvX n) else if c=112 then some (3,n,0) else if c=113 then some (qjk n) else if c=99\/c=107 then some (8,n,0) else if c=98 then some (6,0,n) else if c=116 then some (6,0,8*n) else none
def opT (p:Pat) (h:Int) (w:Str):Tr×Str:=
 if w=[101] then ((10,0,0),w) else if w=[110]\/w=[119] then ((6,0,0),w) else if w=[40,110,41]\/w=[40,119,41] then ((7,0,0),(w.drop 1).take 1) else
 match qw6 (w.headD 0) (qbm p.1 h (w.headD 0)) with
 | some t=>(t,[])
 | none=>(qf0 w,[])
theorem qsB (w:World):∃ h,w.alloc (.cells #[.int .i64 0,.int .i64 0,.int .i64 0] 57)=h/\qaL h w.heap.size/\Below w.heap.size w h/\h.heap.size=w.heap.size+1:=
 ⟨_,rfl,World.alloc_heap_new w _,(B0 (w:=w)),by simp⟩
theorem qxB (a:Str) (e:a∈([[65],[68,69],[72,76],[83,80],[65,70],[65,70,39],[40,66,67,41],[40,68,69,41],[40,72,76,41],[40,83,80,41],[40,67,41],[48],[49],[50]]:List Str)) (w:World):Calls prog 309 #[.string (sB a)] w (qcg w (qf0 a)):=by
 obtain ⟨c,U,b,B0,M⟩:=qsB w;obtain ⟨ad,G⟩:=N9 (w.heap.size);rw [G] at b B0 M;have b:=J9 b;have B0:=J9 B0;have ab:=J9 G;have J:∀ w,(Instr.index 9 (.string (sB a)) (.int .i64 0)).run prog w=.ok (.int .u8 ((a.headD 0).toNat:Int)) w:=by
  simp only [QI,Q8,or_false] at e;rcases e with rfl | rfl | rfl | rfl | rfl | rfl | rfl | rfl | rfl | rfl | rfl | rfl | rfl | rfl
  all_goals exact fun _=>by kernel_rfl
 obtain ⟨⟨E,y,n⟩,z⟩:∃ O:Tr,qf0 a=O:=⟨_,rfl⟩;rw [z];simp only [QI,Q8,or_false] at e;rcases e with rfl | rfl | rfl | rfl | rfl | rfl | rfl | rfl | rfl | rfl | rfl | rfl | rfl | rfl
 all_goals
  unfold sB at J |-;simp only [List.headD_cons] at J
  go_enter func309,ntmps309
  go_wp2_with fail
  refine Calls.mono (?_:Calls _ _ _ _ (qcg c (E,y,n))) ?_
  ·rw [<- z]
   first
    | exact register_any _ c
    | exact pair_any _ c
    | exact tpointer_any _ c
    | exact value_any _ c
  clear z;rintro an ae ⟨rfl,h⟩;have K:Hid (qaL ae ad):=b.o.below h;have V:=J9 (B0.o.trans (h.mono (by omega)));clear h U b B0 M G;simp only [trV];obtain ⟨aj,ai,ah,am⟩:=K.o.cells;go_wp2;obtain ⟨ak,ag,t,ac,-⟩:=qaU K.o E y n;rw [ag];have aa:=C9 t 0;have Z:=C9 t 1;have af:=C9 t 2;refine bodyPost_ret (v:=trV (E,y,n)) ?_ rfl ?_
  ·simp [results,results309,go_sem,aa,Z,af,trV]
  ·exact ⟨rfl,by rw [ab.o];exact V.o.trans ac⟩
theorem qzg (h:Str) (y:h∈([[73],[82]]:List Str)) (w:World):Calls prog 309 #[.string (sB h)] w (qcg w (qf0 h)):=by
 simp only [QI,Q8,or_false] at y;rcases y with rfl | rfl
 ·go_enter func309,ntmps309
  unfold sB;go_wp2;refine bodyPost_ret (v:=trV (9,0,0)) ?_ rfl ?_
  ·simp [results,results309,go_sem,trV]
  ·exact ⟨rfl,B0⟩
 ·go_enter func309,ntmps309
  unfold sB;go_wp2;refine bodyPost_ret (v:=trV (9,1,0)) ?_ rfl ?_
  ·simp [results,results309,go_sem,trV]
  ·exact ⟨rfl,B0⟩
def qjP:List Str:=[[65],[68,69],[72,76],[83,80],[65,70],[65,70,39],[40,66,67,41],[40,68,69,41],[40,72,76,41],[40,83,80,41],[40,67,41],[48],[49],[50],[73],[82]]
theorem qq3 (h:Str) (z:h∈qjP) (w:World):Calls prog 309 #[.string (sB h)] w (qcg w (qf0 h)):=by
 have y:h∈([[65],[68,69],[72,76],[83,80],[65,70],[65,70,39],[40,66,67,41],[40,68,69,41],[40,72,76,41],[40,83,80,41],[40,67,41],[48],[49],[50]]:List Str)++[[73],[82]]:=z;rcases QO.1 y with y | y
 ·exact qxB h y w
 ·exact qzg h y w
end Go.Proofs.YtjafbmfcedijmaaGreatDoor
namespace Go.Mixed
open Go
theorem qmC (h:Operand->Value) (o:Oper):execOp h {o with guard:=none}=execOp h o:=by unfold execOp;rfl
theorem qD6 {P:Program} {ops:Array Oper} {C:World->Prop} {T:Act->World->Prop} {k:Nat} {r:List (Nat×Bool)} {a:Act} {w:World} {o:Oper} (E:ops[k]?=some o) (G:Region.wanted o (yielded ops a.tmps)=true)
  (h:wpList P ops (QK fun z w'=>C w'/\qD8 P ops C T r z w') [{o with guard:=none}] a w):qD8 P ops C T ((k,false) :: r) a w:=by
 simp only [qD8];unfold wpOp;simp only [E,G,if_true];simp only [wpList] at h;rw [Qk (by simp [Region.wanted])] at h;rcases h with h | h
 ·refine .inl ?_
  unfold Oper.wp at h |-;rw [qmC] at h;have y:=qfC h;generalize (execOp a.eval o).run P w=rs at y |-;cases rs with
  | ok x w'=>cases x <;> exact y
  | halt x w'=>cases x <;> exact y
 ·exact absurd h.2 (qaA _)
theorem qiJ {P:Program} {ops:Array Oper} {C:World->Prop} {T:Act->World->Prop} {k:Nat} {r:List (Nat×Bool)} {a:Act} {w:World} {o:Oper} (h:ops[k]?=some o) (y:Region.wanted o (yielded ops a.tmps)=false)
  (z:qD8 P ops C T r (a.put o.dst undef) w):qD8 P ops C T ((k,true) :: r) a w:=by
 simp only [qD8,h];exact ⟨undef,.inr ⟨y,rfl⟩,z⟩
theorem ms {P:Program} {ops:Array Oper} {C:World->Prop} {T:Act->World->Prop} {k:Nat} {r:List (Nat×Bool)} {a:Act} {w:World} {o:Oper} (h:ops[k]?=some o)
  (z:qD8 P ops C T r (a.put o.dst undef) w) (y:Region.wanted o (yielded ops a.tmps)=false:=by kernel_rfl):qD8 P ops C T ((k,true) :: r) a w:=qiJ h y z
theorem qEC {P:Program} {ops:Array Oper} {C:World->Prop} {T:Act->World->Prop} {k:Nat} {r:List (Nat×Bool)} {a:Act} {w:World} {o:Oper} (h:ops[k]?=some o) (y:Region.wanted o (yielded ops a.tmps)=false)
  (z:C w) (E:qD8 P ops C T r (a.put o.dst undef) w):qD8 P ops C T ((k,false) :: r) a w:=by
 simp only [qD8];unfold wpOp;simp only [h,y,Bool.false_eq_true,if_false];exact ⟨z,E⟩
end Go.Mixed
