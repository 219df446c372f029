/-
  NumA, NumB, NumC, NumD, Ob, NumF, NumG, NumE, NumH, NumI, NumJ, NumL, OpA, Sa, OpB, OpC, OpD, OpE, OpF.
-/
import Derived.Test.YtecpnfhpcamljaaGreatDoorProg
import Derived.WalkSpells
import Derived.WalkLawsBesides
import Derived.Lib.SlBytesRow
import Derived.BigQuiet
import Derived.RangeFuncBox
import Derived.Deep.OwnRows
import Derived.Laws.EntriesVeiled
import Derived.Deep.WholeRow
import Derived.Deep.RegionHeld3
import Derived.Deep.DrawnRows
import Derived.Test.YtecpnfhpcamljaaGreatDoorQ0
set_option linter.all false
set_option maxRecDepth 100000
set_option maxHeartbeats 4000000
namespace Go.Proofs.YtecpnfhpcamljaaGreatDoor
open Tryz
open Go.RowKit
theorem qao {k:IntKind} {a b:Int} (h:a=b):Ending.returned (.int k a)=.returned (.int k b):=by rw [h]
def qkf (c:Int):Int:=if 97<=c/\c<=122 then c - 32 else c
def qgI (c:Int):Bool:=decide (48<=c)&&decide (c<=57)
theorem qkx (c:Int) (G:0<=c) (E:c<=255) (w:World) :
  Calls prog 105 #[.int .u8 c] w fun z h=>z=.returned (.int .u8 (qkf c))/\w=h:=by
 by_cases q:97<=c
 ·by_cases y:c<=122
  ·go_enter func105,ntmps105
   go_wp2;go_ret;refine ⟨?_,rfl⟩;have e:qkf c=c - 32:=(by unfold qkf;rw [Qi ⟨q,y⟩]);rw [e];exact qao (by omega)
  ·go_enter func105,ntmps105
   go_wp2;go_ret;refine ⟨?_,rfl⟩;have e:qkf c=c:=(by unfold qkf;rw [Qe (by omega)]);rw [e];rfl
 ·go_enter func105,ntmps105
  go_wp2;go_ret;refine ⟨?_,rfl⟩;have e:qkf c=c:=by unfold qkf;rw [Qe (by omega)]
  rw [e];rfl
theorem isDecimal_any (c:Int) (E:0<=c) (z:c<=255) (w:World) :
  Calls prog 87 #[.int .u8 c] w fun y q=>y=.returned (.bool (qgI c))/\w=q:=by
 by_cases h:48<=c
 ·have e:qgI c=decide (c<=57):=by unfold qgI;simp [h]
  rw [e]
  go_enter func87,ntmps87
  go_wp2;go_ret;exact ⟨rfl,rfl⟩
 ·have e:qgI c=false:=by unfold qgI;simp [h]
  rw [e]
  go_enter func87,ntmps87
  go_wp2;go_ret;exact ⟨rfl,rfl⟩
theorem qfT (s:ByteArray) (c:Int) (w:World) :
  Calls prog 119 #[.string s,.int .u8 c] w fun e h=>e=.returned (.int .i64 (Lib.indexByte s.data.toList c.toNat.toUInt8))/\w=h:=by
 go_enter func119,ntmps119
 go_wp2;rw [run_callFunc_extern func171 (by kernel_rfl) (by kernel_rfl) (by kernel_rfl) (e:=Extern.BytealgIndexByte.indexByte) (by kernel_rfl),Lib.run_indexByteString];simp only [Result.andThen];rw [Oper.upon_value];go_wp2;go_ret;exact ⟨rfl,rfl⟩
def quG (c:Int):Int:=if 48<=c/\c<=57 then c - 48 else if 65<=c/\c<=70 then c - 55 else if 97<=c/\c<=102 then c - 87 else -1
theorem qvp (c:Int) (q:0<=c) (h:c<=255):0<=qkf c/\qkf c<=255:=by unfold qkf;split <;> omega
theorem qxP (n:Int):IntKind.i8.wrap n=if 128<=n % 256 then n % 256 - 256 else n % 256:=by simp [IntKind.wrap,IntKind.bits,IntKind.signed]
def qqv (c:Int):Int:=if c<128 then c else c - 256
theorem qoc (c:Int) (y:0<=c) (q:c<=255) (w:World) :
  Calls prog 221 #[.int .u8 c] w fun h e=>h=.returned (.int .i64 (qqv c))/\w=e:=by
 go_enter func221,ntmps221
 go_wp2;go_ret;refine ⟨?_,rfl⟩;refine qao ?_;unfold qqv wrap64;rw [qxP];split <;> split <;> omega
def rdStep (base:Int) (o:Option Int) (c:UInt8):Option Int:=
 o.bind fun h=>if quG (c.toNat:Int)<0\/base<=quG (c.toNat:Int) then none else if h*base+quG (c.toNat:Int)<=65535 then some (h*base+quG (c.toNat:Int)) else none
def rdL (base:Int) (l:List UInt8):Option Int:=l.foldl (rdStep base) (some 0)
theorem qrC (base:Int) (l:List UInt8) (c:UInt8):rdL base (l++[c])=rdStep base (rdL base l) c:=by unfold rdL;rw [List.foldl_append];rfl
def rdO (base:Int) (s:ByteArray):Option Int:=if s.data.toList=[] then none else rdL base s.data.toList
theorem qab {a b:Bool} (h:a=b):Ending.returned (.bool a)=.returned (.bool b):=by rw [h]
theorem qaq {a b:ByteArray} (h:a=b):Ending.returned (.string a)=.returned (.string b):=by rw [h]
def preB (s p:ByteArray):Bool:=decide (p.size<=s.size)&&((s.extract 0 p.size).toList == p.toList)
def qwA (s p:ByteArray):Bool:=decide (p.size<=s.size)&&((s.extract (s.size - p.size) s.size).toList == p.toList)
def qp7 (s p:ByteArray):ByteArray:=if preB s p then s.extract p.size s.size else s
def qf5 (s p:ByteArray):ByteArray:=if qwA s p then s.extract 0 (s.size - p.size) else s
theorem qev (s p:ByteArray) (y:s.size<=maxLen) (h:p.size<=maxLen) (w:World) :
  Calls prog 142 #[.string s,.string p] w fun z q=>z=.returned (.bool (preB s p))/\w=q:=by
 unfold maxLen at y h;by_cases e:p.size<=s.size
 ·go_enter func142,ntmps142
  go_wp2;go_ret;exact ⟨qab (by unfold preB;rw [Qn e,Bool.true_and]),rfl⟩
 ·go_enter func142,ntmps142
  go_wp2;go_ret;exact ⟨qab (by unfold preB;rw [Qh e,Bool.false_and]),rfl⟩
def qAp (k:Nat) (u:ByteArray):ByteArray:=match k with
 | 0=>u
 | 1=>qp7 u ⟨#[48,88]⟩
 | 2=>qp7 u ⟨#[36]⟩
 | 3=>qf5 u ⟨#[72]⟩
 | 4=>qf5 u ⟨#[66]⟩
 | _=>qp7 u ⟨#[37]⟩
def qy1 (u:ByteArray):Bool:=qwA u ⟨#[72]⟩&&!(qf5 u ⟨#[72]⟩).toList.isEmpty&&qgI (((qf5 u ⟨#[72]⟩).data.toList.getD 0 0).toNat:Int)
def qyk (k:Nat) (u:ByteArray):Bool:=match k with
 | 0=>true
 | 1=>preB u ⟨#[48,88]⟩
 | 2=>preB u ⟨#[36]⟩
 | 3=>qy1 u
 | 4=>qwA u ⟨#[66]⟩
 | _=>preB u ⟨#[37]⟩
def qng (c:UInt8):UInt8:=(qkf (c.toNat:Int)).toNat.toUInt8
theorem qmJ (c:UInt8):((qng c).toNat:Int)=qkf (c.toNat:Int):=by
 have h:=qvp (c.toNat:Int) (by omega) (by have:=c.toNat_lt;omega);unfold qng;have:(qkf (c.toNat:Int)).toNat<256:=by omega
 rw [UInt8.toNat_ofNat_of_lt' this];omega
def upB (s:ByteArray):ByteArray:=⟨s.data.map qng⟩
theorem qma (s:ByteArray):(upB s).size=s.size:=by unfold upB;show (s.data.map qng).size=s.data.size;simp
theorem qwU (s:ByteArray) (j:Nat) (y:j<s.size) (h:j<(upB s).size):(upB s)[j]=qng s[j]:=by
 have q:(upB s).data[j]'h=qng (s.data[j]'y):=by simp [upB]
 exact q
theorem qmo (s:ByteArray):(upB s).data.toList=s.data.toList.map qng:=by unfold upB;simp
def qp8 (w:World) (s:ByteArray) (k:Nat) (wr:World):Prop:=
 (∀ h (j:h<s.size),wr.cell? ⟨w.heap.size,h,none⟩=some (.int .u8 (if h<k then qkf (s[h].toNat:Int) else (s[h].toNat:Int))))/\(∀ h,h<s.size->wr.frozen? ⟨w.heap.size,h,none⟩=false)/\Below w.heap.size w wr
theorem qlF (w:World) (s:ByteArray) (cap:Nat) (e:TypeId) :
  qp8 w s 0 (w.alloc (.cells (bytesRow s cap) e ((bytesRow s cap).size,(bytesRow s cap).size+1))).drew:=by
 refine ⟨fun h q=>?_,fun h q=>?_,(B0).drew⟩
 ·have j:=World.cell?_alloc_mark w (bytesRow s cap) e ((bytesRow s cap).size,(bytesRow s cap).size+1) h
  rw [bytesRow_at s cap h q] at j;exact j
 ·have j:=World.frozen?_alloc_mark w (bytesRow s cap) e (bytesRow s cap).size ((bytesRow s cap).size+1) h
  have y:h<(bytesRow s cap).size:=by
   unfold bytesRow;rw [Array.size_append,Array.size_map];have:s.data.size=s.size:=rfl;omega
  have z:decide ((bytesRow s cap).size<=h)=false:=by simp;exact y
  rw [z,Bool.false_and] at j;simpa using j
theorem qob (w wr:World) (s:ByteArray) (k:Nat) (J:k<s.size) (z:qp8 w s k wr):qp8 w s (k+1) (wr.setCell ⟨w.heap.size,k,none⟩ (.int .u8 (qkf (s[k].toNat:Int)))):=by
 obtain ⟨q,G,y⟩:=z;refine ⟨fun e h=>?_,fun e h=>?_,y.setCell (by simp) _⟩
 ·by_cases E:e=k
  ·subst E
   have:=q e h;rw [Qi (by omega)];simp [go_sem,this]
  ·rw [World.cell?_setCell_other _ _ _ _ (by simp),q e h]
   by_cases j:e<k
   ·rw [Qi j,Qi (by omega)]
   ·rw [Qe j,Qe (by omega)]
 ·simp [go_sem,G e h]
theorem qqu (w wr:World) (s:ByteArray) (cap:Nat) (z:qp8 w s s.size wr) :
  (convert 35 9 (.slice (some ⟨w.heap.size,0,none⟩) s.size cap)).run prog wr=.ok (.string (upB s)) wr:=by
 have y:=Lib.run_convert_whole (P:=prog) wr 35 5 9 underlying35 underlying5 underlying9 w.heap.size 0 (upB s) (fun h i=>by
  have q:h<s.size:=by rw [qma] at i;exact i
  rw [QT,z.1 h q,Qi q,qwU s h q i,qmJ]) cap
 rw [qma] at y;exact y
theorem qpM (s:ByteArray) (E:s.size<=maxLen) (w:World) :
  Calls prog 61 #[.string s] w fun q y=>q=.returned (.string (upB s))/\Below w.heap.size w y:=by
 unfold maxLen at E;have N:=fun (w:World)=>run_bytes_of_string (P:=prog) w 9 35 5 s underlying9 underlying35 underlying5
 have M:=J9 (qlF w s (grownCap w s.size 0 5) 5)
 go_enter func61,ntmps61
 go_wp2;clear N
 go_loopw [10] (fun i wr=>∃ e:Nat,e<=s.size/\i=.int .i64 e/\qp8 w s e wr) (fun i _=>s.size - (intOf i).toNat)
 case atStart=>exact ⟨0,Qu _,rfl,M.o⟩
 case round=>
  obtain ⟨e,T,rfl,z⟩:=hrel;have h:=J9 z;clear z;by_cases k:e<s.size
  ·have J:(0:Int)<=(s[e].toNat:Int):=by omega
   have G:(s[e].toNat:Int)<=255:=(by have:=s[e].toNat_lt;omega);have R:wr.cell? ⟨w.heap.size,e,none⟩=some (.int .u8 (s[e].toNat:Int)):=(by rw [h.o.1 e k,Qe (by omega)]);have S:=h.o.2.1 e k;have K:=J9 (qob w wr s e k h.o)
   go_wp2_with (go_at_call 105;refine (qkx _ J G _).mono ?_;rintro q y ⟨rfl,rfl⟩)
   go_roundw
   case rel=>exact ⟨e+1,by omega,by go_num,K.o⟩
   case measure=>simp [intOf];omega
  ·obtain rfl:e=s.size:=by omega
   have O:=qqu w wr s (grownCap w s.size 0 5) h.o;go_wp2;go_ret;exact ⟨rfl,h.o.2.2⟩
theorem below_drewN (w:World) (n h:Nat):Below n w (w.drewN h):=⟨rfl,rfl,rfl,Qa _,fun _ _=>rfl⟩
theorem qce {B:Nat} {a w:World} (h:Below B a w) (n:Nat):Below B a (w.drewN n):=⟨h.os,h.tape,h.output,h.size,h.block⟩
abbrev Tr:=Int×Int×Int
def cellsT:List Tr->List Value
 | []=>[]
 | x :: h=>.int .i64 x.1 :: .int .i64 x.2.1 :: .int .i64 x.2.2 :: cellsT h
theorem qbN:∀ L:List Tr,(cellsT L).length=L.length*3
 | []=>rfl
 | x :: h=>by
  have q:=qbN h;show (cellsT h).length+1+1+1=(h.length+1)*3;omega
theorem qcu:∀ a b:List Tr,cellsT (a++b)=cellsT a++cellsT b
 | [],b=>rfl
 | x :: t,b=>by
  show _ :: _ :: _ :: cellsT (t++b)=_ :: _ :: _ :: (cellsT t++cellsT b);rw [qcu t b]
theorem qdb:∀ (L:List Tr) (j:Nat) (h:j<L.length),(cellsT L)[j*3]?=some (.int .i64 L[j].1)/\(cellsT L)[j*3+1]?=some (.int .i64 L[j].2.1)/\(cellsT L)[j*3+2]?=some (.int .i64 L[j].2.2)
 | x :: e,0,h=>⟨rfl,rfl,rfl⟩
 | x :: e,j+1,h=>by
  obtain ⟨q,t,y⟩:=qdb e j (by simpa using h);have z:cellsT (x :: e)=.int .i64 x.1 :: .int .i64 x.2.1 :: .int .i64 x.2.2 :: cellsT e:=rfl;rw [z,show (j+1)*3=j*3+1+1+1 by omega,show j*3+1+1+1+1=(j*3+1)+1+1+1 by omega,show j*3+1+1+1+2=(j*3+2)+1+1+1 by omega];simp only [List.getElem?_cons_succ,List.getElem_cons_succ];exact ⟨q,t,y⟩
def qai (w:World) (A:Option Addr) (L:List Tr):Prop:=
 L=[]\/∃ h j,A=some ⟨h,j,none⟩/\∀ b (q:b<L.length),w.cell? ⟨h,j+b*3,none⟩=some (.int .i64 L[b].1)/\w.cell? ⟨h,j+b*3+1,none⟩=some (.int .i64 L[b].2.1)/\w.cell? ⟨h,j+b*3+2,none⟩=some (.int .i64 L[b].2.2)
theorem qai.at_ {w:World} {A:Option Addr} {L:List Tr} (z:qai w A L) {k:Nat} (q:k<L.length):∃ b h,A=some ⟨b,h,none⟩/\b<w.heap.size/\w.cell? ⟨b,h+k*3,none⟩=some (.int .i64 L[k].1)/\w.cell? ⟨b,h+k*3+1,none⟩=some (.int .i64 L[k].2.1)/\w.cell? ⟨b,h+k*3+2,none⟩=some (.int .i64 L[k].2.2):=by
 rcases z with rfl | ⟨b,h,rfl,y⟩
 ·simp at q
 ·exact ⟨b,h,rfl,Qq w _ (y k q).1,y k q⟩
theorem qai.below {w w':World} {A:Option Addr} {L:List Tr} (y:qai w A L) (M:Below w.heap.size w w'):qai w' A L:=by
 rcases y with rfl | ⟨q,v,rfl,E⟩
 ·exact .inl rfl
 ·refine .inr ⟨q,v,rfl,fun G J=>?_⟩
  have h:∀ (b:Addr) (e:Value),w.cell? b=some e->w'.cell? b=some e:=fun b e j=>(M.cell (Qq w _ j)).trans j
  obtain ⟨p,z,K⟩:=E G J;exact ⟨h _ _ p,h _ _ z,h _ _ K⟩
theorem qnC {w:World} {base:Nat} {v:Value} {L:List Tr} (g:w.ownsRow base 56 3 v L.length (cellsT L)):∃ j h,v=.slice j L.length h/\qai w j L/\L.length<=h:=by
 rcases g.2 with ⟨rfl,J⟩ | ⟨A,h,M,rfl,_,_,K,_⟩
 ·have:L=[]:=Qw J
  subst this;exact ⟨none,0,rfl,.inl rfl,Qa _⟩
 ·refine ⟨_,h,rfl,.inr ⟨A,0,rfl,fun z E=>?_⟩,K⟩
  obtain ⟨q,y,G⟩:=qdb L z E;rw [QT];exact ⟨(g.cellAt _ (by omega)).trans q,(g.cellAt _ (by omega)).trans y,(g.cellAt _ (by omega)).trans G⟩
theorem qdy:(prog.info? 56).map (fun i=>(i.zero,i.size,i.bytes))=some (some (.agg #[.int .i64 0,.int .i64 0,.int .i64 0]),3,24):=by kernel_rfl
theorem run_append_nothing (w:World) (base:Nat) (t ty e:TypeId) (size:Nat) (q:prog.underlying t=some (.slice e)) (h:∀ w,(sizeOf e).run prog w=.ok size w)
  (v:Value) (n:Nat) (xs:List Value) (y:w.ownsRow base e size v n xs) (A:Option Addr) (c:Nat) :
  (Builtin.append_ #[t,t] ty #[v,.slice A 0 c]).run prog w=.ok v w:=by
 have x:∀ g,(loadCells g 0).run prog w=.ok #[] w:=fun g=>by simpa using run_loadCells_list (P:=prog) w g [] (by simp)
 rcases y.2 with ⟨rfl,J⟩ | ⟨M,G,T,rfl,E,K,z,O,_⟩
 ·cases A <;> simp [Builtin.append_,run_underlying q,h,Builtin.lenOf,Builtin.firstCells,x]
 ·cases A <;> simp [Builtin.append_,run_underlying q,h,Builtin.lenOf,Builtin.firstCells,x,z,storeCells] <;> omega
theorem qa4 (w:World) (base:Nat) (t ty e:TypeId) (i:TypeInfo) (z:Value) (size bytes:Nat) (J:prog.underlying t=some (.slice e)) (M:prog.info? e=some i) (Z:i.zero=some z)
  (G:i.size=size) (ah:i.bytes=bytes) (ad:z.cells.size=size) (af:0<size)
  (v:Value) (n:Nat) (xs:List Value) (E:w.ownsRow base e size v n xs)
  (A:Option Addr) (m c:Nat) (h:List Value) (ab:h.length=m*size) (W:m=0\/∃ a,A=some a/\∀ j u,h[j]?=some u->w.cell? (a.add j)=some u) (T:∀ u∈h,u.oneCell'=true)
  (U:n+m<=maxLen) (ae:(n+m)*bytes<=140737488355328) (ag:base<=w.heap.size) :
  ∃ y q,(Builtin.append_ #[t,t] ty #[v,.slice A m c]).run prog w=.ok y q/\q.ownsRow base e size y (n+m) (xs++h)/\w.grownBy q v.ownBlock:=by
 by_cases K:m=0
 ·subst K
  have O:h=[]:=Qw (by omega);subst O;refine ⟨v,w,run_append_nothing w base t ty e size J (fun w=>?_) v n xs E A c,?_,World.grownBy.refl _ _⟩
  ·simp [sizeOf,typeInfo,M,G]
  ·simpa using E
 ·obtain ⟨a,rfl,V⟩:=W.resolve_left K
  obtain ⟨y,q,ai,ac,aa,_⟩:=run_append_own (P:=prog) w base t ty e i z size bytes J M Z G ah ad af v n xs E a m c h ab V T U ae ag;exact ⟨y,q,ai,ac,aa⟩
theorem qal {w w1:World} {t ty:TypeId} {v h q:Value} (z:(Builtin.append_ #[t,t] ty #[v,h]).run prog w=.ok q w1) {ops:Array Oper} {rest:List Oper} {o:Oper} {a:Act} {Q:Exit->Act->World->Prop} (J:o.guard=none) (s x:Operand)
  (M:o.op=.call {callee:=.builtin .append,args:=#[s,x],argTypes:=#[t,t]}) (E:o.type=ty) (G:a.eval s=v) (O:a.eval x=h) (K:wpList prog ops Q rest (a.put o.dst q) w1):wpList prog ops Q (o :: rest) a w:=by
 subst E;refine wpList_plain J fun T y=>?_
 unfold Oper.wp;simp [execOp,M,resolve,invoke,builtin,G,O,z,Result.andThen];exact y _ _ K
theorem qeR:∀ (L:List Tr),∀ h∈cellsT L,h.oneCell'=true
 | [],h,e=>by cases e
 | x :: t,h,e=>by
  have q:cellsT (x :: t)=.int .i64 x.1 :: .int .i64 x.2.1 :: .int .i64 x.2.2 :: cellsT t:=rfl;rw [q] at e;rcases QM.1 e with rfl | e
  ·rfl
  ·rcases QM.1 e with rfl | e
   ·rfl
   ·rcases QM.1 e with rfl | e
    ·rfl
    ·exact qeR t h e
theorem qjJ (L:List Tr) (j:Nat) (u:Value) (h:(cellsT L)[j]?=some u):∃ (k:Nat) (q:k<L.length),(j=k*3/\u=.int .i64 L[k].1)\/(j=k*3+1/\u=.int .i64 L[k].2.1)\/(j=k*3+2/\u=.int .i64 L[k].2.2):=by
 have J:j<L.length*3:=by
  rw [<- qbN];exact (QN.1 h).1
 have G:j / 3<L.length:=by omega
 obtain ⟨y,z,E⟩:=qdb L (j / 3) G;refine ⟨j / 3,G,?_⟩;have:j % 3=0\/j % 3=1\/j % 3=2:=by omega
 rcases this with q | q | q
 ·have e:j=j / 3*3:=by omega
  rw [<- e,h] at y;exact .inl ⟨e,by simpa using y⟩
 ·have e:j=j / 3*3+1:=by omega
  rw [<- e,h] at z;exact .inr (.inl ⟨e,by simpa using z⟩)
 ·have e:j=j / 3*3+2:=by omega
  rw [<- e,h] at E;exact .inr (.inr ⟨e,by simpa using E⟩)
theorem qai.news {w:World} {A:Option Addr} {L:List Tr} (u:qai w A L):L.length=0\/∃ a,A=some a/\∀ j b,(cellsT L)[j]?=some b->w.cell? (a.add j)=some b:=by
 rcases u with rfl | ⟨e,h,rfl,y⟩
 ·exact .inl rfl
 ·refine .inr ⟨_,rfl,fun j b z=>?_⟩
  have q:(⟨e,h,none⟩:Addr).add j=⟨e,h+j,none⟩:=by unfold Addr.add;split <;> simp_all
  rw [q];obtain ⟨J,K,M⟩:=qjJ L j b z;obtain ⟨k,E,G⟩:=y J K;rcases M with ⟨rfl,rfl⟩ | ⟨rfl,rfl⟩ | ⟨rfl,rfl⟩
  ·exact k
  ·exact E
  ·exact G
theorem qeb:∀ (L:List Tr) (k:Nat) (a b c:Int) (q:k<L.length) (e:L[k].1=a) (h:L[k].2.1=b),cellsT (L.set k (a,b,c))=(cellsT L).set (k*3+2) (.int .i64 c)
 | x :: t,0,a,b,c,q,e,h=>by
  simp only [List.getElem_cons_zero] at e h;subst e h;rfl
 | x :: t,k+1,a,b,c,q,e,h=>by
  have E:=qeb t k a b c (by simpa using q) (by simpa using e) (by simpa using h);rw [show (k+1)*3+2=(k*3+2)+1+1+1 by omega];show cellsT (x :: t.set k (a,b,c))=_;have z:∀ y:List Tr,cellsT (x :: y)=.int .i64 x.1 :: .int .i64 x.2.1 :: .int .i64 x.2.2 :: cellsT y:=fun _=>rfl
  rw [z,z,E];rfl
def qaf (w:World) (n:Nat) (v:Value) (L:List Tr):Prop:=w.ownsRow n 56 3 v L.length (cellsT L)
theorem qaf.ops {w:World} {n:Nat} {v:Value} {L:List Tr} (y:qaf w n v L):∃ h q,v=.slice h L.length q/\qai w h L/\L.length<=q:=qnC y
theorem qaf.below {w w':World} {n:Nat} {v:Value} {L:List Tr} (g:qaf w n v L) (k:Below w.heap.size w w'):qaf w' n v L:=
 World.ownsRow.kept g (row:=none) ⟨k.os,k.tape,k.output,k.size,fun e h _=>k.block e h⟩ (by
  cases q:v.ownBlock with
  | none=>exact .inl rfl
  | some i=>exact .inr (by simp))
def qq2 (w:World) (L:List Tr) (e:Ending) (w':World):Prop:=∃ h,e=.returned h/\qaf w' w.heap.size h L/\Below w.heap.size w w'
theorem qcp (A:Option Addr) (cap:Nat) (L:List Tr) (Z:L.length<=1000) (w:World) (W:qai w A L) :
  ∃ k h,(Builtin.append_ #[22,22] 22 #[.slice (some ⟨w.heap.size,0,none⟩) 0 0,.slice A L.length cap]).run prog (w.alloc (.cells #[] 56))=.ok k h/\qaf h w.heap.size k L/\Below w.heap.size w h:=by
 obtain ⟨E,O,M,T,J⟩:=info_parts qdy;have q:Below w.heap.size w (w.alloc (.cells #[] 56)):=B0;have y:=World.ownsRow_made (base:=w.heap.size) (e:=56) (size:=3) w #[] 0 (Qa _) (by unfold maxLen;omega) rfl;obtain ⟨k,h,G,z,K⟩:=qa4 (w.alloc (.cells #[] 56)) w.heap.size 22 22 56 E _ 3 24 underlying22 O M T J rfl (by decide) _ 0 [] y A L.length cap (cellsT L)
  (qbN L) (W.below q).news (qeR L) (by unfold maxLen;omega) (by omega) (by simp)
 rw [List.nil_append,QT] at z;exact ⟨k,h,G,z,q.grown K (by simp) fun U V=>(y.lt U V).1⟩
theorem qgU (A:Option Addr) (cap:Nat) (L:List Tr) (J:L.length<=1000) (w:World) (a:qai w A L) :
  Calls prog 62 #[.slice A L.length cap] w (qq2 w L):=by
 cases A with
 | none=>
  obtain rfl:L=[]:=by
   rcases a with b | ⟨O,T,b,_⟩
   ·exact b
   ·cases b
  clear a;have K:=fun w=>Lib.run_eql_slice_nil (P:=prog) w 22 56 none 0 cap 0 0 underlying22
  go_enter func62,ntmps62
  go_wp2;go_ret;exact ⟨_,rfl,Zm _ _ _ _,Qc _ _⟩
 | some E=>
  obtain ⟨q,G,y,z,h⟩:=qcp (some E) cap L J w a;have N:Hid (qq2 w L (.returned q) G):=⟨q,rfl,z,h⟩;have M:=J9 y;clear a y z h
  go_enter func62,ntmps62
  have K:=fun w=>Lib.run_eql_slice_nil (P:=prog) w 22 56 (some E) L.length cap 0 0 underlying22
  go_wp2_with (at_builtin;refine qal M.o rfl _ _ rfl rfl rfl rfl ?_)
  go_ret;exact N.o
def Bx (w:World) (b:Nat) (s:ByteArray) (A:Option Addr) (h cap:Nat):Prop:=w.cell? ⟨b,0,none⟩=some (.string s)/\w.cell? ⟨b,1,none⟩=some (.slice A h cap)
theorem Bx.lt {w:World} {b:Nat} {s:ByteArray} {A:Option Addr} {q cap:Nat} (h:Bx w b s A q cap):b<w.heap.size:=Qq w _ h.1
theorem Bx.below {w w':World} {b:Nat} {s:ByteArray} {A:Option Addr} {z cap B:Nat} (h:Bx w b s A z cap) (q:Below B w w') (y:b<B):Bx w' b s A z cap:=
 ⟨(q.cell y).trans h.1,(q.cell y).trans h.2⟩
theorem Bx.all {w w':World} {b:Nat} {s:ByteArray} {A:Option Addr} {q cap:Nat} (h:Bx w b s A q cap) (y:Below w.heap.size w w'):Bx w' b s A q cap:=h.below y h.lt
theorem Bx.new (w:World) (s:ByteArray) (A:Option Addr) (h cap:Nat) (t:TypeId):Bx (w.alloc (.cells #[.string s,.slice A h cap] t)) w.heap.size s A h cap:=⟨by simp [go_sem],by simp [go_sem]⟩
theorem row_mono {w:World} {base q:Nat} {e:TypeId} {size:Nat} {v:Value} {n:Nat} {xs:List Value} (h:w.ownsRow base e size v n xs) (G:q<=base):w.ownsRow q e size v n xs:=by
 refine ⟨h.1,?_⟩;rcases h.2 with g | ⟨z,J,K,y,g,E⟩
 ·exact .inl g
 ·exact .inr ⟨z,J,K,y,Qj G g,E⟩
theorem row_set {w:World} {base:Nat} {e:TypeId} {size n:Nat} {v:Value} {xs:List Value} (g:w.ownsRow base e size v n xs) {p:Addr} (z:p.block<base) (u:Value):(w.setCell p u).ownsRow base e size v n xs:=
 World.ownsRow.kept g (row:=some p.block) ⟨rfl,rfl,rfl,by simp,fun k _ q=>heap_setCell_other w p k u (fun e=>q (by rw [e]))⟩ (by
  cases e:v.ownBlock with
  | none=>exact .inl rfl
  | some h=>exact .inr (fun y=>by have:=(g.lt h e).1;cases y;omega))
def qtP (w:World) (s:ByteArray) (L:List Tr) (e:Ending) (w':World):Prop:=∃ h,e=.returned (.agg #[.string s,h])/\qaf w' w.heap.size h L/\Below w.heap.size w w'
theorem qaf.lift {w:World} {n m:Nat} {v:Value} {L:List Tr} (h:qaf w n v L) (k:m<=n):qaf w m v L:=row_mono h k
def Rz (w:World) (b:Nat):Prop:=w.heap[b]?=some (.cells #[.string ⟨#[]⟩,.slice none 0 0] 24 (0,0))
def Ri (w:World) (b:Nat) (s:ByteArray) (v:Value):Prop:=w.heap[b]?=some (.cells #[.string s,v] 24 (0,0))
theorem Rz.cells {w:World} {b:Nat} (h:Rz w b):w.cell? ⟨b,0,none⟩=some (.string ⟨#[]⟩)/\w.cell? ⟨b,1,none⟩=some (.slice none 0 0)/\w.frozen? ⟨b,0,none⟩=false/\w.frozen? ⟨b,1,none⟩=false:=
 ⟨by rw [C9 h];rfl,by rw [C9 h];rfl,Qp h 0,Qp h 1⟩
theorem Ri.cells {w:World} {b:Nat} {s:ByteArray} {v:Value} (h:Ri w b s v):w.cell? ⟨b,0,none⟩=some (.string s)/\w.cell? ⟨b,1,none⟩=some v:=
 ⟨by rw [C9 h];rfl,by rw [C9 h];rfl⟩
theorem Rz.set {w:World} {b:Nat} (q:Rz w b) (s:ByteArray) (v:Value):((w.setCell ⟨b,0,none⟩ (.string s)).setCell ⟨b,1,none⟩ v).cell? ⟨b,0,none⟩=some (.string s)/\((w.setCell ⟨b,0,none⟩ (.string s)).setCell ⟨b,1,none⟩ v).cell? ⟨b,1,none⟩=some v:=by
 obtain ⟨y,h,-,-⟩:=q.cells;exact ⟨by simp [go_sem,y],by simp [go_sem,h]⟩
theorem Rz.done {w:World} {b:Nat} (q:Rz w b) (s:ByteArray) (v:Value):Ri ((w.setCell ⟨b,0,none⟩ (.string s)).setCell ⟨b,1,none⟩ v) b s v:=by
 have h:=heap_setCell_same w b 0 _ _ (.string s) q;have y:=heap_setCell_same (w.setCell ⟨b,0,none⟩ (.string s)) b 1 _ _ v h;exact y
theorem qaf.form {w:World} {b:Nat} {v:Value} {L:List Tr} (h:qaf w b v L) (O:0<L.length):∃ g q,v=.slice (some ⟨g,0,none⟩) L.length q/\b<=g/\(∃ y,w.heap[g]?=some (.cells y 56 (0,0)))/\
  (∀ j (E:j<L.length),w.cell? ⟨g,j*3,none⟩=some (.int .i64 L[j].1)/\w.cell? ⟨g,j*3+1,none⟩=some (.int .i64 L[j].2.1)/\w.cell? ⟨g,j*3+2,none⟩=some (.int .i64 L[j].2.2))/\∀ j,w.frozen? ⟨g,j,none⟩=false:=by
 rcases h.2 with ⟨_,z⟩ | ⟨g,q,y,rfl,M,J,_⟩
 ·omega
 ·refine ⟨g,q,rfl,M,⟨y,J⟩,fun j E=>?_,fun j=>World.ownsRow.frozenAt h j⟩
  obtain ⟨z,G,K⟩:=qdb L j E;exact ⟨(World.ownsRow.cellAt h _ (by omega)).trans z,(World.ownsRow.cellAt h _ (by omega)).trans G,(World.ownsRow.cellAt h _ (by omega)).trans K⟩
theorem qaf.put {w:World} {b g cap n:Nat} {L L':List Tr} (h:qaf w b (.slice (some ⟨g,0,none⟩) n cap) L) (q:L.length=n) (y:L'.length=n) (j:Nat) (u:Value) (e:(cellsT L).set j u=cellsT L'):qaf (w.setCell ⟨g,j,none⟩ u) b (.slice (some ⟨g,0,none⟩) n cap) L':=by
 unfold qaf at h |-;rw [q] at h;rw [y,<- e];exact (World.ownsRow.stored h j u).1
theorem Ri.apart {w:World} {b g:Nat} {s:ByteArray} {v:Value} {y:Array Value} (q:Ri w b s v) (h:w.heap[g]?=some (.cells y 56 (0,0))):g≠b:=by
 rintro rfl;rw [show w.heap[g]?=_ from q] at h;simp at h
theorem qwh {A:Option Addr} {cap n:Nat} {L:List Tr} (E:∀ w,qai w A L->Calls prog 62 #[.slice A n cap] w (qq2 w L)) (z:L.length=n) (w:World) (H:qai w A L) :
  Calls prog 62 #[.slice A n cap] w fun y q=>∃ h e,y=.returned (.slice h n e)/\qaf q w.heap.size (.slice h n e) L/\Below w.heap.size w q:=by
 refine (E w H).mono ?_;rintro y q ⟨J,rfl,v,G⟩;obtain ⟨h,e,rfl,-,-⟩:=v.ops;rw [z] at v |-;exact ⟨h,e,rfl,v,G⟩
theorem qak {a b:ByteArray} (h:a≠b):(a.toList == b.toList)=false:=Qm.2 fun e=>h (by
 rw [QO,QO] at e;exact ByteArray.ext (Array.toList_inj.1 e))
theorem qAZ (a:ByteArray):(a.toList == a.toList)=true:=beq_self_eq_true _
theorem qlE {a b:Tr} (E:a≠b):¬a.1=b.1\/(a.1=b.1/\¬a.2.1=b.2.1)\/(a.1=b.1/\a.2.1=b.2.1/\¬a.2.2=b.2.2):=by
 obtain ⟨J,z,O⟩:=a;obtain ⟨K,G,M⟩:=b;by_cases h:J=K
 ·by_cases q:z=G
  ·refine .inr (.inr ⟨h,q,fun y=>E (by simp only at y;rw [h,q,y])⟩)
  ·exact .inr (.inl ⟨h,q⟩)
 ·exact .inl h
theorem qht (A1 ak:Option Addr) (ap c2:Nat) (b a:List Tr) (ag:b.length<=maxLen) (aj:a.length<=maxLen) (w:World) (ac:qai w A1 b) (ae:qai w ak a) :
  Calls prog 164 #[.slice A1 b.length ap,.slice ak a.length c2] w fun i aq=>i=.returned (.bool (decide (b=a)))/\Below w.heap.size w aq:=by
 unfold maxLen at ag aj;by_cases T:b.length=a.length
 ·have au:=J9 ac
  have aw:=J9 ae;have af:=J9 T;obtain ⟨ab,R⟩:=N9 (b.length);have ah:=J9 R;rw [R] at ag;rw [<- T,R];clear ac ae T aj R
  go_enter func164,ntmps164
  go_wp2
  go_loopw [13] (fun V wr=>∃ h:Nat,h<=ab/\V=.int .i64 h/\Hid (∀ e,e<h->∀ (q:e<b.length) (n:e<a.length),b[e]=a[e])/\Hid (Below w.heap.size w wr)) (fun V _=>ab - (intOf V).toNat)
  case atStart=>exact ⟨0,Qu _,rfl,fun e aA=>by omega,Qc _ _⟩
  case round=>
   obtain ⟨h,ay,rfl,K,G⟩:=hrel;by_cases aG:h<ab
   ·have Z:h<b.length:=by have:=ah.o;omega
    have aa:h<a.length:=(by have:=af.o;omega);obtain ⟨aF,az,av,-,z,B,J⟩:=(au.o.below G.o).at_ Z;obtain ⟨aD,aC,am,-,O,M,U⟩:=(aw.o.below G.o).at_ aa;subst av;subst am;by_cases k:b[h]=a[h]
    ·have R2:Hid (∀ e,e<h+1->∀ (q:e<b.length) (n:e<a.length),b[e]=a[e]):=fun e aH q n=>by
      by_cases i:e=h
      ·subst i;exact k
      ·exact K.o e (by omega) q n
     rw [k] at z B J;obtain ⟨⟨ao,ar,an⟩,E⟩:=N9 (a[h]);rw [E] at z B J O M U;simp only at z B J O M U;clear k E Z aa K;go_wp2
     go_quiet (fail)
     have W:=(fun ad=>J9 (G.o.trans (below_drewN wr w.heap.size ad)));go_wp2;go_roundw
     case rel=>exact ⟨h+1,by omega,by go_num,R2.o,(W _).o⟩
     case measure=>simp [intOf];omega
    ·have y:Hid (false=decide (b=a)):=(Qh (fun i=>k (by simp only [i]))).symm
     have j:=qlE k;obtain ⟨⟨ao,ar,an⟩,E⟩:=N9 (b[h]);obtain ⟨⟨ax,aB,aI⟩,ai⟩:=N9 (a[h]);rw [E] at z B J j;rw [ai] at O M U j;simp only at z B J O M U j;have W:=(fun ad=>J9 (G.o.trans (below_drewN wr w.heap.size ad)));clear k E ai Z aa K;rcases j with j | ⟨rfl,j⟩ | ⟨rfl,rfl,j⟩
     all_goals
      go_wp2
      go_quiet (fail)
      go_wp2;go_ret;exact ⟨qab y.o,(W _).o⟩
   ·have y:Hid (true=decide (b=a)):=by
     refine (Qn (List.ext_getElem af.o fun e q n=>?_)).symm;exact K.o e (by have:=ah.o;omega) q n
    clear K;go_wp2;go_ret;exact ⟨qab y.o,G.o⟩
 ·have y:Hid (false=decide (b=a)):=(Qh (fun i=>T (by rw [i]))).symm
  have aE:((b.length:Int) == (a.length:Int))=false:=Qm.2 (by omega);have aJ:¬((b.length:Int)=(a.length:Int)):=by omega
  clear ac ae
  go_enter func164,ntmps164
  go_wp2;go_ret;exact ⟨qab y.o,Qc _ _⟩
theorem qmn (s:ByteArray) (ag:s.size<=maxLen) (A:Option Addr) (cap:Nat) (L:List Tr) (aj:L.length<=1000) (w:World) (H:qai w A L) :
  Calls prog 32 #[.string s,.slice A L.length cap] w (qtP w (upB s) L):=by
 have V:=J9 (qpM s ag);have ai:=J9 (qgU A cap L aj);obtain ⟨h,ab⟩:=N9 (upB s);rw [ab] at V |-;have B0:Hid (Below w.heap.size w (w.alloc (.cells #[.string ⟨#[]⟩,.slice none 0 0] 24))):=B0;have W:=J9 (H.below B0.o);have U:(w.alloc (.cells #[.string ⟨#[]⟩,.slice none 0 0] 24)).heap[w.heap.size]?=some (.cells #[.string ⟨#[]⟩,.slice none 0 0] 24 (0,0)):=heap_alloc_new w _;have ac:=J9 U;clear H ab U
 go_enter func32,ntmps32
 go_wp2_with fail
 refine (V.o _).mono ?_;rintro af J ⟨rfl,y⟩;have Z:=J9 (W.o.below y);have G:=J9 (B0.o.trans (y.mono B0.o.size));have T:Hid (J.heap[w.heap.size]?=some (.cells #[.string ⟨#[]⟩,.slice none 0 0] 24 (0,0))):=(y.block _ (by simp)).trans ac.o;have E:Hid (w.heap.size<J.heap.size):=by have:=y.size;simp at this;show w.heap.size<J.heap.size;omega
 clear y W B0 ac
 go_wp2_with fail
 refine (ai.o _ Z.o).mono ?_;rintro af e ⟨v,rfl,F,M⟩;obtain ⟨u,q,rfl,-,-⟩:=F.ops;have ak:=J9 F;have ae:=J9 (G.o.trans (M.mono G.o.size));have z:Hid (e.heap[w.heap.size]?=some (.cells #[.string ⟨#[]⟩,.slice none 0 0] 24 (0,0))):=(M.block _ E.o).trans T.o;clear M Z G T F;have ah:e.cell? ⟨w.heap.size,0,none⟩=some (.string ⟨#[]⟩):=by rw [C9 z.o];rfl
 have ad:e.cell? ⟨w.heap.size,1,none⟩=some (.slice none 0 0):=by rw [C9 z.o];rfl
 have ap:e.frozen? ⟨w.heap.size,0,none⟩=false:=Qp z.o 0;have ao:e.frozen? ⟨w.heap.size,1,none⟩=false:=Qp z.o 1;have O:Hid (qtP w h L (.returned (.agg #[.string h,.slice u L.length q])) ((e.setCell ⟨w.heap.size,0,none⟩ (.string h)).setCell ⟨w.heap.size,1,none⟩ (.slice u L.length q))):=
  ⟨_,rfl,row_mono (row_set (row_set ak.o (p:=⟨w.heap.size,0,none⟩) E.o _) (p:=⟨w.heap.size,1,none⟩) E.o _) (QV E.o),(ae.o.setCell (p:=⟨w.heap.size,0,none⟩) (Qa _) _).setCell (p:=⟨w.heap.size,1,none⟩) (Qa _) _⟩
 go_wp2;obtain ⟨aa,K⟩:=N9 (((e.setCell ⟨w.heap.size,0,none⟩ (.string h)).setCell ⟨w.heap.size,1,none⟩ (.slice u L.length q)));have am:aa.cell? ⟨w.heap.size,0,none⟩=some (.string h):=by rw [<- K];simp [go_sem,ah]
 have an:aa.cell? ⟨w.heap.size,1,none⟩=some (.slice u L.length q):=by rw [<- K];simp [go_sem,ad]
 rw [K] at O |-;refine bodyPost_ret (v:=.agg #[.string h,.slice u L.length q]) ?_ rfl O.o;simp [results,results32,go_sem,am,an]
def qf2 (w:World) (A:Option Addr) (b:List Int):Prop:=
 b=[]\/∃ q j,A=some ⟨q,j,none⟩/\∀ h (y:h<b.length),w.cell? ⟨q,j+h,none⟩=some (.int .i64 b[h])
theorem qf2.at_ {w:World} {A:Option Addr} {q:List Int} (z:qf2 w A q) {k:Nat} (y:k<q.length):∃ h b,A=some ⟨h,b,none⟩/\w.cell? ⟨h,b+k,none⟩=some (.int .i64 q[k]):=by
 rcases z with rfl | ⟨h,b,rfl,E⟩
 ·simp at y
 ·exact ⟨h,b,rfl,E k y⟩
def qcF (n q:Int) (y:List Int):Bool:=y.all fun h=>decide (n<=h)&&decide (h<=q)
theorem ql3 (q y:Int) (h:List Int) (k:Nat) (z:k<h.length) (E:h[k]<q\/y<h[k]):qcF q y h=false:=by
 unfold qcF;rw [List.all_eq_false];refine ⟨h[k],QJ z,?_⟩;simp;omega
theorem qr1 (q y:Int) (h:List Int) (x:∀ j (x:j<h.length),q<=h[j]/\h[j]<=y):qcF q y h=true:=by
 unfold qcF;rw [QA];intro G E;obtain ⟨j,z,rfl⟩:=Ze E;have:=x j z;simp;omega
theorem fits_any (i j:Int) (A:Option Addr) (cap:Nat) (b:List Int) (T:b.length<=maxLen) (w:World) (F:qf2 w A b) :
  Calls prog 84 #[.int .i64 i,.int .i64 j,.slice A b.length cap] w fun z N=>z=.returned (.bool (qcF i j b))/\w=N:=by
 unfold maxLen at T;have R:=J9 F;clear F
 go_enter func84,ntmps84
 go_wp2
 go_loop [11] (fun y=>∃ h:Nat,h<=b.length/\y=.int .i64 h/\Hid (∀ e (k:e<b.length),e<h->i<=b[e]/\b[e]<=j)) (fun y=>b.length - (intOf y).toNat)
 case atStart=>exact ⟨0,Qu _,rfl,fun e k O=>by omega⟩
 case round=>
  obtain ⟨h,aa,rfl,G⟩:=hrel;by_cases E:h<b.length
  ·obtain ⟨V,Z,J,W⟩:=R.o.at_ E
   subst J;by_cases K:b[h]<i
   ·have q:=J9 (ql3 i j b h E (.inl K))
    go_wp2;go_ret;exact ⟨qab q.o.symm,rfl⟩
   ·by_cases U:j<b[h]
    ·have q:=J9 (ql3 i j b h E (.inr U))
     go_wp2;go_ret;exact ⟨qab q.o.symm,rfl⟩
    ·have M:Hid (∀ e (k:e<b.length),e<h+1->i<=b[e]/\b[e]<=j):=fun e k O=>by
      by_cases z:e=h
      ·subst z;omega
      ·exact G.o e k (by omega)
     go_wp2
     go_round
     case rel=>exact ⟨h+1,by omega,by go_num,M⟩
     case measure=>simp [intOf];omega
  ·have q:=J9 (qr1 i j b fun e k=>G.o e k (by omega))
   go_wp2;go_ret;exact ⟨qab q.o.symm,rfl⟩
theorem ints_one (w:World) (x:Int) (t:TypeId):qf2 (w.alloc (.cells #[.int .i64 x] t)) (some ⟨w.heap.size,0,none⟩) [x]:=by
 refine .inr ⟨_,_,rfl,fun j h=>?_⟩;obtain rfl:j=0:=by simp at h;omega
 simp [go_sem]
theorem qkB:(prog.info? 5).map (fun i=>(i.zero,i.size,i.bytes))=some (some (.int .u8 0),1,1):=by kernel_rfl
def qbi (x:Int):UInt8:=(if x<10 then 48+x else 55+x).toNat.toUInt8
def qdG:ByteArray:=⟨#[48,49,50,51,52,53,54,55,56,57,65,66,67,68,69,70]⟩
theorem qqm (x:Int) (q:0<=x) (y:x<16) (i:x.toNat<qdG.size):qdG[x.toNat]=qbi x:=by
 have t:∀ h:Fin 16,∀ i:h.val<qdG.size,qdG[h.val]=qbi (h.val:Int):=by decide +kernel
 have:=t ⟨x.toNat,by omega⟩ i;simpa [Int.toNat_of_nonneg q] using this
theorem qwS (x:Int):bits .and .i64 x 15=x % 16:=by
 show IntKind.i64.wrap ((BitVec.ofInt 64 x &&& BitVec.ofInt 64 15).toNat:Int)=_;rw [BitVec.toNat_and,show (BitVec.ofInt 64 15).toNat=2 ^ 4 - 1 from rfl,Nat.and_two_pow_sub_one_eq_mod,BitVec.toNat_ofInt,IntKind.wrap_i64];omega
def qaY (n:Int) (i:Nat):Int:=(n / 2 ^ (4*i)) % 16
theorem qa1 (n:Int) (i:Nat):0<=qaY n i/\qaY n i<16:=by unfold qaY;omega
def hexS (n:Int) (d:Nat):ByteArray:=⟨((List.range d).map fun h=>qbi (qaY n (d - 1 - h))).toArray⟩
theorem qaQ (n:Int) (d:Nat):(hexS n d).size=d:=by show (((List.range d).map fun h=>qbi (qaY n (d - 1 - h))).toArray).size=d;simp
theorem qwt (n:Int) (d j:Nat) (q:j<(hexS n d).size):(hexS n d)[j]=qbi (qaY n (d - 1 - j)):=by
 have h:(hexS n d).data[j]'q=qbi (qaY n (d - 1 - j)):=by simp [hexS]
 exact h
def qi0 (w:World) (n:Int) (d k:Nat) (wr:World):Prop:=
 (∀ h,h<d->wr.cell? ⟨w.heap.size+1,h,none⟩=some (.int .u8 (if d - 1 - h<k then ((qbi (qaY n (d - 1 - h))).toNat:Int) else 0)))/\(∀ h,h<d->wr.frozen? ⟨w.heap.size+1,h,none⟩=false)/\Below w.heap.size w wr
theorem qiR (w:World) (n:Int) (d:Nat) (j:Obj) (e:TypeId):qi0 w n d 0 ((w.alloc j).alloc (.cells (madeCells #[.int .u8 0] d) e)):=by
 refine ⟨fun q h=>?_,fun q h=>?_,(B0).alloc (by simp) _⟩
 ·rw [Qe (by omega)]
  simp [go_sem,madeCells,h,Nat.mod_one]
 ·simp [go_sem]
theorem qlk (w wr:World) (n:Int) (d k:Nat) (K:k<d) (E:qi0 w n d k wr) :
  qi0 w n d (k+1) (wr.setCell ⟨w.heap.size+1,d - 1 - k,none⟩ (.int .u8 ((qbi (qaY n k)).toNat:Int))):=by
 obtain ⟨q,G,z⟩:=E;refine ⟨fun e h=>?_,fun e h=>?_,z.setCell (by simp) _⟩
 ·by_cases J:e=d - 1 - k
  ·subst J
   have:=q _ h;have y:d - 1 - (d - 1 - k)=k:=(by omega);rw [Qi (by omega),y];simp [go_sem,this]
  ·rw [World.cell?_setCell_other _ _ _ _ (by simp),q e h]
   by_cases j:d - 1 - e<k
   ·rw [Qi j,Qi (by omega)]
   ·rw [Qe j,Qe (by omega)]
 ·simp [go_sem,G e h]
theorem qny (w wr:World) (n:Int) (d cap:Nat) (y:qi0 w n d d wr) :
  (convert 35 9 (.slice (some ⟨w.heap.size+1,0,none⟩) d cap)).run prog wr=.ok (.string (hexS n d)) wr:=by
 have q:=Lib.run_convert_whole (P:=prog) wr 35 5 9 underlying35 underlying5 underlying9 (w.heap.size+1) 0 (hexS n d) (fun h i=>by
  have z:h<d:=by rw [qaQ] at i;exact i
  rw [QT,y.1 h z,Qi (by omega),qwt n d h i]) cap
 rw [qaQ] at q;exact q
theorem qkr (n:Int) (d:Nat) (aa:d<=8) (w:World) :
  Calls prog 86 #[.int .i64 n,.int .i64 d] w fun x G=>x=.returned (.string (hexS n d))/\Below w.heap.size w G:=by
 have hF:qcF 0 8 [(d:Int)]=true:=by simp [qcF];omega
 have O:=fun w=>run_make_row' (P:=prog) 35 5 (.int .u8 0) 1 underlying35 qkB rfl .i64 .i64 d (by omega) (by omega) w
 have T:=fun S=>J9 (qiR w n d S 5)
 go_enter func86,ntmps86
 go_wp2_with (go_at_call 84;refine (fits_any 0 8 _ _ [(d:Int)] (by simp [maxLen]) _ (ints_one _ _ _)).mono ?_;rintro x G ⟨rfl,rfl⟩)
 clear O
 go_loopw [14] (fun i wr=>∃ e:Nat,e<=d/\i=.int .i64 e/\qi0 w n d e wr) (fun i _=>d - (intOf i).toNat)
 case atStart=>exact ⟨0,Qu _,rfl,(T _).o⟩
 case round=>
  obtain ⟨e,Z,rfl,M⟩:=hrel;have h:=J9 M;clear M;by_cases U:e<d
  ·have q:=qwS (n / 2 ^ (4*e))
   obtain ⟨E,K⟩:=qa1 n e;have J:qaY n e=n / 2 ^ (4*e) % 16:=rfl;rw [<- J] at q;clear J;obtain ⟨y,k⟩:=N9 (qaY n e);rw [k] at q E K;have N:=J9 k;clear k;have W:=h.o.1 (d - 1 - e) (by omega);have X:=h.o.2.1 (d - 1 - e) (by omega);have R:=J9 (qlk w wr n d e U h.o);go_wp2;go_roundw
   case rel=>exact ⟨e+1,by omega,by go_num,by have z:=R.o;rw [N.o,<- qqm y E K (by show y.toNat<16;omega)] at z;exact z⟩
   case measure=>simp [intOf];omega
  ·obtain rfl:e=d:=by omega
   have V:=qny w wr n e e h.o;go_wp2;go_ret;exact ⟨rfl,h.o.2.2⟩
theorem qhv (s:ByteArray) (a b:Nat):(s.extract a b).size<=s.size:=by simp;omega
theorem qah {a b:ByteArray} (h:a.data.toList=b.data.toList):a=b:=by
 apply ByteArray.ext;exact Array.toList_inj.1 h
def qmk:Value->Nat
 | .string h=>h.size
 | _=>0
def qcg (c:UInt8) (s:ByteArray):ByteArray:=⟨(s.data.toList.dropWhile (· == c)).toArray⟩
theorem qgt (t:ByteArray) (q:0<t.size):t.data.toList=t[0] :: (t.extract 1 t.size).data.toList:=by
 rw [Lib.extract_data];have y:0<t.data.toList.length:=by simpa using q
 have h:=List.drop_eq_getElem_cons y;rw [Qx] at h;rw [QW (by simp),<- show t.data.toList[0]=t[0] from rfl];exact h
theorem qhl (c:UInt8) (t:ByteArray) (h:0<t.size) (e:t[0]=c):qcg c (t.extract 1 t.size)=qcg c t:=by
 apply qah;unfold qcg;simp only [qgt t h,List.dropWhile_cons,e,beq_self_eq_true,if_true]
theorem qhb (c:UInt8) (t:ByteArray) (h:0<t.size) (e:¬t[0]=c):qcg c t=t:=by
 apply qah;unfold qcg;show List.dropWhile (· == c) t.data.toList=_;rw [qgt t h,List.dropWhile_cons];simp [e]
theorem qgu (c:UInt8) (t:ByteArray) (q:¬0<t.size):qcg c t=t:=by
 apply qah;have y:t.data.toList.length=t.size:=by simp
 have h:t.data.toList=[]:=Qw (by omega);unfold qcg;simp [h]
theorem qfi (s:ByteArray) (c:UInt8) (z:s.size<=maxLen) (w:World) :
  Calls prog 136 #[.string s,.int .u8 (c.toNat:Int)] w fun h E=>h=.returned (.string (qcg c s))/\w=E:=by
 unfold maxLen at z
 go_enter func136,ntmps136
 go_wp2
 go_loop [0] (fun y=>∃ e:ByteArray,y=.string e/\e.size<=2 ^ 63 - 1/\Hid (qcg c e=qcg c s)) (fun y=>qmk y)
 case atStart=>exact ⟨s,rfl,z,rfl⟩
 case round=>
  obtain ⟨e,rfl,G,t⟩:=hrel;by_cases v:0<e.size
  ·have M:((e.size:Int) == 0)=false:=by rw [Qm];omega
   by_cases h:e[0]=c
   ·have J:((e[0].toNat:Int) == (c.toNat:Int))=true:=by rw [h];simp
    have q:Hid (qcg c (e.extract 1 e.size)=qcg c s):=(qhl c e v h).trans t.o;clear h;go_wp2
    go_round
    case rel=>exact ⟨_,rfl,Qj (qhv e 1 e.size) G,q⟩
    case measure=>simp [qmk];omega
   ·have J:((e[0].toNat:Int) == (c.toNat:Int))=false:=by
     rw [Qm];intro K;exact h (UInt8.toNat_inj.1 (by omega))
    have q:Hid (e=qcg c s):=(qhb c e v h).symm.trans t.o;clear h;go_wp2;go_ret;exact ⟨qaq q.o,rfl⟩
  ·have q:Hid (e=qcg c s):=(qgu c e v).symm.trans t.o
   go_wp2;go_ret;exact ⟨qaq q.o,rfl⟩
theorem qin (s:ByteArray) (q:s.size<=maxLen) (w:World) :
  Calls prog 85 #[.string s,.string ⟨#[48]⟩] w fun z h=>z=.returned (.string (qcg 48 s))/\w=h:=by
 have J:=q;unfold maxLen at q;by_cases e:s.toList.isEmpty=true
 ·have E:¬0<s.size:=by
   rw [QO] at e;have G:s.data.toList=[]:=(by simpa using e);have y:s.data.toList.length=s.size:=(by simp);rw [G] at y;simp at y;omega
  have K:=J9 (qgu 48 s E).symm
  go_enter func85,ntmps85
  go_wp2;go_ret;exact ⟨qaq K.o,rfl⟩
 ·have M:s.toList.isEmpty=false:=by simpa using e
  clear e
  go_enter func85,ntmps85
  go_wp2_with (go_at_call 136;refine (qfi _ 48 J _).mono ?_;rintro z h ⟨rfl,rfl⟩)
  go_ret;exact ⟨rfl,rfl⟩
def qAj (k:Nat):Int:=match k with
 | 0=>10
 | 1=>16
 | 2=>16
 | 3=>16
 | _=>2
def qh0 (k:Nat) (u:ByteArray):Option Int:=if qyk k u=true then rdO (qAj k) (qAp k u) else none
def qt4 (u:ByteArray):Nat->Option Int
 | 0=>none
 | k+1=>(qt4 u k).or (qh0 k u)
def qy8 (s:ByteArray):Option Int:=qt4 (upB s) 6
def digS (n:Int):ByteArray:=qcg 48 (hexS n 4)
theorem qwc:∀ x:Fin 16,(qbi (x.val:Int)=48↔x.val=0):=by decide +kernel
theorem qef (x:Int) (y:0<=x) (q:x<16):qbi x=48↔x=0:=by
 have e:=qwc ⟨x.toNat,by omega⟩;have h:((x.toNat:Nat):Int)=x:=by omega
 simp only [h] at e;rw [e];omega
theorem qz5 (n:Int):(hexS n 4).data.toList=[qbi (qaY n 3),qbi (qaY n 2),qbi (qaY n 1),qbi (qaY n 0)]:=by unfold hexS;simp [List.range_succ]
theorem qdx (n:Int) (V:10<=n) (M:n<=65535) :
  (4096<=n/\(digS n).data.toList=[qbi (qaY n 3),qbi (qaY n 2),qbi (qaY n 1),qbi (qaY n 0)]/\1<=qaY n 3)\/
  (n<4096/\256<=n/\(digS n).data.toList=[qbi (qaY n 2),qbi (qaY n 1),qbi (qaY n 0)]/\1<=qaY n 2)\/
  (n<256/\16<=n/\(digS n).data.toList=[qbi (qaY n 1),qbi (qaY n 0)]/\1<=qaY n 1)\/
  (n<16/\(digS n).data.toList=[qbi (qaY n 0)]/\1<=qaY n 0):=by
 have E:=qef (qaY n 3) (qa1 n 3).1 (qa1 n 3).2;have h:=qef (qaY n 2) (qa1 n 2).1 (qa1 n 2).2;have K:=qef (qaY n 1) (qa1 n 1).1 (qa1 n 1).2;have z:=qef (qaY n 0) (qa1 n 0).1 (qa1 n 0).2;have U:qaY n 3=n / 4096 % 16:=by unfold qaY;simp
 have T:qaY n 2=n / 256 % 16:=by unfold qaY;simp
 have O:qaY n 1=n / 16 % 16:=by unfold qaY;simp
 have W:qaY n 0=n % 16:=by unfold qaY;simp
 have y:(digS n).data.toList=List.dropWhile (· == 48) [qbi (qaY n 3),qbi (qaY n 2),qbi (qaY n 1),qbi (qaY n 0)]:=by unfold digS qcg;rw [qz5]
 rw [y];simp only [List.dropWhile_cons,beq_iff_eq,E,h,K,z];by_cases G:4096<=n
 ·left
  rw [Qe (by omega)];exact ⟨G,rfl,by omega⟩
 ·right
  rw [Qi (by omega)];by_cases q:256<=n
  ·left
   rw [Qe (by omega)];exact ⟨by omega,q,rfl,by omega⟩
  ·right
   rw [Qi (by omega)];by_cases J:16<=n
   ·left
    rw [Qe (by omega)];exact ⟨by omega,J,rfl,by omega⟩
   ·right
    rw [Qi (by omega),Qe (by omega)];exact ⟨by omega,rfl,by omega⟩
theorem qft (n:Int) (z:10<=n) (y:n<=65535):0<(digS n).size:=by
 have q:(digS n).data.toList.length=(digS n).size:=by simp
 rcases qdx n z y with ⟨_,h,_⟩ | ⟨_,_,h,_⟩ | ⟨_,_,h,_⟩ | ⟨_,h,_⟩ <;> rw [h] at q <;> simp at q <;> omega
theorem qsm (c:UInt8) (s:ByteArray):(qcg c s).size<=s.size:=by
 show (List.dropWhile (· == c) s.data.toList).toArray.size<=s.data.size;have h:=(List.dropWhile_sublist (p:=(· == c)) (l:=s.data.toList)).length_le;simpa using h
theorem qlf (n:Int):(digS n).size<=4:=by
 have h:=qsm 48 (hexS n 4);rw [qaQ] at h;exact h
theorem qqr (n:Int):(hexS n 4).size<=maxLen:=by rw [qaQ];simp [maxLen]
theorem hex4_any (n:Int) (w:World) :
  Calls prog 86 #[.int .i64 n,.int .i64 4] w fun h e=>h=.returned (.string (hexS n 4))/\Below w.heap.size w e:=qkr n 4 (by omega) w
theorem trimDig_any (n:Int) (w:World) :
  Calls prog 85 #[.string (hexS n 4),.string ⟨#[48]⟩] w fun h e=>h=.returned (.string (digS n))/\w=e:=qin _ (qqr n) w
def textS (n:Int):ByteArray:=
 if n<0\/65535<n then ⟨#[]⟩
 else if n<10 then ⟨#[qbi n]⟩
 else if qgI (((digS n).data.toList.getD 0 0).toNat:Int) then ⟨((digS n).data.toList++[72]).toArray⟩ else ⟨(48 :: (digS n).data.toList++[72]).toArray⟩
theorem qn5 (n:Int) (q:0<=n) (h:n<=65535):qcF 0 65535 [n]=true:=by simp [qcF];omega
theorem qoF (n:Int) (h:n<0\/65535<n):qcF 0 65535 [n]=false:=by simp [qcF];omega
theorem qnH (n:Int) (z:0<=n) (i:n<10):qdG.extract n.toNat (n+1).toNat=textS n:=by
 have t:∀ e:Fin 10,qdG.extract e.val (e.val+1)=⟨#[qbi (e.val:Int)]⟩:=by decide +kernel
 have h:=t ⟨n.toNat,by omega⟩;have y:((n.toNat:Nat):Int)=n:=by omega
 have q:(n+1).toNat=n.toNat+1:=by omega
 simp only [y] at h;unfold textS;rw [Qe (by omega),Qi i,q];exact h
theorem qxR (t:ByteArray) (h:0<t.size):t.data.toList.getD 0 0=t[0]:=by rw [Ql,Qg (by simpa using h)];rfl
theorem qaa (a b:ByteArray):(a++b).data.toList=a.data.toList++b.data.toList:=by simp
theorem qhY (n:Int) (z:10<=n) (y:n<=65535) (h:0<(digS n).size) (q:qgI ((digS n)[0].toNat:Int)=true):digS n++⟨#[72]⟩=textS n:=by
 apply qah;unfold textS;rw [Qe (by omega),Qe (by omega),qxR _ h,q,qaa];simp
theorem qia (n:Int) (z:10<=n) (y:n<=65535) (h:0<(digS n).size) (q:qgI ((digS n)[0].toNat:Int)=false):(⟨#[48]⟩++digS n)++⟨#[72]⟩=textS n:=by
 apply qah;unfold textS;rw [Qe (by omega),Qe (by omega),qxR _ h,q,qaa,qaa];simp
theorem qdZ (n:Int) (w:World) :
  Calls prog 49 #[.int .i64 n] w fun e h=>e=.returned (.string (textS n))/\Below w.heap.size w h:=by
 by_cases z:n<0\/65535<n
 ·have hF:=qoF n z
  have q:=J9 (show (⟨#[]⟩:ByteArray)=textS n by unfold textS;rw [Qi z]);clear z
  go_enter func49,ntmps49
  go_wp2_with (go_at_call 84;refine (fits_any 0 65535 _ _ [n] (by simp [maxLen]) _ (ints_one _ _ _)).mono ?_;rintro e h ⟨rfl,rfl⟩)
  go_ret;exact ⟨qaq q.o,B0⟩
 ·have y:n<=65535:=by omega
  have J:0<=n:=by omega
  have hF:=qn5 n J y;clear z;by_cases V:n<10
  ·have q:=J9 (qnH n J V)
   go_enter func49,ntmps49
   go_wp2_with (go_at_call 84;refine (fits_any 0 65535 _ _ [n] (by simp [maxLen]) _ (ints_one _ _ _)).mono ?_;rintro e h ⟨rfl,rfl⟩)
   go_ret;exact ⟨qaq q.o,B0⟩
  ·have O:=qft n (by omega) y
   have W:=qlf n;have M:(0:Int)<=((digS n)[0].toNat:Int):=(by omega);have K:((digS n)[0].toNat:Int)<=255:=(by have:=(digS n)[0].toNat_lt;omega);by_cases E:qgI ((digS n)[0].toNat:Int)=true
   ·have q:=J9 (qhY n (by omega) y O E)
    go_enter func49,ntmps49
    go_wp2_with (first | (go_at_call 84;refine (fits_any 0 65535 _ _ [n] (by simp [maxLen]) _ (ints_one _ _ _)).mono ?_;rintro e h ⟨rfl,rfl⟩) | (go_at_call 86;refine (hex4_any n _).mono ?_;rintro e U ⟨rfl,G⟩) | (go_at_call 85;refine (trimDig_any n _).mono ?_;rintro e h ⟨rfl,rfl⟩) | (go_at_call 87;refine (isDecimal_any _ M K _).mono ?_;rintro e h ⟨rfl,rfl⟩))
    go_ret;exact ⟨qaq q.o,(B0).trans (G.mono (by simp))⟩
   ·have T:qgI ((digS n)[0].toNat:Int)=false:=by simpa using E
    clear E;have q:=J9 (qia n (by omega) y O T)
    go_enter func49,ntmps49
    go_wp2_with (first | (go_at_call 84;refine (fits_any 0 65535 _ _ [n] (by simp [maxLen]) _ (ints_one _ _ _)).mono ?_;rintro e h ⟨rfl,rfl⟩) | (go_at_call 86;refine (hex4_any n _).mono ?_;rintro e U ⟨rfl,G⟩) | (go_at_call 85;refine (trimDig_any n _).mono ?_;rintro e h ⟨rfl,rfl⟩) | (go_at_call 87;refine (isDecimal_any _ M K _).mono ?_;rintro e h ⟨rfl,rfl⟩))
    go_ret;exact ⟨qaq q.o,(B0).trans (G.mono (by simp))⟩
theorem qlj (c:Int) (D:0<=c) (y:c<=255) (w:World) :
  Calls prog 103 #[.int .u8 c] w fun q h=>q=.returned (.int .i64 (qqv c))/\w=h:=by
 by_cases z:128<=c
 ·have e:=J9 (show c - 256=qqv c by unfold qqv;rw [Qe (by omega)])
  go_enter func103,ntmps103
  go_wp2;go_ret;exact ⟨qao e.o,rfl⟩
 ·have e:=J9 (show c=qqv c by unfold qqv;rw [Qi (by omega)])
  go_enter func103,ntmps103
  go_wp2;go_ret;exact ⟨qao e.o,rfl⟩
theorem qn3 (x:Int) (z:0<=x) (y:x<16):qdG.extract x.toNat (x+1).toNat=⟨#[qbi x]⟩:=by
 have t:∀ e:Fin 16,qdG.extract e.val (e.val+1)=⟨#[qbi (e.val:Int)]⟩:=by decide +kernel
 have h:=t ⟨x.toNat,by omega⟩;have q:((x.toNat:Nat):Int)=x:=by omega
 have i:(x+1).toNat=x.toNat+1:=by omega
 simp only [q] at h;rw [i];exact h
theorem qi4 (n:Int) (k:Nat):(hexS n (k+1)).data.toList=qbi (qaY n k) :: (hexS n k).data.toList:=by
 have j:(List.range (k+1)).map (fun e=>qbi (qaY n (k+1 - 1 - e)))=qbi (qaY n k) :: (List.range k).map fun e=>qbi (qaY n (k - 1 - e)):=by
  rw [List.range_succ_eq_map,List.map_cons,List.map_map]
  congr 1
  apply List.map_congr_left;intro e h;have:=QZ.1 h;show qbi (qaY n (k+1 - 1 - (e+1)))=_;rw [show k+1 - 1 - (e+1)=k - 1 - e by omega]
 unfold hexS;simpa using j
theorem qvB (n m:Int) (k:Nat) (h:m=n / 2 ^ (4*k)):m % 16=qaY n k:=by unfold qaY;rw [h]
theorem qr7 (n m:Int) (k:Nat) (h:m=n / 2 ^ (4*k)):m / 16=n / 2 ^ (4*(k+1)):=by rw [h,Int.ediv_ediv_of_nonneg (by exact Int.pow_nonneg (by omega)),show (2:Int) ^ (4*(k+1))=2 ^ (4*k)*16 by rw [Nat.mul_add,Int.pow_add];rfl]
theorem qfv (n:Int) (d:Nat) (V:d<=8) (w:World) :
  Calls prog 56 #[.int .i64 n,.int .i64 d] w fun G N=>G=.returned (.string (hexS n d))/\w=N:=by
 go_enter func56,ntmps56
 go_wp2
 go_loop [0,5,6] (fun J K k=>∃ (a:Nat) (h:Int) (e:ByteArray),a<=d/\k=.int .i64 a/\J=.int .i64 h/\K=.string e/\e.size<=8/\Hid (h=n / 2 ^ (4*a))/\Hid (e=hexS n a)) (fun _ _ k=>d - (intOf k).toNat)
 case atStart=>exact ⟨0,n,⟨#[]⟩,Qu _,rfl,rfl,rfl,by decide,by show n=n / 2 ^ (4*0);simp,rfl⟩
 case round=>
  obtain ⟨a,h,e,T,rfl,rfl,rfl,O,z,s⟩:=hrel;by_cases U:a<d
  ·have q:=qwS h
   obtain ⟨t,y⟩:=qa1 n a;rw [qvB n h a z.o] at q;obtain ⟨i,m⟩:=N9 (qaY n a);rw [m] at q t y;have x:Hid (qdG.extract i.toNat (i+1).toNat++e=hexS n (a+1)):=by
    rw [qn3 i t y];apply qah;rw [qaa,qi4,s.o,m];rfl
   clear m;go_wp2
   go_round
   case rel=>exact ⟨a+1,_,_,by omega,by go_num,rfl,rfl,by show (qdG.extract i.toNat (i+1).toNat++e).size<=8;rw [x.o,qaQ];omega,qr7 n h a z.o,x⟩
   case measure=>simp [intOf];omega
  ·have E:Hid (e=hexS n d):=by have M:=s.o;rwa [show a=d by omega] at M
   go_wp2;go_ret;exact ⟨qaq E.o,rfl⟩
theorem qsM:∀ x:Fin 16,(qgI ((qbi (x.val:Int)).toNat:Int)=decide (x.val<10))/\(decide (65<=(qbi (x.val:Int)).toNat)=decide (10<=x.val)):=by decide +kernel
theorem qsd (x:Int) (G:0<=x) (E:x<16):qgI ((qbi x).toNat:Int)=!decide ((65:Int)<=((qbi x).toNat:Int)):=by
 have e:=qsM ⟨x.toNat,by omega⟩;have z:((x.toNat:Nat):Int)=x:=by omega
 simp only [z] at e;rw [e.1];have c:=e.2;by_cases q:x.toNat<10
 ·have:¬65<=(qbi x).toNat:=by
   intro y;rw [Qn y] at c;have:=Qo c.symm;omega
  have h:¬(65:Int)<=((qbi x).toNat:Int):=by omega
  rw [Qn q,Qh h];rfl
 ·have:65<=(qbi x).toNat:=by
   rw [Qn (show 10<=x.toNat by omega)] at c;exact Qo c
  have h:(65:Int)<=((qbi x).toNat:Int):=by omega
  rw [Qh q,Qn h];rfl
theorem qis (t:ByteArray) (q:0<t.size) (a:UInt8) (l:List UInt8) (e:t.data.toList=a :: l):t[0]=a:=by
 have h:t.data.toList[0]'(by simpa using q)=t[0]:=rfl;rw [<- h];simp [e]
theorem qqE (n:Int) (z:10<=n) (y:n<=65535) (q:0<(digS n).size):∃ i,(digS n)[0]=qbi (qaY n i):=by
 rcases qdx n z y with ⟨_,h,_⟩ | ⟨_,_,h,_⟩ | ⟨_,_,h,_⟩ | ⟨_,h,_⟩
 ·exact ⟨_,qis _ q _ _ h⟩
 ·exact ⟨_,qis _ q _ _ h⟩
 ·exact ⟨_,qis _ q _ _ h⟩
 ·exact ⟨_,qis _ q _ _ h⟩
theorem qtB (n:Int) (q:10<=n) (i:n<=65535) (h:0<(digS n).size):qgI ((digS n)[0].toNat:Int)=!decide ((65:Int)<=((digS n)[0].toNat:Int)):=by
 obtain ⟨e,y⟩:=qqE n q i h;rw [y];exact qsd _ (qa1 n e).1 (qa1 n e).2
theorem qqQ (n:Int) (w:World) :
  Calls prog 56 #[.int .i64 n,.int .i64 4] w fun h e=>h=.returned (.string (hexS n 4))/\w=e:=qfv n 4 (by omega) w
theorem qs0 (n:Int) (q:0<=n) (h:n<10):hexS n 1=textS n:=by
 apply qah;rw [qi4];unfold textS;rw [Qe (by omega),Qi h];have:qaY n 0=n:=by unfold qaY;simp;omega
 rw [this];rfl
theorem qqU (n:Int) (y:0<=n) (q:n<10) (w:World) :
  Calls prog 56 #[.int .i64 n,.int .i64 1] w fun z h=>z=.returned (.string (textS n))/\w=h:=by
 have e:=qfv n 1 (by omega) w;rw [qs0 n y q] at e;exact e
theorem qda (n:Int) (w:World) :
  Calls prog 50 #[.int .i64 n] w fun e F=>e=.returned (.string (textS n))/\w=F:=by
 by_cases O:n<0
 ·have h:=J9 (show (⟨#[]⟩:ByteArray)=textS n by unfold textS;rw [Qi (.inl O)])
  go_enter func50,ntmps50
  go_wp2;go_ret;exact ⟨qaq h.o,rfl⟩
 ·by_cases T:65535<n
  ·have h:=J9 (show (⟨#[]⟩:ByteArray)=textS n by unfold textS;rw [Qi (.inr T)])
   go_enter func50,ntmps50
   go_wp2;go_ret;exact ⟨qaq h.o,rfl⟩
  ·by_cases N:n<10
   ·have W:0<=n:=by omega
    go_enter func50,ntmps50
    go_wp2_with (go_at_call 56;refine (qqU n W N _).mono ?_;rintro e F ⟨rfl,rfl⟩)
    go_ret;exact ⟨rfl,rfl⟩
   ·have v:n<=65535:=by omega
    have q:=qft n (by omega) v;have aa:=qlf n;have M:=qtB n (by omega) v q
    go_enter func50,ntmps50
    have J:=J9 M;clear M
    go_wp2_with (go_at_call 56;refine (qqQ n _).mono ?_;rintro e F ⟨rfl,rfl⟩)
    go_loop [3] (fun G=>∃ c:ByteArray,G=.string c/\c.size<=4/\0<c.size/\Hid (qcg 48 c=digS n)) (fun G=>qmk G)
    case atStart=>exact ⟨_,rfl,by rw [qaQ];omega,by rw [qaQ];omega,rfl⟩
    case round=>
     obtain ⟨c,rfl,U,K,h⟩:=hrel;have ab:((c.size:Int) == 0)=false:=(by rw [Qm];omega);by_cases e:c[0]=48
     ·have Z:((c[0].toNat:Int) == 48)=true:=by rw [e];rfl
      have y:Hid (qcg 48 (c.extract 1 c.size)=digS n):=(qhl 48 c K e).trans h.o;have V:0<(c.extract 1 c.size).size:=by
       by_cases z:0<(c.extract 1 c.size).size
       ·exact z
       ·have t:=qgu 48 _ z
        rw [y.o] at t;rw [t] at q;exact absurd q z
      clear e;go_wp2
      go_round
      case rel=>exact ⟨_,rfl,Qj (qhv c 1 c.size) U,V,y⟩
      case measure=>simp [qmk];omega
     ·have Z:((c[0].toNat:Int) == 48)=false:=by
       rw [Qm];intro N;exact e (UInt8.toNat_inj.1 (by show c[0].toNat=48;omega))
      have y:c=digS n:=(qhb 48 c K e).symm.trans h.o;subst y;clear e h;by_cases t:(65:Int)<=((digS n)[0].toNat:Int)
      ·have E:=J9 (qia n (by omega) v q (by rw [J.o];simp [t]))
       go_wp2;go_ret;exact ⟨qaq E.o,rfl⟩
      ·have E:=J9 (qhY n (by omega) v q (by rw [J.o];simp [t]))
       go_wp2;go_ret;exact ⟨qaq E.o,rfl⟩
end Go.Proofs.YtecpnfhpcamljaaGreatDoor
namespace Go.Proofs.YtecpnfhpcamljaaGreatDoor
open Tryz
def qzb (base:Int) (l:List UInt8):Option Int:=if l=[] then none else rdL base l
theorem qrU (u p:ByteArray):preB u p=true↔∃ q,u.data.toList=p.data.toList++q:=by
 unfold preB;rw [Qd,decide_eq_true_iff,beq_iff_eq,QO,QO,Lib.extract_data];have y:u.data.toList.length=u.size:=by simp
 have r:p.data.toList.length=p.size:=by simp
 constructor
 ·rintro ⟨_,h⟩
  simp only [Qx,Nat.sub_zero] at h;exact ⟨u.data.toList.drop p.size,by rw [<- h,List.take_append_drop]⟩
 ·rintro ⟨q,h⟩
  refine ⟨?_,?_⟩
  ·rw [<- y,h,Qk];omega
  ·simp only [Qx,Nat.sub_zero]
   rw [h,<- r,List.take_left]
theorem qsT (u p:ByteArray):qwA u p=true↔∃ r,u.data.toList=r++p.data.toList:=by
 unfold qwA;rw [Qd,decide_eq_true_iff,beq_iff_eq,QO,QO,Lib.extract_data];have q:u.data.toList.length=u.size:=by simp
 have z:p.data.toList.length=p.size:=by simp
 constructor
 ·rintro ⟨E,h⟩
  rw [QW (by rw [Zj];omega)] at h;exact ⟨u.data.toList.take (u.size - p.size),by rw [<- h,List.take_append_drop]⟩
 ·rintro ⟨r,h⟩
  have y:u.size - p.size=r.length:=by rw [<- q,h,Qk];omega
  refine ⟨?_,?_⟩
  ·rw [<- q,h,Qk];omega
  ·rw [y,h,List.drop_left]
   exact QW (by rw [<- q,h,Qk];omega)
theorem qjx (u p:ByteArray) (r:List UInt8) (h:u.data.toList=r++p.data.toList):qwA u p=true/\(qf5 u p).data.toList=r:=by
 have q:=(qsT u p).2 ⟨r,h⟩;have y:u.data.toList.length=u.size:=by simp
 have E:p.data.toList.length=p.size:=by simp
 have z:u.size - p.size=r.length:=by rw [<- y,h,Qk];omega
 refine ⟨q,?_⟩;unfold qf5;rw [Qi q,Lib.extract_data,z,h,Qx,Nat.sub_zero,List.take_left]
theorem qvT (u:ByteArray):qh0 0 u=qzb 10 u.data.toList:=by unfold qh0;rw [Qi (show qyk 0 u=true from rfl)];rfl
theorem qjF (k:Nat) (p u:ByteArray) (h:qyk k u=preB u p) (e:¬∃ r,u.data.toList=p.data.toList++r):qh0 k u=none:=by
 unfold qh0;rw [h,Qe (fun q=>e ((qrU u p).1 q))]
theorem qvG (u:ByteArray) (h:¬∃ r,u.data.toList=48 :: 88 :: r):qh0 1 u=none:=qjF 1 ⟨#[48,88]⟩ u rfl h
theorem quP (u:ByteArray) (h:¬∃ r,u.data.toList=36 :: r):qh0 2 u=none:=qjF 2 ⟨#[36]⟩ u rfl h
theorem qwe (u:ByteArray) (r:List UInt8) (q:u.data.toList=r++[72]):qy1 u=(!r.isEmpty&&qgI ((r.getD 0 0).toNat:Int)):=by
 obtain ⟨h,y⟩:=qjx u ⟨#[72]⟩ r q;unfold qy1;rw [h,QO,y,Bool.true_and]
theorem qwl (u:ByteArray) (c:UInt8) (r:List UInt8) (h:u.data.toList=(c :: r)++[72]) (y:qgI (c.toNat:Int)=true):qh0 3 u=qzb 16 (c :: r):=by
 obtain ⟨E,q⟩:=qjx u ⟨#[72]⟩ (c :: r) h;have z:qyk 3 u=true:=by
  rw [show qyk 3 u=qy1 u from rfl,qwe u (c :: r) h];simpa using y
 unfold qh0;rw [Qi z];unfold rdO;rw [show qAp 3 u=qf5 u ⟨#[72]⟩ from rfl,q];rfl
theorem qqY:∀ x:Fin 16,qng (qbi (x.val:Int))=qbi (x.val:Int)/\qbi (x.val:Int)≠88/\qbi (x.val:Int)≠36/\quG ((qbi (x.val:Int)).toNat:Int)=(x.val:Int):=by decide +kernel
theorem qhr (x:Int) (y:0<=x) (q:x<16):qng (qbi x)=qbi x/\qbi x≠88/\qbi x≠36/\quG ((qbi x).toNat:Int)=x:=by
 have e:=qqY ⟨x.toNat,by omega⟩;have h:((x.toNat:Nat):Int)=x:=by omega
 simp only [h] at e;exact e
theorem qa2 (m x:Int) (y:0<=x) (h:x<16) (q:m*16+x<=65535):rdStep 16 (some m) (qbi x)=some (m*16+x):=by
 unfold rdStep;rw [(qhr x y h).2.2.2];simp only [Option.bind_some];rw [Qe (by omega),Qi q]
theorem qeB (u:ByteArray) (c:UInt8) (r:List UInt8) (n:Int) (m:u.data.toList=(c :: r)++[72]) (K:upB u=u) (y:qgI (c.toNat:Int)=true) (O:∀ b∈r,b≠88)
  (z:rdL 16 (c :: r)=some n):qy8 u=some n:=by
 unfold qy8;rw [K];have T:qh0 0 u=none:=by
  rw [qvT,m];unfold qzb;rw [Qe (by simp),qrC];unfold rdStep;cases rdL 10 (c :: r) with
  | none=>rfl
  | some U=>simp only [Option.bind_some];rw [Qi (.inl (by decide))]
 have E:qh0 1 u=none:=qvG u (by
  rintro ⟨G,h⟩;rw [m] at h;cases r with
  | nil=>simp at h
  | cons b r=>
   have q:b=88:=by
    simp only [Zn,Q3] at h;exact h.2.1
   exact O b (by simp) q)
 have J:qh0 2 u=none:=quP u (by
  rintro ⟨G,h⟩;rw [m] at h;have q:c=36:=by
   simp only [Zn,Q3] at h;exact h.1
  rw [q] at y;exact absurd y (by decide))
 have M:qh0 3 u=some n:=by
  rw [qwl u c r m y];unfold qzb;rw [Qe (by simp)];exact z
 show ((((((none:Option Int).or (qh0 0 u)).or (qh0 1 u)).or (qh0 2 u)).or (qh0 3 u)).or (qh0 4 u)).or (qh0 5 u)=some n;rw [T,E,J,M];rfl
theorem qx8 (u:ByteArray) (h:∀ b∈u.data.toList,qng b=b):upB u=u:=by
 apply qah;rw [qmo]
 conv=>rhs;rw [<- List.map_id u.data.toList]
 exact List.map_congr_left h
theorem qtE (n:Int) (z:10<=n) (y:n<=65535):∀ h∈(digS n).data.toList,qng h=h/\h≠88:=by
 have b:=fun q=>qhr (qaY n q) (qa1 n q).1 (qa1 n q).2
 intro h f;rcases qdx n z y with ⟨_,i,_⟩ | ⟨_,_,i,_⟩ | ⟨_,_,i,_⟩ | ⟨_,i,_⟩ <;> rw [i] at f <;> simp only [QM,Q9,or_false] at f
 ·rcases f with rfl | rfl | rfl | rfl <;> exact ⟨(b _).1,(b _).2.1⟩
 ·rcases f with rfl | rfl | rfl <;> exact ⟨(b _).1,(b _).2.1⟩
 ·rcases f with rfl | rfl <;> exact ⟨(b _).1,(b _).2.1⟩
 ·subst f;exact ⟨(b _).1,(b _).2.1⟩
theorem qov (n:Int) (J:10<=n) (E:n<=65535):(digS n).data.toList.foldl (rdStep 16) (some 0)=some n:=by
 have M:qaY n 3=n / 4096 % 16:=by unfold qaY;simp
 have O:qaY n 2=n / 256 % 16:=by unfold qaY;simp
 have K:qaY n 1=n / 16 % 16:=by unfold qaY;simp
 have T:qaY n 0=n % 16:=by unfold qaY;simp
 have i:=fun G=>qa1 n G
 have z:=i 3;have y:=i 2;have h:=i 1;have b:=i 0;rcases qdx n J E with ⟨_,q,_⟩ | ⟨_,_,q,_⟩ | ⟨_,_,q,_⟩ | ⟨_,q,_⟩ <;> rw [q] <;> simp only [List.foldl_cons,List.foldl_nil]
 ·rw [qa2 0 _ z.1 z.2 (by omega),qa2 _ _ y.1 y.2 (by omega),qa2 _ _ h.1 h.2 (by omega),qa2 _ _ b.1 b.2 (by omega)]
  congr 1;omega
 ·rw [qa2 0 _ y.1 y.2 (by omega),qa2 _ _ h.1 h.2 (by omega),qa2 _ _ b.1 b.2 (by omega)]
  congr 1;omega
 ·rw [qa2 0 _ h.1 h.2 (by omega),qa2 _ _ b.1 b.2 (by omega)]
  congr 1;omega
 ·rw [qa2 0 _ b.1 b.2 (by omega)]
  congr 1;omega
theorem qgG:∀ i:Fin 10,qy8 (textS (i.val:Int))=some (i.val:Int):=by decide +kernel
theorem qlV (n:Int) (U:0<=n) (h:n<=65535):qy8 (textS n)=some n:=by
 by_cases T:n<10
 ·have K:=qgG ⟨n.toNat,by omega⟩
  have O:((n.toNat:Nat):Int)=n:=by omega
  simp only [O] at K;exact K
 ·have E:=qft n (by omega) h
  have y:=qgt (digS n) E;have z:=qtE n (by omega) h;have J:=qov n (by omega) h;by_cases G:qgI ((digS n)[0].toNat:Int)=true
  ·have q:(textS n).data.toList=((digS n)[0] :: ((digS n).extract 1 (digS n).size).data.toList)++[72]:=by
    rw [<- qhY n (by omega) h E G,qaa,<- y]
   refine qeB _ _ _ n q (qx8 _ fun e b=>?_) G (fun e b=>(z e (by rw [y];exact QG _ b)).2) (by rw [<- y];exact J);rw [q,<- y] at b;rcases QY.1 b with b | b
   ·exact (z e b).1
   ·simp at b;subst b;decide
  ·have M:qgI ((digS n)[0].toNat:Int)=false:=by simpa using G
   have q:(textS n).data.toList=(48 :: (digS n).data.toList)++[72]:=by
    rw [<- qia n (by omega) h E M,qaa,qaa];rfl
   refine qeB _ _ _ n q (qx8 _ fun e b=>?_) (by decide) (fun e b=>(z e b).2) (by
    unfold rdL;rw [List.foldl_cons,show rdStep 16 (some 0) 48=some 0 by decide];exact J)
   rw [q] at b;rcases QY.1 b with b | b
   ·rcases QM.1 b with rfl | b
    ·decide
    ·exact (z e b).1
   ·simp at b;subst b;decide
end Go.Proofs.YtecpnfhpcamljaaGreatDoor
namespace Go.Proofs.YtecpnfhpcamljaaGreatDoor
open Tryz
open Go.RowKit
def nmL:Nat->List ByteArray
 | 1=>[⟨#[66]⟩,⟨#[67]⟩,⟨#[68]⟩,⟨#[69]⟩,⟨#[72]⟩,⟨#[76]⟩,⟨#[]⟩,⟨#[65]⟩]
 | 2=>[⟨#[73,88,72]⟩,⟨#[73,88,76]⟩,⟨#[73,89,72]⟩,⟨#[73,89,76]⟩]
 | 3=>[⟨#[66,67]⟩,⟨#[68,69]⟩,⟨#[72,76]⟩,⟨#[83,80]⟩,⟨#[65,70]⟩,⟨#[73,88]⟩,⟨#[73,89]⟩,⟨#[65,70,39]⟩]
 | 4=>[⟨#[66,67]⟩,⟨#[68,69]⟩,⟨#[72,76]⟩,⟨#[83,80]⟩,⟨#[]⟩,⟨#[73,88]⟩,⟨#[73,89]⟩,⟨#[]⟩,⟨#[67]⟩]
 | 5=>[⟨#[]⟩,⟨#[]⟩,⟨#[]⟩,⟨#[]⟩,⟨#[]⟩,⟨#[73,88]⟩,⟨#[73,89]⟩]
 | 8=>[⟨#[78,90]⟩,⟨#[90]⟩,⟨#[78,67]⟩,⟨#[67]⟩,⟨#[80,79]⟩,⟨#[80,69]⟩,⟨#[80]⟩,⟨#[77]⟩]
 | 9=>[⟨#[73]⟩,⟨#[82]⟩]
 | _=>[]
def atS (L:List ByteArray) (r:Int):ByteArray:=if 0<=r then L.getD r.toNat ⟨#[]⟩ else ⟨#[]⟩
def neB (s:ByteArray):Bool:=!s.toList.isEmpty
theorem qoY (L:List ByteArray) (k:Nat) (h:k<L.length):atS L (k:Int)=L[k]:=by
 unfold atS;rw [Qi (by omega),Ql,Int.toNat_natCast,Qg h];rfl
theorem qc0 (L:List ByteArray) (r:Int) (h:r<0\/(L.length:Int)<=r):atS L r=⟨#[]⟩:=by
 unfold atS;split
 ·rw [Ql,List.getElem?_eq_none (by omega)];rfl
 ·rfl
def nmS (k:Nat) (r:Int):ByteArray:=atS (nmL k) r
theorem qp6 (L:List ByteArray) (r:Int):atS L r=⟨#[]⟩\/atS L r∈L:=by
 by_cases k:0<=r/\r<(L.length:Int)
 ·right
  obtain ⟨h,rfl⟩:∃ h:Nat,r=h:=⟨r.toNat,by omega⟩;rw [qoY L h (by omega)];exact QJ _
 ·left;exact qc0 L r (by omega)
theorem qbR (w:World) (L:List ByteArray) (t:TypeId):∀ j (h:j<L.length),(w.alloc (.cells (L.map Value.string).toArray t)).cell? ⟨w.heap.size,j,none⟩=some (.string L[j]):=by
 intro j h;simp [go_sem,h]
def qdl (w:World) (A:Option Addr) (L:List ByteArray):Prop:=L=[]\/∃ h j,A=some ⟨h,j,none⟩/\∀ b (q:b<L.length),w.cell? ⟨h,j+b,none⟩=some (.string L[b])
theorem qdl.at_ {w:World} {A:Option Addr} {L:List ByteArray} (y:qdl w A L) {k:Nat} (q:k<L.length):∃ h b,A=some ⟨h,b,none⟩/\w.cell? ⟨h,b+k,none⟩=some (.string L[k]):=by
 rcases y with rfl | ⟨h,b,rfl,z⟩
 ·simp at q
 ·exact ⟨h,b,rfl,z k q⟩
theorem qdl.below {w w':World} {A:Option Addr} {L:List ByteArray} (z:qdl w A L) (E:Below w.heap.size w w'):qdl w' A L:=by
 rcases z with rfl | ⟨y,q,rfl,b⟩
 ·exact .inl rfl
 ·exact .inr ⟨y,q,rfl,fun h j=>(E.cell (Qq w _ (b h j))).trans (b h j)⟩
def qlv (w:World) (L:List ByteArray) (e:Ending) (w':World):Prop:=∃ h q,e=.returned (.slice h L.length q)/\qdl w' h L/\Below w.heap.size w w'
theorem qaH (w:World) (L:List ByteArray) (t:TypeId):qdl (w.alloc (.cells (L.map Value.string).toArray t)) (some ⟨w.heap.size,0,none⟩) L:=
 .inr ⟨_,0,rfl,fun h j=>by rw [QT];exact qbR w L t h j⟩
theorem qco (h q n:Int) (z:h<=n) (y:n<=q):qcF h q [n]=true:=by simp [qcF];omega
theorem qfu (h q n:Int) (y:n<h\/q<n):qcF h q [n]=false:=by simp [qcF];omega
theorem qcH (e h x:Int) (b:Nat) (j:Bool) (G:qcF e h [x]=j) (w:World) (z:w.cell? ⟨b,0,none⟩=some (.int .i64 x)) :
  Calls prog 84 #[.int .i64 e,.int .i64 h,.slice (some ⟨b,0,none⟩) 1 1] w fun J q=>J=.returned (.bool j)/\w=q:=by
 subst G;refine fits_any e h _ 1 [x] (by simp [maxLen]) w (.inr ⟨b,0,rfl,fun E y=>?_⟩);obtain rfl:E=0:=by simp at y;omega
 exact z
theorem qln:neB ⟨#[]⟩=false:=by decide +kernel
theorem qgD (r:Int) (b cap n:Nat) (L:List ByteArray) (M:n=L.length) (O:L.length<=100) (w:World) (y:∀ j (s:j<L.length),w.cell? ⟨b,j,none⟩=some (.string L[j])) :
  Calls prog 232 #[.int .i64 r,.slice (some ⟨b,0,none⟩) n cap] w fun q E=>q=.returned (.tuple #[.string (atS L r),.bool (neB (atS L r))])/\Below w.heap.size w E:=by
 by_cases s:0<=r/\r<(L.length:Int)
 ·obtain ⟨e,rfl⟩:∃ e:Nat,r=e:=⟨r.toNat,by omega⟩
  have G:e<L.length:=by omega
  have o:=y e G;have h:=qoY L e G;have k:=qco 0 ((n:Int) - 1) (e:Int) (by omega) (by omega);obtain ⟨T,K⟩:=N9 (L[e]);rw [K] at o h;rw [h];have W:e<n:=by omega
  have U:n<=100:=by omega
  have J:=Qq w _ o;have V:∀ z,(w.alloc z).cell? ⟨b,e,none⟩=some (.string T):=fun z=>(World.cell?_alloc_lt w z _ J).trans o
  clear y s G h K M O o J
  go_enter func232,ntmps232
  go_wp2_with fail
  refine (fits_any 0 ((n:Int) - 1) _ _ [(e:Int)] (by simp [maxLen]) _ (ints_one _ _ _)).mono ?_;rintro q E ⟨rfl,rfl⟩;rw [k];clear k;go_wp2
  go_quiet (fail)
  go_wp2
  go_ret2
  exact ⟨rfl,(B0).trans (below_drewN _ _ _)⟩
 ·have h:=qc0 L r (by omega)
  have k:=qfu 0 ((n:Int) - 1) r (by omega);rw [h,qln];have U:n<=100:=by omega
  clear y s h M O
  go_enter func232,ntmps232
  go_wp2_with fail
  refine (fits_any 0 ((n:Int) - 1) _ _ [r] (by simp [maxLen]) _ (ints_one _ _ _)).mono ?_;rintro q E ⟨rfl,rfl⟩;rw [k];clear k;go_wp2
  go_ret2
  exact ⟨rfl,(B0)⟩
theorem qqk (r:Int) (w:World) :
  Calls prog 200 #[.int .i64 r] w fun q e=>q=.returned (.tuple #[.string (nmS 1 r),.bool (neB (nmS 1 r))])/\Below w.heap.size w e:=by
 go_enter func200,ntmps200
 go_wp2_with fail
 refine (qgD r _ _ _ (nmL 1) rfl (by decide) _ (qbR w (nmL 1) 9)).mono ?_;rintro q e ⟨rfl,h⟩;have y:=J9 ((B0).trans (h.mono (by simp)));clear h;go_wp2
 go_ret2
 exact ⟨rfl,y.o⟩
theorem qjC (r:Int) (w:World) :
  Calls prog 202 #[.int .i64 r] w fun q e=>q=.returned (.tuple #[.string (nmS 2 r),.bool (neB (nmS 2 r))])/\Below w.heap.size w e:=by
 go_enter func202,ntmps202
 go_wp2_with fail
 refine (qgD r _ _ _ (nmL 2) rfl (by decide) _ (qbR w (nmL 2) 9)).mono ?_;rintro q e ⟨rfl,h⟩;have y:=J9 ((B0).trans (h.mono (by simp)));clear h;go_wp2
 go_ret2
 exact ⟨rfl,y.o⟩
theorem qn7 (r:Int) (w:World) :
  Calls prog 203 #[.int .i64 r] w fun q e=>q=.returned (.tuple #[.string (nmS 3 r),.bool (neB (nmS 3 r))])/\Below w.heap.size w e:=by
 go_enter func203,ntmps203
 go_wp2_with fail
 refine (qgD r _ _ _ (nmL 3) rfl (by decide) _ (qbR w (nmL 3) 9)).mono ?_;rintro q e ⟨rfl,h⟩;have y:=J9 ((B0).trans (h.mono (by simp)));clear h;go_wp2
 go_ret2
 exact ⟨rfl,y.o⟩
theorem qfL (r:Int) (w:World) :
  Calls prog 204 #[.int .i64 r] w fun q e=>q=.returned (.tuple #[.string (nmS 4 r),.bool (neB (nmS 4 r))])/\Below w.heap.size w e:=by
 go_enter func204,ntmps204
 go_wp2_with fail
 refine (qgD r _ _ _ (nmL 4) rfl (by decide) _ (qbR w (nmL 4) 9)).mono ?_;rintro q e ⟨rfl,h⟩;have y:=J9 ((B0).trans (h.mono (by simp)));clear h;go_wp2
 go_ret2
 exact ⟨rfl,y.o⟩
theorem qik (r:Int) (w:World) :
  Calls prog 206 #[.int .i64 r] w fun q e=>q=.returned (.tuple #[.string (nmS 5 r),.bool (neB (nmS 5 r))])/\Below w.heap.size w e:=by
 go_enter func206,ntmps206
 go_wp2_with fail
 refine (qgD r _ _ _ (nmL 5) rfl (by decide) _ (qbR w (nmL 5) 9)).mono ?_;rintro q e ⟨rfl,h⟩;have y:=J9 ((B0).trans (h.mono (by simp)));clear h;go_wp2
 go_ret2
 exact ⟨rfl,y.o⟩
theorem qeE (r:Int) (w:World) :
  Calls prog 211 #[.int .i64 r] w fun q e=>q=.returned (.tuple #[.string (nmS 8 r),.bool (neB (nmS 8 r))])/\Below w.heap.size w e:=by
 go_enter func211,ntmps211
 go_wp2_with fail
 refine (qgD r _ _ _ (nmL 8) rfl (by decide) _ (qbR w (nmL 8) 9)).mono ?_;rintro q e ⟨rfl,h⟩;have y:=J9 ((B0).trans (h.mono (by simp)));clear h;go_wp2
 go_ret2
 exact ⟨rfl,y.o⟩
theorem qge (r:Int) (w:World) :
  Calls prog 212 #[.int .i64 r] w fun q e=>q=.returned (.tuple #[.string (nmS 9 r),.bool (neB (nmS 9 r))])/\Below w.heap.size w e:=by
 go_enter func212,ntmps212
 go_wp2_with fail
 refine (qgD r _ _ _ (nmL 9) rfl (by decide) _ (qbR w (nmL 9) 9)).mono ?_;rintro q e ⟨rfl,h⟩;have y:=J9 ((B0).trans (h.mono (by simp)));clear h;go_wp2
 go_ret2
 exact ⟨rfl,y.o⟩
theorem qeF (r:Int) (w:World) :
  Calls prog 208 #[.int .i64 r] w fun h e=>h=.returned (.tuple #[.string ⟨#[]⟩,.bool (r == 0)])/\w=e:=by
 go_enter func208,ntmps208
 go_wp2
 go_ret2
 exact ⟨rfl,rfl⟩
def qbL:Array Value:=#[.nilFunc,.int .i64 0,.int .i64 0,.nilFunc,
 .func (.func 200) #[] #[],.int .i64 0,.int .i64 0,.func (.func 201) #[] #[],
 .func (.func 202) #[] #[],.int .i64 0,.int .i64 0,.func (.func 201) #[] #[],
 .func (.func 203) #[] #[],.int .i64 0,.int .i64 0,.func (.func 201) #[] #[],
 .func (.func 204) #[] #[],.int .i64 0,.int .i64 0,.func (.func 205) #[] #[],
 .func (.func 206) #[] #[],.int .i64 (-128),.int .i64 127,.func (.func 207) #[] #[],
 .func (.func 208) #[] #[],.int .i64 (-32768),.int .i64 65535,.func (.func 209) #[] #[],
 .func (.func 208) #[] #[],.int .i64 0,.int .i64 65535,.func (.func 210) #[] #[],
 .func (.func 211) #[] #[],.int .i64 0,.int .i64 0,.func (.func 201) #[] #[],
 .func (.func 212) #[] #[],.int .i64 0,.int .i64 0,.func (.func 201) #[] #[],
 .func (.func 208) #[] #[],.int .i64 (-128),.int .i64 127,.func (.func 213) #[] #[]]
theorem wpList_build {P:Program} {ops:Array Oper} {Q:Exit->Act->World->Prop} {o:Oper} {l:List Oper} {a:Act} {w:World} (t:TypeId) (h:Array (Nat×Operand)) (G:o.op=.build t h) (E:o.guard=none) (y:Array Value)
  (q:P.built t (h.map fun (i,x)=>(i,a.eval x)).toList=some y) (z:wpList P ops Q l (a.put o.dst (.agg y)) w):wpList P ops Q (o :: l) a w:=by
 simp only [wpList];rw [Qi (by simp [Region.wanted,E])];left;exact wp_build t h G (by rw [q];rfl) (by rw [q];exact z)
theorem qgk:qbL.size=44:=rfl
theorem qfM (w:World) :
  Calls prog 169 #[] w fun q e=>q=.returned (.agg qbL)/\w.alloc (.cells qbL 210)=e:=by
 have E:∀ c:Array Value,c.size=44->(storeCells ⟨w.heap.size,0,none⟩ qbL.toList 0).run prog (w.alloc (.cells c 210))=.ok () (w.alloc (.cells qbL 210)):=fun c h=>
  run_storeCells_new w 210 c qbL (by kernel_rfl) (by rw [h,qgk]) (by kernel_rfl)
 have y:(loadVar 210 ⟨w.heap.size,0,none⟩).run prog (w.alloc (.cells qbL 210))=.ok (.agg qbL) (w.alloc (.cells qbL 210)):=
  run_loadVar_new w 210 qbL 11 155 (by kernel_rfl) (by kernel_rfl)
 have z:=qgk
 go_enter func169,ntmps169
 go_wp2_with (with_reducible refine wpList_build (o:=⟨some 11,_,_,_,_,_⟩) _ _ rfl rfl qbL (by kernel_rfl) ?_)
 refine bodyPost_ret (v:=.agg qbL) ?_ rfl ⟨rfl,rfl⟩;simp [results,results169,asAddr,y]
theorem qci {h w1:World} (y:Below h.heap.size h w1):(∀ b o,b<h.heap.size->w1.cell? ⟨b,o,none⟩=h.cell? ⟨b,o,none⟩)/\(∀ b o,b<h.heap.size->w1.frozen? ⟨b,o,none⟩=h.frozen? ⟨b,o,none⟩):=
 ⟨fun b o q=>y.cell (p:=⟨b,o,none⟩) q,fun b o q=>y.frozen (p:=⟨b,o,none⟩) q⟩
attribute [local go_sem ↓] Go.wp_at_zero Go.wp_at_succ
theorem qoK (k:Nat) (fn E:FuncId) (h q r n:Int) (s:ByteArray) (ag:1<=k) (af:k<=10)
  (ae:∀ w,(Instr.index 210 (.agg qbL) (.int .i64 (k:Int))).run prog w=.ok (.agg #[.func (.func fn) #[] #[],.int .i64 h,.int .i64 q,.func (.func E) #[] #[]]) w)
  (ad:∀ args w,(callFunc fn args).run prog w=.ok (.enter fn args) w)
  (K:∀ w,Calls prog fn #[.int .i64 r] w fun e w'=>e=.returned (.tuple #[.string s,.bool true])/\Below w.heap.size w w')
  (N:h<=n) (M:n<=q) (w:World) :
  Calls prog 116 #[.agg #[.int .i64 (k:Int),.int .i64 r,.int .i64 n]] w fun e w'=>
   e=.returned (.tuple #[.agg #[.func (.func fn) #[] #[],.int .i64 h,.int .i64 q,.func (.func E) #[] #[]],.string s,.bool true])/\Below w.heap.size w w':=by
 have G:=qco 1 10 (k:Int) (by omega) (by omega);have ac:=J9 (qco h q n N M);have O:=J9 K;clear K N M
 go_enter func116,ntmps116
 go_wp2_with fail
 refine (qcH 1 10 (k:Int) _ true G _ (by simp [go_sem])).mono ?_;rintro e w' ⟨rfl,rfl⟩;clear G;go_wp2
 go_region_held3 (fun w'=>w'.cell? ⟨w.heap.size,0,none⟩=some (.int .i64 (k:Int))) (simp [go_sem]) ((go_at_call 169;refine (qfM _).mono ?_;rintro e w' ⟨rfl,rfl⟩))
 all_goals
  go_wp2_with fail
  refine (O.o _).mono ?_;rintro e y ⟨rfl,z⟩;obtain ⟨W,V⟩:=qci z;have J:=z.size;simp at J;have ab:w.heap.size+1+1+1+1<y.heap.size:=by omega
  have Z:w.heap.size+1+1+1<y.heap.size:=by omega
  have U:w.heap.size+1<y.heap.size:=by omega
  have aa:w.heap.size<y.heap.size:=by omega
  clear J;have T:Hid (Below w.heap.size w y):=by
   refine Below.trans ?_ (z.mono (by simp;omega))
   repeat (first | exact Qc _ _ | refine Below.drew ?_ | refine Below.alloc ?_ (by simp <;> omega) _)
  clear z ae ad
  go_wp2_with fail
  refine (qcH h q n _ true ac.o _ (by simp [go_sem])).mono ?_;rintro e ah ⟨rfl,rfl⟩;go_wp2;refine bodyPost_ret (v:=.tuple #[.agg #[.func (.func fn) #[] #[],.int .i64 h,.int .i64 q,.func (.func E) #[] #[]],.string s,.bool true]) (by simp [results,results116,go_sem,W,V,aa,U,Z,ab]) rfl ⟨rfl,?_⟩;exact ((((T.o.setCell (by simp) _).setCell (by simp) _).setCell (by simp) _).setCell (by simp) _).alloc (by simp;omega) _
theorem qh8 (k:Nat) (fn T:FuncId) (G O r n:Int) (s:ByteArray) (ad:1<=k) (ac:k<=10)
  (ab:∀ w,(Instr.index 210 (.agg qbL) (.int .i64 (k:Int))).run prog w=.ok (.agg #[.func (.func fn) #[] #[],.int .i64 G,.int .i64 O,.func (.func T) #[] #[]]) w)
  (aa:∀ args w,(callFunc fn args).run prog w=.ok (.enter fn args) w)
  (E:∀ w,Calls prog fn #[.int .i64 r] w fun e w'=>e=.returned (.tuple #[.string s,.bool false])/\Below w.heap.size w w')
  (w:World) :
  Calls prog 116 #[.agg #[.int .i64 (k:Int),.int .i64 r,.int .i64 n]] w fun e w'=>
   e=.returned (.tuple #[.agg #[.nilFunc,.int .i64 0,.int .i64 0,.nilFunc],.string ⟨#[]⟩,.bool false])/\Below w.heap.size w w':=by
 have y:=qco 1 10 (k:Int) (by omega) (by omega);have J:=J9 E;clear E
 go_enter func116,ntmps116
 go_wp2_with fail
 refine (qcH 1 10 (k:Int) _ true y _ (by simp [go_sem])).mono ?_;rintro e w' ⟨rfl,rfl⟩;clear y;go_wp2
 go_region_held3 (fun w'=>w'.cell? ⟨w.heap.size,0,none⟩=some (.int .i64 (k:Int))) (simp [go_sem]) ((go_at_call 169;refine (qfM _).mono ?_;rintro e w' ⟨rfl,rfl⟩))
 all_goals
  go_wp2_with fail
  refine (J.o _).mono ?_;rintro e h ⟨rfl,q⟩;obtain ⟨U,N⟩:=qci q;have z:=q.size;simp at z;have Z:w.heap.size+1+1+1+1<h.heap.size:=by omega
  have V:w.heap.size+1+1+1<h.heap.size:=by omega
  have M:w.heap.size+1<h.heap.size:=by omega
  have W:w.heap.size<h.heap.size:=by omega
  clear z;have K:Hid (Below w.heap.size w h):=by
   refine Below.trans ?_ (q.mono (by simp;omega))
   repeat (first | exact Qc _ _ | refine Below.drew ?_ | refine Below.alloc ?_ (by simp <;> omega) _)
  clear q ab aa;go_wp2;refine bodyPost_ret (v:=.tuple #[.agg #[.nilFunc,.int .i64 0,.int .i64 0,.nilFunc],.string ⟨#[]⟩,.bool false]) (by simp [results,results116,go_sem,U,N,W,M,V,Z]) rfl ⟨rfl,?_⟩;exact (((K.o.setCell (by simp) _).setCell (by simp) _).setCell (by simp) _).setCell (by simp) _
theorem qpu (k:Nat) (fn U:FuncId) (q z r n:Int) (s:ByteArray) (af:1<=k) (ae:k<=10)
  (ad:∀ w,(Instr.index 210 (.agg qbL) (.int .i64 (k:Int))).run prog w=.ok (.agg #[.func (.func fn) #[] #[],.int .i64 q,.int .i64 z,.func (.func U) #[] #[]]) w)
  (ac:∀ args w,(callFunc fn args).run prog w=.ok (.enter fn args) w)
  (J:∀ w,Calls prog fn #[.int .i64 r] w fun e w'=>e=.returned (.tuple #[.string s,.bool true])/\Below w.heap.size w w')
  (K:n<q\/z<n) (w:World) :
  Calls prog 116 #[.agg #[.int .i64 (k:Int),.int .i64 r,.int .i64 n]] w fun e w'=>
   e=.returned (.tuple #[.agg #[.nilFunc,.int .i64 0,.int .i64 0,.nilFunc],.string ⟨#[]⟩,.bool false])/\Below w.heap.size w w':=by
 have E:=qco 1 10 (k:Int) (by omega) (by omega);have ab:=J9 (qfu q z n K);have M:=J9 J;clear J K
 go_enter func116,ntmps116
 go_wp2_with fail
 refine (qcH 1 10 (k:Int) _ true E _ (by simp [go_sem])).mono ?_;rintro e w' ⟨rfl,rfl⟩;clear E;go_wp2
 go_region_held3 (fun w'=>w'.cell? ⟨w.heap.size,0,none⟩=some (.int .i64 (k:Int))) (simp [go_sem]) ((go_at_call 169;refine (qfM _).mono ?_;rintro e w' ⟨rfl,rfl⟩))
 all_goals
  go_wp2_with fail
  refine (M.o _).mono ?_;rintro e h ⟨rfl,y⟩;obtain ⟨V,T⟩:=qci y;have G:=y.size;simp at G;have aa:w.heap.size+1+1+1+1<h.heap.size:=by omega
  have W:w.heap.size+1+1+1<h.heap.size:=by omega
  have O:w.heap.size+1<h.heap.size:=by omega
  have Z:w.heap.size<h.heap.size:=by omega
  clear G;have N:Hid (Below w.heap.size w h):=by
   refine Below.trans ?_ (y.mono (by simp;omega))
   repeat (first | exact Qc _ _ | refine Below.drew ?_ | refine Below.alloc ?_ (by simp <;> omega) _)
  clear y ad ac
  go_wp2_with fail
  refine (qcH q z n _ false ab.o _ (by simp [go_sem])).mono ?_;rintro e ag ⟨rfl,rfl⟩;go_wp2;refine bodyPost_ret (v:=.tuple #[.agg #[.nilFunc,.int .i64 0,.int .i64 0,.nilFunc],.string ⟨#[]⟩,.bool false]) (by simp [results,results116,go_sem,V,T,Z,O,W,aa]) rfl ⟨rfl,?_⟩;exact ((((N.o.setCell (by simp) _).setCell (by simp) _).setCell (by simp) _).setCell (by simp) _).alloc (by simp;omega) _
theorem qtH (k r n:Int) (h:k<1\/10<k) (w:World) :
  Calls prog 116 #[.agg #[.int .i64 k,.int .i64 r,.int .i64 n]] w fun y e=>
   y=.returned (.tuple #[.agg #[.nilFunc,.int .i64 0,.int .i64 0,.nilFunc],.string ⟨#[]⟩,.bool false])/\Below w.heap.size w e:=by
 have q:=qfu 1 10 k h;clear h
 go_enter func116,ntmps116
 go_wp2_with fail
 refine (qcH 1 10 k _ false q _ (by simp [go_sem])).mono ?_;rintro y e ⟨rfl,rfl⟩;clear q;go_wp2;refine bodyPost_ret (v:=.tuple #[.agg #[.nilFunc,.int .i64 0,.int .i64 0,.nilFunc],.string ⟨#[]⟩,.bool false]) (by simp [results,results116,go_sem]) rfl ⟨rfl,?_⟩
 repeat (first | exact Qc _ _ | refine Below.setCell ?_ (by simp) _ | refine Below.alloc ?_ (by simp <;> omega) _)
end Go.Proofs.YtecpnfhpcamljaaGreatDoor
namespace Go.Proofs.YtecpnfhpcamljaaGreatDoor
open Tryz
open Go.RowKit
def offS (n:Int):ByteArray:=if n<0 then ⟨#[45]⟩++textS (-n) else ⟨#[43]⟩++textS n
def brS (s:ByteArray):ByteArray:=⟨#[40]⟩++s++⟨#[41]⟩
def qly (k:Nat) (s:ByteArray) (n:Int):ByteArray:=match k with
 | 4=>brS s
 | 5=>brS (s++offS n)
 | 6=>if n<0 then offS n else textS n
 | 7=>brS (textS n)
 | 10=>⟨#[36]⟩++offS (n+2)
 | _=>s
theorem qau (n:Int):(textS n).size<=6:=by
 have q:=qlf n;have h:(digS n).data.toList.length=(digS n).size:=by simp
 unfold textS;split
 ·show (#[]:Array UInt8).size<=6;simp
 ·split
  ·show (#[_]:Array UInt8).size<=6;simp
  ·split
   ·show ((digS n).data.toList++[72]).toArray.size<=6;rw [List.size_toArray,Qk,h];simp;omega
   ·show (48 :: (digS n).data.toList++[72]).toArray.size<=6;rw [List.size_toArray,Qk,Qt,h];simp;omega
theorem qcf (n:Int):(offS n).size<=7:=by
 unfold offS;split
 ·have:=qau (-n);rw [Zh];show 1+_<=7;omega
 ·have:=qau n;rw [Zh];show 1+_<=7;omega
theorem qdk (s:ByteArray) (q:s.size<=100) (w:World) :
  Calls prog 233 #[.string s] w fun h e=>h=.returned (.string (brS s))/\w=e:=by
 go_enter func233,ntmps233
 go_wp2;go_ret;exact ⟨rfl,rfl⟩
theorem qeM (n:Int) (M : -100000<=n) (K:n<=100000) (w:World) :
  Calls prog 234 #[.int .i64 n] w fun y h=>y=.returned (.string (offS n))/\Below w.heap.size w h:=by
 by_cases E:n<0
 ·have q:=J9 (show ⟨#[45]⟩++textS (-n)=offS n by unfold offS;rw [Qi E])
  go_enter func234,ntmps234
  go_wp2_with fail
  refine (qdZ _ _).mono ?_;rintro y h ⟨rfl,e⟩;have z:=J9 e;have J:=qau n;have G:=qau (-n);clear e;go_wp2;go_ret;exact ⟨qaq q.o,z.o⟩
 ·have q:=J9 (show ⟨#[43]⟩++textS n=offS n by unfold offS;rw [Qe E])
  go_enter func234,ntmps234
  go_wp2_with fail
  refine (qdZ _ _).mono ?_;rintro y h ⟨rfl,e⟩;have z:=J9 e;have J:=qau n;have G:=qau (-n);clear e;go_wp2;go_ret;exact ⟨qaq q.o,z.o⟩
theorem qc7 (s:ByteArray) (n:Int) (w:World) :
  Calls prog 201 #[.string s,.int .i64 n] w fun h e=>h=.returned (.string s)/\Below w.heap.size w e:=by
 go_enter func201,ntmps201
 go_wp2;go_ret;exact ⟨rfl,Qc _ _⟩
theorem qkS (s:ByteArray) (n:Int) (q:s.size<=50) (w:World) :
  Calls prog 205 #[.string s,.int .i64 n] w fun h e=>h=.returned (.string (brS s))/\Below w.heap.size w e:=by
 go_enter func205,ntmps205
 go_wp2_with fail
 refine (qdk _ (by first | (rw [Zh];omega) | omega) _).mono ?_;rintro h e ⟨rfl,rfl⟩;go_wp2;go_ret;exact ⟨rfl,Qc _ _⟩
theorem qk7 (s:ByteArray) (n:Int) (G:s.size<=50) (z : -100000<=n) (y:n<=100000) (w:World) :
  Calls prog 207 #[.string s,.int .i64 n] w fun h e=>h=.returned (.string (brS (s++offS n)))/\Below w.heap.size w e:=by
 go_enter func207,ntmps207
 go_wp2_with fail
 refine (qeM _ z y _).mono ?_;rintro h e ⟨rfl,q⟩;have E:=J9 q;have M:=qau n;have K:=qcf n;have J:=qcf (n+2);clear q
 go_wp2_with fail
 refine (qdk _ (by first | (rw [Zh];omega) | omega) _).mono ?_;rintro h e ⟨rfl,rfl⟩;go_wp2;go_ret;exact ⟨rfl,E.o⟩
theorem qim (s:ByteArray) (n:Int) (K : -100000<=n) (G:n<=100000) (w:World) :
  Calls prog 209 #[.string s,.int .i64 n] w fun y h=>y=.returned (.string (qly 6 s n))/\Below w.heap.size w h:=by
 by_cases E:n<0
 ·have q:=J9 (show offS n=qly 6 s n by show _=if n<0 then offS n else textS n;rw [Qi E])
  go_enter func209,ntmps209
  go_wp2_with fail
  refine (qeM _ K G _).mono ?_;rintro y h ⟨rfl,e⟩;have z:=J9 e;have M:=qau n;have J:=qau (-n);clear e;go_wp2;go_ret;exact ⟨qaq q.o,z.o⟩
 ·have q:=J9 (show textS n=qly 6 s n by show _=if n<0 then offS n else textS n;rw [Qe E])
  go_enter func209,ntmps209
  go_wp2_with fail
  refine (qdZ _ _).mono ?_;rintro y h ⟨rfl,e⟩;have z:=J9 e;have M:=qau n;have J:=qau (-n);clear e;go_wp2;go_ret;exact ⟨qaq q.o,z.o⟩
theorem qnX (s:ByteArray) (n:Int) (w:World) :
  Calls prog 210 #[.string s,.int .i64 n] w fun h e=>h=.returned (.string (brS (textS n)))/\Below w.heap.size w e:=by
 go_enter func210,ntmps210
 go_wp2_with fail
 refine (qdZ _ _).mono ?_;rintro h e ⟨rfl,q⟩;have y:=J9 q;have G:=qau n;have E:=qcf n;have z:=qcf (n+2);clear q
 go_wp2_with fail
 refine (qdk _ (by first | (rw [Zh];omega) | omega) _).mono ?_;rintro h e ⟨rfl,rfl⟩;go_wp2;go_ret;exact ⟨rfl,y.o⟩
theorem qjw (s:ByteArray) (n:Int) (J : -1000<=n) (z:n<=1000) (w:World) :
  Calls prog 213 #[.string s,.int .i64 n] w fun q e=>q=.returned (.string (⟨#[36]⟩++offS (n+2)))/\Below w.heap.size w e:=by
 go_enter func213,ntmps213
 go_wp2_with fail
 refine (qeM (n+2) (by omega) (by omega) _).mono ?_;rintro q e ⟨rfl,h⟩;have y:=J9 h;have K:=qau n;have G:=qcf n;have E:=qcf (n+2);clear h;go_wp2;go_ret;exact ⟨rfl,y.o⟩
def loK:Nat->Int
 | 5=>-128
 | 6=>-32768
 | 10=>-128
 | _=>0
def hiK:Nat->Int
 | 5=>127
 | 6=>65535
 | 7=>65535
 | 10=>127
 | _=>0
def qyp (k:Nat) (r:Int):Bool:=match k with
 | 6=>r == 0
 | 7=>r == 0
 | 10=>r == 0
 | k=>neB (nmS k r)
def qaC (k r n:Int):Bool:=decide (1<=k)&&decide (k<=10)&&qyp k.toNat r&&(decide (loK k.toNat<=n)&&decide (n<=hiK k.toNat))
def txtS (k r n:Int):ByteArray:=if qaC k r n then qly k.toNat (nmS k.toNat r) n else ⟨#[]⟩
theorem qyL:∀ k:Fin 11,∀ h∈nmL k.val,h.size<=3:=by decide +kernel
theorem quA (k:Fin 11) (r:Int):(nmS k.val r).size<=50:=by
 rcases qp6 (nmL k.val) r with h | h
 ·unfold nmS;rw [h];decide
 ·have:=qyL k _ h;unfold nmS;omega
theorem qmK (k:Fin 11) (r:Int):(nmS k.val r).size<=50:=quA k r
def qbJ (k r n:Int):Prop:=
 ∃ (E h:FuncId) (y z:Int) (w:ByteArray),
  (∀ e,Calls prog 116 #[.agg #[.int .i64 k,.int .i64 r,.int .i64 n]] e fun s q=>
   s=.returned (.tuple #[.agg #[.func (.func E) #[] #[],.int .i64 y,.int .i64 z,.func (.func h) #[] #[]],.string w,.bool true])/\Below e.heap.size e q)/\
  (∀ args e,(callFunc h args).run prog e=.ok (.enter h args) e)/\
  ∀ e,Calls prog h #[.string w,.int .i64 n] e fun s q=>s=.returned (.string (txtS k r n))/\Below e.heap.size e q
def qcO (k r n:Int):Prop:=
 ∀ e,Calls prog 116 #[.agg #[.int .i64 k,.int .i64 r,.int .i64 n]] e fun q h=>
   q=.returned (.tuple #[.agg #[.nilFunc,.int .i64 0,.int .i64 0,.nilFunc],.string ⟨#[]⟩,.bool false])/\Below e.heap.size e h
theorem qch (k:Nat) (fn a:FuncId) (r n:Int) (E:1<=k) (z:k<=10) (s:ByteArray)
  (J:∀ w,(Instr.index 210 (.agg qbL) (.int .i64 (k:Int))).run prog w=.ok (.agg #[.func (.func fn) #[] #[],.int .i64 (loK k),.int .i64 (hiK k),.func (.func a) #[] #[]]) w)
  (G:∀ args w,(callFunc fn args).run prog w=.ok (.enter fn args) w)
  (b:∀ w,Calls prog fn #[.int .i64 r] w fun e w'=>e=.returned (.tuple #[.string s,.bool (qyp k r)])/\Below w.heap.size w w')
  (W:∀ args w,(callFunc a args).run prog w=.ok (.enter a args) w)
  (O:loK k<=n->n<=hiK k->∀ w,Calls prog a #[.string s,.int .i64 n] w fun e w'=>e=.returned (.string (qly k (nmS k r) n))/\Below w.heap.size w w') :
  (qaC k r n=true->qbJ k r n)/\(qaC k r n=false->qcO k r n):=by
 have M:((k:Int)).toNat=k:=by omega
 have Z:decide ((1:Int)<=(k:Int))=true:=Qn (by omega);have U:decide ((k:Int)<=10)=true:=Qn (by omega);have K:qaC k r n=(qyp k r&&(decide (loK k<=n)&&decide (n<=hiK k))):=by unfold qaC;rw [M,Z,U];simp
 rw [K];constructor
 ·intro h
  simp only [Qd,Qf] at h;obtain ⟨c,q,y⟩:=h;rw [c] at b;refine ⟨fn,a,loK k,hiK k,s,fun w=>qoK k fn a _ _ r n s E z J G b q y w,W,fun w=>?_⟩;have T:txtS k r n=qly k (nmS k r) n:=by unfold txtS;rw [Qi (by rw [K,c,Qn q,Qn y];rfl),M]
  rw [T];exact O q y w
 ·intro h w
  by_cases c:qyp k r=true
  ·rw [c] at h b
   have:n<loK k\/hiK k<n:=by
    simp only [Bool.true_and,Bool.and_eq_false_iff,decide_eq_false_iff_not] at h;omega
   exact qpu k fn a _ _ r n s E z J G b this w
  ·have V:qyp k r=false:=by simpa using c
   rw [V] at b;exact qh8 k fn a _ _ r n s E z J G b w
theorem qcx {P:Program} {f:FuncId} {args:Array Value} {v:Value} {w:World} (q:Calls P f args w fun e w'=>e=.returned v/\w=w'):Calls P f args w fun e w'=>e=.returned v/\Below w.heap.size w w':=
 q.mono fun e w' ⟨h,y⟩=>⟨h,by rw [<- y];exact Qc _ _⟩
theorem qwE (r n:Int):(qaC 1 r n=true->qbJ 1 r n)/\(qaC 1 r n=false->qcO 1 r n):=
 qch 1 200 201 r n (by omega) (by omega) (nmS 1 r) (fun _=>by kernel_rfl) (fun _ _=>by kernel_rfl) (fun h=>qqk r h) (fun _ _=>by kernel_rfl) (fun _ _ h=>qc7 _ n h)
theorem qxI (r n:Int):(qaC 2 r n=true->qbJ 2 r n)/\(qaC 2 r n=false->qcO 2 r n):=
 qch 2 202 201 r n (by omega) (by omega) (nmS 2 r) (fun _=>by kernel_rfl) (fun _ _=>by kernel_rfl) (fun h=>qjC r h) (fun _ _=>by kernel_rfl) (fun _ _ h=>qc7 _ n h)
theorem qxQ (r n:Int):(qaC 3 r n=true->qbJ 3 r n)/\(qaC 3 r n=false->qcO 3 r n):=
 qch 3 203 201 r n (by omega) (by omega) (nmS 3 r) (fun _=>by kernel_rfl) (fun _ _=>by kernel_rfl) (fun h=>qn7 r h) (fun _ _=>by kernel_rfl) (fun _ _ h=>qc7 _ n h)
theorem qx7 (r n:Int):(qaC 4 r n=true->qbJ 4 r n)/\(qaC 4 r n=false->qcO 4 r n):=
 qch 4 204 205 r n (by omega) (by omega) (nmS 4 r) (fun _=>by kernel_rfl) (fun _ _=>by kernel_rfl) (fun h=>qfL r h) (fun _ _=>by kernel_rfl) (fun _ _ h=>qkS _ n (qmK 4 r) h)
theorem qxs (r n:Int):(qaC 5 r n=true->qbJ 5 r n)/\(qaC 5 r n=false->qcO 5 r n):=
 qch 5 206 207 r n (by omega) (by omega) (nmS 5 r) (fun _=>by kernel_rfl) (fun _ _=>by kernel_rfl) (fun a=>qik r a) (fun _ _=>by kernel_rfl) (fun h b a=>qk7 _ n (qmK 5 r) (by simp only [loK] at h;omega) (by simp only [hiK] at b;omega) a)
theorem qyC (r n:Int):(qaC 6 r n=true->qbJ 6 r n)/\(qaC 6 r n=false->qcO 6 r n):=
 qch 6 208 209 r n (by omega) (by omega) ⟨#[]⟩ (fun _=>by kernel_rfl) (fun _ _=>by kernel_rfl) (fun a=>qcx (qeF r a)) (fun _ _=>by kernel_rfl) (fun h b a=>qim _ n (by simp only [loK] at h;omega) (by simp only [hiK] at b;omega) a)
theorem qxM (r n:Int):(qaC 7 r n=true->qbJ 7 r n)/\(qaC 7 r n=false->qcO 7 r n):=
 qch 7 208 210 r n (by omega) (by omega) ⟨#[]⟩ (fun _=>by kernel_rfl) (fun _ _=>by kernel_rfl) (fun a=>qcx (qeF r a)) (fun _ _=>by kernel_rfl) (fun h b a=>qnX _ n a)
theorem qw1 (r n:Int):(qaC 8 r n=true->qbJ 8 r n)/\(qaC 8 r n=false->qcO 8 r n):=
 qch 8 211 201 r n (by omega) (by omega) (nmS 8 r) (fun _=>by kernel_rfl) (fun _ _=>by kernel_rfl) (fun h=>qeE r h) (fun _ _=>by kernel_rfl) (fun _ _ h=>qc7 _ n h)
theorem qyh (r n:Int):(qaC 9 r n=true->qbJ 9 r n)/\(qaC 9 r n=false->qcO 9 r n):=
 qch 9 212 201 r n (by omega) (by omega) (nmS 9 r) (fun _=>by kernel_rfl) (fun _ _=>by kernel_rfl) (fun h=>qge r h) (fun _ _=>by kernel_rfl) (fun _ _ h=>qc7 _ n h)
theorem qv3 (r n:Int):(qaC 10 r n=true->qbJ 10 r n)/\(qaC 10 r n=false->qcO 10 r n):=
 qch 10 208 213 r n (by omega) (by omega) ⟨#[]⟩ (fun _=>by kernel_rfl) (fun _ _=>by kernel_rfl) (fun a=>qcx (qeF r a)) (fun _ _=>by kernel_rfl) (fun h b a=>qjw _ n (by simp only [loK] at h;omega) (by simp only [hiK] at b;omega) a)
theorem qmA (k r n:Int):(qaC k r n=true->qbJ k r n)/\(qaC k r n=false->qcO k r n):=by
 by_cases h:1<=k/\k<=10
 ·have y:k=1\/k=2\/k=3\/k=4\/k=5\/k=6\/k=7\/k=8\/k=9\/k=10:=by omega
  rcases y with rfl | rfl | rfl | rfl | rfl | rfl | rfl | rfl | rfl | rfl
  ·exact qwE r n
  ·exact qxI r n
  ·exact qxQ r n
  ·exact qx7 r n
  ·exact qxs r n
  ·exact qyC r n
  ·exact qxM r n
  ·exact qw1 r n
  ·exact qyh r n
  ·exact qv3 r n
 ·have z:qaC k r n=false:=by
   unfold qaC;by_cases q:1<=k
   ·rw [Qh (show ¬k<=10 by omega)];simp
   ·rw [Qh q];simp
  rw [z];exact ⟨(fun h=>Bool.noConfusion h),fun _ w=>qtH k r n (by omega) w⟩
theorem qfU (k r n:Int) (w:World) :
  Calls prog 161 #[.agg #[.int .i64 k,.int .i64 r,.int .i64 n]] w fun y K=>y=.returned (.bool (qaC k r n))/\Below w.heap.size w K:=by
 obtain ⟨H,E⟩:=qmA k r n;cases q:qaC k r n
 ·have s:=J9 (E q)
  clear H E q
  go_enter func161,ntmps161
  go_wp2_with fail
  refine (s.o _).mono ?_;rintro y z ⟨rfl,e⟩;have h:Hid (Below w.heap.size w z):=(B0).trans (e.mono (by simp));have G:=h.o.size;clear e;go_wp2;go_ret;exact ⟨rfl,h.o.alloc G _⟩
 ·obtain ⟨U,T,N,O,M,J,-,-⟩:=H q
  have s:=J9 J;clear H E q J
  go_enter func161,ntmps161
  go_wp2_with fail
  refine (s.o _).mono ?_;rintro y z ⟨rfl,e⟩;have h:Hid (Below w.heap.size w z):=(B0).trans (e.mono (by simp));have G:=h.o.size;clear e;go_wp2;go_ret;exact ⟨rfl,h.o.alloc G _⟩
theorem qme (k r n:Int) (h:qaC k r n=false):txtS k r n=⟨#[]⟩:=by unfold txtS;rw [h];rfl
theorem qoI (k r n:Int) (w:World) :
  Calls prog 70 #[.agg #[.int .i64 k,.int .i64 r,.int .i64 n]] w fun s O=>s=.returned (.string (txtS k r n))/\Below w.heap.size w O:=by
 obtain ⟨J,G⟩:=qmA k r n;cases h:qaC k r n
 ·have z:=J9 (G h)
  have E:=J9 (qme k r n h);clear J G h
  go_enter func70,ntmps70
  go_wp2_with fail
  refine (z.o _).mono ?_;rintro s y ⟨rfl,e⟩;have q:Hid (Below w.heap.size w y):=(B0).trans (e.mono (by simp));have H:=q.o.size;clear e;go_wp2;go_ret;exact ⟨qaq E.o.symm,q.o.alloc H _⟩
 ·obtain ⟨ae,ab,Z,aa,W,M,ad,N⟩:=J h
  have z:=J9 M;have E:=J9 N;clear J G h M N
  go_enter func70,ntmps70
  go_wp2_with fail
  refine (z.o _).mono ?_;rintro s y ⟨rfl,e⟩;obtain ⟨V,-⟩:=qci e;have q:Hid (Below w.heap.size w y):=(B0).trans (e.mono (by simp));have H:=q.o.size;have ac:w.heap.size<y.heap.size:=by have:=e.size;simp at this;omega
  clear e
  go_wp2_with fail
  refine (E.o _).mono ?_;rintro s T ⟨rfl,K⟩;have U:Hid (Below w.heap.size w T):=(q.o.alloc H _).trans (K.mono (by simp;omega));clear K;go_wp2;go_ret;exact ⟨rfl,U.o⟩
end Go.Proofs.YtecpnfhpcamljaaGreatDoor
