/-
  CnXqRSK, CnIqRSK, CnJqRSK, CnQqRSK, CnSqRSK, CnTqRSK, CnOqRSK, CnUaqRSK, CnUbqRSK.
-/
import Derived.Test.YtjafbmfcedijmaaGreatDoorKAF
import Derived.Lib.Overlaps
import Derived.Lib.AppendZerosOnto
set_option linter.all false
set_option maxRecDepth 100000
set_option maxHeartbeats 4000000
namespace Go.Proofs.YtjafbmfcedijmaaGreatDoor
open Tryz
open Go.RowKit
theorem qvc (w:World) (x h:Tr):qaj (w.alloc (.cells #[.int .i64 x.1,.int .i64 x.2.1,.int .i64 x.2.2,.int .i64 h.1,.int .i64 h.2.1,.int .i64 h.2.2] 57)) (some ⟨w.heap.size,0,none⟩) [x,h]:=by
 refine .inr ⟨_,0,rfl,fun j y=>?_⟩;have:j=0\/j=1:=by simp at y;omega
 rcases this with rfl | rfl <;> exact ⟨by simp [go_sem],by simp [go_sem],by simp [go_sem]⟩
theorem qwD (c:Nat) (L:List Tr) (q:c≠3):L=exL c L:=by unfold exL;rw [Qd (fun h=>q h.1)]
theorem qz2 (L:List Tr) (q:¬L=[hlT,deT]):L=exL 3 L:=by unfold exL;rw [Qd (fun h=>q h.2)]
def Mid (w0 w:World) (h:Nat) (s:ByteArray) (v:Value) (B:Nat) (L:List Tr):Prop:=Dr w h s v/\qas w B v L/\Below w0.heap.size w0 w
theorem Mid.go {w0 w w':World} {z:Nat} {s:ByteArray} {v:Value} {B:Nat} {L:List Tr} (h:Mid w0 w z s v B L) (y:Below w.heap.size w w'):Mid w0 w' z s v B L:=
 ⟨h.1.below y,h.2.1.below y,h.2.2.trans (y.mono h.2.2.size)⟩
theorem Mid.alloc {w0 w:World} {h:Nat} {s:ByteArray} {v:Value} {B:Nat} {L:List Tr} (y:Mid w0 w h s v B L) (o:Obj):Mid w0 (w.alloc o) h s v B L:=y.go (B0)
theorem Mid.ops {w0 w:World} {z:Nat} {s:ByteArray} {A:Option Addr} {n cap:Nat} {B:Nat} {L:List Tr} (h:Mid w0 w z s (.slice A n cap) B L):qaj w A L:=by
 obtain ⟨G,E,e,y,-⟩:=h.2.1.ops;simp only [QC] at e;obtain ⟨rfl,-,-⟩:=e;exact y
attribute [local irreducible] Go.Mixed.qD8
theorem qAV (s:ByteArray) (B h:Nat) (az:B<=h) (v:Value) (L:List Tr) (aF:L.length<=1000) (w:World) (E:Dr w h s v) (J:qas w B v L) :
  Calls prog 147 #[.pointer (some ⟨h,0,none⟩)] w fun y G=>y=.returned (.tuple #[])/\Dr G h s v/\qas G B v (exL (opc s) L)/\Below B w G:=by
 obtain ⟨aq,ac,-,-⟩:=E.cells;by_cases g:I3 s
 ·rw [qyP g]
  obtain rfl:s=_:=g;obtain ⟨Z,q,rfl,ay,ao,aE⟩:=J.ops;have M:=J9 E;have aa:=J9 J;have af:Hid (Mid w w.drew h ⟨#[69,88]⟩ (.slice Z L.length q) B L):=⟨E,J,below_drewN _ _ 1⟩;have ag:Hid (B<=w.heap.size):=Qm az (Zb E.lt);have O:=J9 (fun aA aN av (G:World) e o=>qh5 Z aA aN av L [hlT,deT] (by unfold maxLen;omega) (by unfold maxLen;simp) G e o);have aD:=J9 (qz2 L);obtain ⟨an,ab⟩:=N9 (L.length);have aI:=J9 ab;rw [ab] at M aa af ao ac |-;rw [ab] at O;obtain ⟨aB,ai⟩:=N9 (decide (L=[hlT,deT]));have ap:=J9 ai;rw [ai] at O;clear E J ay ab aF ai aq ac
  go_enter func147,ntmps147
  go_wp2;refine Mixed.qD5 (fun G=>Dr G h ⟨#[69,88]⟩ (.slice Z an q)) 16 [(0,true),(1,true),(2,true),(3,true),(4,true),(5,true),(6,true),(7,true),(8,true),(9,true),(10,true),(11,true),(12,false),(13,false),(14,false),(15,false)] (by kernel_rfl) (by kernel_rfl) M.o ?_;refine Mixed.qD7 rfl (by kernel_rfl) _ rfl _ rfl ?_;refine Mixed.mo rfl (.pointer (some ⟨h,0,none⟩)) (fun w b=>by obtain ⟨e,o,g,A⟩:=b.cells;clear b;go_simp;try rfl) ?_;refine Mixed.mo rfl (.pointer (some ⟨h,0,none⟩)) (fun w b=>by obtain ⟨e,o,g,A⟩:=b.cells;clear b;go_simp;try rfl) ?_;refine Mixed.mo rfl (.pointer (some ⟨h,0,none⟩)) (fun w b=>by obtain ⟨e,o,g,A⟩:=b.cells;clear b;go_simp;try rfl) ?_;refine Mixed.mo rfl (.string ⟨#[69,88]⟩) (fun w b=>by obtain ⟨e,o,g,A⟩:=b.cells;clear b;go_simp;try rfl) ?_;refine Mixed.mp rfl (.bool true) ?_;refine Mixed.qD7 rfl (by kernel_rfl) _ rfl _ rfl ?_;refine Mixed.qD7 rfl (by kernel_rfl) _ rfl _ rfl ?_;refine Mixed.mo rfl (.pointer (some ⟨h,0,none⟩)) (fun w b=>by obtain ⟨e,o,g,A⟩:=b.cells;clear b;go_simp;try rfl) ?_;refine Mixed.mo rfl (.pointer (some ⟨h,0,none⟩)) (fun w b=>by obtain ⟨e,o,g,A⟩:=b.cells;clear b;go_simp;try rfl) ?_;refine Mixed.mo rfl (.pointer (some ⟨h,1,none⟩)) (fun w b=>by obtain ⟨e,o,g,A⟩:=b.cells;clear b;go_simp;try rfl) ?_;refine Mixed.mo rfl (.slice Z an q) (fun w b=>by obtain ⟨e,o,g,A⟩:=b.cells;clear b;go_simp;try rfl) ?_;refine Mixed.qD6 rfl (by kernel_rfl) ?_
  go_wp2_with fail
  refine (qhB 2 _).mono ?_;rintro y aR ⟨rfl,e⟩;have ae:=J9 (af.o.go e);have n:=ae.o.1;clear e af M aa;go_wp2;refine ⟨n,?_⟩;clear n;refine Mixed.qD6 rfl (by kernel_rfl) ?_
  go_wp2_with fail
  refine (qhB 1 _).mono ?_;rintro y aL ⟨rfl,e⟩;have ak:=J9 (ae.o.go e);have n:=ak.o.1;clear e ae;go_wp2;refine ⟨n,?_⟩;clear n;refine Mixed.qD6 rfl (by kernel_rfl) ?_;have U:=fun am=>J9 (ak.o.alloc am)
  have ar:=J9 (qvc aL hlT deT);have n:=fun am=>(U am).o.1
  go_wp2;refine ⟨n _,?_⟩;clear n;refine Mixed.qD6 rfl (by kernel_rfl) ?_
  go_wp2_with fail
  refine (O.o _ q 2 _ (U _).o.ops ar.o).mono ?_;rintro y ax ⟨rfl,e⟩;have k:=J9 ((U _).o.go e);have n:=k.o.1;clear e U ak ar O;go_wp2;refine ⟨n,?_⟩;clear n;simp only [Mixed.qD8,Qq,Qy];cases aB with
  | false=>
   have ah:=J9 (aD.o (Q3 ap.o));go_wp2
   go_end0
   rw [<- ah.o];exact ⟨rfl,k.o.1,k.o.2.1,k.o.2.2.mono ag.o⟩
  | true=>
   obtain rfl:=Qt ap.o;obtain rfl:an=2:=aI.o.symm;obtain ⟨aq,ac,-,-⟩:=k.o.1.cells;obtain ⟨K,V,aP,au,-,-,z⟩:=k.o.2.1.qEs (by simp);simp only [QC] at au;obtain ⟨rfl,-,-⟩:=au;have aC:=J9 (qvV B K V q hlT deT ax z);have aw:=J9 (z.apart k.o.1);have aJ:Hid (B<=K):=z.1;clear z
   go_wp2_with fail
   refine aC.o.mono ?_;rintro y ad ⟨rfl,z,aj⟩;have aK:Hid (Dr ad h ⟨#[69,88]⟩ (.slice (some ⟨K,V,none⟩) 2 q)):=(aj.block _ k.o.1.lt (fun y=>aw.o (by simp at y;exact y.symm))).trans k.o.1;have aG:Hid (qas ad B (.slice (some ⟨K,V,none⟩) 2 q) (exL 3 [hlT,deT])):=.inr ⟨K,V,q,rfl,ao,aE,z⟩;have aH:Hid (Below B w ad):=(k.o.2.2.mono ag.o).grown aj (Qm ag.o k.o.2.2.size) (fun aO aM=>by simp at aM;have:=aJ.o;omega);clear z aj;go_wp2
   go_end0
   exact ⟨rfl,aK.o,aG.o,aH.o⟩
 ·have ah:=J9 (qwD (opc s) L (qhi g))
  have aQ:(s.toList == [69,88])=false:=by simpa using qao g
  have M:=J9 E;have aa:=J9 J;clear E J g
  go_enter func147,ntmps147
  go_wp2
  go_quiet (fail)
  go_wp2
  go_end0
  rw [<- ah.o];exact ⟨rfl,M.o,aa.o,(below_drewN _ _ _)⟩
end Go.Proofs.YtjafbmfcedijmaaGreatDoor
namespace Go.Proofs.YtjafbmfcedijmaaGreatDoor
open Tryz
open Go.RowKit
def qfk (h:Array Value) (o:Nat) (t:Tr):Array Value:=((h.setIfInBounds o (.int .i64 t.1)).setIfInBounds (o+1) (.int .i64 t.2.1)).setIfInBounds (o+2) (.int .i64 t.2.2)
theorem qeN (h:Array Value) (o:Nat) (t:Tr):(qfk h o t).size=h.size:=by simp [qfk]
theorem qiU (h:Array Value) (o:Nat) (t:Tr) (y:o+3<=h.size):(qfk h o t)[o]?=some (.int .i64 t.1)/\(qfk h o t)[o+1]?=some (.int .i64 t.2.1)/\(qfk h o t)[o+2]?=some (.int .i64 t.2.2):=by
 unfold qfk;refine ⟨?_,?_,?_⟩
 ·rw [QT,Qd (by omega),QT,Qd (by omega),QT,Qk rfl,Qk (by omega)]
 ·rw [QT,Qd (by omega),QT,Qk rfl,Qk (by simp;omega)]
 ·rw [QT,Qk rfl,Qk (by simp;omega)]
theorem qb2 (h:Array Value) (o:Nat) (t:Tr) (j:Nat) (y:j<o\/o+3<=j):(qfk h o t)[j]?=h[j]?:=by
 unfold qfk;rw [QT,Qd (by omega),QT,Qd (by omega),QT,Qd (by omega)]
theorem add_lit (b h j:Nat):(⟨b,h,none⟩:Addr).add j=⟨b,h+j,none⟩:=by unfold Addr.add;split <;> simp_all
theorem qe4 (w:World) (ty:TypeId) (g o M ae b z J ac:Nat) (h:Array Value) (t:Tr) (y:w.heap[g]?=some (.cells h 57 (0,0))) (Z:Nat.min J M=1)
  (ag:∀ j u,(cellsT [t])[j]?=some u->w.cell? ⟨b,z+j,none⟩=some u) (ai:o+3<=h.size) :
  ∃ E,(Builtin.copy_ #[22,22] ty #[.slice (some ⟨g,o,none⟩) M ae,.slice (some ⟨b,z,none⟩) J ac]).run prog w=.ok (goInt 1) E/\
   E.heap[g]?=some (.cells (qfk h o t) 57 (0,0))/\w.grownBy E (some g):=by
 obtain ⟨aj,V,am,ah,ak⟩:=info_parts qd4;have K:=run_loadCells_list (P:=prog) w ⟨b,z,none⟩ (cellsT [t]) (fun j u G=>by rw [add_lit];exact ag j u G);have ab:∀ j,j<3->(w.cell? ⟨g,o+0+j,none⟩).isSome=true:=fun j G=>by rw [C9 y,Array.getElem?_eq_getElem (by omega)];rfl
 have U:=run_storeCells_cells (P:=prog) g o (cellsT [t]) 0 w ab (fun j _=>Qr y _) (qfG [t]);refine ⟨((w.setCell ⟨g,o,none⟩ (.int .i64 t.1)).setCell ⟨g,o+1,none⟩ (.int .i64 t.2.1)).setCell ⟨g,o+1+1,none⟩ (.int .i64 t.2.2),?_,?_,?_⟩
 ·have O:(storeCells ⟨g,o,none⟩ (cellsT [t])).run prog w=.ok () (((w.setCell ⟨g,o,none⟩ (.int .i64 t.1)).setCell ⟨g,o+1,none⟩ (.int .i64 t.2.1)).setCell ⟨g,o+1+1,none⟩ (.int .i64 t.2.2)):=U
  have ad:(cellsT [t]).length=3:=rfl;rw [ad] at K;simp [Builtin.copy_,run_underlying underlying22,Builtin.lenOf,Builtin.firstCells,sizeOf,typeInfo,V,ah,Z,K,O]
 ·have aa:=heap_setCell_same w g o _ _ (.int .i64 t.1) y
  have af:=heap_setCell_same _ g (o+1) _ _ (.int .i64 t.2.1) aa;exact heap_setCell_same _ g (o+1+1) _ _ (.int .i64 t.2.2) af
 ·exact grownBy_set (grownBy_set (grownBy_set (World.grownBy.refl w (some g)) _ _) _ _) _ _
theorem wpList_run_app2 {w w1:World} {t z ty:TypeId} {v y h:Value} (J:(Builtin.append_ #[t,z] ty #[v,y]).run prog w=.ok h w1) {ops:Array Oper} {rest:List Oper} {o:Oper} {a:Act} {Q:Exit->Act->World->Prop} (V:o.guard=none) (s x:Operand)
  (M:o.op=.call {callee:=.builtin .append,args:=#[s,x],argTypes:=#[t,z]}) (U:o.type=ty) (K:a.eval s=v) (G:a.eval x=y) (O:wpList prog ops Q rest (a.put o.dst h) w1):wpList prog ops Q (o :: rest) a w:=by
 subst U;refine wpList_plain V fun Z E=>?_
 unfold Oper.wp;simp [execOp,M,resolve,invoke,builtin,K,G,J,Result.andThen];exact E _ _ O
theorem qiM {w:World} {B g:Nat} {j:Array Value} {x u:Tr} (J:B<=g) (G:w.heap[g]?=some (.cells j 57 (0,0)))
  (z:j[0]?=some (.int .i64 x.1)/\j[1]?=some (.int .i64 x.2.1)/\j[2]?=some (.int .i64 x.2.2)) (y:j[3]?=some (.int .i64 u.1)/\j[4]?=some (.int .i64 u.2.1)/\j[5]?=some (.int .i64 u.2.2)):qdJ w B g 0 [x,u]:=by
 refine ⟨J,j,G,fun E K h=>?_⟩;rw [QS]
 match E,h with
 | 0,h=>exact z.1.trans h
 | 1,h=>exact z.2.1.trans h
 | 2,h=>exact z.2.2.trans h
 | 3,h=>exact y.1.trans h
 | 4,h=>exact y.2.1.trans h
 | 5,h=>exact y.2.2.trans h
 | E+6,h=>cases h
theorem qvm (w:World) (vb m G g E lb cb:Nat) (U:vb≠g) (z h:Array Value) (J K:TypeId) (y:w.heap[vb]?=some (.cells z J (0,0))) (O:w.heap[g]?=some (.cells h K (0,0))) (Z:h.size≠0) :
  (callFunc 240 #[.slice (some ⟨vb,0,none⟩) m G,.slice (some ⟨g,E,none⟩) lb cb]).run prog w=.ok (.value (.bool false)) w:=by
 obtain ⟨aa,M,ac,V,ab⟩:=info_parts qd4;rw [run_callFunc_extern func240 (by kernel_rfl) (by kernel_rfl) (by kernel_rfl) (e:=Extern.SlicesOverlaps.overlaps #[22,22] #[4]) (by kernel_rfl),
  Lib.run_overlaps_apart w 22 4 57 underlying22 3 (fun w=>by simp [sizeOf,typeInfo,M,V]) ⟨vb,0,none⟩ ⟨g,E,none⟩ m G lb cb U J K z.size h.size (by simp [World.shape?,y]) (by simp [World.shape?,O]) Z (Qr y 0) (Qr y _)]
 rfl
end Go.Proofs.YtjafbmfcedijmaaGreatDoor
namespace Go.Proofs.YtjafbmfcedijmaaGreatDoor
open Tryz
open Go.RowKit
attribute [local irreducible] Go.Mixed.qD8
theorem qo8 (B g cap vb:Nat) (x:Tr) (w:World) (a0:qah w B (.slice (some ⟨g,0,none⟩) 1 cap) [x]) (E:w.heap[vb]?=some (.cells #[.int .i64 1,.int .i64 7,.int .i64 0] 57 (0,0))) (aM:vb≠g) (aT:B<=w.heap.size) :
  Calls prog 196 #[.slice (some ⟨g,0,none⟩) 1 cap,.int .i64 0,.slice (some ⟨vb,0,none⟩) 1 1] w fun z aH=>
   ∃ aN aF,z=.returned (.slice aN 2 aF)/\qas aH B (.slice aN 2 aF) [qb4,x]/\w.grownBy aH (some g):=by
 obtain ⟨-,v | ⟨bf,bb,O,v,a7,G,az,ag,aI,ao⟩⟩:=a0
 ·cases v.1
 simp only [QC,Qz,Addr.mk.injEq,and_true] at v;obtain ⟨rfl,-,rfl⟩:=v;have a2:=ag;unfold maxLen at a2;have be:1<=cap:=az;have am:∀ j q,(cellsT [x])[j]?=some q->w.cell? ⟨g,0+j,none⟩=some q:=fun j q e=>by
  rw [QS,C9 G];rw [<- ao,Zu] at e;split at e
  ·simpa using e
  ·cases e
 have ah:∀ j q,(cellsT [qb4])[j]?=some q->w.cell? ⟨vb,0+j,none⟩=some q:=fun j q e=>by
  rw [QS,C9 E]
  match j,e with
  | 0,e=>exact e
  | 1,e=>exact e
  | 2,e=>exact e
  | j+3,e=>cases e
 by_cases aj:2<=cap
 ·have aS:6<=O.size:=by omega
  obtain ⟨aP,aJ,aL,h⟩:=qe4 w.drew 3 g 3 1 (cap - 1) g 0 2 cap O x G (by rfl) am (by omega);have aC:aP.heap[vb]?=some (.cells #[.int .i64 1,.int .i64 7,.int .i64 0] 57 (0,0)):=(h.block vb (Qb.1 E).1 (fun z=>aM (by simpa using z))).trans E;obtain ⟨U,ae,ad,K⟩:=qe4 aP 3 g 0 2 cap vb 0 1 1 (qfk O 3 x) qb4 aL (by rfl) (fun j q e=>by
   have ac:=ah j q e;rw [C9 E] at ac;rw [C9 aC];exact ac) (by rw [qeN];omega)
  have a3:=qvm w vb 1 1 g 3 1 (cap - 1) aM _ O _ _ E G (by omega);have ab:qdJ U B g 0 [qb4,x]:=qiM a7 ad (by
    have:=qiU (qfk O 3 x) 0 qb4 (by rw [qeN];omega);simpa using this) (by
    have aZ:=qiU O 3 x (by omega);rw [qb2 _ 0 qb4 3 (.inr (by omega)),qb2 _ 0 qb4 4 (.inr (by omega)),qb2 _ 0 qb4 5 (.inr (by omega))];exact aZ)
  have aa:Hid (qas U B (.slice (some ⟨g,0,none⟩) 2 cap) [qb4,x]/\w.grownBy U (some g)):=
   ⟨.inr ⟨g,0,cap,rfl,aj,ag,ab⟩,⟨K.os.trans h.os,K.tape.trans h.tape,K.output.trans h.output,Qm h.size K.size,fun u M ay=>(K.block u (Zo M h.size) ay).trans (h.block u M ay)⟩⟩
  have a5:=J9 aJ;have a8:=J9 ae;have aY:¬(cap=1):=by omega
  have bg:decide ((cap:Int)<2)=false:=Qf (by omega);have bc:¬((cap:Int)<2):=by omega
  clear aJ ae ab h K aL ad aC am ah aI ao ag G E aS
  go_enter func196,ntmps196
  go_wp2_with (simp only [a3])
  refine Mixed.qD5 (fun _=>True) 8 [(0,true),(1,true),(2,true),(3,true),(4,true),(5,true),(6,true),(7,true)] (by kernel_rfl) (by kernel_rfl) trivial ?_;refine Mixed.qD7 rfl (by kernel_rfl) _ rfl _ rfl ?_;refine Mixed.qD7 rfl (by kernel_rfl) _ rfl _ rfl ?_;refine Mixed.qD7 rfl (by kernel_rfl) _ rfl _ rfl ?_;refine Mixed.mp rfl (.int .i64 1) ?_;refine Mixed.mo rfl (.slice (some ⟨g,3,none⟩) 1 (cap - 1)) (fun w v=>by clear v;go_simp;try omega) ?_;refine Mixed.qD7 rfl (by kernel_rfl) _ rfl _ rfl ?_;refine Mixed.qD7 rfl (by kernel_rfl) _ rfl _ rfl ?_;refine Mixed.mo rfl (.slice (some ⟨g,0,none⟩) 2 cap) (fun w v=>by clear v;go_simp;try omega) ?_;simp only [Mixed.qD8,Qq,Qy];have aU:=a5.o;have ai:=a8.o
  go_wp2_with (first | simp only [aU] | simp only [ai])
  go_ret;exact ⟨_,cap,rfl,aa.o.1,aa.o.2⟩
 ·obtain rfl:cap=1:=by omega
  obtain ⟨aA,aD,aG,au,ap⟩:=info_parts qd4;have aE:(Builtin.firstCells aA.size 0 (.slice (some ⟨g,0,none⟩) 0 1)).run prog w.drew=.ok ([]:List Value).toArray w.drew:=by
   rw [au];exact run_firstCells_some w.drew 3 0 ⟨g,0,none⟩ 0 1 [] rfl (fun j bh e=>by cases e)
  have V:=Lib.run_append_grow_zeros (P:=prog) w 22 3 22 57 aA _ .i64 .i64 underlying22 underlying3 aD aG (some ⟨g,0,none⟩) 0 1 [] aE 2 (by omega) (by rw [au];omega) (by omega) (by omega) (by rw [ap];omega) (by
   refine Qm (growslice_fits (need:=0+2) (old:=1) (by omega) (by rw [ap];omega)) (Qa _))
  rw [QS] at V;obtain ⟨y,ak⟩:=N9 (grownCap w 2 1 57);have K:2<=y:=by rw [<- ak];exact grownCap_ge w _ _ _
  have av:y<=maxLen:=by rw [<- ak];exact grownCap_le_maxLen w _ _ _ (by unfold maxLen;omega)
  rw [ak] at V;obtain ⟨F,aw⟩:∃ F:Array Value,(([]:List Value).toArray++Builtin.zeroCells (Value.agg #[.int .i64 0,.int .i64 0,.int .i64 0]).cells 2++Builtin.zeroCells (Value.agg #[.int .i64 0,.int .i64 0,.int .i64 0]).cells (y - 2))=F:=⟨_,rfl⟩;have aV:6<=F.size:=by
   rw [<- aw];simp [Builtin.zeroCells,Value.cells]
  rw [aw] at V;obtain ⟨W1,an⟩:=N9 (w.drew.alloc (.cells F 57));rw [an] at V;have aK:=(Qb.1 G).1;have ac:=(Qb.1 E).1;have aq:W1.heap[w.heap.size]?=some (.cells F 57 (0,0)):=by rw [<- an];exact heap_alloc_new w.drew _
  have h:w.grownBy W1 (some w.heap.size):=by
   rw [<- an];have k:=World.grownBy_alloc w.drew (.cells F 57) (some w.heap.size);exact ⟨k.os,k.tape,k.output,k.size,k.block⟩
  have af:∀ u,u<w.heap.size->W1.heap[u]?=w.heap[u]?:=fun u M=>h.block u M (fun z=>by simp at z;omega)
  have aX:w.heap.size<W1.heap.size:=(Qb.1 aq).1;obtain ⟨U,ae,aO,J⟩:=qe4 W1 3 w.heap.size 0 2 y vb 0 1 1 F qb4 aq (by rfl) (fun j q e=>by
   have k:=ah j q e;rw [C9 E] at k;rw [C9 ((af vb ac).trans E)];exact k) (by omega)
  have ad:U.heap[g]?=w.heap[g]?:=(J.block g (by omega) (fun z=>by simp at z;omega)).trans (af g aK);obtain ⟨ar,aB,aQ,Z⟩:=qe4 U.drew 3 w.heap.size 3 1 (y - 1) g 0 1 1 (qfk F 0 qb4) x aO (by rfl) (fun j q e=>by
   have k:=am j q e;rw [C9 G] at k;have aj:U.drew.heap[g]?=some (.cells O 57 (0,0)):=ad.trans G;rw [C9 aj];exact k) (by rw [qeN];omega)
  have ab:qdJ ar B w.heap.size 0 [qb4,x]:=qiM aT aQ (by
    rw [qb2 _ 3 x 0 (.inl (by omega)),qb2 _ 3 x 1 (.inl (by omega)),qb2 _ 3 x 2 (.inl (by omega))];have k:=qiU F 0 qb4 (by omega);simpa using k) (by
    have k:=qiU (qfk F 0 qb4) 3 x (by rw [qeN];omega);exact k)
  have aa:Hid (qas ar B (.slice (some ⟨w.heap.size,0,none⟩) 2 y) [qb4,x]/\w.grownBy ar (some g)):=
   ⟨.inr ⟨w.heap.size,0,y,rfl,K,av,ab⟩,⟨Z.os.trans (J.os.trans h.os),Z.tape.trans (J.tape.trans h.tape),Z.output.trans (J.output.trans h.output),Qm h.size (Qm J.size Z.size),
    fun u M ay=>(Z.block u (Zo (Zo M h.size) J.size) (fun z=>by simp at z;omega)).trans ((J.block u (Zo M h.size) (fun z=>by simp at z;omega)).trans (af u M))⟩⟩
  have aW:=av;unfold maxLen at aW;have aY:¬(y=1):=by omega
  have bd:¬(y=0):=by omega
  have aR:=J9 V;have a1:=J9 ae;have a6:=J9 aB;clear V ae aB ab h J Z aq aO aQ af aX ad an aw aV aE am ah aI ao ag G E ak av aK ac aD aG au ap aj az;have ai:=a1.o;have ax:=a6.o
  go_enter func196,ntmps196
  go_wp2_with (first | (at_builtin;refine wpList_run_app2 aR.o rfl _ _ rfl rfl rfl rfl ?_) | simp only [ai] | simp only [ax])
  refine Mixed.qD5 (fun _=>True) 8 [(0,true),(1,true),(2,true),(3,true),(4,true),(5,true),(6,true),(7,true)] (by kernel_rfl) (by kernel_rfl) trivial ?_;refine Mixed.qD7 rfl (by kernel_rfl) _ rfl _ rfl ?_;refine Mixed.qD7 rfl (by kernel_rfl) _ rfl _ rfl ?_;refine Mixed.qD7 rfl (by kernel_rfl) _ rfl _ rfl ?_;refine Mixed.mp rfl (.int .i64 1) ?_;obtain ⟨a4,a9⟩:=N9 (w.heap.size);rw [a9] at ai ax aa |-;refine Mixed.mo rfl (.slice (some ⟨a4,3,none⟩) 1 (y - 1)) (fun w v=>by clear v;go_simp;try omega) ?_;refine Mixed.qD7 rfl (by kernel_rfl) _ rfl _ rfl ?_;refine Mixed.qD7 rfl (by kernel_rfl) _ rfl _ rfl ?_;refine Mixed.mo rfl (.slice (some ⟨g,0,none⟩) 1 1) (fun w v=>by clear v;go_simp;try omega) ?_;simp only [Mixed.qD8,Qq,Qy]
  go_wp2_with (simp only [ax])
  go_ret;exact ⟨_,y,rfl,aa.o.1,aa.o.2⟩
theorem qdJ.tail {w:World} {n g:Nat} {x y:Tr} (J:qdJ w n g 0 [x,y]):qdJ w n g 3 [y]:=by
 obtain ⟨K,G,E,u⟩:=J;refine ⟨K,G,E,fun z j h=>?_⟩
 match z,h with
 | 0,h=>exact u 3 j h
 | 1,h=>exact u 4 j h
 | 2,h=>exact u 5 j h
 | z+3,h=>cases h
theorem qsb (L:List Tr) (q:¬L.length=2):L=accL 1 L:=by unfold accL;rw [Qd (fun h=>q h.2.1),Qd (by omega)]
theorem qxz (x h:Tr) (y:¬x=qb4):[x,h]=accL 1 [x,h]:=by unfold accL;rw [Qd (fun q=>y (by simpa using q.2.2)),Qd (by omega)]
theorem qyT (h:Tr):[h]=accL 1 [qb4,h]:=by unfold accL;rw [Qk ⟨rfl,rfl,rfl⟩];rfl
theorem qrE (L:List Tr) (q:¬L.length=1):L=accL 2 L:=by unfold accL;rw [Qd (by omega),Qd (fun h=>q h.2)]
theorem quv (x:Tr):[qb4,x]=accL 2 [x]:=by unfold accL;rw [Qd (by omega),Qk ⟨rfl,rfl⟩]
theorem qh8 (c:Nat) (L:List Tr) (y:c≠1) (q:c≠2):L=accL c L:=by unfold accL;rw [Qd (fun h=>y h.1),Qd (fun h=>q h.1)]
def qB9 (w:World) (y:Nat) (s:ByteArray) (B:Nat) (L:List Tr) (e:Ending) (w':World):Prop:=e=.returned (.tuple #[])/\∃ h,Dr w' y s h/\qas w' B h L/\Below B w w'
theorem qxo (s:ByteArray) (y:I1 s) (B h:Nat) (aA:B<=h) (v:Value) (L:List Tr) (aD:L.length<=1000) (w:World) (M:Dr w h s v) (J:qah w B v L) :
  Calls prog 146 #[.pointer (some ⟨h,0,none⟩)] w (qB9 w h s B (accL 1 L)):=by
 obtain ⟨aN,n,rfl,ay,az⟩:=J.ops;have ag:=J9 M;have ad:=J9 J.own;by_cases x:L.length=2
 ·obtain ⟨av,K,rfl⟩:=qnU L x
  obtain ⟨g,aa,aE,-,-,ac⟩:∃ g aa,(Value.slice aN [av,K].length n)=.slice (some ⟨g,0,none⟩) 2 aa/\2<=aa/\aa<=maxLen/\qdJ w B g 0 [av,K]:=by
   have:=J;obtain ⟨g,aL,aK,E,ak,aS,ac⟩:=J.own.qEs (by simp);have:aL=0:=by
    rcases J.2 with ⟨e,_⟩ | ⟨aY,aa,aV,e,_⟩
    ·rw [e] at E;simp at E
    ·rw [e] at E
     simp only [QC,Qz,Addr.mk.injEq,and_true] at E;exact E.1.2.symm
   subst this;exact ⟨g,aK,E,ak,aS,ac⟩
  simp only [QC] at aE;obtain ⟨rfl,-,-⟩:=aE;have aQ:n<=maxLen:=by
   obtain ⟨aW,aa,E,-,-,z⟩:=J.own.ops;simp only [QC] at E;obtain ⟨-,-,rfl⟩:=E;exact z
  have aH:=aQ;unfold maxLen at aH;have aU:2<=n:=az;obtain ⟨aj,am,ai⟩:=ac.at_ 0 (by simp);simp only [List.getElem_cons_zero,Nat.zero_mul,QS] at aj am ai;obtain ⟨aC,ab,-,-⟩:=M.cells;obtain ⟨V,Z,O⟩:=av;simp only at aj am ai;have aG:=J9 ac;have aP:Hid (w.drew.cell? ⟨h,1,none⟩=some (.slice (some ⟨g,0,none⟩) 2 n)/\w.drew.cell? ⟨g,0,none⟩=some (.int .i64 V)/\w.drew.cell? ⟨g,1,none⟩=some (.int .i64 Z)/\w.drew.cell? ⟨g,2,none⟩=some (.int .i64 O)):=⟨ab,aj,am,ai⟩;have aO:=J9 (qxz (V,Z,O) K);have aI:Hid (B<=w.heap.size):=Qm aA (Zb M.lt);have aZ:Hid (h<w.heap.size):=M.lt;clear M J ay ac aj am ai x;have ak:([(V,Z,O),K]:List Tr).length=2:=rfl;rw [ak] at ag ad ab;clear ak aD;rcases y with rfl | rfl | rfl | rfl | rfl
  all_goals
   go_enter func146,ntmps146
   go_wp2;refine Mixed.qD5 (fun w'=>w'.cell? ⟨h,1,none⟩=some (.slice (some ⟨g,0,none⟩) 2 n)/\w'.cell? ⟨g,0,none⟩=some (.int .i64 V)/\w'.cell? ⟨g,1,none⟩=some (.int .i64 Z)/\w'.cell? ⟨g,2,none⟩=some (.int .i64 O)) 16
    [(0,true),(1,true),(2,true),(3,true),(4,true),(5,true),(6,true),(7,true),(8,true),(9,true),(10,true),(11,true),(12,true),(13,true),(14,true),(15,false)] (by kernel_rfl) (by kernel_rfl) aP.o ?_
   refine Mixed.qD7 rfl (by kernel_rfl) _ rfl _ rfl ?_;refine Mixed.mo rfl (.pointer (some ⟨h,0,none⟩)) (fun w e=>by obtain ⟨y,x,A,z⟩:=e;go_simp;try rfl) ?_;refine Mixed.mo rfl (.pointer (some ⟨h,0,none⟩)) (fun w e=>by obtain ⟨y,x,A,z⟩:=e;go_simp;try rfl) ?_;refine Mixed.mo rfl (.pointer (some ⟨h,1,none⟩)) (fun w e=>by obtain ⟨y,x,A,z⟩:=e;go_simp;try rfl) ?_;refine Mixed.mo rfl (.slice (some ⟨g,0,none⟩) 2 n) (fun w e=>by obtain ⟨y,x,A,z⟩:=e;go_simp;try rfl) ?_;refine Mixed.mp rfl (.int .i64 2) ?_;refine Mixed.mp rfl (.bool true) ?_;refine Mixed.qD7 rfl (by kernel_rfl) _ rfl _ rfl ?_;refine Mixed.qD7 rfl (by kernel_rfl) _ rfl _ rfl ?_;refine Mixed.mo rfl (.pointer (some ⟨h,0,none⟩)) (fun w e=>by obtain ⟨y,x,A,z⟩:=e;go_simp;try rfl) ?_;refine Mixed.mo rfl (.pointer (some ⟨h,0,none⟩)) (fun w e=>by obtain ⟨y,x,A,z⟩:=e;go_simp;try rfl) ?_;refine Mixed.mo rfl (.pointer (some ⟨h,1,none⟩)) (fun w e=>by obtain ⟨y,x,A,z⟩:=e;go_simp;try rfl) ?_;refine Mixed.mo rfl (.slice (some ⟨g,0,none⟩) 2 n) (fun w e=>by obtain ⟨y,x,A,z⟩:=e;go_simp;try rfl) ?_;refine Mixed.mo rfl (.pointer (some ⟨g,0,none⟩)) (fun w e=>by obtain ⟨y,x,A,z⟩:=e;go_simp;try rfl) ?_;refine Mixed.mo rfl (.agg #[.int .i64 V,.int .i64 Z,.int .i64 O]) (fun w e=>by obtain ⟨y,x,A,z⟩:=e;go_simp;try rfl) ?_;refine Mixed.qD6 rfl (by kernel_rfl) ?_
   go_wp2_with fail
   refine (qsg _).mono ?_;rintro E G ⟨rfl,ae⟩;have U:=J9 (ag.o.below (w':=G) ((below_drewN _ _ 1).trans ae));have ax:=J9 (ad.o.below (w':=G) ((below_drewN _ _ 1).trans ae));have R1:=J9 (aG.o.below (w':=G) ((below_drewN _ _ 1).trans ae));have ap:Hid (Below B w G):=((below_drewN w _ 1).trans ae).mono aI.o;obtain ⟨au,an,-,aB⟩:=U.o.cells;obtain ⟨ao,aw,ar⟩:=R1.o.at_ 0 (by simp);simp only [List.getElem_cons_zero,Nat.zero_mul,QS] at ao aw ar;have aF:G.cell? ⟨h,1,none⟩=some (.slice (some ⟨g,0,none⟩) 2 n)/\G.cell? ⟨g,0,none⟩=some (.int .i64 V)/\G.cell? ⟨g,1,none⟩=some (.int .i64 Z)/\G.cell? ⟨g,2,none⟩=some (.int .i64 O):=⟨an,ao,aw,ar⟩;clear ae ag ad aG ao aw ar au an aC ab;go_wp2;refine ⟨aF,?_⟩;clear aF;simp only [Mixed.qD8,Qq,Qy];by_cases ah:(V,Z,O)=qb4
   ·simp only [qb4,Zq] at ah
    obtain ⟨rfl,rfl,rfl⟩:=ah;have aX:¬(n=1):=(by omega);have aJ:=J9 (U.o.put (.slice (some ⟨g,3,none⟩) 1 (n - 1)));have aM:Hid (qas (G.setCell ⟨h,1,none⟩ (.slice (some ⟨g,3,none⟩) 1 (n - 1))) B (.slice (some ⟨g,3,none⟩) 1 (n - 1)) (accL 1 [(1,7,0),K])):=by
     rw [show accL 1 [((1:Int),(7:Int),(0:Int)),K]=[K] from (qyT K).symm];exact qas.other (.inr ⟨g,3,n - 1,rfl,by simp;omega,by omega,R1.o.tail⟩) U.o 1
    have aR:Hid (Below B w (G.setCell ⟨h,1,none⟩ (.slice (some ⟨g,3,none⟩) 1 (n - 1)))):=ap.o.setCell (p:=⟨h,1,none⟩) aA _;obtain ⟨au,an,-,aB⟩:=U.o.cells;clear U ax R1 ap;go_wp2
    go_end0
    exact ⟨rfl,_,aJ.o,aM.o,aR.o⟩
   ·have aq:=J9 (aO.o ah)
    have af:=qp5 ah;simp only [qb4] at af;obtain ⟨au,an,-,aB⟩:=U.o.cells;rcases af with e | ⟨rfl,e⟩ | ⟨rfl,rfl,e⟩
    all_goals
     go_wp2
     go_end0
     rw [<- aq.o];exact ⟨rfl,_,U.o,ax.o,ap.o⟩
 ·have aq:=J9 (qsb L x)
  obtain ⟨aC,ab,-,-⟩:=M.cells;obtain ⟨aT,af⟩:=N9 (L.length);rw [af] at ag ad ab x aD;have A:¬((aT:Int)=2):=by omega
  clear M J ay af az;rcases y with rfl | rfl | rfl | rfl | rfl
  all_goals
   go_enter func146,ntmps146
   go_wp2
   go_quiet (fail)
   go_wp2
   go_end0
   rw [<- aq.o];exact ⟨rfl,_,ag.o,ad.o,below_drewN _ _ _⟩
theorem qy3 (s:ByteArray) (ay:I2 s) (B a:Nat) (af:B<=a) (v:Value) (L:List Tr) (ak:L.length<=1000) (w:World) (z:Dr w a s v) (x:qah w B v L) :
  Calls prog 146 #[.pointer (some ⟨a,0,none⟩)] w (qB9 w a s B (accL 2 L)):=by
 obtain ⟨aP,A,rfl,ax,az⟩:=x.ops;have y:=J9 z;have n:=J9 x;obtain ⟨aO,U,-,-⟩:=z.cells;by_cases E:L.length=1
 ·obtain ⟨r,rfl⟩:∃ r,L=[r]:=by
   cases L with
   | nil=>simp at E
   | cons aM aq=>
    cases aq with
    | nil=>exact ⟨aM,rfl⟩
    | cons aV aq=>simp at E
  obtain ⟨e,rfl,av,ap⟩:∃ e,aP=some ⟨e,0,none⟩/\B<=e/\e<w.heap.size:=by
   rcases x.2 with ⟨k,_⟩ | ⟨am,aE,aW,k,aJ,aS,_⟩
   ·simp at k
   ·simp only [QC] at k
    exact ⟨am,k.1,aJ,(Qb.1 aS).1⟩
  have K:Hid (B<=w.heap.size):=Qm af (Zb z.lt);have ao:=J9 (x.own.qEs (by simp));have aN:Hid (e≠a):=by
   obtain ⟨am,aY,aE,o,-,-,aC⟩:=ao.o;simp only [QC,Qz,Addr.mk.injEq] at o;rw [o.1.1];exact aC.apart z
  have aD:=J9 av;have aR:=J9 ap;have ar:([r]:List Tr).length=1:=rfl;have aQ:Hid (w.drew.cell? ⟨a,1,none⟩=some (.slice (some ⟨e,0,none⟩) 1 A)):=U;have aL:([r]:List Tr).length=1:=rfl;rw [ar] at y n U;clear z x ax az ak E ar aL ao av ap aO;rcases ay with rfl | rfl | rfl
  all_goals
   go_enter func146,ntmps146
   obtain ⟨aB,Z,-,-⟩:=y.o.cells;go_wp2;clear aB Z;refine Mixed.qD5 (fun w'=>w'.cell? ⟨a,1,none⟩=some (.slice (some ⟨e,0,none⟩) 1 A)) 9 [(0,true),(1,true),(2,true),(3,true),(4,true),(5,true),(6,false),(7,false),(8,false)] (by kernel_rfl) (by kernel_rfl) aQ.o ?_;refine Mixed.qD7 rfl (by kernel_rfl) _ rfl _ rfl ?_;refine Mixed.qD7 rfl (by kernel_rfl) _ rfl _ rfl ?_;refine Mixed.mo rfl (.pointer (some ⟨a,0,none⟩)) (fun w k=>by go_simp;try rfl) ?_;refine Mixed.mo rfl (.pointer (some ⟨a,0,none⟩)) (fun w k=>by go_simp;try rfl) ?_;refine Mixed.mo rfl (.pointer (some ⟨a,1,none⟩)) (fun w k=>by go_simp;try rfl) ?_;refine Mixed.mo rfl (.slice (some ⟨e,0,none⟩) 1 A) (fun w k=>by go_simp;try rfl) ?_;refine Mixed.qD6 rfl (by kernel_rfl) ?_
   go_wp2_with fail
   refine (qsg _).mono ?_;rintro o g ⟨rfl,G⟩;have V:=J9 (y.o.below (w':=g) ((below_drewN _ _ 1).trans G));have aj:=J9 (n.o.below (w':=g) ((below_drewN _ _ 1).trans G));have ag:Hid (Below B w g):=((below_drewN w _ 1).trans G).mono K.o;have O:Hid (w.heap.size<=g.heap.size):=((below_drewN w _ 1).trans G).size;have h:=V.o.cells.2.1;clear G y n;go_wp2;refine ⟨h,?_⟩;clear h;refine Mixed.qD6 rfl (by kernel_rfl) ?_;have ae:∀ b,Below g.heap.size g (g.alloc b):=(fun b=>(Qc _ _).alloc (Qa _) b);have M:=(fun b=>J9 (V.o.below (ae b)));have ah:=(fun b=>J9 (aj.o.below (ae b)));have an:=(fun b=>J9 (ag.o.alloc (Qm K.o O.o) b));have h:=(fun b=>(M b).o.cells.2.1);have ai:=J9 (qo8 B e A g.heap.size r (g.alloc (.cells #[.int .i64 1,.int .i64 7,.int .i64 0] 57)) (ah _).o (heap_alloc_new g _) (by have:=aR.o;have:=O.o;omega) (by have:=K.o;have:=O.o;simp;omega));clear ae aj V ag ah;go_wp2;refine ⟨h _,?_⟩;clear h;refine Mixed.qD6 rfl (by kernel_rfl) ?_
   go_wp2_with fail
   refine ai.o.mono ?_;rintro o ab ⟨ac,aa,rfl,aw,ad⟩;have J:Hid (Dr ab a _ (.slice (some ⟨e,0,none⟩) 1 A)):=(ad.block a (M _).o.lt (fun o=>aN.o (by simp at o;exact o.symm))).trans (M _).o;have aA:Hid (Below B w ab):=(an _).o.grown ad (Qm (Qm K.o O.o) (by simp)) (fun aZ aT=>by simp at aT;have:=aD.o;omega);have aG:=J9 (J.o.put (.slice ac 2 aa));have aF:=J9 (qas.other aw J.o 1 (u:=.slice ac 2 aa));have aI:Hid (Below B w (ab.setCell ⟨a,1,none⟩ (.slice ac 2 aa))):=aA.o.setCell (p:=⟨a,1,none⟩) af _;obtain ⟨aB,Z,-,aU⟩:=J.o.cells;have h:=Z;clear aw ad M an aA ai J;go_wp2;refine ⟨h,?_⟩;clear h;simp only [Mixed.qD8,Qq,Qy];go_wp2
   go_end0
   rw [<- quv r];exact ⟨rfl,_,aG.o,aF.o,aI.o⟩
 ·have aK:=J9 (qrE L E)
  obtain ⟨aH,au⟩:=N9 (L.length);have n:=J9 n.o.own;rw [au] at y n U E ak;have aX:¬((aH:Int)=1):=by omega
  clear z x ax au az;rcases ay with rfl | rfl | rfl
  all_goals
   go_enter func146,ntmps146
   go_wp2
   go_end0
   rw [<- aK.o];exact ⟨rfl,_,y.o,n.o,Qc _ _⟩
theorem qxm (s:ByteArray) (y:¬I1 s) (z:¬I2 s) (B E:Nat) (v:Value) (L:List Tr) (w:World) (h:Dr w E s v) (O:qas w B v L) :
  Calls prog 146 #[.pointer (some ⟨E,0,none⟩)] w (qB9 w E s B (accL (opc s) L)):=by
 have ab:=J9 (qh8 (opc s) L (qfO y) (qfN z));obtain ⟨ag,ae,-,-⟩:=h.cells;have ad:=J9 h;have ac:=J9 O;simp only [I1,not_or] at y;simp only [I2,not_or] at z;obtain ⟨M,G,U,V,J⟩:=y;obtain ⟨aa,K,Z⟩:=z;have am:(s.toList == [83,85,66])=false:=by simpa using qao M
 have ah:(s.toList == [65,78,68])=false:=by simpa using qao G
 have ai:(s.toList == [88,79,82])=false:=by simpa using qao U
 have aj:(s.toList == [79,82])=false:=by simpa using qao V
 have ak:(s.toList == [67,80])=false:=by simpa using qao J
 have ao:(s.toList == [65,68,68])=false:=by simpa using qao aa
 have an:(s.toList == [65,68,67])=false:=by simpa using qao K
 have af:(s.toList == [83,66,67])=false:=by simpa using qao Z
 clear M G U V J aa K Z h O
 go_enter func146,ntmps146
 go_wp2
 go_end0
 rw [<- ab.o];exact ⟨rfl,_,ad.o,ac.o,Qc _ _⟩
theorem qsC (s:ByteArray) (B h:Nat) (J:B<=h) (v:Value) (L:List Tr) (K:L.length<=1000) (w:World) (z:Dr w h s v) (y:qah w B v L) :
  Calls prog 146 #[.pointer (some ⟨h,0,none⟩)] w (qB9 w h s B (accL (opc s) L)):=by
 by_cases G:I1 s
 ·rw [quA G];exact qxo s G B h J v L K w z y
 by_cases E:I2 s
 ·rw [quu E];exact qy3 s E B h J v L K w z y
 exact qxm s G E B h v L w z y.own
end Go.Proofs.YtjafbmfcedijmaaGreatDoor
namespace Go.Proofs.YtjafbmfcedijmaaGreatDoor
open Tryz
open Go.RowKit
theorem qqR (w:World):Calls prog 104 #[] w fun h o=>
  h=.returned (.agg #[.func (.func 146) #[] #[],.func (.func 147) #[] #[],.func (.func 148) #[] #[]])/\Below w.heap.size w o:=by
 have B0:∀ e,Hid (Below w.heap.size w (w.alloc e)):=fun e=>B0
 go_enter func104,ntmps104
 go_wp2
 trace_state
 refine bodyPost_ret (v:=.agg #[.func (.func 146) #[] #[],.func (.func 147) #[] #[],.func (.func 148) #[] #[]]) ?_ rfl ⟨rfl,(B0 _).o⟩;simp [results,results104,go_sem]
theorem qas.low {w:World} {n:Nat} {v:Value} {L:List Tr} (g:qas w n v L) (p:Addr) (V:p.block<n) (u:Value):qas (w.setCell p u) n v L:=by
 rcases g with g | ⟨h,K,M,U,O,z,E,G,y,J⟩
 ·exact .inl g
 ·exact .inr ⟨h,K,M,U,O,z,E,G,(heap_setCell_other w p h u (by omega)).trans y,J⟩
def Dz (w:World) (b:Nat):Prop:=w.heap[b]?=some (.cells #[.string ⟨#[]⟩,.slice none 0 0] 155 (0,0))
theorem Dz.cells {w:World} {b:Nat} (h:Dz w b):w.cell? ⟨b,0,none⟩=some (.string ⟨#[]⟩)/\w.cell? ⟨b,1,none⟩=some (.slice none 0 0)/\w.frozen? ⟨b,0,none⟩=false/\w.frozen? ⟨b,1,none⟩=false:=
 ⟨by rw [C9 h];rfl,by rw [C9 h];rfl,Qr h 0,Qr h 1⟩
theorem Dz.done {w:World} {b:Nat} (h:Dz w b) (s:ByteArray) (v:Value):Dr ((w.setCell ⟨b,0,none⟩ (.string s)).setCell ⟨b,1,none⟩ v) b s v:=by
 have z:=heap_setCell_same w b 0 _ _ (.string s) h;have y:=heap_setCell_same (w.setCell ⟨b,0,none⟩ (.string s)) b 1 _ _ v z;exact y
theorem qxk (c:Nat) (L:List Tr):qdc c (exL c (accL c L))=qdc c L:=by
 by_cases t:c=6
 ·subst t
  rw [show accL 6 L=L from (qh8 6 L (by omega) (by omega)).symm,show exL 6 L=L from (qwD 6 L (by omega)).symm]
 ·unfold qdc
  have h:∀ q:List Tr,¬(c=6/\q.head?.map (fun y=>y.1)=some 3):=fun q x=>t x.1
  rw [Qd (h _),Qd (h _)]
def qjU (w:World) (s:ByteArray) (L:List Tr) (e:Ending) (w':World):Prop:=∃ h,e=.returned (.agg #[.string s,h])/\qas w' w.heap.size h L/\Below w.heap.size w w'
theorem qsU (s:ByteArray) (A:Option Addr) (cap:Nat) (L:List Tr) (aE:L.length<=900) (w:World) (H:qaj w A L) :
  Calls prog 64 #[.agg #[.string s,.slice A L.length cap]] w (qjU w s (canL (opc s) L)):=by
 have ao:=J9 (qid A cap L (by omega));obtain ⟨e,ab⟩:=N9 ((w.alloc (.cells #[.string s,.slice A L.length cap] 24)).alloc (.cells #[.string ⟨#[]⟩,.slice none 0 0] 24));have ay:Hid (Below w.heap.size w e):=by rw [<- ab];exact (B0).alloc (by simp) _
 have ad:Hid (Bx e w.heap.size s A L.length cap):=by rw [<- ab];exact ⟨by simp [go_sem],by simp [go_sem]⟩
 have aV:Hid (Rz e (w.heap.size+1)):=by
  rw [<- ab];have:=heap_alloc_new (w.alloc (.cells #[.string s,.slice A L.length cap] 24)) (.cells #[.string ⟨#[]⟩,.slice none 0 0] 24);show Rz _ _;simpa [Rz] using this
 have aM:Hid (e.heap.size=w.heap.size+2):=by rw [<- ab];simp [Hid]
 have ap:=J9 (H.below ay.o);obtain ⟨V,aq⟩:=N9 (L.length);have aW:=J9 aq;have ax:=J9 (qol (opc s) L);have a2:=J9 (qiQ (opc s) (accL (opc s) L));have am:=J9 aE;have aO:=J9 (qxk (opc s) L);rw [aq] at aE ad ab ao |-;clear H aq;have ak:=J9 (qzA ao.o aW.o)
 go_enter func64,ntmps64
 go_upto_region 1 with fail
 clear ab ao
 go_cut [3] (fun p wx=>∃ y F G,p=.pointer (some ⟨y,0,none⟩)/\Hid (e.heap.size<=y)/\Hid (Dr wx y s (.slice F V G))/\Hid (qah wx e.heap.size (.slice F V G) L)/\Hid (Below e.heap.size e wx))
 case first=>
  have ai:Hid (∀ wx,wx=e.drew\/wx=e.drew.alloc (.cells #[.string ⟨#[]⟩,.slice none 0 0] 155)->qaj wx A L/\Below e.heap.size e wx):=by
   rintro wx (rfl | rfl)
   ·exact ⟨ap.o.below (below_drewN _ _ 1),below_drewN _ _ 1⟩
   ·exact ⟨ap.o.below ((below_drewN _ _ 1).alloc (by simp) _),(below_drewN _ _ 1).alloc (by simp) _⟩
  have aa:Hid (∀ wx,Below e.heap.size e wx->Bx wx w.heap.size s A V cap):=fun wx K=>ad.o.all K
  have aX:Hid (∀ wx n,wx=e.drew.alloc (.cells #[.string ⟨#[]⟩,.slice none 0 0] 155)->Below wx.heap.size wx n->Dz n e.heap.size):=by
   rintro wx n rfl K;exact (K.block _ (by simp)).trans (heap_alloc_new e.drew _)
  have a9:=ad.o.lt;obtain ⟨bd,a7⟩:=ad.o
  go_region_held3 (fun aG=>aG.cell? ⟨w.heap.size,0,none⟩=some (.string s)/\aG.cell? ⟨w.heap.size,1,none⟩=some (.slice A V cap)) (first | exact aa.o _ (below_drewN _ _ 1) | exact aa.o _ ((below_drewN _ _ 1).alloc (by simp) _) | exact aa.o _ D | exact aa.o _ (D.alloc (D.size) _) | exact aa.o _ ((D.setCell (p:=⟨e.heap.size,0,none⟩) (Qa _) _).setCell (p:=⟨e.heap.size,1,none⟩) (Qa _) _)) (first | (go_at_call 61;refine (ak.o _ (ai.o _ (.inr rfl)).1).mono ?_;rintro ae n ⟨F,G,rfl,Z,ah⟩;have D:=((ai.o _ (.inr rfl)).2).trans (ah.mono (by simp));obtain ⟨a0,aN⟩:=aa.o _ D;have aS:w.heap.size≠n.heap.size:=(by have:=D.size;omega);have aH:=aX.o _ _ rfl ah;obtain ⟨a8,be,a6,bc⟩:=aH.cells) | (go_at_call 61;refine (ak.o _ (ai.o _ (.inl rfl)).1).mono ?_;rintro ae n ⟨F,G,rfl,Z,ah⟩;have D:=((ai.o _ (.inl rfl)).2).trans (ah.mono (by simp));obtain ⟨a0,aN⟩:=aa.o _ D;have aS:w.heap.size≠n.heap.size:=(by have:=D.size;omega)))
  all_goals
   go_wp2
   go_meet
   first
    | exact ⟨n.heap.size,F,G,rfl,D.size,heap_alloc_new n _,World.ownsRow.alloc Z _,D.alloc D.size _⟩
    | exact ⟨e.heap.size,F,G,rfl,Qa _,aH.done _ _,row_mono (row_set (row_set Z (p:=⟨e.heap.size,0,none⟩) (by simp) _) (p:=⟨e.heap.size,1,none⟩) (by simp) _) (by simp),(D.setCell (p:=⟨e.heap.size,0,none⟩) (Qa _) _).setCell (p:=⟨e.heap.size,1,none⟩) (Qa _) _⟩
 case rest=>
  clear ak ap ad;obtain ⟨y,F,G,rfl,af,au,Z,aj⟩:=hcut;obtain ⟨h,av⟩:=N9 (e.heap.size);rw [av] at af Z aj aM;have a5:=J9 av;clear av;have aB:∀ n,Below wc.heap.size wc n->Hid (Dr n y s (.slice F V G))/\Hid (qah n h (.slice F V G) L)/\Hid (Below h e n):=fun n K=>by
   have aP:h<=wc.heap.size:=Qm af.o (Zb au.o.lt);exact ⟨au.o.below K,Z.o.below K,aj.o.trans (K.mono aP)⟩
  go_wp2_with fail
  refine (qqR _).mono ?_;rintro ae n ⟨rfl,K⟩;obtain ⟨aJ,az,i⟩:=aB n K;clear K aB au Z aj;go_wp2
  go_loopw [14] (fun ac wr=>(ac=.int .i64 0/\Hid (Dr wr y s (.slice F V G))/\Hid (qah wr h (.slice F V G) L)/\Hid (Below h e wr))\/(ac=.int .i64 1/\Hid (∃ v,Dr wr y s v/\qas wr h v (accL (opc s) L)/\Below h e wr))\/(ac=.int .i64 2/\Hid (∃ v,Dr wr y s v/\qas wr h v (exL (opc s) (accL (opc s) L))/\Below h e wr))\/(ac=.int .i64 3/\Hid (∃ v,Dr wr y s v/\qas wr h v (canL (opc s) L)/\Below h e wr))) (fun ac _=>3 - (intOf ac).toNat)
  case atStart=>exact .inl ⟨rfl,aJ.o,az.o,i.o⟩
  case round=>
   clear aJ az i;rcases hrel with ⟨rfl,E,B,i⟩ | ⟨rfl,z⟩ | ⟨rfl,z⟩ | ⟨rfl,z⟩
   ·have aC:∀ w,(Instr.index 157 (.agg #[.func (.func 146) #[] #[],.func (.func 147) #[] #[],.func (.func 148) #[] #[]]) (.int .i64 0)).run prog w=.ok (.func (.func 146) #[] #[]) w:=fun _=>by kernel_rfl
    have U:=J9 (qsC s h y af.o _ L (by have:=am.o;omega) wr E.o B.o)
    go_wp2_with fail
    refine U.o.mono ?_;rintro ae J ⟨rfl,v,O,M,X⟩;have z:Hid (∃ v,Dr J y s v/\qas J h v (accL (opc s) L)/\Below h e J):=⟨v,O,M,i.o.trans X⟩;clear O M X U E B i;go_wp2;go_roundw
    case rel=>exact .inr (.inl ⟨rfl,z.o⟩)
    case measure=>simp [intOf]
   ·obtain ⟨v,E,B,i⟩:=z.o
    have aC:∀ w,(Instr.index 157 (.agg #[.func (.func 146) #[] #[],.func (.func 147) #[] #[],.func (.func 148) #[] #[]]) (.int .i64 1)).run prog w=.ok (.func (.func 147) #[] #[]) w:=fun _=>by kernel_rfl
    have U:=J9 (qAV s h y af.o v (accL (opc s) L) (by have:=am.o;have:=ax.o;omega) wr E B);have i:=J9 i;clear E B z
    go_wp2_with fail
    refine U.o.mono ?_;rintro ae J ⟨rfl,O,M,X⟩;have z:Hid (∃ v,Dr J y s v/\qas J h v (exL (opc s) (accL (opc s) L))/\Below h e J):=⟨v,O,M,i.o.trans X⟩;clear O M X U i;go_wp2;go_roundw
    case rel=>exact .inr (.inr (.inl ⟨rfl,z.o⟩))
    case measure=>simp [intOf]
   ·obtain ⟨v,E,B,i⟩:=z.o
    have aC:∀ w,(Instr.index 157 (.agg #[.func (.func 146) #[] #[],.func (.func 147) #[] #[],.func (.func 148) #[] #[]]) (.int .i64 2)).run prog w=.ok (.func (.func 148) #[] #[]) w:=fun _=>by kernel_rfl
    have U:=J9 (qwc s h y af.o v (exL (opc s) (accL (opc s) L)) (by have:=am.o;have:=ax.o;have:=a2.o;omega) wr E B);have i:=J9 i;clear E B z
    go_wp2_with fail
    refine U.o.mono ?_;rintro ae J ⟨rfl,O,M,X⟩;rw [aO.o] at M;have z:Hid (∃ v,Dr J y s v/\qas J h v (canL (opc s) L)/\Below h e J):=⟨v,O,M,i.o.trans X⟩;clear O M X U i;go_wp2;go_roundw
    case rel=>exact .inr (.inr (.inr ⟨rfl,z.o⟩))
    case measure=>simp [intOf]
   ·obtain ⟨v,E,B,i⟩:=z.o
    obtain ⟨an,ar,rfl,-,-,-⟩:=B.ops;obtain ⟨v,ag⟩:∃ v,v=Value.slice an (canL (opc s) L).length ar:=⟨_,rfl⟩;rw [<- ag] at E B;obtain ⟨aR,aT,-,-⟩:=E.cells;have aY:=aM.o;have aw:Rz wr (w.heap.size+1):=(i.block _ (by omega)).trans aV.o;obtain ⟨aZ,a3,a4,aU⟩:=aw.cells;have a1:=J9 (aw.set s v);have aQ:=J9 ag;have aL:Hid (qjU w s (canL (opc s) L) (.returned (.agg #[.string s,v])) ((wr.setCell ⟨w.heap.size+1,0,none⟩ (.string s)).setCell ⟨w.heap.size+1,1,none⟩ v)):=
     ⟨v,rfl,((B.low ⟨w.heap.size+1,0,none⟩ (by simp;omega) _).low ⟨w.heap.size+1,1,none⟩ (by simp;omega) _).lift (by omega),
      ((ay.o.trans (i.mono (by omega))).setCell (p:=⟨w.heap.size+1,0,none⟩) (by simp) _).setCell (p:=⟨w.heap.size+1,1,none⟩) (by simp) _⟩
    clear z E B i aw aY;obtain ⟨aD,aI⟩:=N9 ((canL (opc s) L).length);rw [aI] at ag;clear aI aQ;subst ag;go_wp2;obtain ⟨aK,aA⟩:=a1.o;obtain ⟨bb,aF⟩:=N9 (((wr.setCell ⟨w.heap.size+1,0,none⟩ (.string s)).setCell ⟨w.heap.size+1,1,none⟩ (.slice an aD ar)));rw [aF] at aL aK aA |-;clear aF aZ a3 a4 aU aR aT;refine bodyPost_ret (v:=.agg #[.string s,.slice an aD ar]) ?_ rfl aL.o;simp [results,results64,go_sem,aK,aA]
end Go.Proofs.YtjafbmfcedijmaaGreatDoor
namespace Go.Proofs.YtjafbmfcedijmaaGreatDoor
open Tryz
open Go.RowKit
attribute [local irreducible] Go.Mixed.qD8
def b3L (c:Nat) (L:List Tr):Bool:=decide (c=1/\L.length=2/\L.head?=some qb4)
def b5L (c:Nat) (L:List Tr):Bool:=decide (c=2/\L.length=1)
def b9L (c:Nat) (L:List Tr):Bool:=decide (c=3/\L=[hlT,deT])
theorem qj9 (w:World) (x h:Tr) (B:Nat) (y:B<=w.heap.size):qas (w.alloc (.cells #[.int .i64 x.1,.int .i64 x.2.1,.int .i64 x.2.2,.int .i64 h.1,.int .i64 h.2.1,.int .i64 h.2.2] 57)) B (.slice (some ⟨w.heap.size,0,none⟩) 2 2) [x,h]:=
 .inr ⟨w.heap.size,0,2,rfl,Qa _,by unfold maxLen;omega,qiM y (heap_alloc_new w _) ⟨rfl,rfl,rfl⟩ ⟨rfl,rfl,rfl⟩⟩
theorem qeM (c:Nat) (L:List Tr) (b:Bool) (q:b3L c L=b):accL c L=if b5L c (if b then L.tail else L) then qb4 :: (if b then L.tail else L) else (if b then L.tail else L):=by
 cases b with
 | true=>
  obtain ⟨h,e,z⟩:=Qt q;have y:b5L c L.tail=false:=Qf fun E=>by omega
  simp only [if_true,y,Bool.false_eq_true,if_false];unfold accL;rw [Qk ⟨h,e,z⟩]
 | false=>
  have h:=Q3 q;simp only [Bool.false_eq_true,if_false];unfold accL b5L;rw [Qd h];by_cases e:c=2/\L.length=1
  ·rw [Qk e,Qn e];rfl
  ·rw [Qd e,Qf e];rfl
theorem qgl (c:Nat) (h:List Tr):exL c h=if b9L c h then [deT,hlT] else h:=by
 unfold exL b9L;by_cases y:c=3/\h=[hlT,deT]
 ·rw [Qk y,Qn y];rfl
 ·rw [Qd y,Qf y];rfl
def Sv (w1 wx:World) (B:Nat) (v:Value) (L:List Tr):Prop:=∃ h y,v=.slice h L.length y/\qas wx B v L/\Below B w1 wx
theorem Sv.go {w1 wx h:World} {B:Nat} {v:Value} {L:List Tr} (G:Sv w1 wx B v L) (E:B<=w1.heap.size) (y:Below wx.heap.size wx h):Sv w1 h B v L:=by
 obtain ⟨A,J,rfl,K,z⟩:=G;exact ⟨A,J,rfl,K.below y,z.trans (y.mono (Qm E z.size))⟩
theorem qBV (s:ByteArray) (A:Option Addr) (cap:Nat) (L:List Tr) (cp:L.length<=900) (w:World) (H:qaj w A L) (aI:¬I1 s) (bU:¬I2 s) (cd:¬I3 s) (cM:qdc (opc s) L=0) :
  Calls prog 68 #[.agg #[.string s,.slice A L.length cap]] w (qjU w s (canL (opc s) L)):=by
 obtain ⟨e,U⟩:=N9 (((w.alloc (.cells #[.string s,.slice A L.length cap] 24)).alloc (.cells #[.string ⟨#[]⟩,.slice none 0 0] 24)).alloc (.cells #[.int .i64 1,.int .i64 7,.int .i64 0] 57));have F:Hid (Below w.heap.size w e):=by rw [<- U];exact ((B0).alloc (by simp) _).alloc (by simp;omega) _
 have au:Hid (Bx e w.heap.size s A L.length cap):=by rw [<- U];exact ⟨by simp [go_sem],by simp [go_sem]⟩
 have bX:Hid (Rz e (w.heap.size+1)):=by
  rw [<- U];have aW:=heap_alloc_new (w.alloc (.cells #[.string s,.slice A L.length cap] 24)) (.cells #[.string ⟨#[]⟩,.slice none 0 0] 24);have y:Below (w.heap.size+2) ((w.alloc (.cells #[.string s,.slice A L.length cap] 24)).alloc (.cells #[.string ⟨#[]⟩,.slice none 0 0] 24)) (((w.alloc (.cells #[.string s,.slice A L.length cap] 24)).alloc (.cells #[.string ⟨#[]⟩,.slice none 0 0] 24)).alloc (.cells #[.int .i64 1,.int .i64 7,.int .i64 0] 57)):=(Qc _ _).alloc (by simp) _;show Rz _ _;refine (y.block _ (by omega)).trans ?_;simpa [Rz] using aW
 have aD:Hid (e.heap.size=w.heap.size+3):=by rw [<- U];simp [Hid]
 have A1:Hid (e.heap[w.heap.size+2]?=some (.cells #[.int .i64 1,.int .i64 7,.int .i64 0] 57 (0,0))):=by
  rw [<- U];have aW:=heap_alloc_new ((w.alloc (.cells #[.string s,.slice A L.length cap] 24)).alloc (.cells #[.string ⟨#[]⟩,.slice none 0 0] 24)) (.cells #[.int .i64 1,.int .i64 7,.int .i64 0] 57);simpa [Hid] using aW
 have b4:=J9 (H.below F.o);obtain ⟨cE,aC,bN,bh,y⟩:=qcE A cap L (by omega) e b4.o;have ay:=J9 bN;have b2:Hid (Sv e aC e.heap.size cE L):=by
  obtain ⟨cu,bK,rfl,-,-⟩:=bh.ops;exact ⟨cu,bK,rfl,bh.own,y⟩
 obtain ⟨n,bu⟩:=N9 (L.length);have ax:=J9 bu;rw [bu] at au ay U |-;have cA:n<=900:=by omega
 have bR:=J9 U;have bP:=J9 H;clear H bN bh y b4 bu cp U
 go_enter func68,ntmps68
 go_upto_region 2 with fail
 rw [bR.o];obtain ⟨a2,ad⟩:=N9 (w.heap.size+1+1);rw [ad];obtain ⟨c,bH⟩:=N9 (e.heap.size);obtain ⟨Z,ab,rfl,a0,bl⟩:=b2.o;rw [ax.o] at ay a0;rw [bH] at ay a0 bl aD;have aM:(e.alloc (.cells #[] 57)).cell? ⟨w.heap.size,1,none⟩=some (.slice A n cap):=(World.cell?_alloc_lt e _ _ (by have:=aD.o;simp;omega)).trans au.o.2;have FK:Hid (∀ wx,Below c e wx->(wx.cell? ⟨w.heap.size,0,none⟩=some (.string s)/\wx.cell? ⟨w.heap.size,1,none⟩=some (.slice A n cap))/\(wx.cell? ⟨a2,0,none⟩=some (.int .i64 1)/\wx.cell? ⟨a2,1,none⟩=some (.int .i64 7)/\wx.cell? ⟨a2,2,none⟩=some (.int .i64 0))/\qaj wx A L):=fun wx q=>by
  have cw:=aD.o;have bn:wx.heap[a2]?=some (.cells #[.int .i64 1,.int .i64 7,.int .i64 0] 57 (0,0)):=(q.block _ (by omega)).trans (by rw [<- ad];exact A1.o);exact ⟨⟨(q.cell (p:=⟨w.heap.size,0,none⟩) (by simp;omega)).trans au.o.1,(q.cell (p:=⟨w.heap.size,1,none⟩) (by simp;omega)).trans au.o.2⟩,⟨by rw [C9 bn];rfl,by rw [C9 bn];rfl,by rw [C9 bn];rfl⟩,bP.o.below (F.o.trans (q.mono (by omega)))⟩
 have a8:=J9 a0;have aR:=J9 bl;have a3:=fun (wx:World) A bx=>J9 (qfe A bx W1 (by decide) s wx)
 have a1:=fun (wx:World) A bx=>J9 (qfe A bx W2 (by decide) s wx)
 rw [qB8] at a3;rw [qCb] at a1;obtain ⟨b0,a4⟩:=N9 (decide (I1 s));obtain ⟨cj,bD⟩:=N9 (decide (I2 s));simp only [a4] at a3;simp only [bD] at a1;have bp:=J9 a4;have a6:=J9 bD;have bM:=J9 bH;clear a0 bl b2 au A1 bR bH bP a4 bD ad;have cl:e.heap.size=c:=bM.o
 go_upto_region 3 with (at_builtin;refine qag ay.o rfl _ _ rfl rfl rfl rfl ?_)
 clear cl aM ay;have an:Hid (c<=e.heap.size):=by have:=bM.o;show c<=e.heap.size;omega
 go_cut [29] (fun p wx=>p=.bool (b3L (opc s) L)/\Hid (qas wx c (.slice Z n ab) L)/\Hid (Below c e wx))
 case first=>
  obtain ⟨N,aU⟩:=N9 (aC.drew);have bm:Below aC.heap.size aC N:=by rw [<- aU];exact below_drewN aC _ 1
  have am:=J9 (a8.o.below bm);have aa:=J9 (aR.o.trans (bm.mono (Qm an.o aR.o.size)));clear bm a8 aR;refine Mixed.qD5 (fun bZ=>qas bZ c (.slice Z n ab) L/\Below c e bZ) 15 [(1,true),(2,true),(0,false),(3,false),(4,true),(5,true),(6,true),(7,true),(8,true),(9,true),(10,true),(11,true),(12,true),(13,true),(14,true)] (by kernel_rfl) (by kernel_rfl) (by rw [aU];exact ⟨am.o,aa.o⟩) ?_;rw [aU];clear aU;refine Mixed.mp rfl (.pointer (some ⟨w.heap.size,0,none⟩)) ?_;refine Mixed.mo rfl (.string s) (fun w ch=>by obtain ⟨⟨aW,y⟩,-,-⟩:=FK.o w ch.2;clear ch;go_simp;try rfl) ?_;refine Mixed.qD6 rfl (by kernel_rfl) ?_;have af:∀ h,Below N.heap.size N (N.alloc h):=fun h=>(Qc _ _).alloc (Qa _) h
  have ai:=fun h=>J9 (am.o.below (af h))
  have ac:=fun h=>J9 (aa.o.trans ((af h).mono (Qm an.o aa.o.size)))
  have ao:=J9 ((a3 (N.alloc (.cells (W1.map Value.string).toArray 9)) (some ⟨N.heap.size,0,none⟩) 5).o (qaJ N W1 9));have aw:=fun h=>(show qas (N.alloc h) c (.slice Z n ab) L/\Below c e (N.alloc h) from ⟨(ai h).o,(ac h).o⟩)
  clear af am aa;go_wp2;refine ⟨aw _,?_⟩;clear aw;refine Mixed.qD6 rfl (by kernel_rfl) ?_
  go_wp2_with fail
  refine ao.o.mono ?_;rintro b6 ae ⟨rfl,Y⟩;have E:Hid (qas ae c (.slice Z n ab) L):=by rw [<- Y];exact (ai _).o
  have K:Hid (Below c e ae):=by rw [<- Y];exact (ac _).o
  have aw:qas ae c (.slice Z n ab) L/\Below c e ae:=⟨E.o,K.o⟩;clear Y ai ac ao;go_wp2;refine ⟨aw,?_⟩;clear aw;refine Mixed.mp rfl (.bool b0) ?_;cases b0 with
  | false=>
   have ap:Hid (false=b3L (opc s) L):=(Qf fun m=>qfO (Q3 bp.o) m.1).symm;refine Mixed.ms rfl ?_;refine Mixed.ms rfl ?_;refine Mixed.ms rfl ?_;refine Mixed.mp rfl (.bool false) ?_;refine Mixed.mp rfl (.bool false) ?_;refine Mixed.ms rfl ?_;refine Mixed.ms rfl ?_;refine Mixed.ms rfl ?_;refine Mixed.ms rfl ?_;refine Mixed.ms rfl ?_;simp only [Mixed.qD8,Qq,Qy];go_wp2
   go_meet
   exact ⟨by rw [ap.o],E.o,K.o⟩
  | true=>exact absurd (Qt bp.o) aI
 case rest=>
  obtain ⟨rfl,am,aa⟩:=hcut;clear a8 aR a3;have bd:Hid (qas wc c (.slice Z n ab) L/\Below c e wc):=⟨am.o,aa.o⟩;clear am aa
  go_upto_if 29 with fail
  obtain ⟨M,ad⟩:=N9 (b3L (opc s) L);rw [ad];have aH:=J9 ad;clear ad
  go_cut [4] (fun v wx=>∃ aB aq,v=.slice aB (if M then 1 else n) aq/\Hid (qas wx c v (if M then L.tail else L))/\Hid (Below c e wx))
  case first=>
   cases M with
   | false=>
    go_wp2
    go_meet
    exact ⟨Z,ab,rfl,bd.o.1,bd.o.2⟩
   | true=>
    obtain ⟨cy,y,ar⟩:=Qt aH.o;exact absurd cy (qfO aI)
  case rest=>
   obtain ⟨aB,aq,rfl,E,K⟩:=hcut;have aA:=J9 (qeM (opc s) L M aH.o);have x:(if M then L.tail else L).length=(if M then 1 else n):=by
    cases M with
    | true=>
     obtain ⟨-,y,-⟩:=Qt aH.o;simp only [if_true,List.length_tail,y]
    | false=>simpa using ax.o
   obtain ⟨G,bw⟩:=N9 ((if M then L.tail else L));obtain ⟨ag,aV⟩:=N9 ((if M then 1 else n));rw [bw,aV] at x;rw [bw] at aA E;have cC:ag<=900:=by rw [<- aV];split <;> omega
   have cf:=J9 x;obtain ⟨z,ah⟩:=N9 (b5L (opc s) G);rw [ah] at aA;have aN:=J9 ah;rw [aV] at E |-;clear bw aV x ah bd aH
   go_upto_region 5 with fail
   go_cut [40] (fun p wx=>p=.bool z/\Hid (qas wx c (.slice aB ag aq) G)/\Hid (Below c e wx))
   case first=>
    have V:c<=wc.heap.size:=Qm an.o K.o.size;have af:∀ h,Below wc.heap.size wc (wc.alloc h):=(fun h=>(Qc _ _).alloc (Qa _) h);have ai:=(fun h=>J9 (E.o.below (af h)));have ac:=(fun h=>J9 (K.o.trans ((af h).mono V)));have ao:=J9 ((a1 (wc.alloc (.cells (W2.map Value.string).toArray 9)) (some ⟨wc.heap.size,0,none⟩) 3).o (qaJ wc W2 9));have aX:=(FK.o _ (ac (.cells #[.string ⟨#[65,68,68]⟩,.string ⟨#[65,68,67]⟩,.string ⟨#[83,66,67]⟩] 9)).o).1.1;clear af V E K
    go_wp2_with fail
    refine ao.o.mono ?_;rintro b6 ae ⟨rfl,Y⟩;have E:Hid (qas ae c (.slice aB ag aq) G):=(by rw [<- Y];exact (ai _).o);have K:Hid (Below c e ae):=(by rw [<- Y];exact (ac _).o);clear Y ai ac ao aX;cases cj with
    | false=>
     have ap:Hid (false=z):=(by rw [<- aN.o];exact (Qf fun m=>qfN (Q3 a6.o) m.1).symm);go_wp2
     go_meet
     exact ⟨by rw [ap.o],E.o,K.o⟩
    | true=>exact absurd (Qt a6.o) bU
   case rest=>
    obtain ⟨rfl,bL,bV⟩:=hcut;clear E K a1
    go_upto_if 40 with fail
    go_cut [4] (fun v wx=>∃ a9 bf,v=.slice a9 (if z then 2 else ag) bf/\Hid (qas wx c v (if z then qb4 :: G else G))/\Hid (Below c e wx))
    case first=>
     cases z with
     | false=>
      go_wp2
      go_meet
      exact ⟨aB,aq,rfl,bL.o,bV.o⟩
     | true=>
      obtain ⟨cn,y⟩:=Qt aN.o;exact absurd cn (qfN bU)
    case rest=>
     obtain ⟨a9,bf,rfl,aF,bG⟩:=hcut;have x:(if z then qb4 :: G else G).length=(if z then 2 else ag):=by
      cases z with
      | true=>
       obtain ⟨-,y⟩:=Qt aN.o;simp only [if_true,Qv,y]
      | false=>simpa using cf.o
     obtain ⟨j,bc⟩:=N9 ((if z then qb4 :: G else G));obtain ⟨aE,aS⟩:=N9 ((if z then 2 else ag));rw [bc,aS] at x;rw [bc] at aA aF;have cJ:aE<=900:=by rw [<- aS];split <;> omega
     have b5:=J9 x;obtain ⟨B,bq⟩:=N9 (b9L (opc s) j);have bo:=J9 bq;have aY:=J9 (qgl (opc s) j);rw [bq] at aY;rw [aS] at aF |-;clear bc aS x bq bL bV aN cf bp a6 cC
     go_upto_region 9 with fail
     obtain ⟨O,av⟩:=N9 ((wc.alloc (.cells #[.int .i64 3,.int .i64 2,.int .i64 0] 57)).alloc (.cells #[.int .i64 3,.int .i64 1,.int .i64 0] 57));have bs:Below wc.heap.size wc O:=(by rw [<- av];exact (B0).alloc (by simp) _);have V:c<=wc.heap.size:=Qm an.o bG.o.size;have ce:=J9 (aF.o.below bs);have a5:=J9 (bG.o.trans (bs.mono V));have be:O.cell? ⟨wc.heap.size,0,none⟩=some (.int .i64 3)/\O.cell? ⟨wc.heap.size,1,none⟩=some (.int .i64 2)/\O.cell? ⟨wc.heap.size,2,none⟩=some (.int .i64 0):=(by rw [<- av];exact ⟨by simp [go_sem],by simp [go_sem],by simp [go_sem]⟩);have bi:O.cell? ⟨wc.heap.size+1,0,none⟩=some (.int .i64 3)/\O.cell? ⟨wc.heap.size+1,1,none⟩=some (.int .i64 1)/\O.cell? ⟨wc.heap.size+1,2,none⟩=some (.int .i64 0):=(by rw [<- av];exact ⟨by simp [go_sem],by simp [go_sem],by simp [go_sem]⟩);rw [av];obtain ⟨cQ,ah⟩:=N9 (wc.heap.size);obtain ⟨c4,cc⟩:=N9 (wc.heap.size+1);rw [cc] at bi |-;rw [ah] at be |-;have b1:=J9 be;have bJ:=J9 bi;clear av bs V aF bG ah cc be bi
     go_cut [69] (fun p wx=>p=.bool B/\Hid (∃ m,wx=O.drewN m))
     case first=>
      obtain ⟨⟨bA,-⟩,-,-⟩:=FK.o O a5.o;obtain ⟨c6,cP,cW⟩:=b1.o;obtain ⟨cU,cX,cV⟩:=bJ.o;by_cases ar:I3 s
      ·exact absurd ar cd
      ·have cZ:(s.toList == [69,88])=false:=by simpa using qao ar
       have ap:Hid (false=B):=by
        rw [<- bo.o];exact (Qf fun m=>qhi ar m.1).symm
       clear ar
       go_quiet (fail)
       go_wp2
       go_meet
       exact ⟨by rw [ap.o],⟨_,rfl⟩⟩
     case rest=>
      obtain ⟨rfl,cr,rfl⟩:=hcut
      go_upto_if 69 with fail
      go_cut [4] (fun v wx=>∃ aj ak,v=.slice aj (if B then 2 else aE) ak/\Hid (qas wx c v (if B then [deT,hlT] else j))/\Hid (Below c e wx))
      case first=>
       cases B with
       | false=>
        go_wp2
        go_meet
        exact ⟨a9,bf,rfl,ce.o,qbZ a5.o cr⟩
       | true=>
        exact absurd (Qt bo.o).1 (qhi cd)
      case rest=>
       obtain ⟨aj,ak,rfl,aG,aP⟩:=hcut;have x:(if B then [deT,hlT] else j).length=(if B then 2 else aE):=by
        cases B with
        | true=>rfl
        | false=>simpa using b5.o
       obtain ⟨i,a7⟩:=N9 ((if B then [deT,hlT] else j));obtain ⟨nq,aT⟩:=N9 ((if B then 2 else aE));rw [a7,aT] at x;rw [a7] at aY aG;have cR:nq<=900:=by rw [<- aT];split <;> omega
       have bj:=J9 x;rw [aT] at aG |-;have bB:Hid (canL (opc s) L=i.map (wrapT (qfv (qdc (opc s) L)))):=by
        show canL (opc s) L=_;unfold canL;rw [aA.o,aY.o]
       clear a7 aT x bo ce a5 b5 aA aY b1 bJ cJ;obtain ⟨⟨bA,aI⟩,-,ca⟩:=FK.o wc aP.o;have aO:=J9 (qd6 s A cap L (by rw [ax.o];omega) wc ca);have cG:=qb3 (opc s) L;obtain ⟨bb,o⟩:=N9 (qdc (opc s) L);have cD:Hid (bb=0):=o.symm.trans cM;rw [o] at aO cG bB;rw [ax.o] at aO;have cN:=(fun v=>J9 (qkf v i));have cB:=(fun v=>J9 (qkU v i));have cv:=(fun v=>J9 (qjY v i));have ct:=(fun v=>J9 (qkv v i));have bQ:∀ v g,(wL v i g).length=nq:=fun v g=>by rw [qgA];exact bj.o
       have V:c<=wc.heap.size:=Qm an.o aP.o.size;have cg:=J9 V;have bY:Hid (∀ wr v,Below c e wr->qas wr c v (i.map (wrapT (qfv bb)))->∃ aQ bS aK,v=.slice aQ bS aK/\(wr.cell? ⟨w.heap.size,0,none⟩=some (.string s))/\Rz wr (w.heap.size+1)/\qjU w s (canL (opc s) L) (.returned (.agg #[.string s,v])) ((wr.setCell ⟨w.heap.size+1,0,none⟩ (.string s)).setCell ⟨w.heap.size+1,1,none⟩ v)):=fun wr v q b7=>by
        have cw:=aD.o;obtain ⟨aQ,aK,aJ,-,-,-⟩:=b7.ops;refine ⟨aQ,_,aK,aJ,(FK.o wr q).1.1,(q.block _ (by omega)).trans bX.o,v,rfl,?_,?_⟩
        ·rw [bB.o]
         exact ((b7.low ⟨w.heap.size+1,0,none⟩ (by simp;omega) _).low ⟨w.heap.size+1,1,none⟩ (by simp;omega) _).lift (by omega)
        ·exact ((F.o.trans (q.mono (by omega))).setCell (p:=⟨w.heap.size+1,0,none⟩) (by simp) _).setCell (p:=⟨w.heap.size+1,1,none⟩) (by simp) _
       clear ca V o bB bX aD F ax cA
       go_wp2_with fail
       refine aO.o.mono ?_;rintro b6 cO ⟨rfl,q⟩;have bO:=J9 (aG.o.below q);have b8:=J9 (aP.o.trans (q.mono cg.o));clear q aO aG aP bA aI cg;obtain rfl:bb=0:=cD.o;rw [show qfv 0=0 from rfl] at bY;go_wp2
       go_loopw [8] (fun bz wr=>∃ g:Nat,g<=nq/\bz=.int .i64 g/\Hid (qas wr c (.slice aj nq ak) (wL 0 i g))/\Hid (Below c e wr)) (fun bz _=>nq - (intOf bz).toNat)
       case atStart=>exact ⟨0,Qs _,rfl,bO.o,b8.o⟩
       case round=>
        clear bO b8;obtain ⟨g,c1,rfl,J,F⟩:=hrel;by_cases b3:g<nq
        ·have aL:g<i.length:=by rw [bj.o];exact b3
         have bt:g<(wL 0 i g).length:=(by rw [bQ];exact b3);obtain ⟨cz,co,bK,bE,bC,bT,Q⟩:=J.o.qEs (by omega);rw [bQ] at bE bC;simp only [QC] at bE;obtain ⟨rfl,-,rfl⟩:=bE;obtain ⟨bF,bk,br⟩:=Q.at_ g bt;rw [(ct 0).o g aL bt] at bF bk br;have c3:=Q.frozen (co+g*3+2);have az:=J9 ((cN 0).o g aL);have j:=J9 ((cB 0).o g aL);obtain ⟨⟨cH,c5,bg⟩,b9⟩:=N9 (i[g]);rw [b9] at bF bk br az j;simp only at bF bk br az j;have c0:Hid (c<=cz):=Q.1;have cT:=J9 bC;have cS:=J9 bT;have Q:=J9 Q;clear aL bt b9 bC bT;by_cases bv:cH=6
         ·by_cases cm:bg<0
          ·have cx:¬(0:Int)<=bg:=by omega
           have o:=j.o fun m=>absurd m.2.1 (by omega)
           rw [o] at J;subst bv;clear o az j Q;go_wp2;go_roundw
           case rel=>exact ⟨g+1,by omega,by go_num,J.o,F.o⟩
           case measure=>simp [intOf];omega
          ·have o:=j.o fun m=>cm m.2.2
           have cx:(0:Int)<=bg:=(by omega);rw [o] at J;subst bv;clear o az j Q;go_wp2;go_roundw
           case rel=>exact ⟨g+1,by omega,by go_num,J.o,F.o⟩
           case measure=>simp [intOf];omega
         ·have o:=j.o fun m=>bv m.1
          rw [o] at J;clear o az j Q;go_wp2;go_roundw
          case rel=>exact ⟨g+1,by omega,by go_num,J.o,F.o⟩
          case measure=>simp [intOf];omega
        ·have ck:g=nq:=by omega
         subst ck;have ci:wL 0 i g=i.map (wrapT 0):=by
          rw [show g=i.length from bj.o.symm];exact (cv 0).o
         rw [ci] at J;obtain ⟨aQ,bS,aK,aJ,bA,bI,aZ⟩:=bY.o wr _ F.o J.o;simp only [QC] at aJ;obtain ⟨rfl,rfl,rfl⟩:=aJ;obtain ⟨cF,cK,cL,cq⟩:=bI.cells;have cI:=J9 (bI.set s (.slice aj g ak));have aZ:=J9 aZ;clear bI ci;go_wp2;obtain ⟨aX,aM⟩:=cI.o;obtain ⟨cY,bW⟩:=N9 (((wr.setCell ⟨w.heap.size+1,0,none⟩ (.string s)).setCell ⟨w.heap.size+1,1,none⟩ (.slice aj g ak)));rw [bW] at aZ aX aM |-;clear bW cF cK cL cq;refine bodyPost_ret (v:=.agg #[.string s,.slice aj g ak]) ?_ rfl aZ.o;simp [results,results68,go_sem,aX,aM]
theorem qAm (s:ByteArray) (A:Option Addr) (cap:Nat) (L:List Tr) (cr:L.length<=900) (w:World) (H:qaj w A L) (aM:¬I1 s) (bX:¬I2 s) (cg:¬I3 s) (cR:qdc (opc s) L=2) :
  Calls prog 68 #[.agg #[.string s,.slice A L.length cap]] w (qjU w s (canL (opc s) L)):=by
 obtain ⟨g,V⟩:=N9 (((w.alloc (.cells #[.string s,.slice A L.length cap] 24)).alloc (.cells #[.string ⟨#[]⟩,.slice none 0 0] 24)).alloc (.cells #[.int .i64 1,.int .i64 7,.int .i64 0] 57));have x:Hid (Below w.heap.size w g):=by rw [<- V];exact ((B0).alloc (by simp) _).alloc (by simp;omega) _
 have ay:Hid (Bx g w.heap.size s A L.length cap):=by rw [<- V];exact ⟨by simp [go_sem],by simp [go_sem]⟩
 have b0:Hid (Rz g (w.heap.size+1)):=by
  rw [<- V];have a1:=heap_alloc_new (w.alloc (.cells #[.string s,.slice A L.length cap] 24)) (.cells #[.string ⟨#[]⟩,.slice none 0 0] 24);have z:Below (w.heap.size+2) ((w.alloc (.cells #[.string s,.slice A L.length cap] 24)).alloc (.cells #[.string ⟨#[]⟩,.slice none 0 0] 24)) (((w.alloc (.cells #[.string s,.slice A L.length cap] 24)).alloc (.cells #[.string ⟨#[]⟩,.slice none 0 0] 24)).alloc (.cells #[.int .i64 1,.int .i64 7,.int .i64 0] 57)):=(Qc _ _).alloc (by simp) _;show Rz _ _;refine (z.block _ (by omega)).trans ?_;simpa [Rz] using a1
 have aH:Hid (g.heap.size=w.heap.size+3):=by rw [<- V];simp [Hid]
 have A1:Hid (g.heap[w.heap.size+2]?=some (.cells #[.int .i64 1,.int .i64 7,.int .i64 0] 57 (0,0))):=by
  rw [<- V];have a1:=heap_alloc_new ((w.alloc (.cells #[.string s,.slice A L.length cap] 24)).alloc (.cells #[.string ⟨#[]⟩,.slice none 0 0] 24)) (.cells #[.int .i64 1,.int .i64 7,.int .i64 0] 57);simpa [Hid] using a1
 have b7:=J9 (H.below x.o);obtain ⟨cG,aG,bQ,bl,z⟩:=qcE A cap L (by omega) g b7.o;have aC:=J9 bQ;have b5:Hid (Sv g aG g.heap.size cG L):=by
  obtain ⟨cx,bN,rfl,-,-⟩:=bl.ops;exact ⟨cx,bN,rfl,bl.own,z⟩
 obtain ⟨o,bz⟩:=N9 (L.length);have aB:=J9 bz;rw [bz] at ay aC V |-;have cC:o<=900:=by omega
 have bU:=J9 V;have bT:=J9 H;clear H bQ bl z b7 bz cr V
 go_enter func68,ntmps68
 go_upto_region 2 with fail
 rw [bU.o];obtain ⟨a7,ag⟩:=N9 (w.heap.size+1+1);rw [ag];obtain ⟨c,bK⟩:=N9 (g.heap.size);obtain ⟨ab,ad,rfl,a5,bp⟩:=b5.o;rw [aB.o] at aC a5;rw [bK] at aC a5 bp aH;have aQ:(g.alloc (.cells #[] 57)).cell? ⟨w.heap.size,1,none⟩=some (.slice A o cap):=(World.cell?_alloc_lt g _ _ (by have:=aH.o;simp;omega)).trans ay.o.2;have FK:Hid (∀ wx,Below c g wx->(wx.cell? ⟨w.heap.size,0,none⟩=some (.string s)/\wx.cell? ⟨w.heap.size,1,none⟩=some (.slice A o cap))/\(wx.cell? ⟨a7,0,none⟩=some (.int .i64 1)/\wx.cell? ⟨a7,1,none⟩=some (.int .i64 7)/\wx.cell? ⟨a7,2,none⟩=some (.int .i64 0))/\qaj wx A L):=fun wx q=>by
  have cz:=aH.o;have br:wx.heap[a7]?=some (.cells #[.int .i64 1,.int .i64 7,.int .i64 0] 57 (0,0)):=(q.block _ (by omega)).trans (by rw [<- ag];exact A1.o);exact ⟨⟨(q.cell (p:=⟨w.heap.size,0,none⟩) (by simp;omega)).trans ay.o.1,(q.cell (p:=⟨w.heap.size,1,none⟩) (by simp;omega)).trans ay.o.2⟩,⟨by rw [C9 br];rfl,by rw [C9 br];rfl,by rw [C9 br];rfl⟩,bT.o.below (x.o.trans (q.mono (by omega)))⟩
 have be:=J9 a5;have aW:=J9 bp;have a8:=fun (wx:World) A bB=>J9 (qfe A bB W1 (by decide) s wx)
 have a6:=fun (wx:World) A bB=>J9 (qfe A bB W2 (by decide) s wx)
 rw [qB8] at a8;rw [qCb] at a6;obtain ⟨b3,a9⟩:=N9 (decide (I1 s));obtain ⟨cm,bG⟩:=N9 (decide (I2 s));simp only [a9] at a8;simp only [bG] at a6;have bt:=J9 a9;have bc:=J9 bG;have bP:=J9 bK;clear a5 bp b5 ay A1 bU bK bT a9 bG ag;have co:g.heap.size=c:=bP.o
 go_upto_region 3 with (at_builtin;refine qag aC.o rfl _ _ rfl rfl rfl rfl ?_)
 clear co aQ aC;have au:Hid (c<=g.heap.size):=by have:=bP.o;show c<=g.heap.size;omega
 go_cut [29] (fun p wx=>p=.bool (b3L (opc s) L)/\Hid (qas wx c (.slice ab o ad) L)/\Hid (Below c g wx))
 case first=>
  obtain ⟨O,aZ⟩:=N9 (aG.drew);have bq:Below aG.heap.size aG O:=by rw [<- aZ];exact below_drewN aG _ 1
  have ar:=J9 (be.o.below bq);have ac:=J9 (aW.o.trans (bq.mono (Qm au.o aW.o.size)));clear bq be aW;refine Mixed.qD5 (fun b2=>qas b2 c (.slice ab o ad) L/\Below c g b2) 15 [(1,true),(2,true),(0,false),(3,false),(4,true),(5,true),(6,true),(7,true),(8,true),(9,true),(10,true),(11,true),(12,true),(13,true),(14,true)] (by kernel_rfl) (by kernel_rfl) (by rw [aZ];exact ⟨ar.o,ac.o⟩) ?_;rw [aZ];clear aZ;refine Mixed.mp rfl (.pointer (some ⟨w.heap.size,0,none⟩)) ?_;refine Mixed.mo rfl (.string s) (fun w ck=>by obtain ⟨⟨a1,z⟩,-,-⟩:=FK.o w ck.2;clear ck;go_simp;try rfl) ?_;refine Mixed.qD6 rfl (by kernel_rfl) ?_;have ai:∀ h,Below O.heap.size O (O.alloc h):=fun h=>(Qc _ _).alloc (Qa _) h
  have am:=fun h=>J9 (ar.o.below (ai h))
  have ae:=fun h=>J9 (ac.o.trans ((ai h).mono (Qm au.o ac.o.size)))
  have av:=J9 ((a8 (O.alloc (.cells (W1.map Value.string).toArray 9)) (some ⟨O.heap.size,0,none⟩) 5).o (qaJ O W1 9));have aA:=fun h=>(show qas (O.alloc h) c (.slice ab o ad) L/\Below c g (O.alloc h) from ⟨(am h).o,(ae h).o⟩)
  clear ai ar ac;go_wp2;refine ⟨aA _,?_⟩;clear aA;refine Mixed.qD6 rfl (by kernel_rfl) ?_
  go_wp2_with fail
  refine av.o.mono ?_;rintro b9 ah ⟨rfl,aa⟩;have J:Hid (qas ah c (.slice ab o ad) L):=by rw [<- aa];exact (am _).o
  have M:Hid (Below c g ah):=by rw [<- aa];exact (ae _).o
  have aA:qas ah c (.slice ab o ad) L/\Below c g ah:=⟨J.o,M.o⟩;clear aa am ae av;go_wp2;refine ⟨aA,?_⟩;clear aA;refine Mixed.mp rfl (.bool b3) ?_;cases b3 with
  | false=>
   have aw:Hid (false=b3L (opc s) L):=(Qf fun n=>qfO (Q3 bt.o) n.1).symm;refine Mixed.ms rfl ?_;refine Mixed.ms rfl ?_;refine Mixed.ms rfl ?_;refine Mixed.mp rfl (.bool false) ?_;refine Mixed.mp rfl (.bool false) ?_;refine Mixed.ms rfl ?_;refine Mixed.ms rfl ?_;refine Mixed.ms rfl ?_;refine Mixed.ms rfl ?_;refine Mixed.ms rfl ?_;simp only [Mixed.qD8,Qq,Qy];go_wp2
   go_meet
   exact ⟨by rw [aw.o],J.o,M.o⟩
  | true=>exact absurd (Qt bt.o) aM
 case rest=>
  obtain ⟨rfl,ar,ac⟩:=hcut;clear be aW a8;have bi:Hid (qas wc c (.slice ab o ad) L/\Below c g wc):=⟨ar.o,ac.o⟩;clear ar ac
  go_upto_if 29 with fail
  obtain ⟨N,ag⟩:=N9 (b3L (opc s) L);rw [ag];have aL:=J9 ag;clear ag
  go_cut [4] (fun v wx=>∃ aE ax,v=.slice aE (if N then 1 else o) ax/\Hid (qas wx c v (if N then L.tail else L))/\Hid (Below c g wx))
  case first=>
   cases N with
   | false=>
    go_wp2
    go_meet
    exact ⟨ab,ad,rfl,bi.o.1,bi.o.2⟩
   | true=>
    obtain ⟨cB,z,U⟩:=Qt aL.o;exact absurd cB (qfO aM)
  case rest=>
   obtain ⟨aE,ax,rfl,J,M⟩:=hcut;have aD:=J9 (qeM (opc s) L N aL.o);have y:(if N then L.tail else L).length=(if N then 1 else o):=by
    cases N with
    | true=>
     obtain ⟨-,z,-⟩:=Qt aL.o;simp only [if_true,List.length_tail,z]
    | false=>simpa using aB.o
   obtain ⟨K,bA⟩:=N9 ((if N then L.tail else L));obtain ⟨aj,a0⟩:=N9 ((if N then 1 else o));rw [bA,a0] at y;rw [bA] at aD J;have cE:aj<=900:=by rw [<- a0];split <;> omega
   have ci:=J9 y;obtain ⟨E,ak⟩:=N9 (b5L (opc s) K);rw [ak] at aD;have aR:=J9 ak;rw [a0] at J |-;clear bA a0 y ak bi aL
   go_upto_region 5 with fail
   go_cut [40] (fun p wx=>p=.bool E/\Hid (qas wx c (.slice aE aj ax) K)/\Hid (Below c g wx))
   case first=>
    have Z:c<=wc.heap.size:=Qm au.o M.o.size;have ai:∀ h,Below wc.heap.size wc (wc.alloc h):=(fun h=>(Qc _ _).alloc (Qa _) h);have am:=(fun h=>J9 (J.o.below (ai h)));have ae:=(fun h=>J9 (M.o.trans ((ai h).mono Z)));have av:=J9 ((a6 (wc.alloc (.cells (W2.map Value.string).toArray 9)) (some ⟨wc.heap.size,0,none⟩) 3).o (qaJ wc W2 9));have a2:=(FK.o _ (ae (.cells #[.string ⟨#[65,68,68]⟩,.string ⟨#[65,68,67]⟩,.string ⟨#[83,66,67]⟩] 9)).o).1.1;clear ai Z J M
    go_wp2_with fail
    refine av.o.mono ?_;rintro b9 ah ⟨rfl,aa⟩;have J:Hid (qas ah c (.slice aE aj ax) K):=(by rw [<- aa];exact (am _).o);have M:Hid (Below c g ah):=(by rw [<- aa];exact (ae _).o);clear aa am ae av a2;cases cm with
    | false=>
     have aw:Hid (false=E):=(by rw [<- aR.o];exact (Qf fun n=>qfN (Q3 bc.o) n.1).symm);go_wp2
     go_meet
     exact ⟨by rw [aw.o],J.o,M.o⟩
    | true=>exact absurd (Qt bc.o) bX
   case rest=>
    obtain ⟨rfl,bO,bY⟩:=hcut;clear J M a6
    go_upto_if 40 with fail
    go_cut [4] (fun v wx=>∃ bf bk,v=.slice bf (if E then 2 else aj) bk/\Hid (qas wx c v (if E then qb4 :: K else K))/\Hid (Below c g wx))
    case first=>
     cases E with
     | false=>
      go_wp2
      go_meet
      exact ⟨aE,ax,rfl,bO.o,bY.o⟩
     | true=>
      obtain ⟨cp,z⟩:=Qt aR.o;exact absurd cp (qfN bX)
    case rest=>
     obtain ⟨bf,bk,rfl,aJ,bJ⟩:=hcut;have y:(if E then qb4 :: K else K).length=(if E then 2 else aj):=by
      cases E with
      | true=>
       obtain ⟨-,z⟩:=Qt aR.o;simp only [if_true,Qv,z]
      | false=>simpa using ci.o
     obtain ⟨j,bh⟩:=N9 ((if E then qb4 :: K else K));obtain ⟨aI,aX⟩:=N9 ((if E then 2 else aj));rw [bh,aX] at y;rw [bh] at aD aJ;have cO:aI<=900:=by rw [<- aX];split <;> omega
     have b8:=J9 y;obtain ⟨F,bu⟩:=N9 (b9L (opc s) j);have bs:=J9 bu;have a3:=J9 (qgl (opc s) j);rw [bu] at a3;rw [aX] at aJ |-;clear bh aX y bu bO bY aR ci bt bc cE
     go_upto_region 9 with fail
     obtain ⟨Q,az⟩:=N9 ((wc.alloc (.cells #[.int .i64 3,.int .i64 2,.int .i64 0] 57)).alloc (.cells #[.int .i64 3,.int .i64 1,.int .i64 0] 57));have bw:Below wc.heap.size wc Q:=(by rw [<- az];exact (B0).alloc (by simp) _);have Z:c<=wc.heap.size:=Qm au.o bJ.o.size;have ch:=J9 (aJ.o.below bw);have bb:=J9 (bJ.o.trans (bw.mono Z));have bj:Q.cell? ⟨wc.heap.size,0,none⟩=some (.int .i64 3)/\Q.cell? ⟨wc.heap.size,1,none⟩=some (.int .i64 2)/\Q.cell? ⟨wc.heap.size,2,none⟩=some (.int .i64 0):=(by rw [<- az];exact ⟨by simp [go_sem],by simp [go_sem],by simp [go_sem]⟩);have bm:Q.cell? ⟨wc.heap.size+1,0,none⟩=some (.int .i64 3)/\Q.cell? ⟨wc.heap.size+1,1,none⟩=some (.int .i64 1)/\Q.cell? ⟨wc.heap.size+1,2,none⟩=some (.int .i64 0):=(by rw [<- az];exact ⟨by simp [go_sem],by simp [go_sem],by simp [go_sem]⟩);rw [az];obtain ⟨cV,ak⟩:=N9 (wc.heap.size);obtain ⟨c7,cf⟩:=N9 (wc.heap.size+1);rw [cf] at bm |-;rw [ak] at bj |-;have b4:=J9 bj;have bM:=J9 bm;clear az bw Z aJ bJ ak cf bj bm
     go_cut [69] (fun p wx=>p=.bool F/\Hid (∃ n,wx=Q.drewN n))
     case first=>
      obtain ⟨⟨bD,-⟩,-,-⟩:=FK.o Q bb.o;obtain ⟨c9,cU,c0⟩:=b4.o;obtain ⟨cX,c1,cZ⟩:=bM.o;by_cases U:I3 s
      ·exact absurd U cg
      ·have c4:(s.toList == [69,88])=false:=by simpa using qao U
       have aw:Hid (false=F):=by
        rw [<- bs.o];exact (Qf fun n=>qhi U n.1).symm
       clear U
       go_quiet (fail)
       go_wp2
       go_meet
       exact ⟨by rw [aw.o],⟨_,rfl⟩⟩
     case rest=>
      obtain ⟨rfl,cv,rfl⟩:=hcut
      go_upto_if 69 with fail
      go_cut [4] (fun v wx=>∃ an Y,v=.slice an (if F then 2 else aI) Y/\Hid (qas wx c v (if F then [deT,hlT] else j))/\Hid (Below c g wx))
      case first=>
       cases F with
       | false=>
        go_wp2
        go_meet
        exact ⟨bf,bk,rfl,ch.o,qbZ bb.o cv⟩
       | true=>
        exact absurd (Qt bs.o).1 (qhi cg)
      case rest=>
       obtain ⟨an,Y,rfl,aK,aU⟩:=hcut;have y:(if F then [deT,hlT] else j).length=(if F then 2 else aI):=by
        cases F with
        | true=>rfl
        | false=>simpa using b8.o
       obtain ⟨i,bd⟩:=N9 ((if F then [deT,hlT] else j));obtain ⟨nq,aY⟩:=N9 ((if F then 2 else aI));rw [bd,aY] at y;rw [bd] at a3 aK;have cW:nq<=900:=by rw [<- aY];split <;> omega
       have bn:=J9 y;rw [aY] at aK |-;have bE:Hid (canL (opc s) L=i.map (wrapT (qfv (qdc (opc s) L)))):=by
        show canL (opc s) L=_;unfold canL;rw [aD.o,a3.o]
       clear bd aY y bs ch bb b8 aD a3 b4 bM cO;obtain ⟨⟨bD,aM⟩,-,ce⟩:=FK.o wc aU.o;have aT:=J9 (qd6 s A cap L (by rw [aB.o];omega) wc ce);have cK:=qb3 (opc s) L;obtain ⟨bg,m⟩:=N9 (qdc (opc s) L);have cF:Hid (bg=2):=m.symm.trans cR;rw [m] at aT cK bE;rw [aB.o] at aT;have cS:=(fun v=>J9 (qkf v i));have cD:=(fun v=>J9 (qkU v i));have cy:=(fun v=>J9 (qjY v i));have cw:=(fun v=>J9 (qkv v i));have aS:∀ v e,(wL v i e).length=nq:=fun v e=>by rw [qgA];exact bn.o
       have Z:c<=wc.heap.size:=Qm au.o aU.o.size;have cj:=J9 Z;have b1:Hid (∀ wr v,Below c g wr->qas wr c v (i.map (wrapT (qfv bg)))->∃ aV bV aO,v=.slice aV bV aO/\(wr.cell? ⟨w.heap.size,0,none⟩=some (.string s))/\Rz wr (w.heap.size+1)/\qjU w s (canL (opc s) L) (.returned (.agg #[.string s,v])) ((wr.setCell ⟨w.heap.size+1,0,none⟩ (.string s)).setCell ⟨w.heap.size+1,1,none⟩ v)):=fun wr v q ca=>by
        have cz:=aH.o;obtain ⟨aV,aO,aN,-,-,-⟩:=ca.ops;refine ⟨aV,_,aO,aN,(FK.o wr q).1.1,(q.block _ (by omega)).trans b0.o,v,rfl,?_,?_⟩
        ·rw [bE.o]
         exact ((ca.low ⟨w.heap.size+1,0,none⟩ (by simp;omega) _).low ⟨w.heap.size+1,1,none⟩ (by simp;omega) _).lift (by omega)
        ·exact ((x.o.trans (q.mono (by omega))).setCell (p:=⟨w.heap.size+1,0,none⟩) (by simp) _).setCell (p:=⟨w.heap.size+1,1,none⟩) (by simp) _
       clear ce Z m bE b0 aH x aB cC
       go_wp2_with fail
       refine aT.o.mono ?_;rintro b9 cT ⟨rfl,q⟩;have bS:=J9 (aK.o.below q);have cc:=J9 (aU.o.trans (q.mono cj.o));clear q aT aK aU bD aM cj;obtain rfl:bg=2:=cF.o;rw [show qfv 2=65536 from rfl] at b1;go_wp2
       go_loopw [8] (fun bC wr=>∃ e:Nat,e<=nq/\bC=.int .i64 e/\Hid (qas wr c (.slice an nq Y) (wL 65536 i e))/\Hid (Below c g wr)) (fun bC _=>nq - (intOf bC).toNat)
       case atStart=>exact ⟨0,Qs _,rfl,bS.o,cc.o⟩
       case round=>
        clear bS cc;obtain ⟨e,c5,rfl,G,x⟩:=hrel;by_cases b6:e<nq
        ·have aP:e<i.length:=by rw [bn.o];exact b6
         have bx:e<(wL 65536 i e).length:=(by rw [aS];exact b6);obtain ⟨aq,ap,bN,bH,bF,bW,B⟩:=G.o.qEs (by omega);rw [aS] at bH bF;simp only [QC] at bH;obtain ⟨rfl,-,rfl⟩:=bH;obtain ⟨bI,bo,bv⟩:=B.at_ e bx;rw [(cw 65536).o e aP bx] at bI bo bv;have c6:=B.frozen (ap+e*3+2);have af:=J9 ((cS 65536).o e aP);have j:=J9 ((cD 65536).o e aP);obtain ⟨⟨cL,c8,ao⟩,cd⟩:=N9 (i[e]);rw [cd] at bI bo bv af j;simp only at bI bo bv af j;have cH:Hid (c<=aq):=B.1;have ct:=J9 bF;have cq:=J9 bW;have B:=J9 B;clear aP bx cd bF bW;by_cases aF:cL=6
         ·by_cases bR:ao<0
          ·have cA:¬(0:Int)<=ao:=by omega
           by_cases cY : -32768<=ao
           ·have m:=af.o ⟨aF,by omega,bR⟩
            have cI:Hid (qas (wr.setCell ⟨aq,ap+e*3+2,none⟩ (.int .i64 (ao+65536))) c (.slice (some ⟨aq,ap,none⟩) nq Y) (wL 65536 i (e+1))):=by
             have U:=B.o.put (e*3+2) _ m;rw [<- Nat.add_assoc] at U;exact .inr ⟨aq,ap,Y,by rw [aS],by rw [aS];exact ct.o,cq.o,U⟩
            have cM:Hid (Below c g (wr.setCell ⟨aq,ap+e*3+2,none⟩ (.int .i64 (ao+65536)))):=x.o.setCell (p:=⟨aq,ap+e*3+2,none⟩) cH.o _;subst aF;clear m af j G x B;go_wp2;go_roundw
            case rel=>exact ⟨e+1,by omega,by go_num,cI.o,cM.o⟩
            case measure=>simp [intOf];omega
           ·have m:=j.o fun n=>absurd n.2.1 (by omega)
            rw [m] at G;subst aF;clear m af j B;go_wp2;go_roundw
            case rel=>exact ⟨e+1,by omega,by go_num,G.o,x.o⟩
            case measure=>simp [intOf];omega
          ·have m:=j.o fun n=>bR n.2.2
           have cA:(0:Int)<=ao:=(by omega);rw [m] at G;subst aF;clear m af j B;go_wp2;go_roundw
           case rel=>exact ⟨e+1,by omega,by go_num,G.o,x.o⟩
           case measure=>simp [intOf];omega
         ·have m:=j.o fun n=>aF n.1
          rw [m] at G;clear m af j B;go_wp2;go_roundw
          case rel=>exact ⟨e+1,by omega,by go_num,G.o,x.o⟩
          case measure=>simp [intOf];omega
        ·have cn:e=nq:=by omega
         subst cn;have cl:wL 65536 i e=i.map (wrapT 65536):=by
          rw [show e=i.length from bn.o.symm];exact (cy 65536).o
         rw [cl] at G;obtain ⟨aV,bV,aO,aN,bD,bL,a4⟩:=b1.o wr _ x.o G.o;simp only [QC] at aN;obtain ⟨rfl,rfl,rfl⟩:=aN;obtain ⟨cJ,cP,cQ,cu⟩:=bL.cells;have cN:=J9 (bL.set s (.slice an e Y));have a4:=J9 a4;clear bL cl;go_wp2;obtain ⟨a2,aQ⟩:=cN.o;obtain ⟨c3,bZ⟩:=N9 (((wr.setCell ⟨w.heap.size+1,0,none⟩ (.string s)).setCell ⟨w.heap.size+1,1,none⟩ (.slice an e Y)));rw [bZ] at a4 a2 aQ |-;clear bZ cJ cP cQ cu;refine bodyPost_ret (v:=.agg #[.string s,.slice an e Y]) ?_ rfl a4.o;simp [results,results68,go_sem,a2,aQ]
end Go.Proofs.YtjafbmfcedijmaaGreatDoor
