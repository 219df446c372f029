/-
  ShSqS, ShMqS, ShUqS, StOqS, ItDqS, ItEqS, ShYqS, TbXqS.
-/
import Derived.Test.YtjafbmfcedijmaaGreatDoorKAW
import Derived.OpenShut
set_option linter.all false
set_option maxRecDepth 100000
set_option maxHeartbeats 4000000
namespace Go.Proofs.YtjafbmfcedijmaaGreatDoor
open Tryz
open Go.RowKit Go.Shelf
theorem qrc:(prog.info? 9).map (fun i=>(i.zero,i.size,i.bytes))=some (some (.string ⟨#[]⟩),1,16):=by kernel_rfl
def qlO (L:List ByteArray):List Value:=L.map Value.string
def qd9 (w:World) (B:Nat) (v:Value) (L:List ByteArray):Prop:=w.ownsRow B 9 1 v L.length (qlO L)
theorem qd9.strs {w:World} {n:Nat} {v:Value} {L:List ByteArray} (j:qd9 w n v L):∃ h g,v=.slice h L.length g/\qew w h L:=by
 rcases j.2 with ⟨rfl,z⟩ | ⟨y,g,G,rfl,_,_,_⟩
 ·have:L=[]:=Qu z
  subst this;exact ⟨none,0,rfl,.inl rfl⟩
 ·refine ⟨_,g,rfl,.inr ⟨y,0,rfl,fun A E=>?_⟩⟩
  rw [QS,World.ownsRow.cellAt j A (by omega)];unfold qlO;rw [Za,Qi E];rfl
theorem qd9.below {w w':World} {n:Nat} {v:Value} {L:List ByteArray} (h:qd9 w n v L) (k:Below w.heap.size w w'):qd9 w' n v L:=
 World.ownsRow.kept h (row:=none) ⟨k.os,k.tape,k.output,k.size,fun g e _=>k.block g e⟩ (by
  cases i:v.ownBlock with
  | none=>exact .inl rfl
  | some y=>exact .inr (by simp))
theorem qrS (w:World) (n:Nat):qd9 w n (.slice none 0 0) []:=Zm _ _ _ _
theorem qtp {w:World} {n:Nat} {v:Value} {L:List ByteArray} (ad:qd9 w n v L) (s:ByteArray) (af:L.length<=1000000) (u:n<=w.heap.size) (ty:TypeId) :
  ∃ k h,(Builtin.append_ #[45,45] ty #[v,.slice (some ⟨w.heap.size,0,none⟩) 1 1]).run prog (w.alloc (.cells #[.string s] 9))=.ok k h/\qd9 h n k (L++[s])/\Below n w h:=by
 obtain ⟨V,J,ae,aa,ab⟩:=info_parts qrc;have y:Below w.heap.size w (w.alloc (.cells #[.string s] 9)):=B0;have z:=ad.below y;obtain ⟨k,h,M,E,Z,_⟩:=run_append_own (P:=prog) (w.alloc (.cells #[.string s] 9)) n 45 ty 9 V _ 1 16 underlying45 J ae aa ab rfl (by decide) v L.length _ z ⟨w.heap.size,0,none⟩ 1 1 [.string s] rfl
  (fun O U j=>by
   match O,j with
   | 0,j=>simp at j;subst j;simp [Addr.add,go_sem])
  (fun U G=>by simp at G;subst G;rfl) (by unfold maxLen;omega) (by omega) (Qm u y.size)
 refine ⟨k,h,M,?_,?_⟩
 ·unfold qd9
  rw [Qg];unfold qlO at E |-;rw [Zc];exact E
 ·exact ((Qc n w).alloc u _).grown Z (Qm u y.size) (fun K ac=>(World.ownsRow.lt z K ac).1)
theorem qkO {w:World} {n:Nat} {v:Value} {L:List ByteArray} (U:qd9 w n v L) (s:ByteArray) (K:L.length<=1000000) (O:n<=w.heap.size)
  {ops:Array Oper} {rest:List Oper} {o:Oper} {a:Act} {Q:Exit->Act->World->Prop} (V:o.guard=none) (sl x:Operand)
  (M:o.op=.call {callee:=.builtin .append,args:=#[sl,x],argTypes:=#[45,45]}) (J:a.eval sl=v) (E:a.eval x=.slice (some ⟨w.heap.size,0,none⟩) 1 1)
  (k:∀ A c w',qd9 w' n (.slice A (L.length+1) c) (L++[s])->Below n w w'->wpList prog ops Q rest (a.put o.dst (.slice A (L.length+1) c)) w'):wpList prog ops Q (o :: rest) a (w.alloc (.cells #[.string s] 9)):=by
 refine wpList_plain V fun Z z=>?_
 obtain ⟨aa,w',y,h,G⟩:=qtp U s K O o.type;obtain ⟨A,c,rfl,-⟩:=h.strs;rw [Qg] at h y;unfold Oper.wp execOp;simp only [M,resolve,invoke,builtin,Sem.run_bind,Sem.run_pure,Result.andThen_ok,List.map_toArray,List.map_cons,List.map_nil,J,E,y];exact z _ _ (k A c w' h G)
theorem qyR {q:Bool} {p:Prop} (y:q=true↔p) (h:¬p):q=false:=by
 cases q
 ·rfl
 ·exact absurd (y.1 rfl) h
def qz3 (w:World) (q:Bool) (e:Ending) (w':World):Prop:=∃ h:Int,e=.returned (.int .i64 h)/\decide (0<=h)=q/\Below w.heap.size w w'
theorem qpJ (A:Option Addr) (c:Nat) (L:List ByteArray) (J:L.length<=maxLen) (t:ByteArray) (q:Bool) (U:q=true↔t∈L) (w:World) (H:qew w A L) :
  Calls prog 59 #[.slice A L.length c,.string t] w (qz3 w q):=by
 unfold maxLen at J;have X:=J9 H;have K:=J9 U;obtain ⟨B,E⟩:=N9 (L.length);have O:=J9 E;rw [E] at J |-;clear E H U
 go_enter func59,ntmps59
 go_wp2
 go_loopw [8] (fun n wr=>∃ e:Nat,e<=B/\n=.int .i64 e/\Hid (∀ a,a<e->∀ (y:a<L.length),L[a]≠t)/\Hid (Below w.heap.size w wr)) (fun n _=>B - (intOf n).toNat)
 case atStart=>exact ⟨0,Qs _,rfl,fun a af=>by omega,Qc _ _⟩
 case round=>
  obtain ⟨e,ab,rfl,i,j⟩:=hrel;by_cases ad:e<B
  ·have k:e<L.length:=by have:=O.o;omega
   obtain ⟨aa,ac,V,M⟩:=(X.o.below j.o).at_ k;subst V;by_cases h:L[e]=t
   ·have x:Hid (t∈L):=h ▸ QB k
    rw [h] at M;have R:=qEp t;clear h k i;go_wp2;go_ret;exact ⟨_,rfl,by rw [K.o.2 x.o];exact Qn (by omega),j.o⟩
   ·have R2:Hid (∀ a,a<e+1->∀ (y:a<L.length),L[a]≠t):=fun a T y=>by
     by_cases z:a=e
     ·subst z;exact h
     ·exact i.o a (by omega) y
    have R:=qao (fun z=>h z.symm);obtain ⟨ae,G⟩:=N9 (L[e]);rw [G] at M R;clear h G k i;go_wp2;go_roundw
    case rel=>exact ⟨e+1,by omega,by go_num,R2.o,j.o⟩
    case measure=>simp [intOf];omega
  ·have x:Hid (t∉L):=fun Z=>by
    obtain ⟨a,T,h⟩:=Zg Z;exact i.o a (by have:=O.o;omega) T h
   clear i;go_wp2;go_ret;exact ⟨_,rfl,by rw [qyR K.o x.o];rfl,j.o⟩
theorem qjv (A:Option Addr) (c:Nat) (L:List ByteArray) (G:L.length<=maxLen) (t:ByteArray) (q:Bool) (i:q=true↔t∈L) (w:World) (H:qew w A L) :
  Calls prog 28 #[.slice A L.length c,.string t] w fun e K=>e=.returned (.bool q)/\Below w.heap.size w K:=by
 have J:=J9 (qpJ A c L G t q i w H);clear H i
 go_enter func28,ntmps28
 go_wp2_with fail
 refine J.o.mono ?_;rintro e N ⟨M,rfl,h,y⟩;have E:=J9 y;have z:=J9 h;clear y h;go_wp2;go_ret;exact ⟨qaa z.o,E.o⟩
end Go.Proofs.YtjafbmfcedijmaaGreatDoor
namespace Go.Proofs.YtjafbmfcedijmaaGreatDoor
open Tryz
open Go.RowKit Go.Shelf
attribute [local go_sem] Oper.semAt_some
def SpS (b k n:Nat) (F:List ByteArray) (wr:World):Prop:=
 ∃ j,wr.heap[b]?=some (.cells j 9 (0,0))/\(∀ h (y:h<F.length),h<k->j[h]?=some (.string F[h]))/\∀ h,h<n->∃ v,j[h]?=some (.string v)
theorem SpS.start (w:World) (n:Nat) (F:List ByteArray):SpS w.heap.size 0 n F (w.alloc (.cells (madeCells #[.string ⟨#[]⟩] n) 9)):=by
 refine ⟨_,heap_alloc_new w _,fun h _ j=>absurd j (Nat.not_lt_zero _),fun h y=>⟨⟨#[]⟩,?_⟩⟩;unfold madeCells;rw [Array.getElem?_map,Array.getElem?_range,Qk (by simpa using y)];simp [Nat.mod_one]
theorem SpS.below {b k n:Nat} {F:List ByteArray} {w w':World} (E:SpS b k n F w) (G:Below w.heap.size w w'):SpS b k n F w':=by
 obtain ⟨z,h,J,y⟩:=E;exact ⟨z,(G.block b (Qb.1 h).1).trans h,J,y⟩
theorem SpS.at_ {b k n:Nat} {F:List ByteArray} {w:World} (E:SpS b k n F w) (j:Nat) (G:j<n):(∃ v,w.cell? ⟨b,j,none⟩=some (.string v))/\w.frozen? ⟨b,j,none⟩=false:=by
 obtain ⟨J,h,_,y⟩:=E;obtain ⟨v,z⟩:=y j G;exact ⟨⟨v,(C9 h j).trans z⟩,Qr h j⟩
theorem SpS.set {b k n:Nat} {F:List ByteArray} {w:World} (J:SpS b k n F w) (O:k<F.length) (G:k<n):SpS b (k+1) n F (w.setCell ⟨b,k,none⟩ (.string F[k])):=by
 obtain ⟨v,M,K,z⟩:=J;refine ⟨_,heap_setCell_same w b k v _ _ M,fun h y U=>?_,fun h y=>?_⟩
 ·rw [QT]
  by_cases e:k=h
  ·subst e
   obtain ⟨E,j⟩:=z k G;have:k<v.size:=(Qb.1 j).1;rw [Qk rfl,Qk this]
  ·rw [Qd e]
   exact K h y (by omega)
 ·rw [QT]
  obtain ⟨E,j⟩:=z h y;by_cases e:k=h
  ·subst e
   have:k<v.size:=(Qb.1 j).1;rw [Qk rfl,Qk this];exact ⟨_,rfl⟩
  ·rw [Qd e]
   exact ⟨E,j⟩
theorem SpS.done {b n:Nat} {F:List ByteArray} {w:World} (y:SpS b F.length n F w):qew w (some ⟨b,0,none⟩) F:=by
 obtain ⟨G,E,z,_⟩:=y;exact .inr ⟨b,0,rfl,fun h j=>by rw [QS];exact (C9 E h).trans (z h j j)⟩
def qdi (r:Xe):ByteArray:=sB (qbP r.x)
theorem qp6 (h:List Xe) (A:Option Addr) (l cap:Nat) (az:h.length=l) (a2:l<=1000) (hF:∀ r∈h,qge r.x) (w:World) (aq:qac w) (H:qi2 w A h) :
  Calls prog 23 #[.slice A l cap] w (ql1 w (h.map qdi)):=by
 have aI:∀ w,(Instr.makeSlice 45 (.int .i64 (l:Int)) (.int .i64 (l:Int))).run prog w=.ok (.slice (some ⟨w.heap.size,0,none⟩) l l) (w.alloc (.cells (madeCells #[.string ⟨#[]⟩] l) 9)):=fun w=>
  run_make_row' (P:=prog) 45 9 (.string ⟨#[]⟩) 16 underlying45 qrc rfl .i64 .i64 l (by omega) (by omega) w
 have O:(h.map qdi).length=l:=by rw [QM];exact az
 obtain ⟨e,y⟩:=N9 (w.heap.size);have s:=SpS.start w l (h.map qdi);have B0:Below w.heap.size w (w.alloc (.cells (madeCells #[.string ⟨#[]⟩] l) 9)):=B0;rw [y] at s B0;have s:=J9 s;have B0:=J9 B0;have E:Hid (∀ j,j<l->∃ r:Xe,(∀ b,Below e w b->ItJ b A r j)/\(∀ b,Below e w b->Calls prog 53 #[r.v] b fun ap aN=>ap=.returned (.string (qdi r))/\Below b.heap.size b aN)/\∀ b,SpS e j l (h.map qdi) b->SpS e (j+1) l (h.map qdi) (b.setCell ⟨e,j,none⟩ (.string (qdi r)))):=by
  intro j aT;have an:j<h.length:=by omega
  refine ⟨h[j],fun b v=>(H.below (by rw [y];exact v)).j an,fun b v=>?_,fun b ac=>?_⟩
  ·obtain ⟨aE,aJ,-,-,-,-,-,-,aQ,aC⟩:=(H.below (by rw [y];exact v)).j an
   exact qku h[j] (hF _ (QB _)) b (aq.below (by rw [y];exact v)) ⟨aQ,aC⟩
  ·have k:=ac.set (by omega:j<(h.map qdi).length) aT
   rw [Zt] at k;exact k
 have F:Hid (∀ b,SpS e l l (h.map qdi) b->Below e w b->ql1 w (h.map qdi) (.returned (.slice (some ⟨e,0,none⟩) l l)) b):=by
  intro b ac v;have k:SpS e (h.map qdi).length l (h.map qdi) b:=by rw [O];exact ac
  exact ⟨_,l,by rw [O],k.done,by rw [y];exact v⟩
 obtain ⟨aa,ar⟩:=N9 (h.map qdi);rw [ar] at s E F |-;clear H aq hF az O ar
 go_enter func23,ntmps23
 go_wp2
 go_loopw [11] (fun W wr=>∃ i:Nat,i<=l/\W=.int .i64 i/\Hid (Below e w wr)/\Hid (SpS e i l aa wr)/\e<wr.heap.size) (fun W _=>l - (intOf W).toNat)
 case atStart=>exact ⟨0,Qs _,rfl,B0.o,s.o,by simp;omega⟩
 case round=>
  clear B0 s aI;obtain ⟨i,a4,rfl,z,K,aF⟩:=hrel;by_cases ao:i<l
  ·obtain ⟨r,ax,k,U⟩:=E.o i ao
   obtain ⟨aE,aJ,aV,aw,ae,ah,aA,au,-,-⟩:=ax wr z.o;subst aV;unfold Xe.v at k;obtain ⟨ag,am⟩:=N9 (qdi r);rw [am] at k U;have Z:=J9 k;have ad:=J9 U;obtain ⟨x,A1,aB,af,ak⟩:=r;simp only at aw ae ah aA au Z;obtain ⟨aG,M,a1,a0,aj,R,a3⟩:=Fr.box (Fr.nil wr) #[.int .i64 x.kind,.slice A1 x.raw.length aB,.string (sB x.m),.slice af x.C.length ak,.bool x.al] 50;have I2:qar M aG x.kind (.slice A1 x.raw.length aB) (sB x.m) (.slice af x.C.length ak) x.al:=aj.o.1;obtain ⟨aR,aK,aM,aW,aS,aP⟩:=I2.cells;have V:=J9 (z.o.trans (R.mono (Zb aF)));have ai:Hid (SpS e i l aa M):=K.o.below R;have av:=J9 (Z.o M V.o);have aD:e<M.heap.size:=(by omega);clear z K aj R I2 ax k U Z E F am
   go_wp2_with fail
   refine av.o.mono ?_;rintro ap G ⟨rfl,J⟩;have ay:=J9 (V.o.trans (J.mono (Zb aD)));have ab:Hid (SpS e i l aa G):=ai.o.below J;obtain ⟨⟨aY,aZ⟩,aX⟩:=ab.o.at_ i ao;have aL:=J9 (ad.o G ab.o);have aH:Hid (Below e w (G.setCell ⟨e,i,none⟩ (.string ag))):=ay.o.setCell (by simp) _;have aO:e<(G.setCell ⟨e,i,none⟩ (.string ag)).heap.size:=(by have:=J.size;simp;omega);clear av J V ai aR aK aM aW aS aP ad ay ab aw ae ah aA au;go_wp2;go_roundw
   case rel=>exact ⟨i+1,by omega,by go_num,aH.o,aL.o,aO⟩
   case measure=>simp [intOf];omega
  ·obtain rfl:i=l:=by omega
   have aU:=J9 (F.o wr K.o z.o);clear K z E F;go_wp2;go_ret;exact aU.o
end Go.Proofs.YtjafbmfcedijmaaGreatDoor
namespace Go.Proofs.YtjafbmfcedijmaaGreatDoor
open Tryz
open Go.RowKit Go.Shelf
theorem qAu {p:Int} {n:Nat} (K:n<256) {x:En} (E:qaX p n=some x) {d m:Int} {C:List Tr} (ab:qaZ x.2.2.1 x.2.1 d m=some C) :
  (x.2.2.2=false->legB (sB x.1) C=true)/\C.length<=3/\x.1.length<=10:=by
 have ad:qcU (p,(n:Int),x.1,x.2.1,x.2.2.1,x.2.2.2):=⟨n,K,rfl,E⟩;have ok:=ad.ok;have y:qa3 x.1 x.2.1 x.2.2.1 (sB x.1) C=true:=by rw [<- qjB ok.places];exact quT ok.places ab
 have J:=quf ok.can y;have ae:=qfL ok y;have G:=y;unfold qa3 qfU at G;simp only [Qh,Ql] at G;obtain ⟨⟨-,M⟩,-⟩:=G;have ah:x.2.1.length=C.length:=by have:=congrArg List.length M;simpa using this
 have ac:=ok.len;simp only at ac;have Z:=(qby ok.code).1;have O:=qwZ K E;have af:x.1.length<=10:=by
  have h:=O.1;unfold okS at h;simp only [Qh,Ql] at h;omega
 refine ⟨fun ag=>?_,by omega,af⟩;rw [qbF,J];have V:qa6 (sB x.1) C=0:=qnM Z (by rw [J];omega) (by rw [J];exact ae);have z:=ok.fst;rw [qjV M] at z;have U:=ok.lo;have aa:=ok.hi;simp only at z U aa;refine ⟨V,p,n,?_,?_,K,x,E,ag,y⟩
 ·unfold qlE
  rw [z];by_cases h:3<=p
  ·simp [h]
  ·simp [h];omega
 ·unfold quq
  rw [z];by_cases h:3<=p
  ·simp [h];omega
  ·simp [h];omega
def qDl (h:Ite):Prop:=(h.raw≠[]/\h.raw.length<=4)/\h.m.length<=10/\h.C.length<=3/\(h.kind=1/\h.al=false->legB (sB h.m) h.C=true)
theorem qBA {b:Str} (E:b≠[]):qDl (itR b):=by
 have G:=qvo E;have z:=(qbS E).1;refine ⟨⟨fun h=>by rw [h] at z;simp at z,G⟩,?_⟩;have p:∀ (r:Int) (C:Str),itR b=qbB r C->r≠1->(itR b).m.length<=10/\(itR b).C.length<=3/\((itR b).kind=1/\(itR b).al=false->legB (sB (itR b).m) (itR b).C=true):=fun r C h q=>by
  rw [h];exact ⟨by simp [qbB],by simp [qbB],fun y=>absurd y.1 q⟩
 cases o:hdB b with
 | none=>exact p 4 b (by unfold itR;rw [o]) (by decide)
 | some O=>
  obtain ⟨t,x,aa⟩:=O;cases e:qaX t x.toNat with
  | none=>
   by_cases q:rkindT t x.toNat=0
   ·exact p 2 (b.take 1) (by unfold itR;rw [o];simp only [e];rw [Qk q]) (by decide)
   ·exact p 3 (b.take 2) (by unfold itR;rw [o];simp only [e];rw [Qd q]) (by decide)
  | some V=>
   by_cases M:b.length<sizeT t V.2.2.1
   ·exact p 4 b (by unfold itR;rw [o];simp only [e];rw [Qk M]) (by decide)
   ·obtain ⟨ab,Z,-,h,-⟩:=qxO o e (by omega)
    obtain ⟨U,J,K⟩:=qAu x.toNat_lt e Z;rw [h];exact ⟨K,J,fun y=>U y.2⟩
theorem qkq {P:Ite->Prop} (E:∀ b:Str,b≠[]->P (itR b)):∀ (n:Nat) (b:Str),b.length<=n->∀ y∈itemsR b,P y
 | 0,b,G,y,h=>by
  obtain rfl:b=[]:=Qu (by omega);rw [qeR] at h;cases h
 | n+1,b,G,y,h=>by
  by_cases z:b=[]
  ·subst z
   rw [qeR] at h;cases h
  ·rw [qfo z] at h
   rcases QI.1 h with rfl | h
   ·exact E b z
   ·have J:=(qbS z).1
    exact qkq E n _ (by rw [Q1];omega) y h
theorem quN (b:Str):∀ h∈itemsR b,qDl h:=qkq (fun _=>qBA) b.length b (Qa _)
theorem qzq {h:Ite} (y:qDl h):qbP h≠[]:=by
 unfold qbP;split
 ·rename_i z
  exact qxq (y.2.2.2 z)
 ·unfold qgb
  rw [Qd y.1.1];simp
end Go.Proofs.YtjafbmfcedijmaaGreatDoor
namespace Go.Stops
open Go Go.RowKit
def qwx {E:Type} (T:TypeId) (q:Nat) (y:E->World->Prop):Prop:=∀ s h z,y s h->h.grownBy z (some q)->(∃ G J,h.heap[q]?=some (.cells G T J))->y s z
def qFd {x:Type} (F:Fence) (n:Nat) (P:Program) (g:Nat) (lb:Array Value) (V:x->Array Value) (T:TypeId) (O:Nat->List x->x->World->Prop) (U:Nat->World->World->Prop) (S:List x->Prop) (w:World):Prop:=
 ∀ (K:Nat) (l E:Nat->List x->World->Prop) (h:World),Below w.heap.size w h->(∀ e,h.heap.size<=e->AbidesFrom h.heap.size (l e))->(∀ e,h.heap.size<=e->qwx T e (l e))->
  (∀ e q y W1,h.heap.size<=e->e<W1.heap.size->l e q W1->O e q y W1->YieldAt F (n - 1) P K (V y) W1 fun z v=>(z=.returned (.bool true)/\l e (q++[y]) v/\U e W1 v)\/(z=.returned (.bool false)/\E e (q++[y]) v))->
  (∀ e,h.heap.size<=e->AbidesFrom h.heap.size (E e))->(∀ e G,h.heap.size<=e->Below h.heap.size h G->e<G.heap.size->l e [] G)->CallsIn F n P g (#[.func (.yield K) #[] #[]]++lb) h fun z v=>(∃ M,z=.returned M)/\((∃ e J,h.heap.size<=e/\S J/\l e J v)\/∃ e q,h.heap.size<=e/\E e q v)
variable {F:Fence} {n:Nat} {P:Program}
theorem qE0 {j:Type} {g:Operand} {ps:Array Tmp} {assign body:Code} {Q:Exit->Act->World->Prop} {a:Act} {w:World} (aL:F.round=none) (a3:1<=n)
  {gf:Nat} {lb:Array Value} (aO:a.eval g=.func (.func gf) #[] lb) (aT:F.fn gf) (aH:∀ args w,(callFunc gf args).run P w=.ok (.enter gf args) w)
  {af:j->Array Value} {T:TypeId} {aB:Nat->List j->j->World->Prop} {E:Nat->World->World->Prop} {S:List j->Prop} (bb:qFd F (n - 1) P gf lb af T aB E S w)
  (aj:∀ {q:Nat} {A B C:World},E q A B->E q B C->E q A C) (az:∀ (q:Nat) (W:World) (l:Nat) (o aM:Obj),w.heap.size<=l->W.heap[l]?=some o->o.isCells=false->E q W (W.putObj l aM)) (aN:∀ x,(af x).size=ps.size)
  (I ai:Nat->List j->World->Prop) (ah:∀ q,w.heap.size+2<=q->OwnFrom w.heap.size (I q)) (bf:∀ q,w.heap.size+2<=q->qwx T q (I q)) (ak:∀ q,w.heap.size+2<=q->OwnFrom w.heap.size (ai q)) (bc:∀ q X,w.heap.size+2<=q->Below w.heap.size w X->q<X.heap.size->I q [] X) (ag:Nat->List j->j->Act->World->Prop) (aR:∀ q p x,OwnFrom w.heap.size (ag q p x))
  (aU:∀ (l q:Nat) (e:List j) (x:j) (W:World) (av:Act->World->Prop),w.heap.size+2<=q->q<W.heap.size->I q e W->aB q e x W->(∀ J ab,KeepsFrom w.heap.size W ab->E q W ab->q<ab.heap.size->I q e ab->ag q e x J ab->av J ab)->
   assign.wpIn (F.inRound l) (n - 1 - 1) P (Exit.then av (fun _ _ _=>False)) {tmps:=(ps.zip (af x)).foldl (fun t (p,v)=>t.setIfInBounds p v) a.tmps,defers:=[]} W)
  (a4:∀ (l q:Nat) (e:List j) (x:j) (J:Act) (W:World),w.heap.size+2<=q->q<W.heap.size->I q e W->ag q e x J W->body.wpIn (F.inRound l) (n - 1 - 1) P (qoj w.heap.size (E q) (I q) (ai q) (e++[x]) W) J W)
  (aJ:∀ (D q:Nat) (xs:List j) (W:World),w.heap.size<=D->w.heap.size+2<=q->S xs->I q xs W->W.heap[D]?=some (.deferred (some []))->Q .normal {a with defers:={target:=.collected D,args:=#[]} :: a.defers} W)
  (aG:∀ (D q:Nat) (e:List j) (W:World),w.heap.size<=D->w.heap.size+2<=q->ai q e W->W.heap[D]?=some (.deferred (some []))->Code.ret.wpIn F n P Q {a with defers:={target:=.collected D,args:=#[]} :: a.defers} W) :
  (Code.rangeFunc g ps assign body).wpIn F n P Q a w:=by
 refine wpIn_rangeFunc fun fn a7=>?_
 rw [aL];let s:LoopState->Option Code->Loop:=fun aI aS=>{state:=aI,pending:=aS,fn:=fn,tmps:=a.tmps,params:=ps,assign:=assign,body:=body,defers:=w.heap.size}
 let B:World:=(w.alloc (.deferred (some []))).alloc (.loop (s .ready none));have bd:B.heap[w.heap.size]?=some (.deferred (some [])):=(Below.heap_alloc _ _ _ (by simp)).trans (World.alloc_heap_new w _);have a9:B.heap[w.heap.size+1]?=some (.loop (s .ready none)):=by
  have be:=World.alloc_heap_new (w.alloc (.deferred (some []))) (.loop (s .ready none))
  rwa [QL] at be
 have au:Below w.heap.size w B:=((B0 (w:=w))).alloc (by simp) _;have bg:B.heap.size=w.heap.size+1+1:=by simp [B]
 -- what a turn of a walk of the iterator's own leaves of the two blocks
 have walk:∀ {X Y:World} {row:Option Nat} {U:Nat} {o:Obj},X.grownBy Y row->(∀ h,row=some h->B.heap.size<=h/\∃ o:Obj,X.heap[h]?=some o/\o.isWalk=true)->X.heap[U]?=some o->U<w.heap.size+2->Y.heap[U]?=some o:=fun k r ao bj=>
  (k.block _ (Qb.1 ao).1 fun aa=>by have:=(r _ aa.symm).1;omega).trans ao
 have ar:∀ {X Y:World} {row:Option Nat},(∀ h,row=some h->B.heap.size<=h/\∃ o:Obj,X.heap[h]?=some o/\o.isWalk=true)->(∀ h,row=some h->w.heap.size<=h/\∃ o:Obj,X.heap[h]?=some o/\o.isCells=false):=fun r h aa=>by
  obtain ⟨bh,o,aP,a8⟩:=r h aa;exact ⟨by omega,o,aP,Obj.not_cells_of_walk a8⟩
 refine ⟨w.heap.size+1,[{target:=.collected w.heap.size,args:=#[]}],B,{target:=.fn (.func gf) lb,args:=#[.func (.yield (w.heap.size+1)) #[] #[]]},B,gf,#[.func (.yield (w.heap.size+1)) #[] #[]]++lb,B,
  run_enterLoop_outer _ _ _ _ _,by simp only [resolve,aO];simp [go_sem],fun bk aq=>by simp [Target.leads] at aq;subst aq;exact aT,by simp [invoke,go_sem,aH],fun _=>a3,?_⟩
 refine (bb (w.heap.size+1) (fun q e W=>I q e W/\W.heap[w.heap.size+1]?=some (.loop (s .ready none))/\W.heap[w.heap.size]?=some (.deferred (some [])))
  (fun q e W=>ai q e W/\W.heap[w.heap.size+1]?=some (.loop (s .done (some .ret)))/\W.heap[w.heap.size]?=some (.deferred (some []))) B au ?_ ?_ ?_ ?_ ?_).mono ?_
 ·rintro q ac ad X Y row ⟨M,G,V⟩ k r
  exact ⟨ah q (by omega) ad X Y row M k (ar (Y:=Y) r),walk k r G (by omega),walk k r V (by omega)⟩
 ·rintro q ac ad X Y ⟨M,G,V⟩ k aW
  have h:∀ {U:Nat} {o:Obj},X.heap[U]?=some o->U<w.heap.size+2->Y.heap[U]?=some o:=fun ay ao=>(k.block _ (Qb.1 ay).1 fun aa=>by have:=Qw aa;omega).trans ay
  exact ⟨bf q (by omega) ad X Y M k aW,h G (by omega),h V (by omega)⟩
 ·rintro q e x W ac aX ⟨M,G,V⟩ aZ
  refine ⟨fn,_,assign,body,run_yield (P:=P) (args:=af x) G (aN x),roundIn_of_wpIn a7 (aU _ q e x W _ (by omega) aX M aZ fun J am ax a0 aF a1 a2=>?_)⟩;have ae:=ax.same _ _ (by omega) G rfl;have aK:=ax.same _ _ (Qa _) V rfl;have aD:w.heap.size+1<am.heap.size:=(Qb.1 ae).1;refine ⟨_,run_beginRound ae rfl,?_⟩;obtain ⟨K,O⟩:=N9 (am.putObj (w.heap.size+1) (.loop {s .ready none with state:=.busy}));have aA:K.heap[w.heap.size+1]?=some (.loop {s .ready none with state:=.busy}):=O ▸ World.putObj_heap_same aD;have aw:K.heap[w.heap.size]?=some (.deferred (some [])):=O ▸ (World.putObj_heap_other (by omega)).trans aK;have aC:I q e K:=O ▸ (ah q (by omega)).putObj _ a1 (by omega) ae rfl;have aV:ag q e x J K:=O ▸ (aR q e x).putObj _ a2 (by omega) ae rfl;have aY:E q W K:=aj a0 (O ▸ az _ _ _ _ _ (by omega) ae rfl);have a5:q<K.heap.size:=by rw [<- O];simpa using aF
  show body.wpIn _ _ _ _ _ (am.putObj (w.heap.size+1) (.loop {s .ready none with state:=.busy}));rw [O];refine wpIn_mono (a4 _ q e x J K (by omega) a5 aC aV) ?_;rintro (_ | _ | _ | _ | _ | _) bi aQ an
  case normal=>
   obtain ⟨y,Z,R⟩:=an;have z:=y.same _ _ (by omega) aA rfl;exact ⟨_,_,run_endRound (P:=P) none z,.inl ⟨rfl,⟨(ah q (by omega)).putObj _ R (by omega) z rfl,World.putObj_heap_same (Qb.1 z).1,(World.putObj_heap_other (by omega)).trans (y.same _ _ (Qa _) aw rfl)⟩,aj (aj aY Z) (az _ _ _ _ _ (by omega) z rfl)⟩⟩
  case ret=>
   obtain ⟨y,R⟩:=an;have z:=y.same _ _ (by omega) aA rfl;exact ⟨_,_,run_endRound (P:=P) (some .ret) z,.inr ⟨rfl,(ak q (by omega)).putObj _ R (by omega) z rfl,World.putObj_heap_same (Qb.1 z).1,(World.putObj_heap_other (by omega)).trans (y.same _ _ (Qa _) aw rfl)⟩⟩
  all_goals exact an.elim
 ·rintro q ac ad X Y row ⟨M,G,V⟩ k r
  exact ⟨ak q (by omega) ad X Y row M k (ar (Y:=Y) r),walk k r G (by omega),walk k r V (by omega)⟩
 ·rintro q X ac ap a6
  exact ⟨bc q X (by omega) (au.trans (ap.mono (by omega))) a6,(ap.block _ (by omega)).trans a9,(ap.block _ (by omega)).trans bd⟩
 ·rintro aa aQ ⟨⟨v,rfl⟩,(⟨q,xs,ac,aE,y,Z,R⟩ | ⟨q,e,ac,y,Z,R⟩)⟩
  ·exact ⟨none,_,run_endLoop (P:=P) Z (by simp [s]),aJ _ q xs _ (Qa _) (by omega) aE ((ah q (by omega)).putObj _ y (by omega) Z rfl) ((World.putObj_heap_other (by omega)).trans R)⟩
  ·exact ⟨some .ret,_,run_endLoop (P:=P) Z (by simp [s]),aG _ q e _ (Qa _) (by omega) ((ak q (by omega)).putObj _ y (by omega) Z rfl) ((World.putObj_heap_other (by omega)).trans R)⟩
end Go.Stops
namespace Go.Proofs.YtjafbmfcedijmaaGreatDoor
open Tryz
open Go.RowKit Go.Shelf
attribute [local go_sem] Oper.semAt_some
attribute [local irreducible] Go.Mixed.qD8
def Kq (q cb:Nat) (W o:World):Prop:=W.heap.size<=o.heap.size/\∀ h k,h<=q->h≠cb->W.heap[h]?=some k->k.isCells=true->o.heap[h]?=some k
theorem Kq.refl (q cb:Nat) (W:World):Kq q cb W W:=⟨Qa _,fun _ _ _ _ h _=>h⟩
theorem Kq.trans {q cb:Nat} {A B C:World} (y:Kq q cb A B) (k:Kq q cb B C):Kq q cb A C:=⟨Qm y.1 k.1,fun o h E z G x=>k.2 o h E z (y.2 o h E z G x) x⟩
theorem Kq.le {p q cb:Nat} {W h:World} (o:Kq q cb W h) (k:p<=q):Kq p cb W h:=⟨o.1,fun z x J G y E=>o.2 z x (Qm J k) G y E⟩
theorem Kq.of_below {q cb:Nat} {W h:World} (o:Below W.heap.size W h):Kq q cb W h:=⟨o.size,fun y z _ _ k _=>(o.block y (Qb.1 k).1).trans k⟩
theorem Kq.put (q cb:Nat) (W:World) (l:Nat) (o x:Obj) (G:W.heap[l]?=some o) (y:o.isCells=false):Kq q cb W (W.putObj l x):=by
 refine ⟨by simp,fun E J _ _ h k=>?_⟩;have z:E≠l:=by
  rintro rfl;rw [G] at h;obtain rfl:=Qw h;rw [y] at k;cases k
 exact (World.putObj_heap_other z).trans h
theorem Kq.cell {q cb:Nat} {W h:World} (G:Kq q cb W h) {a:Addr} {v:Value} (y:W.cell? a=some v) (K:a.block<=q) (J:a.block≠cb):h.cell? a=some v:=by
 obtain ⟨z,o,E⟩:=cells_of_cell y;exact (QN ((G.2 _ z K J o E).trans o.symm)).trans y
theorem BytesAt.kq {q cb:Nat} {W j:World} {A:Option Addr} {xs:Str} (h:BytesAt W A xs) (k:Kq q cb W j) (G:∀ a,A=some a->xs≠[]->a.block<=q/\a.block≠cb):BytesAt j A xs:=by
 by_cases b:xs=[]
 ·exact .inl b
 rcases h with h | ⟨z,J,rfl,y⟩
 ·exact absurd h b
 ·obtain ⟨O,K⟩:=G _ rfl b
  exact .inr ⟨z,J,rfl,fun E M=>k.cell (y E M) O K⟩
theorem qnt {W:World} {A:Option Addr} {xs:Str} (b:BytesAt W A xs) (a:Addr) (z:A=some a) (h:xs≠[]):a.block<W.heap.size:=by
 rcases b with b | ⟨E,G,e,y⟩
 ·exact absurd b h
 ·rw [z] at e
  obtain rfl:=Qw e;exact Qp W _ (y 0 (Q9.2 h))
theorem qnV {w w':World} {b:Str} {h:Int} {e:Ending} (c:qk4 w b h e w'):∃ (r:Xe) (z:Int) (ok:Bool),e=.returned (.tuple #[.agg #[.int .i64 r.x.kind,.slice r.A r.x.raw.length r.ca,.string (sB r.x.m),.slice r.B r.x.C.length r.cb,.bool r.x.al],.int .i64 z,.bool ok])/\Below w.heap.size w w'/\
  (ok=true->∃ k:Nat,h=k/\k<b.length/\r.x=itR (b.drop k)/\z=((k+r.x.raw.length:Nat):Int)/\qdv w' w.heap.size r)/\(ok=false->h<0\/(b.length:Int)<=h):=by
 rcases c with ⟨J,rfl,y⟩ | ⟨k,U,K,A,E,B,G,rfl,M,O,y⟩
 ·exact ⟨⟨⟨0,[],[],[],false⟩,none,0,none,0⟩,0,false,rfl,y,fun c=>(by cases c),fun _=>J⟩
 ·exact ⟨⟨itR (b.drop k),A,E,B,G⟩,_,true,rfl,y,fun _=>⟨k,U,K,rfl,rfl,M,O⟩,fun c=>(by cases c)⟩
def StI (b:Str) (N:Nat) (wr:World) (k:List Xe) (ok:Bool) (y:Int) (r:Xe):Prop:=
 (ok=true->∃ h:Nat,h<b.length/\r.x=itR (b.drop h)/\y=((h+r.x.raw.length:Nat):Int)/\h+r.x.raw.length<=b.length/\1<=r.x.raw.length/\k.map Xe.x++itemsR (b.drop h)=itemsR b/\qdv wr N r)/\(ok=false->k.map Xe.x=itemsR b)
theorem quy {b:Str} {N:Nat} {w':World} {r:Xe} {y:Int} {ok:Bool} (M:ok=true->∃ k:Nat,(0:Int)=k/\k<b.length/\r.x=itR (b.drop k)/\y=((k+r.x.raw.length:Nat):Int)/\qdv w' N r) (K:ok=false->(0:Int)<0\/(b.length:Int)<=0):StI b N w' [] ok y r:=by
 refine ⟨fun h=>?_,fun h=>?_⟩
 ·obtain ⟨k,O,z,e,E,J⟩:=M h
  obtain rfl:k=0:=by omega
  have G:=qbS (qgz rfl z);rw [Q1] at G;rw [e] at E;exact ⟨0,z,e,by rw [e];exact E,by rw [e];omega,by rw [e];omega,by simp,J⟩
 ·have U:=K h
  have:b=[]:=Qu (by omega);subst this;rfl
theorem qxW {b:Str} {N M:Nat} {wr w':World} {O:List Xe} {r y:Xe} {h K:Int} {G:Bool} (ah:StI b N wr O true h r) (ae:N<=M)
  (Z:G=true->∃ k:Nat,h=k/\k<b.length/\y.x=itR (b.drop k)/\K=((k+y.x.raw.length:Nat):Int)/\qdv w' M y) (ad:G=false->h<0\/(b.length:Int)<=h):StI b N w' (O++[r]) G K y:=by
 obtain ⟨k,af,U,an,ao,ap,ai,ak⟩:=ah.1 rfl;have aa:b.drop k≠[]:=qgz rfl af;have e:=qfD ai aa r U;rw [<- U,List.drop_drop] at e;refine ⟨fun E=>?_,fun E=>?_⟩
 ·obtain ⟨ab,aj,J,z,ag,ac⟩:=Z E
  obtain rfl:ab=k+r.x.raw.length:=by omega
  have V:=qbS (qgz rfl J);rw [Q1] at V;exact ⟨_,J,z,ag,by rw [z];omega,by rw [z];omega,e,ac.lift ae⟩
 ·have am:=ad E
  have:b.drop (k+r.x.raw.length)=[]:=Qu (by rw [Q1];omega);rw [this,qeR,Zs] at e;exact e
theorem StI.up {b:Str} {N e:Nat} {w w':World} {k:List Xe} {ok:Bool} {h:Int} {r:Xe} (y:StI b N w k ok h r) (E:qdv w N r->qdv w' e r):StI b e w' k ok h r:=
 ⟨fun K=>by obtain ⟨z,M,O,J,U,Z,V,G⟩:=y.1 K;exact ⟨z,M,O,J,U,Z,V,E G⟩,y.2⟩
def msI (l:Nat):Value->Value->Nat
 | vn,.bool true=>l+1 - (intOf vn).toNat
 | _,_=>0
theorem qzi (l:Nat) (v:Value):msI l v (.bool true)=l+1 - (intOf v).toNat:=rfl
theorem qCv (l:Nat) (v:Value):msI l v (.bool false)=0:=rfl
theorem qkF (w:World) (b:Nat) (z G h E y:Value):w.grownBy (((((w.setCell ⟨b,0,none⟩ z).setCell ⟨b,1,none⟩ G).setCell ⟨b,2,none⟩ h).setCell ⟨b,3,none⟩ E).setCell ⟨b,4,none⟩ y) (some b):=
 World.grownBy.trans (World.grownBy.trans (World.grownBy.trans (World.grownBy.trans (qaR w b 0 z) (qaR _ b 1 G)) (qaR _ b 2 h)) (qaR _ b 3 E)) (qaR _ b 4 y)
theorem qdv.put {w w':World} {N q:Nat} {r:Xe} {h:Int} {va vb:Value} {s:ByteArray} {al:Bool} (z:qdv w N r) (I:qar w q h va s vb al) (k:w.grownBy w' (some q)):qdv w' N r:=by
 refine z.grown k fun G y E J K e=>?_
 cases y;rw [show w.heap[q]?=_ from I] at e;simp only [Qz,Obj.cells.injEq] at e;rw [<- e.2.1];exact ⟨by decide,by decide⟩
theorem qkW (n G cb:Nat) (b:Str) (A:Option Addr) (cap l:Nat) (av:b.length=l) (aS:l<=cap) (aH:cap<=maxLen) (aB:l<=100000) (w:World) (aM:Boxed w G 44 (.slice A l cap)) (bg:BytesAt w A b) (bo:qac w) (bd:cb<w.heap.size) (af:G≠cb) (ac:∀ a,A=some a->b≠[]->a.block≠cb) (a5:0≠cb) :
  Stops.qFd Fence.wide n prog 94 #[.pointer (some ⟨G,0,none⟩)] (fun x:Xe=>#[x.v]) 50 (fun q k x W=>(k++[x]).map Xe.x <+: itemsR b/\qdv W w.heap.size x) (fun q=>Kq q cb) (fun ys=>ys.map Xe.x=itemsR b) w:=fun bL O ce W V bt aw Z bU aA=>by
 have am:∀ (q:Nat),W.heap.size<=q->∀ (an:List Xe) (aa ar:World),O q an aa->Below aa.heap.size aa ar->O q an ar:=fun q ag an aa ar K z=>bt q ag an aa ar none K (qbj z none) (fun e ae=>by cases ae)
 have aq:Boxed W G 44 (.slice A l cap):=(V.block G aM.lt).trans aM;have ax:=bg.below V;have ao:=bo.below V;have bs:=qi5 b A cap l av aS aH aB W ax ao 0;obtain ⟨Y,aF⟩:=N9 (w.heap.size);have aX:Hid (Y<=W.heap.size):=by show _<=_;rw [<- aF];exact V.size
 have bb:Hid (∀ q o,W.heap.size<=q->Below W.heap.size W o->∀ X,Kq (q - 1) cb o X->Boxed X G 44 (.slice A l cap)/\∀ ap:Int,Calls prog 83 #[.slice A l cap,.int .i64 ap] X (qk4 X b ap)):=fun q o ag aE X aC=>by
  have bC:=aq.lt;have bH:Boxed o G 44 (.slice A l cap):=(aE.block G bC).trans aq;have bV:=ax.below aE;obtain ⟨bB,bY⟩:=ao.below aE;have cf:=ao.lt;refine ⟨aC.2 G _ (by omega) af bH rfl,fun ap=>qi5 b A cap l av aS aH aB X (bV.kq aC fun a aW bu=>⟨?_,ac a aW bu⟩) ⟨bB,aC.cell bY (by show 0<=q - 1;omega) a5⟩ ap⟩;have:=qnt ax a aW bu;omega
 have aO:Hid (b.length=l):=av;have b5:l<=100000:=aB;have bp:Hid (cb<W.heap.size):=Zo bd V.size;have Z:=J9 Z;have aw:=J9 aw;have am:=J9 am;have aA:=J9 aA;have br:=aq.cell;obtain ⟨ck,bw⟩:=N9 (W.heap.size);have b7:=J9 bw;rw [aF] at Z;clear aM bg bo bd af ac a5 aq ax ao av aS aH aB bt bU aF V bw;refine callsIn_wide.2 ?_;show Calls prog 94 #[.func (.yield bL) #[] #[],.pointer (some ⟨G,0,none⟩)] W _
 go_enter func94,ntmps94
 go_wp2_with fail
 refine bs.mono ?_;rintro ae W1 J;obtain ⟨e,m,ok,rfl,z,U,ad⟩:=qnV J;have bl:=quy U ad;obtain ⟨q,ag⟩:=N9 (W1.heap.size);obtain ⟨bJ,bS,aj,aL,bT⟩:=qbY W1 q ag;obtain ⟨o,bn,M,ak,aN,aJ,aK,az⟩:=aj.put e.x.kind (.slice e.A e.x.raw.length e.ca) (sB e.x.m) (.slice e.B e.x.C.length e.cb) e.x.al;have E:Hid (W.heap.size<=q):=by show _<=_;rw [<- ag];exact z.size
 have bv:=J9 (z.trans ((aL.trans (ak.mono (by omega))).mono z.size));have bz:Hid (StI b Y o [] ok m e):=by
  refine StI.up bl fun K=>?_
  refine qdv.put ((K.below aL).lift aX.o) aj ?_;rw [<- bn];exact qkF bJ q _ _ _ _ _
 have N:Hid (qar o q e.x.kind (.slice e.A e.x.raw.length e.ca) (sB e.x.m) (.slice e.B e.x.C.length e.cb) e.x.al):=M;have bf:Hid (O q [] o):=aA.o q o E.o bv.o M.lt;obtain ⟨a8,bx,be,bm,bh,a6⟩:=aj.cells;have bk:Hid (∀ (r y:World) (k:List Xe) (e h:Xe) (m:Int) (ok:Bool),qar r q e.x.kind (.slice e.A e.x.raw.length e.ca) (sB e.x.m) (.slice e.B e.x.C.length e.cb) e.x.al->((((r.setCell ⟨q,0,none⟩ (.int .i64 h.x.kind)).setCell ⟨q,1,none⟩ (.slice h.A h.x.raw.length h.ca)).setCell ⟨q,2,none⟩ (.string (sB h.x.m))).setCell ⟨q,3,none⟩ (.slice h.B h.x.C.length h.cb)).setCell ⟨q,4,none⟩ (.bool h.x.al)=y->qar y q h.x.kind (.slice h.A h.x.raw.length h.ca) (sB h.x.m) (.slice h.B h.x.C.length h.cb) h.x.al->O q k r->StI b Y r k ok m h->O q k y/\StI b Y y k ok m h):=fun r y k e h m ok bj bM _ ai bE=>by
  have a4:r.grownBy y (some q):=by rw [<- bM];exact qkF r q _ _ _ _ _
  exact ⟨aw.o q E.o k r y ai a4 ⟨_,_,bj⟩,bE.up fun K=>qdv.put K bj a4⟩
 clear J bs U ad bl z aj aL M ak aN aJ aK az br;go_wp2;clear a8 bx be bm bh a6 bn bS bT
 go_loopw [4,5] (fun vn aI wr=>∃ (ok:Bool) (m:Int) (k:List Xe) (e:Xe),vn=.int .i64 m/\aI=.bool ok/\Hid (StI b Y wr k ok m e)/\Hid (O q k wr)/\Hid (Kq (q - 1) cb o wr)/\Hid (qar wr q e.x.kind (.slice e.A e.x.raw.length e.ca) (sB e.x.m) (.slice e.B e.x.C.length e.cb) e.x.al)) (fun vn aI _=>msI l vn aI)
 case atStart=>exact ⟨ok,m,[],e,rfl,rfl,bz.o,bf.o,Kq.refl _ _ _,N.o⟩
 case round=>
  clear bz bf N;obtain ⟨ok,m,k,e,rfl,rfl,aG,aT,a7,N⟩:=hrel;cases ok with
  | false=>
   clear bk aw Z am aA bb;go_wp2
   go_end0
   exact ⟨⟨_,rfl⟩,.inl ⟨q,k,E.o,aG.o.2 rfl,aT.o⟩⟩
  | true=>
   obtain ⟨bW,bN,bO,b1,bZ,bR⟩:=N.o.cells;obtain ⟨au,a9,aZ,bi,a0,b4,a3,aU⟩:=aG.o.1 rfl;have bI:=Z.o q k e wr E.o N.o.lt aT.o ⟨⟨_,qfD a3 (qgz rfl a9) e aZ⟩,aU⟩;have bK:Hid (m=((au+e.x.raw.length:Nat):Int)/\au+e.x.raw.length<=l):=⟨bi,by rw [<- aO.o];exact a0⟩;obtain ⟨cg,tmps,assign,body,aP,J⟩:=bI;simp only [Xe.v] at aP;clear a9 aZ bi a0 b4 a3 aU aT;refine (wpIn_wide (n:=n)).1 ?_
   gi_wp2
   refine ⟨fun K=>(by cases K),J.mono ?_⟩;rintro cd r (⟨rfl,ai,aD⟩ | ⟨rfl,b0⟩)
   ·have aR:Hid (Kq (q - 1) cb o r):=a7.o.trans (aD.le (Nat.sub_le q 1))
    have bq:Hid (O q (k++[e]) r):=ai;have I5:qar r q e.x.kind (.slice e.A e.x.raw.length e.ca) (sB e.x.m) (.slice e.B e.x.C.length e.cb) e.x.al:=aD.2 q _ (Qa _) (by have af:=bp.o;have ac:=E.o;omega) N.o rfl;obtain ⟨a1,ah⟩:=bb.o q o E.o bv.o r aR.o;have ah:=ah m;have br:=a1.cell;have I5:=J9 I5;clear ai aD J aP bW bN bO b1 bZ bR N a7 a1
    gi_wp2
    gi_wp2_with fail
    refine ⟨trivial,fun K=>(by cases K),(callsIn_wide.2 ah).mono ?_⟩;rintro ae y J;obtain ⟨h,ab,ay,rfl,z,U,ad⟩:=qnV J;have I6:qar y q e.x.kind (.slice e.A e.x.raw.length e.ca) (sB e.x.m) (.slice e.B e.x.C.length e.cb) e.x.al:=I5.o.all z;have aY:=qxW aG.o (Qm aX.o (Qm (Zb (show W.heap.size<r.heap.size by have af:=E.o;have ac:=I5.o.lt;omega)) (Qa _))) U ad;have b2:Hid (ay=true->m<ab/\ab<=(l:Int)):=fun ae=>by
     obtain ⟨cj,b6,bP,bD,b3,-⟩:=U ae;have bQ:=qbS (qgz rfl bP);rw [Q1,aO.o] at bQ;rw [bD] at b3;have:=aO.o;omega
    have aV:=am.o q E.o _ _ _ bq.o z;have bc:Kq (q - 1) cb o y:=aR.o.trans (Kq.of_below z);obtain ⟨aQ,bF,M,ak,aN,aJ,aK,az⟩:=I6.put h.x.kind (.slice h.A h.x.raw.length h.ca) (sB h.x.m) (.slice h.B h.x.C.length h.cb) h.x.al;have a2:=J9 (bk.o y aQ (k++[e]) e h ab ay I6 bF M aV aY);have bG:Hid (qar aQ q h.x.kind (.slice h.A h.x.raw.length h.ca) (sB h.x.m) (.slice h.B h.x.C.length h.cb) h.x.al):=M;have bA:Hid (Kq (q - 1) cb o aQ):=bc.trans ⟨by omega,fun au cl aC cc bX _=>(az au (by have af:=bp.o;have ac:=E.o;omega)).trans bX⟩;obtain ⟨a8,bx,be,bm,bh,a6⟩:=I6.cells;clear J ah U ad z I5 aY aV bc M ak aN aJ aK az I6 bq aR
    gi_wp2
    go_roundw
    case rel=>exact ⟨ay,ab,k++[e],h,rfl,rfl,a2.o.2,a2.o.1,bA.o,bG.o⟩
    case measure=>
     obtain ⟨b8,ch⟩:=bK.o;cases ay with
     | false=>
      show msI l _ (.bool false)<msI l (.int .i64 m) (.bool true);rw [qCv,qzi];simp only [intOf];omega
     | true=>
      obtain ⟨b9,ci⟩:=b2.o rfl;show msI l (.int .i64 ab) (.bool true)<msI l (.int .i64 m) (.bool true);rw [qzi,qzi];simp only [intOf];omega
   ·clear J aP
    gi_wp2
    go_wp2
    go_end0
    exact ⟨⟨_,rfl⟩,.inr ⟨q,_,E.o,b0⟩⟩
end Go.Proofs.YtjafbmfcedijmaaGreatDoor
namespace Go.Proofs.YtjafbmfcedijmaaGreatDoor
open Tryz
open Go.RowKit Go.Shelf
attribute [local go_sem] Oper.semAt_some
theorem qiT {F:Fence} {n:Nat} {w w1:World} {t ty:TypeId} {v y h:Value} (G:(Builtin.append_ #[t,t] ty #[v,y]).run prog w=.ok h w1) {ops:Array Oper} {rest:List Oper} {o:Oper} {a:Act} {Q:Exit->Act->World->Prop} (U:o.guard=none) (s x:Operand)
  (c:o.op=.call {callee:=.builtin .append,args:=#[s,x],argTypes:=#[t,t]}) (O:o.type=ty) (K:a.eval s=v) (E:a.eval x=y) (M:wpListIn F n prog ops Q rest (a.put o.dst h) w1):wpListIn F n prog ops Q (o :: rest) a w:=by
 subst O;refine wpListIn_plain U fun Z z=>?_
 unfold Oper.wpIn;refine ⟨?_,?_⟩
 ·simp [Oper.about,c,resolve,Target.leads,Sem.run_pure]
 ·rw [Oper.semAt_plain F _ _ (by rw [c];intro V J;cases J)]
  simp [execOp,c,resolve,invoke,builtin,K,E,G,Result.andThen];exact z _ _ M
theorem qyl {W h:World} (o:Below W.heap.size W h) (B:Nat):KeepsFrom B W h:=⟨o.size,fun y z _ k _=>(o.block y (Qb.1 k).1).trans k⟩
theorem qx3 {w:World} {base n size:Nat} {e:TypeId} {v:Value} {xs:List Value} {row:Option Nat} (K:w.ownsRow base e size v n xs) (E:∀ r,row=some r->∃ o:Obj,w.heap[r]?=some o/\o.isCells=false) (r:Nat) (z:row=some r):v.ownBlock≠some r:=fun G=>by
 obtain ⟨M,y⟩:=qjf K G;obtain ⟨o,h,J⟩:=E r z;rw [y] at h;obtain rfl:=Qw h;cases J
theorem qsp {w:World} {row:Option Nat} (G:∀ r,row=some r->∃ o:Obj,w.heap[r]?=some o/\o.isCells=false):∀ q,row=some q->∀ h T y,w.heap[q]?=some (.cells h T y)->T≠5/\T≠57:=fun q E h T y z=>by
 obtain ⟨o,e,J⟩:=G q E;rw [z] at e;obtain rfl:=Qw e;cases J
theorem qxH {w:World} {q:Nat} (E:∃ e h,w.heap[q]?=some (.cells e 50 h)):∀ r,some q=some r->∀ e T h,w.heap[r]?=some (.cells e T h)->T≠5/\T≠57:=fun r z e T h y=>by
 cases z;obtain ⟨J,K,G⟩:=E;rw [G] at y;simp only [Qz,Obj.cells.injEq] at y;rw [<- y.2.1];exact ⟨by decide,by decide⟩
theorem qdv.keeps {w w':World} {n:Nat} {r:Xe} {row:Option Nat} (z:qdv w n r) (h:w.grownBy w' row) (y:∀ r,row=some r->∃ o:Obj,w.heap[r]?=some o/\o.isCells=false):qdv w' n r:=z.grown h (qsp y)
theorem qbv.keeps {w w':World} {q n:Nat} {v:Value} {h:List Xe} {row:Option Nat} (z:qbv w q n v h) (E:w.grownBy w' row) (y:∀ r,row=some r->∃ o:Obj,w.heap[r]?=some o/\o.isCells=false):qbv w' q n v h:=z.grown E (qx3 z.1 y) (qsp y)
theorem qar.keeps {w w':World} {k:Nat} {h:Int} {va vb:Value} {s:ByteArray} {al:Bool} {row:Option Nat} (e:qar w k h va s vb al) (G:w.grownBy w' row) (J:∀ r,row=some r->∃ o:Obj,w.heap[r]?=some o/\o.isCells=false):qar w' k h va s vb al:=by
 refine (G.block k e.lt fun z=>?_).trans e;obtain ⟨o,y,E⟩:=J k z.symm;rw [show w.heap[k]?=_ from e] at y;obtain rfl:=Qw y;cases E
theorem qpf (R:Nat) (b:Str) (A:Option Addr) (cap l:Nat) (af:b.length=l) (J:l<=cap) (aN:cap<=maxLen) (bD:l<=90000) (w:World) (ap:Boxed w R 44 (.slice A l cap)) (ay:BytesAt w A b) (aC:qac w) :
  Calls prog 93 #[.slice none 0 0,.func (.func 94) #[] #[.pointer (some ⟨R,0,none⟩)]] w (qgZ w (itemsR b)):=by
 obtain ⟨n,Y⟩:=N9 (w.heap.size);have bt:=J9 Y;obtain ⟨U,aj⟩:=N9 (w.alloc (.cells #[.slice none 0 0] 47));have ae:Below w.heap.size w U:=by rw [<- aj];exact B0
 have aQ:U.heap.size=n+1:=by rw [<- aj,<- Y];simp
 have ah:Boxed U n 47 (.slice none 0 0):=by rw [<- aj,<- Y];exact World.alloc_heap_new w _
 have aG:=qkW 2 R n b A cap l af J aN (by omega) U ((ae.block R ap.lt).trans ap) (ay.below ae) (aC.below ae) (by omega) (by have:=ap.lt;omega) (fun a6 aZ bc=>by have:=qnt ay a6 aZ bc;omega) (by have:=aC.lt;omega);have ah:=J9 ah;have B0:Hid (Below n w U):=by rw [<- Y];exact ae
 have bb:=J9 af;have bB:=J9 aQ;have ar:Hid (w.heap.size=n):=Y;clear af J aN ap ay aC ae;refine callsIn_wide.1 (callsIn_of_wp_marks (n:=3) func93 rfl trivial ?_ rfl);simp only [ntmps93,Zx,Qv,QH,Nat.reduceAdd,Nat.reduceSub,Array.replicate_succ,Array.replicate_zero,List.push_toArray,List.append_toArray,Zk,List.cons_append];refine wpIn_wide.2 ?_
 go_wp2_with fail
 clear Y aj;rw [aQ] at aG;have bk:U.heap.size+2=n+3:=by omega
 refine wpIn_wide.1 (Stops.qE0 (F:=Fence.wide) (n:=3) rfl (by omega) (gf:=94) (lb:=#[.pointer (some ⟨R,0,none⟩)]) rfl trivial (enters_of func94 (by kernel_rfl) rfl)
  aG (fun r G=>r.trans G) (fun k c l Z a4 _ af aq=>Kq.put k n c l Z a4 af aq) (fun _=>rfl)
  (fun k E c=>∃ A o h,Boxed c n 47 (.slice A (List.length h) o)/\qbv c (k+1) (n+1) (.slice A h.length o) h/\h.map Xe.x=E.map Xe.x/\Below n w c)
  (fun _ _ _=>False)
  (fun k V ax an az row r q z=>by
   obtain ⟨A,o,h,y,s,D,M⟩:=r;exact ⟨A,o,h,y.kept q (fun e=>by have:=(z _ e.symm).1;omega),s.keeps q (fun j e=>(z j e).2),D,M.grown q (by have:=y.lt;omega) (fun j e=>by have:=(z j e).1;omega)⟩)
  (fun k V ax an az r q a9=>by
   obtain ⟨A,o,h,y,s,D,M⟩:=r;exact ⟨A,o,h,y.kept q (fun e=>by have:=Qw e;omega),s.grown q (fun j e aA=>by have a1:=(World.ownsRow.lt s.1 j aA).1;have:=Qw e;omega) (qxH a9),D,M.grown q (by have:=y.lt;omega) (fun j e=>by have:=Qw e;omega)⟩)
  (fun k V ax an az row r q z=>r)
  (fun k an V aW bA=>⟨none,0,[],(aW.block n ah.o.lt).trans ah.o,qkM _ _ _,rfl,B0.o.trans (aW.mono (by omega))⟩)
  (fun k E a aM c=>qdv c (n+1) a/\(E++[a]).map Xe.x <+: itemsR b/\∃ G,k<G/\qar c G a.x.kind (.slice a.A a.x.raw.length a.ca) (sB a.x.m) (.slice a.B a.x.C.length a.cb) a.x.al/\aM={tmps:=#[.slice none 0 0,.func (.func 94) #[] #[.pointer (some ⟨R,0,none⟩)],.pointer (some ⟨n,0,none⟩),undef,.slice none 0 0,.pointer (some ⟨G,0,none⟩),.func (.func 94) #[] #[.pointer (some ⟨R,0,none⟩)],a.v,undef,undef,undef,undef,undef],defers:=[]})
  (fun k E a ax an az row r q z=>by
   obtain ⟨bf,y,G,s,D,M⟩:=r;exact ⟨bf.keeps q (fun j e=>(z j e).2),y,G,s,D.keeps q (fun j e=>(z j e).2),M⟩)
  ?assign ?body ?done ?stop)
 case assign=>
  rintro a5 k E a c bp V aS ⟨A,o,h,X,ai,ac,ao⟩ aI aa;simp only [Xe.v] at aa |-
  gi_wp2
  exact aa _ _ ((KeepsOthers.alloc _ _).from _) (Kq.of_below (up1 _ _)) (by simp;omega) ⟨A,o,h,X.alloc _,ai.below (up1 _ _),ac,ao.trans ((up1 _ _).mono (by omega))⟩ ⟨aI.2.below (up1 _ _),aI.1,c.heap.size,aS,World.alloc_heap_new c _,rfl⟩
 case body=>
  rintro a5 k E a aM c V aS ⟨A,o,h,X,ai,ac,ao⟩ ⟨au,aH,G,aX,aR,rfl⟩;have aV:Hid (h.length+1<=100000):=by
   have y:=congrArg List.length ac;have s:=aH.length_le;have D:=qjq b;have M:=bb.o;simp only [QM,Qg,Qv,QH] at y s;show _<=_;omega
  have bi:=X.cell;obtain ⟨bs,bm,bn,bC,bw,bo⟩:=aR.cells;have K:=up1 c (.cells #[.int .i64 a.x.kind,.slice a.A a.x.raw.length a.ca,.string (sB a.x.m),.slice a.B a.x.C.length a.cb,.bool a.x.al] 50);have aB:=qrs c a au.bytes au.ops;obtain ⟨aD,bg⟩:=N9 (c.alloc (.cells #[.int .i64 a.x.kind,.slice a.A a.x.raw.length a.ca,.string (sB a.x.m),.slice a.B a.x.C.length a.cb,.bool a.x.al] 50));rw [bg] at K aB;have A1:Boxed aD n 47 (.slice A h.length o):=(K.block _ X.lt).trans X;have aE:=ai.below K;have aL:∀ j∈[a],qdv aD (n+1) j:=fun j z=>by
   obtain rfl:=QA.1 z;exact au.below K
  obtain ⟨bx,x,av,ab,aF,aT⟩:=qnA aD (k+1) (n+1) (.slice A h.length o) h aE (some ⟨c.heap.size,0,none⟩) 1 [a] aB aL (by have:=K.size;omega) aV.o;obtain ⟨O,T,rfl,-,-,-⟩:=ab.its;obtain ⟨W,ag⟩:=N9 ((h++[a]).length);rw [ag] at av ab;have ad:Boxed x n 47 (.slice A h.length o):=(aF.block n (by omega)).trans A1;have bu:=ad.cell;have br:=ad.frozen;have a8:=J9 av;have ak:Below (k+1) c x:=(K.mono (by omega)).trans aF;have a0:Hid (KeepsFrom U.heap.size c (x.setCell ⟨n,0,none⟩ (.slice O W T))/\Kq k n c (x.setCell ⟨n,0,none⟩ (.slice O W T))/\∃ A o R2,Boxed (x.setCell ⟨n,0,none⟩ (.slice O W T)) n 47 (.slice A (List.length R2) o)/\qbv (x.setCell ⟨n,0,none⟩ (.slice O W T)) (k+1) (n+1) (.slice A R2.length o) R2/\R2.map Xe.x=(E++[a]).map Xe.x/\Below n w (x.setCell ⟨n,0,none⟩ (.slice O W T))):=by
   have q:=qaR x n 0 (.slice O W T);refine ⟨(qyl K _).trans (((KeepsOthers.of_grownBy aT fun bq Z e aq=>?_).trans (KeepsOthers.setCell _ _ _)).from _),⟨by have:=ak.size;simpa using this,fun aJ Z y s D M=>?_⟩,O,T,h++[a],by rw [ag];exact Boxed.set _ ad,?_,by rw [Zc,Zc,ac],?_⟩
   ·obtain ⟨a2,J⟩:=qjf aE.1 e
    rw [J] at aq;obtain rfl:=Qw aq;rfl
   ·exact (heap_setCell_other x ⟨n,0,none⟩ aJ _ s).trans ((ak.block aJ (by omega)).trans D)
   ·rw [ag]
    refine ab.grown q (fun j e aA=>?_) (fun j e a2 bh bz J=>?_)
    ·have a1:=(World.ownsRow.lt ab.1 j aA).1
     have:=Qw e;omega
    ·cases e
     rw [show x.heap[n]?=_ from ad] at J;simp only [Qz,Obj.cells.injEq] at J;rw [<- J.2.1];exact ⟨by decide,by decide⟩
   ·exact (ao.trans (ak.mono (by omega))).setCell (p:=⟨n,0,none⟩) (Qa _) _
  clear X ai ac ao au aH aR K aB A1 aE aL av ab aF aT ad ak ag aV
  gi_wp2_with (gi_at_builtin;refine qiT a8.o rfl _ _ rfl rfl rfl rfl ?_)
  exact a0.o
 case done=>
  rintro am k bv c a7 V aO ⟨A,o,h,aP,aY,aK,aU⟩ aa;have bj:=aP.cell;have aw:=J9 aa;have a3:=J9 aY;have be:=J9 aU;have bd:Hid (h.map Xe.x=itemsR b):=aK.trans aO;have bl:Hid (n<c.heap.size):=aP.lt;clear aY aK aU aa aG aO
  go_wp2_with fail
  have q:=grownBy_putObj' c am (.deferred none);refine ⟨by simp,.inl ⟨_,_,rfl,run_takeDeferred aw.o,?_⟩⟩;refine ⟨.slice A h.length o,?_,?_⟩
  ·simp [results,results93,go_sem]
  ·have aX:∀ j,some am=some j->∃ Z:Obj,c.heap[j]?=some Z/\Z.isCells=false:=fun j e=>by cases e;exact ⟨_,aw.o,rfl⟩
   refine ⟨A,o,h,rfl,bd.o,?_,?_⟩
   ·rw [ar.o]
    exact (a3.o.keeps q aX).lift (by omega) (by omega)
   ·rw [ar.o]
    exact be.o.trans (belowK_b (w:=w) (by rw [ar.o];omega) c am _ _ (by rw [ar.o];omega) aw.o rfl rfl)
 case stop=>
  rintro am k E c a7 V r;exact r.elim
theorem qlN (A:Option Addr) (l cap:Nat) (w:World):Calls prog 55 #[.slice A l cap] w fun e h=>e=.returned (.func (.func 94) #[] #[.pointer (some ⟨w.heap.size,0,none⟩)])/\w.alloc (.cells #[.slice A l cap] 44)=h:=by
 go_enter func55,ntmps55
 go_wp2;go_ret;exact ⟨rfl,rfl⟩
theorem qjp (e:Nat) (b:Str) (A:Option Addr) (cap l:Nat) (K:b.length=l) (E:l<=cap) (R:cap<=maxLen) (Z:l<=90000) (w:World) (J:Boxed w e 44 (.slice A l cap)) (F:BytesAt w A b) (aa:qac w) :
  Calls prog 54 #[.func (.func 94) #[] #[.pointer (some ⟨e,0,none⟩)]] w (qgZ w (itemsR b)):=by
 have U:=qpf e b A cap l K E R Z w J F aa;clear K E R Z J F aa
 go_enter func54,ntmps54
 go_wp2_with fail
 refine U.mono ?_;rintro ac ab ⟨y,h,c,rfl,z,O,G⟩;have V:=J9 (show qgZ w (itemsR b) (.returned (.slice y c.length h)) ab from ⟨y,h,c,rfl,z,O,G⟩);obtain ⟨ad,M⟩:=N9 (c.length);rw [M] at V |-;clear z O G M U;go_wp2;go_ret;exact V.o
theorem qk5 (b:Str) (A:Option Addr) (cap l:Nat) (O:b.length=l) (J:l<=cap) (V:cap<=maxLen) (ac:l<=90000) (w:World) (K:BytesAt w A b) (ad:qac w) :
  Calls prog 24 #[.slice A l cap] w (qgZ w (itemsR b)):=by
 have IO:=qlN A l cap w;have aa:=J9 (fun e (c:Below w.heap.size w e) (ae:Boxed e w.heap.size 44 (.slice A l cap))=>qjp w.heap.size b A cap l O J V ac e ae (K.below c) (ad.below c));clear O J V ac K ad
 go_enter func24,ntmps24
 go_wp2_with fail
 refine IO.mono ?_;rintro af e ⟨rfl,y⟩;have c:Below w.heap.size w e:=by rw [<- y];exact B0
 have ab:=aa.o e c (by rw [<- y];exact World.alloc_heap_new w _);have z:=J9 c;clear IO aa y c
 go_wp2_with fail
 refine ab.mono ?_;rintro af ag ⟨F,E,h,rfl,G,U,M⟩;have Z:=J9 (show qgZ w (itemsR b) (.returned (.slice F h.length E)) ag from ⟨F,E,h,rfl,G,U.lift z.o.size,z.o.trans (M.mono z.o.size)⟩);obtain ⟨ah,R⟩:=N9 (h.length);rw [R] at Z |-;clear G U M R ab;go_wp2;go_ret;exact Z.o
theorem qBl (A:Option Addr) (cap:Nat) (b:Str) (w:World) (H:BytesAt w A b) (aa:b.length<=cap/\cap<=maxLen) (am:qac w) :
  Calls prog 6 #[.slice A b.length cap] w fun j h=>j=.returned (.bool true)/\Below w.heap.size w h:=by
 obtain ⟨ak,an⟩:=N9 (b.length);obtain ⟨ai,av⟩:=aa;rw [an] at ai |-;have ap:=J9 (fun h (k:Below w.heap.size w h)=>qmn h (am.below k));by_cases a6:ak<=300
 rotate_left
 ·have bw:¬(ak:Int)<=300:=by omega
  have af:=ap.o w (Qc _ _);clear H am an a6 ap ai av
  go_enter func6,ntmps6
  go_wp2_with fail
  refine af.mono ?_;rintro j bv ⟨rfl,ac⟩;have V:=J9 ac;clear af ac;go_wp2;go_ret;exact ⟨rfl,V.o⟩
 have bw:(ak:Int)<=300:=by omega
 have aA:=J9 (qk5 b A cap ak an ai av (by omega) w H am);have aI:=J9 (fun h (k:Below w.heap.size w h)=>qjJ b A cap ak an ai av (by omega) h (H.below k));have aW:=J9 (quN b);have bc:(itemsR b).length<=300:=Qm (qjq b) (by omega);have bV:=J9 am
 -- the texts of items with a place
 have ag:Hid (∀ z:List Xe,z.map Xe.x=itemsR b->z.map qdi=(itemsR b).map fun v=>sB (qbP v)):=fun z k=>by rw [<- k,List.map_map];rfl
 have ay:Hid (∀ z:List Xe,z.map Xe.x=itemsR b->z.length<=300/\∀ r∈z,qge r.x):=fun z k=>by
  refine ⟨by have:=congrArg List.length k;rw [QM] at this;omega,fun r bJ=>?_⟩;have R:r.x∈itemsR b:=by rw [<- k];exact List.mem_map_of_mem bJ
  obtain ⟨⟨-,b4⟩,bX,b6,-⟩:=aW.o _ R;exact ⟨by omega,by omega,by omega⟩
 have aD:Hid ((false=true)↔(⟨#[]⟩:ByteArray)∈(itemsR b).map fun v=>sB (qbP v)):=by
  show _↔_;refine ⟨fun k=>(by cases k),fun k=>?_⟩;exfalso;obtain ⟨v,bh,j⟩:=List.mem_map.1 k;have bO:qbP v=[]:=by
   have:=congrArg (fun bF:ByteArray=>bF.data.toList) j;simpa [sB] using this
  exact qzq (aW.o v bh) bO
 obtain ⟨bD,a8⟩:=N9 (itemsR b);rw [a8] at aA aI ag ay aD bc;obtain ⟨i,hF⟩:=N9 ((bD.map fun v=>sB (qbP v)));obtain ⟨J,a2⟩:=N9 (i.length);have y:=J9 a2;rw [hF] at ag aD;clear H am an a6 aW ai av a8 hF a2 bc
 go_enter func6,ntmps6
 go_wp2_with fail
 refine aA.o.mono ?_;rintro j bW ⟨A1,bC,R1,rfl,aK,bd,az⟩;have aC:=J9 az;obtain ⟨aJ,ao⟩:=ay.o R1 aK;have aq:=qp6 R1 A1 R1.length bC rfl (by omega) ao bW (bV.o.below az) bd.itsP;rw [ag.o R1 aK] at aq;obtain ⟨bY,aX⟩:=N9 (R1.length);rw [aX] at aq;rw [aX];clear aA az bd ao aX aJ aK
 go_wp2_with fail
 refine aq.mono ?_;rintro j bv ⟨a9,a5,rfl,a1,bp⟩;rw [y.o];have bn:=J9 a1;have V:=J9 (aC.o.trans (bp.mono aC.o.size));have R2:=aI.o bv V.o;clear aq a1 bp aC aI
 go_wp2_with fail
 refine R2.mono ?_;rintro j ah ⟨bK,bZ,Z,rfl,aF,bl,aO⟩;have aV:=J9 (V.o.trans (aO.mono V.o.size));have bu:=J9 (bn.o.below aO);have aH:=ag.o Z aF;obtain ⟨aJ,ao⟩:=ay.o Z aF;have aE:=bl.itsP;obtain ⟨l,aB⟩:=N9 (ah.heap.size);obtain ⟨bz,ar⟩:=N9 (Z.length);obtain rfl:J=bz:=by rw [<- y.o,<- ar,<- aH,QM]
 have aP:Hid (∀ E,E<J->∃ r:Xe,(∀ x,Below l ah x->ItJ x bK r E)/\i.take (E+1)=i.take E++[qdi r]/\∀ x,Below l ah x->Calls prog 26 #[r.v] x fun j h=>j=.returned (.string (qdi r))/\Below x.heap.size x h):=fun E aS=>by
  have aM:E<Z.length:=by omega
  refine ⟨Z[E],fun x ac=>(aE.below (by rw [aB];exact ac)).j aM,?_,fun x ac=>?_⟩
  ·rw [<- aH,Qx (by rw [QM];exact aM)]
   simp
  ·exact qr9 Z[E] (ao _ (QB _)) x (qAA ((aE.below (by rw [aB];exact ac)).j aM))
 rw [ar] at aJ;rw [ar];have bS:Hid (i.take J=i):=QJ (by rw [y.o];omega);clear R2 aO bl aF aH ao aE ar V bn ag ay;go_wp2
 go_loopw [4,17] (fun bL aR wr=>∃ (e:Nat) (L:Option Addr) (W:Nat),e<=J/\aR=.int .i64 e/\bL=.slice L e W/\Hid (qd9 wr l (.slice L e W) (i.take e))/\Hid (Below l ah wr)/\l<=wr.heap.size) (fun _ aR _=>J - (intOf aR).toNat)
 case atStart=>exact ⟨0,none,0,Qs _,rfl,rfl,qrS _ _,Qc _ _,by omega⟩
 case round=>
  obtain ⟨e,L,W,b7,rfl,rfl,aw,ab,bA⟩:=hrel;by_cases bN:e<J
  ·obtain ⟨r,aS,aZ,aa⟩:=aP.o e bN
   obtain ⟨b3,b2,bT,bo,a3,bb,br,bm,-,-⟩:=aS wr ab.o;subst bT;unfold Xe.v at aa;obtain ⟨a7,bf⟩:=N9 (qdi r);rw [bf] at aa aZ;have aU:=J9 aa;have bQ:=J9 aZ;obtain ⟨s,bs,bt,a4,be⟩:=r;simp only at bo a3 bb br bm aU;obtain ⟨v,U,bh,b0,ad,aY,b1⟩:=Fr.box (Fr.nil wr) #[.int .i64 s.kind,.slice bs s.raw.length bt,.string (sB s.m),.slice a4 s.C.length be,.bool s.al] 50;have I5:qar U v s.kind (.slice bs s.raw.length bt) (sB s.m) (.slice a4 s.C.length be) s.al:=ad.o.1;obtain ⟨bP,bG,bH,bU,bR,bM⟩:=I5.cells;have G:=J9 (ab.o.trans (aY.mono bA));have bq:Hid (qd9 U l (.slice L e W) (i.take e)):=aw.o.below aY;have bg:=J9 (aU.o U G.o);have bj:l<=U.heap.size:=(by omega);have aN:(i.take e).length=e:=(by rw [QD,y.o];omega);clear aS aZ aa bf ad aY I5 aw ab aU aP
   go_wp2_with fail
   refine bg.o.mono ?_;rintro j aj ⟨rfl,F⟩;have au:=J9 (G.o.trans (F.mono bj));have bx:Hid (qd9 aj l (.slice L e W) (i.take e)):=bq.o.below F;have bk:l<=aj.heap.size:=Qm bj F.size;have bE:Hid (∀ M K h,qd9 h l (.slice M ((i.take e).length+1) K) (i.take e++[a7])->Below l aj h->Hid (qd9 h l (.slice M (e+1) K) (i.take (e+1)))/\Hid (Below l ah h)/\l<=h.heap.size):=fun M K h R O=>by
    rw [aN,<- bQ.o] at R;exact ⟨R,au.o.trans O,Qm bk O.size⟩
   clear bg F G bq bP bG bH bU bR bM bo a3 bb br bm
   go_wp2_with (at_builtin;refine qkO bx.o a7 (by rw [aN];omega) bk rfl _ _ rfl rfl rfl ?_;intro M K h R O;have aL:=bE.o M K h R O;clear R O;rw [aN])
   go_roundw
   case rel=>exact ⟨e+1,M,K,by omega,by go_num,rfl,aL.1.o,aL.2.1.o,aL.2.2⟩
   case measure=>simp [intOf];omega
  ·obtain rfl:e=J:=by omega
   have ax:Hid (Below w.heap.size w wr):=aV.o.trans (ab.o.mono (by have:=aV.o.size;omega));have af:=J9 (ap.o wr ax.o);have aT:=J9 (bu.o.below (by rw [aB];exact ab.o));have bi:Hid (qew wr L i):=by
    have k:=aw.o;rw [bS.o] at k;obtain ⟨M,K,j,O⟩:=k.strs;injection j with bB
    rw [bB];exact O
   clear aw ab aP ap bu aV
   go_wp2_with fail
   refine af.o.mono ?_;rintro j U ⟨rfl,ae⟩;have aQ:=qpa a9 L a5 W i i (by rw [y.o];unfold maxLen;omega) (by rw [y.o];unfold maxLen;omega) U (aT.o.below ae) (bi.o.below ae);have ad:=J9 (aT.o.below ae);have G:=J9 (ax.o.trans (ae.mono ax.o.size));rw [y.o,Qn rfl] at aQ;clear af ae aT bi ax
   go_wp2_with fail
   refine aQ.mono ?_;rintro j aj ⟨rfl,F⟩;have aG:=qjv a9 a5 i (by rw [y.o];unfold maxLen;omega) ⟨#[]⟩ false aD.o aj (ad.o.below F);have au:=J9 (G.o.trans (F.mono G.o.size));rw [y.o] at aG;clear aQ F ad G
   go_wp2_with fail
   refine aG.mono ?_;rintro j b5 ⟨rfl,a0⟩;have bI:=J9 (au.o.trans (a0.mono au.o.size));clear aG a0;go_wp2;go_ret;exact ⟨rfl,bI.o⟩
end Go.Proofs.YtjafbmfcedijmaaGreatDoor
namespace Go.Proofs.YtjafbmfcedijmaaGreatDoor
open Tryz
open Go.ChangeShapes Go.WideShapes Go.RowKit
def bU8 (n:Int):UInt8:=n.toNat.toUInt8
theorem qxN {n:Int} (h:(Lit.int .u8 n).wf=true):((bU8 n).toNat:Int)=n:=by
 have z:0<=n/\n<=255:=by
  have y:IntKind.u8.min<=n/\n<=IntKind.u8.max:=by simpa [Lit.wf] using h
  exact y
 unfold bU8;rw [UInt8.toNat_ofNat_of_lt' (show n.toNat<256 by omega)];omega
section
variable {H:Type} {enc:TypeId×Value->H} {w:World} {spare:Nat->Bool} {fuel:Nat}
theorem qpv {a:Addr} {v:Value} (E:w.cell? (a.add 0)=some v):∃ b h,a=⟨b,h,none⟩:=by
 obtain ⟨b,h,y⟩:=a;have z:y=none:=by simpa [Addr.add] using World.cell?_spot E
 subst z;exact ⟨b,h,rfl⟩
theorem qm9 {v:Value} {x:DataW H×List MemPlace} (ad:DataW.trod enc prog w 0 spare true fuel 44 [v]=some x):∃ E h j G,v=.slice E h j/\h=G.length/\h<=maxLen/\BytesAt w E G/\h<=j/\j<=maxLen:=by
 rcases open_ints underlying44 underlying5 (by kernel_rfl) ad with ⟨b,_⟩ | ⟨aa,e,K,c,b,_,U,ae,V,_,A,ac⟩
 ·simp only [List.cons.injEq,and_true] at b
  subst b;exact ⟨none,0,0,[],rfl,rfl,Qs _,.inl rfl,Qa _,Qs _⟩
 ·simp only [List.cons.injEq,and_true] at b
  subst b;have af:e<=c.length:=by rw [V];split <;> omega
  refine ⟨some aa,e,K,(c.take e).map bU8,rfl,by simp;omega,by omega,?_,U,ae⟩;by_cases ab:e=0
  ·left;subst ab;simp
  ·obtain ⟨y,l,rfl⟩:=qpv (A 0 (by omega))
   refine .inr ⟨y,l,rfl,fun a M=>?_⟩;have ag:a<e:=(by simp at M;omega);have z:a<c.length:=(by omega);have J:=A a z;have Z:(⟨y,l,none⟩:Addr).add a=⟨y,l+a,none⟩:=by unfold Addr.add;split <;> simp_all
   rw [Z] at J;rw [J];have O:c.getD a 0=c[a]:=(by simp [List.getD,Qi z]);rw [O];simp only [Zt,List.getElem_take];rw [qxN (ac _ (QB z))]
end
end Go.Proofs.YtjafbmfcedijmaaGreatDoor
