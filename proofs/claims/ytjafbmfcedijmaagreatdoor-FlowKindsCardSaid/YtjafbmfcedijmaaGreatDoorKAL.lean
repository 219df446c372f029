/-
  FmDqRK, FlAqRK, FlBqRK, FmAqRK, FmBqRK, FmCqRK, FmEqRK, FmFqRK.
-/
import Derived.Test.YtjafbmfcedijmaaGreatDoorKAK
set_option linter.all false
set_option maxRecDepth 100000
set_option maxHeartbeats 4000000
namespace Go.Proofs.YtjafbmfcedijmaaGreatDoor
open Tryz
open Go.RowKit Go.Shelf
def cellsZ (L:List Int):List Value:=L.map fun h=>Value.int .i64 h
theorem qs4:(prog.info? 3).map (fun i=>(i.zero,i.size,i.bytes))=some (some (.int .i64 0),1,8):=by kernel_rfl
def qaI (w:World) (B:Nat) (v:Value) (L:List Int):Prop:=w.ownsRow B 3 1 v L.length (cellsZ L)
theorem qaI.ints {w:World} {n:Nat} {v:Value} {L:List Int} (j:qaI w n v L):∃ h g,v=.slice h L.length g/\qad w h L:=by
 rcases j.2 with ⟨rfl,z⟩ | ⟨y,g,G,rfl,_,_,_⟩
 ·have:L=[]:=Qu z
  subst this;exact ⟨none,0,rfl,.inl rfl⟩
 ·refine ⟨_,g,rfl,.inr ⟨y,0,rfl,fun A E=>?_⟩⟩
  rw [QS,World.ownsRow.cellAt j A (by omega)];unfold cellsZ;rw [Za,Qi E];rfl
theorem qaI.qEq {w:World} {n m c:Nat} {A:Option Addr} {L:List Int} (y:qaI w n (.slice A m c) L):qad w A L:=by
 obtain ⟨E,G,e,h⟩:=y.ints;injection e with z
 subst z;exact h
theorem qaI.le {w:World} {n m c:Nat} {A:Option Addr} {L:List Int} (G:qaI w n (.slice A m c) L):L.length=m/\m<=c/\c<=maxLen:=by
 rcases G.2 with ⟨e,E⟩ | ⟨K,O,M,e,_,_,y,z,_⟩
 ·injection e with J g h
  subst g h;exact ⟨E,Qa _,Qs _⟩
 ·injection e with J g h
  subst g h;exact ⟨rfl,y,z⟩
theorem qaI.below {w w':World} {n:Nat} {v:Value} {L:List Int} (h:qaI w n v L) (k:Below w.heap.size w w'):qaI w' n v L:=
 World.ownsRow.kept h (row:=none) ⟨k.os,k.tape,k.output,k.size,fun g e _=>k.block g e⟩ (by
  cases i:v.ownBlock with
  | none=>exact .inl rfl
  | some y=>exact .inr (by simp))
theorem qaI.lift {w:World} {n m:Nat} {v:Value} {L:List Int} (h:qaI w n v L) (k:m<=n):qaI w m v L:=row_mono h k
theorem qaI.grown {w w':World} {n:Nat} {v:Value} {L:List Int} {row:Option Nat} (z:qaI w n v L) (k:w.grownBy w' row) (y:∀ r,row=some r->v.ownBlock≠some r):qaI w' n v L:=
 World.ownsRow.kept z k (by
  cases e:v.ownBlock with
  | none=>exact .inl rfl
  | some h=>exact .inr fun g=>y h g.symm e)
theorem qbc (w:World) (n:Nat):qaI w n (.slice none 0 0) []:=Zm _ _ _ _
def qz1 (n:Nat) (v:Value) (L:List Int):Fr.F:=⟨fun h=>qaI h n v L,fun w y=>w.below y⟩
def qC6 (A:Option Addr) (L:List Int):Fr.F:=⟨fun h=>qad h A L,fun w y=>w.below y⟩
theorem qfJ (ys:List Int):∀ b∈cellsZ ys,b.oneCell'=true:=fun b h=>by
 unfold cellsZ at h;obtain ⟨u,-,rfl⟩:=List.mem_map.1 h;rfl
theorem qcT (xs ys:List Int):cellsZ (xs++ys)=cellsZ xs++cellsZ ys:=by unfold cellsZ;rw [Zc]
theorem qad.news {w:World} {A:Option Addr} {ys:List Int} (J:qad w A ys):ys.length=0\/∃ a,A=some a/\∀ j u,(cellsZ ys)[j]?=some u->w.cell? (a.add j)=some u:=by
 rcases J with rfl | ⟨y,z,rfl,E⟩
 ·exact .inl rfl
 ·refine .inr ⟨_,rfl,fun j u b=>?_⟩
  have K:(⟨y,z,none⟩:Addr).add j=⟨y,z+j,none⟩:=by unfold Addr.add;split <;> simp_all
  rw [K];unfold cellsZ at b;rw [Za] at b;cases h:ys[j]? with
  | none=>rw [h] at b;cases b
  | some O=>
   rw [h] at b;obtain ⟨M,G⟩:=QP.1 h;obtain rfl:=Qw b;rw [E j M,G]
theorem qad.take {w:World} {A:Option Addr} {xs:List Int} (y:qad w A xs) (k:Nat):qad w A (xs.take k):=by
 rcases y with rfl | ⟨h,z,rfl,b⟩
 ·exact .inl (by simp)
 ·refine .inr ⟨h,z,rfl,fun j E=>?_⟩
  rw [List.getElem_take];exact b j (by rw [QD] at E;omega)
theorem qkt (w:World) (B:Nat) (v:Value) (xs:List Int) (E:qaI w B v xs) (A:Option Addr) (c:Nat) (ys:List Int) (K:qad w A ys) (y:B<=w.heap.size) (ac:xs.length+ys.length<=1000000) :
  ∃ k h,(Builtin.append_ #[33,33] 33 #[v,.slice A ys.length c]).run prog w=.ok k h/\qaI h B k (xs++ys)/\Below B w h/\w.grownBy h v.ownBlock:=by
 obtain ⟨O,G,ab,V,Z⟩:=info_parts qs4;obtain ⟨k,h,M,U,z⟩:=qau w B 33 33 3 O _ 1 8 underlying33 G ab V Z rfl (by decide) v xs.length (cellsZ xs) E A ys.length c (cellsZ ys)
  (by unfold cellsZ;simp) K.news (qfJ ys) (by unfold maxLen;omega) (by omega) y
 refine ⟨k,h,M,?_,(Qc B w).grown z y fun J aa=>(World.ownsRow.lt E J aa).1,z⟩;unfold qaI;rw [qcT,Qg];exact U
theorem qak {wr:World} {B:Nat} {v:Value} {xs:List Int} (ab:qaI wr B v xs) {A:Option Addr} {c:Nat} {ys:List Int} (K:qad wr A ys) (M:B<=wr.heap.size) (O:xs.length+ys.length<=1000000) {ops:Array Oper} {rest:List Oper} {o:Oper} {a:Act} {Q:Exit->Act->World->Prop} (af:o.guard=none) (s x:Operand)
  (V:o.op=.call {callee:=.builtin .append,args:=#[s,x],argTypes:=#[33,33]}) (ad:o.type=33) (Z:a.eval s=v) (m:Nat) (ae:ys.length=m) (G:a.eval x=.slice A m c) (n:Nat) (aa:xs.length+m=n)
  (k:∀ h y w1,qaI w1 B (.slice h n y) (xs++ys)->Below B wr w1->wr.grownBy w1 v.ownBlock->wpList prog ops Q rest (a.put o.dst (.slice h n y)) w1):wpList prog ops Q (o :: rest) a wr:=by
 subst ae aa;obtain ⟨ag,ac,E,z,U,J⟩:=qkt wr B v xs ab A c ys K M O;obtain ⟨h,y,rfl,-⟩:=z.ints;rw [Qg] at E z;exact qag E af s x V ad Z G (k h y ac z U J)
theorem qaO (w:World) (x:Int):qad (w.alloc (.cells #[.int .i64 x] 3)) (some ⟨w.heap.size,0,none⟩) [x]:=by
 refine .inr ⟨_,_,rfl,fun h j=>?_⟩;obtain rfl:h=0:=by simp at j;omega
 rw [C9 (heap_alloc_new w _)];rfl
theorem qw5 {w:World} {A:Option Addr} {L:List Int} (h:qad w A L):KsP w A L:=h
end Go.Proofs.YtjafbmfcedijmaaGreatDoor
namespace Go.Proofs.YtjafbmfcedijmaaGreatDoor
open Tryz
open Go.RowKit
section
variable {α:Type} (it:Int->Option α) (nx:Int->α->List Int)
inductive Rch (S:List Int):Int->Prop
 | start {a:Int} {x:α}:a∈S->it a=some x->Rch S a
 | step {a b:Int} {x y:α}:Rch S a->it a=some x->b∈nx a x->it b=some y->Rch S b
variable {it nx}
theorem Rch.item {S:List Int} {a:Int} (h:Rch it nx S a):∃ x,it a=some x:=by
 cases h with
 | start _ h=>exact ⟨_,h⟩
 | step _ _ _ h=>exact ⟨_,h⟩
theorem Rch.more {S y:List Int} (G:∀ a∈S,a∈y) {a:Int} (J:Rch it nx S a):Rch it nx y a:=by
 induction J with
 | start K h=>exact .start (G _ K) h
 | step _ h z E M=>exact .step M h z E
theorem Rch.closed {S T:List Int} (x:∀ a,a∈T↔Rch it nx S a) (a:Int):Rch it nx T a↔Rch it nx S a:=by
 constructor
 ·intro h
  induction h with
  | start J _=>exact (x _).1 J
  | step _ G y z K=>exact .step K G y z
 ·intro h
  obtain ⟨M,E⟩:=h.item;exact .start ((x a).2 h) E
structure Wk (it:Int->Option α) (nx:Int->α->List Int) (S out wait:List Int):Prop where
 out_ok:∀ a∈out,Rch it nx S a
 wait_ok:∀ a∈wait,∀ x,it a=some x->Rch it nx S a
 starts:∀ a∈S,∀ x,it a=some x->a∈out\/a∈wait
 closed:∀ a∈out,∀ x,it a=some x->∀ b∈nx a x,∀ y,it b=some y->b∈out\/b∈wait
theorem Wk.begin (S:List Int):Wk it nx S [] S:=⟨fun h a=>(by cases a),fun h a y x=>.start a x,fun h a y x=>.inr a,fun h a=>(by cases a)⟩
theorem Wk.skip {S y w1 w2:List Int} {a:Int} (z:Wk it nx S y (w1++a :: w2)) (U:it a=none\/a∈y):Wk it nx S y (w1++w2):=by
 have M:∀ c e,it c=some e->c∈w1++a :: w2->c∈y\/c∈w1++w2:=fun c e h x=>by
  rcases QO.1 x with b | b
  ·exact .inr (List.mem_append_left _ b)
  ·rcases QI.1 b with b | b
   ·subst b
    rcases U with E | E
    ·rw [E] at h;cases h
    ·exact .inl E
   ·exact .inr (Zz _ b)
 refine ⟨z.out_ok,fun c x e h=>z.wait_ok c ?_ e h,fun c x e h=>?_,fun c x e h G O J K=>?_⟩
 ·rcases QO.1 x with b | b
  ·exact List.mem_append_left _ b
  ·exact Zz _ (QZ _ b)
 ·rcases z.starts c x e h with b | b
  ·exact .inl b
  ·exact M c e h b
 ·rcases z.closed c x e h G O J K with b | b
  ·exact .inl b
  ·exact M G J K b
theorem Wk.take {S M w1 w2:List Int} {a:Int} {x:α} (z:Wk it nx S M (w1++a :: w2)) (K:it a=some x) {out' wait':List Int} (G:∀ b,b∈out'↔b=a\/b∈M) (E:∀ b,b∈wait'↔b∈w1++w2\/b∈nx a x):Wk it nx S out' wait':=by
 have U:Rch it nx S a:=z.wait_ok a (Zz _ (QY ..)) x K;have V:∀ b,b∈M\/b∈w1++a :: w2->b∈out'\/b∈wait':=fun b e=>by
  rcases e with c | c
  ·exact .inl ((G b).2 (.inr c))
  ·rcases QO.1 c with c | c
   ·exact .inr ((E b).2 (.inl (List.mem_append_left _ c)))
   ·rcases QI.1 c with c | c
    ·exact .inl ((G b).2 (.inl c))
    ·exact .inr ((E b).2 (.inl (Zz _ c)))
 refine ⟨fun b e=>?_,fun b e y h=>?_,fun b e y h=>V b (z.starts b e y h),fun b e y h J O aa Z=>?_⟩
 ·rcases (G b).1 e with c | c
  ·subst c;exact U
  ·exact z.out_ok b c
 ·rcases (E b).1 e with c | c
  ·refine z.wait_ok b ?_ y h
   rcases QO.1 c with c | c
   ·exact List.mem_append_left _ c
   ·exact Zz _ (QZ _ c)
  ·exact .step U K c h
 ·rcases (G b).1 e with c | c
  ·subst c
   rw [K] at h;obtain rfl:=Qw h;exact .inr ((E J).2 (.inr O))
  ·exact V J (z.closed b c y h J O aa Z)
theorem Wk.done {S z:List Int} (h:Wk it nx S z []) (a:Int):a∈z↔Rch it nx S a:=by
 refine ⟨h.out_ok a,fun K=>?_⟩
 induction K with
 | start E y=>
  rcases h.starts _ E _ y with e | e
  ·exact e
  ·cases e
 | step E y G J M=>
  rcases h.closed _ M _ y _ G _ J with e | e
  ·exact e
  ·cases e
end
end Go.Proofs.YtjafbmfcedijmaaGreatDoor
namespace Go.Proofs.YtjafbmfcedijmaaGreatDoor
open Tryz
open Go.RowKit
open Classical in
noncomputable def qem (s:ByteArray) (I:List Tr) (k:Int):Option Tr:=if qfi s I (canL (opc s) I) then (canL (opc s) I).find? (fun h=>decide (h.1=k)) else none
def qdk:ByteArray:=⟨#[74,82]⟩
def qhv:ByteArray:=⟨#[68,74,78,90]⟩
def qfQ:ByteArray:=⟨#[74,80]⟩
def qjS:ByteArray:=⟨#[67,65,76,76]⟩
def qiZ:ByteArray:=⟨#[82,83,84]⟩
def qiu:ByteArray:=⟨#[82,69,84]⟩
def qia:ByteArray:=⟨#[82,69,84,73]⟩
def qhO:ByteArray:=⟨#[82,69,84,78]⟩
def qgk:ByteArray:=⟨#[72,65,76,84]⟩
open Classical in
noncomputable def kdF (s:ByteArray) (I:List Tr):Int:=
 if ¬qfi s I (canL (opc s) I) then 0
 else if s=qdk\/s=qhv then 1
 else if s=qfQ then (if (qem s I 6).isSome then 1 else 4)
 else if s=qjS\/s=qiZ then 2
 else if s=qiu\/s=qia\/s=qhO then 3
 else if s=qgk then 4 else 0
open Classical in
noncomputable def smF (s:ByteArray) (I:List Tr):Bool:=decide (qfi s I (canL (opc s) I)/\((qem s I 8).isSome=true\/s=qhv))
noncomputable def tgF (a:Int) (s:ByteArray) (I:List Tr):Int:=
 if a<0\/65535<a\/(kdF s I≠1/\kdF s I≠2) then -1
 else match qem s I 10 with
  | some h=>(a+2+h.2.2+65536) % 65536
  | none=>((qem s I 6).getD (0,0,0)).2.2
theorem qwl {a:Int} {s:ByteArray} {I:List Tr} (h:¬qfi s I (canL (opc s) I)):tgF a s I=-1:=by
 have:kdF s I=0:=Qk h;unfold tgF;rw [Qk (.inr (.inr (by omega)))]
end Go.Proofs.YtjafbmfcedijmaaGreatDoor
namespace Go.Proofs.YtjafbmfcedijmaaGreatDoor
open Tryz
open Go.RowKit
def kdT (k:Int) (t:Tr):Bool:=decide (t.1=k)
def mJR:Str:=[74,82]
def mDJ:Str:=[68,74,78,90]
def mJP:Str:=[74,80]
def mCA:Str:=[67,65,76,76]
def mRS:Str:=[82,83,84]
def mRE:Str:=[82,69,84]
def flB (m:Str) (L:List Tr):Bool:=
 (!L.any (kdT 8)||m == mJR||m == mJP||m == mCA||m == mRE)&&(!(m == mJR||m == mDJ)||(L.any (kdT 10)&&!L.any (kdT 6))) &&
 (!(m == mJP)||(!L.any (kdT 10)&&(L.any (kdT 6) == !L.any (kdT 4))))&&(!(m == mCA||m == mRS)||(L.any (kdT 6)&&!L.any (kdT 10)))
def flN (g n:Nat):Bool:=match qaX (g:Int) n with
 | some h=>flB h.1 h.2.1
 | none=>true
theorem qDO:∀ h:Fin 7,∀ g:Fin 256,flN h.val g.val=true:=by decide +kernel
structure FlOk (s:ByteArray) (C:List Tr):Prop where
 cond:C.any (kdT 8)=true->s=qdk\/s=qfQ\/s=qjS\/s=qiu
 jr:s=qdk\/s=qhv->C.any (kdT 10)=true/\C.any (kdT 6)=false
 jp:s=qfQ->C.any (kdT 10)=false/\C.any (kdT 6)=!C.any (kdT 4)
 ca:s=qjS\/s=qiZ->C.any (kdT 6)=true/\C.any (kdT 10)=false
 imm:∀ t∈C,t.1=6->0<=t.2.2/\t.2.2<=65535
 rel:∀ t∈C,t.1=10->-128<=t.2.2/\t.2.2<=127
theorem qeG {A B:List Tr} (y:A.map ks2=B.map ks2) (k:Int):A.any (kdT k)=B.any (kdT k):=by
 have h:∀ e:List Tr,e.any (kdT k)=(e.map ks2).any fun q=>decide (q.1=k):=fun e=>by rw [List.any_map];rfl
 rw [h,h,y]
theorem quo {m ex:Str} {L C:List Tr} (E:qzD m L ex=true) {s:ByteArray} (G:qa3 m L ex s C=true):∀ z∈C,z.1=6->0<=z.2.2:=by
 unfold qa3 qfU at G;simp only [Qh,Ql,QR,QW] at G;obtain ⟨⟨rfl,K⟩,V⟩:=G;have ac:=qat K;unfold qzD at E;simp only [Qh,QR,QW] at E;obtain ⟨-,U⟩:=E;intro z ab Z;obtain ⟨k,O,rfl⟩:=Zg ab;have M:k<L.length:=by omega
 have t:=V k O;have h:=U k M;have J:=(qbI K k M).1;have aa:C.getD k tr0=C[k]:=by rw [Qo,Qi O];rfl
 rw [aa] at t J;simp only [Zp,Zn] at h;rcases h with h | h
 ·exact absurd (J.trans Z) h
 ·unfold qhV at t
  by_cases y:letR ex L k=0
  ·rw [Qk y,Ql] at t
   rw [Qk y,Ql] at h;omega
  ·rw [Qd y,qaY,Qh,Ql] at t
   rw [Qd y,Ql] at h;omega
theorem qCX {m n:Str} {s:ByteArray} (h:sB m=s) (e:s=sB n):m=n:=by rw [<- qzx m,h,e,qzx]
theorem qfi.fl {s:ByteArray} {I C:List Tr} (ah:qfi s I C):FlOk s C:=by
 obtain ⟨-,t,q,-,-,V,n,O,-,K⟩:=ah;have ad:qcU (t,(q:Int),n.1,n.2.1,n.2.2.1,n.2.2.2):=⟨q,V,rfl,O⟩;have ok:=ad.ok;have Z:=qfL ok K;have aa:=quo ok.can K;have J:=K;unfold qa3 qfU at J;simp only [Qh,Ql] at J;obtain ⟨⟨y,E⟩,-⟩:=J;have ai:0<=t/\t<=6:=⟨ok.lo,ok.hi⟩;obtain ⟨M,rfl⟩:∃ M:Nat,t=(M:Int):=⟨t.toNat,by omega⟩;have h:=qDO ⟨M,by omega⟩ ⟨q,V⟩;unfold flN at h;rw [O] at h;have h:flB n.1 n.2.1=true:=h;unfold flB at h;rw [qeG E 8,qeG E 10,qeG E 6,qeG E 4] at h;simp only [Qh,Zp,Bool.not_eq_true',beq_iff_eq] at h;obtain ⟨⟨⟨ae,af⟩,ac⟩,ag⟩:=h;have x:∀ q:Str,s=sB q->n.1=q:=fun q e=>qCX y e
 refine ⟨fun g=>?_,fun g=>?_,fun g=>?_,fun g=>?_,fun z G U=>⟨aa z G U,?_⟩,fun z G ab=>?_⟩
 ·rcases ae with (((e | e) | e) | e) | e
  ·rw [g] at e;cases e
  ·exact .inl (by rw [<- y,e];rfl)
  ·exact .inr (.inl (by rw [<- y,e];rfl))
  ·exact .inr (.inr (.inl (by rw [<- y,e];rfl)))
  ·exact .inr (.inr (.inr (by rw [<- y,e];rfl)))
 ·rcases af with e | e
  ·rcases g with g | g
   ·rw [x mJR g] at e;exact absurd e (by decide)
   ·rw [x mDJ g] at e;exact absurd e (by decide)
  ·exact e
 ·rcases ac with e | e
  ·rw [x mJP g] at e;exact absurd e (by decide)
  ·exact e
 ·rcases ag with e | e
  ·rcases g with g | g
   ·rw [x mCA g] at e;exact absurd e (by decide)
   ·rw [x mRS g] at e;exact absurd e (by decide)
  ·exact e
 ·have:=(qr8 (Z z G)).2
  rw [U] at this;exact this
 ·have:=qr8 (Z z G)
  rw [ab] at this;exact this
def qd7 (s:ByteArray) (C:List Tr):Int:=
 if s=qdk\/s=qhv then 1 else if s=qjS\/s=qiZ then 2 else if s=qiu\/s=qia\/s=qhO then 3 else if s=qgk then 4 else if s=qfQ then (if C.any (kdT 4)=true then 4 else 1) else 0
def smP (s:ByteArray) (C:List Tr):Bool:=decide (s=qhv)||C.any (kdT 8)
def qqt (s:ByteArray) (I:List Tr):Bool:=decide (qd7 s (canL (opc s) I)=0)||!legB s I
def tg1 (a:Int) (t:Tr):Int:=if t.1=6 then t.2.2 else (a+2+t.2.2) % 65536
def tgL (a:Int) (C:List Tr):Int:=match C.find? (fun h=>kdT 6 h||kdT 10 h) with
 | some h=>tg1 a h
 | none=>-1
def tgP (k a:Int) (C:List Tr):Int:=if (k=1\/k=2)/\0<=a/\a<=65535 then tgL a C else -1
theorem qgj {p q:Tr->Bool}:∀ {C:List Tr},C.any q=false->C.find? (fun t=>p t||q t)=C.find? p
 | [],_=>rfl
 | t :: C,h=>by
  rw [List.any_cons,Bool.or_eq_false_iff] at h;rw [List.find?_cons,List.find?_cons,h.1,Bool.or_false,qgj h.2]
theorem qct {p:Tr->Bool} {C:List Tr}:(C.find? p).isSome=C.any p:=by
 induction C with
 | nil=>rfl
 | cons h C t=>
  rw [List.find?_cons,List.any_cons,<- t];cases p h <;> rfl
theorem qjd (s:ByteArray) (I:List Tr):(if qqt s I=true then 0 else qd7 s (canL (opc s) I))=kdF s I:=by
 unfold qqt;by_cases y:legB s I=true
 ·have h:=(qbF s I).1 y
  have V:=h.fl;have G:(if (decide (qd7 s (canL (opc s) I)=0)||!legB s I)=true then 0 else qd7 s (canL (opc s) I))=qd7 s (canL (opc s) I):=by
   rw [y];by_cases z:qd7 s (canL (opc s) I)=0
   ·rw [z];rfl
   ·rw [Qf z];rfl
  rw [G];unfold kdF qd7;rw [Qd (not_not_intro h)];by_cases E:s=qdk\/s=qhv
  ·rw [Qk E,Qk E]
  rw [Qd E,Qd E];by_cases e:s=qfQ
  ·have J:¬(s=qjS\/s=qiZ):=by rw [e];decide
   have K:¬(s=qiu\/s=qia\/s=qhO):=(by rw [e];decide);have M:¬s=qgk:=(by rw [e];decide);rw [Qd J,Qd K,Qd M,Qk e,Qk e];have O:=(V.jp e).2;have U:(qem s I 6).isSome=(canL (opc s) I).any (kdT 6):=by
    unfold qem;rw [Qk h];exact qct
   rw [U,O];cases (canL (opc s) I).any (kdT 4) <;> rfl
  ·simp only [Qd e]
 ·have Z:legB s I=false:=by simpa using y
  have h:¬qfi s I (canL (opc s) I):=fun z=>y ((qbF s I).2 z)
  rw [Z];unfold kdF;rw [Qk h,Qk (by simp)]
theorem qsZ (s:ByteArray) (I:List Tr):smF s I=true↔qfi s I (canL (opc s) I)/\((qem s I 8).isSome=true\/s=qhv):=by
 unfold smF;exact @decide_eq_true_iff _ (_)
theorem qqH (C:List Tr):∀ h:ByteArray,(h=qdk\/h=qhv\/h=qfQ\/h=qjS\/h=qiu)->qd7 h C≠0:=by
 rintro h (rfl | rfl | rfl | rfl | rfl)
 ·exact (by decide:(1:Int)≠0)
 ·exact (by decide:(1:Int)≠0)
 ·show (if C.any (kdT 4)=true then (4:Int) else 1)≠0
  split <;> decide
 ·exact (by decide:(2:Int)≠0)
 ·exact (by decide:(3:Int)≠0)
theorem qmM (s:ByteArray) (I:List Tr):(!qqt s I&&smP s (canL (opc s) I))=smF s I:=by
 rw [Bool.eq_iff_iff,qsZ];unfold qqt smP;by_cases z:legB s I=true
 ·have y:=(qbF s I).1 z
  have G:=y.fl;have K:(qem s I 8).isSome=(canL (opc s) I).any (kdT 8):=by
   unfold qem;rw [Qk y];exact qct
  rw [z,K];have E:(canL (opc s) I).any (kdT 8)=true\/s=qhv->qd7 s (canL (opc s) I)≠0:=by
   rintro (e | e)
   ·refine qqH _ s ?_
    rcases G.cond e with h | h | h | h
    ·exact .inl h
    ·exact .inr (.inr (.inl h))
    ·exact .inr (.inr (.inr (.inl h)))
    ·exact .inr (.inr (.inr (.inr h)))
   ·exact qqH _ s (.inr (.inl e))
  simp only [Qh,Zp,Ql,Bool.not_eq_true',Bool.or_eq_false_iff,decide_eq_false_iff_not,Bool.not_true];constructor
  ·rintro ⟨-,e⟩
   exact ⟨y,e.symm⟩
  ·rintro ⟨-,e⟩
   exact ⟨⟨E e,trivial⟩,e.symm⟩
 ·have J:legB s I=false:=by simpa using z
  have y:¬qfi s I (canL (opc s) I):=fun e=>z ((qbF s I).2 e)
  rw [J];constructor
  ·intro e
   simp at e
  ·rintro ⟨e,-⟩
   exact absurd e y
theorem qmY (a:Int) (s:ByteArray) (I:List Tr):tgP (if qqt s I=true then 0 else qd7 s (canL (opc s) I)) a (canL (opc s) I)=tgF a s I:=by
 rw [qjd];unfold tgP tgF;by_cases aa:0<=a/\a<=65535
 ·by_cases y:kdF s I=1\/kdF s I=2
  ·rw [Qk ⟨y,aa⟩,Qd (by omega)]
   have K:qfi s I (canL (opc s) I):=Classical.byContradiction fun t=>by
    have:kdF s I=0:=Qk t;omega
   have M:=K.fl;have ac:qem s I 6=(canL (opc s) I).find? (kdT 6):=by
    unfold qem;rw [Qk K];rfl
   have ae:qem s I 10=(canL (opc s) I).find? (kdT 10):=by
    unfold qem;rw [Qk K];rfl
   rw [ac,ae];unfold tgL
   -- which mnemonic it is
   have ag:(s=qdk\/s=qhv)\/(s=qfQ/\(canL (opc s) I).any (kdT 6)=true)\/s=qjS\/s=qiZ:=by
    refine Classical.byContradiction fun Z=>?_
    have af:¬(s=qdk\/s=qhv):=(fun t=>Z (.inl t));have ad:¬(s=qjS\/s=qiZ):=(fun t=>Z (.inr (.inr t)));unfold kdF at y;rw [Qd (not_not_intro K),Qd af] at y;by_cases V:s=qfQ
    ·rw [Qk V,ac,qct] at y
     by_cases E:(canL (opc s) I).any (kdT 6)=true
     ·exact Z (.inr (.inl ⟨V,E⟩))
     ·rw [Qd E] at y
      omega
    ·rw [Qd V,Qd ad] at y
     split at y
     ·omega
     ·split at y <;> omega
   rcases ag with G | ⟨G,E⟩ | G
   ·obtain ⟨ab,ai⟩:=M.jr G
    have ah:(canL (opc s) I).find? (fun h=>kdT 6 h||kdT 10 h)=(canL (opc s) I).find? (fun h=>kdT 10 h||kdT 6 h):=by
     congr 1
     funext h;exact Bool.or_comm _ _
    rw [ah,qgj ai];cases z:(canL (opc s) I).find? (kdT 10) with
    | none=>
     rw [<- qct,z] at ab;cases ab
    | some h=>
     have ak:=Zw z;have aj:h.1=10:=(by have:=List.find?_some z;unfold kdT at this;simpa using this);have am:=M.rel h ak aj;show tg1 a h=(a+2+h.2.2+65536) % 65536;unfold tg1;rw [Qd (by omega)];omega
   ·have J:=(M.jp G).1
    rw [qgj J];cases z:(canL (opc s) I).find? (kdT 6) with
    | none=>
     rw [<- qct,z] at E;cases E
    | some h=>
     have O:h.1=6:=(by have:=List.find?_some z;unfold kdT at this;simpa using this);have U:(canL (opc s) I).find? (kdT 10)=none:=by
      have:=qct (p:=kdT 10) (C:=canL (opc s) I);rw [J] at this;simpa using this
     rw [U];show tg1 a h=h.2.2;unfold tg1;rw [Qk O]
   ·obtain ⟨E,J⟩:=M.ca G
    rw [qgj J];cases z:(canL (opc s) I).find? (kdT 6) with
    | none=>
     rw [<- qct,z] at E;cases E
    | some h=>
     have O:h.1=6:=(by have:=List.find?_some z;unfold kdT at this;simpa using this);have U:(canL (opc s) I).find? (kdT 10)=none:=by
      have:=qct (p:=kdT 10) (C:=canL (opc s) I);rw [J] at this;simpa using this
     rw [U];show tg1 a h=h.2.2;unfold tg1;rw [Qk O]
  ·rw [Qd (fun t=>y t.1),Qk (.inr (.inr ⟨fun t=>y (.inl t),fun t=>y (.inr t)⟩))]
 ·rw [Qd (fun t=>aa t.2),Qk (by omega)]
theorem qop (a:Int) (s:ByteArray) (I:List Tr):tgF a s I=-1\/(0<=tgF a s I/\tgF a s I<=65535):=by
 by_cases h:qfi s I (canL (opc s) I)
 ·have y:=h.fl
  unfold tgF;split
  ·exact .inl rfl
  ·right
   split
   ·omega
   ·have z:qem s I 6=(canL (opc s) I).find? (kdT 6):=by
     unfold qem;rw [Qk h];rfl
    rw [z];cases t:(canL (opc s) I).find? (kdT 6) with
    | none=>exact ⟨by decide,by decide⟩
    | some E=>exact y.imm E (Zw t) (by have:=List.find?_some t;unfold kdT at this;simpa using this)
 ·exact .inl (qwl h)
end Go.Proofs.YtjafbmfcedijmaaGreatDoor
namespace Go.Proofs.YtjafbmfcedijmaaGreatDoor
open Tryz
open Go.RowKit Go.Shelf
attribute [local go_sem] Oper.semAt_some
def adB (n:Int):Bool:=decide (0<=n)&&decide (n<=65535)
theorem qcx {n:Int}:adB n=true↔0<=n/\n<=65535:=by unfold adB;simp
theorem qfl (n:Int) (w:World) :
  Calls prog 62 #[.int .i64 n] w fun e F=>e=.returned (.bool (adB n))/\Below w.heap.size w F:=by
 obtain ⟨B,E,G,K,h,g,M⟩:=Fr.box (Fr.nil w) #[.int .i64 n] 3;have y:=J9 (qcp 0 65535 n B (adB n) (by simp [qcL,adB]) E (C9 h.o.1 0));have z:=J9 g;clear g h
 go_enter func62,ntmps62
 go_wp2_with fail
 refine y.o.mono ?_;rintro e J ⟨rfl,rfl⟩;clear y;go_wp2;go_ret;exact ⟨rfl,z.o⟩
theorem qq6 (g:Nat) (k:Int) (t:Tr) (w:World) (b:w.heap[g]?=some (.cells #[.int .i64 k] 3 (0,0))) :
  Calls prog 106 #[.agg #[.int .i64 t.1,.int .i64 t.2.1,.int .i64 t.2.2],.pointer (some ⟨g,0,none⟩)] w fun z B=>z=.returned (.bool (t.1 == k))/\Below w.heap.size w B:=by
 obtain ⟨J,V,U,K,h,e,Z⟩:=Fr.box (Fr.nil w) #[.int .i64 t.1,.int .i64 t.2.1,.int .i64 t.2.2] 57;have y:=J9 e;obtain ⟨E,G,O⟩:=Fr.cells3 h.o.1;have M:=C9 ((e.block g (Qb.1 b).1).trans b) 0;clear e h b
 go_enter func106,ntmps106
 go_wp2;go_ret;exact ⟨rfl,y.o⟩
theorem qp3 (g:Nat) (k:Int) (A:Option Addr) (cap n:Nat) (C:List Tr) (ae:C.length=n) (ao:n<=1000) (w:World) (U:w.heap[g]?=some (.cells #[.int .i64 k] 3 (0,0))) (H:qaj w A C) :
  Calls prog 149 #[.slice A n cap,.func (.func 106) #[] #[.pointer (some ⟨g,0,none⟩)]] w fun e G=>(∃ i:Int,e=.returned (.int .i64 i)/\decide (i>=0)=C.any (kdT k))/\Below w.heap.size w G:=by
 have ai:=J9 H;have O:=J9 U;have ab:=J9 ae;clear H U ae
 go_enter func149,ntmps149
 go_wp2
 go_loopw [8] (fun i wr=>∃ h:Nat,h<=n/\i=.int .i64 h/\Hid ((C.take h).any (kdT k)=false)/\Hid (Below w.heap.size w wr)) (fun i _=>n - (intOf i).toNat)
 case atStart=>exact ⟨0,Qs _,rfl,rfl,Qc _ _⟩
 case round=>
  obtain ⟨h,ak,rfl,X,t⟩:=hrel;by_cases an:h<n
  ·have J:h<C.length:=by have:=ab.o;omega
   obtain ⟨aj,am,rfl,ag,aa,Y,M⟩:=(ai.o.below t.o).at_ J;have B:Hid (C[h].1≠k->(C.take (h+1)).any (kdT k)=false):=fun K=>by
    rw [Qx J,List.any_append,X.o];unfold kdT;simp [K]
   have E:Hid (C[h].1=k->C.any (kdT k)=true):=fun K=>Zr.2 ⟨_,QB J,by unfold kdT;simpa using K⟩
   obtain ⟨D,af⟩:=N9 (C[h]);rw [af] at aa Y M B E;have ad:=J9 (fun G (ah:Below w.heap.size w G)=>qq6 g k D G ((ah.block g (Qb.1 O.o).1).trans O.o));clear af
   go_wp2_with fail
   refine (ad.o _ t.o).mono ?_;rintro e ap ⟨rfl,V⟩;have Z:=J9 (t.o.trans (V.mono t.o.size));clear ad V ag aa Y M;by_cases j:D.1=k
   ·have z:(D.1 == k)=true:=by simpa using j
    have y:=J9 (E.o j);rw [z];clear z j E B;go_wp2;go_ret;exact ⟨⟨_,rfl,by rw [y.o];exact Qn (by omega)⟩,Z.o⟩
   ·have z:(D.1 == k)=false:=by simpa using j
    have y:=J9 (B.o j);rw [z];clear z j E B;go_wp2;go_roundw
    case rel=>exact ⟨h+1,by omega,by go_num,y.o,Z.o⟩
    case measure=>simp [intOf];omega
  ·have ac:C.take h=C:=QJ (by have:=ab.o;omega)
   have y:Hid (C.any (kdT k)=false):=(by show _=_;rw [<- ac];exact X.o);clear ac;go_wp2;go_ret;exact ⟨⟨_,rfl,by rw [y.o];rfl⟩,t.o⟩
theorem qqZ (g:Nat) (k:Int) (A:Option Addr) (cap n:Nat) (C:List Tr) (E:C.length=n) (I:n<=1000) (w:World) (h:w.heap[g]?=some (.cells #[.int .i64 k] 3 (0,0))) (H:qaj w A C) :
  Calls prog 105 #[.slice A n cap,.func (.func 106) #[] #[.pointer (some ⟨g,0,none⟩)]] w fun z K=>z=.returned (.bool (C.any (kdT k)))/\Below w.heap.size w K:=by
 have y:=J9 (qp3 g k A cap n C E I w h H);clear h H E
 go_enter func105,ntmps105
 go_wp2_with fail
 refine y.o.mono ?_;rintro z O ⟨⟨M,rfl,e⟩,i⟩;have J:=J9 i;have G:=J9 e;clear y i e;go_wp2;go_ret;exact ⟨qaa G.o,J.o⟩
theorem qiY (s:ByteArray) (k:Int) (A:Option Addr) (cap n:Nat) (C:List Tr) (J:C.length=n) (U:n<=1000) (w:World) (H:qaj w A C) :
  Calls prog 66 #[.agg #[.string s,.slice A n cap],.int .i64 k] w fun E aa=>E=.returned (.bool (C.any (kdT k)))/\Below w.heap.size w aa:=by
 obtain ⟨O,aj,ah,ag,K,g,ak⟩:=Fr.box (Fr.nil w) #[.string s,.slice A n cap] 24;obtain ⟨G,V,ac,ai,b,h,am⟩:=Fr.box K #[.int .i64 k] 3;have e:=J9 (g.trans (h.mono g.size));obtain ⟨ab,ae⟩:=Fr.qEc b.o.2.1;have B:=J9 (qqZ G k A cap n C J U V b.o.1 (H.below e.o));have ad:∀ (y:Fn) (first cap:Array Value) (w:World),(Instr.makeFunc y first cap).run prog w=.ok (.func y first cap) w:=fun _ _ _ _=>rfl
 have Z:G=O+1:=by omega
 subst Z;clear g h K b H J
 go_enter func66,ntmps66
 go_wp2_with fail
 refine B.o.mono ?_;rintro E af ⟨rfl,z⟩;have M:=J9 (e.o.trans (z.mono e.o.size));clear B z;go_wp2;go_ret;exact ⟨rfl,M.o⟩
theorem qrK (C:List Tr):qd7 qdk C=1/\qd7 qhv C=1:=⟨Qk (.inl rfl),Qk (.inr rfl)⟩
theorem qAF (C:List Tr):qd7 qjS C=2/\qd7 qiZ C=2:=by
 unfold qd7;exact ⟨by rw [Qd (by decide),Qk (.inl rfl)],by rw [Qd (by decide),Qk (.inr rfl)]⟩
theorem qxy (C:List Tr):qd7 qiu C=3/\qd7 qia C=3/\qd7 qhO C=3:=by
 unfold qd7;exact ⟨by rw [Qd (by decide),Qd (by decide),Qk (.inl rfl)],by rw [Qd (by decide),Qd (by decide),Qk (.inr (.inl rfl))],by rw [Qd (by decide),Qd (by decide),Qk (.inr (.inr rfl))]⟩
theorem qCq (C:List Tr):qd7 qgk C=4:=by
 unfold qd7;rw [Qd (by decide),Qd (by decide),Qd (by decide),Qk rfl]
theorem qCW (C:List Tr):qd7 qfQ C=if C.any (kdT 4)=true then 4 else 1:=by
 unfold qd7;rw [Qd (by decide),Qd (by decide),Qd (by decide),Qd (by decide),Qk rfl]
theorem qbh {s:ByteArray} {m:Str} (y:s≠⟨m.toArray⟩):(s.toList == m)=false:=Qj.2 fun e=>y (by
 have h:s.data.toList=m:=by rw [<- Qe];exact e
 exact ByteArray.ext (by rw [<- h]))
theorem qp9 (s:ByteArray) (A:Option Addr) (cap n:Nat) (C:List Tr) (am:C.length=n) (aj:n<=1000) (w:World) (H:qaj w A C) :
  Calls prog 65 #[.agg #[.string s,.slice A n cap]] w fun ad Z=>ad=.returned (.int .i64 (qd7 s C))/\Below w.heap.size w Z:=by
 obtain ⟨ax,ar,aA,az,an,af,aB⟩:=Fr.box (Fr.nil w) #[.string s,.slice A n cap] 24;have h:=J9 af;obtain ⟨av,aw⟩:=Fr.qEc an.o.1;have aa:=J9 (qiY s 4 A cap n C am aj ar (H.below af));clear H am aj af an;have q:Hid (∀ Z (ae:Int),Below w.heap.size w Z->qd7 s C=ae->(Ending.returned (.int .i64 ae)=.returned (.int .i64 (qd7 s C))/\Below w.heap.size w Z)):=fun Z ae au ad=>⟨by rw [ad],au⟩
 by_cases e:s=qdk
 ·subst e
  have z:(qdk.toList == [74,82])=true:=by rw [Qe];rfl
  have b:=J9 (qrK C).1
  go_enter func65,ntmps65
  go_wp2;go_ret;exact q.o _ _ h.o b.o
 by_cases k:s=qhv
 ·subst k
  have z:(qhv.toList == [74,82])=false:=by rw [Qe];rfl
  have E:(qhv.toList == [68,74,78,90])=true:=by rw [Qe];rfl
  have b:=J9 (qrK C).2;clear e
  go_enter func65,ntmps65
  go_wp2;go_ret;exact q.o _ _ h.o b.o
 by_cases y:s=qjS
 ·subst y
  have z:(qjS.toList == [74,82])=false:=by rw [Qe];rfl
  have E:(qjS.toList == [68,74,78,90])=false:=by rw [Qe];rfl
  have K:(qjS.toList == [67,65,76,76])=true:=by rw [Qe];rfl
  have b:=J9 (qAF C).1;clear e k
  go_enter func65,ntmps65
  go_wp2;go_ret;exact q.o _ _ h.o b.o
 by_cases B:s=qiZ
 ·subst B
  have z:(qiZ.toList == [74,82])=false:=by rw [Qe];rfl
  have E:(qiZ.toList == [68,74,78,90])=false:=by rw [Qe];rfl
  have K:(qiZ.toList == [67,65,76,76])=false:=by rw [Qe];rfl
  have O:(qiZ.toList == [82,83,84])=true:=by rw [Qe];rfl
  have b:=J9 (qAF C).2;clear e k y
  go_enter func65,ntmps65
  go_wp2;go_ret;exact q.o _ _ h.o b.o
 by_cases G:s=qiu
 ·subst G
  have z:(qiu.toList == [74,82])=false:=by rw [Qe];rfl
  have E:(qiu.toList == [68,74,78,90])=false:=by rw [Qe];rfl
  have K:(qiu.toList == [67,65,76,76])=false:=by rw [Qe];rfl
  have O:(qiu.toList == [82,83,84])=false:=by rw [Qe];rfl
  have U:(qiu.toList == [82,69,84])=true:=by rw [Qe];rfl
  have b:=J9 (qxy C).1;clear e k y B
  go_enter func65,ntmps65
  go_wp2;go_ret;exact q.o _ _ h.o b.o
 by_cases J:s=qia
 ·subst J
  have z:(qia.toList == [74,82])=false:=by rw [Qe];rfl
  have E:(qia.toList == [68,74,78,90])=false:=by rw [Qe];rfl
  have K:(qia.toList == [67,65,76,76])=false:=by rw [Qe];rfl
  have O:(qia.toList == [82,83,84])=false:=by rw [Qe];rfl
  have U:(qia.toList == [82,69,84])=false:=by rw [Qe];rfl
  have ac:(qia.toList == [82,69,84,73])=true:=by rw [Qe];rfl
  have b:=J9 (qxy C).2.1;clear e k y B G
  go_enter func65,ntmps65
  go_wp2;go_ret;exact q.o _ _ h.o b.o
 by_cases M:s=qhO
 ·subst M
  have z:(qhO.toList == [74,82])=false:=by rw [Qe];rfl
  have E:(qhO.toList == [68,74,78,90])=false:=by rw [Qe];rfl
  have K:(qhO.toList == [67,65,76,76])=false:=by rw [Qe];rfl
  have O:(qhO.toList == [82,83,84])=false:=by rw [Qe];rfl
  have U:(qhO.toList == [82,69,84])=false:=by rw [Qe];rfl
  have ac:(qhO.toList == [82,69,84,73])=false:=by rw [Qe];rfl
  have ag:(qhO.toList == [82,69,84,78])=true:=by rw [Qe];rfl
  have b:=J9 (qxy C).2.2;clear e k y B G J
  go_enter func65,ntmps65
  go_wp2;go_ret;exact q.o _ _ h.o b.o
 by_cases V:s=qgk
 ·subst V
  have z:(qgk.toList == [74,82])=false:=by rw [Qe];rfl
  have E:(qgk.toList == [68,74,78,90])=false:=by rw [Qe];rfl
  have K:(qgk.toList == [67,65,76,76])=false:=by rw [Qe];rfl
  have O:(qgk.toList == [82,83,84])=false:=by rw [Qe];rfl
  have U:(qgk.toList == [82,69,84])=false:=by rw [Qe];rfl
  have ac:(qgk.toList == [82,69,84,73])=false:=by rw [Qe];rfl
  have ag:(qgk.toList == [82,69,84,78])=false:=by rw [Qe];rfl
  have ah:(qgk.toList == [72,65,76,84])=true:=by rw [Qe];rfl
  have b:=J9 (qCq C);clear e k y B G J M
  go_enter func65,ntmps65
  go_wp2;go_ret;exact q.o _ _ h.o b.o
 by_cases ab:s=qfQ
 ·subst ab
  have z:(qfQ.toList == [74,82])=false:=by rw [Qe];rfl
  have E:(qfQ.toList == [68,74,78,90])=false:=by rw [Qe];rfl
  have K:(qfQ.toList == [67,65,76,76])=false:=by rw [Qe];rfl
  have O:(qfQ.toList == [82,83,84])=false:=by rw [Qe];rfl
  have U:(qfQ.toList == [82,69,84])=false:=by rw [Qe];rfl
  have ac:(qfQ.toList == [82,69,84,73])=false:=by rw [Qe];rfl
  have ag:(qfQ.toList == [82,69,84,78])=false:=by rw [Qe];rfl
  have ah:(qfQ.toList == [72,65,76,84])=false:=by rw [Qe];rfl
  have aq:(qfQ.toList == [74,80])=true:=by rw [Qe];rfl
  have b:=J9 (qCW C);obtain ⟨ap,ao⟩:=N9 (C.any (kdT 4));rw [ao] at aa b;clear e k y B G J M V ao
  go_enter func65,ntmps65
  go_wp2_with fail
  refine aa.o.mono ?_;rintro ad ay ⟨rfl,ak⟩;have ai:=J9 (h.o.trans (ak.mono h.o.size));clear aa ak h;cases ap
  ·go_wp2
   go_ret;exact q.o _ _ ai.o b.o
  ·go_wp2
   go_ret;exact q.o _ _ ai.o b.o
 ·have b:Hid (qd7 s C=0):=by
   show _=_;unfold qd7;rw [Qd (by simp [e,k]),Qd (by simp [y,B]),Qd (by simp [G,J,M]),Qd V,Qd ab]
  have z:(s.toList == [74,82])=false:=qbh e;have E:(s.toList == [68,74,78,90])=false:=qbh k;have K:(s.toList == [67,65,76,76])=false:=qbh y;have O:(s.toList == [82,83,84])=false:=qbh B;have U:(s.toList == [82,69,84])=false:=qbh G;have ac:(s.toList == [82,69,84,73])=false:=qbh J;have ag:(s.toList == [82,69,84,78])=false:=qbh M;have ah:(s.toList == [72,65,76,84])=false:=qbh V;have aq:(s.toList == [74,80])=false:=qbh ab;clear e k y B G J M V ab aa
  go_enter func65,ntmps65
  go_wp2;go_ret;exact q.o _ _ h.o b.o
section
open Mixed
variable {P:Program} {ops:Array Oper}
theorem qhq {C:World->Prop} {T:Act->World->Prop} {k:Nat} {r:Ord} {a:Act} {w:World} {o:Oper} (h:ops[k]?=some o) (y:Region.wanted o (yielded ops a.tmps)=false)
  (z:qEd P ops C T r (a.put o.dst undef) w):qEd P ops C T (.pure k r) a w:=by
 simp only [qEd,h];exact ⟨undef,.inr ⟨y,rfl⟩,z⟩
theorem qfZ {C:World->Prop} {T:Act->World->Prop} {k:Nat} {r:Ord} {a:Act} {w:World} {o:Oper} (h:ops[k]?=some o) (y:Region.wanted o (yielded ops a.tmps)=false)
  (z:C w) (E:qEd P ops C T r (a.put o.dst undef) w):qEd P ops C T (.one k r) a w:=by
 simp only [qEd];unfold wpOp;simp only [h,y,Bool.false_eq_true,if_false];exact ⟨z,E⟩
theorem qkg {C:World->Prop} {T:Act->World->Prop} {k y:Nat} {r z:Ord} {a:Act} {w:World} {o h:Oper} (U:ops[k]?=some o) (E:Region.wanted o (yielded ops a.tmps)=false) (G:ops[y]?=some h) (O:Region.wanted h (yielded ops a.tmps)=true)
  (M:C w) (V:qEd P ops C T r (a.put o.dst undef) w) (K:wpList P ops (QK fun J w'=>C w'/\qEd P ops C T z J w') [{h with guard:=none}] a w) :
  qEd P ops C T (.two k r y z) a w:=by
 simp only [qEd];refine ⟨?_,qdP G O K⟩;unfold wpOp;simp only [U,E,Bool.false_eq_true,if_false];exact ⟨M,V⟩
end
def qiS (w:World) (b:Nat) (k:Int) (q:Bool) (v:Value):Prop:=w.heap[b]?=some (.cells #[.int .i64 k,.bool q,v] 60 (0,0))
section
variable {w w':World} {b:Nat} {k:Int} {q:Bool} {v:Value}
theorem qiS.lt (h:qiS w b k q v):b<w.heap.size:=(Qb.1 h).1
theorem qiS.all (h:qiS w b k q v) (y:Below w.heap.size w w'):qiS w' b k q v:=(y.block b h.lt).trans h
theorem qiS.cells (h:qiS w b k q v):w.cell? ⟨b,0,none⟩=some (.int .i64 k)/\w.cell? ⟨b,1,none⟩=some (.bool q)/\w.cell? ⟨b,2,none⟩=some v/\∀ i,w.frozen? ⟨b,i,none⟩=false:=
 ⟨C9 h 0,C9 h 1,C9 h 2,fun i=>Qr h i⟩
theorem qiS.put (J:qiS w b k q v) (E:Int) (y:Bool) (z:Value) :
  ∃ h,((w.setCell ⟨b,0,none⟩ (.int .i64 E)).setCell ⟨b,1,none⟩ (.bool y)).setCell ⟨b,2,none⟩ z=h/\
   qiS h b E y z/\Below b w h/\h.heap.size=w.heap.size/\∀ k,k≠b->h.heap[k]?=w.heap[k]?:=by
 refine ⟨_,rfl,?_,?_,by simp,fun k G=>?_⟩
 ·have M:=heap_setCell_same w b 0 _ _ (.int .i64 E) J
  have K:=heap_setCell_same _ b 1 _ _ (.bool y) M;exact heap_setCell_same _ b 2 _ _ z K
 ·exact (((Qc b w).setCell (p:=⟨b,0,none⟩) (Qa _) _).setCell (p:=⟨b,1,none⟩) (Qa _) _).setCell (p:=⟨b,2,none⟩) (Qa _) _
 ·exact (heap_setCell_other _ ⟨b,2,none⟩ k _ G).trans ((heap_setCell_other _ ⟨b,1,none⟩ k _ G).trans (heap_setCell_other _ ⟨b,0,none⟩ k _ G))
end
def efF (b:Nat) (k:Int) (q:Bool) (v:Value):Fr.F:=⟨fun h=>qiS h b k q v,fun w y=>w.all y⟩
def qaW (A:Option Addr) (L:List Tr):Fr.F:=⟨fun h=>qaj h A L,fun w y=>w.below y⟩
def qmt:Fr.F:=⟨fun h=>qac h,fun y w=>y.below w⟩
def qpe (n:Nat) (v:Value) (L:List Tr):Fr.F:=⟨fun h=>qas h n v L,fun w y=>w.below y⟩
theorem qas.qFk {w w':World} {n B:Nat} {v:Value} {L:List Tr} (O:qas w n v L) (M:∀ k,k≠B->w'.heap[k]?=w.heap[k]?) (V:B<n):qas w' n v L:=by
 rcases O with ⟨rfl,rfl⟩ | ⟨g,J,z,rfl,E,K,G,y,h,U⟩
 ·exact .inl ⟨rfl,rfl⟩
 ·exact .inr ⟨g,J,z,rfl,E,K,G,y,(M g (by omega)).trans h,U⟩
structure EffIs (k:Int) (q:Bool) (C:List Tr) (kd:Int) (sm:Bool) (tg:Int->Int):Prop where
 kd:k=kd
 sm:q=sm
 tg:∀ a,tgP k a C=tg a
 imm:∀ t∈C,t.1=6->0<=t.2.2/\t.2.2<=65535
 rel:∀ t∈C,t.1=10->-128<=t.2.2/\t.2.2<=127
 len:C.length<=1000
def qgY (w:World) (y:Int) (C:Bool) (z:Int->Int) (e:Ending) (w':World):Prop:=∃ (k:Int) (h:Bool) (v:Value) (q:List Tr),e=.returned (.agg #[.int .i64 k,.bool h,v])/\qas w' w.heap.size v q/\Below w.heap.size w w'/\EffIs k h q y C z
theorem qvk:EffIs 0 false [] 0 false (fun _=>-1):=⟨rfl,rfl,fun t=>by unfold tgP;rw [Qd (by omega)],fun h a=>(by cases a),fun h a=>(by cases a),by simp⟩
theorem qrX {s:ByteArray} {I:List Tr} (y:qqt s I=true):EffIs 0 false [] (kdF s I) (smF s I) (fun a=>tgF a s I):=by
 have t:=qjd s I;have m:=qmM s I;have h:=fun a=>qmY a s I
 rw [y] at t m;simp only [Qk y] at h;refine ⟨t,m,fun a=>?_,fun h k=>(by cases k),fun h k=>(by cases k),by simp⟩;show _=tgF a s I;rw [<- h a];unfold tgP;rw [Qd (by omega),Qd (by omega)]
theorem qul {s:ByteArray} {I:List Tr} (e:qqt s I=false) (G:I.length<=900):EffIs (qd7 s (canL (opc s) I)) (smP s (canL (opc s) I)) (canL (opc s) I) (kdF s I) (smF s I) (fun a=>tgF a s I):=by
 have k:=qjd s I;have m:=qmM s I;have t:=fun a=>qmY a s I
 rw [e] at k m;have y:(if qqt s I=true then (0:Int) else qd7 s (canL (opc s) I))=qd7 s (canL (opc s) I):=Qd (by rw [e];decide);rw [y] at t;have z:legB s I=true:=by
  unfold qqt at e;rw [Bool.or_eq_false_iff] at e;simpa using e.2
 have h:=((qbF s I).1 z).fl;have E:=qdR (opc s) I;exact ⟨by simpa using k,by simpa using m,t,h.imm,h.rel,by omega⟩
theorem quV (w:World) (s:ByteArray) (A:Option Addr) (n cap:Nat) (L:List Tr) (j:L.length=n) (H:qaj w A L):qwy (w.alloc (.cells #[.string s,.slice A n cap] 24)) (some ⟨w.heap.size,0,none⟩) [⟨s,A,cap,L⟩]:=by
 subst j;refine .inr ⟨_,_,rfl,fun y z=>?_⟩;obtain rfl:y=0:=by simp at z;omega
 have h:=heap_alloc_new w (.cells #[.string s,.slice A L.length cap] 24);exact ⟨C9 h 0,C9 h 1,H.below (B0)⟩
attribute [local irreducible] Go.Mixed.qEd
theorem qcr (s:ByteArray) (b9:s.size<=1000) (A:Option Addr) (cap O:Nat) (I:List Tr) (aZ:I.length=O) (cf:O<=900) (w:World) (bE:qac w) (H:qaj w A I) :
  Calls prog 31 #[.agg #[.string s,.slice A O cap]] w (qgY w (kdF s I) (smF s I) (fun a=>tgF a s I)):=by
 obtain ⟨bq,bd⟩:=N9 (w.heap.size);have aD:=J9 bd;obtain ⟨z,cC,cE,b7,bw,ci,bg⟩:=Fr.box (Fr.add (Fr.add (Fr.start w bq bd) (qaW A I) H) qmt bE) #[.string s,.slice A O cap] 24;obtain ⟨b4,co,cq,b2,aQ,cl,bk⟩:=Fr.box bw #[.int .i64 0,.bool false,.slice none 0 0] 60;obtain rfl:z=bq:=by omega
 obtain rfl:b4=z+1:=by omega
 have aN:=qsU s A cap I (by omega) co aQ.o.2.2.2.1;rw [aZ] at aN;have bW:=qdR (opc s) I;have br:=J9 (fun e=>qrX (s:=s) (I:=I) e);have a2:=J9 (fun e=>qul (s:=s) (I:=I) e (by omega));have ak:Hid (qqt s I=(decide (qd7 s (canL (opc s) I)=0)||!legB s I)):=rfl;obtain ⟨h,bJ⟩:=N9 (canL (opc s) I);rw [bJ] at aN bW a2 ak;obtain ⟨l,aO⟩:=N9 (h.length);have bA:l<=1000:=by omega
 have bC:=J9 aO;have bp:=J9 aZ;obtain ⟨ce,bP⟩:=Fr.qEc aQ.o.2.1;clear H bE ci cl bw bJ
 go_enter func31,ntmps31
 go_wp2_with fail
 refine aN.mono ?_;rintro ae cF ⟨v,rfl,aK,y⟩;obtain ⟨g,n,rfl,bF,bT,cy⟩:=aK.ops;rw [aO] at aK bT;rw [aO];have bv:=Fr.add (Fr.add (Fr.up aQ y) (qpe (z+2) (.slice g l n) h) (aK.lift (by omega))) (qaW g h) bF;clear aN y aK bF ce bP aQ b7 b2
 go_upto_region 2 with fail
 obtain ⟨ab,aM,bt,bD,bM,cm,a0⟩:=Fr.box bv #[.string s,.slice g l n] 24;rw [bD,bt];obtain ⟨cg,af⟩:=N9 (aM.drew);have G:=Fr.up bM (show Below aM.heap.size aM cg by rw [<- af];exact below_drewN aM _ 1);clear bv bM cm bD;have az:=J9 (fun P e=>qp9 s g n l h bC.o bA P e);have aH:=J9 (fun P e=>qiY s 8 g n l h bC.o bA P e);have aR:Hid (smP s h=(decide (s=qhv)||h.any (kdT 8))):=rfl;obtain ⟨C,bu⟩:=N9 (qd7 s h);obtain ⟨aI,bm⟩:=N9 (h.any (kdT 8));rw [bu] at az a2 ak;rw [bm] at aH aR;obtain ⟨bc,bh⟩:=N9 (legB s I);rw [bh] at ak;have bZ:=J9 bh;clear bu bm aO aZ bh bg bk bt a0 bd
 go_cut [4] (fun b0 wx=>∃ (p:Nat),b0=.pointer (some ⟨p,0,none⟩)/\Hid (Fr.St wx [efF p C (smP s h) (.slice g l n),Fr.blk ab (.cells #[.string s,.slice g l n] 24 (0,0)),qaW g h,qpe (z+2) (.slice g l n) h,Fr.blk (z+1) (.cells #[.int .i64 0,.bool false,.slice none 0 0] 60 (0,0)),Fr.blk z (.cells #[.string s,.slice A O cap] 24 (0,0)),qmt,qaW A I,Fr.bel z w]))
 case first=>
  have am:Hid (∀ (aB an:World) (p:Nat),Fr.St aB [Fr.blk ab (.cells #[.string s,.slice g l n] 24 (0,0)),qaW g h,qpe (z+2) (.slice g l n) h,Fr.blk (z+1) (.cells #[.int .i64 0,.bool false,.slice none 0 0] 60 (0,0)),Fr.blk z (.cells #[.string s,.slice A O cap] 24 (0,0)),qmt,qaW A I,Fr.bel z w]->Below aB.heap.size aB an->p=aB.heap.size->an.heap[p]?=some (.cells #[.int .i64 0,.bool false,.slice none 0 0] 60 (0,0))->Hid (Fr.St (an.setRow p #[.int .i64 C,.bool (smP s h),.slice g l n]) (efF p C (smP s h) (.slice g l n) :: [Fr.blk ab (.cells #[.string s,.slice g l n] 24 (0,0)),qaW g h,qpe (z+2) (.slice g l n) h,Fr.blk (z+1) (.cells #[.int .i64 0,.bool false,.slice none 0 0] 60 (0,0)),Fr.blk z (.cells #[.string s,.slice A O cap] 24 (0,0)),qmt,qaW A I,Fr.bel z w]))):=fun aB an p r ca cv bO=>
   ⟨setRow_heap an p _ _ 60 (0,0) bO,Fr.St.up r (ca.trans (below_setRow (Qc _ an) (by omega) _))⟩
  by_cases aq:s=qhv
  ·have bX:(s.toList == [68,74,78,90])=true:=by rw [aq,Qe];rfl
   have ai:Hid (smP s h=true):=(by show _=_;rw [aR.o,Qn aq,Bool.true_or]);clear aq;refine Mixed.qEg (fun P=>Fr.St P [Fr.blk ab (.cells #[.string s,.slice g l n] 24 (0,0)),qaW g h,qpe (z+2) (.slice g l n) h,Fr.blk (z+1) (.cells #[.int .i64 0,.bool false,.slice none 0 0] 60 (0,0)),Fr.blk z (.cells #[.string s,.slice A O cap] 24 (0,0)),qmt,qaW A I,Fr.bel z w]) 13 (.pure 0 (.pure 2 (.pure 3 (.pure 4 (.pure 9 (.pure 10 (.two 1 (.pure 5 (.pure 6 (.two 7 (.pure 8 (.pure 11 (.one 12 .done))) 12 (.one 7 (.pure 8 (.pure 11 .done)))))) 12 (.one 1 (.pure 5 (.pure 6 (.one 7 (.pure 8 (.pure 11 .done))))))))))))) (by kernel_rfl) (by kernel_rfl) (by rw [af];exact G.o) ?_;rw [af];clear af;refine Mixed.qD4 rfl (by kernel_rfl) (.agg #[.string s,.slice g l n]) (fun w e=>by obtain ⟨r,-⟩:=e;have ah:=C9 r 0;have aj:=C9 r 1;clear r;go_simp;try rfl) ?_;refine Mixed.qD4 rfl (by kernel_rfl) (.pointer (some ⟨ab,0,none⟩)) (fun w e=>by clear e;go_simp;try rfl) ?_;refine Mixed.qD4 rfl (by kernel_rfl) (.string s) (fun w e=>by obtain ⟨r,-⟩:=e;have ah:=C9 r 0;have aj:=C9 r 1;clear r;go_simp;try rfl) ?_;refine Mixed.qD4 rfl (by kernel_rfl) (.bool true) (fun w e=>by clear e;go_simp;try rfl) ?_;refine Mixed.qD4 rfl (by kernel_rfl) (.pointer (some ⟨ab,1,none⟩)) (fun w e=>by clear e;go_simp;try rfl) ?_;refine Mixed.qD4 rfl (by kernel_rfl) (.slice g l n) (fun w e=>by obtain ⟨r,-⟩:=e;have ah:=C9 r 0;have aj:=C9 r 1;clear r;go_simp;try rfl) ?_;refine Mixed.qEe rfl (by kernel_rfl) rfl (by kernel_rfl) ?_ ?_
   ·go_wp2_with fail
    refine (az.o _ G.o.2.1).mono ?_;rintro ae cD ⟨rfl,y⟩;have R:=Fr.up G y;clear y G;go_wp2;refine ⟨R.o,?_⟩;refine Mixed.qD4 rfl (by kernel_rfl) (.bool true) (fun w e=>by clear e;go_simp;try rfl) ?_;refine qhq rfl (by kernel_rfl) ?_;refine qkg rfl (by kernel_rfl) rfl (by kernel_rfl) R.o ?_ ?_
    ·refine Mixed.qD4 rfl (by kernel_rfl) (.bool true) (fun w e=>by clear e;go_simp;try rfl) ?_
     refine Mixed.qD4 rfl (by kernel_rfl) (.agg #[.int .i64 C,.bool (smP s h),.slice g l n]) (fun w e=>by clear e;rw [ai.o];go_simp;try rfl) ?_;refine Mixed.qD9 rfl (by kernel_rfl) ?_;obtain ⟨p,bU,J,cd,bB,K,U⟩:=Fr.box R #[.int .i64 0,.bool false,.slice none 0 0] 60;have aX:=J9 K;have a1:=J9 bB.o.1;have L:=J9 J;clear K U bB;go_wp2;refine ⟨(Fr.up R aX.o).o,?_⟩;clear J cd;simp only [Mixed.qEd,Qq,Qy];refine wpList_store_row rfl 60 _ _ rfl p #[.int .i64 C,.bool (smP s h),.slice g l n] rfl rfl _ _ a1.o (by kernel_rfl) (by kernel_rfl) (by kernel_rfl) ?_;have M:=am.o _ _ p R.o aX.o L.o.symm a1.o;obtain ⟨av,E⟩:=N9 (bU.setRow p #[.int .i64 C,.bool (smP s h),.slice g l n]);rw [E] at M;rw [E];clear aX a1 R L E;go_wp2
     go_meet
     exact ⟨p,rfl,M⟩
    ·obtain ⟨p,cc,J,cj,bH,K,U⟩:=Fr.box R #[.int .i64 0,.bool false,.slice none 0 0] 60
     have aL:=J9 K;have aV:=J9 bH.o.1;have L:=J9 J;clear K U bH;go_wp2;refine ⟨(Fr.up R aL.o).o,?_⟩;clear J cj;refine qfZ rfl (by kernel_rfl) (Fr.up R aL.o).o ?_;refine Mixed.qD4 rfl (by kernel_rfl) (.bool true) (fun w e=>by clear e;go_simp;try rfl) ?_;refine Mixed.qD4 rfl (by kernel_rfl) (.agg #[.int .i64 C,.bool (smP s h),.slice g l n]) (fun w e=>by clear e;rw [ai.o];go_simp;try rfl) ?_;simp only [Mixed.qEd,Qq,Qy];refine wpList_store_row rfl 60 _ _ rfl p #[.int .i64 C,.bool (smP s h),.slice g l n] rfl rfl _ _ aV.o (by kernel_rfl) (by kernel_rfl) (by kernel_rfl) ?_;have M:=am.o _ _ p R.o aL.o L.o.symm aV.o;obtain ⟨av,E⟩:=N9 (cc.setRow p #[.int .i64 C,.bool (smP s h),.slice g l n]);rw [E] at M;rw [E];clear aL aV R L E;go_wp2
     go_meet
     exact ⟨p,rfl,M⟩
   ·obtain ⟨p,cG,J,bV,bK,K,U⟩:=Fr.box G #[.int .i64 0,.bool false,.slice none 0 0] 60
    have aE:=J9 K;have be:=J9 bK.o.1;have L:=J9 J;clear K U bK;go_wp2;refine ⟨(Fr.up G aE.o).o,?_⟩;clear J bV;refine Mixed.qD9 rfl (by kernel_rfl) ?_
    go_wp2_with fail
    refine (az.o _ (Fr.up G aE.o).o.2.1).mono ?_;rintro ae ck ⟨rfl,y⟩;have aJ:=J9 (aE.o.trans (y.mono aE.o.size));have bf:=J9 ((y.block _ (Qb.1 be.o).1).trans be.o);clear y aE be;go_wp2;refine ⟨(Fr.up G aJ.o).o,?_⟩;refine Mixed.qD4 rfl (by kernel_rfl) (.bool true) (fun w e=>by clear e;go_simp;try rfl) ?_;refine qhq rfl (by kernel_rfl) ?_;refine qfZ rfl (by kernel_rfl) (Fr.up G aJ.o).o ?_;refine Mixed.qD4 rfl (by kernel_rfl) (.bool true) (fun w e=>by clear e;go_simp;try rfl) ?_;refine Mixed.qD4 rfl (by kernel_rfl) (.agg #[.int .i64 C,.bool (smP s h),.slice g l n]) (fun w e=>by clear e;rw [ai.o];go_simp;try rfl) ?_;simp only [Mixed.qEd,Qq,Qy];refine wpList_store_row rfl 60 _ _ rfl p #[.int .i64 C,.bool (smP s h),.slice g l n] rfl rfl _ _ bf.o (by kernel_rfl) (by kernel_rfl) (by kernel_rfl) ?_;have M:=am.o _ _ p G.o aJ.o L.o.symm bf.o;obtain ⟨av,E⟩:=N9 (ck.setRow p #[.int .i64 C,.bool (smP s h),.slice g l n]);rw [E] at M;rw [E];clear aJ bf G L E;go_wp2
    go_meet
    exact ⟨p,rfl,M⟩
  ·have ai:Hid (smP s h=aI):=by show _=_;rw [aR.o,Qf aq,Bool.false_or]
   have bX:(s.toList == [68,74,78,90])=false:=qbh aq;clear aq;refine Mixed.qEg (fun P=>Fr.St P [Fr.blk ab (.cells #[.string s,.slice g l n] 24 (0,0)),qaW g h,qpe (z+2) (.slice g l n) h,Fr.blk (z+1) (.cells #[.int .i64 0,.bool false,.slice none 0 0] 60 (0,0)),Fr.blk z (.cells #[.string s,.slice A O cap] 24 (0,0)),qmt,qaW A I,Fr.bel z w]) 13 (.pure 0 (.pure 2 (.pure 3 (.pure 4 (.pure 9 (.pure 10 (.two 1 (.pure 5 (.pure 6 (.two 7 (.pure 8 (.pure 11 (.one 12 .done))) 12 (.one 7 (.pure 8 (.pure 11 .done)))))) 12 (.one 1 (.pure 5 (.pure 6 (.one 7 (.pure 8 (.pure 11 .done))))))))))))) (by kernel_rfl) (by kernel_rfl) (by rw [af];exact G.o) ?_;rw [af];clear af;refine Mixed.qD4 rfl (by kernel_rfl) (.agg #[.string s,.slice g l n]) (fun w e=>by obtain ⟨r,-⟩:=e;have ah:=C9 r 0;have aj:=C9 r 1;clear r;go_simp;try rfl) ?_;refine Mixed.qD4 rfl (by kernel_rfl) (.pointer (some ⟨ab,0,none⟩)) (fun w e=>by clear e;go_simp;try rfl) ?_;refine Mixed.qD4 rfl (by kernel_rfl) (.string s) (fun w e=>by obtain ⟨r,-⟩:=e;have ah:=C9 r 0;have aj:=C9 r 1;clear r;go_simp;try rfl) ?_;refine Mixed.qD4 rfl (by kernel_rfl) (.bool false) (fun w e=>by clear e;go_simp;try rfl) ?_;refine Mixed.qD4 rfl (by kernel_rfl) (.pointer (some ⟨ab,1,none⟩)) (fun w e=>by clear e;go_simp;try rfl) ?_;refine Mixed.qD4 rfl (by kernel_rfl) (.slice g l n) (fun w e=>by obtain ⟨r,-⟩:=e;have ah:=C9 r 0;have aj:=C9 r 1;clear r;go_simp;try rfl) ?_;refine Mixed.qEe rfl (by kernel_rfl) rfl (by kernel_rfl) ?_ ?_
   ·go_wp2_with fail
    refine (az.o _ G.o.2.1).mono ?_;rintro ae cu ⟨rfl,y⟩;have Z:=Fr.up G y;clear y G;go_wp2;refine ⟨Z.o,?_⟩;refine Mixed.qD4 rfl (by kernel_rfl) (.bool false) (fun w e=>by clear e;go_simp;try rfl) ?_;refine Mixed.qD4 rfl (by kernel_rfl) (.agg #[.string s,.slice g l n]) (fun w e=>by obtain ⟨r,-⟩:=e;have ah:=C9 r 0;have aj:=C9 r 1;clear r;go_simp;try rfl) ?_;refine Mixed.qEe rfl (by kernel_rfl) rfl (by kernel_rfl) ?_ ?_
    ·go_wp2_with fail
     refine (aH.o _ Z.o.2.1).mono ?_;rintro ae cr ⟨rfl,y⟩;have aG:=Fr.up Z y;clear y Z;go_wp2;refine ⟨aG.o,?_⟩;refine Mixed.qD4 rfl (by kernel_rfl) (.bool aI) (fun w e=>by clear e;go_simp;try rfl) ?_;refine Mixed.qD4 rfl (by kernel_rfl) (.agg #[.int .i64 C,.bool (smP s h),.slice g l n]) (fun w e=>by clear e;rw [ai.o];go_simp;try rfl) ?_;refine Mixed.qD9 rfl (by kernel_rfl) ?_;obtain ⟨p,bR,J,bS,bN,K,U⟩:=Fr.box aG #[.int .i64 0,.bool false,.slice none 0 0] 60;have a3:=J9 K;have aT:=J9 bN.o.1;have L:=J9 J;clear K U bN;go_wp2;refine ⟨(Fr.up aG a3.o).o,?_⟩;clear J bS;simp only [Mixed.qEd,Qq,Qy];refine wpList_store_row rfl 60 _ _ rfl p #[.int .i64 C,.bool (smP s h),.slice g l n] rfl rfl _ _ aT.o (by kernel_rfl) (by kernel_rfl) (by kernel_rfl) ?_;have M:=am.o _ _ p aG.o a3.o L.o.symm aT.o;obtain ⟨av,E⟩:=N9 (bR.setRow p #[.int .i64 C,.bool (smP s h),.slice g l n]);rw [E] at M;rw [E];clear a3 aT aG L E;go_wp2
     go_meet
     exact ⟨p,rfl,M⟩
    ·obtain ⟨p,cw,J,b3,bl,K,U⟩:=Fr.box Z #[.int .i64 0,.bool false,.slice none 0 0] 60
     have aF:=J9 K;have aY:=J9 bl.o.1;have L:=J9 J;clear K U bl;go_wp2;refine ⟨(Fr.up Z aF.o).o,?_⟩;clear J b3;refine Mixed.qD9 rfl (by kernel_rfl) ?_
     go_wp2_with fail
     refine (aH.o _ (Fr.up Z aF.o).o.2.1).mono ?_;rintro ae b1 ⟨rfl,y⟩;have bj:=J9 (aF.o.trans (y.mono aF.o.size));have a8:=J9 ((y.block _ (Qb.1 aY.o).1).trans aY.o);clear y aF aY;go_wp2;refine ⟨(Fr.up Z bj.o).o,?_⟩;refine Mixed.qD4 rfl (by kernel_rfl) (.bool aI) (fun w e=>by clear e;go_simp;try rfl) ?_;refine Mixed.qD4 rfl (by kernel_rfl) (.agg #[.int .i64 C,.bool (smP s h),.slice g l n]) (fun w e=>by clear e;rw [ai.o];go_simp;try rfl) ?_;simp only [Mixed.qEd,Qq,Qy];refine wpList_store_row rfl 60 _ _ rfl p #[.int .i64 C,.bool (smP s h),.slice g l n] rfl rfl _ _ a8.o (by kernel_rfl) (by kernel_rfl) (by kernel_rfl) ?_;have M:=am.o _ _ p Z.o bj.o L.o.symm a8.o;obtain ⟨av,E⟩:=N9 (b1.setRow p #[.int .i64 C,.bool (smP s h),.slice g l n]);rw [E] at M;rw [E];clear bj a8 Z L E;go_wp2
     go_meet
     exact ⟨p,rfl,M⟩
   ·obtain ⟨p,ct,J,b6,bn,K,U⟩:=Fr.box G #[.int .i64 0,.bool false,.slice none 0 0] 60
    have au:=J9 K;have aS:=J9 bn.o.1;have L:=J9 J;clear K U bn;go_wp2;refine ⟨(Fr.up G au.o).o,?_⟩;clear J b6;refine Mixed.qD9 rfl (by kernel_rfl) ?_
    go_wp2_with fail
    refine (az.o _ (Fr.up G au.o).o.2.1).mono ?_;rintro ae cB ⟨rfl,y⟩;have ax:=J9 (au.o.trans (y.mono au.o.size));have bb:=J9 ((y.block _ (Qb.1 aS.o).1).trans aS.o);clear y au aS;go_wp2;refine ⟨(Fr.up G ax.o).o,?_⟩;refine Mixed.qD4 rfl (by kernel_rfl) (.bool false) (fun w e=>by clear e;go_simp;try rfl) ?_;refine Mixed.qD4 rfl (by kernel_rfl) (.agg #[.string s,.slice g l n]) (fun w e=>by obtain ⟨r,-⟩:=e;have ah:=C9 r 0;have aj:=C9 r 1;clear r;go_simp;try rfl) ?_;refine Mixed.qD9 rfl (by kernel_rfl) ?_
    go_wp2_with fail
    refine (aH.o _ (Fr.up G ax.o).o.2.1).mono ?_;rintro ae ch ⟨rfl,y⟩;have a4:=J9 (ax.o.trans (y.mono ax.o.size));have a7:=J9 ((y.block _ (Qb.1 bb.o).1).trans bb.o);clear y ax bb;go_wp2;refine ⟨(Fr.up G a4.o).o,?_⟩;refine Mixed.qD4 rfl (by kernel_rfl) (.bool aI) (fun w e=>by clear e;go_simp;try rfl) ?_;refine Mixed.qD4 rfl (by kernel_rfl) (.agg #[.int .i64 C,.bool (smP s h),.slice g l n]) (fun w e=>by clear e;rw [ai.o];go_simp;try rfl) ?_;simp only [Mixed.qEd,Qq,Qy];refine wpList_store_row rfl 60 _ _ rfl p #[.int .i64 C,.bool (smP s h),.slice g l n] rfl rfl _ _ a7.o (by kernel_rfl) (by kernel_rfl) (by kernel_rfl) ?_;have M:=am.o _ _ p G.o a4.o L.o.symm a7.o;obtain ⟨av,E⟩:=N9 (ch.setRow p #[.int .i64 C,.bool (smP s h),.slice g l n]);rw [E] at M;rw [E];clear a4 a7 G L E;go_wp2
    go_meet
    exact ⟨p,rfl,M⟩
 case rest=>
  obtain ⟨p,rfl,aa⟩:=hcut;have cA:Hid (∀ P,Below z w P->∀ v aW,qas P (z+2) v aW->qas P w.heap.size v aW):=fun P _ v aW e=>e.lift (by rw [aD.o];omega)
  obtain ⟨bI,aU,bz,bs⟩:=qiS.cells aa.o.1;obtain ⟨bY,bQ⟩:=Fr.qEc aa.o.2.2.2.2.2.1;have V:qiS wc (z+1) 0 false (.slice none 0 0):=aa.o.2.2.2.2.1;by_cases aP:C=0
  ·subst aP
   have aA:=J9 (br.o (by rw [ak.o];rfl));obtain ⟨a9,cz,ad,ac,ay,ar⟩:=V.put 0 false (.slice none 0 0);obtain ⟨bg,bk,cp,a0⟩:=V.cells;obtain ⟨aC,ap,aw,bL⟩:=ad.cells;have ao:Hid (qgY w (kdF s I) (smF s I) (fun a=>tgF a s I) (.returned (.agg #[.int .i64 0,.bool false,.slice none 0 0])) a9):=⟨0,false,.slice none 0 0,[],rfl,.inl ⟨rfl,rfl⟩,by rw [aD.o];exact aa.o.2.2.2.2.2.2.2.2.1.1.trans (ac.mono (by omega)),aA.o⟩;clear aa V ad ac ay ar;go_wp2;refine bodyPost_ret (v:=.agg #[.int .i64 0,.bool false,.slice none 0 0]) ?_ rfl ao.o;simp [results,results31,go_sem,aC,ap,aw]
  ·have cx:(C == 0)=false:=by simpa using aP
   have bi:=J9 (qkG (some ⟨wc.heap.size,0,none⟩) 1 1 [⟨s,A,cap,I⟩] rfl (by omega) (fun a6 b5=>by obtain rfl:=QA.1 b5;exact ⟨b9,by show I.length<=900;rw [bp.o];exact cf⟩) (wc.alloc (.cells #[.string s,.slice A O cap] 24)) (aa.o.2.2.2.2.2.2.1.below (B0)) (quV wc s A O cap I bp.o aa.o.2.2.2.2.2.2.2.1));have cn:Hid (([⟨s,A,cap,I⟩]:List Ie).all (fun a6=>legB a6.s a6.L)=bc):=by
    show (legB s I&&true)=bc;rw [Bool.and_true];exact bZ.o
   rw [cn.o] at bi;have bG:=Fr.up aa ((Qc _ wc).alloc (Qa _) (.cells #[.string s,.slice A O cap] 24));clear V aU bz bs aa
   go_wp2_with fail
   refine bi.o.mono ?_;rintro ae a9 ⟨rfl,y⟩;have ag:=Fr.up bG y;clear y bG bi bY bQ bI;obtain ⟨bI,aU,bz,bs⟩:=qiS.cells ag.o.1;have V:qiS a9 (z+1) 0 false (.slice none 0 0):=ag.o.2.2.2.2.1;obtain ⟨bg,bk,cp,a0⟩:=V.cells;cases bc
   ·have aA:=J9 (br.o (by rw [ak.o,Qf aP];rfl))
    obtain ⟨a5,bo,ad,ac,ay,ar⟩:=V.put 0 false (.slice none 0 0);obtain ⟨aC,ap,aw,bL⟩:=ad.cells;have ao:Hid (qgY w (kdF s I) (smF s I) (fun a=>tgF a s I) (.returned (.agg #[.int .i64 0,.bool false,.slice none 0 0])) a5):=⟨0,false,.slice none 0 0,[],rfl,.inl ⟨rfl,rfl⟩,by rw [aD.o];exact ag.o.2.2.2.2.2.2.2.2.1.1.trans (ac.mono (by omega)),aA.o⟩;clear ag V ad ac ay ar;go_wp2;refine bodyPost_ret (v:=.agg #[.int .i64 0,.bool false,.slice none 0 0]) ?_ rfl ao.o;simp [results,results31,go_sem,aC,ap,aw]
   ·have aA:=J9 (a2.o (by rw [ak.o,Qf aP];rfl))
    obtain ⟨a5,bo,ad,ac,ay,ar⟩:=V.put C (smP s h) (.slice g l n);obtain ⟨aC,ap,aw,bL⟩:=ad.cells;obtain ⟨b8,bx⟩:=N9 (smP s h);have ao:Hid (qgY w (kdF s I) (smF s I) (fun a=>tgF a s I) (.returned (.agg #[.int .i64 C,.bool (smP s h),.slice g l n])) a5):=⟨C,smP s h,.slice g l n,h,rfl,(ag.o.2.2.2.1.qFk ar (by omega)).lift (by rw [aD.o];omega),by rw [aD.o];exact ag.o.2.2.2.2.2.2.2.2.1.1.trans (ac.mono (by omega)),aA.o⟩;clear ag V ad ac ay ar;rw [bx] at bo ao ap aU;clear bx;go_wp2;refine bodyPost_ret (v:=.agg #[.int .i64 C,.bool b8,.slice g l n]) ?_ rfl ao.o;simp [results,results31,go_sem,aC,ap,aw]
end Go.Proofs.YtjafbmfcedijmaaGreatDoor
namespace Go.Proofs.YtjafbmfcedijmaaGreatDoor
open Tryz
open Go.RowKit Go.Shelf
attribute [local go_sem] Oper.semAt_some
def qtT (k:Int) (q:Bool):Bool:=if k=1\/k=3\/k=4 then q else true
theorem qoK (k:Int) (q:Bool) (v:Value) (w:World) :
  Calls prog 63 #[.agg #[.int .i64 k,.bool q,v]] w fun G J=>G=.returned (.bool (qtT k q))/\Below w.heap.size w J:=by
 obtain ⟨U,ad,aa,V,B,z,ae⟩:=Fr.box (Fr.nil w) #[.int .i64 k,.bool q,v] 60;have e:=J9 z;obtain ⟨M,O,Z⟩:=Fr.cells3 B.o.1;clear z B;by_cases b:k=1
 ·subst b
  go_enter func63,ntmps63
  go_wp2;go_ret;exact ⟨rfl,e.o⟩
 by_cases h:k=3
 ·subst h
  clear b
  go_enter func63,ntmps63
  go_wp2;go_ret;exact ⟨rfl,e.o⟩
 by_cases y:k=4
 ·subst y
  clear b h
  go_enter func63,ntmps63
  go_wp2;go_ret;exact ⟨rfl,e.o⟩
 ·have E:Hid (qtT k q=true):=Qd (by omega)
  have ac:(k == 1)=false:=by simpa using b
  have ab:(k == 3)=false:=by simpa using h
  have K:(k == 4)=false:=by simpa using y
  clear b h y
  go_enter func63,ntmps63
  go_wp2;go_ret;exact ⟨by rw [E.o];rfl,e.o⟩
def qhM (w:World) (T:Int) (e:Ending) (w':World):Prop:=e=.returned (.tuple #[.int .i64 (max T 0),.bool (decide (0<=T))])/\Below w.heap.size w w'
theorem qjl {w w':World} {T:Int} (h:T=-1) (y:Below w.heap.size w w'):qhM w T (.returned (.tuple #[.int .i64 0,.bool false])) w':=by
 subst h;exact ⟨rfl,y⟩
theorem qnv {w w':World} {T t:Int} (y:T=t) (h:0<=t) (z:Below w.heap.size w w'):qhM w T (.returned (.tuple #[.int .i64 t,.bool true])) w':=by
 subst y;exact ⟨by rw [Qn h,Int.max_eq_left h],z⟩
theorem qtm {p:Tr->Bool} {C:List Tr} {j:Nat} (E:j<C.length) (h:(C.take j).find? p=none):(p C[j]=true->C.find? p=some C[j])/\(p C[j]=false->(C.take (j+1)).find? p=none):=by
 constructor
 ·intro e
  have y:C=C.take j++C[j] :: C.drop (j+1):=by rw [List.getElem_cons_drop,Zy]
  have z:C.find? p=((C.take j)++C[j] :: C.drop (j+1)).find? p:=by rw [<- y]
  rw [z,List.find?_append,h,List.find?_cons,e];rfl
 ·intro e
  rw [Qx E,List.find?_append,h,List.find?_cons,e];rfl
theorem qfI (k:Int) (q:Bool) (C:List Tr) (z:Nat) (Z:C.length=z) (a5:z<=1000) (ac:∀ t∈C,t.1=6->0<=t.2.2/\t.2.2<=65535) (hrel:∀ t∈C,t.1=10->-128<=t.2.2/\t.2.2<=127) (ad:Option Addr) (au:Nat) (a:Int) (w:World) (H:qaj w ad C) :
  Calls prog 32 #[.agg #[.int .i64 k,.bool q,.slice ad z au],.int .i64 a] w (qhM w (tgP k a C)):=by
 obtain ⟨aM,aI,a8,aW,R,ab,bb⟩:=Fr.box (Fr.nil w) #[.int .i64 k,.bool q,.slice ad z au] 60;have i:=J9 ab;have J:=J9 R.o.1;obtain ⟨aq,aj,am⟩:=Fr.cells3 R.o.1;have g:=J9 (qfl a aI);by_cases O:k=1\/k=2
 ·by_cases B:adB a=true
  ·have ag:=qcx.1 B
   have y:Hid (tgP k a C=tgL a C):=Qk ⟨O,ag⟩;rw [B] at g;have aC:=J9 H;have ap:=J9 Z;have az:=J9 ac;have HR:=J9 hrel;have ay:=J9 ag;clear H Z ac hrel B ag ab R;rcases O with rfl | rfl
   all_goals
    go_enter func32,ntmps32
    go_wp2_with fail
    refine g.o.mono ?_;rintro X aH ⟨rfl,E⟩;have af:=J9 (i.o.trans (E.mono i.o.size));obtain ⟨a3,a6,aV⟩:=Fr.cells3 ((E.block _ (Qb.1 J.o).1).trans J.o);clear g E aq aj am i J;go_wp2
    go_loopw [24] (fun ah wr=>∃ e:Nat,e<=z/\ah=.int .i64 e/\Hid ((C.take e).find? (fun t=>kdT 6 t||kdT 10 t)=none)/\Hid (Below w.heap.size w wr)) (fun ah _=>z - (intOf ah).toNat)
    case atStart=>exact ⟨0,Qs _,rfl,rfl,af.o⟩
    case round=>
     obtain ⟨e,a4,rfl,U,aa⟩:=hrel;by_cases a0:e<z
     ·have V:e<C.length:=by have:=ap.o;omega
      obtain ⟨aX,aZ,rfl,a7,aB,aE,aD⟩:=(aC.o.below aa.o).at_ V;have h:=J9 (qtm V U.o);have K:=J9 (az.o _ (QB V));have G:=J9 (HR.o _ (QB V));obtain ⟨t,av⟩:=N9 (C[e]);rw [av] at aB aE aD h K G;obtain ⟨a2,ar,aT,aK,an,ao,aR⟩:=Fr.box (Fr.nil wr) #[.int .i64 t.1,.int .i64 t.2.1,.int .i64 t.2.2] 57;have ae:=J9 (aa.o.trans (ao.mono aa.o.size));obtain ⟨aY,a9,aL⟩:=Fr.cells3 an.o.1;clear ao an av U;by_cases b:t.1=6
      ·have M:=J9 (h.o.1 (by unfold kdT;simp [b]))
       have aA:(t.1 == 6)=true:=(by simpa using b);have F:Hid (qhM w (tgP _ a C) (.returned (.tuple #[.int .i64 t.2.2,.bool true])) ar):=qnv (by rw [y.o];unfold tgL;rw [M.o];exact Qk b) (K.o b).1 ae.o;clear M b h K G;go_wp2
       go_ret2
       exact F.o
      ·have aA:(t.1 == 6)=false:=by simpa using b
       by_cases j:t.1=10
       ·have M:=J9 (h.o.1 (by unfold kdT;simp [j]))
        have aG:(t.1 == 10)=true:=(by simpa using j);have ax:=G.o j;have aF:=ay.o;have F:Hid (qhM w (tgP _ a C) (.returned (.tuple #[.int .i64 ((a+2+t.2.2) % 65536),.bool true])) ar):=qnv (by rw [y.o];unfold tgL;rw [M.o];exact Qd b) (by omega) ae.o;have aU:IntKind.u16.wrap (a+2+t.2.2)=(a+2+t.2.2) % 65536:=(by rw [IntKind.wrap_u16]);have aP:IntKind.i64.wrap (a+2)=a+2:=(by rw [IntKind.wrap_i64];omega);have aJ:IntKind.i64.wrap (a+2+t.2.2)=a+2+t.2.2:=(by rw [IntKind.wrap_i64];omega);have aN:IntKind.i64.wrap ((a+2+t.2.2) % 65536)=(a+2+t.2.2) % 65536:=(by rw [IntKind.wrap_i64];omega);clear M b j h K G ax aF;go_wp2
        go_ret2
        exact F.o
       ·have aG:(t.1 == 10)=false:=by simpa using j
        have aw:=J9 (h.o.2 (by unfold kdT;simp [b,j]));clear b j h K G;go_wp2;go_roundw
        case rel=>exact ⟨e+1,by omega,by go_num,aw.o,ae.o⟩
        case measure=>simp [intOf];omega
     ·have X:C.take e=C:=QJ (by have:=ap.o;omega)
      have F:Hid (qhM w (tgP _ a C) (.returned (.tuple #[.int .i64 0,.bool false])) wr):=qjl (by rw [y.o];unfold tgL;rw [<- X,U.o]) aa.o;clear X U;go_wp2
      go_ret2
      exact F.o
  ·have ak:adB a=false:=by simpa using B
   have y:Hid (tgP k a C=-1):=Qd fun ai=>B (qcx.2 ai.2)
   rw [ak] at g;clear H Z ac hrel B ak ab R J;rcases O with rfl | rfl
   all_goals
    go_enter func32,ntmps32
    go_wp2_with fail
    refine g.o.mono ?_;rintro X aH ⟨rfl,E⟩;have af:=J9 (i.o.trans (E.mono i.o.size));clear g E aq aj am i;go_wp2
    go_ret2
    exact qjl y.o af.o
 ·have y:Hid (tgP k a C=-1):=Qd fun ai=>O ai.1
  have aO:(k != 1)=true:=Zn.2 (by omega);have a1:(k != 2)=true:=Zn.2 (by omega);have aS:(k == 1)=false:=Qj.2 (by omega);have aQ:(k == 2)=false:=Qj.2 (by omega);clear H Z ac hrel O ab R J g
  go_enter func32,ntmps32
  go_wp2
  go_ret2
  exact qjl y.o i.o
theorem qpi (k:Int) (q:Bool) (A:Option Addr) (l c:Nat) (w:World):(Instr.field 60 (.agg #[.int .i64 k,.bool q,.slice A l c]) 0).run prog w=.ok (.int .i64 k) w:=by kernel_rfl
theorem qoX (k:Int) (q:Bool) (A:Option Addr) (l c:Nat) (w:World):(Instr.field 60 (.agg #[.int .i64 k,.bool q,.slice A l c]) 1).run prog w=.ok (.bool q) w:=by kernel_rfl
theorem qkZ (s:ByteArray) (M:s.size<=1000) (A:Option Addr) (cap b:Nat) (I:List Tr) (y:I.length=b) (J:b<=900) (w:World) (E:qac w) (H:qaj w A I) :
  Calls prog 10 #[.agg #[.string s,.slice A b cap]] w fun z ac=>z=.returned (.int .i64 (kdF s I))/\Below w.heap.size w ac:=by
 obtain ⟨ag,ab,ai,ah,C,e,am⟩:=Fr.box (Fr.nil w) #[.string s,.slice A b cap] 24;have h:=J9 e;obtain ⟨ad,af⟩:=Fr.qEc C.o.1;have B:=J9 (qcr s M A cap b I y J ab (E.below e) (H.below e));clear H E e C y
 go_enter func10,ntmps10
 go_wp2_with fail
 refine B.o.mono ?_;rintro z aj ⟨G,O,ae,aa,rfl,v,k,q⟩;have V:=J9 (h.o.trans (k.mono h.o.size));have K:=J9 q.kd;obtain ⟨Z,U,rfl,-,-,-⟩:=v.ops;have ak:=qpi G O Z aa.length U;clear B k q v;go_wp2;go_ret;exact ⟨by rw [<- K.o];rfl,V.o⟩
theorem qj2 (s:ByteArray) (M:s.size<=1000) (A:Option Addr) (cap b:Nat) (I:List Tr) (y:I.length=b) (J:b<=900) (w:World) (E:qac w) (H:qaj w A I) :
  Calls prog 12 #[.agg #[.string s,.slice A b cap]] w fun z ac=>z=.returned (.bool (smF s I))/\Below w.heap.size w ac:=by
 obtain ⟨ag,ab,ai,ah,C,e,am⟩:=Fr.box (Fr.nil w) #[.string s,.slice A b cap] 24;have h:=J9 e;obtain ⟨ad,af⟩:=Fr.qEc C.o.1;have B:=J9 (qcr s M A cap b I y J ab (E.below e) (H.below e));clear H E e C y
 go_enter func12,ntmps12
 go_wp2_with fail
 refine B.o.mono ?_;rintro z aj ⟨G,O,ae,aa,rfl,v,k,q⟩;have V:=J9 (h.o.trans (k.mono h.o.size));have K:=J9 q.sm;obtain ⟨Z,U,rfl,-,-,-⟩:=v.ops;have ak:=qoX G O Z aa.length U;clear B k q v;go_wp2;go_ret;exact ⟨by rw [<- K.o];rfl,V.o⟩
noncomputable def kdI (kind:Int) (s:ByteArray) (I:List Tr):Int:=if kind=1 then kdF s I else 0
noncomputable def smI (kind:Int) (s:ByteArray) (I:List Tr):Bool:=if kind=1 then smF s I else false
noncomputable def tgI (kind:Int) (s:ByteArray) (I:List Tr) (a:Int):Int:=if kind=1 then tgF a s I else -1
theorem qgC (kind:Int) (va:Value) (al:Bool) (s:ByteArray) (aD:s.size<=1000) (A:Option Addr) (cap k:Nat) (I:List Tr) (ab:I.length=k) (aA:k<=900) (w:World) (ai:qac w) (H:qaj w A I) :
  Calls prog 46 #[.agg #[.int .i64 kind,va,.string s,.slice A k cap,.bool al]] w (qgY w (kdI kind s I) (smI kind s I) (tgI kind s I)):=by
 obtain ⟨aq,af⟩:=N9 (w.heap.size);have ae:=J9 af;obtain ⟨n,aX,aI,aB,U,aj,ay⟩:=Fr.box (Fr.add (Fr.add (Fr.start w aq af) (qaW A I) H) qmt ai) #[.int .i64 kind,va,.string s,.slice A k cap,.bool al] 50;obtain ⟨au,ah,ar,aF,a,ao,aQ⟩:=Fr.box U #[.int .i64 0,.bool false,.slice none 0 0] 60;obtain rfl:n=aq:=by omega
 obtain rfl:au=n+1:=by omega
 have e:qiS ah (n+1) 0 false (.slice none 0 0):=a.o.1;have R:qar ah n kind va s (.slice A k cap) al:=a.o.2.1;obtain ⟨az,aC,aH,aG,ax,aJ⟩:=R.cells;by_cases h:kind=1
 ·subst h
  have ap:=J9 (qcr s aD A cap k I ab aA ah a.o.2.2.1 a.o.2.2.2.1);clear H ai aj ao U e R ab
  go_enter func46,ntmps46
  go_wp2_with fail
  refine ap.o.mono ?_;rintro aW aO ⟨C,E,v,q,rfl,aa,ak,an⟩;obtain ⟨J,G,rfl,-,-,-⟩:=aa.ops;have O:=Fr.up a ak;have e:qiS aO (n+1) 0 false (.slice none 0 0):=O.o.1;obtain ⟨Z,aS,z,y,V,K⟩:=e.put C E (.slice J q.length G);obtain ⟨aM,av,aw,aP⟩:=e.cells;obtain ⟨ac,ad,ag,aK⟩:=z.cells;have M:Hid (qgY w (kdI 1 s I) (smI 1 s I) (tgI 1 s I) (.returned (.agg #[.int .i64 C,.bool E,.slice J q.length G])) Z):=
   ⟨C,E,.slice J q.length G,q,rfl,(aa.qFk K (by omega)).lift (by rw [ae.o];omega),by rw [ae.o];exact O.o.2.2.2.2.1.1.trans (y.mono (by omega)),an⟩
  clear ap aa ak an a O e z y V K az aC aH aG ax aJ af aI ar aB aF ay aQ;go_wp2;refine bodyPost_ret (v:=.agg #[.int .i64 C,.bool E,.slice J q.length G]) ?_ rfl M.o;simp [results,results46,go_sem,ac,ad,ag]
 ·have aU:(kind != 1)=true:=Zn.2 h
  have aT:(kind == 1)=false:=Qj.2 h;obtain ⟨Z,aS,z,y,V,K⟩:=e.put 0 false (.slice none 0 0);obtain ⟨aM,av,aw,aP⟩:=e.cells;obtain ⟨ac,ad,ag,aK⟩:=z.cells;have am:EffIs 0 false [] (kdI kind s I) (smI kind s I) (tgI kind s I):=by
   have aR:=qvk;have aL:kdI kind s I=0:=Qd h;have aN:smI kind s I=false:=Qd h;have aE:tgI kind s I=fun _=>-1:=funext fun aV=>Qd h
   rw [aL,aN,aE];exact aR
  have M:Hid (qgY w (kdI kind s I) (smI kind s I) (tgI kind s I) (.returned (.agg #[.int .i64 0,.bool false,.slice none 0 0])) Z):=
   ⟨0,false,.slice none 0 0,[],rfl,.inl ⟨rfl,rfl⟩,by rw [ae.o];exact a.o.2.2.2.2.1.1.trans (y.mono (by omega)),am⟩
  clear H ai aj ao U a e R ab h am z y V K
  go_enter func46,ntmps46
  go_wp2;refine bodyPost_ret (v:=.agg #[.int .i64 0,.bool false,.slice none 0 0]) ?_ rfl M.o;simp [results,results46,go_sem,ac,ad,ag]
def qr4 (w:World) (b:Nat) (t:Tr):Prop:=w.heap[b]?=some (.cells #[.int .i64 t.1,.int .i64 t.2.1,.int .i64 t.2.2] 57 (0,0))
section
variable {w w':World} {b:Nat} {t:Tr}
theorem qr4.lt (h:qr4 w b t):b<w.heap.size:=(Qb.1 h).1
theorem qr4.all (h:qr4 w b t) (y:Below w.heap.size w w'):qr4 w' b t:=(y.block b h.lt).trans h
theorem qr4.cells (h:qr4 w b t):w.cell? ⟨b,0,none⟩=some (.int .i64 t.1)/\w.cell? ⟨b,1,none⟩=some (.int .i64 t.2.1)/\w.cell? ⟨b,2,none⟩=some (.int .i64 t.2.2)/\∀ i,w.frozen? ⟨b,i,none⟩=false:=
 ⟨C9 h 0,C9 h 1,C9 h 2,fun i=>Qr h i⟩
theorem qr4.put (E:qr4 w b t) (h:Tr) :
  ∃ y,((w.setCell ⟨b,0,none⟩ (.int .i64 h.1)).setCell ⟨b,1,none⟩ (.int .i64 h.2.1)).setCell ⟨b,2,none⟩ (.int .i64 h.2.2)=y/\
   qr4 y b h/\Below b w y/\y.heap.size=w.heap.size/\∀ k,k≠b->y.heap[k]?=w.heap[k]?:=by
 refine ⟨_,rfl,?_,?_,by simp,fun k z=>?_⟩
 ·have J:=heap_setCell_same w b 0 _ _ (.int .i64 h.1) E
  have G:=heap_setCell_same _ b 1 _ _ (.int .i64 h.2.1) J;exact heap_setCell_same _ b 2 _ _ (.int .i64 h.2.2) G
 ·exact (((Qc b w).setCell (p:=⟨b,0,none⟩) (Qa _) _).setCell (p:=⟨b,1,none⟩) (Qa _) _).setCell (p:=⟨b,2,none⟩) (Qa _) _
 ·exact (heap_setCell_other _ ⟨b,2,none⟩ k _ z).trans ((heap_setCell_other _ ⟨b,1,none⟩ k _ z).trans (heap_setCell_other _ ⟨b,0,none⟩ k _ z))
end
def qnw (w:World) (o:Option Tr) (e:Ending) (w':World):Prop:=e=.returned (.tuple #[.agg #[.int .i64 (o.getD tr0).1,.int .i64 (o.getD tr0).2.1,.int .i64 (o.getD tr0).2.2],.bool o.isSome])/\Below w.heap.size w w'
theorem qrD {s:ByteArray} {I:List Tr} (h:¬qfi s I (canL (opc s) I)) (k:Int):qem s I k=none:=by unfold qem;rw [Qd h]
theorem qnZ {s:ByteArray} {I:List Tr} (h:qfi s I (canL (opc s) I)) (k:Int):qem s I k=(canL (opc s) I).find? (kdT k):=by unfold qem;rw [Qk h];rfl
theorem qpG {p:Tr->Bool} {C:List Tr} {j:Nat} (E:j<C.length) (h:(C.take j).find? p=none):(p C[j]=true->C.find? p=some C[j])/\(p C[j]=false->(C.take (j+1)).find? p=none):=by
 constructor
 ·intro e
  have y:C=C.take j++C[j] :: C.drop (j+1):=by rw [List.getElem_cons_drop,Zy]
  have z:C.find? p=((C.take j)++C[j] :: C.drop (j+1)).find? p:=by rw [<- y]
  rw [z,List.find?_append,h,List.find?_cons,e];rfl
 ·intro e
  rw [Qx E,List.find?_append,h,List.find?_cons,e];rfl
theorem qo3 (s:ByteArray) (A:Option Addr) (l c:Nat) (w:World):(Instr.field 24 (.agg #[.string s,.slice A l c]) 1).run prog w=.ok (.slice A l c) w:=by kernel_rfl
theorem qju (k:Int) (s:ByteArray) (aZ:s.size<=1000) (A:Option Addr) (cap G:Nat) (I:List Tr) (am:I.length=G) (bc:G<=900) (w:World) (H:qaj w A I) :
  Calls prog 33 #[.agg #[.string s,.slice A G cap],.int .i64 k] w (qnw w (qem s I k)):=by
 obtain ⟨ay,ap⟩:=N9 (w.heap.size);have an:=J9 ap;obtain ⟨ai,bp,bf,aY,aE,bd,a9⟩:=Fr.box (Fr.add (Fr.start w ay ap) (qaW A I) H) #[.string s,.slice A G cap] 24;obtain ⟨aC,bj,aP,aT,ah,bg,bk⟩:=Fr.box aE #[.int .i64 0,.int .i64 0,.int .i64 0] 57;obtain rfl:ai=ay:=by omega
 obtain rfl:aC=ai+1:=by omega
 have al:=qda s aZ A cap G I am bc bj ah.o.2.2.1;have af:=J9 (fun aW Z=>qjc s A cap I (by omega) aW Z);rw [am] at af;have aR:=qdR (opc s) I;have o:=J9 (fun Z=>qrD (s:=s) (I:=I) Z k);have E:=J9 (fun Z=>qnZ (s:=s) (I:=I) Z k);obtain ⟨t,aK⟩:=N9 (canL (opc s) I);rw [aK] at al af aR o E;obtain ⟨V,aJ⟩:=N9 (t.length);have bo:V<=1000:=by omega
 have aq:=J9 aJ;obtain ⟨au,aj⟩:=Fr.qEc ah.o.2.1;obtain ⟨ae,aB⟩:=N9 (qem s I k);rw [aB] at o E |-;clear H bd bg aE aK am aJ aB
 go_enter func33,ntmps33
 go_wp2_with fail
 refine al.mono ?_;rintro ao bt ⟨a5,bi,aQ,a6,a4,aS,a0,a7,a8,rfl,Y,ak⟩;have aD:=Fr.up ah Y;simp only [enV];clear Y al au aj ah aY aT a9 bk ap bf aP
 go_upto_region 2 with fail
 obtain ⟨bl,a2,aA,aG,ag,bh,aV⟩:=Fr.box aD #[.int .i64 a5,.int .u8 bi,.string (sB aQ),.slice a6 a4 aS,.string (sB a0),.bool a7] 66;rw [aG,aA];have aN:=af.o a2 ag.o.2.2.2.1;obtain ⟨au,aj⟩:=Fr.qEc ag.o.2.2.1;clear aG aD bh aV af
 go_wp2_with fail
 refine aN.mono ?_;rintro ao bb ⟨v,rfl,az,Y⟩;obtain ⟨av,be,rfl,aH,-,-⟩:=az.ops;rw [aq.o];have n:=Fr.add (Fr.up ag Y) (qaW av t) aH;have br:=qo3 s av V be;clear aN Y az aH ag au aj aA;go_wp2
 go_loopw [9] (fun ar wr=>∃ h:Nat,h<=V/\ar=.int .i64 h/\Hid ((t.take h).find? (kdT k)=none)/\wr=bb) (fun ar _=>V - (intOf ar).toNat)
 case atStart=>exact ⟨0,Qs _,rfl,rfl,rfl⟩
 case round=>
  obtain ⟨h,bq,rfl,U,rfl⟩:=hrel;have e:qr4 wr (ai+1) tr0:=n.o.2.2.1;by_cases bn:h<V
  ·rcases ak with ⟨rfl,g⟩ | ⟨aI,g⟩
   ·have aw:h<t.length:=by have:=aq.o;omega
    obtain ⟨aC,bm,rfl,bs,aU,a3,aX⟩:=qaj.at_ n.o.1 aw;have M:=J9 (qpG aw U.o);obtain ⟨c,aO⟩:=N9 (t[h]);rw [aO] at aU a3 aX M;have i:=E.o g;clear aO U;by_cases F:c.1=k
    ·have ax:(c.1 == k)=true:=by simpa using F
     have aL:=M.o.1 (by unfold kdT;simp [F]);obtain ⟨K,ac,m,j,R,O⟩:=e.put c;obtain ⟨ad,aa,ab,aF⟩:=e.cells;obtain ⟨C,y,z,aM⟩:=m.cells;have J:Hid (qnw w ae (.returned (.tuple #[.agg #[.int .i64 c.1,.int .i64 c.2.1,.int .i64 c.2.2],.bool true])) K):=by
      rw [i,aL];exact ⟨rfl,by rw [an.o];exact n.o.2.2.2.2.2.1.1.trans (j.mono (by omega))⟩
     clear n e m j R O aL F M i g o E;go_wp2;refine bodyPost_ret (v:=.tuple #[.agg #[.int .i64 c.1,.int .i64 c.2.1,.int .i64 c.2.2],.bool true]) ?_ rfl J.o;simp [results,results33,go_sem,C,y,z]
    ·have ax:(c.1 == k)=false:=by simpa using F
     have a1:=J9 (M.o.2 (by unfold kdT;simp [F]));clear F M i e;go_wp2;go_roundw
     case rel=>exact ⟨h+1,by omega,by go_num,a1.o,by first | rfl | trivial⟩
     case measure=>simp [intOf];omega
   ·have i:=o.o g
    have ax:(a8 == 0)=false:=Qj.2 aI;obtain ⟨K,ac,m,j,R,O⟩:=e.put tr0;obtain ⟨ad,aa,ab,aF⟩:=e.cells;obtain ⟨C,y,z,aM⟩:=m.cells;have J:Hid (qnw w ae (.returned (.tuple #[.agg #[.int .i64 0,.int .i64 0,.int .i64 0],.bool false])) K):=by
     rw [i];exact ⟨rfl,by rw [an.o];exact n.o.2.2.2.2.2.1.1.trans (j.mono (by omega))⟩
    simp only [tr0] at ac ad aa ab C y z;clear n e m j R O i g o E U aI;go_wp2;refine bodyPost_ret (v:=.tuple #[.agg #[.int .i64 0,.int .i64 0,.int .i64 0],.bool false]) ?_ rfl J.o;simp [results,results33,go_sem,C,y,z]
  ·have i:ae=none:=by
    rcases ak with ⟨-,g⟩ | ⟨-,g⟩
    ·rw [E.o g]
     have ao:t.take h=t:=QJ (by have:=aq.o;omega);rw [<- ao];exact U.o
    ·exact o.o g
   obtain ⟨K,ac,m,j,R,O⟩:=e.put tr0;obtain ⟨ad,aa,ab,aF⟩:=e.cells;obtain ⟨C,y,z,aM⟩:=m.cells;have J:Hid (qnw w ae (.returned (.tuple #[.agg #[.int .i64 0,.int .i64 0,.int .i64 0],.bool false])) K):=by
    rw [i];exact ⟨rfl,by rw [an.o];exact n.o.2.2.2.2.2.1.1.trans (j.mono (by omega))⟩
   simp only [tr0] at ac ad aa ab C y z;clear n e m j R O i o E U ak;go_wp2;refine bodyPost_ret (v:=.tuple #[.agg #[.int .i64 0,.int .i64 0,.int .i64 0],.bool false]) ?_ rfl J.o;simp [results,results33,go_sem,C,y,z]
theorem qzp {s:ByteArray} {I:List Tr} (h:qfi s I (canL (opc s) I)):kdF s I=if s=qdk\/s=qhv then 1 else if s=qfQ then (if (qem s I 6).isSome then 1 else 4) else if s=qjS\/s=qiZ then 2 else if s=qiu\/s=qia\/s=qhO then 3 else if s=qgk then 4 else 0:=by
 unfold kdF;rw [Qd (not_not_intro h)]
theorem qes (s:ByteArray) (aS:s.size<=1000) (A:Option Addr) (cap aF:Nat) (I:List Tr) (aN:I.length=aF) (aU:aF<=900) (w:World) (H:qaj w A I) :
  Calls prog 11 #[.agg #[.string s,.slice A aF cap]] w fun ah aB=>ah=.returned (.int .i64 (kdF s I))/\Below w.heap.size w aB:=by
 obtain ⟨a3,a2,a6,an,E,a0,ap⟩:=Fr.box (Fr.add (Fr.start w w.heap.size rfl) (qaW A I) H) #[.string s,.slice A aF cap] 24;have y:=J9 (qda s aS A cap aF I aN aU a2 E.o.2.1);have aY:=J9 (fun aB aD=>qju 6 s aS A cap aF I aN aU aB aD);have ak:=J9 (fun aD=>qzp (s:=s) (I:=I) aD);have ai:Hid (¬qfi s I (canL (opc s) I)->kdF s I=0):=fun aD=>Qk aD
 obtain ⟨J,G⟩:=Fr.qEc E.o.1;have z:Hid (∀ aB (aP:Int),Below w.heap.size w aB->kdF s I=aP->(Ending.returned (.int .i64 aP)=.returned (.int .i64 (kdF s I))/\Below w.heap.size w aB)):=fun aB aP aD ah=>⟨by rw [ah],aD⟩
 obtain ⟨ae,aV⟩:=N9 (kdF s I);obtain ⟨aW,aT⟩:=N9 (qfi s I (canL (opc s) I));rw [aV] at ak ai z |-;unfold qzQ at y;rw [aT] at ak ai y;clear H aN a0 aV aT;by_cases aj:s=qdk
 ·subst aj
  have av:(qdk.toList == [74,82])=true:=by rw [Qe];rfl
  go_enter func11,ntmps11
  go_wp2_with fail
  refine y.o.mono ?_;rintro ah ax ⟨ab,ag,M,ac,aa,U,Z,ad,t,rfl,k,O⟩;have m:=Fr.up E k;simp only [enV];clear k y J G E an ap
  go_upto_region 2 with fail
  obtain ⟨au,ao,K,o,g,af,V⟩:=Fr.box m #[.int .i64 ab,.int .u8 ag,.string (sB M),.slice ac aa U,.string (sB Z),.bool ad] 66;rw [o,K];obtain ⟨J,G⟩:=Fr.qEc g.o.2.1;clear o m af V;rcases O with ⟨rfl,c⟩ | ⟨h,c⟩
  ·have e:Hid (ae=1):=by
    show ae=1;rw [ak.o c,Qk (by simp)]
   clear c;go_wp2;go_ret;exact z.o _ _ g.o.2.2.2.1.1 e.o
  ·have ar:(t == 0)=false:=Qj.2 h
   have aw:(t != 0)=true:=Zn.2 h;have e:=J9 (ai.o c);clear h c;go_wp2;go_ret;exact z.o _ _ g.o.2.2.2.1.1 e.o
 by_cases al:s=qhv
 ·subst al
  have av:(qhv.toList == [74,82])=false:=by rw [Qe];rfl
  have az:(qhv.toList == [68,74,78,90])=true:=by rw [Qe];rfl
  clear aj
  go_enter func11,ntmps11
  go_wp2_with fail
  refine y.o.mono ?_;rintro ah ax ⟨ab,ag,M,ac,aa,U,Z,ad,t,rfl,k,O⟩;have m:=Fr.up E k;simp only [enV];clear k y J G E an ap
  go_upto_region 2 with fail
  obtain ⟨au,ao,K,o,g,af,V⟩:=Fr.box m #[.int .i64 ab,.int .u8 ag,.string (sB M),.slice ac aa U,.string (sB Z),.bool ad] 66;rw [o,K];obtain ⟨J,G⟩:=Fr.qEc g.o.2.1;clear o m af V;rcases O with ⟨rfl,c⟩ | ⟨h,c⟩
  ·have e:Hid (ae=1):=by
    show ae=1;rw [ak.o c,Qk (by simp)]
   clear c;go_wp2;go_ret;exact z.o _ _ g.o.2.2.2.1.1 e.o
  ·have ar:(t == 0)=false:=Qj.2 h
   have aw:(t != 0)=true:=Zn.2 h;have e:=J9 (ai.o c);clear h c;go_wp2;go_ret;exact z.o _ _ g.o.2.2.2.1.1 e.o
 by_cases am:s=qjS
 ·subst am
  have av:(qjS.toList == [74,82])=false:=by rw [Qe];rfl
  have az:(qjS.toList == [68,74,78,90])=false:=by rw [Qe];rfl
  have aA:(qjS.toList == [74,80])=false:=by rw [Qe];rfl
  have aG:(qjS.toList == [67,65,76,76])=true:=by rw [Qe];rfl
  clear aj al
  go_enter func11,ntmps11
  go_wp2_with fail
  refine y.o.mono ?_;rintro ah ax ⟨ab,ag,M,ac,aa,U,Z,ad,t,rfl,k,O⟩;have m:=Fr.up E k;simp only [enV];clear k y J G E an ap
  go_upto_region 2 with fail
  obtain ⟨au,ao,K,o,g,af,V⟩:=Fr.box m #[.int .i64 ab,.int .u8 ag,.string (sB M),.slice ac aa U,.string (sB Z),.bool ad] 66;rw [o,K];obtain ⟨J,G⟩:=Fr.qEc g.o.2.1;clear o m af V;rcases O with ⟨rfl,c⟩ | ⟨h,c⟩
  ·have e:Hid (ae=2):=by
    show ae=2;rw [ak.o c,Qd (by decide),Qd (by decide),Qk (by simp)]
   clear c;go_wp2;go_ret;exact z.o _ _ g.o.2.2.2.1.1 e.o
  ·have ar:(t == 0)=false:=Qj.2 h
   have aw:(t != 0)=true:=Zn.2 h;have e:=J9 (ai.o c);clear h c;go_wp2;go_ret;exact z.o _ _ g.o.2.2.2.1.1 e.o
 by_cases aq:s=qiZ
 ·subst aq
  have av:(qiZ.toList == [74,82])=false:=by rw [Qe];rfl
  have az:(qiZ.toList == [68,74,78,90])=false:=by rw [Qe];rfl
  have aA:(qiZ.toList == [74,80])=false:=by rw [Qe];rfl
  have aG:(qiZ.toList == [67,65,76,76])=false:=by rw [Qe];rfl
  have aH:(qiZ.toList == [82,83,84])=true:=by rw [Qe];rfl
  clear aj al am
  go_enter func11,ntmps11
  go_wp2_with fail
  refine y.o.mono ?_;rintro ah ax ⟨ab,ag,M,ac,aa,U,Z,ad,t,rfl,k,O⟩;have m:=Fr.up E k;simp only [enV];clear k y J G E an ap
  go_upto_region 2 with fail
  obtain ⟨au,ao,K,o,g,af,V⟩:=Fr.box m #[.int .i64 ab,.int .u8 ag,.string (sB M),.slice ac aa U,.string (sB Z),.bool ad] 66;rw [o,K];obtain ⟨J,G⟩:=Fr.qEc g.o.2.1;clear o m af V;rcases O with ⟨rfl,c⟩ | ⟨h,c⟩
  ·have e:Hid (ae=2):=by
    show ae=2;rw [ak.o c,Qd (by decide),Qd (by decide),Qk (by simp)]
   clear c;go_wp2;go_ret;exact z.o _ _ g.o.2.2.2.1.1 e.o
  ·have ar:(t == 0)=false:=Qj.2 h
   have aw:(t != 0)=true:=Zn.2 h;have e:=J9 (ai.o c);clear h c;go_wp2;go_ret;exact z.o _ _ g.o.2.2.2.1.1 e.o
 by_cases ay:s=qiu
 ·subst ay
  have av:(qiu.toList == [74,82])=false:=by rw [Qe];rfl
  have az:(qiu.toList == [68,74,78,90])=false:=by rw [Qe];rfl
  have aA:(qiu.toList == [74,80])=false:=by rw [Qe];rfl
  have aG:(qiu.toList == [67,65,76,76])=false:=by rw [Qe];rfl
  have aH:(qiu.toList == [82,83,84])=false:=by rw [Qe];rfl
  have aK:(qiu.toList == [82,69,84])=true:=by rw [Qe];rfl
  clear aj al am aq
  go_enter func11,ntmps11
  go_wp2_with fail
  refine y.o.mono ?_;rintro ah ax ⟨ab,ag,M,ac,aa,U,Z,ad,t,rfl,k,O⟩;have m:=Fr.up E k;simp only [enV];clear k y J G E an ap
  go_upto_region 2 with fail
  obtain ⟨au,ao,K,o,g,af,V⟩:=Fr.box m #[.int .i64 ab,.int .u8 ag,.string (sB M),.slice ac aa U,.string (sB Z),.bool ad] 66;rw [o,K];obtain ⟨J,G⟩:=Fr.qEc g.o.2.1;clear o m af V;rcases O with ⟨rfl,c⟩ | ⟨h,c⟩
  ·have e:Hid (ae=3):=by
    show ae=3;rw [ak.o c,Qd (by decide),Qd (by decide),Qd (by decide),Qk (by simp)]
   clear c;go_wp2;go_ret;exact z.o _ _ g.o.2.2.2.1.1 e.o
  ·have ar:(t == 0)=false:=Qj.2 h
   have aw:(t != 0)=true:=Zn.2 h;have e:=J9 (ai.o c);clear h c;go_wp2;go_ret;exact z.o _ _ g.o.2.2.2.1.1 e.o
 by_cases aC:s=qia
 ·subst aC
  have av:(qia.toList == [74,82])=false:=by rw [Qe];rfl
  have az:(qia.toList == [68,74,78,90])=false:=by rw [Qe];rfl
  have aA:(qia.toList == [74,80])=false:=by rw [Qe];rfl
  have aG:(qia.toList == [67,65,76,76])=false:=by rw [Qe];rfl
  have aH:(qia.toList == [82,83,84])=false:=by rw [Qe];rfl
  have aK:(qia.toList == [82,69,84])=false:=by rw [Qe];rfl
  have aM:(qia.toList == [82,69,84,73])=true:=by rw [Qe];rfl
  clear aj al am aq ay
  go_enter func11,ntmps11
  go_wp2_with fail
  refine y.o.mono ?_;rintro ah ax ⟨ab,ag,M,ac,aa,U,Z,ad,t,rfl,k,O⟩;have m:=Fr.up E k;simp only [enV];clear k y J G E an ap
  go_upto_region 2 with fail
  obtain ⟨au,ao,K,o,g,af,V⟩:=Fr.box m #[.int .i64 ab,.int .u8 ag,.string (sB M),.slice ac aa U,.string (sB Z),.bool ad] 66;rw [o,K];obtain ⟨J,G⟩:=Fr.qEc g.o.2.1;clear o m af V;rcases O with ⟨rfl,c⟩ | ⟨h,c⟩
  ·have e:Hid (ae=3):=by
    show ae=3;rw [ak.o c,Qd (by decide),Qd (by decide),Qd (by decide),Qk (by simp)]
   clear c;go_wp2;go_ret;exact z.o _ _ g.o.2.2.2.1.1 e.o
  ·have ar:(t == 0)=false:=Qj.2 h
   have aw:(t != 0)=true:=Zn.2 h;have e:=J9 (ai.o c);clear h c;go_wp2;go_ret;exact z.o _ _ g.o.2.2.2.1.1 e.o
 by_cases aE:s=qhO
 ·subst aE
  have av:(qhO.toList == [74,82])=false:=by rw [Qe];rfl
  have az:(qhO.toList == [68,74,78,90])=false:=by rw [Qe];rfl
  have aA:(qhO.toList == [74,80])=false:=by rw [Qe];rfl
  have aG:(qhO.toList == [67,65,76,76])=false:=by rw [Qe];rfl
  have aH:(qhO.toList == [82,83,84])=false:=by rw [Qe];rfl
  have aK:(qhO.toList == [82,69,84])=false:=by rw [Qe];rfl
  have aM:(qhO.toList == [82,69,84,73])=false:=by rw [Qe];rfl
  have aR:(qhO.toList == [82,69,84,78])=true:=by rw [Qe];rfl
  clear aj al am aq ay aC
  go_enter func11,ntmps11
  go_wp2_with fail
  refine y.o.mono ?_;rintro ah ax ⟨ab,ag,M,ac,aa,U,Z,ad,t,rfl,k,O⟩;have m:=Fr.up E k;simp only [enV];clear k y J G E an ap
  go_upto_region 2 with fail
  obtain ⟨au,ao,K,o,g,af,V⟩:=Fr.box m #[.int .i64 ab,.int .u8 ag,.string (sB M),.slice ac aa U,.string (sB Z),.bool ad] 66;rw [o,K];obtain ⟨J,G⟩:=Fr.qEc g.o.2.1;clear o m af V;rcases O with ⟨rfl,c⟩ | ⟨h,c⟩
  ·have e:Hid (ae=3):=by
    show ae=3;rw [ak.o c,Qd (by decide),Qd (by decide),Qd (by decide),Qk (by simp)]
   clear c;go_wp2;go_ret;exact z.o _ _ g.o.2.2.2.1.1 e.o
  ·have ar:(t == 0)=false:=Qj.2 h
   have aw:(t != 0)=true:=Zn.2 h;have e:=J9 (ai.o c);clear h c;go_wp2;go_ret;exact z.o _ _ g.o.2.2.2.1.1 e.o
 by_cases aI:s=qgk
 ·subst aI
  have av:(qgk.toList == [74,82])=false:=by rw [Qe];rfl
  have az:(qgk.toList == [68,74,78,90])=false:=by rw [Qe];rfl
  have aA:(qgk.toList == [74,80])=false:=by rw [Qe];rfl
  have aG:(qgk.toList == [67,65,76,76])=false:=by rw [Qe];rfl
  have aH:(qgk.toList == [82,83,84])=false:=by rw [Qe];rfl
  have aK:(qgk.toList == [82,69,84])=false:=by rw [Qe];rfl
  have aM:(qgk.toList == [82,69,84,73])=false:=by rw [Qe];rfl
  have aR:(qgk.toList == [82,69,84,78])=false:=by rw [Qe];rfl
  have a1:(qgk.toList == [72,65,76,84])=true:=by rw [Qe];rfl
  clear aj al am aq ay aC aE
  go_enter func11,ntmps11
  go_wp2_with fail
  refine y.o.mono ?_;rintro ah ax ⟨ab,ag,M,ac,aa,U,Z,ad,t,rfl,k,O⟩;have m:=Fr.up E k;simp only [enV];clear k y J G E an ap
  go_upto_region 2 with fail
  obtain ⟨au,ao,K,o,g,af,V⟩:=Fr.box m #[.int .i64 ab,.int .u8 ag,.string (sB M),.slice ac aa U,.string (sB Z),.bool ad] 66;rw [o,K];obtain ⟨J,G⟩:=Fr.qEc g.o.2.1;clear o m af V;rcases O with ⟨rfl,c⟩ | ⟨h,c⟩
  ·have e:Hid (ae=4):=by
    show ae=4;rw [ak.o c,Qd (by decide),Qd (by decide),Qd (by decide),Qd (by decide),Qk (by simp)]
   clear c;go_wp2;go_ret;exact z.o _ _ g.o.2.2.2.1.1 e.o
  ·have ar:(t == 0)=false:=Qj.2 h
   have aw:(t != 0)=true:=Zn.2 h;have e:=J9 (ai.o c);clear h c;go_wp2;go_ret;exact z.o _ _ g.o.2.2.2.1.1 e.o
 by_cases aJ:s=qfQ
 ·subst aJ
  have av:(qfQ.toList == [74,82])=false:=by rw [Qe];rfl
  have az:(qfQ.toList == [68,74,78,90])=false:=by rw [Qe];rfl
  have aA:(qfQ.toList == [74,80])=true:=by rw [Qe];rfl
  clear aj al am aq ay aC aE aI
  go_enter func11,ntmps11
  go_wp2_with fail
  refine y.o.mono ?_;rintro ah ax ⟨ab,ag,M,ac,aa,U,Z,ad,t,rfl,k,O⟩;have m:=Fr.up E k;simp only [enV];clear k y J G E an ap
  go_upto_region 2 with fail
  obtain ⟨au,ao,K,o,g,af,V⟩:=Fr.box m #[.int .i64 ab,.int .u8 ag,.string (sB M),.slice ac aa U,.string (sB Z),.bool ad] 66;rw [o,K];obtain ⟨J,G⟩:=Fr.qEc g.o.2.1;clear o m af V;rcases O with ⟨rfl,c⟩ | ⟨h,c⟩
  ·have e:Hid (ae=if (qem qfQ I 6).isSome then 1 else 4):=by
    show ae=_;rw [ak.o c,Qd (by decide),Qk (by simp)]
   have aO:=aY.o ao g.o.2.2.1;obtain ⟨aZ,aQ⟩:=N9 (qem qfQ I 6);rw [aQ] at aO e;clear c aQ
   go_wp2_with fail
   refine aO.mono ?_;rintro ah a5 ⟨rfl,k⟩;have aL:=Fr.up g k;clear k aO g J G K;cases aZ with
   | none=>
    go_wp2;go_ret;exact z.o _ _ (aL.o.2.2.2.1.1.trans ((B0).mono aL.o.2.2.2.1.2)) e.o
   | some a4=>
    go_wp2;go_ret;exact z.o _ _ (aL.o.2.2.2.1.1.trans ((B0).mono aL.o.2.2.2.1.2)) e.o
  ·have ar:(t == 0)=false:=Qj.2 h
   have aw:(t != 0)=true:=Zn.2 h;have e:=J9 (ai.o c);clear h c;go_wp2;go_ret;exact z.o _ _ g.o.2.2.2.1.1 e.o
 ·have av:(s.toList == [74,82])=false:=qbh aj
  have az:(s.toList == [68,74,78,90])=false:=qbh al;have aA:(s.toList == [67,65,76,76])=false:=qbh am;have aG:(s.toList == [82,83,84])=false:=qbh aq;have aH:(s.toList == [82,69,84])=false:=qbh ay;have aK:(s.toList == [82,69,84,73])=false:=qbh aC;have aM:(s.toList == [82,69,84,78])=false:=qbh aE;have aR:(s.toList == [72,65,76,84])=false:=qbh aI;have a1:(s.toList == [74,80])=false:=qbh aJ;have aX:Hid (aW->ae=0):=fun c=>by rw [ak.o c,Qd (by simp [aj,al]),Qd aJ,Qd (by simp [am,aq]),Qd (by simp [ay,aC,aE]),Qd aI]
  clear aj al am aq ay aC aE aI aJ
  go_enter func11,ntmps11
  go_wp2_with fail
  refine y.o.mono ?_;rintro ah ax ⟨ab,ag,M,ac,aa,U,Z,ad,t,rfl,k,O⟩;have m:=Fr.up E k;simp only [enV];clear k y J G E an ap
  go_upto_region 2 with fail
  obtain ⟨au,ao,K,o,g,af,V⟩:=Fr.box m #[.int .i64 ab,.int .u8 ag,.string (sB M),.slice ac aa U,.string (sB Z),.bool ad] 66;rw [o,K];obtain ⟨J,G⟩:=Fr.qEc g.o.2.1;clear o m af V;rcases O with ⟨rfl,c⟩ | ⟨h,c⟩
  ·have e:=J9 (aX.o c)
   clear c;go_wp2;go_ret;exact z.o _ _ g.o.2.2.2.1.1 e.o
  ·have ar:(t == 0)=false:=Qj.2 h
   have aw:(t != 0)=true:=Zn.2 h;have e:=J9 (ai.o c);clear h c;go_wp2;go_ret;exact z.o _ _ g.o.2.2.2.1.1 e.o
theorem qhu (s:ByteArray) (ag:s.size<=1000) (A:Option Addr) (cap m:Nat) (I:List Tr) (Z:I.length=m) (ac:m<=900) (w:World) (H:qaj w A I) :
  Calls prog 13 #[.agg #[.string s,.slice A m cap]] w fun y k=>y=.returned (.bool (smF s I))/\Below w.heap.size w k:=by
 obtain ⟨aM,aE,aO,aw,O,ax,aF⟩:=Fr.box (Fr.add (Fr.start w w.heap.size rfl) (qaW A I) H) #[.string s,.slice A m cap] 24;have ae:=J9 (qda s ag A cap m I Z ac aE O.o.2.1);have aj:=J9 (fun k e=>qju 8 s ag A cap m I Z ac k e);obtain ⟨z,E⟩:=Fr.qEc O.o.1;have c:Hid (smF s I=true↔qfi s I (canL (opc s) I)/\((qem s I 8).isSome=true\/s=qhv)):=qsZ s I;have M:Hid (∀ k (V:Bool),Below w.heap.size w k->smF s I=V->(Ending.returned (.bool V)=.returned (.bool (smF s I))/\Below w.heap.size w k)):=fun k V e y=>⟨by rw [y],e⟩
 clear H Z ax
 go_enter func13,ntmps13
 go_wp2_with fail
 refine ae.o.mono ?_;rintro y aR ⟨aD,aA,ao,aG,aB,am,ar,aI,an,rfl,t,au⟩;have ab:=Fr.up O t;simp only [enV];clear t ae z E O aw aF
 go_upto_region 2 with fail
 obtain ⟨aK,av,ah,al,K,ay,az⟩:=Fr.box ab #[.int .i64 aD,.int .u8 aA,.string (sB ao),.slice aG aB am,.string (sB ar),.bool aI] 66;rw [al,ah];have aa:=aj.o av K.o.2.2.1;obtain ⟨z,E⟩:=Fr.qEc K.o.2.1;clear al ab ay az aj
 go_wp2_with fail
 refine aa.mono ?_;rintro y aL ⟨rfl,t⟩;have ai:=Fr.up K t;obtain ⟨G,ak⟩:=N9 (qem s I 8);rw [ak] at c |-;clear t aa K z E ah ak
 go_upto_region 3 with fail
 obtain ⟨aP,aJ,aC,af,U,aH,aq⟩:=Fr.box ai #[.int .i64 (G.getD tr0).1,.int .i64 (G.getD tr0).2.1,.int .i64 (G.getD tr0).2.2] 57;rw [af,aC];obtain ⟨z,E⟩:=Fr.qEc U.o.2.2.1;have J:=J9 U.o.2.2.2.2.1.1;clear af ai aH aq U;rcases au with ⟨rfl,g⟩ | ⟨ad,g⟩
 ·cases G with
  | some aN=>
   have h:Hid (smF s I=true):=(by exact c.o.2 ⟨g,.inl rfl⟩);clear g c;go_wp2;go_ret;exact M.o _ _ J.o h.o
  | none=>
   by_cases o:s=qhv
   ·have ap:(s.toList == [68,74,78,90])=true:=by rw [o,Qe];rfl
    have h:Hid (smF s I=true):=(by exact c.o.2 ⟨g,.inr o⟩);clear g c o;go_wp2;go_ret;exact M.o _ _ J.o h.o
   ·have h:Hid (smF s I=false):=by
     show _=_;exact Bool.eq_false_iff.2 fun e=>(c.o.1 e).2.elim (fun e=>by cases e) o
    have ap:(s.toList == [68,74,78,90])=false:=qbh o;clear g c o;go_wp2;go_ret;exact M.o _ _ J.o h.o
 ·have h:Hid (smF s I=false):=by
   show _=_;exact Bool.eq_false_iff.2 fun e=>g (c.o.1 e).1
  have aQ:(an == 0)=false:=Qj.2 ad;clear g c ad;go_wp2;go_ret;exact M.o _ _ J.o h.o
theorem qAL (a:Int) (s:ByteArray) (I:List Tr):(a<0\/65535<a\/(kdF s I≠1/\kdF s I≠2)->tgF a s I=-1)/\(¬(a<0\/65535<a\/(kdF s I≠1/\kdF s I≠2))->(∀ t,qem s I 10=some t->tgF a s I=(a+2+t.2.2+65536) % 65536/\-128<=t.2.2/\t.2.2<=127)/\(qem s I 10=none->tgF a s I=((qem s I 6).getD tr0).2.2)):=by
 constructor
 ·intro y
  unfold tgF;rw [Qk y]
 ·intro y
  constructor
  ·intro t h
   refine ⟨?_,?_⟩
   ·unfold tgF
    rw [Qd y,h]
   ·by_cases z:qfi s I (canL (opc s) I)
    ·rw [qnZ z] at h
     exact z.fl.rel t (Zw h) (by have:=List.find?_some h;unfold kdT at this;simpa using this)
    ·rw [qrD z] at h
     cases h
  ·intro E
   unfold tgF;rw [Qd y,E];rfl
theorem qcP (a:Int) (s:ByteArray) (aA:s.size<=1000) (A:Option Addr) (cap E:Nat) (I:List Tr) (ai:I.length=E) (aB:E<=900) (w:World) (H:qaj w A I) :
  Calls prog 9 #[.int .i64 a,.agg #[.string s,.slice A E cap]] w fun K y=>K=.returned (.int .i64 (tgF a s I))/\Below w.heap.size w y:=by
 obtain ⟨aY,aT,bc,aK,af,aR,aV⟩:=Fr.box (Fr.add (Fr.start w w.heap.size rfl) (qaW A I) H) #[.string s,.slice A E cap] 24;have am:=J9 (qes s aA A cap E I ai aB aT af.o.2.1);have aj:=J9 (fun y Z ap=>qju Z s aA A cap E I ai aB y ap);obtain ⟨aa,O⟩:=Fr.qEc af.o.1;have M:=J9 (qAL a s I);have ab:Hid (∀ y (Z:Int),Below w.heap.size w y->tgF a s I=Z->(Ending.returned (.int .i64 Z)=.returned (.int .i64 (tgF a s I))/\Below w.heap.size w y)):=fun y Z ap K=>⟨by rw [K],ap⟩
 obtain ⟨k,aD⟩:=N9 (kdF s I);rw [aD] at am M;clear H ai aR aD
 go_enter func9,ntmps9
 go_wp2_with fail
 refine am.o.mono ?_;rintro K aS ⟨rfl,t⟩;have z:=Fr.up af t;clear t am aa O af aK aV;by_cases G:a<0\/65535<a\/(k≠1/\k≠2)
 ·have ak:=J9 (M.o.1 G)
  clear M aj;by_cases aQ:a<0
  ·clear G
   go_wp2;go_ret;exact ab.o _ _ z.o.2.2.1.1 ak.o
  by_cases ad:65535<a
  ·have aI:a > 65535:=ad
   clear G;go_wp2;go_ret;exact ab.o _ _ z.o.2.2.1.1 ak.o
  ·have aI:¬a > 65535:=ad
   have a1:(k != 1)=true:=Zn.2 (by omega);have a9:(k != 2)=true:=Zn.2 (by omega);have a4:(k == 1)=false:=Qj.2 (by omega);have a3:(k == 2)=false:=Qj.2 (by omega);clear G ad;go_wp2;go_ret;exact ab.o _ _ z.o.2.2.1.1 ak.o
 ·have V:=J9 (M.o.2 G)
  have aQ:¬a<0:=by omega
  have ad:¬a > 65535:=by omega
  have aW:k=1\/k=2:=by omega
  obtain ⟨aa,O⟩:=Fr.qEc z.o.1;have an:=aj.o aS 10 z.o.2.1;obtain ⟨aO,az⟩:=N9 (qem s I 10);rw [az] at an V;clear M G az;rcases aW with rfl | rfl
  all_goals
   go_wp2_with fail
   refine an.mono ?_;rintro K a8 ⟨rfl,t⟩;have ae:=Fr.up z t;clear t an aa O z;cases aO with
   | some e=>
    have J:=J9 (V.o.1 e rfl)
    go_upto_region 5 with fail
    obtain ⟨aG,ax,ac,U,h,ao,ah⟩:=Fr.box ae #[.int .i64 e.1,.int .i64 e.2.1,.int .i64 e.2.2] 57;rw [U,ac];obtain ⟨aN,aU,aE⟩:=Fr.cells3 h.o.1;have aM:=J.o;have a2:IntKind.i64.wrap (a+2)=a+2:=(by rw [IntKind.wrap_i64];omega);have aX:IntKind.i64.wrap (a+2+e.2.2)=a+2+e.2.2:=(by rw [IntKind.wrap_i64];omega);have a0:IntKind.i64.wrap (a+2+e.2.2+65536)=a+2+e.2.2+65536:=(by rw [IntKind.wrap_i64];omega);have a6:(a+2+e.2.2+65536).tmod 65536=(a+2+e.2.2+65536) % 65536:=Int.tmod_eq_emod_of_nonneg (by omega);have aZ:IntKind.i64.wrap ((a+2+e.2.2+65536) % 65536)=(a+2+e.2.2+65536) % 65536:=(by rw [IntKind.wrap_i64];omega);have aF:=J9 h.o.2.2.2.1.1;clear ae ao ah h aM U V;go_wp2;go_ret;exact ab.o _ _ aF.o (by rw [J.o.1];omega)
   | none=>
    have J:=J9 (V.o.2 rfl)
    go_upto_region 5 with fail
    obtain ⟨aG,ax,ac,U,h,ao,ah⟩:=Fr.box ae #[.int .i64 0,.int .i64 0,.int .i64 0] 57
    try simp only [tr0]
    rw [U,ac];obtain ⟨aa,O⟩:=Fr.qEc h.o.2.1;have aq:=aj.o ax 6 h.o.2.2.1;obtain ⟨au,ay⟩:=N9 (qem s I 6);rw [ay] at aq J;clear ae ao ah U V ay
    go_wp2_with fail
    refine aq.mono ?_;rintro K bb ⟨rfl,t⟩;have av:=Fr.up h t;clear t aq h aa O ac;obtain ⟨e,aC⟩:=N9 (au.getD tr0);rw [aC] at J |-;obtain ⟨ok,aw⟩:=N9 (au.isSome);rw [aw];clear aC aw
    go_upto_region 8 with fail
    obtain ⟨a5,a7,aP,ar,ag,aH,aJ⟩:=Fr.box av #[.int .i64 e.1,.int .i64 e.2.1,.int .i64 e.2.2] 57;rw [ar,aP];obtain ⟨aN,aU,aE⟩:=Fr.cells3 ag.o.1;have aL:=J9 ag.o.2.2.2.2.1.1;clear av aH aJ ag ar;go_wp2;go_ret;exact ab.o _ _ aL.o J.o
end Go.Proofs.YtjafbmfcedijmaaGreatDoor
