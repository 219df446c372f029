/-
  ShU, DgJ, StO, ItD, ItE, ShY.
-/
import Derived.Test.YtecpnfhpcamljaaGreatDoorKAP
import Derived.Test.YtecpnfhpcamljaaGreatDoorKAX
set_option linter.all false
set_option maxRecDepth 100000
set_option maxHeartbeats 4000000
namespace Go.Proofs.YtecpnfhpcamljaaGreatDoor
open Tryz
open Go.RowKit Go.Shelf
theorem qxz {p:Int} {n:Nat} (E:n<256) {x:En} (J:qaX p n=some x) {d m:Int} {C:List Tr} (ab:qaW x.2.2.1 x.2.1 d m=some C) :
  (x.2.2.2=false->qcG (sB x.1) C=true)/\C.length<=3/\x.1.length<=10:=by
 have M:qdA (p,(n:Int),x.1,x.2.1,x.2.2.1,x.2.2.2):=⟨n,E,rfl,J⟩;have ok:=M.ok;have q:qa9 x.1 x.2.1 x.2.2.1 (sB x.1) C=true:=by rw [<- qiz ok.places];exact qto ok.places ab
 have G:=qrQ ok.can q;have T:=qhq ok q;have z:=q;unfold qa9 qfg at z;simp only [Qd,Qf] at z;obtain ⟨⟨-,K⟩,-⟩:=z;have ae:x.2.1.length=C.length:=by have:=congrArg List.length K;simpa using this
 have ac:=ok.len;simp only at ac;have W:=(qbz ok.code).1;have O:=qtX E J;have V:x.1.length<=10:=by
  have h:=O.1;unfold okS at h;simp only [Qd,Qf] at h;omega
 refine ⟨fun aa=>?_,by omega,V⟩;rw [qem,G];have ad:qa5 (sB x.1) C=0:=qlQ W (by rw [G];omega) (by rw [G];exact T);have y:=ok.fst;rw [qke K] at y;have U:=ok.lo;have Z:=ok.hi;simp only at y U Z;refine ⟨ad,p,n,?_,?_,E,x,J,aa,q⟩
 ·unfold qki
  rw [y];by_cases h:3<=p
  ·simp [h]
  ·simp [h];omega
 ·unfold qtf
  rw [y];by_cases h:3<=p
  ·simp [h];omega
  ·simp [h];omega
def qzq (h:Ite):Prop:=(h.raw≠[]/\h.raw.length<=4)/\h.m.length<=10/\h.C.length<=3/\(h.kind=1/\h.al=false->qcG (sB h.m) h.C=true)
theorem qxW {b:Str} (z:b≠[]):qzq (itR b):=by
 have M:=qrV z;have C:=(qbI z).1;refine ⟨⟨fun e=>by rw [e] at C;simp at C,M⟩,?_⟩;have p:∀ (x:Int) (E:Str),itR b=qbv x E->x≠1->(itR b).m.length<=10/\(itR b).C.length<=3/\((itR b).kind=1/\(itR b).al=false->qcG (sB (itR b).m) (itR b).C=true):=fun x E e q=>by
  rw [e];exact ⟨by simp [qbv],by simp [qbv],fun r=>absurd r.1 q⟩
 cases h:hdB b with
 | none=>exact p 4 b (by unfold itR;rw [h]) (by decide)
 | some T=>
  obtain ⟨y,t,W⟩:=T;cases o:qaX y t.toNat with
  | none=>
   by_cases q:rkindT y t.toNat=0
   ·exact p 2 (b.take 1) (by unfold itR;rw [h];simp only [o];rw [Qi q]) (by decide)
   ·exact p 3 (b.take 2) (by unfold itR;rw [h];simp only [o];rw [Qe q]) (by decide)
  | some G=>
   by_cases J:b.length<sizeT y G.2.2.1
   ·exact p 4 b (by unfold itR;rw [h];simp only [o];rw [Qi J]) (by decide)
   ·obtain ⟨Z,V,-,e,-⟩:=qvL h o (by omega)
    obtain ⟨K,U,O⟩:=qxz t.toNat_lt o V;rw [e];exact ⟨O,U,fun r=>K r.2⟩
theorem qj5 {P:Ite->Prop} (z:∀ b:Str,b≠[]->P (itR b)):∀ (n:Nat) (b:Str),b.length<=n->∀ q∈itemsR b,P q
 | 0,b,E,q,h=>by
  obtain rfl:b=[]:=Qw (by omega);rw [qei] at h;cases h
 | n+1,b,E,q,h=>by
  by_cases y:b=[]
  ·subst y
   rw [qei] at h;cases h
  ·rw [qeX y] at h
   rcases QM.1 h with rfl | h
   ·exact z b y
   ·have G:=(qbI y).1
    exact qj5 z n _ (by rw [Zj];omega) q h
theorem qrt (b:Str):∀ h∈itemsR b,qzq h:=qj5 (fun _=>qxW) b.length b (Qa _)
theorem qvd {q:Ite} (h:qzq q):itemB q≠[]:=by
 unfold itemB;split
 ·rename_i y
  exact quO (h.2.2.2 y)
 ·unfold dataB
  rw [Qe h.1.1];simp
end Go.Proofs.YtecpnfhpcamljaaGreatDoor
namespace Go.Proofs.YtecpnfhpcamljaaGreatDoor
open Tryz
open Go.RowKit Go.Shelf
attribute [local go_sem] Oper.semAt_some
attribute [local irreducible] Go.Mixed.qAU
def qj6 (w:World) (b:Str) (h:Int) (e:Ending) (w':World):Prop:=
 ((h<0\/(b.length:Int)<=h)/\e=.returned (.tuple #[.agg #[.int .i64 0,.slice none 0 0,.string ⟨#[]⟩,.slice none 0 0,.bool false],.int .i64 0,.bool false])/\Below w.heap.size w w')\/
 (∃ c:Nat,h=c/\c<b.length/\∃ y q z k,e=.returned (.tuple #[.agg #[.int .i64 (itR (b.drop c)).kind,.slice y (itR (b.drop c)).raw.length q,.string (sB (itR (b.drop c)).m),.slice z (itR (b.drop c)).C.length k,.bool (itR (b.drop c)).al],.int .i64 ((c+(itR (b.drop c)).raw.length:Nat):Int),.bool true])/\
  qat w' w.heap.size (.slice y (itR (b.drop c)).raw.length q) (itR (b.drop c)).raw/\qaf w' w.heap.size (.slice z (itR (b.drop c)).C.length k) (itR (b.drop c)).C/\Below w.heap.size w w')
theorem qye (b:Str):(itR b).raw.length<=b.length:=by
 unfold itR;split
 ·exact Qa _
 ·split
  ·split
   ·show (b.take 1).length<=_;rw [QH];omega
   ·show (b.take 2).length<=_;rw [QH];omega
  ·split
   ·exact Qa _
   ·show (b.take _).length<=_;rw [QH];omega
theorem qrj {w:World} {g b:Nat} {xs:Str} (h:BytesAt w (some ⟨g,b,none⟩) xs) (k:Nat):BytesAt w (some ⟨g,b+k,none⟩) (xs.drop k):=by
 rcases h with rfl | ⟨y,z,e,j⟩
 ·exact .inl (by simp)
 ·simp only [Qv,Addr.mk.injEq] at e
  obtain ⟨rfl,rfl,-⟩:=e;refine .inr ⟨g,b+k,rfl,fun o q=>?_⟩;rw [Zj] at q;rw [List.getElem_drop,Nat.add_assoc];exact j (k+o) (by omega)
theorem qoN (b:Str) (A:Option Addr) (cap l:Nat) (E:b.length=l) (bc:l<=cap) (a4:cap<=maxLen) (a3:l<=100000) (w:World) (H:BytesAt w A b) (ap:qad w) (h:Int) :
  Calls prog 99 #[.slice A l cap,.int .i64 h] w (qj6 w b h):=by
 obtain ⟨k,ar⟩:=N9 (w.heap.size);obtain ⟨ax,a9,B,K,a2⟩:=qbQ w k ar;have aF:=J9 ar;have a5:=J9 E;by_cases ao:h<0\/(l:Int)<=h
 ·obtain ⟨an,a8,ab,ac,aX,aK,aO,T⟩:=B.put 0 (.slice none 0 0) ⟨#[]⟩ (.slice none 0 0) false
  obtain ⟨a7,aZ,bb,bf,be,a1⟩:=B.cells;obtain ⟨ad,aj,ae,ag,ah,aL⟩:=ab.cells;have ai:Hid (qj6 w b h (.returned (.tuple #[.agg #[.int .i64 0,.slice none 0 0,.string ⟨#[]⟩,.slice none 0 0,.bool false],.int .i64 0,.bool false])) an):=.inl ⟨by rw [E];exact ao,rfl,K.trans (by rw [ar];exact ac)⟩;have az:decide (h<0)=true\/(decide (h<0)=false/\decide ((l:Int)<=h)=true):=by
   by_cases g:h<0
   ·exact .inl (Qn g)
   ·exact .inr ⟨Qh g,Qn (by omega)⟩
  have am:h<0\/(¬h<0/\h>=(l:Int)):=by omega
  clear H ap E B K ab ac aX aK aO T ao;rcases am with aG | ⟨aG,aN⟩
  ·clear az
   go_enter func99,ntmps99
   go_wp2;refine bodyPost_ret (v:=.tuple #[.agg #[.int .i64 0,.slice none 0 0,.string ⟨#[]⟩,.slice none 0 0,.bool false],.int .i64 0,.bool false]) ?_ rfl ai.o;simp [results,results99,go_sem,ad,aj,ae,ag,ah]
  ·clear az
   go_enter func99,ntmps99
   go_wp2;refine bodyPost_ret (v:=.tuple #[.agg #[.int .i64 0,.slice none 0 0,.string ⟨#[]⟩,.slice none 0 0,.bool false],.int .i64 0,.bool false]) ?_ rfl ai.o;simp [results,results99,go_sem,ad,aj,ae,ag,ah]
 ·obtain ⟨e,rfl⟩:∃ e:Nat,h=e:=⟨h.toNat,by omega⟩
  have aQ:e<l:=by omega
  obtain ⟨aW,aT,rfl,-⟩:=H.cellAt (j:=e) (by omega);have aD:b.drop e≠[]:=fun O=>by
   have:=congrArg List.length O;rw [Zj,E] at this;simp at this;omega
  have aq:(b.drop e).length=l - e:=by rw [Zj,E]
  have af:=qg3 (b.drop e) (some ⟨aW,aT+e,none⟩) (cap - e) (l - e) aq (by omega) (by omega) (by omega) ax ((qrj H e).below K) (ap.below K);rw [qyq aD] at af;have aJ:=qye (b.drop e);rw [aq] at aJ;have au:Hid (∀ O F,(∃ A ay q n,O=.returned (.tuple #[.agg #[.int .i64 (itR (b.drop e)).kind,.slice A (itR (b.drop e)).raw.length ay,.string (sB (itR (b.drop e)).m),.slice q (itR (b.drop e)).C.length n,.bool (itR (b.drop e)).al],.int .i64 ((e+(itR (b.drop e)).raw.length:Nat):Int),.bool true])/\
   qat F w.heap.size (.slice A (itR (b.drop e)).raw.length ay) (itR (b.drop e)).raw/\qaf F w.heap.size (.slice q (itR (b.drop e)).C.length n) (itR (b.drop e)).C/\Below w.heap.size w F)->qj6 w b e O F):=fun O F g=>.inr ⟨e,rfl,by rw [E];exact aQ,g⟩
  obtain ⟨c,am⟩:=N9 (itR (b.drop e));rw [am] at af au aJ;have B:=J9 B;have av:=J9 K;have aG:¬((e:Int)<0):=by omega
  have aN:¬((e:Int)>=(l:Int)):=by omega
  clear H ap E aq aD K am ao
  go_enter func99,ntmps99
  go_wp2_with fail
  refine af.mono ?_;rintro O an ⟨y,x,q,n,rfl,aA,aw,M⟩;obtain ⟨G,J,bg,a0,aH,W,a6⟩:=Fr.box (Fr.nil an) #[.int .i64 c.kind,.slice y c.raw.length x,.string (sB c.m),.slice q c.C.length n,.bool c.al] 45;have I2:qas J G c.kind (.slice y c.raw.length x) (sB c.m) (.slice q c.C.length n) c.al:=aH.o.1;have aE:qas J k 0 (.slice none 0 0) ⟨#[]⟩ (.slice none 0 0) false:=(B.o.all M).all W;obtain ⟨z,ak⟩:=N9 (J.drew);have U:Below J.heap.size J z:=by rw [<- ak];exact below_drewN J _ 1
  have I3:=J9 (I2.all U);have aa:=J9 (aE.all U);have aI:=J9 ((aA.below W).below U);have aC:=J9 ((aw.below W).below U);have aB:Hid (Below k w z):=(show Below k w ax by rw [<- aF.o];exact av.o).trans (((M.trans (W.mono M.size)).trans (U.mono (by have:=M.size;omega))).mono (by omega));have bd:k<G:=by have g:=B.o.lt;have:=M.size;omega
  clear af aA aw M aH W I2 aE U B av
  go_upto_region 4 with fail
  refine Mixed.qAQ (fun F=>qas F G c.kind (.slice y c.raw.length x) (sB c.m) (.slice q c.C.length n) c.al) 7 [(0,true),(1,true),(2,true),(3,true),(4,true),(5,true),(6,false)] (by kernel_rfl) (by kernel_rfl) (by rw [ak];exact I3.o) ?_;rw [ak];clear ak;refine Mixed.mo rfl (.agg #[.int .i64 c.kind,.slice y c.raw.length x,.string (sB c.m),.slice q c.C.length n,.bool c.al]) (fun w g=>by obtain ⟨aV,aS,aY,aM,aU,aP⟩:=g.cells;clear g;go_simp;try rfl) ?_;refine Mixed.mo rfl (.int .i64 (e:Int)) (fun w g=>by clear g;go_simp;try rfl) ?_;refine Mixed.mo rfl (.pointer (some ⟨G,1,none⟩)) (fun w g=>by clear g;go_simp;try rfl) ?_;refine Mixed.mo rfl (.slice y c.raw.length x) (fun w g=>by obtain ⟨aV,aS,aY,aM,aU,aP⟩:=g.cells;clear g;go_simp;try rfl) ?_;refine Mixed.mo rfl (.int .i64 (c.raw.length:Int)) (fun w g=>by clear g;go_simp;try rfl) ?_;refine Mixed.mo rfl (.int .i64 ((e+c.raw.length:Nat):Int)) (fun w g=>by clear g;go_simp;rw [IntKind.wrap_i64];omega) ?_;refine Mixed.qA5 rfl ?_;refine wpList_store_row rfl 45 _ _ rfl k #[.int .i64 c.kind,.slice y c.raw.length x,.string (sB c.m),.slice q c.C.length n,.bool c.al] rfl rfl _ _ aa.o (by kernel_rfl) (by kernel_rfl) (by kernel_rfl) ?_;obtain ⟨Z,V⟩:=N9 (z.setRow k #[.int .i64 c.kind,.slice y c.raw.length x,.string (sB c.m),.slice q c.C.length n,.bool c.al]);have T:∀ e,e≠k->Z.heap[e]?=z.heap[e]?:=fun e aR=>by rw [<- V];exact setRow_other z k e _ aR
  have ac:Below k z Z:=by rw [<- V];exact below_setRow (Qc k z) (Qa _) _
  have ab:qas Z k c.kind (.slice y c.raw.length x) (sB c.m) (.slice q c.C.length n) c.al:=by rw [<- V];exact setRow_heap z k _ _ 45 (0,0) aa.o
  have I4:qas Z G c.kind (.slice y c.raw.length x) (sB c.m) (.slice q c.C.length n) c.al:=(T G (by omega)).trans I3.o;have ai:=J9 (au.o _ Z ⟨y,x,q,n,rfl,(qgl aa.o aI.o T).lift (by omega),row_mono (qdM aa.o aC.o T) (by omega),by rw [aF.o];exact aB.o.trans ac⟩);rw [V];obtain ⟨ad,aj,ae,ag,ah,aL⟩:=ab.cells;clear V ab ac T I3 aa aI aC aB au;refine ⟨I4,?_⟩;clear I4;simp only [Mixed.qAU,Qr,Qx];go_wp2;refine bodyPost_ret (v:=.tuple #[.agg #[.int .i64 c.kind,.slice y c.raw.length x,.string (sB c.m),.slice q c.C.length n,.bool c.al],.int .i64 ((e+c.raw.length:Nat):Int),.bool true]) ?_ rfl ai.o;simp [results,results99,go_sem,ad,aj,ae,ag,ah]
end Go.Proofs.YtecpnfhpcamljaaGreatDoor
namespace Go.Stops
open Go Go.RowKit
def qui {G:Type} (E:TypeId) (y:Nat) (z:G->World->Prop):Prop:=∀ q h s,z q h->h.grownBy s (some y)->(∃ K J,h.heap[y]?=some (.cells K E J))->z q s
def qBL {x:Type} (F:Fence) (n:Nat) (P:Program) (g:Nat) (lb:Array Value) (V:x->Array Value) (T:TypeId) (M:Nat->List x->x->World->Prop) (O:Nat->World->World->Prop) (S:List x->Prop) (w:World):Prop:=
 ∀ (J:Nat) (q E:Nat->List x->World->Prop) (h:World),Below w.heap.size w h->(∀ e,h.heap.size<=e->AbidesFrom h.heap.size (q e))->(∀ e,h.heap.size<=e->qui T e (q e))->
  (∀ e l z W1,h.heap.size<=e->e<W1.heap.size->q e l W1->M e l z W1->YieldAt F (n - 1) P J (V z) W1 fun y v=>(y=.returned (.bool true)/\q e (l++[z]) v/\O e W1 v)\/(y=.returned (.bool false)/\E e (l++[z]) v))->
  (∀ e,h.heap.size<=e->AbidesFrom h.heap.size (E e))->(∀ e G,h.heap.size<=e->Below h.heap.size h G->e<G.heap.size->q e [] G)->CallsIn F n P g (#[.func (.yield J) #[] #[]]++lb) h fun y v=>(∃ U,y=.returned U)/\((∃ e K,h.heap.size<=e/\S K/\q e K v)\/∃ e l,h.heap.size<=e/\E e l v)
variable {F:Fence} {n:Nat} {P:Program}
end Go.Stops
namespace Go.Proofs.YtecpnfhpcamljaaGreatDoor
open Tryz
open Go.RowKit Go.Shelf
attribute [local go_sem] Oper.semAt_some
attribute [local irreducible] Go.Mixed.qAU
def Kq (y cb:Nat) (q o:World):Prop:=q.heap.size<=o.heap.size/\∀ h k,h<=y->h≠cb->q.heap[h]?=some k->k.isCells=true->o.heap[h]?=some k
theorem Kq.refl (y cb:Nat) (h:World):Kq y cb h h:=⟨Qa _,fun _ _ _ _ q _=>q⟩
theorem Kq.trans {h cb:Nat} {A B C:World} (q:Kq h cb A B) (k:Kq h cb B C):Kq h cb A C:=⟨Qj q.1 k.1,fun E z o x G y=>k.2 E z o x (q.2 E z o x G y) y⟩
theorem Kq.le {p q cb:Nat} {x o:World} (h:Kq q cb x o) (k:p<=q):Kq p cb x o:=⟨h.1,fun K J y z G E=>h.2 K J (Qj y k) z G E⟩
theorem Kq.of_below {z cb:Nat} {h o:World} (q:Below h.heap.size h o):Kq z cb h o:=⟨q.size,fun y E _ _ k _=>(q.block y (Qb.1 k).1).trans k⟩
theorem Kq.put (E cb:Nat) (h:World) (l:Nat) (o x:Obj) (y:h.heap[l]?=some o) (G:o.isCells=false):Kq E cb h (h.putObj l x):=by
 refine ⟨by simp,fun z K _ _ k q=>?_⟩;have J:z≠l:=by
  rintro rfl;rw [y] at k;obtain rfl:=Qs k;rw [G] at q;cases q
 exact (World.putObj_heap_other J).trans k
theorem Kq.cell {q cb:Nat} {z h:World} (G:Kq q cb z h) {a:Addr} {v:Value} (o:z.cell? a=some v) (E:a.block<=q) (J:a.block≠cb):h.cell? a=some v:=by
 obtain ⟨M,y,K⟩:=cells_of_cell o;exact (Q1 ((G.2 _ M E J y K).trans y.symm)).trans o
theorem BytesAt.kq {q cb:Nat} {y j:World} {A:Option Addr} {xs:Str} (b:BytesAt y A xs) (k:Kq q cb y j) (T:∀ a,A=some a->xs≠[]->a.block<=q/\a.block≠cb):BytesAt j A xs:=by
 by_cases h:xs=[]
 ·exact .inl h
 rcases b with b | ⟨E,G,rfl,J⟩
 ·exact absurd b h
 ·obtain ⟨z,K⟩:=T _ rfl h
  exact .inr ⟨E,G,rfl,fun O M=>k.cell (J O M) z K⟩
theorem ql2 {e:World} {A:Option Addr} {xs:Str} (b:BytesAt e A xs) (a:Addr) (y:A=some a) (q:xs≠[]):a.block<e.heap.size:=by
 rcases b with b | ⟨G,E,h,z⟩
 ·exact absurd b q
 ·rw [y] at h
  obtain rfl:=Qs h;exact Qq e _ (z 0 (Zp.2 q))
theorem ql9 {w w':World} {b:Str} {h:Int} {e:Ending} (c:qj6 w b h e w'):∃ (r:Xe) (y:Int) (ok:Bool),e=.returned (.tuple #[.agg #[.int .i64 r.x.kind,.slice r.A r.x.raw.length r.ca,.string (sB r.x.m),.slice r.B r.x.C.length r.cb,.bool r.x.al],.int .i64 y,.bool ok])/\Below w.heap.size w w'/\
  (ok=true->∃ k:Nat,h=k/\k<b.length/\r.x=itR (b.drop k)/\y=((k+r.x.raw.length:Nat):Int)/\qc1 w' w.heap.size r)/\(ok=false->h<0\/(b.length:Int)<=h):=by
 rcases c with ⟨E,rfl,q⟩ | ⟨k,M,O,A,z,B,K,rfl,G,J,q⟩
 ·exact ⟨⟨⟨0,[],[],[],false⟩,none,0,none,0⟩,0,false,rfl,q,fun c=>(by cases c),fun _=>E⟩
 ·exact ⟨⟨itR (b.drop k),A,z,B,K⟩,_,true,rfl,q,fun _=>⟨k,M,O,rfl,rfl,G,J⟩,fun c=>(by cases c)⟩
def StI (b:Str) (N:Nat) (wr:World) (k:List Xe) (ok:Bool) (q:Int) (r:Xe):Prop:=
 (ok=true->∃ h:Nat,h<b.length/\r.x=itR (b.drop h)/\q=((h+r.x.raw.length:Nat):Int)/\h+r.x.raw.length<=b.length/\1<=r.x.raw.length/\k.map Xe.x++itemsR (b.drop h)=itemsR b/\qc1 wr N r)/\(ok=false->k.map Xe.x=itemsR b)
theorem qsn {b:Str} {N:Nat} {w':World} {r:Xe} {z:Int} {ok:Bool} (E:ok=true->∃ k:Nat,(0:Int)=k/\k<b.length/\r.x=itR (b.drop k)/\z=((k+r.x.raw.length:Nat):Int)/\qc1 w' N r) (G:ok=false->(0:Int)<0\/(b.length:Int)<=0):StI b N w' [] ok z r:=by
 refine ⟨fun h=>?_,fun h=>?_⟩
 ·obtain ⟨k,O,q,e,y,K⟩:=E h
  obtain rfl:k=0:=by omega
  have J:=qbI (qgx rfl q);rw [Zj] at J;rw [e] at y;exact ⟨0,q,e,by rw [e];exact y,by rw [e];omega,by rw [e];omega,by simp,K⟩
 ·have M:=G h
  have:b=[]:=Qw (by omega);subst this;rfl
theorem qwp {b:Str} {N M:Nat} {wr w':World} {J:List Xe} {r q:Xe} {h G:Int} {z:Bool} (W:StI b N wr J true h r) (U:N<=M)
  (V:z=true->∃ k:Nat,h=k/\k<b.length/\q.x=itR (b.drop k)/\G=((k+q.x.raw.length:Nat):Int)/\qc1 w' M q) (ad:z=false->h<0\/(b.length:Int)<=h):StI b N w' (J++[r]) z G q:=by
 obtain ⟨k,aa,K,am,ag,ah,T,ak⟩:=W.1 rfl;have ab:b.drop k≠[]:=qgx rfl aa;have e:=qeW T ab r K;rw [<- K,List.drop_drop] at e;refine ⟨fun y=>?_,fun y=>?_⟩
 ·obtain ⟨ac,aj,O,E,Z,ae⟩:=V y
  obtain rfl:ac=k+r.x.raw.length:=by omega
  have af:=qbI (qgx rfl O);rw [Zj] at af;exact ⟨_,O,E,Z,by rw [E];omega,by rw [E];omega,e,ae.lift U⟩
 ·have ai:=ad y
  have:b.drop (k+r.x.raw.length)=[]:=Qw (by rw [Zj];omega);rw [this,qei,Zu] at e;exact e
theorem StI.up {b:Str} {N k:Nat} {w w':World} {h:List Xe} {ok:Bool} {q:Int} {r:Xe} (e:StI b N w h ok q r) (U:qc1 w N r->qc1 w' k r):StI b k w' h ok q r:=
 ⟨fun z=>by obtain ⟨T,G,M,O,E,J,y,K⟩:=e.1 z;exact ⟨T,G,M,O,E,J,y,U K⟩,e.2⟩
def msI (l:Nat):Value->Value->Nat
 | vn,.bool true=>l+1 - (intOf vn).toNat
 | _,_=>0
theorem qvE (l:Nat) (v:Value):msI l v (.bool true)=l+1 - (intOf v).toNat:=rfl
theorem qzG (l:Nat) (v:Value):msI l v (.bool false)=0:=rfl
theorem qi7 (w:World) (b:Nat) (y q E h z:Value):w.grownBy (((((w.setCell ⟨b,0,none⟩ y).setCell ⟨b,1,none⟩ q).setCell ⟨b,2,none⟩ E).setCell ⟨b,3,none⟩ h).setCell ⟨b,4,none⟩ z) (some b):=
 World.grownBy.trans (World.grownBy.trans (World.grownBy.trans (World.grownBy.trans (qaO w b 0 y) (qaO _ b 1 q)) (qaO _ b 2 E)) (qaO _ b 3 h)) (qaO _ b 4 z)
theorem qc1.put {w w':World} {N h:Nat} {r:Xe} {z:Int} {va vb:Value} {s:ByteArray} {al:Bool} (q:qc1 w N r) (I:qas w h z va s vb al) (y:w.grownBy w' (some h)):qc1 w' N r:=by
 refine q.grown y fun J k K E G e=>?_
 cases k;rw [show w.heap[h]?=_ from I] at e;simp only [Qv,Obj.cells.injEq] at e;rw [<- e.2.1];exact ⟨by decide,by decide⟩
theorem qj3 (n J cb:Nat) (b:Str) (A:Option Addr) (cap l:Nat) (an:b.length=l) (aO:l<=cap) (aH:cap<=maxLen) (ak:l<=100000) (w:World) (aP:Boxed w J 35 (.slice A l cap)) (bv:BytesAt w A b) (a8:qad w) (bf:cb<w.heap.size) (ad:J≠cb) (af:∀ a,A=some a->b≠[]->a.block≠cb) (a1:0≠cb) :
  Stops.qBL Fence.wide n prog 98 #[.pointer (some ⟨J,0,none⟩)] (fun x:Xe=>#[x.v]) 45 (fun h m x q=>(m++[x]).map Xe.x <+: itemsR b/\qc1 q w.heap.size x) (fun h=>Kq h cb) (fun ys=>ys.map Xe.x=itemsR b) w:=fun bH N b5 q W bk ag ae bR aw=>by
 have am:∀ (h:Nat),q.heap.size<=h->∀ (ah:List Xe) (Z aA:World),N h ah Z->Below Z.heap.size Z aA->N h ah aA:=fun h X ah Z aA K E=>bk h X ah Z aA none K (qbf E none) (fun e ac=>by cases ac)
 have ao:Boxed q J 35 (.slice A l cap):=(W.block J aP.lt).trans aP;have av:=bv.below W;have ap:=a8.below W;have aW:=qoN b A cap l an aO aH ak q av ap 0;obtain ⟨aa,aD⟩:=N9 (w.heap.size);have bg:Hid (aa<=q.heap.size):=by show _<=_;rw [<- aD];exact W.size
 have bs:Hid (∀ h r,q.heap.size<=h->Below q.heap.size q r->∀ V,Kq (h - 1) cb r V->Boxed V J 35 (.slice A l cap)/\∀ ax:Int,Calls prog 99 #[.slice A l cap,.int .i64 ax] V (qj6 V b ax)):=fun h r X aE V aq=>by
  have bQ:=ao.lt;have bV:Boxed r J 35 (.slice A l cap):=(aE.block J bQ).trans ao;have bC:=av.below aE;obtain ⟨bF,bZ⟩:=ap.below aE;have b8:=ap.lt;refine ⟨aq.2 J _ (by omega) ad bV rfl,fun ax=>qoN b A cap l an aO aH ak V (bC.kq aq fun a a6 bp=>⟨?_,af a a6 bp⟩) ⟨bF,aq.cell bZ (by show 0<=h - 1;omega) a1⟩ ax⟩;have:=ql2 av a a6 bp;omega
 have aK:Hid (b.length=l):=an;have ce:l<=100000:=ak;have aZ:Hid (cb<q.heap.size):=Zk bf W.size;have ae:=J9 ae;have ag:=J9 ag;have am:=J9 am;have aw:=J9 aw;have bd:=ao.cell;obtain ⟨ci,aX⟩:=N9 (q.heap.size);have cf:=J9 aX;rw [aD] at ae;clear aP bv a8 bf ad af a1 ao av ap an aO aH ak bk bR aD W aX;refine callsIn_wide.2 ?_;show Calls prog 98 #[.func (.yield bH) #[] #[],.pointer (some ⟨J,0,none⟩)] q _
 go_enter func98,ntmps98
 go_wp2_with fail
 refine aW.mono ?_;rintro ac W1 M;obtain ⟨e,o,ok,rfl,E,U,ab⟩:=ql9 M;have a3:=qsn U ab;obtain ⟨h,X⟩:=N9 (W1.heap.size);obtain ⟨b1,bW,ai,aG,bO⟩:=qbQ W1 h X;obtain ⟨r,bw,T,ar,aQ,aC,aM,aB⟩:=ai.put e.x.kind (.slice e.A e.x.raw.length e.ca) (sB e.x.m) (.slice e.B e.x.C.length e.cb) e.x.al;have G:Hid (q.heap.size<=h):=by show _<=_;rw [<- X];exact E.size
 have bm:=J9 (E.trans ((aG.trans (ar.mono (by omega))).mono E.size));have bn:Hid (StI b aa r [] ok o e):=by
  refine StI.up a3 fun K=>?_
  refine qc1.put ((K.below aG).lift bg.o) ai ?_;rw [<- bw];exact qi7 b1 h _ _ _ _ _
 have O:Hid (qas r h e.x.kind (.slice e.A e.x.raw.length e.ca) (sB e.x.m) (.slice e.B e.x.C.length e.cb) e.x.al):=T;have a5:Hid (N h [] r):=aw.o h r G.o bm.o T.lt;obtain ⟨br,aY,bt,bb,bx,a2⟩:=ai.cells;have bu:Hid (∀ (y z:World) (m:List Xe) (e k:Xe) (o:Int) (ok:Bool),qas y h e.x.kind (.slice e.A e.x.raw.length e.ca) (sB e.x.m) (.slice e.B e.x.C.length e.cb) e.x.al->((((y.setCell ⟨h,0,none⟩ (.int .i64 k.x.kind)).setCell ⟨h,1,none⟩ (.slice k.A k.x.raw.length k.ca)).setCell ⟨h,2,none⟩ (.string (sB k.x.m))).setCell ⟨h,3,none⟩ (.slice k.B k.x.C.length k.cb)).setCell ⟨h,4,none⟩ (.bool k.x.al)=z->qas z h k.x.kind (.slice k.A k.x.raw.length k.ca) (sB k.x.m) (.slice k.B k.x.C.length k.cb) k.x.al->N h m y->StI b aa y m ok o k->N h m z/\StI b aa z m ok o k):=fun y z m e k o ok bo bN _ ay bE=>by
  have a9:y.grownBy z (some h):=by rw [<- bN];exact qi7 y h _ _ _ _ _
  exact ⟨ag.o h G.o m y z ay a9 ⟨_,_,bo⟩,bE.up fun K=>qc1.put K bo a9⟩
 clear M aW U ab a3 E ai aG T ar aQ aC aM aB bd;go_wp2;clear br aY bt bb bx a2 bw bW bO
 go_loopw [4,5] (fun vn aI wr=>∃ (ok:Bool) (o:Int) (m:List Xe) (e:Xe),vn=.int .i64 o/\aI=.bool ok/\Hid (StI b aa wr m ok o e)/\Hid (N h m wr)/\Hid (Kq (h - 1) cb r wr)/\Hid (qas wr h e.x.kind (.slice e.A e.x.raw.length e.ca) (sB e.x.m) (.slice e.B e.x.C.length e.cb) e.x.al)) (fun vn aI _=>msI l vn aI)
 case atStart=>exact ⟨ok,o,[],e,rfl,rfl,bn.o,a5.o,Kq.refl _ _ _,O.o⟩
 case round=>
  clear bn a5 O;obtain ⟨ok,o,m,e,rfl,rfl,aS,aL,bh,O⟩:=hrel;cases ok with
  | false=>
   clear bu ag ae am aw bs;go_wp2
   go_end0
   exact ⟨⟨_,rfl⟩,.inl ⟨h,m,G.o,aS.o.2 rfl,aL.o⟩⟩
  | true=>
   obtain ⟨bz,bS,bA,bJ,bK,bB⟩:=O.o.cells;obtain ⟨aj,a0,a4,bq,a7,b0,bi,be⟩:=aS.o.1 rfl;have bX:=ae.o h m e wr G.o O.o.lt aL.o ⟨⟨_,qeW bi (qgx rfl a0) e a4⟩,be⟩;have bG:Hid (o=((aj+e.x.raw.length:Nat):Int)/\aj+e.x.raw.length<=l):=⟨bq,by rw [<- aK.o];exact a7⟩;obtain ⟨cg,tmps,assign,body,aR,M⟩:=bX;simp only [Xe.v] at aR;clear a0 a4 bq a7 b0 bi be aL;refine (wpIn_wide (n:=n)).1 ?_
   gi_wp2
   refine ⟨fun K=>(by cases K),M.mono ?_⟩;rintro b7 y (⟨rfl,ay,aJ⟩ | ⟨rfl,bD⟩)
   ·have aF:Hid (Kq (h - 1) cb r y):=bh.o.trans (aJ.le (Nat.sub_le h 1))
    have bl:Hid (N h (m++[e]) y):=ay;have I5:qas y h e.x.kind (.slice e.A e.x.raw.length e.ca) (sB e.x.m) (.slice e.B e.x.C.length e.cb) e.x.al:=aJ.2 h _ (Qa _) (by have ad:=aZ.o;have af:=G.o;omega) O.o rfl;obtain ⟨aT,au⟩:=bs.o h r G.o bm.o y aF.o;have au:=au o;have bd:=aT.cell;have I5:=J9 I5;clear ay aJ M aR bz bS bA bJ bK bB O bh aT
    gi_wp2
    gi_wp2_with fail
    refine ⟨trivial,fun K=>(by cases K),(callsIn_wide.2 au).mono ?_⟩;rintro ac z M;obtain ⟨k,Y,az,rfl,E,U,ab⟩:=ql9 M;have I6:qas z h e.x.kind (.slice e.A e.x.raw.length e.ca) (sB e.x.m) (.slice e.B e.x.C.length e.cb) e.x.al:=I5.o.all E;have aU:=qwp aS.o (Qj bg.o (Qj (QV (show q.heap.size<y.heap.size by have ad:=G.o;have af:=I5.o.lt;omega)) (Qa _))) U ab;have bU:Hid (az=true->o<Y/\Y<=(l:Int)):=fun ac=>by
     obtain ⟨ch,cc,bT,bL,bP,-⟩:=U ac;have b2:=qbI (qgx rfl bT);rw [Zj,aK.o] at b2;rw [bL] at bP;have:=aK.o;omega
    have bc:=am.o h G.o _ _ _ bl.o E;have aV:Kq (h - 1) cb r z:=aF.o.trans (Kq.of_below E);obtain ⟨aN,bY,T,ar,aQ,aC,aM,aB⟩:=I6.put k.x.kind (.slice k.A k.x.raw.length k.ca) (sB k.x.m) (.slice k.B k.x.C.length k.cb) k.x.al;have bj:=J9 (bu.o z aN (m++[e]) e k Y az I6 bY T bc aU);have bM:Hid (qas aN h k.x.kind (.slice k.A k.x.raw.length k.ca) (sB k.x.m) (.slice k.B k.x.C.length k.cb) k.x.al):=T;have bI:Hid (Kq (h - 1) cb r aN):=aV.trans ⟨by omega,fun aj b6 aq cj b3 _=>(aB aj (by have ad:=aZ.o;have af:=G.o;omega)).trans b3⟩;obtain ⟨br,aY,bt,bb,bx,a2⟩:=I6.cells;clear M au U ab E I5 aU bc aV T ar aQ aC aM aB I6 bl aF
    gi_wp2
    go_roundw
    case rel=>exact ⟨az,Y,m++[e],k,rfl,rfl,bj.o.2,bj.o.1,bI.o,bM.o⟩
    case measure=>
     obtain ⟨b4,cd⟩:=bG.o;cases az with
     | false=>
      show msI l _ (.bool false)<msI l (.int .i64 o) (.bool true);rw [qzG,qvE];simp only [intOf];omega
     | true=>
      obtain ⟨ck,b9⟩:=bU.o rfl;show msI l (.int .i64 Y) (.bool true)<msI l (.int .i64 o) (.bool true);rw [qvE,qvE];simp only [intOf];omega
   ·clear M aR
    gi_wp2
    go_wp2
    go_end0
    exact ⟨⟨_,rfl⟩,.inr ⟨h,_,G.o,bD⟩⟩
end Go.Proofs.YtecpnfhpcamljaaGreatDoor
namespace Go.Proofs.YtecpnfhpcamljaaGreatDoor
open Tryz
open Go.RowKit Go.Shelf
attribute [local go_sem] Oper.semAt_some
theorem qhM {F:Fence} {n:Nat} {w w1:World} {t ty:TypeId} {v h q:Value} (z:(Builtin.append_ #[t,t] ty #[v,h]).run prog w=.ok q w1) {ops:Array Oper} {rest:List Oper} {o:Oper} {a:Act} {Q:Exit->Act->World->Prop} (K:o.guard=none) (s x:Operand)
  (c:o.op=.call {callee:=.builtin .append,args:=#[s,x],argTypes:=#[t,t]}) (E:o.type=ty) (G:a.eval s=v) (O:a.eval x=h) (M:wpListIn F n prog ops Q rest (a.put o.dst q) w1):wpListIn F n prog ops Q (o :: rest) a w:=by
 subst E;refine wpListIn_plain K fun U y=>?_
 unfold Oper.wpIn;refine ⟨?_,?_⟩
 ·simp [Oper.about,c,resolve,Target.leads,Sem.run_pure]
 ·rw [Oper.semAt_plain F _ _ (by rw [c];intro T J;cases J)]
  simp [execOp,c,resolve,invoke,builtin,G,O,z,Result.andThen];exact y _ _ M
theorem qvq {h o:World} (k:Below h.heap.size h o) (B:Nat):KeepsFrom B h o:=⟨k.size,fun y z _ q _=>(k.block y (Qb.1 q).1).trans q⟩
theorem quE {w:World} {base n size:Nat} {e:TypeId} {v:Value} {xs:List Value} {row:Option Nat} (q:w.ownsRow base e size v n xs) (G:∀ r,row=some r->∃ o:Obj,w.heap[r]?=some o/\o.isCells=false) (r:Nat) (E:row=some r):v.ownBlock≠some r:=fun z=>by
 obtain ⟨K,y⟩:=qh9 q z;obtain ⟨o,h,J⟩:=G r E;rw [y] at h;obtain rfl:=Qs h;cases J
theorem qoD {w:World} {row:Option Nat} (G:∀ r,row=some r->∃ o:Obj,w.heap[r]?=some o/\o.isCells=false):∀ h,row=some h->∀ z e q,w.heap[h]?=some (.cells z e q)->e≠5/\e≠56:=fun h J z e q E=>by
 obtain ⟨o,y,K⟩:=G h J;rw [E] at y;obtain rfl:=Qs y;cases K
theorem quT {w:World} {z:Nat} (G:∃ q h,w.heap[z]?=some (.cells q 45 h)):∀ r,some z=some r->∀ q e h,w.heap[r]?=some (.cells q e h)->e≠5/\e≠56:=fun r J q e h y=>by
 cases J;obtain ⟨M,K,E⟩:=G;rw [E] at y;simp only [Qv,Obj.cells.injEq] at y;rw [<- y.2.1];exact ⟨by decide,by decide⟩
theorem qc1.keeps {w w':World} {n:Nat} {r:Xe} {row:Option Nat} (h:qc1 w n r) (q:w.grownBy w' row) (y:∀ r,row=some r->∃ o:Obj,w.heap[r]?=some o/\o.isCells=false):qc1 w' n r:=h.grown q (qoD y)
theorem qbq.keeps {w w':World} {y n:Nat} {v:Value} {R:List Xe} {row:Option Nat} (h:qbq w y n v R) (z:w.grownBy w' row) (q:∀ r,row=some r->∃ o:Obj,w.heap[r]?=some o/\o.isCells=false):qbq w' y n v R:=h.grown z (quE h.1 q) (qoD q)
theorem qas.keeps {w w':World} {k:Nat} {h:Int} {va vb:Value} {s:ByteArray} {al:Bool} {row:Option Nat} (e:qas w k h va s vb al) (z:w.grownBy w' row) (E:∀ r,row=some r->∃ o:Obj,w.heap[r]?=some o/\o.isCells=false):qas w' k h va s vb al:=by
 refine (z.block k e.lt fun G=>?_).trans e;obtain ⟨o,q,y⟩:=E k G.symm;rw [show w.heap[k]?=_ from e] at q;obtain rfl:=Qs q;cases y
theorem qnY (V:Nat) (b:Str) (A:Option Addr) (cap l:Nat) (ab:b.length=l) (J:l<=cap) (aM:cap<=maxLen) (bp:l<=90000) (w:World) (aq:Boxed w V 35 (.slice A l cap)) (aE:BytesAt w A b) (az:qad w) :
  Calls prog 97 #[.slice none 0 0,.func (.func 98) #[] #[.pointer (some ⟨V,0,none⟩)]] w (qfH w (itemsR b)):=by
 obtain ⟨n,X⟩:=N9 (w.heap.size);have bA:=J9 X;obtain ⟨T,ak⟩:=N9 (w.alloc (.cells #[.slice none 0 0] 40));have aa:Below w.heap.size w T:=by rw [<- ak];exact B0
 have aI:T.heap.size=n+1:=by rw [<- ak,<- X];simp
 have am:Boxed T n 40 (.slice none 0 0):=by rw [<- ak,<- X];exact World.alloc_heap_new w _
 have aF:=qj3 2 V n b A cap l ab J aM (by omega) T ((aa.block V aq.lt).trans aq) (aE.below aa) (az.below aa) (by omega) (by have:=aq.lt;omega) (fun a4 a2 be=>by have:=ql2 aE a4 a2 be;omega) (by have:=az.lt;omega);have am:=J9 am;have B0:Hid (Below n w T):=by rw [<- X];exact aa
 have a3:=J9 ab;have bh:=J9 aI;have ag:Hid (w.heap.size=n):=X;clear ab J aM aq aE az aa;refine callsIn_wide.1 (callsIn_of_wp_marks (n:=3) func97 rfl trivial ?_ rfl);simp only [ntmps97,List.size_toArray,Qt,QP,Nat.reduceAdd,Nat.reduceSub,Array.replicate_succ,Array.replicate_zero,List.push_toArray,List.append_toArray,List.nil_append,Zn];refine wpIn_wide.2 ?_
 go_wp2_with fail
 clear X ak;rw [aI] at aF;have bC:T.heap.size+2=n+3:=by omega
 refine wpIn_wide.1 (Stops.qBC (F:=Fence.wide) (n:=3) rfl (by omega) (gf:=98) (lb:=#[.pointer (some ⟨V,0,none⟩)]) rfl trivial (enters_of func98 (by kernel_rfl) rfl)
  aF (fun r E=>r.trans E) (fun k c l W bc _ ab au=>Kq.put k n c l W bc ab au) (fun _=>rfl)
  (fun k G c=>∃ A o h,Boxed c n 40 (.slice A (List.length h) o)/\qbq c (k+1) (n+1) (.slice A h.length o) h/\h.map Xe.x=G.map Xe.x/\Below n w c)
  (fun _ _ _=>False)
  (fun k M aC aj aG row r q z=>by
   obtain ⟨A,o,h,x,y,D,R⟩:=r;exact ⟨A,o,h,x.kept q (fun e=>by have:=(z _ e.symm).1;omega),y.keeps q (fun j e=>(z j e).2),D,R.grown q (by have:=x.lt;omega) (fun j e=>by have:=(z j e).1;omega)⟩)
  (fun k M aC aj aG r q a0=>by
   obtain ⟨A,o,h,x,y,D,R⟩:=r;exact ⟨A,o,h,x.kept q (fun e=>by have:=Qs e;omega),y.grown q (fun j e ay=>by have a7:=(World.ownsRow.lt y.1 j ay).1;have:=Qs e;omega) (quT a0),D,R.grown q (by have:=x.lt;omega) (fun j e=>by have:=Qs e;omega)⟩)
  (fun k M aC aj aG row r q z=>r)
  (fun k aj M aQ bx=>⟨none,0,[],(aQ.block n am.o.lt).trans am.o,qiX _ _ _,rfl,B0.o.trans (aQ.mono (by omega))⟩)
  (fun k G a aT c=>qc1 c (n+1) a/\(G++[a]).map Xe.x <+: itemsR b/\∃ E,k<E/\qas c E a.x.kind (.slice a.A a.x.raw.length a.ca) (sB a.x.m) (.slice a.B a.x.C.length a.cb) a.x.al/\aT={tmps:=#[.slice none 0 0,.func (.func 98) #[] #[.pointer (some ⟨V,0,none⟩)],.pointer (some ⟨n,0,none⟩),undef,.slice none 0 0,.pointer (some ⟨E,0,none⟩),.func (.func 98) #[] #[.pointer (some ⟨V,0,none⟩)],a.v,undef,undef,undef,undef,undef],defers:=[]})
  (fun k G a aC aj aG row r q z=>by
   obtain ⟨bd,x,E,y,D,R⟩:=r;exact ⟨bd.keeps q (fun j e=>(z j e).2),x,E,y,D.keeps q (fun j e=>(z j e).2),R⟩)
  ?assign ?body ?done ?stop)
 case assign=>
  rintro a6 k G a c bo M aX ⟨A,o,h,Z,ao,af,ah⟩ aK ad;simp only [Xe.v] at ad |-
  gi_wp2
  exact ad _ _ ((KeepsOthers.alloc _ _).from _) (Kq.of_below (up1 _ _)) (by simp;omega) ⟨A,o,h,Z.alloc _,ao.below (up1 _ _),af,ah.trans ((up1 _ _).mono (by omega))⟩ ⟨aK.2.below (up1 _ _),aK.1,c.heap.size,aX,World.alloc_heap_new c _,rfl⟩
 case body=>
  rintro a6 k G a aT c M aX ⟨A,o,h,Z,ao,af,ah⟩ ⟨ar,aR,E,aP,aS,rfl⟩;have aW:Hid (h.length+1<=100000):=by
   have x:=congrArg List.length af;have y:=aR.length_le;have D:=qhP b;have R:=a3.o;simp only [QC,Qk,Qt,QP] at x y;show _<=_;omega
  have bs:=Z.cell;obtain ⟨bi,bu,bm,bq,br,bn⟩:=aS.cells;have K:=up1 c (.cells #[.int .i64 a.x.kind,.slice a.A a.x.raw.length a.ca,.string (sB a.x.m),.slice a.B a.x.C.length a.cb,.bool a.x.al] 45);have av:=qqs c a ar.bytes ar.ops;obtain ⟨ax,bg⟩:=N9 (c.alloc (.cells #[.int .i64 a.x.kind,.slice a.A a.x.raw.length a.ca,.string (sB a.x.m),.slice a.B a.x.C.length a.cb,.bool a.x.al] 45));rw [bg] at K av;have A1:Boxed ax n 40 (.slice A h.length o):=(K.block _ Z.lt).trans Z;have aB:=ao.below K;have aN:∀ j∈[a],qc1 ax (n+1) j:=fun j z=>by
   obtain rfl:=QI.1 z;exact ar.below K
  obtain ⟨bz,s,aw,ac,aD,aV⟩:=qmy ax (k+1) (n+1) (.slice A h.length o) h aB (some ⟨c.heap.size,0,none⟩) 1 [a] av aN (by have:=K.size;omega) aW.o;obtain ⟨U,O,rfl,-,-,-⟩:=ac.its;obtain ⟨Y,ap⟩:=N9 ((h++[a]).length);rw [ap] at aw ac;have ae:Boxed s n 40 (.slice A h.length o):=(aD.block n (by omega)).trans A1;have bB:=ae.cell;have bt:=ae.frozen;have bb:=J9 aw;have ai:Below (k+1) c s:=(K.mono (by omega)).trans aD;have aZ:Hid (KeepsFrom T.heap.size c (s.setCell ⟨n,0,none⟩ (.slice U Y O))/\Kq k n c (s.setCell ⟨n,0,none⟩ (.slice U Y O))/\∃ A o R2,Boxed (s.setCell ⟨n,0,none⟩ (.slice U Y O)) n 40 (.slice A (List.length R2) o)/\qbq (s.setCell ⟨n,0,none⟩ (.slice U Y O)) (k+1) (n+1) (.slice A R2.length o) R2/\R2.map Xe.x=(G++[a]).map Xe.x/\Below n w (s.setCell ⟨n,0,none⟩ (.slice U Y O))):=by
   have q:=qaO s n 0 (.slice U Y O);refine ⟨(qvq K _).trans (((KeepsOthers.of_grownBy aV fun bw W e au=>?_).trans (KeepsOthers.setCell _ _ _)).from _),⟨by have:=ai.size;simpa using this,fun aJ W x y D R=>?_⟩,U,O,h++[a],by rw [ap];exact Boxed.set _ ae,?_,by rw [Zg,Zg,af],?_⟩
   ·obtain ⟨a9,J⟩:=qh9 aB.1 e
    rw [J] at au;obtain rfl:=Qs au;rfl
   ·exact (heap_setCell_other s ⟨n,0,none⟩ aJ _ y).trans ((ai.block aJ (by omega)).trans D)
   ·rw [ap]
    refine ac.grown q (fun j e ay=>?_) (fun j e a9 bj bD J=>?_)
    ·have a7:=(World.ownsRow.lt ac.1 j ay).1
     have:=Qs e;omega
    ·cases e
     rw [show s.heap[n]?=_ from ae] at J;simp only [Qv,Obj.cells.injEq] at J;rw [<- J.2.1];exact ⟨by decide,by decide⟩
   ·exact (ah.trans (ai.mono (by omega))).setCell (p:=⟨n,0,none⟩) (Qa _) _
  clear Z ao af ah ar aR aS K av A1 aB aN aw ac aD aV ae ai ap aW
  gi_wp2_with (gi_at_builtin;refine qhM bb.o rfl _ _ rfl rfl rfl rfl ?_)
  exact aZ.o
 case done=>
  rintro an k bk c a5 M aH ⟨A,o,h,aL,aO,aY,aU⟩ ad;have bl:=aL.cell;have aA:=J9 ad;have bf:=J9 aO;have a8:=J9 aU;have a1:Hid (h.map Xe.x=itemsR b):=aY.trans aH;have bv:Hid (n<c.heap.size):=aL.lt;clear aO aY aU ad aF aH
  go_wp2_with fail
  have q:=grownBy_putObj' c an (.deferred none);refine ⟨by simp,.inl ⟨_,_,rfl,run_takeDeferred aA.o,?_⟩⟩;refine ⟨.slice A h.length o,?_,?_⟩
  ·simp [results,results97,go_sem]
  ·have aP:∀ j,some an=some j->∃ W:Obj,c.heap[j]?=some W/\W.isCells=false:=fun j e=>by cases e;exact ⟨_,aA.o,rfl⟩
   refine ⟨A,o,h,rfl,a1.o,?_,?_⟩
   ·rw [ag.o]
    exact (bf.o.keeps q aP).lift (by omega) (by omega)
   ·rw [ag.o]
    exact a8.o.trans (belowK_b (w:=w) (by rw [ag.o];omega) c an _ _ (by rw [ag.o];omega) aA.o rfl rfl)
 case stop=>
  rintro an k G c a5 M r;exact r.elim
theorem qk8 (A:Option Addr) (l cap:Nat) (w:World):Calls prog 58 #[.slice A l cap] w fun h e=>h=.returned (.func (.func 98) #[] #[.pointer (some ⟨w.heap.size,0,none⟩)])/\w.alloc (.cells #[.slice A l cap] 35)=e:=by
 go_enter func58,ntmps58
 go_wp2;go_ret;exact ⟨rfl,rfl⟩
theorem qhN (c:Nat) (b:Str) (A:Option Addr) (cap l:Nat) (O:b.length=l) (J:l<=cap) (V:cap<=maxLen) (U:l<=90000) (w:World) (G:Boxed w c 35 (.slice A l cap)) (M:BytesAt w A b) (F:qad w) :
  Calls prog 57 #[.func (.func 98) #[] #[.pointer (some ⟨c,0,none⟩)]] w (qfH w (itemsR b)):=by
 have q:=qnY c b A cap l O J V U w G M F;clear O J V U G M F
 go_enter func57,ntmps57
 go_wp2_with fail
 refine q.mono ?_;rintro Z W ⟨h,y,e,rfl,E,T,R⟩;have z:=J9 (show qfH w (itemsR b) (.returned (.slice h e.length y)) W from ⟨h,y,e,rfl,E,T,R⟩);obtain ⟨aa,K⟩:=N9 (e.length);rw [K] at z |-;clear E T R K q;go_wp2;go_ret;exact z.o
theorem qjW (b:Str) (A:Option Addr) (cap l:Nat) (U:b.length=l) (M:l<=cap) (aa:cap<=maxLen) (Z:l<=90000) (w:World) (T:BytesAt w A b) (K:qad w) :
  Calls prog 28 #[.slice A l cap] w (qfH w (itemsR b)):=by
 have IO:=qk8 A l cap w;have F:=J9 (fun c (e:Below w.heap.size w c) (ac:Boxed c w.heap.size 35 (.slice A l cap))=>qhN w.heap.size b A cap l U M aa Z c ac (T.below e) (K.below e));clear U M aa Z T K
 go_enter func28,ntmps28
 go_wp2_with fail
 refine IO.mono ?_;rintro ab c ⟨rfl,q⟩;have e:Below w.heap.size w c:=by rw [<- q];exact B0
 have O:=F.o c e (by rw [<- q];exact World.alloc_heap_new w _);have h:=J9 e;clear IO F q e
 go_wp2_with fail
 refine O.mono ?_;rintro ab ad ⟨z,E,y,rfl,J,W,V⟩;have G:=J9 (show qfH w (itemsR b) (.returned (.slice z y.length E)) ad from ⟨z,E,y,rfl,J,W.lift h.o.size,h.o.trans (V.mono h.o.size)⟩);obtain ⟨ae,R⟩:=N9 (y.length);rw [R] at G |-;clear J W V R O;go_wp2;go_ret;exact G.o
theorem qwM (A:Option Addr) (cap:Nat) (b:Str) (w:World) (H:BytesAt w A b) (V:b.length<=cap/\cap<=maxLen) (ad:qad w) :
  Calls prog 8 #[.slice A b.length cap] w fun k h=>k=.returned (.bool true)/\Below w.heap.size w h:=by
 obtain ⟨am,ae⟩:=N9 (b.length);obtain ⟨ac,ao⟩:=V;rw [ae] at ac |-;have ar:=J9 (fun h (j:Below w.heap.size w h)=>qbw h (ad.below j));by_cases a3:am<=300
 rotate_left
 ·have bL:¬(am:Int)<=300:=by omega
  have ai:=ar.o w (Qc _ _);clear H ad ae a3 ar ac ao
  go_enter func8,ntmps8
  go_wp2_with fail
  refine ai.mono ?_;rintro k a2 ⟨rfl,U⟩;have T:=J9 U;clear ai U;go_wp2;go_ret;exact ⟨rfl,T.o⟩
 have bL:(am:Int)<=300:=by omega
 have aV:=J9 (qjW b A cap am ae ac ao (by omega) w H ad);have aL:=J9 (fun h (j:Below w.heap.size w h)=>qhE b A cap am ae ac ao (by omega) h (H.below j));have aW:=J9 (qrt b);have bd:(itemsR b).length<=300:=Qj (qhP b) (by omega);have bO:=J9 ad
 -- the texts of items with a place
 have af:Hid (∀ y:List Xe,y.map Xe.x=itemsR b->y.map qbt=(itemsR b).map fun r=>sB (itemB r)):=fun y j=>by rw [<- j,List.map_map];rfl
 have aq:Hid (∀ y:List Xe,y.map Xe.x=itemsR b->y.length<=300/\∀ q∈y,qcj q.x):=fun y j=>by
  refine ⟨by have:=congrArg List.length j;rw [QC] at this;omega,fun q bT=>?_⟩;have K:q.x∈itemsR b:=by rw [<- j];exact List.mem_map_of_mem bT
  obtain ⟨⟨-,bX⟩,b5,b1,-⟩:=aW.o _ K;exact ⟨by omega,by omega,by omega⟩
 have aK:Hid ((false=true)↔(⟨#[]⟩:ByteArray)∈(itemsR b).map fun r=>sB (itemB r)):=by
  show _↔_;refine ⟨fun j=>(by cases j),fun j=>?_⟩;exfalso;obtain ⟨r,bq,k⟩:=Zq.1 j;have bD:itemB r=[]:=by
   have:=congrArg (fun bx:ByteArray=>bx.data.toList) k;simpa [sB] using this
  exact qvd (aW.o r bq) bD
 obtain ⟨bu,a6⟩:=N9 (itemsR b);rw [a6] at aV aL af aq aK bd;obtain ⟨i,hF⟩:=N9 ((bu.map fun r=>sB (itemB r)));obtain ⟨M,bp⟩:=N9 (i.length);have x:=J9 bp;rw [hF] at af aK;clear H ad ae a3 aW ac ao a6 hF bp bd
 go_enter func8,ntmps8
 go_wp2_with fail
 refine aV.o.mono ?_;rintro k bC ⟨A1,bz,R1,rfl,aN,br,aX⟩;have ay:=J9 aX;obtain ⟨az,ah⟩:=aq.o R1 aN;have an:=qha R1 A1 R1.length bz rfl (by omega) ah bC (bO.o.below aX) br.itsP;rw [af.o R1 aN] at an;obtain ⟨bV,aE⟩:=N9 (R1.length);rw [aE] at an;rw [aE];clear aV aX br ah aE az aN
 go_wp2_with fail
 refine an.mono ?_;rintro k a2 ⟨bb,a7,rfl,a8,a9⟩;rw [x.o];have a1:=J9 a8;have T:=J9 (ay.o.trans (a9.mono ay.o.size));have R2:=aL.o a2 T.o;clear an a8 a9 ay aL
 go_wp2_with fail
 refine R2.mono ?_;rintro k ag ⟨bN,bZ,aa,rfl,aQ,bs,aF⟩;have aM:=J9 (T.o.trans (aF.mono T.o.size));have bc:=J9 (a1.o.below aF);have aH:=af.o aa aQ;obtain ⟨az,ah⟩:=aq.o aa aQ;have aC:=bs.itsP;obtain ⟨l,aB⟩:=N9 (ag.heap.size);obtain ⟨bR,av⟩:=N9 (aa.length);obtain rfl:M=bR:=by rw [<- x.o,<- av,<- aH,QC]
 have ax:Hid (∀ z,z<M->∃ q:Xe,(∀ s,Below l ag s->ItJ s bN q z)/\i.take (z+1)=i.take z++[qbt q]/\∀ s,Below l ag s->Calls prog 22 #[q.v] s fun k h=>k=.returned (.string (qbt q))/\Below s.heap.size s h):=fun z aJ=>by
  have aR:z<aa.length:=by omega
  refine ⟨aa[z],fun s U=>(aC.below (by rw [aB];exact U)).j aR,?_,fun s U=>?_⟩
  ·rw [<- aH,QL (by rw [QC];exact aR)]
   simp
  ·exact qfJ aa[z] (ah _ (QJ _)) s (qmQ ((aC.below (by rw [aB];exact U)).j aR))
 rw [av] at az;rw [av];have bK:Hid (i.take M=i):=QW (by rw [x.o];omega);clear R2 aF bs aQ aH ah aC av T a1 af aq;go_wp2
 go_loopw [4,17] (fun bF aI wr=>∃ (e:Nat) (F:Option Addr) (R:Nat),e<=M/\aI=.int .i64 e/\bF=.slice F e R/\Hid (qdz wr l (.slice F e R) (i.take e))/\Hid (Below l ag wr)/\l<=wr.heap.size) (fun _ aI _=>M - (intOf aI).toNat)
 case atStart=>exact ⟨0,none,0,Qu _,rfl,rfl,qpX _ _,Qc _ _,by omega⟩
 case round=>
  obtain ⟨e,F,R,bY,rfl,rfl,ap,Z,bJ⟩:=hrel;by_cases bU:e<M
  ·obtain ⟨q,aJ,aT,V⟩:=ax.o e bU
   obtain ⟨b2,b0,bw,bf,aZ,bg,bm,bl,-,-⟩:=aJ wr Z.o;subst bw;unfold Xe.v at V;obtain ⟨bj,bk⟩:=N9 (qbt q);rw [bk] at V aT;have aD:=J9 V;have bS:=J9 aT;obtain ⟨v,a4,bi,a0,be⟩:=q;simp only at bf aZ bg bm bl aD;obtain ⟨r,W,bq,b3,ab,aS,bW⟩:=Fr.box (Fr.nil wr) #[.int .i64 v.kind,.slice a4 v.raw.length bi,.string (sB v.m),.slice a0 v.C.length be,.bool v.al] 45;have I5:qas W r v.kind (.slice a4 v.raw.length bi) (sB v.m) (.slice a0 v.C.length be) v.al:=ab.o.1;obtain ⟨bv,bM,bA,bG,bI,bB⟩:=I5.cells;have L:=J9 (Z.o.trans (aS.mono bJ));have bn:Hid (qdz W l (.slice F e R) (i.take e)):=ap.o.below aS;have bh:=J9 (aD.o W L.o);have a5:l<=W.heap.size:=(by omega);have aA:(i.take e).length=e:=(by rw [QH,x.o];omega);clear aJ aT V bk ab aS I5 ap Z aD ax
   go_wp2_with fail
   refine bh.o.mono ?_;rintro k aj ⟨rfl,E⟩;have au:=J9 (L.o.trans (E.mono a5));have bH:Hid (qdz aj l (.slice F e R) (i.take e)):=bn.o.below E;have aY:l<=aj.heap.size:=Qj a5 E.size;have bE:Hid (∀ J G h,qdz h l (.slice J ((i.take e).length+1) G) (i.take e++[bj])->Below l aj h->Hid (qdz h l (.slice J (e+1) G) (i.take (e+1)))/\Hid (Below l ag h)/\l<=h.heap.size):=fun J G h K O=>by
    rw [aA,<- bS.o] at K;exact ⟨K,au.o.trans O,Qj aY O.size⟩
   clear bh E L bn bv bM bA bG bI bB bf aZ bg bm bl
   go_wp2_with (at_builtin;refine qiQ bH.o bj (by rw [aA];omega) aY rfl _ _ rfl rfl rfl ?_;intro J G h K O;have aG:=bE.o J G h K O;clear K O;rw [aA])
   go_roundw
   case rel=>exact ⟨e+1,J,G,by omega,by go_num,rfl,aG.1.o,aG.2.1.o,aG.2.2⟩
   case measure=>simp [intOf];omega
  ·obtain rfl:e=M:=by omega
   have aw:Hid (Below w.heap.size w wr):=aM.o.trans (Z.o.mono (by have:=aM.o.size;omega));have ai:=J9 (ar.o wr aw.o);have aU:=J9 (bc.o.below (by rw [aB];exact Z.o));have bo:Hid (qdl wr F i):=by
    have j:=ap.o;rw [bK.o] at j;obtain ⟨J,G,k,O⟩:=j.strs;injection k with bP
    rw [bP];exact O
   clear ap Z ax ar bc aM
   go_wp2_with fail
   refine ai.o.mono ?_;rintro k W ⟨rfl,ak⟩;have aP:=qoi bb F a7 R i i (by rw [x.o];unfold maxLen;omega) (by rw [x.o];unfold maxLen;omega) W (aU.o.below ak) (bo.o.below ak);have ab:=J9 (aU.o.below ak);have L:=J9 (aw.o.trans (ak.mono aw.o.size));rw [x.o,Qn rfl] at aP;clear ai ak aU bo aw
   go_wp2_with fail
   refine aP.mono ?_;rintro k aj ⟨rfl,E⟩;have aO:=qiy bb a7 i (by rw [x.o];unfold maxLen;omega) ⟨#[]⟩ false aK.o aj (ab.o.below E);have au:=J9 (L.o.trans (E.mono L.o.size));rw [x.o] at aO;clear aP E ab L
   go_wp2_with fail
   refine aO.mono ?_;rintro k b4 ⟨rfl,bt⟩;have bQ:=J9 (au.o.trans (bt.mono au.o.size));clear aO bt;go_wp2;go_ret;exact ⟨rfl,bQ.o⟩
end Go.Proofs.YtecpnfhpcamljaaGreatDoor
