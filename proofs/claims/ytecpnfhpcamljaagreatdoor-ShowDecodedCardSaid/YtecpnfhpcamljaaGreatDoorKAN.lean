/-
  Items and bytes (a part).
-/
import Derived.Test.YtecpnfhpcamljaaGreatDoorKAM
set_option linter.all false
set_option maxRecDepth 100000
set_option maxHeartbeats 4000000
namespace Go.Proofs.YtecpnfhpcamljaaGreatDoor
open Tryz
open Go.RowKit Go.Shelf
attribute [local go_sem] Oper.semAt_some
def qas (w:World) (b:Nat) (kind:Int) (va:Value) (s:ByteArray) (vb:Value) (al:Bool):Prop:=w.heap[b]?=some (.cells #[.int .i64 kind,va,.string s,vb,.bool al] 45 (0,0))
section
variable {w w':World} {b:Nat} {kind:Int} {va vb:Value} {s:ByteArray} {al:Bool}
theorem qas.lt (h:qas w b kind va s vb al):b<w.heap.size:=(Qb.1 h).1
theorem qas.all (h:qas w b kind va s vb al) (q:Below w.heap.size w w'):qas w' b kind va s vb al:=(q.block b h.lt).trans h
theorem qas.cells (h:qas w b kind va s vb al):w.cell? ⟨b,0,none⟩=some (.int .i64 kind)/\w.cell? ⟨b,1,none⟩=some va/\w.cell? ⟨b,2,none⟩=some (.string s)/\w.cell? ⟨b,3,none⟩=some vb/\w.cell? ⟨b,4,none⟩=some (.bool al)/\∀ i,w.frozen? ⟨b,i,none⟩=false:=
 ⟨C9 h 0,C9 h 1,C9 h 2,C9 h 3,C9 h 4,fun i=>Qp h i⟩
theorem qas.put (O:qas w b kind va s vb al) (z:Int) (K:Value) (G:ByteArray) (y:Value) (J:Bool) :
  ∃ w',((((w.setCell ⟨b,0,none⟩ (.int .i64 z)).setCell ⟨b,1,none⟩ K).setCell ⟨b,2,none⟩ (.string G)).setCell ⟨b,3,none⟩ y).setCell ⟨b,4,none⟩ (.bool J)=w'/\
   qas w' b z K G y J/\Below b w w'/\w'.heap.size=w.heap.size/\(∀ B u L,b<B->qaf w B u L->qaf w' B u L)/\(∀ B u L,b<B->qat w B u L->qat w' B u L)/\∀ k,k≠b->w'.heap[k]?=w.heap[k]?:=by
 refine ⟨_,rfl,?_,?_,by simp,fun B u L h E=>?_,fun B u L h E=>?_,fun k q=>?_⟩
 ·have M:=heap_setCell_same w b 0 _ _ (.int .i64 z) O
  have T:=heap_setCell_same _ b 1 _ _ K M;have V:=heap_setCell_same _ b 2 _ _ (.string G) T;have U:=heap_setCell_same _ b 3 _ _ y V;exact heap_setCell_same _ b 4 _ _ (.bool J) U
 ·exact (((((Qc b w).setCell (p:=⟨b,0,none⟩) (Qa _) _).setCell (p:=⟨b,1,none⟩) (Qa _) _).setCell (p:=⟨b,2,none⟩) (Qa _) _).setCell (p:=⟨b,3,none⟩) (Qa _) _).setCell (p:=⟨b,4,none⟩) (Qa _) _
 ·exact row_set (row_set (row_set (row_set (row_set E (p:=⟨b,0,none⟩) h _) (p:=⟨b,1,none⟩) h _) (p:=⟨b,2,none⟩) h _) (p:=⟨b,3,none⟩) h _) (p:=⟨b,4,none⟩) h _
 ·exact row_set (row_set (row_set (row_set (row_set E (p:=⟨b,0,none⟩) h _) (p:=⟨b,1,none⟩) h _) (p:=⟨b,2,none⟩) h _) (p:=⟨b,3,none⟩) h _) (p:=⟨b,4,none⟩) h _
 ·exact (heap_setCell_other _ ⟨b,4,none⟩ k _ q).trans ((heap_setCell_other _ ⟨b,3,none⟩ k _ q).trans ((heap_setCell_other _ ⟨b,2,none⟩ k _ q).trans ((heap_setCell_other _ ⟨b,1,none⟩ k _ q).trans (heap_setCell_other _ ⟨b,0,none⟩ k _ q))))
end
theorem qbQ (w:World) (n:Nat) (q:w.heap.size=n):∃ h,w.alloc (.cells #[.int .i64 0,.slice none 0 0,.string ⟨#[]⟩,.slice none 0 0,.bool false] 45)=h/\qas h n 0 (.slice none 0 0) ⟨#[]⟩ (.slice none 0 0) false/\Below w.heap.size w h/\h.heap.size=n+1:=by
 subst q;exact ⟨_,rfl,World.alloc_heap_new w _,(B0 (w:=w)),by simp⟩
def qth (w:World) (x:Ite) (e:Ending) (w':World):Prop:=∃ q h y c,e=.returned (.agg #[.int .i64 x.kind,.slice q x.raw.length h,.string (sB x.m),.slice y x.C.length c,.bool x.al])/\
 qat w' w.heap.size (.slice q x.raw.length h) x.raw/\qaf w' w.heap.size (.slice y x.C.length c) x.C/\Below w.heap.size w w'
theorem qfm (w:World) (n:Nat):qaf w n (.slice none 0 0) []:=Zm _ _ _ _
theorem BytesAt.cellAt {w:World} {A:Option Addr} {b:Str} (y:BytesAt w A b) {j:Nat} (q:j<b.length):∃ h g,A=some ⟨h,g,none⟩/\w.cell? ⟨h,g+j,none⟩=some (.int .u8 (b[j].toNat:Int)):=by
 rcases y with rfl | ⟨h,g,rfl,z⟩
 ·simp at q
 ·exact ⟨h,g,rfl,z j q⟩
theorem take_at {w:World} {A:Option Addr} {xs:Str} (j:BytesAt w A xs) (k:Nat):BytesAt w A (xs.take k):=by
 rcases j with rfl | ⟨h,b,rfl,q⟩
 ·exact .inl (by simp)
 ·refine .inr ⟨h,b,rfl,fun y z=>?_⟩
  rw [List.getElem_take];exact q y (by rw [QH] at z;omega)
theorem qld (b:Str) (aa:b≠[]) (A:Option Addr) (cap l:Nat) (r:b.length=l) (w:World) (H:BytesAt w A b) :
  Calls prog 100 #[.slice A l cap] w fun K ai=>K=.returned (.tuple #[.int .i64 (pgA b).1,.int .i64 ((pgA b).2:Nat)])/\ai=w:=by
 cases b with
 | nil=>exact absurd rfl aa
 | cons g E=>
  obtain ⟨ag,ae,rfl,aj⟩:=H.cellAt (j:=0) (by simp);simp only [List.getElem_cons_zero,Nat.add_zero] at aj;have ao:1<=l:=by simp at r;omega
  have ac:((g.toNat:Int) == 203)=decide (g=203):=qc2 g 203;have U:((g.toNat:Int) == 237)=decide (g=237):=qc2 g 237;have J:((g.toNat:Int) == 221)=decide (g=221):=qc2 g 221;have G:((g.toNat:Int) == 253)=decide (g=253):=qc2 g 253;have p:Hid (pgA (g :: E)=if g=203 then (1,1) else if g=237 then (2,1) else if g=221 then (if E.head?=some 203 then (5,3) else (3,1)) else if g=253 then (if E.head?=some 203 then (6,3) else (4,1)) else (0,0)):=rfl;obtain ⟨⟨af,ak⟩,ad⟩:=N9 (pgA (g :: E));rw [ad] at p |-;have z:Hid (∀ h y,E=h :: y->w.cell? ⟨ag,ae+1,none⟩=some (.int .u8 (h.toNat:Int))/\((h.toNat:Int) == 203)=decide (h=203)):=fun h y K=>by
   subst K;obtain ⟨an,ap,K,am⟩:=H.cellAt (j:=1) (by simp);simp only [Qv,Addr.mk.injEq] at K;obtain ⟨rfl,rfl,-⟩:=K;exact ⟨am,qc2 h 203⟩
  clear ad H aa;by_cases k:g=203
  ·rw [Qn k] at ac
   have e:=p.o;rw [Qi k] at e;obtain ⟨rfl,rfl⟩:=Prod.mk.inj e;clear k U J G p e z r
   go_enter func100,ntmps100
   go_wp2
   go_ret2
   exact ⟨rfl,rfl⟩
  rw [Qh k] at ac;by_cases u:g=237
  ·rw [Qn u] at U
   have e:=p.o;rw [Qe k,Qi u] at e;obtain ⟨rfl,rfl⟩:=Prod.mk.inj e;clear k u J G p e z r
   go_enter func100,ntmps100
   go_wp2
   go_ret2
   exact ⟨rfl,rfl⟩
  rw [Qh u] at U;by_cases c:g=221\/g=253
  ·by_cases q:E.head?=some 203
   ·obtain ⟨y,rfl⟩:∃ y,E=203 :: y:=by
     cases E with
     | nil=>cases q
     | cons h y=>simp only [List.head?_cons,Qv] at q;subst q;exact ⟨y,rfl⟩
    obtain ⟨O,M⟩:=z.o 203 y rfl;have aq:2<=l:=(by simp at r;omega);rw [show (((203:UInt8).toNat:Nat):Int)=203 from rfl] at O;have e:=p.o;rw [Qe k,Qe u] at e;rcases c with c | c
    ·rw [Qi c,Qi q] at e
     obtain ⟨rfl,rfl⟩:=Prod.mk.inj e;rw [Qn c] at J;rw [Qh (by rw [c];decide)] at G;clear k u c q p e z r M
     go_enter func100,ntmps100
     go_wp2
     go_ret2
     exact ⟨rfl,rfl⟩
    ·rw [Qe (by rw [c];decide),Qi c,Qi q] at e
     obtain ⟨rfl,rfl⟩:=Prod.mk.inj e;rw [Qn c] at G;rw [Qh (by rw [c];decide)] at J;clear k u c q p e z r M
     go_enter func100,ntmps100
     go_wp2
     go_ret2
     exact ⟨rfl,rfl⟩
   ·have e:=p.o
    rw [Qe k,Qe u] at e;have Z:(g=221/\af=3\/g=253/\af=4)/\ak=1:=by
     rcases c with c | c
     ·rw [Qi c,Qe q] at e
      obtain ⟨rfl,rfl⟩:=Prod.mk.inj e;exact ⟨.inl ⟨c,rfl⟩,rfl⟩
     ·rw [Qe (by rw [c];decide),Qi c,Qe q] at e
      obtain ⟨rfl,rfl⟩:=Prod.mk.inj e;exact ⟨.inr ⟨c,rfl⟩,rfl⟩
    obtain ⟨Z,rfl⟩:=Z;have ab:l=1\/(2<=l/\∃ h,w.cell? ⟨ag,ae+1,none⟩=some (.int .u8 (h:Int))/\((h:Int) == 203)=false):=by
     cases E with
     | nil=>simp at r;exact .inl r.symm
     | cons h y=>
      obtain ⟨O,M⟩:=z.o h y rfl;refine .inr ⟨by simp at r;omega,(h.toNat:Int),O,?_⟩;rw [M];simp only [List.head?_cons,Qv] at q;exact Qh q
    rcases Z with ⟨c,rfl⟩ | ⟨c,rfl⟩
    ·rw [Qn c] at J
     rw [Qh (by rw [c];decide)] at G;clear k u c q p e z r;rcases ab with rfl | ⟨ah,h,O,M⟩
     ·go_enter func100,ntmps100
      go_wp2
      go_ret2
      exact ⟨rfl,rfl⟩
     ·go_enter func100,ntmps100
      go_wp2
      go_ret2
      exact ⟨rfl,rfl⟩
    ·rw [Qn c] at G
     rw [Qh (by rw [c];decide)] at J;clear k u c q p e z r;rcases ab with rfl | ⟨ah,h,O,M⟩
     ·go_enter func100,ntmps100
      go_wp2
      go_ret2
      exact ⟨rfl,rfl⟩
     ·go_enter func100,ntmps100
      go_wp2
      go_ret2
      exact ⟨rfl,rfl⟩
  ·have W:g≠221:=fun T=>c (.inl T)
   have V:g≠253:=(fun T=>c (.inr T));rw [Qh W] at J;rw [Qh V] at G;have e:=p.o;rw [Qe k,Qe u,Qe W,Qe V] at e;obtain ⟨rfl,rfl⟩:=Prod.mk.inj e;clear k u W V c p e z r
   go_enter func100,ntmps100
   go_wp2
   go_ret2
   exact ⟨rfl,rfl⟩
theorem qli (kind:Int) (b:Str) (A:Option Addr) (cap l:Nat) (ak:b.length=l) (aB:l<=cap) (ax:cap<=maxLen) (k:Nat) (aM:k<=l) (aF:l<=10000) (w:World) (H:BytesAt w A b) :
  Calls prog 101 #[.int .i64 kind,.slice A l cap,.int .i64 k] w (qth w (qbv kind (b.take k))):=by
 obtain ⟨h,T⟩:=N9 (w.heap.size);obtain ⟨O,aL,aa,K,am⟩:=qbQ w h T;obtain ⟨z,ac⟩:=N9 (O.alloc (.cells #[] 5));have E:Below O.heap.size O z:=by rw [<- ac];exact qaE _ _
 have ad:Hid (qat z (h+1) (.slice (some ⟨h+1,0,none⟩) 0 0) []):=by rw [<- ac,<- am];exact qbn O [] (by decide)
 have ah:Hid (BytesAt z A (b.take k)):=take_at ((H.below K).below E) k;have I1:=J9 (aa.all E);have W:Hid (Below h w z):=by rw [<- T];exact K.trans (E.mono K.size)
 have ap:Hid (h+1<=z.heap.size):=by have:=E.size;show _<=_;omega
 have J:Hid ((b.take k).length=k):=by show _=_;rw [QH];omega
 have V:=J9 T;have aH:¬cap<k:=by omega
 unfold maxLen at ax;clear H K E aa ak
 go_enter func101,ntmps101
 have ai:Hid (∀ y q n,qat n (h+1) (.slice y k q) ([]++b.take k)->Below (h+1) z n->qas n h 0 (.slice none 0 0) ⟨#[]⟩ (.slice none 0 0) false/\qat n (h+1) (.slice y k q) (b.take k)/\Below h w n):=fun y q n M G=>⟨(G.block h (by omega)).trans I1.o,M,W.o.trans (G.mono (by omega))⟩
 clear W I1
 go_wp2_with (at_builtin;refine qfb (xs:=[]) (ys:=b.take k) ad.o ah.o ap.o (by rw [J.o];simp;omega) rfl _ _ rfl rfl rfl k J.o rfl k (by simp) ?_;intro y q n M G;obtain ⟨U,Z,ab⟩:=ai.o y q n M G;have I2:=J9 U;have av:=J9 Z;have af:=J9 ab;obtain ⟨aI,az,aN,aE,aC,aA⟩:=U.cells;clear M G U Z ab)
 obtain ⟨aJ,ar,aw,ae,aG,ay,ao,aK⟩:=I2.o.put kind (.slice y k q) ⟨#[]⟩ (.slice none 0 0) false;rw [ar];obtain ⟨ag,an,aj,aq,au,aD⟩:=aw.cells;refine bodyPost_ret (v:=.agg #[.int .i64 kind,.slice y k q,.string ⟨#[]⟩,.slice none 0 0,.bool false]) ?_ rfl ?_
 ·simp [results,results101,go_sem,ag,an,aj,aq,au]
 ·refine ⟨y,q,none,0,?_,?_,?_,?_⟩
  ·simp only [qbv,J.o];rfl
  ·simp only [qbv,J.o,V.o]
   exact (ao (h+1) _ _ (by omega) av.o).lift (by omega)
  ·exact qfm _ _
  ·rw [V.o];exact af.o.trans ae
end Go.Proofs.YtecpnfhpcamljaaGreatDoor
namespace Go.Proofs.YtecpnfhpcamljaaGreatDoor
open Tryz
open Go.RowKit Go.Shelf
attribute [local go_sem] Oper.semAt_some
def BsP (w:World) (A:Option Addr) (b:List Str):Prop:=b=[]\/∃ k q,A=some ⟨k,q,none⟩/\∀ h (E:h<b.length),∃ y z,w.cell? ⟨k,q+h,none⟩=some (.slice y b[h].length z)/\BytesAt w y b[h]
theorem BsP.below {w w':World} {A:Option Addr} {h:List Str} (z:BsP w A h) (k:Below w.heap.size w w'):BsP w' A h:=by
 rcases z with rfl | ⟨y,q,rfl,G⟩
 ·exact .inl rfl
 ·refine .inr ⟨y,q,rfl,fun K M=>?_⟩
  obtain ⟨J,O,b,E⟩:=G K M;exact ⟨J,O,(k.cell (Qq w _ b)).trans b,E.below k⟩
theorem BsP.at_ {w:World} {A:Option Addr} {y:List Str} (J:BsP w A y) {k:Nat} (E:k<y.length):∃ h b q z,A=some ⟨h,b,none⟩/\w.cell? ⟨h,b+k,none⟩=some (.slice q y[k].length z)/\BytesAt w q y[k]:=by
 rcases J with rfl | ⟨h,b,rfl,M⟩
 ·simp at E
 ·obtain ⟨q,z,G,K⟩:=M k E
  exact ⟨h,b,q,z,rfl,G,K⟩
end Go.Proofs.YtecpnfhpcamljaaGreatDoor
namespace Go.Proofs.YtecpnfhpcamljaaGreatDoor
open Tryz
open Go.RowKit Go.Shelf
structure Be where
 A:Option Addr
 cap:Nat
 xs:Str
def Be.v (r:Be):Value:=.slice r.A r.xs.length r.cap
def qt9 (R:List Be):List Value:=R.map Be.v
def qjy (w:World) (n:Nat) (v:Value) (R:List Be):Prop:=w.ownsRow n 35 1 v R.length (qt9 R)/\∀ h∈R,qat w n h.v h.xs
theorem qjy.below {w w':World} {n:Nat} {v:Value} {R:List Be} (e:qjy w n v R) (k:Below w.heap.size w w'):qjy w' n v R:=
 ⟨World.ownsRow.kept e.1 (row:=none) ⟨k.os,k.tape,k.output,k.size,fun g h _=>k.block g h⟩ (by
  cases y:v.ownBlock with
  | none=>exact .inl rfl
  | some r=>exact .inr (by simp)),fun q i=>(e.2 q i).below k⟩
theorem qjy.lift {w:World} {n m:Nat} {v:Value} {R:List Be} (h:qjy w n v R) (k:m<=n):qjy w m v R:=⟨row_mono h.1 k,fun r q=>(h.2 r q).lift k⟩
theorem qjy.bs {w:World} {n:Nat} {v:Value} {R:List Be} (g:qjy w n v R):∃ q h,v=.slice q R.length h/\BsP w q (R.map Be.xs):=by
 rcases g.1.2 with ⟨rfl,J⟩ | ⟨G,h,O,rfl,_,_,_⟩
 ·have:R=[]:=Qw J
  subst this;exact ⟨none,0,rfl,.inl rfl⟩
 ·refine ⟨_,h,rfl,.inr ⟨G,0,rfl,fun e M=>?_⟩⟩
  have k:e<R.length:=by simpa using M
  obtain ⟨z,E,K,y⟩:=(g.2 _ (QJ k)).bytes;have A:(R.map Be.xs)[e]=R[e].xs:=by simp
  rw [A];refine ⟨z,E,?_,y⟩;rw [QT,World.ownsRow.cellAt g.1 e (by omega)];unfold qt9;rw [Zi,Qg k,<- K];rfl
theorem qm5 {w:World} {n:Nat} {u:Value} {xs:Str} (h:qat w n u xs) {g:Nat} (e:u.ownBlock=some g):∃ y,w.heap[g]?=some (.cells y 5 (0,0)):=by
 rcases h.2 with ⟨rfl,_⟩ | ⟨z,E,G,rfl,_,q,_⟩
 ·simp [Value.ownBlock] at e
 ·simp only [Value.ownBlock,Qv] at e
  subst e;exact ⟨_,q⟩
structure Xe where
 x:Ite
 A:Option Addr
 ca:Nat
 B:Option Addr
 cb:Nat
instance:Inhabited Xe:=⟨⟨⟨0,[],[],[],false⟩,none,0,none,0⟩⟩
def Xe.a (r:Xe):Value:=.slice r.A r.x.raw.length r.ca
def Xe.b (r:Xe):Value:=.slice r.B r.x.C.length r.cb
def Xe.v (r:Xe):Value:=.agg #[.int .i64 r.x.kind,.slice r.A r.x.raw.length r.ca,.string (sB r.x.m),.slice r.B r.x.C.length r.cb,.bool r.x.al]
def Xe.c (r:Xe):List Value:=[.int .i64 r.x.kind,.slice r.A r.x.raw.length r.ca,.string (sB r.x.m),.slice r.B r.x.C.length r.cb,.bool r.x.al]
theorem Xe.qBK (r:Xe):r.c.length=5:=rfl
theorem Xe.c_lt (r:Xe) {i:Nat} {u:Value} (h:r.c[i]?=some u):i<5:=(QN.1 h).1
def cellsI (R:List Xe):List Value:=R.flatMap Xe.c
theorem qcw:∀ R:List Xe,(cellsI R).length=R.length*5
 | []=>rfl
 | r :: h=>by
  have q:=qcw h;show (r.c++cellsI h).length=(h.length+1)*5;rw [Qk,q,Xe.qBK];omega
theorem qhC (a b:List Xe):cellsI (a++b)=cellsI a++cellsI b:=List.flatMap_append
theorem qgd:∀ (R:List Xe) (j:Nat) (h:j<R.length) (i:Nat),i<5->(cellsI R)[j*5+i]?=R[j].c[i]?
 | x :: t,0,h,i,q=>by
  show (x.c++cellsI t)[0*5+i]?=_;rw [Nat.zero_mul,QT,List.getElem?_append_left (by rw [Xe.qBK];exact q)];rfl
 | x :: t,j+1,h,i,q=>by
  show (x.c++cellsI t)[(j+1)*5+i]?=_;rw [Zr (by rw [Xe.qBK];omega),Xe.qBK,show (j+1)*5+i - 5=j*5+i by omega,qgd t j (by simpa using h) i q];rfl
theorem qod (R:List Xe):∀ r∈cellsI R,r.oneCell'=true:=fun r h=>by
 unfold cellsI at h;obtain ⟨u,-,q⟩:=List.mem_flatMap.1 h;simp only [Xe.c,QM,Q9,or_false] at q;rcases q with rfl | rfl | rfl | rfl | rfl <;> rfl
theorem qmX (R:List Xe) (j:Nat) (u:Value) (h:(cellsI R)[j]?=some u):∃ (k:Nat) (y:k<R.length) (i:Nat),i<5/\j=k*5+i/\(R[k].c)[i]?=some u:=by
 have z:j<R.length*5:=by
  rw [<- qcw];exact (QN.1 h).1
 have q:j / 5<R.length:=by omega
 refine ⟨j / 5,q,j % 5,by omega,by omega,?_⟩;rw [<- qgd R (j / 5) q (j % 5) (by omega),show j / 5*5+j % 5=j by omega];exact h
def qdX (w:World) (A:Option Addr) (R:List Xe):Prop:=
 R=[]\/∃ i k,A=some ⟨i,k,none⟩/\∀ b (u:b<R.length),(∀ h q,(R[b].c)[h]?=some q->w.cell? ⟨i,k+(b*5+h),none⟩=some q)/\BytesAt w R[b].A R[b].x.raw/\qai w R[b].B R[b].x.C
theorem qdX.at_ {w:World} {A:Option Addr} {R:List Xe} (z:qdX w A R) {k:Nat} (u:k<R.length):∃ b e,A=some ⟨b,e,none⟩/\b<w.heap.size/\w.cell? ⟨b,e+k*5,none⟩=some (.int .i64 R[k].x.kind)/\w.cell? ⟨b,e+k*5+1,none⟩=some (.slice R[k].A R[k].x.raw.length R[k].ca)/\w.cell? ⟨b,e+k*5+2,none⟩=some (.string (sB R[k].x.m))/\w.cell? ⟨b,e+k*5+3,none⟩=some (.slice R[k].B R[k].x.C.length R[k].cb)/\w.cell? ⟨b,e+k*5+4,none⟩=some (.bool R[k].x.al)/\BytesAt w R[k].A R[k].x.raw/\qai w R[k].B R[k].x.C:=by
 rcases z with rfl | ⟨b,e,rfl,G⟩
 ·simp at u
 ·obtain ⟨y,E,K⟩:=G k u
  have h:∀ i q,(R[k].c)[i]?=some q->w.cell? ⟨b,e+k*5+i,none⟩=some q:=fun i q J=>by rw [Nat.add_assoc];exact y i q J
  exact ⟨b,e,rfl,Qq w _ (h 0 _ rfl),h 0 _ rfl,h 1 _ rfl,h 2 _ rfl,h 3 _ rfl,h 4 _ rfl,E,K⟩
theorem qdX.below {w w':World} {A:Option Addr} {R:List Xe} (z:qdX w A R) (h:Below w.heap.size w w'):qdX w' A R:=by
 rcases z with rfl | ⟨y,u,rfl,b⟩
 ·exact .inl rfl
 ·refine .inr ⟨y,u,rfl,fun i k=>⟨fun E J G=>?_,(b i k).2.1.below h,(b i k).2.2.below h⟩⟩
  have q:=(b i k).1 E J G;exact (h.cell (Qq w _ q)).trans q
theorem qdX.news {w:World} {A:Option Addr} {R:List Xe} (k:qdX w A R):R.length=0\/∃ a,A=some a/\∀ j b,(cellsI R)[j]?=some b->w.cell? (a.add j)=some b:=by
 rcases k with rfl | ⟨h,e,rfl,q⟩
 ·exact .inl rfl
 ·refine .inr ⟨_,rfl,fun j b i=>?_⟩
  have u:(⟨h,e,none⟩:Addr).add j=⟨h,e+j,none⟩:=by unfold Addr.add;split <;> simp_all
  rw [u];obtain ⟨z,E,y,J,rfl,G⟩:=qmX R j b i;exact (q z E).1 y b G
theorem qvk:(prog.info? 45).map (fun i=>(i.zero,i.size,i.bytes))=some (some (.agg #[.int .i64 0,.slice none 0 0,.string ⟨#[]⟩,.slice none 0 0,.bool false]),5,80):=by kernel_rfl
def qc1 (w:World) (n:Nat) (r:Xe):Prop:=qat w n r.a r.x.raw/\qaf w n r.b r.x.C
theorem qc1.below {w w':World} {n:Nat} {r:Xe} (h:qc1 w n r) (k:Below w.heap.size w w'):qc1 w' n r:=⟨h.1.below k,h.2.below k⟩
theorem qc1.lift {w:World} {n m:Nat} {r:Xe} (h:qc1 w n r) (k:m<=n):qc1 w m r:=⟨h.1.lift k,h.2.lift k⟩
theorem qc1.bytes {w:World} {n:Nat} {r:Xe} (h:qc1 w n r):BytesAt w r.A r.x.raw:=by
 obtain ⟨y,q,c,e⟩:=h.1.bytes;simp only [Xe.a,Qy] at c;rw [c.1];exact e
theorem qc1.ops {w:World} {n:Nat} {r:Xe} (h:qc1 w n r):qai w r.B r.x.C:=by
 obtain ⟨y,q,c,e,-⟩:=qaf.ops h.2;simp only [Xe.b,Qy] at c;rw [c.1];exact e
def qbq (w:World) (h n:Nat) (v:Value) (R:List Xe):Prop:=w.ownsRow h 45 5 v R.length (cellsI R)/\∀ q∈R,qc1 w n q
def qdY (w:World) (n:Nat) (v:Value) (R:List Xe):Prop:=qbq w n n v R
theorem qbq.below {w w':World} {g n:Nat} {v:Value} {R:List Xe} (e:qbq w g n v R) (k:Below w.heap.size w w'):qbq w' g n v R:=
 ⟨World.ownsRow.kept e.1 (row:=none) ⟨k.os,k.tape,k.output,k.size,fun h i _=>k.block h i⟩ (by
  cases z:v.ownBlock with
  | none=>exact .inl rfl
  | some y=>exact .inr (by simp)),fun r q=>(e.2 r q).below k⟩
theorem qdY.below {w w':World} {n:Nat} {v:Value} {R:List Xe} (h:qdY w n v R) (k:Below w.heap.size w w'):qdY w' n v R:=qbq.below h k
theorem qbq.lift {w:World} {y n h r:Nat} {v:Value} {R:List Xe} (q:qbq w y n v R) (k:h<=y) (E:r<=n):qbq w h r v R:=⟨row_mono q.1 k,fun G z=>(q.2 G z).lift E⟩
theorem qdY.lift {w:World} {n m:Nat} {v:Value} {R:List Xe} (h:qdY w n v R) (k:m<=n):qdY w m v R:=qbq.lift h k k
theorem qbq.its {w:World} {q n:Nat} {v:Value} {R:List Xe} (k:qbq w q n v R):∃ y i,v=.slice y R.length i/\qdX w y R/\R.length<=i/\i<=maxLen:=by
 have q:∀ g (h:g<R.length),BytesAt w R[g].A R[g].x.raw/\qai w R[g].B R[g].x.C:=fun g h=>⟨(k.2 _ (QJ h)).bytes,(k.2 _ (QJ h)).ops⟩
 rcases k.1.2 with ⟨rfl,G⟩ | ⟨J,i,M,rfl,_,_,K,A,_⟩
 ·have:R=[]:=Qw G
  subst this;exact ⟨none,0,rfl,.inl rfl,Qa _,Qu _⟩
 ·refine ⟨_,i,rfl,.inr ⟨J,0,rfl,fun g h=>⟨fun z O u=>?_,q g h⟩⟩,K,A⟩
  have E:=Xe.c_lt _ u;rw [QT];exact (World.ownsRow.cellAt k.1 _ (by omega)).trans ((qgd R g h z E).trans u)
theorem qbq.itsP {w:World} {y n l c:Nat} {A:Option Addr} {R:List Xe} (q:qbq w y n (.slice A l c) R):qdX w A R:=by
 obtain ⟨z,E,e,h,-⟩:=q.its;simp only [Qy] at e;rw [e.1];exact h
theorem qdY.its {w:World} {n:Nat} {v:Value} {R:List Xe} (y:qdY w n v R):∃ q h,v=.slice q R.length h/\qdX w q R/\R.length<=h/\h<=maxLen:=qbq.its y
theorem qdY.itsP {w:World} {n l c:Nat} {A:Option Addr} {R:List Xe} (h:qdY w n (.slice A l c) R):qdX w A R:=qbq.itsP h
theorem qiX (w:World) (q n:Nat):qbq w q n (.slice none 0 0) []:=⟨Zm _ _ _ _,fun r h=>absurd h Q9⟩
theorem qp5 (w:World) (n:Nat):qdY w n (.slice none 0 0) []:=qiX w n n
theorem qc1.grown {w w':World} {n:Nat} {r:Xe} {row:Option Nat} (h:qc1 w n r) (k:w.grownBy w' row) (J:∀ e,row=some e->∀ G q K,w.heap[e]?=some (.cells G q K)->q≠5/\q≠56):qc1 w' n r:=by
 refine ⟨World.ownsRow.kept h.1 k ?_,World.ownsRow.kept h.2 k ?_⟩
 ·cases z:r.a.ownBlock with
  | none=>exact .inl rfl
  | some e=>
   refine .inr fun E=>?_
   obtain ⟨G,y⟩:=qm5 h.1 z;exact (J e E.symm _ _ _ y).1 rfl
 ·cases z:r.b.ownBlock with
  | none=>exact .inl rfl
  | some e=>
   refine .inr fun E=>?_
   obtain ⟨G,y⟩:=qbC h.2 z;exact (J e E.symm _ _ _ y).2 rfl
theorem qbq.grown {w w':World} {e n:Nat} {v:Value} {R:List Xe} {row:Option Nat} (h:qbq w e n v R) (k:w.grownBy w' row) (z:∀ r,row=some r->v.ownBlock≠some r) (K:∀ e,row=some e->∀ M g E,w.heap[e]?=some (.cells M g E)->g≠5/\g≠56):qbq w' e n v R:=
 ⟨World.ownsRow.kept h.1 k (by
  cases q:v.ownBlock with
  | none=>exact .inl rfl
  | some J=>exact .inr fun y=>z J y.symm q),fun r G=>(h.2 r G).grown k K⟩
theorem qh9 {w:World} {n s m:Nat} {q:TypeId} {v:Value} {xs:List Value} (z:w.ownsRow n q s v m xs) {y:Nat} (h:v.ownBlock=some y):∃ G,w.heap[y]?=some (.cells G q (0,0)):=by
 rcases z.2 with ⟨rfl,_⟩ | ⟨J,K,M,rfl,_,E,_⟩
 ·simp [Value.ownBlock] at h
 ·simp only [Value.ownBlock,Qv] at h
  subst h;exact ⟨_,E⟩
theorem qmy (w:World) (B n:Nat) (v:Value) (R:List Xe) (y:qbq w B n v R) (A:Option Addr) (c:Nat) (R2:List Xe) (Z:qdX w A R2) (aa:∀ r∈R2,qc1 w n r) (M:B<=w.heap.size) (aj:R.length+R2.length<=100000) :
  ∃ E h,(Builtin.append_ #[40,40] 40 #[v,.slice A R2.length c]).run prog w=.ok E h/\qbq h B n E (R++R2)/\Below B w h/\w.grownBy h v.ownBlock:=by
 obtain ⟨U,ad,ac,ae,ab⟩:=info_parts qvk;obtain ⟨E,h,V,ah,z⟩:=qa4 w B 40 40 45 U _ 5 80 underlying40 ad ac ae ab rfl (by decide) v R.length (cellsI R) y.1 A R2.length c (cellsI R2)
  (qcw R2) Z.news (qod R2) (by unfold maxLen;omega) (by omega) M
 have K:∀ J,v.ownBlock=some J->∀ O q T,w.heap[J]?=some (.cells O q T)->q≠5/\q≠56:=fun J W O q T ai=>by
  obtain ⟨ak,G⟩:=qh9 y.1 W;rw [ai] at G;simp only [Qv,Obj.cells.injEq] at G;rw [G.2.1];exact ⟨by decide,by decide⟩
 refine ⟨E,h,V,⟨?_,fun r k=>?_⟩,(Qc B w).grown z M fun af ag=>(World.ownsRow.lt y.1 af ag).1,z⟩
 ·rw [qhC,Qk]
  exact ah
 ·rcases QY.1 k with k | k
  ·exact (y.2 r k).grown z K
  ·exact (aa r k).grown z K
theorem qjI {wr:World} {B n:Nat} {v:Value} {R:List Xe} (J:qbq wr B n v R) {A:Option Addr} {c:Nat} {R2:List Xe} (E:qdX wr A R2) (M:∀ r∈R2,qc1 wr n r) (U:B<=wr.heap.size) (K:R.length+R2.length<=100000) {ops:Array Oper} {rest:List Oper} {o:Oper} {a:Act} {Q:Exit->Act->World->Prop} (T:o.guard=none) (s x:Operand)
  (ab:o.op=.call {callee:=.builtin .append,args:=#[s,x],argTypes:=#[40,40]}) (G:o.type=40) (aa:a.eval s=v) (m:Nat) (W:R2.length=m) (ac:a.eval x=.slice A m c)
  (k:∀ q h w1,qbq w1 B n (.slice q (R++R2).length h) (R++R2)->Below B wr w1->wr.grownBy w1 v.ownBlock->wpList prog ops Q rest (a.put o.dst (.slice q (R++R2).length h)) w1):wpList prog ops Q (o :: rest) a wr:=by
 subst W;obtain ⟨ad,V,z,y,Z,O⟩:=qmy wr B n v R J A c R2 E M U K;obtain ⟨q,h,rfl,-,-,-⟩:=y.its;exact qal z T s x ab G aa ac (k q h V y Z O)
theorem qqs (w:World) (r:Xe) (i:BytesAt w r.A r.x.raw) (q:qai w r.B r.x.C):qdX (w.alloc (.cells #[.int .i64 r.x.kind,.slice r.A r.x.raw.length r.ca,.string (sB r.x.m),.slice r.B r.x.C.length r.cb,.bool r.x.al] 45)) (some ⟨w.heap.size,0,none⟩) [r]:=by
 refine .inr ⟨_,_,rfl,fun y z=>?_⟩;obtain rfl:y=0:=by simp at z;omega
 refine ⟨fun k E h=>?_,i.below (qaE _ _),q.below (qaE _ _)⟩;rw [QT,Nat.zero_mul,QT,C9 (heap_alloc_new w _)];have u:=Xe.c_lt _ h
 match k,u with
 | 0,_=>exact h
 | 1,_=>exact h
 | 2,_=>exact h
 | 3,_=>exact h
 | 4,_=>exact h
def qfH (w:World) (l:List Ite) (e:Ending) (w':World):Prop:=∃ q h c,e=.returned (.slice q (List.length c) h)/\c.map Xe.x=l/\qdY w' w.heap.size (.slice q c.length h) c/\Below w.heap.size w w'
end Go.Proofs.YtecpnfhpcamljaaGreatDoor
namespace Go.Proofs.YtecpnfhpcamljaaGreatDoor
open Tryz
open Go.RowKit
theorem qu0 {b:Str} (G:b≠[]):∃ j,1<=j/\j<=b.length/\(itR b).raw=b.take j/\((itR b).kind=4->j=b.length):=by
 have x:1<=b.length:=by cases b with | nil=>exact absurd rfl G | cons M K=>simp
 cases c:hdB b with
 | none=>
  refine ⟨b.length,x,Qa _,?_,fun _=>rfl⟩;unfold itR;rw [c];simp [qbv]
 | some J=>
  obtain ⟨q,p,K⟩:=J;have U:=qo1 c;cases e:qaX q p.toNat with
  | none=>
   rcases qko c e with E | ⟨T,rfl⟩
   ·refine ⟨1,Qa _,x,?_,?_⟩
    ·unfold itR;rw [c];simp only [e,Qi E,qbv]
    ·unfold itR;rw [c];simp only [e,Qi E,qbv];intro o;cases o
   ·have y:¬rkindT 2 p.toNat=0:=by omega
    have O:(qaM 2).length=1:=rfl;refine ⟨2,by omega,by omega,?_,?_⟩
    ·unfold itR;rw [c];simp only [e,Qe y,qbv]
    ·unfold itR;rw [c];simp only [e,Qe y,qbv];intro o;cases o
  | some h=>
   have z:=qfI (k:=(q,(p.toNat:Int),h.1,h.2.1,h.2.2.1,h.2.2.2)) ⟨p.toNat,p.toNat_lt,rfl,e⟩ 0 0;simp only at z;by_cases t:b.length<sizeT q h.2.2.1
   ·refine ⟨b.length,x,Qa _,?_,fun _=>rfl⟩
    unfold itR;rw [c];simp only [e,Qi t,qbv,Zt]
   ·refine ⟨sizeT q h.2.2.1,z.2.1,by omega,?_,?_⟩
    ·unfold itR;rw [c];simp only [e,Qe t]
    ·unfold itR;rw [c];simp only [e,Qe t];intro o;cases o
theorem qbI {b:Str} (G:b≠[]):1<=(itR b).raw.length/\(itR b).raw.length<=b.length/\(itR b).raw=b.take (itR b).raw.length/\((itR b).kind=4->(itR b).raw.length=b.length):=by
 obtain ⟨z,j,q,h,y⟩:=qu0 G;have E:(itR b).raw.length=z:=by rw [h,QH];omega
 rw [E];exact ⟨j,q,h,y⟩
def qeo:Nat->Str->List Ite
 | 0,_=>[]
 | _+1,[]=>[]
 | n+1,c :: t=>itR (c :: t) :: qeo n ((c :: t).drop (itR (c :: t)).raw.length)
def itemsR (b:Str):List Ite:=qeo b.length b
theorem qfX:∀ (n m:Nat) (b:Str),b.length<=n->b.length<=m->qeo n b=qeo m b
 | n,m,[],_,_=>by cases n <;> cases m <;> rfl
 | 0,m,h :: c,q,_=>by simp at q
 | n+1,0,h :: c,_,q=>by simp at q
 | n+1,m+1,h :: c,q,t=>by
  have y:=qbI (b:=h :: c) (by simp);have z:((h :: c).drop (itR (h :: c)).raw.length).length<=c.length:=by rw [Zj];simp only [Qt];omega
  show itR (h :: c) :: qeo n _=itR (h :: c) :: qeo m _;rw [qfX n m _ (by simp only [Qt] at q;omega) (by simp only [Qt] at t;omega)]
theorem qnU (n:Nat) (b:Str) (h:b.length<=n):qeo n b=qeo b.length b:=qfX n b.length b h (Qa _)
theorem qei:itemsR []=[]:=rfl
theorem qeX {b:Str} (q:b≠[]):itemsR b=itR b :: itemsR (b.drop (itR b).raw.length):=by
 cases b with
 | nil=>exact absurd rfl q
 | cons h c=>
  have y:=qbI (b:=h :: c) (by simp);have t:((h :: c).drop (itR (h :: c)).raw.length).length<=c.length:=by rw [Zj];simp only [Qt];omega
  show itR (h :: c) :: qeo c.length _=_;rw [qnU c.length _ t];rfl
theorem qp4 {P:Str->Prop} (q:P []) (y:∀ b,b≠[]->P (b.drop (itR b).raw.length)->P b) (b:Str):P b:=by
 have z:∀ h (b:Str),b.length<=h->P b:=fun h=>by
  induction h with
  | zero=>
   intro b E;have:b=[]:=Qw (by omega);subst this;exact q
  | succ h G=>
   intro b E;by_cases n:b=[]
   ·subst n;exact q
   ·have J:=qbI n
    exact y b n (G _ (by rw [Zj];omega))
 exact z b.length b (Qa _)
end Go.Proofs.YtecpnfhpcamljaaGreatDoor
namespace Go.Proofs.YtecpnfhpcamljaaGreatDoor
open Tryz
open Go.RowKit Go.Shelf
attribute [local go_sem] Oper.semAt_some
theorem qsz {b:Str} (y:b≠[]) (x:(itR b).kind≠4):(itR b).raw.length=needR b:=by
 have M:1<=b.length:=by cases b;exact absurd rfl y;simp
 have h:=mt (qjt y).2 x;obtain ⟨J,t⟩:=N9 (hdB b);cases J with
 | none=>exact absurd (by unfold itR;rw [t];rfl) x
 | some K=>
  obtain ⟨o,q,z⟩:=K;rw [qd7 t] at h |-;have G:itR b=match qaX o q.toNat with
   | none=>if rkindT o q.toNat=0 then qbv 2 (b.take 1) else qbv 3 (b.take 2)
   | some e=>if b.length<sizeT o e.2.2.1 then qbv 4 b else ⟨1,b.take (sizeT o e.2.2.1),e.1,(qaW e.2.2.1 e.2.1 (qcW e.2.2.1 z).1 (qcW e.2.2.1 z).2).getD [],e.2.2.2⟩:=by
   unfold itR;rw [t]
   try rfl
  rw [G];cases E:qaX o q.toNat with
  | none=>
   rw [E] at h;simp only at h |-;by_cases p:rkindT o q.toNat=0
   ·rw [Qi p,Qi p]
    show (b.take 1).length=1;rw [QH];omega
   ·rw [Qe p,Qe p]
    rw [Qe p] at h;show (b.take 2).length=2;rw [QH];omega
  | some e=>
   rw [E] at h;simp only at h |-;rw [Qe h];show (b.take _).length=_;rw [QH];omega
end Go.Proofs.YtecpnfhpcamljaaGreatDoor
namespace Go.Proofs.YtecpnfhpcamljaaGreatDoor
open Tryz
open Go.RowKit
theorem qrV {b:Str} (q:b≠[]):(itR b).raw.length<=4:=by
 have y:=qrs b;by_cases h:(itR b).kind=4
 ·have z:=(qbI q).2.2.2 h
  have E:=(qjt q).1 h;omega
 ·rw [qsz q h]
  exact y.2
theorem qhP (b:Str):(itemsR b).length<=b.length:=by
 refine qp4 (P:=fun b=>(itemsR b).length<=b.length) (Qa _) ?_ b;intro b h q;have y:=qbI h;simp only [Zj] at q;rw [qeX h,Qt];omega
theorem qm0 {h q:Type} {f:h->q} {R:List h} {a c:List q} (y:R.map f++a=c):R.length+a.length=c.length:=by rw [<- y,Qk,QC]
theorem qeW {h:Type} {f:h->Ite} {R:List h} {rest b:Str} (z:R.map f++itemsR rest=itemsR b) (E:rest≠[]) (q:h) (y:f q=itR rest):(R++[q]).map f++itemsR (rest.drop (itR rest).raw.length)=itemsR b:=by
 rw [<- z,qeX E,Zg,Za];simp [y]
theorem qpz {h:Type} {f:h->Ite} {R:List h} {rest b:Str} (q:R.map f++itemsR rest=itemsR b):R.length<=b.length:=by
 have y:=qm0 q;have z:=qhP b;omega
theorem qgx {b:Str} {k l:Nat} (h:b.length=l) (q:k<l):b.drop k≠[]:=fun e=>by
 have:=congrArg List.length e;rw [Zj] at this;simp at this;omega
end Go.Proofs.YtecpnfhpcamljaaGreatDoor
namespace Go.Proofs.YtecpnfhpcamljaaGreatDoor
open Tryz
open Go.RowKit Go.Shelf
theorem qmZ (w:World) (y s2:ByteArray) (q z:Value):∃ h,(w.alloc (.cells #[.string y,q] 24)).alloc (.cells #[.string s2,z] 24)=h/\
  h.heap[w.heap.size]?=some (.cells #[.string y,q] 24 (0,0))/\h.heap[w.heap.size+1]?=some (.cells #[.string s2,z] 24 (0,0))/\Below w.heap.size w h:=by
 refine ⟨_,rfl,(Below.heap_alloc _ _ _ (by simp)).trans (World.alloc_heap_new w _),?_,((B0 (w:=w))).alloc (by simp) _⟩;have E:=World.alloc_heap_new (w.alloc (.cells #[.string y,q] 24)) (.cells #[.string s2,z] 24);rw [QB] at E;exact E
theorem qyH {a b:Str} (h:sB a=sB b):a=b:=by
 have q:(sB a).data.toList=(sB b).data.toList:=by rw [h]
 simpa [sB] using q
theorem qzw (a b:Str) (e:a≠b):((sB a).toList == (sB b).toList)=false:=qak fun h=>e (qyH h)
theorem qpC (j J:Str) (A1 ak:Option Addr) (aq c2:Nat) (a b:List Tr) (ax:a.length<=1000) (aC:b.length<=1000) (w:World) (aa:qai w A1 a) (ab:qai w ak b) :
  Calls prog 15 #[.agg #[.string (sB j),.slice A1 a.length aq],.agg #[.string (sB J),.slice ak b.length c2]] w fun i az=>i=.returned (.bool (decide (j=J)&&decide (a=b)))/\Below w.heap.size w az:=by
 obtain ⟨n,am⟩:=N9 ((decide (j=J)&&decide (a=b)));have HR:=J9 am;rw [am];clear am;by_cases ai:j=J
 ·subst ai
  by_cases r:a.length=b.length
  ·obtain ⟨aj,au,W,Z,B0⟩:=qmZ w (sB j) (sB j) (.slice A1 a.length aq) (.slice ak b.length c2)
   obtain ⟨ah,M⟩:=N9 (a.length);have ap:=J9 M;have an:=J9 r;rw [<- r,M] at Z au;rw [M] at W ax;rw [<- r,M];have aB:=J9 (aa.below B0);have aE:=J9 (ab.below B0);have aM:=C9 W 0;have aI:=C9 W 1;have aH:=C9 Z 0;have aO:=C9 Z 1;have B0:=J9 B0;have ao:=qAZ (sB j);clear aa ab W Z M r aC
   go_enter func15,ntmps15
   go_wp2;clear au
   go_loopw [5] (fun ae wr=>∃ h O:Nat,h<=ah/\ae=.int .i64 h/\wr=aj.drewN O/\Hid (∀ e,e<h->∀ (E:e<a.length) (z:e<b.length),a[e]=b[e])) (fun ae _=>ah - (intOf ae).toNat)
   case atStart=>exact ⟨0,0,Qu _,rfl,rfl,fun e aK=>by omega⟩
   case round=>
    obtain ⟨h,O,aG,rfl,rfl,ad⟩:=hrel;by_cases aT:h<ah
    ·have af:h<a.length:=by have:=ap.o;omega
     have ag:h<b.length:=(by have:=an.o;omega);obtain ⟨aS,aJ,aD,-,G,K,T⟩:=aB.o.at_ af;obtain ⟨aP,aN,av,-,V,U,ac⟩:=aE.o.at_ ag;subst aD;subst av;by_cases y:a[h]=b[h]
     ·have R2:Hid (∀ e,e<h+1->∀ (E:e<a.length) (z:e<b.length),a[e]=b[e]):=fun e aR E z=>by
       by_cases i:e=h
       ·subst i;exact y
       ·exact ad.o e (by omega) E z
      rw [y] at G K T;obtain ⟨⟨ay,aA,aw⟩,R⟩:=N9 (b[h]);rw [R] at G K T V U ac;simp only at G K T V U ac;clear y R af ag ad;go_wp2
      go_quiet (fail)
      go_wp2;go_roundw
      case rel=>exact ⟨h+1,O+nq,by omega,by go_num,rfl,R2.o⟩
      case measure=>simp [intOf];omega
     ·have q:Hid (false=n):=by show false=n;rw [<- HR.o,Qh (fun i=>y (by simp only [i]):¬a=b),Bool.and_false]
      have k:=qlE y;obtain ⟨⟨ay,aA,aw⟩,R⟩:=N9 (a[h]);obtain ⟨⟨aF,aL,aQ⟩,ar⟩:=N9 (b[h]);rw [R] at G K T k;rw [ar] at V U ac k;simp only at G K T V U ac k;clear y R ar af ag ad;rcases k with k | ⟨rfl,k⟩ | ⟨rfl,rfl,k⟩
      all_goals
       go_wp2
       go_quiet (fail)
       go_wp2;go_ret;exact ⟨qab q.o,B0.o.trans ((below_drewN aj _ O).trans (below_drewN _ _ nq))⟩
    ·have q:Hid (true=n):=by
      have i:a=b:=List.ext_getElem an.o fun e E z=>ad.o e (by have:=ap.o;omega) E z
      show true=n;rw [<- HR.o,Qn i];rfl
     go_wp2;go_ret;exact ⟨qab q.o,B0.o.trans (below_drewN aj w.heap.size O)⟩
  ·have q:Hid (false=n):=by show false=n;rw [<- HR.o,Qh (fun i=>r (by rw [i]):¬a=b),Bool.and_false]
   have ao:=qAZ (sB j);have k:((a.length:Int) == (b.length:Int))=false:=Qm.2 fun i=>r (by omega)
   have aU:((a.length:Int) != (b.length:Int))=true:=(by unfold bne;rw [k];rfl);clear aa ab
   go_enter func15,ntmps15
   go_wp2;go_ret;exact ⟨qab q.o,((B0 (w:=w))).alloc (by simp) _⟩
 ·have q:Hid (false=n):=by show false=n;rw [<- HR.o,Qh ai,Bool.false_and]
  have ao:=qzw j J ai;clear aa ab
  go_enter func15,ntmps15
  go_wp2;go_ret;exact ⟨qab q.o,((B0 (w:=w))).alloc (by simp) _⟩
def qez (l:Str):Nat->Nat
 | 0=>0
 | k+1=>if l[k]?.getD 0=119 then qez l k+2 else qez l k+1
theorem qmx (l:Str):∀ h,qez l h<=2*h
 | 0=>Qa _
 | h+1=>by
  have:=qmx l h;unfold qez;split <;> omega
def rsizeT (h:Int) (ex:Str):Nat:=(qaM h).length+1+qez ex ex.length
theorem qpQ (h M:Int) (m:Str) (A:Option Addr) (n cap:Nat) (ex:Str) (aE:ex.length<=1000) (al:Bool) (w:World) :
  Calls prog 102 #[enV h M m (.slice A n cap) ex al] w fun aa aw=>aa=.returned (.int .i64 (rsizeT h ex:Nat))/\Below w.heap.size w aw:=by
 unfold enV;obtain ⟨e,o⟩:=N9 (sB ex);have ag:e.size=ex.length:=by rw [<- o,qaB]
 have W:∀ b (E:b<e.size) (ae:b<ex.length),e[b]=ex[b]:=fun b E ae=>by subst o;exact qjr ex b E ae
 have ax:=J9 W;obtain ⟨q,O⟩:=N9 (ex.length);have Z:=J9 O;rw [O] at ag aE;rw [o];clear o W O;obtain ⟨t,v⟩:=N9 (w.alloc (.cells #[.int .i64 h,.int .u8 M,.string (sB m),.slice A n cap,.string e,.bool al] 30));obtain ⟨k,l⟩:=N9 (w.heap.size);have B0:Hid (Below k w t):=by rw [<- v,<- l];exact B0
 have aA:t.heap.size=k+1:=by rw [<- v,<- l];simp
 have J:t.heap[k]?=some (.cells #[.int .i64 h,.int .u8 M,.string (sB m),.slice A n cap,.string e,.bool al] 30 (0,0)):=by rw [<- v,<- l];exact World.alloc_heap_new w _
 have ak:=J9 J;have af:=qhZ h t;have az:=C9 J 0;have ay:=J9 l;have aB:=J9 (qtT h);obtain ⟨T,s⟩:=N9 ((qaM h).length);have an:=J9 s;have aI:=J9 ag;clear J
 go_enter func102,ntmps102
 go_wp2_with fail
 refine af.mono ?_;rintro aa av ⟨aH,rfl,ab,U⟩;obtain ⟨A1,aK,rfl,-⟩:=ab.bytes;rw [s];have au:=J9 (B0.o.trans (U.mono (by omega)));have G:=(U.block k (by omega)).trans ak.o;have ap:=J9 G;have ad:=C9 G 4;have aF:T<=2:=by rw [<- s];exact aB.o
 clear af ab U G az v B0 ak s aA;go_wp2;clear ad
 go_loopw [4,3] (fun y ar wr=>∃ b:Nat,b<=q/\y=.int .i64 b/\ar=.int .i64 ((T+1+qez ex b:Nat):Int)/\wr=av) (fun y _ _=>q - (intOf y).toNat)
 case atStart=>exact ⟨0,Qu _,rfl,rfl,rfl⟩
 case round=>
  obtain ⟨b,aJ,rfl,rfl,rfl⟩:=hrel;have ad:=C9 ap.o 4;by_cases aC:b<q
  ·have aD:b<e.size:=by omega
   have V:b<ex.length:=(by rw [Z.o];exact aC);have am:=qmx ex b;have ac:ex[b]?.getD 0=e[b]:=(by rw [Qg V,Option.getD_some];exact (ax.o b aD V).symm);have ah:=J9 ac;obtain ⟨aj,K⟩:=N9 (qez ex b);rw [K] at am |-;have ai:=J9 K;clear ac K;have aG:b<=1000:=(by omega);by_cases i:e[b]=119
   ·have z:Hid (qez ex (b+1)=aj+2):=by show qez ex (b+1)=_;rw [qez,Qi (ah.o.trans i),ai.o]
    have aq:e[b].toNat=119:=(by rw [i];rfl);clear i;go_wp2;go_roundw
    case rel=>exact ⟨b+1,by omega,by go_num,by rw [z.o];go_num,trivial⟩
    case measure=>simp [intOf];omega
   ·have z:Hid (qez ex (b+1)=aj+1):=by show qez ex (b+1)=_;rw [qez,Qe (by rw [ah.o];exact i),ai.o]
    have aq:((e[b].toNat:Int) == 119)=false:=by
     simp;intro E;exact i (UInt8.toNat_inj.1 (by rw [show (119:UInt8).toNat=119 from rfl];omega))
    clear i;go_wp2;go_roundw
    case rel=>exact ⟨b+1,by omega,by go_num,by rw [z.o];go_num,trivial⟩
    case measure=>simp [intOf];omega
  ·obtain rfl:b=q:=by omega
   have ao:Hid (rsizeT h ex=T+1+qez ex b):=(by show rsizeT h ex=_;unfold rsizeT;rw [an.o,Z.o]);go_wp2;go_ret;exact ⟨by rw [ao.o];rfl,by rw [ay.o];exact au.o⟩
end Go.Proofs.YtecpnfhpcamljaaGreatDoor
