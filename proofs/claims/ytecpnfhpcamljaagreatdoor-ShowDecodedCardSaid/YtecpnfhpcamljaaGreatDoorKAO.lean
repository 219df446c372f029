/-
  DfB, FoA, DgA, DgB, DgC, TrD, DfC, DgE, DgF, MixE.
-/
import Derived.Test.YtecpnfhpcamljaaGreatDoorKAN
set_option linter.all false
set_option maxRecDepth 100000
set_option maxHeartbeats 4000000
namespace Go.Proofs.YtecpnfhpcamljaaGreatDoor
open Tryz
open Go.RowKit
def qaS (c:UInt8) (t:Str) (s:Int×Int):Int×Int:=
 if c=100 then (sgB (t.getD 0 0),s.2) else if c=101 then (s.1,sgB (t.getD 0 0)) else if c=110 then (s.1,((t.getD 0 0).toNat:Int)) else if c=119 then (s.1,((t.getD 0 0).toNat:Int)+256*((t.getD 1 0).toNat:Int)) else s
def stJ (ex:Str) (b:Str) (h:Nat):Nat->Int×Int
 | 0=>(0,0)
 | j+1=>qaS (ex.getD j 0) (b.drop (h+j)) (stJ ex b h j)
theorem qu9 {g:Int} {i:Nat} {ex:Str} (h:ExP g i ex):rsizeT g ex=sizeT g ex:=by
 obtain ⟨y,q⟩:=h.pg;rcases (by omega:g=0\/g=1\/g=2\/g=3\/g=4\/g=5\/g=6) with rfl | rfl | rfl | rfl | rfl | rfl | rfl <;> rcases h.lst with rfl | rfl | rfl | rfl | rfl | rfl <;> decide
theorem getD_drop (b:Str) (k j:Nat):(b.drop k).getD j 0=b.getD (k+j) 0:=by rw [Ql,Ql,Zc]
theorem qya {b:Str} {g:Int} {i:Nat} {ex:Str} (y:ExP g i ex) (z:(pgA b).1=g) (G:(pgA b).2<b.length) :
  stJ ex b (nxA b) ex.length=qcW ex (if 5<=(pgA b).1 then b.getD 2 0 :: b.drop 4 else b.drop ((pgA b).2+1)):=by
 unfold nxA;rw [z];by_cases h:5<=g
 ·rw [Qi h,Qi h]
  obtain rfl:=y.hi h;rw [qlr];show qaS 100 (b.drop 2) (0,0)=_;simp only [qaS,if_true,getD_drop,List.getD_cons_zero]
 ·rw [Qe h,Qe h]
  generalize (pgA b).2+1=q;rcases y.lst with rfl | rfl | rfl | rfl | rfl | rfl
  ·rw [qvK];rfl
  ·rw [qlr];rfl
  ·rw [qrM];rfl
  ·rw [qrf];rfl
  ·rw [qrH];rfl
  ·rw [ql7]
   show qaS 110 (b.drop (q+1)) (qaS 100 (b.drop (q+0)) (0,0))=_;have E:qaS 100 (b.drop (q+0)) (0,0)=(sgB ((b.drop q).getD 0 0),0):=(by unfold qaS;rw [Qi rfl];rfl);rw [E];unfold qaS;rw [Qe (by decide),Qe (by decide),Qi rfl];simp only [getD_drop,Nat.add_zero]
theorem qxi {b:Str} {g:Int} {i:Nat} {ex:Str} (r:ExP g i ex) (h:(pgA b).1=g) (G:sizeT g ex<=b.length) :
  ∀ j (c:j<ex.length),nxA b+j<b.length/\(ex[j]=119->nxA b+j+1<b.length)/\(ex[j]=100\/ex[j]=101\/ex[j]=110\/ex[j]=119):=by
 obtain ⟨U,M⟩:=r.pg;obtain ⟨-,T,O⟩:=qtU b;have y:(pgA b).2=(if 5<=g then 3 else (qaM g).length):=by
  cases b with
  | nil=>rw [<- h];decide
  | cons K V=>
   rw [<- h];simp only [pgA]
   repeat' split
   all_goals first | rfl | (simp_all;done) | (exfalso;revert h;simp_all;done) | decide
 unfold nxA;rw [h];by_cases q:5<=g
 ·rw [Qi q]
  have J:=r.hi q;subst J;have z:sizeT g [100]=4:=by rcases (by omega:g=5\/g=6) with rfl | rfl <;> rfl
  intro j c;obtain rfl:j=0:=by simp at c;omega
  exact ⟨by omega,fun e=>absurd (show (100:UInt8)=119 from e) (by decide),.inl rfl⟩
 ·rw [Qe q] at y |-
  rw [y];have z:sizeT g ex=(qaM g).length+1+qcz ex ex.length:=rfl;rw [z] at G;rcases r.lst with rfl | rfl | rfl | rfl | rfl | rfl
  ·intro j c;simp at c
  ·have:qcz [100] [100].length=1:=rfl
   intro j c;obtain rfl:j=0:=by simp at c;omega
   exact ⟨by omega,fun e=>absurd (show (100:UInt8)=119 from e) (by decide),.inl rfl⟩
  ·have:qcz [101] [101].length=1:=rfl
   intro j c;obtain rfl:j=0:=by simp at c;omega
   exact ⟨by omega,fun e=>absurd (show (101:UInt8)=119 from e) (by decide),.inr (.inl rfl)⟩
  ·have:qcz [110] [110].length=1:=rfl
   intro j c;obtain rfl:j=0:=by simp at c;omega
   exact ⟨by omega,fun e=>absurd (show (110:UInt8)=119 from e) (by decide),.inr (.inr (.inl rfl))⟩
  ·have:qcz [119] [119].length=2:=rfl
   intro j c;obtain rfl:j=0:=by simp at c;omega
   exact ⟨by omega,fun e=>by omega,.inr (.inr (.inr rfl))⟩
  ·have:qcz [100,110] [100,110].length=2:=rfl
   intro j c;simp only [Qt,QP] at c;have E:j=0\/j=1:=(by omega);rcases E with rfl | rfl
   ·exact ⟨by omega,fun e=>absurd (show (100:UInt8)=119 from e) (by decide),.inl rfl⟩
   ·exact ⟨by omega,fun e=>absurd (show (110:UInt8)=119 from e) (by decide),.inr (.inr (.inl rfl))⟩
end Go.Proofs.YtecpnfhpcamljaaGreatDoor
namespace Go.Proofs.YtecpnfhpcamljaaGreatDoor
open Tryz
open Go.RowKit Go.Shelf
attribute [local irreducible] Go.Mixed.qAU
def qAP (x:En):Bool:=decide (x.1.length<=10)&&decide (x.2.1.length<=3)&&decide (x.2.2.1.length<=3)
def qs3 (p n:Nat):Bool:=match atN p n with | some h=>qAP h | none=>qcJ p n == rkindT p n
theorem qzW:∀ h:Fin 256,qs3 0 h.val=true:=by decide +kernel
theorem qzI:∀ h:Fin 256,qs3 1 h.val=true:=by decide +kernel
theorem qAb:∀ h:Fin 256,qs3 2 h.val=true:=by decide +kernel
theorem qzR:∀ h:Fin 256,qs3 3 h.val=true:=by decide +kernel
theorem qz7:∀ h:Fin 256,qs3 4 h.val=true:=by decide +kernel
theorem qzn:∀ h:Fin 256,qs3 5 h.val=true:=by decide +kernel
theorem qzF:∀ h:Fin 256,qs3 6 h.val=true:=by decide +kernel
theorem qww (p n:Nat) (q:p<7) (h:n<256):qs3 p n=true:=by
 rcases (by omega:p=0\/p=1\/p=2\/p=3\/p=4\/p=5\/p=6) with rfl | rfl | rfl | rfl | rfl | rfl | rfl
 ·exact qzW ⟨n,h⟩
 ·exact qzI ⟨n,h⟩
 ·exact qAb ⟨n,h⟩
 ·exact qzR ⟨n,h⟩
 ·exact qz7 ⟨n,h⟩
 ·exact qzn ⟨n,h⟩
 ·exact qzF ⟨n,h⟩
theorem ok_none {h:Int} {n:Nat} (q:n<256) (z:qaX h n=none):qcJ h n=rkindT h n:=by
 by_cases E:0<=h/\h<=6
 ·obtain ⟨p,rfl⟩:∃ p:Nat,h=p:=⟨h.toNat,by omega⟩
  have y:=qww p n (by omega) q;rw [<- qkX _ n q,qt7 p n q] at z;unfold qs3 at y;rw [z] at y;exact eq_of_beq y
 ·unfold qcJ rkindT
  rw [Qi (by omega),Qe (by omega),Qe (by omega),Qe (by omega)]
end Go.Proofs.YtecpnfhpcamljaaGreatDoor
namespace Go.Proofs.YtecpnfhpcamljaaGreatDoor
open Tryz
open Go.RowKit
theorem qnP {p:Int} (h:0<=p/\p<=6):p=0\/p=1\/p=2\/p=3\/p=4\/p=5\/p=6:=by omega
theorem qxD {p:Int} (z:0<=p/\p<=4) (o:UInt8) (t:Str) (q:p=0->o≠203/\o≠221/\o≠237/\o≠253) (b:p=3\/p=4->o≠203):hdB (qaM p++o :: t)=some (p,o,t):=by
 rcases (by omega:p=0\/p=1\/p=2\/p=3\/p=4) with rfl | rfl | rfl | rfl | rfl
 ·obtain ⟨y,c,d,h⟩:=q rfl
  show hdB (o :: t)=_;simp only [hdB];rw [Qe y,Qe d,Qe c,Qe h]
 ·rfl
 ·rfl
 ·have a:=b (.inl rfl)
  show hdB (221 :: o :: t)=_;simp only [hdB];rw [Qe (by decide),Qe (by decide),Qi (by decide),Qe a]
 ·have a:=b (.inr rfl)
  show hdB (253 :: o :: t)=_;simp only [hdB];rw [Qe (by decide),Qe (by decide),Qe (by decide),Qi (by decide),Qe a]
theorem qyA {p:Int} (h:5<=p/\p<=6) (x o:UInt8) (t:Str):hdB (qaM p++x :: o :: t)=some (p,o,x :: t):=by rcases (by omega:p=5\/p=6) with rfl | rfl <;> rfl
theorem qu6 {p:Int} (e:0<=p/\p<=4) {o:UInt8} (t:Str) {x:En} (y:qaX p o.toNat=some x):hdB (qaM p++o :: t)=some (p,o,t):=by
 have c:=qgR o.toNat_lt y;have a:∀ b:Nat,b<256->o.toNat≠b->o≠UInt8.ofNat b:=fun b d h J=>h (by rw [J,UInt8.toNat_ofNat_of_lt' d])
 refine qxD e o t (fun G=>?_) (fun z=>a 203 (by decide) (c.ind z));obtain ⟨K,n,q,E⟩:=c.main G;exact ⟨a 203 (by decide) K,a 221 (by decide) n,a 237 (by decide) q,a 253 (by decide) E⟩
theorem qw2 {p:Int} (U:0<=p/\p<=6) {o:UInt8} (T:qaX p o.toNat=none) :
  (rkindT p o.toNat=2/\p<=4/\∃ n,qix (qaM p++[o])=some n/\qaM n=qaM p++[o]/\0<=n/\n<=6)\/
  ((rkindT p o.toNat=0\/rkindT p o.toNat=3/\p=2)/\(p<=4->∀ t,hdB (qaM p++o :: t)=some (p,o,t))):=by
 have W:=o.toNat_lt;have Z:o=UInt8.ofNat o.toNat:=by simp
 have e:=qyM ⟨p.toNat,by omega⟩ ⟨o.toNat,W⟩;unfold qzO at e;simp only at e;rw [show ((p.toNat:Nat):Int)=p by omega,T] at e;simp only [Option.isSome_none,Bool.false_or,Zv,Qd,Qf,beq_iff_eq] at e;have O:∀ z:Int,(z=0/\(o=203\/o=221\/o=237\/o=253))\/((z=3\/z=4)/\o=203)->z=p->(rkindT p o.toNat=2/\p<=4/\∃ n,qix (qaM p++[o])=some n/\qaM n=qaM p++[o]/\0<=n/\n<=6):=by
  intro z M h;subst h;rcases M with ⟨rfl,rfl | rfl | rfl | rfl⟩ | ⟨rfl | rfl,rfl⟩
  ·exact ⟨rfl,by decide,1,rfl,rfl,by decide,by decide⟩
  ·exact ⟨rfl,by decide,3,rfl,rfl,by decide,by decide⟩
  ·exact ⟨rfl,by decide,2,rfl,rfl,by decide,by decide⟩
  ·exact ⟨rfl,by decide,4,rfl,rfl,by decide,by decide⟩
  ·exact ⟨rfl,by decide,5,rfl,rfl,by decide,by decide⟩
  ·exact ⟨rfl,by decide,6,rfl,rfl,by decide,by decide⟩
 have E:∀ G:Nat,G<256->o.toNat=G->o=UInt8.ofNat G:=fun G aa h=>by rw [Z,h]
 by_cases q:(p=0/\(o=203\/o=221\/o=237\/o=253))\/((p=3\/p=4)/\o=203)
 ·exact .inl (O p q rfl)
 ·have K:p<=4->∀ t,hdB (qaM p++o :: t)=some (p,o,t):=fun V t=>qxD ⟨U.1,V⟩ o t
   (fun y=>⟨fun h=>q (.inl ⟨y,.inl h⟩),fun h=>q (.inl ⟨y,.inr (.inl h)⟩),fun h=>q (.inl ⟨y,.inr (.inr (.inl h))⟩),fun h=>q (.inl ⟨y,.inr (.inr (.inr h))⟩)⟩)
   (fun J h=>q (.inr ⟨J,h⟩))
  refine .inr ⟨?_,K⟩;rcases e with ((e | ⟨e,ab⟩) | ⟨y,e⟩) | ⟨J,e⟩
  ·exact .inl e
  ·exact .inr ⟨e,by omega⟩
  ·exfalso
   refine q (.inl ⟨by omega,?_⟩);rcases e with ((e | e) | e) | e
   ·exact .inl (E 203 (by decide) e)
   ·exact .inr (.inl (E 221 (by decide) e))
   ·exact .inr (.inr (.inl (E 237 (by decide) e)))
   ·exact .inr (.inr (.inr (E 253 (by decide) e)))
  ·exfalso
   exact q (.inr ⟨by omega,E 203 (by decide) e⟩)
theorem qz3 {p:Int} (h:0<=p/\p<=4):itR (qaM p)=qbv 4 (qaM p)/\needR (qaM p)=(qaM p).length+1:=by rcases (by omega:p=0\/p=1\/p=2\/p=3\/p=4) with rfl | rfl | rfl | rfl | rfl <;> exact ⟨rfl,rfl⟩
theorem qz6 {p:Int} (x:5<=p/\p<=6) {r:Str} (q:r.length<=1):itR (qaM p++r)=qbv 4 (qaM p++r)/\needR (qaM p++r)=4:=by
 match r,q with
 | [],_=>rcases (by omega:p=5\/p=6) with rfl | rfl <;> exact ⟨rfl,rfl⟩
 | [y],_=>rcases (by omega:p=5\/p=6) with rfl | rfl <;> exact ⟨rfl,rfl⟩
 | _ :: _ :: _,h=>simp at h
theorem qxY {b:Str} {p:Int} {o:UInt8} {t:Str} (h:hdB b=some (p,o,t)):itR b=match qaX p o.toNat with
   | none=>if rkindT p o.toNat=0 then qbv 2 (b.take 1) else qbv 3 (b.take 2)
   | some x=>if b.length<sizeT p x.2.2.1 then qbv 4 b else ⟨1,b.take (sizeT p x.2.2.1),x.1,(qaW x.2.2.1 x.2.1 (qcW x.2.2.1 t).1 (qcW x.2.2.1 t).2).getD [],x.2.2.2⟩:=by
 unfold itR;rw [h]
 try rfl
def mS (s0:Int×Int) (ex:Str) (b:Str) (k:Nat):Nat->Int×Int
 | 0=>s0
 | j+1=>qaS (ex.getD j 0) (b.drop (k+qcz ex j)) (mS s0 ex b k j)
theorem quC (s0:Int×Int) {ex:Str} (b:Str) (k:Nat) {j:Nat} (h:j<ex.length):mS s0 ex b k (j+1)=qaS ex[j] (b.drop (k+qcz ex j)) (mS s0 ex b k j):=by
 show qaS (ex.getD j 0) _ _=_;rw [Ql,Qg h];rfl
theorem qxG {g:Int} {i:Nat} {ex:Str} (h:ExP g i ex) (b:Str) (k:Nat):mS (0,0) ex b k ex.length=qcW ex (b.drop k):=by
 rcases h.lst with rfl | rfl | rfl | rfl | rfl | rfl
 ·rw [qvK];rfl
 ·rw [qlr];rfl
 ·rw [qrM];rfl
 ·rw [qrf];rfl
 ·rw [qrH];rfl
 ·rw [ql7]
  show qaS 110 (b.drop (k+1)) (qaS 100 (b.drop (k+0)) (0,0))=_;have q:qaS 100 (b.drop (k+0)) (0,0)=(sgB ((b.drop k).getD 0 0),0):=by unfold qaS;rw [Qi rfl];rfl
  rw [q];unfold qaS;rw [Qe (by decide),Qe (by decide),Qi rfl];simp only [getD_drop,Nat.add_zero]
theorem qsl (ex:Str) {j:Nat} (q:j<=ex.length):qcz ex j<=qcz ex ex.length:=by
 have e:ex=ex.take j++ex.drop j:=(List.take_append_drop j ex).symm;have h:qcz ex ex.length=qcz ex j+((ex.drop j).map qgJ).sum:=by
  unfold qcz;rw [Zt]
  conv=>lhs;rw [e]
  rw [Zg,List.sum_append]
 omega
theorem qx2 {g:Int} {i:Nat} {ex:Str} (z:ExP g i ex) {j:Nat} (y:j<ex.length):ex[j]=100\/ex[j]=101\/ex[j]=110\/ex[j]=119:=by
 have h:=QJ y;generalize ex[j]=c at h |-;rcases z.lst with rfl | rfl | rfl | rfl | rfl | rfl
 ·cases h
 ·exact .inl (QI.1 h)
 ·exact .inr (.inl (QI.1 h))
 ·exact .inr (.inr (.inl (QI.1 h)))
 ·exact .inr (.inr (.inr (QI.1 h)))
 ·rcases QM.1 h with q | q
  ·exact .inl q
  ·exact .inr (.inr (.inl (QI.1 q)))
theorem qug {g:Int} {i:Nat} {ex:Str} (h:ExP g i ex):ex.length<=2:=by rcases h.lst with rfl | rfl | rfl | rfl | rfl | rfl <;> decide
theorem qAa {p:Int} (h:5<=p/\p<=6):(qaM p).length=2:=by rcases (by omega:p=5\/p=6) with rfl | rfl <;> rfl
end Go.Proofs.YtecpnfhpcamljaaGreatDoor
namespace Go.Proofs.YtecpnfhpcamljaaGreatDoor
open Tryz
open Go.RowKit Go.Shelf
attribute [local go_sem] Oper.semAt_some
structure Dec (w0:World) (D:Nat) (S:Value) (w:World) (k:Nat) (p nd d n:Int):Prop where
 blk:w.heap[D]?=some (.cells #[S,.int .i64 k,.int .i64 p,.int .i64 nd,.int .i64 d,.int .i64 n] 143 (0,0))
 bel:Below D w0 w
structure DK (D:Nat) (w w':World):Prop where
 size:w.heap.size<=w'.heap.size
 same:∀ k,k<w.heap.size->k≠D->w'.heap[k]?=w.heap[k]?
section
variable {w0 w w':World} {D:Nat} {S:Value} {k:Nat} {p nd d n:Int}
theorem Dec.lt (h:Dec w0 D S w k p nd d n):D<w.heap.size:=(Qb.1 h.blk).1
theorem Dec.all (h:Dec w0 D S w k p nd d n) (q:Below w.heap.size w w'):Dec w0 D S w' k p nd d n:=
 ⟨(q.block D h.lt).trans h.blk,h.bel.trans (q.mono (QV h.lt))⟩
theorem Dec.cells (h:Dec w0 D S w k p nd d n):w.cell? ⟨D,0,none⟩=some S/\w.cell? ⟨D,1,none⟩=some (.int .i64 k)/\w.cell? ⟨D,2,none⟩=some (.int .i64 p)/\w.cell? ⟨D,3,none⟩=some (.int .i64 nd)/\w.cell? ⟨D,4,none⟩=some (.int .i64 d)/\w.cell? ⟨D,5,none⟩=some (.int .i64 n)/\∀ i,w.frozen? ⟨D,i,none⟩=false:=
 ⟨C9 h.blk 0,C9 h.blk 1,C9 h.blk 2,C9 h.blk 3,C9 h.blk 4,C9 h.blk 5,fun i=>Qp h.blk i⟩
theorem Dec.set1 (h:Dec w0 D S w k p nd d n) (x:Nat):Dec w0 D S (w.setCell ⟨D,1,none⟩ (.int .i64 x)) x p nd d n:=
 ⟨heap_setCell_same w D 1 _ _ (.int .i64 x) h.blk,h.bel.setCell (p:=⟨D,1,none⟩) (Qa _) _⟩
theorem Dec.set2 (h:Dec w0 D S w k p nd d n) (x:Int):Dec w0 D S (w.setCell ⟨D,2,none⟩ (.int .i64 x)) k x nd d n:=
 ⟨heap_setCell_same w D 2 _ _ (.int .i64 x) h.blk,h.bel.setCell (p:=⟨D,2,none⟩) (Qa _) _⟩
theorem Dec.set3 (h:Dec w0 D S w k p nd d n) (x:Int):Dec w0 D S (w.setCell ⟨D,3,none⟩ (.int .i64 x)) k p x d n:=
 ⟨heap_setCell_same w D 3 _ _ (.int .i64 x) h.blk,h.bel.setCell (p:=⟨D,3,none⟩) (Qa _) _⟩
theorem Dec.set4 (h:Dec w0 D S w k p nd d n) (x:Int):Dec w0 D S (w.setCell ⟨D,4,none⟩ (.int .i64 x)) k p nd x n:=
 ⟨heap_setCell_same w D 4 _ _ (.int .i64 x) h.blk,h.bel.setCell (p:=⟨D,4,none⟩) (Qa _) _⟩
theorem Dec.set5 (h:Dec w0 D S w k p nd d n) (x:Int):Dec w0 D S (w.setCell ⟨D,5,none⟩ (.int .i64 x)) k p nd d x:=
 ⟨heap_setCell_same w D 5 _ _ (.int .i64 x) h.blk,h.bel.setCell (p:=⟨D,5,none⟩) (Qa _) _⟩
theorem DK.refl (D:Nat) (w:World):DK D w w:=⟨Qa _,fun _ _ _=>rfl⟩
theorem DK.of_below (h:Below w.heap.size w w'):DK D w w':=⟨h.size,fun k q _=>h.block k q⟩
theorem DK.trans {q:World} (h:DK D w w') (k:DK D w' q):DK D w q:=
 ⟨Qj h.size k.size,fun z E y=>(k.same z (Zk E h.size) y).trans (h.same z E y)⟩
theorem DK.set (h:DK D w w') (j:Nat) (u:Value):DK D w (w'.setCell ⟨D,j,none⟩ u):=
 ⟨by simpa using h.size,fun q y k=>(heap_setCell_other w' ⟨D,j,none⟩ q u k).trans (h.same q y k)⟩
theorem Dec.bytes {b:Str} {A:Option Addr} (q:Dec w0 D S w k p nd d n) (h:w0.heap.size<=D) (H:BytesAt w0 A b):BytesAt w A b:=H.below (q.bel.mono h)
end
def qq7:List PanicEntry:=[{v:=.iface 145 (.agg #[]),recovered:=false}]
structure DH (w0:World) (D:Nat) (b:Str) (A:Option Addr) (l cap:Nat):Prop where
 hl:b.length=l
 hl2:l<=100000
 hD:w0.heap.size<=D
 H0:BytesAt w0 A b
 hc:l<=cap
 hcm:cap<=maxLen
def DOk (w0:World) (D:Nat) (S:Value) (w:World) (e:Ending) (w':World) (v:Value) (k:Nat) (p nd d n:Int):Prop:=e=.returned v/\Dec w0 D S w' k p nd d n/\DK D w w'
def qiA (w0:World) (D:Nat) (S:Value) (w:World) (e:Ending) (w':World) (l:Nat) (p nd:Int):Prop:=e=.panicked qq7/\(∃ d h,Dec w0 D S w' l p nd d h)/\DK D w w'
theorem DH.byte {w0:World} {D:Nat} {b:Str} {A:Option Addr} {l cap:Nat} (H:DH w0 D b A l cap) {k:Nat} (G:k<l) {w:World} (z:Below D w0 w):∃ h g,A=some ⟨h,g,none⟩/\w.cell? ⟨h,g+k,none⟩=some (.int .u8 ((b.getD k 0).toNat:Int)):=by
 have q:k<b.length:=by have:=H.hl;omega
 obtain ⟨h,g,y,E⟩:=(H.H0.below (z.mono H.hD)).cellAt q;refine ⟨h,g,y,?_⟩;rw [E,Ql,Qg q];rfl
theorem qds {w0:World} {D:Nat} {b:Str} {A:Option Addr} {l cap:Nat} (H:DH w0 D b A l cap) {w:World} {k:Nat} (aj:k<=l) {p nd d n:Int} (X:Dec w0 D (.slice A l cap) w k p nd d n) :
  Calls prog 185 #[.pointer (some ⟨D,0,none⟩)] w fun e w'=>
   (k<l/\DOk w0 D (.slice A l cap) w e w' (.int .u8 ((b.getD k 0).toNat:Int)) (k+1) p nd d n)\/(k=l/\qiA w0 D (.slice A l cap) w e w' l p nd):=by
 have ag:=H.hl2;have h:=fun g=>below_drewN w w.heap.size g
 obtain ⟨W,aa,K,M,U,G,V⟩:=X.cells;by_cases E:k<l
 ·have O:=J9 (fun x (ad:Below D w0 x)=>H.byte E ad)
  obtain ⟨ae,Z⟩:=N9 (b.getD k 0);rw [Z] at O |-;have z:Hid (∀ g,Dec w0 D (.slice A l cap) ((w.drewN g).setCell ⟨D,1,none⟩ (.int .i64 ((k:Int)+1))) (k+1) p nd d n):=fun g=>(X.all (h g)).set1 (k+1)
  have y:Hid (∀ g,DK D w ((w.drewN g).setCell ⟨D,1,none⟩ (.int .i64 ((k:Int)+1)))):=fun g=>(DK.of_below (h g)).set 1 _
  have ac:((k:Int) == (l:Int))=false:=Qm.2 (by omega);clear H X h Z
  go_enter func185,ntmps185
  go_wp2
  go_quiet (fail)
  go_upto_region 4 with fail
  have q:=z.o nq;have T:=J9 (y.o nq);obtain ⟨x,J⟩:=N9 ((w.drewN nq).setCell ⟨D,1,none⟩ (.int .i64 ((k:Int)+1)));rw [J] at q T |-;clear W aa K M U G V z y J;obtain ⟨ai,af,ab,ah⟩:=O.o x q.bel;obtain ⟨W,aa,K,M,U,G,V⟩:=q.cells;have q:=J9 q;have h:=J9 (fun g=>below_drewN x x.heap.size g);subst ab;go_wp2
  go_quiet (fail)
  go_wp2;go_ret;exact .inl ⟨E,rfl,q.o.all (h.o _),T.o.trans (DK.of_below (h.o _))⟩
 ·obtain rfl:k=l:=by omega
  have z:Hid (∀ g,Dec w0 D (.slice A k cap) (w.drewN g) k p nd d n):=fun g=>X.all (h g)
  have y:Hid (∀ g,DK D w (w.drewN g)):=fun g=>DK.of_below (h g)
  have ac:((k:Int) == (k:Int))=true:=beq_iff_eq.2 rfl;clear H X h E
  go_enter func185,ntmps185
  go_wp2
  go_quiet (fail)
  go_wp2;exact ⟨rfl,.inr ⟨trivial,rfl,⟨d,n,z.o _⟩,y.o _⟩⟩
theorem qf7 {w0:World} {D:Nat} {b:Str} {A:Option Addr} {l cap:Nat} (H:DH w0 D b A l cap) {w:World} {k:Nat} (J:k<=l) {p nd d n:Int} (X:Dec w0 D (.slice A l cap) w k p nd d n) :
  Calls prog 184 #[.pointer (some ⟨D,0,none⟩)] w fun e w'=>
   (k<l/\DOk w0 D (.slice A l cap) w e w' (.int .i64 (sgB (b.getD k 0))) (k+1) p nd d n)\/(k=l/\qiA w0 D (.slice A l cap) w e w' l p nd):=by
 have E:=qds H J X;have K:=(b.getD k 0).toNat_lt;have y:=J9 (fun w=>qoc ((b.getD k 0).toNat:Int) (by omega) (by omega) w);clear H X K
 go_enter func184,ntmps184
 go_wp2_with fail
 refine E.mono ?_;rintro e w' (⟨z,rfl,h,q⟩ | ⟨z,rfl,h,q⟩)
 ·have h:=J9 h
  have q:=J9 q;clear E
  go_wp2_with fail
  refine (y.o _).mono ?_;rintro e M ⟨rfl,G⟩;clear y;go_wp2;go_ret
  first | subst G | (rw [<- G]) | skip
  exact .inl ⟨z,rfl,h.o,q.o⟩
 ·clear E y
  exact ⟨rfl,.inr ⟨z,rfl,h,q⟩⟩
theorem qsX {w0:World} {D:Nat} {b:Str} {A:Option Addr} {l cap:Nat} (H:DH w0 D b A l cap) {w:World} {k:Nat} (U:k<=l) {p nd d n:Int} (X:Dec w0 D (.slice A l cap) w k p nd d n) :
  Calls prog 223 #[.pointer (some ⟨D,0,none⟩)] w fun e w'=>
   (k+1<l/\DOk w0 D (.slice A l cap) w e w' (.int .i64 (((b.getD k 0).toNat:Int)+256*((b.getD (k+1) 0).toNat:Int))) (k+2) p nd d n)\/(l<=k+1/\qiA w0 D (.slice A l cap) w e w' l p nd):=by
 have z:=qds H U X;have y:=J9 (fun E (O:k+1<=l) (h:Dec w0 D (.slice A l cap) E (k+1) p nd d n)=>qds H O h);have V:=(b.getD k 0).toNat_lt;have T:=(b.getD (k+1) 0).toNat_lt;obtain ⟨W,M⟩:=N9 ((b.getD k 0).toNat);obtain ⟨Z,J⟩:=N9 ((b.getD (k+1) 0).toNat);rw [M] at z V |-;rw [J] at y T |-;clear H X M J
 go_enter func223,ntmps223
 go_wp2_with fail
 refine z.mono ?_;rintro e E (⟨N,rfl,h,g⟩ | ⟨N,rfl,h,g⟩)
 ·have G:=y.o E (by omega) h
  have g:=J9 g;clear z h y
  go_wp2_with fail
  refine G.mono ?_;rintro e aa (⟨K,rfl,q,x⟩ | ⟨K,rfl,q,x⟩)
  ·have q:=J9 q
   have x:=J9 (g.o.trans x);clear G g;go_wp2;go_ret;exact .inl ⟨K,rfl,q.o,x.o⟩
  ·clear G
   exact ⟨rfl,.inr ⟨by omega,rfl,q,g.o.trans x⟩⟩
 ·clear z y
  exact ⟨rfl,.inr ⟨by omega,rfl,h,g⟩⟩
theorem qsL {w0:World} {D:Nat} {b:Str} {A:Option Addr} {l cap:Nat} (H:DH w0 D b A l cap) {w:World} {k:Nat} (K:k<=l) {p nd d n:Int} (X:Dec w0 D (.slice A l cap) w k p nd d n) :
  Calls prog 150 #[.pointer (some ⟨D,0,none⟩)] w fun e q=>DOk w0 D (.slice A l cap) w e q (.tuple #[]) 1 p nd d n:=by
 obtain ⟨O,T,E,G,J,z,M⟩:=X.cells;have y:=J9 (X.set1 1);have h:=J9 ((DK.refl D w).set 1 (.int .i64 ((1:Nat):Int)));clear H X
 go_enter func150,ntmps150
 go_wp2
 go_end0
 exact ⟨rfl,y.o,h.o⟩
theorem qeO {w0:World} {D:Nat} {b:Str} {A:Option Addr} {l cap:Nat} (H:DH w0 D b A l cap) {w:World} {k:Nat} (T:k<=l) {p nd d n:Int} (X:Dec w0 D (.slice A l cap) w k p nd d n) :
  Calls prog 183 #[.pointer (some ⟨D,0,none⟩)] w fun y E=>DOk w0 D (.slice A l cap) w y E (.bool (decide (p=5\/p=6))) k p nd d n:=by
 obtain ⟨V,Z,J,K,M,G,U⟩:=X.cells;have t:=J9 X;clear H X;by_cases h:p=5
 ·subst h
  have e:=J9 (show decide ((5:Int)=5\/(5:Int)=6)=true from rfl)
  go_enter func183,ntmps183
  go_wp2;go_ret;exact ⟨rfl,t.o,DK.refl _ _⟩
 ·have W:(p == 5)=false:=Qm.2 h
  have e:=J9 (show decide (p=5\/p=6)=(p == 6) from by
   by_cases q:p=6
   ·subst q;rfl
   ·rw [Qh (by omega),Qm.2 q])
  obtain ⟨O,z⟩:=N9 ((p == 6));rw [z] at e;clear h
  go_enter func183,ntmps183
  go_wp2;go_ret;exact ⟨by rw [e.o];rfl,t.o,DK.refl _ _⟩
end Go.Proofs.YtecpnfhpcamljaaGreatDoor
namespace Go.Proofs.YtecpnfhpcamljaaGreatDoor
open Tryz
open Go.RowKit Go.Shelf
attribute [local go_sem] Oper.semAt_some
theorem qmW (A:Option Addr) (cap l:Nat) (xs:Str) (a:xs.length=l) (af:l<=100000) (w:World) (b:BytesAt w A xs) :
  Calls prog 145 #[.slice A l cap] w fun T G=>∃ q K,T=.returned (.slice q l K)/\qat G w.heap.size (.slice q l K) xs/\Below w.heap.size w G:=by
 cases A with
 | none=>
  obtain rfl:xs=[]:=by
   rcases b with h | ⟨ac,ad,h,_⟩
   ·exact h
   ·cases h
  obtain rfl:l=0:=a.symm;clear b a;have W:=fun w=>Lib.run_eql_slice_nil (P:=prog) w 35 5 none 0 cap 0 0 underlying35
  go_enter func145,ntmps145
  go_wp2;go_ret;exact ⟨none,0,rfl,qj2 _ _,Qc _ _⟩
 | some U=>
  have M:=J9 (qbn w [] (by decide));have e:Below w.heap.size w (w.alloc (.cells #[] 5)):=(B0 (w:=w));have V:=J9 (b.below e);have E:=J9 e;have y:=J9 a;clear b e a
  go_enter func145,ntmps145
  have W:=fun w=>Lib.run_eql_slice_nil (P:=prog) w 35 5 (some U) l cap 0 0 underlying35
  go_wp2_with (at_builtin;refine qfb (xs:=[]) (ys:=xs) M.o V.o E.o.size (by rw [y.o];simp;omega) rfl _ _ rfl rfl rfl l y.o rfl l (by simp) ?_;intro aa Z ae z J;have ab:=J9 z;have O:=J9 J;clear z J)
  go_ret;exact ⟨aa,Z,rfl,ab.o,E.o.trans O.o⟩
theorem qf1 {w0:World} {D:Nat} {b:Str} {A:Option Addr} {l cap:Nat} (H:DH w0 D b A l cap) {w:World} {k:Nat} (aq:k<=l) {p nd d n:Int} (X:Dec w0 D (.slice A l cap) w k p nd d n) :
  Calls prog 107 #[.pointer (some ⟨D,0,none⟩)] w fun K h=>∃ J U,K=.returned (.slice J k U)/\qat h w.heap.size (.slice J k U) (b.take k)/\Below w.heap.size w h:=by
 obtain ⟨V,W,ae,af,ag,ab,am⟩:=X.cells;have ar:=H.hl2;have ap:¬cap<k:=by have:=H.hc;omega
 have an:=H.hcm;have Z:Hid ((b.take k).length=k):=by show _=_;rw [QH,H.hl];omega
 obtain ⟨E,q⟩:=N9 (w.drew);have G:Below w.heap.size w E:=by rw [<- q];exact below_drewN w _ 1
 have M:E.heap.size=w.heap.size:=by rw [<- q];rfl
 have O:=J9 (qmW A cap k (b.take k) Z.o (by omega) E (take_at ((X.bytes H.hD H.H0).below G) k));have T:=J9 G;have aa:=J9 M;unfold maxLen at an;clear H X G M
 go_enter func107,ntmps107
 go_wp2;refine Mixed.qAQ (fun h=>h.cell? ⟨D,0,none⟩=some (.slice A l cap)/\h.cell? ⟨D,1,none⟩=some (.int .i64 (k:Int))) 9 [(0,true),(1,true),(2,true),(3,true),(4,true),(5,true),(6,true),(7,true),(8,true)] (by kernel_rfl) (by kernel_rfl) ⟨V,W⟩ ?_;clear V W ae af ag ab am;refine Mixed.mp rfl (.pointer (some ⟨D,0,none⟩)) ?_;refine Mixed.mp rfl (.pointer (some ⟨D,0,none⟩)) ?_;refine Mixed.mp rfl (.pointer (some ⟨D,0,none⟩)) ?_;refine Mixed.mo rfl (.slice A l cap) (fun w e=>by obtain ⟨ad,ai⟩:=e;go_simp;try rfl) ?_;refine Mixed.mp rfl (.pointer (some ⟨D,0,none⟩)) ?_;refine Mixed.mp rfl (.pointer (some ⟨D,0,none⟩)) ?_;refine Mixed.mp rfl (.pointer (some ⟨D,1,none⟩)) ?_;refine Mixed.mo rfl (.int .i64 (k:Int)) (fun w e=>by obtain ⟨ad,ai⟩:=e;go_simp;try rfl) ?_;refine Mixed.mo rfl (.slice A k cap) (fun w e=>by clear e;go_simp;try rfl) ?_;simp only [Mixed.qAU,Qr,Qx];rw [q];clear q
 go_wp2_with fail
 refine O.o.mono ?_;rintro K ao ⟨aj,ah,rfl,z,y⟩;rw [aa.o] at z y;have ak:=J9 z;have ac:=J9 (T.o.trans y);clear z y O T;go_wp2;go_ret;exact ⟨aj,ah,rfl,ak.o,ac.o⟩
theorem qsB {w0:World} {D:Nat} {b:Str} {A:Option Addr} {l cap:Nat} (H:DH w0 D b A l cap) {w:World} {k:Nat} (ad:k<=l) {p nd d n:Int} (X:Dec w0 D (.slice A l cap) w k p nd d n) {c:UInt8} (ah:c=100\/c=101\/c=110\/c=119) :
  Calls prog 188 #[.pointer (some ⟨D,0,none⟩),.int .i32 (c.toNat:Int)] w fun e w'=>
   (k+qgJ c<=l/\DOk w0 D (.slice A l cap) w e w' (.tuple #[]) (k+qgJ c) p nd (qaS c (b.drop k) (d,n)).1 (qaS c (b.drop k) (d,n)).2)\/(l<k+qgJ c/\qiA w0 D (.slice A l cap) w e w' l p nd):=by
 have J:(b.drop k).getD 0 0=b.getD k 0:=by rw [getD_drop];rfl
 have V:(b.drop k).getD 1 0=b.getD (k+1) 0:=by rw [getD_drop]
 have ai:=(b.getD k 0).toNat_lt;have M:=J9 (qds H ad X);have G:=J9 (qf7 H ad X);have U:=J9 (qsX H ad X);clear H X;rcases ah with rfl | rfl | rfl | rfl
 ·have E:qaS 100 (b.drop k) (d,n)=(sgB (b.getD k 0),n):=by unfold qaS;rw [Qi rfl,J]
  rw [E,show qgJ 100=1 from rfl];obtain ⟨y,z⟩:=N9 (sgB (b.getD k 0));simp only [z] at G |-;rw [show (((100:UInt8).toNat:Nat):Int)=100 from rfl];clear E z J V M U
  go_enter func188,ntmps188
  go_wp2_with fail
  refine G.o.mono ?_;rintro e Z (⟨K,rfl,h,q⟩ | ⟨K,rfl,h,q⟩)
  ·obtain ⟨af,ag,aa,ab,ac,W,ae⟩:=h.cells
   have T:=J9 (h.set4 y);have O:=J9 (q.set 4 (.int .i64 y));clear h q G;go_wp2
   go_end0
   exact .inl ⟨by omega,rfl,T.o,O.o⟩
  ·clear G
   exact ⟨rfl,.inr ⟨by omega,rfl,h,q⟩⟩
 ·have E:qaS 101 (b.drop k) (d,n)=(d,sgB (b.getD k 0)):=by unfold qaS;rw [Qe (by decide),Qi rfl,J]
  rw [E,show qgJ 101=1 from rfl];obtain ⟨y,z⟩:=N9 (sgB (b.getD k 0));simp only [z] at G |-;rw [show (((101:UInt8).toNat:Nat):Int)=101 from rfl];clear E z J V M U
  go_enter func188,ntmps188
  go_wp2_with fail
  refine G.o.mono ?_;rintro e Z (⟨K,rfl,h,q⟩ | ⟨K,rfl,h,q⟩)
  ·obtain ⟨af,ag,aa,ab,ac,W,ae⟩:=h.cells
   have T:=J9 (h.set5 y);have O:=J9 (q.set 5 (.int .i64 y));clear h q G;go_wp2
   go_end0
   exact .inl ⟨by omega,rfl,T.o,O.o⟩
  ·clear G
   exact ⟨rfl,.inr ⟨by omega,rfl,h,q⟩⟩
 ·have E:qaS 110 (b.drop k) (d,n)=(d,((b.getD k 0).toNat:Int)):=by unfold qaS;rw [Qe (by decide),Qe (by decide),Qi rfl,J]
  rw [E,show qgJ 110=1 from rfl];obtain ⟨y,z⟩:=N9 ((b.getD k 0).toNat);rw [z] at M ai |-;rw [show (((110:UInt8).toNat:Nat):Int)=110 from rfl];clear E z J V G U
  go_enter func188,ntmps188
  go_wp2_with fail
  refine M.o.mono ?_;rintro e Z (⟨K,rfl,h,q⟩ | ⟨K,rfl,h,q⟩)
  ·obtain ⟨af,ag,aa,ab,ac,W,ae⟩:=h.cells
   have T:=J9 (h.set5 (y:Int));have O:=J9 (q.set 5 (.int .i64 (y:Int)));clear h q M;go_wp2
   go_end0
   exact .inl ⟨by omega,rfl,T.o,O.o⟩
  ·clear M
   exact ⟨rfl,.inr ⟨by omega,rfl,h,q⟩⟩
 ·have E:qaS 119 (b.drop k) (d,n)=(d,((b.getD k 0).toNat:Int)+256*((b.getD (k+1) 0).toNat:Int)):=by unfold qaS;rw [Qe (by decide),Qe (by decide),Qe (by decide),Qi rfl,J,V]
  rw [E,show qgJ 119=2 from rfl];obtain ⟨y,z⟩:=N9 (((b.getD k 0).toNat:Int)+256*((b.getD (k+1) 0).toNat:Int));simp only [z] at U |-;rw [show (((119:UInt8).toNat:Nat):Int)=119 from rfl];clear E z J V G M
  go_enter func188,ntmps188
  go_wp2_with fail
  refine U.o.mono ?_;rintro e Z (⟨K,rfl,h,q⟩ | ⟨K,rfl,h,q⟩)
  ·obtain ⟨af,ag,aa,ab,ac,W,ae⟩:=h.cells
   have T:=J9 (h.set5 y);have O:=J9 (q.set 5 (.int .i64 y));clear h q U;go_wp2
   go_end0
   exact .inl ⟨by omega,rfl,T.o,O.o⟩
  ·clear U
   exact ⟨rfl,.inr ⟨by omega,rfl,h,q⟩⟩
theorem qkn {w0:World} {D:Nat} {b:Str} {A:Option Addr} {l cap:Nat} (H:DH w0 D b A l cap) {w:World} {k:Nat} (T:k<=l) {p nd d n:Int} (X:Dec w0 D (.slice A l cap) w k p nd d n) (M:¬(p=5\/p=6)) :
  Calls prog 147 #[.pointer (some ⟨D,0,none⟩)] w fun e w'=>
   (k<l/\DOk w0 D (.slice A l cap) w e w' (.int .u8 ((b.getD k 0).toNat:Int)) (k+1) p ((k:Int)+1) d n)\/(k=l/\qiA w0 D (.slice A l cap) w e w' l p ((k:Int)+1)):=by
 have ag:=H.hl2;obtain ⟨ac,ad,W,Z,aa,V,ab⟩:=X.cells;have O:=X.set3 ((k:Int)+1);have y:=(DK.refl D w).set 3 (.int .i64 ((k:Int)+1));have K:=qeO H T O;rw [Qh M] at K;have z:=J9 (fun E x=>qds H T (w:=E) (p:=p) (nd:=(k:Int)+1) (d:=d) (n:=n) x);obtain ⟨ae,U⟩:=N9 ((b.getD k 0).toNat);rw [U] at z |-;have y:=J9 y;clear H X O U M
 go_enter func147,ntmps147
 go_wp2_with fail
 refine K.mono ?_;rintro e E ⟨rfl,h,q⟩;have J:=z.o E h;have G:=J9 (y.o.trans q);clear K h q y z ac ad W Z aa V ab
 go_wp2_with fail
 refine J.mono ?_;rintro e af (⟨x,rfl,h,q⟩ | ⟨x,rfl,h,q⟩)
 ·have h:=J9 h
  have q:=J9 (G.o.trans q);clear J G;go_wp2;go_ret;exact .inl ⟨x,rfl,h.o,q.o⟩
 ·clear J
  exact ⟨rfl,.inr ⟨x,rfl,h,G.o.trans q⟩⟩
theorem qkA {w0:World} {D:Nat} {b:Str} {A:Option Addr} {l cap:Nat} (H:DH w0 D b A l cap) {w:World} {k:Nat} (ag:k<=l) {p nd d n:Int} (X:Dec w0 D (.slice A l cap) w k p nd d n) (Z:p=5\/p=6) :
  Calls prog 147 #[.pointer (some ⟨D,0,none⟩)] w fun e w'=>
   (k+1<l/\DOk w0 D (.slice A l cap) w e w' (.int .u8 ((b.getD (k+1) 0).toNat:Int)) (k+2) p ((k:Int)+2) (sgB (b.getD k 0)) n)\/(l<=k+1/\qiA w0 D (.slice A l cap) w e w' l p ((k:Int)+2)):=by
 have ax:=H.hl2;obtain ⟨ai,ak,aa,ab,ac,W,ah⟩:=X.cells;have ad:=X.set3 ((k:Int)+1);have J:=(DK.refl D w).set 3 (.int .i64 ((k:Int)+1));have V:=qeO H ag ad;rw [Qn Z] at V;have M:=J9 (fun y q=>qf7 H ag (w:=y) (p:=p) (nd:=(k:Int)+2) (d:=d) (n:=n) q);obtain ⟨x,ae⟩:=N9 (sgB (b.getD k 0));rw [ae] at M |-;have G:=J9 (fun y (g:k+1<=l) q=>qds H g (w:=y) (p:=p) (nd:=(k:Int)+2) (d:=x) (n:=n) q);obtain ⟨aw,aj⟩:=N9 ((b.getD (k+1) 0).toNat);rw [aj] at G |-;have J:=J9 J;clear H X ad aj Z ae
 go_enter func147,ntmps147
 go_wp2_with fail
 refine V.mono ?_;rintro e y ⟨rfl,g,h⟩;obtain ⟨ap,am,aq,ar,au,an,av⟩:=g.cells;have K:=M.o _ (show Dec w0 D (.slice A l cap) (y.setCell ⟨D,3,none⟩ (.int .i64 ((k:Int)+2))) k p ((k:Int)+2) d n from g.set3 ((k:Int)+2));have O:=J9 ((J.o.trans h).set 3 (.int .i64 ((k:Int)+2)));clear V g h J M ai ak aa ab ac W ah
 go_wp2_with fail
 refine K.mono ?_;rintro e ao (⟨q,rfl,g,h⟩ | ⟨q,rfl,g,h⟩)
 ·obtain ⟨ai,ak,aa,ab,ac,W,ah⟩:=g.cells
  have U:=G.o _ q (show Dec w0 D (.slice A l cap) (ao.setCell ⟨D,4,none⟩ (.int .i64 x)) (k+1) p ((k:Int)+2) x n from g.set4 x);have T:=J9 ((O.o.trans h).set 4 (.int .i64 x));clear K g h O G ap am aq ar au an av
  go_wp2_with fail
  refine U.mono ?_;rintro e ay (⟨af,rfl,z,E⟩ | ⟨af,rfl,z,E⟩)
  ·have z:=J9 z
   have E:=J9 (T.o.trans E);clear U T;go_wp2;go_ret;exact .inl ⟨af,rfl,z.o,E.o⟩
  ·clear U
   exact ⟨rfl,.inr ⟨by omega,rfl,z,T.o.trans E⟩⟩
 ·clear K G
  exact ⟨rfl,.inr ⟨by omega,rfl,g,O.o.trans h⟩⟩
theorem qnV (b:Str) (A:Option Addr) (l cap:Nat) (w:World) :
  Calls prog 63 #[.slice A l cap] w fun q e=>q=.returned (.pointer (some ⟨w.heap.size,0,none⟩))/\Dec w w.heap.size (.slice A l cap) e 0 0 0 0 0/\Below w.heap.size w e:=by
 have h:Hid (Dec w w.heap.size (.slice A l cap) (w.alloc (.cells #[.slice A l cap,.int .i64 0,.int .i64 0,.int .i64 0,.int .i64 0,.int .i64 0] 143)) 0 0 0 0 0):=⟨World.alloc_heap_new w _,(B0 (w:=w))⟩
 go_enter func63,ntmps63
 go_wp2;go_ret;exact ⟨rfl,h.o,h.o.bel⟩
theorem qsQ (w:World):Calls prog 222 #[.string ⟨#[100]⟩,.string ⟨#[100]⟩] w fun q h=>q=.returned (.string ⟨#[]⟩)/\h=w:=by
 have e:=fun w=>qev ⟨#[100]⟩ ⟨#[100]⟩ (by decide) (by decide) w
 rw [show preB (⟨#[100]⟩:ByteArray) ⟨#[100]⟩=true from by decide +kernel] at e
 go_enter func222,ntmps222
 go_wp2_with fail
 refine (e w).mono ?_;rintro q h ⟨rfl,rfl⟩;clear e;go_wp2;go_ret;exact ⟨rfl,rfl⟩
theorem qpn (w:World):Calls prog 187 #[.string ⟨#[100]⟩,.string ⟨#[100]⟩] w fun h e=>h=.returned (.string ⟨#[]⟩)/\e=w:=by
 go_enter func187,ntmps187
 go_wp2_with fail
 refine (qsQ w).mono ?_;rintro h e ⟨rfl,rfl⟩;go_wp2;go_ret;exact ⟨rfl,rfl⟩
def qfk (h:Int) (ex:Str):Str:=if 5<=h then [] else ex
theorem qvP {w:World} {e:Nat} {s2:Str} {j:Nat} (G:w.heap[e]?=some (.stringIter (sB s2) j)) (h:j<s2.length) (c:Nat) (E:s2[j].toNat=c) (z:c<128) :
  ∀ ty,(Instr.next (.pointer (some ⟨e,0,none⟩)) true ty).run prog w=.ok (.tuple #[.bool true,.int .i64 j,.int .i32 (c:Int)]) (w.iterAt e (sB s2) (j+1)):=fun ty=>by
 have q:j<(sB s2).size:=by rw [qaB];exact h
 have J:(sB s2)[j]=s2[j]:=qjr s2 j q h;have y:((sB s2)[j]).toNat=c:=(congrArg UInt8.toNat J).trans E;rw [Lib.run_next_ascii_at w e (sB s2) j ty G q (by rw [y];exact z),y]
end Go.Proofs.YtecpnfhpcamljaaGreatDoor
namespace Go.Proofs.YtecpnfhpcamljaaGreatDoor
open Tryz
open Go.RowKit Go.Shelf
attribute [local go_sem] Oper.semAt_some
attribute [local irreducible] Go.Mixed.qAU
theorem qbX {w w1 w2:World} {n:Nat} {x:Ite} {A B:Option Addr} {c c2:Nat} (h:w.heap.size=n) (E:Below n w w1) (G:n<w1.heap.size) (y:qat w1 (n+1) (.slice A x.raw.length c) x.raw) (z:qaf w1 (n+1) (.slice B x.C.length c2) x.C)
  (q:Below n w1 w2/\(∀ B u L,n<B->qaf w1 B u L->qaf w2 B u L)/\(∀ B u L,n<B->qat w1 B u L->qat w2 B u L)) :
  qth w x (.returned (.agg #[.int .i64 x.kind,.slice A x.raw.length c,.string (sB x.m),.slice B x.C.length c2,.bool x.al])) w2:=
 ⟨A,c,B,c2,rfl,by rw [h];exact (q.2.2 _ _ _ (by omega) y).lift (by omega),by rw [h];exact row_mono (q.2.1 _ _ _ (by omega) z) (by omega),by rw [h];exact E.trans q.1⟩
def itF (n:Nat) (kind:Int) (va:Value) (s:ByteArray) (vb:Value) (al:Bool):Fr.F:=⟨fun h=>qas h n kind va s vb al,fun q w=>q.all w⟩
def byF (A:Option Addr) (b:Str):Fr.F:=⟨fun h=>BytesAt h A b,fun q w=>q.below w⟩
def opF (A:Option Addr) (L:List Tr):Fr.F:=⟨fun h=>qai h A L,fun q w=>q.below w⟩
theorem qgl {w w':World} {b B:Nat} {kind:Int} {va vb u:Value} {s:ByteArray} {al:Bool} {xs:Str} (E:qas w b kind va s vb al) (h:qat w B u xs) (k:∀ k,k≠b->w'.heap[k]?=w.heap[k]?):qat w' B u xs:=by
 refine ⟨h.1,?_⟩;rcases h.2 with K | ⟨g,y,M,J,G,e,z⟩
 ·exact .inl K
 ·refine .inr ⟨g,y,M,J,G,(k g (fun q=>?_)).trans e,z⟩
  subst q;rw [show w.heap[g]?=_ from E] at e;simp at e
theorem qdM {w w':World} {b B:Nat} {kind:Int} {va vb u:Value} {s:ByteArray} {al:Bool} {L:List Tr} (E:qas w b kind va s vb al) (h:qaf w B u L) (k:∀ k,k≠b->w'.heap[k]?=w.heap[k]?):qaf w' B u L:=by
 refine ⟨h.1,?_⟩;rcases h.2 with K | ⟨g,y,M,J,G,e,z⟩
 ·exact .inl K
 ·refine .inr ⟨g,y,M,J,G,(k g (fun q=>?_)).trans e,z⟩
  subst q;rw [show w.heap[g]?=_ from E] at e;simp at e
theorem qas.put2 {w:World} {b:Nat} {kind:Int} {va vb:Value} {s:ByteArray} {al:Bool} (E:qas w b kind va s vb al) (y:ByteArray) (q:Value) :
  ∃ h,(w.setCell ⟨b,2,none⟩ (.string y)).setCell ⟨b,3,none⟩ q=h/\qas h b kind va y q al/\Below b w h/\∀ k,k≠b->h.heap[k]?=w.heap[k]?:=by
 refine ⟨_,rfl,?_,?_,fun k z=>?_⟩
 ·exact heap_setCell_same _ b 3 _ _ q (heap_setCell_same w b 2 _ _ (.string y) E)
 ·exact ((Qc b w).setCell (p:=⟨b,2,none⟩) (Qa _) _).setCell (p:=⟨b,3,none⟩) (Qa _) _
 ·exact (heap_setCell_other _ ⟨b,3,none⟩ k _ z).trans (heap_setCell_other _ ⟨b,2,none⟩ k _ z)
theorem qas.put4 {w:World} {b:Nat} {kind:Int} {va vb:Value} {s:ByteArray} {al:Bool} (y:qas w b kind va s vb al) (q:Bool) :
  ∃ h,w.setCell ⟨b,4,none⟩ (.bool q)=h/\qas h b kind va s vb q/\Below b w h/\∀ k,k≠b->h.heap[k]?=w.heap[k]?:=
 ⟨_,rfl,heap_setCell_same w b 4 _ _ _ y,(Qc b w).setCell (p:=⟨b,4,none⟩) (Qa _) _,fun k z=>heap_setCell_other _ ⟨b,4,none⟩ k _ z⟩
theorem qjh (b:Str) (cQ:b≠[]) (A:Option Addr) (cap l:Nat) (bw:b.length=l) (cV:l<=cap) (cE:cap<=maxLen) (de:l<=10000) (w:World) (H:BytesAt w A b) :
  Calls prog 59 #[.slice A l cap] w (qth w (itR b)):=by
 obtain ⟨p,bE⟩:=N9 (w.heap.size);have bg:=J9 bE;obtain ⟨br,dI,av,b1,dc⟩:=qbQ w p bE;have bC:=qld b cQ A cap l bw br (H.below b1);have ad:=J9 (fun ds ar bb C g=>qli ds b A cap l bw cV cE ar bb de C g);have aW:Hid (∀ C,Below p w C->BytesAt C A b):=fun C g=>H.below (by rw [bE];exact g)
 have av:=J9 av;have B0:Hid (Below p w br):=by rw [<- bE];exact b1
 obtain ⟨bO,bq,bx⟩:=qtU b;have bu:=J9 (@quL b);have bz:=J9 (@qux b);have b3:Hid (nxA b=if 5<=(pgA b).1 then 2 else (pgA b).2+1):=rfl;have bo:=J9 (fun aU aS i (L:ExP aU aS i) a8 g=>qya (b:=b) L a8 g);have bL:=J9 (fun aU aS i (L:ExP aU aS i) a8 g=>qxi (b:=b) L a8 g);obtain ⟨⟨n,aw⟩,bX⟩:=N9 (pgA b);have bm:=J9 bX;rw [bX] at bC bO bq bx;simp only at bC bO bq bx;have y:=J9 bw;clear H b1 bX bw cE cV cQ
 go_enter func59,ntmps59
 go_wp2_with fail
 refine bC.mono ?_;rintro ab C ⟨rfl,c3⟩;rw [c3];clear bC c3;by_cases dm:l<=aw
 ·have cK:hdB b=none:=bu.o (by rw [bm.o,y.o];exact dm)
  have aq:Hid (itR b=qbv 4 (b.take l)):=by show itR b=_;unfold itR;rw [cK,<- y.o,Zt]
  have K:=ad.o 4 l (Qa _) br (aW.o _ B0.o);have o:Hid ((b.take l).length=l):=by show _=_;rw [QH,y.o];omega
  clear cK ad bu bz bo bL
  go_wp2_with fail
  refine K.mono ?_;rintro ab aD ⟨A1,W,U,T,rfl,k,m,j⟩;rw [dc] at k m;have I1:=av.o.all j;have a1:=B0.o.trans (j.mono (by omega));simp only [qbv,QP] at k m |-;rw [o.o] at k |-;obtain ⟨w2,dw,O,J,aM,F,G,aN⟩:=I1.put 4 (.slice A1 l W) (sB []) (.slice U 0 T) false;have s:=J9 (qbX (w:=w) (w2:=w2) (x:=qbv 4 (b.take l)) bg.o a1 I1.lt (by simp only [qbv];rw [o.o];exact k) m ⟨J,F,G⟩);obtain ⟨a9,aY,bc,bj,bh,a0⟩:=I1.cells;obtain ⟨af,ao,ag,aj,al,bp⟩:=O.cells;simp only [qbv,QP] at s;rw [o.o] at s;clear K j k m a1 I1 O J aM F G aN B0 av;go_wp2;refine bodyPost_ret (v:=.agg #[.int .i64 4,.slice A1 l W,.string (sB []),.slice U 0 T,.bool false]) ?_ rfl ?_
  ·simp [results,results59,go_sem,af,ao,ag,aj,al]
  ·rw [aq.o]
   exact s.o
 ·have bn:aw<l:=by omega
  have am:=bz.o (by rw [bm.o,y.o];exact bn);have a2:=fun aU aS i (L:ExP aU aS i) a8=>bo.o aU aS i L a8 (by rw [bm.o,y.o];exact bn)
  have bM:=b3.o;simp only [bm.o] at am a2 bM;have du:aw<b.length:=by rw [y.o];exact bn
  obtain ⟨aJ,aH,rfl,aI⟩:=(aW.o _ B0.o).cellAt du;obtain ⟨q,ct⟩:=N9 (b[aw]);rw [ct] at aI am;obtain ⟨rest,b2⟩:=N9 ((if 5<=n then b.getD 2 0 :: b.drop 4 else b.drop (aw+1)));rw [b2] at am a2;have V:=qqN n q.toNat q.toNat_lt br;unfold qlT at V;have d1:=J9 am;have E:Hid (itR b=match qaX n q.toNat with
   | none=>if rkindT n q.toNat=0 then qbv 2 (b.take 1) else qbv 3 (b.take 2)
   | some x=>if b.length<sizeT n x.2.2.1 then qbv 4 b else ⟨1,b.take (sizeT n x.2.2.1),x.1,(qaW x.2.2.1 x.2.1 (qcW x.2.2.1 rest).1 (qcW x.2.2.1 rest).2).getD [],x.2.2.2⟩):=by
   show itR b=_;unfold itR;rw [am]
   try rfl
  have bb:=@qko b n q rest am;have b7:=qo1 am;have cr:=@qgR n q.toNat q.toNat_lt;have cl:=@qpe n q.toNat q.toNat_lt;cases L:qaX n q.toNat with
  | none=>
   rw [L] at V E;simp only at V E;obtain ⟨b5,c8⟩:=N9 (rkindT n q.toNat);have bF:=bb L;rw [c8] at V E bF;have aL:Hid (b5=3->2<=l):=fun g=>by
    have bN:n=2:=by rcases bF with cY | cY;omega;exact cY.2
    have:=b7.1;rw [bN,y.o] at this;exact this
   have dj:b5=0\/b5=3:=by rcases bF with g | g;exact .inl g;exact .inr g.1
   clear bb bF c8 L am b7 cr cl a2 bu bz bo bL b3 bM bx bq bO b2 ct;unfold enV at V
   go_wp2_with fail
   refine V.mono ?_;rintro ab aD ⟨rfl,j⟩;have a1:=B0.o.trans (j.mono (by omega));have I1:=av.o.all j;have df:p<aD.heap.size:=I1.lt;clear V j B0 av aI
   go_upto_region 5 with fail
   obtain ⟨wx,aT⟩:=N9 (aD.alloc (.cells #[.int .i64 0,.int .u8 0,.string (sB []),.slice none 0 0,.string (sB []),.bool false] 30));have aV:Below aD.heap.size aD wx:=(by rw [<- aT];exact qaE _ _);have ay:=J9 (I1.all aV);have ae:=J9 (a1.trans (aV.mono (by omega)));have aF:Hid (p+1<=wx.heap.size):=(by have:=aV.size;show _<=_;omega);rw [aT];clear aT a1 I1 df aV;rcases dj with rfl | rfl
   ·have K:=ad.o 2 1 (by omega) wx (aW.o _ ae.o)
    have aq:Hid (itR b=qbv 2 (b.take 1)):=(by show itR b=_;rw [E.o,Qi rfl]);have o:Hid ((b.take 1).length=1):=(by show _=_;rw [QH,y.o];omega);clear ad E
    go_wp2_with fail
    refine K.mono ?_;rintro ab w2 ⟨A1,W,U,T,rfl,k,m,j⟩;have I2:=ay.o.all j;have au:Below p w w2:=ae.o.trans (j.mono (by have:=aF.o;omega));have k:=k.lift aF.o;have m:=row_mono m aF.o;simp only [qbv,QP] at k m |-;rw [o.o] at k |-;obtain ⟨ak,bl,O,J,aM,F,G,aN⟩:=I2.put 2 (.slice A1 1 W) (sB []) (.slice U 0 T) false;have s:=J9 (qbX (w:=w) (w2:=ak) (x:=qbv 2 (b.take 1)) bg.o au I2.lt (by simp only [qbv];rw [o.o];exact k) m ⟨J,F,G⟩);obtain ⟨a9,aY,bc,bj,bh,a0⟩:=I2.cells;obtain ⟨af,ao,ag,aj,al,bp⟩:=O.cells;simp only [qbv,QP] at s;rw [o.o] at s;clear K j k m au I2 O J aM F G aN ae ay;go_wp2;refine bodyPost_ret (v:=.agg #[.int .i64 2,.slice A1 1 W,.string (sB []),.slice U 0 T,.bool false]) ?_ rfl ?_
    ·simp [results,results59,go_sem,af,ao,ag,aj,al]
    ·rw [aq.o]
     exact s.o
   ·have K:=ad.o 3 2 (aL.o rfl) wx (aW.o _ ae.o)
    have aq:Hid (itR b=qbv 3 (b.take 2)):=(by show itR b=_;rw [E.o,Qe (by decide)]);have o:Hid ((b.take 2).length=2):=(by show _=_;rw [QH,y.o];have:=aL.o rfl;omega);clear ad E
    go_wp2_with fail
    refine K.mono ?_;rintro ab w2 ⟨A1,W,U,T,rfl,k,m,j⟩;have I2:=ay.o.all j;have au:Below p w w2:=ae.o.trans (j.mono (by have:=aF.o;omega));have k:=k.lift aF.o;have m:=row_mono m aF.o;simp only [qbv,QP] at k m |-;rw [o.o] at k |-;obtain ⟨ak,bl,O,J,aM,F,G,aN⟩:=I2.put 3 (.slice A1 2 W) (sB []) (.slice U 0 T) false;have s:=J9 (qbX (w:=w) (w2:=ak) (x:=qbv 3 (b.take 2)) bg.o au I2.lt (by simp only [qbv];rw [o.o];exact k) m ⟨J,F,G⟩);obtain ⟨a9,aY,bc,bj,bh,a0⟩:=I2.cells;obtain ⟨af,ao,ag,aj,al,bp⟩:=O.cells;simp only [qbv,QP] at s;rw [o.o] at s;clear K j k m au I2 O J aM F G aN ae ay;go_wp2;refine bodyPost_ret (v:=.agg #[.int .i64 3,.slice A1 2 W,.string (sB []),.slice U 0 T,.bool false]) ?_ rfl ?_
    ·simp [results,results59,go_sem,af,ao,ag,aj,al]
    ·rw [aq.o]
     exact s.o
  | some x=>
   obtain ⟨ah,aO,i,an⟩:=x;rw [L] at V E;simp only at V E;have aA:=cr L;have cf:=cl L;have cm:qdA (n,(q.toNat:Int),ah,aO,i,an):=⟨q.toNat,q.toNat_lt,rfl,L⟩;have ok:=cm.ok;have b0:=ok.ex;have cA:=ok.len;have bA:=ok.places;simp only at b0 cA bA aA cf;obtain ⟨a7,bI⟩:=qkW aA cf (qks aA rest);have bs:=a2 n q.toNat i aA rfl;have aC:=(fun a4=>bL.o n q.toNat i aA (by rw [bm.o]) a4);have b9:=qu9 aA;rw [bI,Option.getD_some] at E;obtain ⟨h,bZ⟩:=N9 (nxA b);have cj:h<=4/\(if 5<=n then (2:Nat) else aw+1)=h:=by rw [<- bZ,bM];split <;> omega
   rw [bZ] at bs aC;obtain ⟨M,cZ⟩:=N9 (sizeT n i);rw [cZ] at E aC b9;have aL:=J9 (fun A p cap C=>qpQ n (q.toNat:Int) ah A p cap i (by omega) an C);rw [b9] at aL;obtain ⟨cH,c1⟩:=N9 (qcW i rest);rw [c1] at bs bI;have ax:=J9 (fun A cap C g=>qqb n (q.toNat:Int) ah A cap aO.length aO rfl (by omega) i (by omega) an cH.1 cH.2 C g);rw [qoo bA,bI] at ax;unfold qa8 at ax;simp only at ax;have bD:=J9 bs;have cd:=J9 aC;have dO:1<=M/\M<=4:=(by have:=(qfI cm 0 0).2;simp only at this;omega);unfold enV at V aL ax;clear bb L am b7 cr cl a2 bu bz bo bL b3 cm ok aA cf bI bs aC b9 bZ c1 b2 ct cZ bA bM bx bq bO
   go_wp2_with fail
   refine V.mono ?_;rintro ab aD ⟨⟨v,rfl,cG⟩,j⟩;obtain ⟨A1,W,rfl,cO,-⟩:=cG.ops;have cW:Hid (Fr.St aD [opF A1 aO,itF p 0 (.slice none 0 0) ⟨#[]⟩ (.slice none 0 0) false,byF (some ⟨aJ,aH,none⟩) b,Fr.bel p w]):=
    ⟨cO,av.o.all j,(aW.o _ B0.o).below j,⟨B0.o.trans (j.mono (by omega)),by have:=j.size;show p<=_;omega⟩,trivial⟩
   clear V j B0 av aI cG cO aW
   go_upto_region 5 with fail
   obtain ⟨dx,wx,dg,aT,b4,aV,aF⟩:=Fr.box cW #[.int .i64 n,.int .u8 (q.toNat:Int),.string (sB ah),.slice A1 aO.length W,.string (sB i),.bool an] 30;rw [aT,dg];clear aT cW aV;obtain ⟨bd,be,a5,a6,bk,aX⟩:=Fr.qBq b4.o.1
   go_wp2_with fail
   refine (aL.o A1 aO.length W wx).mono ?_;rintro ab aP ⟨rfl,j⟩;have z:=Fr.up b4 j;clear aL b4 j bd be a5 a6 bk aX;by_cases a4:l<M
   ·have db:(M:Int) > (l:Int):=by omega
    have K:=ad.o 4 l (Qa _) aP z.o.2.2.2.1;have aq:Hid (itR b=qbv 4 (b.take l)):=(by show itR b=_;rw [E.o,Qi (by rw [y.o];exact a4),<- y.o,Zt]);have o:Hid ((b.take l).length=l):=(by show _=_;rw [QH,y.o];omega);have ae:=z.o.2.2.2.2.1;have ay:=J9 z.o.2.2.1;have bB:p+1<=aP.heap.size:=ay.o.lt;clear ad E z ax bD cd
    go_wp2_with fail
    refine K.mono ?_;rintro ab w2 ⟨aK,aE,U,T,rfl,k,m,j⟩;have I2:qas w2 p _ _ _ _ _:=ay.o.all j;have au:=ae.1.trans (j.mono ae.2);have k:=k.lift bB;have m:=row_mono m bB;simp only [qbv,QP] at k m |-;rw [o.o] at k |-;obtain ⟨ak,bl,O,J,aM,F,G,aN⟩:=I2.put 4 (.slice aK l aE) (sB []) (.slice U 0 T) false;have s:=J9 (qbX (w:=w) (w2:=ak) (x:=qbv 4 (b.take l)) bg.o au I2.lt (by simp only [qbv];rw [o.o];exact k) m ⟨J,F,G⟩);obtain ⟨a9,aY,bc,bj,bh,a0⟩:=I2.cells;obtain ⟨af,ao,ag,aj,al,bp⟩:=O.cells;simp only [qbv,QP] at s;rw [o.o] at s;clear K j k m au I2 O J aM F G aN ae ay;go_wp2;refine bodyPost_ret (v:=.agg #[.int .i64 4,.slice aK l aE,.string (sB []),.slice U 0 T,.bool false]) ?_ rfl ?_
    ·simp [results,results59,go_sem,af,ao,ag,aj,al]
    ·rw [aq.o]
     exact s.o
   ·have db:¬((M:Int) > (l:Int)):=by omega
    have aC:=cd.o (by rw [y.o];omega);have cB:=J9 aC;have aq:Hid (itR b=⟨1,b.take M,ah,a7,an⟩):=(by show itR b=_;rw [E.o,Qe (by rw [y.o];exact a4)]);obtain ⟨az,bK⟩:=N9 (sB i);have dd:az.size=i.length:=(by rw [<- bK,qaB]);have bW:Hid (∀ ar (g:ar<az.size) (cJ:ar<i.length),az[ar]=i[ar]):=fun ar g cJ=>by subst bK;exact qjr i ar g cJ
    obtain ⟨bG,bH⟩:=N9 (i.length);rw [bH] at dd b0;have dt:=J9 bH;rw [bK] at z ax;rw [bH] at bD;clear aC cd E bH bK;have ci:Hid ((5<=n->(h:Int)=2)/\(¬5<=n->(h:Int)=(aw:Int)+1)):=by
     refine ⟨fun g=>?_,fun g=>?_⟩
     ·have:=cj.2;rw [Qi g] at this;omega
     ·have:=cj.2;rw [Qe g] at this;omega
    by_cases b6:5<=n
    case' pos=>
     have bU:Hid ((h:Int)=2):=ci.o.1 b6
     go_upto_region 18 with fail
    case' neg=>
     have bU:Hid ((h:Int)=(aw:Int)+1):=ci.o.2 b6
     go_upto_region 18 with fail
    all_goals clear ci b6 cj a4
    all_goals
     go_wp2
     go_loopw [8,9,10,11] (fun c9 vn dr bT wr=>∃ e:Nat,e<=bG/\bT=.int .i64 e/\dr=.int .i64 ((h+e:Nat):Int)/\c9=.int .i64 (stJ i b h e).1/\vn=.int .i64 (stJ i b h e).2/\Hid (Below aP.heap.size aP wr)) (fun _ _ _ bT _=>bG - (intOf bT).toNat)
     case atStart=>exact ⟨0,Qu _,rfl,by have:=bU.o;simp;omega,rfl,rfl,Qc _ _⟩
     case round=>
      obtain ⟨e,dK,rfl,rfl,rfl,rfl,aQ⟩:=hrel;have z:=Fr.up z aQ.o;obtain ⟨bd,be,a5,a6,bk,aX⟩:=Fr.qBq z.o.1;by_cases bn:e<bG
      ·have cq:e<i.length:=by rw [dt.o];exact bn
       have dl:e<az.size:=(by omega);obtain ⟨ck,aR,cC⟩:=cB.o e cq;have ai:=bW.o e dl cq;obtain ⟨dq,dn,a3,aI⟩:=(show BytesAt wr (some ⟨aJ,aH,none⟩) b from z.o.2.2.2.1).cellAt ck;simp only [Qv,Addr.mk.injEq] at a3;obtain ⟨rfl,rfl,-⟩:=a3;have ac:stJ i b h (e+1)=qaS i[e] (b.drop (h+e)) (stJ i b h e):=by
        show qaS (i.getD e 0) _ _=_;rw [Ql,Qg cq];rfl
       have ap:(b.drop (h+e)).getD 0 0=b[h+e]:=(by rw [getD_drop,Nat.add_zero,Ql,Qg ck];rfl);have j:h+e<l:=(by rw [<- y.o];exact ck);obtain ⟨Z,c7⟩:=N9 (b[h+e]);rw [c7] at aI ap;have d3:=Z.toNat_lt;have aG:=qlj (Z.toNat:Int) (by omega) (by omega) wr;rw [show qqv (Z.toNat:Int)=sgB Z from rfl] at aG;obtain ⟨dU,cv⟩:=N9 (i[e]);rw [cv] at ai aR cC ac;obtain ⟨⟨bV,dk⟩,cD⟩:=N9 (stJ i b h e);rw [cD] at ac |-;simp only;clear c7 cv cD bW;rcases cC with rfl | rfl | rfl | rfl
       ·have bY:(az[e].toNat:Int)=100:=by rw [ai];rfl
        have aa:Hid (stJ i b h (e+1)=(sgB Z,dk)):=(by show _=_;rw [ac];unfold qaS;rw [Qi rfl,ap]);clear ai aR ac ap
        go_wp2_with fail
        refine aG.mono ?_;rintro ab C ⟨rfl,rfl⟩;clear aG;go_wp2;go_roundw
        case rel=>exact ⟨e+1,by omega,by go_num,by go_num,by rw [aa.o],by rw [aa.o],aQ⟩
        case measure=>simp [intOf];omega
       ·have bY:(az[e].toNat:Int)=101:=by rw [ai];rfl
        have aa:Hid (stJ i b h (e+1)=(bV,sgB Z)):=(by show _=_;rw [ac];unfold qaS;rw [Qe (by decide),Qi rfl,ap]);clear ai aR ac ap
        go_wp2_with fail
        refine aG.mono ?_;rintro ab C ⟨rfl,rfl⟩;clear aG;go_wp2;go_roundw
        case rel=>exact ⟨e+1,by omega,by go_num,by go_num,by rw [aa.o],by rw [aa.o],aQ⟩
        case measure=>simp [intOf];omega
       ·have bY:(az[e].toNat:Int)=110:=by rw [ai];rfl
        have aa:Hid (stJ i b h (e+1)=(bV,(Z.toNat:Int))):=(by show _=_;rw [ac];unfold qaS;rw [Qe (by decide),Qe (by decide),Qi rfl,ap]);clear ai aR ac ap aG;go_wp2;go_roundw
        case rel=>exact ⟨e+1,by omega,by go_num,by go_num,by rw [aa.o],by rw [aa.o],aQ⟩
        case measure=>simp [intOf];omega
       ·have bY:(az[e].toNat:Int)=119:=by rw [ai];rfl
        have cg:=aR rfl;obtain ⟨dq,dn,a3,bS⟩:=(show BytesAt wr (some ⟨aJ,aH,none⟩) b from z.o.2.2.2.1).cellAt cg;simp only [Qv,Addr.mk.injEq] at a3;obtain ⟨rfl,rfl,-⟩:=a3;have dY:h+e+1<l:=(by rw [<- y.o];exact cg);have cu:(b.drop (h+e)).getD 1 0=b[h+e+1]:=(by rw [getD_drop,Ql,Qg cg];rfl);obtain ⟨aB,c5⟩:=N9 (b[h+e+1]);rw [c5] at bS cu;have dS:=aB.toNat_lt;have aa:Hid (stJ i b h (e+1)=(bV,(Z.toNat:Int)+256*(aB.toNat:Int))):=(by show _=_;rw [ac];unfold qaS;rw [Qe (by decide),Qe (by decide),Qe (by decide),Qi rfl,ap,cu]);clear ai aR ac ap cu aG c5;obtain ⟨ak,bl⟩:=N9 (wr.drew);have dh:Hid (Below aP.heap.size aP ak):=aQ.o.trans ((show Below wr.heap.size wr ak by rw [<- bl];exact below_drewN wr _ 1).mono aQ.o.size)
        go_upto_region 29 with fail
        refine Mixed.qAQ (fun C=>C.cell? ⟨aJ,aH+(h+e),none⟩=some (.int .u8 (Z.toNat:Int))/\C.cell? ⟨aJ,aH+(h+e+1),none⟩=some (.int .u8 (aB.toNat:Int))) 13 [(0,true),(1,true),(2,true),(3,true),(4,true),(5,true),(6,true),(7,true),(8,true),(9,true),(10,true),(11,true),(12,true)] (by kernel_rfl) (by kernel_rfl) ⟨aI,bS⟩ ?_;clear z bd be a5 a6 bk aX aI bS;refine Mixed.qAT rfl (by kernel_rfl) _ rfl _ rfl ?_;refine Mixed.qAT rfl (by kernel_rfl) _ rfl _ rfl ?_;refine Mixed.mo rfl (.pointer (some ⟨aJ,aH+(h+e),none⟩)) (fun w g=>by clear g;go_simp;rw [Qi (by omega),show ((h:Int)+(e:Int)).toNat=h+e from by omega]) ?_;refine Mixed.mo rfl (.int .u8 (Z.toNat:Int)) (fun w g=>by obtain ⟨cS,bN⟩:=g;go_simp;try rfl) ?_;refine Mixed.mo rfl (.int .i64 (Z.toNat:Int)) (fun w g=>by clear g;go_simp;rw [IntKind.wrap_i64];omega) ?_;refine Mixed.qAT rfl (by kernel_rfl) _ rfl _ rfl ?_;refine Mixed.qAT rfl (by kernel_rfl) _ rfl _ rfl ?_;refine Mixed.mo rfl (.int .i64 ((h+e+1:Nat):Int)) (fun w g=>by clear g;go_simp;rw [IntKind.wrap_i64];omega) ?_;refine Mixed.mo rfl (.pointer (some ⟨aJ,aH+(h+e+1),none⟩)) (fun w g=>by clear g;go_simp;rw [Qi (by omega),show ((h:Int)+(e:Int)+1).toNat=h+e+1 from by omega]) ?_;refine Mixed.mo rfl (.int .u8 (aB.toNat:Int)) (fun w g=>by obtain ⟨cS,bN⟩:=g;go_simp;try rfl) ?_;refine Mixed.mo rfl (.int .i64 (aB.toNat:Int)) (fun w g=>by clear g;go_simp;rw [IntKind.wrap_i64];omega) ?_;refine Mixed.mo rfl (.int .i64 (256*(aB.toNat:Int))) (fun w g=>by clear g;go_simp;rw [IntKind.wrap_i64];omega) ?_;refine Mixed.mo rfl (.int .i64 ((Z.toNat:Int)+256*(aB.toNat:Int))) (fun w g=>by clear g;go_simp;rw [IntKind.wrap_i64];omega) ?_;simp only [Mixed.qAU,Qr,Qx];go_wp2;go_roundw
        case rel=>exact ⟨e+1,by omega,by go_num,by go_num,by rw [aa.o],by rw [aa.o],dh⟩
        case measure=>simp [intOf];omega
      ·obtain rfl:e=bG:=by omega
       have cL:=bD.o;have K:=ad.o 1 M (by omega) wr z.o.2.2.2.1;have o:Hid ((b.take M).length=M):=(by show _=_;rw [QH,y.o];omega);have di:=z.o.2.2.2.2.1;have bB:p+1<=wr.heap.size:=(show qas wr p _ _ _ _ _ from z.o.2.2.1).lt;rw [cL];clear cB bW bD cL ad bU
       go_upto_region 31 with fail
       go_wp2_with fail
       refine K.mono ?_;rintro ab w2 ⟨aK,aE,U,T,rfl,k,m,j⟩;have bi:=Fr.up z j;simp only [qbv,QP] at k m |-;rw [o.o] at k |-;obtain ⟨cn,bt⟩:=N9 (w2.heap.size);obtain ⟨ak,bl,I3,bQ,dR⟩:=qbQ w2 cn bt;obtain ⟨bv,dD,I4,cz,dB,-,-,cy⟩:=I3.put 1 (.slice aK M aE) (sB []) (.slice U 0 T) false;have cF:=J9 (qgl I3 (qat.below k bQ) cy);have aZ:Below w2.heap.size w2 bv:=bQ.trans (by rw [bt];exact cz);have ca:=Fr.up bi aZ;have c0:=ax.o A1 W bv ca.o.2.1;obtain ⟨a9,aY,bc,bj,bh,a0⟩:=I3.cells;obtain ⟨bd,be,a5,a6,bk,aX⟩:=Fr.qBq ca.o.1;have I4:=J9 I4;have aZ:=J9 aZ;clear ax z K j k m I3 bQ cz cy ca
       go_wp2_with fail
       refine c0.mono ?_;rintro ab c4 ⟨v,rfl,ce,bJ⟩;obtain ⟨cp,ch,rfl,-,-⟩:=ce.ops;have I5:qas c4 cn _ _ _ _ _:=I4.o.all bJ;have c6:=qat.below cF.o bJ;have cT:Below cn bv c4:=bJ.mono (by omega);obtain ⟨dp,dN,I6,cX,cc⟩:=I5.put2 (sB ah) (.slice cp a7.length ch);have cM:=qgl I5 c6 cc;have cP:=qdM I5 ce cc;have b8:Below w2.heap.size w2 dp:=aZ.o.trans (by rw [bt];exact cT.trans cX);have cx:=Fr.up bi b8;obtain ⟨co,d4,cU,cI,bP⟩:=I6.put4 an;have cR:=qgl I6 cM bP;have cw:=qdM I6 cP bP;have c2:Below w2.heap.size w2 co:=b8.trans (by rw [bt];exact cI);have bR:=Fr.up bi c2;have bf:qas co p _ _ _ _ _:=bR.o.2.2.1;obtain ⟨da,dy,O,J,-,F,G,-⟩:=bf.put 1 (.slice aK M aE) (sB ah) (.slice cp a7.length ch) an;have cN:p+1<=bv.heap.size:=by
        have cS:=di.1.size;have bN:=I4.o.lt;have dA:=bf.lt;have dQ:=(show qas w2 p _ _ _ _ _ from bi.o.2.2.1).lt;omega
       have s:=J9 (qbX (w:=w) (w2:=da) (x:=⟨1,b.take M,ah,a7,an⟩) bg.o bR.o.2.2.2.2.1.1 bf.lt (by show qat co (p+1) (.slice aK (b.take M).length aE) _;rw [o.o];exact cR.lift bB) (row_mono cw cN) ⟨J,F,G⟩);obtain ⟨dv,b0,cA,bA,dV,dT⟩:=I5.cells;obtain ⟨dH,dF,d7,dW,dM,d0⟩:=I6.cells;obtain ⟨dP,d2,dG,d5,dJ,dE⟩:=cU.cells;obtain ⟨dZ,d6,dX,dz,dC,dL⟩:=bf.cells;obtain ⟨af,ao,ag,aj,al,bp⟩:=O.cells;obtain ⟨-,-,-,-,-,d8⟩:=Fr.qBq cx.o.1;simp only [] at s;rw [o.o] at s;clear c0 ce bJ I5 c6 cT I6 cX cc cM cP b8 cx cU cI bP cR cw c2 bR bf O J F G a9 aY bc bj bh a0 bd be a5 a6 bk aX cF aZ I4 bi cN o;go_wp2;refine bodyPost_ret (v:=.agg #[.int .i64 1,.slice aK M aE,.string (sB ah),.slice cp a7.length ch,.bool an]) ?_ rfl ?_
       ·simp [results,results59,go_sem,af,ao,ag,aj,al]
       ·rw [aq.o]
        exact s.o
end Go.Proofs.YtecpnfhpcamljaaGreatDoor
namespace Go.Proofs.YtecpnfhpcamljaaGreatDoor
open Tryz
open Go.RowKit Go.Shelf
attribute [local go_sem] Oper.semAt_some
attribute [local irreducible] Go.Mixed.qA0
section
variable {w0 w w':World} {D:Nat} {S:Value} {k:Nat} {p nd d n:Int}
theorem qaf.dk {B:Nat} {v:Value} {L:List Tr} (e:qaf w B v L) (M:D<B) (J:DK D w w'):qaf w' B v L:=by
 refine ⟨e.1,?_⟩;rcases e.2 with z | ⟨h,q,G,K,y,g,E⟩
 ·exact .inl z
 ·exact .inr ⟨h,q,G,K,y,(J.same h (Qb.1 g).1 (by omega)).trans g,E⟩
theorem DK.blk (y:DK D w w') {g:Nat} {o:Obj} (h:w.heap[g]?=some o) (q:g≠D):w'.heap[g]?=some o:=(y.same g (Qb.1 h).1 q).trans h
theorem Dec.iterAt (q:Dec w0 D S w k p nd d n) {h:Nat} (y:D<h) (s:ByteArray) (j:Nat):Dec w0 D S (w.iterAt h s j) k p nd d n:=
 ⟨(Lib.iterAt_other _ _ _ _ _ (by omega)).trans q.blk,Lib.below_iterAt q.bel (by omega) _ _⟩
theorem DK.iterAt (k:DK D w w') {h:Nat} (E:w.heap.size<=h) (s:ByteArray) (j:Nat):DK D w (w'.iterAt h s j):=
 ⟨by have:=k.size;have G:=(Lib.below_iterAt (Qc h w') (Qa _) s j).size;omega,fun y z q=>(Lib.iterAt_other _ _ _ _ _ (by omega)).trans (k.same y z q)⟩
end
theorem qaf.opsP {w:World} {B n c:Nat} {A:Option Addr} {L:List Tr} (q:qaf w B (.slice A n c) L):qai w A L:=by
 obtain ⟨y,z,e,h,-⟩:=q.ops;simp only [Qy] at e;obtain ⟨rfl,-,-⟩:=e;exact h
theorem qAr {g:Int} {i:Nat} {ex:Str} (q:ExP g i ex):(qfk g ex).length<=2/\∀ k (h:k<(qfk g ex).length),(qfk g ex)[k]=100\/(qfk g ex)[k]=101\/(qfk g ex)[k]=110\/(qfk g ex)[k]=119:=by
 unfold qfk;by_cases y:5<=g
 ·rw [Qi y]
  exact ⟨Qu _,fun k h=>absurd h (Nat.not_lt_zero _)⟩
 ·rw [Qe y]
  exact ⟨qug q,fun k h=>qx2 q h⟩
structure DL (w0 wb wr:World) (D:Nat) (b:Str) (S:Value) (l it:Nat) (s2:Str) (k:Nat) (p sz:Int) (s0:Int×Int) (j:Nat):Prop where
 le:j<=s2.length
 iter:wr.heap[it]?=some (.stringIter (sB s2) j)
 dec:Dec w0 D S wr (k+qcz s2 j) p sz (mS s0 s2 b k j).1 (mS s0 s2 b k j).2
 kl:k+qcz s2 j<=l
 dk:DK D wb wr
theorem DL.next {w0 q wr:World} {D:Nat} {b:Str} {S:Value} {l h:Nat} {s2:Str} {k:Nat} {p y:Int} {s0:Int×Int} {j:Nat} (L:DL w0 q wr D b S l h s2 k p y s0 j) (E:D<h) (z:q.heap.size<=h) :
  Dec w0 D S (wr.iterAt h (sB s2) (j+1)) (k+qcz s2 j) p y (mS s0 s2 b k j).1 (mS s0 s2 b k j).2/\DK D q (wr.iterAt h (sB s2) (j+1))/\(wr.iterAt h (sB s2) (j+1)).heap[h]?=some (.stringIter (sB s2) (j+1)):=
 ⟨L.dec.iterAt E _ _,L.dk.iterAt z _ _,Lib.iterAt_heap _ _ _ _ _ L.iter⟩
theorem DL.put {w0 y wr w2:World} {D:Nat} {b:Str} {S:Value} {l h:Nat} {s2:Str} {k:Nat} {p z:Int} {s0:Int×Int} {j:Nat} (L:DL w0 y wr D b S l h s2 k p z s0 j) (M:D<h) (G:y.heap.size<=h) (q:j<s2.length)
  (T:k+qcz s2 j+qgJ s2[j]<=l) (X:Dec w0 D S w2 (k+qcz s2 j+qgJ s2[j]) p z (qaS s2[j] (b.drop (k+qcz s2 j)) (mS s0 s2 b k j)).1 (qaS s2[j] (b.drop (k+qcz s2 j)) (mS s0 s2 b k j)).2) (E:DK D (wr.iterAt h (sB s2) (j+1)) w2) :
  DL w0 y w2 D b S l h s2 k p z s0 (j+1):=by
 obtain ⟨O,J,K⟩:=L.next M G;refine ⟨q,E.blk K (by omega),?_,?_,J.trans E⟩
 ·rw [quC s0 b k q,qc9 s2 j q,<- Nat.add_assoc]
  exact X
 ·rw [qc9 s2 j q]
  omega
theorem qs4 {w0 w1:World} {D:Nat} {b:Str} {S:Value} {l:Nat} {s2:Str} {k:Nat} {p h:Int} {s0:Int×Int} (X:Dec w0 D S w1 k p h s0.1 s0.2) (y:k<=l):DL w0 w1 (w1.iter (sB s2) 0) D b S l w1.heap.size s2 k p h s0 0:=by
 have q:Below w1.heap.size w1 (w1.iter (sB s2) 0):=(B0 (w:=w1));exact ⟨Qu _,World.iter_heap _ _ _,X.all q,y,DK.of_below q⟩
theorem qqf {w0 wr w:World} {D:Nat} {S:Value} {k:Nat} {p nd d n:Int} {c B:Nat} {M O u:Value} {C:List Tr} (X:Dec w0 D S w k p nd d n) (E:DK D wr w) (aa:D<wr.heap.size) (y:w.heap[c]?=some (.cells #[M,O] 24 (0,0))) (Z:wr.heap.size<=c) (z:qaf w B u C) (x:Value) :
  ∃ b,(w.setCell ⟨c,0,none⟩ x).setCell ⟨c,1,none⟩ u=b/\b.heap[c]?=some (.cells #[x,u] 24 (0,0))/\qaf b B u C/\Dec w0 D S b k p nd d n/\DK D wr b:=by
 have h:∀ k,k≠c->((w.setCell ⟨c,0,none⟩ x).setCell ⟨c,1,none⟩ u).heap[k]?=w.heap[k]?:=fun k e=>(heap_setCell_other _ ⟨c,1,none⟩ k _ e).trans (heap_setCell_other _ ⟨c,0,none⟩ k _ e)
 have s:Below c w ((w.setCell ⟨c,0,none⟩ x).setCell ⟨c,1,none⟩ u):=((Qc c w).setCell (p:=⟨c,0,none⟩) (Qa _) _).setCell (p:=⟨c,1,none⟩) (Qa _) _;refine ⟨_,rfl,heap_setCell_same _ c 1 _ _ u (heap_setCell_same w c 0 _ _ x y),⟨z.1,?_⟩,⟨(h D (by omega)).trans X.blk,X.bel.trans (s.mono (by omega))⟩,⟨Qj E.size s.size,fun k e J=>(h k (by omega)).trans (E.same k e J)⟩⟩;rcases z.2 with g | ⟨G,K,V,W,T,q,U⟩
 ·exact .inl g
 ·refine .inr ⟨G,K,V,W,T,(h G (fun g=>?_)).trans q,U⟩
  subst g;rw [y] at q;simp at q
def qrF (w0:World) (D:Nat) (S:Value) (b:Str) (l:Nat) (w:World) (k:Nat) (p n:Int) (s2:Str) (m:Str) (C:List Tr) (al:Bool) (e:Ending) (w':World):Prop:=
 (k+qcz s2 s2.length<=l/\(∃ d h,e=.returned (.agg #[.int .i64 1,.slice none 0 0,.string (sB m),.slice d C.length h,.bool al])/\qaf w' w.heap.size (.slice d C.length h) C)/\(∃ q y,Dec w0 D S w' (k+qcz s2 s2.length) p n q y)/\DK D w w')\/
 (l<k+qcz s2 s2.length/\qiA w0 D S w e w' l p n)
theorem qog {w0:World} {D:Nat} {b:Str} {A:Option Addr} {l cap:Nat} (H:DH w0 D b A l cap) {w:World} {k:Nat} (ap:k<=l) {p nd d n:Int} (X:Dec w0 D (.slice A l cap) w k p nd d n)
  {i:Nat} {ex:Str} (au:ExP p i ex) (V:Int) (m:Str) (cP:m.length<=1000) (cj:upB (sB m)=sB m) (O:Option Addr) (G M:Nat) (L:List Tr) (bA:L.length=G) (cW:G<=1000) (al:Bool) (B:Nat) (cN:D<B) (b7:qaf w B (.slice O G M) L)
  (C:List Tr) (bh:k+qcz (qfk p ex) (qfk p ex).length<=l->qaW ex L (mS (d,n) (qfk p ex) b k (qfk p ex).length).1 (mS (d,n) (qfk p ex) b k (qfk p ex).length).2=some C) :
  Calls prog 148 #[.pointer (some ⟨D,0,none⟩),enV p V m (.slice O G M) ex al] w (qrF w0 D (.slice A l cap) b l w k p (sizeT p ex:Nat) (qfk p ex) m C al):=by
 have cF:=qug au;have ax:=fun w=>qsu p V m O G M ex (by omega) al w
 have a0:=J9 (fun d ci w e=>qmd p V m cP O M G L bA cW ex (by omega) al d ci w e);obtain ⟨U,b0⟩:=N9 (sizeT p ex);rw [b0] at ax |-;have cy:=J9 au;obtain ⟨c9,dc⟩:=au.pg;obtain ⟨s2,bE,dj,bV,bh⟩:∃ s2,qfk p ex=s2/\s2.length<=2/\(∀ k (ap:k<s2.length),s2[k]=100\/s2[k]=101\/s2[k]=110\/s2[k]=119)/\(k+qcz s2 s2.length<=l->qaW ex L (mS (d,n) s2 b k s2.length).1 (mS (d,n) s2 b k s2.length).2=some C):=⟨_,rfl,(qAr au).1,(qAr au).2,bh⟩;rw [bE];have bq:=J9 bV;have b8:=J9 bE;have bR:Hid (5<=p->ex=[100]):=au.hi;have bQ:=J9 (fun w k ap p nd d n X c bw=>qsB H (w:=w) (k:=k) ap (p:=p) (nd:=nd) (d:=d) (n:=n) X (c:=c) bw);have b1:=J9 (fun w X=>qeO H ap (w:=w) (p:=p) (nd:=(U:Int)) (d:=d) (n:=n) X)
 -- the two boxes
 obtain ⟨E,aZ⟩:=N9 (w.heap.size);obtain ⟨bi,bl⟩:=N9 (w.alloc (.cells #[.int .i64 p,.int .u8 V,.string (sB m),.slice O G M,.string (sB ex),.bool al] 88));have aX:Below w.heap.size w bi:=by rw [<- bl];exact qaE _ _
 have aQ:bi.heap[E]?=some (.cells #[.int .i64 p,.int .u8 V,.string (sB m),.slice O G M,.string (sB ex),.bool al] 88 (0,0)):=by rw [<- bl,<- aZ];exact World.alloc_heap_new w _
 have cI:bi.heap.size=E+1:=by rw [<- bl,<- aZ];simp
 obtain ⟨bj,dg,be,aM,dd⟩:=qbQ bi (E+1) cI;have bk:=(X.all aX).all aM;have bW:=J9 ((b7.below aX).below aM);have bM:=J9 ((DK.of_below (D:=D) aX).trans (DK.of_below aM));have ah:bj.heap[E]?=some (.cells #[.int .i64 p,.int .u8 V,.string (sB m),.slice O G M,.string (sB ex),.bool al] 88 (0,0)):=(aM.block E (by omega)).trans aQ;have db:D<E:=by rw [<- aZ];exact X.lt
 have bY:=J9 ah;have be:=J9 be;have cn:=C9 ah 0;have cT:=C9 ah 1;have cl:=C9 ah 2;have cM:=C9 ah 3;have aq:=C9 ah 4;have cG:=C9 ah 5;have ax:=ax bj;unfold enV at ax a0 |-;have bk:=J9 bk;have cS:=J9 aZ;have c1:=J9 bA;have bT:=J9 bh;have cx:=J9 ap;have an:Hid (∀ K,DK D bj K->K.heap[E]?=some (.cells #[.int .i64 p,.int .u8 V,.string (sB m),.slice O G M,.string (sB ex),.bool al] 88 (0,0))/\qas K (E+1) 0 (.slice none 0 0) ⟨#[]⟩ (.slice none 0 0) false/\qaf K B (.slice O G M) L/\DK D w K):=fun K ad=>
  ⟨ad.blk bY.o (by omega),ad.blk be.o (by omega),bW.o.dk cN ad,bM.o.trans ad⟩
 obtain ⟨aT,bs⟩:=N9 (sB ex);have a9:=J9 bs;rw [bs] at ax a0 an bl aq |-;clear H X b7 aX aQ aM ah au b0 bE bV bh bA cF bY be bW bM bs
 go_enter func148,ntmps148
 go_wp2_with fail
 refine ax.mono ?_;rintro T bJ ⟨rfl,J⟩;have bp:=bk.o.all J;obtain ⟨cJ,cK,cg,ch,cR,cc,ck⟩:=bp.cells;have br:=J9 (bp.set3 U);have aC:Hid (DK D bj (bJ.setCell ⟨D,3,none⟩ (.int .i64 (U:Int)))):=(DK.of_below J).set 3 _;clear ax J bp bk cn cT cl cM aq cG
 go_upto_region 2 with fail
 obtain ⟨w2,bG⟩:=N9 (bJ.setCell ⟨D,3,none⟩ (.int .i64 (U:Int)));rw [bG] at br aC |-;clear bG cJ cK cg ch cR cc ck;obtain ⟨b4,-,-,-⟩:=an.o w2 aC.o;have aq:=C9 b4 4;have aH:=b1.o w2 br.o;have aY:Hid ((5<=p->s2=[])/\(¬5<=p->s2=ex)):=by rw [<- b8.o];unfold qfk;exact ⟨fun e=>Qi e,fun e=>Qe e⟩
 clear b4 b1 br;by_cases bt:p=5\/p=6
 case' pos=>
  have bB:w2.cell? ⟨E,4,none⟩=some (.string ⟨#[100]⟩):=by rw [aq];show some (Value.string aT)=_;rw [<- a9.o,bR.o (by omega)];rfl
  have b5:=J9 (aY.o.1 (by omega));rw [Qn bt] at aH;clear aq aY a9
  go_wp2_with fail
  refine aH.mono ?_;rintro T a7 ⟨rfl,h,z⟩;have a1:=h;have bD:=J9 (aC.o.trans z);clear h z aC aH
  go_wp2_with fail
  refine (qpn a7).mono ?_;rintro T W ⟨rfl,b3⟩;rw [b3];clear b3
  go_upto_region 5 with fail
  rw [show (⟨#[]⟩:ByteArray)=sB s2 from by rw [b5.o];rfl];clear b5 bB
 case' neg=>
  have bB:w2.cell? ⟨E,4,none⟩=some (.string (sB s2)):=by rw [aq];show some (Value.string aT)=_;rw [<- a9.o,aY.o.2 (by omega)]
  rw [Qh bt] at aH;clear aq aY a9
  go_wp2_with fail
  refine aH.mono ?_;rintro T a7 ⟨rfl,h,z⟩;have a1:=h;have bD:=J9 (aC.o.trans z);clear h z aC aH
  go_upto_region 5 with fail
  clear bB
 all_goals
  clear bt cy b8 bR;have bx:=J9 (qs4 (b:=b) (s2:=s2) (s0:=(d,n)) a1 cx.o);obtain ⟨aD,bm⟩:=N9 (a7.heap.size);rw [bm] at bx;have bX:=J9 (Nat.le_of_eq bm);have bO:D<aD:=by rw [<- bm];exact a1.lt
  clear a1;go_wp2
  go_loopw [] (fun wr=>∃ j,Hid (DL w0 a7 wr D b (.slice A l cap) l aD s2 k p U (d,n) j)) (fun wr=>s2.length - wr.iterPos aD)
  case atStart=>exact ⟨0,bx.o⟩
  case round=>
   obtain ⟨j,L⟩:=hrel;have cH:=L.o.le;have bS:wr.iterPos aD=j:=iterPos_of L.o.iter;by_cases aI:j<s2.length
   ·obtain ⟨bP,bN,cq⟩:=L.o.next bO bX.o
    have ai:=bQ.o _ _ L.o.kl _ _ _ _ bP s2[j] (bq.o j aI);have ac:=(fun w2 ct X ad=>L.o.put (w2:=w2) bO bX.o aI ct X ad);have az:=qvP L.o.iter aI _ rfl (by rcases bq.o j aI with T | T | T | T <;> rw [T] <;> decide);have aF:=bN;obtain ⟨q,bn⟩:=N9 (s2[j]);rw [bn] at ai ac az;obtain ⟨aG,ar⟩:=N9 (k+qcz s2 j);have bo:Hid (l<aG+qgJ q->l<k+qcz s2 s2.length):=fun e=>by
     have h:=qsl s2 (j:=j+1) aI;rw [qc9 s2 j aI,bn] at h;omega
    obtain ⟨di,bC⟩:=N9 (mS (d,n) s2 b k j);rw [ar,bC] at ai;rw [ar,bC] at ac;obtain ⟨c4,bH⟩:=N9 (wr.iterAt aD (sB s2) (j+1));rw [bH] at ai ac az aF;have ac:=J9 ac;have ai:=J9 ai;have aF:=J9 aF;clear bP bN cq bn bH ar bC
    go_wp2_with fail
    refine ai.o.mono ?_;rintro T w2 (⟨e,rfl,h,z⟩ | ⟨e,rfl,h,z⟩)
    ·have b6:=J9 (ac.o w2 e h z)
     clear e h z ai az ac bo aF;go_wp2;go_roundw
     case rel=>exact ⟨j+1,b6⟩
     case measure=>rw [iterPos_of b6.o.iter,bS];omega
    ·have R:Hid (qrF w0 D (.slice A l cap) b l w k p U s2 m C al (.panicked qq7) w2):=.inr ⟨bo.o e,rfl,h,(an.o _ (bD.o.trans (aF.o.trans z))).2.2.2⟩
     clear e h z ai az ac bo aF;exact ⟨rfl,R.o⟩
   ·have cB:j=s2.length:=by omega
    subst cB;have az:=(fun cm=>Lib.run_next_end_at (P:=prog) wr aD (sB s2) s2.length cm L.o.iter (by rw [qaB];omega));have ae:=L.o.dec;have bu:=L.o.kl;have bg:=J9 (bD.o.trans L.o.dk);have a4:=bT.o bu;obtain ⟨⟨ak,aw⟩,b2⟩:=N9 (mS (d,n) s2 b k s2.length);rw [b2] at ae a4;simp only at ae a4;have af:=(fun w e=>a0.o ak aw w e);rw [a4] at af;unfold qla at af;rw [cj] at af;obtain ⟨aG,ar⟩:=N9 (k+qcz s2 s2.length);rw [ar] at ae bu;have bK:=J9 ar;obtain ⟨F,bL⟩:=N9 (C.length);have a5:=J9 bL;obtain ⟨aB,co⟩:=N9 (wr.heap.size);have da:=ae.lt;have bI:Hid (E<=aB):=(by have h:=(an.o wr bg.o).2.2.2.size;show E<=aB;omega);have ae:=J9 ae;have af:=J9 af;clear L bS cH bx bq bQ a0 a4 bT b2 ar bL
    go_upto_region 9 with fail
    go_cut [8] (fun cz wx=>∃ (c:Nat) (y:Option Addr) (q:Nat),cz=.pointer (some ⟨c,0,none⟩)/\Hid (wx.heap[c]?=some (.cells #[.string (sB m),.slice y F q] 24 (0,0))/\qaf wx E (.slice y F q) C/\Dec w0 D (.slice A l cap) wx aG p U ak aw/\DK D wr wx))
    case first=>
     obtain ⟨a6,aN⟩:=N9 (wr.drew);have ca:Below wr.heap.size wr a6:=(by rw [<- aN];exact below_drewN wr _ 1);have cZ:a6.heap.size=aB:=(by rw [<- aN];exact co);have aR:=J9 (ae.o.all ca);have ay:=J9 (DK.of_below (D:=D) ca);have Z:Hid (∀ K,DK D wr K->K.heap[E]?=some (.cells #[.int .i64 p,.int .u8 V,.string (sB m),.slice O G M,.string aT,.bool al] 88 (0,0))/\qaf K B (.slice O G M) L):=fun K ad=>by
      obtain ⟨h,-,z,-⟩:=an.o K (bg.o.trans ad);exact ⟨h,z⟩
     refine Mixed.qA7 (fun bZ=>bZ.heap[E]?=some (.cells #[.int .i64 p,.int .u8 V,.string (sB m),.slice O G M,.string aT,.bool al] 88 (0,0))/\Dec w0 D (.slice A l cap) bZ aG p U ak aw) 15
      (.pure 0 (.pure 1 (.pure 2 (.pure 3 (.pure 4 (.pure 5 (.pure 6 (.pure 7 (.pure 8 (.two 9 (.pure 10 (.pure 11 (.pure 12 (.one 13 (.one 14 .done))))) 13 (.one 9 (.pure 10 (.pure 11 (.pure 12 (.one 14 .done))))))))))))))) (by kernel_rfl) (by kernel_rfl) (by rw [aN];exact ⟨(Z.o _ ay.o).1,aR.o⟩) ?_
     rw [aN];clear aN az;refine Mixed.qAS rfl (by kernel_rfl) (.agg #[.int .i64 p,.int .u8 V,.string (sB m),.slice O G M,.string aT,.bool al]) (fun w e=>by
      obtain ⟨h,z⟩:=e;obtain ⟨aW,a3,a2,a8,bf,bz⟩:=Fr.qBq h;clear h z
      go_simp;try rfl) ?_
     refine Mixed.qAS rfl (by kernel_rfl) (.pointer (some ⟨D,0,none⟩)) (fun w e=>by clear e;go_simp;try rfl) ?_;refine Mixed.qAS rfl (by kernel_rfl) (.pointer (some ⟨D,0,none⟩)) (fun w e=>by clear e;go_simp;try rfl) ?_;refine Mixed.qAS rfl (by kernel_rfl) (.pointer (some ⟨D,4,none⟩)) (fun w e=>by clear e;go_simp;try rfl) ?_;refine Mixed.qAS rfl (by kernel_rfl) (.int .i64 ak) (fun w e=>by obtain ⟨h,z⟩:=e;obtain ⟨aW,a3,a2,a8,bf,bz,cA⟩:=z.cells;clear h z;go_simp;try rfl) ?_;refine Mixed.qAS rfl (by kernel_rfl) (.pointer (some ⟨D,0,none⟩)) (fun w e=>by clear e;go_simp;try rfl) ?_;refine Mixed.qAS rfl (by kernel_rfl) (.pointer (some ⟨D,0,none⟩)) (fun w e=>by clear e;go_simp;try rfl) ?_;refine Mixed.qAS rfl (by kernel_rfl) (.pointer (some ⟨D,5,none⟩)) (fun w e=>by clear e;go_simp;try rfl) ?_;refine Mixed.qAS rfl (by kernel_rfl) (.int .i64 aw) (fun w e=>by obtain ⟨h,z⟩:=e;obtain ⟨aW,a3,a2,a8,bf,bz,cA⟩:=z.cells;clear h z;go_simp;try rfl) ?_;refine Mixed.qA4 rfl (by kernel_rfl) rfl (by kernel_rfl) ?_ ?_
     ·have aO:=af.o a6 (Z.o _ ay.o).2.opsP
      go_wp2_with fail
      refine aO.mono ?_;rintro T aE ⟨v,rfl,aa,J⟩;obtain ⟨y,q,rfl,-,-⟩:=aa.ops;rw [a5.o] at aa |-;have av:=J9 (aR.o.all J);have aj:=J9 (ay.o.trans (DK.of_below J));have aU:=J9 (show qaf aE E (.slice y F q) C from row_mono aa (by have:=bI.o;omega));have c3:aB<=aE.heap.size:=(by have:=J.size;omega);clear aO J aa aR ay;go_wp2;refine ⟨⟨(Z.o _ aj.o).1,av.o⟩,?_⟩;refine Mixed.qAS rfl (by kernel_rfl) (.tuple #[.agg #[.string (sB m),.slice y F q],.bool true]) (fun w e=>by clear e;go_simp;try rfl) ?_;refine Mixed.qAS rfl (by kernel_rfl) (.agg #[.string (sB m),.slice y F q]) (fun w e=>by clear e;go_simp;try rfl) ?_;refine Mixed.qAS rfl (by kernel_rfl) (.bool true) (fun w e=>by clear e;go_simp;try rfl) ?_;refine Mixed.qAW rfl (by kernel_rfl) ?_;obtain ⟨c,aS,bw,cC,aL,ag,cD⟩:=Fr.box (Fr.nil aE) #[.string ⟨#[]⟩,.slice none 0 0] 24;have am:aS.heap[c]?=some (.cells #[.string ⟨#[]⟩,.slice none 0 0] 24 (0,0)):=aL.o.1;have ao:=J9 (av.o.all ag);have ab:=J9 (aj.o.trans (DK.of_below ag));have bU:=J9 (aU.o.below ag);have cr:aB<=c:=(by omega);clear aL ag av aj aU;go_wp2;refine ⟨⟨(Z.o _ ab.o).1,ao.o⟩,?_⟩;refine Mixed.qAW rfl (by kernel_rfl) ?_;obtain ⟨W,cO,aP,aV,aJ,aK⟩:=qqf ao.o ab.o (by omega) am (by omega) bU.o (.string (sB m));obtain ⟨cL,cV⟩:=Fr.qBb am;have cU:=(fun i=>Qp am i);have R:=J9 (⟨aP,aV,aJ,aK⟩:W.heap[c]?=some (.cells #[.string (sB m),.slice y F q] 24 (0,0))/\qaf W E (.slice y F q) C/\Dec w0 D (.slice A l cap) W aG p U ak aw/\DK D wr W);clear aP aV aJ aK ao ab bU am;go_wp2;refine ⟨⟨(Z.o _ R.o.2.2.2).1,R.o.2.2.1⟩,?_⟩;simp only [Mixed.qA0,Qr,Qx];go_wp2
      go_meet
      exact ⟨c,y,q,rfl,R⟩
     ·obtain ⟨c,aS,bw,cC,aL,ag,cD⟩:=Fr.box (Fr.nil a6) #[.string ⟨#[]⟩,.slice none 0 0] 24
      have am:aS.heap[c]?=some (.cells #[.string ⟨#[]⟩,.slice none 0 0] 24 (0,0)):=aL.o.1;have ao:=J9 (aR.o.all ag);have ab:=J9 (ay.o.trans (DK.of_below ag));obtain rfl:c=aB:=by omega
      have cr:c<=c:=Qa _;have cp:Hid (E<=aS.heap.size):=(by have:=bI.o;show _<=_;omega);have aO:=af.o aS (Z.o _ ab.o).2.opsP;clear aL ag aR ay;go_wp2;refine ⟨⟨(Z.o _ ab.o).1,ao.o⟩,?_⟩;refine Mixed.qAW rfl (by kernel_rfl) ?_
      go_wp2_with fail
      refine aO.mono ?_;rintro T aE ⟨v,rfl,aa,J⟩;obtain ⟨y,q,rfl,-,-⟩:=aa.ops;rw [a5.o] at aa |-;have av:=J9 (ao.o.all J);have aj:=J9 (ab.o.trans (DK.of_below J));have aU:=J9 (show qaf aE E (.slice y F q) C from row_mono aa cp.o);have bc:aE.heap[c]?=some (.cells #[.string ⟨#[]⟩,.slice none 0 0] 24 (0,0)):=(J.block c (by omega)).trans am;clear aO J aa ao ab am;go_wp2;refine ⟨⟨(Z.o _ aj.o).1,av.o⟩,?_⟩;refine Mixed.qAS rfl (by kernel_rfl) (.tuple #[.agg #[.string (sB m),.slice y F q],.bool true]) (fun w e=>by clear e;go_simp;try rfl) ?_;refine Mixed.qAS rfl (by kernel_rfl) (.agg #[.string (sB m),.slice y F q]) (fun w e=>by clear e;go_simp;try rfl) ?_;refine Mixed.qAS rfl (by kernel_rfl) (.bool true) (fun w e=>by clear e;go_simp;try rfl) ?_;refine Mixed.qAW rfl (by kernel_rfl) ?_;obtain ⟨W,cO,aP,aV,aJ,aK⟩:=qqf av.o aj.o (by omega) bc (by omega) aU.o (.string (sB m));obtain ⟨cL,cV⟩:=Fr.qBb bc;have cU:=(fun i=>Qp bc i);have R:=J9 (⟨aP,aV,aJ,aK⟩:W.heap[c]?=some (.cells #[.string (sB m),.slice y F q] 24 (0,0))/\qaf W E (.slice y F q) C/\Dec w0 D (.slice A l cap) W aG p U ak aw/\DK D wr W);clear aP aV aJ aK av aj aU bc;go_wp2;refine ⟨⟨(Z.o _ R.o.2.2.2).1,R.o.2.2.1⟩,?_⟩;simp only [Mixed.qA0,Qr,Qx];go_wp2
      go_meet
      exact ⟨c,y,q,rfl,R⟩
    case rest=>
     obtain ⟨c,y,q,rfl,aA⟩:=hcut;obtain ⟨aQ,bd,-,bv⟩:=an.o wc (bg.o.trans aA.o.2.2.2);obtain ⟨c7,de⟩:=Fr.qBb aA.o.1;obtain ⟨aW,a3,a2,a8,bf,bz⟩:=Fr.qBq aQ;obtain ⟨c8,c5,cY,c0,dh,c6⟩:=bd.cells;obtain ⟨K,df,b9,bb,cQ,ce,cu,bF⟩:=bd.put 1 (.slice none 0 0) (sB m) (.slice y F q) al;have R:Hid (qrF w0 D (.slice A l cap) b l w k p U s2 m C al (.returned (.agg #[.int .i64 1,.slice none 0 0,.string (sB m),.slice y F q,.bool al])) K):=
      .inl ⟨by rw [bK.o];exact bu,⟨y,q,by rw [a5.o],by rw [a5.o,cS.o];exact qdM bd aA.o.2.1 bF⟩,⟨ak,aw,by rw [bK.o];exact ⟨(bb.block D (by omega)).trans aA.o.2.2.1.blk,aA.o.2.2.1.bel.trans (bb.mono (by omega))⟩⟩,
       ⟨Qj bv.size bb.size,fun k ap J=>(bF k (by omega)).trans (bv.same k ap J)⟩⟩
     obtain ⟨cd,cE,cf,cv,cw,cX⟩:=b9.cells;clear aA aQ bd bv b9 bb cQ ce cu bF an bg ae af aW a3 a2 a8 bf;go_wp2;refine bodyPost_ret (v:=.agg #[.int .i64 1,.slice none 0 0,.string (sB m),.slice y F q,.bool al]) ?_ rfl R.o;simp [results,results148,go_sem,cd,cE,cf,cv,cw]
end Go.Proofs.YtecpnfhpcamljaaGreatDoor
namespace Go.Proofs.YtecpnfhpcamljaaGreatDoor
open Tryz
open Go.RowKit Go.Shelf
attribute [local go_sem] Oper.semAt_some
def kkP (p:Int):Nat:=(qaM p).length+if 5<=p then 2 else 1
theorem qAg {p:Int} (y:0<=p/\p<=6) {b r:Str} (z:b=qaM p++r) (h:b.length<kkP p):itR b=qbv 4 b/\needR b=kkP p:=by
 subst z;unfold kkP at h |-;rw [Qk] at h;by_cases q:5<=p
 ·rw [Qi q] at h |-
  rw [qAa ⟨q,y.2⟩];exact qz6 ⟨q,y.2⟩ (by omega)
 ·rw [Qe q] at h |-
  obtain rfl:r=[]:=List.length_eq_zero_iff.1 (by omega);rw [Zu];exact qz3 ⟨y.1,by omega⟩
theorem hasB {p:Int} (y:0<=p/\p<=6) {b r:Str} (z:b=qaM p++r) (h:kkP p<=b.length) :
  ∃ o t,b.getD (kkP p - 1) 0=o/\(p<=4->b=qaM p++o :: t/\b.drop (kkP p)=t)/\(5<=p->hdB b=some (p,o,t)/\∃ u,t=b.getD (qaM p).length 0 :: u):=by
 subst z;unfold kkP at h |-;rw [Qk] at h;by_cases q:5<=p
 ·rw [Qi q] at h |-
  match r,h with
  | [],h=>exact absurd h (by simp only [QP];omega)
  | [x],h=>exact absurd h (by simp only [QP,Qt];omega)
  | x :: o :: u,h=>
   refine ⟨o,x :: u,?_,fun E=>by omega,fun _=>⟨qyA ⟨q,y.2⟩ x o u,u,?_⟩⟩
   ·rw [Ql,Zr (by omega),show (qaM p).length+2 - 1 - (qaM p).length=1 by omega];rfl
   ·rw [Ql,Zr (by omega),Nat.sub_self];rfl
 ·rw [Qe q] at h |-
  match r,h with
  | [],h=>exact absurd h (by simp only [QP];omega)
  | o :: t,h=>
   refine ⟨o,t,?_,fun _=>⟨rfl,?_⟩,fun h=>absurd h q⟩
   ·rw [Ql,Zr (by omega),show (qaM p).length+1 - 1 - (qaM p).length=0 by omega];rfl
   ·rw [List.drop_append]
    simp
theorem qzt {p:Int} {i:Nat} {ex:Str} (q:ExP p i ex):kkP p+qcz (qfk p ex) (qfk p ex).length=sizeT p ex:=by
 unfold kkP qfk sizeT;by_cases h:5<=p
 ·rw [Qi h,Qi h,q.hi h]
  rfl
 ·rw [Qe h,Qe h]
def ddP (b:Str) (p d:Int):Int:=if 5<=p then sgB (b.getD (qaM p).length 0) else d
theorem qyn {p:Int} {i:Nat} {ex:Str} (q:ExP p i ex) {b t:Str} (y:p<=4->b.drop (kkP p)=t) (z:5<=p->∃ u,t=b.getD (qaM p).length 0 :: u) :
  mS (ddP b p 0,0) (qfk p ex) b (kkP p) (qfk p ex).length=qcW ex t:=by
 unfold ddP qfk;by_cases h:5<=p
 ·obtain ⟨u,rfl⟩:=z h
  rw [Qi h,Qi h,q.hi h,qlr];rfl
 ·rw [Qe h,Qe h,qxG q,y (by omega)]
theorem qn9 {w0:World} {D:Nat} {b:Str} {A:Option Addr} {l cap:Nat} (H:DH w0 D b A l cap) {w:World} {p nd d n:Int} (z:(qaM p).length<=l) (X:Dec w0 D (.slice A l cap) w (qaM p).length p nd d n) (E:0<=p/\p<=6) :
  Calls prog 147 #[.pointer (some ⟨D,0,none⟩)] w fun e w'=>
   (kkP p<=l/\DOk w0 D (.slice A l cap) w e w' (.int .u8 ((b.getD (kkP p - 1) 0).toNat:Int)) (kkP p) p (kkP p:Nat) (ddP b p d) n)\/(l<kkP p/\qiA w0 D (.slice A l cap) w e w' l p (kkP p:Nat)):=by
 unfold kkP ddP;by_cases y:5<=p
 ·rw [Qi y,Qi y]
  refine (qkA H z X (by omega)).mono ?_;rintro e w' (⟨q,h⟩ | ⟨q,h⟩)
  ·exact .inl ⟨q,h⟩
  ·exact .inr ⟨by omega,h⟩
 ·rw [Qe y,Qe y]
  refine (qkn H z X (by omega)).mono ?_;rintro e w' (⟨q,h⟩ | ⟨q,h⟩)
  ·exact .inl ⟨q,h⟩
  ·exact .inr ⟨by omega,h⟩
theorem qie (h:Int) (o:UInt8) (w:World) (U:qad w):Calls prog 146 #[.int .i64 h,.int .u8 (o.toNat:Int)] w fun M w'=>∃ (J O:Int) (m:Str) (v:Option Addr) (y q:Nat) (ex:Str) (al:Bool) (z:Int),
  M=.returned (.tuple #[.agg #[.int .i64 J,.int .u8 O,.string (sB m),.slice v y q,.string (sB ex),.bool al],.int .i64 z])/\Below w.heap.size w w'/\
  (∀ x,qaX h o.toNat=some x->z=1/\J=h/\O=(o.toNat:Int)/\m=x.1/\ex=x.2.2.1/\al=x.2.2.2/\y=x.2.1.length/\qaf w' w.heap.size (.slice v y q) x.2.1)/\(qaX h o.toNat=none->z=rkindT h o.toNat):=by
 refine (qvy h (o.toNat:Int) (by omega) (by have:=o.toNat_lt;omega) w U).mono ?_;rintro M w' ⟨e,K⟩;rw [qkX h o.toNat o.toNat_lt] at e;cases G:qaX h o.toNat with
 | some x=>
  rw [G] at e;obtain ⟨W,rfl,T⟩:=e;obtain ⟨v,q,rfl,-,-⟩:=T.ops;exact ⟨_,_,_,v,_,q,_,_,_,rfl,K,(fun V E=>by cases E;exact ⟨rfl,rfl,rfl,rfl,rfl,rfl,rfl,T⟩),fun e=>by cases e⟩
 | none=>
  rw [G] at e;simp only at e;subst e;exact ⟨_,_,_,_,_,_,_,_,_,rfl,K,(fun V E=>by cases E),fun _=>ok_none o.toNat_lt G⟩
theorem qlz {w0 wr w:World} {D:Nat} {S:Value} {k:Nat} {p nd d n:Int} {c:Nat} {e:Array Value} (X:Dec w0 D S w k p nd d n) (J:DK D wr w) (W:D<wr.heap.size) (E:w.heap[c]?=some (.cells e 88 (0,0))) (V:wr.heap.size<=c) (cs:Array Value) :
  ∃ b,w.setRow c cs=b/\b.heap[c]?=some (.cells cs 88 (0,0))/\Dec w0 D S b k p nd d n/\DK D wr b/\∀ u z g,qaf w u z g->qaf b u z g:=by
 have q:∀ k,k≠c->(w.setRow c cs).heap[k]?=w.heap[k]?:=fun k y=>setRow_other w c k cs y
 have B:Below c w (w.setRow c cs):=below_setRow (Qc c w) (Qa _) cs;refine ⟨_,rfl,setRow_heap w c e cs 88 (0,0) E,⟨(q D (by omega)).trans X.blk,X.bel.trans (B.mono (by omega))⟩,⟨Qj J.size B.size,fun k y L=>(q k (by omega)).trans (J.same k y L)⟩,fun u z g G=>⟨G.1,?_⟩⟩;rcases G.2 with h | ⟨K,M,e,U,O,s,T⟩
 ·exact .inl h
 ·refine .inr ⟨K,M,e,U,O,(q K (fun h=>?_)).trans s,T⟩
  subst h;rw [E] at s;simp at s
end Go.Proofs.YtecpnfhpcamljaaGreatDoor
namespace Go.MixE
open Go Go.Mixed
def QE (h:List PanicEntry->List Deferred->World->Prop):Exit->Act->World->Prop
 | .panic q,a,w=>h q a.defers w
 | _,_,_=>False
theorem qba (q:List PanicEntry->List Deferred->World->Prop):¬LetsOut (QE q):=fun ⟨_,_,h⟩=>h
section
variable {P:Program} {ops:Array Oper} {md:Region.Mode} {E:List PanicEntry->List Deferred->World->Prop}
theorem qun {o:Oper} {a:Act} {v q:Act->World->Prop} {Q:Exit->Act->World->Prop} {r:Result Next} (n:∀ h a w,E h a.defers w->Q (.panic h) a w) (d:∀ a w,v a w->q a w) (c:o.upon P a v (QE E) r):o.upon P a q Q r:=by
 cases r with
 | ok J K=>
  cases J <;> simp only [Oper.upon] at c |-
  case value e=>exact d _ _ c
  case skip=>exact d _ _ c
  case defer O=>exact d _ _ c
  case enter T args=>
   refine c.mono fun x G f=>?_
   cases x with
   | returned e=>exact d _ _ f
   | panicked M=>exact n _ _ _ f
   | outgrown=>exact absurd f (qba E)
  case row row args=>exact c.mono fun e G z=>d _ _ z
 | halt y K=>
  cases y <;> simp only [Oper.upon] at c |-
  case panic e=>exact n _ _ _ c
theorem qq5 {i:Nat} {a:Act} {w:World} {J G:Act->World->Prop} {Q:Exit->Act->World->Prop} (K:∀ z a w,E z a.defers w->Q (.panic z) a w) (o:∀ a w,J a w->G a w) (h:wpOp P ops (QE E) i J a w):wpOp P ops Q i G a w:=by
 unfold wpOp at *;split
 ·rename_i y;simp only [y] at h;exact o _ _ h
 ·rename_i M y
  simp only [y] at h;split
  ·rename_i q
   simp only [q,if_true] at h;rcases h with h | h
   ·exact .inl (qun K o h)
   ·exact absurd h.2 (qba E)
  ·rename_i q;simp only [q] at h;exact o _ _ h
theorem qfs {i:Nat} {a:Act} {w:World} {y q:Act->World->Prop} (z:∀ a w,y a w->q a w) (h:wpOp P ops (QE E) i y a w):wpOp P ops (QE E) i q a w:=qq5 (fun _ _ _ h=>h) z h
def qa6 (P:Program) (md:Region.Mode) (ops:Array Oper) (n:Nat) (C:World->Prop) (w:List PanicEntry->List Deferred->World->Prop) (L:Array Bool->Act->World->Prop):Nat->Array Bool->Act->World->Prop
 | 0,h,q,a=>C a/\L h q a
 | f+1,h,q,a=>C a/\Region.ready md ops h≠[]/\∀ i∈Region.ready md ops h,i<n/\wpOp P ops (QE w) i (qa6 P md ops n C w L f (h.setIfInBounds i true)) q a
theorem qd5 {n:Nat} {C:World->Prop} {L:Array Bool->Act->World->Prop} {f:Nat} {q:Array Bool} {a:Act} {w:World} (h:qa6 P md ops n C E L f q a w):C w:=by cases f <;> exact h.1
theorem qam {n g:Nat} {C:World->Prop} {L:Array Bool->Act->World->Prop} {Q':Exit->Act->World->Prop} (z:∀ y a w,E y a.defers w->Q' (.panic y) a w) (G:∀ h a w,L h a w->wpAny P md ops Q' g h a w) :
  ∀ (f:Nat) (h:Array Bool) (a:Act) (w:World),qa6 P md ops n C E L f h a w->wpAny P md ops Q' (f+g) h a w
 | 0,h,a,w,q=>by rw [QT];exact G _ _ _ q.2
 | f+1,h,a,w,q=>by
  rw [show f+1+g=(f+g)+1 by omega];exact ⟨fun M=>absurd M q.2.1,fun i K=>qq5 z (fun O w' J=>qam z G f _ O w' J) (q.2.2 i K).2⟩
theorem wpOp_put {C:World->Prop} {j:Nat} {c f:Oper} {v:Value} (V:ops[j]?=some f) (ac:c.apart ops f=true)
  (U:∀ cs b,c.op≠.select cs b) (aa:∀ cs b,f.op≠.select cs b) {O:Act->World->Prop} {a:Act} {w:World}
  (h:Pure P ops C c v a) (d:wpOp P ops (QE E) j O (a.put c.dst v) w) :
  wpOp P ops (QE E) j (fun M w'=>Pure P ops C c v M/\O (M.put c.dst v) w') a w:=by
 obtain ⟨G,q,K⟩:=Oper.apart_spec ac;have n:∀ (a:Act),Pure P ops C c v a->∀ e,Pure P ops C c v (a.put f.dst e):=fun a h e=>
  h.of_same (execOp_put c U a f.dst e K) (wanted_put c a f.dst e K)
 unfold wpOp at *;simp only [V] at *;rw [wanted_put f a c.dst v G] at d;split
 ·rename_i u
  simp only [u,if_true] at d;rcases d with d | d
  ·left
   unfold Oper.wp at *;rw [execOp_put f aa a c.dst v G] at d;generalize (execOp a.eval f).run P w=r at *;cases r with
   | ok ad w'=>
    cases ad <;> simp only [Oper.upon] at d |-
    case value e=>exact ⟨n a h e,by rw [<- Act.put_comm a v e q];exact d⟩
    case skip=>exact ⟨n a h _,by rw [<- Act.put_comm a v undef q];exact d⟩
    case defer x=>
     refine ⟨?_,?_⟩
     ·have Z:Pure P ops C c v {a with defers:=x :: a.defers}:=h
      exact n _ Z _
     ·rw [<- Act.put_comm _ v undef q]
      have y:({a with defers:=x :: a.defers}.put c.dst v)={(a.put c.dst v) with defers:=x :: (a.put c.dst v).defers}:=(by rw [qdv];exact put_defers a _ _ _);rw [y];exact d
    case enter ae args=>
     refine d.mono fun y J z=>?_
     cases y with
     | returned e=>exact ⟨n a h e,by rw [<- Act.put_comm a v e q];exact z⟩
     | panicked T=>exact (show E T a.defers J by rw [<- qdv a c.dst v];exact z)
     | outgrown=>exact z
    case row row args=>exact d.mono fun e J ab=>⟨n a h e,by rw [<- Act.put_comm a v e q];exact ab⟩
   | halt W w'=>
    cases W <;> simp only [Oper.upon] at d |-
    case panic e=>exact (show E [{v:=e,recovered:=false}] a.defers w' by rw [<- qdv a c.dst v];exact d)
  ·exact absurd d.2 (qba E)
 ·rename_i u
  simp only [u] at d;exact ⟨n a h _,by rw [<- Act.put_comm a v undef q];exact d⟩
theorem qaR {C:World->Prop} {n i:Nat} {J:Oper} {v:Value} {L:Array Bool->Act->World->Prop} (aa:ops[i]?=some J) (aj:∀ (j:Nat) (o:Oper) cs b,ops[j]?=some o->o.op≠.select cs b)
  (ag:Region.sinkB md ops n=true) (ah:Region.chainB md ops n=true) (ai:n<ops.size) (af:i<n)
  (ar:∀ h a w,L h a w->∀ j∈Region.ready md ops h,n<=j) :
  ∀ (f:Nat) (h:Array Bool) (a:Act) (w:World),HeadInv md ops n h->
   (∀ j G,ops[j]?=some G->j≠i->h.getD j true=false->(∀ e∈G.after,Region.binds md e=true->e.on≠i)->J.apart ops G=true)->
   i∈Region.ready md ops h->Pure P ops C J v a->C w->
   qa6 P md ops n C E L f (h.setIfInBounds i true) (a.put J.dst v) w->qa6 P md ops n C E L (f+1) h a w:=by
 intro f
 induction f with
 | zero=>
  intro h a w T _ y W O M;have H:=(mem_ready.1 y).1;refine ⟨O,fun k=>(by rw [k] at y;cases y),fun j z=>?_⟩;have V:j<n:=by
   rcases Nat.lt_or_ge j n with k | k
   ·exact k
   ·exact absurd z (tail_waits ag ah ai T _ i rfl af H j k)
  refine ⟨V,?_⟩;by_cases q:j=i
  ·subst q;exact W.wpOp aa O M
  ·have:=ar _ _ _ M.2 j (ready_mono z q)
   omega
 | succ f ay=>
  intro h a w T ad y W O M;have H:=(mem_ready.1 y).1;refine ⟨O,fun k=>(by rw [k] at y;cases y),fun j z=>?_⟩;have V:j<n:=by
   rcases Nat.lt_or_ge j n with k | k
   ·exact k
   ·exact absurd z (tail_waits ag ah ai T _ i rfl af H j k)
  refine ⟨V,?_⟩;by_cases q:j=i
  ·subst q;exact W.wpOp aa O M
  ·have U:=(M.2.2 j (ready_mono z q)).2
   obtain ⟨ae,G,ac,am⟩:=mem_ready.1 z;have an:∀ e∈G.after,Region.binds md e=true->e.on≠i:=fun e az ap aA=>by
    have U:=am e az ap;rw [aA,getD_both H] at U;cases U
   have ax:=wpOp_put ac (ad j G ac q ae an) (fun cs b=>aj i J cs b aa) (fun cs b=>aj j G cs b ac) W U;have au:∀ K ok,ops[K]?=some ok->K≠i->(h.setIfInBounds j true).getD K true=false->
     (∀ e∈ok.after,Region.binds md e=true->e.on≠i)->J.apart ops ok=true:=fun K ok aC aB H ao=>by
    refine ad K ok aC aB ?_ ao;by_cases ak:j=K
    ·subst ak;exact ae
    ·rw [getD_set_ne true ak] at H;exact H
   refine qfs (fun aw av ab=>?_) ax;obtain ⟨ab,Z⟩:=ab;rw [Array.setIfInBounds_comm _ _ (fun e=>q e.symm)] at Z;have aq:=ready_mono y (Ne.symm q);exact ay (h.setIfInBounds j true) aw av (T.set z V) au aq ab (qd5 Z) Z
def qA2 (P:Program) (ops:Array Oper) (C:World->Prop) (q:List PanicEntry->List Deferred->World->Prop) (w:Act->World->Prop):Ord->Act->World->Prop
 | .done,a,h=>w a h
 | .pure k r,a,h=>match ops[k]? with
  | none=>False
  | some o=>∃ v,Pure P ops C o v a/\qA2 P ops C q w r (a.put o.dst v) h
 | .one k r,a,h=>wpOp P ops (QE q) k (fun y w'=>C w'/\qA2 P ops C q w r y w') a h
 | .two k r E z,a,h=>wpOp P ops (QE q) k (fun y w'=>C w'/\qA2 P ops C q w r y w') a h/\wpOp P ops (QE q) E (fun y w'=>C w'/\qA2 P ops C q w z y w') a h
theorem qb2 {C:World->Prop} {n g:Nat} {ae:Act->World->Prop} (U:Region.noSelect ops=true) (M:Region.sinkB md ops n=true) (O:Region.chainB md ops n=true) (T:n<ops.size) :
  ∀ (ab:Ord) (i:Array Bool) (a:Act) (w:World),HeadInv md ops n i->qnz md ops n g ab i=true->C w->qA2 P ops C E ae ab a w->
  qa6 P md ops n C E (fun af q w'=>Region.seqB md ops g n af=true/\ae q w') ab.len i a w
 | .done,i,a,w,_,k,r,h=>⟨r,k,h⟩
 | .pure K J,i,a,w,z,k,r,h=>by
  simp only [qnz,Qd,Qf] at k;obtain ⟨⟨⟨v,y⟩,ao⟩,Z⟩:=k;have ah:K∈Region.ready md ops i:=by simpa using v
  simp only [qA2] at h;cases W:ops[K]? with
  | none=>rw [W] at h;exact h.elim
  | some au=>
   rw [W] at h;obtain ⟨av,aj,ai⟩:=h;exact qaR W (Region.noSelect_spec U) M O T y (fun af q w' aq=>seqB_ready aq.1) J.len i a w z (Region.free_spec W ao) ah aj r
    (qb2 U M O T J _ _ w (z.set ah y) Z r ai)
 | .one K J,i,a,w,z,k,r,h=>by
  simp only [qnz,Qd,Qf] at k;obtain ⟨⟨v,y⟩,Z⟩:=k;simp only [qA2] at h;have aa:Region.ready md ops i≠[]:=by rw [v];exact List.cons_ne_nil _ _
  refine ⟨r,aa,fun V G=>?_⟩;rw [v] at G;have ac:V=K:=by simpa using G
  subst ac;refine ⟨y,qfs (fun q w' o=>?_) h⟩;exact qb2 U M O T J _ q w' (z.set (by rw [v];exact QI.2 rfl) y) Z o.1 o.2
 | .two K J ar ak,i,a,w,z,k,r,h=>by
  simp only [qnz,Qd,Qf] at k;obtain ⟨⟨⟨⟨⟨v,y⟩,ag⟩,ap⟩,am⟩,an⟩:=k;simp only [qA2] at h;have aa:Region.ready md ops i≠[]:=by rw [v];exact List.cons_ne_nil _ _
  refine ⟨r,aa,fun V G=>?_⟩;have ad:=G;rw [v] at G;have ac:V=K\/V=ar:=by simpa using G
  rcases ac with rfl | rfl
  ·refine ⟨y,qfs (fun q w' o=>?_) h.1⟩
   exact qb2 U M O T J _ q w' (z.set ad y) am o.1 o.2
  ·refine ⟨ag,qfs (fun q w' o=>?_) h.2⟩
   have:=qb2 U M O T ak _ q w' (z.set ad ag) an o.1 o.2
   rwa [ap] at this
theorem qBm {aa:Nat} {Q:Exit->Act->World->Prop} {a:Act} {w:World} {l:List Oper} (C:World->Prop) (q:List PanicEntry->List Deferred->World->Prop) (n:Nat) (j:Ord) (Z:P.follows .mixedOrders=true) (y:qmR .any l.toArray n j=true)
  (ae:C w.drew) (V:∀ t a w,q t a.defers w->Q (.panic t) a w) (M:qA2 P l.toArray C q (fun h w'=>wpList P l.toArray Q (l.drop n) h w') j a w.drew):(Code.region aa l.toArray true).wp P Q a w:=by
 simp only [qmR,Qd,Qf] at y;obtain ⟨⟨⟨⟨⟨af,W⟩,ab⟩,O⟩,T⟩,K⟩:=y;have E:(l.drop n).length=l.toArray.size - n:=by simp
 have J:HeadInv .any l.toArray n (Array.replicate l.toArray.size false):=
  ⟨by simp,fun ad ag _ z=>(by rw [getD_replicate_false] at z;cases z),fun ah _ U=>getD_in (by simpa using U) (getD_replicate_false _ _)⟩
 have H:=qb2 af O T W j _ a w.drew J K ae M;refine wp_region_any Z ?_;have:=qam V (Q':=Q) (g:=l.toArray.size - n) (fun ac h w' G=>by
  have:=wpAny_of_seq (md:=.any) (Q':=Q) (l.drop n) n ac h w' (fun ad=>by simp [Zc]) (by rw [E];exact G.1) G.2
  rwa [E] at this) _ _ _ _ H
 rw [ab] at this;exact this
theorem qAY {C:World->Prop} {h:Act->World->Prop} {k:Nat} {r:Ord} {a:Act} {w:World} {o:Oper} (G:ops[k]?=some o) (z:Region.wanted o (yielded ops a.tmps)=true) (v:Value)
  (y:∀ w,C w->(execOp a.eval o).run P w=.ok (.value v) w) (q:qA2 P ops C E h r (a.put o.dst v) w):qA2 P ops C E h (.pure k r) a w:=by
 simp only [qA2,G];exact ⟨v,.inl ⟨z,y⟩,q⟩
def QK (q:List PanicEntry->List Deferred->World->Prop) (y:Act->World->Prop):Exit->Act->World->Prop
 | .normal,h,a=>y h a
 | .panic w,h,a=>q w h.defers a
 | _,_,_=>False
theorem qax (q:Act->World->Prop):¬LetsOut (QK E q):=fun ⟨_,_,h⟩=>h
theorem qeJ {o:Oper} {a:Act} {f:Act->World->Prop} {n:Act->World->Prop} {r:Result Next} (c:o.upon P a f (QK E n) r):o.upon P a f (QE E) r:=by
 cases r with
 | ok x h=>
  cases x <;> simp only [Oper.upon] at c |-
  case value e=>exact c
  case skip=>exact c
  case defer J=>exact c
  case enter y args=>
   refine c.mono fun q G d=>?_
   cases q with
   | returned e=>exact d
   | panicked z=>exact d
   | outgrown=>exact absurd d (qax _)
  case row row args=>exact c
 | halt v h=>
  cases v <;> simp only [Oper.upon] at c |-
  case panic e=>exact c
theorem qeH {q:Act->World->Prop} {k:Nat} {a:Act} {w:World} {o:Oper} (z:ops[k]?=some o) (y:Region.wanted o (yielded ops a.tmps)=true) (h:wpList P ops (QK E q) [{o with guard:=none}] a w):wpOp P ops (QE E) k q a w:=by
 unfold wpOp;simp only [z,y,if_true];have G:Region.wanted {o with guard:=none} (yielded ops a.tmps)=true:=rfl;simp only [wpList,G,if_true] at h;rcases h with h | h
 ·exact .inl (qeJ h)
 ·exact absurd h.2 (qax _)
theorem qA3 {C:World->Prop} {h:Act->World->Prop} {k:Nat} {r:Ord} {a:Act} {w:World} {o:Oper} (z:ops[k]?=some o) (y:Region.wanted o (yielded ops a.tmps)=true) (q:wpList P ops (QK E fun G w'=>C w'/\qA2 P ops C E h r G w') [{o with guard:=none}] a w) :
  qA2 P ops C E h (.one k r) a w:=by
 simp only [qA2];exact qeH z y q
theorem qBr {C:World->Prop} {h:Act->World->Prop} {k G:Nat} {r z:Ord} {a:Act} {w:World} {o q:Oper} (U:ops[k]?=some o) (J:Region.wanted o (yielded ops a.tmps)=true) (O:ops[G]?=some q) (K:Region.wanted q (yielded ops a.tmps)=true)
  (M:wpList P ops (QK E fun y w'=>C w'/\qA2 P ops C E h r y w') [{o with guard:=none}] a w) (T:wpList P ops (QK E fun y w'=>C w'/\qA2 P ops C E h z y w') [{q with guard:=none}] a w) :
  qA2 P ops C E h (.two k r G z) a w:=by
 simp only [qA2];exact ⟨qeH U J M,qeH O K T⟩
end
end Go.MixE
