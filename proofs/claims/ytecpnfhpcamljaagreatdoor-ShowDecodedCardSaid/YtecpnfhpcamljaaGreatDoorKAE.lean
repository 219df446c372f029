/-
  TbN, TbO, TbP, TbQ, TbR, TbS, ShD, CnA.
-/
import Derived.Test.YtecpnfhpcamljaaGreatDoorKAD
set_option linter.all false
set_option maxRecDepth 100000
set_option maxHeartbeats 4000000
namespace Go.Proofs.YtecpnfhpcamljaaGreatDoor
open Tryz
open Go.RowKit Go.Shelf
attribute [local irreducible] Go.Mixed.qAU
theorem qhn:∀ (L:List Tr) (k:Nat) (x:Tr) (h:k<L.length),(((cellsT L).set (k*3) (.int .i64 x.1)).set (k*3+1) (.int .i64 x.2.1)).set (k*3+2) (.int .i64 x.2.2)=cellsT (L.set k x)
 | e :: q,0,x,h=>rfl
 | e :: q,k+1,x,h=>by
  have z:=qhn q k x (by simpa using h);rw [show (k+1)*3+2=(k*3+2)+1+1+1 by omega,show (k+1)*3+1=(k*3+1)+1+1+1 by omega,show (k+1)*3=(k*3)+1+1+1 by omega];have y:∀ e:Tr,∀ t:List Tr,cellsT (e :: t)=.int .i64 e.1 :: .int .i64 e.2.1 :: .int .i64 e.2.2 :: cellsT t:=fun _ _=>rfl
  show _=cellsT (e :: q.set k x);rw [y,y,<- z];rfl
theorem qaf.put3 {w:World} {B g cap n:Nat} {L:List Tr} (h:qaf w B (.slice (some ⟨g,0,none⟩) n cap) L) (q:L.length=n) (k:Nat) (y:k<n) (x:Tr) :
  qaf (((w.setCell ⟨g,k*3,none⟩ (.int .i64 x.1)).setCell ⟨g,k*3+1,none⟩ (.int .i64 x.2.1)).setCell ⟨g,k*3+2,none⟩ (.int .i64 x.2.2)) B (.slice (some ⟨g,0,none⟩) n cap) (L.set k x):=by
 unfold qaf at h |-;rw [q] at h;rw [List.length_set,q,<- qhn L k x (by omega)];exact (World.ownsRow.stored (World.ownsRow.stored (World.ownsRow.stored h (k*3) _).1 (k*3+1) _).1 (k*3+2) _).1
theorem qcq {w:World} {base:Nat} {e:TypeId} {size n:Nat} {v:Value} {xs:List Value} (k:w.ownsRow base e size v n xs) {p:Addr} (h:∀ g,v.ownBlock=some g->g≠p.block) (u:Value):(w.setCell p u).ownsRow base e size v n xs:=
 World.ownsRow.kept k (row:=some p.block) ⟨rfl,rfl,rfl,by simp,fun q _ y=>heap_setCell_other w p q u (fun e=>y (by rw [e]))⟩ (by
  cases e:v.ownBlock with
  | none=>exact .inl rfl
  | some g=>exact .inr (fun z=>h g e (by cases z;rfl)))
def qb6 (w:World) (b:Nat) (y h:Int) (m:Str) (v:Value) (ex:Str) (al:Bool) (q:Int):Prop:=
 w.heap[b]?=some (.cells #[.int .i64 y,.int .u8 h,.string (sB m),v,.string (sB ex),.bool al,.int .i64 q] 265 (0,0))
section
variable {w w':World} {b:Nat} {page op ix:Int} {m ex:Str} {v:Value} {al:Bool}
theorem qb6.lt (h:qb6 w b page op m v ex al ix):b<w.heap.size:=(Qb.1 h).1
theorem qb6.below {B:Nat} (h:qb6 w b page op m v ex al ix) (q:Below B w w') (y:b<B):qb6 w' b page op m v ex al ix:=(q.block b y).trans h
theorem qb6.all (h:qb6 w b page op m v ex al ix) (q:Below w.heap.size w w'):qb6 w' b page op m v ex al ix:=h.below q h.lt
theorem qb6.cells (h:qb6 w b page op m v ex al ix):w.cell? ⟨b,0,none⟩=some (.int .i64 page)/\w.cell? ⟨b,1,none⟩=some (.int .u8 op)/\w.cell? ⟨b,2,none⟩=some (.string (sB m))/\w.cell? ⟨b,3,none⟩=some v/\w.cell? ⟨b,4,none⟩=some (.string (sB ex))/\w.cell? ⟨b,5,none⟩=some (.bool al)/\w.cell? ⟨b,6,none⟩=some (.int .i64 ix)/\∀ j,w.frozen? ⟨b,j,none⟩=false:=
 ⟨C9 h 0,C9 h 1,C9 h 2,C9 h 3,C9 h 4,C9 h 5,C9 h 6,Qp h⟩
theorem qb6.apart (q:qb6 w b page op m v ex al ix) {g:Nat} {y:Array Value} (h:w.heap[g]?=some (.cells y 56 (0,0))):g≠b:=by
 rintro rfl;rw [show w.heap[g]?=_ from q] at h;simp at h
theorem qb6.qBg (q:qb6 w b page op m v ex al ix) (h:Value):qb6 (w.setCell ⟨b,3,none⟩ h) b page op m h ex al ix:=heap_setCell_same w b 3 _ _ h q
theorem qb6.qBe (q:qb6 w b page op m v ex al ix) (h:Str):qb6 (w.setCell ⟨b,4,none⟩ (.string (sB h))) b page op m v h al ix:=heap_setCell_same w b 4 _ _ _ q
theorem qb6.qBa (q:qb6 w b page op m v ex al ix) (h:Bool):qb6 (w.setCell ⟨b,5,none⟩ (.bool h)) b page op m v ex h ix:=heap_setCell_same w b 5 _ _ _ q
theorem qb6.qBn (q:qb6 w b page op m v ex al ix) (h:Int):qb6 (w.setCell ⟨b,1,none⟩ (.int .u8 h)) b page h m v ex al ix:=heap_setCell_same w b 1 _ _ _ q
theorem qb6.other (h:qb6 w b page op m v ex al ix) {g:Nat} (q:b≠g) (j:Nat) (u:Value):qb6 (w.setCell ⟨g,j,none⟩ u) b page op m v ex al ix:=(heap_setCell_other w ⟨g,j,none⟩ b u q).trans h
end
def qmf (q:Int):List Tr->List Tr
 | []=>[]
 | x :: h=>if x=(4,2,0) then (5,q,0) :: h else x :: qmf q h
theorem ql4 (q:Int):∀ (L:List Tr) (j:Nat),(∃ h:j<L.length,L[j]=(4,2,0))->(∀ k,k<j->∀ (a:k<L.length),L[k]≠(4,2,0))->qmf q L=L.set j (5,q,0)
 | [],j,⟨h,_⟩,_=>by simp at h
 | x :: y,0,⟨_,e⟩,_=>by
  simp only [List.getElem_cons_zero] at e;unfold qmf;rw [Qi e];rfl
 | x :: y,j+1,⟨h,e⟩,t=>by
  unfold qmf;have z:x≠(4,2,0):=t 0 (by omega) (by simp);rw [Qe z,ql4 q y j ⟨by simpa using h,by simpa using e⟩ (fun k E a=>by
   have:=t (k+1) (by omega) (by simpa using a);simpa using this)]
  rfl
theorem qmO (h:Int):∀ L:List Tr,(qmf h L).length=L.length
 | []=>rfl
 | x :: t=>by unfold qmf;split <;> simp [qmO h t]
structure Fr (w:World) (b:Nat) (v:Value) (w':World):Prop where
 size:w.heap.size<=w'.heap.size
 same:∀ k,k<w.heap.size->k≠b->v.ownBlock≠some k->w'.heap[k]?=w.heap[k]?
theorem Fr.of_below {w w':World} {b:Nat} {v:Value} (h:Below w.heap.size w w'):Fr w b v w':=⟨h.size,fun k q _ _=>h.block k q⟩
theorem Fr.below {w w' k:World} {b:Nat} {v:Value} (h:Fr w b v w') (q:Below w'.heap.size w' k):Fr w b v k:=
 ⟨Qj h.size q.size,fun y z E G=>(q.block y (Zk z h.size)).trans (h.same y z E G)⟩
theorem Fr.set {w w':World} {b:Nat} {v:Value} (k:Fr w b v w') {p:Addr} (e:p.block=b\/v.ownBlock=some p.block) (u:Value):Fr w b v (w'.setCell p u):=
 ⟨by simpa using k.size,fun y E h q=>(heap_setCell_other w' p y u (fun z=>by rcases e with e | e;exact h (z.trans e);exact q (by rw [e,z]))).trans (k.same y E h q)⟩
def qgX (m:Str) (L:List Tr):Bool:=decide ((4,2,0)∈L)&&!decide (m=[74,80])
def qwD (w:World) (b B:Nat) (y q:Int) (m:Str) (v:Value) (ex:Str) (al:Bool) (h:Int) (L:List Tr) (e:Ending) (w':World):Prop:=
 e=.returned (.bool (qgX m L))/\qb6 w' b y q m v (if qgX m L then 100 :: ex else ex) al h/\qaf w' B v (if qgX m L then qmf h L else L)/\Below B w w'/\Fr w b v w'
theorem qgZ (b B:Nat) (Z W:Int) (m:Str) (v:Value) (ex:Str) (al:Bool) (h:Int) (L:List Tr) (a2:L.length<=100) (aG:ex.length<=1000) (w:World)
  (X:qb6 w b Z W m v ex al h) (ar:qaf w B v L) (bb:B<=b):Calls prog 240 #[.pointer (some ⟨b,0,none⟩)] w (qwD w b B Z W m v ex al h L):=by
 obtain ⟨A,n,rfl,aF,aZ⟩:=ar.ops;obtain ⟨q,ao⟩:=N9 (L.length);rw [ao] at X ar a2 aZ |-;obtain ⟨aq,ap,am,ac,af,an,ak,ae⟩:=X.cells;have au:w.drew.cell? ⟨b,3,none⟩=some (.slice A q n):=ac;have aC:=fun aB E=>qg1 A n L (by unfold maxLen;omega) (4,2,0) aB E
 rw [ao] at aC;have aH:=J9 X;have aV:=J9 ar;have aP:=J9 aF;have K:=J9 ao;have be:=J9 aG;have aA:Hid (B<=w.heap.size):=by have:=X.lt;show B<=_;omega
 clear X ar aF ao aG aq ap am ac af an ak ae
 go_enter func240,ntmps240
 go_wp2;obtain ⟨T,y⟩:=N9 (w.drew);rw [y] at au;have aN:=J9 au;have aI:Hid (qb6 T b Z W m (.slice A q n) ex al h):=by rw [<- y];exact aH.o
 have aQ:Hid (qaf T B (.slice A q n) L):=by rw [<- y];exact aV.o.below (below_drewN w _ 1)
 have aW:Hid (qai T A L):=by rw [<- y];exact aP.o.below (below_drewN w _ 1)
 have av:Hid (Below w.heap.size w T):=by rw [<- y];exact below_drewN w _ 1
 refine Mixed.qAQ (fun aB=>aB.cell? ⟨b,3,none⟩=some (.slice A q n)) 7 [(0,true),(1,true),(2,true),(3,true),(4,true),(5,true),(6,false)] (by kernel_rfl) (by kernel_rfl) (by rw [y];exact aN.o) ?_;rw [y];clear aH aV aP y aN au;refine Mixed.qAT rfl (by kernel_rfl) _ rfl _ rfl ?_;refine Mixed.mo rfl (.pointer (some ⟨b,0,none⟩)) (fun w E=>by go_simp;try rfl) ?_;refine Mixed.mo rfl (.pointer (some ⟨b,0,none⟩)) (fun w E=>by go_simp;try rfl) ?_;refine Mixed.mo rfl (.pointer (some ⟨b,2,none⟩)) (fun w E=>by go_simp;try rfl) ?_;refine Mixed.mo rfl (.pointer (some ⟨b,3,none⟩)) (fun w E=>by go_simp;try rfl) ?_;refine Mixed.mo rfl (.slice A q n) (fun w E=>by go_simp;try rfl) ?_;refine Mixed.qAR rfl (by kernel_rfl) ?_
 go_wp2_with fail
 refine (tpointer_any 2 T).mono ?_;rintro az a0 ⟨rfl,V⟩;have aw:=J9 (aI.o.all V);have aT:=J9 (aQ.o.below V);have aO:=J9 (aW.o.below V);have ay:=J9 (av.o.trans (V.mono av.o.size));have aL:=(aw.o.cells).2.2.2.1;clear aI aQ aW av V;go_wp2;refine ⟨aL,?_⟩;clear aL;simp only [Mixed.qAU,Qr,Qx,trV];have aM:=aC a0 aO.o;clear aC
 go_wp2_with fail
 refine aM.mono ?_;rintro az aa ⟨a1,aj⟩;have z:=J9 (aw.o.all aj);have ad:=J9 (aT.o.below aj);have J:=J9 (ay.o.trans (aj.mono ay.o.size));clear aw aT aO ay aj aM;have aY:b<aa.heap.size:=z.o.lt;rcases a1 with ⟨aK,rfl⟩ | ⟨e,a5,aD,rfl⟩
 ·have j:Hid (qgX m L=false):=by show qgX m L=_;unfold qgX;rw [Qh aK];rfl
  clear aK;go_wp2;go_ret;refine ⟨qab j.o.symm,?_,?_,J.o.mono aA.o,Fr.of_below J.o⟩
  ·rw [j.o];exact z.o
  ·rw [j.o];exact ad.o
 ·obtain ⟨ab,ai⟩:=a5
  have ax:(4,2,0)∈L:=by rw [<- ai];exact QJ ab
  have a3:Hid (qmf h L=L.set e (5,h,0)):=ql4 h L e ⟨ab,ai⟩ aD;have aX:e<q:=by rw [<- K.o];exact ab
  obtain ⟨g,bf,O,bm,⟨bi,ah⟩,-,aS⟩:=ad.o.form (by omega);rw [K.o] at O;cases O;obtain ⟨aq,ap,am,ac,af,an,ak,ae⟩:=z.o.cells;have ag:g≠b:=z.o.apart ah;have a4:=J9 ah;by_cases M:m=[74,80]
  ·have j:Hid (qgX m L=false):=by show qgX m L=_;unfold qgX;rw [Qn M];simp
   have bc:((sB m).toList == [74,80])=true:=(by rw [qcU];exact Qn M);clear M ax ai ab aD ah;go_wp2;go_ret;refine ⟨qab j.o.symm,?_,?_,J.o.mono aA.o,Fr.of_below J.o⟩
   ·rw [j.o];exact z.o
   ·rw [j.o];exact ad.o
  ·have j:Hid (qgX m L=true):=by show qgX m L=_;unfold qgX;rw [Qn ax,Qh M];rfl
   have bc:((sB m).toList == [74,80])=false:=(by rw [qcU];exact Qh M);have bk:(⟨#[100]⟩:ByteArray).size+(sB ex).size<=2000:=(by have:=be.o;rw [qaB];show 1+_<=_;omega);clear M ax ai ab aD ah;go_wp2
   go_still_tail 12,(by kernel_rfl)
   change wpList _ _ _ _ _ aa.drew;obtain ⟨G,U⟩:=N9 (aa.drew);have aR:Hid (qb6 G b Z W m (.slice (some ⟨g,0,none⟩) q n) ex al h):=(by rw [<- U];exact z.o);have aJ:Hid (qaf G B (.slice (some ⟨g,0,none⟩) q n) L):=(by rw [<- U];exact ad.o.below (below_drewN aa _ 1));have aE:Hid (Below w.heap.size w G):=(by rw [<- U];exact J.o.trans (below_drewN aa _ 1));rw [U];clear z ad J aq ap am ac af an ak ae aS a4 U aY;obtain ⟨aq,ap,am,ac,af,an,ak,ae⟩:=aR.o.cells;obtain ⟨a9,bj,O,-,-,aU,aS⟩:=aJ.o.form (by have:=K.o;omega);rw [K.o] at O;cases O;obtain ⟨bl,bg,bh⟩:=aU e (by rw [K.o];exact aX);clear aU;have bd:Hid (qaf (((G.setCell ⟨g,e*3,none⟩ (.int .i64 5)).setCell ⟨g,e*3+1,none⟩ (.int .i64 h)).setCell ⟨g,e*3+2,none⟩ (.int .i64 0)) B (.slice (some ⟨g,0,none⟩) q n) (L.set e (5,h,0))):=aJ.o.put3 K.o e aX (5,h,0);have a7:Hid (qb6 (((G.setCell ⟨g,e*3,none⟩ (.int .i64 5)).setCell ⟨g,e*3+1,none⟩ (.int .i64 h)).setCell ⟨g,e*3+2,none⟩ (.int .i64 0)) b Z W m (.slice (some ⟨g,0,none⟩) q n) ex al h):=((aR.o.other ag.symm _ _).other ag.symm _ _).other ag.symm _ _;have a6:Hid (Below B w (((G.setCell ⟨g,e*3,none⟩ (.int .i64 5)).setCell ⟨g,e*3+1,none⟩ (.int .i64 h)).setCell ⟨g,e*3+2,none⟩ (.int .i64 0))):=
    (((aE.o.mono aA.o).setCell (p:=⟨g,e*3,none⟩) (by simp;omega) _).setCell (p:=⟨g,e*3+1,none⟩) (by simp;omega) _).setCell (p:=⟨g,e*3+2,none⟩) (by simp;omega) _
   go_wp2;have a8:(⟨#[100]⟩:ByteArray)++sB ex=sB (100 :: ex):=qf6 [100] ex;rw [a8];go_ret;refine ⟨qab j.o.symm,?_,?_,a6.o.setCell (p:=⟨b,4,none⟩) bb _,((((Fr.of_below aE.o).set (p:=⟨g,e*3,none⟩) (.inr rfl) _).set (p:=⟨g,e*3+1,none⟩) (.inr rfl) _).set (p:=⟨g,e*3+2,none⟩) (.inr rfl) _).set (p:=⟨b,4,none⟩) (.inl rfl) _⟩
   ·rw [j.o];exact a7.o.qBe (100 :: ex)
   ·rw [j.o]
    show qaf _ _ _ (qmf h L);rw [a3.o];exact qcq bd.o (p:=⟨b,4,none⟩) (fun a9 az=>by cases az;exact ag) _
end Go.Proofs.YtecpnfhpcamljaaGreatDoor
namespace Go.Proofs.YtecpnfhpcamljaaGreatDoor
open Tryz
open Go.RowKit Go.Shelf
attribute [local irreducible] Go.Mixed.qAU
def qiH (o:Int) (L:List Tr):Bool:=L.any fun h=>!decide (opX o h=h)
def mpx (h:Int) (L:List Tr) (j:Nat):List Tr:=(L.take j).map (opX h)++L.drop j
theorem qdT (h:Int) (L:List Tr) (j:Nat):(mpx h L j).length=L.length:=by unfold mpx;simp;omega
theorem qmi (e:Int) (L:List Tr) (j:Nat) (h:j<L.length) (y:j<(mpx e L j).length):(mpx e L j)[j]=L[j]:=by
 have q:(mpx e L j)[j]?=L[j]?:=by
  unfold mpx;rw [Zr (by simp;omega)];simp [Nat.min_eq_left (QV h)]
 rw [Qg y,Qg h] at q;exact Qs q
theorem qh4 (h:Int) (L:List Tr) (j:Nat) (q:j<L.length):mpx h L (j+1)=(mpx h L j).set j (opX h L[j]):=by
 have y:((L.take j).map (opX h)).length=j:=by simp;omega
 unfold mpx;rw [List.set_append_right _ _ (by omega),y,Nat.sub_self,QL q,Zg,Za,List.drop_eq_getElem_cons q];rfl
theorem qpx (e:Int) (L:List Tr) (j:Nat) (h:j<L.length) (y:j<(mpx e L (j+1)).length):(mpx e L (j+1))[j]=opX e L[j]:=by
 have q:(mpx e L (j+1))[j]?=some (opX e L[j]):=by rw [qh4 e L j h,List.getElem?_set_self (by rw [qdT];exact h)]
 rw [Qg y] at q;exact Qs q
theorem qiL (h:Int) (L:List Tr) (j:Nat) (q:j<L.length):qiH h (L.take (j+1))=(qiH h (L.take j)||!decide (opX h L[j]=L[j])):=by
 unfold qiH;rw [QL q,List.any_append];simp
theorem qpi (h:Int) (L:List Tr):mpx h L L.length=L.map (opX h):=by unfold mpx;simp
def qcZ (m:Str) (h:Int) (L:List Tr):Bool:=!(decide (m=[69,88])&&decide ((3,1,0)∈L))&&qiH h L
def qyS (w:World) (b B:Nat) (y q:Int) (m:Str) (v:Value) (ex:Str) (al:Bool) (h:Int) (L:List Tr) (e:Ending) (w':World):Prop:=
 e=.returned (.bool (qcZ m h L))/\qb6 w' b y q m v ex al h/\(qcZ m h L=true->qaf w' B v (L.map (opX h)))/\Below B w w'/\Fr w b v w'
theorem qnJ (b B:Nat) (aK aJ:Int) (m:Str) (v:Value) (ex:Str) (al:Bool) (e:Int) (bB:e=5\/e=6) (L:List Tr) (bL:L.length<=100) (w:World)
  (X:qb6 w b aK aJ m v ex al e) (bl:qaf w B v L) (bZ:B<=b):Calls prog 241 #[.pointer (some ⟨b,0,none⟩)] w (qyS w b B aK aJ m v ex al e L):=by
 obtain ⟨U,i,rfl,bn,bJ⟩:=bl.ops;obtain ⟨g,bf⟩:=N9 (L.length);rw [bf] at X bl bL bJ |-;have bQ:Hid (B<=w.heap.size):=by have:=X.lt;show B<=_;omega
 have bi:=J9 X;have bk:=J9 bl;have ad:=J9 bf;have bF:=J9 bB;obtain ⟨aB,aA,ax,ay,av,az,aw,ar⟩:=X.cells;clear X bl bB;by_cases a2:m=[69,88]
 ·have bW:((sB m).toList == [69,88])=true:=by rw [qcU];exact Qn a2
  have bS:=J9 a2;have bw:=fun ac h=>qig U i L (by unfold maxLen;omega) (3,1,0) ac h
  rw [bf] at bw;have bE:=J9 bn;clear a2 bn bf
  go_enter func241,ntmps241
  go_wp2;obtain ⟨aj,ab⟩:=N9 (w.drew);have af:Hid (qb6 aj b aK aJ m (.slice U g i) ex al e):=by rw [<- ab];exact bi.o
  have aL:Hid (qaf aj B (.slice U g i) L):=by rw [<- ab];exact bk.o.below (below_drewN w _ 1)
  have bG:Hid (qai aj U L):=by rw [<- ab];exact bE.o.below (below_drewN w _ 1)
  have au:Hid (Below w.heap.size w aj):=by rw [<- ab];exact below_drewN w _ 1
  have bA:Hid (aj.cell? ⟨b,3,none⟩=some (.slice U g i)/\aj.cell? ⟨b,2,none⟩=some (.string (sB m))):=⟨af.o.cells.2.2.2.1,af.o.cells.2.2.1⟩;refine Mixed.qAQ (fun ac=>ac.cell? ⟨b,3,none⟩=some (.slice U g i)/\ac.cell? ⟨b,2,none⟩=some (.string (sB m))) 15 [(0,true),(1,true),(2,true),(3,true),(4,true),(5,true),(6,true),(7,true),(8,true),(9,true),(10,true),(11,true),(12,true),(13,true),(14,false)] (by kernel_rfl) (by kernel_rfl) (by rw [ab];exact bA.o) ?_;rw [ab];clear bi bk bE ab bA aB aA ax ay av az aw ar;refine Mixed.qAT rfl (by kernel_rfl) _ rfl _ rfl ?_;refine Mixed.mo rfl (.pointer (some ⟨b,0,none⟩)) (fun w h=>by go_simp;try rfl) ?_;refine Mixed.mo rfl (.pointer (some ⟨b,0,none⟩)) (fun w h=>by go_simp;try rfl) ?_;refine Mixed.mo rfl (.pointer (some ⟨b,2,none⟩)) (fun w h=>by go_simp;try rfl) ?_;refine Mixed.mo rfl (.pointer (some ⟨b,2,none⟩)) (fun w h=>by go_simp;try rfl) ?_;refine Mixed.mo rfl (.string (sB m)) (fun w h=>by obtain ⟨-,bH⟩:=h;go_simp;try rfl) ?_;refine Mixed.mo rfl (.bool true) (fun w h=>by go_simp;try rfl) ?_;refine Mixed.mo rfl (.bool true) (fun w h=>by go_simp;try rfl) ?_;refine Mixed.mo rfl (.pointer (some ⟨b,0,none⟩)) (fun w h=>by go_simp;try rfl) ?_;refine Mixed.mo rfl (.pointer (some ⟨b,0,none⟩)) (fun w h=>by go_simp;try rfl) ?_;refine Mixed.mo rfl (.pointer (some ⟨b,0,none⟩)) (fun w h=>by go_simp;try rfl) ?_;refine Mixed.mo rfl (.pointer (some ⟨b,2,none⟩)) (fun w h=>by go_simp;try rfl) ?_;refine Mixed.mo rfl (.pointer (some ⟨b,3,none⟩)) (fun w h=>by go_simp;try rfl) ?_;refine Mixed.mo rfl (.slice U g i) (fun w h=>by obtain ⟨bj,-⟩:=h;go_simp;try rfl) ?_;refine Mixed.qAR rfl (by kernel_rfl) ?_
  go_wp2_with fail
  refine (pair_any 1 aj).mono ?_;rintro bt M ⟨rfl,bb⟩;have aa:=J9 (af.o.all bb);have aM:=J9 (aL.o.below bb);have bD:=J9 (bG.o.below bb);have an:=J9 (au.o.trans (bb.mono au.o.size));have aI:M.cell? ⟨b,3,none⟩=some (.slice U g i)/\M.cell? ⟨b,2,none⟩=some (.string (sB m)):=⟨aa.o.cells.2.2.2.1,aa.o.cells.2.2.1⟩;clear af aL bG au bb;go_wp2;refine ⟨aI,?_⟩;clear aI;simp only [Mixed.qAU,Qr,Qx,trV];have bo:=bw M bD.o;clear bw;obtain ⟨j,ae⟩:=N9 (decide (((3:Int),(1:Int),(0:Int))∈L));have bC:=J9 ae;rw [ae] at bo;clear ae
  go_wp2_with fail
  refine bo.mono ?_;rintro bt bs ⟨rfl,bc⟩;have af:=J9 (aa.o.all bc);have aL:Hid (qaf bs B (.slice U g i) (mpx e L 0)):=aM.o.below bc;have a1:Hid (Fr w b (.slice U g i) bs):=Fr.of_below (an.o.trans (bc.mono an.o.size));have au:Hid (Below B w bs):=(an.o.trans (bc.mono an.o.size)).mono bQ.o;clear aa aM bD an bc bo;obtain ⟨aB,aA,ax,ay,av,az,aw,ar⟩:=af.o.cells;cases j
  ·have a0:Hid (qcZ m e L=qiH e L):=by show qcZ m e L=_;unfold qcZ;rw [bC.o];simp
   go_wp2
   go_loopw [30,3] (fun aS bp wr=>∃ c:Nat,c<=g/\aS=.int .i64 c/\bp=.bool (qiH e (L.take c))/\Hid (qb6 wr b aK aJ m (.slice U g i) ex al e)/\Hid (qaf wr B (.slice U g i) (mpx e L c))/\Hid (Below B w wr)/\Hid (Fr w b (.slice U g i) wr)) (fun aS _ _=>g - (intOf aS).toNat)
   case atStart=>exact ⟨0,Qu _,rfl,rfl,af.o,aL.o,au.o,a1.o⟩
   case round=>
    clear af aL au a1;obtain ⟨c,bP,rfl,rfl,ag,aD,aT,aY⟩:=hrel;by_cases ai:c<g
    ·have ao:c<L.length:=by rw [ad.o];exact ai
     have A:(mpx e L c).length=g:=(by rw [qdT];exact ad.o);obtain ⟨d,bI,V,bT,⟨bN,a9⟩,Z,aX⟩:=aD.o.form (by omega);rw [A] at V;cases V;have aQ:d≠b:=ag.o.apart a9;clear a9;obtain ⟨K,O,T⟩:=Z c (by rw [A];exact ai);rw [qmi e L c ao] at K O T;obtain ⟨⟨y,n,q⟩,aH⟩:=N9 (L[c]);have a3:=J9 aH;rw [aH] at K O T;simp only at K O T;obtain ⟨aB,aA,ax,ay,av,az,aw,ar⟩:=ag.o.cells;have a7:d<wr.heap.size:=Qq wr _ K;have a6:b<wr.heap.size:=ag.o.lt;have W:=qiL e L c ao;rw [aH] at W;obtain ⟨bm,a8⟩:=N9 (qiH e (L.take c));rw [a8] at W |-;have W:=J9 W;clear Z aH A a8
     go_upto_region 7 with fail
     obtain ⟨j,ae⟩:=N9 (wr.heap.size);obtain ⟨M,ak⟩:=N9 ((wr.alloc (.cells #[.int .i64 y,.int .i64 n,.int .i64 q] 56)).drew);have ap:Below wr.heap.size wr M:=(by rw [<- ak];exact (B0).drew);have aa:=J9 (ag.o.all ap);have aM:=J9 (aD.o.below ap);have an:=J9 (aT.o.trans (ap.mono (by omega)));have a4:Hid (Fr w b (.slice (some ⟨d,0,none⟩) g i) M):=aY.o.below ap;have aq:M.heap[j]?=some (.cells #[.int .i64 y,.int .i64 n,.int .i64 q] 56 (0,0)):=(by rw [<- ak,<- ae];exact World.alloc_heap_new wr _);have bR:d<j:=(by rw [<- ae];exact a7);have bV:b<j:=(by rw [<- ae];exact a6);have aR:=J9 aq;have be:Hid (M.cell? ⟨b,3,none⟩=some (.slice (some ⟨d,0,none⟩) g i)/\M.cell? ⟨j,0,none⟩=some (.int .i64 y)/\M.cell? ⟨j,1,none⟩=some (.int .i64 n)/\M.cell? ⟨j,2,none⟩=some (.int .i64 q)):=⟨aa.o.cells.2.2.2.1,C9 aq 0,C9 aq 1,C9 aq 2⟩;refine Mixed.qAQ (fun ac=>ac.cell? ⟨b,3,none⟩=some (.slice (some ⟨d,0,none⟩) g i)/\ac.cell? ⟨j,0,none⟩=some (.int .i64 y)/\ac.cell? ⟨j,1,none⟩=some (.int .i64 n)/\ac.cell? ⟨j,2,none⟩=some (.int .i64 q)) 10 [(0,true),(1,true),(2,true),(3,true),(4,true),(5,true),(6,true),(7,true),(8,true),(9,false)] (by kernel_rfl) (by kernel_rfl) (by rw [ak];exact be.o) ?_;rw [ak];clear ag aD aT aY ap ak aB aA ax ay av az aw ar K O T aX be aq a7 a6;refine Mixed.qAT rfl (by kernel_rfl) _ rfl _ rfl ?_;refine Mixed.mo rfl (.pointer (some ⟨b,0,none⟩)) (fun w h=>by go_simp;try rfl) ?_;refine Mixed.mo rfl (.pointer (some ⟨b,0,none⟩)) (fun w h=>by go_simp;try rfl) ?_;refine Mixed.mo rfl (.pointer (some ⟨b,2,none⟩)) (fun w h=>by go_simp;try rfl) ?_;refine Mixed.mo rfl (.pointer (some ⟨b,3,none⟩)) (fun w h=>by go_simp;try rfl) ?_;refine Mixed.mo rfl (.slice (some ⟨d,0,none⟩) g i) (fun w h=>by obtain ⟨bj,-⟩:=h;go_simp;try rfl) ?_;refine Mixed.mo rfl (.int .i64 c) (fun w h=>by go_simp;try rfl) ?_;refine Mixed.mo rfl (.pointer (some ⟨b,0,none⟩)) (fun w h=>by go_simp;try rfl) ?_;refine Mixed.mo rfl (.agg #[.int .i64 y,.int .i64 n,.int .i64 q]) (fun w h=>by obtain ⟨-,bj,bH,bK⟩:=h;subst ae;go_simp;try rfl) ?_;refine Mixed.qAR rfl (by kernel_rfl) ?_;have aC:=qpr b e bF.o (y,n,q) M aa.o.cells.2.2.2.2.2.2.1;obtain ⟨⟨E,J,G⟩,aO⟩:=N9 (opX e (y,n,q));have aZ:=J9 aO;rw [aO] at aC;simp only [trV] at aC;clear aO
     go_wp2_with fail
     refine aC.mono ?_;rintro bt z ⟨rfl,ah⟩;have aW:=J9 (aa.o.all ah);have aP:=J9 (aM.o.below ah);have a5:Hid (Below B w z):=an.o.trans (ah.mono (by have:=aa.o.lt;omega));have bg:Hid (Fr w b (.slice (some ⟨d,0,none⟩) g i) z):=a4.o.below ah;have am:=J9 ((ah.block j (Qb.1 aR.o).1).trans aR.o);have aI:z.cell? ⟨b,3,none⟩=some (.slice (some ⟨d,0,none⟩) g i)/\z.cell? ⟨j,0,none⟩=some (.int .i64 y)/\z.cell? ⟨j,1,none⟩=some (.int .i64 n)/\z.cell? ⟨j,2,none⟩=some (.int .i64 q):=⟨aW.o.cells.2.2.2.1,C9 am.o 0,C9 am.o 1,C9 am.o 2⟩;clear ah aC aa aM an a4 aR;go_wp2;refine ⟨aI,?_⟩;clear aI;simp only [Mixed.qAU,Qr,Qx];have A:(mpx e L c).length=g:=(by rw [qdT];exact ad.o);obtain ⟨bx,bv,V,-,-,Z,aX⟩:=aP.o.form (by omega);rw [A] at V;cases V;obtain ⟨K,O,T⟩:=Z c (by rw [A];exact ai);rw [qmi e L c ao] at K O T;have aG:Hid (qaf (((z.setCell ⟨d,c*3,none⟩ (.int .i64 E)).setCell ⟨d,c*3+1,none⟩ (.int .i64 J)).setCell ⟨d,c*3+2,none⟩ (.int .i64 G)) B (.slice (some ⟨d,0,none⟩) g i) (mpx e L (c+1))):=by
      have h:=aP.o.put3 A c ai (E,J,G);rw [qh4 e L c ao,a3.o,aZ.o];exact h
     have aE:Hid (qb6 (((z.setCell ⟨d,c*3,none⟩ (.int .i64 E)).setCell ⟨d,c*3+1,none⟩ (.int .i64 J)).setCell ⟨d,c*3+2,none⟩ (.int .i64 G)) b aK aJ m (.slice (some ⟨d,0,none⟩) g i) ex al e):=((aW.o.other aQ.symm _ _).other aQ.symm _ _).other aQ.symm _ _;have aV:Hid (Below B w (((z.setCell ⟨d,c*3,none⟩ (.int .i64 E)).setCell ⟨d,c*3+1,none⟩ (.int .i64 J)).setCell ⟨d,c*3+2,none⟩ (.int .i64 G))):=
      ((a5.o.setCell (p:=⟨d,c*3,none⟩) (by simp;omega) _).setCell (p:=⟨d,c*3+1,none⟩) (by simp;omega) _).setCell (p:=⟨d,c*3+2,none⟩) (by simp;omega) _
     have aN:Hid (Fr w b (.slice (some ⟨d,0,none⟩) g i) (((z.setCell ⟨d,c*3,none⟩ (.int .i64 E)).setCell ⟨d,c*3+1,none⟩ (.int .i64 J)).setCell ⟨d,c*3+2,none⟩ (.int .i64 G))):=((bg.o.set (p:=⟨d,c*3,none⟩) (.inr rfl) _).set (p:=⟨d,c*3+1,none⟩) (.inr rfl) _).set (p:=⟨d,c*3+2,none⟩) (.inr rfl) _;have aF:Hid ((((z.setCell ⟨d,c*3,none⟩ (.int .i64 E)).setCell ⟨d,c*3+1,none⟩ (.int .i64 J)).setCell ⟨d,c*3+2,none⟩ (.int .i64 G)).heap[j]?=some (.cells #[.int .i64 y,.int .i64 n,.int .i64 q] 56 (0,0))):=
      (heap_setCell_other _ ⟨d,c*3+2,none⟩ j _ (by simp;omega)).trans ((heap_setCell_other _ ⟨d,c*3+1,none⟩ j _ (by simp;omega)).trans ((heap_setCell_other _ ⟨d,c*3,none⟩ j _ (by simp;omega)).trans am.o))
     clear Z A;simp only [trV]
     go_upto_region 8 with fail
     obtain ⟨bU,bh⟩:=N9 (((z.setCell ⟨d,c*3,none⟩ (.int .i64 E)).setCell ⟨d,c*3+1,none⟩ (.int .i64 J)).setCell ⟨d,c*3+2,none⟩ (.int .i64 G));rw [bh] at aG aE aV aF aN |-;clear bh K O T aX aP aW a5 am bg;have A:(mpx e L (c+1)).length=g:=(by rw [qdT];exact ad.o);obtain ⟨bx,bv,V,-,-,Z,-⟩:=aG.o.form (by omega);rw [A] at V;cases V;obtain ⟨K,O,T⟩:=Z c (by rw [A];exact ai);rw [qpx e L c ao,a3.o,aZ.o] at K O T;simp only at K O T;obtain ⟨aB,aA,ax,ay,av,az,aw,ar⟩:=aE.o.cells;have bX:=C9 aF.o 0;have bM:=C9 aF.o 1;have bY:=C9 aF.o 2;have br:∀ w,(binOp .neq 56 (.agg #[.int .i64 E,.int .i64 J,.int .i64 G]) (.agg #[.int .i64 y,.int .i64 n,.int .i64 q])).run prog w=.ok (.bool (!decide ((E,J,G)=(y,n,q)))) w:=(fun w=>qq3 (E,J,G) (y,n,q) w);rw [aZ.o] at W;obtain ⟨bq,bd⟩:=N9 ((!decide ((E,J,G)=(y,n,q))));rw [bd] at br W;clear Z A bd;have bO:=ai;cases bm
     ·have aU:Hid (qiH e (L.take (c+1))=bq):=W.o
      go_wp2
      go_quiet (fail)
      go_wp2;go_roundw
      case rel=>exact ⟨c+1,by omega,by go_num,by rw [aU.o],aE.o.all (below_drewN _ _ _),aG.o.below (below_drewN _ _ _),aV.o.trans (below_drewN _ _ _),aN.o.below (below_drewN _ _ _)⟩
      case measure=>simp [intOf];omega
     ·have aU:Hid (qiH e (L.take (c+1))=true):=W.o
      go_wp2
      go_quiet (fail)
      go_wp2;go_roundw
      case rel=>exact ⟨c+1,by omega,by go_num,by rw [aU.o],aE.o.all (below_drewN _ _ _),aG.o.below (below_drewN _ _ _),aV.o.trans (below_drewN _ _ _),aN.o.below (below_drewN _ _ _)⟩
      case measure=>simp [intOf];omega
    ·obtain rfl:c=g:=by omega
     have bu:Hid (qiH e (L.take c)=qcZ m e L):=by
      show qiH e (L.take c)=qcZ m e L;rw [a0.o,<- ad.o,Zt]
     have bz:Hid (qaf wr B (.slice U c i) (L.map (opX e))):=by
      have h:=aD.o;rw [<- ad.o,qpi] at h;rw [<- ad.o];exact h
     go_wp2;go_ret;exact ⟨qab bu.o,ag.o,fun _=>bz.o,aT.o,aY.o⟩
  ·have a0:Hid (qcZ m e L=false):=by show qcZ m e L=_;unfold qcZ;rw [bC.o,bS.o];rfl
   go_wp2;go_ret;exact ⟨qab a0.o.symm,af.o,fun h=>absurd h (by rw [a0.o];decide),au.o,a1.o⟩
 ·have bW:((sB m).toList == [69,88])=false:=by rw [qcU];exact Qh a2
  have a0:Hid (qcZ m e L=qiH e L):=by show qcZ m e L=_;unfold qcZ;rw [Qh a2];rfl
  clear a2 bn bf
  go_enter func241,ntmps241
  go_wp2
  go_quiet (fail)
  obtain ⟨aj,ab⟩:=N9 (w.drewN nq);have af:Hid (qb6 aj b aK aJ m (.slice U g i) ex al e):=by rw [<- ab];exact bi.o
  have aL:Hid (qaf aj B (.slice U g i) (mpx e L 0)):=by rw [<- ab];exact bk.o.below (below_drewN w _ nq)
  have au:Hid (Below B w aj):=by rw [<- ab];exact below_drewN w _ nq
  have a1:Hid (Fr w b (.slice U g i) aj):=Fr.of_below (by rw [<- ab];exact below_drewN w _ nq);rw [ab];clear bi bk ab aB aA ax ay av az aw ar;obtain ⟨aB,aA,ax,ay,av,az,aw,ar⟩:=af.o.cells;go_wp2
  go_loopw [30,3] (fun aS bp wr=>∃ c:Nat,c<=g/\aS=.int .i64 c/\bp=.bool (qiH e (L.take c))/\Hid (qb6 wr b aK aJ m (.slice U g i) ex al e)/\Hid (qaf wr B (.slice U g i) (mpx e L c))/\Hid (Below B w wr)/\Hid (Fr w b (.slice U g i) wr)) (fun aS _ _=>g - (intOf aS).toNat)
  case atStart=>exact ⟨0,Qu _,rfl,rfl,af.o,aL.o,au.o,a1.o⟩
  case round=>
   clear af aL au a1;obtain ⟨c,bP,rfl,rfl,ag,aD,aT,aY⟩:=hrel;by_cases ai:c<g
   ·have ao:c<L.length:=by rw [ad.o];exact ai
    have A:(mpx e L c).length=g:=(by rw [qdT];exact ad.o);obtain ⟨d,bI,V,bT,⟨bN,a9⟩,Z,aX⟩:=aD.o.form (by omega);rw [A] at V;cases V;have aQ:d≠b:=ag.o.apart a9;clear a9;obtain ⟨K,O,T⟩:=Z c (by rw [A];exact ai);rw [qmi e L c ao] at K O T;obtain ⟨⟨y,n,q⟩,aH⟩:=N9 (L[c]);have a3:=J9 aH;rw [aH] at K O T;simp only at K O T;obtain ⟨aB,aA,ax,ay,av,az,aw,ar⟩:=ag.o.cells;have a7:d<wr.heap.size:=Qq wr _ K;have a6:b<wr.heap.size:=ag.o.lt;have W:=qiL e L c ao;rw [aH] at W;obtain ⟨bm,a8⟩:=N9 (qiH e (L.take c));rw [a8] at W |-;have W:=J9 W;clear Z aH A a8
    go_upto_region 7 with fail
    obtain ⟨j,ae⟩:=N9 (wr.heap.size);obtain ⟨M,ak⟩:=N9 ((wr.alloc (.cells #[.int .i64 y,.int .i64 n,.int .i64 q] 56)).drew);have ap:Below wr.heap.size wr M:=(by rw [<- ak];exact (B0).drew);have aa:=J9 (ag.o.all ap);have aM:=J9 (aD.o.below ap);have an:=J9 (aT.o.trans (ap.mono (by omega)));have a4:Hid (Fr w b (.slice (some ⟨d,0,none⟩) g i) M):=aY.o.below ap;have aq:M.heap[j]?=some (.cells #[.int .i64 y,.int .i64 n,.int .i64 q] 56 (0,0)):=(by rw [<- ak,<- ae];exact World.alloc_heap_new wr _);have bR:d<j:=(by rw [<- ae];exact a7);have bV:b<j:=(by rw [<- ae];exact a6);have aR:=J9 aq;have be:Hid (M.cell? ⟨b,3,none⟩=some (.slice (some ⟨d,0,none⟩) g i)/\M.cell? ⟨j,0,none⟩=some (.int .i64 y)/\M.cell? ⟨j,1,none⟩=some (.int .i64 n)/\M.cell? ⟨j,2,none⟩=some (.int .i64 q)):=⟨aa.o.cells.2.2.2.1,C9 aq 0,C9 aq 1,C9 aq 2⟩;refine Mixed.qAQ (fun ac=>ac.cell? ⟨b,3,none⟩=some (.slice (some ⟨d,0,none⟩) g i)/\ac.cell? ⟨j,0,none⟩=some (.int .i64 y)/\ac.cell? ⟨j,1,none⟩=some (.int .i64 n)/\ac.cell? ⟨j,2,none⟩=some (.int .i64 q)) 10 [(0,true),(1,true),(2,true),(3,true),(4,true),(5,true),(6,true),(7,true),(8,true),(9,false)] (by kernel_rfl) (by kernel_rfl) (by rw [ak];exact be.o) ?_;rw [ak];clear ag aD aT aY ap ak aB aA ax ay av az aw ar K O T aX be aq a7 a6;refine Mixed.qAT rfl (by kernel_rfl) _ rfl _ rfl ?_;refine Mixed.mo rfl (.pointer (some ⟨b,0,none⟩)) (fun w h=>by go_simp;try rfl) ?_;refine Mixed.mo rfl (.pointer (some ⟨b,0,none⟩)) (fun w h=>by go_simp;try rfl) ?_;refine Mixed.mo rfl (.pointer (some ⟨b,2,none⟩)) (fun w h=>by go_simp;try rfl) ?_;refine Mixed.mo rfl (.pointer (some ⟨b,3,none⟩)) (fun w h=>by go_simp;try rfl) ?_;refine Mixed.mo rfl (.slice (some ⟨d,0,none⟩) g i) (fun w h=>by obtain ⟨bj,-⟩:=h;go_simp;try rfl) ?_;refine Mixed.mo rfl (.int .i64 c) (fun w h=>by go_simp;try rfl) ?_;refine Mixed.mo rfl (.pointer (some ⟨b,0,none⟩)) (fun w h=>by go_simp;try rfl) ?_;refine Mixed.mo rfl (.agg #[.int .i64 y,.int .i64 n,.int .i64 q]) (fun w h=>by obtain ⟨-,bj,bH,bK⟩:=h;subst ae;go_simp;try rfl) ?_;refine Mixed.qAR rfl (by kernel_rfl) ?_;have aC:=qpr b e bF.o (y,n,q) M aa.o.cells.2.2.2.2.2.2.1;obtain ⟨⟨E,J,G⟩,aO⟩:=N9 (opX e (y,n,q));have aZ:=J9 aO;rw [aO] at aC;simp only [trV] at aC;clear aO
    go_wp2_with fail
    refine aC.mono ?_;rintro bt z ⟨rfl,ah⟩;have aW:=J9 (aa.o.all ah);have aP:=J9 (aM.o.below ah);have a5:Hid (Below B w z):=an.o.trans (ah.mono (by have:=aa.o.lt;omega));have bg:Hid (Fr w b (.slice (some ⟨d,0,none⟩) g i) z):=a4.o.below ah;have am:=J9 ((ah.block j (Qb.1 aR.o).1).trans aR.o);have aI:z.cell? ⟨b,3,none⟩=some (.slice (some ⟨d,0,none⟩) g i)/\z.cell? ⟨j,0,none⟩=some (.int .i64 y)/\z.cell? ⟨j,1,none⟩=some (.int .i64 n)/\z.cell? ⟨j,2,none⟩=some (.int .i64 q):=⟨aW.o.cells.2.2.2.1,C9 am.o 0,C9 am.o 1,C9 am.o 2⟩;clear ah aC aa aM an a4 aR;go_wp2;refine ⟨aI,?_⟩;clear aI;simp only [Mixed.qAU,Qr,Qx];have A:(mpx e L c).length=g:=(by rw [qdT];exact ad.o);obtain ⟨bx,bv,V,-,-,Z,aX⟩:=aP.o.form (by omega);rw [A] at V;cases V;obtain ⟨K,O,T⟩:=Z c (by rw [A];exact ai);rw [qmi e L c ao] at K O T;have aG:Hid (qaf (((z.setCell ⟨d,c*3,none⟩ (.int .i64 E)).setCell ⟨d,c*3+1,none⟩ (.int .i64 J)).setCell ⟨d,c*3+2,none⟩ (.int .i64 G)) B (.slice (some ⟨d,0,none⟩) g i) (mpx e L (c+1))):=by
     have h:=aP.o.put3 A c ai (E,J,G);rw [qh4 e L c ao,a3.o,aZ.o];exact h
    have aE:Hid (qb6 (((z.setCell ⟨d,c*3,none⟩ (.int .i64 E)).setCell ⟨d,c*3+1,none⟩ (.int .i64 J)).setCell ⟨d,c*3+2,none⟩ (.int .i64 G)) b aK aJ m (.slice (some ⟨d,0,none⟩) g i) ex al e):=((aW.o.other aQ.symm _ _).other aQ.symm _ _).other aQ.symm _ _;have aV:Hid (Below B w (((z.setCell ⟨d,c*3,none⟩ (.int .i64 E)).setCell ⟨d,c*3+1,none⟩ (.int .i64 J)).setCell ⟨d,c*3+2,none⟩ (.int .i64 G))):=
     ((a5.o.setCell (p:=⟨d,c*3,none⟩) (by simp;omega) _).setCell (p:=⟨d,c*3+1,none⟩) (by simp;omega) _).setCell (p:=⟨d,c*3+2,none⟩) (by simp;omega) _
    have aN:Hid (Fr w b (.slice (some ⟨d,0,none⟩) g i) (((z.setCell ⟨d,c*3,none⟩ (.int .i64 E)).setCell ⟨d,c*3+1,none⟩ (.int .i64 J)).setCell ⟨d,c*3+2,none⟩ (.int .i64 G))):=((bg.o.set (p:=⟨d,c*3,none⟩) (.inr rfl) _).set (p:=⟨d,c*3+1,none⟩) (.inr rfl) _).set (p:=⟨d,c*3+2,none⟩) (.inr rfl) _;have aF:Hid ((((z.setCell ⟨d,c*3,none⟩ (.int .i64 E)).setCell ⟨d,c*3+1,none⟩ (.int .i64 J)).setCell ⟨d,c*3+2,none⟩ (.int .i64 G)).heap[j]?=some (.cells #[.int .i64 y,.int .i64 n,.int .i64 q] 56 (0,0))):=
     (heap_setCell_other _ ⟨d,c*3+2,none⟩ j _ (by simp;omega)).trans ((heap_setCell_other _ ⟨d,c*3+1,none⟩ j _ (by simp;omega)).trans ((heap_setCell_other _ ⟨d,c*3,none⟩ j _ (by simp;omega)).trans am.o))
    clear Z A;simp only [trV]
    go_upto_region 8 with fail
    obtain ⟨bU,bh⟩:=N9 (((z.setCell ⟨d,c*3,none⟩ (.int .i64 E)).setCell ⟨d,c*3+1,none⟩ (.int .i64 J)).setCell ⟨d,c*3+2,none⟩ (.int .i64 G));rw [bh] at aG aE aV aF aN |-;clear bh K O T aX aP aW a5 am bg;have A:(mpx e L (c+1)).length=g:=(by rw [qdT];exact ad.o);obtain ⟨bx,bv,V,-,-,Z,-⟩:=aG.o.form (by omega);rw [A] at V;cases V;obtain ⟨K,O,T⟩:=Z c (by rw [A];exact ai);rw [qpx e L c ao,a3.o,aZ.o] at K O T;simp only at K O T;obtain ⟨aB,aA,ax,ay,av,az,aw,ar⟩:=aE.o.cells;have bX:=C9 aF.o 0;have bM:=C9 aF.o 1;have bY:=C9 aF.o 2;have br:∀ w,(binOp .neq 56 (.agg #[.int .i64 E,.int .i64 J,.int .i64 G]) (.agg #[.int .i64 y,.int .i64 n,.int .i64 q])).run prog w=.ok (.bool (!decide ((E,J,G)=(y,n,q)))) w:=(fun w=>qq3 (E,J,G) (y,n,q) w);rw [aZ.o] at W;obtain ⟨bq,bd⟩:=N9 ((!decide ((E,J,G)=(y,n,q))));rw [bd] at br W;clear Z A bd;have bO:=ai;cases bm
    ·have aU:Hid (qiH e (L.take (c+1))=bq):=W.o
     go_wp2
     go_quiet (fail)
     go_wp2;go_roundw
     case rel=>exact ⟨c+1,by omega,by go_num,by rw [aU.o],aE.o.all (below_drewN _ _ _),aG.o.below (below_drewN _ _ _),aV.o.trans (below_drewN _ _ _),aN.o.below (below_drewN _ _ _)⟩
     case measure=>simp [intOf];omega
    ·have aU:Hid (qiH e (L.take (c+1))=true):=W.o
     go_wp2
     go_quiet (fail)
     go_wp2;go_roundw
     case rel=>exact ⟨c+1,by omega,by go_num,by rw [aU.o],aE.o.all (below_drewN _ _ _),aG.o.below (below_drewN _ _ _),aV.o.trans (below_drewN _ _ _),aN.o.below (below_drewN _ _ _)⟩
     case measure=>simp [intOf];omega
   ·obtain rfl:c=g:=by omega
    have bu:Hid (qiH e (L.take c)=qcZ m e L):=by
     show qiH e (L.take c)=qcZ m e L;rw [a0.o,<- ad.o,Zt]
    have bz:Hid (qaf wr B (.slice U c i) (L.map (opX e))):=by
     have h:=aD.o;rw [<- ad.o,qpi] at h;rw [<- ad.o];exact h
    go_wp2;go_ret;exact ⟨qab bu.o,ag.o,fun _=>bz.o,aT.o,aY.o⟩
def qbP (m:Str) (h:Int) (L:List Tr) (ex:Str):Option (List Tr×Str):=
 if qgX m L then some (qmf h L,100 :: ex) else if qcZ m h L then some (L.map (opX h),ex) else none
theorem qm1 (w:World) (q h E:Int) (m ex:Str) (v:Value) (al:Bool):∃ z,((w.alloc (.cells #[.int .i64 q,.int .u8 h,.string (sB m),v,.string (sB ex),.bool al] 88)).alloc (.cells #[.int .i64 0,.int .u8 0,.string ⟨#[]⟩,.slice none 0 0,.string ⟨#[]⟩,.bool false] 88)).alloc (.cells #[.int .i64 q,.int .u8 h,.string (sB m),v,.string (sB ex),.bool al,.int .i64 E] 265)=z/\
  qbl z (w.heap.size+1) 0 0 [] (.slice none 0 0) [] false/\qb6 z (w.heap.size+1+1) q h m v ex al E/\Below w.heap.size w z:=by
 refine ⟨_,rfl,(Below.heap_alloc _ _ _ (by simp)).trans ?_,?_,(((B0 (w:=w))).alloc (by simp) _).alloc (by simp;omega) _⟩
 ·have y:=World.alloc_heap_new (w.alloc (.cells #[.int .i64 q,.int .u8 h,.string (sB m),v,.string (sB ex),.bool al] 88)) (.cells #[.int .i64 0,.int .u8 0,.string ⟨#[]⟩,.slice none 0 0,.string ⟨#[]⟩,.bool false] 88)
  rw [QB] at y;exact y
 ·have y:=World.alloc_heap_new ((w.alloc (.cells #[.int .i64 q,.int .u8 h,.string (sB m),v,.string (sB ex),.bool al] 88)).alloc (.cells #[.int .i64 0,.int .u8 0,.string ⟨#[]⟩,.slice none 0 0,.string ⟨#[]⟩,.bool false] 88)) (.cells #[.int .i64 q,.int .u8 h,.string (sB m),v,.string (sB ex),.bool al,.int .i64 E] 265)
  rw [QB,QB] at y;exact y
theorem qbC {w:World} {B:Nat} {v:Value} {L:List Tr} (y:qaf w B v L) {g:Nat} (q:v.ownBlock=some g):∃ h,w.heap[g]?=some (.cells h 56 (0,0)):=by
 rcases y.2 with ⟨rfl,_⟩ | ⟨E,G,h,rfl,_,z,_⟩
 ·cases q
 ·cases q
  exact ⟨h,z⟩
def quU (w:World) (B:Nat) (y q:Int) (m:Str) (v:Value) (al:Bool) (x:Option (List Tr×Str)) (e:Ending) (w':World):Prop:=
 (match x with
  | some h=>e=.returned (.tuple #[enV y q m v h.2 al,.bool true])/\qaf w' B v h.1
  | none=>e=.returned (.tuple #[enV 0 0 [] (.slice none 0 0) [] false,.bool false]))/\Below B w w'
theorem qbY {w w':World} {b B:Nat} {T M:Int} {m ex:Str} {v u:Value} {al:Bool} {L:List Tr} (J:qbl w b T M m v ex al) (q:qaf w B u L) (k:∀ k,k≠b->w'.heap[k]?=w.heap[k]?):qaf w' B u L:=by
 have K:∀ e g,w.heap[e]?=some (.cells g 56 (0,0))->e≠b:=fun e g h z=>by
  subst z;rw [show w.heap[e]?=_ from J] at h;simp at h
 refine ⟨q.1,?_⟩;rcases q.2 with V | ⟨e,E,g,U,O,y,G⟩
 ·exact .inl V
 ·exact .inr ⟨e,E,g,U,O,(k e (K e g y)).trans y,G⟩
theorem qzY (a b:Bool):a=true\/(a=false/\b=true)\/(a=false/\b=false):=by cases a <;> cases b <;> simp
theorem qmh (B:Nat) (u q:Int) (m:Str) (v:Value) (ex:Str) (al:Bool) (e:Int) (aV:e=5\/e=6) (L:List Tr) (aw:L.length<=100) (aD:ex.length<=1000) (w:World)
  (aB:qaf w B v L) (aM:B<=w.heap.size):Calls prog 218 #[enV u q m v ex al,.int .i64 e] w (quU w B u q m v al (qbP m e L ex)):=by
 unfold enV;obtain ⟨K,A,rfl,-,-⟩:=aB.ops;obtain ⟨E,a1⟩:=N9 (w.heap.size);obtain ⟨au,aW,R1,T,M⟩:=qm1 w u q e m ex (.slice K L.length A) al;have az:=J9 (aB.below M);rw [a1] at R1 T M aM;have aP:=qgZ (E+1+1) B u q m _ ex al e L aw aD au T az.o (by omega);have R1:=J9 R1;have T:=J9 T;have M:Hid (Below B w au):=M.mono aM;have G:=fun O (k:qb6 O (E+1+1) u q m (.slice K L.length A) ex al e) a6=>qnJ (E+1+1) B u q m _ ex al e aV L aw O k a6 (by omega)
 have G:=J9 G;clear aB aw aD;have a3:Hid (E+1<au.heap.size):=by have:=T.o.lt;show _<_;omega
 go_enter func218,ntmps218
 go_wp2_with fail
 refine aP.mono ?_;rintro aH O ⟨rfl,h,n,aT,y⟩;have ao:=J9 (M.o.trans aT);have aa:∀ (aC:World),Fr au (E+1+1) (.slice K L.length A) aC->qbl aC (E+1) 0 0 [] (.slice none 0 0) [] false:=fun aC aS=>by
  refine (aS.same (E+1) a3.o (by omega) ?_).trans R1.o;intro aU;obtain ⟨a7,a4⟩:=qbC az.o aU;have ax:=R1.o;unfold qbl at ax;rw [a4] at ax;simp at ax
 have R2:=J9 (aa O y);have aa:=J9 aa;have y:=J9 y;clear aP aW T az M R1;rcases qzY (qgX m L) (qcZ m e L) with k | ⟨k,z⟩ | ⟨k,z⟩
 ·have ab:Hid (qbP m e L ex=some (qmf e L,100 :: ex)):=by show qbP m e L ex=_;unfold qbP;rw [Qi k]
  rw [k] at h n |-;rw [Qi rfl] at h n;have h:=J9 h;have n:=J9 n;clear k G;obtain ⟨a5,a2,aY,aZ,aR,a0,aX,aQ⟩:=h.o.cells;obtain ⟨aF,aE,aO,aK,aJ,aL,aI⟩:=R2.o.cells;go_wp2;obtain ⟨aN,U,ac,ae,aG,-,av⟩:=R2.o.put u q m (.slice K L.length A) (100 :: ex) al;rw [U];obtain ⟨Z,ah,ad,ak,ar,ap,-⟩:=ac.cells;refine bodyPost_ret (v:=.tuple #[enV u q m (.slice K L.length A) (100 :: ex) al,.bool true]) ?_ rfl ?_
  ·simp [results,results218,go_sem,Z,ah,ad,ak,ar,ap,enV]
  ·rw [ab.o]
   exact ⟨⟨rfl,qbY R2.o n.o av⟩,ao.o.trans (ae.mono (by omega))⟩
 ·have ab:Hid (qbP m e L ex=some (L.map (opX e),ex)):=by show qbP m e L ex=_;unfold qbP;rw [Qe (by rw [k];decide),Qi z]
  rw [k] at h n |-;rw [Qe (by decide)] at h n;have ai:=G.o O h n;have h:=J9 h
  go_wp2_with fail
  refine ai.mono ?_;rintro aH ay ⟨rfl,af,aq,aj,J⟩;have aq:=aq z;have V:=J9 (aa.o ay ⟨Qj y.o.size J.size,fun ag am W an=>(J.same ag (Zk am y.o.size) W an).trans (y.o.same ag am W an)⟩);have aA:=J9 (ao.o.trans aj);rw [z];have af:=J9 af;have aq:=J9 aq;clear k z G ai h n R2 ao aj J;obtain ⟨a5,a2,aY,aZ,aR,a0,aX,aQ⟩:=af.o.cells;obtain ⟨aF,aE,aO,aK,aJ,aL,aI⟩:=V.o.cells;go_wp2;obtain ⟨aN,U,ac,ae,aG,-,av⟩:=V.o.put u q m (.slice K L.length A) ex al;rw [U];obtain ⟨Z,ah,ad,ak,ar,ap,-⟩:=ac.cells;refine bodyPost_ret (v:=.tuple #[enV u q m (.slice K L.length A) ex al,.bool true]) ?_ rfl ?_
  ·simp [results,results218,go_sem,Z,ah,ad,ak,ar,ap,enV]
  ·rw [ab.o]
   exact ⟨⟨rfl,qbY V.o aq.o av⟩,aA.o.trans (ae.mono (by omega))⟩
 ·have ab:Hid (qbP m e L ex=none):=by show qbP m e L ex=_;unfold qbP;rw [Qe (by rw [k];decide),Qe (by rw [z];decide)]
  rw [k] at h n |-;rw [Qe (by decide)] at h n;have ai:=G.o O h n
  go_wp2_with fail
  refine ai.mono ?_;rintro aH ay ⟨rfl,af,-,aj,J⟩;have V:=J9 (aa.o ay ⟨Qj y.o.size J.size,fun ag am W an=>(J.same ag (Zk am y.o.size) W an).trans (y.o.same ag am W an)⟩);have aA:=J9 (ao.o.trans aj);rw [z];clear k z G ai h n R2 ao aj J af;obtain ⟨aF,aE,aO,aK,aJ,aL,aI⟩:=V.o.cells;go_wp2;obtain ⟨aN,U,ac,ae,aG,-,av⟩:=V.o.put 0 0 [] (.slice none 0 0) [] false;rw [show sB []=(⟨#[]⟩:ByteArray) from rfl] at U;rw [U];obtain ⟨Z,ah,ad,ak,ar,ap,-⟩:=ac.cells;refine bodyPost_ret (v:=.tuple #[enV 0 0 [] (.slice none 0 0) [] false,.bool false]) ?_ rfl ?_
  ·simp [results,results218,go_sem,Z,ah,ad,ak,ar,ap,enV]
  ·rw [ab.o]
   exact ⟨rfl,aA.o.trans (ae.mono (by omega))⟩
theorem qkP {wr:World} {base:Nat} {v:Value} {xs:List Tr} (R:qaf wr base v xs) (ae:base<=wr.heap.size) {ops:Array Oper} {rest:List Oper} {o:Oper} {a:Act} {Q:Exit->Act->World->Prop} (W:o.guard=none) (s x:Operand)
  (ag:o.op=.call {callee:=.builtin .append,args:=#[s,x],argTypes:=#[22,22]}) (T:a.eval s=v) (G:Nat) (aa:G=wr.heap.size) (ai:a.eval x=.slice (some ⟨G,0,none⟩) 1 1)
  (h:Tr) (k:Nat) (z:xs.length=k) (ak:k<10000)
  (U:∀ u q w1,qaf w1 base (.slice u (k+1) q) (xs++[h])->(wr.alloc (.cells #[.int .i64 h.1,.int .i64 h.2.1,.int .i64 h.2.2] 56)).grownBy w1 v.ownBlock->Below base wr w1->wpList prog ops Q rest (a.put o.dst (.slice u (k+1) q)) w1):wpList prog ops Q (o :: rest) a (wr.alloc (.cells #[.int .i64 h.1,.int .i64 h.2.1,.int .i64 h.2.2] 56)):=by
 subst aa;obtain ⟨M,ac,ab,ad,Z⟩:=info_parts qdy;have O:Below base wr (wr.alloc (.cells #[.int .i64 h.1,.int .i64 h.2.1,.int .i64 h.2.2] 56)):=(Qc base wr).alloc ae _;have J:=World.ownsRow.alloc R (.cells #[.int .i64 h.1,.int .i64 h.2.1,.int .i64 h.2.2] 56);refine wpList_append_own _ W s x 22 ag base 56 M (.agg #[.int .i64 0,.int .i64 0,.int .i64 0]) 3 24 underlying22 ac ab ad Z rfl (by decide) v xs.length _ T J ⟨wr.heap.size,0,none⟩ 1 1 [.int .i64 h.1,.int .i64 h.2.1,.int .i64 h.2.2] ai rfl ?_ ?_ ?_ ?_ ?_ ?_
 ·intro af aj j
  match af,j with
  | 0,j=>simp at j;subst j;simp [Addr.add,go_sem]
  | 1,j=>simp at j;subst j;simp [Addr.add,go_sem]
  | 2,j=>simp at j;subst j;simp [Addr.add,go_sem]
 ·intro aj K
  simp at K;rcases K with rfl | rfl | rfl <;> rfl
 ·unfold maxLen;omega
 ·omega
 ·simp;omega
 ·intro ah w1 V E _
  have y:qaf w1 base ah (xs++[h]):=by
   unfold qaf;rw [Qk,qcu];exact V
  obtain ⟨u,q,rfl,-,-⟩:=y.ops;rw [Qk,z] at y |-;exact U u q w1 y E (O.grown E (by simp;omega) fun k z=>(J.lt k z).1)
def op6 (h:Int):Int:=bits .or .u8 (bits .andNot .u8 h 7) 6
def qbE (p:Pat) (E q z:Int):En:=
 let h:=qae p E (op6 q);let y:=if qgX h.1 h.2.1 then qmf z h.2.1 else h.2.1
 let x:=if qgX h.1 h.2.1 then 100 :: h.2.2.1 else h.2.2.1
 if qbe p.1 q 115=6 then (h.1,y,x,h.2.2.2) else if h.1=[66,73,84] then (h.1,y,x,true) else (h.1,y++[(1,qbe p.1 q 115,0)],x,h.2.2.2)
theorem qte {e z:World} {b n B:Nat} {M K E:Int} {m ex:Str} {v:Value} {al:Bool} {L:List Tr} {o:Obj} (X:qb6 e b M K m v ex al E) (R:qbl e n 0 0 [] (.slice none 0 0) [] false) (J:qaf e B v L)
  (G:(e.alloc o).grownBy z v.ownBlock):qb6 z b M K m v ex al E/\qbl z n 0 0 [] (.slice none 0 0) [] false:=by
 have O:Below e.heap.size e (e.alloc o):=B0;constructor
 ·refine (G.block b (by have:=X.lt;simp;omega) ?_).trans (X.all O)
  intro h;obtain ⟨T,y⟩:=qbC J h.symm;exact X.apart y rfl
 ·refine (G.block n (by have:=R.lt;simp;omega) ?_).trans (R.all O)
  intro h;obtain ⟨T,y⟩:=qbC J h.symm;have q:=R;unfold qbl at q;rw [y] at q;simp at q
theorem qby (w:World) (p:Pat) (q:Int):∃ h,(w.alloc (.cells #[.string (sB p.1),.string (sB p.2),.int .u8 q] 221)).alloc (.cells #[.int .i64 0,.int .u8 0,.string ⟨#[]⟩,.slice none 0 0,.string ⟨#[]⟩,.bool false] 88)=h/\
  h.heap[w.heap.size]?=some (.cells #[.string (sB p.1),.string (sB p.2),.int .u8 q] 221 (0,0))/\qbl h (w.heap.size+1) 0 0 [] (.slice none 0 0) [] false/\Below w.heap.size w h/\h.heap.size=w.heap.size+2:=by
 refine ⟨_,rfl,(Below.heap_alloc _ _ _ (by simp)).trans (World.alloc_heap_new w _),?_,((B0 (w:=w))).alloc (by simp) _,by simp⟩;have y:=World.alloc_heap_new (w.alloc (.cells #[.string (sB p.1),.string (sB p.2),.int .u8 q] 221)) (.cells #[.int .i64 0,.int .u8 0,.string ⟨#[]⟩,.slice none 0 0,.string ⟨#[]⟩,.bool false] 88);rw [QB] at y;exact y
theorem qfF (p:Pat) (k b z:Int) (cl:p.1.length=8) (cn:0<=b) (aB:b<=255) (bj:Good p (op6 b)) (aK:(qae p k (op6 b)).2.1.length<=100) (aX:(qae p k (op6 b)).2.2.1.length<=1000) (w:World) (a3:qad w) :
  Calls prog 220 #[qag p b,.int .i64 k,.int .i64 z] w (qyU w k b (qbE p k b z)):=by
 unfold qag;obtain ⟨bt,cg,ad,a6,B0,bu⟩:=qby w p b;obtain ⟨n,a8⟩:=N9 (w.heap.size);rw [a8] at ad a6 B0 bu;have bN:0 < n:=by rw [<- a8];exact a3.lt
 have bD:qad bt:=a3.qA6 (n:=n) B0 bN;have a4:=qaU p.1 p.2 cl b cn aB 115 bt;have ax:=C9 ad 0;have am:=C9 ad 1;have aA:=C9 ad 2;have aj:=J9 a8;have bx:=J9 bj;obtain ⟨⟨h,r,aC,y⟩,bg⟩:=N9 (qae p k (op6 b));have aJ:=J9 bg;rw [bg] at aK aX;simp only at aK aX;obtain ⟨G,bf⟩:=N9 (qbe p.1 b 115);rw [bf] at a4;have HR:=J9 bf;clear bf bg bj a3
 go_enter func220,ntmps220
 go_wp2_with fail
 refine a4.mono ?_;rintro a5 u ⟨rfl,af⟩;have ac:=(af.block n (by omega)).trans ad;have R1:qbl u (n+1) 0 0 [] (.slice none 0 0) [] false:=a6.below af (by omega);have bo:=B0.trans (af.mono (by omega));have bs:n+2<=u.heap.size:=by have:=af.size;omega
 have bv:qad u:=bD.below af;clear af a4 ax am aA ad a6 B0 bu bD cg;have ax:=C9 ac 0;have am:=C9 ac 1;have aA:=C9 ac 2;have cw:=Qp ac;have bW:(u.setCell ⟨n,2,none⟩ (.int .u8 (op6 b))).heap[n]?=some (.cells #[.string (sB p.1),.string (sB p.2),.int .u8 (op6 b)] 221 (0,0)):=heap_setCell_same u n 2 _ _ _ ac;have R2:qbl (u.setCell ⟨n,2,none⟩ (.int .u8 (op6 b))) (n+1) 0 0 [] (.slice none 0 0) [] false:=R1.qBd (by omega) _;have bI:Below n w (u.setCell ⟨n,2,none⟩ (.int .u8 (op6 b))):=bo.setCell (p:=⟨n,2,none⟩) (Qa _) _;have bQ:n+2<=(u.setCell ⟨n,2,none⟩ (.int .u8 (op6 b))).heap.size:=by simpa using bs
 have bm:qad (u.setCell ⟨n,2,none⟩ (.int .u8 (op6 b))):=bv.qA6 ((Qc n u).setCell (p:=⟨n,2,none⟩) (Qa _) _) bN;have J:=J9 (Zb bW (Zb R2 (Zb bI (Zb bQ bm))));clear ac R1 bo bs bv bW R2 bI bQ bm
 go_upto_region 4 with fail
 rw [show bits .or .u8 (bits .andNot .u8 b 7) 6=op6 b from rfl];obtain ⟨bH,bb⟩:=N9 (op6 b);have ca:=J9 bb;rw [bb] at J bx aJ |-;obtain ⟨bq,bl⟩:=N9 (u.setCell ⟨n,2,none⟩ (.int .u8 bH));rw [bl] at J |-;clear bl ax am aA cw bb u;have ax:=C9 J.o.1 0;have am:=C9 J.o.1 1;have aA:=C9 J.o.1 2;have aU:=qdm p k bH bx.o bq J.o.2.2.2.2;rw [aJ.o] at aU;simp only [qag] at aU
 go_wp2_with fail
 refine aU.mono ?_;rintro a5 ag ⟨v,rfl,aW,ay⟩;simp only [enV];obtain ⟨o,m,rfl,-,-⟩:=aW.ops;obtain ⟨K,bc⟩:=N9 (bq.heap.size);rw [bc] at aW ay;have cu:n+2<=K:=by rw [<- bc];exact J.o.2.2.2.1
 have b4:=J9 (J.o.2.1.below ay (by omega));have bP:=J9 (J.o.2.2.1.trans (ay.mono (by omega)));have ck:K<=ag.heap.size:=by have:=ay.size;omega
 obtain ⟨g,ch⟩:=N9 (ag.heap.size);obtain ⟨aw,a0⟩:=N9 (ag.alloc (.cells #[.int .i64 k,.int .u8 b,.string (sB h),.slice o r.length m,.string (sB aC),.bool y,.int .i64 z] 265));have bV:qb6 aw g k b h (.slice o r.length m) aC y z:=by rw [<- a0,<- ch];exact World.alloc_heap_new ag _
 have aV:Below ag.heap.size ag aw:=by rw [<- a0];exact B0
 have a1:qaf aw K (.slice o r.length m) r:=aW.below aV;have aM:=J9 (b4.o.all aV);have bk:=J9 (bP.o.trans (aV.mono (by omega)));have bT:=qgZ g K k b h _ aC y z r aK aX aw bV a1 (by omega);have aG:=J9 (show K<=g by omega);have aI:∀ (bh:World),Fr aw g (.slice o r.length m) bh->qbl bh (n+1) 0 0 [] (.slice none 0 0) [] false:=fun bh ce=>by
  refine (ce.same (n+1) aM.o.lt (by have:=aG.o;omega) ?_).trans aM.o;intro av;obtain ⟨bF,cr⟩:=qbC a1 av;have U:=aM.o;unfold qbl at U;rw [cr] at U;simp at U
 have aI:=J9 aI;have V:=J9 cu;clear aU ay aW b4 bP ck aV a1 bV ax am aA bc
 go_wp2_with fail
 refine bT.mono ?_;rintro a5 ab ⟨rfl,B,E,b1,bn⟩;have ae:=J9 (aI.o ab bn);have aT:Hid (Below n w ab):=bk.o.trans (b1.mono (by have:=V.o;omega));clear a0 bT b1 aI aM bk bn;obtain ⟨A,aO⟩:=N9 ((if qgX h r then qmf z r else r));obtain ⟨q,a9⟩:=N9 ((if qgX h r then 100 :: aC else aC));have aZ:A.length=r.length:=by rw [<- aO];split;exact qmO _ _;rfl
 rw [aO] at E;rw [a9] at B;have bd:Hid (qbE p k b z=if G=6 then (h,A,q,y) else if h=[66,73,84] then (h,A,q,true) else (h,A++[(1,G,0)],q,y)):=by
  show qbE p k b z=_;unfold qbE;rw [ca.o,aJ.o];simp only;rw [HR.o,aO,a9]
 rw [<- aZ] at B E;obtain ⟨e,aR⟩:=N9 (A.length);have bA:r.length=e:=aZ.symm.trans aR;have cy:e<=100:=by omega
 rw [aR] at B E;have cf:=J9 aR;rw [bA];have B:=J9 B;have E:=J9 E;clear aO a9 aZ aR bA aK aX aJ;obtain ⟨b2,bU,bM,bR,bp,bS,bJ,bi⟩:=B.o.cells;obtain ⟨bE,bB,b5,bY,bL,bZ,bK⟩:=ae.o.cells;have b7:g≠n+1:=by have aB:=aG.o;have al:=V.o;omega
 by_cases aa:G=6
 ·have M:Hid (qbE p k b z=(h,A,q,y)):=by show _=_;rw [bd.o,Qi aa]
  subst aa;go_wp2;obtain ⟨b3,aF,ao,aq,bG,-,aE⟩:=ae.o.put k b h (.slice o e m) q y;rw [aF];obtain ⟨an,ar,ap,az,aH,aD,-⟩:=ao.cells;refine bodyPost_ret (v:=enV k b h (.slice o e m) q y) ?_ rfl ?_
  ·simp [results,results220,go_sem,an,ar,ap,az,aH,aD,enV]
  ·refine ⟨(.slice o e m),by rw [M.o],?_,by rw [aj.o];exact aT.o.trans (aq.mono (by omega))⟩
   rw [M.o,aj.o];exact (qbY ae.o E.o aE).lift (by have al:=V.o;omega)
 ·have cA:(G == 6)=false:=by simpa using aa
  by_cases ak:h=[66,73,84]
  ·have M:Hid (qbE p k b z=(h,A,q,true)):=by show _=_;rw [bd.o,Qe aa,Qi ak]
   have cv:((sB h).toList == [66,73,84])=true:=(by rw [qcU];exact Qn ak);clear ak aa;have aN:=J9 (B.o.qBa true);have ah:Hid (qbl (ab.setCell ⟨g,5,none⟩ (.bool true)) (n+1) 0 0 [] (.slice none 0 0) [] false):=ae.o.qBd b7.symm _;have aQ:Hid (Below n w (ab.setCell ⟨g,5,none⟩ (.bool true))):=aT.o.setCell (p:=⟨g,5,none⟩) (by have aB:=aG.o;have al:=V.o;simp;omega) _;have aP:Hid (qaf (ab.setCell ⟨g,5,none⟩ (.bool true)) K (.slice o e m) A):=qcq E.o (p:=⟨g,5,none⟩) (fun cp av=>by
    obtain ⟨bF,a7⟩:=qbC E.o av;exact B.o.apart a7) _
   go_wp2;obtain ⟨b3,aF,ao,aq,bG,-,aE⟩:=ah.o.put k b h (.slice o e m) q true;rw [aF];obtain ⟨an,ar,ap,az,aH,aD,-⟩:=ao.cells;refine bodyPost_ret (v:=enV k b h (.slice o e m) q true) ?_ rfl ?_
   ·simp [results,results220,go_sem,an,ar,ap,az,aH,aD,enV]
   ·refine ⟨(.slice o e m),by rw [M.o],?_,by rw [aj.o];exact aQ.o.trans (aq.mono (by omega))⟩
    rw [M.o,aj.o];exact (qbY ah.o aP.o aE).lift (by have al:=V.o;omega)
  ·have M:Hid (qbE p k b z=(h,A++[(1,G,0)],q,y)):=by show _=_;rw [bd.o,Qe aa,Qe ak]
   have cv:((sB h).toList == [66,73,84])=false:=(by rw [qcU];exact Qh ak);clear ak aa
   go_upto_region 7 with fail
   obtain ⟨ai,W⟩:=N9 (ab.drew);have aN:Hid (qb6 ai g k b h (.slice o e m) q y z):=(by rw [<- W];exact B.o);have aP:Hid (qaf ai K (.slice o e m) A):=(by rw [<- W];exact E.o.below (below_drewN ab _ 1));have ah:Hid (qbl ai (n+1) 0 0 [] (.slice none 0 0) [] false):=(by rw [<- W];exact ae.o);have aQ:Hid (Below n w ai):=(by rw [<- W];exact aT.o.drew);have bw:Hid (ai.cell? ⟨g,3,none⟩=some (.slice o e m)):=aN.o.cells.2.2.2.1;refine Mixed.qAQ (fun cj=>cj.cell? ⟨g,3,none⟩=some (.slice o e m)) 7 [(0,true),(1,true),(2,true),(3,true),(4,true),(5,false),(6,false)] (by kernel_rfl) (by kernel_rfl) (by rw [W];exact bw.o) ?_;rw [W];clear B E ae aT bw W b2 bU bM bR bp bS bJ bi bE bB b5 bY bL bZ bK;refine Mixed.mo rfl (.pointer (some ⟨g,0,none⟩)) (fun w U=>by go_simp;try rfl) ?_;refine Mixed.mo rfl (.pointer (some ⟨g,2,none⟩)) (fun w U=>by go_simp;try rfl) ?_;refine Mixed.mo rfl (.pointer (some ⟨g,3,none⟩)) (fun w U=>by go_simp;try rfl) ?_;refine Mixed.mo rfl (.slice o e m) (fun w U=>by go_simp;try rfl) ?_;refine Mixed.mo rfl (.int .i64 G) (fun w U=>by go_simp;try rfl) ?_;refine Mixed.qAR rfl (by kernel_rfl) ?_
   go_wp2_with fail
   refine (register_any G ai).mono ?_;rintro a5 O ⟨rfl,au⟩;have aS:=J9 (aN.o.all au);have bO:=J9 (aP.o.below au);have cq:=J9 (ah.o.all au);have ci:Hid (Below n w O):=aQ.o.trans (au.mono (by have:=ah.o.lt;omega));have bC:=aS.o.cells.2.2.2.1;clear au aN aP ah aQ;go_wp2;refine ⟨bC,?_⟩;clear bC;simp only [trV];have b9:g<O.heap.size:=aS.o.lt;have ct:∀ aY,(O.alloc aY).cell? ⟨g,3,none⟩=some (.slice o e m):=(fun aY=>(((Qc O.heap.size O).alloc (Qa _) aY).cell b9).trans aS.o.cells.2.2.2.1);refine Mixed.qAR rfl (by kernel_rfl) ?_;go_wp2;refine ⟨ct _,?_⟩;simp only [Mixed.qAU,Qr,Qx];have cx:K<=O.heap.size:=(by have aB:=aG.o;omega);have cc:=J9 (fun (Z:World) (aL:(O.alloc (.cells #[.int .i64 1,.int .i64 G,.int .i64 0] 56)).grownBy Z (Value.slice o e m).ownBlock)=>qte aS.o cq.o bO.o aL)
   go_wp2_with (at_builtin;refine qkP bO.o cx rfl _ _ rfl rfl O.heap.size rfl rfl (1,G,0) e cf.o (by omega) ?_;intro T L Z b0 aL b6;obtain ⟨be,a2⟩:=cc.o Z aL;have bz:=J9 be;have b8:=J9 a2;have bX:=J9 b0;have cd:Hid (Below n w Z):=ci.o.trans (b6.mono (by have al:=V.o;omega));obtain ⟨b2,bU,bM,bR,bp,bS,bJ,bi⟩:=be.cells;obtain ⟨bE,bB,b5,bY,bL,bZ,bK⟩:=a2.cells;clear b0 aL b6 be a2)
   have cz:=J9 (bz.o.qBg (.slice T (e+1) L));have br:Hid (qbl (Z.setCell ⟨g,3,none⟩ (.slice T (e+1) L)) (n+1) 0 0 [] (.slice none 0 0) [] false):=b8.o.qBd b7.symm _;have cm:Hid (Below n w (Z.setCell ⟨g,3,none⟩ (.slice T (e+1) L))):=cd.o.setCell (p:=⟨g,3,none⟩) (by have aB:=aG.o;have al:=V.o;simp;omega) _;have co:Hid (qaf (Z.setCell ⟨g,3,none⟩ (.slice T (e+1) L)) K (.slice T (e+1) L) (A++[(1,G,0)])):=qcq bX.o (p:=⟨g,3,none⟩) (fun cp av=>by
    obtain ⟨bF,a7⟩:=qbC bX.o av;exact bz.o.apart a7) _
   obtain ⟨b3,aF,ao,aq,bG,-,aE⟩:=br.o.put k b h (.slice T (e+1) L) q y;rw [aF];obtain ⟨an,ar,ap,az,aH,aD,-⟩:=ao.cells;refine bodyPost_ret (v:=enV k b h (.slice T (e+1) L) q y) ?_ rfl ?_
   ·simp [results,results220,go_sem,an,ar,ap,az,aH,aD,enV]
   ·refine ⟨(.slice T (e+1) L),by rw [M.o],?_,by rw [aj.o];exact cm.o.trans (aq.mono (by omega))⟩
    rw [M.o,aj.o];exact (qbY br.o co.o aE).lift (by have al:=V.o;omega)
end Go.Proofs.YtecpnfhpcamljaaGreatDoor
namespace Go.Proofs.YtecpnfhpcamljaaGreatDoor
open Tryz
open Go.RowKit Go.Shelf
def qb8 (p:Pat) (h q:Int):Option En:=
 if h=3 then (qbP (qae p h q).1 5 (qae p h q).2.1 (qae p h q).2.2.1).map fun y=>((qae p h q).1,y.1,y.2,(qae p h q).2.2.2) else
 if h=4 then (qbP (qae p h q).1 6 (qae p h q).2.1 (qae p h q).2.2.1).map fun y=>((qae p h q).1,y.1,y.2,(qae p h q).2.2.2) else
 if h=5 then some (qbE p h q 5) else if h=6 then some (qbE p h q 6) else some (qae p h q)
def qdo (w:World) (v q:Int) (x:Option En) (e:Ending) (w':World):Prop:=
 (match x with
  | some x=>∃ h,e=.returned (.tuple #[enV v q x.1 h x.2.2.1 x.2.2.2,.bool true])/\qaf w' w.heap.size h x.2.1
  | none=>e=.returned (.tuple #[enV 0 0 [] (.slice none 0 0) [] false,.bool false]))/\Below w.heap.size w w'
structure Good2 (p:Pat) (op:Int):Prop where
 good:Good p op
 args:(qbH p op).length<=100
 extra:(qbj p op (qbH p op)).length<=1000
theorem Good2.qBi {p:Pat} {h:Int} (y:Good2 p h) (q:Int):(qae p q h).2.1.length<=100:=by
 show (qbK p h (qbH p h)).length<=100;unfold qbK;rw [QC];exact y.args
theorem qv7 (p:Pat) (e:Int) (A:Good2 p e) (aH:Good2 p (op6 e)) (w:World) (V:qad w):Calls prog 181 #[qag p e,.int .i64 3] w (qdo w 3 e ((qbP (qae p 3 e).1 5 (qae p 3 e).2.1 (qae p 3 e).2.2.1).map fun h=>((qae p 3 e).1,h.1,h.2,(qae p 3 e).2.2.2))):=by
 unfold qag;obtain ⟨ah,aI,y,q,B0,aG⟩:=qby w p e;obtain ⟨n,aa⟩:=N9 (w.heap.size);rw [aa] at y q B0 aG;have aA:0 < n:=by rw [<- aa];exact V.lt
 have aq:qad ah:=V.qA6 (n:=n) B0 aA;have aF:=C9 y 0;have ay:=C9 y 1;have aJ:=C9 y 2;have U:=J9 aa;have q:=J9 q;have B0:=J9 B0;have G:=qdm p 3 e A.good ah aq;have aj:=A.qBi 3;have ak:(qae p 3 e).2.2.1.length<=1000:=A.extra;obtain ⟨⟨o,m,ab,z⟩,an⟩:=N9 (qae p 3 e);have aB:=J9 an;rw [an] at aj ak G;simp only [qag] at aj ak G;clear an A aH V aq y;have W:Hid (((qbP (qae p 3 e).1 5 (qae p 3 e).2.1 (qae p 3 e).2.2.1).map fun h=>((qae p 3 e).1,h.1,h.2,(qae p 3 e).2.2.2))=(qbP o 5 m ab).map fun h=>(o,h.1,h.2,z)):=by show ((qbP (qae p 3 e).1 5 (qae p 3 e).2.1 (qae p 3 e).2.2.1).map fun h=>((qae p 3 e).1,h.1,h.2,(qae p 3 e).2.2.2))=_;rw [aB.o]
 go_enter func181,ntmps181
 go_wp2_with fail
 refine G.mono ?_;rintro az aD ⟨v,rfl,L,J⟩;simp only [enV] at L |-;obtain ⟨am,M,rfl,-,-⟩:=L.ops;have E:=qmh ah.heap.size 3 e o _ ab z 5 (by decide) m aj ak aD L J.size;have R1:=J9 (q.o.all J);have ap:=J9 (B0.o.trans (J.mono (by omega)));simp only [enV] at E;clear G J q B0 aI aF ay aJ;obtain ⟨aC,aw⟩:=N9 (qbP o 5 m ab);rw [aw] at E W
 go_wp2_with fail
 refine E.mono ?_;rintro az aO ⟨ar,T⟩;have R2:=J9 (R1.o.below T (by omega));have ao:=J9 (ap.o.trans (T.mono (by omega)));clear E aw R1 ap T;obtain ⟨aP,aL,aQ,aS,aN,aK,aM⟩:=R2.o.cells;cases aC with
 | none=>
  subst ar;simp only [enV];go_wp2;obtain ⟨aE,Z,ac,ai,ax,-,au⟩:=R2.o.put 0 0 [] (.slice none 0 0) [] false;rw [Z];obtain ⟨O,K,ad,af,ag,ae,-⟩:=ac.cells;refine bodyPost_ret (v:=.tuple #[enV 0 0 [] (.slice none 0 0) [] false,.bool false]) ?_ rfl ?_
  ·simp [results,results181,go_sem,O,K,ad,af,ag,ae,enV]
  ·rw [W.o]
   exact ⟨rfl,by rw [U.o];exact ao.o.trans (ai.mono (by omega))⟩
 | some h=>
  obtain ⟨aR,av⟩:=h;obtain ⟨rfl,al⟩:=ar;have al:=J9 al;simp only [enV];go_wp2;obtain ⟨aE,Z,ac,ai,ax,-,au⟩:=R2.o.put 3 e o (.slice am m.length M) av z;rw [Z];obtain ⟨O,K,ad,af,ag,ae,-⟩:=ac.cells;refine bodyPost_ret (v:=.tuple #[enV 3 e o (.slice am m.length M) av z,.bool true]) ?_ rfl ?_
  ·simp [results,results181,go_sem,O,K,ad,af,ag,ae,enV]
  ·rw [W.o]
   refine ⟨⟨(.slice am m.length M),rfl,?_⟩,by rw [U.o];exact ao.o.trans (ai.mono (by omega))⟩;rw [U.o];exact (qbY R2.o al.o au).lift (by omega)
theorem qvs (p:Pat) (e:Int) (A:Good2 p e) (aH:Good2 p (op6 e)) (w:World) (V:qad w):Calls prog 181 #[qag p e,.int .i64 4] w (qdo w 4 e ((qbP (qae p 4 e).1 6 (qae p 4 e).2.1 (qae p 4 e).2.2.1).map fun h=>((qae p 4 e).1,h.1,h.2,(qae p 4 e).2.2.2))):=by
 unfold qag;obtain ⟨ah,aI,y,q,B0,aG⟩:=qby w p e;obtain ⟨n,aa⟩:=N9 (w.heap.size);rw [aa] at y q B0 aG;have aA:0 < n:=by rw [<- aa];exact V.lt
 have aq:qad ah:=V.qA6 (n:=n) B0 aA;have aF:=C9 y 0;have ay:=C9 y 1;have aJ:=C9 y 2;have U:=J9 aa;have q:=J9 q;have B0:=J9 B0;have G:=qdm p 4 e A.good ah aq;have aj:=A.qBi 4;have ak:(qae p 4 e).2.2.1.length<=1000:=A.extra;obtain ⟨⟨o,m,ab,z⟩,an⟩:=N9 (qae p 4 e);have aB:=J9 an;rw [an] at aj ak G;simp only [qag] at aj ak G;clear an A aH V aq y;have W:Hid (((qbP (qae p 4 e).1 6 (qae p 4 e).2.1 (qae p 4 e).2.2.1).map fun h=>((qae p 4 e).1,h.1,h.2,(qae p 4 e).2.2.2))=(qbP o 6 m ab).map fun h=>(o,h.1,h.2,z)):=by show ((qbP (qae p 4 e).1 6 (qae p 4 e).2.1 (qae p 4 e).2.2.1).map fun h=>((qae p 4 e).1,h.1,h.2,(qae p 4 e).2.2.2))=_;rw [aB.o]
 go_enter func181,ntmps181
 go_wp2_with fail
 refine G.mono ?_;rintro az aD ⟨v,rfl,L,J⟩;simp only [enV] at L |-;obtain ⟨am,M,rfl,-,-⟩:=L.ops;have E:=qmh ah.heap.size 4 e o _ ab z 6 (by decide) m aj ak aD L J.size;have R1:=J9 (q.o.all J);have ap:=J9 (B0.o.trans (J.mono (by omega)));simp only [enV] at E;clear G J q B0 aI aF ay aJ;obtain ⟨aC,aw⟩:=N9 (qbP o 6 m ab);rw [aw] at E W
 go_wp2_with fail
 refine E.mono ?_;rintro az aO ⟨ar,T⟩;have R2:=J9 (R1.o.below T (by omega));have ao:=J9 (ap.o.trans (T.mono (by omega)));clear E aw R1 ap T;obtain ⟨aP,aL,aQ,aS,aN,aK,aM⟩:=R2.o.cells;cases aC with
 | none=>
  subst ar;simp only [enV];go_wp2;obtain ⟨aE,Z,ac,ai,ax,-,au⟩:=R2.o.put 0 0 [] (.slice none 0 0) [] false;rw [Z];obtain ⟨O,K,ad,af,ag,ae,-⟩:=ac.cells;refine bodyPost_ret (v:=.tuple #[enV 0 0 [] (.slice none 0 0) [] false,.bool false]) ?_ rfl ?_
  ·simp [results,results181,go_sem,O,K,ad,af,ag,ae,enV]
  ·rw [W.o]
   exact ⟨rfl,by rw [U.o];exact ao.o.trans (ai.mono (by omega))⟩
 | some h=>
  obtain ⟨aR,av⟩:=h;obtain ⟨rfl,al⟩:=ar;have al:=J9 al;simp only [enV];go_wp2;obtain ⟨aE,Z,ac,ai,ax,-,au⟩:=R2.o.put 4 e o (.slice am m.length M) av z;rw [Z];obtain ⟨O,K,ad,af,ag,ae,-⟩:=ac.cells;refine bodyPost_ret (v:=.tuple #[enV 4 e o (.slice am m.length M) av z,.bool true]) ?_ rfl ?_
  ·simp [results,results181,go_sem,O,K,ad,af,ag,ae,enV]
  ·rw [W.o]
   refine ⟨⟨(.slice am m.length M),rfl,?_⟩,by rw [U.o];exact ao.o.trans (ai.mono (by omega))⟩;rw [U.o];exact (qbY R2.o al.o au).lift (by omega)
theorem qwj (p:Pat) (e:Int) (y:Good2 p e) (A:Good2 p (op6 e)) (w:World) (J:qad w):Calls prog 181 #[qag p e,.int .i64 5] w (qdo w 5 e (some (qbE p 5 e 5))):=by
 unfold qag;obtain ⟨aa,ar,q,m,B0,ao⟩:=qby w p e;obtain ⟨n,K⟩:=N9 (w.heap.size);rw [K] at q m B0 ao;have ae:0 < n:=by rw [<- K];exact J.lt
 have W:qad aa:=J.qA6 (n:=n) B0 ae;have ai:=C9 q 0;have ac:=C9 q 1;have au:=C9 q 2;have V:=J9 K;have m:=J9 m;have B0:=J9 B0;have z:=qfF p 5 e 5 y.good.len y.good.op0 y.good.op1 A.good (A.qBi 5) A.extra aa W;obtain ⟨⟨U,E,Z,T⟩,M⟩:=N9 (qbE p 5 e 5);have af:=J9 M;rw [M] at z;simp only [qag] at z;clear M y A J W q
 go_enter func181,ntmps181
 go_wp2_with fail
 refine z.mono ?_;rintro ay aB ⟨v,rfl,h,O⟩;simp only [enV] at h |-;obtain ⟨L,G,rfl,-,-⟩:=h.ops;have R1:=J9 (m.o.all O);have ag:=J9 (B0.o.trans (O.mono (by omega)));have h:=J9 h;clear z O m B0 ar ai ac au;obtain ⟨aD,ax,aE,aF,aA,aw,az⟩:=R1.o.cells;go_wp2;obtain ⟨aC,ah,aj,ap,av,-,aq⟩:=R1.o.put 5 e U (.slice L E.length G) Z T;rw [ah];obtain ⟨ad,ab,ak,am,an,al,-⟩:=aj.cells;refine bodyPost_ret (v:=.tuple #[enV 5 e U (.slice L E.length G) Z T,.bool true]) ?_ rfl ?_
 ·simp [results,results181,go_sem,ad,ab,ak,am,an,al,enV]
 ·rw [af.o]
  refine ⟨⟨(.slice L E.length G),rfl,?_⟩,by rw [V.o];exact ag.o.trans (ap.mono (by omega))⟩;rw [V.o];exact (qbY R1.o h.o aq).lift (by omega)
theorem qvj (p:Pat) (e:Int) (y:Good2 p e) (A:Good2 p (op6 e)) (w:World) (J:qad w):Calls prog 181 #[qag p e,.int .i64 6] w (qdo w 6 e (some (qbE p 6 e 6))):=by
 unfold qag;obtain ⟨aa,ar,q,m,B0,ao⟩:=qby w p e;obtain ⟨n,K⟩:=N9 (w.heap.size);rw [K] at q m B0 ao;have ae:0 < n:=by rw [<- K];exact J.lt
 have W:qad aa:=J.qA6 (n:=n) B0 ae;have ai:=C9 q 0;have ac:=C9 q 1;have au:=C9 q 2;have V:=J9 K;have m:=J9 m;have B0:=J9 B0;have z:=qfF p 6 e 6 y.good.len y.good.op0 y.good.op1 A.good (A.qBi 6) A.extra aa W;obtain ⟨⟨U,E,Z,T⟩,M⟩:=N9 (qbE p 6 e 6);have af:=J9 M;rw [M] at z;simp only [qag] at z;clear M y A J W q
 go_enter func181,ntmps181
 go_wp2_with fail
 refine z.mono ?_;rintro ay aB ⟨v,rfl,h,O⟩;simp only [enV] at h |-;obtain ⟨L,G,rfl,-,-⟩:=h.ops;have R1:=J9 (m.o.all O);have ag:=J9 (B0.o.trans (O.mono (by omega)));have h:=J9 h;clear z O m B0 ar ai ac au;obtain ⟨aD,ax,aE,aF,aA,aw,az⟩:=R1.o.cells;go_wp2;obtain ⟨aC,ah,aj,ap,av,-,aq⟩:=R1.o.put 6 e U (.slice L E.length G) Z T;rw [ah];obtain ⟨ad,ab,ak,am,an,al,-⟩:=aj.cells;refine bodyPost_ret (v:=.tuple #[enV 6 e U (.slice L E.length G) Z T,.bool true]) ?_ rfl ?_
 ·simp [results,results181,go_sem,ad,ab,ak,am,an,al,enV]
 ·rw [af.o]
  refine ⟨⟨(.slice L E.length G),rfl,?_⟩,by rw [V.o];exact ag.o.trans (ap.mono (by omega))⟩;rw [V.o];exact (qbY R1.o h.o aq).lift (by omega)
theorem qwr (p:Pat) (e:Int) (ac:e≠3) (aa:e≠4) (ad:e≠5) (W:e≠6) (h:Int) (z:Good2 p h) (az:Good2 p (op6 h)) (w:World) (J:qad w):Calls prog 181 #[qag p h,.int .i64 e] w (qdo w e h (some (qae p e h))):=by
 unfold qag;obtain ⟨ae,aA,y,q,B0,aw⟩:=qby w p h;obtain ⟨n,K⟩:=N9 (w.heap.size);rw [K] at y q B0 aw;have ak:0 < n:=by rw [<- K];exact J.lt
 have Z:qad ae:=J.qA6 (n:=n) B0 ak;have aL:(e == 3)=false:=by simpa using ac
 have aN:(e == 4)=false:=by simpa using aa
 have aE:(e == 5)=false:=by simpa using ad
 have aQ:(e == 6)=false:=by simpa using W
 clear ac aa ad W;have ao:=C9 y 0;have ai:=C9 y 1;have aB:=C9 y 2;have V:=J9 K;have q:=J9 q;have B0:=J9 B0;have A:=qdm p e h z.good ae Z;have af:=z.qBi e;have ag:(qae p e h).2.2.1.length<=1000:=z.extra;obtain ⟨⟨U,E,ab,T⟩,M⟩:=N9 (qae p e h);have al:=J9 M;rw [M] at af ag A;simp only [qag] at af ag A;clear M z az J Z y
 go_enter func181,ntmps181
 go_wp2_with fail
 refine A.mono ?_;rintro aG aJ ⟨v,rfl,m,O⟩;simp only [enV] at m |-;obtain ⟨L,G,rfl,-,-⟩:=m.ops;have R1:=J9 (q.o.all O);have am:=J9 (B0.o.trans (O.mono (by omega)));have m:=J9 m;clear A O q B0 aA ao ai aB;obtain ⟨aM,aF,aO,aP,aI,aD,aH⟩:=R1.o.cells;go_wp2;obtain ⟨aK,an,ap,ax,aC,-,ay⟩:=R1.o.put e h U (.slice L E.length G) ab T;rw [an];obtain ⟨aj,ah,aq,au,av,ar,-⟩:=ap.cells;refine bodyPost_ret (v:=.tuple #[enV e h U (.slice L E.length G) ab T,.bool true]) ?_ rfl ?_
 ·simp [results,results181,go_sem,aj,ah,aq,au,av,ar,enV]
 ·rw [al.o]
  refine ⟨⟨(.slice L E.length G),rfl,?_⟩,by rw [V.o];exact am.o.trans (ax.mono (by omega))⟩;rw [V.o];exact (qbY R1.o m.o ay).lift (by omega)
theorem qjo (p:Pat) (q h:Int) (z:Good2 p h) (E:Good2 p (op6 h)) (w:World) (y:qad w):Calls prog 181 #[qag p h,.int .i64 q] w (qdo w q h (qb8 p q h)):=by
 unfold qb8;by_cases K:q=3
 ·subst K;exact qv7 p h z E w y
 ·rw [Qe K]
  by_cases J:q=4
  ·subst J;exact qvs p h z E w y
  ·rw [Qe J]
   by_cases M:q=5
   ·subst M;exact qwj p h z E w y
   ·rw [Qe M]
    by_cases G:q=6
    ·subst G;exact qvj p h z E w y
    ·rw [Qe G]
     exact qwr p q K J M G h z E w y
def BytesAt (w:World) (A:Option Addr) (xs:Str):Prop:=xs=[]\/∃ h j,A=some ⟨h,j,none⟩/\∀ b (q:b<xs.length),w.cell? ⟨h,j+b,none⟩=some (.int .u8 (xs[b].toNat:Int))
theorem BytesAt.below {w w':World} {A:Option Addr} {xs:Str} (z:BytesAt w A xs) (E:Below w.heap.size w w'):BytesAt w' A xs:=by
 rcases z with rfl | ⟨y,q,rfl,b⟩
 ·exact .inl rfl
 ·exact .inr ⟨y,q,rfl,fun h j=>(E.cell (Qq w _ (b h j))).trans (b h j)⟩
theorem qot {w:World} {A:Option Addr} {xs:Str} (a:BytesAt w A xs) (cap:Nat) :
  (convert 35 9 (.slice A xs.length cap)).run prog w=.ok (.string (sB xs)) w:=by
 cases A with
 | none=>
  obtain rfl:xs=[]:=by
   rcases a with a | ⟨j,h,a,_⟩
   ·exact a
   ·cases a
  rw [run_convert_bytes_nil (P:=prog) w 35 5 underlying35 underlying5 _ _ 9 underlying9];rfl
 | some G=>
  refine run_convert_bytes_back w 35 9 5 G cap xs underlying35 underlying5 underlying9 (fun y e=>?_);rcases a with rfl | ⟨j,h,E,q⟩
  ·simp at e
  ·cases E
   have b:=q y e;unfold Addr.add;split
   ·rename_i z;subst z;simpa using b
   ·exact b
def cellsB (xs:Str):List Value:=xs.map fun b=>.int .u8 (b.toNat:Int)
def qat (w:World) (n:Nat) (v:Value) (xs:Str):Prop:=w.ownsRow n 5 1 v xs.length (cellsB xs)
theorem qat.bytes {w:World} {n:Nat} {v:Value} {xs:Str} (h:qat w n v xs):∃ j g,v=.slice j xs.length g/\BytesAt w j xs:=by
 rcases h.2 with ⟨rfl,A⟩ | ⟨y,g,E,rfl,_,_,_⟩
 ·have:xs=[]:=Qw A
  subst this;exact ⟨none,0,rfl,.inl rfl⟩
 ·refine ⟨_,g,rfl,.inr ⟨y,0,rfl,fun q z=>?_⟩⟩
  rw [QT,World.ownsRow.cellAt h q (by omega)];unfold cellsB;rw [Zi,Qg z];rfl
theorem qat.below {w w':World} {n:Nat} {v:Value} {xs:Str} (g:qat w n v xs) (k:Below w.heap.size w w'):qat w' n v xs:=
 World.ownsRow.kept g (row:=none) ⟨k.os,k.tape,k.output,k.size,fun e h _=>k.block e h⟩ (by
  cases q:v.ownBlock with
  | none=>exact .inl rfl
  | some i=>exact .inr (by simp))
theorem qbn (w:World) (xs:Str) (h:xs.length<=100):qat (w.alloc (.cells (cellsB xs).toArray 5)) w.heap.size (.slice (some ⟨w.heap.size,0,none⟩) xs.length xs.length) xs:=by
 refine ⟨by unfold cellsB;simp,.inr ⟨w.heap.size,xs.length,(cellsB xs).toArray,rfl,Qa _,World.alloc_heap_new w _,Qa _,by unfold maxLen;omega,by unfold cellsB;simp,?_⟩⟩;unfold cellsB;rw [QW (by simp)]
theorem qnR (A1 h:Option Addr) (q c2:Nat) (xs ys:Str) (w:World) (e:BytesAt w A1 xs) (y:BytesAt w h ys) :
  Calls prog 189 #[.slice A1 xs.length q,.slice h ys.length c2] w fun G z=>G=.returned (.bool (decide (xs=ys)))/\z=w:=by
 have J:=qot e q;have K:=qot y c2;have E:Hid (((sB xs).toList == (sB ys).toList)=decide (xs=ys)):=by
  show ((sB xs).toList == (sB ys).toList)=_;rw [qcU,QO,show (sB ys).data.toList=ys by simp [sB]]
 clear e y
 go_enter func189,ntmps189
 go_wp2;go_ret;exact ⟨qab E.o,rfl⟩
def qaM (h:Int):Str:=if h=1 then [203] else if h=2 then [237] else if h=3 then [221] else if h=4 then [253] else if h=5 then [221,203] else if h=6 then [253,203] else []
def qkC (w:World) (xs:Str) (e:Ending) (w':World):Prop:=∃ h,e=.returned h/\qat w' w.heap.size h xs/\Below w.heap.size w w'
theorem qnD (w:World):Calls prog 190 #[.int .i64 1] w (qkC w [203]):=by
 have h:=J9 (qbn w [203] (by decide))
 go_enter func190,ntmps190
 go_wp2;go_ret;exact ⟨_,rfl,h.o,B0⟩
theorem qnd (w:World):Calls prog 190 #[.int .i64 2] w (qkC w [237]):=by
 have h:=J9 (qbn w [237] (by decide))
 go_enter func190,ntmps190
 go_wp2;go_ret;exact ⟨_,rfl,h.o,B0⟩
theorem qoh (w:World):Calls prog 190 #[.int .i64 3] w (qkC w [221]):=by
 have h:=J9 (qbn w [221] (by decide))
 go_enter func190,ntmps190
 go_wp2;go_ret;exact ⟨_,rfl,h.o,B0⟩
theorem qmY (w:World):Calls prog 190 #[.int .i64 4] w (qkC w [253]):=by
 have h:=J9 (qbn w [253] (by decide))
 go_enter func190,ntmps190
 go_wp2;go_ret;exact ⟨_,rfl,h.o,B0⟩
theorem qnB (w:World):Calls prog 190 #[.int .i64 5] w (qkC w [221,203]):=by
 have h:=J9 (qbn w [221,203] (by decide))
 go_enter func190,ntmps190
 go_wp2;go_ret;exact ⟨_,rfl,h.o,B0⟩
theorem qnq (w:World):Calls prog 190 #[.int .i64 6] w (qkC w [253,203]):=by
 have h:=J9 (qbn w [253,203] (by decide))
 go_enter func190,ntmps190
 go_wp2;go_ret;exact ⟨_,rfl,h.o,B0⟩
theorem qdg (h:Int) (w:World):Calls prog 190 #[.int .i64 h] w (qkC w (qaM h)):=by
 unfold qaM;by_cases q:h=1
 ·rw [Qi q];subst q;exact qnD w
 by_cases y:h=2
 ·rw [Qe q,Qi y];subst y;exact qnd w
 by_cases z:h=3
 ·rw [Qe q,Qe y,Qi z];subst z;exact qoh w
 by_cases E:h=4
 ·rw [Qe q,Qe y,Qe z,Qi E];subst E;exact qmY w
 by_cases G:h=5
 ·rw [Qe q,Qe y,Qe z,Qe E,Qi G];subst G;exact qnB w
 by_cases J:h=6
 ·rw [Qe q,Qe y,Qe z,Qe E,Qe G,Qi J];subst J;exact qnq w
 rw [Qe q,Qe y,Qe z,Qe E,Qe G,Qe J];have U:(h == 1)=false:=by simpa using q
 have K:(h == 2)=false:=by simpa using y
 have M:(h == 3)=false:=by simpa using z
 have V:(h == 4)=false:=by simpa using E
 have O:(h == 5)=false:=by simpa using G
 have T:(h == 6)=false:=by simpa using J
 clear q y z E G J
 go_enter func190,ntmps190
 go_wp2;go_ret;exact ⟨_,rfl,Zm _ _ _ _,Qc _ _⟩
def qfQ (xs:Str):Nat->Option Int
 | 0=>none
 | k+1=>match qfQ xs k with
  | some h=>some h
  | none=>if qaM k=xs then some k else none
def qix (xs:Str):Option Int:=qfQ xs 7
theorem qhy (xs:Str) (k:Nat) (p:Int) (h:qfQ xs k=some p):∀ m,qfQ xs (k+m)=some p
 | 0=>h
 | m+1=>by
  have q:=qhy xs k p h m;show qfQ xs (k+m+1)=some p;unfold qfQ;rw [q]
theorem qhg (A:Option Addr) (cap:Nat) (xs:Str) (ad:xs.length<=maxLen) (w:World) (H:BytesAt w A xs):Calls prog 149 #[.slice A xs.length cap] w
  fun v ab=>v=.returned (.tuple #[.int .i64 ((qix xs).getD 0),.bool (qix xs).isSome])/\Below w.heap.size w ab:=by
 obtain ⟨ae,G⟩:=N9 (xs.length);have Z:=J9 H;have V:=J9 G;rw [G];clear H G ad
 go_enter func149,ntmps149
 go_wp2
 go_loopw [5] (fun z wr=>∃ e:Nat,e<=7/\z=.int .i64 e/\Hid (qfQ xs e=none)/\Hid (Below w.heap.size w wr)) (fun z _=>7 - (intOf z).toNat)
 case atStart=>exact ⟨0,Qu _,rfl,rfl,Qc _ _⟩
 case round=>
  obtain ⟨e,ag,rfl,B,y⟩:=hrel;by_cases ah:e<7
  ·have K:=qdg (e:Int) wr
   go_wp2_with fail
   refine K.mono ?_;rintro v aa ⟨af,rfl,J,U⟩;obtain ⟨A1,W,rfl,M⟩:=J.bytes;have E:=J9 (y.o.trans (U.mono y.o.size));have h:=qnR A1 A W cap (qaM e) xs aa M (Z.o.below E.o);rw [V.o] at h;have T:Hid (qfQ xs (e+1)=if qaM e=xs then some (e:Int) else none):=(by show qfQ xs (e+1)=_;rw [qfQ,B.o]);clear K U J M y B;by_cases i:qaM e=xs
   ·rw [Qn i] at h
    have l:Hid (qix xs=some (e:Int)):=by
     have q:=T.o;rw [Qi i] at q;have O:=qhy xs (e+1) e q (7 - (e+1));rw [show e+1+(7 - (e+1))=7 by omega] at O;exact O
    clear i
    go_wp2_with fail
    refine h.mono ?_;rintro v ac ⟨rfl,k⟩;rw [k];clear h k;go_wp2
    go_ret2
    exact ⟨by rw [l.o];rfl,E.o⟩
   ·rw [Qh i] at h
    have l:Hid (qfQ xs (e+1)=none):=(by have q:=T.o;rw [Qe i] at q;exact q);clear i
    go_wp2_with fail
    refine h.mono ?_;rintro v ac ⟨rfl,k⟩;rw [k];clear h k;go_wp2;go_roundw
    case rel=>exact ⟨e+1,by omega,by go_num,l.o,E.o⟩
    case measure=>simp [intOf];omega
  ·obtain rfl:e=7:=by omega
   have l:Hid (qix xs=none):=B.o;go_wp2
   go_ret2
   exact ⟨by rw [l.o];rfl,y.o⟩
theorem qmv:(prog.info? 5).map (fun i=>(i.zero,i.size,i.bytes))=some (some (.int .u8 0),1,1):=by kernel_rfl
theorem qky {wr:World} {base:Nat} {v:Value} {xs:Str} (R:qat wr base v xs) (af:base<=wr.heap.size) {ops:Array Oper} {rest:List Oper} {o:Oper} {a:Act} {Q:Exit->Act->World->Prop} (W:o.guard=none) (s x:Operand)
  (ah:o.op=.call {callee:=.builtin .append,args:=#[s,x],argTypes:=#[35,35]}) (O:a.eval s=v) (z:Nat) (ab:z=wr.heap.size) (aj:a.eval x=.slice (some ⟨z,0,none⟩) 1 1)
  (h:UInt8) (k:Nat) (y:xs.length=k) (am:k<10000)
  (T:∀ j u w1,BytesAt w1 j (xs++[h])->Below base wr w1->wpList prog ops Q rest (a.put o.dst (.slice j (k+1) u)) w1):wpList prog ops Q (o :: rest) a (wr.alloc (.cells #[.int .u8 (h.toNat:Int)] 5)):=by
 subst ab;obtain ⟨K,ad,ac,ae,aa⟩:=info_parts qmv;have M:Below base wr (wr.alloc (.cells #[.int .u8 (h.toNat:Int)] 5)):=(Qc base wr).alloc af _;have E:=World.ownsRow.alloc R (.cells #[.int .u8 (h.toNat:Int)] 5);refine wpList_append_own _ W s x 35 ah base 5 K (.int .u8 0) 1 1 underlying35 ad ac ae aa rfl (by decide) v xs.length _ O E ⟨wr.heap.size,0,none⟩ 1 1 [.int .u8 (h.toNat:Int)] aj rfl ?_ ?_ ?_ ?_ ?_ ?_
 ·intro ag ak q
  match ag,q with
  | 0,q=>simp at q;subst q;simp [Addr.add,go_sem]
 ·intro ak G
  simp at G;subst G;rfl
 ·unfold maxLen;omega
 ·omega
 ·simp;omega
 ·intro ai w1 V J _
  have U:qat w1 base ai (xs++[h]):=by
   unfold qat cellsB;rw [Qk,Zg];exact V
  obtain ⟨j,u,rfl,Z⟩:=U.bytes;rw [Qk,y];exact T j u w1 Z (M.grown J (by simp;omega) fun k y=>(E.lt k y).1)
def qcJ (h q:Int):Int:=if h<0\/7<=h then 0 else if (qix (qaM h++[UInt8.ofNat q.toNat])).isSome then 2 else if h=2 then 3 else 0
theorem qc3 (c h:Int) (am:0<=h) (ag:h<=255) (w:World):Calls prog 182 #[.int .i64 c,.int .u8 h] w
  fun E aj=>E=.returned (.int .i64 (qcJ c h))/\Below w.heap.size w aj:=by
 by_cases ap:c<0
 ·have l:Hid (qcJ c h=0):=by show qcJ c h=0;unfold qcJ;rw [Qi (.inl ap)]
  go_enter func182,ntmps182
  go_wp2;go_ret;exact ⟨by rw [l.o];rfl,Qc _ _⟩
 ·by_cases ak:7<=c
  ·have l:Hid (qcJ c h=0):=by show qcJ c h=0;unfold qcJ;rw [Qi (.inr ak)]
   go_enter func182,ntmps182
   go_wp2;go_ret;exact ⟨by rw [l.o];rfl,Qc _ _⟩
  ·have Z:=qdg c w
   obtain ⟨e,ah⟩:∃ e:UInt8,h=(e.toNat:Int):=⟨UInt8.ofNat h.toNat,by rw [UInt8.toNat_ofNat_of_lt' (show h.toNat<256 by omega)];omega⟩;subst ah;have T:UInt8.ofNat ((e.toNat:Int)).toNat=e:=(by simp);have v:Hid (qcJ c (e.toNat:Int)=if (qix (qaM c++[e])).isSome then 2 else if c=2 then 3 else 0):=by
    show qcJ c (e.toNat:Int)=_;unfold qcJ;rw [Qe (show ¬(c<0\/7<=c) by omega),T]
   clear am ag T
   go_enter func182,ntmps182
   go_wp2_with fail
   refine Z.mono ?_;rintro E ai ⟨av,rfl,G,af⟩;have x:=J9 G;have K:=J9 af;obtain ⟨A1,au,rfl,-⟩:=G.bytes;obtain ⟨M,ab⟩:=N9 ((qaM c).length);have z:=J9 ab;rw [ab] at x |-;clear Z G af;have ax:M<=2:=by
    rw [<- z.o];unfold qaM
    repeat' split
    all_goals simp
   go_wp2_with (at_builtin;refine qky x.o K.o.size rfl _ _ rfl rfl ai.heap.size rfl rfl e M z.o (by omega) ?_;intro ao aq aa U ad;have W:=J9 U;have y:Hid (Below w.heap.size w aa):=K.o.trans ad;clear U ad)
   have O:(qaM c++[e]).length=M+1:=(by rw [Qk,z.o];rfl);have q:=qhg ao aq (qaM c++[e]) (by rw [O];unfold maxLen;omega) aa W.o;rw [O] at q;obtain ⟨an,ae⟩:=N9 (qix (qaM c++[e]));rw [ae] at q v;clear ae O
   go_wp2_with fail
   refine q.mono ?_;rintro E aw ⟨rfl,ac⟩;have J:=J9 (y.o.trans (ac.mono y.o.size));clear q ac W y K x;cases an with
   | some ar=>
    have l:Hid (qcJ c (e.toNat:Int)=2):=(by show _=_;rw [v.o];rfl);go_wp2;go_ret;exact ⟨by rw [l.o];rfl,J.o⟩
   | none=>
    by_cases V:c=2
    ·have l:Hid (qcJ c (e.toNat:Int)=3):=by show _=_;rw [v.o,Qe (by decide),Qi V]
     go_wp2;go_ret;exact ⟨by rw [l.o];rfl,J.o⟩
    ·have l:Hid (qcJ c (e.toNat:Int)=0):=by show _=_;rw [v.o,Qe (by decide),Qe V]
     go_wp2;go_ret;exact ⟨by rw [l.o];rfl,J.o⟩
end Go.Proofs.YtecpnfhpcamljaaGreatDoor
namespace Go.Proofs.YtecpnfhpcamljaaGreatDoor
open Tryz
open Go.RowKit Cm
theorem qmz (a b:ByteArray):qfc [a,b]=a.data.toList++b.data.toList:=by simp [qfc]
theorem qw4 (b:Nat) (h:World) (x q:ByteArray) (y:b<h.heap.size):PartsAt b (h.alloc (.cells #[.string x,.string q] 9)) (some ⟨h.heap.size,0,none⟩) [x,q]:=
 .inr ⟨_,rfl,by omega,heap_alloc_new h _⟩
theorem qxN (b:Nat) (h:World) (x:ByteArray) (q:b<h.heap.size):PartsAt b (h.alloc (.cells #[.string x] 9)) (some ⟨h.heap.size,0,none⟩) [x]:=
 .inr ⟨_,rfl,by omega,heap_alloc_new h _⟩
theorem qer {B b:Nat} {w e:World} {y:List UInt8} (C:CB B b e y) (T:Below B w e) (G:B<=e.heap.size) (x h:ByteArray) (O:y.length+(x.size+h.size)<=100000000) :
  Calls prog 67 #[.slice (some ⟨e.heap.size,0,none⟩) 2 2,.pointer (some ⟨b,0,none⟩)] (e.alloc (.cells #[.string x,.string h] 9)) fun K q=>
   K=.returned (.string (St.strOf (y++(x.data.toList++h.data.toList))))/\CB B b q (y++(x.data.toList++h.data.toList))/\FK B b e q/\Below B w q:=by
 have z:Below e.heap.size e (e.alloc (.cells #[.string x,.string h] 9)):=B0;have E:=qii (C.more z) (Qj G z.size) [x,h] (some ⟨e.heap.size,0,none⟩) 2 2 rfl (qw4 b e x h C.lt) (by rw [qmz,Qk];simpa using O) (by omega);rw [qmz] at E;refine E.mono ?_;rintro K q ⟨rfl,U,M⟩;have J:=(FK.of (b:=b) z G).trans M;exact ⟨rfl,U,J,T.trans J.bel⟩
theorem qpK {B b:Nat} {w e:World} {q:List UInt8} (C:CB B b e q) (T:Below B w e) (E:B<=e.heap.size) (x:ByteArray) (O:q.length+x.size<=100000000) :
  Calls prog 67 #[.slice (some ⟨e.heap.size,0,none⟩) 1 1,.pointer (some ⟨b,0,none⟩)] (e.alloc (.cells #[.string x] 9)) fun J h=>
   J=.returned (.string (St.strOf (q++x.data.toList)))/\CB B b h (q++x.data.toList)/\FK B b e h/\Below B w h:=by
 have y:Below e.heap.size e (e.alloc (.cells #[.string x] 9)):=B0;have K:qfc [x]=x.data.toList:=by simp [qfc]
 have z:=qii (C.more y) (Qj E y.size) [x] (some ⟨e.heap.size,0,none⟩) 1 1 rfl (qxN b e x C.lt) (by rw [K];simpa using O) (by omega);rw [K] at z;refine z.mono ?_;rintro J h ⟨rfl,U,M⟩;have G:=(FK.of (b:=b) y E).trans M;exact ⟨rfl,U,G,T.trans G.bel⟩
theorem qdc {B b:Nat} {w h:World} {e:List UInt8} (C:CB B b h e) (K:Below B w h) (J:B<=h.heap.size) (G:e.length<=100000000) :
  Calls prog 67 #[.slice none 0 0,.pointer (some ⟨b,0,none⟩)] h fun E q=>
   E=.returned (.string (St.strOf e))/\CB B b q e/\FK B b h q/\Below B w q:=by
 have y:=qii C J [] none 0 0 rfl (.inl rfl) (by simpa [qfc] using G) (by omega);have O:e++qfc []=e:=by simp [qfc]
 rw [O] at y;refine y.mono ?_;rintro E q ⟨rfl,M,z⟩;exact ⟨rfl,M,z,K.trans z.bel⟩
theorem qp9 (F:FuncId) (h:UInt8->Str) (aS:∀ args w,(callFunc F args).run prog w=.ok (.enter F args) w)
  (an:∀ (x:UInt8) w,Calls prog F #[.int .i64 (x.toNat:Int)] w fun e w'=>e=.returned (.string (sB (h x)))/\Below w.heap.size w w') (ab:∀ x,(h x).length<=6)
  (k:Str) (aj:k.length<=2) (A:Option Addr) (n cap:Nat) (xs:Str) (aL:xs.length=n) (aU:n<=1000) (w:World) (H:BytesAt w A xs) :
  Calls prog 48 #[.string (sB k),.func (.func F) #[] #[],.slice A n cap] w fun e w'=>e=.returned (.string (sB (qdE k (xs.map h))))/\Below w.heap.size w w':=by
 obtain ⟨i,z⟩:=N9 (w.heap.size);have aY:=J9 z;have aE:∀ b,(qdE k ((xs.map h).take b)).length<=8000:=fun b=>by
  have y:=qd2 k ((xs.map h).take b) 2 6 aj fun x aP=>by
   obtain ⟨aG,-,rfl⟩:=Zq.1 (List.mem_of_mem_take aP);exact ab aG
  have a0:((xs.map h).take b).length<=n:=by rw [QH,QC];omega
  omega
 obtain ⟨s,J⟩:∃ aF:Nat->Str,aF=fun b=>qdE k ((xs.map h).take b):=⟨_,rfl⟩
 have ay:s 0=[]:=by rw [J];rfl
 have aw:s n=qdE k (xs.map h):=by rw [J];show qdE k ((xs.map h).take n)=_;rw [QW (by rw [QC];omega)]
 have ak:∀ b,(s b).length<=8000:=fun b=>by rw [J];exact aE b
 have am:∀ b (y:b<xs.length),s (b+1)=s b++((if b=0 then [] else k)++h xs[b]):=fun b y=>by
  rw [J];show qdE k ((xs.map h).take (b+1))=qdE k ((xs.map h).take b)++_;have aC:b<(xs.map h).length:=by rw [QC];exact y
  by_cases ar:b=0
  ·subst ar
   rw [Qi rfl,qhV k _ aC];simp [qdE]
  ·rw [Qe ar,qgE k _ b (by omega) aC]
   simp
 have aa:Hid (∀ (wr:World) (b:Nat),b<n->CB i i wr (s b)->Below i w wr->∃ (G K:Nat) (x:Int) (ai:ByteArray),A=some ⟨G,K,none⟩/\wr.cell? ⟨G,K+b,none⟩=some (.int .u8 x)/\(0<=x/\x<=255)/\
   (∀ Z,Calls prog F #[.int .i64 x] Z fun e w'=>e=.returned (.string ai)/\Below Z.heap.size Z w')/\
   ∀ W2 q,Below wr.heap.size wr W2->q=(if b=0 then ⟨#[]⟩ else sB k)->Calls prog 67 #[.slice (some ⟨W2.heap.size,0,none⟩) 2 2,.pointer (some ⟨i,0,none⟩)] (W2.alloc (.cells #[.string q,.string ai] 9)) fun e w'=>
    (∃ O,e=.returned O)/\Hid (CB i i w' (s (b+1)))/\Hid (Below i w w')):=by
  intro wr b aJ v U;have ag:b<xs.length:=by omega
  have aN:=H.below (by rw [z];exact U);obtain rfl | ⟨G,K,V,ae⟩:=aN
  ·simp at ag
  ·refine ⟨G,K,(xs[b].toNat:Int),sB (h xs[b]),V,ae b ag,⟨by omega,by have:=xs[b].toNat_lt;omega⟩,an xs[b],fun W2 q E aI=>?_⟩
   have aA:i<=wr.heap.size:=QV v.lt;have az:q.data.toList=if b=0 then [] else k:=by
    rw [aI];split
    ·rfl
    ·simp [sB]
   have aH:(sB (h xs[b])).data.toList=h xs[b]:=(by simp [sB]);have aQ:q.size<=2:=by
    have:q.data.toList.length=q.size:=(by simp);rw [<- this,az];split
    ·simp
    ·exact aj
   have y:=qer (w:=w) (v.more E) (U.trans (E.mono aA)) (Qj aA E.size) q (sB (h xs[b])) (by
    have aW:=ak b;have aR:(sB (h xs[b])).size<=6:=ab xs[b];omega)
   refine y.mono ?_;rintro e w' ⟨rfl,av,-,C⟩;rw [az,aH,<- am b ag] at av;exact ⟨⟨_,rfl⟩,av,C⟩
 have aq:Hid (∀ wr,CB i i wr (s n)->Below i w wr->Calls prog 67 #[.slice none 0 0,.pointer (some ⟨i,0,none⟩)] wr fun e w'=>e=.returned (.string (sB (qdE k (xs.map h))))/\Below i w w'):=by
  intro wr v U;refine (qdc (w:=w) v U (QV v.lt) (by have:=ak n;omega)).mono ?_;rintro e w' ⟨rfl,-,-,C⟩;rw [aw];exact ⟨rfl,C⟩
 obtain ⟨ao,T⟩:=N9 (w.alloc (.cells #[.pointer none,.slice none 0 0] 100));have au:Hid (CB i i ao (s 0)):=by
  have y:=CB.fresh (B:=w.heap.size) w (Qa _);rw [T,z] at y;rw [ay];exact y
 have B0:Hid (Below i w ao):=by rw [<- T,<- z];exact B0
 have ah:=J9 (qb9 w);rw [T,z] at ah;obtain ⟨aT,af⟩:=N9 (sB (qdE k (xs.map h)));obtain ⟨ax,ac⟩:=N9 (sB k);rw [af] at aq;rw [ac] at aa;rw [z,af,ac];clear H aL z aE J ay aw ak am T an ab aj af ac
 go_enter func48,ntmps48
 go_wp2_with fail
 refine ah.o.mono ?_;rintro e w' ⟨rfl,rfl⟩;clear ah;go_wp2
 go_loopw [8,14] (fun O ad wr=>∃ (b:Nat) (q:ByteArray),b<=n/\ad=.int .i64 b/\O=.string q/\Hid (q=if b=0 then ⟨#[]⟩ else ax)/\Hid (CB i i wr (s b))/\Hid (Below i w wr)) (fun _ ad _=>n - (intOf ad).toNat)
 case atStart=>exact ⟨0,⟨#[]⟩,Qu _,rfl,rfl,rfl,au,B0⟩
 case round=>
  clear au B0;obtain ⟨b,q,aJ,rfl,rfl,W,v,B⟩:=hrel;by_cases aO:b<n
  ·obtain ⟨G,K,x,ai,V,ae,⟨aZ,aX⟩,R,M⟩:=aa.o wr b aO v.o B.o
   subst V;have R:=J9 R;have M:=J9 M;clear v B
   go_wp2_with fail
   refine (R.o _).mono ?_;rintro e ap ⟨rfl,E⟩;have aD:=J9 (M.o ap q E W.o);clear R M ae
   go_wp2_with fail
   refine aD.o.mono ?_;rintro e aV ⟨⟨O,rfl⟩,aM,aK⟩;clear aD E W;go_wp2;go_roundw
   case rel=>exact ⟨b+1,ax,by omega,by go_num,rfl,by show _=_;rw [Qe (by omega)],aM,aK⟩
   case measure=>simp [intOf];omega
  ·obtain rfl:b=n:=by omega
   have aB:=J9 (aq.o wr v.o B.o);clear v B W aa
   go_wp2_with fail
   refine aB.o.mono ?_;rintro e ap ⟨rfl,C⟩;have C:=J9 C;clear aB;go_wp2;go_ret;exact ⟨rfl,C.o⟩
theorem qrA (x:UInt8) (w:World):Calls prog 49 #[.int .i64 (x.toNat:Int)] w fun e h=>e=.returned (.string (sB (numT x)))/\Below w.heap.size w h:=by
 have e:sB (numT x)=textS (x.toNat:Int):=by unfold numT sB;simp
 rw [e];exact qdZ _ w
theorem qlJ (A:Option Addr) (n cap:Nat) (xs:Str) (r:xs.length=n) (V:n<=1000) (w:World) (H:BytesAt w A xs) :
  Calls prog 17 #[.slice A n cap] w fun e z=>e=.returned (.string (sB (dataB xs)))/\Below w.heap.size w z:=by
 have x:∀ args w,(callFunc 49 args).run prog w=.ok (.enter 49 args) w:=enters_of func49 (by kernel_rfl) rfl;have q:=J9 (qp9 49 numT x qrA qhG [44] (by decide) A n cap xs r V w H);by_cases E:n=0
 ·have h:xs=[]:=Qw (by omega)
  have e:sB (dataB xs)=⟨#[]⟩:=by rw [h];rfl
  rw [e];subst E;clear q H r x
  go_enter func17,ntmps17
  go_wp2;go_ret;exact ⟨rfl,Qc _ _⟩
 ·have h:xs≠[]:=fun e=>E (by rw [<- r,e];rfl)
  have e:(⟨#[68,69,70,66,32]⟩:ByteArray)++sB (qdE [44] (xs.map numT))=sB (dataB xs):=by
   apply qah;unfold dataB;rw [Qe h,qaa];simp [sB]
  have U:(sB (qdE [44] (xs.map numT))).size<=100000:=by
   have O:=qd2 [44] (xs.map numT) 1 6 (by decide) fun W h=>by
    obtain ⟨T,-,rfl⟩:=Zq.1 h;exact qhG T
   rw [QC] at O;show (qdE [44] (xs.map numT)).length<=_;omega
  have J:sB [44]=⟨#[44]⟩:=rfl;rw [J] at q;obtain ⟨aa,G⟩:=N9 (sB (qdE [44] (xs.map numT)));rw [G] at e q U;have K:=J9 e;have Z:¬(n:Int)=0:=by omega
  clear H r x e h G J
  go_enter func17,ntmps17
  go_wp2_with fail
  refine q.o.mono ?_;rintro e z ⟨rfl,y⟩;have M:=J9 y;clear q y;go_wp2;go_ret;rw [K.o];exact ⟨rfl,M.o⟩
theorem qvV (x:Int) (w:World):Calls prog 90 #[.int .i64 x] w fun y h=>y=.returned (.string (hexS x 2))/\Below w.heap.size w h:=by
 have e:=J9 (qkr x 2 (by omega) w);obtain ⟨E,q⟩:=N9 (hexS x 2);rw [q] at e |-;clear q
 go_enter func90,ntmps90
 go_wp2_with fail
 refine e.o.mono ?_;rintro y h ⟨rfl,s⟩;have z:=J9 s;clear s e;go_wp2;go_ret;exact ⟨rfl,z.o⟩
theorem qrz (x:UInt8) (w:World):Calls prog 90 #[.int .i64 (x.toNat:Int)] w fun e h=>e=.returned (.string (sB (qd1 x)))/\Below w.heap.size w h:=by
 have e:sB (qd1 x)=hexS (x.toNat:Int) 2:=by unfold qd1 sB;simp
 rw [e];exact qvV _ w
def qfB (a:Int):Bool:=decide (0<=a)&&decide (a<=65535)
theorem qgh (a:Int) (w:World):Calls prog 53 #[.int .i64 a] w fun e q=>e=.returned (.bool (qfB a))/\Below w.heap.size w q:=by
 have h:=J9 (fits_any 0 65535 (some ⟨w.heap.size,0,none⟩) 1 [a] (by unfold maxLen;simp) (w.alloc (.cells #[.int .i64 a] 3)) (ints_one w a _));have e:qcF 0 65535 [a]=qfB a:=by unfold qcF qfB;simp
 rw [e] at h;have y:Hid (Below w.heap.size w (w.alloc (.cells #[.int .i64 a] 3))):=B0;obtain ⟨z,r⟩:=N9 (qfB a);rw [r] at h |-;clear r e
 go_enter func53,ntmps53
 go_wp2_with fail
 refine h.o.mono ?_;rintro e q ⟨rfl,rfl⟩;clear h;go_wp2;go_ret;exact ⟨rfl,y.o⟩
end Go.Proofs.YtecpnfhpcamljaaGreatDoor
namespace Go.Proofs.YtecpnfhpcamljaaGreatDoor
open Tryz
open Go.RowKit
def qbV:Tr:=(1,7,0)
def hlT:Tr:=(3,2,0)
def deT:Tr:=(3,1,0)
def I1 (s:ByteArray):Prop:=s=⟨#[83,85,66]⟩\/s=⟨#[65,78,68]⟩\/s=⟨#[88,79,82]⟩\/s=⟨#[79,82]⟩\/s=⟨#[67,80]⟩
def I2 (s:ByteArray):Prop:=s=⟨#[65,68,68]⟩\/s=⟨#[65,68,67]⟩\/s=⟨#[83,66,67]⟩
def I3 (s:ByteArray):Prop:=s=⟨#[69,88]⟩
def I4 (s:ByteArray):Prop:=s=⟨#[66,73,84]⟩\/s=⟨#[82,69,83]⟩\/s=⟨#[83,69,84]⟩\/s=⟨#[73,77]⟩\/s=⟨#[82,83,84]⟩\/s=⟨#[79,85,84]⟩
def I5 (s:ByteArray):Prop:=s=⟨#[74,80]⟩\/s=⟨#[67,65,76,76]⟩
def I6 (s:ByteArray):Prop:=s=⟨#[76,68]⟩
instance (s:ByteArray):Decidable (I1 s):=by unfold I1;infer_instance
instance (s:ByteArray):Decidable (I2 s):=by unfold I2;infer_instance
instance (s:ByteArray):Decidable (I3 s):=by unfold I3;infer_instance
instance (s:ByteArray):Decidable (I4 s):=by unfold I4;infer_instance
instance (s:ByteArray):Decidable (I5 s):=by unfold I5;infer_instance
instance (s:ByteArray):Decidable (I6 s):=by unfold I6;infer_instance
def opc (s:ByteArray):Nat:=if I1 s then 1 else if I2 s then 2 else if I3 s then 3 else if I4 s then 4 else if I5 s then 5 else if I6 s then 6 else 0
theorem qtA {s:ByteArray} (h:I1 s):opc s=1:=by rcases h with rfl | rfl | rfl | rfl | rfl <;> decide +kernel
theorem qrd {s:ByteArray} (h:I2 s):opc s=2:=by rcases h with rfl | rfl | rfl <;> decide +kernel
theorem qvQ {s:ByteArray} (h:I3 s):opc s=3:=by obtain rfl:s=_:=h;decide +kernel
theorem qzM {s:ByteArray} (h:I4 s):opc s=4:=by rcases h with rfl | rfl | rfl | rfl | rfl | rfl <;> decide +kernel
theorem qzi {s:ByteArray} (h:I5 s):opc s=5:=by rcases h with rfl | rfl <;> decide +kernel
theorem qyw {s:ByteArray} (h:I6 s):opc s=6:=by obtain rfl:s=_:=h;decide +kernel
theorem qeZ {s:ByteArray} (h:¬I1 s):opc s≠1:=by
 unfold opc;rw [Qe h];split <;> try decide
 split <;> try decide
 split <;> try decide
 split <;> try decide
 split <;> decide
theorem qe8 {s:ByteArray} (h:¬I2 s):opc s≠2:=by
 unfold opc;rw [Qe h];split <;> try decide
 split <;> try decide
 split <;> try decide
 split <;> try decide
 split <;> decide
theorem qfR {s:ByteArray} (h:¬I3 s):opc s≠3:=by
 unfold opc;rw [Qe h];split <;> try decide
 split <;> try decide
 split <;> try decide
 split <;> try decide
 split <;> decide
theorem qwL {s:ByteArray} (h:¬I4 s):opc s≠4:=by
 unfold opc;rw [Qe h];split <;> try decide
 split <;> try decide
 split <;> try decide
 split <;> try decide
 split <;> decide
theorem qwZ {s:ByteArray} (h:¬I5 s):opc s≠5:=by
 unfold opc;rw [Qe h];split <;> try decide
 split <;> try decide
 split <;> try decide
 split <;> try decide
 split <;> decide
theorem qxc {s:ByteArray} (h:¬I6 s):opc s≠6:=by
 unfold opc;rw [Qe h];split <;> try decide
 split <;> try decide
 split <;> try decide
 split <;> try decide
 split <;> decide
def accL (c:Nat) (L:List Tr):List Tr:=if c=1/\L.length=2/\L.head?=some qbV then L.tail else if c=2/\L.length=1 then qbV :: L else L
def exL (c:Nat) (L:List Tr):List Tr:=if c=3/\L=[hlT,deT] then [deT,hlT] else L
def qcP (c:Nat) (L:List Tr):Int:=if c=4 then 0 else if c=5 then 2 else if c=6/\L.head?.map (fun h=>h.1)=some 3 then 2 else 1
def qeK (w:Int):Int:=if w=1 then 256 else if w=2 then 65536 else 0
def wrapT (v:Int) (t:Tr):Tr:=if t.1=6/\-(v / 2)<=t.2.2/\t.2.2<0 then (t.1,t.2.1,t.2.2+v) else t
def canL (c:Nat) (L:List Tr):List Tr:=(exL c (accL c L)).map (wrapT (qeK (qcP c L)))
theorem qgY (w:Int):qeK w=256\/qeK w=65536\/qeK w=0:=by
 unfold qeK;split
 ·exact .inl rfl
 ·split
  ·exact .inr (.inl rfl)
  ·exact .inr (.inr rfl)
theorem qms (c:Nat) (L:List Tr):(accL c L).length<=L.length+1:=by
 unfold accL;split
 ·rw [List.length_tail];omega
 ·split
  ·exact Qa _
  ·omega
theorem qip (c:Nat) (L:List Tr):(exL c L).length=L.length:=by
 unfold exL;split
 ·rename_i h;rw [h.2];rfl
 ·rfl
theorem qeA (c:Nat) (L:List Tr):(canL c L).length<=L.length+1:=by
 unfold canL;rw [QC,qip];exact qms c L
theorem qlR (L:List Tr) (h:L.length=2):∃ a b,L=[a,b]:=by
 cases L with
 | nil=>simp at h
 | cons a c=>
  cases c with
  | nil=>simp at h
  | cons b c=>
   cases c with
   | nil=>exact ⟨a,b,rfl⟩
   | cons q c=>simp at h
end Go.Proofs.YtecpnfhpcamljaaGreatDoor
