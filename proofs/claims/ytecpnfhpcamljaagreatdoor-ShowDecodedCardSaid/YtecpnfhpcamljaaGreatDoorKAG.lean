/-
  CnN, CnP, Mixed2, CnR, CnX, CnI, CnJ, CnQ, CnS, CnT, CnO, CnUa.
-/
import Derived.Test.YtecpnfhpcamljaaGreatDoorKAF
import Derived.Lib.Overlaps
import Derived.Lib.AppendZerosOnto
set_option linter.all false
set_option maxRecDepth 100000
set_option maxHeartbeats 4000000
namespace Go.Proofs.YtecpnfhpcamljaaGreatDoor
open Tryz
open Go.RowKit
def wL (v:Int) (L:List Tr) (j:Nat):List Tr:=(L.take j).map (wrapT v)++L.drop j
theorem qjm (v:Int) (L:List Tr):wL v L L.length=L.map (wrapT v):=by unfold wL;rw [Zt,List.drop_length,Zu]
theorem qgp (v:Int) (L:List Tr) (j:Nat):(wL v L j).length=L.length:=by
 unfold wL;rw [Qk,QC,<- Qk,List.take_append_drop]
theorem qjs (v:Int) (L:List Tr) (j:Nat) (q:j<L.length) (h:j<(wL v L j).length):(wL v L j)[j]=L[j]:=by
 have e:(wL v L j)[j]?=some L[j]:=by
  unfold wL;rw [Zr (by rw [QC,QH];omega),Zc,QC,QH,show j+(j - min j L.length)=j by omega];exact Qg q
 rw [Qg h] at e;exact Qs e
theorem quh (v:Int) (L:List Tr) (j:Nat) (h:j<L.length):(wL v L j).set j (wrapT v L[j])=wL v L (j+1):=by
 unfold wL;rw [QL h,Zg,Za,List.set_append_right _ _ (by rw [QC,QH];omega)]
 congr 1
 rw [List.drop_eq_getElem_cons h,QC,QH,show j - min j L.length=0 by omega];rfl
theorem qzQ (v:Int) (L:List Tr) (j:Nat) (h:j<L.length) (e:wrapT v L[j]=L[j]):wL v L j=wL v L (j+1):=by
 have q:j<(wL v L j).length:=by rw [qgp];exact h
 rw [<- quh v L j h,e,<- qjs v L j h q,List.set_getElem_self]
theorem qjS (v:Int) (L:List Tr) (j:Nat) (e:j<L.length) (q:L[j].1=6/\-(v / 2)<=L[j].2.2/\L[j].2.2<0):(cellsT (wL v L j)).set (j*3+2) (.int .i64 (L[j].2.2+v))=cellsT (wL v L (j+1)):=by
 have h:j<(wL v L j).length:=by rw [qgp];exact e
 have y:wrapT v L[j]=(L[j].1,L[j].2.1,L[j].2.2+v):=by unfold wrapT;rw [Qi q]
 rw [<- quh v L j e,y];exact (qeb _ _ _ _ _ h (by rw [qjs v L j e h]) (by rw [qjs v L j e h])).symm
theorem qiK (v:Int) (L:List Tr) (j:Nat) (h:j<L.length) (q:¬(L[j].1=6/\-(v / 2)<=L[j].2.2/\L[j].2.2<0)):wL v L j=wL v L (j+1):=
 qzQ v L j h (by unfold wrapT;rw [Qe q])
theorem qbT (c:Nat) (L:List Tr):qcP c L=0\/qcP c L=1\/qcP c L=2:=by
 unfold qcP;split
 ·exact .inl rfl
 ·split
  ·exact .inr (.inr rfl)
  ·split
   ·exact .inr (.inr rfl)
   ·exact .inr (.inl rfl)
theorem qrZ (s:ByteArray) (B W:Nat) (ae:B<=W) (v:Value) (L:List Tr) (aT:L.length<=1000) (w:World) (aA:Dr w W s v) (aI:qan w B v L) :
  Calls prog 114 #[.pointer (some ⟨W,0,none⟩)] w fun aB aK=>aB=.returned (.tuple #[])/\Dr aK W s v/\qan aK B v (L.map (wrapT (qeK (qcP (opc s) L))))/\Below B w aK:=by
 obtain ⟨an,K,rfl,aR,aG,aU⟩:=aI.ops;have aj:=J9 (qq4 s an K L aT w aR);obtain ⟨Z,V,-,-⟩:=aA.cells;have ao:=J9 aA;have am:=J9 aI;have aP:=fun v=>J9 (qjS v L)
 have aE:=fun v=>J9 (qiK v L)
 have ax:=fun v=>J9 (qjm v L)
 have aM:=fun v=>J9 (qjs v L)
 have ai:=fun v e=>qgp v L e
 obtain ⟨y,aL⟩:=N9 (L.length);have aN:=J9 aL;rw [aL] at ao am aj V ax ai aG aT |-;have af:Hid (W<w.heap.size):=aA.lt;clear aA aI aR aL;obtain ⟨a2,n⟩:=N9 (qcP (opc s) L);have aX:=qbT (opc s) L;rw [n] at aj aX |-;clear n;rcases aX with rfl | rfl | rfl
 ·have ah:qeK 0=0:=rfl
  rw [ah];clear ah
  go_enter func114,ntmps114
  go_wp2_with fail
  refine aj.o.mono ?_;rintro aB aq ⟨rfl,T⟩;have i:Hid (Below B w aq):=T.mono (Qj ae (QV af.o));have h:=J9 (ao.o.below T);have x:=J9 (am.o.below T);clear T ao am Z V aj;obtain ⟨Z,V,-,-⟩:=h.o.cells;go_wp2;clear Z V
  go_loopw [20] (fun ad wr=>∃ e:Nat,e<=y/\ad=.int .i64 e/\Hid (Dr wr W s (.slice an y K))/\Hid (qan wr B (.slice an y K) (wL 0 L e))/\Hid (Below B w wr)) (fun ad _=>y - (intOf ad).toNat)
  case atStart=>exact ⟨0,Qu _,rfl,h.o,x.o,i.o⟩
  case round=>
   clear h x i;obtain ⟨e,aW,rfl,h,x,i⟩:=hrel;by_cases aw:e<y
   ·have O:e<L.length:=by have:=aN.o;omega
    have ab:e<(wL 0 L e).length:=(by rw [ai];exact aw);obtain ⟨q,z,aQ,ag,-,-,j⟩:=x.o.qA8 (by omega);simp only [Qy] at ag;obtain ⟨rfl,-,-⟩:=ag;obtain ⟨aa,ac,Y⟩:=j.at_ e ab;rw [(aM 0).o e O ab] at aa ac Y;have ay:=j.apart h.o;have az:=j.lt;have aY:=j.frozen (z+e*3+2);have E:=J9 ((aP 0).o e O);have o:=J9 ((aE 0).o e O);obtain ⟨⟨au,ap,G⟩,ak⟩:=N9 (L[e]);rw [ak] at aa ac Y E o;simp only at aa ac Y E o;obtain ⟨Z,V,-,-⟩:=h.o.cells;have N:=(fun g=>J9 (h.o.alloc g));have U:=(fun g=>J9 (i.o.alloc (Qj (Qj ae (QV af.o)) i.o.size) g));have aD:Hid (B<=q):=j.1;have aC:Hid (B<=wr.heap.size):=Qj (Qj ae (QV af.o)) i.o.size;have j:=J9 j;have aV:q≠wr.heap.size:=(by omega);have aZ:W≠wr.heap.size:=(by have:=h.o.lt;omega);have A:∀ g,Hid (qan (wr.alloc g) B (.slice (some ⟨q,z,none⟩) y K) (wL 0 L e)):=(fun g=>x.o.alloc g);clear O ab ak x;by_cases M:au=6
    ·by_cases aS:0<=G
     ·have n:=o.o fun J=>absurd J.2.2 (by omega)
      rw [n] at A;subst M;clear n E o h i j;go_wp2;go_roundw
      case rel=>exact ⟨e+1,by omega,by go_num,(N _).o,(A _).o,(U _).o⟩
      case measure=>simp [intOf];omega
     ·have n:=o.o fun J=>absurd J.2.1 (by omega)
      rw [n] at A;subst M;clear n E o h i j;go_wp2;go_roundw
      case rel=>exact ⟨e+1,by omega,by go_num,(N _).o,(A _).o,(U _).o⟩
      case measure=>simp [intOf];omega
    ·have n:=o.o fun J=>M J.1
     rw [n] at A;clear n E o h i j;go_wp2;go_roundw
     case rel=>exact ⟨e+1,by omega,by go_num,(N _).o,(A _).o,(U _).o⟩
     case measure=>simp [intOf];omega
   ·have av:e=y:=by omega
    subst av;rw [(ax 0).o] at x;go_wp2;refine bodyPost_end (v:=.tuple #[]) ?_ rfl ⟨rfl,h.o,x.o,i.o⟩;simp [results,results114,go_sem]
 ·have ah:qeK 1=256:=rfl
  rw [ah];clear ah
  go_enter func114,ntmps114
  go_wp2_with fail
  refine aj.o.mono ?_;rintro aB aq ⟨rfl,T⟩;have i:Hid (Below B w aq):=T.mono (Qj ae (QV af.o));have h:=J9 (ao.o.below T);have x:=J9 (am.o.below T);clear T ao am Z V aj;obtain ⟨Z,V,-,-⟩:=h.o.cells;go_wp2;clear Z V
  go_loopw [20] (fun ad wr=>∃ e:Nat,e<=y/\ad=.int .i64 e/\Hid (Dr wr W s (.slice an y K))/\Hid (qan wr B (.slice an y K) (wL 256 L e))/\Hid (Below B w wr)) (fun ad _=>y - (intOf ad).toNat)
  case atStart=>exact ⟨0,Qu _,rfl,h.o,x.o,i.o⟩
  case round=>
   clear h x i;obtain ⟨e,aW,rfl,h,x,i⟩:=hrel;by_cases aw:e<y
   ·have O:e<L.length:=by have:=aN.o;omega
    have ab:e<(wL 256 L e).length:=(by rw [ai];exact aw);obtain ⟨q,z,aQ,ag,-,-,j⟩:=x.o.qA8 (by omega);simp only [Qy] at ag;obtain ⟨rfl,-,-⟩:=ag;obtain ⟨aa,ac,Y⟩:=j.at_ e ab;rw [(aM 256).o e O ab] at aa ac Y;have ay:=j.apart h.o;have az:=j.lt;have aY:=j.frozen (z+e*3+2);have E:=J9 ((aP 256).o e O);have o:=J9 ((aE 256).o e O);obtain ⟨⟨au,ap,G⟩,ak⟩:=N9 (L[e]);rw [ak] at aa ac Y E o;simp only at aa ac Y E o;obtain ⟨Z,V,-,-⟩:=h.o.cells;have N:=(fun g=>J9 (h.o.alloc g));have U:=(fun g=>J9 (i.o.alloc (Qj (Qj ae (QV af.o)) i.o.size) g));have aD:Hid (B<=q):=j.1;have aC:Hid (B<=wr.heap.size):=Qj (Qj ae (QV af.o)) i.o.size;have j:=J9 j;have aV:q≠wr.heap.size:=(by omega);have aZ:W≠wr.heap.size:=(by have:=h.o.lt;omega);have A:∀ g,Hid (qan (wr.alloc g) B (.slice (some ⟨q,z,none⟩) y K) (wL 256 L e)):=(fun g=>x.o.alloc g);clear O ab ak x;by_cases M:au=6
    ·by_cases aS : -128<=G
     ·by_cases aF:G<0
      ·have n:=E.o ⟨M,by omega,aF⟩
       have aO:∀ g,Hid (qan ((wr.setCell ⟨q,z+e*3+2,none⟩ (.int .i64 (G+256))).alloc g) B (.slice (some ⟨q,z,none⟩) y K) (wL 256 L (e+1))):=fun g=>by
        have ar:=j.o.put (e*3+2) _ n;rw [<- Nat.add_assoc] at ar;exact qan.alloc (.inr ⟨q,z,K,by rw [ai],by rw [ai];exact aG,aU,ar⟩) g
       have aH:∀ g,Hid (Dr ((wr.setCell ⟨q,z+e*3+2,none⟩ (.int .i64 (G+256))).alloc g) W s (.slice (some ⟨q,z,none⟩) y K)):=(fun g=>(h.o.other ay _ _).alloc g);have aJ:∀ g,Hid (Below B w ((wr.setCell ⟨q,z+e*3+2,none⟩ (.int .i64 (G+256))).alloc g)):=(fun g=>(i.o.setCell (p:=⟨q,z+e*3+2,none⟩) aD.o _).alloc (by simp;exact aC.o) g);subst M;have a1:=(N (.cells #[.int .i64 6,.int .i64 ap,.int .i64 G] 56)).o.cells.2.1;have a0:(wr.alloc (.cells #[.int .i64 6,.int .i64 ap,.int .i64 G] 56)).cell? ⟨q,z+e*3+2,none⟩=some (.int .i64 G):=(World.cell?_alloc_lt wr _ _ az).trans Y;clear n E o A N U h i j;go_wp2;go_roundw
       case rel=>exact ⟨e+1,by omega,by go_num,(aH _).o,(aO _).o,(aJ _).o⟩
       case measure=>simp [intOf];omega
      ·have n:=o.o fun J=>absurd J.2.2 (by omega)
       rw [n] at A;subst M;clear n E o h i j;go_wp2;go_roundw
       case rel=>exact ⟨e+1,by omega,by go_num,(N _).o,(A _).o,(U _).o⟩
       case measure=>simp [intOf];omega
     ·have n:=o.o fun J=>absurd J.2.1 (by omega)
      rw [n] at A;subst M;clear n E o h i j;go_wp2;go_roundw
      case rel=>exact ⟨e+1,by omega,by go_num,(N _).o,(A _).o,(U _).o⟩
      case measure=>simp [intOf];omega
    ·have n:=o.o fun J=>M J.1
     rw [n] at A;clear n E o h i j;go_wp2;go_roundw
     case rel=>exact ⟨e+1,by omega,by go_num,(N _).o,(A _).o,(U _).o⟩
     case measure=>simp [intOf];omega
   ·have av:e=y:=by omega
    subst av;rw [(ax 256).o] at x;go_wp2;refine bodyPost_end (v:=.tuple #[]) ?_ rfl ⟨rfl,h.o,x.o,i.o⟩;simp [results,results114,go_sem]
 ·have ah:qeK 2=65536:=rfl
  rw [ah];clear ah
  go_enter func114,ntmps114
  go_wp2_with fail
  refine aj.o.mono ?_;rintro aB aq ⟨rfl,T⟩;have i:Hid (Below B w aq):=T.mono (Qj ae (QV af.o));have h:=J9 (ao.o.below T);have x:=J9 (am.o.below T);clear T ao am Z V aj;obtain ⟨Z,V,-,-⟩:=h.o.cells;go_wp2;clear Z V
  go_loopw [20] (fun ad wr=>∃ e:Nat,e<=y/\ad=.int .i64 e/\Hid (Dr wr W s (.slice an y K))/\Hid (qan wr B (.slice an y K) (wL 65536 L e))/\Hid (Below B w wr)) (fun ad _=>y - (intOf ad).toNat)
  case atStart=>exact ⟨0,Qu _,rfl,h.o,x.o,i.o⟩
  case round=>
   clear h x i;obtain ⟨e,aW,rfl,h,x,i⟩:=hrel;by_cases aw:e<y
   ·have O:e<L.length:=by have:=aN.o;omega
    have ab:e<(wL 65536 L e).length:=(by rw [ai];exact aw);obtain ⟨q,z,aQ,ag,-,-,j⟩:=x.o.qA8 (by omega);simp only [Qy] at ag;obtain ⟨rfl,-,-⟩:=ag;obtain ⟨aa,ac,Y⟩:=j.at_ e ab;rw [(aM 65536).o e O ab] at aa ac Y;have ay:=j.apart h.o;have az:=j.lt;have aY:=j.frozen (z+e*3+2);have E:=J9 ((aP 65536).o e O);have o:=J9 ((aE 65536).o e O);obtain ⟨⟨au,ap,G⟩,ak⟩:=N9 (L[e]);rw [ak] at aa ac Y E o;simp only at aa ac Y E o;obtain ⟨Z,V,-,-⟩:=h.o.cells;have N:=(fun g=>J9 (h.o.alloc g));have U:=(fun g=>J9 (i.o.alloc (Qj (Qj ae (QV af.o)) i.o.size) g));have aD:Hid (B<=q):=j.1;have aC:Hid (B<=wr.heap.size):=Qj (Qj ae (QV af.o)) i.o.size;have j:=J9 j;have aV:q≠wr.heap.size:=(by omega);have aZ:W≠wr.heap.size:=(by have:=h.o.lt;omega);have A:∀ g,Hid (qan (wr.alloc g) B (.slice (some ⟨q,z,none⟩) y K) (wL 65536 L e)):=(fun g=>x.o.alloc g);clear O ab ak x;by_cases M:au=6
    ·by_cases aS : -32768<=G
     ·by_cases aF:G<0
      ·have n:=E.o ⟨M,by omega,aF⟩
       have aO:∀ g,Hid (qan ((wr.setCell ⟨q,z+e*3+2,none⟩ (.int .i64 (G+65536))).alloc g) B (.slice (some ⟨q,z,none⟩) y K) (wL 65536 L (e+1))):=fun g=>by
        have ar:=j.o.put (e*3+2) _ n;rw [<- Nat.add_assoc] at ar;exact qan.alloc (.inr ⟨q,z,K,by rw [ai],by rw [ai];exact aG,aU,ar⟩) g
       have aH:∀ g,Hid (Dr ((wr.setCell ⟨q,z+e*3+2,none⟩ (.int .i64 (G+65536))).alloc g) W s (.slice (some ⟨q,z,none⟩) y K)):=(fun g=>(h.o.other ay _ _).alloc g);have aJ:∀ g,Hid (Below B w ((wr.setCell ⟨q,z+e*3+2,none⟩ (.int .i64 (G+65536))).alloc g)):=(fun g=>(i.o.setCell (p:=⟨q,z+e*3+2,none⟩) aD.o _).alloc (by simp;exact aC.o) g);subst M;have a1:=(N (.cells #[.int .i64 6,.int .i64 ap,.int .i64 G] 56)).o.cells.2.1;have a0:(wr.alloc (.cells #[.int .i64 6,.int .i64 ap,.int .i64 G] 56)).cell? ⟨q,z+e*3+2,none⟩=some (.int .i64 G):=(World.cell?_alloc_lt wr _ _ az).trans Y;clear n E o A N U h i j;go_wp2;go_roundw
       case rel=>exact ⟨e+1,by omega,by go_num,(aH _).o,(aO _).o,(aJ _).o⟩
       case measure=>simp [intOf];omega
      ·have n:=o.o fun J=>absurd J.2.2 (by omega)
       rw [n] at A;subst M;clear n E o h i j;go_wp2;go_roundw
       case rel=>exact ⟨e+1,by omega,by go_num,(N _).o,(A _).o,(U _).o⟩
       case measure=>simp [intOf];omega
     ·have n:=o.o fun J=>absurd J.2.1 (by omega)
      rw [n] at A;subst M;clear n E o h i j;go_wp2;go_roundw
      case rel=>exact ⟨e+1,by omega,by go_num,(N _).o,(A _).o,(U _).o⟩
      case measure=>simp [intOf];omega
    ·have n:=o.o fun J=>M J.1
     rw [n] at A;clear n E o h i j;go_wp2;go_roundw
     case rel=>exact ⟨e+1,by omega,by go_num,(N _).o,(A _).o,(U _).o⟩
     case measure=>simp [intOf];omega
   ·have av:e=y:=by omega
    subst av;rw [(ax 65536).o] at x;go_wp2;refine bodyPost_end (v:=.tuple #[]) ?_ rfl ⟨rfl,h.o,x.o,i.o⟩;simp [results,results114,go_sem]
theorem qoT (w:World):Calls prog 162 #[] w fun o h=>o=.returned (.agg #[.int .i64 1,.int .i64 7,.int .i64 0])/\Below w.heap.size w h:=by
 have B0:∀ e,Hid (Below w.heap.size w (w.alloc e)):=fun e=>B0
 go_enter func162,ntmps162
 go_wp2;refine bodyPost_ret (v:=.agg #[.int .i64 1,.int .i64 7,.int .i64 0]) ?_ rfl ⟨rfl,(B0 _).o⟩;simp [results,results162,go_sem]
theorem qf9 (r:Int) (w:World):Calls prog 165 #[.int .i64 r] w fun o h=>o=.returned (.agg #[.int .i64 3,.int .i64 r,.int .i64 0])/\Below w.heap.size w h:=by
 have B0:∀ e,Hid (Below w.heap.size w (w.alloc e)):=fun e=>B0
 go_enter func165,ntmps165
 go_wp2;refine bodyPost_ret (v:=.agg #[.int .i64 3,.int .i64 r,.int .i64 0]) ?_ rfl ⟨rfl,(B0 _).o⟩;simp [results,results165,go_sem]
end Go.Proofs.YtecpnfhpcamljaaGreatDoor
namespace Go.Mixed2
open Go Go.Mixed
section
variable {P:Program} {ops:Array Oper} {md:Region.Mode}
def CS (s:Nat) (C:World->Prop) (h:Array Bool) (w:World):Prop:=h.getD s true=false->C w
def qa6 (P:Program) (md:Region.Mode) (ops:Array Oper) (n s:Nat) (C:World->Prop) (L:Array Bool->Act->World->Prop):Nat->Array Bool->Act->World->Prop
 | 0,a,q,h=>CS s C a h/\L a q h
 | f+1,a,q,h=>CS s C a h/\Region.ready md ops a≠[]/\∀ i∈Region.ready md ops a,i<n/\wpOp P ops QF i (qa6 P md ops n s C L f (a.setIfInBounds i true)) q h
theorem qd5 {n s:Nat} {C:World->Prop} {L:Array Bool->Act->World->Prop} {f:Nat} {h:Array Bool} {a:Act} {w:World} (q:qa6 P md ops n s C L f h a w):CS s C h w:=by cases f <;> exact q.1
theorem qam {n g s:Nat} {C:World->Prop} {L:Array Bool->Act->World->Prop} {Q':Exit->Act->World->Prop} (y:∀ h a w,L h a w->wpAny P md ops Q' g h a w) :
  ∀ (f:Nat) (h:Array Bool) (a:Act) (w:World),qa6 P md ops n s C L f h a w->wpAny P md ops Q' (f+g) h a w
 | 0,h,a,w,q=>by rw [QT];exact y _ _ _ q.2
 | f+1,h,a,w,q=>by
  rw [show f+1+g=(f+g)+1 by omega];exact ⟨fun G=>absurd G q.2.1,fun i E=>qcL (fun J w' z=>qam y f _ J w' z) (q.2.2 i E).2⟩
theorem qaR {C D:World->Prop} {n i s:Nat} {J:Oper} {v:Value} {L:Array Bool->Act->World->Prop} (Z:ops[i]?=some J) (aj:∀ (j:Nat) (o:Oper) cs b,ops[j]?=some o->o.op≠.select cs b)
  (af:Region.sinkB md ops n=true) (ag:Region.chainB md ops n=true) (ah:n<ops.size) (ae:i<n) (ar:i≠s)
  (ai:∀ h w,HeadInv md ops n h->h.getD i true=false->CS s C h w->D w)
  (av:∀ h a w,L h a w->∀ j∈Region.ready md ops h,n<=j) :
  ∀ (f:Nat) (h:Array Bool) (a:Act) (w:World),HeadInv md ops n h->
   (∀ j G,ops[j]?=some G->j≠i->h.getD j true=false->(∀ e∈G.after,Region.binds md e=true->e.on≠i)->J.apart ops G=true)->
   i∈Region.ready md ops h->Pure P ops D J v a->CS s C h w->
   qa6 P md ops n s C L f (h.setIfInBounds i true) (a.put J.dst v) w->qa6 P md ops n s C L (f+1) h a w:=by
 intro f
 induction f with
 | zero=>
  intro h a w H _ z V O M;have q:=(mem_ready.1 z).1;refine ⟨O,fun k=>(by rw [k] at z;cases z),fun j E=>?_⟩;have U:j<n:=by
   rcases Nat.lt_or_ge j n with k | k
   ·exact k
   ·exact absurd E (tail_waits af ag ah H _ i rfl ae q j k)
  refine ⟨U,?_⟩;by_cases y:j=i
  ·subst y;exact V.wpOp Z (ai _ _ H q O) M
  ·have:=av _ _ _ M.2 j (ready_mono E y)
   omega
 | succ f aB=>
  intro h a w H ac z V O M;have q:=(mem_ready.1 z).1;refine ⟨O,fun k=>(by rw [k] at z;cases z),fun j E=>?_⟩;have U:j<n:=by
   rcases Nat.lt_or_ge j n with k | k
   ·exact k
   ·exact absurd E (tail_waits af ag ah H _ i rfl ae q j k)
  refine ⟨U,?_⟩;by_cases y:j=i
  ·subst y;exact V.wpOp Z (ai _ _ H q O) M
  ·have T:=(M.2.2 j (ready_mono E y)).2
   obtain ⟨ad,G,ab,am⟩:=mem_ready.1 E;have ao:∀ e∈G.after,Region.binds md e=true->e.on≠i:=fun e aD aq aC=>by
    have T:=am e aD aq;rw [aC,getD_both q] at T;cases T
   have aA:=Mixed.wpOp_put ab (ac j G ab y ad ao) (fun cs b=>aj i J cs b Z) (fun cs b=>aj j G cs b ab) V T;have aw:∀ K ok,ops[K]?=some ok->K≠i->(h.setIfInBounds j true).getD K true=false->
     (∀ e∈ok.after,Region.binds md e=true->e.on≠i)->J.apart ops ok=true:=fun K ok aF aE q ap=>by
    refine ac K ok aF aE ?_ ap;by_cases ak:j=K
    ·subst ak;exact ad
    ·rw [getD_set_ne true ak] at q;exact q
   refine qcL (fun az ax aa=>?_) aA;obtain ⟨aa,W⟩:=aa;rw [Array.setIfInBounds_comm _ _ (fun e=>y e.symm)] at W;have au:=ready_mono z (Ne.symm y);refine aB (h.setIfInBounds j true) az ax (H.set E U) aw au aa (fun an=>?_) W;have ay:=qd5 W;refine ay ?_;rw [getD_set_ne true ar];exact an
def qkE (md:Region.Mode) (ops:Array Oper) (n g s:Nat):List (Nat×Nat)->Array Bool->Bool
 | [],h=>Region.seqB md ops g n h
 | (k,0) :: q,h=>(Region.ready md ops h).contains k&&decide (k<n)&&decide (k≠s)&&Region.waitsFor md ops s k&&Region.free md ops h k&&qkE md ops n g s q (h.setIfInBounds k true)
 | (k,1) :: q,h=>(Region.ready md ops h).contains k&&decide (k<n)&&decide (k≠s)&&Region.free md ops h k&&qkE md ops n g s q (h.setIfInBounds k true)
 | (k,_) :: q,h=>decide (Region.ready md ops h=[k])&&decide (k<n)&&qkE md ops n g s q (h.setIfInBounds k true)
def qgc (md:Region.Mode) (ops:Array Oper) (n s:Nat) (h:List (Nat×Nat)):Bool:=
 Region.noSelect ops&&decide (n<ops.size)&&decide (h.length+(ops.size - n)=ops.size)&&Region.sinkB md ops n&&Region.chainB md ops n&&qkE md ops n (ops.size - n) s h (Array.replicate ops.size false)
def qAU (P:Program) (ops:Array Oper) (s:Nat) (C:World->Prop) (q:Act->World->Prop):Bool->List (Nat×Nat)->Act->World->Prop
 | _,[],a,h=>q a h
 | sw,(k,0) :: r,a,h=>match ops[k]? with
  | none=>False
  | some o=>∃ v,Pure P ops C o v a/\qAU P ops s C q sw r (a.put o.dst v) h
 | sw,(k,1) :: r,a,h=>match ops[k]? with
  | none=>False
  | some o=>∃ v,Pure P ops (fun _=>True) o v a/\qAU P ops s C q sw r (a.put o.dst v) h
 | sw,(k,_) :: r,a,h=>wpOp P ops QF k (fun w w'=>((sw||decide (k=s))=false->C w')/\qAU P ops s C q (sw||decide (k=s)) r w w') a h
theorem qn8 {n s k:Nat} {e:Array Bool} (O:HeadInv md ops n e) (y:Region.waitsFor md ops s k=true) (G:e.getD k true=false) (T:s<e.size):e.getD s true=false:=by
 obtain ⟨M,q,J,K,E,z⟩:=Region.waitsFor_spec y;cases h:e.getD s false with
 | true=>
  have:=O.closed s M q h J K E;rw [z,getD_both G] at this;cases this
 | false=>exact getD_in T h
theorem qaV {C:World->Prop} {n g s:Nat} {ai:Act->World->Prop} (W:Region.noSelect ops=true) (K:Region.sinkB md ops n=true) (M:Region.chainB md ops n=true) (O:n<ops.size) :
  ∀ (af:List (Nat×Nat)) (v:Bool) (h:Array Bool) (a:Act) (w:World),HeadInv md ops n h->(v=true->h.getD s true=true)->qkE md ops n g s af h=true->CS s C h w->qAU P ops s C ai v af a w->
  qa6 P md ops n s C (fun ad U w'=>Region.seqB md ops g n ad=true/\ai U w') af.length h a w
 | [],v,h,a,w,_,_,m,r,e=>⟨r,m,e⟩
 | (k,0) :: E,v,h,a,w,i,J,m,r,e=>by
  simp only [qkE,Qd,Qf] at m;obtain ⟨⟨⟨⟨⟨G,y⟩,o⟩,an⟩,ae⟩,T⟩:=m;have V:k∈Region.ready md ops h:=by simpa using G
  simp only [qAU] at e;cases q:ops[k]? with
  | none=>rw [q] at e;exact e.elim
  | some ao=>
   rw [q] at e;obtain ⟨ap,ac,ab⟩:=e;refine qaR q (Region.noSelect_spec W) K M O y o (fun h w i aj ah=>ah (qn8 i an aj ?_)) (fun ad U w' ag=>seqB_ready ag.1) E.length h a w i (Region.free_spec q ae) V ac r
    (qaV W K M O E v _ _ w (i.set V y) (fun e=>?_) T (fun e=>r ?_) ab)
   ·obtain ⟨aw,ar,_⟩:=Region.waitsFor_spec an
    rw [i.size];exact (Qb.1 ar).1
   ·rw [getD_set_ne true o];exact J e
   ·rw [getD_set_ne true o] at e;exact e
 | (k,1) :: E,v,h,a,w,i,J,m,r,e=>by
  simp only [qkE,Qd,Qf] at m;obtain ⟨⟨⟨⟨G,y⟩,o⟩,ae⟩,T⟩:=m;have V:k∈Region.ready md ops h:=by simpa using G
  simp only [qAU] at e;cases q:ops[k]? with
  | none=>rw [q] at e;exact e.elim
  | some ao=>
   rw [q] at e;obtain ⟨ap,ac,ab⟩:=e;refine qaR q (Region.noSelect_spec W) K M O y o (fun h w i aj ah=>trivial) (fun ad U w' ag=>seqB_ready ag.1) E.length h a w i (Region.free_spec q ae) V ac r
    (qaV W K M O E v _ _ w (i.set V y) (fun e=>?_) T (fun e=>r ?_) ab)
   ·rw [getD_set_ne true o];exact J e
   ·rw [getD_set_ne true o] at e;exact e
 | (k,av+2) :: E,v,h,a,w,i,J,m,r,e=>by
  simp only [qkE,Qd,Qf] at m;obtain ⟨⟨G,y⟩,T⟩:=m;simp only [qAU] at e;have aq:Region.ready md ops h≠[]:=by rw [G];exact List.cons_ne_nil _ _
  refine ⟨r,aq,fun Z am=>?_⟩;rw [G] at am;have au:Z=k:=by simpa using am
  subst au;have o:Z<h.size:=by rw [i.size];omega
  refine ⟨y,qcL (fun U w' ak=>?_) e⟩;refine qaV W K M O E _ _ U w' (i.set (by rw [G];exact QI.2 rfl) y) (fun e=>?_) T (fun aa=>ak.1 ?_) ak.2
  ·by_cases z:Z=s
   ·subst z;simp [o]
   ·rw [getD_set_ne true z]
    simp only [Qh z,Bool.or_false] at e;exact J e
  ·by_cases z:Z=s
   ·subst z;simp [o] at aa
   ·rw [getD_set_ne true z] at aa
    cases v with
    | true=>rw [J rfl] at aa;cases aa
    | false=>simp [z]
theorem qAQ {V:Nat} {Q:Exit->Act->World->Prop} {a:Act} {w:World} {l:List Oper} (C:World->Prop) (n s:Nat) (q:List (Nat×Nat)) (U:P.follows .mixedOrders=true) (t:qgc .any l.toArray n s q=true)
  (ab:C w.drew) (h:qAU P l.toArray s C (fun j w'=>wpList P l.toArray Q (l.drop n) j w') false q a w.drew):(Code.region V l.toArray true).wp P Q a w:=by
 simp only [qgc,Qd,Qf] at t;obtain ⟨⟨⟨⟨⟨ac,T⟩,W⟩,K⟩,M⟩,J⟩:=t;have z:(l.drop n).length=l.toArray.size - n:=by simp
 have H:HeadInv .any l.toArray n (Array.replicate l.toArray.size false):=
  ⟨by simp,fun aa ad _ y=>(by rw [getD_replicate_false] at y;cases y),fun ae _ O=>getD_in (by simpa using O) (getD_replicate_false _ _)⟩
 have G:=qaV (s:=s) ac K M T q false _ a w.drew H (fun h=>by cases h) J (fun _=>ab) h;refine wp_region_any U ?_;have:=qam (Q':=Q) (g:=l.toArray.size - n) (fun Z j w' E=>by
  have:=wpAny_of_seq (md:=.any) (Q':=Q) (l.drop n) n Z j w' (fun aa=>by simp [Zc]) (by rw [z];exact E.1) E.2
  rwa [z] at this) _ _ _ _ G
 rw [W] at this;exact this
theorem qBu {s:Nat} {q:Bool} {C:World->Prop} {h:Act->World->Prop} {k:Nat} {r:List (Nat×Nat)} {a:Act} {w:World} {o:Oper} (G:ops[k]?=some o) (E:Region.wanted o (yielded ops a.tmps)=true) (v:Value)
  (z:∀ w,C w->(execOp a.eval o).run P w=.ok (.value v) w) (y:qAU P ops s C h q r (a.put o.dst v) w):qAU P ops s C h q ((k,0) :: r) a w:=by
 simp only [qAU,G];exact ⟨v,.inl ⟨E,z⟩,y⟩
theorem qAV {s:Nat} {q:Bool} {C:World->Prop} {h:Act->World->Prop} {k:Nat} {r:List (Nat×Nat)} {a:Act} {w:World} {o:Oper} (G:ops[k]?=some o) (E:Region.wanted o (yielded ops a.tmps)=true) (v:Value)
  (z:∀ w,(execOp a.eval o).run P w=.ok (.value v) w) (y:qAU P ops s C h q r (a.put o.dst v) w):qAU P ops s C h q ((k,1) :: r) a w:=by
 simp only [qAU,G];exact ⟨v,.inl ⟨E,fun w _=>z w⟩,y⟩
theorem qAT {s:Nat} {q:Bool} {C:World->Prop} {h:Act->World->Prop} {k:Nat} {r:List (Nat×Nat)} {a:Act} {w:World} {o:Oper} (G:ops[k]?=some o) (E:Region.wanted o (yielded ops a.tmps)=true) (x:Operand) (J:o.op=.move x) (v:Value)
  (z:a.eval x=v) (y:qAU P ops s C h q r (a.put o.dst v) w):qAU P ops s C h q ((k,1) :: r) a w:=by
 subst z;exact qAV G E _ (fun w=>by unfold execOp;simp [J]) y
theorem qA5 {s:Nat} {q:Bool} {C:World->Prop} {z:Act->World->Prop} {k:Nat} {r:List (Nat×Nat)} {a:Act} {w:World} {o:Oper} (E:ops[k]?=some o)
  (h:wpList P ops (QK fun G w'=>((q||decide (k=s))=false->C w')/\qAU P ops s C z (q||decide (k=s)) r G w') [o] a w):qAU P ops s C z q ((k,2) :: r) a w:=by
 simp only [qAU];unfold wpOp;simp only [E];simp only [wpList] at h;split
 ·rename_i y
  simp only [y,if_true] at h;rcases h with h | h
  ·exact .inl (qeJ h)
  ·exact absurd h.2 (qax _)
 ·rename_i y
  simp only [y] at h;exact h
end
end Go.Mixed2
namespace Go.Proofs.YtecpnfhpcamljaaGreatDoor
open Tryz
open Go.RowKit
theorem qhc:∀ (L:List Tr) (k:Nat) (a:Int) (e:k<L.length),(cellsT L).set (k*3) (.int .i64 a)=cellsT (L.set k (a,L[k].2.1,L[k].2.2))
 | x :: q,0,a,e=>rfl
 | x :: q,k+1,a,e=>by
  have t:=qhc q k a (by simpa using e);rw [show (k+1)*3=(k*3)+1+1+1 by omega];have y:∀ h:List Tr,cellsT (x :: h)=.int .i64 x.1 :: .int .i64 x.2.1 :: .int .i64 x.2.2 :: cellsT h:=fun _=>rfl
  simp only [List.set_cons_succ,List.getElem_cons_succ,y];rw [t]
theorem qhz:∀ (L:List Tr) (k:Nat) (a:Int) (e:k<L.length),(cellsT L).set (k*3+1) (.int .i64 a)=cellsT (L.set k (L[k].1,a,L[k].2.2))
 | x :: q,0,a,e=>rfl
 | x :: q,k+1,a,e=>by
  have t:=qhz q k a (by simpa using e);rw [show (k+1)*3+1=(k*3+1)+1+1+1 by omega];have y:∀ h:List Tr,cellsT (x :: h)=.int .i64 x.1 :: .int .i64 x.2.1 :: .int .i64 x.2.2 :: cellsT h:=fun _=>rfl
  simp only [List.set_cons_succ,List.getElem_cons_succ,y];rw [t]
theorem qc8.put3 {w:World} {n g h:Nat} {L L':List Tr} (G:qc8 w n g h L) (j:Nat) (t:Tr) (q:j<L.length) (e:L.set j t=L') :
  qc8 (((w.setCell ⟨g,h+j*3,none⟩ (.int .i64 t.1)).setCell ⟨g,h+j*3+1,none⟩ (.int .i64 t.2.1)).setCell ⟨g,h+j*3+2,none⟩ (.int .i64 t.2.2)) n g h L':=by
 have E:=G.put (L':=L.set j (t.1,L[j].2.1,L[j].2.2)) (j*3) (.int .i64 t.1) (qhc L j _ q);have z:j<(L.set j (t.1,L[j].2.1,L[j].2.2)).length:=by rw [List.length_set];exact q
 have J:=E.put (L':=(L.set j (t.1,L[j].2.1,L[j].2.2)).set j (t.1,t.2.1,L[j].2.2)) (j*3+1) (.int .i64 t.2.1) (by
  have:=qhz (L.set j (t.1,L[j].2.1,L[j].2.2)) j t.2.1 z;simp only [List.getElem_set_self] at this;exact this)
 have K:j<((L.set j (t.1,L[j].2.1,L[j].2.2)).set j (t.1,t.2.1,L[j].2.2)).length:=by rw [List.length_set];exact z
 have y:=J.put (L':=L') (j*3+2) (.int .i64 t.2.2) (by
  have:=qeb ((L.set j (t.1,L[j].2.1,L[j].2.2)).set j (t.1,t.2.1,L[j].2.2)) j t.1 t.2.1 t.2.2 K (by simp) (by simp);rw [<- this,List.set_set,List.set_set,<- e])
 rw [<- Nat.add_assoc,<- Nat.add_assoc] at y;exact y
theorem grownBy_set {w w':World} {g:Nat} (e:w.grownBy w' (some g)) (j:Nat) (u:Value):w.grownBy (w'.setCell ⟨g,j,none⟩ u) (some g):=
 ⟨e.os,e.tape,e.output,by simpa using e.size,fun h q k=>(heap_setCell_other w' ⟨g,j,none⟩ h u (fun y=>k (by rw [y]))).trans (e.block h q k)⟩
theorem grownBy_drew {w w':World} {r:Option Nat} (h:w.grownBy w' r):w.grownBy w'.drew r:=⟨h.os,h.tape,h.output,h.size,h.block⟩
theorem qc8.drew {w:World} {n g h:Nat} {L:List Tr} (q:qc8 w n g h L):qc8 w.drew n g h L:=q
theorem qsc (B g e cap:Nat) (x i:Tr) (w:World) (z:qc8 w B g e [x,i]) :
  Calls prog 166 #[.slice (some ⟨g,e,none⟩) 2 cap] w fun ah h=>ah=.returned (.tuple #[])/\qc8 h B g e [i,x]/\w.grownBy h (some g):=by
 have y:=z.at_ 0 (by simp);have q:=z.at_ 1 (by simp);have j:=z.frozen;simp only [List.getElem_cons_zero,List.getElem_cons_succ,Nat.zero_mul,Nat.add_zero,Nat.one_mul] at y q;have ad:=z.put3 0 i (by simp) (L':=[i,i]) rfl;have V:=ad.put3 1 x (by simp) (L':=[i,x]) rfl;simp only [Nat.zero_mul,Nat.add_zero,Nat.one_mul] at V;have Z:=J9 V.drew;obtain ⟨K,O,J⟩:=x;obtain ⟨E,M,T⟩:=i;simp only at y q Z;have aj:Hid ((w.drew.cell? ⟨g,e,none⟩=some (.int .i64 K)/\w.drew.cell? ⟨g,e+1,none⟩=some (.int .i64 O)/\w.drew.cell? ⟨g,e+2,none⟩=some (.int .i64 J))/\
   (w.drew.cell? ⟨g,e+3,none⟩=some (.int .i64 E)/\w.drew.cell? ⟨g,e+3+1,none⟩=some (.int .i64 M)/\w.drew.cell? ⟨g,e+3+2,none⟩=some (.int .i64 T))):=⟨y,q⟩
 have an:=J9 (grownBy_drew (grownBy_set (grownBy_set (grownBy_set (grownBy_set (grownBy_set (grownBy_set (g:=g) (World.grownBy.refl w (some g)) e (.int .i64 E)) (e+1) (.int .i64 M)) (e+2) (.int .i64 T)) (e+3) (.int .i64 K)) (e+3+1) (.int .i64 O)) (e+3+2) (.int .i64 J)));have ag:=J9 y;have ak:=J9 q;clear z ad V y q
 go_enter func166,ntmps166
 go_wp2
 go_loopw [2,3] (fun G R wr=>(G=.int .i64 0/\R=.int .i64 1/\wr=w)\/(G=.int .i64 1/\R=.int .i64 0/\Hid (qc8 wr B g e [(E,M,T),(K,O,J)])/\Hid (w.grownBy wr (some g)))) (fun G R _=>(intOf R - intOf G+1).toNat)
 case atStart=>exact .inl ⟨rfl,rfl,rfl⟩
 case round=>
  rcases hrel with ⟨rfl,rfl,rfl⟩ | ⟨rfl,rfl,am,ai⟩
  ·go_wp2
   refine Mixed2.qAQ (fun h=>(h.cell? ⟨g,e,none⟩=some (.int .i64 K)/\h.cell? ⟨g,e+1,none⟩=some (.int .i64 O)/\h.cell? ⟨g,e+2,none⟩=some (.int .i64 J))/\
     (h.cell? ⟨g,e+3,none⟩=some (.int .i64 E)/\h.cell? ⟨g,e+3+1,none⟩=some (.int .i64 M)/\h.cell? ⟨g,e+3+2,none⟩=some (.int .i64 T))) 15 13
    [(0,1),(1,1),(2,1),(3,1),(4,1),(5,1),(6,1),(7,0),(8,1),(9,1),(10,1),(11,0),(12,1),(13,2),(14,1)] (by kernel_rfl) (by kernel_rfl) aj.o ?_
   refine Mixed2.qAT rfl rfl _ rfl _ rfl ?_;refine Mixed2.qAT rfl rfl _ rfl _ rfl ?_;refine Mixed2.qAT rfl rfl _ rfl _ rfl ?_;refine Mixed2.qAT rfl rfl _ rfl _ rfl ?_;refine Mixed2.qAT rfl rfl _ rfl _ rfl ?_;refine Mixed2.qAT rfl rfl _ rfl _ rfl ?_;refine Mixed2.qAV rfl rfl _ (fun w=>by go_simp;rfl) ?_;refine Mixed2.qBu rfl rfl _ (fun w U=>by obtain ⟨⟨aa,ae,ab⟩,af,ac,W⟩:=U;go_simp;rfl) ?_;refine Mixed2.qAT rfl rfl _ rfl _ rfl ?_;refine Mixed2.qAT rfl rfl _ rfl _ rfl ?_;refine Mixed2.qAV rfl rfl _ (fun w=>by go_simp;rfl) ?_;refine Mixed2.qBu rfl rfl _ (fun w U=>by obtain ⟨⟨aa,ae,ab⟩,af,ac,W⟩:=U;go_simp;rfl) ?_;refine Mixed2.qAV rfl rfl _ (fun w=>by go_simp;rfl) ?_;refine Mixed2.qA5 rfl ?_;obtain ⟨aa,ae,ab⟩:=ag.o;obtain ⟨af,ac,W⟩:=ak.o;have aq:=j e;have ao:=j (e+1);have ar:=j (e+2);have au:=j (e+3);have av:=j (e+3+1);have ap:=j (e+3+2);go_wp2;show Mixed2.qAU _ _ _ _ _ _ _ _ _;refine Mixed2.qAV rfl rfl _ (fun w=>by go_simp;rfl) ?_;simp only [Mixed2.qAU];go_wp2;go_roundw
   case rel=>exact .inr ⟨rfl,rfl,Z.o,an.o⟩
   case measure=>simp [intOf]
  ·go_wp2
   go_end0
   exact ⟨rfl,am.o,ai.o⟩
end Go.Proofs.YtecpnfhpcamljaaGreatDoor
namespace Go.Proofs.YtecpnfhpcamljaaGreatDoor
open Tryz
open Go.RowKit
theorem qrm (w:World) (x h:Tr):qai (w.alloc (.cells #[.int .i64 x.1,.int .i64 x.2.1,.int .i64 x.2.2,.int .i64 h.1,.int .i64 h.2.1,.int .i64 h.2.2] 56)) (some ⟨w.heap.size,0,none⟩) [x,h]:=by
 refine .inr ⟨_,0,rfl,fun j q=>?_⟩;have:j=0\/j=1:=by simp at q;omega
 rcases this with rfl | rfl <;> exact ⟨by simp [go_sem],by simp [go_sem],by simp [go_sem]⟩
theorem qtO (c:Nat) (L:List Tr) (h:c≠3):L=exL c L:=by unfold exL;rw [Qe (fun q=>h q.1)]
theorem qwF (L:List Tr) (h:¬L=[hlT,deT]):L=exL 3 L:=by unfold exL;rw [Qe (fun q=>h q.2)]
def Mid (w0 w:World) (h:Nat) (s:ByteArray) (v:Value) (B:Nat) (L:List Tr):Prop:=Dr w h s v/\qan w B v L/\Below w0.heap.size w0 w
theorem Mid.go {w0 w w':World} {y:Nat} {s:ByteArray} {v:Value} {B:Nat} {L:List Tr} (h:Mid w0 w y s v B L) (q:Below w.heap.size w w'):Mid w0 w' y s v B L:=
 ⟨h.1.below q,h.2.1.below q,h.2.2.trans (q.mono h.2.2.size)⟩
theorem Mid.alloc {w0 w:World} {h:Nat} {s:ByteArray} {v:Value} {B:Nat} {L:List Tr} (q:Mid w0 w h s v B L) (o:Obj):Mid w0 (w.alloc o) h s v B L:=q.go (B0)
theorem Mid.ops {w0 w:World} {y:Nat} {s:ByteArray} {A:Option Addr} {n cap:Nat} {B:Nat} {L:List Tr} (q:Mid w0 w y s (.slice A n cap) B L):qai w A L:=by
 obtain ⟨z,E,e,h,-⟩:=q.2.1.ops;simp only [Qy] at e;obtain ⟨rfl,-,-⟩:=e;exact h
attribute [local irreducible] Go.Mixed.qAU
theorem qxo (s:ByteArray) (B g:Nat) (ay:B<=g) (v:Value) (L:List Tr) (aI:L.length<=1000) (w:World) (A:Dr w g s v) (J:qan w B v L) :
  Calls prog 113 #[.pointer (some ⟨g,0,none⟩)] w fun q z=>q=.returned (.tuple #[])/\Dr z g s v/\qan z B v (exL (opc s) L)/\Below B w z:=by
 obtain ⟨an,ab,-,-⟩:=A.cells;by_cases h:I3 s
 ·rw [qvQ h]
  obtain rfl:s=_:=h;obtain ⟨Z,y,rfl,au,aq,aL⟩:=J.ops;have K:=J9 A;have O:=J9 J;have aj:Hid (Mid w w.drew g ⟨#[69,88]⟩ (.slice Z L.length y) B L):=⟨A,J,below_drewN _ _ 1⟩;have ai:Hid (B<=w.heap.size):=Qj ay (QV A.lt);have V:=J9 (fun aG az aE (z:World) e o=>qht Z aG az aE L [hlT,deT] (by unfold maxLen;omega) (by unfold maxLen;simp) z e o);have aA:=J9 (qwF L);obtain ⟨ah,T⟩:=N9 (L.length);have av:=J9 T;rw [T] at K O aj aq ab |-;rw [T] at V;obtain ⟨ar,ac⟩:=N9 (decide (L=[hlT,deT]));have ao:=J9 ac;rw [ac] at V;clear A J au T aI ac an ab
  go_enter func113,ntmps113
  go_wp2;refine Mixed.qAQ (fun z=>Dr z g ⟨#[69,88]⟩ (.slice Z ah y)) 16 [(0,true),(1,true),(2,true),(3,true),(4,true),(5,true),(6,true),(7,true),(8,true),(9,true),(10,true),(11,true),(12,false),(13,false),(14,false),(15,false)] (by kernel_rfl) (by kernel_rfl) K.o ?_;refine Mixed.qAT rfl (by kernel_rfl) _ rfl _ rfl ?_;refine Mixed.mo rfl (.pointer (some ⟨g,0,none⟩)) (fun w b=>by obtain ⟨e,o,h,E⟩:=b.cells;clear b;go_simp;try rfl) ?_;refine Mixed.mo rfl (.pointer (some ⟨g,0,none⟩)) (fun w b=>by obtain ⟨e,o,h,E⟩:=b.cells;clear b;go_simp;try rfl) ?_;refine Mixed.mo rfl (.pointer (some ⟨g,0,none⟩)) (fun w b=>by obtain ⟨e,o,h,E⟩:=b.cells;clear b;go_simp;try rfl) ?_;refine Mixed.mo rfl (.string ⟨#[69,88]⟩) (fun w b=>by obtain ⟨e,o,h,E⟩:=b.cells;clear b;go_simp;try rfl) ?_;refine Mixed.mp rfl (.bool true) ?_;refine Mixed.qAT rfl (by kernel_rfl) _ rfl _ rfl ?_;refine Mixed.qAT rfl (by kernel_rfl) _ rfl _ rfl ?_;refine Mixed.mo rfl (.pointer (some ⟨g,0,none⟩)) (fun w b=>by obtain ⟨e,o,h,E⟩:=b.cells;clear b;go_simp;try rfl) ?_;refine Mixed.mo rfl (.pointer (some ⟨g,0,none⟩)) (fun w b=>by obtain ⟨e,o,h,E⟩:=b.cells;clear b;go_simp;try rfl) ?_;refine Mixed.mo rfl (.pointer (some ⟨g,1,none⟩)) (fun w b=>by obtain ⟨e,o,h,E⟩:=b.cells;clear b;go_simp;try rfl) ?_;refine Mixed.mo rfl (.slice Z ah y) (fun w b=>by obtain ⟨e,o,h,E⟩:=b.cells;clear b;go_simp;try rfl) ?_;refine Mixed.qAR rfl (by kernel_rfl) ?_
  go_wp2_with fail
  refine (qf9 2 _).mono ?_;rintro q aN ⟨rfl,e⟩;have ak:=J9 (aj.o.go e);have k:=ak.o.1;clear e aj K O;go_wp2;refine ⟨k,?_⟩;clear k;refine Mixed.qAR rfl (by kernel_rfl) ?_
  go_wp2_with fail
  refine (qf9 1 _).mono ?_;rintro q aB ⟨rfl,e⟩;have ad:=J9 (ak.o.go e);have k:=ad.o.1;clear e ak;go_wp2;refine ⟨k,?_⟩;clear k;refine Mixed.qAR rfl (by kernel_rfl) ?_;have W:=fun af=>J9 (ad.o.alloc af)
  have ap:=J9 (qrm aB hlT deT);have k:=fun af=>(W af).o.1
  go_wp2;refine ⟨k _,?_⟩;clear k;refine Mixed.qAR rfl (by kernel_rfl) ?_
  go_wp2_with fail
  refine (V.o _ y 2 _ (W _).o.ops ap.o).mono ?_;rintro q ax ⟨rfl,e⟩;have n:=J9 ((W _).o.go e);have k:=n.o.1;clear e W ad ap V;go_wp2;refine ⟨k,?_⟩;clear k;simp only [Mixed.qAU,Qr,Qx];cases ar with
  | false=>
   have aa:=J9 (aA.o (QX ao.o));go_wp2
   go_end0
   rw [<- aa.o];exact ⟨rfl,n.o.1,n.o.2.1,n.o.2.2.mono ai.o⟩
  | true=>
   obtain rfl:=Qo ao.o;obtain rfl:ah=2:=av.o.symm;obtain ⟨an,ab,-,-⟩:=n.o.1.cells;obtain ⟨M,U,aM,am,-,-,G⟩:=n.o.2.1.qA8 (by simp);simp only [Qy] at am;obtain ⟨rfl,-,-⟩:=am;have aF:=J9 (qsc B M U y hlT deT ax G);have aJ:=J9 (G.apart n.o.1);have aC:Hid (B<=M):=G.1;clear G
   go_wp2_with fail
   refine aF.o.mono ?_;rintro q ae ⟨rfl,G,ag⟩;have aH:Hid (Dr ae g ⟨#[69,88]⟩ (.slice (some ⟨M,U,none⟩) 2 y)):=(ag.block _ n.o.1.lt (fun q=>aJ.o (by simp at q;exact q.symm))).trans n.o.1;have aD:Hid (qan ae B (.slice (some ⟨M,U,none⟩) 2 y) (exL 3 [hlT,deT])):=.inr ⟨M,U,y,rfl,aq,aL,G⟩;have aw:Hid (Below B w ae):=(n.o.2.2.mono ai.o).grown ag (Qj ai.o n.o.2.2.size) (fun aP aK=>by simp at aK;have:=aC.o;omega);clear G ag;go_wp2
   go_end0
   exact ⟨rfl,aH.o,aD.o,aw.o⟩
 ·have aa:=J9 (qtO (opc s) L (qfR h))
  have aO:(s.toList == [69,88])=false:=by simpa using qak h
  have K:=J9 A;have O:=J9 J;clear A J h
  go_enter func113,ntmps113
  go_wp2
  go_quiet (fail)
  go_wp2
  go_end0
  rw [<- aa.o];exact ⟨rfl,K.o,O.o,(below_drewN _ _ _)⟩
end Go.Proofs.YtecpnfhpcamljaaGreatDoor
namespace Go.Proofs.YtecpnfhpcamljaaGreatDoor
open Tryz
open Go.RowKit
def qeN (h:Array Value) (o:Nat) (t:Tr):Array Value:=((h.setIfInBounds o (.int .i64 t.1)).setIfInBounds (o+1) (.int .i64 t.2.1)).setIfInBounds (o+2) (.int .i64 t.2.2)
theorem qd9 (h:Array Value) (o:Nat) (t:Tr):(qeN h o t).size=h.size:=by simp [qeN]
theorem qhX (h:Array Value) (o:Nat) (t:Tr) (q:o+3<=h.size):(qeN h o t)[o]?=some (.int .i64 t.1)/\(qeN h o t)[o+1]?=some (.int .i64 t.2.1)/\(qeN h o t)[o+2]?=some (.int .i64 t.2.2):=by
 unfold qeN;refine ⟨?_,?_,?_⟩
 ·rw [QR,Qe (by omega),QR,Qe (by omega),QR,Qi rfl,Qi (by omega)]
 ·rw [QR,Qe (by omega),QR,Qi rfl,Qi (by simp;omega)]
 ·rw [QR,Qi rfl,Qi (by simp;omega)]
theorem qbS (h:Array Value) (o:Nat) (t:Tr) (j:Nat) (q:j<o\/o+3<=j):(qeN h o t)[j]?=h[j]?:=by
 unfold qeN;rw [QR,Qe (by omega),QR,Qe (by omega),QR,Qe (by omega)]
theorem add_lit (b h j:Nat):(⟨b,h,none⟩:Addr).add j=⟨b,h+j,none⟩:=by unfold Addr.add;split <;> simp_all
theorem qes (w:World) (ty:TypeId) (g o E O b y K Z:Nat) (z:Array Value) (t:Tr) (h:w.heap[g]?=some (.cells z 56 (0,0))) (W:Nat.min K E=1)
  (M:∀ j u,(cellsT [t])[j]?=some u->w.cell? ⟨b,y+j,none⟩=some u) (ag:o+3<=z.size) :
  ∃ q,(Builtin.copy_ #[22,22] ty #[.slice (some ⟨g,o,none⟩) E O,.slice (some ⟨b,y,none⟩) K Z]).run prog w=.ok (goInt 1) q/\
   q.heap[g]?=some (.cells (qeN z o t) 56 (0,0))/\w.grownBy q (some g):=by
 obtain ⟨af,aa,ai,ac,ah⟩:=info_parts qdy;have J:=run_loadCells_list (P:=prog) w ⟨b,y,none⟩ (cellsT [t]) (fun j u G=>by rw [add_lit];exact M j u G);have V:∀ j,j<3->(w.cell? ⟨g,o+0+j,none⟩).isSome=true:=fun j G=>by rw [C9 h,Array.getElem?_eq_getElem (by omega)];rfl
 have ae:=run_storeCells_cells (P:=prog) g o (cellsT [t]) 0 w V (fun j _=>Qp h _) (qeR [t]);refine ⟨((w.setCell ⟨g,o,none⟩ (.int .i64 t.1)).setCell ⟨g,o+1,none⟩ (.int .i64 t.2.1)).setCell ⟨g,o+1+1,none⟩ (.int .i64 t.2.2),?_,?_,?_⟩
 ·have U:(storeCells ⟨g,o,none⟩ (cellsT [t])).run prog w=.ok () (((w.setCell ⟨g,o,none⟩ (.int .i64 t.1)).setCell ⟨g,o+1,none⟩ (.int .i64 t.2.1)).setCell ⟨g,o+1+1,none⟩ (.int .i64 t.2.2)):=ae
  have ab:(cellsT [t]).length=3:=rfl;rw [ab] at J;simp [Builtin.copy_,run_underlying underlying22,Builtin.lenOf,Builtin.firstCells,sizeOf,typeInfo,aa,ac,W,J,U]
 ·have T:=heap_setCell_same w g o _ _ (.int .i64 t.1) h
  have ad:=heap_setCell_same _ g (o+1) _ _ (.int .i64 t.2.1) T;exact heap_setCell_same _ g (o+1+1) _ _ (.int .i64 t.2.2) ad
 ·exact grownBy_set (grownBy_set (grownBy_set (World.grownBy.refl w (some g)) _ _) _ _) _ _
theorem wpList_run_app2 {w w1:World} {t h ty:TypeId} {v q y:Value} (E:(Builtin.append_ #[t,h] ty #[v,q]).run prog w=.ok y w1) {ops:Array Oper} {rest:List Oper} {o:Oper} {a:Act} {Q:Exit->Act->World->Prop} (K:o.guard=none) (s x:Operand)
  (O:o.op=.call {callee:=.builtin .append,args:=#[s,x],argTypes:=#[t,h]}) (G:o.type=ty) (J:a.eval s=v) (T:a.eval x=q) (M:wpList prog ops Q rest (a.put o.dst y) w1):wpList prog ops Q (o :: rest) a w:=by
 subst G;refine wpList_plain K fun U z=>?_
 unfold Oper.wp;simp [execOp,O,resolve,invoke,builtin,J,T,E,Result.andThen];exact z _ _ M
theorem qhS {w:World} {B g:Nat} {j:Array Value} {x q:Tr} (G:B<=g) (E:w.heap[g]?=some (.cells j 56 (0,0)))
  (y:j[0]?=some (.int .i64 x.1)/\j[1]?=some (.int .i64 x.2.1)/\j[2]?=some (.int .i64 x.2.2)) (u:j[3]?=some (.int .i64 q.1)/\j[4]?=some (.int .i64 q.2.1)/\j[5]?=some (.int .i64 q.2.2)):qc8 w B g 0 [x,q]:=by
 refine ⟨G,j,E,fun z J h=>?_⟩;rw [QT]
 match z,h with
 | 0,h=>exact y.1.trans h
 | 1,h=>exact y.2.1.trans h
 | 2,h=>exact y.2.2.trans h
 | 3,h=>exact u.1.trans h
 | 4,h=>exact u.2.1.trans h
 | 5,h=>exact u.2.2.trans h
 | z+6,h=>cases h
theorem qri (w:World) (vb m J g z lb cb:Nat) (U:vb≠g) (E q:Array Value) (y G:TypeId) (h:w.heap[vb]?=some (.cells E y (0,0))) (K:w.heap[g]?=some (.cells q G (0,0))) (O:q.size≠0) :
  (callFunc 198 #[.slice (some ⟨vb,0,none⟩) m J,.slice (some ⟨g,z,none⟩) lb cb]).run prog w=.ok (.value (.bool false)) w:=by
 obtain ⟨V,M,Z,T,W⟩:=info_parts qdy;rw [run_callFunc_extern func198 (by kernel_rfl) (by kernel_rfl) (by kernel_rfl) (e:=Extern.SlicesOverlaps.overlaps #[22,22] #[4]) (by kernel_rfl),
  Lib.run_overlaps_apart w 22 4 56 underlying22 3 (fun w=>by simp [sizeOf,typeInfo,M,T]) ⟨vb,0,none⟩ ⟨g,z,none⟩ m J lb cb U y G E.size q.size (by simp [World.shape?,h]) (by simp [World.shape?,K]) O (Qp h 0) (Qp h _)]
 rfl
end Go.Proofs.YtecpnfhpcamljaaGreatDoor
namespace Go.Proofs.YtecpnfhpcamljaaGreatDoor
open Tryz
open Go.RowKit
attribute [local irreducible] Go.Mixed.qAU
theorem qn6 (B g cap vb:Nat) (x:Tr) (w:World) (aZ:qaf w B (.slice (some ⟨g,0,none⟩) 1 cap) [x]) (E:w.heap[vb]?=some (.cells #[.int .i64 1,.int .i64 7,.int .i64 0] 56 (0,0))) (aM:vb≠g) (a6:B<=w.heap.size) :
  Calls prog 163 #[.slice (some ⟨g,0,none⟩) 1 cap,.int .i64 0,.slice (some ⟨vb,0,none⟩) 1 1] w fun z aK=>
   ∃ aN aC,z=.returned (.slice aN 2 aC)/\qan aK B (.slice aN 2 aC) [qbV,x]/\w.grownBy aK (some g):=by
 obtain ⟨-,v | ⟨bf,a8,T,v,a5,G,ax,ae,aL,aq⟩⟩:=aZ
 ·cases v.1
 simp only [Qy,Qv,Addr.mk.injEq,and_true] at v;obtain ⟨rfl,-,rfl⟩:=v;have aU:=ae;unfold maxLen at aU;have be:1<=cap:=ax;have aj:∀ j q,(cellsT [x])[j]?=some q->w.cell? ⟨g,0+j,none⟩=some q:=fun j q e=>by
  rw [QT,C9 G];rw [<- aq,Zs] at e;split at e
  ·simpa using e
  ·cases e
 have ad:∀ j q,(cellsT [qbV])[j]?=some q->w.cell? ⟨vb,0+j,none⟩=some q:=fun j q e=>by
  rw [QT,C9 E]
  match j,e with
  | 0,e=>exact e
  | 1,e=>exact e
  | 2,e=>exact e
  | j+3,e=>cases e
 by_cases ai:2<=cap
 ·have aT:6<=T.size:=by omega
  obtain ⟨aA,aH,aO,h⟩:=qes w.drew 3 g 3 1 (cap - 1) g 0 2 cap T x G (by rfl) aj (by omega);have aE:aA.heap[vb]?=some (.cells #[.int .i64 1,.int .i64 7,.int .i64 0] 56 (0,0)):=(h.block vb (Qb.1 E).1 (fun z=>aM (by simpa using z))).trans E;obtain ⟨O,Z,ab,M⟩:=qes aA 3 g 0 2 cap vb 0 1 1 (qeN T 3 x) qbV aO (by rfl) (fun j q e=>by
   have ac:=ad j q e;rw [C9 E] at ac;rw [C9 aE];exact ac) (by rw [qd9];omega)
  have aR:=qri w vb 1 1 g 3 1 (cap - 1) aM _ T _ _ E G (by omega);have aa:qc8 O B g 0 [qbV,x]:=qhS a5 ab (by
    have:=qhX (qeN T 3 x) 0 qbV (by rw [qd9];omega);simpa using this) (by
    have aV:=qhX T 3 x (by omega);rw [qbS _ 0 qbV 3 (.inr (by omega)),qbS _ 0 qbV 4 (.inr (by omega)),qbS _ 0 qbV 5 (.inr (by omega))];exact aV)
  have U:Hid (qan O B (.slice (some ⟨g,0,none⟩) 2 cap) [qbV,x]/\w.grownBy O (some g)):=
   ⟨.inr ⟨g,0,cap,rfl,ai,ae,aa⟩,⟨M.os.trans h.os,M.tape.trans h.tape,M.output.trans h.output,Qj h.size M.size,fun u K ar=>(M.block u (Zk K h.size) ar).trans (h.block u K ar)⟩⟩
  have a2:=J9 aH;have a1:=J9 Z;have aP:¬(cap=1):=by omega
  have a9:decide ((cap:Int)<2)=false:=Qh (by omega);have bb:¬((cap:Int)<2):=by omega
  clear aH Z aa h M aO ab aE aj ad aL aq ae G E aT
  go_enter func163,ntmps163
  go_wp2_with (simp only [aR])
  refine Mixed.qAQ (fun _=>True) 8 [(0,true),(1,true),(2,true),(3,true),(4,true),(5,true),(6,true),(7,true)] (by kernel_rfl) (by kernel_rfl) trivial ?_;refine Mixed.qAT rfl (by kernel_rfl) _ rfl _ rfl ?_;refine Mixed.qAT rfl (by kernel_rfl) _ rfl _ rfl ?_;refine Mixed.qAT rfl (by kernel_rfl) _ rfl _ rfl ?_;refine Mixed.mp rfl (.int .i64 1) ?_;refine Mixed.mo rfl (.slice (some ⟨g,3,none⟩) 1 (cap - 1)) (fun w v=>by clear v;go_simp;try omega) ?_;refine Mixed.qAT rfl (by kernel_rfl) _ rfl _ rfl ?_;refine Mixed.qAT rfl (by kernel_rfl) _ rfl _ rfl ?_;refine Mixed.mo rfl (.slice (some ⟨g,0,none⟩) 2 cap) (fun w v=>by clear v;go_simp;try omega) ?_;simp only [Mixed.qAU,Qr,Qx];have aQ:=a2.o;have ag:=a1.o
  go_wp2_with (first | simp only [aQ] | simp only [ag])
  go_ret;exact ⟨_,cap,rfl,U.o.1,U.o.2⟩
 ·obtain rfl:cap=1:=by omega
  obtain ⟨aJ,aI,aB,ao,an⟩:=info_parts qdy;have aD:(Builtin.firstCells aJ.size 0 (.slice (some ⟨g,0,none⟩) 0 1)).run prog w.drew=.ok ([]:List Value).toArray w.drew:=by
   rw [ao];exact run_firstCells_some w.drew 3 0 ⟨g,0,none⟩ 0 1 [] rfl (fun j bd e=>by cases e)
  have W:=Lib.run_append_grow_zeros (P:=prog) w 22 3 22 56 aJ _ .i64 .i64 underlying22 underlying3 aI aB (some ⟨g,0,none⟩) 0 1 [] aD 2 (by omega) (by rw [ao];omega) (by omega) (by omega) (by rw [an];omega) (by
   refine Qj (growslice_fits (need:=0+2) (old:=1) (by omega) (by rw [an];omega)) (Qa _))
  rw [QT] at W;obtain ⟨y,af⟩:=N9 (grownCap w 2 1 56);have M:2<=y:=by rw [<- af];exact grownCap_ge w _ _ _
  have av:y<=maxLen:=by rw [<- af];exact grownCap_le_maxLen w _ _ _ (by unfold maxLen;omega)
  rw [af] at W;obtain ⟨F,am⟩:∃ F:Array Value,(([]:List Value).toArray++Builtin.zeroCells (Value.agg #[.int .i64 0,.int .i64 0,.int .i64 0]).cells 2++Builtin.zeroCells (Value.agg #[.int .i64 0,.int .i64 0,.int .i64 0]).cells (y - 2))=F:=⟨_,rfl⟩;have aY:6<=F.size:=by
   rw [<- am];simp [Builtin.zeroCells,Value.cells]
  rw [am] at W;obtain ⟨W1,ak⟩:=N9 (w.drew.alloc (.cells F 56));rw [ak] at W;have aG:=(Qb.1 G).1;have ac:=(Qb.1 E).1;have au:W1.heap[w.heap.size]?=some (.cells F 56 (0,0)):=by rw [<- ak];exact heap_alloc_new w.drew _
  have h:w.grownBy W1 (some w.heap.size):=by
   rw [<- ak];have k:=World.grownBy_alloc w.drew (.cells F 56) (some w.heap.size);exact ⟨k.os,k.tape,k.output,k.size,k.block⟩
  have ah:∀ u,u<w.heap.size->W1.heap[u]?=w.heap[u]?:=fun u K=>h.block u K (fun z=>by simp at z;omega)
  have a3:w.heap.size<W1.heap.size:=(Qb.1 au).1;obtain ⟨O,Z,aF,J⟩:=qes W1 3 w.heap.size 0 2 y vb 0 1 1 F qbV au (by rfl) (fun j q e=>by
   have k:=ad j q e;rw [C9 E] at k;rw [C9 ((ah vb ac).trans E)];exact k) (by omega)
  have ab:O.heap[g]?=w.heap[g]?:=(J.block g (by omega) (fun z=>by simp at z;omega)).trans (ah g aG);obtain ⟨ap,ay,az,V⟩:=qes O.drew 3 w.heap.size 3 1 (y - 1) g 0 1 1 (qeN F 0 qbV) x aF (by rfl) (fun j q e=>by
   have k:=aj j q e;rw [C9 G] at k;have ai:O.drew.heap[g]?=some (.cells T 56 (0,0)):=ab.trans G;rw [C9 ai];exact k) (by rw [qd9];omega)
  have aa:qc8 ap B w.heap.size 0 [qbV,x]:=qhS a6 az (by
    rw [qbS _ 3 x 0 (.inl (by omega)),qbS _ 3 x 1 (.inl (by omega)),qbS _ 3 x 2 (.inl (by omega))];have k:=qhX F 0 qbV (by omega);simpa using k) (by
    have k:=qhX (qeN F 0 qbV) 3 x (by rw [qd9];omega);exact k)
  have U:Hid (qan ap B (.slice (some ⟨w.heap.size,0,none⟩) 2 y) [qbV,x]/\w.grownBy ap (some g)):=
   ⟨.inr ⟨w.heap.size,0,y,rfl,M,av,aa⟩,⟨V.os.trans (J.os.trans h.os),V.tape.trans (J.tape.trans h.tape),V.output.trans (J.output.trans h.output),Qj h.size (Qj J.size V.size),
    fun u K ar=>(V.block u (Zk (Zk K h.size) J.size) (fun z=>by simp at z;omega)).trans ((J.block u (Zk K h.size) (fun z=>by simp at z;omega)).trans (ah u K))⟩⟩
  have aX:=av;unfold maxLen at aX;have aP:¬(y=1):=by omega
  have bc:¬(y=0):=by omega
  have a0:=J9 W;have a7:=J9 Z;have a4:=J9 ay;clear W Z ay aa h J V au aF az ah a3 ab ak am aY aD aj ad aL aq ae G E af av aG ac aI aB ao an ai ax;have ag:=a7.o;have aw:=a4.o
  go_enter func163,ntmps163
  go_wp2_with (first | (at_builtin;refine wpList_run_app2 a0.o rfl _ _ rfl rfl rfl rfl ?_) | simp only [ag] | simp only [aw])
  refine Mixed.qAQ (fun _=>True) 8 [(0,true),(1,true),(2,true),(3,true),(4,true),(5,true),(6,true),(7,true)] (by kernel_rfl) (by kernel_rfl) trivial ?_;refine Mixed.qAT rfl (by kernel_rfl) _ rfl _ rfl ?_;refine Mixed.qAT rfl (by kernel_rfl) _ rfl _ rfl ?_;refine Mixed.qAT rfl (by kernel_rfl) _ rfl _ rfl ?_;refine Mixed.mp rfl (.int .i64 1) ?_;obtain ⟨aW,aS⟩:=N9 (w.heap.size);rw [aS] at ag aw U |-;refine Mixed.mo rfl (.slice (some ⟨aW,3,none⟩) 1 (y - 1)) (fun w v=>by clear v;go_simp;try omega) ?_;refine Mixed.qAT rfl (by kernel_rfl) _ rfl _ rfl ?_;refine Mixed.qAT rfl (by kernel_rfl) _ rfl _ rfl ?_;refine Mixed.mo rfl (.slice (some ⟨g,0,none⟩) 1 1) (fun w v=>by clear v;go_simp;try omega) ?_;simp only [Mixed.qAU,Qr,Qx]
  go_wp2_with (simp only [aw])
  go_ret;exact ⟨_,y,rfl,U.o.1,U.o.2⟩
theorem qc8.tail {w:World} {n g:Nat} {x u:Tr} (E:qc8 w n g 0 [x,u]):qc8 w n g 3 [u]:=by
 obtain ⟨z,J,G,j⟩:=E;refine ⟨z,J,G,fun y q h=>?_⟩
 match y,h with
 | 0,h=>exact j 3 q h
 | 1,h=>exact j 4 q h
 | 2,h=>exact j 5 q h
 | y+3,h=>cases h
theorem qqd (L:List Tr) (h:¬L.length=2):L=accL 1 L:=by unfold accL;rw [Qe (fun q=>h q.2.1),Qe (by omega)]
theorem quI (x h:Tr) (q:¬x=qbV):[x,h]=accL 1 [x,h]:=by unfold accL;rw [Qe (fun y=>q (by simpa using y.2.2)),Qe (by omega)]
theorem qvg (h:Tr):[h]=accL 1 [qbV,h]:=by unfold accL;rw [Qi ⟨rfl,rfl,rfl⟩];rfl
theorem qoE (L:List Tr) (h:¬L.length=1):L=accL 2 L:=by unfold accL;rw [Qe (by omega),Qe (fun q=>h q.2)]
theorem qs9 (x:Tr):[qbV,x]=accL 2 [x]:=by unfold accL;rw [Qe (by omega),Qi ⟨rfl,rfl⟩]
theorem qg8 (c:Nat) (L:List Tr) (q:c≠1) (y:c≠2):L=accL c L:=by unfold accL;rw [Qe (fun h=>q h.1),Qe (fun h=>y h.1)]
def qy0 (w:World) (q:Nat) (s:ByteArray) (B:Nat) (L:List Tr) (e:Ending) (w':World):Prop:=e=.returned (.tuple #[])/\∃ h,Dr w' q s h/\qan w' B h L/\Below B w w'
theorem qvO (s:ByteArray) (x:I1 s) (B h:Nat) (aA:B<=h) (v:Value) (L:List Tr) (aD:L.length<=1000) (w:World) (O:Dr w h s v) (J:qaf w B v L) :
  Calls prog 112 #[.pointer (some ⟨h,0,none⟩)] w (qy0 w h s B (accL 1 L)):=by
 obtain ⟨aO,n,rfl,ax,aC⟩:=J.ops;have ad:=J9 O;have Z:=J9 J.own;by_cases q:L.length=2
 ·obtain ⟨an,G,rfl⟩:=qlR L q
  obtain ⟨g,V,aw,-,-,ac⟩:∃ g V,(Value.slice aO [an,G].length n)=.slice (some ⟨g,0,none⟩) 2 V/\2<=V/\V<=maxLen/\qc8 w B g 0 [an,G]:=by
   have:=J;obtain ⟨g,aJ,aP,z,ag,aL,ac⟩:=J.own.qA8 (by simp);have:aJ=0:=by
    rcases J.2 with ⟨e,_⟩ | ⟨aT,V,aW,e,_⟩
    ·rw [e] at z;simp at z
    ·rw [e] at z
     simp only [Qy,Qv,Addr.mk.injEq,and_true] at z;exact z.1.2.symm
   subst this;exact ⟨g,aP,z,ag,aL,ac⟩
  simp only [Qy] at aw;obtain ⟨rfl,-,-⟩:=aw;have aQ:n<=maxLen:=by
   obtain ⟨aR,V,z,-,-,y⟩:=J.own.ops;simp only [Qy] at z;obtain ⟨-,-,rfl⟩:=z;exact y
  have aG:=aQ;unfold maxLen at aG;have aU:2<=n:=aC;obtain ⟨ae,af,ah⟩:=ac.at_ 0 (by simp);simp only [List.getElem_cons_zero,Nat.zero_mul,QT] at ae af ah;obtain ⟨aB,W,-,-⟩:=O.cells;obtain ⟨M,T,K⟩:=an;simp only at ae af ah;have az:=J9 ac;have aE:Hid (w.drew.cell? ⟨h,1,none⟩=some (.slice (some ⟨g,0,none⟩) 2 n)/\w.drew.cell? ⟨g,0,none⟩=some (.int .i64 M)/\w.drew.cell? ⟨g,1,none⟩=some (.int .i64 T)/\w.drew.cell? ⟨g,2,none⟩=some (.int .i64 K)):=⟨W,ae,af,ah⟩;have aH:=J9 (quI (M,T,K) G);have aK:Hid (B<=w.heap.size):=Qj aA (QV O.lt);have aV:Hid (h<w.heap.size):=O.lt;clear O J ax ac ae af ah q;have ag:([(M,T,K),G]:List Tr).length=2:=rfl;rw [ag] at ad Z W;clear ag aD;rcases x with rfl | rfl | rfl | rfl | rfl
  all_goals
   go_enter func112,ntmps112
   go_wp2;refine Mixed.qAQ (fun w'=>w'.cell? ⟨h,1,none⟩=some (.slice (some ⟨g,0,none⟩) 2 n)/\w'.cell? ⟨g,0,none⟩=some (.int .i64 M)/\w'.cell? ⟨g,1,none⟩=some (.int .i64 T)/\w'.cell? ⟨g,2,none⟩=some (.int .i64 K)) 16
    [(0,true),(1,true),(2,true),(3,true),(4,true),(5,true),(6,true),(7,true),(8,true),(9,true),(10,true),(11,true),(12,true),(13,true),(14,true),(15,false)] (by kernel_rfl) (by kernel_rfl) aE.o ?_
   refine Mixed.qAT rfl (by kernel_rfl) _ rfl _ rfl ?_;refine Mixed.mo rfl (.pointer (some ⟨h,0,none⟩)) (fun w e=>by obtain ⟨x,q,E,y⟩:=e;go_simp;try rfl) ?_;refine Mixed.mo rfl (.pointer (some ⟨h,0,none⟩)) (fun w e=>by obtain ⟨x,q,E,y⟩:=e;go_simp;try rfl) ?_;refine Mixed.mo rfl (.pointer (some ⟨h,1,none⟩)) (fun w e=>by obtain ⟨x,q,E,y⟩:=e;go_simp;try rfl) ?_;refine Mixed.mo rfl (.slice (some ⟨g,0,none⟩) 2 n) (fun w e=>by obtain ⟨x,q,E,y⟩:=e;go_simp;try rfl) ?_;refine Mixed.mp rfl (.int .i64 2) ?_;refine Mixed.mp rfl (.bool true) ?_;refine Mixed.qAT rfl (by kernel_rfl) _ rfl _ rfl ?_;refine Mixed.qAT rfl (by kernel_rfl) _ rfl _ rfl ?_;refine Mixed.mo rfl (.pointer (some ⟨h,0,none⟩)) (fun w e=>by obtain ⟨x,q,E,y⟩:=e;go_simp;try rfl) ?_;refine Mixed.mo rfl (.pointer (some ⟨h,0,none⟩)) (fun w e=>by obtain ⟨x,q,E,y⟩:=e;go_simp;try rfl) ?_;refine Mixed.mo rfl (.pointer (some ⟨h,1,none⟩)) (fun w e=>by obtain ⟨x,q,E,y⟩:=e;go_simp;try rfl) ?_;refine Mixed.mo rfl (.slice (some ⟨g,0,none⟩) 2 n) (fun w e=>by obtain ⟨x,q,E,y⟩:=e;go_simp;try rfl) ?_;refine Mixed.mo rfl (.pointer (some ⟨g,0,none⟩)) (fun w e=>by obtain ⟨x,q,E,y⟩:=e;go_simp;try rfl) ?_;refine Mixed.mo rfl (.agg #[.int .i64 M,.int .i64 T,.int .i64 K]) (fun w e=>by obtain ⟨x,q,E,y⟩:=e;go_simp;try rfl) ?_;refine Mixed.qAR rfl (by kernel_rfl) ?_
   go_wp2_with fail
   refine (qoT _).mono ?_;rintro z A ⟨rfl,aa⟩;have U:=J9 (ad.o.below (w':=A) ((below_drewN _ _ 1).trans aa));have au:=J9 (Z.o.below (w':=A) ((below_drewN _ _ 1).trans aa));have R1:=J9 (az.o.below (w':=A) ((below_drewN _ _ 1).trans aa));have ao:Hid (Below B w A):=((below_drewN w _ 1).trans aa).mono aK.o;obtain ⟨ar,aj,-,av⟩:=U.o.cells;obtain ⟨am,ak,aq⟩:=R1.o.at_ 0 (by simp);simp only [List.getElem_cons_zero,Nat.zero_mul,QT] at am ak aq;have ay:A.cell? ⟨h,1,none⟩=some (.slice (some ⟨g,0,none⟩) 2 n)/\A.cell? ⟨g,0,none⟩=some (.int .i64 M)/\A.cell? ⟨g,1,none⟩=some (.int .i64 T)/\A.cell? ⟨g,2,none⟩=some (.int .i64 K):=⟨aj,am,ak,aq⟩;clear aa ad Z az am ak aq ar aj aB W;go_wp2;refine ⟨ay,?_⟩;clear ay;simp only [Mixed.qAU,Qr,Qx];by_cases ai:(M,T,K)=qbV
   ·simp only [qbV,Zl] at ai
    obtain ⟨rfl,rfl,rfl⟩:=ai;have aS:¬(n=1):=(by omega);have aM:=J9 (U.o.put (.slice (some ⟨g,3,none⟩) 1 (n - 1)));have aN:Hid (qan (A.setCell ⟨h,1,none⟩ (.slice (some ⟨g,3,none⟩) 1 (n - 1))) B (.slice (some ⟨g,3,none⟩) 1 (n - 1)) (accL 1 [(1,7,0),G])):=by
     rw [show accL 1 [((1:Int),(7:Int),(0:Int)),G]=[G] from (qvg G).symm];exact qan.other (.inr ⟨g,3,n - 1,rfl,by simp;omega,by omega,R1.o.tail⟩) U.o 1
    have aF:Hid (Below B w (A.setCell ⟨h,1,none⟩ (.slice (some ⟨g,3,none⟩) 1 (n - 1)))):=ao.o.setCell (p:=⟨h,1,none⟩) aA _;obtain ⟨ar,aj,-,av⟩:=U.o.cells;clear U au R1 ao;go_wp2
    go_end0
    exact ⟨rfl,_,aM.o,aN.o,aF.o⟩
   ·have ap:=J9 (aH.o ai)
    have ab:=qlE ai;simp only [qbV] at ab;obtain ⟨ar,aj,-,av⟩:=U.o.cells;rcases ab with e | ⟨rfl,e⟩ | ⟨rfl,rfl,e⟩
    all_goals
     go_wp2
     go_end0
     rw [<- ap.o];exact ⟨rfl,_,U.o,au.o,ao.o⟩
 ·have ap:=J9 (qqd L q)
  obtain ⟨aB,W,-,-⟩:=O.cells;obtain ⟨aI,ab⟩:=N9 (L.length);rw [ab] at ad Z W q aD;have E:¬((aI:Int)=2):=by omega
  clear O J ax ab aC;rcases x with rfl | rfl | rfl | rfl | rfl
  all_goals
   go_enter func112,ntmps112
   go_wp2
   go_quiet (fail)
   go_wp2
   go_end0
   rw [<- ap.o];exact ⟨rfl,_,ad.o,Z.o,below_drewN _ _ _⟩
theorem quM (s:ByteArray) (an:I2 s) (B a:Nat) (av:B<=a) (v:Value) (L:List Tr) (ag:L.length<=1000) (w:World) (q:Dr w a s v) (r:qaf w B v L) :
  Calls prog 112 #[.pointer (some ⟨a,0,none⟩)] w (qy0 w a s B (accL 2 L)):=by
 obtain ⟨aP,z,rfl,ac,af⟩:=r.ops;have y:=J9 q;have n:=J9 r;obtain ⟨aK,aa,-,-⟩:=q.cells;by_cases E:L.length=1
 ·obtain ⟨x,rfl⟩:∃ x,L=[x]:=by
   cases L with
   | nil=>simp at E
   | cons aH ax=>
    cases ax with
    | nil=>exact ⟨aH,rfl⟩
    | cons aR ax=>simp at E
  obtain ⟨g,rfl,aw,aj⟩:∃ g,aP=some ⟨g,0,none⟩/\B<=g/\g<w.heap.size:=by
   rcases r.2 with ⟨k,_⟩ | ⟨au,az,aV,k,aI,aN,_⟩
   ·simp at k
   ·simp only [Qy] at k
    exact ⟨au,k.1,aI,(Qb.1 aN).1⟩
  have M:Hid (B<=w.heap.size):=Qj av (QV q.lt);have ai:=J9 (r.own.qA8 (by simp));have aF:Hid (g≠a):=by
   obtain ⟨au,aW,az,o,-,-,aO⟩:=ai.o;simp only [Qy,Qv,Addr.mk.injEq] at o;rw [o.1.1];exact aO.apart q
  have aE:=J9 aw;have aM:=J9 aj;have ae:([x]:List Tr).length=1:=rfl;have aQ:Hid (w.drew.cell? ⟨a,1,none⟩=some (.slice (some ⟨g,0,none⟩) 1 z)):=aa;have aC:([x]:List Tr).length=1:=rfl;rw [ae] at y n aa;clear q r ac af ag E ae aC ai aw aj aK;rcases an with rfl | rfl | rfl
  all_goals
   go_enter func112,ntmps112
   obtain ⟨ar,Z,-,-⟩:=y.o.cells;go_wp2;clear ar Z;refine Mixed.qAQ (fun w'=>w'.cell? ⟨a,1,none⟩=some (.slice (some ⟨g,0,none⟩) 1 z)) 9 [(0,true),(1,true),(2,true),(3,true),(4,true),(5,true),(6,false),(7,false),(8,false)] (by kernel_rfl) (by kernel_rfl) aQ.o ?_;refine Mixed.qAT rfl (by kernel_rfl) _ rfl _ rfl ?_;refine Mixed.qAT rfl (by kernel_rfl) _ rfl _ rfl ?_;refine Mixed.mo rfl (.pointer (some ⟨a,0,none⟩)) (fun w k=>by go_simp;try rfl) ?_;refine Mixed.mo rfl (.pointer (some ⟨a,0,none⟩)) (fun w k=>by go_simp;try rfl) ?_;refine Mixed.mo rfl (.pointer (some ⟨a,1,none⟩)) (fun w k=>by go_simp;try rfl) ?_;refine Mixed.mo rfl (.slice (some ⟨g,0,none⟩) 1 z) (fun w k=>by go_simp;try rfl) ?_;refine Mixed.qAR rfl (by kernel_rfl) ?_
   go_wp2_with fail
   refine (qoT _).mono ?_;rintro o e ⟨rfl,A⟩;have ab:=J9 (y.o.below (w':=e) ((below_drewN _ _ 1).trans A));have ak:=J9 (n.o.below (w':=e) ((below_drewN _ _ 1).trans A));have ad:Hid (Below B w e):=((below_drewN w _ 1).trans A).mono M.o;have K:Hid (w.heap.size<=e.heap.size):=((below_drewN w _ 1).trans A).size;have h:=ab.o.cells.2.1;clear A y n;go_wp2;refine ⟨h,?_⟩;clear h;refine Mixed.qAR rfl (by kernel_rfl) ?_;have V:∀ b,Below e.heap.size e (e.alloc b):=(fun b=>(Qc _ _).alloc (Qa _) b);have G:=(fun b=>J9 (ab.o.below (V b)));have aq:=(fun b=>J9 (ak.o.below (V b)));have am:=(fun b=>J9 (ad.o.alloc (Qj M.o K.o) b));have h:=(fun b=>(G b).o.cells.2.1);have ah:=J9 (qn6 B g z e.heap.size x (e.alloc (.cells #[.int .i64 1,.int .i64 7,.int .i64 0] 56)) (aq _).o (heap_alloc_new e _) (by have:=aM.o;have:=K.o;omega) (by have:=M.o;have:=K.o;simp;omega));clear V ak ab ad aq;go_wp2;refine ⟨h _,?_⟩;clear h;refine Mixed.qAR rfl (by kernel_rfl) ?_
   go_wp2_with fail
   refine ah.o.mono ?_;rintro o T ⟨W,O,rfl,ay,U⟩;have J:Hid (Dr T a _ (.slice (some ⟨g,0,none⟩) 1 z)):=(U.block a (G _).o.lt (fun o=>aF.o (by simp at o;exact o.symm))).trans (G _).o;have ao:Hid (Below B w T):=(am _).o.grown U (Qj (Qj M.o K.o) (by simp)) (fun aT aL=>by simp at aL;have:=aE.o;omega);have aJ:=J9 (J.o.put (.slice W 2 O));have aG:=J9 (qan.other ay J.o 1 (u:=.slice W 2 O));have aA:Hid (Below B w (T.setCell ⟨a,1,none⟩ (.slice W 2 O))):=ao.o.setCell (p:=⟨a,1,none⟩) av _;obtain ⟨ar,Z,-,aU⟩:=J.o.cells;have h:=Z;clear ay U G am ao ah J;go_wp2;refine ⟨h,?_⟩;clear h;simp only [Mixed.qAU,Qr,Qx];go_wp2
   go_end0
   rw [<- qs9 x];exact ⟨rfl,_,aJ.o,aG.o,aA.o⟩
 ·have aD:=J9 (qoE L E)
  obtain ⟨aB,ap⟩:=N9 (L.length);have n:=J9 n.o.own;rw [ap] at y n aa E ag;have aS:¬((aB:Int)=1):=by omega
  clear q r ac ap af;rcases an with rfl | rfl | rfl
  all_goals
   go_enter func112,ntmps112
   go_wp2
   go_end0
   rw [<- aD.o];exact ⟨rfl,_,y.o,n.o,Qc _ _⟩
theorem quV (s:ByteArray) (h:¬I1 s) (z:¬I2 s) (B q:Nat) (v:Value) (L:List Tr) (w:World) (y:Dr w q s v) (O:qan w B v L) :
  Calls prog 112 #[.pointer (some ⟨q,0,none⟩)] w (qy0 w q s B (accL (opc s) L)):=by
 have Z:=J9 (qg8 (opc s) L (qeZ h) (qe8 z));obtain ⟨af,ac,-,-⟩:=y.cells;have aa:=J9 y;have W:=J9 O;simp only [I1,not_or] at h;simp only [I2,not_or] at z;obtain ⟨K,G,M,E,J⟩:=h;obtain ⟨U,V,T⟩:=z;have ab:(s.toList == [83,85,66])=false:=by simpa using qak K
 have ah:(s.toList == [65,78,68])=false:=by simpa using qak G
 have ad:(s.toList == [88,79,82])=false:=by simpa using qak M
 have ai:(s.toList == [79,82])=false:=by simpa using qak E
 have ag:(s.toList == [67,80])=false:=by simpa using qak J
 have ak:(s.toList == [65,68,68])=false:=by simpa using qak U
 have ae:(s.toList == [65,68,67])=false:=by simpa using qak V
 have aj:(s.toList == [83,66,67])=false:=by simpa using qak T
 clear K G M E J U V T y O
 go_enter func112,ntmps112
 go_wp2
 go_end0
 rw [<- Z.o];exact ⟨rfl,_,aa.o,W.o,Qc _ _⟩
theorem qoS (s:ByteArray) (B h:Nat) (J:B<=h) (v:Value) (L:List Tr) (G:L.length<=1000) (w:World) (q:Dr w h s v) (E:qaf w B v L) :
  Calls prog 112 #[.pointer (some ⟨h,0,none⟩)] w (qy0 w h s B (accL (opc s) L)):=by
 by_cases y:I1 s
 ·rw [qtA y];exact qvO s y B h J v L G w q E
 by_cases z:I2 s
 ·rw [qrd z];exact quM s z B h J v L G w q E
 exact quV s y z B h v L w q E.own
end Go.Proofs.YtecpnfhpcamljaaGreatDoor
namespace Go.Proofs.YtecpnfhpcamljaaGreatDoor
open Tryz
open Go.RowKit
theorem qoy (w:World):Calls prog 66 #[] w fun o h=>
  o=.returned (.agg #[.func (.func 112) #[] #[],.func (.func 113) #[] #[],.func (.func 114) #[] #[]])/\Below w.heap.size w h:=by
 have B0:∀ e,Hid (Below w.heap.size w (w.alloc e)):=fun e=>B0
 go_enter func66,ntmps66
 go_wp2
 trace_state
 refine bodyPost_ret (v:=.agg #[.func (.func 112) #[] #[],.func (.func 113) #[] #[],.func (.func 114) #[] #[]]) ?_ rfl ⟨rfl,(B0 _).o⟩;simp [results,results66,go_sem]
theorem qan.low {w:World} {n:Nat} {v:Value} {L:List Tr} (g:qan w n v L) (p:Addr) (T:p.block<n) (u:Value):qan (w.setCell p u) n v L:=by
 rcases g with g | ⟨h,z,M,y,E,K,G,O,J,q⟩
 ·exact .inl g
 ·exact .inr ⟨h,z,M,y,E,K,G,O,(heap_setCell_other w p h u (by omega)).trans J,q⟩
def Dz (w:World) (b:Nat):Prop:=w.heap[b]?=some (.cells #[.string ⟨#[]⟩,.slice none 0 0] 93 (0,0))
theorem Dz.cells {w:World} {b:Nat} (h:Dz w b):w.cell? ⟨b,0,none⟩=some (.string ⟨#[]⟩)/\w.cell? ⟨b,1,none⟩=some (.slice none 0 0)/\w.frozen? ⟨b,0,none⟩=false/\w.frozen? ⟨b,1,none⟩=false:=
 ⟨by rw [C9 h];rfl,by rw [C9 h];rfl,Qp h 0,Qp h 1⟩
theorem Dz.done {w:World} {b:Nat} (q:Dz w b) (s:ByteArray) (v:Value):Dr ((w.setCell ⟨b,0,none⟩ (.string s)).setCell ⟨b,1,none⟩ v) b s v:=by
 have h:=heap_setCell_same w b 0 _ _ (.string s) q;have y:=heap_setCell_same (w.setCell ⟨b,0,none⟩ (.string s)) b 1 _ _ v h;exact y
theorem qvR (c:Nat) (L:List Tr):qcP c (exL c (accL c L))=qcP c L:=by
 by_cases h:c=6
 ·subst h
  rw [show accL 6 L=L from (qg8 6 L (by omega) (by omega)).symm,show exL 6 L=L from (qtO 6 L (by omega)).symm]
 ·unfold qcP
  have t:∀ q:List Tr,¬(c=6/\q.head?.map (fun y=>y.1)=some 3):=fun q x=>h x.1
  rw [Qe (t _),Qe (t _)]
def qiF (w:World) (s:ByteArray) (L:List Tr) (e:Ending) (w':World):Prop:=∃ h,e=.returned (.agg #[.string s,h])/\qan w' w.heap.size h L/\Below w.heap.size w w'
theorem quj (s:ByteArray) (A:Option Addr) (cap:Nat) (L:List Tr) (aw:L.length<=900) (w:World) (H:qai w A L) :
  Calls prog 35 #[.agg #[.string s,.slice A L.length cap]] w (qiF w s (canL (opc s) L)):=by
 have ai:=J9 (qgU A cap L (by omega));obtain ⟨e,X⟩:=N9 ((w.alloc (.cells #[.string s,.slice A L.length cap] 24)).alloc (.cells #[.string ⟨#[]⟩,.slice none 0 0] 24));have au:Hid (Below w.heap.size w e):=by rw [<- X];exact (B0).alloc (by simp) _
 have ab:Hid (Bx e w.heap.size s A L.length cap):=by rw [<- X];exact ⟨by simp [go_sem],by simp [go_sem]⟩
 have aP:Hid (Rz e (w.heap.size+1)):=by
  rw [<- X];have:=heap_alloc_new (w.alloc (.cells #[.string s,.slice A L.length cap] 24)) (.cells #[.string ⟨#[]⟩,.slice none 0 0] 24);show Rz _ _;simpa [Rz] using this
 have aD:Hid (e.heap.size=w.heap.size+2):=by rw [<- X];simp [Hid]
 have ao:=J9 (H.below au.o);obtain ⟨T,an⟩:=N9 (L.length);have aR:=J9 an;have ay:=J9 (qms (opc s) L);have aQ:=J9 (qip (opc s) (accL (opc s) L));have aj:=J9 aw;have aZ:=J9 (qvR (opc s) L);rw [an] at aw ab X ai |-;clear H an;have ak:=J9 (qwh ai.o aR.o)
 go_enter func35,ntmps35
 go_upto_region 1 with fail
 clear X ai
 go_cut [3] (fun p wx=>∃ q F G,p=.pointer (some ⟨q,0,none⟩)/\Hid (e.heap.size<=q)/\Hid (Dr wx q s (.slice F T G))/\Hid (qaf wx e.heap.size (.slice F T G) L)/\Hid (Below e.heap.size e wx))
 case first=>
  have af:Hid (∀ wx,wx=e.drew\/wx=e.drew.alloc (.cells #[.string ⟨#[]⟩,.slice none 0 0] 93)->qai wx A L/\Below e.heap.size e wx):=by
   rintro wx (rfl | rfl)
   ·exact ⟨ao.o.below (below_drewN _ _ 1),below_drewN _ _ 1⟩
   ·exact ⟨ao.o.below ((below_drewN _ _ 1).alloc (by simp) _),(below_drewN _ _ 1).alloc (by simp) _⟩
  have V:Hid (∀ wx,Below e.heap.size e wx->Bx wx w.heap.size s A T cap):=fun wx J=>ab.o.all J
  have aS:Hid (∀ wx n,wx=e.drew.alloc (.cells #[.string ⟨#[]⟩,.slice none 0 0] 93)->Below wx.heap.size wx n->Dz n e.heap.size):=by
   rintro wx n rfl J;exact (J.block _ (by simp)).trans (heap_alloc_new e.drew _)
  have a3:=ab.o.lt;obtain ⟨a8,bb⟩:=ab.o
  go_region_held3 (fun aE=>aE.cell? ⟨w.heap.size,0,none⟩=some (.string s)/\aE.cell? ⟨w.heap.size,1,none⟩=some (.slice A T cap)) (first | exact V.o _ (below_drewN _ _ 1) | exact V.o _ ((below_drewN _ _ 1).alloc (by simp) _) | exact V.o _ z | exact V.o _ (z.alloc (z.size) _) | exact V.o _ ((z.setCell (p:=⟨e.heap.size,0,none⟩) (Qa _) _).setCell (p:=⟨e.heap.size,1,none⟩) (Qa _) _)) (first | (go_at_call 62;refine (ak.o _ (af.o _ (.inr rfl)).1).mono ?_;rintro aa n ⟨F,G,rfl,W,ae⟩;have z:=((af.o _ (.inr rfl)).2).trans (ae.mono (by simp));obtain ⟨aV,aM⟩:=V.o _ z;have aN:w.heap.size≠n.heap.size:=(by have:=z.size;omega);have aA:=aS.o _ _ rfl ae;obtain ⟨a2,a6,a4,a7⟩:=aA.cells) | (go_at_call 62;refine (ak.o _ (af.o _ (.inl rfl)).1).mono ?_;rintro aa n ⟨F,G,rfl,W,ae⟩;have z:=((af.o _ (.inl rfl)).2).trans (ae.mono (by simp));obtain ⟨aV,aM⟩:=V.o _ z;have aN:w.heap.size≠n.heap.size:=(by have:=z.size;omega)))
  all_goals
   go_wp2
   go_meet
   first
    | exact ⟨n.heap.size,F,G,rfl,z.size,heap_alloc_new n _,World.ownsRow.alloc W _,z.alloc z.size _⟩
    | exact ⟨e.heap.size,F,G,rfl,Qa _,aA.done _ _,row_mono (row_set (row_set W (p:=⟨e.heap.size,0,none⟩) (by simp) _) (p:=⟨e.heap.size,1,none⟩) (by simp) _) (by simp),(z.setCell (p:=⟨e.heap.size,0,none⟩) (Qa _) _).setCell (p:=⟨e.heap.size,1,none⟩) (Qa _) _⟩
 case rest=>
  clear ak ao ab;obtain ⟨q,F,G,rfl,ac,ag,W,ap⟩:=hcut;obtain ⟨h,aq⟩:=N9 (e.heap.size);rw [aq] at ac W ap aD;have a5:=J9 aq;clear aq;have aJ:∀ n,Below wc.heap.size wc n->Hid (Dr n q s (.slice F T G))/\Hid (qaf n h (.slice F T G) L)/\Hid (Below h e n):=fun n J=>by
   have aL:h<=wc.heap.size:=Qj ac.o (QV ag.o.lt);exact ⟨ag.o.below J,W.o.below J,ap.o.trans (J.mono aL)⟩
  go_wp2_with fail
  refine (qoy _).mono ?_;rintro aa n ⟨rfl,J⟩;obtain ⟨av,aF,i⟩:=aJ n J;clear J aJ ag W ap;go_wp2
  go_loopw [14] (fun Z wr=>(Z=.int .i64 0/\Hid (Dr wr q s (.slice F T G))/\Hid (qaf wr h (.slice F T G) L)/\Hid (Below h e wr))\/(Z=.int .i64 1/\Hid (∃ v,Dr wr q s v/\qan wr h v (accL (opc s) L)/\Below h e wr))\/(Z=.int .i64 2/\Hid (∃ v,Dr wr q s v/\qan wr h v (exL (opc s) (accL (opc s) L))/\Below h e wr))\/(Z=.int .i64 3/\Hid (∃ v,Dr wr q s v/\qan wr h v (canL (opc s) L)/\Below h e wr))) (fun Z _=>3 - (intOf Z).toNat)
  case atStart=>exact .inl ⟨rfl,av.o,aF.o,i.o⟩
  case round=>
   clear av aF i;rcases hrel with ⟨rfl,D,B,i⟩ | ⟨rfl,y⟩ | ⟨rfl,y⟩ | ⟨rfl,y⟩
   ·have ax:∀ w,(Instr.index 95 (.agg #[.func (.func 112) #[] #[],.func (.func 113) #[] #[],.func (.func 114) #[] #[]]) (.int .i64 0)).run prog w=.ok (.func (.func 112) #[] #[]) w:=fun _=>by kernel_rfl
    have M:=J9 (qoS s h q ac.o _ L (by have:=aj.o;omega) wr D.o B.o)
    go_wp2_with fail
    refine M.o.mono ?_;rintro aa E ⟨rfl,v,U,K,O⟩;have y:Hid (∃ v,Dr E q s v/\qan E h v (accL (opc s) L)/\Below h e E):=⟨v,U,K,i.o.trans O⟩;clear U K O M D B i;go_wp2;go_roundw
    case rel=>exact .inr (.inl ⟨rfl,y.o⟩)
    case measure=>simp [intOf]
   ·obtain ⟨v,D,B,i⟩:=y.o
    have ax:∀ w,(Instr.index 95 (.agg #[.func (.func 112) #[] #[],.func (.func 113) #[] #[],.func (.func 114) #[] #[]]) (.int .i64 1)).run prog w=.ok (.func (.func 113) #[] #[]) w:=fun _=>by kernel_rfl
    have M:=J9 (qxo s h q ac.o v (accL (opc s) L) (by have:=aj.o;have:=ay.o;omega) wr D B);have i:=J9 i;clear D B y
    go_wp2_with fail
    refine M.o.mono ?_;rintro aa E ⟨rfl,U,K,O⟩;have y:Hid (∃ v,Dr E q s v/\qan E h v (exL (opc s) (accL (opc s) L))/\Below h e E):=⟨v,U,K,i.o.trans O⟩;clear U K O M i;go_wp2;go_roundw
    case rel=>exact .inr (.inr (.inl ⟨rfl,y.o⟩))
    case measure=>simp [intOf]
   ·obtain ⟨v,D,B,i⟩:=y.o
    have ax:∀ w,(Instr.index 95 (.agg #[.func (.func 112) #[] #[],.func (.func 113) #[] #[],.func (.func 114) #[] #[]]) (.int .i64 2)).run prog w=.ok (.func (.func 114) #[] #[]) w:=fun _=>by kernel_rfl
    have M:=J9 (qrZ s h q ac.o v (exL (opc s) (accL (opc s) L)) (by have:=aj.o;have:=ay.o;have:=aQ.o;omega) wr D B);have i:=J9 i;clear D B y
    go_wp2_with fail
    refine M.o.mono ?_;rintro aa E ⟨rfl,U,K,O⟩;rw [aZ.o] at K;have y:Hid (∃ v,Dr E q s v/\qan E h v (canL (opc s) L)/\Below h e E):=⟨v,U,K,i.o.trans O⟩;clear U K O M i;go_wp2;go_roundw
    case rel=>exact .inr (.inr (.inr ⟨rfl,y.o⟩))
    case measure=>simp [intOf]
   ·obtain ⟨v,D,B,i⟩:=y.o
    obtain ⟨ar,ah,rfl,-,-,-⟩:=B.ops;obtain ⟨v,ad⟩:∃ v,v=Value.slice ar (canL (opc s) L).length ah:=⟨_,rfl⟩;rw [<- ad] at D B;obtain ⟨a0,aY,-,-⟩:=D.cells;have aW:=aD.o;have am:Rz wr (w.heap.size+1):=(i.block _ (by omega)).trans aP.o;obtain ⟨aO,aU,aT,aX⟩:=am.cells;have aK:=J9 (am.set s v);have a1:=J9 ad;have aB:Hid (qiF w s (canL (opc s) L) (.returned (.agg #[.string s,v])) ((wr.setCell ⟨w.heap.size+1,0,none⟩ (.string s)).setCell ⟨w.heap.size+1,1,none⟩ v)):=
     ⟨v,rfl,((B.low ⟨w.heap.size+1,0,none⟩ (by simp;omega) _).low ⟨w.heap.size+1,1,none⟩ (by simp;omega) _).lift (by omega),
      ((au.o.trans (i.mono (by omega))).setCell (p:=⟨w.heap.size+1,0,none⟩) (by simp) _).setCell (p:=⟨w.heap.size+1,1,none⟩) (by simp) _⟩
    clear y D B i am aW;obtain ⟨aI,az⟩:=N9 ((canL (opc s) L).length);rw [az] at ad;clear az a1;subst ad;go_wp2;obtain ⟨aG,aH⟩:=aK.o;obtain ⟨a9,aC⟩:=N9 (((wr.setCell ⟨w.heap.size+1,0,none⟩ (.string s)).setCell ⟨w.heap.size+1,1,none⟩ (.slice ar aI ah)));rw [aC] at aB aG aH |-;clear aC aO aU aT aX a0 aY;refine bodyPost_ret (v:=.agg #[.string s,.slice ar aI ah]) ?_ rfl aB.o;simp [results,results35,go_sem,aG,aH]
end Go.Proofs.YtecpnfhpcamljaaGreatDoor
namespace Go.Proofs.YtecpnfhpcamljaaGreatDoor
open Tryz
open Go.RowKit
attribute [local irreducible] Go.Mixed.qAU
def b3L (c:Nat) (L:List Tr):Bool:=decide (c=1/\L.length=2/\L.head?=some qbV)
def b5L (c:Nat) (L:List Tr):Bool:=decide (c=2/\L.length=1)
def b9L (c:Nat) (L:List Tr):Bool:=decide (c=3/\L=[hlT,deT])
theorem qjv (w:World) (x h:Tr) (B:Nat) (q:B<=w.heap.size):qan (w.alloc (.cells #[.int .i64 x.1,.int .i64 x.2.1,.int .i64 x.2.2,.int .i64 h.1,.int .i64 h.2.1,.int .i64 h.2.2] 56)) B (.slice (some ⟨w.heap.size,0,none⟩) 2 2) [x,h]:=
 .inr ⟨w.heap.size,0,2,rfl,Qa _,by unfold maxLen;omega,qhS q (heap_alloc_new w _) ⟨rfl,rfl,rfl⟩ ⟨rfl,rfl,rfl⟩⟩
theorem qea (c:Nat) (L:List Tr) (b:Bool) (q:b3L c L=b):accL c L=if b5L c (if b then L.tail else L) then qbV :: (if b then L.tail else L) else (if b then L.tail else L):=by
 cases b with
 | true=>
  obtain ⟨h,e,y⟩:=Qo q;have z:b5L c L.tail=false:=Qh fun E=>by omega
  simp only [if_true,z,Bool.false_eq_true,if_false];unfold accL;rw [Qi ⟨h,e,y⟩]
 | false=>
  have h:=QX q;simp only [Bool.false_eq_true,if_false];unfold accL b5L;rw [Qe h];by_cases e:c=2/\L.length=1
  ·rw [Qi e,Qn e];rfl
  ·rw [Qe e,Qh e];rfl
theorem qfy (c:Nat) (h:List Tr):exL c h=if b9L c h then [deT,hlT] else h:=by
 unfold exL b9L;by_cases q:c=3/\h=[hlT,deT]
 ·rw [Qi q,Qn q];rfl
 ·rw [Qe q,Qh q];rfl
def Sv (w1 wx:World) (B:Nat) (v:Value) (L:List Tr):Prop:=∃ h q,v=.slice h L.length q/\qan wx B v L/\Below B w1 wx
theorem Sv.go {w1 wx q:World} {B:Nat} {v:Value} {L:List Tr} (A:Sv w1 wx B v L) (E:B<=w1.heap.size) (y:Below wx.heap.size wx q):Sv w1 q B v L:=by
 obtain ⟨G,J,rfl,z,h⟩:=A;exact ⟨G,J,rfl,z.below y,h.trans (y.mono (Qj E h.size))⟩
theorem qyF (s:ByteArray) (A:Option Addr) (cap:Nat) (L:List Tr) (co:L.length<=900) (w:World) (H:qai w A L) (aD:¬I1 s) (bT:¬I2 s) (cc:¬I3 s) (cL:qcP (opc s) L=0) :
  Calls prog 16 #[.agg #[.string s,.slice A L.length cap]] w (qiF w s (canL (opc s) L)):=by
 obtain ⟨e,Q⟩:=N9 (((w.alloc (.cells #[.string s,.slice A L.length cap] 24)).alloc (.cells #[.string ⟨#[]⟩,.slice none 0 0] 24)).alloc (.cells #[.int .i64 1,.int .i64 7,.int .i64 0] 56));have F:Hid (Below w.heap.size w e):=by rw [<- Q];exact ((B0).alloc (by simp) _).alloc (by simp;omega) _
 have aA:Hid (Bx e w.heap.size s A L.length cap):=by rw [<- Q];exact ⟨by simp [go_sem],by simp [go_sem]⟩
 have bN:Hid (Rz e (w.heap.size+1)):=by
  rw [<- Q];have aM:=heap_alloc_new (w.alloc (.cells #[.string s,.slice A L.length cap] 24)) (.cells #[.string ⟨#[]⟩,.slice none 0 0] 24);have y:Below (w.heap.size+2) ((w.alloc (.cells #[.string s,.slice A L.length cap] 24)).alloc (.cells #[.string ⟨#[]⟩,.slice none 0 0] 24)) (((w.alloc (.cells #[.string s,.slice A L.length cap] 24)).alloc (.cells #[.string ⟨#[]⟩,.slice none 0 0] 24)).alloc (.cells #[.int .i64 1,.int .i64 7,.int .i64 0] 56)):=(Qc _ _).alloc (by simp) _;show Rz _ _;refine (y.block _ (by omega)).trans ?_;simpa [Rz] using aM
 have av:Hid (e.heap.size=w.heap.size+3):=by rw [<- Q];simp [Hid]
 have A1:Hid (e.heap[w.heap.size+2]?=some (.cells #[.int .i64 1,.int .i64 7,.int .i64 0] 56 (0,0))):=by
  rw [<- Q];have aM:=heap_alloc_new ((w.alloc (.cells #[.string s,.slice A L.length cap] 24)).alloc (.cells #[.string ⟨#[]⟩,.slice none 0 0] 24)) (.cells #[.int .i64 1,.int .i64 7,.int .i64 0] 56);simpa [Hid] using aM
 have b8:=J9 (H.below F.o);obtain ⟨cH,ak,bL,bq,y⟩:=qcp A cap L (by omega) e b8.o;have ap:=J9 bL;have ca:Hid (Sv e ak e.heap.size cH L):=by
  obtain ⟨cr,bH,rfl,-,-⟩:=bq.ops;exact ⟨cr,bH,rfl,bq.own,y⟩
 obtain ⟨n,bs⟩:=N9 (L.length);have aq:=J9 bs;rw [bs] at aA ap Q |-;have cx:n<=900:=by omega
 have bJ:=J9 Q;have b5:=J9 H;clear H bL bq y b8 bs co Q
 go_enter func16,ntmps16
 go_upto_region 2 with fail
 rw [bJ.o];obtain ⟨aO,Y⟩:=N9 (w.heap.size+1+1);rw [Y];obtain ⟨c,bA⟩:=N9 (e.heap.size);obtain ⟨Z,ac,rfl,aF,bf⟩:=ca.o;rw [aq.o] at ap aF;rw [bA] at ap aF bf av;have aT:(e.alloc (.cells #[] 56)).cell? ⟨w.heap.size,1,none⟩=some (.slice A n cap):=(World.cell?_alloc_lt e _ _ (by have:=av.o;simp;omega)).trans aA.o.2;have FK:Hid (∀ wx,Below c e wx->(wx.cell? ⟨w.heap.size,0,none⟩=some (.string s)/\wx.cell? ⟨w.heap.size,1,none⟩=some (.slice A n cap))/\(wx.cell? ⟨aO,0,none⟩=some (.int .i64 1)/\wx.cell? ⟨aO,1,none⟩=some (.int .i64 7)/\wx.cell? ⟨aO,2,none⟩=some (.int .i64 0))/\qai wx A L):=fun wx o=>by
  have cG:=av.o;have bE:wx.heap[aO]?=some (.cells #[.int .i64 1,.int .i64 7,.int .i64 0] 56 (0,0)):=(o.block _ (by omega)).trans (by rw [<- Y];exact A1.o);exact ⟨⟨(o.cell (p:=⟨w.heap.size,0,none⟩) (by simp;omega)).trans aA.o.1,(o.cell (p:=⟨w.heap.size,1,none⟩) (by simp;omega)).trans aA.o.2⟩,⟨by rw [C9 bE];rfl,by rw [C9 bE];rfl,by rw [C9 bE];rfl⟩,b5.o.below (F.o.trans (o.mono (by omega)))⟩
 have bu:=J9 aF;have aX:=J9 bf;have a1:=fun (wx:World) A bc=>J9 (qen A bc W1 (by decide) s wx)
 have aG:=fun (wx:World) A bc=>J9 (qen A bc W2 (by decide) s wx)
 rw [qy6] at a1;rw [qza] at aG;obtain ⟨b3,bG⟩:=N9 (decide (I1 s));obtain ⟨cy,bd⟩:=N9 (decide (I2 s));simp only [bG] at a1;simp only [bd] at aG;have bn:=J9 bG;have a8:=J9 bd;have bQ:=J9 bA;clear aF bf ca aA A1 bJ bA b5 bG bd Y;have cB:e.heap.size=c:=bQ.o
 go_upto_region 3 with (at_builtin;refine qal ap.o rfl _ _ rfl rfl rfl rfl ?_)
 clear cB aT ap;have az:Hid (c<=e.heap.size):=by have:=bQ.o;show c<=e.heap.size;omega
 go_cut [29] (fun p wx=>p=.bool (b3L (opc s) L)/\Hid (qan wx c (.slice Z n ac) L)/\Hid (Below c e wx))
 case first=>
  obtain ⟨K,aY⟩:=N9 (ak.drew);have bF:Below ak.heap.size ak K:=by rw [<- aY];exact below_drewN ak _ 1
  have aj:=J9 (bu.o.below bF);have ad:=J9 (aX.o.trans (bF.mono (Qj az.o aX.o.size)));clear bF bu aX;refine Mixed.qAQ (fun bY=>qan bY c (.slice Z n ac) L/\Below c e bY) 15 [(1,true),(2,true),(0,false),(3,false),(4,true),(5,true),(6,true),(7,true),(8,true),(9,true),(10,true),(11,true),(12,true),(13,true),(14,true)] (by kernel_rfl) (by kernel_rfl) (by rw [aY];exact ⟨aj.o,ad.o⟩) ?_;rw [aY];clear aY;refine Mixed.mp rfl (.pointer (some ⟨w.heap.size,0,none⟩)) ?_;refine Mixed.mo rfl (.string s) (fun w bR=>by obtain ⟨⟨aM,y⟩,-,-⟩:=FK.o w bR.2;clear bR;go_simp;try rfl) ?_;refine Mixed.qAR rfl (by kernel_rfl) ?_;have aa:∀ h,Below K.heap.size K (K.alloc h):=fun h=>(Qc _ _).alloc (Qa _) h
  have af:=fun h=>J9 (aj.o.below (aa h))
  have ab:=fun h=>J9 (ad.o.trans ((aa h).mono (Qj az.o ad.o.size)))
  have ar:=J9 ((a1 (K.alloc (.cells (W1.map Value.string).toArray 9)) (some ⟨K.heap.size,0,none⟩) 5).o (qaH K W1 9));have au:=fun h=>(show qan (K.alloc h) c (.slice Z n ac) L/\Below c e (K.alloc h) from ⟨(af h).o,(ab h).o⟩)
  clear aa aj ad;go_wp2;refine ⟨au _,?_⟩;clear au;refine Mixed.qAR rfl (by kernel_rfl) ?_
  go_wp2_with fail
  refine ar.o.mono ?_;rintro bV W ⟨rfl,V⟩;have E:Hid (qan W c (.slice Z n ac) L):=by rw [<- V];exact (af _).o
  have J:Hid (Below c e W):=by rw [<- V];exact (ab _).o
  have au:qan W c (.slice Z n ac) L/\Below c e W:=⟨E.o,J.o⟩;clear V af ab ar;go_wp2;refine ⟨au,?_⟩;clear au;refine Mixed.mp rfl (.bool b3) ?_;cases b3 with
  | false=>
   have aw:Hid (false=b3L (opc s) L):=(Qh fun m=>qeZ (QX bn.o) m.1).symm;refine Mixed.ms rfl ?_;refine Mixed.ms rfl ?_;refine Mixed.ms rfl ?_;refine Mixed.mp rfl (.bool false) ?_;refine Mixed.mp rfl (.bool false) ?_;refine Mixed.ms rfl ?_;refine Mixed.ms rfl ?_;refine Mixed.ms rfl ?_;refine Mixed.ms rfl ?_;refine Mixed.ms rfl ?_;simp only [Mixed.qAU,Qr,Qx];go_wp2
   go_meet
   exact ⟨by rw [aw.o],E.o,J.o⟩
  | true=>exact absurd (Qo bn.o) aD
 case rest=>
  obtain ⟨rfl,aj,ad⟩:=hcut;clear bu aX a1;have bl:Hid (qan wc c (.slice Z n ac) L/\Below c e wc):=⟨aj.o,ad.o⟩;clear aj ad
  go_upto_if 29 with fail
  obtain ⟨N,Y⟩:=N9 (b3L (opc s) L);rw [Y];have aC:=J9 Y;clear Y
  go_cut [4] (fun v wx=>∃ ax ay,v=.slice ax (if N then 1 else n) ay/\Hid (qan wx c v (if N then L.tail else L))/\Hid (Below c e wx))
  case first=>
   cases N with
   | false=>
    go_wp2
    go_meet
    exact ⟨Z,ac,rfl,bl.o.1,bl.o.2⟩
   | true=>
    obtain ⟨cu,y,an⟩:=Qo aC.o;exact absurd cu (qeZ aD)
  case rest=>
   obtain ⟨ax,ay,rfl,E,J⟩:=hcut;have ao:=J9 (qea (opc s) L N aC.o);have x:(if N then L.tail else L).length=(if N then 1 else n):=by
    cases N with
    | true=>
     obtain ⟨-,y,-⟩:=Qo aC.o;simp only [if_true,List.length_tail,y]
    | false=>simpa using aq.o
   obtain ⟨O,be⟩:=N9 ((if N then L.tail else L));obtain ⟨ag,aW⟩:=N9 ((if N then 1 else n));rw [be,aW] at x;rw [be] at ao E;have cK:ag<=900:=by rw [<- aW];split <;> omega
   have b4:=J9 x;obtain ⟨z,ai⟩:=N9 (b5L (opc s) O);rw [ai] at ao;have aN:=J9 ai;rw [aW] at E |-;clear be aW x ai bl aC
   go_upto_region 5 with fail
   go_cut [40] (fun p wx=>p=.bool z/\Hid (qan wx c (.slice ax ag ay) O)/\Hid (Below c e wx))
   case first=>
    have U:c<=wc.heap.size:=Qj az.o J.o.size;have aa:∀ h,Below wc.heap.size wc (wc.alloc h):=(fun h=>(Qc _ _).alloc (Qa _) h);have af:=(fun h=>J9 (E.o.below (aa h)));have ab:=(fun h=>J9 (J.o.trans ((aa h).mono U)));have ar:=J9 ((aG (wc.alloc (.cells (W2.map Value.string).toArray 9)) (some ⟨wc.heap.size,0,none⟩) 3).o (qaH wc W2 9));have aS:=(FK.o _ (ab (.cells #[.string ⟨#[65,68,68]⟩,.string ⟨#[65,68,67]⟩,.string ⟨#[83,66,67]⟩] 9)).o).1.1;clear aa U E J
    go_wp2_with fail
    refine ar.o.mono ?_;rintro bV W ⟨rfl,V⟩;have E:Hid (qan W c (.slice ax ag ay) O):=(by rw [<- V];exact (af _).o);have J:Hid (Below c e W):=(by rw [<- V];exact (ab _).o);clear V af ab ar aS;cases cy with
    | false=>
     have aw:Hid (false=z):=(by rw [<- aN.o];exact (Qh fun m=>qe8 (QX a8.o) m.1).symm);go_wp2
     go_meet
     exact ⟨by rw [aw.o],E.o,J.o⟩
    | true=>exact absurd (Qo a8.o) bT
   case rest=>
    obtain ⟨rfl,bS,bO⟩:=hcut;clear E J aG
    go_upto_if 40 with fail
    go_cut [4] (fun v wx=>∃ bm a7,v=.slice bm (if z then 2 else ag) a7/\Hid (qan wx c v (if z then qbV :: O else O))/\Hid (Below c e wx))
    case first=>
     cases z with
     | false=>
      go_wp2
      go_meet
      exact ⟨ax,ay,rfl,bS.o,bO.o⟩
     | true=>
      obtain ⟨cp,y⟩:=Qo aN.o;exact absurd cp (qe8 bT)
    case rest=>
     obtain ⟨bm,a7,rfl,aL,bt⟩:=hcut;have x:(if z then qbV :: O else O).length=(if z then 2 else ag):=by
      cases z with
      | true=>
       obtain ⟨-,y⟩:=Qo aN.o;simp only [if_true,Qt,y]
      | false=>simpa using b4.o
     obtain ⟨i,a3⟩:=N9 ((if z then qbV :: O else O));obtain ⟨a0,aU⟩:=N9 ((if z then 2 else ag));rw [a3,aU] at x;rw [a3] at ao aL;have ct:a0<=900:=by rw [<- aU];split <;> omega
     have b7:=J9 x;obtain ⟨B,bD⟩:=N9 (b9L (opc s) i);have bp:=J9 bD;have aH:=J9 (qfy (opc s) i);rw [bD] at aH;rw [aU] at aL |-;clear a3 aU x bD bS bO aN b4 bn a8 cK
     go_upto_region 9 with fail
     obtain ⟨G,am⟩:=N9 ((wc.alloc (.cells #[.int .i64 3,.int .i64 2,.int .i64 0] 56)).alloc (.cells #[.int .i64 3,.int .i64 1,.int .i64 0] 56));have a6:Below wc.heap.size wc G:=(by rw [<- am];exact (B0).alloc (by simp) _);have U:c<=wc.heap.size:=Qj az.o bt.o.size;have bX:=J9 (aL.o.below a6);have bx:=J9 (bt.o.trans (a6.mono U));have bw:G.cell? ⟨wc.heap.size,0,none⟩=some (.int .i64 3)/\G.cell? ⟨wc.heap.size,1,none⟩=some (.int .i64 2)/\G.cell? ⟨wc.heap.size,2,none⟩=some (.int .i64 0):=(by rw [<- am];exact ⟨by simp [go_sem],by simp [go_sem],by simp [go_sem]⟩);have bB:G.cell? ⟨wc.heap.size+1,0,none⟩=some (.int .i64 3)/\G.cell? ⟨wc.heap.size+1,1,none⟩=some (.int .i64 1)/\G.cell? ⟨wc.heap.size+1,2,none⟩=some (.int .i64 0):=(by rw [<- am];exact ⟨by simp [go_sem],by simp [go_sem],by simp [go_sem]⟩);rw [am];obtain ⟨cU,ai⟩:=N9 (wc.heap.size);obtain ⟨cP,cd⟩:=N9 (wc.heap.size+1);rw [cd] at bB |-;rw [ai] at bw |-;have bI:=J9 bw;have bU:=J9 bB;clear am a6 U aL bt ai cd bw bB
     go_cut [69] (fun p wx=>p=.bool B/\Hid (∃ m,wx=G.drewN m))
     case first=>
      obtain ⟨⟨bk,-⟩,-,-⟩:=FK.o G bx.o;obtain ⟨c1,cN,cV⟩:=bI.o;obtain ⟨cR,c0,cQ⟩:=bU.o;by_cases an:I3 s
      ·exact absurd an cc
      ·have cS:(s.toList == [69,88])=false:=by simpa using qak an
       have aw:Hid (false=B):=by
        rw [<- bp.o];exact (Qh fun m=>qfR an m.1).symm
       clear an
       go_quiet (fail)
       go_wp2
       go_meet
       exact ⟨by rw [aw.o],⟨_,rfl⟩⟩
     case rest=>
      obtain ⟨rfl,cl,rfl⟩:=hcut
      go_upto_if 69 with fail
      go_cut [4] (fun v wx=>∃ ah ae,v=.slice ah (if B then 2 else a0) ae/\Hid (qan wx c v (if B then [deT,hlT] else i))/\Hid (Below c e wx))
      case first=>
       cases B with
       | false=>
        go_wp2
        go_meet
        exact ⟨bm,a7,rfl,bX.o,qce bx.o cl⟩
       | true=>
        exact absurd (Qo bp.o).1 (qfR cc)
      case rest=>
       obtain ⟨ah,ae,rfl,aR,aE⟩:=hcut;have x:(if B then [deT,hlT] else i).length=(if B then 2 else a0):=by
        cases B with
        | true=>rfl
        | false=>simpa using b7.o
       obtain ⟨j,bg⟩:=N9 ((if B then [deT,hlT] else i));obtain ⟨nq,aI⟩:=N9 ((if B then 2 else a0));rw [bg,aI] at x;rw [bg] at aH aR;have cM:nq<=900:=by rw [<- aI];split <;> omega
       have bj:=J9 x;rw [aI] at aR |-;have bv:Hid (canL (opc s) L=j.map (wrapT (qeK (qcP (opc s) L)))):=by
        show canL (opc s) L=_;unfold canL;rw [ao.o,aH.o]
       clear bg aI x bp bX bx b7 ao aH bI bU ct;obtain ⟨⟨bk,aD⟩,-,bK⟩:=FK.o wc aE.o;have aZ:=J9 (qdr s A cap L (by rw [aq.o];omega) wc bK);have cE:=qbT (opc s) L;obtain ⟨bz,q⟩:=N9 (qcP (opc s) L);have cj:Hid (bz=0):=q.symm.trans cL;rw [q] at aZ cE bv;rw [aq.o] at aZ;have cJ:=(fun v=>J9 (qjS v j));have cm:=(fun v=>J9 (qiK v j));have ci:=(fun v=>J9 (qjm v j));have cF:=(fun v=>J9 (qjs v j));have b1:∀ v g,(wL v j g).length=nq:=fun v g=>by rw [qgp];exact bj.o
       have U:c<=wc.heap.size:=Qj az.o aE.o.size;have bM:=J9 U;have b9:Hid (∀ wr v,Below c e wr->qan wr c v (j.map (wrapT (qeK bz)))->∃ aV b6 aP,v=.slice aV b6 aP/\(wr.cell? ⟨w.heap.size,0,none⟩=some (.string s))/\Rz wr (w.heap.size+1)/\qiF w s (canL (opc s) L) (.returned (.agg #[.string s,v])) ((wr.setCell ⟨w.heap.size+1,0,none⟩ (.string s)).setCell ⟨w.heap.size+1,1,none⟩ v)):=fun wr v o cg=>by
        have cG:=av.o;obtain ⟨aV,aP,aQ,-,-,-⟩:=cg.ops;refine ⟨aV,_,aP,aQ,(FK.o wr o).1.1,(o.block _ (by omega)).trans bN.o,v,rfl,?_,?_⟩
        ·rw [bv.o]
         exact ((cg.low ⟨w.heap.size+1,0,none⟩ (by simp;omega) _).low ⟨w.heap.size+1,1,none⟩ (by simp;omega) _).lift (by omega)
        ·exact ((F.o.trans (o.mono (by omega))).setCell (p:=⟨w.heap.size+1,0,none⟩) (by simp) _).setCell (p:=⟨w.heap.size+1,1,none⟩) (by simp) _
       clear bK U q bv bN av F aq cx
       go_wp2_with fail
       refine aZ.o.mono ?_;rintro bV cX ⟨rfl,o⟩;have b0:=J9 (aR.o.below o);have bZ:=J9 (aE.o.trans (o.mono bM.o));clear o aZ aR aE bk aD bM;obtain rfl:bz=0:=cj.o;rw [show qeK 0=0 from rfl] at b9;go_wp2
       go_loopw [8] (fun bo wr=>∃ g:Nat,g<=nq/\bo=.int .i64 g/\Hid (qan wr c (.slice ah nq ae) (wL 0 j g))/\Hid (Below c e wr)) (fun bo _=>nq - (intOf bo).toNat)
       case atStart=>exact ⟨0,Qu _,rfl,b0.o,bZ.o⟩
       case round=>
        clear b0 bZ;obtain ⟨g,cT,rfl,M,F⟩:=hrel;by_cases cf:g<nq
        ·have aK:g<j.length:=by rw [bj.o];exact cf
         have bh:g<(wL 0 j g).length:=(by rw [b1];exact cf);obtain ⟨cC,cz,bH,a2,a9,bP,T⟩:=M.o.qA8 (by omega);rw [b1] at a2 a9;simp only [Qy] at a2;obtain ⟨rfl,-,rfl⟩:=a2;obtain ⟨a4,bi,bC⟩:=T.at_ g bh;rw [(cF 0).o g aK bh] at a4 bi bC;have c4:=T.frozen (cz+g*3+2);have aB:=J9 ((cJ 0).o g aK);have i:=J9 ((cm 0).o g aK);obtain ⟨⟨cq,cO,bb⟩,ce⟩:=N9 (j[g]);rw [ce] at a4 bi bC aB i;simp only at a4 bi bC aB i;have c3:Hid (c<=cC):=T.1;have cW:=J9 a9;have cY:=J9 bP;have T:=J9 T;clear aK bh ce a9 bP;by_cases a5:cq=6
         ·by_cases cn:bb<0
          ·have cD:¬(0:Int)<=bb:=by omega
           have q:=i.o fun m=>absurd m.2.1 (by omega)
           rw [q] at M;subst a5;clear q aB i T;go_wp2;go_roundw
           case rel=>exact ⟨g+1,by omega,by go_num,M.o,F.o⟩
           case measure=>simp [intOf];omega
          ·have q:=i.o fun m=>cn m.2.2
           have cD:(0:Int)<=bb:=(by omega);rw [q] at M;subst a5;clear q aB i T;go_wp2;go_roundw
           case rel=>exact ⟨g+1,by omega,by go_num,M.o,F.o⟩
           case measure=>simp [intOf];omega
         ·have q:=i.o fun m=>a5 m.1
          rw [q] at M;clear q aB i T;go_wp2;go_roundw
          case rel=>exact ⟨g+1,by omega,by go_num,M.o,F.o⟩
          case measure=>simp [intOf];omega
        ·have cI:g=nq:=by omega
         subst cI;have b2:wL 0 j g=j.map (wrapT 0):=by
          rw [show g=j.length from bj.o.symm];exact (ci 0).o
         rw [b2] at M;obtain ⟨aV,b6,aP,aQ,bk,br,aJ⟩:=b9.o wr _ F.o M.o;simp only [Qy] at aQ;obtain ⟨rfl,rfl,rfl⟩:=aQ;obtain ⟨ck,cw,cv,cA⟩:=br.cells;have ch:=J9 (br.set s (.slice ah g ae));have aJ:=J9 aJ;clear br b2;go_wp2;obtain ⟨aS,aT⟩:=ch.o;obtain ⟨cZ,bW⟩:=N9 (((wr.setCell ⟨w.heap.size+1,0,none⟩ (.string s)).setCell ⟨w.heap.size+1,1,none⟩ (.slice ah g ae)));rw [bW] at aJ aS aT |-;clear bW ck cw cv cA;refine bodyPost_ret (v:=.agg #[.string s,.slice ah g ae]) ?_ rfl aJ.o;simp [results,results16,go_sem,aS,aT]
end Go.Proofs.YtecpnfhpcamljaaGreatDoor
