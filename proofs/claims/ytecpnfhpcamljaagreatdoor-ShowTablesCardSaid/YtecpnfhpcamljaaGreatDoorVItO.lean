/-
  Slices of items that came in, opened.
-/
import Derived.Test.YtecpnfhpcamljaaGreatDoorKN2
import Derived.Test.YtecpnfhpcamljaaGreatDoorVTbX
set_option linter.all false
set_option maxRecDepth 100000
set_option maxHeartbeats 4000000
namespace Go.Proofs.YtecpnfhpcamljaaGreatDoor
open Tryz
open Go.RowKit Go.ChangeShapes Go.WideShapes Go.Deep
def strOf (s:ByteArray):Str:=s.data.toList
theorem qs1 (s:ByteArray):sB (strOf s)=s:=by unfold sB strOf;simp
def qvY (r:Xe):Prop:=r.x.raw.length<=maxLen/\r.x.m.length<=maxLen/\r.x.C.length<=maxLen/\r.x.raw.length<=r.ca/\r.ca<=maxLen/\IntKind.i64.min<=r.x.kind/\r.x.kind<=IntKind.i64.max
section
variable {H:Type} {enc:TypeId×Value->H} {w:World} {spare:Nat->Bool} {fuel:Nat}
theorem qru {cs:List Value} {x:DataW H×List MemPlace} (O:DataW.trod enc prog w 0 spare true fuel 45 cs=some x):∃ n:Xe,cs=n.c/\qvY n/\BytesAt w n.A n.x.raw/\qai w n.B n.x.C:=by
 obtain ⟨az,aD,aE,aA,aC,_,G,z,y,A,q⟩:=Go.Joins.trod_struct4 underlying45 O;have ac:prog.cellsOf 45=5:=by kernel_rfl
 have Z:prog.cellsOf 3=1:=by kernel_rfl
 have ao:prog.cellsOf 35=1:=by kernel_rfl
 have W:prog.cellsOf 24=2:=by kernel_rfl
 have ad:prog.cellsOf 4=1:=by kernel_rfl
 rw [ac] at G
 match cs,G with
 | [U,aB,ap,af,ar],_=>
  simp only [Z,ao,W,ad] at z y A q;simp only [Qr,Qx,List.take_succ_cons,List.take_zero] at z y A q;obtain ⟨r,av,_,aq⟩:=DataW.trod_int underlying3 z;obtain ⟨au,aF,M,ag,ay,ah,ai,aa,ak,J⟩:=qdJ y;obtain ⟨h,aw,am,an,T⟩:=qph A;obtain ⟨E,aj,_⟩:=DataW.trod_bool underlying4 q;have ab:U=.int .i64 r:=by simpa using av
  have K:ap=.string h.s/\af=h.v:=by simpa using aw
  have ae:ar=.bool E:=by simpa using aj
  obtain ⟨ax,V⟩:=K;subst ab ay ah ax V ae;refine ⟨⟨⟨r,ag,strOf h.s,h.L,E⟩,au,M,h.A,h.cap⟩,?_,⟨ai,?_,an,ak,J,?_⟩,aa,T⟩
  ·simp only [Xe.c,qs1,Ie.v]
  ·show h.s.data.toList.length<=maxLen
   rw [Zf];exact am
  ·have q:IntKind.i64.min<=r/\r<=IntKind.i64.max:=by simpa [Lit.wf] using aq
   exact q
theorem qlM {v:Value} {x:DataW H×List MemPlace} (T:DataW.trod enc prog w 0 spare true fuel 40 [v]=some x) :
  ∃ D b n y,v=.slice D b n/\b=y.length/\b<=maxLen/\qdX w D y/\∀ a∈y,qvY a:=by
 rcases Deep.open_slice underlying40 T with ⟨h,_⟩ | ⟨i,b,n,M,ag,ak,aj,h,_,ai,ah,R,_,ae⟩
 ·simp only [Q3,and_true] at h
  exact ⟨none,0,0,[],h,rfl,Qu _,.inl rfl,fun a u=>absurd u Q9⟩
 ·simp only [Q3,and_true] at h
  have af:b<=M:=by rw [R];split <;> omega
  have U:prog.cellsOf 45=5:=by kernel_rfl
  have G:∀ e,e<b->∃ a:Xe,w.cells? 0 (i.add (e*5)) 5=some a.c/\qvY a/\BytesAt w a.A a.x.raw/\qai w a.B a.x.C:=fun e j=>by
   obtain ⟨am,q,ad⟩:=ae e (by omega);rw [U] at q;obtain ⟨a,O,Z,W,ab⟩:=qru ad;rw [O] at q;exact ⟨a,q,Z,W,ab⟩
  obtain ⟨ac,m⟩:=Deep.choose_lt G;refine ⟨some i,b,n,(List.range b).map ac,h,by simp,by omega,?_,?_⟩
  ·by_cases aa:b=0
   ·left;subst aa;simp
   ·have A:=(World.cells?_some (m 0 (by omega)).1).2.2 0 (by decide)
    rw [Nat.zero_mul,show (i.add 0).add 0=i.add 0 by simp [Addr.add]] at A;obtain ⟨J,V,rfl⟩:=qhk A;refine .inr ⟨J,V,rfl,fun r K=>?_⟩;have z:r<b:=(by simpa using K);simp only [Zo,List.getElem_range];refine ⟨fun e an f=>?_,(m r z).2.2⟩;have j:=Xe.c_lt _ f;have E:=(World.cells?_some (m r z).1).2.2 e j;rw [qiO,Nat.add_assoc] at E;rw [E]
    first | exact f | (rw [QN] at f;obtain ⟨_,f⟩:=f;simpa using f)
  ·intro a u
   obtain ⟨e,j,rfl⟩:=Zq.1 u;exact (m e (QZ.1 j)).2.1
end
end Go.Proofs.YtecpnfhpcamljaaGreatDoor
