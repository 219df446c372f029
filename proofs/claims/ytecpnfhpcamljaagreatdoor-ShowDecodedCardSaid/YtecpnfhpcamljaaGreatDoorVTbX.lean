/-
  Bytes and pairs of bytes that came in, opened.
-/
import Derived.Test.YtecpnfhpcamljaaGreatDoorKAE
import Derived.Test.YtecpnfhpcamljaaGreatDoorVShp
set_option linter.all false
set_option maxRecDepth 100000
set_option maxHeartbeats 4000000
namespace Go.Proofs.YtecpnfhpcamljaaGreatDoor
open Tryz
open Go.ChangeShapes Go.WideShapes Go.RowKit
def bU8 (n:Int):UInt8:=n.toNat.toUInt8
theorem quN {n:Int} (h:(Lit.int .u8 n).wf=true):((bU8 n).toNat:Int)=n:=by
 have y:0<=n/\n<=255:=by
  have q:IntKind.u8.min<=n/\n<=IntKind.u8.max:=by simpa [Lit.wf] using h
  exact q
 unfold bU8;rw [UInt8.toNat_ofNat_of_lt' (show n.toNat<256 by omega)];omega
section
variable {H:Type} {enc:TypeId×Value->H} {w:World} {spare:Nat->Bool} {fuel:Nat}
theorem qnQ {a:Addr} {v:Value} (y:w.cell? (a.add 0)=some v):∃ b h,a=⟨b,h,none⟩:=by
 obtain ⟨b,h,q⟩:=a;have z:q=none:=by simpa [Addr.add] using World.cell?_spot y
 subst z;exact ⟨b,h,rfl⟩
theorem qdJ {v:Value} {x:DataW H×List MemPlace} (T:DataW.trod enc prog w 0 spare true fuel 35 [v]=some x):∃ G h l E,v=.slice G h l/\h=E.length/\h<=maxLen/\BytesAt w G E/\h<=l/\l<=maxLen:=by
 rcases open_ints underlying35 underlying5 (by kernel_rfl) T with ⟨b,_⟩ | ⟨M,e,J,c,b,_,aa,W,Z,_,A,V⟩
 ·simp only [Q3,and_true] at b
  subst b;exact ⟨none,0,0,[],rfl,rfl,Qu _,.inl rfl,Qa _,Qu _⟩
 ·simp only [Q3,and_true] at b
  subst b;have ad:e<=c.length:=by rw [Z];split <;> omega
  refine ⟨some M,e,J,(c.take e).map bU8,rfl,by simp;omega,by omega,?_,aa,W⟩;by_cases ab:e=0
  ·left;subst ab;simp
  ·obtain ⟨j,q,rfl⟩:=qnQ (A 0 (by omega))
   refine .inr ⟨j,q,rfl,fun a K=>?_⟩;have ac:a<e:=(by simp at K;omega);have y:a<c.length:=(by omega);have z:=A a y;have O:(⟨j,q,none⟩:Addr).add a=⟨j,q+a,none⟩:=by unfold Addr.add;split <;> simp_all
   rw [O] at z;rw [z];have U:c.getD a 0=c[a]:=(by simp [List.getD,Qg y]);rw [U];simp only [Zo,List.getElem_take];rw [quN (V _ (QJ y))]
end
end Go.Proofs.YtecpnfhpcamljaaGreatDoor
