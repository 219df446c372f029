/-
  The reference's All of layer 11: the bytes of a list of instructions.
-/
import Derived.Test.YtoilebmbljpieaaGreatDoorGBP
import Derived.Test.YtoilebmbljpieaaGreatDoorGAY
import Derived.Test.YtoilebmbljpieaaGreatDoorGBO
import Derived.Deep.DeepCutAuto
import Derived.Deep.Cut
set_option linter.all false
set_option maxRecDepth 100000
set_option maxHeartbeats 4000000
namespace Go.Proofs.YtoilebmbljpieaaGreatDoor
open Go.RowKit Go.Shelf
attribute [local go_sem] Oper.semAt_some
theorem encI_len (s:ByteArray) (I:List Tr):((encI s I).getD []).length≤4:=by
 unfold encI
 cases h:findK (sT s) (canL (opc s) I) with
 | none=>exact Nat.zero_le _
 | some k=>
  have hm:k∈candK (sT s) (canL (opc s) I):=(List.mem_filter.1 (List.mem_of_find?_eq_some h)).1
  have hl:=enc_len (cand_in hm).1 (valV k.2.2.1 k.2.2.2.1 k.2.2.2.2.1 s (canL (opc s) I)).1 (valV k.2.2.1 k.2.2.2.1 k.2.2.2.2.1 s (canL (opc s) I)).2
  simp only [Option.map_some,Option.getD_some]
  omega
theorem codeE_yes {s:ByteArray} {I:List Tr} (h:(encI s I).isSome=true):codeE s I=0:=by unfold codeE;rw [if_pos h]
theorem codeE_no {s:ByteArray} {I:List Tr} (h:(encI s I).isSome=false):codeE s I≠0:=by
 unfold codeE
 rw [if_neg (by rw [h];simp)]
 unfold codeF
 split
 ·assumption
 ·split <;> decide
def okE2 (r:Ie):Bool:=(encI r.s r.L).isSome
def outE (R:List Ie) (k:Nat):Str:=(R.take k).flatMap fun r=>(encI r.s r.L).getD []
theorem outE_succ (R:List Ie) (k:Nat) (h:k<R.length):outE R (k+1)=outE R k++(encI R[k].s R[k].L).getD []:=by
 unfold outE
 rw [List.take_succ_eq_append_getElem h,List.flatMap_append]
 simp
def badE (R:List Ie):Nat:=R.findIdx fun r=>!okE2 r
def bsE (R:List Ie):Str:=if badE R<R.length then [] else outE R R.length
def cdE (R:List Ie):Int:=match R[badE R]? with
 | some r=>codeE r.s r.L
 | none=>0
theorem badE_at {R:List Ie} {k:Nat} (hk:k<R.length) (h:okE2 R[k]=false) (hb:∀ j (hj:j<R.length),j<k→okE2 R[j]=true):badE R=k∧bsE R=[]∧cdE R=codeE R[k].s R[k].L:=by
 have e:badE R=k:=by
  unfold badE
  exact (List.findIdx_eq hk).2 ⟨by rw [h];rfl,fun j hj=>by rw [hb j (by omega) hj];rfl⟩
 refine ⟨e,?_,?_⟩
 ·unfold bsE;rw [e,if_pos hk]
 ·unfold cdE;rw [e,List.getElem?_eq_getElem hk]
theorem badE_all {R:List Ie} (hb:∀ j (hj:j<R.length),okE2 R[j]=true):badE R=R.length∧bsE R=outE R R.length∧cdE R=0:=by
 have e:badE R=R.length:=by
  unfold badE
  refine List.findIdx_eq_length.2 fun r hr=>?_
  obtain ⟨j,hj,rfl⟩:=List.getElem_of_mem hr
  rw [hb j hj];rfl
 refine ⟨e,?_,?_⟩
 ·unfold bsE;rw [e,if_neg (Nat.lt_irrefl _)]
 ·unfold cdE;rw [e,List.getElem?_eq_none (Nat.le_refl _)]
def RetAllE (w:World) (R:List Ie) (e:Ending) (w':World):Prop:=∃ A cap,e=.returned (.tuple #[.slice A (bsE R).length cap,.int .i64 (badE R),.int .i64 (cdE R)])∧TOwnB w' w.heap.size (.slice A (bsE R).length cap) (bsE R)∧Below w.heap.size w w'
theorem rall11_any (A:Option Addr) (cap:Nat) (R:List Ie) (hR:R.length≤1000) (hr:∀ r∈R,r.s.size≤1000∧r.L.length≤900) (w:World) (H:InsP w A R) :
  Calls Tryz.prog 11 #[.slice A R.length cap] w (RetAllE w R):=by
 obtain ⟨n,hn⟩:∃ z,w.heap.size=z:=⟨_,rfl⟩
 have HN:=Lib.hid hn
 obtain ⟨ln,hln⟩:∃ z,R.length=z:=⟨_,rfl⟩
 have HLN:=Lib.hid hln
 rw [hln] at hR ⊢
 have X:=Lib.hid H
 have HR:=Lib.hid hr
 have ZN:Hid (n≤w.heap.size):=Nat.le_of_eq hn.symm
 have HO0:Hid (TOwnB w n (.slice none 0 0) []):=townB_nil _ _
 clear H hr hn hln
 go_enter Tryz.func11,Tryz.ntmps11
 go_wp2
 go_loopw [6,5] (fun x v wr=>∃ (k lo:Nat) (A4:Option Addr) (cap4:Nat),k≤ln∧x=.int .i64 k∧v=.slice A4 lo cap4∧Hid (lo=(outE R k).length∧lo≤4*k)∧Hid (TOwnB wr n (.slice A4 lo cap4) (outE R k))∧Hid (∀ j (hj:j<R.length),j<k→okE2 R[j]=true)∧Hid (Below n w wr)∧Hid (n≤wr.heap.size)) (fun x _ _=>ln - (intOf x).toNat)
 case atStart=>exact ⟨0,0,none,0,Nat.zero_le _,rfl,rfl,⟨rfl,Nat.le_refl _⟩,HO0.out,fun j hj h=>absurd h (Nat.not_lt_zero _),Below.refl _ _,ZN.out⟩
 case round=>
  clear HO0
  obtain ⟨k,lo,A4,cap4,hk,rfl,rfl,LO,O,G,BW,ZW⟩:=hrel
  by_cases hlt:k<ln
  ·have hkR:k<R.length:=by rw [HLN.out];exact hlt
   obtain ⟨b1,o1,hA1,p0,p1,hP⟩:=(X.out.below (by rw [HN.out];exact BW.out)).at_ hkR
   subst hA1
   obtain ⟨hs9,hL9⟩:=HR.out _ (List.getElem_mem hkR)
   have BAD:=fun h=>badE_at hkR h G.out
   have SUC:=outE_succ R k hkR
   have GS:okE2 R[k]=true→Hid (∀ j (hj:j<R.length),j<k+1→okE2 R[j]=true):=fun h=>fun j hj hj2=>by
    by_cases e:j=k
    ·subst e;exact h
    ·exact G.out j hj (by omega)
   obtain ⟨⟨s,A1,c1,L1⟩,hr⟩:∃ r,R[k]=r:=⟨_,rfl⟩
   rw [hr] at p0 p1 hP hs9 hL9 BAD SUC GS
   simp only [Ie.v] at p0 p1 hP hs9 hL9 BAD SUC
   obtain ⟨l1,hl1⟩:∃ z,L1.length=z:=⟨_,rfl⟩
   rw [hl1] at p1 hL9
   have en:=rencode_any s hs9 A1 c1 l1 L1 hl1 hL9 wr hP
   have h4:=encI_len s L1
   have cy:=@codeE_yes s L1
   have cn:=@codeE_no s L1
   have ok2:okE2 ⟨s,A1,c1,L1⟩=(encI s L1).isSome:=rfl
   rw [ok2] at BAD GS
   unfold RetEnc at en
   obtain ⟨o,ho⟩:∃ o,encI s L1=o:=⟨_,rfl⟩
   obtain ⟨c,hc⟩:∃ c,codeE s L1=c:=⟨_,rfl⟩
   rw [ho] at en h4 cy cn BAD GS SUC
   rw [hc] at en cy cn BAD
   clear ho hc ok2 hr hl1 hP hkR
   cases o with
   | none=>
    have hc0:c≠0:=cn rfl
    have FIN:=Lib.hid (BAD rfl)
    have e1:(c == 0)=false:=beq_eq_false_iff_ne.2 hc0
    have e2:(c != 0)=true:=bne_iff_ne.2 hc0
    clear BAD GS SUC cy cn h4 O G
    go_wp2_with fail
    refine en.mono ?_
    rintro e w5 ⟨A5,c5,rfl,-,hb⟩
    have B5:Hid (Below n w w5):=BW.out.trans (hb.mono ZW.out)
    clear en hb BW p0 p1
    go_wp2
    go_ret3
    obtain ⟨f1,f2,f3⟩:=FIN.out
    refine ⟨none,0,by rw [f1,f2,f3];rfl,by rw [f2];exact townB_nil _ _,by rw [HN.out];exact B5.out⟩
   | some bs=>
    have hc0:c=0:=cy rfl
    subst hc0
    have G2:=GS rfl
    have S2:=Lib.hid SUC
    obtain ⟨lb,hlb⟩:∃ z,bs.length=z:=⟨_,rfl⟩
    simp only [Option.getD_some] at en h4 S2
    rw [hlb] at en h4
    have HLB:=Lib.hid hlb
    have h4:=Lib.hid h4
    clear BAD GS SUC cy cn G hlb
    go_wp2_with fail
    refine en.mono ?_
    rintro e w5 ⟨A5,c5,rfl,hO5,hb⟩
    have B5:Hid (Below n w w5):=BW.out.trans (hb.mono ZW.out)
    have Z5:Hid (n≤w5.heap.size):=Nat.le_trans ZW.out hb.size
    have O5:=Lib.hid (O.out.below hb)
    obtain ⟨A6,c6,e6,hP6⟩:=hO5.bytes
    rw [HLB.out] at e6
    simp only [Value.slice.injEq] at e6
    obtain ⟨rfl,-,rfl⟩:=e6
    have P5:=Lib.hid hP6
    clear en hb BW ZW O hO5 hP6 p0 p1
    go_wp2_with (at_builtin;refine wpList_appBs (by have:=O5.out;exact this) P5.out Z5.out (by have:=LO.out;have:=HLB.out;have:=h4.out;omega) rfl _ _ rfl rfl rfl lb HLB.out rfl (lo+lb) (by rw [← LO.out.1]) ?_;intro A8 c8 w8 hO8 hB8;have O8:=Lib.hid hO8;have B8:=Lib.hid (B5.out.trans hB8);have Z8:=Lib.hid (Nat.le_trans Z5.out hB8.size);clear hO8 hB8)
    go_roundw
    case rel=>exact ⟨k+1,lo+lb,A8,c8,by omega,by go_num,rfl,⟨by rw [S2.out,List.length_append,← LO.out.1,HLB.out],by have:=LO.out.2;have:=h4.out;omega⟩,by rw [S2.out];exact O8.out,G2.out,B8.out,Z8.out⟩
    case measure=>simp [intOf];omega
  ·obtain rfl:k=ln:=by omega
   have FIN:Hid (badE R=k∧bsE R=outE R k∧cdE R=0):=by
    have:=badE_all fun j hj=>G.out j hj (by rw [← HLN.out];exact hj)
    rw [HLN.out] at this
    exact this
   clear G
   go_wp2
   go_ret3
   obtain ⟨f1,f2,f3⟩:=FIN.out
   refine ⟨A4,cap4,by rw [f1,f2,f3,← LO.out.1];rfl,by rw [f2,← LO.out.1,HN.out];exact O.out,by rw [HN.out];exact BW.out⟩
end Go.Proofs.YtoilebmbljpieaaGreatDoor
