/-
  WrG, WrP.
-/
import Derived.Test.YtoilebmbljpieaaGreatDoorGBP
import Derived.Test.YtoilebmbljpieaaGreatDoorMEnG
set_option linter.all false
set_option maxRecDepth 100000
set_option maxHeartbeats 4000000
namespace Go.Proofs.YtoilebmbljpieaaGreatDoor
open Go.RowKit Go.Shelf
attribute [local go_sem] Oper.semAt_some
theorem wall_any (A:Option Addr) (cap:Nat) (R:List Ie) (hR:R.length≤1000) (hr:∀ r∈R,r.s.size≤1000∧r.L.length≤900) (w:World) (hM:MaxAt w) (H:InsP w A R) :
  Calls Tryz.prog 10 #[.slice A R.length cap] w (RetAllE w R):=by
 obtain ⟨n,hn⟩:∃ z,w.heap.size=z:=⟨_,rfl⟩
 have HN:=Lib.hid hn
 obtain ⟨ln,hln⟩:∃ z,R.length=z:=⟨_,rfl⟩
 have HLN:=Lib.hid hln
 rw [hln] at hR ⊢
 have X:=Lib.hid H
 have HR:=Lib.hid hr
 have HM:=Lib.hid hM
 have ZN:Hid (n≤w.heap.size):=Nat.le_of_eq hn.symm
 have HO0:Hid (TOwnB w n (.slice none 0 0) []):=townB_nil _ _
 clear H hr hn hln hM
 go_enter Tryz.func10,Tryz.ntmps10
 go_wp2
 go_loopw [12,5] (fun x v wr=>∃ (k lo:Nat) (A4:Option Addr) (cap4:Nat),k≤ln∧x=.int .i64 k∧v=.slice A4 lo cap4∧Hid (lo=(outE R k).length∧lo≤4*k)∧Hid (TOwnB wr n (.slice A4 lo cap4) (outE R k))∧Hid (∀ j (hj:j<R.length),j<k→okE2 R[j]=true)∧Hid (Below n w wr)∧Hid (n≤wr.heap.size)) (fun x _ _=>ln - (intOf x).toNat)
 case atStart=>exact ⟨0,0,none,0,Nat.zero_le _,rfl,rfl,⟨rfl,Nat.le_refl _⟩,HO0.out,fun j hj h=>absurd h (Nat.not_lt_zero _),Below.refl _ _,ZN.out⟩
 case round=>
  clear HO0
  obtain ⟨k,lo,A4,cap4,hk,rfl,rfl,LO,O,G,BW,ZW⟩:=hrel
  by_cases hlt:k<ln
  ·have hkR:k<R.length:=by rw [HLN.out];exact hlt
   obtain ⟨b1,o1,hA1,p0,p1,hP⟩:=(X.out.below (by rw [HN.out];exact BW.out)).at_ hkR
   subst hA1
   obtain ⟨hs9,hL9⟩:=HR.out _ (List.getElem_mem hkR)
   have BAD:=fun h=>badE_at hkR h G.out
   have SUC:=outE_succ R k hkR
   have GS:okE2 R[k]=true→Hid (∀ j (hj:j<R.length),j<k+1→okE2 R[j]=true):=fun h=>fun j hj hj2=>by
    by_cases e:j=k
    ·subst e;exact h
    ·exact G.out j hj (by omega)
   obtain ⟨⟨s,A1,c1,L1⟩,hr⟩:∃ r,R[k]=r:=⟨_,rfl⟩
   rw [hr] at p0 p1 hP hs9 hL9 BAD SUC GS
   simp only [Ie.v] at p0 p1 hP hs9 hL9 BAD SUC
   obtain ⟨l1,hl1⟩:∃ z,L1.length=z:=⟨_,rfl⟩
   rw [hl1] at p1 hL9
   go_upto_region 5 with fail
   obtain ⟨w4,hw4⟩:∃ z,wr.alloc (.cells #[.string s,.slice A1 l1 c1] 26)=z:=⟨_,rfl⟩
   have y4:Below wr.heap.size wr w4:=by rw [← hw4];exact up_alloc _ _
   obtain ⟨k0,k1⟩:=Fr.cells2 (show w4.heap[wr.heap.size]?=some (.cells #[.string s,.slice A1 l1 c1] 26 (0,0)) from by rw [← hw4];exact World.alloc_heap_new wr _)
   have B4:Hid (Below n w w4):=BW.out.trans (y4.mono ZW.out)
   have Z4:Hid (n≤w4.heap.size):=Nat.le_trans ZW.out y4.size
   have O4:=Lib.hid (O.out.below y4)
   rw [hw4]
   have en:=wencode_any s hs9 A1 c1 l1 L1 hl1 hL9 w4 (HM.out.below (by rw [HN.out];exact B4.out)) (hP.below y4)
   clear BW ZW O y4 hw4 p0 p1
   have h4:=encI_len s L1
   have cy:=@codeE_yes s L1
   have cn:=@codeE_no s L1
   have ok2:okE2 ⟨s,A1,c1,L1⟩=(encI s L1).isSome:=rfl
   rw [ok2] at BAD GS
   unfold RetEnc at en
   obtain ⟨o,ho⟩:∃ o,encI s L1=o:=⟨_,rfl⟩
   obtain ⟨c,hc⟩:∃ c,codeE s L1=c:=⟨_,rfl⟩
   rw [ho] at en h4 cy cn BAD GS SUC
   rw [hc] at en cy cn BAD
   clear ho hc ok2 hr hl1 hP hkR
   cases o with
   | none=>
    have hc0:c≠0:=cn rfl
    have FIN:=Lib.hid (BAD rfl)
    have e1:(c == 0)=false:=beq_eq_false_iff_ne.2 hc0
    have e2:(c != 0)=true:=bne_iff_ne.2 hc0
    clear BAD GS SUC cy cn h4 O4 G
    go_wp2_with fail
    refine en.mono ?_
    rintro e w5 ⟨A5,c5,rfl,-,hb⟩
    have B5:Hid (Below n w w5):=B4.out.trans (hb.mono Z4.out)
    clear en hb B4 k0 k1
    go_wp2
    go_ret3
    obtain ⟨f1,f2,f3⟩:=FIN.out
    refine ⟨none,0,by rw [f1,f2,f3];rfl,by rw [f2];exact townB_nil _ _,by rw [HN.out];exact B5.out⟩
   | some bs=>
    have hc0:c=0:=cy rfl
    subst hc0
    have G2:=GS rfl
    have S2:=Lib.hid SUC
    obtain ⟨lb,hlb⟩:∃ z,bs.length=z:=⟨_,rfl⟩
    simp only [Option.getD_some] at en h4 S2
    rw [hlb] at en h4
    have HLB:=Lib.hid hlb
    have h4:=Lib.hid h4
    clear BAD GS SUC cy cn G hlb
    go_wp2_with fail
    refine en.mono ?_
    rintro e w5 ⟨A5,c5,rfl,hO5,hb⟩
    have B5:Hid (Below n w w5):=B4.out.trans (hb.mono Z4.out)
    have Z5:Hid (n≤w5.heap.size):=Nat.le_trans Z4.out hb.size
    have O5:=Lib.hid (O4.out.below hb)
    obtain ⟨A6,c6,e6,hP6⟩:=hO5.bytes
    rw [HLB.out] at e6
    simp only [Value.slice.injEq] at e6
    obtain ⟨rfl,-,rfl⟩:=e6
    have P5:=Lib.hid hP6
    clear en hb B4 Z4 O4 hO5 hP6 k0 k1
    go_wp2_with (at_builtin;refine wpList_appBs (by have:=O5.out;exact this) P5.out Z5.out (by have:=LO.out;have:=HLB.out;have:=h4.out;omega) rfl _ _ rfl rfl rfl lb HLB.out rfl (lo+lb) (by rw [← LO.out.1]) ?_;intro A8 c8 w8 hO8 hB8;have O8:=Lib.hid hO8;have B8:=Lib.hid (B5.out.trans hB8);have Z8:=Lib.hid (Nat.le_trans Z5.out hB8.size);clear hO8 hB8)
    go_roundw
    case rel=>exact ⟨k+1,lo+lb,A8,c8,by omega,by go_num,rfl,⟨by rw [S2.out,List.length_append,← LO.out.1,HLB.out],by have:=LO.out.2;have:=h4.out;omega⟩,by rw [S2.out];exact O8.out,G2.out,B8.out,Z8.out⟩
    case measure=>simp [intOf];omega
  ·obtain rfl:k=ln:=by omega
   have FIN:Hid (badE R=k∧bsE R=outE R k∧cdE R=0):=by
    have:=badE_all fun j hj=>G.out j hj (by rw [← HLN.out];exact hj)
    rw [HLN.out] at this
    exact this
   clear G
   go_wp2
   go_ret3
   obtain ⟨f1,f2,f3⟩:=FIN.out
   refine ⟨A4,cap4,by rw [f1,f2,f3,← LO.out.1];rfl,by rw [f2,← LO.out.1,HN.out];exact O.out,by rw [HN.out];exact BW.out⟩
end Go.Proofs.YtoilebmbljpieaaGreatDoor
namespace Go.Proofs.YtoilebmbljpieaaGreatDoor
open Go.RowKit Go.Shelf
attribute [local go_sem] Oper.semAt_some
theorem bsE_len (R:List Ie) (h:R.length≤12):(bsE R).length≤48:=by
 have hle:∀ k,(outE R k).length≤4*R.length:=fun k=>by
  unfold outE
  have h2:∀ t:List Ie,(t.flatMap fun r=>(encI r.s r.L).getD []).length≤4*t.length:=fun t=>by
   induction t with
   | nil=>simp
   | cons c t ih=>
    rw [List.flatMap_cons,List.length_append,List.length_cons]
    have:=encI_len c.s c.L
    omega
  have h3:=h2 (R.take k)
  rw [List.length_take] at h3
  omega
 unfold bsE
 split
 ·simp
 ·have:=hle R.length
  omega
theorem short_of {a b:Nat} {q:Bool} (h:(decide (a≤100)&&decide (b≤20))=q) (hq:q=true):a≤1000∧b≤900:=by
 subst hq
 simp only [Bool.and_eq_true,decide_eq_true_eq] at h
 omega
theorem walkEL (A:Option Addr) (cap:Nat) (R:List Ie) (w:World) (hm:R.length≤maxLen) (H:InsP w A R) (hr:∀ r∈R,r.s.size≤maxLen∧r.L.length≤maxLen) (hM:MaxAt w) :
  Calls Tryz.prog 3 #[.slice A R.length cap] w fun e w'=>e=.returned (.bool true)∧Below w.heap.size w w':=by
 obtain ⟨n,hn⟩:∃ z,w.heap.size=z:=⟨_,rfl⟩
 have HN:=Lib.hid hn
 obtain ⟨ln,hln⟩:∃ z,R.length=z:=⟨_,rfl⟩
 have HLN:=Lib.hid hln
 rw [hln] at hm ⊢
 have X:=Lib.hid H
 have HR:=Lib.hid hr
 have HM:=Lib.hid hM
 have ZN:Hid (n≤w.heap.size):=Nat.le_of_eq hn.symm
 clear H hr hn hln hM
 go_enter Tryz.func3,Tryz.ntmps3
 by_cases h12:ln≤12
 ·have t12:¬((ln:Int) > 12):=by omega
  clear hm
  go_wp2
  go_loopw [17] (fun x wr=>∃ k:Nat,k≤ln∧x=.int .i64 k∧Hid (∀ j (hj:j<R.length),j<k→R[j].s.size≤1000∧R[j].L.length≤900)∧Hid (Below n w wr)∧Hid (n≤wr.heap.size)) (fun x _=>ln - (intOf x).toNat)
  case atStart=>exact ⟨0,Nat.zero_le _,rfl,fun j hj h=>absurd h (Nat.not_lt_zero _),Below.refl _ _,ZN.out⟩
  case round=>
   obtain ⟨k,hk,rfl,G,BW,ZW⟩:=hrel
   by_cases hlt:k<ln
   ·have hkR:k<R.length:=by rw [HLN.out];exact hlt
    obtain ⟨b1,o1,hA1,p0,p1,hP⟩:=(X.out.below (by rw [HN.out];exact BW.out)).at_ hkR
    subst hA1
    have GS:R[k].s.size≤1000∧R[k].L.length≤900→Hid (∀ j (hj:j<R.length),j<k+1→R[j].s.size≤1000∧R[j].L.length≤900):=fun h=>fun j hj hj2=>by
     by_cases e:j=k
     ·subst e;exact h
     ·exact G.out j hj (by omega)
    obtain ⟨⟨s,A1,c1,L1⟩,hr⟩:∃ r,R[k]=r:=⟨_,rfl⟩
    rw [hr] at p0 p1 hP GS
    simp only [Ie.v] at p0 p1 hP GS
    obtain ⟨l1,hl1⟩:∃ z,L1.length=z:=⟨_,rfl⟩
    rw [hl1] at p1 GS
    go_upto_region 6 with fail
    obtain ⟨w4,hw4⟩:∃ z,wr.alloc (.cells #[.string s,.slice A1 l1 c1] 26)=z:=⟨_,rfl⟩
    have y4:Below wr.heap.size wr w4:=by rw [← hw4];exact upA _ _
    obtain ⟨k0,k1⟩:=Fr.cells2 (show w4.heap[wr.heap.size]?=some (.cells #[.string s,.slice A1 l1 c1] 26 (0,0)) from by rw [← hw4];exact World.alloc_heap_new wr _)
    have B4:Hid (Below n w w4):=BW.out.trans (y4.mono ZW.out)
    have Z4:Hid (n≤w4.heap.size):=Nat.le_trans ZW.out y4.size
    rw [hw4]
    have SH:=wshort_any s A1 c1 l1 w4
    obtain ⟨q,hq⟩:∃ q,(decide (s.size≤100)&&decide (l1≤20))=q:=⟨_,rfl⟩
    rw [hq] at SH
    have GQ:=fun h=>GS (short_of hq h)
    clear BW ZW y4 hw4 p0 p1 hP hr hl1 hkR hq G GS
    go_wp2_with fail
    refine SH.mono ?_
    rintro e w5 ⟨rfl,hb⟩
    have B5:Hid (Below n w w5):=B4.out.trans (hb.mono Z4.out)
    have Z5:Hid (n≤w5.heap.size):=Nat.le_trans Z4.out hb.size
    clear SH hb B4 Z4 k0 k1
    cases q with
    | false=>
     have al:=walive_any w5 (HM.out.below (by rw [HN.out];exact B5.out))
     clear GQ
     go_wp2_with fail
     refine al.mono ?_
     rintro e w6 ⟨rfl,hb⟩
     have B6:Hid (Below n w w6):=B5.out.trans (hb.mono Z5.out)
     clear al hb B5 Z5
     go_wp2
     go_ret
     exact ⟨rfl,by rw [HN.out];exact B6.out⟩
    | true=>
     have G2:=GQ rfl
     clear GQ
     go_wp2
     go_roundw
     case rel=>exact ⟨k+1,by omega,by go_num,G2.out,B5.out,Z5.out⟩
     case measure=>simp [intOf];omega
   ·obtain rfl:k=ln:=by omega
    have hall:∀ r∈R,r.s.size≤1000∧r.L.length≤900:=fun r hr=>by
     obtain ⟨j,hj,e⟩:=List.getElem_of_mem hr
     rw [← e]
     exact G.out j hj (by rw [← HLN.out];exact hj)
    have X1:Hid (InsP wr A R):=X.out.below (by rw [HN.out];exact BW.out)
    have AL:=wall_any A cap R (by have:=HLN.out;omega) hall wr (HM.out.below (by rw [HN.out];exact BW.out)) X1.out
    have RA:=fun w' p=>rall11_any A cap R (by have:=HLN.out;omega) hall w' p
    have hbl:=bsE_len R (by have:=HLN.out;omega)
    rw [HLN.out] at AL RA
    unfold RetAllE at AL RA
    obtain ⟨bs,hbs⟩:∃ z,bsE R=z:=⟨_,rfl⟩
    obtain ⟨bd,hbd⟩:∃ z,badE R=z:=⟨_,rfl⟩
    obtain ⟨cd,hcd⟩:∃ z,cdE R=z:=⟨_,rfl⟩
    obtain ⟨lb,hlb⟩:∃ z,bs.length=z:=⟨_,rfl⟩
    simp only [hbs,hbd,hcd,hlb] at AL RA hbl
    have HLB:=Lib.hid hlb
    have RA:=Lib.hid RA
    clear hall G hbs hbd hcd hlb
    go_wp2_with fail
    refine AL.mono ?_
    rintro e w5 ⟨A5,c5,rfl,hO5,hb⟩
    have B5:Hid (Below n w w5):=BW.out.trans (hb.mono ZW.out)
    have Z5:Hid (n≤w5.heap.size):=Nat.le_trans ZW.out hb.size
    have hP5:BytesAt w5 A5 bs:=by
     obtain ⟨A',c',e,h⟩:=hO5.bytes
     simp only [Value.slice.injEq] at e
     obtain ⟨rfl,-,rfl⟩:=e
     exact h
    have P5:=Lib.hid hP5
    have ra:=RA.out w5 (X1.out.below hb)
    clear AL RA hb hO5 hP5 BW ZW X1
    go_wp2_with fail
    refine ra.mono ?_
    rintro e w6 ⟨A6,c6,rfl,hO6,hb⟩
    have B6:Hid (Below n w w6):=B5.out.trans (hb.mono Z5.out)
    have Z6:Hid (n≤w6.heap.size):=Nat.le_trans Z5.out hb.size
    have hP6:BytesAt w6 A6 bs:=by
     obtain ⟨A',c',e,h⟩:=hO6.bytes
     simp only [Value.slice.injEq] at e
     obtain ⟨rfl,-,rfl⟩:=e
     exact h
    have P6:=Lib.hid hP6
    have Q6:=Lib.hid (P5.out.below hb)
    have al:=walive_any w6 (HM.out.below (by rw [HN.out];exact B6.out))
    clear ra hb hO6 hP6 B5 Z5 P5
    go_wp2_with fail
    refine al.mono ?_
    rintro e w7 ⟨rfl,hb⟩
    have B7:Hid (Below n w w7):=B6.out.trans (hb.mono Z6.out)
    have Z7:Hid (n≤w7.heap.size):=Nat.le_trans Z6.out hb.size
    have eq:=equalU_any A5 A6 c5 c6 bs bs (by rw [HLB.out];unfold maxLen;omega) (by rw [HLB.out];unfold maxLen;omega) w7 (Q6.out.below hb) (P6.out.below hb)
    rw [decide_eq_true rfl,HLB.out] at eq
    clear al hb B6 Z6 P6 Q6
    go_wp2_with fail
    refine eq.mono ?_
    rintro e w8 ⟨rfl,hb⟩
    have B8:Hid (Below n w w8):=B7.out.trans (hb.mono Z7.out)
    clear eq hb B7 Z7
    have e1:((bd:Int) == (bd:Int))=true:=beq_self_eq_true _
    have e2:(cd == cd)=true:=beq_self_eq_true _
    go_wp2
    go_ret
    exact ⟨rfl,by rw [HN.out];exact B8.out⟩
 ·have t12:(ln:Int) > 12:=by omega
  have al:=walive_any w HM.out
  go_wp2_with fail
  refine al.mono ?_
  rintro e w6 ⟨rfl,hb⟩
  have B6:=Lib.hid hb
  clear al hb
  go_wp2
  go_ret
  exact ⟨rfl,B6.out⟩
end Go.Proofs.YtoilebmbljpieaaGreatDoor
