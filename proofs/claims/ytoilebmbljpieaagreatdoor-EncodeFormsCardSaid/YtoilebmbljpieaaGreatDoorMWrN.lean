/-
  EncodeForms: the walk over the law.
-/
import Derived.Test.YtoilebmbljpieaaGreatDoorGBU
import Derived.Test.YtoilebmbljpieaaGreatDoorGBP
import Derived.Test.YtoilebmbljpieaaGreatDoorMEnG
set_option linter.all false
set_option maxRecDepth 100000
set_option maxHeartbeats 4000000
namespace Go.Proofs.YtoilebmbljpieaaGreatDoor
open Go.RowKit Go.Shelf
attribute [local go_sem] Oper.semAt_some
theorem bool_and_le {a b:Nat} {q:Bool} (h:(decide (a≤100)&&decide (b≤20))=q) (hq:q=true):a≤100∧b≤20:=by
 subst hq
 simpa using h
theorem encK_len {s:ByteArray} {C:List Tr}:∀ y∈(allR s C).map (encK s C),y.length≤100000:=fun y hy=>by
 obtain ⟨k,hk,rfl⟩:=List.mem_map.1 hy
 have hl:=enc_len (mem_allR hk).1 (valV k.2.2.1 k.2.2.2.1 k.2.2.2.2.1 s C).1 (valV k.2.2.1 k.2.2.2.1 k.2.2.2.2.1 s C).2
 unfold encK
 omega
theorem walkEF (s:ByteArray) (A:Option Addr) (cap:Nat) (L:List Tr) (w:World) (hs:s.size≤maxLen) (hL:L.length≤maxLen) (H:OpsP w A L) (hM:MaxAt w) :
  Calls Tryz.prog 5 #[.agg #[.string s,.slice A L.length cap]] w fun e w'=>e=.returned (.bool true)∧Below w.heap.size w w':=by
 obtain ⟨l,hl⟩:∃ l,L.length=l:=⟨_,rfl⟩
 rw [hl] at hL ⊢
 obtain ⟨n,hn⟩:∃ n,w.heap.size=n:=⟨_,rfl⟩
 have HN:=Lib.hid hn
 obtain ⟨b0,w0,hb0,hw0,S0,y0,z0⟩:=Fr.box (Fr.add (Fr.start w n hn) (opsF A L) H) #[.string s,.slice A l cap] 26
 rw [hn] at hb0
 subst hb0
 have HM:=Lib.hid hM
 have SH:=wshort_any s A cap l w0
 obtain ⟨q,hq⟩:∃ q,(decide (s.size≤100)&&decide (l≤20))=q:=⟨_,rfl⟩
 rw [hq] at SH
 obtain ⟨k0,k1⟩:=Fr.cells2 S0.out.1
 clear H hM y0
 go_enter Tryz.func5,Tryz.ntmps5
 go_wp2_with fail
 refine SH.mono ?_
 rintro e w1 ⟨rfl,hb⟩
 have S1:=Fr.up S0 hb
 clear SH hb S0 k0 k1 hw0 z0
 cases q with
 | false=>
  have al:=walive_any w1 (HM.out.below (by rw [HN.out];exact S1.out.2.2.1.1))
  go_wp2_with fail
  refine al.mono ?_
  rintro e w2 ⟨rfl,hb⟩
  have B:Hid (Below n w w2):=S1.out.2.2.1.1.trans (hb.mono S1.out.2.2.1.2)
  clear al hb S1
  go_wp2
  go_ret
  exact ⟨rfl,by rw [HN.out];exact B.out⟩
 | true=>
  obtain ⟨hs2,hl2⟩:=bool_and_le hq rfl
  obtain ⟨C,hC⟩:∃ C,canL (opc s) L=C:=⟨_,rfl⟩
  have HLen:=Lib.hid (encK_len (s:=s) (C:=C))
  have HAL:=allR_len s C
  have fo:=wforms_any s (by omega) A cap l L hl (by omega) w1 (HM.out.below (by rw [HN.out];exact S1.out.2.2.1.1)) S1.out.2.1
  have RF:=fun w' p=>rforms_any s (by omega) A cap l L hl (by omega) w' p
  have EN:=fun w' m p=>wencode_any s (by omega) A cap l L hl (by omega) w' m p
  have EM:=fun a h=>enc_mem (s:=s) (I:=L) (a:=a) h
  rw [hC] at fo RF EM
  obtain ⟨Ls,hLs⟩:∃ z,(allR s C).map (encK s C)=z:=⟨_,rfl⟩
  have hLl:Ls.length≤2000:=by rw [← hLs,List.length_map];exact HAL
  rw [hLs] at fo RF HLen EM
  obtain ⟨m,hm⟩:∃ z,Ls.length=z:=⟨_,rfl⟩
  have RF:=Lib.hid RF
  have EN:=Lib.hid EN
  have EM:=Lib.hid EM
  have MM:=Lib.hid hm
  obtain ⟨k0,k1⟩:=Fr.cells2 S1.out.1
  clear hC hLs hq hs hL HAL
  go_wp2_with fail
  refine fo.mono ?_
  rintro e w2 ⟨A2,c2,R2,rfl,hO2,hK2,hb⟩
  obtain ⟨A2',c2',e2,hB2⟩:=hO2.bs
  simp only [Value.slice.injEq] at e2
  obtain ⟨rfl,-,rfl⟩:=e2
  rw [hK2] at hB2
  have hr:R2.length=m:=by rw [← hm,← hK2,List.length_map]
  rw [hr]
  have S2:=Fr.add (Fr.up S1 hb) ⟨fun w=>BsP w A2 Ls,fun h hb=>h.below hb⟩ hB2
  have en:=EN.out w2 (HM.out.below (by rw [HN.out];exact S2.out.2.2.2.1.1)) S2.out.2.2.1
  clear fo hb S1 hO2 hK2 hB2 hr k0 k1 EN
  obtain ⟨k0,k1⟩:=Fr.cells2 S2.out.2.1
  go_wp2_with fail
  refine en.mono ?_
  rintro e w3 ⟨A3,c3,rfl,hO3,hb⟩
  have S3:=Fr.up S2 hb
  obtain ⟨o,ho⟩:∃ o,encI s L=o:=⟨_,rfl⟩
  have HO:=Lib.hid ho
  rw [ho] at hO3 ⊢
  obtain ⟨A3',c3',e3,hP3⟩:=hO3.bytes
  simp only [Value.slice.injEq] at e3
  obtain ⟨rfl,-,rfl⟩:=e3
  have CN:=@codeE_no s L
  have CY:=@codeE_yes s L
  rw [ho] at CN CY
  obtain ⟨cd,hcd⟩:∃ c,codeE s L=c:=⟨_,rfl⟩
  rw [hcd] at CN CY ⊢
  have hxl:(o.getD []).length≤4:=by rw [← ho];exact encI_len s L
  obtain ⟨xs,hxs⟩:∃ z,o.getD []=z:=⟨_,rfl⟩
  rw [hxs] at hP3 hxl ⊢
  have HXS:=Lib.hid hxs
  obtain ⟨lx,hlx⟩:∃ z,xs.length=z:=⟨_,rfl⟩
  rw [hlx] at hxl ⊢
  have HLX:=Lib.hid hlx
  have CN:=Lib.hid CN
  have CY:=Lib.hid CY
  clear en hb S2 hO3 k0 k1 ho hcd hxs hlx
  go_upto_region 5 with fail
  obtain ⟨g,w4,hg,hw4,S4,y4,z4⟩:=Fr.box S3 #[.slice A3 lx c3] 28
  rw [hw4,hg]
  have S4:=Fr.add S4 ⟨fun w=>BytesAt w A3 xs,fun h hb=>h.below hb⟩ (hP3.below y4)
  have al:=walive_any w4 (HM.out.below (by rw [HN.out];exact S4.out.2.2.2.2.2.1.1))
  clear hw4 hg y4 hP3 S3 z4
  go_wp2_with fail
  refine al.mono ?_
  rintro e w5 ⟨rfl,hb⟩
  have S5:=Fr.up S4 hb
  have rf:=RF.out w5 S5.out.2.2.2.2.1
  obtain ⟨k0,k1⟩:=Fr.cells2 S5.out.2.2.2.1
  clear al hb S4 RF
  go_wp2_with fail
  refine rf.mono ?_
  rintro e w6 ⟨A6,c6,R6,rfl,hO6,hK6,hb⟩
  obtain ⟨A6',c6',e6,hB6⟩:=hO6.bs
  simp only [Value.slice.injEq] at e6
  obtain ⟨rfl,-,rfl⟩:=e6
  rw [hK6] at hB6
  have hr:R6.length=m:=by rw [← MM.out,← hK6,List.length_map]
  rw [hr]
  have S6:=Fr.up S5 hb
  have sm:=rsame11_any A2 A6 c2 c6 Ls Ls (by omega) (by omega) w6 S6.out.2.2.1 hB6
  rw [decide_eq_true rfl,MM.out] at sm
  clear rf hb S5 hO6 hK6 hB6 hr k0 k1
  go_wp2_with fail
  refine sm.mono ?_
  rintro e w7 ⟨rfl,hb⟩
  have S7:=Fr.up S6 hb
  clear sm hb S6
  cases o with
  | none=>
   have hc:=CN.out rfl
   have e1:(cd == 0)=false:=beq_eq_false_iff_ne.2 hc
   have e2:(cd != 0)=true:=bne_iff_ne.2 hc
   have B:Hid (Below n w w7):=S7.out.2.2.2.2.2.1.1
   clear hc S7
   go_wp2
   go_ret
   exact ⟨rfl,by rw [HN.out];exact B.out⟩
  | some bs=>
   obtain rfl:cd=0:=CY.out rfl
   have hin:xs∈Ls:=by rw [← HXS.out];exact EM.out bs HO.out
   have cf:=contains11_any g A2 A3 c2 c3 lx m Ls xs MM.out (by have:=MM.out;omega) HLX.out (by omega) HLen.out hin w7 S7.out.2.1 S7.out.2.2.1 S7.out.1
   have B:Hid (Below n w w7∧n≤w7.heap.size):=S7.out.2.2.2.2.2.1
   clear hin S7 EM
   go_wp2_with fail
   refine cf.mono ?_
   rintro e w8 ⟨rfl,hb⟩
   have B8:Hid (Below n w w8):=B.out.1.trans (hb.mono B.out.2)
   clear cf hb
   go_wp2
   go_ret
   exact ⟨rfl,by rw [HN.out];exact B8.out⟩
end Go.Proofs.YtoilebmbljpieaaGreatDoor
