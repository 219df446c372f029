/-
  canon.Equal; EncodeApart: the walk over the law.
-/
import Derived.Test.YtoilebmbljpieaaGreatDoorGBP
import Derived.Test.YtoilebmbljpieaaGreatDoorMEnP
import Derived.Test.YtoilebmbljpieaaGreatDoorGBL
import Derived.Test.YtoilebmbljpieaaGreatDoorGBB
import Derived.Test.YtoilebmbljpieaaGreatDoorMCnU
import Derived.Test.YtoilebmbljpieaaGreatDoorGAD
import Derived.Test.YtoilebmbljpieaaGreatDoorMEnG
set_option linter.all false
set_option maxRecDepth 100000
set_option maxHeartbeats 4000000
namespace Go.Proofs.YtoilebmbljpieaaGreatDoor
open Go.RowKit Go.Shelf
attribute [local go_sem] Oper.semAt_some
attribute [local irreducible] Go.Mixed.wpMix
def smB (s1 s2:ByteArray) (L1 L2:List Tr):Bool:=decide (s1=s2)&&decide (canL (opc s1) L1=canL (opc s2) L2)
theorem caeq_any (s1 s2:ByteArray) (A1 A2:Option Addr) (c1 c2 l1 l2:Nat) (L1 L2:List Tr) (hl1:L1.length=l1) (hl2:L2.length=l2) (h1:l1≤900) (h2:l2≤900) (w:World) (H1:OpsP w A1 L1) (H2:OpsP w A2 L2) :
  Calls Tryz.prog 26 #[.agg #[.string s1,.slice A1 l1 c1],.agg #[.string s2,.slice A2 l2 c2]] w fun e w'=>e=.returned (.bool (smB s1 s2 L1 L2))∧Below w.heap.size w w':=by
 have OF1:=fun w' p=>of_any s1 A1 c1 L1 (by omega) w' p
 have OF2:=fun w' p=>of_any s2 A2 c2 L2 (by omega) w' p
 have hc1:=canL_len (opc s1) L1
 have hc2:=canL_len (opc s2) L2
 have SM:=fun A B c d w' p q=>isame2_any s1 s2 A B c d _ _ (canL (opc s1) L1) (canL (opc s2) L2) rfl rfl (by omega) (by omega) w' p q
 rw [hl1] at OF1
 rw [hl2] at OF2
 unfold smB
 obtain ⟨C1,hC1⟩:∃ z,canL (opc s1) L1=z:=⟨_,rfl⟩
 obtain ⟨C2,hC2⟩:∃ z,canL (opc s2) L2=z:=⟨_,rfl⟩
 rw [hC1] at OF1
 rw [hC2] at OF2
 rw [hC1,hC2] at SM ⊢
 obtain ⟨q,hq⟩:∃ z,(decide (s1=s2)&&decide (C1=C2))=z:=⟨_,rfl⟩
 rw [hq] at SM ⊢
 obtain ⟨n,hn⟩:∃ n,w.heap.size=n:=⟨_,rfl⟩
 have HN:=Lib.hid hn
 have S:=Fr.add (Fr.add (Fr.start w n hn) (opsF A1 L1) H1) (opsF A2 L2) H2
 obtain ⟨b0,w0,hb0,hw0,S0,y0,z0⟩:=Fr.box S #[.string s1,.slice A1 l1 c1] 26
 obtain ⟨b1,w1,hb1,hw1,S1,y1,z1⟩:=Fr.box S0 #[.string s2,.slice A2 l2 c2] 26
 rw [hn] at hb0
 subst hb0
 rw [z0] at hb1
 subst hb1
 have OF1:=Lib.hid OF1
 have OF2:=Lib.hid OF2
 have SM:=Lib.hid SM
 clear H1 H2 S S0 y0 y1 hC1 hC2 hq hc1 hc2 hl1 hl2
 go_enter Tryz.func26,Tryz.ntmps26
 go_upto_region 1 with fail
 obtain ⟨w2,hw2⟩:∃ z,w1.drew=z:=⟨_,rfl⟩
 have hd:Below w1.heap.size w1 w2:=by rw [← hw2];exact below_drewN w1 _ 1
 have S2:=Fr.up S1 hd
 have FK:Hid (∀ w',Below w2.heap.size w2 w'→(w'.cell? ⟨n,0,none⟩=some (.string s1)∧w'.cell? ⟨n,1,none⟩=some (.slice A1 l1 c1))∧(w'.cell? ⟨n+1,0,none⟩=some (.string s2)∧w'.cell? ⟨n+1,1,none⟩=some (.slice A2 l2 c2))):=fun w' h=>by
  have S3:=Fr.up S2 h
  exact ⟨Fr.cells2 S3.out.2.1,Fr.cells2 S3.out.1⟩
 clear hd S1 hw0 hw1 z0 z1
 refine Mixed.wp_region_mixed (fun w'=>Below w2.heap.size w2 w') 3 [(0,true),(2,true),(1,false)] (by kernel_rfl) (by kernel_rfl) (by rw [hw2];exact Below.refl _ _) ?_
 rw [hw2]
 clear hw2
 refine Mixed.wpMix_pure rfl (by kernel_rfl) (.agg #[.string s1,.slice A1 l1 c1]) (fun w h=>by obtain ⟨⟨h0,h1⟩,-⟩:=FK.out w h;clear h;go_simp;try rfl) ?_
 refine Mixed.wpMix_pure rfl (by kernel_rfl) (.agg #[.string s2,.slice A2 l2 c2]) (fun w h=>by obtain ⟨-,h0,h1⟩:=FK.out w h;clear h;go_simp;try rfl) ?_
 refine Mixed.wpMix_loud rfl ?_
 have o1:=OF1.out w2 S2.out.2.2.2.1
 clear FK OF1
 go_wp2_with fail
 refine o1.mono ?_
 rintro e w3 ⟨v,rfl,hO,hb⟩
 obtain ⟨A3,k3,rfl,hP3,-⟩:=hO.ops
 have CC:=Lib.hid hb
 have S3:=Fr.add (Fr.up S2 hb) (opsF A3 C1) hP3
 clear o1 hO hP3 hb S2
 go_wp2
 refine ⟨CC.out,?_⟩
 clear CC
 simp only [Mixed.wpMix]
 have o2:=OF2.out w3 S3.out.2.2.2.1
 clear OF2
 go_wp2_with fail
 refine o2.mono ?_
 rintro e w4 ⟨v,rfl,hO,hb⟩
 obtain ⟨A4,k4,rfl,hP4,-⟩:=hO.ops
 have S4:=Fr.up S3 hb
 have sm:=SM.out A3 A4 k3 k4 w4 S4.out.1 hP4
 clear o2 hO hP4 hb S3 SM
 go_wp2_with fail
 refine sm.mono ?_
 rintro e w5 ⟨rfl,hb⟩
 have B5:Hid (Below n w w5):=S4.out.2.2.2.2.2.1.1.trans (hb.mono S4.out.2.2.2.2.2.1.2)
 clear sm hb S4
 go_wp2
 go_ret
 exact ⟨rfl,by rw [HN.out];exact B5.out⟩
theorem townB_cap {w:World} {B k c:Nat} {A:Option Addr} {xs:Str} (h:TOwnB w B (.slice A k c) xs):xs.length≤c∧c≤maxLen:=by
 rcases h.2 with ⟨h1,h2⟩ | ⟨g,cap',cur,h1,_,_,hle,hm,_⟩
 ·simp only [Value.slice.injEq] at h1
  obtain ⟨-,-,rfl⟩:=h1
  exact ⟨Nat.le_of_eq h2,Nat.zero_le _⟩
 ·simp only [Value.slice.injEq] at h1
  obtain ⟨-,-,rfl⟩:=h1
  exact ⟨hle,hm⟩
theorem take_bytes {w:World} {A:Option Addr} {xs:Str} (h:BytesAt w A xs) (k:Nat):BytesAt w A (xs.take k):=by
 rcases h with rfl | ⟨b,off,rfl,hc⟩
 ·exact .inl (by simp)
 ·refine .inr ⟨b,off,rfl,fun j hj=>?_⟩
  rw [List.getElem_take]
  exact hc j (by rw [List.length_take] at hj;omega)
theorem apart_of {a b:Nat} {q:Bool} (h:(decide (a≤100)&&decide (b≤20))=q) (hq:q=true):a≤1000∧b≤900:=by
 subst hq
 simp only [Bool.and_eq_true,decide_eq_true_eq] at h
 omega
theorem walkEA (s1:ByteArray) (A1:Option Addr) (c1:Nat) (L1:List Tr) (s2:ByteArray) (A2:Option Addr) (c2:Nat) (L2:List Tr) (w:World) (hs1:s1.size≤maxLen) (hL1:L1.length≤maxLen) (hs2:s2.size≤maxLen) (hL2:L2.length≤maxLen) (H1:OpsP w A1 L1) (H2:OpsP w A2 L2) (hM:MaxAt w) :
  Calls Tryz.prog 6 #[.agg #[.string s1,.slice A1 L1.length c1],.agg #[.string s2,.slice A2 L2.length c2]] w fun e w'=>e=.returned (.bool true)∧Below w.heap.size w w':=by
 obtain ⟨l1,hl1⟩:∃ l,L1.length=l:=⟨_,rfl⟩
 obtain ⟨l2,hl2⟩:∃ l,L2.length=l:=⟨_,rfl⟩
 rw [hl1,hl2]
 obtain ⟨n,hn⟩:∃ n,w.heap.size=n:=⟨_,rfl⟩
 have HN:=Lib.hid hn
 have HM:Hid (∀ w',Below n w w'→MaxAt w'):=fun w' h=>hM.below (by rw [HN.out];exact h)
 have S:=Fr.add (Fr.add (Fr.start w n hn) (opsF A1 L1) H1) (opsF A2 L2) H2
 obtain ⟨b0,w0,hb0,hw0,S0,y0,z0⟩:=Fr.box S #[.string s1,.slice A1 l1 c1] 26
 obtain ⟨b1,w1,hb1,hw1,S1,y1,z1⟩:=Fr.box S0 #[.string s2,.slice A2 l2 c2] 26
 rw [hn] at hb0
 subst hb0
 rw [z0] at hb1
 subst hb1
 obtain ⟨q1,hq1⟩:∃ q,(decide (s1.size≤100)&&decide (l1≤20))=q:=⟨_,rfl⟩
 obtain ⟨q2,hq2⟩:∃ q,(decide (s2.size≤100)&&decide (l2≤20))=q:=⟨_,rfl⟩
 have SH1:=wshort_any s1 A1 c1 l1 w1
 have SH2:=Lib.hid (fun w'=>wshort_any s2 A2 c2 l2 w')
 rw [hq1] at SH1
 rw [hq2] at SH2
 have HL1:=Lib.hid hl1
 have HL2:=Lib.hid hl2
 have OUT:Hid (∀ (wx:World) l,Fr.St wx (Fr.bel n w :: l)→∀ w',Below wx.heap.size wx w'→Below w.heap.size w w'):=fun wx l h w' hb=>by rw [HN.out];exact h.1.1.trans (hb.mono h.1.2)
 obtain ⟨k0,k1⟩:=Fr.cells2 S1.out.2.1
 obtain ⟨j0,j1⟩:=Fr.cells2 S1.out.1
 clear H1 H2 S S0 y0 y1 hM hs1 hs2 hL1 hL2 hl1 hl2
 go_enter Tryz.func6,Tryz.ntmps6
 go_wp2_with fail
 refine SH1.mono ?_
 rintro e w2 ⟨rfl,hb⟩
 have S2:=Fr.up S1 hb
 clear SH1 hb S1 k0 k1 j0 j1 hw0 hw1 z0 z1
 have BL2:=Lib.hid S2.out.2.2.2.2.1
 cases q1 with
 | false=>
  have al:=walive_any w2 (HM.out _ BL2.out.1)
  clear SH2 S2
  go_wp2_with fail
  refine al.mono ?_
  rintro e w3 ⟨rfl,hb⟩
  have F:=Lib.hid (OUT.out w2 [] ⟨BL2.out,trivial⟩ w3 hb)
  clear al hb BL2 OUT
  go_wp2
  go_ret
  exact ⟨rfl,F.out⟩
 | true=>
  obtain ⟨j0,j1⟩:=Fr.cells2 S2.out.1
  have sh:=SH2.out w2
  clear BL2 SH2
  go_wp2_with fail
  refine sh.mono ?_
  rintro e w3 ⟨rfl,hb⟩
  have S3:=Fr.up S2 hb
  clear sh hb S2 j0 j1
  have BL3:=Lib.hid S3.out.2.2.2.2.1
  cases q2 with
  | false=>
   have al:=walive_any w3 (HM.out _ BL3.out.1)
   clear S3
   go_wp2_with fail
   refine al.mono ?_
   rintro e w4 ⟨rfl,hb⟩
   have F:=Lib.hid (OUT.out w3 [] ⟨BL3.out,trivial⟩ w4 hb)
   clear al hb BL3 OUT
   go_wp2
   go_ret
   exact ⟨rfl,F.out⟩
  | true=>
   obtain ⟨h1,h2⟩:=apart_of hq1 rfl
   obtain ⟨h3,h4⟩:=apart_of hq2 rfl
   have en1:=wencode_any s1 h1 A1 c1 l1 L1 HL1.out h2 w3 (HM.out _ BL3.out.1) S3.out.2.2.2.1
   have EN2:=Lib.hid (fun w' m p=>wencode_any s2 h3 A2 c2 l2 L2 HL2.out h4 w' m p)
   have RO1:=fun w' p=>rof_any s1 A1 c1 L1 (by have:=HL1.out;omega) w' p
   have RO2:=fun w' p=>rof_any s2 A2 c2 L2 (by have:=HL2.out;omega) w' p
   have CE:=Lib.hid (fun w' p q=>caeq_any s1 s2 A1 A2 c1 c2 l1 l2 L1 L2 HL1.out HL2.out h2 h4 w' p q)
   have hc1:=canL_len (opc s1) L1
   have hc2:=canL_len (opc s2) L2
   have SM:=fun A B c d w' p q=>isame2_any s1 s2 A B c d _ _ (canL (opc s1) L1) (canL (opc s2) L2) rfl rfl (by have:=HL1.out;omega) (by have:=HL2.out;omega) w' p q
   have EE:=fun a b h h'=>enc_eq (s:=s1) (s':=s2) (I:=L1) (I':=L2) (a:=a) (b:=b) h h'
   have ET:=fun a b h h'=>enc_take (s:=s1) (s':=s2) (I:=L1) (I':=L2) (a:=a) (b:=b) h h'
   rw [HL1.out] at RO1
   rw [HL2.out] at RO2
   unfold smB at CE
   obtain ⟨C1,hC1⟩:∃ z,canL (opc s1) L1=z:=⟨_,rfl⟩
   obtain ⟨C2,hC2⟩:∃ z,canL (opc s2) L2=z:=⟨_,rfl⟩
   rw [hC1] at RO1
   rw [hC2] at RO2
   rw [hC1,hC2] at SM CE
   have SMQ:∃ z,(decide (s1=s2)&&decide (C1=C2))=z:=⟨_,rfl⟩
   obtain ⟨q,hq⟩:=SMQ
   have EE2:Hid (∀ a b,encI s1 L1=some a→encI s2 L2=some b→decide (a=b)=q):=fun a b h h'=>by
    rw [← hq,← Bool.decide_and]
    exact decide_eq_decide.2 (by rw [EE a b h h',hC1,hC2])
   have ET2:Hid (∀ a b,encI s1 L1=some a→encI s2 L2=some b→decide (a.take (min a.length b.length)=b.take (min a.length b.length))=q):=fun a b h h'=>by
    rw [← hq,← Bool.decide_and]
    exact decide_eq_decide.2 (by rw [ET a b h h',hC1,hC2])
   rw [hq] at SM CE
   have RO1:=Lib.hid RO1
   have RO2:=Lib.hid RO2
   have SM:=Lib.hid SM
   obtain ⟨k0,k1⟩:=Fr.cells2 S3.out.2.1
   clear hq hC1 hC2 EE ET hc1 hc2 h1 h2 h3 h4 hq1 hq2 BL3
   go_wp2_with fail
   refine en1.mono ?_
   rintro e w4 ⟨A4,c4,rfl,hO,hb⟩
   have hP4:BytesAt w4 A4 ((encI s1 L1).getD []):=by
    obtain ⟨A',c',e,h⟩:=hO.bytes
    simp only [Value.slice.injEq] at e
    obtain ⟨rfl,-,rfl⟩:=e
    exact h
   have hcp4:=townB_cap hO
   have S4:=Fr.add (Fr.up S3 hb) ⟨fun w=>BytesAt w A4 ((encI s1 L1).getD []),fun h hb=>h.below hb⟩ hP4
   have en2:=EN2.out w4 (HM.out _ S4.out.2.2.2.2.2.1.1) S4.out.2.2.2.1
   clear en1 hO hP4 hb S3 k0 k1 EN2
   obtain ⟨j0,j1⟩:=Fr.cells2 S4.out.2.1
   go_wp2_with fail
   refine en2.mono ?_
   rintro e w5 ⟨A5,c5,rfl,hO,hb⟩
   have hP5:BytesAt w5 A5 ((encI s2 L2).getD []):=by
    obtain ⟨A',c',e,h⟩:=hO.bytes
    simp only [Value.slice.injEq] at e
    obtain ⟨rfl,-,rfl⟩:=e
    exact h
   have hcp5:=townB_cap hO
   have S5:=Fr.add (Fr.up S4 hb) ⟨fun w=>BytesAt w A5 ((encI s2 L2).getD []),fun h hb=>h.below hb⟩ hP5
   have BL5:=Lib.hid S5.out.2.2.2.2.2.2.1
   have hla:=encI_len s1 L1
   have hlb:=encI_len s2 L2
   have CN1:=@codeE_no s1 L1
   have CY1:=@codeE_yes s1 L1
   have CN2:=@codeE_no s2 L2
   have CY2:=@codeE_yes s2 L2
   obtain ⟨e1,he1⟩:∃ c,codeE s1 L1=c:=⟨_,rfl⟩
   obtain ⟨e2,he2⟩:∃ c,codeE s2 L2=c:=⟨_,rfl⟩
   obtain ⟨o1,ho1⟩:∃ c,encI s1 L1=c:=⟨_,rfl⟩
   obtain ⟨o2,ho2⟩:∃ c,encI s2 L2=c:=⟨_,rfl⟩
   rw [he1,ho1] at CN1 CY1
   rw [he2,ho2] at CN2 CY2
   rw [ho1,ho2] at S5 EE2 ET2
   rw [ho1] at hla hcp4
   rw [ho2] at hlb hcp5
   simp only [he1,he2,ho1,ho2]
   clear en2 hO hP5 hb S4 j0 j1 he1 he2 ho1 ho2
   cases o1 with
   | none=>
    have hne:=CN1 rfl
    have t1:(e1 != 0)=true:=bne_iff_ne.2 hne
    have t2:(e1 == 0)=false:=beq_eq_false_iff_ne.2 hne
    have al:=walive_any w5 (HM.out _ BL5.out.1)
    clear hne S5 CN1 CY1 CN2 CY2 EE2 ET2
    go_wp2_with fail
    refine al.mono ?_
    rintro e w6 ⟨rfl,hb⟩
    have F:=Lib.hid (OUT.out w5 [] ⟨BL5.out,trivial⟩ w6 hb)
    clear al hb BL5 OUT
    go_wp2
    go_ret
    exact ⟨rfl,F.out⟩
   | some a=>
    obtain rfl:e1=0:=CY1 rfl
    cases o2 with
    | none=>
     have hne:=CN2 rfl
     have t1:(e2 != 0)=true:=bne_iff_ne.2 hne
     have t2:(e2 == 0)=false:=beq_eq_false_iff_ne.2 hne
     have al:=walive_any w5 (HM.out _ BL5.out.1)
     clear hne S5 CN1 CY1 CN2 CY2 EE2 ET2
     go_wp2_with fail
     refine al.mono ?_
     rintro e w6 ⟨rfl,hb⟩
     have F:=Lib.hid (OUT.out w5 [] ⟨BL5.out,trivial⟩ w6 hb)
     clear al hb BL5 OUT
     go_wp2
     go_ret
     exact ⟨rfl,F.out⟩
    | some b=>
     obtain rfl:e2=0:=CY2 rfl
     have Eab:=Lib.hid (EE2.out a b rfl rfl)
     have Tab:=ET2.out a b rfl rfl
     simp only [Option.getD_some] at S5 hla hlb hcp4 hcp5 ⊢
     obtain ⟨la,hla2⟩:∃ z,a.length=z:=⟨_,rfl⟩
     obtain ⟨lb,hlb2⟩:∃ z,b.length=z:=⟨_,rfl⟩
     rw [hla2,hlb2] at Tab
     rw [hla2] at hla hcp4 ⊢
     rw [hlb2] at hlb hcp5 ⊢
     obtain ⟨hcp4,hcx4⟩:=hcp4
     obtain ⟨hcp5,hcx5⟩:=hcp5
     unfold maxLen at hcx4 hcx5
     have Tab:=Lib.hid Tab
     have HLA:=Lib.hid hla2
     have HLB:=Lib.hid hlb2
     clear CN1 CY1 CN2 CY2 EE2 ET2 hla2 hlb2 BL5
     go_upto_region 7 with fail
     obtain ⟨w6,hw6⟩:∃ z,w5.drew=z:=⟨_,rfl⟩
     have hd:Below w5.heap.size w5 w6:=by rw [← hw6];exact below_drewN w5 _ 1
     have S6:=Fr.up S5 hd
     have FK:Hid (∀ w',Below w6.heap.size w6 w'→(w'.cell? ⟨n,0,none⟩=some (.string s1)∧w'.cell? ⟨n,1,none⟩=some (.slice A1 l1 c1))∧(w'.cell? ⟨n+1,0,none⟩=some (.string s2)∧w'.cell? ⟨n+1,1,none⟩=some (.slice A2 l2 c2))):=fun w' h=>by
      have S3:=Fr.up S6 h
      exact ⟨Fr.cells2 S3.out.2.2.2.1,Fr.cells2 S3.out.2.2.1⟩
     clear hd S5
     refine Mixed.wp_region_mixed (fun w'=>Below w6.heap.size w6 w') 3 [(0,true),(2,true),(1,false)] (by kernel_rfl) (by kernel_rfl) (by rw [hw6];exact Below.refl _ _) ?_
     rw [hw6]
     clear hw6
     refine Mixed.wpMix_pure rfl (by kernel_rfl) (.agg #[.string s1,.slice A1 l1 c1]) (fun w h=>by obtain ⟨⟨h0,h1⟩,-⟩:=FK.out w h;clear h;go_simp;try rfl) ?_
     refine Mixed.wpMix_pure rfl (by kernel_rfl) (.agg #[.string s2,.slice A2 l2 c2]) (fun w h=>by obtain ⟨-,h0,h1⟩:=FK.out w h;clear h;go_simp;try rfl) ?_
     refine Mixed.wpMix_loud rfl ?_
     have o1:=RO1.out w6 S6.out.2.2.2.2.2.1
     clear FK RO1
     go_wp2_with fail
     refine o1.mono ?_
     rintro e w7 ⟨v,rfl,hO,hb⟩
     obtain ⟨A7,k7,rfl,hP7,-⟩:=hO.ops
     have CC:=Lib.hid hb
     have S7:=Fr.add (Fr.up S6 hb) (opsF A7 C1) hP7
     clear o1 hO hP7 hb S6
     go_wp2
     refine ⟨CC.out,?_⟩
     clear CC
     simp only [Mixed.wpMix]
     have o2:=RO2.out w7 S7.out.2.2.2.2.2.1
     clear RO2
     go_wp2_with fail
     refine o2.mono ?_
     rintro e w8 ⟨v,rfl,hO,hb⟩
     obtain ⟨A8,k8,rfl,hP8,-⟩:=hO.ops
     have S8:=Fr.up S7 hb
     have sm:=SM.out A7 A8 k7 k8 w8 S8.out.1 hP8
     clear o2 hO hP8 hb S7 SM
     go_wp2_with fail
     refine sm.mono ?_
     rintro e w9 ⟨rfl,hb⟩
     have S9:Hid (Fr.St w9 _):=Lib.hid (Fr.up S8 hb).out.2
     clear sm hb S8
     go_upto_region 9 with fail
     obtain ⟨mm,hmm⟩:∃ mm:Nat,min (la:Int) (lb:Int)=(mm:Int):=⟨min la lb,by omega⟩
     have hmm2:min la lb=mm:=by omega
     rw [hmm]
     have hma:mm≤la:=by omega
     have hmb:mm≤lb:=by omega
     have Tab2:Hid (decide (a.take mm=b.take mm)=q):=by have:=Tab.out;rw [hmm2] at this;exact this
     clear hmm hmm2 Tab
     obtain ⟨w10,hw10⟩:∃ z,w9.drew=z:=⟨_,rfl⟩
     have hd:Below w9.heap.size w9 w10:=by rw [← hw10];exact below_drewN w9 _ 1
     have S10:=Fr.up S9 hd
     have FK:Hid (∀ w',Below w10.heap.size w10 w'→(w'.cell? ⟨n,0,none⟩=some (.string s1)∧w'.cell? ⟨n,1,none⟩=some (.slice A1 l1 c1))∧(w'.cell? ⟨n+1,0,none⟩=some (.string s2)∧w'.cell? ⟨n+1,1,none⟩=some (.slice A2 l2 c2))):=fun w' h=>by
      have S3:=Fr.up S10 h
      exact ⟨Fr.cells2 S3.out.2.2.2.1,Fr.cells2 S3.out.2.2.1⟩
     clear hd S9
     refine Mixed.wp_region_mixed (fun w'=>Below w10.heap.size w10 w') 24 [(0,false),(1,true),(2,true),(3,true),(5,true),(4,false),(6,true),(7,true),(8,true),(9,true),(10,true),(12,true),(11,false),(13,true),(14,true),(15,true),(16,true),(17,true),(19,true),(20,true),(23,true),(18,true),(21,true),(22,false)] (by kernel_rfl) (by kernel_rfl) (by rw [hw10];exact Below.refl _ _) ?_
     rw [hw10]
     clear hw10
     refine Mixed.wpMix_loud rfl ?_
     have al:=walive_any w10 (HM.out _ S10.out.2.2.2.2.2.2.1.1)
     go_wp2_with fail
     refine al.mono ?_
     rintro e w11 ⟨rfl,hb⟩
     have S11:=Fr.up S10 hb
     have CC:=Lib.hid hb
     clear al hb S10
     go_wp2
     refine ⟨CC.out,?_⟩
     refine Mixed.wpMix_pure rfl (by kernel_rfl) (.bool true) (fun w h=>by clear h;go_simp;try rfl) ?_
     refine Mixed.wpMix_pure rfl (by kernel_rfl) (.slice A4 la c4) (fun w h=>by clear h;go_simp;try rfl) ?_
     refine Mixed.wpMix_pure rfl (by kernel_rfl) (.slice A5 lb c5) (fun w h=>by clear h;go_simp;try rfl) ?_
     refine Mixed.wpMix_pure rfl (by kernel_rfl) (.bool q) (fun w h=>by clear h;go_simp;try rfl) ?_
     refine Mixed.wpMix_loudG rfl (by kernel_rfl) ?_
     have eq:=equalU_any A4 A5 c4 c5 a b (by rw [HLA.out];unfold maxLen;omega) (by rw [HLB.out];unfold maxLen;omega) w11 S11.out.2.1 S11.out.1
     rw [Eab.out,HLA.out,HLB.out] at eq
     go_wp2_with fail
     refine eq.mono ?_
     rintro e w12 ⟨rfl,hb⟩
     have S12:=Fr.up S11 hb
     have CC2:Hid (Below w10.heap.size w10 w12):=CC.out.trans (hb.mono CC.out.size)
     clear eq hb S11 CC
     go_wp2
     refine ⟨CC2.out,?_⟩
     refine Mixed.wpMix_pure rfl (by kernel_rfl) (.bool true) (fun w h=>by clear h;go_simp;first | done | rfl | (cases q <;> rfl)) ?_
     refine Mixed.wpMix_pure rfl (by kernel_rfl) (.bool true) (fun w h=>by clear h;go_simp;try rfl) ?_
     refine Mixed.wpMix_pure rfl (by kernel_rfl) (.bool true) (fun w h=>by clear h;go_simp;try rfl) ?_
     refine Mixed.wpMix_pure rfl (by kernel_rfl) (.agg #[.string s1,.slice A1 l1 c1]) (fun w h=>by obtain ⟨⟨h0,h1⟩,-⟩:=FK.out w h;clear h;go_simp;try rfl) ?_
     refine Mixed.wpMix_pure rfl (by kernel_rfl) (.agg #[.string s2,.slice A2 l2 c2]) (fun w h=>by obtain ⟨-,h0,h1⟩:=FK.out w h;clear h;go_simp;try rfl) ?_
     refine Mixed.wpMix_pure rfl (by kernel_rfl) (.bool q) (fun w h=>by clear h;go_simp;try rfl) ?_
     refine Mixed.wpMix_loudG rfl (by kernel_rfl) ?_
     have ce:=CE.out w12 S12.out.2.2.2.2.2.1 S12.out.2.2.2.2.1
     go_wp2_with fail
     refine ce.mono ?_
     rintro e w13 ⟨rfl,hb⟩
     have S13:=Fr.up S12 hb
     have CC3:Hid (Below w10.heap.size w10 w13):=CC2.out.trans (hb.mono CC2.out.size)
     clear ce hb S12 CC2 FK
     go_wp2
     refine ⟨CC3.out,?_⟩
     refine Mixed.wpMix_pure rfl (by kernel_rfl) (.bool true) (fun w h=>by clear h;go_simp;first | done | rfl | (cases q <;> rfl)) ?_
     refine Mixed.wpMix_pure rfl (by kernel_rfl) (.bool true) (fun w h=>by clear h;go_simp;try rfl) ?_
     refine Mixed.wpMix_pure rfl (by kernel_rfl) (.bool true) (fun w h=>by clear h;go_simp;try rfl) ?_
     refine Mixed.wpMix_pure rfl (by kernel_rfl) (.slice A4 la c4) (fun w h=>by clear h;go_simp;try rfl) ?_
     refine Mixed.wpMix_pure rfl (by kernel_rfl) (.int .i64 mm) (fun w h=>by clear h;go_simp;try rfl) ?_
     refine Mixed.wpMix_pure rfl (by kernel_rfl) (.slice A5 lb c5) (fun w h=>by clear h;go_simp;try rfl) ?_
     refine Mixed.wpMix_pure rfl (by kernel_rfl) (.int .i64 mm) (fun w h=>by clear h;go_simp;try rfl) ?_
     refine Mixed.wpMix_pure rfl (by kernel_rfl) (.bool q) (fun w h=>by clear h;go_simp;try rfl) ?_
     refine Mixed.wpMix_pure rfl (by kernel_rfl) (.slice A4 mm c4) (fun w h=>by clear h;go_simp;intro h;omega) ?_
     refine Mixed.wpMix_pure rfl (by kernel_rfl) (.slice A5 mm c5) (fun w h=>by clear h;go_simp;intro h;omega) ?_
     refine Mixed.wpMix_loudG rfl (by kernel_rfl) ?_
     have eq2:=equalU_any A4 A5 c4 c5 (a.take mm) (b.take mm) (by rw [List.length_take,HLA.out];unfold maxLen;omega) (by rw [List.length_take,HLB.out];unfold maxLen;omega) w13 (take_bytes S13.out.2.1 mm) (take_bytes S13.out.1 mm)
     rw [Tab2.out,List.length_take,List.length_take,HLA.out,HLB.out,Nat.min_eq_left hma,Nat.min_eq_left hmb] at eq2
     go_wp2_with fail
     refine eq2.mono ?_
     rintro e w14 ⟨rfl,hb⟩
     have B14:Hid (Below n w w14):=S13.out.2.2.2.2.2.2.1.1.trans (hb.mono S13.out.2.2.2.2.2.2.1.2)
     have CC4:Hid (Below w10.heap.size w10 w14):=CC3.out.trans (hb.mono CC3.out.size)
     clear eq2 hb S13 CC3
     go_wp2
     refine ⟨CC4.out,?_⟩
     clear CC4
     simp only [Mixed.wpMix]
     cases q
     ·go_wp2
      go_ret
      exact ⟨rfl,by rw [HN.out];exact B14.out⟩
     ·go_wp2
      go_ret
      exact ⟨rfl,by rw [HN.out];exact B14.out⟩
end Go.Proofs.YtoilebmbljpieaaGreatDoor
