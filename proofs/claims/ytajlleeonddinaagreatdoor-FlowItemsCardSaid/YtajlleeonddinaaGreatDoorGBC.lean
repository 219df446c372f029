/-
  FmG, FmP, FmO, FlC, ImgA, ImgB, ImgC, ImgM.
-/
import Derived.Test.YtajlleeonddinaaGreatDoorGAF
import Derived.Test.YtajlleeonddinaaGreatDoorGBB
import Derived.Test.YtajlleeonddinaaGreatDoorGAX
import Derived.Test.YtajlleeonddinaaGreatDoorProg
import Derived.WalkKit
import Derived.WalkSpells
import Derived.WalkLawsBesides
import Derived.Lib.Hide
import Derived.KernelRfl
import Derived.Deep.OwnRows
import Derived.Below
import Derived.Deep.Draws
import Derived.RegionTactic
import Derived.Deep.QuietTactic
import Derived.BigQuiet
import Derived.Laws.CopyOwn
import Derived.Laws.IdiomCopy
set_option linter.all false
set_option maxRecDepth 100000
set_option maxHeartbeats 4000000
namespace Go.Proofs.YtajlleeonddinaaGreatDoor
open Go.RowKit Go.Shelf
attribute [local go_sem] Oper.semAt_some
noncomputable def nxG (a kind:Int) (rl:Nat) (s:ByteArray) (I:List Tr):List Int:=
 if a<0∨65535<a then []
 else
  let k:=if kind=1 then kdF s I else 0
  let t:=if kind=1 then tgF a s I else -1
  let always:Bool:=decide (kind=1)&&(decide (k=1)||decide (k=3)||decide (k=4))&&!smF s I
  let z:=a+rl
  let o:=if z≤65535∧kind≠4∧always=false then [z] else []
  if 0≤t∧(o=[]∨o.head?≠some t) then o++[t] else o
noncomputable def nx1 (a kind:Int) (rl:Nat) (s:ByteArray) (I:List Tr):List Int:=if (adB (a+rl)&&decide (kind≠4)&&pasB (kdI kind s I) (smI kind s I))=true then [a+rl] else []
theorem nxG_out {a:Int} (h:adB a=false) (kind:Int) (rl:Nat) (s:ByteArray) (I:List Tr):nxG a kind rl s I=[]:=by
 unfold nxG
 rw [if_pos]
 refine Classical.byContradiction fun hn=>?_
 have:=adB_iff.2 (show 0≤a∧a≤65535 by omega)
 rw [h] at this
 cases this
theorem alw (kind:Int) (s:ByteArray) (I:List Tr):pasB (kdI kind s I) (smI kind s I)=!(decide (kind=1)&&(decide ((if kind=1 then kdF s I else 0)=1)||decide ((if kind=1 then kdF s I else 0)=3)||decide ((if kind=1 then kdF s I else 0)=4))&&!smF s I):=by
 unfold pasB kdI smI
 by_cases hk:kind=1
 ·simp only [if_pos hk]
  by_cases h:kdF s I=1∨kdF s I=3∨kdF s I=4
  ·rw [if_pos h]
   rcases h with h | h | h <;> simp [hk,h]
  ·rw [if_neg h]
   have h1:¬kdF s I=1:=fun e=>h (.inl e)
   have h2:¬kdF s I=3:=fun e=>h (.inr (.inl e))
   have h3:¬kdF s I=4:=fun e=>h (.inr (.inr e))
   simp [h1,h2,h3]
 ·simp only [if_neg hk]
  simp [hk]
theorem nx1_if {a:Int} (h:adB a=true) (kind:Int) (rl:Nat) (s:ByteArray) (I:List Tr):nx1 a kind rl s I=(if a+rl≤65535∧kind≠4∧(decide (kind=1)&&(decide ((if kind=1 then kdF s I else 0)=1)||decide ((if kind=1 then kdF s I else 0)=3)||decide ((if kind=1 then kdF s I else 0)=4))&&!smF s I)=false then [a+rl] else []):=by
 have h0:=adB_iff.1 h
 unfold nx1
 rw [alw]
 have e:adB (a+rl)=decide (a+(rl:Int)≤65535):=by unfold adB;rw [decide_eq_true (by omega),Bool.true_and]
 rw [e]
 obtain ⟨q,hq⟩:∃ z,(decide (kind=1)&&(decide ((if kind=1 then kdF s I else 0)=1)||decide ((if kind=1 then kdF s I else 0)=3)||decide ((if kind=1 then kdF s I else 0)=4))&&!smF s I)=z:=⟨_,rfl⟩
 rw [hq]
 by_cases h1:a+(rl:Int)≤65535 <;> by_cases h2:kind=4 <;> cases q <;> simp [h1,h2]
theorem nxG_eq {a:Int} (h:adB a=true) (kind:Int) (rl:Nat) (s:ByteArray) (I:List Tr):nxG a kind rl s I=if (decide (0≤tgI kind s I a)&&!(nx1 a kind rl s I).contains (tgI kind s I a))=true then nx1 a kind rl s I++[tgI kind s I a] else nx1 a kind rl s I:=by
 have h0:=adB_iff.1 h
 unfold nxG
 rw [if_neg (by omega)]
 dsimp only
 rw [← nx1_if h]
 show (if 0≤tgI kind s I a∧(nx1 a kind rl s I=[]∨(nx1 a kind rl s I).head?≠some (tgI kind s I a)) then nx1 a kind rl s I++[tgI kind s I a] else nx1 a kind rl s I)=_
 have hs:nx1 a kind rl s I=[]∨∃ z,nx1 a kind rl s I=[z]:=by
  unfold nx1
  split
  ·exact .inr ⟨_,rfl⟩
  ·exact .inl rfl
 obtain ⟨T,hT⟩:∃ z,tgI kind s I a=z:=⟨_,rfl⟩
 rw [hT]
 rcases hs with e | ⟨z,e⟩
 ·rw [e]
  by_cases h1:0≤T <;> simp [h1]
 ·rw [e]
  by_cases h1:0≤T <;> by_cases h2:z=T
  ·subst h2;simp [h1]
  ·simp [h1,h2]
   exact fun e=>h2 e.symm
  ·subst h2;simp [h1]
  ·simp [h1]
def RetZ (w:World) (L:List Int) (e:Ending) (w':World):Prop:=∃ A c,e=.returned (.slice A L.length c)∧OwnZ w' w.heap.size (.slice A L.length c) L∧Below w.heap.size w w'
theorem nx1_le (a kind:Int) (rl:Nat) (s:ByteArray) (I:List Tr):(nx1 a kind rl s I).length≤1:=by unfold nx1;split <;> simp
def gitF (b:Nat) (kind:Int) (va:Value) (s:ByteArray) (vb:Value) (al:Bool):Fr.F:=⟨fun w=>ItAt w b kind va s vb al,fun h hb=>h.all hb⟩
theorem next_any14 (a:Int) (kind:Int) (Ar:Option Addr) (lr cr:Nat) (hlr:lr≤1000000000) (al:Bool) (s:ByteArray) (hs:s.size≤1000) (A:Option Addr) (cap li:Nat) (I:List Tr) (hli:I.length=li) (hLi:li≤900) (w:World) (hM:MaxAt w) (H:OpsP w A I) :
  Calls Tryz.prog 27 #[.int .i64 a,.agg #[.int .i64 kind,.slice Ar lr cr,.string s,.slice A li cap,.bool al]] w (RetZ w (nxG a kind lr s I)):=by
 obtain ⟨n,hn⟩:∃ z,w.heap.size=z:=⟨_,rfl⟩
 have HN:=Lib.hid hn
 obtain ⟨b0,w1,hb0,hw1,S1,y1,z1⟩:=Fr.box (Fr.add (Fr.add (Fr.start w n hn) (fopsF A I) H) maxF hM) #[.int .i64 kind,.slice Ar lr cr,.string s,.slice A li cap,.bool al] 40
 obtain rfl:b0=n:=by omega
 have IT:ItAt w1 b0 kind (.slice Ar lr cr) s (.slice A li cap) al:=S1.out.1
 obtain ⟨k0,k1,k2,k3,k4,k5⟩:=IT.cells
 have AD:=Lib.hid (isAddr_any a w1)
 have EFF:=Lib.hid (fun w' h1 h2=>effItem_any kind (.slice Ar lr cr) al s hs A cap li I hli hLi w' h1 h2)
 cases ha:adB a with
 | false=>
  have NO:=Lib.hid (nxG_out ha kind lr s I)
  rw [ha] at AD
  clear H hM y1 IT hli ha EFF
  go_enter Tryz.func27,Tryz.ntmps27
  go_wp2_with fail
  refine AD.out.mono ?_
  rintro e w2 ⟨rfl,hb⟩
  have S2:=Fr.up S1 hb
  clear hb AD S1 k0 k1 k2 k3 k4 k5 hn hb0 hw1 z1
  go_wp2
  go_ret
  rw [NO.out]
  exact ⟨none,0,rfl,ownZ_nil _ _,by rw [HN.out];exact S2.out.2.2.2.1.1⟩
 | true=>
  have EQ:=Lib.hid (nxG_eq ha kind lr s I)
  have RA:=Lib.hid (adB_iff.1 ha)
  have N1:Hid (nx1 a kind lr s I=if (adB (a+lr)&&decide (kind≠4)&&pasB (kdI kind s I) (smI kind s I))=true then [a+lr] else []):=rfl
  have N1L:=Lib.hid (nx1_le a kind lr s I)
  obtain ⟨L1,hL1⟩:∃ z,nx1 a kind lr s I=z:=⟨_,rfl⟩
  obtain ⟨L2,hL2⟩:∃ z,nxG a kind lr s I=z:=⟨_,rfl⟩
  rw [hL1,hL2] at EQ
  rw [hL1] at N1 N1L
  rw [hL2]
  rw [ha] at AD
  clear H hM y1 IT hli ha hL1 hL2
  go_enter Tryz.func27,Tryz.ntmps27
  go_wp2_with fail
  refine AD.out.mono ?_
  rintro e w2 ⟨rfl,hb⟩
  have S2:=Fr.up S1 hb
  clear hb AD S1 k0 k1 k2 k3 k4 k5 hw1 z1 hn hb0
  have IT:ItAt w2 b0 kind (.slice Ar lr cr) s (.slice A li cap) al:=S2.out.1
  obtain ⟨k0,k1,k2,k3,k4,k5⟩:=IT.cells
  have E2:=EFF.out w2 S2.out.2.1 S2.out.2.2.1
  clear IT EFF
  go_wp2_with fail
  refine E2.mono ?_
  rintro e w3 ⟨k,q,v,C,rfl,hO,hb,hE⟩
  obtain ⟨Ac,cc,rfl,hP,-,-⟩:=hO.ops
  have S3:=Fr.add (Fr.up S2 hb) (fopsF Ac C) hP
  have HT:=Lib.hid (fun w' h=>target_any k q C C.length rfl hE.len hE.imm hE.rel Ac cc a w' h)
  rw [hE.tg a] at HT
  obtain ⟨lc,hlc⟩:∃ z,C.length=z:=⟨_,rfl⟩
  rw [hlc] at HT ⊢
  have HK:=Lib.hid hE.kd
  have HQ:=Lib.hid hE.sm
  obtain ⟨T,hT⟩:∃ z,tgI kind s I a=z:=⟨_,rfl⟩
  rw [hT] at HT EQ
  rw [← hE.kd,← hE.sm] at N1
  clear E2 hO hb hE hP S2 k0 k1 k2 k3 k4 k5 hlc hT
  go_upto_region 4 with fail
  obtain ⟨g4,w4,hg4,hw4,S4,y4,z4⟩:=Fr.box S3 #[.int .i64 k,.bool q,.slice Ac lc cc] 58
  rw [hw4,hg4]
  clear S3 y4 z4 hw4 hg4
  have IT:ItAt w4 b0 kind (.slice Ar lr cr) s (.slice A li cap) al:=S4.out.2.2.1
  obtain ⟨k0,k1,k2,k3,k4,k5⟩:=IT.cells
  have c1:IntKind.i64.wrap (a+(lr:Int))=a+(lr:Int):=by have:=RA.out;rw [IntKind.wrap_i64];omega
  obtain ⟨Z,hZ⟩:∃ z,a+(lr:Int)=z:=⟨_,rfl⟩
  rw [hZ] at c1 N1
  clear IT
  go_upto_region 6 with fail
  try rw [hZ]
  clear hZ
  go_cut [30] (fun p wx=>p=.bool (adB Z&&decide (kind≠4)&&pasB k q)∧Hid (Fr.St wx [efF g4 k q (.slice Ac lc cc),fopsF Ac C,gitF b0 kind (.slice Ar lr cr) s (.slice A li cap) al,maxF,fopsF A I,Fr.bel b0 w]))
  case first=>
   have A4:=isAddr_any Z w4
   go_wp2_with fail
   refine A4.mono ?_
   rintro e w5 ⟨rfl,hb⟩
   have S5:=Fr.up S4 hb
   clear A4 hb S4 k0 k1 k2 k3 k4 k5
   have IT:ItAt w5 b0 kind (.slice Ar lr cr) s (.slice A li cap) al:=S5.out.2.2.1
   obtain ⟨k0,k1,k2,k3,k4,k5⟩:=IT.cells
   clear IT
   cases hz:adB Z with
   | false=>
    have HZ:=Lib.hid hz
    try rw [hz]
    clear hz
    go_wp2
    go_meet
    exact ⟨by rw [HZ.out];rfl,S5.out⟩
   | true=>
    have HZ:=Lib.hid hz
    try rw [hz]
    clear hz
    by_cases h4:kind=4
    ·subst h4
     go_wp2
     go_meet
     exact ⟨by rw [HZ.out];rfl,S5.out⟩
    ·have e4:(kind != 4)=true:=bne_iff_ne.2 h4
     have e4':(kind == 4)=false:=beq_eq_false_iff_ne.2 h4
     have d4:Hid (decide (kind≠4)=true):=decide_eq_true h4
     have P5:=passes_any k q (.slice Ac lc cc) w5
     obtain ⟨e0,e1,e2,e3⟩:=EfAt.cells S5.out.1
     clear h4
     go_wp2_with fail
     refine P5.mono ?_
     rintro e w6 ⟨rfl,hb⟩
     have S6:=Fr.up S5 hb
     clear P5 hb S5 k0 k1 k2 k3 k4 k5 e0 e1 e2 e3
     obtain ⟨pq,hpq⟩:∃ z,pasB k q=z:=⟨_,rfl⟩
     have HPQ:=Lib.hid hpq
     rw [hpq]
     clear hpq
     go_wp2
     go_meet
     exact ⟨by rw [d4.out,HZ.out,HPQ.out];cases pq <;> rfl,S6.out⟩
  case rest=>
   obtain ⟨rfl,S7⟩:=hcut
   clear S4 k0 k1 k2 k3 k4 k5
   obtain ⟨pz,hpz⟩:∃ z,(adB Z&&decide (kind≠4)&&pasB k q)=z:=⟨_,rfl⟩
   rw [hpz] at N1 ⊢
   clear hpz
   go_upto_if 30 with fail
   go_cut [6] (fun l wx=>∃ A5 c5,l=.slice A5 L1.length c5∧Hid (Fr.St wx [ownZF b0 (.slice A5 L1.length c5) L1,efF g4 k q (.slice Ac lc cc),fopsF Ac C,gitF b0 kind (.slice Ar lr cr) s (.slice A li cap) al,maxF,fopsF A I,Fr.bel b0 w]))
   case first=>
    cases pz with
    | false=>
     have hL:L1=[]:=N1.out
     subst hL
     go_wp2
     go_meet
     exact ⟨none,0,rfl,ownZ_nil _ _,S7.out⟩
    | true=>
     have hL:L1=[Z]:=N1.out
     subst hL
     have BN:=S7.out.2.2.2.2.2.1.2
     obtain ⟨g8,w8,hg8,hw8,S8,y8,z8⟩:=Fr.box S7 #[.int .i64 Z] 3
     have I8:Hid (IntsAt w8 (some ⟨g8,0,none⟩) [Z]):=by rw [← hw8,← hg8];exact ints_new1 wc Z
     have SUP:Hid (∀ w',wc.heap.size≤w8.heap.size→Below b0 w8 w'→True):=fun _ _ _=>trivial
     have ST8:=Lib.hid S8.out.2
     clear S7 y8 S8
     go_wp2_with (at_builtin;refine wpList_appZs (ownZ_nil _ w8.heap.size) I8.out (Nat.le_refl _) (by simp) rfl _ _ rfl rfl rfl 1 rfl rfl 1 rfl ?_;intro A9 c9 w9 hO9 hB9 hg9;have O9:=Lib.hid hO9;have B9:=Lib.hid hB9;clear hO9 hB9 hg9)
     go_meet
     exact ⟨A9,c9,rfl,OwnZ.lift O9.out (by have:=ST8.out.2.2.2.2.2.1.2;omega),Fr.St.up ST8.out B9.out⟩
   case rest=>
    obtain ⟨A5,c5,rfl,S8⟩:=hcut
    clear S7 N1
    obtain ⟨e0,e1,e2,e3⟩:=EfAt.cells S8.out.2.1
    have T8:=HT.out _ S8.out.2.2.1
    clear HT
    go_wp2_with fail
    refine T8.mono ?_
    rintro e w9 ⟨rfl,hb⟩
    have S9:=Fr.up S8 hb
    clear T8 hb S8 e0 e1 e2 e3
    by_cases h0:0≤T
    ·have hd0:decide (0≤T)=true:=decide_eq_true h0
     rw [hd0,Int.max_eq_left h0]
     rw [hd0,Bool.true_and] at EQ
     obtain ⟨l1,hl1⟩:∃ z,L1.length=z:=⟨_,rfl⟩
     have CO:=containsI_any A5 c5 l1 L1 hl1 (by have:=N1L.out;omega) T w9 (ksP_of (OwnZ.intsA (hl1 ▸ S9.out.1)))
     rw [List.contains_eq_mem] at EQ
     obtain ⟨ct,hct⟩:∃ z,decide (T∈L1)=z:=⟨_,rfl⟩
     rw [hct] at EQ CO
     have HL1:=Lib.hid hl1
     rw [hl1] at S9 ⊢
     clear hd0 h0 hct hl1
     go_wp2_with fail
     refine CO.mono ?_
     rintro e w10 ⟨rfl,hb⟩
     subst hb
     have S10:=S9
     clear CO S9
     cases ct with
     | true=>
      have E:L2=L1:=EQ.out
      subst E
      go_wp2
      go_ret
      exact ⟨A5,c5,by rw [HL1.out];rfl,by rw [HN.out,HL1.out];exact S10.out.1,by rw [HN.out];exact S10.out.2.2.2.2.2.2.1.1⟩
     | false=>
      have E:L2=L1++[T]:=EQ.out
      subst E
      obtain ⟨g11,w11,hg11,hw11,S11,y11,z11⟩:=Fr.box S10 #[.int .i64 T] 3
      have I11:Hid (IntsAt w11 (some ⟨g11,0,none⟩) [T]):=by rw [← hw11,← hg11];exact ints_new1 _ T
      have HE:Hid ((L1++[T]).length=l1+1):=by show _=_;rw [List.length_append,HL1.out];rfl
      have BZ:=Lib.hid S11.out.2.2.2.2.2.2.2.1
      have OZ:=Lib.hid S11.out.2.1
      clear S10 y11 S11
      go_wp2_with (at_builtin;refine wpList_appZs OZ.out I11.out BZ.out.2 (by have:=N1L.out;simp;omega) rfl _ _ rfl rfl rfl 1 rfl rfl (l1+1) (by rw [HL1.out]) ?_;intro A12 c12 w12 hO12 hB12 hg12;have O12:=Lib.hid hO12;have B12:=Lib.hid hB12;clear hO12 hB12 hg12)
      go_ret
      exact ⟨A12,c12,by rw [HE.out];rfl,by rw [HN.out,HE.out];exact O12.out,by rw [HN.out];exact BZ.out.1.trans B12.out⟩
    ·have hd0:decide (0≤T)=false:=decide_eq_false h0
     rw [hd0]
     rw [hd0,Bool.false_and] at EQ
     have E:L2=L1:=EQ.out
     subst E
     clear hd0 h0
     go_wp2
     go_ret
     exact ⟨A5,c5,rfl,by rw [HN.out];exact S9.out.1,by rw [HN.out];exact S9.out.2.2.2.2.2.2.1.1⟩
end Go.Proofs.YtajlleeonddinaaGreatDoor
namespace Go.Proofs.YtajlleeonddinaaGreatDoor
open Go.RowKit Go.Shelf
attribute [local go_sem] Oper.semAt_some
theorem fequalI_any (A1 A2:Option Addr) (c1 c2:Nat) (xs:List Int) (hx:xs.length≤maxLen) (w:World) (h1:IntsAt w A1 xs) (h2:IntsAt w A2 xs) :
  Calls Tryz.prog 20 #[.slice A1 xs.length c1,.slice A2 xs.length c2] w fun e w'=>e=.returned (.bool true)∧Below w.heap.size w w':=by
 unfold maxLen at hx
 have H1:=Lib.hid h1
 have H2:=Lib.hid h2
 clear h1 h2
 obtain ⟨n,hn⟩:∃ n,xs.length=n:=⟨_,rfl⟩
 have L1:=Lib.hid hn
 rw [hn] at hx ⊢
 clear hn
 go_enter Tryz.func20,Tryz.ntmps20
 go_wp2
 go_loopw [13] (fun i wr=>∃ k q:Nat,k≤n∧i=.int .i64 k∧wr=w.drewN q) (fun i _=>n - (intOf i).toNat)
 case atStart=>exact ⟨0,0,Nat.zero_le _,rfl,rfl⟩
 case round=>
  obtain ⟨k,q,hk,rfl,rfl⟩:=hrel
  by_cases hlt:k<n
  ·obtain ⟨b1,o1,hA1,g1⟩:=H1.out.at_ (show k<xs.length by have:=L1.out;omega)
   obtain ⟨b2,o2,hA2,g2⟩:=H2.out.at_ (show k<xs.length by have:=L1.out;omega)
   subst hA1 hA2
   obtain ⟨x,hx⟩:∃ x:Int,(xs[k]'(by have:=L1.out;omega))=x:=⟨_,rfl⟩
   rw [hx] at g1 g2
   clear hx
   go_wp2_with fail
   go_quiet (fail)
   go_wp2
   go_roundw
   case rel=>exact ⟨k+1,_,by omega,by go_num,rfl⟩
   case measure=>simp [intOf];omega
  ·go_wp2
   go_ret
   exact ⟨rfl,below_dn (Below.refl _ _) _⟩
def exC:List Tr:=[(8,0,0),(10,0,3)]
theorem fx_can:canL (opc opJR) exC=exC:=by decide +kernel
def hitB (page:Int) (n:Nat) (s:ByteArray) (C:List Tr):Bool:=match ratT page n with
 | some x=>!x.2.2.2&&fitsR x.1 x.2.1 x.2.2.1 s C
 | none=>false
theorem hitB_of {page:Int} {n:Nat} {s:ByteArray} {C:List Tr} (h:hitB page n s C=true):Hit s C page n:=by
 unfold hitB at h
 cases hr:ratT page n with
 | none=>rw [hr] at h;cases h
 | some x=>
  rw [hr] at h
  simp only [Bool.and_eq_true,Bool.not_eq_true'] at h
  exact ⟨x,hr,h.1,h.2⟩
theorem ex_hit:hitB 0 32 opJR exC=true:=by decide +kernel
theorem ex_code:codeI opJR exC=0:=by decide +kernel
theorem ex_leg:legB opJR exC=true:=by
 rw [legB_iff,fx_can]
 exact ⟨ex_code,0,32,by decide,by decide,by decide,hitB_of ex_hit⟩
theorem ex_up:upB opJR=opJR:=ByteArray.ext (by decide +kernel)
theorem ex_pln:plnB opJR exC=false:=by
 unfold plnB
 rw [ex_leg,(knd_1 _).1]
 rfl
theorem ex_kd:kdF opJR exC=1:=by
 have h:=kd_same opJR exC
 rw [if_neg (by rw [ex_pln];decide),(knd_1 _).1] at h
 exact h.symm
theorem ex_sm:smF opJR exC=true:=by
 have h:=sm_same opJR exC
 rw [ex_pln,fx_can] at h
 rw [← h]
 rfl
theorem ex_tg:tgF 100 opJR exC=105:=by
 have h:=tg_same 100 opJR exC
 rw [if_neg (by rw [ex_pln];decide),(knd_1 _).1,fx_can] at h
 rw [← h]
 rfl
theorem ex_nx:nxG 100 1 2 opJR exC=[102,105]:=by
 have e1:tgI 1 opJR exC 100=105:=by unfold tgI;rw [if_pos rfl];exact ex_tg
 have e2:nx1 100 1 2 opJR exC=[102]:=by
  unfold nx1 kdI smI
  rw [if_pos (rfl:(1:Int)=1),if_pos (rfl:(1:Int)=1),ex_kd,ex_sm]
  rfl
 rw [nxG_eq (by decide),e1,e2]
 rfl
theorem exops (w:World):OpsP (w.alloc (.cells #[.int .i64 8,.int .i64 0,.int .i64 0,.int .i64 10,.int .i64 0,.int .i64 3] 55)) (some ⟨w.heap.size,0,none⟩) exC:=by
 refine .inr ⟨_,0,rfl,fun j hj=>?_⟩
 have hb:=heap_alloc_new w (.cells #[.int .i64 8,.int .i64 0,.int .i64 0,.int .i64 10,.int .i64 0,.int .i64 3] 55)
 have:j=0∨j=1:=by
  have:exC.length=2:=rfl
  omega
 rcases this with rfl | rfl
 ·exact ⟨Lib.cell_of_heap hb 0,Lib.cell_of_heap hb 1,Lib.cell_of_heap hb 2⟩
 ·exact ⟨Lib.cell_of_heap hb 3,Lib.cell_of_heap hb 4,Lib.cell_of_heap hb 5⟩
theorem ints_new2 (w:World) (x y:Int):IntsAt (w.alloc (.cells #[.int .i64 x,.int .i64 y] 3)) (some ⟨w.heap.size,0,none⟩) [x,y]:=by
 refine .inr ⟨_,_,rfl,fun j hj=>?_⟩
 rw [Lib.cell_of_heap (heap_alloc_new w _)]
 have:j=0∨j=1:=by simp at hj;omega
 rcases this with rfl | rfl <;> rfl
end Go.Proofs.YtajlleeonddinaaGreatDoor
namespace Go.Proofs.YtajlleeonddinaaGreatDoor
open Go.RowKit Go.Shelf
attribute [local go_sem] Oper.semAt_some
theorem alive14_any (w:World) (hM:MaxAt w):Calls Tryz.prog 7 #[] w fun e w'=>e=.returned (.bool true)∧Below w.heap.size w w':=by
 have MX:Hid (∀ w2,Below w.heap.size w w2→MaxAt w2):=fun w2 h=>hM.below h
 obtain ⟨g1,w1,hg1,hw1,S1,y1,z1⟩:=Fr.box (Fr.nil w) #[.int .i64 8,.int .i64 0,.int .i64 0,.int .i64 10,.int .i64 0,.int .i64 3] 55
 have MK:=make_any opJR (by decide) (some ⟨g1,0,none⟩) 2 exC (by decide) w1 (by rw [← hw1,← hg1];exact exops w)
 rw [ex_up] at MK
 have B1:=Lib.hid y1
 clear y1 S1 hM
 go_enter Tryz.func7,Tryz.ntmps7
 go_wp2_with fail
 refine MK.mono ?_
 rintro e w2 ⟨v,rfl,hO,hb⟩
 obtain ⟨A2,c2,rfl,hP,-⟩:=hO.ops
 have B2:Hid (Below w.heap.size w w2):=B1.out.trans (hb.mono B1.out.size)
 have S2:=Fr.add (Fr.nil w2) (fopsF A2 exC) hP
 rw [show exC.length=2 from rfl]
 clear MK hO hb hP B1 hw1 hg1 z1
 go_upto_region 2 with fail
 obtain ⟨g3,w3,hg3,hw3,S3,y3,z3⟩:=Fr.box S2 #[.string opJR,.slice A2 2 c2] 24
 have B3:Hid (Below w.heap.size w w3):=B2.out.trans (y3.mono B2.out.size)
 try rw [hw3,hg3]
 obtain ⟨g4,w4,hg4,hw4,S4,y4,z4⟩:=Fr.box S3 #[.int .u8 32,.int .u8 3] 5
 obtain rfl:g4=g3+1:=by omega
 have B4:Hid (Below w.heap.size w w4):=B3.out.trans (y4.mono B3.out.size)
 have NX:=next_any14 100 1 (some ⟨g3+1,0,none⟩) 2 2 (by omega) false opJR (by decide) A2 c2 2 exC rfl (by omega) w4 (MX.out _ B4.out) S4.out.2.2.1
 rw [ex_nx] at NX
 obtain ⟨k0,k1⟩:=Fr.cells2 S4.out.2.1
 have KD:=Lib.hid (fun w' h1 h2=>fkind_any opJR (by decide) A2 c2 2 exC rfl (by omega) w' h1 h2)
 have SM:=Lib.hid (fun w' h1 h2=>fsome_any opJR (by decide) A2 c2 2 exC rfl (by omega) w' h1 h2)
 rw [ex_kd] at KD
 rw [ex_sm] at SM
 have ST:=Lib.hid S4.out.2
 clear B2 B3 S2 S3 y3 y4 S4
 go_wp2_with fail
 refine NX.mono ?_
 rintro e w5 ⟨A5,c5,rfl,hO,hb⟩
 have ST5:Hid (Fr.St w5 [Fr.blk g3 (.cells #[.string opJR,.slice A2 2 c2] 24 (0,0)),fopsF A2 exC]):=Fr.St.up ST.out hb
 have B5:Hid (Below w.heap.size w w5):=B4.out.trans (hb.mono B4.out.size)
 have S5:=Fr.add ST5 (intsF A5 [102,105]) hO.intsA
 obtain ⟨g6,w6,hg6,hw6,S6,y6,z6⟩:=Fr.box S5 #[.int .i64 102,.int .i64 105] 3
 have B6:Hid (Below w.heap.size w w6):=B5.out.trans (y6.mono B5.out.size)
 have EQ:=Lib.hid (fequalI_any A5 (some ⟨g6,0,none⟩) c5 2 [102,105] (by decide) w6 S6.out.2.1 (by rw [← hw6,← hg6];exact ints_new2 w5 102 105))
 have ST6:=Lib.hid S6.out.2.2
 clear NX hO hb ST ST5 S5 y6 S6 B4 B5 hw4 hg4 z4 k0 k1 hw3 hg3 z3
 go_wp2_with fail
 refine EQ.out.mono ?_
 rintro e w7 ⟨rfl,hb⟩
 have B7:Hid (Below w.heap.size w w7):=B6.out.trans (hb.mono B6.out.size)
 have S7:Hid (Fr.St w7 [Fr.blk g3 (.cells #[.string opJR,.slice A2 2 c2] 24 (0,0)),fopsF A2 exC]):=Fr.St.up ST6.out hb
 obtain ⟨k0,k1⟩:=Fr.cells2 S7.out.1
 have K7:=KD.out w7 (MX.out _ B7.out) S7.out.2.1
 clear EQ hb ST6 B6 hw6 hg6 z6 KD
 go_wp2_with fail
 refine K7.mono ?_
 rintro e w8 ⟨rfl,hb⟩
 have B8:Hid (Below w.heap.size w w8):=B7.out.trans (hb.mono B7.out.size)
 have S8:=Fr.up S7 hb
 clear K7 hb B7 S7 k0 k1
 obtain ⟨k0,k1⟩:=Fr.cells2 S8.out.1
 have M8:=SM.out w8 (MX.out _ B8.out) S8.out.2.1
 clear SM
 go_wp2_with fail
 refine M8.mono ?_
 rintro e w9 ⟨rfl,hb⟩
 have B9:Hid (Below w.heap.size w w9):=B8.out.trans (hb.mono B8.out.size)
 clear M8 hb B8 S8 k0 k1
 go_wp2
 go_ret
 exact ⟨rfl,B9.out⟩
end Go.Proofs.YtajlleeonddinaaGreatDoor
namespace Go.Proofs.YtajlleeonddinaaGreatDoor
open Go.RowKit
def fndB (g:Int→Option UInt8):Nat→Int→Str
 | 0,_=>[]
 | n+1,a=>match g a with
  | some c=>c :: fndB g n (a+1)
  | none=>[]
theorem fndB_len (g:Int→Option UInt8):∀ n a,(fndB g n a).length≤n
 | 0,_=>Nat.le_refl _
 | n+1,a=>by
  unfold fndB
  split
  ·have:=fndB_len g n (a+1)
   simp only [List.length_cons]
   omega
  ·simp
theorem fndB_nil {g:Int→Option UInt8} {n:Nat} {a:Int}:fndB g (n+1) a=[]↔g a=none:=by
 unfold fndB
 split
 ·rename_i c h
  simp [h]
 ·rename_i h
  simp [h]
theorem fndB_more {g:Int→Option UInt8}:∀ {n:Nat} {a:Int} {c:UInt8},(fndB g n a).length=n→g (a+n)=some c→fndB g (n+1) a=fndB g n a++[c]
 | 0,a,c,_,h=>by
  have e:a+((0:Nat):Int)=a:=by simp
  rw [e] at h
  simp [fndB,h]
 | n+1,a,c,hl,h=>by
  cases hg:g a with
  | none=>
   rw [fndB_nil.2 hg] at hl
   cases hl
  | some d=>
   have e1:∀ k,fndB g (k+1) a=d :: fndB g k (a+1):=fun k=>by
    show (match g a with | some c=>c :: fndB g k (a+1) | none=>[])=_
    rw [hg]
   rw [e1,List.length_cons] at hl
   have e2:a+((n+1:Nat):Int)=a+1+(n:Int):=by omega
   rw [e2] at h
   rw [e1,e1,fndB_more (by omega) h]
   rfl
theorem fndB_stop {g:Int→Option UInt8}:∀ {n:Nat} {a:Int},(fndB g n a).length=n→g (a+n)=none→∀ k,n≤k→fndB g k a=fndB g n a
 | 0,a,_,h,0,_=>rfl
 | 0,a,_,h,k+1,_=>by
  have e:a+((0:Nat):Int)=a:=by simp
  rw [e] at h
  rw [fndB_nil.2 h]
  rfl
 | n+1,a,hl,h,0,hk=>by omega
 | n+1,a,hl,h,k+1,hk=>by
  cases hg:g a with
  | none=>
   rw [fndB_nil.2 hg] at hl
   cases hl
  | some d=>
   have e1:∀ k,fndB g (k+1) a=d :: fndB g k (a+1):=fun k=>by
    show (match g a with | some c=>c :: fndB g k (a+1) | none=>[])=_
    rw [hg]
   rw [e1,List.length_cons] at hl
   have e2:a+((n+1:Nat):Int)=a+1+(n:Int):=by omega
   rw [e2] at h
   rw [e1,e1,fndB_stop (by omega) h k (by omega)]
def imI (g:Int→Option UInt8) (a:Int):Option Ite:=if fndB g 4 a=[] then none else some (itR (fndB g 4 a))
theorem imI_none {g:Int→Option UInt8} {a:Int}:imI g a=none↔g a=none:=by
 unfold imI
 by_cases h:fndB g 4 a=[]
 ·rw [if_pos h]
  exact ⟨fun _=>fndB_nil.1 h,fun _=>rfl⟩
 ·rw [if_neg h]
  exact ⟨fun e=>(by cases e),fun e=>absurd (fndB_nil.2 e) h⟩
theorem done_le {g:Int→Option UInt8} {d out:List Int} (hd:∀ a,g a≠none→a∈d) (hn:out.Nodup) (ho:∀ a∈out,imI g a≠none):out.length≤d.length:=
 nodup_le hn fun a ha=>hd a fun e=>ho a ha (imI_none.2 e)
def RchF (g:Int→Option UInt8) (S:List Int) (a:Int):Prop:=Rch (imI g) nxF S a
def IsRch (g:Int→Option UInt8) (S R:List Int):Prop:=Asc R∧∀ a,a∈R↔RchF g S a
theorem IsRch.again {g:Int→Option UInt8} {S R R':List Int} (h:IsRch g S R) (h':IsRch g R R'):R'=R:=asc_ext h'.1 h.1 fun a=>(h'.2 a).trans ((Rch.closed h.2 a).trans (h.2 a).symm)
theorem IsRch.more {g:Int→Option UInt8} {S S' R R':List Int} (hs:∀ a∈S,a∈S') (h:IsRch g S R) (h':IsRch g S' R'):∀ a∈R,a∈R':=fun a ha=>(h'.2 a).2 (Rch.more hs ((h.2 a).1 ha))
theorem IsRch.of {g:Int→Option UInt8} {S out R:List Int} (h:Wk (imI g) nxF S out []) (hR:Asc R) (he:∀ a,a∈R↔a∈out):IsRch g S R:=⟨hR,fun a=>(he a).trans (h.done a)⟩
end Go.Proofs.YtajlleeonddinaaGreatDoor
namespace Go.Proofs.YtajlleeonddinaaGreatDoor.Im
open Go.RowKit
def isF:Value→Bool | .bool false=>true | _=>false
def isI0:Value→Bool | .int .i64 0=>true | _=>false
def isU0:Value→Bool | .int .u8 0=>true | _=>false
theorem isF_eq {v:Value} (h:isF v=true):v=.bool false:=by
 unfold isF at h;split at h <;> simp_all
theorem isI0_eq {v:Value} (h:isI0 v=true):v=.int .i64 0:=by
 unfold isI0 at h;split at h <;> simp_all
theorem isU0_eq {v:Value} (h:isU0 v=true):v=.int .u8 0:=by
 unfold isU0 at h;split at h <;> simp_all
noncomputable def eat (p:Value→Bool) (n:Nat):List Value→Option (List Value):=
 Nat.rec (motive:=fun _=>List Value→Option (List Value)) (fun l=>some l) (fun _ ih l=>match l with | []=>none | v :: t=>match p v with | true=>ih t | false=>none) n
theorem eat_spec (p:Value→Bool) (x:Value) (hp:∀ v,p v=true→v=x):∀ (n:Nat) (l r:List Value),eat p n l=some r→l=List.replicate n x++r:=by
 intro n
 induction n with
 | zero=>
  intro l r h
  have h':some l=some r:=h
  cases h'
  rfl
 | succ n ih=>
  intro l r h
  cases l with
  | nil=>simp [eat] at h
  | cons v t=>
   have h':(match p v with | true=>eat p n t | false=>none)=some r:=h
   cases hv:p v with
   | false=>rw [hv] at h';cases h'
   | true=>
    rw [hv] at h'
    rw [hp v hv,ih t r h']
    rfl
noncomputable def imgZero:Option Value→Bool
 | some (.agg ⟨l⟩)=>match eat isF 65536 l with
  | some (v :: r)=>match isI0 v with
   | true=>match eat isU0 65536 r with
    | some []=>true
    | _=>false
   | false=>false
  | _=>false
 | _=>false
theorem imgZero_t:imgZero Tryz.t102.zero=true:=by kernel_rfl
def imgV (H:Nat→Bool) (n:Int) (D:Nat→UInt8) (i:Nat):Value:=
 if i<65536 then .bool (H i) else if i=65536 then .int .i64 n else .int .u8 ((D (i - 65537)).toNat:Int)
theorem imgV_in {H:Nat→Bool} {n:Int} {D:Nat→UInt8} {i:Nat} (h:i<65536):imgV H n D i=.bool (H i):=by unfold imgV;rw [if_pos h]
theorem imgV_b {H:Nat→Bool} {n:Int} {D:Nat→UInt8} {i:Nat}:imgV H n D (65537+i)=.int .u8 ((D i).toNat:Int):=by
 unfold imgV;rw [if_neg (by omega),if_neg (by omega),show 65537+i - 65537=i by omega]
theorem imgZero_spec {z:Option Value} (h:imgZero z=true):∃ c:Array Value,z=some (.agg c)∧c.size=131073∧∀ i,i<131073→c[i]?=some (imgV (fun _=>false) 0 (fun _=>0) i):=by
 unfold imgZero at h
 split at h
 ·rename_i l
  split at h
  ·rename_i v r h1
   split at h
   ·rename_i h2
    split at h
    ·rename_i h3
     have e1:=eat_spec isF _ (fun _=>isF_eq) _ _ _ h1
     have e2:=isI0_eq h2
     have e3:=eat_spec isU0 _ (fun _=>isU0_eq) _ _ _ h3
     subst e2
     subst e3
     refine ⟨⟨l⟩,rfl,?_,fun i hi=>?_⟩
     ·show l.length=131073
      rw [e1]
      simp only [List.length_append,List.length_replicate,List.length_cons,List.length_nil]
     ·show (⟨l⟩:Array Value)[i]?=_
      rw [List.getElem?_toArray,e1]
      unfold imgV
      by_cases h4:i<65536
      ·rw [if_pos h4,List.getElem?_append_left (by rw [List.length_replicate];exact h4),List.getElem?_replicate,if_pos h4]
      ·rw [if_neg h4,List.getElem?_append_right (by simp only [List.length_replicate];omega),List.length_replicate]
       by_cases h5:i=65536
       ·rw [if_pos h5,h5];rfl
       ·rw [if_neg h5,show i - 65536=(i - 65537)+1 by omega,List.getElem?_cons_succ,List.append_nil,List.getElem?_replicate,if_pos (by omega)]
        rfl
    ·cases h
   ·cases h
  ·cases h
 ·cases h
def ImgF (w:World) (b:Nat) (H:Nat→Bool) (n:Int) (D:Nat→UInt8):Prop:=w.rowIs b 102 131073 (imgV H n D)
theorem ImgF.cellH {w:World} {b:Nat} {H:Nat→Bool} {n:Int} {D:Nat→UInt8} (h:ImgF w b H n D) {i:Nat} (hi:i<65536):w.cell? ⟨b,i,none⟩=some (.bool (H i)):=by
 rw [World.rowIs.cell h (by omega),imgV_in hi]
theorem ImgF.cellN {w:World} {b:Nat} {H:Nat→Bool} {n:Int} {D:Nat→UInt8} (h:ImgF w b H n D):w.cell? ⟨b,65536,none⟩=some (.int .i64 n):=World.rowIs.cell h (by omega)
theorem ImgF.cellD {w:World} {b:Nat} {H:Nat→Bool} {n:Int} {D:Nat→UInt8} (h:ImgF w b H n D) {i:Nat} (hi:i<65536):w.cell? ⟨b,65537+i,none⟩=some (.int .u8 ((D i).toNat:Int)):=by
 rw [World.rowIs.cell h (by omega),imgV_b]
theorem ImgF.setH {w:World} {b:Nat} {H:Nat→Bool} {n:Int} {D:Nat→UInt8} (h:ImgF w b H n D) {i:Nat} (hi:i<65536) (x:Bool) :
  ImgF (w.setCell ⟨b,i,none⟩ (.bool x)) b (fun j=>if j=i then x else H j) n D:=
 World.rowIs.congr (World.rowIs.set h i _) fun j hj=>by
  by_cases e:j=i
  ·subst e;rw [if_pos rfl,imgV_in hi,if_pos rfl]
  ·rw [if_neg e];unfold imgV;simp only [if_neg e]
theorem ImgF.setN {w:World} {b:Nat} {H:Nat→Bool} {n:Int} {D:Nat→UInt8} (h:ImgF w b H n D) (x:Int) :
  ImgF (w.setCell ⟨b,65536,none⟩ (.int .i64 x)) b H x D:=
 World.rowIs.congr (World.rowIs.set h 65536 _) fun j hj=>by
  by_cases e:j=65536
  ·subst e;rw [if_pos rfl];rfl
  ·rw [if_neg e];unfold imgV;rw [if_neg e,if_neg e]
theorem ImgF.congr {w:World} {b:Nat} {H H':Nat→Bool} {n:Int} {D D':Nat→UInt8} (h:ImgF w b H n D) (h1:∀ i,i<65536→H i=H' i) (h2:∀ i,i<65536→D i=D' i):ImgF w b H' n D':=
 World.rowIs.congr h fun j hj=>by
  unfold imgV
  by_cases e:j<65536
  ·rw [if_pos e,if_pos e,h1 j e]
  ·rw [if_neg e,if_neg e]
   by_cases e2:j=65536
   ·rw [if_pos e2,if_pos e2]
   ·rw [if_neg e2,if_neg e2,h2 _ (by omega)]
structure Keep (b:Nat) (w w':World):Prop where
 os:w'.os=w.os
 tape:w'.tape=w.tape
 output:w'.output=w.output
 size:w.heap.size≤w'.heap.size
 block:∀ k,k<w.heap.size→k≠b→w'.heap[k]?=w.heap[k]?
theorem Keep.refl (b:Nat) (w:World):Keep b w w:=⟨rfl,rfl,rfl,Nat.le_refl _,fun _ _ _=>rfl⟩
theorem Keep.trans {b:Nat} {w w1 w2:World} (h:Keep b w w1) (k:Keep b w1 w2):Keep b w w2:=
 ⟨k.os.trans h.os,k.tape.trans h.tape,k.output.trans h.output,Nat.le_trans h.size k.size,fun i hi hn=>(k.block i (Nat.lt_of_lt_of_le hi h.size) hn).trans (h.block i hi hn)⟩
theorem Keep.of_below {b:Nat} {w w':World} (h:Below w.heap.size w w'):Keep b w w':=⟨h.os,h.tape,h.output,h.size,fun i hi _=>h.block i hi⟩
theorem Keep.below {b B:Nat} {w w':World} (h:Keep b w w') (hB:B≤b) (hs:B≤w.heap.size):Below B w w':=⟨h.os,h.tape,h.output,h.size,fun i hi=>h.block i (by omega) (by omega)⟩
theorem Keep.setCell {b:Nat} {w w':World} (h:Keep b w w') (o:Nat) (s:Option Nat) (u:Value):Keep b w (w'.setCell ⟨b,o,s⟩ u):=
 h.trans ⟨rfl,rfl,rfl,by simp [World.setCell],fun k _ hk=>Below.heap_setCell _ _ _ _ hk⟩
theorem Keep.alloc {b:Nat} {w w':World} (h:Keep b w w') (o:Obj):Keep b w (w'.alloc o):=
 h.trans ⟨rfl,rfl,rfl,by simp,fun k hk _=>Below.heap_alloc _ _ _ hk⟩
theorem Keep.drewN {b:Nat} {w w':World} (h:Keep b w w') (n:Nat):Keep b w (w'.drewN n):=⟨h.os,h.tape,h.output,h.size,h.block⟩
theorem ImgF.below {w w':World} {b:Nat} {H:Nat→Bool} {n:Int} {D:Nat→UInt8} (h:ImgF w b H n D) (k:Below w.heap.size w w'):ImgF w' b H n D:=World.rowIs.of_block h (k.block b (World.rowIs.lt h))
theorem ImgF.keep {w w':World} {b a:Nat} {H:Nat→Bool} {n:Int} {D:Nat→UInt8} (h:ImgF w b H n D) (k:Keep a w w') (hn:b≠a):ImgF w' b H n D:=World.rowIs.of_block h (k.block b (World.rowIs.lt h) hn)
def NewImg (w:World) (H:Nat→Bool) (n:Int) (D:Nat→UInt8) (e:Ending) (w':World):Prop:=
 ∃ b,e=.returned (.pointer (some ⟨b,0,none⟩))∧w.heap.size≤b∧ImgF w' b H n D∧Below w.heap.size w w'
theorem zero_value (c:Array Value) (hz:Tryz.t102.zero=some (.agg c)) (w:World):(zeroValue 102).run Tryz.prog w=.ok (.agg c) w:=by
 simp only [zeroValue,Sem.run_bind,Tryz.typeInfo102,Result.andThen_ok,hz,Sem.run_pure]
theorem new_any (w:World):Calls Tryz.prog 32 #[] w (NewImg w (fun _=>false) 0 (fun _=>0)):=by
 obtain ⟨c,hz,hs,hc⟩:=imgZero_spec imgZero_t
 have hb:=zero_value c hz
 have N:Hid (NewImg w (fun _=>false) 0 (fun _=>0) (.returned (.pointer (some ⟨w.heap.size,0,none⟩))) (w.alloc (.cells c 102))):=by
  refine ⟨w.heap.size,rfl,Nat.le_refl _,?_,(Below.refl _ _).alloc (Nat.le_refl _) _⟩
  have h:=World.rowIs_alloc w c 102 (imgV (fun _=>false) 0 (fun _=>0)) (fun i hi=>hc i (by omega))
  rw [hs] at h
  exact h
 clear hz hs hc
 go_enter Tryz.func32,Tryz.ntmps32
 go_wp2
 go_ret
 exact N.out
end Go.Proofs.YtajlleeonddinaaGreatDoor.Im
namespace Go.Proofs.YtajlleeonddinaaGreatDoor.Im
open Go.RowKit
theorem ret_int {k:IntKind} {a b:Int} (h:a=b):Ending.returned (.int k a)=.returned (.int k b):=by rw [h]
theorem ret_bool {a b:Bool} (h:a=b):Ending.returned (.bool a)=.returned (.bool b):=by rw [h]
def addrB (n:Int):Bool:=decide (0≤n)&&decide (n<65536)
theorem isAddress_any (n:Int) (w:World) :
  Calls Tryz.prog 62 #[.int .i64 n] w fun e w'=>e=.returned (.bool (addrB n))∧w=w':=by
 by_cases h:0≤n
 ·have e:addrB n=decide (n<65536):=by unfold addrB;simp [h]
  rw [e]
  go_enter Tryz.func62,Tryz.ntmps62
  go_wp2
  go_ret
  exact ⟨rfl,rfl⟩
 ·have e:addrB n=false:=by unfold addrB;simp [h]
  rw [e]
  go_enter Tryz.func62,Tryz.ntmps62
  go_wp2
  go_ret
  exact ⟨rfl,rfl⟩
theorem has_any (b:Nat) (H:Nat→Bool) (c:Int) (D:Nat→UInt8) (n:Int) (w:World) (hI:ImgF w b H c D) :
  Calls Tryz.prog 66 #[.pointer (some ⟨b,0,none⟩),.int .i64 n] w fun e w'=>e=.returned (.bool (addrB n&&H n.toNat))∧w=w':=by
 have I:=Lib.hid hI
 clear hI
 by_cases h:0≤n∧n<65536
 ·have e:addrB n=true:=by unfold addrB;simp [h.1,h.2]
  have g:=I.out.cellH (i:=n.toNat) (by omega)
  obtain ⟨h0,h1⟩:=h
  obtain ⟨k,rfl⟩:∃ k:Nat,n=k:=⟨n.toNat,by omega⟩
  have hk:((k:Int)).toNat=k:=by omega
  rw [hk] at g ⊢
  have hc:=isAddress_any (k:Int)
  rw [e] at hc ⊢
  clear e hk
  go_enter Tryz.func66,Tryz.ntmps66
  go_wp2_with (go_at_call 62;refine (hc _).mono ?_;rintro e w1 ⟨rfl,rfl⟩)
  go_ret
  exact ⟨rfl,rfl⟩
 ·have e:addrB n=false:=by
   unfold addrB
   by_cases h0:0≤n
   ·have:¬n<65536:=fun h1=>h ⟨h0,h1⟩
    simp [this]
   ·simp [h0]
  have hc:=isAddress_any n
  rw [e] at hc ⊢
  clear e h
  go_enter Tryz.func66,Tryz.ntmps66
  go_wp2_with (go_at_call 62;refine (hc _).mono ?_;rintro e w1 ⟨rfl,rfl⟩)
  go_ret
  exact ⟨rfl,rfl⟩
def BoolsAt (w:World) (b off n:Nat) (f:Nat→Bool):Prop:=∀ j,j<n→w.cell? ⟨b,off+j,none⟩=some (.bool (f j))
def anyB (f:Nat→Bool) (n:Nat):Bool:=(List.range n).any f
theorem anyB_true {f:Nat→Bool} {n k:Nat} (h:k<n) (e:f k=true):anyB f n=true:=by
 unfold anyB;rw [List.any_eq_true];exact ⟨k,List.mem_range.2 h,e⟩
theorem anyB_false {f:Nat→Bool} {n:Nat} (h:∀ k,k<n→f k=false):anyB f n=false:=by
 unfold anyB;rw [List.any_eq_false];intro x hx;rw [h x (List.mem_range.1 hx)];simp
theorem anyB_iff {f:Nat→Bool} {n:Nat}:anyB f n=true↔∃ k,k<n∧f k=true:=by
 unfold anyB;rw [List.any_eq_true];simp
theorem index_any (b off n cap:Nat) (hn:n≤maxLen) (f:Nat→Bool) (w:World) (hB:BoolsAt w b off n f) :
  Calls Tryz.prog 122 #[.slice (some ⟨b,off,none⟩) n cap,.bool true] w fun e w'=>(∃ r:Int,e=.returned (.int .i64 r)∧anyB f n=decide (0≤r))∧w=w':=by
 unfold maxLen at hn
 have I:=Lib.hid hB
 clear hB
 go_enter Tryz.func122,Tryz.ntmps122
 go_wp2
 go_loop [8] (fun i=>∃ k:Nat,k≤n∧i=.int .i64 k∧Hid (∀ j,j<k→f j=false)) (fun i=>n - (intOf i).toNat)
 case atStart=>exact ⟨0,Nat.zero_le _,rfl,fun j h=>by omega⟩
 case round=>
  obtain ⟨k,hk,rfl,R⟩:=hrel
  by_cases hlt:k<n
  ·have g:=I.out k hlt
   cases he:f k
   ·have N:Hid (∀ j,j<k+1→f j=false):=fun j h4=>by
     by_cases e:j=k
     ·rw [e];exact he
     ·exact R.out j (by omega)
    rw [he] at g
    clear he
    go_wp2
    go_round
    case rel=>exact ⟨k+1,by omega,by go_num,N⟩
    case measure=>simp [intOf];omega
   ·have N:Hid (anyB f n=true):=anyB_true hlt he
    rw [he] at g
    clear he
    go_wp2
    go_ret
    exact ⟨⟨k,rfl,by rw [N.out,decide_eq_true (by omega)]⟩,rfl⟩
  ·have N:Hid (anyB f n=false):=anyB_false fun j hj=>R.out j (by omega)
   go_wp2
   go_ret
   exact ⟨⟨-1,rfl,by rw [N.out];rfl⟩,rfl⟩
theorem contains_any (b off n cap:Nat) (hn:n≤maxLen) (f:Nat→Bool) (w:World) (hB:BoolsAt w b off n f) :
  Calls Tryz.prog 95 #[.slice (some ⟨b,off,none⟩) n cap,.bool true] w fun e w'=>e=.returned (.bool (anyB f n))∧w=w':=by
 have I:=Lib.hid hB
 clear hB
 go_enter Tryz.func95,Tryz.ntmps95
 go_wp2_with fail
 refine (index_any b off n cap hn f _ I.out).mono ?_
 rintro e w1 ⟨⟨r,rfl,hr⟩,rfl⟩
 have R:=Lib.hid hr
 clear hr
 go_wp2
 go_ret
 exact ⟨ret_bool R.out.symm,rfl⟩
theorem slice_lh (t e:TypeId) (ht:Tryz.prog.underlying t=some (.array 65536 e)) (hs:∀ w,(sizeOf e).run Tryz.prog w=.ok 1 w) (b off k n:Nat) (hk:k<65536) (hn:k+n≤65536) (w:World) :
  (Instr.sliceAt t (.pointer (some ⟨b,off,none⟩)) (some (.int .i64 k)) (some (.int .i64 ((k:Int)+(n:Int)))) none).run Tryz.prog w=.ok (.slice (some ⟨b,off+k,none⟩) n (65536 - k)) w:=by
 have h1:Tryz.prog.arrayLen t=65536:=by unfold Program.arrayLen;rw [ht]
 have h2:Tryz.prog.elem t=e:=by unfold Program.elem;rw [ht]
 rw [run_sliceAt_array_lh w t _ (by rw [h1,h2];exact ht) .i64 .i64 (k:Int) ((k:Int)+(n:Int)) (by omega) (by omega) (by rw [h1];omega),h2,hs,h1]
 simp only [Result.andThen_ok,slicedAt]
 have e1:(((k:Int)+(n:Int)).toNat) - ((k:Int)).toNat=n:=by omega
 have e2:((k:Int)).toNat=k:=by omega
 rw [e1,e2,if_neg (by omega),Nat.mul_one]
 unfold Addr.add
 by_cases h:k=0
 ·subst h;rfl
 ·rw [if_neg h]
theorem slice_l (t e:TypeId) (ht:Tryz.prog.underlying t=some (.array 65536 e)) (hs:∀ w,(sizeOf e).run Tryz.prog w=.ok 1 w) (b off k:Nat) (hk:k<65536) (w:World) :
  (Instr.sliceAt t (.pointer (some ⟨b,off,none⟩)) (some (.int .i64 k)) none none).run Tryz.prog w=.ok (.slice (some ⟨b,off+k,none⟩) (65536 - k) (65536 - k)) w:=by
 have h1:Tryz.prog.arrayLen t=65536:=by unfold Program.arrayLen;rw [ht]
 have h2:Tryz.prog.elem t=e:=by unfold Program.elem;rw [ht]
 rw [run_sliceAt_array_l w t _ (by rw [h1,h2];exact ht) .i64 (k:Int) (by omega) (by rw [h1];omega),h2,hs,h1]
 simp only [Result.andThen_ok,slicedAt]
 have e2:((k:Int)).toNat=k:=by omega
 rw [e2,if_neg (by omega),Nat.mul_one]
 unfold Addr.add
 by_cases h:k=0
 ·subst h;rfl
 ·rw [if_neg h]
theorem hasAny_any (b:Nat) (H:Nat→Bool) (c:Int) (D:Nat→UInt8) (k n:Nat) (hk:k<65536) (hn:k+n≤65536) (w:World) (hI:ImgF w b H c D) :
  Calls Tryz.prog 63 #[.pointer (some ⟨b,0,none⟩),.int .i64 k,.int .i64 n] w fun e w'=>e=.returned (.bool (anyB (fun j=>H (k+j)) n))∧w=w':=by
 have hB:BoolsAt w b k n (fun j=>H (k+j)):=fun j hj=>hI.cellH (by omega)
 have I:=Lib.hid hB
 clear hB hI
 go_enter Tryz.func63,Tryz.ntmps63
 have hsl:=fun w=>slice_lh 97 4 Tryz.underlying97 (fun w=>Tryz.sizeOf4 w) b 0 k n hk hn w
 rw [Nat.zero_add] at hsl
 go_wp2_with fail
 refine (contains_any b k n _ (by unfold maxLen;omega) _ _ I.out).mono ?_
 rintro e w1 ⟨rfl,rfl⟩
 go_wp2
 go_ret
 exact ⟨rfl,rfl⟩
theorem add_any (b:Nat) (H:Nat→Bool) (c:Int) (hc0:0≤c) (hc1:c≤4611686018427387904) (D:Nat→UInt8) (k n:Nat) (hk:k<65536) (hn:k+n≤65536) (w:World) (hI:ImgF w b H c D) :
  Calls Tryz.prog 64 #[.pointer (some ⟨b,0,none⟩),.int .i64 k,.int .i64 n] w fun e w'=>
   e=.returned (.tuple #[])∧ImgF w' b (fun i=>H i||(decide (k≤i)&&decide (i<k+n))) (c+n) D∧Keep b w w':=by
 have I:=Lib.hid hI
 clear hI
 go_enter Tryz.func64,Tryz.ntmps64
 go_wp2
 go_loopw [6] (fun i wr=>∃ r:Nat,k≤r∧r≤k+n∧i=.int .i64 r∧ImgF wr b (fun i=>H i||(decide (k≤i)&&decide (i<r))) c D∧Keep b w wr) (fun i _=>k+n - (intOf i).toNat)
 case atStart=>
  refine ⟨k,Nat.le_refl _,by omega,rfl,I.out.congr (fun i _=>?_) (fun _ _=>rfl),Keep.refl _ _⟩
  rw [show (decide (k≤i)&&decide (i<k))=false by simp,Bool.or_false]
 case round=>
  obtain ⟨r,h1,h2,rfl,hR,hK⟩:=hrel
  have R:=Lib.hid hR
  have K:=Lib.hid hK
  clear hR hK
  by_cases hlt:r<k+n
  ·have g:=R.out.cellH (show r<65536 by omega)
   have g2:=World.rowIs.frozen R.out r
   have N:Hid (ImgF (wr.setCell ⟨b,r,none⟩ (.bool true)) b (fun i=>H i||(decide (k≤i)&&decide (i<r+1))) c D):=
    (R.out.setH (show r<65536 by omega) true).congr (fun i _=>by
     by_cases e:i=r
     ·subst e;simp [h1]
     ·simp only [if_neg e]
      rw [show decide (i<r+1)=decide (i<r) from decide_eq_decide.2 (by omega)]) (fun _ _=>rfl)
   have K2:=Lib.hid (K.out.setCell r none (.bool true))
   go_wp2
   go_roundw
   case rel=>exact ⟨r+1,by omega,by omega,by go_num,N.out,K2.out⟩
   case measure=>simp [intOf];omega
  ·obtain rfl:r=k+n:=by omega
   have g:=R.out.cellN
   have g2:=World.rowIs.frozen R.out 65536
   have N:=Lib.hid (R.out.setN (c+n))
   have K2:=Lib.hid (K.out.setCell 65536 none (.int .i64 (c+n)))
   go_wp2
   go_end0
   exact ⟨rfl,N.out,K2.out⟩
end Go.Proofs.YtajlleeonddinaaGreatDoor.Im
namespace Go.Proofs.YtajlleeonddinaaGreatDoor.Im
open Go.RowKit
def BytesP (P:Nat→Prop) (w:World) (A:Option Addr) (xs:List UInt8):Prop:=
 xs=[]∨∃ b off,A=some ⟨b,off,none⟩∧P b∧∀ j (h:j<xs.length),w.cell? ⟨b,off+j,none⟩=some (.int .u8 (xs[j].toNat:Int))
theorem BytesP.at_ {P:Nat→Prop} {w:World} {A:Option Addr} {xs:List UInt8} (h:BytesP P w A xs) {k:Nat} (hk:k<xs.length):∃ b off,A=some ⟨b,off,none⟩∧w.cell? ⟨b,off+k,none⟩=some (.int .u8 (xs[k].toNat:Int)):=by
 rcases h with rfl | ⟨b,off,rfl,_,hc⟩
 ·simp at hk
 ·exact ⟨b,off,rfl,hc k hk⟩
theorem BytesP.mono {P Q:Nat→Prop} {w:World} {A:Option Addr} {xs:List UInt8} (h:BytesP P w A xs) (hPQ:∀ i,i<w.heap.size→P i→Q i):BytesP Q w A xs:=by
 by_cases hx:xs=[]
 ·exact .inl hx
 ·rcases h with rfl | ⟨b,off,rfl,hp,hc⟩
  ·exact .inl rfl
  ·exact .inr ⟨b,off,rfl,hPQ b (World.block_lt_of_cell? w _ (hc 0 (List.length_pos_iff.2 hx))) hp,hc⟩
theorem BytesP.blocks {P:Nat→Prop} {w w':World} {A:Option Addr} {xs:List UInt8} (h:BytesP P w A xs) (hk:∀ i,i<w.heap.size→P i→w'.heap[i]?=w.heap[i]?):BytesP P w' A xs:=by
 rcases h with rfl | ⟨b,off,rfl,hp,hc⟩
 ·exact .inl rfl
 ·refine .inr ⟨b,off,rfl,hp,fun j hj=>?_⟩
  exact (World.cell?_of_block (w:=w) (hk b (World.block_lt_of_cell? w _ (hc j hj)) hp)).trans (hc j hj)
theorem BytesP.below {P:Nat→Prop} {w w':World} {A:Option Addr} {xs:List UInt8} (h:BytesP P w A xs) (hb:Below w.heap.size w w'):BytesP P w' A xs:=h.blocks fun i hi _=>hb.block i hi
theorem BytesP.keep {P:Nat→Prop} {w w':World} {b:Nat} {A:Option Addr} {xs:List UInt8} (h:BytesP P w A xs) (hb:Keep b w w') (hP:¬P b):BytesP P w' A xs:=h.blocks fun i hi hp=>hb.block i hi fun e=>hP (e ▸ hp)
theorem BytesP.drewN {P:Nat→Prop} {w:World} {A:Option Addr} {xs:List UInt8} (h:BytesP P w A xs) (n:Nat):BytesP P (w.drewN n) A xs:=h.blocks fun _ _ _=>rfl
theorem get_any (b:Nat) (H:Nat→Bool) (c:Int) (D:Nat→UInt8) (n:Int) (w:World) (hI:ImgF w b H c D) (hD:∀ i,i<65536→H i=false→D i=0) :
  Calls Tryz.prog 35 #[.pointer (some ⟨b,0,none⟩),.int .i64 n] w fun e w'=>
   e=.returned (.tuple #[.int .u8 (if addrB n then ((D n.toNat).toNat:Int) else 0),.bool (addrB n&&H n.toNat)])∧w=w':=by
 have I:=Lib.hid hI
 clear hI
 obtain ⟨r,hr⟩:∃ r,(addrB n&&H n.toNat)=r:=⟨_,rfl⟩
 have hc:=fun w h=>has_any b H c D n w h
 rw [hr] at hc ⊢
 cases r
 ·have hv:(if addrB n then ((D n.toNat).toNat:Int) else 0)=0:=by
   cases ha:addrB n
   ·rfl
   ·rw [ha,Bool.true_and] at hr
    unfold addrB at ha
    rw [Bool.and_eq_true,decide_eq_true_eq,decide_eq_true_eq] at ha
    simp [hD n.toNat (by omega) hr]
  rw [hv]
  clear hr hv hD
  go_enter Tryz.func35,Tryz.ntmps35
  go_wp2_with fail
  refine (hc _ I.out).mono ?_
  rintro e w1 ⟨rfl,rfl⟩
  go_wp2
  go_ret2
  exact ⟨rfl,rfl⟩
 ·rw [Bool.and_eq_true] at hr
  obtain ⟨ha,hH⟩:=hr
  have hv:(if addrB n then ((D n.toNat).toNat:Int) else 0)=((D n.toNat).toNat:Int):=by rw [if_pos ha]
  rw [hv]
  unfold addrB at ha
  rw [Bool.and_eq_true,decide_eq_true_eq,decide_eq_true_eq] at ha
  obtain ⟨h0,h1⟩:=ha
  obtain ⟨k,rfl⟩:∃ k:Nat,n=k:=⟨n.toNat,by omega⟩
  have g:=I.out.cellD (i:=k) (by omega)
  have hk:((k:Int)).toNat=k:=by omega
  rw [hk]
  clear hv hD hH hk
  go_enter Tryz.func35,Tryz.ntmps35
  go_wp2_with fail
  refine (hc _ I.out).mono ?_
  rintro e w1 ⟨rfl,rfl⟩
  go_wp2
  go_ret2
  exact ⟨rfl,rfl⟩
def putD (D:Nat→UInt8) (k:Nat) (xs:List UInt8) (i:Nat):UInt8:=if k≤i∧i<k+xs.length then xs.getD (i - k) 0 else D i
def putH (H:Nat→Bool) (k n:Nat) (i:Nat):Bool:=H i||(decide (k≤i)&&decide (i<k+n))
theorem info_u8:(Tryz.prog.info? 5).map (fun i=>(i.zero,i.size,i.bytes))=some (some (.int .u8 0),1,1):=by kernel_rfl
theorem size_u8:(Tryz.prog.info? 5).map (·.size)=some 1:=by kernel_rfl
theorem copy_img {w:World} {b:Nat} {H:Nat→Bool} {c:Int} {D:Nat→UInt8} (hI:ImgF w b H c D) {P:Nat→Prop} {A:Option Addr} {xs:List UInt8} (hx:BytesP P w A xs) (k cap:Nat) (hk:k+xs.length≤65536) (ty:TypeId) :
  ∃ w',(Builtin.copy_ #[38,38] ty #[.slice (some ⟨b,65537+k,none⟩) (65536 - k) (65536 - k),.slice A xs.length cap]).run Tryz.prog w=.ok (goInt xs.length) w'∧ImgF w' b H c (putD D k xs)∧Keep b w w':=by
 have hm:xs.length=Nat.min xs.length (65536 - k):=(Nat.min_eq_left (by omega)).symm
 by_cases h0:xs=[]
 ·subst h0
  refine ⟨w,run_copy_none w _ _ _ 5 _ _ _ _ _ _ Tryz.underlying38 size_u8 (by simp),hI.congr (fun _ _=>rfl) fun i _=>?_,Keep.refl _ _⟩
  unfold putD;rw [if_neg (fun h=>by have h2:=h.2;simp only [List.length_nil] at h2;omega)]
 ·rcases hx with rfl | ⟨g,off,rfl,_,hc⟩
  ·exact absurd rfl h0
  ·obtain ⟨cur,hg,hsz,hcur⟩:=hI
   have hlen:(xs.map fun u=>Value.int .u8 (u.toNat:Int)).length=xs.length:=List.length_map _
   have hrun:=run_copy_row (P:=Tryz.prog) w 38 38 ty 5 b (65537+k) (65536 - k) (65536 - k) ⟨g,off,none⟩ xs.length cap cur 102 (xs.map fun u=>.int .u8 (u.toNat:Int))
    Tryz.underlying38 size_u8 hg (by rw [hlen];exact hm) (fun j v hj=>by
     rw [List.getElem?_map] at hj
     by_cases hjl:j<xs.length
     ·rw [List.getElem?_eq_getElem hjl] at hj
      simp only [Option.map_some,Option.some.injEq] at hj
      subst hj
      have:=hc j hjl
      unfold Addr.add
      by_cases e:j=0
      ·subst e;simpa using this
      ·rw [if_neg e];exact this
     ·rw [List.getElem?_eq_none (by omega)] at hj;cases hj) (by rw [hlen,hsz];omega) (fun v hv=>by
     obtain ⟨u,_,rfl⟩:=List.mem_map.1 hv;rfl)
   rw [hlen] at hrun
   refine ⟨_,hrun,?_,⟨rfl,rfl,rfl,by simp,fun i hi hn=>setRow_other w b i _ (by omega)⟩⟩
   refine ⟨_,setRow_heap w b cur _ _ _ hg,?_,fun i hi=>?_⟩
   ·simp only [List.size_toArray,List.length_append,List.length_take,List.length_drop,List.length_map,Array.length_toList,hsz]
    omega
   ·rw [List.getElem?_toArray,List.append_assoc]
    have hl1:(cur.toList.take (65537+k)).length=65537+k:=by rw [List.length_take,Array.length_toList,hsz];omega
    by_cases h1:i<65537+k
    ·rw [List.getElem?_append_left (by omega),List.getElem?_take,if_pos h1,Array.getElem?_toList,hcur i hi]
     unfold imgV putD
     by_cases h2:i<65536
     ·rw [if_pos h2,if_pos h2]
     ·rw [if_neg h2,if_neg h2]
      by_cases h3:i=65536
      ·rw [if_pos h3,if_pos h3]
      ·rw [if_neg h3,if_neg h3,if_neg (by omega)]
    ·rw [List.getElem?_append_right (by omega),hl1]
     by_cases h2:i<65537+k+xs.length
     ·rw [List.getElem?_append_left (by rw [hlen];omega),List.getElem?_map,List.getElem?_eq_getElem (by omega)]
      unfold imgV putD
      rw [if_neg (by omega),if_neg (by omega),if_pos (by omega)]
      simp only [Option.map_some,List.getD_eq_getElem?_getD]
      rw [show i - 65537 - k=i - (65537+k) by omega,List.getElem?_eq_getElem (by omega)]
      rfl
     ·rw [List.getElem?_append_right (by rw [hlen];omega),hlen,List.getElem?_drop,show 65537+k+xs.length+(i - (65537+k) - xs.length)=i by omega,Array.getElem?_toList,hcur i hi]
      unfold imgV putD
      rw [if_neg (by omega),if_neg (by omega),if_neg (by omega),if_neg (by omega),if_neg (by omega)]
def putE (H:Nat→Bool) (n:Int) (m:Nat):Int:=
 if addrB n=false then 2 else if (65536 - n<(m:Int)) then 10 else if anyB (fun j=>H (n.toNat+j)) m then 4 else 0
theorem put_bad (b:Nat) (H:Nat→Bool) (c:Int) (D:Nat→UInt8) (n:Int) (A:Option Addr) (xs:List UInt8) (cap:Nat) (w:World) (hl:xs.length≤maxLen) (hI:ImgF w b H c D) (he:putE H n xs.length≠0) :
  Calls Tryz.prog 33 #[.pointer (some ⟨b,0,none⟩),.int .i64 n,.slice A xs.length cap] w fun e w'=>e=.returned (.int .i64 (putE H n xs.length))∧w=w':=by
 unfold maxLen at hl
 have I:=Lib.hid hI
 clear hI
 have hc:=isAddress_any n
 cases ha:addrB n
 ·have e1:putE H n xs.length=2:=by unfold putE;rw [if_pos ha]
  rw [e1]
  rw [ha] at hc
  clear he ha e1
  go_enter Tryz.func33,Tryz.ntmps33
  go_wp2_with fail
  refine (hc _).mono ?_
  rintro e w1 ⟨rfl,rfl⟩
  go_wp2
  go_ret
  exact ⟨rfl,rfl⟩
 ·rw [ha] at hc
  unfold putE at he ⊢
  rw [ha] at he ⊢
  unfold addrB at ha
  rw [Bool.and_eq_true,decide_eq_true_eq,decide_eq_true_eq] at ha
  obtain ⟨h0,h1⟩:=ha
  by_cases hw:65536 - n<(xs.length:Int)
  ·rw [if_neg (by simp),if_pos hw]
   clear he
   go_enter Tryz.func33,Tryz.ntmps33
   go_wp2_with fail
   refine (hc _).mono ?_
   rintro e w1 ⟨rfl,rfl⟩
   go_wp2
   go_ret
   exact ⟨rfl,rfl⟩
  ·rw [if_neg (by simp),if_neg hw] at he ⊢
   cases hy:anyB (fun j=>H (n.toNat+j)) xs.length
   ·rw [hy] at he;exact absurd rfl he
   ·obtain ⟨k,rfl⟩:∃ k:Nat,n=k:=⟨n.toNat,by omega⟩
    rw [show ((k:Int)).toNat=k by omega] at hy
    have hh:=hasAny_any b H c D k xs.length (by omega) (by omega) w I.out
    rw [hy] at hh
    clear he hy
    have hw':decide (65536 - (k:Int)<(xs.length:Int))=false:=decide_eq_false hw
    clear hw
    go_enter Tryz.func33,Tryz.ntmps33
    go_wp2_with fail
    refine (hc _).mono ?_
    rintro e w1 ⟨rfl,rfl⟩
    go_wp2_with fail
    refine hh.mono ?_
    rintro e w1 ⟨rfl,rfl⟩
    clear hw' hh h0 h1 hc
    go_wp2
    go_ret
    exact ⟨rfl,rfl⟩
theorem put_good (b:Nat) (H:Nat→Bool) (c:Int) (hc0:0≤c) (hc1:c≤4611686018427387904) (D:Nat→UInt8) (n:Int) (P:Nat→Prop) (hP:¬P b) (A:Option Addr) (xs:List UInt8) (cap:Nat) (w:World) (hl:xs.length≤maxLen) (hI:ImgF w b H c D) (hx:BytesP P w A xs)
  (he:putE H n xs.length=0) :
  Calls Tryz.prog 33 #[.pointer (some ⟨b,0,none⟩),.int .i64 n,.slice A xs.length cap] w fun e w'=>
   e=.returned (.int .i64 0)∧ImgF w' b (putH H n.toNat xs.length) (c+xs.length) (putD D n.toNat xs)∧Keep b w w':=by
 unfold maxLen at hl
 have I:=Lib.hid hI
 have X:=Lib.hid hx
 clear hI hx
 have hc:=isAddress_any n
 unfold putE at he
 cases ha:addrB n
 ·rw [ha] at he;simp at he
 ·rw [ha] at hc he
  unfold addrB at ha
  rw [Bool.and_eq_true,decide_eq_true_eq,decide_eq_true_eq] at ha
  obtain ⟨h0,h1⟩:=ha
  obtain ⟨k,rfl⟩:∃ k:Nat,n=k:=⟨n.toNat,by omega⟩
  rw [show ((k:Int)).toNat=k by omega] at he ⊢
  by_cases hw:65536 - (k:Int)<(xs.length:Int)
  ·rw [if_neg (by simp),if_pos hw] at he;simp at he
  ·rw [if_neg (by simp),if_neg hw] at he
   have hy:anyB (fun j=>H (k+j)) xs.length=false:=by
    cases hy:anyB (fun j=>H (k+j)) xs.length
    ·rfl
    ·rw [hy] at he;simp at he
   have hh:=hasAny_any b H c D k xs.length (by omega) (by omega) w I.out
   rw [hy] at hh
   clear he hy
   have hw':decide (65536 - (k:Int)<(xs.length:Int))=false:=decide_eq_false hw
   have hsl:=fun w=>slice_l 100 5 Tryz.underlying100 (fun w=>Tryz.sizeOf5 w) b 65537 k (by omega) w
   have hkx:k+xs.length≤65536:=by omega
   clear hw
   go_enter Tryz.func33,Tryz.ntmps33
   go_wp2_with fail
   refine (hc _).mono ?_
   rintro e w1 ⟨rfl,rfl⟩
   go_wp2_with fail
   refine hh.mono ?_
   rintro e w1 ⟨rfl,rfl⟩
   obtain ⟨w1,hcp,h1,hk1⟩:=copy_img I.out X.out k cap hkx 3
   have I1:=Lib.hid h1
   have K1:=Lib.hid hk1
   clear h1 hk1
   go_wp2_with fail
   refine (add_any b H c hc0 hc1 _ k xs.length (by omega) hkx _ I1.out).mono ?_
   rintro e w2 ⟨rfl,h2,hk2⟩
   have N:=Lib.hid h2
   have K2:=Lib.hid (K1.out.trans hk2)
   clear h2 hk2
   go_wp2
   go_ret
   exact ⟨rfl,N.out,K2.out⟩
end Go.Proofs.YtajlleeonddinaaGreatDoor.Im
namespace Go.Proofs.YtajlleeonddinaaGreatDoor.Im
open Go.RowKit
abbrev Cel:=Nat×UInt8
def hasW (W:List Cel) (i:Nat):Bool:=W.any (fun c=>c.1 == i)
def byteW (W:List Cel) (i:Nat):UInt8:=((W.find? (fun c=>c.1 == i)).map (·.2)).getD 0
def SortedW (W:List Cel):Prop:=W.Pairwise (fun a b=>a.1<b.1)∧∀ c∈W,c.1<65536
def mkW (a:Nat):List UInt8→List Cel
 | []=>[]
 | x :: t=>(a,x) :: mkW (a+1) t
theorem mkW_append (a:Nat) (xs ys:List UInt8):mkW a (xs++ys)=mkW a xs++mkW (a+xs.length) ys:=by
 induction xs generalizing a with
 | nil=>rfl
 | cons x t ih=>
  simp only [List.cons_append,mkW,ih,List.length_cons]
  rw [show a+1+t.length=a+(t.length+1) by omega]
theorem mkW_length (a:Nat) (xs:List UInt8):(mkW a xs).length=xs.length:=by
 induction xs generalizing a with
 | nil=>rfl
 | cons x t ih=>simp [mkW,ih]
theorem mkW_mem {a:Nat} {xs:List UInt8} {c:Cel}:c∈mkW a xs↔a≤c.1∧c.1<a+xs.length∧xs.getD (c.1 - a) 0=c.2:=by
 induction xs generalizing a with
 | nil=>simp [mkW];omega
 | cons x t ih=>
  simp only [mkW,List.mem_cons,ih,List.length_cons]
  constructor
  ·rintro (rfl | ⟨h1,h2,h3⟩)
   ·simp
   ·refine ⟨by omega,by omega,?_⟩
    rw [show c.1 - a=(c.1 - (a+1))+1 by omega,List.getD_cons_succ]
    exact h3
  ·rintro ⟨h1,h2,h3⟩
   by_cases e:c.1=a
   ·left
    rw [e,Nat.sub_self,List.getD_cons_zero] at h3
    exact Prod.ext e h3.symm
   ·right
    refine ⟨by omega,by omega,?_⟩
    rw [show c.1 - a=(c.1 - (a+1))+1 by omega,List.getD_cons_succ] at h3
    exact h3
theorem mkW_sorted (a:Nat) (xs:List UInt8):(mkW a xs).Pairwise (fun a b=>a.1<b.1):=by
 induction xs generalizing a with
 | nil=>simp [mkW]
 | cons x t ih=>
  simp only [mkW,List.pairwise_cons]
  exact ⟨fun c hc=>by have:=(mkW_mem.1 hc).1;omega,ih (a+1)⟩
theorem hasW_iff {W:List Cel} {i:Nat}:hasW W i=true↔∃ c∈W,c.1=i:=by
 unfold hasW;rw [List.any_eq_true];simp
theorem hasW_false {W:List Cel} {i:Nat}:hasW W i=false↔∀ c∈W,c.1≠i:=by
 unfold hasW;rw [List.any_eq_false];simp
theorem hasW_mk (a:Nat) (xs:List UInt8) (i:Nat):hasW (mkW a xs) i=(decide (a≤i)&&decide (i<a+xs.length)):=by
 by_cases h:a≤i∧i<a+xs.length
 ·rw [decide_eq_true h.1,decide_eq_true h.2]
  exact hasW_iff.2 ⟨(i,xs.getD (i - a) 0),mkW_mem.2 ⟨h.1,h.2,rfl⟩,rfl⟩
 ·have:hasW (mkW a xs) i=false:=hasW_false.2 fun c hc e=>h (by have:=mkW_mem.1 hc;omega)
  rw [this]
  symm
  rw [Bool.and_eq_false_iff]
  by_cases h1:a≤i
  ·right;exact decide_eq_false (fun h2=>h ⟨h1,h2⟩)
  ·left;exact decide_eq_false h1
theorem byteW_none {W:List Cel} {i:Nat} (h:hasW W i=false):byteW W i=0:=by
 have:W.find? (fun c=>c.1 == i)=none:=List.find?_eq_none.2 fun c hc=>by have:=hasW_false.1 h c hc;simpa using this
 unfold byteW;rw [this];rfl
theorem byteW_mem {W:List Cel} (hs:W.Pairwise (fun a b=>a.1<b.1)) {c:Cel} (hc:c∈W):byteW W c.1=c.2:=by
 induction W with
 | nil=>cases hc
 | cons d t ih=>
  rw [List.pairwise_cons] at hs
  unfold byteW
  by_cases e:d.1=c.1
  ·rcases List.mem_cons.1 hc with rfl | h
   ·simp
   ·have:=hs.1 c h;omega
  ·rcases List.mem_cons.1 hc with rfl | h
   ·exact absurd rfl e
   ·have:=ih hs.2 h
    unfold byteW at this
    simp [e,this]
theorem sorted_length_aux:∀ (W:List Cel) (lo N:Nat),W.Pairwise (fun a b=>a.1<b.1)→lo≤N→(∀ c∈W,lo≤c.1∧c.1<N)→W.length+lo≤N
 | [],lo,N,_,h,_=>by simpa using h
 | c :: t,lo,N,hs,h,hc=>by
  rw [List.pairwise_cons] at hs
  have h0:=hc c List.mem_cons_self
  have:=sorted_length_aux t (c.1+1) N hs.2 (by omega) fun d hd=>⟨hs.1 d hd,(hc d (List.mem_cons_of_mem _ hd)).2⟩
  simp only [List.length_cons]
  omega
theorem sorted_length {W:List Cel} (h:SortedW W):W.length≤65536:=by
 have:=sorted_length_aux W 0 65536 h.1 (by omega) fun c hc=>⟨Nat.zero_le _,h.2 c hc⟩
 omega
def findW (W:List Cel) (a:Int):Nat:=(W.takeWhile (fun c=>decide ((c.1:Int)<a))).length
theorem findW_le (W:List Cel) (a:Int):findW W a≤W.length:=by
 have h:=congrArg List.length (List.takeWhile_append_dropWhile (p:=fun c:Cel=>decide ((c.1:Int)<a)) (l:=W))
 rw [List.length_append] at h
 unfold findW;omega
theorem take_findW (W:List Cel) (a:Int):W.take (findW W a)=W.takeWhile (fun c=>decide ((c.1:Int)<a)):=by
 have h:=List.takeWhile_append_dropWhile (p:=fun c:Cel=>decide ((c.1:Int)<a)) (l:=W)
 unfold findW
 generalize W.takeWhile (fun c:Cel=>decide ((c.1:Int)<a))=X at h ⊢
 rw [← h,List.take_left' rfl]
theorem drop_findW (W:List Cel) (a:Int):W.drop (findW W a)=W.dropWhile (fun c=>decide ((c.1:Int)<a)):=by
 have h:=List.takeWhile_append_dropWhile (p:=fun c:Cel=>decide ((c.1:Int)<a)) (l:=W)
 unfold findW
 generalize W.takeWhile (fun c:Cel=>decide ((c.1:Int)<a))=X at h ⊢
 generalize W.dropWhile (fun c:Cel=>decide ((c.1:Int)<a))=Y at h ⊢
 rw [← h,List.drop_left' rfl]
theorem findW_of (W:List Cel) (a:Int) (i:Nat) (hi:i≤W.length) (h1:∀ j (h:j<W.length),j<i→(W[j].1:Int)<a) (h2:∀ h:i<W.length,¬(W[i].1:Int)<a):findW W a=i:=by
 unfold findW
 induction W generalizing i with
 | nil=>simp at hi;subst hi;rfl
 | cons c t ih=>
  cases i with
  | zero=>
   have:=h2 (by simp)
   simp only [List.getElem_cons_zero] at this
   rw [List.takeWhile_cons,if_neg (by simpa using this)]
   rfl
  | succ i=>
   have h0:=h1 0 (by simp) (by omega)
   simp only [List.getElem_cons_zero] at h0
   rw [List.takeWhile_cons,if_pos (by simpa using h0),List.length_cons,ih i (by simpa using hi) (fun j h hj=>?_) (fun h=>?_)]
   ·exact h1 (j+1) (by simpa using h) (by omega)
   ·exact h2 (by simpa using h)
theorem mem_take_findW {W:List Cel} {a:Int} {c:Cel} (h:c∈W.take (findW W a)):(c.1:Int)<a:=by
 rw [take_findW] at h
 have h2:=List.all_eq_true.1 (List.all_takeWhile (p:=fun c:Cel=>decide ((c.1:Int)<a)) (l:=W)) c h
 simpa using h2
theorem mem_drop_findW {W:List Cel} (hs:W.Pairwise (fun a b=>a.1<b.1)) {a:Int} {c:Cel} (h:c∈W.drop (findW W a)):a≤(c.1:Int):=by
 rw [drop_findW] at h
 induction W with
 | nil=>simp at h
 | cons d t ih=>
  rw [List.pairwise_cons] at hs
  by_cases hd:(d.1:Int)<a
  ·rw [List.dropWhile_cons,if_pos (by simpa using hd)] at h
   exact ih hs.2 h
  ·rw [List.dropWhile_cons,if_neg (by simpa using hd)] at h
   rcases List.mem_cons.1 h with rfl | h1
   ·omega
   ·have:=hs.1 c h1;omega
def insW (W:List Cel) (a:Nat) (xs:List UInt8):List Cel:=W.take (findW W a)++mkW a xs++W.drop (findW W a)
theorem mem_split (W:List Cel) (n:Nat) (c:Cel):c∈W↔c∈W.take n∨c∈W.drop n:=by
 conv=>lhs;rw [← List.take_append_drop n W]
 exact List.mem_append
theorem mem_insW {W:List Cel} {a:Nat} {xs:List UInt8} {c:Cel}:c∈insW W a xs↔c∈W∨c∈mkW a xs:=by
 unfold insW
 rw [List.mem_append,List.mem_append,mem_split W (findW W a) c]
 constructor
 ·rintro ((h | h) | h) <;> simp [h]
 ·rintro ((h | h) | h) <;> simp [h]
theorem insW_length (W:List Cel) (a:Nat) (xs:List UInt8):(insW W a xs).length=W.length+xs.length:=by
 have:=findW_le W a
 unfold insW
 rw [List.length_append,List.length_append,mkW_length,List.length_take,List.length_drop]
 omega
theorem insW_nil (W:List Cel) (a:Nat):insW W a []=W:=by unfold insW;simp [mkW]
theorem hasW_ins (W:List Cel) (a:Nat) (xs:List UInt8) (i:Nat):hasW (insW W a xs) i=putH (hasW W) a xs.length i:=by
 unfold putH
 rw [← hasW_mk a xs i]
 apply Bool.eq_iff_iff.2
 rw [Bool.or_eq_true,hasW_iff,hasW_iff,hasW_iff]
 constructor
 ·rintro ⟨c,hc,e⟩
  rcases mem_insW.1 hc with h | h
  ·exact .inl ⟨c,h,e⟩
  ·exact .inr ⟨c,h,e⟩
 ·rintro (⟨c,hc,e⟩ | ⟨c,hc,e⟩)
  ·exact ⟨c,mem_insW.2 (.inl hc),e⟩
  ·exact ⟨c,mem_insW.2 (.inr hc),e⟩
theorem anyB_hasW {W:List Cel} {a n:Nat}:anyB (fun j=>hasW W (a+j)) n=true↔∃ c∈W,a≤c.1∧c.1<a+n:=by
 rw [anyB_iff]
 constructor
 ·rintro ⟨k,hk,h⟩
  obtain ⟨c,hc,e⟩:=hasW_iff.1 h
  exact ⟨c,hc,by omega,by omega⟩
 ·rintro ⟨c,hc,h1,h2⟩
  exact ⟨c.1 - a,by omega,hasW_iff.2 ⟨c,hc,by omega⟩⟩
theorem insW_sorted {W:List Cel} (hs:SortedW W) {a:Nat} {xs:List UInt8} (ha:a+xs.length≤65536) (h:anyB (fun j=>hasW W (a+j)) xs.length=false):SortedW (insW W a xs):=by
 have hd:∀ c∈W,¬(a≤c.1∧c.1<a+xs.length):=fun c hc hh=>by
  have:=anyB_hasW.2 ⟨c,hc,hh.1,hh.2⟩
  rw [h] at this;cases this
 refine ⟨?_,fun c hc=>?_⟩
 ·unfold insW
  rw [List.pairwise_append,List.pairwise_append]
  refine ⟨⟨hs.1.sublist (List.take_sublist _ _),mkW_sorted a xs,fun c hc d hd'=>?_⟩,hs.1.sublist (List.drop_sublist _ _),fun c hc d hd'=>?_⟩
  ·have h1:=mem_take_findW hc
   have h2:=(mkW_mem.1 hd').1
   omega
  ·have h2:=mem_drop_findW hs.1 hd'
   have h4:=hd d ((mem_split W _ d).2 (.inr hd'))
   rcases List.mem_append.1 hc with h1 | h1
   ·have:=mem_take_findW h1;omega
   ·have:=mkW_mem.1 h1;omega
 ·rcases mem_insW.1 hc with h1 | h1
  ·exact hs.2 c h1
  ·have:=mkW_mem.1 h1;omega
theorem byteW_ins {W:List Cel} (hs:SortedW W) {a:Nat} {xs:List UInt8} (ha:a+xs.length≤65536) (h:anyB (fun j=>hasW W (a+j)) xs.length=false) (i:Nat):byteW (insW W a xs) i=putD (byteW W) a xs i:=by
 have hS:=insW_sorted hs ha h
 unfold putD
 by_cases hi:a≤i∧i<a+xs.length
 ·rw [if_pos hi]
  exact byteW_mem hS.1 (c:=(i,xs.getD (i - a) 0)) (mem_insW.2 (.inr (mkW_mem.2 ⟨hi.1,hi.2,rfl⟩)))
 ·rw [if_neg hi]
  by_cases hw:hasW W i=true
  ·obtain ⟨c,hc,rfl⟩:=hasW_iff.1 hw
   rw [byteW_mem hs.1 hc]
   exact byteW_mem hS.1 (mem_insW.2 (.inl hc))
  ·rw [Bool.not_eq_true] at hw
   rw [byteW_none hw]
   apply byteW_none
   rw [hasW_ins]
   unfold putH
   rw [hw,Bool.false_or,Bool.and_eq_false_iff]
   by_cases h1:a≤i
   ·right;exact decide_eq_false (fun h2=>hi ⟨h1,h2⟩)
   ·left;exact decide_eq_false h1
def codeW (W:List Cel) (n:Int) (xs:List UInt8):Int:=putE (hasW W) n xs.length
def putW (W:List Cel) (n:Int) (xs:List UInt8):List Cel:=if codeW W n xs=0 then insW W n.toNat xs else W
theorem code_zero {W:List Cel} {n:Int} {xs:List UInt8} (h:codeW W n xs=0):0≤n∧n<65536∧n.toNat+xs.length≤65536∧anyB (fun j=>hasW W (n.toNat+j)) xs.length=false:=by
 unfold codeW putE at h
 cases ha:addrB n
 ·rw [ha] at h;simp at h
 ·rw [ha] at h
  unfold addrB at ha
  rw [Bool.and_eq_true,decide_eq_true_eq,decide_eq_true_eq] at ha
  by_cases hw:65536 - n<(xs.length:Int)
  ·rw [if_neg (by simp),if_pos hw] at h;simp at h
  ·rw [if_neg (by simp),if_neg hw] at h
   cases hy:anyB (fun j=>hasW W (n.toNat+j)) xs.length
   ·exact ⟨ha.1,ha.2,by omega,rfl⟩
   ·rw [hy] at h;simp at h
theorem over_iff {W:List Cel} (hs:SortedW W) {a:Nat} {xs:List UInt8} (hx:xs≠[]) :
  (∃ h:findW W a<W.length,W[findW W a].1<a+xs.length)↔anyB (fun j=>hasW W (a+j)) xs.length=true:=by
 rw [anyB_hasW]
 constructor
 ·rintro ⟨h,h1⟩
  have hm:W[findW W a]∈W.drop (findW W a):=by
   rw [List.drop_eq_getElem_cons h];exact List.mem_cons_self
  have:=mem_drop_findW hs.1 hm
  exact ⟨_,List.getElem_mem h,by omega,h1⟩
 ·rintro ⟨c,hc,h1,h2⟩
  rcases (mem_split W (findW W a) c).1 hc with h3 | h3
  ·have:=mem_take_findW h3;omega
  ·have hlt:findW W a<W.length:=by
    rcases Nat.lt_or_ge (findW W a) W.length with h4 | h4
    ·exact h4
    ·rw [List.drop_eq_nil_of_le h4] at h3;cases h3
   refine ⟨hlt,?_⟩
   rw [List.drop_eq_getElem_cons hlt] at h3
   rcases List.mem_cons.1 h3 with e | h5
   ·rw [← e];exact h2
   ·have hp:=hs.1.sublist (List.drop_sublist (findW W a) W)
    rw [List.drop_eq_getElem_cons hlt,List.pairwise_cons] at hp
    have:=hp.1 c h5
    omega
end Go.Proofs.YtajlleeonddinaaGreatDoor.Im
