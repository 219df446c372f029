/-
  EnD, WrF, WrY.
-/
import Derived.Test.YtoilebmbljpieaaGreatDoorGAP
import Derived.Test.YtoilebmbljpieaaGreatDoorGBI
import Derived.Test.YtoilebmbljpieaaGreatDoorGBO
import Derived.Test.YtoilebmbljpieaaGreatDoorGAQ
import Derived.Test.YtoilebmbljpieaaGreatDoorGAY
set_option linter.all false
set_option maxRecDepth 100000
set_option maxHeartbeats 4000000
namespace Go.Proofs.YtoilebmbljpieaaGreatDoor
open Go.RowKit Go.Shelf
attribute [local go_sem] Oper.semAt_some
def opsF (A:Option Addr) (L:List Tr):Fr.F:=⟨fun w=>OpsP w A L,fun h hb=>h.below hb⟩
def encI (s:ByteArray) (I:List Tr):Option Str:=(findK (sT s) (canL (opc s) I)).map fun k=>encB k.1 k.2.1 k.2.2.2.2.1 (valV k.2.2.1 k.2.2.2.1 k.2.2.2.2.1 s (canL (opc s) I)).1 (valV k.2.2.1 k.2.2.2.1 k.2.2.2.2.1 s (canL (opc s) I)).2
def codeE (s:ByteArray) (I:List Tr):Int:=if (encI s I).isSome then 0 else codeF (sT s) I (canL (opc s) I)
def RetEnc (w:World) (s:ByteArray) (I:List Tr) (e:Ending) (w':World):Prop:=∃ A cap,e=.returned (.tuple #[.slice A ((encI s I).getD []).length cap,.int .i64 (codeE s I)])∧TOwnB w' w.heap.size (.slice A ((encI s I).getD []).length cap) ((encI s I).getD [])∧Below w.heap.size w w'
theorem has_fill2 {m ex:Str} {L:List Tr} {s:ByteArray} {C:List Tr} (h:hasV m L ex s C=true):fillV ex L (valV m L ex s C).1 (valV m L ex s C).2=some C:=by
 have e:valV m L ex s C=(numV (varsV ex).1.1 C,numV (varsV ex).2.1 C):=by unfold valV;rw [if_pos h]
 rw [e]
 unfold hasV at h
 cases hf:fillV ex L (numV (varsV ex).1.1 C) (numV (varsV ex).2.1 C) with
 | none=>rw [hf] at h;cases h
 | some L2=>
  rw [hf] at h
  simp only [Bool.and_eq_true,decide_eq_true_eq] at h
  simp only [hf,h.2]
theorem enc_found {s:ByteArray} {I:List Tr} {g:Int} {n:Nat} {x:En} (h:FstR s I (canL (opc s) I) g n x) :
  encI s I=some (encB g (n:Int) x.2.2.1 (valV x.1 x.2.1 x.2.2.1 s (canL (opc s) I)).1 (valV x.1 x.2.1 x.2.2.1 s (canL (opc s) I)).2):=by
 unfold encI
 rw [find_link h]
 rfl
theorem enc_none {s:ByteArray} {I:List Tr} (h:¬RLeg s I (canL (opc s) I)):encI s I=none:=by
 unfold encI
 rw [none_link h]
 rfl
theorem rencode_any (s:ByteArray) (hs:s.size≤1000) (Ai:Option Addr) (capi li:Nat) (I:List Tr) (hli:I.length=li) (hLi:li≤900) (w:World) (HF:OpsP w Ai I) :
  Calls Tryz.prog 30 #[.agg #[.string s,.slice Ai li capi]] w (RetEnc w s I):=by
 obtain ⟨n,hn⟩:∃ z,w.heap.size=z:=⟨_,rfl⟩
 have HN:=Lib.hid hn
 obtain ⟨b0,w0,hb0,hw0,S0,y0,z0⟩:=Fr.box (Fr.add (Fr.start w n hn) (opsF Ai I) HF) #[.string s,.slice Ai li capi] 26
 rw [hn] at hb0
 subst hb0
 have fi:=rfind3_any s hs Ai capi li I hli hLi w0 S0.out.2.1
 obtain ⟨k0,k1⟩:=Fr.cells2 S0.out.1
 clear HF y0
 go_enter Tryz.func30,Tryz.ntmps30
 go_wp2_with fail
 refine fi.mono ?_
 rintro e w1 ⟨g,o,m,A,l,cap,ex,al,c,rfl,hb,hcase⟩
 have S1:=Fr.up S0 hb
 simp only [enV]
 clear hb fi k0 k1 S0 hw0 z0
 go_upto_region 2 with fail
 obtain ⟨b,w2,hbs,hw2,S2,y2,z2⟩:=Fr.box S1 #[.int .i64 g,.int .u8 o,.string (sB m),.slice A l cap,.string (sB ex),.bool al] 41
 rw [hw2,hbs]
 clear hw2 S1
 rcases hcase with ⟨rfl,i,L,rfl,hl,hP,hF⟩ | ⟨hc0,hCR,hNR⟩
 ·have S3:=Fr.add S2 (opsF A L) (hP.below y2)
  have EI:=enc_found hF
  obtain ⟨-,-,-,hi,hr,rfl,hfit,-⟩:=hF
  have ok:OkS (g,(i:Int),m,L,ex,false):=InTab.ok ⟨i,hi,rfl,hr⟩
  have h1:=ok.ex
  have h2:=ok.len
  have h3:=ok.places
  simp only at h1 h2 h3 hfit EI
  obtain ⟨C,hC⟩:∃ z,canL (opc s) I=z:=⟨_,rfl⟩
  have vl:=fun w' p1 p2=>rvalues_any g (i:Int) m A cap l L hl (by omega) ex (by omega) false s Ai capi li I hli hLi w' p1 p2
  rw [← val_same h3] at vl
  have hfl:=has_fill2 (m:=m) (s:=s) (C:=canL (opc s) I) (by rw [has_fits h3];exact hfit)
  obtain ⟨d,hd⟩:∃ z,(valV m L ex s (canL (opc s) I)).1=z:=⟨_,rfl⟩
  obtain ⟨q,hq⟩:∃ z,(valV m L ex s (canL (opc s) I)).2=z:=⟨_,rfl⟩
  rw [hd,hq] at hfl EI
  unfold RetVals at vl
  rw [hd,hq] at vl
  obtain ⟨op,hop⟩:∃ op:UInt8,(op.toNat:Int)=(i:Int):=⟨UInt8.ofNat i,by rw [UInt8.toNat_ofNat_of_lt' (show i<256 from hi)]⟩
  rw [← hop] at vl EI S3 ⊢
  have by_:=fun w' p=>rbytes_any g op m A cap l L hl (by omega) ex (by omega) false d q w' p
  rw [fill_same h3,hfl,Option.map_some] at by_
  have EI:=Lib.hid EI
  have CE:Hid (codeE s I=0):=by show codeE s I=0;unfold codeE;rw [EI.out];rfl
  unfold enV at vl by_
  unfold RetBy at by_
  simp only at by_
  have BY:=Lib.hid by_
  obtain ⟨e0,e1,e2,e3,e4,e5⟩:=Fr.cells6 S3.out.2.1
  obtain ⟨k0,k1⟩:=Fr.cells2 S3.out.2.2.1
  have v1:=vl w2 S3.out.1 S3.out.2.2.2.1
  clear S2 y2 hP hr ok h1 h2 h3 hfit hC hd hq hfl hop hl hi vl by_
  go_wp2_with fail
  refine v1.mono ?_
  rintro e w3 ⟨rfl,hb⟩
  have S4:=Fr.up S3 hb
  clear hb v1 S3 k0 k1 e0 e1 e2 e3 e4 e5 z2 hbs
  obtain ⟨e0,e1,e2,e3,e4,e5⟩:=Fr.cells6 S4.out.2.1
  go_wp2_with fail
  refine (BY.out w3 S4.out.1).mono ?_
  rintro e w4 ⟨A4,c4,rfl,hO,hb⟩
  have S5:=Fr.up S4 hb
  have hO2:=hO.lift S4.out.2.2.2.2.1.2
  clear hb hO BY S4 e0 e1 e2 e3 e4 e5
  go_wp2
  go_ret2
  refine ⟨A4,c4,?_,?_,by rw [HN.out];exact S5.out.2.2.2.2.1.1⟩
  ·rw [EI.out,CE.out];rfl
  ·rw [EI.out,HN.out];exact hO2
 ·have EI:=Lib.hid (enc_none hNR)
  have hcl:=code_link hCR
  have CE:Hid (codeE s I=c):=by show codeE s I=c;unfold codeE;rw [EI.out];exact hcl
  have e1:(c == 0)=false:=beq_eq_false_iff_ne.2 hc0
  have e2:(c != 0)=true:=bne_iff_ne.2 hc0
  clear hCR hNR hcl y2 z2
  go_wp2
  go_ret2
  refine ⟨none,0,?_,?_,by rw [HN.out];exact S2.out.2.2.2.1.1⟩
  ·rw [EI.out,CE.out];rfl
  ·rw [EI.out];exact townB_nil _ _
end Go.Proofs.YtoilebmbljpieaaGreatDoor
namespace Go.Proofs.YtoilebmbljpieaaGreatDoor
open Go.RowKit Go.Shelf
attribute [local go_sem] Oper.semAt_some
theorem beh_let {g:Int} {i:Nat} {ex:Str} (h:ExP g i ex):(behS g ex).length≤2∧∀ k (hk:k<(behS g ex).length),(behS g ex)[k]=100∨(behS g ex)[k]=101∨(behS g ex)[k]=110∨(behS g ex)[k]=119:=by
 have e:behS g ex=[]∨behS g ex=ex:=by unfold behS;split;exact .inl rfl;exact .inr rfl
 generalize behS g ex=b at e
 rcases e with rfl | rfl
 ·exact ⟨by simp,fun k hk=>by simp at hk⟩
 ·rcases h.lst with rfl | rfl | rfl | rfl | rfl | rfl
  ·exact ⟨by simp,fun k hk=>by simp at hk⟩
  all_goals refine ⟨by simp,fun k hk=>?_⟩
  ·obtain rfl:k=0:=by simp at hk;omega
   exact .inl rfl
  ·obtain rfl:k=0:=by simp at hk;omega
   exact .inr (.inl rfl)
  ·obtain rfl:k=0:=by simp at hk;omega
   exact .inr (.inr (.inl rfl))
  ·obtain rfl:k=0:=by simp at hk;omega
   exact .inr (.inr (.inr rfl))
  ·have:k=0∨k=1:=by simp at hk;omega
   rcases this with rfl | rfl
   ·exact .inl rfl
   ·exact .inr (.inr (.inl rfl))
theorem InTab.lets {k:Ke} (h:InTab k):LetOk k.1 k.2.2.2.2.1:=by
 obtain ⟨n,hn,-,hr⟩:=h
 have hx:=exP_of hn hr
 obtain ⟨h1,h2⟩:=beh_let hx
 exact ⟨hx.pg.2,hx.hi,h1,h2⟩
def RetWv (w:World) (bs:Str) (e:Ending) (w':World):Prop:=∃ A cap,e=.returned (.slice A bs.length cap)∧TOwnB w' w.heap.size (.slice A bs.length cap) bs∧Below w.heap.size w w'
theorem wval_any (k:Ke) (hk:InTab k) (A:Option Addr) (cap l:Nat) (hl:k.2.2.2.1.length=l) (s:ByteArray) (Ai:Option Addr) (capi li:Nat) (I:List Tr) (hli:I.length=li) (hLi:li≤900)
  (hh:hasV k.2.2.1 k.2.2.2.1 k.2.2.2.2.1 s (canL (opc s) I)=true) (w:World) (H:OpsP w A k.2.2.2.1) (HF:OpsP w Ai I) :
  Calls Tryz.prog 47 #[enV k.1 k.2.1 k.2.2.1 (.slice A l cap) k.2.2.2.2.1 k.2.2.2.2.2,.agg #[.string s,.slice Ai li capi]] w
   (RetWv w (encB k.1 k.2.1 k.2.2.2.2.1 (valV k.2.2.1 k.2.2.2.1 k.2.2.2.2.1 s (canL (opc s) I)).1 (valV k.2.2.1 k.2.2.2.1 k.2.2.2.2.1 s (canL (opc s) I)).2)):=by
 have ok:=hk.ok
 have hx:=hk.lets
 obtain ⟨i,hi,hop,-⟩:=hk
 obtain ⟨g,o,m,L,ex,al⟩:=k
 simp only at *
 subst hop
 have h0:=ok.m
 have h1:=ok.ex
 have h2:=ok.len
 have h3:=ok.up
 simp only at h0 h1 h2 h3
 have vl:=fun w' p1 p2=>svalues_any g (i:Int) m (by omega) h3 A cap l L hl (by omega) ex (by omega) al s Ai capi li I hli hLi w' p1 p2
 have hfl:=has_fill2 hh
 obtain ⟨C,hC⟩:∃ z,canL (opc s) I=z:=⟨_,rfl⟩
 rw [hC] at hfl vl ⊢
 obtain ⟨d,hd⟩:∃ z,(valV m L ex s C).1=z:=⟨_,rfl⟩
 obtain ⟨q,hq⟩:∃ z,(valV m L ex s C).2=z:=⟨_,rfl⟩
 rw [hd,hq] at hfl vl ⊢
 obtain ⟨op,hop⟩:∃ op:UInt8,(op.toNat:Int)=(i:Int):=⟨UInt8.ofNat i,by rw [UInt8.toNat_ofNat_of_lt' (show i<256 from hi)]⟩
 rw [← hop] at vl ⊢
 have by_:=fun w' p=>wbytes_any g op m (by omega) A cap l L hl (by omega) ex (by omega) al hx d q w' p
 rw [hfl,Option.map_some] at by_
 unfold RetBy at by_
 simp only at by_
 obtain ⟨bs,hbs⟩:∃ z,encB g (op.toNat:Int) ex d q=z:=⟨_,rfl⟩
 rw [hbs] at by_ ⊢
 unfold enV at vl by_ ⊢
 have BY:=Lib.hid by_
 have VL:=Lib.hid vl
 obtain ⟨n,hn⟩:∃ z,w.heap.size=z:=⟨_,rfl⟩
 have HN:=Lib.hid hn
 have S:=Fr.add (Fr.add (Fr.start w n hn) (opsF Ai I) HF) (opsF A L) H
 obtain ⟨b0,w0,hb0,hw0,S0,y0,z0⟩:=Fr.box S #[.int .i64 g,.int .u8 (op.toNat:Int),.string (sB m),.slice A l cap,.string (sB ex),.bool al] 38
 rw [hn] at hb0
 subst hb0
 obtain ⟨b1,w1,hb1,hw1,S1,y1,z1⟩:=Fr.box S0 #[.string s,.slice Ai li capi] 26
 obtain ⟨k0,k1⟩:=Fr.cells2 S1.out.1
 obtain ⟨e0,e1,e2,e3,e4,e5⟩:=Fr.cells6 S1.out.2.1
 have V1:=VL.out w1 S1.out.2.2.1 S1.out.2.2.2.1
 rw [z0] at hb1
 subst hb1
 clear H HF S S0 y0 y1 ok hx hop hC hd hq hfl hbs h0 h1 h2 h3 hh hi hl hli vl by_ VL
 go_enter Tryz.func47,Tryz.ntmps47
 go_wp2_with fail
 refine V1.mono ?_
 rintro e w3 ⟨rfl,hb⟩
 have S3:=Fr.up S1 hb
 clear hb V1 S1 k0 k1 e0 e1 e2 e3 e4 e5 hw0 hw1 z0 z1
 obtain ⟨e0,e1,e2,e3,e4,e5⟩:=Fr.cells6 S3.out.2.1
 go_wp2_with fail
 refine (BY.out w3 S3.out.2.2.1).mono ?_
 rintro e w4 ⟨A4,c4,rfl,hO,hb⟩
 have S4:=Fr.up S3 hb
 have O4:=Lib.hid (hO.lift S3.out.2.2.2.2.1.2)
 clear hb hO BY S3 e0 e1 e2 e3 e4 e5
 go_wp2
 go_ret
 exact ⟨A4,c4,rfl,by rw [HN.out];exact O4.out,by rw [HN.out];exact S4.out.2.2.2.2.1.1⟩
theorem find_tab {op:Str} {C:List Tr} {k:Ke} (h:findK op C=some k):InTab k∧hasK op C k=true∧k.2.2.1=op:=by
 unfold findK at h
 have h1:=List.find?_some h
 have h2:=List.mem_of_find?_eq_some h
 unfold candN at h2
 have h3:=cand_in (List.mem_filter.1 h2).1
 exact ⟨h3.1,h1,h3.2.1⟩
theorem wencode_any (s:ByteArray) (hs:s.size≤1000) (Ai:Option Addr) (capi li:Nat) (I:List Tr) (hli:I.length=li) (hLi:li≤900) (w:World) (hM:MaxAt w) (HF:OpsP w Ai I) :
  Calls Tryz.prog 19 #[.agg #[.string s,.slice Ai li capi]] w (RetEnc w s I):=by
 obtain ⟨n,hn⟩:∃ z,w.heap.size=z:=⟨_,rfl⟩
 have HN:=Lib.hid hn
 obtain ⟨b0,w0,hb0,hw0,S0,y0,z0⟩:=Fr.box (Fr.add (Fr.start w n hn) (opsF Ai I) HF) #[.string s,.slice Ai li capi] 26
 rw [hn] at hb0
 subst hb0
 have fi:=sfind2_any s hs Ai capi li I hli hLi w0 (hM.below y0) S0.out.2.1
 have HFI:Hid (encI s I=(findK (sT s) (canL (opc s) I)).map fun k=>encB k.1 k.2.1 k.2.2.2.2.1 (valV k.2.2.1 k.2.2.2.1 k.2.2.2.2.1 s (canL (opc s) I)).1 (valV k.2.2.1 k.2.2.2.1 k.2.2.2.2.1 s (canL (opc s) I)).2):=rfl
 have HT:=fun k h=>find_tab (op:=sT s) (C:=canL (opc s) I) (k:=k) h
 obtain ⟨fo,hfo⟩:∃ z,findK (sT s) (canL (opc s) I)=z:=⟨_,rfl⟩
 rw [hfo] at fi HFI HT
 obtain ⟨k0,k1⟩:=Fr.cells2 S0.out.1
 clear HF y0 hfo
 go_enter Tryz.func19,Tryz.ntmps19
 go_wp2_with fail
 refine fi.mono ?_
 rintro e w1 hr
 cases fo with
 | some k=>
  obtain ⟨A,cap,rfl,hP,hb⟩:=hr
  obtain ⟨hk,hh,-⟩:=HT k rfl
  have S1:=Fr.up S0 hb
  unfold hasK at hh
  rw [sB_sT] at hh
  obtain ⟨l,hl⟩:∃ z,k.2.2.2.1.length=z:=⟨_,rfl⟩
  have WV:=fun w' p1 p2=>wval_any k hk A cap l hl s Ai capi li I hli hLi hh w' p1 p2
  obtain ⟨bs,hbs⟩:∃ z,encB k.1 k.2.1 k.2.2.2.2.1 (valV k.2.2.1 k.2.2.2.1 k.2.2.2.2.1 s (canL (opc s) I)).1 (valV k.2.2.1 k.2.2.2.1 k.2.2.2.2.1 s (canL (opc s) I)).2=z:=⟨_,rfl⟩
  have EI:Hid (encI s I=some bs):=by show encI s I=some bs;rw [HFI.out,Option.map_some,hbs]
  have CE:Hid (codeE s I=0):=by show codeE s I=0;unfold codeE;rw [EI.out];rfl
  rw [hbs] at WV
  obtain ⟨g,o,m,L,ex,al⟩:=k
  simp only at hP hl WV
  simp only [enV,hl] at WV ⊢
  have WV:=Lib.hid WV
  have PP:=Lib.hid hP
  clear hb hP hh hk hl hbs HT HFI fi k0 k1 S0 hw0 z0
  go_upto_region 2 with fail
  obtain ⟨b,w2,hbs,hw2,S2,y2,z2⟩:=Fr.box S1 #[.int .i64 g,.int .u8 o,.string (sB m),.slice A l cap,.string (sB ex),.bool al] 38
  rw [hw2,hbs]
  obtain ⟨e0,e1,e2,e3,e4,e5⟩:=Fr.cells6 S2.out.1
  obtain ⟨k0,k1⟩:=Fr.cells2 S2.out.2.1
  have v1:=WV.out w2 (PP.out.below y2) S2.out.2.2.1
  clear hw2 hbs S1 y2 PP WV
  go_wp2_with fail
  refine v1.mono ?_
  rintro e w3 ⟨A4,c4,rfl,hO,hb⟩
  have S3:=Fr.up S2 hb
  have O3:=Lib.hid (hO.lift S2.out.2.2.2.1.2)
  clear hb v1 S2 hO e0 e1 e2 e3 e4 e5 k0 k1
  go_wp2
  go_ret2
  refine ⟨A4,c4,?_,?_,by rw [HN.out];exact S3.out.2.2.2.1.1⟩
  ·rw [EI.out,CE.out];rfl
  ·rw [EI.out,HN.out];exact O3.out
 | none=>
  obtain ⟨rfl,hb⟩:=hr
  have S1:=Fr.up S0 hb
  have EI:Hid (encI s I=none):=HFI.out
  obtain ⟨c,hc⟩:∃ z,codeF (sT s) I (canL (opc (sB (sT s))) I)=z:=⟨_,rfl⟩
  have hc0:c≠0:=by rw [← hc];exact codeF_ne _ _ _
  have CE:Hid (codeE s I=c):=by show codeE s I=c;unfold codeE;rw [EI.out,← hc,sB_sT];rfl
  rw [hc]
  have e1:(c == 0)=false:=beq_eq_false_iff_ne.2 hc0
  have e2:(c != 0)=true:=bne_iff_ne.2 hc0
  have F:=fun o=>Lib.hid (show Below n w (w1.alloc o) from S1.out.2.2.1.1.alloc S1.out.2.2.1.2 o)
  simp only [enV]
  clear hb HT HFI fi k0 k1 S0 hw0 z0 hc hc0
  go_wp2
  go_ret2
  refine ⟨none,0,?_,?_,by rw [HN.out];exact (F _).out⟩
  ·rw [EI.out,CE.out];rfl
  ·rw [EI.out];exact townB_nil _ _
end Go.Proofs.YtoilebmbljpieaaGreatDoor
namespace Go.Proofs.YtoilebmbljpieaaGreatDoor
open Go.RowKit Go.Shelf
attribute [local go_sem] Oper.semAt_some
def encQ (s:ByteArray) (I:List Tr):Option Str:=((candQ (sT s) (canL (opc s) I)).find? (hasK (sT s) (canL (opc s) I))).map fun k=>encB k.1 k.2.1 k.2.2.2.2.1 (valV k.2.2.1 k.2.2.2.1 k.2.2.2.2.1 s (canL (opc s) I)).1 (valV k.2.2.1 k.2.2.2.1 k.2.2.2.2.1 s (canL (opc s) I)).2
theorem encI_Q (s:ByteArray) (I:List Tr):encI s I=encQ s I:=by
 unfold encI findK encQ
 rw [candN_Q]
theorem ex_e1:encQ ⟨#[76,68]⟩ [(5,5,-1),(6,0,7)]=some [221,54,255,7]:=by decide +kernel
theorem ex_e2:encQ ⟨#[82,69,83]⟩ [(6,0,5),(5,5,1),(1,0,0)]=some [221,203,1,168]:=by decide +kernel
theorem ex_u3:upB ⟨#[82,69,83]⟩=⟨#[82,69,83]⟩:=ByteArray.ext (by decide +kernel)
theorem ops_three (w:World) (x y z:Tr):OpsP (w.alloc (.cells #[.int .i64 x.1,.int .i64 x.2.1,.int .i64 x.2.2,.int .i64 y.1,.int .i64 y.2.1,.int .i64 y.2.2,.int .i64 z.1,.int .i64 z.2.1,.int .i64 z.2.2] 63)) (some ⟨w.heap.size,0,none⟩) [x,y,z]:=by
 refine .inr ⟨_,0,rfl,fun j hj=>?_⟩
 have:j=0∨j=1∨j=2:=by simp at hj;omega
 rcases this with rfl | rfl | rfl
 ·exact ⟨by simp [go_sem],by simp [go_sem],by simp [go_sem]⟩
 ·exact ⟨by simp [go_sem],by simp [go_sem],by simp [go_sem]⟩
 ·exact ⟨by simp [go_sem],by simp [go_sem],by simp [go_sem]⟩
theorem bytes_new4 (w:World) (a b c d:UInt8):BytesAt (w.alloc (.cells #[.int .u8 (a.toNat:Int),.int .u8 (b.toNat:Int),.int .u8 (c.toNat:Int),.int .u8 (d.toNat:Int)] 5)) (some ⟨w.heap.size,0,none⟩) [a,b,c,d]:=by
 refine .inr ⟨_,_,rfl,fun j hj=>?_⟩
 rw [Lib.cell_of_heap (heap_alloc_new w _)]
 have:j=0∨j=1∨j=2∨j=3:=by simp at hj;omega
 rcases this with rfl | rfl | rfl | rfl <;> rfl
theorem enc_ex {s:ByteArray} {I:List Tr} {xs:Str} (h:encQ s I=some xs) (hx:xs.length=4) (hs:s.size≤1000) (n:Nat) (hI:I.length=n) (hn:n≤900) (A:Option Addr) (cap:Nat) (w:World) (hM:MaxAt w) (H:OpsP w A I) :
  Calls Tryz.prog 19 #[.agg #[.string s,.slice A n cap]] w fun e w'=>∃ A4 c4,e=.returned (.tuple #[.slice A4 4 c4,.int .i64 0])∧BytesAt w' A4 xs∧Below w.heap.size w w':=by
 refine (wencode_any s hs A cap n I hI hn w hM H).mono ?_
 rintro e w' ⟨A4,c4,rfl,hO,hb⟩
 have e1:encI s I=some xs:=(encI_Q s I).trans h
 have e2:codeE s I=0:=by unfold codeE;rw [e1];rfl
 rw [e1,Option.getD_some] at hO
 obtain ⟨A5,c5,e3,hP⟩:=hO.bytes
 simp only [Value.slice.injEq] at e3
 obtain ⟨rfl,-,rfl⟩:=e3
 exact ⟨A4,c4,by rw [e1,e2,Option.getD_some,hx],hP,hb⟩
theorem eq4_any (A1 A2:Option Addr) (c1 c2:Nat) (xs:Str) (hx:xs.length=4) (w:World) (H1:BytesAt w A1 xs) (H2:BytesAt w A2 xs) :
  Calls Tryz.prog 12 #[.slice A1 4 c1,.slice A2 4 c2] w fun e w'=>e=.returned (.bool true)∧Below w.heap.size w w':=by
 have h:=equalU_any A1 A2 c1 c2 xs xs (by rw [hx];decide) (by rw [hx];decide) w H1 H2
 rw [hx,decide_eq_true rfl] at h
 exact h
theorem walive_any (w:World) (hM:MaxAt w):Calls Tryz.prog 8 #[] w fun e w'=>e=.returned (.bool true)∧Below w.heap.size w w':=by
 have mk1:=make_any ⟨#[76,68]⟩ (by decide) (some ⟨w.heap.size,0,none⟩) 2 [(5,5,-1),(6,0,7)] (by decide) _ (ops_two w (5,5,-1) (6,0,7))
 rw [ex_u1] at mk1
 have MK2:=fun (w':World)=>Lib.hid (make_any ⟨#[82,69,83]⟩ (by decide) (some ⟨w'.heap.size,0,none⟩) 3 [(6,0,5),(5,5,1),(1,0,0)] (by decide) _ (ops_three w' (6,0,5) (5,5,1) (1,0,0)))
 rw [ex_u3] at MK2
 have B0:Hid (Below w.heap.size w (w.alloc (.cells #[.int .i64 5,.int .i64 5,.int .i64 (-1),.int .i64 6,.int .i64 0,.int .i64 7] 63))):=upA _ _
 have HM:=Lib.hid hM
 have E1:=Lib.hid (fun A cap w' h1 h2=>enc_ex ex_e1 rfl (by decide) 2 rfl (by decide) A cap w' h1 h2)
 have E2:=Lib.hid (fun A cap w' h1 h2=>enc_ex ex_e2 rfl (by decide) 3 rfl (by decide) A cap w' h1 h2)
 clear hM
 go_enter Tryz.func8,Tryz.ntmps8
 go_wp2_with fail
 refine mk1.mono ?_
 rintro e w1 ⟨v,rfl,hO,hb⟩
 obtain ⟨A1,c1,rfl,hP,-⟩:=hO.ops
 have B1:Hid (Below w.heap.size w w1):=B0.out.trans (hb.mono B0.out.size)
 have e1:=E1.out A1 c1 w1 (HM.out.below B1.out) hP
 clear mk1 hO hP hb B0 E1
 go_wp2_with fail
 refine e1.mono ?_
 rintro e w3 ⟨A3,c3,rfl,hP3,hb⟩
 have B3:Hid (Below w.heap.size w w3):=B1.out.trans (hb.mono B1.out.size)
 have b4:=upA w3 (.cells #[.int .i64 6,.int .i64 0,.int .i64 5,.int .i64 5,.int .i64 5,.int .i64 1,.int .i64 1,.int .i64 0,.int .i64 0] 63)
 have B4:=Lib.hid (B3.out.trans (b4.mono B3.out.size))
 have P4:=Lib.hid (BytesAt.below hP3 b4)
 have mk2:=(MK2 w3).out
 clear e1 hP3 hb B1 B3 b4 MK2
 go_wp2_with fail
 refine mk2.mono ?_
 rintro e w5 ⟨v,rfl,hO,hb⟩
 obtain ⟨A5,c5,rfl,hP,-⟩:=hO.ops
 have B5:Hid (Below w.heap.size w w5):=B4.out.trans (hb.mono B4.out.size)
 have P5:=Lib.hid (P4.out.below hb)
 have e2:=E2.out A5 c5 w5 (HM.out.below B5.out) hP
 clear mk2 hO hP hb B4 P4 E2
 go_wp2_with fail
 refine e2.mono ?_
 rintro e w6 ⟨A6,c6,rfl,hP6,hb⟩
 have B6:Hid (Below w.heap.size w w6):=B5.out.trans (hb.mono B5.out.size)
 have P6:=P5.out.below hb
 have b7:=upA w6 (.cells #[.int .u8 221,.int .u8 54,.int .u8 255,.int .u8 7] 5)
 have B7:=Lib.hid (B6.out.trans (b7.mono B6.out.size))
 have Q7:=Lib.hid (BytesAt.below hP6 b7)
 have q1:=eq4_any A3 (some ⟨w6.heap.size,0,none⟩) c3 4 [221,54,255,7] rfl _ (P6.below b7) (bytes_new4 w6 221 54 255 7)
 clear e2 hP6 hb B5 P5 P6 b7 B6 HM
 go_wp2_with fail
 refine q1.mono ?_
 rintro e w8 ⟨rfl,hb⟩
 have B8:Hid (Below w.heap.size w w8):=B7.out.trans (hb.mono B7.out.size)
 have Q8:=Q7.out.below hb
 have b9:=upA w8 (.cells #[.int .u8 221,.int .u8 203,.int .u8 1,.int .u8 168] 5)
 have B9:=Lib.hid (B8.out.trans (b9.mono B8.out.size))
 have q2:=eq4_any A6 (some ⟨w8.heap.size,0,none⟩) c6 4 [221,203,1,168] rfl _ (Q8.below b9) (bytes_new4 w8 221 203 1 168)
 clear q1 hb B7 B8 Q7 Q8 b9
 go_wp2_with fail
 refine q2.mono ?_
 rintro e w10 ⟨rfl,hb⟩
 have B10:Hid (Below w.heap.size w w10):=B9.out.trans (hb.mono B9.out.size)
 clear q2 hb B9
 go_wp2
 go_ret
 exact ⟨rfl,B10.out⟩
theorem wshort_any (s:ByteArray) (A:Option Addr) (cap n:Nat) (w:World) :
  Calls Tryz.prog 9 #[.agg #[.string s,.slice A n cap]] w fun e w'=>e=.returned (.bool (decide (s.size≤100)&&decide (n≤20)))∧Below w.heap.size w w':=by
 have hb:Hid (Below w.heap.size w (w.alloc (.cells #[.string s,.slice A n cap] 26))):=upA _ _
 by_cases h1:s.size≤100
 ·have g1:((s.size:Int)≤100):=by omega
  by_cases h2:n≤20
  ·have g2:((n:Int)≤20):=by omega
   have T:Hid (true=(decide (s.size≤100)&&decide (n≤20))):=by show _=_;rw [decide_eq_true h1,decide_eq_true h2];rfl
   clear h1 h2
   go_enter Tryz.func9,Tryz.ntmps9
   go_wp2
   go_ret
   exact ⟨ret_bool T.out,hb.out⟩
  ·have g2:¬((n:Int)≤20):=by omega
   have T:Hid (false=(decide (s.size≤100)&&decide (n≤20))):=by show _=_;rw [decide_eq_true h1,decide_eq_false h2];rfl
   clear h1 h2
   go_enter Tryz.func9,Tryz.ntmps9
   go_wp2
   go_ret
   exact ⟨ret_bool T.out,hb.out⟩
 ·have g1:¬((s.size:Int)≤100):=by omega
  have T:Hid (false=(decide (s.size≤100)&&decide (n≤20))):=by show _=_;rw [decide_eq_false h1];rfl
  clear h1
  go_enter Tryz.func9,Tryz.ntmps9
  go_wp2
  go_ret
  exact ⟨ret_bool T.out,hb.out⟩
end Go.Proofs.YtoilebmbljpieaaGreatDoor
