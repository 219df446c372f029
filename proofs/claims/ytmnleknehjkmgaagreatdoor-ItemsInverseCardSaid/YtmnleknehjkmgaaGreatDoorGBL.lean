/-
  WrF, EnG, WrG, DgM, ItIv, Shp.
-/
import Derived.Test.YtmnleknehjkmgaaGreatDoorGBK
import Derived.Test.YtmnleknehjkmgaaGreatDoorGAP
import Derived.Test.YtmnleknehjkmgaaGreatDoorGAU
import Derived.Deep.DeepCutAuto
import Derived.Deep.Cut
import Derived.Test.YtmnleknehjkmgaaGreatDoorGAR
import Derived.Test.YtmnleknehjkmgaaGreatDoorMSeN
import Derived.Test.YtmnleknehjkmgaaGreatDoorMCnU
import Derived.Handed
import Derived.Shelf.Vars
import Derived.Test.YtmnleknehjkmgaaGreatDoorGAB
set_option linter.all false
set_option maxRecDepth 100000
set_option maxHeartbeats 4000000
namespace Go.Proofs.YtmnleknehjkmgaaGreatDoor
open Go.RowKit Go.Shelf
attribute [local go_sem] Oper.semAt_some
theorem beh_let {g:Int} {i:Nat} {ex:Str} (h:ExP g i ex):(behS g ex).length≤2∧∀ k (hk:k<(behS g ex).length),(behS g ex)[k]=100∨(behS g ex)[k]=101∨(behS g ex)[k]=110∨(behS g ex)[k]=119:=by
 have e:behS g ex=[]∨behS g ex=ex:=by unfold behS;split;exact .inl rfl;exact .inr rfl
 generalize behS g ex=b at e
 rcases e with rfl | rfl
 ·exact ⟨by simp,fun k hk=>by simp at hk⟩
 ·rcases h.lst with rfl | rfl | rfl | rfl | rfl | rfl
  ·exact ⟨by simp,fun k hk=>by simp at hk⟩
  all_goals refine ⟨by simp,fun k hk=>?_⟩
  ·obtain rfl:k=0:=by simp at hk;omega
   exact .inl rfl
  ·obtain rfl:k=0:=by simp at hk;omega
   exact .inr (.inl rfl)
  ·obtain rfl:k=0:=by simp at hk;omega
   exact .inr (.inr (.inl rfl))
  ·obtain rfl:k=0:=by simp at hk;omega
   exact .inr (.inr (.inr rfl))
  ·have:k=0∨k=1:=by simp at hk;omega
   rcases this with rfl | rfl
   ·exact .inl rfl
   ·exact .inr (.inr (.inl rfl))
theorem InTab.lets {k:Ke} (h:InTab k):LetOk k.1 k.2.2.2.2.1:=by
 obtain ⟨n,hn,-,hr⟩:=h
 have hx:=exP_of hn hr
 obtain ⟨h1,h2⟩:=beh_let hx
 exact ⟨hx.pg.2,hx.hi,h1,h2⟩
def RetWv (w:World) (bs:Str) (e:Ending) (w':World):Prop:=∃ A cap,e=.returned (.slice A bs.length cap)∧TOwnB w' w.heap.size (.slice A bs.length cap) bs∧Below w.heap.size w w'
theorem wval_any (k:Ke) (hk:InTab k) (A:Option Addr) (cap l:Nat) (hl:k.2.2.2.1.length=l) (s:ByteArray) (Ai:Option Addr) (capi li:Nat) (I:List Tr) (hli:I.length=li) (hLi:li≤900)
  (hh:hasV k.2.2.1 k.2.2.2.1 k.2.2.2.2.1 s (canL (opc s) I)=true) (w:World) (H:OpsP w A k.2.2.2.1) (HF:OpsP w Ai I) :
  Calls Tryz.prog 20 #[enV k.1 k.2.1 k.2.2.1 (.slice A l cap) k.2.2.2.2.1 k.2.2.2.2.2,.agg #[.string s,.slice Ai li capi]] w
   (RetWv w (encB k.1 k.2.1 k.2.2.2.2.1 (valV k.2.2.1 k.2.2.2.1 k.2.2.2.2.1 s (canL (opc s) I)).1 (valV k.2.2.1 k.2.2.2.1 k.2.2.2.2.1 s (canL (opc s) I)).2)):=by
 have ok:=hk.ok
 have hx:=hk.lets
 obtain ⟨i,hi,hop,-⟩:=hk
 obtain ⟨g,o,m,L,ex,al⟩:=k
 simp only at *
 subst hop
 have h0:=ok.m
 have h1:=ok.ex
 have h2:=ok.len
 have h3:=ok.up
 simp only at h0 h1 h2 h3
 have vl:=fun w' p1 p2=>svalues_any g (i:Int) m (by omega) h3 A cap l L hl (by omega) ex (by omega) al s Ai capi li I hli hLi w' p1 p2
 have hfl:=has_fill2 hh
 obtain ⟨C,hC⟩:∃ z,canL (opc s) I=z:=⟨_,rfl⟩
 rw [hC] at hfl vl ⊢
 obtain ⟨d,hd⟩:∃ z,(valV m L ex s C).1=z:=⟨_,rfl⟩
 obtain ⟨q,hq⟩:∃ z,(valV m L ex s C).2=z:=⟨_,rfl⟩
 rw [hd,hq] at hfl vl ⊢
 obtain ⟨op,hop⟩:∃ op:UInt8,(op.toNat:Int)=(i:Int):=⟨UInt8.ofNat i,by rw [UInt8.toNat_ofNat_of_lt' (show i<256 from hi)]⟩
 rw [← hop] at vl ⊢
 have by_:=fun w' p=>wbytes_any g op m (by omega) A cap l L hl (by omega) ex (by omega) al hx d q w' p
 rw [hfl,Option.map_some] at by_
 unfold RetBy at by_
 simp only at by_
 obtain ⟨bs,hbs⟩:∃ z,encB g (op.toNat:Int) ex d q=z:=⟨_,rfl⟩
 rw [hbs] at by_ ⊢
 unfold enV at vl by_ ⊢
 have BY:=Lib.hid by_
 have VL:=Lib.hid vl
 obtain ⟨n,hn⟩:∃ z,w.heap.size=z:=⟨_,rfl⟩
 have HN:=Lib.hid hn
 have S:=Fr.add (Fr.add (Fr.start w n hn) (opsF Ai I) HF) (opsF A L) H
 obtain ⟨b0,w0,hb0,hw0,S0,y0,z0⟩:=Fr.box S #[.int .i64 g,.int .u8 (op.toNat:Int),.string (sB m),.slice A l cap,.string (sB ex),.bool al] 55
 rw [hn] at hb0
 subst hb0
 obtain ⟨b1,w1,hb1,hw1,S1,y1,z1⟩:=Fr.box S0 #[.string s,.slice Ai li capi] 26
 obtain ⟨k0,k1⟩:=Fr.cells2 S1.out.1
 obtain ⟨e0,e1,e2,e3,e4,e5⟩:=Fr.cells6 S1.out.2.1
 have V1:=VL.out w1 S1.out.2.2.1 S1.out.2.2.2.1
 rw [z0] at hb1
 subst hb1
 clear H HF S S0 y0 y1 ok hx hop hC hd hq hfl hbs h0 h1 h2 h3 hh hi hl hli vl by_ VL
 go_enter Tryz.func20,Tryz.ntmps20
 go_wp2_with fail
 refine V1.mono ?_
 rintro e w3 ⟨rfl,hb⟩
 have S3:=Fr.up S1 hb
 clear hb V1 S1 k0 k1 e0 e1 e2 e3 e4 e5 hw0 hw1 z0 z1
 obtain ⟨e0,e1,e2,e3,e4,e5⟩:=Fr.cells6 S3.out.2.1
 go_wp2_with fail
 refine (BY.out w3 S3.out.2.2.1).mono ?_
 rintro e w4 ⟨A4,c4,rfl,hO,hb⟩
 have S4:=Fr.up S3 hb
 have O4:=Lib.hid (hO.lift S3.out.2.2.2.2.1.2)
 clear hb hO BY S3 e0 e1 e2 e3 e4 e5
 go_wp2
 go_ret
 exact ⟨A4,c4,rfl,by rw [HN.out];exact O4.out,by rw [HN.out];exact S4.out.2.2.2.2.1.1⟩
theorem find_tab {op:Str} {C:List Tr} {k:Ke} (h:findK op C=some k):InTab k∧hasK op C k=true∧k.2.2.1=op:=by
 unfold findK at h
 have h1:=List.find?_some h
 have h2:=List.mem_of_find?_eq_some h
 unfold candN at h2
 have h3:=cand_in (List.mem_filter.1 h2).1
 exact ⟨h3.1,h1,h3.2.1⟩
theorem wencode_any (s:ByteArray) (hs:s.size≤1000) (Ai:Option Addr) (capi li:Nat) (I:List Tr) (hli:I.length=li) (hLi:li≤900) (w:World) (hM:MaxAt w) (HF:OpsP w Ai I) :
  Calls Tryz.prog 12 #[.agg #[.string s,.slice Ai li capi]] w (RetEnc w s I):=by
 obtain ⟨n,hn⟩:∃ z,w.heap.size=z:=⟨_,rfl⟩
 have HN:=Lib.hid hn
 obtain ⟨b0,w0,hb0,hw0,S0,y0,z0⟩:=Fr.box (Fr.add (Fr.start w n hn) (opsF Ai I) HF) #[.string s,.slice Ai li capi] 26
 rw [hn] at hb0
 subst hb0
 have fi:=sfind2_any s hs Ai capi li I hli hLi w0 (hM.below y0) S0.out.2.1
 have HFI:Hid (encI s I=(findK (sT s) (canL (opc s) I)).map fun k=>encB k.1 k.2.1 k.2.2.2.2.1 (valV k.2.2.1 k.2.2.2.1 k.2.2.2.2.1 s (canL (opc s) I)).1 (valV k.2.2.1 k.2.2.2.1 k.2.2.2.2.1 s (canL (opc s) I)).2):=rfl
 have HT:=fun k h=>find_tab (op:=sT s) (C:=canL (opc s) I) (k:=k) h
 obtain ⟨fo,hfo⟩:∃ z,findK (sT s) (canL (opc s) I)=z:=⟨_,rfl⟩
 rw [hfo] at fi HFI HT
 obtain ⟨k0,k1⟩:=Fr.cells2 S0.out.1
 clear HF y0 hfo
 go_enter Tryz.func12,Tryz.ntmps12
 go_wp2_with fail
 refine fi.mono ?_
 rintro e w1 hr
 cases fo with
 | some k=>
  obtain ⟨A,cap,rfl,hP,hb⟩:=hr
  obtain ⟨hk,hh,-⟩:=HT k rfl
  have S1:=Fr.up S0 hb
  unfold hasK at hh
  rw [sB_sT] at hh
  obtain ⟨l,hl⟩:∃ z,k.2.2.2.1.length=z:=⟨_,rfl⟩
  have WV:=fun w' p1 p2=>wval_any k hk A cap l hl s Ai capi li I hli hLi hh w' p1 p2
  obtain ⟨bs,hbs⟩:∃ z,encB k.1 k.2.1 k.2.2.2.2.1 (valV k.2.2.1 k.2.2.2.1 k.2.2.2.2.1 s (canL (opc s) I)).1 (valV k.2.2.1 k.2.2.2.1 k.2.2.2.2.1 s (canL (opc s) I)).2=z:=⟨_,rfl⟩
  have EI:Hid (encI s I=some bs):=by show encI s I=some bs;rw [HFI.out,Option.map_some,hbs]
  have CE:Hid (codeE s I=0):=by show codeE s I=0;unfold codeE;rw [EI.out];rfl
  rw [hbs] at WV
  obtain ⟨g,o,m,L,ex,al⟩:=k
  simp only at hP hl WV
  simp only [enV,hl] at WV ⊢
  have WV:=Lib.hid WV
  have PP:=Lib.hid hP
  clear hb hP hh hk hl hbs HT HFI fi k0 k1 S0 hw0 z0
  go_upto_region 2 with fail
  obtain ⟨b,w2,hbs,hw2,S2,y2,z2⟩:=Fr.box S1 #[.int .i64 g,.int .u8 o,.string (sB m),.slice A l cap,.string (sB ex),.bool al] 55
  rw [hw2,hbs]
  obtain ⟨e0,e1,e2,e3,e4,e5⟩:=Fr.cells6 S2.out.1
  obtain ⟨k0,k1⟩:=Fr.cells2 S2.out.2.1
  have v1:=WV.out w2 (PP.out.below y2) S2.out.2.2.1
  clear hw2 hbs S1 y2 PP WV
  go_wp2_with fail
  refine v1.mono ?_
  rintro e w3 ⟨A4,c4,rfl,hO,hb⟩
  have S3:=Fr.up S2 hb
  have O3:=Lib.hid (hO.lift S2.out.2.2.2.1.2)
  clear hb v1 S2 hO e0 e1 e2 e3 e4 e5 k0 k1
  go_wp2
  go_ret2
  refine ⟨A4,c4,?_,?_,by rw [HN.out];exact S3.out.2.2.2.1.1⟩
  ·rw [EI.out,CE.out];rfl
  ·rw [EI.out,HN.out];exact O3.out
 | none=>
  obtain ⟨rfl,hb⟩:=hr
  have S1:=Fr.up S0 hb
  have EI:Hid (encI s I=none):=HFI.out
  obtain ⟨c,hc⟩:∃ z,codeF (sT s) I (canL (opc (sB (sT s))) I)=z:=⟨_,rfl⟩
  have hc0:c≠0:=by rw [← hc];exact codeF_ne _ _ _
  have CE:Hid (codeE s I=c):=by show codeE s I=c;unfold codeE;rw [EI.out,← hc,sB_sT];rfl
  rw [hc]
  have e1:(c == 0)=false:=beq_eq_false_iff_ne.2 hc0
  have e2:(c != 0)=true:=bne_iff_ne.2 hc0
  have F:=fun o=>Lib.hid (show Below n w (w1.alloc o) from S1.out.2.2.1.1.alloc S1.out.2.2.1.2 o)
  simp only [enV]
  clear hb HT HFI fi k0 k1 S0 hw0 z0 hc hc0
  go_wp2
  go_ret2
  refine ⟨none,0,?_,?_,by rw [HN.out];exact (F _).out⟩
  ·rw [EI.out,CE.out];rfl
  ·rw [EI.out];exact townB_nil _ _
end Go.Proofs.YtmnleknehjkmgaaGreatDoor
namespace Go.Proofs.YtmnleknehjkmgaaGreatDoor
open Go.RowKit Go.Shelf
attribute [local go_sem] Oper.semAt_some
theorem encI_len (s:ByteArray) (I:List Tr):((encI s I).getD []).length≤4:=by
 unfold encI
 cases h:findK (sT s) (canL (opc s) I) with
 | none=>exact Nat.zero_le _
 | some k=>
  have hm:k∈candK (sT s) (canL (opc s) I):=(List.mem_filter.1 (List.mem_of_find?_eq_some h)).1
  have hl:=enc_len (cand_in hm).1 (valV k.2.2.1 k.2.2.2.1 k.2.2.2.2.1 s (canL (opc s) I)).1 (valV k.2.2.1 k.2.2.2.1 k.2.2.2.2.1 s (canL (opc s) I)).2
  simp only [Option.map_some,Option.getD_some]
  omega
theorem codeE_yes {s:ByteArray} {I:List Tr} (h:(encI s I).isSome=true):codeE s I=0:=by unfold codeE;rw [if_pos h]
theorem codeE_no {s:ByteArray} {I:List Tr} (h:(encI s I).isSome=false):codeE s I≠0:=by
 unfold codeE
 rw [if_neg (by rw [h];simp)]
 unfold codeF
 split
 ·assumption
 ·split <;> decide
def okE2 (r:Ie):Bool:=(encI r.s r.L).isSome
def outE (R:List Ie) (k:Nat):Str:=(R.take k).flatMap fun r=>(encI r.s r.L).getD []
theorem outE_succ (R:List Ie) (k:Nat) (h:k<R.length):outE R (k+1)=outE R k++(encI R[k].s R[k].L).getD []:=by
 unfold outE
 rw [List.take_succ_eq_append_getElem h,List.flatMap_append]
 simp
def badE (R:List Ie):Nat:=R.findIdx fun r=>!okE2 r
def bsE (R:List Ie):Str:=if badE R<R.length then [] else outE R R.length
def cdE (R:List Ie):Int:=match R[badE R]? with
 | some r=>codeE r.s r.L
 | none=>0
theorem badE_at {R:List Ie} {k:Nat} (hk:k<R.length) (h:okE2 R[k]=false) (hb:∀ j (hj:j<R.length),j<k→okE2 R[j]=true):badE R=k∧bsE R=[]∧cdE R=codeE R[k].s R[k].L:=by
 have e:badE R=k:=by
  unfold badE
  exact (List.findIdx_eq hk).2 ⟨by rw [h];rfl,fun j hj=>by rw [hb j (by omega) hj];rfl⟩
 refine ⟨e,?_,?_⟩
 ·unfold bsE;rw [e,if_pos hk]
 ·unfold cdE;rw [e,List.getElem?_eq_getElem hk]
theorem badE_all {R:List Ie} (hb:∀ j (hj:j<R.length),okE2 R[j]=true):badE R=R.length∧bsE R=outE R R.length∧cdE R=0:=by
 have e:badE R=R.length:=by
  unfold badE
  refine List.findIdx_eq_length.2 fun r hr=>?_
  obtain ⟨j,hj,rfl⟩:=List.getElem_of_mem hr
  rw [hb j hj];rfl
 refine ⟨e,?_,?_⟩
 ·unfold bsE;rw [e,if_neg (Nat.lt_irrefl _)]
 ·unfold cdE;rw [e,List.getElem?_eq_none (Nat.le_refl _)]
def RetAllE (w:World) (R:List Ie) (e:Ending) (w':World):Prop:=∃ A cap,e=.returned (.tuple #[.slice A (bsE R).length cap,.int .i64 (badE R),.int .i64 (cdE R)])∧TOwnB w' w.heap.size (.slice A (bsE R).length cap) (bsE R)∧Below w.heap.size w w'
end Go.Proofs.YtmnleknehjkmgaaGreatDoor
namespace Go.Proofs.YtmnleknehjkmgaaGreatDoor
open Go.RowKit Go.Shelf
attribute [local go_sem] Oper.semAt_some
theorem wall_any (A:Option Addr) (cap:Nat) (R:List Ie) (hR:R.length≤1000) (hr:∀ r∈R,r.s.size≤1000∧r.L.length≤900) (w:World) (hM:MaxAt w) (H:InsP w A R) :
  Calls Tryz.prog 5 #[.slice A R.length cap] w (RetAllE w R):=by
 obtain ⟨n,hn⟩:∃ z,w.heap.size=z:=⟨_,rfl⟩
 have HN:=Lib.hid hn
 obtain ⟨ln,hln⟩:∃ z,R.length=z:=⟨_,rfl⟩
 have HLN:=Lib.hid hln
 rw [hln] at hR ⊢
 have X:=Lib.hid H
 have HR:=Lib.hid hr
 have HM:=Lib.hid hM
 have ZN:Hid (n≤w.heap.size):=Nat.le_of_eq hn.symm
 have HO0:Hid (TOwnB w n (.slice none 0 0) []):=townB_nil _ _
 clear H hr hn hln hM
 go_enter Tryz.func5,Tryz.ntmps5
 go_wp2
 go_loopw [12,5] (fun x v wr=>∃ (k lo:Nat) (A4:Option Addr) (cap4:Nat),k≤ln∧x=.int .i64 k∧v=.slice A4 lo cap4∧Hid (lo=(outE R k).length∧lo≤4*k)∧Hid (TOwnB wr n (.slice A4 lo cap4) (outE R k))∧Hid (∀ j (hj:j<R.length),j<k→okE2 R[j]=true)∧Hid (Below n w wr)∧Hid (n≤wr.heap.size)) (fun x _ _=>ln - (intOf x).toNat)
 case atStart=>exact ⟨0,0,none,0,Nat.zero_le _,rfl,rfl,⟨rfl,Nat.le_refl _⟩,HO0.out,fun j hj h=>absurd h (Nat.not_lt_zero _),Below.refl _ _,ZN.out⟩
 case round=>
  clear HO0
  obtain ⟨k,lo,A4,cap4,hk,rfl,rfl,LO,O,G,BW,ZW⟩:=hrel
  by_cases hlt:k<ln
  ·have hkR:k<R.length:=by rw [HLN.out];exact hlt
   obtain ⟨b1,o1,hA1,p0,p1,hP⟩:=(X.out.below (by rw [HN.out];exact BW.out)).at_ hkR
   subst hA1
   obtain ⟨hs9,hL9⟩:=HR.out _ (List.getElem_mem hkR)
   have BAD:=fun h=>badE_at hkR h G.out
   have SUC:=outE_succ R k hkR
   have GS:okE2 R[k]=true→Hid (∀ j (hj:j<R.length),j<k+1→okE2 R[j]=true):=fun h=>fun j hj hj2=>by
    by_cases e:j=k
    ·subst e;exact h
    ·exact G.out j hj (by omega)
   obtain ⟨⟨s,A1,c1,L1⟩,hr⟩:∃ r,R[k]=r:=⟨_,rfl⟩
   rw [hr] at p0 p1 hP hs9 hL9 BAD SUC GS
   simp only [Ie.v] at p0 p1 hP hs9 hL9 BAD SUC
   obtain ⟨l1,hl1⟩:∃ z,L1.length=z:=⟨_,rfl⟩
   rw [hl1] at p1 hL9
   go_upto_region 5 with fail
   obtain ⟨w4,hw4⟩:∃ z,wr.alloc (.cells #[.string s,.slice A1 l1 c1] 26)=z:=⟨_,rfl⟩
   have y4:Below wr.heap.size wr w4:=by rw [← hw4];exact up_alloc _ _
   obtain ⟨k0,k1⟩:=Fr.cells2 (show w4.heap[wr.heap.size]?=some (.cells #[.string s,.slice A1 l1 c1] 26 (0,0)) from by rw [← hw4];exact World.alloc_heap_new wr _)
   have B4:Hid (Below n w w4):=BW.out.trans (y4.mono ZW.out)
   have Z4:Hid (n≤w4.heap.size):=Nat.le_trans ZW.out y4.size
   have O4:=Lib.hid (O.out.below y4)
   rw [hw4]
   have en:=wencode_any s hs9 A1 c1 l1 L1 hl1 hL9 w4 (HM.out.below (by rw [HN.out];exact B4.out)) (hP.below y4)
   clear BW ZW O y4 hw4 p0 p1
   have h4:=encI_len s L1
   have cy:=@codeE_yes s L1
   have cn:=@codeE_no s L1
   have ok2:okE2 ⟨s,A1,c1,L1⟩=(encI s L1).isSome:=rfl
   rw [ok2] at BAD GS
   unfold RetEnc at en
   obtain ⟨o,ho⟩:∃ o,encI s L1=o:=⟨_,rfl⟩
   obtain ⟨c,hc⟩:∃ c,codeE s L1=c:=⟨_,rfl⟩
   rw [ho] at en h4 cy cn BAD GS SUC
   rw [hc] at en cy cn BAD
   clear ho hc ok2 hr hl1 hP hkR
   cases o with
   | none=>
    have hc0:c≠0:=cn rfl
    have FIN:=Lib.hid (BAD rfl)
    have e1:(c == 0)=false:=beq_eq_false_iff_ne.2 hc0
    have e2:(c != 0)=true:=bne_iff_ne.2 hc0
    clear BAD GS SUC cy cn h4 O4 G
    go_wp2_with fail
    refine en.mono ?_
    rintro e w5 ⟨A5,c5,rfl,-,hb⟩
    have B5:Hid (Below n w w5):=B4.out.trans (hb.mono Z4.out)
    clear en hb B4 k0 k1
    go_wp2
    go_ret3
    obtain ⟨f1,f2,f3⟩:=FIN.out
    refine ⟨none,0,by rw [f1,f2,f3];rfl,by rw [f2];exact townB_nil _ _,by rw [HN.out];exact B5.out⟩
   | some bs=>
    have hc0:c=0:=cy rfl
    subst hc0
    have G2:=GS rfl
    have S2:=Lib.hid SUC
    obtain ⟨lb,hlb⟩:∃ z,bs.length=z:=⟨_,rfl⟩
    simp only [Option.getD_some] at en h4 S2
    rw [hlb] at en h4
    have HLB:=Lib.hid hlb
    have h4:=Lib.hid h4
    clear BAD GS SUC cy cn G hlb
    go_wp2_with fail
    refine en.mono ?_
    rintro e w5 ⟨A5,c5,rfl,hO5,hb⟩
    have B5:Hid (Below n w w5):=B4.out.trans (hb.mono Z4.out)
    have Z5:Hid (n≤w5.heap.size):=Nat.le_trans Z4.out hb.size
    have O5:=Lib.hid (O4.out.below hb)
    obtain ⟨A6,c6,e6,hP6⟩:=hO5.bytes
    rw [HLB.out] at e6
    simp only [Value.slice.injEq] at e6
    obtain ⟨rfl,-,rfl⟩:=e6
    have P5:=Lib.hid hP6
    clear en hb B4 Z4 O4 hO5 hP6 k0 k1
    go_wp2_with (at_builtin;refine wpList_appBs (by have:=O5.out;exact this) P5.out Z5.out (by have:=LO.out;have:=HLB.out;have:=h4.out;omega) rfl _ _ rfl rfl rfl lb HLB.out rfl (lo+lb) (by rw [← LO.out.1]) ?_;intro A8 c8 w8 hO8 hB8;have O8:=Lib.hid hO8;have B8:=Lib.hid (B5.out.trans hB8);have Z8:=Lib.hid (Nat.le_trans Z5.out hB8.size);clear hO8 hB8)
    go_roundw
    case rel=>exact ⟨k+1,lo+lb,A8,c8,by omega,by go_num,rfl,⟨by rw [S2.out,List.length_append,← LO.out.1,HLB.out],by have:=LO.out.2;have:=h4.out;omega⟩,by rw [S2.out];exact O8.out,G2.out,B8.out,Z8.out⟩
    case measure=>simp [intOf];omega
  ·obtain rfl:k=ln:=by omega
   have FIN:Hid (badE R=k∧bsE R=outE R k∧cdE R=0):=by
    have:=badE_all fun j hj=>G.out j hj (by rw [← HLN.out];exact hj)
    rw [HLN.out] at this
    exact this
   clear G
   go_wp2
   go_ret3
   obtain ⟨f1,f2,f3⟩:=FIN.out
   refine ⟨A4,cap4,by rw [f1,f2,f3,← LO.out.1];rfl,by rw [f2,← LO.out.1,HN.out];exact O.out,by rw [HN.out];exact BW.out⟩
end Go.Proofs.YtmnleknehjkmgaaGreatDoor
namespace Go.Proofs.YtmnleknehjkmgaaGreatDoor
open Go.RowKit Go.Shelf
theorem itC_le (b:Str):(itR b).C.length≤3:=by
 cases h:hdB b with
 | none=>unfold itR;rw [h];exact Nat.zero_le _
 | some q=>
  obtain ⟨p,o,t⟩:=q
  rw [it_of h]
  cases hx:ratT p o.toNat with
  | none=>simp only;split <;> exact Nat.zero_le _
  | some x=>
   simp only
   split
   ·exact Nat.zero_le _
   ·cases hf:fillV x.2.2.1 x.2.1 (numB x.2.2.1 t).1 (numB x.2.2.1 t).2 with
    | none=>exact Nat.zero_le _
    | some C=>
     have h1:=congrArg List.length (fill_shape hf).1
     rw [List.length_map,List.length_map] at h1
     have h2:=(InTab.ok (k:=(p,(o.toNat:Int),x.1,x.2.1,x.2.2.1,x.2.2.2)) ⟨o.toNat,o.toNat_lt,rfl,hx⟩).len
     simp only at h2
     show C.length≤3
     omega
end Go.Proofs.YtmnleknehjkmgaaGreatDoor
namespace Go.Proofs.YtmnleknehjkmgaaGreatDoor
open Go.RowKit Go.Shelf
attribute [local go_sem] Oper.semAt_some
attribute [local irreducible] Go.Mixed.wpMix
theorem items_mem2 {b:Str} {x:Ite}:x∈itemsR b→∃ b',x=itR b':=by
 refine items_ind (P:=fun b=>x∈itemsR b→∃ b',x=itR b') (fun h=>(by cases h)) (fun b hb ih h=>?_) b
 rw [items_cons hb] at h
 rcases List.mem_cons.1 h with h | h
 ·exact ⟨b,h⟩
 ·exact ih h
theorem items_C2 {b:Str} {x:Ite} (h:x∈itemsR b):x.C.length≤3:=by
 obtain ⟨b',rfl⟩:=items_mem2 h
 exact itC_le b'
theorem same07z (s:ByteArray) (A1 A2:Option Addr) (c1 c2 n:Nat) (L:List Tr) (hn:L.length=n) (h:n≤1000) (w:World) (H1:OpsP w A1 L) (H2:OpsP w A2 L) :
  Calls Tryz.prog 10 #[.agg #[.string s,.slice A1 n c1],.agg #[.string s,.slice A2 n c2]] w fun e w'=>e=.returned (.bool true)∧Below w.heap.size w w':=by
 have h1:=rsame_any (sT s) (sT s) A1 A2 c1 c2 L L (by omega) (by omega) w H1 H2
 rw [sB_sT,hn,decide_eq_true rfl,decide_eq_true rfl] at h1
 exact h1
theorem cd_cases (R:List Ie):(cdE R=0∧bsE R=outE R R.length∧∀ r∈R,okE2 r=true)∨(cdE R≠0∧bsE R=[]):=by
 by_cases h:badE R<R.length
 ·refine .inr ⟨?_,?_⟩
  ·have hb:(!okE2 R[badE R])=true:=List.findIdx_getElem (w:=h)
   unfold cdE
   rw [List.getElem?_eq_getElem h]
   refine codeE_no ?_
   have:okE2 R[badE R]=false:=by simpa using hb
   exact this
  ·unfold bsE;rw [if_pos h]
 ·have hl:badE R=R.length:=by
   have:badE R≤R.length:=List.findIdx_le_length
   omega
  have hall:∀ r∈R,okE2 r=true:=fun r hr=>by
   have h2:=List.findIdx_eq_length.1 (show R.findIdx (fun r=>!okE2 r)=R.length from hl) r hr
   simpa using h2
  refine .inl ⟨?_,?_,hall⟩
  ·unfold cdE;rw [hl,List.getElem?_eq_none (Nat.le_refl _)]
  ·unfold bsE;rw [hl,if_neg (Nat.lt_irrefl _)]
def enT (r:Ie):ByteArray×List Tr×Str:=(r.s,r.L,(encI r.s r.L).getD [])
def cnT (r:Ie):Ite:=⟨1,(encI r.s r.L).getD [],sT r.s,canL (opc r.s) r.L,false⟩
theorem out_enT (R:List Ie):outE R R.length=(R.map enT).flatMap fun x=>x.2.2:=by
 unfold outE
 rw [List.take_length,List.flatMap_map]
 rfl
theorem enT_ok {R:List Ie} (h:∀ r∈R,okE2 r=true):∀ x∈R.map enT,encI x.1 x.2.1=some x.2.2:=fun x hx=>by
 obtain ⟨r,hr,rfl⟩:=List.mem_map.1 hx
 have h1:=h r hr
 unfold okE2 at h1
 show encI r.s r.L=some ((encI r.s r.L).getD [])
 cases he:encI r.s r.L with
 | none=>rw [he] at h1;cases h1
 | some a=>rfl
theorem items_out {R:List Ie} (h:∀ r∈R,okE2 r=true):itemsR (outE R R.length)=R.map cnT:=by
 rw [out_enT,items_enc _ (enT_ok h),List.map_map]
 rfl
theorem only_out {R:List Ie} (h:∀ r∈R,okE2 r=true):onlyB (outE R R.length)=1:=by
 rw [out_enT]
 exact only_enc _ (enT_ok h)
theorem all_one (R:List Ie):((R.map cnT).filter fun x=>decide (x.kind=1))=R.map cnT:=List.filter_eq_self.2 fun x hx=>by
 obtain ⟨r,-,rfl⟩:=List.mem_map.1 hx
 rfl
theorem bsE_len2 (R:List Ie) (h:R.length≤12):(bsE R).length≤48:=by
 have hle:∀ k,(outE R k).length≤4*R.length:=fun k=>by
  unfold outE
  have h2:∀ t:List Ie,(t.flatMap fun r=>(encI r.s r.L).getD []).length≤4*t.length:=fun t=>by
   induction t with
   | nil=>simp
   | cons c t ih=>
    rw [List.flatMap_cons,List.length_append,List.length_cons]
    have:=encI_len c.s c.L
    omega
  have h3:=h2 (R.take k)
  rw [List.length_take] at h3
  omega
 unfold bsE
 split
 ·simp
 ·have:=hle R.length
  omega
theorem walkII (A:Option Addr) (cap:Nat) (R:List Ie) (w:World) (hm:R.length≤maxLen) (H:InsP w A R) (hr:∀ r∈R,r.s.size≤maxLen∧r.L.length≤maxLen) (hM:MaxAt w) :
  Calls Tryz.prog 3 #[.slice A R.length cap] w fun e w'=>e=.returned (.bool true)∧Below w.heap.size w w':=by
 obtain ⟨ln,hln⟩:∃ z,R.length=z:=⟨_,rfl⟩
 have HLN:=Lib.hid hln
 rw [hln] at hm ⊢
 have AL:=Lib.hid (fun w' (h:Below w.heap.size w w')=>alive13_any w' (hM.below h))
 by_cases h12:ln≤12
 ·have t12:¬((ln:Int) > 12):=by omega
  have HB:=Lib.hid (fun w' (h:Below w.heap.size w w')=>And.intro (H.below h) (hM.below h))
  have HX:Hid (∀ k,k<ln→∃ r:Ie,R[k]?=some r∧r.s.size≤maxLen∧r.L.length≤maxLen∧∀ w',Below w.heap.size w w'→∃ b off,A=some ⟨b,off,none⟩∧w'.cell? ⟨b,off+k*2,none⟩=some (.string r.s)∧w'.cell? ⟨b,off+k*2+1,none⟩=some (.slice r.A r.L.length r.cap)∧OpsP w' r.A r.L):=fun k hk=>by
   have hkR:k<R.length:=by omega
   have h2:=hr _ (List.getElem_mem hkR)
   exact ⟨R[k],List.getElem?_eq_getElem hkR,h2.1,h2.2,fun w' h=>(H.below h).at_ hkR⟩
  have h12':=h12
  clear hm H hr hM hln h12
  go_enter Tryz.func3,Tryz.ntmps3
  go_wp2
  go_loopw [18] (fun x wr=>∃ k:Nat,k≤ln∧x=.int .i64 k∧Hid (∀ j r,j<k→R[j]?=some r→r.s.size≤100∧r.L.length≤20)∧Hid (Below w.heap.size w wr)) (fun x _=>ln - (intOf x).toNat)
  case atStart=>exact ⟨0,Nat.zero_le _,rfl,fun j r hj=>absurd hj (Nat.not_lt_zero _),Below.refl _ _⟩
  case round=>
   obtain ⟨k,hk,rfl,G,BW⟩:=hrel
   by_cases hlt:k<ln
   ·obtain ⟨r,hrk,hs1,hs2,hx⟩:=HX.out k hlt
    obtain ⟨b1,o1,rfl,p0,p1,-⟩:=hx wr BW.out
    unfold maxLen at hs1 hs2
    have GS:Hid (r.s.size≤100∧r.L.length≤20→∀ j r,j<k+1→R[j]?=some r→r.s.size≤100∧r.L.length≤20):=fun h j r' hj hr'=>by
     by_cases e:j=k
     ·subst e
      rw [hrk] at hr'
      obtain rfl:=Option.some.inj hr'
      exact h
     ·exact G.out j r' (by omega) hr'
    obtain ⟨⟨s,A1,c1,L1⟩,hre⟩:∃ z,r=z:=⟨_,rfl⟩
    rw [hre] at p0 p1 GS hs1 hs2
    simp only at p0 p1 GS hs1 hs2
    obtain ⟨l1,hl1⟩:∃ z,L1.length=z:=⟨_,rfl⟩
    rw [hl1] at p1 GS hs2
    obtain ⟨y,w3,hy,hw3,S3,y3,z3⟩:=Fr.box (Fr.nil wr) #[.string s,.slice A1 l1 c1] 26
    have Ib:w3.heap[y]?=some (.cells #[.string s,.slice A1 l1 c1] 26 (0,0)):=S3.out.1
    obtain ⟨j0,j1⟩:=Fr.cells2 Ib
    have B3:Hid (Below w.heap.size w w3):=BW.out.trans (y3.mono BW.out.size)
    have A0:=AL.out w3 B3.out
    clear HX hx S3 y3 Ib hre hrk BW G HB hl1
    by_cases q1:(s.size:Int) > 100
    ·clear GS
     go_wp2_with fail
     refine A0.mono ?_
     rintro e w4 ⟨rfl,hb⟩
     have B4:Hid (Below w.heap.size w w4):=B3.out.trans (hb.mono B3.out.size)
     clear A0 hb B3
     go_wp2
     go_ret
     exact ⟨rfl,B4.out⟩
    ·by_cases q2:(l1:Int) > 20
     ·clear GS
      go_wp2_with fail
      refine A0.mono ?_
      rintro e w4 ⟨rfl,hb⟩
      have B4:Hid (Below w.heap.size w w4):=B3.out.trans (hb.mono B3.out.size)
      clear A0 hb B3
      go_wp2
      go_ret
      exact ⟨rfl,B4.out⟩
     ·have G2:=Lib.hid (GS.out (by omega))
      clear GS A0
      go_wp2
      go_roundw
      case rel=>exact ⟨k+1,by omega,by go_num,G2.out,B3.out⟩
      case measure=>simp [intOf];omega
   ·obtain rfl:k=ln:=by omega
    have hall:∀ r∈R,r.s.size≤1000∧r.L.length≤900:=fun r hr=>by
     obtain ⟨j,hj,e⟩:=List.getElem_of_mem hr
     have h:=G.out j r (by rw [← HLN.out];exact hj) (by rw [List.getElem?_eq_getElem hj,e])
     omega
    have WA:=wall_any A cap R (by have:=HLN.out;omega) hall wr (HB.out wr BW.out).2 (HB.out wr BW.out).1
    rw [HLN.out] at WA
    unfold RetAllE at WA
    have HBL:=bsE_len2 R (by rw [HLN.out];exact h12')
    have HAL:Hid (∀ r∈R,r.s.size≤1000∧r.L.length≤900):=hall
    have CDC:=cd_cases R
    obtain ⟨bs,hbs⟩:∃ z,bsE R=z:=⟨_,rfl⟩
    obtain ⟨bd,hbd⟩:∃ z,badE R=z:=⟨_,rfl⟩
    obtain ⟨cd,hcd⟩:∃ z,cdE R=z:=⟨_,rfl⟩
    rw [hbs,hbd,hcd] at WA
    rw [hbs,hcd] at CDC
    rw [hbs] at HBL
    obtain ⟨lb,hlb⟩:∃ z,bs.length=z:=⟨_,rfl⟩
    rw [hlb] at WA HBL
    have HLB:=Lib.hid hlb
    clear hall G hbs hbd hcd hlb
    rcases CDC with ⟨rfl,h2,h3⟩ | ⟨h1,rfl⟩
    ·have XS:Hid (itemsR bs=R.map cnT∧onlyB bs=1):=by rw [h2];exact ⟨items_out h3,only_out h3⟩
     clear h2 h3
     go_wp2_with fail
     refine WA.mono ?_
     rintro e w5 ⟨A5,c5,rfl,hO5,hb⟩
     have B5:Hid (Below w.heap.size w w5):=BW.out.trans (hb.mono BW.out.size)
     have hcap:=townB_caps hO5
     have hat5:=townB_at hO5
     have DE:=decode13_any bs A5 c5 lb HLB.out hcap.1 hcap.2 (by omega) w5 hat5 (HB.out w5 B5.out).2
     rw [XS.out.1] at DE
     have SPL:=Lib.hid (fun w' (h:Below w5.heap.size w5 w')=>split_any bs A5 c5 lb HLB.out hcap.1 hcap.2 (by omega) w' (hat5.below h) (HB.out w' (B5.out.trans (h.mono B5.out.size))).2)
     rw [XS.out.2] at SPL
     clear WA hO5 hb hcap hat5 BW
     go_wp2_with fail
     refine DE.mono ?_
     rintro e w6 ⟨A6,c6,R6,rfl,hR6,hO6,hb⟩
     have B56:Hid (Below w5.heap.size w5 w6):=hb
     have B6:Hid (Below w.heap.size w w6):=B5.out.trans (hb.mono B5.out.size)
     have hl6:R6.length=k:=by
      have h:=congrArg List.length hR6
      simp only [List.length_map] at h
      rw [h,HLN.out]
     have HR6:=Lib.hid hR6
     have HL6:=Lib.hid hl6
     have CR6:∀ r∈R6,r.x.C.length≤1000:=fun r hr=>by
      have hmm:r.x∈itemsR bs:=by rw [XS.out.1,← hR6];exact List.mem_map_of_mem hr
      have:=items_C2 hmm
      omega
     have CD6:=code13_any R6 A6 k c6 hl6 (by omega) CR6 w6 (by rw [hl6] at hO6;exact hO6.itsP)
     have I6:=Lib.hid (fun w' (h:Below w6.heap.size w6 w')=>hO6.itsP.below h)
     have CT6:=Lib.hid (fun w' (h:Below w6.heap.size w6 w')=>count13_any 1 R6 A6 k c6 HL6.out (by omega) w' (I6.out w' h))
     have cnt1:cntI (R6.map Xe.x) 1=k:=by
      unfold cntI
      rw [hR6,all_one,List.length_map,HLN.out]
     rw [cnt1] at CT6
     have HCR6:=Lib.hid CR6
     rw [hl6]
     clear DE hR6 hl6 CR6 hO6 hb B5 cnt1
     go_wp2_with fail
     refine CD6.mono ?_
     rintro e w7 ⟨A7,c7,E7,rfl,hE7,hO7,hb⟩
     have B67:Hid (Below w6.heap.size w6 w7):=hb
     have B57:Hid (Below w5.heap.size w5 w7):=B56.out.trans (hb.mono B56.out.size)
     have B7:Hid (Below w.heap.size w w7):=B6.out.trans (hb.mono B6.out.size)
     rw [HR6.out,all_one,List.map_map] at hE7
     have hl7:E7.length=k:=by
      have h:=congrArg List.length hE7
      simp only [List.length_map] at h
      rw [h,HLN.out]
     obtain ⟨A7',c7',e7,hI7,-⟩:=hO7.ins
     simp only [Value.slice.injEq] at e7
     obtain ⟨rfl,-,-⟩:=e7
     have HY:Hid (∀ j,j<k→∃ r:Ie,R[j]?=some r∧(canL (opc r.s) r.L).length≤3∧∃ B7 d7,∀ w',Below w7.heap.size w7 w'→(∃ b off,A7=some ⟨b,off,none⟩∧w'.cell? ⟨b,off+j*2,none⟩=some (.string r.s)∧w'.cell? ⟨b,off+j*2+1,none⟩=some (.slice B7 (canL (opc r.s) r.L).length d7)∧OpsP w' B7 (canL (opc r.s) r.L))∧∃ b off,A6=some ⟨b,off,none⟩∧w'.cell? ⟨b,off+j*5+4,none⟩=some (.bool false)):=fun j hj=>by
      have hjR:j<R.length:=by rw [HLN.out];exact hj
      have hj7:j<E7.length:=by rw [hl7];exact hj
      have hj6:j<R6.length:=by rw [HL6.out];exact hj
      have e1:ieP E7[j]=(R[j].s,canL (opc R[j].s) R[j].L):=by
       have h:=congrArg (fun l=>l[j]?) hE7
       simp only [List.getElem?_map,List.getElem?_eq_getElem hj7,List.getElem?_eq_getElem hjR,Option.map_some,Option.some.injEq] at h
       rw [h]
       show (sB (sT R[j].s),_)=_
       rw [sB_sT]
       rfl
      obtain ⟨es,eL⟩:E7[j].s=R[j].s∧E7[j].L=canL (opc R[j].s) R[j].L:=Prod.mk.inj e1
      have e6:R6[j].x=cnT R[j]:=by
       have h:=congrArg (fun l=>l[j]?) HR6.out
       simp only [List.getElem?_map,List.getElem?_eq_getElem hj6,List.getElem?_eq_getElem hjR,Option.map_some,Option.some.injEq] at h
       exact h
      refine ⟨R[j],List.getElem?_eq_getElem hjR,?_,E7[j].A,E7[j].cap,fun w' h=>⟨?_,?_⟩⟩
      ·have hmm:cnT R[j]∈itemsR bs:=by rw [XS.out.1];exact List.mem_map_of_mem (List.getElem_mem hjR)
       exact items_C2 hmm
      ·have h8:=(hI7.below h).at_ hj7
       unfold Ie.v at h8
       rw [es,eL] at h8
       exact h8
      ·obtain ⟨b',o',q1,q2,q3,q4,q5,q6,-⟩:=(I6.out w' (B67.out.trans (h.mono B67.out.size))).j hj6
       rw [e6] at q6
       exact ⟨b',o',q1,q6⟩
     have CT7:=CT6.out w7 hb
     rw [hl7]
     clear CD6 hE7 hO7 hb hI7 hl7 CT6 I6 HR6 HL6 HCR6
     go_wp2_with fail
     refine CT7.mono ?_
     rintro e w8 ⟨rfl,hb⟩
     have B78:Hid (Below w7.heap.size w7 w8):=hb
     have B58:Hid (Below w5.heap.size w5 w8):=B57.out.trans (hb.mono B57.out.size)
     have B8:Hid (Below w.heap.size w w8):=B7.out.trans (hb.mono B7.out.size)
     have S8:=SPL.out w8 B58.out
     have tk:((k:Int) != (k:Int))=false:=bne_self_eq_false _
     clear CT7 hb SPL B57
     go_wp2_with fail
     refine S8.mono ?_
     rintro e w9 ⟨rfl,hb⟩
     have B79:Hid (Below w7.heap.size w7 w9):=B78.out.trans (hb.mono B78.out.size)
     have B9:Hid (Below w.heap.size w w9):=B8.out.trans (hb.mono B8.out.size)
     clear S8 hb B78 B8 B58
     go_wp2
     go_loopw [78] (fun x wr=>∃ j:Nat,j≤k∧x=.int .i64 j∧Hid (Below w9.heap.size w9 wr)) (fun x _=>k - (intOf x).toNat)
     case atStart=>exact ⟨0,Nat.zero_le _,rfl,Below.refl _ _⟩
     case round=>
      obtain ⟨j,hj,rfl,BW⟩:=hrel
      have BX:Hid (Below w.heap.size w wr):=B9.out.trans (BW.out.mono B9.out.size)
      by_cases hlt2:j<k
      ·obtain ⟨r,e1,-,-,hx⟩:=HX.out j hlt2
       obtain ⟨r2,e2,hC,Bc,dc,hy⟩:=HY.out j hlt2
       rw [e1] at e2
       obtain rfl:=Option.some.inj e2
       have hL9:=(HAL.out r (List.mem_of_getElem? e1)).2
       obtain ⟨b1,o1,rfl,p0,p1,-⟩:=hx wr BX.out
       have BY:Hid (Below w7.heap.size w7 wr):=B79.out.trans (BW.out.mono B79.out.size)
       obtain ⟨⟨b7,o7,rfl,-⟩,⟨b6,o6,rfl,-⟩⟩:=hy wr BY.out
       obtain ⟨C,hCe⟩:∃ z,canL (opc r.s) r.L=z:=⟨_,rfl⟩
       have RO:=Lib.hid (fun w' (h:OpsP w' r.A r.L)=>rof_any r.s r.A r.cap r.L hL9 w' h)
       rw [hCe] at hC hy RO
       obtain ⟨nc,hnc⟩:∃ z,C.length=z:=⟨_,rfl⟩
       obtain ⟨nl,hnl⟩:∃ z,r.L.length=z:=⟨_,rfl⟩
       rw [hnc] at hC hy
       rw [hnl] at RO p1
       have HNC:=Lib.hid hnc
       obtain ⟨y,w3,hy3,hw3,S3,y3,z3⟩:=Fr.box (Fr.nil wr) #[.string r.s,.slice r.A nl r.cap] 26
       have Ib:w3.heap[y]?=some (.cells #[.string r.s,.slice r.A nl r.cap] 26 (0,0)):=S3.out.1
       have HO3:=Lib.hid (fun w' (h:Below w3.heap.size w3 w')=>(hx w' (BX.out.trans ((y3.trans (h.mono y3.size)).mono BX.out.size))).choose_spec.choose_spec.2.2.2)
       have CL:Hid (∀ w',Below w3.heap.size w3 w'→(w'.cell? ⟨b7,o7+j*2,none⟩=some (.string r.s)∧w'.cell? ⟨b7,o7+j*2+1,none⟩=some (.slice Bc nc dc)∧OpsP w' Bc C)∧w'.cell? ⟨b6,o6+j*5+4,none⟩=some (.bool false)∧w'.cell? ⟨y,0,none⟩=some (.string r.s)∧w'.cell? ⟨y,1,none⟩=some (.slice r.A nl r.cap)):=fun w' h=>by
        obtain ⟨⟨b7',o7',f1,f2,f3,f4⟩,⟨b6',o6',f5,f6⟩⟩:=hy w' (BY.out.trans ((y3.trans (h.mono y3.size)).mono BY.out.size))
        cases f1
        cases f5
        obtain ⟨g0,g1⟩:=Fr.cells2 ((h.block y (Array.getElem?_eq_some_iff.1 Ib).1).trans Ib)
        exact ⟨⟨f2,f3,f4⟩,f6,g0,g1⟩
       have BW3:Hid (Below w9.heap.size w9 w3):=BW.out.trans (y3.mono BW.out.size)
       obtain ⟨j0,j1⟩:=Fr.cells2 Ib
       clear hx hy S3 y3 Ib e1 hL9 hCe hnc hnl BX BW BY HX HY HAL
       go_upto_region 19 with fail
       clear j0 j1 p0 p1
       obtain ⟨w4,hw4⟩:∃ z,w3.drew=z:=⟨_,rfl⟩
       have BB4:Hid (Below w3.heap.size w3 w4):=by rw [← hw4];exact below_drewN w3 _ 1
       refine Mixed.wp_region_mixed (fun w'=>Below w3.heap.size w3 w') 14 [(0,true),(1,true),(2,true),(3,true),(4,true),(5,false),(6,false),(7,true),(8,true),(9,true),(10,true),(11,true),(12,true),(13,true)] (by kernel_rfl) (by kernel_rfl) (by rw [hw4];exact BB4.out) ?_
       rw [hw4]
       clear hw4
       refine Mixed.mo rfl (.slice (some ⟨b7,o7,none⟩) k c7) (fun w h=>by clear h;go_simp;try rfl) ?_
       refine Mixed.mo rfl (.int .i64 j) (fun w h=>by clear h;go_simp;try rfl) ?_
       refine Mixed.mo rfl (.pointer (some ⟨b7,o7+j*2,none⟩)) (fun w h=>by clear h;go_simp;try rfl) ?_
       refine Mixed.mo rfl (.agg #[.string r.s,.slice Bc nc dc]) (fun w h=>by obtain ⟨⟨h1,h2,-⟩,-⟩:=CL.out w h;clear h;go_simp;try rfl) ?_
       refine Mixed.mo rfl (.agg #[.string r.s,.slice r.A nl r.cap]) (fun w h=>by obtain ⟨-,-,h1,h2⟩:=CL.out w h;clear h;go_simp;try rfl) ?_
       refine Mixed.wpMix_loud rfl ?_
       have R4:=RO.out w4 (HO3.out w4 BB4.out)
       clear RO HO3
       go_wp2_with fail
       refine R4.mono ?_
       rintro e w5 ⟨v5,rfl,hO5,hb⟩
       obtain ⟨A9,c9,rfl,hP5,-,-⟩:=hO5.ops
       rw [HNC.out]
       have BB5:Hid (Below w3.heap.size w3 w5):=BB4.out.trans (hb.mono BB4.out.size)
       have xx:=BB5.out
       have SM:=same07z r.s Bc A9 dc c9 nc C HNC.out (by omega) w5 (CL.out w5 BB5.out).1.2.2 hP5
       clear R4 hO5 hb hP5 BB4
       go_wp2
       refine ⟨xx,?_⟩
       clear xx
       refine Mixed.wpMix_loud rfl ?_
       go_wp2_with fail
       refine SM.mono ?_
       rintro e w6 ⟨rfl,hb⟩
       have BB6:Hid (Below w3.heap.size w3 w6):=BB5.out.trans (hb.mono BB5.out.size)
       have xx:=BB6.out
       clear SM hb BB5
       go_wp2
       refine ⟨xx,?_⟩
       clear xx
       refine Mixed.mo rfl (.bool false) (fun w h=>by clear h;go_simp;try rfl) ?_
       refine Mixed.mo rfl (.bool false) (fun w h=>by clear h;go_simp;try rfl) ?_
       refine Mixed.mo rfl (.slice (some ⟨b6,o6,none⟩) k c6) (fun w h=>by clear h;go_simp;try rfl) ?_
       refine Mixed.mo rfl (.int .i64 j) (fun w h=>by clear h;go_simp;try rfl) ?_
       refine Mixed.mo rfl (.pointer (some ⟨b6,o6+j*5,none⟩)) (fun w h=>by clear h;go_simp;try rfl) ?_
       refine Mixed.mo rfl (.pointer (some ⟨b6,o6+j*5+4,none⟩)) (fun w h=>by clear h;go_simp;try rfl) ?_
       refine Mixed.mo rfl (.bool false) (fun w h=>by obtain ⟨-,h1,-⟩:=CL.out w h;clear h;go_simp;try rfl) ?_
       have BF:Hid (Below w9.heap.size w9 w6):=BW3.out.trans (BB6.out.mono BW3.out.size)
       clear CL BB6 BW3
       simp only [Mixed.wpMix,List.drop_succ_cons,List.drop_zero]
       go_wp2
       go_roundw
       case rel=>exact ⟨j+1,by omega,by go_num,BF.out⟩
       case measure=>simp [intOf];omega
      ·obtain rfl:j=k:=by omega
       have A0:=AL.out wr BX.out
       clear HX HY AL BW
       go_wp2_with fail
       refine A0.mono ?_
       rintro e w10 ⟨rfl,hb⟩
       have B10:Hid (Below w.heap.size w w10):=BX.out.trans (hb.mono BX.out.size)
       clear A0 hb BX
       go_wp2
       go_ret
       exact ⟨rfl,B10.out⟩
    ·have tcd:(cd != 0)=true:=bne_iff_ne.2 h1
     obtain rfl:lb=0:=HLB.out.symm
     clear HX h1
     go_wp2_with fail
     refine WA.mono ?_
     rintro e w5 ⟨A5,c5,rfl,-,hb⟩
     have B5:Hid (Below w.heap.size w w5):=BW.out.trans (hb.mono BW.out.size)
     have A0:=AL.out w5 B5.out
     clear WA hb BW AL
     go_wp2_with fail
     refine A0.mono ?_
     rintro e w6 ⟨rfl,hb⟩
     have B6:Hid (Below w.heap.size w w6):=B5.out.trans (hb.mono B5.out.size)
     clear A0 hb B5
     go_wp2
     go_ret
     exact ⟨rfl,B6.out⟩
 ·have t12:(ln:Int) > 12:=by omega
  have al:=AL.out w (Below.refl _ _)
  clear hm H hr hM AL
  go_enter Tryz.func3,Tryz.ntmps3
  go_wp2_with fail
  refine al.mono ?_
  rintro e w6 ⟨rfl,hb⟩
  have B6:=Lib.hid hb
  clear al hb
  go_wp2
  go_ret
  exact ⟨rfl,B6.out⟩
end Go.Proofs.YtmnleknehjkmgaaGreatDoor
namespace Go.Proofs.YtmnleknehjkmgaaGreatDoor
open Go.RowKit
variable {H:Type} {enc:TypeId×Value→H}
theorem wrap_shaped {a:Assume} {C:Checked} {os:Os} {f:FuncId} {fn:Func} {s:ChangeSpec} {conds:List PathCond} {apart fresh handsOn again:Bool} {X:World→Array Value→Prop}
  (hX:∀ (w w':World) (args:Array Value),w.heap=w'.heap→X w args→X w' args)
  (own:ownKnob C.prog.godebug=none) (started:os.Started) (noInit:C.prog.inits.idxOf? f=none) (hfn:C.prog.funcs[f]?=some fn)
  (witness:∃ (w:World) (tape:Tape) (i:Input),w.os=os∧(w.forCall tape i).Shaped C.prog∧i.vars=[]∧Input.okWide C.prog (w.forCall tape i) .any w.heap.size f i∧
   ((s.pre enc C.prog fn conds apart (w.forCall tape i).memory i.args∧X (w.forCall tape i).memory i.args)∧sizedMet enc C.prog fn (OpenSpec.ofChange s) apart (w.forCall tape i).memory i.args)∧a.holds C.prog (lone (Frame.enter C.prog f i.args .normal) [] (w.forCall tape i)))
  (body:∀ (W:World) (base:Nat) (args:Array Value) (ds gs:List (DataW H)) (before:List MemPlace),
   (∀ (j:Nat) t v,fn.params[j]?=some t→args[j]?=some v→Value.okWide C.prog W .any base t v)→
   DataW.Whole enc C.prog fn.params.toList s.vars apart W args.toList ds gs before→X W args→W.ShapedOpen C.prog→
   Calls C.prog f args W fun e W'=>∃ v,e=.returned v∧s.post enc C.prog fn apart fresh handsOn again W args v W') :
  ReturnsInHanded a C os f .any (fun w args=>(s.pre enc C.prog fn conds apart w args∧X w args)∧sizedMet enc C.prog fn (OpenSpec.ofChange s) apart w args) (s.post enc C.prog fn apart fresh handsOn again):=by
 refine returnsInHanded_of_calls own started noInit witness fun w tape i _ hsh _ hok hpre _=>?_
 obtain ⟨_,_,_,g,hg,_,_,_,_,hval⟩:=hok
 cases Option.some.inj (hg.symm.trans hfn)
 obtain ⟨⟨⟨ds,gs,before,hw,_⟩,hx⟩,_⟩:=hpre
 refine (body _ w.heap.size i.args ds gs before hval (DataW.Whole.of_heap (w':=w.forCall tape i) (by rfl) hw) (hX _ _ _ (by rfl) hx) hsh).mono ?_
 rintro e W' ⟨v,rfl,hp⟩
 exact ChangeSpec.post_blind hp
theorem max_of_shape {W:World} (h:W.ShapedOpen Tryz.prog):MaxAt W:=
 cell_of_shapedOpen_int (g:=0) (t:=3) (zero:=#[.int .i64 0]) h (of_decide_eq_true (by kernel_rfl)) (by kernel_rfl) rfl (by kernel_rfl) (by kernel_rfl) Tryz.underlying3
end Go.Proofs.YtmnleknehjkmgaaGreatDoor
