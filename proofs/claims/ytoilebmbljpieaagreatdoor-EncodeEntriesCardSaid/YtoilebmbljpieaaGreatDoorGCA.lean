/-
  FoA, WrQ, ArI.
-/
import Derived.Test.YtoilebmbljpieaaGreatDoorGAW
import Derived.Deep.DeepCutAuto
import Derived.Deep.Cut
import Derived.StillTail
import Derived.StillTailTactics
import Derived.Deep.RegionHeld3
import Derived.RegionTactic
import Derived.Test.YtoilebmbljpieaaGreatDoorGBP
import Derived.Test.YtoilebmbljpieaaGreatDoorGAA
import Derived.ProofKit
import Derived.OpenShut
set_option linter.all false
set_option maxRecDepth 100000
set_option maxHeartbeats 4000000
namespace Go.Proofs.YtoilebmbljpieaaGreatDoor
open Go.RowKit Go.Shelf
attribute [local irreducible] Go.Mixed.wpMix
def lenE (x:En):Bool:=decide (x.1.length≤10)&&decide (x.2.1.length≤3)&&decide (x.2.2.1.length≤3)
def lenN (p n:Nat):Bool:=match atN p n with | some x=>lenE x | none=>kindT p n == rkindT p n
theorem len_0:∀ n:Fin 256,lenN 0 n.val=true:=by decide +kernel
theorem len_1:∀ n:Fin 256,lenN 1 n.val=true:=by decide +kernel
theorem len_2:∀ n:Fin 256,lenN 2 n.val=true:=by decide +kernel
theorem len_3:∀ n:Fin 256,lenN 3 n.val=true:=by decide +kernel
theorem len_4:∀ n:Fin 256,lenN 4 n.val=true:=by decide +kernel
theorem len_5:∀ n:Fin 256,lenN 5 n.val=true:=by decide +kernel
theorem len_6:∀ n:Fin 256,lenN 6 n.val=true:=by decide +kernel
theorem len_all (p n:Nat) (hp:p<7) (hn:n<256):lenN p n=true:=by
 rcases (by omega:p=0∨p=1∨p=2∨p=3∨p=4∨p=5∨p=6) with rfl | rfl | rfl | rfl | rfl | rfl | rfl
 ·exact len_0 ⟨n,hn⟩
 ·exact len_1 ⟨n,hn⟩
 ·exact len_2 ⟨n,hn⟩
 ·exact len_3 ⟨n,hn⟩
 ·exact len_4 ⟨n,hn⟩
 ·exact len_5 ⟨n,hn⟩
 ·exact len_6 ⟨n,hn⟩
theorem len_some {page:Int} {n:Nat} (hn:n<256) {x:En} (h:ratT page n=some x):x.1.length≤10∧x.2.1.length≤3∧x.2.2.1.length≤3:=by
 by_cases hp:0≤page∧page≤6
 ·obtain ⟨p,rfl⟩:∃ p:Nat,page=p:=⟨page.toNat,by omega⟩
  have h1:=len_all p n (by omega) hn
  rw [← at_same _ n hn,atN_eq p n hn] at h
  unfold lenN at h1
  rw [h] at h1
  unfold lenE at h1
  simp only [Bool.and_eq_true,decide_eq_true_eq] at h1
  exact ⟨h1.1.1,h1.1.2,h1.2⟩
 ·rw [ratT_no hp] at h
  cases h
theorem ok_none {page:Int} {n:Nat} (hn:n<256) (h:ratT page n=none):kindT page n=rkindT page n:=by
 by_cases hp:0≤page∧page≤6
 ·obtain ⟨p,rfl⟩:∃ p:Nat,page=p:=⟨page.toNat,by omega⟩
  have h1:=len_all p n (by omega) hn
  rw [← at_same _ n hn,atN_eq p n hn] at h
  unfold lenN at h1
  rw [h] at h1
  exact eq_of_beq h1
 ·unfold kindT rkindT
  rw [if_pos (by omega),if_neg (by omega),if_neg (by omega),if_neg (by omega)]
def formT (page:Int) (n:Nat):Int×Int×Str×List Tr×Str×Bool×Int:=match ratT page n with
 | some x=>(page,n,x.1,x.2.1,x.2.2.1,x.2.2.2,1)
 | none=>(0,0,[],[],[],false,rkindT page n)
theorem form_code {w w':World} {page:Int} {n:Nat} (hn:n<256) {e:Ending} (h:RetAt w page n (atT page n) e w') {g o k:Int} {m ex:Str} {L:List Tr} {al:Bool} (hf:formT page n=(g,o,m,L,ex,al,k)) :
  ∃ A cap,e=.returned (.tuple #[enV g o m (.slice A L.length cap) ex al,.int .i64 k])∧OpsP w' A L∧Below w.heap.size w w':=by
 obtain ⟨h1,h2⟩:=h
 rw [at_same page n hn] at h1
 unfold formT at hf
 cases hx:ratT page n with
 | none=>
  rw [hx] at h1 hf
  cases hf
  refine ⟨none,0,?_,.inl rfl,h2⟩
  rw [← ok_none hn hx]
  exact h1
 | some x=>
  rw [hx] at h1 hf
  cases hf
  obtain ⟨v,h3,h4⟩:=h1
  obtain ⟨A,cap,rfl,hP,-⟩:=h4.ops
  exact ⟨A,cap,h3,hP,h2⟩
theorem form_ref {w w':World} {page:Int} {n:Nat} {e:Ending} (h:RetRAt w page n (rkindT page n) (ratT page n) e w') {g o k:Int} {m ex:Str} {L:List Tr} {al:Bool} (hf:formT page n=(g,o,m,L,ex,al,k)) :
  ∃ A cap,e=.returned (.tuple #[enV g o m (.slice A L.length cap) ex al,.int .i64 k])∧OpsP w' A L∧Below w.heap.size w w':=by
 obtain ⟨h1,h2⟩:=h
 unfold formT at hf
 cases hx:ratT page n with
 | none=>
  rw [hx] at h1 hf
  cases hf
  exact ⟨none,0,h1,.inl rfl,h2⟩
 | some x=>
  rw [hx] at h1 hf
  cases hf
  obtain ⟨v,h3,h4⟩:=h1
  obtain ⟨A,cap,rfl,hP,-⟩:=h4.ops
  exact ⟨A,cap,h3,hP,h2⟩
theorem form_kind {page:Int} {n:Nat} (hn:n<256) {g o k:Int} {m ex:Str} {L:List Tr} {al:Bool} (hf:formT page n=(g,o,m,L,ex,al,k)):L.length≤3∧((k≠1)∨(k=1∧g=page∧ratT page n=some (m,L,ex,al))):=by
 unfold formT at hf
 cases hx:ratT page n with
 | none=>
  rw [hx] at hf
  cases hf
  refine ⟨by simp,.inl ?_⟩
  unfold rkindT
  split
  ·decide
  ·split
   ·decide
   ·split <;> decide
 | some x=>
  rw [hx] at hf
  cases hf
  exact ⟨(len_some hn hx).2.1,.inr ⟨rfl,rfl,rfl⟩⟩
theorem int_nat {b:Int} (h:0≤b∧b≤255):∃ n:Nat,n<256∧b=n:=⟨b.toNat,by omega,by omega⟩
end Go.Proofs.YtoilebmbljpieaaGreatDoor
namespace Go.Proofs.YtoilebmbljpieaaGreatDoor
open Go.RowKit Go.Shelf
attribute [local go_sem] Oper.semAt_some
theorem rem7E (a:Int) (h:0≤a∧a≤255):∃ P:Nat,P<7∧a.tmod 7=(P:Int):=⟨(a.tmod 7).toNat,by have:=Int.tmod_eq_emod_of_nonneg (b:=7) h.1;omega,by have:=Int.tmod_eq_emod_of_nonneg (b:=7) h.1;omega⟩
theorem u8_inE {b:Int} (h:(Lit.int .u8 b).wf=true):0≤b∧b≤255:=by
 have h3:IntKind.u8.min≤b∧b≤IntKind.u8.max:=by simpa [Lit.wf] using h
 exact h3
theorem walkEE (a:Int) (c:Int) (d q:Int) (w:World) (wa:(Lit.int .u8 a).wf=true) (wc:(Lit.int .u8 c).wf=true) (hM:MaxAt w) :
  Calls Tryz.prog 4 #[.int .u8 a,.int .u8 c,.agg #[.int .i64 d,.int .i64 q]] w fun e w'=>e=.returned (.bool true)∧Below w.heap.size w w':=by
 have ha:=u8_inE wa
 obtain ⟨P,hP,eP⟩:=rem7E a ha
 obtain ⟨i,hi,rfl⟩:=int_nat (u8_inE wc)
 obtain ⟨⟨g,o,m,L,ex,al,k⟩,hf⟩:∃ f,formT (P:Int) i=f:=⟨_,rfl⟩
 have AT:=Lib.hid (fun w' h=>(tat_any (P:Int) i (by omega) (by omega) w' h).mono fun e w2 hr=>form_code hi hr hf)
 have RA:=Lib.hid (fun w'=>(rat_any (P:Int) i hi w').mono fun e w2 hr=>form_ref hr hf)
 have HK:=Lib.hid (form_kind hi hf)
 have HF:=Lib.hid hf
 obtain ⟨v,hv⟩:∃ n,L.length=n:=⟨_,rfl⟩
 simp only [hv] at AT RA
 obtain ⟨n,hn⟩:∃ n,w.heap.size=n:=⟨_,rfl⟩
 have HN:=Lib.hid hn
 have HV:=Lib.hid hv
 obtain ⟨b0,w0,hb0,hw0,S0,y0,z0⟩:=Fr.box (Fr.start w n hn) #[.int .i64 d,.int .i64 q] 36
 rw [hn] at hb0
 subst hb0
 have HM:Hid (∀ w',Below n w w'→MaxAt w'):=fun w' h=>hM.below (by rw [HN.out];exact h)
 unfold enV at AT RA
 clear hM y0 hv hf wa wc
 go_enter Tryz.func4,Tryz.ntmps4
 go_upto_region 1 with fail
 clear hw0
 go_wp2_with fail
 refine (AT.out w0 (HM.out _ S0.out.2.1.1)).mono ?_
 rintro e w1 ⟨A1,c1,rfl,hP1,hb⟩
 have S1:=Fr.add (Fr.up S0 hb) (opsF A1 L) hP1
 clear hP1 hb AT S0 z0
 go_upto_region 2 with fail
 obtain ⟨b,w2,hbs,hw2,S2,y2,z2⟩:=Fr.box S1 #[.int .i64 g,.int .u8 o,.string (sB m),.slice A1 v c1,.string (sB ex),.bool al] 38
 rw [hw2,hbs]
 clear hw2 hbs S1 y2 z2
 go_wp2_with fail
 refine (RA.out w2).mono ?_
 rintro e w3 ⟨A2,c2,rfl,hP3,hb⟩
 have S3:=Fr.add (Fr.up S2 hb) (opsF A2 L) hP3
 clear hP3 hb RA S2
 go_upto_region 3 with fail
 obtain ⟨x,w4,hxs,hw4,S4,y4,z4⟩:=Fr.box S3 #[.int .i64 g,.int .u8 o,.string (sB m),.slice A2 v c2,.string (sB ex),.bool al] 41
 rw [hw4,hxs]
 clear hw4 hxs S3 y4 z4
 obtain ⟨-,-,-,-,-,⟨B4,Z4⟩,-⟩:=S4.out
 rcases HK.out.2 with hk | ⟨rfl,rfl,hrt⟩
 ·have hk1:(k == 1)=false:=by simpa using hk
  have hk2:(k != 1)=true:=by simpa using hk
  have hk3:¬k=1:=hk
  have hk4:(k == k)=true:=beq_self_eq_true _
  have al:=walive_any w4 (HM.out _ B4)
  have OUT:Hid (∀ w6,Below w4.heap.size w4 w6→Below n w w6):=fun w6 h6=>B4.trans (h6.mono Z4)
  clear hk B4 Z4 S4
  go_wp2_with fail
  refine al.mono ?_
  rintro e w6 ⟨rfl,hb6⟩
  have B6:=Lib.hid (OUT.out _ hb6)
  clear al hb6
  go_wp2
  go_ret
  exact ⟨rfl,by rw [HN.out];exact B6.out⟩
 ·have ho:o=(i:Int):=by
   have h:=HF.out
   unfold formT at h
   rw [hrt] at h
   simp only [Prod.mk.injEq] at h
   exact h.2.1.symm
  subst ho
  have hin:InTab ((P:Int),(i:Int),m,L,ex,al):=⟨i,hi,rfl,hrt⟩
  have hok:=hin.ok
  have hlet:=hin.lets
  have h1:=hok.m
  have h2:=hok.ex
  have h3:=hok.len
  have h5:=hok.places
  have hle:=enc_len hin d q
  simp only at h1 h2 h3 h5 hlet hle
  obtain ⟨op,hop⟩:∃ op:UInt8,(op.toNat:Int)=(i:Int):=⟨UInt8.ofNat i,by rw [UInt8.toNat_ofNat_of_lt' (show i<256 from hi)]⟩
  rw [← hop] at hle
  have BP:=fun w' p=>wbytes_any (P:Int) op m (by omega) A1 c1 v L HV.out (by have:=HV.out;omega) ex (by omega) al hlet d q w' p
  have BR:=fun w' p=>rbytes_any (P:Int) op m A2 c2 v L HV.out (by have:=HV.out;omega) ex (by omega) al d q w' p
  rw [fill_same h5] at BR
  have SZ:=fun w'=>size_any (P:Int) (op.toNat:Int) m A1 v c1 ex (by omega) al w'
  have S5:Hid (Fr.St w4 _):=S4
  rw [← hop] at S5
  rw [← hop]
  obtain ⟨bs,hbs⟩:∃ z,encB (P:Int) (op.toNat:Int) ex d q=z:=⟨_,rfl⟩
  obtain ⟨fo,hfo⟩:∃ z,fillV ex L d q=z:=⟨_,rfl⟩
  obtain ⟨lb,hlb⟩:∃ z,bs.length=z:=⟨_,rfl⟩
  obtain ⟨sz,hsz⟩:∃ z,sizeT (P:Int) ex=z:=⟨_,rfl⟩
  rw [hbs,hfo] at BP BR
  rw [hbs,hlb,hsz] at hle
  rw [hsz] at SZ
  obtain ⟨rfl,hle1,hle2⟩:=hle
  have HLB:=Lib.hid hlb
  unfold enV RetBy at BP BR
  unfold enV at SZ
  have SZ:=Lib.hid SZ
  have BP:=Lib.hid BP
  have BR:=Lib.hid BR
  clear h1 h2 h3 h5 hok hin hrt hbs hfo hsz HF HK hop hlet B4 Z4 S4 hi
  obtain ⟨e0,e1,e2,e3,e4,e5⟩:=Fr.cells6 S5.out.2.2.1
  obtain ⟨k0,k1⟩:=Fr.cells2 S5.out.2.2.2.2.1
  have bp:=BP.out w4 S5.out.2.2.2.1
  clear BP
  cases fo with
  | none=>
   simp only [Option.map_none] at bp BR
   go_wp2_with fail
   refine bp.mono ?_
   rintro e w5 ⟨rfl,hb⟩
   have S6:=Fr.up S5 hb
   have br:=BR.out w5 S6.out.2.1
   obtain ⟨f0,f1,f2,f3,f4,f5⟩:=Fr.cells6 S6.out.1
   obtain ⟨l0,l1⟩:=Fr.cells2 S6.out.2.2.2.2.1
   clear bp BR hb S5 e0 e1 e2 e3 e4 e5 k0 k1 SZ
   go_wp2_with fail
   refine br.mono ?_
   rintro e w6 ⟨rfl,hb⟩
   have S7:=Fr.up S6 hb
   have B7:Hid (Below n w w6∧n≤w6.heap.size):=S7.out.2.2.2.2.2.1
   have al:=walive_any w6 (HM.out _ B7.out.1)
   clear br hb S6 S7 f0 f1 f2 f3 f4 f5 l0 l1
   go_wp2_with fail
   refine al.mono ?_
   rintro e w7 ⟨rfl,hb⟩
   have B8:Hid (Below n w w7∧n≤w7.heap.size):=⟨B7.out.1.trans (hb.mono B7.out.2),Nat.le_trans B7.out.2 hb.size⟩
   have eq:=equalU_any none none 0 0 [] [] (by decide) (by decide) w7 (.inl rfl) (.inl rfl)
   rw [decide_eq_true rfl] at eq
   clear al hb B7
   go_wp2_with fail
   refine eq.mono ?_
   rintro e w8 ⟨rfl,hb⟩
   have B9:Hid (Below n w w8):=B8.out.1.trans (hb.mono B8.out.2)
   clear eq hb B8
   go_wp2
   go_ret
   exact ⟨rfl,by rw [HN.out];exact B9.out⟩
  | some C=>
   simp only [Option.map_some,HLB.out] at bp BR
   go_wp2_with fail
   refine bp.mono ?_
   rintro e w5 ⟨A5,c5,rfl,hO5,hb⟩
   have hP5:BytesAt w5 A5 bs:=by
    obtain ⟨A',c',e,h⟩:=hO5.bytes
    rw [HLB.out] at e
    simp only [Value.slice.injEq] at e
    obtain ⟨rfl,-,rfl⟩:=e
    exact h
   have S6:=Fr.add (Fr.up S5 hb) ⟨fun w=>BytesAt w A5 bs,fun h hb=>h.below hb⟩ hP5
   have br:=BR.out w5 S6.out.2.2.1
   obtain ⟨f0,f1,f2,f3,f4,f5⟩:=Fr.cells6 S6.out.2.1
   obtain ⟨l0,l1⟩:=Fr.cells2 S6.out.2.2.2.2.2.1
   clear bp BR hb S5 e0 e1 e2 e3 e4 e5 k0 k1 hO5 hP5
   go_wp2_with fail
   refine br.mono ?_
   rintro e w6 ⟨A6,c6,rfl,hO6,hb⟩
   have hP6:BytesAt w6 A6 bs:=by
    obtain ⟨A',c',e,h⟩:=hO6.bytes
    rw [HLB.out] at e
    simp only [Value.slice.injEq] at e
    obtain ⟨rfl,-,rfl⟩:=e
    exact h
   have S7:=Fr.add (Fr.up S6 hb) ⟨fun w=>BytesAt w A6 bs,fun h hb=>h.below hb⟩ hP6
   have al:=walive_any w6 (HM.out _ S7.out.2.2.2.2.2.2.2.1.1)
   clear br hb S6 f0 f1 f2 f3 f4 f5 l0 l1 hO6 hP6
   go_wp2_with fail
   refine al.mono ?_
   rintro e w7 ⟨rfl,hb⟩
   have S8:=Fr.up S7 hb
   have eq:=equalU_any A5 A6 c5 c6 bs bs (by rw [HLB.out];unfold maxLen;omega) (by rw [HLB.out];unfold maxLen;omega) w7 S8.out.2.1 S8.out.1
   rw [decide_eq_true rfl,HLB.out] at eq
   clear al hb S7
   go_wp2_with fail
   refine eq.mono ?_
   rintro e w8 ⟨rfl,hb⟩
   have S9:=Fr.up S8 hb
   obtain ⟨e0,e1,e2,e3,e4,e5⟩:=Fr.cells6 S9.out.2.2.2.2.1
   have sz:=SZ.out w8
   clear eq hb S8 SZ
   go_wp2_with fail
   refine sz.mono ?_
   rintro e w9 ⟨rfl,hb⟩
   have B9:Hid (Below n w w9):=S9.out.2.2.2.2.2.2.2.1.1.trans (hb.mono S9.out.2.2.2.2.2.2.2.1.2)
   clear sz hb S9 e0 e1 e2 e3 e4 e5
   have t1:((lb:Int) == (lb:Int))=true:=beq_self_eq_true _
   go_wp2
   go_ret
   exact ⟨rfl,by rw [HN.out];exact B9.out⟩
end Go.Proofs.YtoilebmbljpieaaGreatDoor
namespace Go.Proofs.YtoilebmbljpieaaGreatDoor
open Go.ChangeShapes Go.WideShapes Go.RowKit
theorem okWide_i64x2 {w:World} {r:Reach} {base:Nat} {v:Value} (h:Value.okWide Tryz.prog w r base 36 v):∃ c0 c1,v=.agg #[c0,c1]:=by
 simp only [Value.okWide,Tryz.underlying36] at h
 obtain ⟨cs,h1,h2,_⟩:=h
 have c2:Tryz.prog.cellsOf 36=2:=by kernel_rfl
 rw [c2] at h2
 match cs,h2 with
 | ⟨[c0,c1]⟩,_=>exact ⟨c0,c1,h1⟩
theorem open_i64x2 {H:Type} {enc:TypeId×Value→H} {w:World} {spare:Nat→Bool} {fuel:Nat} {c0 c1:Value} {x:DataW H×List MemPlace} (h:DataW.trod enc Tryz.prog w 0 spare true fuel 36 [c0,c1]=some x) :
  ∃ a b:Int,c0=.int .i64 a∧c1=.int .i64 b:=by
 obtain ⟨xs,m,_,_,_,hx,hi⟩:=DataW.trod_array Tryz.underlying36 h
 have c1':Tryz.prog.cellsOf 3=1:=by kernel_rfl
 match xs,hx with
 | [y0,y1],_=>
  have h0:=hi 0 (by omega)
  have h1:=hi 1 (by omega)
  rw [c1'] at h0 h1
  have h0':DataW.trod enc Tryz.prog w 0 spare true m 3 [c0]=some y0:=h0
  have h1':DataW.trod enc Tryz.prog w 0 spare true m 3 [c1]=some y1:=h1
  obtain ⟨a,e0,_,w0⟩:=DataW.trod_int Tryz.underlying3 h0'
  obtain ⟨b,e1,_,w1⟩:=DataW.trod_int Tryz.underlying3 h1'
  exact ⟨a,b,by simpa using e0,by simpa using e1⟩
end Go.Proofs.YtoilebmbljpieaaGreatDoor
