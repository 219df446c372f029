/-
  EnC, Fr, MixP, DfA, DgB, DgC, TrD.
-/
import Derived.Test.YtclhaejdjogfbaaGreatDoorGAR
import Derived.Test.YtclhaejdjogfbaaGreatDoorGAJ
import Derived.Test.YtclhaejdjogfbaaGreatDoorGAQ
import Derived.Below
import Derived.Lib.Hide
import Derived.Lib.Builder
import Derived.RangeFuncRecord
import Derived.Test.YtclhaejdjogfbaaGreatDoorGAE
import Derived.Test.YtclhaejdjogfbaaGreatDoorGAA
import Derived.Deep.QuietTactic
import Derived.BigQuiet
import Derived.Deep.DeepCutAuto
import Derived.Deep.Cut
import Derived.WalkSmall
import Derived.Laws.RangeString
import Derived.Laws.RangeAny
import Derived.Lib.OthersKept
import Derived.Test.YtclhaejdjogfbaaGreatDoorQ0
set_option linter.all false
set_option maxRecDepth 100000
set_option maxHeartbeats 4000000
namespace Go.Proofs.YtclhaejdjogfbaaGreatDoor
open Go.RowKit Go.Shelf
attribute [local go_sem] Oper.semAt_some
theorem and_255 (x:Int):bits .and .i64 x 255=((byteI x).toNat:Int):=by
 rw [byteI_nat]
 show IntKind.i64.wrap ((BitVec.ofInt 64 x &&& BitVec.ofInt 64 255).toNat:Int)=x % 256
 rw [BitVec.toNat_and,BitVec.toNat_ofInt,BitVec.toNat_ofInt]
 have e:((255:Int) % ((2 ^ 64:Nat):Int)).toNat=2 ^ 8 - 1:=by decide
 rw [e,Nat.and_two_pow_sub_one_eq_mod]
 have h1:=Int.emod_nonneg x (show ((2 ^ 64:Nat):Int)≠0 by decide)
 have h2:(((x % ((2 ^ 64:Nat):Int)).toNat % 2 ^ 8:Nat):Int)=x % 256:=by
  rw [Int.natCast_emod,Int.toNat_of_nonneg h1]
  exact Int.emod_emod_of_dvd x (by decide)
 rw [h2,IntKind.wrap_i64]
 omega
theorem wrap_byte (c:UInt8):IntKind.u8.wrap (c.toNat:Int)=(c.toNat:Int):=by
 have:=c.toNat_lt
 rw [IntKind.wrap_u8]
 omega
theorem byteI_self (c:UInt8):byteI (c.toNat:Int)=c:=by
 have h:=byteI_nat (c.toNat:Int)
 have:=c.toNat_lt
 refine UInt8.toNat_inj.1 ?_
 omega
theorem enc_hi {page op:Int} {ex:Str} {d n:Int} (h:5≤page):encB page op ex d n=preS page++[byteI d,byteI op]:=by unfold encB;rw [if_pos h]
theorem enc_lo {page op:Int} {ex:Str} {d n:Int} (h:¬5≤page):encB page op ex d n=preS page++[byteI op]++ex.flatMap (letB d n):=by unfold encB;rw [if_neg h,List.append_assoc];rfl
theorem flat_step (ex:Str) (d n:Int) (k:Nat) (h:k<ex.length):(ex.take (k+1)).flatMap (letB d n)=(ex.take k).flatMap (letB d n)++letB d n ex[k]:=by
 rw [List.take_succ_eq_append_getElem h,List.flatMap_append]
 simp
theorem flat_len (ex:Str) (d n:Int):(ex.flatMap (letB d n)).length≤2*ex.length:=by
 induction ex with
 | nil=>simp
 | cons c t ih=>
  rw [List.flatMap_cons,List.length_append,List.length_cons]
  have:(letB d n c).length≤2:=by unfold letB;split <;> (try split) <;> simp
  omega
def RetBy (w:World) (o:Option Str) (e:Ending) (w':World):Prop:=match o with
 | some bs=>∃ A cap,e=.returned (.tuple #[.slice A bs.length cap,.bool true])∧TOwnB w' w.heap.size (.slice A bs.length cap) bs∧Below w.heap.size w w'
 | none=>e=.returned (.tuple #[.slice none 0 0,.bool false])∧Below w.heap.size w w'
theorem ref_start (w:World) (page op:Int) (m:Str) (v:Value) (ex:Str) (al:Bool) (n:Nat) (hn:w.heap.size=n):∃ w0,w.alloc (.cells #[.int .i64 page,.int .u8 op,.string (sB m),v,.string (sB ex),.bool al] 63)=w0∧
  RnAt w0 n page op m v ex al∧Below w.heap.size w w0∧w0.heap.size=n+1:=by
 subst hn
 exact ⟨_,rfl,World.alloc_heap_new w _,(Below.refl _ w).alloc (Nat.le_refl _) _,by simp⟩
theorem rbytes_any (page:Int) (op:UInt8) (m:Str) (A:Option Addr) (cap l:Nat) (L:List Tr) (hl:L.length=l) (hL:l≤1000) (ex:Str) (hx:ex.length≤1000) (al:Bool) (d q:Int) (w:World) (H:OpsP w A L) :
  Calls Tryz.prog 33 #[enV page (op.toNat:Int) m (.slice A l cap) ex al,.int .i64 d,.int .i64 q] w (RetBy w ((fillR ex L d q).map fun _=>encB page (op.toNat:Int) ex d q)):=by
 have fi:=fun w' h=>rfill_any page (op.toNat:Int) m A cap l L hl hL ex hx al d q w' h
 unfold enV at fi ⊢
 obtain ⟨bs,hbs⟩:=N9 (encB page (op.toNat:Int) ex d q)
 obtain ⟨fo,hfo⟩:=N9 (fillR ex L d q)
 obtain ⟨ro,hro⟩:=N9 ((fo.map fun _=>bs))
 rw [hfo] at fi
 rw [hbs,hfo,hro]
 have HB:=J9 hbs
 have HRO:=J9 hro
 clear hbs hfo hro
 obtain ⟨n,hn⟩:=N9 (w.heap.size)
 obtain ⟨w0,hw0,E0,b0,z0⟩:=ref_start w page (op.toNat:Int) m (.slice A l cap) ex al n hn
 have FI:=J9 (fi w0 (H.below b0))
 have HN:=J9 hn
 have BB:Hid (Below n w w0):=by rw [← hn];exact b0
 have EE:=J9 E0
 have HL:=J9 hl
 obtain ⟨e0,e1,e2,e3,e4,e5,e6⟩:=E0.cells
 have Z0:n+1≤w0.heap.size:=by omega
 clear H b0 z0 fi hl E0
 go_enter Tryz.func33,Tryz.ntmps33
 go_wp2_with fail
 refine FI.out.mono ?_
 rintro e w1 hr
 cases fo with
 | none=>
  obtain ⟨rfl,hb⟩:=hr
  have B1:Hid (Below n w w1):=BB.out.trans (hb.mono (by omega))
  have Z1:n+1≤w1.heap.size:=by have:=hb.size;omega
  clear hb BB FI e0 e1 e2 e3 e4 e5 e6 hw0
  have F:=fun o=>J9 (show RetBy w ro (.returned (.tuple #[.slice none 0 0,.bool false])) (w1.alloc o) from by rw [← HRO.out];exact ⟨rfl,by rw [HN.out];exact B1.out.alloc (show n≤w1.heap.size by omega) o⟩)
  go_wp2
  go_ret2
  exact (F _).out
 | some C=>
  obtain ⟨v,rfl,hO,hb⟩:=hr
  obtain ⟨Ac,cc,rfl,-,-⟩:=hO.ops
  obtain ⟨lc,hlc⟩:=N9 (C.length)
  rw [hlc]
  have hro:some bs=ro:=HRO.out
  subst hro
  go_upto_region 2 with fail
  obtain ⟨w2,hw2⟩:=N9 (w1.alloc (.cells #[.string (sB m),.slice Ac lc cc] 24))
  have y2:Below w1.heap.size w1 w2:=by rw [← hw2];exact up_alloc _ _
  have bb:=hb.trans (y2.mono hb.size)
  have B2:Hid (Below n w w2):=BB.out.trans (bb.mono (by omega))
  have Z2:n+1≤w2.heap.size:=by have:=bb.size;omega
  have E2:=J9 (EE.out.all bb)
  rw [hw2]
  clear hO hb y2 bb hw2 BB hlc FI HRO e0 e1 e2 e3 e4 e5 e6 hw0 EE Z0
  obtain ⟨e0,e1,e2,e3,e4,e5,e6⟩:=E2.out.cells
  go_upto_region 4 with fail
  obtain ⟨B,hB⟩:=N9 (w2.heap.size)
  have hnB:n+1≤B:=by omega
  obtain ⟨w3,hw3⟩:=N9 (w2.alloc (.cells #[] 5))
  have b3:Below w2.heap.size w2 w3:=by rw [← hw3];exact up_alloc _ _
  have z3:w3.heap.size=B+1:=by rw [← hw3,← hB];simp
  have O3:Hid (TOwnB w3 B (.slice (some ⟨B,0,none⟩) 0 0) []):=by rw [← hw3,← hB];exact own_lit w2 [] (by decide)
  have E3:=J9 (E2.out.all b3)
  have B3:Hid (Below B w2 w3):=by rw [← hB];exact b3
  have HBB:=J9 hB
  have PR:=J9 (rprefixes_any page w3)
  obtain ⟨pre,hpre⟩:=N9 (preS page)
  have hpl:pre.length≤2:=by rw [← hpre];exact pre_le page
  have HPRE:=J9 hpre
  rw [hpre] at PR
  clear e0 e1 e2 e3 e4 e5 e6 hpre b3
  obtain ⟨e0,e1,e2,e3,e4,e5,e6⟩:=E3.out.cells
  go_wp2_with fail
  refine PR.out.mono ?_
  rintro e w4 ⟨v,rfl,hO,hb⟩
  obtain ⟨Ap,cp,rfl,hP⟩:=hO.bytes
  obtain ⟨lp,hlp⟩:=N9 (pre.length)
  rw [hlp]
  have HLP:=J9 hlp
  have O4:Hid (TOwnB w4 B (.slice (some ⟨B,0,none⟩) 0 0) []):=O3.out.below hb
  have P4:=J9 hP
  have E4:=J9 (E3.out.all hb)
  have B4:Hid (Below B w2 w4):=B3.out.trans (hb.mono (by omega))
  have Z4:B≤w4.heap.size:=by have:=hb.size;omega
  clear hO hP hb O3 E3 B3 PR e0 e1 e2 e3 e4 e5 e6 hw3 hlp
  have NX:Hid (∀ A' cap' w5,TOwnB w5 B (.slice A' lp cap') ([]++pre)→Below B w4 w5→TOwnB w5 B (.slice A' lp cap') pre∧Below B w2 w5∧RnAt w5 n page (op.toNat:Int) m (.slice A l cap) ex al∧B≤w5.heap.size):=fun A' cap' w5 h1 h2=>⟨h1,B4.out.trans h2,E4.out.below h2 (by omega),Nat.le_trans Z4 h2.size⟩
  go_upto_region 5 with (at_builtin;refine wpList_appBs O4.out P4.out Z4 (by simp;omega) rfl _ _ rfl rfl rfl lp HLP.out rfl lp (by simp) ?_;intro A5 c5 w5 h1 h2;obtain ⟨h3,h4,h5,h6⟩:=NX.out A5 c5 w5 h1 h2;have O5:=J9 h3;have B5:=J9 h4;have E5:=J9 h5;have Z5:=J9 h6;clear h1 h2 h3 h4 h5 h6)
  clear NX O4 P4 E4 B4 Z4
  obtain ⟨c1,hc1⟩:=N9 (byteI d)
  have A1:bits .and .i64 d 255=(c1.toNat:Int):=by rw [← hc1];exact and_255 d
  have W1:=wrap_byte c1
  have HC1:=J9 hc1
  obtain ⟨e0,e1,e2,e3,e4,e5,e6⟩:=E5.out.cells
  by_cases h5:5≤page
  ·have hal:=up_alloc w5 (.cells #[.int .u8 (c1.toNat:Int),.int .u8 (op.toNat:Int)] 5)
   have O6:=J9 (O5.out.below hal)
   have P6:=J9 (bytes_new2 w5 c1 op)
   have Z6:Hid (B≤(w5.alloc (.cells #[.int .u8 (c1.toNat:Int),.int .u8 (op.toNat:Int)] 5)).heap.size):=Nat.le_trans Z5.out hal.size
   have BS:Hid (bs=pre++[c1,op]):=by show bs=_;rw [← HB.out,enc_hi h5,HPRE.out,HC1.out,byteI_self]
   have FIN:Hid (∀ A' cap' w6,TOwnB w6 B (.slice A' (lp+2) cap') (pre++[c1,op])→Below B (w5.alloc (.cells #[.int .u8 (c1.toNat:Int),.int .u8 (op.toNat:Int)] 5)) w6→RetBy w (some bs) (.returned (.tuple #[.slice A' (lp+2) cap',.bool true])) w6):=fun A' cap' w6 h1 h2=>by
    have hln:bs.length=lp+2:=by rw [BS.out,List.length_append,HLP.out];rfl
    refine ⟨A',cap',by rw [hln],?_,?_⟩
    ·rw [hln,BS.out,HN.out];exact h1.lift (by omega)
    ·rw [HN.out];exact B2.out.trans ((B5.out.mono (by omega)).trans ((hal.mono (by have:=Z5.out;omega)).trans (h2.mono (by omega))))
   clear hal hc1 B5 E5 O5
   go_wp2_with (at_builtin;refine wpList_appBs O6.out P6.out Z6.out (by have:=HLP.out;simp;omega) rfl _ _ rfl rfl rfl 2 rfl rfl (lp+2) (by rw [HLP.out]) ?_;intro A7 c7 w7 h1 h2;have F:=J9 (FIN.out A7 c7 w7 h1 h2);clear h1 h2)
   go_ret2
   exact F.out
  ·have hal:=up_alloc w5 (.cells #[.int .u8 (op.toNat:Int)] 5)
   have O6:=J9 (O5.out.below hal)
   have P6:=J9 (bytes_new1 w5 op)
   have Z6:Hid (B≤(w5.alloc (.cells #[.int .u8 (op.toNat:Int)] 5)).heap.size):=Nat.le_trans Z5.out hal.size
   have B6:Hid (Below B w2 (w5.alloc (.cells #[.int .u8 (op.toNat:Int)] 5))):=B5.out.trans (hal.mono Z5.out)
   obtain ⟨pb,hpb⟩:=N9 (pre++[op])
   have HPB:Hid (pb.length=lp+1∧pb.length≤3):=by show _∧_;rw [← hpb,List.length_append,HLP.out];simp;have:=HLP.out;omega
   have BS:Hid (bs=pb++ex.flatMap (letB d q)):=by show bs=_;rw [← HB.out,enc_lo h5,HPRE.out,byteI_self,← hpb]
   have NX:Hid (∀ A' cap' w7,TOwnB w7 B (.slice A' (lp+1) cap') (pre++[op])→Below B (w5.alloc (.cells #[.int .u8 (op.toNat:Int)] 5)) w7→TOwnB w7 B (.slice A' (lp+1) cap') pb∧Below B w2 w7∧B≤w7.heap.size):=fun A' cap' w7 h1 h2=>⟨by rw [← hpb];exact h1,B6.out.trans h2,Nat.le_trans Z6.out h2.size⟩
   clear hal hc1 B5 E5 O5
   go_upto_region 8 with (at_builtin;refine wpList_appBs O6.out P6.out Z6.out (by have:=HLP.out;simp;omega) rfl _ _ rfl rfl rfl 1 rfl rfl (lp+1) (by rw [HLP.out]) ?_;intro A7 c7 w7 h1 h2;obtain ⟨h3,h4,h6⟩:=NX.out A7 c7 w7 h1 h2;have O7:=J9 h3;have B7:=J9 h4;have Z7:=J9 h6;clear h1 h2 h3 h4 h6)
   clear O6 P6 Z6 B6 NX hpb e0 e1 e2 e3 e4 e5 e6
   obtain ⟨s,hs⟩:=N9 (sB ex)
   have hz:s.size=ex.length:=by rw [← hs,sB_size]
   have hat:∀ k (h:k<s.size) (h':k<ex.length),s[k]=ex[k]:=fun k h h'=>by subst hs;exact sB_at ex k h h'
   have HAT:=J9 hat
   have HS:=J9 hs
   obtain ⟨lx,hlx⟩:=N9 (ex.length)
   rw [hlx] at hz hx
   have HLX:=J9 hlx
   clear hat hs hlx
   go_wp2
   go_loopw [10,11] (fun v i wr=>∃ (j k:Nat) (A9:Option Addr) (c9:Nat),j≤lx∧i=.int .i64 j∧v=.slice A9 k c9∧Hid (k=(pb++(ex.take j).flatMap (letB d q)).length)∧Hid (TOwnB wr B (.slice A9 k c9) (pb++(ex.take j).flatMap (letB d q)))∧Hid (Below B w2 wr)∧Hid (B≤wr.heap.size)) (fun _ i _=>lx - (intOf i).toNat)
   case atStart=>exact ⟨0,lp+1,A7,c7,Nat.zero_le _,rfl,rfl,by show _=_;simp [HPB.out.1],by have h:=O7.out;show TOwnB _ _ _ _;simpa using h,B7.out,Z7.out⟩
   case round=>
    clear O7 B7 Z7
    obtain ⟨j,k,A9,c9,hj,rfl,rfl,KL,O9,B9,Z9⟩:=hrel
    have E9:=J9 (E2.out.below B9.out (by omega))
    obtain ⟨e0,e1,e2,e3,e4,e5,e6⟩:=E9.out.cells
    rw [HS.out] at e4
    by_cases hlt:j<lx
    ·have hlt':j<s.size:=by omega
     have hj1:j<ex.length:=by rw [HLX.out];exact hlt
     have f1:=HAT.out j hlt' hj1
     have hb1:((s[j].toNat:Int) == 100)=decide (ex[j]=100):=by rw [f1];exact u8_beq _ 100
     have hb2:((s[j].toNat:Int) == 119)=decide (ex[j]=119):=by rw [f1];exact u8_beq _ 119
     have ST:=J9 (flat_step ex d q j hj1)
     obtain ⟨cc,hcc⟩:=N9 (ex[j])
     rw [hcc] at hb1 hb2 ST
     have hfl:=flat_len (ex.take j) d q
     have hkk:Hid ((pb++(ex.take j).flatMap (letB d q)).length≤3000):=by show _≤_;rw [List.length_append];have:=HPB.out;rw [List.length_take] at hfl;omega
     obtain ⟨xs,hxs⟩:=N9 (pb++(ex.take j).flatMap (letB d q))
     have hxs2:Hid (pb++(ex.take (j+1)).flatMap (letB d q)=xs++letB d q cc):=by show _=_;rw [ST.out,← hxs,List.append_assoc]
     rw [hxs] at KL O9 hkk
     clear hxs hcc f1 hfl ST hj1
     have HXS:=hxs2
     obtain ⟨c2,hc2⟩:=N9 (byteI q)
     have A2:bits .and .i64 q 255=(c2.toNat:Int):=by rw [← hc2];exact and_255 q
     have W2:=wrap_byte c2
     by_cases t1:cc=100
     ·have LB:Hid (letB d q cc=[c1]):=by show _=_;rw [t1,← HC1.out];rfl
      rw [decide_eq_true t1] at hb1
      clear t1 hb2 hc2 hxs2
      have hal:=up_alloc wr (.cells #[.int .u8 (c1.toNat:Int)] 5)
      have Oa:=J9 (O9.out.below hal)
      have Pa:=J9 (bytes_new1 wr c1)
      have Za:Hid (B≤(wr.alloc (.cells #[.int .u8 (c1.toNat:Int)] 5)).heap.size):=Nat.le_trans Z9.out hal.size
      have Ba:Hid (Below B w2 (wr.alloc (.cells #[.int .u8 (c1.toNat:Int)] 5))):=B9.out.trans (hal.mono Z9.out)
      have NX:Hid (∀ A' cap' w7,TOwnB w7 B (.slice A' (k+1) cap') (xs++[c1])→Below B (wr.alloc (.cells #[.int .u8 (c1.toNat:Int)] 5)) w7→TOwnB w7 B (.slice A' (k+1) cap') (pb++(ex.take (j+1)).flatMap (letB d q))∧Below B w2 w7∧B≤w7.heap.size):=fun A' cap' w7 h1 h2=>⟨by rw [HXS.out,LB.out];exact h1,Ba.out.trans h2,Nat.le_trans Za.out h2.size⟩
      have KL2:Hid (k+1=(pb++(ex.take (j+1)).flatMap (letB d q)).length):=by show _=_;rw [HXS.out,LB.out,List.length_append,← KL.out];rfl
      clear hal B9 E9 O9 HXS LB
      go_wp2_with (at_builtin;refine wpList_appBs Oa.out Pa.out Za.out (by have:=hkk.out;simp;omega) rfl _ _ rfl rfl rfl 1 rfl rfl (k+1) (by rw [← KL.out]) ?_;intro A7 c7 w7 h1 h2;obtain ⟨h3,h4,h6⟩:=NX.out A7 c7 w7 h1 h2;have O7:=J9 h3;have B7:=J9 h4;have Z7:=J9 h6;clear h1 h2 h3 h4 h6)
      go_roundw
      case rel=>exact ⟨j+1,k+1,A7,c7,by omega,by go_num,rfl,KL2.out,O7.out,B7.out,Z7.out⟩
      case measure=>simp [intOf];omega
     ·by_cases t2:cc=119
      ·obtain ⟨c3,hc3⟩:=N9 (byteI (q / 256))
       have LB:Hid (letB d q cc=[c2,c3]):=by show _=_;rw [t2,← hc2,← hc3];rfl
       have A3:bits .and .i64 (q / 256) 255=(c3.toNat:Int):=by rw [← hc3];exact and_255 (q / 256)
       have W3:=wrap_byte c3
       rw [decide_eq_false t1] at hb1
       rw [decide_eq_true t2] at hb2
       clear t1 t2 hc2 hc3 hxs2
       have hal:=up_alloc wr (.cells #[.int .u8 (c2.toNat:Int),.int .u8 (c3.toNat:Int)] 5)
       have Oa:=J9 (O9.out.below hal)
       have Pa:=J9 (bytes_new2 wr c2 c3)
       have Za:Hid (B≤(wr.alloc (.cells #[.int .u8 (c2.toNat:Int),.int .u8 (c3.toNat:Int)] 5)).heap.size):=Nat.le_trans Z9.out hal.size
       have Ba:Hid (Below B w2 (wr.alloc (.cells #[.int .u8 (c2.toNat:Int),.int .u8 (c3.toNat:Int)] 5))):=B9.out.trans (hal.mono Z9.out)
       have NX:Hid (∀ A' cap' w7,TOwnB w7 B (.slice A' (k+2) cap') (xs++[c2,c3])→Below B (wr.alloc (.cells #[.int .u8 (c2.toNat:Int),.int .u8 (c3.toNat:Int)] 5)) w7→TOwnB w7 B (.slice A' (k+2) cap') (pb++(ex.take (j+1)).flatMap (letB d q))∧Below B w2 w7∧B≤w7.heap.size):=fun A' cap' w7 h1 h2=>⟨by rw [HXS.out,LB.out];exact h1,Ba.out.trans h2,Nat.le_trans Za.out h2.size⟩
       have KL2:Hid (k+2=(pb++(ex.take (j+1)).flatMap (letB d q)).length):=by show _=_;rw [HXS.out,LB.out,List.length_append,← KL.out];rfl
       clear hal B9 E9 O9 HXS LB
       go_wp2_with (at_builtin;refine wpList_appBs Oa.out Pa.out Za.out (by have:=hkk.out;simp;omega) rfl _ _ rfl rfl rfl 2 rfl rfl (k+2) (by rw [← KL.out]) ?_;intro A7 c7 w7 h1 h2;obtain ⟨h3,h4,h6⟩:=NX.out A7 c7 w7 h1 h2;have O7:=J9 h3;have B7:=J9 h4;have Z7:=J9 h6;clear h1 h2 h3 h4 h6)
       go_roundw
       case rel=>exact ⟨j+1,k+2,A7,c7,by omega,by go_num,rfl,KL2.out,O7.out,B7.out,Z7.out⟩
       case measure=>simp [intOf];omega
      ·have LB:Hid (letB d q cc=[c2]):=by show _=_;unfold letB;rw [if_neg t1,if_neg t2,hc2]
       rw [decide_eq_false t1] at hb1
       rw [decide_eq_false t2] at hb2
       clear t1 t2 hc2 hxs2
       have hal:=up_alloc wr (.cells #[.int .u8 (c2.toNat:Int)] 5)
       have Oa:=J9 (O9.out.below hal)
       have Pa:=J9 (bytes_new1 wr c2)
       have Za:Hid (B≤(wr.alloc (.cells #[.int .u8 (c2.toNat:Int)] 5)).heap.size):=Nat.le_trans Z9.out hal.size
       have Ba:Hid (Below B w2 (wr.alloc (.cells #[.int .u8 (c2.toNat:Int)] 5))):=B9.out.trans (hal.mono Z9.out)
       have NX:Hid (∀ A' cap' w7,TOwnB w7 B (.slice A' (k+1) cap') (xs++[c2])→Below B (wr.alloc (.cells #[.int .u8 (c2.toNat:Int)] 5)) w7→TOwnB w7 B (.slice A' (k+1) cap') (pb++(ex.take (j+1)).flatMap (letB d q))∧Below B w2 w7∧B≤w7.heap.size):=fun A' cap' w7 h1 h2=>⟨by rw [HXS.out,LB.out];exact h1,Ba.out.trans h2,Nat.le_trans Za.out h2.size⟩
       have KL2:Hid (k+1=(pb++(ex.take (j+1)).flatMap (letB d q)).length):=by show _=_;rw [HXS.out,LB.out,List.length_append,← KL.out];rfl
       clear hal B9 E9 O9 HXS LB
       go_wp2_with (at_builtin;refine wpList_appBs Oa.out Pa.out Za.out (by have:=hkk.out;simp;omega) rfl _ _ rfl rfl rfl 1 rfl rfl (k+1) (by rw [← KL.out]) ?_;intro A7 c7 w7 h1 h2;obtain ⟨h3,h4,h6⟩:=NX.out A7 c7 w7 h1 h2;have O7:=J9 h3;have B7:=J9 h4;have Z7:=J9 h6;clear h1 h2 h3 h4 h6)
       go_roundw
       case rel=>exact ⟨j+1,k+1,A7,c7,by omega,by go_num,rfl,KL2.out,O7.out,B7.out,Z7.out⟩
       case measure=>simp [intOf];omega
    ·obtain rfl:j=lx:=by omega
     have BSX:Hid (bs=pb++(ex.take j).flatMap (letB d q)):=by show bs=_;rw [BS.out,List.take_of_length_le (by rw [HLX.out];exact Nat.le_refl _)]
     have F:Hid (RetBy w (some bs) (.returned (.tuple #[.slice A9 k c9,.bool true])) wr):=by
      show RetBy w (some bs) _ _
      have hln:bs.length=k:=by rw [BSX.out,← KL.out]
      refine ⟨A9,c9,by rw [hln],?_,?_⟩
      ·rw [hln,BSX.out,HN.out];exact O9.out.lift (by omega)
      ·rw [HN.out];exact B2.out.trans (B9.out.mono (by omega))
     clear KL O9 B9 E9 BSX
     go_wp2
     go_ret2
     exact F.out
end Go.Proofs.YtclhaejdjogfbaaGreatDoor
namespace Go.Fr
open Go Go.RowKit
structure F where
 p:World→Prop
 up:∀ {w w':World},p w→Below w.heap.size w w'→p w'
def St (w:World):List F→Prop
 | []=>True
 | f :: l=>f.p w∧St w l
theorem St.up {w w':World}:∀ {l:List F},St w l→Below w.heap.size w w'→St w' l
 | [],_,_=>trivial
 | f :: _,h,hb=>⟨f.up h.1 hb,St.up h.2 hb⟩
theorem up {w w':World} {l:List F} (h:Hid (St w l)) (hb:Below w.heap.size w w'):Hid (St w' l):=St.up (l:=l) h hb
theorem add {w:World} {l:List F} (h:Hid (St w l)) (f:F) (hp:f.p w):Hid (St w (f :: l)):=⟨hp,h⟩
theorem nil (w:World):Hid (St w []):=trivial
def blk (b:Nat) (o:Obj):F:=⟨fun w=>w.heap[b]?=some o,fun h hb=>(hb.block _ (Array.getElem?_eq_some_iff.1 h).1).trans h⟩
def bel (n:Nat) (w0:World):F:=⟨fun w=>Below n w0 w∧n≤w.heap.size,fun h hb=>⟨h.1.trans (hb.mono h.2),Nat.le_trans h.2 hb.size⟩⟩
def sz (n:Nat):F:=⟨fun w=>n≤w.heap.size,fun h hb=>Nat.le_trans h hb.size⟩
theorem lt_of_blk {w:World} {b:Nat} {o:Obj} (h:(blk b o).p w):b<w.heap.size:=(Array.getElem?_eq_some_iff.1 h).1
theorem start (w:World) (n:Nat) (hn:w.heap.size=n):Hid (St w [bel n w]):=⟨⟨Below.refl _ _,Nat.le_of_eq hn.symm⟩,trivial⟩
theorem box {w:World} {l:List F} (h:Hid (St w l)) (cs:Array Value) (t:TypeId):∃ b w2,w.heap.size=b∧w.alloc (.cells cs t)=w2∧Hid (St w2 (blk b (.cells cs t (0,0)) :: l))∧Below w.heap.size w w2∧w2.heap.size=b+1:=
 have hb:Below w.heap.size w (w.alloc (.cells cs t)):=(Below.refl _ w).alloc (Nat.le_refl _) _
 ⟨_,_,rfl,rfl,add (up h hb) (blk w.heap.size _) (World.alloc_heap_new w _),hb,by simp⟩
theorem cells2 {w:World} {b:Nat} {a0 a1:Value} {T:TypeId} {fr:Nat×Nat} (h:w.heap[b]?=some (.cells #[a0,a1] T fr)):w.cell? ⟨b,0,none⟩=some a0∧w.cell? ⟨b,1,none⟩=some a1:=⟨C9 h 0,C9 h 1⟩
theorem cells6 {w:World} {b:Nat} {a0 a1 a2 a3 a4 a5:Value} {T:TypeId} {fr:Nat×Nat} (h:w.heap[b]?=some (.cells #[a0,a1,a2,a3,a4,a5] T fr)):w.cell? ⟨b,0,none⟩=some a0∧w.cell? ⟨b,1,none⟩=some a1∧w.cell? ⟨b,2,none⟩=some a2∧w.cell? ⟨b,3,none⟩=some a3∧w.cell? ⟨b,4,none⟩=some a4∧w.cell? ⟨b,5,none⟩=some a5:=⟨C9 h 0,C9 h 1,C9 h 2,C9 h 3,C9 h 4,C9 h 5⟩
end Go.Fr
namespace Go.Mixed
open Go
section
variable {P:Program} {ops:Array Oper}
end
end Go.Mixed
namespace Go.Proofs.YtclhaejdjogfbaaGreatDoor
open Go.RowKit Go.Shelf
attribute [local go_sem] Oper.semAt_some
def ItAt (w:World) (b:Nat) (kind:Int) (va:Value) (s:ByteArray) (vb:Value) (al:Bool):Prop:=w.heap[b]?=some (.cells #[.int .i64 kind,va,.string s,vb,.bool al] 31 (0,0))
section
variable {w w':World} {b:Nat} {kind:Int} {va vb:Value} {s:ByteArray} {al:Bool}
theorem ItAt.lt (h:ItAt w b kind va s vb al):b<w.heap.size:=(Array.getElem?_eq_some_iff.1 h).1
theorem ItAt.all (h:ItAt w b kind va s vb al) (hb:Below w.heap.size w w'):ItAt w' b kind va s vb al:=(hb.block b h.lt).trans h
theorem ItAt.cells (h:ItAt w b kind va s vb al):w.cell? ⟨b,0,none⟩=some (.int .i64 kind)∧w.cell? ⟨b,1,none⟩=some va∧w.cell? ⟨b,2,none⟩=some (.string s)∧w.cell? ⟨b,3,none⟩=some vb∧w.cell? ⟨b,4,none⟩=some (.bool al)∧∀ i,w.frozen? ⟨b,i,none⟩=false:=
 ⟨C9 h 0,C9 h 1,C9 h 2,C9 h 3,C9 h 4,fun i=>Lib.frozen_of_heap h i⟩
theorem ItAt.put (h:ItAt w b kind va s vb al) (k':Int) (va':Value) (s':ByteArray) (vb':Value) (al':Bool) :
  ∃ w',((((w.setCell ⟨b,0,none⟩ (.int .i64 k')).setCell ⟨b,1,none⟩ va').setCell ⟨b,2,none⟩ (.string s')).setCell ⟨b,3,none⟩ vb').setCell ⟨b,4,none⟩ (.bool al')=w'∧
   ItAt w' b k' va' s' vb' al'∧Below b w w'∧w'.heap.size=w.heap.size∧(∀ B u L,b<B→OwnT w B u L→OwnT w' B u L)∧(∀ B u L,b<B→TOwnB w B u L→TOwnB w' B u L)∧∀ k,k≠b→w'.heap[k]?=w.heap[k]?:=by
 refine ⟨_,rfl,?_,?_,by simp,fun B u L hB hO=>?_,fun B u L hB hO=>?_,fun k hk=>?_⟩
 ·have h1:=heap_setCell_same w b 0 _ _ (.int .i64 k') h
  have h2:=heap_setCell_same _ b 1 _ _ va' h1
  have h3:=heap_setCell_same _ b 2 _ _ (.string s') h2
  have h4:=heap_setCell_same _ b 3 _ _ vb' h3
  exact heap_setCell_same _ b 4 _ _ (.bool al') h4
 ·exact (((((Below.refl b w).setCell (p:=⟨b,0,none⟩) (Nat.le_refl _) _).setCell (p:=⟨b,1,none⟩) (Nat.le_refl _) _).setCell (p:=⟨b,2,none⟩) (Nat.le_refl _) _).setCell (p:=⟨b,3,none⟩) (Nat.le_refl _) _).setCell (p:=⟨b,4,none⟩) (Nat.le_refl _) _
 ·exact row_set (row_set (row_set (row_set (row_set hO (p:=⟨b,0,none⟩) hB _) (p:=⟨b,1,none⟩) hB _) (p:=⟨b,2,none⟩) hB _) (p:=⟨b,3,none⟩) hB _) (p:=⟨b,4,none⟩) hB _
 ·exact row_set (row_set (row_set (row_set (row_set hO (p:=⟨b,0,none⟩) hB _) (p:=⟨b,1,none⟩) hB _) (p:=⟨b,2,none⟩) hB _) (p:=⟨b,3,none⟩) hB _) (p:=⟨b,4,none⟩) hB _
 ·exact (heap_setCell_other _ ⟨b,4,none⟩ k _ hk).trans ((heap_setCell_other _ ⟨b,3,none⟩ k _ hk).trans ((heap_setCell_other _ ⟨b,2,none⟩ k _ hk).trans ((heap_setCell_other _ ⟨b,1,none⟩ k _ hk).trans (heap_setCell_other _ ⟨b,0,none⟩ k _ hk))))
end
theorem it_start (w:World) (n:Nat) (hn:w.heap.size=n):∃ w0,w.alloc (.cells #[.int .i64 0,.slice none 0 0,.string ⟨#[]⟩,.slice none 0 0,.bool false] 31)=w0∧ItAt w0 n 0 (.slice none 0 0) ⟨#[]⟩ (.slice none 0 0) false∧Below w.heap.size w w0∧w0.heap.size=n+1:=by
 subst hn
 exact ⟨_,rfl,World.alloc_heap_new w _,(Below.refl _ w).alloc (Nat.le_refl _) _,by simp⟩
def RetIt (w:World) (x:Ite) (e:Ending) (w':World):Prop:=∃ A c B c2,e=.returned (.agg #[.int .i64 x.kind,.slice A x.raw.length c,.string (sB x.m),.slice B x.C.length c2,.bool x.al])∧
 TOwnB w' w.heap.size (.slice A x.raw.length c) x.raw∧OwnT w' w.heap.size (.slice B x.C.length c2) x.C∧Below w.heap.size w w'
theorem ownT_nil (w:World) (n:Nat):OwnT w n (.slice none 0 0) []:=World.ownsRow_nil _ _ _ _
theorem BytesAt.cellAt {w:World} {A:Option Addr} {b:Str} (h:BytesAt w A b) {j:Nat} (hj:j<b.length):∃ g off,A=some ⟨g,off,none⟩∧w.cell? ⟨g,off+j,none⟩=some (.int .u8 (b[j].toNat:Int)):=by
 rcases h with rfl | ⟨g,off,rfl,hc⟩
 ·simp at hj
 ·exact ⟨g,off,rfl,hc j hj⟩
theorem take_at {w:World} {A:Option Addr} {xs:Str} (h:BytesAt w A xs) (k:Nat):BytesAt w A (xs.take k):=by
 rcases h with rfl | ⟨b,off,rfl,hc⟩
 ·exact .inl (by simp)
 ·refine .inr ⟨b,off,rfl,fun j hj=>?_⟩
  rw [List.getElem_take]
  exact hc j (by rw [List.length_take] at hj;omega)
theorem rpage12_any (b:Str) (hb:b≠[]) (A:Option Addr) (cap l:Nat) (hl:b.length=l) (w:World) (H:BytesAt w A b) :
  Calls Tryz.prog 25 #[.slice A l cap] w fun e w'=>e=.returned (.tuple #[.int .i64 (pgA b).1,.int .i64 ((pgA b).2:Nat)])∧w'=w:=by
 cases b with
 | nil=>exact absurd rfl hb
 | cons c r=>
  obtain ⟨g,off,rfl,k0⟩:=H.cellAt (j:=0) (by simp)
  simp only [List.getElem_cons_zero,Nat.add_zero] at k0
  have hl1:1≤l:=by simp at hl;omega
  have t1:((c.toNat:Int) == 203)=decide (c=203):=u8_beq c 203
  have t2:((c.toNat:Int) == 237)=decide (c=237):=u8_beq c 237
  have t3:((c.toNat:Int) == 221)=decide (c=221):=u8_beq c 221
  have t4:((c.toNat:Int) == 253)=decide (c=253):=u8_beq c 253
  have HC:Hid (pgA (c :: r)=if c=203 then (1,1) else if c=237 then (2,1) else if c=221 then (if r.head?=some 203 then (5,3) else (3,1)) else if c=253 then (if r.head?=some 203 then (6,3) else (4,1)) else (0,0)):=rfl
  obtain ⟨⟨p,at_⟩,hp⟩:=N9 (pgA (c :: r))
  rw [hp] at HC ⊢
  have HY:Hid (∀ y u,r=y :: u→w.cell? ⟨g,off+1,none⟩=some (.int .u8 (y.toNat:Int))∧((y.toNat:Int) == 203)=decide (y=203)):=fun y u e=>by
   subst e
   obtain ⟨g',off',e,k⟩:=H.cellAt (j:=1) (by simp)
   simp only [Option.some.injEq,Addr.mk.injEq] at e
   obtain ⟨rfl,rfl,-⟩:=e
   exact ⟨k,u8_beq y 203⟩
  clear hp H hb
  by_cases h1:c=203
  ·rw [decide_eq_true h1] at t1
   have hq:=HC.out
   rw [if_pos h1] at hq
   obtain ⟨rfl,rfl⟩:=Prod.mk.inj hq
   clear h1 t2 t3 t4 HC hq HY hl
   go_enter Tryz.func25,Tryz.ntmps25
   go_wp2
   go_ret2
   exact ⟨rfl,rfl⟩
  rw [decide_eq_false h1] at t1
  by_cases h2:c=237
  ·rw [decide_eq_true h2] at t2
   have hq:=HC.out
   rw [if_neg h1,if_pos h2] at hq
   obtain ⟨rfl,rfl⟩:=Prod.mk.inj hq
   clear h1 h2 t3 t4 HC hq HY hl
   go_enter Tryz.func25,Tryz.ntmps25
   go_wp2
   go_ret2
   exact ⟨rfl,rfl⟩
  rw [decide_eq_false h2] at t2
  by_cases h5:c=221∨c=253
  ·by_cases hy:r.head?=some 203
   ·obtain ⟨u,rfl⟩:∃ u,r=203 :: u:=by
     cases r with
     | nil=>cases hy
     | cons y u=>simp only [List.head?_cons,Option.some.injEq] at hy;subst hy;exact ⟨u,rfl⟩
    obtain ⟨k1,t5⟩:=HY.out 203 u rfl
    have hl2:2≤l:=by simp at hl;omega
    rw [show (((203:UInt8).toNat:Nat):Int)=203 from rfl] at k1
    have hq:=HC.out
    rw [if_neg h1,if_neg h2] at hq
    rcases h5 with h5 | h5
    ·rw [if_pos h5,if_pos hy] at hq
     obtain ⟨rfl,rfl⟩:=Prod.mk.inj hq
     rw [decide_eq_true h5] at t3
     rw [decide_eq_false (by rw [h5];decide)] at t4
     clear h1 h2 h5 hy HC hq HY hl t5
     go_enter Tryz.func25,Tryz.ntmps25
     go_wp2
     go_ret2
     exact ⟨rfl,rfl⟩
    ·rw [if_neg (by rw [h5];decide),if_pos h5,if_pos hy] at hq
     obtain ⟨rfl,rfl⟩:=Prod.mk.inj hq
     rw [decide_eq_true h5] at t4
     rw [decide_eq_false (by rw [h5];decide)] at t3
     clear h1 h2 h5 hy HC hq HY hl t5
     go_enter Tryz.func25,Tryz.ntmps25
     go_wp2
     go_ret2
     exact ⟨rfl,rfl⟩
   ·have hq:=HC.out
    rw [if_neg h1,if_neg h2] at hq
    have hfin:(c=221∧p=3∨c=253∧p=4)∧at_=1:=by
     rcases h5 with h5 | h5
     ·rw [if_pos h5,if_neg hy] at hq
      obtain ⟨rfl,rfl⟩:=Prod.mk.inj hq
      exact ⟨.inl ⟨h5,rfl⟩,rfl⟩
     ·rw [if_neg (by rw [h5];decide),if_pos h5,if_neg hy] at hq
      obtain ⟨rfl,rfl⟩:=Prod.mk.inj hq
      exact ⟨.inr ⟨h5,rfl⟩,rfl⟩
    obtain ⟨hfin,rfl⟩:=hfin
    have hcase:l=1∨(2≤l∧∃ y,w.cell? ⟨g,off+1,none⟩=some (.int .u8 (y:Int))∧((y:Int) == 203)=false):=by
     cases r with
     | nil=>simp at hl;exact .inl hl.symm
     | cons y u=>
      obtain ⟨k1,t5⟩:=HY.out y u rfl
      refine .inr ⟨by simp at hl;omega,(y.toNat:Int),k1,?_⟩
      rw [t5]
      simp only [List.head?_cons,Option.some.injEq] at hy
      exact decide_eq_false hy
    rcases hfin with ⟨h5,rfl⟩ | ⟨h5,rfl⟩
    ·rw [decide_eq_true h5] at t3
     rw [decide_eq_false (by rw [h5];decide)] at t4
     clear h1 h2 h5 hy HC hq HY hl
     rcases hcase with rfl | ⟨h6,y,k1,t5⟩
     ·go_enter Tryz.func25,Tryz.ntmps25
      go_wp2
      go_ret2
      exact ⟨rfl,rfl⟩
     ·go_enter Tryz.func25,Tryz.ntmps25
      go_wp2
      go_ret2
      exact ⟨rfl,rfl⟩
    ·rw [decide_eq_true h5] at t4
     rw [decide_eq_false (by rw [h5];decide)] at t3
     clear h1 h2 h5 hy HC hq HY hl
     rcases hcase with rfl | ⟨h6,y,k1,t5⟩
     ·go_enter Tryz.func25,Tryz.ntmps25
      go_wp2
      go_ret2
      exact ⟨rfl,rfl⟩
     ·go_enter Tryz.func25,Tryz.ntmps25
      go_wp2
      go_ret2
      exact ⟨rfl,rfl⟩
  ·have h3:c≠221:=fun h=>h5 (.inl h)
   have h4:c≠253:=fun h=>h5 (.inr h)
   rw [decide_eq_false h3] at t3
   rw [decide_eq_false h4] at t4
   have hq:=HC.out
   rw [if_neg h1,if_neg h2,if_neg h3,if_neg h4] at hq
   obtain ⟨rfl,rfl⟩:=Prod.mk.inj hq
   clear h1 h2 h3 h4 h5 HC hq HY hl
   go_enter Tryz.func25,Tryz.ntmps25
   go_wp2
   go_ret2
   exact ⟨rfl,rfl⟩
theorem ritem12_any (kind:Int) (b:Str) (A:Option Addr) (cap l:Nat) (hl:b.length=l) (hc:l≤cap) (hcm:cap≤maxLen) (k:Nat) (hk:k≤l) (hl2:l≤10000) (w:World) (H:BytesAt w A b) :
  Calls Tryz.prog 26 #[.int .i64 kind,.slice A l cap,.int .i64 k] w (RetIt w (iteO kind (b.take k))):=by
 obtain ⟨n,hn⟩:=N9 (w.heap.size)
 obtain ⟨w0,hw0,I0,y0,z0⟩:=it_start w n hn
 obtain ⟨w1,hw1⟩:=N9 (w0.alloc (.cells #[] 5))
 have y1:Below w0.heap.size w0 w1:=by rw [← hw1];exact up_alloc _ _
 have O1:Hid (TOwnB w1 (n+1) (.slice (some ⟨n+1,0,none⟩) 0 0) []):=by rw [← hw1,← z0];exact own_lit w0 [] (by decide)
 have P1:Hid (BytesAt w1 A (b.take k)):=take_at ((H.below y0).below y1) k
 have I1:=J9 (I0.all y1)
 have B1:Hid (Below n w w1):=by rw [← hn];exact y0.trans (y1.mono y0.size)
 have Z1:Hid (n+1≤w1.heap.size):=by have:=y1.size;show _≤_;omega
 have LT:Hid ((b.take k).length=k):=by show _=_;rw [List.length_take];omega
 have HN:=J9 hn
 have hkc:¬cap<k:=by omega
 unfold maxLen at hcm
 clear H y0 y1 I0 hl
 go_enter Tryz.func26,Tryz.ntmps26
 have NX:Hid (∀ A2 c2 w2,TOwnB w2 (n+1) (.slice A2 k c2) ([]++b.take k)→Below (n+1) w1 w2→ItAt w2 n 0 (.slice none 0 0) ⟨#[]⟩ (.slice none 0 0) false∧TOwnB w2 (n+1) (.slice A2 k c2) (b.take k)∧Below n w w2):=fun A2 c2 w2 h1 h2=>⟨(h2.block n (by omega)).trans I1.out,h1,B1.out.trans (h2.mono (by omega))⟩
 clear B1 I1
 go_wp2_with (at_builtin;refine wpList_appBs (xs:=[]) (ys:=b.take k) O1.out P1.out Z1.out (by rw [LT.out];simp;omega) rfl _ _ rfl rfl rfl k LT.out rfl k (by simp) ?_;intro A2 c2 w2 h1 h2;obtain ⟨h3,h4,h5⟩:=NX.out A2 c2 w2 h1 h2;have I2:=J9 h3;have O2:=J9 h4;have B2:=J9 h5;obtain ⟨k0,k1,k2,k3,k4,k5⟩:=h3.cells;clear h1 h2 h3 h4 h5)
 obtain ⟨w3,hw3,i1,i2,i3,i4,i5,i6⟩:=I2.out.put kind (.slice A2 k c2) ⟨#[]⟩ (.slice none 0 0) false
 rw [hw3]
 obtain ⟨j0,j1,j2,j3,j4,j5⟩:=i1.cells
 refine bodyPost_ret (v:=.agg #[.int .i64 kind,.slice A2 k c2,.string ⟨#[]⟩,.slice none 0 0,.bool false]) ?_ rfl ?_
 ·simp [results,Tryz.results26,go_sem,j0,j1,j2,j3,j4]
 ·refine ⟨A2,c2,none,0,?_,?_,?_,?_⟩
  ·simp only [iteO,LT.out];rfl
  ·simp only [iteO,LT.out,HN.out]
   exact (i5 (n+1) _ _ (by omega) O2.out).lift (by omega)
  ·exact ownT_nil _ _
  ·rw [HN.out];exact B2.out.trans i2
end Go.Proofs.YtclhaejdjogfbaaGreatDoor
namespace Go.Proofs.YtclhaejdjogfbaaGreatDoor
open Go.RowKit Go.Shelf
attribute [local go_sem] Oper.semAt_some
structure Dec (w0:World) (D:Nat) (S:Value) (w:World) (k:Nat) (p nd d n:Int):Prop where
 blk:w.heap[D]?=some (.cells #[S,.int .i64 k,.int .i64 p,.int .i64 nd,.int .i64 d,.int .i64 n] 77 (0,0))
 bel:Below D w0 w
structure DK (D:Nat) (w w':World):Prop where
 size:w.heap.size≤w'.heap.size
 same:∀ k,k<w.heap.size→k≠D→w'.heap[k]?=w.heap[k]?
section
variable {w0 w w':World} {D:Nat} {S:Value} {k:Nat} {p nd d n:Int}
theorem Dec.lt (h:Dec w0 D S w k p nd d n):D<w.heap.size:=(Array.getElem?_eq_some_iff.1 h.blk).1
theorem Dec.all (h:Dec w0 D S w k p nd d n) (hb:Below w.heap.size w w'):Dec w0 D S w' k p nd d n:=
 ⟨(hb.block D h.lt).trans h.blk,h.bel.trans (hb.mono (Nat.le_of_lt h.lt))⟩
theorem Dec.cells (h:Dec w0 D S w k p nd d n):w.cell? ⟨D,0,none⟩=some S∧w.cell? ⟨D,1,none⟩=some (.int .i64 k)∧w.cell? ⟨D,2,none⟩=some (.int .i64 p)∧w.cell? ⟨D,3,none⟩=some (.int .i64 nd)∧w.cell? ⟨D,4,none⟩=some (.int .i64 d)∧w.cell? ⟨D,5,none⟩=some (.int .i64 n)∧∀ i,w.frozen? ⟨D,i,none⟩=false:=
 ⟨C9 h.blk 0,C9 h.blk 1,C9 h.blk 2,C9 h.blk 3,C9 h.blk 4,C9 h.blk 5,fun i=>Lib.frozen_of_heap h.blk i⟩
theorem Dec.set1 (h:Dec w0 D S w k p nd d n) (x:Nat):Dec w0 D S (w.setCell ⟨D,1,none⟩ (.int .i64 x)) x p nd d n:=
 ⟨heap_setCell_same w D 1 _ _ (.int .i64 x) h.blk,h.bel.setCell (p:=⟨D,1,none⟩) (Nat.le_refl _) _⟩
theorem Dec.set2 (h:Dec w0 D S w k p nd d n) (x:Int):Dec w0 D S (w.setCell ⟨D,2,none⟩ (.int .i64 x)) k x nd d n:=
 ⟨heap_setCell_same w D 2 _ _ (.int .i64 x) h.blk,h.bel.setCell (p:=⟨D,2,none⟩) (Nat.le_refl _) _⟩
theorem Dec.set3 (h:Dec w0 D S w k p nd d n) (x:Int):Dec w0 D S (w.setCell ⟨D,3,none⟩ (.int .i64 x)) k p x d n:=
 ⟨heap_setCell_same w D 3 _ _ (.int .i64 x) h.blk,h.bel.setCell (p:=⟨D,3,none⟩) (Nat.le_refl _) _⟩
theorem Dec.set4 (h:Dec w0 D S w k p nd d n) (x:Int):Dec w0 D S (w.setCell ⟨D,4,none⟩ (.int .i64 x)) k p nd x n:=
 ⟨heap_setCell_same w D 4 _ _ (.int .i64 x) h.blk,h.bel.setCell (p:=⟨D,4,none⟩) (Nat.le_refl _) _⟩
theorem Dec.set5 (h:Dec w0 D S w k p nd d n) (x:Int):Dec w0 D S (w.setCell ⟨D,5,none⟩ (.int .i64 x)) k p nd d x:=
 ⟨heap_setCell_same w D 5 _ _ (.int .i64 x) h.blk,h.bel.setCell (p:=⟨D,5,none⟩) (Nat.le_refl _) _⟩
theorem DK.refl (D:Nat) (w:World):DK D w w:=⟨Nat.le_refl _,fun _ _ _=>rfl⟩
theorem DK.of_below (h:Below w.heap.size w w'):DK D w w':=⟨h.size,fun k hk _=>h.block k hk⟩
theorem DK.trans {w'':World} (h:DK D w w') (h':DK D w' w''):DK D w w'':=
 ⟨Nat.le_trans h.size h'.size,fun k hk hb=>(h'.same k (Nat.lt_of_lt_of_le hk h.size) hb).trans (h.same k hk hb)⟩
theorem DK.set (h:DK D w w') (j:Nat) (u:Value):DK D w (w'.setCell ⟨D,j,none⟩ u):=
 ⟨by simpa using h.size,fun k hk hb=>(heap_setCell_other w' ⟨D,j,none⟩ k u hb).trans (h.same k hk hb)⟩
theorem Dec.bytes {b:Str} {A:Option Addr} (h:Dec w0 D S w k p nd d n) (hD:w0.heap.size≤D) (H:BytesAt w0 A b):BytesAt w A b:=H.below (h.bel.mono hD)
end
def missE:List PanicEntry:=[{v:=.iface 86 (.agg #[]),recovered:=false}]
structure DH (w0:World) (D:Nat) (b:Str) (A:Option Addr) (l cap:Nat):Prop where
 hl:b.length=l
 hl2:l≤100000
 hD:w0.heap.size≤D
 H0:BytesAt w0 A b
 hc:l≤cap
 hcm:cap≤maxLen
def DOk (w0:World) (D:Nat) (S:Value) (w:World) (e:Ending) (w':World) (v:Value) (k:Nat) (p nd d n:Int):Prop:=e=.returned v∧Dec w0 D S w' k p nd d n∧DK D w w'
def DMiss (w0:World) (D:Nat) (S:Value) (w:World) (e:Ending) (w':World) (l:Nat) (p nd:Int):Prop:=e=.panicked missE∧(∃ d n,Dec w0 D S w' l p nd d n)∧DK D w w'
theorem DH.byte {w0:World} {D:Nat} {b:Str} {A:Option Addr} {l cap:Nat} (H:DH w0 D b A l cap) {k:Nat} (hk:k<l) {w:World} (h:Below D w0 w):∃ g off,A=some ⟨g,off,none⟩∧w.cell? ⟨g,off+k,none⟩=some (.int .u8 ((b.getD k 0).toNat:Int)):=by
 have hkb:k<b.length:=by have:=H.hl;omega
 obtain ⟨g,off,h1,h2⟩:=(H.H0.below (h.mono H.hD)).cellAt hkb
 refine ⟨g,off,h1,?_⟩
 rw [h2,List.getD_eq_getElem?_getD,List.getElem?_eq_getElem hkb]
 rfl
theorem next_any {w0:World} {D:Nat} {b:Str} {A:Option Addr} {l cap:Nat} (H:DH w0 D b A l cap) {w:World} {k:Nat} (hk:k≤l) {p nd d n:Int} (X:Dec w0 D (.slice A l cap) w k p nd d n) :
  Calls Tryz.prog 111 #[.pointer (some ⟨D,0,none⟩)] w fun e w'=>
   (k<l∧DOk w0 D (.slice A l cap) w e w' (.int .u8 ((b.getD k 0).toNat:Int)) (k+1) p nd d n)∨(k=l∧DMiss w0 D (.slice A l cap) w e w' l p nd):=by
 have hl2:=H.hl2
 have dq:=fun q=>below_drewN w w.heap.size q
 obtain ⟨e0,e1,e2,e3,e4,e5,e6⟩:=X.cells
 by_cases h:k<l
 ·have HB:=J9 (fun w2 (h2:Below D w0 w2)=>H.byte h h2)
  obtain ⟨x,hx⟩:=N9 (b.getD k 0)
  rw [hx] at HB ⊢
  have X2:Hid (∀ q,Dec w0 D (.slice A l cap) ((w.drewN q).setCell ⟨D,1,none⟩ (.int .i64 ((k:Int)+1))) (k+1) p nd d n):=fun q=>(X.all (dq q)).set1 (k+1)
  have K2:Hid (∀ q,DK D w ((w.drewN q).setCell ⟨D,1,none⟩ (.int .i64 ((k:Int)+1)))):=fun q=>(DK.of_below (dq q)).set 1 _
  have hkn:((k:Int) == (l:Int))=false:=beq_eq_false_iff_ne.2 (by omega)
  clear H X dq hx
  go_enter Tryz.func111,Tryz.ntmps111
  go_wp2
  go_quiet (fail)
  go_upto_region 4 with fail
  have X3:=X2.out nq
  have K3:=J9 (K2.out nq)
  obtain ⟨w2,hw2⟩:=N9 ((w.drewN nq).setCell ⟨D,1,none⟩ (.int .i64 ((k:Int)+1)))
  rw [hw2] at X3 K3 ⊢
  clear e0 e1 e2 e3 e4 e5 e6 X2 K2 hw2
  obtain ⟨g,off,eA,kb⟩:=HB.out w2 X3.bel
  obtain ⟨e0,e1,e2,e3,e4,e5,e6⟩:=X3.cells
  have X3:=J9 X3
  have dq:=J9 (fun q=>below_drewN w2 w2.heap.size q)
  subst eA
  go_wp2
  go_quiet (fail)
  go_wp2
  go_ret
  exact .inl ⟨h,rfl,X3.out.all (dq.out _),K3.out.trans (DK.of_below (dq.out _))⟩
 ·obtain rfl:k=l:=by omega
  have X2:Hid (∀ q,Dec w0 D (.slice A k cap) (w.drewN q) k p nd d n):=fun q=>X.all (dq q)
  have K2:Hid (∀ q,DK D w (w.drewN q)):=fun q=>DK.of_below (dq q)
  have hkn:((k:Int) == (k:Int))=true:=beq_iff_eq.2 rfl
  clear H X dq h
  go_enter Tryz.func111,Tryz.ntmps111
  go_wp2
  go_quiet (fail)
  go_wp2
  exact ⟨rfl,.inr ⟨trivial,rfl,⟨d,n,X2.out _⟩,K2.out _⟩⟩
theorem dsigned_any {w0:World} {D:Nat} {b:Str} {A:Option Addr} {l cap:Nat} (H:DH w0 D b A l cap) {w:World} {k:Nat} (hk:k≤l) {p nd d n:Int} (X:Dec w0 D (.slice A l cap) w k p nd d n) :
  Calls Tryz.prog 110 #[.pointer (some ⟨D,0,none⟩)] w fun e w'=>
   (k<l∧DOk w0 D (.slice A l cap) w e w' (.int .i64 (sgB (b.getD k 0))) (k+1) p nd d n)∨(k=l∧DMiss w0 D (.slice A l cap) w e w' l p nd):=by
 have N:=next_any H hk X
 have hx:=(b.getD k 0).toNat_lt
 have SG:=J9 (fun w=>signed_any ((b.getD k 0).toNat:Int) (by omega) (by omega) w)
 clear H X hx
 go_enter Tryz.func110,Tryz.ntmps110
 go_wp2_with fail
 refine N.mono ?_
 rintro e w' (⟨h,rfl,h1,h2⟩ | ⟨h,rfl,h1,h2⟩)
 ·have h1:=J9 h1
  have h2:=J9 h2
  clear N
  go_wp2_with fail
  refine (SG.out _).mono ?_
  rintro e w2 ⟨rfl,hw⟩
  clear SG
  go_wp2
  go_ret
  first | subst hw | (rw [← hw]) | skip
  exact .inl ⟨h,rfl,h1.out,h2.out⟩
 ·clear N SG
  exact ⟨rfl,.inr ⟨h,rfl,h1,h2⟩⟩
theorem word_any {w0:World} {D:Nat} {b:Str} {A:Option Addr} {l cap:Nat} (H:DH w0 D b A l cap) {w:World} {k:Nat} (hk:k≤l) {p nd d n:Int} (X:Dec w0 D (.slice A l cap) w k p nd d n) :
  Calls Tryz.prog 142 #[.pointer (some ⟨D,0,none⟩)] w fun e w'=>
   (k+1<l∧DOk w0 D (.slice A l cap) w e w' (.int .i64 (((b.getD k 0).toNat:Int)+256*((b.getD (k+1) 0).toNat:Int))) (k+2) p nd d n)∨(l≤k+1∧DMiss w0 D (.slice A l cap) w e w' l p nd):=by
 have N:=next_any H hk X
 have HH:=J9 (fun w1 (hk1:k+1≤l) (h1:Dec w0 D (.slice A l cap) w1 (k+1) p nd d n)=>next_any H hk1 h1)
 have hx:=(b.getD k 0).toNat_lt
 have hy:=(b.getD (k+1) 0).toNat_lt
 obtain ⟨x,hxx⟩:=N9 ((b.getD k 0).toNat)
 obtain ⟨y,hyy⟩:=N9 ((b.getD (k+1) 0).toNat)
 rw [hxx] at N hx ⊢
 rw [hyy] at HH hy ⊢
 clear H X hxx hyy
 go_enter Tryz.func142,Tryz.ntmps142
 go_wp2_with fail
 refine N.mono ?_
 rintro e w1 (⟨h,rfl,h1,h2⟩ | ⟨h,rfl,h1,h2⟩)
 ·have N1:=HH.out w1 (by omega) h1
  have h2:=J9 h2
  clear N h1 HH
  go_wp2_with fail
  refine N1.mono ?_
  rintro e w2 (⟨g,rfl,g1,g2⟩ | ⟨g,rfl,g1,g2⟩)
  ·have g1:=J9 g1
   have g2:=J9 (h2.out.trans g2)
   clear N1 h2
   go_wp2
   go_ret
   exact .inl ⟨g,rfl,g1.out,g2.out⟩
  ·clear N1
   exact ⟨rfl,.inr ⟨by omega,rfl,g1,h2.out.trans g2⟩⟩
 ·clear N HH
  exact ⟨rfl,.inr ⟨by omega,rfl,h1,h2⟩⟩
theorem keep_any {w0:World} {D:Nat} {b:Str} {A:Option Addr} {l cap:Nat} (H:DH w0 D b A l cap) {w:World} {k:Nat} (hk:k≤l) {p nd d n:Int} (X:Dec w0 D (.slice A l cap) w k p nd d n) :
  Calls Tryz.prog 74 #[.pointer (some ⟨D,0,none⟩)] w fun e w'=>DOk w0 D (.slice A l cap) w e w' (.tuple #[]) 1 p nd d n:=by
 obtain ⟨e0,e1,e2,e3,e4,e5,e6⟩:=X.cells
 have X1:=J9 (X.set1 1)
 have K1:=J9 ((DK.refl D w).set 1 (.int .i64 ((1:Nat):Int)))
 clear H X
 go_enter Tryz.func74,Tryz.ntmps74
 go_wp2
 go_end0
 exact ⟨rfl,X1.out,K1.out⟩
theorem isDisp_any {w0:World} {D:Nat} {b:Str} {A:Option Addr} {l cap:Nat} (H:DH w0 D b A l cap) {w:World} {k:Nat} (hk:k≤l) {p nd d n:Int} (X:Dec w0 D (.slice A l cap) w k p nd d n) :
  Calls Tryz.prog 109 #[.pointer (some ⟨D,0,none⟩)] w fun e w'=>DOk w0 D (.slice A l cap) w e w' (.bool (decide (p=5∨p=6))) k p nd d n:=by
 obtain ⟨e0,e1,e2,e3,e4,e5,e6⟩:=X.cells
 have X1:=J9 X
 clear H X
 by_cases h5:p=5
 ·subst h5
  have h:=J9 (show decide ((5:Int)=5∨(5:Int)=6)=true from rfl)
  go_enter Tryz.func109,Tryz.ntmps109
  go_wp2
  go_ret
  exact ⟨rfl,X1.out,DK.refl _ _⟩
 ·have t5:(p == 5)=false:=beq_eq_false_iff_ne.2 h5
  have h:=J9 (show decide (p=5∨p=6)=(p == 6) from by
   by_cases h6:p=6
   ·subst h6;rfl
   ·rw [decide_eq_false (by omega),beq_eq_false_iff_ne.2 h6])
  obtain ⟨t,ht⟩:=N9 ((p == 6))
  rw [ht] at h
  clear h5
  go_enter Tryz.func109,Tryz.ntmps109
  go_wp2
  go_ret
  exact ⟨by rw [h.out];rfl,X1.out,DK.refl _ _⟩
end Go.Proofs.YtclhaejdjogfbaaGreatDoor
namespace Go.Proofs.YtclhaejdjogfbaaGreatDoor
open Go.RowKit Go.Shelf
attribute [local go_sem] Oper.semAt_some
theorem bclone_any (A:Option Addr) (cap l:Nat) (xs:Str) (hl:xs.length=l) (hl2:l≤100000) (w:World) (hx:BytesAt w A xs) :
  Calls Tryz.prog 69 #[.slice A l cap] w fun e w'=>∃ A' c',e=.returned (.slice A' l c')∧TOwnB w' w.heap.size (.slice A' l c') xs∧Below w.heap.size w w':=by
 cases A with
 | none=>
  obtain rfl:xs=[]:=by
   rcases hx with h | ⟨b,off,h,_⟩
   ·exact h
   ·cases h
  obtain rfl:l=0:=hl.symm
  clear hx hl
  have hnil:=fun w=>Lib.run_eql_slice_nil (P:=Tryz.prog) w 25 5 none 0 cap 0 0 Tryz.underlying25
  go_enter Tryz.func69,Tryz.ntmps69
  go_wp2
  go_ret
  exact ⟨none,0,rfl,townB_nil _ _,Below.refl _ _⟩
 | some a=>
  have O1:=J9 (own_lit w [] (by decide))
  have hb:Below w.heap.size w (w.alloc (.cells #[] 5)):=(Below.refl _ w).alloc (Nat.le_refl _) _
  have P1:=J9 (hx.below hb)
  have B1:=J9 hb
  have HL:=J9 hl
  clear hx hb hl
  go_enter Tryz.func69,Tryz.ntmps69
  have hnil:=fun w=>Lib.run_eql_slice_nil (P:=Tryz.prog) w 25 5 (some a) l cap 0 0 Tryz.underlying25
  go_wp2_with (at_builtin;refine wpList_appBs (xs:=[]) (ys:=xs) O1.out P1.out B1.out.size (by rw [HL.out];simp;omega) rfl _ _ rfl rfl rfl l HL.out rfl l (by simp) ?_;intro A2 c2 w2 h1 h2;have O2:=J9 h1;have B2:=J9 h2;clear h1 h2)
  go_ret
  exact ⟨A2,c2,rfl,O2.out,B1.out.trans B2.out⟩
theorem taken_any {w0:World} {D:Nat} {b:Str} {A:Option Addr} {l cap:Nat} (H:DH w0 D b A l cap) {w:World} {k:Nat} (hk:k≤l) {p nd d n:Int} (X:Dec w0 D (.slice A l cap) w k p nd d n) :
  Calls Tryz.prog 41 #[.pointer (some ⟨D,0,none⟩)] w fun e w'=>∃ A' c',e=.returned (.slice A' k c')∧TOwnB w' w.heap.size (.slice A' k c') (b.take k)∧Below w.heap.size w w':=by
 obtain ⟨e0,e1,e2,e3,e4,e5,e6⟩:=X.cells
 have hl2:=H.hl2
 have hkc:¬cap<k:=by have:=H.hc;omega
 have hcm:=H.hcm
 have LT:Hid ((b.take k).length=k):=by show _=_;rw [List.length_take,H.hl];omega
 obtain ⟨w1,hw1⟩:=N9 (w.drew)
 have dq:Below w.heap.size w w1:=by rw [← hw1];exact below_drewN w _ 1
 have zq:w1.heap.size=w.heap.size:=by rw [← hw1];rfl
 have CL:=J9 (bclone_any A cap k (b.take k) LT.out (by omega) w1 (take_at ((X.bytes H.hD H.H0).below dq) k))
 have DQ:=J9 dq
 have ZQ:=J9 zq
 unfold maxLen at hcm
 clear H X dq zq
 go_enter Tryz.func41,Tryz.ntmps41
 go_wp2
 refine Mixed.wp_region_mixed (fun w'=>w'.cell? ⟨D,0,none⟩=some (.slice A l cap)∧w'.cell? ⟨D,1,none⟩=some (.int .i64 (k:Int))) 9 [(0,true),(1,true),(2,true),(3,true),(4,true),(5,true),(6,true),(7,true),(8,true)] (by kernel_rfl) (by kernel_rfl) ⟨e0,e1⟩ ?_
 clear e0 e1 e2 e3 e4 e5 e6
 refine Mixed.mp rfl (.pointer (some ⟨D,0,none⟩)) ?_
 refine Mixed.mp rfl (.pointer (some ⟨D,0,none⟩)) ?_
 refine Mixed.mp rfl (.pointer (some ⟨D,0,none⟩)) ?_
 refine Mixed.mo rfl (.slice A l cap) (fun w h=>by obtain ⟨h1,h2⟩:=h;go_simp;try rfl) ?_
 refine Mixed.mp rfl (.pointer (some ⟨D,0,none⟩)) ?_
 refine Mixed.mp rfl (.pointer (some ⟨D,0,none⟩)) ?_
 refine Mixed.mp rfl (.pointer (some ⟨D,1,none⟩)) ?_
 refine Mixed.mo rfl (.int .i64 (k:Int)) (fun w h=>by obtain ⟨h1,h2⟩:=h;go_simp;try rfl) ?_
 refine Mixed.mo rfl (.slice A k cap) (fun w h=>by clear h;go_simp;try rfl) ?_
 simp only [Mixed.wpMix,List.drop_succ_cons,List.drop_zero]
 rw [hw1]
 clear hw1
 go_wp2_with fail
 refine CL.out.mono ?_
 rintro e w2 ⟨A2,c2,rfl,hO,hb⟩
 rw [ZQ.out] at hO hb
 have O2:=J9 hO
 have B2:=J9 (DQ.out.trans hb)
 clear hO hb CL DQ
 go_wp2
 go_ret
 exact ⟨A2,c2,rfl,O2.out,B2.out⟩
theorem take_any {w0:World} {D:Nat} {b:Str} {A:Option Addr} {l cap:Nat} (H:DH w0 D b A l cap) {w:World} {k:Nat} (hk:k≤l) {p nd d n:Int} (X:Dec w0 D (.slice A l cap) w k p nd d n) {c:UInt8} (hc:c=100∨c=101∨c=110∨c=119) :
  Calls Tryz.prog 113 #[.pointer (some ⟨D,0,none⟩),.int .i32 (c.toNat:Int)] w fun e w'=>
   (k+letN c≤l∧DOk w0 D (.slice A l cap) w e w' (.tuple #[]) (k+letN c) p nd (stepL c (b.drop k) (d,n)).1 (stepL c (b.drop k) (d,n)).2)∨(l<k+letN c∧DMiss w0 D (.slice A l cap) w e w' l p nd):=by
 have t0:(b.drop k).getD 0 0=b.getD k 0:=by rw [getD_drop];rfl
 have t1:(b.drop k).getD 1 0=b.getD (k+1) 0:=by rw [getD_drop]
 have hx:=(b.getD k 0).toNat_lt
 have NX:=J9 (next_any H hk X)
 have SG:=J9 (dsigned_any H hk X)
 have WD:=J9 (word_any H hk X)
 clear H X
 rcases hc with rfl | rfl | rfl | rfl
 ·have ST:stepL 100 (b.drop k) (d,n)=(sgB (b.getD k 0),n):=by unfold stepL;rw [if_pos rfl,t0]
  rw [ST,show letN 100=1 from rfl]
  obtain ⟨z,hz⟩:=N9 (sgB (b.getD k 0))
  simp only [hz] at SG ⊢
  rw [show (((100:UInt8).toNat:Nat):Int)=100 from rfl]
  clear ST hz t0 t1 NX WD
  go_enter Tryz.func113,Tryz.ntmps113
  go_wp2_with fail
  refine SG.out.mono ?_
  rintro e w1 (⟨h,rfl,h1,h2⟩ | ⟨h,rfl,h1,h2⟩)
  ·obtain ⟨e0,e1,e2,e3,e4,e5,e6⟩:=h1.cells
   have X1:=J9 (h1.set4 z)
   have K1:=J9 (h2.set 4 (.int .i64 z))
   clear h1 h2 SG
   go_wp2
   go_end0
   exact .inl ⟨by omega,rfl,X1.out,K1.out⟩
  ·clear SG
   exact ⟨rfl,.inr ⟨by omega,rfl,h1,h2⟩⟩
 ·have ST:stepL 101 (b.drop k) (d,n)=(d,sgB (b.getD k 0)):=by unfold stepL;rw [if_neg (by decide),if_pos rfl,t0]
  rw [ST,show letN 101=1 from rfl]
  obtain ⟨z,hz⟩:=N9 (sgB (b.getD k 0))
  simp only [hz] at SG ⊢
  rw [show (((101:UInt8).toNat:Nat):Int)=101 from rfl]
  clear ST hz t0 t1 NX WD
  go_enter Tryz.func113,Tryz.ntmps113
  go_wp2_with fail
  refine SG.out.mono ?_
  rintro e w1 (⟨h,rfl,h1,h2⟩ | ⟨h,rfl,h1,h2⟩)
  ·obtain ⟨e0,e1,e2,e3,e4,e5,e6⟩:=h1.cells
   have X1:=J9 (h1.set5 z)
   have K1:=J9 (h2.set 5 (.int .i64 z))
   clear h1 h2 SG
   go_wp2
   go_end0
   exact .inl ⟨by omega,rfl,X1.out,K1.out⟩
  ·clear SG
   exact ⟨rfl,.inr ⟨by omega,rfl,h1,h2⟩⟩
 ·have ST:stepL 110 (b.drop k) (d,n)=(d,((b.getD k 0).toNat:Int)):=by unfold stepL;rw [if_neg (by decide),if_neg (by decide),if_pos rfl,t0]
  rw [ST,show letN 110=1 from rfl]
  obtain ⟨z,hz⟩:=N9 ((b.getD k 0).toNat)
  rw [hz] at NX hx ⊢
  rw [show (((110:UInt8).toNat:Nat):Int)=110 from rfl]
  clear ST hz t0 t1 SG WD
  go_enter Tryz.func113,Tryz.ntmps113
  go_wp2_with fail
  refine NX.out.mono ?_
  rintro e w1 (⟨h,rfl,h1,h2⟩ | ⟨h,rfl,h1,h2⟩)
  ·obtain ⟨e0,e1,e2,e3,e4,e5,e6⟩:=h1.cells
   have X1:=J9 (h1.set5 (z:Int))
   have K1:=J9 (h2.set 5 (.int .i64 (z:Int)))
   clear h1 h2 NX
   go_wp2
   go_end0
   exact .inl ⟨by omega,rfl,X1.out,K1.out⟩
  ·clear NX
   exact ⟨rfl,.inr ⟨by omega,rfl,h1,h2⟩⟩
 ·have ST:stepL 119 (b.drop k) (d,n)=(d,((b.getD k 0).toNat:Int)+256*((b.getD (k+1) 0).toNat:Int)):=by unfold stepL;rw [if_neg (by decide),if_neg (by decide),if_neg (by decide),if_pos rfl,t0,t1]
  rw [ST,show letN 119=2 from rfl]
  obtain ⟨z,hz⟩:=N9 (((b.getD k 0).toNat:Int)+256*((b.getD (k+1) 0).toNat:Int))
  simp only [hz] at WD ⊢
  rw [show (((119:UInt8).toNat:Nat):Int)=119 from rfl]
  clear ST hz t0 t1 SG NX
  go_enter Tryz.func113,Tryz.ntmps113
  go_wp2_with fail
  refine WD.out.mono ?_
  rintro e w1 (⟨h,rfl,h1,h2⟩ | ⟨h,rfl,h1,h2⟩)
  ·obtain ⟨e0,e1,e2,e3,e4,e5,e6⟩:=h1.cells
   have X1:=J9 (h1.set5 z)
   have K1:=J9 (h2.set 5 (.int .i64 z))
   clear h1 h2 WD
   go_wp2
   go_end0
   exact .inl ⟨by omega,rfl,X1.out,K1.out⟩
  ·clear WD
   exact ⟨rfl,.inr ⟨by omega,rfl,h1,h2⟩⟩
theorem opcode4_any {w0:World} {D:Nat} {b:Str} {A:Option Addr} {l cap:Nat} (H:DH w0 D b A l cap) {w:World} {k:Nat} (hk:k≤l) {p nd d n:Int} (X:Dec w0 D (.slice A l cap) w k p nd d n) (hp:¬(p=5∨p=6)) :
  Calls Tryz.prog 71 #[.pointer (some ⟨D,0,none⟩)] w fun e w'=>
   (k<l∧DOk w0 D (.slice A l cap) w e w' (.int .u8 ((b.getD k 0).toNat:Int)) (k+1) p ((k:Int)+1) d n)∨(k=l∧DMiss w0 D (.slice A l cap) w e w' l p ((k:Int)+1)):=by
 have hl2:=H.hl2
 obtain ⟨e0,e1,e2,e3,e4,e5,e6⟩:=X.cells
 have X1:=X.set3 ((k:Int)+1)
 have K1:=(DK.refl D w).set 3 (.int .i64 ((k:Int)+1))
 have DI:=isDisp_any H hk X1
 rw [decide_eq_false hp] at DI
 have NX:=J9 (fun w1 h=>next_any H hk (w:=w1) (p:=p) (nd:=(k:Int)+1) (d:=d) (n:=n) h)
 obtain ⟨x,hx⟩:=N9 ((b.getD k 0).toNat)
 rw [hx] at NX ⊢
 have K1:=J9 K1
 clear H X X1 hx hp
 go_enter Tryz.func71,Tryz.ntmps71
 go_wp2_with fail
 refine DI.mono ?_
 rintro e w1 ⟨rfl,h1,h2⟩
 have NX1:=NX.out w1 h1
 have K2:=J9 (K1.out.trans h2)
 clear DI h1 h2 K1 NX e0 e1 e2 e3 e4 e5 e6
 go_wp2_with fail
 refine NX1.mono ?_
 rintro e w2 (⟨h,rfl,h1,h2⟩ | ⟨h,rfl,h1,h2⟩)
 ·have h1:=J9 h1
  have h2:=J9 (K2.out.trans h2)
  clear NX1 K2
  go_wp2
  go_ret
  exact .inl ⟨h,rfl,h1.out,h2.out⟩
 ·clear NX1
  exact ⟨rfl,.inr ⟨h,rfl,h1,K2.out.trans h2⟩⟩
theorem opcode5_any {w0:World} {D:Nat} {b:Str} {A:Option Addr} {l cap:Nat} (H:DH w0 D b A l cap) {w:World} {k:Nat} (hk:k≤l) {p nd d n:Int} (X:Dec w0 D (.slice A l cap) w k p nd d n) (hp:p=5∨p=6) :
  Calls Tryz.prog 71 #[.pointer (some ⟨D,0,none⟩)] w fun e w'=>
   (k+1<l∧DOk w0 D (.slice A l cap) w e w' (.int .u8 ((b.getD (k+1) 0).toNat:Int)) (k+2) p ((k:Int)+2) (sgB (b.getD k 0)) n)∨(l≤k+1∧DMiss w0 D (.slice A l cap) w e w' l p ((k:Int)+2)):=by
 have hl2:=H.hl2
 obtain ⟨e0,e1,e2,e3,e4,e5,e6⟩:=X.cells
 have X1:=X.set3 ((k:Int)+1)
 have K1:=(DK.refl D w).set 3 (.int .i64 ((k:Int)+1))
 have DI:=isDisp_any H hk X1
 rw [decide_eq_true hp] at DI
 have SG:=J9 (fun w1 h=>dsigned_any H hk (w:=w1) (p:=p) (nd:=(k:Int)+2) (d:=d) (n:=n) h)
 obtain ⟨y,hy⟩:=N9 (sgB (b.getD k 0))
 rw [hy] at SG ⊢
 have NX:=J9 (fun w1 (h1:k+1≤l) h=>next_any H h1 (w:=w1) (p:=p) (nd:=(k:Int)+2) (d:=y) (n:=n) h)
 obtain ⟨x,hx⟩:=N9 ((b.getD (k+1) 0).toNat)
 rw [hx] at NX ⊢
 have K1:=J9 K1
 clear H X X1 hx hp hy
 go_enter Tryz.func71,Tryz.ntmps71
 go_wp2_with fail
 refine DI.mono ?_
 rintro e w1 ⟨rfl,h1,h2⟩
 obtain ⟨f0,f1,f2,f3,f4,f5,f6⟩:=h1.cells
 have SG1:=SG.out _ (show Dec w0 D (.slice A l cap) (w1.setCell ⟨D,3,none⟩ (.int .i64 ((k:Int)+2))) k p ((k:Int)+2) d n from h1.set3 ((k:Int)+2))
 have K2:=J9 ((K1.out.trans h2).set 3 (.int .i64 ((k:Int)+2)))
 clear DI h1 h2 K1 SG e0 e1 e2 e3 e4 e5 e6
 go_wp2_with fail
 refine SG1.mono ?_
 rintro e w2 (⟨h,rfl,h1,h2⟩ | ⟨h,rfl,h1,h2⟩)
 ·obtain ⟨e0,e1,e2,e3,e4,e5,e6⟩:=h1.cells
  have NX1:=NX.out _ h (show Dec w0 D (.slice A l cap) (w2.setCell ⟨D,4,none⟩ (.int .i64 y)) (k+1) p ((k:Int)+2) y n from h1.set4 y)
  have K3:=J9 ((K2.out.trans h2).set 4 (.int .i64 y))
  clear SG1 h1 h2 K2 NX f0 f1 f2 f3 f4 f5 f6
  go_wp2_with fail
  refine NX1.mono ?_
  rintro e w3 (⟨g,rfl,g1,g2⟩ | ⟨g,rfl,g1,g2⟩)
  ·have g1:=J9 g1
   have g2:=J9 (K3.out.trans g2)
   clear NX1 K3
   go_wp2
   go_ret
   exact .inl ⟨g,rfl,g1.out,g2.out⟩
  ·clear NX1
   exact ⟨rfl,.inr ⟨by omega,rfl,g1,K3.out.trans g2⟩⟩
 ·clear SG1 NX
  exact ⟨rfl,.inr ⟨by omega,rfl,h1,K2.out.trans h2⟩⟩
theorem newDec_any (b:Str) (A:Option Addr) (l cap:Nat) (w:World) :
  Calls Tryz.prog 20 #[.slice A l cap] w fun e w'=>e=.returned (.pointer (some ⟨w.heap.size,0,none⟩))∧Dec w w.heap.size (.slice A l cap) w' 0 0 0 0 0∧Below w.heap.size w w':=by
 have X:Hid (Dec w w.heap.size (.slice A l cap) (w.alloc (.cells #[.slice A l cap,.int .i64 0,.int .i64 0,.int .i64 0,.int .i64 0,.int .i64 0] 77)) 0 0 0 0 0):=⟨World.alloc_heap_new w _,(Below.refl _ w).alloc (Nat.le_refl _) _⟩
 go_enter Tryz.func20,Tryz.ntmps20
 go_wp2
 go_ret
 exact ⟨rfl,X.out,X.out.bel⟩
end Go.Proofs.YtclhaejdjogfbaaGreatDoor
namespace Go.Proofs.YtclhaejdjogfbaaGreatDoor
open Go.RowKit Go.Shelf
attribute [local go_sem] Oper.semAt_some
theorem trimD_sl (w:World):Calls Tryz.prog 133 #[.string ⟨#[100]⟩,.string ⟨#[100]⟩] w fun e w'=>e=.returned (.string ⟨#[]⟩)∧w'=w:=by
 have hp:=fun w=>hasPrefix_any ⟨#[100]⟩ ⟨#[100]⟩ (by decide) (by decide) w
 rw [show preB (⟨#[100]⟩:ByteArray) ⟨#[100]⟩=true from by decide +kernel] at hp
 go_enter Tryz.func133,Tryz.ntmps133
 go_wp2_with fail
 refine (hp w).mono ?_
 rintro e w' ⟨rfl,rfl⟩
 clear hp
 go_wp2
 go_ret
 exact ⟨rfl,rfl⟩
theorem trimD_any (w:World):Calls Tryz.prog 103 #[.string ⟨#[100]⟩,.string ⟨#[100]⟩] w fun e w'=>e=.returned (.string ⟨#[]⟩)∧w'=w:=by
 go_enter Tryz.func103,Tryz.ntmps103
 go_wp2_with fail
 refine (trimD_sl w).mono ?_
 rintro e w' ⟨rfl,rfl⟩
 go_wp2
 go_ret
 exact ⟨rfl,rfl⟩
def behS (page:Int) (ex:Str):Str:=if 5≤page then [] else ex
theorem next_at {w:World} {it:Nat} {s2:Str} {j:Nat} (hk:w.heap[it]?=some (.stringIter (sB s2) j)) (hj:j<s2.length) (c:Nat) (hc:s2[j].toNat=c) (h:c<128) :
  ∀ ty,(Instr.next (.pointer (some ⟨it,0,none⟩)) true ty).run Tryz.prog w=.ok (.tuple #[.bool true,.int .i64 j,.int .i32 (c:Int)]) (w.iterAt it (sB s2) (j+1)):=fun ty=>by
 have hz:j<(sB s2).size:=by rw [sB_size];exact hj
 have e:(sB s2)[j]=s2[j]:=sB_at s2 j hz hj
 have hc2:((sB s2)[j]).toNat=c:=(congrArg UInt8.toNat e).trans hc
 rw [Lib.run_next_ascii_at w it (sB s2) j ty hk hz (by rw [hc2];exact h),hc2]
end Go.Proofs.YtclhaejdjogfbaaGreatDoor
