/-
  The reference's Fits.
-/
import Derived.Test.YtclhaejdjogfbaaGreatDoorGAV
import Derived.Test.YtclhaejdjogfbaaGreatDoorMCnU
import Derived.Test.YtclhaejdjogfbaaGreatDoorGAT
import Derived.Test.YtclhaejdjogfbaaGreatDoorGAE
import Derived.Test.YtclhaejdjogfbaaGreatDoorQ0
set_option linter.all false
set_option maxRecDepth 100000
set_option maxHeartbeats 4000000
namespace Go.Proofs.YtclhaejdjogfbaaGreatDoor
open Go.RowKit Go.Shelf
attribute [local go_sem] Oper.semAt_some
attribute [local irreducible] Go.Mixed.wpMix
theorem fitsR_no {m ex:Str} {L:List Tr} {s:ByteArray} {C:List Tr} {k:Nat} (hk:k<C.length) (h:fitT ex L k (C.getD k tr0)=false):fitsR m L ex s C=false:=by
 unfold fitsR
 rw [show ((List.range C.length).all fun k=>fitT ex L k (C.getD k tr0))=false from List.all_eq_false.2 ⟨k,List.mem_range.2 hk,by rw [h];decide⟩]
 simp
theorem fitsR_yes {m ex:Str} {L:List Tr} {s:ByteArray} {C:List Tr} (hs:shpR m L s C=true) (h:∀ k,k<C.length→fitT ex L k (C.getD k tr0)=true):fitsR m L ex s C=true:=by
 unfold fitsR
 rw [hs,show ((List.range C.length).all fun k=>fitT ex L k (C.getD k tr0))=true from List.all_eq_true.2 fun k hk=>h k (List.mem_range.1 hk)]
 rfl
theorem rfits10_any (page op:Int) (m:Str) (A:Option Addr) (cap l:Nat) (L:List Tr) (hl:L.length=l) (hL:l≤1000) (ex:Str) (hx:ex.length≤1000) (al:Bool) (s:ByteArray) (Ai:Option Addr) (capi li:Nat) (I:List Tr) (hli:I.length=li) (hLi:li≤900) (w:World) (H:OpsP w A L) (HF:OpsP w Ai I) :
  Calls Tryz.prog 54 #[enV page op m (.slice A l cap) ex al,.agg #[.string s,.slice Ai li capi]] w fun e w'=>e=.returned (.bool (fitsR m L ex s (canL (opc s) I)))∧Below w.heap.size w w':=by
 have hof:=fun w h=>rof_any s Ai capi I (by omega) w h
 rw [hli] at hof
 have hcl:=canL_len (opc s) I
 obtain ⟨C,hC⟩:=N9 (canL (opc s) I)
 rw [hC] at hof hcl
 rw [hC]
 obtain ⟨lc,hlc⟩:=N9 (C.length)
 have hLc:lc≤1000:=by omega
 have hle:=fun k (hk:k<l) w' h=>letter_any page op m A cap l L hl hL ex hx al k hk w' h
 have hsh:=fun Ac cc w' h1 h2=>shaped_any page op m A cap l L hl hL ex al s Ac cc lc C hlc hLc w' h1 h2
 unfold enV at hle hsh ⊢
 obtain ⟨w0,hw0⟩:=N9 ((w.alloc (.cells #[.int .i64 page,.int .u8 op,.string (sB m),.slice A l cap,.string (sB ex),.bool al] 63)).alloc (.cells #[.string s,.slice Ai li capi] 24))
 obtain ⟨n,hn⟩:=N9 (w.heap.size)
 have b0:Below n w w0:=by rw [← hw0,← hn];exact ((Below.refl _ w).alloc (Nat.le_refl _) _).alloc (by simp) _
 have z0:w0.heap.size=n+1+1:=by rw [← hw0,← hn];simp
 have c0:w0.heap[n]?=some (.cells #[.int .i64 page,.int .u8 op,.string (sB m),.slice A l cap,.string (sB ex),.bool al] 63 (0,0)):=by
  rw [← hw0,← hn]
  exact (Below.heap_alloc _ _ _ (by simp)).trans (World.alloc_heap_new w _)
 have c1:w0.heap[n+1]?=some (.cells #[.string s,.slice Ai li capi] 24 (0,0)):=by
  rw [← hw0,← hn]
  have h:=World.alloc_heap_new (w.alloc (.cells #[.int .i64 page,.int .u8 op,.string (sB m),.slice A l cap,.string (sB ex),.bool al] 63)) (.cells #[.string s,.slice Ai li capi] 24)
  rwa [World.size_alloc] at h
 have OF:=J9 (hof w0 (HF.below (by rw [hn];exact b0)))
 have LE:=J9 hle
 have SH:=J9 hsh
 have HN:=J9 hn
 have B0:=J9 b0
 have C0:=J9 c0
 have P0:=J9 (H.below (by rw [hn];exact b0))
 have HL:=J9 hl
 have HLC:=J9 hlc
 have k0:=C9 c1 0
 have k1:=C9 c1 1
 clear hof hle hsh c0 c1 b0 H HF hx hC hcl hl hlc
 go_enter Tryz.func54,Tryz.ntmps54
 go_wp2_with fail
 refine OF.out.mono ?_
 rintro e w1 ⟨v,rfl,hO,hb⟩
 obtain ⟨Ac,cc,rfl,hPc,-,-⟩:=hO.ops
 rw [HLC.out]
 have B1:Hid (Below n w w1):=B0.out.trans (hb.mono (by omega))
 have C1:=J9 ((hb.block n (by omega)).trans C0.out)
 have P1:=J9 (P0.out.below hb)
 have R1:=J9 hPc
 have Z1:Hid (n+2≤w1.heap.size):=by have:=hb.size;show _≤_;omega
 clear OF hb hO hPc B0 C0 P0 k0 k1 hw0 z0
 go_upto_region 2 with fail
 obtain ⟨b,hbs⟩:=N9 (w1.heap.size)
 obtain ⟨w2,hw2,y1,y2,y3⟩:=ins_box w1 s (.slice Ac lc cc) b hbs
 rw [hw2,hbs]
 have hnb:n+2≤b:=by have:=Z1.out;omega
 have B2:Hid (Below n w w2):=B1.out.trans (y2.mono (by omega))
 have P2:=J9 (P1.out.below y2)
 have R2:=J9 (R1.out.below y2)
 have E2:=J9 ((y2.block n (by omega)).trans C1.out)
 have F2:=J9 y1
 have sh:=SH.out Ac cc w2 P2.out R2.out
 have i0:=C9 E2.out 0
 have i1:=C9 E2.out 1
 have i2:=C9 E2.out 2
 have i3:=C9 E2.out 3
 have i4:=C9 E2.out 4
 have i5:=C9 E2.out 5
 have j0:=C9 y1 0
 have j1:=C9 y1 1
 clear hw2 hbs y1 y2 B1 P1 R1 C1 Z1 SH
 go_wp2_with fail
 refine sh.mono ?_
 rintro e w3 ⟨rfl,hb⟩
 have B3:Hid (Below n w w3):=B2.out.trans (hb.mono (by omega))
 have P3:=J9 (P2.out.below hb)
 have R3:=J9 (R2.out.below hb)
 have E3:=J9 ((hb.block n (by omega)).trans E2.out)
 have F3:=J9 ((hb.block b (by omega)).trans F2.out)
 have Z3:Hid (b+1≤w3.heap.size):=by have:=hb.size;show _≤_;omega
 clear sh hb B2 P2 R2 E2 F2 i0 i1 i2 i3 i4 i5 j0 j1 y3
 cases hs:shpR m L s C with
 | false=>
  have T:Hid (false=fitsR m L ex s C):=by show false=_;unfold fitsR;rw [hs];rfl
  clear hs
  go_wp2
  go_ret
  exact ⟨ret_bool T.out,by rw [HN.out];exact B3.out⟩
 | true=>
  have hll:lc=l:=by
   have h1:=hs
   unfold shpR at h1
   simp only [Bool.and_eq_true,decide_eq_true_eq] at h1
   have:=len_of_shape h1.2
   have:=HL.out;have:=HLC.out;omega
  subst hll
  have HS:=J9 hs
  have j1:=C9 F3.out 1
  clear hs
  go_wp2
  clear j1
  go_loopw [6] (fun i wr=>∃ j:Nat,j≤lc∧i=.int .i64 j∧Hid (∀ k,k<j→fitT ex L k (C.getD k tr0)=true)∧Hid (Below w3.heap.size w3 wr)) (fun i _=>lc - (intOf i).toNat)
  case atStart=>exact ⟨0,Nat.zero_le _,rfl,fun k h=>by omega,Below.refl _ _⟩
  case round=>
   obtain ⟨j,hj,rfl,R,B⟩:=hrel
   have e4:=(B.out.block n (by have:=Z3.out;omega)).trans E3.out
   have f4:=(B.out.block b (by have:=Z3.out;omega)).trans F3.out
   have j1:=C9 f4 1
   have BW:Hid (Below n w wr):=B3.out.trans (B.out.mono (by have:=Z3.out;omega))
   by_cases hlt:j<lc
   ·have hj1:j<L.length:=by have:=HL.out;omega
    have hj2:j<C.length:=by have:=HLC.out;omega
    have lt:=LE.out j hlt wr (P3.out.below B.out)
    have i0:=C9 e4 0
    have i1:=C9 e4 1
    have i2:=C9 e4 2
    have i3:=C9 e4 3
    have i4:=C9 e4 4
    have i5:=C9 e4 5
    have g1:L.getD j tr0=L[j]:=by rw [List.getD_eq_getElem?_getD,List.getElem?_eq_getElem hj1];rfl
    have g2:C.getD j tr0=C[j]:=by rw [List.getD_eq_getElem?_getD,List.getElem?_eq_getElem hj2];rfl
    have E4:=J9 e4
    have F4:=J9 f4
    have RN:Hid (fitT ex L j (C.getD j tr0)=true→∀ k,k<j+1→fitT ex L k (C.getD k tr0)=true):=fun h k hk=>by
     by_cases e:k=j
     ·subst e;exact h
     ·exact R.out k (by omega)
    have RF:Hid (fitT ex L j (C.getD j tr0)=false→fitsR m L ex s C=false):=fun h=>fitsR_no hj2 h
    have FT:Hid (fitT ex L j (C.getD j tr0)=if letR ex L j=0 then decide ((L.getD j tr0).2.2=(C.getD j tr0).2.2) else withR (letR ex L j) (C.getD j tr0).2.2):=by show _=_;unfold fitT;rfl
    obtain ⟨r,hr⟩:=N9 (letR ex L j)
    rw [hr] at lt FT
    have hrz:=u8_beq r 0
    clear hr e4 f4 R
    go_wp2_with fail
    refine lt.mono ?_
    rintro e w4 ⟨rfl,hb⟩
    have B4:Hid (Below w3.heap.size w3 w4):=B.out.trans (hb.mono B.out.size)
    have e5:=(hb.block n (Array.getElem?_eq_some_iff.1 E4.out).1).trans E4.out
    have f5:=(hb.block b (Array.getElem?_eq_some_iff.1 F4.out).1).trans F4.out
    obtain ⟨b1,o1,rfl,-,p0,p1,p2⟩:=(P3.out.below B4.out).at_ hj1
    obtain ⟨b2,o2,rfl,-,q0,q1,q2⟩:=(R3.out.below B4.out).at_ hj2
    rw [← g1] at p2
    rw [← g2] at q2
    obtain ⟨x2,hx2⟩:=N9 ((L.getD j tr0).2.2)
    obtain ⟨y2,hy2⟩:=N9 ((C.getD j tr0).2.2)
    rw [hx2] at p2 FT
    rw [hy2] at q2 FT
    have B5:=fun q=>J9 (B4.out.trans (below_drewN w4 w3.heap.size q))
    have BF:Hid (∀ q,Below n w (w4.drewN q)):=fun q=>B3.out.trans ((B5 q).out.mono (by have:=Z3.out;omega))
    have k3:=C9 e5 3
    have j1:=C9 f5 1
    have hjc:(j:Int)<(lc:Int):=by omega
    clear lt hb i0 i1 i2 i3 i4 i5 g1 g2 hj1 hj2 p0 p1 q0 q1 hx2 hy2 e5 f5 BW B E4 F4
    obtain ⟨x,hx9⟩:=N9 ((r.toNat:Int))
    have hzb:((x:Int) == 0)=decide (r=0):=by rw [← hx9];exact u8_beq r 0
    have hw:=fun w'=>rwithin_any r y2 w'
    rw [hx9] at hw ⊢
    clear hrz
    by_cases r0:r=0
    ·have FT2:Hid (fitT ex L j (C.getD j tr0)=decide (x2=y2)):=by show _=_;rw [FT.out,if_pos r0]
     rw [decide_eq_true r0] at hzb
     obtain rfl:x=0:=by simpa using hzb
     clear FT r0 hx9 hw hzb
     by_cases hxy:x2=y2
     ·subst hxy
      have R3:=J9 (RN.out (by rw [FT2.out];exact decide_eq_true rfl))
      clear RN RF FT2
      go_upto_region 8 with fail
      obtain ⟨w7,hw7⟩:=N9 (w4.drew)
      have KC:Hid (w7.cell? ⟨n,3,none⟩=some (.slice (some ⟨b1,o1,none⟩) lc cap)∧w7.cell? ⟨b,1,none⟩=some (.slice (some ⟨b2,o2,none⟩) lc cc)∧w7.cell? ⟨b1,o1+j*3+2,none⟩=some (.int .i64 x2)∧w7.cell? ⟨b2,o2+j*3+2,none⟩=some (.int .i64 x2)):=by rw [← hw7];exact ⟨k3,j1,p2,q2⟩
      have B7:Hid (Below w3.heap.size w3 w7):=by rw [← hw7];exact B4.drew
      have BF7:Hid (Below n w w7):=B3.out.trans (B7.out.mono (by have:=Z3.out;omega))
      clear k3 j1 p2 q2 B5 BF
      refine Mixed.wp_region_mixed (fun w'=>w'.cell? ⟨n,3,none⟩=some (.slice (some ⟨b1,o1,none⟩) lc cap)∧w'.cell? ⟨b,1,none⟩=some (.slice (some ⟨b2,o2,none⟩) lc cc)∧w'.cell? ⟨b1,o1+j*3+2,none⟩=some (.int .i64 x2)∧w'.cell? ⟨b2,o2+j*3+2,none⟩=some (.int .i64 x2)) 32 [(0,true),(1,true),(2,true),(3,true),(4,true),(5,true),(6,true),(7,true),(8,true),(9,true),(10,true),(11,true),(12,true),(13,true),(14,true),(15,true),(16,true),(17,true),(18,true),(19,true),(20,true),(21,true),(22,true),(23,true),(24,true),(25,true),(26,true),(27,true),(28,true),(29,false),(30,true),(31,true)] (by kernel_rfl) (by kernel_rfl) (by rw [hw7];exact KC.out) ?_
      rw [hw7]
      clear hw7
      refine Mixed.mo rfl (.int .u8 0) (fun w h=>by obtain ⟨h1,h2,h3,h4⟩:=h;go_simp;try rfl) ?_
      refine Mixed.mo rfl (.bool true) (fun w h=>by obtain ⟨h1,h2,h3,h4⟩:=h;go_simp;try rfl) ?_
      refine Mixed.mo rfl (.bool true) (fun w h=>by obtain ⟨h1,h2,h3,h4⟩:=h;go_simp;try rfl) ?_
      refine Mixed.mo rfl (.pointer (some ⟨n,2,none⟩)) (fun w h=>by obtain ⟨h1,h2,h3,h4⟩:=h;go_simp;try rfl) ?_
      refine Mixed.mo rfl (.pointer (some ⟨n,3,none⟩)) (fun w h=>by obtain ⟨h1,h2,h3,h4⟩:=h;go_simp;try rfl) ?_
      refine Mixed.mo rfl (.slice (some ⟨b1,o1,none⟩) lc cap) (fun w h=>by obtain ⟨h1,h2,h3,h4⟩:=h;go_simp;try rfl) ?_
      refine Mixed.mo rfl (.int .i64 j) (fun w h=>by obtain ⟨h1,h2,h3,h4⟩:=h;go_simp;try rfl) ?_
      refine Mixed.mo rfl (.pointer (some ⟨b1,o1+j*3,none⟩)) (fun w h=>by obtain ⟨h1,h2,h3,h4⟩:=h;go_simp;try rfl) ?_
      refine Mixed.mo rfl (.pointer (some ⟨b1,o1+j*3+2,none⟩)) (fun w h=>by obtain ⟨h1,h2,h3,h4⟩:=h;go_simp;try rfl) ?_
      refine Mixed.mo rfl (.int .i64 x2) (fun w h=>by obtain ⟨h1,h2,h3,h4⟩:=h;go_simp;try rfl) ?_
      refine Mixed.mo rfl (.pointer (some ⟨b,1,none⟩)) (fun w h=>by obtain ⟨h1,h2,h3,h4⟩:=h;go_simp;try rfl) ?_
      refine Mixed.mo rfl (.slice (some ⟨b2,o2,none⟩) lc cc) (fun w h=>by obtain ⟨h1,h2,h3,h4⟩:=h;go_simp;try rfl) ?_
      refine Mixed.mo rfl (.int .i64 j) (fun w h=>by obtain ⟨h1,h2,h3,h4⟩:=h;go_simp;try rfl) ?_
      refine Mixed.mo rfl (.pointer (some ⟨b2,o2+j*3,none⟩)) (fun w h=>by obtain ⟨h1,h2,h3,h4⟩:=h;go_simp;try rfl) ?_
      refine Mixed.mo rfl (.pointer (some ⟨b2,o2+j*3+2,none⟩)) (fun w h=>by obtain ⟨h1,h2,h3,h4⟩:=h;go_simp;try rfl) ?_
      refine Mixed.mo rfl (.int .i64 x2) (fun w h=>by obtain ⟨h1,h2,h3,h4⟩:=h;go_simp;try rfl) ?_
      refine Mixed.mo rfl (.bool false) (fun w h=>by obtain ⟨h1,h2,h3,h4⟩:=h;go_simp;try rfl) ?_
      refine Mixed.mo rfl (.bool false) (fun w h=>by obtain ⟨h1,h2,h3,h4⟩:=h;go_simp;try rfl) ?_
      refine Mixed.mo rfl (.bool false) (fun w h=>by obtain ⟨h1,h2,h3,h4⟩:=h;go_simp;try rfl) ?_
      refine Mixed.mo rfl (.int .u8 0) (fun w h=>by obtain ⟨h1,h2,h3,h4⟩:=h;go_simp;try rfl) ?_
      refine Mixed.mo rfl (.bool false) (fun w h=>by obtain ⟨h1,h2,h3,h4⟩:=h;go_simp;try rfl) ?_
      refine Mixed.mo rfl (.bool false) (fun w h=>by obtain ⟨h1,h2,h3,h4⟩:=h;go_simp;try rfl) ?_
      refine Mixed.ms rfl ?_
      refine Mixed.ms rfl ?_
      refine Mixed.ms rfl ?_
      refine Mixed.ms rfl ?_
      refine Mixed.ms rfl ?_
      refine Mixed.ms rfl ?_
      refine Mixed.ms rfl ?_
      refine Mixed.wpMix_skipL rfl (by kernel_rfl) KC.out ?_
      refine Mixed.ms rfl ?_
      refine Mixed.mo rfl (.bool false) (fun w h=>by obtain ⟨h1,h2,h3,h4⟩:=h;go_simp;try rfl) ?_
      simp only [Mixed.wpMix,List.drop_succ_cons,List.drop_zero]
      go_wp2
      go_roundw
      case rel=>exact ⟨j+1,by omega,by go_num,R3.out,B7.out⟩
      case measure=>simp [intOf];omega
     ·have T:=J9 (RF.out (by rw [FT2.out];exact decide_eq_false hxy))
      have e1:(x2 == y2)=false:=beq_eq_false_iff_ne.2 hxy
      clear RN RF FT2
      go_upto_region 8 with fail
      obtain ⟨w7,hw7⟩:=N9 (w4.drew)
      have KC:Hid (w7.cell? ⟨n,3,none⟩=some (.slice (some ⟨b1,o1,none⟩) lc cap)∧w7.cell? ⟨b,1,none⟩=some (.slice (some ⟨b2,o2,none⟩) lc cc)∧w7.cell? ⟨b1,o1+j*3+2,none⟩=some (.int .i64 x2)∧w7.cell? ⟨b2,o2+j*3+2,none⟩=some (.int .i64 y2)):=by rw [← hw7];exact ⟨k3,j1,p2,q2⟩
      have B7:Hid (Below w3.heap.size w3 w7):=by rw [← hw7];exact B4.drew
      have BF7:Hid (Below n w w7):=B3.out.trans (B7.out.mono (by have:=Z3.out;omega))
      clear k3 j1 p2 q2 B5 BF
      refine Mixed.wp_region_mixed (fun w'=>w'.cell? ⟨n,3,none⟩=some (.slice (some ⟨b1,o1,none⟩) lc cap)∧w'.cell? ⟨b,1,none⟩=some (.slice (some ⟨b2,o2,none⟩) lc cc)∧w'.cell? ⟨b1,o1+j*3+2,none⟩=some (.int .i64 x2)∧w'.cell? ⟨b2,o2+j*3+2,none⟩=some (.int .i64 y2)) 32 [(0,true),(1,true),(2,true),(3,true),(4,true),(5,true),(6,true),(7,true),(8,true),(9,true),(10,true),(11,true),(12,true),(13,true),(14,true),(15,true),(16,true),(17,true),(18,true),(19,true),(20,true),(21,true),(22,true),(23,true),(24,true),(25,true),(26,true),(27,true),(28,true),(29,false),(30,true),(31,true)] (by kernel_rfl) (by kernel_rfl) (by rw [hw7];exact KC.out) ?_
      rw [hw7]
      clear hw7
      refine Mixed.mo rfl (.int .u8 0) (fun w h=>by obtain ⟨h1,h2,h3,h4⟩:=h;go_simp;try rfl) ?_
      refine Mixed.mo rfl (.bool true) (fun w h=>by obtain ⟨h1,h2,h3,h4⟩:=h;go_simp;try rfl) ?_
      refine Mixed.mo rfl (.bool true) (fun w h=>by obtain ⟨h1,h2,h3,h4⟩:=h;go_simp;try rfl) ?_
      refine Mixed.mo rfl (.pointer (some ⟨n,2,none⟩)) (fun w h=>by obtain ⟨h1,h2,h3,h4⟩:=h;go_simp;try rfl) ?_
      refine Mixed.mo rfl (.pointer (some ⟨n,3,none⟩)) (fun w h=>by obtain ⟨h1,h2,h3,h4⟩:=h;go_simp;try rfl) ?_
      refine Mixed.mo rfl (.slice (some ⟨b1,o1,none⟩) lc cap) (fun w h=>by obtain ⟨h1,h2,h3,h4⟩:=h;go_simp;try rfl) ?_
      refine Mixed.mo rfl (.int .i64 j) (fun w h=>by obtain ⟨h1,h2,h3,h4⟩:=h;go_simp;try rfl) ?_
      refine Mixed.mo rfl (.pointer (some ⟨b1,o1+j*3,none⟩)) (fun w h=>by obtain ⟨h1,h2,h3,h4⟩:=h;go_simp;try rfl) ?_
      refine Mixed.mo rfl (.pointer (some ⟨b1,o1+j*3+2,none⟩)) (fun w h=>by obtain ⟨h1,h2,h3,h4⟩:=h;go_simp;try rfl) ?_
      refine Mixed.mo rfl (.int .i64 x2) (fun w h=>by obtain ⟨h1,h2,h3,h4⟩:=h;go_simp;try rfl) ?_
      refine Mixed.mo rfl (.pointer (some ⟨b,1,none⟩)) (fun w h=>by obtain ⟨h1,h2,h3,h4⟩:=h;go_simp;try rfl) ?_
      refine Mixed.mo rfl (.slice (some ⟨b2,o2,none⟩) lc cc) (fun w h=>by obtain ⟨h1,h2,h3,h4⟩:=h;go_simp;try rfl) ?_
      refine Mixed.mo rfl (.int .i64 j) (fun w h=>by obtain ⟨h1,h2,h3,h4⟩:=h;go_simp;try rfl) ?_
      refine Mixed.mo rfl (.pointer (some ⟨b2,o2+j*3,none⟩)) (fun w h=>by obtain ⟨h1,h2,h3,h4⟩:=h;go_simp;try rfl) ?_
      refine Mixed.mo rfl (.pointer (some ⟨b2,o2+j*3+2,none⟩)) (fun w h=>by obtain ⟨h1,h2,h3,h4⟩:=h;go_simp;try rfl) ?_
      refine Mixed.mo rfl (.int .i64 y2) (fun w h=>by obtain ⟨h1,h2,h3,h4⟩:=h;go_simp;try rfl) ?_
      refine Mixed.mo rfl (.bool true) (fun w h=>by obtain ⟨h1,h2,h3,h4⟩:=h;go_simp;try rfl) ?_
      refine Mixed.mo rfl (.bool true) (fun w h=>by obtain ⟨h1,h2,h3,h4⟩:=h;go_simp;try rfl) ?_
      refine Mixed.mo rfl (.bool true) (fun w h=>by obtain ⟨h1,h2,h3,h4⟩:=h;go_simp;try rfl) ?_
      refine Mixed.ms rfl ?_
      refine Mixed.ms rfl ?_
      refine Mixed.ms rfl ?_
      refine Mixed.ms rfl ?_
      refine Mixed.ms rfl ?_
      refine Mixed.ms rfl ?_
      refine Mixed.ms rfl ?_
      refine Mixed.ms rfl ?_
      refine Mixed.ms rfl ?_
      refine Mixed.ms rfl ?_
      refine Mixed.wpMix_skipL rfl (by kernel_rfl) KC.out ?_
      refine Mixed.ms rfl ?_
      refine Mixed.ms rfl ?_
      simp only [Mixed.wpMix,List.drop_succ_cons,List.drop_zero]
      go_wp2
      go_ret
      exact ⟨ret_bool T.out.symm,by rw [HN.out];exact BF7.out⟩
    ·have FT2:Hid (fitT ex L j (C.getD j tr0)=withR r y2):=by show _=_;rw [FT.out,if_neg r0]
     rw [decide_eq_false r0] at hzb
     obtain ⟨z,hzz⟩:=N9 (withR r y2)
     rw [hzz] at hw FT2
     have hne:¬x=0:=fun h=>by rw [h] at hzb;simp at hzb
     clear FT r0 hzz hx9
     cases z with
     | true=>
      have R3:=J9 (RN.out FT2.out)
      clear RN RF FT2
      go_upto_region 8 with fail
      obtain ⟨w7,hw7⟩:=N9 (w4.drew)
      have KC:Hid (w7.cell? ⟨n,3,none⟩=some (.slice (some ⟨b1,o1,none⟩) lc cap)∧w7.cell? ⟨b,1,none⟩=some (.slice (some ⟨b2,o2,none⟩) lc cc)∧w7.cell? ⟨b1,o1+j*3+2,none⟩=some (.int .i64 x2)∧w7.cell? ⟨b2,o2+j*3+2,none⟩=some (.int .i64 y2)):=by rw [← hw7];exact ⟨k3,j1,p2,q2⟩
      have B7:Hid (Below w3.heap.size w3 w7):=by rw [← hw7];exact B4.drew
      have BF7:Hid (Below n w w7):=B3.out.trans (B7.out.mono (by have:=Z3.out;omega))
      clear k3 j1 p2 q2 B5 BF
      refine Mixed.wp_region_mixed (fun w'=>w'.cell? ⟨n,3,none⟩=some (.slice (some ⟨b1,o1,none⟩) lc cap)∧w'.cell? ⟨b,1,none⟩=some (.slice (some ⟨b2,o2,none⟩) lc cc)∧w'.cell? ⟨b1,o1+j*3+2,none⟩=some (.int .i64 x2)∧w'.cell? ⟨b2,o2+j*3+2,none⟩=some (.int .i64 y2)) 32 [(0,true),(1,true),(2,true),(3,true),(4,true),(5,true),(6,true),(7,true),(8,true),(9,true),(10,true),(11,true),(12,true),(13,true),(14,true),(15,true),(16,true),(17,true),(18,true),(19,true),(20,true),(21,true),(22,true),(23,true),(24,true),(25,true),(26,true),(27,true),(28,true),(29,false),(30,true),(31,true)] (by kernel_rfl) (by kernel_rfl) (by rw [hw7];exact KC.out) ?_
      rw [hw7]
      clear hw7
      refine Mixed.mo rfl (.int .u8 x) (fun w h=>by obtain ⟨h1,h2,h3,h4⟩:=h;go_simp;try rfl) ?_
      refine Mixed.mo rfl (.bool false) (fun w h=>by obtain ⟨h1,h2,h3,h4⟩:=h;go_simp;try rfl) ?_
      refine Mixed.mo rfl (.bool false) (fun w h=>by obtain ⟨h1,h2,h3,h4⟩:=h;go_simp;try rfl) ?_
      refine Mixed.ms rfl ?_
      refine Mixed.ms rfl ?_
      refine Mixed.ms rfl ?_
      refine Mixed.ms rfl ?_
      refine Mixed.ms rfl ?_
      refine Mixed.ms rfl ?_
      refine Mixed.ms rfl ?_
      refine Mixed.ms rfl ?_
      refine Mixed.ms rfl ?_
      refine Mixed.ms rfl ?_
      refine Mixed.ms rfl ?_
      refine Mixed.ms rfl ?_
      refine Mixed.ms rfl ?_
      refine Mixed.ms rfl ?_
      refine Mixed.mo rfl (.bool false) (fun w h=>by obtain ⟨h1,h2,h3,h4⟩:=h;go_simp;try rfl) ?_
      refine Mixed.mo rfl (.bool false) (fun w h=>by obtain ⟨h1,h2,h3,h4⟩:=h;go_simp;try rfl) ?_
      refine Mixed.mo rfl (.int .u8 x) (fun w h=>by obtain ⟨h1,h2,h3,h4⟩:=h;go_simp;try rfl) ?_
      refine Mixed.mo rfl (.bool true) (fun w h=>by obtain ⟨h1,h2,h3,h4⟩:=h;go_simp;try rfl) ?_
      refine Mixed.mo rfl (.bool true) (fun w h=>by obtain ⟨h1,h2,h3,h4⟩:=h;go_simp;try rfl) ?_
      refine Mixed.mo rfl (.int .u8 x) (fun w h=>by obtain ⟨h1,h2,h3,h4⟩:=h;go_simp;try rfl) ?_
      refine Mixed.mo rfl (.pointer (some ⟨b,1,none⟩)) (fun w h=>by obtain ⟨h1,h2,h3,h4⟩:=h;go_simp;try rfl) ?_
      refine Mixed.mo rfl (.slice (some ⟨b2,o2,none⟩) lc cc) (fun w h=>by obtain ⟨h1,h2,h3,h4⟩:=h;go_simp;try rfl) ?_
      refine Mixed.mo rfl (.int .i64 j) (fun w h=>by obtain ⟨h1,h2,h3,h4⟩:=h;go_simp;try rfl) ?_
      refine Mixed.mo rfl (.pointer (some ⟨b2,o2+j*3,none⟩)) (fun w h=>by obtain ⟨h1,h2,h3,h4⟩:=h;go_simp;try rfl) ?_
      refine Mixed.mo rfl (.pointer (some ⟨b2,o2+j*3+2,none⟩)) (fun w h=>by obtain ⟨h1,h2,h3,h4⟩:=h;go_simp;try rfl) ?_
      refine Mixed.mo rfl (.int .i64 y2) (fun w h=>by obtain ⟨h1,h2,h3,h4⟩:=h;go_simp;try rfl) ?_
      refine Mixed.wpMix_loudG rfl (by kernel_rfl) ?_
      go_wp2_with fail
      refine (hw _).mono ?_
      rintro e w9 ⟨rfl,rfl⟩
      go_wp2
      refine ⟨KC.out,?_⟩
      refine Mixed.mo rfl (.bool false) (fun w h=>by obtain ⟨h1,h2,h3,h4⟩:=h;go_simp;try rfl) ?_
      refine Mixed.mo rfl (.bool false) (fun w h=>by obtain ⟨h1,h2,h3,h4⟩:=h;go_simp;try rfl) ?_
      simp only [Mixed.wpMix,List.drop_succ_cons,List.drop_zero]
      go_wp2
      go_roundw
      case rel=>exact ⟨j+1,by omega,by go_num,R3.out,B7.out⟩
      case measure=>simp [intOf];omega
     | false=>
      have T:=J9 (RF.out FT2.out)
      clear RN RF FT2
      go_upto_region 8 with fail
      obtain ⟨w7,hw7⟩:=N9 (w4.drew)
      have KC:Hid (w7.cell? ⟨n,3,none⟩=some (.slice (some ⟨b1,o1,none⟩) lc cap)∧w7.cell? ⟨b,1,none⟩=some (.slice (some ⟨b2,o2,none⟩) lc cc)∧w7.cell? ⟨b1,o1+j*3+2,none⟩=some (.int .i64 x2)∧w7.cell? ⟨b2,o2+j*3+2,none⟩=some (.int .i64 y2)):=by rw [← hw7];exact ⟨k3,j1,p2,q2⟩
      have B7:Hid (Below w3.heap.size w3 w7):=by rw [← hw7];exact B4.drew
      have BF7:Hid (Below n w w7):=B3.out.trans (B7.out.mono (by have:=Z3.out;omega))
      clear k3 j1 p2 q2 B5 BF
      refine Mixed.wp_region_mixed (fun w'=>w'.cell? ⟨n,3,none⟩=some (.slice (some ⟨b1,o1,none⟩) lc cap)∧w'.cell? ⟨b,1,none⟩=some (.slice (some ⟨b2,o2,none⟩) lc cc)∧w'.cell? ⟨b1,o1+j*3+2,none⟩=some (.int .i64 x2)∧w'.cell? ⟨b2,o2+j*3+2,none⟩=some (.int .i64 y2)) 32 [(0,true),(1,true),(2,true),(3,true),(4,true),(5,true),(6,true),(7,true),(8,true),(9,true),(10,true),(11,true),(12,true),(13,true),(14,true),(15,true),(16,true),(17,true),(18,true),(19,true),(20,true),(21,true),(22,true),(23,true),(24,true),(25,true),(26,true),(27,true),(28,true),(29,false),(30,true),(31,true)] (by kernel_rfl) (by kernel_rfl) (by rw [hw7];exact KC.out) ?_
      rw [hw7]
      clear hw7
      refine Mixed.mo rfl (.int .u8 x) (fun w h=>by obtain ⟨h1,h2,h3,h4⟩:=h;go_simp;try rfl) ?_
      refine Mixed.mo rfl (.bool false) (fun w h=>by obtain ⟨h1,h2,h3,h4⟩:=h;go_simp;try rfl) ?_
      refine Mixed.mo rfl (.bool false) (fun w h=>by obtain ⟨h1,h2,h3,h4⟩:=h;go_simp;try rfl) ?_
      refine Mixed.ms rfl ?_
      refine Mixed.ms rfl ?_
      refine Mixed.ms rfl ?_
      refine Mixed.ms rfl ?_
      refine Mixed.ms rfl ?_
      refine Mixed.ms rfl ?_
      refine Mixed.ms rfl ?_
      refine Mixed.ms rfl ?_
      refine Mixed.ms rfl ?_
      refine Mixed.ms rfl ?_
      refine Mixed.ms rfl ?_
      refine Mixed.ms rfl ?_
      refine Mixed.ms rfl ?_
      refine Mixed.ms rfl ?_
      refine Mixed.mo rfl (.bool false) (fun w h=>by obtain ⟨h1,h2,h3,h4⟩:=h;go_simp;try rfl) ?_
      refine Mixed.mo rfl (.bool false) (fun w h=>by obtain ⟨h1,h2,h3,h4⟩:=h;go_simp;try rfl) ?_
      refine Mixed.mo rfl (.int .u8 x) (fun w h=>by obtain ⟨h1,h2,h3,h4⟩:=h;go_simp;try rfl) ?_
      refine Mixed.mo rfl (.bool true) (fun w h=>by obtain ⟨h1,h2,h3,h4⟩:=h;go_simp;try rfl) ?_
      refine Mixed.mo rfl (.bool true) (fun w h=>by obtain ⟨h1,h2,h3,h4⟩:=h;go_simp;try rfl) ?_
      refine Mixed.mo rfl (.int .u8 x) (fun w h=>by obtain ⟨h1,h2,h3,h4⟩:=h;go_simp;try rfl) ?_
      refine Mixed.mo rfl (.pointer (some ⟨b,1,none⟩)) (fun w h=>by obtain ⟨h1,h2,h3,h4⟩:=h;go_simp;try rfl) ?_
      refine Mixed.mo rfl (.slice (some ⟨b2,o2,none⟩) lc cc) (fun w h=>by obtain ⟨h1,h2,h3,h4⟩:=h;go_simp;try rfl) ?_
      refine Mixed.mo rfl (.int .i64 j) (fun w h=>by obtain ⟨h1,h2,h3,h4⟩:=h;go_simp;try rfl) ?_
      refine Mixed.mo rfl (.pointer (some ⟨b2,o2+j*3,none⟩)) (fun w h=>by obtain ⟨h1,h2,h3,h4⟩:=h;go_simp;try rfl) ?_
      refine Mixed.mo rfl (.pointer (some ⟨b2,o2+j*3+2,none⟩)) (fun w h=>by obtain ⟨h1,h2,h3,h4⟩:=h;go_simp;try rfl) ?_
      refine Mixed.mo rfl (.int .i64 y2) (fun w h=>by obtain ⟨h1,h2,h3,h4⟩:=h;go_simp;try rfl) ?_
      refine Mixed.wpMix_loudG rfl (by kernel_rfl) ?_
      go_wp2_with fail
      refine (hw _).mono ?_
      rintro e w9 ⟨rfl,rfl⟩
      go_wp2
      refine ⟨KC.out,?_⟩
      refine Mixed.mo rfl (.bool true) (fun w h=>by obtain ⟨h1,h2,h3,h4⟩:=h;go_simp;try rfl) ?_
      refine Mixed.mo rfl (.bool true) (fun w h=>by obtain ⟨h1,h2,h3,h4⟩:=h;go_simp;try rfl) ?_
      simp only [Mixed.wpMix,List.drop_succ_cons,List.drop_zero]
      go_wp2
      go_ret
      exact ⟨ret_bool T.out.symm,by rw [HN.out];exact BF7.out⟩
   ·obtain rfl:j=lc:=by omega
    have T:Hid (true=fitsR m L ex s C):=by
     show true=_
     exact (fitsR_yes HS.out (fun k hk=>R.out k (by have:=HLC.out;omega))).symm
    clear R B e4 f4
    go_wp2
    go_ret
    exact ⟨ret_bool T.out,by rw [HN.out];exact BW.out⟩
end Go.Proofs.YtclhaejdjogfbaaGreatDoor
