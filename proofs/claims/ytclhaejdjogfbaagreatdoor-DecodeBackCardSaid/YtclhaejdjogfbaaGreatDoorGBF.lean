/-
  SeRi, SeRf, LpA, CoA.
-/
import Derived.Test.YtclhaejdjogfbaaGreatDoorMSeRe
import Derived.Test.YtclhaejdjogfbaaGreatDoorGAT
import Derived.Test.YtclhaejdjogfbaaGreatDoorGAB
import Derived.Test.YtclhaejdjogfbaaGreatDoorMSeN
import Derived.Test.YtclhaejdjogfbaaGreatDoorGAC
import Derived.RangeFuncNested
import Derived.Test.YtclhaejdjogfbaaGreatDoorQ0
set_option linter.all false
set_option maxRecDepth 100000
set_option maxHeartbeats 4000000
namespace Go.Proofs.YtclhaejdjogfbaaGreatDoor
open Go.RowKit Go.Shelf
attribute [local go_sem] Oper.semAt_some
def RetVals (w:World) (v:Int×Int) (e:Ending) (w':World):Prop:=e=.returned (.tuple #[.int .i64 v.1,.int .i64 v.2])∧Below w.heap.size w w'
theorem rvalues_any (page op:Int) (m:Str) (A:Option Addr) (cap l:Nat) (L:List Tr) (hl:L.length=l) (hL:l≤1000) (ex:Str) (hx:ex.length≤1000) (al:Bool) (s:ByteArray) (Ai:Option Addr) (capi li:Nat) (I:List Tr) (hli:I.length=li) (hLi:li≤900) (w:World) (H:OpsP w A L) (HF:OpsP w Ai I) :
  Calls Tryz.prog 32 #[enV page op m (.slice A l cap) ex al,.agg #[.string s,.slice Ai li capi]] w (RetVals w (if fitsR m L ex s (canL (opc s) I)=true then valR ex L (canL (opc s) I) (canL (opc s) I).length else (0,0))):=by
 have hcl:=canL_len (opc s) I
 have hof:=fun w h=>rof_any s Ai capi I (by omega) w h
 have hfi:=fun w' h1 h2=>rfits10_any page op m A cap l L hl hL ex hx al s Ai capi li I hli hLi w' h1 h2
 rw [hli] at hof
 obtain ⟨C,hC⟩:=N9 (canL (opc s) I)
 rw [hC] at hof hfi hcl ⊢
 obtain ⟨lc,hlc⟩:=N9 (C.length)
 rw [hlc] at hcl ⊢
 have HLC:=J9 hlc
 obtain ⟨q,hq⟩:=N9 (fitsR m L ex s C)
 rw [hq] at hfi ⊢
 have QS:Hid (q=true→L.length=C.length):=fun h=>by
  rw [← hq] at h
  unfold fitsR shpR at h
  simp only [Bool.and_eq_true,decide_eq_true_eq] at h
  exact len_of_shape h.1.2
 obtain ⟨v,hv⟩:=N9 ((if q=true then valR ex L C lc else (0,0)))
 rw [hv]
 have HV:=J9 hv
 have OF:=J9 hof
 clear hof hC hq hv hlc
 unfold enV
 obtain ⟨w0,hw0⟩:=N9 ((w.alloc (.cells #[.int .i64 page,.int .u8 op,.string (sB m),.slice A l cap,.string (sB ex),.bool al] 63)).alloc (.cells #[.string s,.slice Ai li capi] 24))
 obtain ⟨n,hn⟩:=N9 (w.heap.size)
 have b0:Below w.heap.size w w0:=by rw [← hw0];exact ((Below.refl _ w).alloc (Nat.le_refl _) _).alloc (by simp) _
 have z0:w0.heap.size=n+1+1:=by rw [← hw0,← hn];simp
 have c0:w0.heap[n]?=some (.cells #[.int .i64 page,.int .u8 op,.string (sB m),.slice A l cap,.string (sB ex),.bool al] 63 (0,0)):=by rw [← hw0,← hn];exact (Below.heap_alloc _ _ _ (by simp)).trans (World.alloc_heap_new w _)
 have c1:w0.heap[n+1]?=some (.cells #[.string s,.slice Ai li capi] 24 (0,0)):=by
  rw [← hw0,← hn]
  have h:=World.alloc_heap_new (w.alloc (.cells #[.int .i64 page,.int .u8 op,.string (sB m),.slice A l cap,.string (sB ex),.bool al] 63)) (.cells #[.string s,.slice Ai li capi] 24)
  rwa [World.size_alloc] at h
 have BB:Hid (Below n w w0):=by rw [← hn];exact b0
 have HN:=J9 hn
 have Z0:=J9 z0
 have PL:=J9 (H.below b0)
 have PI:=J9 (HF.below b0)
 have fi:=hfi w0 PL.out PI.out
 simp only [enV] at fi
 have C0:=J9 c0
 have C1:=J9 c1
 have k0:=C9 c0 0
 have k1:=C9 c0 1
 have k2:=C9 c0 2
 have k3:=C9 c0 3
 have k4:=C9 c0 4
 have k5:=C9 c0 5
 have j0:=C9 c1 0
 have j1:=C9 c1 1
 clear H HF b0 c0 c1 z0 hfi
 go_enter Tryz.func32,Tryz.ntmps32
 go_wp2_with fail
 refine fi.mono ?_
 rintro e w1 ⟨rfl,hb⟩
 have B1:Hid (Below n w w1):=BB.out.trans (hb.mono (by have:=Z0.out;omega))
 have KK:Hid (w1.heap[n]?=some (.cells #[.int .i64 page,.int .u8 op,.string (sB m),.slice A l cap,.string (sB ex),.bool al] 63 (0,0))∧w1.heap[n+1]?=some (.cells #[.string s,.slice Ai li capi] 24 (0,0))):=⟨(hb.block n (by have:=Z0.out;omega)).trans C0.out,(hb.block (n+1) (by have:=Z0.out;omega)).trans C1.out⟩
 have P1:=J9 (PL.out.below hb)
 have Q1:=J9 (PI.out.below hb)
 have Z1:Hid (n+2≤w1.heap.size):=by have:=hb.size;have:=Z0.out;show _≤_;omega
 clear hw0 k0 k1 k2 k3 k4 k5 j0 j1 C0 C1 PL PI
 cases q with
 | false=>
  clear fi hb
  go_wp2
  refine bodyPost_ret (v:=.tuple #[.int .i64 0,.int .i64 0]) ?_ rfl ?_
  ·simp [results,Tryz.results32,go_sem]
  ·exact ⟨by rw [← HV.out];rfl,by rw [HN.out];exact B1.out⟩
 | true=>
  have of1:=OF.out w1 Q1.out
  have j0:=C9 KK.out.2 0
  have j1:=C9 KK.out.2 1
  clear fi hb OF
  go_wp2_with fail
  refine of1.mono ?_
  rintro e w2 ⟨v9,rfl,hO,hb⟩
  obtain ⟨Ac,cc,rfl,hPc,-,-⟩:=hO.ops
  rw [HLC.out]
  have B2:Hid (Below n w w2):=B1.out.trans (hb.mono (by have:=Z1.out;omega))
  have K2:=J9 ((hb.block n (by have:=Z1.out;omega)).trans KK.out.1)
  have P2:=J9 (P1.out.below hb)
  have R2:=J9 hPc
  have Z2:Hid (n+2≤w2.heap.size):=Nat.le_trans Z1.out hb.size
  clear of1 hb hO hPc B1 P1 Q1 Z1 j0 j1
  go_upto_region 4 with fail
  obtain ⟨b,hbs⟩:=N9 (w2.heap.size)
  obtain ⟨w3,hw3,y1,y2,y3⟩:=ins_box w2 s (.slice Ac lc cc) b hbs
  rw [hw3,hbs]
  have B3:Hid (Below n w w3):=B2.out.trans (y2.mono (by have:=Z2.out;omega))
  have K3:=J9 ((y2.block n (by have:=Z2.out;omega)).trans K2.out)
  have P3:=J9 (P2.out.below y2)
  have R3:=J9 (R2.out.below y2)
  have Z3:Hid (n+2≤w3.heap.size∧b<w3.heap.size):=by have:=Z2.out;exact ⟨by omega,by omega⟩
  have Y3:=J9 y1
  clear hw3 hbs y1 y2 y3 B2 K2 P2 R2 Z2
  go_wp2
  go_loopw [7,8,9] (fun d q k wr=>∃ (j:Nat) (x y:Int),j≤lc∧k=.int .i64 j∧d=.int .i64 x∧q=.int .i64 y∧Hid (valR ex L C j=(x,y))∧Hid (Below w3.heap.size w3 wr)) (fun _ _ k _=>lc - (intOf k).toNat)
  case atStart=>exact ⟨0,0,0,Nat.zero_le _,rfl,rfl,rfl,rfl,Below.refl _ _⟩
  case round=>
   obtain ⟨j,x,y,hj,rfl,rfl,rfl,V,B⟩:=hrel
   have d1:=(B.out.block b Z3.out.2).trans Y3.out
   have j1:=C9 d1 1
   by_cases hlt:j<lc
   ·have d0:=(B.out.block n (by have:=Z3.out.1;omega)).trans K3.out
    have k0:=C9 d0 0
    have k1:=C9 d0 1
    have k2:=C9 d0 2
    have k3:=C9 d0 3
    have k4:=C9 d0 4
    have k5:=C9 d0 5
    have hjl:j<l:=by have h1:=QS.out (by simp);have h2:=HLC.out;omega
    have hjC:j<C.length:=by have h2:=HLC.out;omega
    have lt:=letter_any page op m A cap l L hl hL ex hx al j hjl wr (P3.out.below B.out)
    simp only [enV] at lt
    have D1:=J9 d1
    have RR:=J9 (R3.out.below B.out)
    clear d0 d1
    go_wp2_with fail
    refine lt.mono ?_
    rintro e wx ⟨rfl,hb⟩
    have BX:Hid (Below w3.heap.size w3 wx):=B.out.trans (hb.mono B.out.size)
    have d1:=(BX.out.block b Z3.out.2).trans Y3.out
    have j1:=C9 d1 1
    obtain ⟨b2,o2,rfl,-,q0,q1,q2⟩:=(R3.out.below BX.out).at_ hjC
    have g2:C.getD j tr0=C[j]:=by rw [List.getD_eq_getElem?_getD,List.getElem?_eq_getElem hjC];rfl
    rw [← g2] at q2
    obtain ⟨yn,hyn⟩:=N9 ((C.getD j tr0).2.2)
    rw [hyn] at q2
    have HY:=J9 hyn
    clear hb d1 g2 q0 q1 hyn hjC k0 k1 k2 k3 k4 k5 B D1 RR
    rcases letR_cases ex L j with hv9 | hv9 | hv9 | hv9 | hv9
    ·have e9:letR ex L j=100:=hv9
     rw [hv9]
     simp only [show ((100:UInt8).toNat:Int)=100 from rfl]
     have V2:Hid (valR ex L C (j+1)=(yn,y)):=by show valR ex L C (j+1)=_;unfold valR;rw [if_pos e9];simp only [V.out,HY.out]
     clear V lt
     go_wp2
     go_roundw
     case rel=>exact ⟨j+1,yn,y,by omega,by go_num,rfl,rfl,V2.out,BX.out⟩
     case measure=>simp [intOf];omega
    ·have e9:letR ex L j=101:=hv9
     rw [hv9]
     simp only [show ((101:UInt8).toNat:Int)=101 from rfl]
     have V2:Hid (valR ex L C (j+1)=(x,yn)):=by show valR ex L C (j+1)=_;unfold valR;rw [if_neg (by rw [e9];decide),if_neg (by rw [e9];decide)];simp only [V.out,HY.out]
     clear V lt
     go_wp2
     go_roundw
     case rel=>exact ⟨j+1,x,yn,by omega,by go_num,rfl,rfl,V2.out,BX.out⟩
     case measure=>simp [intOf];omega
    ·have e9:letR ex L j=110:=hv9
     rw [hv9]
     simp only [show ((110:UInt8).toNat:Int)=110 from rfl]
     have V2:Hid (valR ex L C (j+1)=(x,yn)):=by show valR ex L C (j+1)=_;unfold valR;rw [if_neg (by rw [e9];decide),if_neg (by rw [e9];decide)];simp only [V.out,HY.out]
     clear V lt
     go_wp2
     go_roundw
     case rel=>exact ⟨j+1,x,yn,by omega,by go_num,rfl,rfl,V2.out,BX.out⟩
     case measure=>simp [intOf];omega
    ·have e9:letR ex L j=119:=hv9
     rw [hv9]
     simp only [show ((119:UInt8).toNat:Int)=119 from rfl]
     have V2:Hid (valR ex L C (j+1)=(x,yn)):=by show valR ex L C (j+1)=_;unfold valR;rw [if_neg (by rw [e9];decide),if_neg (by rw [e9];decide)];simp only [V.out,HY.out]
     clear V lt
     go_wp2
     go_roundw
     case rel=>exact ⟨j+1,x,yn,by omega,by go_num,rfl,rfl,V2.out,BX.out⟩
     case measure=>simp [intOf];omega
    ·have e9:letR ex L j=0:=hv9
     rw [hv9]
     simp only [show ((0:UInt8).toNat:Int)=0 from rfl]
     have V2:Hid (valR ex L C (j+1)=(x,y)):=by show valR ex L C (j+1)=_;unfold valR;rw [if_neg (by rw [e9];decide),if_pos e9];exact V.out
     clear V lt
     go_wp2
     go_roundw
     case rel=>exact ⟨j+1,x,y,by omega,by go_num,rfl,rfl,V2.out,BX.out⟩
     case measure=>simp [intOf];omega
   ·obtain rfl:j=lc:=by omega
    have VV:Hid (v=(x,y)):=by show v=_;rw [← HV.out,← V.out];rfl
    have BB:Hid (Below n w wr):=B3.out.trans (B.out.mono (by have:=Z3.out.1;omega))
    clear V B
    go_wp2
    refine bodyPost_ret (v:=.tuple #[.int .i64 x,.int .i64 y]) ?_ rfl ?_
    ·simp [results,Tryz.results32,go_sem]
    ·exact ⟨by rw [VV.out],by rw [HN.out];exact BB.out⟩
end Go.Proofs.YtclhaejdjogfbaaGreatDoor
namespace Go.Proofs.YtclhaejdjogfbaaGreatDoor
open Go.RowKit Go.Shelf
attribute [local go_sem] Oper.semAt_some
def fstI (C:List Tr):Int:=if C.any fstB=true then 3 else 0
def lstI (C:List Tr):Int:=if C.any fstB=true then 6 else 2
theorem first_any (s:ByteArray) (Ac:Option Addr) (cc lc:Nat) (C:List Tr) (hlc:C.length=lc) (hLc:lc≤1000) (w:World) (HC:OpsP w Ac C) :
  Calls Tryz.prog 52 #[.agg #[.string s,.slice Ac lc cc]] w fun e w'=>e=.returned (.int .i64 (fstI C))∧Below w.heap.size w w':=by
 obtain ⟨w0,hw0⟩:=N9 (w.alloc (.cells #[.string s,.slice Ac lc cc] 24))
 obtain ⟨n,hn⟩:=N9 (w.heap.size)
 have b0:Below w.heap.size w w0:=by rw [← hw0];exact up1 _ _
 have c0:w0.heap[n]?=some (.cells #[.string s,.slice Ac lc cc] 24 (0,0)):=by rw [← hw0,← hn];exact World.alloc_heap_new w _
 have B0:=J9 b0
 have P0:=J9 (HC.below b0)
 have C0:=J9 c0
 have HL:=J9 hlc
 have HN:=J9 hn
 have k1:=C9 c0 1
 clear HC b0 c0 hlc
 go_enter Tryz.func52,Tryz.ntmps52
 go_wp2
 clear k1 hw0
 go_loopw [3] (fun i wr=>∃ j:Nat,j≤lc∧i=.int .i64 j∧Hid (∀ k (h:k<C.length),k<j→fstB C[k]=false)∧Hid (Below w.heap.size w wr)∧Hid (Below w0.heap.size w0 wr)) (fun i _=>lc - (intOf i).toNat)
 case atStart=>exact ⟨0,Nat.zero_le _,rfl,fun k h h2=>by omega,B0.out,Below.refl _ _⟩
 case round=>
  obtain ⟨j,hj,rfl,R,B,B2⟩:=hrel
  have d0:=(B2.out.block n (Array.getElem?_eq_some_iff.1 C0.out).1).trans C0.out
  have k1:=C9 d0 1
  by_cases hlt:j<lc
  ·have hj1:j<C.length:=by have:=HL.out;omega
   obtain ⟨b1,o1,rfl,hb1,p0,p1,p2⟩:=(P0.out.below B2.out).at_ hj1
   have YES:Hid (fstB C[j]=true→fstI C=3):=fun h=>by
    unfold fstI
    rw [if_pos (List.any_eq_true.2 ⟨_,List.getElem_mem hj1,h⟩)]
   have NO:Hid (fstB C[j]=false→∀ k (h:k<C.length),k<j+1→fstB C[k]=false):=fun h k h1 h2=>by
    by_cases e:k=j
    ·subst e;exact h
    ·exact R.out k h1 (by omega)
   obtain ⟨⟨y0,y1,y2⟩,hy⟩:=N9 (C[j])
   rw [hy] at p0 p1 p2 YES NO
   simp only at p0 p1 p2
   have BF:=fun o=>J9 (B.out.trans ((up1 wr o).mono B.out.size))
   have BG:=fun o=>J9 (B2.out.trans ((up1 wr o).mono B2.out.size))
   have hjc:(j:Int)<(lc:Int):=by omega
   clear hy hj1 R d0 hb1 B B2
   by_cases e2:y0=2
   ·subst e2
    have FB:fstB (2,y1,y2)=true:=rfl
    have T:=J9 (YES.out FB)
    clear YES NO FB
    go_wp2
    go_ret
    exact ⟨by rw [T.out];rfl,(BF _).out⟩
   ·have m2:(y0 == 2)=false:=beq_eq_false_iff_ne.2 e2
    by_cases e3:3≤y0
    ·by_cases e5:y0≤5
     ·by_cases f5:y1=5
      ·subst f5
       have FB:fstB (y0,5,y2)=true:=by unfold fstB;simp [e2,e3,e5]
       have T:=J9 (YES.out FB)
       clear YES NO FB
       go_wp2
       go_ret
       exact ⟨by rw [T.out];rfl,(BF _).out⟩
      ·have g5:(y1 == 5)=false:=beq_eq_false_iff_ne.2 f5
       by_cases f6:y1=6
       ·subst f6
        have FB:fstB (y0,6,y2)=true:=by unfold fstB;simp [e2,e3,e5]
        have T:=J9 (YES.out FB)
        clear YES NO FB
        go_wp2
        go_ret
        exact ⟨by rw [T.out];rfl,(BF _).out⟩
       ·have g6:(y1 == 6)=false:=beq_eq_false_iff_ne.2 f6
        have FB:fstB (y0,y1,y2)=false:=by unfold fstB;simp [e2,e3,e5,f5,f6]
        have R2:=J9 (NO.out FB)
        clear YES NO FB
        go_wp2
        go_roundw
        case rel=>exact ⟨j+1,by omega,by go_num,R2.out,(BF _).out,(BG _).out⟩
        case measure=>simp [intOf];omega
     ·have FB:fstB (y0,y1,y2)=false:=by unfold fstB;simp [e2,e3,e5]
      have R2:=J9 (NO.out FB)
      clear YES NO FB
      go_wp2
      go_roundw
      case rel=>exact ⟨j+1,by omega,by go_num,R2.out,(BF _).out,(BG _).out⟩
      case measure=>simp [intOf];omega
    ·have FB:fstB (y0,y1,y2)=false:=by unfold fstB;simp [e2,e3]
     have R2:=J9 (NO.out FB)
     clear YES NO FB
     go_wp2
     go_roundw
     case rel=>exact ⟨j+1,by omega,by go_num,R2.out,(BF _).out,(BG _).out⟩
     case measure=>simp [intOf];omega
  ·have T:Hid (fstI C=0):=by
    show fstI C=0
    unfold fstI
    rw [if_neg]
    intro h
    obtain ⟨x,hx,hx2⟩:=List.any_eq_true.1 h
    obtain ⟨k,hk,rfl⟩:=List.getElem_of_mem hx
    rw [R.out k hk (by have:=HL.out;omega)] at hx2
    cases hx2
   clear R d0 B2
   go_wp2
   go_ret
   exact ⟨by rw [T.out];rfl,B.out⟩
theorem last_any (s:ByteArray) (Ac:Option Addr) (cc lc:Nat) (C:List Tr) (hlc:C.length=lc) (hLc:lc≤1000) (w:World) (HC:OpsP w Ac C) :
  Calls Tryz.prog 53 #[.agg #[.string s,.slice Ac lc cc]] w fun e w'=>e=.returned (.int .i64 (lstI C))∧Below w.heap.size w w':=by
 have b0:=up1 w (.cells #[.string s,.slice Ac lc cc] 24)
 have f:=first_any s Ac cc lc C hlc hLc _ (HC.below b0)
 have B0:=J9 b0
 obtain ⟨q,hq⟩:=N9 (C.any fstB)
 unfold fstI at f
 unfold lstI
 rw [hq] at f ⊢
 clear HC hlc hq b0
 go_enter Tryz.func53,Tryz.ntmps53
 go_wp2_with fail
 refine f.mono ?_
 rintro e w1 ⟨rfl,hb⟩
 have B1:Hid (Below w.heap.size w w1):=B0.out.trans (hb.mono B0.out.size)
 clear f hb B0
 cases q with
 | true=>
  simp only [if_pos]
  go_wp2
  go_ret
  exact ⟨rfl,B1.out⟩
 | false=>
  simp only [Bool.false_eq_true,if_false]
  go_wp2
  go_ret
  exact ⟨rfl,B1.out⟩
end Go.Proofs.YtclhaejdjogfbaaGreatDoor
namespace Go.Stops
open Go Go.RowKit
variable {F:Fence} {n:Nat} {P:Program}
theorem wpIn_tellsH {α:Type} {g:Operand} {ps:Array Tmp} {assign body:Code} {Q:Exit→Act→World→Prop} {a:Act} {w:World} (hro:F.round=none) (h1:1≤n)
  {gf:Nat} {lb:Array Value} (hg:a.eval g=.func (.func gf) #[] lb) (hFg:F.fn gf) (eg:∀ args w,(callFunc gf args).run P w=.ok (.enter gf args) w)
  {encs:α→Array Value} {E:List α→α→Prop} {Bs:Nat} {Kp:World→World→Prop} {S:List α→Prop} (hseq:Tells F (n - 1) P gf lb encs E Bs Kp S w) (hBs:Bs<w.heap.size)
  (hKt:∀ {A B C:World},Kp A B→Kp B C→Kp A C) (hKb:∀ (W:World) (l:Nat) (o o':Obj),w.heap.size≤l→W.heap[l]?=some o→o.isCells=false→Kp W (W.putObj l o')) (hps:∀ x,(encs x).size=ps.size)
  (I Ix:List α→World→Prop) (hI:OwnFrom w.heap.size I) (hIB:Apart Bs I) (hIx:OwnFrom w.heap.size Ix) (h0:I [] w) (Ax:α→Act→World→Prop) (hAx:∀ x,OwnFrom w.heap.size (Ax x))
  (hassign:∀ (l:Nat) (pre:List α) (x:α) (W:World) (K:Act→World→Prop),I pre W→E pre x→(∀ a' W',KeepsFrom w.heap.size W W'→Kp W W'→I pre W'→Ax x a' W'→K a' W')→
   assign.wpIn (F.inRound l) (n - 1 - 1) P (Exit.then K (fun _ _ _=>False)) {tmps:=(ps.zip (encs x)).foldl (fun t (p,v)=>t.setIfInBounds p v) a.tmps,defers:=[]} W)
  (hbody:∀ (l:Nat) (pre:List α) (x:α) (a':Act) (W:World),w.heap.size≤l→(∃ r,W.heap[l]?=some (.loop r))→I pre W→Ax x a' W→E pre x→body.wpIn (F.inRound l) (n - 1 - 1) P (endsSo w.heap.size Kp I Ix (pre++[x]) W) a' W)
  (hdone:∀ (D:Nat) (xs:List α) (W:World),w.heap.size≤D→S xs→I xs W→W.heap[D]?=some (.deferred (some []))→Q .normal {a with defers:={target:=.collected D,args:=#[]} :: a.defers} W)
  (hstop:∀ (D:Nat) (pre:List α) (W:World),w.heap.size≤D→Ix pre W→W.heap[D]?=some (.deferred (some []))→Code.ret.wpIn F n P Q {a with defers:={target:=.collected D,args:=#[]} :: a.defers} W) :
  (Code.rangeFunc g ps assign body).wpIn F n P Q a w:=by
 refine wpIn_rangeFunc fun fn hfn=>?_
 rw [hro]
 let R:LoopState→Option Code→Loop:=fun st j=>{state:=st,pending:=j,fn:=fn,tmps:=a.tmps,params:=ps,assign:=assign,body:=body,defers:=w.heap.size}
 let B:World:=(w.alloc (.deferred (some []))).alloc (.loop (R .ready none))
 have bD:B.heap[w.heap.size]?=some (.deferred (some [])):=(Below.heap_alloc _ _ _ (by simp)).trans (World.alloc_heap_new w _)
 have bL:B.heap[w.heap.size+1]?=some (.loop (R .ready none)):=by
  have h:=World.alloc_heap_new (w.alloc (.deferred (some []))) (.loop (R .ready none))
  rwa [World.size_alloc] at h
 have bI:I [] B:=hI.alloc _ (hI.alloc _ h0)
 have bB:Below w.heap.size w B:=((Below.refl _ w).alloc (Nat.le_refl _) _).alloc (by simp) _
 have bz:B.heap.size=w.heap.size+1+1:=by simp [B]
 -- what a turn of a walk of the iterator's own leaves of the two blocks
 have walk:∀ {X Y:World} {row:Option Nat} {k:Nat} {o:Obj},X.grownBy Y row→(∀ r,row=some r→B.heap.size≤r∧∃ o:Obj,X.heap[r]?=some o∧o.isWalk=true)→X.heap[k]?=some o→k<w.heap.size+2→Y.heap[k]?=some o:=fun hg' hr hk hlt=>
  (hg'.block _ (Array.getElem?_eq_some_iff.1 hk).1 fun e=>by have:=(hr _ e.symm).1;omega).trans hk
 have cells:∀ {X Y:World} {row:Option Nat},(∀ r,row=some r→B.heap.size≤r∧∃ o:Obj,X.heap[r]?=some o∧o.isWalk=true)→(∀ r,row=some r→w.heap.size≤r∧∃ o:Obj,X.heap[r]?=some o∧o.isCells=false):=fun hr r e=>by
  obtain ⟨k1,o,k2,k3⟩:=hr r e
  exact ⟨by omega,o,k2,Obj.not_cells_of_walk k3⟩
 refine ⟨w.heap.size+1,[{target:=.collected w.heap.size,args:=#[]}],B,{target:=.fn (.func gf) lb,args:=#[.func (.yield (w.heap.size+1)) #[] #[]]},B,gf,#[.func (.yield (w.heap.size+1)) #[] #[]]++lb,B,
  run_enterLoop_outer _ _ _ _ _,by simp only [resolve,hg];simp [go_sem],fun f' hf'=>by simp [Target.leads] at hf';subst hf';exact hFg,by simp [invoke,go_sem,eg],fun _=>h1,?_⟩
 refine (hseq (w.heap.size+1) (fun pre W=>I pre W∧W.heap[w.heap.size+1]?=some (.loop (R .ready none))∧W.heap[w.heap.size]?=some (.deferred (some [])))
  (fun pre W=>Ix pre W∧W.heap[w.heap.size+1]?=some (.loop (R .done (some .ret)))∧W.heap[w.heap.size]?=some (.deferred (some []))) B bB ?_ ?_ ?_ ?_ ⟨bI,bL,bD⟩).mono ?_
 ·rintro s X Y row ⟨s1,s2,s3⟩ hg' hr
  exact ⟨hI s X Y row s1 hg' (cells (Y:=Y) hr),walk hg' hr s2 (by omega),walk hg' hr s3 (by omega)⟩
 ·rintro s X Y ⟨s1,s2,s3⟩ hg'
  have q:∀ {k:Nat} {o:Obj},w.heap.size≤k→X.heap[k]?=some o→Y.heap[k]?=some o:=fun hk ho=>(hg'.block _ (Array.getElem?_eq_some_iff.1 ho).1 fun e=>by have:=Option.some.inj e;omega).trans ho
  exact ⟨hIB s X Y s1 hg',q (by omega) s2,q (Nat.le_refl _) s3⟩
 ·rintro pre x W ⟨s1,s2,s3⟩ hx
  refine ⟨fn,_,assign,body,run_yield (P:=P) (args:=encs x) s2 (hps x),roundIn_of_wpIn hfn (hassign _ pre x W _ s1 hx fun a' U u1 uK uI uA=>?_)⟩
  have u2:=u1.same _ _ (by omega) s2 rfl
  have u3:=u1.same _ _ (Nat.le_refl _) s3 rfl
  have hlu:w.heap.size+1<U.heap.size:=(Array.getElem?_eq_some_iff.1 u2).1
  refine ⟨_,run_beginRound u2 rfl,?_⟩
  obtain ⟨V,hV⟩:=N9 (U.putObj (w.heap.size+1) (.loop {R .ready none with state:=.busy}))
  have v2:V.heap[w.heap.size+1]?=some (.loop {R .ready none with state:=.busy}):=hV ▸ World.putObj_heap_same hlu
  have v3:V.heap[w.heap.size]?=some (.deferred (some [])):=hV ▸ (World.putObj_heap_other (by omega)).trans u3
  have vI:I pre V:=hV ▸ hI.putObj _ uI (by omega) u2 rfl
  have vE:Ax x a' V:=hV ▸ (hAx x).putObj _ uA (by omega) u2 rfl
  have vK:Kp W V:=hKt uK (hV ▸ hKb _ _ _ _ (by omega) u2 rfl)
  show body.wpIn _ _ _ _ _ (U.putObj (w.heap.size+1) (.loop {R .ready none with state:=.busy}))
  rw [hV]
  refine wpIn_mono (hbody (w.heap.size+1) pre x a' V (Nat.le_succ _) ⟨_,v2⟩ vI vE hx) ?_
  rintro (_ | _ | _ | _ | _ | _) a3 Z hz
  case normal=>
   obtain ⟨z1,z2,z3⟩:=hz
   have l3:=z1.same _ _ (by omega) v2 rfl
   exact ⟨_,_,run_endRound (P:=P) none l3,.inl ⟨rfl,⟨hI.putObj _ z3 (by omega) l3 rfl,World.putObj_heap_same (Array.getElem?_eq_some_iff.1 l3).1,(World.putObj_heap_other (by omega)).trans (z1.same _ _ (Nat.le_refl _) v3 rfl)⟩,hKt (hKt vK z2) (hKb _ _ _ _ (by omega) l3 rfl)⟩⟩
  case ret=>
   obtain ⟨z1,z3⟩:=hz
   have l3:=z1.same _ _ (by omega) v2 rfl
   exact ⟨_,_,run_endRound (P:=P) (some .ret) l3,.inr ⟨rfl,hIx.putObj _ z3 (by omega) l3 rfl,World.putObj_heap_same (Array.getElem?_eq_some_iff.1 l3).1,(World.putObj_heap_other (by omega)).trans (z1.same _ _ (Nat.le_refl _) v3 rfl)⟩⟩
  all_goals exact hz.elim
 ·rintro s X Y row ⟨s1,s2,s3⟩ hg' hr
  exact ⟨hIx s X Y row s1 hg' (cells (Y:=Y) hr),walk hg' hr s2 (by omega),walk hg' hr s3 (by omega)⟩
 ·rintro e Z ⟨⟨v,rfl⟩,(⟨xs,hS,z1,z2,z3⟩ | ⟨pre,z1,z2,z3⟩)⟩
  ·exact ⟨none,_,run_endLoop (P:=P) z2 (by simp [R]),hdone _ xs _ (Nat.le_refl _) hS (hI.putObj _ z1 (by omega) z2 rfl) ((World.putObj_heap_other (by omega)).trans z3)⟩
  ·exact ⟨some .ret,_,run_endLoop (P:=P) z2 (by simp [R]),hstop _ pre _ (Nat.le_refl _) (hIx.putObj _ z1 (by omega) z2 rfl) ((World.putObj_heap_other (by omega)).trans z3)⟩
end Go.Stops
namespace Go.Each
open Go Go.RowKit
variable {F:Fence} {n:Nat} {P:Program}
def GivesB {α:Type} (F:Fence) (n:Nat) (P:Program) (g:Nat) (ba lb:Array Value) (encs:α→Array Value) (E:α→World→Prop) (Kp:World→World→Prop) (S:List α→Prop) (N:Nat) (w:World):Prop:=
 ∀ (l:Nat) (J:List α→World→Prop) (W:World),Below w.heap.size w W→AbidesFrom W.heap.size J→
  (∀ pre x W1,J pre W1→E x W1→pre.length<N→YieldAt F (n - 1) P l (encs x) W1 fun e W'=>e=.returned (.bool true)∧J (pre++[x]) W'∧Kp W1 W')→
  J [] W→CallsIn F n P g (ba++#[.func (.yield l) #[] #[]]++lb) W fun e W'=>(∃ v,e=.returned v)∧∃ xs,S xs∧J xs W'
theorem wpIn_eachN {α:Type} {g:Operand} {ps:Array Tmp} {assign body:Code} {Q:Exit→Act→World→Prop} {a:Act} {w:World} {l₀:Nat} {r₀:Loop} (hro:F.round=some l₀) (hl₀:w.heap[l₀]?=some (.loop r₀)) (h1:1≤n)
  {gf:Nat} {ba lb:Array Value} (hg:a.eval g=.func (.func gf) ba lb) (hFg:F.fn gf) (eg:∀ args w,(callFunc gf args).run P w=.ok (.enter gf args) w)
  {encs:α→Array Value} {E:α→World→Prop} {Kp:World→World→Prop} {S:List α→Prop} {N:Nat} (hseq:GivesB F (n - 1) P gf ba lb encs E Kp S N w)
  (hKt:∀ {A B C:World},Kp A B→Kp B C→Kp A C) (hKb:∀ (W:World) (l:Nat) (o o':Obj),w.heap.size≤l→W.heap[l]?=some o→o.isCells=false→Kp W (W.putObj l o')) (hps:∀ x,(encs x).size=ps.size)
  (I:List α→World→Prop) (hI:OwnFrom w.heap.size I) (h0:I [] w) (Ax:α→Act→World→Prop) (hAx:∀ x,OwnFrom w.heap.size (Ax x))
  (hassign:∀ (l:Nat) (pre:List α) (x:α) (W:World) (K:Act→World→Prop),I pre W→E x W→(∀ a' W',KeepsFrom w.heap.size W W'→Kp W W'→I pre W'→Ax x a' W'→K a' W')→
   assign.wpIn (F.inRound l) (n - 1 - 1) P (Exit.then K (fun _ _ _=>False)) {tmps:=(ps.zip (encs x)).foldl (fun t (p,v)=>t.setIfInBounds p v) a.tmps,defers:=[]} W)
  (hbody:∀ (l:Nat) (pre:List α) (x:α) (a':Act) (W:World),I pre W→Ax x a' W→pre.length<N→body.wpIn (F.inRound l) (n - 1 - 1) P (goesOn fun W'=>KeepsFrom w.heap.size W W'∧Kp W W'∧I (pre++[x]) W') a' W)
  (hdone:∀ (xs:List α) (W:World),S xs→I xs W→Q .normal a W) :
  (Code.rangeFunc g ps assign body).wpIn F n P Q a w:=by
 refine wpIn_rangeFunc fun fn hfn=>?_
 rw [hro]
 let R:LoopState→Loop:=fun st=>{state:=st,pending:=none,fn:=fn,tmps:=a.tmps,params:=ps,assign:=assign,body:=body,defers:=r₀.defers}
 let B:World:=w.alloc (.loop (R .ready))
 have bL:B.heap[w.heap.size]?=some (.loop (R .ready)):=World.alloc_heap_new w _
 have bI:I [] B:=hI.alloc _ h0
 have bB:Below w.heap.size w B:=(Below.refl _ w).alloc (Nat.le_refl _) _
 have bz:B.heap.size=w.heap.size+1:=by simp [B]
 refine ⟨w.heap.size,[],B,{target:=.fn (.func gf) lb,args:=ba++#[.func (.yield w.heap.size) #[] #[]]},B,gf,ba++#[.func (.yield w.heap.size) #[] #[]]++lb,B,
  run_enterLoop_inner hl₀ _ _ _ _ _,by simp only [resolve,hg];simp [go_sem],fun f' hf'=>by simp [Target.leads] at hf';subst hf';exact hFg,by simp [invoke,go_sem,eg],fun _=>h1,?_⟩
 refine (hseq w.heap.size (fun pre W=>I pre W∧W.heap[w.heap.size]?=some (.loop (R .ready))) B bB ?_ ?_ ⟨bI,bL⟩).mono ?_
 ·rintro s X Y row ⟨s1,s2⟩ hg' hr
  have hc:∀ r,row=some r→∃ o:Obj,X.heap[r]?=some o∧o.isWalk=true:=fun r e=>(hr r e).2
  refine ⟨hI s X Y row s1 hg' fun r e=>?_,(grownBy_keeps hg' hc s2 rfl).trans s2⟩
  obtain ⟨k1,o,k2,k3⟩:=hr r e
  exact ⟨by omega,o,k2,Obj.not_cells_of_walk k3⟩
 ·rintro pre x W ⟨s1,s2⟩ hx hlen
  refine ⟨fn,_,assign,body,run_yield (P:=P) (args:=encs x) s2 (hps x),roundIn_of_wpIn hfn (hassign _ pre x W _ s1 hx fun a' U u1 uK uI uA=>?_)⟩
  have u2:=u1.same _ _ (Nat.le_refl _) s2 rfl
  have hlu:w.heap.size<U.heap.size:=(Array.getElem?_eq_some_iff.1 u2).1
  refine ⟨_,run_beginRound u2 rfl,?_⟩
  obtain ⟨V,hV⟩:=N9 (U.putObj w.heap.size (.loop {R .ready with state:=.busy}))
  have v2:V.heap[w.heap.size]?=some (.loop {R .ready with state:=.busy}):=hV ▸ World.putObj_heap_same hlu
  have vI:I pre V:=hV ▸ hI.putObj _ uI (Nat.le_refl _) u2 rfl
  have vE:Ax x a' V:=hV ▸ (hAx x).putObj _ uA (Nat.le_refl _) u2 rfl
  have vK:Kp W V:=hKt uK (hV ▸ hKb _ _ _ _ (Nat.le_refl _) u2 rfl)
  show body.wpIn _ _ _ _ _ (U.putObj w.heap.size (.loop {R .ready with state:=.busy}))
  rw [hV]
  refine wpIn_mono (hbody _ pre x a' V vI vE hlen) ?_
  rintro (_ | _ | _ | _ | _ | _) a3 Z hz
  case normal=>
   obtain ⟨z1,z2,z3⟩:=hz
   have l3:=z1.same _ _ (Nat.le_refl _) v2 rfl
   refine ⟨_,_,run_endRound (P:=P) none l3,rfl,⟨hI.putObj _ z3 (Nat.le_refl _) l3 rfl,World.putObj_heap_same (Array.getElem?_eq_some_iff.1 l3).1⟩,hKt (hKt vK z2) (hKb _ _ _ _ (Nat.le_refl _) l3 rfl)⟩
  all_goals exact hz.elim
 ·rintro e Z ⟨⟨v,rfl⟩,xs,hS,z1,z2⟩
  exact ⟨none,_,run_endLoop (P:=P) z2 (by simp [R]),hdone xs _ hS (hI.putObj _ z1 (Nat.le_refl _) z2 rfl)⟩
end Go.Each
namespace Go.Proofs.YtclhaejdjogfbaaGreatDoor
open Go.RowKit Go.Shelf
attribute [local go_sem] Oper.semAt_some
def nxtG (open_ f:Int):Int:=bits .and .u8 (IntKind.u8.wrap (f - open_)) open_
def opsG (ones open_:Int):Nat→Int→List Int
 | 0,_=>[]
 | k+1,f=>bits .or .u8 ones f :: (if f=open_ then [] else opsG ones open_ k (nxtG open_ f))
def okG (ones open_:Int):Nat→Int→Bool
 | 0,_=>false
 | k+1,f=>decide (0≤bits .or .u8 ones f)&&decide (bits .or .u8 ones f≤255)&&(decide (f=open_)||okG ones open_ k (nxtG open_ f))
def opsP (p:Pat):List Int:=opsG (opnF p.1).1 (opnF p.1).2 256 0
def okP (p:Pat):Bool:=okG (opnF p.1).1 (opnF p.1).2 256 0
theorem opsG_fuel (ones open_:Int):∀ (k m:Nat) (v:Int),okG ones open_ k v=true→k≤m→opsG ones open_ m v=opsG ones open_ k v
 | 0,m,v,h,_=>by cases h
 | k+1,0,v,_,hm=>by omega
 | k+1,m+1,v,h,hm=>by
  unfold okG at h
  simp only [Bool.and_eq_true,Bool.or_eq_true,decide_eq_true_eq] at h
  unfold opsG
  by_cases e:v=open_
  ·rw [if_pos e,if_pos e]
  ·rw [if_neg e,if_neg e,opsG_fuel ones open_ k m _ (h.2.resolve_left e) (by omega)]
theorem opsG_less (ones open_:Int) (k:Nat) (v:Int) (h:okG ones open_ (k+1) v=true) (e:v≠open_) (hk:k+1≤256):(opsG ones open_ 256 (nxtG open_ v)).length<(opsG ones open_ 256 v).length:=by
 have h2:=h
 unfold okG at h2
 simp only [Bool.and_eq_true,Bool.or_eq_true,decide_eq_true_eq] at h2
 rw [opsG_fuel ones open_ (k+1) 256 v h hk,opsG_fuel ones open_ k 256 _ (h2.2.resolve_left e) (by omega)]
 show _<(_ :: _).length
 rw [if_neg e]
 exact Nat.lt_succ_self _
theorem opcodes_gives (n:Nat) (p:Pat) (h8:p.1.length=8) (hok:okP p=true) (w:World) :
  Each.GivesB Fence.wide n Tryz.prog 146 #[.agg #[.string (sB p.1),.string (sB p.2)]] #[] (fun x:Int=>#[.int .u8 x]) (fun x _=>0≤x∧x≤255) (fun _ _=>True) (fun xs=>xs=opsP p) 256 w:=fun lp J W hW hJ hY h0=>by
 have hJb:∀ (z:List Int) (X Y:World),J z X→Below X.heap.size X Y→J z Y:=fun z X Y h hb=>hJ z X Y none h ⟨hb.os,hb.tape,hb.output,hb.size,fun i hi _=>hb.block i hi⟩ (fun r e=>by cases e)
 have hm:=fun o=>masks_any p.1 p.2 h8 (W.alloc o)
 obtain ⟨ones,ho⟩:=N9 ((opnF p.1).1)
 obtain ⟨op,hop⟩:=N9 ((opnF p.1).2)
 have OP:Hid (opsP p=opsG ones op 256 0):=by show opsP p=_;unfold opsP;rw [ho,hop]
 have OK:Hid (okG ones op 256 0=true):=by show _=_;rw [← hok];unfold okP;rw [ho,hop]
 rw [ho,hop] at hm
 have HY:=J9 hY
 have HJb:=J9 hJb
 have J0:Hid (∀ o,J [] (W.alloc o)):=fun o=>hJb _ _ _ h0 ((Below.refl _ _).alloc (Nat.le_refl _) o)
 clear h0 hY hJb hJ hW ho hop hok h8
 refine callsIn_wide.2 ?_
 show Calls Tryz.prog 146 #[.agg #[.string (sB p.1),.string (sB p.2)],.func (.yield lp) #[] #[]] W _
 go_enter Tryz.func146,Tryz.ntmps146
 go_wp2_with fail
 refine (hm _).mono ?_
 rintro e w1 ⟨rfl,hb1⟩
 have J1:=J9 (HJb.out _ _ _ (J0.out _) hb1)
 clear hm hb1 J0
 go_upto_region 2 with fail
 go_wp2
 go_loopw [6] (fun f wr=>∃ (pre:List Int) (k:Nat) (v:Int),f=.int .u8 v∧Hid (okG ones op k v=true)∧Hid (pre++opsG ones op k v=opsP p)∧Hid (pre.length+k=256)∧Hid (J pre wr)) (fun f _=>(opsG ones op 256 (intOf f)).length)
 case atStart=>exact ⟨[],256,0,rfl,OK.out,OP.out.symm,rfl,J1.out⟩
 case round=>
  clear J1 OP OK
  obtain ⟨pre,k,v,rfl,OK,EQ,LEN,JJ⟩:=hrel
  cases k with
  | zero=>exact absurd OK.out (by unfold okG;decide)
  | succ k=>
   have OK2:Hid ((0≤bits .or .u8 ones v∧bits .or .u8 ones v≤255)∧(v=op∨okG ones op k (nxtG op v)=true)):=by
    have h:=OK.out
    unfold okG at h
    simp only [Bool.and_eq_true,Bool.or_eq_true,decide_eq_true_eq] at h
    exact h
   have hyd:=HY.out pre (bits .or .u8 ones v) wr JJ.out OK2.out.1 (by have:=LEN.out;omega)
   obtain ⟨fn,tmps,assign,body,hy,hR⟩:=hyd
   have LS:=J9 (opsG_less ones op k v OK.out)
   have LK:Hid (k+1≤256):=(by have:=LEN.out;omega:k+1≤256)
   have EQ2:Hid (pre++bits .or .u8 ones v :: (if v=op then [] else opsG ones op k (nxtG op v))=opsP p):=EQ.out
   have LEN2:Hid ((pre++[bits .or .u8 ones v]).length+k=256):=by show _=_;rw [List.length_append];have:=LEN.out;simp;omega
   clear EQ OK JJ LEN
   go_upto_region 3 with fail
   refine (wpIn_wide (n:=n)).1 ?_
   gi_wp2
   refine ⟨fun h=>(by cases h),hR.mono ?_⟩
   rintro e3 W3 ⟨rfl,hJ3,-⟩
   have J3:=J9 hJ3
   clear hJ3 hR hy
   by_cases hv:v=op
   ·have EN:Hid (pre++[bits .or .u8 ones v]=opsP p):=by show _=_;rw [← EQ2.out,if_pos hv]
    have hb:(v == op)=true:=by rw [hv];exact beq_self_eq_true _
    clear hv EQ2 LS
    gi_wp2
    go_wp2
    go_end0
    exact ⟨⟨_,rfl⟩,_,EN.out,J3.out⟩
   ·have hb:(v == op)=false:=by simpa using hv
    have OK3:Hid (okG ones op k (nxtG op v)=true):=OK2.out.2.resolve_left hv
    have EN:Hid ((pre++[bits .or .u8 ones v])++opsG ones op k (nxtG op v)=opsP p):=by show _=_;rw [← EQ2.out,if_neg hv,List.append_assoc];rfl
    have LS2:=J9 (LS.out hv LK.out)
    clear hv EQ2 LS OK2
    gi_wp2
    go_wp2
    go_roundw
    case rel=>exact ⟨pre++[bits .or .u8 ones v],k,nxtG op v,rfl,OK3.out,EN.out,LEN2.out,J3.out⟩
    case measure=>exact LS2.out
end Go.Proofs.YtclhaejdjogfbaaGreatDoor
