/-
  The walk over the document's own Of.
-/
import Derived.Test.YtmnleknehjkmgaaGreatDoorGAU
import Derived.Test.YtmnleknehjkmgaaGreatDoorGAX
set_option linter.all false
set_option maxRecDepth 100000
set_option maxHeartbeats 4000000
namespace Go.Proofs.YtmnleknehjkmgaaGreatDoor
open Go.RowKit
attribute [local irreducible] Go.Mixed.wpMix
def b3L (c:Nat) (L:List Tr):Bool:=decide (c=1∧L.length=2∧L.head?=some accT)
def b5L (c:Nat) (L:List Tr):Bool:=decide (c=2∧L.length=1)
def b9L (c:Nat) (L:List Tr):Bool:=decide (c=3∧L=[hlT,deT])
theorem ownS_new2 (w:World) (x y:Tr) (B:Nat) (hB:B≤w.heap.size):OwnS (w.alloc (.cells #[.int .i64 x.1,.int .i64 x.2.1,.int .i64 x.2.2,.int .i64 y.1,.int .i64 y.2.1,.int .i64 y.2.2] 50)) B (.slice (some ⟨w.heap.size,0,none⟩) 2 2) [x,y]:=
 .inr ⟨w.heap.size,0,2,rfl,Nat.le_refl _,by unfold maxLen;omega,rowS_two hB (heap_alloc_new w _) ⟨rfl,rfl,rfl⟩ ⟨rfl,rfl,rfl⟩⟩
theorem acc_split (c:Nat) (L:List Tr) (b:Bool) (h:b3L c L=b):accL c L=if b5L c (if b then L.tail else L) then accT :: (if b then L.tail else L) else (if b then L.tail else L):=by
 cases b with
 | true=>
  obtain ⟨h1,h2,h3⟩:=of_decide_eq_true h
  have e:b5L c L.tail=false:=decide_eq_false fun q=>by omega
  simp only [if_true,e,Bool.false_eq_true,if_false]
  unfold accL
  rw [if_pos ⟨h1,h2,h3⟩]
 | false=>
  have h1:=of_decide_eq_false h
  simp only [Bool.false_eq_true,if_false]
  unfold accL b5L
  rw [if_neg h1]
  by_cases h2:c=2∧L.length=1
  ·rw [if_pos h2,decide_eq_true h2];rfl
  ·rw [if_neg h2,decide_eq_false h2];rfl
theorem ex_split (c:Nat) (M:List Tr):exL c M=if b9L c M then [deT,hlT] else M:=by
 unfold exL b9L
 by_cases h:c=3∧M=[hlT,deT]
 ·rw [if_pos h,decide_eq_true h];rfl
 ·rw [if_neg h,decide_eq_false h];rfl
def Sv (w1 wx:World) (B:Nat) (v:Value) (L:List Tr):Prop:=∃ A cap,v=.slice A L.length cap∧OwnS wx B v L∧Below B w1 wx
theorem Sv.go {w1 wx wy:World} {B:Nat} {v:Value} {L:List Tr} (h:Sv w1 wx B v L) (hB:B≤w1.heap.size) (hb:Below wx.heap.size wx wy):Sv w1 wy B v L:=by
 obtain ⟨A,cap,rfl,h1,h2⟩:=h
 exact ⟨A,cap,rfl,h1.below hb,h2.trans (hb.mono (Nat.le_trans hB h2.size))⟩
theorem rof_w0 (s:ByteArray) (A:Option Addr) (cap:Nat) (L:List Tr) (hL:L.length≤900) (w:World) (H:OpsP w A L) (k1:¬I1 s) (k2:¬I2 s) (k3:¬I3 s) (hX:widL (opc s) L=0) :
  Calls Tryz.prog 11 #[.agg #[.string s,.slice A L.length cap]] w (RetC w s (canL (opc s) L)):=by
 obtain ⟨w1,hw1⟩:∃ w1,((w.alloc (.cells #[.string s,.slice A L.length cap] 26)).alloc (.cells #[.string ⟨#[]⟩,.slice none 0 0] 26)).alloc (.cells #[.int .i64 1,.int .i64 7,.int .i64 0] 50)=w1:=⟨_,rfl⟩
 have B1:Hid (Below w.heap.size w w1):=by rw [← hw1];exact (((Below.refl _ _).alloc (Nat.le_refl _) _).alloc (by simp) _).alloc (by simp;omega) _
 have T1:Hid (Bx w1 w.heap.size s A L.length cap):=by rw [← hw1];exact ⟨by simp [go_sem],by simp [go_sem]⟩
 have Z1:Hid (Rz w1 (w.heap.size+1)):=by
  rw [← hw1]
  have h1:=heap_alloc_new (w.alloc (.cells #[.string s,.slice A L.length cap] 26)) (.cells #[.string ⟨#[]⟩,.slice none 0 0] 26)
  have h2:Below (w.heap.size+2) ((w.alloc (.cells #[.string s,.slice A L.length cap] 26)).alloc (.cells #[.string ⟨#[]⟩,.slice none 0 0] 26)) (((w.alloc (.cells #[.string s,.slice A L.length cap] 26)).alloc (.cells #[.string ⟨#[]⟩,.slice none 0 0] 26)).alloc (.cells #[.int .i64 1,.int .i64 7,.int .i64 0] 50)):=(Below.refl _ _).alloc (by simp) _
  show Rz _ _
  refine (h2.block _ (by omega)).trans ?_
  simpa [Rz] using h1
 have S1:Hid (w1.heap.size=w.heap.size+3):=by rw [← hw1];simp [Hid]
 have A1:Hid (w1.heap[w.heap.size+2]?=some (.cells #[.int .i64 1,.int .i64 7,.int .i64 0] 50 (0,0))):=by
  rw [← hw1]
  have h1:=heap_alloc_new ((w.alloc (.cells #[.string s,.slice A L.length cap] 26)).alloc (.cells #[.string ⟨#[]⟩,.slice none 0 0] 26)) (.cells #[.int .i64 1,.int .i64 7,.int .i64 0] 50)
  simpa [Hid] using h1
 have P1:=Lib.hid (H.below B1.out)
 obtain ⟨v0,w2,hrun,hO,h2⟩:=append_ops A cap L (by omega) w1 P1.out
 have KR:=Lib.hid hrun
 have HSv:Hid (Sv w1 w2 w1.heap.size v0 L):=by
  obtain ⟨A',cap',rfl,-,-⟩:=hO.ops
  exact ⟨A',cap',rfl,hO.own,h2⟩
 obtain ⟨n,hn⟩:∃ n,L.length=n:=⟨_,rfl⟩
 have HLn:=Lib.hid hn
 rw [hn] at T1 KR hw1 ⊢
 have hn9:n≤900:=by omega
 have HW1:=Lib.hid hw1
 have H0:=Lib.hid H
 clear H hrun hO h2 P1 hn hL hw1
 go_enter Tryz.func11,Tryz.ntmps11
 go_upto_region 2 with fail
 rw [HW1.out]
 obtain ⟨b3,hb3⟩:∃ b3,w.heap.size+1+1=b3:=⟨_,rfl⟩
 rw [hb3]
 obtain ⟨B,hBd⟩:∃ B,w1.heap.size=B:=⟨_,rfl⟩
 obtain ⟨A0,cap0,rfl,hO0,hB0⟩:=HSv.out
 rw [HLn.out] at KR hO0
 rw [hBd] at KR hO0 hB0 S1
 have e1:(w1.alloc (.cells #[] 50)).cell? ⟨w.heap.size,1,none⟩=some (.slice A n cap):=(World.cell?_alloc_lt w1 _ _ (by have:=S1.out;simp;omega)).trans T1.out.2
 have FK:Hid (∀ wx,Below B w1 wx→(wx.cell? ⟨w.heap.size,0,none⟩=some (.string s)∧wx.cell? ⟨w.heap.size,1,none⟩=some (.slice A n cap))∧(wx.cell? ⟨b3,0,none⟩=some (.int .i64 1)∧wx.cell? ⟨b3,1,none⟩=some (.int .i64 7)∧wx.cell? ⟨b3,2,none⟩=some (.int .i64 0))∧OpsP wx A L):=fun wx hb=>by
  have hs:=S1.out
  have hr:wx.heap[b3]?=some (.cells #[.int .i64 1,.int .i64 7,.int .i64 0] 50 (0,0)):=(hb.block _ (by omega)).trans (by rw [← hb3];exact A1.out)
  exact ⟨⟨(hb.cell (p:=⟨w.heap.size,0,none⟩) (by simp;omega)).trans T1.out.1,(hb.cell (p:=⟨w.heap.size,1,none⟩) (by simp;omega)).trans T1.out.2⟩,⟨by rw [Lib.cell_of_heap hr];rfl,by rw [Lib.cell_of_heap hr];rfl,by rw [Lib.cell_of_heap hr];rfl⟩,H0.out.below (B1.out.trans (hb.mono (by omega)))⟩
 have O2:=Lib.hid hO0
 have BB2:=Lib.hid hB0
 have IN1:=fun (wx:World) A c=>Lib.hid (in_any A c W1 (by decide) s wx)
 have IN2:=fun (wx:World) A c=>Lib.hid (in_any A c W2 (by decide) s wx)
 rw [in_1] at IN1
 rw [in_2] at IN2
 obtain ⟨b1,hb1⟩:∃ b,decide (I1 s)=b:=⟨_,rfl⟩
 obtain ⟨b2,hb2⟩:∃ b,decide (I2 s)=b:=⟨_,rfl⟩
 simp only [hb1] at IN1
 simp only [hb2] at IN2
 have HI1:=Lib.hid hb1
 have HI2:=Lib.hid hb2
 have HBd:=Lib.hid hBd
 clear hO0 hB0 HSv T1 A1 HW1 hBd H0 hb1 hb2 hb3
 have kb:w1.heap.size=B:=HBd.out
 go_upto_region 3 with (at_builtin;refine wpList_run_append KR.out rfl _ _ rfl rfl rfl rfl ?_)
 clear kb e1 KR
 have HBle:Hid (B≤w1.heap.size):=by have:=HBd.out;show B≤w1.heap.size;omega
 go_cut [29] (fun p wx=>p=.bool (b3L (opc s) L)∧Hid (OwnS wx B (.slice A0 n cap0) L)∧Hid (Below B w1 wx))
 case first=>
  obtain ⟨w3,hw3⟩:∃ w3,w2.drew=w3:=⟨_,rfl⟩
  have hd:Below w2.heap.size w2 w3:=by rw [← hw3];exact below_drewN w2 _ 1
  have O3:=Lib.hid (O2.out.below hd)
  have BB3:=Lib.hid (BB2.out.trans (hd.mono (Nat.le_trans HBle.out BB2.out.size)))
  clear hd O2 BB2
  refine Mixed.wp_region_mixed (fun w'=>OwnS w' B (.slice A0 n cap0) L∧Below B w1 w') 15 [(1,true),(2,true),(0,false),(3,false),(4,true),(5,true),(6,true),(7,true),(8,true),(9,true),(10,true),(11,true),(12,true),(13,true),(14,true)] (by kernel_rfl) (by kernel_rfl) (by rw [hw3];exact ⟨O3.out,BB3.out⟩) ?_
  rw [hw3]
  clear hw3
  refine Mixed.wpMix_pure rfl (by kernel_rfl) (.pointer (some ⟨w.heap.size,0,none⟩)) (fun w h=>by clear h;go_simp;try rfl) ?_
  refine Mixed.wpMix_pure rfl (by kernel_rfl) (.string s) (fun w h=>by obtain ⟨⟨h1,h2⟩,-,-⟩:=FK.out w h.2;clear h;go_simp;try rfl) ?_
  refine Mixed.wpMix_loudG rfl (by kernel_rfl) ?_
  have hal:∀ o,Below w3.heap.size w3 (w3.alloc o):=fun o=>(Below.refl _ _).alloc (Nat.le_refl _) o
  have O4:=fun o=>Lib.hid (O3.out.below (hal o))
  have BB4:=fun o=>Lib.hid (BB3.out.trans ((hal o).mono (Nat.le_trans HBle.out BB3.out.size)))
  have IN:=Lib.hid ((IN1 (w3.alloc (.cells (W1.map Value.string).toArray 9)) (some ⟨w3.heap.size,0,none⟩) 5).out (strs_of_new w3 W1 9))
  have xx:=fun o=>(show OwnS (w3.alloc o) B (.slice A0 n cap0) L∧Below B w1 (w3.alloc o) from ⟨(O4 o).out,(BB4 o).out⟩)
  clear hal O3 BB3
  go_wp2
  refine ⟨xx _,?_⟩
  clear xx
  refine Mixed.wpMix_loudG rfl (by kernel_rfl) ?_
  go_wp2_with fail
  refine IN.out.mono ?_
  rintro e w4 ⟨rfl,hw4⟩
  have O5:Hid (OwnS w4 B (.slice A0 n cap0) L):=by rw [← hw4];exact (O4 _).out
  have BB5:Hid (Below B w1 w4):=by rw [← hw4];exact (BB4 _).out
  have xx:OwnS w4 B (.slice A0 n cap0) L∧Below B w1 w4:=⟨O5.out,BB5.out⟩
  clear hw4 O4 BB4 IN
  go_wp2
  refine ⟨xx,?_⟩
  clear xx
  refine Mixed.wpMix_pure rfl (by kernel_rfl) (.bool b1) (fun w h=>by clear h;go_simp;try rfl) ?_
  cases b1 with
  | false=>
   have E3:Hid (false=b3L (opc s) L):=(decide_eq_false fun q=>opc_n1 (of_decide_eq_false HI1.out) q.1).symm
   refine Mixed.wpMix_skip rfl (by kernel_rfl) ?_
   refine Mixed.wpMix_skip rfl (by kernel_rfl) ?_
   refine Mixed.wpMix_skip rfl (by kernel_rfl) ?_
   refine Mixed.wpMix_pure rfl (by kernel_rfl) (.bool false) (fun w h=>by clear h;go_simp;try rfl) ?_
   refine Mixed.wpMix_pure rfl (by kernel_rfl) (.bool false) (fun w h=>by clear h;go_simp;try rfl) ?_
   refine Mixed.wpMix_skip rfl (by kernel_rfl) ?_
   refine Mixed.wpMix_skip rfl (by kernel_rfl) ?_
   refine Mixed.wpMix_skip rfl (by kernel_rfl) ?_
   refine Mixed.wpMix_skip rfl (by kernel_rfl) ?_
   refine Mixed.wpMix_skip rfl (by kernel_rfl) ?_
   simp only [Mixed.wpMix,List.drop_succ_cons,List.drop_zero]
   go_wp2
   go_meet
   exact ⟨by rw [E3.out],O5.out,BB5.out⟩
  | true=>exact absurd (of_decide_eq_true HI1.out) k1
 case rest=>
  obtain ⟨rfl,O3,BB3⟩:=hcut
  clear O2 BB2 IN1
  have W3:Hid (OwnS wc B (.slice A0 n cap0) L∧Below B w1 wc):=⟨O3.out,BB3.out⟩
  clear O3 BB3
  go_upto_if 29 with fail
  obtain ⟨b3v,hb3⟩:∃ b,b3L (opc s) L=b:=⟨_,rfl⟩
  rw [hb3]
  have H3:=Lib.hid hb3
  clear hb3
  go_cut [4] (fun v wx=>∃ A5 cap5,v=.slice A5 (if b3v then 1 else n) cap5∧Hid (OwnS wx B v (if b3v then L.tail else L))∧Hid (Below B w1 wx))
  case first=>
   cases b3v with
   | false=>
    go_wp2
    go_meet
    exact ⟨A0,cap0,rfl,W3.out.1,W3.out.2⟩
   | true=>
    obtain ⟨hc1,h2,h3⟩:=of_decide_eq_true H3.out
    exact absurd hc1 (opc_n1 k1)
  case rest=>
   obtain ⟨A5,cap5,rfl,O5,BB5⟩:=hcut
   have AS:=Lib.hid (acc_split (opc s) L b3v H3.out)
   have hml:(if b3v then L.tail else L).length=(if b3v then 1 else n):=by
    cases b3v with
    | true=>
     obtain ⟨-,h2,-⟩:=of_decide_eq_true H3.out
     simp only [if_true,List.length_tail,h2]
    | false=>simpa using HLn.out
   obtain ⟨M,hM⟩:∃ M,(if b3v then L.tail else L)=M:=⟨_,rfl⟩
   obtain ⟨m,hm⟩:∃ m,(if b3v then 1 else n)=m:=⟨_,rfl⟩
   rw [hM,hm] at hml
   rw [hM] at AS O5
   have hm9:m≤900:=by rw [← hm];split <;> omega
   have HM:=Lib.hid hml
   obtain ⟨b5v,hb5⟩:∃ b,b5L (opc s) M=b:=⟨_,rfl⟩
   rw [hb5] at AS
   have H5:=Lib.hid hb5
   rw [hm] at O5 ⊢
   clear hM hm hml hb5 W3 H3
   go_upto_region 5 with fail
   go_cut [40] (fun p wx=>p=.bool b5v∧Hid (OwnS wx B (.slice A5 m cap5) M)∧Hid (Below B w1 wx))
   case first=>
    have hBs:B≤wc.heap.size:=Nat.le_trans HBle.out BB5.out.size
    have hal:∀ o,Below wc.heap.size wc (wc.alloc o):=fun o=>(Below.refl _ _).alloc (Nat.le_refl _) o
    have O4:=fun o=>Lib.hid (O5.out.below (hal o))
    have BB4:=fun o=>Lib.hid (BB5.out.trans ((hal o).mono hBs))
    have IN:=Lib.hid ((IN2 (wc.alloc (.cells (W2.map Value.string).toArray 9)) (some ⟨wc.heap.size,0,none⟩) 3).out (strs_of_new wc W2 9))
    have e0:=(FK.out _ (BB4 (.cells #[.string ⟨#[65,68,68]⟩,.string ⟨#[65,68,67]⟩,.string ⟨#[83,66,67]⟩] 9)).out).1.1
    clear hal hBs O5 BB5
    go_wp2_with fail
    refine IN.out.mono ?_
    rintro e w4 ⟨rfl,hw4⟩
    have O5:Hid (OwnS w4 B (.slice A5 m cap5) M):=by rw [← hw4];exact (O4 _).out
    have BB5:Hid (Below B w1 w4):=by rw [← hw4];exact (BB4 _).out
    clear hw4 O4 BB4 IN e0
    cases b2 with
    | false=>
     have E3:Hid (false=b5v):=by rw [← H5.out];exact (decide_eq_false fun q=>opc_n2 (of_decide_eq_false HI2.out) q.1).symm
     go_wp2
     go_meet
     exact ⟨by rw [E3.out],O5.out,BB5.out⟩
    | true=>exact absurd (of_decide_eq_true HI2.out) k2
   case rest=>
    obtain ⟨rfl,O6,BB6⟩:=hcut
    clear O5 BB5 IN2
    go_upto_if 40 with fail
    go_cut [4] (fun v wx=>∃ A7 cap7,v=.slice A7 (if b5v then 2 else m) cap7∧Hid (OwnS wx B v (if b5v then accT :: M else M))∧Hid (Below B w1 wx))
    case first=>
     cases b5v with
     | false=>
      go_wp2
      go_meet
      exact ⟨A5,cap5,rfl,O6.out,BB6.out⟩
     | true=>
      obtain ⟨hc2,h2⟩:=of_decide_eq_true H5.out
      exact absurd hc2 (opc_n2 k2)
    case rest=>
     obtain ⟨A7,cap7,rfl,O7,BB7⟩:=hcut
     have hml:(if b5v then accT :: M else M).length=(if b5v then 2 else m):=by
      cases b5v with
      | true=>
       obtain ⟨-,h2⟩:=of_decide_eq_true H5.out
       simp only [if_true,List.length_cons,h2]
      | false=>simpa using HM.out
     obtain ⟨N,hN⟩:∃ N,(if b5v then accT :: M else M)=N:=⟨_,rfl⟩
     obtain ⟨n7,hn7⟩:∃ n7,(if b5v then 2 else m)=n7:=⟨_,rfl⟩
     rw [hN,hn7] at hml
     rw [hN] at AS O7
     have hn79:n7≤900:=by rw [← hn7];split <;> omega
     have HN:=Lib.hid hml
     obtain ⟨b9v,hb9⟩:∃ b,b9L (opc s) N=b:=⟨_,rfl⟩
     have H9:=Lib.hid hb9
     have XS:=Lib.hid (ex_split (opc s) N)
     rw [hb9] at XS
     rw [hn7] at O7 ⊢
     clear hN hn7 hml hb9 O6 BB6 H5 HM HI1 HI2 hm9
     go_upto_region 9 with fail
     obtain ⟨wd,hwd⟩:∃ wd,(wc.alloc (.cells #[.int .i64 3,.int .i64 2,.int .i64 0] 50)).alloc (.cells #[.int .i64 3,.int .i64 1,.int .i64 0] 50)=wd:=⟨_,rfl⟩
     have hbd:Below wc.heap.size wc wd:=by rw [← hwd];exact ((Below.refl _ _).alloc (Nat.le_refl _) _).alloc (by simp) _
     have hBs:B≤wc.heap.size:=Nat.le_trans HBle.out BB7.out.size
     have O8:=Lib.hid (O7.out.below hbd)
     have BB8:=Lib.hid (BB7.out.trans (hbd.mono hBs))
     have g5:wd.cell? ⟨wc.heap.size,0,none⟩=some (.int .i64 3)∧wd.cell? ⟨wc.heap.size,1,none⟩=some (.int .i64 2)∧wd.cell? ⟨wc.heap.size,2,none⟩=some (.int .i64 0):=by rw [← hwd];exact ⟨by simp [go_sem],by simp [go_sem],by simp [go_sem]⟩
     have g6:wd.cell? ⟨wc.heap.size+1,0,none⟩=some (.int .i64 3)∧wd.cell? ⟨wc.heap.size+1,1,none⟩=some (.int .i64 1)∧wd.cell? ⟨wc.heap.size+1,2,none⟩=some (.int .i64 0):=by rw [← hwd];exact ⟨by simp [go_sem],by simp [go_sem],by simp [go_sem]⟩
     rw [hwd]
     obtain ⟨b5,hb5⟩:∃ b5,wc.heap.size=b5:=⟨_,rfl⟩
     obtain ⟨b6,hb6⟩:∃ b6,wc.heap.size+1=b6:=⟨_,rfl⟩
     rw [hb6] at g6 ⊢
     rw [hb5] at g5 ⊢
     have G5:=Lib.hid g5
     have G6:=Lib.hid g6
     clear hwd hbd hBs O7 BB7 hb5 hb6 g5 g6
     go_cut [69] (fun p wx=>p=.bool b9v∧Hid (∃ q,wx=wd.drewN q))
     case first=>
      obtain ⟨⟨k0,-⟩,-,-⟩:=FK.out wd BB8.out
      obtain ⟨g50,g51,g52⟩:=G5.out
      obtain ⟨g60,g61,g62⟩:=G6.out
      by_cases h3:I3 s
      ·exact absurd h3 k3
      ·have q3:(s.toList == [69,88])=false:=by simpa using strB_ne h3
       have E3:Hid (false=b9v):=by
        rw [← H9.out]
        exact (decide_eq_false fun q=>opc_n3 h3 q.1).symm
       clear h3
       go_quiet (fail)
       go_wp2
       go_meet
       exact ⟨by rw [E3.out],⟨_,rfl⟩⟩
     case rest=>
      obtain ⟨rfl,q9,rfl⟩:=hcut
      go_upto_if 69 with fail
      go_cut [4] (fun v wx=>∃ A8 cap8,v=.slice A8 (if b9v then 2 else n7) cap8∧Hid (OwnS wx B v (if b9v then [deT,hlT] else N))∧Hid (Below B w1 wx))
      case first=>
       cases b9v with
       | false=>
        go_wp2
        go_meet
        exact ⟨A7,cap7,rfl,O8.out,below_dn BB8.out q9⟩
       | true=>
        exact absurd (of_decide_eq_true H9.out).1 (opc_n3 k3)
      case rest=>
       obtain ⟨A8,cap8,rfl,O9,BB9⟩:=hcut
       have hml:(if b9v then [deT,hlT] else N).length=(if b9v then 2 else n7):=by
        cases b9v with
        | true=>rfl
        | false=>simpa using HN.out
       obtain ⟨Q,hQ⟩:∃ Q,(if b9v then [deT,hlT] else N)=Q:=⟨_,rfl⟩
       obtain ⟨nq,hnq⟩:∃ nq,(if b9v then 2 else n7)=nq:=⟨_,rfl⟩
       rw [hQ,hnq] at hml
       rw [hQ] at XS O9
       have hnq9:nq≤900:=by rw [← hnq];split <;> omega
       have HQ:=Lib.hid hml
       rw [hnq] at O9 ⊢
       have CAN:Hid (canL (opc s) L=Q.map (wrapT (valW (widL (opc s) L)))):=by
        show canL (opc s) L=_
        unfold canL
        rw [AS.out,XS.out]
       clear hQ hnq hml H9 O8 BB8 HN AS XS G5 G6 hn79
       obtain ⟨⟨k0,k1⟩,-,hP⟩:=FK.out wc BB9.out
       have WD:=Lib.hid (rwidth_any s A cap L (by rw [HLn.out];omega) wc hP)
       have hcs:=widL_cases (opc s) L
       obtain ⟨x,hx⟩:∃ x,widL (opc s) L=x:=⟨_,rfl⟩
       have HX:Hid (x=0):=hx.symm.trans hX
       rw [hx] at WD hcs CAN
       rw [HLn.out] at WD
       have YES:=fun v=>Lib.hid (wL_yes v Q)
       have NOT:=fun v=>Lib.hid (wL_not v Q)
       have WE:=fun v=>Lib.hid (wL_end v Q)
       have AT:=fun v=>Lib.hid (wL_at v Q)
       have hwl:∀ v j,(wL v Q j).length=nq:=fun v j=>by rw [wL_len];exact HQ.out
       have hBs:B≤wc.heap.size:=Nat.le_trans HBle.out BB9.out.size
       have HBS:=Lib.hid hBs
       have FR:Hid (∀ wr v,Below B w1 wr→OwnS wr B v (Q.map (wrapT (valW x)))→∃ A9 n9 c9,v=.slice A9 n9 c9∧(wr.cell? ⟨w.heap.size,0,none⟩=some (.string s))∧Rz wr (w.heap.size+1)∧RetC w s (canL (opc s) L) (.returned (.agg #[.string s,v])) ((wr.setCell ⟨w.heap.size+1,0,none⟩ (.string s)).setCell ⟨w.heap.size+1,1,none⟩ v)):=fun wr v hb ho=>by
        have hs:=S1.out
        obtain ⟨A9,c9,e9,-,-,-⟩:=ho.ops
        refine ⟨A9,_,c9,e9,(FK.out wr hb).1.1,(hb.block _ (by omega)).trans Z1.out,v,rfl,?_,?_⟩
        ·rw [CAN.out]
         exact ((ho.low ⟨w.heap.size+1,0,none⟩ (by simp;omega) _).low ⟨w.heap.size+1,1,none⟩ (by simp;omega) _).lift (by omega)
        ·exact ((B1.out.trans (hb.mono (by omega))).setCell (p:=⟨w.heap.size+1,0,none⟩) (by simp) _).setCell (p:=⟨w.heap.size+1,1,none⟩) (by simp) _
       clear hP hBs hx CAN Z1 S1 B1 HLn hn9
       go_wp2_with fail
       refine WD.out.mono ?_
       rintro e w9 ⟨rfl,hb⟩
       have O10:=Lib.hid (O9.out.below hb)
       have BB10:=Lib.hid (BB9.out.trans (hb.mono HBS.out))
       clear hb WD O9 BB9 k0 k1 HBS
       obtain rfl:x=0:=HX.out
       rw [show valW 0=0 from rfl] at FR
       go_wp2
       go_loopw [8] (fun i wr=>∃ j:Nat,j≤nq∧i=.int .i64 j∧Hid (OwnS wr B (.slice A8 nq cap8) (wL 0 Q j))∧Hid (Below B w1 wr)) (fun i _=>nq - (intOf i).toNat)
       case atStart=>exact ⟨0,Nat.zero_le _,rfl,O10.out,BB10.out⟩
       case round=>
        clear O10 BB10
        obtain ⟨j,hj,rfl,O1,B1⟩:=hrel
        by_cases hlt:j<nq
        ·have hj1:j<Q.length:=by rw [HQ.out];exact hlt
         have hj2:j<(wL 0 Q j).length:=by rw [hwl];exact hlt
         obtain ⟨g,off,cap',hA,hlc,hcm,hR⟩:=O1.out.nonnil (by omega)
         rw [hwl] at hA hlc
         simp only [Value.slice.injEq] at hA
         obtain ⟨rfl,-,rfl⟩:=hA
         obtain ⟨p0,p1,p2⟩:=hR.at_ j hj2
         rw [(AT 0).out j hj1 hj2] at p0 p1 p2
         have fz:=hR.frozen (off+j*3+2)
         have Y:=Lib.hid ((YES 0).out j hj1)
         have N:=Lib.hid ((NOT 0).out j hj1)
         obtain ⟨⟨y0,y1,y2⟩,hy⟩:∃ y,Q[j]=y:=⟨_,rfl⟩
         rw [hy] at p0 p1 p2 Y N
         simp only at p0 p1 p2 Y N
         have hgB:Hid (B≤g):=hR.1
         have HCL:=Lib.hid hlc
         have HCM:=Lib.hid hcm
         have hR:=Lib.hid hR
         clear hj1 hj2 hy hlc hcm
         by_cases k6:y0=6
         ·by_cases a2:y2<0
          ·have a3:¬(0:Int)≤y2:=by omega
           have hx:=N.out fun q=>absurd q.2.1 (by omega)
           rw [hx] at O1
           subst k6
           clear hx Y N hR
           go_wp2
           go_roundw
           case rel=>exact ⟨j+1,by omega,by go_num,O1.out,B1.out⟩
           case measure=>simp [intOf];omega
          ·have hx:=N.out fun q=>a2 q.2.2
           have a3:(0:Int)≤y2:=by omega
           rw [hx] at O1
           subst k6
           clear hx Y N hR
           go_wp2
           go_roundw
           case rel=>exact ⟨j+1,by omega,by go_num,O1.out,B1.out⟩
           case measure=>simp [intOf];omega
         ·have hx:=N.out fun q=>k6 q.1
          rw [hx] at O1
          clear hx Y N hR
          go_wp2
          go_roundw
          case rel=>exact ⟨j+1,by omega,by go_num,O1.out,B1.out⟩
          case measure=>simp [intOf];omega
        ·have hjn:j=nq:=by omega
         subst hjn
         have hwe:wL 0 Q j=Q.map (wrapT 0):=by
          rw [show j=Q.length from HQ.out.symm]
          exact (WE 0).out
         rw [hwe] at O1
         obtain ⟨A9,n9,c9,e9,k0,Z2,F⟩:=FR.out wr _ B1.out O1.out
         simp only [Value.slice.injEq] at e9
         obtain ⟨rfl,rfl,rfl⟩:=e9
         obtain ⟨z0,z1,z2,z3⟩:=Z2.cells
         have E:=Lib.hid (Z2.set s (.slice A8 j cap8))
         have F:=Lib.hid F
         clear Z2 hwe
         go_wp2
         obtain ⟨e0,e1⟩:=E.out
         obtain ⟨w6,hw6⟩:∃ w6,((wr.setCell ⟨w.heap.size+1,0,none⟩ (.string s)).setCell ⟨w.heap.size+1,1,none⟩ (.slice A8 j cap8))=w6:=⟨_,rfl⟩
         rw [hw6] at F e0 e1 ⊢
         clear hw6 z0 z1 z2 z3
         refine bodyPost_ret (v:=.agg #[.string s,.slice A8 j cap8]) ?_ rfl F.out
         simp [results,Tryz.results11,go_sem,e0,e1]
end Go.Proofs.YtmnleknehjkmgaaGreatDoor
