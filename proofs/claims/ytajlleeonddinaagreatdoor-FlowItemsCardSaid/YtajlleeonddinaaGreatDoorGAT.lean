/-
  CnS, CnT, CnO, CnUa, CnUb, CnUc, CnUd, CnU, SeD, SeE.
-/
import Derived.Test.YtajlleeonddinaaGreatDoorGAS
import Derived.Laws.EntriesVeiled
import Derived.Deep.DeepCutAuto
import Derived.Deep.Cut
import Derived.StillTail
import Derived.StillTailTactics
import Derived.Deep.RegionHeld3
import Derived.RegionTactic
import Derived.Test.YtajlleeonddinaaGreatDoorGAR
import Derived.Test.YtajlleeonddinaaGreatDoorGAF
import Derived.Test.YtajlleeonddinaaGreatDoorGAC
import Derived.Test.YtajlleeonddinaaGreatDoorGAA
set_option linter.all false
set_option maxRecDepth 100000
set_option maxHeartbeats 4000000
namespace Go.Proofs.YtajlleeonddinaaGreatDoor
open Go.RowKit
attribute [local irreducible] Go.Mixed.wpMix
theorem place_2 (s:ByteArray) (h1:I2 s) (B bd:Nat) (hB:B≤bd) (v:Value) (L:List Tr) (hL:L.length≤1000) (w:World) (hD:Dr w bd s v) (hO:OwnT w B v L) :
  Calls Tryz.prog 101 #[.pointer (some ⟨bd,0,none⟩)] w (RetP w bd s B (accL 2 L)):=by
 obtain ⟨A,cap,rfl,hP,hlc⟩:=hO.ops
 have D0:=Lib.hid hD
 have O0:=Lib.hid hO
 obtain ⟨d0,d1,-,-⟩:=hD.cells
 by_cases h2:L.length=1
 ·obtain ⟨x,rfl⟩:∃ x,L=[x]:=by
   cases L with
   | nil=>simp at h2
   | cons a r=>
    cases r with
    | nil=>exact ⟨a,rfl⟩
    | cons b r=>simp at h2
  obtain ⟨g,rfl,hgB,hgl⟩:∃ g,A=some ⟨g,0,none⟩∧B≤g∧g<w.heap.size:=by
   rcases hO.2 with ⟨h,_⟩ | ⟨g',cap',cur,h,hg,hc,_⟩
   ·simp at h
   ·simp only [Value.slice.injEq] at h
    exact ⟨g',h.1,hg,(Array.getElem?_eq_some_iff.1 hc).1⟩
  have SB:Hid (B≤w.heap.size):=Nat.le_trans hB (Nat.le_of_lt hD.lt)
  have HGB:=Lib.hid (hO.own.nonnil (by simp))
  have HG:Hid (g≠bd):=by
   obtain ⟨g',off,cap',e,-,-,hR⟩:=HGB.out
   simp only [Value.slice.injEq,Option.some.injEq,Addr.mk.injEq] at e
   rw [e.1.1]
   exact hR.apart hD
  have HGS:=Lib.hid hgB
  have HGL:=Lib.hid hgl
  have e2:([x]:List Tr).length=1:=rfl
  have CW:Hid (w.drew.cell? ⟨bd,1,none⟩=some (.slice (some ⟨g,0,none⟩) 1 cap)):=d1
  have e3:([x]:List Tr).length=1:=rfl
  rw [e2] at D0 O0 d1
  clear hD hO hP hlc hL h2 e2 e3 HGB hgB hgl d0
  rcases h1 with rfl | rfl | rfl
  all_goals
   go_enter Tryz.func101,Tryz.ntmps101
   obtain ⟨e0,e1,-,-⟩:=D0.out.cells
   go_wp2
   clear e0 e1
   refine Mixed.wp_region_mixed (fun w'=>w'.cell? ⟨bd,1,none⟩=some (.slice (some ⟨g,0,none⟩) 1 cap)) 9 [(0,true),(1,true),(2,true),(3,true),(4,true),(5,true),(6,false),(7,false),(8,false)] (by kernel_rfl) (by kernel_rfl) CW.out ?_
   refine Mixed.wpMix_move rfl (by kernel_rfl) _ rfl _ rfl ?_
   refine Mixed.wpMix_move rfl (by kernel_rfl) _ rfl _ rfl ?_
   refine Mixed.wpMix_pure rfl (by kernel_rfl) (.pointer (some ⟨bd,0,none⟩)) (fun w h=>by go_simp;try rfl) ?_
   refine Mixed.wpMix_pure rfl (by kernel_rfl) (.pointer (some ⟨bd,0,none⟩)) (fun w h=>by go_simp;try rfl) ?_
   refine Mixed.wpMix_pure rfl (by kernel_rfl) (.pointer (some ⟨bd,1,none⟩)) (fun w h=>by go_simp;try rfl) ?_
   refine Mixed.wpMix_pure rfl (by kernel_rfl) (.slice (some ⟨g,0,none⟩) 1 cap) (fun w h=>by go_simp;try rfl) ?_
   refine Mixed.wpMix_loudG rfl (by kernel_rfl) ?_
   go_wp2_with fail
   refine (acc_any _).mono ?_
   rintro e w1 ⟨rfl,hb⟩
   have D1:=Lib.hid (D0.out.below (w':=w1) ((below_drewN _ _ 1).trans hb))
   have O1:=Lib.hid (O0.out.below (w':=w1) ((below_drewN _ _ 1).trans hb))
   have B1:Hid (Below B w w1):=((below_drewN w _ 1).trans hb).mono SB.out
   have S1:Hid (w.heap.size≤w1.heap.size):=((below_drewN w _ 1).trans hb).size
   have xx:=D1.out.cells.2.1
   clear hb D0 O0
   go_wp2
   refine ⟨xx,?_⟩
   clear xx
   refine Mixed.wpMix_loudG rfl (by kernel_rfl) ?_
   have hal:∀ o,Below w1.heap.size w1 (w1.alloc o):=fun o=>(Below.refl _ _).alloc (Nat.le_refl _) o
   have D2:=fun o=>Lib.hid (D1.out.below (hal o))
   have O2:=fun o=>Lib.hid (O1.out.below (hal o))
   have B2:=fun o=>Lib.hid (B1.out.alloc (Nat.le_trans SB.out S1.out) o)
   have xx:=fun o=>(D2 o).out.cells.2.1
   have IN:=Lib.hid (insert_one B g cap w1.heap.size x (w1.alloc (.cells #[.int .i64 1,.int .i64 7,.int .i64 0] 55)) (O2 _).out (heap_alloc_new w1 _) (by have:=HGL.out;have:=S1.out;omega) (by have:=SB.out;have:=S1.out;simp;omega))
   clear hal O1 D1 B1 O2
   go_wp2
   refine ⟨xx _,?_⟩
   clear xx
   refine Mixed.wpMix_loudG rfl (by kernel_rfl) ?_
   go_wp2_with fail
   refine IN.out.mono ?_
   rintro e w3 ⟨A2,cap2,rfl,hO3,hG3⟩
   have D3:Hid (Dr w3 bd _ (.slice (some ⟨g,0,none⟩) 1 cap)):=(hG3.block bd (D2 _).out.lt (fun e=>HG.out (by simp at e;exact e.symm))).trans (D2 _).out
   have B3:Hid (Below B w w3):=(B2 _).out.grown hG3 (Nat.le_trans (Nat.le_trans SB.out S1.out) (by simp)) (fun k hk=>by simp at hk;have:=HGS.out;omega)
   have D4:=Lib.hid (D3.out.put (.slice A2 2 cap2))
   have O4:=Lib.hid (OwnS.other hO3 D3.out 1 (u:=.slice A2 2 cap2))
   have B4:Hid (Below B w (w3.setCell ⟨bd,1,none⟩ (.slice A2 2 cap2))):=B3.out.setCell (p:=⟨bd,1,none⟩) hB _
   obtain ⟨e0,e1,-,f1⟩:=D3.out.cells
   have xx:=e1
   clear hO3 hG3 D2 B2 B3 IN D3
   go_wp2
   refine ⟨xx,?_⟩
   clear xx
   simp only [Mixed.wpMix,List.drop_succ_cons,List.drop_zero]
   go_wp2
   go_end0
   rw [← accL_put x]
   exact ⟨rfl,_,D4.out,O4.out,B4.out⟩
 ·have EE:=Lib.hid (accL_len1 L h2)
  obtain ⟨n,hn⟩:∃ n,L.length=n:=⟨_,rfl⟩
  have O0:=Lib.hid O0.out.own
  rw [hn] at D0 O0 d1 h2 hL
  have h3:¬((n:Int)=1):=by omega
  clear hD hO hP hn hlc
  rcases h1 with rfl | rfl | rfl
  all_goals
   go_enter Tryz.func101,Tryz.ntmps101
   go_wp2
   go_end0
   rw [← EE.out]
   exact ⟨rfl,_,D0.out,O0.out,Below.refl _ _⟩
theorem place_0 (s:ByteArray) (h1:¬I1 s) (h2:¬I2 s) (B bd:Nat) (v:Value) (L:List Tr) (w:World) (hD:Dr w bd s v) (hO:OwnS w B v L) :
  Calls Tryz.prog 101 #[.pointer (some ⟨bd,0,none⟩)] w (RetP w bd s B (accL (opc s) L)):=by
 have EE:=Lib.hid (accL_other (opc s) L (opc_n1 h1) (opc_n2 h2))
 obtain ⟨d0,d1,-,-⟩:=hD.cells
 have D0:=Lib.hid hD
 have O0:=Lib.hid hO
 simp only [I1,not_or] at h1
 simp only [I2,not_or] at h2
 obtain ⟨n1,n2,n3,n4,n5⟩:=h1
 obtain ⟨n6,n7,n8⟩:=h2
 have q1:(s.toList == [83,85,66])=false:=by simpa using strB_ne n1
 have q2:(s.toList == [65,78,68])=false:=by simpa using strB_ne n2
 have q3:(s.toList == [88,79,82])=false:=by simpa using strB_ne n3
 have q4:(s.toList == [79,82])=false:=by simpa using strB_ne n4
 have q5:(s.toList == [67,80])=false:=by simpa using strB_ne n5
 have q6:(s.toList == [65,68,68])=false:=by simpa using strB_ne n6
 have q7:(s.toList == [65,68,67])=false:=by simpa using strB_ne n7
 have q8:(s.toList == [83,66,67])=false:=by simpa using strB_ne n8
 clear n1 n2 n3 n4 n5 n6 n7 n8 hD hO
 go_enter Tryz.func101,Tryz.ntmps101
 go_wp2
 go_end0
 rw [← EE.out]
 exact ⟨rfl,_,D0.out,O0.out,Below.refl _ _⟩
theorem place_any (s:ByteArray) (B bd:Nat) (hB:B≤bd) (v:Value) (L:List Tr) (hL:L.length≤1000) (w:World) (hD:Dr w bd s v) (hO:OwnT w B v L) :
  Calls Tryz.prog 101 #[.pointer (some ⟨bd,0,none⟩)] w (RetP w bd s B (accL (opc s) L)):=by
 by_cases h1:I1 s
 ·rw [opc_1 h1];exact place_1 s h1 B bd hB v L hL w hD hO
 by_cases h2:I2 s
 ·rw [opc_2 h2];exact place_2 s h2 B bd hB v L hL w hD hO
 exact place_0 s h1 h2 B bd v L w hD hO.own
end Go.Proofs.YtajlleeonddinaaGreatDoor
namespace Go.Proofs.YtajlleeonddinaaGreatDoor
open Go.RowKit
theorem steps_any (w:World):Calls Tryz.prog 79 #[] w fun e w'=>
  e=.returned (.agg #[.func (.func 101) #[] #[],.func (.func 102) #[] #[],.func (.func 103) #[] #[]])∧Below w.heap.size w w':=by
 have B0:∀ o,Hid (Below w.heap.size w (w.alloc o)):=fun o=>(Below.refl _ _).alloc (Nat.le_refl _) _
 go_enter Tryz.func79,Tryz.ntmps79
 go_wp2
 trace_state
 refine bodyPost_ret (v:=.agg #[.func (.func 101) #[] #[],.func (.func 102) #[] #[],.func (.func 103) #[] #[]]) ?_ rfl ⟨rfl,(B0 _).out⟩
 simp [results,Tryz.results79,go_sem]
end Go.Proofs.YtajlleeonddinaaGreatDoor
namespace Go.Proofs.YtajlleeonddinaaGreatDoor
open Go.RowKit
theorem OwnS.low {w:World} {n:Nat} {v:Value} {L:List Tr} (h:OwnS w n v L) (p:Addr) (hp:p.block<n) (u:Value):OwnS (w.setCell p u) n v L:=by
 rcases h with h | ⟨g,off,cap,h1,h2,h3,h4,cur,hc,h6⟩
 ·exact .inl h
 ·exact .inr ⟨g,off,cap,h1,h2,h3,h4,cur,(heap_setCell_other w p g u (by omega)).trans hc,h6⟩
def Dz (w:World) (b:Nat):Prop:=w.heap[b]?=some (.cells #[.string ⟨#[]⟩,.slice none 0 0] 126 (0,0))
theorem Dz.cells {w:World} {b:Nat} (h:Dz w b):w.cell? ⟨b,0,none⟩=some (.string ⟨#[]⟩)∧w.cell? ⟨b,1,none⟩=some (.slice none 0 0)∧w.frozen? ⟨b,0,none⟩=false∧w.frozen? ⟨b,1,none⟩=false:=
 ⟨by rw [Lib.cell_of_heap h];rfl,by rw [Lib.cell_of_heap h];rfl,Lib.frozen_of_heap h 0,Lib.frozen_of_heap h 1⟩
theorem Dz.done {w:World} {b:Nat} (h:Dz w b) (s:ByteArray) (v:Value):Dr ((w.setCell ⟨b,0,none⟩ (.string s)).setCell ⟨b,1,none⟩ v) b s v:=by
 have h1:=heap_setCell_same w b 0 _ _ (.string s) h
 have h2:=heap_setCell_same (w.setCell ⟨b,0,none⟩ (.string s)) b 1 _ _ v h1
 exact h2
theorem widL_ex (c:Nat) (L:List Tr):widL c (exL c (accL c L))=widL c L:=by
 by_cases h:c=6
 ·subst h
  rw [show accL 6 L=L from (accL_other 6 L (by omega) (by omega)).symm,show exL 6 L=L from (exL_no 6 L (by omega)).symm]
 ·unfold widL
  have n1:∀ x:List Tr,¬(c=6∧x.head?.map (fun t=>t.1)=some 3):=fun x q=>h q.1
  rw [if_neg (n1 _),if_neg (n1 _)]
def RetC (w:World) (s:ByteArray) (L:List Tr) (e:Ending) (w':World):Prop:=∃ v,e=.returned (.agg #[.string s,v])∧OwnS w' w.heap.size v L∧Below w.heap.size w w'
theorem of_any (s:ByteArray) (A:Option Addr) (cap:Nat) (L:List Tr) (hL:L.length≤900) (w:World) (H:OpsP w A L) :
  Calls Tryz.prog 51 #[.agg #[.string s,.slice A L.length cap]] w (RetC w s (canL (opc s) L)):=by
 have CLN:=Lib.hid (cloneO_any A cap L (by omega))
 obtain ⟨w1,hw1⟩:∃ w1,(w.alloc (.cells #[.string s,.slice A L.length cap] 24)).alloc (.cells #[.string ⟨#[]⟩,.slice none 0 0] 24)=w1:=⟨_,rfl⟩
 have B1:Hid (Below w.heap.size w w1):=by rw [← hw1];exact ((Below.refl _ _).alloc (Nat.le_refl _) _).alloc (by simp) _
 have T1:Hid (Bx w1 w.heap.size s A L.length cap):=by rw [← hw1];exact ⟨by simp [go_sem],by simp [go_sem]⟩
 have Z1:Hid (Rz w1 (w.heap.size+1)):=by
  rw [← hw1]
  have:=heap_alloc_new (w.alloc (.cells #[.string s,.slice A L.length cap] 24)) (.cells #[.string ⟨#[]⟩,.slice none 0 0] 24)
  show Rz _ _
  simpa [Rz] using this
 have S1:Hid (w1.heap.size=w.heap.size+2):=by rw [← hw1];simp [Hid]
 have P1:=Lib.hid (H.below B1.out)
 obtain ⟨n,hn⟩:∃ n,L.length=n:=⟨_,rfl⟩
 have HLn:=Lib.hid hn
 have AL:=Lib.hid (accL_len (opc s) L)
 have EL:=Lib.hid (exL_len (opc s) (accL (opc s) L))
 have HL9:=Lib.hid hL
 have WX:=Lib.hid (widL_ex (opc s) L)
 rw [hn] at hL T1 hw1 CLN ⊢
 clear H hn
 have CL2:=Lib.hid (clone_n CLN.out HLn.out)
 go_enter Tryz.func51,Tryz.ntmps51
 go_upto_region 1 with fail
 clear hw1 CLN
 go_cut [3] (fun p wx=>∃ b6 A3 cap3,p=.pointer (some ⟨b6,0,none⟩)∧Hid (w1.heap.size≤b6)∧Hid (Dr wx b6 s (.slice A3 n cap3))∧Hid (OwnT wx w1.heap.size (.slice A3 n cap3) L)∧Hid (Below w1.heap.size w1 wx))
 case first=>
  have HP:Hid (∀ wx,wx=w1.drew∨wx=w1.drew.alloc (.cells #[.string ⟨#[]⟩,.slice none 0 0] 126)→OpsP wx A L∧Below w1.heap.size w1 wx):=by
   rintro wx (rfl | rfl)
   ·exact ⟨P1.out.below (below_drewN _ _ 1),below_drewN _ _ 1⟩
   ·exact ⟨P1.out.below ((below_drewN _ _ 1).alloc (by simp) _),(below_drewN _ _ 1).alloc (by simp) _⟩
  have KC:Hid (∀ wx,Below w1.heap.size w1 wx→Bx wx w.heap.size s A n cap):=fun wx hb=>T1.out.all hb
  have KQ:Hid (∀ wx w2,wx=w1.drew.alloc (.cells #[.string ⟨#[]⟩,.slice none 0 0] 126)→Below wx.heap.size wx w2→Dz w2 w1.heap.size):=by
   rintro wx w2 rfl hb
   exact (hb.block _ (by simp)).trans (heap_alloc_new w1.drew _)
  have hz:=T1.out.lt
  obtain ⟨t0,t1⟩:=T1.out
  go_region_held3 (fun w'=>w'.cell? ⟨w.heap.size,0,none⟩=some (.string s)∧w'.cell? ⟨w.heap.size,1,none⟩=some (.slice A n cap)) (first | exact KC.out _ (below_drewN _ _ 1) | exact KC.out _ ((below_drewN _ _ 1).alloc (by simp) _) | exact KC.out _ HB2 | exact KC.out _ (HB2.alloc (HB2.size) _) | exact KC.out _ ((HB2.setCell (p:=⟨w1.heap.size,0,none⟩) (Nat.le_refl _) _).setCell (p:=⟨w1.heap.size,1,none⟩) (Nat.le_refl _) _)) (first | (go_at_call 48;refine (CL2.out _ (HP.out _ (.inr rfl)).1).mono ?_;rintro e w2 ⟨A3,cap3,rfl,hO,h2⟩;have HB2:=((HP.out _ (.inr rfl)).2).trans (h2.mono (by simp));obtain ⟨k0,k1⟩:=KC.out _ HB2;have hz2:w.heap.size≠w2.heap.size:=(by have:=HB2.size;omega);have RZ:=KQ.out _ _ rfl h2;obtain ⟨q0,q1,q2,q3⟩:=RZ.cells) | (go_at_call 48;refine (CL2.out _ (HP.out _ (.inl rfl)).1).mono ?_;rintro e w2 ⟨A3,cap3,rfl,hO,h2⟩;have HB2:=((HP.out _ (.inl rfl)).2).trans (h2.mono (by simp));obtain ⟨k0,k1⟩:=KC.out _ HB2;have hz2:w.heap.size≠w2.heap.size:=(by have:=HB2.size;omega)))
  all_goals
   go_wp2
   go_meet
   first
    | exact ⟨w2.heap.size,A3,cap3,rfl,HB2.size,heap_alloc_new w2 _,World.ownsRow.alloc hO _,HB2.alloc HB2.size _⟩
    | exact ⟨w1.heap.size,A3,cap3,rfl,Nat.le_refl _,RZ.done _ _,row_mono (row_set (row_set hO (p:=⟨w1.heap.size,0,none⟩) (by simp) _) (p:=⟨w1.heap.size,1,none⟩) (by simp) _) (by simp),(HB2.setCell (p:=⟨w1.heap.size,0,none⟩) (Nat.le_refl _) _).setCell (p:=⟨w1.heap.size,1,none⟩) (Nat.le_refl _) _⟩
 case rest=>
  clear CL2 P1 T1
  obtain ⟨b6,A3,cap3,rfl,hb6,hri,hO,hB⟩:=hcut
  obtain ⟨B,hBd⟩:∃ B,w1.heap.size=B:=⟨_,rfl⟩
  rw [hBd] at hb6 hO hB S1
  have HBd:=Lib.hid hBd
  clear hBd
  have ST:∀ w2,Below wc.heap.size wc w2→Hid (Dr w2 b6 s (.slice A3 n cap3))∧Hid (OwnT w2 B (.slice A3 n cap3) L)∧Hid (Below B w1 w2):=fun w2 hb=>by
   have hBc:B≤wc.heap.size:=Nat.le_trans hb6.out (Nat.le_of_lt hri.out.lt)
   exact ⟨hri.out.below hb,hO.out.below hb,hB.out.trans (hb.mono hBc)⟩
  go_wp2_with fail
  refine (steps_any _).mono ?_
  rintro e w2 ⟨rfl,hb⟩
  obtain ⟨D2,O2,B2⟩:=ST w2 hb
  clear hb ST hri hO hB
  go_wp2
  go_loopw [14] (fun i wr=>(i=.int .i64 0∧Hid (Dr wr b6 s (.slice A3 n cap3))∧Hid (OwnT wr B (.slice A3 n cap3) L)∧Hid (Below B w1 wr))∨(i=.int .i64 1∧Hid (∃ v,Dr wr b6 s v∧OwnS wr B v (accL (opc s) L)∧Below B w1 wr))∨(i=.int .i64 2∧Hid (∃ v,Dr wr b6 s v∧OwnS wr B v (exL (opc s) (accL (opc s) L))∧Below B w1 wr))∨(i=.int .i64 3∧Hid (∃ v,Dr wr b6 s v∧OwnS wr B v (canL (opc s) L)∧Below B w1 wr))) (fun i _=>3 - (intOf i).toNat)
  case atStart=>exact .inl ⟨rfl,D2.out,O2.out,B2.out⟩
  case round=>
   clear D2 O2 B2
   rcases hrel with ⟨rfl,D,O,B2⟩ | ⟨rfl,X⟩ | ⟨rfl,X⟩ | ⟨rfl,X⟩
   ·have hix:∀ w,(Instr.index 128 (.agg #[.func (.func 101) #[] #[],.func (.func 102) #[] #[],.func (.func 103) #[] #[]]) (.int .i64 0)).run Tryz.prog w=.ok (.func (.func 101) #[] #[]) w:=fun _=>by kernel_rfl
    have PL:=Lib.hid (place_any s B b6 hb6.out _ L (by have:=HL9.out;omega) wr D.out O.out)
    go_wp2_with fail
    refine PL.out.mono ?_
    rintro e w3 ⟨rfl,v,d1,d2,d3⟩
    have X:Hid (∃ v,Dr w3 b6 s v∧OwnS w3 B v (accL (opc s) L)∧Below B w1 w3):=⟨v,d1,d2,B2.out.trans d3⟩
    clear d1 d2 d3 PL D O B2
    go_wp2
    go_roundw
    case rel=>exact .inr (.inl ⟨rfl,X.out⟩)
    case measure=>simp [intOf]
   ·obtain ⟨v,D,O,B2⟩:=X.out
    have hix:∀ w,(Instr.index 128 (.agg #[.func (.func 101) #[] #[],.func (.func 102) #[] #[],.func (.func 103) #[] #[]]) (.int .i64 1)).run Tryz.prog w=.ok (.func (.func 102) #[] #[]) w:=fun _=>by kernel_rfl
    have PL:=Lib.hid (ex_any s B b6 hb6.out v (accL (opc s) L) (by have:=HL9.out;have:=AL.out;omega) wr D O)
    have B2:=Lib.hid B2
    clear D O X
    go_wp2_with fail
    refine PL.out.mono ?_
    rintro e w3 ⟨rfl,d1,d2,d3⟩
    have X:Hid (∃ v,Dr w3 b6 s v∧OwnS w3 B v (exL (opc s) (accL (opc s) L))∧Below B w1 w3):=⟨v,d1,d2,B2.out.trans d3⟩
    clear d1 d2 d3 PL B2
    go_wp2
    go_roundw
    case rel=>exact .inr (.inr (.inl ⟨rfl,X.out⟩))
    case measure=>simp [intOf]
   ·obtain ⟨v,D,O,B2⟩:=X.out
    have hix:∀ w,(Instr.index 128 (.agg #[.func (.func 101) #[] #[],.func (.func 102) #[] #[],.func (.func 103) #[] #[]]) (.int .i64 2)).run Tryz.prog w=.ok (.func (.func 103) #[] #[]) w:=fun _=>by kernel_rfl
    have PL:=Lib.hid (wrap_any s B b6 hb6.out v (exL (opc s) (accL (opc s) L)) (by have:=HL9.out;have:=AL.out;have:=EL.out;omega) wr D O)
    have B2:=Lib.hid B2
    clear D O X
    go_wp2_with fail
    refine PL.out.mono ?_
    rintro e w3 ⟨rfl,d1,d2,d3⟩
    rw [WX.out] at d2
    have X:Hid (∃ v,Dr w3 b6 s v∧OwnS w3 B v (canL (opc s) L)∧Below B w1 w3):=⟨v,d1,d2,B2.out.trans d3⟩
    clear d1 d2 d3 PL B2
    go_wp2
    go_roundw
    case rel=>exact .inr (.inr (.inr ⟨rfl,X.out⟩))
    case measure=>simp [intOf]
   ·obtain ⟨v,D,O,B2⟩:=X.out
    obtain ⟨A9,cap9,rfl,-,-,-⟩:=O.ops
    obtain ⟨v,hv⟩:∃ v,v=Value.slice A9 (canL (opc s) L).length cap9:=⟨_,rfl⟩
    rw [← hv] at D O
    obtain ⟨x0,x1,-,-⟩:=D.cells
    have hSB:=S1.out
    have Z2:Rz wr (w.heap.size+1):=(B2.block _ (by omega)).trans Z1.out
    obtain ⟨z0,z1,z2,z3⟩:=Z2.cells
    have E:=Lib.hid (Z2.set s v)
    have HV:=Lib.hid hv
    have F:Hid (RetC w s (canL (opc s) L) (.returned (.agg #[.string s,v])) ((wr.setCell ⟨w.heap.size+1,0,none⟩ (.string s)).setCell ⟨w.heap.size+1,1,none⟩ v)):=
     ⟨v,rfl,((O.low ⟨w.heap.size+1,0,none⟩ (by simp;omega) _).low ⟨w.heap.size+1,1,none⟩ (by simp;omega) _).lift (by omega),
      ((B1.out.trans (B2.mono (by omega))).setCell (p:=⟨w.heap.size+1,0,none⟩) (by simp) _).setCell (p:=⟨w.heap.size+1,1,none⟩) (by simp) _⟩
    clear X D O B2 Z2 hSB
    obtain ⟨n9,hn9⟩:∃ n9,(canL (opc s) L).length=n9:=⟨_,rfl⟩
    rw [hn9] at hv
    clear hn9 HV
    subst hv
    go_wp2
    obtain ⟨e0,e1⟩:=E.out
    obtain ⟨w6,hw6⟩:∃ w6,((wr.setCell ⟨w.heap.size+1,0,none⟩ (.string s)).setCell ⟨w.heap.size+1,1,none⟩ (.slice A9 n9 cap9))=w6:=⟨_,rfl⟩
    rw [hw6] at F e0 e1 ⊢
    clear hw6 z0 z1 z2 z3 x0 x1
    refine bodyPost_ret (v:=.agg #[.string s,.slice A9 n9 cap9]) ?_ rfl F.out
    simp [results,Tryz.results51,go_sem,e0,e1]
end Go.Proofs.YtajlleeonddinaaGreatDoor
namespace Go.Proofs.YtajlleeonddinaaGreatDoor
open Go.RowKit
attribute [local irreducible] Go.Mixed.wpMix
def Sv (w1 wx:World) (B:Nat) (v:Value) (L:List Tr):Prop:=∃ A cap,v=.slice A L.length cap∧OwnS wx B v L∧Below B w1 wx
theorem Sv.go {w1 wx wy:World} {B:Nat} {v:Value} {L:List Tr} (h:Sv w1 wx B v L) (hB:B≤w1.heap.size) (hb:Below wx.heap.size wx wy):Sv w1 wy B v L:=by
 obtain ⟨A,cap,rfl,h1,h2⟩:=h
 exact ⟨A,cap,rfl,h1.below hb,h2.trans (hb.mono (Nat.le_trans hB h2.size))⟩
end Go.Proofs.YtajlleeonddinaaGreatDoor
namespace Go.Proofs.YtajlleeonddinaaGreatDoor
open Go.RowKit
attribute [local irreducible] Go.Mixed.wpMix
end Go.Proofs.YtajlleeonddinaaGreatDoor
namespace Go.Proofs.YtajlleeonddinaaGreatDoor
open Go.RowKit
attribute [local irreducible] Go.Mixed.wpMix
end Go.Proofs.YtajlleeonddinaaGreatDoor
namespace Go.Proofs.YtajlleeonddinaaGreatDoor
open Go.RowKit
attribute [local irreducible] Go.Mixed.wpMix
end Go.Proofs.YtajlleeonddinaaGreatDoor
namespace Go.Proofs.YtajlleeonddinaaGreatDoor
open Go.RowKit
attribute [local irreducible] Go.Mixed.wpMix
end Go.Proofs.YtajlleeonddinaaGreatDoor
namespace Go.Proofs.YtajlleeonddinaaGreatDoor
open Go.RowKit Go.Shelf
attribute [local go_sem] Oper.semAt_some
attribute [local irreducible] Go.Mixed.wpMix
theorem var_new (w1:World) (A:Option Addr) (cap n:Nat) (L:List Int) (lo hi:Int) (hn:L.length=n) (hl:n≤1000) (hP:KsP w1 A L) :
  ∃ w2 w3,w1.alloc (.cells #[.slice A n cap] 46)=w2∧(w2.alloc (.cells #[.int .i64 lo] 3)).alloc (.cells #[.int .i64 hi] 3)=w3∧
  VarA w3 (.agg #[.func (.func 196) #[] #[.pointer (some ⟨w1.heap.size,0,none⟩)],.func (.func 197) #[] #[.pointer (some ⟨w2.heap.size,0,none⟩),.pointer (some ⟨w2.heap.size+1,0,none⟩)]]) (L,lo,hi)∧Below w1.heap.size w1 w3∧w3.heap.size=w1.heap.size+3:=by
 subst hn
 refine ⟨_,_,rfl,rfl,⟨_,_,_,A,cap,rfl,?_,?_,?_,?_,hl⟩,?_,by simp⟩
 ·exact ((Boxed.new w1 _ _).alloc _).alloc _
 ·exact hP.below ((((Below.refl _ w1).alloc (Nat.le_refl _) _).alloc (by simp) _).alloc (by simp;omega) _)
 ·exact (Boxed.new _ _ _).alloc _
 ·have h:=Boxed.new ((w1.alloc (.cells #[.slice A L.length cap] 46)).alloc (.cells #[.int .i64 lo] 3)) 3 (.int .i64 hi)
  rwa [World.size_alloc] at h
 ·exact (((Below.refl _ w1).alloc (Nat.le_refl _) _).alloc (by simp) _).alloc (by simp;omega) _
theorem ks_new (w:World) (L:List Int) (cs:Array Value) (hc:cs.toList=L.map fun n=>.int .i64 n) (t:TypeId):KsP (w.alloc (.cells cs t)) (some ⟨w.heap.size,0,none⟩) L:=by
 refine .inr ⟨_,0,rfl,fun k hk=>?_⟩
 rw [Lib.cell_of_heap (heap_alloc_new w _),Nat.zero_add,← Array.getElem?_toList,hc,List.getElem?_map,List.getElem?_eq_getElem hk]
 rfl
def VarB (w:World) (b:Nat) (x:Vr):Prop:=∃ f g,w.heap[b]?=some (.cells #[f,g] 208 (0,0))∧VarA w (.agg #[f,g]) x
theorem VarB.lt {w:World} {b:Nat} {x:Vr} (h:VarB w b x):b<w.heap.size:=by
 obtain ⟨f,g,h1,-⟩:=h
 exact (Array.getElem?_eq_some_iff.1 h1).1
theorem VarB.below {w w':World} {b:Nat} {x:Vr} (h:VarB w b x) (hb:Below w.heap.size w w'):VarB w' b x:=by
 have hl:=h.lt
 obtain ⟨f,g,h1,h2⟩:=h
 exact ⟨f,g,(hb.block _ hl).trans h1,h2.below hb⟩
theorem KsP.put {w:World} {A:Option Addr} {L:List Int} (h:KsP w A L) {b:Nat} {f g:Value} (hb:w.heap[b]?=some (.cells #[f,g] 208 (0,0))) (hf:∀ k n,f≠.int k n) (hg:∀ k n,g≠.int k n) (j:Nat) (u:Value):KsP (w.setCell ⟨b,j,none⟩ u) A L:=by
 rcases h with rfl | ⟨c,off,rfl,hc⟩
 ·exact .inl rfl
 ·refine .inr ⟨c,off,rfl,fun k hk=>?_⟩
  have h1:=hc k hk
  have hne:c≠b:=by
   rintro rfl
   rw [Lib.cell_of_heap hb] at h1
   have:off+k=0∨off+k=1:=by
    have h2:=(Array.getElem?_eq_some_iff.1 h1).1
    simp at h2
    omega
   rcases this with e | e
   ·rw [e] at h1;exact hf _ _ (Option.some.inj h1)
   ·rw [e] at h1;exact hg _ _ (Option.some.inj h1)
  have e:=World.cell?_of_block (a:=⟨c,off+k,none⟩) (heap_setCell_other w ⟨b,j,none⟩ c u hne)
  exact e.trans h1
theorem Boxed.other {w:World} {b c:Nat} {t:TypeId} {v:Value} (h:Boxed w c t v) (hne:c≠b) (j:Nat) (u:Value):Boxed (w.setCell ⟨b,j,none⟩ u) c t v:=(heap_setCell_other w ⟨b,j,none⟩ c u hne).trans h
theorem Boxed.apart {w:World} {b c:Nat} {t:TypeId} {v:Value} (h:Boxed w c t v) {cs:Array Value} {ty:TypeId} {fz:Nat×Nat} (hb:w.heap[b]?=some (.cells cs ty fz)) (ht:t≠ty):c≠b:=by
 rintro rfl
 rw [show w.heap[c]?=_ from h] at hb
 simp at hb
 exact ht hb.2.1
theorem VarA.funs {w:World} {f g:Value} {x:Vr} (h:VarA w (.agg #[f,g]) x):(∀ k n,f≠.int k n)∧∀ k n,g≠.int k n:=by
 obtain ⟨b1,b2,b3,A,cap,e,-⟩:=h
 cases e
 exact ⟨fun k n h=>(by cases h),fun k n h=>(by cases h)⟩
theorem VarA.form {w:World} {f g:Value} {x:Vr} (h:VarA w (.agg #[f,g]) x):∃ b1 b2 b3,f=.func (.func 196) #[] #[.pointer (some ⟨b1,0,none⟩)]∧g=.func (.func 197) #[] #[.pointer (some ⟨b2,0,none⟩),.pointer (some ⟨b3,0,none⟩)]:=by
 obtain ⟨b1,b2,b3,A,cap,e,-⟩:=h
 cases e
 exact ⟨b1,b2,b3,rfl,rfl⟩
theorem VarA.put {w:World} {v:Value} {x:Vr} (h:VarA w v x) {b:Nat} {f g:Value} (hb:w.heap[b]?=some (.cells #[f,g] 208 (0,0))) (hf:(∀ k n,f≠.int k n)∧∀ k n,g≠.int k n) (j:Nat) (u:Value):VarA (w.setCell ⟨b,j,none⟩ u) v x:=by
 obtain ⟨b1,b2,b3,A,cap,rfl,h1,h2,h3,h4,h5⟩:=h
 exact ⟨b1,b2,b3,A,cap,rfl,Boxed.other h1 (Boxed.apart h1 hb (by decide)) j u,h2.put hb hf.1 hf.2 j u,Boxed.other h3 (Boxed.apart h3 hb (by decide)) j u,Boxed.other h4 (Boxed.apart h4 hb (by decide)) j u,h5⟩
theorem VarA.store {w:World} {v:Value} {x:Vr} (h:VarA w v x) {b:Nat} {f g:Value} (hb:w.heap[b]?=some (.cells #[f,g] 208 (0,0))) (hf:(∀ k n,f≠.int k n)∧∀ k n,g≠.int k n) (f' g':Value) (hf':(∀ k n,f'≠.int k n)∧∀ k n,g'≠.int k n) :
  VarA ((w.setCell ⟨b,0,none⟩ f').setCell ⟨b,1,none⟩ g') v x:=by
 have hb1:(w.setCell ⟨b,0,none⟩ f').heap[b]?=some (.cells #[f',g] 208 (0,0)):=heap_setCell_same w b 0 _ _ f' hb
 exact (h.put hb hf 0 f').put hb1 ⟨hf'.1,hf.2⟩ 1 g'
theorem VarB.store {w:World} {c:Nat} {x:Vr} (h:VarB w c x) {b:Nat} {f g:Value} (hb:w.heap[b]?=some (.cells #[f,g] 208 (0,0))) (hf:(∀ k n,f≠.int k n)∧∀ k n,g≠.int k n) (f' g':Value) (hf':(∀ k n,f'≠.int k n)∧∀ k n,g'≠.int k n) (hne:c≠b) :
  VarB ((w.setCell ⟨b,0,none⟩ f').setCell ⟨b,1,none⟩ g') c x:=by
 obtain ⟨p,q,h1,h2⟩:=h
 exact ⟨p,q,(heap_setCell_other _ ⟨b,1,none⟩ c g' hne).trans ((heap_setCell_other _ ⟨b,0,none⟩ c f' hne).trans h1),h2.store hb hf f' g' hf'⟩
theorem VarB.put {w:World} {b:Nat} {f' g':Value} {x:Vr} (h:VarA w (.agg #[f',g']) x) {f g:Value} (hb:w.heap[b]?=some (.cells #[f,g] 208 (0,0))) (hf:(∀ k n,f≠.int k n)∧∀ k n,g≠.int k n) :
  VarB ((w.setCell ⟨b,0,none⟩ f').setCell ⟨b,1,none⟩ g') b x:=by
 have hb1:(w.setCell ⟨b,0,none⟩ f').heap[b]?=some (.cells #[f',g] 208 (0,0)):=heap_setCell_same w b 0 _ _ f' hb
 have hb2:((w.setCell ⟨b,0,none⟩ f').setCell ⟨b,1,none⟩ g').heap[b]?=some (.cells #[f',g'] 208 (0,0)):=heap_setCell_same _ b 1 _ _ g' hb1
 exact ⟨f',g',hb2,h.store hb hf f' g' h.funs⟩
theorem rowB_below {w w':World} {s:ByteArray} {b B:Nat} (h:RowB w s b) (hb:Below B w w') (hB:b<B):RowB w' s b:=fun j hj=>(hb.cell (p:=⟨b,j,none⟩) hB).trans (h j hj)
theorem rowB_other {w:World} {s:ByteArray} {b c:Nat} (h:RowB w s b) (hne:b≠c) (j:Nat) (u:Value):RowB (w.setCell ⟨c,j,none⟩ u) s b:=fun k hk=>(World.cell?_of_block (a:=⟨b,k,none⟩) (heap_setCell_other w ⟨c,j,none⟩ b u hne)).trans (h k hk)
def foldV (ex:Str) (k:Nat):Vr×Vr:=(ex.take k).foldl stepV (vr0,vr0)
theorem foldV_succ (ex:Str) (k:Nat) (h:k<ex.length):foldV ex (k+1)=stepV (foldV ex k) ex[k]:=by
 unfold foldV
 rw [List.take_succ_eq_append_getElem h,List.foldl_append]
 rfl
theorem foldV_all (ex:Str):foldV ex ex.length=varsV ex:=by
 unfold foldV varsV
 rw [List.take_length]
def RetVars (w:World) (ex:Str) (e:Ending) (w':World):Prop:=∃ f g f' g',e=.returned (.tuple #[.agg #[f,g],.agg #[f',g']])∧VarA w' (.agg #[f,g]) (varsV ex).1∧VarA w' (.agg #[f',g']) (varsV ex).2∧Below w.heap.size w w'
theorem u8_no (c:UInt8) (n:Nat) (hn:n<256) (h:c≠UInt8.ofNat n):((c.toNat:Int) == (n:Int))=false:=(u8_is c n hn _ rfl).symm.trans (decide_eq_false h)
theorem variables_any (page op:Int) (m:Str) (A:Option Addr) (na cap:Nat) (ex:Str) (hx:ex.length≤1000) (al:Bool) (w:World) :
  Calls Tryz.prog 148 #[enV page op m (.slice A na cap) ex al] w (RetVars w ex):=by
 unfold enV
 obtain ⟨s,hs⟩:∃ s,sB ex=s:=⟨_,rfl⟩
 have hz:s.size=ex.length:=by rw [← hs,sB_size]
 have hat:∀ k (h:k<s.size) (h':k<ex.length),s[k]=ex[k]:=fun k h h'=>by subst hs;exact sB_at ex k h h'
 have HAT:=Lib.hid hat
 obtain ⟨l,hl⟩:∃ l,ex.length=l:=⟨_,rfl⟩
 have HL:=Lib.hid hl
 rw [hl] at hz hx
 have hcv:=fun (w:World)=>run_bytes_of_string (P:=Tryz.prog) w 9 38 5 s Tryz.underlying9 Tryz.underlying38 Tryz.underlying5
 rw [hs]
 clear hs hat hl
 obtain ⟨w0,hw0⟩:∃ w0,((w.alloc (.cells #[.int .i64 page,.int .u8 op,.string (sB m),.slice A na cap,.string s,.bool al] 134)).alloc (.cells #[.nilFunc,.nilFunc] 208)).alloc (.cells #[.nilFunc,.nilFunc] 208)=w0:=⟨_,rfl⟩
 obtain ⟨n,hn⟩:∃ n,w.heap.size=n:=⟨_,rfl⟩
 have B0:Below n w w0:=by rw [← hw0,← hn];exact (((Below.refl _ w).alloc (Nat.le_refl _) _).alloc (by simp) _).alloc (by simp;omega) _
 have Z0:w0.heap.size=n+1+1+1:=by rw [← hw0,← hn];simp
 have c0:w0.heap[n]?=some (.cells #[.int .i64 page,.int .u8 op,.string (sB m),.slice A na cap,.string s,.bool al] 134 (0,0)):=by
  rw [← hw0,← hn]
  exact (Below.heap_alloc _ _ _ (by simp;omega)).trans ((Below.heap_alloc _ _ _ (by simp)).trans (World.alloc_heap_new w _))
 have c1:w0.heap[n+1]?=some (.cells #[.nilFunc,.nilFunc] 208 (0,0)):=by
  rw [← hw0,← hn]
  refine (Below.heap_alloc _ _ _ (by simp)).trans ?_
  have h:=World.alloc_heap_new (w.alloc (.cells #[.int .i64 page,.int .u8 op,.string (sB m),.slice A na cap,.string s,.bool al] 134)) (.cells #[.nilFunc,.nilFunc] 208)
  rwa [World.size_alloc] at h
 have c2:w0.heap[n+1+1]?=some (.cells #[.nilFunc,.nilFunc] 208 (0,0)):=by
  rw [← hw0,← hn]
  have h:=World.alloc_heap_new ((w.alloc (.cells #[.int .i64 page,.int .u8 op,.string (sB m),.slice A na cap,.string s,.bool al] 134)).alloc (.cells #[.nilFunc,.nilFunc] 208)) (.cells #[.nilFunc,.nilFunc] 208)
  rwa [World.size_alloc,World.size_alloc] at h
 obtain ⟨x1,x2,e1,e2,VA1,BB1,ZZ1⟩:=var_new w0 none 0 0 [] 0 0 rfl (by omega) (.inl rfl)
 obtain ⟨y1,y2,g1,g2,VA2,BB2,ZZ2⟩:=var_new x2 none 0 0 [] 0 0 rfl (by omega) (.inl rfl)
 have o1:=ofKinds_any none 0 0 w0
 have o2:=within_any 0 0 x1
 have o3:=ofKinds_any none 0 0 x2
 have o4:=within_any 0 0 y1
 rw [e1] at o1
 rw [e2] at o2
 rw [g1] at o3
 rw [g2] at o4
 have zx1:x1.heap.size=n+4:=by rw [← e1];simp;omega
 have zy1:y1.heap.size=n+7:=by rw [← g1];simp;omega
 have zx2:x2.heap.size=n+6:=by omega
 have B2:Below n w y2:=(B0.trans (BB1.mono (by omega))).trans (BB2.mono (by omega))
 have B3:Below (n+1+1+1) w0 y2:=(BB1.mono (by omega)).trans (BB2.mono (by omega))
 rw [zx1,Z0] at VA1
 rw [zx2,zy1] at VA2
 rw [Z0] at o1
 rw [zx1] at o2
 rw [zx2] at o3
 rw [zy1] at o4
 have VA1':=VA1.below BB2
 have zy2:y2.heap.size=n+9:=by omega
 have q1:=(B3.block (n+1) (by omega)).trans c1
 have q2:=(B3.block (n+1+1) (by omega)).trans c2
 have q0:=(B3.block n (by omega)).trans c0
 have nf:(∀ k n,Value.nilFunc≠.int k n)∧∀ k n,Value.nilFunc≠.int k n:=⟨fun k n h=>(by cases h),fun k n h=>(by cases h)⟩
 have QQ:Hid (y2.heap[n+1]?=some (.cells #[.nilFunc,.nilFunc] 208 (0,0))∧y2.heap[n+1+1]?=some (.cells #[.nilFunc,.nilFunc] 208 (0,0))∧y2.heap[n]?=some (.cells #[.int .i64 page,.int .u8 op,.string (sB m),.slice A na cap,.string s,.bool al] 134 (0,0))∧Below n w y2):=⟨q1,q2,q0,B2⟩
 have VV1:=Lib.hid VA1'
 have VV2:=Lib.hid VA2
 have HN:=Lib.hid hn
 have N0:=Lib.hid nf
 have hw0':=Lib.hid hw0
 clear e1 e2 g1 g2 VA1 BB1 ZZ1 BB2 ZZ2 VA1' VA2 B3 B2 q1 q2 q0 nf B0 c0 c1 c2 zx1 zy1 zx2 hn
 go_enter Tryz.func148,Tryz.ntmps148
 go_upto_region 1 with fail
 clear hw0' hw0
 go_wp2_with fail
 refine o1.mono ?_
 rintro e w1 ⟨rfl,rfl⟩
 clear o1
 go_wp2_with fail
 refine o2.mono ?_
 rintro e w1 ⟨rfl,rfl⟩
 clear o2
 go_wp2_with fail
 refine o3.mono ?_
 rintro e w1 ⟨rfl,rfl⟩
 clear o3
 go_wp2_with fail
 refine o4.mono ?_
 rintro e w1 ⟨rfl,rfl⟩
 clear o4
 rw [HN.out]
 have fr1:=Lib.frozen_of_heap QQ.out.1
 have fr2:=Lib.frozen_of_heap QQ.out.2.1
 have pc0:=Lib.cell_of_heap QQ.out.1 0
 have pc1:=Lib.cell_of_heap QQ.out.1 1
 have pc2:=Lib.cell_of_heap QQ.out.2.1 0
 have pc3:=Lib.cell_of_heap QQ.out.2.1 1
 go_upto_region 2 with fail
 obtain ⟨w5,hw5,V5,C5,B5,Z5⟩:∃ w5,(((y2.setCell ⟨n+1,0,none⟩ (.func (.func 196) #[] #[.pointer (some ⟨n+1+1+1,0,none⟩)])).setCell ⟨n+1,1,none⟩ (.func (.func 197) #[] #[.pointer (some ⟨n+4,0,none⟩),.pointer (some ⟨n+4+1,0,none⟩)])).setCell ⟨n+1+1,0,none⟩ (.func (.func 196) #[] #[.pointer (some ⟨n+6,0,none⟩)])).setCell ⟨n+1+1,1,none⟩ (.func (.func 197) #[] #[.pointer (some ⟨n+7,0,none⟩),.pointer (some ⟨n+7+1,0,none⟩)])=w5∧
   (VarB w5 (n+1) vr0∧VarB w5 (n+1+1) vr0)∧w5.heap[n]?=some (.cells #[.int .i64 page,.int .u8 op,.string (sB m),.slice A na cap,.string s,.bool al] 134 (0,0))∧Below n w w5∧w5.heap.size=n+9:=by
  obtain ⟨q1,q2,q0,q3⟩:=QQ.out
  have a1:VarB _ (n+1) vr0:=VarB.put VV1.out q1 N0.out
  have r2:((y2.setCell ⟨n+1,0,none⟩ (.func (.func 196) #[] #[.pointer (some ⟨n+1+1+1,0,none⟩)])).setCell ⟨n+1,1,none⟩ (.func (.func 197) #[] #[.pointer (some ⟨n+4,0,none⟩),.pointer (some ⟨n+4+1,0,none⟩)])).heap[n+1+1]?=some (.cells #[.nilFunc,.nilFunc] 208 (0,0)):=(heap_setCell_other _ ⟨n+1,1,none⟩ _ _ (by simp)).trans ((heap_setCell_other _ ⟨n+1,0,none⟩ _ _ (by simp)).trans q2)
  have a2:=VV2.out.store q1 N0.out _ _ VV1.out.funs
  refine ⟨_,rfl,⟨a1.store r2 N0.out _ _ VV2.out.funs (by omega),VarB.put a2 r2 N0.out⟩,?_,?_,by simp;exact zy2⟩
  ·exact (heap_setCell_other _ ⟨n+1+1,1,none⟩ _ _ (by simp;omega)).trans ((heap_setCell_other _ ⟨n+1+1,0,none⟩ _ _ (by simp;omega)).trans ((heap_setCell_other _ ⟨n+1,1,none⟩ _ _ (by simp)).trans ((heap_setCell_other _ ⟨n+1,0,none⟩ _ _ (by simp)).trans q0)))
  ·exact (((q3.setCell (p:=⟨n+1,0,none⟩) (by simp) _).setCell (p:=⟨n+1,1,none⟩) (by simp) _).setCell (p:=⟨n+1+1,0,none⟩) (by simp;omega) _).setCell (p:=⟨n+1+1,1,none⟩) (by simp;omega) _
 rw [hw5]
 have k4:=Lib.cell_of_heap C5 4
 have S:=Lib.hid (rowB_start w5 s (grownCap w5 s.size 0 5) 5)
 have bz:Below w5.heap.size w5 (w5.alloc (.cells (bytesRow s (grownCap w5 s.size 0 5)) 5 ((bytesRow s (grownCap w5 s.size 0 5)).size,(bytesRow s (grownCap w5 s.size 0 5)).size+1))).drew:=((Below.refl _ _).alloc (Nat.le_refl _) _).drew
 have V6:=Lib.hid (And.intro (V5.1.below bz) (V5.2.below bz))
 have B6:=Lib.hid (B5.trans (bz.mono (by omega)))
 have Z6:Hid (n+10≤(w5.alloc (.cells (bytesRow s (grownCap w5 s.size 0 5)) 5 ((bytesRow s (grownCap w5 s.size 0 5)).size,(bytesRow s (grownCap w5 s.size 0 5)).size+1))).drew.heap.size):=by show _≤_;simp;omega
 rw [Z5] at S
 rw [hz] at S V6 B6 Z6
 clear V5 C5 B5 hw5 bz fr1 fr2 pc0 pc1 pc2 pc3 QQ VV1 VV2 zy2
 go_wp2
 clear hcv Z5
 go_loopw [16] (fun i wr=>∃ k:Nat,k≤l∧i=.int .i64 k∧Hid (RowB wr s (n+9))∧Hid (VarB wr (n+1) (foldV ex k).1∧VarB wr (n+1+1) (foldV ex k).2)∧Hid (Below n w wr)∧Hid (n+10≤wr.heap.size)) (fun i _=>l - (intOf i).toNat)
 case atStart=>exact ⟨0,Nat.zero_le _,rfl,S.out,V6.out,B6.out,Z6.out⟩
 case round=>
  clear S V6 B6 Z6
  obtain ⟨k,hk,rfl,R,V,B,Z9⟩:=hrel
  by_cases hlt:k<l
  ·have hlt':k<s.size:=by omega
   have hlt2:k<ex.length:=by rw [HL.out];exact hlt
   have g1:wr.cell? ⟨n+9,k,none⟩=some (.int .u8 (s[k].toNat:Int)):=R.out k hlt'
   rw [HAT.out k hlt' hlt2] at g1
   have SS:=foldV_succ ex k hlt2
   obtain ⟨c,hc⟩:∃ c,ex[k]=c:=⟨_,rfl⟩
   rw [hc] at g1 SS
   have SS:=Lib.hid SS
   clear hc
   have hk1:k≤1000:=by omega
   by_cases h100:c=100
   ·subst h100
    have ST:Hid (foldV ex (k+1)=((([5],-128,127):Vr),(foldV ex k).2)):=by
     show foldV ex (k+1)=_
     rw [SS.out]
     unfold stepV
     rfl
    have V:=V.out
    obtain ⟨f,g,bx,va⟩:=V.1
    have ot:=V.2
    clear V
    have fu:=va.funs
    obtain ⟨z,hz9⟩:∃ z,wr.heap.size=z:=⟨_,rfl⟩
    obtain ⟨w6,hw6⟩:∃ w6,wr.alloc (.cells #[.int .i64 5] 3)=w6:=⟨_,rfl⟩
    have ba:Below wr.heap.size wr w6:=by rw [← hw6];exact (Below.refl _ _).alloc (Nat.le_refl _) _
    have hks:KsP w6 (some ⟨z,0,none⟩) [5]:=by rw [← hw6,← hz9];exact ks_new wr [5] _ rfl _
    have z6:w6.heap.size=z+1:=by rw [← hw6,← hz9];simp
    obtain ⟨x1,x2,e1,e2,VN,BN,ZN⟩:=var_new w6 (some ⟨z,0,none⟩) 1 1 [5] (-128) (127) rfl (by omega) hks
    have o1:=ofKinds_any (some ⟨z,0,none⟩) 1 1 w6
    have o2:=within_any (-128) (127) x1
    rw [e1] at o1
    rw [e2] at o2
    have zx1:x1.heap.size=z+2:=by rw [← e1];simp;omega
    rw [z6] at o1
    rw [zx1] at o2
    rw [z6,zx1] at VN
    have bn:Below z wr x2:=by rw [← hz9];exact ba.trans (BN.mono ba.size)
    have bn':Below wr.heap.size wr x2:=by rw [hz9];exact bn
    have lt1:n+1<z:=by rw [← hz9];exact (Array.getElem?_eq_some_iff.1 bx).1
    have BOX:Hid (x2.heap[n+1]?=some (.cells #[f,g] 208 (0,0))):=(bn.block _ lt1).trans bx
    have VOT:=Lib.hid (ot.below bn')
    have FUN:=Lib.hid fu
    have VN:=Lib.hid VN
    have nz:n≤z:=by omega
    have BX:Hid (Below n w x2):=B.out.trans (bn.mono nz)
    have RX:Hid (RowB x2 s (n+9)):=rowB_below R.out bn' (by rw [hz9];have:=Z9.out;rw [hz9] at this;omega)
    have ZX:Hid (n+10≤x2.heap.size):=by have h1:=bn'.size;have h2:=Z9.out;show _≤_;omega
    clear bx va ot fu BN ZN ba bn bn' hks e1 e2 R B V
    go_wp2_with fail
    refine o1.mono ?_
    rintro e w1 ⟨rfl,rfl⟩
    clear o1
    go_wp2_with fail
    refine o2.mono ?_
    rintro e w1 ⟨rfl,rfl⟩
    clear o2
    have fr:=Lib.frozen_of_heap BOX.out
    have bc0:=Lib.cell_of_heap BOX.out 0
    have bc1:=Lib.cell_of_heap BOX.out 1
    go_wp2
    go_roundw
    case rel=>
     refine ⟨k+1,by omega,by go_num,rowB_other (rowB_other RX.out (by omega) _ _) (by omega) _ _,?_,(BX.out.setCell (p:=⟨n+1,0,none⟩) (show n≤n+1 by omega) _).setCell (p:=⟨n+1,1,none⟩) (show n≤n+1 by omega) _,by show n+10≤_;simpa using ZX.out⟩
     rw [ST.out]
     exact ⟨VarB.put VN.out (BOX).out FUN.out,VOT.out.store BOX.out FUN.out _ _ VN.out.funs (by omega)⟩
    case measure=>simp [intOf];omega
   by_cases h101:c=101
   ·subst h101
    have ST:Hid (foldV ex (k+1)=((foldV ex k).1,(([10],-128,127):Vr))):=by
     show foldV ex (k+1)=_
     rw [SS.out]
     unfold stepV
     rw [if_neg (by decide)]
     rfl
    have V:=V.out
    obtain ⟨f,g,bx,va⟩:=V.2
    have ot:=V.1
    clear V
    have fu:=va.funs
    obtain ⟨z,hz9⟩:∃ z,wr.heap.size=z:=⟨_,rfl⟩
    obtain ⟨w6,hw6⟩:∃ w6,wr.alloc (.cells #[.int .i64 10] 3)=w6:=⟨_,rfl⟩
    have ba:Below wr.heap.size wr w6:=by rw [← hw6];exact (Below.refl _ _).alloc (Nat.le_refl _) _
    have hks:KsP w6 (some ⟨z,0,none⟩) [10]:=by rw [← hw6,← hz9];exact ks_new wr [10] _ rfl _
    have z6:w6.heap.size=z+1:=by rw [← hw6,← hz9];simp
    obtain ⟨x1,x2,e1,e2,VN,BN,ZN⟩:=var_new w6 (some ⟨z,0,none⟩) 1 1 [10] (-128) (127) rfl (by omega) hks
    have o1:=ofKinds_any (some ⟨z,0,none⟩) 1 1 w6
    have o2:=within_any (-128) (127) x1
    rw [e1] at o1
    rw [e2] at o2
    have zx1:x1.heap.size=z+2:=by rw [← e1];simp;omega
    rw [z6] at o1
    rw [zx1] at o2
    rw [z6,zx1] at VN
    have bn:Below z wr x2:=by rw [← hz9];exact ba.trans (BN.mono ba.size)
    have bn':Below wr.heap.size wr x2:=by rw [hz9];exact bn
    have lt1:n+1+1<z:=by rw [← hz9];exact (Array.getElem?_eq_some_iff.1 bx).1
    have BOX:Hid (x2.heap[n+1+1]?=some (.cells #[f,g] 208 (0,0))):=(bn.block _ lt1).trans bx
    have VOT:=Lib.hid (ot.below bn')
    have FUN:=Lib.hid fu
    have VN:=Lib.hid VN
    have nz:n≤z:=by omega
    have BX:Hid (Below n w x2):=B.out.trans (bn.mono nz)
    have RX:Hid (RowB x2 s (n+9)):=rowB_below R.out bn' (by rw [hz9];have:=Z9.out;rw [hz9] at this;omega)
    have ZX:Hid (n+10≤x2.heap.size):=by have h1:=bn'.size;have h2:=Z9.out;show _≤_;omega
    clear bx va ot fu BN ZN ba bn bn' hks e1 e2 R B V
    go_wp2_with fail
    refine o1.mono ?_
    rintro e w1 ⟨rfl,rfl⟩
    clear o1
    go_wp2_with fail
    refine o2.mono ?_
    rintro e w1 ⟨rfl,rfl⟩
    clear o2
    have fr:=Lib.frozen_of_heap BOX.out
    have bc0:=Lib.cell_of_heap BOX.out 0
    have bc1:=Lib.cell_of_heap BOX.out 1
    go_wp2
    go_roundw
    case rel=>
     refine ⟨k+1,by omega,by go_num,rowB_other (rowB_other RX.out (by omega) _ _) (by omega) _ _,?_,(BX.out.setCell (p:=⟨n+1+1,0,none⟩) (show n≤n+1+1 by omega) _).setCell (p:=⟨n+1+1,1,none⟩) (show n≤n+1+1 by omega) _,by show n+10≤_;simpa using ZX.out⟩
     rw [ST.out]
     exact ⟨VOT.out.store BOX.out FUN.out _ _ VN.out.funs (by omega),VarB.put VN.out (BOX).out FUN.out⟩
    case measure=>simp [intOf];omega
   by_cases h110:c=110
   ·subst h110
    have ST:Hid (foldV ex (k+1)=((foldV ex k).1,(([6,7],0,255):Vr))):=by
     show foldV ex (k+1)=_
     rw [SS.out]
     unfold stepV
     rw [if_neg (by decide)]
     rw [if_neg (by decide)]
     rfl
    have V:=V.out
    obtain ⟨f,g,bx,va⟩:=V.2
    have ot:=V.1
    clear V
    have fu:=va.funs
    obtain ⟨z,hz9⟩:∃ z,wr.heap.size=z:=⟨_,rfl⟩
    obtain ⟨w6,hw6⟩:∃ w6,wr.alloc (.cells #[.int .i64 6,.int .i64 7] 3)=w6:=⟨_,rfl⟩
    have ba:Below wr.heap.size wr w6:=by rw [← hw6];exact (Below.refl _ _).alloc (Nat.le_refl _) _
    have hks:KsP w6 (some ⟨z,0,none⟩) [6,7]:=by rw [← hw6,← hz9];exact ks_new wr [6,7] _ rfl _
    have z6:w6.heap.size=z+1:=by rw [← hw6,← hz9];simp
    obtain ⟨x1,x2,e1,e2,VN,BN,ZN⟩:=var_new w6 (some ⟨z,0,none⟩) 2 2 [6,7] (0) (255) rfl (by omega) hks
    have o1:=ofKinds_any (some ⟨z,0,none⟩) 2 2 w6
    have o2:=within_any (0) (255) x1
    rw [e1] at o1
    rw [e2] at o2
    have zx1:x1.heap.size=z+2:=by rw [← e1];simp;omega
    rw [z6] at o1
    rw [zx1] at o2
    rw [z6,zx1] at VN
    have bn:Below z wr x2:=by rw [← hz9];exact ba.trans (BN.mono ba.size)
    have bn':Below wr.heap.size wr x2:=by rw [hz9];exact bn
    have lt1:n+1+1<z:=by rw [← hz9];exact (Array.getElem?_eq_some_iff.1 bx).1
    have BOX:Hid (x2.heap[n+1+1]?=some (.cells #[f,g] 208 (0,0))):=(bn.block _ lt1).trans bx
    have VOT:=Lib.hid (ot.below bn')
    have FUN:=Lib.hid fu
    have VN:=Lib.hid VN
    have nz:n≤z:=by omega
    have BX:Hid (Below n w x2):=B.out.trans (bn.mono nz)
    have RX:Hid (RowB x2 s (n+9)):=rowB_below R.out bn' (by rw [hz9];have:=Z9.out;rw [hz9] at this;omega)
    have ZX:Hid (n+10≤x2.heap.size):=by have h1:=bn'.size;have h2:=Z9.out;show _≤_;omega
    clear bx va ot fu BN ZN ba bn bn' hks e1 e2 R B V
    go_wp2_with fail
    refine o1.mono ?_
    rintro e w1 ⟨rfl,rfl⟩
    clear o1
    go_wp2_with fail
    refine o2.mono ?_
    rintro e w1 ⟨rfl,rfl⟩
    clear o2
    have fr:=Lib.frozen_of_heap BOX.out
    have bc0:=Lib.cell_of_heap BOX.out 0
    have bc1:=Lib.cell_of_heap BOX.out 1
    go_wp2
    go_roundw
    case rel=>
     refine ⟨k+1,by omega,by go_num,rowB_other (rowB_other RX.out (by omega) _ _) (by omega) _ _,?_,(BX.out.setCell (p:=⟨n+1+1,0,none⟩) (show n≤n+1+1 by omega) _).setCell (p:=⟨n+1+1,1,none⟩) (show n≤n+1+1 by omega) _,by show n+10≤_;simpa using ZX.out⟩
     rw [ST.out]
     exact ⟨VOT.out.store BOX.out FUN.out _ _ VN.out.funs (by omega),VarB.put VN.out (BOX).out FUN.out⟩
    case measure=>simp [intOf];omega
   by_cases h119:c=119
   ·subst h119
    have ST:Hid (foldV ex (k+1)=((foldV ex k).1,(([6,7],0,65535):Vr))):=by
     show foldV ex (k+1)=_
     rw [SS.out]
     unfold stepV
     rw [if_neg (by decide)]
     rw [if_neg (by decide)]
     rw [if_neg (by decide)]
     rfl
    have V:=V.out
    obtain ⟨f,g,bx,va⟩:=V.2
    have ot:=V.1
    clear V
    have fu:=va.funs
    obtain ⟨z,hz9⟩:∃ z,wr.heap.size=z:=⟨_,rfl⟩
    obtain ⟨w6,hw6⟩:∃ w6,wr.alloc (.cells #[.int .i64 6,.int .i64 7] 3)=w6:=⟨_,rfl⟩
    have ba:Below wr.heap.size wr w6:=by rw [← hw6];exact (Below.refl _ _).alloc (Nat.le_refl _) _
    have hks:KsP w6 (some ⟨z,0,none⟩) [6,7]:=by rw [← hw6,← hz9];exact ks_new wr [6,7] _ rfl _
    have z6:w6.heap.size=z+1:=by rw [← hw6,← hz9];simp
    obtain ⟨x1,x2,e1,e2,VN,BN,ZN⟩:=var_new w6 (some ⟨z,0,none⟩) 2 2 [6,7] (0) (65535) rfl (by omega) hks
    have o1:=ofKinds_any (some ⟨z,0,none⟩) 2 2 w6
    have o2:=within_any (0) (65535) x1
    rw [e1] at o1
    rw [e2] at o2
    have zx1:x1.heap.size=z+2:=by rw [← e1];simp;omega
    rw [z6] at o1
    rw [zx1] at o2
    rw [z6,zx1] at VN
    have bn:Below z wr x2:=by rw [← hz9];exact ba.trans (BN.mono ba.size)
    have bn':Below wr.heap.size wr x2:=by rw [hz9];exact bn
    have lt1:n+1+1<z:=by rw [← hz9];exact (Array.getElem?_eq_some_iff.1 bx).1
    have BOX:Hid (x2.heap[n+1+1]?=some (.cells #[f,g] 208 (0,0))):=(bn.block _ lt1).trans bx
    have VOT:=Lib.hid (ot.below bn')
    have FUN:=Lib.hid fu
    have VN:=Lib.hid VN
    have nz:n≤z:=by omega
    have BX:Hid (Below n w x2):=B.out.trans (bn.mono nz)
    have RX:Hid (RowB x2 s (n+9)):=rowB_below R.out bn' (by rw [hz9];have:=Z9.out;rw [hz9] at this;omega)
    have ZX:Hid (n+10≤x2.heap.size):=by have h1:=bn'.size;have h2:=Z9.out;show _≤_;omega
    clear bx va ot fu BN ZN ba bn bn' hks e1 e2 R B V
    go_wp2_with fail
    refine o1.mono ?_
    rintro e w1 ⟨rfl,rfl⟩
    clear o1
    go_wp2_with fail
    refine o2.mono ?_
    rintro e w1 ⟨rfl,rfl⟩
    clear o2
    have fr:=Lib.frozen_of_heap BOX.out
    have bc0:=Lib.cell_of_heap BOX.out 0
    have bc1:=Lib.cell_of_heap BOX.out 1
    go_wp2
    go_roundw
    case rel=>
     refine ⟨k+1,by omega,by go_num,rowB_other (rowB_other RX.out (by omega) _ _) (by omega) _ _,?_,(BX.out.setCell (p:=⟨n+1+1,0,none⟩) (show n≤n+1+1 by omega) _).setCell (p:=⟨n+1+1,1,none⟩) (show n≤n+1+1 by omega) _,by show n+10≤_;simpa using ZX.out⟩
     rw [ST.out]
     exact ⟨VOT.out.store BOX.out FUN.out _ _ VN.out.funs (by omega),VarB.put VN.out (BOX).out FUN.out⟩
    case measure=>simp [intOf];omega
   have a1:=u8_no c 100 (by decide) h100
   have a2:=u8_no c 101 (by decide) h101
   have a3:=u8_no c 110 (by decide) h110
   have a4:=u8_no c 119 (by decide) h119
   have ST:Hid (foldV ex (k+1)=foldV ex k):=by
    show foldV ex (k+1)=_
    rw [SS.out]
    unfold stepV
    rw [if_neg h100,if_neg h101,if_neg h110,if_neg h119]
   clear h100 h101 h110 h119
   go_wp2
   go_roundw
   case rel=>exact ⟨k+1,by omega,by go_num,R.out,by rw [ST.out];exact V.out,B.out,Z9.out⟩
   case measure=>simp [intOf];omega
  ·obtain rfl:k=l:=by omega
   have FE:Hid (foldV ex k=varsV ex):=by show foldV ex k=_;rw [← HL.out];exact foldV_all ex
   have V:=V.out
   rw [FE.out] at V
   obtain ⟨⟨f,g,bx,va⟩,f',g',bx',va'⟩:=V
   obtain ⟨p1,p2,p3,hf,hg⟩:=va.form
   obtain ⟨p4,p5,p6,hf',hg'⟩:=va'.form
   have fu:=Lib.hid va.funs
   have fu':=Lib.hid va'.funs
   have C0:=Lib.hid (And.intro bx bx')
   have hd:=below_drewN wr wr.heap.size 1
   have D1:=Lib.hid ((hd.block _ (Array.getElem?_eq_some_iff.1 bx).1).trans bx)
   have D2:=Lib.hid ((hd.block _ (Array.getElem?_eq_some_iff.1 bx').1).trans bx')
   have A1:=Lib.hid (va.below hd)
   have A2:=Lib.hid (va'.below hd)
   have BD:Hid (Below n w wr.drew):=B.out.drew
   have hnl:n≤wr.heap.size:=by have:=Z9.out;omega
   clear R V B bx bx' va va' hd Z9
   go_upto_region 15 with fail
   obtain ⟨w3,hw3⟩:∃ w3,wr.drew=w3:=⟨_,rfl⟩
   have hw3':wr.drewN 1=w3:=hw3
   rw [hw3'] at D1 D2 A1 A2
   rw [hw3] at BD
   refine Mixed.wp_region_mixed (fun w'=>w'.heap[n+1]?=some (.cells #[f,g] 208 (0,0))∧w'.heap[n+1+1]?=some (.cells #[f',g'] 208 (0,0))) 3 [(0,true),(1,true),(2,false)] (by kernel_rfl) (by kernel_rfl) (by rw [hw3];exact ⟨D1.out,D2.out⟩) ?_
   rw [hw3]
   refine Mixed.wpMix_pure rfl (by kernel_rfl) (.agg #[f,g]) (fun w h=>by
    obtain ⟨h1,h2⟩:=h
    have k0:=Lib.cell_of_heap h1 0
    have k1:=Lib.cell_of_heap h1 1
    go_simp;try rfl) ?_
   refine Mixed.wpMix_pure rfl (by kernel_rfl) (.agg #[f',g']) (fun w h=>by
    obtain ⟨h1,h2⟩:=h
    have k0:=Lib.cell_of_heap h2 0
    have k1:=Lib.cell_of_heap h2 1
    go_simp;try rfl) ?_
   have c1:=Lib.cell_of_heap D1.out 0
   have c2:=Lib.cell_of_heap D1.out 1
   have f1:=Lib.frozen_of_heap D1.out
   have k1:((w3.setCell ⟨n+1,0,none⟩ f).setCell ⟨n+1,1,none⟩ g).heap[n+1]?=some (.cells #[f,g] 208 (0,0)):=heap_setCell_same _ (n+1) 1 _ _ g (heap_setCell_same w3 (n+1) 0 _ _ f D1.out)
   have k2:((w3.setCell ⟨n+1,0,none⟩ f).setCell ⟨n+1,1,none⟩ g).heap[n+1+1]?=some (.cells #[f',g'] 208 (0,0)):=(heap_setCell_other _ ⟨n+1,1,none⟩ _ _ (by simp)).trans ((heap_setCell_other _ ⟨n+1,0,none⟩ _ _ (by simp)).trans D2.out)
   have E1:=Lib.hid (A1.out.store D1.out fu.out f g fu.out)
   have E2:=Lib.hid (A2.out.store D1.out fu.out f g fu.out)
   have B7:Hid (Below n w ((w3.setCell ⟨n+1,0,none⟩ f).setCell ⟨n+1,1,none⟩ g)):=(BD.out.setCell (p:=⟨n+1,0,none⟩) (show n≤n+1 by omega) _).setCell (p:=⟨n+1,1,none⟩) (show n≤n+1 by omega) _
   have K1:=Lib.hid k1
   have K2:=Lib.hid k2
   clear k1 k2 D1 D2 A1 A2 BD hw3 hw3'
   refine Mixed.wpMix_loudG rfl (by kernel_rfl) ?_
   subst hf hg
   go_wp2
   obtain ⟨w4,hw4⟩:∃ w4,(w3.setCell ⟨n+1,0,none⟩ (.func (.func 196) #[] #[.pointer (some ⟨p1,0,none⟩)])).setCell ⟨n+1,1,none⟩ (.func (.func 197) #[] #[.pointer (some ⟨p2,0,none⟩),.pointer (some ⟨p3,0,none⟩)])=w4:=⟨_,rfl⟩
   rw [hw4] at K1 K2 E1 E2 B7 ⊢
   refine ⟨⟨K1.out,K2.out⟩,?_⟩
   clear c1 c2 f1
   have c1:=Lib.cell_of_heap K2.out 0
   have c2:=Lib.cell_of_heap K2.out 1
   have f1:=Lib.frozen_of_heap K2.out
   have k2:((w4.setCell ⟨n+1+1,0,none⟩ f').setCell ⟨n+1+1,1,none⟩ g').heap[n+1+1]?=some (.cells #[f',g'] 208 (0,0)):=heap_setCell_same _ (n+1+1) 1 _ _ g' (heap_setCell_same w4 (n+1+1) 0 _ _ f' K2.out)
   have k1:((w4.setCell ⟨n+1+1,0,none⟩ f').setCell ⟨n+1+1,1,none⟩ g').heap[n+1]?=some (.cells #[.func (.func 196) #[] #[.pointer (some ⟨p1,0,none⟩)],.func (.func 197) #[] #[.pointer (some ⟨p2,0,none⟩),.pointer (some ⟨p3,0,none⟩)]] 208 (0,0)):=(heap_setCell_other _ ⟨n+1+1,1,none⟩ _ _ (by simp)).trans ((heap_setCell_other _ ⟨n+1+1,0,none⟩ _ _ (by simp)).trans K1.out)
   have E3:=Lib.hid (E1.out.store K2.out fu'.out f' g' fu'.out)
   have E4:=Lib.hid (E2.out.store K2.out fu'.out f' g' fu'.out)
   have B8:Hid (Below n w ((w4.setCell ⟨n+1+1,0,none⟩ f').setCell ⟨n+1+1,1,none⟩ g')):=(B7.out.setCell (p:=⟨n+1+1,0,none⟩) (show n≤n+1+1 by omega) _).setCell (p:=⟨n+1+1,1,none⟩) (show n≤n+1+1 by omega) _
   have L1:=Lib.hid k1
   have L2:=Lib.hid k2
   clear k1 k2 K1 K2 E1 E2 B7 hw4
   simp only [Mixed.wpMix,List.drop_succ_cons,List.drop_zero]
   subst hf' hg'
   go_wp2
   obtain ⟨w5,hw5⟩:∃ w5,(w4.setCell ⟨n+1+1,0,none⟩ (.func (.func 196) #[] #[.pointer (some ⟨p4,0,none⟩)])).setCell ⟨n+1+1,1,none⟩ (.func (.func 197) #[] #[.pointer (some ⟨p5,0,none⟩),.pointer (some ⟨p6,0,none⟩)])=w5:=⟨_,rfl⟩
   rw [hw5] at L1 L2 E3 E4 B8 ⊢
   clear c1 c2 f1 hw5
   have c1:=Lib.cell_of_heap L1.out 0
   have c2:=Lib.cell_of_heap L1.out 1
   have c3:=Lib.cell_of_heap L2.out 0
   have c4:=Lib.cell_of_heap L2.out 1
   refine bodyPost_ret (v:=.tuple #[.agg #[.func (.func 196) #[] #[.pointer (some ⟨p1,0,none⟩)],.func (.func 197) #[] #[.pointer (some ⟨p2,0,none⟩),.pointer (some ⟨p3,0,none⟩)]],.agg #[.func (.func 196) #[] #[.pointer (some ⟨p4,0,none⟩)],.func (.func 197) #[] #[.pointer (some ⟨p5,0,none⟩),.pointer (some ⟨p6,0,none⟩)]]]) ?_ rfl ?_
   ·simp [results,Tryz.results148,go_sem,c1,c2,c3,c4]
   ·exact ⟨_,_,_,_,rfl,E3.out,E4.out,by rw [HN.out];exact B8.out⟩
end Go.Proofs.YtajlleeonddinaaGreatDoor
namespace Go.Proofs.YtajlleeonddinaaGreatDoor
open Go.RowKit
attribute [local go_sem] Oper.semAt_some
theorem atI_none {ks:List Int} {L:List Tr} (h:atV ks L=none):atI ks L=-1:=by unfold atI;rw [h]
theorem atI_some {ks:List Int} {L:List Tr} {k:Nat} (h:atV ks L=some k):atI ks L=(k:Int):=by unfold atI;rw [h]
theorem getD_at {L:List Tr} {k:Nat} (h:k<L.length):L.getD k tr0=L[k]:=by rw [List.getD_eq_getElem?_getD,List.getElem?_eq_getElem h];rfl
theorem vnum_any (x:Vr) (v:Value) (s:ByteArray) (A:Option Addr) (cap l:Nat) (L:List Tr) (hl:L.length=l) (hL:l≤1000) (w:World) (hv:VarA w v x) (H:OpsP w A L) :
  Calls Tryz.prog 150 #[v,.agg #[.string s,.slice A l cap]] w fun e w'=>e=.returned (.int .i64 (numV x.1 L))∧Below w.heap.size w w':=by
 have hv':=hv
 obtain ⟨b1,b2,b3,Ak,ck,rfl,-⟩:=hv'
 obtain ⟨w0,hw0⟩:∃ w0,(w.alloc (.cells #[.func (.func 196) #[] #[.pointer (some ⟨b1,0,none⟩)],.func (.func 197) #[] #[.pointer (some ⟨b2,0,none⟩),.pointer (some ⟨b3,0,none⟩)]] 208)).alloc (.cells #[.string s,.slice A l cap] 24)=w0:=⟨_,rfl⟩
 obtain ⟨n,hn⟩:∃ n,w.heap.size=n:=⟨_,rfl⟩
 have b0:Below n w w0:=by rw [← hw0,← hn];exact ((Below.refl _ w).alloc (Nat.le_refl _) _).alloc (by simp) _
 have z0:w0.heap.size=n+1+1:=by rw [← hw0,← hn];simp
 have c0:w0.heap[n]?=some (.cells #[.func (.func 196) #[] #[.pointer (some ⟨b1,0,none⟩)],.func (.func 197) #[] #[.pointer (some ⟨b2,0,none⟩),.pointer (some ⟨b3,0,none⟩)]] 208 (0,0)):=by
  rw [← hw0,← hn]
  exact (Below.heap_alloc _ _ _ (by simp)).trans (World.alloc_heap_new w _)
 have c1:w0.heap[n+1]?=some (.cells #[.string s,.slice A l cap] 24 (0,0)):=by
  rw [← hw0,← hn]
  have h:=World.alloc_heap_new (w.alloc (.cells #[.func (.func 196) #[] #[.pointer (some ⟨b1,0,none⟩)],.func (.func 197) #[] #[.pointer (some ⟨b2,0,none⟩),.pointer (some ⟨b3,0,none⟩)]] 208)) (.cells #[.string s,.slice A l cap] 24)
  rwa [World.size_alloc] at h
 have AT:=Lib.hid (vat_any x _ s A cap l L hl hL w0 (hv.below (by rw [hn];exact b0)) (H.below (by rw [hn];exact b0)))
 have HN:=Lib.hid hn
 have B0:=Lib.hid b0
 have C1:=Lib.hid c1
 have HH:=Lib.hid H
 have j0:=Lib.cell_of_heap c0 0
 have j1:=Lib.cell_of_heap c0 1
 have j2:=Lib.cell_of_heap c1 0
 have j3:=Lib.cell_of_heap c1 1
 clear H hv b0 c0 c1
 cases e:atV x.1 L with
 | none=>
  have NV:Hid (numV x.1 L=0):=by show numV x.1 L=0;unfold numV;rw [e]
  rw [atI_none e] at AT
  clear e
  go_enter Tryz.func150,Tryz.ntmps150
  go_wp2_with fail
  refine AT.out.mono ?_
  rintro e w1 ⟨rfl,hb⟩
  have B1:Hid (Below n w w1):=B0.out.trans (hb.mono (by omega))
  clear hb AT j0 j1 j2 j3
  go_wp2
  go_ret
  exact ⟨by rw [NV.out];rfl,by rw [HN.out];exact B1.out⟩
 | some k=>
  have hk:=atV_lt e
  have hkl:k<l:=by omega
  have NV:Hid (numV x.1 L=L[k].2.2):=by show numV x.1 L=_;unfold numV;rw [e];simp only;rw [getD_at hk]
  rw [atI_some e] at AT
  obtain ⟨b,off,rfl,hb,p0,p1,p2⟩:=(HH.out.below (by rw [hn];exact B0.out)).at_ hk
  have P2:=Lib.hid p2
  have HB:=Lib.hid hb
  have hkc:(k:Int)<(l:Int):=by omega
  clear e p0 p1 p2 hb
  go_enter Tryz.func150,Tryz.ntmps150
  go_wp2_with fail
  refine AT.out.mono ?_
  rintro e w1 ⟨rfl,hb⟩
  have B1:Hid (Below n w w1):=B0.out.trans (hb.mono (by omega))
  have c1:=(hb.block (n+1) (by omega)).trans C1.out
  have k1:=Lib.cell_of_heap c1 1
  have p2:=(hb.cell (p:=⟨b,off+k*3+2,none⟩) HB.out).trans P2.out
  obtain ⟨y,hy⟩:∃ y,L[k].2.2=y:=⟨_,rfl⟩
  rw [hy] at p2 NV
  clear hb AT c1 hy j0 j1 j2 j3
  go_wp2
  go_ret
  exact ⟨by rw [NV.out];rfl,by rw [HN.out];exact B1.out⟩
theorem own_setN {w:World} {B g cap l:Nat} {L:List Tr} (h:OwnT w B (.slice (some ⟨g,0,none⟩) l cap) L) (hl:L.length=l) (k:Nat) (hk:k<L.length) (n:Int):OwnT (w.setCell ⟨g,k*3+2,none⟩ (.int .i64 n)) B (.slice (some ⟨g,0,none⟩) l cap) (setN L k n):=by
 refine h.put hl (by unfold setN;rw [List.length_set];exact hl) (k*3+2) _ ?_
 unfold setN
 rw [getD_at hk]
 exact (cells_set L k _ _ n hk rfl rfl).symm
theorem varA_row {w:World} {v:Value} {x:Vr} (h:VarA w v x) {g:Nat} {cur:Array Value} (hg:w.heap[g]?=some (.cells cur 55 (0,0))) (b2 b3:Nat) (j:Nat) (u:Value) {b1:Nat}
  (e:v=.agg #[.func (.func 196) #[] #[.pointer (some ⟨b1,0,none⟩)],.func (.func 197) #[] #[.pointer (some ⟨b2,0,none⟩),.pointer (some ⟨b3,0,none⟩)]]) :
  Boxed (w.setCell ⟨g,j,none⟩ u) b2 3 (.int .i64 x.2.1)∧Boxed (w.setCell ⟨g,j,none⟩ u) b3 3 (.int .i64 x.2.2):=by
 subst e
 obtain ⟨c1,c2,c3,A,cap,e,h1,h2,h3,h4,h5⟩:=h
 cases e
 have ne:∀ {b:Nat} {y:Value},Boxed w b 3 y→b≠g:=fun {b y} hb=>by
  rintro rfl
  rw [show w.heap[b]?=_ from hb] at hg
  simp at hg
 exact ⟨(heap_setCell_other w ⟨g,j,none⟩ _ u (ne h3)).trans h3,(heap_setCell_other w ⟨g,j,none⟩ _ u (ne h4)).trans h4⟩
theorem grow_below {w w':World} (h:Below w.heap.size w w') (row:Option Nat):w.grownBy w' row:=⟨h.os,h.tape,h.output,h.size,fun k hk _=>h.block k hk⟩
theorem grownBy_setC (w:World) (b i:Nat) (v:Value):w.grownBy (w.setCell ⟨b,i,none⟩ v) (some b):=
 ⟨rfl,rfl,rfl,by simp,fun k hk hne=>heap_setCell_other w ⟨b,i,none⟩ k v (fun e=>hne (by rw [e]))⟩
theorem put_any (x:Vr) (v:Value) (s:ByteArray) (A:Option Addr) (cap l B:Nat) (L:List Tr) (hl:L.length=l) (hL:l≤1000) (q:Int) (w:World) (hv:VarA w v x) (H:OwnT w B (.slice A l cap) L) (hB:B≤w.heap.size) :
  Calls Tryz.prog 176 #[v,.agg #[.string s,.slice A l cap],.int .i64 q] w fun e w'=>e=.returned (.bool (putB x L q))∧OwnT w' B (.slice A l cap) (putL x.1 L q)∧w.grownBy w' (Value.slice A l cap).ownBlock:=by
 have hv':=hv
 obtain ⟨b1,b2,b3,Ak,ck,rfl,-⟩:=hv'
 obtain ⟨w0,hw0⟩:∃ w0,(w.alloc (.cells #[.func (.func 196) #[] #[.pointer (some ⟨b1,0,none⟩)],.func (.func 197) #[] #[.pointer (some ⟨b2,0,none⟩),.pointer (some ⟨b3,0,none⟩)]] 208)).alloc (.cells #[.string s,.slice A l cap] 24)=w0:=⟨_,rfl⟩
 obtain ⟨n,hn⟩:∃ n,w.heap.size=n:=⟨_,rfl⟩
 have b0:Below n w w0:=by rw [← hw0,← hn];exact ((Below.refl _ w).alloc (Nat.le_refl _) _).alloc (by simp) _
 have z0:w0.heap.size=n+1+1:=by rw [← hw0,← hn];simp
 have c0:w0.heap[n]?=some (.cells #[.func (.func 196) #[] #[.pointer (some ⟨b1,0,none⟩)],.func (.func 197) #[] #[.pointer (some ⟨b2,0,none⟩),.pointer (some ⟨b3,0,none⟩)]] 208 (0,0)):=by
  rw [← hw0,← hn]
  exact (Below.heap_alloc _ _ _ (by simp)).trans (World.alloc_heap_new w _)
 have c1:w0.heap[n+1]?=some (.cells #[.string s,.slice A l cap] 24 (0,0)):=by
  rw [← hw0,← hn]
  have h:=World.alloc_heap_new (w.alloc (.cells #[.func (.func 196) #[] #[.pointer (some ⟨b1,0,none⟩)],.func (.func 197) #[] #[.pointer (some ⟨b2,0,none⟩),.pointer (some ⟨b3,0,none⟩)]] 208)) (.cells #[.string s,.slice A l cap] 24)
  rwa [World.size_alloc] at h
 have hb0:Below w.heap.size w w0:=by rw [hn];exact b0
 have V0:=hv.below hb0
 have O0:=H.below hb0
 have hops:OpsP w0 A L:=by
  obtain ⟨A',cap',e,hP,-⟩:=O0.ops
  simp only [Value.slice.injEq] at e
  rw [e.1];exact hP
 have AT:=Lib.hid (vat_any x _ s A cap l L hl hL w0 V0 hops)
 have HN:=Lib.hid hn
 have BW:=Lib.hid (grow_below hb0 (Value.slice A l cap).ownBlock)
 have C0:=Lib.hid c0
 have C1:=Lib.hid c1
 have VV:=Lib.hid V0
 have OO:=Lib.hid O0
 have HB:Hid (B≤n):=by show B≤n;omega
 have j0:=Lib.cell_of_heap c0 0
 have j1:=Lib.cell_of_heap c0 1
 have j2:=Lib.cell_of_heap c1 0
 have j3:=Lib.cell_of_heap c1 1
 clear H hv b0 c0 c1 V0 O0 hops hb0 hB
 cases e:atV x.1 L with
 | none=>
  have NV:Hid (putL x.1 L q=L):=by show putL x.1 L q=L;unfold putL;rw [e]
  have PV:Hid (decide (q=0)=putB x L q):=by show _=putB x L q;unfold putB;rw [e]
  rw [atI_none e] at AT
  clear e
  go_enter Tryz.func176,Tryz.ntmps176
  go_wp2_with fail
  refine AT.out.mono ?_
  rintro e w1 ⟨rfl,hb⟩
  have B1:Hid (w.grownBy w1 (Value.slice A l cap).ownBlock):=World.grownBy.trans BW.out (grow_below hb _)
  have O1:=Lib.hid (OO.out.below hb)
  clear hb AT j0 j1 j2 j3
  go_wp2
  go_ret
  exact ⟨ret_bool PV.out,by rw [NV.out];exact O1.out,B1.out⟩
 | some k=>
  have hk:=atV_lt e
  have hkl:k<l:=by omega
  have NV:Hid (putL x.1 L q=setN L k q):=by show putL x.1 L q=_;unfold putL;rw [e]
  have PV:Hid (inV x q=putB x L q):=by show _=putB x L q;unfold putB;rw [e]
  rw [atI_some e] at AT
  have hkc:(k:Int)<(l:Int):=by omega
  have HK:=Lib.hid hk
  clear e hk
  go_enter Tryz.func176,Tryz.ntmps176
  go_wp2_with fail
  refine AT.out.mono ?_
  rintro e w1 ⟨rfl,hb⟩
  have B1:Hid (w.grownBy w1 (Value.slice A l cap).ownBlock):=World.grownBy.trans BW.out (grow_below hb _)
  have c0:=(hb.block n (by omega)).trans C0.out
  have c1:=(hb.block (n+1) (by omega)).trans C1.out
  have o1:=OO.out.below hb
  have v1:=VV.out.below hb
  obtain ⟨g,cap',hfm,hg,⟨cur,hcur⟩,hc,hf⟩:=o1.form (by have:=HK.out;omega)
  simp only [Value.slice.injEq] at hfm
  obtain ⟨rfl,-,rfl⟩:=hfm
  have p2:=(hc k HK.out).2.2
  have hfz:=hf (k*3+2)
  have ne0:g≠n:=by
   rintro rfl
   rw [hcur] at c0
   simp at c0
  have ne1:g≠n+1:=by
   rintro rfl
   rw [hcur] at c1
   simp at c1
  have k1:=Lib.cell_of_heap c1 1
  have d0:=(heap_setCell_other w1 ⟨g,k*3+2,none⟩ n (.int .i64 q) (Ne.symm ne0)).trans c0
  have k0:=Lib.cell_of_heap d0 1
  have VR:=varA_row v1 hcur b2 b3 (k*3+2) (.int .i64 q) rfl
  have AL:=Lib.hid (allows_any b2 b3 x q _ VR.1 VR.2)
  have O2:=Lib.hid (own_setN o1 hl k HK.out q)
  have B2:Hid (w.grownBy (w1.setCell ⟨g,k*3+2,none⟩ (.int .i64 q)) (some g)):=World.grownBy.trans B1.out (grownBy_setC w1 g (k*3+2) (.int .i64 q))
  obtain ⟨u,hu⟩:∃ u,L[k].2.2=u:=⟨_,rfl⟩
  have hsz:=hb.size
  have S2:Hid (B≤w1.heap.size):=by have:=HB.out;show B≤_;omega
  clear j0 j1 j2 j3 hb AT c0 c1 o1 v1 hc hf hcur d0 VR hsz
  have p2':w1.cell? ⟨g,k*3+2,none⟩=some (.int .i64 u):=by rw [← hu];exact p2
  clear p2 hu
  go_wp2_with fail
  refine AL.out.mono ?_
  rintro e w2 ⟨rfl,hb⟩
  have B3:Hid (w.grownBy w2 (some g)):=World.grownBy.trans B2.out (grow_below hb _)
  have O3:=Lib.hid (O2.out.below hb)
  clear hb AL
  go_wp2
  go_ret
  exact ⟨ret_bool PV.out,by rw [NV.out];exact O3.out,B3.out⟩
end Go.Proofs.YtajlleeonddinaaGreatDoor
