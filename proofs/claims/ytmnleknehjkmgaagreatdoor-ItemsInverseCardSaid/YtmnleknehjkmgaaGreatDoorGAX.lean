/-
  CnS, CnT, CnO.
-/
import Derived.Test.YtmnleknehjkmgaaGreatDoorMCnQ
import Derived.Laws.EntriesVeiled
import Derived.Deep.DeepCutAuto
import Derived.Deep.Cut
import Derived.StillTail
import Derived.StillTailTactics
import Derived.Deep.RegionHeld3
import Derived.RegionTactic
set_option linter.all false
set_option maxRecDepth 100000
set_option maxHeartbeats 4000000
namespace Go.Proofs.YtmnleknehjkmgaaGreatDoor
open Go.RowKit
attribute [local irreducible] Go.Mixed.wpMix
theorem place_2 (s:ByteArray) (h1:I2 s) (B bd:Nat) (hB:B≤bd) (v:Value) (L:List Tr) (hL:L.length≤1000) (w:World) (hD:Dr w bd s v) (hO:OwnT w B v L) :
  Calls Tryz.prog 47 #[.pointer (some ⟨bd,0,none⟩)] w (RetP w bd s B (accL 2 L)):=by
 obtain ⟨A,cap,rfl,hP,hlc⟩:=hO.ops
 have D0:=Lib.hid hD
 have O0:=Lib.hid hO
 obtain ⟨d0,d1,-,-⟩:=hD.cells
 by_cases h2:L.length=1
 ·obtain ⟨x,rfl⟩:∃ x,L=[x]:=by
   cases L with
   | nil=>simp at h2
   | cons a r=>
    cases r with
    | nil=>exact ⟨a,rfl⟩
    | cons b r=>simp at h2
  obtain ⟨g,rfl,hgB,hgl⟩:∃ g,A=some ⟨g,0,none⟩∧B≤g∧g<w.heap.size:=by
   rcases hO.2 with ⟨h,_⟩ | ⟨g',cap',cur,h,hg,hc,_⟩
   ·simp at h
   ·simp only [Value.slice.injEq] at h
    exact ⟨g',h.1,hg,(Array.getElem?_eq_some_iff.1 hc).1⟩
  have SB:Hid (B≤w.heap.size):=Nat.le_trans hB (Nat.le_of_lt hD.lt)
  have HGB:=Lib.hid (hO.own.nonnil (by simp))
  have HG:Hid (g≠bd):=by
   obtain ⟨g',off,cap',e,-,-,hR⟩:=HGB.out
   simp only [Value.slice.injEq,Option.some.injEq,Addr.mk.injEq] at e
   rw [e.1.1]
   exact hR.apart hD
  have HGS:=Lib.hid hgB
  have HGL:=Lib.hid hgl
  have e2:([x]:List Tr).length=1:=rfl
  have CW:Hid (w.drew.cell? ⟨bd,1,none⟩=some (.slice (some ⟨g,0,none⟩) 1 cap)):=d1
  have e3:([x]:List Tr).length=1:=rfl
  rw [e2] at D0 O0 d1
  clear hD hO hP hlc hL h2 e2 e3 HGB hgB hgl d0
  rcases h1 with rfl | rfl | rfl
  all_goals
   go_enter Tryz.func47,Tryz.ntmps47
   obtain ⟨e0,e1,-,-⟩:=D0.out.cells
   go_wp2
   clear e0 e1
   refine Mixed.wp_region_mixed (fun w'=>w'.cell? ⟨bd,1,none⟩=some (.slice (some ⟨g,0,none⟩) 1 cap)) 9 [(0,true),(1,true),(2,true),(3,true),(4,true),(5,true),(6,false),(7,false),(8,false)] (by kernel_rfl) (by kernel_rfl) CW.out ?_
   refine Mixed.wpMix_move rfl (by kernel_rfl) _ rfl _ rfl ?_
   refine Mixed.wpMix_move rfl (by kernel_rfl) _ rfl _ rfl ?_
   refine Mixed.wpMix_pure rfl (by kernel_rfl) (.pointer (some ⟨bd,0,none⟩)) (fun w h=>by go_simp;try rfl) ?_
   refine Mixed.wpMix_pure rfl (by kernel_rfl) (.pointer (some ⟨bd,0,none⟩)) (fun w h=>by go_simp;try rfl) ?_
   refine Mixed.wpMix_pure rfl (by kernel_rfl) (.pointer (some ⟨bd,1,none⟩)) (fun w h=>by go_simp;try rfl) ?_
   refine Mixed.wpMix_pure rfl (by kernel_rfl) (.slice (some ⟨g,0,none⟩) 1 cap) (fun w h=>by go_simp;try rfl) ?_
   refine Mixed.wpMix_loudG rfl (by kernel_rfl) ?_
   go_wp2_with fail
   refine (acc_any _).mono ?_
   rintro e w1 ⟨rfl,hb⟩
   have D1:=Lib.hid (D0.out.below (w':=w1) ((below_drewN _ _ 1).trans hb))
   have O1:=Lib.hid (O0.out.below (w':=w1) ((below_drewN _ _ 1).trans hb))
   have B1:Hid (Below B w w1):=((below_drewN w _ 1).trans hb).mono SB.out
   have S1:Hid (w.heap.size≤w1.heap.size):=((below_drewN w _ 1).trans hb).size
   have xx:=D1.out.cells.2.1
   clear hb D0 O0
   go_wp2
   refine ⟨xx,?_⟩
   clear xx
   refine Mixed.wpMix_loudG rfl (by kernel_rfl) ?_
   have hal:∀ o,Below w1.heap.size w1 (w1.alloc o):=fun o=>(Below.refl _ _).alloc (Nat.le_refl _) o
   have D2:=fun o=>Lib.hid (D1.out.below (hal o))
   have O2:=fun o=>Lib.hid (O1.out.below (hal o))
   have B2:=fun o=>Lib.hid (B1.out.alloc (Nat.le_trans SB.out S1.out) o)
   have xx:=fun o=>(D2 o).out.cells.2.1
   have IN:=Lib.hid (insert_one B g cap w1.heap.size x (w1.alloc (.cells #[.int .i64 1,.int .i64 7,.int .i64 0] 50)) (O2 _).out (heap_alloc_new w1 _) (by have:=HGL.out;have:=S1.out;omega) (by have:=SB.out;have:=S1.out;simp;omega))
   clear hal O1 D1 B1 O2
   go_wp2
   refine ⟨xx _,?_⟩
   clear xx
   refine Mixed.wpMix_loudG rfl (by kernel_rfl) ?_
   go_wp2_with fail
   refine IN.out.mono ?_
   rintro e w3 ⟨A2,cap2,rfl,hO3,hG3⟩
   have D3:Hid (Dr w3 bd _ (.slice (some ⟨g,0,none⟩) 1 cap)):=(hG3.block bd (D2 _).out.lt (fun e=>HG.out (by simp at e;exact e.symm))).trans (D2 _).out
   have B3:Hid (Below B w w3):=(B2 _).out.grown hG3 (Nat.le_trans (Nat.le_trans SB.out S1.out) (by simp)) (fun k hk=>by simp at hk;have:=HGS.out;omega)
   have D4:=Lib.hid (D3.out.put (.slice A2 2 cap2))
   have O4:=Lib.hid (OwnS.other hO3 D3.out 1 (u:=.slice A2 2 cap2))
   have B4:Hid (Below B w (w3.setCell ⟨bd,1,none⟩ (.slice A2 2 cap2))):=B3.out.setCell (p:=⟨bd,1,none⟩) hB _
   obtain ⟨e0,e1,-,f1⟩:=D3.out.cells
   have xx:=e1
   clear hO3 hG3 D2 B2 B3 IN D3
   go_wp2
   refine ⟨xx,?_⟩
   clear xx
   simp only [Mixed.wpMix,List.drop_succ_cons,List.drop_zero]
   go_wp2
   go_end0
   rw [← accL_put x]
   exact ⟨rfl,_,D4.out,O4.out,B4.out⟩
 ·have EE:=Lib.hid (accL_len1 L h2)
  obtain ⟨n,hn⟩:∃ n,L.length=n:=⟨_,rfl⟩
  have O0:=Lib.hid O0.out.own
  rw [hn] at D0 O0 d1 h2 hL
  have h3:¬((n:Int)=1):=by omega
  clear hD hO hP hn hlc
  rcases h1 with rfl | rfl | rfl
  all_goals
   go_enter Tryz.func47,Tryz.ntmps47
   go_wp2
   go_end0
   rw [← EE.out]
   exact ⟨rfl,_,D0.out,O0.out,Below.refl _ _⟩
theorem place_0 (s:ByteArray) (h1:¬I1 s) (h2:¬I2 s) (B bd:Nat) (v:Value) (L:List Tr) (w:World) (hD:Dr w bd s v) (hO:OwnS w B v L) :
  Calls Tryz.prog 47 #[.pointer (some ⟨bd,0,none⟩)] w (RetP w bd s B (accL (opc s) L)):=by
 have EE:=Lib.hid (accL_other (opc s) L (opc_n1 h1) (opc_n2 h2))
 obtain ⟨d0,d1,-,-⟩:=hD.cells
 have D0:=Lib.hid hD
 have O0:=Lib.hid hO
 simp only [I1,not_or] at h1
 simp only [I2,not_or] at h2
 obtain ⟨n1,n2,n3,n4,n5⟩:=h1
 obtain ⟨n6,n7,n8⟩:=h2
 have q1:(s.toList == [83,85,66])=false:=by simpa using strB_ne n1
 have q2:(s.toList == [65,78,68])=false:=by simpa using strB_ne n2
 have q3:(s.toList == [88,79,82])=false:=by simpa using strB_ne n3
 have q4:(s.toList == [79,82])=false:=by simpa using strB_ne n4
 have q5:(s.toList == [67,80])=false:=by simpa using strB_ne n5
 have q6:(s.toList == [65,68,68])=false:=by simpa using strB_ne n6
 have q7:(s.toList == [65,68,67])=false:=by simpa using strB_ne n7
 have q8:(s.toList == [83,66,67])=false:=by simpa using strB_ne n8
 clear n1 n2 n3 n4 n5 n6 n7 n8 hD hO
 go_enter Tryz.func47,Tryz.ntmps47
 go_wp2
 go_end0
 rw [← EE.out]
 exact ⟨rfl,_,D0.out,O0.out,Below.refl _ _⟩
theorem place_any (s:ByteArray) (B bd:Nat) (hB:B≤bd) (v:Value) (L:List Tr) (hL:L.length≤1000) (w:World) (hD:Dr w bd s v) (hO:OwnT w B v L) :
  Calls Tryz.prog 47 #[.pointer (some ⟨bd,0,none⟩)] w (RetP w bd s B (accL (opc s) L)):=by
 by_cases h1:I1 s
 ·rw [opc_1 h1];exact place_1 s h1 B bd hB v L hL w hD hO
 by_cases h2:I2 s
 ·rw [opc_2 h2];exact place_2 s h2 B bd hB v L hL w hD hO
 exact place_0 s h1 h2 B bd v L w hD hO.own
end Go.Proofs.YtmnleknehjkmgaaGreatDoor
namespace Go.Proofs.YtmnleknehjkmgaaGreatDoor
open Go.RowKit
theorem steps_any (w:World):Calls Tryz.prog 32 #[] w fun e w'=>
  e=.returned (.agg #[.func (.func 47) #[] #[],.func (.func 48) #[] #[],.func (.func 49) #[] #[]])∧Below w.heap.size w w':=by
 have B0:∀ o,Hid (Below w.heap.size w (w.alloc o)):=fun o=>(Below.refl _ _).alloc (Nat.le_refl _) _
 go_enter Tryz.func32,Tryz.ntmps32
 go_wp2
 trace_state
 refine bodyPost_ret (v:=.agg #[.func (.func 47) #[] #[],.func (.func 48) #[] #[],.func (.func 49) #[] #[]]) ?_ rfl ⟨rfl,(B0 _).out⟩
 simp [results,Tryz.results32,go_sem]
end Go.Proofs.YtmnleknehjkmgaaGreatDoor
namespace Go.Proofs.YtmnleknehjkmgaaGreatDoor
open Go.RowKit
theorem OwnS.low {w:World} {n:Nat} {v:Value} {L:List Tr} (h:OwnS w n v L) (p:Addr) (hp:p.block<n) (u:Value):OwnS (w.setCell p u) n v L:=by
 rcases h with h | ⟨g,off,cap,h1,h2,h3,h4,cur,hc,h6⟩
 ·exact .inl h
 ·exact .inr ⟨g,off,cap,h1,h2,h3,h4,cur,(heap_setCell_other w p g u (by omega)).trans hc,h6⟩
def Dz (w:World) (b:Nat):Prop:=w.heap[b]?=some (.cells #[.string ⟨#[]⟩,.slice none 0 0] 74 (0,0))
theorem Dz.cells {w:World} {b:Nat} (h:Dz w b):w.cell? ⟨b,0,none⟩=some (.string ⟨#[]⟩)∧w.cell? ⟨b,1,none⟩=some (.slice none 0 0)∧w.frozen? ⟨b,0,none⟩=false∧w.frozen? ⟨b,1,none⟩=false:=
 ⟨by rw [Lib.cell_of_heap h];rfl,by rw [Lib.cell_of_heap h];rfl,Lib.frozen_of_heap h 0,Lib.frozen_of_heap h 1⟩
theorem Dz.done {w:World} {b:Nat} (h:Dz w b) (s:ByteArray) (v:Value):Dr ((w.setCell ⟨b,0,none⟩ (.string s)).setCell ⟨b,1,none⟩ v) b s v:=by
 have h1:=heap_setCell_same w b 0 _ _ (.string s) h
 have h2:=heap_setCell_same (w.setCell ⟨b,0,none⟩ (.string s)) b 1 _ _ v h1
 exact h2
theorem widL_ex (c:Nat) (L:List Tr):widL c (exL c (accL c L))=widL c L:=by
 by_cases h:c=6
 ·subst h
  rw [show accL 6 L=L from (accL_other 6 L (by omega) (by omega)).symm,show exL 6 L=L from (exL_no 6 L (by omega)).symm]
 ·unfold widL
  have n1:∀ x:List Tr,¬(c=6∧x.head?.map (fun t=>t.1)=some 3):=fun x q=>h q.1
  rw [if_neg (n1 _),if_neg (n1 _)]
def RetC (w:World) (s:ByteArray) (L:List Tr) (e:Ending) (w':World):Prop:=∃ v,e=.returned (.agg #[.string s,v])∧OwnS w' w.heap.size v L∧Below w.heap.size w w'
theorem of_any (s:ByteArray) (A:Option Addr) (cap:Nat) (L:List Tr) (hL:L.length≤900) (w:World) (H:OpsP w A L) :
  Calls Tryz.prog 25 #[.agg #[.string s,.slice A L.length cap]] w (RetC w s (canL (opc s) L)):=by
 have CLN:=Lib.hid (cloneO_any A cap L (by omega))
 obtain ⟨w1,hw1⟩:∃ w1,(w.alloc (.cells #[.string s,.slice A L.length cap] 26)).alloc (.cells #[.string ⟨#[]⟩,.slice none 0 0] 26)=w1:=⟨_,rfl⟩
 have B1:Hid (Below w.heap.size w w1):=by rw [← hw1];exact ((Below.refl _ _).alloc (Nat.le_refl _) _).alloc (by simp) _
 have T1:Hid (Bx w1 w.heap.size s A L.length cap):=by rw [← hw1];exact ⟨by simp [go_sem],by simp [go_sem]⟩
 have Z1:Hid (Rz w1 (w.heap.size+1)):=by
  rw [← hw1]
  have:=heap_alloc_new (w.alloc (.cells #[.string s,.slice A L.length cap] 26)) (.cells #[.string ⟨#[]⟩,.slice none 0 0] 26)
  show Rz _ _
  simpa [Rz] using this
 have S1:Hid (w1.heap.size=w.heap.size+2):=by rw [← hw1];simp [Hid]
 have P1:=Lib.hid (H.below B1.out)
 obtain ⟨n,hn⟩:∃ n,L.length=n:=⟨_,rfl⟩
 have HLn:=Lib.hid hn
 have AL:=Lib.hid (accL_len (opc s) L)
 have EL:=Lib.hid (exL_len (opc s) (accL (opc s) L))
 have HL9:=Lib.hid hL
 have WX:=Lib.hid (widL_ex (opc s) L)
 rw [hn] at hL T1 hw1 CLN ⊢
 clear H hn
 have CL2:=Lib.hid (clone_n CLN.out HLn.out)
 go_enter Tryz.func25,Tryz.ntmps25
 go_upto_region 1 with fail
 clear hw1 CLN
 go_cut [3] (fun p wx=>∃ b6 A3 cap3,p=.pointer (some ⟨b6,0,none⟩)∧Hid (w1.heap.size≤b6)∧Hid (Dr wx b6 s (.slice A3 n cap3))∧Hid (OwnT wx w1.heap.size (.slice A3 n cap3) L)∧Hid (Below w1.heap.size w1 wx))
 case first=>
  have HP:Hid (∀ wx,wx=w1.drew∨wx=w1.drew.alloc (.cells #[.string ⟨#[]⟩,.slice none 0 0] 74)→OpsP wx A L∧Below w1.heap.size w1 wx):=by
   rintro wx (rfl | rfl)
   ·exact ⟨P1.out.below (below_drewN _ _ 1),below_drewN _ _ 1⟩
   ·exact ⟨P1.out.below ((below_drewN _ _ 1).alloc (by simp) _),(below_drewN _ _ 1).alloc (by simp) _⟩
  have KC:Hid (∀ wx,Below w1.heap.size w1 wx→Bx wx w.heap.size s A n cap):=fun wx hb=>T1.out.all hb
  have KQ:Hid (∀ wx w2,wx=w1.drew.alloc (.cells #[.string ⟨#[]⟩,.slice none 0 0] 74)→Below wx.heap.size wx w2→Dz w2 w1.heap.size):=by
   rintro wx w2 rfl hb
   exact (hb.block _ (by simp)).trans (heap_alloc_new w1.drew _)
  have hz:=T1.out.lt
  obtain ⟨t0,t1⟩:=T1.out
  go_region_held3 (fun w'=>w'.cell? ⟨w.heap.size,0,none⟩=some (.string s)∧w'.cell? ⟨w.heap.size,1,none⟩=some (.slice A n cap)) (first | exact KC.out _ (below_drewN _ _ 1) | exact KC.out _ ((below_drewN _ _ 1).alloc (by simp) _) | exact KC.out _ HB2 | exact KC.out _ (HB2.alloc (HB2.size) _) | exact KC.out _ ((HB2.setCell (p:=⟨w1.heap.size,0,none⟩) (Nat.le_refl _) _).setCell (p:=⟨w1.heap.size,1,none⟩) (Nat.le_refl _) _)) (first | (go_at_call 16;refine (CL2.out _ (HP.out _ (.inr rfl)).1).mono ?_;rintro e w2 ⟨A3,cap3,rfl,hO,h2⟩;have HB2:=((HP.out _ (.inr rfl)).2).trans (h2.mono (by simp));obtain ⟨k0,k1⟩:=KC.out _ HB2;have hz2:w.heap.size≠w2.heap.size:=(by have:=HB2.size;omega);have RZ:=KQ.out _ _ rfl h2;obtain ⟨q0,q1,q2,q3⟩:=RZ.cells) | (go_at_call 16;refine (CL2.out _ (HP.out _ (.inl rfl)).1).mono ?_;rintro e w2 ⟨A3,cap3,rfl,hO,h2⟩;have HB2:=((HP.out _ (.inl rfl)).2).trans (h2.mono (by simp));obtain ⟨k0,k1⟩:=KC.out _ HB2;have hz2:w.heap.size≠w2.heap.size:=(by have:=HB2.size;omega)))
  all_goals
   go_wp2
   go_meet
   first
    | exact ⟨w2.heap.size,A3,cap3,rfl,HB2.size,heap_alloc_new w2 _,World.ownsRow.alloc hO _,HB2.alloc HB2.size _⟩
    | exact ⟨w1.heap.size,A3,cap3,rfl,Nat.le_refl _,RZ.done _ _,row_mono (row_set (row_set hO (p:=⟨w1.heap.size,0,none⟩) (by simp) _) (p:=⟨w1.heap.size,1,none⟩) (by simp) _) (by simp),(HB2.setCell (p:=⟨w1.heap.size,0,none⟩) (Nat.le_refl _) _).setCell (p:=⟨w1.heap.size,1,none⟩) (Nat.le_refl _) _⟩
 case rest=>
  clear CL2 P1 T1
  obtain ⟨b6,A3,cap3,rfl,hb6,hri,hO,hB⟩:=hcut
  obtain ⟨B,hBd⟩:∃ B,w1.heap.size=B:=⟨_,rfl⟩
  rw [hBd] at hb6 hO hB S1
  have HBd:=Lib.hid hBd
  clear hBd
  have ST:∀ w2,Below wc.heap.size wc w2→Hid (Dr w2 b6 s (.slice A3 n cap3))∧Hid (OwnT w2 B (.slice A3 n cap3) L)∧Hid (Below B w1 w2):=fun w2 hb=>by
   have hBc:B≤wc.heap.size:=Nat.le_trans hb6.out (Nat.le_of_lt hri.out.lt)
   exact ⟨hri.out.below hb,hO.out.below hb,hB.out.trans (hb.mono hBc)⟩
  go_wp2_with fail
  refine (steps_any _).mono ?_
  rintro e w2 ⟨rfl,hb⟩
  obtain ⟨D2,O2,B2⟩:=ST w2 hb
  clear hb ST hri hO hB
  go_wp2
  go_loopw [14] (fun i wr=>(i=.int .i64 0∧Hid (Dr wr b6 s (.slice A3 n cap3))∧Hid (OwnT wr B (.slice A3 n cap3) L)∧Hid (Below B w1 wr))∨(i=.int .i64 1∧Hid (∃ v,Dr wr b6 s v∧OwnS wr B v (accL (opc s) L)∧Below B w1 wr))∨(i=.int .i64 2∧Hid (∃ v,Dr wr b6 s v∧OwnS wr B v (exL (opc s) (accL (opc s) L))∧Below B w1 wr))∨(i=.int .i64 3∧Hid (∃ v,Dr wr b6 s v∧OwnS wr B v (canL (opc s) L)∧Below B w1 wr))) (fun i _=>3 - (intOf i).toNat)
  case atStart=>exact .inl ⟨rfl,D2.out,O2.out,B2.out⟩
  case round=>
   clear D2 O2 B2
   rcases hrel with ⟨rfl,D,O,B2⟩ | ⟨rfl,X⟩ | ⟨rfl,X⟩ | ⟨rfl,X⟩
   ·have hix:∀ w,(Instr.index 76 (.agg #[.func (.func 47) #[] #[],.func (.func 48) #[] #[],.func (.func 49) #[] #[]]) (.int .i64 0)).run Tryz.prog w=.ok (.func (.func 47) #[] #[]) w:=fun _=>by kernel_rfl
    have PL:=Lib.hid (place_any s B b6 hb6.out _ L (by have:=HL9.out;omega) wr D.out O.out)
    go_wp2_with fail
    refine PL.out.mono ?_
    rintro e w3 ⟨rfl,v,d1,d2,d3⟩
    have X:Hid (∃ v,Dr w3 b6 s v∧OwnS w3 B v (accL (opc s) L)∧Below B w1 w3):=⟨v,d1,d2,B2.out.trans d3⟩
    clear d1 d2 d3 PL D O B2
    go_wp2
    go_roundw
    case rel=>exact .inr (.inl ⟨rfl,X.out⟩)
    case measure=>simp [intOf]
   ·obtain ⟨v,D,O,B2⟩:=X.out
    have hix:∀ w,(Instr.index 76 (.agg #[.func (.func 47) #[] #[],.func (.func 48) #[] #[],.func (.func 49) #[] #[]]) (.int .i64 1)).run Tryz.prog w=.ok (.func (.func 48) #[] #[]) w:=fun _=>by kernel_rfl
    have PL:=Lib.hid (ex_any s B b6 hb6.out v (accL (opc s) L) (by have:=HL9.out;have:=AL.out;omega) wr D O)
    have B2:=Lib.hid B2
    clear D O X
    go_wp2_with fail
    refine PL.out.mono ?_
    rintro e w3 ⟨rfl,d1,d2,d3⟩
    have X:Hid (∃ v,Dr w3 b6 s v∧OwnS w3 B v (exL (opc s) (accL (opc s) L))∧Below B w1 w3):=⟨v,d1,d2,B2.out.trans d3⟩
    clear d1 d2 d3 PL B2
    go_wp2
    go_roundw
    case rel=>exact .inr (.inr (.inl ⟨rfl,X.out⟩))
    case measure=>simp [intOf]
   ·obtain ⟨v,D,O,B2⟩:=X.out
    have hix:∀ w,(Instr.index 76 (.agg #[.func (.func 47) #[] #[],.func (.func 48) #[] #[],.func (.func 49) #[] #[]]) (.int .i64 2)).run Tryz.prog w=.ok (.func (.func 49) #[] #[]) w:=fun _=>by kernel_rfl
    have PL:=Lib.hid (wrap_any s B b6 hb6.out v (exL (opc s) (accL (opc s) L)) (by have:=HL9.out;have:=AL.out;have:=EL.out;omega) wr D O)
    have B2:=Lib.hid B2
    clear D O X
    go_wp2_with fail
    refine PL.out.mono ?_
    rintro e w3 ⟨rfl,d1,d2,d3⟩
    rw [WX.out] at d2
    have X:Hid (∃ v,Dr w3 b6 s v∧OwnS w3 B v (canL (opc s) L)∧Below B w1 w3):=⟨v,d1,d2,B2.out.trans d3⟩
    clear d1 d2 d3 PL B2
    go_wp2
    go_roundw
    case rel=>exact .inr (.inr (.inr ⟨rfl,X.out⟩))
    case measure=>simp [intOf]
   ·obtain ⟨v,D,O,B2⟩:=X.out
    obtain ⟨A9,cap9,rfl,-,-,-⟩:=O.ops
    obtain ⟨v,hv⟩:∃ v,v=Value.slice A9 (canL (opc s) L).length cap9:=⟨_,rfl⟩
    rw [← hv] at D O
    obtain ⟨x0,x1,-,-⟩:=D.cells
    have hSB:=S1.out
    have Z2:Rz wr (w.heap.size+1):=(B2.block _ (by omega)).trans Z1.out
    obtain ⟨z0,z1,z2,z3⟩:=Z2.cells
    have E:=Lib.hid (Z2.set s v)
    have HV:=Lib.hid hv
    have F:Hid (RetC w s (canL (opc s) L) (.returned (.agg #[.string s,v])) ((wr.setCell ⟨w.heap.size+1,0,none⟩ (.string s)).setCell ⟨w.heap.size+1,1,none⟩ v)):=
     ⟨v,rfl,((O.low ⟨w.heap.size+1,0,none⟩ (by simp;omega) _).low ⟨w.heap.size+1,1,none⟩ (by simp;omega) _).lift (by omega),
      ((B1.out.trans (B2.mono (by omega))).setCell (p:=⟨w.heap.size+1,0,none⟩) (by simp) _).setCell (p:=⟨w.heap.size+1,1,none⟩) (by simp) _⟩
    clear X D O B2 Z2 hSB
    obtain ⟨n9,hn9⟩:∃ n9,(canL (opc s) L).length=n9:=⟨_,rfl⟩
    rw [hn9] at hv
    clear hn9 HV
    subst hv
    go_wp2
    obtain ⟨e0,e1⟩:=E.out
    obtain ⟨w6,hw6⟩:∃ w6,((wr.setCell ⟨w.heap.size+1,0,none⟩ (.string s)).setCell ⟨w.heap.size+1,1,none⟩ (.slice A9 n9 cap9))=w6:=⟨_,rfl⟩
    rw [hw6] at F e0 e1 ⊢
    clear hw6 z0 z1 z2 z3 x0 x1
    refine bodyPost_ret (v:=.agg #[.string s,.slice A9 n9 cap9]) ?_ rfl F.out
    simp [results,Tryz.results25,go_sem,e0,e1]
end Go.Proofs.YtmnleknehjkmgaaGreatDoor
