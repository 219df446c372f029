/-
  The walk over the step that places the register A.
-/
import Derived.Test.YtmnleknehjkmgaaGreatDoorGAV
set_option linter.all false
set_option maxRecDepth 100000
set_option maxHeartbeats 4000000
namespace Go.Proofs.YtmnleknehjkmgaaGreatDoor
open Go.RowKit
attribute [local irreducible] Go.Mixed.wpMix
theorem RowS.tail {w:World} {n g:Nat} {x y:Tr} (h:RowS w n g 0 [x,y]):RowS w n g 3 [y]:=by
 obtain ⟨h1,cur,hc,h2⟩:=h
 refine ⟨h1,cur,hc,fun j u hj=>?_⟩
 match j,hj with
 | 0,hj=>exact h2 3 u hj
 | 1,hj=>exact h2 4 u hj
 | 2,hj=>exact h2 5 u hj
 | j+3,hj=>cases hj
theorem accL_len2 (L:List Tr) (h:¬L.length=2):L=accL 1 L:=by unfold accL;rw [if_neg (fun q=>h q.2.1),if_neg (by omega)]
theorem accL_ne (x y:Tr) (h:¬x=accT):[x,y]=accL 1 [x,y]:=by unfold accL;rw [if_neg (fun q=>h (by simpa using q.2.2)),if_neg (by omega)]
theorem accL_eq (y:Tr):[y]=accL 1 [accT,y]:=by unfold accL;rw [if_pos ⟨rfl,rfl,rfl⟩];rfl
theorem accL_len1 (L:List Tr) (h:¬L.length=1):L=accL 2 L:=by unfold accL;rw [if_neg (by omega),if_neg (fun q=>h q.2)]
theorem accL_put (x:Tr):[accT,x]=accL 2 [x]:=by unfold accL;rw [if_neg (by omega),if_pos ⟨rfl,rfl⟩]
theorem accL_other (c:Nat) (L:List Tr) (h1:c≠1) (h2:c≠2):L=accL c L:=by unfold accL;rw [if_neg (fun q=>h1 q.1),if_neg (fun q=>h2 q.1)]
def RetP (w:World) (bd:Nat) (s:ByteArray) (B:Nat) (L:List Tr) (e:Ending) (w':World):Prop:=e=.returned (.tuple #[])∧∃ v',Dr w' bd s v'∧OwnS w' B v' L∧Below B w w'
theorem place_1 (s:ByteArray) (h1:I1 s) (B bd:Nat) (hB:B≤bd) (v:Value) (L:List Tr) (hL:L.length≤1000) (w:World) (hD:Dr w bd s v) (hO:OwnT w B v L) :
  Calls Tryz.prog 47 #[.pointer (some ⟨bd,0,none⟩)] w (RetP w bd s B (accL 1 L)):=by
 obtain ⟨A,cap,rfl,hP,hlc⟩:=hO.ops
 have D0:=Lib.hid hD
 have O0:=Lib.hid hO.own
 by_cases h2:L.length=2
 ·obtain ⟨x,y,rfl⟩:=two_of L h2
  obtain ⟨g,cap',hA,-,-,hR⟩:∃ g cap',(Value.slice A [x,y].length cap)=.slice (some ⟨g,0,none⟩) 2 cap'∧2≤cap'∧cap'≤maxLen∧RowS w B g 0 [x,y]:=by
   have:=hO
   obtain ⟨g,off,c',e,e2,e3,hR⟩:=hO.own.nonnil (by simp)
   have:off=0:=by
    rcases hO.2 with ⟨h,_⟩ | ⟨g',cap',cur,h,_⟩
    ·rw [h] at e;simp at e
    ·rw [h] at e
     simp only [Value.slice.injEq,Option.some.injEq,Addr.mk.injEq,and_true] at e
     exact e.1.2.symm
   subst this
   exact ⟨g,c',e,e2,e3,hR⟩
  simp only [Value.slice.injEq] at hA
  obtain ⟨rfl,-,-⟩:=hA
  have hcm:cap≤maxLen:=by
   obtain ⟨A',cap',e,-,-,h4⟩:=hO.own.ops
   simp only [Value.slice.injEq] at e
   obtain ⟨-,-,rfl⟩:=e
   exact h4
  have hcm':=hcm
  unfold maxLen at hcm'
  have hlc':2≤cap:=hlc
  obtain ⟨p0,p1,p2⟩:=hR.at_ 0 (by simp)
  simp only [List.getElem_cons_zero,Nat.zero_mul,Nat.zero_add] at p0 p1 p2
  obtain ⟨d0,d1,-,-⟩:=hD.cells
  obtain ⟨x0,x1,x2⟩:=x
  simp only at p0 p1 p2
  have R0:=Lib.hid hR
  have CW:Hid (w.drew.cell? ⟨bd,1,none⟩=some (.slice (some ⟨g,0,none⟩) 2 cap)∧w.drew.cell? ⟨g,0,none⟩=some (.int .i64 x0)∧w.drew.cell? ⟨g,1,none⟩=some (.int .i64 x1)∧w.drew.cell? ⟨g,2,none⟩=some (.int .i64 x2)):=⟨d1,p0,p1,p2⟩
  have EN:=Lib.hid (accL_ne (x0,x1,x2) y)
  have SB:Hid (B≤w.heap.size):=Nat.le_trans hB (Nat.le_of_lt hD.lt)
  have HB2:Hid (bd<w.heap.size):=hD.lt
  clear hD hO hP hR p0 p1 p2 h2
  have e2:([(x0,x1,x2),y]:List Tr).length=2:=rfl
  rw [e2] at D0 O0 d1
  clear e2 hL
  rcases h1 with rfl | rfl | rfl | rfl | rfl
  all_goals
   go_enter Tryz.func47,Tryz.ntmps47
   go_wp2
   refine Mixed.wp_region_mixed (fun w'=>w'.cell? ⟨bd,1,none⟩=some (.slice (some ⟨g,0,none⟩) 2 cap)∧w'.cell? ⟨g,0,none⟩=some (.int .i64 x0)∧w'.cell? ⟨g,1,none⟩=some (.int .i64 x1)∧w'.cell? ⟨g,2,none⟩=some (.int .i64 x2)) 16
    [(0,true),(1,true),(2,true),(3,true),(4,true),(5,true),(6,true),(7,true),(8,true),(9,true),(10,true),(11,true),(12,true),(13,true),(14,true),(15,false)] (by kernel_rfl) (by kernel_rfl) CW.out ?_
   refine Mixed.wpMix_move rfl (by kernel_rfl) _ rfl _ rfl ?_
   refine Mixed.wpMix_pure rfl (by kernel_rfl) (.pointer (some ⟨bd,0,none⟩)) (fun w h=>by obtain ⟨h1,h2,h3,h4⟩:=h;go_simp;try rfl) ?_
   refine Mixed.wpMix_pure rfl (by kernel_rfl) (.pointer (some ⟨bd,0,none⟩)) (fun w h=>by obtain ⟨h1,h2,h3,h4⟩:=h;go_simp;try rfl) ?_
   refine Mixed.wpMix_pure rfl (by kernel_rfl) (.pointer (some ⟨bd,1,none⟩)) (fun w h=>by obtain ⟨h1,h2,h3,h4⟩:=h;go_simp;try rfl) ?_
   refine Mixed.wpMix_pure rfl (by kernel_rfl) (.slice (some ⟨g,0,none⟩) 2 cap) (fun w h=>by obtain ⟨h1,h2,h3,h4⟩:=h;go_simp;try rfl) ?_
   refine Mixed.wpMix_pure rfl (by kernel_rfl) (.int .i64 2) (fun w h=>by clear h;go_simp;try rfl) ?_
   refine Mixed.wpMix_pure rfl (by kernel_rfl) (.bool true) (fun w h=>by clear h;go_simp;try rfl) ?_
   refine Mixed.wpMix_move rfl (by kernel_rfl) _ rfl _ rfl ?_
   refine Mixed.wpMix_move rfl (by kernel_rfl) _ rfl _ rfl ?_
   refine Mixed.wpMix_pure rfl (by kernel_rfl) (.pointer (some ⟨bd,0,none⟩)) (fun w h=>by obtain ⟨h1,h2,h3,h4⟩:=h;go_simp;try rfl) ?_
   refine Mixed.wpMix_pure rfl (by kernel_rfl) (.pointer (some ⟨bd,0,none⟩)) (fun w h=>by obtain ⟨h1,h2,h3,h4⟩:=h;go_simp;try rfl) ?_
   refine Mixed.wpMix_pure rfl (by kernel_rfl) (.pointer (some ⟨bd,1,none⟩)) (fun w h=>by obtain ⟨h1,h2,h3,h4⟩:=h;go_simp;try rfl) ?_
   refine Mixed.wpMix_pure rfl (by kernel_rfl) (.slice (some ⟨g,0,none⟩) 2 cap) (fun w h=>by obtain ⟨h1,h2,h3,h4⟩:=h;go_simp;try rfl) ?_
   refine Mixed.wpMix_pure rfl (by kernel_rfl) (.pointer (some ⟨g,0,none⟩)) (fun w h=>by obtain ⟨h1,h2,h3,h4⟩:=h;go_simp;try rfl) ?_
   refine Mixed.wpMix_pure rfl (by kernel_rfl) (.agg #[.int .i64 x0,.int .i64 x1,.int .i64 x2]) (fun w h=>by obtain ⟨h1,h2,h3,h4⟩:=h;go_simp;try rfl) ?_
   refine Mixed.wpMix_loudG rfl (by kernel_rfl) ?_
   go_wp2_with fail
   refine (acc_any _).mono ?_
   rintro e w1 ⟨rfl,hb⟩
   have D1:=Lib.hid (D0.out.below (w':=w1) ((below_drewN _ _ 1).trans hb))
   have O1:=Lib.hid (O0.out.below (w':=w1) ((below_drewN _ _ 1).trans hb))
   have R1:=Lib.hid (R0.out.below (w':=w1) ((below_drewN _ _ 1).trans hb))
   have B1:Hid (Below B w w1):=((below_drewN w _ 1).trans hb).mono SB.out
   obtain ⟨e0,e1,-,f1⟩:=D1.out.cells
   obtain ⟨q0,q1,q2⟩:=R1.out.at_ 0 (by simp)
   simp only [List.getElem_cons_zero,Nat.zero_mul,Nat.zero_add] at q0 q1 q2
   have xx:w1.cell? ⟨bd,1,none⟩=some (.slice (some ⟨g,0,none⟩) 2 cap)∧w1.cell? ⟨g,0,none⟩=some (.int .i64 x0)∧w1.cell? ⟨g,1,none⟩=some (.int .i64 x1)∧w1.cell? ⟨g,2,none⟩=some (.int .i64 x2):=⟨e1,q0,q1,q2⟩
   clear hb D0 O0 R0 q0 q1 q2 e0 e1 d0 d1
   go_wp2
   refine ⟨xx,?_⟩
   clear xx
   simp only [Mixed.wpMix,List.drop_succ_cons,List.drop_zero]
   by_cases hx:(x0,x1,x2)=accT
   ·simp only [accT,Prod.mk.injEq] at hx
    obtain ⟨rfl,rfl,rfl⟩:=hx
    have hc1:¬(cap=1):=by omega
    have D2:=Lib.hid (D1.out.put (.slice (some ⟨g,3,none⟩) 1 (cap - 1)))
    have O2:Hid (OwnS (w1.setCell ⟨bd,1,none⟩ (.slice (some ⟨g,3,none⟩) 1 (cap - 1))) B (.slice (some ⟨g,3,none⟩) 1 (cap - 1)) (accL 1 [(1,7,0),y])):=by
     rw [show accL 1 [((1:Int),(7:Int),(0:Int)),y]=[y] from (accL_eq y).symm]
     exact OwnS.other (.inr ⟨g,3,cap - 1,rfl,by simp;omega,by omega,R1.out.tail⟩) D1.out 1
    have B2:Hid (Below B w (w1.setCell ⟨bd,1,none⟩ (.slice (some ⟨g,3,none⟩) 1 (cap - 1)))):=B1.out.setCell (p:=⟨bd,1,none⟩) hB _
    obtain ⟨e0,e1,-,f1⟩:=D1.out.cells
    clear D1 O1 R1 B1
    go_wp2
    go_end0
    exact ⟨rfl,_,D2.out,O2.out,B2.out⟩
   ·have EE:=Lib.hid (EN.out hx)
    have hn:=tr_ne hx
    simp only [accT] at hn
    obtain ⟨e0,e1,-,f1⟩:=D1.out.cells
    rcases hn with h | ⟨rfl,h⟩ | ⟨rfl,rfl,h⟩
    all_goals
     go_wp2
     go_end0
     rw [← EE.out]
     exact ⟨rfl,_,D1.out,O1.out,B1.out⟩
 ·have EE:=Lib.hid (accL_len2 L h2)
  obtain ⟨d0,d1,-,-⟩:=hD.cells
  obtain ⟨n,hn⟩:∃ n,L.length=n:=⟨_,rfl⟩
  rw [hn] at D0 O0 d1 h2 hL
  have h3:¬((n:Int)=2):=by omega
  clear hD hO hP hn hlc
  rcases h1 with rfl | rfl | rfl | rfl | rfl
  all_goals
   go_enter Tryz.func47,Tryz.ntmps47
   go_wp2
   go_quiet (fail)
   go_wp2
   go_end0
   rw [← EE.out]
   exact ⟨rfl,_,D0.out,O0.out,below_drewN _ _ _⟩
end Go.Proofs.YtmnleknehjkmgaaGreatDoor
