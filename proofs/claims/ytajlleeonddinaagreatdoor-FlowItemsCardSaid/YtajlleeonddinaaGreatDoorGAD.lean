/-
  TbO, TbP, TbQ, TbR.
-/
import Derived.Test.YtajlleeonddinaaGreatDoorGAC
set_option linter.all false
set_option maxRecDepth 100000
set_option maxHeartbeats 4000000
namespace Go.Proofs.YtajlleeonddinaaGreatDoor
open Go.RowKit Go.Shelf
attribute [local irreducible] Go.Mixed.wpMix
def anyX (ix:Int) (L:List Tr):Bool:=L.any fun o=>!decide (opX ix o=o)
def mpx (ix:Int) (L:List Tr) (j:Nat):List Tr:=(L.take j).map (opX ix)++L.drop j
theorem mpx_len (ix:Int) (L:List Tr) (j:Nat):(mpx ix L j).length=L.length:=by unfold mpx;simp;omega
theorem mpx_at (ix:Int) (L:List Tr) (j:Nat) (h:j<L.length) (h':j<(mpx ix L j).length):(mpx ix L j)[j]=L[j]:=by
 have e:(mpx ix L j)[j]?=L[j]?:=by
  unfold mpx
  rw [List.getElem?_append_right (by simp;omega)]
  simp [Nat.min_eq_left (Nat.le_of_lt h)]
 rw [List.getElem?_eq_getElem h',List.getElem?_eq_getElem h] at e
 exact Option.some.inj e
theorem mpx_succ (ix:Int) (L:List Tr) (j:Nat) (h:j<L.length):mpx ix L (j+1)=(mpx ix L j).set j (opX ix L[j]):=by
 have h1:((L.take j).map (opX ix)).length=j:=by simp;omega
 unfold mpx
 rw [List.set_append_right _ _ (by omega),h1,Nat.sub_self,List.take_succ_eq_append_getElem h,List.map_append,List.append_assoc,List.drop_eq_getElem_cons h]
 rfl
theorem mpx_at2 (ix:Int) (L:List Tr) (j:Nat) (h:j<L.length) (h':j<(mpx ix L (j+1)).length):(mpx ix L (j+1))[j]=opX ix L[j]:=by
 have e:(mpx ix L (j+1))[j]?=some (opX ix L[j]):=by
  rw [mpx_succ ix L j h,List.getElem?_set_self (by rw [mpx_len];exact h)]
 rw [List.getElem?_eq_getElem h'] at e
 exact Option.some.inj e
theorem anyX_succ (ix:Int) (L:List Tr) (j:Nat) (h:j<L.length):anyX ix (L.take (j+1))=(anyX ix (L.take j)||!decide (opX ix L[j]=L[j])):=by
 unfold anyX
 rw [List.take_succ_eq_append_getElem h,List.any_append]
 simp
theorem mpx_all (ix:Int) (L:List Tr):mpx ix L L.length=L.map (opX ix):=by unfold mpx;simp
def tregB (m:Str) (ix:Int) (L:List Tr):Bool:=!(decide (m=[69,88])&&decide ((3,1,0)∈L))&&anyX ix L
def RetReg (w:World) (b B:Nat) (page op:Int) (m:Str) (v:Value) (ex:Str) (al:Bool) (ix:Int) (L:List Tr) (e:Ending) (w':World):Prop:=
 e=.returned (.bool (tregB m ix L))∧IxAt w' b page op m v ex al ix∧(tregB m ix L=true→OwnT w' B v (L.map (opX ix)))∧Below B w w'∧Fr w b v w'
theorem repReg_any (b B:Nat) (page op:Int) (m:Str) (v:Value) (ex:Str) (al:Bool) (ix:Int) (hix:ix=5∨ix=6) (L:List Tr) (hL:L.length≤100) (w:World)
  (X:IxAt w b page op m v ex al ix) (O:OwnT w B v L) (hB:B≤b):Calls Tryz.prog 230 #[.pointer (some ⟨b,0,none⟩)] w (RetReg w b B page op m v ex al ix L):=by
 obtain ⟨A,cap,rfl,hP,hcap⟩:=O.ops
 obtain ⟨n,hn⟩:∃ n,L.length=n:=⟨_,rfl⟩
 rw [hn] at X O hL hcap ⊢
 have HBW:Hid (B≤w.heap.size):=by have:=X.lt;show B≤_;omega
 have XX:=Lib.hid X
 have OO:=Lib.hid O
 have HN:=Lib.hid hn
 have HI:=Lib.hid hix
 obtain ⟨x0,x1,x2,x3,x4,x5,x6,x7⟩:=X.cells
 clear X O hix
 by_cases hm:m=[69,88]
 ·have ht:((sB m).toList == [69,88])=true:=by rw [sB_eq];exact decide_eq_true hm
  have HM:=Lib.hid hm
  have CO:=fun w' h=>containsO_any A cap L (by unfold maxLen;omega) (3,1,0) w' h
  rw [hn] at CO
  have PP:=Lib.hid hP
  clear hm hP hn
  go_enter Tryz.func230,Tryz.ntmps230
  go_wp2
  obtain ⟨w1,hw1⟩:∃ w1,w.drew=w1:=⟨_,rfl⟩
  have X1:Hid (IxAt w1 b page op m (.slice A n cap) ex al ix):=by rw [← hw1];exact XX.out
  have O1:Hid (OwnT w1 B (.slice A n cap) L):=by rw [← hw1];exact OO.out.below (below_drewN w _ 1)
  have P1:Hid (OpsP w1 A L):=by rw [← hw1];exact PP.out.below (below_drewN w _ 1)
  have B1:Hid (Below w.heap.size w w1):=by rw [← hw1];exact below_drewN w _ 1
  have C1:Hid (w1.cell? ⟨b,3,none⟩=some (.slice A n cap)∧w1.cell? ⟨b,2,none⟩=some (.string (sB m))):=⟨X1.out.cells.2.2.2.1,X1.out.cells.2.2.1⟩
  refine Mixed.wp_region_mixed (fun w'=>w'.cell? ⟨b,3,none⟩=some (.slice A n cap)∧w'.cell? ⟨b,2,none⟩=some (.string (sB m))) 15 [(0,true),(1,true),(2,true),(3,true),(4,true),(5,true),(6,true),(7,true),(8,true),(9,true),(10,true),(11,true),(12,true),(13,true),(14,false)] (by kernel_rfl) (by kernel_rfl) (by rw [hw1];exact C1.out) ?_
  rw [hw1]
  clear XX OO PP hw1 C1 x0 x1 x2 x3 x4 x5 x6 x7
  refine Mixed.wpMix_move rfl (by kernel_rfl) _ rfl _ rfl ?_
  refine Mixed.wpMix_pure rfl (by kernel_rfl) (.pointer (some ⟨b,0,none⟩)) (fun w h=>by go_simp;try rfl) ?_
  refine Mixed.wpMix_pure rfl (by kernel_rfl) (.pointer (some ⟨b,0,none⟩)) (fun w h=>by go_simp;try rfl) ?_
  refine Mixed.wpMix_pure rfl (by kernel_rfl) (.pointer (some ⟨b,2,none⟩)) (fun w h=>by go_simp;try rfl) ?_
  refine Mixed.wpMix_pure rfl (by kernel_rfl) (.pointer (some ⟨b,2,none⟩)) (fun w h=>by go_simp;try rfl) ?_
  refine Mixed.wpMix_pure rfl (by kernel_rfl) (.string (sB m)) (fun w h=>by obtain ⟨-,h2⟩:=h;go_simp;try rfl) ?_
  refine Mixed.wpMix_pure rfl (by kernel_rfl) (.bool true) (fun w h=>by go_simp;try rfl) ?_
  refine Mixed.wpMix_pure rfl (by kernel_rfl) (.bool true) (fun w h=>by go_simp;try rfl) ?_
  refine Mixed.wpMix_pure rfl (by kernel_rfl) (.pointer (some ⟨b,0,none⟩)) (fun w h=>by go_simp;try rfl) ?_
  refine Mixed.wpMix_pure rfl (by kernel_rfl) (.pointer (some ⟨b,0,none⟩)) (fun w h=>by go_simp;try rfl) ?_
  refine Mixed.wpMix_pure rfl (by kernel_rfl) (.pointer (some ⟨b,0,none⟩)) (fun w h=>by go_simp;try rfl) ?_
  refine Mixed.wpMix_pure rfl (by kernel_rfl) (.pointer (some ⟨b,2,none⟩)) (fun w h=>by go_simp;try rfl) ?_
  refine Mixed.wpMix_pure rfl (by kernel_rfl) (.pointer (some ⟨b,3,none⟩)) (fun w h=>by go_simp;try rfl) ?_
  refine Mixed.wpMix_pure rfl (by kernel_rfl) (.slice A n cap) (fun w h=>by obtain ⟨h1,-⟩:=h;go_simp;try rfl) ?_
  refine Mixed.wpMix_loudG rfl (by kernel_rfl) ?_
  go_wp2_with fail
  refine (pair_any 1 w1).mono ?_
  rintro e w2 ⟨rfl,hb2⟩
  have X2:=Lib.hid (X1.out.all hb2)
  have O2:=Lib.hid (O1.out.below hb2)
  have P2:=Lib.hid (P1.out.below hb2)
  have B2:Hid (Below w.heap.size w w2):=B1.out.trans (hb2.mono B1.out.size)
  have xx:w2.cell? ⟨b,3,none⟩=some (.slice A n cap)∧w2.cell? ⟨b,2,none⟩=some (.string (sB m)):=⟨X2.out.cells.2.2.2.1,X2.out.cells.2.2.1⟩
  clear X1 O1 P1 B1 hb2
  go_wp2
  refine ⟨xx,?_⟩
  clear xx
  simp only [Mixed.wpMix,List.drop_succ_cons,List.drop_zero,trV]
  have CO2:=CO w2 P2.out
  clear CO
  obtain ⟨q,hq⟩:∃ q,decide (((3:Int),(1:Int),(0:Int))∈L)=q:=⟨_,rfl⟩
  have HQ:=Lib.hid hq
  rw [hq] at CO2
  clear hq
  go_wp2_with fail
  refine CO2.mono ?_
  rintro e w3 ⟨rfl,hb3⟩
  have X1:=Lib.hid (X2.out.all hb3)
  have O1:Hid (OwnT w3 B (.slice A n cap) (mpx ix L 0)):=O2.out.below hb3
  have F1:Hid (Fr w b (.slice A n cap) w3):=Fr.of_below (B2.out.trans (hb3.mono B2.out.size))
  have B1:Hid (Below B w w3):=(B2.out.trans (hb3.mono B2.out.size)).mono HBW.out
  clear X2 O2 P2 B2 hb3 CO2
  obtain ⟨x0,x1,x2,x3,x4,x5,x6,x7⟩:=X1.out.cells
  cases q
  ·have RB:Hid (tregB m ix L=anyX ix L):=by show tregB m ix L=_;unfold tregB;rw [HQ.out];simp
   go_wp2
   go_loopw [30,3] (fun i c wr=>∃ j:Nat,j≤n∧i=.int .i64 j∧c=.bool (anyX ix (L.take j))∧Hid (IxAt wr b page op m (.slice A n cap) ex al ix)∧Hid (OwnT wr B (.slice A n cap) (mpx ix L j))∧Hid (Below B w wr)∧Hid (Fr w b (.slice A n cap) wr)) (fun i _ _=>n - (intOf i).toNat)
   case atStart=>exact ⟨0,Nat.zero_le _,rfl,rfl,X1.out,O1.out,B1.out,F1.out⟩
   case round=>
    clear X1 O1 B1 F1
    obtain ⟨j,hj,rfl,rfl,XR,OR,BR,FR⟩:=hrel
    by_cases hlt:j<n
    ·have hjL:j<L.length:=by rw [HN.out];exact hlt
     have hml:(mpx ix L j).length=n:=by rw [mpx_len];exact HN.out
     obtain ⟨g,cap',hv,hBg,⟨cur,hcur⟩,hcs,hfz⟩:=OR.out.form (by omega)
     rw [hml] at hv
     cases hv
     have hgb:g≠b:=XR.out.apart hcur
     clear hcur
     obtain ⟨g0,g1,g2⟩:=hcs j (by rw [hml];exact hlt)
     rw [mpx_at ix L j hjL] at g0 g1 g2
     obtain ⟨⟨y0,y1,y2⟩,hy⟩:∃ y,L[j]=y:=⟨_,rfl⟩
     have HYJ:=Lib.hid hy
     rw [hy] at g0 g1 g2
     simp only at g0 g1 g2
     obtain ⟨x0,x1,x2,x3,x4,x5,x6,x7⟩:=XR.out.cells
     have hgw:g<wr.heap.size:=World.block_lt_of_cell? wr _ g0
     have hbw:b<wr.heap.size:=XR.out.lt
     have ANY:=anyX_succ ix L j hjL
     rw [hy] at ANY
     obtain ⟨ch,hch⟩:∃ c,anyX ix (L.take j)=c:=⟨_,rfl⟩
     rw [hch] at ANY ⊢
     have ANY:=Lib.hid ANY
     clear hcs hy hml hch
     go_upto_region 7 with fail
     obtain ⟨q,hq⟩:∃ q,wr.heap.size=q:=⟨_,rfl⟩
     obtain ⟨w2,hw2⟩:∃ w2,(wr.alloc (.cells #[.int .i64 y0,.int .i64 y1,.int .i64 y2] 55)).drew=w2:=⟨_,rfl⟩
     have hal:Below wr.heap.size wr w2:=by rw [← hw2];exact ((Below.refl _ _).alloc (Nat.le_refl _) _).drew
     have X2:=Lib.hid (XR.out.all hal)
     have O2:=Lib.hid (OR.out.below hal)
     have B2:Hid (Below B w w2):=BR.out.trans (hal.mono (by omega))
     have F2:Hid (Fr w b (.slice (some ⟨g,0,none⟩) n cap) w2):=FR.out.below hal
     have Q2:w2.heap[q]?=some (.cells #[.int .i64 y0,.int .i64 y1,.int .i64 y2] 55 (0,0)):=by rw [← hw2,← hq];exact World.alloc_heap_new wr _
     have hgq:g<q:=by rw [← hq];exact hgw
     have hbq:b<q:=by rw [← hq];exact hbw
     have QQ:=Lib.hid Q2
     have C2:Hid (w2.cell? ⟨b,3,none⟩=some (.slice (some ⟨g,0,none⟩) n cap)∧w2.cell? ⟨q,0,none⟩=some (.int .i64 y0)∧w2.cell? ⟨q,1,none⟩=some (.int .i64 y1)∧w2.cell? ⟨q,2,none⟩=some (.int .i64 y2)):=⟨X2.out.cells.2.2.2.1,Lib.cell_of_heap Q2 0,Lib.cell_of_heap Q2 1,Lib.cell_of_heap Q2 2⟩
     refine Mixed.wp_region_mixed (fun w'=>w'.cell? ⟨b,3,none⟩=some (.slice (some ⟨g,0,none⟩) n cap)∧w'.cell? ⟨q,0,none⟩=some (.int .i64 y0)∧w'.cell? ⟨q,1,none⟩=some (.int .i64 y1)∧w'.cell? ⟨q,2,none⟩=some (.int .i64 y2)) 10 [(0,true),(1,true),(2,true),(3,true),(4,true),(5,true),(6,true),(7,true),(8,true),(9,false)] (by kernel_rfl) (by kernel_rfl) (by rw [hw2];exact C2.out) ?_
     rw [hw2]
     clear XR OR BR FR hal hw2 x0 x1 x2 x3 x4 x5 x6 x7 g0 g1 g2 hfz C2 Q2 hgw hbw
     refine Mixed.wpMix_move rfl (by kernel_rfl) _ rfl _ rfl ?_
     refine Mixed.wpMix_pure rfl (by kernel_rfl) (.pointer (some ⟨b,0,none⟩)) (fun w h=>by go_simp;try rfl) ?_
     refine Mixed.wpMix_pure rfl (by kernel_rfl) (.pointer (some ⟨b,0,none⟩)) (fun w h=>by go_simp;try rfl) ?_
     refine Mixed.wpMix_pure rfl (by kernel_rfl) (.pointer (some ⟨b,2,none⟩)) (fun w h=>by go_simp;try rfl) ?_
     refine Mixed.wpMix_pure rfl (by kernel_rfl) (.pointer (some ⟨b,3,none⟩)) (fun w h=>by go_simp;try rfl) ?_
     refine Mixed.wpMix_pure rfl (by kernel_rfl) (.slice (some ⟨g,0,none⟩) n cap) (fun w h=>by obtain ⟨h1,-⟩:=h;go_simp;try rfl) ?_
     refine Mixed.wpMix_pure rfl (by kernel_rfl) (.int .i64 j) (fun w h=>by go_simp;try rfl) ?_
     refine Mixed.wpMix_pure rfl (by kernel_rfl) (.pointer (some ⟨b,0,none⟩)) (fun w h=>by go_simp;try rfl) ?_
     refine Mixed.wpMix_pure rfl (by kernel_rfl) (.agg #[.int .i64 y0,.int .i64 y1,.int .i64 y2]) (fun w h=>by obtain ⟨-,h1,h2,h3⟩:=h;subst hq;go_simp;try rfl) ?_
     refine Mixed.wpMix_loudG rfl (by kernel_rfl) ?_
     have hcall:=opx_any b ix HI.out (y0,y1,y2) w2 X2.out.cells.2.2.2.2.2.2.1
     obtain ⟨⟨z0,z1,z2⟩,hz⟩:∃ z,opX ix (y0,y1,y2)=z:=⟨_,rfl⟩
     have HZ:=Lib.hid hz
     rw [hz] at hcall
     simp only [trV] at hcall
     clear hz
     go_wp2_with fail
     refine hcall.mono ?_
     rintro e w4 ⟨rfl,hb4⟩
     have X4:=Lib.hid (X2.out.all hb4)
     have O4:=Lib.hid (O2.out.below hb4)
     have B4:Hid (Below B w w4):=B2.out.trans (hb4.mono (by have:=X2.out.lt;omega))
     have F4:Hid (Fr w b (.slice (some ⟨g,0,none⟩) n cap) w4):=F2.out.below hb4
     have Q4:=Lib.hid ((hb4.block q (Array.getElem?_eq_some_iff.1 QQ.out).1).trans QQ.out)
     have xx:w4.cell? ⟨b,3,none⟩=some (.slice (some ⟨g,0,none⟩) n cap)∧w4.cell? ⟨q,0,none⟩=some (.int .i64 y0)∧w4.cell? ⟨q,1,none⟩=some (.int .i64 y1)∧w4.cell? ⟨q,2,none⟩=some (.int .i64 y2):=⟨X4.out.cells.2.2.2.1,Lib.cell_of_heap Q4.out 0,Lib.cell_of_heap Q4.out 1,Lib.cell_of_heap Q4.out 2⟩
     clear hb4 hcall X2 O2 B2 F2 QQ
     go_wp2
     refine ⟨xx,?_⟩
     clear xx
     simp only [Mixed.wpMix,List.drop_succ_cons,List.drop_zero]
     have hml:(mpx ix L j).length=n:=by rw [mpx_len];exact HN.out
     obtain ⟨g',cap'',hv,-,-,hcs,hfz⟩:=O4.out.form (by omega)
     rw [hml] at hv
     cases hv
     obtain ⟨g0,g1,g2⟩:=hcs j (by rw [hml];exact hlt)
     rw [mpx_at ix L j hjL] at g0 g1 g2
     have O5:Hid (OwnT (((w4.setCell ⟨g,j*3,none⟩ (.int .i64 z0)).setCell ⟨g,j*3+1,none⟩ (.int .i64 z1)).setCell ⟨g,j*3+2,none⟩ (.int .i64 z2)) B (.slice (some ⟨g,0,none⟩) n cap) (mpx ix L (j+1))):=by
      have h:=O4.out.put3 hml j hlt (z0,z1,z2)
      rw [mpx_succ ix L j hjL,HYJ.out,HZ.out]
      exact h
     have X5:Hid (IxAt (((w4.setCell ⟨g,j*3,none⟩ (.int .i64 z0)).setCell ⟨g,j*3+1,none⟩ (.int .i64 z1)).setCell ⟨g,j*3+2,none⟩ (.int .i64 z2)) b page op m (.slice (some ⟨g,0,none⟩) n cap) ex al ix):=((X4.out.other hgb.symm _ _).other hgb.symm _ _).other hgb.symm _ _
     have B5:Hid (Below B w (((w4.setCell ⟨g,j*3,none⟩ (.int .i64 z0)).setCell ⟨g,j*3+1,none⟩ (.int .i64 z1)).setCell ⟨g,j*3+2,none⟩ (.int .i64 z2))):=
      ((B4.out.setCell (p:=⟨g,j*3,none⟩) (by simp;omega) _).setCell (p:=⟨g,j*3+1,none⟩) (by simp;omega) _).setCell (p:=⟨g,j*3+2,none⟩) (by simp;omega) _
     have F5:Hid (Fr w b (.slice (some ⟨g,0,none⟩) n cap) (((w4.setCell ⟨g,j*3,none⟩ (.int .i64 z0)).setCell ⟨g,j*3+1,none⟩ (.int .i64 z1)).setCell ⟨g,j*3+2,none⟩ (.int .i64 z2))):=((F4.out.set (p:=⟨g,j*3,none⟩) (.inr rfl) _).set (p:=⟨g,j*3+1,none⟩) (.inr rfl) _).set (p:=⟨g,j*3+2,none⟩) (.inr rfl) _
     have Q5:Hid ((((w4.setCell ⟨g,j*3,none⟩ (.int .i64 z0)).setCell ⟨g,j*3+1,none⟩ (.int .i64 z1)).setCell ⟨g,j*3+2,none⟩ (.int .i64 z2)).heap[q]?=some (.cells #[.int .i64 y0,.int .i64 y1,.int .i64 y2] 55 (0,0))):=
      (heap_setCell_other _ ⟨g,j*3+2,none⟩ q _ (by simp;omega)).trans ((heap_setCell_other _ ⟨g,j*3+1,none⟩ q _ (by simp;omega)).trans ((heap_setCell_other _ ⟨g,j*3,none⟩ q _ (by simp;omega)).trans Q4.out))
     clear hcs hml
     simp only [trV]
     go_upto_region 8 with fail
     obtain ⟨w5,hw5⟩:∃ w5,((w4.setCell ⟨g,j*3,none⟩ (.int .i64 z0)).setCell ⟨g,j*3+1,none⟩ (.int .i64 z1)).setCell ⟨g,j*3+2,none⟩ (.int .i64 z2)=w5:=⟨_,rfl⟩
     rw [hw5] at O5 X5 B5 Q5 F5 ⊢
     clear hw5 g0 g1 g2 hfz O4 X4 B4 Q4 F4
     have hml:(mpx ix L (j+1)).length=n:=by rw [mpx_len];exact HN.out
     obtain ⟨g',cap'',hv,-,-,hcs,-⟩:=O5.out.form (by omega)
     rw [hml] at hv
     cases hv
     obtain ⟨g0,g1,g2⟩:=hcs j (by rw [hml];exact hlt)
     rw [mpx_at2 ix L j hjL,HYJ.out,HZ.out] at g0 g1 g2
     simp only at g0 g1 g2
     obtain ⟨x0,x1,x2,x3,x4,x5,x6,x7⟩:=X5.out.cells
     have o0:=Lib.cell_of_heap Q5.out 0
     have o1:=Lib.cell_of_heap Q5.out 1
     have o2:=Lib.cell_of_heap Q5.out 2
     have hneq:∀ w,(binOp .neq 55 (.agg #[.int .i64 z0,.int .i64 z1,.int .i64 z2]) (.agg #[.int .i64 y0,.int .i64 y1,.int .i64 y2])).run Tryz.prog w=.ok (.bool (!decide ((z0,z1,z2)=(y0,y1,y2)))) w:=fun w=>opd_neq (z0,z1,z2) (y0,y1,y2) w
     rw [HZ.out] at ANY
     obtain ⟨d,hd⟩:∃ d,(!decide ((z0,z1,z2)=(y0,y1,y2)))=d:=⟨_,rfl⟩
     rw [hd] at hneq ANY
     clear hcs hml hd
     have hlt2:=hlt
     cases ch
     ·have AN:Hid (anyX ix (L.take (j+1))=d):=ANY.out
      go_wp2
      go_quiet (fail)
      go_wp2
      go_roundw
      case rel=>exact ⟨j+1,by omega,by go_num,by rw [AN.out],X5.out.all (below_drewN _ _ _),O5.out.below (below_drewN _ _ _),B5.out.trans (below_drewN _ _ _),F5.out.below (below_drewN _ _ _)⟩
      case measure=>simp [intOf];omega
     ·have AN:Hid (anyX ix (L.take (j+1))=true):=ANY.out
      go_wp2
      go_quiet (fail)
      go_wp2
      go_roundw
      case rel=>exact ⟨j+1,by omega,by go_num,by rw [AN.out],X5.out.all (below_drewN _ _ _),O5.out.below (below_drewN _ _ _),B5.out.trans (below_drewN _ _ _),F5.out.below (below_drewN _ _ _)⟩
      case measure=>simp [intOf];omega
    ·obtain rfl:j=n:=by omega
     have ALL:Hid (anyX ix (L.take j)=tregB m ix L):=by
      show anyX ix (L.take j)=tregB m ix L
      rw [RB.out,← HN.out,List.take_length]
     have OA:Hid (OwnT wr B (.slice A j cap) (L.map (opX ix))):=by
      have h:=OR.out
      rw [← HN.out,mpx_all] at h
      rw [← HN.out]
      exact h
     go_wp2
     go_ret
     exact ⟨ret_bool ALL.out,XR.out,fun _=>OA.out,BR.out,FR.out⟩
  ·have RB:Hid (tregB m ix L=false):=by show tregB m ix L=_;unfold tregB;rw [HQ.out,HM.out];rfl
   go_wp2
   go_ret
   exact ⟨ret_bool RB.out.symm,X1.out,fun h=>absurd h (by rw [RB.out];decide),B1.out,F1.out⟩
 ·have ht:((sB m).toList == [69,88])=false:=by rw [sB_eq];exact decide_eq_false hm
  have RB:Hid (tregB m ix L=anyX ix L):=by show tregB m ix L=_;unfold tregB;rw [decide_eq_false hm];rfl
  clear hm hP hn
  go_enter Tryz.func230,Tryz.ntmps230
  go_wp2
  go_quiet (fail)
  obtain ⟨w1,hw1⟩:∃ w1,w.drewN nq=w1:=⟨_,rfl⟩
  have X1:Hid (IxAt w1 b page op m (.slice A n cap) ex al ix):=by rw [← hw1];exact XX.out
  have O1:Hid (OwnT w1 B (.slice A n cap) (mpx ix L 0)):=by rw [← hw1];exact OO.out.below (below_drewN w _ nq)
  have B1:Hid (Below B w w1):=by rw [← hw1];exact below_drewN w _ nq
  have F1:Hid (Fr w b (.slice A n cap) w1):=Fr.of_below (by rw [← hw1];exact below_drewN w _ nq)
  rw [hw1]
  clear XX OO hw1 x0 x1 x2 x3 x4 x5 x6 x7
  obtain ⟨x0,x1,x2,x3,x4,x5,x6,x7⟩:=X1.out.cells
  go_wp2
  go_loopw [30,3] (fun i c wr=>∃ j:Nat,j≤n∧i=.int .i64 j∧c=.bool (anyX ix (L.take j))∧Hid (IxAt wr b page op m (.slice A n cap) ex al ix)∧Hid (OwnT wr B (.slice A n cap) (mpx ix L j))∧Hid (Below B w wr)∧Hid (Fr w b (.slice A n cap) wr)) (fun i _ _=>n - (intOf i).toNat)
  case atStart=>exact ⟨0,Nat.zero_le _,rfl,rfl,X1.out,O1.out,B1.out,F1.out⟩
  case round=>
   clear X1 O1 B1 F1
   obtain ⟨j,hj,rfl,rfl,XR,OR,BR,FR⟩:=hrel
   by_cases hlt:j<n
   ·have hjL:j<L.length:=by rw [HN.out];exact hlt
    have hml:(mpx ix L j).length=n:=by rw [mpx_len];exact HN.out
    obtain ⟨g,cap',hv,hBg,⟨cur,hcur⟩,hcs,hfz⟩:=OR.out.form (by omega)
    rw [hml] at hv
    cases hv
    have hgb:g≠b:=XR.out.apart hcur
    clear hcur
    obtain ⟨g0,g1,g2⟩:=hcs j (by rw [hml];exact hlt)
    rw [mpx_at ix L j hjL] at g0 g1 g2
    obtain ⟨⟨y0,y1,y2⟩,hy⟩:∃ y,L[j]=y:=⟨_,rfl⟩
    have HYJ:=Lib.hid hy
    rw [hy] at g0 g1 g2
    simp only at g0 g1 g2
    obtain ⟨x0,x1,x2,x3,x4,x5,x6,x7⟩:=XR.out.cells
    have hgw:g<wr.heap.size:=World.block_lt_of_cell? wr _ g0
    have hbw:b<wr.heap.size:=XR.out.lt
    have ANY:=anyX_succ ix L j hjL
    rw [hy] at ANY
    obtain ⟨ch,hch⟩:∃ c,anyX ix (L.take j)=c:=⟨_,rfl⟩
    rw [hch] at ANY ⊢
    have ANY:=Lib.hid ANY
    clear hcs hy hml hch
    go_upto_region 7 with fail
    obtain ⟨q,hq⟩:∃ q,wr.heap.size=q:=⟨_,rfl⟩
    obtain ⟨w2,hw2⟩:∃ w2,(wr.alloc (.cells #[.int .i64 y0,.int .i64 y1,.int .i64 y2] 55)).drew=w2:=⟨_,rfl⟩
    have hal:Below wr.heap.size wr w2:=by rw [← hw2];exact ((Below.refl _ _).alloc (Nat.le_refl _) _).drew
    have X2:=Lib.hid (XR.out.all hal)
    have O2:=Lib.hid (OR.out.below hal)
    have B2:Hid (Below B w w2):=BR.out.trans (hal.mono (by omega))
    have F2:Hid (Fr w b (.slice (some ⟨g,0,none⟩) n cap) w2):=FR.out.below hal
    have Q2:w2.heap[q]?=some (.cells #[.int .i64 y0,.int .i64 y1,.int .i64 y2] 55 (0,0)):=by rw [← hw2,← hq];exact World.alloc_heap_new wr _
    have hgq:g<q:=by rw [← hq];exact hgw
    have hbq:b<q:=by rw [← hq];exact hbw
    have QQ:=Lib.hid Q2
    have C2:Hid (w2.cell? ⟨b,3,none⟩=some (.slice (some ⟨g,0,none⟩) n cap)∧w2.cell? ⟨q,0,none⟩=some (.int .i64 y0)∧w2.cell? ⟨q,1,none⟩=some (.int .i64 y1)∧w2.cell? ⟨q,2,none⟩=some (.int .i64 y2)):=⟨X2.out.cells.2.2.2.1,Lib.cell_of_heap Q2 0,Lib.cell_of_heap Q2 1,Lib.cell_of_heap Q2 2⟩
    refine Mixed.wp_region_mixed (fun w'=>w'.cell? ⟨b,3,none⟩=some (.slice (some ⟨g,0,none⟩) n cap)∧w'.cell? ⟨q,0,none⟩=some (.int .i64 y0)∧w'.cell? ⟨q,1,none⟩=some (.int .i64 y1)∧w'.cell? ⟨q,2,none⟩=some (.int .i64 y2)) 10 [(0,true),(1,true),(2,true),(3,true),(4,true),(5,true),(6,true),(7,true),(8,true),(9,false)] (by kernel_rfl) (by kernel_rfl) (by rw [hw2];exact C2.out) ?_
    rw [hw2]
    clear XR OR BR FR hal hw2 x0 x1 x2 x3 x4 x5 x6 x7 g0 g1 g2 hfz C2 Q2 hgw hbw
    refine Mixed.wpMix_move rfl (by kernel_rfl) _ rfl _ rfl ?_
    refine Mixed.wpMix_pure rfl (by kernel_rfl) (.pointer (some ⟨b,0,none⟩)) (fun w h=>by go_simp;try rfl) ?_
    refine Mixed.wpMix_pure rfl (by kernel_rfl) (.pointer (some ⟨b,0,none⟩)) (fun w h=>by go_simp;try rfl) ?_
    refine Mixed.wpMix_pure rfl (by kernel_rfl) (.pointer (some ⟨b,2,none⟩)) (fun w h=>by go_simp;try rfl) ?_
    refine Mixed.wpMix_pure rfl (by kernel_rfl) (.pointer (some ⟨b,3,none⟩)) (fun w h=>by go_simp;try rfl) ?_
    refine Mixed.wpMix_pure rfl (by kernel_rfl) (.slice (some ⟨g,0,none⟩) n cap) (fun w h=>by obtain ⟨h1,-⟩:=h;go_simp;try rfl) ?_
    refine Mixed.wpMix_pure rfl (by kernel_rfl) (.int .i64 j) (fun w h=>by go_simp;try rfl) ?_
    refine Mixed.wpMix_pure rfl (by kernel_rfl) (.pointer (some ⟨b,0,none⟩)) (fun w h=>by go_simp;try rfl) ?_
    refine Mixed.wpMix_pure rfl (by kernel_rfl) (.agg #[.int .i64 y0,.int .i64 y1,.int .i64 y2]) (fun w h=>by obtain ⟨-,h1,h2,h3⟩:=h;subst hq;go_simp;try rfl) ?_
    refine Mixed.wpMix_loudG rfl (by kernel_rfl) ?_
    have hcall:=opx_any b ix HI.out (y0,y1,y2) w2 X2.out.cells.2.2.2.2.2.2.1
    obtain ⟨⟨z0,z1,z2⟩,hz⟩:∃ z,opX ix (y0,y1,y2)=z:=⟨_,rfl⟩
    have HZ:=Lib.hid hz
    rw [hz] at hcall
    simp only [trV] at hcall
    clear hz
    go_wp2_with fail
    refine hcall.mono ?_
    rintro e w4 ⟨rfl,hb4⟩
    have X4:=Lib.hid (X2.out.all hb4)
    have O4:=Lib.hid (O2.out.below hb4)
    have B4:Hid (Below B w w4):=B2.out.trans (hb4.mono (by have:=X2.out.lt;omega))
    have F4:Hid (Fr w b (.slice (some ⟨g,0,none⟩) n cap) w4):=F2.out.below hb4
    have Q4:=Lib.hid ((hb4.block q (Array.getElem?_eq_some_iff.1 QQ.out).1).trans QQ.out)
    have xx:w4.cell? ⟨b,3,none⟩=some (.slice (some ⟨g,0,none⟩) n cap)∧w4.cell? ⟨q,0,none⟩=some (.int .i64 y0)∧w4.cell? ⟨q,1,none⟩=some (.int .i64 y1)∧w4.cell? ⟨q,2,none⟩=some (.int .i64 y2):=⟨X4.out.cells.2.2.2.1,Lib.cell_of_heap Q4.out 0,Lib.cell_of_heap Q4.out 1,Lib.cell_of_heap Q4.out 2⟩
    clear hb4 hcall X2 O2 B2 F2 QQ
    go_wp2
    refine ⟨xx,?_⟩
    clear xx
    simp only [Mixed.wpMix,List.drop_succ_cons,List.drop_zero]
    have hml:(mpx ix L j).length=n:=by rw [mpx_len];exact HN.out
    obtain ⟨g',cap'',hv,-,-,hcs,hfz⟩:=O4.out.form (by omega)
    rw [hml] at hv
    cases hv
    obtain ⟨g0,g1,g2⟩:=hcs j (by rw [hml];exact hlt)
    rw [mpx_at ix L j hjL] at g0 g1 g2
    have O5:Hid (OwnT (((w4.setCell ⟨g,j*3,none⟩ (.int .i64 z0)).setCell ⟨g,j*3+1,none⟩ (.int .i64 z1)).setCell ⟨g,j*3+2,none⟩ (.int .i64 z2)) B (.slice (some ⟨g,0,none⟩) n cap) (mpx ix L (j+1))):=by
     have h:=O4.out.put3 hml j hlt (z0,z1,z2)
     rw [mpx_succ ix L j hjL,HYJ.out,HZ.out]
     exact h
    have X5:Hid (IxAt (((w4.setCell ⟨g,j*3,none⟩ (.int .i64 z0)).setCell ⟨g,j*3+1,none⟩ (.int .i64 z1)).setCell ⟨g,j*3+2,none⟩ (.int .i64 z2)) b page op m (.slice (some ⟨g,0,none⟩) n cap) ex al ix):=((X4.out.other hgb.symm _ _).other hgb.symm _ _).other hgb.symm _ _
    have B5:Hid (Below B w (((w4.setCell ⟨g,j*3,none⟩ (.int .i64 z0)).setCell ⟨g,j*3+1,none⟩ (.int .i64 z1)).setCell ⟨g,j*3+2,none⟩ (.int .i64 z2))):=
     ((B4.out.setCell (p:=⟨g,j*3,none⟩) (by simp;omega) _).setCell (p:=⟨g,j*3+1,none⟩) (by simp;omega) _).setCell (p:=⟨g,j*3+2,none⟩) (by simp;omega) _
    have F5:Hid (Fr w b (.slice (some ⟨g,0,none⟩) n cap) (((w4.setCell ⟨g,j*3,none⟩ (.int .i64 z0)).setCell ⟨g,j*3+1,none⟩ (.int .i64 z1)).setCell ⟨g,j*3+2,none⟩ (.int .i64 z2))):=((F4.out.set (p:=⟨g,j*3,none⟩) (.inr rfl) _).set (p:=⟨g,j*3+1,none⟩) (.inr rfl) _).set (p:=⟨g,j*3+2,none⟩) (.inr rfl) _
    have Q5:Hid ((((w4.setCell ⟨g,j*3,none⟩ (.int .i64 z0)).setCell ⟨g,j*3+1,none⟩ (.int .i64 z1)).setCell ⟨g,j*3+2,none⟩ (.int .i64 z2)).heap[q]?=some (.cells #[.int .i64 y0,.int .i64 y1,.int .i64 y2] 55 (0,0))):=
     (heap_setCell_other _ ⟨g,j*3+2,none⟩ q _ (by simp;omega)).trans ((heap_setCell_other _ ⟨g,j*3+1,none⟩ q _ (by simp;omega)).trans ((heap_setCell_other _ ⟨g,j*3,none⟩ q _ (by simp;omega)).trans Q4.out))
    clear hcs hml
    simp only [trV]
    go_upto_region 8 with fail
    obtain ⟨w5,hw5⟩:∃ w5,((w4.setCell ⟨g,j*3,none⟩ (.int .i64 z0)).setCell ⟨g,j*3+1,none⟩ (.int .i64 z1)).setCell ⟨g,j*3+2,none⟩ (.int .i64 z2)=w5:=⟨_,rfl⟩
    rw [hw5] at O5 X5 B5 Q5 F5 ⊢
    clear hw5 g0 g1 g2 hfz O4 X4 B4 Q4 F4
    have hml:(mpx ix L (j+1)).length=n:=by rw [mpx_len];exact HN.out
    obtain ⟨g',cap'',hv,-,-,hcs,-⟩:=O5.out.form (by omega)
    rw [hml] at hv
    cases hv
    obtain ⟨g0,g1,g2⟩:=hcs j (by rw [hml];exact hlt)
    rw [mpx_at2 ix L j hjL,HYJ.out,HZ.out] at g0 g1 g2
    simp only at g0 g1 g2
    obtain ⟨x0,x1,x2,x3,x4,x5,x6,x7⟩:=X5.out.cells
    have o0:=Lib.cell_of_heap Q5.out 0
    have o1:=Lib.cell_of_heap Q5.out 1
    have o2:=Lib.cell_of_heap Q5.out 2
    have hneq:∀ w,(binOp .neq 55 (.agg #[.int .i64 z0,.int .i64 z1,.int .i64 z2]) (.agg #[.int .i64 y0,.int .i64 y1,.int .i64 y2])).run Tryz.prog w=.ok (.bool (!decide ((z0,z1,z2)=(y0,y1,y2)))) w:=fun w=>opd_neq (z0,z1,z2) (y0,y1,y2) w
    rw [HZ.out] at ANY
    obtain ⟨d,hd⟩:∃ d,(!decide ((z0,z1,z2)=(y0,y1,y2)))=d:=⟨_,rfl⟩
    rw [hd] at hneq ANY
    clear hcs hml hd
    have hlt2:=hlt
    cases ch
    ·have AN:Hid (anyX ix (L.take (j+1))=d):=ANY.out
     go_wp2
     go_quiet (fail)
     go_wp2
     go_roundw
     case rel=>exact ⟨j+1,by omega,by go_num,by rw [AN.out],X5.out.all (below_drewN _ _ _),O5.out.below (below_drewN _ _ _),B5.out.trans (below_drewN _ _ _),F5.out.below (below_drewN _ _ _)⟩
     case measure=>simp [intOf];omega
    ·have AN:Hid (anyX ix (L.take (j+1))=true):=ANY.out
     go_wp2
     go_quiet (fail)
     go_wp2
     go_roundw
     case rel=>exact ⟨j+1,by omega,by go_num,by rw [AN.out],X5.out.all (below_drewN _ _ _),O5.out.below (below_drewN _ _ _),B5.out.trans (below_drewN _ _ _),F5.out.below (below_drewN _ _ _)⟩
     case measure=>simp [intOf];omega
   ·obtain rfl:j=n:=by omega
    have ALL:Hid (anyX ix (L.take j)=tregB m ix L):=by
     show anyX ix (L.take j)=tregB m ix L
     rw [RB.out,← HN.out,List.take_length]
    have OA:Hid (OwnT wr B (.slice A j cap) (L.map (opX ix))):=by
     have h:=OR.out
     rw [← HN.out,mpx_all] at h
     rw [← HN.out]
     exact h
    go_wp2
    go_ret
    exact ⟨ret_bool ALL.out,XR.out,fun _=>OA.out,BR.out,FR.out⟩
end Go.Proofs.YtajlleeonddinaaGreatDoor
namespace Go.Proofs.YtajlleeonddinaaGreatDoor
open Go.RowKit Go.Shelf
attribute [local irreducible] Go.Mixed.wpMix
def withP (m:Str) (ix:Int) (L:List Tr) (ex:Str):Option (List Tr×Str):=
 if memB m L then some (repM ix L,100 :: ex) else if tregB m ix L then some (L.map (opX ix),ex) else none
theorem with_start (w:World) (page op ix:Int) (m ex:Str) (v:Value) (al:Bool):∃ w1,((w.alloc (.cells #[.int .i64 page,.int .u8 op,.string (sB m),v,.string (sB ex),.bool al] 134)).alloc (.cells #[.int .i64 0,.int .u8 0,.string ⟨#[]⟩,.slice none 0 0,.string ⟨#[]⟩,.bool false] 134)).alloc (.cells #[.int .i64 page,.int .u8 op,.string (sB m),v,.string (sB ex),.bool al,.int .i64 ix] 288)=w1∧
  EnAt w1 (w.heap.size+1) 0 0 [] (.slice none 0 0) [] false∧IxAt w1 (w.heap.size+1+1) page op m v ex al ix∧Below w.heap.size w w1:=by
 refine ⟨_,rfl,(Below.heap_alloc _ _ _ (by simp)).trans ?_,?_,(((Below.refl _ w).alloc (Nat.le_refl _) _).alloc (by simp) _).alloc (by simp;omega) _⟩
 ·have h:=World.alloc_heap_new (w.alloc (.cells #[.int .i64 page,.int .u8 op,.string (sB m),v,.string (sB ex),.bool al] 134)) (.cells #[.int .i64 0,.int .u8 0,.string ⟨#[]⟩,.slice none 0 0,.string ⟨#[]⟩,.bool false] 134)
  rw [World.size_alloc] at h
  exact h
 ·have h:=World.alloc_heap_new ((w.alloc (.cells #[.int .i64 page,.int .u8 op,.string (sB m),v,.string (sB ex),.bool al] 134)).alloc (.cells #[.int .i64 0,.int .u8 0,.string ⟨#[]⟩,.slice none 0 0,.string ⟨#[]⟩,.bool false] 134)) (.cells #[.int .i64 page,.int .u8 op,.string (sB m),v,.string (sB ex),.bool al,.int .i64 ix] 288)
  rw [World.size_alloc,World.size_alloc] at h
  exact h
theorem own_types {w:World} {B:Nat} {v:Value} {L:List Tr} (h:OwnT w B v L) {g:Nat} (hg:v.ownBlock=some g):∃ cur,w.heap[g]?=some (.cells cur 55 (0,0)):=by
 rcases h.2 with ⟨rfl,_⟩ | ⟨g',cap,cur,rfl,_,h2,_⟩
 ·cases hg
 ·cases hg
  exact ⟨cur,h2⟩
def RetWith (w:World) (B:Nat) (page op:Int) (m:Str) (v:Value) (al:Bool) (x:Option (List Tr×Str)) (e:Ending) (w':World):Prop:=
 (match x with
  | some y=>e=.returned (.tuple #[enV page op m v y.2 al,.bool true])∧OwnT w' B v y.1
  | none=>e=.returned (.tuple #[enV 0 0 [] (.slice none 0 0) [] false,.bool false]))∧Below B w w'
theorem put_own {w w':World} {b B:Nat} {page op:Int} {m ex:Str} {v u:Value} {al:Bool} {L:List Tr} (h:EnAt w b page op m v ex al) (O:OwnT w B u L) (k:∀ k,k≠b→w'.heap[k]?=w.heap[k]?):OwnT w' B u L:=by
 have hs:∀ g cur,w.heap[g]?=some (.cells cur 55 (0,0))→g≠b:=fun g cur hg e=>by
  subst e
  rw [show w.heap[g]?=_ from h] at hg
  simp at hg
 refine ⟨O.1,?_⟩
 rcases O.2 with h2 | ⟨g,cap,cur,h3,h4,h5,h6⟩
 ·exact .inl h2
 ·exact .inr ⟨g,cap,cur,h3,h4,(k g (hs g cur h5)).trans h5,h6⟩
theorem bool3 (a b:Bool):a=true∨(a=false∧b=true)∨(a=false∧b=false):=by cases a <;> cases b <;> simp
theorem with_any (B:Nat) (page op:Int) (m:Str) (v:Value) (ex:Str) (al:Bool) (ix:Int) (hix:ix=5∨ix=6) (L:List Tr) (hL:L.length≤100) (hex:ex.length≤1000) (w:World)
  (O:OwnT w B v L) (hB:B≤w.heap.size):Calls Tryz.prog 202 #[enV page op m v ex al,.int .i64 ix] w (RetWith w B page op m v al (withP m ix L ex)):=by
 unfold enV
 obtain ⟨A,cap,rfl,-,-⟩:=O.ops
 obtain ⟨n,hn⟩:∃ n,w.heap.size=n:=⟨_,rfl⟩
 obtain ⟨w1,hw1,R1,X1,B1⟩:=with_start w page op ix m ex (.slice A L.length cap) al
 have O1:=Lib.hid (O.below B1)
 rw [hn] at R1 X1 B1 hB
 have hm1:=repMem_any (n+1+1) B page op m _ ex al ix L hL hex w1 X1 O1.out (by omega)
 have R1:=Lib.hid R1
 have X1:=Lib.hid X1
 have B1:Hid (Below B w w1):=B1.mono hB
 have RG:=fun w2 (h1:IxAt w2 (n+1+1) page op m (.slice A L.length cap) ex al ix) h2=>repReg_any (n+1+1) B page op m _ ex al ix hix L hL w2 h1 h2 (by omega)
 have RG:=Lib.hid RG
 clear O hL hex
 have HN1:Hid (n+1<w1.heap.size):=by have:=X1.out.lt;show _<_;omega
 go_enter Tryz.func202,Tryz.ntmps202
 go_wp2_with fail
 refine hm1.mono ?_
 rintro e w2 ⟨rfl,X2,O2,hb2,F2⟩
 have B2:Hid (Below B w w2):=B1.out.trans hb2
 have RA:∀ (u:World),Fr w1 (n+1+1) (.slice A L.length cap) u→EnAt u (n+1) 0 0 [] (.slice none 0 0) [] false:=fun u hu=>by
  refine (hu.same (n+1) HN1.out (by omega) ?_).trans R1.out
  intro hg
  obtain ⟨cur,hg2⟩:=own_types O1.out hg
  have h:=R1.out
  unfold EnAt at h
  rw [hg2] at h
  simp at h
 have R2:=Lib.hid (RA w2 F2)
 have RA:=Lib.hid RA
 have F2:=Lib.hid F2
 clear hm1 hw1 X1 O1 B1 R1
 rcases bool3 (memB m L) (tregB m ix L) with h1 | ⟨h1,h3⟩ | ⟨h1,h3⟩
 ·have T:Hid (withP m ix L ex=some (repM ix L,100 :: ex)):=by show withP m ix L ex=_;unfold withP;rw [if_pos h1]
  rw [h1] at X2 O2 ⊢
  rw [if_pos rfl] at X2 O2
  have X2:=Lib.hid X2
  have O2:=Lib.hid O2
  clear h1 RG
  obtain ⟨x0,x1,x2,x3,x4,x5,x6,x7⟩:=X2.out.cells
  obtain ⟨r0,r1,r2,r3,r4,r5,r6⟩:=R2.out.cells
  go_wp2
  obtain ⟨w7,hw7,q,q2,q3,-,q4⟩:=R2.out.put page op m (.slice A L.length cap) (100 :: ex) al
  rw [hw7]
  obtain ⟨q0,q1,q2',q3',q4',q5,-⟩:=q.cells
  refine bodyPost_ret (v:=.tuple #[enV page op m (.slice A L.length cap) (100 :: ex) al,.bool true]) ?_ rfl ?_
  ·simp [results,Tryz.results202,go_sem,q0,q1,q2',q3',q4',q5,enV]
  ·rw [T.out]
   exact ⟨⟨rfl,put_own R2.out O2.out q4⟩,B2.out.trans (q2.mono (by omega))⟩
 ·have T:Hid (withP m ix L ex=some (L.map (opX ix),ex)):=by show withP m ix L ex=_;unfold withP;rw [if_neg (by rw [h1];decide),if_pos h3]
  rw [h1] at X2 O2 ⊢
  rw [if_neg (by decide)] at X2 O2
  have hm2:=RG.out w2 X2 O2
  have X2:=Lib.hid X2
  go_wp2_with fail
  refine hm2.mono ?_
  rintro e w3 ⟨rfl,X3,O3,hb3,F3⟩
  have O3:=O3 h3
  have R3:=Lib.hid (RA.out w3 ⟨Nat.le_trans F2.out.size F3.size,fun k hk k1 k2=>(F3.same k (Nat.lt_of_lt_of_le hk F2.out.size) k1 k2).trans (F2.out.same k hk k1 k2)⟩)
  have B3:Hid (Below B w w3):=B2.out.trans hb3
  rw [h3]
  have X3:=Lib.hid X3
  have O3:=Lib.hid O3
  clear h1 h3 RG hm2 X2 O2 R2 B2 hb3 F3
  obtain ⟨x0,x1,x2,x3,x4,x5,x6,x7⟩:=X3.out.cells
  obtain ⟨r0,r1,r2,r3,r4,r5,r6⟩:=R3.out.cells
  go_wp2
  obtain ⟨w7,hw7,q,q2,q3,-,q4⟩:=R3.out.put page op m (.slice A L.length cap) ex al
  rw [hw7]
  obtain ⟨q0,q1,q2',q3',q4',q5,-⟩:=q.cells
  refine bodyPost_ret (v:=.tuple #[enV page op m (.slice A L.length cap) ex al,.bool true]) ?_ rfl ?_
  ·simp [results,Tryz.results202,go_sem,q0,q1,q2',q3',q4',q5,enV]
  ·rw [T.out]
   exact ⟨⟨rfl,put_own R3.out O3.out q4⟩,B3.out.trans (q2.mono (by omega))⟩
 ·have T:Hid (withP m ix L ex=none):=by show withP m ix L ex=_;unfold withP;rw [if_neg (by rw [h1];decide),if_neg (by rw [h3];decide)]
  rw [h1] at X2 O2 ⊢
  rw [if_neg (by decide)] at X2 O2
  have hm2:=RG.out w2 X2 O2
  go_wp2_with fail
  refine hm2.mono ?_
  rintro e w3 ⟨rfl,X3,-,hb3,F3⟩
  have R3:=Lib.hid (RA.out w3 ⟨Nat.le_trans F2.out.size F3.size,fun k hk k1 k2=>(F3.same k (Nat.lt_of_lt_of_le hk F2.out.size) k1 k2).trans (F2.out.same k hk k1 k2)⟩)
  have B3:Hid (Below B w w3):=B2.out.trans hb3
  rw [h3]
  clear h1 h3 RG hm2 X2 O2 R2 B2 hb3 F3 X3
  obtain ⟨r0,r1,r2,r3,r4,r5,r6⟩:=R3.out.cells
  go_wp2
  obtain ⟨w7,hw7,q,q2,q3,-,q4⟩:=R3.out.put 0 0 [] (.slice none 0 0) [] false
  rw [show sB []=(⟨#[]⟩:ByteArray) from rfl] at hw7
  rw [hw7]
  obtain ⟨q0,q1,q2',q3',q4',q5,-⟩:=q.cells
  refine bodyPost_ret (v:=.tuple #[enV 0 0 [] (.slice none 0 0) [] false,.bool false]) ?_ rfl ?_
  ·simp [results,Tryz.results202,go_sem,q0,q1,q2',q3',q4',q5,enV]
  ·rw [T.out]
   exact ⟨rfl,B3.out.trans (q2.mono (by omega))⟩
end Go.Proofs.YtajlleeonddinaaGreatDoor
namespace Go.Proofs.YtajlleeonddinaaGreatDoor
open Go.RowKit Go.Shelf
attribute [local irreducible] Go.Mixed.wpMix
theorem wpList_appG {wr:World} {base:Nat} {v:Value} {xs:List Tr} (R:OwnT wr base v xs) (hbase:base≤wr.heap.size) {ops:Array Oper} {rest:List Oper} {o:Oper} {a:Act} {Q:Exit→Act→World→Prop} (hgd:o.guard=none) (s x:Operand)
  (ho:o.op=.call {callee:=.builtin .append,args:=#[s,x],argTypes:=#[22,22]}) (hs:a.eval s=v) (nb:Nat) (hnb:nb=wr.heap.size) (hx:a.eval x=.slice (some ⟨nb,0,none⟩) 1 1)
  (y:Tr) (k:Nat) (hk:xs.length=k) (hlen:k<10000)
  (h:∀ A' cap' w1,OwnT w1 base (.slice A' (k+1) cap') (xs++[y])→(wr.alloc (.cells #[.int .i64 y.1,.int .i64 y.2.1,.int .i64 y.2.2] 55)).grownBy w1 v.ownBlock→Below base wr w1→wpList Tryz.prog ops Q rest (a.put o.dst (.slice A' (k+1) cap')) w1):wpList Tryz.prog ops Q (o :: rest) a (wr.alloc (.cells #[.int .i64 y.1,.int .i64 y.2.1,.int .i64 y.2.2] 55)):=by
 subst hnb
 obtain ⟨i0,hi,hz0,hz1,hz2⟩:=info_parts info_opd
 have hb:Below base wr (wr.alloc (.cells #[.int .i64 y.1,.int .i64 y.2.1,.int .i64 y.2.2] 55)):=(Below.refl base wr).alloc hbase _
 have hown:=World.ownsRow.alloc R (.cells #[.int .i64 y.1,.int .i64 y.2.1,.int .i64 y.2.2] 55)
 refine wpList_append_own _ hgd s x 22 ho base 55 i0 (.agg #[.int .i64 0,.int .i64 0,.int .i64 0]) 3 24 Tryz.underlying22 hi hz0 hz1 hz2 rfl (by decide) v xs.length _ hs hown ⟨wr.heap.size,0,none⟩ 1 1 [.int .i64 y.1,.int .i64 y.2.1,.int .i64 y.2.2] hx rfl ?_ ?_ ?_ ?_ ?_ ?_
 ·intro j u hj
  match j,hj with
  | 0,hj=>simp at hj;subst hj;simp [Addr.add,go_sem]
  | 1,hj=>simp at hj;subst hj;simp [Addr.add,go_sem]
  | 2,hj=>simp at hj;subst hj;simp [Addr.add,go_sem]
 ·intro u hu
  simp at hu
  rcases hu with rfl | rfl | rfl <;> rfl
 ·unfold maxLen;omega
 ·omega
 ·simp;omega
 ·intro v' w1 hown' hgrow _
  have hO:OwnT w1 base v' (xs++[y]):=by
   unfold OwnT
   rw [List.length_append,cellsT_append]
   exact hown'
  obtain ⟨A',cap',rfl,-,-⟩:=hO.ops
  rw [List.length_append,hk] at hO ⊢
  exact h A' cap' w1 hO hgrow (hb.grown hgrow (by simp;omega) fun k hk=>(hown.lt k hk).1)
def op6 (op:Int):Int:=bits .or .u8 (bits .andNot .u8 op 7) 6
def shiftT (p:Pat) (page op ix:Int):En:=
 let x:=plainT p page (op6 op)
 let L:=if memB x.1 x.2.1 then repM ix x.2.1 else x.2.1
 let ex:=if memB x.1 x.2.1 then 100 :: x.2.2.1 else x.2.2.1
 if numP p.1 op 115=6 then (x.1,L,ex,x.2.2.2) else if x.1=[66,73,84] then (x.1,L,ex,true) else (x.1,L++[(1,numP p.1 op 115,0)],ex,x.2.2.2)
theorem app_kept {w8 w9:World} {b n B:Nat} {page op ix:Int} {m ex:Str} {v:Value} {al:Bool} {L:List Tr} {o:Obj} (X:IxAt w8 b page op m v ex al ix) (R:EnAt w8 n 0 0 [] (.slice none 0 0) [] false) (O:OwnT w8 B v L)
  (hg:(w8.alloc o).grownBy w9 v.ownBlock):IxAt w9 b page op m v ex al ix∧EnAt w9 n 0 0 [] (.slice none 0 0) [] false:=by
 have hal:Below w8.heap.size w8 (w8.alloc o):=(Below.refl _ _).alloc (Nat.le_refl _) _
 constructor
 ·refine (hg.block b (by have:=X.lt;simp;omega) ?_).trans (X.all hal)
  intro e
  obtain ⟨cur,hc⟩:=own_types O e.symm
  exact X.apart hc rfl
 ·refine (hg.block n (by have:=R.lt;simp;omega) ?_).trans (R.all hal)
  intro e
  obtain ⟨cur,hc⟩:=own_types O e.symm
  have h:=R
  unfold EnAt at h
  rw [hc] at h
  simp at h
theorem shift_start (w:World) (p:Pat) (op:Int):∃ w0,(w.alloc (.cells #[.string (sB p.1),.string (sB p.2),.int .u8 op] 242)).alloc (.cells #[.int .i64 0,.int .u8 0,.string ⟨#[]⟩,.slice none 0 0,.string ⟨#[]⟩,.bool false] 134)=w0∧
  w0.heap[w.heap.size]?=some (.cells #[.string (sB p.1),.string (sB p.2),.int .u8 op] 242 (0,0))∧EnAt w0 (w.heap.size+1) 0 0 [] (.slice none 0 0) [] false∧Below w.heap.size w w0∧w0.heap.size=w.heap.size+2:=by
 refine ⟨_,rfl,(Below.heap_alloc _ _ _ (by simp)).trans (World.alloc_heap_new w _),?_,((Below.refl _ w).alloc (Nat.le_refl _) _).alloc (by simp) _,by simp⟩
 have h:=World.alloc_heap_new (w.alloc (.cells #[.string (sB p.1),.string (sB p.2),.int .u8 op] 242)) (.cells #[.int .i64 0,.int .u8 0,.string ⟨#[]⟩,.slice none 0 0,.string ⟨#[]⟩,.bool false] 134)
 rw [World.size_alloc] at h
 exact h
theorem shifted_any (p:Pat) (page op ix:Int) (hp1:p.1.length=8) (h0:0≤op) (h1:op≤255) (G:Good p (op6 op)) (hL:(plainT p page (op6 op)).2.1.length≤100) (hX:(plainT p page (op6 op)).2.2.1.length≤1000) (w:World) (hM:MaxAt w) :
  Calls Tryz.prog 204 #[codeV p op,.int .i64 page,.int .i64 ix] w (RetEn w page op (shiftT p page op ix)):=by
 unfold codeV
 obtain ⟨w0,hw0,c0,R0,B0,Z0⟩:=shift_start w p op
 obtain ⟨n,hn⟩:∃ n,w.heap.size=n:=⟨_,rfl⟩
 rw [hn] at c0 R0 B0 Z0
 have hgn:0 < n:=by rw [← hn];exact hM.lt
 have hM0:MaxAt w0:=hM.belowN (n:=n) B0 hgn
 have hnum:=number_any p.1 p.2 hp1 op h0 h1 115 w0
 have k0:=Lib.cell_of_heap c0 0
 have k1:=Lib.cell_of_heap c0 1
 have k2:=Lib.cell_of_heap c0 2
 have HN:=Lib.hid hn
 have GG:=Lib.hid G
 obtain ⟨⟨m,L,ex,al⟩,hx⟩:∃ x,plainT p page (op6 op)=x:=⟨_,rfl⟩
 have HX:=Lib.hid hx
 rw [hx] at hL hX
 simp only at hL hX
 obtain ⟨r,hr⟩:∃ r,numP p.1 op 115=r:=⟨_,rfl⟩
 rw [hr] at hnum
 have HR:=Lib.hid hr
 clear hr hx G hM
 go_enter Tryz.func204,Tryz.ntmps204
 go_wp2_with fail
 refine hnum.mono ?_
 rintro e w1 ⟨rfl,hb1⟩
 have c1:=(hb1.block n (by omega)).trans c0
 have R1:EnAt w1 (n+1) 0 0 [] (.slice none 0 0) [] false:=R0.below hb1 (by omega)
 have B1:Below n w w1:=B0.trans (hb1.mono (by omega))
 have Z1:n+2≤w1.heap.size:=by have:=hb1.size;omega
 have M1:MaxAt w1:=hM0.below hb1
 clear hb1 hnum k0 k1 k2 c0 R0 B0 Z0 hM0 hw0
 have k0:=Lib.cell_of_heap c1 0
 have k1:=Lib.cell_of_heap c1 1
 have k2:=Lib.cell_of_heap c1 2
 have kf:=Lib.frozen_of_heap c1
 have c2:(w1.setCell ⟨n,2,none⟩ (.int .u8 (op6 op))).heap[n]?=some (.cells #[.string (sB p.1),.string (sB p.2),.int .u8 (op6 op)] 242 (0,0)):=heap_setCell_same w1 n 2 _ _ _ c1
 have R2:EnAt (w1.setCell ⟨n,2,none⟩ (.int .u8 (op6 op))) (n+1) 0 0 [] (.slice none 0 0) [] false:=R1.set_other (by omega) _
 have B2:Below n w (w1.setCell ⟨n,2,none⟩ (.int .u8 (op6 op))):=B1.setCell (p:=⟨n,2,none⟩) (Nat.le_refl _) _
 have Z2:n+2≤(w1.setCell ⟨n,2,none⟩ (.int .u8 (op6 op))).heap.size:=by simpa using Z1
 have M2:MaxAt (w1.setCell ⟨n,2,none⟩ (.int .u8 (op6 op))):=M1.belowN ((Below.refl n w1).setCell (p:=⟨n,2,none⟩) (Nat.le_refl _) _) hgn
 have K:=Lib.hid (And.intro c2 (And.intro R2 (And.intro B2 (And.intro Z2 M2))))
 clear c1 R1 B1 Z1 M1 c2 R2 B2 Z2 M2
 go_upto_region 4 with fail
 rw [show bits .or .u8 (bits .andNot .u8 op 7) 6=op6 op from rfl]
 obtain ⟨o6,ho6⟩:∃ x,op6 op=x:=⟨_,rfl⟩
 have HO6:=Lib.hid ho6
 rw [ho6] at K GG HX ⊢
 obtain ⟨w2,hw2⟩:∃ w2,w1.setCell ⟨n,2,none⟩ (.int .u8 o6)=w2:=⟨_,rfl⟩
 rw [hw2] at K ⊢
 clear hw2 k0 k1 k2 kf ho6 w1
 have k0:=Lib.cell_of_heap K.out.1 0
 have k1:=Lib.cell_of_heap K.out.1 1
 have k2:=Lib.cell_of_heap K.out.1 2
 have hpl:=tplain_any p page o6 GG.out w2 K.out.2.2.2.2
 rw [HX.out] at hpl
 simp only [codeV] at hpl
 go_wp2_with fail
 refine hpl.mono ?_
 rintro e w3 ⟨v,rfl,O3,hb3⟩
 simp only [enV]
 obtain ⟨A,cap,rfl,-,-⟩:=O3.ops
 obtain ⟨B,hB⟩:∃ B,w2.heap.size=B:=⟨_,rfl⟩
 rw [hB] at O3 hb3
 have hnB:n+2≤B:=by rw [← hB];exact K.out.2.2.2.1
 have R3:=Lib.hid (K.out.2.1.below hb3 (by omega))
 have B3:Hid (Below n w w3):=K.out.2.2.1.trans (hb3.mono (by omega))
 have z3:B≤w3.heap.size:=by have:=hb3.size;omega
 obtain ⟨b,hb⟩:∃ b,w3.heap.size=b:=⟨_,rfl⟩
 obtain ⟨w4,hw4⟩:∃ w4,w3.alloc (.cells #[.int .i64 page,.int .u8 op,.string (sB m),.slice A L.length cap,.string (sB ex),.bool al,.int .i64 ix] 288)=w4:=⟨_,rfl⟩
 have X4:IxAt w4 b page op m (.slice A L.length cap) ex al ix:=by rw [← hw4,← hb];exact World.alloc_heap_new w3 _
 have hal:Below w3.heap.size w3 w4:=by rw [← hw4];exact (Below.refl _ _).alloc (Nat.le_refl _) _
 have O4:OwnT w4 B (.slice A L.length cap) L:=O3.below hal
 have R4:=Lib.hid (R3.out.all hal)
 have B4:Hid (Below n w w4):=B3.out.trans (hal.mono (by omega))
 have hm4:=repMem_any b B page op m _ ex al ix L hL hX w4 X4 O4 (by omega)
 have HB:=Lib.hid (show B≤b by omega)
 have RA:∀ (u:World),Fr w4 b (.slice A L.length cap) u→EnAt u (n+1) 0 0 [] (.slice none 0 0) [] false:=fun u hu=>by
  refine (hu.same (n+1) R4.out.lt (by have:=HB.out;omega) ?_).trans R4.out
  intro hg
  obtain ⟨cur,hg2⟩:=own_types O4 hg
  have h:=R4.out
  unfold EnAt at h
  rw [hg2] at h
  simp at h
 have RA:=Lib.hid RA
 have HNB:=Lib.hid hnB
 clear hpl hb3 O3 R3 B3 z3 hal O4 X4 k0 k1 k2 hB
 go_wp2_with fail
 refine hm4.mono ?_
 rintro e w5 ⟨rfl,X5,O5,hb5,F5⟩
 have R5:=Lib.hid (RA.out w5 F5)
 have B5:Hid (Below n w w5):=B4.out.trans (hb5.mono (by have:=HNB.out;omega))
 clear hw4 hm4 hb5 RA R4 B4 F5
 obtain ⟨L2,hL2⟩:∃ x,(if memB m L then repM ix L else L)=x:=⟨_,rfl⟩
 obtain ⟨ex2,hex2⟩:∃ x,(if memB m L then 100 :: ex else ex)=x:=⟨_,rfl⟩
 have LL:L2.length=L.length:=by rw [← hL2];split;exact repM_len _ _;rfl
 rw [hL2] at O5
 rw [hex2] at X5
 have SH:Hid (shiftT p page op ix=if r=6 then (m,L2,ex2,al) else if m=[66,73,84] then (m,L2,ex2,true) else (m,L2++[(1,r,0)],ex2,al)):=by
  show shiftT p page op ix=_
  unfold shiftT
  rw [HO6.out,HX.out]
  simp only
  rw [HR.out,hL2,hex2]
 rw [← LL] at X5 O5
 obtain ⟨k,hk⟩:∃ k,L2.length=k:=⟨_,rfl⟩
 have LK:L.length=k:=LL.symm.trans hk
 have hk100:k≤100:=by omega
 rw [hk] at X5 O5
 have HK:=Lib.hid hk
 rw [LK]
 have X5:=Lib.hid X5
 have O5:=Lib.hid O5
 clear hL2 hex2 LL hk LK hL hX HX
 obtain ⟨x0,x1,x2,x3,x4,x5,x6,x7⟩:=X5.out.cells
 obtain ⟨r0,r1,r2,r3,r4,r5,r6⟩:=R5.out.cells
 have hbn:b≠n+1:=by have h1:=HB.out;have h2:=HNB.out;omega
 by_cases hr6:r=6
 ·have T:Hid (shiftT p page op ix=(m,L2,ex2,al)):=by show _=_;rw [SH.out,if_pos hr6]
  subst hr6
  go_wp2
  obtain ⟨w7,hw7,q,q2,q3,-,q4⟩:=R5.out.put page op m (.slice A k cap) ex2 al
  rw [hw7]
  obtain ⟨q0,q1,q2',q3',q4',q5,-⟩:=q.cells
  refine bodyPost_ret (v:=enV page op m (.slice A k cap) ex2 al) ?_ rfl ?_
  ·simp [results,Tryz.results204,go_sem,q0,q1,q2',q3',q4',q5,enV]
  ·refine ⟨(.slice A k cap),by rw [T.out],?_,by rw [HN.out];exact B5.out.trans (q2.mono (by omega))⟩
   rw [T.out,HN.out]
   exact (put_own R5.out O5.out q4).lift (by have h2:=HNB.out;omega)
 ·have hr6b:(r == 6)=false:=by simpa using hr6
  by_cases hm:m=[66,73,84]
  ·have T:Hid (shiftT p page op ix=(m,L2,ex2,true)):=by show _=_;rw [SH.out,if_neg hr6,if_pos hm]
   have ht:((sB m).toList == [66,73,84])=true:=by rw [sB_eq];exact decide_eq_true hm
   clear hm hr6
   have X6:=Lib.hid (X5.out.set_alias true)
   have R6:Hid (EnAt (w5.setCell ⟨b,5,none⟩ (.bool true)) (n+1) 0 0 [] (.slice none 0 0) [] false):=R5.out.set_other hbn.symm _
   have B6:Hid (Below n w (w5.setCell ⟨b,5,none⟩ (.bool true))):=B5.out.setCell (p:=⟨b,5,none⟩) (by have h1:=HB.out;have h2:=HNB.out;simp;omega) _
   have O6:Hid (OwnT (w5.setCell ⟨b,5,none⟩ (.bool true)) B (.slice A k cap) L2):=row_set_ne O5.out (p:=⟨b,5,none⟩) (fun g hg=>by
    obtain ⟨cur,hc⟩:=own_types O5.out hg
    exact X5.out.apart hc) _
   go_wp2
   obtain ⟨w7,hw7,q,q2,q3,-,q4⟩:=R6.out.put page op m (.slice A k cap) ex2 true
   rw [hw7]
   obtain ⟨q0,q1,q2',q3',q4',q5,-⟩:=q.cells
   refine bodyPost_ret (v:=enV page op m (.slice A k cap) ex2 true) ?_ rfl ?_
   ·simp [results,Tryz.results204,go_sem,q0,q1,q2',q3',q4',q5,enV]
   ·refine ⟨(.slice A k cap),by rw [T.out],?_,by rw [HN.out];exact B6.out.trans (q2.mono (by omega))⟩
    rw [T.out,HN.out]
    exact (put_own R6.out O6.out q4).lift (by have h2:=HNB.out;omega)
  ·have T:Hid (shiftT p page op ix=(m,L2++[(1,r,0)],ex2,al)):=by show _=_;rw [SH.out,if_neg hr6,if_neg hm]
   have ht:((sB m).toList == [66,73,84])=false:=by rw [sB_eq];exact decide_eq_false hm
   clear hm hr6
   go_upto_region 7 with fail
   obtain ⟨w6,hw6⟩:∃ w6,w5.drew=w6:=⟨_,rfl⟩
   have X6:Hid (IxAt w6 b page op m (.slice A k cap) ex2 al ix):=by rw [← hw6];exact X5.out
   have O6:Hid (OwnT w6 B (.slice A k cap) L2):=by rw [← hw6];exact O5.out.below (below_drewN w5 _ 1)
   have R6:Hid (EnAt w6 (n+1) 0 0 [] (.slice none 0 0) [] false):=by rw [← hw6];exact R5.out
   have B6:Hid (Below n w w6):=by rw [← hw6];exact B5.out.drew
   have C6:Hid (w6.cell? ⟨b,3,none⟩=some (.slice A k cap)):=X6.out.cells.2.2.2.1
   refine Mixed.wp_region_mixed (fun w'=>w'.cell? ⟨b,3,none⟩=some (.slice A k cap)) 7 [(0,true),(1,true),(2,true),(3,true),(4,true),(5,false),(6,false)] (by kernel_rfl) (by kernel_rfl) (by rw [hw6];exact C6.out) ?_
   rw [hw6]
   clear X5 O5 R5 B5 C6 hw6 x0 x1 x2 x3 x4 x5 x6 x7 r0 r1 r2 r3 r4 r5 r6
   refine Mixed.wpMix_pure rfl (by kernel_rfl) (.pointer (some ⟨b,0,none⟩)) (fun w h=>by go_simp;try rfl) ?_
   refine Mixed.wpMix_pure rfl (by kernel_rfl) (.pointer (some ⟨b,2,none⟩)) (fun w h=>by go_simp;try rfl) ?_
   refine Mixed.wpMix_pure rfl (by kernel_rfl) (.pointer (some ⟨b,3,none⟩)) (fun w h=>by go_simp;try rfl) ?_
   refine Mixed.wpMix_pure rfl (by kernel_rfl) (.slice A k cap) (fun w h=>by go_simp;try rfl) ?_
   refine Mixed.wpMix_pure rfl (by kernel_rfl) (.int .i64 r) (fun w h=>by go_simp;try rfl) ?_
   refine Mixed.wpMix_loudG rfl (by kernel_rfl) ?_
   go_wp2_with fail
   refine (register_any r w6).mono ?_
   rintro e w8 ⟨rfl,hb8⟩
   have X8:=Lib.hid (X6.out.all hb8)
   have O8:=Lib.hid (O6.out.below hb8)
   have R8:=Lib.hid (R6.out.all hb8)
   have B8:Hid (Below n w w8):=B6.out.trans (hb8.mono (by have:=R6.out.lt;omega))
   have xx:=X8.out.cells.2.2.2.1
   clear hb8 X6 O6 R6 B6
   go_wp2
   refine ⟨xx,?_⟩
   clear xx
   simp only [trV]
   have hbw:b<w8.heap.size:=X8.out.lt
   have xa:∀ o,(w8.alloc o).cell? ⟨b,3,none⟩=some (.slice A k cap):=fun o=>(((Below.refl w8.heap.size w8).alloc (Nat.le_refl _) o).cell hbw).trans X8.out.cells.2.2.2.1
   refine Mixed.wpMix_loudG rfl (by kernel_rfl) ?_
   go_wp2
   refine ⟨xa _,?_⟩
   simp only [Mixed.wpMix,List.drop_succ_cons,List.drop_zero]
   have hBw:B≤w8.heap.size:=by have h1:=HB.out;omega
   have XO:=Lib.hid (fun (w9:World) (hg9:(w8.alloc (.cells #[.int .i64 1,.int .i64 r,.int .i64 0] 55)).grownBy w9 (Value.slice A k cap).ownBlock)=>app_kept X8.out R8.out O8.out hg9)
   go_wp2_with (at_builtin;refine wpList_appG O8.out hBw rfl _ _ rfl rfl w8.heap.size rfl rfl (1,r,0) k HK.out (by omega) ?_;intro A' cap' w9 hO9 hg9 hB9;obtain ⟨hx9,hr9⟩:=XO.out w9 hg9;have X9:=Lib.hid hx9;have R9:=Lib.hid hr9;have O9:=Lib.hid hO9;have B9:Hid (Below n w w9):=B8.out.trans (hB9.mono (by have h2:=HNB.out;omega));obtain ⟨x0,x1,x2,x3,x4,x5,x6,x7⟩:=hx9.cells;obtain ⟨r0,r1,r2,r3,r4,r5,r6⟩:=hr9.cells;clear hO9 hg9 hB9 hx9 hr9)
   have X10:=Lib.hid (X9.out.set_args (.slice A' (k+1) cap'))
   have R10:Hid (EnAt (w9.setCell ⟨b,3,none⟩ (.slice A' (k+1) cap')) (n+1) 0 0 [] (.slice none 0 0) [] false):=R9.out.set_other hbn.symm _
   have B10:Hid (Below n w (w9.setCell ⟨b,3,none⟩ (.slice A' (k+1) cap'))):=B9.out.setCell (p:=⟨b,3,none⟩) (by have h1:=HB.out;have h2:=HNB.out;simp;omega) _
   have O10:Hid (OwnT (w9.setCell ⟨b,3,none⟩ (.slice A' (k+1) cap')) B (.slice A' (k+1) cap') (L2++[(1,r,0)])):=row_set_ne O9.out (p:=⟨b,3,none⟩) (fun g hg=>by
    obtain ⟨cur,hc⟩:=own_types O9.out hg
    exact X9.out.apart hc) _
   obtain ⟨w7,hw7,q,q2,q3,-,q4⟩:=R10.out.put page op m (.slice A' (k+1) cap') ex2 al
   rw [hw7]
   obtain ⟨q0,q1,q2',q3',q4',q5,-⟩:=q.cells
   refine bodyPost_ret (v:=enV page op m (.slice A' (k+1) cap') ex2 al) ?_ rfl ?_
   ·simp [results,Tryz.results204,go_sem,q0,q1,q2',q3',q4',q5,enV]
   ·refine ⟨(.slice A' (k+1) cap'),by rw [T.out],?_,by rw [HN.out];exact B10.out.trans (q2.mono (by omega))⟩
    rw [T.out,HN.out]
    exact (put_own R10.out O10.out q4).lift (by have h2:=HNB.out;omega)
end Go.Proofs.YtajlleeonddinaaGreatDoor
namespace Go.Proofs.YtajlleeonddinaaGreatDoor
open Go.RowKit Go.Shelf
def entryT (p:Pat) (page op:Int):Option En:=
 if page=3 then (withP (plainT p page op).1 5 (plainT p page op).2.1 (plainT p page op).2.2.1).map fun y=>((plainT p page op).1,y.1,y.2,(plainT p page op).2.2.2) else
 if page=4 then (withP (plainT p page op).1 6 (plainT p page op).2.1 (plainT p page op).2.2.1).map fun y=>((plainT p page op).1,y.1,y.2,(plainT p page op).2.2.2) else
 if page=5 then some (shiftT p page op 5) else if page=6 then some (shiftT p page op 6) else some (plainT p page op)
def RetEntry (w:World) (page op:Int) (x:Option En) (e:Ending) (w':World):Prop:=
 (match x with
  | some x=>∃ v,e=.returned (.tuple #[enV page op x.1 v x.2.2.1 x.2.2.2,.bool true])∧OwnT w' w.heap.size v x.2.1
  | none=>e=.returned (.tuple #[enV 0 0 [] (.slice none 0 0) [] false,.bool false]))∧Below w.heap.size w w'
structure Good2 (p:Pat) (op:Int):Prop where
 good:Good p op
 args:(wordsOf p op).length≤100
 extra:(extraT p op (wordsOf p op)).length≤1000
theorem Good2.args_len {p:Pat} {op:Int} (h:Good2 p op) (page:Int):(plainT p page op).2.1.length≤100:=by
 show (argsT p op (wordsOf p op)).length≤100
 unfold argsT
 rw [List.length_map]
 exact h.args
theorem entry_3 (p:Pat) (op:Int) (G:Good2 p op) (G6:Good2 p (op6 op)) (w:World) (hM:MaxAt w):Calls Tryz.prog 181 #[codeV p op,.int .i64 3] w (RetEntry w 3 op ((withP (plainT p 3 op).1 5 (plainT p 3 op).2.1 (plainT p 3 op).2.2.1).map fun y=>((plainT p 3 op).1,y.1,y.2,(plainT p 3 op).2.2.2))):=by
 unfold codeV
 obtain ⟨w0,hw0,c0,R0,B0,Z0⟩:=shift_start w p op
 obtain ⟨n,hn⟩:∃ n,w.heap.size=n:=⟨_,rfl⟩
 rw [hn] at c0 R0 B0 Z0
 have hgn:0 < n:=by rw [← hn];exact hM.lt
 have hM0:MaxAt w0:=hM.belowN (n:=n) B0 hgn
 have k0:=Lib.cell_of_heap c0 0
 have k1:=Lib.cell_of_heap c0 1
 have k2:=Lib.cell_of_heap c0 2
 have HN:=Lib.hid hn
 have R0:=Lib.hid R0
 have B0:=Lib.hid B0
 have hpl:=tplain_any p 3 op G.good w0 hM0
 have hL:=G.args_len 3
 have hX:(plainT p 3 op).2.2.1.length≤1000:=G.extra
 obtain ⟨⟨m,L,ex,al⟩,hx⟩:∃ x,plainT p 3 op=x:=⟨_,rfl⟩
 have HX:=Lib.hid hx
 rw [hx] at hL hX hpl
 simp only [codeV] at hL hX hpl
 clear hx G G6 hM hM0 c0
 have T:Hid (((withP (plainT p 3 op).1 5 (plainT p 3 op).2.1 (plainT p 3 op).2.2.1).map fun y=>((plainT p 3 op).1,y.1,y.2,(plainT p 3 op).2.2.2))=(withP m 5 L ex).map fun y=>(m,y.1,y.2,al)):=by show ((withP (plainT p 3 op).1 5 (plainT p 3 op).2.1 (plainT p 3 op).2.2.1).map fun y=>((plainT p 3 op).1,y.1,y.2,(plainT p 3 op).2.2.2))=_;rw [HX.out]
 go_enter Tryz.func181,Tryz.ntmps181
 go_wp2_with fail
 refine hpl.mono ?_
 rintro e w1 ⟨v,rfl,O1,hb1⟩
 simp only [enV] at O1 ⊢
 obtain ⟨A,cap,rfl,-,-⟩:=O1.ops
 have hwr:=with_any w0.heap.size 3 op m _ ex al 5 (by decide) L hL hX w1 O1 hb1.size
 have R1:=Lib.hid (R0.out.all hb1)
 have B1:Hid (Below n w w1):=B0.out.trans (hb1.mono (by omega))
 simp only [enV] at hwr
 clear hpl hb1 R0 B0 hw0 k0 k1 k2
 obtain ⟨o,ho⟩:∃ o,withP m 5 L ex=o:=⟨_,rfl⟩
 rw [ho] at hwr T
 go_wp2_with fail
 refine hwr.mono ?_
 rintro e w2 ⟨hres,hb2⟩
 have R2:=Lib.hid (R1.out.below hb2 (by omega))
 have B2:Hid (Below n w w2):=B1.out.trans (hb2.mono (by omega))
 clear hwr ho R1 B1 hb2
 obtain ⟨r0,r1,r2,r3,r4,r5,r6⟩:=R2.out.cells
 cases o with
 | none=>
  subst hres
  simp only [enV]
  go_wp2
  obtain ⟨w7,hw7,q,q2,q3,-,q4⟩:=R2.out.put 0 0 [] (.slice none 0 0) [] false
  rw [hw7]
  obtain ⟨q0,q1,q2',q3',q4',q5,-⟩:=q.cells
  refine bodyPost_ret (v:=.tuple #[enV 0 0 [] (.slice none 0 0) [] false,.bool false]) ?_ rfl ?_
  ·simp [results,Tryz.results181,go_sem,q0,q1,q2',q3',q4',q5,enV]
  ·rw [T.out]
   exact ⟨rfl,by rw [HN.out];exact B2.out.trans (q2.mono (by omega))⟩
 | some y=>
  obtain ⟨L3,ex3⟩:=y
  obtain ⟨rfl,O2⟩:=hres
  have O2:=Lib.hid O2
  simp only [enV]
  go_wp2
  obtain ⟨w7,hw7,q,q2,q3,-,q4⟩:=R2.out.put 3 op m (.slice A L.length cap) ex3 al
  rw [hw7]
  obtain ⟨q0,q1,q2',q3',q4',q5,-⟩:=q.cells
  refine bodyPost_ret (v:=.tuple #[enV 3 op m (.slice A L.length cap) ex3 al,.bool true]) ?_ rfl ?_
  ·simp [results,Tryz.results181,go_sem,q0,q1,q2',q3',q4',q5,enV]
  ·rw [T.out]
   refine ⟨⟨(.slice A L.length cap),rfl,?_⟩,by rw [HN.out];exact B2.out.trans (q2.mono (by omega))⟩
   rw [HN.out]
   exact (put_own R2.out O2.out q4).lift (by omega)
theorem entry_4 (p:Pat) (op:Int) (G:Good2 p op) (G6:Good2 p (op6 op)) (w:World) (hM:MaxAt w):Calls Tryz.prog 181 #[codeV p op,.int .i64 4] w (RetEntry w 4 op ((withP (plainT p 4 op).1 6 (plainT p 4 op).2.1 (plainT p 4 op).2.2.1).map fun y=>((plainT p 4 op).1,y.1,y.2,(plainT p 4 op).2.2.2))):=by
 unfold codeV
 obtain ⟨w0,hw0,c0,R0,B0,Z0⟩:=shift_start w p op
 obtain ⟨n,hn⟩:∃ n,w.heap.size=n:=⟨_,rfl⟩
 rw [hn] at c0 R0 B0 Z0
 have hgn:0 < n:=by rw [← hn];exact hM.lt
 have hM0:MaxAt w0:=hM.belowN (n:=n) B0 hgn
 have k0:=Lib.cell_of_heap c0 0
 have k1:=Lib.cell_of_heap c0 1
 have k2:=Lib.cell_of_heap c0 2
 have HN:=Lib.hid hn
 have R0:=Lib.hid R0
 have B0:=Lib.hid B0
 have hpl:=tplain_any p 4 op G.good w0 hM0
 have hL:=G.args_len 4
 have hX:(plainT p 4 op).2.2.1.length≤1000:=G.extra
 obtain ⟨⟨m,L,ex,al⟩,hx⟩:∃ x,plainT p 4 op=x:=⟨_,rfl⟩
 have HX:=Lib.hid hx
 rw [hx] at hL hX hpl
 simp only [codeV] at hL hX hpl
 clear hx G G6 hM hM0 c0
 have T:Hid (((withP (plainT p 4 op).1 6 (plainT p 4 op).2.1 (plainT p 4 op).2.2.1).map fun y=>((plainT p 4 op).1,y.1,y.2,(plainT p 4 op).2.2.2))=(withP m 6 L ex).map fun y=>(m,y.1,y.2,al)):=by show ((withP (plainT p 4 op).1 6 (plainT p 4 op).2.1 (plainT p 4 op).2.2.1).map fun y=>((plainT p 4 op).1,y.1,y.2,(plainT p 4 op).2.2.2))=_;rw [HX.out]
 go_enter Tryz.func181,Tryz.ntmps181
 go_wp2_with fail
 refine hpl.mono ?_
 rintro e w1 ⟨v,rfl,O1,hb1⟩
 simp only [enV] at O1 ⊢
 obtain ⟨A,cap,rfl,-,-⟩:=O1.ops
 have hwr:=with_any w0.heap.size 4 op m _ ex al 6 (by decide) L hL hX w1 O1 hb1.size
 have R1:=Lib.hid (R0.out.all hb1)
 have B1:Hid (Below n w w1):=B0.out.trans (hb1.mono (by omega))
 simp only [enV] at hwr
 clear hpl hb1 R0 B0 hw0 k0 k1 k2
 obtain ⟨o,ho⟩:∃ o,withP m 6 L ex=o:=⟨_,rfl⟩
 rw [ho] at hwr T
 go_wp2_with fail
 refine hwr.mono ?_
 rintro e w2 ⟨hres,hb2⟩
 have R2:=Lib.hid (R1.out.below hb2 (by omega))
 have B2:Hid (Below n w w2):=B1.out.trans (hb2.mono (by omega))
 clear hwr ho R1 B1 hb2
 obtain ⟨r0,r1,r2,r3,r4,r5,r6⟩:=R2.out.cells
 cases o with
 | none=>
  subst hres
  simp only [enV]
  go_wp2
  obtain ⟨w7,hw7,q,q2,q3,-,q4⟩:=R2.out.put 0 0 [] (.slice none 0 0) [] false
  rw [hw7]
  obtain ⟨q0,q1,q2',q3',q4',q5,-⟩:=q.cells
  refine bodyPost_ret (v:=.tuple #[enV 0 0 [] (.slice none 0 0) [] false,.bool false]) ?_ rfl ?_
  ·simp [results,Tryz.results181,go_sem,q0,q1,q2',q3',q4',q5,enV]
  ·rw [T.out]
   exact ⟨rfl,by rw [HN.out];exact B2.out.trans (q2.mono (by omega))⟩
 | some y=>
  obtain ⟨L3,ex3⟩:=y
  obtain ⟨rfl,O2⟩:=hres
  have O2:=Lib.hid O2
  simp only [enV]
  go_wp2
  obtain ⟨w7,hw7,q,q2,q3,-,q4⟩:=R2.out.put 4 op m (.slice A L.length cap) ex3 al
  rw [hw7]
  obtain ⟨q0,q1,q2',q3',q4',q5,-⟩:=q.cells
  refine bodyPost_ret (v:=.tuple #[enV 4 op m (.slice A L.length cap) ex3 al,.bool true]) ?_ rfl ?_
  ·simp [results,Tryz.results181,go_sem,q0,q1,q2',q3',q4',q5,enV]
  ·rw [T.out]
   refine ⟨⟨(.slice A L.length cap),rfl,?_⟩,by rw [HN.out];exact B2.out.trans (q2.mono (by omega))⟩
   rw [HN.out]
   exact (put_own R2.out O2.out q4).lift (by omega)
theorem entry_5 (p:Pat) (op:Int) (G:Good2 p op) (G6:Good2 p (op6 op)) (w:World) (hM:MaxAt w):Calls Tryz.prog 181 #[codeV p op,.int .i64 5] w (RetEntry w 5 op (some (shiftT p 5 op 5))):=by
 unfold codeV
 obtain ⟨w0,hw0,c0,R0,B0,Z0⟩:=shift_start w p op
 obtain ⟨n,hn⟩:∃ n,w.heap.size=n:=⟨_,rfl⟩
 rw [hn] at c0 R0 B0 Z0
 have hgn:0 < n:=by rw [← hn];exact hM.lt
 have hM0:MaxAt w0:=hM.belowN (n:=n) B0 hgn
 have k0:=Lib.cell_of_heap c0 0
 have k1:=Lib.cell_of_heap c0 1
 have k2:=Lib.cell_of_heap c0 2
 have HN:=Lib.hid hn
 have R0:=Lib.hid R0
 have B0:=Lib.hid B0
 have hsh:=shifted_any p 5 op 5 G.good.len G.good.op0 G.good.op1 G6.good (G6.args_len 5) G6.extra w0 hM0
 obtain ⟨⟨m,L,ex,al⟩,hx⟩:∃ x,shiftT p 5 op 5=x:=⟨_,rfl⟩
 have HX:=Lib.hid hx
 rw [hx] at hsh
 simp only [codeV] at hsh
 clear hx G G6 hM hM0 c0
 go_enter Tryz.func181,Tryz.ntmps181
 go_wp2_with fail
 refine hsh.mono ?_
 rintro e w1 ⟨v,rfl,O1,hb1⟩
 simp only [enV] at O1 ⊢
 obtain ⟨A,cap,rfl,-,-⟩:=O1.ops
 have R1:=Lib.hid (R0.out.all hb1)
 have B1:Hid (Below n w w1):=B0.out.trans (hb1.mono (by omega))
 have O1:=Lib.hid O1
 clear hsh hb1 R0 B0 hw0 k0 k1 k2
 obtain ⟨r0,r1,r2,r3,r4,r5,r6⟩:=R1.out.cells
 go_wp2
 obtain ⟨w7,hw7,q,q2,q3,-,q4⟩:=R1.out.put 5 op m (.slice A L.length cap) ex al
 rw [hw7]
 obtain ⟨q0,q1,q2',q3',q4',q5,-⟩:=q.cells
 refine bodyPost_ret (v:=.tuple #[enV 5 op m (.slice A L.length cap) ex al,.bool true]) ?_ rfl ?_
 ·simp [results,Tryz.results181,go_sem,q0,q1,q2',q3',q4',q5,enV]
 ·rw [HX.out]
  refine ⟨⟨(.slice A L.length cap),rfl,?_⟩,by rw [HN.out];exact B1.out.trans (q2.mono (by omega))⟩
  rw [HN.out]
  exact (put_own R1.out O1.out q4).lift (by omega)
theorem entry_6 (p:Pat) (op:Int) (G:Good2 p op) (G6:Good2 p (op6 op)) (w:World) (hM:MaxAt w):Calls Tryz.prog 181 #[codeV p op,.int .i64 6] w (RetEntry w 6 op (some (shiftT p 6 op 6))):=by
 unfold codeV
 obtain ⟨w0,hw0,c0,R0,B0,Z0⟩:=shift_start w p op
 obtain ⟨n,hn⟩:∃ n,w.heap.size=n:=⟨_,rfl⟩
 rw [hn] at c0 R0 B0 Z0
 have hgn:0 < n:=by rw [← hn];exact hM.lt
 have hM0:MaxAt w0:=hM.belowN (n:=n) B0 hgn
 have k0:=Lib.cell_of_heap c0 0
 have k1:=Lib.cell_of_heap c0 1
 have k2:=Lib.cell_of_heap c0 2
 have HN:=Lib.hid hn
 have R0:=Lib.hid R0
 have B0:=Lib.hid B0
 have hsh:=shifted_any p 6 op 6 G.good.len G.good.op0 G.good.op1 G6.good (G6.args_len 6) G6.extra w0 hM0
 obtain ⟨⟨m,L,ex,al⟩,hx⟩:∃ x,shiftT p 6 op 6=x:=⟨_,rfl⟩
 have HX:=Lib.hid hx
 rw [hx] at hsh
 simp only [codeV] at hsh
 clear hx G G6 hM hM0 c0
 go_enter Tryz.func181,Tryz.ntmps181
 go_wp2_with fail
 refine hsh.mono ?_
 rintro e w1 ⟨v,rfl,O1,hb1⟩
 simp only [enV] at O1 ⊢
 obtain ⟨A,cap,rfl,-,-⟩:=O1.ops
 have R1:=Lib.hid (R0.out.all hb1)
 have B1:Hid (Below n w w1):=B0.out.trans (hb1.mono (by omega))
 have O1:=Lib.hid O1
 clear hsh hb1 R0 B0 hw0 k0 k1 k2
 obtain ⟨r0,r1,r2,r3,r4,r5,r6⟩:=R1.out.cells
 go_wp2
 obtain ⟨w7,hw7,q,q2,q3,-,q4⟩:=R1.out.put 6 op m (.slice A L.length cap) ex al
 rw [hw7]
 obtain ⟨q0,q1,q2',q3',q4',q5,-⟩:=q.cells
 refine bodyPost_ret (v:=.tuple #[enV 6 op m (.slice A L.length cap) ex al,.bool true]) ?_ rfl ?_
 ·simp [results,Tryz.results181,go_sem,q0,q1,q2',q3',q4',q5,enV]
 ·rw [HX.out]
  refine ⟨⟨(.slice A L.length cap),rfl,?_⟩,by rw [HN.out];exact B1.out.trans (q2.mono (by omega))⟩
  rw [HN.out]
  exact (put_own R1.out O1.out q4).lift (by omega)
theorem entry_n (p:Pat) (page:Int) (h3:page≠3) (h4:page≠4) (h5:page≠5) (h6:page≠6) (op:Int) (G:Good2 p op) (G6:Good2 p (op6 op)) (w:World) (hM:MaxAt w):Calls Tryz.prog 181 #[codeV p op,.int .i64 page] w (RetEntry w page op (some (plainT p page op))):=by
 unfold codeV
 obtain ⟨w0,hw0,c0,R0,B0,Z0⟩:=shift_start w p op
 obtain ⟨n,hn⟩:∃ n,w.heap.size=n:=⟨_,rfl⟩
 rw [hn] at c0 R0 B0 Z0
 have hgn:0 < n:=by rw [← hn];exact hM.lt
 have hM0:MaxAt w0:=hM.belowN (n:=n) B0 hgn
 have e3:(page == 3)=false:=by simpa using h3
 have e4:(page == 4)=false:=by simpa using h4
 have e5:(page == 5)=false:=by simpa using h5
 have e6:(page == 6)=false:=by simpa using h6
 clear h3 h4 h5 h6
 have k0:=Lib.cell_of_heap c0 0
 have k1:=Lib.cell_of_heap c0 1
 have k2:=Lib.cell_of_heap c0 2
 have HN:=Lib.hid hn
 have R0:=Lib.hid R0
 have B0:=Lib.hid B0
 have hpl:=tplain_any p page op G.good w0 hM0
 have hL:=G.args_len page
 have hX:(plainT p page op).2.2.1.length≤1000:=G.extra
 obtain ⟨⟨m,L,ex,al⟩,hx⟩:∃ x,plainT p page op=x:=⟨_,rfl⟩
 have HX:=Lib.hid hx
 rw [hx] at hL hX hpl
 simp only [codeV] at hL hX hpl
 clear hx G G6 hM hM0 c0
 go_enter Tryz.func181,Tryz.ntmps181
 go_wp2_with fail
 refine hpl.mono ?_
 rintro e w1 ⟨v,rfl,O1,hb1⟩
 simp only [enV] at O1 ⊢
 obtain ⟨A,cap,rfl,-,-⟩:=O1.ops
 have R1:=Lib.hid (R0.out.all hb1)
 have B1:Hid (Below n w w1):=B0.out.trans (hb1.mono (by omega))
 have O1:=Lib.hid O1
 clear hpl hb1 R0 B0 hw0 k0 k1 k2
 obtain ⟨r0,r1,r2,r3,r4,r5,r6⟩:=R1.out.cells
 go_wp2
 obtain ⟨w7,hw7,q,q2,q3,-,q4⟩:=R1.out.put page op m (.slice A L.length cap) ex al
 rw [hw7]
 obtain ⟨q0,q1,q2',q3',q4',q5,-⟩:=q.cells
 refine bodyPost_ret (v:=.tuple #[enV page op m (.slice A L.length cap) ex al,.bool true]) ?_ rfl ?_
 ·simp [results,Tryz.results181,go_sem,q0,q1,q2',q3',q4',q5,enV]
 ·rw [HX.out]
  refine ⟨⟨(.slice A L.length cap),rfl,?_⟩,by rw [HN.out];exact B1.out.trans (q2.mono (by omega))⟩
  rw [HN.out]
  exact (put_own R1.out O1.out q4).lift (by omega)
theorem entry_any (p:Pat) (page op:Int) (G:Good2 p op) (G6:Good2 p (op6 op)) (w:World) (hM:MaxAt w):Calls Tryz.prog 181 #[codeV p op,.int .i64 page] w (RetEntry w page op (entryT p page op)):=by
 unfold entryT
 by_cases h3:page=3
 ·subst h3;exact entry_3 p op G G6 w hM
 ·rw [if_neg h3]
  by_cases h4:page=4
  ·subst h4;exact entry_4 p op G G6 w hM
  ·rw [if_neg h4]
   by_cases h5:page=5
   ·subst h5;exact entry_5 p op G G6 w hM
   ·rw [if_neg h5]
    by_cases h6:page=6
    ·subst h6;exact entry_6 p op G G6 w hM
    ·rw [if_neg h6]
     exact entry_n p page h3 h4 h5 h6 op G G6 w hM
end Go.Proofs.YtajlleeonddinaaGreatDoor
