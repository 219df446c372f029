/-
  DgH, DgI, DgK, DgM, DfE, DfF, SeRd, CnW, CnV, CnD, CnN, CnP.
-/
import Derived.Test.YtclhaejdjogfbaaGreatDoorGAU
import Derived.Defers
import Derived.Recover
import Derived.Test.YtclhaejdjogfbaaGreatDoorGAT
import Derived.Test.YtclhaejdjogfbaaGreatDoorGAQ
import Derived.Test.YtclhaejdjogfbaaGreatDoorMSeN
import Derived.Test.YtclhaejdjogfbaaGreatDoorGAS
import Derived.Test.YtclhaejdjogfbaaGreatDoorGAR
import Derived.Deep.QuietTactic
import Derived.BigQuiet
import Derived.Deep.DeepCutAuto
import Derived.Deep.Cut
import Derived.Test.YtclhaejdjogfbaaGreatDoorGAA
import Derived.Test.YtclhaejdjogfbaaGreatDoorGAB
import Derived.Test.YtclhaejdjogfbaaGreatDoorQ0
set_option linter.all false
set_option maxRecDepth 100000
set_option maxHeartbeats 4000000
namespace Go.Proofs.YtclhaejdjogfbaaGreatDoor
open Go.RowKit Go.Shelf
attribute [local go_sem] Oper.semAt_some
def PtD (w:World) (x D:Nat):Prop:=w.heap[x]?=some (.cells #[.pointer (some ⟨D,0,none⟩)] 51 (0,0))
theorem ItAt.put1 {w:World} {b:Nat} {kind:Int} {va vb:Value} {s:ByteArray} {al:Bool} (h:ItAt w b kind va s vb al) (va':Value) :
  ∃ w',w.setCell ⟨b,1,none⟩ va'=w'∧ItAt w' b kind va' s vb al∧Below b w w'∧∀ k,k≠b→w'.heap[k]?=w.heap[k]?:=
 ⟨_,rfl,heap_setCell_same w b 1 _ _ _ h,(Below.refl b w).setCell (p:=⟨b,1,none⟩) (Nat.le_refl _) _,fun k hk=>heap_setCell_other _ ⟨b,1,none⟩ k _ hk⟩
theorem PtD.ne {w:World} {x D I:Nat} (h:PtD w x D) {kind:Int} {va vb:Value} {s:ByteArray} {al:Bool} (hI:ItAt w I kind va s vb al):x≠I:=fun e=>by
 subst e
 unfold PtD at h
 rw [show w.heap[x]?=_ from hI] at h
 simp at h
theorem PtD.cells {w:World} {x D:Nat} (h:PtD w x D):w.cell? ⟨x,0,none⟩=some (.pointer (some ⟨D,0,none⟩))∧w.frozen? ⟨x,0,none⟩=false:=⟨C9 h 0,Lib.frozen_of_heap h 0⟩
theorem raw_put {w0 w w3:World} {D:Nat} {S:Value} {b:Str} {k I:Nat} {p nd d n:Int} (X:Dec w0 D S w k p nd d n) (hDI:D<I) {kind:Int} {va vb:Value} {s:ByteArray} {al:Bool} (HI:ItAt w I kind va s vb al) {A':Option Addr} {c':Nat} (O:TOwnB w3 w.heap.size (.slice A' k c') (b.take k)) (hb:Below w.heap.size w w3) :
  ∃ w4,w3.setCell ⟨I,1,none⟩ (.slice A' k c')=w4∧ItAt w4 I kind (.slice A' k c') s vb al∧TOwnB w4 D (.slice A' k c') (b.take k)∧Dec w0 D S w4 k p nd d n∧∀ B u L,OwnT w B u L→OwnT w4 B u L:=by
 have I3:=HI.all hb
 have X3:=X.all hb
 obtain ⟨w4,hw4,i1,i2,i6⟩:=I3.put1 (.slice A' k c')
 exact ⟨w4,hw4,i1,(it_ownB I3 O i6).lift (Nat.le_of_lt X.lt),⟨(i2.block D hDI).trans X3.blk,X3.bel.trans (i2.mono (by omega))⟩,fun B u L h=>it_ownT I3 (h.below hb) i6⟩
theorem catch_miss {w0:World} {D:Nat} {b:Str} {A:Option Addr} {l cap:Nat} (H:DH w0 D b A l cap) {w:World} {k:Nat} (hk:k≤l) {p nd d n:Int} (X:Dec w0 D (.slice A l cap) w k p nd d n) {I x:Nat} (hDI:D<I) (hDx:D<x) (HX:PtD w x D) {kind:Int} {va vb:Value} {s:ByteArray} {al:Bool} (HI:ItAt w I kind va s vb al) :
  CallsD Tryz.prog 40 #[.pointer (some ⟨I,0,none⟩),.pointer (some ⟨x,0,none⟩)] (.panicking missE) w fun e u' w'=>
   e=.returned (.tuple #[])∧u'=.panicking [{v:=.iface 86 (.agg #[]),recovered:=true}]∧∃ A' c',ItAt w' I 4 (.slice A' k c') ⟨#[]⟩ (.slice none 0 0) false∧TOwnB w' D (.slice A' k c') (b.take k)∧Dec w0 D (.slice A l cap) w' k p nd d n:=by
 refine callsD_of_wpS Tryz.func40 rfl fun c₀ cs hu=>?_
 unfold missE at hu
 simp only [Tryz.ntmps40,List.size_toArray,List.length_cons,List.length_nil,Nat.reduceAdd,Nat.reduceSub,Array.replicate_succ,Array.replicate_zero,List.push_toArray,List.append_toArray,List.nil_append,List.cons_append]
 have hta:∀ w,(Instr.typeAssert (.iface 86 (.agg #[])) 20 86 true).run Tryz.prog w=.ok (.tuple #[.agg #[],.bool true]) w:=fun w=>by kernel_rfl
 obtain ⟨S,hS⟩:=N9 (Value.slice A l cap)
 have TK:=J9 (fun w X=>taken_any H (w:=w) (k:=k) hk (p:=p) (nd:=nd) (d:=d) (n:=n) X)
 rw [hS] at X TK ⊢
 obtain ⟨w1,hw1⟩:=N9 (w.alloc (.cells #[] 86))
 have hal:Below w.heap.size w w1:=by rw [← hw1];exact up_alloc _ _
 have X1:=X.all hal
 have I1:=HI.all hal
 have P1:PtD w1 x D:=(hal.block x (Array.getElem?_eq_some_iff.1 HX).1).trans HX
 obtain ⟨w2,hw2,i1,i2,-,-,-,i6⟩:=I1.put 4 (.slice none 0 0) ⟨#[]⟩ (.slice none 0 0) false
 have X2:Hid (Dec w0 D S w2 k p nd d n):=⟨(i2.block D hDI).trans X1.blk,X1.bel.trans (i2.mono (by omega))⟩
 have P2:PtD w2 x D:=(i6 x (P1.ne I1)).trans P1
 obtain ⟨k0,k1,k2,k3,k4,k5⟩:=I1.cells
 obtain ⟨p0,-⟩:=P2.cells
 have I2:=J9 i1
 clear hS H X HX HI hal X1 I1 P1 P2 i1 i2 i6
 apply wpS_seq
 apply wpS_seq
 apply wpS_region
 simp [wpOpsS,go_sem,recoverD,hu,Exit.thenS]
 refine wpS_of_wp ?_
 go_upto_region 7 with fail
 clear hw1
 go_wp2
 refine wpS_of_wp ?_
 go_wp2_with fail
 refine (TK.out w2 X2.out).mono ?_
 rintro e w3 ⟨A',c',rfl,hO,hb⟩
 obtain ⟨w4,hw4,F1,F2,F3,-⟩:=raw_put X2.out hDI I2.out hO hb
 have F:Hid (ItAt w4 I 4 (.slice A' k c') ⟨#[]⟩ (.slice none 0 0) false∧TOwnB w4 D (.slice A' k c') (b.take k)∧Dec w0 D S w4 k p nd d n):=⟨F1,F2,F3⟩
 obtain ⟨g0,g1,g2,g3,g4,g5⟩:=(show ItAt w3 I _ _ _ _ _ from I2.out.all hb).cells
 clear TK hO hb F1 F2 F3 X2 I2 k0 k1 k2 k3 k4 k5 p0
 go_wp2
 exact ⟨rfl,_,rfl,.tuple #[],by simp [results,Tryz.results40],rfl,rfl,A',c',F.out⟩
theorem catch_idle {w0:World} {D:Nat} {b:Str} {A:Option Addr} {l cap:Nat} (H:DH w0 D b A l cap) {w:World} {k:Nat} (hk:k≤l) {p nd d n:Int} (X:Dec w0 D (.slice A l cap) w k p nd d n) {I x:Nat} (hDI:D<I) (hDx:D<x) (HX:PtD w x D) {kind:Int} {va vb:Value} {s:ByteArray} {al:Bool} (HI:ItAt w I kind va s vb al) :
  CallsD Tryz.prog 40 #[.pointer (some ⟨I,0,none⟩),.pointer (some ⟨x,0,none⟩)] .returning w fun e u' w'=>
   e=.returned (.tuple #[])∧u'=.returning∧∃ A' c',ItAt w' I kind (.slice A' k c') s vb al∧TOwnB w' D (.slice A' k c') (b.take k)∧Dec w0 D (.slice A l cap) w' k p nd d n∧∀ B u L,OwnT w B u L→OwnT w' B u L:=by
 refine callsD_of_wpS Tryz.func40 rfl fun c₀ cs hu=>?_
 simp only [Tryz.ntmps40,List.size_toArray,List.length_cons,List.length_nil,Nat.reduceAdd,Nat.reduceSub,Array.replicate_succ,Array.replicate_zero,List.push_toArray,List.append_toArray,List.nil_append,List.cons_append]
 obtain ⟨S,hS⟩:=N9 (Value.slice A l cap)
 have TK:=J9 (taken_any H hk X)
 rw [hS] at X ⊢
 obtain ⟨p0,-⟩:=HX.cells
 have X2:=J9 X
 have I2:=J9 HI
 clear hS H X HX HI
 apply wpS_seq
 apply wpS_seq
 apply wpS_region
 simp [wpOpsS,go_sem,recoverD,hu,Exit.thenS]
 refine wpS_of_wp ?_
 go_wp2
 refine wpS_of_wp ?_
 go_wp2_with fail
 refine TK.out.mono ?_
 rintro e w3 ⟨A',c',rfl,hO,hb⟩
 obtain ⟨w4,hw4,F1,F2,F3,F4⟩:=raw_put X2.out hDI I2.out hO hb
 have F:Hid (ItAt w4 I kind (.slice A' k c') s vb al∧TOwnB w4 D (.slice A' k c') (b.take k)∧Dec w0 D S w4 k p nd d n∧∀ B u L,OwnT w B u L→OwnT w4 B u L):=⟨F1,F2,F3,F4⟩
 obtain ⟨g0,g1,g2,g3,g4,g5⟩:=(show ItAt w3 I _ _ _ _ _ from I2.out.all hb).cells
 clear TK hO hb F1 F2 F3 F4 X2 I2 p0
 go_wp2
 exact ⟨rfl,.returning,by cases c₀;simp_all,.tuple #[],by simp [results,Tryz.results40],rfl,rfl,A',c',F.out⟩
def RetDIt (w0:World) (D:Nat) (S:Value) (b:Str) (e:Ending) (w':World):Prop:=
 (∃ A' c' B c2,e=.returned (.agg #[.int .i64 (itR b).kind,.slice A' (itR b).raw.length c',.string (sB (itR b).m),.slice B (itR b).C.length c2,.bool (itR b).al])∧TOwnB w' D (.slice A' (itR b).raw.length c') (itR b).raw∧OwnT w' D (.slice B (itR b).C.length c2) (itR b).C)∧
 ∃ k p nd d n,Dec w0 D S w' k p nd d n∧((itR b).kind=4→nd=(needR b:Nat))
theorem ditem_any {w0:World} {D:Nat} {b:Str} {A:Option Addr} {l cap:Nat} (H:DH w0 D b A l cap) (hM:MaxAt w0) {w:World} {nd:Int} (X:Dec w0 D (.slice A l cap) w 0 0 nd 0 0) :
  Calls Tryz.prog 21 #[.pointer (some ⟨D,0,none⟩)] w (RetDIt w0 D (.slice A l cap) b):=by
 have hmf:∀ (fn:Fn) (first cap:Array Value) (w:World),(Instr.makeFunc fn first cap).run Tryz.prog w=.ok (.func fn first cap) w:=fun _ _ _ _=>rfl
 have hl:=H.hl
 obtain ⟨S,hS⟩:=N9 (Value.slice A l cap)
 have WH:=J9 (fun w X=>whole_any H hM (w:=w) (nd:=nd) X)
 have CM:=J9 (fun w k hk (p nd d n:Int) X I x h1 h2 h3 (kind:Int) (va vb:Value) (s:ByteArray) (al:Bool) h4=>catch_miss H (w:=w) (k:=k) hk (p:=p) (nd:=nd) (d:=d) (n:=n) X (I:=I) (x:=x) h1 h2 h3 (kind:=kind) (va:=va) (vb:=vb) (s:=s) (al:=al) h4)
 have CI:=J9 (fun w k hk (p nd d n:Int) X I x h1 h2 h3 (kind:Int) (va vb:Value) (s:ByteArray) (al:Bool) h4=>catch_idle H (w:=w) (k:=k) hk (p:=p) (nd:=nd) (d:=d) (n:=n) X (I:=I) (x:=x) h1 h2 h3 (kind:=kind) (va:=va) (vb:=vb) (s:=s) (al:=al) h4)
 rw [hS] at X WH CM CI ⊢
 have HL:=J9 hl
 obtain ⟨x,hx⟩:=N9 (w.heap.size)
 obtain ⟨w1,hw1⟩:=N9 (w.alloc (.cells #[.pointer (some ⟨D,0,none⟩)] 51))
 have y1:Below w.heap.size w w1:=by rw [← hw1];exact up_alloc _ _
 have P1:PtD w1 x D:=by rw [← hw1,← hx];exact World.alloc_heap_new w _
 have z1:w1.heap.size=x+1:=by rw [← hw1,← hx];simp
 obtain ⟨w2,hw2,I2,y2,z2⟩:=it_start w1 (x+1) z1
 have hDx:D<x:=by rw [← hx];exact X.lt
 have X2:=(X.all y1).all y2
 have P2:PtD w2 x D:=(y2.block x (by omega)).trans P1
 have C1:=WH.out w2 X2
 obtain ⟨p0,-⟩:=P2.cells
 have P2:=J9 P2
 have I2:=J9 I2
 clear H hM X WH hS hl y1 y2 P1 X2
 go_enter_defers Tryz.func21,Tryz.ntmps21
 go_wp2_with fail
 refine C1.mono ?_
 rintro e w3 (⟨h1,⟨B,c2,rfl,hO⟩,⟨k,p,nd',d,n,hk,hraw,X3⟩,K⟩ | ⟨hi,p,rfl,⟨d,n,X3⟩,K⟩)
 ·have I3:ItAt w3 (x+1) _ _ _ _ _:=K.blk I2.out (by omega)
  have P3:PtD w3 x D:=K.blk P2.out (by omega)
  obtain ⟨w4,hw4,i1,i2,-,-,-,i6⟩:=I3.put (itR b).kind (.slice none 0 0) (sB (itR b).m) (.slice B (itR b).C.length c2) (itR b).al
  have P4:PtD w4 x D:=(i6 x (by omega)).trans P3
  have X4:Dec w0 D S w4 k p nd' d n:=⟨(i2.block D (by omega)).trans X3.blk,X3.bel.trans (i2.mono (by omega))⟩
  have O4:=J9 (it_ownT I3 (row_mono hO (show D≤w2.heap.size by omega)) i6)
  have C2:=CI.out w4 k hk p nd' d n X4 (x+1) x (by omega) hDx P4 _ _ _ _ _ i1
  obtain ⟨k0,k1,k2,k3,k4,k5⟩:=I3.cells
  have HR:Hid ((itR b).raw=b.take k):=hraw
  have H4:Hid ((itR b).kind≠4):=h1
  have LK:Hid ((b.take k).length=k):=by show _=_;rw [List.length_take,HL.out];omega
  have RT:Hid (∀ A' c' w5,ItAt w5 (x+1) (itR b).kind (.slice A' k c') (sB (itR b).m) (.slice B (itR b).C.length c2) (itR b).al→TOwnB w5 D (.slice A' k c') (b.take k)→Dec w0 D S w5 k p nd' d n→(∀ B u L,OwnT w4 B u L→OwnT w5 B u L)→
    RetDIt w0 D S b (.returned (.agg #[.int .i64 (itR b).kind,.slice A' k c',.string (sB (itR b).m),.slice B (itR b).C.length c2,.bool (itR b).al])) w5):=fun A' c' w5 g1 g2 g3 g4=>by
   refine ⟨⟨A',c',B,c2,?_,?_,g4 _ _ _ O4.out⟩,k,p,nd',d,n,g3,fun h=>absurd h H4.out⟩
   ·rw [HR.out,LK.out]
   ·rw [HR.out,LK.out];exact g2
  obtain ⟨kind,hkind⟩:=N9 ((itR b).kind)
  obtain ⟨m,hm⟩:=N9 ((itR b).m)
  obtain ⟨lc,hlc⟩:=N9 ((itR b).C.length)
  obtain ⟨al,hal⟩:=N9 ((itR b).al)
  rw [hkind,hm,hlc,hal] at C2 RT hw4
  simp only [hkind,hm,hlc,hal]
  clear C1 CM CI h1 hO hraw X3 K I3 P3 i1 i2 i6 P4 X4 O4 HR H4 I2 P2 p0
  go_wp2
  refine leaves_cons (f:=40) (args:=#[.pointer (some ⟨x+1,0,none⟩),.pointer (some ⟨x,0,none⟩)]) (by simp) (by simp [go_sem]) ?_
  refine C2.mono ?_
  rintro e u' w5 ⟨rfl,rfl,A',c',g1,g2,g3,g4⟩
  obtain ⟨j0,j1,j2,j3,j4,j5⟩:=g1.cells
  have F:=J9 (RT.out A' c' w5 g1 g2 g3 g4)
  clear g1 g2 g3 g4 C2 RT
  simp [Leaves,settle,results,Tryz.results21,go_sem,j0,j1,j2,j3,j4]
  exact F.out
 ·have I3:ItAt w3 (x+1) _ _ _ _ _:=K.blk I2.out (by omega)
  have P3:PtD w3 x D:=K.blk P2.out (by omega)
  have C2:=CM.out w3 _ (Nat.le_refl _) p _ d n X3 (x+1) x (by omega) hDx P3 _ _ _ _ _ I3
  have HII:=J9 hi
  clear C1 CM CI X3 K I3 P3 hi I2 P2 p0
  refine leaves_cons (f:=40) (args:=#[.pointer (some ⟨x+1,0,none⟩),.pointer (some ⟨x,0,none⟩)]) (by simp) (by simp [go_sem]) ?_
  refine C2.mono ?_
  rintro e u' w5 ⟨rfl,rfl,A',c',g1,g2,g3⟩
  obtain ⟨j0,j1,j2,j3,j4,j5⟩:=g1.cells
  have F:Hid (RetDIt w0 D S b (.returned (.agg #[.int .i64 4,.slice A' l c',.string ⟨#[]⟩,.slice none 0 0,.bool false])) w5):=by
   have hT:b.take l=b:=by rw [← HL.out,List.take_length]
   rw [hT] at g2
   refine ⟨⟨A',c',none,0,?_,?_,?_⟩,_,p,_,d,n,g3,fun _=>rfl⟩
   ·rw [HII.out];simp only [iteO,HL.out];rfl
   ·rw [HII.out];simp only [iteO,HL.out];exact g2
   ·rw [HII.out];exact ownT_nil _ _
  clear g1 g2 g3 C2
  simp [Leaves,settle,results,Tryz.results21,go_sem,j0,j1,j2,j3,j4]
  exact F.out
end Go.Proofs.YtclhaejdjogfbaaGreatDoor
namespace Go.Proofs.YtclhaejdjogfbaaGreatDoor
open Go.RowKit Go.Shelf
attribute [local go_sem] Oper.semAt_some
def itP (b:Str):Ite:=if b=[] then ⟨0,[],[],[],false⟩ else itR b
theorem itP_ne {b:Str} (h:b≠[]):itP b=itR b:=if_neg h
theorem dh_of {w w1:World} {b:Str} {A:Option Addr} {cap l:Nat} (hl:b.length=l) (hc:l≤cap) (hcm:cap≤maxLen) (hl2:l≤100000) (H:BytesAt w A b) (hb:Below w.heap.size w w1):DH w1 w1.heap.size b A l cap:=⟨hl,hl2,Nat.le_refl _,H.below hb,hc,hcm⟩
theorem dfirst_any (b:Str) (A:Option Addr) (cap l:Nat) (hl:b.length=l) (hc:l≤cap) (hcm:cap≤maxLen) (hl2:l≤100000) (w:World) (H:BytesAt w A b) (hM:MaxAt w) :
  Calls Tryz.prog 7 #[.slice A l cap] w (RetIt w (itP b)):=by
 obtain ⟨n,hn⟩:=N9 (w.heap.size)
 obtain ⟨w0,hw0,I0,y0,z0⟩:=it_start w n hn
 have HN:=J9 hn
 have HL:=J9 hl
 by_cases hb:b=[]
 ·have HP:Hid (itP b=⟨0,[],[],[],false⟩):=if_pos hb
  obtain rfl:l=0:=by rw [← hl,hb];rfl
  obtain ⟨w1,hw1,i1,i2,i3,i4,i5,i6⟩:=I0.put 0 (.slice none 0 0) ⟨#[]⟩ (.slice none 0 0) false
  obtain ⟨k0,k1,k2,k3,k4,k5⟩:=I0.cells
  obtain ⟨j0,j1,j2,j3,j4,j5⟩:=i1.cells
  have F:=J9 (retIt_put (w:=w) (w1:=w0) (w2:=w1) (x:=⟨0,[],[],[],false⟩) (A:=none) (B:=none) (c:=0) (c2:=0) hn (by rw [← hn];exact y0) I0.lt (townB_nil _ _) (ownT_nil _ _) ⟨i2,i4,i5⟩)
  clear H hM hl hb I0 y0 i1 i2 i3 i4 i5 i6
  go_enter Tryz.func7,Tryz.ntmps7
  go_wp2
  refine bodyPost_ret (v:=.agg #[.int .i64 0,.slice none 0 0,.string ⟨#[]⟩,.slice none 0 0,.bool false]) ?_ rfl ?_
  ·simp [results,Tryz.results7,go_sem,j0,j1,j2,j3,j4]
  ·rw [HP.out];exact F.out
 ·have HP:Hid (itP b=itR b):=if_neg hb
  have h1:1≤l:=by rw [← hl];cases b;exact absurd rfl hb;simp
  have ND:=newDec_any b A l cap w0
  have DD:=J9 (dh_of hl hc hcm hl2 H y0)
  have M0:=J9 (hM.below y0)
  have IT:=J9 (fun w1 X=>ditem_any DD.out M0.out (w:=w1) (nd:=0) X)
  have I0:=J9 I0
  have Y0:=J9 y0
  clear H hM hl hc hcm hb y0
  go_enter Tryz.func7,Tryz.ntmps7
  go_wp2_with fail
  refine ND.mono ?_
  rintro e w1 ⟨rfl,X1,hb1⟩
  rw [z0] at X1 ⊢
  have IT1:=IT.out w1 (by rw [z0];exact X1)
  rw [z0] at IT1
  clear ND hb1 X1 IT DD M0
  go_wp2_with fail
  refine IT1.mono ?_
  rintro e w2 ⟨⟨A',c',B,c2,rfl,hO,hT⟩,k,p,nd,d,m,X2,-⟩
  have B2:=X2.bel
  have I2:ItAt w2 n _ _ _ _ _:=(B2.block n (by omega)).trans I0.out
  obtain ⟨w3,hw3,i1,i2,i3,i4,i5,i6⟩:=I2.put (itR b).kind (.slice A' (itR b).raw.length c') (sB (itR b).m) (.slice B (itR b).C.length c2) (itR b).al
  obtain ⟨k0,k1,k2,k3,k4,k5⟩:=I2.cells
  obtain ⟨j0,j1,j2,j3,j4,j5⟩:=i1.cells
  have F:=J9 (retIt_put (w:=w) (w1:=w2) (w2:=w3) (x:=itR b) HN.out ((show Below n w w0 by rw [← HN.out];exact Y0.out).trans (B2.mono (by omega))) I2.lt hO hT ⟨i2,i4,i5⟩)
  clear IT1 hO hT X2 B2 I2 i1 i2 i3 i4 i5 i6 I0 Y0
  go_wp2
  refine bodyPost_ret (v:=.agg #[.int .i64 (itR b).kind,.slice A' (itR b).raw.length c',.string (sB (itR b).m),.slice B (itR b).C.length c2,.bool (itR b).al]) ?_ rfl ?_
  ·simp [results,Tryz.results7,go_sem,j0,j1,j2,j3,j4]
  ·rw [HP.out];exact F.out
theorem dneed_any (b:Str) (A:Option Addr) (cap l:Nat) (hl:b.length=l) (hc:l≤cap) (hcm:cap≤maxLen) (hl2:l≤100000) (w:World) (H:BytesAt w A b) (hM:MaxAt w) :
  Calls Tryz.prog 17 #[.slice A l cap] w fun e w'=>e=.returned (.int .i64 (needR b:Nat))∧Below w.heap.size w w':=by
 have ND:=newDec_any b A l cap w
 have DD:=J9 (dh_of hl hc hcm hl2 H (Below.refl _ w))
 have IT:=J9 (fun w1 X=>ditem_any DD.out hM (w:=w1) (nd:=0) X)
 have RN:Hid ((itR b).kind≠4→(itR b).raw.length=needR b):=fun h=>by
  by_cases hb:b=[]
  ·subst hb;exact absurd rfl h
  ·exact raw_need hb h
 obtain ⟨nn,hnn⟩:=N9 (needR b)
 have HNN:=J9 hnn
 rw [hnn] at RN ⊢
 clear H hM hl hc hcm hnn
 go_enter Tryz.func17,Tryz.ntmps17
 go_wp2_with fail
 refine ND.mono ?_
 rintro e w1 ⟨rfl,X1,hb1⟩
 have IT1:=IT.out w1 X1
 clear ND hb1 X1 IT DD
 go_wp2_with fail
 refine IT1.mono ?_
 rintro e w2 ⟨⟨A',c',B,c2,rfl,-,-⟩,k,p,nd,d,m,X2,hN⟩
 obtain ⟨x,w3,hx,hw3,S3,y3,z3⟩:=Fr.box (Fr.nil w2) #[.int .i64 (itR b).kind,.slice A' (itR b).raw.length c',.string (sB (itR b).m),.slice B (itR b).C.length c2,.bool (itR b).al] 31
 have I3:ItAt w3 x (itR b).kind (.slice A' (itR b).raw.length c') (sB (itR b).m) (.slice B (itR b).C.length c2) (itR b).al:=S3.out.1
 have B2:=J9 (X2.bel.trans (y3.mono (Nat.le_of_lt X2.lt)))
 have X3:=X2.all y3
 obtain ⟨j0,j1,j2,j3,j4,j5⟩:=I3.cells
 obtain ⟨e0,e1,e2,e3,e4,e5,e6⟩:=X3.cells
 obtain ⟨kind,hkd⟩:=N9 ((itR b).kind)
 obtain ⟨rl,hrl⟩:=N9 ((itR b).raw.length)
 rw [hkd,hrl] at RN
 rw [hkd,HNN.out] at hN
 rw [hkd] at j0
 rw [hrl] at j1
 by_cases h4:kind=4
 ·subst h4
  obtain rfl:=hN rfl
  have hk4:((4:Int) == 4)=true:=rfl
  clear IT1 X2 X3 I3 S3 y3 hkd hrl hN RN HNN
  go_wp2
  go_ret
  exact ⟨rfl,B2.out⟩
 ·have hk4:(kind == 4)=false:=beq_eq_false_iff_ne.2 h4
  have HR:=RN.out h4
  subst HR
  clear IT1 X2 X3 I3 S3 y3 hkd hrl hN RN HNN h4
  go_wp2
  go_ret
  exact ⟨rfl,B2.out⟩
theorem inst_put {w:World} {c:Nat} {v0 v1:Value} (h:w.heap[c]?=some (.cells #[v0,v1] 24 (0,0))) (x u:Value) :
  ∃ w',(w.setCell ⟨c,0,none⟩ x).setCell ⟨c,1,none⟩ u=w'∧w'.heap[c]?=some (.cells #[x,u] 24 (0,0))∧Below c w w'∧∀ B v C,OwnT w B v C→OwnT w' B v C:=by
 have s:∀ k,k≠c→((w.setCell ⟨c,0,none⟩ x).setCell ⟨c,1,none⟩ u).heap[k]?=w.heap[k]?:=fun k hk=>(heap_setCell_other _ ⟨c,1,none⟩ k _ hk).trans (heap_setCell_other _ ⟨c,0,none⟩ k _ hk)
 refine ⟨_,rfl,heap_setCell_same _ c 1 _ _ u (heap_setCell_same w c 0 _ _ x h),((Below.refl c w).setCell (p:=⟨c,0,none⟩) (Nat.le_refl _) _).setCell (p:=⟨c,1,none⟩) (Nat.le_refl _) _,fun B v C O=>⟨O.1,?_⟩⟩
 rcases O.2 with e | ⟨g,cap,cur,e1,e2,e3,e4⟩
 ·exact .inl e
 ·refine .inr ⟨g,cap,cur,e1,e2,(s g (fun e=>?_)).trans e3,e4⟩
  subst e
  rw [h] at e3
  simp at e3
def isB (b:Str):Bool:=decide ((itP b).kind=1)&&decide ((itP b).raw.length=b.length)
def RetIn (w:World) (b:Str) (e:Ending) (w':World):Prop:=∃ (m:Str) (C:List Tr) (B:Option Addr) (c:Nat),e=.returned (.tuple #[.agg #[.string (sB m),.slice B C.length c],.bool (isB b)])∧OwnT w' w.heap.size (.slice B C.length c) C∧Below w.heap.size w w'∧
 (isB b=true→m=(itP b).m∧C=(itP b).C)∧(isB b=false→m=[]∧C=[])
theorem dinst_any (b:Str) (A:Option Addr) (cap l:Nat) (hl:b.length=l) (hc:l≤cap) (hcm:cap≤maxLen) (hl2:l≤100000) (w:World) (H:BytesAt w A b) (hM:MaxAt w) :
  Calls Tryz.prog 9 #[.slice A l cap] w (RetIn w b):=by
 obtain ⟨n,hn⟩:=N9 (w.heap.size)
 obtain ⟨n0,w0,hn0,hw0,S0,y0,z0⟩:=Fr.box (Fr.nil w) #[.string ⟨#[]⟩,.slice none 0 0] 24
 obtain rfl:n0=n:=by omega
 have b0:w0.heap[n0]?=some (.cells #[.string ⟨#[]⟩,.slice none 0 0] 24 (0,0)):=S0.out.1
 have FI:=dfirst_any b A cap l hl hc hcm hl2 w0 (H.below y0) (hM.below y0)
 have HN:=J9 hn
 have IB:Hid (isB b=(decide ((itP b).kind=1)&&decide ((itP b).raw.length=l))):=by show isB b=_;unfold isB;rw [hl]
 obtain ⟨x,hx⟩:=N9 (itP b)
 have HX:=J9 hx
 rw [hx] at FI IB
 have b0:=J9 b0
 have Y0:Hid (Below n0 w w0):=by rw [← hn];exact y0
 clear H hM hl hc hcm hx S0 y0
 go_enter Tryz.func9,Tryz.ntmps9
 go_wp2_with fail
 refine FI.mono ?_
 rintro e w1 ⟨A',c',B,c2,rfl,hO,hT,hb⟩
 obtain ⟨y,w2,hy,hw2,S2,y2,z2⟩:=Fr.box (Fr.nil w1) #[.int .i64 x.kind,.slice A' x.raw.length c',.string (sB x.m),.slice B x.C.length c2,.bool x.al] 31
 have I2:ItAt w2 y x.kind (.slice A' x.raw.length c') (sB x.m) (.slice B x.C.length c2) x.al:=S2.out.1
 have T2:=hT.below y2
 have B2:Hid (Below n0 w w2):=Y0.out.trans ((hb.trans (y2.mono hb.size)).mono (by omega))
 have b2:w2.heap[n0]?=some (.cells #[.string ⟨#[]⟩,.slice none 0 0] 24 (0,0)):=((hb.trans (y2.mono hb.size)).block n0 (by omega)).trans b0.out
 obtain ⟨j0,j1,j2,j3,j4,j5⟩:=I2.cells
 obtain ⟨q0,q1⟩:=Fr.cells2 b2
 have qf:=fun i=>Lib.frozen_of_heap b2 i
 rw [z0] at T2
 have T2:=J9 T2
 obtain ⟨kd,hkd⟩:=N9 (x.kind)
 obtain ⟨rl,hrl⟩:=N9 (x.raw.length)
 rw [hkd,hrl] at IB
 rw [hkd] at j0
 rw [hrl] at j1
 clear FI hO hT hb S2 y2 I2 hkd hrl b0
 by_cases h:kd=1∧rl=l
 ·obtain ⟨rfl,rfl⟩:=h
  have hi:Hid (isB b=true):=by show isB b=true;rw [IB.out,decide_eq_true rfl,decide_eq_true rfl];rfl
  obtain ⟨w3,hw3,i1,i2,i3⟩:=inst_put b2 (.string (sB x.m)) (.slice B x.C.length c2)
  obtain ⟨g0,g1⟩:=Fr.cells2 i1
  have F:Hid (RetIn w b (.returned (.tuple #[.agg #[.string (sB x.m),.slice B x.C.length c2],.bool true])) w3):=
   ⟨x.m,x.C,B,c2,by rw [hi.out],row_mono (i3 _ _ _ T2.out) (by rw [HN.out];omega),by rw [HN.out];exact B2.out.trans i2,fun _=>by rw [HX.out];exact ⟨rfl,rfl⟩,fun h=>absurd (hi.out.symm.trans h) (by decide)⟩
  clear i1 i2 i3 b2 T2 B2 IB hi HX
  have t1:((1:Int) != 1)=false:=rfl
  have t2:((rl:Int) != (rl:Int))=false:=bne_self_eq_false _
  go_wp2
  refine bodyPost_ret (v:=.tuple #[.agg #[.string (sB x.m),.slice B x.C.length c2],.bool true]) ?_ rfl F.out
  simp [results,Tryz.results9,go_sem,g0,g1]
 ·have hi:Hid (isB b=false):=by
   show isB b=false
   rw [IB.out]
   by_cases h1:kd=1
   ·rw [decide_eq_false (fun h2=>h ⟨h1,h2⟩),Bool.and_false]
   ·rw [decide_eq_false h1,Bool.false_and]
  obtain ⟨w3,hw3,i1,i2,i3⟩:=inst_put b2 (.string ⟨#[]⟩) (.slice none 0 0)
  obtain ⟨g0,g1⟩:=Fr.cells2 i1
  have F:Hid (RetIn w b (.returned (.tuple #[.agg #[.string ⟨#[]⟩,.slice none 0 0],.bool false])) w3):=
   ⟨[],[],none,0,by rw [hi.out];rfl,ownT_nil _ _,by rw [HN.out];exact B2.out.trans i2,fun h=>absurd (hi.out.symm.trans h) (by decide),fun _=>⟨rfl,rfl⟩⟩
  clear i1 i2 i3 b2 T2 B2 IB hi HX
  have hh:(kd != 1)=true∨((kd != 1)=false∧((rl:Int) != (l:Int))=true):=by
   by_cases h1:kd=1
   ·exact .inr ⟨by rw [h1];rfl,bne_iff_ne.2 (fun e=>h ⟨h1,by omega⟩)⟩
   ·exact .inl (bne_iff_ne.2 h1)
  clear h
  rcases hh with t1 | ⟨t1,t2⟩
  ·go_wp2
   refine bodyPost_ret (v:=.tuple #[.agg #[.string ⟨#[]⟩,.slice none 0 0],.bool false]) ?_ rfl F.out
   simp [results,Tryz.results9,go_sem,g0,g1]
  ·go_wp2
   refine bodyPost_ret (v:=.tuple #[.agg #[.string ⟨#[]⟩,.slice none 0 0],.bool false]) ?_ rfl F.out
   simp [results,Tryz.results9,go_sem,g0,g1]
end Go.Proofs.YtclhaejdjogfbaaGreatDoor
namespace Go.Proofs.YtclhaejdjogfbaaGreatDoor
open Go.RowKit Go.Shelf
attribute [local go_sem] Oper.semAt_some
theorem it_ex1:(itR [221,0]).kind=2∧(itR [221,0]).raw.length=1:=by decide +kernel
theorem it_ex2:(itR [221,203,5]).kind=4∧(itR [221,203,5]).raw.length=3:=by decide +kernel
theorem need_ex:needR [221,203,5]=4:=by decide +kernel
theorem bytes_new3 (w:World):BytesAt (w.alloc (.cells #[.int .u8 221,.int .u8 203,.int .u8 5] 5)) (some ⟨w.heap.size,0,none⟩) [221,203,5]:=by
 have h:=own_lit w [221,203,5] (by decide)
 obtain ⟨A',c',e,hP⟩:=h.bytes
 simp only [Value.slice.injEq] at e
 obtain ⟨rfl,-,-⟩:=e
 exact hP
theorem alive12_any (w:World) (hM:MaxAt w):Calls Tryz.prog 5 #[] w fun e w'=>e=.returned (.bool true)∧Below w.heap.size w w':=by
 obtain ⟨E1k,E1r⟩:=it_ex1
 obtain ⟨E2k,E2r⟩:=it_ex2
 have MX:Hid (∀ w2,Below w.heap.size w w2→MaxAt w2):=fun w2 h=>hM.below h
 obtain ⟨g1,w1,hg1,hw1,S1,y1,z1⟩:=Fr.box (Fr.nil w) #[.int .u8 221,.int .u8 0] 5
 have F1:=dfirst_any [221,0] (some ⟨g1,0,none⟩) 2 2 rfl (Nat.le_refl _) (by unfold maxLen;omega) (by decide) w1 (by rw [← hw1,← hg1];exact bytes_new2 w 221 0) (MX.out _ y1)
 rw [itP_ne (by decide)] at F1
 obtain ⟨x1,hx1⟩:=N9 (itR [221,0])
 rw [hx1] at F1 E1k E1r
 have B1:=J9 y1
 clear hx1 y1 S1 hM
 go_enter Tryz.func5,Tryz.ntmps5
 go_wp2_with fail
 refine F1.mono ?_
 rintro e w2 ⟨A1,c1,C1,d1,rfl,-,-,hb2⟩
 rw [E1k,E1r]
 have B2:Hid (Below w.heap.size w w2):=B1.out.trans (hb2.mono B1.out.size)
 obtain ⟨g3,w3,hg3,hw3,S3,y3,z3⟩:=Fr.box (Fr.nil w2) #[.int .u8 221,.int .u8 203,.int .u8 5] 5
 have B3:Hid (Below w.heap.size w w3):=B2.out.trans (y3.mono B2.out.size)
 have F3:=dfirst_any [221,203,5] (some ⟨g3,0,none⟩) 3 3 rfl (Nat.le_refl _) (by unfold maxLen;omega) (by decide) w3 (by rw [← hw3,← hg3];exact bytes_new3 w2) (MX.out _ B3.out)
 rw [itP_ne (by decide)] at F3
 obtain ⟨x3,hx3⟩:=N9 (itR [221,203,5])
 rw [hx3] at F3 E2k E2r
 clear F1 hb2 B1 B2 S3 y3 hx3
 go_wp2_with fail
 refine F3.mono ?_
 rintro e w4 ⟨A3,c3,C3,d3,rfl,-,-,hb4⟩
 rw [E2k,E2r]
 have B4:Hid (Below w.heap.size w w4):=B3.out.trans (hb4.mono B3.out.size)
 obtain ⟨g5,w5,hg5,hw5,S5,y5,z5⟩:=Fr.box (Fr.nil w4) #[.int .i64 2,.slice A1 1 c1,.string (sB x1.m),.slice C1 x1.C.length d1,.bool x1.al] 31
 obtain ⟨g6,w6,hg6,hw6,S6,y6,z6⟩:=Fr.box S5 #[.int .i64 4,.slice A3 3 c3,.string (sB x3.m),.slice C3 x3.C.length d3,.bool x3.al] 31
 obtain rfl:g6=g5+1:=by omega
 have I6:ItAt w6 (g5+1) 4 (.slice A3 3 c3) (sB x3.m) (.slice C3 x3.C.length d3) x3.al:=S6.out.1
 have I5:ItAt w6 g5 2 (.slice A1 1 c1) (sB x1.m) (.slice C1 x1.C.length d1) x1.al:=S6.out.2.1
 obtain ⟨i0,i1,-,-,-,-⟩:=I5.cells
 obtain ⟨j0,j1,-,-,-,-⟩:=I6.cells
 have B6:Hid (Below w.heap.size w w6):=B4.out.trans ((y5.trans (y6.mono y5.size)).mono B4.out.size)
 obtain ⟨g7,w7,hg7,hw7,S7,y7,z7⟩:=Fr.box (Fr.nil w6) #[.int .u8 221,.int .u8 203,.int .u8 5] 5
 obtain rfl:g7=g5+1+1:=by omega
 have B7:Hid (Below w.heap.size w w7):=B6.out.trans (y7.mono B6.out.size)
 have F7:=dneed_any [221,203,5] (some ⟨g5+1+1,0,none⟩) 3 3 rfl (Nat.le_refl _) (by unfold maxLen;omega) (by decide) w7 (by rw [← hw7,← hg7];exact bytes_new3 w6) (MX.out _ B7.out)
 rw [need_ex] at F7
 clear F3 hb4 B3 B4 S5 y5 S6 y6 I5 I6 B6 S7 y7
 go_wp2_with fail
 refine F7.mono ?_
 rintro e w8 ⟨rfl,hb8⟩
 have B8:Hid (Below w.heap.size w w8):=B7.out.trans (hb8.mono B7.out.size)
 clear F7 hb8 B7
 go_wp2
 go_ret
 exact ⟨rfl,B8.out⟩
end Go.Proofs.YtclhaejdjogfbaaGreatDoor
namespace Go.Proofs.YtclhaejdjogfbaaGreatDoor
open Go.RowKit Go.Shelf
theorem TOwnB.bytesP {w:World} {n m c:Nat} {A:Option Addr} {xs:Str} (h:TOwnB w n (.slice A m c) xs):BytesAt w A xs:=by
 obtain ⟨A',c',e,hP⟩:=h.bytes
 simp only [Value.slice.injEq] at e
 obtain ⟨rfl,-,-⟩:=e
 exact hP
theorem itC_le (b:Str):(itR b).C.length≤3:=by
 cases h:hdB b with
 | none=>unfold itR;rw [h];exact Nat.zero_le _
 | some q=>
  obtain ⟨p,o,t⟩:=q
  rw [it_of h]
  cases hx:ratT p o.toNat with
  | none=>simp only;split <;> exact Nat.zero_le _
  | some x=>
   simp only
   split
   ·exact Nat.zero_le _
   ·cases hf:fillV x.2.2.1 x.2.1 (numB x.2.2.1 t).1 (numB x.2.2.1 t).2 with
    | none=>exact Nat.zero_le _
    | some C=>
     have h1:=congrArg List.length (fill_shape hf).1
     rw [List.length_map,List.length_map] at h1
     have h2:=(InTab.ok (k:=(p,(o.toNat:Int),x.1,x.2.1,x.2.2.1,x.2.2.2)) ⟨o.toNat,o.toNat_lt,rfl,hx⟩).len
     simp only at h2
     show C.length≤3
     omega
end Go.Proofs.YtclhaejdjogfbaaGreatDoor
namespace Go.Proofs.YtclhaejdjogfbaaGreatDoor
open Go.RowKit Go.Shelf
attribute [local go_sem] Oper.semAt_some
end Go.Proofs.YtclhaejdjogfbaaGreatDoor
namespace Go.Proofs.YtclhaejdjogfbaaGreatDoor
open Go.RowKit Go.Shelf
attribute [local go_sem] Oper.semAt_some
end Go.Proofs.YtclhaejdjogfbaaGreatDoor
namespace Go.Proofs.YtclhaejdjogfbaaGreatDoor
open Go.RowKit Go.Shelf
attribute [local go_sem] Oper.semAt_some
theorem shaped_any (page op:Int) (m:Str) (A:Option Addr) (cap l:Nat) (L:List Tr) (hl:L.length=l) (hL:l≤1000) (ex:Str) (al:Bool) (s:ByteArray) (Ac:Option Addr) (cc lc:Nat) (C:List Tr) (hlc:C.length=lc) (hLc:lc≤1000) (w:World) (H:OpsP w A L) (HC:OpsP w Ac C) :
  Calls Tryz.prog 87 #[enV page op m (.slice A l cap) ex al,.agg #[.string s,.slice Ac lc cc]] w fun e w'=>e=.returned (.bool (shpR m L s C))∧Below w.heap.size w w':=by
 unfold enV
 obtain ⟨w0,hw0⟩:=N9 ((w.alloc (.cells #[.int .i64 page,.int .u8 op,.string (sB m),.slice A l cap,.string (sB ex),.bool al] 63)).alloc (.cells #[.string s,.slice Ac lc cc] 24))
 obtain ⟨n,hn⟩:=N9 (w.heap.size)
 have b0:Below w.heap.size w w0:=by rw [← hw0];exact ((Below.refl _ w).alloc (Nat.le_refl _) _).alloc (by simp) _
 have c0:w0.heap[n]?=some (.cells #[.int .i64 page,.int .u8 op,.string (sB m),.slice A l cap,.string (sB ex),.bool al] 63 (0,0)):=by rw [← hw0,← hn];exact (Below.heap_alloc _ _ _ (by simp)).trans (World.alloc_heap_new w _)
 have c1:w0.heap[n+1]?=some (.cells #[.string s,.slice Ac lc cc] 24 (0,0)):=by
  rw [← hw0,← hn]
  have h:=World.alloc_heap_new (w.alloc (.cells #[.int .i64 page,.int .u8 op,.string (sB m),.slice A l cap,.string (sB ex),.bool al] 63)) (.cells #[.string s,.slice Ac lc cc] 24)
  rwa [World.size_alloc] at h
 have BB:Hid (Below n w w0):=by rw [← hn];exact b0
 have HN:=J9 hn
 have PL:=J9 (H.below b0)
 have PC:=J9 (HC.below b0)
 have k2:=C9 c0 2
 have k3:=C9 c0 3
 have j0:=C9 c1 0
 have j1:=C9 c1 1
 have hd:=below_drewN w0 w0.heap.size
 clear H HC b0
 by_cases hs:sB m=s
 rotate_left
 ·have hq:=strB_ne hs
  have T:Hid (false=shpR m L s C):=by show false=_;unfold shpR;rw [decide_eq_false hs];rfl
  clear hs hlc hl
  go_enter Tryz.func87,Tryz.ntmps87
  go_wp2
  go_ret
  exact ⟨ret_bool T.out,by rw [HN.out];exact BB.out⟩
 subst hs
 have hq:=strB_eq (sB m)
 by_cases hll:l=lc
 rotate_left
 ·have T:Hid (false=shpR m L (sB m) C):=by show false=_;unfold shpR;rw [show decide (L.map ks2=C.map ks2)=false from decide_eq_false (fun e=>hll (by rw [← hl,← hlc];exact len_of_shape e))];simp
  have e1:((l:Int) == (lc:Int))=false:=beq_eq_false_iff_ne.2 (by omega)
  have e2:¬((l:Int)=(lc:Int)):=by omega
  clear hlc hl hll
  go_enter Tryz.func87,Tryz.ntmps87
  go_wp2
  go_ret
  exact ⟨ret_bool T.out,by rw [HN.out];exact BB.out⟩
 subst hll
 have HL1:=J9 hl
 have HL2:=J9 hlc
 have KK:Hid (w0.heap[n]?=some (.cells #[.int .i64 page,.int .u8 op,.string (sB m),.slice A l cap,.string (sB ex),.bool al] 63 (0,0))∧w0.heap[n+1]?=some (.cells #[.string (sB m),.slice Ac l cc] 24 (0,0))):=⟨c0,c1⟩
 clear hl hlc c0 c1 hLc
 go_enter Tryz.func87,Tryz.ntmps87
 go_wp2
 clear hd hw0 k2 k3 j0 j1 hq
 go_loopw [5] (fun i wr=>∃ j:Nat,j≤l∧i=.int .i64 j∧Hid (∀ k,k<j→ks2 (L.getD k tr0)=ks2 (C.getD k tr0))∧Hid (Below w0.heap.size w0 wr)) (fun i _=>l - (intOf i).toNat)
 case atStart=>exact ⟨0,Nat.zero_le _,rfl,fun k h=>by omega,Below.refl _ _⟩
 case round=>
  obtain ⟨j,hj,rfl,R,B⟩:=hrel
  have s0:n<w0.heap.size:=(Array.getElem?_eq_some_iff.1 KK.out.1).1
  have s1:n+1<w0.heap.size:=(Array.getElem?_eq_some_iff.1 KK.out.2).1
  have d0:=(B.out.block n s0).trans KK.out.1
  have d1:=(B.out.block (n+1) s1).trans KK.out.2
  have k3:=C9 d0 3
  have j1:=C9 d1 1
  have B2:=fun q=>J9 (B.out.trans (below_drewN wr w0.heap.size q))
  have BF:Hid (∀ q,Below n w (wr.drewN q)):=fun q=>BB.out.trans ((B2 q).out.mono (by omega))
  by_cases hlt:j<l
  ·have hj1:j<L.length:=by have:=HL1.out;omega
   have hj2:j<C.length:=by have:=HL2.out;omega
   obtain ⟨b1,o1,rfl,-,p0,p1,p2⟩:=(PL.out.below B.out).at_ hj1
   obtain ⟨b2,o2,rfl,-,q0,q1,q2⟩:=(PC.out.below B.out).at_ hj2
   have g1:L.getD j tr0=L[j]:=by rw [List.getD_eq_getElem?_getD,List.getElem?_eq_getElem hj1];rfl
   have g2:C.getD j tr0=C[j]:=by rw [List.getD_eq_getElem?_getD,List.getElem?_eq_getElem hj2];rfl
   rw [← g1] at p0 p1 p2
   rw [← g2] at q0 q1 q2
   have R2:Hid (ks2 (L.getD j tr0)=ks2 (C.getD j tr0)→∀ k,k<j+1→ks2 (L.getD k tr0)=ks2 (C.getD k tr0)):=fun h k hk=>by
    by_cases e:k=j
    ·subst e;exact h
    ·exact R.out k (by omega)
   have RF:Hid (ks2 (L.getD j tr0)≠ks2 (C.getD j tr0)→shpR m L (sB m) C=false):=fun h=>by
    unfold shpR
    rw [show decide (L.map ks2=C.map ks2)=false from decide_eq_false (fun e=>h (by
     have h2:=get_of_shape e j hj1
     exact Prod.ext h2.1 h2.2))]
    simp
   obtain ⟨⟨x0,x1,x2⟩,hx⟩:=N9 (L.getD j tr0)
   obtain ⟨⟨y0,y1,y2⟩,hy⟩:=N9 (C.getD j tr0)
   rw [hx] at p0 p1 p2 R2 RF
   rw [hy] at q0 q1 q2 R2 RF
   simp only [ks2] at p0 p1 p2 q0 q1 q2 R2 RF
   have hjc:(j:Int)<(l:Int):=by omega
   clear hx hy g1 g2 hj1 hj2 R d0 d1
   by_cases h0:x0=y0
   ·subst h0
    by_cases h1:x1=y1
    ·subst h1
     have R3:=J9 (R2.out rfl)
     go_wp2
     go_quiet (fail)
     go_wp2
     go_roundw
     case rel=>exact ⟨j+1,by omega,by go_num,R3.out,(B2 _).out⟩
     case measure=>simp [intOf];omega
    ·have T:=J9 (RF.out (fun e=>h1 (congrArg (fun z:Int×Int=>z.2) e)))
     have e1:(x1 == y1)=false:=beq_eq_false_iff_ne.2 h1
     go_wp2
     go_quiet (fail)
     go_wp2
     go_ret
     exact ⟨ret_bool T.out.symm,by rw [HN.out];exact BF.out _⟩
   ·have T:=J9 (RF.out (fun e=>h0 (congrArg (fun z:Int×Int=>z.1) e)))
    have e1:(x0 == y0)=false:=beq_eq_false_iff_ne.2 h0
    go_wp2
    go_quiet (fail)
    go_wp2
    go_ret
    exact ⟨ret_bool T.out.symm,by rw [HN.out];exact BF.out _⟩
  ·have T:Hid (true=shpR m L (sB m) C):=by
    show true=_
    unfold shpR
    rw [decide_eq_true rfl,decide_eq_true]
    ·rfl
    ·refine List.ext_getElem (by simp [HL1.out,HL2.out]) fun k a b=>?_
     have a':k<L.length:=by simpa using a
     have b':k<C.length:=by simpa using b
     have h:=R.out k (by have:=HL1.out;omega)
     rw [List.getElem_map,List.getElem_map]
     rw [List.getD_eq_getElem?_getD,List.getElem?_eq_getElem a',List.getD_eq_getElem?_getD,List.getElem?_eq_getElem b'] at h
     exact h
   have BE:Hid (Below n w wr):=BB.out.trans (B.out.mono (by omega))
   clear R B2 BF d0 d1
   go_wp2
   go_ret
   exact ⟨ret_bool T.out,by rw [HN.out];exact BE.out⟩
end Go.Proofs.YtclhaejdjogfbaaGreatDoor
namespace Go.Proofs.YtclhaejdjogfbaaGreatDoor
open Go.RowKit
theorem wid_4 {s:ByteArray} (L:List Tr) (h:I4 s):(0:Int)=widL (opc s) L:=by rw [opc_4 h];rfl
theorem wid_5 {s:ByteArray} (L:List Tr) (h:I5 s):(2:Int)=widL (opc s) L:=by rw [opc_5 h];rfl
theorem wid_6y {s:ByteArray} (L:List Tr) (h:I6 s) (k:0<L.length) (e:L[0].1=3):(2:Int)=widL (opc s) L:=by
 rw [opc_6 h]
 cases L with
 | nil=>simp at k
 | cons t r=>
  have e':t.1=3:=e
  unfold widL
  rw [if_neg (by omega),if_neg (by omega),if_pos ⟨rfl,by simp [e']⟩]
theorem wid_6n {s:ByteArray} (L:List Tr) (h:I6 s) (e:∀ k:0<L.length,¬L[0].1=3):(1:Int)=widL (opc s) L:=by
 rw [opc_6 h]
 unfold widL
 rw [if_neg (by omega),if_neg (by omega),if_neg]
 rintro ⟨-,q⟩
 cases L with
 | nil=>simp at q
 | cons t r=>exact e (by simp) (by simpa using q)
theorem wid_o {s:ByteArray} (L:List Tr) (h4:¬I4 s) (h5:¬I5 s) (h6:¬I6 s):(1:Int)=widL (opc s) L:=by
 unfold widL
 rw [if_neg (opc_n4 h4),if_neg (opc_n5 h5),if_neg (fun q=>opc_n6 h6 q.1)]
theorem width_any (s:ByteArray) (A:Option Addr) (cap:Nat) (L:List Tr) (hL:L.length≤1000) (w:World) (H:OpsP w A L) :
  Calls Tryz.prog 121 #[.agg #[.string s,.slice A L.length cap]] w fun e w'=>e=.returned (.int .i64 (widL (opc s) L))∧Below w.heap.size w w':=by
 have B0:Hid (Below w.heap.size w (w.alloc (.cells #[.string s,.slice A L.length cap] 24))):=(Below.refl _ _).alloc (Nat.le_refl _) _
 by_cases h4:I4 s
 ·have E:=J9 (wid_4 L h4)
  clear H
  rcases h4 with rfl | rfl | rfl | rfl | rfl | rfl
  all_goals
   go_enter Tryz.func121,Tryz.ntmps121
   go_wp2
   go_ret
   exact ⟨ret_int E.out,B0.out⟩
 by_cases h5:I5 s
 ·have E:=J9 (wid_5 L h5)
  clear H h4
  rcases h5 with rfl | rfl
  all_goals
   go_enter Tryz.func121,Tryz.ntmps121
   go_wp2
   go_ret
   exact ⟨ret_int E.out,B0.out⟩
 by_cases h6:I6 s
 ·have EY:=J9 (wid_6y L h6)
  have EN:=J9 (wid_6n L h6)
  have X:=J9 (H.below B0.out)
  clear h4 h5 H
  obtain rfl:s=_:=h6
  by_cases h0:0<L.length
  ·obtain ⟨b,off,rfl,hb,p0,p1,p2⟩:=X.out.at_ h0
   rw [Nat.zero_mul,Nat.add_zero] at p0
   obtain ⟨n,hn⟩:=N9 (L.length)
   have EY:=J9 (EY.out h0)
   have EN:=J9 (fun (q:¬L[0].1=3)=>EN.out fun _=>q)
   obtain ⟨k,hk⟩:=N9 (L[0].1)
   rw [hk] at EY EN p0
   have g1:decide ((0:Int)<(L.length:Int))=true:=decide_eq_true (by omega)
   have g2:(0:Int)<(L.length:Int):=by omega
   have hL2:L.length≤1000:=hL
   rw [hn] at hL p0 p1 p2 B0 X g1 g2 ⊢
   clear hn hk h0 p1 p2 hb
   by_cases hk3:k=3
   ·have E:=J9 (EY.out hk3)
    subst hk3
    go_enter Tryz.func121,Tryz.ntmps121
    go_wp2
    go_ret
    exact ⟨ret_int E.out,B0.out⟩
   ·have E:=J9 (EN.out hk3)
    go_enter Tryz.func121,Tryz.ntmps121
    go_wp2
    go_ret
    exact ⟨ret_int E.out,B0.out⟩
  ·have e0:L.length=0:=by omega
   have E:=J9 (EN.out fun k=>absurd k h0)
   rw [e0] at B0 ⊢
   clear h0 e0 X
   go_enter Tryz.func121,Tryz.ntmps121
   go_wp2
   go_ret
   exact ⟨ret_int E.out,B0.out⟩
 ·have E:=J9 (wid_o L h4 h5 h6)
  clear H
  simp only [I4,not_or] at h4
  simp only [I5,not_or] at h5
  obtain ⟨n1,n2,n3,n4,n5,n6⟩:=h4
  obtain ⟨n7,n8⟩:=h5
  have n9:¬s=_:=h6
  have q1:(s.toList == [66,73,84])=false:=by simpa using strB_ne n1
  have q2:(s.toList == [82,69,83])=false:=by simpa using strB_ne n2
  have q3:(s.toList == [83,69,84])=false:=by simpa using strB_ne n3
  have q4:(s.toList == [73,77])=false:=by simpa using strB_ne n4
  have q5:(s.toList == [82,83,84])=false:=by simpa using strB_ne n5
  have q6:(s.toList == [79,85,84])=false:=by simpa using strB_ne n6
  have q7:(s.toList == [74,80])=false:=by simpa using strB_ne n7
  have q8:(s.toList == [67,65,76,76])=false:=by simpa using strB_ne n8
  have q9:(s.toList == [76,68])=false:=by simpa using strB_ne n9
  clear n1 n2 n3 n4 n5 n6 n7 n8 n9 h6
  go_enter Tryz.func121,Tryz.ntmps121
  go_wp2
  go_ret
  exact ⟨ret_int E.out,B0.out⟩
end Go.Proofs.YtclhaejdjogfbaaGreatDoor
namespace Go.Proofs.YtclhaejdjogfbaaGreatDoor
open Go.RowKit
def inL (WL:List ByteArray) (s:ByteArray):Bool:=WL.any fun x=>x.toList == s.toList
theorem inL_yes (WL:List ByteArray) (s:ByteArray) (j:Nat) (h:j<WL.length) (e:(WL[j].toList == s.toList)=true):true=inL WL s:=
 (List.any_eq_true.2 ⟨_,List.getElem_mem h,e⟩).symm
theorem inL_no (WL:List ByteArray) (s:ByteArray) (h:∀ k,k<WL.length→∀ (a:k<WL.length),(WL[k].toList == s.toList)=false):false=inL WL s:=by
 refine (List.any_eq_false.2 fun x hx=>?_).symm
 obtain ⟨k,hk,rfl⟩:=List.getElem_of_mem hx
 rw [h k hk hk]
 exact Bool.false_ne_true
theorem in_any (A:Option Addr) (cap:Nat) (WL:List ByteArray) (hW:WL.length≤1000) (s:ByteArray) (w:World) (H:StrsA w A WL) :
  Calls Tryz.prog 23 #[.slice A WL.length cap,.string s] w fun e w'=>e=.returned (.bool (inL WL s))∧w=w':=by
 have X:=J9 H
 have YE:=J9 (inL_yes WL s)
 have NO:=J9 (inL_no WL s)
 obtain ⟨n,hn⟩:=N9 (WL.length)
 have HN:=J9 hn
 rw [hn] at hW ⊢
 clear H hn
 go_enter Tryz.func23,Tryz.ntmps23
 go_wp2
 go_loopw [5] (fun i wr=>∃ j:Nat,j≤n∧i=.int .i64 j∧Hid (∀ k,k<j→∀ (a:k<WL.length),(WL[k].toList == s.toList)=false)∧wr=w) (fun i _=>n - (intOf i).toNat)
 case atStart=>exact ⟨0,Nat.zero_le _,rfl,fun k h=>by omega,rfl⟩
 case round=>
  obtain ⟨j,hj,rfl,R,rfl⟩:=hrel
  by_cases hlt:j<n
  ·have hj1:j<WL.length:=by rw [HN.out];exact hlt
   obtain ⟨b1,o1,hA1,p0⟩:=X.out.at_ hj1
   subst hA1
   cases q:(WL[j].toList == s.toList)
   ·have R2:Hid (∀ k,k<j+1→∀ (a:k<WL.length),(WL[k].toList == s.toList)=false):=fun k hk a=>by
     by_cases e:k=j
     ·subst e;exact q
     ·exact R.out k (by omega) a
    obtain ⟨x,hx⟩:=N9 (WL[j])
    rw [hx] at p0 q
    clear hx R hj1
    go_wp2
    go_roundw
    case rel=>exact ⟨j+1,by omega,by go_num,R2.out,trivial⟩
    case measure=>simp [intOf];omega
   ·have T:Hid (true=inL WL s):=YE.out j hj1 q
    obtain ⟨x,hx⟩:=N9 (WL[j])
    rw [hx] at p0 q
    clear hx R hj1
    go_wp2
    go_ret
    exact ⟨ret_bool T.out,rfl⟩
  ·have T:Hid (false=inL WL s):=NO.out fun k hk a=>R.out k (by have:=HN.out;omega) a
   clear R
   go_wp2
   go_ret
   exact ⟨ret_bool T.out,rfl⟩
def W1:List ByteArray:=[⟨#[83,85,66]⟩,⟨#[65,78,68]⟩,⟨#[88,79,82]⟩,⟨#[79,82]⟩,⟨#[67,80]⟩]
def W2:List ByteArray:=[⟨#[65,68,68]⟩,⟨#[65,68,67]⟩,⟨#[83,66,67]⟩]
def W4:List ByteArray:=[⟨#[66,73,84]⟩,⟨#[82,69,83]⟩,⟨#[83,69,84]⟩,⟨#[73,77]⟩,⟨#[82,83,84]⟩,⟨#[79,85,84]⟩]
theorem eqB (a b:ByteArray):(a.toList == b.toList)=decide (b=a):=by
 by_cases h:b=a
 ·subst h;rw [strB_eq,decide_eq_true rfl]
 ·rw [decide_eq_false h,strB_ne (fun e=>h e.symm)]
theorem in_1 (s:ByteArray):inL W1 s=decide (I1 s):=Bool.eq_iff_iff.2 (by rw [decide_eq_true_iff];simp [inL,W1,I1,eqB])
theorem in_2 (s:ByteArray):inL W2 s=decide (I2 s):=Bool.eq_iff_iff.2 (by rw [decide_eq_true_iff];simp [inL,W2,I2,eqB])
theorem in_4 (s:ByteArray):inL W4 s=decide (I4 s):=Bool.eq_iff_iff.2 (by rw [decide_eq_true_iff];simp [inL,W4,I4,eqB])
theorem rwidth_any (s:ByteArray) (A:Option Addr) (cap:Nat) (L:List Tr) (hL:L.length≤1000) (w:World) (H:OpsP w A L) :
  Calls Tryz.prog 24 #[.agg #[.string s,.slice A L.length cap]] w fun e w'=>e=.returned (.int .i64 (widL (opc s) L))∧Below w.heap.size w w':=by
 obtain ⟨w1,hw1⟩:=N9 ((w.alloc (.cells #[.string s,.slice A L.length cap] 24)).alloc (.cells (W4.map Value.string).toArray 9))
 have B1:Hid (Below w.heap.size w w1):=by rw [← hw1];exact ((Below.refl _ _).alloc (Nat.le_refl _) _).alloc (by simp) _
 have T1:Hid (Bx w1 w.heap.size s A L.length cap):=by rw [← hw1];exact ⟨by simp [go_sem],by simp [go_sem]⟩
 have hs4:=strs_of_new (w.alloc (.cells #[.string s,.slice A L.length cap] 24)) W4 9
 have hsz:(w.alloc (.cells #[.string s,.slice A L.length cap] 24)).heap.size=w.heap.size+1:=by simp
 rw [hw1,hsz] at hs4
 have IN:=J9 (in_any (some ⟨w.heap.size+1,0,none⟩) 6 W4 (by decide) s w1 hs4)
 rw [in_4] at IN
 have X1:=J9 (H.below B1.out)
 have E4:=J9 (fun h=>wid_4 (s:=s) L h)
 have E5:=J9 (fun h=>wid_5 (s:=s) L h)
 have EY:=J9 (fun h=>wid_6y (s:=s) L h)
 have EN:=J9 (fun h=>wid_6n (s:=s) L h)
 have EO:=J9 (fun h1 h2 h3=>wid_o (s:=s) L h1 h2 h3)
 clear H hs4 hsz
 have hw2:(w.alloc (.cells #[.string s,.slice A L.length cap] 24)).alloc (.cells #[.string ⟨#[66,73,84]⟩,.string ⟨#[82,69,83]⟩,.string ⟨#[83,69,84]⟩,.string ⟨#[73,77]⟩,.string ⟨#[82,83,84]⟩,.string ⟨#[79,85,84]⟩] 9)=w1:=hw1
 clear hw1
 have g9:W4.length=6:=rfl
 rw [g9] at IN
 obtain ⟨t0,t1⟩:=T1.out
 by_cases h4:I4 s
 ·have E:=J9 (E4.out h4)
  rw [decide_eq_true h4] at IN
  go_enter Tryz.func24,Tryz.ntmps24
  go_wp2_with fail
  refine IN.out.mono ?_
  rintro e w2 ⟨rfl,rfl⟩
  go_wp2
  go_ret
  exact ⟨ret_int E.out,B1.out⟩
 rw [decide_eq_false h4] at IN
 by_cases h5:I5 s
 ·have E:=J9 (E5.out h5)
  clear h4
  rcases h5 with rfl | rfl
  all_goals
   go_enter Tryz.func24,Tryz.ntmps24
   go_wp2_with fail
   refine IN.out.mono ?_
   rintro e w2 ⟨rfl,rfl⟩
   go_wp2
   go_ret
   exact ⟨ret_int E.out,B1.out⟩
 by_cases h6:I6 s
 ·have EY:=J9 (EY.out h6)
  have EN:=J9 (EN.out h6)
  clear h4 h5
  obtain rfl:s=_:=h6
  by_cases h0:0<L.length
  ·obtain ⟨b,off,rfl,hb,p0,p1,p2⟩:=X1.out.at_ h0
   rw [Nat.zero_mul,Nat.add_zero] at p0
   have EY:=J9 (EY.out h0)
   have EN:=J9 (fun (q:¬L[0].1=3)=>EN.out fun _=>q)
   obtain ⟨k,hk⟩:=N9 (L[0].1)
   rw [hk] at EY EN p0
   have g1:decide ((0:Int)<(L.length:Int))=true:=decide_eq_true (by omega)
   have g2:(0:Int)<(L.length:Int):=by omega
   obtain ⟨n,hn⟩:=N9 (L.length)
   rw [hn] at hL t1 g1 g2 hw2 ⊢
   clear hn hk h0 p1 p2 hb X1 T1
   by_cases hk3:k=3
   ·have E:=J9 (EY.out hk3)
    subst hk3
    go_enter Tryz.func24,Tryz.ntmps24
    go_wp2_with fail
    refine IN.out.mono ?_
    rintro e w2 ⟨rfl,rfl⟩
    go_wp2
    go_ret
    exact ⟨ret_int E.out,B1.out⟩
   ·have E:=J9 (EN.out hk3)
    go_enter Tryz.func24,Tryz.ntmps24
    go_wp2_with fail
    refine IN.out.mono ?_
    rintro e w2 ⟨rfl,rfl⟩
    go_wp2
    go_ret
    exact ⟨ret_int E.out,B1.out⟩
  ·have e0:L.length=0:=by omega
   have E:=J9 (EN.out fun k=>absurd k h0)
   rw [e0] at t1 hw2 ⊢
   clear h0 e0 X1 T1
   go_enter Tryz.func24,Tryz.ntmps24
   go_wp2_with fail
   refine IN.out.mono ?_
   rintro e w2 ⟨rfl,rfl⟩
   go_wp2
   go_ret
   exact ⟨ret_int E.out,B1.out⟩
 ·have E:=J9 (EO.out h4 h5 h6)
  simp only [I5,not_or] at h5
  obtain ⟨n7,n8⟩:=h5
  have n9:¬s=_:=h6
  have q7:(s.toList == [74,80])=false:=by simpa using strB_ne n7
  have q8:(s.toList == [67,65,76,76])=false:=by simpa using strB_ne n8
  have q9:(s.toList == [76,68])=false:=by simpa using strB_ne n9
  clear n7 n8 n9 h6 h4
  go_enter Tryz.func24,Tryz.ntmps24
  go_wp2_with fail
  refine IN.out.mono ?_
  rintro e w2 ⟨rfl,rfl⟩
  go_wp2
  go_ret
  exact ⟨ret_int E.out,B1.out⟩
end Go.Proofs.YtclhaejdjogfbaaGreatDoor
namespace Go.Proofs.YtclhaejdjogfbaaGreatDoor
open Go.RowKit
def Dr (w:World) (b:Nat) (s:ByteArray) (v:Value):Prop:=w.heap[b]?=some (.cells #[.string s,v] 103 (0,0))
theorem Dr.cells {w:World} {b:Nat} {s:ByteArray} {v:Value} (h:Dr w b s v):w.cell? ⟨b,0,none⟩=some (.string s)∧w.cell? ⟨b,1,none⟩=some v∧w.frozen? ⟨b,0,none⟩=false∧w.frozen? ⟨b,1,none⟩=false:=
 ⟨by rw [C9 h];rfl,by rw [C9 h];rfl,Lib.frozen_of_heap h 0,Lib.frozen_of_heap h 1⟩
theorem Dr.lt {w:World} {b:Nat} {s:ByteArray} {v:Value} (h:Dr w b s v):b<w.heap.size:=(Array.getElem?_eq_some_iff.1 h).1
theorem Dr.below {w w':World} {b:Nat} {s:ByteArray} {v:Value} (h:Dr w b s v) (hb:Below w.heap.size w w'):Dr w' b s v:=(hb.block _ h.lt).trans h
theorem Dr.put {w:World} {b:Nat} {s:ByteArray} {v:Value} (h:Dr w b s v) (u:Value):Dr (w.setCell ⟨b,1,none⟩ u) b s u:=by
 have h1:=heap_setCell_same w b 1 _ _ u h
 exact h1
theorem Dr.other {w:World} {b g:Nat} {s:ByteArray} {v:Value} (h:Dr w b s v) (hg:g≠b) (j:Nat) (u:Value):Dr (w.setCell ⟨g,j,none⟩ u) b s v:=(heap_setCell_other w ⟨g,j,none⟩ b u hg.symm).trans h
def RowS (w:World) (n g off:Nat) (L:List Tr):Prop:=n≤g∧∃ cur,w.heap[g]?=some (.cells cur 56 (0,0))∧∀ j u,(cellsT L)[j]?=some u→cur[off+j]?=some u
def OwnS (w:World) (n:Nat) (v:Value) (L:List Tr):Prop:=
 (v=.slice none 0 0∧L=[])∨∃ g off cap,v=.slice (some ⟨g,off,none⟩) L.length cap∧L.length≤cap∧cap≤maxLen∧RowS w n g off L
theorem RowS.apart {w:World} {n g off b:Nat} {L:List Tr} {s:ByteArray} {v:Value} (h:RowS w n g off L) (hd:Dr w b s v):g≠b:=by
 rintro rfl
 obtain ⟨-,cur,hc,-⟩:=h
 rw [show w.heap[g]?=_ from hd] at hc
 simp at hc
theorem RowS.lt {w:World} {n g off:Nat} {L:List Tr} (h:RowS w n g off L):g<w.heap.size:=by
 obtain ⟨-,cur,hc,-⟩:=h
 exact (Array.getElem?_eq_some_iff.1 hc).1
theorem RowS.below {w w':World} {n g off:Nat} {L:List Tr} (h:RowS w n g off L) (hb:Below w.heap.size w w'):RowS w' n g off L:=by
 have hl:=h.lt
 obtain ⟨h1,cur,hc,h2⟩:=h
 exact ⟨h1,cur,(hb.block _ hl).trans hc,h2⟩
theorem RowS.cellAt {w:World} {n g off:Nat} {L:List Tr} (h:RowS w n g off L) (j:Nat) (u:Value) (e:(cellsT L)[j]?=some u):w.cell? ⟨g,off+j,none⟩=some u:=by
 obtain ⟨-,cur,hc,h2⟩:=h
 rw [C9 hc]
 exact h2 j u e
theorem RowS.frozen {w:World} {n g off:Nat} {L:List Tr} (h:RowS w n g off L) (j:Nat):w.frozen? ⟨g,j,none⟩=false:=by
 obtain ⟨-,cur,hc,-⟩:=h
 exact Lib.frozen_of_heap hc j
theorem RowS.at_ {w:World} {n g off:Nat} {L:List Tr} (h:RowS w n g off L) (j:Nat) (hj:j<L.length):w.cell? ⟨g,off+j*3,none⟩=some (.int .i64 L[j].1)∧w.cell? ⟨g,off+j*3+1,none⟩=some (.int .i64 L[j].2.1)∧w.cell? ⟨g,off+j*3+2,none⟩=some (.int .i64 L[j].2.2):=by
 obtain ⟨h1,h2,h3⟩:=cellsT_at L j hj
 exact ⟨h.cellAt _ _ h1,by rw [Nat.add_assoc];exact h.cellAt _ _ h2,by rw [Nat.add_assoc];exact h.cellAt _ _ h3⟩
theorem RowS.put {w:World} {n g off:Nat} {L L':List Tr} (h:RowS w n g off L) (j:Nat) (u:Value) (e:(cellsT L).set j u=cellsT L'):RowS (w.setCell ⟨g,off+j,none⟩ u) n g off L':=by
 obtain ⟨h1,cur,hc,h2⟩:=h
 refine ⟨h1,_,heap_setCell_same w g (off+j) _ _ u hc,fun k x hk=>?_⟩
 rw [← e,List.getElem?_set] at hk
 by_cases hjk:j=k
 ·subst hjk
  rw [if_pos rfl] at hk
  have hlen:off+j<cur.size:=by
   by_cases hj:j<(cellsT L).length
   ·have:=h2 j _ (List.getElem?_eq_getElem hj)
    exact (Array.getElem?_eq_some_iff.1 this).1
   ·rw [if_neg hj] at hk;cases hk
  split at hk
  ·simp only [Option.some.injEq] at hk
   subst hk
   simp [hlen]
  ·cases hk
 ·rw [if_neg hjk] at hk
  rw [Array.getElem?_setIfInBounds,if_neg (by omega)]
  exact h2 k x hk
theorem OwnS.below {w w':World} {n:Nat} {v:Value} {L:List Tr} (h:OwnS w n v L) (hb:Below w.heap.size w w'):OwnS w' n v L:=by
 rcases h with h | ⟨g,off,cap,h1,h2,h3,h4⟩
 ·exact .inl h
 ·exact .inr ⟨g,off,cap,h1,h2,h3,h4.below hb⟩
theorem OwnS.other {w:World} {n b:Nat} {v u:Value} {L:List Tr} {s:ByteArray} {x:Value} (h:OwnS w n v L) (hd:Dr w b s x) (j:Nat):OwnS (w.setCell ⟨b,j,none⟩ u) n v L:=by
 rcases h with h | ⟨g,off,cap,h1,h2,h3,h4⟩
 ·exact .inl h
 ·have hg:=h4.apart hd
  obtain ⟨h5,cur,hc,h6⟩:=h4
  exact .inr ⟨g,off,cap,h1,h2,h3,h5,cur,(heap_setCell_other w ⟨b,j,none⟩ g u hg).trans hc,h6⟩
theorem OwnS.ops {w:World} {n:Nat} {v:Value} {L:List Tr} (h:OwnS w n v L):∃ A cap,v=.slice A L.length cap∧OpsP w A L∧L.length≤cap∧cap≤maxLen:=by
 rcases h with ⟨rfl,rfl⟩ | ⟨g,off,cap,rfl,h2,h3,h4⟩
 ·exact ⟨none,0,rfl,.inl rfl,Nat.le_refl _,by unfold maxLen;omega⟩
 ·exact ⟨_,cap,rfl,.inr ⟨g,off,rfl,fun j hj=>h4.at_ j hj⟩,h2,h3⟩
theorem OwnT.own {w:World} {n:Nat} {v:Value} {L:List Tr} (h:OwnT w n v L):OwnS w n v L:=by
 obtain ⟨hl,h | ⟨g,cap,cur,rfl,h1,h2,h3,h4,h5,h6⟩⟩:=h
 ·exact .inl ⟨h.1,List.eq_nil_of_length_eq_zero h.2⟩
 ·refine .inr ⟨g,0,cap,rfl,h3,h4,h1,cur,h2,fun j u hj=>?_⟩
  rw [← h6,List.getElem?_take] at hj
  split at hj
  ·rw [Nat.zero_add];simpa using hj
  ·cases hj
theorem OwnS.lift {w:World} {n m:Nat} {v:Value} {L:List Tr} (h:OwnS w n v L) (k:m≤n):OwnS w m v L:=by
 rcases h with h | ⟨g,off,cap,h1,h2,h3,h4,h5⟩
 ·exact .inl h
 ·exact .inr ⟨g,off,cap,h1,h2,h3,Nat.le_trans k h4,h5⟩
theorem OwnS.nonnil {w:World} {n:Nat} {v:Value} {L:List Tr} (h:OwnS w n v L) (h0:0<L.length):∃ g off cap,v=.slice (some ⟨g,off,none⟩) L.length cap∧L.length≤cap∧cap≤maxLen∧RowS w n g off L:=by
 rcases h with ⟨-,rfl⟩ | h
 ·simp at h0
 ·exact h
theorem OwnS.alloc {w:World} {n:Nat} {v:Value} {L:List Tr} (h:OwnS w n v L) (o:Obj):OwnS (w.alloc o) n v L:=h.below ((Below.refl _ _).alloc (Nat.le_refl _) _)
theorem Dr.alloc {w:World} {b:Nat} {s:ByteArray} {v:Value} (h:Dr w b s v) (o:Obj):Dr (w.alloc o) b s v:=h.below ((Below.refl _ _).alloc (Nat.le_refl _) _)
end Go.Proofs.YtclhaejdjogfbaaGreatDoor
namespace Go.Proofs.YtclhaejdjogfbaaGreatDoor
open Go.RowKit
def wL (v:Int) (L:List Tr) (j:Nat):List Tr:=(L.take j).map (wrapT v)++L.drop j
theorem wL_end (v:Int) (L:List Tr):wL v L L.length=L.map (wrapT v):=by unfold wL;rw [List.take_length,List.drop_length,List.append_nil]
theorem wL_len (v:Int) (L:List Tr) (j:Nat):(wL v L j).length=L.length:=by
 unfold wL
 rw [List.length_append,List.length_map,← List.length_append,List.take_append_drop]
theorem wL_at (v:Int) (L:List Tr) (j:Nat) (h:j<L.length) (h':j<(wL v L j).length):(wL v L j)[j]=L[j]:=by
 have e:(wL v L j)[j]?=some L[j]:=by
  unfold wL
  rw [List.getElem?_append_right (by rw [List.length_map,List.length_take];omega),List.getElem?_drop,List.length_map,List.length_take,show j+(j - min j L.length)=j by omega]
  exact List.getElem?_eq_getElem h
 rw [List.getElem?_eq_getElem h'] at e
 exact Option.some.inj e
theorem wL_set (v:Int) (L:List Tr) (j:Nat) (h:j<L.length):(wL v L j).set j (wrapT v L[j])=wL v L (j+1):=by
 unfold wL
 rw [List.take_succ_eq_append_getElem h,List.map_append,List.append_assoc,List.set_append_right _ _ (by rw [List.length_map,List.length_take];omega)]
 congr 1
 rw [List.drop_eq_getElem_cons h,List.length_map,List.length_take,show j - min j L.length=0 by omega]
 rfl
theorem wL_no (v:Int) (L:List Tr) (j:Nat) (h:j<L.length) (e:wrapT v L[j]=L[j]):wL v L j=wL v L (j+1):=by
 have h':j<(wL v L j).length:=by rw [wL_len];exact h
 rw [← wL_set v L j h,e,← wL_at v L j h h',List.set_getElem_self]
theorem wL_yes (v:Int) (L:List Tr) (j:Nat) (h:j<L.length) (hc:L[j].1=6∧-(v / 2)≤L[j].2.2∧L[j].2.2<0):(cellsT (wL v L j)).set (j*3+2) (.int .i64 (L[j].2.2+v))=cellsT (wL v L (j+1)):=by
 have h':j<(wL v L j).length:=by rw [wL_len];exact h
 have e:wrapT v L[j]=(L[j].1,L[j].2.1,L[j].2.2+v):=by unfold wrapT;rw [if_pos hc]
 rw [← wL_set v L j h,e]
 exact (cells_set _ _ _ _ _ h' (by rw [wL_at v L j h h']) (by rw [wL_at v L j h h'])).symm
theorem wL_not (v:Int) (L:List Tr) (j:Nat) (h:j<L.length) (hc:¬(L[j].1=6∧-(v / 2)≤L[j].2.2∧L[j].2.2<0)):wL v L j=wL v L (j+1):=
 wL_no v L j h (by unfold wrapT;rw [if_neg hc])
theorem widL_cases (c:Nat) (L:List Tr):widL c L=0∨widL c L=1∨widL c L=2:=by
 unfold widL
 split
 ·exact .inl rfl
 ·split
  ·exact .inr (.inr rfl)
  ·split
   ·exact .inr (.inr rfl)
   ·exact .inr (.inl rfl)
theorem wrap_any (s:ByteArray) (B bd:Nat) (hB:B≤bd) (v:Value) (L:List Tr) (hL:L.length≤1000) (w:World) (hD:Dr w bd s v) (hO:OwnS w B v L) :
  Calls Tryz.prog 90 #[.pointer (some ⟨bd,0,none⟩)] w fun e w'=>e=.returned (.tuple #[])∧Dr w' bd s v∧OwnS w' B v (L.map (wrapT (valW (widL (opc s) L))))∧Below B w w':=by
 obtain ⟨A,cap,rfl,hP,hlc,hcm⟩:=hO.ops
 have WD:=J9 (width_any s A cap L hL w hP)
 obtain ⟨d0,d1,-,-⟩:=hD.cells
 have D0:=J9 hD
 have O0:=J9 hO
 have YES:=fun v=>J9 (wL_yes v L)
 have NOT:=fun v=>J9 (wL_not v L)
 have WE:=fun v=>J9 (wL_end v L)
 have AT:=fun v=>J9 (wL_at v L)
 have hwl:=fun v j=>wL_len v L j
 obtain ⟨n,hn⟩:=N9 (L.length)
 have HN:=J9 hn
 rw [hn] at D0 O0 WD d1 WE hwl hlc hL ⊢
 have SB:Hid (bd<w.heap.size):=hD.lt
 clear hD hO hP hn
 obtain ⟨x,hx⟩:=N9 (widL (opc s) L)
 have hcs:=widL_cases (opc s) L
 rw [hx] at WD hcs ⊢
 clear hx
 rcases hcs with rfl | rfl | rfl
 ·have hvw:valW 0=0:=rfl
  rw [hvw]
  clear hvw
  go_enter Tryz.func90,Tryz.ntmps90
  go_wp2_with fail
  refine WD.out.mono ?_
  rintro e w1 ⟨rfl,h1⟩
  have B1:Hid (Below B w w1):=h1.mono (Nat.le_trans hB (Nat.le_of_lt SB.out))
  have D1:=J9 (D0.out.below h1)
  have O1:=J9 (O0.out.below h1)
  clear h1 D0 O0 d0 d1 WD
  obtain ⟨d0,d1,-,-⟩:=D1.out.cells
  go_wp2
  clear d0 d1
  go_loopw [20] (fun i wr=>∃ j:Nat,j≤n∧i=.int .i64 j∧Hid (Dr wr bd s (.slice A n cap))∧Hid (OwnS wr B (.slice A n cap) (wL 0 L j))∧Hid (Below B w wr)) (fun i _=>n - (intOf i).toNat)
  case atStart=>exact ⟨0,Nat.zero_le _,rfl,D1.out,O1.out,B1.out⟩
  case round=>
   clear D1 O1 B1
   obtain ⟨j,hj,rfl,D1,O1,B1⟩:=hrel
   by_cases hlt:j<n
   ·have hj1:j<L.length:=by have:=HN.out;omega
    have hj2:j<(wL 0 L j).length:=by rw [hwl];exact hlt
    obtain ⟨g,off,cap',hA,-,-,hR⟩:=O1.out.nonnil (by omega)
    simp only [Value.slice.injEq] at hA
    obtain ⟨rfl,-,-⟩:=hA
    obtain ⟨p0,p1,p2⟩:=hR.at_ j hj2
    rw [(AT 0).out j hj1 hj2] at p0 p1 p2
    have hgb:=hR.apart D1.out
    have hgl:=hR.lt
    have fz:=hR.frozen (off+j*3+2)
    have Y:=J9 ((YES 0).out j hj1)
    have N:=J9 ((NOT 0).out j hj1)
    obtain ⟨⟨y0,y1,y2⟩,hy⟩:=N9 (L[j])
    rw [hy] at p0 p1 p2 Y N
    simp only at p0 p1 p2 Y N
    obtain ⟨d0,d1,-,-⟩:=D1.out.cells
    have D2:=fun o=>J9 (D1.out.alloc o)
    have B2:=fun o=>J9 (B1.out.alloc (Nat.le_trans (Nat.le_trans hB (Nat.le_of_lt SB.out)) B1.out.size) o)
    have hgB:Hid (B≤g):=hR.1
    have hBr:Hid (B≤wr.heap.size):=Nat.le_trans (Nat.le_trans hB (Nat.le_of_lt SB.out)) B1.out.size
    have hR:=J9 hR
    have hne1:g≠wr.heap.size:=by omega
    have hne2:bd≠wr.heap.size:=by have:=D1.out.lt;omega
    have O2:∀ o,Hid (OwnS (wr.alloc o) B (.slice (some ⟨g,off,none⟩) n cap) (wL 0 L j)):=fun o=>O1.out.alloc o
    clear hj1 hj2 hy O1
    by_cases k6:y0=6
    ·by_cases a1:0≤y2
     ·have hx:=N.out fun q=>absurd q.2.2 (by omega)
      rw [hx] at O2
      subst k6
      clear hx Y N D1 B1 hR
      go_wp2
      go_roundw
      case rel=>exact ⟨j+1,by omega,by go_num,(D2 _).out,(O2 _).out,(B2 _).out⟩
      case measure=>simp [intOf];omega
     ·have hx:=N.out fun q=>absurd q.2.1 (by omega)
      rw [hx] at O2
      subst k6
      clear hx Y N D1 B1 hR
      go_wp2
      go_roundw
      case rel=>exact ⟨j+1,by omega,by go_num,(D2 _).out,(O2 _).out,(B2 _).out⟩
      case measure=>simp [intOf];omega
    ·have hx:=N.out fun q=>k6 q.1
     rw [hx] at O2
     clear hx Y N D1 B1 hR
     go_wp2
     go_roundw
     case rel=>exact ⟨j+1,by omega,by go_num,(D2 _).out,(O2 _).out,(B2 _).out⟩
     case measure=>simp [intOf];omega
   ·have hjn:j=n:=by omega
    subst hjn
    rw [(WE 0).out] at O1
    go_wp2
    refine bodyPost_end (v:=.tuple #[]) ?_ rfl ⟨rfl,D1.out,O1.out,B1.out⟩
    simp [results,Tryz.results90,go_sem]
 ·have hvw:valW 1=256:=rfl
  rw [hvw]
  clear hvw
  go_enter Tryz.func90,Tryz.ntmps90
  go_wp2_with fail
  refine WD.out.mono ?_
  rintro e w1 ⟨rfl,h1⟩
  have B1:Hid (Below B w w1):=h1.mono (Nat.le_trans hB (Nat.le_of_lt SB.out))
  have D1:=J9 (D0.out.below h1)
  have O1:=J9 (O0.out.below h1)
  clear h1 D0 O0 d0 d1 WD
  obtain ⟨d0,d1,-,-⟩:=D1.out.cells
  go_wp2
  clear d0 d1
  go_loopw [20] (fun i wr=>∃ j:Nat,j≤n∧i=.int .i64 j∧Hid (Dr wr bd s (.slice A n cap))∧Hid (OwnS wr B (.slice A n cap) (wL 256 L j))∧Hid (Below B w wr)) (fun i _=>n - (intOf i).toNat)
  case atStart=>exact ⟨0,Nat.zero_le _,rfl,D1.out,O1.out,B1.out⟩
  case round=>
   clear D1 O1 B1
   obtain ⟨j,hj,rfl,D1,O1,B1⟩:=hrel
   by_cases hlt:j<n
   ·have hj1:j<L.length:=by have:=HN.out;omega
    have hj2:j<(wL 256 L j).length:=by rw [hwl];exact hlt
    obtain ⟨g,off,cap',hA,-,-,hR⟩:=O1.out.nonnil (by omega)
    simp only [Value.slice.injEq] at hA
    obtain ⟨rfl,-,-⟩:=hA
    obtain ⟨p0,p1,p2⟩:=hR.at_ j hj2
    rw [(AT 256).out j hj1 hj2] at p0 p1 p2
    have hgb:=hR.apart D1.out
    have hgl:=hR.lt
    have fz:=hR.frozen (off+j*3+2)
    have Y:=J9 ((YES 256).out j hj1)
    have N:=J9 ((NOT 256).out j hj1)
    obtain ⟨⟨y0,y1,y2⟩,hy⟩:=N9 (L[j])
    rw [hy] at p0 p1 p2 Y N
    simp only at p0 p1 p2 Y N
    obtain ⟨d0,d1,-,-⟩:=D1.out.cells
    have D2:=fun o=>J9 (D1.out.alloc o)
    have B2:=fun o=>J9 (B1.out.alloc (Nat.le_trans (Nat.le_trans hB (Nat.le_of_lt SB.out)) B1.out.size) o)
    have hgB:Hid (B≤g):=hR.1
    have hBr:Hid (B≤wr.heap.size):=Nat.le_trans (Nat.le_trans hB (Nat.le_of_lt SB.out)) B1.out.size
    have hR:=J9 hR
    have hne1:g≠wr.heap.size:=by omega
    have hne2:bd≠wr.heap.size:=by have:=D1.out.lt;omega
    have O2:∀ o,Hid (OwnS (wr.alloc o) B (.slice (some ⟨g,off,none⟩) n cap) (wL 256 L j)):=fun o=>O1.out.alloc o
    clear hj1 hj2 hy O1
    by_cases k6:y0=6
    ·by_cases a1 : -128≤y2
     ·by_cases a2:y2<0
      ·have hx:=Y.out ⟨k6,by omega,a2⟩
       have R3:∀ o,Hid (OwnS ((wr.setCell ⟨g,off+j*3+2,none⟩ (.int .i64 (y2+256))).alloc o) B (.slice (some ⟨g,off,none⟩) n cap) (wL 256 L (j+1))):=fun o=>by
        have h3:=hR.out.put (j*3+2) _ hx
        rw [← Nat.add_assoc] at h3
        exact OwnS.alloc (.inr ⟨g,off,cap,by rw [hwl],by rw [hwl];exact hlc,hcm,h3⟩) o
       have D3:∀ o,Hid (Dr ((wr.setCell ⟨g,off+j*3+2,none⟩ (.int .i64 (y2+256))).alloc o) bd s (.slice (some ⟨g,off,none⟩) n cap)):=fun o=>(D1.out.other hgb _ _).alloc o
       have B3:∀ o,Hid (Below B w ((wr.setCell ⟨g,off+j*3+2,none⟩ (.int .i64 (y2+256))).alloc o)):=fun o=>(B1.out.setCell (p:=⟨g,off+j*3+2,none⟩) hgB.out _).alloc (by simp;exact hBr.out) o
       subst k6
       have e1:=(D2 (.cells #[.int .i64 6,.int .i64 y1,.int .i64 y2] 56)).out.cells.2.1
       have e2:(wr.alloc (.cells #[.int .i64 6,.int .i64 y1,.int .i64 y2] 56)).cell? ⟨g,off+j*3+2,none⟩=some (.int .i64 y2):=(World.cell?_alloc_lt wr _ _ hgl).trans p2
       clear hx Y N O2 D2 B2 D1 B1 hR
       go_wp2
       go_roundw
       case rel=>exact ⟨j+1,by omega,by go_num,(D3 _).out,(R3 _).out,(B3 _).out⟩
       case measure=>simp [intOf];omega
      ·have hx:=N.out fun q=>absurd q.2.2 (by omega)
       rw [hx] at O2
       subst k6
       clear hx Y N D1 B1 hR
       go_wp2
       go_roundw
       case rel=>exact ⟨j+1,by omega,by go_num,(D2 _).out,(O2 _).out,(B2 _).out⟩
       case measure=>simp [intOf];omega
     ·have hx:=N.out fun q=>absurd q.2.1 (by omega)
      rw [hx] at O2
      subst k6
      clear hx Y N D1 B1 hR
      go_wp2
      go_roundw
      case rel=>exact ⟨j+1,by omega,by go_num,(D2 _).out,(O2 _).out,(B2 _).out⟩
      case measure=>simp [intOf];omega
    ·have hx:=N.out fun q=>k6 q.1
     rw [hx] at O2
     clear hx Y N D1 B1 hR
     go_wp2
     go_roundw
     case rel=>exact ⟨j+1,by omega,by go_num,(D2 _).out,(O2 _).out,(B2 _).out⟩
     case measure=>simp [intOf];omega
   ·have hjn:j=n:=by omega
    subst hjn
    rw [(WE 256).out] at O1
    go_wp2
    refine bodyPost_end (v:=.tuple #[]) ?_ rfl ⟨rfl,D1.out,O1.out,B1.out⟩
    simp [results,Tryz.results90,go_sem]
 ·have hvw:valW 2=65536:=rfl
  rw [hvw]
  clear hvw
  go_enter Tryz.func90,Tryz.ntmps90
  go_wp2_with fail
  refine WD.out.mono ?_
  rintro e w1 ⟨rfl,h1⟩
  have B1:Hid (Below B w w1):=h1.mono (Nat.le_trans hB (Nat.le_of_lt SB.out))
  have D1:=J9 (D0.out.below h1)
  have O1:=J9 (O0.out.below h1)
  clear h1 D0 O0 d0 d1 WD
  obtain ⟨d0,d1,-,-⟩:=D1.out.cells
  go_wp2
  clear d0 d1
  go_loopw [20] (fun i wr=>∃ j:Nat,j≤n∧i=.int .i64 j∧Hid (Dr wr bd s (.slice A n cap))∧Hid (OwnS wr B (.slice A n cap) (wL 65536 L j))∧Hid (Below B w wr)) (fun i _=>n - (intOf i).toNat)
  case atStart=>exact ⟨0,Nat.zero_le _,rfl,D1.out,O1.out,B1.out⟩
  case round=>
   clear D1 O1 B1
   obtain ⟨j,hj,rfl,D1,O1,B1⟩:=hrel
   by_cases hlt:j<n
   ·have hj1:j<L.length:=by have:=HN.out;omega
    have hj2:j<(wL 65536 L j).length:=by rw [hwl];exact hlt
    obtain ⟨g,off,cap',hA,-,-,hR⟩:=O1.out.nonnil (by omega)
    simp only [Value.slice.injEq] at hA
    obtain ⟨rfl,-,-⟩:=hA
    obtain ⟨p0,p1,p2⟩:=hR.at_ j hj2
    rw [(AT 65536).out j hj1 hj2] at p0 p1 p2
    have hgb:=hR.apart D1.out
    have hgl:=hR.lt
    have fz:=hR.frozen (off+j*3+2)
    have Y:=J9 ((YES 65536).out j hj1)
    have N:=J9 ((NOT 65536).out j hj1)
    obtain ⟨⟨y0,y1,y2⟩,hy⟩:=N9 (L[j])
    rw [hy] at p0 p1 p2 Y N
    simp only at p0 p1 p2 Y N
    obtain ⟨d0,d1,-,-⟩:=D1.out.cells
    have D2:=fun o=>J9 (D1.out.alloc o)
    have B2:=fun o=>J9 (B1.out.alloc (Nat.le_trans (Nat.le_trans hB (Nat.le_of_lt SB.out)) B1.out.size) o)
    have hgB:Hid (B≤g):=hR.1
    have hBr:Hid (B≤wr.heap.size):=Nat.le_trans (Nat.le_trans hB (Nat.le_of_lt SB.out)) B1.out.size
    have hR:=J9 hR
    have hne1:g≠wr.heap.size:=by omega
    have hne2:bd≠wr.heap.size:=by have:=D1.out.lt;omega
    have O2:∀ o,Hid (OwnS (wr.alloc o) B (.slice (some ⟨g,off,none⟩) n cap) (wL 65536 L j)):=fun o=>O1.out.alloc o
    clear hj1 hj2 hy O1
    by_cases k6:y0=6
    ·by_cases a1 : -32768≤y2
     ·by_cases a2:y2<0
      ·have hx:=Y.out ⟨k6,by omega,a2⟩
       have R3:∀ o,Hid (OwnS ((wr.setCell ⟨g,off+j*3+2,none⟩ (.int .i64 (y2+65536))).alloc o) B (.slice (some ⟨g,off,none⟩) n cap) (wL 65536 L (j+1))):=fun o=>by
        have h3:=hR.out.put (j*3+2) _ hx
        rw [← Nat.add_assoc] at h3
        exact OwnS.alloc (.inr ⟨g,off,cap,by rw [hwl],by rw [hwl];exact hlc,hcm,h3⟩) o
       have D3:∀ o,Hid (Dr ((wr.setCell ⟨g,off+j*3+2,none⟩ (.int .i64 (y2+65536))).alloc o) bd s (.slice (some ⟨g,off,none⟩) n cap)):=fun o=>(D1.out.other hgb _ _).alloc o
       have B3:∀ o,Hid (Below B w ((wr.setCell ⟨g,off+j*3+2,none⟩ (.int .i64 (y2+65536))).alloc o)):=fun o=>(B1.out.setCell (p:=⟨g,off+j*3+2,none⟩) hgB.out _).alloc (by simp;exact hBr.out) o
       subst k6
       have e1:=(D2 (.cells #[.int .i64 6,.int .i64 y1,.int .i64 y2] 56)).out.cells.2.1
       have e2:(wr.alloc (.cells #[.int .i64 6,.int .i64 y1,.int .i64 y2] 56)).cell? ⟨g,off+j*3+2,none⟩=some (.int .i64 y2):=(World.cell?_alloc_lt wr _ _ hgl).trans p2
       clear hx Y N O2 D2 B2 D1 B1 hR
       go_wp2
       go_roundw
       case rel=>exact ⟨j+1,by omega,by go_num,(D3 _).out,(R3 _).out,(B3 _).out⟩
       case measure=>simp [intOf];omega
      ·have hx:=N.out fun q=>absurd q.2.2 (by omega)
       rw [hx] at O2
       subst k6
       clear hx Y N D1 B1 hR
       go_wp2
       go_roundw
       case rel=>exact ⟨j+1,by omega,by go_num,(D2 _).out,(O2 _).out,(B2 _).out⟩
       case measure=>simp [intOf];omega
     ·have hx:=N.out fun q=>absurd q.2.1 (by omega)
      rw [hx] at O2
      subst k6
      clear hx Y N D1 B1 hR
      go_wp2
      go_roundw
      case rel=>exact ⟨j+1,by omega,by go_num,(D2 _).out,(O2 _).out,(B2 _).out⟩
      case measure=>simp [intOf];omega
    ·have hx:=N.out fun q=>k6 q.1
     rw [hx] at O2
     clear hx Y N D1 B1 hR
     go_wp2
     go_roundw
     case rel=>exact ⟨j+1,by omega,by go_num,(D2 _).out,(O2 _).out,(B2 _).out⟩
     case measure=>simp [intOf];omega
   ·have hjn:j=n:=by omega
    subst hjn
    rw [(WE 65536).out] at O1
    go_wp2
    refine bodyPost_end (v:=.tuple #[]) ?_ rfl ⟨rfl,D1.out,O1.out,B1.out⟩
    simp [results,Tryz.results90,go_sem]
end Go.Proofs.YtclhaejdjogfbaaGreatDoor
namespace Go.Proofs.YtclhaejdjogfbaaGreatDoor
open Go.RowKit
theorem acc_any (w:World):Calls Tryz.prog 117 #[] w fun e w'=>e=.returned (.agg #[.int .i64 1,.int .i64 7,.int .i64 0])∧Below w.heap.size w w':=by
 have B0:∀ o,Hid (Below w.heap.size w (w.alloc o)):=fun o=>(Below.refl _ _).alloc (Nat.le_refl _) _
 go_enter Tryz.func117,Tryz.ntmps117
 go_wp2
 refine bodyPost_ret (v:=.agg #[.int .i64 1,.int .i64 7,.int .i64 0]) ?_ rfl ⟨rfl,(B0 _).out⟩
 simp [results,Tryz.results117,go_sem]
theorem canpair_any (r:Int) (w:World):Calls Tryz.prog 119 #[.int .i64 r] w fun e w'=>e=.returned (.agg #[.int .i64 3,.int .i64 r,.int .i64 0])∧Below w.heap.size w w':=by
 have B0:∀ o,Hid (Below w.heap.size w (w.alloc o)):=fun o=>(Below.refl _ _).alloc (Nat.le_refl _) _
 go_enter Tryz.func119,Tryz.ntmps119
 go_wp2
 refine bodyPost_ret (v:=.agg #[.int .i64 3,.int .i64 r,.int .i64 0]) ?_ rfl ⟨rfl,(B0 _).out⟩
 simp [results,Tryz.results119,go_sem]
end Go.Proofs.YtclhaejdjogfbaaGreatDoor
