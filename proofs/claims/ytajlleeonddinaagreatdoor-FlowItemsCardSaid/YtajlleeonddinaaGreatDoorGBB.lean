/-
  DgH, DgI, DfE, DgJ, FmC, FmE, FmF.
-/
import Derived.Test.YtajlleeonddinaaGreatDoorGBA
import Derived.Defers
import Derived.Recover
import Derived.Test.YtajlleeonddinaaGreatDoorGAZ
import Derived.Test.YtajlleeonddinaaGreatDoorGAY
import Derived.Test.YtajlleeonddinaaGreatDoorGAE
import Derived.Deep.QuietTactic
import Derived.BigQuiet
import Derived.Test.YtajlleeonddinaaGreatDoorGAV
import Derived.Test.YtajlleeonddinaaGreatDoorGAX
set_option linter.all false
set_option maxRecDepth 100000
set_option maxHeartbeats 4000000
namespace Go.Proofs.YtajlleeonddinaaGreatDoor
open Go.RowKit Go.Shelf
attribute [local go_sem] Oper.semAt_some
def PtD (w:World) (x D:Nat):Prop:=w.heap[x]?=some (.cells #[.pointer (some ⟨D,0,none⟩)] 153 (0,0))
theorem ItAt.put1 {w:World} {b:Nat} {kind:Int} {va vb:Value} {s:ByteArray} {al:Bool} (h:ItAt w b kind va s vb al) (va':Value) :
  ∃ w',w.setCell ⟨b,1,none⟩ va'=w'∧ItAt w' b kind va' s vb al∧Below b w w'∧∀ k,k≠b→w'.heap[k]?=w.heap[k]?:=
 ⟨_,rfl,heap_setCell_same w b 1 _ _ _ h,(Below.refl b w).setCell (p:=⟨b,1,none⟩) (Nat.le_refl _) _,fun k hk=>heap_setCell_other _ ⟨b,1,none⟩ k _ hk⟩
theorem PtD.ne {w:World} {x D I:Nat} (h:PtD w x D) {kind:Int} {va vb:Value} {s:ByteArray} {al:Bool} (hI:ItAt w I kind va s vb al):x≠I:=fun e=>by
 subst e
 unfold PtD at h
 rw [show w.heap[x]?=_ from hI] at h
 simp at h
theorem PtD.cells {w:World} {x D:Nat} (h:PtD w x D):w.cell? ⟨x,0,none⟩=some (.pointer (some ⟨D,0,none⟩))∧w.frozen? ⟨x,0,none⟩=false:=⟨Lib.cell_of_heap h 0,Lib.frozen_of_heap h 0⟩
theorem raw_put {w0 w w3:World} {D:Nat} {S:Value} {b:Str} {k I:Nat} {p nd d n:Int} (X:Dec w0 D S w k p nd d n) (hDI:D<I) {kind:Int} {va vb:Value} {s:ByteArray} {al:Bool} (HI:ItAt w I kind va s vb al) {A':Option Addr} {c':Nat} (O:TOwnB w3 w.heap.size (.slice A' k c') (b.take k)) (hb:Below w.heap.size w w3) :
  ∃ w4,w3.setCell ⟨I,1,none⟩ (.slice A' k c')=w4∧ItAt w4 I kind (.slice A' k c') s vb al∧TOwnB w4 D (.slice A' k c') (b.take k)∧Dec w0 D S w4 k p nd d n∧∀ B u L,OwnT w B u L→OwnT w4 B u L:=by
 have I3:=HI.all hb
 have X3:=X.all hb
 obtain ⟨w4,hw4,i1,i2,i6⟩:=I3.put1 (.slice A' k c')
 exact ⟨w4,hw4,i1,(it_ownB I3 O i6).lift (Nat.le_of_lt X.lt),⟨(i2.block D hDI).trans X3.blk,X3.bel.trans (i2.mono (by omega))⟩,fun B u L h=>it_ownT I3 (h.below hb) i6⟩
theorem catch_miss {w0:World} {D:Nat} {b:Str} {A:Option Addr} {l cap:Nat} (H:DH w0 D b A l cap) {w:World} {k:Nat} (hk:k≤l) {p nd d n:Int} (X:Dec w0 D (.slice A l cap) w k p nd d n) {I x:Nat} (hDI:D<I) (hDx:D<x) (HX:PtD w x D) {kind:Int} {va vb:Value} {s:ByteArray} {al:Bool} (HI:ItAt w I kind va s vb al) :
  CallsD Tryz.prog 123 #[.pointer (some ⟨I,0,none⟩),.pointer (some ⟨x,0,none⟩)] (.panicking missE) w fun e u' w'=>
   e=.returned (.tuple #[])∧u'=.panicking [{v:=.iface 185 (.agg #[]),recovered:=true}]∧∃ A' c',ItAt w' I 4 (.slice A' k c') ⟨#[]⟩ (.slice none 0 0) false∧TOwnB w' D (.slice A' k c') (b.take k)∧Dec w0 D (.slice A l cap) w' k p nd d n:=by
 refine callsD_of_wpS Tryz.func123 rfl fun c₀ cs hu=>?_
 unfold missE at hu
 simp only [Tryz.ntmps123,List.size_toArray,List.length_cons,List.length_nil,Nat.reduceAdd,Nat.reduceSub,Array.replicate_succ,Array.replicate_zero,List.push_toArray,List.append_toArray,List.nil_append,List.cons_append]
 have hta:∀ w,(Instr.typeAssert (.iface 185 (.agg #[])) 20 185 true).run Tryz.prog w=.ok (.tuple #[.agg #[],.bool true]) w:=fun w=>by kernel_rfl
 obtain ⟨S,hS⟩:∃ z,Value.slice A l cap=z:=⟨_,rfl⟩
 have TK:=Lib.hid (fun w X=>taken_any H (w:=w) (k:=k) hk (p:=p) (nd:=nd) (d:=d) (n:=n) X)
 rw [hS] at X TK ⊢
 obtain ⟨w1,hw1⟩:∃ z,w.alloc (.cells #[] 185)=z:=⟨_,rfl⟩
 have hal:Below w.heap.size w w1:=by rw [← hw1];exact up_alloc _ _
 have X1:=X.all hal
 have I1:=HI.all hal
 have P1:PtD w1 x D:=(hal.block x (Array.getElem?_eq_some_iff.1 HX).1).trans HX
 obtain ⟨w2,hw2,i1,i2,-,-,-,i6⟩:=I1.put 4 (.slice none 0 0) ⟨#[]⟩ (.slice none 0 0) false
 have X2:Hid (Dec w0 D S w2 k p nd d n):=⟨(i2.block D hDI).trans X1.blk,X1.bel.trans (i2.mono (by omega))⟩
 have P2:PtD w2 x D:=(i6 x (P1.ne I1)).trans P1
 obtain ⟨k0,k1,k2,k3,k4,k5⟩:=I1.cells
 obtain ⟨p0,-⟩:=P2.cells
 have I2:=Lib.hid i1
 clear hS H X HX HI hal X1 I1 P1 P2 i1 i2 i6
 apply wpS_seq
 apply wpS_seq
 apply wpS_region
 simp [wpOpsS,go_sem,recoverD,hu,Exit.thenS]
 refine wpS_of_wp ?_
 go_upto_region 7 with fail
 clear hw1
 go_wp2
 refine wpS_of_wp ?_
 go_wp2_with fail
 refine (TK.out w2 X2.out).mono ?_
 rintro e w3 ⟨A',c',rfl,hO,hb⟩
 obtain ⟨w4,hw4,F1,F2,F3,-⟩:=raw_put X2.out hDI I2.out hO hb
 have F:Hid (ItAt w4 I 4 (.slice A' k c') ⟨#[]⟩ (.slice none 0 0) false∧TOwnB w4 D (.slice A' k c') (b.take k)∧Dec w0 D S w4 k p nd d n):=⟨F1,F2,F3⟩
 obtain ⟨g0,g1,g2,g3,g4,g5⟩:=(show ItAt w3 I _ _ _ _ _ from I2.out.all hb).cells
 clear TK hO hb F1 F2 F3 X2 I2 k0 k1 k2 k3 k4 k5 p0
 go_wp2
 exact ⟨rfl,_,rfl,.tuple #[],by simp [results,Tryz.results123],rfl,rfl,A',c',F.out⟩
theorem catch_idle {w0:World} {D:Nat} {b:Str} {A:Option Addr} {l cap:Nat} (H:DH w0 D b A l cap) {w:World} {k:Nat} (hk:k≤l) {p nd d n:Int} (X:Dec w0 D (.slice A l cap) w k p nd d n) {I x:Nat} (hDI:D<I) (hDx:D<x) (HX:PtD w x D) {kind:Int} {va vb:Value} {s:ByteArray} {al:Bool} (HI:ItAt w I kind va s vb al) :
  CallsD Tryz.prog 123 #[.pointer (some ⟨I,0,none⟩),.pointer (some ⟨x,0,none⟩)] .returning w fun e u' w'=>
   e=.returned (.tuple #[])∧u'=.returning∧∃ A' c',ItAt w' I kind (.slice A' k c') s vb al∧TOwnB w' D (.slice A' k c') (b.take k)∧Dec w0 D (.slice A l cap) w' k p nd d n∧∀ B u L,OwnT w B u L→OwnT w' B u L:=by
 refine callsD_of_wpS Tryz.func123 rfl fun c₀ cs hu=>?_
 simp only [Tryz.ntmps123,List.size_toArray,List.length_cons,List.length_nil,Nat.reduceAdd,Nat.reduceSub,Array.replicate_succ,Array.replicate_zero,List.push_toArray,List.append_toArray,List.nil_append,List.cons_append]
 obtain ⟨S,hS⟩:∃ z,Value.slice A l cap=z:=⟨_,rfl⟩
 have TK:=Lib.hid (taken_any H hk X)
 rw [hS] at X ⊢
 obtain ⟨p0,-⟩:=HX.cells
 have X2:=Lib.hid X
 have I2:=Lib.hid HI
 clear hS H X HX HI
 apply wpS_seq
 apply wpS_seq
 apply wpS_region
 simp [wpOpsS,go_sem,recoverD,hu,Exit.thenS]
 refine wpS_of_wp ?_
 go_wp2
 refine wpS_of_wp ?_
 go_wp2_with fail
 refine TK.out.mono ?_
 rintro e w3 ⟨A',c',rfl,hO,hb⟩
 obtain ⟨w4,hw4,F1,F2,F3,F4⟩:=raw_put X2.out hDI I2.out hO hb
 have F:Hid (ItAt w4 I kind (.slice A' k c') s vb al∧TOwnB w4 D (.slice A' k c') (b.take k)∧Dec w0 D S w4 k p nd d n∧∀ B u L,OwnT w B u L→OwnT w4 B u L):=⟨F1,F2,F3,F4⟩
 obtain ⟨g0,g1,g2,g3,g4,g5⟩:=(show ItAt w3 I _ _ _ _ _ from I2.out.all hb).cells
 clear TK hO hb F1 F2 F3 F4 X2 I2 p0
 go_wp2
 exact ⟨rfl,.returning,by cases c₀;simp_all,.tuple #[],by simp [results,Tryz.results123],rfl,rfl,A',c',F.out⟩
def RetDIt (w0:World) (D:Nat) (S:Value) (b:Str) (e:Ending) (w':World):Prop:=
 (∃ A' c' B c2,e=.returned (.agg #[.int .i64 (itR b).kind,.slice A' (itR b).raw.length c',.string (sB (itR b).m),.slice B (itR b).C.length c2,.bool (itR b).al])∧TOwnB w' D (.slice A' (itR b).raw.length c') (itR b).raw∧OwnT w' D (.slice B (itR b).C.length c2) (itR b).C)∧
 ∃ k p nd d n,Dec w0 D S w' k p nd d n∧((itR b).kind=4→nd=(needR b:Nat))
theorem ditem_any {w0:World} {D:Nat} {b:Str} {A:Option Addr} {l cap:Nat} (H:DH w0 D b A l cap) (hM:MaxAt w0) {w:World} {nd:Int} (X:Dec w0 D (.slice A l cap) w 0 0 nd 0 0) :
  Calls Tryz.prog 97 #[.pointer (some ⟨D,0,none⟩)] w (RetDIt w0 D (.slice A l cap) b):=by
 have hmf:∀ (fn:Fn) (first cap:Array Value) (w:World),(Instr.makeFunc fn first cap).run Tryz.prog w=.ok (.func fn first cap) w:=fun _ _ _ _=>rfl
 have hl:=H.hl
 obtain ⟨S,hS⟩:∃ z,Value.slice A l cap=z:=⟨_,rfl⟩
 have WH:=Lib.hid (fun w X=>whole_any H hM (w:=w) (nd:=nd) X)
 have CM:=Lib.hid (fun w k hk (p nd d n:Int) X I x h1 h2 h3 (kind:Int) (va vb:Value) (s:ByteArray) (al:Bool) h4=>catch_miss H (w:=w) (k:=k) hk (p:=p) (nd:=nd) (d:=d) (n:=n) X (I:=I) (x:=x) h1 h2 h3 (kind:=kind) (va:=va) (vb:=vb) (s:=s) (al:=al) h4)
 have CI:=Lib.hid (fun w k hk (p nd d n:Int) X I x h1 h2 h3 (kind:Int) (va vb:Value) (s:ByteArray) (al:Bool) h4=>catch_idle H (w:=w) (k:=k) hk (p:=p) (nd:=nd) (d:=d) (n:=n) X (I:=I) (x:=x) h1 h2 h3 (kind:=kind) (va:=va) (vb:=vb) (s:=s) (al:=al) h4)
 rw [hS] at X WH CM CI ⊢
 have HL:=Lib.hid hl
 obtain ⟨x,hx⟩:∃ z,w.heap.size=z:=⟨_,rfl⟩
 obtain ⟨w1,hw1⟩:∃ z,w.alloc (.cells #[.pointer (some ⟨D,0,none⟩)] 153)=z:=⟨_,rfl⟩
 have y1:Below w.heap.size w w1:=by rw [← hw1];exact up_alloc _ _
 have P1:PtD w1 x D:=by rw [← hw1,← hx];exact World.alloc_heap_new w _
 have z1:w1.heap.size=x+1:=by rw [← hw1,← hx];simp
 obtain ⟨w2,hw2,I2,y2,z2⟩:=it_start w1 (x+1) z1
 have hDx:D<x:=by rw [← hx];exact X.lt
 have X2:=(X.all y1).all y2
 have P2:PtD w2 x D:=(y2.block x (by omega)).trans P1
 have C1:=WH.out w2 X2
 obtain ⟨p0,-⟩:=P2.cells
 have P2:=Lib.hid P2
 have I2:=Lib.hid I2
 clear H hM X WH hS hl y1 y2 P1 X2
 go_enter_defers Tryz.func97,Tryz.ntmps97
 go_wp2_with fail
 refine C1.mono ?_
 rintro e w3 (⟨h1,⟨B,c2,rfl,hO⟩,⟨k,p,nd',d,n,hk,hraw,X3⟩,K⟩ | ⟨hi,p,rfl,⟨d,n,X3⟩,K⟩)
 ·have I3:ItAt w3 (x+1) _ _ _ _ _:=K.blk I2.out (by omega)
  have P3:PtD w3 x D:=K.blk P2.out (by omega)
  obtain ⟨w4,hw4,i1,i2,-,-,-,i6⟩:=I3.put (itR b).kind (.slice none 0 0) (sB (itR b).m) (.slice B (itR b).C.length c2) (itR b).al
  have P4:PtD w4 x D:=(i6 x (by omega)).trans P3
  have X4:Dec w0 D S w4 k p nd' d n:=⟨(i2.block D (by omega)).trans X3.blk,X3.bel.trans (i2.mono (by omega))⟩
  have O4:=Lib.hid (it_ownT I3 (row_mono hO (show D≤w2.heap.size by omega)) i6)
  have C2:=CI.out w4 k hk p nd' d n X4 (x+1) x (by omega) hDx P4 _ _ _ _ _ i1
  obtain ⟨k0,k1,k2,k3,k4,k5⟩:=I3.cells
  have HR:Hid ((itR b).raw=b.take k):=hraw
  have H4:Hid ((itR b).kind≠4):=h1
  have LK:Hid ((b.take k).length=k):=by show _=_;rw [List.length_take,HL.out];omega
  have RT:Hid (∀ A' c' w5,ItAt w5 (x+1) (itR b).kind (.slice A' k c') (sB (itR b).m) (.slice B (itR b).C.length c2) (itR b).al→TOwnB w5 D (.slice A' k c') (b.take k)→Dec w0 D S w5 k p nd' d n→(∀ B u L,OwnT w4 B u L→OwnT w5 B u L)→
    RetDIt w0 D S b (.returned (.agg #[.int .i64 (itR b).kind,.slice A' k c',.string (sB (itR b).m),.slice B (itR b).C.length c2,.bool (itR b).al])) w5):=fun A' c' w5 g1 g2 g3 g4=>by
   refine ⟨⟨A',c',B,c2,?_,?_,g4 _ _ _ O4.out⟩,k,p,nd',d,n,g3,fun h=>absurd h H4.out⟩
   ·rw [HR.out,LK.out]
   ·rw [HR.out,LK.out];exact g2
  obtain ⟨kind,hkind⟩:∃ z,(itR b).kind=z:=⟨_,rfl⟩
  obtain ⟨m,hm⟩:∃ z,(itR b).m=z:=⟨_,rfl⟩
  obtain ⟨lc,hlc⟩:∃ z,(itR b).C.length=z:=⟨_,rfl⟩
  obtain ⟨al,hal⟩:∃ z,(itR b).al=z:=⟨_,rfl⟩
  rw [hkind,hm,hlc,hal] at C2 RT hw4
  simp only [hkind,hm,hlc,hal]
  clear C1 CM CI h1 hO hraw X3 K I3 P3 i1 i2 i6 P4 X4 O4 HR H4 I2 P2 p0
  go_wp2
  refine leaves_cons (f:=123) (args:=#[.pointer (some ⟨x+1,0,none⟩),.pointer (some ⟨x,0,none⟩)]) (by simp) (by simp [go_sem]) ?_
  refine C2.mono ?_
  rintro e u' w5 ⟨rfl,rfl,A',c',g1,g2,g3,g4⟩
  obtain ⟨j0,j1,j2,j3,j4,j5⟩:=g1.cells
  have F:=Lib.hid (RT.out A' c' w5 g1 g2 g3 g4)
  clear g1 g2 g3 g4 C2 RT
  simp [Leaves,settle,results,Tryz.results97,go_sem,j0,j1,j2,j3,j4]
  exact F.out
 ·have I3:ItAt w3 (x+1) _ _ _ _ _:=K.blk I2.out (by omega)
  have P3:PtD w3 x D:=K.blk P2.out (by omega)
  have C2:=CM.out w3 _ (Nat.le_refl _) p _ d n X3 (x+1) x (by omega) hDx P3 _ _ _ _ _ I3
  have HII:=Lib.hid hi
  clear C1 CM CI X3 K I3 P3 hi I2 P2 p0
  refine leaves_cons (f:=123) (args:=#[.pointer (some ⟨x+1,0,none⟩),.pointer (some ⟨x,0,none⟩)]) (by simp) (by simp [go_sem]) ?_
  refine C2.mono ?_
  rintro e u' w5 ⟨rfl,rfl,A',c',g1,g2,g3⟩
  obtain ⟨j0,j1,j2,j3,j4,j5⟩:=g1.cells
  have F:Hid (RetDIt w0 D S b (.returned (.agg #[.int .i64 4,.slice A' l c',.string ⟨#[]⟩,.slice none 0 0,.bool false])) w5):=by
   have hT:b.take l=b:=by rw [← HL.out,List.take_length]
   rw [hT] at g2
   refine ⟨⟨A',c',none,0,?_,?_,?_⟩,_,p,_,d,n,g3,fun _=>rfl⟩
   ·rw [HII.out];simp only [iteO,HL.out];rfl
   ·rw [HII.out];simp only [iteO,HL.out];exact g2
   ·rw [HII.out];exact ownT_nil _ _
  clear g1 g2 g3 C2
  simp [Leaves,settle,results,Tryz.results97,go_sem,j0,j1,j2,j3,j4]
  exact F.out
end Go.Proofs.YtajlleeonddinaaGreatDoor
namespace Go.Proofs.YtajlleeonddinaaGreatDoor
open Go.RowKit Go.Shelf
attribute [local go_sem] Oper.semAt_some
def itP (b:Str):Ite:=if b=[] then ⟨0,[],[],[],false⟩ else itR b
theorem itP_ne {b:Str} (h:b≠[]):itP b=itR b:=if_neg h
theorem dh_of {w w1:World} {b:Str} {A:Option Addr} {cap l:Nat} (hl:b.length=l) (hc:l≤cap) (hcm:cap≤maxLen) (hl2:l≤100000) (H:BytesAt w A b) (hb:Below w.heap.size w w1):DH w1 w1.heap.size b A l cap:=⟨hl,hl2,Nat.le_refl _,H.below hb,hc,hcm⟩
theorem dfirst_any (b:Str) (A:Option Addr) (cap l:Nat) (hl:b.length=l) (hc:l≤cap) (hcm:cap≤maxLen) (hl2:l≤100000) (w:World) (H:BytesAt w A b) (hM:MaxAt w) :
  Calls Tryz.prog 67 #[.slice A l cap] w (RetIt w (itP b)):=by
 obtain ⟨n,hn⟩:∃ z,w.heap.size=z:=⟨_,rfl⟩
 obtain ⟨w0,hw0,I0,y0,z0⟩:=it_start w n hn
 have HN:=Lib.hid hn
 have HL:=Lib.hid hl
 by_cases hb:b=[]
 ·have HP:Hid (itP b=⟨0,[],[],[],false⟩):=if_pos hb
  obtain rfl:l=0:=by rw [← hl,hb];rfl
  obtain ⟨w1,hw1,i1,i2,i3,i4,i5,i6⟩:=I0.put 0 (.slice none 0 0) ⟨#[]⟩ (.slice none 0 0) false
  obtain ⟨k0,k1,k2,k3,k4,k5⟩:=I0.cells
  obtain ⟨j0,j1,j2,j3,j4,j5⟩:=i1.cells
  have F:=Lib.hid (retIt_put (w:=w) (w1:=w0) (w2:=w1) (x:=⟨0,[],[],[],false⟩) (A:=none) (B:=none) (c:=0) (c2:=0) hn (by rw [← hn];exact y0) I0.lt (townB_nil _ _) (ownT_nil _ _) ⟨i2,i4,i5⟩)
  clear H hM hl hb I0 y0 i1 i2 i3 i4 i5 i6
  go_enter Tryz.func67,Tryz.ntmps67
  go_wp2
  refine bodyPost_ret (v:=.agg #[.int .i64 0,.slice none 0 0,.string ⟨#[]⟩,.slice none 0 0,.bool false]) ?_ rfl ?_
  ·simp [results,Tryz.results67,go_sem,j0,j1,j2,j3,j4]
  ·rw [HP.out];exact F.out
 ·have HP:Hid (itP b=itR b):=if_neg hb
  have h1:1≤l:=by rw [← hl];cases b;exact absurd rfl hb;simp
  have ND:=newDec_any b A l cap w0
  have DD:=Lib.hid (dh_of hl hc hcm hl2 H y0)
  have M0:=Lib.hid (hM.below y0)
  have IT:=Lib.hid (fun w1 X=>ditem_any DD.out M0.out (w:=w1) (nd:=0) X)
  have I0:=Lib.hid I0
  have Y0:=Lib.hid y0
  clear H hM hl hc hcm hb y0
  go_enter Tryz.func67,Tryz.ntmps67
  go_wp2_with fail
  refine ND.mono ?_
  rintro e w1 ⟨rfl,X1,hb1⟩
  rw [z0] at X1 ⊢
  have IT1:=IT.out w1 (by rw [z0];exact X1)
  rw [z0] at IT1
  clear ND hb1 X1 IT DD M0
  go_wp2_with fail
  refine IT1.mono ?_
  rintro e w2 ⟨⟨A',c',B,c2,rfl,hO,hT⟩,k,p,nd,d,m,X2,-⟩
  have B2:=X2.bel
  have I2:ItAt w2 n _ _ _ _ _:=(B2.block n (by omega)).trans I0.out
  obtain ⟨w3,hw3,i1,i2,i3,i4,i5,i6⟩:=I2.put (itR b).kind (.slice A' (itR b).raw.length c') (sB (itR b).m) (.slice B (itR b).C.length c2) (itR b).al
  obtain ⟨k0,k1,k2,k3,k4,k5⟩:=I2.cells
  obtain ⟨j0,j1,j2,j3,j4,j5⟩:=i1.cells
  have F:=Lib.hid (retIt_put (w:=w) (w1:=w2) (w2:=w3) (x:=itR b) HN.out ((show Below n w w0 by rw [← HN.out];exact Y0.out).trans (B2.mono (by omega))) I2.lt hO hT ⟨i2,i4,i5⟩)
  clear IT1 hO hT X2 B2 I2 i1 i2 i3 i4 i5 i6 I0 Y0
  go_wp2
  refine bodyPost_ret (v:=.agg #[.int .i64 (itR b).kind,.slice A' (itR b).raw.length c',.string (sB (itR b).m),.slice B (itR b).C.length c2,.bool (itR b).al]) ?_ rfl ?_
  ·simp [results,Tryz.results67,go_sem,j0,j1,j2,j3,j4]
  ·rw [HP.out];exact F.out
end Go.Proofs.YtajlleeonddinaaGreatDoor
namespace Go.Proofs.YtajlleeonddinaaGreatDoor
open Go.RowKit Go.Shelf
attribute [local go_sem] Oper.semAt_some
theorem sBq_neq (xs ys:Str):((sB xs).toList == (sB ys).toList)=decide (xs=ys):=by
 rw [sB_eq,ByteArray.toList_eq,show (sB ys).data.toList=ys by simp [sB]]
theorem two_kept {w w3:World} {o1 o2:Array Value} {T:TypeId} (hb:Below ((w.alloc (.cells o1 T)).alloc (.cells o2 T)).heap.size ((w.alloc (.cells o1 T)).alloc (.cells o2 T)) w3):w3.heap[w.heap.size]?=some (.cells o1 T (0,0))∧w3.heap[w.heap.size+1]?=some (.cells o2 T (0,0)):=by
 constructor
 ·exact (hb.block _ (by simp;omega)).trans (((up_alloc (w.alloc (.cells o1 T)) (.cells o2 T)).block _ (by simp)).trans (heap_alloc_new w _))
 ·refine (hb.block _ (by simp)).trans ?_
  have h:=heap_alloc_new (w.alloc (.cells o1 T)) (.cells o2 T)
  rwa [show (w.alloc (.cells o1 T)).heap.size=w.heap.size+1 by simp] at h
theorem rsame12_any (k1 k2:Int) (xs ys:Str) (m1 m2:Str) (al1 al2':Bool) (A1 A2 B1 B2:Option Addr) (c1 c2 d1 d2:Nat) (L1 L2:List Tr) (h1:L1.length≤1000) (h2:L2.length≤1000) (w:World) (H1:BytesAt w A1 xs) (H2:BytesAt w A2 ys) (P1:OpsP w B1 L1) (P2:OpsP w B2 L2) :
  Calls Tryz.prog 18 #[.agg #[.int .i64 k1,.slice A1 xs.length c1,.string (sB m1),.slice B1 L1.length d1,.bool al1],.agg #[.int .i64 k2,.slice A2 ys.length c2,.string (sB m2),.slice B2 L2.length d2,.bool al2']] w
   fun e w'=>e=.returned (.bool (decide (k1=k2)&&decide (xs=ys)&&(decide (m1=m2)&&decide (L1=L2))&&(al1 == al2')))∧Below w.heap.size w w':=by
 have UU:=Lib.hid (al2 w)
 by_cases hk:k1=k2
 ·subst hk
  rw [decide_eq_true rfl,Bool.true_and]
  have X1:=Lib.hid H1
  have X2:=Lib.hid H2
  have SM:=Lib.hid (fun o1 o2=>rsame_any m1 m2 B1 B2 d1 d2 L1 L2 h1 h2 ((w.alloc o1).alloc o2) (P1.below (al2 w o1 o2)) (P2.below (al2 w o1 o2)))
  have s1:=fun o1 o2=>conv_sB (H1.below (al2 w o1 o2)) c1
  have s2:=fun o1 o2=>conv_sB (H2.below (al2 w o1 o2)) c2
  obtain ⟨n1,hn1⟩:∃ n,L1.length=n:=⟨_,rfl⟩
  obtain ⟨n2,hn2⟩:∃ n,L2.length=n:=⟨_,rfl⟩
  obtain ⟨y1,hy1⟩:∃ n,xs.length=n:=⟨_,rfl⟩
  obtain ⟨y2,hy2⟩:∃ n,ys.length=n:=⟨_,rfl⟩
  have E:=sBq_neq xs ys
  rw [hn1,hn2] at SM ⊢
  rw [hy1] at s1 ⊢
  rw [hy2] at s2 ⊢
  clear H1 H2 P1 P2 h1 h2 hn1 hn2 hy1 hy2
  by_cases he:xs=ys
  ·rw [decide_eq_true he] at E ⊢
   rw [Bool.true_and]
   clear he
   obtain ⟨e1,he1⟩:∃ e,(decide (m1=m2)&&decide (L1=L2))=e:=⟨_,rfl⟩
   rw [he1] at SM ⊢
   clear he1
   go_enter Tryz.func18,Tryz.ntmps18
   go_wp2_with fail
   refine (SM.out _ _).mono ?_
   rintro e w3 ⟨rfl,hb3⟩
   have B3:Hid (Below w.heap.size w w3):=up (UU.out _ _) hb3
   obtain ⟨z1,z2⟩:=two_kept hb3
   have y1:=Lib.cell_of_heap z1 4
   have y2:=Lib.cell_of_heap z2 4
   clear SM hb3 s1 s2 z1 z2
   cases e1
   ·go_wp2
    go_ret
    exact ⟨by simp,B3.out⟩
   ·go_wp2
    go_ret
    exact ⟨by simp,B3.out⟩
  ·rw [decide_eq_false he] at E ⊢
   simp only [Bool.false_and]
   clear SM
   go_enter Tryz.func18,Tryz.ntmps18
   go_wp2
   go_ret
   exact ⟨rfl,UU.out _ _⟩
 ·rw [decide_eq_false hk]
  simp only [Bool.false_and]
  have hk2:(k1 == k2)=false:=by simpa using hk
  clear H1 H2 P1 P2
  go_enter Tryz.func18,Tryz.ntmps18
  go_wp2
  go_ret
  exact ⟨rfl,UU.out _ _⟩
end Go.Proofs.YtajlleeonddinaaGreatDoor
namespace Go.Proofs.YtajlleeonddinaaGreatDoor
open Go.RowKit Go.Shelf
attribute [local go_sem] Oper.semAt_some
attribute [local irreducible] Go.Mixed.wpMix
def RetDAt (w:World) (b:Str) (at_:Int) (e:Ending) (w':World):Prop:=
 ((at_<0∨(b.length:Int)≤at_)∧e=.returned (.tuple #[.agg #[.int .i64 0,.slice none 0 0,.string ⟨#[]⟩,.slice none 0 0,.bool false],.int .i64 0,.bool false])∧Below w.heap.size w w')∨
 (∃ k:Nat,at_=k∧k<b.length∧∃ A c B c2,e=.returned (.tuple #[.agg #[.int .i64 (itR (b.drop k)).kind,.slice A (itR (b.drop k)).raw.length c,.string (sB (itR (b.drop k)).m),.slice B (itR (b.drop k)).C.length c2,.bool (itR (b.drop k)).al],.int .i64 ((k+(itR (b.drop k)).raw.length:Nat):Int),.bool true])∧
  TOwnB w' w.heap.size (.slice A (itR (b.drop k)).raw.length c) (itR (b.drop k)).raw∧OwnT w' w.heap.size (.slice B (itR (b.drop k)).C.length c2) (itR (b.drop k)).C∧Below w.heap.size w w')
theorem raw_le (b:Str):(itR b).raw.length≤b.length:=by
 unfold itR
 split
 ·exact Nat.le_refl _
 ·split
  ·split
   ·show (b.take 1).length≤_;rw [List.length_take];omega
   ·show (b.take 2).length≤_;rw [List.length_take];omega
  ·split
   ·exact Nat.le_refl _
   ·show (b.take _).length≤_;rw [List.length_take];omega
theorem drop_at2 {w:World} {g off:Nat} {xs:Str} (h:BytesAt w (some ⟨g,off,none⟩) xs) (k:Nat):BytesAt w (some ⟨g,off+k,none⟩) (xs.drop k):=by
 rcases h with rfl | ⟨b,o,e,hc⟩
 ·exact .inl (by simp)
 ·simp only [Option.some.injEq,Addr.mk.injEq] at e
  obtain ⟨rfl,rfl,-⟩:=e
  refine .inr ⟨g,off+k,rfl,fun j hj=>?_⟩
  rw [List.length_drop] at hj
  rw [List.getElem_drop,Nat.add_assoc]
  exact hc (k+j) (by omega)
theorem dat_any (b:Str) (A:Option Addr) (cap l:Nat) (hl:b.length=l) (hc:l≤cap) (hcm:cap≤maxLen) (hl2:l≤100000) (w:World) (H:BytesAt w A b) (hM:MaxAt w) (at_:Int) :
  Calls Tryz.prog 36 #[.slice A l cap,.int .i64 at_] w (RetDAt w b at_):=by
 obtain ⟨n,hn⟩:∃ z,w.heap.size=z:=⟨_,rfl⟩
 obtain ⟨w0,hw0,I0,y0,z0⟩:=it_start w n hn
 have HN:=Lib.hid hn
 have HL:=Lib.hid hl
 by_cases hout:at_<0∨(l:Int)≤at_
 ·obtain ⟨w1,hw1,i1,i2,i3,i4,i5,i6⟩:=I0.put 0 (.slice none 0 0) ⟨#[]⟩ (.slice none 0 0) false
  obtain ⟨k0,k1,k2,k3,k4,k5⟩:=I0.cells
  obtain ⟨j0,j1,j2,j3,j4,j5⟩:=i1.cells
  have F:Hid (RetDAt w b at_ (.returned (.tuple #[.agg #[.int .i64 0,.slice none 0 0,.string ⟨#[]⟩,.slice none 0 0,.bool false],.int .i64 0,.bool false])) w1):=.inl ⟨by rw [hl];exact hout,rfl,y0.trans (by rw [hn];exact i2)⟩
  have hh:decide (at_<0)=true∨(decide (at_<0)=false∧decide ((l:Int)≤at_)=true):=by
   by_cases h:at_<0
   ·exact .inl (decide_eq_true h)
   ·exact .inr ⟨decide_eq_false h,decide_eq_true (by omega)⟩
  have hx:at_<0∨(¬at_<0∧at_≥(l:Int)):=by omega
  clear H hM hl I0 y0 i1 i2 i3 i4 i5 i6 hout
  rcases hx with t1 | ⟨t1,t2⟩
  ·clear hh
   go_enter Tryz.func36,Tryz.ntmps36
   go_wp2
   refine bodyPost_ret (v:=.tuple #[.agg #[.int .i64 0,.slice none 0 0,.string ⟨#[]⟩,.slice none 0 0,.bool false],.int .i64 0,.bool false]) ?_ rfl F.out
   simp [results,Tryz.results36,go_sem,j0,j1,j2,j3,j4]
  ·clear hh
   go_enter Tryz.func36,Tryz.ntmps36
   go_wp2
   refine bodyPost_ret (v:=.tuple #[.agg #[.int .i64 0,.slice none 0 0,.string ⟨#[]⟩,.slice none 0 0,.bool false],.int .i64 0,.bool false]) ?_ rfl F.out
   simp [results,Tryz.results36,go_sem,j0,j1,j2,j3,j4]
 ·obtain ⟨k,rfl⟩:∃ k:Nat,at_=k:=⟨at_.toNat,by omega⟩
  have hkl:k<l:=by omega
  obtain ⟨g,off,rfl,-⟩:=H.cellAt (j:=k) (by omega)
  have hne:b.drop k≠[]:=fun e=>by
   have:=congrArg List.length e
   rw [List.length_drop,hl] at this
   simp at this
   omega
  have hdl:(b.drop k).length=l - k:=by rw [List.length_drop,hl]
  have FI:=dfirst_any (b.drop k) (some ⟨g,off+k,none⟩) (cap - k) (l - k) hdl (by omega) (by omega) (by omega) w0 ((drop_at2 H k).below y0) (hM.below y0)
  rw [itP_ne hne] at FI
  have hrl:=raw_le (b.drop k)
  rw [hdl] at hrl
  have RT:Hid (∀ e w',(∃ A c B c2,e=.returned (.tuple #[.agg #[.int .i64 (itR (b.drop k)).kind,.slice A (itR (b.drop k)).raw.length c,.string (sB (itR (b.drop k)).m),.slice B (itR (b.drop k)).C.length c2,.bool (itR (b.drop k)).al],.int .i64 ((k+(itR (b.drop k)).raw.length:Nat):Int),.bool true])∧
   TOwnB w' w.heap.size (.slice A (itR (b.drop k)).raw.length c) (itR (b.drop k)).raw∧OwnT w' w.heap.size (.slice B (itR (b.drop k)).C.length c2) (itR (b.drop k)).C∧Below w.heap.size w w')→RetDAt w b k e w'):=fun e w' h=>.inr ⟨k,rfl,by rw [hl];exact hkl,h⟩
  obtain ⟨x,hx⟩:∃ z,itR (b.drop k)=z:=⟨_,rfl⟩
  rw [hx] at FI RT hrl
  have I0:=Lib.hid I0
  have Y0:=Lib.hid y0
  have t1:¬((k:Int)<0):=by omega
  have t2:¬((k:Int)≥(l:Int)):=by omega
  clear H hM hl hdl hne y0 hx hout
  go_enter Tryz.func36,Tryz.ntmps36
  go_wp2_with fail
  refine FI.mono ?_
  rintro e w1 ⟨A',c',B,c2,rfl,hO,hT,hb⟩
  obtain ⟨y,w2,hy,hw2,S2,y2,z2⟩:=Fr.box (Fr.nil w1) #[.int .i64 x.kind,.slice A' x.raw.length c',.string (sB x.m),.slice B x.C.length c2,.bool x.al] 40
  have I2:ItAt w2 y x.kind (.slice A' x.raw.length c') (sB x.m) (.slice B x.C.length c2) x.al:=S2.out.1
  have In:ItAt w2 n 0 (.slice none 0 0) ⟨#[]⟩ (.slice none 0 0) false:=(I0.out.all hb).all y2
  obtain ⟨w3,hw3⟩:∃ z,w2.drew=z:=⟨_,rfl⟩
  have dq:Below w2.heap.size w2 w3:=by rw [← hw3];exact below_drewN w2 _ 1
  have I3:=Lib.hid (I2.all dq)
  have N3:=Lib.hid (In.all dq)
  have O3:=Lib.hid ((hO.below y2).below dq)
  have T3:=Lib.hid ((hT.below y2).below dq)
  have B3:Hid (Below n w w3):=(show Below n w w0 by rw [← HN.out];exact Y0.out).trans (((hb.trans (y2.mono hb.size)).trans (dq.mono (by have:=hb.size;omega))).mono (by omega))
  have hny:n<y:=by have h:=I0.out.lt;have:=hb.size;omega
  clear FI hO hT hb S2 y2 I2 In dq I0 Y0
  go_upto_region 4 with fail
  refine Mixed.wp_region_mixed (fun w'=>ItAt w' y x.kind (.slice A' x.raw.length c') (sB x.m) (.slice B x.C.length c2) x.al) 7 [(0,true),(1,true),(2,true),(3,true),(4,true),(5,true),(6,false)] (by kernel_rfl) (by kernel_rfl) (by rw [hw3];exact I3.out) ?_
  rw [hw3]
  clear hw3
  refine Mixed.mo rfl (.agg #[.int .i64 x.kind,.slice A' x.raw.length c',.string (sB x.m),.slice B x.C.length c2,.bool x.al]) (fun w h=>by obtain ⟨h0,h1,h2,h3,h4,h5⟩:=h.cells;clear h;go_simp;try rfl) ?_
  refine Mixed.mo rfl (.int .i64 (k:Int)) (fun w h=>by clear h;go_simp;try rfl) ?_
  refine Mixed.mo rfl (.pointer (some ⟨y,1,none⟩)) (fun w h=>by clear h;go_simp;try rfl) ?_
  refine Mixed.mo rfl (.slice A' x.raw.length c') (fun w h=>by obtain ⟨h0,h1,h2,h3,h4,h5⟩:=h.cells;clear h;go_simp;try rfl) ?_
  refine Mixed.mo rfl (.int .i64 (x.raw.length:Int)) (fun w h=>by clear h;go_simp;try rfl) ?_
  refine Mixed.mo rfl (.int .i64 ((k+x.raw.length:Nat):Int)) (fun w h=>by clear h;go_simp;rw [IntKind.wrap_i64];omega) ?_
  refine Mixed.wpMix_loud rfl ?_
  refine wpList_store_row rfl 40 _ _ rfl n #[.int .i64 x.kind,.slice A' x.raw.length c',.string (sB x.m),.slice B x.C.length c2,.bool x.al] rfl rfl _ _ N3.out (by kernel_rfl) (by kernel_rfl) (by kernel_rfl) ?_
  obtain ⟨w4,hw4⟩:∃ z,w3.setRow n #[.int .i64 x.kind,.slice A' x.raw.length c',.string (sB x.m),.slice B x.C.length c2,.bool x.al]=z:=⟨_,rfl⟩
  have i6:∀ k,k≠n→w4.heap[k]?=w3.heap[k]?:=fun k hk=>by rw [← hw4];exact setRow_other w3 n k _ hk
  have i2:Below n w3 w4:=by rw [← hw4];exact below_setRow (Below.refl n w3) (Nat.le_refl _) _
  have i1:ItAt w4 n x.kind (.slice A' x.raw.length c') (sB x.m) (.slice B x.C.length c2) x.al:=by rw [← hw4];exact setRow_heap w3 n _ _ 40 (0,0) N3.out
  have I4:ItAt w4 y x.kind (.slice A' x.raw.length c') (sB x.m) (.slice B x.C.length c2) x.al:=(i6 y (by omega)).trans I3.out
  have F:=Lib.hid (RT.out _ w4 ⟨A',c',B,c2,rfl,(it_ownB N3.out O3.out i6).lift (by omega),row_mono (it_ownT N3.out T3.out i6) (by omega),by rw [HN.out];exact B3.out.trans i2⟩)
  rw [hw4]
  obtain ⟨j0,j1,j2,j3,j4,j5⟩:=i1.cells
  clear hw4 i1 i2 i6 I3 N3 O3 T3 B3 RT
  refine ⟨I4,?_⟩
  clear I4
  simp only [Mixed.wpMix,List.drop_succ_cons,List.drop_zero]
  go_wp2
  refine bodyPost_ret (v:=.tuple #[.agg #[.int .i64 x.kind,.slice A' x.raw.length c',.string (sB x.m),.slice B x.C.length c2,.bool x.al],.int .i64 ((k+x.raw.length:Nat):Int),.bool true]) ?_ rfl F.out
  simp [results,Tryz.results36,go_sem,j0,j1,j2,j3,j4]
end Go.Proofs.YtajlleeonddinaaGreatDoor
namespace Go.Proofs.YtajlleeonddinaaGreatDoor
open Go.RowKit Go.Shelf
attribute [local go_sem] Oper.semAt_some
section
open Mixed
variable {P:Program} {ops:Array Oper}
theorem wpMixT_skip {C:World→Prop} {T:Act→World→Prop} {k:Nat} {r:Ord} {a:Act} {w:World} {o:Oper} (ho:ops[k]?=some o) (hw:Region.wanted o (yielded ops a.tmps)=false)
  (h:wpMixT P ops C T r (a.put o.dst undef) w):wpMixT P ops C T (.pure k r) a w:=by
 simp only [wpMixT,ho]
 exact ⟨undef,.inr ⟨hw,rfl⟩,h⟩
theorem wpMixT_skipL {C:World→Prop} {T:Act→World→Prop} {k:Nat} {r:Ord} {a:Act} {w:World} {o:Oper} (ho:ops[k]?=some o) (hw:Region.wanted o (yielded ops a.tmps)=false)
  (hC:C w) (h:wpMixT P ops C T r (a.put o.dst undef) w):wpMixT P ops C T (.one k r) a w:=by
 simp only [wpMixT]
 unfold wpOp
 simp only [ho,hw,Bool.false_eq_true,if_false]
 exact ⟨hC,h⟩
theorem wpMixT_bothS {C:World→Prop} {T:Act→World→Prop} {k k2:Nat} {r r2:Ord} {a:Act} {w:World} {o o2:Oper} (ho:ops[k]?=some o) (hw:Region.wanted o (yielded ops a.tmps)=false) (ho2:ops[k2]?=some o2) (hw2:Region.wanted o2 (yielded ops a.tmps)=true)
  (hC:C w) (h:wpMixT P ops C T r (a.put o.dst undef) w) (h2:wpList P ops (QK fun a' w'=>C w'∧wpMixT P ops C T r2 a' w') [{o2 with guard:=none}] a w) :
  wpMixT P ops C T (.two k r k2 r2) a w:=by
 simp only [wpMixT]
 refine ⟨?_,wpOp_loudT ho2 hw2 h2⟩
 unfold wpOp
 simp only [ho,hw,Bool.false_eq_true,if_false]
 exact ⟨hC,h⟩
end
def EfAt (w:World) (b:Nat) (k:Int) (q:Bool) (v:Value):Prop:=w.heap[b]?=some (.cells #[.int .i64 k,.bool q,v] 58 (0,0))
section
variable {w w':World} {b:Nat} {k:Int} {q:Bool} {v:Value}
theorem EfAt.lt (h:EfAt w b k q v):b<w.heap.size:=(Array.getElem?_eq_some_iff.1 h).1
theorem EfAt.all (h:EfAt w b k q v) (hb:Below w.heap.size w w'):EfAt w' b k q v:=(hb.block b h.lt).trans h
theorem EfAt.cells (h:EfAt w b k q v):w.cell? ⟨b,0,none⟩=some (.int .i64 k)∧w.cell? ⟨b,1,none⟩=some (.bool q)∧w.cell? ⟨b,2,none⟩=some v∧∀ i,w.frozen? ⟨b,i,none⟩=false:=
 ⟨Lib.cell_of_heap h 0,Lib.cell_of_heap h 1,Lib.cell_of_heap h 2,fun i=>Lib.frozen_of_heap h i⟩
theorem EfAt.put (h:EfAt w b k q v) (k':Int) (q':Bool) (v':Value) :
  ∃ w',((w.setCell ⟨b,0,none⟩ (.int .i64 k')).setCell ⟨b,1,none⟩ (.bool q')).setCell ⟨b,2,none⟩ v'=w'∧
   EfAt w' b k' q' v'∧Below b w w'∧w'.heap.size=w.heap.size∧∀ k,k≠b→w'.heap[k]?=w.heap[k]?:=by
 refine ⟨_,rfl,?_,?_,by simp,fun k hk=>?_⟩
 ·have h1:=heap_setCell_same w b 0 _ _ (.int .i64 k') h
  have h2:=heap_setCell_same _ b 1 _ _ (.bool q') h1
  exact heap_setCell_same _ b 2 _ _ v' h2
 ·exact (((Below.refl b w).setCell (p:=⟨b,0,none⟩) (Nat.le_refl _) _).setCell (p:=⟨b,1,none⟩) (Nat.le_refl _) _).setCell (p:=⟨b,2,none⟩) (Nat.le_refl _) _
 ·exact (heap_setCell_other _ ⟨b,2,none⟩ k _ hk).trans ((heap_setCell_other _ ⟨b,1,none⟩ k _ hk).trans (heap_setCell_other _ ⟨b,0,none⟩ k _ hk))
end
def efF (b:Nat) (k:Int) (q:Bool) (v:Value):Fr.F:=⟨fun w=>EfAt w b k q v,fun h hb=>h.all hb⟩
def fopsF (A:Option Addr) (L:List Tr):Fr.F:=⟨fun w=>OpsP w A L,fun h hb=>h.below hb⟩
def maxF:Fr.F:=⟨fun w=>MaxAt w,fun h hb=>h.below hb⟩
def ownSF (n:Nat) (v:Value) (L:List Tr):Fr.F:=⟨fun w=>OwnS w n v L,fun h hb=>h.below hb⟩
theorem OwnS.above {w w':World} {n B:Nat} {v:Value} {L:List Tr} (h:OwnS w n v L) (hk:∀ k,k≠B→w'.heap[k]?=w.heap[k]?) (hB:B<n):OwnS w' n v L:=by
 rcases h with ⟨rfl,rfl⟩ | ⟨g,off,cap,rfl,h1,h2,h3,cur,h4,h5⟩
 ·exact .inl ⟨rfl,rfl⟩
 ·exact .inr ⟨g,off,cap,rfl,h1,h2,h3,cur,(hk g (by omega)).trans h4,h5⟩
structure EffIs (k:Int) (q:Bool) (C:List Tr) (kd:Int) (sm:Bool) (tg:Int→Int):Prop where
 kd:k=kd
 sm:q=sm
 tg:∀ a,tgP k a C=tg a
 imm:∀ t∈C,t.1=6→0≤t.2.2∧t.2.2≤65535
 rel:∀ t∈C,t.1=10→-128≤t.2.2∧t.2.2≤127
 len:C.length≤1000
def RetEff (w:World) (kd:Int) (sm:Bool) (tg:Int→Int) (e:Ending) (w':World):Prop:=∃ (k:Int) (q:Bool) (v:Value) (C:List Tr),e=.returned (.agg #[.int .i64 k,.bool q,v])∧OwnS w' w.heap.size v C∧Below w.heap.size w w'∧EffIs k q C kd sm tg
theorem eff_zero:EffIs 0 false [] 0 false (fun _=>-1):=⟨rfl,rfl,fun a=>by unfold tgP;rw [if_neg (by omega)],fun t ht=>(by cases ht),fun t ht=>(by cases ht),by simp⟩
theorem eff_plain {s:ByteArray} {I:List Tr} (h:plnB s I=true):EffIs 0 false [] (kdF s I) (smF s I) (fun a=>tgF a s I):=by
 have k:=kd_same s I
 have m:=sm_same s I
 have t:=fun a=>tg_same a s I
 rw [h] at k m
 simp only [if_pos h] at t
 refine ⟨k,m,fun a=>?_,fun t ht=>(by cases ht),fun t ht=>(by cases ht),by simp⟩
 show _=tgF a s I
 rw [← t a]
 unfold tgP
 rw [if_neg (by omega),if_neg (by omega)]
theorem eff_full {s:ByteArray} {I:List Tr} (h:plnB s I=false) (hl:I.length≤900):EffIs (kndP s (canL (opc s) I)) (smP s (canL (opc s) I)) (canL (opc s) I) (kdF s I) (smF s I) (fun a=>tgF a s I):=by
 have k:=kd_same s I
 have m:=sm_same s I
 have t:=fun a=>tg_same a s I
 rw [h] at k m
 have e:(if plnB s I=true then (0:Int) else kndP s (canL (opc s) I))=kndP s (canL (opc s) I):=if_neg (by rw [h];decide)
 rw [e] at t
 have hL:legB s I=true:=by
  unfold plnB at h
  rw [Bool.or_eq_false_iff] at h
  simpa using h.2
 have hR:=((legB_iff s I).1 hL).fl
 have hc:=canL_len (opc s) I
 exact ⟨by simpa using k,by simpa using m,t,hR.imm,hR.rel,by omega⟩
theorem fins_one (w:World) (s:ByteArray) (A:Option Addr) (n cap:Nat) (L:List Tr) (hn:L.length=n) (H:OpsP w A L):InsP (w.alloc (.cells #[.string s,.slice A n cap] 24)) (some ⟨w.heap.size,0,none⟩) [⟨s,A,cap,L⟩]:=by
 subst hn
 refine .inr ⟨_,_,rfl,fun j hj=>?_⟩
 obtain rfl:j=0:=by simp at hj;omega
 have h:=heap_alloc_new w (.cells #[.string s,.slice A L.length cap] 24)
 exact ⟨Lib.cell_of_heap h 0,Lib.cell_of_heap h 1,H.below ((Below.refl _ _).alloc (Nat.le_refl _) _)⟩
attribute [local irreducible] Go.Mixed.wpMixT
theorem effectOf_any (s:ByteArray) (hs:s.size≤1000) (A:Option Addr) (cap li:Nat) (I:List Tr) (hli:I.length=li) (hLi:li≤900) (w:World) (hM:MaxAt w) (H:OpsP w A I) :
  Calls Tryz.prog 28 #[.agg #[.string s,.slice A li cap]] w (RetEff w (kdF s I) (smF s I) (fun a=>tgF a s I)):=by
 obtain ⟨n,hn⟩:∃ z,w.heap.size=z:=⟨_,rfl⟩
 have HN:=Lib.hid hn
 obtain ⟨b0,w0,hb0,hw0,S0,y0,z0⟩:=Fr.box (Fr.add (Fr.add (Fr.start w n hn) (fopsF A I) H) maxF hM) #[.string s,.slice A li cap] 24
 obtain ⟨b1,w1,hb1,hw1,S1,y1,z1⟩:=Fr.box S0 #[.int .i64 0,.bool false,.slice none 0 0] 58
 obtain rfl:b0=n:=by omega
 obtain rfl:b1=b0+1:=by omega
 have OF:=of_any s A cap I (by omega) w1 S1.out.2.2.2.1
 rw [hli] at OF
 have hcl:=canL_len (opc s) I
 have EP:=Lib.hid (fun h=>eff_plain (s:=s) (I:=I) h)
 have EF:=Lib.hid (fun h=>eff_full (s:=s) (I:=I) h (by omega))
 have PB:Hid (plnB s I=(decide (kndP s (canL (opc s) I)=0)||!legB s I)):=rfl
 obtain ⟨C,hC⟩:∃ z,canL (opc s) I=z:=⟨_,rfl⟩
 rw [hC] at OF hcl EF PB
 obtain ⟨lc,hlc⟩:∃ z,C.length=z:=⟨_,rfl⟩
 have hlc2:lc≤1000:=by omega
 have HLC:=Lib.hid hlc
 have HLI:=Lib.hid hli
 obtain ⟨k0,k1⟩:=Fr.cells2 S1.out.2.1
 clear H hM y0 y1 S0 hC
 go_enter Tryz.func28,Tryz.ntmps28
 go_wp2_with fail
 refine OF.mono ?_
 rintro e w2 ⟨v,rfl,hO,hb⟩
 obtain ⟨Ac,cc,rfl,hP,hcc,hcm⟩:=hO.ops
 rw [hlc] at hO hcc
 rw [hlc]
 have S2:=Fr.add (Fr.add (Fr.up S1 hb) (ownSF (b0+2) (.slice Ac lc cc) C) (hO.lift (by omega))) (fopsF Ac C) hP
 clear OF hb hO hP k0 k1 S1 hw0 hw1
 go_upto_region 2 with fail
 obtain ⟨g3,w3,hg3,hw3,S3,y3,z3⟩:=Fr.box S2 #[.string s,.slice Ac lc cc] 24
 rw [hw3,hg3]
 obtain ⟨w4,hw4⟩:∃ z,w3.drew=z:=⟨_,rfl⟩
 have S4:=Fr.up S3 (show Below w3.heap.size w3 w4 by rw [← hw4];exact below_drewN w3 _ 1)
 clear S2 S3 y3 hw3
 have KI:=Lib.hid (fun w' h=>kindOf_any s Ac cc lc C HLC.out hlc2 w' h)
 have HA:=Lib.hid (fun w' h=>has_any s 8 Ac cc lc C HLC.out hlc2 w' h)
 have SD:Hid (smP s C=(decide (s=opDJ)||C.any (kdT 8))):=rfl
 obtain ⟨kk,hkk⟩:∃ z,kndP s C=z:=⟨_,rfl⟩
 obtain ⟨q8,hq8⟩:∃ z,C.any (kdT 8)=z:=⟨_,rfl⟩
 rw [hkk] at KI EF PB
 rw [hq8] at HA SD
 obtain ⟨l,hl⟩:∃ z,legB s I=z:=⟨_,rfl⟩
 rw [hl] at PB
 have HLB:=Lib.hid hl
 clear hkk hq8 hlc hli hl z0 z1 hg3 z3 hn
 go_cut [4] (fun p wx=>∃ (g:Nat),p=.pointer (some ⟨g,0,none⟩)∧Hid (Fr.St wx [efF g kk (smP s C) (.slice Ac lc cc),Fr.blk g3 (.cells #[.string s,.slice Ac lc cc] 24 (0,0)),fopsF Ac C,ownSF (b0+2) (.slice Ac lc cc) C,Fr.blk (b0+1) (.cells #[.int .i64 0,.bool false,.slice none 0 0] 58 (0,0)),Fr.blk b0 (.cells #[.string s,.slice A li cap] 24 (0,0)),maxF,fopsF A I,Fr.bel b0 w]))
 case first=>
  have FIN:Hid (∀ (wp wq:World) (g:Nat),Fr.St wp [Fr.blk g3 (.cells #[.string s,.slice Ac lc cc] 24 (0,0)),fopsF Ac C,ownSF (b0+2) (.slice Ac lc cc) C,Fr.blk (b0+1) (.cells #[.int .i64 0,.bool false,.slice none 0 0] 58 (0,0)),Fr.blk b0 (.cells #[.string s,.slice A li cap] 24 (0,0)),maxF,fopsF A I,Fr.bel b0 w]→Below wp.heap.size wp wq→g=wp.heap.size→wq.heap[g]?=some (.cells #[.int .i64 0,.bool false,.slice none 0 0] 58 (0,0))→Hid (Fr.St (wq.setRow g #[.int .i64 kk,.bool (smP s C),.slice Ac lc cc]) (efF g kk (smP s C) (.slice Ac lc cc) :: [Fr.blk g3 (.cells #[.string s,.slice Ac lc cc] 24 (0,0)),fopsF Ac C,ownSF (b0+2) (.slice Ac lc cc) C,Fr.blk (b0+1) (.cells #[.int .i64 0,.bool false,.slice none 0 0] 58 (0,0)),Fr.blk b0 (.cells #[.string s,.slice A li cap] 24 (0,0)),maxF,fopsF A I,Fr.bel b0 w]))):=fun wp wq g h1 h2 h3 h4=>
   ⟨setRow_heap wq g _ _ 58 (0,0) h4,Fr.St.up h1 (h2.trans (below_setRow (Below.refl _ wq) (by omega) _))⟩
  by_cases hd:s=opDJ
  ·have hd2:(s.toList == [68,74,78,90])=true:=by rw [hd,ByteArray.toList_eq];rfl
   have SM:Hid (smP s C=true):=by show _=_;rw [SD.out,decide_eq_true hd,Bool.true_or]
   clear hd
   refine Mixed.wp_region_mixedT (fun w'=>Fr.St w' [Fr.blk g3 (.cells #[.string s,.slice Ac lc cc] 24 (0,0)),fopsF Ac C,ownSF (b0+2) (.slice Ac lc cc) C,Fr.blk (b0+1) (.cells #[.int .i64 0,.bool false,.slice none 0 0] 58 (0,0)),Fr.blk b0 (.cells #[.string s,.slice A li cap] 24 (0,0)),maxF,fopsF A I,Fr.bel b0 w]) 13 (.pure 0 (.pure 2 (.pure 3 (.pure 4 (.pure 9 (.pure 10 (.two 1 (.pure 5 (.pure 6 (.two 7 (.pure 8 (.pure 11 (.one 12 .done))) 12 (.one 7 (.pure 8 (.pure 11 .done)))))) 12 (.one 1 (.pure 5 (.pure 6 (.one 7 (.pure 8 (.pure 11 .done))))))))))))) (by kernel_rfl) (by kernel_rfl) (by rw [hw4];exact S4.out) ?_
   rw [hw4]
   clear hw4
   refine Mixed.wpMixT_pure rfl (by kernel_rfl) (.agg #[.string s,.slice Ac lc cc]) (fun w h=>by obtain ⟨h1,-⟩:=h;have q0:=Lib.cell_of_heap h1 0;have q1:=Lib.cell_of_heap h1 1;clear h1;go_simp;try rfl) ?_
   refine Mixed.wpMixT_pure rfl (by kernel_rfl) (.pointer (some ⟨g3,0,none⟩)) (fun w h=>by clear h;go_simp;try rfl) ?_
   refine Mixed.wpMixT_pure rfl (by kernel_rfl) (.string s) (fun w h=>by obtain ⟨h1,-⟩:=h;have q0:=Lib.cell_of_heap h1 0;have q1:=Lib.cell_of_heap h1 1;clear h1;go_simp;try rfl) ?_
   refine Mixed.wpMixT_pure rfl (by kernel_rfl) (.bool true) (fun w h=>by clear h;go_simp;try rfl) ?_
   refine Mixed.wpMixT_pure rfl (by kernel_rfl) (.pointer (some ⟨g3,1,none⟩)) (fun w h=>by clear h;go_simp;try rfl) ?_
   refine Mixed.wpMixT_pure rfl (by kernel_rfl) (.slice Ac lc cc) (fun w h=>by obtain ⟨h1,-⟩:=h;have q0:=Lib.cell_of_heap h1 0;have q1:=Lib.cell_of_heap h1 1;clear h1;go_simp;try rfl) ?_
   refine Mixed.wpMixT_both rfl (by kernel_rfl) rfl (by kernel_rfl) ?_ ?_
   ·go_wp2_with fail
    refine (KI.out _ S4.out.2.1).mono ?_
    rintro e W5 ⟨rfl,hb⟩
    have SW5:=Fr.up S4 hb
    clear hb S4
    go_wp2
    refine ⟨SW5.out,?_⟩
    refine Mixed.wpMixT_pure rfl (by kernel_rfl) (.bool true) (fun w h=>by clear h;go_simp;try rfl) ?_
    refine wpMixT_skip rfl (by kernel_rfl) ?_
    refine wpMixT_bothS rfl (by kernel_rfl) rfl (by kernel_rfl) SW5.out ?_ ?_
    ·refine Mixed.wpMixT_pure rfl (by kernel_rfl) (.bool true) (fun w h=>by clear h;go_simp;try rfl) ?_
     refine Mixed.wpMixT_pure rfl (by kernel_rfl) (.agg #[.int .i64 kk,.bool (smP s C),.slice Ac lc cc]) (fun w h=>by clear h;rw [SM.out];go_simp;try rfl) ?_
     refine Mixed.wpMixT_loud rfl (by kernel_rfl) ?_
     obtain ⟨g,W6,hg,hW6,TW6,yy,zz⟩:=Fr.box SW5 #[.int .i64 0,.bool false,.slice none 0 0] 58
     have YW6:=Lib.hid yy
     have GW6:=Lib.hid TW6.out.1
     have GE:=Lib.hid hg
     clear yy zz TW6
     go_wp2
     refine ⟨(Fr.up SW5 YW6.out).out,?_⟩
     clear hg hW6
     simp only [Mixed.wpMixT,List.drop_succ_cons,List.drop_zero]
     refine wpList_store_row rfl 58 _ _ rfl g #[.int .i64 kk,.bool (smP s C),.slice Ac lc cc] rfl rfl _ _ GW6.out (by kernel_rfl) (by kernel_rfl) (by kernel_rfl) ?_
     have FF:=FIN.out _ _ g SW5.out YW6.out GE.out.symm GW6.out
     obtain ⟨WF,hWF⟩:∃ z,W6.setRow g #[.int .i64 kk,.bool (smP s C),.slice Ac lc cc]=z:=⟨_,rfl⟩
     rw [hWF] at FF
     rw [hWF]
     clear YW6 GW6 SW5 GE hWF
     go_wp2
     go_meet
     exact ⟨g,rfl,FF⟩
    ·obtain ⟨g,W7,hg,hW7,TW7,yy,zz⟩:=Fr.box SW5 #[.int .i64 0,.bool false,.slice none 0 0] 58
     have YW7:=Lib.hid yy
     have GW7:=Lib.hid TW7.out.1
     have GE:=Lib.hid hg
     clear yy zz TW7
     go_wp2
     refine ⟨(Fr.up SW5 YW7.out).out,?_⟩
     clear hg hW7
     refine wpMixT_skipL rfl (by kernel_rfl) (Fr.up SW5 YW7.out).out ?_
     refine Mixed.wpMixT_pure rfl (by kernel_rfl) (.bool true) (fun w h=>by clear h;go_simp;try rfl) ?_
     refine Mixed.wpMixT_pure rfl (by kernel_rfl) (.agg #[.int .i64 kk,.bool (smP s C),.slice Ac lc cc]) (fun w h=>by clear h;rw [SM.out];go_simp;try rfl) ?_
     simp only [Mixed.wpMixT,List.drop_succ_cons,List.drop_zero]
     refine wpList_store_row rfl 58 _ _ rfl g #[.int .i64 kk,.bool (smP s C),.slice Ac lc cc] rfl rfl _ _ GW7.out (by kernel_rfl) (by kernel_rfl) (by kernel_rfl) ?_
     have FF:=FIN.out _ _ g SW5.out YW7.out GE.out.symm GW7.out
     obtain ⟨WF,hWF⟩:∃ z,W7.setRow g #[.int .i64 kk,.bool (smP s C),.slice Ac lc cc]=z:=⟨_,rfl⟩
     rw [hWF] at FF
     rw [hWF]
     clear YW7 GW7 SW5 GE hWF
     go_wp2
     go_meet
     exact ⟨g,rfl,FF⟩
   ·obtain ⟨g,W8,hg,hW8,TW8,yy,zz⟩:=Fr.box S4 #[.int .i64 0,.bool false,.slice none 0 0] 58
    have YW8:=Lib.hid yy
    have GW8:=Lib.hid TW8.out.1
    have GE:=Lib.hid hg
    clear yy zz TW8
    go_wp2
    refine ⟨(Fr.up S4 YW8.out).out,?_⟩
    clear hg hW8
    refine Mixed.wpMixT_loud rfl (by kernel_rfl) ?_
    go_wp2_with fail
    refine (KI.out _ (Fr.up S4 YW8.out).out.2.1).mono ?_
    rintro e W9 ⟨rfl,hb⟩
    have YW9:=Lib.hid (YW8.out.trans (hb.mono YW8.out.size))
    have GW9:=Lib.hid ((hb.block _ (Array.getElem?_eq_some_iff.1 GW8.out).1).trans GW8.out)
    clear hb YW8 GW8
    go_wp2
    refine ⟨(Fr.up S4 YW9.out).out,?_⟩
    refine Mixed.wpMixT_pure rfl (by kernel_rfl) (.bool true) (fun w h=>by clear h;go_simp;try rfl) ?_
    refine wpMixT_skip rfl (by kernel_rfl) ?_
    refine wpMixT_skipL rfl (by kernel_rfl) (Fr.up S4 YW9.out).out ?_
    refine Mixed.wpMixT_pure rfl (by kernel_rfl) (.bool true) (fun w h=>by clear h;go_simp;try rfl) ?_
    refine Mixed.wpMixT_pure rfl (by kernel_rfl) (.agg #[.int .i64 kk,.bool (smP s C),.slice Ac lc cc]) (fun w h=>by clear h;rw [SM.out];go_simp;try rfl) ?_
    simp only [Mixed.wpMixT,List.drop_succ_cons,List.drop_zero]
    refine wpList_store_row rfl 58 _ _ rfl g #[.int .i64 kk,.bool (smP s C),.slice Ac lc cc] rfl rfl _ _ GW9.out (by kernel_rfl) (by kernel_rfl) (by kernel_rfl) ?_
    have FF:=FIN.out _ _ g S4.out YW9.out GE.out.symm GW9.out
    obtain ⟨WF,hWF⟩:∃ z,W9.setRow g #[.int .i64 kk,.bool (smP s C),.slice Ac lc cc]=z:=⟨_,rfl⟩
    rw [hWF] at FF
    rw [hWF]
    clear YW9 GW9 S4 GE hWF
    go_wp2
    go_meet
    exact ⟨g,rfl,FF⟩
  ·have SM:Hid (smP s C=q8):=by show _=_;rw [SD.out,decide_eq_false hd,Bool.false_or]
   have hd2:(s.toList == [68,74,78,90])=false:=str_ne hd
   clear hd
   refine Mixed.wp_region_mixedT (fun w'=>Fr.St w' [Fr.blk g3 (.cells #[.string s,.slice Ac lc cc] 24 (0,0)),fopsF Ac C,ownSF (b0+2) (.slice Ac lc cc) C,Fr.blk (b0+1) (.cells #[.int .i64 0,.bool false,.slice none 0 0] 58 (0,0)),Fr.blk b0 (.cells #[.string s,.slice A li cap] 24 (0,0)),maxF,fopsF A I,Fr.bel b0 w]) 13 (.pure 0 (.pure 2 (.pure 3 (.pure 4 (.pure 9 (.pure 10 (.two 1 (.pure 5 (.pure 6 (.two 7 (.pure 8 (.pure 11 (.one 12 .done))) 12 (.one 7 (.pure 8 (.pure 11 .done)))))) 12 (.one 1 (.pure 5 (.pure 6 (.one 7 (.pure 8 (.pure 11 .done))))))))))))) (by kernel_rfl) (by kernel_rfl) (by rw [hw4];exact S4.out) ?_
   rw [hw4]
   clear hw4
   refine Mixed.wpMixT_pure rfl (by kernel_rfl) (.agg #[.string s,.slice Ac lc cc]) (fun w h=>by obtain ⟨h1,-⟩:=h;have q0:=Lib.cell_of_heap h1 0;have q1:=Lib.cell_of_heap h1 1;clear h1;go_simp;try rfl) ?_
   refine Mixed.wpMixT_pure rfl (by kernel_rfl) (.pointer (some ⟨g3,0,none⟩)) (fun w h=>by clear h;go_simp;try rfl) ?_
   refine Mixed.wpMixT_pure rfl (by kernel_rfl) (.string s) (fun w h=>by obtain ⟨h1,-⟩:=h;have q0:=Lib.cell_of_heap h1 0;have q1:=Lib.cell_of_heap h1 1;clear h1;go_simp;try rfl) ?_
   refine Mixed.wpMixT_pure rfl (by kernel_rfl) (.bool false) (fun w h=>by clear h;go_simp;try rfl) ?_
   refine Mixed.wpMixT_pure rfl (by kernel_rfl) (.pointer (some ⟨g3,1,none⟩)) (fun w h=>by clear h;go_simp;try rfl) ?_
   refine Mixed.wpMixT_pure rfl (by kernel_rfl) (.slice Ac lc cc) (fun w h=>by obtain ⟨h1,-⟩:=h;have q0:=Lib.cell_of_heap h1 0;have q1:=Lib.cell_of_heap h1 1;clear h1;go_simp;try rfl) ?_
   refine Mixed.wpMixT_both rfl (by kernel_rfl) rfl (by kernel_rfl) ?_ ?_
   ·go_wp2_with fail
    refine (KI.out _ S4.out.2.1).mono ?_
    rintro e W10 ⟨rfl,hb⟩
    have SW10:=Fr.up S4 hb
    clear hb S4
    go_wp2
    refine ⟨SW10.out,?_⟩
    refine Mixed.wpMixT_pure rfl (by kernel_rfl) (.bool false) (fun w h=>by clear h;go_simp;try rfl) ?_
    refine Mixed.wpMixT_pure rfl (by kernel_rfl) (.agg #[.string s,.slice Ac lc cc]) (fun w h=>by obtain ⟨h1,-⟩:=h;have q0:=Lib.cell_of_heap h1 0;have q1:=Lib.cell_of_heap h1 1;clear h1;go_simp;try rfl) ?_
    refine Mixed.wpMixT_both rfl (by kernel_rfl) rfl (by kernel_rfl) ?_ ?_
    ·go_wp2_with fail
     refine (HA.out _ SW10.out.2.1).mono ?_
     rintro e W11 ⟨rfl,hb⟩
     have SW11:=Fr.up SW10 hb
     clear hb SW10
     go_wp2
     refine ⟨SW11.out,?_⟩
     refine Mixed.wpMixT_pure rfl (by kernel_rfl) (.bool q8) (fun w h=>by clear h;go_simp;try rfl) ?_
     refine Mixed.wpMixT_pure rfl (by kernel_rfl) (.agg #[.int .i64 kk,.bool (smP s C),.slice Ac lc cc]) (fun w h=>by clear h;rw [SM.out];go_simp;try rfl) ?_
     refine Mixed.wpMixT_loud rfl (by kernel_rfl) ?_
     obtain ⟨g,W12,hg,hW12,TW12,yy,zz⟩:=Fr.box SW11 #[.int .i64 0,.bool false,.slice none 0 0] 58
     have YW12:=Lib.hid yy
     have GW12:=Lib.hid TW12.out.1
     have GE:=Lib.hid hg
     clear yy zz TW12
     go_wp2
     refine ⟨(Fr.up SW11 YW12.out).out,?_⟩
     clear hg hW12
     simp only [Mixed.wpMixT,List.drop_succ_cons,List.drop_zero]
     refine wpList_store_row rfl 58 _ _ rfl g #[.int .i64 kk,.bool (smP s C),.slice Ac lc cc] rfl rfl _ _ GW12.out (by kernel_rfl) (by kernel_rfl) (by kernel_rfl) ?_
     have FF:=FIN.out _ _ g SW11.out YW12.out GE.out.symm GW12.out
     obtain ⟨WF,hWF⟩:∃ z,W12.setRow g #[.int .i64 kk,.bool (smP s C),.slice Ac lc cc]=z:=⟨_,rfl⟩
     rw [hWF] at FF
     rw [hWF]
     clear YW12 GW12 SW11 GE hWF
     go_wp2
     go_meet
     exact ⟨g,rfl,FF⟩
    ·obtain ⟨g,W13,hg,hW13,TW13,yy,zz⟩:=Fr.box SW10 #[.int .i64 0,.bool false,.slice none 0 0] 58
     have YW13:=Lib.hid yy
     have GW13:=Lib.hid TW13.out.1
     have GE:=Lib.hid hg
     clear yy zz TW13
     go_wp2
     refine ⟨(Fr.up SW10 YW13.out).out,?_⟩
     clear hg hW13
     refine Mixed.wpMixT_loud rfl (by kernel_rfl) ?_
     go_wp2_with fail
     refine (HA.out _ (Fr.up SW10 YW13.out).out.2.1).mono ?_
     rintro e W14 ⟨rfl,hb⟩
     have YW14:=Lib.hid (YW13.out.trans (hb.mono YW13.out.size))
     have GW14:=Lib.hid ((hb.block _ (Array.getElem?_eq_some_iff.1 GW13.out).1).trans GW13.out)
     clear hb YW13 GW13
     go_wp2
     refine ⟨(Fr.up SW10 YW14.out).out,?_⟩
     refine Mixed.wpMixT_pure rfl (by kernel_rfl) (.bool q8) (fun w h=>by clear h;go_simp;try rfl) ?_
     refine Mixed.wpMixT_pure rfl (by kernel_rfl) (.agg #[.int .i64 kk,.bool (smP s C),.slice Ac lc cc]) (fun w h=>by clear h;rw [SM.out];go_simp;try rfl) ?_
     simp only [Mixed.wpMixT,List.drop_succ_cons,List.drop_zero]
     refine wpList_store_row rfl 58 _ _ rfl g #[.int .i64 kk,.bool (smP s C),.slice Ac lc cc] rfl rfl _ _ GW14.out (by kernel_rfl) (by kernel_rfl) (by kernel_rfl) ?_
     have FF:=FIN.out _ _ g SW10.out YW14.out GE.out.symm GW14.out
     obtain ⟨WF,hWF⟩:∃ z,W14.setRow g #[.int .i64 kk,.bool (smP s C),.slice Ac lc cc]=z:=⟨_,rfl⟩
     rw [hWF] at FF
     rw [hWF]
     clear YW14 GW14 SW10 GE hWF
     go_wp2
     go_meet
     exact ⟨g,rfl,FF⟩
   ·obtain ⟨g,W15,hg,hW15,TW15,yy,zz⟩:=Fr.box S4 #[.int .i64 0,.bool false,.slice none 0 0] 58
    have YW15:=Lib.hid yy
    have GW15:=Lib.hid TW15.out.1
    have GE:=Lib.hid hg
    clear yy zz TW15
    go_wp2
    refine ⟨(Fr.up S4 YW15.out).out,?_⟩
    clear hg hW15
    refine Mixed.wpMixT_loud rfl (by kernel_rfl) ?_
    go_wp2_with fail
    refine (KI.out _ (Fr.up S4 YW15.out).out.2.1).mono ?_
    rintro e W16 ⟨rfl,hb⟩
    have YW16:=Lib.hid (YW15.out.trans (hb.mono YW15.out.size))
    have GW16:=Lib.hid ((hb.block _ (Array.getElem?_eq_some_iff.1 GW15.out).1).trans GW15.out)
    clear hb YW15 GW15
    go_wp2
    refine ⟨(Fr.up S4 YW16.out).out,?_⟩
    refine Mixed.wpMixT_pure rfl (by kernel_rfl) (.bool false) (fun w h=>by clear h;go_simp;try rfl) ?_
    refine Mixed.wpMixT_pure rfl (by kernel_rfl) (.agg #[.string s,.slice Ac lc cc]) (fun w h=>by obtain ⟨h1,-⟩:=h;have q0:=Lib.cell_of_heap h1 0;have q1:=Lib.cell_of_heap h1 1;clear h1;go_simp;try rfl) ?_
    refine Mixed.wpMixT_loud rfl (by kernel_rfl) ?_
    go_wp2_with fail
    refine (HA.out _ (Fr.up S4 YW16.out).out.2.1).mono ?_
    rintro e W17 ⟨rfl,hb⟩
    have YW17:=Lib.hid (YW16.out.trans (hb.mono YW16.out.size))
    have GW17:=Lib.hid ((hb.block _ (Array.getElem?_eq_some_iff.1 GW16.out).1).trans GW16.out)
    clear hb YW16 GW16
    go_wp2
    refine ⟨(Fr.up S4 YW17.out).out,?_⟩
    refine Mixed.wpMixT_pure rfl (by kernel_rfl) (.bool q8) (fun w h=>by clear h;go_simp;try rfl) ?_
    refine Mixed.wpMixT_pure rfl (by kernel_rfl) (.agg #[.int .i64 kk,.bool (smP s C),.slice Ac lc cc]) (fun w h=>by clear h;rw [SM.out];go_simp;try rfl) ?_
    simp only [Mixed.wpMixT,List.drop_succ_cons,List.drop_zero]
    refine wpList_store_row rfl 58 _ _ rfl g #[.int .i64 kk,.bool (smP s C),.slice Ac lc cc] rfl rfl _ _ GW17.out (by kernel_rfl) (by kernel_rfl) (by kernel_rfl) ?_
    have FF:=FIN.out _ _ g S4.out YW17.out GE.out.symm GW17.out
    obtain ⟨WF,hWF⟩:∃ z,W17.setRow g #[.int .i64 kk,.bool (smP s C),.slice Ac lc cc]=z:=⟨_,rfl⟩
    rw [hWF] at FF
    rw [hWF]
    clear YW17 GW17 S4 GE hWF
    go_wp2
    go_meet
    exact ⟨g,rfl,FF⟩
 case rest=>
  obtain ⟨g,rfl,S5⟩:=hcut
  have TSB:Hid (∀ w',Below b0 w w'→∀ v L,OwnS w' (b0+2) v L→OwnS w' w.heap.size v L):=fun w' _ v L h=>h.lift (by rw [HN.out];omega)
  obtain ⟨e0,e1,e2,e3⟩:=EfAt.cells S5.out.1
  obtain ⟨f0,f1⟩:=Fr.cells2 S5.out.2.2.2.2.2.1
  have Z:EfAt wc (b0+1) 0 false (.slice none 0 0):=S5.out.2.2.2.2.1
  by_cases hk:kk=0
  ·subst hk
   have P:=Lib.hid (EP.out (by rw [PB.out];rfl))
   obtain ⟨w6,hw6,i1,i2,i3,i4⟩:=Z.put 0 false (.slice none 0 0)
   obtain ⟨z0,z1,z2,z3⟩:=Z.cells
   obtain ⟨j0,j1,j2,j3⟩:=i1.cells
   have R:Hid (RetEff w (kdF s I) (smF s I) (fun a=>tgF a s I) (.returned (.agg #[.int .i64 0,.bool false,.slice none 0 0])) w6):=⟨0,false,.slice none 0 0,[],rfl,.inl ⟨rfl,rfl⟩,by rw [HN.out];exact S5.out.2.2.2.2.2.2.2.2.1.1.trans (i2.mono (by omega)),P.out⟩
   clear S5 Z i1 i2 i3 i4
   go_wp2
   refine bodyPost_ret (v:=.agg #[.int .i64 0,.bool false,.slice none 0 0]) ?_ rfl R.out
   simp [results,Tryz.results28,go_sem,j0,j1,j2]
  ·have hk2:(kk == 0)=false:=by simpa using hk
   have LG:=Lib.hid (legal_any (some ⟨wc.heap.size,0,none⟩) 1 1 [⟨s,A,cap,I⟩] rfl (by omega) (fun r hr=>by obtain rfl:=List.mem_singleton.1 hr;exact ⟨hs,by show I.length≤900;rw [HLI.out];exact hLi⟩) (wc.alloc (.cells #[.string s,.slice A li cap] 24)) (S5.out.2.2.2.2.2.2.1.below ((Below.refl _ _).alloc (Nat.le_refl _) _)) (fins_one wc s A li cap I HLI.out S5.out.2.2.2.2.2.2.2.1))
   have AE:Hid (([⟨s,A,cap,I⟩]:List Ie).all (fun r=>legB r.s r.L)=l):=by
    show (legB s I&&true)=l
    rw [Bool.and_true]
    exact HLB.out
   rw [AE.out] at LG
   have SA:=Fr.up S5 ((Below.refl _ wc).alloc (Nat.le_refl _) (.cells #[.string s,.slice A li cap] 24))
   clear Z e1 e2 e3 S5
   go_wp2_with fail
   refine LG.out.mono ?_
   rintro e w6 ⟨rfl,hb⟩
   have S6:=Fr.up SA hb
   clear hb SA LG f0 f1 e0
   obtain ⟨e0,e1,e2,e3⟩:=EfAt.cells S6.out.1
   have Z:EfAt w6 (b0+1) 0 false (.slice none 0 0):=S6.out.2.2.2.2.1
   obtain ⟨z0,z1,z2,z3⟩:=Z.cells
   cases l
   ·have P:=Lib.hid (EP.out (by rw [PB.out,decide_eq_false hk];rfl))
    obtain ⟨w7,hw7,i1,i2,i3,i4⟩:=Z.put 0 false (.slice none 0 0)
    obtain ⟨j0,j1,j2,j3⟩:=i1.cells
    have R:Hid (RetEff w (kdF s I) (smF s I) (fun a=>tgF a s I) (.returned (.agg #[.int .i64 0,.bool false,.slice none 0 0])) w7):=⟨0,false,.slice none 0 0,[],rfl,.inl ⟨rfl,rfl⟩,by rw [HN.out];exact S6.out.2.2.2.2.2.2.2.2.1.1.trans (i2.mono (by omega)),P.out⟩
    clear S6 Z i1 i2 i3 i4
    go_wp2
    refine bodyPost_ret (v:=.agg #[.int .i64 0,.bool false,.slice none 0 0]) ?_ rfl R.out
    simp [results,Tryz.results28,go_sem,j0,j1,j2]
   ·have P:=Lib.hid (EF.out (by rw [PB.out,decide_eq_false hk];rfl))
    obtain ⟨w7,hw7,i1,i2,i3,i4⟩:=Z.put kk (smP s C) (.slice Ac lc cc)
    obtain ⟨j0,j1,j2,j3⟩:=i1.cells
    obtain ⟨qq,hqq⟩:∃ z,smP s C=z:=⟨_,rfl⟩
    have R:Hid (RetEff w (kdF s I) (smF s I) (fun a=>tgF a s I) (.returned (.agg #[.int .i64 kk,.bool (smP s C),.slice Ac lc cc])) w7):=⟨kk,smP s C,.slice Ac lc cc,C,rfl,(S6.out.2.2.2.1.above i4 (by omega)).lift (by rw [HN.out];omega),by rw [HN.out];exact S6.out.2.2.2.2.2.2.2.2.1.1.trans (i2.mono (by omega)),P.out⟩
    clear S6 Z i1 i2 i3 i4
    rw [hqq] at hw7 R j1 e1
    clear hqq
    go_wp2
    refine bodyPost_ret (v:=.agg #[.int .i64 kk,.bool qq,.slice Ac lc cc]) ?_ rfl R.out
    simp [results,Tryz.results28,go_sem,j0,j1,j2]
end Go.Proofs.YtajlleeonddinaaGreatDoor
namespace Go.Proofs.YtajlleeonddinaaGreatDoor
open Go.RowKit Go.Shelf
attribute [local go_sem] Oper.semAt_some
def pasB (k:Int) (q:Bool):Bool:=if k=1∨k=3∨k=4 then q else true
theorem passes_any (k:Int) (q:Bool) (v:Value) (w:World) :
  Calls Tryz.prog 50 #[.agg #[.int .i64 k,.bool q,v]] w fun e w'=>e=.returned (.bool (pasB k q))∧Below w.heap.size w w':=by
 obtain ⟨b,w1,hb,hw1,S1,y1,z1⟩:=Fr.box (Fr.nil w) #[.int .i64 k,.bool q,v] 58
 have B:=Lib.hid y1
 obtain ⟨k0,k1,k2⟩:=Fr.cells3 S1.out.1
 clear y1 S1
 by_cases h1:k=1
 ·subst h1
  go_enter Tryz.func50,Tryz.ntmps50
  go_wp2
  go_ret
  exact ⟨rfl,B.out⟩
 by_cases h3:k=3
 ·subst h3
  clear h1
  go_enter Tryz.func50,Tryz.ntmps50
  go_wp2
  go_ret
  exact ⟨rfl,B.out⟩
 by_cases h4:k=4
 ·subst h4
  clear h1 h3
  go_enter Tryz.func50,Tryz.ntmps50
  go_wp2
  go_ret
  exact ⟨rfl,B.out⟩
 ·have K:Hid (pasB k q=true):=if_neg (by omega)
  have e1:(k == 1)=false:=by simpa using h1
  have e3:(k == 3)=false:=by simpa using h3
  have e4:(k == 4)=false:=by simpa using h4
  clear h1 h3 h4
  go_enter Tryz.func50,Tryz.ntmps50
  go_wp2
  go_ret
  exact ⟨by rw [K.out];rfl,B.out⟩
def RetTgt (w:World) (T:Int) (e:Ending) (w':World):Prop:=e=.returned (.tuple #[.int .i64 (max T 0),.bool (decide (0≤T))])∧Below w.heap.size w w'
theorem tgt_none {w w':World} {T:Int} (h:T=-1) (hb:Below w.heap.size w w'):RetTgt w T (.returned (.tuple #[.int .i64 0,.bool false])) w':=by
 subst h
 exact ⟨rfl,hb⟩
theorem tgt_some {w w':World} {T t:Int} (h:T=t) (h0:0≤t) (hb:Below w.heap.size w w'):RetTgt w T (.returned (.tuple #[.int .i64 t,.bool true])) w':=by
 subst h
 exact ⟨by rw [decide_eq_true h0,Int.max_eq_left h0],hb⟩
theorem find_take {p:Tr→Bool} {C:List Tr} {j:Nat} (hj:j<C.length) (h:(C.take j).find? p=none):(p C[j]=true→C.find? p=some C[j])∧(p C[j]=false→(C.take (j+1)).find? p=none):=by
 constructor
 ·intro hp
  have e:C=C.take j++C[j] :: C.drop (j+1):=by rw [List.getElem_cons_drop,List.take_append_drop]
  have h2:C.find? p=((C.take j)++C[j] :: C.drop (j+1)).find? p:=by rw [← e]
  rw [h2,List.find?_append,h,List.find?_cons,hp]
  rfl
 ·intro hp
  rw [List.take_succ_eq_append_getElem hj,List.find?_append,h,List.find?_cons,hp]
  rfl
theorem target_any (k:Int) (q:Bool) (C:List Tr) (lc:Nat) (hlc:C.length=lc) (hl:lc≤1000) (himm:∀ t∈C,t.1=6→0≤t.2.2∧t.2.2≤65535) (hrel:∀ t∈C,t.1=10→-128≤t.2.2∧t.2.2≤127) (Ac:Option Addr) (cc:Nat) (a:Int) (w:World) (H:OpsP w Ac C) :
  Calls Tryz.prog 29 #[.agg #[.int .i64 k,.bool q,.slice Ac lc cc],.int .i64 a] w (RetTgt w (tgP k a C)):=by
 obtain ⟨b,w1,hb,hw1,S1,y1,z1⟩:=Fr.box (Fr.nil w) #[.int .i64 k,.bool q,.slice Ac lc cc] 58
 have B:=Lib.hid y1
 have SB:=Lib.hid S1.out.1
 obtain ⟨k0,k1,k2⟩:=Fr.cells3 S1.out.1
 have AD:=Lib.hid (isAddr_any a w1)
 by_cases hk:k=1∨k=2
 ·by_cases ha:adB a=true
  ·have ha2:=adB_iff.1 ha
   have HT:Hid (tgP k a C=tgL a C):=if_pos ⟨hk,ha2⟩
   rw [ha] at AD
   have X:=Lib.hid H
   have HN:=Lib.hid hlc
   have HI:=Lib.hid himm
   have HR:=Lib.hid hrel
   have RG:=Lib.hid ha2
   clear H hlc himm hrel ha ha2 y1 S1
   rcases hk with rfl | rfl
   all_goals
    go_enter Tryz.func29,Tryz.ntmps29
    go_wp2_with fail
    refine AD.out.mono ?_
    rintro e w2 ⟨rfl,hb2⟩
    have B2:Hid (Below w.heap.size w w2):=B.out.trans (hb2.mono B.out.size)
    obtain ⟨k0',k1',k2'⟩:=Fr.cells3 ((hb2.block _ (Array.getElem?_eq_some_iff.1 SB.out).1).trans SB.out)
    clear AD hb2 k0 k1 k2 B SB
    go_wp2
    go_loopw [24] (fun i wr=>∃ j:Nat,j≤lc∧i=.int .i64 j∧Hid ((C.take j).find? (fun t=>kdT 6 t||kdT 10 t)=none)∧Hid (Below w.heap.size w wr)) (fun i _=>lc - (intOf i).toNat)
    case atStart=>exact ⟨0,Nat.zero_le _,rfl,rfl,B2.out⟩
    case round=>
     obtain ⟨j,hj,rfl,NO,B3⟩:=hrel
     by_cases hlt:j<lc
     ·have hj1:j<C.length:=by have:=HN.out;omega
      obtain ⟨b1,o1,rfl,p0,p1,p2,p3⟩:=(X.out.below B3.out).at_ hj1
      have FT:=Lib.hid (find_take hj1 NO.out)
      have M6:=Lib.hid (HI.out _ (List.getElem_mem hj1))
      have M10:=Lib.hid (HR.out _ (List.getElem_mem hj1))
      obtain ⟨t,ht⟩:∃ x,C[j]=x:=⟨_,rfl⟩
      rw [ht] at p1 p2 p3 FT M6 M10
      obtain ⟨g,w4,hg,hw4,S4,y4,z4⟩:=Fr.box (Fr.nil wr) #[.int .i64 t.1,.int .i64 t.2.1,.int .i64 t.2.2] 55
      have B4:Hid (Below w.heap.size w w4):=B3.out.trans (y4.mono B3.out.size)
      obtain ⟨q0,q1,q2⟩:=Fr.cells3 S4.out.1
      clear y4 S4 ht NO
      by_cases h6:t.1=6
      ·have F:=Lib.hid (FT.out.1 (by unfold kdT;simp [h6]))
       have e6:(t.1 == 6)=true:=by simpa using h6
       have FIN:Hid (RetTgt w (tgP _ a C) (.returned (.tuple #[.int .i64 t.2.2,.bool true])) w4):=tgt_some (by rw [HT.out];unfold tgL;rw [F.out];exact if_pos h6) (M6.out h6).1 B4.out
       clear F h6 FT M6 M10
       go_wp2
       go_ret2
       exact FIN.out
      ·have e6:(t.1 == 6)=false:=by simpa using h6
       by_cases h10:t.1=10
       ·have F:=Lib.hid (FT.out.1 (by unfold kdT;simp [h10]))
        have e10:(t.1 == 10)=true:=by simpa using h10
        have R:=M10.out h10
        have RA:=RG.out
        have FIN:Hid (RetTgt w (tgP _ a C) (.returned (.tuple #[.int .i64 ((a+2+t.2.2) % 65536),.bool true])) w4):=tgt_some (by rw [HT.out];unfold tgL;rw [F.out];exact if_neg h6) (by omega) B4.out
        have cv:IntKind.u16.wrap (a+2+t.2.2)=(a+2+t.2.2) % 65536:=by
         rw [IntKind.wrap_u16]
        have c1:IntKind.i64.wrap (a+2)=a+2:=by rw [IntKind.wrap_i64];omega
        have c2:IntKind.i64.wrap (a+2+t.2.2)=a+2+t.2.2:=by rw [IntKind.wrap_i64];omega
        have c3:IntKind.i64.wrap ((a+2+t.2.2) % 65536)=(a+2+t.2.2) % 65536:=by rw [IntKind.wrap_i64];omega
        clear F h6 h10 FT M6 M10 R RA
        go_wp2
        go_ret2
        exact FIN.out
       ·have e10:(t.1 == 10)=false:=by simpa using h10
        have NO2:=Lib.hid (FT.out.2 (by unfold kdT;simp [h6,h10]))
        clear h6 h10 FT M6 M10
        go_wp2
        go_roundw
        case rel=>exact ⟨j+1,by omega,by go_num,NO2.out,B4.out⟩
        case measure=>simp [intOf];omega
     ·have e:C.take j=C:=List.take_of_length_le (by have:=HN.out;omega)
      have FIN:Hid (RetTgt w (tgP _ a C) (.returned (.tuple #[.int .i64 0,.bool false])) wr):=tgt_none (by rw [HT.out];unfold tgL;rw [← e,NO.out]) B3.out
      clear e NO
      go_wp2
      go_ret2
      exact FIN.out
  ·have ha1:adB a=false:=by simpa using ha
   have HT:Hid (tgP k a C=-1):=if_neg fun h=>ha (adB_iff.2 h.2)
   rw [ha1] at AD
   clear H hlc himm hrel ha ha1 y1 S1 SB
   rcases hk with rfl | rfl
   all_goals
    go_enter Tryz.func29,Tryz.ntmps29
    go_wp2_with fail
    refine AD.out.mono ?_
    rintro e w2 ⟨rfl,hb2⟩
    have B2:Hid (Below w.heap.size w w2):=B.out.trans (hb2.mono B.out.size)
    clear AD hb2 k0 k1 k2 B
    go_wp2
    go_ret2
    exact tgt_none HT.out B2.out
 ·have HT:Hid (tgP k a C=-1):=if_neg fun h=>hk h.1
  have e1:(k != 1)=true:=bne_iff_ne.2 (by omega)
  have e2:(k != 2)=true:=bne_iff_ne.2 (by omega)
  have e1':(k == 1)=false:=beq_eq_false_iff_ne.2 (by omega)
  have e2':(k == 2)=false:=beq_eq_false_iff_ne.2 (by omega)
  clear H hlc himm hrel hk y1 S1 SB AD
  go_enter Tryz.func29,Tryz.ntmps29
  go_wp2
  go_ret2
  exact tgt_none HT.out B.out
theorem field_eff0 (k:Int) (q:Bool) (A:Option Addr) (l c:Nat) (w:World):(Instr.field 58 (.agg #[.int .i64 k,.bool q,.slice A l c]) 0).run Tryz.prog w=.ok (.int .i64 k) w:=by kernel_rfl
theorem field_eff1 (k:Int) (q:Bool) (A:Option Addr) (l c:Nat) (w:World):(Instr.field 58 (.agg #[.int .i64 k,.bool q,.slice A l c]) 1).run Tryz.prog w=.ok (.bool q) w:=by kernel_rfl
theorem fkind_any (s:ByteArray) (hs:s.size≤1000) (A:Option Addr) (cap li:Nat) (I:List Tr) (hli:I.length=li) (hLi:li≤900) (w:World) (hM:MaxAt w) (H:OpsP w A I) :
  Calls Tryz.prog 10 #[.agg #[.string s,.slice A li cap]] w fun e w'=>e=.returned (.int .i64 (kdF s I))∧Below w.heap.size w w':=by
 obtain ⟨b,w1,hb,hw1,S1,y1,z1⟩:=Fr.box (Fr.nil w) #[.string s,.slice A li cap] 24
 have B:=Lib.hid y1
 obtain ⟨k0,k1⟩:=Fr.cells2 S1.out.1
 have EF:=Lib.hid (effectOf_any s hs A cap li I hli hLi w1 (hM.below y1) (H.below y1))
 clear H hM y1 S1 hli
 go_enter Tryz.func10,Tryz.ntmps10
 go_wp2_with fail
 refine EF.out.mono ?_
 rintro e w2 ⟨k,q,v,C,rfl,hO,hb2,hE⟩
 have B2:Hid (Below w.heap.size w w2):=B.out.trans (hb2.mono B.out.size)
 have K:=Lib.hid hE.kd
 obtain ⟨Ac,cc,rfl,-,-,-⟩:=hO.ops
 have FE:=field_eff0 k q Ac C.length cc
 clear EF hb2 hE hO
 go_wp2
 go_ret
 exact ⟨by rw [← K.out];rfl,B2.out⟩
theorem fsome_any (s:ByteArray) (hs:s.size≤1000) (A:Option Addr) (cap li:Nat) (I:List Tr) (hli:I.length=li) (hLi:li≤900) (w:World) (hM:MaxAt w) (H:OpsP w A I) :
  Calls Tryz.prog 12 #[.agg #[.string s,.slice A li cap]] w fun e w'=>e=.returned (.bool (smF s I))∧Below w.heap.size w w':=by
 obtain ⟨b,w1,hb,hw1,S1,y1,z1⟩:=Fr.box (Fr.nil w) #[.string s,.slice A li cap] 24
 have B:=Lib.hid y1
 obtain ⟨k0,k1⟩:=Fr.cells2 S1.out.1
 have EF:=Lib.hid (effectOf_any s hs A cap li I hli hLi w1 (hM.below y1) (H.below y1))
 clear H hM y1 S1 hli
 go_enter Tryz.func12,Tryz.ntmps12
 go_wp2_with fail
 refine EF.out.mono ?_
 rintro e w2 ⟨k,q,v,C,rfl,hO,hb2,hE⟩
 have B2:Hid (Below w.heap.size w w2):=B.out.trans (hb2.mono B.out.size)
 have K:=Lib.hid hE.sm
 obtain ⟨Ac,cc,rfl,-,-,-⟩:=hO.ops
 have FE:=field_eff1 k q Ac C.length cc
 clear EF hb2 hE hO
 go_wp2
 go_ret
 exact ⟨by rw [← K.out];rfl,B2.out⟩
noncomputable def kdI (kind:Int) (s:ByteArray) (I:List Tr):Int:=if kind=1 then kdF s I else 0
noncomputable def smI (kind:Int) (s:ByteArray) (I:List Tr):Bool:=if kind=1 then smF s I else false
noncomputable def tgI (kind:Int) (s:ByteArray) (I:List Tr) (a:Int):Int:=if kind=1 then tgF a s I else -1
theorem effItem_any (kind:Int) (va:Value) (al:Bool) (s:ByteArray) (hs:s.size≤1000) (A:Option Addr) (cap li:Nat) (I:List Tr) (hli:I.length=li) (hLi:li≤900) (w:World) (hM:MaxAt w) (H:OpsP w A I) :
  Calls Tryz.prog 45 #[.agg #[.int .i64 kind,va,.string s,.slice A li cap,.bool al]] w (RetEff w (kdI kind s I) (smI kind s I) (tgI kind s I)):=by
 obtain ⟨n,hn⟩:∃ z,w.heap.size=z:=⟨_,rfl⟩
 have HN:=Lib.hid hn
 obtain ⟨b0,w0,hb0,hw0,S0,y0,z0⟩:=Fr.box (Fr.add (Fr.add (Fr.start w n hn) (fopsF A I) H) maxF hM) #[.int .i64 kind,va,.string s,.slice A li cap,.bool al] 40
 obtain ⟨b1,w1,hb1,hw1,S1,y1,z1⟩:=Fr.box S0 #[.int .i64 0,.bool false,.slice none 0 0] 58
 obtain rfl:b0=n:=by omega
 obtain rfl:b1=b0+1:=by omega
 have Z:EfAt w1 (b0+1) 0 false (.slice none 0 0):=S1.out.1
 have IT:ItAt w1 b0 kind va s (.slice A li cap) al:=S1.out.2.1
 obtain ⟨k0,k1,k2,k3,k4,k5⟩:=IT.cells
 by_cases hk:kind=1
 ·subst hk
  have EF:=Lib.hid (effectOf_any s hs A cap li I hli hLi w1 S1.out.2.2.1 S1.out.2.2.2.1)
  clear H hM y0 y1 S0 Z IT hli
  go_enter Tryz.func45,Tryz.ntmps45
  go_wp2_with fail
  refine EF.out.mono ?_
  rintro e w2 ⟨k,q,v,C,rfl,hO,hb2,hE⟩
  obtain ⟨Ac,cc,rfl,-,-,-⟩:=hO.ops
  have S2:=Fr.up S1 hb2
  have Z:EfAt w2 (b0+1) 0 false (.slice none 0 0):=S2.out.1
  obtain ⟨w3,hw3,i1,i2,i3,i4⟩:=Z.put k q (.slice Ac C.length cc)
  obtain ⟨z0',z1',z2',z3'⟩:=Z.cells
  obtain ⟨j0,j1,j2,j3⟩:=i1.cells
  have R:Hid (RetEff w (kdI 1 s I) (smI 1 s I) (tgI 1 s I) (.returned (.agg #[.int .i64 k,.bool q,.slice Ac C.length cc])) w3):=
   ⟨k,q,.slice Ac C.length cc,C,rfl,(hO.above i4 (by omega)).lift (by rw [HN.out];omega),by rw [HN.out];exact S2.out.2.2.2.2.1.1.trans (i2.mono (by omega)),hE⟩
  clear EF hO hb2 hE S1 S2 Z i1 i2 i3 i4 k0 k1 k2 k3 k4 k5 hn hb0 hb1 hw0 hw1 z0 z1
  go_wp2
  refine bodyPost_ret (v:=.agg #[.int .i64 k,.bool q,.slice Ac C.length cc]) ?_ rfl R.out
  simp [results,Tryz.results45,go_sem,j0,j1,j2]
 ·have e1:(kind != 1)=true:=bne_iff_ne.2 hk
  have e2:(kind == 1)=false:=beq_eq_false_iff_ne.2 hk
  obtain ⟨w3,hw3,i1,i2,i3,i4⟩:=Z.put 0 false (.slice none 0 0)
  obtain ⟨z0',z1',z2',z3'⟩:=Z.cells
  obtain ⟨j0,j1,j2,j3⟩:=i1.cells
  have E:EffIs 0 false [] (kdI kind s I) (smI kind s I) (tgI kind s I):=by
   have h:=eff_zero
   have a1:kdI kind s I=0:=if_neg hk
   have a2:smI kind s I=false:=if_neg hk
   have a3:tgI kind s I=fun _=>-1:=funext fun a=>if_neg hk
   rw [a1,a2,a3]
   exact h
  have R:Hid (RetEff w (kdI kind s I) (smI kind s I) (tgI kind s I) (.returned (.agg #[.int .i64 0,.bool false,.slice none 0 0])) w3):=
   ⟨0,false,.slice none 0 0,[],rfl,.inl ⟨rfl,rfl⟩,by rw [HN.out];exact S1.out.2.2.2.2.1.1.trans (i2.mono (by omega)),E⟩
  clear H hM y0 y1 S0 S1 Z IT hli hk E i1 i2 i3 i4
  go_enter Tryz.func45,Tryz.ntmps45
  go_wp2
  refine bodyPost_ret (v:=.agg #[.int .i64 0,.bool false,.slice none 0 0]) ?_ rfl R.out
  simp [results,Tryz.results45,go_sem,j0,j1,j2]
end Go.Proofs.YtajlleeonddinaaGreatDoor
namespace Go.Proofs.YtajlleeonddinaaGreatDoor
open Go.RowKit Go.Shelf
attribute [local go_sem] Oper.semAt_some
def OdAt (w:World) (b:Nat) (t:Tr):Prop:=w.heap[b]?=some (.cells #[.int .i64 t.1,.int .i64 t.2.1,.int .i64 t.2.2] 55 (0,0))
section
variable {w w':World} {b:Nat} {t:Tr}
theorem OdAt.lt (h:OdAt w b t):b<w.heap.size:=(Array.getElem?_eq_some_iff.1 h).1
theorem OdAt.all (h:OdAt w b t) (hb:Below w.heap.size w w'):OdAt w' b t:=(hb.block b h.lt).trans h
theorem OdAt.cells (h:OdAt w b t):w.cell? ⟨b,0,none⟩=some (.int .i64 t.1)∧w.cell? ⟨b,1,none⟩=some (.int .i64 t.2.1)∧w.cell? ⟨b,2,none⟩=some (.int .i64 t.2.2)∧∀ i,w.frozen? ⟨b,i,none⟩=false:=
 ⟨Lib.cell_of_heap h 0,Lib.cell_of_heap h 1,Lib.cell_of_heap h 2,fun i=>Lib.frozen_of_heap h i⟩
theorem OdAt.put (h:OdAt w b t) (t':Tr) :
  ∃ w',((w.setCell ⟨b,0,none⟩ (.int .i64 t'.1)).setCell ⟨b,1,none⟩ (.int .i64 t'.2.1)).setCell ⟨b,2,none⟩ (.int .i64 t'.2.2)=w'∧
   OdAt w' b t'∧Below b w w'∧w'.heap.size=w.heap.size∧∀ k,k≠b→w'.heap[k]?=w.heap[k]?:=by
 refine ⟨_,rfl,?_,?_,by simp,fun k hk=>?_⟩
 ·have h1:=heap_setCell_same w b 0 _ _ (.int .i64 t'.1) h
  have h2:=heap_setCell_same _ b 1 _ _ (.int .i64 t'.2.1) h1
  exact heap_setCell_same _ b 2 _ _ (.int .i64 t'.2.2) h2
 ·exact (((Below.refl b w).setCell (p:=⟨b,0,none⟩) (Nat.le_refl _) _).setCell (p:=⟨b,1,none⟩) (Nat.le_refl _) _).setCell (p:=⟨b,2,none⟩) (Nat.le_refl _) _
 ·exact (heap_setCell_other _ ⟨b,2,none⟩ k _ hk).trans ((heap_setCell_other _ ⟨b,1,none⟩ k _ hk).trans (heap_setCell_other _ ⟨b,0,none⟩ k _ hk))
end
end Go.Proofs.YtajlleeonddinaaGreatDoor
