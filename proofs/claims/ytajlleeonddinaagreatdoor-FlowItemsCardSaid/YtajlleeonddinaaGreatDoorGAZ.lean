/-
  DfA, DgB, DgC, TrD, DfC.
-/
import Derived.Test.YtajlleeonddinaaGreatDoorGAY
import Derived.Test.YtajlleeonddinaaGreatDoorGAR
import Derived.Test.YtajlleeonddinaaGreatDoorGAF
import Derived.Test.YtajlleeonddinaaGreatDoorGAX
import Derived.Test.YtajlleeonddinaaGreatDoorGAE
import Derived.Test.YtajlleeonddinaaGreatDoorGAA
import Derived.Deep.QuietTactic
import Derived.BigQuiet
import Derived.Deep.DeepCutAuto
import Derived.Deep.Cut
import Derived.WalkSmall
import Derived.Laws.RangeString
import Derived.Laws.RangeAny
import Derived.Lib.OthersKept
import Derived.Test.YtajlleeonddinaaGreatDoorGAP
set_option linter.all false
set_option maxRecDepth 100000
set_option maxHeartbeats 4000000
namespace Go.Proofs.YtajlleeonddinaaGreatDoor
open Go.RowKit Go.Shelf
attribute [local go_sem] Oper.semAt_some
def ItAt (w:World) (b:Nat) (kind:Int) (va:Value) (s:ByteArray) (vb:Value) (al:Bool):Prop:=w.heap[b]?=some (.cells #[.int .i64 kind,va,.string s,vb,.bool al] 40 (0,0))
section
variable {w w':World} {b:Nat} {kind:Int} {va vb:Value} {s:ByteArray} {al:Bool}
theorem ItAt.lt (h:ItAt w b kind va s vb al):b<w.heap.size:=(Array.getElem?_eq_some_iff.1 h).1
theorem ItAt.all (h:ItAt w b kind va s vb al) (hb:Below w.heap.size w w'):ItAt w' b kind va s vb al:=(hb.block b h.lt).trans h
theorem ItAt.cells (h:ItAt w b kind va s vb al):w.cell? ⟨b,0,none⟩=some (.int .i64 kind)∧w.cell? ⟨b,1,none⟩=some va∧w.cell? ⟨b,2,none⟩=some (.string s)∧w.cell? ⟨b,3,none⟩=some vb∧w.cell? ⟨b,4,none⟩=some (.bool al)∧∀ i,w.frozen? ⟨b,i,none⟩=false:=
 ⟨Lib.cell_of_heap h 0,Lib.cell_of_heap h 1,Lib.cell_of_heap h 2,Lib.cell_of_heap h 3,Lib.cell_of_heap h 4,fun i=>Lib.frozen_of_heap h i⟩
theorem ItAt.put (h:ItAt w b kind va s vb al) (k':Int) (va':Value) (s':ByteArray) (vb':Value) (al':Bool) :
  ∃ w',((((w.setCell ⟨b,0,none⟩ (.int .i64 k')).setCell ⟨b,1,none⟩ va').setCell ⟨b,2,none⟩ (.string s')).setCell ⟨b,3,none⟩ vb').setCell ⟨b,4,none⟩ (.bool al')=w'∧
   ItAt w' b k' va' s' vb' al'∧Below b w w'∧w'.heap.size=w.heap.size∧(∀ B u L,b<B→OwnT w B u L→OwnT w' B u L)∧(∀ B u L,b<B→TOwnB w B u L→TOwnB w' B u L)∧∀ k,k≠b→w'.heap[k]?=w.heap[k]?:=by
 refine ⟨_,rfl,?_,?_,by simp,fun B u L hB hO=>?_,fun B u L hB hO=>?_,fun k hk=>?_⟩
 ·have h1:=heap_setCell_same w b 0 _ _ (.int .i64 k') h
  have h2:=heap_setCell_same _ b 1 _ _ va' h1
  have h3:=heap_setCell_same _ b 2 _ _ (.string s') h2
  have h4:=heap_setCell_same _ b 3 _ _ vb' h3
  exact heap_setCell_same _ b 4 _ _ (.bool al') h4
 ·exact (((((Below.refl b w).setCell (p:=⟨b,0,none⟩) (Nat.le_refl _) _).setCell (p:=⟨b,1,none⟩) (Nat.le_refl _) _).setCell (p:=⟨b,2,none⟩) (Nat.le_refl _) _).setCell (p:=⟨b,3,none⟩) (Nat.le_refl _) _).setCell (p:=⟨b,4,none⟩) (Nat.le_refl _) _
 ·exact row_set (row_set (row_set (row_set (row_set hO (p:=⟨b,0,none⟩) hB _) (p:=⟨b,1,none⟩) hB _) (p:=⟨b,2,none⟩) hB _) (p:=⟨b,3,none⟩) hB _) (p:=⟨b,4,none⟩) hB _
 ·exact row_set (row_set (row_set (row_set (row_set hO (p:=⟨b,0,none⟩) hB _) (p:=⟨b,1,none⟩) hB _) (p:=⟨b,2,none⟩) hB _) (p:=⟨b,3,none⟩) hB _) (p:=⟨b,4,none⟩) hB _
 ·exact (heap_setCell_other _ ⟨b,4,none⟩ k _ hk).trans ((heap_setCell_other _ ⟨b,3,none⟩ k _ hk).trans ((heap_setCell_other _ ⟨b,2,none⟩ k _ hk).trans ((heap_setCell_other _ ⟨b,1,none⟩ k _ hk).trans (heap_setCell_other _ ⟨b,0,none⟩ k _ hk))))
end
theorem it_start (w:World) (n:Nat) (hn:w.heap.size=n):∃ w0,w.alloc (.cells #[.int .i64 0,.slice none 0 0,.string ⟨#[]⟩,.slice none 0 0,.bool false] 40)=w0∧ItAt w0 n 0 (.slice none 0 0) ⟨#[]⟩ (.slice none 0 0) false∧Below w.heap.size w w0∧w0.heap.size=n+1:=by
 subst hn
 exact ⟨_,rfl,World.alloc_heap_new w _,(Below.refl _ w).alloc (Nat.le_refl _) _,by simp⟩
def RetIt (w:World) (x:Ite) (e:Ending) (w':World):Prop:=∃ A c B c2,e=.returned (.agg #[.int .i64 x.kind,.slice A x.raw.length c,.string (sB x.m),.slice B x.C.length c2,.bool x.al])∧
 TOwnB w' w.heap.size (.slice A x.raw.length c) x.raw∧OwnT w' w.heap.size (.slice B x.C.length c2) x.C∧Below w.heap.size w w'
theorem ownT_nil (w:World) (n:Nat):OwnT w n (.slice none 0 0) []:=World.ownsRow_nil _ _ _ _
theorem BytesAt.cellAt {w:World} {A:Option Addr} {b:Str} (h:BytesAt w A b) {j:Nat} (hj:j<b.length):∃ g off,A=some ⟨g,off,none⟩∧w.cell? ⟨g,off+j,none⟩=some (.int .u8 (b[j].toNat:Int)):=by
 rcases h with rfl | ⟨g,off,rfl,hc⟩
 ·simp at hj
 ·exact ⟨g,off,rfl,hc j hj⟩
theorem take_at {w:World} {A:Option Addr} {xs:Str} (h:BytesAt w A xs) (k:Nat):BytesAt w A (xs.take k):=by
 rcases h with rfl | ⟨b,off,rfl,hc⟩
 ·exact .inl (by simp)
 ·refine .inr ⟨b,off,rfl,fun j hj=>?_⟩
  rw [List.getElem_take]
  exact hc j (by rw [List.length_take] at hj;omega)
theorem rpage12_any (b:Str) (hb:b≠[]) (A:Option Addr) (cap l:Nat) (hl:b.length=l) (w:World) (H:BytesAt w A b) :
  Calls Tryz.prog 68 #[.slice A l cap] w fun e w'=>e=.returned (.tuple #[.int .i64 (pgA b).1,.int .i64 ((pgA b).2:Nat)])∧w'=w:=by
 cases b with
 | nil=>exact absurd rfl hb
 | cons c r=>
  obtain ⟨g,off,rfl,k0⟩:=H.cellAt (j:=0) (by simp)
  simp only [List.getElem_cons_zero,Nat.add_zero] at k0
  have hl1:1≤l:=by simp at hl;omega
  have t1:((c.toNat:Int) == 203)=decide (c=203):=u8_beq c 203
  have t2:((c.toNat:Int) == 237)=decide (c=237):=u8_beq c 237
  have t3:((c.toNat:Int) == 221)=decide (c=221):=u8_beq c 221
  have t4:((c.toNat:Int) == 253)=decide (c=253):=u8_beq c 253
  have HC:Hid (pgA (c :: r)=if c=203 then (1,1) else if c=237 then (2,1) else if c=221 then (if r.head?=some 203 then (5,3) else (3,1)) else if c=253 then (if r.head?=some 203 then (6,3) else (4,1)) else (0,0)):=rfl
  obtain ⟨⟨p,at_⟩,hp⟩:∃ q,pgA (c :: r)=q:=⟨_,rfl⟩
  rw [hp] at HC ⊢
  have HY:Hid (∀ y u,r=y :: u→w.cell? ⟨g,off+1,none⟩=some (.int .u8 (y.toNat:Int))∧((y.toNat:Int) == 203)=decide (y=203)):=fun y u e=>by
   subst e
   obtain ⟨g',off',e,k⟩:=H.cellAt (j:=1) (by simp)
   simp only [Option.some.injEq,Addr.mk.injEq] at e
   obtain ⟨rfl,rfl,-⟩:=e
   exact ⟨k,u8_beq y 203⟩
  clear hp H hb
  by_cases h1:c=203
  ·rw [decide_eq_true h1] at t1
   have hq:=HC.out
   rw [if_pos h1] at hq
   obtain ⟨rfl,rfl⟩:=Prod.mk.inj hq
   clear h1 t2 t3 t4 HC hq HY hl
   go_enter Tryz.func68,Tryz.ntmps68
   go_wp2
   go_ret2
   exact ⟨rfl,rfl⟩
  rw [decide_eq_false h1] at t1
  by_cases h2:c=237
  ·rw [decide_eq_true h2] at t2
   have hq:=HC.out
   rw [if_neg h1,if_pos h2] at hq
   obtain ⟨rfl,rfl⟩:=Prod.mk.inj hq
   clear h1 h2 t3 t4 HC hq HY hl
   go_enter Tryz.func68,Tryz.ntmps68
   go_wp2
   go_ret2
   exact ⟨rfl,rfl⟩
  rw [decide_eq_false h2] at t2
  by_cases h5:c=221∨c=253
  ·by_cases hy:r.head?=some 203
   ·obtain ⟨u,rfl⟩:∃ u,r=203 :: u:=by
     cases r with
     | nil=>cases hy
     | cons y u=>simp only [List.head?_cons,Option.some.injEq] at hy;subst hy;exact ⟨u,rfl⟩
    obtain ⟨k1,t5⟩:=HY.out 203 u rfl
    have hl2:2≤l:=by simp at hl;omega
    rw [show (((203:UInt8).toNat:Nat):Int)=203 from rfl] at k1
    have hq:=HC.out
    rw [if_neg h1,if_neg h2] at hq
    rcases h5 with h5 | h5
    ·rw [if_pos h5,if_pos hy] at hq
     obtain ⟨rfl,rfl⟩:=Prod.mk.inj hq
     rw [decide_eq_true h5] at t3
     rw [decide_eq_false (by rw [h5];decide)] at t4
     clear h1 h2 h5 hy HC hq HY hl t5
     go_enter Tryz.func68,Tryz.ntmps68
     go_wp2
     go_ret2
     exact ⟨rfl,rfl⟩
    ·rw [if_neg (by rw [h5];decide),if_pos h5,if_pos hy] at hq
     obtain ⟨rfl,rfl⟩:=Prod.mk.inj hq
     rw [decide_eq_true h5] at t4
     rw [decide_eq_false (by rw [h5];decide)] at t3
     clear h1 h2 h5 hy HC hq HY hl t5
     go_enter Tryz.func68,Tryz.ntmps68
     go_wp2
     go_ret2
     exact ⟨rfl,rfl⟩
   ·have hq:=HC.out
    rw [if_neg h1,if_neg h2] at hq
    have hfin:(c=221∧p=3∨c=253∧p=4)∧at_=1:=by
     rcases h5 with h5 | h5
     ·rw [if_pos h5,if_neg hy] at hq
      obtain ⟨rfl,rfl⟩:=Prod.mk.inj hq
      exact ⟨.inl ⟨h5,rfl⟩,rfl⟩
     ·rw [if_neg (by rw [h5];decide),if_pos h5,if_neg hy] at hq
      obtain ⟨rfl,rfl⟩:=Prod.mk.inj hq
      exact ⟨.inr ⟨h5,rfl⟩,rfl⟩
    obtain ⟨hfin,rfl⟩:=hfin
    have hcase:l=1∨(2≤l∧∃ y,w.cell? ⟨g,off+1,none⟩=some (.int .u8 (y:Int))∧((y:Int) == 203)=false):=by
     cases r with
     | nil=>simp at hl;exact .inl hl.symm
     | cons y u=>
      obtain ⟨k1,t5⟩:=HY.out y u rfl
      refine .inr ⟨by simp at hl;omega,(y.toNat:Int),k1,?_⟩
      rw [t5]
      simp only [List.head?_cons,Option.some.injEq] at hy
      exact decide_eq_false hy
    rcases hfin with ⟨h5,rfl⟩ | ⟨h5,rfl⟩
    ·rw [decide_eq_true h5] at t3
     rw [decide_eq_false (by rw [h5];decide)] at t4
     clear h1 h2 h5 hy HC hq HY hl
     rcases hcase with rfl | ⟨h6,y,k1,t5⟩
     ·go_enter Tryz.func68,Tryz.ntmps68
      go_wp2
      go_ret2
      exact ⟨rfl,rfl⟩
     ·go_enter Tryz.func68,Tryz.ntmps68
      go_wp2
      go_ret2
      exact ⟨rfl,rfl⟩
    ·rw [decide_eq_true h5] at t4
     rw [decide_eq_false (by rw [h5];decide)] at t3
     clear h1 h2 h5 hy HC hq HY hl
     rcases hcase with rfl | ⟨h6,y,k1,t5⟩
     ·go_enter Tryz.func68,Tryz.ntmps68
      go_wp2
      go_ret2
      exact ⟨rfl,rfl⟩
     ·go_enter Tryz.func68,Tryz.ntmps68
      go_wp2
      go_ret2
      exact ⟨rfl,rfl⟩
  ·have h3:c≠221:=fun h=>h5 (.inl h)
   have h4:c≠253:=fun h=>h5 (.inr h)
   rw [decide_eq_false h3] at t3
   rw [decide_eq_false h4] at t4
   have hq:=HC.out
   rw [if_neg h1,if_neg h2,if_neg h3,if_neg h4] at hq
   obtain ⟨rfl,rfl⟩:=Prod.mk.inj hq
   clear h1 h2 h3 h4 h5 HC hq HY hl
   go_enter Tryz.func68,Tryz.ntmps68
   go_wp2
   go_ret2
   exact ⟨rfl,rfl⟩
theorem ritem12_any (kind:Int) (b:Str) (A:Option Addr) (cap l:Nat) (hl:b.length=l) (hc:l≤cap) (hcm:cap≤maxLen) (k:Nat) (hk:k≤l) (hl2:l≤10000) (w:World) (H:BytesAt w A b) :
  Calls Tryz.prog 69 #[.int .i64 kind,.slice A l cap,.int .i64 k] w (RetIt w (iteO kind (b.take k))):=by
 obtain ⟨n,hn⟩:∃ z,w.heap.size=z:=⟨_,rfl⟩
 obtain ⟨w0,hw0,I0,y0,z0⟩:=it_start w n hn
 obtain ⟨w1,hw1⟩:∃ z,w0.alloc (.cells #[] 5)=z:=⟨_,rfl⟩
 have y1:Below w0.heap.size w0 w1:=by rw [← hw1];exact up_alloc _ _
 have O1:Hid (TOwnB w1 (n+1) (.slice (some ⟨n+1,0,none⟩) 0 0) []):=by rw [← hw1,← z0];exact own_lit w0 [] (by decide)
 have P1:Hid (BytesAt w1 A (b.take k)):=take_at ((H.below y0).below y1) k
 have I1:=Lib.hid (I0.all y1)
 have B1:Hid (Below n w w1):=by rw [← hn];exact y0.trans (y1.mono y0.size)
 have Z1:Hid (n+1≤w1.heap.size):=by have:=y1.size;show _≤_;omega
 have LT:Hid ((b.take k).length=k):=by show _=_;rw [List.length_take];omega
 have HN:=Lib.hid hn
 have hkc:¬cap<k:=by omega
 unfold maxLen at hcm
 clear H y0 y1 I0 hl
 go_enter Tryz.func69,Tryz.ntmps69
 have NX:Hid (∀ A2 c2 w2,TOwnB w2 (n+1) (.slice A2 k c2) ([]++b.take k)→Below (n+1) w1 w2→ItAt w2 n 0 (.slice none 0 0) ⟨#[]⟩ (.slice none 0 0) false∧TOwnB w2 (n+1) (.slice A2 k c2) (b.take k)∧Below n w w2):=fun A2 c2 w2 h1 h2=>⟨(h2.block n (by omega)).trans I1.out,h1,B1.out.trans (h2.mono (by omega))⟩
 clear B1 I1
 go_wp2_with (at_builtin;refine wpList_appBs (xs:=[]) (ys:=b.take k) O1.out P1.out Z1.out (by rw [LT.out];simp;omega) rfl _ _ rfl rfl rfl k LT.out rfl k (by simp) ?_;intro A2 c2 w2 h1 h2;obtain ⟨h3,h4,h5⟩:=NX.out A2 c2 w2 h1 h2;have I2:=Lib.hid h3;have O2:=Lib.hid h4;have B2:=Lib.hid h5;obtain ⟨k0,k1,k2,k3,k4,k5⟩:=h3.cells;clear h1 h2 h3 h4 h5)
 obtain ⟨w3,hw3,i1,i2,i3,i4,i5,i6⟩:=I2.out.put kind (.slice A2 k c2) ⟨#[]⟩ (.slice none 0 0) false
 rw [hw3]
 obtain ⟨j0,j1,j2,j3,j4,j5⟩:=i1.cells
 refine bodyPost_ret (v:=.agg #[.int .i64 kind,.slice A2 k c2,.string ⟨#[]⟩,.slice none 0 0,.bool false]) ?_ rfl ?_
 ·simp [results,Tryz.results69,go_sem,j0,j1,j2,j3,j4]
 ·refine ⟨A2,c2,none,0,?_,?_,?_,?_⟩
  ·simp only [iteO,LT.out];rfl
  ·simp only [iteO,LT.out,HN.out]
   exact (i5 (n+1) _ _ (by omega) O2.out).lift (by omega)
  ·exact ownT_nil _ _
  ·rw [HN.out];exact B2.out.trans i2
end Go.Proofs.YtajlleeonddinaaGreatDoor
namespace Go.Proofs.YtajlleeonddinaaGreatDoor
open Go.RowKit Go.Shelf
attribute [local go_sem] Oper.semAt_some
structure Dec (w0:World) (D:Nat) (S:Value) (w:World) (k:Nat) (p nd d n:Int):Prop where
 blk:w.heap[D]?=some (.cells #[S,.int .i64 k,.int .i64 p,.int .i64 nd,.int .i64 d,.int .i64 n] 183 (0,0))
 bel:Below D w0 w
structure DK (D:Nat) (w w':World):Prop where
 size:w.heap.size≤w'.heap.size
 same:∀ k,k<w.heap.size→k≠D→w'.heap[k]?=w.heap[k]?
section
variable {w0 w w':World} {D:Nat} {S:Value} {k:Nat} {p nd d n:Int}
theorem Dec.lt (h:Dec w0 D S w k p nd d n):D<w.heap.size:=(Array.getElem?_eq_some_iff.1 h.blk).1
theorem Dec.all (h:Dec w0 D S w k p nd d n) (hb:Below w.heap.size w w'):Dec w0 D S w' k p nd d n:=
 ⟨(hb.block D h.lt).trans h.blk,h.bel.trans (hb.mono (Nat.le_of_lt h.lt))⟩
theorem Dec.cells (h:Dec w0 D S w k p nd d n):w.cell? ⟨D,0,none⟩=some S∧w.cell? ⟨D,1,none⟩=some (.int .i64 k)∧w.cell? ⟨D,2,none⟩=some (.int .i64 p)∧w.cell? ⟨D,3,none⟩=some (.int .i64 nd)∧w.cell? ⟨D,4,none⟩=some (.int .i64 d)∧w.cell? ⟨D,5,none⟩=some (.int .i64 n)∧∀ i,w.frozen? ⟨D,i,none⟩=false:=
 ⟨Lib.cell_of_heap h.blk 0,Lib.cell_of_heap h.blk 1,Lib.cell_of_heap h.blk 2,Lib.cell_of_heap h.blk 3,Lib.cell_of_heap h.blk 4,Lib.cell_of_heap h.blk 5,fun i=>Lib.frozen_of_heap h.blk i⟩
theorem Dec.set1 (h:Dec w0 D S w k p nd d n) (x:Nat):Dec w0 D S (w.setCell ⟨D,1,none⟩ (.int .i64 x)) x p nd d n:=
 ⟨heap_setCell_same w D 1 _ _ (.int .i64 x) h.blk,h.bel.setCell (p:=⟨D,1,none⟩) (Nat.le_refl _) _⟩
theorem Dec.set2 (h:Dec w0 D S w k p nd d n) (x:Int):Dec w0 D S (w.setCell ⟨D,2,none⟩ (.int .i64 x)) k x nd d n:=
 ⟨heap_setCell_same w D 2 _ _ (.int .i64 x) h.blk,h.bel.setCell (p:=⟨D,2,none⟩) (Nat.le_refl _) _⟩
theorem Dec.set3 (h:Dec w0 D S w k p nd d n) (x:Int):Dec w0 D S (w.setCell ⟨D,3,none⟩ (.int .i64 x)) k p x d n:=
 ⟨heap_setCell_same w D 3 _ _ (.int .i64 x) h.blk,h.bel.setCell (p:=⟨D,3,none⟩) (Nat.le_refl _) _⟩
theorem Dec.set4 (h:Dec w0 D S w k p nd d n) (x:Int):Dec w0 D S (w.setCell ⟨D,4,none⟩ (.int .i64 x)) k p nd x n:=
 ⟨heap_setCell_same w D 4 _ _ (.int .i64 x) h.blk,h.bel.setCell (p:=⟨D,4,none⟩) (Nat.le_refl _) _⟩
theorem Dec.set5 (h:Dec w0 D S w k p nd d n) (x:Int):Dec w0 D S (w.setCell ⟨D,5,none⟩ (.int .i64 x)) k p nd d x:=
 ⟨heap_setCell_same w D 5 _ _ (.int .i64 x) h.blk,h.bel.setCell (p:=⟨D,5,none⟩) (Nat.le_refl _) _⟩
theorem DK.refl (D:Nat) (w:World):DK D w w:=⟨Nat.le_refl _,fun _ _ _=>rfl⟩
theorem DK.of_below (h:Below w.heap.size w w'):DK D w w':=⟨h.size,fun k hk _=>h.block k hk⟩
theorem DK.trans {w'':World} (h:DK D w w') (h':DK D w' w''):DK D w w'':=
 ⟨Nat.le_trans h.size h'.size,fun k hk hb=>(h'.same k (Nat.lt_of_lt_of_le hk h.size) hb).trans (h.same k hk hb)⟩
theorem DK.set (h:DK D w w') (j:Nat) (u:Value):DK D w (w'.setCell ⟨D,j,none⟩ u):=
 ⟨by simpa using h.size,fun k hk hb=>(heap_setCell_other w' ⟨D,j,none⟩ k u hb).trans (h.same k hk hb)⟩
theorem Dec.bytes {b:Str} {A:Option Addr} (h:Dec w0 D S w k p nd d n) (hD:w0.heap.size≤D) (H:BytesAt w0 A b):BytesAt w A b:=H.below (h.bel.mono hD)
end
def missE:List PanicEntry:=[{v:=.iface 185 (.agg #[]),recovered:=false}]
structure DH (w0:World) (D:Nat) (b:Str) (A:Option Addr) (l cap:Nat):Prop where
 hl:b.length=l
 hl2:l≤100000
 hD:w0.heap.size≤D
 H0:BytesAt w0 A b
 hc:l≤cap
 hcm:cap≤maxLen
def DOk (w0:World) (D:Nat) (S:Value) (w:World) (e:Ending) (w':World) (v:Value) (k:Nat) (p nd d n:Int):Prop:=e=.returned v∧Dec w0 D S w' k p nd d n∧DK D w w'
def DMiss (w0:World) (D:Nat) (S:Value) (w:World) (e:Ending) (w':World) (l:Nat) (p nd:Int):Prop:=e=.panicked missE∧(∃ d n,Dec w0 D S w' l p nd d n)∧DK D w w'
theorem DH.byte {w0:World} {D:Nat} {b:Str} {A:Option Addr} {l cap:Nat} (H:DH w0 D b A l cap) {k:Nat} (hk:k<l) {w:World} (h:Below D w0 w):∃ g off,A=some ⟨g,off,none⟩∧w.cell? ⟨g,off+k,none⟩=some (.int .u8 ((b.getD k 0).toNat:Int)):=by
 have hkb:k<b.length:=by have:=H.hl;omega
 obtain ⟨g,off,h1,h2⟩:=(H.H0.below (h.mono H.hD)).cellAt hkb
 refine ⟨g,off,h1,?_⟩
 rw [h2,List.getD_eq_getElem?_getD,List.getElem?_eq_getElem hkb]
 rfl
theorem next_any {w0:World} {D:Nat} {b:Str} {A:Option Addr} {l cap:Nat} (H:DH w0 D b A l cap) {w:World} {k:Nat} (hk:k≤l) {p nd d n:Int} (X:Dec w0 D (.slice A l cap) w k p nd d n) :
  Calls Tryz.prog 185 #[.pointer (some ⟨D,0,none⟩)] w fun e w'=>
   (k<l∧DOk w0 D (.slice A l cap) w e w' (.int .u8 ((b.getD k 0).toNat:Int)) (k+1) p nd d n)∨(k=l∧DMiss w0 D (.slice A l cap) w e w' l p nd):=by
 have hl2:=H.hl2
 have dq:=fun q=>below_drewN w w.heap.size q
 obtain ⟨e0,e1,e2,e3,e4,e5,e6⟩:=X.cells
 by_cases h:k<l
 ·have HB:=Lib.hid (fun w2 (h2:Below D w0 w2)=>H.byte h h2)
  obtain ⟨x,hx⟩:∃ z,b.getD k 0=z:=⟨_,rfl⟩
  rw [hx] at HB ⊢
  have X2:Hid (∀ q,Dec w0 D (.slice A l cap) ((w.drewN q).setCell ⟨D,1,none⟩ (.int .i64 ((k:Int)+1))) (k+1) p nd d n):=fun q=>(X.all (dq q)).set1 (k+1)
  have K2:Hid (∀ q,DK D w ((w.drewN q).setCell ⟨D,1,none⟩ (.int .i64 ((k:Int)+1)))):=fun q=>(DK.of_below (dq q)).set 1 _
  have hkn:((k:Int) == (l:Int))=false:=beq_eq_false_iff_ne.2 (by omega)
  clear H X dq hx
  go_enter Tryz.func185,Tryz.ntmps185
  go_wp2
  go_quiet (fail)
  go_upto_region 4 with fail
  have X3:=X2.out nq
  have K3:=Lib.hid (K2.out nq)
  obtain ⟨w2,hw2⟩:∃ z,(w.drewN nq).setCell ⟨D,1,none⟩ (.int .i64 ((k:Int)+1))=z:=⟨_,rfl⟩
  rw [hw2] at X3 K3 ⊢
  clear e0 e1 e2 e3 e4 e5 e6 X2 K2 hw2
  obtain ⟨g,off,eA,kb⟩:=HB.out w2 X3.bel
  obtain ⟨e0,e1,e2,e3,e4,e5,e6⟩:=X3.cells
  have X3:=Lib.hid X3
  have dq:=Lib.hid (fun q=>below_drewN w2 w2.heap.size q)
  subst eA
  go_wp2
  go_quiet (fail)
  go_wp2
  go_ret
  exact .inl ⟨h,rfl,X3.out.all (dq.out _),K3.out.trans (DK.of_below (dq.out _))⟩
 ·obtain rfl:k=l:=by omega
  have X2:Hid (∀ q,Dec w0 D (.slice A k cap) (w.drewN q) k p nd d n):=fun q=>X.all (dq q)
  have K2:Hid (∀ q,DK D w (w.drewN q)):=fun q=>DK.of_below (dq q)
  have hkn:((k:Int) == (k:Int))=true:=beq_iff_eq.2 rfl
  clear H X dq h
  go_enter Tryz.func185,Tryz.ntmps185
  go_wp2
  go_quiet (fail)
  go_wp2
  exact ⟨rfl,.inr ⟨trivial,rfl,⟨d,n,X2.out _⟩,K2.out _⟩⟩
theorem dsigned_any {w0:World} {D:Nat} {b:Str} {A:Option Addr} {l cap:Nat} (H:DH w0 D b A l cap) {w:World} {k:Nat} (hk:k≤l) {p nd d n:Int} (X:Dec w0 D (.slice A l cap) w k p nd d n) :
  Calls Tryz.prog 184 #[.pointer (some ⟨D,0,none⟩)] w fun e w'=>
   (k<l∧DOk w0 D (.slice A l cap) w e w' (.int .i64 (sgB (b.getD k 0))) (k+1) p nd d n)∨(k=l∧DMiss w0 D (.slice A l cap) w e w' l p nd):=by
 have N:=next_any H hk X
 have hx:=(b.getD k 0).toNat_lt
 have SG:=Lib.hid (fun w=>signed_any ((b.getD k 0).toNat:Int) (by omega) (by omega) w)
 clear H X hx
 go_enter Tryz.func184,Tryz.ntmps184
 go_wp2_with fail
 refine N.mono ?_
 rintro e w' (⟨h,rfl,h1,h2⟩ | ⟨h,rfl,h1,h2⟩)
 ·have h1:=Lib.hid h1
  have h2:=Lib.hid h2
  clear N
  go_wp2_with fail
  refine (SG.out _).mono ?_
  rintro e w2 ⟨rfl,hw⟩
  clear SG
  go_wp2
  go_ret
  first | subst hw | (rw [← hw]) | skip
  exact .inl ⟨h,rfl,h1.out,h2.out⟩
 ·clear N SG
  exact ⟨rfl,.inr ⟨h,rfl,h1,h2⟩⟩
theorem word_any {w0:World} {D:Nat} {b:Str} {A:Option Addr} {l cap:Nat} (H:DH w0 D b A l cap) {w:World} {k:Nat} (hk:k≤l) {p nd d n:Int} (X:Dec w0 D (.slice A l cap) w k p nd d n) :
  Calls Tryz.prog 207 #[.pointer (some ⟨D,0,none⟩)] w fun e w'=>
   (k+1<l∧DOk w0 D (.slice A l cap) w e w' (.int .i64 (((b.getD k 0).toNat:Int)+256*((b.getD (k+1) 0).toNat:Int))) (k+2) p nd d n)∨(l≤k+1∧DMiss w0 D (.slice A l cap) w e w' l p nd):=by
 have N:=next_any H hk X
 have HH:=Lib.hid (fun w1 (hk1:k+1≤l) (h1:Dec w0 D (.slice A l cap) w1 (k+1) p nd d n)=>next_any H hk1 h1)
 have hx:=(b.getD k 0).toNat_lt
 have hy:=(b.getD (k+1) 0).toNat_lt
 obtain ⟨x,hxx⟩:∃ z,(b.getD k 0).toNat=z:=⟨_,rfl⟩
 obtain ⟨y,hyy⟩:∃ z,(b.getD (k+1) 0).toNat=z:=⟨_,rfl⟩
 rw [hxx] at N hx ⊢
 rw [hyy] at HH hy ⊢
 clear H X hxx hyy
 go_enter Tryz.func207,Tryz.ntmps207
 go_wp2_with fail
 refine N.mono ?_
 rintro e w1 (⟨h,rfl,h1,h2⟩ | ⟨h,rfl,h1,h2⟩)
 ·have N1:=HH.out w1 (by omega) h1
  have h2:=Lib.hid h2
  clear N h1 HH
  go_wp2_with fail
  refine N1.mono ?_
  rintro e w2 (⟨g,rfl,g1,g2⟩ | ⟨g,rfl,g1,g2⟩)
  ·have g1:=Lib.hid g1
   have g2:=Lib.hid (h2.out.trans g2)
   clear N1 h2
   go_wp2
   go_ret
   exact .inl ⟨g,rfl,g1.out,g2.out⟩
  ·clear N1
   exact ⟨rfl,.inr ⟨by omega,rfl,g1,h2.out.trans g2⟩⟩
 ·clear N HH
  exact ⟨rfl,.inr ⟨by omega,rfl,h1,h2⟩⟩
theorem keep_any {w0:World} {D:Nat} {b:Str} {A:Option Addr} {l cap:Nat} (H:DH w0 D b A l cap) {w:World} {k:Nat} (hk:k≤l) {p nd d n:Int} (X:Dec w0 D (.slice A l cap) w k p nd d n) :
  Calls Tryz.prog 162 #[.pointer (some ⟨D,0,none⟩)] w fun e w'=>DOk w0 D (.slice A l cap) w e w' (.tuple #[]) 1 p nd d n:=by
 obtain ⟨e0,e1,e2,e3,e4,e5,e6⟩:=X.cells
 have X1:=Lib.hid (X.set1 1)
 have K1:=Lib.hid ((DK.refl D w).set 1 (.int .i64 ((1:Nat):Int)))
 clear H X
 go_enter Tryz.func162,Tryz.ntmps162
 go_wp2
 go_end0
 exact ⟨rfl,X1.out,K1.out⟩
theorem isDisp_any {w0:World} {D:Nat} {b:Str} {A:Option Addr} {l cap:Nat} (H:DH w0 D b A l cap) {w:World} {k:Nat} (hk:k≤l) {p nd d n:Int} (X:Dec w0 D (.slice A l cap) w k p nd d n) :
  Calls Tryz.prog 183 #[.pointer (some ⟨D,0,none⟩)] w fun e w'=>DOk w0 D (.slice A l cap) w e w' (.bool (decide (p=5∨p=6))) k p nd d n:=by
 obtain ⟨e0,e1,e2,e3,e4,e5,e6⟩:=X.cells
 have X1:=Lib.hid X
 clear H X
 by_cases h5:p=5
 ·subst h5
  have h:=Lib.hid (show decide ((5:Int)=5∨(5:Int)=6)=true from rfl)
  go_enter Tryz.func183,Tryz.ntmps183
  go_wp2
  go_ret
  exact ⟨rfl,X1.out,DK.refl _ _⟩
 ·have t5:(p == 5)=false:=beq_eq_false_iff_ne.2 h5
  have h:=Lib.hid (show decide (p=5∨p=6)=(p == 6) from by
   by_cases h6:p=6
   ·subst h6;rfl
   ·rw [decide_eq_false (by omega),beq_eq_false_iff_ne.2 h6])
  obtain ⟨t,ht⟩:∃ t,(p == 6)=t:=⟨_,rfl⟩
  rw [ht] at h
  clear h5
  go_enter Tryz.func183,Tryz.ntmps183
  go_wp2
  go_ret
  exact ⟨by rw [h.out];rfl,X1.out,DK.refl _ _⟩
end Go.Proofs.YtajlleeonddinaaGreatDoor
namespace Go.Proofs.YtajlleeonddinaaGreatDoor
open Go.RowKit Go.Shelf
attribute [local go_sem] Oper.semAt_some
theorem bclone_any (A:Option Addr) (cap l:Nat) (xs:Str) (hl:xs.length=l) (hl2:l≤100000) (w:World) (hx:BytesAt w A xs) :
  Calls Tryz.prog 157 #[.slice A l cap] w fun e w'=>∃ A' c',e=.returned (.slice A' l c')∧TOwnB w' w.heap.size (.slice A' l c') xs∧Below w.heap.size w w':=by
 cases A with
 | none=>
  obtain rfl:xs=[]:=by
   rcases hx with h | ⟨b,off,h,_⟩
   ·exact h
   ·cases h
  obtain rfl:l=0:=hl.symm
  clear hx hl
  have hnil:=fun w=>Lib.run_eql_slice_nil (P:=Tryz.prog) w 38 5 none 0 cap 0 0 Tryz.underlying38
  go_enter Tryz.func157,Tryz.ntmps157
  go_wp2
  go_ret
  exact ⟨none,0,rfl,townB_nil _ _,Below.refl _ _⟩
 | some a=>
  have O1:=Lib.hid (own_lit w [] (by decide))
  have hb:Below w.heap.size w (w.alloc (.cells #[] 5)):=(Below.refl _ w).alloc (Nat.le_refl _) _
  have P1:=Lib.hid (hx.below hb)
  have B1:=Lib.hid hb
  have HL:=Lib.hid hl
  clear hx hb hl
  go_enter Tryz.func157,Tryz.ntmps157
  have hnil:=fun w=>Lib.run_eql_slice_nil (P:=Tryz.prog) w 38 5 (some a) l cap 0 0 Tryz.underlying38
  go_wp2_with (at_builtin;refine wpList_appBs (xs:=[]) (ys:=xs) O1.out P1.out B1.out.size (by rw [HL.out];simp;omega) rfl _ _ rfl rfl rfl l HL.out rfl l (by simp) ?_;intro A2 c2 w2 h1 h2;have O2:=Lib.hid h1;have B2:=Lib.hid h2;clear h1 h2)
  go_ret
  exact ⟨A2,c2,rfl,O2.out,B1.out.trans B2.out⟩
theorem taken_any {w0:World} {D:Nat} {b:Str} {A:Option Addr} {l cap:Nat} (H:DH w0 D b A l cap) {w:World} {k:Nat} (hk:k≤l) {p nd d n:Int} (X:Dec w0 D (.slice A l cap) w k p nd d n) :
  Calls Tryz.prog 124 #[.pointer (some ⟨D,0,none⟩)] w fun e w'=>∃ A' c',e=.returned (.slice A' k c')∧TOwnB w' w.heap.size (.slice A' k c') (b.take k)∧Below w.heap.size w w':=by
 obtain ⟨e0,e1,e2,e3,e4,e5,e6⟩:=X.cells
 have hl2:=H.hl2
 have hkc:¬cap<k:=by have:=H.hc;omega
 have hcm:=H.hcm
 have LT:Hid ((b.take k).length=k):=by show _=_;rw [List.length_take,H.hl];omega
 obtain ⟨w1,hw1⟩:∃ z,w.drew=z:=⟨_,rfl⟩
 have dq:Below w.heap.size w w1:=by rw [← hw1];exact below_drewN w _ 1
 have zq:w1.heap.size=w.heap.size:=by rw [← hw1];rfl
 have CL:=Lib.hid (bclone_any A cap k (b.take k) LT.out (by omega) w1 (take_at ((X.bytes H.hD H.H0).below dq) k))
 have DQ:=Lib.hid dq
 have ZQ:=Lib.hid zq
 unfold maxLen at hcm
 clear H X dq zq
 go_enter Tryz.func124,Tryz.ntmps124
 go_wp2
 refine Mixed.wp_region_mixed (fun w'=>w'.cell? ⟨D,0,none⟩=some (.slice A l cap)∧w'.cell? ⟨D,1,none⟩=some (.int .i64 (k:Int))) 9 [(0,true),(1,true),(2,true),(3,true),(4,true),(5,true),(6,true),(7,true),(8,true)] (by kernel_rfl) (by kernel_rfl) ⟨e0,e1⟩ ?_
 clear e0 e1 e2 e3 e4 e5 e6
 refine Mixed.mp rfl (.pointer (some ⟨D,0,none⟩)) ?_
 refine Mixed.mp rfl (.pointer (some ⟨D,0,none⟩)) ?_
 refine Mixed.mp rfl (.pointer (some ⟨D,0,none⟩)) ?_
 refine Mixed.mo rfl (.slice A l cap) (fun w h=>by obtain ⟨h1,h2⟩:=h;go_simp;try rfl) ?_
 refine Mixed.mp rfl (.pointer (some ⟨D,0,none⟩)) ?_
 refine Mixed.mp rfl (.pointer (some ⟨D,0,none⟩)) ?_
 refine Mixed.mp rfl (.pointer (some ⟨D,1,none⟩)) ?_
 refine Mixed.mo rfl (.int .i64 (k:Int)) (fun w h=>by obtain ⟨h1,h2⟩:=h;go_simp;try rfl) ?_
 refine Mixed.mo rfl (.slice A k cap) (fun w h=>by clear h;go_simp;try rfl) ?_
 simp only [Mixed.wpMix,List.drop_succ_cons,List.drop_zero]
 rw [hw1]
 clear hw1
 go_wp2_with fail
 refine CL.out.mono ?_
 rintro e w2 ⟨A2,c2,rfl,hO,hb⟩
 rw [ZQ.out] at hO hb
 have O2:=Lib.hid hO
 have B2:=Lib.hid (DQ.out.trans hb)
 clear hO hb CL DQ
 go_wp2
 go_ret
 exact ⟨A2,c2,rfl,O2.out,B2.out⟩
theorem take_any {w0:World} {D:Nat} {b:Str} {A:Option Addr} {l cap:Nat} (H:DH w0 D b A l cap) {w:World} {k:Nat} (hk:k≤l) {p nd d n:Int} (X:Dec w0 D (.slice A l cap) w k p nd d n) {c:UInt8} (hc:c=100∨c=101∨c=110∨c=119) :
  Calls Tryz.prog 188 #[.pointer (some ⟨D,0,none⟩),.int .i32 (c.toNat:Int)] w fun e w'=>
   (k+letN c≤l∧DOk w0 D (.slice A l cap) w e w' (.tuple #[]) (k+letN c) p nd (stepL c (b.drop k) (d,n)).1 (stepL c (b.drop k) (d,n)).2)∨(l<k+letN c∧DMiss w0 D (.slice A l cap) w e w' l p nd):=by
 have t0:(b.drop k).getD 0 0=b.getD k 0:=by rw [getD_drop];rfl
 have t1:(b.drop k).getD 1 0=b.getD (k+1) 0:=by rw [getD_drop]
 have hx:=(b.getD k 0).toNat_lt
 have NX:=Lib.hid (next_any H hk X)
 have SG:=Lib.hid (dsigned_any H hk X)
 have WD:=Lib.hid (word_any H hk X)
 clear H X
 rcases hc with rfl | rfl | rfl | rfl
 ·have ST:stepL 100 (b.drop k) (d,n)=(sgB (b.getD k 0),n):=by unfold stepL;rw [if_pos rfl,t0]
  rw [ST,show letN 100=1 from rfl]
  obtain ⟨z,hz⟩:∃ z,sgB (b.getD k 0)=z:=⟨_,rfl⟩
  simp only [hz] at SG ⊢
  rw [show (((100:UInt8).toNat:Nat):Int)=100 from rfl]
  clear ST hz t0 t1 NX WD
  go_enter Tryz.func188,Tryz.ntmps188
  go_wp2_with fail
  refine SG.out.mono ?_
  rintro e w1 (⟨h,rfl,h1,h2⟩ | ⟨h,rfl,h1,h2⟩)
  ·obtain ⟨e0,e1,e2,e3,e4,e5,e6⟩:=h1.cells
   have X1:=Lib.hid (h1.set4 z)
   have K1:=Lib.hid (h2.set 4 (.int .i64 z))
   clear h1 h2 SG
   go_wp2
   go_end0
   exact .inl ⟨by omega,rfl,X1.out,K1.out⟩
  ·clear SG
   exact ⟨rfl,.inr ⟨by omega,rfl,h1,h2⟩⟩
 ·have ST:stepL 101 (b.drop k) (d,n)=(d,sgB (b.getD k 0)):=by unfold stepL;rw [if_neg (by decide),if_pos rfl,t0]
  rw [ST,show letN 101=1 from rfl]
  obtain ⟨z,hz⟩:∃ z,sgB (b.getD k 0)=z:=⟨_,rfl⟩
  simp only [hz] at SG ⊢
  rw [show (((101:UInt8).toNat:Nat):Int)=101 from rfl]
  clear ST hz t0 t1 NX WD
  go_enter Tryz.func188,Tryz.ntmps188
  go_wp2_with fail
  refine SG.out.mono ?_
  rintro e w1 (⟨h,rfl,h1,h2⟩ | ⟨h,rfl,h1,h2⟩)
  ·obtain ⟨e0,e1,e2,e3,e4,e5,e6⟩:=h1.cells
   have X1:=Lib.hid (h1.set5 z)
   have K1:=Lib.hid (h2.set 5 (.int .i64 z))
   clear h1 h2 SG
   go_wp2
   go_end0
   exact .inl ⟨by omega,rfl,X1.out,K1.out⟩
  ·clear SG
   exact ⟨rfl,.inr ⟨by omega,rfl,h1,h2⟩⟩
 ·have ST:stepL 110 (b.drop k) (d,n)=(d,((b.getD k 0).toNat:Int)):=by unfold stepL;rw [if_neg (by decide),if_neg (by decide),if_pos rfl,t0]
  rw [ST,show letN 110=1 from rfl]
  obtain ⟨z,hz⟩:∃ z,(b.getD k 0).toNat=z:=⟨_,rfl⟩
  rw [hz] at NX hx ⊢
  rw [show (((110:UInt8).toNat:Nat):Int)=110 from rfl]
  clear ST hz t0 t1 SG WD
  go_enter Tryz.func188,Tryz.ntmps188
  go_wp2_with fail
  refine NX.out.mono ?_
  rintro e w1 (⟨h,rfl,h1,h2⟩ | ⟨h,rfl,h1,h2⟩)
  ·obtain ⟨e0,e1,e2,e3,e4,e5,e6⟩:=h1.cells
   have X1:=Lib.hid (h1.set5 (z:Int))
   have K1:=Lib.hid (h2.set 5 (.int .i64 (z:Int)))
   clear h1 h2 NX
   go_wp2
   go_end0
   exact .inl ⟨by omega,rfl,X1.out,K1.out⟩
  ·clear NX
   exact ⟨rfl,.inr ⟨by omega,rfl,h1,h2⟩⟩
 ·have ST:stepL 119 (b.drop k) (d,n)=(d,((b.getD k 0).toNat:Int)+256*((b.getD (k+1) 0).toNat:Int)):=by unfold stepL;rw [if_neg (by decide),if_neg (by decide),if_neg (by decide),if_pos rfl,t0,t1]
  rw [ST,show letN 119=2 from rfl]
  obtain ⟨z,hz⟩:∃ z,((b.getD k 0).toNat:Int)+256*((b.getD (k+1) 0).toNat:Int)=z:=⟨_,rfl⟩
  simp only [hz] at WD ⊢
  rw [show (((119:UInt8).toNat:Nat):Int)=119 from rfl]
  clear ST hz t0 t1 SG NX
  go_enter Tryz.func188,Tryz.ntmps188
  go_wp2_with fail
  refine WD.out.mono ?_
  rintro e w1 (⟨h,rfl,h1,h2⟩ | ⟨h,rfl,h1,h2⟩)
  ·obtain ⟨e0,e1,e2,e3,e4,e5,e6⟩:=h1.cells
   have X1:=Lib.hid (h1.set5 z)
   have K1:=Lib.hid (h2.set 5 (.int .i64 z))
   clear h1 h2 WD
   go_wp2
   go_end0
   exact .inl ⟨by omega,rfl,X1.out,K1.out⟩
  ·clear WD
   exact ⟨rfl,.inr ⟨by omega,rfl,h1,h2⟩⟩
theorem opcode4_any {w0:World} {D:Nat} {b:Str} {A:Option Addr} {l cap:Nat} (H:DH w0 D b A l cap) {w:World} {k:Nat} (hk:k≤l) {p nd d n:Int} (X:Dec w0 D (.slice A l cap) w k p nd d n) (hp:¬(p=5∨p=6)) :
  Calls Tryz.prog 159 #[.pointer (some ⟨D,0,none⟩)] w fun e w'=>
   (k<l∧DOk w0 D (.slice A l cap) w e w' (.int .u8 ((b.getD k 0).toNat:Int)) (k+1) p ((k:Int)+1) d n)∨(k=l∧DMiss w0 D (.slice A l cap) w e w' l p ((k:Int)+1)):=by
 have hl2:=H.hl2
 obtain ⟨e0,e1,e2,e3,e4,e5,e6⟩:=X.cells
 have X1:=X.set3 ((k:Int)+1)
 have K1:=(DK.refl D w).set 3 (.int .i64 ((k:Int)+1))
 have DI:=isDisp_any H hk X1
 rw [decide_eq_false hp] at DI
 have NX:=Lib.hid (fun w1 h=>next_any H hk (w:=w1) (p:=p) (nd:=(k:Int)+1) (d:=d) (n:=n) h)
 obtain ⟨x,hx⟩:∃ z,(b.getD k 0).toNat=z:=⟨_,rfl⟩
 rw [hx] at NX ⊢
 have K1:=Lib.hid K1
 clear H X X1 hx hp
 go_enter Tryz.func159,Tryz.ntmps159
 go_wp2_with fail
 refine DI.mono ?_
 rintro e w1 ⟨rfl,h1,h2⟩
 have NX1:=NX.out w1 h1
 have K2:=Lib.hid (K1.out.trans h2)
 clear DI h1 h2 K1 NX e0 e1 e2 e3 e4 e5 e6
 go_wp2_with fail
 refine NX1.mono ?_
 rintro e w2 (⟨h,rfl,h1,h2⟩ | ⟨h,rfl,h1,h2⟩)
 ·have h1:=Lib.hid h1
  have h2:=Lib.hid (K2.out.trans h2)
  clear NX1 K2
  go_wp2
  go_ret
  exact .inl ⟨h,rfl,h1.out,h2.out⟩
 ·clear NX1
  exact ⟨rfl,.inr ⟨h,rfl,h1,K2.out.trans h2⟩⟩
theorem opcode5_any {w0:World} {D:Nat} {b:Str} {A:Option Addr} {l cap:Nat} (H:DH w0 D b A l cap) {w:World} {k:Nat} (hk:k≤l) {p nd d n:Int} (X:Dec w0 D (.slice A l cap) w k p nd d n) (hp:p=5∨p=6) :
  Calls Tryz.prog 159 #[.pointer (some ⟨D,0,none⟩)] w fun e w'=>
   (k+1<l∧DOk w0 D (.slice A l cap) w e w' (.int .u8 ((b.getD (k+1) 0).toNat:Int)) (k+2) p ((k:Int)+2) (sgB (b.getD k 0)) n)∨(l≤k+1∧DMiss w0 D (.slice A l cap) w e w' l p ((k:Int)+2)):=by
 have hl2:=H.hl2
 obtain ⟨e0,e1,e2,e3,e4,e5,e6⟩:=X.cells
 have X1:=X.set3 ((k:Int)+1)
 have K1:=(DK.refl D w).set 3 (.int .i64 ((k:Int)+1))
 have DI:=isDisp_any H hk X1
 rw [decide_eq_true hp] at DI
 have SG:=Lib.hid (fun w1 h=>dsigned_any H hk (w:=w1) (p:=p) (nd:=(k:Int)+2) (d:=d) (n:=n) h)
 obtain ⟨y,hy⟩:∃ z,sgB (b.getD k 0)=z:=⟨_,rfl⟩
 rw [hy] at SG ⊢
 have NX:=Lib.hid (fun w1 (h1:k+1≤l) h=>next_any H h1 (w:=w1) (p:=p) (nd:=(k:Int)+2) (d:=y) (n:=n) h)
 obtain ⟨x,hx⟩:∃ z,(b.getD (k+1) 0).toNat=z:=⟨_,rfl⟩
 rw [hx] at NX ⊢
 have K1:=Lib.hid K1
 clear H X X1 hx hp hy
 go_enter Tryz.func159,Tryz.ntmps159
 go_wp2_with fail
 refine DI.mono ?_
 rintro e w1 ⟨rfl,h1,h2⟩
 obtain ⟨f0,f1,f2,f3,f4,f5,f6⟩:=h1.cells
 have SG1:=SG.out _ (show Dec w0 D (.slice A l cap) (w1.setCell ⟨D,3,none⟩ (.int .i64 ((k:Int)+2))) k p ((k:Int)+2) d n from h1.set3 ((k:Int)+2))
 have K2:=Lib.hid ((K1.out.trans h2).set 3 (.int .i64 ((k:Int)+2)))
 clear DI h1 h2 K1 SG e0 e1 e2 e3 e4 e5 e6
 go_wp2_with fail
 refine SG1.mono ?_
 rintro e w2 (⟨h,rfl,h1,h2⟩ | ⟨h,rfl,h1,h2⟩)
 ·obtain ⟨e0,e1,e2,e3,e4,e5,e6⟩:=h1.cells
  have NX1:=NX.out _ h (show Dec w0 D (.slice A l cap) (w2.setCell ⟨D,4,none⟩ (.int .i64 y)) (k+1) p ((k:Int)+2) y n from h1.set4 y)
  have K3:=Lib.hid ((K2.out.trans h2).set 4 (.int .i64 y))
  clear SG1 h1 h2 K2 NX f0 f1 f2 f3 f4 f5 f6
  go_wp2_with fail
  refine NX1.mono ?_
  rintro e w3 (⟨g,rfl,g1,g2⟩ | ⟨g,rfl,g1,g2⟩)
  ·have g1:=Lib.hid g1
   have g2:=Lib.hid (K3.out.trans g2)
   clear NX1 K3
   go_wp2
   go_ret
   exact .inl ⟨g,rfl,g1.out,g2.out⟩
  ·clear NX1
   exact ⟨rfl,.inr ⟨by omega,rfl,g1,K3.out.trans g2⟩⟩
 ·clear SG1 NX
  exact ⟨rfl,.inr ⟨by omega,rfl,h1,K2.out.trans h2⟩⟩
theorem newDec_any (b:Str) (A:Option Addr) (l cap:Nat) (w:World) :
  Calls Tryz.prog 96 #[.slice A l cap] w fun e w'=>e=.returned (.pointer (some ⟨w.heap.size,0,none⟩))∧Dec w w.heap.size (.slice A l cap) w' 0 0 0 0 0∧Below w.heap.size w w':=by
 have X:Hid (Dec w w.heap.size (.slice A l cap) (w.alloc (.cells #[.slice A l cap,.int .i64 0,.int .i64 0,.int .i64 0,.int .i64 0,.int .i64 0] 183)) 0 0 0 0 0):=⟨World.alloc_heap_new w _,(Below.refl _ w).alloc (Nat.le_refl _) _⟩
 go_enter Tryz.func96,Tryz.ntmps96
 go_wp2
 go_ret
 exact ⟨rfl,X.out,X.out.bel⟩
end Go.Proofs.YtajlleeonddinaaGreatDoor
namespace Go.Proofs.YtajlleeonddinaaGreatDoor
open Go.RowKit Go.Shelf
attribute [local go_sem] Oper.semAt_some
theorem trimD_sl (w:World):Calls Tryz.prog 206 #[.string ⟨#[100]⟩,.string ⟨#[100]⟩] w fun e w'=>e=.returned (.string ⟨#[]⟩)∧w'=w:=by
 have hp:=fun w=>hasPrefix_any ⟨#[100]⟩ ⟨#[100]⟩ (by decide) (by decide) w
 rw [show preB (⟨#[100]⟩:ByteArray) ⟨#[100]⟩=true from by decide +kernel] at hp
 go_enter Tryz.func206,Tryz.ntmps206
 go_wp2_with fail
 refine (hp w).mono ?_
 rintro e w' ⟨rfl,rfl⟩
 clear hp
 go_wp2
 go_ret
 exact ⟨rfl,rfl⟩
theorem trimD_any (w:World):Calls Tryz.prog 187 #[.string ⟨#[100]⟩,.string ⟨#[100]⟩] w fun e w'=>e=.returned (.string ⟨#[]⟩)∧w'=w:=by
 go_enter Tryz.func187,Tryz.ntmps187
 go_wp2_with fail
 refine (trimD_sl w).mono ?_
 rintro e w' ⟨rfl,rfl⟩
 go_wp2
 go_ret
 exact ⟨rfl,rfl⟩
def behS (page:Int) (ex:Str):Str:=if 5≤page then [] else ex
theorem next_at {w:World} {it:Nat} {s2:Str} {j:Nat} (hk:w.heap[it]?=some (.stringIter (sB s2) j)) (hj:j<s2.length) (c:Nat) (hc:s2[j].toNat=c) (h:c<128) :
  ∀ ty,(Instr.next (.pointer (some ⟨it,0,none⟩)) true ty).run Tryz.prog w=.ok (.tuple #[.bool true,.int .i64 j,.int .i32 (c:Int)]) (w.iterAt it (sB s2) (j+1)):=fun ty=>by
 have hz:j<(sB s2).size:=by rw [sB_size];exact hj
 have e:(sB s2)[j]=s2[j]:=sB_at s2 j hz hj
 have hc2:((sB s2)[j]).toNat=c:=(congrArg UInt8.toNat e).trans hc
 rw [Lib.run_next_ascii_at w it (sB s2) j ty hk hz (by rw [hc2];exact h),hc2]
end Go.Proofs.YtajlleeonddinaaGreatDoor
namespace Go.Proofs.YtajlleeonddinaaGreatDoor
open Go.RowKit Go.Shelf
attribute [local go_sem] Oper.semAt_some
attribute [local irreducible] Go.Mixed.wpMix
theorem retIt_put {w w1 w2:World} {n:Nat} {x:Ite} {A B:Option Addr} {c c2:Nat} (hn:w.heap.size=n) (hb:Below n w w1) (hz:n<w1.heap.size) (O:TOwnB w1 (n+1) (.slice A x.raw.length c) x.raw) (T:OwnT w1 (n+1) (.slice B x.C.length c2) x.C)
  (hput:Below n w1 w2∧(∀ B u L,n<B→OwnT w1 B u L→OwnT w2 B u L)∧(∀ B u L,n<B→TOwnB w1 B u L→TOwnB w2 B u L)) :
  RetIt w x (.returned (.agg #[.int .i64 x.kind,.slice A x.raw.length c,.string (sB x.m),.slice B x.C.length c2,.bool x.al])) w2:=
 ⟨A,c,B,c2,rfl,by rw [hn];exact (hput.2.2 _ _ _ (by omega) O).lift (by omega),by rw [hn];exact row_mono (hput.2.1 _ _ _ (by omega) T) (by omega),by rw [hn];exact hb.trans hput.1⟩
def itF (n:Nat) (kind:Int) (va:Value) (s:ByteArray) (vb:Value) (al:Bool):Fr.F:=⟨fun w=>ItAt w n kind va s vb al,fun h hb=>h.all hb⟩
def byF (A:Option Addr) (b:Str):Fr.F:=⟨fun w=>BytesAt w A b,fun h hb=>h.below hb⟩
def opF (A:Option Addr) (L:List Tr):Fr.F:=⟨fun w=>OpsP w A L,fun h hb=>h.below hb⟩
theorem it_ownB {w w':World} {b B:Nat} {kind:Int} {va vb u:Value} {s:ByteArray} {al:Bool} {xs:Str} (h:ItAt w b kind va s vb al) (O:TOwnB w B u xs) (k:∀ k,k≠b→w'.heap[k]?=w.heap[k]?):TOwnB w' B u xs:=by
 refine ⟨O.1,?_⟩
 rcases O.2 with h2 | ⟨g,cap,cur,h3,h4,h5,h6⟩
 ·exact .inl h2
 ·refine .inr ⟨g,cap,cur,h3,h4,(k g (fun e=>?_)).trans h5,h6⟩
  subst e
  rw [show w.heap[g]?=_ from h] at h5
  simp at h5
theorem it_ownT {w w':World} {b B:Nat} {kind:Int} {va vb u:Value} {s:ByteArray} {al:Bool} {L:List Tr} (h:ItAt w b kind va s vb al) (O:OwnT w B u L) (k:∀ k,k≠b→w'.heap[k]?=w.heap[k]?):OwnT w' B u L:=by
 refine ⟨O.1,?_⟩
 rcases O.2 with h2 | ⟨g,cap,cur,h3,h4,h5,h6⟩
 ·exact .inl h2
 ·refine .inr ⟨g,cap,cur,h3,h4,(k g (fun e=>?_)).trans h5,h6⟩
  subst e
  rw [show w.heap[g]?=_ from h] at h5
  simp at h5
theorem ItAt.put2 {w:World} {b:Nat} {kind:Int} {va vb:Value} {s:ByteArray} {al:Bool} (h:ItAt w b kind va s vb al) (s':ByteArray) (vb':Value) :
  ∃ w',(w.setCell ⟨b,2,none⟩ (.string s')).setCell ⟨b,3,none⟩ vb'=w'∧ItAt w' b kind va s' vb' al∧Below b w w'∧∀ k,k≠b→w'.heap[k]?=w.heap[k]?:=by
 refine ⟨_,rfl,?_,?_,fun k hk=>?_⟩
 ·exact heap_setCell_same _ b 3 _ _ vb' (heap_setCell_same w b 2 _ _ (.string s') h)
 ·exact ((Below.refl b w).setCell (p:=⟨b,2,none⟩) (Nat.le_refl _) _).setCell (p:=⟨b,3,none⟩) (Nat.le_refl _) _
 ·exact (heap_setCell_other _ ⟨b,3,none⟩ k _ hk).trans (heap_setCell_other _ ⟨b,2,none⟩ k _ hk)
theorem ItAt.put4 {w:World} {b:Nat} {kind:Int} {va vb:Value} {s:ByteArray} {al:Bool} (h:ItAt w b kind va s vb al) (al':Bool) :
  ∃ w',w.setCell ⟨b,4,none⟩ (.bool al')=w'∧ItAt w' b kind va s vb al'∧Below b w w'∧∀ k,k≠b→w'.heap[k]?=w.heap[k]?:=
 ⟨_,rfl,heap_setCell_same w b 4 _ _ _ h,(Below.refl b w).setCell (p:=⟨b,4,none⟩) (Nat.le_refl _) _,fun k hk=>heap_setCell_other _ ⟨b,4,none⟩ k _ hk⟩
theorem rfirst12_any (b:Str) (hb:b≠[]) (A:Option Addr) (cap l:Nat) (hl:b.length=l) (hc:l≤cap) (hcm:cap≤maxLen) (hl2:l≤10000) (w:World) (H:BytesAt w A b) :
  Calls Tryz.prog 38 #[.slice A l cap] w (RetIt w (itR b)):=by
 obtain ⟨n,hn⟩:∃ z,w.heap.size=z:=⟨_,rfl⟩
 have HN:=Lib.hid hn
 obtain ⟨w0,hw0,I0,y0,z0⟩:=it_start w n hn
 have pg:=rpage12_any b hb A cap l hl w0 (H.below y0)
 have IT:=Lib.hid (fun kind k hk w' h=>ritem12_any kind b A cap l hl hc hcm k hk hl2 w' h)
 have HB:Hid (∀ w',Below n w w'→BytesAt w' A b):=fun w' h=>H.below (by rw [hn];exact h)
 have I0:=Lib.hid I0
 have B0:Hid (Below n w w0):=by rw [← hn];exact y0
 obtain ⟨hpr,hp3,hp5⟩:=pg_rng b
 have PN:=Lib.hid (@pg_none b)
 have PS:=Lib.hid (@pg_some b)
 have NX:Hid (nxA b=if 5≤(pgA b).1 then 2 else (pgA b).2+1):=rfl
 have SN:=Lib.hid (fun g i ex (hx:ExP g i ex) hg h=>st_num (b:=b) hx hg h)
 have SB:=Lib.hid (fun g i ex (hx:ExP g i ex) hg h=>st_bnd (b:=b) hx hg h)
 obtain ⟨⟨p,at_⟩,hpa⟩:∃ q,pgA b=q:=⟨_,rfl⟩
 have HPA:=Lib.hid hpa
 rw [hpa] at pg hpr hp3 hp5
 simp only at pg hpr hp3 hp5
 have HL:=Lib.hid hl
 clear H y0 hpa hl hcm hc hb
 go_enter Tryz.func38,Tryz.ntmps38
 go_wp2_with fail
 refine pg.mono ?_
 rintro e w' ⟨rfl,hw⟩
 rw [hw]
 clear pg hw
 by_cases hat:l≤at_
 ·have hh:hdB b=none:=PN.out (by rw [HPA.out,HL.out];exact hat)
  have HI:Hid (itR b=iteO 4 (b.take l)):=by show itR b=_;unfold itR;rw [hh,← HL.out,List.take_length]
  have it:=IT.out 4 l (Nat.le_refl _) w0 (HB.out _ B0.out)
  have LT:Hid ((b.take l).length=l):=by show _=_;rw [List.length_take,HL.out];omega
  clear hh IT PN PS SN SB
  go_wp2_with fail
  refine it.mono ?_
  rintro e w1 ⟨A1,c1,A2,c2,rfl,hO,hT,hbl⟩
  rw [z0] at hO hT
  have I1:=I0.out.all hbl
  have B1:Below n w w1:=B0.out.trans (hbl.mono (by omega))
  simp only [iteO,List.length_nil] at hO hT ⊢
  rw [LT.out] at hO ⊢
  obtain ⟨w2,hw2,i1,i2,i3,i4,i5,i6⟩:=I1.put 4 (.slice A1 l c1) (sB []) (.slice A2 0 c2) false
  have F:=Lib.hid (retIt_put (w:=w) (w2:=w2) (x:=iteO 4 (b.take l)) HN.out B1 I1.lt (by simp only [iteO];rw [LT.out];exact hO) hT ⟨i2,i4,i5⟩)
  obtain ⟨k0,k1,k2,k3,k4,k5⟩:=I1.cells
  obtain ⟨j0,j1,j2,j3,j4,j5⟩:=i1.cells
  simp only [iteO,List.length_nil] at F
  rw [LT.out] at F
  clear it hbl hO hT B1 I1 i1 i2 i3 i4 i5 i6 B0 I0
  go_wp2
  refine bodyPost_ret (v:=.agg #[.int .i64 4,.slice A1 l c1,.string (sB []),.slice A2 0 c2,.bool false]) ?_ rfl ?_
  ·simp [results,Tryz.results38,go_sem,j0,j1,j2,j3,j4]
  ·rw [HI.out]
   exact F.out
 ·have hlt:at_<l:=by omega
  have hhd:=PS.out (by rw [HPA.out,HL.out];exact hlt)
  have SNb:=fun g i ex (hx:ExP g i ex) hg=>SN.out g i ex hx hg (by rw [HPA.out,HL.out];exact hlt)
  have NX2:=NX.out
  simp only [HPA.out] at hhd SNb NX2
  have hab:at_<b.length:=by rw [HL.out];exact hlt
  obtain ⟨g0,off,rfl,kb⟩:=(HB.out _ B0.out).cellAt hab
  obtain ⟨o,ho⟩:∃ o,b[at_]=o:=⟨_,rfl⟩
  rw [ho] at kb hhd
  obtain ⟨rest,hrest⟩:∃ t,(if 5≤p then b.getD 2 0 :: b.drop 4 else b.drop (at_+1))=t:=⟨_,rfl⟩
  rw [hrest] at hhd SNb
  have RA:=rat_any p o.toNat o.toNat_lt w0
  unfold RetRAt at RA
  have HD:=Lib.hid hhd
  have HITR:Hid (itR b=match ratT p o.toNat with
   | none=>if rkindT p o.toNat=0 then iteO 2 (b.take 1) else iteO 3 (b.take 2)
   | some x=>if b.length<sizeT p x.2.2.1 then iteO 4 b else ⟨1,b.take (sizeT p x.2.2.1),x.1,(fillV x.2.2.1 x.2.1 (numB x.2.2.1 rest).1 (numB x.2.2.1 rest).2).getD [],x.2.2.2⟩):=by
   show itR b=_
   unfold itR
   rw [hhd]
   try rfl
  have hk:=@hd_kind b p o rest hhd
  have hdl:=hd_len hhd
  have EXP:=@exP_of p o.toNat o.toNat_lt
  have PLC:=@plc_of p o.toNat o.toNat_lt
  cases hx:ratT p o.toNat with
  | none=>
   rw [hx] at RA HITR
   simp only at RA HITR
   obtain ⟨kd,hkd⟩:∃ k,rkindT p o.toNat=k:=⟨_,rfl⟩
   have hkk:=hk hx
   rw [hkd] at RA HITR hkk
   have SZ:Hid (kd=3→2≤l):=fun h=>by
    have h2:p=2:=by rcases hkk with h0 | h0;omega;exact h0.2
    have:=hdl.1
    rw [h2,HL.out] at this
    exact this
   have h03:kd=0∨kd=3:=by rcases hkk with h | h;exact .inl h;exact .inr h.1
   clear hk hkk hkd hx hhd hdl EXP PLC SNb PN PS SN SB NX NX2 hp5 hp3 hpr hrest ho
   unfold enV at RA
   go_wp2_with fail
   refine RA.mono ?_
   rintro e w1 ⟨rfl,hbl⟩
   have B1:Below n w w1:=B0.out.trans (hbl.mono (by omega))
   have I1:=I0.out.all hbl
   have z1:n<w1.heap.size:=I1.lt
   clear RA hbl B0 I0 kb
   go_upto_region 5 with fail
   obtain ⟨wx,hwx⟩:∃ z,w1.alloc (.cells #[.int .i64 0,.int .u8 0,.string (sB []),.slice none 0 0,.string (sB []),.bool false] 64)=z:=⟨_,rfl⟩
   have yx:Below w1.heap.size w1 wx:=by rw [← hwx];exact up_alloc _ _
   have IX:=Lib.hid (I1.all yx)
   have BX:Hid (Below n w wx):=B1.trans (yx.mono (by omega))
   have zx:Hid (n+1≤wx.heap.size):=by have:=yx.size;show _≤_;omega
   rw [hwx]
   clear hwx B1 I1 z1 yx
   rcases h03 with rfl | rfl
   ·have it:=IT.out 2 1 (by omega) wx (HB.out _ BX.out)
    have HI:Hid (itR b=iteO 2 (b.take 1)):=by show itR b=_;rw [HITR.out,if_pos rfl]
    have LT:Hid ((b.take 1).length=1):=by show _=_;rw [List.length_take,HL.out];omega
    clear IT HITR
    go_wp2_with fail
    refine it.mono ?_
    rintro e w2 ⟨A1,c1,A2,c2,rfl,hO,hT,hbl⟩
    have I2:=IX.out.all hbl
    have B2:Below n w w2:=BX.out.trans (hbl.mono (by have:=zx.out;omega))
    have hO:=hO.lift zx.out
    have hT:=row_mono hT zx.out
    simp only [iteO,List.length_nil] at hO hT ⊢
    rw [LT.out] at hO ⊢
    obtain ⟨w3,hw3,i1,i2,i3,i4,i5,i6⟩:=I2.put 2 (.slice A1 1 c1) (sB []) (.slice A2 0 c2) false
    have F:=Lib.hid (retIt_put (w:=w) (w2:=w3) (x:=iteO 2 (b.take 1)) HN.out B2 I2.lt (by simp only [iteO];rw [LT.out];exact hO) hT ⟨i2,i4,i5⟩)
    obtain ⟨k0,k1,k2,k3,k4,k5⟩:=I2.cells
    obtain ⟨j0,j1,j2,j3,j4,j5⟩:=i1.cells
    simp only [iteO,List.length_nil] at F
    rw [LT.out] at F
    clear it hbl hO hT B2 I2 i1 i2 i3 i4 i5 i6 BX IX
    go_wp2
    refine bodyPost_ret (v:=.agg #[.int .i64 2,.slice A1 1 c1,.string (sB []),.slice A2 0 c2,.bool false]) ?_ rfl ?_
    ·simp [results,Tryz.results38,go_sem,j0,j1,j2,j3,j4]
    ·rw [HI.out]
     exact F.out
   ·have it:=IT.out 3 2 (SZ.out rfl) wx (HB.out _ BX.out)
    have HI:Hid (itR b=iteO 3 (b.take 2)):=by show itR b=_;rw [HITR.out,if_neg (by decide)]
    have LT:Hid ((b.take 2).length=2):=by show _=_;rw [List.length_take,HL.out];have:=SZ.out rfl;omega
    clear IT HITR
    go_wp2_with fail
    refine it.mono ?_
    rintro e w2 ⟨A1,c1,A2,c2,rfl,hO,hT,hbl⟩
    have I2:=IX.out.all hbl
    have B2:Below n w w2:=BX.out.trans (hbl.mono (by have:=zx.out;omega))
    have hO:=hO.lift zx.out
    have hT:=row_mono hT zx.out
    simp only [iteO,List.length_nil] at hO hT ⊢
    rw [LT.out] at hO ⊢
    obtain ⟨w3,hw3,i1,i2,i3,i4,i5,i6⟩:=I2.put 3 (.slice A1 2 c1) (sB []) (.slice A2 0 c2) false
    have F:=Lib.hid (retIt_put (w:=w) (w2:=w3) (x:=iteO 3 (b.take 2)) HN.out B2 I2.lt (by simp only [iteO];rw [LT.out];exact hO) hT ⟨i2,i4,i5⟩)
    obtain ⟨k0,k1,k2,k3,k4,k5⟩:=I2.cells
    obtain ⟨j0,j1,j2,j3,j4,j5⟩:=i1.cells
    simp only [iteO,List.length_nil] at F
    rw [LT.out] at F
    clear it hbl hO hT B2 I2 i1 i2 i3 i4 i5 i6 BX IX
    go_wp2
    refine bodyPost_ret (v:=.agg #[.int .i64 3,.slice A1 2 c1,.string (sB []),.slice A2 0 c2,.bool false]) ?_ rfl ?_
    ·simp [results,Tryz.results38,go_sem,j0,j1,j2,j3,j4]
    ·rw [HI.out]
     exact F.out
  | some x=>
   obtain ⟨m,L,ex,al⟩:=x
   rw [hx] at RA HITR
   simp only at RA HITR
   have hxp:=EXP hx
   have hplc:=PLC hx
   have hin:InTab (p,(o.toNat:Int),m,L,ex,al):=⟨o.toNat,o.toNat_lt,rfl,hx⟩
   have ok:=hin.ok
   have q1:=ok.ex
   have q2:=ok.len
   have q3:=ok.places
   simp only at q1 q2 q3 hxp hplc
   obtain ⟨C,hC⟩:=fill_in hxp hplc (numB_in hxp rest)
   have hst:=SNb p o.toNat ex hxp rfl
   have hbd:=fun hz=>SB.out p o.toNat ex hxp (by rw [HPA.out]) hz
   have hss:=sz_same hxp
   rw [hC,Option.getD_some] at HITR
   obtain ⟨nx,hnx⟩:∃ z,nxA b=z:=⟨_,rfl⟩
   have hnx3:nx≤4∧(if 5≤p then (2:Nat) else at_+1)=nx:=by rw [← hnx,NX2];split <;> omega
   rw [hnx] at hst hbd
   obtain ⟨sz,hsz⟩:∃ z,sizeT p ex=z:=⟨_,rfl⟩
   rw [hsz] at HITR hbd hss
   have SZ:=Lib.hid (fun A n cap w'=>rsize_any p (o.toNat:Int) m A n cap ex (by omega) al w')
   rw [hss] at SZ
   obtain ⟨dn,hdn⟩:∃ z,numB ex rest=z:=⟨_,rfl⟩
   rw [hdn] at hst hC
   have RF:=Lib.hid (fun A cap w' h=>rfill_any p (o.toNat:Int) m A cap L.length L rfl (by omega) ex (by omega) al dn.1 dn.2 w' h)
   rw [fill_same q3,hC] at RF
   unfold RetRFill at RF
   simp only at RF
   have HST:=Lib.hid hst
   have HBD:=Lib.hid hbd
   have hsz4:1≤sz∧sz≤4:=by have:=(enc_len hin 0 0).2;simp only at this;omega
   unfold enV at RA SZ RF
   clear hk hx hhd hdl EXP PLC SNb PN PS SN SB NX hin ok hxp hplc hC hst hbd hss hnx hdn hrest ho hsz q3 NX2 hp5 hp3 hpr
   go_wp2_with fail
   refine RA.mono ?_
   rintro e w1 ⟨⟨v,rfl,hOv⟩,hbl⟩
   obtain ⟨A1,c1,rfl,hP1,-⟩:=hOv.ops
   have S1:Hid (Fr.St w1 [opF A1 L,itF n 0 (.slice none 0 0) ⟨#[]⟩ (.slice none 0 0) false,byF (some ⟨g0,off,none⟩) b,Fr.bel n w]):=
    ⟨hP1,I0.out.all hbl,(HB.out _ B0.out).below hbl,⟨B0.out.trans (hbl.mono (by omega)),by have:=hbl.size;show n≤_;omega⟩,trivial⟩
   clear RA hbl B0 I0 kb hOv hP1 HB
   go_upto_region 5 with fail
   obtain ⟨nb,wx,hnb,hwx,SX,yx,zx⟩:=Fr.box S1 #[.int .i64 p,.int .u8 (o.toNat:Int),.string (sB m),.slice A1 L.length c1,.string (sB ex),.bool al] 64
   rw [hwx,hnb]
   clear hwx S1 yx
   obtain ⟨e0,e1,e2,e3,e4,e5⟩:=Fr.cells6 SX.out.1
   go_wp2_with fail
   refine (SZ.out A1 L.length c1 wx).mono ?_
   rintro e wy ⟨rfl,hbl⟩
   have SY:=Fr.up SX hbl
   clear SZ SX hbl e0 e1 e2 e3 e4 e5
   by_cases hz:l<sz
   ·have hz2:(sz:Int) > (l:Int):=by omega
    have it:=IT.out 4 l (Nat.le_refl _) wy SY.out.2.2.2.1
    have HI:Hid (itR b=iteO 4 (b.take l)):=by show itR b=_;rw [HITR.out,if_pos (by rw [HL.out];exact hz),← HL.out,List.take_length]
    have LT:Hid ((b.take l).length=l):=by show _=_;rw [List.length_take,HL.out];omega
    have BX:=SY.out.2.2.2.2.1
    have IX:=Lib.hid SY.out.2.2.1
    have zn:n+1≤wy.heap.size:=IX.out.lt
    clear IT HITR SY RF HST HBD
    go_wp2_with fail
    refine it.mono ?_
    rintro e w2 ⟨A1',c1',A2,c2,rfl,hO,hT,hbl⟩
    have I2:ItAt w2 n _ _ _ _ _:=IX.out.all hbl
    have B2:Below n w w2:=BX.1.trans (hbl.mono BX.2)
    have hO:=hO.lift zn
    have hT:=row_mono hT zn
    simp only [iteO,List.length_nil] at hO hT ⊢
    rw [LT.out] at hO ⊢
    obtain ⟨w3,hw3,i1,i2,i3,i4,i5,i6⟩:=I2.put 4 (.slice A1' l c1') (sB []) (.slice A2 0 c2) false
    have F:=Lib.hid (retIt_put (w:=w) (w2:=w3) (x:=iteO 4 (b.take l)) HN.out B2 I2.lt (by simp only [iteO];rw [LT.out];exact hO) hT ⟨i2,i4,i5⟩)
    obtain ⟨k0,k1,k2,k3,k4,k5⟩:=I2.cells
    obtain ⟨j0,j1,j2,j3,j4,j5⟩:=i1.cells
    simp only [iteO,List.length_nil] at F
    rw [LT.out] at F
    clear it hbl hO hT B2 I2 i1 i2 i3 i4 i5 i6 BX IX
    go_wp2
    refine bodyPost_ret (v:=.agg #[.int .i64 4,.slice A1' l c1',.string (sB []),.slice A2 0 c2,.bool false]) ?_ rfl ?_
    ·simp [results,Tryz.results38,go_sem,j0,j1,j2,j3,j4]
    ·rw [HI.out]
     exact F.out
   ·have hz2:¬((sz:Int) > (l:Int)):=by omega
    have hbd:=HBD.out (by rw [HL.out];omega)
    have BD:=Lib.hid hbd
    have HI:Hid (itR b=⟨1,b.take sz,m,C,al⟩):=by show itR b=_;rw [HITR.out,if_neg (by rw [HL.out];exact hz)]
    obtain ⟨s,hs⟩:∃ s,sB ex=s:=⟨_,rfl⟩
    have hzs:s.size=ex.length:=by rw [← hs,sB_size]
    have HAT:Hid (∀ k (h:k<s.size) (h':k<ex.length),s[k]=ex[k]):=fun k h h'=>by subst hs;exact sB_at ex k h h'
    obtain ⟨lx,hlx⟩:∃ z,ex.length=z:=⟨_,rfl⟩
    rw [hlx] at hzs q1
    have HLX:=Lib.hid hlx
    rw [hs] at SY RF
    rw [hlx] at HST
    clear hbd HBD HITR hlx hs
    have NXI:Hid ((5≤p→(nx:Int)=2)∧(¬5≤p→(nx:Int)=(at_:Int)+1)):=by
     refine ⟨fun h=>?_,fun h=>?_⟩
     ·have:=hnx3.2;rw [if_pos h] at this;omega
     ·have:=hnx3.2;rw [if_neg h] at this;omega
    by_cases h5:5≤p
    case' pos=>
     have HX:Hid ((nx:Int)=2):=NXI.out.1 h5
     go_upto_region 18 with fail
    case' neg=>
     have HX:Hid ((nx:Int)=(at_:Int)+1):=NXI.out.2 h5
     go_upto_region 18 with fail
    all_goals clear NXI h5 hnx3 hz
    all_goals
     go_wp2
     go_loopw [8,9,10,11] (fun vd vn vx vi wr=>∃ j:Nat,j≤lx∧vi=.int .i64 j∧vx=.int .i64 ((nx+j:Nat):Int)∧vd=.int .i64 (stJ ex b nx j).1∧vn=.int .i64 (stJ ex b nx j).2∧Hid (Below wy.heap.size wy wr)) (fun _ _ _ vi _=>lx - (intOf vi).toNat)
     case atStart=>exact ⟨0,Nat.zero_le _,rfl,by have:=HX.out;simp;omega,rfl,rfl,Below.refl _ _⟩
     case round=>
      obtain ⟨j,hj,rfl,rfl,rfl,rfl,W⟩:=hrel
      have SY:=Fr.up SY W.out
      obtain ⟨e0,e1,e2,e3,e4,e5⟩:=Fr.cells6 SY.out.1
      by_cases hlt:j<lx
      ·have hjx:j<ex.length:=by rw [HLX.out];exact hlt
       have hjs:j<s.size:=by omega
       obtain ⟨b1,b2,b4⟩:=BD.out j hjx
       have f1:=HAT.out j hjs hjx
       obtain ⟨g',off',eg,kb⟩:=(show BytesAt wr (some ⟨g0,off,none⟩) b from SY.out.2.2.2.1).cellAt b1
       simp only [Option.some.injEq,Addr.mk.injEq] at eg
       obtain ⟨rfl,rfl,-⟩:=eg
       have STE:stJ ex b nx (j+1)=stepL ex[j] (b.drop (nx+j)) (stJ ex b nx j):=by
        show stepL (ex.getD j 0) _ _=_
        rw [List.getD_eq_getElem?_getD,List.getElem?_eq_getElem hjx]
        rfl
       have hd0:(b.drop (nx+j)).getD 0 0=b[nx+j]:=by rw [getD_drop,Nat.add_zero,List.getD_eq_getElem?_getD,List.getElem?_eq_getElem b1];rfl
       have hbl:nx+j<l:=by rw [← HL.out];exact b1
       obtain ⟨x0,hx0⟩:∃ x,b[nx+j]=x:=⟨_,rfl⟩
       rw [hx0] at kb hd0
       have hx255:=x0.toNat_lt
       have SG:=rsigned_any (x0.toNat:Int) (by omega) (by omega) wr
       rw [show sgnI (x0.toNat:Int)=sgB x0 from rfl] at SG
       obtain ⟨cc,hcc⟩:∃ x,ex[j]=x:=⟨_,rfl⟩
       rw [hcc] at f1 b2 b4 STE
       obtain ⟨⟨sd,sn⟩,hsd⟩:∃ q,stJ ex b nx j=q:=⟨_,rfl⟩
       rw [hsd] at STE ⊢
       simp only
       clear hx0 hcc hsd HAT
       rcases b4 with rfl | rfl | rfl | rfl
       ·have f2:(s[j].toNat:Int)=100:=by rw [f1];rfl
        have STF:Hid (stJ ex b nx (j+1)=(sgB x0,sn)):=by show _=_;rw [STE];unfold stepL;rw [if_pos rfl,hd0]
        clear f1 b2 STE hd0
        go_wp2_with fail
        refine SG.mono ?_
        rintro e w' ⟨rfl,rfl⟩
        clear SG
        go_wp2
        go_roundw
        case rel=>exact ⟨j+1,by omega,by go_num,by go_num,by rw [STF.out],by rw [STF.out],W⟩
        case measure=>simp [intOf];omega
       ·have f2:(s[j].toNat:Int)=101:=by rw [f1];rfl
        have STF:Hid (stJ ex b nx (j+1)=(sd,sgB x0)):=by show _=_;rw [STE];unfold stepL;rw [if_neg (by decide),if_pos rfl,hd0]
        clear f1 b2 STE hd0
        go_wp2_with fail
        refine SG.mono ?_
        rintro e w' ⟨rfl,rfl⟩
        clear SG
        go_wp2
        go_roundw
        case rel=>exact ⟨j+1,by omega,by go_num,by go_num,by rw [STF.out],by rw [STF.out],W⟩
        case measure=>simp [intOf];omega
       ·have f2:(s[j].toNat:Int)=110:=by rw [f1];rfl
        have STF:Hid (stJ ex b nx (j+1)=(sd,(x0.toNat:Int))):=by show _=_;rw [STE];unfold stepL;rw [if_neg (by decide),if_neg (by decide),if_pos rfl,hd0]
        clear f1 b2 STE hd0 SG
        go_wp2
        go_roundw
        case rel=>exact ⟨j+1,by omega,by go_num,by go_num,by rw [STF.out],by rw [STF.out],W⟩
        case measure=>simp [intOf];omega
       ·have f2:(s[j].toNat:Int)=119:=by rw [f1];rfl
        have b3:=b2 rfl
        obtain ⟨g',off',eg,kb1⟩:=(show BytesAt wr (some ⟨g0,off,none⟩) b from SY.out.2.2.2.1).cellAt b3
        simp only [Option.some.injEq,Addr.mk.injEq] at eg
        obtain ⟨rfl,rfl,-⟩:=eg
        have hbl1:nx+j+1<l:=by rw [← HL.out];exact b3
        have hd1:(b.drop (nx+j)).getD 1 0=b[nx+j+1]:=by rw [getD_drop,List.getD_eq_getElem?_getD,List.getElem?_eq_getElem b3];rfl
        obtain ⟨x1,hx1⟩:∃ x,b[nx+j+1]=x:=⟨_,rfl⟩
        rw [hx1] at kb1 hd1
        have hx1255:=x1.toNat_lt
        have STF:Hid (stJ ex b nx (j+1)=(sd,(x0.toNat:Int)+256*(x1.toNat:Int))):=by show _=_;rw [STE];unfold stepL;rw [if_neg (by decide),if_neg (by decide),if_neg (by decide),if_pos rfl,hd0,hd1]
        clear f1 b2 STE hd0 hd1 SG hx1
        obtain ⟨w3,hw3⟩:∃ w3,wr.drew=w3:=⟨_,rfl⟩
        have W3:Hid (Below wy.heap.size wy w3):=W.out.trans ((show Below wr.heap.size wr w3 by rw [← hw3];exact below_drewN wr _ 1).mono W.out.size)
        go_upto_region 29 with fail
        refine Mixed.wp_region_mixed (fun w'=>w'.cell? ⟨g0,off+(nx+j),none⟩=some (.int .u8 (x0.toNat:Int))∧w'.cell? ⟨g0,off+(nx+j+1),none⟩=some (.int .u8 (x1.toNat:Int))) 13 [(0,true),(1,true),(2,true),(3,true),(4,true),(5,true),(6,true),(7,true),(8,true),(9,true),(10,true),(11,true),(12,true)] (by kernel_rfl) (by kernel_rfl) ⟨kb,kb1⟩ ?_
        clear SY e0 e1 e2 e3 e4 e5 kb kb1
        refine Mixed.wpMix_move rfl (by kernel_rfl) _ rfl _ rfl ?_
        refine Mixed.wpMix_move rfl (by kernel_rfl) _ rfl _ rfl ?_
        refine Mixed.wpMix_pure rfl (by kernel_rfl) (.pointer (some ⟨g0,off+(nx+j),none⟩)) (fun w h=>by clear h;go_simp;rw [if_pos (by omega),show ((nx:Int)+(j:Int)).toNat=nx+j from by omega]) ?_
        refine Mixed.wpMix_pure rfl (by kernel_rfl) (.int .u8 (x0.toNat:Int)) (fun w h=>by obtain ⟨h1,h2⟩:=h;go_simp;try rfl) ?_
        refine Mixed.wpMix_pure rfl (by kernel_rfl) (.int .i64 (x0.toNat:Int)) (fun w h=>by clear h;go_simp;rw [IntKind.wrap_i64];omega) ?_
        refine Mixed.wpMix_move rfl (by kernel_rfl) _ rfl _ rfl ?_
        refine Mixed.wpMix_move rfl (by kernel_rfl) _ rfl _ rfl ?_
        refine Mixed.wpMix_pure rfl (by kernel_rfl) (.int .i64 ((nx+j+1:Nat):Int)) (fun w h=>by clear h;go_simp;rw [IntKind.wrap_i64];omega) ?_
        refine Mixed.wpMix_pure rfl (by kernel_rfl) (.pointer (some ⟨g0,off+(nx+j+1),none⟩)) (fun w h=>by clear h;go_simp;rw [if_pos (by omega),show ((nx:Int)+(j:Int)+1).toNat=nx+j+1 from by omega]) ?_
        refine Mixed.wpMix_pure rfl (by kernel_rfl) (.int .u8 (x1.toNat:Int)) (fun w h=>by obtain ⟨h1,h2⟩:=h;go_simp;try rfl) ?_
        refine Mixed.wpMix_pure rfl (by kernel_rfl) (.int .i64 (x1.toNat:Int)) (fun w h=>by clear h;go_simp;rw [IntKind.wrap_i64];omega) ?_
        refine Mixed.wpMix_pure rfl (by kernel_rfl) (.int .i64 (256*(x1.toNat:Int))) (fun w h=>by clear h;go_simp;rw [IntKind.wrap_i64];omega) ?_
        refine Mixed.wpMix_pure rfl (by kernel_rfl) (.int .i64 ((x0.toNat:Int)+256*(x1.toNat:Int))) (fun w h=>by clear h;go_simp;rw [IntKind.wrap_i64];omega) ?_
        simp only [Mixed.wpMix,List.drop_succ_cons,List.drop_zero]
        go_wp2
        go_roundw
        case rel=>exact ⟨j+1,by omega,by go_num,by go_num,by rw [STF.out],by rw [STF.out],W3⟩
        case measure=>simp [intOf];omega
      ·obtain rfl:j=lx:=by omega
       have HDN:=HST.out
       have it:=IT.out 1 sz (by omega) wr SY.out.2.2.2.1
       have LT:Hid ((b.take sz).length=sz):=by show _=_;rw [List.length_take,HL.out];omega
       have BN:=SY.out.2.2.2.2.1
       have zn:n+1≤wr.heap.size:=(show ItAt wr n _ _ _ _ _ from SY.out.2.2.1).lt
       rw [HDN]
       clear BD HAT HST HDN IT HX
       go_upto_region 31 with fail
       go_wp2_with fail
       refine it.mono ?_
       rintro e w2 ⟨A1',c1',A2,c2,rfl,hO,hT,hbl⟩
       have S2:=Fr.up SY hbl
       simp only [iteO,List.length_nil] at hO hT ⊢
       rw [LT.out] at hO ⊢
       obtain ⟨m2,hm2⟩:∃ z,w2.heap.size=z:=⟨_,rfl⟩
       obtain ⟨w3,hw3,I3,y3,z3⟩:=it_start w2 m2 hm2
       obtain ⟨w4,hw4,I4,y4,z4,-,-,x4⟩:=I3.put 1 (.slice A1' sz c1') (sB []) (.slice A2 0 c2) false
       have O4:=Lib.hid (it_ownB I3 (TOwnB.below hO y3) x4)
       have B4:Below w2.heap.size w2 w4:=y3.trans (by rw [hm2];exact y4)
       have S4:=Fr.up S2 B4
       have RFx:=RF.out A1 c1 w4 S4.out.2.1
       obtain ⟨k0,k1,k2,k3,k4,k5⟩:=I3.cells
       obtain ⟨e0,e1,e2,e3,e4,e5⟩:=Fr.cells6 S4.out.1
       have I4:=Lib.hid I4
       have B4:=Lib.hid B4
       clear RF SY it hbl hO hT I3 y3 y4 x4 S4
       go_wp2_with fail
       refine RFx.mono ?_
       rintro e w5 ⟨v,rfl,hO5,hb5⟩
       obtain ⟨A9,c9,rfl,-,-⟩:=hO5.ops
       have I5:ItAt w5 m2 _ _ _ _ _:=I4.out.all hb5
       have O5:=TOwnB.below O4.out hb5
       have B5:Below m2 w4 w5:=hb5.mono (by omega)
       obtain ⟨w6,hw6,I6,y6,x6⟩:=I5.put2 (sB m) (.slice A9 C.length c9)
       have O6:=it_ownB I5 O5 x6
       have T6:=it_ownT I5 hO5 x6
       have B6:Below w2.heap.size w2 w6:=B4.out.trans (by rw [hm2];exact B5.trans y6)
       have S6:=Fr.up S2 B6
       obtain ⟨w7,hw7,I7,y7,x7⟩:=I6.put4 al
       have O7:=it_ownB I6 O6 x7
       have T7:=it_ownT I6 T6 x7
       have B7:Below w2.heap.size w2 w7:=B6.trans (by rw [hm2];exact y7)
       have S7:=Fr.up S2 B7
       have In:ItAt w7 n _ _ _ _ _:=S7.out.2.2.1
       obtain ⟨w8,hw8,i1,i2,-,i4,i5,-⟩:=In.put 1 (.slice A1' sz c1') (sB m) (.slice A9 C.length c9) al
       have zw:n+1≤w4.heap.size:=by
        have h1:=BN.1.size
        have h2:=I4.out.lt
        have h3:=In.lt
        have h4:=(show ItAt w2 n _ _ _ _ _ from S2.out.2.2.1).lt
        omega
       have F:=Lib.hid (retIt_put (w:=w) (w2:=w8) (x:=⟨1,b.take sz,m,C,al⟩) HN.out S7.out.2.2.2.2.1.1 In.lt (by show TOwnB w7 (n+1) (.slice A1' (b.take sz).length c1') _;rw [LT.out];exact O7.lift zn) (row_mono T7 zw) ⟨i2,i4,i5⟩)
       obtain ⟨q0,q1,q2,q3,q4,q5⟩:=I5.cells
       obtain ⟨r0,r1,r2,r3,r4,r5⟩:=I6.cells
       obtain ⟨t0,t1,t2,t3,t4,t5⟩:=I7.cells
       obtain ⟨u0,u1,u2,u3,u4,u5⟩:=In.cells
       obtain ⟨j0,j1,j2,j3,j4,j5⟩:=i1.cells
       obtain ⟨-,-,-,-,-,v5⟩:=Fr.cells6 S6.out.1
       simp only [] at F
       rw [LT.out] at F
       clear RFx hO5 hb5 I5 O5 B5 I6 y6 x6 O6 T6 B6 S6 I7 y7 x7 O7 T7 B7 S7 In i1 i2 i4 i5 k0 k1 k2 k3 k4 k5 e0 e1 e2 e3 e4 e5 O4 B4 I4 S2 zw LT
       go_wp2
       refine bodyPost_ret (v:=.agg #[.int .i64 1,.slice A1' sz c1',.string (sB m),.slice A9 C.length c9,.bool al]) ?_ rfl ?_
       ·simp [results,Tryz.results38,go_sem,j0,j1,j2,j3,j4]
       ·rw [HI.out]
        exact F.out
end Go.Proofs.YtajlleeonddinaaGreatDoor
