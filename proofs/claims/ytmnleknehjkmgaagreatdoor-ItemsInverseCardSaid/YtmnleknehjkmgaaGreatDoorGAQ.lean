/-
  DgA, DgB, DgC, TrD, SeD.
-/
import Derived.Test.YtmnleknehjkmgaaGreatDoorGAP
import Derived.Test.YtmnleknehjkmgaaGreatDoorGAA
import Derived.Deep.QuietTactic
import Derived.BigQuiet
import Derived.Deep.DeepCutAuto
import Derived.Deep.Cut
import Derived.Test.YtmnleknehjkmgaaGreatDoorGAI
import Derived.WalkSmall
import Derived.Laws.RangeString
import Derived.Laws.RangeAny
import Derived.Lib.OthersKept
import Derived.Test.YtmnleknehjkmgaaGreatDoorGAC
import Derived.Test.YtmnleknehjkmgaaGreatDoorGAG
set_option linter.all false
set_option maxRecDepth 100000
set_option maxHeartbeats 4000000
namespace Go.Proofs.YtmnleknehjkmgaaGreatDoor
open Go.RowKit
theorem page_cases {p:Int} (hp:0≤p∧p≤6):p=0∨p=1∨p=2∨p=3∨p=4∨p=5∨p=6:=by omega
theorem hd_at {p:Int} (hp:0≤p∧p≤4) (o:UInt8) (t:Str) (h0:p=0→o≠203∧o≠221∧o≠237∧o≠253) (h3:p=3∨p=4→o≠203):hdB (preS p++o :: t)=some (p,o,t):=by
 rcases (by omega:p=0∨p=1∨p=2∨p=3∨p=4) with rfl | rfl | rfl | rfl | rfl
 ·obtain ⟨a,b,c,d⟩:=h0 rfl
  show hdB (o :: t)=_
  simp only [hdB]
  rw [if_neg a,if_neg c,if_neg b,if_neg d]
 ·rfl
 ·rfl
 ·have h:=h3 (.inl rfl)
  show hdB (221 :: o :: t)=_
  simp only [hdB]
  rw [if_neg (by decide),if_neg (by decide),if_pos (by decide),if_neg h]
 ·have h:=h3 (.inr rfl)
  show hdB (253 :: o :: t)=_
  simp only [hdB]
  rw [if_neg (by decide),if_neg (by decide),if_neg (by decide),if_pos (by decide),if_neg h]
theorem hd_at5 {p:Int} (hp:5≤p∧p≤6) (x o:UInt8) (t:Str):hdB (preS p++x :: o :: t)=some (p,o,x :: t):=by
 rcases (by omega:p=5∨p=6) with rfl | rfl <;> rfl
theorem hd_some {p:Int} (hp:0≤p∧p≤4) {o:UInt8} (t:Str) {x:En} (h:ratT p o.toNat=some x):hdB (preS p++o :: t)=some (p,o,t):=by
 have hx:=exP_of o.toNat_lt h
 have ne:∀ n:Nat,n<256→o.toNat≠n→o≠UInt8.ofNat n:=fun n hn hh e=>hh (by rw [e,UInt8.toNat_ofNat_of_lt' hn])
 refine hd_at hp o t (fun h0=>?_) (fun h3=>ne 203 (by decide) (hx.ind h3))
 obtain ⟨a,b,c,d⟩:=hx.main h0
 exact ⟨ne 203 (by decide) a,ne 221 (by decide) b,ne 237 (by decide) c,ne 253 (by decide) d⟩
theorem knd_of {p:Int} (hp:0≤p∧p≤6) {o:UInt8} (h:ratT p o.toNat=none) :
  (rkindT p o.toNat=2∧p≤4∧∃ p',pageT (preS p++[o])=some p'∧preS p'=preS p++[o]∧0≤p'∧p'≤6)∨
  ((rkindT p o.toNat=0∨rkindT p o.toNat=3∧p=2)∧(p≤4→∀ t,hdB (preS p++o :: t)=some (p,o,t))):=by
 have hlt:=o.toNat_lt
 have ho:o=UInt8.ofNat o.toNat:=by simp
 have hk:=knd_k ⟨p.toNat,by omega⟩ ⟨o.toNat,hlt⟩
 unfold kndB at hk
 simp only at hk
 rw [show ((p.toNat:Nat):Int)=p by omega,h] at hk
 simp only [Option.isSome_none,Bool.false_or,Bool.or_eq_true,Bool.and_eq_true,decide_eq_true_eq,beq_iff_eq] at hk
 have two:∀ q:Int,(q=0∧(o=203∨o=221∨o=237∨o=253))∨((q=3∨q=4)∧o=203)→q=p→(rkindT p o.toNat=2∧p≤4∧∃ p',pageT (preS p++[o])=some p'∧preS p'=preS p++[o]∧0≤p'∧p'≤6):=by
  intro q hq e
  subst e
  rcases hq with ⟨rfl,rfl | rfl | rfl | rfl⟩ | ⟨rfl | rfl,rfl⟩
  ·exact ⟨rfl,by decide,1,rfl,rfl,by decide,by decide⟩
  ·exact ⟨rfl,by decide,3,rfl,rfl,by decide,by decide⟩
  ·exact ⟨rfl,by decide,2,rfl,rfl,by decide,by decide⟩
  ·exact ⟨rfl,by decide,4,rfl,rfl,by decide,by decide⟩
  ·exact ⟨rfl,by decide,5,rfl,rfl,by decide,by decide⟩
  ·exact ⟨rfl,by decide,6,rfl,rfl,by decide,by decide⟩
 have on:∀ n:Nat,n<256→o.toNat=n→o=UInt8.ofNat n:=fun n hn e=>by rw [ho,e]
 by_cases hpre:(p=0∧(o=203∨o=221∨o=237∨o=253))∨((p=3∨p=4)∧o=203)
 ·exact .inl (two p hpre rfl)
 ·have hat:p≤4→∀ t,hdB (preS p++o :: t)=some (p,o,t):=fun h4 t=>hd_at ⟨hp.1,h4⟩ o t
   (fun h0=>⟨fun e=>hpre (.inl ⟨h0,.inl e⟩),fun e=>hpre (.inl ⟨h0,.inr (.inl e)⟩),fun e=>hpre (.inl ⟨h0,.inr (.inr (.inl e))⟩),fun e=>hpre (.inl ⟨h0,.inr (.inr (.inr e))⟩)⟩)
   (fun h3 e=>hpre (.inr ⟨h3,e⟩))
  refine .inr ⟨?_,hat⟩
  rcases hk with ((hk | ⟨hk,h2⟩) | ⟨h0,hk⟩) | ⟨h3,hk⟩
  ·exact .inl hk
  ·exact .inr ⟨hk,by omega⟩
  ·exfalso
   refine hpre (.inl ⟨by omega,?_⟩)
   rcases hk with ((hk | hk) | hk) | hk
   ·exact .inl (on 203 (by decide) hk)
   ·exact .inr (.inl (on 221 (by decide) hk))
   ·exact .inr (.inr (.inl (on 237 (by decide) hk)))
   ·exact .inr (.inr (.inr (on 253 (by decide) hk)))
  ·exfalso
   exact hpre (.inr ⟨by omega,on 203 (by decide) hk⟩)
theorem miss4 {p:Int} (hp:0≤p∧p≤4):itR (preS p)=iteO 4 (preS p)∧needR (preS p)=(preS p).length+1:=by
 rcases (by omega:p=0∨p=1∨p=2∨p=3∨p=4) with rfl | rfl | rfl | rfl | rfl <;> exact ⟨rfl,rfl⟩
theorem miss5 {p:Int} (hp:5≤p∧p≤6) {r:Str} (hr:r.length≤1):itR (preS p++r)=iteO 4 (preS p++r)∧needR (preS p++r)=4:=by
 match r,hr with
 | [],_=>rcases (by omega:p=5∨p=6) with rfl | rfl <;> exact ⟨rfl,rfl⟩
 | [x],_=>rcases (by omega:p=5∨p=6) with rfl | rfl <;> exact ⟨rfl,rfl⟩
 | _ :: _ :: _,h=>simp at h
theorem it_of {b:Str} {p:Int} {o:UInt8} {t:Str} (h:hdB b=some (p,o,t)):itR b=match ratT p o.toNat with
   | none=>if rkindT p o.toNat=0 then iteO 2 (b.take 1) else iteO 3 (b.take 2)
   | some x=>if b.length<sizeT p x.2.2.1 then iteO 4 b else ⟨1,b.take (sizeT p x.2.2.1),x.1,(fillV x.2.2.1 x.2.1 (numB x.2.2.1 t).1 (numB x.2.2.1 t).2).getD [],x.2.2.2⟩:=by
 unfold itR
 rw [h]
 try rfl
def mS (s0:Int×Int) (ex:Str) (b:Str) (k:Nat):Nat→Int×Int
 | 0=>s0
 | j+1=>stepL (ex.getD j 0) (b.drop (k+sumN ex j)) (mS s0 ex b k j)
theorem mS_succ (s0:Int×Int) {ex:Str} (b:Str) (k:Nat) {j:Nat} (hj:j<ex.length):mS s0 ex b k (j+1)=stepL ex[j] (b.drop (k+sumN ex j)) (mS s0 ex b k j):=by
 show stepL (ex.getD j 0) _ _=_
 rw [List.getD_eq_getElem?_getD,List.getElem?_eq_getElem hj]
 rfl
theorem mS_num {g:Int} {i:Nat} {ex:Str} (hx:ExP g i ex) (b:Str) (k:Nat):mS (0,0) ex b k ex.length=numB ex (b.drop k):=by
 rcases hx.lst with rfl | rfl | rfl | rfl | rfl | rfl
 ·rw [num_0];rfl
 ·rw [num_d];rfl
 ·rw [num_e];rfl
 ·rw [num_n];rfl
 ·rw [num_w];rfl
 ·rw [num_dn]
  show stepL 110 (b.drop (k+1)) (stepL 100 (b.drop (k+0)) (0,0))=_
  have e1:stepL 100 (b.drop (k+0)) (0,0)=(sgB ((b.drop k).getD 0 0),0):=by unfold stepL;rw [if_pos rfl];rfl
  rw [e1]
  unfold stepL
  rw [if_neg (by decide),if_neg (by decide),if_pos rfl]
  simp only [getD_drop,Nat.add_zero]
theorem sumN_all (ex:Str) {j:Nat} (h:j≤ex.length):sumN ex j≤sumN ex ex.length:=by
 have e:ex=ex.take j++ex.drop j:=(List.take_append_drop j ex).symm
 have h1:sumN ex ex.length=sumN ex j+((ex.drop j).map letN).sum:=by
  unfold sumN
  rw [List.take_length]
  conv=>lhs;rw [e]
  rw [List.map_append,List.sum_append]
 omega
theorem ex_let {g:Int} {i:Nat} {ex:Str} (hx:ExP g i ex) {j:Nat} (hj:j<ex.length):ex[j]=100∨ex[j]=101∨ex[j]=110∨ex[j]=119:=by
 have hm:=List.getElem_mem hj
 generalize ex[j]=c at hm ⊢
 rcases hx.lst with rfl | rfl | rfl | rfl | rfl | rfl
 ·cases hm
 ·exact .inl (List.mem_singleton.1 hm)
 ·exact .inr (.inl (List.mem_singleton.1 hm))
 ·exact .inr (.inr (.inl (List.mem_singleton.1 hm)))
 ·exact .inr (.inr (.inr (List.mem_singleton.1 hm)))
 ·rcases List.mem_cons.1 hm with h | h
  ·exact .inl h
  ·exact .inr (.inr (.inl (List.mem_singleton.1 h)))
theorem ex_len {g:Int} {i:Nat} {ex:Str} (hx:ExP g i ex):ex.length≤2:=by
 rcases hx.lst with rfl | rfl | rfl | rfl | rfl | rfl <;> decide
theorem pre_5 {p:Int} (h:5≤p∧p≤6):(preS p).length=2:=by
 rcases (by omega:p=5∨p=6) with rfl | rfl <;> rfl
end Go.Proofs.YtmnleknehjkmgaaGreatDoor
namespace Go.Proofs.YtmnleknehjkmgaaGreatDoor
open Go.RowKit Go.Shelf
attribute [local go_sem] Oper.semAt_some
structure Dec (w0:World) (D:Nat) (S:Value) (w:World) (k:Nat) (p nd d n:Int):Prop where
 blk:w.heap[D]?=some (.cells #[S,.int .i64 k,.int .i64 p,.int .i64 nd,.int .i64 d,.int .i64 n] 124 (0,0))
 bel:Below D w0 w
structure DK (D:Nat) (w w':World):Prop where
 size:w.heap.size≤w'.heap.size
 same:∀ k,k<w.heap.size→k≠D→w'.heap[k]?=w.heap[k]?
section
variable {w0 w w':World} {D:Nat} {S:Value} {k:Nat} {p nd d n:Int}
theorem Dec.lt (h:Dec w0 D S w k p nd d n):D<w.heap.size:=(Array.getElem?_eq_some_iff.1 h.blk).1
theorem Dec.all (h:Dec w0 D S w k p nd d n) (hb:Below w.heap.size w w'):Dec w0 D S w' k p nd d n:=
 ⟨(hb.block D h.lt).trans h.blk,h.bel.trans (hb.mono (Nat.le_of_lt h.lt))⟩
theorem Dec.cells (h:Dec w0 D S w k p nd d n):w.cell? ⟨D,0,none⟩=some S∧w.cell? ⟨D,1,none⟩=some (.int .i64 k)∧w.cell? ⟨D,2,none⟩=some (.int .i64 p)∧w.cell? ⟨D,3,none⟩=some (.int .i64 nd)∧w.cell? ⟨D,4,none⟩=some (.int .i64 d)∧w.cell? ⟨D,5,none⟩=some (.int .i64 n)∧∀ i,w.frozen? ⟨D,i,none⟩=false:=
 ⟨Lib.cell_of_heap h.blk 0,Lib.cell_of_heap h.blk 1,Lib.cell_of_heap h.blk 2,Lib.cell_of_heap h.blk 3,Lib.cell_of_heap h.blk 4,Lib.cell_of_heap h.blk 5,fun i=>Lib.frozen_of_heap h.blk i⟩
theorem Dec.set1 (h:Dec w0 D S w k p nd d n) (x:Nat):Dec w0 D S (w.setCell ⟨D,1,none⟩ (.int .i64 x)) x p nd d n:=
 ⟨heap_setCell_same w D 1 _ _ (.int .i64 x) h.blk,h.bel.setCell (p:=⟨D,1,none⟩) (Nat.le_refl _) _⟩
theorem Dec.set2 (h:Dec w0 D S w k p nd d n) (x:Int):Dec w0 D S (w.setCell ⟨D,2,none⟩ (.int .i64 x)) k x nd d n:=
 ⟨heap_setCell_same w D 2 _ _ (.int .i64 x) h.blk,h.bel.setCell (p:=⟨D,2,none⟩) (Nat.le_refl _) _⟩
theorem Dec.set3 (h:Dec w0 D S w k p nd d n) (x:Int):Dec w0 D S (w.setCell ⟨D,3,none⟩ (.int .i64 x)) k p x d n:=
 ⟨heap_setCell_same w D 3 _ _ (.int .i64 x) h.blk,h.bel.setCell (p:=⟨D,3,none⟩) (Nat.le_refl _) _⟩
theorem Dec.set4 (h:Dec w0 D S w k p nd d n) (x:Int):Dec w0 D S (w.setCell ⟨D,4,none⟩ (.int .i64 x)) k p nd x n:=
 ⟨heap_setCell_same w D 4 _ _ (.int .i64 x) h.blk,h.bel.setCell (p:=⟨D,4,none⟩) (Nat.le_refl _) _⟩
theorem Dec.set5 (h:Dec w0 D S w k p nd d n) (x:Int):Dec w0 D S (w.setCell ⟨D,5,none⟩ (.int .i64 x)) k p nd d x:=
 ⟨heap_setCell_same w D 5 _ _ (.int .i64 x) h.blk,h.bel.setCell (p:=⟨D,5,none⟩) (Nat.le_refl _) _⟩
theorem DK.refl (D:Nat) (w:World):DK D w w:=⟨Nat.le_refl _,fun _ _ _=>rfl⟩
theorem DK.of_below (h:Below w.heap.size w w'):DK D w w':=⟨h.size,fun k hk _=>h.block k hk⟩
theorem DK.trans {w'':World} (h:DK D w w') (h':DK D w' w''):DK D w w'':=
 ⟨Nat.le_trans h.size h'.size,fun k hk hb=>(h'.same k (Nat.lt_of_lt_of_le hk h.size) hb).trans (h.same k hk hb)⟩
theorem DK.set (h:DK D w w') (j:Nat) (u:Value):DK D w (w'.setCell ⟨D,j,none⟩ u):=
 ⟨by simpa using h.size,fun k hk hb=>(heap_setCell_other w' ⟨D,j,none⟩ k u hb).trans (h.same k hk hb)⟩
theorem Dec.bytes {b:Str} {A:Option Addr} (h:Dec w0 D S w k p nd d n) (hD:w0.heap.size≤D) (H:BytesAt w0 A b):BytesAt w A b:=H.below (h.bel.mono hD)
end
def missE:List PanicEntry:=[{v:=.iface 126 (.agg #[]),recovered:=false}]
structure DH (w0:World) (D:Nat) (b:Str) (A:Option Addr) (l cap:Nat):Prop where
 hl:b.length=l
 hl2:l≤100000
 hD:w0.heap.size≤D
 H0:BytesAt w0 A b
 hc:l≤cap
 hcm:cap≤maxLen
def DOk (w0:World) (D:Nat) (S:Value) (w:World) (e:Ending) (w':World) (v:Value) (k:Nat) (p nd d n:Int):Prop:=e=.returned v∧Dec w0 D S w' k p nd d n∧DK D w w'
def DMiss (w0:World) (D:Nat) (S:Value) (w:World) (e:Ending) (w':World) (l:Nat) (p nd:Int):Prop:=e=.panicked missE∧(∃ d n,Dec w0 D S w' l p nd d n)∧DK D w w'
theorem DH.byte {w0:World} {D:Nat} {b:Str} {A:Option Addr} {l cap:Nat} (H:DH w0 D b A l cap) {k:Nat} (hk:k<l) {w:World} (h:Below D w0 w):∃ g off,A=some ⟨g,off,none⟩∧w.cell? ⟨g,off+k,none⟩=some (.int .u8 ((b.getD k 0).toNat:Int)):=by
 have hkb:k<b.length:=by have:=H.hl;omega
 obtain ⟨g,off,h1,h2⟩:=(H.H0.below (h.mono H.hD)).cellAt hkb
 refine ⟨g,off,h1,?_⟩
 rw [h2,List.getD_eq_getElem?_getD,List.getElem?_eq_getElem hkb]
 rfl
theorem next_any {w0:World} {D:Nat} {b:Str} {A:Option Addr} {l cap:Nat} (H:DH w0 D b A l cap) {w:World} {k:Nat} (hk:k≤l) {p nd d n:Int} (X:Dec w0 D (.slice A l cap) w k p nd d n) :
  Calls Tryz.prog 126 #[.pointer (some ⟨D,0,none⟩)] w fun e w'=>
   (k<l∧DOk w0 D (.slice A l cap) w e w' (.int .u8 ((b.getD k 0).toNat:Int)) (k+1) p nd d n)∨(k=l∧DMiss w0 D (.slice A l cap) w e w' l p nd):=by
 have hl2:=H.hl2
 have dq:=fun q=>below_drewN w w.heap.size q
 obtain ⟨e0,e1,e2,e3,e4,e5,e6⟩:=X.cells
 by_cases h:k<l
 ·have HB:=Lib.hid (fun w2 (h2:Below D w0 w2)=>H.byte h h2)
  obtain ⟨x,hx⟩:∃ z,b.getD k 0=z:=⟨_,rfl⟩
  rw [hx] at HB ⊢
  have X2:Hid (∀ q,Dec w0 D (.slice A l cap) ((w.drewN q).setCell ⟨D,1,none⟩ (.int .i64 ((k:Int)+1))) (k+1) p nd d n):=fun q=>(X.all (dq q)).set1 (k+1)
  have K2:Hid (∀ q,DK D w ((w.drewN q).setCell ⟨D,1,none⟩ (.int .i64 ((k:Int)+1)))):=fun q=>(DK.of_below (dq q)).set 1 _
  have hkn:((k:Int) == (l:Int))=false:=beq_eq_false_iff_ne.2 (by omega)
  clear H X dq hx
  go_enter Tryz.func126,Tryz.ntmps126
  go_wp2
  go_quiet (fail)
  go_upto_region 4 with fail
  have X3:=X2.out nq
  have K3:=Lib.hid (K2.out nq)
  obtain ⟨w2,hw2⟩:∃ z,(w.drewN nq).setCell ⟨D,1,none⟩ (.int .i64 ((k:Int)+1))=z:=⟨_,rfl⟩
  rw [hw2] at X3 K3 ⊢
  clear e0 e1 e2 e3 e4 e5 e6 X2 K2 hw2
  obtain ⟨g,off,eA,kb⟩:=HB.out w2 X3.bel
  obtain ⟨e0,e1,e2,e3,e4,e5,e6⟩:=X3.cells
  have X3:=Lib.hid X3
  have dq:=Lib.hid (fun q=>below_drewN w2 w2.heap.size q)
  subst eA
  go_wp2
  go_quiet (fail)
  go_wp2
  go_ret
  exact .inl ⟨h,rfl,X3.out.all (dq.out _),K3.out.trans (DK.of_below (dq.out _))⟩
 ·obtain rfl:k=l:=by omega
  have X2:Hid (∀ q,Dec w0 D (.slice A k cap) (w.drewN q) k p nd d n):=fun q=>X.all (dq q)
  have K2:Hid (∀ q,DK D w (w.drewN q)):=fun q=>DK.of_below (dq q)
  have hkn:((k:Int) == (k:Int))=true:=beq_iff_eq.2 rfl
  clear H X dq h
  go_enter Tryz.func126,Tryz.ntmps126
  go_wp2
  go_quiet (fail)
  go_wp2
  exact ⟨rfl,.inr ⟨trivial,rfl,⟨d,n,X2.out _⟩,K2.out _⟩⟩
theorem dsigned_any {w0:World} {D:Nat} {b:Str} {A:Option Addr} {l cap:Nat} (H:DH w0 D b A l cap) {w:World} {k:Nat} (hk:k≤l) {p nd d n:Int} (X:Dec w0 D (.slice A l cap) w k p nd d n) :
  Calls Tryz.prog 125 #[.pointer (some ⟨D,0,none⟩)] w fun e w'=>
   (k<l∧DOk w0 D (.slice A l cap) w e w' (.int .i64 (sgB (b.getD k 0))) (k+1) p nd d n)∨(k=l∧DMiss w0 D (.slice A l cap) w e w' l p nd):=by
 have N:=next_any H hk X
 have hx:=(b.getD k 0).toNat_lt
 have SG:=Lib.hid (fun w=>signed_any ((b.getD k 0).toNat:Int) (by omega) (by omega) w)
 clear H X hx
 go_enter Tryz.func125,Tryz.ntmps125
 go_wp2_with fail
 refine N.mono ?_
 rintro e w' (⟨h,rfl,h1,h2⟩ | ⟨h,rfl,h1,h2⟩)
 ·have h1:=Lib.hid h1
  have h2:=Lib.hid h2
  clear N
  go_wp2_with fail
  refine (SG.out _).mono ?_
  rintro e w2 ⟨rfl,hw⟩
  clear SG
  go_wp2
  go_ret
  first | subst hw | (rw [← hw]) | skip
  exact .inl ⟨h,rfl,h1.out,h2.out⟩
 ·clear N SG
  exact ⟨rfl,.inr ⟨h,rfl,h1,h2⟩⟩
theorem word_any {w0:World} {D:Nat} {b:Str} {A:Option Addr} {l cap:Nat} (H:DH w0 D b A l cap) {w:World} {k:Nat} (hk:k≤l) {p nd d n:Int} (X:Dec w0 D (.slice A l cap) w k p nd d n) :
  Calls Tryz.prog 147 #[.pointer (some ⟨D,0,none⟩)] w fun e w'=>
   (k+1<l∧DOk w0 D (.slice A l cap) w e w' (.int .i64 (((b.getD k 0).toNat:Int)+256*((b.getD (k+1) 0).toNat:Int))) (k+2) p nd d n)∨(l≤k+1∧DMiss w0 D (.slice A l cap) w e w' l p nd):=by
 have N:=next_any H hk X
 have HH:=Lib.hid (fun w1 (hk1:k+1≤l) (h1:Dec w0 D (.slice A l cap) w1 (k+1) p nd d n)=>next_any H hk1 h1)
 have hx:=(b.getD k 0).toNat_lt
 have hy:=(b.getD (k+1) 0).toNat_lt
 obtain ⟨x,hxx⟩:∃ z,(b.getD k 0).toNat=z:=⟨_,rfl⟩
 obtain ⟨y,hyy⟩:∃ z,(b.getD (k+1) 0).toNat=z:=⟨_,rfl⟩
 rw [hxx] at N hx ⊢
 rw [hyy] at HH hy ⊢
 clear H X hxx hyy
 go_enter Tryz.func147,Tryz.ntmps147
 go_wp2_with fail
 refine N.mono ?_
 rintro e w1 (⟨h,rfl,h1,h2⟩ | ⟨h,rfl,h1,h2⟩)
 ·have N1:=HH.out w1 (by omega) h1
  have h2:=Lib.hid h2
  clear N h1 HH
  go_wp2_with fail
  refine N1.mono ?_
  rintro e w2 (⟨g,rfl,g1,g2⟩ | ⟨g,rfl,g1,g2⟩)
  ·have g1:=Lib.hid g1
   have g2:=Lib.hid (h2.out.trans g2)
   clear N1 h2
   go_wp2
   go_ret
   exact .inl ⟨g,rfl,g1.out,g2.out⟩
  ·clear N1
   exact ⟨rfl,.inr ⟨by omega,rfl,g1,h2.out.trans g2⟩⟩
 ·clear N HH
  exact ⟨rfl,.inr ⟨by omega,rfl,h1,h2⟩⟩
theorem keep_any {w0:World} {D:Nat} {b:Str} {A:Option Addr} {l cap:Nat} (H:DH w0 D b A l cap) {w:World} {k:Nat} (hk:k≤l) {p nd d n:Int} (X:Dec w0 D (.slice A l cap) w k p nd d n) :
  Calls Tryz.prog 93 #[.pointer (some ⟨D,0,none⟩)] w fun e w'=>DOk w0 D (.slice A l cap) w e w' (.tuple #[]) 1 p nd d n:=by
 obtain ⟨e0,e1,e2,e3,e4,e5,e6⟩:=X.cells
 have X1:=Lib.hid (X.set1 1)
 have K1:=Lib.hid ((DK.refl D w).set 1 (.int .i64 ((1:Nat):Int)))
 clear H X
 go_enter Tryz.func93,Tryz.ntmps93
 go_wp2
 go_end0
 exact ⟨rfl,X1.out,K1.out⟩
theorem isDisp_any {w0:World} {D:Nat} {b:Str} {A:Option Addr} {l cap:Nat} (H:DH w0 D b A l cap) {w:World} {k:Nat} (hk:k≤l) {p nd d n:Int} (X:Dec w0 D (.slice A l cap) w k p nd d n) :
  Calls Tryz.prog 124 #[.pointer (some ⟨D,0,none⟩)] w fun e w'=>DOk w0 D (.slice A l cap) w e w' (.bool (decide (p=5∨p=6))) k p nd d n:=by
 obtain ⟨e0,e1,e2,e3,e4,e5,e6⟩:=X.cells
 have X1:=Lib.hid X
 clear H X
 by_cases h5:p=5
 ·subst h5
  have h:=Lib.hid (show decide ((5:Int)=5∨(5:Int)=6)=true from rfl)
  go_enter Tryz.func124,Tryz.ntmps124
  go_wp2
  go_ret
  exact ⟨rfl,X1.out,DK.refl _ _⟩
 ·have t5:(p == 5)=false:=beq_eq_false_iff_ne.2 h5
  have h:=Lib.hid (show decide (p=5∨p=6)=(p == 6) from by
   by_cases h6:p=6
   ·subst h6;rfl
   ·rw [decide_eq_false (by omega),beq_eq_false_iff_ne.2 h6])
  obtain ⟨t,ht⟩:∃ t,(p == 6)=t:=⟨_,rfl⟩
  rw [ht] at h
  clear h5
  go_enter Tryz.func124,Tryz.ntmps124
  go_wp2
  go_ret
  exact ⟨by rw [h.out];rfl,X1.out,DK.refl _ _⟩
end Go.Proofs.YtmnleknehjkmgaaGreatDoor
namespace Go.Proofs.YtmnleknehjkmgaaGreatDoor
open Go.RowKit Go.Shelf
attribute [local go_sem] Oper.semAt_some
theorem bclone_any (A:Option Addr) (cap l:Nat) (xs:Str) (hl:xs.length=l) (hl2:l≤100000) (w:World) (hx:BytesAt w A xs) :
  Calls Tryz.prog 88 #[.slice A l cap] w fun e w'=>∃ A' c',e=.returned (.slice A' l c')∧TOwnB w' w.heap.size (.slice A' l c') xs∧Below w.heap.size w w':=by
 cases A with
 | none=>
  obtain rfl:xs=[]:=by
   rcases hx with h | ⟨b,off,h,_⟩
   ·exact h
   ·cases h
  obtain rfl:l=0:=hl.symm
  clear hx hl
  have hnil:=fun w=>Lib.run_eql_slice_nil (P:=Tryz.prog) w 27 5 none 0 cap 0 0 Tryz.underlying27
  go_enter Tryz.func88,Tryz.ntmps88
  go_wp2
  go_ret
  exact ⟨none,0,rfl,townB_nil _ _,Below.refl _ _⟩
 | some a=>
  have O1:=Lib.hid (own_lit w [] (by decide))
  have hb:Below w.heap.size w (w.alloc (.cells #[] 5)):=(Below.refl _ w).alloc (Nat.le_refl _) _
  have P1:=Lib.hid (hx.below hb)
  have B1:=Lib.hid hb
  have HL:=Lib.hid hl
  clear hx hb hl
  go_enter Tryz.func88,Tryz.ntmps88
  have hnil:=fun w=>Lib.run_eql_slice_nil (P:=Tryz.prog) w 27 5 (some a) l cap 0 0 Tryz.underlying27
  go_wp2_with (at_builtin;refine wpList_appBs (xs:=[]) (ys:=xs) O1.out P1.out B1.out.size (by rw [HL.out];simp;omega) rfl _ _ rfl rfl rfl l HL.out rfl l (by simp) ?_;intro A2 c2 w2 h1 h2;have O2:=Lib.hid h1;have B2:=Lib.hid h2;clear h1 h2)
  go_ret
  exact ⟨A2,c2,rfl,O2.out,B1.out.trans B2.out⟩
theorem taken_any {w0:World} {D:Nat} {b:Str} {A:Option Addr} {l cap:Nat} (H:DH w0 D b A l cap) {w:World} {k:Nat} (hk:k≤l) {p nd d n:Int} (X:Dec w0 D (.slice A l cap) w k p nd d n) :
  Calls Tryz.prog 65 #[.pointer (some ⟨D,0,none⟩)] w fun e w'=>∃ A' c',e=.returned (.slice A' k c')∧TOwnB w' w.heap.size (.slice A' k c') (b.take k)∧Below w.heap.size w w':=by
 obtain ⟨e0,e1,e2,e3,e4,e5,e6⟩:=X.cells
 have hl2:=H.hl2
 have hkc:¬cap<k:=by have:=H.hc;omega
 have hcm:=H.hcm
 have LT:Hid ((b.take k).length=k):=by show _=_;rw [List.length_take,H.hl];omega
 obtain ⟨w1,hw1⟩:∃ z,w.drew=z:=⟨_,rfl⟩
 have dq:Below w.heap.size w w1:=by rw [← hw1];exact below_drewN w _ 1
 have zq:w1.heap.size=w.heap.size:=by rw [← hw1];rfl
 have CL:=Lib.hid (bclone_any A cap k (b.take k) LT.out (by omega) w1 (take_at ((X.bytes H.hD H.H0).below dq) k))
 have DQ:=Lib.hid dq
 have ZQ:=Lib.hid zq
 unfold maxLen at hcm
 clear H X dq zq
 go_enter Tryz.func65,Tryz.ntmps65
 go_wp2
 refine Mixed.wp_region_mixed (fun w'=>w'.cell? ⟨D,0,none⟩=some (.slice A l cap)∧w'.cell? ⟨D,1,none⟩=some (.int .i64 (k:Int))) 9 [(0,true),(1,true),(2,true),(3,true),(4,true),(5,true),(6,true),(7,true),(8,true)] (by kernel_rfl) (by kernel_rfl) ⟨e0,e1⟩ ?_
 clear e0 e1 e2 e3 e4 e5 e6
 refine Mixed.mp rfl (.pointer (some ⟨D,0,none⟩)) ?_
 refine Mixed.mp rfl (.pointer (some ⟨D,0,none⟩)) ?_
 refine Mixed.mp rfl (.pointer (some ⟨D,0,none⟩)) ?_
 refine Mixed.mo rfl (.slice A l cap) (fun w h=>by obtain ⟨h1,h2⟩:=h;go_simp;try rfl) ?_
 refine Mixed.mp rfl (.pointer (some ⟨D,0,none⟩)) ?_
 refine Mixed.mp rfl (.pointer (some ⟨D,0,none⟩)) ?_
 refine Mixed.mp rfl (.pointer (some ⟨D,1,none⟩)) ?_
 refine Mixed.mo rfl (.int .i64 (k:Int)) (fun w h=>by obtain ⟨h1,h2⟩:=h;go_simp;try rfl) ?_
 refine Mixed.mo rfl (.slice A k cap) (fun w h=>by clear h;go_simp;try rfl) ?_
 simp only [Mixed.wpMix,List.drop_succ_cons,List.drop_zero]
 rw [hw1]
 clear hw1
 go_wp2_with fail
 refine CL.out.mono ?_
 rintro e w2 ⟨A2,c2,rfl,hO,hb⟩
 rw [ZQ.out] at hO hb
 have O2:=Lib.hid hO
 have B2:=Lib.hid (DQ.out.trans hb)
 clear hO hb CL DQ
 go_wp2
 go_ret
 exact ⟨A2,c2,rfl,O2.out,B2.out⟩
theorem take_any {w0:World} {D:Nat} {b:Str} {A:Option Addr} {l cap:Nat} (H:DH w0 D b A l cap) {w:World} {k:Nat} (hk:k≤l) {p nd d n:Int} (X:Dec w0 D (.slice A l cap) w k p nd d n) {c:UInt8} (hc:c=100∨c=101∨c=110∨c=119) :
  Calls Tryz.prog 128 #[.pointer (some ⟨D,0,none⟩),.int .i32 (c.toNat:Int)] w fun e w'=>
   (k+letN c≤l∧DOk w0 D (.slice A l cap) w e w' (.tuple #[]) (k+letN c) p nd (stepL c (b.drop k) (d,n)).1 (stepL c (b.drop k) (d,n)).2)∨(l<k+letN c∧DMiss w0 D (.slice A l cap) w e w' l p nd):=by
 have t0:(b.drop k).getD 0 0=b.getD k 0:=by rw [getD_drop];rfl
 have t1:(b.drop k).getD 1 0=b.getD (k+1) 0:=by rw [getD_drop]
 have hx:=(b.getD k 0).toNat_lt
 have NX:=Lib.hid (next_any H hk X)
 have SG:=Lib.hid (dsigned_any H hk X)
 have WD:=Lib.hid (word_any H hk X)
 clear H X
 rcases hc with rfl | rfl | rfl | rfl
 ·have ST:stepL 100 (b.drop k) (d,n)=(sgB (b.getD k 0),n):=by unfold stepL;rw [if_pos rfl,t0]
  rw [ST,show letN 100=1 from rfl]
  obtain ⟨z,hz⟩:∃ z,sgB (b.getD k 0)=z:=⟨_,rfl⟩
  simp only [hz] at SG ⊢
  rw [show (((100:UInt8).toNat:Nat):Int)=100 from rfl]
  clear ST hz t0 t1 NX WD
  go_enter Tryz.func128,Tryz.ntmps128
  go_wp2_with fail
  refine SG.out.mono ?_
  rintro e w1 (⟨h,rfl,h1,h2⟩ | ⟨h,rfl,h1,h2⟩)
  ·obtain ⟨e0,e1,e2,e3,e4,e5,e6⟩:=h1.cells
   have X1:=Lib.hid (h1.set4 z)
   have K1:=Lib.hid (h2.set 4 (.int .i64 z))
   clear h1 h2 SG
   go_wp2
   go_end0
   exact .inl ⟨by omega,rfl,X1.out,K1.out⟩
  ·clear SG
   exact ⟨rfl,.inr ⟨by omega,rfl,h1,h2⟩⟩
 ·have ST:stepL 101 (b.drop k) (d,n)=(d,sgB (b.getD k 0)):=by unfold stepL;rw [if_neg (by decide),if_pos rfl,t0]
  rw [ST,show letN 101=1 from rfl]
  obtain ⟨z,hz⟩:∃ z,sgB (b.getD k 0)=z:=⟨_,rfl⟩
  simp only [hz] at SG ⊢
  rw [show (((101:UInt8).toNat:Nat):Int)=101 from rfl]
  clear ST hz t0 t1 NX WD
  go_enter Tryz.func128,Tryz.ntmps128
  go_wp2_with fail
  refine SG.out.mono ?_
  rintro e w1 (⟨h,rfl,h1,h2⟩ | ⟨h,rfl,h1,h2⟩)
  ·obtain ⟨e0,e1,e2,e3,e4,e5,e6⟩:=h1.cells
   have X1:=Lib.hid (h1.set5 z)
   have K1:=Lib.hid (h2.set 5 (.int .i64 z))
   clear h1 h2 SG
   go_wp2
   go_end0
   exact .inl ⟨by omega,rfl,X1.out,K1.out⟩
  ·clear SG
   exact ⟨rfl,.inr ⟨by omega,rfl,h1,h2⟩⟩
 ·have ST:stepL 110 (b.drop k) (d,n)=(d,((b.getD k 0).toNat:Int)):=by unfold stepL;rw [if_neg (by decide),if_neg (by decide),if_pos rfl,t0]
  rw [ST,show letN 110=1 from rfl]
  obtain ⟨z,hz⟩:∃ z,(b.getD k 0).toNat=z:=⟨_,rfl⟩
  rw [hz] at NX hx ⊢
  rw [show (((110:UInt8).toNat:Nat):Int)=110 from rfl]
  clear ST hz t0 t1 SG WD
  go_enter Tryz.func128,Tryz.ntmps128
  go_wp2_with fail
  refine NX.out.mono ?_
  rintro e w1 (⟨h,rfl,h1,h2⟩ | ⟨h,rfl,h1,h2⟩)
  ·obtain ⟨e0,e1,e2,e3,e4,e5,e6⟩:=h1.cells
   have X1:=Lib.hid (h1.set5 (z:Int))
   have K1:=Lib.hid (h2.set 5 (.int .i64 (z:Int)))
   clear h1 h2 NX
   go_wp2
   go_end0
   exact .inl ⟨by omega,rfl,X1.out,K1.out⟩
  ·clear NX
   exact ⟨rfl,.inr ⟨by omega,rfl,h1,h2⟩⟩
 ·have ST:stepL 119 (b.drop k) (d,n)=(d,((b.getD k 0).toNat:Int)+256*((b.getD (k+1) 0).toNat:Int)):=by unfold stepL;rw [if_neg (by decide),if_neg (by decide),if_neg (by decide),if_pos rfl,t0,t1]
  rw [ST,show letN 119=2 from rfl]
  obtain ⟨z,hz⟩:∃ z,((b.getD k 0).toNat:Int)+256*((b.getD (k+1) 0).toNat:Int)=z:=⟨_,rfl⟩
  simp only [hz] at WD ⊢
  rw [show (((119:UInt8).toNat:Nat):Int)=119 from rfl]
  clear ST hz t0 t1 SG NX
  go_enter Tryz.func128,Tryz.ntmps128
  go_wp2_with fail
  refine WD.out.mono ?_
  rintro e w1 (⟨h,rfl,h1,h2⟩ | ⟨h,rfl,h1,h2⟩)
  ·obtain ⟨e0,e1,e2,e3,e4,e5,e6⟩:=h1.cells
   have X1:=Lib.hid (h1.set5 z)
   have K1:=Lib.hid (h2.set 5 (.int .i64 z))
   clear h1 h2 WD
   go_wp2
   go_end0
   exact .inl ⟨by omega,rfl,X1.out,K1.out⟩
  ·clear WD
   exact ⟨rfl,.inr ⟨by omega,rfl,h1,h2⟩⟩
theorem opcode4_any {w0:World} {D:Nat} {b:Str} {A:Option Addr} {l cap:Nat} (H:DH w0 D b A l cap) {w:World} {k:Nat} (hk:k≤l) {p nd d n:Int} (X:Dec w0 D (.slice A l cap) w k p nd d n) (hp:¬(p=5∨p=6)) :
  Calls Tryz.prog 90 #[.pointer (some ⟨D,0,none⟩)] w fun e w'=>
   (k<l∧DOk w0 D (.slice A l cap) w e w' (.int .u8 ((b.getD k 0).toNat:Int)) (k+1) p ((k:Int)+1) d n)∨(k=l∧DMiss w0 D (.slice A l cap) w e w' l p ((k:Int)+1)):=by
 have hl2:=H.hl2
 obtain ⟨e0,e1,e2,e3,e4,e5,e6⟩:=X.cells
 have X1:=X.set3 ((k:Int)+1)
 have K1:=(DK.refl D w).set 3 (.int .i64 ((k:Int)+1))
 have DI:=isDisp_any H hk X1
 rw [decide_eq_false hp] at DI
 have NX:=Lib.hid (fun w1 h=>next_any H hk (w:=w1) (p:=p) (nd:=(k:Int)+1) (d:=d) (n:=n) h)
 obtain ⟨x,hx⟩:∃ z,(b.getD k 0).toNat=z:=⟨_,rfl⟩
 rw [hx] at NX ⊢
 have K1:=Lib.hid K1
 clear H X X1 hx hp
 go_enter Tryz.func90,Tryz.ntmps90
 go_wp2_with fail
 refine DI.mono ?_
 rintro e w1 ⟨rfl,h1,h2⟩
 have NX1:=NX.out w1 h1
 have K2:=Lib.hid (K1.out.trans h2)
 clear DI h1 h2 K1 NX e0 e1 e2 e3 e4 e5 e6
 go_wp2_with fail
 refine NX1.mono ?_
 rintro e w2 (⟨h,rfl,h1,h2⟩ | ⟨h,rfl,h1,h2⟩)
 ·have h1:=Lib.hid h1
  have h2:=Lib.hid (K2.out.trans h2)
  clear NX1 K2
  go_wp2
  go_ret
  exact .inl ⟨h,rfl,h1.out,h2.out⟩
 ·clear NX1
  exact ⟨rfl,.inr ⟨h,rfl,h1,K2.out.trans h2⟩⟩
theorem opcode5_any {w0:World} {D:Nat} {b:Str} {A:Option Addr} {l cap:Nat} (H:DH w0 D b A l cap) {w:World} {k:Nat} (hk:k≤l) {p nd d n:Int} (X:Dec w0 D (.slice A l cap) w k p nd d n) (hp:p=5∨p=6) :
  Calls Tryz.prog 90 #[.pointer (some ⟨D,0,none⟩)] w fun e w'=>
   (k+1<l∧DOk w0 D (.slice A l cap) w e w' (.int .u8 ((b.getD (k+1) 0).toNat:Int)) (k+2) p ((k:Int)+2) (sgB (b.getD k 0)) n)∨(l≤k+1∧DMiss w0 D (.slice A l cap) w e w' l p ((k:Int)+2)):=by
 have hl2:=H.hl2
 obtain ⟨e0,e1,e2,e3,e4,e5,e6⟩:=X.cells
 have X1:=X.set3 ((k:Int)+1)
 have K1:=(DK.refl D w).set 3 (.int .i64 ((k:Int)+1))
 have DI:=isDisp_any H hk X1
 rw [decide_eq_true hp] at DI
 have SG:=Lib.hid (fun w1 h=>dsigned_any H hk (w:=w1) (p:=p) (nd:=(k:Int)+2) (d:=d) (n:=n) h)
 obtain ⟨y,hy⟩:∃ z,sgB (b.getD k 0)=z:=⟨_,rfl⟩
 rw [hy] at SG ⊢
 have NX:=Lib.hid (fun w1 (h1:k+1≤l) h=>next_any H h1 (w:=w1) (p:=p) (nd:=(k:Int)+2) (d:=y) (n:=n) h)
 obtain ⟨x,hx⟩:∃ z,(b.getD (k+1) 0).toNat=z:=⟨_,rfl⟩
 rw [hx] at NX ⊢
 have K1:=Lib.hid K1
 clear H X X1 hx hp hy
 go_enter Tryz.func90,Tryz.ntmps90
 go_wp2_with fail
 refine DI.mono ?_
 rintro e w1 ⟨rfl,h1,h2⟩
 obtain ⟨f0,f1,f2,f3,f4,f5,f6⟩:=h1.cells
 have SG1:=SG.out _ (show Dec w0 D (.slice A l cap) (w1.setCell ⟨D,3,none⟩ (.int .i64 ((k:Int)+2))) k p ((k:Int)+2) d n from h1.set3 ((k:Int)+2))
 have K2:=Lib.hid ((K1.out.trans h2).set 3 (.int .i64 ((k:Int)+2)))
 clear DI h1 h2 K1 SG e0 e1 e2 e3 e4 e5 e6
 go_wp2_with fail
 refine SG1.mono ?_
 rintro e w2 (⟨h,rfl,h1,h2⟩ | ⟨h,rfl,h1,h2⟩)
 ·obtain ⟨e0,e1,e2,e3,e4,e5,e6⟩:=h1.cells
  have NX1:=NX.out _ h (show Dec w0 D (.slice A l cap) (w2.setCell ⟨D,4,none⟩ (.int .i64 y)) (k+1) p ((k:Int)+2) y n from h1.set4 y)
  have K3:=Lib.hid ((K2.out.trans h2).set 4 (.int .i64 y))
  clear SG1 h1 h2 K2 NX f0 f1 f2 f3 f4 f5 f6
  go_wp2_with fail
  refine NX1.mono ?_
  rintro e w3 (⟨g,rfl,g1,g2⟩ | ⟨g,rfl,g1,g2⟩)
  ·have g1:=Lib.hid g1
   have g2:=Lib.hid (K3.out.trans g2)
   clear NX1 K3
   go_wp2
   go_ret
   exact .inl ⟨g,rfl,g1.out,g2.out⟩
  ·clear NX1
   exact ⟨rfl,.inr ⟨by omega,rfl,g1,K3.out.trans g2⟩⟩
 ·clear SG1 NX
  exact ⟨rfl,.inr ⟨by omega,rfl,h1,K2.out.trans h2⟩⟩
theorem newDec_any (b:Str) (A:Option Addr) (l cap:Nat) (w:World) :
  Calls Tryz.prog 45 #[.slice A l cap] w fun e w'=>e=.returned (.pointer (some ⟨w.heap.size,0,none⟩))∧Dec w w.heap.size (.slice A l cap) w' 0 0 0 0 0∧Below w.heap.size w w':=by
 have X:Hid (Dec w w.heap.size (.slice A l cap) (w.alloc (.cells #[.slice A l cap,.int .i64 0,.int .i64 0,.int .i64 0,.int .i64 0,.int .i64 0] 124)) 0 0 0 0 0):=⟨World.alloc_heap_new w _,(Below.refl _ w).alloc (Nat.le_refl _) _⟩
 go_enter Tryz.func45,Tryz.ntmps45
 go_wp2
 go_ret
 exact ⟨rfl,X.out,X.out.bel⟩
end Go.Proofs.YtmnleknehjkmgaaGreatDoor
namespace Go.Proofs.YtmnleknehjkmgaaGreatDoor
open Go.RowKit Go.Shelf
attribute [local go_sem] Oper.semAt_some
theorem trimD_sl (w:World):Calls Tryz.prog 85 #[.string ⟨#[100]⟩,.string ⟨#[100]⟩] w fun e w'=>e=.returned (.string ⟨#[]⟩)∧w'=w:=by
 have hp:=fun w=>hasPrefix_any ⟨#[100]⟩ ⟨#[100]⟩ (by decide) (by decide) w
 rw [show preB (⟨#[100]⟩:ByteArray) ⟨#[100]⟩=true from by decide +kernel] at hp
 go_enter Tryz.func85,Tryz.ntmps85
 go_wp2_with fail
 refine (hp w).mono ?_
 rintro e w' ⟨rfl,rfl⟩
 clear hp
 go_wp2
 go_ret
 exact ⟨rfl,rfl⟩
theorem trimD_any (w:World):Calls Tryz.prog 62 #[.string ⟨#[100]⟩,.string ⟨#[100]⟩] w fun e w'=>e=.returned (.string ⟨#[]⟩)∧w'=w:=by
 go_enter Tryz.func62,Tryz.ntmps62
 go_wp2_with fail
 refine (trimD_sl w).mono ?_
 rintro e w' ⟨rfl,rfl⟩
 go_wp2
 go_ret
 exact ⟨rfl,rfl⟩
def behS (page:Int) (ex:Str):Str:=if 5≤page then [] else ex
theorem next_at {w:World} {it:Nat} {s2:Str} {j:Nat} (hk:w.heap[it]?=some (.stringIter (sB s2) j)) (hj:j<s2.length) (c:Nat) (hc:s2[j].toNat=c) (h:c<128) :
  ∀ ty,(Instr.next (.pointer (some ⟨it,0,none⟩)) true ty).run Tryz.prog w=.ok (.tuple #[.bool true,.int .i64 j,.int .i32 (c:Int)]) (w.iterAt it (sB s2) (j+1)):=fun ty=>by
 have hz:j<(sB s2).size:=by rw [sB_size];exact hj
 have e:(sB s2)[j]=s2[j]:=sB_at s2 j hz hj
 have hc2:((sB s2)[j]).toNat=c:=(congrArg UInt8.toNat e).trans hc
 rw [Lib.run_next_ascii_at w it (sB s2) j ty hk hz (by rw [hc2];exact h),hc2]
end Go.Proofs.YtmnleknehjkmgaaGreatDoor
namespace Go.Proofs.YtmnleknehjkmgaaGreatDoor
open Go.RowKit Go.Shelf
attribute [local go_sem] Oper.semAt_some
attribute [local irreducible] Go.Mixed.wpMix
theorem var_new (w1:World) (A:Option Addr) (cap n:Nat) (L:List Int) (lo hi:Int) (hn:L.length=n) (hl:n≤1000) (hP:KsP w1 A L) :
  ∃ w2 w3,w1.alloc (.cells #[.slice A n cap] 80)=w2∧(w2.alloc (.cells #[.int .i64 lo] 3)).alloc (.cells #[.int .i64 hi] 3)=w3∧
  VarA w3 (.agg #[.func (.func 77) #[] #[.pointer (some ⟨w1.heap.size,0,none⟩)],.func (.func 79) #[] #[.pointer (some ⟨w2.heap.size,0,none⟩),.pointer (some ⟨w2.heap.size+1,0,none⟩)]]) (L,lo,hi)∧Below w1.heap.size w1 w3∧w3.heap.size=w1.heap.size+3:=by
 subst hn
 refine ⟨_,_,rfl,rfl,⟨_,_,_,A,cap,rfl,?_,?_,?_,?_,hl⟩,?_,by simp⟩
 ·exact ((Boxed.new w1 _ _).alloc _).alloc _
 ·exact hP.below ((((Below.refl _ w1).alloc (Nat.le_refl _) _).alloc (by simp) _).alloc (by simp;omega) _)
 ·exact (Boxed.new _ _ _).alloc _
 ·have h:=Boxed.new ((w1.alloc (.cells #[.slice A L.length cap] 80)).alloc (.cells #[.int .i64 lo] 3)) 3 (.int .i64 hi)
  rwa [World.size_alloc] at h
 ·exact (((Below.refl _ w1).alloc (Nat.le_refl _) _).alloc (by simp) _).alloc (by simp;omega) _
theorem ks_new (w:World) (L:List Int) (cs:Array Value) (hc:cs.toList=L.map fun n=>.int .i64 n) (t:TypeId):KsP (w.alloc (.cells cs t)) (some ⟨w.heap.size,0,none⟩) L:=by
 refine .inr ⟨_,0,rfl,fun k hk=>?_⟩
 rw [Lib.cell_of_heap (heap_alloc_new w _),Nat.zero_add,← Array.getElem?_toList,hc,List.getElem?_map,List.getElem?_eq_getElem hk]
 rfl
def VarB (w:World) (b:Nat) (x:Vr):Prop:=∃ f g,w.heap[b]?=some (.cells #[f,g] 89 (0,0))∧VarA w (.agg #[f,g]) x
theorem VarB.lt {w:World} {b:Nat} {x:Vr} (h:VarB w b x):b<w.heap.size:=by
 obtain ⟨f,g,h1,-⟩:=h
 exact (Array.getElem?_eq_some_iff.1 h1).1
theorem VarB.below {w w':World} {b:Nat} {x:Vr} (h:VarB w b x) (hb:Below w.heap.size w w'):VarB w' b x:=by
 have hl:=h.lt
 obtain ⟨f,g,h1,h2⟩:=h
 exact ⟨f,g,(hb.block _ hl).trans h1,h2.below hb⟩
theorem KsP.put {w:World} {A:Option Addr} {L:List Int} (h:KsP w A L) {b:Nat} {f g:Value} (hb:w.heap[b]?=some (.cells #[f,g] 89 (0,0))) (hf:∀ k n,f≠.int k n) (hg:∀ k n,g≠.int k n) (j:Nat) (u:Value):KsP (w.setCell ⟨b,j,none⟩ u) A L:=by
 rcases h with rfl | ⟨c,off,rfl,hc⟩
 ·exact .inl rfl
 ·refine .inr ⟨c,off,rfl,fun k hk=>?_⟩
  have h1:=hc k hk
  have hne:c≠b:=by
   rintro rfl
   rw [Lib.cell_of_heap hb] at h1
   have:off+k=0∨off+k=1:=by
    have h2:=(Array.getElem?_eq_some_iff.1 h1).1
    simp at h2
    omega
   rcases this with e | e
   ·rw [e] at h1;exact hf _ _ (Option.some.inj h1)
   ·rw [e] at h1;exact hg _ _ (Option.some.inj h1)
  have e:=World.cell?_of_block (a:=⟨c,off+k,none⟩) (heap_setCell_other w ⟨b,j,none⟩ c u hne)
  exact e.trans h1
theorem Boxed.other {w:World} {b c:Nat} {t:TypeId} {v:Value} (h:Boxed w c t v) (hne:c≠b) (j:Nat) (u:Value):Boxed (w.setCell ⟨b,j,none⟩ u) c t v:=(heap_setCell_other w ⟨b,j,none⟩ c u hne).trans h
theorem Boxed.apart {w:World} {b c:Nat} {t:TypeId} {v:Value} (h:Boxed w c t v) {cs:Array Value} {ty:TypeId} {fz:Nat×Nat} (hb:w.heap[b]?=some (.cells cs ty fz)) (ht:t≠ty):c≠b:=by
 rintro rfl
 rw [show w.heap[c]?=_ from h] at hb
 simp at hb
 exact ht hb.2.1
theorem VarA.funs {w:World} {f g:Value} {x:Vr} (h:VarA w (.agg #[f,g]) x):(∀ k n,f≠.int k n)∧∀ k n,g≠.int k n:=by
 obtain ⟨b1,b2,b3,A,cap,e,-⟩:=h
 cases e
 exact ⟨fun k n h=>(by cases h),fun k n h=>(by cases h)⟩
theorem VarA.form {w:World} {f g:Value} {x:Vr} (h:VarA w (.agg #[f,g]) x):∃ b1 b2 b3,f=.func (.func 77) #[] #[.pointer (some ⟨b1,0,none⟩)]∧g=.func (.func 79) #[] #[.pointer (some ⟨b2,0,none⟩),.pointer (some ⟨b3,0,none⟩)]:=by
 obtain ⟨b1,b2,b3,A,cap,e,-⟩:=h
 cases e
 exact ⟨b1,b2,b3,rfl,rfl⟩
theorem VarA.put {w:World} {v:Value} {x:Vr} (h:VarA w v x) {b:Nat} {f g:Value} (hb:w.heap[b]?=some (.cells #[f,g] 89 (0,0))) (hf:(∀ k n,f≠.int k n)∧∀ k n,g≠.int k n) (j:Nat) (u:Value):VarA (w.setCell ⟨b,j,none⟩ u) v x:=by
 obtain ⟨b1,b2,b3,A,cap,rfl,h1,h2,h3,h4,h5⟩:=h
 exact ⟨b1,b2,b3,A,cap,rfl,Boxed.other h1 (Boxed.apart h1 hb (by decide)) j u,h2.put hb hf.1 hf.2 j u,Boxed.other h3 (Boxed.apart h3 hb (by decide)) j u,Boxed.other h4 (Boxed.apart h4 hb (by decide)) j u,h5⟩
theorem VarA.store {w:World} {v:Value} {x:Vr} (h:VarA w v x) {b:Nat} {f g:Value} (hb:w.heap[b]?=some (.cells #[f,g] 89 (0,0))) (hf:(∀ k n,f≠.int k n)∧∀ k n,g≠.int k n) (f' g':Value) (hf':(∀ k n,f'≠.int k n)∧∀ k n,g'≠.int k n) :
  VarA ((w.setCell ⟨b,0,none⟩ f').setCell ⟨b,1,none⟩ g') v x:=by
 have hb1:(w.setCell ⟨b,0,none⟩ f').heap[b]?=some (.cells #[f',g] 89 (0,0)):=heap_setCell_same w b 0 _ _ f' hb
 exact (h.put hb hf 0 f').put hb1 ⟨hf'.1,hf.2⟩ 1 g'
theorem VarB.store {w:World} {c:Nat} {x:Vr} (h:VarB w c x) {b:Nat} {f g:Value} (hb:w.heap[b]?=some (.cells #[f,g] 89 (0,0))) (hf:(∀ k n,f≠.int k n)∧∀ k n,g≠.int k n) (f' g':Value) (hf':(∀ k n,f'≠.int k n)∧∀ k n,g'≠.int k n) (hne:c≠b) :
  VarB ((w.setCell ⟨b,0,none⟩ f').setCell ⟨b,1,none⟩ g') c x:=by
 obtain ⟨p,q,h1,h2⟩:=h
 exact ⟨p,q,(heap_setCell_other _ ⟨b,1,none⟩ c g' hne).trans ((heap_setCell_other _ ⟨b,0,none⟩ c f' hne).trans h1),h2.store hb hf f' g' hf'⟩
theorem VarB.put {w:World} {b:Nat} {f' g':Value} {x:Vr} (h:VarA w (.agg #[f',g']) x) {f g:Value} (hb:w.heap[b]?=some (.cells #[f,g] 89 (0,0))) (hf:(∀ k n,f≠.int k n)∧∀ k n,g≠.int k n) :
  VarB ((w.setCell ⟨b,0,none⟩ f').setCell ⟨b,1,none⟩ g') b x:=by
 have hb1:(w.setCell ⟨b,0,none⟩ f').heap[b]?=some (.cells #[f',g] 89 (0,0)):=heap_setCell_same w b 0 _ _ f' hb
 have hb2:((w.setCell ⟨b,0,none⟩ f').setCell ⟨b,1,none⟩ g').heap[b]?=some (.cells #[f',g'] 89 (0,0)):=heap_setCell_same _ b 1 _ _ g' hb1
 exact ⟨f',g',hb2,h.store hb hf f' g' h.funs⟩
theorem rowB_below {w w':World} {s:ByteArray} {b B:Nat} (h:RowB w s b) (hb:Below B w w') (hB:b<B):RowB w' s b:=fun j hj=>(hb.cell (p:=⟨b,j,none⟩) hB).trans (h j hj)
theorem rowB_other {w:World} {s:ByteArray} {b c:Nat} (h:RowB w s b) (hne:b≠c) (j:Nat) (u:Value):RowB (w.setCell ⟨c,j,none⟩ u) s b:=fun k hk=>(World.cell?_of_block (a:=⟨b,k,none⟩) (heap_setCell_other w ⟨c,j,none⟩ b u hne)).trans (h k hk)
def foldV (ex:Str) (k:Nat):Vr×Vr:=(ex.take k).foldl stepV (vr0,vr0)
theorem foldV_succ (ex:Str) (k:Nat) (h:k<ex.length):foldV ex (k+1)=stepV (foldV ex k) ex[k]:=by
 unfold foldV
 rw [List.take_succ_eq_append_getElem h,List.foldl_append]
 rfl
theorem foldV_all (ex:Str):foldV ex ex.length=varsV ex:=by
 unfold foldV varsV
 rw [List.take_length]
def RetVars (w:World) (ex:Str) (e:Ending) (w':World):Prop:=∃ f g f' g',e=.returned (.tuple #[.agg #[f,g],.agg #[f',g']])∧VarA w' (.agg #[f,g]) (varsV ex).1∧VarA w' (.agg #[f',g']) (varsV ex).2∧Below w.heap.size w w'
theorem u8_no (c:UInt8) (n:Nat) (hn:n<256) (h:c≠UInt8.ofNat n):((c.toNat:Int) == (n:Int))=false:=(u8_is c n hn _ rfl).symm.trans (decide_eq_false h)
theorem variables_any (page op:Int) (m:Str) (A:Option Addr) (na cap:Nat) (ex:Str) (hx:ex.length≤1000) (al:Bool) (w:World) :
  Calls Tryz.prog 38 #[enV page op m (.slice A na cap) ex al] w (RetVars w ex):=by
 unfold enV
 obtain ⟨s,hs⟩:∃ s,sB ex=s:=⟨_,rfl⟩
 have hz:s.size=ex.length:=by rw [← hs,sB_size]
 have hat:∀ k (h:k<s.size) (h':k<ex.length),s[k]=ex[k]:=fun k h h'=>by subst hs;exact sB_at ex k h h'
 have HAT:=Lib.hid hat
 obtain ⟨l,hl⟩:∃ l,ex.length=l:=⟨_,rfl⟩
 have HL:=Lib.hid hl
 rw [hl] at hz hx
 have hcv:=fun (w:World)=>run_bytes_of_string (P:=Tryz.prog) w 9 27 5 s Tryz.underlying9 Tryz.underlying27 Tryz.underlying5
 rw [hs]
 clear hs hat hl
 obtain ⟨w0,hw0⟩:∃ w0,((w.alloc (.cells #[.int .i64 page,.int .u8 op,.string (sB m),.slice A na cap,.string s,.bool al] 55)).alloc (.cells #[.nilFunc,.nilFunc] 89)).alloc (.cells #[.nilFunc,.nilFunc] 89)=w0:=⟨_,rfl⟩
 obtain ⟨n,hn⟩:∃ n,w.heap.size=n:=⟨_,rfl⟩
 have B0:Below n w w0:=by rw [← hw0,← hn];exact (((Below.refl _ w).alloc (Nat.le_refl _) _).alloc (by simp) _).alloc (by simp;omega) _
 have Z0:w0.heap.size=n+1+1+1:=by rw [← hw0,← hn];simp
 have c0:w0.heap[n]?=some (.cells #[.int .i64 page,.int .u8 op,.string (sB m),.slice A na cap,.string s,.bool al] 55 (0,0)):=by
  rw [← hw0,← hn]
  exact (Below.heap_alloc _ _ _ (by simp;omega)).trans ((Below.heap_alloc _ _ _ (by simp)).trans (World.alloc_heap_new w _))
 have c1:w0.heap[n+1]?=some (.cells #[.nilFunc,.nilFunc] 89 (0,0)):=by
  rw [← hw0,← hn]
  refine (Below.heap_alloc _ _ _ (by simp)).trans ?_
  have h:=World.alloc_heap_new (w.alloc (.cells #[.int .i64 page,.int .u8 op,.string (sB m),.slice A na cap,.string s,.bool al] 55)) (.cells #[.nilFunc,.nilFunc] 89)
  rwa [World.size_alloc] at h
 have c2:w0.heap[n+1+1]?=some (.cells #[.nilFunc,.nilFunc] 89 (0,0)):=by
  rw [← hw0,← hn]
  have h:=World.alloc_heap_new ((w.alloc (.cells #[.int .i64 page,.int .u8 op,.string (sB m),.slice A na cap,.string s,.bool al] 55)).alloc (.cells #[.nilFunc,.nilFunc] 89)) (.cells #[.nilFunc,.nilFunc] 89)
  rwa [World.size_alloc,World.size_alloc] at h
 obtain ⟨x1,x2,e1,e2,VA1,BB1,ZZ1⟩:=var_new w0 none 0 0 [] 0 0 rfl (by omega) (.inl rfl)
 obtain ⟨y1,y2,g1,g2,VA2,BB2,ZZ2⟩:=var_new x2 none 0 0 [] 0 0 rfl (by omega) (.inl rfl)
 have o1:=ofKinds_any none 0 0 w0
 have o2:=within_any 0 0 x1
 have o3:=ofKinds_any none 0 0 x2
 have o4:=within_any 0 0 y1
 rw [e1] at o1
 rw [e2] at o2
 rw [g1] at o3
 rw [g2] at o4
 have zx1:x1.heap.size=n+4:=by rw [← e1];simp;omega
 have zy1:y1.heap.size=n+7:=by rw [← g1];simp;omega
 have zx2:x2.heap.size=n+6:=by omega
 have B2:Below n w y2:=(B0.trans (BB1.mono (by omega))).trans (BB2.mono (by omega))
 have B3:Below (n+1+1+1) w0 y2:=(BB1.mono (by omega)).trans (BB2.mono (by omega))
 rw [zx1,Z0] at VA1
 rw [zx2,zy1] at VA2
 rw [Z0] at o1
 rw [zx1] at o2
 rw [zx2] at o3
 rw [zy1] at o4
 have VA1':=VA1.below BB2
 have zy2:y2.heap.size=n+9:=by omega
 have q1:=(B3.block (n+1) (by omega)).trans c1
 have q2:=(B3.block (n+1+1) (by omega)).trans c2
 have q0:=(B3.block n (by omega)).trans c0
 have nf:(∀ k n,Value.nilFunc≠.int k n)∧∀ k n,Value.nilFunc≠.int k n:=⟨fun k n h=>(by cases h),fun k n h=>(by cases h)⟩
 have QQ:Hid (y2.heap[n+1]?=some (.cells #[.nilFunc,.nilFunc] 89 (0,0))∧y2.heap[n+1+1]?=some (.cells #[.nilFunc,.nilFunc] 89 (0,0))∧y2.heap[n]?=some (.cells #[.int .i64 page,.int .u8 op,.string (sB m),.slice A na cap,.string s,.bool al] 55 (0,0))∧Below n w y2):=⟨q1,q2,q0,B2⟩
 have VV1:=Lib.hid VA1'
 have VV2:=Lib.hid VA2
 have HN:=Lib.hid hn
 have N0:=Lib.hid nf
 have hw0':=Lib.hid hw0
 clear e1 e2 g1 g2 VA1 BB1 ZZ1 BB2 ZZ2 VA1' VA2 B3 B2 q1 q2 q0 nf B0 c0 c1 c2 zx1 zy1 zx2 hn
 go_enter Tryz.func38,Tryz.ntmps38
 go_upto_region 1 with fail
 clear hw0' hw0
 go_wp2_with fail
 refine o1.mono ?_
 rintro e w1 ⟨rfl,rfl⟩
 clear o1
 go_wp2_with fail
 refine o2.mono ?_
 rintro e w1 ⟨rfl,rfl⟩
 clear o2
 go_wp2_with fail
 refine o3.mono ?_
 rintro e w1 ⟨rfl,rfl⟩
 clear o3
 go_wp2_with fail
 refine o4.mono ?_
 rintro e w1 ⟨rfl,rfl⟩
 clear o4
 rw [HN.out]
 have fr1:=Lib.frozen_of_heap QQ.out.1
 have fr2:=Lib.frozen_of_heap QQ.out.2.1
 have pc0:=Lib.cell_of_heap QQ.out.1 0
 have pc1:=Lib.cell_of_heap QQ.out.1 1
 have pc2:=Lib.cell_of_heap QQ.out.2.1 0
 have pc3:=Lib.cell_of_heap QQ.out.2.1 1
 go_upto_region 2 with fail
 obtain ⟨w5,hw5,V5,C5,B5,Z5⟩:∃ w5,(((y2.setCell ⟨n+1,0,none⟩ (.func (.func 77) #[] #[.pointer (some ⟨n+1+1+1,0,none⟩)])).setCell ⟨n+1,1,none⟩ (.func (.func 79) #[] #[.pointer (some ⟨n+4,0,none⟩),.pointer (some ⟨n+4+1,0,none⟩)])).setCell ⟨n+1+1,0,none⟩ (.func (.func 77) #[] #[.pointer (some ⟨n+6,0,none⟩)])).setCell ⟨n+1+1,1,none⟩ (.func (.func 79) #[] #[.pointer (some ⟨n+7,0,none⟩),.pointer (some ⟨n+7+1,0,none⟩)])=w5∧
   (VarB w5 (n+1) vr0∧VarB w5 (n+1+1) vr0)∧w5.heap[n]?=some (.cells #[.int .i64 page,.int .u8 op,.string (sB m),.slice A na cap,.string s,.bool al] 55 (0,0))∧Below n w w5∧w5.heap.size=n+9:=by
  obtain ⟨q1,q2,q0,q3⟩:=QQ.out
  have a1:VarB _ (n+1) vr0:=VarB.put VV1.out q1 N0.out
  have r2:((y2.setCell ⟨n+1,0,none⟩ (.func (.func 77) #[] #[.pointer (some ⟨n+1+1+1,0,none⟩)])).setCell ⟨n+1,1,none⟩ (.func (.func 79) #[] #[.pointer (some ⟨n+4,0,none⟩),.pointer (some ⟨n+4+1,0,none⟩)])).heap[n+1+1]?=some (.cells #[.nilFunc,.nilFunc] 89 (0,0)):=(heap_setCell_other _ ⟨n+1,1,none⟩ _ _ (by simp)).trans ((heap_setCell_other _ ⟨n+1,0,none⟩ _ _ (by simp)).trans q2)
  have a2:=VV2.out.store q1 N0.out _ _ VV1.out.funs
  refine ⟨_,rfl,⟨a1.store r2 N0.out _ _ VV2.out.funs (by omega),VarB.put a2 r2 N0.out⟩,?_,?_,by simp;exact zy2⟩
  ·exact (heap_setCell_other _ ⟨n+1+1,1,none⟩ _ _ (by simp;omega)).trans ((heap_setCell_other _ ⟨n+1+1,0,none⟩ _ _ (by simp;omega)).trans ((heap_setCell_other _ ⟨n+1,1,none⟩ _ _ (by simp)).trans ((heap_setCell_other _ ⟨n+1,0,none⟩ _ _ (by simp)).trans q0)))
  ·exact (((q3.setCell (p:=⟨n+1,0,none⟩) (by simp) _).setCell (p:=⟨n+1,1,none⟩) (by simp) _).setCell (p:=⟨n+1+1,0,none⟩) (by simp;omega) _).setCell (p:=⟨n+1+1,1,none⟩) (by simp;omega) _
 rw [hw5]
 have k4:=Lib.cell_of_heap C5 4
 have S:=Lib.hid (rowB_start w5 s (grownCap w5 s.size 0 5) 5)
 have bz:Below w5.heap.size w5 (w5.alloc (.cells (bytesRow s (grownCap w5 s.size 0 5)) 5 ((bytesRow s (grownCap w5 s.size 0 5)).size,(bytesRow s (grownCap w5 s.size 0 5)).size+1))).drew:=((Below.refl _ _).alloc (Nat.le_refl _) _).drew
 have V6:=Lib.hid (And.intro (V5.1.below bz) (V5.2.below bz))
 have B6:=Lib.hid (B5.trans (bz.mono (by omega)))
 have Z6:Hid (n+10≤(w5.alloc (.cells (bytesRow s (grownCap w5 s.size 0 5)) 5 ((bytesRow s (grownCap w5 s.size 0 5)).size,(bytesRow s (grownCap w5 s.size 0 5)).size+1))).drew.heap.size):=by show _≤_;simp;omega
 rw [Z5] at S
 rw [hz] at S V6 B6 Z6
 clear V5 C5 B5 hw5 bz fr1 fr2 pc0 pc1 pc2 pc3 QQ VV1 VV2 zy2
 go_wp2
 clear hcv Z5
 go_loopw [16] (fun i wr=>∃ k:Nat,k≤l∧i=.int .i64 k∧Hid (RowB wr s (n+9))∧Hid (VarB wr (n+1) (foldV ex k).1∧VarB wr (n+1+1) (foldV ex k).2)∧Hid (Below n w wr)∧Hid (n+10≤wr.heap.size)) (fun i _=>l - (intOf i).toNat)
 case atStart=>exact ⟨0,Nat.zero_le _,rfl,S.out,V6.out,B6.out,Z6.out⟩
 case round=>
  clear S V6 B6 Z6
  obtain ⟨k,hk,rfl,R,V,B,Z9⟩:=hrel
  by_cases hlt:k<l
  ·have hlt':k<s.size:=by omega
   have hlt2:k<ex.length:=by rw [HL.out];exact hlt
   have g1:wr.cell? ⟨n+9,k,none⟩=some (.int .u8 (s[k].toNat:Int)):=R.out k hlt'
   rw [HAT.out k hlt' hlt2] at g1
   have SS:=foldV_succ ex k hlt2
   obtain ⟨c,hc⟩:∃ c,ex[k]=c:=⟨_,rfl⟩
   rw [hc] at g1 SS
   have SS:=Lib.hid SS
   clear hc
   have hk1:k≤1000:=by omega
   by_cases h100:c=100
   ·subst h100
    have ST:Hid (foldV ex (k+1)=((([5],-128,127):Vr),(foldV ex k).2)):=by
     show foldV ex (k+1)=_
     rw [SS.out]
     unfold stepV
     rfl
    have V:=V.out
    obtain ⟨f,g,bx,va⟩:=V.1
    have ot:=V.2
    clear V
    have fu:=va.funs
    obtain ⟨z,hz9⟩:∃ z,wr.heap.size=z:=⟨_,rfl⟩
    obtain ⟨w6,hw6⟩:∃ w6,wr.alloc (.cells #[.int .i64 5] 3)=w6:=⟨_,rfl⟩
    have ba:Below wr.heap.size wr w6:=by rw [← hw6];exact (Below.refl _ _).alloc (Nat.le_refl _) _
    have hks:KsP w6 (some ⟨z,0,none⟩) [5]:=by rw [← hw6,← hz9];exact ks_new wr [5] _ rfl _
    have z6:w6.heap.size=z+1:=by rw [← hw6,← hz9];simp
    obtain ⟨x1,x2,e1,e2,VN,BN,ZN⟩:=var_new w6 (some ⟨z,0,none⟩) 1 1 [5] (-128) (127) rfl (by omega) hks
    have o1:=ofKinds_any (some ⟨z,0,none⟩) 1 1 w6
    have o2:=within_any (-128) (127) x1
    rw [e1] at o1
    rw [e2] at o2
    have zx1:x1.heap.size=z+2:=by rw [← e1];simp;omega
    rw [z6] at o1
    rw [zx1] at o2
    rw [z6,zx1] at VN
    have bn:Below z wr x2:=by rw [← hz9];exact ba.trans (BN.mono ba.size)
    have bn':Below wr.heap.size wr x2:=by rw [hz9];exact bn
    have lt1:n+1<z:=by rw [← hz9];exact (Array.getElem?_eq_some_iff.1 bx).1
    have BOX:Hid (x2.heap[n+1]?=some (.cells #[f,g] 89 (0,0))):=(bn.block _ lt1).trans bx
    have VOT:=Lib.hid (ot.below bn')
    have FUN:=Lib.hid fu
    have VN:=Lib.hid VN
    have nz:n≤z:=by omega
    have BX:Hid (Below n w x2):=B.out.trans (bn.mono nz)
    have RX:Hid (RowB x2 s (n+9)):=rowB_below R.out bn' (by rw [hz9];have:=Z9.out;rw [hz9] at this;omega)
    have ZX:Hid (n+10≤x2.heap.size):=by have h1:=bn'.size;have h2:=Z9.out;show _≤_;omega
    clear bx va ot fu BN ZN ba bn bn' hks e1 e2 R B V
    go_wp2_with fail
    refine o1.mono ?_
    rintro e w1 ⟨rfl,rfl⟩
    clear o1
    go_wp2_with fail
    refine o2.mono ?_
    rintro e w1 ⟨rfl,rfl⟩
    clear o2
    have fr:=Lib.frozen_of_heap BOX.out
    have bc0:=Lib.cell_of_heap BOX.out 0
    have bc1:=Lib.cell_of_heap BOX.out 1
    go_wp2
    go_roundw
    case rel=>
     refine ⟨k+1,by omega,by go_num,rowB_other (rowB_other RX.out (by omega) _ _) (by omega) _ _,?_,(BX.out.setCell (p:=⟨n+1,0,none⟩) (show n≤n+1 by omega) _).setCell (p:=⟨n+1,1,none⟩) (show n≤n+1 by omega) _,by show n+10≤_;simpa using ZX.out⟩
     rw [ST.out]
     exact ⟨VarB.put VN.out (BOX).out FUN.out,VOT.out.store BOX.out FUN.out _ _ VN.out.funs (by omega)⟩
    case measure=>simp [intOf];omega
   by_cases h101:c=101
   ·subst h101
    have ST:Hid (foldV ex (k+1)=((foldV ex k).1,(([10],-128,127):Vr))):=by
     show foldV ex (k+1)=_
     rw [SS.out]
     unfold stepV
     rw [if_neg (by decide)]
     rfl
    have V:=V.out
    obtain ⟨f,g,bx,va⟩:=V.2
    have ot:=V.1
    clear V
    have fu:=va.funs
    obtain ⟨z,hz9⟩:∃ z,wr.heap.size=z:=⟨_,rfl⟩
    obtain ⟨w6,hw6⟩:∃ w6,wr.alloc (.cells #[.int .i64 10] 3)=w6:=⟨_,rfl⟩
    have ba:Below wr.heap.size wr w6:=by rw [← hw6];exact (Below.refl _ _).alloc (Nat.le_refl _) _
    have hks:KsP w6 (some ⟨z,0,none⟩) [10]:=by rw [← hw6,← hz9];exact ks_new wr [10] _ rfl _
    have z6:w6.heap.size=z+1:=by rw [← hw6,← hz9];simp
    obtain ⟨x1,x2,e1,e2,VN,BN,ZN⟩:=var_new w6 (some ⟨z,0,none⟩) 1 1 [10] (-128) (127) rfl (by omega) hks
    have o1:=ofKinds_any (some ⟨z,0,none⟩) 1 1 w6
    have o2:=within_any (-128) (127) x1
    rw [e1] at o1
    rw [e2] at o2
    have zx1:x1.heap.size=z+2:=by rw [← e1];simp;omega
    rw [z6] at o1
    rw [zx1] at o2
    rw [z6,zx1] at VN
    have bn:Below z wr x2:=by rw [← hz9];exact ba.trans (BN.mono ba.size)
    have bn':Below wr.heap.size wr x2:=by rw [hz9];exact bn
    have lt1:n+1+1<z:=by rw [← hz9];exact (Array.getElem?_eq_some_iff.1 bx).1
    have BOX:Hid (x2.heap[n+1+1]?=some (.cells #[f,g] 89 (0,0))):=(bn.block _ lt1).trans bx
    have VOT:=Lib.hid (ot.below bn')
    have FUN:=Lib.hid fu
    have VN:=Lib.hid VN
    have nz:n≤z:=by omega
    have BX:Hid (Below n w x2):=B.out.trans (bn.mono nz)
    have RX:Hid (RowB x2 s (n+9)):=rowB_below R.out bn' (by rw [hz9];have:=Z9.out;rw [hz9] at this;omega)
    have ZX:Hid (n+10≤x2.heap.size):=by have h1:=bn'.size;have h2:=Z9.out;show _≤_;omega
    clear bx va ot fu BN ZN ba bn bn' hks e1 e2 R B V
    go_wp2_with fail
    refine o1.mono ?_
    rintro e w1 ⟨rfl,rfl⟩
    clear o1
    go_wp2_with fail
    refine o2.mono ?_
    rintro e w1 ⟨rfl,rfl⟩
    clear o2
    have fr:=Lib.frozen_of_heap BOX.out
    have bc0:=Lib.cell_of_heap BOX.out 0
    have bc1:=Lib.cell_of_heap BOX.out 1
    go_wp2
    go_roundw
    case rel=>
     refine ⟨k+1,by omega,by go_num,rowB_other (rowB_other RX.out (by omega) _ _) (by omega) _ _,?_,(BX.out.setCell (p:=⟨n+1+1,0,none⟩) (show n≤n+1+1 by omega) _).setCell (p:=⟨n+1+1,1,none⟩) (show n≤n+1+1 by omega) _,by show n+10≤_;simpa using ZX.out⟩
     rw [ST.out]
     exact ⟨VOT.out.store BOX.out FUN.out _ _ VN.out.funs (by omega),VarB.put VN.out (BOX).out FUN.out⟩
    case measure=>simp [intOf];omega
   by_cases h110:c=110
   ·subst h110
    have ST:Hid (foldV ex (k+1)=((foldV ex k).1,(([6,7],0,255):Vr))):=by
     show foldV ex (k+1)=_
     rw [SS.out]
     unfold stepV
     rw [if_neg (by decide)]
     rw [if_neg (by decide)]
     rfl
    have V:=V.out
    obtain ⟨f,g,bx,va⟩:=V.2
    have ot:=V.1
    clear V
    have fu:=va.funs
    obtain ⟨z,hz9⟩:∃ z,wr.heap.size=z:=⟨_,rfl⟩
    obtain ⟨w6,hw6⟩:∃ w6,wr.alloc (.cells #[.int .i64 6,.int .i64 7] 3)=w6:=⟨_,rfl⟩
    have ba:Below wr.heap.size wr w6:=by rw [← hw6];exact (Below.refl _ _).alloc (Nat.le_refl _) _
    have hks:KsP w6 (some ⟨z,0,none⟩) [6,7]:=by rw [← hw6,← hz9];exact ks_new wr [6,7] _ rfl _
    have z6:w6.heap.size=z+1:=by rw [← hw6,← hz9];simp
    obtain ⟨x1,x2,e1,e2,VN,BN,ZN⟩:=var_new w6 (some ⟨z,0,none⟩) 2 2 [6,7] (0) (255) rfl (by omega) hks
    have o1:=ofKinds_any (some ⟨z,0,none⟩) 2 2 w6
    have o2:=within_any (0) (255) x1
    rw [e1] at o1
    rw [e2] at o2
    have zx1:x1.heap.size=z+2:=by rw [← e1];simp;omega
    rw [z6] at o1
    rw [zx1] at o2
    rw [z6,zx1] at VN
    have bn:Below z wr x2:=by rw [← hz9];exact ba.trans (BN.mono ba.size)
    have bn':Below wr.heap.size wr x2:=by rw [hz9];exact bn
    have lt1:n+1+1<z:=by rw [← hz9];exact (Array.getElem?_eq_some_iff.1 bx).1
    have BOX:Hid (x2.heap[n+1+1]?=some (.cells #[f,g] 89 (0,0))):=(bn.block _ lt1).trans bx
    have VOT:=Lib.hid (ot.below bn')
    have FUN:=Lib.hid fu
    have VN:=Lib.hid VN
    have nz:n≤z:=by omega
    have BX:Hid (Below n w x2):=B.out.trans (bn.mono nz)
    have RX:Hid (RowB x2 s (n+9)):=rowB_below R.out bn' (by rw [hz9];have:=Z9.out;rw [hz9] at this;omega)
    have ZX:Hid (n+10≤x2.heap.size):=by have h1:=bn'.size;have h2:=Z9.out;show _≤_;omega
    clear bx va ot fu BN ZN ba bn bn' hks e1 e2 R B V
    go_wp2_with fail
    refine o1.mono ?_
    rintro e w1 ⟨rfl,rfl⟩
    clear o1
    go_wp2_with fail
    refine o2.mono ?_
    rintro e w1 ⟨rfl,rfl⟩
    clear o2
    have fr:=Lib.frozen_of_heap BOX.out
    have bc0:=Lib.cell_of_heap BOX.out 0
    have bc1:=Lib.cell_of_heap BOX.out 1
    go_wp2
    go_roundw
    case rel=>
     refine ⟨k+1,by omega,by go_num,rowB_other (rowB_other RX.out (by omega) _ _) (by omega) _ _,?_,(BX.out.setCell (p:=⟨n+1+1,0,none⟩) (show n≤n+1+1 by omega) _).setCell (p:=⟨n+1+1,1,none⟩) (show n≤n+1+1 by omega) _,by show n+10≤_;simpa using ZX.out⟩
     rw [ST.out]
     exact ⟨VOT.out.store BOX.out FUN.out _ _ VN.out.funs (by omega),VarB.put VN.out (BOX).out FUN.out⟩
    case measure=>simp [intOf];omega
   by_cases h119:c=119
   ·subst h119
    have ST:Hid (foldV ex (k+1)=((foldV ex k).1,(([6,7],0,65535):Vr))):=by
     show foldV ex (k+1)=_
     rw [SS.out]
     unfold stepV
     rw [if_neg (by decide)]
     rw [if_neg (by decide)]
     rw [if_neg (by decide)]
     rfl
    have V:=V.out
    obtain ⟨f,g,bx,va⟩:=V.2
    have ot:=V.1
    clear V
    have fu:=va.funs
    obtain ⟨z,hz9⟩:∃ z,wr.heap.size=z:=⟨_,rfl⟩
    obtain ⟨w6,hw6⟩:∃ w6,wr.alloc (.cells #[.int .i64 6,.int .i64 7] 3)=w6:=⟨_,rfl⟩
    have ba:Below wr.heap.size wr w6:=by rw [← hw6];exact (Below.refl _ _).alloc (Nat.le_refl _) _
    have hks:KsP w6 (some ⟨z,0,none⟩) [6,7]:=by rw [← hw6,← hz9];exact ks_new wr [6,7] _ rfl _
    have z6:w6.heap.size=z+1:=by rw [← hw6,← hz9];simp
    obtain ⟨x1,x2,e1,e2,VN,BN,ZN⟩:=var_new w6 (some ⟨z,0,none⟩) 2 2 [6,7] (0) (65535) rfl (by omega) hks
    have o1:=ofKinds_any (some ⟨z,0,none⟩) 2 2 w6
    have o2:=within_any (0) (65535) x1
    rw [e1] at o1
    rw [e2] at o2
    have zx1:x1.heap.size=z+2:=by rw [← e1];simp;omega
    rw [z6] at o1
    rw [zx1] at o2
    rw [z6,zx1] at VN
    have bn:Below z wr x2:=by rw [← hz9];exact ba.trans (BN.mono ba.size)
    have bn':Below wr.heap.size wr x2:=by rw [hz9];exact bn
    have lt1:n+1+1<z:=by rw [← hz9];exact (Array.getElem?_eq_some_iff.1 bx).1
    have BOX:Hid (x2.heap[n+1+1]?=some (.cells #[f,g] 89 (0,0))):=(bn.block _ lt1).trans bx
    have VOT:=Lib.hid (ot.below bn')
    have FUN:=Lib.hid fu
    have VN:=Lib.hid VN
    have nz:n≤z:=by omega
    have BX:Hid (Below n w x2):=B.out.trans (bn.mono nz)
    have RX:Hid (RowB x2 s (n+9)):=rowB_below R.out bn' (by rw [hz9];have:=Z9.out;rw [hz9] at this;omega)
    have ZX:Hid (n+10≤x2.heap.size):=by have h1:=bn'.size;have h2:=Z9.out;show _≤_;omega
    clear bx va ot fu BN ZN ba bn bn' hks e1 e2 R B V
    go_wp2_with fail
    refine o1.mono ?_
    rintro e w1 ⟨rfl,rfl⟩
    clear o1
    go_wp2_with fail
    refine o2.mono ?_
    rintro e w1 ⟨rfl,rfl⟩
    clear o2
    have fr:=Lib.frozen_of_heap BOX.out
    have bc0:=Lib.cell_of_heap BOX.out 0
    have bc1:=Lib.cell_of_heap BOX.out 1
    go_wp2
    go_roundw
    case rel=>
     refine ⟨k+1,by omega,by go_num,rowB_other (rowB_other RX.out (by omega) _ _) (by omega) _ _,?_,(BX.out.setCell (p:=⟨n+1+1,0,none⟩) (show n≤n+1+1 by omega) _).setCell (p:=⟨n+1+1,1,none⟩) (show n≤n+1+1 by omega) _,by show n+10≤_;simpa using ZX.out⟩
     rw [ST.out]
     exact ⟨VOT.out.store BOX.out FUN.out _ _ VN.out.funs (by omega),VarB.put VN.out (BOX).out FUN.out⟩
    case measure=>simp [intOf];omega
   have a1:=u8_no c 100 (by decide) h100
   have a2:=u8_no c 101 (by decide) h101
   have a3:=u8_no c 110 (by decide) h110
   have a4:=u8_no c 119 (by decide) h119
   have ST:Hid (foldV ex (k+1)=foldV ex k):=by
    show foldV ex (k+1)=_
    rw [SS.out]
    unfold stepV
    rw [if_neg h100,if_neg h101,if_neg h110,if_neg h119]
   clear h100 h101 h110 h119
   go_wp2
   go_roundw
   case rel=>exact ⟨k+1,by omega,by go_num,R.out,by rw [ST.out];exact V.out,B.out,Z9.out⟩
   case measure=>simp [intOf];omega
  ·obtain rfl:k=l:=by omega
   have FE:Hid (foldV ex k=varsV ex):=by show foldV ex k=_;rw [← HL.out];exact foldV_all ex
   have V:=V.out
   rw [FE.out] at V
   obtain ⟨⟨f,g,bx,va⟩,f',g',bx',va'⟩:=V
   obtain ⟨p1,p2,p3,hf,hg⟩:=va.form
   obtain ⟨p4,p5,p6,hf',hg'⟩:=va'.form
   have fu:=Lib.hid va.funs
   have fu':=Lib.hid va'.funs
   have C0:=Lib.hid (And.intro bx bx')
   have hd:=below_drewN wr wr.heap.size 1
   have D1:=Lib.hid ((hd.block _ (Array.getElem?_eq_some_iff.1 bx).1).trans bx)
   have D2:=Lib.hid ((hd.block _ (Array.getElem?_eq_some_iff.1 bx').1).trans bx')
   have A1:=Lib.hid (va.below hd)
   have A2:=Lib.hid (va'.below hd)
   have BD:Hid (Below n w wr.drew):=B.out.drew
   have hnl:n≤wr.heap.size:=by have:=Z9.out;omega
   clear R V B bx bx' va va' hd Z9
   go_upto_region 15 with fail
   obtain ⟨w3,hw3⟩:∃ w3,wr.drew=w3:=⟨_,rfl⟩
   have hw3':wr.drewN 1=w3:=hw3
   rw [hw3'] at D1 D2 A1 A2
   rw [hw3] at BD
   refine Mixed.wp_region_mixed (fun w'=>w'.heap[n+1]?=some (.cells #[f,g] 89 (0,0))∧w'.heap[n+1+1]?=some (.cells #[f',g'] 89 (0,0))) 3 [(0,true),(1,true),(2,false)] (by kernel_rfl) (by kernel_rfl) (by rw [hw3];exact ⟨D1.out,D2.out⟩) ?_
   rw [hw3]
   refine Mixed.wpMix_pure rfl (by kernel_rfl) (.agg #[f,g]) (fun w h=>by
    obtain ⟨h1,h2⟩:=h
    have k0:=Lib.cell_of_heap h1 0
    have k1:=Lib.cell_of_heap h1 1
    go_simp;try rfl) ?_
   refine Mixed.wpMix_pure rfl (by kernel_rfl) (.agg #[f',g']) (fun w h=>by
    obtain ⟨h1,h2⟩:=h
    have k0:=Lib.cell_of_heap h2 0
    have k1:=Lib.cell_of_heap h2 1
    go_simp;try rfl) ?_
   have c1:=Lib.cell_of_heap D1.out 0
   have c2:=Lib.cell_of_heap D1.out 1
   have f1:=Lib.frozen_of_heap D1.out
   have k1:((w3.setCell ⟨n+1,0,none⟩ f).setCell ⟨n+1,1,none⟩ g).heap[n+1]?=some (.cells #[f,g] 89 (0,0)):=heap_setCell_same _ (n+1) 1 _ _ g (heap_setCell_same w3 (n+1) 0 _ _ f D1.out)
   have k2:((w3.setCell ⟨n+1,0,none⟩ f).setCell ⟨n+1,1,none⟩ g).heap[n+1+1]?=some (.cells #[f',g'] 89 (0,0)):=(heap_setCell_other _ ⟨n+1,1,none⟩ _ _ (by simp)).trans ((heap_setCell_other _ ⟨n+1,0,none⟩ _ _ (by simp)).trans D2.out)
   have E1:=Lib.hid (A1.out.store D1.out fu.out f g fu.out)
   have E2:=Lib.hid (A2.out.store D1.out fu.out f g fu.out)
   have B7:Hid (Below n w ((w3.setCell ⟨n+1,0,none⟩ f).setCell ⟨n+1,1,none⟩ g)):=(BD.out.setCell (p:=⟨n+1,0,none⟩) (show n≤n+1 by omega) _).setCell (p:=⟨n+1,1,none⟩) (show n≤n+1 by omega) _
   have K1:=Lib.hid k1
   have K2:=Lib.hid k2
   clear k1 k2 D1 D2 A1 A2 BD hw3 hw3'
   refine Mixed.wpMix_loudG rfl (by kernel_rfl) ?_
   subst hf hg
   go_wp2
   obtain ⟨w4,hw4⟩:∃ w4,(w3.setCell ⟨n+1,0,none⟩ (.func (.func 77) #[] #[.pointer (some ⟨p1,0,none⟩)])).setCell ⟨n+1,1,none⟩ (.func (.func 79) #[] #[.pointer (some ⟨p2,0,none⟩),.pointer (some ⟨p3,0,none⟩)])=w4:=⟨_,rfl⟩
   rw [hw4] at K1 K2 E1 E2 B7 ⊢
   refine ⟨⟨K1.out,K2.out⟩,?_⟩
   clear c1 c2 f1
   have c1:=Lib.cell_of_heap K2.out 0
   have c2:=Lib.cell_of_heap K2.out 1
   have f1:=Lib.frozen_of_heap K2.out
   have k2:((w4.setCell ⟨n+1+1,0,none⟩ f').setCell ⟨n+1+1,1,none⟩ g').heap[n+1+1]?=some (.cells #[f',g'] 89 (0,0)):=heap_setCell_same _ (n+1+1) 1 _ _ g' (heap_setCell_same w4 (n+1+1) 0 _ _ f' K2.out)
   have k1:((w4.setCell ⟨n+1+1,0,none⟩ f').setCell ⟨n+1+1,1,none⟩ g').heap[n+1]?=some (.cells #[.func (.func 77) #[] #[.pointer (some ⟨p1,0,none⟩)],.func (.func 79) #[] #[.pointer (some ⟨p2,0,none⟩),.pointer (some ⟨p3,0,none⟩)]] 89 (0,0)):=(heap_setCell_other _ ⟨n+1+1,1,none⟩ _ _ (by simp)).trans ((heap_setCell_other _ ⟨n+1+1,0,none⟩ _ _ (by simp)).trans K1.out)
   have E3:=Lib.hid (E1.out.store K2.out fu'.out f' g' fu'.out)
   have E4:=Lib.hid (E2.out.store K2.out fu'.out f' g' fu'.out)
   have B8:Hid (Below n w ((w4.setCell ⟨n+1+1,0,none⟩ f').setCell ⟨n+1+1,1,none⟩ g')):=(B7.out.setCell (p:=⟨n+1+1,0,none⟩) (show n≤n+1+1 by omega) _).setCell (p:=⟨n+1+1,1,none⟩) (show n≤n+1+1 by omega) _
   have L1:=Lib.hid k1
   have L2:=Lib.hid k2
   clear k1 k2 K1 K2 E1 E2 B7 hw4
   simp only [Mixed.wpMix,List.drop_succ_cons,List.drop_zero]
   subst hf' hg'
   go_wp2
   obtain ⟨w5,hw5⟩:∃ w5,(w4.setCell ⟨n+1+1,0,none⟩ (.func (.func 77) #[] #[.pointer (some ⟨p4,0,none⟩)])).setCell ⟨n+1+1,1,none⟩ (.func (.func 79) #[] #[.pointer (some ⟨p5,0,none⟩),.pointer (some ⟨p6,0,none⟩)])=w5:=⟨_,rfl⟩
   rw [hw5] at L1 L2 E3 E4 B8 ⊢
   clear c1 c2 f1 hw5
   have c1:=Lib.cell_of_heap L1.out 0
   have c2:=Lib.cell_of_heap L1.out 1
   have c3:=Lib.cell_of_heap L2.out 0
   have c4:=Lib.cell_of_heap L2.out 1
   refine bodyPost_ret (v:=.tuple #[.agg #[.func (.func 77) #[] #[.pointer (some ⟨p1,0,none⟩)],.func (.func 79) #[] #[.pointer (some ⟨p2,0,none⟩),.pointer (some ⟨p3,0,none⟩)]],.agg #[.func (.func 77) #[] #[.pointer (some ⟨p4,0,none⟩)],.func (.func 79) #[] #[.pointer (some ⟨p5,0,none⟩),.pointer (some ⟨p6,0,none⟩)]]]) ?_ rfl ?_
   ·simp [results,Tryz.results38,go_sem,c1,c2,c3,c4]
   ·exact ⟨_,_,_,_,rfl,E3.out,E4.out,by rw [HN.out];exact B8.out⟩
end Go.Proofs.YtmnleknehjkmgaaGreatDoor
