/-
  SeVa, SeRj, TbY, TbV, EnC.
-/
import Derived.Test.YtoilebmbljpieaaGreatDoorGAM
import Derived.Test.YtoilebmbljpieaaGreatDoorGAO
import Derived.Test.YtoilebmbljpieaaGreatDoorGAE
import Derived.Deep.DeepCutAuto
import Derived.Deep.Cut
import Derived.Test.YtoilebmbljpieaaGreatDoorGAG
import Derived.Test.YtoilebmbljpieaaGreatDoorGAL
set_option linter.all false
set_option maxRecDepth 100000
set_option maxHeartbeats 4000000
namespace Go.Proofs.YtoilebmbljpieaaGreatDoor
open Go.RowKit
theorem letR_cases (ex:Str) (L:List Tr) (k:Nat):letR ex L k=100∨letR ex L k=101∨letR ex L k=110∨letR ex L k=119∨letR ex L k=0:=by
 unfold letR
 repeat' split
 all_goals simp
def valR (ex:Str) (L C:List Tr):Nat→Int×Int
 | 0=>(0,0)
 | k+1=>if letR ex L k=100 then ((C.getD k tr0).2.2,(valR ex L C k).2) else if letR ex L k=0 then valR ex L C k else ((valR ex L C k).1,(C.getD k tr0).2.2)
def numTo (ks:List Int) (L C:List Tr) (k:Nat):Int:=match atV ks L with
 | some j=>if j<k then (C.getD j tr0).2.2 else 0
 | none=>0
theorem numTo_hit {ks:List Int} {L C:List Tr} {k:Nat} (h:atV ks L=some k):numTo ks L C (k+1)=(C.getD k tr0).2.2:=by
 unfold numTo
 rw [h]
 simp
theorem numTo_miss {ks:List Int} {L C:List Tr} {k:Nat} (h:atV ks L≠some k):numTo ks L C (k+1)=numTo ks L C k:=by
 unfold numTo
 cases hj:atV ks L with
 | none=>rfl
 | some j=>
  have:j≠k:=fun e=>h (by rw [hj,e])
  simp only
  by_cases h1:j<k
  ·rw [if_pos h1,if_pos (by omega)]
  ·rw [if_neg h1,if_neg (by omega)]
theorem valR_eq {ex:Str} {L:List Tr} (C:List Tr) (hp:placesB ex L=true):∀ k,k≤L.length→valR ex L C k=(numTo (varsV ex).1.1 L C k,numTo (varsV ex).2.1 L C k)
 | 0,_=>by
  have e:∀ ks,numTo ks L C 0=0:=fun ks=>by unfold numTo;split <;> simp
  rw [e,e]
  rfl
 | k+1,hk=>by
  have ih:=valR_eq C hp k (by omega)
  have hpk:=List.all_eq_true.1 hp k (List.mem_range.2 (by omega))
  unfold placeB at hpk
  unfold valR
  by_cases h1:atV (varsV ex).1.1 L=some k
  ·rw [if_pos h1] at hpk
   simp only [Bool.and_eq_true,beq_iff_eq,decide_eq_true_eq] at hpk
   rw [if_pos hpk.1.1,numTo_hit h1,numTo_miss hpk.2,ih]
  ·rw [if_neg h1] at hpk
   by_cases h2:atV (varsV ex).2.1 L=some k
   ·rw [if_pos h2] at hpk
    simp only [Bool.and_eq_true,bne_iff_ne,ne_eq,decide_eq_true_eq] at hpk
    rw [if_neg hpk.1.1,if_neg hpk.1.2,numTo_miss h1,numTo_hit h2,ih]
   ·rw [if_neg h2] at hpk
    have hz:letR ex L k=0:=beq_iff_eq.1 hpk
    rw [if_neg (by rw [hz];decide),if_pos hz,numTo_miss h1,numTo_miss h2,ih]
theorem numTo_all {ks:List Int} {L C:List Tr} (h:L.map ks2=C.map ks2):numTo ks L C L.length=numV ks C:=by
 unfold numTo numV
 rw [← atV_congr ks h]
 cases hj:atV ks L with
 | none=>rfl
 | some j=>simp [atV_lt hj]
theorem val_same {m ex:Str} {L:List Tr} (hp:placesB ex L=true) (s:ByteArray) (C:List Tr):valV m L ex s C=if fitsR m L ex s C=true then valR ex L C C.length else (0,0):=by
 unfold valV
 rw [has_fits hp]
 by_cases hf:fitsR m L ex s C=true
 ·rw [if_pos hf,if_pos hf]
  have hsh:L.map ks2=C.map ks2:=by
   unfold fitsR shpR at hf
   simp only [Bool.and_eq_true,decide_eq_true_eq] at hf
   exact hf.1.2
  rw [← len_of_shape hsh,valR_eq C hp _ (Nat.le_refl _),numTo_all hsh,numTo_all hsh]
 ·rw [if_neg hf,if_neg hf]
def stR (ex:Str) (L:List Tr) (d n:Int) (k:Nat):Tr:=if letR ex L k=100 then ((L.getD k tr0).1,(L.getD k tr0).2.1,d) else if letR ex L k=0 then L.getD k tr0 else ((L.getD k tr0).1,(L.getD k tr0).2.1,n)
def okR (ex:Str) (L:List Tr) (d n:Int) (k:Nat):Bool:=letR ex L k == 0||withR (letR ex L k) (stR ex L d n k).2.2
def useD (ex:Str) (L:List Tr) (d:Int) (k:Nat):Bool:=(d == 0)||(List.range k).any fun j=>letR ex L j == 100
def useN (ex:Str) (L:List Tr) (n:Int) (k:Nat):Bool:=(n == 0)||(List.range k).any fun j=>letR ex L j != 100&&letR ex L j != 0
def fillR (ex:Str) (L:List Tr) (d n:Int):Option (List Tr):=
 if (List.range L.length).all (okR ex L d n)=true∧useD ex L d L.length=true∧useN ex L n L.length=true then some ((List.range L.length).map (stR ex L d n)) else none
theorem let_d {ex:Str} {L:List Tr} (hp:placesB ex L=true) {k:Nat} (hk:k<L.length):letR ex L k=100↔atV (varsV ex).1.1 L=some k:=by
 have h:=places_at hp k hk
 unfold placeB at h
 constructor
 ·intro e
  by_cases h1:atV (varsV ex).1.1 L=some k
  ·exact h1
  ·rw [if_neg h1] at h
   by_cases h2:atV (varsV ex).2.1 L=some k
   ·rw [if_pos h2,e] at h
    simp at h
   ·rw [if_neg h2,e] at h
    cases h
 ·intro h1
  rw [if_pos h1] at h
  simp only [Bool.and_eq_true,beq_iff_eq,decide_eq_true_eq] at h
  exact h.1.1
theorem let_n {ex:Str} {L:List Tr} (hp:placesB ex L=true) {k:Nat} (hk:k<L.length):(letR ex L k≠100∧letR ex L k≠0)↔atV (varsV ex).2.1 L=some k:=by
 have h:=places_at hp k hk
 unfold placeB at h
 constructor
 ·rintro ⟨e1,e2⟩
  by_cases h1:atV (varsV ex).1.1 L=some k
  ·exact absurd ((let_d hp hk).2 h1) e1
  ·rw [if_neg h1] at h
   by_cases h2:atV (varsV ex).2.1 L=some k
   ·exact h2
   ·rw [if_neg h2] at h
    exact absurd (beq_iff_eq.1 h) e2
 ·intro h2
  by_cases h1:atV (varsV ex).1.1 L=some k
  ·rw [if_pos h1] at h
   simp only [Bool.and_eq_true,decide_eq_true_eq] at h
   exact absurd h2 h.2
  ·rw [if_neg h1,if_pos h2] at h
   simp only [Bool.and_eq_true,bne_iff_ne,ne_eq,decide_eq_true_eq] at h
   exact h.1
theorem rng_d {ex:Str} {L:List Tr} (hp:placesB ex L=true) {k:Nat} (h1:atV (varsV ex).1.1 L=some k) (d:Int):inV (varsV ex).1 d=withR 100 d:=by
 have h:=places_at hp k (atV_lt h1)
 unfold placeB at h
 rw [if_pos h1] at h
 simp only [Bool.and_eq_true,beq_iff_eq,decide_eq_true_eq] at h
 rw [withR_range]
 unfold inV
 rw [← h.1.2]
theorem rng_n {ex:Str} {L:List Tr} (hp:placesB ex L=true) {k:Nat} (h2:atV (varsV ex).2.1 L=some k) (n:Int):inV (varsV ex).2 n=withR (letR ex L k) n:=by
 have h:=places_at hp k (atV_lt h2)
 unfold placeB at h
 by_cases h1:atV (varsV ex).1.1 L=some k
 ·rw [if_pos h1] at h
  simp only [Bool.and_eq_true,decide_eq_true_eq] at h
  exact absurd h2 h.2
 ·rw [if_neg h1,if_pos h2] at h
  simp only [Bool.and_eq_true,bne_iff_ne,ne_eq,decide_eq_true_eq] at h
  rw [withR_range]
  unfold inV
  rw [← h.2]
theorem put_d {ex:Str} {L:List Tr} (hp:placesB ex L=true) (d n:Int):putB (varsV ex).1 L d=true↔(∀ k,k<L.length→letR ex L k=100→okR ex L d n k=true)∧useD ex L d L.length=true:=by
 unfold putB useD
 cases hj:atV (varsV ex).1.1 L with
 | none=>
  simp only [decide_eq_true_eq,Bool.or_eq_true,beq_iff_eq,List.any_eq_true,List.mem_range]
  have hno:∀ k,k<L.length→letR ex L k≠100:=fun k hk e=>by
   have:=(let_d hp hk).1 e
   rw [hj] at this
   cases this
  constructor
  ·exact fun h=>⟨fun k hk e=>absurd e (hno k hk),.inl h⟩
  ·rintro ⟨-,h | ⟨k,hk,e⟩⟩
   ·exact h
   ·exact absurd e (hno k hk)
 | some j=>
  have hjl:=atV_lt hj
  have hlj:=(let_d hp hjl).2 hj
  simp only
  rw [rng_d hp hj]
  simp only [Bool.or_eq_true,beq_iff_eq,List.any_eq_true,List.mem_range]
  constructor
  ·intro h
   refine ⟨fun k hk e=>?_,.inr ⟨j,hjl,hlj⟩⟩
   unfold okR stR
   rw [if_pos e,e]
   simp [h]
  ·rintro ⟨h,-⟩
   have:=h j hjl hlj
   unfold okR stR at this
   rw [if_pos hlj,hlj] at this
   simpa using this
theorem put_n {ex:Str} {L:List Tr} (hp:placesB ex L=true) (d n:Int):putB (varsV ex).2 L n=true↔(∀ k,k<L.length→letR ex L k≠100→letR ex L k≠0→okR ex L d n k=true)∧useN ex L n L.length=true:=by
 unfold putB useN
 cases hj:atV (varsV ex).2.1 L with
 | none=>
  simp only [decide_eq_true_eq,Bool.or_eq_true,beq_iff_eq,List.any_eq_true,List.mem_range,Bool.and_eq_true,bne_iff_ne,ne_eq]
  have hno:∀ k,k<L.length→¬(letR ex L k≠100∧letR ex L k≠0):=fun k hk e=>by
   have:=(let_n hp hk).1 e
   rw [hj] at this
   cases this
  constructor
  ·exact fun h=>⟨fun k hk e1 e2=>absurd ⟨e1,e2⟩ (hno k hk),.inl h⟩
  ·rintro ⟨-,h | ⟨k,hk,e⟩⟩
   ·exact h
   ·exact absurd e (hno k hk)
 | some j=>
  have hjl:=atV_lt hj
  have hlj:=(let_n hp hjl).2 hj
  simp only
  rw [rng_n hp hj]
  simp only [Bool.or_eq_true,beq_iff_eq,List.any_eq_true,List.mem_range,Bool.and_eq_true,bne_iff_ne,ne_eq]
  constructor
  ·intro h
   refine ⟨fun k hk e1 e2=>?_,.inr ⟨j,hjl,hlj⟩⟩
   have hkj:k=j:=by
    have:=(let_n hp hk).1 ⟨e1,e2⟩
    rw [hj] at this
    exact (Option.some.inj this).symm
   subst hkj
   unfold okR stR
   rw [if_neg e1,if_neg e2]
   simp [h]
  ·rintro ⟨h,-⟩
   have:=h j hjl hlj.1 hlj.2
   unfold okR stR at this
   rw [if_neg hlj.1,if_neg hlj.2] at this
   simpa [hlj.2] using this
theorem putB_shape (v:Vr) {L C:List Tr} (h:L.map ks2=C.map ks2) (n:Int):putB v L n=putB v C n:=by
 unfold putB
 rw [atV_congr v.1 h]
theorem fill_same {ex:Str} {L:List Tr} (hp:placesB ex L=true) (d n:Int):fillR ex L d n=fillV ex L d n:=by
 have hd:=put_d hp d n
 have hn:=put_n hp d n
 have hsh:=putL_shape (varsV ex).1.1 L d
 rw [← putB_shape _ hsh] at hn
 have hc:((List.range L.length).all (okR ex L d n)=true∧useD ex L d L.length=true∧useN ex L n L.length=true)↔(putB (varsV ex).1 L d=true∧putB (varsV ex).2 (putL (varsV ex).1.1 L d) n=true):=by
  rw [hd,hn,List.all_eq_true]
  constructor
  ·rintro ⟨h1,h2,h3⟩
   exact ⟨⟨fun k hk _=>h1 k (List.mem_range.2 hk),h2⟩,fun k hk _ _=>h1 k (List.mem_range.2 hk),h3⟩
  ·rintro ⟨⟨h1,h2⟩,h3,h4⟩
   refine ⟨fun k hk=>?_,h2,h4⟩
   have hk:=List.mem_range.1 hk
   by_cases e1:letR ex L k=100
   ·exact h1 k hk e1
   ·by_cases e2:letR ex L k=0
    ·unfold okR
     rw [e2]
     rfl
    ·exact h3 k hk e1 e2
 unfold fillR
 by_cases h:putB (varsV ex).1 L d=true∧putB (varsV ex).2 (putL (varsV ex).1.1 L d) n=true
 ·have hf:fillV ex L d n=some (putL (varsV ex).2.1 (putL (varsV ex).1.1 L d) n):=by unfold fillV;rw [if_pos h]
  rw [if_pos (hc.2 h),hf]
  have hl:=len_of_shape (fill_shape hf).1
  refine congrArg some (ext_getD (by rw [List.length_map,List.length_range];exact hl.symm) fun i hi=>?_)
  rw [List.length_map,List.length_range] at hi
  rw [fill_get hf i hi,List.getD_eq_getElem?_getD,List.getElem?_map,List.getElem?_range hi]
  simp only [Option.map_some,Option.getD_some]
  unfold stR
  by_cases e1:letR ex L i=100
  ·have a1:=(let_d hp hi).1 e1
   have a2:atV (varsV ex).2.1 L≠some i:=fun e=>((let_n hp hi).2 e).1 e1
   rw [if_pos e1,if_neg a2,if_pos a1]
  ·have a1:atV (varsV ex).1.1 L≠some i:=fun e=>e1 ((let_d hp hi).2 e)
   rw [if_neg e1]
   by_cases e2:letR ex L i=0
   ·have a2:atV (varsV ex).2.1 L≠some i:=fun e=>((let_n hp hi).2 e).2 e2
    rw [if_pos e2,if_neg a2,if_neg a1]
   ·rw [if_neg e2,if_pos ((let_n hp hi).1 ⟨e1,e2⟩)]
 ·have hf:fillV ex L d n=none:=by unfold fillV;rw [if_neg h]
  rw [if_neg (fun e=>h (hc.1 e)),hf]
end Go.Proofs.YtoilebmbljpieaaGreatDoor
namespace Go.Proofs.YtoilebmbljpieaaGreatDoor
open Go.RowKit Go.Shelf
attribute [local go_sem] Oper.semAt_some
def RetRFill (w:World) (m:Str) (o:Option (List Tr)) (e:Ending) (w':World):Prop:=match o with
 | some L2=>∃ v,e=.returned (.tuple #[.agg #[.string (sB m),v],.bool true])∧OwnT w' w.heap.size v L2∧Below w.heap.size w w'
 | none=>e=.returned (.tuple #[.agg #[.string ⟨#[]⟩,.slice none 0 0],.bool false])∧Below w.heap.size w w'
theorem fillR_no {ex:Str} {L:List Tr} {d n:Int} {k:Nat} (hk:k<L.length) (h:okR ex L d n k=false):fillR ex L d n=none:=by
 unfold fillR
 refine if_neg fun hc=>?_
 have:=List.all_eq_true.1 hc.1 k (List.mem_range.2 hk)
 rw [h] at this
 cases this
theorem fillR_yes {ex:Str} {L:List Tr} {d n:Int} (h:∀ k,k<L.length→okR ex L d n k=true) (h1:useD ex L d L.length=true) (h2:useN ex L n L.length=true):fillR ex L d n=some ((List.range L.length).map (stR ex L d n)):=by
 unfold fillR
 exact if_pos ⟨List.all_eq_true.2 fun k hk=>h k (List.mem_range.1 hk),h1,h2⟩
theorem fillR_noD {ex:Str} {L:List Tr} {d n:Int} (h1:useD ex L d L.length=false):fillR ex L d n=none:=by
 unfold fillR
 refine if_neg fun hc=>?_
 rw [h1] at hc
 exact absurd hc.2.1 (by simp)
theorem fillR_noN {ex:Str} {L:List Tr} {d n:Int} (h1:useN ex L n L.length=false):fillR ex L d n=none:=by
 unfold fillR
 refine if_neg fun hc=>?_
 rw [h1] at hc
 exact absurd hc.2.2 (by simp)
theorem useD_step (ex:Str) (L:List Tr) (d:Int) (k:Nat):useD ex L d (k+1)=(useD ex L d k||letR ex L k == 100):=by
 unfold useD
 rw [List.range_succ,List.any_append]
 simp [Bool.or_assoc]
theorem useN_step (ex:Str) (L:List Tr) (n:Int) (k:Nat):useN ex L n (k+1)=(useN ex L n k||(letR ex L k != 100&&letR ex L k != 0)):=by
 unfold useN
 rw [List.range_succ,List.any_append]
 simp [Bool.or_assoc]
theorem map_step (ex:Str) (L:List Tr) (d n:Int) (k:Nat):(List.range (k+1)).map (stR ex L d n)=(List.range k).map (stR ex L d n)++[stR ex L d n k]:=by
 rw [List.range_succ,List.map_append]
 rfl
theorem fill_start (w:World) (page op:Int) (m:Str) (v:Value) (ex:Str) (al:Bool) (n:Nat) (hn:w.heap.size=n):∃ w0,((w.alloc (.cells #[.int .i64 page,.int .u8 op,.string (sB m),v,.string (sB ex),.bool al] 41)).alloc (.cells #[.string ⟨#[]⟩,.slice none 0 0] 26))=w0∧
  w0.heap[n]?=some (.cells #[.int .i64 page,.int .u8 op,.string (sB m),v,.string (sB ex),.bool al] 41 (0,0))∧Rz w0 (n+1)∧Below w.heap.size w w0∧w0.heap.size=n+2:=by
 subst hn
 refine ⟨_,rfl,(Below.heap_alloc _ _ _ (by simp)).trans (World.alloc_heap_new w _),?_,((Below.refl _ w).alloc (Nat.le_refl _) _).alloc (by simp) _,by simp⟩
 have h:=World.alloc_heap_new (w.alloc (.cells #[.int .i64 page,.int .u8 op,.string (sB m),v,.string (sB ex),.bool al] 41)) (.cells #[.string ⟨#[]⟩,.slice none 0 0] 26)
 rwa [World.size_alloc] at h
theorem rfill_any (page op:Int) (m:Str) (A:Option Addr) (cap l:Nat) (L:List Tr) (hl:L.length=l) (hL:l≤1000) (ex:Str) (hx:ex.length≤1000) (al:Bool) (d q:Int) (w:World) (H:OpsP w A L) :
  Calls Tryz.prog 43 #[enV page op m (.slice A l cap) ex al,.int .i64 d,.int .i64 q] w (RetRFill w m (fillR ex L d q)):=by
 unfold enV
 obtain ⟨n,hn⟩:∃ z,w.heap.size=z:=⟨_,rfl⟩
 obtain ⟨w0,hw0,c0,zz,b0,z0⟩:=fill_start w page op m (.slice A l cap) ex al n hn
 have BB:Hid (Below n w w0):=by rw [← hn];exact b0
 have HN:=Lib.hid hn
 have HL:=Lib.hid hl
 have Z0:=Lib.hid z0
 have PH:=Lib.hid H
 have C0:=Lib.hid c0
 have R0:=Lib.hid zz
 have k0:=Lib.cell_of_heap c0 0
 have k1:=Lib.cell_of_heap c0 1
 have k2:=Lib.cell_of_heap c0 2
 have k3:=Lib.cell_of_heap c0 3
 have k4:=Lib.cell_of_heap c0 4
 have k5:=Lib.cell_of_heap c0 5
 clear H b0 c0 z0 zz hl
 go_enter Tryz.func43,Tryz.ntmps43
 go_upto_region 1 with fail
 clear hw0
 go_upto_region 2 with fail
 obtain ⟨w3,hw3⟩:∃ z,w0.alloc (.cells #[.string (sB m),.slice none 0 0] 26)=z:=⟨_,rfl⟩
 obtain ⟨b,hb⟩:∃ z,w0.heap.size=z:=⟨_,rfl⟩
 have y2:Below w0.heap.size w0 w3:=by rw [← hw3];exact (Below.refl _ _).alloc (Nat.le_refl _) _
 have RI:Hid (Ri w3 b (sB m) (.slice none 0 0)):=by rw [← hw3,← hb];exact heap_alloc_new w0 _
 have hb2:n+1<b:=by have:=Z0.out;omega
 have ZS:Hid (w3.heap.size=b+1):=by show _=_;rw [← hw3,← hb];simp
 have B3:Hid (Below n w w3):=BB.out.trans (y2.mono (by have:=Z0.out;omega))
 have C3:=Lib.hid ((y2.block n (by have:=Z0.out;omega)).trans C0.out)
 have R3:Hid (Rz w3 (n+1)):=(y2.block (n+1) (by have:=Z0.out;omega)).trans R0.out
 rw [hw3,hb]
 clear hw3 hb y2 k0 k1 k2 k3 k4 k5 BB Z0 C0 R0
 have U0:Hid ((d == 0)=useD ex L d 0):=by show _=_;unfold useD;simp
 have U1:Hid ((q == 0)=useN ex L q 0):=by show _=_;unfold useN;simp
 obtain ⟨ud,hud⟩:∃ z,(d == 0)=z:=⟨_,rfl⟩
 obtain ⟨un,hun⟩:∃ z,(q == 0)=z:=⟨_,rfl⟩
 rw [hud] at U0
 rw [hun] at U1
 have hO0:Hid (OwnT w3 (b+1) (.slice none 0 0) ((List.range 0).map (stR ex L d q))):=World.ownsRow_nil _ _ _ _
 go_wp2
 clear hud hun
 go_loopw [9,10,11] (fun x y i wr=>∃ (j:Nat) (A4:Option Addr) (cap4:Nat) (p r:Bool),j≤l∧i=.int .i64 j∧x=.bool p∧y=.bool r∧Hid (p=useD ex L d j)∧Hid (r=useN ex L q j)∧Hid (∀ k,k<j→okR ex L d q k=true)∧Hid (Ri wr b (sB m) (.slice A4 j cap4))∧Hid (OwnT wr (b+1) (.slice A4 j cap4) ((List.range j).map (stR ex L d q)))∧Hid (Below b w3 wr)∧Hid (b+1≤wr.heap.size)) (fun _ _ i _=>l - (intOf i).toNat)
 case atStart=>exact ⟨0,none,0,ud,un,Nat.zero_le _,rfl,rfl,rfl,U0.out,U1.out,fun k h=>by omega,RI.out,hO0.out,Below.refl _ _,Nat.le_of_eq ZS.out.symm⟩
 case round=>
  clear RI hO0 U0 U1
  obtain ⟨j,A4,cap4,p,r,hj,rfl,rfl,rfl,UD,UN,OK,hri,hO,hB,hS⟩:=hrel
  have cw:=(hB.out.block n (by omega)).trans C3.out
  have CW:=Lib.hid cw
  have RW:Hid (Rz wr (n+1)):=(hB.out.block (n+1) (by omega)).trans R3.out
  have BW:Hid (Below n w wr):=B3.out.trans (hB.out.mono (by omega))
  have PW:Hid (OpsP wr A L):=PH.out.below (by rw [HN.out];exact BW.out)
  have k0:=Lib.cell_of_heap cw 0
  have k1:=Lib.cell_of_heap cw 1
  have k2:=Lib.cell_of_heap cw 2
  have k3:=Lib.cell_of_heap cw 3
  have k4:=Lib.cell_of_heap cw 4
  have k5:=Lib.cell_of_heap cw 5
  clear cw
  by_cases hlt:j<l
  ·have hjL:j<L.length:=by have:=HL.out;omega
   obtain ⟨b1,o1,rfl,-,p0,p1,p2⟩:=PW.out.at_ hjL
   have g2:L.getD j tr0=L[j]:=by rw [List.getD_eq_getElem?_getD,List.getElem?_eq_getElem hjL];rfl
   rw [← g2] at p0 p1 p2
   have HJL:=Lib.hid hjL
   obtain ⟨⟨y0,y1,y2⟩,hy⟩:∃ z,L.getD j tr0=z:=⟨_,rfl⟩
   have HY:=Lib.hid hy
   rw [hy] at p0 p1 p2
   simp only at p0 p1 p2
   have hal:Below wr.heap.size wr (wr.alloc (.cells #[.int .i64 y0,.int .i64 y1,.int .i64 y2] 63)):=(Below.refl _ _).alloc (Nat.le_refl _) _
   have HAL:=Lib.hid hal
   have bx:(wr.alloc (.cells #[.int .i64 y0,.int .i64 y1,.int .i64 y2] 63)).heap[wr.heap.size]?=some (.cells #[.int .i64 y0,.int .i64 y1,.int .i64 y2] 63 (0,0)):=heap_alloc_new wr _
   have BX:=Lib.hid bx
   have lt:=fun w' h=>letter_any page op m (some ⟨b1,o1,none⟩) cap l L HL.out hL ex hx al j hlt w' h
   simp only [enV] at lt
   have LT:=Lib.hid lt
   clear hy hjL g2 hal bx lt
   go_upto_region 8 with fail
   obtain ⟨g,hg⟩:∃ z,wr.heap.size=z:=⟨_,rfl⟩
   obtain ⟨w4,hw4⟩:∃ z,wr.alloc (.cells #[.int .i64 y0,.int .i64 y1,.int .i64 y2] 63)=z:=⟨_,rfl⟩
   rw [hw4,hg]
   rw [hw4,hg] at BX
   rw [hw4] at HAL
   have c4:=(HAL.out.block n (by have:=hS.out;omega)).trans CW.out
   have C4:=Lib.hid c4
   have RW4:Hid (Rz w4 (n+1)):=(HAL.out.block (n+1) (by have:=hS.out;omega)).trans RW.out
   have P4:=Lib.hid (PW.out.below HAL.out)
   have hri4:Hid (Ri w4 b (sB m) (.slice A4 j cap4)):=(HAL.out.block b (by have:=hS.out;omega)).trans hri.out
   have hO4:=Lib.hid (hO.out.below HAL.out)
   have hB4:Hid (Below b w3 w4):=hB.out.trans (HAL.out.mono (by have:=hS.out;omega))
   have hS4:Hid (b+1≤g∧g<w4.heap.size):=by
    have h1:=hS.out
    exact ⟨by omega,(Array.getElem?_eq_some_iff.1 BX.out).1⟩
   have GB:Hid (∀ g',(Value.slice A4 j cap4).ownBlock=some g'→g'≠g):=fun g' hg'=>by have:=(World.ownsRow.lt hO.out g' hg').2;omega
   have k0:=Lib.cell_of_heap c4 0
   have k1:=Lib.cell_of_heap c4 1
   have k2:=Lib.cell_of_heap c4 2
   have k3:=Lib.cell_of_heap c4 3
   have k4:=Lib.cell_of_heap c4 4
   have k5:=Lib.cell_of_heap c4 5
   clear hw4 c4 p0 p1 p2 hg HAL CW RW BW PW hri hO hB hS
   go_wp2_with fail
   refine (LT.out w4 P4.out).mono ?_
   rintro e w5 ⟨rfl,hb⟩
   have RW5:Hid (Rz w5 (n+1)):=(hb.block (n+1) (by have:=hS4.out;omega)).trans RW4.out
   have hri5:Hid (Ri w5 b (sB m) (.slice A4 j cap4)):=(hb.block b (by have:=hS4.out;omega)).trans hri4.out
   have hO5:=Lib.hid (hO4.out.below hb)
   have hB5:Hid (Below b w3 w5):=hB4.out.trans (hb.mono (by have:=hS4.out;omega))
   have bx5:Hid (w5.heap[g]?=some (.cells #[.int .i64 y0,.int .i64 y1,.int .i64 y2] 63 (0,0))):=(hb.block g hS4.out.2).trans BX.out
   have hS5:Hid (b+1≤g∧g<w5.heap.size):=⟨hS4.out.1,Nat.lt_of_lt_of_le hS4.out.2 hb.size⟩
   have hgb:g≠b:=by have:=hS5.out.1;omega
   have hgn:g≠n+1:=by have:=hS5.out.1;omega
   have q0:=Lib.cell_of_heap bx5.out 0
   have q1:=Lib.cell_of_heap bx5.out 1
   have q2:=Lib.cell_of_heap bx5.out 2
   have hll:((List.range j).map (stR ex L d q)).length=j:=by rw [List.length_map,List.length_range]
   have HLL:=Lib.hid hll
   clear hb k0 k1 k2 k3 k4 k5 LT P4 RW4 hri4 hO4 hB4 BX hS4 C4 hll
   rcases letR_cases ex L j with hv9 | hv9 | hv9 | hv9 | hv9
   rotate_left 4
   ·have e9:letR ex L j=0:=hv9
    rw [hv9]
    simp only [show ((0:UInt8).toNat:Int)=0 from rfl]
    have ST:Hid (stR ex L d q j=(y0,y1,y2)):=by show stR ex L d q j=_;unfold stR;rw [if_neg (by rw [e9];decide),if_pos e9,HY.out]
    have OKJ:Hid (okR ex L d q j=true):=by show okR ex L d q j=_;unfold okR;rw [e9];rfl
    have UD2:Hid (p=useD ex L d (j+1)):=by show _=_;rw [useD_step,e9];rw [← UD.out];simp
    have UN2:Hid (r=useN ex L q (j+1)):=by show _=_;rw [useN_step,e9];rw [← UN.out];simp
    have hri6:=hri5
    have hO6:=hO5
    have hB6:=hB5
    have hS6:Hid (b+1≤w5.heap.size):=by have:=hS5.out;show _≤_;omega
    have OK2:Hid (∀ k,k<j+1→okR ex L d q k=true):=fun k hk=>by
     by_cases e:k=j
     ·rw [e];exact OKJ.out
     ·exact OK.out k (by omega)
    have W3:Hid ((List.range (j+1)).map (stR ex L d q)=(List.range j).map (stR ex L d q)++[(y0,y1,y2)]):=by show _=_;rw [map_step,ST.out]
    clear hri5 hO5 hB5 RW5
    obtain ⟨-,r1⟩:=hri6.out.cells
    have BK:Hid (∀ w8,Below (b+1) w5 w8→Ri w8 b (sB m) (.slice A4 j cap4)∧Below b w3 w8∧b+1≤w8.heap.size):=fun w8 hB8=>⟨(hB8.block b (by omega)).trans hri6.out,hB6.out.trans (hB8.mono (by omega)),Nat.le_trans hS6.out hB8.size⟩
    go_wp2_with (at_builtin;refine wpList_appT hO6.out hS6.out rfl _ _ rfl rfl w5.heap.size (by simp) rfl (y0,y1,y2) j HLL.out (by omega) ?_;intro A4' cap4' w8 hO8 hB8;obtain ⟨hri8,hB9,hS9⟩:=BK.out w8 hB8;rw [← W3.out] at hO8;obtain ⟨r2,r3⟩:=hri8.cells;have r4:w8.frozen? ⟨b,1,none⟩=false:=Lib.frozen_of_heap hri8 1;have hO8:=Lib.hid hO8;have hri8:=Lib.hid hri8;have hB9:=Lib.hid hB9;have hS9:=Lib.hid hS9;clear hB8 r2)
    have hri9:Hid (Ri (w8.setCell ⟨b,1,none⟩ (.slice A4' (j+1) cap4')) b (sB m) (.slice A4' (j+1) cap4')):=heap_setCell_same w8 b 1 _ _ _ hri8.out
    have hO9:Hid (OwnT (w8.setCell ⟨b,1,none⟩ (.slice A4' (j+1) cap4')) (b+1) (.slice A4' (j+1) cap4') ((List.range (j+1)).map (stR ex L d q))):=row_set hO8.out (p:=⟨b,1,none⟩) (by simp) _
    have hBa:Hid (Below b w3 (w8.setCell ⟨b,1,none⟩ (.slice A4' (j+1) cap4'))):=hB9.out.setCell (p:=⟨b,1,none⟩) (Nat.le_refl _) _
    have hSa:Hid (b+1≤(w8.setCell ⟨b,1,none⟩ (.slice A4' (j+1) cap4')).heap.size):=by have h1:=hS9.out;simp [Hid] at h1 ⊢;omega
    go_roundw
    case rel=>exact ⟨j+1,A4',cap4',_,_,by omega,by go_num,rfl,rfl,UD2.out,UN2.out,OK2.out,hri9.out,hO9.out,hBa.out,hSa.out⟩
    case measure=>simp [intOf];omega
   ·have e9:letR ex L j=100:=hv9
    rw [hv9]
    simp only [show ((100:UInt8).toNat:Int)=100 from rfl]
    have fz:w5.frozen? ⟨g,2,none⟩=false:=Lib.frozen_of_heap bx5.out 2
    have WI:=Lib.hid (fun w'=>rwithin_any 100 d w')
    simp only [show ((100:UInt8).toNat:Int)=100 from rfl] at WI
    have ST:Hid (stR ex L d q j=(y0,y1,d)):=by show stR ex L d q j=_;unfold stR;rw [if_pos e9,HY.out]
    have OKJ:Hid (okR ex L d q j=withR 100 d):=by show okR ex L d q j=_;unfold okR;rw [ST.out,e9];simp
    have UD2:Hid (true=useD ex L d (j+1)):=by show _=_;rw [useD_step,e9];simp
    have UN2:Hid (r=useN ex L q (j+1)):=by show _=_;rw [useN_step,e9];rw [← UN.out];simp
    obtain ⟨o,ho⟩:∃ z,withR 100 d=z:=⟨_,rfl⟩
    rw [ho] at OKJ WI
    have hri6:Hid (Ri (w5.setCell ⟨g,2,none⟩ (.int .i64 d)) b (sB m) (.slice A4 j cap4)):=(heap_setCell_other w5 ⟨g,2,none⟩ b _ hgb.symm).trans hri5.out
    have hO6:Hid (OwnT (w5.setCell ⟨g,2,none⟩ (.int .i64 d)) (b+1) (.slice A4 j cap4) ((List.range j).map (stR ex L d q))):=row_set_ne hO5.out (p:=⟨g,2,none⟩) GB.out _
    have hB6:Hid (Below b w3 (w5.setCell ⟨g,2,none⟩ (.int .i64 d))):=hB5.out.setCell (p:=⟨g,2,none⟩) (by have:=hS5.out.1;simp;omega) _
    have RW6:Hid (Rz (w5.setCell ⟨g,2,none⟩ (.int .i64 d)) (n+1)):=(heap_setCell_other w5 ⟨g,2,none⟩ (n+1) _ hgn.symm).trans RW5.out
    have hS6:Hid (b+1≤(w5.setCell ⟨g,2,none⟩ (.int .i64 d)).heap.size):=by have:=hS5.out;simp [Hid];omega
    clear ho hri5 hO5 hB5 RW5
    go_wp2_with fail
    refine (WI.out _).mono ?_
    rintro e wx ⟨rfl,rfl⟩
    cases o with
    | false=>
     have B6:Hid (Below n w (w5.setCell ⟨g,2,none⟩ (.int .i64 d))):=B3.out.trans (hB6.out.mono (by omega))
     have NO2:=Lib.hid (fillR_no HJL.out OKJ.out)
     clear q0 q1 q2 WI hri6 hO6 hB6
     have NO:Hid (fillR ex L d q=none):=NO2.out
     obtain ⟨z0,z1,z2,z3⟩:=RW6.out.cells
     have F:Hid (RetRFill w m (fillR ex L d q) (.returned (.tuple #[.agg #[.string ⟨#[]⟩,.slice none 0 0],.bool false])) (((w5.setCell ⟨g,2,none⟩ (.int .i64 d)).setCell ⟨n+1,0,none⟩ (.string ⟨#[]⟩)).setCell ⟨n+1,1,none⟩ (.slice none 0 0))):=by
      show RetRFill w m (fillR ex L d q) _ _
      rw [NO.out]
      refine ⟨rfl,?_⟩
      rw [HN.out]
      exact (B6.out.setCell (p:=⟨n+1,0,none⟩) (by simp) _).setCell (p:=⟨n+1,1,none⟩) (by simp) _
     have E:=Lib.hid (RW6.out.set ⟨#[]⟩ (.slice none 0 0))
     go_wp2
     obtain ⟨e0,e1⟩:=E.out
     obtain ⟨w6,hw6⟩:∃ w6,(((w5.setCell ⟨g,2,none⟩ (.int .i64 d)).setCell ⟨n+1,0,none⟩ (.string ⟨#[]⟩)).setCell ⟨n+1,1,none⟩ (.slice none 0 0))=w6:=⟨_,rfl⟩
     rw [hw6] at F e0 e1 ⊢
     clear hw6 z0 z1 z2 z3
     refine bodyPost_ret (v:=.tuple #[.agg #[.string ⟨#[]⟩,.slice none 0 0],.bool false]) ?_ rfl F.out
     simp [results,Tryz.results43,go_sem,e0,e1]
    | true=>
     have OK2:Hid (∀ k,k<j+1→okR ex L d q k=true):=fun k hk=>by
      by_cases e:k=j
      ·rw [e];exact OKJ.out
      ·exact OK.out k (by omega)
     have W3:Hid ((List.range (j+1)).map (stR ex L d q)=(List.range j).map (stR ex L d q)++[(y0,y1,d)]):=by show _=_;rw [map_step,ST.out]
     clear WI
     obtain ⟨-,r1⟩:=hri6.out.cells
     have BK:Hid (∀ w8,Below (b+1) (w5.setCell ⟨g,2,none⟩ (.int .i64 d)) w8→Ri w8 b (sB m) (.slice A4 j cap4)∧Below b w3 w8∧b+1≤w8.heap.size):=fun w8 hB8=>⟨(hB8.block b (by omega)).trans hri6.out,hB6.out.trans (hB8.mono (by omega)),Nat.le_trans hS6.out hB8.size⟩
     go_wp2_with (at_builtin;refine wpList_appT hO6.out hS6.out rfl _ _ rfl rfl w5.heap.size (by simp) rfl (y0,y1,d) j HLL.out (by omega) ?_;intro A4' cap4' w8 hO8 hB8;obtain ⟨hri8,hB9,hS9⟩:=BK.out w8 hB8;rw [← W3.out] at hO8;obtain ⟨r2,r3⟩:=hri8.cells;have r4:w8.frozen? ⟨b,1,none⟩=false:=Lib.frozen_of_heap hri8 1;have hO8:=Lib.hid hO8;have hri8:=Lib.hid hri8;have hB9:=Lib.hid hB9;have hS9:=Lib.hid hS9;clear hB8 r2)
     have hri9:Hid (Ri (w8.setCell ⟨b,1,none⟩ (.slice A4' (j+1) cap4')) b (sB m) (.slice A4' (j+1) cap4')):=heap_setCell_same w8 b 1 _ _ _ hri8.out
     have hO9:Hid (OwnT (w8.setCell ⟨b,1,none⟩ (.slice A4' (j+1) cap4')) (b+1) (.slice A4' (j+1) cap4') ((List.range (j+1)).map (stR ex L d q))):=row_set hO8.out (p:=⟨b,1,none⟩) (by simp) _
     have hBa:Hid (Below b w3 (w8.setCell ⟨b,1,none⟩ (.slice A4' (j+1) cap4'))):=hB9.out.setCell (p:=⟨b,1,none⟩) (Nat.le_refl _) _
     have hSa:Hid (b+1≤(w8.setCell ⟨b,1,none⟩ (.slice A4' (j+1) cap4')).heap.size):=by have h1:=hS9.out;simp [Hid] at h1 ⊢;omega
     go_roundw
     case rel=>exact ⟨j+1,A4',cap4',_,_,by omega,by go_num,rfl,rfl,UD2.out,UN2.out,OK2.out,hri9.out,hO9.out,hBa.out,hSa.out⟩
     case measure=>simp [intOf];omega
   all_goals
    have e9:=hv9
    have WI:=fun w'=>rwithin_any (letR ex L j) q w'
    have fz:w5.frozen? ⟨g,2,none⟩=false:=Lib.frozen_of_heap bx5.out 2
    have ST:Hid (stR ex L d q j=(y0,y1,q)):=by show stR ex L d q j=_;unfold stR;rw [if_neg (by rw [e9];decide),if_neg (by rw [e9];decide),HY.out]
    have OKJ:Hid (okR ex L d q j=withR (letR ex L j) q):=by show okR ex L d q j=_;unfold okR;rw [ST.out,e9];simp
    have UD2:Hid (p=useD ex L d (j+1)):=by show _=_;rw [useD_step,e9];rw [← UD.out];simp
    have UN2:Hid (true=useN ex L q (j+1)):=by show _=_;rw [useN_step,e9];simp
    obtain ⟨o,ho⟩:∃ z,withR (letR ex L j) q=z:=⟨_,rfl⟩
    rw [ho] at OKJ WI
    rw [hv9] at WI ⊢
    simp only [UInt8.reduceToNat,Int.cast_ofNat_Int] at WI ⊢
    have WI:=Lib.hid WI
    have hri6:Hid (Ri (w5.setCell ⟨g,2,none⟩ (.int .i64 q)) b (sB m) (.slice A4 j cap4)):=(heap_setCell_other w5 ⟨g,2,none⟩ b _ hgb.symm).trans hri5.out
    have hO6:Hid (OwnT (w5.setCell ⟨g,2,none⟩ (.int .i64 q)) (b+1) (.slice A4 j cap4) ((List.range j).map (stR ex L d q))):=row_set_ne hO5.out (p:=⟨g,2,none⟩) GB.out _
    have hB6:Hid (Below b w3 (w5.setCell ⟨g,2,none⟩ (.int .i64 q))):=hB5.out.setCell (p:=⟨g,2,none⟩) (by have:=hS5.out.1;simp;omega) _
    have RW6:Hid (Rz (w5.setCell ⟨g,2,none⟩ (.int .i64 q)) (n+1)):=(heap_setCell_other w5 ⟨g,2,none⟩ (n+1) _ hgn.symm).trans RW5.out
    have hS6:Hid (b+1≤(w5.setCell ⟨g,2,none⟩ (.int .i64 q)).heap.size):=by have:=hS5.out;simp [Hid];omega
    clear ho hri5 hO5 hB5 RW5
    go_wp2_with fail
    refine (WI.out _).mono ?_
    rintro e wx ⟨rfl,rfl⟩
    cases o with
    | false=>
     have B6:Hid (Below n w (w5.setCell ⟨g,2,none⟩ (.int .i64 q))):=B3.out.trans (hB6.out.mono (by omega))
     have NO2:=Lib.hid (fillR_no HJL.out OKJ.out)
     clear q0 q1 q2 WI hri6 hO6 hB6
     have NO:Hid (fillR ex L d q=none):=NO2.out
     obtain ⟨z0,z1,z2,z3⟩:=RW6.out.cells
     have F:Hid (RetRFill w m (fillR ex L d q) (.returned (.tuple #[.agg #[.string ⟨#[]⟩,.slice none 0 0],.bool false])) (((w5.setCell ⟨g,2,none⟩ (.int .i64 q)).setCell ⟨n+1,0,none⟩ (.string ⟨#[]⟩)).setCell ⟨n+1,1,none⟩ (.slice none 0 0))):=by
      show RetRFill w m (fillR ex L d q) _ _
      rw [NO.out]
      refine ⟨rfl,?_⟩
      rw [HN.out]
      exact (B6.out.setCell (p:=⟨n+1,0,none⟩) (by simp) _).setCell (p:=⟨n+1,1,none⟩) (by simp) _
     have E:=Lib.hid (RW6.out.set ⟨#[]⟩ (.slice none 0 0))
     go_wp2
     obtain ⟨e0,e1⟩:=E.out
     obtain ⟨w6,hw6⟩:∃ w6,(((w5.setCell ⟨g,2,none⟩ (.int .i64 q)).setCell ⟨n+1,0,none⟩ (.string ⟨#[]⟩)).setCell ⟨n+1,1,none⟩ (.slice none 0 0))=w6:=⟨_,rfl⟩
     rw [hw6] at F e0 e1 ⊢
     clear hw6 z0 z1 z2 z3
     refine bodyPost_ret (v:=.tuple #[.agg #[.string ⟨#[]⟩,.slice none 0 0],.bool false]) ?_ rfl F.out
     simp [results,Tryz.results43,go_sem,e0,e1]
    | true=>
     have OK2:Hid (∀ k,k<j+1→okR ex L d q k=true):=fun k hk=>by
      by_cases e:k=j
      ·rw [e];exact OKJ.out
      ·exact OK.out k (by omega)
     have W3:Hid ((List.range (j+1)).map (stR ex L d q)=(List.range j).map (stR ex L d q)++[(y0,y1,q)]):=by show _=_;rw [map_step,ST.out]
     clear WI
     obtain ⟨-,r1⟩:=hri6.out.cells
     have BK:Hid (∀ w8,Below (b+1) (w5.setCell ⟨g,2,none⟩ (.int .i64 q)) w8→Ri w8 b (sB m) (.slice A4 j cap4)∧Below b w3 w8∧b+1≤w8.heap.size):=fun w8 hB8=>⟨(hB8.block b (by omega)).trans hri6.out,hB6.out.trans (hB8.mono (by omega)),Nat.le_trans hS6.out hB8.size⟩
     go_wp2_with (at_builtin;refine wpList_appT hO6.out hS6.out rfl _ _ rfl rfl w5.heap.size (by simp) rfl (y0,y1,q) j HLL.out (by omega) ?_;intro A4' cap4' w8 hO8 hB8;obtain ⟨hri8,hB9,hS9⟩:=BK.out w8 hB8;rw [← W3.out] at hO8;obtain ⟨r2,r3⟩:=hri8.cells;have r4:w8.frozen? ⟨b,1,none⟩=false:=Lib.frozen_of_heap hri8 1;have hO8:=Lib.hid hO8;have hri8:=Lib.hid hri8;have hB9:=Lib.hid hB9;have hS9:=Lib.hid hS9;clear hB8 r2)
     have hri9:Hid (Ri (w8.setCell ⟨b,1,none⟩ (.slice A4' (j+1) cap4')) b (sB m) (.slice A4' (j+1) cap4')):=heap_setCell_same w8 b 1 _ _ _ hri8.out
     have hO9:Hid (OwnT (w8.setCell ⟨b,1,none⟩ (.slice A4' (j+1) cap4')) (b+1) (.slice A4' (j+1) cap4') ((List.range (j+1)).map (stR ex L d q))):=row_set hO8.out (p:=⟨b,1,none⟩) (by simp) _
     have hBa:Hid (Below b w3 (w8.setCell ⟨b,1,none⟩ (.slice A4' (j+1) cap4'))):=hB9.out.setCell (p:=⟨b,1,none⟩) (Nat.le_refl _) _
     have hSa:Hid (b+1≤(w8.setCell ⟨b,1,none⟩ (.slice A4' (j+1) cap4')).heap.size):=by have h1:=hS9.out;simp [Hid] at h1 ⊢;omega
     go_roundw
     case rel=>exact ⟨j+1,A4',cap4',_,_,by omega,by go_num,rfl,rfl,UD2.out,UN2.out,OK2.out,hri9.out,hO9.out,hBa.out,hSa.out⟩
     case measure=>simp [intOf];omega
  ·obtain rfl:j=l:=by omega
   have hw:=hO.out
   have OKA:Hid (∀ k,k<L.length→okR ex L d q k=true):=fun k hk=>OK.out k (by have:=HL.out;omega)
   obtain ⟨c0,c1⟩:=hri.out.cells
   have UD3:Hid (p=useD ex L d L.length):=by show _=_;rw [HL.out];exact UD.out
   have UN3:Hid (r=useN ex L q L.length):=by show _=_;rw [HL.out];exact UN.out
   have hO7:=hO
   clear hw UD UN OK
   cases p with
   | false=>
    have NO2:=Lib.hid (fillR_noD (n:=q) UD3.out.symm)
    clear UD3 UN3 c0 c1 hO hri hO7 OKA
    have NO:Hid (fillR ex L d q=none):=NO2.out
    obtain ⟨z0,z1,z2,z3⟩:=RW.out.cells
    have F:Hid (RetRFill w m (fillR ex L d q) (.returned (.tuple #[.agg #[.string ⟨#[]⟩,.slice none 0 0],.bool false])) ((wr.setCell ⟨n+1,0,none⟩ (.string ⟨#[]⟩)).setCell ⟨n+1,1,none⟩ (.slice none 0 0))):=by
     show RetRFill w m (fillR ex L d q) _ _
     rw [NO.out]
     refine ⟨rfl,?_⟩
     rw [HN.out]
     exact (BW.out.setCell (p:=⟨n+1,0,none⟩) (by simp) _).setCell (p:=⟨n+1,1,none⟩) (by simp) _
    have E:=Lib.hid (RW.out.set ⟨#[]⟩ (.slice none 0 0))
    go_wp2
    obtain ⟨e0,e1⟩:=E.out
    obtain ⟨w6,hw6⟩:∃ w6,((wr.setCell ⟨n+1,0,none⟩ (.string ⟨#[]⟩)).setCell ⟨n+1,1,none⟩ (.slice none 0 0))=w6:=⟨_,rfl⟩
    rw [hw6] at F e0 e1 ⊢
    clear hw6 z0 z1 z2 z3
    refine bodyPost_ret (v:=.tuple #[.agg #[.string ⟨#[]⟩,.slice none 0 0],.bool false]) ?_ rfl F.out
    simp [results,Tryz.results43,go_sem,e0,e1]
   | true=>
    cases r with
    | false=>
     have NO2:=Lib.hid (fillR_noN (d:=d) UN3.out.symm)
     clear UD3 UN3 c0 c1 hO hri hO7 OKA
     have NO:Hid (fillR ex L d q=none):=NO2.out
     obtain ⟨z0,z1,z2,z3⟩:=RW.out.cells
     have F:Hid (RetRFill w m (fillR ex L d q) (.returned (.tuple #[.agg #[.string ⟨#[]⟩,.slice none 0 0],.bool false])) ((wr.setCell ⟨n+1,0,none⟩ (.string ⟨#[]⟩)).setCell ⟨n+1,1,none⟩ (.slice none 0 0))):=by
      show RetRFill w m (fillR ex L d q) _ _
      rw [NO.out]
      refine ⟨rfl,?_⟩
      rw [HN.out]
      exact (BW.out.setCell (p:=⟨n+1,0,none⟩) (by simp) _).setCell (p:=⟨n+1,1,none⟩) (by simp) _
     have E:=Lib.hid (RW.out.set ⟨#[]⟩ (.slice none 0 0))
     go_wp2
     obtain ⟨e0,e1⟩:=E.out
     obtain ⟨w6,hw6⟩:∃ w6,((wr.setCell ⟨n+1,0,none⟩ (.string ⟨#[]⟩)).setCell ⟨n+1,1,none⟩ (.slice none 0 0))=w6:=⟨_,rfl⟩
     rw [hw6] at F e0 e1 ⊢
     clear hw6 z0 z1 z2 z3
     refine bodyPost_ret (v:=.tuple #[.agg #[.string ⟨#[]⟩,.slice none 0 0],.bool false]) ?_ rfl F.out
     simp [results,Tryz.results43,go_sem,e0,e1]
    | true=>
     have YES:=Lib.hid (fillR_yes OKA.out UD3.out.symm UN3.out.symm)
     have F:Hid (RetRFill w m (fillR ex L d q) (.returned (.tuple #[.agg #[.string (sB m),.slice A4 j cap4],.bool true])) ((wr.setCell ⟨n+1,0,none⟩ (.string (sB m))).setCell ⟨n+1,1,none⟩ (.slice A4 j cap4))):=by
      show RetRFill w m (fillR ex L d q) _ _
      rw [YES.out,HL.out]
      refine ⟨_,rfl,?_,?_⟩
      ·rw [HN.out]
       exact row_mono (row_set (row_set hO7.out (p:=⟨n+1,0,none⟩) (by simp;omega) _) (p:=⟨n+1,1,none⟩) (by simp;omega) _) (by omega)
      ·rw [HN.out]
       exact (BW.out.setCell (p:=⟨n+1,0,none⟩) (by simp) _).setCell (p:=⟨n+1,1,none⟩) (by simp) _
     obtain ⟨z0,z1,z2,z3⟩:=RW.out.cells
     have E:=Lib.hid (RW.out.set (sB m) (.slice A4 j cap4))
     clear UD3 UN3 hO hri hO7 OKA YES
     go_wp2
     obtain ⟨e0,e1⟩:=E.out
     obtain ⟨w6,hw6⟩:∃ w6,((wr.setCell ⟨n+1,0,none⟩ (.string (sB m))).setCell ⟨n+1,1,none⟩ (.slice A4 j cap4))=w6:=⟨_,rfl⟩
     rw [hw6] at F e0 e1 ⊢
     clear hw6 z0 z1 z2 z3 c0 c1
     refine bodyPost_ret (v:=.tuple #[.agg #[.string (sB m),.slice A4 j cap4],.bool true]) ?_ rfl F.out
     simp [results,Tryz.results43,go_sem,e0,e1]
end Go.Proofs.YtoilebmbljpieaaGreatDoor
namespace Go.Proofs.YtoilebmbljpieaaGreatDoor
open Go.RowKit Go.Shelf
theorem rprefixes_1 (w:World):Calls Tryz.prog 44 #[.int .i64 1] w (RetB w [203]):=by
 have O:=Lib.hid (own_lit w [203] (by decide))
 go_enter Tryz.func44,Tryz.ntmps44
 go_wp2
 go_ret
 exact ⟨_,rfl,O.out,(Below.refl _ _).alloc (Nat.le_refl _) _⟩
theorem rprefixes_2 (w:World):Calls Tryz.prog 44 #[.int .i64 2] w (RetB w [237]):=by
 have O:=Lib.hid (own_lit w [237] (by decide))
 go_enter Tryz.func44,Tryz.ntmps44
 go_wp2
 go_ret
 exact ⟨_,rfl,O.out,(Below.refl _ _).alloc (Nat.le_refl _) _⟩
theorem rprefixes_3 (w:World):Calls Tryz.prog 44 #[.int .i64 3] w (RetB w [221]):=by
 have O:=Lib.hid (own_lit w [221] (by decide))
 go_enter Tryz.func44,Tryz.ntmps44
 go_wp2
 go_ret
 exact ⟨_,rfl,O.out,(Below.refl _ _).alloc (Nat.le_refl _) _⟩
theorem rprefixes_4 (w:World):Calls Tryz.prog 44 #[.int .i64 4] w (RetB w [253]):=by
 have O:=Lib.hid (own_lit w [253] (by decide))
 go_enter Tryz.func44,Tryz.ntmps44
 go_wp2
 go_ret
 exact ⟨_,rfl,O.out,(Below.refl _ _).alloc (Nat.le_refl _) _⟩
theorem rprefixes_5 (w:World):Calls Tryz.prog 44 #[.int .i64 5] w (RetB w [221,203]):=by
 have O:=Lib.hid (own_lit w [221,203] (by decide))
 go_enter Tryz.func44,Tryz.ntmps44
 go_wp2
 go_ret
 exact ⟨_,rfl,O.out,(Below.refl _ _).alloc (Nat.le_refl _) _⟩
theorem rprefixes_6 (w:World):Calls Tryz.prog 44 #[.int .i64 6] w (RetB w [253,203]):=by
 have O:=Lib.hid (own_lit w [253,203] (by decide))
 go_enter Tryz.func44,Tryz.ntmps44
 go_wp2
 go_ret
 exact ⟨_,rfl,O.out,(Below.refl _ _).alloc (Nat.le_refl _) _⟩
theorem rprefixes_any (page:Int) (w:World):Calls Tryz.prog 44 #[.int .i64 page] w (RetB w (preS page)):=by
 unfold preS
 by_cases h1:page=1
 ·rw [if_pos h1];subst h1;exact rprefixes_1 w
 by_cases h2:page=2
 ·rw [if_neg h1,if_pos h2];subst h2;exact rprefixes_2 w
 by_cases h3:page=3
 ·rw [if_neg h1,if_neg h2,if_pos h3];subst h3;exact rprefixes_3 w
 by_cases h4:page=4
 ·rw [if_neg h1,if_neg h2,if_neg h3,if_pos h4];subst h4;exact rprefixes_4 w
 by_cases h5:page=5
 ·rw [if_neg h1,if_neg h2,if_neg h3,if_neg h4,if_pos h5];subst h5;exact rprefixes_5 w
 by_cases h6:page=6
 ·rw [if_neg h1,if_neg h2,if_neg h3,if_neg h4,if_neg h5,if_pos h6];subst h6;exact rprefixes_6 w
 rw [if_neg h1,if_neg h2,if_neg h3,if_neg h4,if_neg h5,if_neg h6]
 have e1:(page == 1)=false:=by simpa using h1
 have e2:(page == 2)=false:=by simpa using h2
 have e3:(page == 3)=false:=by simpa using h3
 have e4:(page == 4)=false:=by simpa using h4
 have e5:(page == 5)=false:=by simpa using h5
 have e6:(page == 6)=false:=by simpa using h6
 clear h1 h2 h3 h4 h5 h6
 go_enter Tryz.func44,Tryz.ntmps44
 go_wp2
 go_ret
 exact ⟨_,rfl,World.ownsRow_nil _ _ _ _,Below.refl _ _⟩
theorem BytesAt.at_ {w:World} {A:Option Addr} {L:Str} (h:BytesAt w A L) {k:Nat} (hk:k<L.length):∃ b off,A=some ⟨b,off,none⟩∧w.cell? ⟨b,off+k,none⟩=some (.int .u8 (L[k].toNat:Int)):=by
 rcases h with rfl | ⟨b,off,rfl,hc⟩
 ·simp at hk
 ·exact ⟨b,off,rfl,hc k hk⟩
theorem equalU_any (A1 A2:Option Addr) (c1 c2:Nat) (L1 L2:Str) (h1:L1.length≤maxLen) (h2:L2.length≤maxLen) (w:World) (H1:BytesAt w A1 L1) (H2:BytesAt w A2 L2) :
  Calls Tryz.prog 12 #[.slice A1 L1.length c1,.slice A2 L2.length c2] w fun e w'=>e=.returned (.bool (decide (L1=L2)))∧Below w.heap.size w w':=by
 unfold maxLen at h1 h2
 by_cases hl:L1.length=L2.length
 ·have X1:=Lib.hid H1
  have X2:=Lib.hid H2
  have HL:=Lib.hid hl
  obtain ⟨n,hn⟩:∃ n,L1.length=n:=⟨_,rfl⟩
  have HN:=Lib.hid hn
  rw [hn] at h1
  rw [← hl,hn]
  clear H1 H2 hl h2 hn
  go_enter Tryz.func12,Tryz.ntmps12
  go_wp2
  go_loopw [13] (fun i wr=>∃ j:Nat,j≤n∧i=.int .i64 j∧Hid (∀ k,k<j→∀ (a:k<L1.length) (b:k<L2.length),L1[k]=L2[k])∧Hid (Below w.heap.size w wr)) (fun i _=>n - (intOf i).toNat)
  case atStart=>exact ⟨0,Nat.zero_le _,rfl,fun k h=>by omega,Below.refl _ _⟩
  case round=>
   obtain ⟨j,hj,rfl,R,B⟩:=hrel
   by_cases hlt:j<n
   ·have hj1:j<L1.length:=by have:=HN.out;omega
    have hj2:j<L2.length:=by have:=HL.out;omega
    obtain ⟨b1,o1,hA1,p0⟩:=(X1.out.below B.out).at_ hj1
    obtain ⟨b2,o2,hA2,q0⟩:=(X2.out.below B.out).at_ hj2
    subst hA1
    subst hA2
    have B2:=fun q=>Lib.hid (B.out.trans (below_drewN wr w.heap.size q))
    by_cases he:L1[j]=L2[j]
    ·have R2:Hid (∀ k,k<j+1→∀ (a:k<L1.length) (b:k<L2.length),L1[k]=L2[k]):=fun k hk a b=>by
      by_cases e:k=j
      ·subst e;exact he
      ·exact R.out k (by omega) a b
     rw [he] at p0
     clear he hj1 R
     go_wp2
     go_quiet (fail)
     go_wp2
     go_roundw
     case rel=>exact ⟨j+1,by omega,by go_num,R2.out,(B2 _).out⟩
     case measure=>simp [intOf];omega
    ·have T:Hid (false=decide (L1=L2)):=(decide_eq_false (fun e=>he (by simp only [e]))).symm
     have hne:((L1[j].toNat:Int) == (L2[j].toNat:Int))=false:=by
      refine beq_eq_false_iff_ne.2 fun e=>he (UInt8.toNat_inj.1 (by omega))
     have hne2:((L1[j].toNat:Int) != (L2[j].toNat:Int))=true:=by unfold bne;rw [hne];rfl
     clear he R
     go_wp2
     go_quiet (fail)
     go_wp2
     go_ret
     exact ⟨ret_bool T.out,(B2 _).out⟩
   ·have T:Hid (true=decide (L1=L2)):=by
     refine (decide_eq_true (List.ext_getElem HL.out fun k a b=>?_)).symm
     exact R.out k (by have:=HN.out;omega) a b
    go_wp2
    go_ret
    exact ⟨ret_bool T.out,B.out⟩
 ·have T:Hid (false=decide (L1=L2)):=(decide_eq_false (fun e=>hl (by rw [e]))).symm
  have hne:((L1.length:Int) == (L2.length:Int))=false:=by
   refine beq_eq_false_iff_ne.2 fun e=>hl (by omega)
  have hne2:((L1.length:Int) != (L2.length:Int))=true:=by unfold bne;rw [hne];rfl
  go_enter Tryz.func12,Tryz.ntmps12
  go_wp2
  go_ret
  exact ⟨ret_bool T.out,Below.refl _ _⟩
end Go.Proofs.YtoilebmbljpieaaGreatDoor
namespace Go.Proofs.YtoilebmbljpieaaGreatDoor
open Go.RowKit Go.Shelf
attribute [local go_sem] Oper.semAt_some
def letN (c:UInt8):Nat:=if c=100∨c=101∨c=110 then 1 else if c=119 then 2 else 0
def sumN (ex:Str) (k:Nat):Nat:=((ex.take k).map letN).sum
theorem sumN_succ (ex:Str) (k:Nat) (h:k<ex.length):sumN ex (k+1)=sumN ex k+letN ex[k]:=by
 unfold sumN
 rw [List.take_succ_eq_append_getElem h,List.map_append,List.sum_append]
 simp
theorem letN_le (c:UInt8):letN c≤2:=by
 unfold letN
 split
 ·omega
 ·split <;> omega
theorem sumN_le (ex:Str):∀ k,k≤ex.length→sumN ex k≤2*k
 | 0,_=>by unfold sumN;simp
 | k+1,h=>by
  rw [sumN_succ ex k (by omega)]
  have h1:=sumN_le ex k (by omega)
  have h2:=letN_le ex[k]
  omega
def sizeT (page:Int) (ex:Str):Nat:=(preS page).length+1+sumN ex ex.length
theorem pre_le (page:Int):(preS page).length≤2:=by
 unfold preS
 repeat' split
 all_goals simp
theorem size_any (page op:Int) (m:Str) (A:Option Addr) (n cap:Nat) (ex:Str) (hx:ex.length≤1000) (al:Bool) (w:World) :
  Calls Tryz.prog 17 #[enV page op m (.slice A n cap) ex al] w fun e w'=>e=.returned (.int .i64 (sizeT page ex:Nat))∧Below w.heap.size w w':=by
 unfold enV
 obtain ⟨s,hs⟩:∃ s,sB ex=s:=⟨_,rfl⟩
 have hz:s.size=ex.length:=by rw [← hs,sB_size]
 have hat:∀ k (h:k<s.size) (h':k<ex.length),s[k]=ex[k]:=fun k h h'=>by subst hs;exact sB_at ex k h h'
 have HAT:=Lib.hid hat
 have HX:=Lib.hid hx
 obtain ⟨l,hl⟩:∃ l,ex.length=l:=⟨_,rfl⟩
 have HL:=Lib.hid hl
 rw [hl] at hz hx
 have hcv:=fun (w:World)=>run_bytes_of_string (P:=Tryz.prog) w 9 28 5 s Tryz.underlying9 Tryz.underlying28 Tryz.underlying5
 rw [hs]
 clear hs hat hl
 obtain ⟨w0,hw0⟩:∃ w0,w.alloc (.cells #[.int .i64 page,.int .u8 op,.string (sB m),.slice A n cap,.string s,.bool al] 38)=w0:=⟨_,rfl⟩
 obtain ⟨b,hb⟩:∃ b,w.heap.size=b:=⟨_,rfl⟩
 have B0:Hid (Below b w w0):=by rw [← hw0,← hb];exact (Below.refl _ _).alloc (Nat.le_refl _) _
 have Z0:w0.heap.size=b+1:=by rw [← hw0,← hb];simp
 have c0:w0.heap[b]?=some (.cells #[.int .i64 page,.int .u8 op,.string (sB m),.slice A n cap,.string s,.bool al] 38 (0,0)):=by rw [← hw0,← hb];exact World.alloc_heap_new w _
 have C0:=Lib.hid c0
 have hpp:=prefixes_any page w0
 have k0:=Lib.cell_of_heap c0 0
 have HB:=Lib.hid hb
 have HPL:=Lib.hid (pre_le page)
 obtain ⟨pl,hpl⟩:∃ p,(preS page).length=p:=⟨_,rfl⟩
 have HP:=Lib.hid hpl
 clear c0
 go_enter Tryz.func17,Tryz.ntmps17
 go_wp2_with fail
 refine hpp.mono ?_
 rintro e w1 ⟨v,rfl,hO,hb1⟩
 obtain ⟨A1,cap1,rfl,-⟩:=hO.bytes
 rw [hpl]
 have B1:Hid (Below b w w1):=B0.out.trans (hb1.mono (by omega))
 have c1:=(hb1.block b (by omega)).trans C0.out
 have C1:=Lib.hid c1
 have k4:=Lib.cell_of_heap c1 4
 have hp2:pl≤2:=by rw [← hpl];exact HPL.out
 have S:=Lib.hid (rowB_start w1 s (grownCap w1 s.size 0 5) 5)
 have B2:Hid (Below b w (w1.alloc (.cells (bytesRow s (grownCap w1 s.size 0 5)) 5 ((bytesRow s (grownCap w1 s.size 0 5)).size,(bytesRow s (grownCap w1 s.size 0 5)).size+1))).drew):=
  (B1.out.alloc (by have:=hb1.size;omega) _).drew
 rw [hz] at S B2
 obtain ⟨q,hq⟩:∃ q,w1.heap.size=q:=⟨_,rfl⟩
 rw [hq] at S
 clear hpp hO hb1 c1 k0 hw0 B0 C0 hpl
 go_wp2
 clear hcv
 go_loopw [15,3] (fun i o wr=>∃ k:Nat,k≤l∧i=.int .i64 k∧o=.int .i64 ((pl+1+sumN ex k:Nat):Int)∧Hid (RowB wr s q)∧Hid (Below b w wr)) (fun i _ _=>l - (intOf i).toNat)
 case atStart=>exact ⟨0,Nat.zero_le _,rfl,rfl,S.out,B2.out⟩
 case round=>
  clear S B2
  obtain ⟨k,hk,rfl,rfl,R,B⟩:=hrel
  by_cases hlt:k<l
  ·have hlt':k<s.size:=by omega
   have hlt2:k<ex.length:=by rw [HL.out];exact hlt
   have g1:wr.cell? ⟨q,k,none⟩=some (.int .u8 (s[k].toNat:Int)):=R.out k hlt'
   rw [HAT.out k hlt' hlt2] at g1
   have SS:=sumN_succ ex k hlt2
   have SL:=sumN_le ex k (by omega)
   obtain ⟨c,hc⟩:∃ c,ex[k]=c:=⟨_,rfl⟩
   rw [hc] at g1 SS
   obtain ⟨t,ht⟩:∃ t,sumN ex k=t:=⟨_,rfl⟩
   rw [ht] at SS SL ⊢
   have SS:=Lib.hid SS
   clear hc ht
   have hk1:k≤1000:=by omega
   go_wp2
   ·have e:c=100:=of_decide_eq_true (u8_is c 100 (by decide) true (by assumption))
    have LN:letN c=1:=by rw [e];rfl
    go_roundw
    case rel=>exact ⟨k+1,by omega,by go_num,by rw [SS.out,LN];go_num,R,B⟩
    case measure=>simp [intOf];omega
   ·have e:c=101:=of_decide_eq_true (u8_is c 101 (by decide) true (by assumption))
    have LN:letN c=1:=by rw [e];rfl
    go_roundw
    case rel=>exact ⟨k+1,by omega,by go_num,by rw [SS.out,LN];go_num,R,B⟩
    case measure=>simp [intOf];omega
   ·have e:c=110:=of_decide_eq_true (u8_is c 110 (by decide) true (by assumption))
    have LN:letN c=1:=by rw [e];rfl
    go_roundw
    case rel=>exact ⟨k+1,by omega,by go_num,by rw [SS.out,LN];go_num,R,B⟩
    case measure=>simp [intOf];omega
   ·have e:c=119:=of_decide_eq_true (u8_is c 119 (by decide) true (by assumption))
    have LN:letN c=2:=by rw [e];rfl
    go_roundw
    case rel=>exact ⟨k+1,by omega,by go_num,by rw [SS.out,LN];go_num,R,B⟩
    case measure=>simp [intOf];omega
   ·have a1:¬c=100:=of_decide_eq_false (u8_is c 100 (by decide) false (by assumption))
    have a2:¬c=101:=of_decide_eq_false (u8_is c 101 (by decide) false (by assumption))
    have a3:¬c=110:=of_decide_eq_false (u8_is c 110 (by decide) false (by assumption))
    have a4:¬c=119:=of_decide_eq_false (u8_is c 119 (by decide) false (by assumption))
    have LN:letN c=0:=by unfold letN;rw [if_neg (by rintro (h | h | h) <;> contradiction),if_neg a4]
    go_roundw
    case rel=>exact ⟨k+1,by omega,by go_num,by rw [SS.out,LN];go_num,R,B⟩
    case measure=>simp [intOf];omega
  ·obtain rfl:k=l:=by omega
   have T:Hid (sizeT page ex=pl+1+sumN ex k):=by show sizeT page ex=_;unfold sizeT;rw [HP.out,HL.out]
   go_wp2
   go_ret
   exact ⟨by rw [T.out];rfl,by rw [HB.out];exact B.out⟩
end Go.Proofs.YtoilebmbljpieaaGreatDoor
namespace Go.Proofs.YtoilebmbljpieaaGreatDoor
open Go.RowKit Go.Shelf
attribute [local go_sem] Oper.semAt_some
theorem and_255 (x:Int):bits .and .i64 x 255=((byteI x).toNat:Int):=by
 rw [byteI_nat]
 show IntKind.i64.wrap ((BitVec.ofInt 64 x &&& BitVec.ofInt 64 255).toNat:Int)=x % 256
 rw [BitVec.toNat_and,BitVec.toNat_ofInt,BitVec.toNat_ofInt]
 have e:((255:Int) % ((2 ^ 64:Nat):Int)).toNat=2 ^ 8 - 1:=by decide
 rw [e,Nat.and_two_pow_sub_one_eq_mod]
 have h1:=Int.emod_nonneg x (show ((2 ^ 64:Nat):Int)≠0 by decide)
 have h2:(((x % ((2 ^ 64:Nat):Int)).toNat % 2 ^ 8:Nat):Int)=x % 256:=by
  rw [Int.natCast_emod,Int.toNat_of_nonneg h1]
  exact Int.emod_emod_of_dvd x (by decide)
 rw [h2,IntKind.wrap_i64]
 omega
theorem wrap_byte (c:UInt8):IntKind.u8.wrap (c.toNat:Int)=(c.toNat:Int):=by
 have:=c.toNat_lt
 rw [IntKind.wrap_u8]
 omega
theorem byteI_self (c:UInt8):byteI (c.toNat:Int)=c:=by
 have h:=byteI_nat (c.toNat:Int)
 have:=c.toNat_lt
 refine UInt8.toNat_inj.1 ?_
 omega
theorem enc_hi {page op:Int} {ex:Str} {d n:Int} (h:5≤page):encB page op ex d n=preS page++[byteI d,byteI op]:=by unfold encB;rw [if_pos h]
theorem enc_lo {page op:Int} {ex:Str} {d n:Int} (h:¬5≤page):encB page op ex d n=preS page++[byteI op]++ex.flatMap (letB d n):=by unfold encB;rw [if_neg h,List.append_assoc];rfl
theorem flat_step (ex:Str) (d n:Int) (k:Nat) (h:k<ex.length):(ex.take (k+1)).flatMap (letB d n)=(ex.take k).flatMap (letB d n)++letB d n ex[k]:=by
 rw [List.take_succ_eq_append_getElem h,List.flatMap_append]
 simp
theorem flat_len (ex:Str) (d n:Int):(ex.flatMap (letB d n)).length≤2*ex.length:=by
 induction ex with
 | nil=>simp
 | cons c t ih=>
  rw [List.flatMap_cons,List.length_append,List.length_cons]
  have:(letB d n c).length≤2:=by unfold letB;split <;> (try split) <;> simp
  omega
def RetBy (w:World) (o:Option Str) (e:Ending) (w':World):Prop:=match o with
 | some bs=>∃ A cap,e=.returned (.tuple #[.slice A bs.length cap,.bool true])∧TOwnB w' w.heap.size (.slice A bs.length cap) bs∧Below w.heap.size w w'
 | none=>e=.returned (.tuple #[.slice none 0 0,.bool false])∧Below w.heap.size w w'
theorem ref_start (w:World) (page op:Int) (m:Str) (v:Value) (ex:Str) (al:Bool) (n:Nat) (hn:w.heap.size=n):∃ w0,w.alloc (.cells #[.int .i64 page,.int .u8 op,.string (sB m),v,.string (sB ex),.bool al] 41)=w0∧
  RnAt w0 n page op m v ex al∧Below w.heap.size w w0∧w0.heap.size=n+1:=by
 subst hn
 exact ⟨_,rfl,World.alloc_heap_new w _,(Below.refl _ w).alloc (Nat.le_refl _) _,by simp⟩
theorem rbytes_any (page:Int) (op:UInt8) (m:Str) (A:Option Addr) (cap l:Nat) (L:List Tr) (hl:L.length=l) (hL:l≤1000) (ex:Str) (hx:ex.length≤1000) (al:Bool) (d q:Int) (w:World) (H:OpsP w A L) :
  Calls Tryz.prog 16 #[enV page (op.toNat:Int) m (.slice A l cap) ex al,.int .i64 d,.int .i64 q] w (RetBy w ((fillR ex L d q).map fun _=>encB page (op.toNat:Int) ex d q)):=by
 have fi:=fun w' h=>rfill_any page (op.toNat:Int) m A cap l L hl hL ex hx al d q w' h
 unfold enV at fi ⊢
 obtain ⟨bs,hbs⟩:∃ z,encB page (op.toNat:Int) ex d q=z:=⟨_,rfl⟩
 obtain ⟨fo,hfo⟩:∃ z,fillR ex L d q=z:=⟨_,rfl⟩
 obtain ⟨ro,hro⟩:∃ z,(fo.map fun _=>bs)=z:=⟨_,rfl⟩
 rw [hfo] at fi
 rw [hbs,hfo,hro]
 have HB:=Lib.hid hbs
 have HRO:=Lib.hid hro
 clear hbs hfo hro
 obtain ⟨n,hn⟩:∃ z,w.heap.size=z:=⟨_,rfl⟩
 obtain ⟨w0,hw0,E0,b0,z0⟩:=ref_start w page (op.toNat:Int) m (.slice A l cap) ex al n hn
 have FI:=Lib.hid (fi w0 (H.below b0))
 have HN:=Lib.hid hn
 have BB:Hid (Below n w w0):=by rw [← hn];exact b0
 have EE:=Lib.hid E0
 have HL:=Lib.hid hl
 obtain ⟨e0,e1,e2,e3,e4,e5,e6⟩:=E0.cells
 have Z0:n+1≤w0.heap.size:=by omega
 clear H b0 z0 fi hl E0
 go_enter Tryz.func16,Tryz.ntmps16
 go_wp2_with fail
 refine FI.out.mono ?_
 rintro e w1 hr
 cases fo with
 | none=>
  obtain ⟨rfl,hb⟩:=hr
  have B1:Hid (Below n w w1):=BB.out.trans (hb.mono (by omega))
  have Z1:n+1≤w1.heap.size:=by have:=hb.size;omega
  clear hb BB FI e0 e1 e2 e3 e4 e5 e6 hw0
  have F:=fun o=>Lib.hid (show RetBy w ro (.returned (.tuple #[.slice none 0 0,.bool false])) (w1.alloc o) from by rw [← HRO.out];exact ⟨rfl,by rw [HN.out];exact B1.out.alloc (show n≤w1.heap.size by omega) o⟩)
  go_wp2
  go_ret2
  exact (F _).out
 | some C=>
  obtain ⟨v,rfl,hO,hb⟩:=hr
  obtain ⟨Ac,cc,rfl,-,-⟩:=hO.ops
  obtain ⟨lc,hlc⟩:∃ z,C.length=z:=⟨_,rfl⟩
  rw [hlc]
  have hro:some bs=ro:=HRO.out
  subst hro
  go_upto_region 2 with fail
  obtain ⟨w2,hw2⟩:∃ z,w1.alloc (.cells #[.string (sB m),.slice Ac lc cc] 26)=z:=⟨_,rfl⟩
  have y2:Below w1.heap.size w1 w2:=by rw [← hw2];exact up_alloc _ _
  have bb:=hb.trans (y2.mono hb.size)
  have B2:Hid (Below n w w2):=BB.out.trans (bb.mono (by omega))
  have Z2:n+1≤w2.heap.size:=by have:=bb.size;omega
  have E2:=Lib.hid (EE.out.all bb)
  rw [hw2]
  clear hO hb y2 bb hw2 BB hlc FI HRO e0 e1 e2 e3 e4 e5 e6 hw0 EE Z0
  obtain ⟨e0,e1,e2,e3,e4,e5,e6⟩:=E2.out.cells
  go_upto_region 4 with fail
  obtain ⟨B,hB⟩:∃ z,w2.heap.size=z:=⟨_,rfl⟩
  have hnB:n+1≤B:=by omega
  obtain ⟨w3,hw3⟩:∃ z,w2.alloc (.cells #[] 5)=z:=⟨_,rfl⟩
  have b3:Below w2.heap.size w2 w3:=by rw [← hw3];exact up_alloc _ _
  have z3:w3.heap.size=B+1:=by rw [← hw3,← hB];simp
  have O3:Hid (TOwnB w3 B (.slice (some ⟨B,0,none⟩) 0 0) []):=by rw [← hw3,← hB];exact own_lit w2 [] (by decide)
  have E3:=Lib.hid (E2.out.all b3)
  have B3:Hid (Below B w2 w3):=by rw [← hB];exact b3
  have HBB:=Lib.hid hB
  have PR:=Lib.hid (rprefixes_any page w3)
  obtain ⟨pre,hpre⟩:∃ z,preS page=z:=⟨_,rfl⟩
  have hpl:pre.length≤2:=by rw [← hpre];exact pre_le page
  have HPRE:=Lib.hid hpre
  rw [hpre] at PR
  clear e0 e1 e2 e3 e4 e5 e6 hpre b3
  obtain ⟨e0,e1,e2,e3,e4,e5,e6⟩:=E3.out.cells
  go_wp2_with fail
  refine PR.out.mono ?_
  rintro e w4 ⟨v,rfl,hO,hb⟩
  obtain ⟨Ap,cp,rfl,hP⟩:=hO.bytes
  obtain ⟨lp,hlp⟩:∃ z,pre.length=z:=⟨_,rfl⟩
  rw [hlp]
  have HLP:=Lib.hid hlp
  have O4:Hid (TOwnB w4 B (.slice (some ⟨B,0,none⟩) 0 0) []):=O3.out.below hb
  have P4:=Lib.hid hP
  have E4:=Lib.hid (E3.out.all hb)
  have B4:Hid (Below B w2 w4):=B3.out.trans (hb.mono (by omega))
  have Z4:B≤w4.heap.size:=by have:=hb.size;omega
  clear hO hP hb O3 E3 B3 PR e0 e1 e2 e3 e4 e5 e6 hw3 hlp
  have NX:Hid (∀ A' cap' w5,TOwnB w5 B (.slice A' lp cap') ([]++pre)→Below B w4 w5→TOwnB w5 B (.slice A' lp cap') pre∧Below B w2 w5∧RnAt w5 n page (op.toNat:Int) m (.slice A l cap) ex al∧B≤w5.heap.size):=fun A' cap' w5 h1 h2=>⟨h1,B4.out.trans h2,E4.out.below h2 (by omega),Nat.le_trans Z4 h2.size⟩
  go_upto_region 5 with (at_builtin;refine wpList_appBs O4.out P4.out Z4 (by simp;omega) rfl _ _ rfl rfl rfl lp HLP.out rfl lp (by simp) ?_;intro A5 c5 w5 h1 h2;obtain ⟨h3,h4,h5,h6⟩:=NX.out A5 c5 w5 h1 h2;have O5:=Lib.hid h3;have B5:=Lib.hid h4;have E5:=Lib.hid h5;have Z5:=Lib.hid h6;clear h1 h2 h3 h4 h5 h6)
  clear NX O4 P4 E4 B4 Z4
  obtain ⟨c1,hc1⟩:∃ c,byteI d=c:=⟨_,rfl⟩
  have A1:bits .and .i64 d 255=(c1.toNat:Int):=by rw [← hc1];exact and_255 d
  have W1:=wrap_byte c1
  have HC1:=Lib.hid hc1
  obtain ⟨e0,e1,e2,e3,e4,e5,e6⟩:=E5.out.cells
  by_cases h5:5≤page
  ·have hal:=up_alloc w5 (.cells #[.int .u8 (c1.toNat:Int),.int .u8 (op.toNat:Int)] 5)
   have O6:=Lib.hid (O5.out.below hal)
   have P6:=Lib.hid (bytes_new2 w5 c1 op)
   have Z6:Hid (B≤(w5.alloc (.cells #[.int .u8 (c1.toNat:Int),.int .u8 (op.toNat:Int)] 5)).heap.size):=Nat.le_trans Z5.out hal.size
   have BS:Hid (bs=pre++[c1,op]):=by show bs=_;rw [← HB.out,enc_hi h5,HPRE.out,HC1.out,byteI_self]
   have FIN:Hid (∀ A' cap' w6,TOwnB w6 B (.slice A' (lp+2) cap') (pre++[c1,op])→Below B (w5.alloc (.cells #[.int .u8 (c1.toNat:Int),.int .u8 (op.toNat:Int)] 5)) w6→RetBy w (some bs) (.returned (.tuple #[.slice A' (lp+2) cap',.bool true])) w6):=fun A' cap' w6 h1 h2=>by
    have hln:bs.length=lp+2:=by rw [BS.out,List.length_append,HLP.out];rfl
    refine ⟨A',cap',by rw [hln],?_,?_⟩
    ·rw [hln,BS.out,HN.out];exact h1.lift (by omega)
    ·rw [HN.out];exact B2.out.trans ((B5.out.mono (by omega)).trans ((hal.mono (by have:=Z5.out;omega)).trans (h2.mono (by omega))))
   clear hal hc1 B5 E5 O5
   go_wp2_with (at_builtin;refine wpList_appBs O6.out P6.out Z6.out (by have:=HLP.out;simp;omega) rfl _ _ rfl rfl rfl 2 rfl rfl (lp+2) (by rw [HLP.out]) ?_;intro A7 c7 w7 h1 h2;have F:=Lib.hid (FIN.out A7 c7 w7 h1 h2);clear h1 h2)
   go_ret2
   exact F.out
  ·have hal:=up_alloc w5 (.cells #[.int .u8 (op.toNat:Int)] 5)
   have O6:=Lib.hid (O5.out.below hal)
   have P6:=Lib.hid (bytes_new1 w5 op)
   have Z6:Hid (B≤(w5.alloc (.cells #[.int .u8 (op.toNat:Int)] 5)).heap.size):=Nat.le_trans Z5.out hal.size
   have B6:Hid (Below B w2 (w5.alloc (.cells #[.int .u8 (op.toNat:Int)] 5))):=B5.out.trans (hal.mono Z5.out)
   obtain ⟨pb,hpb⟩:∃ z,pre++[op]=z:=⟨_,rfl⟩
   have HPB:Hid (pb.length=lp+1∧pb.length≤3):=by show _∧_;rw [← hpb,List.length_append,HLP.out];simp;have:=HLP.out;omega
   have BS:Hid (bs=pb++ex.flatMap (letB d q)):=by show bs=_;rw [← HB.out,enc_lo h5,HPRE.out,byteI_self,← hpb]
   have NX:Hid (∀ A' cap' w7,TOwnB w7 B (.slice A' (lp+1) cap') (pre++[op])→Below B (w5.alloc (.cells #[.int .u8 (op.toNat:Int)] 5)) w7→TOwnB w7 B (.slice A' (lp+1) cap') pb∧Below B w2 w7∧B≤w7.heap.size):=fun A' cap' w7 h1 h2=>⟨by rw [← hpb];exact h1,B6.out.trans h2,Nat.le_trans Z6.out h2.size⟩
   clear hal hc1 B5 E5 O5
   go_upto_region 8 with (at_builtin;refine wpList_appBs O6.out P6.out Z6.out (by have:=HLP.out;simp;omega) rfl _ _ rfl rfl rfl 1 rfl rfl (lp+1) (by rw [HLP.out]) ?_;intro A7 c7 w7 h1 h2;obtain ⟨h3,h4,h6⟩:=NX.out A7 c7 w7 h1 h2;have O7:=Lib.hid h3;have B7:=Lib.hid h4;have Z7:=Lib.hid h6;clear h1 h2 h3 h4 h6)
   clear O6 P6 Z6 B6 NX hpb e0 e1 e2 e3 e4 e5 e6
   obtain ⟨s,hs⟩:∃ s,sB ex=s:=⟨_,rfl⟩
   have hz:s.size=ex.length:=by rw [← hs,sB_size]
   have hat:∀ k (h:k<s.size) (h':k<ex.length),s[k]=ex[k]:=fun k h h'=>by subst hs;exact sB_at ex k h h'
   have HAT:=Lib.hid hat
   have HS:=Lib.hid hs
   obtain ⟨lx,hlx⟩:∃ z,ex.length=z:=⟨_,rfl⟩
   rw [hlx] at hz hx
   have HLX:=Lib.hid hlx
   clear hat hs hlx
   go_wp2
   go_loopw [10,11] (fun v i wr=>∃ (j k:Nat) (A9:Option Addr) (c9:Nat),j≤lx∧i=.int .i64 j∧v=.slice A9 k c9∧Hid (k=(pb++(ex.take j).flatMap (letB d q)).length)∧Hid (TOwnB wr B (.slice A9 k c9) (pb++(ex.take j).flatMap (letB d q)))∧Hid (Below B w2 wr)∧Hid (B≤wr.heap.size)) (fun _ i _=>lx - (intOf i).toNat)
   case atStart=>exact ⟨0,lp+1,A7,c7,Nat.zero_le _,rfl,rfl,by show _=_;simp [HPB.out.1],by have h:=O7.out;show TOwnB _ _ _ _;simpa using h,B7.out,Z7.out⟩
   case round=>
    clear O7 B7 Z7
    obtain ⟨j,k,A9,c9,hj,rfl,rfl,KL,O9,B9,Z9⟩:=hrel
    have E9:=Lib.hid (E2.out.below B9.out (by omega))
    obtain ⟨e0,e1,e2,e3,e4,e5,e6⟩:=E9.out.cells
    rw [HS.out] at e4
    by_cases hlt:j<lx
    ·have hlt':j<s.size:=by omega
     have hj1:j<ex.length:=by rw [HLX.out];exact hlt
     have f1:=HAT.out j hlt' hj1
     have hb1:((s[j].toNat:Int) == 100)=decide (ex[j]=100):=by rw [f1];exact u8_beq _ 100
     have hb2:((s[j].toNat:Int) == 119)=decide (ex[j]=119):=by rw [f1];exact u8_beq _ 119
     have ST:=Lib.hid (flat_step ex d q j hj1)
     obtain ⟨cc,hcc⟩:∃ z,ex[j]=z:=⟨_,rfl⟩
     rw [hcc] at hb1 hb2 ST
     have hfl:=flat_len (ex.take j) d q
     have hkk:Hid ((pb++(ex.take j).flatMap (letB d q)).length≤3000):=by show _≤_;rw [List.length_append];have:=HPB.out;rw [List.length_take] at hfl;omega
     obtain ⟨xs,hxs⟩:∃ z,pb++(ex.take j).flatMap (letB d q)=z:=⟨_,rfl⟩
     have hxs2:Hid (pb++(ex.take (j+1)).flatMap (letB d q)=xs++letB d q cc):=by show _=_;rw [ST.out,← hxs,List.append_assoc]
     rw [hxs] at KL O9 hkk
     clear hxs hcc f1 hfl ST hj1
     have HXS:=hxs2
     obtain ⟨c2,hc2⟩:∃ c,byteI q=c:=⟨_,rfl⟩
     have A2:bits .and .i64 q 255=(c2.toNat:Int):=by rw [← hc2];exact and_255 q
     have W2:=wrap_byte c2
     by_cases t1:cc=100
     ·have LB:Hid (letB d q cc=[c1]):=by show _=_;rw [t1,← HC1.out];rfl
      rw [decide_eq_true t1] at hb1
      clear t1 hb2 hc2 hxs2
      have hal:=up_alloc wr (.cells #[.int .u8 (c1.toNat:Int)] 5)
      have Oa:=Lib.hid (O9.out.below hal)
      have Pa:=Lib.hid (bytes_new1 wr c1)
      have Za:Hid (B≤(wr.alloc (.cells #[.int .u8 (c1.toNat:Int)] 5)).heap.size):=Nat.le_trans Z9.out hal.size
      have Ba:Hid (Below B w2 (wr.alloc (.cells #[.int .u8 (c1.toNat:Int)] 5))):=B9.out.trans (hal.mono Z9.out)
      have NX:Hid (∀ A' cap' w7,TOwnB w7 B (.slice A' (k+1) cap') (xs++[c1])→Below B (wr.alloc (.cells #[.int .u8 (c1.toNat:Int)] 5)) w7→TOwnB w7 B (.slice A' (k+1) cap') (pb++(ex.take (j+1)).flatMap (letB d q))∧Below B w2 w7∧B≤w7.heap.size):=fun A' cap' w7 h1 h2=>⟨by rw [HXS.out,LB.out];exact h1,Ba.out.trans h2,Nat.le_trans Za.out h2.size⟩
      have KL2:Hid (k+1=(pb++(ex.take (j+1)).flatMap (letB d q)).length):=by show _=_;rw [HXS.out,LB.out,List.length_append,← KL.out];rfl
      clear hal B9 E9 O9 HXS LB
      go_wp2_with (at_builtin;refine wpList_appBs Oa.out Pa.out Za.out (by have:=hkk.out;simp;omega) rfl _ _ rfl rfl rfl 1 rfl rfl (k+1) (by rw [← KL.out]) ?_;intro A7 c7 w7 h1 h2;obtain ⟨h3,h4,h6⟩:=NX.out A7 c7 w7 h1 h2;have O7:=Lib.hid h3;have B7:=Lib.hid h4;have Z7:=Lib.hid h6;clear h1 h2 h3 h4 h6)
      go_roundw
      case rel=>exact ⟨j+1,k+1,A7,c7,by omega,by go_num,rfl,KL2.out,O7.out,B7.out,Z7.out⟩
      case measure=>simp [intOf];omega
     ·by_cases t2:cc=119
      ·obtain ⟨c3,hc3⟩:∃ c,byteI (q / 256)=c:=⟨_,rfl⟩
       have LB:Hid (letB d q cc=[c2,c3]):=by show _=_;rw [t2,← hc2,← hc3];rfl
       have A3:bits .and .i64 (q / 256) 255=(c3.toNat:Int):=by rw [← hc3];exact and_255 (q / 256)
       have W3:=wrap_byte c3
       rw [decide_eq_false t1] at hb1
       rw [decide_eq_true t2] at hb2
       clear t1 t2 hc2 hc3 hxs2
       have hal:=up_alloc wr (.cells #[.int .u8 (c2.toNat:Int),.int .u8 (c3.toNat:Int)] 5)
       have Oa:=Lib.hid (O9.out.below hal)
       have Pa:=Lib.hid (bytes_new2 wr c2 c3)
       have Za:Hid (B≤(wr.alloc (.cells #[.int .u8 (c2.toNat:Int),.int .u8 (c3.toNat:Int)] 5)).heap.size):=Nat.le_trans Z9.out hal.size
       have Ba:Hid (Below B w2 (wr.alloc (.cells #[.int .u8 (c2.toNat:Int),.int .u8 (c3.toNat:Int)] 5))):=B9.out.trans (hal.mono Z9.out)
       have NX:Hid (∀ A' cap' w7,TOwnB w7 B (.slice A' (k+2) cap') (xs++[c2,c3])→Below B (wr.alloc (.cells #[.int .u8 (c2.toNat:Int),.int .u8 (c3.toNat:Int)] 5)) w7→TOwnB w7 B (.slice A' (k+2) cap') (pb++(ex.take (j+1)).flatMap (letB d q))∧Below B w2 w7∧B≤w7.heap.size):=fun A' cap' w7 h1 h2=>⟨by rw [HXS.out,LB.out];exact h1,Ba.out.trans h2,Nat.le_trans Za.out h2.size⟩
       have KL2:Hid (k+2=(pb++(ex.take (j+1)).flatMap (letB d q)).length):=by show _=_;rw [HXS.out,LB.out,List.length_append,← KL.out];rfl
       clear hal B9 E9 O9 HXS LB
       go_wp2_with (at_builtin;refine wpList_appBs Oa.out Pa.out Za.out (by have:=hkk.out;simp;omega) rfl _ _ rfl rfl rfl 2 rfl rfl (k+2) (by rw [← KL.out]) ?_;intro A7 c7 w7 h1 h2;obtain ⟨h3,h4,h6⟩:=NX.out A7 c7 w7 h1 h2;have O7:=Lib.hid h3;have B7:=Lib.hid h4;have Z7:=Lib.hid h6;clear h1 h2 h3 h4 h6)
       go_roundw
       case rel=>exact ⟨j+1,k+2,A7,c7,by omega,by go_num,rfl,KL2.out,O7.out,B7.out,Z7.out⟩
       case measure=>simp [intOf];omega
      ·have LB:Hid (letB d q cc=[c2]):=by show _=_;unfold letB;rw [if_neg t1,if_neg t2,hc2]
       rw [decide_eq_false t1] at hb1
       rw [decide_eq_false t2] at hb2
       clear t1 t2 hc2 hxs2
       have hal:=up_alloc wr (.cells #[.int .u8 (c2.toNat:Int)] 5)
       have Oa:=Lib.hid (O9.out.below hal)
       have Pa:=Lib.hid (bytes_new1 wr c2)
       have Za:Hid (B≤(wr.alloc (.cells #[.int .u8 (c2.toNat:Int)] 5)).heap.size):=Nat.le_trans Z9.out hal.size
       have Ba:Hid (Below B w2 (wr.alloc (.cells #[.int .u8 (c2.toNat:Int)] 5))):=B9.out.trans (hal.mono Z9.out)
       have NX:Hid (∀ A' cap' w7,TOwnB w7 B (.slice A' (k+1) cap') (xs++[c2])→Below B (wr.alloc (.cells #[.int .u8 (c2.toNat:Int)] 5)) w7→TOwnB w7 B (.slice A' (k+1) cap') (pb++(ex.take (j+1)).flatMap (letB d q))∧Below B w2 w7∧B≤w7.heap.size):=fun A' cap' w7 h1 h2=>⟨by rw [HXS.out,LB.out];exact h1,Ba.out.trans h2,Nat.le_trans Za.out h2.size⟩
       have KL2:Hid (k+1=(pb++(ex.take (j+1)).flatMap (letB d q)).length):=by show _=_;rw [HXS.out,LB.out,List.length_append,← KL.out];rfl
       clear hal B9 E9 O9 HXS LB
       go_wp2_with (at_builtin;refine wpList_appBs Oa.out Pa.out Za.out (by have:=hkk.out;simp;omega) rfl _ _ rfl rfl rfl 1 rfl rfl (k+1) (by rw [← KL.out]) ?_;intro A7 c7 w7 h1 h2;obtain ⟨h3,h4,h6⟩:=NX.out A7 c7 w7 h1 h2;have O7:=Lib.hid h3;have B7:=Lib.hid h4;have Z7:=Lib.hid h6;clear h1 h2 h3 h4 h6)
       go_roundw
       case rel=>exact ⟨j+1,k+1,A7,c7,by omega,by go_num,rfl,KL2.out,O7.out,B7.out,Z7.out⟩
       case measure=>simp [intOf];omega
    ·obtain rfl:j=lx:=by omega
     have BSX:Hid (bs=pb++(ex.take j).flatMap (letB d q)):=by show bs=_;rw [BS.out,List.take_of_length_le (by rw [HLX.out];exact Nat.le_refl _)]
     have F:Hid (RetBy w (some bs) (.returned (.tuple #[.slice A9 k c9,.bool true])) wr):=by
      show RetBy w (some bs) _ _
      have hln:bs.length=k:=by rw [BSX.out,← KL.out]
      refine ⟨A9,c9,by rw [hln],?_,?_⟩
      ·rw [hln,BSX.out,HN.out];exact O9.out.lift (by omega)
      ·rw [HN.out];exact B2.out.trans (B9.out.mono (by omega))
     clear KL O9 B9 E9 BSX
     go_wp2
     go_ret2
     exact F.out
end Go.Proofs.YtoilebmbljpieaaGreatDoor
