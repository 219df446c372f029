/-
  SeM, SeRg, FlB, SeI, SeV, InW, LsA, SeX, CnK, SeRh, FmA, MixP.
-/
import Derived.Test.YtajlleeonddinaaGreatDoorGAV
import Derived.Test.YtajlleeonddinaaGreatDoorMSeH
import Derived.Test.YtajlleeonddinaaGreatDoorMSeN
import Derived.Test.YtajlleeonddinaaGreatDoorGAT
import Derived.Test.YtajlleeonddinaaGreatDoorGAH
import Derived.Laws.CopyOwn
import Derived.Laws.Tables
import Derived.Test.YtajlleeonddinaaGreatDoorGAU
import Derived.Test.YtajlleeonddinaaGreatDoorGAR
import Derived.Test.YtajlleeonddinaaGreatDoorGAA
import Derived.Lib.SmallJoins
import Derived.Deep.Slices
import Derived.Deep.Strs
import Derived.Deep.Fields
import Derived.ChangeSame
import Derived.OpenShut
import Derived.Laws.AppendOwn
import Derived.Laws.OwnMore
import Derived.Test.YtajlleeonddinaaGreatDoorGAE
import Derived.Test.YtajlleeonddinaaGreatDoorGAB
set_option linter.all false
set_option maxRecDepth 100000
set_option maxHeartbeats 4000000
namespace Go.Proofs.YtajlleeonddinaaGreatDoor
open Go.RowKit Go.Shelf
attribute [local go_sem] Oper.semAt_some
attribute [local irreducible] Go.Mixed.wpMix
def hasK (op:Str) (C:List Tr) (k:Ke):Bool:=hasV k.2.2.1 k.2.2.2.1 k.2.2.2.2.1 (sB op) C
def notAl (k:Ke):Bool:=!k.2.2.2.2.2
def candN (op:Str) (C:List Tr):List Ke:=(candK op C).filter notAl
def findK (op:Str) (C:List Tr):Option Ke:=(candN op C).find? (hasK op C)
def codeF (op:Str) (I:List Tr) (C:List Tr):Int:=if codeI (sB op) I≠0 then codeI (sB op) I else if (candN op C).isEmpty then 11 else 2
def RetSrch (w:World) (op:Str) (I:List Tr) (o:Option Ke) (e:Ending) (w':World):Prop:=match o with
 | some k=>∃ A cap,e=.returned (.tuple #[enV k.1 k.2.1 k.2.2.1 (.slice A k.2.2.2.1.length cap) k.2.2.2.2.1 k.2.2.2.2.2,.int .i64 0])∧OpsP w' A k.2.2.2.1∧Below w.heap.size w w'
 | none=>e=.returned (.tuple #[enV 0 0 [] (.slice none 0 0) [] false,.int .i64 (codeF op I (canL (opc (sB op)) I))])∧Below w.heap.size w w'
theorem cand_in {op:Str} {C:List Tr} {k:Ke} (h:k∈candK op C):InTab k∧k.2.2.1=op∧k.2.2.2.1.map ks2=C.map ks2∧k.1∈pagesC C:=by
 unfold candK candP at h
 obtain ⟨h1,h2⟩:=List.mem_filter.1 h
 unfold keysAll at h1
 obtain ⟨p,hp,h1⟩:=List.mem_flatMap.1 h1
 rw [keysPg_named] at h1
 obtain ⟨h3,h4⟩:=List.mem_filter.1 h1
 obtain ⟨e,h5⟩:=ents_in p 256 (Nat.le_refl _) k h3
 exact ⟨h5,of_decide_eq_true h4,of_decide_eq_true h2,e ▸ hp⟩
theorem in_cand {op:Str} {C:List Tr} {k:Ke} (h:InTab k) (h1:k.2.2.1=op) (h2:k.2.2.2.1.map ks2=C.map ks2) (h3:k.1∈pagesC C):k∈candK op C:=by
 unfold candK candP
 refine List.mem_filter.2 ⟨?_,decide_eq_true h2⟩
 unfold keysAll
 refine List.mem_flatMap.2 ⟨k.1,h3,?_⟩
 rw [keysPg_named]
 refine List.mem_filter.2 ⟨in_ents h 256 ?_,decide_eq_true h1⟩
 obtain ⟨n,hn,e,-⟩:=h
 omega
theorem find_at {op:Str} {C:List Tr} {pre:List Ke} {x:Ke} (h:pre++[x] <+: candK op C) (hp:∀ y∈pre,notAl y=true→hasK op C y=false) (hx:notAl x=true) (hh:hasK op C x=true):findK op C=some x:=by
 obtain ⟨t,ht⟩:=h
 unfold findK candN
 rw [← ht,List.filter_append,List.filter_append,List.find?_append,List.find?_append]
 have h1:(pre.filter notAl).find? (hasK op C)=none:=by
  rw [List.find?_eq_none]
  intro y hy
  obtain ⟨h1,h2⟩:=List.mem_filter.1 hy
  rw [hp y h1 h2]
  decide
 rw [h1]
 simp [hx,hh]
theorem find_none_of {op:Str} {C:List Tr} (hp:∀ y∈candK op C,notAl y=true→hasK op C y=false):findK op C=none:=by
 unfold findK candN
 rw [List.find?_eq_none]
 intro y hy
 obtain ⟨h1,h2⟩:=List.mem_filter.1 hy
 rw [hp y h1 h2]
 decide
def cdF (pre:List Ke):Int:=if (pre.filter notAl).isEmpty then 11 else 2
theorem cdF_alias (pre:List Ke) (x:Ke) (h:notAl x=false):cdF (pre++[x])=cdF pre:=by
 unfold cdF
 rw [List.filter_append,List.filter_cons_of_neg (by rw [h];decide),List.filter_nil,List.append_nil]
theorem cdF_two (pre:List Ke) (x:Ke) (h:notAl x=true):cdF (pre++[x])=2:=by
 unfold cdF
 rw [List.filter_append]
 simp [h]
theorem grow_row {A B C:World} {cb N:Nat} {row:Option Nat} (h:A.grownBy B (some cb)) (k:B.grownBy C row) (hN:N=A.heap.size) (hr:∀ r,row=some r→N≤r):A.grownBy C (some cb):=
 ⟨k.os.trans h.os,k.tape.trans h.tape,k.output.trans h.output,Nat.le_trans h.size k.size,fun i hi hne=>(k.block i (Nat.lt_of_lt_of_le hi h.size) (fun e=>by have:=hr i e.symm;omega)).trans (h.block i hi hne)⟩
theorem keepC_grown {A B:World} {cb:Nat} (h:A.grownBy B (some cb)):KeepC cb A B:=⟨h.size,fun k o hk ho _=>(h.block k (Array.getElem?_eq_some_iff.1 ho).1 (fun e=>hk (Option.some.inj e))).trans ho⟩
theorem ops_grown {W W':World} {A:Option Addr} {L:List Tr} {row:Option Nat} (h:OpsP W A L) (hg:W.grownBy W' row) (hr:∀ r,row=some r→∃ o:Obj,W.heap[r]?=some o∧o.isCells=false):OpsP W' A L:=by
 rcases h with rfl | ⟨b,off,rfl,hc⟩
 ·exact .inl rfl
 ·refine .inr ⟨b,off,rfl,fun j hj=>?_⟩
  have e:∀ p v,W.cell? ⟨b,p,none⟩=some v→W'.cell? ⟨b,p,none⟩=some v:=fun p v hp=>by
   obtain ⟨o,ho,hcl⟩:=cells_of_cell hp
   exact (World.cell?_of_block (a:=⟨b,p,none⟩) (grownBy_keeps_cells hg hr ho hcl)).trans hp
  obtain ⟨h1,h2,h3⟩:=hc j hj
  exact ⟨e _ _ h1,e _ _ h2,e _ _ h3⟩
theorem en_not_ops {W:World} {c off:Nat} {t:Tr} {a0 a1:Value} {m ex:ByteArray} {A:Option Addr} {n cap:Nat} {T:TypeId} (h:W.cell? ⟨c,off+0*3,none⟩=some (.int .i64 t.1)∧W.cell? ⟨c,off+0*3+1,none⟩=some (.int .i64 t.2.1)∧W.cell? ⟨c,off+0*3+2,none⟩=some (.int .i64 t.2.2))
  (hc:W.heap[c]?=some (.cells #[a0,a1,.string m,.slice A n cap,.string ex,.bool false] T (0,0))):False:=by
 obtain ⟨h1,h2,h3⟩:=h
 rw [Lib.cell_of_heap hc] at h1 h2 h3
 have h9:=(Array.getElem?_eq_some_iff.1 h3).1
 have:off=0∨off=1∨off=2∨off=3:=by simp at h9;omega
 rcases this with rfl | rfl | rfl | rfl
 all_goals first | (cases h1;done) | (cases h2;done) | (cases h3;done)
theorem box_not_ops {W:World} {c off:Nat} {t:Tr} {T:TypeId} {v:Value} (h:W.cell? ⟨c,off+0*3,none⟩=some (.int .i64 t.1)∧W.cell? ⟨c,off+0*3+1,none⟩=some (.int .i64 t.2.1)∧W.cell? ⟨c,off+0*3+2,none⟩=some (.int .i64 t.2.2))
  (hc:Boxed W c T v):False:=by
 obtain ⟨h1,h2,h3⟩:=h
 rw [Lib.cell_of_heap (show W.heap[c]?=_ from hc)] at h3
 have h9:=(Array.getElem?_eq_some_iff.1 h3).1
 simp at h9
theorem row6 {w:World} {b:Nat} {T:TypeId} {cur:Array Value} (h:w.heap[b]?=some (.cells cur T (0,0))) (cs:Array Value):∃ w',w.setRow b cs=w'∧
  w'.heap[b]?=some (.cells cs T (0,0))∧(∀ k,k≠b→w'.heap[k]?=w.heap[k]?)∧Below b w w'∧w'.heap.size=w.heap.size:=
 ⟨_,rfl,setRow_heap w b cur cs T (0,0) h,fun k hk=>setRow_other w b k cs hk,below_setRow (Below.refl b w) (Nat.le_refl _) cs,by simp⟩
theorem set6 {w:World} {b:Nat} {T:TypeId} {a0 a1 a2 a3 a4 a5:Value} (h:w.heap[b]?=some (.cells #[a0,a1,a2,a3,a4,a5] T (0,0))) (v0 v1 v2 v3 v4 v5:Value):∃ w',(((((w.setCell ⟨b,0,none⟩ v0).setCell ⟨b,1,none⟩ v1).setCell ⟨b,2,none⟩ v2).setCell ⟨b,3,none⟩ v3).setCell ⟨b,4,none⟩ v4).setCell ⟨b,5,none⟩ v5=w'∧
  w'.heap[b]?=some (.cells #[v0,v1,v2,v3,v4,v5] T (0,0))∧(∀ k,k≠b→w'.heap[k]?=w.heap[k]?)∧KeepsOthers w w'∧Below b w w'∧w'.heap.size=w.heap.size:=by
 refine ⟨_,rfl,?_,fun k hk=>?_,?_,?_,by simp⟩
 ·exact heap_setCell_same _ b 5 _ _ v5 (heap_setCell_same _ b 4 _ _ v4 (heap_setCell_same _ b 3 _ _ v3 (heap_setCell_same _ b 2 _ _ v2 (heap_setCell_same _ b 1 _ _ v1 (heap_setCell_same w b 0 _ _ v0 h)))))
 ·exact (heap_setCell_other _ ⟨b,5,none⟩ k _ hk).trans ((heap_setCell_other _ ⟨b,4,none⟩ k _ hk).trans ((heap_setCell_other _ ⟨b,3,none⟩ k _ hk).trans ((heap_setCell_other _ ⟨b,2,none⟩ k _ hk).trans ((heap_setCell_other _ ⟨b,1,none⟩ k _ hk).trans (heap_setCell_other _ ⟨b,0,none⟩ k _ hk)))))
 ·exact (((((KeepsOthers.setCell _ _ _).trans (KeepsOthers.setCell _ _ _)).trans (KeepsOthers.setCell _ _ _)).trans (KeepsOthers.setCell _ _ _)).trans (KeepsOthers.setCell _ _ _)).trans (KeepsOthers.setCell _ _ _)
 ·exact ((((((Below.refl b w).setCell (p:=⟨b,0,none⟩) (Nat.le_refl _) _).setCell (p:=⟨b,1,none⟩) (Nat.le_refl _) _).setCell (p:=⟨b,2,none⟩) (Nat.le_refl _) _).setCell (p:=⟨b,3,none⟩) (Nat.le_refl _) _).setCell (p:=⟨b,4,none⟩) (Nat.le_refl _) _).setCell (p:=⟨b,5,none⟩) (Nat.le_refl _) _
theorem sfind_any (op:Str) (hop:op.length≤1000) (Ai:Option Addr) (capi li:Nat) (I:List Tr) (hli:I.length=li) (hLi:li≤900) (w:World) (hM:MaxAt w) (HF:OpsP w Ai I) :
  Calls Tryz.prog 82 #[.agg #[.string (sB op),.slice Ai li capi]] w (RetSrch w op I (findK op (canL (opc (sB op)) I))):=by
 have hof:=fun w h=>of_any (sB op) Ai capi I (by omega) w h
 rw [hli] at hof
 have hck:=fun w h=>check_any (sB op) Ai capi I (by rw [sB_size];unfold maxLen;omega) (by omega) w h
 rw [hli] at hck
 have hcl:=canL_len (opc (sB op)) I
 obtain ⟨C,hC⟩:∃ C,canL (opc (sB op)) I=C:=⟨_,rfl⟩
 have CF:Hid (canL (opc (sB op)) I=C):=hC
 rw [hC] at hof hcl ⊢
 obtain ⟨lc,hlc⟩:∃ z,C.length=z:=⟨_,rfl⟩
 have hLc:lc≤1000:=by omega
 obtain ⟨w0,hw0⟩:∃ w0,((w.alloc (.cells #[.string (sB op),.slice Ai li capi] 24)).alloc (.cells #[.int .i64 0,.int .u8 0,.string ⟨#[]⟩,.slice none 0 0,.string ⟨#[]⟩,.bool false] 134)).alloc (.cells #[.int .i64 0] 70)=w0:=⟨_,rfl⟩
 obtain ⟨n,hn⟩:∃ n,w.heap.size=n:=⟨_,rfl⟩
 have z0:w0.heap.size=n+1+1+1:=by rw [← hw0,← hn];simp
 have b0:Below n w w0:=by rw [← hw0,← hn];exact (((Below.refl _ w).alloc (Nat.le_refl _) _).alloc (by simp) _).alloc (by simp;omega) _
 have c0:w0.heap[n]?=some (.cells #[.string (sB op),.slice Ai li capi] 24 (0,0)):=by
  rw [← hw0,← hn]
  exact (Below.heap_alloc _ _ _ (by simp;omega)).trans ((Below.heap_alloc _ _ _ (by simp)).trans (World.alloc_heap_new w _))
 have c1:w0.heap[n+1]?=some (.cells #[.int .i64 0,.int .u8 0,.string ⟨#[]⟩,.slice none 0 0,.string ⟨#[]⟩,.bool false] 134 (0,0)):=by
  rw [← hw0,← hn]
  refine (Below.heap_alloc _ _ _ (by simp)).trans ?_
  have h:=World.alloc_heap_new (w.alloc (.cells #[.string (sB op),.slice Ai li capi] 24)) (.cells #[.int .i64 0,.int .u8 0,.string ⟨#[]⟩,.slice none 0 0,.string ⟨#[]⟩,.bool false] 134)
  rwa [World.size_alloc] at h
 have c2:Boxed w0 (n+1+1) 70 (.int .i64 0):=by
  rw [← hw0,← hn]
  have h:=Boxed.new ((w.alloc (.cells #[.string (sB op),.slice Ai li capi] 24)).alloc (.cells #[.int .i64 0,.int .u8 0,.string ⟨#[]⟩,.slice none 0 0,.string ⟨#[]⟩,.bool false] 134)) 70 (.int .i64 0)
  rwa [World.size_alloc,World.size_alloc] at h
 have hb0:Below w.heap.size w w0:=by rw [hn];exact b0
 have of0:=hof w0 (HF.below hb0)
 have hgn:0 < n:=by rw [← hn];exact hM.lt
 have hM0:MaxAt w0:=hM.below hb0
 have k0:=Lib.cell_of_heap c0 0
 have k1:=Lib.cell_of_heap c0 1
 have HI0:=Lib.hid (HF.below hb0)
 refine callsIn_wide.1 (callsIn_of_wp_marks (n:=3) Tryz.func82 rfl trivial ?_ rfl)
 simp only [Tryz.ntmps82,List.size_toArray,List.length_cons,List.length_nil,Nat.reduceAdd,Nat.reduceSub,Array.replicate_succ,Array.replicate_zero,List.push_toArray,List.append_toArray,List.nil_append,List.cons_append]
 refine wpIn_wide.2 ?_
 go_wp2_with fail
 refine of0.mono ?_
 rintro e w1 ⟨v,rfl,hO,hb1⟩
 obtain ⟨Ac,cc,rfl,hPc,-,-⟩:=hO.ops
 rw [hlc]
 obtain ⟨b,hb⟩:∃ b,w1.heap.size=b:=⟨_,rfl⟩
 obtain ⟨w2,hw2⟩:∃ z,(w1.alloc (.cells #[.string (sB op),.slice Ac lc cc] 24)).alloc (.cells #[.int .i64 11] 70)=z:=⟨_,rfl⟩
 have z2:w2.heap.size=b+1+1:=by rw [← hw2,← hb];simp
 have b2:Below b w1 w2:=by rw [← hw2,← hb];exact ((Below.refl _ w1).alloc (Nat.le_refl _) _).alloc (by simp) _
 have hnb:n+3≤b:=by have:=hb1.size;omega
 have d0:w2.heap[b]?=some (.cells #[.string (sB op),.slice Ac lc cc] 24 (0,0)):=by
  rw [← hw2,← hb]
  exact (Below.heap_alloc _ _ _ (by simp)).trans (World.alloc_heap_new w1 _)
 have d1:Boxed w2 (b+1) 70 (.int .i64 11):=by
  rw [← hw2,← hb]
  have h:=Boxed.new (w1.alloc (.cells #[.string (sB op),.slice Ac lc cc] 24)) 70 (.int .i64 11)
  rwa [World.size_alloc] at h
 have hsh:=ofShape_any (sB op) Ac lc cc w2
 rw [z2] at hsh
 have m0:=Lib.cell_of_heap d0 0
 have m1:=Lib.cell_of_heap d0 1
 go_wp2_with fail
 refine hsh.mono ?_
 rintro e W0 ⟨rfl,hW0⟩
 have zW:W0.heap.size=b+1+1+1:=by rw [← hW0];simp;omega
 have bW:Below w2.heap.size w2 W0:=by rw [← hW0];exact (Below.refl _ _).alloc (Nat.le_refl _) _
 have hs:W0.heap[b+1+1]?=some (.cells #[.string (sB op),.slice Ac lc cc] 24 (0,0)):=by
  rw [← hW0,← z2]
  exact World.alloc_heap_new w2 _
 have bA:Below (n+1+1+1) w0 W0:=(hb1.mono (by omega)).trans ((b2.mono (by omega)).trans (bW.mono (by omega)))
 have bB:Below b w1 W0:=b2.trans (bW.mono (by omega))
 have D0:=Lib.hid ((bA.block n (by omega)).trans c0)
 have D1:=Lib.hid ((bA.block (n+1) (by omega)).trans c1)
 have D2:Hid (Boxed W0 (n+1+1) 70 (.int .i64 0)):=(bA.block _ (by omega)).trans c2
 have DF:=Lib.hid ((bW.block b (by omega)).trans d0)
 have DC:Hid (Boxed W0 (b+1) 70 (.int .i64 11)):=(bW.block _ d1.lt).trans d1
 have BN:Hid (Below n w W0):=b0.trans (bA.mono (by omega))
 have MW:Hid (MaxAt W0):=hM0.below (by rw [z0];exact bA)
 have OC:Hid (OpsP W0 Ac C):=hPc.below (by rw [hb];exact bB)
 have OI:Hid (OpsP W0 Ai I):=HI0.out.below (by rw [z0];exact bA)
 have hAc:∀ a,Ac=some a→C≠[]→a.block≠b+1:=fun a ha hne=>by
  rcases hPc with h | ⟨bb,off,e,hc⟩
  ·exact absurd h hne
  ·rw [ha] at e
   obtain rfl:=Option.some.inj e
   have h9:bb<w1.heap.size:=World.block_lt_of_cell? w1 _ (hc 0 (List.length_pos_iff.2 hne)).1
   show bb≠b+1
   omega
 have HAC:=Lib.hid hAc
 have hseq:=shape_tells 2 (b+1+1) (b+1) op Ac cc lc C hlc hLc W0 hs OC.out MW.out (by omega) (by omega) hAc (by omega)
 have HN:=Lib.hid hn
 have HLC:=Lib.hid hlc
 have CK:=Lib.hid hck
 have HB:Hid (n+3≤b):=hnb
 have HE:Hid (∀ (x:Ee) (w':World) (A2:Option Addr),InTab x.k→OpsP w' x.A x.L→OpsP w' Ac C→Calls Tryz.prog 106 #[.agg #[.string (sB op),.slice Ac lc cc],eeV x] w' fun e w''=>e=.returned (.bool (hasK op C x.k))∧Below w'.heap.size w' w''):=fun x w' A2 hin h1 h2=>by
  have h:=hin.ok
  exact hasEntry_any x.g x.o x.m (by have:=h.m;simp only [Ee.k] at this;omega) h.up x.A x.cap x.L.length x.L rfl (by have:=h.len;simp only [Ee.k] at this;omega) x.ex (by have:=h.ex;simp only [Ee.k] at this;omega) x.al (sB op) Ac cc lc C HLC.out hLc w' h1 h2
 clear hsh hs bW b0 c0 c1 c2 d0 d1 hW0 hw0 hn z0 z2 hof hck of0 k0 k1 m0 m1 hM0 hM HF HI0 hb0 hb1 hO hPc hb b2 hw2 bA bB hAc hC hop hcl w0 w1 w2
 go_wp2_with fail
 refine wpIn_wide.1 (Stops.wpIn_tellsW (F:=Fence.wide) (n:=3) rfl (by omega) (gf:=143) (lb:=#[.pointer (some ⟨b+1+1,0,none⟩)]) rfl trivial (enters_of Tryz.func143 (by kernel_rfl) rfl)
  hseq (fun h k=>h.trans k) (fun W l o o' _ hl ho=>KeepC.put W l o o' hl ho) (fun _=>rfl)
  (fun pre W=>(∀ y∈pre,notAl y.k=true→hasK op C y.k=false)∧Boxed W (b+1) 70 (.int .i64 (cdF (pre.map Ee.k)))∧W0.grownBy W (some (b+1)))
  (fun pre W=>∃ p x,pre=p++[x]∧findK op C=some x.k∧W.heap[n+1]?=some (.cells #[.int .i64 x.g,.int .u8 x.o,.string (sB x.m),x.v,.string (sB x.ex),.bool x.al] 134 (0,0))∧Boxed W (n+1+1) 70 (.int .i64 0)∧OpsP W x.A x.L∧Below n w W)
  (fun s X Y row h hg hr=>⟨h.1,h.2.1.kept hg (fun e=>by have:=(hr _ e.symm).1;omega),grow_row h.2.2 hg rfl fun r e=>(hr r e).1⟩)
  (fun s X Y row h hg hr=>by
   obtain ⟨p,x,h1,h2,h3,h4,h5,h6⟩:=h
   have hne:∀ k,k<b+1+1+1→some k≠row:=fun k hk e=>by have:=(hr k e.symm).1;omega
   exact ⟨p,x,h1,h2,(hg.block _ (Array.getElem?_eq_some_iff.1 h3).1 (hne _ (by have:=HB.out;omega))).trans h3,h4.kept hg (hne _ (by have:=HB.out;omega)),ops_grown h5 hg fun r e=>(hr r e).2,h6.grown hg (by have:=h4.lt;omega) fun r e=>by have:=(hr r e).1;have:=HB.out;omega⟩)
  ⟨fun y hy=>(by cases hy),DC.out,World.grownBy.refl _ _⟩
  (fun pre x a' W=>ShE op C pre x W∧∃ q,b+3≤q∧W.heap[q]?=some (.cells #[.int .i64 x.g,.int .u8 x.o,.string (sB x.m),x.v,.string (sB x.ex),.bool x.al] 134 (0,0))∧a'={tmps:=#[.agg #[.string (sB op),.slice Ai li capi],.pointer (some ⟨n,0,none⟩),.pointer (some ⟨n+1,0,none⟩),.pointer (some ⟨n+1+1,0,none⟩),.pointer (some ⟨b,0,none⟩),.pointer (some ⟨b+1,0,none⟩),.pointer (some ⟨q,0,none⟩),undef,.agg #[.string (sB op),.slice Ai li capi],.agg #[.string (sB op),.slice Ac lc cc],.agg #[.string (sB op),.slice Ac lc cc],.func (.func 143) #[] #[.pointer (some ⟨b+1+1,0,none⟩)],eeV x,undef,undef,undef,undef,undef,undef,undef,undef,undef,undef,undef,undef,undef],defers:=[]})
  (fun pre x s X Y row h hg hr=>by
   obtain ⟨h0,q,h1,h2,h3⟩:=h
   exact ⟨⟨h0.1,ops_grown h0.2 hg fun r e=>(hr r e).2⟩,q,h1,(grownBy_keeps_cells hg (fun r e=>(hr r e).2) h2 rfl).trans h2,h3⟩)
  ?assign ?body ?done ?stop)
 case assign=>
  rintro lp pre x W K ⟨i1,i2,i3⟩ hE hK
  obtain ⟨g,o,m,Ar,cr,Lr,ex,al⟩:=x
  obtain ⟨ll,hll⟩:∃ z,Lr.length=z:=⟨_,rfl⟩
  simp only [eeV,enV,Ee.v,hll] at hK ⊢
  have hz:=i3.size
  gi_wp2
  exact hK _ _ ((KeepsOthers.alloc _ _).from _) (KeepC.of_below (up1 _ _)) ⟨i1,i2.alloc _,World.grownBy.trans i3 (grow_below (up1 _ _) _)⟩ ⟨⟨hE.1,hE.2.below (up1 _ _)⟩,W.heap.size,by omega,World.alloc_heap_new W _,rfl⟩
 case body=>
  rintro lp pre x a' W ⟨i1,i2,i3⟩ ⟨hE,q,hq,hc,rfl⟩
  have hin:InTab x.k:=(cand_in (hE.1.subset (by simp))).1
  have hmap:(pre++[x]).map Ee.k=pre.map Ee.k++[x.k]:=by simp
  have kc:=keepC_grown i3
  have he:=HE.out x W x.A hin hE.2 (OC.out.keepC kc HAC.out)
  have fb:=kc.2 b _ (by omega) DF.out rfl
  have f1:=kc.2 (n+1) _ (by have:=HB.out;omega) D1.out rfl
  have f2:=kc.boxed D2.out (by have:=HB.out;omega)
  have hz:=i3.size
  have PX:Hid ((pre++[x]).map Ee.k <+: candK op C):=hE.1
  have OX:=Lib.hid hE.2
  have I1:=Lib.hid i1
  have I2:=Lib.hid i2
  have I3:=Lib.hid i3
  have F1:=Lib.hid f1
  have F2:=Lib.hid f2
  have HZ:Hid (b+3≤W.heap.size):=by show _≤_;omega
  have HM:=Lib.hid hmap
  obtain ⟨g,o,m,Ar,cr,Lr,ex,al⟩:=x
  obtain ⟨ll,hll⟩:∃ z,Lr.length=z:=⟨_,rfl⟩
  have HLL:=Lib.hid hll
  simp only [eeV,enV,Ee.v,hll] at he hc ⊢
  have CQ:=Lib.hid hc
  have s0:=Lib.cell_of_heap hc 0
  have s1:=Lib.cell_of_heap hc 1
  have s2:=Lib.cell_of_heap hc 2
  have s3:=Lib.cell_of_heap hc 3
  have s4:=Lib.cell_of_heap hc 4
  have s5:=Lib.cell_of_heap hc 5
  have m0:=Lib.cell_of_heap fb 0
  have m1:=Lib.cell_of_heap fb 1
  clear i1 i2 i3 hE hin kc fb f1 f2 hz hc hmap hll
  cases al with
  | true=>
   have P:Hid (KeepsFrom W0.heap.size W W∧KeepC (b+1) W W∧(∀ y∈pre++[(⟨g,o,m,Ar,cr,Lr,ex,true⟩:Ee)],notAl y.k=true→hasK op C y.k=false)∧Boxed W (b+1) 70 (.int .i64 (cdF ((pre++[(⟨g,o,m,Ar,cr,Lr,ex,true⟩:Ee)]).map Ee.k)))∧W0.grownBy W (some (b+1))):=by
    refine ⟨keepsFrom_below (Below.refl _ _) _,KeepC.refl _ _,fun y hy h=>?_,?_,I3.out⟩
    ·rcases List.mem_append.1 hy with hy | hy
     ·exact I1.out y hy h
     ·rw [List.mem_singleton.1 hy] at h
      cases h
    ·rw [HM.out,cdF_alias _ _ rfl]
     exact I2.out
   clear he
   gi_wp2
   have h:=P.out
   rw [zW] at h
   exact h
  | false=>
   obtain ⟨tt,htt⟩:∃ z,hasK op C (Ee.k ⟨g,o,m,Ar,cr,Lr,ex,false⟩)=z:=⟨_,rfl⟩
   rw [htt] at he
   have HT:=Lib.hid htt
   clear htt
   gi_wp2_with fail
   refine ⟨trivial,CallsIn.inRound lp (callsIn_wide.2 he) |>.mono ?_⟩
   rintro e W5 ⟨rfl,hb⟩
   have B5:=Lib.hid hb
   have J3:Hid (W0.grownBy W5 (some (b+1))):=World.grownBy.trans I3.out (grow_below hb _)
   have j2:=(hb.block _ I2.out.lt).trans I2.out
   cases tt with
   | true=>
    have h1:=(hb.block _ (Array.getElem?_eq_some_iff.1 F1.out).1).trans F1.out
    have h2:Boxed W5 (n+1+1) 70 (.int .i64 0):=(hb.block _ F2.out.lt).trans F2.out
    have hq5:=(hb.block q (Array.getElem?_eq_some_iff.1 CQ.out).1).trans CQ.out
    have t0:=Lib.cell_of_heap hq5 0
    have t1:=Lib.cell_of_heap hq5 1
    have t2:=Lib.cell_of_heap hq5 2
    have t3:=Lib.cell_of_heap hq5 3
    have t4:=Lib.cell_of_heap hq5 4
    have t5:=Lib.cell_of_heap hq5 5
    have u0:=Lib.cell_of_heap h1 0
    have u1:=Lib.cell_of_heap h1 1
    have u2:=Lib.cell_of_heap h1 2
    have u3:=Lib.cell_of_heap h1 3
    have u4:=Lib.cell_of_heap h1 4
    have u5:=Lib.cell_of_heap h1 5
    have u6:=Lib.frozen_of_heap h1
    have v0:=h2.cell
    have v1:=h2.frozen
    have H1:=Lib.hid h1
    have H2:=Lib.hid h2
    have OX5:=Lib.hid (OX.out.below hb)
    have BW:Hid (Below n w W5):=(BN.out.grown J3.out (by rw [zW];have:=HB.out;omega) fun k e=>by cases e;have:=HB.out;omega)
    clear he hb h1 h2 hq5 j2 s0 s1 s2 s3 s4 s5 m0 m1
    gi_wp2
    obtain ⟨W6,hW6,a1,a2,a3,a4,a5⟩:=set6 H1.out (.int .i64 g) (.int .u8 o) (.string (sB m)) (.slice Ar ll cr) (.string (sB ex)) (.bool false)
    rw [hW6]
    have b2:Boxed W6 (n+1+1) 70 (.int .i64 0):=(a2 _ (by omega)).trans H2.out
    have OW:OpsP W6 Ar Lr:=OX5.out.keepC (cb:=n+1) ⟨by omega,fun k o hk ho _=>(a2 k hk).trans ho⟩ (fun a ha hne=>by
     rcases OX5.out with h | ⟨bb,off,e,hcc⟩
     ·exact absurd h hne
     ·rw [ha] at e
      obtain rfl:=Option.some.inj e
      rintro rfl
      exact en_not_ops (hcc 0 (List.length_pos_iff.2 hne)) H1.out)
    have OW7:OpsP (W6.setCell ⟨n+1+1,0,none⟩ (.int .i64 0)) Ar Lr:=OW.keepC (cb:=n+1+1) ⟨by simp,fun k o hk ho _=>(heap_setCell_other W6 ⟨n+1+1,0,none⟩ k _ hk).trans ho⟩ (fun a ha hne=>by
     rcases OW with h | ⟨bb,off,e,hcc⟩
     ·exact absurd h hne
     ·rw [ha] at e
      obtain rfl:=Option.some.inj e
      rintro rfl
      exact box_not_ops (hcc 0 (List.length_pos_iff.2 hne)) b2)
    refine ⟨((keepsFrom_below B5.out _).trans (a3.from _)).trans (KeepsOthers.from (KeepsOthers.setCell _ _ _) _),pre,_,rfl,find_at (by have h:=PX.out;rw [HM.out] at h;exact h) (fun y hy h=>?_) rfl HT.out,?_,Boxed.set _ b2,OW7,?_⟩
    ·obtain ⟨z,hz,rfl⟩:=List.mem_map.1 hy
     exact I1.out z hz h
    ·simp only [HLL.out]
     exact (heap_setCell_other W6 ⟨n+1+1,0,none⟩ (n+1) _ (by simp)).trans a1
    ·exact (BW.out.trans (a4.mono (by omega))).setCell (p:=⟨n+1+1,0,none⟩) (show n≤n+1+1 by omega) _
   | false=>
    have j3:=Boxed.cell j2
    have j4:=Boxed.frozen j2
    have J2:=Lib.hid j2
    clear he hb j2 s0 s1 s2 s3 s4 s5 m0 m1
    gi_wp2
    refine ⟨(keepsFrom_below B5.out _).trans (KeepsOthers.from (KeepsOthers.setCell _ _ _) _),(KeepC.of_below B5.out).trans ⟨by simp,fun k o hk ho _=>(heap_setCell_other W5 ⟨b+1,0,none⟩ k _ hk).trans ho⟩,fun y hy h=>?_,?_,World.grownBy.trans J3.out (grownBy_setC W5 (b+1) 0 _)⟩
    ·rcases List.mem_append.1 hy with hy | hy
     ·exact I1.out y hy h
     ·rw [List.mem_singleton.1 hy]
      exact HT.out
    ·rw [HM.out,cdF_two _ _ rfl]
     exact Boxed.set _ J2.out
 case done=>
  rintro D ys W hD hys ⟨g1,g2,g3⟩ hK
  have FN:Hid (findK op C=none):=by
   show findK op C=none
   refine find_none_of fun y hy=>?_
   rw [← hys] at hy
   obtain ⟨z,hz,rfl⟩:=List.mem_map.1 hy
   exact g1 z hz
  have CD:Hid (cdF (ys.map Ee.k)=if (candN op C).isEmpty then 11 else 2):=by show cdF _=_;rw [hys];rfl
  have kc:=keepC_grown g3
  have f0:=kc.2 n _ (by have:=HB.out;omega) D0.out rfl
  have f1:=kc.2 (n+1) _ (by have:=HB.out;omega) D1.out rfl
  have f2:=kc.boxed D2.out (by have:=HB.out;omega)
  have hz:=g3.size
  have hW0:(W0.heap[n]?:Option Obj)=_:=D0.out
  have k0:=Lib.cell_of_heap f0 0
  have k1:=Lib.cell_of_heap f0 1
  have oi:OpsP W Ai I:=by
   rcases OI.out with h | ⟨bb,off,e,hc⟩
   ·exact .inl h
   ·by_cases hI:I=[]
    ·exact .inl hI
    ·refine OpsP.keepC (cb:=b+1) (.inr ⟨bb,off,e,hc⟩) kc fun a ha hne=>?_
     rw [ha] at e
     obtain rfl:=Option.some.inj e
     rintro h
     have h':bb=b+1:=h
     subst h'
     exact box_not_ops (hc 0 (List.length_pos_iff.2 hne)) DC.out
  have ck:=CK.out W oi
  have HD:Hid (b+3≤D):=by show _≤_;omega
  have HK:=Lib.hid hK
  have F1:=Lib.hid f1
  have F2:=Lib.hid f2
  have G2:=Lib.hid g2
  have BW:Hid (Below n w W):=BN.out.grown g3 (by rw [zW];have:=HB.out;omega) fun k e=>by cases e;have:=HB.out;omega
  obtain ⟨cd,hcd⟩:∃ z,codeI (sB op) I=z:=⟨_,rfl⟩
  rw [hcd] at ck
  have HCD:=Lib.hid hcd
  have HZ:Hid (b+3≤W.heap.size):=by show _≤_;omega
  clear g1 g2 g3 hK hseq hys kc f0 f1 f2 hz hW0 oi hcd hD
  go_wp2_with fail
  refine ck.mono ?_
  rintro e W5 ⟨rfl,hb⟩
  have f1:=(hb.block _ (Array.getElem?_eq_some_iff.1 F1.out).1).trans F1.out
  have f2:Boxed W5 (n+1+1) 70 (.int .i64 0):=(hb.block _ F2.out.lt).trans F2.out
  have g2:Boxed W5 (b+1) 70 _:=(hb.block _ G2.out.lt).trans G2.out
  have K5:=Lib.hid ((hb.block D (Array.getElem?_eq_some_iff.1 HK.out).1).trans HK.out)
  have B5:Hid (Below n w W5):=BW.out.trans (hb.mono (by have:=HZ.out;have:=HB.out;omega))
  have F1:=Lib.hid f1
  have F2:=Lib.hid f2
  obtain ⟨c0,hc0⟩:∃ z,cdF (ys.map Ee.k)=z:=⟨_,rfl⟩
  have CD:Hid (c0=if (candN op C).isEmpty then 11 else 2):=by show c0=_;rw [← hc0];exact CD.out
  rw [hc0] at g2
  have G2:=Lib.hid g2
  have gc:=g2.cell
  have gf:=g2.frozen
  clear hb ck f1 f2 g2 k0 k1 hc0 HK BW
  -- the code that is returned
  obtain ⟨W6,cf,hcf,gB,f1,f2,K6,B6,hgo⟩:∃ (W6:World) (cf:Int),Hid (codeF op I C=cf)∧Hid (Boxed W6 (b+1) 70 (.int .i64 cf))∧Hid (W6.heap[n+1]?=some (.cells #[.int .i64 0,.int .u8 0,.string ⟨#[]⟩,.slice none 0 0,.string ⟨#[]⟩,.bool false] 134 (0,0)))∧Hid (Boxed W6 (n+1+1) 70 (.int .i64 0))∧Hid (W6.heap[D]?=some (.deferred (some [])))∧Hid (Below n w W6)∧(if cd=0 then W6=W5 else W6=W5.setCell ⟨b+1,0,none⟩ (.int .i64 cd)):=by
   have hbn:=HB.out
   by_cases h0:cd=0
   ·refine ⟨W5,c0,?_,G2,F1,F2,K5,B5,by rw [if_pos h0]⟩
    show codeF op I C=c0
    unfold codeF
    rw [HCD.out,if_neg (by simpa using h0),CD.out]
   ·refine ⟨W5.setCell ⟨b+1,0,none⟩ (.int .i64 cd),cd,?_,Boxed.set _ G2.out,(heap_setCell_other W5 ⟨b+1,0,none⟩ (n+1) _ (by simp;omega)).trans F1.out,(heap_setCell_other W5 ⟨b+1,0,none⟩ (n+1+1) _ (by simp;omega)).trans F2.out,(KeepsOthers.setCell W5 _ _).same D _ K5.out rfl,B5.out.setCell (p:=⟨b+1,0,none⟩) (show n≤b+1 by omega) _,by rw [if_neg h0]⟩
    show codeF op I C=cd
    unfold codeF
    rw [HCD.out,if_pos h0]
  by_cases h0:cd=0
  ·rw [if_pos h0] at hgo
   subst h0
   subst hgo
   clear CD CK HCD F1 F2 K5 B5 G2
   go_upto_region 11 with fail
   obtain ⟨W7,hW7⟩:∃ z,W6.drew=z:=⟨_,rfl⟩
   have g7:Boxed W7 (b+1) 70 (.int .i64 cf):=by rw [← hW7];exact gB.out
   have f7:W7.heap[n+1]?=some (.cells #[.int .i64 0,.int .u8 0,.string ⟨#[]⟩,.slice none 0 0,.string ⟨#[]⟩,.bool false] 134 (0,0)):=by rw [← hW7];exact f1.out
   have p7:Boxed W7 (n+1+1) 70 (.int .i64 0):=by rw [← hW7];exact f2.out
   have K7:Hid (W7.heap[D]?=some (.deferred (some []))):=by rw [← hW7];exact K6.out
   have B7:Hid (Below n w W7):=by rw [← hW7];exact B6.out.drew
   refine Mixed.wp_region_mixed (fun w'=>Boxed w' (b+1) 70 (.int .i64 cf)) 3 [(0,true),(1,true),(2,false)] (by kernel_rfl) (by kernel_rfl) (by rw [hW7];exact g7) ?_
   rw [hW7]
   refine Mixed.wpMix_pure rfl (by kernel_rfl) (.agg #[.int .i64 0,.int .u8 0,.string ⟨#[]⟩,.slice none 0 0,.string ⟨#[]⟩,.bool false]) (fun w h=>by clear h;go_simp;try rfl) ?_
   refine Mixed.wpMix_pure rfl (by kernel_rfl) (.int .i64 cf) (fun w h=>by have h1:=Boxed.cell h;clear h;go_simp;try rfl) ?_
   have u0:=Lib.cell_of_heap f7 0
   have u1:=Lib.cell_of_heap f7 1
   have u2:=Lib.cell_of_heap f7 2
   have u3:=Lib.cell_of_heap f7 3
   have u4:=Lib.cell_of_heap f7 4
   have u5:=Lib.cell_of_heap f7 5
   have u6:=Lib.frozen_of_heap f7
   have F7:=Lib.hid f7
   have G7:=Lib.hid g7
   have P7:=Lib.hid p7
   clear f7 g7 p7 hW7 gc gf
   refine Mixed.wpMix_loud rfl ?_
   refine wpList_store_row rfl 134 _ _ rfl (n+1) #[.int .i64 0,.int .u8 0,.string ⟨#[]⟩,.slice none 0 0,.string ⟨#[]⟩,.bool false] rfl rfl _ _ F7.out (by kernel_rfl) (by kernel_rfl) (by kernel_rfl) ?_
   obtain ⟨W8,hW8,a1,a2,a4,a5⟩:=row6 F7.out #[.int .i64 0,.int .u8 0,.string ⟨#[]⟩,.slice none 0 0,.string ⟨#[]⟩,.bool false]
   rw [hW8]
   have g8:Boxed W8 (b+1) 70 (.int .i64 cf):=(a2 _ (by have:=HB.out;omega)).trans G7.out
   have p8:Boxed W8 (n+1+1) 70 (.int .i64 0):=(a2 _ (by omega)).trans P7.out
   have K8:Hid (W8.heap[D]?=some (.deferred (some []))):=(a2 _ (by have:=HD.out;have:=HB.out;omega)).trans K7.out
   have B8:Hid (Below n w W8):=B7.out.trans (a4.mono (by omega))
   refine ⟨g8,?_⟩
   simp only [Mixed.wpMix,List.drop_succ_cons,List.drop_zero]
   have v0:=p8.cell
   have v1:=p8.frozen
   have P8:=Lib.hid p8
   have A1:=Lib.hid a1
   clear u0 u1 u2 u3 u4 u5 u6 hW8 a1 a2 a4 a5 g8 p8
   go_wp2
   have z1:=Boxed.set (.int .i64 cf) P8.out
   have z2:KeepsOthers W8 (W8.setCell ⟨n+1+1,0,none⟩ (.int .i64 cf)):=KeepsOthers.setCell _ _ _
   have z3:Below n w (W8.setCell ⟨n+1+1,0,none⟩ (.int .i64 cf)):=B8.out.setCell (p:=⟨n+1+1,0,none⟩) (show n≤n+1+1 by omega) _
   have z4:(W8.setCell ⟨n+1+1,0,none⟩ (.int .i64 cf)).heap[n+1]?=some (.cells #[.int .i64 0,.int .u8 0,.string ⟨#[]⟩,.slice none 0 0,.string ⟨#[]⟩,.bool false] 134 (0,0)):=(heap_setCell_other W8 ⟨n+1+1,0,none⟩ (n+1) _ (by simp)).trans A1.out
   obtain ⟨W9,hW9⟩:∃ z,W8.setCell ⟨n+1+1,0,none⟩ (.int .i64 cf)=z:=⟨_,rfl⟩
   rw [hW9] at z1 z2 z3 z4 ⊢
   have hK2:W9.heap[D]?=some (.deferred (some [])):=z2.same D _ K8.out rfl
   have hg:=grownBy_putObj' W9 D (.deferred none)
   have hDn:=HD.out
   have hBn:=HB.out
   have hn0:w.heap.size=n:=HN.out
   have q2:=(z1.kept hg (by simp;omega)).cell
   have q1:=(hg.block (n+1) (Array.getElem?_eq_some_iff.1 z4).1 (by simp;omega)).trans z4
   have q3:=Lib.cell_of_heap q1 0
   have q4:=Lib.cell_of_heap q1 1
   have q5:=Lib.cell_of_heap q1 2
   have q6:=Lib.cell_of_heap q1 3
   have q7:=Lib.cell_of_heap q1 4
   have q8:=Lib.cell_of_heap q1 5
   refine ⟨by simp,.inl ⟨_,_,rfl,run_takeDeferred hK2,?_⟩⟩
   refine ⟨.tuple #[.agg #[.int .i64 0,.int .u8 0,.string ⟨#[]⟩,.slice none 0 0,.string ⟨#[]⟩,.bool false],.int .i64 cf],?_,?_⟩
   ·simp [results,Tryz.results82,go_sem,q2,q3,q4,q5,q6,q7,q8]
   ·rw [FN.out]
    refine ⟨by rw [CF.out,hcf.out];rfl,?_⟩
    rw [hn0];exact z3.trans (belowK_b (w:=w) (by omega) W9 D _ _ (by omega) hK2 rfl rfl)
  ·rw [if_neg h0] at hgo
   have e0:(cd == 0)=false:=beq_eq_false_iff_ne.2 h0
   clear CD CK HCD F1 F2 K5 B5 G2 h0
   go_upto_region 11 with fail
   rw [← hgo]
   clear hgo e0
   obtain ⟨W7,hW7⟩:∃ z,W6.drew=z:=⟨_,rfl⟩
   have g7:Boxed W7 (b+1) 70 (.int .i64 cf):=by rw [← hW7];exact gB.out
   have f7:W7.heap[n+1]?=some (.cells #[.int .i64 0,.int .u8 0,.string ⟨#[]⟩,.slice none 0 0,.string ⟨#[]⟩,.bool false] 134 (0,0)):=by rw [← hW7];exact f1.out
   have p7:Boxed W7 (n+1+1) 70 (.int .i64 0):=by rw [← hW7];exact f2.out
   have K7:Hid (W7.heap[D]?=some (.deferred (some []))):=by rw [← hW7];exact K6.out
   have B7:Hid (Below n w W7):=by rw [← hW7];exact B6.out.drew
   refine Mixed.wp_region_mixed (fun w'=>Boxed w' (b+1) 70 (.int .i64 cf)) 3 [(0,true),(1,true),(2,false)] (by kernel_rfl) (by kernel_rfl) (by rw [hW7];exact g7) ?_
   rw [hW7]
   refine Mixed.wpMix_pure rfl (by kernel_rfl) (.agg #[.int .i64 0,.int .u8 0,.string ⟨#[]⟩,.slice none 0 0,.string ⟨#[]⟩,.bool false]) (fun w h=>by clear h;go_simp;try rfl) ?_
   refine Mixed.wpMix_pure rfl (by kernel_rfl) (.int .i64 cf) (fun w h=>by have h1:=Boxed.cell h;clear h;go_simp;try rfl) ?_
   have u0:=Lib.cell_of_heap f7 0
   have u1:=Lib.cell_of_heap f7 1
   have u2:=Lib.cell_of_heap f7 2
   have u3:=Lib.cell_of_heap f7 3
   have u4:=Lib.cell_of_heap f7 4
   have u5:=Lib.cell_of_heap f7 5
   have u6:=Lib.frozen_of_heap f7
   have F7:=Lib.hid f7
   have G7:=Lib.hid g7
   have P7:=Lib.hid p7
   clear f7 g7 p7 hW7 gc gf
   refine Mixed.wpMix_loud rfl ?_
   refine wpList_store_row rfl 134 _ _ rfl (n+1) #[.int .i64 0,.int .u8 0,.string ⟨#[]⟩,.slice none 0 0,.string ⟨#[]⟩,.bool false] rfl rfl _ _ F7.out (by kernel_rfl) (by kernel_rfl) (by kernel_rfl) ?_
   obtain ⟨W8,hW8,a1,a2,a4,a5⟩:=row6 F7.out #[.int .i64 0,.int .u8 0,.string ⟨#[]⟩,.slice none 0 0,.string ⟨#[]⟩,.bool false]
   rw [hW8]
   have g8:Boxed W8 (b+1) 70 (.int .i64 cf):=(a2 _ (by have:=HB.out;omega)).trans G7.out
   have p8:Boxed W8 (n+1+1) 70 (.int .i64 0):=(a2 _ (by omega)).trans P7.out
   have K8:Hid (W8.heap[D]?=some (.deferred (some []))):=(a2 _ (by have:=HD.out;have:=HB.out;omega)).trans K7.out
   have B8:Hid (Below n w W8):=B7.out.trans (a4.mono (by omega))
   refine ⟨g8,?_⟩
   simp only [Mixed.wpMix,List.drop_succ_cons,List.drop_zero]
   have v0:=p8.cell
   have v1:=p8.frozen
   have P8:=Lib.hid p8
   have A1:=Lib.hid a1
   clear u0 u1 u2 u3 u4 u5 u6 hW8 a1 a2 a4 a5 g8 p8
   go_wp2
   have z1:=Boxed.set (.int .i64 cf) P8.out
   have z2:KeepsOthers W8 (W8.setCell ⟨n+1+1,0,none⟩ (.int .i64 cf)):=KeepsOthers.setCell _ _ _
   have z3:Below n w (W8.setCell ⟨n+1+1,0,none⟩ (.int .i64 cf)):=B8.out.setCell (p:=⟨n+1+1,0,none⟩) (show n≤n+1+1 by omega) _
   have z4:(W8.setCell ⟨n+1+1,0,none⟩ (.int .i64 cf)).heap[n+1]?=some (.cells #[.int .i64 0,.int .u8 0,.string ⟨#[]⟩,.slice none 0 0,.string ⟨#[]⟩,.bool false] 134 (0,0)):=(heap_setCell_other W8 ⟨n+1+1,0,none⟩ (n+1) _ (by simp)).trans A1.out
   obtain ⟨W9,hW9⟩:∃ z,W8.setCell ⟨n+1+1,0,none⟩ (.int .i64 cf)=z:=⟨_,rfl⟩
   rw [hW9] at z1 z2 z3 z4 ⊢
   have hK2:W9.heap[D]?=some (.deferred (some [])):=z2.same D _ K8.out rfl
   have hg:=grownBy_putObj' W9 D (.deferred none)
   have hDn:=HD.out
   have hBn:=HB.out
   have hn0:w.heap.size=n:=HN.out
   have q2:=(z1.kept hg (by simp;omega)).cell
   have q1:=(hg.block (n+1) (Array.getElem?_eq_some_iff.1 z4).1 (by simp;omega)).trans z4
   have q3:=Lib.cell_of_heap q1 0
   have q4:=Lib.cell_of_heap q1 1
   have q5:=Lib.cell_of_heap q1 2
   have q6:=Lib.cell_of_heap q1 3
   have q7:=Lib.cell_of_heap q1 4
   have q8:=Lib.cell_of_heap q1 5
   refine ⟨by simp,.inl ⟨_,_,rfl,run_takeDeferred hK2,?_⟩⟩
   refine ⟨.tuple #[.agg #[.int .i64 0,.int .u8 0,.string ⟨#[]⟩,.slice none 0 0,.string ⟨#[]⟩,.bool false],.int .i64 cf],?_,?_⟩
   ·simp [results,Tryz.results82,go_sem,q2,q3,q4,q5,q6,q7,q8]
   ·rw [FN.out]
    refine ⟨by rw [CF.out,hcf.out];rfl,?_⟩
    rw [hn0];exact z3.trans (belowK_b (w:=w) (by omega) W9 D _ _ (by omega) hK2 rfl rfl)
 case stop=>
  rintro D pre W hD ⟨p,x,rfl,h2,h3,h4,h5,h6⟩ hK
  have hg:=grownBy_putObj' W D (.deferred none)
  have hDD:W0.heap.size≤D:=hD
  have q1:=(hg.block (n+1) (Array.getElem?_eq_some_iff.1 h3).1 (by simp;have:=HB.out;omega)).trans h3
  have q2:=(h4.kept hg (by simp;have:=HB.out;omega)).cell
  have hn0:w.heap.size=n:=HN.out
  have F:Hid (RetSrch w op I (findK op C) (.returned (.tuple #[enV x.g x.o x.m x.v x.ex x.al,.int .i64 0])) (W.putObj D (.deferred none))):=by
   show RetSrch _ _ _ _ _ _
   rw [h2]
   refine ⟨x.A,x.cap,rfl,ops_grown h5 hg fun r e=>by cases e;exact ⟨_,hK,rfl⟩,?_⟩
   rw [hn0];exact h6.trans (belowK_b (w:=w) (by omega) W D _ _ (by have:=HB.out;omega) hK rfl rfl)
  have HK:=Lib.hid hK
  obtain ⟨g,o,m,Ar,cr,Lr,ex,al⟩:=x
  have q3:=Lib.cell_of_heap q1 0
  have q4:=Lib.cell_of_heap q1 1
  have q5:=Lib.cell_of_heap q1 2
  have q6:=Lib.cell_of_heap q1 3
  have q7:=Lib.cell_of_heap q1 4
  have q8:=Lib.cell_of_heap q1 5
  clear h2 h3 h4 h5 h6 hK hg hseq q1 hn0
  gi_wp2
  refine ⟨by simp,.inl ⟨_,_,rfl,run_takeDeferred HK.out,?_⟩⟩
  refine ⟨_,?_,F.out⟩
  simp [results,Tryz.results82,go_sem,q2,q3,q4,q5,q6,q7,q8,enV,Ee.v]
end Go.Proofs.YtajlleeonddinaaGreatDoor
namespace Go.Proofs.YtajlleeonddinaaGreatDoor
open Go.RowKit Go.Shelf
attribute [local go_sem] Oper.semAt_some
def Hit (s:ByteArray) (C:List Tr) (page:Int) (n:Nat):Prop:=∃ x:En,ratT page n=some x∧x.2.2.2=false∧fitsR x.1 x.2.1 x.2.2.1 s C=true
def RLeg (s:ByteArray) (I C:List Tr):Prop:=codeI s I=0∧∃ (page:Int) (n:Nat),fstI C≤page∧page≤lstI C∧n<256∧Hit s C page n
end Go.Proofs.YtajlleeonddinaaGreatDoor
namespace Go.Proofs.YtajlleeonddinaaGreatDoor
open Go.RowKit
theorem nodup_le {α:Type} [DecidableEq α]:∀ {l d:List α},l.Nodup→(∀ a∈l,a∈d)→l.length≤d.length
 | [],_,_,_=>Nat.zero_le _
 | a :: l,d,hl,h=>by
  obtain ⟨h1,h2⟩:=List.nodup_cons.1 hl
  have ha:a∈d:=h a (List.mem_cons_self ..)
  have:=nodup_le (l:=l) (d:=d.erase a) h2 fun b hb=>by
   refine (List.mem_erase_of_ne fun e=>?_).2 (h b (List.mem_cons_of_mem _ hb))
   subst e
   exact h1 hb
  have hd:=List.length_erase_of_mem ha
  have:=List.length_pos_of_mem ha
  simp only [List.length_cons]
  omega
open Classical in
noncomputable def argF (s:ByteArray) (I:List Tr) (k:Int):Option Tr:=if RLeg s I (canL (opc s) I) then (canL (opc s) I).find? (fun t=>decide (t.1=k)) else none
def opJR:ByteArray:=⟨#[74,82]⟩
def opDJ:ByteArray:=⟨#[68,74,78,90]⟩
def opJP:ByteArray:=⟨#[74,80]⟩
def opCA:ByteArray:=⟨#[67,65,76,76]⟩
def opRS:ByteArray:=⟨#[82,83,84]⟩
def opRE:ByteArray:=⟨#[82,69,84]⟩
def opRI:ByteArray:=⟨#[82,69,84,73]⟩
def opRN:ByteArray:=⟨#[82,69,84,78]⟩
def opHA:ByteArray:=⟨#[72,65,76,84]⟩
open Classical in
noncomputable def kdF (s:ByteArray) (I:List Tr):Int:=
 if ¬RLeg s I (canL (opc s) I) then 0
 else if s=opJR∨s=opDJ then 1
 else if s=opJP then (if (argF s I 6).isSome then 1 else 4)
 else if s=opCA∨s=opRS then 2
 else if s=opRE∨s=opRI∨s=opRN then 3
 else if s=opHA then 4 else 0
open Classical in
noncomputable def smF (s:ByteArray) (I:List Tr):Bool:=decide (RLeg s I (canL (opc s) I)∧((argF s I 8).isSome=true∨s=opDJ))
noncomputable def tgF (a:Int) (s:ByteArray) (I:List Tr):Int:=
 if a<0∨65535<a∨(kdF s I≠1∧kdF s I≠2) then -1
 else match argF s I 10 with
  | some t=>(a+2+t.2.2+65536) % 65536
  | none=>((argF s I 6).getD (0,0,0)).2.2
noncomputable def nxF (a:Int) (x:Ite):List Int:=
 if a<0∨65535<a then []
 else
  let k:=if x.kind=1 then kdF (sB x.m) x.C else 0
  let t:=if x.kind=1 then tgF a (sB x.m) x.C else -1
  let always:Bool:=decide (x.kind=1)&&(decide (k=1)||decide (k=3)||decide (k=4))&&!smF (sB x.m) x.C
  let z:=a+x.raw.length
  let o:=if z≤65535∧x.kind≠4∧always=false then [z] else []
  if 0≤t∧(o=[]∨o.head?≠some t) then o++[t] else o
end Go.Proofs.YtajlleeonddinaaGreatDoor
namespace Go.Proofs.YtajlleeonddinaaGreatDoor
open Go.RowKit Go.Shelf
attribute [local go_sem] Oper.semAt_some
attribute [local irreducible] Go.Mixed.wpMix
end Go.Proofs.YtajlleeonddinaaGreatDoor
namespace Go.Proofs.YtajlleeonddinaaGreatDoor
open Go.RowKit Go.Shelf
attribute [local go_sem] Oper.semAt_some
attribute [local irreducible] Go.Mixed.wpMix
end Go.Proofs.YtajlleeonddinaaGreatDoor
namespace Go.Proofs.YtajlleeonddinaaGreatDoor
open Go.RowKit Go.ChangeShapes Go.WideShapes Go.Deep
section
variable {H:Type} {enc:TypeId×Value→H} {w:World} {spare:Nat→Bool} {fuel:Nat}
end
end Go.Proofs.YtajlleeonddinaaGreatDoor
namespace Go.Proofs.YtajlleeonddinaaGreatDoor
open Go.RowKit Go.ChangeShapes Go.WideShapes Go.Deep
structure Ie where
 s:ByteArray
 A:Option Addr
 cap:Nat
 L:List Tr
instance:Inhabited Ie:=⟨⟨⟨#[]⟩,none,0,[]⟩⟩
def Ie.v (r:Ie):Value:=.slice r.A r.L.length r.cap
def InsP (w:World) (A:Option Addr) (R:List Ie):Prop:=
 R=[]∨∃ b off,A=some ⟨b,off,none⟩∧∀ j (h:j<R.length),w.cell? ⟨b,off+j*2,none⟩=some (.string R[j].s)∧w.cell? ⟨b,off+j*2+1,none⟩=some R[j].v∧OpsP w R[j].A R[j].L
theorem InsP.at_ {w:World} {A:Option Addr} {R:List Ie} (h:InsP w A R) {k:Nat} (hk:k<R.length):∃ b off,A=some ⟨b,off,none⟩∧w.cell? ⟨b,off+k*2,none⟩=some (.string R[k].s)∧w.cell? ⟨b,off+k*2+1,none⟩=some R[k].v∧OpsP w R[k].A R[k].L:=by
 rcases h with rfl | ⟨b,off,rfl,hc⟩
 ·simp at hk
 ·exact ⟨b,off,rfl,hc k hk⟩
theorem InsP.below {w w':World} {A:Option Addr} {R:List Ie} (h:InsP w A R) (hb:Below w.heap.size w w'):InsP w' A R:=by
 rcases h with rfl | ⟨b,off,rfl,hc⟩
 ·exact .inl rfl
 ·refine .inr ⟨b,off,rfl,fun j hj=>?_⟩
  have e:∀ (p:Addr) (v:Value),w.cell? p=some v→w'.cell? p=some v:=fun p v hp=>(hb.cell (World.block_lt_of_cell? w _ hp)).trans hp
  obtain ⟨h1,h2,h3⟩:=hc j hj
  exact ⟨e _ _ h1,e _ _ h2,h3.below hb⟩
section
variable {H:Type} {enc:TypeId×Value→H} {w:World} {spare:Nat→Bool} {fuel:Nat}
end
def cellsE:List Ie→List Value
 | []=>[]
 | r :: t=>.string r.s :: r.v :: cellsE t
def OwnE (w:World) (n:Nat) (v:Value) (R:List Ie):Prop:=w.ownsRow n 24 2 v R.length (cellsE R)∧∀ r∈R,OwnT w n r.v r.L
theorem OwnE.below {w w':World} {n:Nat} {v:Value} {R:List Ie} (h:OwnE w n v R) (k:Below w.heap.size w w'):OwnE w' n v R:=
 ⟨World.ownsRow.kept h.1 (row:=none) ⟨k.os,k.tape,k.output,k.size,fun i hi _=>k.block i hi⟩ (by
  cases e:v.ownBlock with
  | none=>exact .inl rfl
  | some g=>exact .inr (by simp)),fun r hr=>(h.2 r hr).below k⟩
theorem OwnT.kept {w w':World} {n g:Nat} {v:Value} {L:List Tr} {row:Option Nat} (h:OwnT w n v L) (k:w.grownBy w' row) (hr:∀ q,row=some q→∀ cur fz,w.heap[q]?≠some (.cells cur 55 fz)):OwnT w' n v L:=
 World.ownsRow.kept h k (by
  cases e:v.ownBlock with
  | none=>exact .inl rfl
  | some q=>
   refine .inr fun e'=>?_
   rcases h.2 with ⟨rfl,_⟩ | ⟨g',cap,cur,rfl,_,hg,_⟩
   ·simp [Value.ownBlock] at e
   ·simp only [Value.ownBlock,Option.some.injEq] at e
    subst e
    exact hr _ e'.symm _ _ hg)
end Go.Proofs.YtajlleeonddinaaGreatDoor
namespace Go.Proofs.YtajlleeonddinaaGreatDoor
open Go.RowKit Go.Shelf
attribute [local go_sem] Oper.semAt_some
def sT (s:ByteArray):Str:=s.data.toList
theorem sB_sT (s:ByteArray):sB (sT s)=s:=by
 obtain ⟨d⟩:=s
 show (⟨d.toList.toArray⟩:ByteArray)=⟨d⟩
 rw [Array.toArray_toList]
theorem sT_len (s:ByteArray):(sT s).length=s.size:=by unfold sT;rw [Array.length_toList];rfl
def legB (s:ByteArray) (L:List Tr):Bool:=(findK (sT s) (canL (opc s) L)).isSome
theorem codeF_ne (op:Str) (I C:List Tr):codeF op I C≠0:=by
 unfold codeF
 split
 ·assumption
 ·split <;> decide
theorem legB_some {s:ByteArray} {L:List Tr} {k:Ke} (h:findK (sT s) (canL (opc s) L)=some k):legB s L=true:=by unfold legB;rw [h];rfl
theorem legB_none {s:ByteArray} {L:List Tr} (h:findK (sT s) (canL (opc s) L)=none):legB s L=false:=by unfold legB;rw [h];rfl
theorem sfind2_any (s:ByteArray) (hs:s.size≤1000) (Ai:Option Addr) (capi li:Nat) (I:List Tr) (hli:I.length=li) (hLi:li≤900) (w:World) (hM:MaxAt w) (HF:OpsP w Ai I) :
  Calls Tryz.prog 82 #[.agg #[.string s,.slice Ai li capi]] w (RetSrch w (sT s) I (findK (sT s) (canL (opc s) I))):=by
 have h:=sfind_any (sT s) (by rw [sT_len];exact hs) Ai capi li I hli hLi w hM HF
 rw [sB_sT] at h
 exact h
theorem legal_any (A:Option Addr) (cap n:Nat) (R:List Ie) (hn:R.length=n) (hL:n≤1000) (hR:∀ r∈R,r.s.size≤1000∧r.L.length≤900) (w:World) (hM:MaxAt w) (H:InsP w A R) :
  Calls Tryz.prog 54 #[.slice A n cap] w fun e w'=>e=.returned (.bool (R.all fun r=>legB r.s r.L))∧Below w.heap.size w w':=by
 have X:=Lib.hid H
 have HN:=Lib.hid hn
 have HM:=Lib.hid hM
 have HR:=Lib.hid hR
 clear H hM hn hR
 go_enter Tryz.func54,Tryz.ntmps54
 go_wp2
 go_loopw [9] (fun i wr=>∃ j:Nat,j≤n∧i=.int .i64 j∧Hid (∀ k (h:k<R.length),k<j→legB R[k].s R[k].L=true)∧Hid (Below w.heap.size w wr)) (fun i _=>n - (intOf i).toNat)
 case atStart=>exact ⟨0,Nat.zero_le _,rfl,fun k h h2=>by omega,Below.refl _ _⟩
 case round=>
  obtain ⟨j,hj,rfl,R1,B⟩:=hrel
  by_cases hlt:j<n
  ·have hj1:j<R.length:=by have:=HN.out;omega
   obtain ⟨b1,o1,rfl,p0,p1,pO⟩:=(X.out.below B.out).at_ hj1
   have hr:=HR.out _ (List.getElem_mem hj1)
   have HJ0:Hid (∀ r:Ie,R[j]=r→legB r.s r.L=true→∀ k (h:k<R.length),k<j+1→legB R[k].s R[k].L=true):=fun r e1 e2 k h h2=>by
    by_cases e:k=j
    ·subst e
     rw [e1]
     exact e2
    ·exact R1.out k h (by omega)
   have HF0:Hid (∀ r:Ie,R[j]=r→legB r.s r.L=false→(R.all fun r=>legB r.s r.L)=false):=fun r e1 e2=>by
    refine List.all_eq_false.2 ⟨r,e1 ▸ List.getElem_mem hj1,?_⟩
    rw [e2]
    decide
   obtain ⟨r,hre⟩:∃ r,R[j]=r:=⟨_,rfl⟩
   have HJ:=Lib.hid (HJ0.out r hre)
   have HF9:=Lib.hid (HF0.out r hre)
   clear HJ0 HF0
   rw [hre] at p0 p1 pO hr
   obtain ⟨s,As,cs,Ls⟩:=r
   simp only [Ie.v] at p0 p1 pO hr
   simp only at HJ HF9
   obtain ⟨ls,hls⟩:∃ z,Ls.length=z:=⟨_,rfl⟩
   rw [hls] at p1 hr
   obtain ⟨c,hc⟩:∃ z,wr.heap.size=z:=⟨_,rfl⟩
   obtain ⟨wa,hwa,a1,a2,a3⟩:=ins_box wr s (.slice As ls cs) c hc
   have BA:Hid (Below w.heap.size w wa):=B.out.trans (a2.mono B.out.size)
   have MA:MaxAt wa:=HM.out.below BA.out
   have fi:=sfind2_any s hr.1 As cs ls Ls hls hr.2 wa MA (pO.below a2)
   have v0:=Lib.cell_of_heap a1 0
   have v1:=Lib.cell_of_heap a1 1
   obtain ⟨o,ho⟩:∃ o,findK (sT s) (canL (opc s) Ls)=o:=⟨_,rfl⟩
   rw [ho] at fi
   have HO:=Lib.hid ho
   clear hre hj1 a1 a2 a3 pO hr MA B ho R1 hls
   go_wp2_with fail
   refine fi.mono ?_
   rintro e w5 hres
   cases o with
   | some k=>
    obtain ⟨A2,c2,rfl,hO2,hb⟩:=hres
    have B5:Hid (Below w.heap.size w w5):=BA.out.trans (hb.mono BA.out.size)
    have B6:=fun o=>Lib.hid (B5.out.alloc B5.out.size o)
    have R2:=Lib.hid (HJ.out (legB_some HO.out))
    obtain ⟨kg,ko,km,kL,kex,kal⟩:=k
    obtain ⟨kl,hkl⟩:∃ z,kL.length=z:=⟨_,rfl⟩
    simp only [enV,hkl]
    clear fi hb hO2 HJ HF9 hkl
    go_wp2
    go_roundw
    case rel=>exact ⟨j+1,by omega,by go_num,R2.out,(B6 _).out⟩
    case measure=>simp [intOf];omega
   | none=>
    obtain ⟨rfl,hb⟩:=hres
    have B5:Hid (Below w.heap.size w w5):=BA.out.trans (hb.mono BA.out.size)
    have B6:=fun o=>Lib.hid (B5.out.alloc B5.out.size o)
    have T:=Lib.hid (HF9.out (legB_none HO.out)).symm
    have hne:=codeF_ne (sT s) Ls (canL (opc (sB (sT s))) Ls)
    obtain ⟨cd,hcd⟩:∃ z,codeF (sT s) Ls (canL (opc (sB (sT s))) Ls)=z:=⟨_,rfl⟩
    rw [hcd] at hne ⊢
    have e0:(cd == 0)=false:=beq_eq_false_iff_ne.2 hne
    simp only [enV]
    clear fi hb HJ HF9 hcd hne
    go_wp2
    go_ret
    exact ⟨ret_bool T.out,(B6 _).out⟩
  ·have T:Hid (true=R.all fun r=>legB r.s r.L):=by
    refine (List.all_eq_true.2 fun r hr=>?_).symm
    obtain ⟨k,hk,rfl⟩:=List.getElem_of_mem hr
    exact R1.out k hk (by have:=HN.out;omega)
   clear R1
   go_wp2
   go_ret
   exact ⟨ret_bool T.out,B.out⟩
end Go.Proofs.YtajlleeonddinaaGreatDoor
namespace Go.Proofs.YtajlleeonddinaaGreatDoor
open Go.RowKit
theorem code_split {s:ByteArray} {L:List Tr} (h:codeI s L=0):knB s=true∧L.length≤3∧∀ t∈L,vT t=true:=by
 unfold codeI at h
 split at h
 ·cases h
 ·rename_i h1
  split at h
  ·cases h
  ·rename_i h2
   split at h
   ·rename_i h3
    exact ⟨by simpa using h1,by omega,fun t ht=>List.all_eq_true.1 h3 t ht⟩
   ·cases h
theorem mem_ex {c:Nat} {L:List Tr} {u:Tr} (h:u∈exL c (accL c L)):u∈L∨u=accT∨u=hlT∨u=deT:=by
 have h1:u∈accL c L∨u=hlT∨u=deT:=by
  unfold exL at h
  split at h
  ·rcases List.mem_cons.1 h with e | h
   ·exact .inr (.inr e)
   ·exact .inr (.inl (List.mem_singleton.1 h))
  ·exact .inl h
 rcases h1 with h1 | h1 | h1
 ·unfold accL at h1
  split at h1
  ·exact .inl (List.mem_of_mem_tail h1)
  ·split at h1
   ·rcases List.mem_cons.1 h1 with e | h
    ·exact .inr (.inl e)
    ·exact .inl h
   ·exact .inl h1
 ·exact .inr (.inr (.inl h1))
 ·exact .inr (.inr (.inr h1))
theorem vT_acc:vT accT=true:=by decide +kernel
theorem vT_hl:vT hlT=true:=by decide +kernel
theorem vT_de:vT deT=true:=by decide +kernel
theorem vT_mem {c:Nat} {s:ByteArray} {L:List Tr} (h:codeI s L=0) {u:Tr} (hu:u∈exL c (accL c L)):vT u=true:=by
 rcases mem_ex hu with h1 | rfl | rfl | rfl
 ·exact (code_split h).2.2 u h1
 ·exact vT_acc
 ·exact vT_hl
 ·exact vT_de
theorem vT_6 {t:Tr} (h:vT t=true) (hk:t.1=6):t.2.1=0∧-32768≤t.2.2∧t.2.2≤65535:=by
 obtain ⟨a,r,n⟩:=t
 simp only at hk
 subst hk
 unfold vT at h
 simp only [vld_6] at h
 simp only [Bool.and_eq_true,beq_iff_eq,decide_eq_true_eq] at h
 exact ⟨h.1,h.2.1,h.2.2⟩
theorem vT_wrap {t:Tr} (w:Int) (h:vT t=true):vT (wrapT (valW w) t)=true:=by
 by_cases hc:t.1=6∧-(valW w / 2)≤t.2.2∧t.2.2<0
 ·obtain ⟨h1,h2,h3⟩:=vT_6 h hc.1
  have e:wrapT (valW w) t=(t.1,t.2.1,t.2.2+valW w):=by unfold wrapT;rw [if_pos hc]
  rw [e,hc.1]
  unfold vT
  simp only [vld_6,Bool.and_eq_true,beq_iff_eq,decide_eq_true_eq]
  obtain ⟨-,h4,h5⟩:=hc
  refine ⟨h1,?_,?_⟩ <;> rcases valW_cases w with q | q | q <;> rw [q] at h4 ⊢ <;> omega
 ·have e:wrapT (valW w) t=t:=by unfold wrapT;rw [if_neg hc]
  rw [e];exact h
theorem canL_le3 {c:Nat} {L:List Tr} (h:L.length≤3):(canL c L).length≤3:=by
 unfold canL
 rw [List.length_map,exL_len]
 unfold accL
 split
 ·rw [List.length_tail];omega
 ·split
  ·simp only [List.length_cons];omega
  ·exact h
theorem can_check {s:ByteArray} {L:List Tr} (h:codeI s L=0):codeI s (canL (opc s) L)=0:=by
 obtain ⟨h1,h2,h3⟩:=code_split h
 refine (code_0 s _ h1 (by have:=canL_le3 (c:=opc s) h2;omega) fun k hk a=>?_).symm
 have hm:=List.getElem_mem a
 unfold canL at hm
 rw [List.mem_map] at hm
 obtain ⟨u,hu,e⟩:=hm
 have:=vT_wrap (widL (opc s) L) (vT_mem h hu)
 rw [e] at this
 exact this
end Go.Proofs.YtajlleeonddinaaGreatDoor
namespace Go.Proofs.YtajlleeonddinaaGreatDoor
open Go.RowKit Go.Shelf
theorem vT_of {a b:Tr} (hk:ks2 a=ks2 b) (ha:vT a=true) (hn:loK b.1.toNat≤b.2.2∧b.2.2≤hiK b.1.toNat):vT b=true:=by
 obtain ⟨k,r,n⟩:=a
 obtain ⟨k2,r2,n2⟩:=b
 unfold ks2 at hk
 simp only [Prod.mk.injEq] at hk
 obtain ⟨rfl,rfl⟩:=hk
 unfold vT vldB at ha ⊢
 simp only [Bool.and_eq_true,decide_eq_true_eq] at ha ⊢ hn
 exact ⟨ha.1,hn⟩
theorem vT_rng {a:Tr} (h:vT a=true):loK a.1.toNat≤a.2.2∧a.2.2≤hiK a.1.toNat:=by
 obtain ⟨k,r,n⟩:=a
 unfold vT vldB at h
 simp only [Bool.and_eq_true,decide_eq_true_eq] at h
 exact h.2
theorem with_rng {c:UInt8} {n:Int} (h:withR c n=true):(rangeR c).1≤n∧n≤(rangeR c).2:=by
 unfold withR at h
 unfold rangeR
 by_cases h1:c=100∨c=101
 ·rw [if_pos h1] at h ⊢
  simp only [Bool.and_eq_true,decide_eq_true_eq] at h
  exact h
 ·rw [if_neg h1] at h ⊢
  by_cases h2:c=110
  ·rw [if_pos h2] at h ⊢
   simp only [Bool.and_eq_true,decide_eq_true_eq] at h
   exact h
  ·rw [if_neg h2] at h ⊢
   simp only [Bool.and_eq_true,decide_eq_true_eq] at h
   exact h
theorem shape_get {A B:List Tr} (h:A.map ks2=B.map ks2) {k:Nat} (hk:k<B.length):ks2 (A.getD k tr0)=ks2 (B.getD k tr0):=by
 have hl:A.length=B.length:=by have:=congrArg List.length h;simpa using this
 have h1:(A.map ks2)[k]?=(B.map ks2)[k]?:=by rw [h]
 rw [List.getElem?_map,List.getElem?_map,List.getElem?_eq_getElem hk,List.getElem?_eq_getElem (by omega)] at h1
 rw [List.getD_eq_getElem?_getD,List.getD_eq_getElem?_getD,List.getElem?_eq_getElem hk,List.getElem?_eq_getElem (by omega)]
 exact Option.some.inj h1
theorem fits_valid {k:Ke} (ok:OkS k) {s:ByteArray} {C:List Tr} (h:fitsR k.2.2.1 k.2.2.2.1 k.2.2.2.2.1 s C=true):∀ t∈C,vT t=true:=by
 intro t ht
 unfold fitsR shpR at h
 simp only [Bool.and_eq_true,decide_eq_true_eq,List.all_eq_true,List.mem_range] at h
 obtain ⟨⟨-,hsh⟩,hall⟩:=h
 obtain ⟨j,hj,rfl⟩:=List.getElem_of_mem ht
 have hl:k.2.2.2.1.length=C.length:=by have:=congrArg List.length hsh;simpa using this
 have hg:=shape_get hsh hj
 have hC:C.getD j tr0=C[j]:=by rw [List.getD_eq_getElem?_getD,List.getElem?_eq_getElem hj];rfl
 have hL:k.2.2.2.1.getD j tr0=k.2.2.2.1[j]'(by omega):=by rw [List.getD_eq_getElem?_getD,List.getElem?_eq_getElem (by omega)];rfl
 have hv:=(code_split ok.code).2.2 _ (List.getElem_mem (l:=k.2.2.2.1) (n:=j) (by omega))
 have hf:=hall j hj
 have hr:=ok.rng
 unfold rngB at hr
 have hr:=List.all_eq_true.1 hr j (List.mem_range.2 (by omega))
 rw [hC,hL] at hg
 rw [hL] at hr
 have hkd:(k.2.2.2.1[j]'(by omega)).1=C[j].1:=congrArg (fun q:Int×Int=>q.1) hg
 unfold fitT at hf
 rw [hC,hL] at hf
 refine vT_of hg hv ?_
 have hvr:=vT_rng hv
 rw [hkd] at hvr hr
 by_cases hz:letR k.2.2.2.2.1 k.2.2.2.1 j=0
 ·rw [if_pos hz,decide_eq_true_eq] at hf
  rw [hf] at hvr
  exact hvr
 ·rw [if_neg hz] at hf
  have hw:=with_rng hf
  simp only [Bool.or_eq_true,beq_iff_eq,Bool.and_eq_true,decide_eq_true_eq] at hr
  rcases hr with hr | hr
  ·exact absurd hr hz
  ·omega
theorem wrap_valid {v:Int} (hv:v=256∨v=65536∨v=0) {t:Tr} (h:vT (wrapT v t)=true):vT t=true:=by
 unfold wrapT at h
 by_cases hc:t.1=6∧-(v / 2)≤t.2.2∧t.2.2<0
 ·rw [if_pos hc] at h
  obtain ⟨k,r,n⟩:=t
  simp only at hc
  obtain ⟨rfl,h1,h2⟩:=hc
  refine vT_of (a:=(6,r,n+v)) rfl h ?_
  have e1:loK (6:Int).toNat=-32768:=rfl
  have e2:hiK (6:Int).toNat=65535:=rfl
  simp only [e1,e2]
  omega
 ·rw [if_neg hc] at h
  exact h
theorem ex_mem {c:Nat} {L:List Tr} {t:Tr} (h:t∈L):t∈exL c L:=by
 unfold exL
 split
 ·rename_i hc
  obtain ⟨-,rfl⟩:=hc
  simp only [List.mem_cons,List.not_mem_nil,or_false] at h ⊢
  exact h.symm
 ·exact h
theorem acc_valid {c:Nat} {L:List Tr} (h:∀ t∈accL c L,vT t=true):∀ t∈L,vT t=true:=by
 intro t ht
 unfold accL at h
 by_cases h1:c=1∧L.length=2∧L.head?=some accT
 ·rw [if_pos h1] at h
  cases L with
  | nil=>cases ht
  | cons a L=>
   obtain ⟨-,-,e⟩:=h1
   obtain rfl:a=accT:=Option.some.inj e
   rcases List.mem_cons.1 ht with rfl | ht
   ·decide +kernel
   ·exact h t ht
 ·rw [if_neg h1] at h
  by_cases h2:c=2∧L.length=1
  ·rw [if_pos h2] at h
   exact h t (List.mem_cons_of_mem _ ht)
  ·rw [if_neg h2] at h
   exact h t ht
theorem acc_short {c:Nat} {L:List Tr} (h:(accL c L).length≤3):L.length≤3:=by
 unfold accL at h
 by_cases h1:c=1∧L.length=2∧L.head?=some accT
 ·omega
 ·rw [if_neg h1] at h
  by_cases h2:c=2∧L.length=1
  ·omega
  ·rw [if_neg h2] at h
   exact h
theorem can_valid {c:Nat} {L:List Tr} (h:∀ t∈canL c L,vT t=true):∀ t∈L,vT t=true:=by
 refine acc_valid (c:=c) fun t ht=>?_
 have h1:=h (wrapT (valW (widL c L)) t) (by unfold canL;exact List.mem_map_of_mem (ex_mem ht))
 exact wrap_valid (valW_cases _) h1
theorem can_code {s:ByteArray} {I:List Tr} (hs:knB s=true) (hl:(canL (opc s) I).length≤3) (h:∀ t∈canL (opc s) I,vT t=true):codeI s I=0:=by
 have h3:I.length≤3:=acc_short (c:=opc s) (by unfold canL at hl;rw [List.length_map,exL_len] at hl;exact hl)
 unfold codeI
 rw [if_neg (by simp [hs]),if_neg (by omega),if_pos (List.all_eq_true.2 (can_valid h))]
theorem fst_shape {A B:List Tr} (h:A.map ks2=B.map ks2):A.any fstB=B.any fstB:=by
 have e:∀ L:List Tr,L.any fstB=(L.map ks2).any fun q=>fstB (q.1,q.2,0):=fun L=>by rw [List.any_map];rfl
 rw [e,e,h]
theorem ix_shape {A B:List Tr} (h:A.map ks2=B.map ks2):ixL2 A=ixL2 B:=by
 have e:∀ L:List Tr,ixL2 L=(L.map ks2).foldl (fun a q=>max a (ixT (q.1,q.2,0))) 0:=fun L=>by rw [List.foldl_map];rfl
 rw [e,e,h]
theorem ix_valid:∀ (L:List Tr) (a:Int),(∀ t∈L,vT t=true)→L.foldl (fun a t=>max a (idxI t.1 t.2.1 t.2.2)) a=L.foldl (fun a t=>max a (ixT t)) a
 | [],_,_=>rfl
 | t :: L,a,h=>by
  rw [List.foldl_cons,List.foldl_cons,ixT_idx (h t (List.mem_cons_self ..))]
  exact ix_valid L _ fun u hu=>h u (List.mem_cons_of_mem _ hu)
theorem ixC_eq {C:List Tr} (h:∀ t∈C,vT t=true):ixC C=ixL2 C:=by
 unfold ixC ixF ixL2
 rw [List.take_length]
 exact ix_valid C 0 h
theorem sT_sB (m:Str):sT (sB m)=m:=by unfold sT sB;simp
theorem legB_iff (s:ByteArray) (I:List Tr):legB s I=true↔RLeg s I (canL (opc s) I):=by
 obtain ⟨C,hC⟩:∃ z,canL (opc s) I=z:=⟨_,rfl⟩
 constructor
 ·intro h
  unfold legB at h
  rw [hC] at h ⊢
  obtain ⟨k,hk⟩:=Option.isSome_iff_exists.1 h
  unfold findK candN at hk
  have h1:=List.find?_some hk
  have h2:=List.mem_of_find?_eq_some hk
  obtain ⟨h2,h3⟩:=List.mem_filter.1 h2
  obtain ⟨hin,hm,hsh,hpg⟩:=cand_in h2
  have ok:=hin.ok
  have hf:fitsR k.2.2.1 k.2.2.2.1 k.2.2.2.2.1 s C=true:=by
   unfold hasK at h1
   rw [has_fits ok.places,sB_sT] at h1
   exact h1
  have hv:=fits_valid ok hf
  have hl:k.2.2.2.1.length=C.length:=by have:=congrArg List.length hsh;simpa using this
  have hlen:=ok.len
  have hkn:knB s=true:=by
   have:=(code_split ok.code).1
   rw [hm,sB_sT] at this
   exact this
  have hcode:codeI s I=0:=can_code hkn (by rw [hC];omega) (by rw [hC];exact hv)
  have hal:k.2.2.2.2.2=false:=by unfold notAl at h3;simpa using h3
  have hfst:=ok.fst
  rw [fst_shape hsh] at hfst
  have hlo:=ok.lo
  have hhi:=ok.hi
  obtain ⟨n,hn,hn2,hr⟩:=hin
  refine ⟨hcode,k.1,n,?_,?_,hn,(k.2.2.1,k.2.2.2.1,k.2.2.2.2.1,k.2.2.2.2.2),hr,hal,hf⟩
  ·unfold fstI
   rw [hfst]
   by_cases h:3≤k.1
   ·simp [h]
   ·simp [h];omega
  ·unfold lstI
   rw [hfst]
   by_cases h:3≤k.1
   ·simp [h];omega
   ·simp [h];omega
 ·rintro ⟨hcode,page,n,-,-,hn,x,hr,hal,hf⟩
  have hin:InTab (page,(n:Int),x.1,x.2.1,x.2.2.1,x.2.2.2):=⟨n,hn,rfl,hr⟩
  have ok:=hin.ok
  have hcv:=code_split (can_check hcode)
  rw [hC] at hcv hf
  have hsf:=hf
  unfold fitsR shpR at hsf
  simp only [Bool.and_eq_true,decide_eq_true_eq] at hsf
  obtain ⟨⟨hm,hsh⟩,-⟩:=hsf
  have hix:=ok.ix
  rw [ix_shape hsh,← ixC_eq hcv.2.2] at hix
  have hlo:=ok.lo
  have hhi:=ok.hi
  simp only at hix hlo hhi
  have hpg:page∈pagesC C:=by
   unfold pagesC
   rw [hix]
   unfold pgIx
   have hp:page=0∨page=1∨page=2∨page=3∨page=4∨page=5∨page=6:=by omega
   rcases hp with rfl | rfl | rfl | rfl | rfl | rfl | rfl <;> decide
  have hmem:(page,(n:Int),x.1,x.2.1,x.2.2.1,x.2.2.2)∈candK (sT s) C:=in_cand hin (by rw [← hm,sT_sB]) hsh hpg
  unfold legB findK candN
  rw [hC,List.find?_isSome]
  refine ⟨_,List.mem_filter.2 ⟨hmem,by unfold notAl;simp [hal]⟩,?_⟩
  unfold hasK
  rw [has_fits ok.places,sB_sT]
  exact hf
end Go.Proofs.YtajlleeonddinaaGreatDoor
namespace Go.Proofs.YtajlleeonddinaaGreatDoor
open Go.RowKit
def kdT (k:Int) (t:Tr):Bool:=decide (t.1=k)
def mJR:Str:=[74,82]
def mDJ:Str:=[68,74,78,90]
def mJP:Str:=[74,80]
def mCA:Str:=[67,65,76,76]
def mRS:Str:=[82,83,84]
def mRE:Str:=[82,69,84]
def flB (m:Str) (L:List Tr):Bool:=
 (!L.any (kdT 8)||m == mJR||m == mJP||m == mCA||m == mRE)&&(!(m == mJR||m == mDJ)||(L.any (kdT 10)&&!L.any (kdT 6))) &&
 (!(m == mJP)||(!L.any (kdT 10)&&(L.any (kdT 6) == !L.any (kdT 4))))&&(!(m == mCA||m == mRS)||(L.any (kdT 6)&&!L.any (kdT 10)))
def flN (g n:Nat):Bool:=match ratT (g:Int) n with
 | some x=>flB x.1 x.2.1
 | none=>true
theorem fl_k:∀ g:Fin 7,∀ n:Fin 256,flN g.val n.val=true:=by decide +kernel
structure FlOk (s:ByteArray) (C:List Tr):Prop where
 cond:C.any (kdT 8)=true→s=opJR∨s=opJP∨s=opCA∨s=opRE
 jr:s=opJR∨s=opDJ→C.any (kdT 10)=true∧C.any (kdT 6)=false
 jp:s=opJP→C.any (kdT 10)=false∧C.any (kdT 6)=!C.any (kdT 4)
 ca:s=opCA∨s=opRS→C.any (kdT 6)=true∧C.any (kdT 10)=false
 imm:∀ t∈C,t.1=6→0≤t.2.2∧t.2.2≤65535
 rel:∀ t∈C,t.1=10→-128≤t.2.2∧t.2.2≤127
theorem any_shape {A B:List Tr} (h:A.map ks2=B.map ks2) (k:Int):A.any (kdT k)=B.any (kdT k):=by
 have e:∀ L:List Tr,L.any (kdT k)=(L.map ks2).any fun q=>decide (q.1=k):=fun L=>by rw [List.any_map];rfl
 rw [e,e,h]
theorem fits_imm {m ex:Str} {L C:List Tr} (hc:canB m L ex=true) {s:ByteArray} (h:fitsR m L ex s C=true):∀ t∈C,t.1=6→0≤t.2.2:=by
 unfold fitsR shpR at h
 simp only [Bool.and_eq_true,decide_eq_true_eq,List.all_eq_true,List.mem_range] at h
 obtain ⟨⟨rfl,hsh⟩,hall⟩:=h
 have hlen:=len_of_shape hsh
 unfold canB at hc
 simp only [Bool.and_eq_true,List.all_eq_true,List.mem_range] at hc
 obtain ⟨-,c4⟩:=hc
 intro t ht h6
 obtain ⟨k,hk,rfl⟩:=List.getElem_of_mem ht
 have hkL:k<L.length:=by omega
 have hf:=hall k hk
 have h4:=c4 k hkL
 have hg:=(get_of_shape hsh k hkL).1
 have hC:C.getD k tr0=C[k]:=by rw [List.getD_eq_getElem?_getD,List.getElem?_eq_getElem hk];rfl
 rw [hC] at hf hg
 simp only [Bool.or_eq_true,bne_iff_ne] at h4
 rcases h4 with h4 | h4
 ·exact absurd (hg.trans h6) h4
 ·unfold fitT at hf
  by_cases hz:letR ex L k=0
  ·rw [if_pos hz,decide_eq_true_eq] at hf
   rw [if_pos hz,decide_eq_true_eq] at h4
   omega
  ·rw [if_neg hz,withR_range,Bool.and_eq_true,decide_eq_true_eq] at hf
   rw [if_neg hz,decide_eq_true_eq] at h4
   omega
theorem sB_op {m n:Str} {s:ByteArray} (h:sB m=s) (e:s=sB n):m=n:=by rw [← sT_sB m,h,e,sT_sB]
theorem RLeg.fl {s:ByteArray} {I C:List Tr} (h:RLeg s I C):FlOk s C:=by
 obtain ⟨-,page,n,-,-,hn,x,hr,-,hf⟩:=h
 have hin:InTab (page,(n:Int),x.1,x.2.1,x.2.2.1,x.2.2.2):=⟨n,hn,rfl,hr⟩
 have ok:=hin.ok
 have hv:=fits_valid ok hf
 have him:=fits_imm ok.can hf
 have hsf:=hf
 unfold fitsR shpR at hsf
 simp only [Bool.and_eq_true,decide_eq_true_eq] at hsf
 obtain ⟨⟨hm,hsh⟩,-⟩:=hsf
 have hp:0≤page∧page≤6:=⟨ok.lo,ok.hi⟩
 obtain ⟨g,rfl⟩:∃ g:Nat,page=(g:Int):=⟨page.toNat,by omega⟩
 have h1:=fl_k ⟨g,by omega⟩ ⟨n,hn⟩
 unfold flN at h1
 rw [hr] at h1
 have h1:flB x.1 x.2.1=true:=h1
 unfold flB at h1
 rw [any_shape hsh 8,any_shape hsh 10,any_shape hsh 6,any_shape hsh 4] at h1
 simp only [Bool.and_eq_true,Bool.or_eq_true,Bool.not_eq_true',beq_iff_eq] at h1
 obtain ⟨⟨⟨a1,a2⟩,a3⟩,a4⟩:=h1
 have E:∀ n:Str,s=sB n→x.1=n:=fun n e=>sB_op hm e
 refine ⟨fun q=>?_,fun q=>?_,fun q=>?_,fun q=>?_,fun t ht h6=>⟨him t ht h6,?_⟩,fun t ht h10=>?_⟩
 ·rcases a1 with (((e | e) | e) | e) | e
  ·rw [q] at e;cases e
  ·exact .inl (by rw [← hm,e];rfl)
  ·exact .inr (.inl (by rw [← hm,e];rfl))
  ·exact .inr (.inr (.inl (by rw [← hm,e];rfl)))
  ·exact .inr (.inr (.inr (by rw [← hm,e];rfl)))
 ·rcases a2 with e | e
  ·rcases q with q | q
   ·rw [E mJR q] at e;exact absurd e (by decide)
   ·rw [E mDJ q] at e;exact absurd e (by decide)
  ·exact e
 ·rcases a3 with e | e
  ·rw [E mJP q] at e;exact absurd e (by decide)
  ·exact e
 ·rcases a4 with e | e
  ·rcases q with q | q
   ·rw [E mCA q] at e;exact absurd e (by decide)
   ·rw [E mRS q] at e;exact absurd e (by decide)
  ·exact e
 ·have:=(vT_rng (hv t ht)).2
  rw [h6] at this
  exact this
 ·have:=vT_rng (hv t ht)
  rw [h10] at this
  exact this
def kndP (s:ByteArray) (C:List Tr):Int:=
 if s=opJR∨s=opDJ then 1 else if s=opCA∨s=opRS then 2 else if s=opRE∨s=opRI∨s=opRN then 3 else if s=opHA then 4 else if s=opJP then (if C.any (kdT 4)=true then 4 else 1) else 0
def smP (s:ByteArray) (C:List Tr):Bool:=decide (s=opDJ)||C.any (kdT 8)
def plnB (s:ByteArray) (I:List Tr):Bool:=decide (kndP s (canL (opc s) I)=0)||!legB s I
def tg1 (a:Int) (t:Tr):Int:=if t.1=6 then t.2.2 else (a+2+t.2.2) % 65536
def tgL (a:Int) (C:List Tr):Int:=match C.find? (fun t=>kdT 6 t||kdT 10 t) with
 | some t=>tg1 a t
 | none=>-1
def tgP (k a:Int) (C:List Tr):Int:=if (k=1∨k=2)∧0≤a∧a≤65535 then tgL a C else -1
theorem find_or6 {p q:Tr→Bool}:∀ {C:List Tr},C.any q=false→C.find? (fun t=>p t||q t)=C.find? p
 | [],_=>rfl
 | t :: C,h=>by
  rw [List.any_cons,Bool.or_eq_false_iff] at h
  rw [List.find?_cons,List.find?_cons,h.1,Bool.or_false,find_or6 h.2]
theorem any_find {p:Tr→Bool} {C:List Tr}:(C.find? p).isSome=C.any p:=by
 induction C with
 | nil=>rfl
 | cons t C ih=>
  rw [List.find?_cons,List.any_cons,← ih]
  cases p t <;> rfl
theorem kd_same (s:ByteArray) (I:List Tr):(if plnB s I=true then 0 else kndP s (canL (opc s) I))=kdF s I:=by
 unfold plnB
 by_cases hl:legB s I=true
 ·have hR:=(legB_iff s I).1 hl
  have hf:=hR.fl
  have e:(if (decide (kndP s (canL (opc s) I)=0)||!legB s I)=true then 0 else kndP s (canL (opc s) I))=kndP s (canL (opc s) I):=by
   rw [hl]
   by_cases h:kndP s (canL (opc s) I)=0
   ·rw [h];rfl
   ·rw [decide_eq_false h];rfl
  rw [e]
  unfold kdF kndP
  rw [if_neg (not_not_intro hR)]
  by_cases h1:s=opJR∨s=opDJ
  ·rw [if_pos h1,if_pos h1]
  rw [if_neg h1,if_neg h1]
  by_cases h2:s=opJP
  ·have n2:¬(s=opCA∨s=opRS):=by rw [h2];decide
   have n3:¬(s=opRE∨s=opRI∨s=opRN):=by rw [h2];decide
   have n4:¬s=opHA:=by rw [h2];decide
   rw [if_neg n2,if_neg n3,if_neg n4,if_pos h2,if_pos h2]
   have h3:=(hf.jp h2).2
   have h4:(argF s I 6).isSome=(canL (opc s) I).any (kdT 6):=by
    unfold argF
    rw [if_pos hR]
    exact any_find
   rw [h4,h3]
   cases (canL (opc s) I).any (kdT 4) <;> rfl
  ·simp only [if_neg h2]
 ·have hl2:legB s I=false:=by simpa using hl
  have hR:¬RLeg s I (canL (opc s) I):=fun h=>hl ((legB_iff s I).2 h)
  rw [hl2]
  unfold kdF
  rw [if_pos hR,if_pos (by simp)]
theorem smF_iff (s:ByteArray) (I:List Tr):smF s I=true↔RLeg s I (canL (opc s) I)∧((argF s I 8).isSome=true∨s=opDJ):=by
 unfold smF
 exact @decide_eq_true_iff _ (_)
theorem kn_cond (C:List Tr):∀ z:ByteArray,(z=opJR∨z=opDJ∨z=opJP∨z=opCA∨z=opRE)→kndP z C≠0:=by
 rintro z (rfl | rfl | rfl | rfl | rfl)
 ·exact (by decide:(1:Int)≠0)
 ·exact (by decide:(1:Int)≠0)
 ·show (if C.any (kdT 4)=true then (4:Int) else 1)≠0
  split <;> decide
 ·exact (by decide:(2:Int)≠0)
 ·exact (by decide:(3:Int)≠0)
theorem sm_same (s:ByteArray) (I:List Tr):(!plnB s I&&smP s (canL (opc s) I))=smF s I:=by
 rw [Bool.eq_iff_iff,smF_iff]
 unfold plnB smP
 by_cases hl:legB s I=true
 ·have hR:=(legB_iff s I).1 hl
  have hf:=hR.fl
  have h8:(argF s I 8).isSome=(canL (opc s) I).any (kdT 8):=by
   unfold argF
   rw [if_pos hR]
   exact any_find
  rw [hl,h8]
  have hz:(canL (opc s) I).any (kdT 8)=true∨s=opDJ→kndP s (canL (opc s) I)≠0:=by
   rintro (h | h)
   ·refine kn_cond _ s ?_
    rcases hf.cond h with e | e | e | e
    ·exact .inl e
    ·exact .inr (.inr (.inl e))
    ·exact .inr (.inr (.inr (.inl e)))
    ·exact .inr (.inr (.inr (.inr e)))
   ·exact kn_cond _ s (.inr (.inl h))
  simp only [Bool.and_eq_true,Bool.or_eq_true,decide_eq_true_eq,Bool.not_eq_true',Bool.or_eq_false_iff,decide_eq_false_iff_not,Bool.not_true]
  constructor
  ·rintro ⟨-,h⟩
   exact ⟨hR,h.symm⟩
  ·rintro ⟨-,h⟩
   exact ⟨⟨hz h,trivial⟩,h.symm⟩
 ·have hl2:legB s I=false:=by simpa using hl
  have hR:¬RLeg s I (canL (opc s) I):=fun h=>hl ((legB_iff s I).2 h)
  rw [hl2]
  constructor
  ·intro h
   simp at h
  ·rintro ⟨h,-⟩
   exact absurd h hR
theorem tg_same (a:Int) (s:ByteArray) (I:List Tr):tgP (if plnB s I=true then 0 else kndP s (canL (opc s) I)) a (canL (opc s) I)=tgF a s I:=by
 rw [kd_same]
 unfold tgP tgF
 by_cases ha:0≤a∧a≤65535
 ·by_cases hk:kdF s I=1∨kdF s I=2
  ·rw [if_pos ⟨hk,ha⟩,if_neg (by omega)]
   have hR:RLeg s I (canL (opc s) I):=Classical.byContradiction fun h=>by
    have:kdF s I=0:=if_pos h
    omega
   have hf:=hR.fl
   have a6:argF s I 6=(canL (opc s) I).find? (kdT 6):=by
    unfold argF
    rw [if_pos hR]
    rfl
   have a10:argF s I 10=(canL (opc s) I).find? (kdT 10):=by
    unfold argF
    rw [if_pos hR]
    rfl
   rw [a6,a10]
   unfold tgL
   -- which mnemonic it is
   have hs:(s=opJR∨s=opDJ)∨(s=opJP∧(canL (opc s) I).any (kdT 6)=true)∨s=opCA∨s=opRS:=by
    refine Classical.byContradiction fun hn=>?_
    have n1:¬(s=opJR∨s=opDJ):=fun h=>hn (.inl h)
    have n2:¬(s=opCA∨s=opRS):=fun h=>hn (.inr (.inr h))
    unfold kdF at hk
    rw [if_neg (not_not_intro hR),if_neg n1] at hk
    by_cases h2:s=opJP
    ·rw [if_pos h2,a6,any_find] at hk
     by_cases h6:(canL (opc s) I).any (kdT 6)=true
     ·exact hn (.inr (.inl ⟨h2,h6⟩))
     ·rw [if_neg h6] at hk
      omega
    ·rw [if_neg h2,if_neg n2] at hk
     split at hk
     ·omega
     ·split at hk <;> omega
   rcases hs with h1 | ⟨h1,h6⟩ | h1
   ·obtain ⟨i10,i6⟩:=hf.jr h1
    have e1:(canL (opc s) I).find? (fun t=>kdT 6 t||kdT 10 t)=(canL (opc s) I).find? (fun t=>kdT 10 t||kdT 6 t):=by
     congr 1
     funext t
     exact Bool.or_comm _ _
    rw [e1,find_or6 i6]
    cases hx:(canL (opc s) I).find? (kdT 10) with
    | none=>
     rw [← any_find,hx] at i10
     cases i10
    | some t=>
     have ht:=List.mem_of_find?_eq_some hx
     have hk10:t.1=10:=by have:=List.find?_some hx;unfold kdT at this;simpa using this
     have hr:=hf.rel t ht hk10
     show tg1 a t=(a+2+t.2.2+65536) % 65536
     unfold tg1
     rw [if_neg (by omega)]
     omega
   ·have h10:=(hf.jp h1).1
    rw [find_or6 h10]
    cases hx:(canL (opc s) I).find? (kdT 6) with
    | none=>
     rw [← any_find,hx] at h6
     cases h6
    | some t=>
     have hk6:t.1=6:=by have:=List.find?_some hx;unfold kdT at this;simpa using this
     have e10:(canL (opc s) I).find? (kdT 10)=none:=by
      have:=any_find (p:=kdT 10) (C:=canL (opc s) I)
      rw [h10] at this
      simpa using this
     rw [e10]
     show tg1 a t=t.2.2
     unfold tg1
     rw [if_pos hk6]
   ·obtain ⟨h6,h10⟩:=hf.ca h1
    rw [find_or6 h10]
    cases hx:(canL (opc s) I).find? (kdT 6) with
    | none=>
     rw [← any_find,hx] at h6
     cases h6
    | some t=>
     have hk6:t.1=6:=by have:=List.find?_some hx;unfold kdT at this;simpa using this
     have e10:(canL (opc s) I).find? (kdT 10)=none:=by
      have:=any_find (p:=kdT 10) (C:=canL (opc s) I)
      rw [h10] at this
      simpa using this
     rw [e10]
     show tg1 a t=t.2.2
     unfold tg1
     rw [if_pos hk6]
  ·rw [if_neg (fun h=>hk h.1),if_pos (.inr (.inr ⟨fun h=>hk (.inl h),fun h=>hk (.inr h)⟩))]
 ·rw [if_neg (fun h=>ha h.2),if_pos (by omega)]
end Go.Proofs.YtajlleeonddinaaGreatDoor
namespace Go.Mixed
open Go
section
variable {P:Program} {ops:Array Oper}
theorem mp {C:World→Prop} {T:Act→World→Prop} {k:Nat} {r:List (Nat×Bool)} {a:Act} {w:World} {o:Oper} (ho:ops[k]?=some o) (v:Value)
  (h:wpMix P ops C T r (a.put o.dst v) w) (hw:Region.wanted o (yielded ops a.tmps)=true:=by kernel_rfl)
  (hv:∀ w,C w→(execOp a.eval o).run P w=.ok (.value v) w:=by intro w h;first | (clear h;go_simp;done) | (clear h;go_simp;rfl) | (go_simp;done) | (go_simp;rfl)):wpMix P ops C T ((k,true) :: r) a w:=wpMix_pure ho hw v hv h
theorem mo {C:World→Prop} {T:Act→World→Prop} {k:Nat} {r:List (Nat×Bool)} {a:Act} {w:World} {o:Oper} (ho:ops[k]?=some o) (v:Value)
  (hv:∀ w,C w→(execOp a.eval o).run P w=.ok (.value v) w) (h:wpMix P ops C T r (a.put o.dst v) w) (hw:Region.wanted o (yielded ops a.tmps)=true:=by kernel_rfl):wpMix P ops C T ((k,true) :: r) a w:=wpMix_pure ho hw v hv h
end
end Go.Mixed
