/-
  search.Find: what it finds.
-/
import Derived.Test.YtmnleknehjkmgaaGreatDoorMSeL
import Derived.Test.YtmnleknehjkmgaaGreatDoorMSeH
import Derived.Test.YtmnleknehjkmgaaGreatDoorMSeN
import Derived.Test.YtmnleknehjkmgaaGreatDoorGAX
import Derived.Test.YtmnleknehjkmgaaGreatDoorGAE
import Derived.Laws.CopyOwn
import Derived.Laws.Tables
set_option linter.all false
set_option maxRecDepth 100000
set_option maxHeartbeats 4000000
namespace Go.Proofs.YtmnleknehjkmgaaGreatDoor
open Go.RowKit Go.Shelf
attribute [local go_sem] Oper.semAt_some
attribute [local irreducible] Go.Mixed.wpMix
def hasK (op:Str) (C:List Tr) (k:Ke):Bool:=hasV k.2.2.1 k.2.2.2.1 k.2.2.2.2.1 (sB op) C
def notAl (k:Ke):Bool:=!k.2.2.2.2.2
def candN (op:Str) (C:List Tr):List Ke:=(candK op C).filter notAl
def findK (op:Str) (C:List Tr):Option Ke:=(candN op C).find? (hasK op C)
def codeF (op:Str) (I:List Tr) (C:List Tr):Int:=if codeI (sB op) I≠0 then codeI (sB op) I else if (candN op C).isEmpty then 11 else 2
def RetSrch (w:World) (op:Str) (I:List Tr) (o:Option Ke) (e:Ending) (w':World):Prop:=match o with
 | some k=>∃ A cap,e=.returned (.tuple #[enV k.1 k.2.1 k.2.2.1 (.slice A k.2.2.2.1.length cap) k.2.2.2.2.1 k.2.2.2.2.2,.int .i64 0])∧OpsP w' A k.2.2.2.1∧Below w.heap.size w w'
 | none=>e=.returned (.tuple #[enV 0 0 [] (.slice none 0 0) [] false,.int .i64 (codeF op I (canL (opc (sB op)) I))])∧Below w.heap.size w w'
theorem cand_in {op:Str} {C:List Tr} {k:Ke} (h:k∈candK op C):InTab k∧k.2.2.1=op∧k.2.2.2.1.map ks2=C.map ks2∧k.1∈pagesC C:=by
 unfold candK candP at h
 obtain ⟨h1,h2⟩:=List.mem_filter.1 h
 unfold keysAll at h1
 obtain ⟨p,hp,h1⟩:=List.mem_flatMap.1 h1
 rw [keysPg_named] at h1
 obtain ⟨h3,h4⟩:=List.mem_filter.1 h1
 obtain ⟨e,h5⟩:=ents_in p 256 (Nat.le_refl _) k h3
 exact ⟨h5,of_decide_eq_true h4,of_decide_eq_true h2,e ▸ hp⟩
theorem find_at {op:Str} {C:List Tr} {pre:List Ke} {x:Ke} (h:pre++[x] <+: candK op C) (hp:∀ y∈pre,notAl y=true→hasK op C y=false) (hx:notAl x=true) (hh:hasK op C x=true):findK op C=some x:=by
 obtain ⟨t,ht⟩:=h
 unfold findK candN
 rw [← ht,List.filter_append,List.filter_append,List.find?_append,List.find?_append]
 have h1:(pre.filter notAl).find? (hasK op C)=none:=by
  rw [List.find?_eq_none]
  intro y hy
  obtain ⟨h1,h2⟩:=List.mem_filter.1 hy
  rw [hp y h1 h2]
  decide
 rw [h1]
 simp [hx,hh]
theorem find_none_of {op:Str} {C:List Tr} (hp:∀ y∈candK op C,notAl y=true→hasK op C y=false):findK op C=none:=by
 unfold findK candN
 rw [List.find?_eq_none]
 intro y hy
 obtain ⟨h1,h2⟩:=List.mem_filter.1 hy
 rw [hp y h1 h2]
 decide
def cdF (pre:List Ke):Int:=if (pre.filter notAl).isEmpty then 11 else 2
theorem cdF_alias (pre:List Ke) (x:Ke) (h:notAl x=false):cdF (pre++[x])=cdF pre:=by
 unfold cdF
 rw [List.filter_append,List.filter_cons_of_neg (by rw [h];decide),List.filter_nil,List.append_nil]
theorem cdF_two (pre:List Ke) (x:Ke) (h:notAl x=true):cdF (pre++[x])=2:=by
 unfold cdF
 rw [List.filter_append]
 simp [h]
theorem grow_row {A B C:World} {cb N:Nat} {row:Option Nat} (h:A.grownBy B (some cb)) (k:B.grownBy C row) (hN:N=A.heap.size) (hr:∀ r,row=some r→N≤r):A.grownBy C (some cb):=
 ⟨k.os.trans h.os,k.tape.trans h.tape,k.output.trans h.output,Nat.le_trans h.size k.size,fun i hi hne=>(k.block i (Nat.lt_of_lt_of_le hi h.size) (fun e=>by have:=hr i e.symm;omega)).trans (h.block i hi hne)⟩
theorem keepC_grown {A B:World} {cb:Nat} (h:A.grownBy B (some cb)):KeepC cb A B:=⟨h.size,fun k o hk ho _=>(h.block k (Array.getElem?_eq_some_iff.1 ho).1 (fun e=>hk (Option.some.inj e))).trans ho⟩
theorem ops_grown {W W':World} {A:Option Addr} {L:List Tr} {row:Option Nat} (h:OpsP W A L) (hg:W.grownBy W' row) (hr:∀ r,row=some r→∃ o:Obj,W.heap[r]?=some o∧o.isCells=false):OpsP W' A L:=by
 rcases h with rfl | ⟨b,off,rfl,hc⟩
 ·exact .inl rfl
 ·refine .inr ⟨b,off,rfl,fun j hj=>?_⟩
  have e:∀ p v,W.cell? ⟨b,p,none⟩=some v→W'.cell? ⟨b,p,none⟩=some v:=fun p v hp=>by
   obtain ⟨o,ho,hcl⟩:=cells_of_cell hp
   exact (World.cell?_of_block (a:=⟨b,p,none⟩) (grownBy_keeps_cells hg hr ho hcl)).trans hp
  obtain ⟨h1,h2,h3⟩:=hc j hj
  exact ⟨e _ _ h1,e _ _ h2,e _ _ h3⟩
theorem en_not_ops {W:World} {c off:Nat} {t:Tr} {a0 a1:Value} {m ex:ByteArray} {A:Option Addr} {n cap:Nat} {T:TypeId} (h:W.cell? ⟨c,off+0*3,none⟩=some (.int .i64 t.1)∧W.cell? ⟨c,off+0*3+1,none⟩=some (.int .i64 t.2.1)∧W.cell? ⟨c,off+0*3+2,none⟩=some (.int .i64 t.2.2))
  (hc:W.heap[c]?=some (.cells #[a0,a1,.string m,.slice A n cap,.string ex,.bool false] T (0,0))):False:=by
 obtain ⟨h1,h2,h3⟩:=h
 rw [Lib.cell_of_heap hc] at h1 h2 h3
 have h9:=(Array.getElem?_eq_some_iff.1 h3).1
 have:off=0∨off=1∨off=2∨off=3:=by simp at h9;omega
 rcases this with rfl | rfl | rfl | rfl
 all_goals first | (cases h1;done) | (cases h2;done) | (cases h3;done)
theorem box_not_ops {W:World} {c off:Nat} {t:Tr} {T:TypeId} {v:Value} (h:W.cell? ⟨c,off+0*3,none⟩=some (.int .i64 t.1)∧W.cell? ⟨c,off+0*3+1,none⟩=some (.int .i64 t.2.1)∧W.cell? ⟨c,off+0*3+2,none⟩=some (.int .i64 t.2.2))
  (hc:Boxed W c T v):False:=by
 obtain ⟨h1,h2,h3⟩:=h
 rw [Lib.cell_of_heap (show W.heap[c]?=_ from hc)] at h3
 have h9:=(Array.getElem?_eq_some_iff.1 h3).1
 simp at h9
theorem row6 {w:World} {b:Nat} {T:TypeId} {cur:Array Value} (h:w.heap[b]?=some (.cells cur T (0,0))) (cs:Array Value):∃ w',w.setRow b cs=w'∧
  w'.heap[b]?=some (.cells cs T (0,0))∧(∀ k,k≠b→w'.heap[k]?=w.heap[k]?)∧Below b w w'∧w'.heap.size=w.heap.size:=
 ⟨_,rfl,setRow_heap w b cur cs T (0,0) h,fun k hk=>setRow_other w b k cs hk,below_setRow (Below.refl b w) (Nat.le_refl _) cs,by simp⟩
theorem set6 {w:World} {b:Nat} {T:TypeId} {a0 a1 a2 a3 a4 a5:Value} (h:w.heap[b]?=some (.cells #[a0,a1,a2,a3,a4,a5] T (0,0))) (v0 v1 v2 v3 v4 v5:Value):∃ w',(((((w.setCell ⟨b,0,none⟩ v0).setCell ⟨b,1,none⟩ v1).setCell ⟨b,2,none⟩ v2).setCell ⟨b,3,none⟩ v3).setCell ⟨b,4,none⟩ v4).setCell ⟨b,5,none⟩ v5=w'∧
  w'.heap[b]?=some (.cells #[v0,v1,v2,v3,v4,v5] T (0,0))∧(∀ k,k≠b→w'.heap[k]?=w.heap[k]?)∧KeepsOthers w w'∧Below b w w'∧w'.heap.size=w.heap.size:=by
 refine ⟨_,rfl,?_,fun k hk=>?_,?_,?_,by simp⟩
 ·exact heap_setCell_same _ b 5 _ _ v5 (heap_setCell_same _ b 4 _ _ v4 (heap_setCell_same _ b 3 _ _ v3 (heap_setCell_same _ b 2 _ _ v2 (heap_setCell_same _ b 1 _ _ v1 (heap_setCell_same w b 0 _ _ v0 h)))))
 ·exact (heap_setCell_other _ ⟨b,5,none⟩ k _ hk).trans ((heap_setCell_other _ ⟨b,4,none⟩ k _ hk).trans ((heap_setCell_other _ ⟨b,3,none⟩ k _ hk).trans ((heap_setCell_other _ ⟨b,2,none⟩ k _ hk).trans ((heap_setCell_other _ ⟨b,1,none⟩ k _ hk).trans (heap_setCell_other _ ⟨b,0,none⟩ k _ hk)))))
 ·exact (((((KeepsOthers.setCell _ _ _).trans (KeepsOthers.setCell _ _ _)).trans (KeepsOthers.setCell _ _ _)).trans (KeepsOthers.setCell _ _ _)).trans (KeepsOthers.setCell _ _ _)).trans (KeepsOthers.setCell _ _ _)
 ·exact ((((((Below.refl b w).setCell (p:=⟨b,0,none⟩) (Nat.le_refl _) _).setCell (p:=⟨b,1,none⟩) (Nat.le_refl _) _).setCell (p:=⟨b,2,none⟩) (Nat.le_refl _) _).setCell (p:=⟨b,3,none⟩) (Nat.le_refl _) _).setCell (p:=⟨b,4,none⟩) (Nat.le_refl _) _).setCell (p:=⟨b,5,none⟩) (Nat.le_refl _) _
theorem sfind_any (op:Str) (hop:op.length≤1000) (Ai:Option Addr) (capi li:Nat) (I:List Tr) (hli:I.length=li) (hLi:li≤900) (w:World) (hM:MaxAt w) (HF:OpsP w Ai I) :
  Calls Tryz.prog 19 #[.agg #[.string (sB op),.slice Ai li capi]] w (RetSrch w op I (findK op (canL (opc (sB op)) I))):=by
 have hof:=fun w h=>of_any (sB op) Ai capi I (by omega) w h
 rw [hli] at hof
 have hck:=fun w h=>check_any (sB op) Ai capi I (by rw [sB_size];unfold maxLen;omega) (by omega) w h
 rw [hli] at hck
 have hcl:=canL_len (opc (sB op)) I
 obtain ⟨C,hC⟩:∃ C,canL (opc (sB op)) I=C:=⟨_,rfl⟩
 have CF:Hid (canL (opc (sB op)) I=C):=hC
 rw [hC] at hof hcl ⊢
 obtain ⟨lc,hlc⟩:∃ z,C.length=z:=⟨_,rfl⟩
 have hLc:lc≤1000:=by omega
 obtain ⟨w0,hw0⟩:∃ w0,((w.alloc (.cells #[.string (sB op),.slice Ai li capi] 26)).alloc (.cells #[.int .i64 0,.int .u8 0,.string ⟨#[]⟩,.slice none 0 0,.string ⟨#[]⟩,.bool false] 55)).alloc (.cells #[.int .i64 0] 28)=w0:=⟨_,rfl⟩
 obtain ⟨n,hn⟩:∃ n,w.heap.size=n:=⟨_,rfl⟩
 have z0:w0.heap.size=n+1+1+1:=by rw [← hw0,← hn];simp
 have b0:Below n w w0:=by rw [← hw0,← hn];exact (((Below.refl _ w).alloc (Nat.le_refl _) _).alloc (by simp) _).alloc (by simp;omega) _
 have c0:w0.heap[n]?=some (.cells #[.string (sB op),.slice Ai li capi] 26 (0,0)):=by
  rw [← hw0,← hn]
  exact (Below.heap_alloc _ _ _ (by simp;omega)).trans ((Below.heap_alloc _ _ _ (by simp)).trans (World.alloc_heap_new w _))
 have c1:w0.heap[n+1]?=some (.cells #[.int .i64 0,.int .u8 0,.string ⟨#[]⟩,.slice none 0 0,.string ⟨#[]⟩,.bool false] 55 (0,0)):=by
  rw [← hw0,← hn]
  refine (Below.heap_alloc _ _ _ (by simp)).trans ?_
  have h:=World.alloc_heap_new (w.alloc (.cells #[.string (sB op),.slice Ai li capi] 26)) (.cells #[.int .i64 0,.int .u8 0,.string ⟨#[]⟩,.slice none 0 0,.string ⟨#[]⟩,.bool false] 55)
  rwa [World.size_alloc] at h
 have c2:Boxed w0 (n+1+1) 28 (.int .i64 0):=by
  rw [← hw0,← hn]
  have h:=Boxed.new ((w.alloc (.cells #[.string (sB op),.slice Ai li capi] 26)).alloc (.cells #[.int .i64 0,.int .u8 0,.string ⟨#[]⟩,.slice none 0 0,.string ⟨#[]⟩,.bool false] 55)) 28 (.int .i64 0)
  rwa [World.size_alloc,World.size_alloc] at h
 have hb0:Below w.heap.size w w0:=by rw [hn];exact b0
 have of0:=hof w0 (HF.below hb0)
 have hgn:0 < n:=by rw [← hn];exact hM.lt
 have hM0:MaxAt w0:=hM.below hb0
 have k0:=Lib.cell_of_heap c0 0
 have k1:=Lib.cell_of_heap c0 1
 have HI0:=Lib.hid (HF.below hb0)
 refine callsIn_wide.1 (callsIn_of_wp_marks (n:=3) Tryz.func19 rfl trivial ?_ rfl)
 simp only [Tryz.ntmps19,List.size_toArray,List.length_cons,List.length_nil,Nat.reduceAdd,Nat.reduceSub,Array.replicate_succ,Array.replicate_zero,List.push_toArray,List.append_toArray,List.nil_append,List.cons_append]
 refine wpIn_wide.2 ?_
 go_wp2_with fail
 refine of0.mono ?_
 rintro e w1 ⟨v,rfl,hO,hb1⟩
 obtain ⟨Ac,cc,rfl,hPc,-,-⟩:=hO.ops
 rw [hlc]
 obtain ⟨b,hb⟩:∃ b,w1.heap.size=b:=⟨_,rfl⟩
 obtain ⟨w2,hw2⟩:∃ z,(w1.alloc (.cells #[.string (sB op),.slice Ac lc cc] 26)).alloc (.cells #[.int .i64 11] 28)=z:=⟨_,rfl⟩
 have z2:w2.heap.size=b+1+1:=by rw [← hw2,← hb];simp
 have b2:Below b w1 w2:=by rw [← hw2,← hb];exact ((Below.refl _ w1).alloc (Nat.le_refl _) _).alloc (by simp) _
 have hnb:n+3≤b:=by have:=hb1.size;omega
 have d0:w2.heap[b]?=some (.cells #[.string (sB op),.slice Ac lc cc] 26 (0,0)):=by
  rw [← hw2,← hb]
  exact (Below.heap_alloc _ _ _ (by simp)).trans (World.alloc_heap_new w1 _)
 have d1:Boxed w2 (b+1) 28 (.int .i64 11):=by
  rw [← hw2,← hb]
  have h:=Boxed.new (w1.alloc (.cells #[.string (sB op),.slice Ac lc cc] 26)) 28 (.int .i64 11)
  rwa [World.size_alloc] at h
 have hsh:=ofShape_any (sB op) Ac lc cc w2
 rw [z2] at hsh
 have m0:=Lib.cell_of_heap d0 0
 have m1:=Lib.cell_of_heap d0 1
 go_wp2_with fail
 refine hsh.mono ?_
 rintro e W0 ⟨rfl,hW0⟩
 have zW:W0.heap.size=b+1+1+1:=by rw [← hW0];simp;omega
 have bW:Below w2.heap.size w2 W0:=by rw [← hW0];exact (Below.refl _ _).alloc (Nat.le_refl _) _
 have hs:W0.heap[b+1+1]?=some (.cells #[.string (sB op),.slice Ac lc cc] 26 (0,0)):=by
  rw [← hW0,← z2]
  exact World.alloc_heap_new w2 _
 have bA:Below (n+1+1+1) w0 W0:=(hb1.mono (by omega)).trans ((b2.mono (by omega)).trans (bW.mono (by omega)))
 have bB:Below b w1 W0:=b2.trans (bW.mono (by omega))
 have D0:=Lib.hid ((bA.block n (by omega)).trans c0)
 have D1:=Lib.hid ((bA.block (n+1) (by omega)).trans c1)
 have D2:Hid (Boxed W0 (n+1+1) 28 (.int .i64 0)):=(bA.block _ (by omega)).trans c2
 have DF:=Lib.hid ((bW.block b (by omega)).trans d0)
 have DC:Hid (Boxed W0 (b+1) 28 (.int .i64 11)):=(bW.block _ d1.lt).trans d1
 have BN:Hid (Below n w W0):=b0.trans (bA.mono (by omega))
 have MW:Hid (MaxAt W0):=hM0.below (by rw [z0];exact bA)
 have OC:Hid (OpsP W0 Ac C):=hPc.below (by rw [hb];exact bB)
 have OI:Hid (OpsP W0 Ai I):=HI0.out.below (by rw [z0];exact bA)
 have hAc:∀ a,Ac=some a→C≠[]→a.block≠b+1:=fun a ha hne=>by
  rcases hPc with h | ⟨bb,off,e,hc⟩
  ·exact absurd h hne
  ·rw [ha] at e
   obtain rfl:=Option.some.inj e
   have h9:bb<w1.heap.size:=World.block_lt_of_cell? w1 _ (hc 0 (List.length_pos_iff.2 hne)).1
   show bb≠b+1
   omega
 have HAC:=Lib.hid hAc
 have hseq:=shape_tells 2 (b+1+1) (b+1) op Ac cc lc C hlc hLc W0 hs OC.out MW.out (by omega) (by omega) hAc (by omega)
 have HN:=Lib.hid hn
 have HLC:=Lib.hid hlc
 have CK:=Lib.hid hck
 have HB:Hid (n+3≤b):=hnb
 have HE:Hid (∀ (x:Ee) (w':World) (A2:Option Addr),InTab x.k→OpsP w' x.A x.L→OpsP w' Ac C→Calls Tryz.prog 27 #[.agg #[.string (sB op),.slice Ac lc cc],eeV x] w' fun e w''=>e=.returned (.bool (hasK op C x.k))∧Below w'.heap.size w' w''):=fun x w' A2 hin h1 h2=>by
  have h:=hin.ok
  exact hasEntry_any x.g x.o x.m (by have:=h.m;simp only [Ee.k] at this;omega) h.up x.A x.cap x.L.length x.L rfl (by have:=h.len;simp only [Ee.k] at this;omega) x.ex (by have:=h.ex;simp only [Ee.k] at this;omega) x.al (sB op) Ac cc lc C HLC.out hLc w' h1 h2
 clear hsh hs bW b0 c0 c1 c2 d0 d1 hW0 hw0 hn z0 z2 hof hck of0 k0 k1 m0 m1 hM0 hM HF HI0 hb0 hb1 hO hPc hb b2 hw2 bA bB hAc hC hop hcl w0 w1 w2
 go_wp2_with fail
 refine wpIn_wide.1 (Stops.wpIn_tellsW (F:=Fence.wide) (n:=3) rfl (by omega) (gf:=33) (lb:=#[.pointer (some ⟨b+1+1,0,none⟩)]) rfl trivial (enters_of Tryz.func33 (by kernel_rfl) rfl)
  hseq (fun h k=>h.trans k) (fun W l o o' _ hl ho=>KeepC.put W l o o' hl ho) (fun _=>rfl)
  (fun pre W=>(∀ y∈pre,notAl y.k=true→hasK op C y.k=false)∧Boxed W (b+1) 28 (.int .i64 (cdF (pre.map Ee.k)))∧W0.grownBy W (some (b+1)))
  (fun pre W=>∃ p x,pre=p++[x]∧findK op C=some x.k∧W.heap[n+1]?=some (.cells #[.int .i64 x.g,.int .u8 x.o,.string (sB x.m),x.v,.string (sB x.ex),.bool x.al] 55 (0,0))∧Boxed W (n+1+1) 28 (.int .i64 0)∧OpsP W x.A x.L∧Below n w W)
  (fun s X Y row h hg hr=>⟨h.1,h.2.1.kept hg (fun e=>by have:=(hr _ e.symm).1;omega),grow_row h.2.2 hg rfl fun r e=>(hr r e).1⟩)
  (fun s X Y row h hg hr=>by
   obtain ⟨p,x,h1,h2,h3,h4,h5,h6⟩:=h
   have hne:∀ k,k<b+1+1+1→some k≠row:=fun k hk e=>by have:=(hr k e.symm).1;omega
   exact ⟨p,x,h1,h2,(hg.block _ (Array.getElem?_eq_some_iff.1 h3).1 (hne _ (by have:=HB.out;omega))).trans h3,h4.kept hg (hne _ (by have:=HB.out;omega)),ops_grown h5 hg fun r e=>(hr r e).2,h6.grown hg (by have:=h4.lt;omega) fun r e=>by have:=(hr r e).1;have:=HB.out;omega⟩)
  ⟨fun y hy=>(by cases hy),DC.out,World.grownBy.refl _ _⟩
  (fun pre x a' W=>ShE op C pre x W∧∃ q,b+3≤q∧W.heap[q]?=some (.cells #[.int .i64 x.g,.int .u8 x.o,.string (sB x.m),x.v,.string (sB x.ex),.bool x.al] 55 (0,0))∧a'={tmps:=#[.agg #[.string (sB op),.slice Ai li capi],.pointer (some ⟨n,0,none⟩),.pointer (some ⟨n+1,0,none⟩),.pointer (some ⟨n+1+1,0,none⟩),.pointer (some ⟨b,0,none⟩),.pointer (some ⟨b+1,0,none⟩),.pointer (some ⟨q,0,none⟩),undef,.agg #[.string (sB op),.slice Ai li capi],.agg #[.string (sB op),.slice Ac lc cc],.agg #[.string (sB op),.slice Ac lc cc],.func (.func 33) #[] #[.pointer (some ⟨b+1+1,0,none⟩)],eeV x,undef,undef,undef,undef,undef,undef,undef,undef,undef,undef,undef,undef,undef],defers:=[]})
  (fun pre x s X Y row h hg hr=>by
   obtain ⟨h0,q,h1,h2,h3⟩:=h
   exact ⟨⟨h0.1,ops_grown h0.2 hg fun r e=>(hr r e).2⟩,q,h1,(grownBy_keeps_cells hg (fun r e=>(hr r e).2) h2 rfl).trans h2,h3⟩)
  ?assign ?body ?done ?stop)
 case assign=>
  rintro lp pre x W K ⟨i1,i2,i3⟩ hE hK
  obtain ⟨g,o,m,Ar,cr,Lr,ex,al⟩:=x
  obtain ⟨ll,hll⟩:∃ z,Lr.length=z:=⟨_,rfl⟩
  simp only [eeV,enV,Ee.v,hll] at hK ⊢
  have hz:=i3.size
  gi_wp2
  exact hK _ _ ((KeepsOthers.alloc _ _).from _) (KeepC.of_below (up1 _ _)) ⟨i1,i2.alloc _,World.grownBy.trans i3 (grow_below (up1 _ _) _)⟩ ⟨⟨hE.1,hE.2.below (up1 _ _)⟩,W.heap.size,by omega,World.alloc_heap_new W _,rfl⟩
 case body=>
  rintro lp pre x a' W ⟨i1,i2,i3⟩ ⟨hE,q,hq,hc,rfl⟩
  have hin:InTab x.k:=(cand_in (hE.1.subset (by simp))).1
  have hmap:(pre++[x]).map Ee.k=pre.map Ee.k++[x.k]:=by simp
  have kc:=keepC_grown i3
  have he:=HE.out x W x.A hin hE.2 (OC.out.keepC kc HAC.out)
  have fb:=kc.2 b _ (by omega) DF.out rfl
  have f1:=kc.2 (n+1) _ (by have:=HB.out;omega) D1.out rfl
  have f2:=kc.boxed D2.out (by have:=HB.out;omega)
  have hz:=i3.size
  have PX:Hid ((pre++[x]).map Ee.k <+: candK op C):=hE.1
  have OX:=Lib.hid hE.2
  have I1:=Lib.hid i1
  have I2:=Lib.hid i2
  have I3:=Lib.hid i3
  have F1:=Lib.hid f1
  have F2:=Lib.hid f2
  have HZ:Hid (b+3≤W.heap.size):=by show _≤_;omega
  have HM:=Lib.hid hmap
  obtain ⟨g,o,m,Ar,cr,Lr,ex,al⟩:=x
  obtain ⟨ll,hll⟩:∃ z,Lr.length=z:=⟨_,rfl⟩
  have HLL:=Lib.hid hll
  simp only [eeV,enV,Ee.v,hll] at he hc ⊢
  have CQ:=Lib.hid hc
  have s0:=Lib.cell_of_heap hc 0
  have s1:=Lib.cell_of_heap hc 1
  have s2:=Lib.cell_of_heap hc 2
  have s3:=Lib.cell_of_heap hc 3
  have s4:=Lib.cell_of_heap hc 4
  have s5:=Lib.cell_of_heap hc 5
  have m0:=Lib.cell_of_heap fb 0
  have m1:=Lib.cell_of_heap fb 1
  clear i1 i2 i3 hE hin kc fb f1 f2 hz hc hmap hll
  cases al with
  | true=>
   have P:Hid (KeepsFrom W0.heap.size W W∧KeepC (b+1) W W∧(∀ y∈pre++[(⟨g,o,m,Ar,cr,Lr,ex,true⟩:Ee)],notAl y.k=true→hasK op C y.k=false)∧Boxed W (b+1) 28 (.int .i64 (cdF ((pre++[(⟨g,o,m,Ar,cr,Lr,ex,true⟩:Ee)]).map Ee.k)))∧W0.grownBy W (some (b+1))):=by
    refine ⟨keepsFrom_below (Below.refl _ _) _,KeepC.refl _ _,fun y hy h=>?_,?_,I3.out⟩
    ·rcases List.mem_append.1 hy with hy | hy
     ·exact I1.out y hy h
     ·rw [List.mem_singleton.1 hy] at h
      cases h
    ·rw [HM.out,cdF_alias _ _ rfl]
     exact I2.out
   clear he
   gi_wp2
   have h:=P.out
   rw [zW] at h
   exact h
  | false=>
   obtain ⟨tt,htt⟩:∃ z,hasK op C (Ee.k ⟨g,o,m,Ar,cr,Lr,ex,false⟩)=z:=⟨_,rfl⟩
   rw [htt] at he
   have HT:=Lib.hid htt
   clear htt
   gi_wp2_with fail
   refine ⟨trivial,CallsIn.inRound lp (callsIn_wide.2 he) |>.mono ?_⟩
   rintro e W5 ⟨rfl,hb⟩
   have B5:=Lib.hid hb
   have J3:Hid (W0.grownBy W5 (some (b+1))):=World.grownBy.trans I3.out (grow_below hb _)
   have j2:=(hb.block _ I2.out.lt).trans I2.out
   cases tt with
   | true=>
    have h1:=(hb.block _ (Array.getElem?_eq_some_iff.1 F1.out).1).trans F1.out
    have h2:Boxed W5 (n+1+1) 28 (.int .i64 0):=(hb.block _ F2.out.lt).trans F2.out
    have hq5:=(hb.block q (Array.getElem?_eq_some_iff.1 CQ.out).1).trans CQ.out
    have t0:=Lib.cell_of_heap hq5 0
    have t1:=Lib.cell_of_heap hq5 1
    have t2:=Lib.cell_of_heap hq5 2
    have t3:=Lib.cell_of_heap hq5 3
    have t4:=Lib.cell_of_heap hq5 4
    have t5:=Lib.cell_of_heap hq5 5
    have u0:=Lib.cell_of_heap h1 0
    have u1:=Lib.cell_of_heap h1 1
    have u2:=Lib.cell_of_heap h1 2
    have u3:=Lib.cell_of_heap h1 3
    have u4:=Lib.cell_of_heap h1 4
    have u5:=Lib.cell_of_heap h1 5
    have u6:=Lib.frozen_of_heap h1
    have v0:=h2.cell
    have v1:=h2.frozen
    have H1:=Lib.hid h1
    have H2:=Lib.hid h2
    have OX5:=Lib.hid (OX.out.below hb)
    have BW:Hid (Below n w W5):=(BN.out.grown J3.out (by rw [zW];have:=HB.out;omega) fun k e=>by cases e;have:=HB.out;omega)
    clear he hb h1 h2 hq5 j2 s0 s1 s2 s3 s4 s5 m0 m1
    gi_wp2
    obtain ⟨W6,hW6,a1,a2,a3,a4,a5⟩:=set6 H1.out (.int .i64 g) (.int .u8 o) (.string (sB m)) (.slice Ar ll cr) (.string (sB ex)) (.bool false)
    rw [hW6]
    have b2:Boxed W6 (n+1+1) 28 (.int .i64 0):=(a2 _ (by omega)).trans H2.out
    have OW:OpsP W6 Ar Lr:=OX5.out.keepC (cb:=n+1) ⟨by omega,fun k o hk ho _=>(a2 k hk).trans ho⟩ (fun a ha hne=>by
     rcases OX5.out with h | ⟨bb,off,e,hcc⟩
     ·exact absurd h hne
     ·rw [ha] at e
      obtain rfl:=Option.some.inj e
      rintro rfl
      exact en_not_ops (hcc 0 (List.length_pos_iff.2 hne)) H1.out)
    have OW7:OpsP (W6.setCell ⟨n+1+1,0,none⟩ (.int .i64 0)) Ar Lr:=OW.keepC (cb:=n+1+1) ⟨by simp,fun k o hk ho _=>(heap_setCell_other W6 ⟨n+1+1,0,none⟩ k _ hk).trans ho⟩ (fun a ha hne=>by
     rcases OW with h | ⟨bb,off,e,hcc⟩
     ·exact absurd h hne
     ·rw [ha] at e
      obtain rfl:=Option.some.inj e
      rintro rfl
      exact box_not_ops (hcc 0 (List.length_pos_iff.2 hne)) b2)
    refine ⟨((keepsFrom_below B5.out _).trans (a3.from _)).trans (KeepsOthers.from (KeepsOthers.setCell _ _ _) _),pre,_,rfl,find_at (by have h:=PX.out;rw [HM.out] at h;exact h) (fun y hy h=>?_) rfl HT.out,?_,Boxed.set _ b2,OW7,?_⟩
    ·obtain ⟨z,hz,rfl⟩:=List.mem_map.1 hy
     exact I1.out z hz h
    ·simp only [HLL.out]
     exact (heap_setCell_other W6 ⟨n+1+1,0,none⟩ (n+1) _ (by simp)).trans a1
    ·exact (BW.out.trans (a4.mono (by omega))).setCell (p:=⟨n+1+1,0,none⟩) (show n≤n+1+1 by omega) _
   | false=>
    have j3:=Boxed.cell j2
    have j4:=Boxed.frozen j2
    have J2:=Lib.hid j2
    clear he hb j2 s0 s1 s2 s3 s4 s5 m0 m1
    gi_wp2
    refine ⟨(keepsFrom_below B5.out _).trans (KeepsOthers.from (KeepsOthers.setCell _ _ _) _),(KeepC.of_below B5.out).trans ⟨by simp,fun k o hk ho _=>(heap_setCell_other W5 ⟨b+1,0,none⟩ k _ hk).trans ho⟩,fun y hy h=>?_,?_,World.grownBy.trans J3.out (grownBy_setC W5 (b+1) 0 _)⟩
    ·rcases List.mem_append.1 hy with hy | hy
     ·exact I1.out y hy h
     ·rw [List.mem_singleton.1 hy]
      exact HT.out
    ·rw [HM.out,cdF_two _ _ rfl]
     exact Boxed.set _ J2.out
 case done=>
  rintro D ys W hD hys ⟨g1,g2,g3⟩ hK
  have FN:Hid (findK op C=none):=by
   show findK op C=none
   refine find_none_of fun y hy=>?_
   rw [← hys] at hy
   obtain ⟨z,hz,rfl⟩:=List.mem_map.1 hy
   exact g1 z hz
  have CD:Hid (cdF (ys.map Ee.k)=if (candN op C).isEmpty then 11 else 2):=by show cdF _=_;rw [hys];rfl
  have kc:=keepC_grown g3
  have f0:=kc.2 n _ (by have:=HB.out;omega) D0.out rfl
  have f1:=kc.2 (n+1) _ (by have:=HB.out;omega) D1.out rfl
  have f2:=kc.boxed D2.out (by have:=HB.out;omega)
  have hz:=g3.size
  have hW0:(W0.heap[n]?:Option Obj)=_:=D0.out
  have k0:=Lib.cell_of_heap f0 0
  have k1:=Lib.cell_of_heap f0 1
  have oi:OpsP W Ai I:=by
   rcases OI.out with h | ⟨bb,off,e,hc⟩
   ·exact .inl h
   ·by_cases hI:I=[]
    ·exact .inl hI
    ·refine OpsP.keepC (cb:=b+1) (.inr ⟨bb,off,e,hc⟩) kc fun a ha hne=>?_
     rw [ha] at e
     obtain rfl:=Option.some.inj e
     rintro h
     have h':bb=b+1:=h
     subst h'
     exact box_not_ops (hc 0 (List.length_pos_iff.2 hne)) DC.out
  have ck:=CK.out W oi
  have HD:Hid (b+3≤D):=by show _≤_;omega
  have HK:=Lib.hid hK
  have F1:=Lib.hid f1
  have F2:=Lib.hid f2
  have G2:=Lib.hid g2
  have BW:Hid (Below n w W):=BN.out.grown g3 (by rw [zW];have:=HB.out;omega) fun k e=>by cases e;have:=HB.out;omega
  obtain ⟨cd,hcd⟩:∃ z,codeI (sB op) I=z:=⟨_,rfl⟩
  rw [hcd] at ck
  have HCD:=Lib.hid hcd
  have HZ:Hid (b+3≤W.heap.size):=by show _≤_;omega
  clear g1 g2 g3 hK hseq hys kc f0 f1 f2 hz hW0 oi hcd hD
  go_wp2_with fail
  refine ck.mono ?_
  rintro e W5 ⟨rfl,hb⟩
  have f1:=(hb.block _ (Array.getElem?_eq_some_iff.1 F1.out).1).trans F1.out
  have f2:Boxed W5 (n+1+1) 28 (.int .i64 0):=(hb.block _ F2.out.lt).trans F2.out
  have g2:Boxed W5 (b+1) 28 _:=(hb.block _ G2.out.lt).trans G2.out
  have K5:=Lib.hid ((hb.block D (Array.getElem?_eq_some_iff.1 HK.out).1).trans HK.out)
  have B5:Hid (Below n w W5):=BW.out.trans (hb.mono (by have:=HZ.out;have:=HB.out;omega))
  have F1:=Lib.hid f1
  have F2:=Lib.hid f2
  obtain ⟨c0,hc0⟩:∃ z,cdF (ys.map Ee.k)=z:=⟨_,rfl⟩
  have CD:Hid (c0=if (candN op C).isEmpty then 11 else 2):=by show c0=_;rw [← hc0];exact CD.out
  rw [hc0] at g2
  have G2:=Lib.hid g2
  have gc:=g2.cell
  have gf:=g2.frozen
  clear hb ck f1 f2 g2 k0 k1 hc0 HK BW
  -- the code that is returned
  obtain ⟨W6,cf,hcf,gB,f1,f2,K6,B6,hgo⟩:∃ (W6:World) (cf:Int),Hid (codeF op I C=cf)∧Hid (Boxed W6 (b+1) 28 (.int .i64 cf))∧Hid (W6.heap[n+1]?=some (.cells #[.int .i64 0,.int .u8 0,.string ⟨#[]⟩,.slice none 0 0,.string ⟨#[]⟩,.bool false] 55 (0,0)))∧Hid (Boxed W6 (n+1+1) 28 (.int .i64 0))∧Hid (W6.heap[D]?=some (.deferred (some [])))∧Hid (Below n w W6)∧(if cd=0 then W6=W5 else W6=W5.setCell ⟨b+1,0,none⟩ (.int .i64 cd)):=by
   have hbn:=HB.out
   by_cases h0:cd=0
   ·refine ⟨W5,c0,?_,G2,F1,F2,K5,B5,by rw [if_pos h0]⟩
    show codeF op I C=c0
    unfold codeF
    rw [HCD.out,if_neg (by simpa using h0),CD.out]
   ·refine ⟨W5.setCell ⟨b+1,0,none⟩ (.int .i64 cd),cd,?_,Boxed.set _ G2.out,(heap_setCell_other W5 ⟨b+1,0,none⟩ (n+1) _ (by simp;omega)).trans F1.out,(heap_setCell_other W5 ⟨b+1,0,none⟩ (n+1+1) _ (by simp;omega)).trans F2.out,(KeepsOthers.setCell W5 _ _).same D _ K5.out rfl,B5.out.setCell (p:=⟨b+1,0,none⟩) (show n≤b+1 by omega) _,by rw [if_neg h0]⟩
    show codeF op I C=cd
    unfold codeF
    rw [HCD.out,if_pos h0]
  by_cases h0:cd=0
  ·rw [if_pos h0] at hgo
   subst h0
   subst hgo
   clear CD CK HCD F1 F2 K5 B5 G2
   go_upto_region 11 with fail
   obtain ⟨W7,hW7⟩:∃ z,W6.drew=z:=⟨_,rfl⟩
   have g7:Boxed W7 (b+1) 28 (.int .i64 cf):=by rw [← hW7];exact gB.out
   have f7:W7.heap[n+1]?=some (.cells #[.int .i64 0,.int .u8 0,.string ⟨#[]⟩,.slice none 0 0,.string ⟨#[]⟩,.bool false] 55 (0,0)):=by rw [← hW7];exact f1.out
   have p7:Boxed W7 (n+1+1) 28 (.int .i64 0):=by rw [← hW7];exact f2.out
   have K7:Hid (W7.heap[D]?=some (.deferred (some []))):=by rw [← hW7];exact K6.out
   have B7:Hid (Below n w W7):=by rw [← hW7];exact B6.out.drew
   refine Mixed.wp_region_mixed (fun w'=>Boxed w' (b+1) 28 (.int .i64 cf)) 3 [(0,true),(1,true),(2,false)] (by kernel_rfl) (by kernel_rfl) (by rw [hW7];exact g7) ?_
   rw [hW7]
   refine Mixed.wpMix_pure rfl (by kernel_rfl) (.agg #[.int .i64 0,.int .u8 0,.string ⟨#[]⟩,.slice none 0 0,.string ⟨#[]⟩,.bool false]) (fun w h=>by clear h;go_simp;try rfl) ?_
   refine Mixed.wpMix_pure rfl (by kernel_rfl) (.int .i64 cf) (fun w h=>by have h1:=Boxed.cell h;clear h;go_simp;try rfl) ?_
   have u0:=Lib.cell_of_heap f7 0
   have u1:=Lib.cell_of_heap f7 1
   have u2:=Lib.cell_of_heap f7 2
   have u3:=Lib.cell_of_heap f7 3
   have u4:=Lib.cell_of_heap f7 4
   have u5:=Lib.cell_of_heap f7 5
   have u6:=Lib.frozen_of_heap f7
   have F7:=Lib.hid f7
   have G7:=Lib.hid g7
   have P7:=Lib.hid p7
   clear f7 g7 p7 hW7 gc gf
   refine Mixed.wpMix_loud rfl ?_
   refine wpList_store_row rfl 55 _ _ rfl (n+1) #[.int .i64 0,.int .u8 0,.string ⟨#[]⟩,.slice none 0 0,.string ⟨#[]⟩,.bool false] rfl rfl _ _ F7.out (by kernel_rfl) (by kernel_rfl) (by kernel_rfl) ?_
   obtain ⟨W8,hW8,a1,a2,a4,a5⟩:=row6 F7.out #[.int .i64 0,.int .u8 0,.string ⟨#[]⟩,.slice none 0 0,.string ⟨#[]⟩,.bool false]
   rw [hW8]
   have g8:Boxed W8 (b+1) 28 (.int .i64 cf):=(a2 _ (by have:=HB.out;omega)).trans G7.out
   have p8:Boxed W8 (n+1+1) 28 (.int .i64 0):=(a2 _ (by omega)).trans P7.out
   have K8:Hid (W8.heap[D]?=some (.deferred (some []))):=(a2 _ (by have:=HD.out;have:=HB.out;omega)).trans K7.out
   have B8:Hid (Below n w W8):=B7.out.trans (a4.mono (by omega))
   refine ⟨g8,?_⟩
   simp only [Mixed.wpMix,List.drop_succ_cons,List.drop_zero]
   have v0:=p8.cell
   have v1:=p8.frozen
   have P8:=Lib.hid p8
   have A1:=Lib.hid a1
   clear u0 u1 u2 u3 u4 u5 u6 hW8 a1 a2 a4 a5 g8 p8
   go_wp2
   have z1:=Boxed.set (.int .i64 cf) P8.out
   have z2:KeepsOthers W8 (W8.setCell ⟨n+1+1,0,none⟩ (.int .i64 cf)):=KeepsOthers.setCell _ _ _
   have z3:Below n w (W8.setCell ⟨n+1+1,0,none⟩ (.int .i64 cf)):=B8.out.setCell (p:=⟨n+1+1,0,none⟩) (show n≤n+1+1 by omega) _
   have z4:(W8.setCell ⟨n+1+1,0,none⟩ (.int .i64 cf)).heap[n+1]?=some (.cells #[.int .i64 0,.int .u8 0,.string ⟨#[]⟩,.slice none 0 0,.string ⟨#[]⟩,.bool false] 55 (0,0)):=(heap_setCell_other W8 ⟨n+1+1,0,none⟩ (n+1) _ (by simp)).trans A1.out
   obtain ⟨W9,hW9⟩:∃ z,W8.setCell ⟨n+1+1,0,none⟩ (.int .i64 cf)=z:=⟨_,rfl⟩
   rw [hW9] at z1 z2 z3 z4 ⊢
   have hK2:W9.heap[D]?=some (.deferred (some [])):=z2.same D _ K8.out rfl
   have hg:=grownBy_putObj' W9 D (.deferred none)
   have hDn:=HD.out
   have hBn:=HB.out
   have hn0:w.heap.size=n:=HN.out
   have q2:=(z1.kept hg (by simp;omega)).cell
   have q1:=(hg.block (n+1) (Array.getElem?_eq_some_iff.1 z4).1 (by simp;omega)).trans z4
   have q3:=Lib.cell_of_heap q1 0
   have q4:=Lib.cell_of_heap q1 1
   have q5:=Lib.cell_of_heap q1 2
   have q6:=Lib.cell_of_heap q1 3
   have q7:=Lib.cell_of_heap q1 4
   have q8:=Lib.cell_of_heap q1 5
   refine ⟨by simp,.inl ⟨_,_,rfl,run_takeDeferred hK2,?_⟩⟩
   refine ⟨.tuple #[.agg #[.int .i64 0,.int .u8 0,.string ⟨#[]⟩,.slice none 0 0,.string ⟨#[]⟩,.bool false],.int .i64 cf],?_,?_⟩
   ·simp [results,Tryz.results19,go_sem,q2,q3,q4,q5,q6,q7,q8]
   ·rw [FN.out]
    refine ⟨by rw [CF.out,hcf.out];rfl,?_⟩
    rw [hn0];exact z3.trans (belowK_b (w:=w) (by omega) W9 D _ _ (by omega) hK2 rfl rfl)
  ·rw [if_neg h0] at hgo
   have e0:(cd == 0)=false:=beq_eq_false_iff_ne.2 h0
   clear CD CK HCD F1 F2 K5 B5 G2 h0
   go_upto_region 11 with fail
   rw [← hgo]
   clear hgo e0
   obtain ⟨W7,hW7⟩:∃ z,W6.drew=z:=⟨_,rfl⟩
   have g7:Boxed W7 (b+1) 28 (.int .i64 cf):=by rw [← hW7];exact gB.out
   have f7:W7.heap[n+1]?=some (.cells #[.int .i64 0,.int .u8 0,.string ⟨#[]⟩,.slice none 0 0,.string ⟨#[]⟩,.bool false] 55 (0,0)):=by rw [← hW7];exact f1.out
   have p7:Boxed W7 (n+1+1) 28 (.int .i64 0):=by rw [← hW7];exact f2.out
   have K7:Hid (W7.heap[D]?=some (.deferred (some []))):=by rw [← hW7];exact K6.out
   have B7:Hid (Below n w W7):=by rw [← hW7];exact B6.out.drew
   refine Mixed.wp_region_mixed (fun w'=>Boxed w' (b+1) 28 (.int .i64 cf)) 3 [(0,true),(1,true),(2,false)] (by kernel_rfl) (by kernel_rfl) (by rw [hW7];exact g7) ?_
   rw [hW7]
   refine Mixed.wpMix_pure rfl (by kernel_rfl) (.agg #[.int .i64 0,.int .u8 0,.string ⟨#[]⟩,.slice none 0 0,.string ⟨#[]⟩,.bool false]) (fun w h=>by clear h;go_simp;try rfl) ?_
   refine Mixed.wpMix_pure rfl (by kernel_rfl) (.int .i64 cf) (fun w h=>by have h1:=Boxed.cell h;clear h;go_simp;try rfl) ?_
   have u0:=Lib.cell_of_heap f7 0
   have u1:=Lib.cell_of_heap f7 1
   have u2:=Lib.cell_of_heap f7 2
   have u3:=Lib.cell_of_heap f7 3
   have u4:=Lib.cell_of_heap f7 4
   have u5:=Lib.cell_of_heap f7 5
   have u6:=Lib.frozen_of_heap f7
   have F7:=Lib.hid f7
   have G7:=Lib.hid g7
   have P7:=Lib.hid p7
   clear f7 g7 p7 hW7 gc gf
   refine Mixed.wpMix_loud rfl ?_
   refine wpList_store_row rfl 55 _ _ rfl (n+1) #[.int .i64 0,.int .u8 0,.string ⟨#[]⟩,.slice none 0 0,.string ⟨#[]⟩,.bool false] rfl rfl _ _ F7.out (by kernel_rfl) (by kernel_rfl) (by kernel_rfl) ?_
   obtain ⟨W8,hW8,a1,a2,a4,a5⟩:=row6 F7.out #[.int .i64 0,.int .u8 0,.string ⟨#[]⟩,.slice none 0 0,.string ⟨#[]⟩,.bool false]
   rw [hW8]
   have g8:Boxed W8 (b+1) 28 (.int .i64 cf):=(a2 _ (by have:=HB.out;omega)).trans G7.out
   have p8:Boxed W8 (n+1+1) 28 (.int .i64 0):=(a2 _ (by omega)).trans P7.out
   have K8:Hid (W8.heap[D]?=some (.deferred (some []))):=(a2 _ (by have:=HD.out;have:=HB.out;omega)).trans K7.out
   have B8:Hid (Below n w W8):=B7.out.trans (a4.mono (by omega))
   refine ⟨g8,?_⟩
   simp only [Mixed.wpMix,List.drop_succ_cons,List.drop_zero]
   have v0:=p8.cell
   have v1:=p8.frozen
   have P8:=Lib.hid p8
   have A1:=Lib.hid a1
   clear u0 u1 u2 u3 u4 u5 u6 hW8 a1 a2 a4 a5 g8 p8
   go_wp2
   have z1:=Boxed.set (.int .i64 cf) P8.out
   have z2:KeepsOthers W8 (W8.setCell ⟨n+1+1,0,none⟩ (.int .i64 cf)):=KeepsOthers.setCell _ _ _
   have z3:Below n w (W8.setCell ⟨n+1+1,0,none⟩ (.int .i64 cf)):=B8.out.setCell (p:=⟨n+1+1,0,none⟩) (show n≤n+1+1 by omega) _
   have z4:(W8.setCell ⟨n+1+1,0,none⟩ (.int .i64 cf)).heap[n+1]?=some (.cells #[.int .i64 0,.int .u8 0,.string ⟨#[]⟩,.slice none 0 0,.string ⟨#[]⟩,.bool false] 55 (0,0)):=(heap_setCell_other W8 ⟨n+1+1,0,none⟩ (n+1) _ (by simp)).trans A1.out
   obtain ⟨W9,hW9⟩:∃ z,W8.setCell ⟨n+1+1,0,none⟩ (.int .i64 cf)=z:=⟨_,rfl⟩
   rw [hW9] at z1 z2 z3 z4 ⊢
   have hK2:W9.heap[D]?=some (.deferred (some [])):=z2.same D _ K8.out rfl
   have hg:=grownBy_putObj' W9 D (.deferred none)
   have hDn:=HD.out
   have hBn:=HB.out
   have hn0:w.heap.size=n:=HN.out
   have q2:=(z1.kept hg (by simp;omega)).cell
   have q1:=(hg.block (n+1) (Array.getElem?_eq_some_iff.1 z4).1 (by simp;omega)).trans z4
   have q3:=Lib.cell_of_heap q1 0
   have q4:=Lib.cell_of_heap q1 1
   have q5:=Lib.cell_of_heap q1 2
   have q6:=Lib.cell_of_heap q1 3
   have q7:=Lib.cell_of_heap q1 4
   have q8:=Lib.cell_of_heap q1 5
   refine ⟨by simp,.inl ⟨_,_,rfl,run_takeDeferred hK2,?_⟩⟩
   refine ⟨.tuple #[.agg #[.int .i64 0,.int .u8 0,.string ⟨#[]⟩,.slice none 0 0,.string ⟨#[]⟩,.bool false],.int .i64 cf],?_,?_⟩
   ·simp [results,Tryz.results19,go_sem,q2,q3,q4,q5,q6,q7,q8]
   ·rw [FN.out]
    refine ⟨by rw [CF.out,hcf.out];rfl,?_⟩
    rw [hn0];exact z3.trans (belowK_b (w:=w) (by omega) W9 D _ _ (by omega) hK2 rfl rfl)
 case stop=>
  rintro D pre W hD ⟨p,x,rfl,h2,h3,h4,h5,h6⟩ hK
  have hg:=grownBy_putObj' W D (.deferred none)
  have hDD:W0.heap.size≤D:=hD
  have q1:=(hg.block (n+1) (Array.getElem?_eq_some_iff.1 h3).1 (by simp;have:=HB.out;omega)).trans h3
  have q2:=(h4.kept hg (by simp;have:=HB.out;omega)).cell
  have hn0:w.heap.size=n:=HN.out
  have F:Hid (RetSrch w op I (findK op C) (.returned (.tuple #[enV x.g x.o x.m x.v x.ex x.al,.int .i64 0])) (W.putObj D (.deferred none))):=by
   show RetSrch _ _ _ _ _ _
   rw [h2]
   refine ⟨x.A,x.cap,rfl,ops_grown h5 hg fun r e=>by cases e;exact ⟨_,hK,rfl⟩,?_⟩
   rw [hn0];exact h6.trans (belowK_b (w:=w) (by omega) W D _ _ (by have:=HB.out;omega) hK rfl rfl)
  have HK:=Lib.hid hK
  obtain ⟨g,o,m,Ar,cr,Lr,ex,al⟩:=x
  have q3:=Lib.cell_of_heap q1 0
  have q4:=Lib.cell_of_heap q1 1
  have q5:=Lib.cell_of_heap q1 2
  have q6:=Lib.cell_of_heap q1 3
  have q7:=Lib.cell_of_heap q1 4
  have q8:=Lib.cell_of_heap q1 5
  clear h2 h3 h4 h5 h6 hK hg hseq q1 hn0
  gi_wp2
  refine ⟨by simp,.inl ⟨_,_,rfl,run_takeDeferred HK.out,?_⟩⟩
  refine ⟨_,?_,F.out⟩
  simp [results,Tryz.results19,go_sem,q2,q3,q4,q5,q6,q7,q8,enV,Ee.v]
end Go.Proofs.YtmnleknehjkmgaaGreatDoor
