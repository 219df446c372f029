/-
  TbD, SeC, OpC.
-/
import Derived.Test.YtmnleknehjkmgaaGreatDoorGAB
import Derived.KernelRfl
import Derived.Laws.EntriesVeiled
import Derived.Shelf.Abstract
import Derived.Shelf.RegionOpen
import Derived.WalkKit
import Derived.TacticsIn
import Derived.TacticsInMore
import Derived.OwnWalkIn
import Derived.Deep.Cut
import Derived.LoopNIn
import Derived.LoopIn
import Derived.Laws.Tables
import Derived.Deep.WholeRow
set_option linter.all false
set_option maxRecDepth 100000
set_option maxHeartbeats 4000000
namespace Go.Proofs.YtmnleknehjkmgaaGreatDoor
open Go.RowKit Go.Shelf
attribute [local go_sem] Oper.semAt_some
def codeV (p:Pat) (op:Int):Value:=.agg #[.string (sB p.1),.string (sB p.2),.int .u8 op]
def findP (l:Str) (op:Int):Option Pat:=(patsOf l).find? fun p=>fitsP p.1 op
def RetFind (w:World) (o:Option Pat) (op:Int) (e:Ending) (w':World):Prop:=
 e=.returned (.tuple #[match o with | some p=>codeV p op | none=>.agg #[.string ⟨#[]⟩,.string ⟨#[]⟩,.int .u8 0],.bool o.isSome])∧Below w.heap.size w w'
theorem find_none {l:Str} {op:Int} {ys:List Pat} (h:ys=patsOf l) (k:∀ y∈ys,fitsP y.1 op=false):findP l op=none:=by
 unfold findP
 rw [← h,List.find?_eq_none]
 intro x hx
 rw [k x hx]
 decide
theorem find_some {l:Str} {op:Int} {pre:List Pat} {x:Pat} (h:pre++[x] <+: patsOf l) (k:∀ y∈pre,fitsP y.1 op=false) (hx:fitsP x.1 op=true):findP l op=some x:=by
 unfold findP
 obtain ⟨t,ht⟩:=h
 rw [← ht,List.find?_append,List.find?_append]
 have h1:pre.find? (fun p=>fitsP p.1 op)=none:=by
  rw [List.find?_eq_none]
  intro y hy
  rw [k y hy]
  decide
 rw [h1]
 simp [hx]
theorem mem_of_pre {l:Str} {pre:List Pat} {x:Pat} (h:pre++[x] <+: patsOf l):x∈patsOf l:=h.subset (by simp)
theorem keepM_put {W0:World} (h:MaxAt W0) (W:World) (l:Nat) (o':Obj) (hl:W0.heap.size≤l):KeepM W (W.putObj l o'):=by
 have hlt:=h.lt
 exact World.cell?_of_block (World.putObj_heap_other (by show 0≠l;omega))
theorem set3 {w:World} {b:Nat} {T:TypeId} {a0 a1 a2:Value} (h:w.heap[b]?=some (.cells #[a0,a1,a2] T (0,0))) (v0 v1 v2:Value):(((w.setCell ⟨b,0,none⟩ v0).setCell ⟨b,1,none⟩ v1).setCell ⟨b,2,none⟩ v2).heap[b]?=some (.cells #[v0,v1,v2] T (0,0)):=by
 have h1:=heap_setCell_same w b 0 _ _ v0 h
 have h2:=heap_setCell_same (w.setCell ⟨b,0,none⟩ v0) b 1 _ _ v1 h1
 have h3:=heap_setCell_same ((w.setCell ⟨b,0,none⟩ v0).setCell ⟨b,1,none⟩ v1) b 2 _ _ v2 h2
 exact h3
theorem set31 {w:World} {b:Nat} {T U:TypeId} {a0 a1 a2 u:Value} (h:w.heap[b]?=some (.cells #[a0,a1,a2] T (0,0))) (k:Boxed w (b+1) U u) (v0 v1 v2 v:Value) :
  ∃ w',(((w.setCell ⟨b,0,none⟩ v0).setCell ⟨b,1,none⟩ v1).setCell ⟨b,2,none⟩ v2).setCell ⟨b+1,0,none⟩ v=w'∧w'.heap[b]?=some (.cells #[v0,v1,v2] T (0,0))∧Boxed w' (b+1) U v∧KeepsOthers w w'∧Below b w w'∧w'.heap.size=w.heap.size:=by
 refine ⟨_,rfl,(heap_setCell_other _ ⟨b+1,0,none⟩ b v (by simp)).trans (set3 h v0 v1 v2),?_,?_,?_,by simp⟩
 ·refine Boxed.set (v:=u) v ?_
  exact (heap_setCell_other _ ⟨b,2,none⟩ (b+1) v2 (by simp)).trans ((heap_setCell_other _ ⟨b,1,none⟩ (b+1) v1 (by simp)).trans ((heap_setCell_other _ ⟨b,0,none⟩ (b+1) v0 (by simp)).trans k))
 ·exact (((KeepsOthers.setCell _ _ _).trans (KeepsOthers.setCell _ _ _)).trans (KeepsOthers.setCell _ _ _)).trans (KeepsOthers.setCell _ _ _)
 ·exact ((((Below.refl b w).setCell (p:=⟨b,0,none⟩) (Nat.le_refl _) _).setCell (p:=⟨b,1,none⟩) (Nat.le_refl _) _).setCell (p:=⟨b,2,none⟩) (Nat.le_refl _) _).setCell (p:=⟨b+1,0,none⟩) (by simp) _
theorem keepM_below {B:Nat} {W W':World} (h:Below B W W') (hB:0 < B):KeepM W W':=h.cell hB
theorem keepsFrom_below {W W':World} (h:Below W.heap.size W W') (B:Nat):KeepsFrom B W W':=⟨h.size,fun k o _ hk _=>(h.block k (Array.getElem?_eq_some_iff.1 hk).1).trans hk⟩
theorem tfind_any (l:Str) (hl:l.length≤100000) (h8:∀ p∈patsOf l,p.1.length=8) (op:Int) (w:World) (hM:MaxAt w) :
  Calls Tryz.prog 122 #[.string (sB l),.int .u8 op] w (RetFind w (findP l op) op):=by
 obtain ⟨w0,hw0⟩:∃ w0,((w.alloc (.cells #[.int .u8 op] 5)).alloc (.cells #[.string ⟨#[]⟩,.string ⟨#[]⟩,.int .u8 0] 142)).alloc (.cells #[.bool false] 4)=w0:=⟨_,rfl⟩
 obtain ⟨n,hn⟩:∃ n,w.heap.size=n:=⟨_,rfl⟩
 have z0:w0.heap.size=n+1+1+1:=by rw [← hw0,← hn];simp
 have b0:Below n w w0:=by rw [← hw0,← hn];exact (((Below.refl _ w).alloc (Nat.le_refl _) _).alloc (by simp) _).alloc (by simp;omega) _
 have c0:Boxed w0 n 5 (.int .u8 op):=by rw [← hw0,← hn];exact ((Boxed.new w 5 (.int .u8 op)).alloc _).alloc _
 have c1:w0.heap[n+1]?=some (.cells #[.string ⟨#[]⟩,.string ⟨#[]⟩,.int .u8 0] 142 (0,0)):=by
  rw [← hw0,← hn]
  refine (Below.heap_alloc _ _ _ (by simp)).trans ?_
  have h:=World.alloc_heap_new (w.alloc (.cells #[.int .u8 op] 5)) (.cells #[.string ⟨#[]⟩,.string ⟨#[]⟩,.int .u8 0] 142)
  rwa [World.size_alloc] at h
 have c2:Boxed w0 (n+1+1) 4 (.bool false):=by
  rw [← hw0,← hn]
  have h:=Boxed.new ((w.alloc (.cells #[.int .u8 op] 5)).alloc (.cells #[.string ⟨#[]⟩,.string ⟨#[]⟩,.int .u8 0] 142)) 4 (.bool false)
  rwa [World.size_alloc,World.size_alloc] at h
 have hM0:MaxAt w0:=hM.below (by rw [hn];exact b0)
 have hgn:0 < n:=by rw [← hn];exact hM.lt
 have hpt:=patterns_any l w0
 rw [z0] at hpt
 refine callsIn_wide.1 (callsIn_of_wp_marks (n:=3) Tryz.func122 rfl trivial ?_ rfl)
 simp only [Tryz.ntmps122,List.size_toArray,List.length_cons,List.length_nil,Nat.reduceAdd,Nat.reduceSub,Array.replicate_succ,Array.replicate_zero,List.push_toArray,List.append_toArray,List.nil_append,List.cons_append]
 refine wpIn_wide.2 ?_
 go_wp2_with fail
 refine hpt.mono ?_
 rintro e W0 ⟨rfl,hW0⟩
 have hs:Boxed W0 (n+1+1+1) 9 (.string (sB l)):=by
  have h:=Boxed.new w0 9 (.string (sB l))
  rw [hW0,z0] at h
  exact h
 have zW:W0.heap.size=n+1+1+1+1:=by rw [← hW0];simp;omega
 have bW:Below w0.heap.size w0 W0:=by rw [← hW0];exact (Below.refl _ _).alloc (Nat.le_refl _) _
 have d0:Boxed W0 n 5 (.int .u8 op):=(bW.block _ c0.lt).trans c0
 have d1:=(bW.block (n+1) (by omega)).trans c1
 have d2:Boxed W0 (n+1+1) 4 (.bool false):=(bW.block _ c2.lt).trans c2
 have bN:Below n w W0:=b0.trans (bW.mono (by omega))
 have hMW:MaxAt W0:=hM0.below bW
 have hseq:=patterns1_tells 2 (n+1+1+1) l hl W0 hs hMW
 have H8:=Lib.hid h8
 have hn0:=hn
 have HM0:=Lib.hid hMW
 clear hM hM0 hpt hs bW b0 c0 c1 c2 hW0 hw0 hn z0 hl h8 w0 hMW
 go_wp2_with fail
 refine wpIn_wide.1 (Stops.wpIn_tellsA (F:=Fence.wide) (n:=3) rfl (by omega) (gf:=131) (lb:=#[.pointer (some ⟨n+1+1+1,0,none⟩)]) rfl trivial (enters_of Tryz.func131 (by kernel_rfl) rfl)
  hseq (by omega) (fun h k=>h.trans k) (fun W l o o' hl _ _=>keepM_put HM0.out W l o' (by omega)) (fun _=>rfl)
  (fun pre W=>(∀ y∈pre,fitsP y.1 op=false)∧Below (n+1+1+1) W0 W)
  (fun pre W=>∃ p x,pre=p++[x]∧(∀ y∈p,fitsP y.1 op=false)∧fitsP x.1 op=true∧p++[x] <+: patsOf l∧W.heap[n+1]?=some (.cells #[.string (sB x.1),.string (sB x.2),.int .u8 op] 142 (0,0))∧Boxed W (n+1+1) 4 (.bool true)∧Below n w W)
  (fun s X Y row h hg hr=>⟨h.1,h.2.grown hg (by have:=h.2.size;omega) fun r e=>by have:=(hr r e).1;omega⟩)
  (fun s X Y h hg=>⟨h.1,h.2.grown hg (by have:=h.2.size;omega) fun r e=>by cases e;omega⟩)
  (fun s X Y row h hg hr=>by
   obtain ⟨p,x,h1,h2,h3,h4,h5,h6,h7⟩:=h
   have hne:∀ k,k<n+1+1+1+1→some k≠row:=fun k hk e=>by have:=(hr k e.symm).1;omega
   exact ⟨p,x,h1,h2,h3,h4,(hg.block _ (Array.getElem?_eq_some_iff.1 h5).1 (hne _ (by omega))).trans h5,h6.kept hg (hne _ (by omega)),h7.grown hg (by have:=(Array.getElem?_eq_some_iff.1 h5).1;omega) fun r e=>by have:=(hr r e).1;omega⟩)
  ⟨fun y hy=>(by cases hy),Below.refl _ _⟩
  (fun x a' W=>∃ b,n+4≤b∧W.heap[b]?=some (.cells #[.string (sB x.1),.string (sB x.2)] 140 (0,0))∧a'={tmps:=#[.string (sB l),.int .u8 op,undef,.pointer (some ⟨n,0,none⟩),.pointer (some ⟨n+1,0,none⟩),.pointer (some ⟨n+1+1,0,none⟩),.pointer (some ⟨b,0,none⟩),.string (sB l),.func (.func 131) #[] #[.pointer (some ⟨n+1+1+1,0,none⟩)],.agg #[.string (sB x.1),.string (sB x.2)],undef,undef,undef,undef,undef,undef,undef],defers:=[]})
  (fun x s X Y row h hg hr=>by
   obtain ⟨b,h1,h2,h3⟩:=h
   exact ⟨b,h1,(grownBy_keeps_cells hg (fun r e=>(hr r e).2) h2 rfl).trans h2,h3⟩)
  ?assign ?body ?done ?stop)
 case assign=>
  rintro lp pre x W K hI hE hK
  gi_wp2
  refine hK _ _ ((KeepsOthers.alloc _ _).from _) (keepM_below ((Below.refl n W).alloc (by have:=hI.2.size;omega) _) hgn) ⟨hI.1,hI.2.alloc (by have:=hI.2.size;omega) _⟩ ⟨W.heap.size,by have:=hI.2.size;omega,World.alloc_heap_new W _,rfl⟩
 case body=>
  rintro lp pre x a' W ⟨g1,g2⟩ ⟨b,hb,hc,rfl⟩ hpre
  have hmem:=mem_of_pre hpre
  have e0:Boxed W n 5 (.int .u8 op):=(g2.block n (by omega)).trans d0
  have p1:=e0.cell
  have q0:=Lib.cell_of_heap hc 0
  have q1:=Lib.cell_of_heap hc 1
  have hf:=tfits_any x.1 x.2 (H8.out x hmem) op W
  have G:=Lib.hid (And.intro g1 (And.intro g2 (And.intro hb hpre)))
  clear hmem g1 g2 hb hpre
  have E0:=Lib.hid e0
  have hWb:Hid (W.heap.size≥n+4):=by have:=G.out.2.1.size;show _≥_;omega
  have q2:=Lib.frozen_of_heap hc
  cases hfit:fitsP x.1 op
  ·have FT:=Lib.hid hfit
   rw [hfit] at hf
   clear e0 hfit hc
   gi_wp2_with fail
   refine ⟨trivial,CallsIn.inRound lp (callsIn_wide.2 hf) |>.mono ?_⟩
   rintro e w' ⟨rfl,hb⟩
   have P:Hid (KeepsFrom W0.heap.size W w'∧KeepM W w'∧(∀ y∈pre++[x],fitsP y.1 op=false)∧Below (n+1+1+1) W0 w'):=by
    refine ⟨keepsFrom_below hb _,keepM_below hb (by have:=hWb.out;omega),fun y hy=>?_,G.out.2.1.trans (hb.mono (by have:=hWb.out;omega))⟩
    rcases List.mem_append.1 hy with h | h
    ·exact G.out.1 y h
    ·rw [List.mem_singleton.1 h];exact FT.out
   clear hf hb
   gi_wp2
   exact P.out
  ·have FT:=Lib.hid hfit
   have b1:W.heap[n+1]?=_:=(G.out.2.1.block (n+1) (by omega)).trans d1
   have b2:Boxed W (n+1+1) 4 (.bool false):=(G.out.2.1.block (n+1+1) (by omega)).trans d2
   rw [hfit] at hf
   clear hfit hc
   gi_wp2_with fail
   refine ⟨trivial,CallsIn.inRound lp (callsIn_wide.2 hf) |>.mono ?_⟩
   rintro e w' ⟨rfl,hb⟩
   have x0:Boxed w' n 5 (.int .u8 op):=(hb.block n e0.lt).trans e0
   have x1:=(hb.block (n+1) (Array.getElem?_eq_some_iff.1 b1).1).trans b1
   have x2:Boxed w' (n+1+1) 4 (.bool false):=(hb.block (n+1+1) b2.lt).trans b2
   have x3:=(hb.cell (World.block_lt_of_cell? W _ q0)).trans q0
   have x4:=(hb.cell (World.block_lt_of_cell? W _ q1)).trans q1
   have y0:=x0.cell
   have y1:=Lib.cell_of_heap x1 0
   have y2:=Lib.cell_of_heap x1 1
   have y3:=Lib.cell_of_heap x1 2
   have y4:=Lib.frozen_of_heap x1
   have y5:=x2.cell
   have y6:=x2.frozen
   have X1:=Lib.hid x1
   have X2:=Lib.hid x2
   have BW:Hid (Below n w w'):=(bN.trans ((G.out.2.1.mono (by omega)))).trans (hb.mono (by have:=hWb.out;omega))
   have BK:Hid (Below W.heap.size W w'):=hb
   clear hf hb b1 b2 x0 x1 x2 p1 q0 q1 q2 e0
   gi_wp2
   obtain ⟨w2,hw2,z1,z2,z3,z4,z5⟩:=set31 X1.out X2.out (.string (sB x.1)) (.string (sB x.2)) (.int .u8 op) (.bool true)
   rw [hw2]
   refine ⟨((keepsFrom_below BK.out _).trans (z3.from _)),pre,x,rfl,G.out.1,FT.out,G.out.2.2.2,z1,z2,BW.out.trans (z4.mono (by omega))⟩
 case done=>
  rintro D ys W hD rfl ⟨g1,g2⟩ hK
  have b1:W.heap[n+1]?=_:=(g2.block (n+1) (by omega)).trans d1
  have b2:Boxed W (n+1+1) 4 (.bool false):=(g2.block (n+1+1) (by omega)).trans d2
  have y1:=Lib.cell_of_heap b1 0
  have y2:=Lib.cell_of_heap b1 1
  have y3:=Lib.cell_of_heap b1 2
  have y4:=Lib.frozen_of_heap b1
  have y5:=b2.cell
  have y6:=b2.frozen
  have X1:=Lib.hid b1
  have X2:=Lib.hid b2
  have HK:=Lib.hid hK
  have FN:Hid (findP l op=none):=find_none rfl g1
  have BW:Hid (Below n w W):=bN.trans (g2.mono (by omega))
  have HD:=Lib.hid hD
  clear g1 g2 hK b1 b2 hD hseq d0 d1 d2 bN
  go_wp2
  obtain ⟨w2,hw2,z1,z2,z3,z4,z5⟩:=set31 X1.out X2.out (.string ⟨#[]⟩) (.string ⟨#[]⟩) (.int .u8 0) (.bool false)
  rw [hw2]
  have hK2:w2.heap[D]?=some (.deferred (some [])):=z3.same D _ HK.out rfl
  have hg:=grownBy_putObj' w2 D (.deferred none)
  have hDn:=HD.out
  have q1:=(hg.block (n+1) (Array.getElem?_eq_some_iff.1 z1).1 (by simp;omega)).trans z1
  have q2:=(z2.kept hg (by simp;omega)).cell
  have q3:=Lib.cell_of_heap q1 0
  have q4:=Lib.cell_of_heap q1 1
  have q5:=Lib.cell_of_heap q1 2
  refine ⟨by simp,.inl ⟨_,_,rfl,run_takeDeferred hK2,?_⟩⟩
  refine ⟨.tuple #[.agg #[.string ⟨#[]⟩,.string ⟨#[]⟩,.int .u8 0],.bool false],?_,?_⟩
  ·simp [results,Tryz.results122,go_sem,q2,q3,q4,q5]
  ·rw [FN.out]
   exact ⟨rfl,by rw [hn0];exact (BW.out.trans (z4.mono (by omega))).trans (belowK_b (w:=w) (by omega) w2 D _ _ (by omega) hK2 rfl rfl)⟩
 case stop=>
  rintro D pre W hD ⟨p,x,rfl,h2,h3,h4,h5,h6,h7⟩ hK
  have hg:=grownBy_putObj' W D (.deferred none)
  have q1:=(hg.block (n+1) (Array.getElem?_eq_some_iff.1 h5).1 (by simp;omega)).trans h5
  have q2:=(h6.kept hg (by simp;omega)).cell
  have q3:=Lib.cell_of_heap q1 0
  have q4:=Lib.cell_of_heap q1 1
  have q5:=Lib.cell_of_heap q1 2
  have F:Hid (RetFind w (findP l op) op (.returned (.tuple #[codeV x op,.bool true])) (W.putObj D (.deferred none))):=by
   show RetFind _ _ _ _ _
   rw [find_some h4 h2 h3]
   exact ⟨rfl,by rw [hn0];exact h7.trans (belowK_b (w:=w) (by omega) W D _ _ (by omega) hK rfl rfl)⟩
  have HK:=Lib.hid hK
  clear h2 h3 h4 h5 h6 h7 hK hg q1
  gi_wp2
  refine ⟨by simp,.inl ⟨_,_,rfl,run_takeDeferred HK.out,?_⟩⟩
  refine ⟨.tuple #[codeV x op,.bool true],?_,F.out⟩
  simp [results,Tryz.results122,go_sem,q2,q3,q4,q5,codeV]
end Go.Proofs.YtmnleknehjkmgaaGreatDoor
namespace Go.Proofs.YtmnleknehjkmgaaGreatDoor
open Go.RowKit
attribute [local go_sem] Oper.semAt_some
theorem atV_none {ks:List Int}:∀ {L:List Tr},(∀ j,j<L.length→(L.getD j tr0).1∉ks)→atV ks L=none
 | [],_=>rfl
 | t :: r,h=>by
  unfold atV
  rw [atV_none (L:=r) (fun j hj=>by have:=h (j+1) (by simp;omega);rwa [List.getD_cons_succ] at this)]
  exact if_neg (h 0 (by simp))
theorem atV_last {ks:List Int}:∀ {L:List Tr} {k:Nat},k<L.length→(L.getD k tr0).1∈ks→(∀ j,k<j→j<L.length→(L.getD j tr0).1∉ks)→atV ks L=some k
 | [],k,hk,_,_=>by simp at hk
 | t :: r,0,_,h1,h2=>by
  unfold atV
  rw [atV_none (L:=r) (fun j hj=>by have:=h2 (j+1) (by omega) (by simp;omega);rwa [List.getD_cons_succ] at this)]
  exact if_pos h1
 | t :: r,k+1,hk,h1,h2=>by
  unfold atV
  rw [List.getD_cons_succ] at h1
  rw [atV_last (L:=r) (by simpa using hk) h1 (fun j hj hl=>by have:=h2 (j+1) (by omega) (by simp;omega);rwa [List.getD_cons_succ] at this)]
def atI (ks:List Int) (L:List Tr):Int:=match atV ks L with
 | some k=>k
 | none=>-1
def KeepN (N:Nat) (W W':World):Prop:=∀ k,k<N→W'.heap[k]?=W.heap[k]?
theorem KeepN.trans {N:Nat} {A B C:World} (h:KeepN N A B) (k:KeepN N B C):KeepN N A C:=fun x hx=>(k x hx).trans (h x hx)
theorem KeepN.of_below {N B:Nat} {W W':World} (h:Below B W W') (hN:N≤B):KeepN N W W':=fun k hk=>h.block k (by omega)
theorem KeepN.put {N:Nat} (W:World) (l:Nat) (o':Obj) (hl:N≤l):KeepN N W (W.putObj l o'):=fun k hk=>World.putObj_heap_other (by omega)
theorem KeepN.cell {N:Nat} {W W':World} (h:KeepN N W W') {a:Addr} (ha:a.block<N):W'.cell? a=W.cell? a:=World.cell?_of_block (h _ ha)
theorem OpsP.keepN {N:Nat} {W W':World} {A:Option Addr} {L:List Tr} (h:OpsP W A L) (k:KeepN N W W') (hA:∀ a,A=some a→L≠[]→a.block<N):OpsP W' A L:=by
 by_cases hL:L=[]
 ·exact .inl hL
 rcases h with h | ⟨b,off,rfl,hc⟩
 ·exact absurd h hL
 ·have hb:b<N:=hA _ rfl hL
  refine .inr ⟨b,off,rfl,fun j hj=>?_⟩
  obtain ⟨h1,h2,h3⟩:=hc j hj
  exact ⟨(k.cell (a:=⟨b,_,none⟩) hb).trans h1,(k.cell (a:=⟨b,_,none⟩) hb).trans h2,(k.cell (a:=⟨b,_,none⟩) hb).trans h3⟩
def opdV (t:Tr):Value:=.agg #[.int .i64 t.1,.int .i64 t.2.1,.int .i64 t.2.2]
def BackE (L:List Tr) (pre:List (Nat×Tr)) (x:Nat×Tr) (W:World):Prop:=pre.length<L.length∧x.1=L.length - 1 - pre.length∧x.2=L.getD x.1 tr0
theorem backward_any (A:Option Addr) (n cap:Nat) (w:World):Calls Tryz.prog 82 #[.slice A n cap] w fun e w'=>e=.returned (.func (.func 105) #[] #[.pointer (some ⟨w.heap.size,0,none⟩)])∧w.alloc (.cells #[.slice A n cap] 24)=w':=by
 go_enter Tryz.func82,Tryz.ntmps82
 go_wp2
 go_ret
 exact ⟨rfl,rfl⟩
theorem back_tells (n:Nat) (Bs:Nat) (A:Option Addr) (cap l:Nat) (L:List Tr) (hl:L.length=l) (hL:l≤1000) (N:Nat) (w:World) (hs:Boxed w Bs 24 (.slice A l cap)) (hP:OpsP w A L) (hB:Bs<N) (hA:∀ a,A=some a→L≠[]→a.block<N) (hN:N≤w.heap.size) :
  Stops.TellsW Fence.wide n Tryz.prog 105 #[.pointer (some ⟨Bs,0,none⟩)] (fun x:Nat×Tr=>#[.int .i64 x.1,opdV x.2]) (BackE L) (KeepN N) (fun ys=>ys.length=L.length) w:=fun lp J Jx W hW hJ hY hJx h0=>by
 have hJd:∀ (m:Nat) (z:List (Nat×Tr)) (X:World),J z X→J z (X.drewN m):=fun m z X h=>hJ z X _ none h ⟨rfl,rfl,rfl,Nat.le_refl _,fun _ _ _=>rfl⟩ (fun r e=>by cases e)
 have kb:Boxed W Bs 24 (.slice A l cap):=Boxed.under hs hW
 have kp:OpsP W A L:=hP.below hW
 have hc:=kb.cell
 have KB:=Lib.hid kb
 have KPP:=Lib.hid kp
 have J0:=Lib.hid h0
 have HY:=Lib.hid hY
 have HL:=Lib.hid hl
 have HA:=Lib.hid hA
 have HJd:=Lib.hid hJd
 clear h0 hY hJ hJx hW hs hP kb kp hl hA hN hJd
 refine callsIn_wide.2 ?_
 show Calls Tryz.prog 105 #[.func (.yield lp) #[] #[],.pointer (some ⟨Bs,0,none⟩)] W _
 go_enter Tryz.func105,Tryz.ntmps105
 go_wp2
 go_loopw [3] (fun i wr=>∃ (pre:List (Nat×Tr)),pre.length≤l∧i=.int .i64 ((l:Int) - 1 - (pre.length:Int))∧Hid (KeepN N W wr)∧Hid (J pre wr)) (fun i _=>(intOf i+1).toNat)
 case atStart=>exact ⟨[],Nat.zero_le _,by simp,fun _ _=>rfl,J0.out⟩
 case round=>
  clear J0 hc
  obtain ⟨pre,hpl,rfl,KK,JJ⟩:=hrel
  by_cases hlt:pre.length<l
  ·obtain ⟨j,hj⟩:∃ j:Nat,j=l - 1 - pre.length:=⟨_,rfl⟩
   have hji:(l:Int) - 1 - (pre.length:Int)=(j:Int):=by omega
   have hjL:j<L.length:=by have:=HL.out;omega
   obtain ⟨b,off,rfl,-,p0,p1,p2⟩:=(KPP.out.keepN KK.out HA.out).at_ hjL
   have hgd:L.getD j tr0=L[j]:=by rw [List.getD_eq_getElem?_getD,List.getElem?_eq_getElem hjL];rfl
   rw [← hgd] at p0 p1 p2
   have E:Hid (BackE L pre (j,L.getD j tr0) wr):=⟨by rw [HL.out];exact hlt,by rw [HL.out];exact hj,rfl⟩
   obtain ⟨t,ht⟩:∃ t,L.getD j tr0=t:=⟨_,rfl⟩
   rw [ht] at p0 p1 p2 E
   obtain ⟨t0,t1,t2⟩:=t
   simp only at p0 p1 p2
   have hjl:j<l:=by omega
   have hjc:(j:Int)<(l:Int):=by omega
   have hc:wr.cell? ⟨Bs,0,none⟩=some (.slice (some ⟨b,off,none⟩) l cap):=(KK.out.cell (a:=⟨Bs,0,none⟩) hB).trans KB.out.cell
   have hyd:=HY.out pre (j,t0,t1,t2) wr JJ.out E.out
   have PL:Hid (pre.length+1+j=l):=by show pre.length+1+j=l;omega
   rw [hji]
   obtain ⟨fn,tmps,assign,body,hy,hR⟩:=hyd
   simp only [opdV] at hy
   clear hji hgd ht hjL E hlt hpl hj
   go_upto_region 3 with fail
   refine (wpIn_wide (n:=n)).1 ?_
   gi_wp2
   refine ⟨fun h=>(by cases h),hR.mono ?_⟩
   rintro e3 W3 (⟨rfl,hJ3,hk3⟩ | ⟨rfl,hJx3⟩)
   ·have K3:=Lib.hid (KK.out.trans hk3)
    have J3:=Lib.hid hJ3
    clear hJ3 hk3 hR hy
    gi_wp2
    go_wp2
    go_roundw
    case rel=>exact ⟨pre++[(j,t0,t1,t2)],by have:=PL.out;simp;omega,by have:=PL.out;simp;omega,K3.out,J3.out⟩
    case measure=>simp [intOf]
   ·clear hR hy
    gi_wp2
    go_wp2
    refine bodyPost_ret (results_none rfl _ _ _) rfl ?_
    exact ⟨⟨_,rfl⟩,.inr ⟨_,hJx3⟩⟩
  ·have P:Hid (pre.length=L.length):=by have:=HL.out;show _=_;omega
   have hji:(l:Int) - 1 - (pre.length:Int)=-1:=by omega
   rw [hji]
   go_wp2
   go_end0
   have h:=JJ.out
   exact ⟨⟨_,rfl⟩,.inl ⟨_,P.out,h⟩⟩
theorem vat_any (x:Vr) (v:Value) (s:ByteArray) (A:Option Addr) (cap l:Nat) (L:List Tr) (hl:L.length=l) (hL:l≤1000) (w:World) (hv:VarA w v x) (H:OpsP w A L) :
  Calls Tryz.prog 57 #[v,.agg #[.string s,.slice A l cap]] w fun e w'=>e=.returned (.int .i64 (atI x.1 L))∧Below w.heap.size w w':=by
 obtain ⟨b1,b2,b3,Ak,ck,rfl,v1,v2,v3,v4,v5⟩:=hv
 obtain ⟨ks,hks⟩:∃ ks,x.1=ks:=⟨_,rfl⟩
 rw [hks] at v1 v2 v5 ⊢
 clear hks v3 v4
 obtain ⟨f2,hf2⟩:∃ f:Value,Value.func (.func 79) #[] #[.pointer (some ⟨b2,0,none⟩),.pointer (some ⟨b3,0,none⟩)]=f:=⟨_,rfl⟩
 obtain ⟨w0,hw0⟩:∃ w0,((w.alloc (.cells #[.func (.func 77) #[] #[.pointer (some ⟨b1,0,none⟩)],.func (.func 79) #[] #[.pointer (some ⟨b2,0,none⟩),.pointer (some ⟨b3,0,none⟩)]] 89)).alloc (.cells #[.string s,.slice A l cap] 26)).alloc (.cells #[.int .i64 0] 3)=w0:=⟨_,rfl⟩
 obtain ⟨n,hn⟩:∃ n,w.heap.size=n:=⟨_,rfl⟩
 have z0:w0.heap.size=n+1+1+1:=by rw [← hw0,← hn];simp
 have b0:Below n w w0:=by rw [← hw0,← hn];exact (((Below.refl _ w).alloc (Nat.le_refl _) _).alloc (by simp) _).alloc (by simp;omega) _
 have c0:w0.heap[n]?=some (.cells #[.func (.func 77) #[] #[.pointer (some ⟨b1,0,none⟩)],f2] 89 (0,0)):=by
  rw [← hw0,← hn,← hf2]
  exact (Below.heap_alloc _ _ _ (by simp;omega)).trans ((Below.heap_alloc _ _ _ (by simp)).trans (World.alloc_heap_new w _))
 have c1:w0.heap[n+1]?=some (.cells #[.string s,.slice A l cap] 26 (0,0)):=by
  rw [← hw0,← hn]
  refine (Below.heap_alloc _ _ _ (by simp)).trans ?_
  have h:=World.alloc_heap_new (w.alloc (.cells #[.func (.func 77) #[] #[.pointer (some ⟨b1,0,none⟩)],.func (.func 79) #[] #[.pointer (some ⟨b2,0,none⟩),.pointer (some ⟨b3,0,none⟩)]] 89)) (.cells #[.string s,.slice A l cap] 26)
  rwa [World.size_alloc] at h
 have c2:Boxed w0 (n+1+1) 3 (.int .i64 0):=by
  rw [← hw0,← hn]
  have h:=Boxed.new ((w.alloc (.cells #[.func (.func 77) #[] #[.pointer (some ⟨b1,0,none⟩)],.func (.func 79) #[] #[.pointer (some ⟨b2,0,none⟩),.pointer (some ⟨b3,0,none⟩)]] 89)).alloc (.cells #[.string s,.slice A l cap] 26)) 3 (.int .i64 0)
  rwa [World.size_alloc,World.size_alloc] at h
 rw [hf2] at hw0
 have hbk:=backward_any A l cap w0
 rw [z0] at hbk
 have k1:=Lib.cell_of_heap c1 1
 refine callsIn_wide.1 (callsIn_of_wp_marks (n:=3) Tryz.func57 rfl trivial ?_ rfl)
 simp only [Tryz.ntmps57,List.size_toArray,List.length_cons,List.length_nil,Nat.reduceAdd,Nat.reduceSub,Array.replicate_succ,Array.replicate_zero,List.push_toArray,List.append_toArray,List.nil_append,List.cons_append]
 refine wpIn_wide.2 ?_
 rw [hf2]
 go_wp2_with fail
 refine hbk.mono ?_
 rintro e W0 ⟨rfl,hW0⟩
 have hs:Boxed W0 (n+1+1+1) 24 (.slice A l cap):=by
  have h:=Boxed.new w0 24 (.slice A l cap)
  rw [hW0,z0] at h
  exact h
 have zW:W0.heap.size=n+1+1+1+1:=by rw [← hW0];simp;omega
 have bW:Below w0.heap.size w0 W0:=by rw [← hW0];exact (Below.refl _ _).alloc (Nat.le_refl _) _
 have d0:=(bW.block n (by omega)).trans c0
 have d2:Boxed W0 (n+1+1) 3 (.int .i64 0):=(bW.block _ c2.lt).trans c2
 have bN:Below n w W0:=b0.trans (bW.mono (by omega))
 have HW:OpsP W0 A L:=H.below (by rw [hn];exact bN)
 have hA:∀ a,A=some a→L≠[]→a.block<n:=fun a ha hne=>by
  rcases H with h | ⟨bb,off,e,hc⟩
  ·exact absurd h hne
  ·rw [ha] at e
   obtain rfl:=Option.some.inj e
   have h9:bb<w.heap.size:=World.block_lt_of_cell? w _ (hc 0 (List.length_pos_iff.2 hne)).1
   show bb<n
   omega
 have v1':Boxed W0 b1 80 (.slice Ak ks.length ck):=Boxed.under v1 (by rw [hn];exact bN)
 have v2':KsP W0 Ak ks:=v2.below (by rw [hn];exact bN)
 have hseq:=back_tells 2 (n+1+1+1) A cap l L hl hL (n+1+1+1+1) W0 hs HW (by omega) (fun a h1 h2=>by have:=hA a h1 h2;omega) (by omega)
 have HL:=Lib.hid hl
 have HN:=Lib.hid hn
 have BN:=Lib.hid bN
 have D0:=Lib.hid d0
 have D2:=Lib.hid d2
 have V1:=Lib.hid v1'
 have V2:=Lib.hid v2'
 have V5:=Lib.hid v5
 clear hbk hs bW b0 c0 c1 c2 hW0 hw0 hn z0 hl hA H HW v1 v2 v1' v2' v5 k1 w0 d0 d2 bN hf2
 go_wp2_with fail
 refine wpIn_wide.1 (Stops.wpIn_tellsW (F:=Fence.wide) (n:=3) rfl (by omega) (gf:=105) (lb:=#[.pointer (some ⟨n+1+1+1,0,none⟩)]) rfl trivial (enters_of Tryz.func105 (by kernel_rfl) rfl)
  hseq (fun h k=>h.trans k) (fun W l o o' hl _ _=>KeepN.put W l o' (by omega)) (fun _=>rfl)
  (fun pre W=>(∀ j,l≤j+pre.length→j<l→(L.getD j tr0).1∉ks)∧Below (n+1+1+1+1) W0 W)
  (fun pre W=>∃ k,atV ks L=some k∧Boxed W (n+1+1) 3 (.int .i64 (k:Nat))∧Below n w W)
  (fun s X Y row h hg hr=>⟨h.1,h.2.grown hg (by have:=h.2.size;omega) fun r e=>by have:=(hr r e).1;omega⟩)
  (fun s X Y row h hg hr=>by
   obtain ⟨k,h1,h2,h3⟩:=h
   have hne:∀ k,k<n+1+1+1+1→some k≠row:=fun k hk e=>by have:=(hr k e.symm).1;omega
   exact ⟨k,h1,h2.kept hg (hne _ (by omega)),h3.grown hg (by have:=h2.lt;omega) fun r e=>by have:=(hr r e).1;omega⟩)
  ⟨fun j h1 h2=>by simp at h1;omega,Below.refl _ _⟩
  (fun pre x a' W=>BackE L pre x W∧∃ b,n+4≤b∧W.heap[b]?=some (.cells #[.int .i64 x.2.1,.int .i64 x.2.2.1,.int .i64 x.2.2.2] 50 (0,0))∧a'={tmps:=#[.agg #[.func (.func 77) #[] #[.pointer (some ⟨b1,0,none⟩)],f2],.agg #[.string s,.slice A l cap],.pointer (some ⟨n,0,none⟩),.pointer (some ⟨n+1,0,none⟩),.pointer (some ⟨n+1+1,0,none⟩),.int .i64 x.1,.pointer (some ⟨b,0,none⟩),.pointer (some ⟨n+1,1,none⟩),.slice A l cap,.func (.func 105) #[] #[.pointer (some ⟨n+1+1+1,0,none⟩)],.int .i64 x.1,opdV x.2,undef,undef,undef,undef,undef],defers:=[]})
  (fun pre x s X Y row h hg hr=>by
   obtain ⟨h0,b,h1,h2,h3⟩:=h
   exact ⟨h0,b,h1,(grownBy_keeps_cells hg (fun r e=>(hr r e).2) h2 rfl).trans h2,h3⟩)
  ?assign ?body ?done ?stop)
 case assign=>
  rintro lp pre ⟨k,t0,t1,t2⟩ W K hI hE hK
  simp only [opdV]
  gi_wp2
  refine hK _ _ ((KeepsOthers.alloc _ _).from _) (KeepN.of_below ((Below.refl (n+1+1+1+1) W).alloc (by have:=hI.2.size;omega) _) (Nat.le_refl _)) ⟨hI.1,hI.2.alloc (by have:=hI.2.size;omega) _⟩ ⟨hE,W.heap.size,by have:=hI.2.size;omega,World.alloc_heap_new W _,rfl⟩
 case body=>
  rintro lp pre ⟨k,t0,t1,t2⟩ a' W ⟨g1,g2⟩ ⟨hE,b,hb,hc,rfl⟩
  obtain ⟨e1,e2,e3⟩:=hE
  simp only at e1 e2 e3 hc
  have q0:=Lib.cell_of_heap hc 0
  have q1:=Lib.cell_of_heap hc 1
  have q2:=Lib.cell_of_heap hc 2
  have d0:=(g2.block n (by omega)).trans D0.out
  have p0:=Lib.cell_of_heap d0 0
  have his:=isIn_any b1 Ak ck ks.length ks rfl V5.out (t0,t1,t2) W (Boxed.under V1.out (by rw [zW];exact g2)) (V2.out.below (by rw [zW];exact g2))
  simp only at his
  have KL:Hid (pre.length<l):=by rw [← HL.out];exact e1
  have KE:Hid (k=l - 1 - pre.length):=by rw [← HL.out];exact e2
  have KT:Hid ((L.getD k tr0).1=t0):=by show (L.getD k tr0).1=t0;rw [← e3]
  have G:=Lib.hid (And.intro g1 (And.intro g2 hb))
  have hWb:Hid (n+4≤W.heap.size):=by have:=g2.size;show _≤_;omega
  simp only [opdV]
  by_cases hin:t0∈ks
  ·have HI:=Lib.hid hin
   rw [decide_eq_true hin] at his
   have x2:Boxed W (n+1+1) 3 (.int .i64 0):=(g2.block _ (by omega)).trans D2.out
   have X2:=Lib.hid x2
   clear hc d0 g1 g2 hb e1 e2 e3 hin x2
   gi_wp2_with fail
   refine ⟨trivial,CallsIn.inRound lp (callsIn_wide.2 his) |>.mono ?_⟩
   rintro e w' ⟨rfl,hb⟩
   have y:=Boxed.under X2.out hb
   have y5:=y.cell
   have y6:=y.frozen
   have Y:=Lib.hid y
   have BW:=Lib.hid hb
   clear his hb y
   gi_wp2
   have hb1:Below W.heap.size W w':=BW.out
   refine ⟨(keepsFrom_below hb1 _).trans (KeepsOthers.from (KeepsOthers.setCell _ _ _) _),k,?_,?_,?_⟩
   ·refine atV_last (by rw [HL.out];have:=KL.out;have:=KE.out;omega) (by rw [KT.out];exact HI.out) (fun j h1 h2=>G.out.1 j (by have:=KE.out;have:=KL.out;omega) (by rw [← HL.out];exact h2))
   ·exact Boxed.set _ Y.out
   ·exact (BN.out.trans ((G.out.2.1.mono (by omega)).trans (hb1.mono (by have:=hWb.out;omega)))).setCell (p:=⟨n+1+1,0,none⟩) (by simp;omega) _
  ·have HI:=Lib.hid hin
   rw [decide_eq_false hin] at his
   clear hc d0 g1 g2 hb e1 e2 e3 hin
   gi_wp2_with fail
   refine ⟨trivial,CallsIn.inRound lp (callsIn_wide.2 his) |>.mono ?_⟩
   rintro e w' ⟨rfl,hb⟩
   have P:Hid (KeepsFrom W0.heap.size W w'∧KeepN (n+1+1+1+1) W w'∧(∀ j,l≤j+(pre++[((k,t0,t1,t2):Nat×Tr)]).length→j<l→(L.getD j tr0).1∉ks)∧Below (n+1+1+1+1) W0 w'):=by
    refine ⟨keepsFrom_below hb _,KeepN.of_below hb hWb.out,fun j h1 h2=>?_,G.out.2.1.trans (hb.mono hWb.out)⟩
    by_cases e:j=k
    ·subst e;rw [KT.out];exact HI.out
    ·exact G.out.1 j (by have:=KE.out;have:=KL.out;simp at h1;omega) h2
   clear his hb
   gi_wp2
   exact P.out
 case done=>
  rintro D ys W hD hys ⟨g1,g2⟩ hK
  have b2:Boxed W (n+1+1) 3 (.int .i64 0):=(g2.block _ (by omega)).trans D2.out
  have y5:=b2.cell
  have y6:=b2.frozen
  have X2:=Lib.hid b2
  have HK:=Lib.hid hK
  have FN:Hid (atI ks L=-1):=by
   show atI ks L=-1
   unfold atI
   rw [atV_none (fun j hj=>g1 j (by rw [hys,HL.out];omega) (by rw [← HL.out];exact hj))]
  have BW:Hid (Below n w W):=BN.out.trans (g2.mono (by omega))
  have HD:=Lib.hid hD
  clear g1 g2 hK b2 hD hseq hys
  go_wp2
  have z1:=Boxed.set (.int .i64 (-1)) X2.out
  have z2:KeepsOthers W (W.setCell ⟨n+1+1,0,none⟩ (.int .i64 (-1))):=KeepsOthers.setCell _ _ _
  have z3:Below n w (W.setCell ⟨n+1+1,0,none⟩ (.int .i64 (-1))):=BW.out.setCell (p:=⟨n+1+1,0,none⟩) (by simp;omega) _
  obtain ⟨w2,hw2⟩:∃ w2,W.setCell ⟨n+1+1,0,none⟩ (.int .i64 (-1))=w2:=⟨_,rfl⟩
  rw [hw2] at z1 z2 z3 ⊢
  have hK2:w2.heap[D]?=some (.deferred (some [])):=z2.same D _ HK.out rfl
  have hg:=grownBy_putObj' w2 D (.deferred none)
  have hDn:=HD.out
  have q2:=(z1.kept hg (by simp;omega)).cell
  refine ⟨by simp,.inl ⟨_,_,rfl,run_takeDeferred hK2,?_⟩⟩
  refine ⟨.int .i64 (-1),?_,?_⟩
  ·simp [results,Tryz.results57,go_sem,q2]
  ·have hn0:w.heap.size=n:=HN.out
   exact ⟨by rw [FN.out],by rw [HN.out];exact z3.trans (belowK_b (w:=w) (by omega) w2 D _ _ (by omega) hK2 rfl rfl)⟩
 case stop=>
  rintro D pre W hD ⟨k,h1,h6,h7⟩ hK
  have hg:=grownBy_putObj' W D (.deferred none)
  have q2:=(h6.kept hg (by simp;omega)).cell
  have F:Hid (atI ks L=(k:Int)):=by
   show atI ks L=_
   unfold atI
   rw [h1]
  have hn0:w.heap.size=n:=HN.out
  have BB:Hid (Below w.heap.size w (W.putObj D (.deferred none))):=by
   rw [HN.out];exact h7.trans (belowK_b (w:=w) (by omega) W D _ _ (by omega) hK rfl rfl)
  have HK:=Lib.hid hK
  clear h1 h6 h7 hK hg hseq hn0
  gi_wp2
  refine ⟨by simp,.inl ⟨_,_,rfl,run_takeDeferred HK.out,?_⟩⟩
  refine ⟨.int .i64 k,?_,by rw [F.out],BB.out⟩
  simp [results,Tryz.results57,go_sem,q2]
end Go.Proofs.YtmnleknehjkmgaaGreatDoor
namespace Go.Proofs.YtmnleknehjkmgaaGreatDoor
open Go.RowKit
def kindsA:Array Value:=#[.nilFunc,.int .i64 0,.int .i64 0,.nilFunc,
 .func (.func 106) #[] #[],.int .i64 0,.int .i64 0,.func (.func 107) #[] #[],
 .func (.func 108) #[] #[],.int .i64 0,.int .i64 0,.func (.func 107) #[] #[],
 .func (.func 109) #[] #[],.int .i64 0,.int .i64 0,.func (.func 107) #[] #[],
 .func (.func 110) #[] #[],.int .i64 0,.int .i64 0,.func (.func 111) #[] #[],
 .func (.func 112) #[] #[],.int .i64 (-128),.int .i64 127,.func (.func 113) #[] #[],
 .func (.func 114) #[] #[],.int .i64 (-32768),.int .i64 65535,.func (.func 115) #[] #[],
 .func (.func 114) #[] #[],.int .i64 0,.int .i64 65535,.func (.func 116) #[] #[],
 .func (.func 117) #[] #[],.int .i64 0,.int .i64 0,.func (.func 107) #[] #[],
 .func (.func 118) #[] #[],.int .i64 0,.int .i64 0,.func (.func 107) #[] #[],
 .func (.func 114) #[] #[],.int .i64 (-128),.int .i64 127,.func (.func 119) #[] #[]]
theorem wpList_build {P:Program} {ops:Array Oper} {Q:Exit→Act→World→Prop} {o:Oper} {l:List Oper} {a:Act} {w:World} (t:TypeId) (parts:Array (Nat×Operand)) (ho:o.op=.build t parts) (hg:o.guard=none) (cells:Array Value)
  (hc:P.built t (parts.map fun (i,x)=>(i,a.eval x)).toList=some cells) (h:wpList P ops Q l (a.put o.dst (.agg cells)) w):wpList P ops Q (o :: l) a w:=by
 simp only [wpList]
 rw [if_pos (by simp [Region.wanted,hg])]
 left
 exact wp_build t parts ho (by rw [hc];rfl) (by rw [hc];exact h)
theorem kindsA_size:kindsA.size=44:=rfl
theorem kinds_any (w:World) :
  Calls Tryz.prog 83 #[] w fun e w'=>e=.returned (.agg kindsA)∧w.alloc (.cells kindsA 152)=w':=by
 have hst:∀ c:Array Value,c.size=44→(storeCells ⟨w.heap.size,0,none⟩ kindsA.toList 0).run Tryz.prog (w.alloc (.cells c 152))=.ok () (w.alloc (.cells kindsA 152)):=fun c hc=>
  run_storeCells_new w 152 c kindsA (by kernel_rfl) (by rw [hc,kindsA_size]) (by kernel_rfl)
 have hld:(loadVar 152 ⟨w.heap.size,0,none⟩).run Tryz.prog (w.alloc (.cells kindsA 152))=.ok (.agg kindsA) (w.alloc (.cells kindsA 152)):=
  run_loadVar_new w 152 kindsA 11 112 (by kernel_rfl) (by kernel_rfl)
 have hks:=kindsA_size
 go_enter Tryz.func83,Tryz.ntmps83
 go_wp2_with (with_reducible refine wpList_build (o:=⟨some 11,_,_,_,_,_⟩) _ _ rfl rfl kindsA (by kernel_rfl) ?_)
 refine bodyPost_ret (v:=.agg kindsA) ?_ rfl ⟨rfl,rfl⟩
 simp [results,Tryz.results83,asAddr,hld]
end Go.Proofs.YtmnleknehjkmgaaGreatDoor
