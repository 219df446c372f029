/-
  SeF, SeRe, SeRf, LpA, CoA, CoB, CoC, LpB, CoD, CoE.
-/
import Derived.Test.YtajlleeonddinaaGreatDoorGAT
import Derived.Test.YtajlleeonddinaaGreatDoorGAR
import Derived.Test.YtajlleeonddinaaGreatDoorGAB
import Derived.Test.YtajlleeonddinaaGreatDoorMSeN
import Derived.RangeFuncNested
import Derived.Test.YtajlleeonddinaaGreatDoorGAJ
import Derived.Deep.OwnRows
import Derived.Deep.WholeRow
import Derived.KernelRfl
import Derived.Test.YtajlleeonddinaaGreatDoorGAA
import Derived.RangeFuncKeeps
import Derived.RangeFuncLeaves
import Derived.Test.YtajlleeonddinaaGreatDoorMEsA
set_option linter.all false
set_option maxRecDepth 100000
set_option maxHeartbeats 4000000
namespace Go.Proofs.YtajlleeonddinaaGreatDoor
open Go.RowKit Go.Shelf
attribute [local go_sem] Oper.semAt_some
def RetFill (w:World) (m:Str) (o:Option (List Tr)) (e:Ending) (w':World):Prop:=match o with
 | some L2=>∃ v,e=.returned (.tuple #[.agg #[.string (upB (sB m)),v],.bool true])∧OwnT w' w.heap.size v L2∧Below w.heap.size w w'
 | none=>e=.returned (.tuple #[.agg #[.string ⟨#[]⟩,.slice none 0 0],.bool false])∧Below w.heap.size w w'
theorem putL_len (ks:List Int) (L:List Tr) (n:Int):(putL ks L n).length=L.length:=len_of_shape (putL_shape ks L n)
theorem vars_boxes {w1:World} {f g f' g':Value} {x x':Vr} (h:VarA w1 (.agg #[f,g]) x) (h':VarA w1 (.agg #[f',g']) x') (b:Nat) (hb:w1.heap.size=b) :
  ∃ w2,(w1.alloc (.cells #[f,g] 208)).alloc (.cells #[f',g'] 208)=w2∧
   w2.heap[b]?=some (.cells #[f,g] 208 (0,0))∧w2.heap[b+1]?=some (.cells #[f',g'] 208 (0,0))∧VarA w2 (.agg #[f,g]) x∧VarA w2 (.agg #[f',g']) x'∧Below w1.heap.size w1 w2∧w2.heap.size=b+2:=by
 subst hb
 have bl:Below w1.heap.size w1 ((w1.alloc (.cells #[f,g] 208)).alloc (.cells #[f',g'] 208)):=((Below.refl _ w1).alloc (Nat.le_refl _) _).alloc (by simp) _
 refine ⟨_,rfl,(Below.heap_alloc _ _ _ (by simp)).trans (World.alloc_heap_new w1 _),?_,h.below bl,h'.below bl,bl,by simp⟩
 have h:=World.alloc_heap_new (w1.alloc (.cells #[f,g] 208)) (.cells #[f',g'] 208)
 rwa [World.size_alloc] at h
theorem ins_box (w3:World) (u:ByteArray) (v:Value) (c:Nat) (hc:w3.heap.size=c):∃ w4,w3.alloc (.cells #[.string u,v] 24)=w4∧w4.heap[c]?=some (.cells #[.string u,v] 24 (0,0))∧Below w3.heap.size w3 w4∧w4.heap.size=c+1:=by
 subst hc
 exact ⟨_,rfl,World.alloc_heap_new w3 _,(Below.refl _ w3).alloc (Nat.le_refl _) _,by simp⟩
theorem fill_any (page op:Int) (m:Str) (hm:m.length≤1000) (A:Option Addr) (cap l:Nat) (L:List Tr) (hl:L.length=l) (hL:l≤1000) (ex:Str) (hx:ex.length≤1000) (al:Bool) (d q:Int) (w:World) (H:OpsP w A L) :
  Calls Tryz.prog 149 #[enV page op m (.slice A l cap) ex al,.int .i64 d,.int .i64 q] w (RetFill w m (fillV ex L d q)):=by
 have hva:=fun w=>variables_any page op m A l cap ex hx al w
 have hmk:=fun w h=>make_any (sB m) (by rw [sB_size];unfold maxLen;omega) A cap L (by omega) w h
 rw [hl] at hmk
 obtain ⟨x,hxx⟩:∃ x,(varsV ex).1=x:=⟨_,rfl⟩
 obtain ⟨y,hyy⟩:∃ y,(varsV ex).2=y:=⟨_,rfl⟩
 have FV:Hid (fillV ex L d q=if putB x L d=true∧putB y (putL x.1 L d) q=true then some (putL y.1 (putL x.1 L d) q) else none):=by show _=_;rw [← hxx,← hyy];rfl
 unfold RetVars at hva
 rw [hxx,hyy] at hva
 clear hxx hyy
 unfold enV at hva ⊢
 obtain ⟨w0,hw0⟩:∃ w0,(w.alloc (.cells #[.int .i64 page,.int .u8 op,.string (sB m),.slice A l cap,.string (sB ex),.bool al] 134)).alloc (.cells #[.string ⟨#[]⟩,.slice none 0 0] 24)=w0:=⟨_,rfl⟩
 obtain ⟨n,hn⟩:∃ n,w.heap.size=n:=⟨_,rfl⟩
 have b0:Below n w w0:=by rw [← hw0,← hn];exact ((Below.refl _ w).alloc (Nat.le_refl _) _).alloc (by simp) _
 have z0:w0.heap.size=n+1+1:=by rw [← hw0,← hn];simp
 have c0:w0.heap[n]?=some (.cells #[.int .i64 page,.int .u8 op,.string (sB m),.slice A l cap,.string (sB ex),.bool al] 134 (0,0)):=by
  rw [← hw0,← hn]
  exact (Below.heap_alloc _ _ _ (by simp)).trans (World.alloc_heap_new w _)
 have c1:w0.heap[n+1]?=some (.cells #[.string ⟨#[]⟩,.slice none 0 0] 24 (0,0)):=by
  rw [← hw0,← hn]
  have h:=World.alloc_heap_new (w.alloc (.cells #[.int .i64 page,.int .u8 op,.string (sB m),.slice A l cap,.string (sB ex),.bool al] 134)) (.cells #[.string ⟨#[]⟩,.slice none 0 0] 24)
  rwa [World.size_alloc] at h
 have VA:=Lib.hid (hva w0)
 have MK:=Lib.hid hmk
 have HN:=Lib.hid hn
 have B0:=Lib.hid b0
 have C0:=Lib.hid c0
 have C1:=Lib.hid c1
 have P0:=Lib.hid (H.below (by rw [hn];exact b0))
 have k0:=Lib.cell_of_heap c0 0
 have k1:=Lib.cell_of_heap c0 1
 have k2:=Lib.cell_of_heap c0 2
 have k3:=Lib.cell_of_heap c0 3
 have k4:=Lib.cell_of_heap c0 4
 have k5:=Lib.cell_of_heap c0 5
 clear hva hmk c0 c1 b0 H
 go_enter Tryz.func149,Tryz.ntmps149
 go_wp2_with fail
 refine VA.out.mono ?_
 rintro e w1 ⟨f,g,f',g',rfl,va,va',hb⟩
 obtain ⟨p1,p2,p3,hf,hg⟩:=va.form
 obtain ⟨p4,p5,p6,hf',hg'⟩:=va'.form
 subst hf hg hf' hg'
 obtain ⟨b,hbs⟩:∃ b,w1.heap.size=b:=⟨_,rfl⟩
 have hnb:n+2≤b:=by have:=hb.size;omega
 obtain ⟨w2,hw2,x1,x2,x3,x4,x5,x6⟩:=vars_boxes va va' b hbs
 have B1:Hid (Below n w w1):=B0.out.trans (hb.mono (by omega))
 have B2:Hid (Below n w w2):=B1.out.trans (x5.mono (by omega))
 have bb:Below (n+1+1) w0 w2:=(hb.mono (by omega)).trans (x5.mono (by omega))
 have c0:=(bb.block n (by omega)).trans C0.out
 have c1:=(bb.block (n+1) (by omega)).trans C1.out
 have P2:=Lib.hid (P0.out.below (by rw [z0];exact bb))
 have X1:=Lib.hid x1
 have X2:=Lib.hid x2
 have X3:=Lib.hid x3
 have X4:=Lib.hid x4
 have mk:=MK.out w2 P2.out
 have C0:=Lib.hid c0
 have C1:=Lib.hid c1
 clear k0 k1 k2 k3 k4 k5 VA va va' hb x1 x2 x3 x4 x5 bb P0 B0 MK hw0 z0
 go_upto_region 2 with fail
 have k2:=Lib.cell_of_heap c0 2
 have k3:=Lib.cell_of_heap c0 3
 clear c0 c1
 go_wp2_with fail
 refine mk.mono ?_
 rintro e w3 ⟨v,rfl,hO,hb3⟩
 obtain ⟨A3,cap3,hv3,-,-⟩:=hO.ops
 rw [hl] at hv3
 subst hv3
 obtain ⟨u,hu⟩:∃ u,upB (sB m)=u:=⟨_,rfl⟩
 obtain ⟨c,hc⟩:∃ c,w3.heap.size=c:=⟨_,rfl⟩
 obtain ⟨w4,hw4,y1,y2,y3⟩:=ins_box w3 u (.slice A3 l cap3) c hc
 rw [hu]
 have hb4:Below w2.heap.size w2 w4:=hb3.trans (y2.mono hb3.size)
 have hbc:b+2≤c:=by have:=hb3.size;omega
 have BB4:=Lib.hid hb4
 have B4:Hid (Below n w w4):=B2.out.trans (hb4.mono (by omega))
 have D1:=Lib.hid ((hb4.block b (by omega)).trans X1.out)
 have D2:=Lib.hid ((hb4.block (b+1) (by omega)).trans X2.out)
 have D3:=Lib.hid y1
 have DN:=Lib.hid ((hb4.block (n+1) (by omega)).trans C1.out)
 have V3:=X3.out.below hb4
 have V4:=Lib.hid (X4.out.below hb4)
 have O4:OwnT w4 (b+2) (.slice A3 l cap3) L:=by have h:=OwnT.below hO y2;rw [x6] at h;exact h
 have W2:Hid (VarA w2 _ y):=X4
 have PU:=Lib.hid (put_any x _ u A3 cap3 l (b+2) L hl hL d w4 V3 O4 (by omega))
 have LT:Hid (∀ gg,(Value.slice A3 l cap3).ownBlock=some gg→b+2≤gg∧gg<c):=fun gg e=>by
  have h:=(World.ownsRow.lt hO gg e)
  rw [x6] at h
  omega
 have x6':=Lib.hid x6
 have hU:=Lib.hid hu
 have f1:=Lib.cell_of_heap D1.out 0
 have f2:=Lib.cell_of_heap D1.out 1
 have f3:=Lib.cell_of_heap D3.out 0
 have f4:=Lib.cell_of_heap D3.out 1
 clear mk hO hb3 y1 y2 hb4 V3 X1 X2 X3 P2 B1 B2 x6 k2 k3 C0 C1 O4 hu
 go_upto_region 3 with fail
 go_wp2_with fail
 refine PU.out.mono ?_
 rintro e w5 ⟨rfl,hO5,hg5⟩
 have ne1:∀ k,k<b+2→some k≠(Value.slice A3 l cap3).ownBlock:=fun k hk e=>by have:=(LT.out k e.symm).1;omega
 have nec:some c≠(Value.slice A3 l cap3).ownBlock:=fun e=>by have:=(LT.out c e.symm).2;omega
 have E2:=(hg5.block (b+1) (by omega) (ne1 _ (by omega))).trans D2.out
 have E3:=(hg5.block c (by omega) nec).trans D3.out
 have EN:=(hg5.block (n+1) (by omega) (ne1 _ (by omega))).trans DN.out
 have bb5:Below (b+2) w4 w5:=(Below.refl _ w4).grown hg5 (by omega) fun k e=>(LT.out k e).1
 have B5:Hid (Below n w w5):=B4.out.trans (bb5.mono (by omega))
 have sz5:c+1≤w5.heap.size:=by have:=hg5.size;omega
 have V5:VarA w5 (.agg #[.func (.func 196) #[] #[.pointer (some ⟨p4,0,none⟩)],.func (.func 197) #[] #[.pointer (some ⟨p5,0,none⟩),.pointer (some ⟨p6,0,none⟩)]]) y:=W2.out.below (BB4.out.trans (by rw [x6'.out];exact bb5))
 cases hp1:putB x L d with
 | false=>
  have FN:Hid (fillV ex L d q=none):=by show _=_;rw [FV.out,if_neg (by rw [hp1];exact fun h=>absurd h.1 (by decide))]
  have e0:=Lib.cell_of_heap EN 0
  have e1:=Lib.cell_of_heap EN 1
  have ez:=Lib.frozen_of_heap EN
  have EN9:=Lib.hid EN
  clear hp1 E2 E3 V5 hO5 hg5 bb5 PU f1 f2 f3 f4 EN ne1 nec
  go_wp2
  have B6:Hid (Below n w ((w5.setCell ⟨n+1,0,none⟩ (.string ⟨#[]⟩)).setCell ⟨n+1,1,none⟩ (.slice none 0 0))):=(B5.out.setCell (p:=⟨n+1,0,none⟩) (show n≤n+1 by omega) _).setCell (p:=⟨n+1,1,none⟩) (show n≤n+1 by omega) _
  have y9:((w5.setCell ⟨n+1,0,none⟩ (.string ⟨#[]⟩)).setCell ⟨n+1,1,none⟩ (.slice none 0 0)).heap[n+1]?=some (.cells #[.string ⟨#[]⟩,.slice none 0 0] 24 (0,0)):=heap_setCell_same _ (n+1) 1 _ _ _ (heap_setCell_same w5 (n+1) 0 _ _ _ EN9.out)
  obtain ⟨w7,hw7⟩:∃ w7,(w5.setCell ⟨n+1,0,none⟩ (.string ⟨#[]⟩)).setCell ⟨n+1,1,none⟩ (.slice none 0 0)=w7:=⟨_,rfl⟩
  rw [hw7] at B6 y9 ⊢
  have g0:=Lib.cell_of_heap y9 0
  have g1:=Lib.cell_of_heap y9 1
  refine bodyPost_ret (v:=.tuple #[.agg #[.string ⟨#[]⟩,.slice none 0 0],.bool false]) ?_ rfl ?_
  ·simp [results,Tryz.results149,go_sem,g0,g1]
  ·rw [FN.out]
   exact ⟨rfl,by rw [HN.out];exact B6.out⟩
 | true=>
  have PU2:=Lib.hid (put_any y _ u A3 cap3 l (b+2) (putL x.1 L d) (by rw [← hl];exact putL_len _ _ _) hL q w5 V5 hO5 (by omega))
  have PT:=Lib.hid hp1
  have sz5':=Lib.hid sz5
  have E3':=Lib.hid E3
  have ENH:=Lib.hid EN
  have f1:=Lib.cell_of_heap E2 0
  have f2:=Lib.cell_of_heap E2 1
  have f3:=Lib.cell_of_heap E3 0
  have f4:=Lib.cell_of_heap E3 1
  clear hp1 V5 hO5 hg5 bb5 PU E2 E3 EN
  go_wp2_with fail
  refine PU2.out.mono ?_
  rintro e w6 ⟨rfl,hO6,hg6⟩
  have E3:=(hg6.block c (by omega) nec).trans E3'.out
  have EN:=(hg6.block (n+1) (by omega) (ne1 _ (by omega))).trans ENH.out
  have bb6:Below (b+2) w5 w6:=(Below.refl _ w5).grown hg6 (by omega) fun k e=>(LT.out k e).1
  have B6:Hid (Below n w w6):=B5.out.trans (bb6.mono (by omega))
  have e0:=Lib.cell_of_heap EN 0
  have e1:=Lib.cell_of_heap EN 1
  have ez:=Lib.frozen_of_heap EN
  have EN9:=Lib.hid EN
  have O6:=Lib.hid hO6
  have i0:=Lib.cell_of_heap E3 0
  have i1:=Lib.cell_of_heap E3 1
  have HB2:Hid (n+2≤b):=hnb
  cases hp2:putB y (putL x.1 L d) q with
  | false=>
   have FN:Hid (fillV ex L d q=none):=by show _=_;rw [FV.out,if_neg (by rw [hp2];exact fun h=>absurd h.2 (by decide))]
   clear hp2 f1 f2 f3 f4 E3 EN bb6 PU2 hO6 hg6 ne1 nec
   go_wp2
   have B7:Hid (Below n w ((w6.setCell ⟨n+1,0,none⟩ (.string ⟨#[]⟩)).setCell ⟨n+1,1,none⟩ (.slice none 0 0))):=(B6.out.setCell (p:=⟨n+1,0,none⟩) (show n≤n+1 by omega) _).setCell (p:=⟨n+1,1,none⟩) (show n≤n+1 by omega) _
   have y9:((w6.setCell ⟨n+1,0,none⟩ (.string ⟨#[]⟩)).setCell ⟨n+1,1,none⟩ (.slice none 0 0)).heap[n+1]?=some (.cells #[.string ⟨#[]⟩,.slice none 0 0] 24 (0,0)):=heap_setCell_same _ (n+1) 1 _ _ _ (heap_setCell_same w6 (n+1) 0 _ _ _ EN9.out)
   obtain ⟨w7,hw7⟩:∃ w7,(w6.setCell ⟨n+1,0,none⟩ (.string ⟨#[]⟩)).setCell ⟨n+1,1,none⟩ (.slice none 0 0)=w7:=⟨_,rfl⟩
   rw [hw7] at B7 y9 ⊢
   have g0:=Lib.cell_of_heap y9 0
   have g1:=Lib.cell_of_heap y9 1
   refine bodyPost_ret (v:=.tuple #[.agg #[.string ⟨#[]⟩,.slice none 0 0],.bool false]) ?_ rfl ?_
   ·simp [results,Tryz.results149,go_sem,g0,g1]
   ·rw [FN.out]
    exact ⟨rfl,by rw [HN.out];exact B7.out⟩
  | true=>
   have FS:Hid (fillV ex L d q=some (putL y.1 (putL x.1 L d) q)):=by show _=_;rw [FV.out,if_pos ⟨PT.out,hp2⟩]
   clear hp2 f1 f2 f3 f4 E3 EN bb6 PU2 hO6 hg6 ne1 nec
   go_wp2
   have B7:Hid (Below n w ((w6.setCell ⟨n+1,0,none⟩ (.string u)).setCell ⟨n+1,1,none⟩ (.slice A3 l cap3))):=(B6.out.setCell (p:=⟨n+1,0,none⟩) (show n≤n+1 by omega) _).setCell (p:=⟨n+1,1,none⟩) (show n≤n+1 by omega) _
   have y9:((w6.setCell ⟨n+1,0,none⟩ (.string u)).setCell ⟨n+1,1,none⟩ (.slice A3 l cap3)).heap[n+1]?=some (.cells #[.string u,.slice A3 l cap3] 24 (0,0)):=heap_setCell_same _ (n+1) 1 _ _ _ (heap_setCell_same w6 (n+1) 0 _ _ _ EN9.out)
   have O7:Hid (OwnT ((w6.setCell ⟨n+1,0,none⟩ (.string u)).setCell ⟨n+1,1,none⟩ (.slice A3 l cap3)) n (.slice A3 l cap3) (putL y.1 (putL x.1 L d) q)):=
    row_mono (row_set (row_set O6.out (p:=⟨n+1,0,none⟩) (show n+1<b+2 by omega) _) (p:=⟨n+1,1,none⟩) (show n+1<b+2 by omega) _) (by omega)
   obtain ⟨w7,hw7⟩:∃ w7,(w6.setCell ⟨n+1,0,none⟩ (.string u)).setCell ⟨n+1,1,none⟩ (.slice A3 l cap3)=w7:=⟨_,rfl⟩
   rw [hw7] at B7 y9 O7 ⊢
   have g0:=Lib.cell_of_heap y9 0
   have g1:=Lib.cell_of_heap y9 1
   refine bodyPost_ret (v:=.tuple #[.agg #[.string u,.slice A3 l cap3],.bool true]) ?_ rfl ?_
   ·simp [results,Tryz.results149,go_sem,g0,g1]
   ·rw [FS.out]
    exact ⟨_,by rw [hU.out],by rw [HN.out];exact O7.out,by rw [HN.out];exact B7.out⟩
end Go.Proofs.YtajlleeonddinaaGreatDoor
namespace Go.Proofs.YtajlleeonddinaaGreatDoor
open Go.RowKit Go.Shelf
attribute [local go_sem] Oper.semAt_some
attribute [local irreducible] Go.Mixed.wpMix
end Go.Proofs.YtajlleeonddinaaGreatDoor
namespace Go.Proofs.YtajlleeonddinaaGreatDoor
open Go.RowKit Go.Shelf
attribute [local go_sem] Oper.semAt_some
def fstI (C:List Tr):Int:=if C.any fstB=true then 3 else 0
def lstI (C:List Tr):Int:=if C.any fstB=true then 6 else 2
end Go.Proofs.YtajlleeonddinaaGreatDoor
namespace Go.Stops
open Go Go.RowKit
variable {F:Fence} {n:Nat} {P:Program}
theorem wpIn_tellsH {α:Type} {g:Operand} {ps:Array Tmp} {assign body:Code} {Q:Exit→Act→World→Prop} {a:Act} {w:World} (hro:F.round=none) (h1:1≤n)
  {gf:Nat} {lb:Array Value} (hg:a.eval g=.func (.func gf) #[] lb) (hFg:F.fn gf) (eg:∀ args w,(callFunc gf args).run P w=.ok (.enter gf args) w)
  {encs:α→Array Value} {E:List α→α→Prop} {Bs:Nat} {Kp:World→World→Prop} {S:List α→Prop} (hseq:Tells F (n - 1) P gf lb encs E Bs Kp S w) (hBs:Bs<w.heap.size)
  (hKt:∀ {A B C:World},Kp A B→Kp B C→Kp A C) (hKb:∀ (W:World) (l:Nat) (o o':Obj),w.heap.size≤l→W.heap[l]?=some o→o.isCells=false→Kp W (W.putObj l o')) (hps:∀ x,(encs x).size=ps.size)
  (I Ix:List α→World→Prop) (hI:OwnFrom w.heap.size I) (hIB:Apart Bs I) (hIx:OwnFrom w.heap.size Ix) (h0:I [] w) (Ax:α→Act→World→Prop) (hAx:∀ x,OwnFrom w.heap.size (Ax x))
  (hassign:∀ (l:Nat) (pre:List α) (x:α) (W:World) (K:Act→World→Prop),I pre W→E pre x→(∀ a' W',KeepsFrom w.heap.size W W'→Kp W W'→I pre W'→Ax x a' W'→K a' W')→
   assign.wpIn (F.inRound l) (n - 1 - 1) P (Exit.then K (fun _ _ _=>False)) {tmps:=(ps.zip (encs x)).foldl (fun t (p,v)=>t.setIfInBounds p v) a.tmps,defers:=[]} W)
  (hbody:∀ (l:Nat) (pre:List α) (x:α) (a':Act) (W:World),w.heap.size≤l→(∃ r,W.heap[l]?=some (.loop r))→I pre W→Ax x a' W→E pre x→body.wpIn (F.inRound l) (n - 1 - 1) P (endsSo w.heap.size Kp I Ix (pre++[x]) W) a' W)
  (hdone:∀ (D:Nat) (xs:List α) (W:World),w.heap.size≤D→S xs→I xs W→W.heap[D]?=some (.deferred (some []))→Q .normal {a with defers:={target:=.collected D,args:=#[]} :: a.defers} W)
  (hstop:∀ (D:Nat) (pre:List α) (W:World),w.heap.size≤D→Ix pre W→W.heap[D]?=some (.deferred (some []))→Code.ret.wpIn F n P Q {a with defers:={target:=.collected D,args:=#[]} :: a.defers} W) :
  (Code.rangeFunc g ps assign body).wpIn F n P Q a w:=by
 refine wpIn_rangeFunc fun fn hfn=>?_
 rw [hro]
 let R:LoopState→Option Code→Loop:=fun st j=>{state:=st,pending:=j,fn:=fn,tmps:=a.tmps,params:=ps,assign:=assign,body:=body,defers:=w.heap.size}
 let B:World:=(w.alloc (.deferred (some []))).alloc (.loop (R .ready none))
 have bD:B.heap[w.heap.size]?=some (.deferred (some [])):=(Below.heap_alloc _ _ _ (by simp)).trans (World.alloc_heap_new w _)
 have bL:B.heap[w.heap.size+1]?=some (.loop (R .ready none)):=by
  have h:=World.alloc_heap_new (w.alloc (.deferred (some []))) (.loop (R .ready none))
  rwa [World.size_alloc] at h
 have bI:I [] B:=hI.alloc _ (hI.alloc _ h0)
 have bB:Below w.heap.size w B:=((Below.refl _ w).alloc (Nat.le_refl _) _).alloc (by simp) _
 have bz:B.heap.size=w.heap.size+1+1:=by simp [B]
 -- what a turn of a walk of the iterator's own leaves of the two blocks
 have walk:∀ {X Y:World} {row:Option Nat} {k:Nat} {o:Obj},X.grownBy Y row→(∀ r,row=some r→B.heap.size≤r∧∃ o:Obj,X.heap[r]?=some o∧o.isWalk=true)→X.heap[k]?=some o→k<w.heap.size+2→Y.heap[k]?=some o:=fun hg' hr hk hlt=>
  (hg'.block _ (Array.getElem?_eq_some_iff.1 hk).1 fun e=>by have:=(hr _ e.symm).1;omega).trans hk
 have cells:∀ {X Y:World} {row:Option Nat},(∀ r,row=some r→B.heap.size≤r∧∃ o:Obj,X.heap[r]?=some o∧o.isWalk=true)→(∀ r,row=some r→w.heap.size≤r∧∃ o:Obj,X.heap[r]?=some o∧o.isCells=false):=fun hr r e=>by
  obtain ⟨k1,o,k2,k3⟩:=hr r e
  exact ⟨by omega,o,k2,Obj.not_cells_of_walk k3⟩
 refine ⟨w.heap.size+1,[{target:=.collected w.heap.size,args:=#[]}],B,{target:=.fn (.func gf) lb,args:=#[.func (.yield (w.heap.size+1)) #[] #[]]},B,gf,#[.func (.yield (w.heap.size+1)) #[] #[]]++lb,B,
  run_enterLoop_outer _ _ _ _ _,by simp only [resolve,hg];simp [go_sem],fun f' hf'=>by simp [Target.leads] at hf';subst hf';exact hFg,by simp [invoke,go_sem,eg],fun _=>h1,?_⟩
 refine (hseq (w.heap.size+1) (fun pre W=>I pre W∧W.heap[w.heap.size+1]?=some (.loop (R .ready none))∧W.heap[w.heap.size]?=some (.deferred (some [])))
  (fun pre W=>Ix pre W∧W.heap[w.heap.size+1]?=some (.loop (R .done (some .ret)))∧W.heap[w.heap.size]?=some (.deferred (some []))) B bB ?_ ?_ ?_ ?_ ⟨bI,bL,bD⟩).mono ?_
 ·rintro s X Y row ⟨s1,s2,s3⟩ hg' hr
  exact ⟨hI s X Y row s1 hg' (cells (Y:=Y) hr),walk hg' hr s2 (by omega),walk hg' hr s3 (by omega)⟩
 ·rintro s X Y ⟨s1,s2,s3⟩ hg'
  have q:∀ {k:Nat} {o:Obj},w.heap.size≤k→X.heap[k]?=some o→Y.heap[k]?=some o:=fun hk ho=>(hg'.block _ (Array.getElem?_eq_some_iff.1 ho).1 fun e=>by have:=Option.some.inj e;omega).trans ho
  exact ⟨hIB s X Y s1 hg',q (by omega) s2,q (Nat.le_refl _) s3⟩
 ·rintro pre x W ⟨s1,s2,s3⟩ hx
  refine ⟨fn,_,assign,body,run_yield (P:=P) (args:=encs x) s2 (hps x),roundIn_of_wpIn hfn (hassign _ pre x W _ s1 hx fun a' U u1 uK uI uA=>?_)⟩
  have u2:=u1.same _ _ (by omega) s2 rfl
  have u3:=u1.same _ _ (Nat.le_refl _) s3 rfl
  have hlu:w.heap.size+1<U.heap.size:=(Array.getElem?_eq_some_iff.1 u2).1
  refine ⟨_,run_beginRound u2 rfl,?_⟩
  obtain ⟨V,hV⟩:∃ V,U.putObj (w.heap.size+1) (.loop {R .ready none with state:=.busy})=V:=⟨_,rfl⟩
  have v2:V.heap[w.heap.size+1]?=some (.loop {R .ready none with state:=.busy}):=hV ▸ World.putObj_heap_same hlu
  have v3:V.heap[w.heap.size]?=some (.deferred (some [])):=hV ▸ (World.putObj_heap_other (by omega)).trans u3
  have vI:I pre V:=hV ▸ hI.putObj _ uI (by omega) u2 rfl
  have vE:Ax x a' V:=hV ▸ (hAx x).putObj _ uA (by omega) u2 rfl
  have vK:Kp W V:=hKt uK (hV ▸ hKb _ _ _ _ (by omega) u2 rfl)
  show body.wpIn _ _ _ _ _ (U.putObj (w.heap.size+1) (.loop {R .ready none with state:=.busy}))
  rw [hV]
  refine wpIn_mono (hbody (w.heap.size+1) pre x a' V (Nat.le_succ _) ⟨_,v2⟩ vI vE hx) ?_
  rintro (_ | _ | _ | _ | _ | _) a3 Z hz
  case normal=>
   obtain ⟨z1,z2,z3⟩:=hz
   have l3:=z1.same _ _ (by omega) v2 rfl
   exact ⟨_,_,run_endRound (P:=P) none l3,.inl ⟨rfl,⟨hI.putObj _ z3 (by omega) l3 rfl,World.putObj_heap_same (Array.getElem?_eq_some_iff.1 l3).1,(World.putObj_heap_other (by omega)).trans (z1.same _ _ (Nat.le_refl _) v3 rfl)⟩,hKt (hKt vK z2) (hKb _ _ _ _ (by omega) l3 rfl)⟩⟩
  case ret=>
   obtain ⟨z1,z3⟩:=hz
   have l3:=z1.same _ _ (by omega) v2 rfl
   exact ⟨_,_,run_endRound (P:=P) (some .ret) l3,.inr ⟨rfl,hIx.putObj _ z3 (by omega) l3 rfl,World.putObj_heap_same (Array.getElem?_eq_some_iff.1 l3).1,(World.putObj_heap_other (by omega)).trans (z1.same _ _ (Nat.le_refl _) v3 rfl)⟩⟩
  all_goals exact hz.elim
 ·rintro s X Y row ⟨s1,s2,s3⟩ hg' hr
  exact ⟨hIx s X Y row s1 hg' (cells (Y:=Y) hr),walk hg' hr s2 (by omega),walk hg' hr s3 (by omega)⟩
 ·rintro e Z ⟨⟨v,rfl⟩,(⟨xs,hS,z1,z2,z3⟩ | ⟨pre,z1,z2,z3⟩)⟩
  ·exact ⟨none,_,run_endLoop (P:=P) z2 (by simp [R]),hdone _ xs _ (Nat.le_refl _) hS (hI.putObj _ z1 (by omega) z2 rfl) ((World.putObj_heap_other (by omega)).trans z3)⟩
  ·exact ⟨some .ret,_,run_endLoop (P:=P) z2 (by simp [R]),hstop _ pre _ (Nat.le_refl _) (hIx.putObj _ z1 (by omega) z2 rfl) ((World.putObj_heap_other (by omega)).trans z3)⟩
end Go.Stops
namespace Go.Each
open Go Go.RowKit
variable {F:Fence} {n:Nat} {P:Program}
def GivesB {α:Type} (F:Fence) (n:Nat) (P:Program) (g:Nat) (ba lb:Array Value) (encs:α→Array Value) (E:α→World→Prop) (Kp:World→World→Prop) (S:List α→Prop) (N:Nat) (w:World):Prop:=
 ∀ (l:Nat) (J:List α→World→Prop) (W:World),Below w.heap.size w W→AbidesFrom W.heap.size J→
  (∀ pre x W1,J pre W1→E x W1→pre.length<N→YieldAt F (n - 1) P l (encs x) W1 fun e W'=>e=.returned (.bool true)∧J (pre++[x]) W'∧Kp W1 W')→
  J [] W→CallsIn F n P g (ba++#[.func (.yield l) #[] #[]]++lb) W fun e W'=>(∃ v,e=.returned v)∧∃ xs,S xs∧J xs W'
theorem wpIn_eachN {α:Type} {g:Operand} {ps:Array Tmp} {assign body:Code} {Q:Exit→Act→World→Prop} {a:Act} {w:World} {l₀:Nat} {r₀:Loop} (hro:F.round=some l₀) (hl₀:w.heap[l₀]?=some (.loop r₀)) (h1:1≤n)
  {gf:Nat} {ba lb:Array Value} (hg:a.eval g=.func (.func gf) ba lb) (hFg:F.fn gf) (eg:∀ args w,(callFunc gf args).run P w=.ok (.enter gf args) w)
  {encs:α→Array Value} {E:α→World→Prop} {Kp:World→World→Prop} {S:List α→Prop} {N:Nat} (hseq:GivesB F (n - 1) P gf ba lb encs E Kp S N w)
  (hKt:∀ {A B C:World},Kp A B→Kp B C→Kp A C) (hKb:∀ (W:World) (l:Nat) (o o':Obj),w.heap.size≤l→W.heap[l]?=some o→o.isCells=false→Kp W (W.putObj l o')) (hps:∀ x,(encs x).size=ps.size)
  (I:List α→World→Prop) (hI:OwnFrom w.heap.size I) (h0:I [] w) (Ax:α→Act→World→Prop) (hAx:∀ x,OwnFrom w.heap.size (Ax x))
  (hassign:∀ (l:Nat) (pre:List α) (x:α) (W:World) (K:Act→World→Prop),I pre W→E x W→(∀ a' W',KeepsFrom w.heap.size W W'→Kp W W'→I pre W'→Ax x a' W'→K a' W')→
   assign.wpIn (F.inRound l) (n - 1 - 1) P (Exit.then K (fun _ _ _=>False)) {tmps:=(ps.zip (encs x)).foldl (fun t (p,v)=>t.setIfInBounds p v) a.tmps,defers:=[]} W)
  (hbody:∀ (l:Nat) (pre:List α) (x:α) (a':Act) (W:World),I pre W→Ax x a' W→pre.length<N→body.wpIn (F.inRound l) (n - 1 - 1) P (goesOn fun W'=>KeepsFrom w.heap.size W W'∧Kp W W'∧I (pre++[x]) W') a' W)
  (hdone:∀ (xs:List α) (W:World),S xs→I xs W→Q .normal a W) :
  (Code.rangeFunc g ps assign body).wpIn F n P Q a w:=by
 refine wpIn_rangeFunc fun fn hfn=>?_
 rw [hro]
 let R:LoopState→Loop:=fun st=>{state:=st,pending:=none,fn:=fn,tmps:=a.tmps,params:=ps,assign:=assign,body:=body,defers:=r₀.defers}
 let B:World:=w.alloc (.loop (R .ready))
 have bL:B.heap[w.heap.size]?=some (.loop (R .ready)):=World.alloc_heap_new w _
 have bI:I [] B:=hI.alloc _ h0
 have bB:Below w.heap.size w B:=(Below.refl _ w).alloc (Nat.le_refl _) _
 have bz:B.heap.size=w.heap.size+1:=by simp [B]
 refine ⟨w.heap.size,[],B,{target:=.fn (.func gf) lb,args:=ba++#[.func (.yield w.heap.size) #[] #[]]},B,gf,ba++#[.func (.yield w.heap.size) #[] #[]]++lb,B,
  run_enterLoop_inner hl₀ _ _ _ _ _,by simp only [resolve,hg];simp [go_sem],fun f' hf'=>by simp [Target.leads] at hf';subst hf';exact hFg,by simp [invoke,go_sem,eg],fun _=>h1,?_⟩
 refine (hseq w.heap.size (fun pre W=>I pre W∧W.heap[w.heap.size]?=some (.loop (R .ready))) B bB ?_ ?_ ⟨bI,bL⟩).mono ?_
 ·rintro s X Y row ⟨s1,s2⟩ hg' hr
  have hc:∀ r,row=some r→∃ o:Obj,X.heap[r]?=some o∧o.isWalk=true:=fun r e=>(hr r e).2
  refine ⟨hI s X Y row s1 hg' fun r e=>?_,(grownBy_keeps hg' hc s2 rfl).trans s2⟩
  obtain ⟨k1,o,k2,k3⟩:=hr r e
  exact ⟨by omega,o,k2,Obj.not_cells_of_walk k3⟩
 ·rintro pre x W ⟨s1,s2⟩ hx hlen
  refine ⟨fn,_,assign,body,run_yield (P:=P) (args:=encs x) s2 (hps x),roundIn_of_wpIn hfn (hassign _ pre x W _ s1 hx fun a' U u1 uK uI uA=>?_)⟩
  have u2:=u1.same _ _ (Nat.le_refl _) s2 rfl
  have hlu:w.heap.size<U.heap.size:=(Array.getElem?_eq_some_iff.1 u2).1
  refine ⟨_,run_beginRound u2 rfl,?_⟩
  obtain ⟨V,hV⟩:∃ V,U.putObj w.heap.size (.loop {R .ready with state:=.busy})=V:=⟨_,rfl⟩
  have v2:V.heap[w.heap.size]?=some (.loop {R .ready with state:=.busy}):=hV ▸ World.putObj_heap_same hlu
  have vI:I pre V:=hV ▸ hI.putObj _ uI (Nat.le_refl _) u2 rfl
  have vE:Ax x a' V:=hV ▸ (hAx x).putObj _ uA (Nat.le_refl _) u2 rfl
  have vK:Kp W V:=hKt uK (hV ▸ hKb _ _ _ _ (Nat.le_refl _) u2 rfl)
  show body.wpIn _ _ _ _ _ (U.putObj w.heap.size (.loop {R .ready with state:=.busy}))
  rw [hV]
  refine wpIn_mono (hbody _ pre x a' V vI vE hlen) ?_
  rintro (_ | _ | _ | _ | _ | _) a3 Z hz
  case normal=>
   obtain ⟨z1,z2,z3⟩:=hz
   have l3:=z1.same _ _ (Nat.le_refl _) v2 rfl
   refine ⟨_,_,run_endRound (P:=P) none l3,rfl,⟨hI.putObj _ z3 (Nat.le_refl _) l3 rfl,World.putObj_heap_same (Array.getElem?_eq_some_iff.1 l3).1⟩,hKt (hKt vK z2) (hKb _ _ _ _ (Nat.le_refl _) l3 rfl)⟩
  all_goals exact hz.elim
 ·rintro e Z ⟨⟨v,rfl⟩,xs,hS,z1,z2⟩
  exact ⟨none,_,run_endLoop (P:=P) z2 (by simp [R]),hdone xs _ hS (hI.putObj _ z1 (Nat.le_refl _) z2 rfl)⟩
end Go.Each
namespace Go.Proofs.YtajlleeonddinaaGreatDoor
open Go.RowKit Go.Shelf
attribute [local go_sem] Oper.semAt_some
def nxtG (open_ f:Int):Int:=bits .and .u8 (IntKind.u8.wrap (f - open_)) open_
def opsG (ones open_:Int):Nat→Int→List Int
 | 0,_=>[]
 | k+1,f=>bits .or .u8 ones f :: (if f=open_ then [] else opsG ones open_ k (nxtG open_ f))
def okG (ones open_:Int):Nat→Int→Bool
 | 0,_=>false
 | k+1,f=>decide (0≤bits .or .u8 ones f)&&decide (bits .or .u8 ones f≤255)&&(decide (f=open_)||okG ones open_ k (nxtG open_ f))
def opsP (p:Pat):List Int:=opsG (opnF p.1).1 (opnF p.1).2 256 0
def okP (p:Pat):Bool:=okG (opnF p.1).1 (opnF p.1).2 256 0
theorem opsG_fuel (ones open_:Int):∀ (k m:Nat) (v:Int),okG ones open_ k v=true→k≤m→opsG ones open_ m v=opsG ones open_ k v
 | 0,m,v,h,_=>by cases h
 | k+1,0,v,_,hm=>by omega
 | k+1,m+1,v,h,hm=>by
  unfold okG at h
  simp only [Bool.and_eq_true,Bool.or_eq_true,decide_eq_true_eq] at h
  unfold opsG
  by_cases e:v=open_
  ·rw [if_pos e,if_pos e]
  ·rw [if_neg e,if_neg e,opsG_fuel ones open_ k m _ (h.2.resolve_left e) (by omega)]
theorem opsG_less (ones open_:Int) (k:Nat) (v:Int) (h:okG ones open_ (k+1) v=true) (e:v≠open_) (hk:k+1≤256):(opsG ones open_ 256 (nxtG open_ v)).length<(opsG ones open_ 256 v).length:=by
 have h2:=h
 unfold okG at h2
 simp only [Bool.and_eq_true,Bool.or_eq_true,decide_eq_true_eq] at h2
 rw [opsG_fuel ones open_ (k+1) 256 v h hk,opsG_fuel ones open_ k 256 _ (h2.2.resolve_left e) (by omega)]
 show _<(_ :: _).length
 rw [if_neg e]
 exact Nat.lt_succ_self _
theorem opcodes_gives (n:Nat) (p:Pat) (h8:p.1.length=8) (hok:okP p=true) (w:World) :
  Each.GivesB Fence.wide n Tryz.prog 209 #[.agg #[.string (sB p.1),.string (sB p.2)]] #[] (fun x:Int=>#[.int .u8 x]) (fun x _=>0≤x∧x≤255) (fun _ _=>True) (fun xs=>xs=opsP p) 256 w:=fun lp J W hW hJ hY h0=>by
 have hJb:∀ (z:List Int) (X Y:World),J z X→Below X.heap.size X Y→J z Y:=fun z X Y h hb=>hJ z X Y none h ⟨hb.os,hb.tape,hb.output,hb.size,fun i hi _=>hb.block i hi⟩ (fun r e=>by cases e)
 have hm:=fun o=>masks_any p.1 p.2 h8 (W.alloc o)
 obtain ⟨ones,ho⟩:∃ z,(opnF p.1).1=z:=⟨_,rfl⟩
 obtain ⟨op,hop⟩:∃ z,(opnF p.1).2=z:=⟨_,rfl⟩
 have OP:Hid (opsP p=opsG ones op 256 0):=by show opsP p=_;unfold opsP;rw [ho,hop]
 have OK:Hid (okG ones op 256 0=true):=by show _=_;rw [← hok];unfold okP;rw [ho,hop]
 rw [ho,hop] at hm
 have HY:=Lib.hid hY
 have HJb:=Lib.hid hJb
 have J0:Hid (∀ o,J [] (W.alloc o)):=fun o=>hJb _ _ _ h0 ((Below.refl _ _).alloc (Nat.le_refl _) o)
 clear h0 hY hJb hJ hW ho hop hok h8
 refine callsIn_wide.2 ?_
 show Calls Tryz.prog 209 #[.agg #[.string (sB p.1),.string (sB p.2)],.func (.yield lp) #[] #[]] W _
 go_enter Tryz.func209,Tryz.ntmps209
 go_wp2_with fail
 refine (hm _).mono ?_
 rintro e w1 ⟨rfl,hb1⟩
 have J1:=Lib.hid (HJb.out _ _ _ (J0.out _) hb1)
 clear hm hb1 J0
 go_upto_region 2 with fail
 go_wp2
 go_loopw [6] (fun f wr=>∃ (pre:List Int) (k:Nat) (v:Int),f=.int .u8 v∧Hid (okG ones op k v=true)∧Hid (pre++opsG ones op k v=opsP p)∧Hid (pre.length+k=256)∧Hid (J pre wr)) (fun f _=>(opsG ones op 256 (intOf f)).length)
 case atStart=>exact ⟨[],256,0,rfl,OK.out,OP.out.symm,rfl,J1.out⟩
 case round=>
  clear J1 OP OK
  obtain ⟨pre,k,v,rfl,OK,EQ,LEN,JJ⟩:=hrel
  cases k with
  | zero=>exact absurd OK.out (by unfold okG;decide)
  | succ k=>
   have OK2:Hid ((0≤bits .or .u8 ones v∧bits .or .u8 ones v≤255)∧(v=op∨okG ones op k (nxtG op v)=true)):=by
    have h:=OK.out
    unfold okG at h
    simp only [Bool.and_eq_true,Bool.or_eq_true,decide_eq_true_eq] at h
    exact h
   have hyd:=HY.out pre (bits .or .u8 ones v) wr JJ.out OK2.out.1 (by have:=LEN.out;omega)
   obtain ⟨fn,tmps,assign,body,hy,hR⟩:=hyd
   have LS:=Lib.hid (opsG_less ones op k v OK.out)
   have LK:Hid (k+1≤256):=(by have:=LEN.out;omega:k+1≤256)
   have EQ2:Hid (pre++bits .or .u8 ones v :: (if v=op then [] else opsG ones op k (nxtG op v))=opsP p):=EQ.out
   have LEN2:Hid ((pre++[bits .or .u8 ones v]).length+k=256):=by show _=_;rw [List.length_append];have:=LEN.out;simp;omega
   clear EQ OK JJ LEN
   go_upto_region 3 with fail
   refine (wpIn_wide (n:=n)).1 ?_
   gi_wp2
   refine ⟨fun h=>(by cases h),hR.mono ?_⟩
   rintro e3 W3 ⟨rfl,hJ3,-⟩
   have J3:=Lib.hid hJ3
   clear hJ3 hR hy
   by_cases hv:v=op
   ·have EN:Hid (pre++[bits .or .u8 ones v]=opsP p):=by show _=_;rw [← EQ2.out,if_pos hv]
    have hb:(v == op)=true:=by rw [hv];exact beq_self_eq_true _
    clear hv EQ2 LS
    gi_wp2
    go_wp2
    go_end0
    exact ⟨⟨_,rfl⟩,_,EN.out,J3.out⟩
   ·have hb:(v == op)=false:=by simpa using hv
    have OK3:Hid (okG ones op k (nxtG op v)=true):=OK2.out.2.resolve_left hv
    have EN:Hid ((pre++[bits .or .u8 ones v])++opsG ones op k (nxtG op v)=opsP p):=by show _=_;rw [← EQ2.out,if_neg hv,List.append_assoc];rfl
    have LS2:=Lib.hid (LS.out hv LK.out)
    clear hv EQ2 LS OK2
    gi_wp2
    go_wp2
    go_roundw
    case rel=>exact ⟨pre++[bits .or .u8 ones v],k,nxtG op v,rfl,OK3.out,EN.out,LEN2.out,J3.out⟩
    case measure=>exact LS2.out
end Go.Proofs.YtajlleeonddinaaGreatDoor
namespace Go.Proofs.YtajlleeonddinaaGreatDoor
open Go.RowKit Go.Shelf
def fstF (ps:List Pat) (i:Nat):Pat:=(ps.find? fun p=>fitsP p.1 (i:Int)).getD ([],[])
def mkF (ps:List Pat) (p:Pat) (xs:List Int) (i:Nat):Pat:=if (i:Int)∈xs∧(fstF ps i).1=[] then p else fstF ps i
theorem mkF_nil (ps:List Pat) (p:Pat) (i:Nat):mkF ps p [] i=fstF ps i:=by
 unfold mkF
 rw [if_neg (by simp)]
theorem mkF_skip (ps:List Pat) (p:Pat) (xs:List Int) (x:Nat) (h:(mkF ps p xs x).1≠[]) (i:Nat):mkF ps p (xs++[(x:Int)]) i=mkF ps p xs i:=by
 unfold mkF at h ⊢
 by_cases e:i=x
 ·subst e
  by_cases h1:(fstF ps i).1=[]
  ·by_cases h2:(i:Int)∈xs
   ·rw [if_pos ⟨by simp,h1⟩,if_pos ⟨h2,h1⟩]
   ·rw [if_neg (fun k=>h2 k.1)] at h
    exact absurd h1 h
  ·rw [if_neg (fun k=>h1 k.2),if_neg (fun k=>h1 k.2)]
 ·have:((i:Int)∈xs++[(x:Int)])↔((i:Int)∈xs):=by
   simp only [List.mem_append,List.mem_singleton]
   exact ⟨fun k=>k.resolve_right (by omega),.inl⟩
  simp only [this]
theorem mkF_put (ps:List Pat) (p:Pat) (xs:List Int) (x:Nat) (h:(mkF ps p xs x).1=[]) (i:Nat):mkF ps p (xs++[(x:Int)]) i=if i=x then p else mkF ps p xs i:=by
 by_cases e:i=x
 ·subst e
  rw [if_pos rfl]
  unfold mkF at h ⊢
  by_cases h1:(fstF ps i).1=[]
  ·rw [if_pos ⟨by simp,h1⟩]
  ·rw [if_neg (fun k=>h1 k.2)] at h
   exact absurd h h1
 ·rw [if_neg e]
  unfold mkF
  have:((i:Int)∈xs++[(x:Int)])↔((i:Int)∈xs):=by
   simp only [List.mem_append,List.mem_singleton]
   exact ⟨fun k=>k.resolve_right (by omega),.inl⟩
  simp only [this]
theorem ops_fit:∀ p∈mainP++cbP++edP,okP p=true∧p.1≠[]∧∀ i:Fin 256,decide ((i.val:Int)∈opsP p)=fitsP p.1 (i.val:Int):=by decide +kernel
theorem fst_snoc (ps:List Pat) (p:Pat) (hp:p∈mainP++cbP++edP) (hps:∀ q∈ps,q∈mainP++cbP++edP) (i:Nat) (hi:i<256):mkF ps p (opsP p) i=fstF (ps++[p]) i:=by
 have h:=(ops_fit p hp).2.2 ⟨i,hi⟩
 simp only at h
 unfold mkF fstF
 rw [List.find?_append]
 cases hf:ps.find? fun p=>fitsP p.1 (i:Int) with
 | none=>
  simp only [Option.getD_none,Option.none_or,List.find?_cons,List.find?_nil]
  cases hfit:fitsP p.1 (i:Int)
  ·rw [hfit] at h
   rw [if_neg (fun k=>of_decide_eq_false h k.1)]
   rfl
  ·rw [hfit] at h
   rw [if_pos ⟨of_decide_eq_true h,trivial⟩]
   rfl
 | some q=>
  have hq:=(ops_fit q (hps q (List.mem_of_find?_eq_some hf))).2.1
  simp only [Option.getD_some,Option.some_or]
  rw [if_neg (fun k=>hq k.2)]
def codesK (ps:List Pat):Nat→List (Pat×Int)
 | 0=>[]
 | k+1=>if (fstF ps k).1=[] then codesK ps k else codesK ps k++[(fstF ps k,(k:Int))]
end Go.Proofs.YtajlleeonddinaaGreatDoor
namespace Go.Proofs.YtajlleeonddinaaGreatDoor
open Go.RowKit Go.Shelf
attribute [local go_sem] Oper.semAt_some
def patV (f:Nat→Pat) (i:Nat):Value:=.string (sB (if i % 2=0 then (f (i / 2)).1 else (f (i / 2)).2))
theorem patV_0 (f:Nat→Pat) (i:Nat):patV f (i*2)=.string (sB (f i).1):=by
 unfold patV
 rw [if_pos (by omega),show i*2 / 2=i by omega]
theorem patV_1 (f:Nat→Pat) (i:Nat):patV f (i*2+1)=.string (sB (f i).2):=by
 unfold patV
 rw [if_neg (by omega),show (i*2+1) / 2=i by omega]
def RowF (w:World) (b:Nat) (f:Nat→Pat):Prop:=w.rowIs b 277 512 (patV f)
theorem RowF.c0 {w:World} {b:Nat} {f:Nat→Pat} (h:RowF w b f) {i:Nat} (hi:i<256):w.cell? ⟨b,i*2,none⟩=some (.string (sB (f i).1)):=by
 rw [World.rowIs.cell h (by omega),patV_0]
theorem RowF.c1 {w:World} {b:Nat} {f:Nat→Pat} (h:RowF w b f) {i:Nat} (hi:i<256):w.cell? ⟨b,i*2+1,none⟩=some (.string (sB (f i).2)):=by
 rw [World.rowIs.cell h (by omega),patV_1]
theorem RowF.lt {w:World} {b:Nat} {f:Nat→Pat} (h:RowF w b f):b<w.heap.size:=World.rowIs.lt h
theorem RowF.block {w w':World} {b:Nat} {f:Nat→Pat} (h:RowF w b f) (e:w'.heap[b]?=w.heap[b]?):RowF w' b f:=World.rowIs.of_block h e
theorem RowF.congr {w:World} {b:Nat} {f g:Nat→Pat} (h:RowF w b f) (e:∀ i,i<256→f i=g i):RowF w b g:=World.rowIs.congr h fun i hi=>by
 unfold patV
 rw [e (i / 2) (by omega)]
theorem RowF.put {w:World} {b:Nat} {f:Nat→Pat} (h:RowF w b f) (i:Nat) (p:Pat):RowF ((w.setCell ⟨b,i*2,none⟩ (.string (sB p.1))).setCell ⟨b,i*2+1,none⟩ (.string (sB p.2))) b (fun j=>if j=i then p else f j):=
 World.rowIs.congr (World.rowIs.set (World.rowIs.set h (i*2) _) (i*2+1) _) fun j hj=>by
  unfold patV
  show (if j=i*2+1 then Value.string (sB p.2) else if j=i*2 then .string (sB p.1) else .string (sB (if j % 2=0 then (f (j / 2)).1 else (f (j / 2)).2)))=.string (sB (if j % 2=0 then (if j / 2=i then p else f (j / 2)).1 else (if j / 2=i then p else f (j / 2)).2))
  by_cases e:j / 2=i
  ·rw [if_pos e]
   by_cases e0:j % 2=0
   ·rw [if_neg (by omega),if_pos (by omega),if_pos e0]
   ·rw [if_pos (by omega),if_neg e0]
  ·rw [if_neg e,if_neg (by omega),if_neg (by omega)]
theorem info_row:(Tryz.prog.info? 277).map (fun i=>(i.zero,i.size))=some (some (.agg (Array.replicate 512 (.string ⟨#[]⟩))),512):=by kernel_rfl
theorem und_row:Tryz.prog.underlying 277=some (.array 256 240):=by kernel_rfl
theorem zero_row (w:World):(zeroValue 277).run Tryz.prog w=.ok (.agg (Array.replicate 512 (.string ⟨#[]⟩))) w:=(zero_of_info info_row).1 w
theorem new_row (w:World):RowF (w.alloc (.cells (Array.replicate 512 (.string ⟨#[]⟩)) 277)) w.heap.size (fstF []):=by
 have h:=World.rowIs_alloc w (Array.replicate 512 (.string ⟨#[]⟩)) 277 (patV (fstF [])) (fun i hi=>by
  rw [Array.size_replicate] at hi
  rw [Array.getElem?_replicate,if_pos hi]
  unfold patV fstF
  split <;> rfl)
 rwa [Array.size_replicate] at h
def rowA (f:Nat→Pat):Array Value:=((List.range 512).map (patV f)).toArray
theorem rowA_get (f:Nat→Pat) (j:Nat) (hj:j<512):(rowA f)[j]?=some (patV f j):=by
 unfold rowA
 rw [List.getElem?_toArray,List.getElem?_map,List.getElem?_range hj];rfl
theorem rowA_size (f:Nat→Pat):(rowA f).size=512:=by unfold rowA;simp
theorem load_row {w:World} {b:Nat} {f:Nat→Pat} (h:RowF w b f):(Instr.loadAt 277 (.pointer (some ⟨b,0,none⟩))).run Tryz.prog w=.ok (.agg (rowA f)) w:=by
 obtain ⟨c,hb,hn,hc⟩:=h
 have e:c=rowA f:=by
  apply Array.ext_getElem?
  intro i
  have hs:=rowA_size f
  by_cases hi:i<512
  ·rw [hc i hi,rowA_get f i hi]
  ·rw [Array.getElem?_eq_none (by omega),Array.getElem?_eq_none (by omega)]
 simp only [Instr.loadAt,Instr.sureAddr,Sem.run_bind,Sem.run_pure,Result.andThen]
 rw [← e]
 exact run_loadVar_row _ b 277 277 c (0,0) _ hb und_row rfl (by rw [hn];exact (zero_of_info info_row).2)
theorem rowA_two (f:Nat→Pat) (i:Nat) (hi:i<256):(rowA f).extract (i*2) (i*2+2)=#[.string (sB (f i).1),.string (sB (f i).2)]:=by
 have hs:=rowA_size f
 have hg:=rowA_get f
 apply Array.ext_getElem?
 intro j
 rw [Array.getElem?_extract]
 match j with
 | 0=>rw [if_pos (by omega),hg _ (by omega),Nat.add_zero,patV_0];rfl
 | 1=>rw [if_pos (by omega),hg _ (by omega),patV_1];rfl
 | j+2=>rw [if_neg (by omega)];rfl
theorem index_row (f:Nat→Pat) (i:Nat) (hi:i<256) (w:World):(Instr.index 277 (.agg (rowA f)) (.int .i64 (i:Int))).run Tryz.prog w=.ok (.agg #[.string (sB (f i).1),.string (sB (f i).2)]) w:=by
 have hz:(Tryz.prog.info? 240).map (fun i=>i.size)=some 2:=by kernel_rfl
 obtain ⟨inf,hinf,hsz⟩:∃ inf,Tryz.prog.info? 240=some inf∧inf.size=2:=by
  cases hq:Tryz.prog.info? 240 with
  | none=>rw [hq] at hz;cases hz
  | some i=>rw [hq] at hz;exact ⟨i,rfl,by simpa using hz⟩
 have hsize:∀ w,(Go.sizeOf 240).run Tryz.prog w=.ok 2 w:=fun w=>by simp [Go.sizeOf,typeInfo,hinf,hsz]
 have h0:0≤(i:Int)∧(i:Int)<((256:Nat):Int):=by omega
 have hx:=rowA_two f i hi
 have h1:¬256≤i:=by omega
 simp [Instr.index,run_underlying und_row,asIntOf,hi,h1,part,isAgg,hsize,hx,run_underlying Tryz.underlying240,go_sem]
end Go.Proofs.YtajlleeonddinaaGreatDoor
namespace Go.Each
open Go Go.RowKit
def GivesO {α:Type} (F:Fence) (n:Nat) (P:Program) (g:Nat) (lb:Array Value) (encs:α→Array Value) (E:α→World→Prop) (Kp:World→World→Prop) (S:List α→Prop) (N:Nat) (w:World):Prop:=
 ∀ (l:Nat) (J:List α→World→Prop) (W:World),Below w.heap.size w W→OwnFrom W.heap.size J→
  (∀ pre x W1,J pre W1→E x W1→pre.length<N→YieldAt F (n - 1) P l (encs x) W1 fun e W'=>e=.returned (.bool true)∧J (pre++[x]) W'∧Kp W1 W')→
  J [] W→CallsIn F n P g (#[.func (.yield l) #[] #[]]++lb) W fun e W'=>(∃ v,e=.returned v)∧∃ xs,S xs∧J xs W'
variable {F:Fence} {n:Nat} {P:Program}
theorem wpIn_eachO {α:Type} {g:Operand} {ps:Array Tmp} {assign body:Code} {Q:Exit→Act→World→Prop} {a:Act} {w:World} (hro:F.round=none) (h1:1≤n)
  {gf:Nat} {lb:Array Value} (hg:a.eval g=.func (.func gf) #[] lb) (hFg:F.fn gf) (eg:∀ args w,(callFunc gf args).run P w=.ok (.enter gf args) w)
  {encs:α→Array Value} {E:α→World→Prop} {Kp:World→World→Prop} {S:List α→Prop} {N:Nat} (hseq:GivesO F (n - 1) P gf lb encs E Kp S N w)
  (hKt:∀ {A B C:World},Kp A B→Kp B C→Kp A C) (hKb:∀ (W:World) (l:Nat) (r r':Loop),w.heap.size≤l→W.heap[l]?=some (.loop r)→Kp W (W.putObj l (.loop r'))) (hps:∀ x,(encs x).size=ps.size)
  (I:List α→World→Prop) (hI:OwnFrom w.heap.size I) (h0:I [] w) (Ax:α→Act→World→Prop) (hAx:∀ x,OwnFrom w.heap.size (Ax x))
  (hassign:∀ (l:Nat) (pre:List α) (x:α) (W:World) (K:Act→World→Prop),I pre W→E x W→(∀ a' W',KeepsFrom w.heap.size W W'→Kp W W'→I pre W'→Ax x a' W'→K a' W')→
   assign.wpIn (F.inRound l) (n - 1 - 1) P (Exit.then K (fun _ _ _=>False)) {tmps:=(ps.zip (encs x)).foldl (fun t (p,v)=>t.setIfInBounds p v) a.tmps,defers:=[]} W)
  (hbody:∀ (l:Nat) (pre:List α) (x:α) (a':Act) (W:World),I pre W→Ax x a' W→pre.length<N→body.wpIn (F.inRound l) (n - 1 - 1) P (goesOn fun W'=>KeepsFrom w.heap.size W W'∧Kp W W'∧I (pre++[x]) W') a' W)
  (hdone:∀ (D:Nat) (xs:List α) (W:World),w.heap.size≤D→S xs→I xs W→W.heap[D]?=some (.deferred (some []))→Q .normal {a with defers:={target:=.collected D,args:=#[]} :: a.defers} W) :
  (Code.rangeFunc g ps assign body).wpIn F n P Q a w:=by
 refine wpIn_rangeFunc fun fn hfn=>?_
 rw [hro]
 -- the loop's record,ready or busy;the block of the rounds' deferred calls lies in front of it
 let R:LoopState→Loop:=fun st=>{state:=st,pending:=none,fn:=fn,tmps:=a.tmps,params:=ps,assign:=assign,body:=body,defers:=w.heap.size}
 let B:World:=(w.alloc (.deferred (some []))).alloc (.loop (R .ready))
 have bD:B.heap[w.heap.size]?=some (.deferred (some [])):=(Below.heap_alloc _ _ _ (by simp)).trans (World.alloc_heap_new w _)
 have bL:B.heap[w.heap.size+1]?=some (.loop (R .ready)):=by
  have h:=World.alloc_heap_new (w.alloc (.deferred (some []))) (.loop (R .ready))
  rwa [World.size_alloc] at h
 have bI:I [] B:=hI.alloc _ (hI.alloc _ h0)
 have bB:Below w.heap.size w B:=((Below.refl _ w).alloc (Nat.le_refl _) _).alloc (by simp) _
 have bz:B.heap.size=w.heap.size+1+1:=by simp [B]
 refine ⟨w.heap.size+1,[{target:=.collected w.heap.size,args:=#[]}],B,{target:=.fn (.func gf) lb,args:=#[.func (.yield (w.heap.size+1)) #[] #[]]},B,gf,#[.func (.yield (w.heap.size+1)) #[] #[]]++lb,B,
  run_enterLoop_outer _ _ _ _ _,by simp only [resolve,hg];simp [go_sem],fun f' hf'=>by simp [Target.leads] at hf';subst hf';exact hFg,by simp [invoke,go_sem,eg],fun _=>h1,?_⟩
 -- what the caller keeps,the record and the block beside it
 refine (hseq (w.heap.size+1) (fun pre W=>I pre W∧W.heap[w.heap.size+1]?=some (.loop (R .ready))∧W.heap[w.heap.size]?=some (.deferred (some []))) B bB ?_ ?_ ⟨bI,bL,bD⟩).mono ?_
 ·rintro s X Y row ⟨s1,s2,s3⟩ hg' hr
  have hne:∀ k,k<B.heap.size→some k≠row:=fun k hk e=>by have:=(hr k e.symm).1;omega
  refine ⟨hI s X Y row s1 hg' fun r e=>?_,(hg'.block _ (Array.getElem?_eq_some_iff.1 s2).1 (hne _ (by omega))).trans s2,(hg'.block _ (Array.getElem?_eq_some_iff.1 s3).1 (hne _ (by omega))).trans s3⟩
  obtain ⟨k1,o,k2,k3⟩:=hr r e
  exact ⟨by omega,o,k2,k3⟩
 ·rintro pre x W ⟨s1,s2,s3⟩ hx hlen
  have hlt:w.heap.size+1<W.heap.size:=(Array.getElem?_eq_some_iff.1 s2).1
  refine ⟨fn,_,assign,body,run_yield (P:=P) (args:=encs x) s2 (hps x),roundIn_of_wpIn hfn (hassign _ pre x W _ s1 hx fun a' U u1 uK uI uA=>?_)⟩
  have u2:=u1.same _ _ (by omega) s2 rfl
  have u3:=u1.same _ _ (Nat.le_refl _) s3 rfl
  have hlu:w.heap.size+1<U.heap.size:=(Array.getElem?_eq_some_iff.1 u2).1
  refine ⟨_,run_beginRound u2 rfl,?_⟩
  obtain ⟨V,hV⟩:∃ V,U.putObj (w.heap.size+1) (.loop {R .ready with state:=.busy})=V:=⟨_,rfl⟩
  have v2:V.heap[w.heap.size+1]?=some (.loop {R .ready with state:=.busy}):=hV ▸ World.putObj_heap_same hlu
  have v3:V.heap[w.heap.size]?=some (.deferred (some [])):=hV ▸ (World.putObj_heap_other (by omega)).trans u3
  have vI:I pre V:=hV ▸ hI.putObj _ uI (by omega) u2 rfl
  have vE:Ax x a' V:=hV ▸ (hAx x).putObj _ uA (by omega) u2 rfl
  have vK:Kp W V:=hKt uK (hV ▸ hKb _ _ _ _ (by omega) u2)
  show body.wpIn _ _ _ _ _ (U.putObj (w.heap.size+1) (.loop {R .ready with state:=.busy}))
  rw [hV]
  refine wpIn_mono (hbody _ pre x a' V vI vE hlen) ?_
  rintro (_ | _ | _ | _ | _ | _) a3 Z hz
  case normal=>
   obtain ⟨z1,z2,z3⟩:=hz
   have l3:=z1.same _ _ (by omega) v2 rfl
   refine ⟨_,_,run_endRound (P:=P) none l3,rfl,⟨hI.putObj _ z3 (by omega) l3 rfl,World.putObj_heap_same (Array.getElem?_eq_some_iff.1 l3).1,(World.putObj_heap_other (by omega)).trans (z1.same _ _ (Nat.le_refl _) v3 rfl)⟩,hKt (hKt vK z2) (hKb _ _ _ _ (by omega) l3)⟩
  all_goals exact hz.elim
 ·rintro e Z ⟨⟨v,rfl⟩,xs,hS,z1,z2,z3⟩
  exact ⟨none,_,run_endLoop (P:=P) z2 (by simp [R]),hdone _ xs _ (Nat.le_refl _) hS (hI.putObj _ z1 (by omega) z2 rfl) ((World.putObj_heap_other (by omega)).trans z3)⟩
def marks (Ds:List Nat):List Deferred:=Ds.map fun D=>{target:=.collected D,args:=#[]}
theorem leaves_all {fn:Func} {tmps:Array Value} {R:Ending→World→Prop} (I:World→Prop) (ok:Nat→Prop) (hI:∀ w D,ok D→I w→w.heap[D]?=some (.deferred (some []))→I (w.putObj D (.deferred none))):∀ (Ds:List Nat) (w:World),Ds.Nodup→(∀ D∈Ds,ok D∧w.heap[D]?=some (.deferred (some [])))→I w→
  (∀ w',I w'→LeavesInM F n P fn tmps R [] .returning w')→LeavesInM F n P fn tmps R (marks Ds) .returning w
 | [],w,_,_,h,k=>k w h
 | D :: Ds,w,hnd,hD,h,k=>by
  obtain ⟨h0,h1⟩:=hD D (by simp)
  refine ⟨by simp,.inl ⟨D,_,rfl,run_takeDeferred h1,?_⟩⟩
  refine leaves_all I ok hI Ds _ (List.nodup_cons.1 hnd).2 (fun E hE=>⟨(hD E (List.mem_cons_of_mem _ hE)).1,?_⟩) (hI w D h0 h h1) k
  have hne:E≠D:=fun e=>(List.nodup_cons.1 hnd).1 (e ▸ hE)
  exact (World.putObj_heap_other (by omega)).trans (hD E (List.mem_cons_of_mem _ hE)).2
end Go.Each
namespace Go.Proofs.YtajlleeonddinaaGreatDoor
open Go.RowKit Go.Shelf
attribute [local go_sem] Oper.semAt_some
def KeepD (W W':World):Prop:=∀ (D:Nat) (o:Option (List Deferred)),W.heap[D]?=some (.deferred o)→W'.heap[D]?=some (.deferred o)
theorem KeepD.trans {A B C:World} (h:KeepD A B) (k:KeepD B C):KeepD A C:=fun D o e=>k D o (h D o e)
theorem KeepD.below {W W':World} (h:Below W.heap.size W W'):KeepD W W':=fun D o e=>(h.block D (Array.getElem?_eq_some_iff.1 e).1).trans e
def IsCode (ps:List Pat) (x:Pat×Int):Prop:=fstF ps x.2.toNat=x.1∧x.1.1≠[]∧0≤x.2∧x.2<256
theorem isCode_of {ps:List Pat} {k:Nat} (hk:k<256) (h:(fstF ps k).1≠[]):IsCode ps (fstF ps k,(k:Int)):=⟨rfl,h,by simp,by simp;omega⟩
theorem sB_nil_eq (l:Str):(sB l).toList.isEmpty=l.isEmpty:=by
 rw [ByteArray.toList_eq]
 cases l <;> rfl
theorem grown_set2 (X:World) (b i j:Nat) (u v:Value):X.grownBy ((X.setCell ⟨b,i,none⟩ u).setCell ⟨b,j,none⟩ v) (some b):=
 ⟨rfl,rfl,rfl,by simp,fun k hk e=>(heap_setCell_other _ ⟨b,j,none⟩ k v (by simpa using e)).trans (heap_setCell_other _ ⟨b,i,none⟩ k u (by simpa using e))⟩
theorem loadR {P:Program} {w:World} {t:TypeId} {x:Operand} {p v:Value} {ops:Array Oper} {rest:List Oper} {o:Oper} {a:Act} {Q:Exit→Act→World→Prop} (h1:(Instr.loadAt t p).run P w=.ok v w) (hgd:o.guard=none)
  (ho:o.op=.load t x) (hx:a.eval x=p) (hk:wpList P ops Q rest (a.put o.dst v) w):wpList P ops Q (o :: rest) a w:=by
 refine wpList_plain hgd fun K hK=>?_
 unfold Oper.wp
 simp [execOp,ho,hx,h1,Result.andThen]
 exact hK _ _ hk
theorem fst_pre {ps pre:List Pat} {x:Pat} (hps:∀ p∈ps,p∈mainP++cbP++edP) (h:pre++[x] <+: ps):x∈mainP++cbP++edP∧∀ q∈pre,q∈mainP++cbP++edP:=
 ⟨hps _ (h.subset (by simp)),fun q hq=>hps _ (h.subset (List.mem_append_left _ hq))⟩
def InvO (n0:Nat) (W:World) (pre:List Pat) (X:World):Prop:=Below n0 W X∧n0+2≤X.heap.size∧RowF X n0 (fstF pre)
theorem InvO.own {n0:Nat} {W X Y:World} {pre:List Pat} {row:Option Nat} (h:InvO n0 W pre X) (hg:X.grownBy Y row) (hr:∀ r,row=some r→n0+1≤r):InvO n0 W pre Y:=
 ⟨h.1.grown hg (by have:=h.2.1;omega) fun r e=>by have:=hr r e;omega,Nat.le_trans h.2.1 hg.size,h.2.2.block (hg.block n0 h.2.2.lt fun e=>by have:=hr _ e.symm;omega)⟩
theorem codesK_len (ps:List Pat):∀ k,(codesK ps k).length≤k
 | 0=>Nat.le_refl _
 | k+1=>by
  have h:=codesK_len ps k
  unfold codesK
  split
  ·omega
  ·rw [List.length_append];simp;omega
theorem codes1_gives (n:Nat) (Bs:Nat) (l:Str) (hl:l.length≤100000) (hps:∀ p∈patsOf l,p∈mainP++cbP++edP) (w:World) (hs:Boxed w Bs 9 (.string (sB l))) (hM:MaxAt w) :
  Each.GivesO Fence.wide n Tryz.prog 208 #[.pointer (some ⟨Bs,0,none⟩)] (fun x:Pat×Int=>#[codeV x.1 x.2]) (fun x _=>IsCode (patsOf l) x) KeepD (fun xs=>xs=codesK (patsOf l) 256) 256 w:=fun lp J W hW hJ hY h0=>by
 have hJb:∀ (z:List (Pat×Int)) (X Y:World),J z X→Below X.heap.size X Y→J z Y:=fun z X Y h hb=>hJ z X Y none h ⟨hb.os,hb.tape,hb.output,hb.size,fun i hi _=>hb.block i hi⟩ (fun r e=>by cases e)
 have kb:Boxed W Bs 9 (.string (sB l)):=(hW.block Bs hs.lt).trans hs
 have hM1:MaxAt W:=hM.below hW
 obtain ⟨n0,hn⟩:∃ z,W.heap.size=z:=⟨_,rfl⟩
 have hgn:0 < n0:=by rw [← hn];exact hM1.lt
 have hz:=zero_row W
 obtain ⟨w0,hw0⟩:∃ w0,W.alloc (.cells (Array.replicate 512 (.string ⟨#[]⟩)) 277)=w0:=⟨_,rfl⟩
 have R0:RowF w0 n0 (fstF []):=by rw [← hw0,← hn];exact new_row W
 have b0:Below n0 W w0:=by rw [← hw0,← hn];exact (Below.refl _ _).alloc (Nat.le_refl _) _
 have z0:w0.heap.size=n0+1:=by rw [← hw0,← hn];simp
 have kb0:Boxed w0 Bs 9 (.string (sB l)):=by rw [← hw0];exact kb.alloc _
 have p0:=kb0.cell
 have hM0:MaxAt w0:=hM1.below (by rw [hn];exact b0)
 have hpt:=patterns_any l w0
 rw [z0] at hpt
 have HY:=Lib.hid hY
 have HJb:=Lib.hid hJb
 have HJd:Hid (∀ (z:List (Pat×Int)) (X:World) (D:Nat) (o:Option (List Deferred)),J z X→n0≤D→X.heap[D]?=some (.deferred o)→J z (X.putObj D (.deferred none))):=fun z X D o h hD hX=>hJ z X _ (some D) h (grownBy_putObj' X D _) (fun r e=>by cases e;exact ⟨by omega,_,hX,rfl⟩)
 have J0:=Lib.hid h0
 have HPS:=Lib.hid hps
 have hn0:=Lib.hid hn
 clear h0 hY hJb hJ hW hM hs kb hM1 kb0
 refine callsIn_wide.2 (callsIn_wide.1 (callsIn_of_wp_marks (n:=6) Tryz.func208 rfl trivial ?_ rfl))
 simp only [Tryz.ntmps208,List.size_toArray,List.length_cons,List.length_nil,Nat.reduceAdd,Nat.reduceSub,Array.replicate_succ,Array.replicate_zero,List.push_toArray,List.append_toArray,List.nil_append,List.cons_append]
 refine wpIn_wide.2 ?_
 go_wp2_with fail
 refine hpt.mono ?_
 rintro e W0 ⟨rfl,hW0⟩
 have hs1:Boxed W0 (n0+1) 9 (.string (sB l)):=by
  have h:=Boxed.new w0 9 (.string (sB l))
  rw [hW0,z0] at h
  exact h
 have zW:W0.heap.size=n0+1+1:=by rw [← hW0];simp;omega
 have bW:Below w0.heap.size w0 W0:=by rw [← hW0];exact (Below.refl _ _).alloc (Nat.le_refl _) _
 have bN:Below n0 W W0:=b0.trans (bW.mono (by omega))
 have R1:RowF W0 n0 (fstF []):=R0.block (bW.block n0 (by omega))
 have hMW:MaxAt W0:=hM0.below bW
 have hseq:=patterns1_tells 5 (n0+1) l hl W0 hs1 hMW
 have HM:=Lib.hid hMW
 have I0:Hid (InvO n0 W [] W0):=⟨bN,by omega,R1⟩
 clear R0 b0 p0 hM0 hpt hs1 bW bN R1 hMW hw0 hW0 z0 hz hl w0
 go_wp2_with fail
 refine wpIn_wide.1 (Stops.wpIn_tellsH (F:=Fence.wide) (n:=6) rfl (by omega) (gf:=226) (lb:=#[.pointer (some ⟨n0+1,0,none⟩)]) rfl trivial (enters_of Tryz.func226 (by kernel_rfl) rfl)
  hseq (by omega) (fun h k=>h.trans k) (fun W l o o' hl _ _=>keepM_put HM.out W l o' (by omega)) (fun _=>rfl)
  (InvO n0 W) (fun _ _=>False)
  (fun s X Y row h hg hr=>h.own hg fun r e=>by have:=(hr r e).1;omega)
  (fun s X Y h hg=>h.own hg fun r e=>by cases e;omega)
  (fun s X Y row h hg hr=>h.elim)
  I0.out
  (fun x a' W1=>∃ b,n0+2≤b∧W1.heap[b]?=some (.cells #[.string (sB x.1),.string (sB x.2)] 240 (0,0))∧a'={tmps:=#[.func (.yield lp) #[] #[],.pointer (some ⟨Bs,0,none⟩),undef,.pointer (some ⟨n0,0,none⟩),.pointer (some ⟨b,0,none⟩),undef,undef,undef,.string (sB l),.func (.func 226) #[] #[.pointer (some ⟨n0+1,0,none⟩)],.agg #[.string (sB x.1),.string (sB x.2)],undef,undef,undef,undef,undef,undef,undef,undef,undef,undef,undef,undef,undef,undef,undef,undef,undef,undef,undef,undef,undef,undef,undef,undef,undef,undef,undef,undef,undef],defers:=[]})
  (fun x s X Y row h hg hr=>by
   obtain ⟨b,h1,h2,h3⟩:=h
   exact ⟨b,h1,(grownBy_keeps_cells hg (fun r e=>(hr r e).2) h2 rfl).trans h2,h3⟩)
  ?assign ?body ?done (fun _ _ _ _ h=>h.elim))
 case assign=>
  rintro lq pre x W1 K hI hE hK
  have hsz:=hI.2.1
  gi_wp2
  refine hK _ _ ((KeepsOthers.alloc _ _).from _) (keepM_below ((Below.refl n0 W1).alloc (by omega) _) hgn) ⟨hI.1.alloc (by omega) _,by simp;omega,World.rowIs.alloc hI.2.2 _⟩ ⟨W1.heap.size,by omega,World.alloc_heap_new W1 _,rfl⟩
 case body=>
  rintro lq pre x a' W1 hlq ⟨r1,hr1⟩ hI ⟨b,hb,hc,rfl⟩ hpre
  have HP:=Lib.hid (fst_pre HPS.out hpre)
  have hmem:=HP.out.1
  have hfit:=ops_fit x hmem
  have h8:=(pats_small x hmem).1
  have q0:=Lib.cell_of_heap hc 0
  have q1:=Lib.cell_of_heap hc 1
  have HC:=Lib.hid hc
  have HI:=Lib.hid hI
  have hi8:=opcodes_gives 3 x h8 hfit.1 W1
  have hbl:b<W1.heap.size:=(Array.getElem?_eq_some_iff.1 hc).1
  have hW1:n0+2≤W1.heap.size:=hI.2.1
  have HR:=Lib.hid hr1
  have HE:=Lib.hid hpre
  clear hfit h8 hmem hc hI hpre hr1
  gi_wp2_with fail
  refine Each.wpIn_eachN (F:=Fence.wide.inRound lq) (n:=6 - 1 - 1) rfl HR.out (by omega) (gf:=209) (ba:=#[.agg #[.string (sB x.1),.string (sB x.2)]]) (lb:=#[]) rfl trivial (enters_of Tryz.func209 (by kernel_rfl) rfl)
   (N:=256) (fun lp2 J2 W2 h1 h2 h3 h4=>(hi8 lp2 J2 W2 h1 h2 h3 h4).inRound lq) (fun _ _=>trivial) (fun _ _ _ _ _ _ _=>trivial) (fun _=>rfl)
   (fun xs X=>W1.grownBy X (some n0)∧RowF X n0 (mkF pre x xs))
   (fun s X Y row h hg hr=>⟨h.1.andThen hg fun j e=>.inl (hr j e).1,h.2.block (hg.block n0 h.2.lt fun e=>by have:=(hr _ e.symm).1;omega)⟩)
   ⟨World.grownBy.refl _ _,HI.out.2.2.congr fun i _=>(mkF_nil pre x i).symm⟩
   (fun y a' X=>(0≤y∧y≤255)∧a'={tmps:=#[.func (.yield lp) #[] #[],.pointer (some ⟨Bs,0,none⟩),undef,.pointer (some ⟨n0,0,none⟩),.pointer (some ⟨b,0,none⟩),.int .u8 y,undef,undef,.string (sB l),.func (.func 226) #[] #[.pointer (some ⟨n0+1,0,none⟩)],.agg #[.string (sB x.1),.string (sB x.2)],.agg #[.string (sB x.1),.string (sB x.2)],.func (.func 209) #[.agg #[.string (sB x.1),.string (sB x.2)]] #[],.int .u8 y,undef,undef,undef,undef,undef,undef,undef,undef,undef,undef,undef,undef,undef,undef,undef,undef,undef,undef,undef,undef,undef,undef,undef,undef,undef,undef],defers:=[]})
   (fun x s X Y row h hg hr=>h)
   ?assign2 ?body2 ?done2
  case assign2=>
   rintro lr xs y X K hX hy hK
   gi_wp2
   exact hK _ _ (KeepsFrom.refl _ _) trivial hX ⟨hy,rfl⟩
  case body2=>
   rintro lr xs y a' X ⟨g1,g2⟩ ⟨⟨y0,y1⟩,rfl⟩ hlen
   obtain ⟨yn,rfl⟩:∃ z:Nat,y=(z:Int):=⟨y.toNat,by omega⟩
   have hyn:yn<256:=by omega
   have e0:=g2.c0 hyn
   have f0:=World.rowIs.frozen g2 (yn*2)
   have f1:=World.rowIs.frozen g2 (yn*2+1)
   have e1:=g2.c1 hyn
   have HCX:=(g1.block b hbl (by simp;omega)).trans HC.out
   have k0:=Lib.cell_of_heap HCX 0
   have k1:=Lib.cell_of_heap HCX 1
   have hem:=sB_nil_eq (mkF pre x xs yn).1
   have G1:=Lib.hid g1
   have G2:=Lib.hid g2
   have bne:b≠n0:=by omega
   have KF:Hid (∀ Z,W1.grownBy Z (some n0)→X.grownBy Z (some n0)→KeepsFrom W1.heap.size X Z):=fun Z h1 h2=>⟨h2.size,fun k o hk hk2 _=>(h2.block k (Array.getElem?_eq_some_iff.1 hk2).1 (by simp;omega)).trans hk2⟩
   clear g1 g2 HCX y0 y1 hlen
   by_cases hemp:(mkF pre x xs yn).1=[]
   ·rw [hemp] at hem e0
    rw [List.isEmpty_nil] at hem
    have P:Hid (RowF ((X.setCell ⟨n0,yn*2,none⟩ (.string (sB x.1))).setCell ⟨n0,yn*2+1,none⟩ (.string (sB x.2))) n0 (mkF pre x (xs++[(yn:Int)]))):=
     (G2.out.put yn x).congr fun i hi=>(mkF_put pre x xs yn hemp i).symm
    clear hemp
    gi_wp2
    have hg:X.grownBy ((X.setCell ⟨n0,yn*2,none⟩ (.string (sB x.1))).setCell ⟨n0,yn*2+1,none⟩ (.string (sB x.2))) (some n0):=grown_set2 _ _ _ _ _ _
    exact ⟨KF.out _ (G1.out.trans hg) hg,trivial,G1.out.trans hg,P.out⟩
   ·rw [List.isEmpty_eq_false_iff.2 hemp] at hem
    have P:Hid (RowF X n0 (mkF pre x (xs++[(yn:Int)]))):=G2.out.congr fun i hi=>(mkF_skip pre x xs yn hemp i).symm
    clear hemp
    gi_wp2
    exact ⟨KF.out _ G1.out (World.grownBy.refl _ _),trivial,G1.out,P.out⟩
  case done2=>
   rintro xs X hxs ⟨g1,g2⟩
   rw [show xs=opsP x from hxs] at g2
   have P:InvO n0 W (pre++[x]) X:=⟨HI.out.1.trans ((Below.refl n0 W1).grown g1 (by omega) fun r e=>by cases e;omega),by have:=g1.size;omega,g2.congr fun i hi=>fst_snoc pre x HP.out.1 HP.out.2 i hi⟩
   have Q:KeepsFrom (n0+2) W1 X:=⟨g1.size,fun k o hk hk2 _=>(g1.block k (Array.getElem?_eq_some_iff.1 hk2).1 (by simp;omega)).trans hk2⟩
   have M:KeepM W1 X:=World.cell?_of_block (g1.block _ (by show 0 < _;omega) (by simp;omega))
   have PQ:=Lib.hid (And.intro Q (And.intro M P))
   clear g1 g2 P Q M
   gi_wp2
   rw [show W0.heap.size=n0+2 by omega]
   exact PQ.out
 case done=>
  rintro D xs W2 hD hxs hI hK
  rw [show xs=patsOf l from hxs] at hI
  have hld:=load_row hI.2.2
  have J2:=Lib.hid (HJb.out _ _ _ J0.out (by rw [hn];exact hI.1))
  have DK:=Lib.hid hK
  have HD:Hid (n0+2≤D):=by show _≤_;omega
  have HI:=Lib.hid hI
  obtain ⟨f,hf⟩:∃ f,fstF (patsOf l)=f:=⟨_,rfl⟩
  have HF:=Lib.hid hf
  rw [hf] at hld
  clear hK hD hI hxs hf hseq HM
  go_wp2_with (refine loadR hld rfl rfl rfl ?_)
  go_loopw [23] (fun r wr=>∃ j:Nat,r=.int .i64 (j:Int)∧j≤256∧Hid (J (codesK (patsOf l) j) wr)∧Hid (wr.heap[D]?=some (.deferred (some [])))) (fun r _=>256 - (intOf r).toNat)
  case atStart=>exact ⟨0,rfl,by omega,J2.out,DK.out⟩
  case round=>
   clear J2 DK hld
   obtain ⟨j,rfl,hj,JJ,DD⟩:=hrel
   by_cases hj2:j=256
   ·subst hj2
    clear hj
    go_wp2
    refine ⟨by simp,.inl ⟨_,_,rfl,run_takeDeferred DD.out,?_⟩⟩
    refine ⟨.tuple #[],by simp [results,Tryz.results208,go_sem],⟨_,rfl⟩,_,rfl,HJd.out _ _ _ _ JJ.out (by have:=HD.out;omega) DD.out⟩
   ·have hj3:j<256:=by omega
    have hij:(j:Int)<256:=by omega
    have hix:=index_row f j hj3
    have hwr:IntKind.u8.wrap (j:Int)=(j:Int):=by show (j:Int) % 256=_;omega
    have hem:=sB_nil_eq (f j).1
    have HJ3:=Lib.hid hj3
    clear hj2 hj hj3
    by_cases hemp:(f j).1=[]
    ·rw [hemp] at hem hix
     rw [List.isEmpty_nil] at hem
     have P:Hid (codesK (patsOf l) (j+1)=codesK (patsOf l) j):=by
      show codesK _ (j+1)=_
      rw [codesK,HF.out,if_pos hemp]
     clear hemp
     go_wp2
     refine ⟨⟨j+1,by simp,by have:=HJ3.out;omega,?_,(Below.heap_alloc _ _ _ (Array.getElem?_eq_some_iff.1 DD.out).1).trans DD.out⟩,?_⟩
     ·show J _ _
      rw [P.out]
      exact HJb.out _ _ _ JJ.out ((Below.refl _ _).alloc (Nat.le_refl _) _)
     ·show 256 - ((j:Int)+1).toNat<256 - (j:Int).toNat
      have:=HJ3.out
      omega
    ·rw [List.isEmpty_eq_false_iff.2 hemp] at hem
     have P:Hid (codesK (patsOf l) (j+1)=codesK (patsOf l) j++[(f j,(j:Int))]):=by
      show codesK _ (j+1)=_
      rw [codesK,HF.out,if_neg hemp]
     have IC:Hid (IsCode (patsOf l) (f j,(j:Int))):=by
      have h:=isCode_of (ps:=patsOf l) HJ3.out (by rw [HF.out];exact hemp)
      rw [HF.out] at h
      exact h
     obtain ⟨wa,hwa⟩:∃ wa,wr.alloc (.cells #[.string (sB (f j).1),.string (sB (f j).2)] 240)=wa:=⟨_,rfl⟩
     have hca:wa.heap[wr.heap.size]?=some (.cells #[.string (sB (f j).1),.string (sB (f j).2)] 240 (0,0)):=by rw [← hwa];exact World.alloc_heap_new wr _
     have q0:=Lib.cell_of_heap hca 0
     have q1:=Lib.cell_of_heap hca 1
     have DA:Hid (wa.heap[D]?=some (.deferred (some []))):=by rw [← hwa];exact (Below.heap_alloc _ _ _ (Array.getElem?_eq_some_iff.1 DD.out).1).trans DD.out
     have hyd:=HY.out (codesK (patsOf l) j) (f j,(j:Int)) wa (by rw [← hwa];exact HJb.out _ _ _ JJ.out ((Below.refl _ _).alloc (Nat.le_refl _) _)) IC.out (Nat.lt_of_le_of_lt (codesK_len _ _) HJ3.out)
     obtain ⟨fn,tmps,assign,body,hy,hR⟩:=hyd
     simp only [codeV] at hy
     clear hemp IC JJ DD hca
     go_upto_region 10 with fail
     refine (wpIn_wide (n:=n)).1 ?_
     gi_wp2
     refine ⟨fun h=>(by cases h),hR.mono ?_⟩
     rintro e3 W3 ⟨rfl,hJ3,hk3⟩
     have J3:=Lib.hid hJ3
     have D3:=Lib.hid (hk3 D _ DA.out)
     clear hJ3 hk3 hR hy
     gi_wp2
     go_wp2
     refine ⟨⟨j+1,by simp,by have:=HJ3.out;omega,?_,D3.out⟩,?_⟩
     ·show J _ _
      rw [P.out]
      exact J3.out
     ·show 256 - ((j:Int)+1).toNat<256 - (j:Int).toNat
      have:=HJ3.out
      omega
end Go.Proofs.YtajlleeonddinaaGreatDoor
namespace Go.Proofs.YtajlleeonddinaaGreatDoor
open Go.RowKit Go.Shelf
attribute [local go_sem] Oper.semAt_some
theorem codes_any (l:Str) (w:World) :
  Calls Tryz.prog 194 #[.string (sB l)] w fun e w'=>e=.returned (.func (.func 208) #[] #[.pointer (some ⟨w.heap.size,0,none⟩)])∧w.alloc (.cells #[.string (sB l)] 9)=w':=by
 go_enter Tryz.func194,Tryz.ntmps194
 go_wp2
 go_ret
 exact ⟨rfl,rfl⟩
theorem mnemonic_any (p:Pat) (op:Int) (G:Good p op) (w:World) (hM:MaxAt w) :
  Calls Tryz.prog 195 #[codeV p op] w fun e w'=>e=.returned (.string (sB (wordsT p op).1))∧Below w.heap.size w w':=by
 have hw:=fun w' (h:MaxAt w')=>words_any p G.len (by have:=G.form;omega) op G.op0 G.op1 G.na G.no w' h
 unfold codeV at hw ⊢
 have hb:=up_alloc w (.cells #[.string (sB p.1),.string (sB p.2),.int .u8 op] 242)
 have hw:=hw _ (hM.below hb)
 have HB:=Lib.hid hb
 clear hM hb G
 go_enter Tryz.func195,Tryz.ntmps195
 go_wp2_with fail
 refine hw.mono ?_
 rintro e w' ⟨rfl,hb2⟩
 have HB2:Hid (Below w.heap.size w w'):=HB.out.trans (hb2.mono (by simp))
 clear hw hb2
 go_wp2
 go_ret
 exact ⟨rfl,HB2.out⟩
theorem sB_eq_dec (a b:Str):((sB a).toList == (sB b).toList)=decide (a=b):=by
 rw [ByteArray.toList_eq,ByteArray.toList_eq]
 show (a == b)=_
 by_cases h:a=b
 ·rw [h,decide_eq_true rfl]
  exact beq_self_eq_true _
 ·rw [decide_eq_false h]
  exact beq_false_of_ne h
theorem wantOne_any (m op:Str) (Bo:Nat) (w:World) (hb:Boxed w Bo 9 (.string (sB op))):Calls Tryz.prog 173 #[.string (sB m),.pointer (some ⟨Bo,0,none⟩)] w fun e w'=>e=.returned (.bool (decide (m=op)))∧w'=w:=by
 have hc:=hb.cell
 rw [← sB_eq_dec]
 go_enter Tryz.func173,Tryz.ntmps173
 go_wp2
 go_ret
 exact ⟨rfl,rfl⟩
def keyE (page op:Int):Option En→List Ke
 | some y=>[(page,op,y.1,y.2.1,y.2.2.1,y.2.2.2)]
 | none=>[]
def keyC (wnt:Str→Bool) (page:Int) (x:Pat×Int):List Ke:=if wnt (wordsT x.1 x.2).1=true then keyE page x.2 (entryT x.1 page x.2) else []
def keysC (wnt:Str→Bool) (page:Int) (xs:List (Pat×Int)):List Ke:=xs.flatMap (keyC wnt page)
theorem keysC_snoc (wnt:Str→Bool) (page:Int) (xs:List (Pat×Int)) (x:Pat×Int):keysC wnt page (xs++[x])=keysC wnt page xs++keyC wnt page x:=by
 unfold keysC
 rw [List.flatMap_append]
 simp
def keysPg (wnt:Str→Bool) (page:Int):List Ke:=keysC wnt page (codesK (patsOf (listS page)) 256)
def keysAll (wnt:Str→Bool) (pages:List Int):List Ke:=pages.flatMap (keysPg wnt)
theorem keysAll_snoc (wnt:Str→Bool) (xs:List Int) (x:Int):keysAll wnt (xs++[x])=keysAll wnt xs++keysPg wnt x:=by
 unfold keysAll
 rw [List.flatMap_append]
 simp
def IntsP (w:World) (A:Option Addr) (L:List Int):Prop:=L=[]∨∃ b off,A=some ⟨b,off,none⟩∧∀ k (h:k<L.length),w.cell? ⟨b,off+k,none⟩=some (.int .i64 L[k])
theorem IntsP.below {w w':World} {A:Option Addr} {L:List Int} (h:IntsP w A L) (hb:Below w.heap.size w w'):IntsP w' A L:=by
 rcases h with rfl | ⟨b,off,rfl,hc⟩
 ·exact .inl rfl
 ·exact .inr ⟨b,off,rfl,fun k hk=>(hb.cell (World.block_lt_of_cell? w _ (hc k hk))).trans (hc k hk)⟩
theorem fst_mem {ps:List Pat} {i:Nat} (h:(fstF ps i).1≠[]):fstF ps i∈ps:=by
 unfold fstF at h ⊢
 cases hf:ps.find? fun p=>fitsP p.1 (i:Int) with
 | none=>rw [hf] at h;exact absurd rfl h
 | some q=>exact List.mem_of_find?_eq_some hf
theorem isCode_mem {ps:List Pat} {x:Pat×Int} (h:IsCode ps x):x.1∈ps:=by
 rw [← h.1]
 exact fst_mem (by rw [h.1];exact h.2.1)
theorem pages_ok (page:Int):∀ p∈patsOf (listS page),p∈mainP++cbP++edP:=fun p hp=>by
 rw [patsOf_page] at hp
 exact page_mem hp
end Go.Proofs.YtajlleeonddinaaGreatDoor
