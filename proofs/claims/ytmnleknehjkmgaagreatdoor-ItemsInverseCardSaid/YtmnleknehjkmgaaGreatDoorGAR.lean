/-
  SeE, SeF, DfC, MixT, DgE, DgF.
-/
import Derived.Test.YtmnleknehjkmgaaGreatDoorGAC
import Derived.Test.YtmnleknehjkmgaaGreatDoorGAA
import Derived.Test.YtmnleknehjkmgaaGreatDoorGAQ
import Derived.Test.YtmnleknehjkmgaaGreatDoorGAP
import Derived.Test.YtmnleknehjkmgaaGreatDoorGAN
import Derived.Test.YtmnleknehjkmgaaGreatDoorGAB
import Derived.Deep.DeepCutAuto
import Derived.Deep.Cut
import Derived.Test.YtmnleknehjkmgaaGreatDoorGAI
import Derived.Test.YtmnleknehjkmgaaGreatDoorMSeN
import Derived.Laws.Tables
import Derived.Laws.CopyOwn
set_option linter.all false
set_option maxRecDepth 100000
set_option maxHeartbeats 4000000
namespace Go.Proofs.YtmnleknehjkmgaaGreatDoor
open Go.RowKit
attribute [local go_sem] Oper.semAt_some
theorem atI_none {ks:List Int} {L:List Tr} (h:atV ks L=none):atI ks L=-1:=by unfold atI;rw [h]
theorem atI_some {ks:List Int} {L:List Tr} {k:Nat} (h:atV ks L=some k):atI ks L=(k:Int):=by unfold atI;rw [h]
theorem getD_at {L:List Tr} {k:Nat} (h:k<L.length):L.getD k tr0=L[k]:=by rw [List.getD_eq_getElem?_getD,List.getElem?_eq_getElem h];rfl
theorem vnum_any (x:Vr) (v:Value) (s:ByteArray) (A:Option Addr) (cap l:Nat) (L:List Tr) (hl:L.length=l) (hL:l≤1000) (w:World) (hv:VarA w v x) (H:OpsP w A L) :
  Calls Tryz.prog 40 #[v,.agg #[.string s,.slice A l cap]] w fun e w'=>e=.returned (.int .i64 (numV x.1 L))∧Below w.heap.size w w':=by
 have hv':=hv
 obtain ⟨b1,b2,b3,Ak,ck,rfl,-⟩:=hv'
 obtain ⟨w0,hw0⟩:∃ w0,(w.alloc (.cells #[.func (.func 77) #[] #[.pointer (some ⟨b1,0,none⟩)],.func (.func 79) #[] #[.pointer (some ⟨b2,0,none⟩),.pointer (some ⟨b3,0,none⟩)]] 89)).alloc (.cells #[.string s,.slice A l cap] 26)=w0:=⟨_,rfl⟩
 obtain ⟨n,hn⟩:∃ n,w.heap.size=n:=⟨_,rfl⟩
 have b0:Below n w w0:=by rw [← hw0,← hn];exact ((Below.refl _ w).alloc (Nat.le_refl _) _).alloc (by simp) _
 have z0:w0.heap.size=n+1+1:=by rw [← hw0,← hn];simp
 have c0:w0.heap[n]?=some (.cells #[.func (.func 77) #[] #[.pointer (some ⟨b1,0,none⟩)],.func (.func 79) #[] #[.pointer (some ⟨b2,0,none⟩),.pointer (some ⟨b3,0,none⟩)]] 89 (0,0)):=by
  rw [← hw0,← hn]
  exact (Below.heap_alloc _ _ _ (by simp)).trans (World.alloc_heap_new w _)
 have c1:w0.heap[n+1]?=some (.cells #[.string s,.slice A l cap] 26 (0,0)):=by
  rw [← hw0,← hn]
  have h:=World.alloc_heap_new (w.alloc (.cells #[.func (.func 77) #[] #[.pointer (some ⟨b1,0,none⟩)],.func (.func 79) #[] #[.pointer (some ⟨b2,0,none⟩),.pointer (some ⟨b3,0,none⟩)]] 89)) (.cells #[.string s,.slice A l cap] 26)
  rwa [World.size_alloc] at h
 have AT:=Lib.hid (vat_any x _ s A cap l L hl hL w0 (hv.below (by rw [hn];exact b0)) (H.below (by rw [hn];exact b0)))
 have HN:=Lib.hid hn
 have B0:=Lib.hid b0
 have C1:=Lib.hid c1
 have HH:=Lib.hid H
 have j0:=Lib.cell_of_heap c0 0
 have j1:=Lib.cell_of_heap c0 1
 have j2:=Lib.cell_of_heap c1 0
 have j3:=Lib.cell_of_heap c1 1
 clear H hv b0 c0 c1
 cases e:atV x.1 L with
 | none=>
  have NV:Hid (numV x.1 L=0):=by show numV x.1 L=0;unfold numV;rw [e]
  rw [atI_none e] at AT
  clear e
  go_enter Tryz.func40,Tryz.ntmps40
  go_wp2_with fail
  refine AT.out.mono ?_
  rintro e w1 ⟨rfl,hb⟩
  have B1:Hid (Below n w w1):=B0.out.trans (hb.mono (by omega))
  clear hb AT j0 j1 j2 j3
  go_wp2
  go_ret
  exact ⟨by rw [NV.out];rfl,by rw [HN.out];exact B1.out⟩
 | some k=>
  have hk:=atV_lt e
  have hkl:k<l:=by omega
  have NV:Hid (numV x.1 L=L[k].2.2):=by show numV x.1 L=_;unfold numV;rw [e];simp only;rw [getD_at hk]
  rw [atI_some e] at AT
  obtain ⟨b,off,rfl,hb,p0,p1,p2⟩:=(HH.out.below (by rw [hn];exact B0.out)).at_ hk
  have P2:=Lib.hid p2
  have HB:=Lib.hid hb
  have hkc:(k:Int)<(l:Int):=by omega
  clear e p0 p1 p2 hb
  go_enter Tryz.func40,Tryz.ntmps40
  go_wp2_with fail
  refine AT.out.mono ?_
  rintro e w1 ⟨rfl,hb⟩
  have B1:Hid (Below n w w1):=B0.out.trans (hb.mono (by omega))
  have c1:=(hb.block (n+1) (by omega)).trans C1.out
  have k1:=Lib.cell_of_heap c1 1
  have p2:=(hb.cell (p:=⟨b,off+k*3+2,none⟩) HB.out).trans P2.out
  obtain ⟨y,hy⟩:∃ y,L[k].2.2=y:=⟨_,rfl⟩
  rw [hy] at p2 NV
  clear hb AT c1 hy j0 j1 j2 j3
  go_wp2
  go_ret
  exact ⟨by rw [NV.out];rfl,by rw [HN.out];exact B1.out⟩
theorem own_setN {w:World} {B g cap l:Nat} {L:List Tr} (h:OwnT w B (.slice (some ⟨g,0,none⟩) l cap) L) (hl:L.length=l) (k:Nat) (hk:k<L.length) (n:Int):OwnT (w.setCell ⟨g,k*3+2,none⟩ (.int .i64 n)) B (.slice (some ⟨g,0,none⟩) l cap) (setN L k n):=by
 refine h.put hl (by unfold setN;rw [List.length_set];exact hl) (k*3+2) _ ?_
 unfold setN
 rw [getD_at hk]
 exact (cells_set L k _ _ n hk rfl rfl).symm
theorem varA_row {w:World} {v:Value} {x:Vr} (h:VarA w v x) {g:Nat} {cur:Array Value} (hg:w.heap[g]?=some (.cells cur 50 (0,0))) (b2 b3:Nat) (j:Nat) (u:Value) {b1:Nat}
  (e:v=.agg #[.func (.func 77) #[] #[.pointer (some ⟨b1,0,none⟩)],.func (.func 79) #[] #[.pointer (some ⟨b2,0,none⟩),.pointer (some ⟨b3,0,none⟩)]]) :
  Boxed (w.setCell ⟨g,j,none⟩ u) b2 3 (.int .i64 x.2.1)∧Boxed (w.setCell ⟨g,j,none⟩ u) b3 3 (.int .i64 x.2.2):=by
 subst e
 obtain ⟨c1,c2,c3,A,cap,e,h1,h2,h3,h4,h5⟩:=h
 cases e
 have ne:∀ {b:Nat} {y:Value},Boxed w b 3 y→b≠g:=fun {b y} hb=>by
  rintro rfl
  rw [show w.heap[b]?=_ from hb] at hg
  simp at hg
 exact ⟨(heap_setCell_other w ⟨g,j,none⟩ _ u (ne h3)).trans h3,(heap_setCell_other w ⟨g,j,none⟩ _ u (ne h4)).trans h4⟩
theorem grow_below {w w':World} (h:Below w.heap.size w w') (row:Option Nat):w.grownBy w' row:=⟨h.os,h.tape,h.output,h.size,fun k hk _=>h.block k hk⟩
theorem grownBy_setC (w:World) (b i:Nat) (v:Value):w.grownBy (w.setCell ⟨b,i,none⟩ v) (some b):=
 ⟨rfl,rfl,rfl,by simp,fun k hk hne=>heap_setCell_other w ⟨b,i,none⟩ k v (fun e=>hne (by rw [e]))⟩
theorem put_any (x:Vr) (v:Value) (s:ByteArray) (A:Option Addr) (cap l B:Nat) (L:List Tr) (hl:L.length=l) (hL:l≤1000) (q:Int) (w:World) (hv:VarA w v x) (H:OwnT w B (.slice A l cap) L) (hB:B≤w.heap.size) :
  Calls Tryz.prog 56 #[v,.agg #[.string s,.slice A l cap],.int .i64 q] w fun e w'=>e=.returned (.bool (putB x L q))∧OwnT w' B (.slice A l cap) (putL x.1 L q)∧w.grownBy w' (Value.slice A l cap).ownBlock:=by
 have hv':=hv
 obtain ⟨b1,b2,b3,Ak,ck,rfl,-⟩:=hv'
 obtain ⟨w0,hw0⟩:∃ w0,(w.alloc (.cells #[.func (.func 77) #[] #[.pointer (some ⟨b1,0,none⟩)],.func (.func 79) #[] #[.pointer (some ⟨b2,0,none⟩),.pointer (some ⟨b3,0,none⟩)]] 89)).alloc (.cells #[.string s,.slice A l cap] 26)=w0:=⟨_,rfl⟩
 obtain ⟨n,hn⟩:∃ n,w.heap.size=n:=⟨_,rfl⟩
 have b0:Below n w w0:=by rw [← hw0,← hn];exact ((Below.refl _ w).alloc (Nat.le_refl _) _).alloc (by simp) _
 have z0:w0.heap.size=n+1+1:=by rw [← hw0,← hn];simp
 have c0:w0.heap[n]?=some (.cells #[.func (.func 77) #[] #[.pointer (some ⟨b1,0,none⟩)],.func (.func 79) #[] #[.pointer (some ⟨b2,0,none⟩),.pointer (some ⟨b3,0,none⟩)]] 89 (0,0)):=by
  rw [← hw0,← hn]
  exact (Below.heap_alloc _ _ _ (by simp)).trans (World.alloc_heap_new w _)
 have c1:w0.heap[n+1]?=some (.cells #[.string s,.slice A l cap] 26 (0,0)):=by
  rw [← hw0,← hn]
  have h:=World.alloc_heap_new (w.alloc (.cells #[.func (.func 77) #[] #[.pointer (some ⟨b1,0,none⟩)],.func (.func 79) #[] #[.pointer (some ⟨b2,0,none⟩),.pointer (some ⟨b3,0,none⟩)]] 89)) (.cells #[.string s,.slice A l cap] 26)
  rwa [World.size_alloc] at h
 have hb0:Below w.heap.size w w0:=by rw [hn];exact b0
 have V0:=hv.below hb0
 have O0:=H.below hb0
 have hops:OpsP w0 A L:=by
  obtain ⟨A',cap',e,hP,-⟩:=O0.ops
  simp only [Value.slice.injEq] at e
  rw [e.1];exact hP
 have AT:=Lib.hid (vat_any x _ s A cap l L hl hL w0 V0 hops)
 have HN:=Lib.hid hn
 have BW:=Lib.hid (grow_below hb0 (Value.slice A l cap).ownBlock)
 have C0:=Lib.hid c0
 have C1:=Lib.hid c1
 have VV:=Lib.hid V0
 have OO:=Lib.hid O0
 have HB:Hid (B≤n):=by show B≤n;omega
 have j0:=Lib.cell_of_heap c0 0
 have j1:=Lib.cell_of_heap c0 1
 have j2:=Lib.cell_of_heap c1 0
 have j3:=Lib.cell_of_heap c1 1
 clear H hv b0 c0 c1 V0 O0 hops hb0 hB
 cases e:atV x.1 L with
 | none=>
  have NV:Hid (putL x.1 L q=L):=by show putL x.1 L q=L;unfold putL;rw [e]
  have PV:Hid (decide (q=0)=putB x L q):=by show _=putB x L q;unfold putB;rw [e]
  rw [atI_none e] at AT
  clear e
  go_enter Tryz.func56,Tryz.ntmps56
  go_wp2_with fail
  refine AT.out.mono ?_
  rintro e w1 ⟨rfl,hb⟩
  have B1:Hid (w.grownBy w1 (Value.slice A l cap).ownBlock):=World.grownBy.trans BW.out (grow_below hb _)
  have O1:=Lib.hid (OO.out.below hb)
  clear hb AT j0 j1 j2 j3
  go_wp2
  go_ret
  exact ⟨ret_bool PV.out,by rw [NV.out];exact O1.out,B1.out⟩
 | some k=>
  have hk:=atV_lt e
  have hkl:k<l:=by omega
  have NV:Hid (putL x.1 L q=setN L k q):=by show putL x.1 L q=_;unfold putL;rw [e]
  have PV:Hid (inV x q=putB x L q):=by show _=putB x L q;unfold putB;rw [e]
  rw [atI_some e] at AT
  have hkc:(k:Int)<(l:Int):=by omega
  have HK:=Lib.hid hk
  clear e hk
  go_enter Tryz.func56,Tryz.ntmps56
  go_wp2_with fail
  refine AT.out.mono ?_
  rintro e w1 ⟨rfl,hb⟩
  have B1:Hid (w.grownBy w1 (Value.slice A l cap).ownBlock):=World.grownBy.trans BW.out (grow_below hb _)
  have c0:=(hb.block n (by omega)).trans C0.out
  have c1:=(hb.block (n+1) (by omega)).trans C1.out
  have o1:=OO.out.below hb
  have v1:=VV.out.below hb
  obtain ⟨g,cap',hfm,hg,⟨cur,hcur⟩,hc,hf⟩:=o1.form (by have:=HK.out;omega)
  simp only [Value.slice.injEq] at hfm
  obtain ⟨rfl,-,rfl⟩:=hfm
  have p2:=(hc k HK.out).2.2
  have hfz:=hf (k*3+2)
  have ne0:g≠n:=by
   rintro rfl
   rw [hcur] at c0
   simp at c0
  have ne1:g≠n+1:=by
   rintro rfl
   rw [hcur] at c1
   simp at c1
  have k1:=Lib.cell_of_heap c1 1
  have d0:=(heap_setCell_other w1 ⟨g,k*3+2,none⟩ n (.int .i64 q) (Ne.symm ne0)).trans c0
  have k0:=Lib.cell_of_heap d0 1
  have VR:=varA_row v1 hcur b2 b3 (k*3+2) (.int .i64 q) rfl
  have AL:=Lib.hid (allows_any b2 b3 x q _ VR.1 VR.2)
  have O2:=Lib.hid (own_setN o1 hl k HK.out q)
  have B2:Hid (w.grownBy (w1.setCell ⟨g,k*3+2,none⟩ (.int .i64 q)) (some g)):=World.grownBy.trans B1.out (grownBy_setC w1 g (k*3+2) (.int .i64 q))
  obtain ⟨u,hu⟩:∃ u,L[k].2.2=u:=⟨_,rfl⟩
  have hsz:=hb.size
  have S2:Hid (B≤w1.heap.size):=by have:=HB.out;show B≤_;omega
  clear j0 j1 j2 j3 hb AT c0 c1 o1 v1 hc hf hcur d0 VR hsz
  have p2':w1.cell? ⟨g,k*3+2,none⟩=some (.int .i64 u):=by rw [← hu];exact p2
  clear p2 hu
  go_wp2_with fail
  refine AL.out.mono ?_
  rintro e w2 ⟨rfl,hb⟩
  have B3:Hid (w.grownBy w2 (some g)):=World.grownBy.trans B2.out (grow_below hb _)
  have O3:=Lib.hid (O2.out.below hb)
  clear hb AL
  go_wp2
  go_ret
  exact ⟨ret_bool PV.out,by rw [NV.out];exact O3.out,B3.out⟩
end Go.Proofs.YtmnleknehjkmgaaGreatDoor
namespace Go.Proofs.YtmnleknehjkmgaaGreatDoor
open Go.RowKit Go.Shelf
attribute [local go_sem] Oper.semAt_some
def RetFill (w:World) (m:Str) (o:Option (List Tr)) (e:Ending) (w':World):Prop:=match o with
 | some L2=>∃ v,e=.returned (.tuple #[.agg #[.string (upB (sB m)),v],.bool true])∧OwnT w' w.heap.size v L2∧Below w.heap.size w w'
 | none=>e=.returned (.tuple #[.agg #[.string ⟨#[]⟩,.slice none 0 0],.bool false])∧Below w.heap.size w w'
theorem putL_len (ks:List Int) (L:List Tr) (n:Int):(putL ks L n).length=L.length:=len_of_shape (putL_shape ks L n)
theorem vars_boxes {w1:World} {f g f' g':Value} {x x':Vr} (h:VarA w1 (.agg #[f,g]) x) (h':VarA w1 (.agg #[f',g']) x') (b:Nat) (hb:w1.heap.size=b) :
  ∃ w2,(w1.alloc (.cells #[f,g] 89)).alloc (.cells #[f',g'] 89)=w2∧
   w2.heap[b]?=some (.cells #[f,g] 89 (0,0))∧w2.heap[b+1]?=some (.cells #[f',g'] 89 (0,0))∧VarA w2 (.agg #[f,g]) x∧VarA w2 (.agg #[f',g']) x'∧Below w1.heap.size w1 w2∧w2.heap.size=b+2:=by
 subst hb
 have bl:Below w1.heap.size w1 ((w1.alloc (.cells #[f,g] 89)).alloc (.cells #[f',g'] 89)):=((Below.refl _ w1).alloc (Nat.le_refl _) _).alloc (by simp) _
 refine ⟨_,rfl,(Below.heap_alloc _ _ _ (by simp)).trans (World.alloc_heap_new w1 _),?_,h.below bl,h'.below bl,bl,by simp⟩
 have h:=World.alloc_heap_new (w1.alloc (.cells #[f,g] 89)) (.cells #[f',g'] 89)
 rwa [World.size_alloc] at h
theorem ins_box (w3:World) (u:ByteArray) (v:Value) (c:Nat) (hc:w3.heap.size=c):∃ w4,w3.alloc (.cells #[.string u,v] 26)=w4∧w4.heap[c]?=some (.cells #[.string u,v] 26 (0,0))∧Below w3.heap.size w3 w4∧w4.heap.size=c+1:=by
 subst hc
 exact ⟨_,rfl,World.alloc_heap_new w3 _,(Below.refl _ w3).alloc (Nat.le_refl _) _,by simp⟩
theorem fill_any (page op:Int) (m:Str) (hm:m.length≤1000) (A:Option Addr) (cap l:Nat) (L:List Tr) (hl:L.length=l) (hL:l≤1000) (ex:Str) (hx:ex.length≤1000) (al:Bool) (d q:Int) (w:World) (H:OpsP w A L) :
  Calls Tryz.prog 39 #[enV page op m (.slice A l cap) ex al,.int .i64 d,.int .i64 q] w (RetFill w m (fillV ex L d q)):=by
 have hva:=fun w=>variables_any page op m A l cap ex hx al w
 have hmk:=fun w h=>make_any (sB m) (by rw [sB_size];unfold maxLen;omega) A cap L (by omega) w h
 rw [hl] at hmk
 obtain ⟨x,hxx⟩:∃ x,(varsV ex).1=x:=⟨_,rfl⟩
 obtain ⟨y,hyy⟩:∃ y,(varsV ex).2=y:=⟨_,rfl⟩
 have FV:Hid (fillV ex L d q=if putB x L d=true∧putB y (putL x.1 L d) q=true then some (putL y.1 (putL x.1 L d) q) else none):=by show _=_;rw [← hxx,← hyy];rfl
 unfold RetVars at hva
 rw [hxx,hyy] at hva
 clear hxx hyy
 unfold enV at hva ⊢
 obtain ⟨w0,hw0⟩:∃ w0,(w.alloc (.cells #[.int .i64 page,.int .u8 op,.string (sB m),.slice A l cap,.string (sB ex),.bool al] 55)).alloc (.cells #[.string ⟨#[]⟩,.slice none 0 0] 26)=w0:=⟨_,rfl⟩
 obtain ⟨n,hn⟩:∃ n,w.heap.size=n:=⟨_,rfl⟩
 have b0:Below n w w0:=by rw [← hw0,← hn];exact ((Below.refl _ w).alloc (Nat.le_refl _) _).alloc (by simp) _
 have z0:w0.heap.size=n+1+1:=by rw [← hw0,← hn];simp
 have c0:w0.heap[n]?=some (.cells #[.int .i64 page,.int .u8 op,.string (sB m),.slice A l cap,.string (sB ex),.bool al] 55 (0,0)):=by
  rw [← hw0,← hn]
  exact (Below.heap_alloc _ _ _ (by simp)).trans (World.alloc_heap_new w _)
 have c1:w0.heap[n+1]?=some (.cells #[.string ⟨#[]⟩,.slice none 0 0] 26 (0,0)):=by
  rw [← hw0,← hn]
  have h:=World.alloc_heap_new (w.alloc (.cells #[.int .i64 page,.int .u8 op,.string (sB m),.slice A l cap,.string (sB ex),.bool al] 55)) (.cells #[.string ⟨#[]⟩,.slice none 0 0] 26)
  rwa [World.size_alloc] at h
 have VA:=Lib.hid (hva w0)
 have MK:=Lib.hid hmk
 have HN:=Lib.hid hn
 have B0:=Lib.hid b0
 have C0:=Lib.hid c0
 have C1:=Lib.hid c1
 have P0:=Lib.hid (H.below (by rw [hn];exact b0))
 have k0:=Lib.cell_of_heap c0 0
 have k1:=Lib.cell_of_heap c0 1
 have k2:=Lib.cell_of_heap c0 2
 have k3:=Lib.cell_of_heap c0 3
 have k4:=Lib.cell_of_heap c0 4
 have k5:=Lib.cell_of_heap c0 5
 clear hva hmk c0 c1 b0 H
 go_enter Tryz.func39,Tryz.ntmps39
 go_wp2_with fail
 refine VA.out.mono ?_
 rintro e w1 ⟨f,g,f',g',rfl,va,va',hb⟩
 obtain ⟨p1,p2,p3,hf,hg⟩:=va.form
 obtain ⟨p4,p5,p6,hf',hg'⟩:=va'.form
 subst hf hg hf' hg'
 obtain ⟨b,hbs⟩:∃ b,w1.heap.size=b:=⟨_,rfl⟩
 have hnb:n+2≤b:=by have:=hb.size;omega
 obtain ⟨w2,hw2,x1,x2,x3,x4,x5,x6⟩:=vars_boxes va va' b hbs
 have B1:Hid (Below n w w1):=B0.out.trans (hb.mono (by omega))
 have B2:Hid (Below n w w2):=B1.out.trans (x5.mono (by omega))
 have bb:Below (n+1+1) w0 w2:=(hb.mono (by omega)).trans (x5.mono (by omega))
 have c0:=(bb.block n (by omega)).trans C0.out
 have c1:=(bb.block (n+1) (by omega)).trans C1.out
 have P2:=Lib.hid (P0.out.below (by rw [z0];exact bb))
 have X1:=Lib.hid x1
 have X2:=Lib.hid x2
 have X3:=Lib.hid x3
 have X4:=Lib.hid x4
 have mk:=MK.out w2 P2.out
 have C0:=Lib.hid c0
 have C1:=Lib.hid c1
 clear k0 k1 k2 k3 k4 k5 VA va va' hb x1 x2 x3 x4 x5 bb P0 B0 MK hw0 z0
 go_upto_region 2 with fail
 have k2:=Lib.cell_of_heap c0 2
 have k3:=Lib.cell_of_heap c0 3
 clear c0 c1
 go_wp2_with fail
 refine mk.mono ?_
 rintro e w3 ⟨v,rfl,hO,hb3⟩
 obtain ⟨A3,cap3,hv3,-,-⟩:=hO.ops
 rw [hl] at hv3
 subst hv3
 obtain ⟨u,hu⟩:∃ u,upB (sB m)=u:=⟨_,rfl⟩
 obtain ⟨c,hc⟩:∃ c,w3.heap.size=c:=⟨_,rfl⟩
 obtain ⟨w4,hw4,y1,y2,y3⟩:=ins_box w3 u (.slice A3 l cap3) c hc
 rw [hu]
 have hb4:Below w2.heap.size w2 w4:=hb3.trans (y2.mono hb3.size)
 have hbc:b+2≤c:=by have:=hb3.size;omega
 have BB4:=Lib.hid hb4
 have B4:Hid (Below n w w4):=B2.out.trans (hb4.mono (by omega))
 have D1:=Lib.hid ((hb4.block b (by omega)).trans X1.out)
 have D2:=Lib.hid ((hb4.block (b+1) (by omega)).trans X2.out)
 have D3:=Lib.hid y1
 have DN:=Lib.hid ((hb4.block (n+1) (by omega)).trans C1.out)
 have V3:=X3.out.below hb4
 have V4:=Lib.hid (X4.out.below hb4)
 have O4:OwnT w4 (b+2) (.slice A3 l cap3) L:=by have h:=OwnT.below hO y2;rw [x6] at h;exact h
 have W2:Hid (VarA w2 _ y):=X4
 have PU:=Lib.hid (put_any x _ u A3 cap3 l (b+2) L hl hL d w4 V3 O4 (by omega))
 have LT:Hid (∀ gg,(Value.slice A3 l cap3).ownBlock=some gg→b+2≤gg∧gg<c):=fun gg e=>by
  have h:=(World.ownsRow.lt hO gg e)
  rw [x6] at h
  omega
 have x6':=Lib.hid x6
 have hU:=Lib.hid hu
 have f1:=Lib.cell_of_heap D1.out 0
 have f2:=Lib.cell_of_heap D1.out 1
 have f3:=Lib.cell_of_heap D3.out 0
 have f4:=Lib.cell_of_heap D3.out 1
 clear mk hO hb3 y1 y2 hb4 V3 X1 X2 X3 P2 B1 B2 x6 k2 k3 C0 C1 O4 hu
 go_upto_region 3 with fail
 go_wp2_with fail
 refine PU.out.mono ?_
 rintro e w5 ⟨rfl,hO5,hg5⟩
 have ne1:∀ k,k<b+2→some k≠(Value.slice A3 l cap3).ownBlock:=fun k hk e=>by have:=(LT.out k e.symm).1;omega
 have nec:some c≠(Value.slice A3 l cap3).ownBlock:=fun e=>by have:=(LT.out c e.symm).2;omega
 have E2:=(hg5.block (b+1) (by omega) (ne1 _ (by omega))).trans D2.out
 have E3:=(hg5.block c (by omega) nec).trans D3.out
 have EN:=(hg5.block (n+1) (by omega) (ne1 _ (by omega))).trans DN.out
 have bb5:Below (b+2) w4 w5:=(Below.refl _ w4).grown hg5 (by omega) fun k e=>(LT.out k e).1
 have B5:Hid (Below n w w5):=B4.out.trans (bb5.mono (by omega))
 have sz5:c+1≤w5.heap.size:=by have:=hg5.size;omega
 have V5:VarA w5 (.agg #[.func (.func 77) #[] #[.pointer (some ⟨p4,0,none⟩)],.func (.func 79) #[] #[.pointer (some ⟨p5,0,none⟩),.pointer (some ⟨p6,0,none⟩)]]) y:=W2.out.below (BB4.out.trans (by rw [x6'.out];exact bb5))
 cases hp1:putB x L d with
 | false=>
  have FN:Hid (fillV ex L d q=none):=by show _=_;rw [FV.out,if_neg (by rw [hp1];exact fun h=>absurd h.1 (by decide))]
  have e0:=Lib.cell_of_heap EN 0
  have e1:=Lib.cell_of_heap EN 1
  have ez:=Lib.frozen_of_heap EN
  have EN9:=Lib.hid EN
  clear hp1 E2 E3 V5 hO5 hg5 bb5 PU f1 f2 f3 f4 EN ne1 nec
  go_wp2
  have B6:Hid (Below n w ((w5.setCell ⟨n+1,0,none⟩ (.string ⟨#[]⟩)).setCell ⟨n+1,1,none⟩ (.slice none 0 0))):=(B5.out.setCell (p:=⟨n+1,0,none⟩) (show n≤n+1 by omega) _).setCell (p:=⟨n+1,1,none⟩) (show n≤n+1 by omega) _
  have y9:((w5.setCell ⟨n+1,0,none⟩ (.string ⟨#[]⟩)).setCell ⟨n+1,1,none⟩ (.slice none 0 0)).heap[n+1]?=some (.cells #[.string ⟨#[]⟩,.slice none 0 0] 26 (0,0)):=heap_setCell_same _ (n+1) 1 _ _ _ (heap_setCell_same w5 (n+1) 0 _ _ _ EN9.out)
  obtain ⟨w7,hw7⟩:∃ w7,(w5.setCell ⟨n+1,0,none⟩ (.string ⟨#[]⟩)).setCell ⟨n+1,1,none⟩ (.slice none 0 0)=w7:=⟨_,rfl⟩
  rw [hw7] at B6 y9 ⊢
  have g0:=Lib.cell_of_heap y9 0
  have g1:=Lib.cell_of_heap y9 1
  refine bodyPost_ret (v:=.tuple #[.agg #[.string ⟨#[]⟩,.slice none 0 0],.bool false]) ?_ rfl ?_
  ·simp [results,Tryz.results39,go_sem,g0,g1]
  ·rw [FN.out]
   exact ⟨rfl,by rw [HN.out];exact B6.out⟩
 | true=>
  have PU2:=Lib.hid (put_any y _ u A3 cap3 l (b+2) (putL x.1 L d) (by rw [← hl];exact putL_len _ _ _) hL q w5 V5 hO5 (by omega))
  have PT:=Lib.hid hp1
  have sz5':=Lib.hid sz5
  have E3':=Lib.hid E3
  have ENH:=Lib.hid EN
  have f1:=Lib.cell_of_heap E2 0
  have f2:=Lib.cell_of_heap E2 1
  have f3:=Lib.cell_of_heap E3 0
  have f4:=Lib.cell_of_heap E3 1
  clear hp1 V5 hO5 hg5 bb5 PU E2 E3 EN
  go_wp2_with fail
  refine PU2.out.mono ?_
  rintro e w6 ⟨rfl,hO6,hg6⟩
  have E3:=(hg6.block c (by omega) nec).trans E3'.out
  have EN:=(hg6.block (n+1) (by omega) (ne1 _ (by omega))).trans ENH.out
  have bb6:Below (b+2) w5 w6:=(Below.refl _ w5).grown hg6 (by omega) fun k e=>(LT.out k e).1
  have B6:Hid (Below n w w6):=B5.out.trans (bb6.mono (by omega))
  have e0:=Lib.cell_of_heap EN 0
  have e1:=Lib.cell_of_heap EN 1
  have ez:=Lib.frozen_of_heap EN
  have EN9:=Lib.hid EN
  have O6:=Lib.hid hO6
  have i0:=Lib.cell_of_heap E3 0
  have i1:=Lib.cell_of_heap E3 1
  have HB2:Hid (n+2≤b):=hnb
  cases hp2:putB y (putL x.1 L d) q with
  | false=>
   have FN:Hid (fillV ex L d q=none):=by show _=_;rw [FV.out,if_neg (by rw [hp2];exact fun h=>absurd h.2 (by decide))]
   clear hp2 f1 f2 f3 f4 E3 EN bb6 PU2 hO6 hg6 ne1 nec
   go_wp2
   have B7:Hid (Below n w ((w6.setCell ⟨n+1,0,none⟩ (.string ⟨#[]⟩)).setCell ⟨n+1,1,none⟩ (.slice none 0 0))):=(B6.out.setCell (p:=⟨n+1,0,none⟩) (show n≤n+1 by omega) _).setCell (p:=⟨n+1,1,none⟩) (show n≤n+1 by omega) _
   have y9:((w6.setCell ⟨n+1,0,none⟩ (.string ⟨#[]⟩)).setCell ⟨n+1,1,none⟩ (.slice none 0 0)).heap[n+1]?=some (.cells #[.string ⟨#[]⟩,.slice none 0 0] 26 (0,0)):=heap_setCell_same _ (n+1) 1 _ _ _ (heap_setCell_same w6 (n+1) 0 _ _ _ EN9.out)
   obtain ⟨w7,hw7⟩:∃ w7,(w6.setCell ⟨n+1,0,none⟩ (.string ⟨#[]⟩)).setCell ⟨n+1,1,none⟩ (.slice none 0 0)=w7:=⟨_,rfl⟩
   rw [hw7] at B7 y9 ⊢
   have g0:=Lib.cell_of_heap y9 0
   have g1:=Lib.cell_of_heap y9 1
   refine bodyPost_ret (v:=.tuple #[.agg #[.string ⟨#[]⟩,.slice none 0 0],.bool false]) ?_ rfl ?_
   ·simp [results,Tryz.results39,go_sem,g0,g1]
   ·rw [FN.out]
    exact ⟨rfl,by rw [HN.out];exact B7.out⟩
  | true=>
   have FS:Hid (fillV ex L d q=some (putL y.1 (putL x.1 L d) q)):=by show _=_;rw [FV.out,if_pos ⟨PT.out,hp2⟩]
   clear hp2 f1 f2 f3 f4 E3 EN bb6 PU2 hO6 hg6 ne1 nec
   go_wp2
   have B7:Hid (Below n w ((w6.setCell ⟨n+1,0,none⟩ (.string u)).setCell ⟨n+1,1,none⟩ (.slice A3 l cap3))):=(B6.out.setCell (p:=⟨n+1,0,none⟩) (show n≤n+1 by omega) _).setCell (p:=⟨n+1,1,none⟩) (show n≤n+1 by omega) _
   have y9:((w6.setCell ⟨n+1,0,none⟩ (.string u)).setCell ⟨n+1,1,none⟩ (.slice A3 l cap3)).heap[n+1]?=some (.cells #[.string u,.slice A3 l cap3] 26 (0,0)):=heap_setCell_same _ (n+1) 1 _ _ _ (heap_setCell_same w6 (n+1) 0 _ _ _ EN9.out)
   have O7:Hid (OwnT ((w6.setCell ⟨n+1,0,none⟩ (.string u)).setCell ⟨n+1,1,none⟩ (.slice A3 l cap3)) n (.slice A3 l cap3) (putL y.1 (putL x.1 L d) q)):=
    row_mono (row_set (row_set O6.out (p:=⟨n+1,0,none⟩) (show n+1<b+2 by omega) _) (p:=⟨n+1,1,none⟩) (show n+1<b+2 by omega) _) (by omega)
   obtain ⟨w7,hw7⟩:∃ w7,(w6.setCell ⟨n+1,0,none⟩ (.string u)).setCell ⟨n+1,1,none⟩ (.slice A3 l cap3)=w7:=⟨_,rfl⟩
   rw [hw7] at B7 y9 O7 ⊢
   have g0:=Lib.cell_of_heap y9 0
   have g1:=Lib.cell_of_heap y9 1
   refine bodyPost_ret (v:=.tuple #[.agg #[.string u,.slice A3 l cap3],.bool true]) ?_ rfl ?_
   ·simp [results,Tryz.results39,go_sem,g0,g1]
   ·rw [FS.out]
    exact ⟨_,by rw [hU.out],by rw [HN.out];exact O7.out,by rw [HN.out];exact B7.out⟩
end Go.Proofs.YtmnleknehjkmgaaGreatDoor
namespace Go.Proofs.YtmnleknehjkmgaaGreatDoor
open Go.RowKit Go.Shelf
attribute [local go_sem] Oper.semAt_some
attribute [local irreducible] Go.Mixed.wpMix
theorem retIt_put {w w1 w2:World} {n:Nat} {x:Ite} {A B:Option Addr} {c c2:Nat} (hn:w.heap.size=n) (hb:Below n w w1) (hz:n<w1.heap.size) (O:TOwnB w1 (n+1) (.slice A x.raw.length c) x.raw) (T:OwnT w1 (n+1) (.slice B x.C.length c2) x.C)
  (hput:Below n w1 w2∧(∀ B u L,n<B→OwnT w1 B u L→OwnT w2 B u L)∧(∀ B u L,n<B→TOwnB w1 B u L→TOwnB w2 B u L)) :
  RetIt w x (.returned (.agg #[.int .i64 x.kind,.slice A x.raw.length c,.string (sB x.m),.slice B x.C.length c2,.bool x.al])) w2:=
 ⟨A,c,B,c2,rfl,by rw [hn];exact (hput.2.2 _ _ _ (by omega) O).lift (by omega),by rw [hn];exact row_mono (hput.2.1 _ _ _ (by omega) T) (by omega),by rw [hn];exact hb.trans hput.1⟩
theorem it_ownB {w w':World} {b B:Nat} {kind:Int} {va vb u:Value} {s:ByteArray} {al:Bool} {xs:Str} (h:ItAt w b kind va s vb al) (O:TOwnB w B u xs) (k:∀ k,k≠b→w'.heap[k]?=w.heap[k]?):TOwnB w' B u xs:=by
 refine ⟨O.1,?_⟩
 rcases O.2 with h2 | ⟨g,cap,cur,h3,h4,h5,h6⟩
 ·exact .inl h2
 ·refine .inr ⟨g,cap,cur,h3,h4,(k g (fun e=>?_)).trans h5,h6⟩
  subst e
  rw [show w.heap[g]?=_ from h] at h5
  simp at h5
theorem it_ownT {w w':World} {b B:Nat} {kind:Int} {va vb u:Value} {s:ByteArray} {al:Bool} {L:List Tr} (h:ItAt w b kind va s vb al) (O:OwnT w B u L) (k:∀ k,k≠b→w'.heap[k]?=w.heap[k]?):OwnT w' B u L:=by
 refine ⟨O.1,?_⟩
 rcases O.2 with h2 | ⟨g,cap,cur,h3,h4,h5,h6⟩
 ·exact .inl h2
 ·refine .inr ⟨g,cap,cur,h3,h4,(k g (fun e=>?_)).trans h5,h6⟩
  subst e
  rw [show w.heap[g]?=_ from h] at h5
  simp at h5
end Go.Proofs.YtmnleknehjkmgaaGreatDoor
namespace Go.Mixed
open Go
inductive Ord where
 | done:Ord
 | pure:Nat→Ord→Ord
 | one:Nat→Ord→Ord
 | two:Nat→Ord→Nat→Ord→Ord
section
variable {P:Program} {ops:Array Oper} {md:Region.Mode}
def Ord.len:Ord→Nat
 | .done=>0
 | .pure _ t=>t.len+1
 | .one _ t=>t.len+1
 | .two _ t _ _=>t.len+1
def ordT (md:Region.Mode) (ops:Array Oper) (n g:Nat):Ord→Array Bool→Bool
 | .done,listed=>Region.seqB md ops g n listed
 | .pure k r,listed=>(Region.ready md ops listed).contains k&&decide (k<n)&&Region.free md ops listed k&&ordT md ops n g r (listed.setIfInBounds k true)
 | .one k r,listed=>decide (Region.ready md ops listed=[k])&&decide (k<n)&&ordT md ops n g r (listed.setIfInBounds k true)
 | .two k r k2 r2,listed=>decide (Region.ready md ops listed=[k,k2])&&decide (k<n)&&decide (k2<n)&&decide (r2.len=r.len)&&ordT md ops n g r (listed.setIfInBounds k true)&&ordT md ops n g r2 (listed.setIfInBounds k2 true)
def mixedT (md:Region.Mode) (ops:Array Oper) (n:Nat) (ord:Ord):Bool:=
 Region.noSelect ops&&decide (n<ops.size)&&decide (ord.len+(ops.size - n)=ops.size)&&Region.sinkB md ops n&&Region.chainB md ops n&&ordT md ops n (ops.size - n) ord (Array.replicate ops.size false)
def wpMixT (P:Program) (ops:Array Oper) (C:World→Prop) (T:Act→World→Prop):Ord→Act→World→Prop
 | .done,a,w=>T a w
 | .pure k r,a,w=>match ops[k]? with
  | none=>False
  | some o=>∃ v,Pure P ops C o v a∧wpMixT P ops C T r (a.put o.dst v) w
 | .one k r,a,w=>wpOp P ops QF k (fun a' w'=>C w'∧wpMixT P ops C T r a' w') a w
 | .two k r k2 r2,a,w=>wpOp P ops QF k (fun a' w'=>C w'∧wpMixT P ops C T r a' w') a w∧wpOp P ops QF k2 (fun a' w'=>C w'∧wpMixT P ops C T r2 a' w') a w
theorem wpAnyC_ordT {C:World→Prop} {n g:Nat} {T:Act→World→Prop} (hsel:Region.noSelect ops=true) (hs:Region.sinkB md ops n=true) (hc:Region.chainB md ops n=true) (hn:n<ops.size) :
  ∀ (ord:Ord) (listed:Array Bool) (a:Act) (w:World),HeadInv md ops n listed→ordT md ops n g ord listed=true→C w→wpMixT P ops C T ord a w→
  wpAnyC P md ops n C (fun listed' a' w'=>Region.seqB md ops g n listed'=true∧T a' w') ord.len listed a w
 | .done,listed,a,w,_,hB,hC,h=>⟨hC,hB,h⟩
 | .pure k r,listed,a,w,inv,hB,hC,h=>by
  simp only [ordT,Bool.and_eq_true,decide_eq_true_eq] at hB
  obtain ⟨⟨⟨hr,hk⟩,hf⟩,hB'⟩:=hB
  have hr':k∈Region.ready md ops listed:=by simpa using hr
  simp only [wpMixT] at h
  cases ho:ops[k]? with
  | none=>rw [ho] at h;exact h.elim
  | some o=>
   rw [ho] at h
   obtain ⟨v,hv,hK⟩:=h
   exact wpAnyC_first ho (Region.noSelect_spec hsel) hs hc hn hk (fun listed' a' w' hL=>seqB_ready hL.1) r.len listed a w inv (Region.free_spec ho hf) hr' hv hC
    (wpAnyC_ordT hsel hs hc hn r _ _ w (inv.set hr' hk) hB' hC hK)
 | .one k r,listed,a,w,inv,hB,hC,h=>by
  simp only [ordT,Bool.and_eq_true,decide_eq_true_eq] at hB
  obtain ⟨⟨hr,hk⟩,hB'⟩:=hB
  simp only [wpMixT] at h
  have hne:Region.ready md ops listed≠[]:=by rw [hr];exact List.cons_ne_nil _ _
  refine ⟨hC,hne,fun i hi=>?_⟩
  rw [hr] at hi
  have hik:i=k:=by simpa using hi
  subst hik
  refine ⟨hk,wpOp_QF (fun a' w' h'=>?_) h⟩
  exact wpAnyC_ordT hsel hs hc hn r _ a' w' (inv.set (by rw [hr];exact List.mem_singleton.2 rfl) hk) hB' h'.1 h'.2
 | .two k r k2 r2,listed,a,w,inv,hB,hC,h=>by
  simp only [ordT,Bool.and_eq_true,decide_eq_true_eq] at hB
  obtain ⟨⟨⟨⟨⟨hr,hk⟩,hk2⟩,hlen⟩,hB1⟩,hB2⟩:=hB
  simp only [wpMixT] at h
  have hne:Region.ready md ops listed≠[]:=by rw [hr];exact List.cons_ne_nil _ _
  refine ⟨hC,hne,fun i hi=>?_⟩
  have hi0:=hi
  rw [hr] at hi
  have hik:i=k∨i=k2:=by simpa using hi
  rcases hik with rfl | rfl
  ·refine ⟨hk,wpOp_QF (fun a' w' h'=>?_) h.1⟩
   exact wpAnyC_ordT hsel hs hc hn r _ a' w' (inv.set hi0 hk) hB1 h'.1 h'.2
  ·refine ⟨hk2,wpOp_QF (fun a' w' h'=>?_) h.2⟩
   have:=wpAnyC_ordT hsel hs hc hn r2 _ a' w' (inv.set hi0 hk2) hB2 h'.1 h'.2
   rwa [hlen] at this
theorem wp_region_mixedT {id:Nat} {Q:Exit→Act→World→Prop} {a:Act} {w:World} {l:List Oper} (C:World→Prop) (n:Nat) (ord:Ord) (hm:P.follows .mixedOrders=true) (hB:mixedT .any l.toArray n ord=true)
  (hC:C w.drew) (h:wpMixT P l.toArray C (fun a' w'=>wpList P l.toArray Q (l.drop n) a' w') ord a w.drew):(Code.region id l.toArray true).wp P Q a w:=by
 simp only [mixedT,Bool.and_eq_true,decide_eq_true_eq] at hB
 obtain ⟨⟨⟨⟨⟨hsel,hn⟩,hlen⟩,hs⟩,hc⟩,hord⟩:=hB
 have hdl:(l.drop n).length=l.toArray.size - n:=by simp
 have inv0:HeadInv .any l.toArray n (Array.replicate l.toArray.size false):=
  ⟨by simp,fun j oj _ hl=>(by rw [getD_replicate_false] at hl;cases hl),fun t _ ht=>getD_in (by simpa using ht) (getD_replicate_false _ _)⟩
 have H:=wpAnyC_ordT hsel hs hc hn ord _ a w.drew inv0 hord hC h
 refine wp_region_any hm ?_
 have:=wpAny_of_headC (Q':=Q) (g:=l.toArray.size - n) (fun listed a' w' hL=>by
  have:=wpAny_of_seq (md:=.any) (Q':=Q) (l.drop n) n listed a' w' (fun j=>by simp [List.getElem?_drop]) (by rw [hdl];exact hL.1) hL.2
  rwa [hdl] at this) _ _ _ _ H
 rw [hlen] at this
 exact this
theorem wpMixT_pure {C:World→Prop} {T:Act→World→Prop} {k:Nat} {r:Ord} {a:Act} {w:World} {o:Oper} (ho:ops[k]?=some o) (hw:Region.wanted o (yielded ops a.tmps)=true) (v:Value)
  (hv:∀ w,C w→(execOp a.eval o).run P w=.ok (.value v) w) (h:wpMixT P ops C T r (a.put o.dst v) w):wpMixT P ops C T (.pure k r) a w:=by
 simp only [wpMixT,ho]
 exact ⟨v,.inl ⟨hw,hv⟩,h⟩
theorem wpOp_loudT {K:Act→World→Prop} {k:Nat} {a:Act} {w:World} {o:Oper} (ho:ops[k]?=some o) (hw:Region.wanted o (yielded ops a.tmps)=true) (h:wpList P ops (QK K) [{o with guard:=none}] a w):wpOp P ops QF k K a w:=by
 unfold wpOp
 simp only [ho,hw,if_true]
 have hw2:Region.wanted {o with guard:=none} (yielded ops a.tmps)=true:=rfl
 simp only [wpList,hw2,if_true] at h
 rcases h with h | h
 ·exact .inl (upon_QK h)
 ·exact absurd h.2 (not_letsOut_QK _)
theorem wpMixT_loud {C:World→Prop} {T:Act→World→Prop} {k:Nat} {r:Ord} {a:Act} {w:World} {o:Oper} (ho:ops[k]?=some o) (hw:Region.wanted o (yielded ops a.tmps)=true) (h:wpList P ops (QK fun a' w'=>C w'∧wpMixT P ops C T r a' w') [{o with guard:=none}] a w) :
  wpMixT P ops C T (.one k r) a w:=by
 simp only [wpMixT]
 exact wpOp_loudT ho hw h
theorem wpMixT_both {C:World→Prop} {T:Act→World→Prop} {k k2:Nat} {r r2:Ord} {a:Act} {w:World} {o o2:Oper} (ho:ops[k]?=some o) (hw:Region.wanted o (yielded ops a.tmps)=true) (ho2:ops[k2]?=some o2) (hw2:Region.wanted o2 (yielded ops a.tmps)=true)
  (h:wpList P ops (QK fun a' w'=>C w'∧wpMixT P ops C T r a' w') [{o with guard:=none}] a w) (h2:wpList P ops (QK fun a' w'=>C w'∧wpMixT P ops C T r2 a' w') [{o2 with guard:=none}] a w) :
  wpMixT P ops C T (.two k r k2 r2) a w:=by
 simp only [wpMixT]
 exact ⟨wpOp_loudT ho hw h,wpOp_loudT ho2 hw2 h2⟩
end
end Go.Mixed
namespace Go.Proofs.YtmnleknehjkmgaaGreatDoor
open Go.RowKit Go.Shelf
attribute [local go_sem] Oper.semAt_some
attribute [local irreducible] Go.Mixed.wpMixT
section
variable {w0 w w':World} {D:Nat} {S:Value} {k:Nat} {p nd d n:Int}
theorem OwnT.dk {B:Nat} {v:Value} {L:List Tr} (h:OwnT w B v L) (hB:D<B) (K:DK D w w'):OwnT w' B v L:=by
 refine ⟨h.1,?_⟩
 rcases h.2 with e | ⟨g,cap,cur,e1,e2,e3,e4⟩
 ·exact .inl e
 ·exact .inr ⟨g,cap,cur,e1,e2,(K.same g (Array.getElem?_eq_some_iff.1 e3).1 (by omega)).trans e3,e4⟩
theorem DK.blk (K:DK D w w') {g:Nat} {o:Obj} (h:w.heap[g]?=some o) (hg:g≠D):w'.heap[g]?=some o:=(K.same g (Array.getElem?_eq_some_iff.1 h).1 hg).trans h
theorem Dec.iterAt (h:Dec w0 D S w k p nd d n) {it:Nat} (hit:D<it) (s:ByteArray) (j:Nat):Dec w0 D S (w.iterAt it s j) k p nd d n:=
 ⟨(Lib.iterAt_other _ _ _ _ _ (by omega)).trans h.blk,Lib.below_iterAt h.bel (by omega) _ _⟩
theorem DK.iterAt (K:DK D w w') {it:Nat} (hit:w.heap.size≤it) (s:ByteArray) (j:Nat):DK D w (w'.iterAt it s j):=
 ⟨by have:=K.size;have h:=(Lib.below_iterAt (Below.refl it w') (Nat.le_refl _) s j).size;omega,fun k hk hb=>(Lib.iterAt_other _ _ _ _ _ (by omega)).trans (K.same k hk hb)⟩
end
theorem OwnT.opsP {w:World} {B n c:Nat} {A:Option Addr} {L:List Tr} (h:OwnT w B (.slice A n c) L):OpsP w A L:=by
 obtain ⟨A',c',e,hp,-⟩:=h.ops
 simp only [Value.slice.injEq] at e
 obtain ⟨rfl,-,-⟩:=e
 exact hp
theorem beh2 {g:Int} {i:Nat} {ex:Str} (h:ExP g i ex):(behS g ex).length≤2∧∀ k (hk:k<(behS g ex).length),(behS g ex)[k]=100∨(behS g ex)[k]=101∨(behS g ex)[k]=110∨(behS g ex)[k]=119:=by
 unfold behS
 by_cases h5:5≤g
 ·rw [if_pos h5]
  exact ⟨Nat.zero_le _,fun k hk=>absurd hk (Nat.not_lt_zero _)⟩
 ·rw [if_neg h5]
  exact ⟨ex_len h,fun k hk=>ex_let h hk⟩
structure DL (w0 wb wr:World) (D:Nat) (b:Str) (S:Value) (l it:Nat) (s2:Str) (k:Nat) (p sz:Int) (s0:Int×Int) (j:Nat):Prop where
 le:j≤s2.length
 iter:wr.heap[it]?=some (.stringIter (sB s2) j)
 dec:Dec w0 D S wr (k+sumN s2 j) p sz (mS s0 s2 b k j).1 (mS s0 s2 b k j).2
 kl:k+sumN s2 j≤l
 dk:DK D wb wr
theorem DL.next {w0 wb wr:World} {D:Nat} {b:Str} {S:Value} {l it:Nat} {s2:Str} {k:Nat} {p sz:Int} {s0:Int×Int} {j:Nat} (L:DL w0 wb wr D b S l it s2 k p sz s0 j) (hD:D<it) (hit:wb.heap.size≤it) :
  Dec w0 D S (wr.iterAt it (sB s2) (j+1)) (k+sumN s2 j) p sz (mS s0 s2 b k j).1 (mS s0 s2 b k j).2∧DK D wb (wr.iterAt it (sB s2) (j+1))∧(wr.iterAt it (sB s2) (j+1)).heap[it]?=some (.stringIter (sB s2) (j+1)):=
 ⟨L.dec.iterAt hD _ _,L.dk.iterAt hit _ _,Lib.iterAt_heap _ _ _ _ _ L.iter⟩
theorem DL.put {w0 wb wr w2:World} {D:Nat} {b:Str} {S:Value} {l it:Nat} {s2:Str} {k:Nat} {p sz:Int} {s0:Int×Int} {j:Nat} (L:DL w0 wb wr D b S l it s2 k p sz s0 j) (hD:D<it) (hit:wb.heap.size≤it) (hj:j<s2.length)
  (hl:k+sumN s2 j+letN s2[j]≤l) (X:Dec w0 D S w2 (k+sumN s2 j+letN s2[j]) p sz (stepL s2[j] (b.drop (k+sumN s2 j)) (mS s0 s2 b k j)).1 (stepL s2[j] (b.drop (k+sumN s2 j)) (mS s0 s2 b k j)).2) (K:DK D (wr.iterAt it (sB s2) (j+1)) w2) :
  DL w0 wb w2 D b S l it s2 k p sz s0 (j+1):=by
 obtain ⟨n1,n2,n3⟩:=L.next hD hit
 refine ⟨hj,K.blk n3 (by omega),?_,?_,n2.trans K⟩
 ·rw [mS_succ s0 b k hj,sumN_succ s2 j hj,← Nat.add_assoc]
  exact X
 ·rw [sumN_succ s2 j hj]
  omega
theorem dl_start {w0 w1:World} {D:Nat} {b:Str} {S:Value} {l:Nat} {s2:Str} {k:Nat} {p sz:Int} {s0:Int×Int} (X:Dec w0 D S w1 k p sz s0.1 s0.2) (hk:k≤l):DL w0 w1 (w1.iter (sB s2) 0) D b S l w1.heap.size s2 k p sz s0 0:=by
 have hal:Below w1.heap.size w1 (w1.iter (sB s2) 0):=(Below.refl _ w1).alloc (Nat.le_refl _) _
 exact ⟨Nat.zero_le _,World.iter_heap _ _ _,X.all hal,hk,DK.of_below hal⟩
theorem ins_put {w0 wr w:World} {D:Nat} {S:Value} {k:Nat} {p nd d n:Int} {c B:Nat} {v0 v1 u:Value} {C:List Tr} (X:Dec w0 D S w k p nd d n) (K:DK D wr w) (hD:D<wr.heap.size) (h:w.heap[c]?=some (.cells #[v0,v1] 26 (0,0))) (hc:wr.heap.size≤c) (O:OwnT w B u C) (x:Value) :
  ∃ w',(w.setCell ⟨c,0,none⟩ x).setCell ⟨c,1,none⟩ u=w'∧w'.heap[c]?=some (.cells #[x,u] 26 (0,0))∧OwnT w' B u C∧Dec w0 D S w' k p nd d n∧DK D wr w':=by
 have s:∀ k,k≠c→((w.setCell ⟨c,0,none⟩ x).setCell ⟨c,1,none⟩ u).heap[k]?=w.heap[k]?:=fun k hk=>(heap_setCell_other _ ⟨c,1,none⟩ k _ hk).trans (heap_setCell_other _ ⟨c,0,none⟩ k _ hk)
 have b:Below c w ((w.setCell ⟨c,0,none⟩ x).setCell ⟨c,1,none⟩ u):=((Below.refl c w).setCell (p:=⟨c,0,none⟩) (Nat.le_refl _) _).setCell (p:=⟨c,1,none⟩) (Nat.le_refl _) _
 refine ⟨_,rfl,heap_setCell_same _ c 1 _ _ u (heap_setCell_same w c 0 _ _ x h),⟨O.1,?_⟩,⟨(s D (by omega)).trans X.blk,X.bel.trans (b.mono (by omega))⟩,⟨Nat.le_trans K.size b.size,fun k hk hb=>(s k (by omega)).trans (K.same k hk hb)⟩⟩
 rcases O.2 with e | ⟨g,cap,cur,e1,e2,e3,e4⟩
 ·exact .inl e
 ·refine .inr ⟨g,cap,cur,e1,e2,(s g (fun e=>?_)).trans e3,e4⟩
  subst e
  rw [h] at e3
  simp at e3
def RetDI (w0:World) (D:Nat) (S:Value) (b:Str) (l:Nat) (w:World) (k:Nat) (p sz:Int) (s2:Str) (m:Str) (C:List Tr) (al:Bool) (e:Ending) (w':World):Prop:=
 (k+sumN s2 s2.length≤l∧(∃ B c2,e=.returned (.agg #[.int .i64 1,.slice none 0 0,.string (sB m),.slice B C.length c2,.bool al])∧OwnT w' w.heap.size (.slice B C.length c2) C)∧(∃ d n,Dec w0 D S w' (k+sumN s2 s2.length) p sz d n)∧DK D w w')∨
 (l<k+sumN s2 s2.length∧DMiss w0 D S w e w' l p sz)
theorem dinstr_any {w0:World} {D:Nat} {b:Str} {A:Option Addr} {l cap:Nat} (H:DH w0 D b A l cap) {w:World} {k:Nat} (hk:k≤l) {p nd d n:Int} (X:Dec w0 D (.slice A l cap) w k p nd d n)
  {i:Nat} {ex:Str} (hx:ExP p i ex) (op:Int) (m:Str) (hm:m.length≤1000) (hup:upB (sB m)=sB m) (Ae:Option Addr) (ne ce:Nat) (L:List Tr) (hne:L.length=ne) (hne2:ne≤1000) (al:Bool) (B:Nat) (hB:D<B) (O:OwnT w B (.slice Ae ne ce) L)
  (C:List Tr) (hC:k+sumN (behS p ex) (behS p ex).length≤l→fillV ex L (mS (d,n) (behS p ex) b k (behS p ex).length).1 (mS (d,n) (behS p ex) b k (behS p ex).length).2=some C) :
  Calls Tryz.prog 91 #[.pointer (some ⟨D,0,none⟩),enV p op m (.slice Ae ne ce) ex al] w (RetDI w0 D (.slice A l cap) b l w k p (sizeT p ex:Nat) (behS p ex) m C al):=by
 have hexl:=ex_len hx
 have SZ:=fun w=>size_any p op m Ae ne ce ex (by omega) al w
 have FI:=Lib.hid (fun d q w h=>fill_any p op m hm Ae ce ne L hne hne2 ex (by omega) al d q w h)
 obtain ⟨sz,hsz⟩:∃ z,sizeT p ex=z:=⟨_,rfl⟩
 rw [hsz] at SZ ⊢
 have HEX:=Lib.hid hx
 obtain ⟨hp0,hp6⟩:=hx.pg
 obtain ⟨s2,hs2,hbl,hlet,hC⟩:∃ s2,behS p ex=s2∧s2.length≤2∧(∀ k (hk:k<s2.length),s2[k]=100∨s2[k]=101∨s2[k]=110∨s2[k]=119)∧(k+sumN s2 s2.length≤l→fillV ex L (mS (d,n) s2 b k s2.length).1 (mS (d,n) s2 b k s2.length).2=some C):=⟨_,rfl,(beh2 hx).1,(beh2 hx).2,hC⟩
 rw [hs2]
 have HLET:=Lib.hid hlet
 have HS2:=Lib.hid hs2
 have HHI:Hid (5≤p→ex=[100]):=hx.hi
 have TK:=Lib.hid (fun w k hk p nd d n X c hc=>take_any H (w:=w) (k:=k) hk (p:=p) (nd:=nd) (d:=d) (n:=n) X (c:=c) hc)
 have DI:=Lib.hid (fun w X=>isDisp_any H hk (w:=w) (p:=p) (nd:=(sz:Int)) (d:=d) (n:=n) X)
 -- the two boxes
 obtain ⟨E,hE⟩:∃ z,w.heap.size=z:=⟨_,rfl⟩
 obtain ⟨wE,hwE⟩:∃ z,w.alloc (.cells #[.int .i64 p,.int .u8 op,.string (sB m),.slice Ae ne ce,.string (sB ex),.bool al] 55)=z:=⟨_,rfl⟩
 have yE:Below w.heap.size w wE:=by rw [← hwE];exact up_alloc _ _
 have cE:wE.heap[E]?=some (.cells #[.int .i64 p,.int .u8 op,.string (sB m),.slice Ae ne ce,.string (sB ex),.bool al] 55 (0,0)):=by rw [← hwE,← hE];exact World.alloc_heap_new w _
 have zE:wE.heap.size=E+1:=by rw [← hwE,← hE];simp
 obtain ⟨wI,hwI,I0,yI,zI⟩:=it_start wE (E+1) zE
 have XI:=(X.all yE).all yI
 have OI:=Lib.hid ((O.below yE).below yI)
 have KI:=Lib.hid ((DK.of_below (D:=D) yE).trans (DK.of_below yI))
 have cEI:wI.heap[E]?=some (.cells #[.int .i64 p,.int .u8 op,.string (sB m),.slice Ae ne ce,.string (sB ex),.bool al] 55 (0,0)):=(yI.block E (by omega)).trans cE
 have hDE:D<E:=by rw [← hE];exact X.lt
 have CE:=Lib.hid cEI
 have I0:=Lib.hid I0
 have ec0:=Lib.cell_of_heap cEI 0
 have ec1:=Lib.cell_of_heap cEI 1
 have ec2:=Lib.cell_of_heap cEI 2
 have ec3:=Lib.cell_of_heap cEI 3
 have ec4:=Lib.cell_of_heap cEI 4
 have ec5:=Lib.cell_of_heap cEI 5
 have SZ:=SZ wI
 unfold enV at SZ FI ⊢
 have XI:=Lib.hid XI
 have HE:=Lib.hid hE
 have HNE:=Lib.hid hne
 have HC:=Lib.hid hC
 have HK:=Lib.hid hk
 have UP:Hid (∀ wz,DK D wI wz→wz.heap[E]?=some (.cells #[.int .i64 p,.int .u8 op,.string (sB m),.slice Ae ne ce,.string (sB ex),.bool al] 55 (0,0))∧ItAt wz (E+1) 0 (.slice none 0 0) ⟨#[]⟩ (.slice none 0 0) false∧OwnT wz B (.slice Ae ne ce) L∧DK D w wz):=fun wz K=>
  ⟨K.blk CE.out (by omega),K.blk I0.out (by omega),OI.out.dk hB K,KI.out.trans K⟩
 obtain ⟨se,hse⟩:∃ z,sB ex=z:=⟨_,rfl⟩
 have HSE:=Lib.hid hse
 rw [hse] at SZ FI UP hwE ec4 ⊢
 clear H X O yE cE yI cEI hx hsz hs2 hlet hC hne hexl CE I0 OI KI hse
 go_enter Tryz.func91,Tryz.ntmps91
 go_wp2_with fail
 refine SZ.mono ?_
 rintro e w1 ⟨rfl,hb⟩
 have X1:=XI.out.all hb
 obtain ⟨e0,e1,e2,e3,e4,e5,e6⟩:=X1.cells
 have X2:=Lib.hid (X1.set3 sz)
 have K2:Hid (DK D wI (w1.setCell ⟨D,3,none⟩ (.int .i64 (sz:Int)))):=(DK.of_below hb).set 3 _
 clear SZ hb X1 XI ec0 ec1 ec2 ec3 ec4 ec5
 go_upto_region 2 with fail
 obtain ⟨w2,hw2⟩:∃ z,w1.setCell ⟨D,3,none⟩ (.int .i64 (sz:Int))=z:=⟨_,rfl⟩
 rw [hw2] at X2 K2 ⊢
 clear hw2 e0 e1 e2 e3 e4 e5 e6
 obtain ⟨cE2,-,-,-⟩:=UP.out w2 K2.out
 have ec4:=Lib.cell_of_heap cE2 4
 have DI2:=DI.out w2 X2.out
 have ES:Hid ((5≤p→s2=[])∧(¬5≤p→s2=ex)):=by rw [← HS2.out];unfold behS;exact ⟨fun h=>if_pos h,fun h=>if_neg h⟩
 clear cE2 DI X2
 by_cases h5:p=5∨p=6
 case' pos=>
  have ec4':w2.cell? ⟨E,4,none⟩=some (.string ⟨#[100]⟩):=by rw [ec4];show some (Value.string se)=_;rw [← HSE.out,HHI.out (by omega)];rfl
  have S2:=Lib.hid (ES.out.1 (by omega))
  rw [decide_eq_true h5] at DI2
  clear ec4 ES HSE
  go_wp2_with fail
  refine DI2.mono ?_
  rintro e w3 ⟨rfl,h1,h2⟩
  have X3:=h1
  have K3:=Lib.hid (K2.out.trans h2)
  clear h1 h2 K2 DI2
  go_wp2_with fail
  refine (trimD_any w3).mono ?_
  rintro e w7 ⟨rfl,hw⟩
  rw [hw]
  clear hw
  go_upto_region 5 with fail
  rw [show (⟨#[]⟩:ByteArray)=sB s2 from by rw [S2.out];rfl]
  clear S2 ec4'
 case' neg=>
  have ec4':w2.cell? ⟨E,4,none⟩=some (.string (sB s2)):=by rw [ec4];show some (Value.string se)=_;rw [← HSE.out,ES.out.2 (by omega)]
  rw [decide_eq_false h5] at DI2
  clear ec4 ES HSE
  go_wp2_with fail
  refine DI2.mono ?_
  rintro e w3 ⟨rfl,h1,h2⟩
  have X3:=h1
  have K3:=Lib.hid (K2.out.trans h2)
  clear h1 h2 K2 DI2
  go_upto_region 5 with fail
  clear ec4'
 all_goals
  clear h5 HEX HS2 HHI
  have LS:=Lib.hid (dl_start (b:=b) (s2:=s2) (s0:=(d,n)) X3 HK.out)
  obtain ⟨it,hit⟩:∃ z,w3.heap.size=z:=⟨_,rfl⟩
  rw [hit] at LS
  have HIT:=Lib.hid (Nat.le_of_eq hit)
  have hDit:D<it:=by rw [← hit];exact X3.lt
  clear X3
  go_wp2
  go_loopw [] (fun wr=>∃ j,Hid (DL w0 w3 wr D b (.slice A l cap) l it s2 k p sz (d,n) j)) (fun wr=>s2.length - wr.iterPos it)
  case atStart=>exact ⟨0,LS.out⟩
  case round=>
   obtain ⟨j,L⟩:=hrel
   have hlj:=L.out.le
   have hpos:wr.iterPos it=j:=iterPos_of L.out.iter
   by_cases hlt:j<s2.length
   ·obtain ⟨n1,n2,n3⟩:=L.out.next hDit HIT.out
    have T1:=TK.out _ _ L.out.kl _ _ _ _ n1 s2[j] (HLET.out j hlt)
    have PU:=fun w2 hl X K=>L.out.put (w2:=w2) hDit HIT.out hlt hl X K
    have hnx:=next_at L.out.iter hlt _ rfl (by rcases HLET.out j hlt with e | e | e | e <;> rw [e] <;> decide)
    have DK2:=n2
    obtain ⟨cc,hcc⟩:∃ z,s2[j]=z:=⟨_,rfl⟩
    rw [hcc] at T1 PU hnx
    obtain ⟨kk,hkk⟩:∃ z,k+sumN s2 j=z:=⟨_,rfl⟩
    have SJ:Hid (l<kk+letN cc→l<k+sumN s2 s2.length):=fun h=>by
     have h1:=sumN_all s2 (j:=j+1) hlt
     rw [sumN_succ s2 j hlt,hcc] at h1
     omega
    obtain ⟨sj,hsj⟩:∃ z,mS (d,n) s2 b k j=z:=⟨_,rfl⟩
    rw [hkk,hsj] at T1
    rw [hkk,hsj] at PU
    obtain ⟨wn,hwn⟩:∃ z,wr.iterAt it (sB s2) (j+1)=z:=⟨_,rfl⟩
    rw [hwn] at T1 PU hnx DK2
    have PU:=Lib.hid PU
    have T1:=Lib.hid T1
    have DK2:=Lib.hid DK2
    clear n1 n2 n3 hcc hwn hkk hsj
    go_wp2_with fail
    refine T1.out.mono ?_
    rintro e w2 (⟨h,rfl,h1,h2⟩ | ⟨h,rfl,h1,h2⟩)
    ·have L2:=Lib.hid (PU.out w2 h h1 h2)
     clear h h1 h2 T1 hnx PU SJ DK2
     go_wp2
     go_roundw
     case rel=>exact ⟨j+1,L2⟩
     case measure=>rw [iterPos_of L2.out.iter,hpos];omega
    ·have F:Hid (RetDI w0 D (.slice A l cap) b l w k p sz s2 m C al (.panicked missE) w2):=.inr ⟨SJ.out h,rfl,h1,(UP.out _ (K3.out.trans (DK2.out.trans h2))).2.2.2⟩
     clear h h1 h2 T1 hnx PU SJ DK2
     exact ⟨rfl,F.out⟩
   ·have hj:j=s2.length:=by omega
    subst hj
    have hnx:=fun ty=>Lib.run_next_end_at (P:=Tryz.prog) wr it (sB s2) s2.length ty L.out.iter (by rw [sB_size];omega)
    have X9:=L.out.dec
    have hkl:=L.out.kl
    have K9:=Lib.hid (K3.out.trans L.out.dk)
    have HF:=HC.out hkl
    obtain ⟨⟨dd,nn⟩,hdn⟩:∃ z,mS (d,n) s2 b k s2.length=z:=⟨_,rfl⟩
    rw [hdn] at X9 HF
    simp only at X9 HF
    have FW:=fun w h=>FI.out dd nn w h
    rw [HF] at FW
    unfold RetFill at FW
    rw [hup] at FW
    obtain ⟨kk,hkk⟩:∃ z,k+sumN s2 s2.length=z:=⟨_,rfl⟩
    rw [hkk] at X9 hkl
    have HKK:=Lib.hid hkk
    obtain ⟨lc,hlc⟩:∃ z,C.length=z:=⟨_,rfl⟩
    have HLC:=Lib.hid hlc
    obtain ⟨nr,hnr⟩:∃ z,wr.heap.size=z:=⟨_,rfl⟩
    have hDr:=X9.lt
    have HER:Hid (E≤nr):=by have h1:=(UP.out wr K9.out).2.2.2.size;show E≤nr;omega
    have X9:=Lib.hid X9
    have FW:=Lib.hid FW
    clear L hpos hlj LS HLET TK FI HF HC hdn hkk hlc
    go_upto_region 9 with fail
    go_cut [8] (fun pv wx=>∃ (c:Nat) (Bc:Option Addr) (cc:Nat),pv=.pointer (some ⟨c,0,none⟩)∧Hid (wx.heap[c]?=some (.cells #[.string (sB m),.slice Bc lc cc] 26 (0,0))∧OwnT wx E (.slice Bc lc cc) C∧Dec w0 D (.slice A l cap) wx kk p sz dd nn∧DK D wr wx))
    case first=>
     obtain ⟨w4,hw4⟩:∃ z,wr.drew=z:=⟨_,rfl⟩
     have dq:Below wr.heap.size wr w4:=by rw [← hw4];exact below_drewN wr _ 1
     have z4:w4.heap.size=nr:=by rw [← hw4];exact hnr
     have X4:=Lib.hid (X9.out.all dq)
     have K4:=Lib.hid (DK.of_below (D:=D) dq)
     have UQ:Hid (∀ wz,DK D wr wz→wz.heap[E]?=some (.cells #[.int .i64 p,.int .u8 op,.string (sB m),.slice Ae ne ce,.string se,.bool al] 55 (0,0))∧OwnT wz B (.slice Ae ne ce) L):=fun wz K=>by
      obtain ⟨h1,-,h2,-⟩:=UP.out wz (K9.out.trans K)
      exact ⟨h1,h2⟩
     refine Mixed.wp_region_mixedT (fun w'=>w'.heap[E]?=some (.cells #[.int .i64 p,.int .u8 op,.string (sB m),.slice Ae ne ce,.string se,.bool al] 55 (0,0))∧Dec w0 D (.slice A l cap) w' kk p sz dd nn) 15
      (.pure 0 (.pure 1 (.pure 2 (.pure 3 (.pure 4 (.pure 5 (.pure 6 (.pure 7 (.pure 8 (.two 9 (.pure 10 (.pure 11 (.pure 12 (.one 13 (.one 14 .done))))) 13 (.one 9 (.pure 10 (.pure 11 (.pure 12 (.one 14 .done))))))))))))))) (by kernel_rfl) (by kernel_rfl) (by rw [hw4];exact ⟨(UQ.out _ K4.out).1,X4.out⟩) ?_
     rw [hw4]
     clear hw4 hnx
     refine Mixed.wpMixT_pure rfl (by kernel_rfl) (.agg #[.int .i64 p,.int .u8 op,.string (sB m),.slice Ae ne ce,.string se,.bool al]) (fun w h=>by
      obtain ⟨h1,h2⟩:=h
      obtain ⟨q0,q1,q2,q3,q4,q5⟩:=Fr.cells6 h1
      clear h1 h2
      go_simp;try rfl) ?_
     refine Mixed.wpMixT_pure rfl (by kernel_rfl) (.pointer (some ⟨D,0,none⟩)) (fun w h=>by clear h;go_simp;try rfl) ?_
     refine Mixed.wpMixT_pure rfl (by kernel_rfl) (.pointer (some ⟨D,0,none⟩)) (fun w h=>by clear h;go_simp;try rfl) ?_
     refine Mixed.wpMixT_pure rfl (by kernel_rfl) (.pointer (some ⟨D,4,none⟩)) (fun w h=>by clear h;go_simp;try rfl) ?_
     refine Mixed.wpMixT_pure rfl (by kernel_rfl) (.int .i64 dd) (fun w h=>by obtain ⟨h1,h2⟩:=h;obtain ⟨q0,q1,q2,q3,q4,q5,q6⟩:=h2.cells;clear h1 h2;go_simp;try rfl) ?_
     refine Mixed.wpMixT_pure rfl (by kernel_rfl) (.pointer (some ⟨D,0,none⟩)) (fun w h=>by clear h;go_simp;try rfl) ?_
     refine Mixed.wpMixT_pure rfl (by kernel_rfl) (.pointer (some ⟨D,0,none⟩)) (fun w h=>by clear h;go_simp;try rfl) ?_
     refine Mixed.wpMixT_pure rfl (by kernel_rfl) (.pointer (some ⟨D,5,none⟩)) (fun w h=>by clear h;go_simp;try rfl) ?_
     refine Mixed.wpMixT_pure rfl (by kernel_rfl) (.int .i64 nn) (fun w h=>by obtain ⟨h1,h2⟩:=h;obtain ⟨q0,q1,q2,q3,q4,q5,q6⟩:=h2.cells;clear h1 h2;go_simp;try rfl) ?_
     refine Mixed.wpMixT_both rfl (by kernel_rfl) rfl (by kernel_rfl) ?_ ?_
     ·have C4:=FW.out w4 (UQ.out _ K4.out).2.opsP
      go_wp2_with fail
      refine C4.mono ?_
      rintro e w5 ⟨v,rfl,hO,hb⟩
      obtain ⟨Bc,cc,rfl,-,-⟩:=hO.ops
      rw [HLC.out] at hO ⊢
      have X5:=Lib.hid (X4.out.all hb)
      have K5:=Lib.hid (K4.out.trans (DK.of_below hb))
      have O5:=Lib.hid (show OwnT w5 E (.slice Bc lc cc) C from row_mono hO (by have:=HER.out;omega))
      have z5:nr≤w5.heap.size:=by have:=hb.size;omega
      clear C4 hb hO X4 K4
      go_wp2
      refine ⟨⟨(UQ.out _ K5.out).1,X5.out⟩,?_⟩
      refine Mixed.wpMixT_pure rfl (by kernel_rfl) (.tuple #[.agg #[.string (sB m),.slice Bc lc cc],.bool true]) (fun w h=>by clear h;go_simp;try rfl) ?_
      refine Mixed.wpMixT_pure rfl (by kernel_rfl) (.agg #[.string (sB m),.slice Bc lc cc]) (fun w h=>by clear h;go_simp;try rfl) ?_
      refine Mixed.wpMixT_pure rfl (by kernel_rfl) (.bool true) (fun w h=>by clear h;go_simp;try rfl) ?_
      refine Mixed.wpMixT_loud rfl (by kernel_rfl) ?_
      obtain ⟨c,w6,hc,hw6,S6,y6,z6⟩:=Fr.box (Fr.nil w5) #[.string ⟨#[]⟩,.slice none 0 0] 26
      have b6:w6.heap[c]?=some (.cells #[.string ⟨#[]⟩,.slice none 0 0] 26 (0,0)):=S6.out.1
      have X6:=Lib.hid (X5.out.all y6)
      have K6:=Lib.hid (K5.out.trans (DK.of_below y6))
      have O6:=Lib.hid (O5.out.below y6)
      have hcr:nr≤c:=by omega
      clear S6 y6 X5 K5 O5
      go_wp2
      refine ⟨⟨(UQ.out _ K6.out).1,X6.out⟩,?_⟩
      refine Mixed.wpMixT_loud rfl (by kernel_rfl) ?_
      obtain ⟨w7,hw7,c7,o7,x7,k7⟩:=ins_put X6.out K6.out (by omega) b6 (by omega) O6.out (.string (sB m))
      obtain ⟨b60,b61⟩:=Fr.cells2 b6
      have fz:=fun i=>Lib.frozen_of_heap b6 i
      have F:=Lib.hid (⟨c7,o7,x7,k7⟩:w7.heap[c]?=some (.cells #[.string (sB m),.slice Bc lc cc] 26 (0,0))∧OwnT w7 E (.slice Bc lc cc) C∧Dec w0 D (.slice A l cap) w7 kk p sz dd nn∧DK D wr w7)
      clear c7 o7 x7 k7 X6 K6 O6 b6
      go_wp2
      refine ⟨⟨(UQ.out _ F.out.2.2.2).1,F.out.2.2.1⟩,?_⟩
      simp only [Mixed.wpMixT,List.drop_succ_cons,List.drop_zero]
      go_wp2
      go_meet
      exact ⟨c,Bc,cc,rfl,F⟩
     ·obtain ⟨c,w6,hc,hw6,S6,y6,z6⟩:=Fr.box (Fr.nil w4) #[.string ⟨#[]⟩,.slice none 0 0] 26
      have b6:w6.heap[c]?=some (.cells #[.string ⟨#[]⟩,.slice none 0 0] 26 (0,0)):=S6.out.1
      have X6:=Lib.hid (X4.out.all y6)
      have K6:=Lib.hid (K4.out.trans (DK.of_below y6))
      obtain rfl:c=nr:=by omega
      have hcr:c≤c:=Nat.le_refl _
      have hE6:Hid (E≤w6.heap.size):=by have:=HER.out;show _≤_;omega
      have C4:=FW.out w6 (UQ.out _ K6.out).2.opsP
      clear S6 y6 X4 K4
      go_wp2
      refine ⟨⟨(UQ.out _ K6.out).1,X6.out⟩,?_⟩
      refine Mixed.wpMixT_loud rfl (by kernel_rfl) ?_
      go_wp2_with fail
      refine C4.mono ?_
      rintro e w5 ⟨v,rfl,hO,hb⟩
      obtain ⟨Bc,cc,rfl,-,-⟩:=hO.ops
      rw [HLC.out] at hO ⊢
      have X5:=Lib.hid (X6.out.all hb)
      have K5:=Lib.hid (K6.out.trans (DK.of_below hb))
      have O5:=Lib.hid (show OwnT w5 E (.slice Bc lc cc) C from row_mono hO hE6.out)
      have b5:w5.heap[c]?=some (.cells #[.string ⟨#[]⟩,.slice none 0 0] 26 (0,0)):=(hb.block c (by omega)).trans b6
      clear C4 hb hO X6 K6 b6
      go_wp2
      refine ⟨⟨(UQ.out _ K5.out).1,X5.out⟩,?_⟩
      refine Mixed.wpMixT_pure rfl (by kernel_rfl) (.tuple #[.agg #[.string (sB m),.slice Bc lc cc],.bool true]) (fun w h=>by clear h;go_simp;try rfl) ?_
      refine Mixed.wpMixT_pure rfl (by kernel_rfl) (.agg #[.string (sB m),.slice Bc lc cc]) (fun w h=>by clear h;go_simp;try rfl) ?_
      refine Mixed.wpMixT_pure rfl (by kernel_rfl) (.bool true) (fun w h=>by clear h;go_simp;try rfl) ?_
      refine Mixed.wpMixT_loud rfl (by kernel_rfl) ?_
      obtain ⟨w7,hw7,c7,o7,x7,k7⟩:=ins_put X5.out K5.out (by omega) b5 (by omega) O5.out (.string (sB m))
      obtain ⟨b60,b61⟩:=Fr.cells2 b5
      have fz:=fun i=>Lib.frozen_of_heap b5 i
      have F:=Lib.hid (⟨c7,o7,x7,k7⟩:w7.heap[c]?=some (.cells #[.string (sB m),.slice Bc lc cc] 26 (0,0))∧OwnT w7 E (.slice Bc lc cc) C∧Dec w0 D (.slice A l cap) w7 kk p sz dd nn∧DK D wr w7)
      clear c7 o7 x7 k7 X5 K5 O5 b5
      go_wp2
      refine ⟨⟨(UQ.out _ F.out.2.2.2).1,F.out.2.2.1⟩,?_⟩
      simp only [Mixed.wpMixT,List.drop_succ_cons,List.drop_zero]
      go_wp2
      go_meet
      exact ⟨c,Bc,cc,rfl,F⟩
    case rest=>
     obtain ⟨c,Bc,cc,rfl,R⟩:=hcut
     obtain ⟨cE,cI,-,kW⟩:=UP.out wc (K9.out.trans R.out.2.2.2)
     obtain ⟨b0,b1⟩:=Fr.cells2 R.out.1
     obtain ⟨q0,q1,q2,q3,q4,q5⟩:=Fr.cells6 cE
     obtain ⟨f0,f1,f2,f3,f4,f5⟩:=cI.cells
     obtain ⟨wz,hwz,i1,i2,i3,i4,i5,i6⟩:=cI.put 1 (.slice none 0 0) (sB m) (.slice Bc lc cc) al
     have F:Hid (RetDI w0 D (.slice A l cap) b l w k p sz s2 m C al (.returned (.agg #[.int .i64 1,.slice none 0 0,.string (sB m),.slice Bc lc cc,.bool al])) wz):=
      .inl ⟨by rw [HKK.out];exact hkl,⟨Bc,cc,by rw [HLC.out],by rw [HLC.out,HE.out];exact it_ownT cI R.out.2.1 i6⟩,⟨dd,nn,by rw [HKK.out];exact ⟨(i2.block D (by omega)).trans R.out.2.2.1.blk,R.out.2.2.1.bel.trans (i2.mono (by omega))⟩⟩,
       ⟨Nat.le_trans kW.size i2.size,fun k hk hb=>(i6 k (by omega)).trans (kW.same k hk hb)⟩⟩
     obtain ⟨j0,j1,j2,j3,j4,j5⟩:=i1.cells
     clear R cE cI kW i1 i2 i3 i4 i5 i6 UP K9 X9 FW q0 q1 q2 q3 q4
     go_wp2
     refine bodyPost_ret (v:=.agg #[.int .i64 1,.slice none 0 0,.string (sB m),.slice Bc lc cc,.bool al]) ?_ rfl F.out
     simp [results,Tryz.results91,go_sem,j0,j1,j2,j3,j4]
end Go.Proofs.YtmnleknehjkmgaaGreatDoor
namespace Go.Proofs.YtmnleknehjkmgaaGreatDoor
open Go.RowKit Go.Shelf
attribute [local go_sem] Oper.semAt_some
def kkP (p:Int):Nat:=(preS p).length+if 5≤p then 2 else 1
theorem missB {p:Int} (hp:0≤p∧p≤6) {b r:Str} (hb:b=preS p++r) (h:b.length<kkP p):itR b=iteO 4 b∧needR b=kkP p:=by
 subst hb
 unfold kkP at h ⊢
 rw [List.length_append] at h
 by_cases h5:5≤p
 ·rw [if_pos h5] at h ⊢
  rw [pre_5 ⟨h5,hp.2⟩]
  exact miss5 ⟨h5,hp.2⟩ (by omega)
 ·rw [if_neg h5] at h ⊢
  obtain rfl:r=[]:=List.length_eq_zero_iff.1 (by omega)
  rw [List.append_nil]
  exact miss4 ⟨hp.1,by omega⟩
theorem hasB {p:Int} (hp:0≤p∧p≤6) {b r:Str} (hb:b=preS p++r) (h:kkP p≤b.length) :
  ∃ o t,b.getD (kkP p - 1) 0=o∧(p≤4→b=preS p++o :: t∧b.drop (kkP p)=t)∧(5≤p→hdB b=some (p,o,t)∧∃ u,t=b.getD (preS p).length 0 :: u):=by
 subst hb
 unfold kkP at h ⊢
 rw [List.length_append] at h
 by_cases h5:5≤p
 ·rw [if_pos h5] at h ⊢
  match r,h with
  | [],h=>exact absurd h (by simp only [List.length_nil];omega)
  | [x],h=>exact absurd h (by simp only [List.length_nil,List.length_cons];omega)
  | x :: o :: u,h=>
   refine ⟨o,x :: u,?_,fun h4=>by omega,fun _=>⟨hd_at5 ⟨h5,hp.2⟩ x o u,u,?_⟩⟩
   ·rw [List.getD_eq_getElem?_getD,List.getElem?_append_right (by omega),show (preS p).length+2 - 1 - (preS p).length=1 by omega];rfl
   ·rw [List.getD_eq_getElem?_getD,List.getElem?_append_right (by omega),Nat.sub_self];rfl
 ·rw [if_neg h5] at h ⊢
  match r,h with
  | [],h=>exact absurd h (by simp only [List.length_nil];omega)
  | o :: t,h=>
   refine ⟨o,t,?_,fun _=>⟨rfl,?_⟩,fun h=>absurd h h5⟩
   ·rw [List.getD_eq_getElem?_getD,List.getElem?_append_right (by omega),show (preS p).length+1 - 1 - (preS p).length=0 by omega];rfl
   ·rw [List.drop_append]
    simp
theorem sz_kk {p:Int} {i:Nat} {ex:Str} (hx:ExP p i ex):kkP p+sumN (behS p ex) (behS p ex).length=sizeT p ex:=by
 unfold kkP behS sizeT
 by_cases h5:5≤p
 ·rw [if_pos h5,if_pos h5,hx.hi h5]
  rfl
 ·rw [if_neg h5,if_neg h5]
def ddP (b:Str) (p d:Int):Int:=if 5≤p then sgB (b.getD (preS p).length 0) else d
theorem num_kk {p:Int} {i:Nat} {ex:Str} (hx:ExP p i ex) {b t:Str} (h4:p≤4→b.drop (kkP p)=t) (h5:5≤p→∃ u,t=b.getD (preS p).length 0 :: u) :
  mS (ddP b p 0,0) (behS p ex) b (kkP p) (behS p ex).length=numB ex t:=by
 unfold ddP behS
 by_cases hp:5≤p
 ·obtain ⟨u,rfl⟩:=h5 hp
  rw [if_pos hp,if_pos hp,hx.hi hp,num_d]
  rfl
 ·rw [if_neg hp,if_neg hp,mS_num hx,h4 (by omega)]
theorem opcode_any {w0:World} {D:Nat} {b:Str} {A:Option Addr} {l cap:Nat} (H:DH w0 D b A l cap) {w:World} {p nd d n:Int} (hk:(preS p).length≤l) (X:Dec w0 D (.slice A l cap) w (preS p).length p nd d n) (hp:0≤p∧p≤6) :
  Calls Tryz.prog 90 #[.pointer (some ⟨D,0,none⟩)] w fun e w'=>
   (kkP p≤l∧DOk w0 D (.slice A l cap) w e w' (.int .u8 ((b.getD (kkP p - 1) 0).toNat:Int)) (kkP p) p (kkP p:Nat) (ddP b p d) n)∨(l<kkP p∧DMiss w0 D (.slice A l cap) w e w' l p (kkP p:Nat)):=by
 unfold kkP ddP
 by_cases h5:5≤p
 ·rw [if_pos h5,if_pos h5]
  refine (opcode5_any H hk X (by omega)).mono ?_
  rintro e w' (⟨h,h1⟩ | ⟨h,h1⟩)
  ·exact .inl ⟨h,h1⟩
  ·exact .inr ⟨by omega,h1⟩
 ·rw [if_neg h5,if_neg h5]
  refine (opcode4_any H hk X (by omega)).mono ?_
  rintro e w' (⟨h,h1⟩ | ⟨h,h1⟩)
  ·exact .inl ⟨h,h1⟩
  ·exact .inr ⟨by omega,h1⟩
theorem tat2_any (page:Int) (o:UInt8) (w:World) (hM:MaxAt w):Calls Tryz.prog 89 #[.int .i64 page,.int .u8 (o.toNat:Int)] w fun e w'=>∃ (pp oo:Int) (m:Str) (Av:Option Addr) (nv cv:Nat) (ex:Str) (al:Bool) (kd:Int),
  e=.returned (.tuple #[.agg #[.int .i64 pp,.int .u8 oo,.string (sB m),.slice Av nv cv,.string (sB ex),.bool al],.int .i64 kd])∧Below w.heap.size w w'∧
  (∀ x,ratT page o.toNat=some x→kd=1∧pp=page∧oo=(o.toNat:Int)∧m=x.1∧ex=x.2.2.1∧al=x.2.2.2∧nv=x.2.1.length∧OwnT w' w.heap.size (.slice Av nv cv) x.2.1)∧(ratT page o.toNat=none→kd=rkindT page o.toNat):=by
 refine (tat_any page (o.toNat:Int) (by omega) (by have:=o.toNat_lt;omega) w hM).mono ?_
 rintro e w' ⟨h,hb⟩
 rw [at_same page o.toNat o.toNat_lt] at h
 cases hx:ratT page o.toNat with
 | some x=>
  rw [hx] at h
  obtain ⟨v,rfl,hO⟩:=h
  obtain ⟨Av,cv,rfl,-,-⟩:=hO.ops
  exact ⟨_,_,_,Av,_,cv,_,_,_,rfl,hb,(fun y hy=>by cases hy;exact ⟨rfl,rfl,rfl,rfl,rfl,rfl,rfl,hO⟩),fun h=>by cases h⟩
 | none=>
  rw [hx] at h
  simp only at h
  subst h
  exact ⟨_,_,_,_,_,_,_,_,_,rfl,hb,(fun y hy=>by cases hy),fun _=>ok_none o.toNat_lt hx⟩
theorem ent_put {w0 wr w:World} {D:Nat} {S:Value} {k:Nat} {p nd d n:Int} {c:Nat} {cur:Array Value} (X:Dec w0 D S w k p nd d n) (K:DK D wr w) (hD:D<wr.heap.size) (h:w.heap[c]?=some (.cells cur 55 (0,0))) (hc:wr.heap.size≤c) (cs:Array Value) :
  ∃ w',w.setRow c cs=w'∧w'.heap[c]?=some (.cells cs 55 (0,0))∧Dec w0 D S w' k p nd d n∧DK D wr w'∧∀ B u L,OwnT w B u L→OwnT w' B u L:=by
 have s:∀ k,k≠c→(w.setRow c cs).heap[k]?=w.heap[k]?:=fun k hk=>setRow_other w c k cs hk
 have b:Below c w (w.setRow c cs):=below_setRow (Below.refl c w) (Nat.le_refl _) cs
 refine ⟨_,rfl,setRow_heap w c cur cs 55 (0,0) h,⟨(s D (by omega)).trans X.blk,X.bel.trans (b.mono (by omega))⟩,⟨Nat.le_trans K.size b.size,fun k hk hb=>(s k (by omega)).trans (K.same k hk hb)⟩,fun B u L O=>⟨O.1,?_⟩⟩
 rcases O.2 with e | ⟨g,cap,cur,e1,e2,e3,e4⟩
 ·exact .inl e
 ·refine .inr ⟨g,cap,cur,e1,e2,(s g (fun e=>?_)).trans e3,e4⟩
  subst e
  rw [h] at e3
  simp at e3
end Go.Proofs.YtmnleknehjkmgaaGreatDoor
