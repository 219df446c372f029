/-
  SeRg, SeRk, SeI, SeV, InW, LsA, SeX, CnK, SeRh, SeY, SeRl, EnD, EnP, TbOn, EnS, EnR, SeRm, EnF, DeC, NumM.
-/
import Derived.Test.YtclhaejdjogfbaaGreatDoorGBF
import Derived.Test.YtclhaejdjogfbaaGreatDoorMSeM
import Derived.Test.YtclhaejdjogfbaaGreatDoorMSeH
import Derived.Test.YtclhaejdjogfbaaGreatDoorGAY
import Derived.Test.YtclhaejdjogfbaaGreatDoorGAA
import Derived.Lib.SmallJoins
import Derived.Deep.Slices
import Derived.Deep.Strs
import Derived.Deep.Fields
import Derived.ChangeSame
import Derived.OpenShut
import Derived.Test.YtclhaejdjogfbaaGreatDoorGAV
import Derived.Laws.AppendOwn
import Derived.Laws.OwnMore
import Derived.Test.YtclhaejdjogfbaaGreatDoorGAE
import Derived.Test.YtclhaejdjogfbaaGreatDoorGAS
import Derived.Test.YtclhaejdjogfbaaGreatDoorGAQ
import Derived.Test.YtclhaejdjogfbaaGreatDoorGAJ
import Derived.Test.YtclhaejdjogfbaaGreatDoorGAR
import Derived.Deep.QuietTactic
import Derived.BigQuiet
import Derived.Test.YtclhaejdjogfbaaGreatDoorGAI
import Derived.Deep.DeepCutAuto
import Derived.Deep.Cut
import Derived.Test.YtclhaejdjogfbaaGreatDoorGAB
import Derived.Deep.Draws
import Derived.RegionTactic
import Derived.Test.YtclhaejdjogfbaaGreatDoorQ0
set_option linter.all false
set_option maxRecDepth 100000
set_option maxHeartbeats 4000000
namespace Go.Proofs.YtclhaejdjogfbaaGreatDoor
open Go.RowKit Go.Shelf
attribute [local go_sem] Oper.semAt_some
theorem fstI_le (C:List Tr):0≤fstI C∧fstI C≤3:=by unfold fstI;split <;> omega
theorem lstI_le (C:List Tr):lstI C≤6∧fstI C≤lstI C+1:=by unfold lstI fstI;split <;> omega
theorem ref_box (w:World) (g o:Int) (m:Str) (v:Value) (ex:Str) (al:Bool) (c:Nat) (hc:w.heap.size=c):∃ w',w.alloc (.cells #[.int .i64 g,.int .u8 o,.string (sB m),v,.string (sB ex),.bool al] 63)=w'∧w'.heap[c]?=some (.cells #[.int .i64 g,.int .u8 o,.string (sB m),v,.string (sB ex),.bool al] 63 (0,0))∧Below w.heap.size w w'∧w'.heap.size=c+1:=by
 subst hc
 exact ⟨_,rfl,World.alloc_heap_new w _,(Below.refl _ w).alloc (Nat.le_refl _) _,by simp⟩
end Go.Proofs.YtclhaejdjogfbaaGreatDoor
namespace Go.Proofs.YtclhaejdjogfbaaGreatDoor
open Go.RowKit Go.Shelf
attribute [local go_sem] Oper.semAt_some
end Go.Proofs.YtclhaejdjogfbaaGreatDoor
namespace Go.Proofs.YtclhaejdjogfbaaGreatDoor
open Go.RowKit Go.Shelf
attribute [local go_sem] Oper.semAt_some
attribute [local irreducible] Go.Mixed.wpMix
end Go.Proofs.YtclhaejdjogfbaaGreatDoor
namespace Go.Proofs.YtclhaejdjogfbaaGreatDoor
open Go.RowKit Go.Shelf
attribute [local go_sem] Oper.semAt_some
attribute [local irreducible] Go.Mixed.wpMix
theorem svalues_any (page op:Int) (m:Str) (hm:m.length≤1000) (hup:upB (sB m)=sB m) (A:Option Addr) (cap l:Nat) (L:List Tr) (hl:L.length=l) (hL:l≤1000) (ex:Str) (hx:ex.length≤1000) (al:Bool) (s:ByteArray) (Ai:Option Addr) (capi li:Nat) (I:List Tr) (hli:I.length=li) (hLi:li≤900) (w:World) (H:OpsP w A L) (HF:OpsP w Ai I) :
  Calls Tryz.prog 38 #[enV page op m (.slice A l cap) ex al,.agg #[.string s,.slice Ai li capi]] w fun e w'=>e=.returned (.tuple #[.int .i64 (valV m L ex s (canL (opc s) I)).1,.int .i64 (valV m L ex s (canL (opc s) I)).2])∧Below w.heap.size w w':=by
 have hof:=fun w h=>of_any s Ai capi I (by omega) w h
 rw [hli] at hof
 have hcl:=canL_len (opc s) I
 have hhe:=fun Af capf lf (e1:(canL (opc s) I).length=lf) w' h1 h2=>hasEntry_any page op m hm hup A cap l L hl hL ex hx al s Af capf lf (canL (opc s) I) e1 (by omega) w' h1 h2
 have hva:=fun w=>variables_any page op m A l cap ex hx al w
 obtain ⟨C,hC⟩:=N9 (canL (opc s) I)
 rw [hC] at hof hhe hcl
 rw [hC]
 obtain ⟨x,hxx⟩:=N9 ((varsV ex).1)
 obtain ⟨y,hyy⟩:=N9 ((varsV ex).2)
 obtain ⟨tt,htt⟩:=N9 (hasV m L ex s C)
 have VV:Hid (valV m L ex s C=if tt=true then (numV x.1 C,numV y.1 C) else (0,0)):=by show _=_;unfold valV;rw [htt,hxx,hyy]
 obtain ⟨vv,hvv⟩:=N9 (valV m L ex s C)
 rw [hvv] at VV ⊢
 unfold RetVars at hva
 rw [hxx,hyy] at hva
 rw [htt] at hhe
 have CL:Hid (C.length≤1000):=by show _≤_;omega
 clear hC htt hcl hup hvv hxx hyy
 unfold enV at hhe hva ⊢
 obtain ⟨w0,hw0⟩:=N9 ((w.alloc (.cells #[.int .i64 page,.int .u8 op,.string (sB m),.slice A l cap,.string (sB ex),.bool al] 47)).alloc (.cells #[.string s,.slice Ai li capi] 24))
 obtain ⟨n,hn⟩:=N9 (w.heap.size)
 have b0:Below n w w0:=by rw [← hw0,← hn];exact ((Below.refl _ w).alloc (Nat.le_refl _) _).alloc (by simp) _
 have z0:w0.heap.size=n+1+1:=by rw [← hw0,← hn];simp
 have c0:w0.heap[n]?=some (.cells #[.int .i64 page,.int .u8 op,.string (sB m),.slice A l cap,.string (sB ex),.bool al] 47 (0,0)):=by
  rw [← hw0,← hn]
  exact (Below.heap_alloc _ _ _ (by simp)).trans (World.alloc_heap_new w _)
 have c1:w0.heap[n+1]?=some (.cells #[.string s,.slice Ai li capi] 24 (0,0)):=by
  rw [← hw0,← hn]
  have h:=World.alloc_heap_new (w.alloc (.cells #[.int .i64 page,.int .u8 op,.string (sB m),.slice A l cap,.string (sB ex),.bool al] 47)) (.cells #[.string s,.slice Ai li capi] 24)
  rwa [World.size_alloc] at h
 have OF:=J9 hof
 have HE:=J9 hhe
 have VA:=J9 hva
 have HN:=J9 hn
 have B0:=J9 b0
 have C0:=J9 c0
 have P0:=J9 (H.below (by rw [hn];exact b0))
 have Q0:=J9 (HF.below (by rw [hn];exact b0))
 have k0:=C9 c1 0
 have k1:=C9 c1 1
 clear hof hhe hva c0 c1 b0 H HF hm hx
 go_enter Tryz.func38,Tryz.ntmps38
 go_wp2_with fail
 refine (OF.out _ Q0.out).mono ?_
 rintro e w1 ⟨v,rfl,hO,hb⟩
 obtain ⟨Af,capf,rfl,hP,-,-⟩:=hO.ops
 obtain ⟨lf,hlf⟩:=N9 (C.length)
 have HLF:=J9 hlf
 rw [hlf] at CL ⊢
 obtain ⟨b,hbs⟩:=N9 (w1.heap.size)
 obtain ⟨w2,hw2,y1,y2,y3⟩:=ins_box w1 s (.slice Af lf capf) b hbs
 have bb:Below (n+1+1) w0 w2:=(hb.mono (by omega)).trans (y2.mono (by have:=hb.size;omega))
 have hnb:n+2≤b:=by have:=hb.size;omega
 have c0:=(bb.block n (by omega)).trans C0.out
 have E2:=J9 c0
 have B2:Hid (Below n w w2):=B0.out.trans (bb.mono (by omega))
 have P2:=J9 (P0.out.below (by rw [z0];exact bb))
 have Q2:=J9 (hP.below y2)
 have he:=HE.out Af capf lf HLF.out w2 P2.out Q2.out
 have Y1:=J9 y1
 have j0:=C9 y1 0
 have j1:=C9 y1 1
 have i0:=C9 c0 0
 have i1:=C9 c0 1
 have i2:=C9 c0 2
 have i3:=C9 c0 3
 have i4:=C9 c0 4
 have i5:=C9 c0 5
 clear hO hP hb y1 y2 bb c0 OF HE P0 Q0 B0 C0 z0 hw0 hlf k0 k1
 go_wp2_with fail
 refine he.mono ?_
 rintro e w3 ⟨rfl,hb⟩
 have P3:=J9 (P2.out.below hb)
 have Q3:=J9 (Q2.out.below hb)
 have B3:Hid (Below n w w3):=B2.out.trans (hb.mono (by omega))
 have Y3:=J9 ((hb.block b (by omega)).trans Y1.out)
 have E3:=J9 ((hb.block n (by omega)).trans E2.out)
 have s3:b+1≤w3.heap.size:=by have:=hb.size;omega
 have va3:=VA.out w3
 clear he hb P2 Q2 B2 Y1 E2 VA j0 j1 i0 i1 i2 i3 i4 i5 y3 hw2 w2 hbs
 have i0:=C9 E3.out 0
 have i1:=C9 E3.out 1
 have i2:=C9 E3.out 2
 have i3:=C9 E3.out 3
 have i4:=C9 E3.out 4
 have i5:=C9 E3.out 5
 cases tt with
 | false=>
  clear va3
  go_wp2
  refine bodyPost_ret (v:=.tuple #[.int .i64 0,.int .i64 0]) ?_ rfl ?_
  ·simp [results,Tryz.results38,go_sem]
  ·refine ⟨?_,by rw [HN.out];exact B3.out⟩
   rw [VV.out]
   rfl
 | true=>
  go_wp2_with fail
  refine va3.mono ?_
  rintro e w4 ⟨f,g,f',g',rfl,va,va',hb⟩
  obtain ⟨p1,p2,p3,hf,hg⟩:=va.form
  obtain ⟨p4,p5,p6,hf',hg'⟩:=va'.form
  subst hf hg hf' hg'
  obtain ⟨c,hcs⟩:=N9 (w4.heap.size)
  obtain ⟨w5,hw5,x1,x2,x3,x4,x5,x6⟩:=vars_boxes va va' c hcs
  have hbc:b+1≤c:=by have:=hb.size;omega
  have bb:Below (b+1) w3 w5:=(hb.mono (by omega)).trans (x5.mono (by omega))
  have bb':Below w3.heap.size w3 w5:=hb.trans (x5.mono hb.size)
  have B5:Hid (Below n w w5.drew):=(B3.out.trans (bb.mono (by omega))).drew
  have hd:=below_drewN w5 w5.heap.size 1
  have Q5:=J9 ((Q3.out.below bb').below hd)
  have KK:Hid (w5.drew.heap[b]?=some (.cells #[.string s,.slice Af lf capf] 24 (0,0))∧w5.drew.heap[c]?=some (.cells #[.func (.func 125) #[] #[.pointer (some ⟨p1,0,none⟩)],.func (.func 127) #[] #[.pointer (some ⟨p2,0,none⟩),.pointer (some ⟨p3,0,none⟩)]] 118 (0,0))∧w5.drew.heap[c+1]?=some (.cells #[.func (.func 125) #[] #[.pointer (some ⟨p4,0,none⟩)],.func (.func 127) #[] #[.pointer (some ⟨p5,0,none⟩),.pointer (some ⟨p6,0,none⟩)]] 118 (0,0))):=⟨(bb.block b (by omega)).trans Y3.out,x1,x2⟩
  have X3:=J9 (x3.below hd)
  have X4:=J9 (x4.below hd)
  clear va3 va va' hb x1 x2 x3 x4 x5 bb bb' hd P3 Q3 B3 Y3 E3 i0 i1 i2 i3 i4 i5
  go_upto_region 5 with fail
  obtain ⟨w6,hw6⟩:=N9 (w5.drew)
  have hw6':w5.drewN 1=w6:=hw6
  rw [hw6'] at Q5 X3 X4
  rw [hw6] at B5 KK
  have z6:w6.heap.size=c+2:=by rw [← hw6];exact x6
  refine Mixed.wp_region_mixed (fun w'=>w'.heap[b]?=some (.cells #[.string s,.slice Af lf capf] 24 (0,0))∧w'.heap[c]?=some (.cells #[.func (.func 125) #[] #[.pointer (some ⟨p1,0,none⟩)],.func (.func 127) #[] #[.pointer (some ⟨p2,0,none⟩),.pointer (some ⟨p3,0,none⟩)]] 118 (0,0))∧w'.heap[c+1]?=some (.cells #[.func (.func 125) #[] #[.pointer (some ⟨p4,0,none⟩)],.func (.func 127) #[] #[.pointer (some ⟨p5,0,none⟩),.pointer (some ⟨p6,0,none⟩)]] 118 (0,0))) 6 [(0,true),(1,true),(3,true),(4,true),(2,false),(5,false)] (by kernel_rfl) (by kernel_rfl) (by rw [hw6];exact KK.out) ?_
  rw [hw6]
  clear hw6 hw6' x6 hw5
  refine Mixed.mo rfl (.agg #[.func (.func 125) #[] #[.pointer (some ⟨p1,0,none⟩)],.func (.func 127) #[] #[.pointer (some ⟨p2,0,none⟩),.pointer (some ⟨p3,0,none⟩)]]) (fun w h=>by
   obtain ⟨h1,h2,h3⟩:=h
   have q0:=C9 h2 0
   have q1:=C9 h2 1
   go_simp;try rfl) ?_
  refine Mixed.mo rfl (.agg #[.string s,.slice Af lf capf]) (fun w h=>by
   obtain ⟨h1,h2,h3⟩:=h
   have q0:=C9 h1 0
   have q1:=C9 h1 1
   go_simp;try rfl) ?_
  refine Mixed.mo rfl (.agg #[.func (.func 125) #[] #[.pointer (some ⟨p4,0,none⟩)],.func (.func 127) #[] #[.pointer (some ⟨p5,0,none⟩),.pointer (some ⟨p6,0,none⟩)]]) (fun w h=>by
   obtain ⟨h1,h2,h3⟩:=h
   have q0:=C9 h3 0
   have q1:=C9 h3 1
   go_simp;try rfl) ?_
  refine Mixed.mo rfl (.agg #[.string s,.slice Af lf capf]) (fun w h=>by
   obtain ⟨h1,h2,h3⟩:=h
   have q0:=C9 h1 0
   have q1:=C9 h1 1
   go_simp;try rfl) ?_
  have n1:=vnum_any x (.agg #[.func (.func 125) #[] #[.pointer (some ⟨p1,0,none⟩)],.func (.func 127) #[] #[.pointer (some ⟨p2,0,none⟩),.pointer (some ⟨p3,0,none⟩)]]) s Af capf lf C HLF.out CL.out w6 X3.out Q5.out
  refine Mixed.wpMix_loudG rfl (by kernel_rfl) ?_
  go_wp2_with fail
  refine n1.mono ?_
  rintro e w7 ⟨rfl,hb⟩
  have K7:Hid (w7.heap[b]?=some (.cells #[.string s,.slice Af lf capf] 24 (0,0))∧w7.heap[c]?=some (.cells #[.func (.func 125) #[] #[.pointer (some ⟨p1,0,none⟩)],.func (.func 127) #[] #[.pointer (some ⟨p2,0,none⟩),.pointer (some ⟨p3,0,none⟩)]] 118 (0,0))∧w7.heap[c+1]?=some (.cells #[.func (.func 125) #[] #[.pointer (some ⟨p4,0,none⟩)],.func (.func 127) #[] #[.pointer (some ⟨p5,0,none⟩),.pointer (some ⟨p6,0,none⟩)]] 118 (0,0))):=⟨(hb.block _ (by omega)).trans KK.out.1,(hb.block _ (by omega)).trans KK.out.2.1,(hb.block _ (by omega)).trans KK.out.2.2⟩
  have n2:=vnum_any y (.agg #[.func (.func 125) #[] #[.pointer (some ⟨p4,0,none⟩)],.func (.func 127) #[] #[.pointer (some ⟨p5,0,none⟩),.pointer (some ⟨p6,0,none⟩)]]) s Af capf lf C HLF.out CL.out w7 (X4.out.below hb) (Q5.out.below hb)
  have B7:Hid (Below n w w7):=B5.out.trans (hb.mono (by omega))
  have s7:c+2≤w7.heap.size:=by have:=hb.size;omega
  clear hb n1 KK Q5 X3 X4 B5 z6
  go_wp2
  refine ⟨K7.out,?_⟩
  refine Mixed.wpMix_loudG rfl (by kernel_rfl) ?_
  go_wp2_with fail
  refine n2.mono ?_
  rintro e w8 ⟨rfl,hb⟩
  have K8:Hid (w8.heap[b]?=some (.cells #[.string s,.slice Af lf capf] 24 (0,0))∧w8.heap[c]?=some (.cells #[.func (.func 125) #[] #[.pointer (some ⟨p1,0,none⟩)],.func (.func 127) #[] #[.pointer (some ⟨p2,0,none⟩),.pointer (some ⟨p3,0,none⟩)]] 118 (0,0))∧w8.heap[c+1]?=some (.cells #[.func (.func 125) #[] #[.pointer (some ⟨p4,0,none⟩)],.func (.func 127) #[] #[.pointer (some ⟨p5,0,none⟩),.pointer (some ⟨p6,0,none⟩)]] 118 (0,0))):=⟨(hb.block _ (by omega)).trans K7.out.1,(hb.block _ (by omega)).trans K7.out.2.1,(hb.block _ (by omega)).trans K7.out.2.2⟩
  have B8:Hid (Below n w w8):=B7.out.trans (hb.mono (by omega))
  clear hb n2 B7 K7
  go_wp2
  refine ⟨K8.out,?_⟩
  simp only [Mixed.wpMix,List.drop_succ_cons,List.drop_zero]
  go_wp2
  refine bodyPost_ret (v:=.tuple #[.int .i64 (numV x.1 C),.int .i64 (numV y.1 C)]) ?_ rfl ?_
  ·simp [results,Tryz.results38,go_sem]
  ·refine ⟨?_,by rw [HN.out];exact B8.out⟩
   rw [VV.out]
   simp
end Go.Proofs.YtclhaejdjogfbaaGreatDoor
namespace Go.Proofs.YtclhaejdjogfbaaGreatDoor
open Go.RowKit Go.ChangeShapes Go.WideShapes Go.Deep
section
variable {H:Type} {enc:TypeId×Value→H} {w:World} {spare:Nat→Bool} {fuel:Nat}
end
end Go.Proofs.YtclhaejdjogfbaaGreatDoor
namespace Go.Proofs.YtclhaejdjogfbaaGreatDoor
open Go.RowKit Go.ChangeShapes Go.WideShapes Go.Deep
structure Ie where
 s:ByteArray
 A:Option Addr
 cap:Nat
 L:List Tr
instance:Inhabited Ie:=⟨⟨⟨#[]⟩,none,0,[]⟩⟩
def Ie.v (r:Ie):Value:=.slice r.A r.L.length r.cap
section
variable {H:Type} {enc:TypeId×Value→H} {w:World} {spare:Nat→Bool} {fuel:Nat}
end
theorem OwnT.kept {w w':World} {n g:Nat} {v:Value} {L:List Tr} {row:Option Nat} (h:OwnT w n v L) (k:w.grownBy w' row) (hr:∀ q,row=some q→∀ cur fz,w.heap[q]?≠some (.cells cur 56 fz)):OwnT w' n v L:=
 World.ownsRow.kept h k (by
  cases e:v.ownBlock with
  | none=>exact .inl rfl
  | some q=>
   refine .inr fun e'=>?_
   rcases h.2 with ⟨rfl,_⟩ | ⟨g',cap,cur,rfl,_,hg,_⟩
   ·simp [Value.ownBlock] at e
   ·simp only [Value.ownBlock,Option.some.injEq] at e
    subst e
    exact hr _ e'.symm _ _ hg)
end Go.Proofs.YtclhaejdjogfbaaGreatDoor
namespace Go.Proofs.YtclhaejdjogfbaaGreatDoor
open Go.RowKit Go.Shelf
attribute [local go_sem] Oper.semAt_some
def sT (s:ByteArray):Str:=s.data.toList
theorem sB_sT (s:ByteArray):sB (sT s)=s:=by
 obtain ⟨d⟩:=s
 show (⟨d.toList.toArray⟩:ByteArray)=⟨d⟩
 rw [Array.toArray_toList]
theorem sT_len (s:ByteArray):(sT s).length=s.size:=by unfold sT;rw [Array.length_toList];rfl
theorem codeF_ne (op:Str) (I C:List Tr):codeF op I C≠0:=by
 unfold codeF
 split
 ·assumption
 ·split <;> decide
theorem sfind2_any (s:ByteArray) (hs:s.size≤1000) (Ai:Option Addr) (capi li:Nat) (I:List Tr) (hli:I.length=li) (hLi:li≤900) (w:World) (hM:MaxAt w) (HF:OpsP w Ai I) :
  Calls Tryz.prog 18 #[.agg #[.string s,.slice Ai li capi]] w (RetSrch w (sT s) I (findK (sT s) (canL (opc s) I))):=by
 have h:=sfind_any (sT s) (by rw [sT_len];exact hs) Ai capi li I hli hLi w hM HF
 rw [sB_sT] at h
 exact h
end Go.Proofs.YtclhaejdjogfbaaGreatDoor
namespace Go.Proofs.YtclhaejdjogfbaaGreatDoor
open Go.RowKit
theorem code_split {s:ByteArray} {L:List Tr} (h:codeI s L=0):knB s=true∧L.length≤3∧∀ t∈L,vT t=true:=by
 unfold codeI at h
 split at h
 ·cases h
 ·rename_i h1
  split at h
  ·cases h
  ·rename_i h2
   split at h
   ·rename_i h3
    exact ⟨by simpa using h1,by omega,fun t ht=>List.all_eq_true.1 h3 t ht⟩
   ·cases h
end Go.Proofs.YtclhaejdjogfbaaGreatDoor
namespace Go.Proofs.YtclhaejdjogfbaaGreatDoor
open Go.RowKit Go.Shelf
theorem vT_of {a b:Tr} (hk:ks2 a=ks2 b) (ha:vT a=true) (hn:loK b.1.toNat≤b.2.2∧b.2.2≤hiK b.1.toNat):vT b=true:=by
 obtain ⟨k,r,n⟩:=a
 obtain ⟨k2,r2,n2⟩:=b
 unfold ks2 at hk
 simp only [Prod.mk.injEq] at hk
 obtain ⟨rfl,rfl⟩:=hk
 unfold vT vldB at ha ⊢
 simp only [Bool.and_eq_true,decide_eq_true_eq] at ha ⊢ hn
 exact ⟨ha.1,hn⟩
theorem vT_rng {a:Tr} (h:vT a=true):loK a.1.toNat≤a.2.2∧a.2.2≤hiK a.1.toNat:=by
 obtain ⟨k,r,n⟩:=a
 unfold vT vldB at h
 simp only [Bool.and_eq_true,decide_eq_true_eq] at h
 exact h.2
theorem with_rng {c:UInt8} {n:Int} (h:withR c n=true):(rangeR c).1≤n∧n≤(rangeR c).2:=by
 unfold withR at h
 unfold rangeR
 by_cases h1:c=100∨c=101
 ·rw [if_pos h1] at h ⊢
  simp only [Bool.and_eq_true,decide_eq_true_eq] at h
  exact h
 ·rw [if_neg h1] at h ⊢
  by_cases h2:c=110
  ·rw [if_pos h2] at h ⊢
   simp only [Bool.and_eq_true,decide_eq_true_eq] at h
   exact h
  ·rw [if_neg h2] at h ⊢
   simp only [Bool.and_eq_true,decide_eq_true_eq] at h
   exact h
theorem shape_get {A B:List Tr} (h:A.map ks2=B.map ks2) {k:Nat} (hk:k<B.length):ks2 (A.getD k tr0)=ks2 (B.getD k tr0):=by
 have hl:A.length=B.length:=by have:=congrArg List.length h;simpa using this
 have h1:(A.map ks2)[k]?=(B.map ks2)[k]?:=by rw [h]
 rw [List.getElem?_map,List.getElem?_map,List.getElem?_eq_getElem hk,List.getElem?_eq_getElem (by omega)] at h1
 rw [List.getD_eq_getElem?_getD,List.getD_eq_getElem?_getD,List.getElem?_eq_getElem hk,List.getElem?_eq_getElem (by omega)]
 exact Option.some.inj h1
theorem fits_valid {k:Ke} (ok:OkS k) {s:ByteArray} {C:List Tr} (h:fitsR k.2.2.1 k.2.2.2.1 k.2.2.2.2.1 s C=true):∀ t∈C,vT t=true:=by
 intro t ht
 unfold fitsR shpR at h
 simp only [Bool.and_eq_true,decide_eq_true_eq,List.all_eq_true,List.mem_range] at h
 obtain ⟨⟨-,hsh⟩,hall⟩:=h
 obtain ⟨j,hj,rfl⟩:=List.getElem_of_mem ht
 have hl:k.2.2.2.1.length=C.length:=by have:=congrArg List.length hsh;simpa using this
 have hg:=shape_get hsh hj
 have hC:C.getD j tr0=C[j]:=by rw [List.getD_eq_getElem?_getD,List.getElem?_eq_getElem hj];rfl
 have hL:k.2.2.2.1.getD j tr0=k.2.2.2.1[j]'(by omega):=by rw [List.getD_eq_getElem?_getD,List.getElem?_eq_getElem (by omega)];rfl
 have hv:=(code_split ok.code).2.2 _ (List.getElem_mem (l:=k.2.2.2.1) (n:=j) (by omega))
 have hf:=hall j hj
 have hr:=ok.rng
 unfold rngB at hr
 have hr:=List.all_eq_true.1 hr j (List.mem_range.2 (by omega))
 rw [hC,hL] at hg
 rw [hL] at hr
 have hkd:(k.2.2.2.1[j]'(by omega)).1=C[j].1:=congrArg (fun q:Int×Int=>q.1) hg
 unfold fitT at hf
 rw [hC,hL] at hf
 refine vT_of hg hv ?_
 have hvr:=vT_rng hv
 rw [hkd] at hvr hr
 by_cases hz:letR k.2.2.2.2.1 k.2.2.2.1 j=0
 ·rw [if_pos hz,decide_eq_true_eq] at hf
  rw [hf] at hvr
  exact hvr
 ·rw [if_neg hz] at hf
  have hw:=with_rng hf
  simp only [Bool.or_eq_true,beq_iff_eq,Bool.and_eq_true,decide_eq_true_eq] at hr
  rcases hr with hr | hr
  ·exact absurd hr hz
  ·omega
theorem fst_shape {A B:List Tr} (h:A.map ks2=B.map ks2):A.any fstB=B.any fstB:=by
 have e:∀ L:List Tr,L.any fstB=(L.map ks2).any fun q=>fstB (q.1,q.2,0):=fun L=>by rw [List.any_map];rfl
 rw [e,e,h]
theorem ix_shape {A B:List Tr} (h:A.map ks2=B.map ks2):ixL2 A=ixL2 B:=by
 have e:∀ L:List Tr,ixL2 L=(L.map ks2).foldl (fun a q=>max a (ixT (q.1,q.2,0))) 0:=fun L=>by rw [List.foldl_map];rfl
 rw [e,e,h]
theorem ix_valid:∀ (L:List Tr) (a:Int),(∀ t∈L,vT t=true)→L.foldl (fun a t=>max a (idxI t.1 t.2.1 t.2.2)) a=L.foldl (fun a t=>max a (ixT t)) a
 | [],_,_=>rfl
 | t :: L,a,h=>by
  rw [List.foldl_cons,List.foldl_cons,ixT_idx (h t (List.mem_cons_self ..))]
  exact ix_valid L _ fun u hu=>h u (List.mem_cons_of_mem _ hu)
theorem ixC_eq {C:List Tr} (h:∀ t∈C,vT t=true):ixC C=ixL2 C:=by
 unfold ixC ixF ixL2
 rw [List.take_length]
 exact ix_valid C 0 h
theorem sT_sB (m:Str):sT (sB m)=m:=by unfold sT sB;simp
end Go.Proofs.YtclhaejdjogfbaaGreatDoor
namespace Go.Proofs.YtclhaejdjogfbaaGreatDoor
open Go.RowKit Go.Shelf
attribute [local go_sem] Oper.semAt_some
end Go.Proofs.YtclhaejdjogfbaaGreatDoor
namespace Go.Proofs.YtclhaejdjogfbaaGreatDoor
open Go.RowKit Go.Shelf
def ltK (a b:Ke):Prop:=a.1<b.1∨(a.1=b.1∧a.2.1<b.2.1)
theorem ltK.irrefl {a:Ke} (h:ltK a a):False:=by rcases h with h | ⟨-,h⟩ <;> omega
theorem ltK.asymm {a b:Ke} (h:ltK a b) (k:ltK b a):False:=by
 rcases h with h | ⟨h1,h2⟩ <;> rcases k with k | ⟨k1,k2⟩ <;> omega
theorem ents_lt {page:Int}:∀ K:Nat,∀ y∈entsR page K,y.2.1<(K:Int)
 | 0,y,hy=>by cases hy
 | K+1,y,hy=>by
  have ih:=ents_lt (page:=page) K
  unfold entsR at hy
  cases hx:ratT page K with
  | none=>rw [hx] at hy;have:=ih y hy;omega
  | some x=>
   rw [hx] at hy
   rcases List.mem_append.1 hy with h | h
   ·have:=ih y h;omega
   ·obtain rfl:=List.mem_singleton.1 h
    simp only
    omega
theorem ents_sorted (page:Int):∀ K:Nat,K≤256→(entsR page K).Pairwise ltK
 | 0,_=>List.Pairwise.nil
 | K+1,hK=>by
  have ih:=ents_sorted page K (by omega)
  unfold entsR
  cases hx:ratT page K with
  | none=>exact ih
  | some x=>
   refine List.pairwise_append.2 ⟨ih,List.pairwise_singleton _ _,fun a ha b hb=>?_⟩
   obtain rfl:=List.mem_singleton.1 hb
   exact .inr ⟨(ents_in page K (by omega) a ha).1,ents_lt K a ha⟩
theorem pages_sorted {l:List Int} (hl:l.Pairwise (· < ·)) (p:Ke→Bool):(l.flatMap fun g=>(entsR g 256).filter p).Pairwise ltK:=by
 refine List.pairwise_flatMap.2 ⟨fun a _=>(ents_sorted a 256 (Nat.le_refl _)).filter _,hl.imp fun {a b} hab x hx y hy=>?_⟩
 have h1:=(ents_in a 256 (Nat.le_refl _) x (List.mem_filter.1 hx).1).1
 have h2:=(ents_in b 256 (Nat.le_refl _) y (List.mem_filter.1 hy).1).1
 exact .inl (by omega)
theorem pagesC_sorted (C:List Tr):(pagesC C).Pairwise (· < ·):=by
 unfold pagesC
 split
 ·decide
 ·split <;> decide
theorem candK_sorted (op:Str) (C:List Tr):(candK op C).Pairwise ltK:=by
 have e:candK op C=((pagesC C).flatMap fun p=>(entsR p 256).filter fun e=>decide (e.2.2.1=op)).filter (shpE C):=by
  unfold candK candP keysAll
  rw [show (keysPg fun m=>decide (m=op))=fun p=>(entsR p 256).filter fun e=>decide (e.2.2.1=op) from funext fun p=>keysPg_named op p]
 rw [e]
 exact (pages_sorted (pagesC_sorted C) _).filter _
theorem sorted_ext:∀ {l1 l2:List Ke},l1.Pairwise ltK→l2.Pairwise ltK→(∀ x,x∈l1↔x∈l2)→l1=l2
 | [],[],_,_,_=>rfl
 | [],b :: l2,_,_,h=>by have:=(h b).2 (List.mem_cons_self ..);cases this
 | a :: l1,[],_,_,h=>by have:=(h a).1 (List.mem_cons_self ..);cases this
 | a :: l1,b :: l2,h1,h2,h=>by
  obtain ⟨a1,a2⟩:=List.pairwise_cons.1 h1
  obtain ⟨b1,b2⟩:=List.pairwise_cons.1 h2
  have hab:a=b:=by
   rcases List.mem_cons.1 ((h a).1 (List.mem_cons_self ..)) with e | e
   ·exact e
   ·rcases List.mem_cons.1 ((h b).2 (List.mem_cons_self ..)) with e2 | e2
    ·exact e2.symm
    ·exact absurd (a1 b e2) fun q=>q.asymm (b1 a e)
  subst hab
  rw [sorted_ext a2 b2 fun x=>⟨fun hx=>by
    rcases List.mem_cons.1 ((h x).1 (List.mem_cons_of_mem _ hx)) with e | e
    ·subst e;exact absurd (a1 _ hx) ltK.irrefl
    ·exact e,fun hx=>by
    rcases List.mem_cons.1 ((h x).2 (List.mem_cons_of_mem _ hx)) with e | e
    ·subst e;exact absurd (b1 _ hx) ltK.irrefl
    ·exact e⟩]
theorem cand_pg {op:Str} {C:List Tr} {k:Ke} (h:k∈candK op C):fstI C≤k.1∧k.1≤lstI C:=by
 obtain ⟨hin,-,hsh,-⟩:=cand_in h
 have ok:=hin.ok
 have hfst:=ok.fst
 rw [fst_shape hsh] at hfst
 have hlo:=ok.lo
 have hhi:=ok.hi
 constructor
 ·unfold fstI
  rw [hfst]
  by_cases h:3≤k.1
  ·simp [h]
  ·simp [h];omega
 ·unfold lstI
  rw [hfst]
  by_cases h:3≤k.1
  ·simp [h];omega
  ·simp [h];omega
theorem shp_cand {s:ByteArray} {C:List Tr} (hv:∀ t∈C,vT t=true) {page:Int} {n:Nat} (hn:n<256) {x:En} (hr:ratT page n=some x) (h:shpR x.1 x.2.1 s C=true):(page,(n:Int),x.1,x.2.1,x.2.2.1,x.2.2.2)∈candK (sT s) C:=by
 have hin:InTab (page,(n:Int),x.1,x.2.1,x.2.2.1,x.2.2.2):=⟨n,hn,rfl,hr⟩
 have ok:=hin.ok
 unfold shpR at h
 simp only [Bool.and_eq_true,decide_eq_true_eq] at h
 obtain ⟨hm,hsh⟩:=h
 have hix:=ok.ix
 rw [ix_shape hsh,← ixC_eq hv] at hix
 have hlo:=ok.lo
 have hhi:=ok.hi
 simp only at hix hlo hhi
 have hpg:page∈pagesC C:=by
  unfold pagesC
  rw [hix]
  unfold pgIx
  have hp:page=0∨page=1∨page=2∨page=3∨page=4∨page=5∨page=6:=by omega
  rcases hp with rfl | rfl | rfl | rfl | rfl | rfl | rfl <;> decide
 exact in_cand hin (by rw [← hm,sT_sB]) hsh hpg
theorem fits_shp {m ex:Str} {L:List Tr} {s:ByteArray} {C:List Tr} (h:fitsR m L ex s C=true):shpR m L s C=true:=by
 unfold fitsR at h
 exact (Bool.and_eq_true_iff.1 h).1
theorem hasK_fits {k:Ke} (hk:InTab k) (s:ByteArray) (C:List Tr):hasK (sT s) C k=fitsR k.2.2.1 k.2.2.2.1 k.2.2.2.2.1 s C:=by
 unfold hasK
 rw [has_fits hk.ok.places,sB_sT]
def allK (op:Str) (C:List Tr):List Ke:=(candK op C).filter (hasK op C)
def pgR (C:List Tr):List Int:=if C.any fstB=true then [3,4,5,6] else [0,1,2]
def allR (s:ByteArray) (C:List Tr):List Ke:=(pgR C).flatMap fun p=>(entsR p 256).filter fun k=>fitsR k.2.2.1 k.2.2.2.1 k.2.2.2.2.1 s C
theorem pgR_iff (C:List Tr) (p:Int):p∈pgR C↔fstI C≤p∧p≤lstI C:=by
 unfold pgR fstI lstI
 by_cases h:C.any fstB=true
 ·simp only [h,if_true,List.mem_cons,List.not_mem_nil,or_false]
  omega
 ·simp only [h,Bool.false_eq_true,if_false,List.mem_cons,List.not_mem_nil,or_false]
  omega
theorem all_same (s:ByteArray) (C:List Tr):allK (sT s) C=allR s C:=by
 refine sorted_ext ((candK_sorted _ _).filter _) (pages_sorted (by unfold pgR;split <;> decide) _) fun k=>?_
 constructor
 ·intro h
  obtain ⟨q1,q2⟩:=List.mem_filter.1 h
  have q3:=(cand_in q1).1
  rw [hasK_fits q3] at q2
  refine List.mem_flatMap.2 ⟨k.1,(pgR_iff C k.1).2 (cand_pg q1),List.mem_filter.2 ⟨in_ents q3 256 ?_,q2⟩⟩
  obtain ⟨n,hn,e,-⟩:=q3
  omega
 ·intro h
  obtain ⟨p,hp,h⟩:=List.mem_flatMap.1 h
  obtain ⟨h1,h2⟩:=List.mem_filter.1 h
  have hin:=(ents_in p 256 (Nat.le_refl _) k h1).2
  have hv:=fits_valid hin.ok h2
  refine List.mem_filter.2 ⟨?_,by rw [hasK_fits hin];exact h2⟩
  obtain ⟨n,hn,e1,e2⟩:=hin
  have:=shp_cand hv hn e2 (fits_shp h2)
  obtain ⟨g,o,m,L,ex,al⟩:=k
  simp only at e1 this
  subst e1
  exact this
end Go.Proofs.YtclhaejdjogfbaaGreatDoor
namespace Go.Proofs.YtclhaejdjogfbaaGreatDoor
open Go.RowKit Go.Shelf
attribute [local go_sem] Oper.semAt_some
def opsF (A:Option Addr) (L:List Tr):Fr.F:=⟨fun w=>OpsP w A L,fun h hb=>h.below hb⟩
def encI (s:ByteArray) (I:List Tr):Option Str:=(findK (sT s) (canL (opc s) I)).map fun k=>encB k.1 k.2.1 k.2.2.2.2.1 (valV k.2.2.1 k.2.2.2.1 k.2.2.2.2.1 s (canL (opc s) I)).1 (valV k.2.2.1 k.2.2.2.1 k.2.2.2.2.1 s (canL (opc s) I)).2
def codeE (s:ByteArray) (I:List Tr):Int:=if (encI s I).isSome then 0 else codeF (sT s) I (canL (opc s) I)
def RetEnc (w:World) (s:ByteArray) (I:List Tr) (e:Ending) (w':World):Prop:=∃ A cap,e=.returned (.tuple #[.slice A ((encI s I).getD []).length cap,.int .i64 (codeE s I)])∧TOwnB w' w.heap.size (.slice A ((encI s I).getD []).length cap) ((encI s I).getD [])∧Below w.heap.size w w'
theorem has_fill2 {m ex:Str} {L:List Tr} {s:ByteArray} {C:List Tr} (h:hasV m L ex s C=true):fillV ex L (valV m L ex s C).1 (valV m L ex s C).2=some C:=by
 have e:valV m L ex s C=(numV (varsV ex).1.1 C,numV (varsV ex).2.1 C):=by unfold valV;rw [if_pos h]
 rw [e]
 unfold hasV at h
 cases hf:fillV ex L (numV (varsV ex).1.1 C) (numV (varsV ex).2.1 C) with
 | none=>rw [hf] at h;cases h
 | some L2=>
  rw [hf] at h
  simp only [Bool.and_eq_true,decide_eq_true_eq] at h
  simp only [hf,h.2]
end Go.Proofs.YtclhaejdjogfbaaGreatDoor
namespace Go.Proofs.YtclhaejdjogfbaaGreatDoor
open Go.RowKit Go.Shelf
end Go.Proofs.YtclhaejdjogfbaaGreatDoor
namespace Go.Proofs.YtclhaejdjogfbaaGreatDoor
def hashN (m:Str) (L:List Tr):Nat:=L.foldl (fun h x=>((h*31+x.1.toNat)*31+x.2.1.toNat)*131+x.2.2.toNat) (m.foldl (fun h c=>h*257+c.toNat) 1)
def keyN (i:Nat):Nat:=(match atN (i / 256) (i % 256) with
 | some x=>if x.2.2.2 then 2*i else 2*hashN x.1 x.2.1+1
 | none=>2*i) % 120122
def bitsB (f:Nat→Nat):Nat→Nat→Nat→Bool
 | 0,_,_=>true
 | n+1,i,acc=>!acc.testBit (f i)&&bitsB f n (i+1) (acc ||| 2 ^ f i)
theorem keys_bits:bitsB keyN 1792 0 0=true:=by decide +kernel
theorem bits_inj (f:Nat→Nat):∀ (n i acc:Nat),bitsB f n i acc=true→(∀ j,i≤j→j<i+n→acc.testBit (f j)=false)∧∀ j k,i≤j→j<k→k<i+n→f j≠f k
 | 0,i,acc,_=>⟨fun j h1 h2=>by omega,fun j k h1 h2 h3=>by omega⟩
 | n+1,i,acc,h=>by
  unfold bitsB at h
  simp only [Bool.and_eq_true,Bool.not_eq_true'] at h
  obtain ⟨h1,h2⟩:=h
  obtain ⟨i1,i2⟩:=bits_inj f n (i+1) _ h2
  refine ⟨fun j hj hk=>?_,fun j k hj hjk hk=>?_⟩
  ·by_cases e:j=i
   ·rw [e];exact h1
   ·have h3:=i1 j (by omega) (by omega)
    rw [Nat.testBit_or,Bool.or_eq_false_iff] at h3
    exact h3.1
  ·by_cases e:j=i
   ·subst e
    have h3:=i1 k (by omega) (by omega)
    rw [Nat.testBit_or,Bool.or_eq_false_iff] at h3
    intro e2
    rw [← e2,Nat.testBit_two_pow_self] at h3
    exact absurd h3.2 (by decide)
   ·exact i2 j k (by omega) hjk (by omega)
theorem key_inj (i j:Nat) (hi:i<1792) (hj:j<1792) (h:keyN i=keyN j):i=j:=by
 have hb:=(bits_inj keyN 1792 0 0 keys_bits).2
 rcases Nat.lt_trichotomy i j with h1 | h1 | h1
 ·exact absurd h (hb i j (Nat.zero_le _) h1 (by omega))
 ·exact h1
 ·exact absurd h.symm (hb j i (Nat.zero_le _) h1 (by omega))
theorem once (P Q a b:Nat) (hP:P<7) (hQ:Q<7) (ha:a<256) (hb:b<256) (x y:En) (hx:atT P (a:Int)=some x) (hy:atT Q (b:Int)=some y) (ax:x.2.2.2=false) (ay:y.2.2.2=false) (e1:x.1=y.1) (e2:x.2.1=y.2.1):P=Q∧a=b:=by
 rw [atN_eq P a ha] at hx
 rw [atN_eq Q b hb] at hy
 have k:∀ (p n:Nat) (z:En),n<256→atN p n=some z→z.2.2.2=false→keyN (p*256+n)=(2*hashN z.1 z.2.1+1) % 120122:=fun p n z hn hz hal=>by
  unfold keyN
  rw [show (p*256+n) / 256=p by omega,show (p*256+n) % 256=n by omega,hz]
  simp only [hal]
  rfl
 have e:=key_inj (P*256+a) (Q*256+b) (by omega) (by omega) (by rw [k P a x ha hx ax,k Q b y hb hy ay,e1,e2])
 omega
end Go.Proofs.YtclhaejdjogfbaaGreatDoor
namespace Go.Proofs.YtclhaejdjogfbaaGreatDoor
open Go.RowKit Go.Shelf
attribute [local go_sem] Oper.semAt_some
def BsP (w:World) (A:Option Addr) (Ls:List Str):Prop:=Ls=[]∨∃ b off,A=some ⟨b,off,none⟩∧∀ k (h:k<Ls.length),∃ Ak ck,w.cell? ⟨b,off+k,none⟩=some (.slice Ak Ls[k].length ck)∧BytesAt w Ak Ls[k]
theorem BsP.below {w w':World} {A:Option Addr} {Ls:List Str} (h:BsP w A Ls) (hb:Below w.heap.size w w'):BsP w' A Ls:=by
 rcases h with rfl | ⟨b,off,rfl,hc⟩
 ·exact .inl rfl
 ·refine .inr ⟨b,off,rfl,fun k hk=>?_⟩
  obtain ⟨Ak,ck,h1,h2⟩:=hc k hk
  exact ⟨Ak,ck,(hb.cell (World.block_lt_of_cell? w _ h1)).trans h1,h2.below hb⟩
theorem BsP.at_ {w:World} {A:Option Addr} {Ls:List Str} (h:BsP w A Ls) {k:Nat} (hk:k<Ls.length):∃ b off Ak ck,A=some ⟨b,off,none⟩∧w.cell? ⟨b,off+k,none⟩=some (.slice Ak Ls[k].length ck)∧BytesAt w Ak Ls[k]:=by
 rcases h with rfl | ⟨b,off,rfl,hc⟩
 ·simp at hk
 ·obtain ⟨Ak,ck,h1,h2⟩:=hc k hk
  exact ⟨b,off,Ak,ck,rfl,h1,h2⟩
end Go.Proofs.YtclhaejdjogfbaaGreatDoor
namespace Go.Proofs.YtclhaejdjogfbaaGreatDoor
open Go.RowKit Go.Shelf
structure Be where
 A:Option Addr
 cap:Nat
 xs:Str
def Be.v (r:Be):Value:=.slice r.A r.xs.length r.cap
def cellsS (R:List Be):List Value:=R.map Be.v
theorem info_bs:(Tryz.prog.info? 25).map (fun i=>(i.zero,i.size,i.bytes))=some (some (.slice none 0 0),1,24):=by kernel_rfl
def OwnBR (w:World) (n:Nat) (v:Value) (R:List Be):Prop:=w.ownsRow n 25 1 v R.length (cellsS R)∧∀ r∈R,TOwnB w n r.v r.xs
theorem ownBR_nil (w:World) (n:Nat):OwnBR w n (.slice none 0 0) []:=⟨World.ownsRow_nil _ _ _ _,fun r hr=>absurd hr List.not_mem_nil⟩
theorem OwnBR.below {w w':World} {n:Nat} {v:Value} {R:List Be} (h:OwnBR w n v R) (k:Below w.heap.size w w'):OwnBR w' n v R:=
 ⟨World.ownsRow.kept h.1 (row:=none) ⟨k.os,k.tape,k.output,k.size,fun i hi _=>k.block i hi⟩ (by
  cases e:v.ownBlock with
  | none=>exact .inl rfl
  | some g=>exact .inr (by simp)),fun r hr=>(h.2 r hr).below k⟩
theorem OwnBR.lift {w:World} {n m:Nat} {v:Value} {R:List Be} (h:OwnBR w n v R) (k:m≤n):OwnBR w m v R:=⟨row_mono h.1 k,fun r hr=>(h.2 r hr).lift k⟩
theorem OwnBR.bs {w:World} {n:Nat} {v:Value} {R:List Be} (h:OwnBR w n v R):∃ A cap,v=.slice A R.length cap∧BsP w A (R.map Be.xs):=by
 rcases h.1.2 with ⟨rfl,h0⟩ | ⟨g,cap,cur,rfl,_,_,_⟩
 ·have:R=[]:=List.eq_nil_of_length_eq_zero h0
  subst this
  exact ⟨none,0,rfl,.inl rfl⟩
 ·refine ⟨_,cap,rfl,.inr ⟨g,0,rfl,fun k hk=>?_⟩⟩
  have hk':k<R.length:=by simpa using hk
  obtain ⟨A',c',e,hP⟩:=(h.2 _ (List.getElem_mem hk')).bytes
  have e2:(R.map Be.xs)[k]=R[k].xs:=by simp
  rw [e2]
  refine ⟨A',c',?_,hP⟩
  rw [Nat.zero_add,World.ownsRow.cellAt h.1 k (by omega)]
  unfold cellsS
  rw [List.getElem?_map,List.getElem?_eq_getElem hk',← e]
  rfl
theorem own_typesB {w:World} {n:Nat} {u:Value} {xs:Str} (h:TOwnB w n u xs) {g:Nat} (e:u.ownBlock=some g):∃ cur,w.heap[g]?=some (.cells cur 5 (0,0)):=by
 rcases h.2 with ⟨rfl,_⟩ | ⟨g',cap,cur',rfl,_,hg,_⟩
 ·simp [Value.ownBlock] at e
 ·simp only [Value.ownBlock,Option.some.injEq] at e
  subst e
  exact ⟨_,hg⟩
theorem run_appBR (w:World) (B:Nat) (v:Value) (R:List Be) (h:OwnBR w B v R) (r:Be) (b:Nat) (hc:w.cell? ⟨b,0,none⟩=some r.v) (hO:TOwnB w B r.v r.xs) (c:Nat) (hB:B≤w.heap.size) (hs:R.length+1≤100000) :
  ∃ v' w',(Builtin.append_ #[40,40] 40 #[v,.slice (some ⟨b,0,none⟩) 1 c]).run Tryz.prog w=.ok v' w'∧OwnBR w' B v' (R++[r])∧Below B w w'∧w.grownBy w' v.ownBlock:=by
 obtain ⟨i0,hi,hz0,hz1,hz2⟩:=info_parts info_bs
 obtain ⟨v',w',k1,k2,k3⟩:=run_append_src w B 40 40 25 i0 _ 1 24 Tryz.underlying40 hi hz0 hz1 hz2 rfl (by decide) v R.length (cellsS R) h.1 (some ⟨b,0,none⟩) 1 c [r.v]
  rfl (.inr ⟨_,rfl,fun j u hu=>by
   match j,hu with
   | 0,hu=>simp at hu;subst hu;simpa [Addr.add] using hc⟩) (fun u hu=>by obtain rfl:=List.mem_singleton.1 hu;rfl) (by unfold maxLen;omega) (by omega) hB
 have hty:∀ q,v.ownBlock=some q→∀ cur fz,w.heap[q]?≠some (.cells cur 5 fz):=fun q hq cur fz hx=>by
  rcases h.1.2 with ⟨rfl,_⟩ | ⟨g',cap,cur',rfl,_,hg,_⟩
  ·simp [Value.ownBlock] at hq
  ·simp only [Value.ownBlock,Option.some.injEq] at hq
   subst hq
   rw [hx] at hg
   simp at hg
 have kept:∀ {u:Value} {xs:Str},TOwnB w B u xs→TOwnB w' B u xs:=fun {u xs} ho=>World.ownsRow.kept ho k3 (by
  cases e:u.ownBlock with
  | none=>exact .inl rfl
  | some q=>
   refine .inr fun e'=>?_
   obtain ⟨cur,hc⟩:=own_typesB ho e
   exact hty q e'.symm _ _ hc)
 refine ⟨v',w',k1,⟨?_,fun r' hr=>?_⟩,(Below.refl B w).grown k3 hB fun k hk=>(World.ownsRow.lt h.1 k hk).1,k3⟩
 ·unfold cellsS
  rw [List.map_append,List.length_append]
  exact k2
 ·rcases List.mem_append.1 hr with hr | hr
  ·exact kept (h.2 r' hr)
  ·obtain rfl:=List.mem_singleton.1 hr
   exact kept hO
theorem wpList_appBR {wr:World} {B:Nat} {v:Value} {R:List Be} (h:OwnBR wr B v R) (r:Be) (b:Nat) (hc:wr.cell? ⟨b,0,none⟩=some r.v) (hO:TOwnB wr B r.v r.xs) {c:Nat} (hB:B≤wr.heap.size) (hs:R.length+1≤100000) {ops:Array Oper} {rest:List Oper} {o:Oper} {a:Act} {Q:Exit→Act→World→Prop} (hgd:o.guard=none) (s x:Operand)
  (ho:o.op=.call {callee:=.builtin .append,args:=#[s,x],argTypes:=#[40,40]}) (hty:o.type=40) (hsv:a.eval s=v) (hx:a.eval x=.slice (some ⟨b,0,none⟩) 1 c)
  (k:∀ A' cap' w1,OwnBR w1 B (.slice A' (R++[r]).length cap') (R++[r])→Below B wr w1→wpList Tryz.prog ops Q rest (a.put o.dst (.slice A' (R++[r]).length cap')) w1):wpList Tryz.prog ops Q (o :: rest) a wr:=by
 obtain ⟨v',w',k1,k2,k3,-⟩:=run_appBR wr B v R h r b hc hO c hB hs
 obtain ⟨A',cap',rfl,-⟩:=k2.bs
 exact wpList_run_append k1 hgd s x ho hty hsv hx (k A' cap' w' k2 k3)
end Go.Proofs.YtclhaejdjogfbaaGreatDoor
namespace Go.Proofs.YtclhaejdjogfbaaGreatDoor
open Go.RowKit Go.Shelf
attribute [local go_sem] Oper.semAt_some
def fitK (s:ByteArray) (C:List Tr) (k:Ke):Bool:=fitsR k.2.2.1 k.2.2.2.1 k.2.2.2.2.1 s C
def accR (s:ByteArray) (C:List Tr) (fs:Int) (i:Nat):List Ke:=(List.range i).flatMap fun (j:Nat)=>(entsR (fs+(j:Int)) 256).filter (fitK s C)
theorem accR_succ (s:ByteArray) (C:List Tr) (fs:Int) (i:Nat):accR s C fs (i+1)=accR s C fs i++(entsR (fs+(i:Int)) 256).filter (fitK s C):=by
 unfold accR
 rw [List.range_succ,List.flatMap_append]
 simp
theorem accR_all (s:ByteArray) (C:List Tr):accR s C (fstI C) (lstI C+1 - fstI C).toNat=allR s C:=by
 unfold accR allR pgR fstI lstI
 by_cases h:C.any fstB=true
 ·simp only [h,if_true]
  rfl
 ·simp only [h,Bool.false_eq_true,if_false]
  rfl
theorem ents_yes {page:Int} {k:Nat} {x:En} (hx:ratT page k=some x) (p:Ke→Bool):(entsR page (k+1)).filter p=(entsR page k).filter p++(if p (page,(k:Int),x.1,x.2.1,x.2.2.1,x.2.2.2)=true then [(page,(k:Int),x.1,x.2.1,x.2.2.1,x.2.2.2)] else []):=by
 rw [entsR,hx]
 simp only [List.filter_append,List.filter_cons,List.filter_nil]
theorem ents_no {page:Int} {k:Nat} (hx:ratT page k=none) (p:Ke→Bool):(entsR page (k+1)).filter p=(entsR page k).filter p:=by
 rw [entsR,hx]
theorem rall10_any (s:ByteArray) (hs:s.size≤1000) (Ai:Option Addr) (capi li:Nat) (I:List Tr) (hli:I.length=li) (hLi:li≤900) (w:World) (HF:OpsP w Ai I) :
  Calls Tryz.prog 31 #[.agg #[.string s,.slice Ai li capi]] w (RetEs w (allR s (canL (opc s) I))):=by
 have hof:=fun w h=>rof_any s Ai capi I (by omega) w h
 rw [hli] at hof
 have hcl:=canL_len (opc s) I
 have hfi:=fun page op m A cap l L (hl:List.length L=l) (hL:l≤1000) ex (hx:List.length ex≤1000) al w' h1 h2=>rfits10_any page op m A cap l L hl hL ex hx al s Ai capi li I hli hLi w' h1 h2
 obtain ⟨C,hC⟩:=N9 (canL (opc s) I)
 rw [hC] at hof hcl hfi ⊢
 obtain ⟨lc,hlc⟩:=N9 (C.length)
 have HLC:=J9 hlc
 have hLc:lc≤1000:=by omega
 obtain ⟨n,hn⟩:=N9 (w.heap.size)
 have HN:=J9 hn
 obtain ⟨b0,w0,hb0,hw0,S0,y0,z0⟩:=Fr.box (Fr.start w n hn) #[.string s,.slice Ai li capi] 24
 rw [hn] at hb0
 subst hb0
 have P0:=HF.below y0
 have HH:=J9 HF
 have of0:=hof w0 P0
 have FI:=J9 hfi
 obtain ⟨k0,k1⟩:=Fr.cells2 S0.out.1
 clear y0 hof hfi HF hC hcl P0
 go_enter Tryz.func31,Tryz.ntmps31
 go_wp2_with fail
 refine of0.mono ?_
 rintro e w1 ⟨v,rfl,hO,hb⟩
 obtain ⟨Ac,cc,rfl,hPc,-,-⟩:=hO.ops
 rw [HLC.out]
 have S1:=Fr.up S0 hb
 have R1:=J9 hPc
 clear of0 hb hO hPc k0 k1 hw0 z0 S0 hlc
 go_upto_region 3 with fail
 obtain ⟨b,w2,hbs,hw2,S2,y2,z2⟩:=Fr.box S1 #[.string s,.slice Ac lc cc] 24
 rw [hw2,hbs]
 have hnb:n+1≤b:=by have:=Fr.lt_of_blk S1.out.1;omega
 have f3:=first_any s Ac cc lc C HLC.out hLc w2 (R1.out.below y2)
 have LA:=J9 (fun w' h=>last_any s Ac cc lc C HLC.out hLc w' h)
 obtain ⟨k0,k1⟩:=Fr.cells2 S2.out.1
 have FB:=fstI_le C
 have LB:=lstI_le C
 obtain ⟨fs,hfs⟩:=N9 (fstI C)
 obtain ⟨ls,hls⟩:=N9 (lstI C)
 have HFS:=J9 hfs
 have HLS:=J9 hls
 rw [hfs] at f3 FB LB
 rw [hls] at LA LB
 clear hw2 hfs hls
 go_wp2_with fail
 refine f3.mono ?_
 rintro e w3 ⟨rfl,hb⟩
 have z3:b+1≤w3.heap.size:=by have:=hb.size;omega
 have bb:=y2.trans (hb.mono y2.size)
 have KEEP:Hid (∀ wr,Below (b+1) w3 wr→OpsP wr Ai I∧OpsP wr Ac C∧wr.heap[n]?=some (.cells #[.string s,.slice Ai li capi] 24 (0,0))∧wr.heap[b]?=some (.cells #[.string s,.slice Ac lc cc] 24 (0,0))∧Below n w wr):=fun wr h=>by
  have S3:=Fr.up S2 hb
  have hw:Below n w wr:=S3.out.2.2.1.1.trans (h.mono (by omega))
  refine ⟨HH.out.below (by rw [HN.out];exact hw),R1.out.below ((bb.mono (Nat.le_refl _)).trans (h.mono (by omega))),(h.block n (by omega)).trans S3.out.2.1,(h.block b (by omega)).trans S3.out.1,hw⟩
 clear hb f3 k0 k1 S1 S2 y2 z2 bb R1 HH
 have HI0:Hid (OwnXR w3 (b+1) (.slice none 0 0) []):=ownXR_nil _ _
 go_wp2
 go_loopw [5,3] (fun x v wr=>∃ (i:Nat) (A4:Option Addr) (cap4:Nat) (R:List Ee),fs+(i:Int)≤ls+1∧x=.int .i64 (fs+(i:Int))∧v=.slice A4 R.length cap4∧Hid (R.length≤256*i)∧Hid (OwnXR wr (b+1) (.slice A4 R.length cap4) R)∧Hid (R.map Ee.k=accR s C fs i)∧Hid (Below (b+1) w3 wr)∧Hid (b+1≤wr.heap.size)) (fun x _ _=>(7 - intOf x).toNat)
 case atStart=>exact ⟨0,none,0,[],by omega,by simp,rfl,Nat.zero_le _,HI0.out,by show _=_;rfl,Below.refl _ _,z3⟩
 case round=>
  clear HI0
  obtain ⟨i,A4,cap4,R,hi,rfl,rfl,RL,O,RK,BW,ZW⟩:=hrel
  obtain ⟨p1,p2,p3,p4,p5⟩:=KEEP.out wr BW.out
  obtain ⟨k0,k1⟩:=Fr.cells2 p4
  have la:=LA.out wr p2
  obtain ⟨rl,hrl⟩:=N9 (R.length)
  rw [hrl] at RL O ⊢
  have HRL:=J9 hrl
  obtain ⟨p,hp⟩:=N9 (fs+(i:Int))
  rw [hp] at hi ⊢
  clear p1 p2 p3 p4 p5 hrl
  go_wp2_with fail
  refine la.mono ?_
  rintro e w5 ⟨rfl,hb⟩
  have B5:Hid (Below (b+1) w3 w5):=BW.out.trans (hb.mono ZW.out)
  have Z5:Hid (b+1≤w5.heap.size):=Nat.le_trans ZW.out hb.size
  have O5:=J9 (O.out.below hb)
  clear la hb BW ZW O k0 k1
  by_cases hple:p≤ls
  ·go_wp2
   go_loopw [6,3] (fun x v wr=>∃ (k:Nat) (A4:Option Addr) (cap4:Nat) (R:List Ee),k≤256∧x=.int .i64 k∧v=.slice A4 R.length cap4∧Hid (R.length≤256*i+k)∧Hid (OwnXR wr (b+1) (.slice A4 R.length cap4) R)∧Hid (R.map Ee.k=accR s C fs i++(entsR p k).filter (fitK s C))∧Hid (Below (b+1) w3 wr)∧Hid (b+1≤wr.heap.size)) (fun x _ _=>256 - (intOf x).toNat)
   case atStart=>exact ⟨0,A4,cap4,R,Nat.zero_le _,rfl,by rw [HRL.out],by rw [HRL.out];exact RL.out,by rw [HRL.out];exact O5.out,by show _=_;rw [RK.out];simp [entsR],B5.out,Z5.out⟩
   case round=>
    clear B5 Z5 O5 RL RK HRL
    obtain ⟨k,A4,cap4,R,hk,rfl,rfl,RL,O,RK,BW,ZW⟩:=hrel
    obtain ⟨rl,hrl⟩:=N9 (R.length)
    rw [hrl] at RL O ⊢
    have HRL:=J9 hrl
    clear hrl
    by_cases hlt:k<256
    ·have hw8:IntKind.u8.wrap (k:Int)=k:=by rw [IntKind.wrap_u8];omega
     have at1:=rat_any p k hlt wr
     go_wp2_with fail
     refine at1.mono ?_
     rintro e w6 ⟨hres,hb⟩
     have B6:Hid (Below (b+1) w3 w6):=BW.out.trans (hb.mono ZW.out)
     have Z6:Hid (b+1≤w6.heap.size):=Nat.le_trans ZW.out hb.size
     have O6:=J9 (O.out.below hb)
     clear hw8 at1 BW O
     cases hx:ratT p k with
     | none=>
      rw [hx] at hres
      subst hres
      have hkd:=rkind_ne p k
      obtain ⟨kd,hkd2⟩:=N9 (rkindT p k)
      rw [hkd2] at hkd ⊢
      simp only [enV]
      have O7:=fun o=>J9 (O6.out.below (up_alloc w6 o))
      have B7:=fun o=>J9 (B6.out.trans ((up_alloc w6 o).mono Z6.out))
      have Z7:Hid (∀ o,b+1≤(w6.alloc o).heap.size):=fun o=>Nat.le_trans Z6.out (up_alloc w6 o).size
      have EN:=J9 (ents_no hx (fitK s C))
      clear hx hkd2 hb O6 B6 Z6
      go_wp2
      go_roundw
      case rel=>exact ⟨k+1,A4,cap4,R,by omega,by go_num,by rw [HRL.out],by rw [HRL.out];exact Nat.le_succ_of_le RL.out,by rw [HRL.out];exact (O7 _).out,by rw [EN.out];exact RK.out,(B7 _).out,Z7.out _⟩
      case measure=>simp [intOf];omega
     | some x=>
      have hkey:=(InTab.ok (k:=(p,(k:Int),x.1,x.2.1,x.2.2.1,x.2.2.2)) ⟨k,hlt,rfl,hx⟩)
      rw [hx] at hres
      obtain ⟨v,rfl,hO⟩:=hres
      obtain ⟨Ae,ce,rfl,hPe,-⟩:=hO.ops
      have EY:=J9 (ents_yes hx (fitK s C))
      have hex:=hkey.ex
      have hln:=hkey.len
      obtain ⟨m,Le,ex,al⟩:=x
      simp only at hex hln EY hPe hO ⊢
      have T6:Hid (OwnT w6 (b+1) (.slice Ae Le.length ce) Le):=hO.lift ZW.out
      obtain ⟨le,hle⟩:=N9 (Le.length)
      rw [hle] at hln T6 ⊢
      simp only [enV]
      have PE:=J9 hPe
      have HLE:=J9 hle
      clear hx hb hO hPe hle hkey ZW
      go_upto_region 10 with fail
      obtain ⟨be,hbe⟩:=N9 (w6.heap.size)
      obtain ⟨u,hu,y1,y2,-⟩:=ref_box w6 p k m (.slice Ae le ce) ex al be hbe
      rw [hu,hbe]
      have hbb:b+1≤be:=by have:=Z6.out;omega
      have BU:Hid (Below (b+1) w3 u):=B6.out.trans (y2.mono Z6.out)
      have ZU:Hid (b+1≤u.heap.size):=Nat.le_trans Z6.out y2.size
      have OU:=J9 (O6.out.below y2)
      have TU:=J9 (T6.out.below y2)
      have PU:=J9 (PE.out.below y2)
      obtain ⟨p1,-,p3,-,-⟩:=KEEP.out u BU.out
      have fi:=FI.out p k m Ae ce le Le HLE.out (by omega) ex (by omega) al u PU.out p1
      simp only [enV] at fi
      have EU:=J9 y1
      have IU:=J9 p3
      clear hu hbe y1 y2 O6 T6 PE B6 Z6 p1 p3
      obtain ⟨i0,i1,i2,i3,i4,i5⟩:=Fr.cells6 EU.out
      obtain ⟨j0,j1⟩:=Fr.cells2 IU.out
      have FK:Hid (fitK s C (p,(k:Int),m,Le,ex,al)=fitsR m Le ex s C):=rfl
      by_cases hms:sB m=s
      rotate_left
      ·have hq:=strB_ne hms
       have R2:Hid ((entsR p (k+1)).filter (fitK s C)=(entsR p k).filter (fitK s C)):=by
        show _=_
        rw [EY.out,if_neg (by rw [FK.out];unfold fitsR shpR;rw [decide_eq_false hms];simp),List.append_nil]
       clear fi hms EY FK
       go_wp2
       go_roundw
       case rel=>exact ⟨k+1,A4,cap4,R,by omega,by go_num,by rw [HRL.out],by rw [HRL.out];exact Nat.le_succ_of_le RL.out,by rw [HRL.out];exact OU.out,by rw [R2.out];exact RK.out,BU.out,ZU.out⟩
       case measure=>simp [intOf];omega
      ·subst hms
       have hq:=strB_eq (sB m)
       obtain ⟨fv,hfv⟩:=N9 (fitsR m Le ex (sB m) C)
       rw [hfv] at fi FK
       clear hfv
       go_wp2_with fail
       refine fi.mono ?_
       rintro e u2 ⟨rfl,hb⟩
       have BV:Hid (Below (b+1) w3 u2):=BU.out.trans (hb.mono ZU.out)
       have ZV:Hid (b+1≤u2.heap.size):=Nat.le_trans ZU.out hb.size
       have OV:=J9 (OU.out.below hb)
       have TV:=J9 (TU.out.below hb)
       have PV:=J9 (PU.out.below hb)
       have EV:=J9 ((hb.block be (Array.getElem?_eq_some_iff.1 EU.out).1).trans EU.out)
       clear fi hb BU ZU OU TU PU EU IU i0 i1 i2 i3 i4 i5 j0 j1 hq
       cases fv with
       | false=>
        have R2:Hid ((entsR p (k+1)).filter (fitK (sB m) C)=(entsR p k).filter (fitK (sB m) C)):=by
         show _=_
         rw [EY.out,if_neg (by rw [FK.out];simp),List.append_nil]
        clear EY FK
        go_wp2
        go_roundw
        case rel=>exact ⟨k+1,A4,cap4,R,by omega,by go_num,by rw [HRL.out],by rw [HRL.out];exact Nat.le_succ_of_le RL.out,by rw [HRL.out];exact OV.out,by rw [R2.out];exact RK.out,BV.out,ZV.out⟩
        case measure=>simp [intOf];omega
       | true=>
        obtain ⟨i0,i1,i2,i3,i4,i5⟩:=Fr.cells6 EV.out
        have ES:=es_oneR u2 ⟨p,k,m,Ae,ce,Le,ex,al⟩ PV.out
        simp only [Ee.v,HLE.out] at ES
        have hal:=up_alloc u2 (.cells #[.int .i64 p,.int .u8 k,.string (sB m),.slice Ae le ce,.string (sB ex),.bool al] 63)
        have O3:=J9 (OV.out.below hal)
        have T3:Hid (∀ r∈[(⟨p,k,m,Ae,ce,Le,ex,al⟩:Ee)],OwnT (u2.alloc (.cells #[.int .i64 p,.int .u8 k,.string (sB m),.slice Ae le ce,.string (sB ex),.bool al] 63)) (b+1) r.v r.L):=fun r hr=>by
         obtain rfl:=List.mem_singleton.1 hr
         have h:=TV.out.below hal
         simp only [Ee.v,HLE.out]
         exact h
        have B3:Hid (Below (b+1) w3 (u2.alloc (.cells #[.int .i64 p,.int .u8 k,.string (sB m),.slice Ae le ce,.string (sB ex),.bool al] 63))):=BV.out.trans (hal.mono ZV.out)
        have Z3:Hid (b+1≤(u2.alloc (.cells #[.int .i64 p,.int .u8 k,.string (sB m),.slice Ae le ce,.string (sB ex),.bool al] 63)).heap.size):=Nat.le_trans ZV.out hal.size
        have ES:=J9 ES
        have HK7:Hid ((R++[(⟨p,k,m,Ae,ce,Le,ex,al⟩:Ee)]).map Ee.k=accR (sB m) C fs i++(entsR p (k+1)).filter (fitK (sB m) C)):=by
         show _=_
         rw [List.map_append,EY.out,if_pos FK.out,RK.out,List.append_assoc]
         rfl
        have HL7:Hid ((R++[(⟨p,k,m,Ae,ce,Le,ex,al⟩:Ee)]).length≤256*i+(k+1)):=by show _≤_;rw [List.length_append,HRL.out];have:=RL.out;simp;omega
        have hi7:i≤7:=by omega
        clear hal OV TV PV EV BV ZV EY FK
        go_wp2_with (at_builtin;refine wpList_appXR O3.out ES.out T3.out Z3.out (by simp;have:=HRL.out;have:=RL.out;omega) rfl _ _ rfl rfl rfl 1 rfl rfl ?_;intro A7 c7 w7 hO7 hB7 hg7;have O7:=J9 hO7;have B7:=J9 (B3.out.trans hB7);have Z7:=J9 (Nat.le_trans Z3.out hB7.size);clear hO7 hB7 hg7)
        go_roundw
        case rel=>exact ⟨k+1,A7,c7,R++[(⟨p,k,m,Ae,ce,Le,ex,al⟩:Ee)],by omega,by go_num,by simp,HL7.out,O7.out,HK7.out,B7.out,Z7.out⟩
        case measure=>simp [intOf];omega
    ·obtain rfl:k=256:=by omega
     have RK2:Hid (R.map Ee.k=accR s C fs (i+1)):=by show _=_;rw [RK.out,accR_succ,hp]
     have RL2:Hid (R.length≤256*(i+1)):=by show _≤_;rw [HRL.out];have:=RL.out;omega
     clear RK RL
     go_wp2
     go_roundw
     case rel=>exact ⟨i+1,A4,cap4,R,by omega,by rw [← hp];go_num,by rw [HRL.out],RL2.out,by rw [HRL.out];exact O.out,RK2.out,BW.out,ZW.out⟩
     case measure=>simp [intOf];omega
  ·have RE:Hid (R.map Ee.k=allR s C):=by
    show _=_
    rw [RK.out,← accR_all,HFS.out,HLS.out]
    congr 1
    omega
   obtain ⟨-,-,-,-,p5⟩:=KEEP.out w5 B5.out
   have F:Hid (RetEs w (allR s C) (.returned (.slice A4 rl cap4)) w5):=by
    refine ⟨A4,cap4,R,by rw [HRL.out],by rw [HRL.out,HN.out];exact O5.out.lift (by omega),RE.out,by rw [HN.out];exact p5⟩
   clear p5 RK RE
   go_wp2
   go_ret
   exact F.out
end Go.Proofs.YtclhaejdjogfbaaGreatDoor
namespace Go.Proofs.YtclhaejdjogfbaaGreatDoor
open Go.RowKit Go.Shelf
attribute [local irreducible] Go.Mixed.wpMix
attribute [local go_sem] Oper.semAt_some
def encK (s:ByteArray) (C:List Tr) (k:Ke):Str:=encB k.1 k.2.1 k.2.2.2.2.1 (valV k.2.2.1 k.2.2.2.1 k.2.2.2.2.1 s C).1 (valV k.2.2.1 k.2.2.2.1 k.2.2.2.2.1 s C).2
theorem mem_allR {s:ByteArray} {C:List Tr} {k:Ke} (h:k∈allR s C):InTab k∧fitsR k.2.2.1 k.2.2.2.1 k.2.2.2.2.1 s C=true:=by
 unfold allR at h
 obtain ⟨p,-,h⟩:=List.mem_flatMap.1 h
 obtain ⟨h1,h2⟩:=List.mem_filter.1 h
 exact ⟨(ents_in p 256 (Nat.le_refl _) k h1).2,h2⟩
theorem allR_len (s:ByteArray) (C:List Tr):(allR s C).length≤2000:=by
 unfold allR
 have h:∀ p:Int,((entsR p 256).filter (fun k=>fitsR k.2.2.1 k.2.2.2.1 k.2.2.2.2.1 s C)).length≤256:=fun p=>by
  refine Nat.le_trans (List.length_filter_le _ _) ?_
  have:∀ K:Nat,(entsR p K).length≤K:=fun K=>by
   induction K with
   | zero=>exact Nat.le_refl _
   | succ K ih=>
    unfold entsR
    cases ratT p K with
    | none=>exact Nat.le_succ_of_le ih
    | some x=>rw [List.length_append];simp;exact ih
  exact this 256
 unfold pgR
 split
 ·simp only [List.flatMap_cons,List.flatMap_nil,List.length_append,List.length_nil]
  have:=h 3;have:=h 4;have:=h 5;have:=h 6
  omega
 ·simp only [List.flatMap_cons,List.flatMap_nil,List.length_append,List.length_nil]
  have:=h 0;have:=h 1;have:=h 2
  omega
def RetFo (w:World) (Ls:List Str) (e:Ending) (w':World):Prop:=∃ A cap R,e=.returned (.slice A R.length cap)∧OwnBR w' w.heap.size (.slice A R.length cap) R∧R.map Be.xs=Ls∧Below w.heap.size w w'
theorem rforms_any (s:ByteArray) (hs:s.size≤1000) (Ai:Option Addr) (capi li:Nat) (I:List Tr) (hli:I.length=li) (hLi:li≤900) (w:World) (HF:OpsP w Ai I) :
  Calls Tryz.prog 14 #[.agg #[.string s,.slice Ai li capi]] w (RetFo w ((allR s (canL (opc s) I)).map (encK s (canL (opc s) I)))):=by
 obtain ⟨C,hC⟩:=N9 (canL (opc s) I)
 have HC:=J9 hC
 obtain ⟨n,hn⟩:=N9 (w.heap.size)
 have HN:=J9 hn
 obtain ⟨b0,w0,hb0,hw0,S0,y0,z0⟩:=Fr.box (Fr.start w n hn) #[.string s,.slice Ai li capi] 24
 rw [hn] at hb0
 subst hb0
 have al:=rall10_any s hs Ai capi li I hli hLi w0 (HF.below y0)
 have HH:=J9 HF
 rw [hC] at al ⊢
 obtain ⟨k0,k1⟩:=Fr.cells2 S0.out.1
 clear y0 HF hC
 go_enter Tryz.func14,Tryz.ntmps14
 go_wp2_with fail
 refine al.mono ?_
 rintro e w1 ⟨A0,cap0,Re,rfl,hO,hK,hb⟩
 have S1:=Fr.up S0 hb
 obtain ⟨A0',cap0',e0,hE,-⟩:=hO.es
 simp only [Value.slice.injEq] at e0
 obtain ⟨rfl,-,rfl⟩:=e0
 obtain ⟨ne,hne⟩:=N9 (Re.length)
 rw [hne]
 have HNE:=J9 hne
 have hne2:ne≤2000:=by have:=allR_len s C;rw [← hK,List.length_map,hne] at this;exact this
 have HK:=J9 hK
 have EP:=J9 hE
 obtain ⟨B,hB⟩:=N9 (w1.heap.size)
 have hnB:n+1≤B:=by have:=Fr.lt_of_blk S1.out.1;omega
 have KEEP:Hid (∀ wr,Below B w1 wr→EsP wr A0 Re∧OpsP wr Ai I∧wr.heap[n]?=some (.cells #[.string s,.slice Ai li capi] 24 (0,0))∧Below n w wr):=fun wr h=>by
  have hw:Below n w wr:=S1.out.2.1.1.trans (h.mono (by omega))
  exact ⟨EP.out.below (by rw [hB];exact h),HH.out.below (by rw [HN.out];exact hw),(h.block n (by omega)).trans S1.out.1,hw⟩
 have ZB:Hid (B≤w1.heap.size):=Nat.le_of_eq hB.symm
 clear al hb k0 k1 S0 hw0 z0 hO hK hE S1 hne EP HH
 have HO0:Hid (OwnBR w1 B (.slice none 0 0) []):=ownBR_nil _ _
 clear hB
 go_wp2
 go_loopw [5,3] (fun x v wr=>∃ (k:Nat) (A4:Option Addr) (cap4:Nat) (R:List Be),k≤ne∧x=.int .i64 k∧v=.slice A4 R.length cap4∧Hid (R.length=k)∧Hid (OwnBR wr B (.slice A4 R.length cap4) R)∧Hid (R.map Be.xs=((Re.map Ee.k).take k).map (encK s C))∧Hid (Below B w1 wr)∧Hid (B≤wr.heap.size)) (fun x _ _=>ne - (intOf x).toNat)
 case atStart=>exact ⟨0,none,0,[],Nat.zero_le _,rfl,rfl,rfl,HO0.out,rfl,Below.refl _ _,ZB.out⟩
 case round=>
  clear HO0
  obtain ⟨k,A4,cap4,R,hk,rfl,rfl,RL,O,RK,BW,ZW⟩:=hrel
  rw [RL.out] at O ⊢
  by_cases hlt:k<ne
  ·have hkr:k<Re.length:=by rw [HNE.out];exact hlt
   obtain ⟨hEs,hI,hbn,-⟩:=KEEP.out wr BW.out
   obtain ⟨be,off,rfl,-,c0,c1,c2,c3,c4,c5,hP⟩:=hEs.at_ hkr
   have hmem:Re[k].k∈allR s C:=by rw [← HK.out];exact List.mem_map_of_mem (List.getElem_mem hkr)
   have TK:Hid (((Re.map Ee.k).take (k+1)).map (encK s C)=((Re.map Ee.k).take k).map (encK s C)++[encK s C Re[k].k]):=by
    show _=_
    rw [List.take_succ_eq_append_getElem (by simpa using hkr),List.map_append]
    simp
   obtain ⟨r,hr⟩:=N9 (Re[k])
   rw [hr] at c0 c1 c2 c3 c4 c5 hP hmem TK
   obtain ⟨hin,hfit⟩:=mem_allR hmem
   have ok:=hin.ok
   obtain ⟨g,o,m,A,cap,L,ex,al⟩:=r
   obtain ⟨i,hi,ho,-⟩:=hin
   obtain ⟨l,hl⟩:=N9 (L.length)
   simp only [Ee.v,hl] at c0 c1 c2 c3 c4 c5 hP
   have h1:=ok.ex
   have h2:=ok.len
   have h3:=ok.places
   simp only [Ee.k] at h1 h2 h3 hfit ho TK
   subst ho
   have vl:=fun w' p1 p2=>rvalues_any g (i:Int) m A cap l L hl (by omega) ex (by omega) al s Ai capi li I hli hLi w' p1 p2
   rw [← val_same h3,HC.out] at vl
   have hfl:=has_fill2 (m:=m) (s:=s) (C:=C) (by rw [has_fits h3];exact hfit)
   unfold encK at TK
   simp only at TK
   obtain ⟨d,hd⟩:=N9 ((valV m L ex s C).1)
   obtain ⟨q,hq⟩:=N9 ((valV m L ex s C).2)
   rw [hd,hq] at hfl TK
   unfold RetVals at vl
   rw [hd,hq] at vl
   obtain ⟨op,hop⟩:∃ op:UInt8,(op.toNat:Int)=(i:Int):=⟨UInt8.ofNat i,by rw [UInt8.toNat_ofNat_of_lt' (show i<256 from hi)]⟩
   rw [← hop] at vl TK c1
   have by_:=fun w' p=>rbytes_any g op m A cap l L hl (by omega) ex (by omega) al d q w' p
   rw [fill_same h3,hfl,Option.map_some] at by_
   obtain ⟨bs,hbs⟩:=N9 (encB g (op.toNat:Int) ex d q)
   rw [hbs] at by_ TK
   obtain ⟨lb,hlb⟩:=N9 (bs.length)
   unfold RetBy at by_
   simp only [hlb] at by_
   unfold enV at vl by_
   have VL:=J9 vl
   have BY:=J9 by_
   have HLB:=J9 hlb
   have P0:=J9 hP
   have I0:=J9 hI
   clear hEs hI hP hmem hr hfit ok h1 h2 h3 hfl hd hq hop hbs hlb hl hi vl by_
   go_upto_region 6 with fail
   obtain ⟨w3,hw3⟩:=N9 (wr.drew)
   have hd:Below wr.heap.size wr w3:=by rw [← hw3];exact below_drewN wr _ 1
   have B3:Hid (Below B w1 w3):=BW.out.trans (hd.mono ZW.out)
   have Z3:Hid (B≤w3.heap.size):=Nat.le_trans ZW.out hd.size
   have O3:=J9 (O.out.below hd)
   have P3:=J9 (P0.out.below hd)
   have I3:=J9 (I0.out.below hd)
   have FK:Hid (∀ w',Below w3.heap.size w3 w'→(w'.cell? ⟨be,off+k*6,none⟩=some (.int .i64 g)∧w'.cell? ⟨be,off+k*6+1,none⟩=some (.int .u8 op.toNat)∧w'.cell? ⟨be,off+k*6+2,none⟩=some (.string (sB m))∧w'.cell? ⟨be,off+k*6+3,none⟩=some (.slice A l cap)∧w'.cell? ⟨be,off+k*6+4,none⟩=some (.string (sB ex))∧w'.cell? ⟨be,off+k*6+5,none⟩=some (.bool al))∧w'.cell? ⟨n,0,none⟩=some (.string s)∧w'.cell? ⟨n,0+1,none⟩=some (.slice Ai li capi)):=fun w' h=>by
    have hw:Below wr.heap.size wr w':=hd.trans (h.mono hd.size)
    obtain ⟨k0,k1⟩:=Fr.cells2 hbn
    have up:∀ {x:Addr} {u:Value},wr.cell? x=some u→w'.cell? x=some u:=fun {x u} e=>(hw.cell (World.block_lt_of_cell? wr _ e)).trans e
    exact ⟨⟨up c0,up c1,up c2,up c3,up c4,up c5⟩,up k0,up k1⟩
   clear hd BW ZW O P0 I0 c0 c1 c2 c3 c4 c5 hbn
   refine Mixed.wp_region_mixed (fun w'=>Below w3.heap.size w3 w') 10 [(0,true),(1,true),(2,true),(3,true),(4,true),(5,false),(6,true),(7,true),(8,true),(9,true)] (by kernel_rfl) (by kernel_rfl) (by rw [hw3];exact Below.refl _ _) ?_
   rw [hw3]
   clear hw3
   refine Mixed.wpMix_move rfl (by kernel_rfl) _ rfl (.slice (some ⟨be,off,none⟩) ne cap0) rfl ?_
   refine Mixed.wpMix_move rfl (by kernel_rfl) _ rfl (.int .i64 k) rfl ?_
   refine Mixed.mp rfl (.pointer (some ⟨be,off+k*6,none⟩)) ?_
   refine Mixed.mo rfl (.agg #[.int .i64 g,.int .u8 op.toNat,.string (sB m),.slice A l cap,.string (sB ex),.bool al]) (fun w h=>by obtain ⟨⟨h0,h1,h2,h3,h4,h5⟩,-⟩:=FK.out w h;clear h;go_simp;try rfl) ?_
   refine Mixed.mo rfl (.agg #[.string s,.slice Ai li capi]) (fun w h=>by obtain ⟨-,h0,h1⟩:=FK.out w h;clear h;go_simp;try rfl) ?_
   refine Mixed.wpMix_loud rfl ?_
   have v1:=VL.out w3 P3.out I3.out
   go_wp2_with fail
   refine v1.mono ?_
   rintro e w4 ⟨rfl,hb⟩
   have B4:Hid (Below B w1 w4):=B3.out.trans (hb.mono Z3.out)
   have Z4:Hid (B≤w4.heap.size):=Nat.le_trans Z3.out hb.size
   have O4:=J9 (O3.out.below hb)
   have P4:=J9 (P3.out.below hb)
   obtain ⟨⟨h0,h1,h2,h3,h4,h5⟩,-⟩:=FK.out w4 hb
   have C4:=J9 hb
   clear v1 hb B3 Z3 O3 P3 I3 FK VL
   go_wp2
   refine ⟨C4.out,?_⟩
   clear C4
   refine Mixed.wpMix_move rfl (by kernel_rfl) _ rfl (.tuple #[.int .i64 d,.int .i64 q]) rfl ?_
   refine Mixed.mp rfl (.int .i64 d) ?_
   refine Mixed.mp rfl (.int .i64 q) ?_
   refine Mixed.wpMix_assign rfl (by kernel_rfl) _ rfl (.int .i64 d) rfl ?_
   simp only [Mixed.wpMix]
   go_wp2_with fail
   refine (BY.out w4 P4.out).mono ?_
   rintro e w5 ⟨A5,c5,rfl,hO5,hb⟩
   have B5:Hid (Below B w1 w5):=B4.out.trans (hb.mono Z4.out)
   have Z5:Hid (B≤w5.heap.size):=Nat.le_trans Z4.out hb.size
   have O5:=J9 (O4.out.below hb)
   have T5:=J9 (hO5.lift Z4.out)
   clear hO5 hb B4 Z4 O4 P4 BY h0 h1 h2 h3 h4 h5
   have hal:=up_alloc w5 (.cells #[.slice A5 lb c5] 25)
   have O6:=J9 (O5.out.below hal)
   have T6:=J9 (T5.out.below hal)
   have B6:=J9 (B5.out.trans (hal.mono Z5.out))
   have Z6:Hid (B≤(w5.alloc (.cells #[.slice A5 lb c5] 25)).heap.size):=Nat.le_trans Z5.out hal.size
   have E6:Hid ((w5.alloc (.cells #[.slice A5 lb c5] 25)).cell? ⟨w5.heap.size,0,none⟩=some (Be.v ⟨A5,c5,bs⟩)):=by
    have:=C9 (World.alloc_heap_new w5 (.cells #[.slice A5 lb c5] 25)) 0
    unfold Be.v
    simp only [HLB.out]
    exact this
   have T7:Hid (TOwnB (w5.alloc (.cells #[.slice A5 lb c5] 25)) B (Be.v ⟨A5,c5,bs⟩) bs):=by
    have:=T6.out
    unfold Be.v
    simp only [HLB.out]
    exact this
   have O7:Hid (OwnBR (w5.alloc (.cells #[.slice A5 lb c5] 25)) B (.slice A4 R.length cap4) R):=by rw [RL.out];exact O6.out
   have RK7:Hid ((R++[(⟨A5,c5,bs⟩:Be)]).map Be.xs=((Re.map Ee.k).take (k+1)).map (encK s C)):=by
    show _=_
    have e:=TK.out
    have f:=RK.out
    unfold encK at f ⊢
    rw [e,List.map_append,f]
    rfl
   have RL7:Hid ((R++[(⟨A5,c5,bs⟩:Be)]).length=k+1):=by show _=_;rw [List.length_append,RL.out];rfl
   clear O6 T6 T5 O5 B5 Z5 hal TK RK HLB
   go_wp2_with (at_builtin;refine wpList_appBR O7.out ⟨A5,c5,bs⟩ w5.heap.size E6.out T7.out Z6.out (by rw [RL.out];omega) rfl _ _ rfl rfl (by rw [← RL.out];rfl) rfl ?_;intro A8 c8 w8 hO8 hB8;have O8:=J9 hO8;have B8:=J9 (B6.out.trans (hB8.mono (Nat.le_refl _)));have Z8:=J9 (Nat.le_trans Z6.out hB8.size);clear hO8 hB8)
   go_roundw
   case rel=>exact ⟨k+1,A8,c8,R++[(⟨A5,c5,bs⟩:Be)],by omega,by go_num,by rw [List.length_append];rfl,RL7.out,O8.out,RK7.out,B8.out,Z8.out⟩
   case measure=>simp [intOf];omega
  ·obtain rfl:k=ne:=by omega
   obtain ⟨-,-,-,p5⟩:=KEEP.out wr BW.out
   have F:Hid (RetFo w ((allR s C).map (encK s C)) (.returned (.slice A4 k cap4)) wr):=by
    refine ⟨A4,cap4,R,by rw [RL.out],by rw [RL.out,HN.out];exact O.out.lift (by omega),?_,by rw [HN.out];exact p5⟩
    rw [RK.out,← HK.out,List.take_of_length_le (by rw [List.length_map,HNE.out];exact Nat.le_refl _)]
   clear p5 RK O BW
   go_wp2
   go_ret
   exact F.out
end Go.Proofs.YtclhaejdjogfbaaGreatDoor
namespace Go.Proofs.YtclhaejdjogfbaaGreatDoor
open Go.RowKit
def exF (m:Str) (ks:List Int):Str:=
 if ks=[1,6]∨ks=[2,6] then [110] else if ks=[4,6] then (if m=[79,85,84] then [] else [110]) else if ks=[3,6]∨ks=[3,7]∨ks=[8,6]∨ks=[7,3] then [119] else
 if ks=[1,7] then (if m=[73,78] then [110] else [119]) else if ks=[7,1] then (if m=[79,85,84] then [110] else [119]) else if ks=[10]∨ks=[8,10] then [101] else
 if ks=[6] then (if m=[73,77]∨m=[82,83,84] then [] else if m=[67,65,76,76]∨m=[74,80] then [119] else [110]) else if ks=[5,6] then [100,110] else if ks.contains 5 then [100] else []
def twP (p n:Nat):Nat×Nat:=if 5≤p then (p,n / 8*8+6) else if n=99 then (0,34) else if n=107 then (0,42) else
 (2,if n=78∨n=102∨n=110 then 70 else if n=118 then 86 else if n=126 then 94 else if n % 8=4 then 68 else 69)
def twB (x:En):Option En→Bool
 | some y=>decide (y.1=x.1)&&decide (y.2.1=x.2.1)&&decide (y.2.2.1=x.2.2.1)&&!y.2.2.2
 | none=>false
def zerB (L:List Tr) (ex:Str):Bool:=(List.range L.length).all fun i=>(decide (atV (varsV ex).1.1 L≠some i)&&decide (atV (varsV ex).2.1 L≠some i))||decide ((L.getD i tr0).2.2=0)
def unB (p n:Nat) (x:En):Bool:=decide (x.2.2.1=exF x.1 (x.2.1.map fun t=>t.1))&&zerB x.2.1 x.2.2.1&&(!x.2.2.2||twB x (ratT ((twP p n).1:Nat) (twP p n).2))
def unN (p n:Nat):Bool:=match ratT (p:Int) n with
 | some x=>unB p n x
 | none=>true
theorem un_k:∀ p:Fin 7,∀ n:Fin 256,unN p.val n.val=true:=by decide +kernel
theorem un_of {p n:Nat} (hn:n<256) {x:En} (h:ratT (p:Int) n=some x):p<7∧unB p n x=true:=by
 have hp:=(exP_of hn h).pg
 have h3:=un_k ⟨p,by omega⟩ ⟨n,hn⟩
 unfold unN at h3
 rw [h] at h3
 exact ⟨by omega,h3⟩
theorem InTab.nat {k:Ke} (h:InTab k):∃ p n:Nat,p<7∧n<256∧k.1=(p:Int)∧k.2.1=(n:Int)∧ratT (p:Int) n=some (k.2.2.1,k.2.2.2.1,k.2.2.2.2.1,k.2.2.2.2.2)∧unB p n (k.2.2.1,k.2.2.2.1,k.2.2.2.2.1,k.2.2.2.2.2)=true:=by
 obtain ⟨n,hn,h1,h2⟩:=h
 have hp:=(exP_of hn h2).pg
 obtain ⟨p,hp2⟩:∃ p:Nat,k.1=(p:Int):=⟨k.1.toNat,by omega⟩
 rw [hp2] at h2
 have hu:=un_of hn h2
 exact ⟨p,n,hu.1,hn,hp2,h1,h2,hu.2⟩
theorem ks_fst {L C:List Tr} (h:L.map ks2=C.map ks2):(L.map fun t=>t.1)=C.map fun t=>t.1:=by
 have:=congrArg (List.map Prod.fst) h
 simpa [ks2,Function.comp_def] using this
theorem one_entry {k k':Ke} (hk:InTab k) (hk':InTab k') (ha:k.2.2.2.2.2=false) (ha':k'.2.2.2.2.2=false) (hm:k.2.2.1=k'.2.2.1) {d n d' n':Int} {C:List Tr}
  (hf:fillV k.2.2.2.2.1 k.2.2.2.1 d n=some C) (hf':fillV k'.2.2.2.2.1 k'.2.2.2.1 d' n'=some C):k=k':=by
 obtain ⟨p,i,hp,hi,e1,e2,hr,hu⟩:=hk.nat
 obtain ⟨p',i',hp',hi',e1',e2',hr',hu'⟩:=hk'.nat
 obtain ⟨g,o,m,L,ex,al⟩:=k
 obtain ⟨g',o',m',L',ex',al'⟩:=k'
 simp only at e1 e2 e1' e2' hr hr' hu hu' ha ha' hm hf hf'
 subst e1 e2 e1' e2' ha ha' hm
 obtain ⟨s1,-,-,-⟩:=fill_shape hf
 obtain ⟨s2,-,-,-⟩:=fill_shape hf'
 have hsh:L.map ks2=L'.map ks2:=s1.symm.trans s2
 unfold unB at hu hu'
 simp only [Bool.and_eq_true,decide_eq_true_eq] at hu hu'
 obtain ⟨⟨x1,z1⟩,-⟩:=hu
 obtain ⟨⟨x2,z2⟩,-⟩:=hu'
 have hex:ex=ex':=by rw [x1,x2,ks_fst hsh]
 subst hex
 have hL:L=L':=by
  refine ext_getD (len_of_shape hsh) fun j hj=>?_
  have hj':j<L'.length:=by rw [← len_of_shape hsh];exact hj
  have g1:=fill_get hf j hj
  have g2:=fill_get hf' j hj'
  rw [← atV_congr (varsV ex).1.1 hsh,← atV_congr (varsV ex).2.1 hsh] at g2
  obtain ⟨q1,q2⟩:=get_of_shape hsh j hj
  unfold zerB at z1 z2
  have w1:=List.all_eq_true.1 z1 j (List.mem_range.2 hj)
  have w2:=List.all_eq_true.1 z2 j (List.mem_range.2 hj')
  rw [← atV_congr (varsV ex).1.1 hsh,← atV_congr (varsV ex).2.1 hsh] at w2
  simp only [Bool.or_eq_true,Bool.and_eq_true,decide_eq_true_eq] at w1 w2
  by_cases v2:atV (varsV ex).2.1 L=some j
  ·have y1:(L.getD j tr0).2.2=0:=by rcases w1 with w | w;exact absurd v2 w.2;exact w
   have y2:(L'.getD j tr0).2.2=0:=by rcases w2 with w | w;exact absurd v2 w.2;exact w
   exact Prod.ext q1 (Prod.ext q2 (y1.trans y2.symm))
  ·by_cases v1:atV (varsV ex).1.1 L=some j
   ·have y1:(L.getD j tr0).2.2=0:=by rcases w1 with w | w;exact absurd v1 w.1;exact w
    have y2:(L'.getD j tr0).2.2=0:=by rcases w2 with w | w;exact absurd v1 w.1;exact w
    exact Prod.ext q1 (Prod.ext q2 (y1.trans y2.symm))
   ·rw [if_neg v2,if_neg v1] at g1 g2
    rw [← g1,← g2]
 subst hL
 have h1:=once p p' i i' hp hp' hi hi' _ _ ((at_same (p:Int) i hi).trans hr) ((at_same (p':Int) i' hi').trans hr') rfl rfl rfl rfl
 obtain ⟨rfl,rfl⟩:=h1
 rfl
theorem twin {k:Ke} (hk:InTab k):∃ k1:Ke,InTab k1∧k1.2.2.1=k.2.2.1∧k1.2.2.2.1=k.2.2.2.1∧k1.2.2.2.2.1=k.2.2.2.2.1∧k1.2.2.2.2.2=false:=by
 obtain ⟨p,i,hp,hi,e1,e2,hr,hu⟩:=hk.nat
 cases ha:k.2.2.2.2.2 with
 | false=>exact ⟨k,hk,rfl,rfl,rfl,ha⟩
 | true=>
  unfold unB at hu
  simp only [Bool.and_eq_true] at hu
  have h:=hu.2
  simp only [ha,Bool.not_true,Bool.false_or] at h
  cases hx:ratT ((twP p i).1:Nat) (twP p i).2 with
  | none=>rw [hx] at h;cases h
  | some y=>
   rw [hx] at h
   unfold twB at h
   simp only [Bool.and_eq_true,decide_eq_true_eq,Bool.not_eq_true'] at h
   obtain ⟨⟨⟨h1,h2⟩,h3⟩,h4⟩:=h
   have hlt:(twP p i).2<256:=by
    unfold twP
    split
    ·simp only;omega
    ·split
     ·simp
     ·split
      ·simp
      ·simp only;repeat' split
       all_goals omega
   exact ⟨(((twP p i).1:Nat),((twP p i).2:Int),y.1,y.2.1,y.2.2.1,y.2.2.2),⟨_,hlt,rfl,hx⟩,h1,h2,h3,h4⟩
theorem can_fill {k:Ke} (hk:InTab k) {d n:Int} {C:List Tr} (hf:fillV k.2.2.2.2.1 k.2.2.2.1 d n=some C) :
  fitsR k.2.2.1 k.2.2.2.1 k.2.2.2.2.1 (sB k.2.2.1) C=true∧canL (opc (sB k.2.2.1)) C=C∧∀ t∈C,vT t=true:=by
 have ok:=hk.ok
 have h1:fitsR k.2.2.1 k.2.2.2.1 k.2.2.2.2.1 (sB k.2.2.1) C=true:=by rw [← has_fits ok.places];exact fill_has ok.places hf
 exact ⟨h1,can_fits ok.can h1,fits_valid ok h1⟩
theorem enc_item {k:Ke} (hk:InTab k) {d n:Int} {C:List Tr} (hf:fillV k.2.2.2.2.1 k.2.2.2.1 d n=some C) :
  ∃ y,encI (sB k.2.2.1) C=some y∧(y=encB k.1 k.2.1 k.2.2.2.2.1 d n↔k.2.2.2.2.2=false):=by
 obtain ⟨k1,hk1,m1,l1,x1,a1⟩:=twin hk
 have hf1:fillV k1.2.2.2.2.1 k1.2.2.2.1 d n=some C:=by rw [x1,l1];exact hf
 obtain ⟨hfit,hcan,hv⟩:=can_fill hk1 hf1
 have hm:k1∈candK (sT (sB k1.2.2.1)) C:=by
  obtain ⟨i,hi,e,hr⟩:=hk1
  have:=shp_cand hv hi hr (fits_shp hfit)
  rw [← e] at this
  exact this
 have hn:k1∈candN (sT (sB k1.2.2.1)) C:=List.mem_filter.2 ⟨hm,by unfold notAl;rw [a1];rfl⟩
 have hh:hasK (sT (sB k1.2.2.1)) C k1=true:=by
  unfold hasK
  rw [sT_sB,has_fits hk1.ok.places]
  exact hfit
 rw [← m1]
 cases hfd:findK (sT (sB k1.2.2.1)) C with
 | none=>
  unfold findK at hfd
  rw [List.find?_eq_none] at hfd
  exact absurd hh (hfd k1 hn)
 | some k2=>
  have h2:=List.find?_some hfd
  have h3:=List.mem_filter.1 (List.mem_of_find?_eq_some hfd)
  have hc:=cand_in h3.1
  have ha2:k2.2.2.2.2.2=false:=by
   have:=h3.2
   unfold notAl at this
   simpa using this
  have hm2:k2.2.2.1=k1.2.2.1:=by rw [hc.2.1,sT_sB]
  unfold hasK at h2
  rw [sB_sT] at h2
  have hf2:=has_fill2 h2
  have hee:=one_entry hc.1 hk1 ha2 a1 hm2 hf2 hf1
  subst hee
  have hval:=fill_val (m:=k2.2.2.1) hc.1.ok.places hf1
  have henc:encI (sB k2.2.2.1) C=some (encB k2.1 k2.2.1 k2.2.2.2.2.1 d n):=by
   unfold encI
   rw [hcan,hfd,Option.map_some,hval]
  refine ⟨_,henc,?_⟩
  constructor
  ·intro e
   have h:=enc_inj hk1 hk hf1 hf (r:=[]) (r':=[]) (by rw [List.append_nil,List.append_nil];exact e)
   rw [← h.1]
   exact a1
  ·intro hal
   have hkk:=one_entry hk1 hk a1 hal m1 hf1 hf
   rw [hkk]
theorem dec_form {s:ByteArray} {C:List Tr} {k:Ke} (h:k∈allR s C) (r:Str):itR (encK s C k++r)=⟨1,encK s C k,sT s,C,k.2.2.2.2.2⟩:=by
 obtain ⟨hk,hfit⟩:=mem_allR h
 have hh:hasV k.2.2.1 k.2.2.2.1 k.2.2.2.2.1 s C=true:=by rw [has_fits hk.ok.places];exact hfit
 have hm:k.2.2.1=sT s:=by
  have h1:=fits_shp hfit
  unfold shpR at h1
  simp only [Bool.and_eq_true,decide_eq_true_eq] at h1
  rw [← h1.1,sT_sB]
 have hd:=dec_enc hk (has_fill2 hh) r
 unfold encK
 rw [hm] at hd
 rw [hm]
 exact hd
end Go.Proofs.YtclhaejdjogfbaaGreatDoor
namespace Go.Proofs.YtclhaejdjogfbaaGreatDoor
open Go.RowKit
def BytesB (w:World) (A:Option Addr) (xs:List UInt8):Prop:=
 xs=[]∨∃ b off,A=some ⟨b,off,none⟩∧∀ j (h:j<xs.length),w.cell? ⟨b,off+j,none⟩=some (.int .u8 (xs[j].toNat:Int))
theorem BytesB.at_ {w:World} {A:Option Addr} {xs:List UInt8} (h:BytesB w A xs) {k:Nat} (hk:k<xs.length):∃ b off,A=some ⟨b,off,none⟩∧w.cell? ⟨b,off+k,none⟩=some (.int .u8 (xs[k].toNat:Int)):=by
 rcases h with rfl | ⟨b,off,rfl,hc⟩
 ·simp at hk
 ·exact ⟨b,off,rfl,hc k hk⟩
theorem BytesB.below {w w':World} {A:Option Addr} {xs:List UInt8} (h:BytesB w A xs) (hb:Below w.heap.size w w'):BytesB w' A xs:=by
 rcases h with rfl | ⟨b,off,rfl,hc⟩
 ·exact .inl rfl
 ·exact .inr ⟨b,off,rfl,fun j hj=>(hb.cell (p:=⟨b,off+j,none⟩) (World.block_lt_of_cell? w _ (hc j hj))).trans (hc j hj)⟩
theorem BytesB.drewN {w:World} {A:Option Addr} {xs:List UInt8} (h:BytesB w A xs) (n:Nat):BytesB (w.drewN n) A xs:=by
 rcases h with rfl | ⟨b,off,rfl,hc⟩
 ·exact .inl rfl
 ·exact .inr ⟨b,off,rfl,fun j hj=>by simpa using hc j hj⟩
end Go.Proofs.YtclhaejdjogfbaaGreatDoor
