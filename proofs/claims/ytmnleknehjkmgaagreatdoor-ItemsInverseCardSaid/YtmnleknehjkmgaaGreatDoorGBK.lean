/-
  SeRg, SeRk, SeI, SeV, SeX, CnK, SeRh, SeY, SeRl, EnD, EnP, TbOn, SeRm, EnF, DeC, DiC, NumM, NumN, WrA, WrB, WrC, WrD, WrE.
-/
import Derived.Test.YtmnleknehjkmgaaGreatDoorGBE
import Derived.Test.YtmnleknehjkmgaaGreatDoorMSeM
import Derived.Test.YtmnleknehjkmgaaGreatDoorMSeH
import Derived.Test.YtmnleknehjkmgaaGreatDoorGAX
import Derived.Test.YtmnleknehjkmgaaGreatDoorGAU
import Derived.Test.YtmnleknehjkmgaaGreatDoorGAE
import Derived.Test.YtmnleknehjkmgaaGreatDoorGAA
import Derived.Test.YtmnleknehjkmgaaGreatDoorGAP
import Derived.Test.YtmnleknehjkmgaaGreatDoorGAI
import Derived.Deep.DeepCutAuto
import Derived.Deep.Cut
import Derived.Test.YtmnleknehjkmgaaGreatDoorGAB
import Derived.Deep.Draws
import Derived.RegionTactic
import Derived.Deep.QuietTactic
import Derived.BigQuiet
import Derived.Test.YtmnleknehjkmgaaGreatDoorGAG
import Derived.Lib.OthersKept
import Derived.Maps.Own
import Derived.Maps.OwnOps
import Derived.Maps.OwnSet
import Derived.Maps.Views
import Derived.Laws.EntriesVeiled
import Derived.Test.YtmnleknehjkmgaaGreatDoorGAQ
import Derived.WalkSmall
import Derived.Laws.RangeString
import Derived.Laws.RangeAny
import Derived.Test.YtmnleknehjkmgaaGreatDoorGAR
set_option linter.all false
set_option maxRecDepth 100000
set_option maxHeartbeats 4000000
namespace Go.Proofs.YtmnleknehjkmgaaGreatDoor
open Go.RowKit Go.Shelf
attribute [local go_sem] Oper.semAt_some
end Go.Proofs.YtmnleknehjkmgaaGreatDoor
namespace Go.Proofs.YtmnleknehjkmgaaGreatDoor
open Go.RowKit Go.Shelf
attribute [local go_sem] Oper.semAt_some
def Bef (pg:Int) (n:Nat) (g:Int) (k:Nat):Prop:=pg<g∨(pg=g∧n<k)
def Shd (s:ByteArray) (C:List Tr) (page:Int) (n:Nat):Prop:=∃ x:En,ratT page n=some x∧x.2.2.2=false∧shpR x.1 x.2.1 s C=true
def SUp (s:ByteArray) (C:List Tr) (fs ls p:Int) (k:Nat) (cv:Int):Prop:=
 (cv=11∧∀ (pg:Int) (n:Nat),fs≤pg→n<256→Bef pg n p k→¬Shd s C pg n)∨(cv=2∧∃ (pg:Int) (n:Nat),fs≤pg∧pg≤ls∧n<256∧Shd s C pg n)
theorem SUp.start (s:ByteArray) (C:List Tr) (fs ls:Int):SUp s C fs ls fs 0 11:=.inl ⟨rfl,fun pg n h1 h2 h3=>by rcases h3 with h | ⟨h,h4⟩ <;> omega⟩
theorem SUp.step {s:ByteArray} {C:List Tr} {fs ls p cv:Int} {k:Nat} (h:SUp s C fs ls p k cv) (hn:¬Shd s C p k):SUp s C fs ls p (k+1) cv:=by
 rcases h with ⟨h1,h2⟩ | h
 ·refine .inl ⟨h1,fun pg n h3 h4 h5=>?_⟩
  by_cases e:pg=p∧n=k
  ·obtain ⟨rfl,rfl⟩:=e
   exact hn
  ·refine h2 pg n h3 h4 ?_
   rcases h5 with h | ⟨h,h6⟩
   ·exact .inl h
   ·exact .inr ⟨h,by have:n≠k:=fun q=>e ⟨h,q⟩;omega⟩
 ·exact .inr h
theorem SUp.page {s:ByteArray} {C:List Tr} {fs ls p cv:Int} (h:SUp s C fs ls p 256 cv):SUp s C fs ls (p+1) 0 cv:=by
 rcases h with ⟨h1,h2⟩ | h
 ·refine .inl ⟨h1,fun pg n h3 h4 h5=>h2 pg n h3 h4 ?_⟩
  rcases h5 with h | ⟨h,h6⟩
  ·by_cases e:pg=p
   ·exact .inr ⟨e,h4⟩
   ·exact .inl (by omega)
  ·omega
 ·exact .inr h
end Go.Proofs.YtmnleknehjkmgaaGreatDoor
namespace Go.Proofs.YtmnleknehjkmgaaGreatDoor
open Go.RowKit Go.Shelf
attribute [local go_sem] Oper.semAt_some
attribute [local irreducible] Go.Mixed.wpMix
end Go.Proofs.YtmnleknehjkmgaaGreatDoor
namespace Go.Proofs.YtmnleknehjkmgaaGreatDoor
open Go.RowKit Go.Shelf
attribute [local go_sem] Oper.semAt_some
attribute [local irreducible] Go.Mixed.wpMix
theorem svalues_any (page op:Int) (m:Str) (hm:m.length≤1000) (hup:upB (sB m)=sB m) (A:Option Addr) (cap l:Nat) (L:List Tr) (hl:L.length=l) (hL:l≤1000) (ex:Str) (hx:ex.length≤1000) (al:Bool) (s:ByteArray) (Ai:Option Addr) (capi li:Nat) (I:List Tr) (hli:I.length=li) (hLi:li≤900) (w:World) (H:OpsP w A L) (HF:OpsP w Ai I) :
  Calls Tryz.prog 29 #[enV page op m (.slice A l cap) ex al,.agg #[.string s,.slice Ai li capi]] w fun e w'=>e=.returned (.tuple #[.int .i64 (valV m L ex s (canL (opc s) I)).1,.int .i64 (valV m L ex s (canL (opc s) I)).2])∧Below w.heap.size w w':=by
 have hof:=fun w h=>of_any s Ai capi I (by omega) w h
 rw [hli] at hof
 have hcl:=canL_len (opc s) I
 have hhe:=fun Af capf lf (e1:(canL (opc s) I).length=lf) w' h1 h2=>hasEntry_any page op m hm hup A cap l L hl hL ex hx al s Af capf lf (canL (opc s) I) e1 (by omega) w' h1 h2
 have hva:=fun w=>variables_any page op m A l cap ex hx al w
 obtain ⟨C,hC⟩:∃ C,canL (opc s) I=C:=⟨_,rfl⟩
 rw [hC] at hof hhe hcl
 rw [hC]
 obtain ⟨x,hxx⟩:∃ x,(varsV ex).1=x:=⟨_,rfl⟩
 obtain ⟨y,hyy⟩:∃ y,(varsV ex).2=y:=⟨_,rfl⟩
 obtain ⟨tt,htt⟩:∃ z,hasV m L ex s C=z:=⟨_,rfl⟩
 have VV:Hid (valV m L ex s C=if tt=true then (numV x.1 C,numV y.1 C) else (0,0)):=by show _=_;unfold valV;rw [htt,hxx,hyy]
 obtain ⟨vv,hvv⟩:∃ z,valV m L ex s C=z:=⟨_,rfl⟩
 rw [hvv] at VV ⊢
 unfold RetVars at hva
 rw [hxx,hyy] at hva
 rw [htt] at hhe
 have CL:Hid (C.length≤1000):=by show _≤_;omega
 clear hC htt hcl hup hvv hxx hyy
 unfold enV at hhe hva ⊢
 obtain ⟨w0,hw0⟩:∃ w0,(w.alloc (.cells #[.int .i64 page,.int .u8 op,.string (sB m),.slice A l cap,.string (sB ex),.bool al] 55)).alloc (.cells #[.string s,.slice Ai li capi] 26)=w0:=⟨_,rfl⟩
 obtain ⟨n,hn⟩:∃ n,w.heap.size=n:=⟨_,rfl⟩
 have b0:Below n w w0:=by rw [← hw0,← hn];exact ((Below.refl _ w).alloc (Nat.le_refl _) _).alloc (by simp) _
 have z0:w0.heap.size=n+1+1:=by rw [← hw0,← hn];simp
 have c0:w0.heap[n]?=some (.cells #[.int .i64 page,.int .u8 op,.string (sB m),.slice A l cap,.string (sB ex),.bool al] 55 (0,0)):=by
  rw [← hw0,← hn]
  exact (Below.heap_alloc _ _ _ (by simp)).trans (World.alloc_heap_new w _)
 have c1:w0.heap[n+1]?=some (.cells #[.string s,.slice Ai li capi] 26 (0,0)):=by
  rw [← hw0,← hn]
  have h:=World.alloc_heap_new (w.alloc (.cells #[.int .i64 page,.int .u8 op,.string (sB m),.slice A l cap,.string (sB ex),.bool al] 55)) (.cells #[.string s,.slice Ai li capi] 26)
  rwa [World.size_alloc] at h
 have OF:=Lib.hid hof
 have HE:=Lib.hid hhe
 have VA:=Lib.hid hva
 have HN:=Lib.hid hn
 have B0:=Lib.hid b0
 have C0:=Lib.hid c0
 have P0:=Lib.hid (H.below (by rw [hn];exact b0))
 have Q0:=Lib.hid (HF.below (by rw [hn];exact b0))
 have k0:=Lib.cell_of_heap c1 0
 have k1:=Lib.cell_of_heap c1 1
 clear hof hhe hva c0 c1 b0 H HF hm hx
 go_enter Tryz.func29,Tryz.ntmps29
 go_wp2_with fail
 refine (OF.out _ Q0.out).mono ?_
 rintro e w1 ⟨v,rfl,hO,hb⟩
 obtain ⟨Af,capf,rfl,hP,-,-⟩:=hO.ops
 obtain ⟨lf,hlf⟩:∃ z,C.length=z:=⟨_,rfl⟩
 have HLF:=Lib.hid hlf
 rw [hlf] at CL ⊢
 obtain ⟨b,hbs⟩:∃ b,w1.heap.size=b:=⟨_,rfl⟩
 obtain ⟨w2,hw2,y1,y2,y3⟩:=ins_box w1 s (.slice Af lf capf) b hbs
 have bb:Below (n+1+1) w0 w2:=(hb.mono (by omega)).trans (y2.mono (by have:=hb.size;omega))
 have hnb:n+2≤b:=by have:=hb.size;omega
 have c0:=(bb.block n (by omega)).trans C0.out
 have E2:=Lib.hid c0
 have B2:Hid (Below n w w2):=B0.out.trans (bb.mono (by omega))
 have P2:=Lib.hid (P0.out.below (by rw [z0];exact bb))
 have Q2:=Lib.hid (hP.below y2)
 have he:=HE.out Af capf lf HLF.out w2 P2.out Q2.out
 have Y1:=Lib.hid y1
 have j0:=Lib.cell_of_heap y1 0
 have j1:=Lib.cell_of_heap y1 1
 have i0:=Lib.cell_of_heap c0 0
 have i1:=Lib.cell_of_heap c0 1
 have i2:=Lib.cell_of_heap c0 2
 have i3:=Lib.cell_of_heap c0 3
 have i4:=Lib.cell_of_heap c0 4
 have i5:=Lib.cell_of_heap c0 5
 clear hO hP hb y1 y2 bb c0 OF HE P0 Q0 B0 C0 z0 hw0 hlf k0 k1
 go_wp2_with fail
 refine he.mono ?_
 rintro e w3 ⟨rfl,hb⟩
 have P3:=Lib.hid (P2.out.below hb)
 have Q3:=Lib.hid (Q2.out.below hb)
 have B3:Hid (Below n w w3):=B2.out.trans (hb.mono (by omega))
 have Y3:=Lib.hid ((hb.block b (by omega)).trans Y1.out)
 have E3:=Lib.hid ((hb.block n (by omega)).trans E2.out)
 have s3:b+1≤w3.heap.size:=by have:=hb.size;omega
 have va3:=VA.out w3
 clear he hb P2 Q2 B2 Y1 E2 VA j0 j1 i0 i1 i2 i3 i4 i5 y3 hw2 w2 hbs
 have i0:=Lib.cell_of_heap E3.out 0
 have i1:=Lib.cell_of_heap E3.out 1
 have i2:=Lib.cell_of_heap E3.out 2
 have i3:=Lib.cell_of_heap E3.out 3
 have i4:=Lib.cell_of_heap E3.out 4
 have i5:=Lib.cell_of_heap E3.out 5
 cases tt with
 | false=>
  clear va3
  go_wp2
  refine bodyPost_ret (v:=.tuple #[.int .i64 0,.int .i64 0]) ?_ rfl ?_
  ·simp [results,Tryz.results29,go_sem]
  ·refine ⟨?_,by rw [HN.out];exact B3.out⟩
   rw [VV.out]
   rfl
 | true=>
  go_wp2_with fail
  refine va3.mono ?_
  rintro e w4 ⟨f,g,f',g',rfl,va,va',hb⟩
  obtain ⟨p1,p2,p3,hf,hg⟩:=va.form
  obtain ⟨p4,p5,p6,hf',hg'⟩:=va'.form
  subst hf hg hf' hg'
  obtain ⟨c,hcs⟩:∃ c,w4.heap.size=c:=⟨_,rfl⟩
  obtain ⟨w5,hw5,x1,x2,x3,x4,x5,x6⟩:=vars_boxes va va' c hcs
  have hbc:b+1≤c:=by have:=hb.size;omega
  have bb:Below (b+1) w3 w5:=(hb.mono (by omega)).trans (x5.mono (by omega))
  have bb':Below w3.heap.size w3 w5:=hb.trans (x5.mono hb.size)
  have B5:Hid (Below n w w5.drew):=(B3.out.trans (bb.mono (by omega))).drew
  have hd:=below_drewN w5 w5.heap.size 1
  have Q5:=Lib.hid ((Q3.out.below bb').below hd)
  have KK:Hid (w5.drew.heap[b]?=some (.cells #[.string s,.slice Af lf capf] 26 (0,0))∧w5.drew.heap[c]?=some (.cells #[.func (.func 77) #[] #[.pointer (some ⟨p1,0,none⟩)],.func (.func 79) #[] #[.pointer (some ⟨p2,0,none⟩),.pointer (some ⟨p3,0,none⟩)]] 89 (0,0))∧w5.drew.heap[c+1]?=some (.cells #[.func (.func 77) #[] #[.pointer (some ⟨p4,0,none⟩)],.func (.func 79) #[] #[.pointer (some ⟨p5,0,none⟩),.pointer (some ⟨p6,0,none⟩)]] 89 (0,0))):=⟨(bb.block b (by omega)).trans Y3.out,x1,x2⟩
  have X3:=Lib.hid (x3.below hd)
  have X4:=Lib.hid (x4.below hd)
  clear va3 va va' hb x1 x2 x3 x4 x5 bb bb' hd P3 Q3 B3 Y3 E3 i0 i1 i2 i3 i4 i5
  go_upto_region 5 with fail
  obtain ⟨w6,hw6⟩:∃ z,w5.drew=z:=⟨_,rfl⟩
  have hw6':w5.drewN 1=w6:=hw6
  rw [hw6'] at Q5 X3 X4
  rw [hw6] at B5 KK
  have z6:w6.heap.size=c+2:=by rw [← hw6];exact x6
  refine Mixed.wp_region_mixed (fun w'=>w'.heap[b]?=some (.cells #[.string s,.slice Af lf capf] 26 (0,0))∧w'.heap[c]?=some (.cells #[.func (.func 77) #[] #[.pointer (some ⟨p1,0,none⟩)],.func (.func 79) #[] #[.pointer (some ⟨p2,0,none⟩),.pointer (some ⟨p3,0,none⟩)]] 89 (0,0))∧w'.heap[c+1]?=some (.cells #[.func (.func 77) #[] #[.pointer (some ⟨p4,0,none⟩)],.func (.func 79) #[] #[.pointer (some ⟨p5,0,none⟩),.pointer (some ⟨p6,0,none⟩)]] 89 (0,0))) 6 [(0,true),(1,true),(3,true),(4,true),(2,false),(5,false)] (by kernel_rfl) (by kernel_rfl) (by rw [hw6];exact KK.out) ?_
  rw [hw6]
  clear hw6 hw6' x6 hw5
  refine Mixed.wpMix_pure rfl (by kernel_rfl) (.agg #[.func (.func 77) #[] #[.pointer (some ⟨p1,0,none⟩)],.func (.func 79) #[] #[.pointer (some ⟨p2,0,none⟩),.pointer (some ⟨p3,0,none⟩)]]) (fun w h=>by
   obtain ⟨h1,h2,h3⟩:=h
   have q0:=Lib.cell_of_heap h2 0
   have q1:=Lib.cell_of_heap h2 1
   go_simp;try rfl) ?_
  refine Mixed.wpMix_pure rfl (by kernel_rfl) (.agg #[.string s,.slice Af lf capf]) (fun w h=>by
   obtain ⟨h1,h2,h3⟩:=h
   have q0:=Lib.cell_of_heap h1 0
   have q1:=Lib.cell_of_heap h1 1
   go_simp;try rfl) ?_
  refine Mixed.wpMix_pure rfl (by kernel_rfl) (.agg #[.func (.func 77) #[] #[.pointer (some ⟨p4,0,none⟩)],.func (.func 79) #[] #[.pointer (some ⟨p5,0,none⟩),.pointer (some ⟨p6,0,none⟩)]]) (fun w h=>by
   obtain ⟨h1,h2,h3⟩:=h
   have q0:=Lib.cell_of_heap h3 0
   have q1:=Lib.cell_of_heap h3 1
   go_simp;try rfl) ?_
  refine Mixed.wpMix_pure rfl (by kernel_rfl) (.agg #[.string s,.slice Af lf capf]) (fun w h=>by
   obtain ⟨h1,h2,h3⟩:=h
   have q0:=Lib.cell_of_heap h1 0
   have q1:=Lib.cell_of_heap h1 1
   go_simp;try rfl) ?_
  have n1:=vnum_any x (.agg #[.func (.func 77) #[] #[.pointer (some ⟨p1,0,none⟩)],.func (.func 79) #[] #[.pointer (some ⟨p2,0,none⟩),.pointer (some ⟨p3,0,none⟩)]]) s Af capf lf C HLF.out CL.out w6 X3.out Q5.out
  refine Mixed.wpMix_loudG rfl (by kernel_rfl) ?_
  go_wp2_with fail
  refine n1.mono ?_
  rintro e w7 ⟨rfl,hb⟩
  have K7:Hid (w7.heap[b]?=some (.cells #[.string s,.slice Af lf capf] 26 (0,0))∧w7.heap[c]?=some (.cells #[.func (.func 77) #[] #[.pointer (some ⟨p1,0,none⟩)],.func (.func 79) #[] #[.pointer (some ⟨p2,0,none⟩),.pointer (some ⟨p3,0,none⟩)]] 89 (0,0))∧w7.heap[c+1]?=some (.cells #[.func (.func 77) #[] #[.pointer (some ⟨p4,0,none⟩)],.func (.func 79) #[] #[.pointer (some ⟨p5,0,none⟩),.pointer (some ⟨p6,0,none⟩)]] 89 (0,0))):=⟨(hb.block _ (by omega)).trans KK.out.1,(hb.block _ (by omega)).trans KK.out.2.1,(hb.block _ (by omega)).trans KK.out.2.2⟩
  have n2:=vnum_any y (.agg #[.func (.func 77) #[] #[.pointer (some ⟨p4,0,none⟩)],.func (.func 79) #[] #[.pointer (some ⟨p5,0,none⟩),.pointer (some ⟨p6,0,none⟩)]]) s Af capf lf C HLF.out CL.out w7 (X4.out.below hb) (Q5.out.below hb)
  have B7:Hid (Below n w w7):=B5.out.trans (hb.mono (by omega))
  have s7:c+2≤w7.heap.size:=by have:=hb.size;omega
  clear hb n1 KK Q5 X3 X4 B5 z6
  go_wp2
  refine ⟨K7.out,?_⟩
  refine Mixed.wpMix_loudG rfl (by kernel_rfl) ?_
  go_wp2_with fail
  refine n2.mono ?_
  rintro e w8 ⟨rfl,hb⟩
  have K8:Hid (w8.heap[b]?=some (.cells #[.string s,.slice Af lf capf] 26 (0,0))∧w8.heap[c]?=some (.cells #[.func (.func 77) #[] #[.pointer (some ⟨p1,0,none⟩)],.func (.func 79) #[] #[.pointer (some ⟨p2,0,none⟩),.pointer (some ⟨p3,0,none⟩)]] 89 (0,0))∧w8.heap[c+1]?=some (.cells #[.func (.func 77) #[] #[.pointer (some ⟨p4,0,none⟩)],.func (.func 79) #[] #[.pointer (some ⟨p5,0,none⟩),.pointer (some ⟨p6,0,none⟩)]] 89 (0,0))):=⟨(hb.block _ (by omega)).trans K7.out.1,(hb.block _ (by omega)).trans K7.out.2.1,(hb.block _ (by omega)).trans K7.out.2.2⟩
  have B8:Hid (Below n w w8):=B7.out.trans (hb.mono (by omega))
  clear hb n2 B7 K7
  go_wp2
  refine ⟨K8.out,?_⟩
  simp only [Mixed.wpMix,List.drop_succ_cons,List.drop_zero]
  go_wp2
  refine bodyPost_ret (v:=.tuple #[.int .i64 (numV x.1 C),.int .i64 (numV y.1 C)]) ?_ rfl ?_
  ·simp [results,Tryz.results29,go_sem]
  ·refine ⟨?_,by rw [HN.out];exact B8.out⟩
   rw [VV.out]
   simp
end Go.Proofs.YtmnleknehjkmgaaGreatDoor
namespace Go.Proofs.YtmnleknehjkmgaaGreatDoor
open Go.RowKit Go.Shelf
attribute [local go_sem] Oper.semAt_some
def sT (s:ByteArray):Str:=s.data.toList
theorem sB_sT (s:ByteArray):sB (sT s)=s:=by
 obtain ⟨d⟩:=s
 show (⟨d.toList.toArray⟩:ByteArray)=⟨d⟩
 rw [Array.toArray_toList]
theorem sT_len (s:ByteArray):(sT s).length=s.size:=by unfold sT;rw [Array.length_toList];rfl
theorem codeF_ne (op:Str) (I C:List Tr):codeF op I C≠0:=by
 unfold codeF
 split
 ·assumption
 ·split <;> decide
theorem sfind2_any (s:ByteArray) (hs:s.size≤1000) (Ai:Option Addr) (capi li:Nat) (I:List Tr) (hli:I.length=li) (hLi:li≤900) (w:World) (hM:MaxAt w) (HF:OpsP w Ai I) :
  Calls Tryz.prog 19 #[.agg #[.string s,.slice Ai li capi]] w (RetSrch w (sT s) I (findK (sT s) (canL (opc s) I))):=by
 have h:=sfind_any (sT s) (by rw [sT_len];exact hs) Ai capi li I hli hLi w hM HF
 rw [sB_sT] at h
 exact h
end Go.Proofs.YtmnleknehjkmgaaGreatDoor
namespace Go.Proofs.YtmnleknehjkmgaaGreatDoor
open Go.RowKit
end Go.Proofs.YtmnleknehjkmgaaGreatDoor
namespace Go.Proofs.YtmnleknehjkmgaaGreatDoor
open Go.RowKit Go.Shelf
end Go.Proofs.YtmnleknehjkmgaaGreatDoor
namespace Go.Proofs.YtmnleknehjkmgaaGreatDoor
open Go.RowKit Go.Shelf
attribute [local go_sem] Oper.semAt_some
end Go.Proofs.YtmnleknehjkmgaaGreatDoor
namespace Go.Proofs.YtmnleknehjkmgaaGreatDoor
open Go.RowKit Go.Shelf
end Go.Proofs.YtmnleknehjkmgaaGreatDoor
namespace Go.Proofs.YtmnleknehjkmgaaGreatDoor
open Go.RowKit Go.Shelf
attribute [local go_sem] Oper.semAt_some
def opsF (A:Option Addr) (L:List Tr):Fr.F:=⟨fun w=>OpsP w A L,fun h hb=>h.below hb⟩
def encI (s:ByteArray) (I:List Tr):Option Str:=(findK (sT s) (canL (opc s) I)).map fun k=>encB k.1 k.2.1 k.2.2.2.2.1 (valV k.2.2.1 k.2.2.2.1 k.2.2.2.2.1 s (canL (opc s) I)).1 (valV k.2.2.1 k.2.2.2.1 k.2.2.2.2.1 s (canL (opc s) I)).2
def codeE (s:ByteArray) (I:List Tr):Int:=if (encI s I).isSome then 0 else codeF (sT s) I (canL (opc s) I)
def RetEnc (w:World) (s:ByteArray) (I:List Tr) (e:Ending) (w':World):Prop:=∃ A cap,e=.returned (.tuple #[.slice A ((encI s I).getD []).length cap,.int .i64 (codeE s I)])∧TOwnB w' w.heap.size (.slice A ((encI s I).getD []).length cap) ((encI s I).getD [])∧Below w.heap.size w w'
theorem has_fill2 {m ex:Str} {L:List Tr} {s:ByteArray} {C:List Tr} (h:hasV m L ex s C=true):fillV ex L (valV m L ex s C).1 (valV m L ex s C).2=some C:=by
 have e:valV m L ex s C=(numV (varsV ex).1.1 C,numV (varsV ex).2.1 C):=by unfold valV;rw [if_pos h]
 rw [e]
 unfold hasV at h
 cases hf:fillV ex L (numV (varsV ex).1.1 C) (numV (varsV ex).2.1 C) with
 | none=>rw [hf] at h;cases h
 | some L2=>
  rw [hf] at h
  simp only [Bool.and_eq_true,decide_eq_true_eq] at h
  simp only [hf,h.2]
end Go.Proofs.YtmnleknehjkmgaaGreatDoor
namespace Go.Proofs.YtmnleknehjkmgaaGreatDoor
open Go.RowKit Go.Shelf
theorem enc_from {s:ByteArray} {I:List Tr} {a:Str} (h:encI s I=some a) :
  ∃ (k:Ke) (d n:Int),InTab k∧sB k.2.2.1=s∧fillV k.2.2.2.2.1 k.2.2.2.1 d n=some (canL (opc s) I)∧a=encB k.1 k.2.1 k.2.2.2.2.1 d n:=by
 unfold encI at h
 cases hf:findK (sT s) (canL (opc s) I) with
 | none=>rw [hf] at h;cases h
 | some k=>
  rw [hf] at h
  simp only [Option.map_some,Option.some.injEq] at h
  have hm:k∈candK (sT s) (canL (opc s) I):=(List.mem_filter.1 (List.mem_of_find?_eq_some hf)).1
  have hc:=cand_in hm
  have hh:hasV k.2.2.1 k.2.2.2.1 k.2.2.2.2.1 s (canL (opc s) I)=true:=by
   have:=List.find?_some hf
   unfold hasK at this
   rwa [sB_sT] at this
  exact ⟨k,_,_,hc.1,by rw [hc.2.1,sB_sT],has_fill2 hh,h.symm⟩
end Go.Proofs.YtmnleknehjkmgaaGreatDoor
namespace Go.Proofs.YtmnleknehjkmgaaGreatDoor
end Go.Proofs.YtmnleknehjkmgaaGreatDoor
namespace Go.Proofs.YtmnleknehjkmgaaGreatDoor
open Go.RowKit Go.Shelf
attribute [local go_sem] Oper.semAt_some
end Go.Proofs.YtmnleknehjkmgaaGreatDoor
namespace Go.Proofs.YtmnleknehjkmgaaGreatDoor
open Go.RowKit Go.Shelf
attribute [local irreducible] Go.Mixed.wpMix
attribute [local go_sem] Oper.semAt_some
end Go.Proofs.YtmnleknehjkmgaaGreatDoor
namespace Go.Proofs.YtmnleknehjkmgaaGreatDoor
open Go.RowKit
theorem dec_encI {s:ByteArray} {I:List Tr} {a:Str} (h:encI s I=some a) (r:Str):itR (a++r)=⟨1,a,sT s,canL (opc s) I,false⟩:=by
 unfold encI at h
 cases hf:findK (sT s) (canL (opc s) I) with
 | none=>rw [hf] at h;cases h
 | some k=>
  rw [hf] at h
  simp only [Option.map_some,Option.some.injEq] at h
  have h3:=List.mem_filter.1 (List.mem_of_find?_eq_some hf)
  have hc:=cand_in h3.1
  have hal:k.2.2.2.2.2=false:=by
   have:=h3.2
   unfold notAl at this
   simpa using this
  have hh:=List.find?_some hf
  unfold hasK at hh
  rw [sB_sT] at hh
  have hd:=dec_enc hc.1 (has_fill2 hh) r
  rw [h,hal,hc.2.1] at hd
  exact hd
end Go.Proofs.YtmnleknehjkmgaaGreatDoor
namespace Go.Proofs.YtmnleknehjkmgaaGreatDoor
open Go.RowKit
theorem items_enc:∀ (l:List (ByteArray×List Tr×Str)),(∀ x∈l,encI x.1 x.2.1=some x.2.2)→itemsR (l.flatMap fun x=>x.2.2)=l.map fun x=>⟨1,x.2.2,sT x.1,canL (opc x.1) x.2.1,false⟩
 | [],_=>rfl
 | x :: l,h=>by
  have hx:=h x (List.mem_cons_self ..)
  have ih:=items_enc l fun y hy=>h y (List.mem_cons_of_mem _ hy)
  have hd:=dec_encI hx (l.flatMap fun x=>x.2.2)
  have hne:x.2.2≠[]:=by
   obtain ⟨k,d,n,hk,-,-,e⟩:=enc_from hx
   have:=enc_len hk d n
   intro h0
   rw [← e,h0] at this
   simp only [List.length_nil] at this
   omega
  rw [List.flatMap_cons,List.map_cons,items_cons (by intro hn;exact hne (List.append_eq_nil_iff.1 hn).1),hd]
  simp only
  rw [List.drop_left,ih]
theorem only_enc (l:List (ByteArray×List Tr×Str)) (h:∀ x∈l,encI x.1 x.2.1=some x.2.2):onlyB (l.flatMap fun x=>x.2.2)=1:=by
 unfold onlyB
 rw [items_enc l h,if_pos]
 rw [List.all_map,List.all_eq_true]
 intro x hx
 rfl
end Go.Proofs.YtmnleknehjkmgaaGreatDoor
namespace Go.Proofs.YtmnleknehjkmgaaGreatDoor
open Go.RowKit
def BytesB (w:World) (A:Option Addr) (xs:List UInt8):Prop:=
 xs=[]∨∃ b off,A=some ⟨b,off,none⟩∧∀ j (h:j<xs.length),w.cell? ⟨b,off+j,none⟩=some (.int .u8 (xs[j].toNat:Int))
theorem BytesB.at_ {w:World} {A:Option Addr} {xs:List UInt8} (h:BytesB w A xs) {k:Nat} (hk:k<xs.length):∃ b off,A=some ⟨b,off,none⟩∧w.cell? ⟨b,off+k,none⟩=some (.int .u8 (xs[k].toNat:Int)):=by
 rcases h with rfl | ⟨b,off,rfl,hc⟩
 ·simp at hk
 ·exact ⟨b,off,rfl,hc k hk⟩
theorem BytesB.below {w w':World} {A:Option Addr} {xs:List UInt8} (h:BytesB w A xs) (hb:Below w.heap.size w w'):BytesB w' A xs:=by
 rcases h with rfl | ⟨b,off,rfl,hc⟩
 ·exact .inl rfl
 ·exact .inr ⟨b,off,rfl,fun j hj=>(hb.cell (p:=⟨b,off+j,none⟩) (World.block_lt_of_cell? w _ (hc j hj))).trans (hc j hj)⟩
theorem BytesB.drewN {w:World} {A:Option Addr} {xs:List UInt8} (h:BytesB w A xs) (n:Nat):BytesB (w.drewN n) A xs:=by
 rcases h with rfl | ⟨b,off,rfl,hc⟩
 ·exact .inl rfl
 ·exact .inr ⟨b,off,rfl,fun j hj=>by simpa using hc j hj⟩
end Go.Proofs.YtmnleknehjkmgaaGreatDoor
namespace Go.Proofs.YtmnleknehjkmgaaGreatDoor
open Go.RowKit
theorem IntsAt.below {w w':World} {A:Option Addr} {xs:List Int} (h:IntsAt w A xs) (hb:Below w.heap.size w w'):IntsAt w' A xs:=by
 rcases h with rfl | ⟨b,off,rfl,hc⟩
 ·exact .inl rfl
 ·exact .inr ⟨b,off,rfl,fun j hj=>(hb.cell (p:=⟨b,off+j,none⟩) (World.block_lt_of_cell? w _ (hc j hj))).trans (hc j hj)⟩
def RetBytes (w:World) (xs:List UInt8) (e:Ending) (w':World):Prop:=∃ A cap,e=.returned (.slice A xs.length cap)∧BytesB w' A xs∧Below w.heap.size w w'
def NewA (w:World) (A:Option Addr):Prop:=∀ a,A=some a→w.heap.size≤a.block
def RetBytesN (w:World) (xs:List UInt8) (e:Ending) (w':World):Prop:=∃ A cap,e=.returned (.slice A xs.length cap)∧BytesB w' A xs∧xs.length≤cap∧NewA w A∧Below w.heap.size w w'
theorem RetBytesN.ret {w:World} {xs:List UInt8} {e:Ending} {w':World} (h:RetBytesN w xs e w'):RetBytes w xs e w':=by
 obtain ⟨A,cap,h1,h2,_,_,h3⟩:=h
 exact ⟨A,cap,h1,h2,h3⟩
def lowU (n:Int):UInt8:=(n % 256).toNat.toUInt8
theorem lowU_nat (n:Int):((lowU n).toNat:Int)=n % 256:=by
 unfold lowU
 rw [UInt8.toNat_ofNat_of_lt' (show (n % 256).toNat<256 by omega)]
 omega
def LowRel (w:World) (zs:List Int) (k:Nat) (wr:World):Prop:=
 (∀ j (h:j<zs.length),wr.cell? ⟨w.heap.size,j,none⟩=some (.int .u8 (if j<k then zs[j] % 256 else 0)))∧(∀ j,j<zs.length→wr.frozen? ⟨w.heap.size,j,none⟩=false)∧Below w.heap.size w wr
theorem lowRel_start (w:World) (zs:List Int) (e:TypeId):LowRel w zs 0 (w.alloc (.cells (madeCells #[.int .u8 0] zs.length) e)):=by
 refine ⟨fun j h=>?_,fun j h=>?_,(Below.refl _ _).alloc (Nat.le_refl _) _⟩
 ·rw [if_neg (by omega)]
  simp [go_sem,madeCells,h,Nat.mod_one]
 ·simp [go_sem]
theorem lowRel_next (w wr:World) (zs:List Int) (k:Nat) (hk:k<zs.length) (hr:LowRel w zs k wr):LowRel w zs (k+1) (wr.setCell ⟨w.heap.size,k,none⟩ (.int .u8 (zs[k] % 256))):=by
 obtain ⟨r1,r2,r3⟩:=hr
 refine ⟨fun j hj=>?_,fun j hj=>?_,r3.setCell (by simp) _⟩
 ·by_cases e:j=k
  ·subst e
   have:=r1 _ hj
   rw [if_pos (by omega)]
   simp [go_sem,this]
  ·rw [World.cell?_setCell_other _ _ _ _ (by simp),r1 j hj]
   by_cases h1:j<k
   ·rw [if_pos h1,if_pos (by omega)]
   ·rw [if_neg h1,if_neg (by omega)]
 ·simp [go_sem,r2 j hj]
theorem lowRel_end (w wr:World) (zs:List Int) (hr:LowRel w zs zs.length wr):RetBytesN w (zs.map lowU) (.returned (.slice (some ⟨w.heap.size,0,none⟩) zs.length zs.length)) wr:=by
 refine ⟨some ⟨w.heap.size,0,none⟩,zs.length,by rw [List.length_map],.inr ⟨_,0,rfl,fun j hj=>?_⟩,by rw [List.length_map];exact Nat.le_refl _,fun a h=>(by cases h;exact Nat.le_refl _),hr.2.2⟩
 have hj':j<zs.length:=by simpa using hj
 rw [Nat.zero_add,hr.1 j hj',if_pos hj']
 simp [lowU_nat]
theorem lowN_any (A:Option Addr) (cap:Nat) (zs:List Int) (hl:zs.length≤281474976710656) (w:World) (hz:IntsAt w A zs) :
  Calls Tryz.prog 120 #[.slice A zs.length cap] w (RetBytesN w (zs.map lowU)):=by
 have Z:=Lib.hid hz
 clear hz
 have hmk:=fun w=>run_make_row' (P:=Tryz.prog) 27 5 (.int .u8 0) 1 Tryz.underlying27 info_u8 rfl .i64 .i64 zs.length (by omega) (by omega) w
 have S:=Lib.hid (lowRel_start w zs 5)
 go_enter Tryz.func120,Tryz.ntmps120
 go_wp2
 clear hmk
 go_loopw [11] (fun i wr=>∃ k:Nat,k≤zs.length∧i=.int .i64 k∧LowRel w zs k wr) (fun i _=>zs.length - (intOf i).toNat)
 case atStart=>exact ⟨0,Nat.zero_le _,rfl,S.out⟩
 case round=>
  obtain ⟨k,hk,rfl,hr⟩:=hrel
  have R:=Lib.hid hr
  clear hr
  by_cases hlt:k<zs.length
  ·obtain ⟨b,off,hA,g0⟩:=(Z.out.below R.out.2.2).at_ hlt
   subst hA
   have g1:=R.out.1 k hlt
   rw [if_neg (by omega)] at g1
   have g2:=R.out.2.1 k hlt
   have N:=Lib.hid (lowRel_next w wr zs k hlt R.out)
   have hw:=IntKind.wrap_u8 zs[k]
   go_wp2
   go_roundw
   case rel=>exact ⟨k+1,by omega,by go_num,N.out⟩
   case measure=>simp [intOf];omega
  ·obtain rfl:k=zs.length:=by omega
   have N:=Lib.hid (lowRel_end w wr zs R.out)
   go_wp2
   go_ret
   exact N.out
theorem low_any (A:Option Addr) (cap:Nat) (zs:List Int) (hl:zs.length≤281474976710656) (w:World) (hz:IntsAt w A zs) :
  Calls Tryz.prog 120 #[.slice A zs.length cap] w (RetBytes w (zs.map lowU)):=(lowN_any A cap zs hl w hz).mono fun _ _ h=>h.ret
end Go.Proofs.YtmnleknehjkmgaaGreatDoor
namespace Go.Proofs.YtmnleknehjkmgaaGreatDoor
open Go.RowKit Go.Shelf
attribute [local go_sem] Oper.semAt_some
attribute [local irreducible] Go.Mixed.wpMix
structure Wri where
 page:Int
 op:Int
 m:Str
 v:Value
 ex:Str
 al:Bool
 d:Int
 n:Int
def Wri.cells (h:Wri) (u:Value):Array Value:=#[.int .i64 h.page,.int .u8 h.op,.string (sB h.m),h.v,.string (sB h.ex),.bool h.al,.int .i64 h.d,.int .i64 h.n,u]
def WrAt (w:World) (B b:Nat) (h:Wri) (xs:Str):Prop:=∃ A c,w.heap[b]?=some (.cells (h.cells (.slice A xs.length c)) 97 (0,0))∧TOwnB w B (.slice A xs.length c) xs
structure WKp (b:Nat) (w w':World):Prop where
 size:w.heap.size≤w'.heap.size
 same:∀ k,k<w.heap.size→k≠b→(∀ cur,w.heap[k]?≠some (.cells cur 5 (0,0)))→w'.heap[k]?=w.heap[k]?
theorem WKp.refl (b:Nat) (w:World):WKp b w w:=⟨Nat.le_refl _,fun _ _ _ _=>rfl⟩
theorem WKp.of_below {b:Nat} {w w':World} (h:Below w.heap.size w w'):WKp b w w':=⟨h.size,fun k hk _ _=>h.block k hk⟩
theorem WKp.trans {b:Nat} {w w' w'':World} (h:WKp b w w') (h':WKp b w' w''):WKp b w w'':=
 ⟨Nat.le_trans h.size h'.size,fun k hk hb ht=>(h'.same k (Nat.lt_of_lt_of_le hk h.size) hb (fun cur e=>ht cur (by rw [← h.same k hk hb ht];exact e))).trans (h.same k hk hb ht)⟩
theorem WKp.set {b:Nat} {w w':World} (h:WKp b w w') (j:Nat) (u:Value):WKp b w (w'.setCell ⟨b,j,none⟩ u):=
 ⟨by simpa using h.size,fun k hk hb ht=>(heap_setCell_other w' ⟨b,j,none⟩ k u hb).trans (h.same k hk hb ht)⟩
theorem upA (w:World) (o:Obj):Below w.heap.size w (w.alloc o):=(Below.refl _ _).alloc (Nat.le_refl _) _
theorem own_u8 {w:World} {n:Nat} {u:Value} {xs:Str} (h:TOwnB w n u xs) {g:Nat} (e:u.ownBlock=some g):∃ cur,w.heap[g]?=some (.cells cur 5 (0,0)):=by
 rcases h.2 with ⟨rfl,_⟩ | ⟨g',cap,cur,rfl,_,h2,_⟩
 ·cases e
 ·cases e
  exact ⟨cur,h2⟩
theorem WKp.grown {b B:Nat} {w w':World} {v:Value} {xs:Str} (h:TOwnB w B v xs) (g:w.grownBy w' v.ownBlock):WKp b w w':=
 ⟨g.size,fun k hk _ ht=>g.block k hk (fun e=>by obtain ⟨cur,hc⟩:=own_u8 h e.symm;exact ht cur hc)⟩
section
variable {w w':World} {B b:Nat} {h:Wri} {xs:Str}
theorem WrAt.lt (H:WrAt w B b h xs):b<w.heap.size:=by obtain ⟨A,c,k,-⟩:=H;exact (Array.getElem?_eq_some_iff.1 k).1
theorem WrAt.below (H:WrAt w B b h xs) (hb:Below w.heap.size w w'):WrAt w' B b h xs:=by
 have hl:=H.lt
 obtain ⟨A,c,k,o⟩:=H
 exact ⟨A,c,(hb.block b hl).trans k,o.below hb⟩
end
theorem wr_cells {w:World} {b:Nat} {h:Wri} {u:Value} (k:w.heap[b]?=some (.cells (h.cells u) 97 (0,0))) :
  w.cell? ⟨b,0,none⟩=some (.int .i64 h.page)∧w.cell? ⟨b,1,none⟩=some (.int .u8 h.op)∧w.cell? ⟨b,4,none⟩=some (.string (sB h.ex))∧w.cell? ⟨b,6,none⟩=some (.int .i64 h.d)∧w.cell? ⟨b,7,none⟩=some (.int .i64 h.n)∧w.cell? ⟨b,8,none⟩=some u∧w.frozen? ⟨b,8,none⟩=false:=
 ⟨Lib.cell_of_heap k 0,Lib.cell_of_heap k 1,Lib.cell_of_heap k 4,Lib.cell_of_heap k 6,Lib.cell_of_heap k 7,Lib.cell_of_heap k 8,Lib.frozen_of_heap k 8⟩
theorem wpList_appBsG {wr:World} {B:Nat} {v:Value} {xs:Str} (h:TOwnB wr B v xs) {A:Option Addr} {c:Nat} {ys:Str} (hP:BytesAt wr A ys) (hB:B≤wr.heap.size) (hs:xs.length+ys.length≤100000) {ops:Array Oper} {rest:List Oper} {o:Oper} {a:Act} {Q:Exit→Act→World→Prop} (hgd:o.guard=none) (s x:Operand)
  (ho:o.op=.call {callee:=.builtin .append,args:=#[s,x],argTypes:=#[27,27]}) (hty:o.type=27) (hsv:a.eval s=v) (m:Nat) (hm:ys.length=m) (hx:a.eval x=.slice A m c) (n:Nat) (hn:xs.length+m=n)
  (k:∀ A' cap' w1,TOwnB w1 B (.slice A' n cap') (xs++ys)→Below B wr w1→wr.grownBy w1 v.ownBlock→wpList Tryz.prog ops Q rest (a.put o.dst (.slice A' n cap')) w1):wpList Tryz.prog ops Q (o :: rest) a wr:=by
 subst hm hn
 obtain ⟨v',w',k1,k2,k3,k4⟩:=run_appBs wr B v xs h A c ys hP hB hs
 obtain ⟨A',cap',rfl,-⟩:=k2.bytes
 rw [List.length_append] at k1 k2
 exact wpList_run_append k1 hgd s x ho hty hsv hx (k A' cap' w' k2 k3 k4)
theorem map_low (zs:List Int):zs.map lowU=zs.map byteI:=rfl
theorem wr_store {w:World} {B b:Nat} {h:Wri} {u:Value} {A:Option Addr} {c:Nat} {xs:Str} (k:w.heap[b]?=some (.cells (h.cells u) 97 (0,0))) (o:TOwnB w B (.slice A xs.length c) xs) :
  WrAt (w.setCell ⟨b,8,none⟩ (.slice A xs.length c)) B b h xs:=by
 refine ⟨A,c,heap_setCell_same w b 8 _ _ _ k,row_set_ne o (fun g hg=>?_) _⟩
 obtain ⟨cur,hc⟩:=own_u8 o hg
 rintro rfl
 rw [k] at hc
 simp at hc
def RetPut (w:World) (B b:Nat) (h:Wri) (zs:Str) (e:Ending) (w':World):Prop:=e=.returned (.tuple #[])∧WrAt w' B b h zs∧Below B w w'∧WKp b w w'
theorem wput_any (B b:Nat) (h:Wri) (xs:Str) (hx:xs.length≤1000) (Al:Option Addr) (cap l:Nat) (zs:List Int) (hl:zs.length=l) (hz:l≤1000) (w:World) (H:WrAt w B b h xs) (hB:B≤b) (hi:IntsAt w Al zs) :
  Calls Tryz.prog 84 #[.pointer (some ⟨b,0,none⟩),.slice Al l cap] w (RetPut w B b h (xs++zs.map byteI)):=by
 have hbw:=H.lt
 obtain ⟨A,c,k,o⟩:=H
 have lw:=fun w' p=>low_any Al cap zs (by omega) w' p
 rw [hl] at lw
 obtain ⟨ys,hys⟩:∃ z,zs.map byteI=z:=⟨_,rfl⟩
 have hyl:ys.length=l:=by rw [← hys,List.length_map,hl]
 rw [map_low,hys] at lw
 rw [hys]
 obtain ⟨n,hn⟩:∃ z,xs.length=z:=⟨_,rfl⟩
 rw [hn] at k o hx
 have HYL:=Lib.hid hyl
 have HN:=Lib.hid hn
 have K:=Lib.hid k
 have O:=Lib.hid o
 have HI:=Lib.hid hi
 clear hi hl hys hyl hn k o
 unfold RetBytes at lw
 rw [HYL.out] at lw
 have LW:=Lib.hid lw
 clear lw
 go_enter Tryz.func84,Tryz.ntmps84
 go_upto_region 0 with fail
 obtain ⟨w1,hw1⟩:∃ z,w.drew=z:=⟨_,rfl⟩
 have hd:Below w.heap.size w w1:=by rw [← hw1];exact below_drewN w _ 1
 have K1:Hid (w1.heap[b]?=some (.cells (h.cells (.slice A n c)) 97 (0,0))):=(hd.block b hbw).trans K.out
 have O1:=Lib.hid (O.out.below hd)
 have I1:Hid (IntsAt w1 Al zs):=by rw [← hw1];exact HI.out
 have B1:=Lib.hid hd
 clear hd K O HI
 refine Mixed.wp_region_mixed (fun w'=>w'.heap[b]?=some (.cells (h.cells (.slice A n c)) 97 (0,0))) 8 [(0,true),(1,true),(2,true),(3,true),(4,true),(5,true),(6,false),(7,false)] (by kernel_rfl) (by kernel_rfl) (by rw [hw1];exact K1.out) ?_
 rw [hw1]
 clear hw1
 refine Mixed.wpMix_pure rfl (by kernel_rfl) (.pointer (some ⟨b,0,none⟩)) (fun w h=>by clear h;go_simp;try rfl) ?_
 refine Mixed.wpMix_pure rfl (by kernel_rfl) (.pointer (some ⟨b,0,none⟩)) (fun w h=>by clear h;go_simp;try rfl) ?_
 refine Mixed.wpMix_pure rfl (by kernel_rfl) (.pointer (some ⟨b,0,none⟩)) (fun w h=>by clear h;go_simp;try rfl) ?_
 refine Mixed.wpMix_pure rfl (by kernel_rfl) (.pointer (some ⟨b,8,none⟩)) (fun w h=>by clear h;go_simp;try rfl) ?_
 refine Mixed.wpMix_pure rfl (by kernel_rfl) (.slice A n c) (fun w h=>by obtain ⟨h0,h1,h2,h3,h4,h5,h6⟩:=wr_cells h;clear h;go_simp;try rfl) ?_
 refine Mixed.wpMix_pure rfl (by kernel_rfl) (.slice Al l cap) (fun w h=>by clear h;go_simp;try rfl) ?_
 refine Mixed.wpMix_loud rfl ?_
 have L1:=LW.out w1 I1.out
 clear LW I1
 go_wp2_with fail
 refine L1.mono ?_
 rintro e w2 ⟨A2,c2,rfl,hP,hb⟩
 have hbw1:b<w1.heap.size:=(Array.getElem?_eq_some_iff.1 K1.out).1
 have K2:Hid (w2.heap[b]?=some (.cells (h.cells (.slice A n c)) 97 (0,0))):=(hb.block b hbw1).trans K1.out
 have O2:=Lib.hid (O1.out.below hb)
 have B2:Hid (Below w.heap.size w w2):=B1.out.trans (hb.mono B1.out.size)
 have P2:Hid (BytesAt w2 A2 ys):=hP
 clear K1 O1 B1 L1 hP hb hbw1
 go_wp2
 refine ⟨K2.out,?_⟩
 refine Mixed.wpMix_loud rfl ?_
 have Z2:Hid (B≤w2.heap.size):=by have:=B2.out.size;show _≤_;omega
 refine wpList_appBsG (ys:=ys) O2.out P2.out Z2.out (by rw [HN.out,HYL.out];omega) rfl _ _ rfl rfl rfl l HYL.out rfl (n+l) (by rw [HN.out]) ?_
 intro A3 c3 w3 h1 h2 h3
 have K3:Hid (w3.heap[b]?=some (.cells (h.cells (.slice A n c)) 97 (0,0))):=(h3.block b (by have:=B2.out.size;omega) (fun e=>by
  obtain ⟨cur,hc⟩:=own_u8 O2.out e.symm
  rw [K2.out] at hc
  simp at hc)).trans K2.out
 have O3:=Lib.hid h1
 have B3:Hid (Below B w w3):=(B2.out.mono (by omega)).trans h2
 have W3:Hid (WKp b w w3):=(WKp.of_below B2.out).trans (WKp.grown O2.out h3)
 clear h1 h2 h3 O2 P2 B2 Z2 K2
 go_wp2
 refine ⟨K3.out,?_⟩
 simp only [Mixed.wpMix]
 obtain ⟨e0,e1,e2,e3,e4,e5,e6⟩:=wr_cells K3.out
 have F:Hid (RetPut w B b h (xs++ys) (.returned (.tuple #[])) (w3.setCell ⟨b,8,none⟩ (.slice A3 (n+l) c3))):=by
  have hln:(xs++ys).length=n+l:=by rw [List.length_append,HN.out,HYL.out]
  have o3:=O3.out
  rw [← hln] at o3 ⊢
  exact ⟨rfl,wr_store K3.out o3,B3.out.setCell (by simpa using hB) _,W3.out.set 8 _⟩
 clear e0 e1 e2 e3 e4
 go_wp2
 refine bodyPost_end (v:=.tuple #[]) ?_ rfl F.out
 simp [results,Tryz.results84,go_sem]
end Go.Proofs.YtmnleknehjkmgaaGreatDoor
namespace Go.Proofs.YtmnleknehjkmgaaGreatDoor
open Go.RowKit Go.Shelf
attribute [local go_sem] Oper.semAt_some
attribute [local irreducible] Go.Mixed.wpMix
theorem ints_new1 (w:World) (x:Int):IntsAt (w.alloc (.cells #[.int .i64 x] 3)) (some ⟨w.heap.size,0,none⟩) [x]:=by
 refine .inr ⟨_,_,rfl,fun j hj=>?_⟩
 obtain rfl:j=0:=by simp at hj;omega
 rw [Lib.cell_of_heap (heap_alloc_new w _)]
 rfl
theorem ints_new2 (w:World) (x y:Int):IntsAt (w.alloc (.cells #[.int .i64 x,.int .i64 y] 3)) (some ⟨w.heap.size,0,none⟩) [x,y]:=by
 refine .inr ⟨_,_,rfl,fun j hj=>?_⟩
 rw [Lib.cell_of_heap (heap_alloc_new w _)]
 have:j=0∨j=1:=by simp at hj;omega
 rcases this with rfl | rfl <;> rfl
theorem RetPut.from {w w1:World} {B b:Nat} {h:Wri} {zs:Str} {e:Ending} {w':World} (hb:Below w.heap.size w w1) (hB:B≤w.heap.size) (r:RetPut w1 B b h zs e w'):RetPut w B b h zs e w':=
 ⟨r.1,r.2.1,(hb.mono hB).trans r.2.2.1,(WKp.of_below hb).trans r.2.2.2⟩
theorem wdisp_any (B b:Nat) (h:Wri) (xs:Str) (hx:xs.length≤1000) (w:World) (H:WrAt w B b h xs) (hB:B≤b) :
  Calls Tryz.prog 61 #[.pointer (some ⟨b,0,none⟩)] w (RetPut w B b h (xs++[byteI h.d])):=by
 have hbw:=H.lt
 have hal:=upA w (.cells #[.int .i64 h.d] 3)
 have P:=wput_any B b h xs hx (some ⟨w.heap.size,0,none⟩) 1 1 [h.d] rfl (by omega) _ (H.below hal) hB (ints_new1 w h.d)
 have P:=Lib.hid (P.mono fun e w' r=>r.from hal (by omega))
 obtain ⟨A,c,k,o⟩:=H
 obtain ⟨e0,e1,e2,e3,e4,e5,e6⟩:=wr_cells k
 clear hal k o e0 e1 e2 e5 e6
 obtain ⟨x,hx⟩:∃ x,h.d=x:=⟨_,rfl⟩
 simp only [hx] at e3 e4 P ⊢
 clear hx
 go_enter Tryz.func61,Tryz.ntmps61
 go_wp2_with fail
 refine P.out.mono ?_
 rintro e w1 ⟨rfl,h1⟩
 have R:=Lib.hid h1
 clear h1 P
 go_wp2
 refine bodyPost_end (v:=.tuple #[]) ?_ rfl ⟨rfl,R.out⟩
 simp [results,Tryz.results61,go_sem]
theorem wbyte_any (B b:Nat) (h:Wri) (xs:Str) (hx:xs.length≤1000) (w:World) (H:WrAt w B b h xs) (hB:B≤b) :
  Calls Tryz.prog 86 #[.pointer (some ⟨b,0,none⟩)] w (RetPut w B b h (xs++[byteI h.n])):=by
 have hbw:=H.lt
 have hal:=upA w (.cells #[.int .i64 h.n] 3)
 have P:=wput_any B b h xs hx (some ⟨w.heap.size,0,none⟩) 1 1 [h.n] rfl (by omega) _ (H.below hal) hB (ints_new1 w h.n)
 have P:=Lib.hid (P.mono fun e w' r=>r.from hal (by omega))
 obtain ⟨A,c,k,o⟩:=H
 obtain ⟨e0,e1,e2,e3,e4,e5,e6⟩:=wr_cells k
 clear hal k o e0 e1 e2 e5 e6
 obtain ⟨x,hx⟩:∃ x,h.n=x:=⟨_,rfl⟩
 simp only [hx] at e3 e4 P ⊢
 clear hx
 go_enter Tryz.func86,Tryz.ntmps86
 go_wp2_with fail
 refine P.out.mono ?_
 rintro e w1 ⟨rfl,h1⟩
 have R:=Lib.hid h1
 clear h1 P
 go_wp2
 refine bodyPost_end (v:=.tuple #[]) ?_ rfl ⟨rfl,R.out⟩
 simp [results,Tryz.results86,go_sem]
theorem wword_any (B b:Nat) (h:Wri) (xs:Str) (hx:xs.length≤1000) (w:World) (H:WrAt w B b h xs) (hB:B≤b) :
  Calls Tryz.prog 87 #[.pointer (some ⟨b,0,none⟩)] w (RetPut w B b h (xs++[byteI h.n,byteI (h.n / 256)])):=by
 have hbw:=H.lt
 obtain ⟨w1,hw1⟩:∃ z,w.drew=z:=⟨_,rfl⟩
 have hd:Below w.heap.size w w1:=by rw [← hw1];exact below_drewN w _ 1
 have hal:=upA w1 (.cells #[.int .i64 h.n,.int .i64 (h.n / 256)] 3)
 have P:=wput_any B b h xs hx (some ⟨w1.heap.size,0,none⟩) 2 2 [h.n,h.n / 256] rfl (by omega) _ ((H.below hd).below hal) hB (ints_new2 w1 h.n (h.n / 256))
 have P:=Lib.hid (P.mono fun e w' r=>(r.from hal (by have:=hd.size;omega)).from hd (by omega))
 obtain ⟨A,c,k,o⟩:=H
 have K:Hid (w1.heap[b]?=some (.cells (h.cells (.slice A xs.length c)) 97 (0,0))):=(hd.block b hbw).trans k
 have K2:Hid ((w1.alloc (.cells #[.int .i64 h.n,.int .i64 (h.n / 256)] 3)).heap[b]?=some (.cells (h.cells (.slice A xs.length c)) 97 (0,0))):=(hal.block b (by have:=hd.size;omega)).trans K.out
 clear hal hd k o
 go_enter Tryz.func87,Tryz.ntmps87
 go_upto_region 0 with fail
 refine Mixed.wp_region_mixed (fun w'=>w'.heap[b]?=some (.cells (h.cells (.slice A xs.length c)) 97 (0,0))) 11 [(0,true),(1,true),(2,true),(3,true),(4,true),(5,true),(6,true),(7,true),(8,true),(9,true),(10,false)] (by kernel_rfl) (by kernel_rfl) (by rw [hw1];exact K.out) ?_
 rw [hw1]
 clear hw1 K
 refine Mixed.wpMix_pure rfl (by kernel_rfl) (.pointer (some ⟨b,0,none⟩)) (fun w h=>by clear h;go_simp;try rfl) ?_
 refine Mixed.wpMix_pure rfl (by kernel_rfl) (.pointer (some ⟨b,0,none⟩)) (fun w h=>by clear h;go_simp;try rfl) ?_
 refine Mixed.wpMix_pure rfl (by kernel_rfl) (.pointer (some ⟨b,0,none⟩)) (fun w h=>by clear h;go_simp;try rfl) ?_
 refine Mixed.wpMix_pure rfl (by kernel_rfl) (.pointer (some ⟨b,7,none⟩)) (fun w h=>by clear h;go_simp;try rfl) ?_
 refine Mixed.wpMix_pure rfl (by kernel_rfl) (.int .i64 h.n) (fun w h=>by obtain ⟨h0,h1,h2,h3,h4,h5,h6⟩:=wr_cells h;clear h;go_simp;try rfl) ?_
 refine Mixed.wpMix_pure rfl (by kernel_rfl) (.pointer (some ⟨b,0,none⟩)) (fun w h=>by clear h;go_simp;try rfl) ?_
 refine Mixed.wpMix_pure rfl (by kernel_rfl) (.pointer (some ⟨b,0,none⟩)) (fun w h=>by clear h;go_simp;try rfl) ?_
 refine Mixed.wpMix_pure rfl (by kernel_rfl) (.pointer (some ⟨b,7,none⟩)) (fun w h=>by clear h;go_simp;try rfl) ?_
 refine Mixed.wpMix_pure rfl (by kernel_rfl) (.int .i64 h.n) (fun w h=>by obtain ⟨h0,h1,h2,h3,h4,h5,h6⟩:=wr_cells h;clear h;go_simp;try rfl) ?_
 refine Mixed.wpMix_pure rfl (by kernel_rfl) (.int .i64 (h.n / 256)) (fun w h=>by clear h;go_simp;try rfl) ?_
 refine Mixed.wpMix_loud rfl ?_
 go_wp2
 refine ⟨K2.out,?_⟩
 clear K2
 simp only [Mixed.wpMix]
 go_wp2_with fail
 refine P.out.mono ?_
 rintro e w2 ⟨rfl,h1⟩
 have R:=Lib.hid h1
 clear h1 P
 go_wp2
 refine bodyPost_end (v:=.tuple #[]) ?_ rfl ⟨rfl,R.out⟩
 simp [results,Tryz.results87,go_sem]
end Go.Proofs.YtmnleknehjkmgaaGreatDoor
namespace Go.Proofs.YtmnleknehjkmgaaGreatDoor
open Go.RowKit Go.Maps
def heldV (v:Value):Option (DataW Value×List MemPlace):=some (.held v,[])
def methV (f b:Nat):Value:=.func (.func f) #[.pointer (some ⟨b,0,none⟩)] #[]
def partsD (b:Nat):DataW Value:=((((DataW.map []).put (.int .i32 100) (.held (methV 61 b))).put (.int .i32 101) (.held (methV 86 b))).put (.int .i32 110) (.held (methV 86 b))).put (.int .i32 119) (.held (methV 87 b))
theorem keyI:Keyed Tryz.prog 21:=int_keyed Tryz.underlying21
def PtAt (w:World) (g b:Nat):Prop:=w.ownsMap Tryz.prog 21 heldV g 4 (partsD b)
theorem PtAt.lt {w:World} {g b:Nat} (h:PtAt w g b):g<w.heap.size:=World.ownsMap.lt h
theorem PtAt.below {w w':World} {g b:Nat} (h:PtAt w g b) (k:Below w.heap.size w w'):PtAt w' g b:=World.ownsMap.kept h (row:=none) ⟨k.os,k.tape,k.output,k.size,fun i hi _=>k.block i hi⟩ (by simp)
theorem PtAt.kept {w w':World} {g b:Nat} (h:PtAt w g b) (hg:g≠b) (k:WKp b w w'):PtAt w' g b:=by
 have hl:=h.lt
 obtain ⟨es,clock,hb,F,hs,hD⟩:=h
 exact ⟨es,clock,(k.same g hl hg (fun cur e=>by rw [hb] at e;cases e)).trans hb,F,hs,hD⟩
theorem wpList_insertW {ops:Array Oper} {rest:List Oper} {o:Oper} {a:Act} {Q:Exit→Act→World→Prop} {w:World} {g n:Nat} {D:DataW Value} (hgd:o.guard=none) (m x v:Operand)
  (ho:o.op=.insert 118 m x v) (hd:o.dst=none) (hown:w.ownsMap Tryz.prog 21 heldV g n D) (hn:n≤1000) (hm:a.eval m=.map (some g)) (key:Int) (hw:(Lit.int .i32 key).wf=true) (hx:a.eval x=.int .i32 key) (val:Value) (hv:a.eval v=val)
  (k:∀ w',w'.ownsMap Tryz.prog 21 heldV g (n+1) (D.put (.int .i32 key) (.held val))→w.grownBy w' (some g)→wpList Tryz.prog ops Q rest a w'):wpList Tryz.prog ops Q (o :: rest) a w:=by
 obtain ⟨w',hrun,r1,r2⟩:=hown.update keyI Tryz.underlying118 (show n<maxLen by unfold maxLen;omega) (keyOf_int_mk Tryz.underlying21 hw) (show heldV val=some (.held val,[]) from rfl)
 have ih:=k w' r1 r2
 refine wpList_plain hgd fun K' hK'=>?_
 unfold Oper.wp
 simp [execOp,ho,hm,hx,hv,hrun,Result.andThen]
 have e:a.put o.dst undef=a:=by rw [hd];rfl
 unfold Oper.upon
 rw [e]
 exact hK' _ _ ih
theorem zero_fn (w:World):∃ z,(zeroValue 1).run Tryz.prog w=.ok z w:=⟨.nilFunc,by kernel_rfl⟩
theorem look_part {w:World} {g b:Nat} (h:PtAt w g b) (c:Int) (f:Nat) (hw:(Lit.int .i32 c).wf=true) (hh:Maps.has (partsD b) (.int .i32 c)=true) (ha:∀ z,(partsD b).atKey (.int .i32 c) z=.held (methV f b)) :
  (Instr.lookup 118 (.map (some g)) (.int .i32 c) true).run Tryz.prog w=.ok (.tuple #[methV f b,.bool true]) w:=by
 obtain ⟨z,hz⟩:=zero_fn w
 obtain ⟨v,ps,hrun,hv⟩:=World.ownsMap.look_ok h keyI Tryz.underlying118 hz (show heldV z=some (.held z,[]) from rfl) (keyOf_int_mk Tryz.underlying21 hw)
 rw [ha] at hv
 rw [hh] at hrun
 have e:v=methV f b:=by
  unfold heldV at hv
  simp only [Option.some.injEq,Prod.mk.injEq,DataW.held.injEq] at hv
  exact hv.1
 rw [← e]
 exact hrun
theorem look_100 {w:World} {g b:Nat} (h:PtAt w g b):(Instr.lookup 118 (.map (some g)) (.int .i32 100) true).run Tryz.prog w=.ok (.tuple #[methV 61 b,.bool true]) w:=look_part h 100 _ (by decide) rfl fun z=>rfl
theorem look_101 {w:World} {g b:Nat} (h:PtAt w g b):(Instr.lookup 118 (.map (some g)) (.int .i32 101) true).run Tryz.prog w=.ok (.tuple #[methV 86 b,.bool true]) w:=look_part h 101 _ (by decide) rfl fun z=>rfl
theorem look_110 {w:World} {g b:Nat} (h:PtAt w g b):(Instr.lookup 118 (.map (some g)) (.int .i32 110) true).run Tryz.prog w=.ok (.tuple #[methV 86 b,.bool true]) w:=look_part h 110 _ (by decide) rfl fun z=>rfl
theorem look_119 {w:World} {g b:Nat} (h:PtAt w g b):(Instr.lookup 118 (.map (some g)) (.int .i32 119) true).run Tryz.prog w=.ok (.tuple #[methV 87 b,.bool true]) w:=look_part h 119 _ (by decide) rfl fun z=>rfl
theorem wparts_any (b:Nat) (w:World):Calls Tryz.prog 63 #[.pointer (some ⟨b,0,none⟩)] w fun e w'=>∃ g,e=.returned (.map (some g))∧PtAt w' g b∧w.heap.size≤g∧Below w.heap.size w w':=by
 have hmm:=@run_makeMap Tryz.prog
 have B0:=Lib.hid ((Below.refl w.heap.size w).alloc (Nat.le_refl _) (.map #[] 0))
 have M0:=Lib.hid (World.ownsMap_made (H:=Value) w Tryz.prog 21 heldV)
 have BF:=Lib.hid (show ∀ w1 w2:World,Below w.heap.size w w1→w1.grownBy w2 (some w.heap.size)→Below w.heap.size w w2 from fun w1 w2 h g=>h.grown g h.size fun k hk=>by cases hk;exact Nat.le_refl _)
 go_enter Tryz.func63,Tryz.ntmps63
 go_wp2_with (first | (refine wpList_insertW rfl _ _ _ rfl rfl M0.out (by decide) rfl 100 (by decide) rfl _ rfl ?_;intro w1 h1 g1;have M1:=Lib.hid h1;have B1:=Lib.hid (BF.out _ _ B0.out g1);clear h1 g1 M0 B0) | (refine wpList_insertW rfl _ _ _ rfl rfl M1.out (by decide) rfl 101 (by decide) rfl _ rfl ?_;intro w2 h1 g1;have M2:=Lib.hid h1;have B2:=Lib.hid (BF.out _ _ B1.out g1);clear h1 g1 M1 B1) | (refine wpList_insertW rfl _ _ _ rfl rfl M2.out (by decide) rfl 110 (by decide) rfl _ rfl ?_;intro w3 h1 g1;have M3:=Lib.hid h1;have B3:=Lib.hid (BF.out _ _ B2.out g1);clear h1 g1 M2 B2) | (refine wpList_insertW rfl _ _ _ rfl rfl M3.out (by decide) rfl 119 (by decide) rfl _ rfl ?_;intro w4 h1 g1;have M4:=Lib.hid h1;have B4:=Lib.hid (BF.out _ _ B3.out g1);clear h1 g1 M3 B3) | fail)
 go_ret
 exact ⟨_,rfl,M4.out,Nat.le_refl _,B4.out⟩
end Go.Proofs.YtmnleknehjkmgaaGreatDoor
namespace Go.Proofs.YtmnleknehjkmgaaGreatDoor
open Go.RowKit Go.Shelf
attribute [local go_sem] Oper.semAt_some
attribute [local irreducible] Go.Mixed.wpMix
def base0 (page:Int) (d:Int):Str:=preS page++if 5≤page then [byteI d] else []
theorem byteI_u8 (c:UInt8):byteI (c.toNat:Int)=c:=by
 have h:=byteI_nat (c.toNat:Int)
 have:=c.toNat_lt
 refine UInt8.toNat_inj.1 ?_
 omega
theorem enc_base (page:Int) (op:UInt8) (ex:Str) (d n:Int):encB page (op.toNat:Int) ex d n=base0 page d++[op]++(behS page ex).flatMap (letB d n):=by
 unfold encB base0 behS
 rw [byteI_u8]
 by_cases h:5≤page
 ·simp [if_pos h]
 ·simp [if_neg h]
theorem pre_len (page:Int):(preS page).length≤2:=by
 unfold preS
 repeat' split
 all_goals simp
structure WrL (w wr:World) (B b it g:Nat) (h:Wri) (s2 base:Str) (d n:Int) (j:Nat):Prop where
 le:j≤s2.length
 iter:wr.heap[it]?=some (.stringIter (sB s2) j)
 wrt:WrAt wr B b h (base++(s2.take j).flatMap (letB d n))
 pt:PtAt wr g b
 bel:Below B w wr
structure WrF (B b it g:Nat) (s2 base:Str):Prop where
 hB:B≤b
 hit:b<it
 hg:b<g
 hgi:g<it
 lb:base.length≤10
 ls:s2.length≤2
theorem flat_le (s2:Str) (d n:Int) (j:Nat) (h:s2.length≤2):((s2.take j).flatMap (letB d n)).length≤4:=by
 have hle:∀ t:Str,(t.flatMap (letB d n)).length≤2*t.length:=fun t=>by
  induction t with
  | nil=>simp
  | cons c t ih=>
   rw [List.flatMap_cons,List.length_append,List.length_cons]
   have:(letB d n c).length≤2:=by unfold letB;split <;> (try split) <;> simp
   omega
 have:=hle (s2.take j)
 have h2:=hle (s2.take j)
 rw [List.length_take] at h2
 omega
theorem WrL.len {w wr:World} {B b it g:Nat} {h:Wri} {s2 base:Str} {d n:Int} {j:Nat} (H:WrL w wr B b it g h s2 base d n j) (F:WrF B b it g s2 base):(base++(s2.take j).flatMap (letB d n)).length≤1000:=by
 have:=flat_le s2 d n j F.ls
 have:=F.lb
 rw [List.length_append]
 omega
theorem WrL.next {w wr:World} {B b it g:Nat} {h:Wri} {s2 base:Str} {d n:Int} {j:Nat} (H:WrL w wr B b it g h s2 base d n j) (F:WrF B b it g s2 base) :
  WrAt (wr.iterAt it (sB s2) (j+1)) B b h (base++(s2.take j).flatMap (letB d n))∧PtAt (wr.iterAt it (sB s2) (j+1)) g b∧Below B w (wr.iterAt it (sB s2) (j+1))∧(wr.iterAt it (sB s2) (j+1)).heap[it]?=some (.stringIter (sB s2) (j+1)):=by
 have h1:=F.hB
 have h2:=F.hit
 have h3:=F.hgi
 refine ⟨?_,?_,Lib.below_iterAt H.bel (by omega) _ _,Lib.iterAt_heap _ _ _ _ _ H.iter⟩
 ·obtain ⟨A,c,k,o⟩:=H.wrt
  refine ⟨A,c,(Lib.iterAt_other _ _ _ _ _ (by omega)).trans k,o.1,?_⟩
  rcases o.2 with e | ⟨g',cap,cur,e1,e2,e3,e4⟩
  ·exact .inl e
  ·refine .inr ⟨g',cap,cur,e1,e2,(Lib.iterAt_other _ _ _ _ _ (fun e=>?_)).trans e3,e4⟩
   subst e
   have:=H.iter
   rw [e3] at this
   simp at this
 ·obtain ⟨es,clock,hb,r⟩:=H.pt
  exact ⟨es,clock,(Lib.iterAt_other _ _ _ _ _ (by omega)).trans hb,r⟩
theorem WrL.put {w wr w':World} {B b it g:Nat} {h:Wri} {s2 base:Str} {d n:Int} {j:Nat} (H:WrL w wr B b it g h s2 base d n j) (F:WrF B b it g s2 base) (hj:j<s2.length)
  (X:WrAt w' B b h (base++(s2.take j).flatMap (letB d n)++letB d n s2[j])) (hb:Below B (wr.iterAt it (sB s2) (j+1)) w') (K:WKp b (wr.iterAt it (sB s2) (j+1)) w'):WrL w w' B b it g h s2 base d n (j+1):=by
 obtain ⟨n1,n2,n3,n4⟩:=H.next F
 have h2:=F.hit
 have h3:=F.hgi
 have h4:=F.hg
 refine ⟨hj,?_,?_,n2.kept (by omega) K,n3.trans hb⟩
 ·exact (K.same it (Array.getElem?_eq_some_iff.1 n4).1 (by omega) (fun cur e=>by rw [n4] at e;cases e)).trans n4
 ·have e:base++(s2.take (j+1)).flatMap (letB d n)=base++(s2.take j).flatMap (letB d n)++letB d n s2[j]:=by
   rw [List.take_succ_eq_append_getElem hj,List.flatMap_append,List.append_assoc]
   simp
  rw [e]
  exact X
theorem wr_start {w w0:World} {B b g:Nat} {h:Wri} {s2 base:Str} {d n:Int} (X:WrAt w0 B b h base) (P:PtAt w0 g b) (hb:Below B w w0) (hB:B≤w0.heap.size):WrL w (w0.iter (sB s2) 0) B b w0.heap.size g h s2 base d n 0:=by
 have hal:Below w0.heap.size w0 (w0.iter (sB s2) 0):=upA w0 _
 refine ⟨Nat.zero_le _,World.iter_heap _ _ _,?_,P.below hal,hb.trans (hal.mono hB)⟩
 have:=X.below hal
 simpa using this
theorem wwrite_any (B b:Nat) (page:Int) (op:UInt8) (m:Str) (v:Value) (ex:Str) (al:Bool) (d n:Int) (hpg:page≤6) (hhi:5≤page→ex=[100]) (hlen:(behS page ex).length≤2) (hlet:∀ k (hk:k<(behS page ex).length),(behS page ex)[k]=100∨(behS page ex)[k]=101∨(behS page ex)[k]=110∨(behS page ex)[k]=119) (w:World) (H:WrAt w B b ⟨page,(op.toNat:Int),m,v,ex,al,d,n⟩ []) (hB:B≤b) :
  Calls Tryz.prog 44 #[.pointer (some ⟨b,0,none⟩)] w fun e w'=>e=.returned (.tuple #[])∧WrAt w' B b ⟨page,(op.toNat:Int),m,v,ex,al,d,n⟩ (encB page (op.toNat:Int) ex d n)∧Below B w w':=by
 obtain ⟨h,hh⟩:∃ h:Wri,(⟨page,(op.toNat:Int),m,v,ex,al,d,n⟩:Wri)=h:=⟨_,rfl⟩
 have hp0:h.page=page:=by rw [← hh]
 have hp1:h.op=(op.toNat:Int):=by rw [← hh]
 have hp4:h.ex=ex:=by rw [← hh]
 have hp6:h.d=d:=by rw [← hh]
 have hp7:h.n=n:=by rw [← hh]
 rw [hh] at H ⊢
 have WC:Hid (∀ (w:World) (u:Value),w.heap[b]?=some (.cells (h.cells u) 97 (0,0))→w.cell? ⟨b,0,none⟩=some (.int .i64 page)∧w.cell? ⟨b,1,none⟩=some (.int .u8 (op.toNat:Int))∧w.cell? ⟨b,4,none⟩=some (.string (sB ex))∧w.cell? ⟨b,8,none⟩=some u∧w.frozen? ⟨b,8,none⟩=false):=fun w u k=>by
  obtain ⟨k0,k1,k2,k3,k4,k5,k6⟩:=wr_cells k
  rw [hp0] at k0
  rw [hp1] at k1
  rw [hp4] at k2
  exact ⟨k0,k1,k2,k5,k6⟩
 have WD:Hid (∀ xs,xs.length≤1000→∀ w,WrAt w B b h xs→Calls Tryz.prog 61 #[.pointer (some ⟨b,0,none⟩)] w (RetPut w B b h (xs++[byteI d]))):=fun xs hx w H=>by rw [← hp6];exact wdisp_any B b h xs hx w H hB
 have WB:Hid (∀ xs,xs.length≤1000→∀ w,WrAt w B b h xs→Calls Tryz.prog 86 #[.pointer (some ⟨b,0,none⟩)] w (RetPut w B b h (xs++[byteI n]))):=fun xs hx w H=>by rw [← hp7];exact wbyte_any B b h xs hx w H hB
 have WW:Hid (∀ xs,xs.length≤1000→∀ w,WrAt w B b h xs→Calls Tryz.prog 87 #[.pointer (some ⟨b,0,none⟩)] w (RetPut w B b h (xs++[byteI n,byteI (n / 256)]))):=fun xs hx w H=>by rw [← hp7];exact wword_any B b h xs hx w H hB
 have EB:=Lib.hid (enc_base page op ex d n)
 obtain ⟨s2,hs2⟩:∃ z,behS page ex=z:=⟨_,rfl⟩
 rw [hs2] at EB hlen hlet
 have HL:=Lib.hid hlet
 have HS2:=Lib.hid hs2
 have HHI:=Lib.hid hhi
 clear hlet hs2 hhi
 obtain ⟨bs,hbs⟩:∃ z,encB page (op.toNat:Int) ex d n=z:=⟨_,rfl⟩
 rw [hbs] at EB ⊢
 have hbw:=H.lt
 obtain ⟨A,c,k,o⟩:=H
 obtain ⟨pre,hpre⟩:∃ z,preS page=z:=⟨_,rfl⟩
 have hpl:=pre_len page
 rw [hpre] at hpl
 have PR:=Lib.hid (fun w=>prefixes_any page w)
 rw [hpre] at PR
 have HPRE:=Lib.hid hpre
 have K:=Lib.hid k
 have O:=Lib.hid o
 simp only [List.length_nil] at K O
 clear k o hpre hh hp0 hp1 hp4 hp6 hp7 hbs
 go_enter Tryz.func44,Tryz.ntmps44
 go_upto_region 0 with fail
 obtain ⟨w1,hw1⟩:∃ z,w.drew=z:=⟨_,rfl⟩
 have hd:Below w.heap.size w w1:=by rw [← hw1];exact below_drewN w _ 1
 have K1:Hid (w1.heap[b]?=some (.cells (h.cells (.slice A 0 c)) 97 (0,0))):=(hd.block b hbw).trans K.out
 have O1:=Lib.hid (O.out.below hd)
 have B1:=Lib.hid hd
 clear hd K O
 refine Mixed.wp_region_mixed (fun w'=>w'.heap[b]?=some (.cells (h.cells (.slice A 0 c)) 97 (0,0))) 12 [(0,true),(1,true),(2,true),(3,true),(4,true),(5,true),(6,true),(7,true),(8,true),(9,true),(10,false),(11,false)] (by kernel_rfl) (by kernel_rfl) (by rw [hw1];exact K1.out) ?_
 rw [hw1]
 clear hw1
 refine Mixed.wpMix_pure rfl (by kernel_rfl) (.pointer (some ⟨b,0,none⟩)) (fun w h=>by clear h;go_simp;try rfl) ?_
 refine Mixed.wpMix_pure rfl (by kernel_rfl) (.pointer (some ⟨b,0,none⟩)) (fun w h=>by clear h;go_simp;try rfl) ?_
 refine Mixed.wpMix_pure rfl (by kernel_rfl) (.pointer (some ⟨b,0,none⟩)) (fun w h=>by clear h;go_simp;try rfl) ?_
 refine Mixed.wpMix_pure rfl (by kernel_rfl) (.pointer (some ⟨b,8,none⟩)) (fun w h=>by clear h;go_simp;try rfl) ?_
 refine Mixed.wpMix_pure rfl (by kernel_rfl) (.slice A 0 c) (fun w h=>by obtain ⟨h0,h1,h2,h5,h6⟩:=WC.out w _ h;clear h;go_simp;try rfl) ?_
 refine Mixed.wpMix_pure rfl (by kernel_rfl) (.pointer (some ⟨b,0,none⟩)) (fun w h=>by clear h;go_simp;try rfl) ?_
 refine Mixed.wpMix_pure rfl (by kernel_rfl) (.pointer (some ⟨b,0,none⟩)) (fun w h=>by clear h;go_simp;try rfl) ?_
 refine Mixed.wpMix_pure rfl (by kernel_rfl) (.pointer (some ⟨b,0,none⟩)) (fun w h=>by clear h;go_simp;try rfl) ?_
 refine Mixed.wpMix_pure rfl (by kernel_rfl) (.pointer (some ⟨b,0,none⟩)) (fun w h=>by clear h;go_simp;try rfl) ?_
 refine Mixed.wpMix_pure rfl (by kernel_rfl) (.int .i64 page) (fun w h=>by obtain ⟨h0,h1,h2,h5,h6⟩:=WC.out w _ h;clear h;go_simp;try rfl) ?_
 refine Mixed.wpMix_loud rfl ?_
 have L1:=PR.out w1
 clear PR
 go_wp2_with fail
 refine L1.mono ?_
 rintro e w2 ⟨v2,rfl,hO2,hb⟩
 have hbw1:b<w1.heap.size:=(Array.getElem?_eq_some_iff.1 K1.out).1
 have K2:Hid (w2.heap[b]?=some (.cells (h.cells (.slice A 0 c)) 97 (0,0))):=(hb.block b hbw1).trans K1.out
 have O2:=Lib.hid (O1.out.below hb)
 have B2:Hid (Below w.heap.size w w2):=B1.out.trans (hb.mono B1.out.size)
 obtain ⟨A2,c2,rfl,hP⟩:=hO2.bytes
 obtain ⟨lp,hlp⟩:∃ z,pre.length=z:=⟨_,rfl⟩
 rw [hlp] at hpl ⊢
 have HLP:=Lib.hid hlp
 have P2:=Lib.hid hP
 clear K1 O1 B1 L1 hP hb hbw1 hO2 hlp
 go_wp2
 refine ⟨K2.out,?_⟩
 refine Mixed.wpMix_loud rfl ?_
 have Z2:Hid (B≤w2.heap.size):=by have:=B2.out.size;show _≤_;omega
 refine wpList_appBsG (xs:=[]) (ys:=pre) O2.out P2.out Z2.out (by have:=HLP.out;simp;omega) rfl _ _ rfl rfl rfl lp HLP.out rfl lp (by simp) ?_
 intro A3 c3 w3 h1 h2 h3
 have K3:Hid (w3.heap[b]?=some (.cells (h.cells (.slice A 0 c)) 97 (0,0))):=(h3.block b (by have:=B2.out.size;omega) (fun e=>by
  obtain ⟨cur,hc⟩:=own_u8 O2.out e.symm
  rw [K2.out] at hc
  simp at hc)).trans K2.out
 have O3:=Lib.hid h1
 have B3:Hid (Below B w w3):=(B2.out.mono (by omega)).trans h2
 clear h1 h2 h3 O2 P2 B2 Z2 K2
 go_wp2
 refine ⟨K3.out,?_⟩
 simp only [Mixed.wpMix]
 obtain ⟨e0,e1,e2,e5,e6⟩:=WC.out _ _ K3.out
 have F:Hid (WrAt (w3.setCell ⟨b,8,none⟩ (.slice A3 lp c3)) B b h pre∧Below B w (w3.setCell ⟨b,8,none⟩ (.slice A3 lp c3))):=by
  have o3:=O3.out
  rw [← HLP.out,List.nil_append] at o3
  rw [← HLP.out]
  exact ⟨wr_store K3.out o3,B3.out.setCell (by simpa using hB) _⟩
 clear e0 e1 e2 K3 O3 B3
 go_upto_region 1 with fail
 obtain ⟨w4,hw4⟩:∃ z,w3.setCell ⟨b,8,none⟩ (.slice A3 lp c3)=z:=⟨_,rfl⟩
 rw [hw4] at F ⊢
 obtain ⟨X4,B4⟩:=F.out
 have X4:=Lib.hid X4
 have B4:=Lib.hid B4
 clear hw4 F e5 e6
 obtain ⟨A4,c4,k4,-⟩:=X4.out
 obtain ⟨e0,e1,e2,e5,e6⟩:=WC.out _ _ k4
 clear k4 e5 e6 e1
 have hlp3:pre.length≤2:=by rw [HLP.out];exact hpl
 by_cases h5:5≤page
 case' pos=>
  obtain rfl:=HHI.out h5
  have e2':w4.cell? ⟨b,4,none⟩=some (.string ⟨#[100]⟩):=e2
  have S2:Hid (s2=[]):=by show s2=[];rw [← HS2.out];unfold behS;rw [if_pos h5]
  have HBS:Hid (bs=(pre++[byteI d])++[op]++s2.flatMap (letB d n)):=by show bs=_;rw [EB.out];unfold base0;rw [if_pos h5,HPRE.out]
  have C1:=WD.out pre (by omega) w4 X4.out
  have t5:((page == 5)=true)∨((page == 5)=false∧(page == 6)=true):=by
   rcases (by omega:page=5∨page=6) with rfl | rfl
   ·exact .inl rfl
   ·exact .inr ⟨rfl,rfl⟩
  obtain ⟨bas,hbas⟩:∃ z,pre++[byteI d]=z:=⟨_,rfl⟩
  rw [hbas] at HBS C1
  have hbl:bas.length≤4:=by rw [← hbas,List.length_append];simp;omega
  clear e2 X4 hbas EB HHI HS2 h5
  rcases t5 with t5 | ⟨t5,t6⟩
 case' neg=>
  have S2:Hid (s2=ex):=by show s2=ex;rw [← HS2.out];unfold behS;rw [if_neg h5]
  obtain rfl:s2=ex:=S2.out
  have t5:(page == 5)=false:=beq_eq_false_iff_ne.2 (by omega)
  have t6:(page == 6)=false:=beq_eq_false_iff_ne.2 (by omega)
  have HBS:Hid (bs=pre++[op]++s2.flatMap (letB d n)):=by show bs=_;rw [EB.out];unfold base0;rw [if_neg h5,HPRE.out,List.append_nil]
  obtain ⟨bas,hbas⟩:∃ z,pre=z:=⟨_,rfl⟩
  rw [hbas] at HBS X4
  have hbl:bas.length≤4:=by rw [← hbas];omega
  clear S2 hbas EB HHI HS2 h5
  go_upto_region 7 with fail
  have X7:=X4
  have B7:=B4
  obtain ⟨w7,hw7⟩:∃ z,w4=z:=⟨_,rfl⟩
  rw [hw7] at X7 B7 ⊢
  clear X4 B4 hw7
 case' pos.inl=>
  go_wp2_with fail
  refine C1.mono ?_
  rintro e w5 ⟨rfl,hX,hb,-⟩
  have X7:=Lib.hid hX
  have B7:=Lib.hid (B4.out.trans hb)
  clear hX hb C1
  go_wp2_with fail
  refine (trimD_any w5).mono ?_
  rintro e w7 ⟨rfl,hw⟩
  subst hw
  go_upto_region 7 with fail
  rw [show (⟨#[]⟩:ByteArray)=sB s2 from by rw [S2.out];rfl]
 case' pos.inr=>
  go_wp2_with fail
  refine C1.mono ?_
  rintro e w5 ⟨rfl,hX,hb,-⟩
  have X7:=Lib.hid hX
  have B7:=Lib.hid (B4.out.trans hb)
  clear hX hb C1
  go_wp2_with fail
  refine (trimD_any w5).mono ?_
  rintro e w7 ⟨rfl,hw⟩
  subst hw
  go_upto_region 7 with fail
  rw [show (⟨#[]⟩:ByteArray)=sB s2 from by rw [S2.out];rfl]
 all_goals
  clear e0
  have hX7:=X7.out
  obtain ⟨A7,c7,k7,o7⟩:=hX7
  obtain ⟨lb,hlb⟩:∃ z,bas.length=z:=⟨_,rfl⟩
  rw [hlb] at k7 o7 hbl
  have HLB:=Lib.hid hlb
  have hbw7:b<w7.heap.size:=X7.out.lt
  have K:=Lib.hid k7
  have O:=Lib.hid o7
  clear k7 o7 hlb X7
  obtain ⟨w8,hw8⟩:∃ z,w7.drew=z:=⟨_,rfl⟩
  have hd:Below w7.heap.size w7 w8:=by rw [← hw8];exact below_drewN w7 _ 1
  have K1:Hid (w8.heap[b]?=some (.cells (h.cells (.slice A7 lb c7)) 97 (0,0))):=(hd.block b hbw7).trans K.out
  have O1:=Lib.hid (O.out.below hd)
  have B1:Hid (Below B w w8):=B7.out.trans (hd.mono (by omega))
  have hal:=upA w8 (.cells #[.int .u8 (op.toNat:Int)] 5)
  have P9:=Lib.hid (bytes_new1 w8 op)
  have K9:Hid ((w8.alloc (.cells #[.int .u8 (op.toNat:Int)] 5)).heap[b]?=some (.cells (h.cells (.slice A7 lb c7)) 97 (0,0))):=(hal.block b (by have:=hd.size;omega)).trans K1.out
  have O9:=Lib.hid (O1.out.below hal)
  have B9:Hid (Below B w (w8.alloc (.cells #[.int .u8 (op.toNat:Int)] 5))):=B1.out.trans (hal.mono (by have:=hd.size;omega))
  have Z9:Hid (B≤(w8.alloc (.cells #[.int .u8 (op.toNat:Int)] 5)).heap.size):=by have:=hd.size;have:=hal.size;show _≤_;omega
  have hb9:b<(w8.alloc (.cells #[.int .u8 (op.toNat:Int)] 5)).heap.size:=by have:=hd.size;have:=hal.size;omega
  clear hd hal K O B7 O1 B1
  refine Mixed.wp_region_mixed (fun w'=>w'.heap[b]?=some (.cells (h.cells (.slice A7 lb c7)) 97 (0,0))) 12 [(0,true),(1,true),(2,true),(3,true),(4,true),(5,true),(6,true),(7,true),(8,true),(9,true),(10,false),(11,false)] (by kernel_rfl) (by kernel_rfl) (by rw [hw8];exact K1.out) ?_
  rw [hw8]
  clear hw8
  refine Mixed.wpMix_pure rfl (by kernel_rfl) (.pointer (some ⟨b,0,none⟩)) (fun w h=>by clear h;go_simp;try rfl) ?_
  refine Mixed.wpMix_pure rfl (by kernel_rfl) (.pointer (some ⟨b,0,none⟩)) (fun w h=>by clear h;go_simp;try rfl) ?_
  refine Mixed.wpMix_pure rfl (by kernel_rfl) (.pointer (some ⟨b,0,none⟩)) (fun w h=>by clear h;go_simp;try rfl) ?_
  refine Mixed.wpMix_pure rfl (by kernel_rfl) (.pointer (some ⟨b,8,none⟩)) (fun w h=>by clear h;go_simp;try rfl) ?_
  refine Mixed.wpMix_pure rfl (by kernel_rfl) (.slice A7 lb c7) (fun w h=>by obtain ⟨h0,h1,h2,h5,h6⟩:=WC.out w _ h;clear h;go_simp;try rfl) ?_
  refine Mixed.wpMix_pure rfl (by kernel_rfl) (.pointer (some ⟨b,0,none⟩)) (fun w h=>by clear h;go_simp;try rfl) ?_
  refine Mixed.wpMix_pure rfl (by kernel_rfl) (.pointer (some ⟨b,0,none⟩)) (fun w h=>by clear h;go_simp;try rfl) ?_
  refine Mixed.wpMix_pure rfl (by kernel_rfl) (.pointer (some ⟨b,0,none⟩)) (fun w h=>by clear h;go_simp;try rfl) ?_
  refine Mixed.wpMix_pure rfl (by kernel_rfl) (.pointer (some ⟨b,1,none⟩)) (fun w h=>by clear h;go_simp;try rfl) ?_
  refine Mixed.wpMix_pure rfl (by kernel_rfl) (.int .u8 (op.toNat:Int)) (fun w h=>by obtain ⟨h0,h1,h2,h5,h6⟩:=WC.out w _ h;clear h;go_simp;try rfl) ?_
  refine Mixed.wpMix_loud rfl ?_
  go_wp2
  refine ⟨K9.out,?_⟩
  refine Mixed.wpMix_loud rfl ?_
  refine wpList_appBsG (ys:=[op]) O9.out P9.out Z9.out (by rw [HLB.out];simp;omega) rfl _ _ rfl rfl rfl 1 rfl rfl (lb+1) (by rw [HLB.out]) ?_
  intro A3' c3' w10 h1 h2 h3
  have K10:Hid (w10.heap[b]?=some (.cells (h.cells (.slice A7 lb c7)) 97 (0,0))):=(h3.block b hb9 (fun e=>by
   obtain ⟨cur,hc⟩:=own_u8 O9.out e.symm
   rw [K9.out] at hc
   simp at hc)).trans K9.out
  have O10:=Lib.hid h1
  have B10:Hid (Below B w w10):=B9.out.trans h2
  clear h1 h2 h3 O9 P9 B9 Z9 K9 hb9
  go_wp2
  refine ⟨K10.out,?_⟩
  simp only [Mixed.wpMix]
  obtain ⟨e0,e1,e2,e5,e6⟩:=WC.out _ _ K10.out
  have F:Hid (WrAt (w10.setCell ⟨b,8,none⟩ (.slice A3' (lb+1) c3')) B b h (bas++[op])∧Below B w (w10.setCell ⟨b,8,none⟩ (.slice A3' (lb+1) c3'))):=by
   have hln:(bas++[op]).length=lb+1:=by rw [List.length_append,HLB.out];rfl
   have o3:=O10.out
   rw [← hln] at o3 ⊢
   exact ⟨wr_store K10.out o3,B10.out.setCell (by simpa using hB) _⟩
  clear e0 e1 e2 K10 O10 B10
  go_upto_region 8 with fail
  obtain ⟨w11,hw11⟩:∃ z,w10.setCell ⟨b,8,none⟩ (.slice A3' (lb+1) c3')=z:=⟨_,rfl⟩
  rw [hw11] at F ⊢
  obtain ⟨X11,B11⟩:=F.out
  have hb11:=X11.lt
  have X11:=Lib.hid X11
  have B11:=Lib.hid B11
  clear hw11 F e5 e6
  go_wp2_with fail
  refine (wparts_any b w11).mono ?_
  rintro e w12 ⟨g,rfl,hpt,hg,hb⟩
  have LS:=Lib.hid (wr_start (s2:=s2) (d:=d) (n:=n) (X11.out.below hb) hpt (B11.out.trans (hb.mono (by omega))) (by have:=hb.size;omega))
  have FF:Hid (WrF B b w12.heap.size g s2 (bas++[op])):=⟨hB,by have:=hb.size;omega,by omega,hpt.lt,by rw [List.length_append,HLB.out];simp;omega,hlen⟩
  obtain ⟨it,hit⟩:∃ z,w12.heap.size=z:=⟨_,rfl⟩
  rw [hit] at LS FF
  have HIT:=Lib.hid hit
  clear hpt hb X11 B11 hg
  go_upto_region 9 with fail
  go_wp2
  go_loopw [] (fun wr=>∃ j,Hid (WrL w wr B b it g h s2 (bas++[op]) d n j)) (fun wr=>s2.length - wr.iterPos it)
  case atStart=>exact ⟨0,LS.out⟩
  case round=>
   obtain ⟨j,L⟩:=hrel
   have hlj:=L.out.le
   have hpos:wr.iterPos it=j:=iterPos_of L.out.iter
   by_cases hlt:j<s2.length
   ·obtain ⟨n1,n2,n3,n4⟩:=L.out.next FF.out
    have hxl:=L.out.len FF.out
    have PU:=fun w' X hb K=>L.out.put (w':=w') FF.out hlt X hb K
    have hl4:=HL.out j hlt
    have hnx:=fun c hc h=>next_at L.out.iter hlt c hc h
    obtain ⟨xs,hxs⟩:∃ z,(bas++[op])++(s2.take j).flatMap (letB d n)=z:=⟨_,rfl⟩
    rw [hxs] at n1 hxl PU
    obtain ⟨cc,hcc⟩:∃ z,s2[j]=z:=⟨_,rfl⟩
    rw [hcc] at hl4 PU hnx
    obtain ⟨wn,hwn⟩:∃ z,wr.iterAt it (sB s2) (j+1)=z:=⟨_,rfl⟩
    rw [hwn] at n1 n2 n3 n4 PU hnx
    have PU:=Lib.hid PU
    have N1:=Lib.hid n1
    have CD:=WD.out xs hxl wn n1
    have CB:=WB.out xs hxl wn n1
    have CW:=WW.out xs hxl wn n1
    clear n1 n3 n4 hxs hcc hwn
    rcases hl4 with rfl | rfl | rfl | rfl
    ·have hn:=hnx 100 rfl (by decide)
     have hk:=look_100 n2
     unfold methV at hk
     have C:=Lib.hid CD
     clear hnx n2 CD CB CW
     go_wp2_with fail
     refine C.out.mono ?_
     rintro e w2 ⟨rfl,hX,hb,hK⟩
     have L2:=Lib.hid (PU.out w2 hX hb hK)
     clear hX hb hK C hk hn PU
     go_wp2
     go_roundw
     case rel=>exact ⟨j+1,L2.out⟩
     case measure=>rw [iterPos_of L2.out.iter,hpos];omega
    ·have hn:=hnx 101 rfl (by decide)
     have hk:=look_101 n2
     unfold methV at hk
     have C:=Lib.hid CB
     clear hnx n2 CD CB CW
     go_wp2_with fail
     refine C.out.mono ?_
     rintro e w2 ⟨rfl,hX,hb,hK⟩
     have L2:=Lib.hid (PU.out w2 hX hb hK)
     clear hX hb hK C hk hn PU
     go_wp2
     go_roundw
     case rel=>exact ⟨j+1,L2.out⟩
     case measure=>rw [iterPos_of L2.out.iter,hpos];omega
    ·have hn:=hnx 110 rfl (by decide)
     have hk:=look_110 n2
     unfold methV at hk
     have C:=Lib.hid CB
     clear hnx n2 CD CB CW
     go_wp2_with fail
     refine C.out.mono ?_
     rintro e w2 ⟨rfl,hX,hb,hK⟩
     have L2:=Lib.hid (PU.out w2 hX hb hK)
     clear hX hb hK C hk hn PU
     go_wp2
     go_roundw
     case rel=>exact ⟨j+1,L2.out⟩
     case measure=>rw [iterPos_of L2.out.iter,hpos];omega
    ·have hn:=hnx 119 rfl (by decide)
     have hk:=look_119 n2
     unfold methV at hk
     have C:=Lib.hid CW
     clear hnx n2 CD CB CW
     go_wp2_with fail
     refine C.out.mono ?_
     rintro e w2 ⟨rfl,hX,hb,hK⟩
     have L2:=Lib.hid (PU.out w2 hX hb hK)
     clear hX hb hK C hk hn PU
     go_wp2
     go_roundw
     case rel=>exact ⟨j+1,L2.out⟩
     case measure=>rw [iterPos_of L2.out.iter,hpos];omega
   ·have hj:j=s2.length:=by omega
    subst hj
    have hnx:=fun ty=>Lib.run_next_end_at (P:=Tryz.prog) wr it (sB s2) s2.length ty L.out.iter (by rw [sB_size];omega)
    have R:Hid (WrAt wr B b h bs∧Below B w wr):=by
     have h1:=L.out.wrt
     rw [List.take_length] at h1
     exact ⟨by rw [HBS.out];exact h1,L.out.bel⟩
    clear L
    go_wp2
    refine bodyPost_end (v:=.tuple #[]) ?_ rfl ⟨rfl,R.out⟩
    simp [results,Tryz.results44,go_sem]
end Go.Proofs.YtmnleknehjkmgaaGreatDoor
namespace Go.Proofs.YtmnleknehjkmgaaGreatDoor
open Go.RowKit Go.Shelf
attribute [local go_sem] Oper.semAt_some
structure LetOk (page:Int) (ex:Str):Prop where
 pg:page≤6
 hi:5≤page→ex=[100]
 le:(behS page ex).length≤2
 letters:∀ k (hk:k<(behS page ex).length),(behS page ex)[k]=100∨(behS page ex)[k]=101∨(behS page ex)[k]=110∨(behS page ex)[k]=119
theorem wbytes_any (page:Int) (op:UInt8) (m:Str) (hm:m.length≤1000) (A:Option Addr) (cap l:Nat) (L:List Tr) (hl:L.length=l) (hL:l≤1000) (ex:Str) (hx:ex.length≤1000) (al:Bool) (hX:LetOk page ex) (d q:Int) (w:World) (H:OpsP w A L) :
  Calls Tryz.prog 30 #[enV page (op.toNat:Int) m (.slice A l cap) ex al,.int .i64 d,.int .i64 q] w (RetBy w ((fillV ex L d q).map fun _=>encB page (op.toNat:Int) ex d q)):=by
 have fi:=fun w' h=>fill_any page (op.toNat:Int) m hm A cap l L hl hL ex hx al d q w' h
 have WR:=fun B b w' H hB=>wwrite_any B b page op m (.slice A l cap) ex al d q hX.pg hX.hi hX.le hX.letters w' H hB
 obtain ⟨bs,hbs⟩:∃ z,encB page (op.toNat:Int) ex d q=z:=⟨_,rfl⟩
 obtain ⟨fo,hfo⟩:∃ z,fillV ex L d q=z:=⟨_,rfl⟩
 obtain ⟨ro,hro⟩:∃ z,(fo.map fun _=>bs)=z:=⟨_,rfl⟩
 rw [hfo] at fi
 rw [hbs] at WR
 rw [hbs,hfo,hro]
 have HRO:=Lib.hid hro
 have WR:=Lib.hid WR
 obtain ⟨n,hn⟩:∃ z,w.heap.size=z:=⟨_,rfl⟩
 obtain ⟨b0,w0,hb0,hw0,S0,y0,z0⟩:=Fr.box (Fr.start w n hn) #[.int .i64 page,.int .u8 (op.toNat:Int),.string (sB m),.slice A l cap,.string (sB ex),.bool al] 55
 rw [hn] at hb0
 subst hb0
 have FI:=Lib.hid (fi w0 (H.below y0))
 have HN:=Lib.hid hn
 obtain ⟨e0,e1,e2,e3,e4,e5⟩:=Fr.cells6 S0.out.1
 unfold enV at FI ⊢
 clear H y0 fi hl hbs hfo hro
 go_enter Tryz.func30,Tryz.ntmps30
 go_wp2_with fail
 refine FI.out.mono ?_
 rintro e w1 hr
 cases fo with
 | none=>
  obtain ⟨rfl,hb⟩:=hr
  have S1:=Fr.up S0 hb
  have F:=fun o=>Lib.hid (show RetBy w ro (.returned (.tuple #[.slice none 0 0,.bool false])) (w1.alloc o) from by rw [← HRO.out];exact ⟨rfl,by rw [HN.out];exact S1.out.2.1.1.alloc S1.out.2.1.2 o⟩)
  clear hb FI e0 e1 e2 e3 e4 e5 hw0 z0 S0
  go_wp2
  go_ret2
  exact (F _).out
 | some C=>
  obtain ⟨v,rfl,hO,hb⟩:=hr
  have S1:=Fr.up S0 hb
  obtain ⟨Ac,cc,rfl,-,-⟩:=hO.ops
  obtain ⟨lc,hlc⟩:∃ z,C.length=z:=⟨_,rfl⟩
  rw [hlc]
  have hro:some bs=ro:=HRO.out
  subst hro
  clear hb FI e0 e1 e2 e3 e4 e5 hw0 z0 S0 hO hlc HRO
  go_upto_region 2 with fail
  obtain ⟨b1,w2,hb1,hw2,S2,y2,z2⟩:=Fr.box S1 #[.string (upB (sB m)),.slice Ac lc cc] 26
  rw [hw2]
  have hnb:n≤b1:=by have:=S1.out.2.1.2;omega
  clear hw2 S1 y2
  obtain ⟨e0,e1,e2,e3,e4,e5⟩:=Fr.cells6 S2.out.2.1
  go_upto_region 5 with fail
  obtain ⟨w3,hw3⟩:∃ z,w2.alloc (.cells #[.int .i64 page,.int .u8 (op.toNat:Int),.string (sB m),.slice A l cap,.string (sB ex),.bool al,.int .i64 d,.int .i64 q,.slice none 0 0] 97)=z:=⟨_,rfl⟩
  have y3:Below w2.heap.size w2 w3:=by rw [← hw3];exact up_alloc _ _
  have X3:Hid (WrAt w3 (b1+1) (b1+1) ⟨page,(op.toNat:Int),m,.slice A l cap,ex,al,d,q⟩ []):=by
   refine ⟨none,0,?_,townB_nil _ _⟩
   rw [← hw3,← z2]
   exact World.alloc_heap_new w2 _
  have B3:=Fr.up S2 y3
  rw [hw3]
  clear hw3 e0 e1 e2 e3 e4 e5
  have W3:=WR.out (b1+1) (b1+1) w3 X3.out (Nat.le_refl _)
  clear WR S2
  go_wp2_with fail
  refine W3.mono ?_
  rintro e w4 ⟨rfl,hX,hb⟩
  have BF:Hid (Below n w w4):=by
   have h1:=B3.out.2.2.1
   exact h1.1.trans (hb.mono (by omega))
  obtain ⟨A4,c4,k4,o4⟩:=hX
  obtain ⟨lb,hlb⟩:∃ z,bs.length=z:=⟨_,rfl⟩
  rw [hlb] at k4 o4
  have O4:Hid (TOwnB w4 n (.slice A4 lb c4) bs):=o4.lift (by omega)
  have HLB:=Lib.hid hlb
  obtain ⟨k0,k1,k2,k5,k6,k7,k8⟩:=wr_cells k4
  clear hb k4 o4 W3 hlb B3 X3 y3 k0 k1 k2 k5 k6
  go_wp2
  go_ret2
  exact ⟨A4,c4,by rw [HLB.out];rfl,by rw [HLB.out,HN.out];exact O4.out,by rw [HN.out];exact BF.out⟩
end Go.Proofs.YtmnleknehjkmgaaGreatDoor
