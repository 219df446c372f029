/-
  SeRg, SeRk, SeI, SeV, InW, LsA, SeX, CnK, SeRh, SeY, SeRl.
-/
import Derived.Test.YtoilebmbljpieaaGreatDoorGBI
import Derived.Test.YtoilebmbljpieaaGreatDoorMSeM
import Derived.Test.YtoilebmbljpieaaGreatDoorMSeH
import Derived.Test.YtoilebmbljpieaaGreatDoorGBB
import Derived.Test.YtoilebmbljpieaaGreatDoorGAA
import Derived.Lib.SmallJoins
import Derived.Deep.Slices
import Derived.Deep.Strs
import Derived.Deep.Fields
import Derived.ChangeSame
import Derived.OpenShut
import Derived.Test.YtoilebmbljpieaaGreatDoorGAY
import Derived.Laws.AppendOwn
import Derived.Laws.OwnMore
import Derived.Test.YtoilebmbljpieaaGreatDoorGAR
import Derived.Test.YtoilebmbljpieaaGreatDoorGAL
set_option linter.all false
set_option maxRecDepth 100000
set_option maxHeartbeats 4000000
namespace Go.Proofs.YtoilebmbljpieaaGreatDoor
open Go.RowKit Go.Shelf
attribute [local go_sem] Oper.semAt_some
def Hit (s:ByteArray) (C:List Tr) (page:Int) (n:Nat):Prop:=∃ x:En,ratT page n=some x∧x.2.2.2=false∧fitsR x.1 x.2.1 x.2.2.1 s C=true
def RLeg (s:ByteArray) (I C:List Tr):Prop:=codeI s I=0∧∃ (page:Int) (n:Nat),fstI C≤page∧page≤lstI C∧n<256∧Hit s C page n
theorem fstI_le (C:List Tr):0≤fstI C∧fstI C≤3:=by unfold fstI;split <;> omega
theorem lstI_le (C:List Tr):lstI C≤6∧fstI C≤lstI C+1:=by unfold lstI fstI;split <;> omega
theorem rset6 {w:World} {b:Nat} {T:TypeId} {a0 a1 a2 a3 a4 a5:Value} (h:w.heap[b]?=some (.cells #[a0,a1,a2,a3,a4,a5] T (0,0))) {B:Nat} {u:World} (hb:Below B u w) (hB:B≤b) (v0 v1 v2 v3 v4 v5:Value):∃ w',(((((w.setCell ⟨b,0,none⟩ v0).setCell ⟨b,1,none⟩ v1).setCell ⟨b,2,none⟩ v2).setCell ⟨b,3,none⟩ v3).setCell ⟨b,4,none⟩ v4).setCell ⟨b,5,none⟩ v5=w'∧
  w'.heap[b]?=some (.cells #[v0,v1,v2,v3,v4,v5] T (0,0))∧Below B u w':=by
 obtain ⟨w',h1,h2,-,-,h3,-⟩:=set6 h v0 v1 v2 v3 v4 v5
 exact ⟨w',h1,h2,hb.trans (h3.mono hB)⟩
theorem ref_box (w:World) (g o:Int) (m:Str) (v:Value) (ex:Str) (al:Bool) (c:Nat) (hc:w.heap.size=c):∃ w',w.alloc (.cells #[.int .i64 g,.int .u8 o,.string (sB m),v,.string (sB ex),.bool al] 41)=w'∧w'.heap[c]?=some (.cells #[.int .i64 g,.int .u8 o,.string (sB m),v,.string (sB ex),.bool al] 41 (0,0))∧Below w.heap.size w w'∧w'.heap.size=c+1:=by
 subst hc
 exact ⟨_,rfl,World.alloc_heap_new w _,(Below.refl _ w).alloc (Nat.le_refl _) _,by simp⟩
end Go.Proofs.YtoilebmbljpieaaGreatDoor
namespace Go.Proofs.YtoilebmbljpieaaGreatDoor
open Go.RowKit Go.Shelf
attribute [local go_sem] Oper.semAt_some
def Bef (pg:Int) (n:Nat) (g:Int) (k:Nat):Prop:=pg<g∨(pg=g∧n<k)
def Shd (s:ByteArray) (C:List Tr) (page:Int) (n:Nat):Prop:=∃ x:En,ratT page n=some x∧x.2.2.2=false∧shpR x.1 x.2.1 s C=true
def SUp (s:ByteArray) (C:List Tr) (fs ls p:Int) (k:Nat) (cv:Int):Prop:=
 (cv=11∧∀ (pg:Int) (n:Nat),fs≤pg→n<256→Bef pg n p k→¬Shd s C pg n)∨(cv=2∧∃ (pg:Int) (n:Nat),fs≤pg∧pg≤ls∧n<256∧Shd s C pg n)
theorem SUp.start (s:ByteArray) (C:List Tr) (fs ls:Int):SUp s C fs ls fs 0 11:=.inl ⟨rfl,fun pg n h1 h2 h3=>by rcases h3 with h | ⟨h,h4⟩ <;> omega⟩
theorem SUp.step {s:ByteArray} {C:List Tr} {fs ls p cv:Int} {k:Nat} (h:SUp s C fs ls p k cv) (hn:¬Shd s C p k):SUp s C fs ls p (k+1) cv:=by
 rcases h with ⟨h1,h2⟩ | h
 ·refine .inl ⟨h1,fun pg n h3 h4 h5=>?_⟩
  by_cases e:pg=p∧n=k
  ·obtain ⟨rfl,rfl⟩:=e
   exact hn
  ·refine h2 pg n h3 h4 ?_
   rcases h5 with h | ⟨h,h6⟩
   ·exact .inl h
   ·exact .inr ⟨h,by have:n≠k:=fun q=>e ⟨h,q⟩;omega⟩
 ·exact .inr h
theorem SUp.page {s:ByteArray} {C:List Tr} {fs ls p cv:Int} (h:SUp s C fs ls p 256 cv):SUp s C fs ls (p+1) 0 cv:=by
 rcases h with ⟨h1,h2⟩ | h
 ·refine .inl ⟨h1,fun pg n h3 h4 h5=>h2 pg n h3 h4 ?_⟩
  rcases h5 with h | ⟨h,h6⟩
  ·by_cases e:pg=p
   ·exact .inr ⟨e,h4⟩
   ·exact .inl (by omega)
  ·omega
 ·exact .inr h
def CodeR (s:ByteArray) (I C:List Tr) (c:Int):Prop:=
 (codeI s I≠0∧c=codeI s I)∨(codeI s I=0∧((c=11∧∀ (pg:Int) (n:Nat),fstI C≤pg→pg≤lstI C→n<256→¬Shd s C pg n)∨(c=2∧∃ (pg:Int) (n:Nat),fstI C≤pg∧pg≤lstI C∧n<256∧Shd s C pg n)))
def FstR (s:ByteArray) (I C:List Tr) (g:Int) (n:Nat) (x:En):Prop:=
 codeI s I=0∧fstI C≤g∧g≤lstI C∧n<256∧ratT g n=some x∧x.2.2.2=false∧fitsR x.1 x.2.1 x.2.2.1 s C=true∧∀ (pg:Int) (n':Nat),fstI C≤pg→n'<256→Bef pg n' g n→¬Hit s C pg n'
def RetRF3 (w:World) (s:ByteArray) (I C:List Tr) (e:Ending) (w':World):Prop:=∃ (g o:Int) (m:Str) (A:Option Addr) (l cap:Nat) (ex:Str) (al:Bool) (c:Int),e=.returned (.tuple #[enV g o m (.slice A l cap) ex al,.int .i64 c])∧Below w.heap.size w w'∧
 ((c=0∧∃ (n:Nat) (L:List Tr),o=n∧L.length=l∧OpsP w' A L∧FstR s I C g n (m,L,ex,al))∨(c≠0∧CodeR s I C c∧¬RLeg s I C))
theorem OpsP.heapNe {w w':World} {A:Option Addr} {L:List Tr} {b:Nat} (h:OpsP w A L) (hk:∀ k,k≠b→w'.heap[k]?=w.heap[k]?) (hA:∀ a,A=some a→L≠[]→a.block≠b):OpsP w' A L:=by
 by_cases hL:L=[]
 ·exact .inl hL
 rcases h with h | ⟨b1,off,rfl,hc⟩
 ·exact absurd h hL
 ·have hb:b1≠b:=hA _ rfl hL
  have e:∀ (o:Nat) (v:Value),w.cell? ⟨b1,o,none⟩=some v→w'.cell? ⟨b1,o,none⟩=some v:=fun o v hp=>(World.cell?_of_block (hk b1 hb)).trans hp
  refine .inr ⟨b1,off,rfl,fun j hj=>?_⟩
  obtain ⟨h1,h2,h3⟩:=hc j hj
  exact ⟨e _ _ h1,e _ _ h2,e _ _ h3⟩
theorem own_far {w:World} {N:Nat} {A:Option Addr} {l c:Nat} {L:List Tr} (h:OwnT w N (.slice A l c) L) {b:Nat} (hb:b<N):∀ a,A=some a→L≠[]→a.block≠b:=by
 rintro a rfl hL
 obtain ⟨g,cap,e,hg,-⟩:=h.form (List.length_pos_iff.2 hL)
 simp only [Value.slice.injEq,Option.some.injEq] at e
 obtain ⟨rfl,-,-⟩:=e
 simp only
 omega
theorem rset7 {w:World} {b:Nat} {T:TypeId} {a0 a1 a2 a3 a4 a5:Value} (h:w.heap[b]?=some (.cells #[a0,a1,a2,a3,a4,a5] T (0,0))) {B:Nat} {u:World} (hb:Below B u w) (hB:B≤b) (v0 v1 v2 v3 v4 v5:Value):∃ w',(((((w.setCell ⟨b,0,none⟩ v0).setCell ⟨b,1,none⟩ v1).setCell ⟨b,2,none⟩ v2).setCell ⟨b,3,none⟩ v3).setCell ⟨b,4,none⟩ v4).setCell ⟨b,5,none⟩ v5=w'∧
  w'.heap[b]?=some (.cells #[v0,v1,v2,v3,v4,v5] T (0,0))∧Below B u w'∧∀ k,k≠b→w'.heap[k]?=w.heap[k]?:=by
 obtain ⟨w',h1,h2,h4,-,h3,-⟩:=set6 h v0 v1 v2 v3 v4 v5
 exact ⟨w',h1,h2,hb.trans (h3.mono hB),h4⟩
theorem rfind3_any (s:ByteArray) (hs:s.size≤1000) (Ai:Option Addr) (capi li:Nat) (I:List Tr) (hli:I.length=li) (hLi:li≤900) (w:World) (HF:OpsP w Ai I) :
  Calls Tryz.prog 59 #[.agg #[.string s,.slice Ai li capi]] w (RetRF3 w s I (canL (opc s) I)):=by
 have hof:=fun w h=>rof_any s Ai capi I (by omega) w h
 have hck:=fun w h=>rcheck_any s Ai capi I (by omega) w h
 rw [hli] at hof hck
 have hcl:=canL_len (opc s) I
 have hfi:=fun page op m (hm:List.length m≤1000) A cap l L (hl:List.length L=l) (hL:l≤1000) ex (hx:List.length ex≤1000) al w' h1 h2=>rfits10_any page op m A cap l L hl hL ex hx al s Ai capi li I hli hLi w' h1 h2
 obtain ⟨C,hC⟩:∃ C,canL (opc s) I=C:=⟨_,rfl⟩
 rw [hC] at hof hcl hfi ⊢
 obtain ⟨lc,hlc⟩:∃ z,C.length=z:=⟨_,rfl⟩
 have hLc:lc≤1000:=by omega
 obtain ⟨w0,hw0⟩:∃ w0,(w.alloc (.cells #[.string s,.slice Ai li capi] 26)).alloc (.cells #[.int .i64 0,.int .u8 0,.string ⟨#[]⟩,.slice none 0 0,.string ⟨#[]⟩,.bool false] 41)=w0:=⟨_,rfl⟩
 obtain ⟨n,hn⟩:∃ n,w.heap.size=n:=⟨_,rfl⟩
 have b0:Below n w w0:=by rw [← hw0,← hn];exact ((Below.refl _ w).alloc (Nat.le_refl _) _).alloc (by simp) _
 have z0:w0.heap.size=n+1+1:=by rw [← hw0,← hn];simp
 have c0:w0.heap[n]?=some (.cells #[.string s,.slice Ai li capi] 26 (0,0)):=by
  rw [← hw0,← hn]
  exact (Below.heap_alloc _ _ _ (by simp)).trans (World.alloc_heap_new w _)
 have c1:w0.heap[n+1]?=some (.cells #[.int .i64 0,.int .u8 0,.string ⟨#[]⟩,.slice none 0 0,.string ⟨#[]⟩,.bool false] 41 (0,0)):=by
  rw [← hw0,← hn]
  have h:=World.alloc_heap_new (w.alloc (.cells #[.string s,.slice Ai li capi] 26)) (.cells #[.int .i64 0,.int .u8 0,.string ⟨#[]⟩,.slice none 0 0,.string ⟨#[]⟩,.bool false] 41)
  rwa [World.size_alloc] at h
 have CK:=Lib.hid (hck w0 (HF.below (by rw [hn];exact b0)))
 have OF:=Lib.hid hof
 have FI:=Lib.hid hfi
 have HN:=Lib.hid hn
 have B0:=Lib.hid b0
 have C0:=Lib.hid c0
 have C1:=Lib.hid c1
 have P0:=Lib.hid (HF.below (by rw [hn];exact b0))
 have HLC:=Lib.hid hlc
 have k0:=Lib.cell_of_heap c0 0
 have k1:=Lib.cell_of_heap c0 1
 obtain ⟨cd,hcd⟩:∃ z,codeI s I=z:=⟨_,rfl⟩
 have HCD:=Lib.hid hcd
 rw [hcd] at CK
 clear hof hck hfi c0 c1 b0 HF hC hcl hlc hcd
 go_enter Tryz.func59,Tryz.ntmps59
 go_wp2_with fail
 refine CK.out.mono ?_
 rintro e w1 ⟨rfl,hb⟩
 have B1:Hid (Below n w w1):=B0.out.trans (hb.mono (by omega))
 have c0:=(hb.block n (by omega)).trans C0.out
 have c1:=(hb.block (n+1) (by omega)).trans C1.out
 have P1:=Lib.hid (P0.out.below hb)
 have Z1:Hid (n+2≤w1.heap.size):=by have:=hb.size;show _≤_;omega
 have C0:=Lib.hid c0
 have C1:=Lib.hid c1
 have k0:=Lib.cell_of_heap c0 0
 have k1:=Lib.cell_of_heap c0 1
 clear CK hb B0 P0 hw0 z0
 by_cases hcd0:cd=0
 ·subst hcd0
  have of1:=OF.out w1 P1.out
  clear c0 c1 OF
  go_wp2_with fail
  refine of1.mono ?_
  rintro e w2 ⟨v,rfl,hO,hb⟩
  obtain ⟨Ac,cc,rfl,hPc,-,-⟩:=hO.ops
  rw [HLC.out]
  have B2:Hid (Below n w w2):=B1.out.trans (hb.mono (by have:=Z1.out;omega))
  have c0:=(hb.block n (by have:=Z1.out;omega)).trans C0.out
  have c1:=(hb.block (n+1) (by have:=Z1.out;omega)).trans C1.out
  have P2:=Lib.hid (P1.out.below hb)
  have R2:=Lib.hid hPc
  have Z2:Hid (n+2≤w2.heap.size):=Nat.le_trans Z1.out hb.size
  have C0:=Lib.hid c0
  have C1:=Lib.hid c1
  clear of1 hb hO hPc c0 c1 B1 P1 Z1 k0 k1
  go_upto_region 6 with fail
  obtain ⟨b,hbs⟩:∃ c,w2.heap.size=c:=⟨_,rfl⟩
  obtain ⟨w3,hw3,y1,y2,y3⟩:=ins_box w2 s (.slice Ac lc cc) b hbs
  rw [hw3,hbs]
  have hnb:n+2≤b:=by have:=Z2.out;omega
  have B3:Hid (Below n w w3):=B2.out.trans (y2.mono (by omega))
  have P3:=Lib.hid (P2.out.below y2)
  have R3:=Lib.hid (R2.out.below y2)
  have KK:Hid (w3.heap[n]?=some (.cells #[.string s,.slice Ai li capi] 26 (0,0))∧w3.heap[n+1]?=some (.cells #[.int .i64 0,.int .u8 0,.string ⟨#[]⟩,.slice none 0 0,.string ⟨#[]⟩,.bool false] 41 (0,0))∧w3.heap[b]?=some (.cells #[.string s,.slice Ac lc cc] 26 (0,0))):=⟨(y2.block n (by omega)).trans C0.out,(y2.block (n+1) (by omega)).trans C1.out,y1⟩
  have Z3:Hid (b+1≤w3.heap.size):=by show _≤_;omega
  have f3:=first_any s Ac cc lc C HLC.out hLc w3 R3.out
  have j0:=Lib.cell_of_heap y1 0
  have j1:=Lib.cell_of_heap y1 1
  have FB:=fstI_le C
  have LB:=lstI_le C
  have LA:=Lib.hid (fun w' h=>last_any s Ac cc lc C HLC.out hLc w' h)
  obtain ⟨fs,hfs⟩:∃ z,fstI C=z:=⟨_,rfl⟩
  obtain ⟨ls,hls⟩:∃ z,lstI C=z:=⟨_,rfl⟩
  have HFS:=Lib.hid hfs
  have HLS:=Lib.hid hls
  rw [hfs] at f3 FB LB
  rw [hls] at LA LB
  clear hw3 hbs y1 y2 y3 B2 P2 R2 C0 C1 Z2 hfs hls
  go_wp2_with fail
  refine f3.mono ?_
  rintro e w4 ⟨rfl,hb⟩
  have B4:=Lib.hid hb
  clear hb f3 j0 j1
  go_wp2
  go_loopw [7,6] (fun x c wr=>∃ (p cv:Int),fs≤p∧p≤ls+1∧x=.int .i64 p∧c=.int .i64 cv∧Hid (SUp s C fs ls p 0 cv)∧Hid (∀ (pg:Int) (n:Nat),fs≤pg→pg<p→n<256→¬Hit s C pg n)∧Hid (Below w3.heap.size w3 wr)) (fun x _ _=>(7 - intOf x).toNat)
  case atStart=>exact ⟨fs,11,Int.le_refl _,by omega,rfl,rfl,SUp.start s C fs ls,fun pg n h1 h2=>by omega,B4.out⟩
  case round=>
   clear B4
   obtain ⟨p,cv,hp1,hp2,rfl,rfl,CV,NH,BW⟩:=hrel
   have d2:=(BW.out.block b (by have:=Z3.out;omega)).trans KK.out.2.2
   have j0:=Lib.cell_of_heap d2 0
   have j1:=Lib.cell_of_heap d2 1
   have la:=LA.out wr (R3.out.below BW.out)
   have D2:=Lib.hid d2
   clear d2
   go_wp2_with fail
   refine la.mono ?_
   rintro e w5 ⟨rfl,hb⟩
   have B5:Hid (Below w3.heap.size w3 w5):=BW.out.trans (hb.mono BW.out.size)
   clear la hb BW j0 j1 D2
   by_cases hple:p≤ls
   ·go_wp2
    go_loopw [8,6] (fun x c wr=>∃ (k:Nat) (cv:Int),k≤256∧x=.int .i64 k∧c=.int .i64 cv∧Hid (SUp s C fs ls p k cv)∧Hid (∀ n:Nat,n<k→¬Hit s C p n)∧Hid (Below w3.heap.size w3 wr)) (fun x _ _=>256 - (intOf x).toNat)
    case atStart=>exact ⟨0,cv,Nat.zero_le _,rfl,rfl,CV,fun n h=>by omega,B5.out⟩
    case round=>
     clear B5 CV
     obtain ⟨k,cv,hk,rfl,rfl,CV,RR,BW⟩:=hrel
     by_cases hlt:k<256
     ·have hw8:IntKind.u8.wrap (k:Int)=k:=by rw [IntKind.wrap_u8];omega
      have at1:=rat_any p k hlt wr
      have SZ:Hid (w3.heap.size≤wr.heap.size):=BW.out.size
      go_wp2_with fail
      refine at1.mono ?_
      rintro e w6 ⟨hres,hb⟩
      have B6:Hid (Below w3.heap.size w3 w6):=BW.out.trans (hb.mono BW.out.size)
      clear hw8 at1 BW
      cases hx:ratT p k with
      | none=>
       rw [hx] at hres
       subst hres
       have hkd:=rkind_ne p k
       obtain ⟨kd,hkd2⟩:∃ z,rkindT p k=z:=⟨_,rfl⟩
       rw [hkd2] at hkd ⊢
       have hkn:¬kd=1:=fun h=>by rw [h] at hkd;cases hkd
       simp only [enV]
       have B7:=fun o=>Lib.hid (B6.out.alloc B6.out.size o)
       have R2:Hid (∀ n:Nat,n<k+1→¬Hit s C p n):=fun n h hh=>by
        by_cases e:n=k
        ·subst e
         obtain ⟨x,h1,-⟩:=hh
         rw [hx] at h1
         cases h1
        ·exact RR.out n (by omega) hh
       have CV2:Hid (SUp s C fs ls p (k+1) cv):=CV.out.step fun hh=>by
        obtain ⟨x,h1,-⟩:=hh
        rw [hx] at h1
        cases h1
       clear hx hkd2 hb B6 RR
       go_wp2
       go_roundw
       case rel=>exact ⟨k+1,cv,by omega,by go_num,rfl,CV2.out,R2.out,(B7 _).out⟩
       case measure=>simp [intOf];omega
      | some x=>
       have hkey:=(InTab.ok (k:=(p,(k:Int),x.1,x.2.1,x.2.2.1,x.2.2.2)) ⟨k,hlt,rfl,hx⟩)
       rw [hx] at hres
       obtain ⟨v,rfl,hO⟩:=hres
       obtain ⟨Ae,ce,rfl,hPe,-⟩:=hO.ops
       have RN:Hid ((x.2.2.2=true∨fitsR x.1 x.2.1 x.2.2.1 s C=false)→∀ n:Nat,n<k+1→¬Hit s C p n):=fun hn9 n h hh=>by
        by_cases e:n=k
        ·subst e
         obtain ⟨y,h1,h2,h3⟩:=hh
         rw [hx] at h1
         obtain rfl:=Option.some.inj h1
         rcases hn9 with h | h
         ·rw [h2] at h;cases h
         ·rw [h3] at h;cases h
        ·exact RR.out n (by omega) hh
       have RY:Hid (x.2.2.2=false→fitsR x.1 x.2.1 x.2.2.1 s C=true→FstR s I C p k x):=fun h1 h2=>⟨HCD.out,by rw [HFS.out];exact hp1,by rw [HLS.out];exact hple,hlt,hx,h1,h2,fun pg n' h3 h4 h5=>by
        rw [HFS.out] at h3
        rcases h5 with h5 | ⟨rfl,h5⟩
        ·exact NH.out pg n' h3 h5 h4
        ·exact RR.out n' h5⟩
       have SN:Hid ((x.2.2.2=true∨shpR x.1 x.2.1 s C=false)→SUp s C fs ls p (k+1) cv):=fun h9=>CV.out.step fun hh=>by
        obtain ⟨y,h1,h2,h3⟩:=hh
        rw [hx] at h1
        obtain rfl:=Option.some.inj h1
        rcases h9 with h | h
        ·rw [h2] at h;cases h
        ·rw [h3] at h;cases h
       have SY:Hid (x.2.2.2=false→shpR x.1 x.2.1 s C=true→SUp s C fs ls p (k+1) 2):=fun h1 h2=>.inr ⟨rfl,p,k,hp1,hple,hlt,x,hx,h1,h2⟩
       have FAR:Hid (∀ a,Ae=some a→x.2.1≠[]→a.block≠n+1):=own_far hO (by have h1:=SZ.out;have h2:=Z3.out;omega)
       have hm:=hkey.m
       have hex:=hkey.ex
       have hln:=hkey.len
       obtain ⟨m,Le,ex,al⟩:=x
       simp only at hm hex hln RN RY SN SY FAR hPe ⊢
       obtain ⟨le,hle⟩:∃ z,Le.length=z:=⟨_,rfl⟩
       rw [hle] at hln ⊢
       simp only [enV]
       have PE:=Lib.hid hPe
       have HLE:=Lib.hid hle
       clear hx hb hO hPe hle hkey RR
       go_upto_region 13 with fail
       obtain ⟨be,hbe⟩:∃ c,w6.heap.size=c:=⟨_,rfl⟩
       obtain ⟨u,hu,y1,y2,-⟩:=ref_box w6 p k m (.slice Ae le ce) ex al be hbe
       rw [hu,hbe]
       have hbb:b+1≤be:=by have h1:=SZ.out;have h2:=B6.out.size;have h3:=Z3.out;omega
       have BU:Hid (Below w3.heap.size w3 u):=B6.out.trans (y2.mono B6.out.size)
       have PU:=Lib.hid (PE.out.below y2)
       have RU:=Lib.hid (R3.out.below BU.out)
       have QU:=Lib.hid (P3.out.below BU.out)
       have ZU:Hid (w3.heap.size≤u.heap.size):=BU.out.size
       have d0:=(BU.out.block n (by have:=Z3.out;omega)).trans KK.out.1
       have d1:=(BU.out.block (n+1) (by have:=Z3.out;omega)).trans KK.out.2.1
       have d2:=(BU.out.block b (by have:=Z3.out;omega)).trans KK.out.2.2
       have EU:Hid (u.heap[be]?=some (.cells #[.int .i64 p,.int .u8 k,.string (sB m),.slice Ae le ce,.string (sB ex),.bool al] 41 (0,0))):=y1
       have sh:=shaped_any p k m Ae ce le Le HLE.out (by omega) ex al s Ac cc lc C HLC.out hLc u PU.out RU.out
       simp only [enV] at sh
       have SH:=Lib.hid sh
       have DU:Hid (u.heap[n]?=some (.cells #[.string s,.slice Ai li capi] 26 (0,0))∧u.heap[n+1]?=some (.cells #[.int .i64 0,.int .u8 0,.string ⟨#[]⟩,.slice none 0 0,.string ⟨#[]⟩,.bool false] 41 (0,0))):=⟨d0,d1⟩
       have i0:=Lib.cell_of_heap y1 0
       have i1:=Lib.cell_of_heap y1 1
       have i2:=Lib.cell_of_heap y1 2
       have i3:=Lib.cell_of_heap y1 3
       have i4:=Lib.cell_of_heap y1 4
       have i5:=Lib.cell_of_heap y1 5
       have j0:=Lib.cell_of_heap d2 0
       have j1:=Lib.cell_of_heap d2 1
       have B3':Hid (Below n w w3):=B3.out
       clear sh hu hbe y1 y2 d0 d1 d2 B6 PE B3 k0 k1
       cases al with
       | true=>
        have R2:Hid (∀ n:Nat,n<k+1→¬Hit s C p n):=RN.out (.inl rfl)
        have CV2:Hid (SUp s C fs ls p (k+1) cv):=SN.out (.inl rfl)
        clear RN RY SN SY FAR SH FI NH
        go_wp2
        go_roundw
        case rel=>exact ⟨k+1,cv,by omega,by go_num,rfl,CV2.out,R2.out,BU.out⟩
        case measure=>simp [intOf];omega
       | false=>
        by_cases hms:sB m=s
        rotate_left
        ·have hq:=strB_ne hms
         have R2:Hid (∀ n:Nat,n<k+1→¬Hit s C p n):=RN.out (.inr (by unfold fitsR shpR;rw [decide_eq_false hms];rfl))
         have CV2:Hid (SUp s C fs ls p (k+1) cv):=SN.out (.inr (by unfold shpR;rw [decide_eq_false hms];rfl))
         clear RN RY SN SY FAR SH FI NH hms
         go_wp2
         go_roundw
         case rel=>exact ⟨k+1,cv,by omega,by go_num,rfl,CV2.out,R2.out,BU.out⟩
         case measure=>simp [intOf];omega
        ·subst hms
         have hq:=strB_eq (sB m)
         have sh:=SH.out
         have SR:Hid (shpR m Le (sB m) C=false→fitsR m Le ex (sB m) C=false):=fun h=>by unfold fitsR;rw [h];rfl
         obtain ⟨sv,hsv⟩:∃ z,shpR m Le (sB m) C=z:=⟨_,rfl⟩
         rw [hsv] at sh SR SN SY
         clear SH hsv
         go_wp2_with fail
         refine sh.mono ?_
         rintro e v ⟨rfl,hb⟩
         have BV:Hid (Below w3.heap.size w3 v):=BU.out.trans (hb.mono ZU.out)
         have fi:=FI.out p k m (by omega) Ae ce le Le HLE.out (by omega) ex (by omega) false v (PU.out.below hb) (QU.out.below hb)
         simp only [enV] at fi
         obtain ⟨fv,hfv⟩:∃ z,fitsR m Le ex (sB m) C=z:=⟨_,rfl⟩
         rw [hfv] at fi SR RN RY
         have hnz:n+1<u.heap.size:=(Array.getElem?_eq_some_iff.1 DU.out.2).1
         have hez:be<u.heap.size:=(Array.getElem?_eq_some_iff.1 EU.out).1
         have EV:=Lib.hid ((hb.block be hez).trans EU.out)
         have DV:=Lib.hid ((hb.block n (by omega)).trans DU.out.1)
         have GV:=Lib.hid ((hb.block (n+1) hnz).trans DU.out.2)
         have ZV:Hid (u.heap.size≤v.heap.size):=hb.size
         have FIv:=Lib.hid fi
         have PV:=Lib.hid (PU.out.below hb)
         clear fi hb hfv FI NH SZ PU RU QU DU EU BU i0 i1 i2 i3 i4 i5 j0 j1 sh hq
         cases sv with
         | false=>
          have R2:Hid (∀ n:Nat,n<k+1→¬Hit (sB m) C p n):=RN.out (.inr (SR.out rfl))
          have CV2:Hid (SUp (sB m) C fs ls p (k+1) cv):=SN.out (.inr rfl)
          clear RN RY SN SY FAR SR FIv
          go_wp2
          go_roundw
          case rel=>exact ⟨k+1,cv,by omega,by go_num,rfl,CV2.out,R2.out,BV.out⟩
          case measure=>simp [intOf];omega
         | true=>
          have i0:=Lib.cell_of_heap EV.out 0
          have i1:=Lib.cell_of_heap EV.out 1
          have i2:=Lib.cell_of_heap EV.out 2
          have i3:=Lib.cell_of_heap EV.out 3
          have i4:=Lib.cell_of_heap EV.out 4
          have i5:=Lib.cell_of_heap EV.out 5
          have k0:=Lib.cell_of_heap DV.out 0
          have k1:=Lib.cell_of_heap DV.out 1
          have fi:=FIv.out
          clear SR FIv
          go_wp2_with fail
          refine fi.mono ?_
          rintro e x ⟨rfl,hb⟩
          have BX:Hid (Below w3.heap.size w3 x):=BV.out.trans (hb.mono (by have:=ZU.out;have:=ZV.out;omega))
          have d0:=(hb.block be (by have:=ZV.out;omega)).trans EV.out
          have d1:=(hb.block (n+1) (by have:=ZV.out;omega)).trans GV.out
          have DX:=Lib.hid d0
          have GX:=Lib.hid d1
          have PX:=Lib.hid (PV.out.below hb)
          clear fi hb i0 i1 i2 i3 i4 i5 k0 k1 BV EV DV GV d0 d1
          cases fv with
          | false=>
           have R2:Hid (∀ n:Nat,n<k+1→¬Hit (sB m) C p n):=RN.out (.inr rfl)
           have C2:Hid (SUp (sB m) C fs ls p (k+1) 2):=by have h:=SY.out;show SUp (sB m) C fs ls p (k+1) 2;simpa using h
           clear RN RY SN SY FAR
           go_wp2
           go_roundw
           case rel=>exact ⟨k+1,2,by omega,by go_num,rfl,C2.out,R2.out,BX.out⟩
           case measure=>simp [intOf];omega
          | true=>
           have YR:Hid (FstR (sB m) I C p k (m,Le,ex,false)):=by have h:=RY.out;show FstR (sB m) I C p k (m,Le,ex,false);simpa using h
           have FX:=Lib.hid FAR.out
           have BB:Hid (Below n w x):=B3'.out.trans (BX.out.mono (by have:=Z3.out;omega))
           have i0:=Lib.cell_of_heap DX.out 0
           have i1:=Lib.cell_of_heap DX.out 1
           have i2:=Lib.cell_of_heap DX.out 2
           have i3:=Lib.cell_of_heap DX.out 3
           have i4:=Lib.cell_of_heap DX.out 4
           have i5:=Lib.cell_of_heap DX.out 5
           have u0:=Lib.cell_of_heap GX.out 0
           have u1:=Lib.cell_of_heap GX.out 1
           have u2:=Lib.cell_of_heap GX.out 2
           have u3:=Lib.cell_of_heap GX.out 3
           have u4:=Lib.cell_of_heap GX.out 4
           have u5:=Lib.cell_of_heap GX.out 5
           have u6:=Lib.frozen_of_heap GX.out
           clear RN RY SN SY FAR
           go_wp2
           obtain ⟨w7,hw7,q,q2,q7⟩:=rset7 GX.out BB.out (by omega) (.int .i64 p) (.int .u8 k) (.string (sB m)) (.slice Ae le ce) (.string (sB ex)) (.bool false)
           rw [hw7]
           have q0:=Lib.cell_of_heap q 0
           have q1:=Lib.cell_of_heap q 1
           have q2':=Lib.cell_of_heap q 2
           have q3:=Lib.cell_of_heap q 3
           have q4:=Lib.cell_of_heap q 4
           have q5:=Lib.cell_of_heap q 5
           refine bodyPost_ret (v:=.tuple #[.agg #[.int .i64 p,.int .u8 k,.string (sB m),.slice Ae le ce,.string (sB ex),.bool false],.int .i64 0]) ?_ rfl ?_
           ·simp [results,Tryz.results59,go_sem,q0,q1,q2',q3,q4,q5]
           ·exact ⟨p,k,m,Ae,le,ce,ex,false,0,rfl,by rw [HN.out];exact q2,.inl ⟨rfl,k,Le,rfl,HLE.out,PX.out.heapNe q7 FX.out,YR.out⟩⟩
     ·obtain rfl:k=256:=by omega
      have R2:Hid (∀ (pg:Int) (n:Nat),fs≤pg→pg<p+1→n<256→¬Hit s C pg n):=fun pg n h1 h2 h3=>by
       by_cases e:pg=p
       ·subst e;exact RR.out n h3
       ·exact NH.out pg n h1 (by omega) h3
      have CV2:Hid (SUp s C fs ls (p+1) 0 cv):=CV.out.page
      clear RR NH
      go_wp2
      go_roundw
      case rel=>exact ⟨p+1,cv,by omega,by omega,by go_num,rfl,CV2.out,R2.out,BW.out⟩
      case measure=>simp [intOf];omega
   ·have NL:Hid (¬RLeg s I C):=fun h=>by
     obtain ⟨-,pg,n,h1,h2,h3,h4⟩:=h
     rw [HFS.out] at h1
     rw [HLS.out] at h2
     exact NH.out pg n h1 (by omega) h3 h4
    have d1:=(B5.out.block (n+1) (by have:=Z3.out;omega)).trans KK.out.2.1
    have u0:=Lib.cell_of_heap d1 0
    have u1:=Lib.cell_of_heap d1 1
    have u2:=Lib.cell_of_heap d1 2
    have u3:=Lib.cell_of_heap d1 3
    have u4:=Lib.cell_of_heap d1 4
    have u5:=Lib.cell_of_heap d1 5
    have u6:=Lib.frozen_of_heap d1
    have BB:Hid (Below n w w5):=B3.out.trans (B5.out.mono (by have:=Z3.out;omega))
    have D1:=Lib.hid d1
    clear d1 NH FI LA
    go_wp2
    obtain ⟨w7,hw7,q,q2⟩:=rset6 D1.out BB.out (by omega) (.int .i64 0) (.int .u8 0) (.string ⟨#[]⟩) (.slice none 0 0) (.string ⟨#[]⟩) (.bool false)
    rw [hw7]
    have q0:=Lib.cell_of_heap q 0
    have q1:=Lib.cell_of_heap q 1
    have q2':=Lib.cell_of_heap q 2
    have q3:=Lib.cell_of_heap q 3
    have q4:=Lib.cell_of_heap q 4
    have q5:=Lib.cell_of_heap q 5
    refine bodyPost_ret (v:=.tuple #[.agg #[.int .i64 0,.int .u8 0,.string ⟨#[]⟩,.slice none 0 0,.string ⟨#[]⟩,.bool false],.int .i64 cv]) ?_ rfl ?_
    ·simp [results,Tryz.results59,go_sem,q0,q1,q2',q3,q4,q5]
    ·refine ⟨0,0,[],none,0,0,[],false,cv,rfl,by rw [HN.out];exact q2,.inr ⟨by rcases CV.out with h | h <;> have:=h.1 <;> omega,.inr ⟨HCD.out,?_⟩,NL.out⟩⟩
     rcases CV.out with ⟨h1,h2⟩ | ⟨h1,pg,n9,h2,h3,h4,h5⟩
     ·exact .inl ⟨h1,fun pg n9 h3 h4 h5=>h2 pg n9 (by rw [← HFS.out];exact h3) h5 (.inl (by rw [HLS.out] at h4;omega))⟩
     ·exact .inr ⟨h1,pg,n9,by rw [HFS.out];exact h2,by rw [HLS.out];exact h3,h4,h5⟩
 ·have e0:(cd == 0)=false:=beq_eq_false_iff_ne.2 hcd0
  have NR:Hid (¬RLeg s I C):=fun h=>hcd0 (by rw [← HCD.out];exact h.1)
  have HC0:=Lib.hid hcd0
  have u0:=Lib.cell_of_heap c1 0
  have u1:=Lib.cell_of_heap c1 1
  have u2:=Lib.cell_of_heap c1 2
  have u3:=Lib.cell_of_heap c1 3
  have u4:=Lib.cell_of_heap c1 4
  have u5:=Lib.cell_of_heap c1 5
  have u6:=Lib.frozen_of_heap c1
  clear hcd0 c0 c1 OF FI k0 k1
  go_wp2
  obtain ⟨w7,hw7,q,q2⟩:=rset6 C1.out B1.out (by omega) (.int .i64 0) (.int .u8 0) (.string ⟨#[]⟩) (.slice none 0 0) (.string ⟨#[]⟩) (.bool false)
  rw [hw7]
  have q0:=Lib.cell_of_heap q 0
  have q1:=Lib.cell_of_heap q 1
  have q2':=Lib.cell_of_heap q 2
  have q3:=Lib.cell_of_heap q 3
  have q4:=Lib.cell_of_heap q 4
  have q5:=Lib.cell_of_heap q 5
  refine bodyPost_ret (v:=.tuple #[.agg #[.int .i64 0,.int .u8 0,.string ⟨#[]⟩,.slice none 0 0,.string ⟨#[]⟩,.bool false],.int .i64 cd]) ?_ rfl ?_
  ·simp [results,Tryz.results59,go_sem,q0,q1,q2',q3,q4,q5]
  ·exact ⟨0,0,[],none,0,0,[],false,cd,rfl,by rw [HN.out];exact q2,.inr ⟨HC0.out,.inl ⟨by rw [HCD.out];exact HC0.out,HCD.out.symm⟩,NR.out⟩⟩
end Go.Proofs.YtoilebmbljpieaaGreatDoor
namespace Go.Proofs.YtoilebmbljpieaaGreatDoor
open Go.RowKit Go.Shelf
attribute [local go_sem] Oper.semAt_some
attribute [local irreducible] Go.Mixed.wpMix
end Go.Proofs.YtoilebmbljpieaaGreatDoor
namespace Go.Proofs.YtoilebmbljpieaaGreatDoor
open Go.RowKit Go.Shelf
attribute [local go_sem] Oper.semAt_some
attribute [local irreducible] Go.Mixed.wpMix
theorem svalues_any (page op:Int) (m:Str) (hm:m.length≤1000) (hup:upB (sB m)=sB m) (A:Option Addr) (cap l:Nat) (L:List Tr) (hl:L.length=l) (hL:l≤1000) (ex:Str) (hx:ex.length≤1000) (al:Bool) (s:ByteArray) (Ai:Option Addr) (capi li:Nat) (I:List Tr) (hli:I.length=li) (hLi:li≤900) (w:World) (H:OpsP w A L) (HF:OpsP w Ai I) :
  Calls Tryz.prog 87 #[enV page op m (.slice A l cap) ex al,.agg #[.string s,.slice Ai li capi]] w fun e w'=>e=.returned (.tuple #[.int .i64 (valV m L ex s (canL (opc s) I)).1,.int .i64 (valV m L ex s (canL (opc s) I)).2])∧Below w.heap.size w w':=by
 have hof:=fun w h=>of_any s Ai capi I (by omega) w h
 rw [hli] at hof
 have hcl:=canL_len (opc s) I
 have hhe:=fun Af capf lf (e1:(canL (opc s) I).length=lf) w' h1 h2=>hasEntry_any page op m hm hup A cap l L hl hL ex hx al s Af capf lf (canL (opc s) I) e1 (by omega) w' h1 h2
 have hva:=fun w=>variables_any page op m A l cap ex hx al w
 obtain ⟨C,hC⟩:∃ C,canL (opc s) I=C:=⟨_,rfl⟩
 rw [hC] at hof hhe hcl
 rw [hC]
 obtain ⟨x,hxx⟩:∃ x,(varsV ex).1=x:=⟨_,rfl⟩
 obtain ⟨y,hyy⟩:∃ y,(varsV ex).2=y:=⟨_,rfl⟩
 obtain ⟨tt,htt⟩:∃ z,hasV m L ex s C=z:=⟨_,rfl⟩
 have VV:Hid (valV m L ex s C=if tt=true then (numV x.1 C,numV y.1 C) else (0,0)):=by show _=_;unfold valV;rw [htt,hxx,hyy]
 obtain ⟨vv,hvv⟩:∃ z,valV m L ex s C=z:=⟨_,rfl⟩
 rw [hvv] at VV ⊢
 unfold RetVars at hva
 rw [hxx,hyy] at hva
 rw [htt] at hhe
 have CL:Hid (C.length≤1000):=by show _≤_;omega
 clear hC htt hcl hup hvv hxx hyy
 unfold enV at hhe hva ⊢
 obtain ⟨w0,hw0⟩:∃ w0,(w.alloc (.cells #[.int .i64 page,.int .u8 op,.string (sB m),.slice A l cap,.string (sB ex),.bool al] 38)).alloc (.cells #[.string s,.slice Ai li capi] 26)=w0:=⟨_,rfl⟩
 obtain ⟨n,hn⟩:∃ n,w.heap.size=n:=⟨_,rfl⟩
 have b0:Below n w w0:=by rw [← hw0,← hn];exact ((Below.refl _ w).alloc (Nat.le_refl _) _).alloc (by simp) _
 have z0:w0.heap.size=n+1+1:=by rw [← hw0,← hn];simp
 have c0:w0.heap[n]?=some (.cells #[.int .i64 page,.int .u8 op,.string (sB m),.slice A l cap,.string (sB ex),.bool al] 38 (0,0)):=by
  rw [← hw0,← hn]
  exact (Below.heap_alloc _ _ _ (by simp)).trans (World.alloc_heap_new w _)
 have c1:w0.heap[n+1]?=some (.cells #[.string s,.slice Ai li capi] 26 (0,0)):=by
  rw [← hw0,← hn]
  have h:=World.alloc_heap_new (w.alloc (.cells #[.int .i64 page,.int .u8 op,.string (sB m),.slice A l cap,.string (sB ex),.bool al] 38)) (.cells #[.string s,.slice Ai li capi] 26)
  rwa [World.size_alloc] at h
 have OF:=Lib.hid hof
 have HE:=Lib.hid hhe
 have VA:=Lib.hid hva
 have HN:=Lib.hid hn
 have B0:=Lib.hid b0
 have C0:=Lib.hid c0
 have P0:=Lib.hid (H.below (by rw [hn];exact b0))
 have Q0:=Lib.hid (HF.below (by rw [hn];exact b0))
 have k0:=Lib.cell_of_heap c1 0
 have k1:=Lib.cell_of_heap c1 1
 clear hof hhe hva c0 c1 b0 H HF hm hx
 go_enter Tryz.func87,Tryz.ntmps87
 go_wp2_with fail
 refine (OF.out _ Q0.out).mono ?_
 rintro e w1 ⟨v,rfl,hO,hb⟩
 obtain ⟨Af,capf,rfl,hP,-,-⟩:=hO.ops
 obtain ⟨lf,hlf⟩:∃ z,C.length=z:=⟨_,rfl⟩
 have HLF:=Lib.hid hlf
 rw [hlf] at CL ⊢
 obtain ⟨b,hbs⟩:∃ b,w1.heap.size=b:=⟨_,rfl⟩
 obtain ⟨w2,hw2,y1,y2,y3⟩:=ins_box w1 s (.slice Af lf capf) b hbs
 have bb:Below (n+1+1) w0 w2:=(hb.mono (by omega)).trans (y2.mono (by have:=hb.size;omega))
 have hnb:n+2≤b:=by have:=hb.size;omega
 have c0:=(bb.block n (by omega)).trans C0.out
 have E2:=Lib.hid c0
 have B2:Hid (Below n w w2):=B0.out.trans (bb.mono (by omega))
 have P2:=Lib.hid (P0.out.below (by rw [z0];exact bb))
 have Q2:=Lib.hid (hP.below y2)
 have he:=HE.out Af capf lf HLF.out w2 P2.out Q2.out
 have Y1:=Lib.hid y1
 have j0:=Lib.cell_of_heap y1 0
 have j1:=Lib.cell_of_heap y1 1
 have i0:=Lib.cell_of_heap c0 0
 have i1:=Lib.cell_of_heap c0 1
 have i2:=Lib.cell_of_heap c0 2
 have i3:=Lib.cell_of_heap c0 3
 have i4:=Lib.cell_of_heap c0 4
 have i5:=Lib.cell_of_heap c0 5
 clear hO hP hb y1 y2 bb c0 OF HE P0 Q0 B0 C0 z0 hw0 hlf k0 k1
 go_wp2_with fail
 refine he.mono ?_
 rintro e w3 ⟨rfl,hb⟩
 have P3:=Lib.hid (P2.out.below hb)
 have Q3:=Lib.hid (Q2.out.below hb)
 have B3:Hid (Below n w w3):=B2.out.trans (hb.mono (by omega))
 have Y3:=Lib.hid ((hb.block b (by omega)).trans Y1.out)
 have E3:=Lib.hid ((hb.block n (by omega)).trans E2.out)
 have s3:b+1≤w3.heap.size:=by have:=hb.size;omega
 have va3:=VA.out w3
 clear he hb P2 Q2 B2 Y1 E2 VA j0 j1 i0 i1 i2 i3 i4 i5 y3 hw2 w2 hbs
 have i0:=Lib.cell_of_heap E3.out 0
 have i1:=Lib.cell_of_heap E3.out 1
 have i2:=Lib.cell_of_heap E3.out 2
 have i3:=Lib.cell_of_heap E3.out 3
 have i4:=Lib.cell_of_heap E3.out 4
 have i5:=Lib.cell_of_heap E3.out 5
 cases tt with
 | false=>
  clear va3
  go_wp2
  refine bodyPost_ret (v:=.tuple #[.int .i64 0,.int .i64 0]) ?_ rfl ?_
  ·simp [results,Tryz.results87,go_sem]
  ·refine ⟨?_,by rw [HN.out];exact B3.out⟩
   rw [VV.out]
   rfl
 | true=>
  go_wp2_with fail
  refine va3.mono ?_
  rintro e w4 ⟨f,g,f',g',rfl,va,va',hb⟩
  obtain ⟨p1,p2,p3,hf,hg⟩:=va.form
  obtain ⟨p4,p5,p6,hf',hg'⟩:=va'.form
  subst hf hg hf' hg'
  obtain ⟨c,hcs⟩:∃ c,w4.heap.size=c:=⟨_,rfl⟩
  obtain ⟨w5,hw5,x1,x2,x3,x4,x5,x6⟩:=vars_boxes va va' c hcs
  have hbc:b+1≤c:=by have:=hb.size;omega
  have bb:Below (b+1) w3 w5:=(hb.mono (by omega)).trans (x5.mono (by omega))
  have bb':Below w3.heap.size w3 w5:=hb.trans (x5.mono hb.size)
  have B5:Hid (Below n w w5.drew):=(B3.out.trans (bb.mono (by omega))).drew
  have hd:=below_drewN w5 w5.heap.size 1
  have Q5:=Lib.hid ((Q3.out.below bb').below hd)
  have KK:Hid (w5.drew.heap[b]?=some (.cells #[.string s,.slice Af lf capf] 26 (0,0))∧w5.drew.heap[c]?=some (.cells #[.func (.func 140) #[] #[.pointer (some ⟨p1,0,none⟩)],.func (.func 142) #[] #[.pointer (some ⟨p2,0,none⟩),.pointer (some ⟨p3,0,none⟩)]] 129 (0,0))∧w5.drew.heap[c+1]?=some (.cells #[.func (.func 140) #[] #[.pointer (some ⟨p4,0,none⟩)],.func (.func 142) #[] #[.pointer (some ⟨p5,0,none⟩),.pointer (some ⟨p6,0,none⟩)]] 129 (0,0))):=⟨(bb.block b (by omega)).trans Y3.out,x1,x2⟩
  have X3:=Lib.hid (x3.below hd)
  have X4:=Lib.hid (x4.below hd)
  clear va3 va va' hb x1 x2 x3 x4 x5 bb bb' hd P3 Q3 B3 Y3 E3 i0 i1 i2 i3 i4 i5
  go_upto_region 5 with fail
  obtain ⟨w6,hw6⟩:∃ z,w5.drew=z:=⟨_,rfl⟩
  have hw6':w5.drewN 1=w6:=hw6
  rw [hw6'] at Q5 X3 X4
  rw [hw6] at B5 KK
  have z6:w6.heap.size=c+2:=by rw [← hw6];exact x6
  refine Mixed.wp_region_mixed (fun w'=>w'.heap[b]?=some (.cells #[.string s,.slice Af lf capf] 26 (0,0))∧w'.heap[c]?=some (.cells #[.func (.func 140) #[] #[.pointer (some ⟨p1,0,none⟩)],.func (.func 142) #[] #[.pointer (some ⟨p2,0,none⟩),.pointer (some ⟨p3,0,none⟩)]] 129 (0,0))∧w'.heap[c+1]?=some (.cells #[.func (.func 140) #[] #[.pointer (some ⟨p4,0,none⟩)],.func (.func 142) #[] #[.pointer (some ⟨p5,0,none⟩),.pointer (some ⟨p6,0,none⟩)]] 129 (0,0))) 6 [(0,true),(1,true),(3,true),(4,true),(2,false),(5,false)] (by kernel_rfl) (by kernel_rfl) (by rw [hw6];exact KK.out) ?_
  rw [hw6]
  clear hw6 hw6' x6 hw5
  refine Mixed.wpMix_pure rfl (by kernel_rfl) (.agg #[.func (.func 140) #[] #[.pointer (some ⟨p1,0,none⟩)],.func (.func 142) #[] #[.pointer (some ⟨p2,0,none⟩),.pointer (some ⟨p3,0,none⟩)]]) (fun w h=>by
   obtain ⟨h1,h2,h3⟩:=h
   have q0:=Lib.cell_of_heap h2 0
   have q1:=Lib.cell_of_heap h2 1
   go_simp;try rfl) ?_
  refine Mixed.wpMix_pure rfl (by kernel_rfl) (.agg #[.string s,.slice Af lf capf]) (fun w h=>by
   obtain ⟨h1,h2,h3⟩:=h
   have q0:=Lib.cell_of_heap h1 0
   have q1:=Lib.cell_of_heap h1 1
   go_simp;try rfl) ?_
  refine Mixed.wpMix_pure rfl (by kernel_rfl) (.agg #[.func (.func 140) #[] #[.pointer (some ⟨p4,0,none⟩)],.func (.func 142) #[] #[.pointer (some ⟨p5,0,none⟩),.pointer (some ⟨p6,0,none⟩)]]) (fun w h=>by
   obtain ⟨h1,h2,h3⟩:=h
   have q0:=Lib.cell_of_heap h3 0
   have q1:=Lib.cell_of_heap h3 1
   go_simp;try rfl) ?_
  refine Mixed.wpMix_pure rfl (by kernel_rfl) (.agg #[.string s,.slice Af lf capf]) (fun w h=>by
   obtain ⟨h1,h2,h3⟩:=h
   have q0:=Lib.cell_of_heap h1 0
   have q1:=Lib.cell_of_heap h1 1
   go_simp;try rfl) ?_
  have n1:=vnum_any x (.agg #[.func (.func 140) #[] #[.pointer (some ⟨p1,0,none⟩)],.func (.func 142) #[] #[.pointer (some ⟨p2,0,none⟩),.pointer (some ⟨p3,0,none⟩)]]) s Af capf lf C HLF.out CL.out w6 X3.out Q5.out
  refine Mixed.wpMix_loudG rfl (by kernel_rfl) ?_
  go_wp2_with fail
  refine n1.mono ?_
  rintro e w7 ⟨rfl,hb⟩
  have K7:Hid (w7.heap[b]?=some (.cells #[.string s,.slice Af lf capf] 26 (0,0))∧w7.heap[c]?=some (.cells #[.func (.func 140) #[] #[.pointer (some ⟨p1,0,none⟩)],.func (.func 142) #[] #[.pointer (some ⟨p2,0,none⟩),.pointer (some ⟨p3,0,none⟩)]] 129 (0,0))∧w7.heap[c+1]?=some (.cells #[.func (.func 140) #[] #[.pointer (some ⟨p4,0,none⟩)],.func (.func 142) #[] #[.pointer (some ⟨p5,0,none⟩),.pointer (some ⟨p6,0,none⟩)]] 129 (0,0))):=⟨(hb.block _ (by omega)).trans KK.out.1,(hb.block _ (by omega)).trans KK.out.2.1,(hb.block _ (by omega)).trans KK.out.2.2⟩
  have n2:=vnum_any y (.agg #[.func (.func 140) #[] #[.pointer (some ⟨p4,0,none⟩)],.func (.func 142) #[] #[.pointer (some ⟨p5,0,none⟩),.pointer (some ⟨p6,0,none⟩)]]) s Af capf lf C HLF.out CL.out w7 (X4.out.below hb) (Q5.out.below hb)
  have B7:Hid (Below n w w7):=B5.out.trans (hb.mono (by omega))
  have s7:c+2≤w7.heap.size:=by have:=hb.size;omega
  clear hb n1 KK Q5 X3 X4 B5 z6
  go_wp2
  refine ⟨K7.out,?_⟩
  refine Mixed.wpMix_loudG rfl (by kernel_rfl) ?_
  go_wp2_with fail
  refine n2.mono ?_
  rintro e w8 ⟨rfl,hb⟩
  have K8:Hid (w8.heap[b]?=some (.cells #[.string s,.slice Af lf capf] 26 (0,0))∧w8.heap[c]?=some (.cells #[.func (.func 140) #[] #[.pointer (some ⟨p1,0,none⟩)],.func (.func 142) #[] #[.pointer (some ⟨p2,0,none⟩),.pointer (some ⟨p3,0,none⟩)]] 129 (0,0))∧w8.heap[c+1]?=some (.cells #[.func (.func 140) #[] #[.pointer (some ⟨p4,0,none⟩)],.func (.func 142) #[] #[.pointer (some ⟨p5,0,none⟩),.pointer (some ⟨p6,0,none⟩)]] 129 (0,0))):=⟨(hb.block _ (by omega)).trans K7.out.1,(hb.block _ (by omega)).trans K7.out.2.1,(hb.block _ (by omega)).trans K7.out.2.2⟩
  have B8:Hid (Below n w w8):=B7.out.trans (hb.mono (by omega))
  clear hb n2 B7 K7
  go_wp2
  refine ⟨K8.out,?_⟩
  simp only [Mixed.wpMix,List.drop_succ_cons,List.drop_zero]
  go_wp2
  refine bodyPost_ret (v:=.tuple #[.int .i64 (numV x.1 C),.int .i64 (numV y.1 C)]) ?_ rfl ?_
  ·simp [results,Tryz.results87,go_sem]
  ·refine ⟨?_,by rw [HN.out];exact B8.out⟩
   rw [VV.out]
   simp
end Go.Proofs.YtoilebmbljpieaaGreatDoor
namespace Go.Proofs.YtoilebmbljpieaaGreatDoor
open Go.RowKit Go.ChangeShapes Go.WideShapes Go.Deep
theorem plain_cell {w:World} {a:Addr} {v:Value} (h:w.cell? (a.add 0)=some v):∃ b off,a=⟨b,off,none⟩:=by
 obtain ⟨b,off,spot⟩:=a
 have hs:spot=none:=by simpa [Addr.add] using World.cell?_spot h
 subst hs
 exact ⟨b,off,rfl⟩
theorem add_twice (b off i j:Nat):((⟨b,off,none⟩:Addr).add i).add j=⟨b,off+i+j,none⟩:=by
 unfold Addr.add
 by_cases hi:i=0 <;> by_cases hj:j=0 <;> simp [hi,hj]
section
variable {H:Type} {enc:TypeId×Value→H} {w:World} {spare:Nat→Bool} {fuel:Nat}
theorem open_opdC {cs:List Value} {x:DataW H×List MemPlace} (h:DataW.trod enc Tryz.prog w 0 spare true fuel 63 cs=some x):∃ t:Tr,cs=[.int .i64 t.1,.int .i64 t.2.1,.int .i64 t.2.2]:=by
 obtain ⟨y0,y1,y2,n,_,hl,h0,h1,h2⟩:=trod_struct3 Tryz.underlying63 h
 have c3:Tryz.prog.cellsOf 63=3:=by kernel_rfl
 have c1:Tryz.prog.cellsOf 3=1:=by kernel_rfl
 rw [c3] at hl
 match cs,hl with
 | [p0,p1,p2],_=>
  simp only [c1] at h0 h1 h2
  obtain ⟨k,e0,_,_⟩:=DataW.trod_int Tryz.underlying3 h0
  obtain ⟨r,e1,_,_⟩:=DataW.trod_int Tryz.underlying3 h1
  obtain ⟨m,e2,_,_⟩:=DataW.trod_int Tryz.underlying3 h2
  have e0':p0=.int .i64 k:=by simpa using e0
  have e1':p1=.int .i64 r:=by simpa using e1
  have e2':p2=.int .i64 m:=by simpa using e2
  subst e0' e1' e2'
  exact ⟨(k,r,m),rfl⟩
theorem open_opds {v:Value} {x:DataW H×List MemPlace} (h:DataW.trod enc Tryz.prog w 0 spare true fuel 24 [v]=some x) :
  ∃ A len cap L,v=.slice A len cap∧len=L.length∧len≤maxLen∧OpsP w A L:=by
 rcases Deep.open_slice Tryz.underlying24 h with ⟨hcs,_⟩ | ⟨a,len,cap,m,n,D,Pl,hcs,_,hl,hm,hmm,_,hx⟩
 ·simp only [List.cons.injEq,and_true] at hcs
  exact ⟨none,0,0,[],hcs,rfl,Nat.zero_le _,.inl rfl⟩
 ·simp only [List.cons.injEq,and_true] at hcs
  have hlm:len≤m:=by rw [hmm];split <;> omega
  have c3:Tryz.prog.cellsOf 63=3:=by kernel_rfl
  have hall:∀ i,i<len→∃ t:Tr,w.cells? 0 (a.add (i*3)) 3=some [.int .i64 t.1,.int .i64 t.2.1,.int .i64 t.2.2]:=fun i hi=>by
   obtain ⟨cs,h1,h2⟩:=hx i (by omega)
   rw [c3] at h1
   obtain ⟨t,e⟩:=open_opdC h2
   rw [e] at h1
   exact ⟨t,h1⟩
  obtain ⟨f,hf⟩:=Deep.choose_lt hall
  refine ⟨some a,len,cap,(List.range len).map f,hcs,by simp,by omega,?_⟩
  by_cases h0:len=0
  ·left;subst h0;simp
  ·have q:=(World.cells?_some (hf 0 (by omega))).2.2 0 (by omega)
   rw [Nat.zero_mul,show (a.add 0).add 0=a.add 0 by simp [Addr.add]] at q
   obtain ⟨b,off,rfl⟩:=plain_cell q
   refine .inr ⟨b,off,rfl,fun j hj=>?_⟩
   have hj':j<len:=by simpa using hj
   have e0:=(World.cells?_some (hf j hj')).2.2 0 (by omega)
   have e1:=(World.cells?_some (hf j hj')).2.2 1 (by omega)
   have e2:=(World.cells?_some (hf j hj')).2.2 2 (by omega)
   rw [add_twice] at e0 e1 e2
   simp only [List.getElem_map,List.getElem_range]
   exact ⟨e0,e1,e2⟩
theorem open_ins {b0:Nat} {v:Value} {d:DataW H} {p:List MemPlace} (hv:Value.okWide Tryz.prog w .any b0 26 v) (h:DataW.Trod enc Tryz.prog w 0 spare true 26 v d p) :
  ∃ (s:ByteArray) (A:Option Addr) (cap:Nat) (L:List Tr),v=.agg #[.string s,.slice A L.length cap]∧s.size≤maxLen∧L.length≤maxLen∧OpsP w A L:=by
 obtain ⟨c0,c1,y0,y1,n,rfl,-,-,h0,h1⟩:=Joins.open_agg2 Tryz.underlying26 (by kernel_rfl) (by kernel_rfl) hv h
 obtain ⟨s,e0,_,hs⟩:=DataW.trod_string Tryz.underlying9 h0
 have e0':c0=.string s:=by simpa using e0
 obtain ⟨A,len,cap,L,e2,e3,e4,hL⟩:=open_opds h1
 subst e0' e2 e3
 exact ⟨s,A,cap,L,rfl,hs,e4,hL⟩
end
end Go.Proofs.YtoilebmbljpieaaGreatDoor
namespace Go.Proofs.YtoilebmbljpieaaGreatDoor
open Go.RowKit Go.ChangeShapes Go.WideShapes Go.Deep
structure Ie where
 s:ByteArray
 A:Option Addr
 cap:Nat
 L:List Tr
instance:Inhabited Ie:=⟨⟨⟨#[]⟩,none,0,[]⟩⟩
def Ie.v (r:Ie):Value:=.slice r.A r.L.length r.cap
def InsP (w:World) (A:Option Addr) (R:List Ie):Prop:=
 R=[]∨∃ b off,A=some ⟨b,off,none⟩∧∀ j (h:j<R.length),w.cell? ⟨b,off+j*2,none⟩=some (.string R[j].s)∧w.cell? ⟨b,off+j*2+1,none⟩=some R[j].v∧OpsP w R[j].A R[j].L
theorem InsP.at_ {w:World} {A:Option Addr} {R:List Ie} (h:InsP w A R) {k:Nat} (hk:k<R.length):∃ b off,A=some ⟨b,off,none⟩∧w.cell? ⟨b,off+k*2,none⟩=some (.string R[k].s)∧w.cell? ⟨b,off+k*2+1,none⟩=some R[k].v∧OpsP w R[k].A R[k].L:=by
 rcases h with rfl | ⟨b,off,rfl,hc⟩
 ·simp at hk
 ·exact ⟨b,off,rfl,hc k hk⟩
theorem InsP.below {w w':World} {A:Option Addr} {R:List Ie} (h:InsP w A R) (hb:Below w.heap.size w w'):InsP w' A R:=by
 rcases h with rfl | ⟨b,off,rfl,hc⟩
 ·exact .inl rfl
 ·refine .inr ⟨b,off,rfl,fun j hj=>?_⟩
  have e:∀ (p:Addr) (v:Value),w.cell? p=some v→w'.cell? p=some v:=fun p v hp=>(hb.cell (World.block_lt_of_cell? w _ hp)).trans hp
  obtain ⟨h1,h2,h3⟩:=hc j hj
  exact ⟨e _ _ h1,e _ _ h2,h3.below hb⟩
section
variable {H:Type} {enc:TypeId×Value→H} {w:World} {spare:Nat→Bool} {fuel:Nat}
theorem open_insC {cs:List Value} {x:DataW H×List MemPlace} (h:DataW.trod enc Tryz.prog w 0 spare true fuel 26 cs=some x):∃ r:Ie,cs=[.string r.s,r.v]∧r.s.size≤maxLen∧r.L.length≤maxLen∧OpsP w r.A r.L:=by
 obtain ⟨y0,y1,n,_,hl,h0,h1⟩:=trod_struct2 Tryz.underlying26 h
 have c2:Tryz.prog.cellsOf 26=2:=by kernel_rfl
 have c1:Tryz.prog.cellsOf 9=1:=by kernel_rfl
 have c3:Tryz.prog.cellsOf 24=1:=by kernel_rfl
 rw [c2] at hl
 match cs,hl with
 | [p0,p1],_=>
  simp only [c1,c3] at h0 h1
  obtain ⟨s,e0,_,hs⟩:=DataW.trod_string Tryz.underlying9 h0
  have e0':p0=.string s:=by simpa using e0
  simp only [List.drop_succ_cons,List.drop_zero,List.take_succ_cons,List.take_zero] at h1
  obtain ⟨A,len,cap,L,e2,e3,e4,hL⟩:=open_opds h1
  subst e0' e2 e3
  exact ⟨⟨s,A,cap,L⟩,rfl,hs,e4,hL⟩
theorem open_inss {v:Value} {x:DataW H×List MemPlace} (h:DataW.trod enc Tryz.prog w 0 spare true fuel 22 [v]=some x) :
  ∃ A len cap R,v=.slice A len cap∧len=R.length∧len≤maxLen∧InsP w A R∧∀ r∈R,r.s.size≤maxLen∧r.L.length≤maxLen:=by
 rcases Deep.open_slice Tryz.underlying22 h with ⟨hcs,_⟩ | ⟨a,len,cap,m,n,D,Pl,hcs,_,hl,hm,hmm,_,hx⟩
 ·simp only [List.cons.injEq,and_true] at hcs
  exact ⟨none,0,0,[],hcs,rfl,Nat.zero_le _,.inl rfl,fun r hr=>absurd hr List.not_mem_nil⟩
 ·simp only [List.cons.injEq,and_true] at hcs
  have hlm:len≤m:=by rw [hmm];split <;> omega
  have c2:Tryz.prog.cellsOf 26=2:=by kernel_rfl
  have hall:∀ i,i<len→∃ r:Ie,w.cells? 0 (a.add (i*2)) 2=some [.string r.s,r.v]∧r.s.size≤maxLen∧r.L.length≤maxLen∧OpsP w r.A r.L:=fun i hi=>by
   obtain ⟨cs,h1,h2⟩:=hx i (by omega)
   rw [c2] at h1
   obtain ⟨r,e,h3,h4,h5⟩:=open_insC h2
   rw [e] at h1
   exact ⟨r,h1,h3,h4,h5⟩
  obtain ⟨f,hf⟩:=Deep.choose_lt hall
  refine ⟨some a,len,cap,(List.range len).map f,hcs,by simp,by omega,?_,?_⟩
  ·by_cases h0:len=0
   ·left;subst h0;simp
   ·have q:=(World.cells?_some (hf 0 (by omega)).1).2.2 0 (by omega)
    rw [Nat.zero_mul,show (a.add 0).add 0=a.add 0 by simp [Addr.add]] at q
    obtain ⟨b,off,rfl⟩:=plain_cell q
    refine .inr ⟨b,off,rfl,fun j hj=>?_⟩
    have hj':j<len:=by simpa using hj
    have e0:=(World.cells?_some (hf j hj').1).2.2 0 (by omega)
    have e1:=(World.cells?_some (hf j hj').1).2.2 1 (by omega)
    rw [add_twice] at e0 e1
    simp only [List.getElem_map,List.getElem_range]
    exact ⟨e0,e1,(hf j hj').2.2.2⟩
  ·intro r hr
   obtain ⟨i,hi,rfl⟩:=List.mem_map.1 hr
   exact ⟨(hf i (List.mem_range.1 hi)).2.1,(hf i (List.mem_range.1 hi)).2.2.1⟩
end
def cellsE:List Ie→List Value
 | []=>[]
 | r :: t=>.string r.s :: r.v :: cellsE t
def OwnE (w:World) (n:Nat) (v:Value) (R:List Ie):Prop:=w.ownsRow n 26 2 v R.length (cellsE R)∧∀ r∈R,OwnT w n r.v r.L
theorem OwnE.below {w w':World} {n:Nat} {v:Value} {R:List Ie} (h:OwnE w n v R) (k:Below w.heap.size w w'):OwnE w' n v R:=
 ⟨World.ownsRow.kept h.1 (row:=none) ⟨k.os,k.tape,k.output,k.size,fun i hi _=>k.block i hi⟩ (by
  cases e:v.ownBlock with
  | none=>exact .inl rfl
  | some g=>exact .inr (by simp)),fun r hr=>(h.2 r hr).below k⟩
theorem OwnT.kept {w w':World} {n g:Nat} {v:Value} {L:List Tr} {row:Option Nat} (h:OwnT w n v L) (k:w.grownBy w' row) (hr:∀ q,row=some q→∀ cur fz,w.heap[q]?≠some (.cells cur 63 fz)):OwnT w' n v L:=
 World.ownsRow.kept h k (by
  cases e:v.ownBlock with
  | none=>exact .inl rfl
  | some q=>
   refine .inr fun e'=>?_
   rcases h.2 with ⟨rfl,_⟩ | ⟨g',cap,cur,rfl,_,hg,_⟩
   ·simp [Value.ownBlock] at e
   ·simp only [Value.ownBlock,Option.some.injEq] at e
    subst e
    exact hr _ e'.symm _ _ hg)
end Go.Proofs.YtoilebmbljpieaaGreatDoor
namespace Go.Proofs.YtoilebmbljpieaaGreatDoor
open Go.RowKit Go.Shelf
attribute [local go_sem] Oper.semAt_some
def sT (s:ByteArray):Str:=s.data.toList
theorem sB_sT (s:ByteArray):sB (sT s)=s:=by
 obtain ⟨d⟩:=s
 show (⟨d.toList.toArray⟩:ByteArray)=⟨d⟩
 rw [Array.toArray_toList]
theorem sT_len (s:ByteArray):(sT s).length=s.size:=by unfold sT;rw [Array.length_toList];rfl
def legB (s:ByteArray) (L:List Tr):Bool:=(findK (sT s) (canL (opc s) L)).isSome
theorem codeF_ne (op:Str) (I C:List Tr):codeF op I C≠0:=by
 unfold codeF
 split
 ·assumption
 ·split <;> decide
theorem legB_some {s:ByteArray} {L:List Tr} {k:Ke} (h:findK (sT s) (canL (opc s) L)=some k):legB s L=true:=by unfold legB;rw [h];rfl
theorem sfind2_any (s:ByteArray) (hs:s.size≤1000) (Ai:Option Addr) (capi li:Nat) (I:List Tr) (hli:I.length=li) (hLi:li≤900) (w:World) (hM:MaxAt w) (HF:OpsP w Ai I) :
  Calls Tryz.prog 48 #[.agg #[.string s,.slice Ai li capi]] w (RetSrch w (sT s) I (findK (sT s) (canL (opc s) I))):=by
 have h:=sfind_any (sT s) (by rw [sT_len];exact hs) Ai capi li I hli hLi w hM HF
 rw [sB_sT] at h
 exact h
end Go.Proofs.YtoilebmbljpieaaGreatDoor
namespace Go.Proofs.YtoilebmbljpieaaGreatDoor
open Go.RowKit
theorem code_split {s:ByteArray} {L:List Tr} (h:codeI s L=0):knB s=true∧L.length≤3∧∀ t∈L,vT t=true:=by
 unfold codeI at h
 split at h
 ·cases h
 ·rename_i h1
  split at h
  ·cases h
  ·rename_i h2
   split at h
   ·rename_i h3
    exact ⟨by simpa using h1,by omega,fun t ht=>List.all_eq_true.1 h3 t ht⟩
   ·cases h
theorem mem_ex {c:Nat} {L:List Tr} {u:Tr} (h:u∈exL c (accL c L)):u∈L∨u=accT∨u=hlT∨u=deT:=by
 have h1:u∈accL c L∨u=hlT∨u=deT:=by
  unfold exL at h
  split at h
  ·rcases List.mem_cons.1 h with e | h
   ·exact .inr (.inr e)
   ·exact .inr (.inl (List.mem_singleton.1 h))
  ·exact .inl h
 rcases h1 with h1 | h1 | h1
 ·unfold accL at h1
  split at h1
  ·exact .inl (List.mem_of_mem_tail h1)
  ·split at h1
   ·rcases List.mem_cons.1 h1 with e | h
    ·exact .inr (.inl e)
    ·exact .inl h
   ·exact .inl h1
 ·exact .inr (.inr (.inl h1))
 ·exact .inr (.inr (.inr h1))
theorem vT_acc:vT accT=true:=by decide +kernel
theorem vT_hl:vT hlT=true:=by decide +kernel
theorem vT_de:vT deT=true:=by decide +kernel
theorem vT_mem {c:Nat} {s:ByteArray} {L:List Tr} (h:codeI s L=0) {u:Tr} (hu:u∈exL c (accL c L)):vT u=true:=by
 rcases mem_ex hu with h1 | rfl | rfl | rfl
 ·exact (code_split h).2.2 u h1
 ·exact vT_acc
 ·exact vT_hl
 ·exact vT_de
theorem vT_6 {t:Tr} (h:vT t=true) (hk:t.1=6):t.2.1=0∧-32768≤t.2.2∧t.2.2≤65535:=by
 obtain ⟨a,r,n⟩:=t
 simp only at hk
 subst hk
 unfold vT at h
 simp only [vld_6] at h
 simp only [Bool.and_eq_true,beq_iff_eq,decide_eq_true_eq] at h
 exact ⟨h.1,h.2.1,h.2.2⟩
theorem vT_wrap {t:Tr} (w:Int) (h:vT t=true):vT (wrapT (valW w) t)=true:=by
 by_cases hc:t.1=6∧-(valW w / 2)≤t.2.2∧t.2.2<0
 ·obtain ⟨h1,h2,h3⟩:=vT_6 h hc.1
  have e:wrapT (valW w) t=(t.1,t.2.1,t.2.2+valW w):=by unfold wrapT;rw [if_pos hc]
  rw [e,hc.1]
  unfold vT
  simp only [vld_6,Bool.and_eq_true,beq_iff_eq,decide_eq_true_eq]
  obtain ⟨-,h4,h5⟩:=hc
  refine ⟨h1,?_,?_⟩ <;> rcases valW_cases w with q | q | q <;> rw [q] at h4 ⊢ <;> omega
 ·have e:wrapT (valW w) t=t:=by unfold wrapT;rw [if_neg hc]
  rw [e];exact h
theorem canL_le3 {c:Nat} {L:List Tr} (h:L.length≤3):(canL c L).length≤3:=by
 unfold canL
 rw [List.length_map,exL_len]
 unfold accL
 split
 ·rw [List.length_tail];omega
 ·split
  ·simp only [List.length_cons];omega
  ·exact h
theorem can_check {s:ByteArray} {L:List Tr} (h:codeI s L=0):codeI s (canL (opc s) L)=0:=by
 obtain ⟨h1,h2,h3⟩:=code_split h
 refine (code_0 s _ h1 (by have:=canL_le3 (c:=opc s) h2;omega) fun k hk a=>?_).symm
 have hm:=List.getElem_mem a
 unfold canL at hm
 rw [List.mem_map] at hm
 obtain ⟨u,hu,e⟩:=hm
 have:=vT_wrap (widL (opc s) L) (vT_mem h hu)
 rw [e] at this
 exact this
end Go.Proofs.YtoilebmbljpieaaGreatDoor
namespace Go.Proofs.YtoilebmbljpieaaGreatDoor
open Go.RowKit Go.Shelf
theorem vT_of {a b:Tr} (hk:ks2 a=ks2 b) (ha:vT a=true) (hn:loK b.1.toNat≤b.2.2∧b.2.2≤hiK b.1.toNat):vT b=true:=by
 obtain ⟨k,r,n⟩:=a
 obtain ⟨k2,r2,n2⟩:=b
 unfold ks2 at hk
 simp only [Prod.mk.injEq] at hk
 obtain ⟨rfl,rfl⟩:=hk
 unfold vT vldB at ha ⊢
 simp only [Bool.and_eq_true,decide_eq_true_eq] at ha ⊢ hn
 exact ⟨ha.1,hn⟩
theorem vT_rng {a:Tr} (h:vT a=true):loK a.1.toNat≤a.2.2∧a.2.2≤hiK a.1.toNat:=by
 obtain ⟨k,r,n⟩:=a
 unfold vT vldB at h
 simp only [Bool.and_eq_true,decide_eq_true_eq] at h
 exact h.2
theorem with_rng {c:UInt8} {n:Int} (h:withR c n=true):(rangeR c).1≤n∧n≤(rangeR c).2:=by
 unfold withR at h
 unfold rangeR
 by_cases h1:c=100∨c=101
 ·rw [if_pos h1] at h ⊢
  simp only [Bool.and_eq_true,decide_eq_true_eq] at h
  exact h
 ·rw [if_neg h1] at h ⊢
  by_cases h2:c=110
  ·rw [if_pos h2] at h ⊢
   simp only [Bool.and_eq_true,decide_eq_true_eq] at h
   exact h
  ·rw [if_neg h2] at h ⊢
   simp only [Bool.and_eq_true,decide_eq_true_eq] at h
   exact h
theorem shape_get {A B:List Tr} (h:A.map ks2=B.map ks2) {k:Nat} (hk:k<B.length):ks2 (A.getD k tr0)=ks2 (B.getD k tr0):=by
 have hl:A.length=B.length:=by have:=congrArg List.length h;simpa using this
 have h1:(A.map ks2)[k]?=(B.map ks2)[k]?:=by rw [h]
 rw [List.getElem?_map,List.getElem?_map,List.getElem?_eq_getElem hk,List.getElem?_eq_getElem (by omega)] at h1
 rw [List.getD_eq_getElem?_getD,List.getD_eq_getElem?_getD,List.getElem?_eq_getElem hk,List.getElem?_eq_getElem (by omega)]
 exact Option.some.inj h1
theorem fits_valid {k:Ke} (ok:OkS k) {s:ByteArray} {C:List Tr} (h:fitsR k.2.2.1 k.2.2.2.1 k.2.2.2.2.1 s C=true):∀ t∈C,vT t=true:=by
 intro t ht
 unfold fitsR shpR at h
 simp only [Bool.and_eq_true,decide_eq_true_eq,List.all_eq_true,List.mem_range] at h
 obtain ⟨⟨-,hsh⟩,hall⟩:=h
 obtain ⟨j,hj,rfl⟩:=List.getElem_of_mem ht
 have hl:k.2.2.2.1.length=C.length:=by have:=congrArg List.length hsh;simpa using this
 have hg:=shape_get hsh hj
 have hC:C.getD j tr0=C[j]:=by rw [List.getD_eq_getElem?_getD,List.getElem?_eq_getElem hj];rfl
 have hL:k.2.2.2.1.getD j tr0=k.2.2.2.1[j]'(by omega):=by rw [List.getD_eq_getElem?_getD,List.getElem?_eq_getElem (by omega)];rfl
 have hv:=(code_split ok.code).2.2 _ (List.getElem_mem (l:=k.2.2.2.1) (n:=j) (by omega))
 have hf:=hall j hj
 have hr:=ok.rng
 unfold rngB at hr
 have hr:=List.all_eq_true.1 hr j (List.mem_range.2 (by omega))
 rw [hC,hL] at hg
 rw [hL] at hr
 have hkd:(k.2.2.2.1[j]'(by omega)).1=C[j].1:=congrArg (fun q:Int×Int=>q.1) hg
 unfold fitT at hf
 rw [hC,hL] at hf
 refine vT_of hg hv ?_
 have hvr:=vT_rng hv
 rw [hkd] at hvr hr
 by_cases hz:letR k.2.2.2.2.1 k.2.2.2.1 j=0
 ·rw [if_pos hz,decide_eq_true_eq] at hf
  rw [hf] at hvr
  exact hvr
 ·rw [if_neg hz] at hf
  have hw:=with_rng hf
  simp only [Bool.or_eq_true,beq_iff_eq,Bool.and_eq_true,decide_eq_true_eq] at hr
  rcases hr with hr | hr
  ·exact absurd hr hz
  ·omega
theorem wrap_valid {v:Int} (hv:v=256∨v=65536∨v=0) {t:Tr} (h:vT (wrapT v t)=true):vT t=true:=by
 unfold wrapT at h
 by_cases hc:t.1=6∧-(v / 2)≤t.2.2∧t.2.2<0
 ·rw [if_pos hc] at h
  obtain ⟨k,r,n⟩:=t
  simp only at hc
  obtain ⟨rfl,h1,h2⟩:=hc
  refine vT_of (a:=(6,r,n+v)) rfl h ?_
  have e1:loK (6:Int).toNat=-32768:=rfl
  have e2:hiK (6:Int).toNat=65535:=rfl
  simp only [e1,e2]
  omega
 ·rw [if_neg hc] at h
  exact h
theorem ex_mem {c:Nat} {L:List Tr} {t:Tr} (h:t∈L):t∈exL c L:=by
 unfold exL
 split
 ·rename_i hc
  obtain ⟨-,rfl⟩:=hc
  simp only [List.mem_cons,List.not_mem_nil,or_false] at h ⊢
  exact h.symm
 ·exact h
theorem acc_valid {c:Nat} {L:List Tr} (h:∀ t∈accL c L,vT t=true):∀ t∈L,vT t=true:=by
 intro t ht
 unfold accL at h
 by_cases h1:c=1∧L.length=2∧L.head?=some accT
 ·rw [if_pos h1] at h
  cases L with
  | nil=>cases ht
  | cons a L=>
   obtain ⟨-,-,e⟩:=h1
   obtain rfl:a=accT:=Option.some.inj e
   rcases List.mem_cons.1 ht with rfl | ht
   ·decide +kernel
   ·exact h t ht
 ·rw [if_neg h1] at h
  by_cases h2:c=2∧L.length=1
  ·rw [if_pos h2] at h
   exact h t (List.mem_cons_of_mem _ ht)
  ·rw [if_neg h2] at h
   exact h t ht
theorem acc_short {c:Nat} {L:List Tr} (h:(accL c L).length≤3):L.length≤3:=by
 unfold accL at h
 by_cases h1:c=1∧L.length=2∧L.head?=some accT
 ·omega
 ·rw [if_neg h1] at h
  by_cases h2:c=2∧L.length=1
  ·omega
  ·rw [if_neg h2] at h
   exact h
theorem can_valid {c:Nat} {L:List Tr} (h:∀ t∈canL c L,vT t=true):∀ t∈L,vT t=true:=by
 refine acc_valid (c:=c) fun t ht=>?_
 have h1:=h (wrapT (valW (widL c L)) t) (by unfold canL;exact List.mem_map_of_mem (ex_mem ht))
 exact wrap_valid (valW_cases _) h1
theorem can_code {s:ByteArray} {I:List Tr} (hs:knB s=true) (hl:(canL (opc s) I).length≤3) (h:∀ t∈canL (opc s) I,vT t=true):codeI s I=0:=by
 have h3:I.length≤3:=acc_short (c:=opc s) (by unfold canL at hl;rw [List.length_map,exL_len] at hl;exact hl)
 unfold codeI
 rw [if_neg (by simp [hs]),if_neg (by omega),if_pos (List.all_eq_true.2 (can_valid h))]
theorem fst_shape {A B:List Tr} (h:A.map ks2=B.map ks2):A.any fstB=B.any fstB:=by
 have e:∀ L:List Tr,L.any fstB=(L.map ks2).any fun q=>fstB (q.1,q.2,0):=fun L=>by rw [List.any_map];rfl
 rw [e,e,h]
theorem ix_shape {A B:List Tr} (h:A.map ks2=B.map ks2):ixL2 A=ixL2 B:=by
 have e:∀ L:List Tr,ixL2 L=(L.map ks2).foldl (fun a q=>max a (ixT (q.1,q.2,0))) 0:=fun L=>by rw [List.foldl_map];rfl
 rw [e,e,h]
theorem ix_valid:∀ (L:List Tr) (a:Int),(∀ t∈L,vT t=true)→L.foldl (fun a t=>max a (idxI t.1 t.2.1 t.2.2)) a=L.foldl (fun a t=>max a (ixT t)) a
 | [],_,_=>rfl
 | t :: L,a,h=>by
  rw [List.foldl_cons,List.foldl_cons,ixT_idx (h t (List.mem_cons_self ..))]
  exact ix_valid L _ fun u hu=>h u (List.mem_cons_of_mem _ hu)
theorem ixC_eq {C:List Tr} (h:∀ t∈C,vT t=true):ixC C=ixL2 C:=by
 unfold ixC ixF ixL2
 rw [List.take_length]
 exact ix_valid C 0 h
theorem sT_sB (m:Str):sT (sB m)=m:=by unfold sT sB;simp
theorem legB_iff (s:ByteArray) (I:List Tr):legB s I=true↔RLeg s I (canL (opc s) I):=by
 obtain ⟨C,hC⟩:∃ z,canL (opc s) I=z:=⟨_,rfl⟩
 constructor
 ·intro h
  unfold legB at h
  rw [hC] at h ⊢
  obtain ⟨k,hk⟩:=Option.isSome_iff_exists.1 h
  unfold findK candN at hk
  have h1:=List.find?_some hk
  have h2:=List.mem_of_find?_eq_some hk
  obtain ⟨h2,h3⟩:=List.mem_filter.1 h2
  obtain ⟨hin,hm,hsh,hpg⟩:=cand_in h2
  have ok:=hin.ok
  have hf:fitsR k.2.2.1 k.2.2.2.1 k.2.2.2.2.1 s C=true:=by
   unfold hasK at h1
   rw [has_fits ok.places,sB_sT] at h1
   exact h1
  have hv:=fits_valid ok hf
  have hl:k.2.2.2.1.length=C.length:=by have:=congrArg List.length hsh;simpa using this
  have hlen:=ok.len
  have hkn:knB s=true:=by
   have:=(code_split ok.code).1
   rw [hm,sB_sT] at this
   exact this
  have hcode:codeI s I=0:=can_code hkn (by rw [hC];omega) (by rw [hC];exact hv)
  have hal:k.2.2.2.2.2=false:=by unfold notAl at h3;simpa using h3
  have hfst:=ok.fst
  rw [fst_shape hsh] at hfst
  have hlo:=ok.lo
  have hhi:=ok.hi
  obtain ⟨n,hn,hn2,hr⟩:=hin
  refine ⟨hcode,k.1,n,?_,?_,hn,(k.2.2.1,k.2.2.2.1,k.2.2.2.2.1,k.2.2.2.2.2),hr,hal,hf⟩
  ·unfold fstI
   rw [hfst]
   by_cases h:3≤k.1
   ·simp [h]
   ·simp [h];omega
  ·unfold lstI
   rw [hfst]
   by_cases h:3≤k.1
   ·simp [h];omega
   ·simp [h];omega
 ·rintro ⟨hcode,page,n,-,-,hn,x,hr,hal,hf⟩
  have hin:InTab (page,(n:Int),x.1,x.2.1,x.2.2.1,x.2.2.2):=⟨n,hn,rfl,hr⟩
  have ok:=hin.ok
  have hcv:=code_split (can_check hcode)
  rw [hC] at hcv hf
  have hsf:=hf
  unfold fitsR shpR at hsf
  simp only [Bool.and_eq_true,decide_eq_true_eq] at hsf
  obtain ⟨⟨hm,hsh⟩,-⟩:=hsf
  have hix:=ok.ix
  rw [ix_shape hsh,← ixC_eq hcv.2.2] at hix
  have hlo:=ok.lo
  have hhi:=ok.hi
  simp only at hix hlo hhi
  have hpg:page∈pagesC C:=by
   unfold pagesC
   rw [hix]
   unfold pgIx
   have hp:page=0∨page=1∨page=2∨page=3∨page=4∨page=5∨page=6:=by omega
   rcases hp with rfl | rfl | rfl | rfl | rfl | rfl | rfl <;> decide
  have hmem:(page,(n:Int),x.1,x.2.1,x.2.2.1,x.2.2.2)∈candK (sT s) C:=in_cand hin (by rw [← hm,sT_sB]) hsh hpg
  unfold legB findK candN
  rw [hC,List.find?_isSome]
  refine ⟨_,List.mem_filter.2 ⟨hmem,by unfold notAl;simp [hal]⟩,?_⟩
  unfold hasK
  rw [has_fits ok.places,sB_sT]
  exact hf
end Go.Proofs.YtoilebmbljpieaaGreatDoor
namespace Go.Proofs.YtoilebmbljpieaaGreatDoor
open Go.RowKit Go.Shelf
attribute [local go_sem] Oper.semAt_some
def candQ (op:Str) (C:List Tr):List Ke:=(((pagesC C).flatMap fun p=>(entsR p 256).filter fun e=>decide (e.2.2.1=op)).filter (shpE C)).filter notAl
theorem candN_Q (op:Str) (C:List Tr):candN op C=candQ op C:=by
 unfold candN candK candP candQ keysAll
 exact congrArg (fun f=>((List.flatMap f (pagesC C)).filter (shpE C)).filter notAl) (funext fun p=>keysPg_named op p)
theorem ex_u1:upB ⟨#[76,68]⟩=⟨#[76,68]⟩:=ByteArray.ext (by decide +kernel)
theorem ops_two (w:World) (x y:Tr):OpsP (w.alloc (.cells #[.int .i64 x.1,.int .i64 x.2.1,.int .i64 x.2.2,.int .i64 y.1,.int .i64 y.2.1,.int .i64 y.2.2] 63)) (some ⟨w.heap.size,0,none⟩) [x,y]:=by
 refine .inr ⟨_,0,rfl,fun j hj=>?_⟩
 have:j=0∨j=1:=by simp at hj;omega
 rcases this with rfl | rfl
 ·exact ⟨by simp [go_sem],by simp [go_sem],by simp [go_sem]⟩
 ·exact ⟨by simp [go_sem],by simp [go_sem],by simp [go_sem]⟩
end Go.Proofs.YtoilebmbljpieaaGreatDoor
namespace Go.Proofs.YtoilebmbljpieaaGreatDoor
open Go.RowKit Go.Shelf
def ltK (a b:Ke):Prop:=a.1<b.1∨(a.1=b.1∧a.2.1<b.2.1)
theorem ltK.irrefl {a:Ke} (h:ltK a a):False:=by rcases h with h | ⟨-,h⟩ <;> omega
theorem ltK.asymm {a b:Ke} (h:ltK a b) (k:ltK b a):False:=by
 rcases h with h | ⟨h1,h2⟩ <;> rcases k with k | ⟨k1,k2⟩ <;> omega
theorem ents_lt {page:Int}:∀ K:Nat,∀ y∈entsR page K,y.2.1<(K:Int)
 | 0,y,hy=>by cases hy
 | K+1,y,hy=>by
  have ih:=ents_lt (page:=page) K
  unfold entsR at hy
  cases hx:ratT page K with
  | none=>rw [hx] at hy;have:=ih y hy;omega
  | some x=>
   rw [hx] at hy
   rcases List.mem_append.1 hy with h | h
   ·have:=ih y h;omega
   ·obtain rfl:=List.mem_singleton.1 h
    simp only
    omega
theorem ents_sorted (page:Int):∀ K:Nat,K≤256→(entsR page K).Pairwise ltK
 | 0,_=>List.Pairwise.nil
 | K+1,hK=>by
  have ih:=ents_sorted page K (by omega)
  unfold entsR
  cases hx:ratT page K with
  | none=>exact ih
  | some x=>
   refine List.pairwise_append.2 ⟨ih,List.pairwise_singleton _ _,fun a ha b hb=>?_⟩
   obtain rfl:=List.mem_singleton.1 hb
   exact .inr ⟨(ents_in page K (by omega) a ha).1,ents_lt K a ha⟩
theorem pages_sorted {l:List Int} (hl:l.Pairwise (· < ·)) (p:Ke→Bool):(l.flatMap fun g=>(entsR g 256).filter p).Pairwise ltK:=by
 refine List.pairwise_flatMap.2 ⟨fun a _=>(ents_sorted a 256 (Nat.le_refl _)).filter _,hl.imp fun {a b} hab x hx y hy=>?_⟩
 have h1:=(ents_in a 256 (Nat.le_refl _) x (List.mem_filter.1 hx).1).1
 have h2:=(ents_in b 256 (Nat.le_refl _) y (List.mem_filter.1 hy).1).1
 exact .inl (by omega)
theorem pagesC_sorted (C:List Tr):(pagesC C).Pairwise (· < ·):=by
 unfold pagesC
 split
 ·decide
 ·split <;> decide
theorem candK_sorted (op:Str) (C:List Tr):(candK op C).Pairwise ltK:=by
 have e:candK op C=((pagesC C).flatMap fun p=>(entsR p 256).filter fun e=>decide (e.2.2.1=op)).filter (shpE C):=by
  unfold candK candP keysAll
  rw [show (keysPg fun m=>decide (m=op))=fun p=>(entsR p 256).filter fun e=>decide (e.2.2.1=op) from funext fun p=>keysPg_named op p]
 rw [e]
 exact (pages_sorted (pagesC_sorted C) _).filter _
theorem find_min {l:List Ke} (hs:l.Pairwise ltK) {p:Ke→Bool} {a b:Ke} (hf:l.find? p=some a) (hb:b∈l) (hp:p b=true):b=a∨ltK a b:=by
 obtain ⟨-,l1,l2,rfl,hn⟩:=List.find?_eq_some_iff_append.1 hf
 rcases List.mem_append.1 hb with h | h
 ·have:=hn b h
  rw [hp] at this
  cases this
 ·rcases List.mem_cons.1 h with h | h
  ·exact .inl h
  ·exact .inr ((List.pairwise_cons.1 (List.pairwise_append.1 hs).2.1).1 b h)
theorem sorted_ext:∀ {l1 l2:List Ke},l1.Pairwise ltK→l2.Pairwise ltK→(∀ x,x∈l1↔x∈l2)→l1=l2
 | [],[],_,_,_=>rfl
 | [],b :: l2,_,_,h=>by have:=(h b).2 (List.mem_cons_self ..);cases this
 | a :: l1,[],_,_,h=>by have:=(h a).1 (List.mem_cons_self ..);cases this
 | a :: l1,b :: l2,h1,h2,h=>by
  obtain ⟨a1,a2⟩:=List.pairwise_cons.1 h1
  obtain ⟨b1,b2⟩:=List.pairwise_cons.1 h2
  have hab:a=b:=by
   rcases List.mem_cons.1 ((h a).1 (List.mem_cons_self ..)) with e | e
   ·exact e
   ·rcases List.mem_cons.1 ((h b).2 (List.mem_cons_self ..)) with e2 | e2
    ·exact e2.symm
    ·exact absurd (a1 b e2) fun q=>q.asymm (b1 a e)
  subst hab
  rw [sorted_ext a2 b2 fun x=>⟨fun hx=>by
    rcases List.mem_cons.1 ((h x).1 (List.mem_cons_of_mem _ hx)) with e | e
    ·subst e;exact absurd (a1 _ hx) ltK.irrefl
    ·exact e,fun hx=>by
    rcases List.mem_cons.1 ((h x).2 (List.mem_cons_of_mem _ hx)) with e | e
    ·subst e;exact absurd (b1 _ hx) ltK.irrefl
    ·exact e⟩]
theorem cand_pg {op:Str} {C:List Tr} {k:Ke} (h:k∈candK op C):fstI C≤k.1∧k.1≤lstI C:=by
 obtain ⟨hin,-,hsh,-⟩:=cand_in h
 have ok:=hin.ok
 have hfst:=ok.fst
 rw [fst_shape hsh] at hfst
 have hlo:=ok.lo
 have hhi:=ok.hi
 constructor
 ·unfold fstI
  rw [hfst]
  by_cases h:3≤k.1
  ·simp [h]
  ·simp [h];omega
 ·unfold lstI
  rw [hfst]
  by_cases h:3≤k.1
  ·simp [h];omega
  ·simp [h];omega
theorem shp_cand {s:ByteArray} {C:List Tr} (hv:∀ t∈C,vT t=true) {page:Int} {n:Nat} (hn:n<256) {x:En} (hr:ratT page n=some x) (h:shpR x.1 x.2.1 s C=true):(page,(n:Int),x.1,x.2.1,x.2.2.1,x.2.2.2)∈candK (sT s) C:=by
 have hin:InTab (page,(n:Int),x.1,x.2.1,x.2.2.1,x.2.2.2):=⟨n,hn,rfl,hr⟩
 have ok:=hin.ok
 unfold shpR at h
 simp only [Bool.and_eq_true,decide_eq_true_eq] at h
 obtain ⟨hm,hsh⟩:=h
 have hix:=ok.ix
 rw [ix_shape hsh,← ixC_eq hv] at hix
 have hlo:=ok.lo
 have hhi:=ok.hi
 simp only at hix hlo hhi
 have hpg:page∈pagesC C:=by
  unfold pagesC
  rw [hix]
  unfold pgIx
  have hp:page=0∨page=1∨page=2∨page=3∨page=4∨page=5∨page=6:=by omega
  rcases hp with rfl | rfl | rfl | rfl | rfl | rfl | rfl <;> decide
 exact in_cand hin (by rw [← hm,sT_sB]) hsh hpg
theorem fits_shp {m ex:Str} {L:List Tr} {s:ByteArray} {C:List Tr} (h:fitsR m L ex s C=true):shpR m L s C=true:=by
 unfold fitsR at h
 exact (Bool.and_eq_true_iff.1 h).1
theorem hasK_fits {k:Ke} (hk:InTab k) (s:ByteArray) (C:List Tr):hasK (sT s) C k=fitsR k.2.2.1 k.2.2.2.1 k.2.2.2.2.1 s C:=by
 unfold hasK
 rw [has_fits hk.ok.places,sB_sT]
theorem find_link {s:ByteArray} {I:List Tr} {g:Int} {n:Nat} {x:En} (h:FstR s I (canL (opc s) I) g n x):findK (sT s) (canL (opc s) I)=some (g,(n:Int),x.1,x.2.1,x.2.2.1,x.2.2.2):=by
 obtain ⟨hc,h1,h2,hn,hr,hal,hf,hmin⟩:=h
 have hcv:=code_split (can_check hc)
 obtain ⟨C,hC⟩:∃ z,canL (opc s) I=z:=⟨_,rfl⟩
 rw [hC] at hf hmin hcv ⊢
 have hin:InTab (g,(n:Int),x.1,x.2.1,x.2.2.1,x.2.2.2):=⟨n,hn,rfl,hr⟩
 have hmem:=shp_cand hcv.2.2 hn hr (fits_shp hf)
 have hN:(g,(n:Int),x.1,x.2.1,x.2.2.1,x.2.2.2)∈candN (sT s) C:=List.mem_filter.2 ⟨hmem,by unfold notAl;simp [hal]⟩
 have hh:hasK (sT s) C (g,(n:Int),x.1,x.2.1,x.2.2.1,x.2.2.2)=true:=by rw [hasK_fits hin];exact hf
 obtain ⟨k,hk⟩:=Option.isSome_iff_exists.1 (List.find?_isSome.2 ⟨_,hN,hh⟩)
 have hk':findK (sT s) C=some k:=hk
 have hmn:=find_min ((candK_sorted (sT s) C).filter _) hk hN hh
 rcases hmn with e | hlt
 ·rw [hk',← e]
 ·exfalso
  obtain ⟨q1,q2⟩:=List.mem_filter.1 (List.mem_of_find?_eq_some hk)
  have q3:=List.find?_some hk
  have q4:=(cand_in q1).1
  rw [hasK_fits q4] at q3
  obtain ⟨i,hi,e1,e2⟩:=q4
  refine hmin k.1 i (cand_pg q1).1 hi ?_ ⟨_,e2,by unfold notAl at q2;simpa using q2,q3⟩
  rcases hlt with hlt | ⟨hl1,hl2⟩
  ·exact .inl hlt
  ·simp only at hl1 hl2
   exact .inr ⟨hl1,by omega⟩
theorem code_link {s:ByteArray} {I:List Tr} {c:Int} (h:CodeR s I (canL (opc s) I) c):codeF (sT s) I (canL (opc s) I)=c:=by
 unfold codeF
 rw [sB_sT]
 rcases h with ⟨h1,rfl⟩ | ⟨h1,h2⟩
 ·rw [if_pos h1]
 ·rw [if_neg (by simp [h1])]
  have hcv:=code_split (can_check h1)
  rcases h2 with ⟨rfl,h2⟩ | ⟨rfl,pg,n,h3,h4,hn,x,hr,hal,hs⟩
  ·rw [if_pos]
   rw [List.isEmpty_iff,List.eq_nil_iff_forall_not_mem]
   intro k hk
   obtain ⟨q1,q2⟩:=List.mem_filter.1 hk
   obtain ⟨hin,hm,hsh,-⟩:=cand_in q1
   obtain ⟨p1,p2⟩:=cand_pg q1
   obtain ⟨i,hi,e1,e2⟩:=hin
   refine h2 k.1 i p1 p2 hi ⟨_,e2,by unfold notAl at q2;simpa using q2,?_⟩
   unfold shpR
   rw [decide_eq_true hsh,hm,sB_sT,decide_eq_true rfl]
   rfl
  ·rw [if_neg]
   rw [List.isEmpty_iff]
   intro he
   have:=List.mem_filter.2 ⟨shp_cand hcv.2.2 hn hr hs,(by unfold notAl;simp [hal]:notAl (pg,(n:Int),x.1,x.2.1,x.2.2.1,x.2.2.2)=true)⟩
   have he':(candK (sT s) (canL (opc s) I)).filter notAl=[]:=he
   rw [he'] at this
   cases this
theorem none_link {s:ByteArray} {I:List Tr} (h:¬RLeg s I (canL (opc s) I)):findK (sT s) (canL (opc s) I)=none:=by
 cases hf:findK (sT s) (canL (opc s) I) with
 | none=>rfl
 | some k=>exact absurd ((legB_iff s I).1 (legB_some hf)) h
def allK (op:Str) (C:List Tr):List Ke:=(candK op C).filter (hasK op C)
def pgR (C:List Tr):List Int:=if C.any fstB=true then [3,4,5,6] else [0,1,2]
def allR (s:ByteArray) (C:List Tr):List Ke:=(pgR C).flatMap fun p=>(entsR p 256).filter fun k=>fitsR k.2.2.1 k.2.2.2.1 k.2.2.2.2.1 s C
theorem pgR_iff (C:List Tr) (p:Int):p∈pgR C↔fstI C≤p∧p≤lstI C:=by
 unfold pgR fstI lstI
 by_cases h:C.any fstB=true
 ·simp only [h,if_true,List.mem_cons,List.not_mem_nil,or_false]
  omega
 ·simp only [h,Bool.false_eq_true,if_false,List.mem_cons,List.not_mem_nil,or_false]
  omega
theorem all_same (s:ByteArray) (C:List Tr):allK (sT s) C=allR s C:=by
 refine sorted_ext ((candK_sorted _ _).filter _) (pages_sorted (by unfold pgR;split <;> decide) _) fun k=>?_
 constructor
 ·intro h
  obtain ⟨q1,q2⟩:=List.mem_filter.1 h
  have q3:=(cand_in q1).1
  rw [hasK_fits q3] at q2
  refine List.mem_flatMap.2 ⟨k.1,(pgR_iff C k.1).2 (cand_pg q1),List.mem_filter.2 ⟨in_ents q3 256 ?_,q2⟩⟩
  obtain ⟨n,hn,e,-⟩:=q3
  omega
 ·intro h
  obtain ⟨p,hp,h⟩:=List.mem_flatMap.1 h
  obtain ⟨h1,h2⟩:=List.mem_filter.1 h
  have hin:=(ents_in p 256 (Nat.le_refl _) k h1).2
  have hv:=fits_valid hin.ok h2
  refine List.mem_filter.2 ⟨?_,by rw [hasK_fits hin];exact h2⟩
  obtain ⟨n,hn,e1,e2⟩:=hin
  have:=shp_cand hv hn e2 (fits_shp h2)
  obtain ⟨g,o,m,L,ex,al⟩:=k
  simp only at e1 this
  subst e1
  exact this
end Go.Proofs.YtoilebmbljpieaaGreatDoor
