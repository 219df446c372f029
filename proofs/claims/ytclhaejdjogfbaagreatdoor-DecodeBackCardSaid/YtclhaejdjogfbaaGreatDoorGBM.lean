/-
  NumN, WrA, WrB, WrC, WrD, WrE, WrF, EnQ, DgQ, DfG.
-/
import Derived.Test.YtclhaejdjogfbaaGreatDoorGBL
import Derived.Test.YtclhaejdjogfbaaGreatDoorGAR
import Derived.Test.YtclhaejdjogfbaaGreatDoorGAQ
import Derived.Test.YtclhaejdjogfbaaGreatDoorGAI
import Derived.Lib.OthersKept
import Derived.Maps.Own
import Derived.Maps.OwnOps
import Derived.Maps.OwnSet
import Derived.Maps.Views
import Derived.Laws.EntriesVeiled
import Derived.Test.YtclhaejdjogfbaaGreatDoorGAS
import Derived.WalkSmall
import Derived.Deep.DeepCutAuto
import Derived.Test.YtclhaejdjogfbaaGreatDoorGAA
import Derived.Laws.RangeString
import Derived.Laws.RangeAny
import Derived.Test.YtclhaejdjogfbaaGreatDoorGAT
import Derived.Test.YtclhaejdjogfbaaGreatDoorGAV
import Derived.Test.YtclhaejdjogfbaaGreatDoorMCnU
import Derived.Test.YtclhaejdjogfbaaGreatDoorQ0
set_option linter.all false
set_option maxRecDepth 100000
set_option maxHeartbeats 4000000
namespace Go.Proofs.YtclhaejdjogfbaaGreatDoor
open Go.RowKit
theorem IntsAt.below {w w':World} {A:Option Addr} {xs:List Int} (h:IntsAt w A xs) (hb:Below w.heap.size w w'):IntsAt w' A xs:=by
 rcases h with rfl | ⟨b,off,rfl,hc⟩
 ·exact .inl rfl
 ·exact .inr ⟨b,off,rfl,fun j hj=>(hb.cell (p:=⟨b,off+j,none⟩) (World.block_lt_of_cell? w _ (hc j hj))).trans (hc j hj)⟩
def RetBytes (w:World) (xs:List UInt8) (e:Ending) (w':World):Prop:=∃ A cap,e=.returned (.slice A xs.length cap)∧BytesB w' A xs∧Below w.heap.size w w'
def NewA (w:World) (A:Option Addr):Prop:=∀ a,A=some a→w.heap.size≤a.block
def RetBytesN (w:World) (xs:List UInt8) (e:Ending) (w':World):Prop:=∃ A cap,e=.returned (.slice A xs.length cap)∧BytesB w' A xs∧xs.length≤cap∧NewA w A∧Below w.heap.size w w'
theorem RetBytesN.ret {w:World} {xs:List UInt8} {e:Ending} {w':World} (h:RetBytesN w xs e w'):RetBytes w xs e w':=by
 obtain ⟨A,cap,h1,h2,_,_,h3⟩:=h
 exact ⟨A,cap,h1,h2,h3⟩
def lowU (n:Int):UInt8:=(n % 256).toNat.toUInt8
theorem lowU_nat (n:Int):((lowU n).toNat:Int)=n % 256:=by
 unfold lowU
 rw [UInt8.toNat_ofNat_of_lt' (show (n % 256).toNat<256 by omega)]
 omega
def LowRel (w:World) (zs:List Int) (k:Nat) (wr:World):Prop:=
 (∀ j (h:j<zs.length),wr.cell? ⟨w.heap.size,j,none⟩=some (.int .u8 (if j<k then zs[j] % 256 else 0)))∧(∀ j,j<zs.length→wr.frozen? ⟨w.heap.size,j,none⟩=false)∧Below w.heap.size w wr
theorem lowRel_start (w:World) (zs:List Int) (e:TypeId):LowRel w zs 0 (w.alloc (.cells (madeCells #[.int .u8 0] zs.length) e)):=by
 refine ⟨fun j h=>?_,fun j h=>?_,(Below.refl _ _).alloc (Nat.le_refl _) _⟩
 ·rw [if_neg (by omega)]
  simp [go_sem,madeCells,h,Nat.mod_one]
 ·simp [go_sem]
theorem lowRel_next (w wr:World) (zs:List Int) (k:Nat) (hk:k<zs.length) (hr:LowRel w zs k wr):LowRel w zs (k+1) (wr.setCell ⟨w.heap.size,k,none⟩ (.int .u8 (zs[k] % 256))):=by
 obtain ⟨r1,r2,r3⟩:=hr
 refine ⟨fun j hj=>?_,fun j hj=>?_,r3.setCell (by simp) _⟩
 ·by_cases e:j=k
  ·subst e
   have:=r1 _ hj
   rw [if_pos (by omega)]
   simp [go_sem,this]
  ·rw [World.cell?_setCell_other _ _ _ _ (by simp),r1 j hj]
   by_cases h1:j<k
   ·rw [if_pos h1,if_pos (by omega)]
   ·rw [if_neg h1,if_neg (by omega)]
 ·simp [go_sem,r2 j hj]
theorem lowRel_end (w wr:World) (zs:List Int) (hr:LowRel w zs zs.length wr):RetBytesN w (zs.map lowU) (.returned (.slice (some ⟨w.heap.size,0,none⟩) zs.length zs.length)) wr:=by
 refine ⟨some ⟨w.heap.size,0,none⟩,zs.length,by rw [List.length_map],.inr ⟨_,0,rfl,fun j hj=>?_⟩,by rw [List.length_map];exact Nat.le_refl _,fun a h=>(by cases h;exact Nat.le_refl _),hr.2.2⟩
 have hj':j<zs.length:=by simpa using hj
 rw [Nat.zero_add,hr.1 j hj',if_pos hj']
 simp [lowU_nat]
theorem lowN_any (A:Option Addr) (cap:Nat) (zs:List Int) (hl:zs.length≤281474976710656) (w:World) (hz:IntsAt w A zs) :
  Calls Tryz.prog 165 #[.slice A zs.length cap] w (RetBytesN w (zs.map lowU)):=by
 have Z:=J9 hz
 clear hz
 have hmk:=fun w=>run_make_row' (P:=Tryz.prog) 25 5 (.int .u8 0) 1 Tryz.underlying25 info_u8 rfl .i64 .i64 zs.length (by omega) (by omega) w
 have S:=J9 (lowRel_start w zs 5)
 go_enter Tryz.func165,Tryz.ntmps165
 go_wp2
 clear hmk
 go_loopw [11] (fun i wr=>∃ k:Nat,k≤zs.length∧i=.int .i64 k∧LowRel w zs k wr) (fun i _=>zs.length - (intOf i).toNat)
 case atStart=>exact ⟨0,Nat.zero_le _,rfl,S.out⟩
 case round=>
  obtain ⟨k,hk,rfl,hr⟩:=hrel
  have R:=J9 hr
  clear hr
  by_cases hlt:k<zs.length
  ·obtain ⟨b,off,hA,g0⟩:=(Z.out.below R.out.2.2).at_ hlt
   subst hA
   have g1:=R.out.1 k hlt
   rw [if_neg (by omega)] at g1
   have g2:=R.out.2.1 k hlt
   have N:=J9 (lowRel_next w wr zs k hlt R.out)
   have hw:=IntKind.wrap_u8 zs[k]
   go_wp2
   go_roundw
   case rel=>exact ⟨k+1,by omega,by go_num,N.out⟩
   case measure=>simp [intOf];omega
  ·obtain rfl:k=zs.length:=by omega
   have N:=J9 (lowRel_end w wr zs R.out)
   go_wp2
   go_ret
   exact N.out
theorem low_any (A:Option Addr) (cap:Nat) (zs:List Int) (hl:zs.length≤281474976710656) (w:World) (hz:IntsAt w A zs) :
  Calls Tryz.prog 165 #[.slice A zs.length cap] w (RetBytes w (zs.map lowU)):=(lowN_any A cap zs hl w hz).mono fun _ _ h=>h.ret
end Go.Proofs.YtclhaejdjogfbaaGreatDoor
namespace Go.Proofs.YtclhaejdjogfbaaGreatDoor
open Go.RowKit Go.Shelf
attribute [local go_sem] Oper.semAt_some
attribute [local irreducible] Go.Mixed.wpMix
structure Wri where
 page:Int
 op:Int
 m:Str
 v:Value
 ex:Str
 al:Bool
 d:Int
 n:Int
def Wri.cells (h:Wri) (u:Value):Array Value:=#[.int .i64 h.page,.int .u8 h.op,.string (sB h.m),h.v,.string (sB h.ex),.bool h.al,.int .i64 h.d,.int .i64 h.n,u]
def WrAt (w:World) (B b:Nat) (h:Wri) (xs:Str):Prop:=∃ A c,w.heap[b]?=some (.cells (h.cells (.slice A xs.length c)) 125 (0,0))∧TOwnB w B (.slice A xs.length c) xs
structure WKp (b:Nat) (w w':World):Prop where
 size:w.heap.size≤w'.heap.size
 same:∀ k,k<w.heap.size→k≠b→(∀ cur,w.heap[k]?≠some (.cells cur 5 (0,0)))→w'.heap[k]?=w.heap[k]?
theorem WKp.refl (b:Nat) (w:World):WKp b w w:=⟨Nat.le_refl _,fun _ _ _ _=>rfl⟩
theorem WKp.of_below {b:Nat} {w w':World} (h:Below w.heap.size w w'):WKp b w w':=⟨h.size,fun k hk _ _=>h.block k hk⟩
theorem WKp.trans {b:Nat} {w w' w'':World} (h:WKp b w w') (h':WKp b w' w''):WKp b w w'':=
 ⟨Nat.le_trans h.size h'.size,fun k hk hb ht=>(h'.same k (Nat.lt_of_lt_of_le hk h.size) hb (fun cur e=>ht cur (by rw [← h.same k hk hb ht];exact e))).trans (h.same k hk hb ht)⟩
theorem WKp.set {b:Nat} {w w':World} (h:WKp b w w') (j:Nat) (u:Value):WKp b w (w'.setCell ⟨b,j,none⟩ u):=
 ⟨by simpa using h.size,fun k hk hb ht=>(heap_setCell_other w' ⟨b,j,none⟩ k u hb).trans (h.same k hk hb ht)⟩
theorem upA (w:World) (o:Obj):Below w.heap.size w (w.alloc o):=(Below.refl _ _).alloc (Nat.le_refl _) _
theorem own_u8 {w:World} {n:Nat} {u:Value} {xs:Str} (h:TOwnB w n u xs) {g:Nat} (e:u.ownBlock=some g):∃ cur,w.heap[g]?=some (.cells cur 5 (0,0)):=by
 rcases h.2 with ⟨rfl,_⟩ | ⟨g',cap,cur,rfl,_,h2,_⟩
 ·cases e
 ·cases e
  exact ⟨cur,h2⟩
theorem WKp.grown {b B:Nat} {w w':World} {v:Value} {xs:Str} (h:TOwnB w B v xs) (g:w.grownBy w' v.ownBlock):WKp b w w':=
 ⟨g.size,fun k hk _ ht=>g.block k hk (fun e=>by obtain ⟨cur,hc⟩:=own_u8 h e.symm;exact ht cur hc)⟩
section
variable {w w':World} {B b:Nat} {h:Wri} {xs:Str}
theorem WrAt.lt (H:WrAt w B b h xs):b<w.heap.size:=by obtain ⟨A,c,k,-⟩:=H;exact (Array.getElem?_eq_some_iff.1 k).1
theorem WrAt.below (H:WrAt w B b h xs) (hb:Below w.heap.size w w'):WrAt w' B b h xs:=by
 have hl:=H.lt
 obtain ⟨A,c,k,o⟩:=H
 exact ⟨A,c,(hb.block b hl).trans k,o.below hb⟩
end
theorem wr_cells {w:World} {b:Nat} {h:Wri} {u:Value} (k:w.heap[b]?=some (.cells (h.cells u) 125 (0,0))) :
  w.cell? ⟨b,0,none⟩=some (.int .i64 h.page)∧w.cell? ⟨b,1,none⟩=some (.int .u8 h.op)∧w.cell? ⟨b,4,none⟩=some (.string (sB h.ex))∧w.cell? ⟨b,6,none⟩=some (.int .i64 h.d)∧w.cell? ⟨b,7,none⟩=some (.int .i64 h.n)∧w.cell? ⟨b,8,none⟩=some u∧w.frozen? ⟨b,8,none⟩=false:=
 ⟨C9 k 0,C9 k 1,C9 k 4,C9 k 6,C9 k 7,C9 k 8,Lib.frozen_of_heap k 8⟩
theorem wpList_appBsG {wr:World} {B:Nat} {v:Value} {xs:Str} (h:TOwnB wr B v xs) {A:Option Addr} {c:Nat} {ys:Str} (hP:BytesAt wr A ys) (hB:B≤wr.heap.size) (hs:xs.length+ys.length≤100000) {ops:Array Oper} {rest:List Oper} {o:Oper} {a:Act} {Q:Exit→Act→World→Prop} (hgd:o.guard=none) (s x:Operand)
  (ho:o.op=.call {callee:=.builtin .append,args:=#[s,x],argTypes:=#[25,25]}) (hty:o.type=25) (hsv:a.eval s=v) (m:Nat) (hm:ys.length=m) (hx:a.eval x=.slice A m c) (n:Nat) (hn:xs.length+m=n)
  (k:∀ A' cap' w1,TOwnB w1 B (.slice A' n cap') (xs++ys)→Below B wr w1→wr.grownBy w1 v.ownBlock→wpList Tryz.prog ops Q rest (a.put o.dst (.slice A' n cap')) w1):wpList Tryz.prog ops Q (o :: rest) a wr:=by
 subst hm hn
 obtain ⟨v',w',k1,k2,k3,k4⟩:=run_appBs wr B v xs h A c ys hP hB hs
 obtain ⟨A',cap',rfl,-⟩:=k2.bytes
 rw [List.length_append] at k1 k2
 exact wpList_run_append k1 hgd s x ho hty hsv hx (k A' cap' w' k2 k3 k4)
theorem map_low (zs:List Int):zs.map lowU=zs.map byteI:=rfl
theorem wr_store {w:World} {B b:Nat} {h:Wri} {u:Value} {A:Option Addr} {c:Nat} {xs:Str} (k:w.heap[b]?=some (.cells (h.cells u) 125 (0,0))) (o:TOwnB w B (.slice A xs.length c) xs) :
  WrAt (w.setCell ⟨b,8,none⟩ (.slice A xs.length c)) B b h xs:=by
 refine ⟨A,c,heap_setCell_same w b 8 _ _ _ k,row_set_ne o (fun g hg=>?_) _⟩
 obtain ⟨cur,hc⟩:=own_u8 o hg
 rintro rfl
 rw [k] at hc
 simp at hc
def RetPut (w:World) (B b:Nat) (h:Wri) (zs:Str) (e:Ending) (w':World):Prop:=e=.returned (.tuple #[])∧WrAt w' B b h zs∧Below B w w'∧WKp b w w'
theorem wput_any (B b:Nat) (h:Wri) (xs:Str) (hx:xs.length≤1000) (Al:Option Addr) (cap l:Nat) (zs:List Int) (hl:zs.length=l) (hz:l≤1000) (w:World) (H:WrAt w B b h xs) (hB:B≤b) (hi:IntsAt w Al zs) :
  Calls Tryz.prog 132 #[.pointer (some ⟨b,0,none⟩),.slice Al l cap] w (RetPut w B b h (xs++zs.map byteI)):=by
 have hbw:=H.lt
 obtain ⟨A,c,k,o⟩:=H
 have lw:=fun w' p=>low_any Al cap zs (by omega) w' p
 rw [hl] at lw
 obtain ⟨ys,hys⟩:=N9 (zs.map byteI)
 have hyl:ys.length=l:=by rw [← hys,List.length_map,hl]
 rw [map_low,hys] at lw
 rw [hys]
 obtain ⟨n,hn⟩:=N9 (xs.length)
 rw [hn] at k o hx
 have HYL:=J9 hyl
 have HN:=J9 hn
 have K:=J9 k
 have O:=J9 o
 have HI:=J9 hi
 clear hi hl hys hyl hn k o
 unfold RetBytes at lw
 rw [HYL.out] at lw
 have LW:=J9 lw
 clear lw
 go_enter Tryz.func132,Tryz.ntmps132
 go_upto_region 0 with fail
 obtain ⟨w1,hw1⟩:=N9 (w.drew)
 have hd:Below w.heap.size w w1:=by rw [← hw1];exact below_drewN w _ 1
 have K1:Hid (w1.heap[b]?=some (.cells (h.cells (.slice A n c)) 125 (0,0))):=(hd.block b hbw).trans K.out
 have O1:=J9 (O.out.below hd)
 have I1:Hid (IntsAt w1 Al zs):=by rw [← hw1];exact HI.out
 have B1:=J9 hd
 clear hd K O HI
 refine Mixed.wp_region_mixed (fun w'=>w'.heap[b]?=some (.cells (h.cells (.slice A n c)) 125 (0,0))) 8 [(0,true),(1,true),(2,true),(3,true),(4,true),(5,true),(6,false),(7,false)] (by kernel_rfl) (by kernel_rfl) (by rw [hw1];exact K1.out) ?_
 rw [hw1]
 clear hw1
 refine Mixed.mp rfl (.pointer (some ⟨b,0,none⟩)) ?_
 refine Mixed.mp rfl (.pointer (some ⟨b,0,none⟩)) ?_
 refine Mixed.mp rfl (.pointer (some ⟨b,0,none⟩)) ?_
 refine Mixed.mp rfl (.pointer (some ⟨b,8,none⟩)) ?_
 refine Mixed.mo rfl (.slice A n c) (fun w h=>by obtain ⟨h0,h1,h2,h3,h4,h5,h6⟩:=wr_cells h;clear h;go_simp;try rfl) ?_
 refine Mixed.mp rfl (.slice Al l cap) ?_
 refine Mixed.wpMix_loud rfl ?_
 have L1:=LW.out w1 I1.out
 clear LW I1
 go_wp2_with fail
 refine L1.mono ?_
 rintro e w2 ⟨A2,c2,rfl,hP,hb⟩
 have hbw1:b<w1.heap.size:=(Array.getElem?_eq_some_iff.1 K1.out).1
 have K2:Hid (w2.heap[b]?=some (.cells (h.cells (.slice A n c)) 125 (0,0))):=(hb.block b hbw1).trans K1.out
 have O2:=J9 (O1.out.below hb)
 have B2:Hid (Below w.heap.size w w2):=B1.out.trans (hb.mono B1.out.size)
 have P2:Hid (BytesAt w2 A2 ys):=hP
 clear K1 O1 B1 L1 hP hb hbw1
 go_wp2
 refine ⟨K2.out,?_⟩
 refine Mixed.wpMix_loud rfl ?_
 have Z2:Hid (B≤w2.heap.size):=by have:=B2.out.size;show _≤_;omega
 refine wpList_appBsG (ys:=ys) O2.out P2.out Z2.out (by rw [HN.out,HYL.out];omega) rfl _ _ rfl rfl rfl l HYL.out rfl (n+l) (by rw [HN.out]) ?_
 intro A3 c3 w3 h1 h2 h3
 have K3:Hid (w3.heap[b]?=some (.cells (h.cells (.slice A n c)) 125 (0,0))):=(h3.block b (by have:=B2.out.size;omega) (fun e=>by
  obtain ⟨cur,hc⟩:=own_u8 O2.out e.symm
  rw [K2.out] at hc
  simp at hc)).trans K2.out
 have O3:=J9 h1
 have B3:Hid (Below B w w3):=(B2.out.mono (by omega)).trans h2
 have W3:Hid (WKp b w w3):=(WKp.of_below B2.out).trans (WKp.grown O2.out h3)
 clear h1 h2 h3 O2 P2 B2 Z2 K2
 go_wp2
 refine ⟨K3.out,?_⟩
 simp only [Mixed.wpMix]
 obtain ⟨e0,e1,e2,e3,e4,e5,e6⟩:=wr_cells K3.out
 have F:Hid (RetPut w B b h (xs++ys) (.returned (.tuple #[])) (w3.setCell ⟨b,8,none⟩ (.slice A3 (n+l) c3))):=by
  have hln:(xs++ys).length=n+l:=by rw [List.length_append,HN.out,HYL.out]
  have o3:=O3.out
  rw [← hln] at o3 ⊢
  exact ⟨rfl,wr_store K3.out o3,B3.out.setCell (by simpa using hB) _,W3.out.set 8 _⟩
 clear e0 e1 e2 e3 e4
 go_wp2
 refine bodyPost_end (v:=.tuple #[]) ?_ rfl F.out
 simp [results,Tryz.results132,go_sem]
end Go.Proofs.YtclhaejdjogfbaaGreatDoor
namespace Go.Proofs.YtclhaejdjogfbaaGreatDoor
open Go.RowKit Go.Shelf
attribute [local go_sem] Oper.semAt_some
attribute [local irreducible] Go.Mixed.wpMix
theorem ints_new1 (w:World) (x:Int):IntsAt (w.alloc (.cells #[.int .i64 x] 3)) (some ⟨w.heap.size,0,none⟩) [x]:=by
 refine .inr ⟨_,_,rfl,fun j hj=>?_⟩
 obtain rfl:j=0:=by simp at hj;omega
 rw [C9 (heap_alloc_new w _)]
 rfl
theorem ints_new2 (w:World) (x y:Int):IntsAt (w.alloc (.cells #[.int .i64 x,.int .i64 y] 3)) (some ⟨w.heap.size,0,none⟩) [x,y]:=by
 refine .inr ⟨_,_,rfl,fun j hj=>?_⟩
 rw [C9 (heap_alloc_new w _)]
 have:j=0∨j=1:=by simp at hj;omega
 rcases this with rfl | rfl <;> rfl
theorem RetPut.from {w w1:World} {B b:Nat} {h:Wri} {zs:Str} {e:Ending} {w':World} (hb:Below w.heap.size w w1) (hB:B≤w.heap.size) (r:RetPut w1 B b h zs e w'):RetPut w B b h zs e w':=
 ⟨r.1,r.2.1,(hb.mono hB).trans r.2.2.1,(WKp.of_below hb).trans r.2.2.2⟩
theorem wdisp_any (B b:Nat) (h:Wri) (xs:Str) (hx:xs.length≤1000) (w:World) (H:WrAt w B b h xs) (hB:B≤b) :
  Calls Tryz.prog 102 #[.pointer (some ⟨b,0,none⟩)] w (RetPut w B b h (xs++[byteI h.d])):=by
 have hbw:=H.lt
 have hal:=upA w (.cells #[.int .i64 h.d] 3)
 have P:=wput_any B b h xs hx (some ⟨w.heap.size,0,none⟩) 1 1 [h.d] rfl (by omega) _ (H.below hal) hB (ints_new1 w h.d)
 have P:=J9 (P.mono fun e w' r=>r.from hal (by omega))
 obtain ⟨A,c,k,o⟩:=H
 obtain ⟨e0,e1,e2,e3,e4,e5,e6⟩:=wr_cells k
 clear hal k o e0 e1 e2 e5 e6
 obtain ⟨x,hx⟩:=N9 (h.d)
 simp only [hx] at e3 e4 P ⊢
 clear hx
 go_enter Tryz.func102,Tryz.ntmps102
 go_wp2_with fail
 refine P.out.mono ?_
 rintro e w1 ⟨rfl,h1⟩
 have R:=J9 h1
 clear h1 P
 go_wp2
 refine bodyPost_end (v:=.tuple #[]) ?_ rfl ⟨rfl,R.out⟩
 simp [results,Tryz.results102,go_sem]
theorem wbyte_any (B b:Nat) (h:Wri) (xs:Str) (hx:xs.length≤1000) (w:World) (H:WrAt w B b h xs) (hB:B≤b) :
  Calls Tryz.prog 134 #[.pointer (some ⟨b,0,none⟩)] w (RetPut w B b h (xs++[byteI h.n])):=by
 have hbw:=H.lt
 have hal:=upA w (.cells #[.int .i64 h.n] 3)
 have P:=wput_any B b h xs hx (some ⟨w.heap.size,0,none⟩) 1 1 [h.n] rfl (by omega) _ (H.below hal) hB (ints_new1 w h.n)
 have P:=J9 (P.mono fun e w' r=>r.from hal (by omega))
 obtain ⟨A,c,k,o⟩:=H
 obtain ⟨e0,e1,e2,e3,e4,e5,e6⟩:=wr_cells k
 clear hal k o e0 e1 e2 e5 e6
 obtain ⟨x,hx⟩:=N9 (h.n)
 simp only [hx] at e3 e4 P ⊢
 clear hx
 go_enter Tryz.func134,Tryz.ntmps134
 go_wp2_with fail
 refine P.out.mono ?_
 rintro e w1 ⟨rfl,h1⟩
 have R:=J9 h1
 clear h1 P
 go_wp2
 refine bodyPost_end (v:=.tuple #[]) ?_ rfl ⟨rfl,R.out⟩
 simp [results,Tryz.results134,go_sem]
theorem wword_any (B b:Nat) (h:Wri) (xs:Str) (hx:xs.length≤1000) (w:World) (H:WrAt w B b h xs) (hB:B≤b) :
  Calls Tryz.prog 135 #[.pointer (some ⟨b,0,none⟩)] w (RetPut w B b h (xs++[byteI h.n,byteI (h.n / 256)])):=by
 have hbw:=H.lt
 obtain ⟨w1,hw1⟩:=N9 (w.drew)
 have hd:Below w.heap.size w w1:=by rw [← hw1];exact below_drewN w _ 1
 have hal:=upA w1 (.cells #[.int .i64 h.n,.int .i64 (h.n / 256)] 3)
 have P:=wput_any B b h xs hx (some ⟨w1.heap.size,0,none⟩) 2 2 [h.n,h.n / 256] rfl (by omega) _ ((H.below hd).below hal) hB (ints_new2 w1 h.n (h.n / 256))
 have P:=J9 (P.mono fun e w' r=>(r.from hal (by have:=hd.size;omega)).from hd (by omega))
 obtain ⟨A,c,k,o⟩:=H
 have K:Hid (w1.heap[b]?=some (.cells (h.cells (.slice A xs.length c)) 125 (0,0))):=(hd.block b hbw).trans k
 have K2:Hid ((w1.alloc (.cells #[.int .i64 h.n,.int .i64 (h.n / 256)] 3)).heap[b]?=some (.cells (h.cells (.slice A xs.length c)) 125 (0,0))):=(hal.block b (by have:=hd.size;omega)).trans K.out
 clear hal hd k o
 go_enter Tryz.func135,Tryz.ntmps135
 go_upto_region 0 with fail
 refine Mixed.wp_region_mixed (fun w'=>w'.heap[b]?=some (.cells (h.cells (.slice A xs.length c)) 125 (0,0))) 11 [(0,true),(1,true),(2,true),(3,true),(4,true),(5,true),(6,true),(7,true),(8,true),(9,true),(10,false)] (by kernel_rfl) (by kernel_rfl) (by rw [hw1];exact K.out) ?_
 rw [hw1]
 clear hw1 K
 refine Mixed.mp rfl (.pointer (some ⟨b,0,none⟩)) ?_
 refine Mixed.mp rfl (.pointer (some ⟨b,0,none⟩)) ?_
 refine Mixed.mp rfl (.pointer (some ⟨b,0,none⟩)) ?_
 refine Mixed.mp rfl (.pointer (some ⟨b,7,none⟩)) ?_
 refine Mixed.mo rfl (.int .i64 h.n) (fun w h=>by obtain ⟨h0,h1,h2,h3,h4,h5,h6⟩:=wr_cells h;clear h;go_simp;try rfl) ?_
 refine Mixed.mp rfl (.pointer (some ⟨b,0,none⟩)) ?_
 refine Mixed.mp rfl (.pointer (some ⟨b,0,none⟩)) ?_
 refine Mixed.mp rfl (.pointer (some ⟨b,7,none⟩)) ?_
 refine Mixed.mo rfl (.int .i64 h.n) (fun w h=>by obtain ⟨h0,h1,h2,h3,h4,h5,h6⟩:=wr_cells h;clear h;go_simp;try rfl) ?_
 refine Mixed.mp rfl (.int .i64 (h.n / 256)) ?_
 refine Mixed.wpMix_loud rfl ?_
 go_wp2
 refine ⟨K2.out,?_⟩
 clear K2
 simp only [Mixed.wpMix]
 go_wp2_with fail
 refine P.out.mono ?_
 rintro e w2 ⟨rfl,h1⟩
 have R:=J9 h1
 clear h1 P
 go_wp2
 refine bodyPost_end (v:=.tuple #[]) ?_ rfl ⟨rfl,R.out⟩
 simp [results,Tryz.results135,go_sem]
end Go.Proofs.YtclhaejdjogfbaaGreatDoor
namespace Go.Proofs.YtclhaejdjogfbaaGreatDoor
open Go.RowKit Go.Maps
def heldV (v:Value):Option (DataW Value×List MemPlace):=some (.held v,[])
def methV (f b:Nat):Value:=.func (.func f) #[.pointer (some ⟨b,0,none⟩)] #[]
def partsD (b:Nat):DataW Value:=((((DataW.map []).put (.int .i32 100) (.held (methV 102 b))).put (.int .i32 101) (.held (methV 134 b))).put (.int .i32 110) (.held (methV 134 b))).put (.int .i32 119) (.held (methV 135 b))
theorem keyI:Keyed Tryz.prog 21:=int_keyed Tryz.underlying21
def PtAt (w:World) (g b:Nat):Prop:=w.ownsMap Tryz.prog 21 heldV g 4 (partsD b)
theorem PtAt.lt {w:World} {g b:Nat} (h:PtAt w g b):g<w.heap.size:=World.ownsMap.lt h
theorem PtAt.below {w w':World} {g b:Nat} (h:PtAt w g b) (k:Below w.heap.size w w'):PtAt w' g b:=World.ownsMap.kept h (row:=none) ⟨k.os,k.tape,k.output,k.size,fun i hi _=>k.block i hi⟩ (by simp)
theorem PtAt.kept {w w':World} {g b:Nat} (h:PtAt w g b) (hg:g≠b) (k:WKp b w w'):PtAt w' g b:=by
 have hl:=h.lt
 obtain ⟨es,clock,hb,F,hs,hD⟩:=h
 exact ⟨es,clock,(k.same g hl hg (fun cur e=>by rw [hb] at e;cases e)).trans hb,F,hs,hD⟩
theorem wpList_insertW {ops:Array Oper} {rest:List Oper} {o:Oper} {a:Act} {Q:Exit→Act→World→Prop} {w:World} {g n:Nat} {D:DataW Value} (hgd:o.guard=none) (m x v:Operand)
  (ho:o.op=.insert 160 m x v) (hd:o.dst=none) (hown:w.ownsMap Tryz.prog 21 heldV g n D) (hn:n≤1000) (hm:a.eval m=.map (some g)) (key:Int) (hw:(Lit.int .i32 key).wf=true) (hx:a.eval x=.int .i32 key) (val:Value) (hv:a.eval v=val)
  (k:∀ w',w'.ownsMap Tryz.prog 21 heldV g (n+1) (D.put (.int .i32 key) (.held val))→w.grownBy w' (some g)→wpList Tryz.prog ops Q rest a w'):wpList Tryz.prog ops Q (o :: rest) a w:=by
 obtain ⟨w',hrun,r1,r2⟩:=hown.update keyI Tryz.underlying160 (show n<maxLen by unfold maxLen;omega) (keyOf_int_mk Tryz.underlying21 hw) (show heldV val=some (.held val,[]) from rfl)
 have ih:=k w' r1 r2
 refine wpList_plain hgd fun K' hK'=>?_
 unfold Oper.wp
 simp [execOp,ho,hm,hx,hv,hrun,Result.andThen]
 have e:a.put o.dst undef=a:=by rw [hd];rfl
 unfold Oper.upon
 rw [e]
 exact hK' _ _ ih
theorem zero_fn (w:World):∃ z,(zeroValue 1).run Tryz.prog w=.ok z w:=⟨.nilFunc,by kernel_rfl⟩
theorem look_part {w:World} {g b:Nat} (h:PtAt w g b) (c:Int) (f:Nat) (hw:(Lit.int .i32 c).wf=true) (hh:Maps.has (partsD b) (.int .i32 c)=true) (ha:∀ z,(partsD b).atKey (.int .i32 c) z=.held (methV f b)) :
  (Instr.lookup 160 (.map (some g)) (.int .i32 c) true).run Tryz.prog w=.ok (.tuple #[methV f b,.bool true]) w:=by
 obtain ⟨z,hz⟩:=zero_fn w
 obtain ⟨v,ps,hrun,hv⟩:=World.ownsMap.look_ok h keyI Tryz.underlying160 hz (show heldV z=some (.held z,[]) from rfl) (keyOf_int_mk Tryz.underlying21 hw)
 rw [ha] at hv
 rw [hh] at hrun
 have e:v=methV f b:=by
  unfold heldV at hv
  simp only [Option.some.injEq,Prod.mk.injEq,DataW.held.injEq] at hv
  exact hv.1
 rw [← e]
 exact hrun
theorem look_100 {w:World} {g b:Nat} (h:PtAt w g b):(Instr.lookup 160 (.map (some g)) (.int .i32 100) true).run Tryz.prog w=.ok (.tuple #[methV 102 b,.bool true]) w:=look_part h 100 _ (by decide) rfl fun z=>rfl
theorem look_101 {w:World} {g b:Nat} (h:PtAt w g b):(Instr.lookup 160 (.map (some g)) (.int .i32 101) true).run Tryz.prog w=.ok (.tuple #[methV 134 b,.bool true]) w:=look_part h 101 _ (by decide) rfl fun z=>rfl
theorem look_110 {w:World} {g b:Nat} (h:PtAt w g b):(Instr.lookup 160 (.map (some g)) (.int .i32 110) true).run Tryz.prog w=.ok (.tuple #[methV 134 b,.bool true]) w:=look_part h 110 _ (by decide) rfl fun z=>rfl
theorem look_119 {w:World} {g b:Nat} (h:PtAt w g b):(Instr.lookup 160 (.map (some g)) (.int .i32 119) true).run Tryz.prog w=.ok (.tuple #[methV 135 b,.bool true]) w:=look_part h 119 _ (by decide) rfl fun z=>rfl
theorem wparts_any (b:Nat) (w:World):Calls Tryz.prog 104 #[.pointer (some ⟨b,0,none⟩)] w fun e w'=>∃ g,e=.returned (.map (some g))∧PtAt w' g b∧w.heap.size≤g∧Below w.heap.size w w':=by
 have hmm:=@run_makeMap Tryz.prog
 have B0:=J9 ((Below.refl w.heap.size w).alloc (Nat.le_refl _) (.map #[] 0))
 have M0:=J9 (World.ownsMap_made (H:=Value) w Tryz.prog 21 heldV)
 have BF:=J9 (show ∀ w1 w2:World,Below w.heap.size w w1→w1.grownBy w2 (some w.heap.size)→Below w.heap.size w w2 from fun w1 w2 h g=>h.grown g h.size fun k hk=>by cases hk;exact Nat.le_refl _)
 go_enter Tryz.func104,Tryz.ntmps104
 go_wp2_with (first | (refine wpList_insertW rfl _ _ _ rfl rfl M0.out (by decide) rfl 100 (by decide) rfl _ rfl ?_;intro w1 h1 g1;have M1:=J9 h1;have B1:=J9 (BF.out _ _ B0.out g1);clear h1 g1 M0 B0) | (refine wpList_insertW rfl _ _ _ rfl rfl M1.out (by decide) rfl 101 (by decide) rfl _ rfl ?_;intro w2 h1 g1;have M2:=J9 h1;have B2:=J9 (BF.out _ _ B1.out g1);clear h1 g1 M1 B1) | (refine wpList_insertW rfl _ _ _ rfl rfl M2.out (by decide) rfl 110 (by decide) rfl _ rfl ?_;intro w3 h1 g1;have M3:=J9 h1;have B3:=J9 (BF.out _ _ B2.out g1);clear h1 g1 M2 B2) | (refine wpList_insertW rfl _ _ _ rfl rfl M3.out (by decide) rfl 119 (by decide) rfl _ rfl ?_;intro w4 h1 g1;have M4:=J9 h1;have B4:=J9 (BF.out _ _ B3.out g1);clear h1 g1 M3 B3) | fail)
 go_ret
 exact ⟨_,rfl,M4.out,Nat.le_refl _,B4.out⟩
end Go.Proofs.YtclhaejdjogfbaaGreatDoor
namespace Go.Proofs.YtclhaejdjogfbaaGreatDoor
open Go.RowKit Go.Shelf
attribute [local go_sem] Oper.semAt_some
attribute [local irreducible] Go.Mixed.wpMix
def base0 (page:Int) (d:Int):Str:=preS page++if 5≤page then [byteI d] else []
theorem byteI_u8 (c:UInt8):byteI (c.toNat:Int)=c:=by
 have h:=byteI_nat (c.toNat:Int)
 have:=c.toNat_lt
 refine UInt8.toNat_inj.1 ?_
 omega
theorem enc_base (page:Int) (op:UInt8) (ex:Str) (d n:Int):encB page (op.toNat:Int) ex d n=base0 page d++[op]++(behS page ex).flatMap (letB d n):=by
 unfold encB base0 behS
 rw [byteI_u8]
 by_cases h:5≤page
 ·simp [if_pos h]
 ·simp [if_neg h]
theorem pre_len (page:Int):(preS page).length≤2:=by
 unfold preS
 repeat' split
 all_goals simp
structure WrL (w wr:World) (B b it g:Nat) (h:Wri) (s2 base:Str) (d n:Int) (j:Nat):Prop where
 le:j≤s2.length
 iter:wr.heap[it]?=some (.stringIter (sB s2) j)
 wrt:WrAt wr B b h (base++(s2.take j).flatMap (letB d n))
 pt:PtAt wr g b
 bel:Below B w wr
structure WrF (B b it g:Nat) (s2 base:Str):Prop where
 hB:B≤b
 hit:b<it
 hg:b<g
 hgi:g<it
 lb:base.length≤10
 ls:s2.length≤2
theorem flat_le (s2:Str) (d n:Int) (j:Nat) (h:s2.length≤2):((s2.take j).flatMap (letB d n)).length≤4:=by
 have hle:∀ t:Str,(t.flatMap (letB d n)).length≤2*t.length:=fun t=>by
  induction t with
  | nil=>simp
  | cons c t ih=>
   rw [List.flatMap_cons,List.length_append,List.length_cons]
   have:(letB d n c).length≤2:=by unfold letB;split <;> (try split) <;> simp
   omega
 have:=hle (s2.take j)
 have h2:=hle (s2.take j)
 rw [List.length_take] at h2
 omega
theorem WrL.len {w wr:World} {B b it g:Nat} {h:Wri} {s2 base:Str} {d n:Int} {j:Nat} (H:WrL w wr B b it g h s2 base d n j) (F:WrF B b it g s2 base):(base++(s2.take j).flatMap (letB d n)).length≤1000:=by
 have:=flat_le s2 d n j F.ls
 have:=F.lb
 rw [List.length_append]
 omega
theorem WrL.next {w wr:World} {B b it g:Nat} {h:Wri} {s2 base:Str} {d n:Int} {j:Nat} (H:WrL w wr B b it g h s2 base d n j) (F:WrF B b it g s2 base) :
  WrAt (wr.iterAt it (sB s2) (j+1)) B b h (base++(s2.take j).flatMap (letB d n))∧PtAt (wr.iterAt it (sB s2) (j+1)) g b∧Below B w (wr.iterAt it (sB s2) (j+1))∧(wr.iterAt it (sB s2) (j+1)).heap[it]?=some (.stringIter (sB s2) (j+1)):=by
 have h1:=F.hB
 have h2:=F.hit
 have h3:=F.hgi
 refine ⟨?_,?_,Lib.below_iterAt H.bel (by omega) _ _,Lib.iterAt_heap _ _ _ _ _ H.iter⟩
 ·obtain ⟨A,c,k,o⟩:=H.wrt
  refine ⟨A,c,(Lib.iterAt_other _ _ _ _ _ (by omega)).trans k,o.1,?_⟩
  rcases o.2 with e | ⟨g',cap,cur,e1,e2,e3,e4⟩
  ·exact .inl e
  ·refine .inr ⟨g',cap,cur,e1,e2,(Lib.iterAt_other _ _ _ _ _ (fun e=>?_)).trans e3,e4⟩
   subst e
   have:=H.iter
   rw [e3] at this
   simp at this
 ·obtain ⟨es,clock,hb,r⟩:=H.pt
  exact ⟨es,clock,(Lib.iterAt_other _ _ _ _ _ (by omega)).trans hb,r⟩
theorem WrL.put {w wr w':World} {B b it g:Nat} {h:Wri} {s2 base:Str} {d n:Int} {j:Nat} (H:WrL w wr B b it g h s2 base d n j) (F:WrF B b it g s2 base) (hj:j<s2.length)
  (X:WrAt w' B b h (base++(s2.take j).flatMap (letB d n)++letB d n s2[j])) (hb:Below B (wr.iterAt it (sB s2) (j+1)) w') (K:WKp b (wr.iterAt it (sB s2) (j+1)) w'):WrL w w' B b it g h s2 base d n (j+1):=by
 obtain ⟨n1,n2,n3,n4⟩:=H.next F
 have h2:=F.hit
 have h3:=F.hgi
 have h4:=F.hg
 refine ⟨hj,?_,?_,n2.kept (by omega) K,n3.trans hb⟩
 ·exact (K.same it (Array.getElem?_eq_some_iff.1 n4).1 (by omega) (fun cur e=>by rw [n4] at e;cases e)).trans n4
 ·have e:base++(s2.take (j+1)).flatMap (letB d n)=base++(s2.take j).flatMap (letB d n)++letB d n s2[j]:=by
   rw [List.take_succ_eq_append_getElem hj,List.flatMap_append,List.append_assoc]
   simp
  rw [e]
  exact X
theorem wr_start {w w0:World} {B b g:Nat} {h:Wri} {s2 base:Str} {d n:Int} (X:WrAt w0 B b h base) (P:PtAt w0 g b) (hb:Below B w w0) (hB:B≤w0.heap.size):WrL w (w0.iter (sB s2) 0) B b w0.heap.size g h s2 base d n 0:=by
 have hal:Below w0.heap.size w0 (w0.iter (sB s2) 0):=upA w0 _
 refine ⟨Nat.zero_le _,World.iter_heap _ _ _,?_,P.below hal,hb.trans (hal.mono hB)⟩
 have:=X.below hal
 simpa using this
theorem wwrite_any (B b:Nat) (page:Int) (op:UInt8) (m:Str) (v:Value) (ex:Str) (al:Bool) (d n:Int) (hpg:page≤6) (hhi:5≤page→ex=[100]) (hlen:(behS page ex).length≤2) (hlet:∀ k (hk:k<(behS page ex).length),(behS page ex)[k]=100∨(behS page ex)[k]=101∨(behS page ex)[k]=110∨(behS page ex)[k]=119) (w:World) (H:WrAt w B b ⟨page,(op.toNat:Int),m,v,ex,al,d,n⟩ []) (hB:B≤b) :
  Calls Tryz.prog 68 #[.pointer (some ⟨b,0,none⟩)] w fun e w'=>e=.returned (.tuple #[])∧WrAt w' B b ⟨page,(op.toNat:Int),m,v,ex,al,d,n⟩ (encB page (op.toNat:Int) ex d n)∧Below B w w':=by
 obtain ⟨h,hh⟩:∃ h:Wri,(⟨page,(op.toNat:Int),m,v,ex,al,d,n⟩:Wri)=h:=⟨_,rfl⟩
 have hp0:h.page=page:=by rw [← hh]
 have hp1:h.op=(op.toNat:Int):=by rw [← hh]
 have hp4:h.ex=ex:=by rw [← hh]
 have hp6:h.d=d:=by rw [← hh]
 have hp7:h.n=n:=by rw [← hh]
 rw [hh] at H ⊢
 have WC:Hid (∀ (w:World) (u:Value),w.heap[b]?=some (.cells (h.cells u) 125 (0,0))→w.cell? ⟨b,0,none⟩=some (.int .i64 page)∧w.cell? ⟨b,1,none⟩=some (.int .u8 (op.toNat:Int))∧w.cell? ⟨b,4,none⟩=some (.string (sB ex))∧w.cell? ⟨b,8,none⟩=some u∧w.frozen? ⟨b,8,none⟩=false):=fun w u k=>by
  obtain ⟨k0,k1,k2,k3,k4,k5,k6⟩:=wr_cells k
  rw [hp0] at k0
  rw [hp1] at k1
  rw [hp4] at k2
  exact ⟨k0,k1,k2,k5,k6⟩
 have WD:Hid (∀ xs,xs.length≤1000→∀ w,WrAt w B b h xs→Calls Tryz.prog 102 #[.pointer (some ⟨b,0,none⟩)] w (RetPut w B b h (xs++[byteI d]))):=fun xs hx w H=>by rw [← hp6];exact wdisp_any B b h xs hx w H hB
 have WB:Hid (∀ xs,xs.length≤1000→∀ w,WrAt w B b h xs→Calls Tryz.prog 134 #[.pointer (some ⟨b,0,none⟩)] w (RetPut w B b h (xs++[byteI n]))):=fun xs hx w H=>by rw [← hp7];exact wbyte_any B b h xs hx w H hB
 have WW:Hid (∀ xs,xs.length≤1000→∀ w,WrAt w B b h xs→Calls Tryz.prog 135 #[.pointer (some ⟨b,0,none⟩)] w (RetPut w B b h (xs++[byteI n,byteI (n / 256)]))):=fun xs hx w H=>by rw [← hp7];exact wword_any B b h xs hx w H hB
 have EB:=J9 (enc_base page op ex d n)
 obtain ⟨s2,hs2⟩:=N9 (behS page ex)
 rw [hs2] at EB hlen hlet
 have HL:=J9 hlet
 have HS2:=J9 hs2
 have HHI:=J9 hhi
 clear hlet hs2 hhi
 obtain ⟨bs,hbs⟩:=N9 (encB page (op.toNat:Int) ex d n)
 rw [hbs] at EB ⊢
 have hbw:=H.lt
 obtain ⟨A,c,k,o⟩:=H
 obtain ⟨pre,hpre⟩:=N9 (preS page)
 have hpl:=pre_len page
 rw [hpre] at hpl
 have PR:=J9 (fun w=>prefixes_any page w)
 rw [hpre] at PR
 have HPRE:=J9 hpre
 have K:=J9 k
 have O:=J9 o
 simp only [List.length_nil] at K O
 clear k o hpre hh hp0 hp1 hp4 hp6 hp7 hbs
 go_enter Tryz.func68,Tryz.ntmps68
 go_upto_region 0 with fail
 obtain ⟨w1,hw1⟩:=N9 (w.drew)
 have hd:Below w.heap.size w w1:=by rw [← hw1];exact below_drewN w _ 1
 have K1:Hid (w1.heap[b]?=some (.cells (h.cells (.slice A 0 c)) 125 (0,0))):=(hd.block b hbw).trans K.out
 have O1:=J9 (O.out.below hd)
 have B1:=J9 hd
 clear hd K O
 refine Mixed.wp_region_mixed (fun w'=>w'.heap[b]?=some (.cells (h.cells (.slice A 0 c)) 125 (0,0))) 12 [(0,true),(1,true),(2,true),(3,true),(4,true),(5,true),(6,true),(7,true),(8,true),(9,true),(10,false),(11,false)] (by kernel_rfl) (by kernel_rfl) (by rw [hw1];exact K1.out) ?_
 rw [hw1]
 clear hw1
 refine Mixed.mp rfl (.pointer (some ⟨b,0,none⟩)) ?_
 refine Mixed.mp rfl (.pointer (some ⟨b,0,none⟩)) ?_
 refine Mixed.mp rfl (.pointer (some ⟨b,0,none⟩)) ?_
 refine Mixed.mp rfl (.pointer (some ⟨b,8,none⟩)) ?_
 refine Mixed.mo rfl (.slice A 0 c) (fun w h=>by obtain ⟨h0,h1,h2,h5,h6⟩:=WC.out w _ h;clear h;go_simp;try rfl) ?_
 refine Mixed.mp rfl (.pointer (some ⟨b,0,none⟩)) ?_
 refine Mixed.mp rfl (.pointer (some ⟨b,0,none⟩)) ?_
 refine Mixed.mp rfl (.pointer (some ⟨b,0,none⟩)) ?_
 refine Mixed.mp rfl (.pointer (some ⟨b,0,none⟩)) ?_
 refine Mixed.mo rfl (.int .i64 page) (fun w h=>by obtain ⟨h0,h1,h2,h5,h6⟩:=WC.out w _ h;clear h;go_simp;try rfl) ?_
 refine Mixed.wpMix_loud rfl ?_
 have L1:=PR.out w1
 clear PR
 go_wp2_with fail
 refine L1.mono ?_
 rintro e w2 ⟨v2,rfl,hO2,hb⟩
 have hbw1:b<w1.heap.size:=(Array.getElem?_eq_some_iff.1 K1.out).1
 have K2:Hid (w2.heap[b]?=some (.cells (h.cells (.slice A 0 c)) 125 (0,0))):=(hb.block b hbw1).trans K1.out
 have O2:=J9 (O1.out.below hb)
 have B2:Hid (Below w.heap.size w w2):=B1.out.trans (hb.mono B1.out.size)
 obtain ⟨A2,c2,rfl,hP⟩:=hO2.bytes
 obtain ⟨lp,hlp⟩:=N9 (pre.length)
 rw [hlp] at hpl ⊢
 have HLP:=J9 hlp
 have P2:=J9 hP
 clear K1 O1 B1 L1 hP hb hbw1 hO2 hlp
 go_wp2
 refine ⟨K2.out,?_⟩
 refine Mixed.wpMix_loud rfl ?_
 have Z2:Hid (B≤w2.heap.size):=by have:=B2.out.size;show _≤_;omega
 refine wpList_appBsG (xs:=[]) (ys:=pre) O2.out P2.out Z2.out (by have:=HLP.out;simp;omega) rfl _ _ rfl rfl rfl lp HLP.out rfl lp (by simp) ?_
 intro A3 c3 w3 h1 h2 h3
 have K3:Hid (w3.heap[b]?=some (.cells (h.cells (.slice A 0 c)) 125 (0,0))):=(h3.block b (by have:=B2.out.size;omega) (fun e=>by
  obtain ⟨cur,hc⟩:=own_u8 O2.out e.symm
  rw [K2.out] at hc
  simp at hc)).trans K2.out
 have O3:=J9 h1
 have B3:Hid (Below B w w3):=(B2.out.mono (by omega)).trans h2
 clear h1 h2 h3 O2 P2 B2 Z2 K2
 go_wp2
 refine ⟨K3.out,?_⟩
 simp only [Mixed.wpMix]
 obtain ⟨e0,e1,e2,e5,e6⟩:=WC.out _ _ K3.out
 have F:Hid (WrAt (w3.setCell ⟨b,8,none⟩ (.slice A3 lp c3)) B b h pre∧Below B w (w3.setCell ⟨b,8,none⟩ (.slice A3 lp c3))):=by
  have o3:=O3.out
  rw [← HLP.out,List.nil_append] at o3
  rw [← HLP.out]
  exact ⟨wr_store K3.out o3,B3.out.setCell (by simpa using hB) _⟩
 clear e0 e1 e2 K3 O3 B3
 go_upto_region 1 with fail
 obtain ⟨w4,hw4⟩:=N9 (w3.setCell ⟨b,8,none⟩ (.slice A3 lp c3))
 rw [hw4] at F ⊢
 obtain ⟨X4,B4⟩:=F.out
 have X4:=J9 X4
 have B4:=J9 B4
 clear hw4 F e5 e6
 obtain ⟨A4,c4,k4,-⟩:=X4.out
 obtain ⟨e0,e1,e2,e5,e6⟩:=WC.out _ _ k4
 clear k4 e5 e6 e1
 have hlp3:pre.length≤2:=by rw [HLP.out];exact hpl
 by_cases h5:5≤page
 case' pos=>
  obtain rfl:=HHI.out h5
  have e2':w4.cell? ⟨b,4,none⟩=some (.string ⟨#[100]⟩):=e2
  have S2:Hid (s2=[]):=by show s2=[];rw [← HS2.out];unfold behS;rw [if_pos h5]
  have HBS:Hid (bs=(pre++[byteI d])++[op]++s2.flatMap (letB d n)):=by show bs=_;rw [EB.out];unfold base0;rw [if_pos h5,HPRE.out]
  have C1:=WD.out pre (by omega) w4 X4.out
  have t5:((page == 5)=true)∨((page == 5)=false∧(page == 6)=true):=by
   rcases (by omega:page=5∨page=6) with rfl | rfl
   ·exact .inl rfl
   ·exact .inr ⟨rfl,rfl⟩
  obtain ⟨bas,hbas⟩:=N9 (pre++[byteI d])
  rw [hbas] at HBS C1
  have hbl:bas.length≤4:=by rw [← hbas,List.length_append];simp;omega
  clear e2 X4 hbas EB HHI HS2 h5
  rcases t5 with t5 | ⟨t5,t6⟩
 case' neg=>
  have S2:Hid (s2=ex):=by show s2=ex;rw [← HS2.out];unfold behS;rw [if_neg h5]
  obtain rfl:s2=ex:=S2.out
  have t5:(page == 5)=false:=beq_eq_false_iff_ne.2 (by omega)
  have t6:(page == 6)=false:=beq_eq_false_iff_ne.2 (by omega)
  have HBS:Hid (bs=pre++[op]++s2.flatMap (letB d n)):=by show bs=_;rw [EB.out];unfold base0;rw [if_neg h5,HPRE.out,List.append_nil]
  obtain ⟨bas,hbas⟩:=N9 (pre)
  rw [hbas] at HBS X4
  have hbl:bas.length≤4:=by rw [← hbas];omega
  clear S2 hbas EB HHI HS2 h5
  go_upto_region 7 with fail
  have X7:=X4
  have B7:=B4
  obtain ⟨w7,hw7⟩:=N9 (w4)
  rw [hw7] at X7 B7 ⊢
  clear X4 B4 hw7
 case' pos.inl=>
  go_wp2_with fail
  refine C1.mono ?_
  rintro e w5 ⟨rfl,hX,hb,-⟩
  have X7:=J9 hX
  have B7:=J9 (B4.out.trans hb)
  clear hX hb C1
  go_wp2_with fail
  refine (trimD_any w5).mono ?_
  rintro e w7 ⟨rfl,hw⟩
  subst hw
  go_upto_region 7 with fail
  rw [show (⟨#[]⟩:ByteArray)=sB s2 from by rw [S2.out];rfl]
 case' pos.inr=>
  go_wp2_with fail
  refine C1.mono ?_
  rintro e w5 ⟨rfl,hX,hb,-⟩
  have X7:=J9 hX
  have B7:=J9 (B4.out.trans hb)
  clear hX hb C1
  go_wp2_with fail
  refine (trimD_any w5).mono ?_
  rintro e w7 ⟨rfl,hw⟩
  subst hw
  go_upto_region 7 with fail
  rw [show (⟨#[]⟩:ByteArray)=sB s2 from by rw [S2.out];rfl]
 all_goals
  clear e0
  have hX7:=X7.out
  obtain ⟨A7,c7,k7,o7⟩:=hX7
  obtain ⟨lb,hlb⟩:=N9 (bas.length)
  rw [hlb] at k7 o7 hbl
  have HLB:=J9 hlb
  have hbw7:b<w7.heap.size:=X7.out.lt
  have K:=J9 k7
  have O:=J9 o7
  clear k7 o7 hlb X7
  obtain ⟨w8,hw8⟩:=N9 (w7.drew)
  have hd:Below w7.heap.size w7 w8:=by rw [← hw8];exact below_drewN w7 _ 1
  have K1:Hid (w8.heap[b]?=some (.cells (h.cells (.slice A7 lb c7)) 125 (0,0))):=(hd.block b hbw7).trans K.out
  have O1:=J9 (O.out.below hd)
  have B1:Hid (Below B w w8):=B7.out.trans (hd.mono (by omega))
  have hal:=upA w8 (.cells #[.int .u8 (op.toNat:Int)] 5)
  have P9:=J9 (bytes_new1 w8 op)
  have K9:Hid ((w8.alloc (.cells #[.int .u8 (op.toNat:Int)] 5)).heap[b]?=some (.cells (h.cells (.slice A7 lb c7)) 125 (0,0))):=(hal.block b (by have:=hd.size;omega)).trans K1.out
  have O9:=J9 (O1.out.below hal)
  have B9:Hid (Below B w (w8.alloc (.cells #[.int .u8 (op.toNat:Int)] 5))):=B1.out.trans (hal.mono (by have:=hd.size;omega))
  have Z9:Hid (B≤(w8.alloc (.cells #[.int .u8 (op.toNat:Int)] 5)).heap.size):=by have:=hd.size;have:=hal.size;show _≤_;omega
  have hb9:b<(w8.alloc (.cells #[.int .u8 (op.toNat:Int)] 5)).heap.size:=by have:=hd.size;have:=hal.size;omega
  clear hd hal K O B7 O1 B1
  refine Mixed.wp_region_mixed (fun w'=>w'.heap[b]?=some (.cells (h.cells (.slice A7 lb c7)) 125 (0,0))) 12 [(0,true),(1,true),(2,true),(3,true),(4,true),(5,true),(6,true),(7,true),(8,true),(9,true),(10,false),(11,false)] (by kernel_rfl) (by kernel_rfl) (by rw [hw8];exact K1.out) ?_
  rw [hw8]
  clear hw8
  refine Mixed.mp rfl (.pointer (some ⟨b,0,none⟩)) ?_
  refine Mixed.mp rfl (.pointer (some ⟨b,0,none⟩)) ?_
  refine Mixed.mp rfl (.pointer (some ⟨b,0,none⟩)) ?_
  refine Mixed.mp rfl (.pointer (some ⟨b,8,none⟩)) ?_
  refine Mixed.mo rfl (.slice A7 lb c7) (fun w h=>by obtain ⟨h0,h1,h2,h5,h6⟩:=WC.out w _ h;clear h;go_simp;try rfl) ?_
  refine Mixed.mp rfl (.pointer (some ⟨b,0,none⟩)) ?_
  refine Mixed.mp rfl (.pointer (some ⟨b,0,none⟩)) ?_
  refine Mixed.mp rfl (.pointer (some ⟨b,0,none⟩)) ?_
  refine Mixed.mp rfl (.pointer (some ⟨b,1,none⟩)) ?_
  refine Mixed.mo rfl (.int .u8 (op.toNat:Int)) (fun w h=>by obtain ⟨h0,h1,h2,h5,h6⟩:=WC.out w _ h;clear h;go_simp;try rfl) ?_
  refine Mixed.wpMix_loud rfl ?_
  go_wp2
  refine ⟨K9.out,?_⟩
  refine Mixed.wpMix_loud rfl ?_
  refine wpList_appBsG (ys:=[op]) O9.out P9.out Z9.out (by rw [HLB.out];simp;omega) rfl _ _ rfl rfl rfl 1 rfl rfl (lb+1) (by rw [HLB.out]) ?_
  intro A3' c3' w10 h1 h2 h3
  have K10:Hid (w10.heap[b]?=some (.cells (h.cells (.slice A7 lb c7)) 125 (0,0))):=(h3.block b hb9 (fun e=>by
   obtain ⟨cur,hc⟩:=own_u8 O9.out e.symm
   rw [K9.out] at hc
   simp at hc)).trans K9.out
  have O10:=J9 h1
  have B10:Hid (Below B w w10):=B9.out.trans h2
  clear h1 h2 h3 O9 P9 B9 Z9 K9 hb9
  go_wp2
  refine ⟨K10.out,?_⟩
  simp only [Mixed.wpMix]
  obtain ⟨e0,e1,e2,e5,e6⟩:=WC.out _ _ K10.out
  have F:Hid (WrAt (w10.setCell ⟨b,8,none⟩ (.slice A3' (lb+1) c3')) B b h (bas++[op])∧Below B w (w10.setCell ⟨b,8,none⟩ (.slice A3' (lb+1) c3'))):=by
   have hln:(bas++[op]).length=lb+1:=by rw [List.length_append,HLB.out];rfl
   have o3:=O10.out
   rw [← hln] at o3 ⊢
   exact ⟨wr_store K10.out o3,B10.out.setCell (by simpa using hB) _⟩
  clear e0 e1 e2 K10 O10 B10
  go_upto_region 8 with fail
  obtain ⟨w11,hw11⟩:=N9 (w10.setCell ⟨b,8,none⟩ (.slice A3' (lb+1) c3'))
  rw [hw11] at F ⊢
  obtain ⟨X11,B11⟩:=F.out
  have hb11:=X11.lt
  have X11:=J9 X11
  have B11:=J9 B11
  clear hw11 F e5 e6
  go_wp2_with fail
  refine (wparts_any b w11).mono ?_
  rintro e w12 ⟨g,rfl,hpt,hg,hb⟩
  have LS:=J9 (wr_start (s2:=s2) (d:=d) (n:=n) (X11.out.below hb) hpt (B11.out.trans (hb.mono (by omega))) (by have:=hb.size;omega))
  have FF:Hid (WrF B b w12.heap.size g s2 (bas++[op])):=⟨hB,by have:=hb.size;omega,by omega,hpt.lt,by rw [List.length_append,HLB.out];simp;omega,hlen⟩
  obtain ⟨it,hit⟩:=N9 (w12.heap.size)
  rw [hit] at LS FF
  have HIT:=J9 hit
  clear hpt hb X11 B11 hg
  go_upto_region 9 with fail
  go_wp2
  go_loopw [] (fun wr=>∃ j,Hid (WrL w wr B b it g h s2 (bas++[op]) d n j)) (fun wr=>s2.length - wr.iterPos it)
  case atStart=>exact ⟨0,LS.out⟩
  case round=>
   obtain ⟨j,L⟩:=hrel
   have hlj:=L.out.le
   have hpos:wr.iterPos it=j:=iterPos_of L.out.iter
   by_cases hlt:j<s2.length
   ·obtain ⟨n1,n2,n3,n4⟩:=L.out.next FF.out
    have hxl:=L.out.len FF.out
    have PU:=fun w' X hb K=>L.out.put (w':=w') FF.out hlt X hb K
    have hl4:=HL.out j hlt
    have hnx:=fun c hc h=>next_at L.out.iter hlt c hc h
    obtain ⟨xs,hxs⟩:=N9 ((bas++[op])++(s2.take j).flatMap (letB d n))
    rw [hxs] at n1 hxl PU
    obtain ⟨cc,hcc⟩:=N9 (s2[j])
    rw [hcc] at hl4 PU hnx
    obtain ⟨wn,hwn⟩:=N9 (wr.iterAt it (sB s2) (j+1))
    rw [hwn] at n1 n2 n3 n4 PU hnx
    have PU:=J9 PU
    have N1:=J9 n1
    have CD:=WD.out xs hxl wn n1
    have CB:=WB.out xs hxl wn n1
    have CW:=WW.out xs hxl wn n1
    clear n1 n3 n4 hxs hcc hwn
    rcases hl4 with rfl | rfl | rfl | rfl
    ·have hn:=hnx 100 rfl (by decide)
     have hk:=look_100 n2
     unfold methV at hk
     have C:=J9 CD
     clear hnx n2 CD CB CW
     go_wp2_with fail
     refine C.out.mono ?_
     rintro e w2 ⟨rfl,hX,hb,hK⟩
     have L2:=J9 (PU.out w2 hX hb hK)
     clear hX hb hK C hk hn PU
     go_wp2
     go_roundw
     case rel=>exact ⟨j+1,L2.out⟩
     case measure=>rw [iterPos_of L2.out.iter,hpos];omega
    ·have hn:=hnx 101 rfl (by decide)
     have hk:=look_101 n2
     unfold methV at hk
     have C:=J9 CB
     clear hnx n2 CD CB CW
     go_wp2_with fail
     refine C.out.mono ?_
     rintro e w2 ⟨rfl,hX,hb,hK⟩
     have L2:=J9 (PU.out w2 hX hb hK)
     clear hX hb hK C hk hn PU
     go_wp2
     go_roundw
     case rel=>exact ⟨j+1,L2.out⟩
     case measure=>rw [iterPos_of L2.out.iter,hpos];omega
    ·have hn:=hnx 110 rfl (by decide)
     have hk:=look_110 n2
     unfold methV at hk
     have C:=J9 CB
     clear hnx n2 CD CB CW
     go_wp2_with fail
     refine C.out.mono ?_
     rintro e w2 ⟨rfl,hX,hb,hK⟩
     have L2:=J9 (PU.out w2 hX hb hK)
     clear hX hb hK C hk hn PU
     go_wp2
     go_roundw
     case rel=>exact ⟨j+1,L2.out⟩
     case measure=>rw [iterPos_of L2.out.iter,hpos];omega
    ·have hn:=hnx 119 rfl (by decide)
     have hk:=look_119 n2
     unfold methV at hk
     have C:=J9 CW
     clear hnx n2 CD CB CW
     go_wp2_with fail
     refine C.out.mono ?_
     rintro e w2 ⟨rfl,hX,hb,hK⟩
     have L2:=J9 (PU.out w2 hX hb hK)
     clear hX hb hK C hk hn PU
     go_wp2
     go_roundw
     case rel=>exact ⟨j+1,L2.out⟩
     case measure=>rw [iterPos_of L2.out.iter,hpos];omega
   ·have hj:j=s2.length:=by omega
    subst hj
    have hnx:=fun ty=>Lib.run_next_end_at (P:=Tryz.prog) wr it (sB s2) s2.length ty L.out.iter (by rw [sB_size];omega)
    have R:Hid (WrAt wr B b h bs∧Below B w wr):=by
     have h1:=L.out.wrt
     rw [List.take_length] at h1
     exact ⟨by rw [HBS.out];exact h1,L.out.bel⟩
    clear L
    go_wp2
    refine bodyPost_end (v:=.tuple #[]) ?_ rfl ⟨rfl,R.out⟩
    simp [results,Tryz.results68,go_sem]
end Go.Proofs.YtclhaejdjogfbaaGreatDoor
namespace Go.Proofs.YtclhaejdjogfbaaGreatDoor
open Go.RowKit Go.Shelf
attribute [local go_sem] Oper.semAt_some
structure LetOk (page:Int) (ex:Str):Prop where
 pg:page≤6
 hi:5≤page→ex=[100]
 le:(behS page ex).length≤2
 letters:∀ k (hk:k<(behS page ex).length),(behS page ex)[k]=100∨(behS page ex)[k]=101∨(behS page ex)[k]=110∨(behS page ex)[k]=119
theorem wbytes_any (page:Int) (op:UInt8) (m:Str) (hm:m.length≤1000) (A:Option Addr) (cap l:Nat) (L:List Tr) (hl:L.length=l) (hL:l≤1000) (ex:Str) (hx:ex.length≤1000) (al:Bool) (hX:LetOk page ex) (d q:Int) (w:World) (H:OpsP w A L) :
  Calls Tryz.prog 39 #[enV page (op.toNat:Int) m (.slice A l cap) ex al,.int .i64 d,.int .i64 q] w (RetBy w ((fillV ex L d q).map fun _=>encB page (op.toNat:Int) ex d q)):=by
 have fi:=fun w' h=>fill_any page (op.toNat:Int) m hm A cap l L hl hL ex hx al d q w' h
 have WR:=fun B b w' H hB=>wwrite_any B b page op m (.slice A l cap) ex al d q hX.pg hX.hi hX.le hX.letters w' H hB
 obtain ⟨bs,hbs⟩:=N9 (encB page (op.toNat:Int) ex d q)
 obtain ⟨fo,hfo⟩:=N9 (fillV ex L d q)
 obtain ⟨ro,hro⟩:=N9 ((fo.map fun _=>bs))
 rw [hfo] at fi
 rw [hbs] at WR
 rw [hbs,hfo,hro]
 have HRO:=J9 hro
 have WR:=J9 WR
 obtain ⟨n,hn⟩:=N9 (w.heap.size)
 obtain ⟨b0,w0,hb0,hw0,S0,y0,z0⟩:=Fr.box (Fr.start w n hn) #[.int .i64 page,.int .u8 (op.toNat:Int),.string (sB m),.slice A l cap,.string (sB ex),.bool al] 47
 rw [hn] at hb0
 subst hb0
 have FI:=J9 (fi w0 (H.below y0))
 have HN:=J9 hn
 obtain ⟨e0,e1,e2,e3,e4,e5⟩:=Fr.cells6 S0.out.1
 unfold enV at FI ⊢
 clear H y0 fi hl hbs hfo hro
 go_enter Tryz.func39,Tryz.ntmps39
 go_wp2_with fail
 refine FI.out.mono ?_
 rintro e w1 hr
 cases fo with
 | none=>
  obtain ⟨rfl,hb⟩:=hr
  have S1:=Fr.up S0 hb
  have F:=fun o=>J9 (show RetBy w ro (.returned (.tuple #[.slice none 0 0,.bool false])) (w1.alloc o) from by rw [← HRO.out];exact ⟨rfl,by rw [HN.out];exact S1.out.2.1.1.alloc S1.out.2.1.2 o⟩)
  clear hb FI e0 e1 e2 e3 e4 e5 hw0 z0 S0
  go_wp2
  go_ret2
  exact (F _).out
 | some C=>
  obtain ⟨v,rfl,hO,hb⟩:=hr
  have S1:=Fr.up S0 hb
  obtain ⟨Ac,cc,rfl,-,-⟩:=hO.ops
  obtain ⟨lc,hlc⟩:=N9 (C.length)
  rw [hlc]
  have hro:some bs=ro:=HRO.out
  subst hro
  clear hb FI e0 e1 e2 e3 e4 e5 hw0 z0 S0 hO hlc HRO
  go_upto_region 2 with fail
  obtain ⟨b1,w2,hb1,hw2,S2,y2,z2⟩:=Fr.box S1 #[.string (upB (sB m)),.slice Ac lc cc] 24
  rw [hw2]
  have hnb:n≤b1:=by have:=S1.out.2.1.2;omega
  clear hw2 S1 y2
  obtain ⟨e0,e1,e2,e3,e4,e5⟩:=Fr.cells6 S2.out.2.1
  go_upto_region 5 with fail
  obtain ⟨w3,hw3⟩:=N9 (w2.alloc (.cells #[.int .i64 page,.int .u8 (op.toNat:Int),.string (sB m),.slice A l cap,.string (sB ex),.bool al,.int .i64 d,.int .i64 q,.slice none 0 0] 125))
  have y3:Below w2.heap.size w2 w3:=by rw [← hw3];exact up_alloc _ _
  have X3:Hid (WrAt w3 (b1+1) (b1+1) ⟨page,(op.toNat:Int),m,.slice A l cap,ex,al,d,q⟩ []):=by
   refine ⟨none,0,?_,townB_nil _ _⟩
   rw [← hw3,← z2]
   exact World.alloc_heap_new w2 _
  have B3:=Fr.up S2 y3
  rw [hw3]
  clear hw3 e0 e1 e2 e3 e4 e5
  have W3:=WR.out (b1+1) (b1+1) w3 X3.out (Nat.le_refl _)
  clear WR S2
  go_wp2_with fail
  refine W3.mono ?_
  rintro e w4 ⟨rfl,hX,hb⟩
  have BF:Hid (Below n w w4):=by
   have h1:=B3.out.2.2.1
   exact h1.1.trans (hb.mono (by omega))
  obtain ⟨A4,c4,k4,o4⟩:=hX
  obtain ⟨lb,hlb⟩:=N9 (bs.length)
  rw [hlb] at k4 o4
  have O4:Hid (TOwnB w4 n (.slice A4 lb c4) bs):=o4.lift (by omega)
  have HLB:=J9 hlb
  obtain ⟨k0,k1,k2,k5,k6,k7,k8⟩:=wr_cells k4
  clear hb k4 o4 W3 hlb B3 X3 y3 k0 k1 k2 k5 k6
  go_wp2
  go_ret2
  exact ⟨A4,c4,by rw [HLB.out];rfl,by rw [HLB.out,HN.out];exact O4.out,by rw [HN.out];exact BF.out⟩
end Go.Proofs.YtclhaejdjogfbaaGreatDoor
namespace Go.Proofs.YtclhaejdjogfbaaGreatDoor
open Go.RowKit Go.Shelf
attribute [local go_sem] Oper.semAt_some
theorem beh_let {g:Int} {i:Nat} {ex:Str} (h:ExP g i ex):(behS g ex).length≤2∧∀ k (hk:k<(behS g ex).length),(behS g ex)[k]=100∨(behS g ex)[k]=101∨(behS g ex)[k]=110∨(behS g ex)[k]=119:=by
 have e:behS g ex=[]∨behS g ex=ex:=by unfold behS;split;exact .inl rfl;exact .inr rfl
 generalize behS g ex=b at e
 rcases e with rfl | rfl
 ·exact ⟨by simp,fun k hk=>by simp at hk⟩
 ·rcases h.lst with rfl | rfl | rfl | rfl | rfl | rfl
  ·exact ⟨by simp,fun k hk=>by simp at hk⟩
  all_goals refine ⟨by simp,fun k hk=>?_⟩
  ·obtain rfl:k=0:=by simp at hk;omega
   exact .inl rfl
  ·obtain rfl:k=0:=by simp at hk;omega
   exact .inr (.inl rfl)
  ·obtain rfl:k=0:=by simp at hk;omega
   exact .inr (.inr (.inl rfl))
  ·obtain rfl:k=0:=by simp at hk;omega
   exact .inr (.inr (.inr rfl))
  ·have:k=0∨k=1:=by simp at hk;omega
   rcases this with rfl | rfl
   ·exact .inl rfl
   ·exact .inr (.inr (.inl rfl))
theorem InTab.lets {k:Ke} (h:InTab k):LetOk k.1 k.2.2.2.2.1:=by
 obtain ⟨n,hn,-,hr⟩:=h
 have hx:=exP_of hn hr
 obtain ⟨h1,h2⟩:=beh_let hx
 exact ⟨hx.pg.2,hx.hi,h1,h2⟩
def RetWv (w:World) (bs:Str) (e:Ending) (w':World):Prop:=∃ A cap,e=.returned (.slice A bs.length cap)∧TOwnB w' w.heap.size (.slice A bs.length cap) bs∧Below w.heap.size w w'
theorem wval_any (k:Ke) (hk:InTab k) (A:Option Addr) (cap l:Nat) (hl:k.2.2.2.1.length=l) (s:ByteArray) (Ai:Option Addr) (capi li:Nat) (I:List Tr) (hli:I.length=li) (hLi:li≤900)
  (hh:hasV k.2.2.1 k.2.2.2.1 k.2.2.2.2.1 s (canL (opc s) I)=true) (w:World) (H:OpsP w A k.2.2.2.1) (HF:OpsP w Ai I) :
  Calls Tryz.prog 19 #[enV k.1 k.2.1 k.2.2.1 (.slice A l cap) k.2.2.2.2.1 k.2.2.2.2.2,.agg #[.string s,.slice Ai li capi]] w
   (RetWv w (encB k.1 k.2.1 k.2.2.2.2.1 (valV k.2.2.1 k.2.2.2.1 k.2.2.2.2.1 s (canL (opc s) I)).1 (valV k.2.2.1 k.2.2.2.1 k.2.2.2.2.1 s (canL (opc s) I)).2)):=by
 have ok:=hk.ok
 have hx:=hk.lets
 obtain ⟨i,hi,hop,-⟩:=hk
 obtain ⟨g,o,m,L,ex,al⟩:=k
 simp only at *
 subst hop
 have h0:=ok.m
 have h1:=ok.ex
 have h2:=ok.len
 have h3:=ok.up
 simp only at h0 h1 h2 h3
 have vl:=fun w' p1 p2=>svalues_any g (i:Int) m (by omega) h3 A cap l L hl (by omega) ex (by omega) al s Ai capi li I hli hLi w' p1 p2
 have hfl:=has_fill2 hh
 obtain ⟨C,hC⟩:=N9 (canL (opc s) I)
 rw [hC] at hfl vl ⊢
 obtain ⟨d,hd⟩:=N9 ((valV m L ex s C).1)
 obtain ⟨q,hq⟩:=N9 ((valV m L ex s C).2)
 rw [hd,hq] at hfl vl ⊢
 obtain ⟨op,hop⟩:∃ op:UInt8,(op.toNat:Int)=(i:Int):=⟨UInt8.ofNat i,by rw [UInt8.toNat_ofNat_of_lt' (show i<256 from hi)]⟩
 rw [← hop] at vl ⊢
 have by_:=fun w' p=>wbytes_any g op m (by omega) A cap l L hl (by omega) ex (by omega) al hx d q w' p
 rw [hfl,Option.map_some] at by_
 unfold RetBy at by_
 simp only at by_
 obtain ⟨bs,hbs⟩:=N9 (encB g (op.toNat:Int) ex d q)
 rw [hbs] at by_ ⊢
 unfold enV at vl by_ ⊢
 have BY:=J9 by_
 have VL:=J9 vl
 obtain ⟨n,hn⟩:=N9 (w.heap.size)
 have HN:=J9 hn
 have S:=Fr.add (Fr.add (Fr.start w n hn) (opsF Ai I) HF) (opsF A L) H
 obtain ⟨b0,w0,hb0,hw0,S0,y0,z0⟩:=Fr.box S #[.int .i64 g,.int .u8 (op.toNat:Int),.string (sB m),.slice A l cap,.string (sB ex),.bool al] 47
 rw [hn] at hb0
 subst hb0
 obtain ⟨b1,w1,hb1,hw1,S1,y1,z1⟩:=Fr.box S0 #[.string s,.slice Ai li capi] 24
 obtain ⟨k0,k1⟩:=Fr.cells2 S1.out.1
 obtain ⟨e0,e1,e2,e3,e4,e5⟩:=Fr.cells6 S1.out.2.1
 have V1:=VL.out w1 S1.out.2.2.1 S1.out.2.2.2.1
 rw [z0] at hb1
 subst hb1
 clear H HF S S0 y0 y1 ok hx hop hC hd hq hfl hbs h0 h1 h2 h3 hh hi hl hli vl by_ VL
 go_enter Tryz.func19,Tryz.ntmps19
 go_wp2_with fail
 refine V1.mono ?_
 rintro e w3 ⟨rfl,hb⟩
 have S3:=Fr.up S1 hb
 clear hb V1 S1 k0 k1 e0 e1 e2 e3 e4 e5 hw0 hw1 z0 z1
 obtain ⟨e0,e1,e2,e3,e4,e5⟩:=Fr.cells6 S3.out.2.1
 go_wp2_with fail
 refine (BY.out w3 S3.out.2.2.1).mono ?_
 rintro e w4 ⟨A4,c4,rfl,hO,hb⟩
 have S4:=Fr.up S3 hb
 have O4:=J9 (hO.lift S3.out.2.2.2.2.1.2)
 clear hb hO BY S3 e0 e1 e2 e3 e4 e5
 go_wp2
 go_ret
 exact ⟨A4,c4,rfl,by rw [HN.out];exact O4.out,by rw [HN.out];exact S4.out.2.2.2.2.1.1⟩
theorem find_tab {op:Str} {C:List Tr} {k:Ke} (h:findK op C=some k):InTab k∧hasK op C k=true∧k.2.2.1=op:=by
 unfold findK at h
 have h1:=List.find?_some h
 have h2:=List.mem_of_find?_eq_some h
 unfold candN at h2
 have h3:=cand_in (List.mem_filter.1 h2).1
 exact ⟨h3.1,h1,h3.2.1⟩
theorem wencode_any (s:ByteArray) (hs:s.size≤1000) (Ai:Option Addr) (capi li:Nat) (I:List Tr) (hli:I.length=li) (hLi:li≤900) (w:World) (hM:MaxAt w) (HF:OpsP w Ai I) :
  Calls Tryz.prog 6 #[.agg #[.string s,.slice Ai li capi]] w (RetEnc w s I):=by
 obtain ⟨n,hn⟩:=N9 (w.heap.size)
 have HN:=J9 hn
 obtain ⟨b0,w0,hb0,hw0,S0,y0,z0⟩:=Fr.box (Fr.add (Fr.start w n hn) (opsF Ai I) HF) #[.string s,.slice Ai li capi] 24
 rw [hn] at hb0
 subst hb0
 have fi:=sfind2_any s hs Ai capi li I hli hLi w0 (hM.below y0) S0.out.2.1
 have HFI:Hid (encI s I=(findK (sT s) (canL (opc s) I)).map fun k=>encB k.1 k.2.1 k.2.2.2.2.1 (valV k.2.2.1 k.2.2.2.1 k.2.2.2.2.1 s (canL (opc s) I)).1 (valV k.2.2.1 k.2.2.2.1 k.2.2.2.2.1 s (canL (opc s) I)).2):=rfl
 have HT:=fun k h=>find_tab (op:=sT s) (C:=canL (opc s) I) (k:=k) h
 obtain ⟨fo,hfo⟩:=N9 (findK (sT s) (canL (opc s) I))
 rw [hfo] at fi HFI HT
 obtain ⟨k0,k1⟩:=Fr.cells2 S0.out.1
 clear HF y0 hfo
 go_enter Tryz.func6,Tryz.ntmps6
 go_wp2_with fail
 refine fi.mono ?_
 rintro e w1 hr
 cases fo with
 | some k=>
  obtain ⟨A,cap,rfl,hP,hb⟩:=hr
  obtain ⟨hk,hh,-⟩:=HT k rfl
  have S1:=Fr.up S0 hb
  unfold hasK at hh
  rw [sB_sT] at hh
  obtain ⟨l,hl⟩:=N9 (k.2.2.2.1.length)
  have WV:=fun w' p1 p2=>wval_any k hk A cap l hl s Ai capi li I hli hLi hh w' p1 p2
  obtain ⟨bs,hbs⟩:=N9 (encB k.1 k.2.1 k.2.2.2.2.1 (valV k.2.2.1 k.2.2.2.1 k.2.2.2.2.1 s (canL (opc s) I)).1 (valV k.2.2.1 k.2.2.2.1 k.2.2.2.2.1 s (canL (opc s) I)).2)
  have EI:Hid (encI s I=some bs):=by show encI s I=some bs;rw [HFI.out,Option.map_some,hbs]
  have CE:Hid (codeE s I=0):=by show codeE s I=0;unfold codeE;rw [EI.out];rfl
  rw [hbs] at WV
  obtain ⟨g,o,m,L,ex,al⟩:=k
  simp only at hP hl WV
  simp only [enV,hl] at WV ⊢
  have WV:=J9 WV
  have PP:=J9 hP
  clear hb hP hh hk hl hbs HT HFI fi k0 k1 S0 hw0 z0
  go_upto_region 2 with fail
  obtain ⟨b,w2,hbs,hw2,S2,y2,z2⟩:=Fr.box S1 #[.int .i64 g,.int .u8 o,.string (sB m),.slice A l cap,.string (sB ex),.bool al] 47
  rw [hw2,hbs]
  obtain ⟨e0,e1,e2,e3,e4,e5⟩:=Fr.cells6 S2.out.1
  obtain ⟨k0,k1⟩:=Fr.cells2 S2.out.2.1
  have v1:=WV.out w2 (PP.out.below y2) S2.out.2.2.1
  clear hw2 hbs S1 y2 PP WV
  go_wp2_with fail
  refine v1.mono ?_
  rintro e w3 ⟨A4,c4,rfl,hO,hb⟩
  have S3:=Fr.up S2 hb
  have O3:=J9 (hO.lift S2.out.2.2.2.1.2)
  clear hb v1 S2 hO e0 e1 e2 e3 e4 e5 k0 k1
  go_wp2
  go_ret2
  refine ⟨A4,c4,?_,?_,by rw [HN.out];exact S3.out.2.2.2.1.1⟩
  ·rw [EI.out,CE.out];rfl
  ·rw [EI.out,HN.out];exact O3.out
 | none=>
  obtain ⟨rfl,hb⟩:=hr
  have S1:=Fr.up S0 hb
  have EI:Hid (encI s I=none):=HFI.out
  obtain ⟨c,hc⟩:=N9 (codeF (sT s) I (canL (opc (sB (sT s))) I))
  have hc0:c≠0:=by rw [← hc];exact codeF_ne _ _ _
  have CE:Hid (codeE s I=c):=by show codeE s I=c;unfold codeE;rw [EI.out,← hc,sB_sT];rfl
  rw [hc]
  have e1:(c == 0)=false:=beq_eq_false_iff_ne.2 hc0
  have e2:(c != 0)=true:=bne_iff_ne.2 hc0
  have F:=fun o=>J9 (show Below n w (w1.alloc o) from S1.out.2.2.1.1.alloc S1.out.2.2.1.2 o)
  simp only [enV]
  clear hb HT HFI fi k0 k1 S0 hw0 z0 hc hc0
  go_wp2
  go_ret2
  refine ⟨none,0,?_,?_,by rw [HN.out];exact (F _).out⟩
  ·rw [EI.out,CE.out];rfl
  ·rw [EI.out];exact townB_nil _ _
end Go.Proofs.YtclhaejdjogfbaaGreatDoor
namespace Go.Proofs.YtclhaejdjogfbaaGreatDoor
open Go.RowKit Go.Shelf
theorem enc_mem {s:ByteArray} {I:List Tr} {a:Str} (h:encI s I=some a):a∈(allR s (canL (opc s) I)).map (encK s (canL (opc s) I)):=by
 unfold encI at h
 cases hf:findK (sT s) (canL (opc s) I) with
 | none=>rw [hf] at h;cases h
 | some k=>
  rw [hf] at h
  simp only [Option.map_some,Option.some.injEq] at h
  have hm:k∈candK (sT s) (canL (opc s) I):=(List.mem_filter.1 (List.mem_of_find?_eq_some hf)).1
  have hh:=List.find?_some hf
  refine List.mem_map.2 ⟨k,?_,h⟩
  rw [← all_same]
  exact List.mem_filter.2 ⟨hm,hh⟩
end Go.Proofs.YtclhaejdjogfbaaGreatDoor
namespace Go.Proofs.YtclhaejdjogfbaaGreatDoor
open Go.RowKit Go.Shelf
attribute [local go_sem] Oper.semAt_some
theorem codeD_yes {s:ByteArray} {I:List Tr} {a:Str} (h:encI s I=some a):codeE s I=0:=by unfold codeE;rw [h];rfl
theorem encI_len {s:ByteArray} {I:List Tr} {a:Str} (h:encI s I=some a):1≤a.length∧a.length≤4:=by
 obtain ⟨k,hk,rfl⟩:=List.mem_map.1 (enc_mem h)
 have hl:=enc_len (mem_allR hk).1 (valV k.2.2.1 k.2.2.2.1 k.2.2.2.2.1 s (canL (opc s) I)).1 (valV k.2.2.1 k.2.2.2.1 k.2.2.2.2.1 s (canL (opc s) I)).2
 unfold encK
 omega
end Go.Proofs.YtclhaejdjogfbaaGreatDoor
namespace Go.Proofs.YtclhaejdjogfbaaGreatDoor
open Go.RowKit Go.Shelf
attribute [local go_sem] Oper.semAt_some
theorem ris_any (m:Str) (A:Option Addr) (cap:Nat) (L:List Tr) (hL:L.length≤900) (w:World) (H:OpsP w A L) :
  Calls Tryz.prog 16 #[.agg #[.string (sB m),.slice A L.length cap]] w fun e w'=>e=.returned (.bool (decide (canL (opc (sB m)) L=L)))∧Below w.heap.size w w':=by
 have OF:=J9 (fun w' (hb:Below w.heap.size w w')=>rof_any (sB m) A cap L hL w' (H.below hb))
 have HC:=canL_len (opc (sB m)) L
 have SM:=J9 (fun A2 c2 w' (h:OpsP w' A2 (canL (opc (sB m)) L)) (hb:Below w.heap.size w w')=>rsame_any m m A2 A c2 cap (canL (opc (sB m)) L) L (by omega) (by omega) w' h (H.below hb))
 rw [decide_eq_true (p:=m=m) rfl,Bool.true_and] at SM
 obtain ⟨C,hC⟩:=N9 (canL (opc (sB m)) L)
 rw [hC] at OF SM ⊢
 obtain ⟨n1,hn1⟩:=N9 (L.length)
 obtain ⟨d,hd⟩:=N9 (decide (C=L))
 rw [hn1] at OF SM ⊢
 rw [hd] at SM ⊢
 have T0:=J9 (Bx.new w (sB m) A n1 cap 24)
 have B0:Hid (Below w.heap.size w (w.alloc (.cells #[.string (sB m),.slice A n1 cap] 24))):=(Below.refl _ _).alloc (Nat.le_refl _) _
 clear H hC HC hL hn1 hd
 go_enter Tryz.func16,Tryz.ntmps16
 go_wp2
 refine Mixed.wp_region_mixed (fun w'=>Bx w' w.heap.size (sB m) A n1 cap) 4 [(0,true),(2,true),(1,false),(3,false)] (by kernel_rfl) (by kernel_rfl) T0.out ?_
 refine Mixed.mo rfl (.agg #[.string (sB m),.slice A n1 cap]) (fun w h=>by obtain ⟨h1,h2⟩:=h;go_simp;try rfl) ?_
 refine Mixed.mo rfl (.agg #[.string (sB m),.slice A n1 cap]) (fun w h=>by obtain ⟨h1,h2⟩:=h;go_simp;try rfl) ?_
 refine Mixed.wpMix_loudG rfl (by kernel_rfl) ?_
 go_wp2_with fail
 refine (OF.out _ (B0.out.trans (below_drewN _ _ 1))).mono ?_
 rintro e w1 ⟨v,rfl,hO,hb⟩
 obtain ⟨A2,c2,rfl,hP,-⟩:=hO.ops
 have hb':=(below_drewN _ _ 1).trans hb
 have T1:=J9 (T0.out.all hb')
 have B1:=J9 (B0.out.trans (hb'.mono (by simp)))
 have P1:=J9 hP
 have xx:=T1.out
 clear hb hb' hO hP OF T0 B0
 go_wp2
 refine ⟨xx,?_⟩
 clear xx
 refine Mixed.wpMix_loudG rfl (by kernel_rfl) ?_
 go_wp2_with fail
 refine (SM.out A2 c2 _ P1.out B1.out).mono ?_
 rintro e w2 ⟨rfl,hb⟩
 have T2:=J9 (T1.out.all hb)
 have B2:=J9 (B1.out.trans (hb.mono B1.out.size))
 have xx:=T2.out
 clear hb SM T1 P1 B1
 go_wp2
 refine ⟨xx,?_⟩
 clear xx
 simp only [Mixed.wpMix,List.drop_succ_cons,List.drop_zero]
 go_wp2
 go_ret
 exact ⟨rfl,B2.out⟩
end Go.Proofs.YtclhaejdjogfbaaGreatDoor
