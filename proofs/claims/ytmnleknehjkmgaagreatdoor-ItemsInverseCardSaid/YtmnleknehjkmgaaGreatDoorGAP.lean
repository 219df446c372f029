/-
  SeVb, TbV, EnO, EnA, DeA, DeB, DeE, DeD, EnB, SeRa, SeRb, SeRc, SeRj, TbY, EnC, Fr, MixP, DfA, EnS, EnR, ItA, DiA, DfD, DiB, ItP, TbSm, RsA, DfB, FoA.
-/
import Derived.Test.YtmnleknehjkmgaaGreatDoorGAB
import Derived.Test.YtmnleknehjkmgaaGreatDoorMSeN
import Derived.Test.YtmnleknehjkmgaaGreatDoorGAI
import Derived.Test.YtmnleknehjkmgaaGreatDoorGAA
import Derived.Test.YtmnleknehjkmgaaGreatDoorGAC
import Derived.Deep.DeepCutAuto
import Derived.Test.YtmnleknehjkmgaaGreatDoorGAE
import Derived.Test.YtmnleknehjkmgaaGreatDoorGAG
import Derived.Deep.Cut
import Derived.Below
import Derived.Lib.Hide
import Derived.Lib.Builder
import Derived.RangeFuncRecord
import Derived.Deep.QuietTactic
import Derived.BigQuiet
import Derived.Test.YtmnleknehjkmgaaGreatDoorGAN
import Derived.StillTail
import Derived.StillTailTactics
import Derived.Deep.RegionHeld3
import Derived.RegionTactic
set_option linter.all false
set_option maxRecDepth 100000
set_option maxHeartbeats 4000000
namespace Go.Proofs.YtmnleknehjkmgaaGreatDoor
open Go.RowKit
end Go.Proofs.YtmnleknehjkmgaaGreatDoor
namespace Go.Proofs.YtmnleknehjkmgaaGreatDoor
open Go.RowKit Go.Shelf
attribute [local go_sem] Oper.semAt_some
def letN (c:UInt8):Nat:=if c=100∨c=101∨c=110 then 1 else if c=119 then 2 else 0
def sumN (ex:Str) (k:Nat):Nat:=((ex.take k).map letN).sum
theorem sumN_succ (ex:Str) (k:Nat) (h:k<ex.length):sumN ex (k+1)=sumN ex k+letN ex[k]:=by
 unfold sumN
 rw [List.take_succ_eq_append_getElem h,List.map_append,List.sum_append]
 simp
theorem letN_le (c:UInt8):letN c≤2:=by
 unfold letN
 split
 ·omega
 ·split <;> omega
theorem sumN_le (ex:Str):∀ k,k≤ex.length→sumN ex k≤2*k
 | 0,_=>by unfold sumN;simp
 | k+1,h=>by
  rw [sumN_succ ex k (by omega)]
  have h1:=sumN_le ex k (by omega)
  have h2:=letN_le ex[k]
  omega
def sizeT (page:Int) (ex:Str):Nat:=(preS page).length+1+sumN ex ex.length
theorem pre_le (page:Int):(preS page).length≤2:=by
 unfold preS
 repeat' split
 all_goals simp
theorem size_any (page op:Int) (m:Str) (A:Option Addr) (n cap:Nat) (ex:Str) (hx:ex.length≤1000) (al:Bool) (w:World) :
  Calls Tryz.prog 127 #[enV page op m (.slice A n cap) ex al] w fun e w'=>e=.returned (.int .i64 (sizeT page ex:Nat))∧Below w.heap.size w w':=by
 unfold enV
 obtain ⟨s,hs⟩:∃ s,sB ex=s:=⟨_,rfl⟩
 have hz:s.size=ex.length:=by rw [← hs,sB_size]
 have hat:∀ k (h:k<s.size) (h':k<ex.length),s[k]=ex[k]:=fun k h h'=>by subst hs;exact sB_at ex k h h'
 have HAT:=Lib.hid hat
 have HX:=Lib.hid hx
 obtain ⟨l,hl⟩:∃ l,ex.length=l:=⟨_,rfl⟩
 have HL:=Lib.hid hl
 rw [hl] at hz hx
 have hcv:=fun (w:World)=>run_bytes_of_string (P:=Tryz.prog) w 9 27 5 s Tryz.underlying9 Tryz.underlying27 Tryz.underlying5
 rw [hs]
 clear hs hat hl
 obtain ⟨w0,hw0⟩:∃ w0,w.alloc (.cells #[.int .i64 page,.int .u8 op,.string (sB m),.slice A n cap,.string s,.bool al] 55)=w0:=⟨_,rfl⟩
 obtain ⟨b,hb⟩:∃ b,w.heap.size=b:=⟨_,rfl⟩
 have B0:Hid (Below b w w0):=by rw [← hw0,← hb];exact (Below.refl _ _).alloc (Nat.le_refl _) _
 have Z0:w0.heap.size=b+1:=by rw [← hw0,← hb];simp
 have c0:w0.heap[b]?=some (.cells #[.int .i64 page,.int .u8 op,.string (sB m),.slice A n cap,.string s,.bool al] 55 (0,0)):=by rw [← hw0,← hb];exact World.alloc_heap_new w _
 have C0:=Lib.hid c0
 have hpp:=prefixes_any page w0
 have k0:=Lib.cell_of_heap c0 0
 have HB:=Lib.hid hb
 have HPL:=Lib.hid (pre_le page)
 obtain ⟨pl,hpl⟩:∃ p,(preS page).length=p:=⟨_,rfl⟩
 have HP:=Lib.hid hpl
 clear c0
 go_enter Tryz.func127,Tryz.ntmps127
 go_wp2_with fail
 refine hpp.mono ?_
 rintro e w1 ⟨v,rfl,hO,hb1⟩
 obtain ⟨A1,cap1,rfl,-⟩:=hO.bytes
 rw [hpl]
 have B1:Hid (Below b w w1):=B0.out.trans (hb1.mono (by omega))
 have c1:=(hb1.block b (by omega)).trans C0.out
 have C1:=Lib.hid c1
 have k4:=Lib.cell_of_heap c1 4
 have hp2:pl≤2:=by rw [← hpl];exact HPL.out
 have S:=Lib.hid (rowB_start w1 s (grownCap w1 s.size 0 5) 5)
 have B2:Hid (Below b w (w1.alloc (.cells (bytesRow s (grownCap w1 s.size 0 5)) 5 ((bytesRow s (grownCap w1 s.size 0 5)).size,(bytesRow s (grownCap w1 s.size 0 5)).size+1))).drew):=
  (B1.out.alloc (by have:=hb1.size;omega) _).drew
 rw [hz] at S B2
 obtain ⟨q,hq⟩:∃ q,w1.heap.size=q:=⟨_,rfl⟩
 rw [hq] at S
 clear hpp hO hb1 c1 k0 hw0 B0 C0 hpl
 go_wp2
 clear hcv
 go_loopw [15,3] (fun i o wr=>∃ k:Nat,k≤l∧i=.int .i64 k∧o=.int .i64 ((pl+1+sumN ex k:Nat):Int)∧Hid (RowB wr s q)∧Hid (Below b w wr)) (fun i _ _=>l - (intOf i).toNat)
 case atStart=>exact ⟨0,Nat.zero_le _,rfl,rfl,S.out,B2.out⟩
 case round=>
  clear S B2
  obtain ⟨k,hk,rfl,rfl,R,B⟩:=hrel
  by_cases hlt:k<l
  ·have hlt':k<s.size:=by omega
   have hlt2:k<ex.length:=by rw [HL.out];exact hlt
   have g1:wr.cell? ⟨q,k,none⟩=some (.int .u8 (s[k].toNat:Int)):=R.out k hlt'
   rw [HAT.out k hlt' hlt2] at g1
   have SS:=sumN_succ ex k hlt2
   have SL:=sumN_le ex k (by omega)
   obtain ⟨c,hc⟩:∃ c,ex[k]=c:=⟨_,rfl⟩
   rw [hc] at g1 SS
   obtain ⟨t,ht⟩:∃ t,sumN ex k=t:=⟨_,rfl⟩
   rw [ht] at SS SL ⊢
   have SS:=Lib.hid SS
   clear hc ht
   have hk1:k≤1000:=by omega
   go_wp2
   ·have e:c=100:=of_decide_eq_true (u8_is c 100 (by decide) true (by assumption))
    have LN:letN c=1:=by rw [e];rfl
    go_roundw
    case rel=>exact ⟨k+1,by omega,by go_num,by rw [SS.out,LN];go_num,R,B⟩
    case measure=>simp [intOf];omega
   ·have e:c=101:=of_decide_eq_true (u8_is c 101 (by decide) true (by assumption))
    have LN:letN c=1:=by rw [e];rfl
    go_roundw
    case rel=>exact ⟨k+1,by omega,by go_num,by rw [SS.out,LN];go_num,R,B⟩
    case measure=>simp [intOf];omega
   ·have e:c=110:=of_decide_eq_true (u8_is c 110 (by decide) true (by assumption))
    have LN:letN c=1:=by rw [e];rfl
    go_roundw
    case rel=>exact ⟨k+1,by omega,by go_num,by rw [SS.out,LN];go_num,R,B⟩
    case measure=>simp [intOf];omega
   ·have e:c=119:=of_decide_eq_true (u8_is c 119 (by decide) true (by assumption))
    have LN:letN c=2:=by rw [e];rfl
    go_roundw
    case rel=>exact ⟨k+1,by omega,by go_num,by rw [SS.out,LN];go_num,R,B⟩
    case measure=>simp [intOf];omega
   ·have a1:¬c=100:=of_decide_eq_false (u8_is c 100 (by decide) false (by assumption))
    have a2:¬c=101:=of_decide_eq_false (u8_is c 101 (by decide) false (by assumption))
    have a3:¬c=110:=of_decide_eq_false (u8_is c 110 (by decide) false (by assumption))
    have a4:¬c=119:=of_decide_eq_false (u8_is c 119 (by decide) false (by assumption))
    have LN:letN c=0:=by unfold letN;rw [if_neg (by rintro (h | h | h) <;> contradiction),if_neg a4]
    go_roundw
    case rel=>exact ⟨k+1,by omega,by go_num,by rw [SS.out,LN];go_num,R,B⟩
    case measure=>simp [intOf];omega
  ·obtain rfl:k=l:=by omega
   have T:Hid (sizeT page ex=pl+1+sumN ex k):=by show sizeT page ex=_;unfold sizeT;rw [HP.out,HL.out]
   go_wp2
   go_ret
   exact ⟨by rw [T.out];rfl,by rw [HB.out];exact B.out⟩
end Go.Proofs.YtmnleknehjkmgaaGreatDoor
namespace Go.Proofs.YtmnleknehjkmgaaGreatDoor
open Go.RowKit
def byteI (n:Int):UInt8:=UInt8.ofNat (n % 256).toNat
theorem byteI_nat (n:Int):((byteI n).toNat:Int)=n % 256:=by
 unfold byteI
 rw [UInt8.toNat_ofNat_of_lt' (by have:=Int.emod_lt_of_pos n (show (0:Int)<256 by decide);have:=Int.emod_nonneg n (show (256:Int)≠0 by decide);show (n % 256).toNat<256;omega)]
 have:=Int.emod_nonneg n (show (256:Int)≠0 by decide)
 omega
def letB (d n:Int) (c:UInt8):Str:=if c=100 then [byteI d] else if c=119 then [byteI n,byteI (n / 256)] else [byteI n]
def encB (page op:Int) (ex:Str) (d n:Int):Str:=if 5≤page then preS page++[byteI d,byteI op] else preS page++byteI op :: ex.flatMap (letB d n)
end Go.Proofs.YtmnleknehjkmgaaGreatDoor
namespace Go.Proofs.YtmnleknehjkmgaaGreatDoor
open Go.RowKit
def exB (g:Int) (n:Nat) (ex:Str):Bool:=
 (ex == []||ex == [100]||ex == [101]||ex == [110]||ex == [119]||ex == [100,110])&&(decide (g<5)||ex == [100]) &&
 (g != 0||(n != 203&&n != 221&&n != 237&&n != 253))&&((g != 3&&g != 4)||n != 203)
def exN (g n:Nat):Bool:=match ratT (g:Int) n with
 | some x=>exB (g:Int) n x.2.2.1
 | none=>true
theorem ex_k:∀ g:Fin 7,∀ n:Fin 256,exN g.val n.val=true:=by decide +kernel
theorem ex_of {page:Int} {n:Nat} (hn:n<256) {x:En} (h:ratT page n=some x):exB page n x.2.2.1=true∧0≤page∧page≤6:=by
 by_cases hp:0≤page∧page≤6
 ·obtain ⟨g,rfl⟩:∃ g:Nat,page=(g:Int):=⟨page.toNat,by omega⟩
  have h1:=ex_k ⟨g,by omega⟩ ⟨n,hn⟩
  unfold exN at h1
  rw [h] at h1
  exact ⟨h1,hp⟩
 ·rw [ratT_no hp] at h
  cases h
structure ExP (g:Int) (n:Nat) (ex:Str):Prop where
 lst:ex=[]∨ex=[100]∨ex=[101]∨ex=[110]∨ex=[119]∨ex=[100,110]
 hi:5≤g→ex=[100]
 main:g=0→n≠203∧n≠221∧n≠237∧n≠253
 ind:g=3∨g=4→n≠203
 pg:0≤g∧g≤6
theorem exP_of {page:Int} {n:Nat} (hn:n<256) {x:En} (h:ratT page n=some x):ExP page n x.2.2.1:=by
 obtain ⟨h1,h2⟩:=ex_of hn h
 unfold exB at h1
 simp only [Bool.and_eq_true,Bool.or_eq_true,beq_iff_eq,bne_iff_ne,decide_eq_true_eq,ne_eq] at h1
 obtain ⟨⟨⟨a,b⟩,c⟩,d⟩:=h1
 refine ⟨?_,fun h=>?_,fun h=>?_,fun h=>?_,h2⟩
 ·rcases a with ((((a | a) | a) | a) | a) | a
  ·exact .inl a
  ·exact .inr (.inl a)
  ·exact .inr (.inr (.inl a))
  ·exact .inr (.inr (.inr (.inl a)))
  ·exact .inr (.inr (.inr (.inr (.inl a))))
  ·exact .inr (.inr (.inr (.inr (.inr a))))
 ·rcases b with b | b
  ·omega
  ·exact b
 ·rcases c with c | c
  ·exact absurd h c
  ·exact ⟨c.1.1.1,c.1.1.2,c.1.2,c.2⟩
 ·rcases d with d | d
  ·rcases h with h | h
   ·exact absurd h d.1
   ·exact absurd h d.2
  ·exact d
theorem putB_rng {v:Vr} {L:List Tr} {n:Int} (hz:v.2.1≤0∧0≤v.2.2) (h:putB v L n=true):v.2.1≤n∧n≤v.2.2:=by
 unfold putB at h
 cases ha:atV v.1 L with
 | none=>
  rw [ha] at h
  simp only [decide_eq_true_eq] at h
  omega
 | some k=>
  rw [ha] at h
  simp only at h
  unfold inV at h
  simpa using h
def numsIn (ex:Str) (d n:Int):Prop:=
 (ex=[]→d=0∧n=0)∧(ex=[100]→-128≤d∧d≤127∧n=0)∧(ex=[101]→d=0∧-128≤n∧n≤127)∧(ex=[110]→d=0∧0≤n∧n≤255)∧(ex=[119]→d=0∧0≤n∧n≤65535)∧(ex=[100,110]→-128≤d∧d≤127∧0≤n∧n≤255)
theorem nums_in {ex:Str} {L C:List Tr} {d n:Int} (h:fillV ex L d n=some C):numsIn ex d n:=by
 obtain ⟨-,h1,h2,-⟩:=fill_shape h
 refine ⟨?_,?_,?_,?_,?_,?_⟩
 ·rintro rfl
  have e1:=putB_rng (v:=(varsV []).1) (by decide) h1
  have e2:=putB_rng (v:=(varsV []).2) (by decide) h2
  have f1:(varsV []).1.2=(0,0):=rfl
  have f2:(varsV []).2.2=(0,0):=rfl
  rw [f1] at e1
  rw [f2] at e2
  simp only at e1 e2
  omega
 ·rintro rfl
  have e1:=putB_rng (v:=(varsV [100]).1) (by decide) h1
  have e2:=putB_rng (v:=(varsV [100]).2) (by decide) h2
  have f1:(varsV [100]).1.2=(-128,127):=rfl
  have f2:(varsV [100]).2.2=(0,0):=rfl
  rw [f1] at e1
  rw [f2] at e2
  simp only at e1 e2
  omega
 ·rintro rfl
  have e1:=putB_rng (v:=(varsV [101]).1) (by decide) h1
  have e2:=putB_rng (v:=(varsV [101]).2) (by decide) h2
  have f1:(varsV [101]).1.2=(0,0):=rfl
  have f2:(varsV [101]).2.2=(-128,127):=rfl
  rw [f1] at e1
  rw [f2] at e2
  simp only at e1 e2
  omega
 ·rintro rfl
  have e1:=putB_rng (v:=(varsV [110]).1) (by decide) h1
  have e2:=putB_rng (v:=(varsV [110]).2) (by decide) h2
  have f1:(varsV [110]).1.2=(0,0):=rfl
  have f2:(varsV [110]).2.2=(0,255):=rfl
  rw [f1] at e1
  rw [f2] at e2
  simp only at e1 e2
  omega
 ·rintro rfl
  have e1:=putB_rng (v:=(varsV [119]).1) (by decide) h1
  have e2:=putB_rng (v:=(varsV [119]).2) (by decide) h2
  have f1:(varsV [119]).1.2=(0,0):=rfl
  have f2:(varsV [119]).2.2=(0,65535):=rfl
  rw [f1] at e1
  rw [f2] at e2
  simp only at e1 e2
  omega
 ·rintro rfl
  have e1:=putB_rng (v:=(varsV [100,110]).1) (by decide) h1
  have e2:=putB_rng (v:=(varsV [100,110]).2) (by decide) h2
  have f1:(varsV [100,110]).1.2=(-128,127):=rfl
  have f2:(varsV [100,110]).2.2=(0,255):=rfl
  rw [f1] at e1
  rw [f2] at e2
  simp only at e1 e2
  omega
def hdB:Str→Option (Int×UInt8×Str)
 | []=>none
 | b :: r=>
  if b=203 then (match r with | o :: t=>some (1,o,t) | []=>none)
  else if b=237 then (match r with | o :: t=>some (2,o,t) | []=>none)
  else if b=221 then (match r with | o :: t=>if o=203 then (match t with | x :: y :: u=>some (5,y,x :: u) | _=>none) else some (3,o,t) | []=>none)
  else if b=253 then (match r with | o :: t=>if o=203 then (match t with | x :: y :: u=>some (6,y,x :: u) | _=>none) else some (4,o,t) | []=>none)
  else some (0,b,r)
theorem op_ne {n m:Nat} (hn:n<256) (hm:m<256) (h:n≠m):byteI (n:Int)≠UInt8.ofNat m:=fun e=>by
 have h1:=byteI_nat (n:Int)
 rw [e,UInt8.toNat_ofNat_of_lt' (show m<256 from hm)] at h1
 omega
theorem hd_enc {g:Int} {n:Nat} (hn:n<256) {ex:Str} (hx:ExP g n ex) (d x:Int) (r:Str) :
  hdB (encB g (n:Int) ex d x++r)=some (g,byteI (n:Int),if 5≤g then byteI d :: r else ex.flatMap (letB d x)++r):=by
 obtain ⟨h0,h6⟩:=hx.pg
 unfold encB
 rcases (by omega:g=0∨g=1∨g=2∨g=3∨g=4∨g=5∨g=6) with rfl | rfl | rfl | rfl | rfl | rfl | rfl
 ·obtain ⟨m1,m2,m3,m4⟩:=hx.main rfl
  have e1:byteI (n:Int)≠203:=op_ne hn (by decide) m1
  have e2:byteI (n:Int)≠221:=op_ne hn (by decide) m2
  have e3:byteI (n:Int)≠237:=op_ne hn (by decide) m3
  have e4:byteI (n:Int)≠253:=op_ne hn (by decide) m4
  have e5:preS 0=[]:=rfl
  rw [e5,if_neg (by decide),if_neg (by decide)]
  simp only [List.nil_append,List.cons_append,hdB,if_neg e1,if_neg e2,if_neg e3,if_neg e4]
 ·rfl
 ·rfl
 ·have e1:byteI (n:Int)≠203:=op_ne hn (by decide) (hx.ind (.inl rfl))
  have e5:preS 3=[221]:=rfl
  rw [e5,if_neg (by decide),if_neg (by decide)]
  simp only [List.nil_append,List.cons_append,hdB,if_neg e1,show ((221:UInt8)=203)=False from by decide,show ((221:UInt8)=237)=False from by decide,if_false,if_true]
 ·have e1:byteI (n:Int)≠203:=op_ne hn (by decide) (hx.ind (.inr rfl))
  have e5:preS 4=[253]:=rfl
  rw [e5,if_neg (by decide),if_neg (by decide)]
  simp only [List.nil_append,List.cons_append,hdB,if_neg e1,show ((253:UInt8)=203)=False from by decide,show ((253:UInt8)=237)=False from by decide,show ((253:UInt8)=221)=False from by decide,if_false,if_true]
 ·rfl
 ·rfl
theorem enc_len {k:Ke} (hk:InTab k) (d n:Int):(encB k.1 k.2.1 k.2.2.2.2.1 d n).length=sizeT k.1 k.2.2.2.2.1∧1≤sizeT k.1 k.2.2.2.2.1∧sizeT k.1 k.2.2.2.2.1≤4:=by
 obtain ⟨g,o,m,L,ex,al⟩:=k
 obtain ⟨i,hi,e1,e2⟩:=hk
 have hx:=exP_of hi e2
 simp only at hx e1 ⊢
 subst e1
 obtain ⟨h0,h6⟩:=hx.pg
 have hsz:1≤sizeT g ex∧sizeT g ex≤4:=by
  by_cases h5:5≤g
  ·rw [hx.hi h5]
   rcases (by omega:g=5∨g=6) with rfl | rfl <;> decide
  ·rcases (by omega:g=0∨g=1∨g=2∨g=3∨g=4) with rfl | rfl | rfl | rfl | rfl <;> rcases hx.lst with rfl | rfl | rfl | rfl | rfl | rfl <;> decide
 refine ⟨?_,hsz⟩
 unfold encB sizeT
 by_cases h5:5≤g
 ·rw [if_pos h5,hx.hi h5]
  rcases (by omega:g=5∨g=6) with rfl | rfl <;> rfl
 ·rw [if_neg h5,List.length_append]
  rcases hx.lst with rfl | rfl | rfl | rfl | rfl | rfl <;> rfl
end Go.Proofs.YtmnleknehjkmgaaGreatDoor
namespace Go.Proofs.YtmnleknehjkmgaaGreatDoor
open Go.RowKit
def sgB (c:UInt8):Int:=sgnI (c.toNat:Int)
def numB (ex:Str) (t:Str):Int×Int:=
 if ex=[100] then (sgB (t.getD 0 0),0) else if ex=[101] then (0,sgB (t.getD 0 0)) else if ex=[110] then (0,((t.getD 0 0).toNat:Int)) else
 if ex=[119] then (0,((t.getD 0 0).toNat:Int)+256*((t.getD 1 0).toNat:Int)) else if ex=[100,110] then (sgB (t.getD 0 0),((t.getD 1 0).toNat:Int)) else (0,0)
theorem num_0 (t:Str):numB [] t=(0,0):=by unfold numB;rw [if_neg (by decide),if_neg (by decide),if_neg (by decide),if_neg (by decide),if_neg (by decide)]
theorem num_d (t:Str):numB [100] t=(sgB (t.getD 0 0),0):=by unfold numB;rw [if_pos rfl]
theorem num_e (t:Str):numB [101] t=(0,sgB (t.getD 0 0)):=by unfold numB;rw [if_neg (by decide),if_pos rfl]
theorem num_n (t:Str):numB [110] t=(0,((t.getD 0 0).toNat:Int)):=by unfold numB;rw [if_neg (by decide),if_neg (by decide),if_pos rfl]
theorem num_w (t:Str):numB [119] t=(0,((t.getD 0 0).toNat:Int)+256*((t.getD 1 0).toNat:Int)):=by unfold numB;rw [if_neg (by decide),if_neg (by decide),if_neg (by decide),if_pos rfl]
theorem num_dn (t:Str):numB [100,110] t=(sgB (t.getD 0 0),((t.getD 1 0).toNat:Int)):=by unfold numB;rw [if_neg (by decide),if_neg (by decide),if_neg (by decide),if_neg (by decide),if_pos rfl]
theorem let_d1 (d n:Int):letB d n 100=[byteI d]:=rfl
theorem let_e1 (d n:Int):letB d n 101=[byteI n]:=rfl
theorem let_n1 (d n:Int):letB d n 110=[byteI n]:=rfl
theorem let_w1 (d n:Int):letB d n 119=[byteI n,byteI (n / 256)]:=rfl
structure Ite where
 kind:Int
 raw:Str
 m:Str
 C:List Tr
 al:Bool
deriving DecidableEq
def iteO (kind:Int) (raw:Str):Ite:=⟨kind,raw,[],[],false⟩
def itR (b:Str):Ite:=match hdB b with
 | none=>iteO 4 b
 | some (p,o,t)=>match ratT p o.toNat with
  | none=>if rkindT p o.toNat=0 then iteO 2 (b.take 1) else iteO 3 (b.take 2)
  | some x=>if b.length<sizeT p x.2.2.1 then iteO 4 b else ⟨1,b.take (sizeT p x.2.2.1),x.1,(fillV x.2.2.1 x.2.1 (numB x.2.2.1 t).1 (numB x.2.2.1 t).2).getD [],x.2.2.2⟩
theorem sgB_rng (c:UInt8) : -128≤sgB c∧sgB c≤127:=by
 have:=c.toNat_lt
 unfold sgB sgnI
 split <;> omega
theorem sgB_byte {d:Int} (h : -128≤d∧d≤127):sgB (byteI d)=d:=by
 have:=byteI_nat d
 unfold sgB sgnI
 split <;> omega
theorem nat_byte {n:Int} (h:0≤n∧n≤255):((byteI n).toNat:Int)=n:=by
 have:=byteI_nat n
 omega
theorem numB_in {g:Int} {i:Nat} {ex:Str} (hx:ExP g i ex) (t:Str):numsIn ex (numB ex t).1 (numB ex t).2:=by
 have h0:=sgB_rng (t.getD 0 0)
 have h1:=(t.getD 0 0).toNat_lt
 have h2:=(t.getD 1 0).toNat_lt
 rcases hx.lst with rfl | rfl | rfl | rfl | rfl | rfl
 ·rw [num_0];exact ⟨fun _=>⟨rfl,rfl⟩,by simp,by simp,by simp,by simp,by simp⟩
 ·rw [num_d];exact ⟨by simp,fun _=>by refine ⟨?_,?_,?_⟩ <;> simp only <;> omega,by simp,by simp,by simp,by simp⟩
 ·rw [num_e];exact ⟨by simp,by simp,fun _=>by refine ⟨?_,?_,?_⟩ <;> simp only <;> omega,by simp,by simp,by simp⟩
 ·rw [num_n];exact ⟨by simp,by simp,by simp,fun _=>by refine ⟨?_,?_,?_⟩ <;> simp only <;> omega,by simp,by simp⟩
 ·rw [num_w];exact ⟨by simp,by simp,by simp,by simp,fun _=>by refine ⟨?_,?_,?_⟩ <;> simp only <;> omega,by simp⟩
 ·rw [num_dn];exact ⟨by simp,by simp,by simp,by simp,by simp,fun _=>by refine ⟨?_,?_,?_,?_⟩ <;> simp only <;> omega⟩
theorem num_lets {g:Int} {i:Nat} {ex:Str} (hx:ExP g i ex) {d n:Int} (h:numsIn ex d n) (r:Str):numB ex (ex.flatMap (letB d n)++r)=(d,n):=by
 obtain ⟨a0,a1,a2,a3,a4,a5⟩:=h
 rcases hx.lst with rfl | rfl | rfl | rfl | rfl | rfl
 ·obtain ⟨rfl,rfl⟩:=a0 rfl;rw [num_0]
 ·obtain ⟨c1,c2,rfl⟩:=a1 rfl
  rw [num_d]
  simp only [List.flatMap_cons,List.flatMap_nil,let_d1,List.cons_append,List.nil_append,List.getD_cons_zero]
  rw [sgB_byte ⟨c1,c2⟩]
 ·obtain ⟨rfl,c1,c2⟩:=a2 rfl
  rw [num_e]
  simp only [List.flatMap_cons,List.flatMap_nil,let_e1,List.cons_append,List.nil_append,List.getD_cons_zero]
  rw [sgB_byte ⟨c1,c2⟩]
 ·obtain ⟨rfl,c1,c2⟩:=a3 rfl
  rw [num_n]
  simp only [List.flatMap_cons,List.flatMap_nil,let_n1,List.cons_append,List.nil_append,List.getD_cons_zero]
  rw [nat_byte ⟨c1,c2⟩]
 ·obtain ⟨rfl,c1,c2⟩:=a4 rfl
  rw [num_w]
  simp only [List.flatMap_cons,List.flatMap_nil,let_w1,List.cons_append,List.nil_append,List.getD_cons_zero,List.getD_cons_succ]
  have e1:=byteI_nat n
  have e2:=byteI_nat (n / 256)
  congr 1
  omega
 ·obtain ⟨c1,c2,c3,c4⟩:=a5 rfl
  rw [num_dn]
  simp only [List.flatMap_cons,List.flatMap_nil,let_d1,let_n1,List.cons_append,List.nil_append,List.getD_cons_zero,List.getD_cons_succ]
  rw [sgB_byte ⟨c1,c2⟩,nat_byte ⟨c3,c4⟩]
def plcB (L:List Tr) (ex:Str):Bool:=(!ex.contains 100||(atV (varsV ex).1.1 L).isSome)&&(!(ex.contains 101||ex.contains 110||ex.contains 119)||(atV (varsV ex).2.1 L).isSome)
def plcN (g n:Nat):Bool:=match ratT (g:Int) n with
 | some x=>plcB x.2.1 x.2.2.1
 | none=>true
theorem plc_k:∀ g:Fin 7,∀ n:Fin 256,plcN g.val n.val=true:=by decide +kernel
theorem plc_of {page:Int} {n:Nat} (hn:n<256) {x:En} (h:ratT page n=some x):plcB x.2.1 x.2.2.1=true:=by
 obtain ⟨h1,h2⟩:=(exP_of hn h).pg
 obtain ⟨g,rfl⟩:∃ g:Nat,page=(g:Int):=⟨page.toNat,by omega⟩
 have h3:=plc_k ⟨g,by omega⟩ ⟨n,hn⟩
 unfold plcN at h3
 rw [h] at h3
 exact h3
theorem put_ok {v:Vr} {L:List Tr} {n:Int} (h:(atV v.1 L).isSome=true∧v.2.1≤n∧n≤v.2.2∨n=0∧v.2.1≤0∧0≤v.2.2):putB v L n=true:=by
 unfold putB
 cases ha:atV v.1 L with
 | none=>
  rw [ha] at h
  rcases h with ⟨h,-⟩ | ⟨rfl,-⟩
  ·cases h
  ·simp
 | some k=>
  simp only
  unfold inV
  rcases h with ⟨-,h⟩ | ⟨rfl,h⟩ <;> simp [h]
theorem fill_in {g:Int} {i:Nat} {ex:Str} (hx:ExP g i ex) {L:List Tr} (hp:plcB L ex=true) {d n:Int} (h:numsIn ex d n):∃ C,fillV ex L d n=some C:=by
 obtain ⟨a0,a1,a2,a3,a4,a5⟩:=h
 have key:putB (varsV ex).1 L d=true∧putB (varsV ex).2 L n=true:=by
  unfold plcB at hp
  rcases hx.lst with rfl | rfl | rfl | rfl | rfl | rfl
  ·obtain ⟨rfl,rfl⟩:=a0 rfl
   exact ⟨put_ok (.inr ⟨rfl,by decide⟩),put_ok (.inr ⟨rfl,by decide⟩)⟩
  ·obtain ⟨c1,c2,rfl⟩:=a1 rfl
   exact ⟨put_ok (.inl ⟨by simpa using hp,c1,c2⟩),put_ok (.inr ⟨rfl,by decide⟩)⟩
  ·obtain ⟨rfl,c1,c2⟩:=a2 rfl
   exact ⟨put_ok (.inr ⟨rfl,by decide⟩),put_ok (.inl ⟨by simpa using hp,c1,c2⟩)⟩
  ·obtain ⟨rfl,c1,c2⟩:=a3 rfl
   exact ⟨put_ok (.inr ⟨rfl,by decide⟩),put_ok (.inl ⟨by simpa using hp,c1,c2⟩)⟩
  ·obtain ⟨rfl,c1,c2⟩:=a4 rfl
   exact ⟨put_ok (.inr ⟨rfl,by decide⟩),put_ok (.inl ⟨by simpa using hp,c1,c2⟩)⟩
  ·obtain ⟨c1,c2,c3,c4⟩:=a5 rfl
   have hp2:(atV (varsV [100,110]).1.1 L).isSome=true∧(atV (varsV [100,110]).2.1 L).isSome=true:=by simpa using hp
   exact ⟨put_ok (.inl ⟨hp2.1,c1,c2⟩),put_ok (.inl ⟨hp2.2,c3,c4⟩)⟩
 unfold fillV
 rw [putB_shape (varsV ex).2 (putL_shape (varsV ex).1.1 L d) n]
 simp [key.1,key.2]
end Go.Proofs.YtmnleknehjkmgaaGreatDoor
namespace Go.Proofs.YtmnleknehjkmgaaGreatDoor
open Go.RowKit
theorem byteI_n {n:Nat} (h:n<256):(byteI (n:Int)).toNat=n:=by
 have:=byteI_nat (n:Int)
 omega
theorem dec_enc {k:Ke} (hk:InTab k) {d n:Int} {C:List Tr} (hf:fillV k.2.2.2.2.1 k.2.2.2.1 d n=some C) (r:Str) :
  itR (encB k.1 k.2.1 k.2.2.2.2.1 d n++r)=⟨1,encB k.1 k.2.1 k.2.2.2.2.1 d n,k.2.2.1,C,k.2.2.2.2.2⟩:=by
 have hl:=enc_len hk d n
 obtain ⟨g,o,m,L,ex,al⟩:=k
 obtain ⟨i,hi,e1,e2⟩:=hk
 simp only at e1 e2 hf hl ⊢
 subst e1
 have hx:=exP_of hi e2
 simp only at hx
 have hn:=nums_in hf
 have hnum:numB ex (if 5≤g then byteI d :: r else ex.flatMap (letB d n)++r)=(d,n):=by
  by_cases h5:5≤g
  ·rw [if_pos h5]
   obtain rfl:=hx.hi h5
   exact num_lets hx hn r
  ·rw [if_neg h5]
   exact num_lets hx hn r
 unfold itR
 rw [hd_enc hi hx d n r]
 simp only [byteI_n hi,e2,hnum,hf,Option.getD_some]
 rw [if_neg (by rw [List.length_append];omega)]
 congr 1
 rw [← hl.1]
 exact List.take_left
theorem hd_inv {b:Str} {p:Int} {o:UInt8} {t:Str} (h:hdB b=some (p,o,t)):(0≤p∧p≤6)∧((¬5≤p∧b=preS p++o :: t)∨(5≤p∧∃ x u,t=x :: u∧b=preS p++x :: o :: u)):=by
 cases b with
 | nil=>cases h
 | cons c r=>
  simp only [hdB] at h
  split at h
  ·rename_i hc
   subst hc
   cases r with
   | nil=>cases h
   | cons y u=>simp only [Option.some.injEq,Prod.mk.injEq] at h;obtain ⟨rfl,rfl,rfl⟩:=h;exact ⟨by omega,.inl ⟨by omega,rfl⟩⟩
  ·split at h
   ·rename_i hc
    subst hc
    cases r with
    | nil=>cases h
    | cons y u=>simp only [Option.some.injEq,Prod.mk.injEq] at h;obtain ⟨rfl,rfl,rfl⟩:=h;exact ⟨by omega,.inl ⟨by omega,rfl⟩⟩
   ·split at h
    ·rename_i hc
     subst hc
     cases r with
     | nil=>cases h
     | cons y u=>
      simp only at h
      split at h
      ·rename_i hy
       subst hy
       match u,h with
       | [],h=>cases h
       | [_],h=>cases h
       | x :: z :: v,h=>simp only [Option.some.injEq,Prod.mk.injEq] at h;obtain ⟨rfl,rfl,rfl⟩:=h;exact ⟨by omega,.inr ⟨by omega,x,v,rfl,rfl⟩⟩
      ·simp only [Option.some.injEq,Prod.mk.injEq] at h;obtain ⟨rfl,rfl,rfl⟩:=h;exact ⟨by omega,.inl ⟨by omega,rfl⟩⟩
    ·split at h
     ·rename_i hc
      subst hc
      cases r with
      | nil=>cases h
      | cons y u=>
       simp only at h
       split at h
       ·rename_i hy
        subst hy
        match u,h with
        | [],h=>cases h
        | [_],h=>cases h
        | x :: z :: v,h=>simp only [Option.some.injEq,Prod.mk.injEq] at h;obtain ⟨rfl,rfl,rfl⟩:=h;exact ⟨by omega,.inr ⟨by omega,x,v,rfl,rfl⟩⟩
       ·simp only [Option.some.injEq,Prod.mk.injEq] at h;obtain ⟨rfl,rfl,rfl⟩:=h;exact ⟨by omega,.inl ⟨by omega,rfl⟩⟩
     ·simp only [Option.some.injEq,Prod.mk.injEq] at h;obtain ⟨rfl,rfl,rfl⟩:=h;exact ⟨by omega,.inl ⟨by omega,rfl⟩⟩
end Go.Proofs.YtmnleknehjkmgaaGreatDoor
namespace Go.Proofs.YtmnleknehjkmgaaGreatDoor
open Go.RowKit
end Go.Proofs.YtmnleknehjkmgaaGreatDoor
namespace Go.Proofs.YtmnleknehjkmgaaGreatDoor
open Go.RowKit
def needR (b:Str):Nat:=match hdB b with
 | some (p,o,t)=>(match ratT p o.toNat with
  | none=>if rkindT p o.toNat=0 then 1 else 2
  | some x=>sizeT p x.2.2.1)
 | none=>match b with
  | []=>1
  | _ :: 203 :: _=>4
  | _=>2
def kndB (p n:Nat):Bool:=(ratT (p:Int) n).isSome||decide (rkindT (p:Int) n=0)||(decide (rkindT (p:Int) n=3)&&decide (p=2))||(decide (p=0)&&(n == 203||n == 221||n == 237||n == 253))||((decide (p=3)||decide (p=4))&&n == 203)
theorem knd_k:∀ g:Fin 7,∀ n:Fin 256,kndB g.val n.val=true:=by decide +kernel
theorem hd_kind {b:Str} {p:Int} {o:UInt8} {t:Str} (h:hdB b=some (p,o,t)) (hr:ratT p o.toNat=none):rkindT p o.toNat=0∨(rkindT p o.toNat=3∧p=2):=by
 have hp:=(hd_inv h).1
 have ho:=o.toNat_lt
 obtain ⟨g,rfl⟩:∃ g:Nat,p=(g:Int):=⟨p.toNat,by omega⟩
 have hk:=knd_k ⟨g,by omega⟩ ⟨o.toNat,ho⟩
 unfold kndB at hk
 simp only [hr,Option.isSome_none,Bool.false_or,Bool.or_eq_true,Bool.and_eq_true,decide_eq_true_eq,beq_iff_eq] at hk
 have hne:∀ k:Nat,k<256→o.toNat=k→o=UInt8.ofNat k:=fun k hk e=>by
  refine UInt8.toNat_inj.1 ?_
  rw [UInt8.toNat_ofNat_of_lt' (show k<256 from hk)]
  exact e
 rcases hk with ((hk | hk) | hk) | hk
 ·exact .inl hk
 ·exact .inr ⟨hk.1,by omega⟩
 ·exfalso
  obtain ⟨h0,hk⟩:=hk
  obtain rfl:g=0:=h0
  cases b with
  | nil=>cases h
  | cons c r=>
   have hc:c≠203∧c≠237∧c≠221∧c≠253∧o=c:=by
    simp only [hdB] at h
    refine ⟨?_,?_,?_,?_,?_⟩
    ·rintro rfl;rw [if_pos rfl] at h;cases r <;> simp at h
    ·rintro rfl;rw [if_neg (by decide),if_pos rfl] at h;cases r <;> simp at h
    ·rintro rfl
     rw [if_neg (by decide),if_neg (by decide),if_pos rfl] at h
     cases r with
     | nil=>cases h
     | cons y u=>
      simp only at h
      split at h
      ·match u,h with
       | [],h=>cases h
       | [_],h=>cases h
       | x :: z :: v,h=>simp at h
      ·simp at h
    ·rintro rfl
     rw [if_neg (by decide),if_neg (by decide),if_neg (by decide),if_pos rfl] at h
     cases r with
     | nil=>cases h
     | cons y u=>
      simp only at h
      split at h
      ·match u,h with
       | [],h=>cases h
       | [_],h=>cases h
       | x :: z :: v,h=>simp at h
      ·simp at h
    ·split at h
     ·cases r <;> simp at h
     ·split at h
      ·cases r <;> simp at h
      ·split at h
       ·cases r with
        | nil=>cases h
        | cons y u=>
         simp only at h
         split at h
         ·match u,h with
          | [],h=>cases h
          | [_],h=>cases h
          | x :: z :: v,h=>simp at h
         ·simp at h
       ·split at h
        ·cases r with
         | nil=>cases h
         | cons y u=>
          simp only at h
          split at h
          ·match u,h with
           | [],h=>cases h
           | [_],h=>cases h
           | x :: z :: v,h=>simp at h
          ·simp at h
        ·simp only [Option.some.injEq,Prod.mk.injEq] at h
         exact h.2.1.symm
   obtain ⟨c1,c2,c3,c4,rfl⟩:=hc
   rcases hk with ((hk | hk) | hk) | hk
   ·exact c1 (hne 203 (by decide) hk)
   ·exact c3 (hne 221 (by decide) hk)
   ·exact c2 (hne 237 (by decide) hk)
   ·exact c4 (hne 253 (by decide) hk)
 ·exfalso
  obtain ⟨h0,hk⟩:=hk
  have h203:o=203:=hne 203 (by decide) hk
  subst h203
  have h34:(g:Int)=3∨(g:Int)=4:=by omega
  cases b with
  | nil=>cases h
  | cons c r=>
   simp only [hdB] at h
   split at h
   ·cases r <;> simp at h;omega
   ·split at h
    ·cases r <;> simp at h;omega
    ·split at h
     ·cases r with
      | nil=>cases h
      | cons y u=>
       simp only at h
       split at h
       ·match u,h with
        | [],h=>cases h
        | [_],h=>cases h
        | x :: z :: v,h=>simp at h;omega
       ·rename_i hy
        simp only [Option.some.injEq,Prod.mk.injEq] at h
        exact hy h.2.1
     ·split at h
      ·cases r with
       | nil=>cases h
       | cons y u=>
        simp only at h
        split at h
        ·match u,h with
         | [],h=>cases h
         | [_],h=>cases h
         | x :: z :: v,h=>simp at h;omega
        ·rename_i hy
         simp only [Option.some.injEq,Prod.mk.injEq] at h
         exact hy h.2.1
      ·simp only [Option.some.injEq,Prod.mk.injEq] at h;omega
theorem hd_len {b:Str} {p:Int} {o:UInt8} {t:Str} (h:hdB b=some (p,o,t)):(preS p).length+1≤b.length∧(5≤p→4≤b.length):=by
 obtain ⟨hp,hc⟩:=hd_inv h
 rcases hc with ⟨h5,rfl⟩ | ⟨h5,x,u,rfl,rfl⟩
 ·exact ⟨by rw [List.length_append,List.length_cons];omega,fun h=>absurd h h5⟩
 ·refine ⟨by rw [List.length_append,List.length_cons,List.length_cons];omega,fun _=>?_⟩
  have:(preS p).length=2:=by rcases (by omega:p=5∨p=6) with rfl | rfl <;> rfl
  rw [List.length_append,List.length_cons,List.length_cons]
  omega
theorem need_some {b:Str} {p:Int} {o:UInt8} {t:Str} (h:hdB b=some (p,o,t)):needR b=match ratT p o.toNat with | none=>if rkindT p o.toNat=0 then 1 else 2 | some x=>sizeT p x.2.2.1:=by
 unfold needR
 rw [h]
end Go.Proofs.YtmnleknehjkmgaaGreatDoor
namespace Go.Proofs.YtmnleknehjkmgaaGreatDoor
open Go.RowKit Go.Shelf
theorem cellsB_one (ys:Str):∀ u∈cellsB ys,u.oneCell'=true:=fun u hu=>by
 unfold cellsB at hu
 obtain ⟨b,-,rfl⟩:=List.mem_map.1 hu
 rfl
theorem cellsB_append (xs ys:Str):cellsB (xs++ys)=cellsB xs++cellsB ys:=by unfold cellsB;rw [List.map_append]
theorem BytesAt.news {w:World} {A:Option Addr} {ys:Str} (h:BytesAt w A ys):ys.length=0∨∃ a,A=some a∧∀ j u,(cellsB ys)[j]?=some u→w.cell? (a.add j)=some u:=by
 rcases h with rfl | ⟨b,off,rfl,hc⟩
 ·exact .inl rfl
 ·refine .inr ⟨_,rfl,fun j u hu=>?_⟩
  have hadd:(⟨b,off,none⟩:Addr).add j=⟨b,off+j,none⟩:=by unfold Addr.add;split <;> simp_all
  rw [hadd]
  unfold cellsB at hu
  rw [List.getElem?_map] at hu
  cases hy:ys[j]? with
  | none=>rw [hy] at hu;cases hu
  | some y=>
   rw [hy] at hu
   obtain ⟨hj,hy2⟩:=List.getElem?_eq_some_iff.1 hy
   obtain rfl:=Option.some.inj hu
   rw [hc j hj,hy2]
theorem run_appBs (w:World) (B:Nat) (v:Value) (xs:Str) (h:TOwnB w B v xs) (A:Option Addr) (c:Nat) (ys:Str) (hP:BytesAt w A ys) (hB:B≤w.heap.size) (hs:xs.length+ys.length≤100000) :
  ∃ v' w',(Builtin.append_ #[27,27] 27 #[v,.slice A ys.length c]).run Tryz.prog w=.ok v' w'∧TOwnB w' B v' (xs++ys)∧Below B w w'∧w.grownBy w' v.ownBlock:=by
 obtain ⟨i0,hi,hz0,hz1,hz2⟩:=info_parts tinfo_u8
 obtain ⟨v',w',k1,k2,k3⟩:=run_append_src w B 27 27 5 i0 _ 1 1 Tryz.underlying27 hi hz0 hz1 hz2 rfl (by decide) v xs.length (cellsB xs) h A ys.length c (cellsB ys)
  (by unfold cellsB;simp) hP.news (cellsB_one ys) (by unfold maxLen;omega) (by omega) hB
 refine ⟨v',w',k1,?_,(Below.refl B w).grown k3 hB fun k hk=>(World.ownsRow.lt h k hk).1,k3⟩
 unfold TOwnB
 rw [cellsB_append,List.length_append]
 exact k2
theorem wpList_appBs {wr:World} {B:Nat} {v:Value} {xs:Str} (h:TOwnB wr B v xs) {A:Option Addr} {c:Nat} {ys:Str} (hP:BytesAt wr A ys) (hB:B≤wr.heap.size) (hs:xs.length+ys.length≤100000) {ops:Array Oper} {rest:List Oper} {o:Oper} {a:Act} {Q:Exit→Act→World→Prop} (hgd:o.guard=none) (s x:Operand)
  (ho:o.op=.call {callee:=.builtin .append,args:=#[s,x],argTypes:=#[27,27]}) (hty:o.type=27) (hsv:a.eval s=v) (m:Nat) (hm:ys.length=m) (hx:a.eval x=.slice A m c) (n:Nat) (hn:xs.length+m=n)
  (k:∀ A' cap' w1,TOwnB w1 B (.slice A' n cap') (xs++ys)→Below B wr w1→wpList Tryz.prog ops Q rest (a.put o.dst (.slice A' n cap')) w1):wpList Tryz.prog ops Q (o :: rest) a wr:=by
 subst hm hn
 obtain ⟨v',w',k1,k2,k3,-⟩:=run_appBs wr B v xs h A c ys hP hB hs
 obtain ⟨A',cap',rfl,-⟩:=k2.bytes
 rw [List.length_append] at k1 k2
 exact wpList_run_append k1 hgd s x ho hty hsv hx (k A' cap' w' k2 k3)
theorem bytes_new1 (w:World) (a:UInt8):BytesAt (w.alloc (.cells #[.int .u8 (a.toNat:Int)] 5)) (some ⟨w.heap.size,0,none⟩) [a]:=by
 refine .inr ⟨_,_,rfl,fun j hj=>?_⟩
 obtain rfl:j=0:=by simp at hj;omega
 rw [Lib.cell_of_heap (heap_alloc_new w _)]
 rfl
theorem townB_nil (w:World) (n:Nat):TOwnB w n (.slice none 0 0) []:=World.ownsRow_nil _ _ _ _
theorem TOwnB.lift {w:World} {n m:Nat} {v:Value} {xs:Str} (h:TOwnB w n v xs) (k:m≤n):TOwnB w m v xs:=row_mono h k
end Go.Proofs.YtmnleknehjkmgaaGreatDoor
namespace Go.Proofs.YtmnleknehjkmgaaGreatDoor
open Go.RowKit Go.Shelf
attribute [local go_sem] Oper.semAt_some
end Go.Proofs.YtmnleknehjkmgaaGreatDoor
namespace Go.Proofs.YtmnleknehjkmgaaGreatDoor
open Go.RowKit Go.Shelf
attribute [local go_sem] Oper.semAt_some
end Go.Proofs.YtmnleknehjkmgaaGreatDoor
namespace Go.Proofs.YtmnleknehjkmgaaGreatDoor
open Go.RowKit Go.Shelf
attribute [local go_sem] Oper.semAt_some
end Go.Proofs.YtmnleknehjkmgaaGreatDoor
namespace Go.Proofs.YtmnleknehjkmgaaGreatDoor
open Go.RowKit Go.Shelf
attribute [local go_sem] Oper.semAt_some
end Go.Proofs.YtmnleknehjkmgaaGreatDoor
namespace Go.Proofs.YtmnleknehjkmgaaGreatDoor
open Go.RowKit Go.Shelf
theorem BytesAt.at_ {w:World} {A:Option Addr} {L:Str} (h:BytesAt w A L) {k:Nat} (hk:k<L.length):∃ b off,A=some ⟨b,off,none⟩∧w.cell? ⟨b,off+k,none⟩=some (.int .u8 (L[k].toNat:Int)):=by
 rcases h with rfl | ⟨b,off,rfl,hc⟩
 ·simp at hk
 ·exact ⟨b,off,rfl,hc k hk⟩
end Go.Proofs.YtmnleknehjkmgaaGreatDoor
namespace Go.Proofs.YtmnleknehjkmgaaGreatDoor
open Go.RowKit Go.Shelf
attribute [local go_sem] Oper.semAt_some
def RetBy (w:World) (o:Option Str) (e:Ending) (w':World):Prop:=match o with
 | some bs=>∃ A cap,e=.returned (.tuple #[.slice A bs.length cap,.bool true])∧TOwnB w' w.heap.size (.slice A bs.length cap) bs∧Below w.heap.size w w'
 | none=>e=.returned (.tuple #[.slice none 0 0,.bool false])∧Below w.heap.size w w'
end Go.Proofs.YtmnleknehjkmgaaGreatDoor
namespace Go.Fr
open Go Go.RowKit
structure F where
 p:World→Prop
 up:∀ {w w':World},p w→Below w.heap.size w w'→p w'
def St (w:World):List F→Prop
 | []=>True
 | f :: l=>f.p w∧St w l
theorem St.up {w w':World}:∀ {l:List F},St w l→Below w.heap.size w w'→St w' l
 | [],_,_=>trivial
 | f :: _,h,hb=>⟨f.up h.1 hb,St.up h.2 hb⟩
theorem up {w w':World} {l:List F} (h:Hid (St w l)) (hb:Below w.heap.size w w'):Hid (St w' l):=St.up (l:=l) h hb
theorem add {w:World} {l:List F} (h:Hid (St w l)) (f:F) (hp:f.p w):Hid (St w (f :: l)):=⟨hp,h⟩
theorem nil (w:World):Hid (St w []):=trivial
def blk (b:Nat) (o:Obj):F:=⟨fun w=>w.heap[b]?=some o,fun h hb=>(hb.block _ (Array.getElem?_eq_some_iff.1 h).1).trans h⟩
def bel (n:Nat) (w0:World):F:=⟨fun w=>Below n w0 w∧n≤w.heap.size,fun h hb=>⟨h.1.trans (hb.mono h.2),Nat.le_trans h.2 hb.size⟩⟩
def sz (n:Nat):F:=⟨fun w=>n≤w.heap.size,fun h hb=>Nat.le_trans h hb.size⟩
theorem start (w:World) (n:Nat) (hn:w.heap.size=n):Hid (St w [bel n w]):=⟨⟨Below.refl _ _,Nat.le_of_eq hn.symm⟩,trivial⟩
theorem box {w:World} {l:List F} (h:Hid (St w l)) (cs:Array Value) (t:TypeId):∃ b w2,w.heap.size=b∧w.alloc (.cells cs t)=w2∧Hid (St w2 (blk b (.cells cs t (0,0)) :: l))∧Below w.heap.size w w2∧w2.heap.size=b+1:=
 have hb:Below w.heap.size w (w.alloc (.cells cs t)):=(Below.refl _ w).alloc (Nat.le_refl _) _
 ⟨_,_,rfl,rfl,add (up h hb) (blk w.heap.size _) (World.alloc_heap_new w _),hb,by simp⟩
theorem cells2 {w:World} {b:Nat} {a0 a1:Value} {T:TypeId} {fr:Nat×Nat} (h:w.heap[b]?=some (.cells #[a0,a1] T fr)):w.cell? ⟨b,0,none⟩=some a0∧w.cell? ⟨b,1,none⟩=some a1:=⟨Lib.cell_of_heap h 0,Lib.cell_of_heap h 1⟩
theorem cells6 {w:World} {b:Nat} {a0 a1 a2 a3 a4 a5:Value} {T:TypeId} {fr:Nat×Nat} (h:w.heap[b]?=some (.cells #[a0,a1,a2,a3,a4,a5] T fr)):w.cell? ⟨b,0,none⟩=some a0∧w.cell? ⟨b,1,none⟩=some a1∧w.cell? ⟨b,2,none⟩=some a2∧w.cell? ⟨b,3,none⟩=some a3∧w.cell? ⟨b,4,none⟩=some a4∧w.cell? ⟨b,5,none⟩=some a5:=⟨Lib.cell_of_heap h 0,Lib.cell_of_heap h 1,Lib.cell_of_heap h 2,Lib.cell_of_heap h 3,Lib.cell_of_heap h 4,Lib.cell_of_heap h 5⟩
end Go.Fr
namespace Go.Mixed
open Go
section
variable {P:Program} {ops:Array Oper}
theorem mp {C:World→Prop} {T:Act→World→Prop} {k:Nat} {r:List (Nat×Bool)} {a:Act} {w:World} {o:Oper} (ho:ops[k]?=some o) (v:Value)
  (h:wpMix P ops C T r (a.put o.dst v) w) (hw:Region.wanted o (yielded ops a.tmps)=true:=by kernel_rfl)
  (hv:∀ w,C w→(execOp a.eval o).run P w=.ok (.value v) w:=by intro w h;first | (clear h;go_simp;done) | (clear h;go_simp;rfl) | (go_simp;done) | (go_simp;rfl)):wpMix P ops C T ((k,true) :: r) a w:=wpMix_pure ho hw v hv h
theorem mo {C:World→Prop} {T:Act→World→Prop} {k:Nat} {r:List (Nat×Bool)} {a:Act} {w:World} {o:Oper} (ho:ops[k]?=some o) (v:Value)
  (hv:∀ w,C w→(execOp a.eval o).run P w=.ok (.value v) w) (h:wpMix P ops C T r (a.put o.dst v) w) (hw:Region.wanted o (yielded ops a.tmps)=true:=by kernel_rfl):wpMix P ops C T ((k,true) :: r) a w:=wpMix_pure ho hw v hv h
end
end Go.Mixed
namespace Go.Proofs.YtmnleknehjkmgaaGreatDoor
open Go.RowKit Go.Shelf
attribute [local go_sem] Oper.semAt_some
def ItAt (w:World) (b:Nat) (kind:Int) (va:Value) (s:ByteArray) (vb:Value) (al:Bool):Prop:=w.heap[b]?=some (.cells #[.int .i64 kind,va,.string s,vb,.bool al] 39 (0,0))
section
variable {w w':World} {b:Nat} {kind:Int} {va vb:Value} {s:ByteArray} {al:Bool}
theorem ItAt.lt (h:ItAt w b kind va s vb al):b<w.heap.size:=(Array.getElem?_eq_some_iff.1 h).1
theorem ItAt.all (h:ItAt w b kind va s vb al) (hb:Below w.heap.size w w'):ItAt w' b kind va s vb al:=(hb.block b h.lt).trans h
theorem ItAt.cells (h:ItAt w b kind va s vb al):w.cell? ⟨b,0,none⟩=some (.int .i64 kind)∧w.cell? ⟨b,1,none⟩=some va∧w.cell? ⟨b,2,none⟩=some (.string s)∧w.cell? ⟨b,3,none⟩=some vb∧w.cell? ⟨b,4,none⟩=some (.bool al)∧∀ i,w.frozen? ⟨b,i,none⟩=false:=
 ⟨Lib.cell_of_heap h 0,Lib.cell_of_heap h 1,Lib.cell_of_heap h 2,Lib.cell_of_heap h 3,Lib.cell_of_heap h 4,fun i=>Lib.frozen_of_heap h i⟩
theorem ItAt.put (h:ItAt w b kind va s vb al) (k':Int) (va':Value) (s':ByteArray) (vb':Value) (al':Bool) :
  ∃ w',((((w.setCell ⟨b,0,none⟩ (.int .i64 k')).setCell ⟨b,1,none⟩ va').setCell ⟨b,2,none⟩ (.string s')).setCell ⟨b,3,none⟩ vb').setCell ⟨b,4,none⟩ (.bool al')=w'∧
   ItAt w' b k' va' s' vb' al'∧Below b w w'∧w'.heap.size=w.heap.size∧(∀ B u L,b<B→OwnT w B u L→OwnT w' B u L)∧(∀ B u L,b<B→TOwnB w B u L→TOwnB w' B u L)∧∀ k,k≠b→w'.heap[k]?=w.heap[k]?:=by
 refine ⟨_,rfl,?_,?_,by simp,fun B u L hB hO=>?_,fun B u L hB hO=>?_,fun k hk=>?_⟩
 ·have h1:=heap_setCell_same w b 0 _ _ (.int .i64 k') h
  have h2:=heap_setCell_same _ b 1 _ _ va' h1
  have h3:=heap_setCell_same _ b 2 _ _ (.string s') h2
  have h4:=heap_setCell_same _ b 3 _ _ vb' h3
  exact heap_setCell_same _ b 4 _ _ (.bool al') h4
 ·exact (((((Below.refl b w).setCell (p:=⟨b,0,none⟩) (Nat.le_refl _) _).setCell (p:=⟨b,1,none⟩) (Nat.le_refl _) _).setCell (p:=⟨b,2,none⟩) (Nat.le_refl _) _).setCell (p:=⟨b,3,none⟩) (Nat.le_refl _) _).setCell (p:=⟨b,4,none⟩) (Nat.le_refl _) _
 ·exact row_set (row_set (row_set (row_set (row_set hO (p:=⟨b,0,none⟩) hB _) (p:=⟨b,1,none⟩) hB _) (p:=⟨b,2,none⟩) hB _) (p:=⟨b,3,none⟩) hB _) (p:=⟨b,4,none⟩) hB _
 ·exact row_set (row_set (row_set (row_set (row_set hO (p:=⟨b,0,none⟩) hB _) (p:=⟨b,1,none⟩) hB _) (p:=⟨b,2,none⟩) hB _) (p:=⟨b,3,none⟩) hB _) (p:=⟨b,4,none⟩) hB _
 ·exact (heap_setCell_other _ ⟨b,4,none⟩ k _ hk).trans ((heap_setCell_other _ ⟨b,3,none⟩ k _ hk).trans ((heap_setCell_other _ ⟨b,2,none⟩ k _ hk).trans ((heap_setCell_other _ ⟨b,1,none⟩ k _ hk).trans (heap_setCell_other _ ⟨b,0,none⟩ k _ hk))))
end
theorem it_start (w:World) (n:Nat) (hn:w.heap.size=n):∃ w0,w.alloc (.cells #[.int .i64 0,.slice none 0 0,.string ⟨#[]⟩,.slice none 0 0,.bool false] 39)=w0∧ItAt w0 n 0 (.slice none 0 0) ⟨#[]⟩ (.slice none 0 0) false∧Below w.heap.size w w0∧w0.heap.size=n+1:=by
 subst hn
 exact ⟨_,rfl,World.alloc_heap_new w _,(Below.refl _ w).alloc (Nat.le_refl _) _,by simp⟩
def RetIt (w:World) (x:Ite) (e:Ending) (w':World):Prop:=∃ A c B c2,e=.returned (.agg #[.int .i64 x.kind,.slice A x.raw.length c,.string (sB x.m),.slice B x.C.length c2,.bool x.al])∧
 TOwnB w' w.heap.size (.slice A x.raw.length c) x.raw∧OwnT w' w.heap.size (.slice B x.C.length c2) x.C∧Below w.heap.size w w'
theorem ownT_nil (w:World) (n:Nat):OwnT w n (.slice none 0 0) []:=World.ownsRow_nil _ _ _ _
theorem BytesAt.cellAt {w:World} {A:Option Addr} {b:Str} (h:BytesAt w A b) {j:Nat} (hj:j<b.length):∃ g off,A=some ⟨g,off,none⟩∧w.cell? ⟨g,off+j,none⟩=some (.int .u8 (b[j].toNat:Int)):=by
 rcases h with rfl | ⟨g,off,rfl,hc⟩
 ·simp at hj
 ·exact ⟨g,off,rfl,hc j hj⟩
theorem take_at {w:World} {A:Option Addr} {xs:Str} (h:BytesAt w A xs) (k:Nat):BytesAt w A (xs.take k):=by
 rcases h with rfl | ⟨b,off,rfl,hc⟩
 ·exact .inl (by simp)
 ·refine .inr ⟨b,off,rfl,fun j hj=>?_⟩
  rw [List.getElem_take]
  exact hc j (by rw [List.length_take] at hj;omega)
end Go.Proofs.YtmnleknehjkmgaaGreatDoor
namespace Go.Proofs.YtmnleknehjkmgaaGreatDoor
open Go.RowKit Go.Shelf
attribute [local go_sem] Oper.semAt_some
def BsP (w:World) (A:Option Addr) (Ls:List Str):Prop:=Ls=[]∨∃ b off,A=some ⟨b,off,none⟩∧∀ k (h:k<Ls.length),∃ Ak ck,w.cell? ⟨b,off+k,none⟩=some (.slice Ak Ls[k].length ck)∧BytesAt w Ak Ls[k]
theorem BsP.below {w w':World} {A:Option Addr} {Ls:List Str} (h:BsP w A Ls) (hb:Below w.heap.size w w'):BsP w' A Ls:=by
 rcases h with rfl | ⟨b,off,rfl,hc⟩
 ·exact .inl rfl
 ·refine .inr ⟨b,off,rfl,fun k hk=>?_⟩
  obtain ⟨Ak,ck,h1,h2⟩:=hc k hk
  exact ⟨Ak,ck,(hb.cell (World.block_lt_of_cell? w _ h1)).trans h1,h2.below hb⟩
theorem BsP.at_ {w:World} {A:Option Addr} {Ls:List Str} (h:BsP w A Ls) {k:Nat} (hk:k<Ls.length):∃ b off Ak ck,A=some ⟨b,off,none⟩∧w.cell? ⟨b,off+k,none⟩=some (.slice Ak Ls[k].length ck)∧BytesAt w Ak Ls[k]:=by
 rcases h with rfl | ⟨b,off,rfl,hc⟩
 ·simp at hk
 ·obtain ⟨Ak,ck,h1,h2⟩:=hc k hk
  exact ⟨b,off,Ak,ck,rfl,h1,h2⟩
end Go.Proofs.YtmnleknehjkmgaaGreatDoor
namespace Go.Proofs.YtmnleknehjkmgaaGreatDoor
open Go.RowKit Go.Shelf
structure Be where
 A:Option Addr
 cap:Nat
 xs:Str
def Be.v (r:Be):Value:=.slice r.A r.xs.length r.cap
def cellsS (R:List Be):List Value:=R.map Be.v
def OwnBR (w:World) (n:Nat) (v:Value) (R:List Be):Prop:=w.ownsRow n 27 1 v R.length (cellsS R)∧∀ r∈R,TOwnB w n r.v r.xs
theorem OwnBR.below {w w':World} {n:Nat} {v:Value} {R:List Be} (h:OwnBR w n v R) (k:Below w.heap.size w w'):OwnBR w' n v R:=
 ⟨World.ownsRow.kept h.1 (row:=none) ⟨k.os,k.tape,k.output,k.size,fun i hi _=>k.block i hi⟩ (by
  cases e:v.ownBlock with
  | none=>exact .inl rfl
  | some g=>exact .inr (by simp)),fun r hr=>(h.2 r hr).below k⟩
theorem OwnBR.lift {w:World} {n m:Nat} {v:Value} {R:List Be} (h:OwnBR w n v R) (k:m≤n):OwnBR w m v R:=⟨row_mono h.1 k,fun r hr=>(h.2 r hr).lift k⟩
theorem OwnBR.bs {w:World} {n:Nat} {v:Value} {R:List Be} (h:OwnBR w n v R):∃ A cap,v=.slice A R.length cap∧BsP w A (R.map Be.xs):=by
 rcases h.1.2 with ⟨rfl,h0⟩ | ⟨g,cap,cur,rfl,_,_,_⟩
 ·have:R=[]:=List.eq_nil_of_length_eq_zero h0
  subst this
  exact ⟨none,0,rfl,.inl rfl⟩
 ·refine ⟨_,cap,rfl,.inr ⟨g,0,rfl,fun k hk=>?_⟩⟩
  have hk':k<R.length:=by simpa using hk
  obtain ⟨A',c',e,hP⟩:=(h.2 _ (List.getElem_mem hk')).bytes
  have e2:(R.map Be.xs)[k]=R[k].xs:=by simp
  rw [e2]
  refine ⟨A',c',?_,hP⟩
  rw [Nat.zero_add,World.ownsRow.cellAt h.1 k (by omega)]
  unfold cellsS
  rw [List.getElem?_map,List.getElem?_eq_getElem hk',← e]
  rfl
theorem own_typesB {w:World} {n:Nat} {u:Value} {xs:Str} (h:TOwnB w n u xs) {g:Nat} (e:u.ownBlock=some g):∃ cur,w.heap[g]?=some (.cells cur 5 (0,0)):=by
 rcases h.2 with ⟨rfl,_⟩ | ⟨g',cap,cur',rfl,_,hg,_⟩
 ·simp [Value.ownBlock] at e
 ·simp only [Value.ownBlock,Option.some.injEq] at e
  subst e
  exact ⟨_,hg⟩
end Go.Proofs.YtmnleknehjkmgaaGreatDoor
namespace Go.Proofs.YtmnleknehjkmgaaGreatDoor
open Go.RowKit Go.Shelf
structure Xe where
 x:Ite
 A:Option Addr
 ca:Nat
 B:Option Addr
 cb:Nat
instance:Inhabited Xe:=⟨⟨⟨0,[],[],[],false⟩,none,0,none,0⟩⟩
def Xe.a (r:Xe):Value:=.slice r.A r.x.raw.length r.ca
def Xe.b (r:Xe):Value:=.slice r.B r.x.C.length r.cb
def Xe.v (r:Xe):Value:=.agg #[.int .i64 r.x.kind,.slice r.A r.x.raw.length r.ca,.string (sB r.x.m),.slice r.B r.x.C.length r.cb,.bool r.x.al]
def Xe.c (r:Xe):List Value:=[.int .i64 r.x.kind,.slice r.A r.x.raw.length r.ca,.string (sB r.x.m),.slice r.B r.x.C.length r.cb,.bool r.x.al]
theorem Xe.c_len (r:Xe):r.c.length=5:=rfl
theorem Xe.c_lt (r:Xe) {i:Nat} {u:Value} (h:r.c[i]?=some u):i<5:=(List.getElem?_eq_some_iff.1 h).1
def cellsI (R:List Xe):List Value:=R.flatMap Xe.c
theorem cellsI_length:∀ R:List Xe,(cellsI R).length=R.length*5
 | []=>rfl
 | r :: t=>by
  have h:=cellsI_length t
  show (r.c++cellsI t).length=(t.length+1)*5
  rw [List.length_append,h,Xe.c_len]
  omega
theorem cellsI_append (a b:List Xe):cellsI (a++b)=cellsI a++cellsI b:=List.flatMap_append
theorem cellsI_at:∀ (R:List Xe) (j:Nat) (h:j<R.length) (i:Nat),i<5→(cellsI R)[j*5+i]?=R[j].c[i]?
 | x :: t,0,h,i,hi=>by
  show (x.c++cellsI t)[0*5+i]?=_
  rw [Nat.zero_mul,Nat.zero_add,List.getElem?_append_left (by rw [Xe.c_len];exact hi)]
  rfl
 | x :: t,j+1,h,i,hi=>by
  show (x.c++cellsI t)[(j+1)*5+i]?=_
  rw [List.getElem?_append_right (by rw [Xe.c_len];omega),Xe.c_len,show (j+1)*5+i - 5=j*5+i by omega,cellsI_at t j (by simpa using h) i hi]
  rfl
theorem cellsI_one (R:List Xe):∀ u∈cellsI R,u.oneCell'=true:=fun u hu=>by
 unfold cellsI at hu
 obtain ⟨r,-,h⟩:=List.mem_flatMap.1 hu
 simp only [Xe.c,List.mem_cons,List.not_mem_nil,or_false] at h
 rcases h with rfl | rfl | rfl | rfl | rfl <;> rfl
theorem cellsI_inv (R:List Xe) (j:Nat) (u:Value) (hu:(cellsI R)[j]?=some u):∃ (k:Nat) (h:k<R.length) (i:Nat),i<5∧j=k*5+i∧(R[k].c)[i]?=some u:=by
 have hj:j<R.length*5:=by
  rw [← cellsI_length]
  exact (List.getElem?_eq_some_iff.1 hu).1
 have hk:j / 5<R.length:=by omega
 refine ⟨j / 5,hk,j % 5,by omega,by omega,?_⟩
 rw [← cellsI_at R (j / 5) hk (j % 5) (by omega),show j / 5*5+j % 5=j by omega]
 exact hu
def ItsP (w:World) (A:Option Addr) (R:List Xe):Prop:=
 R=[]∨∃ b off,A=some ⟨b,off,none⟩∧∀ k (h:k<R.length),(∀ i u,(R[k].c)[i]?=some u→w.cell? ⟨b,off+(k*5+i),none⟩=some u)∧BytesAt w R[k].A R[k].x.raw∧OpsP w R[k].B R[k].x.C
theorem ItsP.at_ {w:World} {A:Option Addr} {R:List Xe} (h:ItsP w A R) {k:Nat} (hk:k<R.length):∃ b off,A=some ⟨b,off,none⟩∧b<w.heap.size∧w.cell? ⟨b,off+k*5,none⟩=some (.int .i64 R[k].x.kind)∧w.cell? ⟨b,off+k*5+1,none⟩=some (.slice R[k].A R[k].x.raw.length R[k].ca)∧w.cell? ⟨b,off+k*5+2,none⟩=some (.string (sB R[k].x.m))∧w.cell? ⟨b,off+k*5+3,none⟩=some (.slice R[k].B R[k].x.C.length R[k].cb)∧w.cell? ⟨b,off+k*5+4,none⟩=some (.bool R[k].x.al)∧BytesAt w R[k].A R[k].x.raw∧OpsP w R[k].B R[k].x.C:=by
 rcases h with rfl | ⟨b,off,rfl,hc⟩
 ·simp at hk
 ·obtain ⟨h1,h2,h3⟩:=hc k hk
  have e:∀ i u,(R[k].c)[i]?=some u→w.cell? ⟨b,off+k*5+i,none⟩=some u:=fun i u hu=>by rw [Nat.add_assoc];exact h1 i u hu
  exact ⟨b,off,rfl,World.block_lt_of_cell? w _ (e 0 _ rfl),e 0 _ rfl,e 1 _ rfl,e 2 _ rfl,e 3 _ rfl,e 4 _ rfl,h2,h3⟩
theorem ItsP.below {w w':World} {A:Option Addr} {R:List Xe} (h:ItsP w A R) (hb:Below w.heap.size w w'):ItsP w' A R:=by
 rcases h with rfl | ⟨b,off,rfl,hc⟩
 ·exact .inl rfl
 ·refine .inr ⟨b,off,rfl,fun k hk=>⟨fun i u hu=>?_,(hc k hk).2.1.below hb,(hc k hk).2.2.below hb⟩⟩
  have hp:=(hc k hk).1 i u hu
  exact (hb.cell (World.block_lt_of_cell? w _ hp)).trans hp
theorem ItsP.news {w:World} {A:Option Addr} {R:List Xe} (h:ItsP w A R):R.length=0∨∃ a,A=some a∧∀ j u,(cellsI R)[j]?=some u→w.cell? (a.add j)=some u:=by
 rcases h with rfl | ⟨b,off,rfl,hc⟩
 ·exact .inl rfl
 ·refine .inr ⟨_,rfl,fun j u hu=>?_⟩
  have hadd:(⟨b,off,none⟩:Addr).add j=⟨b,off+j,none⟩:=by unfold Addr.add;split <;> simp_all
  rw [hadd]
  obtain ⟨k,hk,i,hi,rfl,e⟩:=cellsI_inv R j u hu
  exact (hc k hk).1 i u e
theorem info_it:(Tryz.prog.info? 39).map (fun i=>(i.zero,i.size,i.bytes))=some (some (.agg #[.int .i64 0,.slice none 0 0,.string ⟨#[]⟩,.slice none 0 0,.bool false]),5,80):=by kernel_rfl
def OwnX (w:World) (n:Nat) (r:Xe):Prop:=TOwnB w n r.a r.x.raw∧OwnT w n r.b r.x.C
theorem OwnX.below {w w':World} {n:Nat} {r:Xe} (h:OwnX w n r) (k:Below w.heap.size w w'):OwnX w' n r:=⟨h.1.below k,h.2.below k⟩
theorem OwnX.lift {w:World} {n m:Nat} {r:Xe} (h:OwnX w n r) (k:m≤n):OwnX w m r:=⟨h.1.lift k,h.2.lift k⟩
theorem OwnX.bytes {w:World} {n:Nat} {r:Xe} (h:OwnX w n r):BytesAt w r.A r.x.raw:=by
 obtain ⟨A,c,e,hp⟩:=h.1.bytes
 simp only [Xe.a,Value.slice.injEq] at e
 rw [e.1];exact hp
theorem OwnX.ops {w:World} {n:Nat} {r:Xe} (h:OwnX w n r):OpsP w r.B r.x.C:=by
 obtain ⟨A,c,e,hp,-⟩:=OwnT.ops h.2
 simp only [Xe.b,Value.slice.injEq] at e
 rw [e.1];exact hp
def OwnIq (w:World) (q n:Nat) (v:Value) (R:List Xe):Prop:=w.ownsRow q 39 5 v R.length (cellsI R)∧∀ r∈R,OwnX w n r
def OwnIt (w:World) (n:Nat) (v:Value) (R:List Xe):Prop:=OwnIq w n n v R
theorem OwnIq.below {w w':World} {q n:Nat} {v:Value} {R:List Xe} (h:OwnIq w q n v R) (k:Below w.heap.size w w'):OwnIq w' q n v R:=
 ⟨World.ownsRow.kept h.1 (row:=none) ⟨k.os,k.tape,k.output,k.size,fun i hi _=>k.block i hi⟩ (by
  cases e:v.ownBlock with
  | none=>exact .inl rfl
  | some g=>exact .inr (by simp)),fun r hr=>(h.2 r hr).below k⟩
theorem OwnIt.below {w w':World} {n:Nat} {v:Value} {R:List Xe} (h:OwnIt w n v R) (k:Below w.heap.size w w'):OwnIt w' n v R:=OwnIq.below h k
theorem OwnIq.lift {w:World} {q n q' n':Nat} {v:Value} {R:List Xe} (h:OwnIq w q n v R) (k:q'≤q) (k2:n'≤n):OwnIq w q' n' v R:=⟨row_mono h.1 k,fun r hr=>(h.2 r hr).lift k2⟩
theorem OwnIt.lift {w:World} {n m:Nat} {v:Value} {R:List Xe} (h:OwnIt w n v R) (k:m≤n):OwnIt w m v R:=OwnIq.lift h k k
theorem OwnIq.its {w:World} {q n:Nat} {v:Value} {R:List Xe} (h:OwnIq w q n v R):∃ A cap,v=.slice A R.length cap∧ItsP w A R∧R.length≤cap∧cap≤maxLen:=by
 have q:∀ k (hk:k<R.length),BytesAt w R[k].A R[k].x.raw∧OpsP w R[k].B R[k].x.C:=fun k hk=>⟨(h.2 _ (List.getElem_mem hk)).bytes,(h.2 _ (List.getElem_mem hk)).ops⟩
 rcases h.1.2 with ⟨rfl,h0⟩ | ⟨g,cap,cur,rfl,_,_,hle,hcm,_⟩
 ·have:R=[]:=List.eq_nil_of_length_eq_zero h0
  subst this
  exact ⟨none,0,rfl,.inl rfl,Nat.le_refl _,Nat.zero_le _⟩
 ·refine ⟨_,cap,rfl,.inr ⟨g,0,rfl,fun k hk=>⟨fun i u hu=>?_,q k hk⟩⟩,hle,hcm⟩
  have hi:=Xe.c_lt _ hu
  rw [Nat.zero_add]
  exact (World.ownsRow.cellAt h.1 _ (by omega)).trans ((cellsI_at R k hk i hi).trans hu)
theorem OwnIq.itsP {w:World} {q n l c:Nat} {A:Option Addr} {R:List Xe} (h:OwnIq w q n (.slice A l c) R):ItsP w A R:=by
 obtain ⟨A',c',e,hp,-⟩:=h.its
 simp only [Value.slice.injEq] at e
 rw [e.1];exact hp
theorem OwnIt.its {w:World} {n:Nat} {v:Value} {R:List Xe} (h:OwnIt w n v R):∃ A cap,v=.slice A R.length cap∧ItsP w A R∧R.length≤cap∧cap≤maxLen:=OwnIq.its h
theorem OwnIt.itsP {w:World} {n l c:Nat} {A:Option Addr} {R:List Xe} (h:OwnIt w n (.slice A l c) R):ItsP w A R:=OwnIq.itsP h
theorem ownIq_nil (w:World) (q n:Nat):OwnIq w q n (.slice none 0 0) []:=⟨World.ownsRow_nil _ _ _ _,fun r hr=>absurd hr List.not_mem_nil⟩
theorem OwnX.grown {w w':World} {n:Nat} {r:Xe} {row:Option Nat} (h:OwnX w n r) (k:w.grownBy w' row) (hr:∀ q,row=some q→∀ cur T fz,w.heap[q]?=some (.cells cur T fz)→T≠5∧T≠50):OwnX w' n r:=by
 refine ⟨World.ownsRow.kept h.1 k ?_,World.ownsRow.kept h.2 k ?_⟩
 ·cases e:r.a.ownBlock with
  | none=>exact .inl rfl
  | some q=>
   refine .inr fun e'=>?_
   obtain ⟨cur,hc⟩:=own_typesB h.1 e
   exact (hr q e'.symm _ _ _ hc).1 rfl
 ·cases e:r.b.ownBlock with
  | none=>exact .inl rfl
  | some q=>
   refine .inr fun e'=>?_
   obtain ⟨cur,hc⟩:=own_types h.2 e
   exact (hr q e'.symm _ _ _ hc).2 rfl
theorem OwnIq.grown {w w':World} {q n:Nat} {v:Value} {R:List Xe} {row:Option Nat} (h:OwnIq w q n v R) (k:w.grownBy w' row) (hne:∀ r,row=some r→v.ownBlock≠some r) (hr:∀ q,row=some q→∀ cur T fz,w.heap[q]?=some (.cells cur T fz)→T≠5∧T≠50):OwnIq w' q n v R:=
 ⟨World.ownsRow.kept h.1 k (by
  cases e:v.ownBlock with
  | none=>exact .inl rfl
  | some g=>exact .inr fun e'=>hne g e'.symm e),fun r hr'=>(h.2 r hr').grown k hr⟩
theorem row_type {w:World} {n s m:Nat} {T:TypeId} {v:Value} {xs:List Value} (h:w.ownsRow n T s v m xs) {q:Nat} (hq:v.ownBlock=some q):∃ cur,w.heap[q]?=some (.cells cur T (0,0)):=by
 rcases h.2 with ⟨rfl,_⟩ | ⟨g',cap,cur',rfl,_,hg,_⟩
 ·simp [Value.ownBlock] at hq
 ·simp only [Value.ownBlock,Option.some.injEq] at hq
  subst hq
  exact ⟨_,hg⟩
theorem run_appI (w:World) (B n:Nat) (v:Value) (R:List Xe) (h:OwnIq w B n v R) (A:Option Addr) (c:Nat) (R2:List Xe) (hP:ItsP w A R2) (hO:∀ r∈R2,OwnX w n r) (hB:B≤w.heap.size) (hs:R.length+R2.length≤100000) :
  ∃ v' w',(Builtin.append_ #[31,31] 31 #[v,.slice A R2.length c]).run Tryz.prog w=.ok v' w'∧OwnIq w' B n v' (R++R2)∧Below B w w'∧w.grownBy w' v.ownBlock:=by
 obtain ⟨i0,hi,hz0,hz1,hz2⟩:=info_parts info_it
 obtain ⟨v',w',k1,k2,k3⟩:=run_append_src w B 31 31 39 i0 _ 5 80 Tryz.underlying31 hi hz0 hz1 hz2 rfl (by decide) v R.length (cellsI R) h.1 A R2.length c (cellsI R2)
  (cellsI_length R2) hP.news (cellsI_one R2) (by unfold maxLen;omega) (by omega) hB
 have hty:∀ q,v.ownBlock=some q→∀ cur T fz,w.heap[q]?=some (.cells cur T fz)→T≠5∧T≠50:=fun q hq cur T fz hx=>by
  obtain ⟨cur',hg⟩:=row_type h.1 hq
  rw [hx] at hg
  simp only [Option.some.injEq,Obj.cells.injEq] at hg
  rw [hg.2.1]
  exact ⟨by decide,by decide⟩
 refine ⟨v',w',k1,⟨?_,fun r hr=>?_⟩,(Below.refl B w).grown k3 hB fun k hk=>(World.ownsRow.lt h.1 k hk).1,k3⟩
 ·rw [cellsI_append,List.length_append]
  exact k2
 ·rcases List.mem_append.1 hr with hr | hr
  ·exact (h.2 r hr).grown k3 hty
  ·exact (hO r hr).grown k3 hty
theorem its_one (w:World) (r:Xe) (h1:BytesAt w r.A r.x.raw) (h2:OpsP w r.B r.x.C):ItsP (w.alloc (.cells #[.int .i64 r.x.kind,.slice r.A r.x.raw.length r.ca,.string (sB r.x.m),.slice r.B r.x.C.length r.cb,.bool r.x.al] 39)) (some ⟨w.heap.size,0,none⟩) [r]:=by
 refine .inr ⟨_,_,rfl,fun k hk=>?_⟩
 obtain rfl:k=0:=by simp at hk;omega
 refine ⟨fun i u hu=>?_,h1.below (up_alloc _ _),h2.below (up_alloc _ _)⟩
 rw [Nat.zero_add,Nat.zero_mul,Nat.zero_add,Lib.cell_of_heap (heap_alloc_new w _)]
 have hi:=Xe.c_lt _ hu
 match i,hi with
 | 0,_=>exact hu
 | 1,_=>exact hu
 | 2,_=>exact hu
 | 3,_=>exact hu
 | 4,_=>exact hu
def RetIts (w:World) (l:List Ite) (e:Ending) (w':World):Prop:=∃ A c R,e=.returned (.slice A (List.length R) c)∧R.map Xe.x=l∧OwnIt w' w.heap.size (.slice A R.length c) R∧Below w.heap.size w w'
end Go.Proofs.YtmnleknehjkmgaaGreatDoor
namespace Go.Proofs.YtmnleknehjkmgaaGreatDoor
open Go.RowKit
theorem raw_pre {b:Str} (hb:b≠[]):∃ j,1≤j∧j≤b.length∧(itR b).raw=b.take j∧((itR b).kind=4→j=b.length):=by
 have hl:1≤b.length:=by cases b with | nil=>exact absurd rfl hb | cons c t=>simp
 cases h:hdB b with
 | none=>
  refine ⟨b.length,hl,Nat.le_refl _,?_,fun _=>rfl⟩
  unfold itR
  rw [h]
  simp [iteO]
 | some q=>
  obtain ⟨p,o,t⟩:=q
  have hd:=hd_len h
  cases hr:ratT p o.toNat with
  | none=>
   rcases hd_kind h hr with h0 | ⟨h3,rfl⟩
   ·refine ⟨1,Nat.le_refl _,hl,?_,?_⟩
    ·unfold itR;rw [h];simp only [hr,if_pos h0,iteO]
    ·unfold itR;rw [h];simp only [hr,if_pos h0,iteO];intro e;cases e
   ·have hn0:¬rkindT 2 o.toNat=0:=by omega
    have e2:(preS 2).length=1:=rfl
    refine ⟨2,by omega,by omega,?_,?_⟩
    ·unfold itR;rw [h];simp only [hr,if_neg hn0,iteO]
    ·unfold itR;rw [h];simp only [hr,if_neg hn0,iteO];intro e;cases e
  | some x=>
   have hs:=enc_len (k:=(p,(o.toNat:Int),x.1,x.2.1,x.2.2.1,x.2.2.2)) ⟨o.toNat,o.toNat_lt,rfl,hr⟩ 0 0
   simp only at hs
   by_cases hz:b.length<sizeT p x.2.2.1
   ·refine ⟨b.length,hl,Nat.le_refl _,?_,fun _=>rfl⟩
    unfold itR;rw [h];simp only [hr,if_pos hz,iteO,List.take_length]
   ·refine ⟨sizeT p x.2.2.1,hs.2.1,by omega,?_,?_⟩
    ·unfold itR;rw [h];simp only [hr,if_neg hz]
    ·unfold itR;rw [h];simp only [hr,if_neg hz];intro e;cases e
theorem raw_len {b:Str} (hb:b≠[]):1≤(itR b).raw.length∧(itR b).raw.length≤b.length∧(itR b).raw=b.take (itR b).raw.length∧((itR b).kind=4→(itR b).raw.length=b.length):=by
 obtain ⟨j,h1,h2,h3,h4⟩:=raw_pre hb
 have hj:(itR b).raw.length=j:=by rw [h3,List.length_take];omega
 rw [hj]
 exact ⟨h1,h2,h3,h4⟩
def itemsF:Nat→Str→List Ite
 | 0,_=>[]
 | _+1,[]=>[]
 | n+1,c :: t=>itR (c :: t) :: itemsF n ((c :: t).drop (itR (c :: t)).raw.length)
def itemsR (b:Str):List Ite:=itemsF b.length b
theorem items_fuel2:∀ (n m:Nat) (b:Str),b.length≤n→b.length≤m→itemsF n b=itemsF m b
 | n,m,[],_,_=>by cases n <;> cases m <;> rfl
 | 0,m,c :: t,h,_=>by simp at h
 | n+1,0,c :: t,_,h=>by simp at h
 | n+1,m+1,c :: t,h,h'=>by
  have hr:=raw_len (b:=c :: t) (by simp)
  have hd:((c :: t).drop (itR (c :: t)).raw.length).length≤t.length:=by rw [List.length_drop];simp only [List.length_cons];omega
  show itR (c :: t) :: itemsF n _=itR (c :: t) :: itemsF m _
  rw [items_fuel2 n m _ (by simp only [List.length_cons] at h;omega) (by simp only [List.length_cons] at h';omega)]
theorem items_fuel (n:Nat) (b:Str) (h:b.length≤n):itemsF n b=itemsF b.length b:=items_fuel2 n b.length b h (Nat.le_refl _)
theorem items_nil:itemsR []=[]:=rfl
theorem items_cons {b:Str} (hb:b≠[]):itemsR b=itR b :: itemsR (b.drop (itR b).raw.length):=by
 cases b with
 | nil=>exact absurd rfl hb
 | cons c t=>
  have hr:=raw_len (b:=c :: t) (by simp)
  have hd:((c :: t).drop (itR (c :: t)).raw.length).length≤t.length:=by rw [List.length_drop];simp only [List.length_cons];omega
  show itR (c :: t) :: itemsF t.length _=_
  rw [items_fuel t.length _ hd]
  rfl
theorem items_ind {P:Str→Prop} (h0:P []) (h1:∀ b,b≠[]→P (b.drop (itR b).raw.length)→P b) (b:Str):P b:=by
 have key:∀ n (b:Str),b.length≤n→P b:=fun n=>by
  induction n with
  | zero=>
   intro b hb
   have:b=[]:=List.eq_nil_of_length_eq_zero (by omega)
   subst this
   exact h0
  | succ n ih=>
   intro b hb
   by_cases hn:b=[]
   ·subst hn;exact h0
   ·have hr:=raw_len hn
    exact h1 b hn (ih _ (by rw [List.length_drop];omega))
 exact key b.length b (Nat.le_refl _)
def okI (x:Ite):Bool:=decide (x.kind=1)&&!x.al
def onlyB (b:Str):Nat:=if (itemsR b).all okI then 1 else 0
end Go.Proofs.YtmnleknehjkmgaaGreatDoor
namespace Go.Proofs.YtmnleknehjkmgaaGreatDoor
open Go.RowKit Go.Shelf
attribute [local go_sem] Oper.semAt_some
end Go.Proofs.YtmnleknehjkmgaaGreatDoor
namespace Go.Proofs.YtmnleknehjkmgaaGreatDoor
open Go.RowKit
theorem items_le (b:Str):(itemsR b).length≤b.length:=by
 refine items_ind (P:=fun b=>(itemsR b).length≤b.length) (Nat.le_refl _) ?_ b
 intro b hb ih
 have h:=raw_len hb
 simp only [List.length_drop] at ih
 rw [items_cons hb,List.length_cons]
 omega
end Go.Proofs.YtmnleknehjkmgaaGreatDoor
namespace Go.Proofs.YtmnleknehjkmgaaGreatDoor
open Go.RowKit
theorem items_step {α:Type} {f:α→Ite} {R:List α} {rest b:Str} (h:R.map f++itemsR rest=itemsR b) (hne:rest≠[]) (y:α) (hy:f y=itR rest):(R++[y]).map f++itemsR (rest.drop (itR rest).raw.length)=itemsR b:=by
 rw [← h,items_cons hne,List.map_append,List.append_assoc]
 simp [hy]
theorem drop_ne {b:Str} {k l:Nat} (hl:b.length=l) (hk:k<l):b.drop k≠[]:=fun e=>by
 have:=congrArg List.length e
 rw [List.length_drop] at this
 simp at this
 omega
def cntI (L:List Ite) (kd:Int):Nat:=(L.filter fun x=>decide (x.kind=kd)).length
end Go.Proofs.YtmnleknehjkmgaaGreatDoor
namespace Go.Proofs.YtmnleknehjkmgaaGreatDoor
open Go.RowKit Go.Shelf
theorem same_start (w:World) (s1 s2:ByteArray) (v1 v2:Value):∃ w0,(w.alloc (.cells #[.string s1,v1] 26)).alloc (.cells #[.string s2,v2] 26)=w0∧
  w0.heap[w.heap.size]?=some (.cells #[.string s1,v1] 26 (0,0))∧w0.heap[w.heap.size+1]?=some (.cells #[.string s2,v2] 26 (0,0))∧Below w.heap.size w w0:=by
 refine ⟨_,rfl,(Below.heap_alloc _ _ _ (by simp)).trans (World.alloc_heap_new w _),?_,((Below.refl _ w).alloc (Nat.le_refl _) _).alloc (by simp) _⟩
 have h:=World.alloc_heap_new (w.alloc (.cells #[.string s1,v1] 26)) (.cells #[.string s2,v2] 26)
 rw [World.size_alloc] at h
 exact h
theorem sB_inj {a b:Str} (h:sB a=sB b):a=b:=by
 have h2:(sB a).data.toList=(sB b).data.toList:=by rw [h]
 simpa [sB] using h2
theorem sB_ne (a b:Str) (h:a≠b):((sB a).toList == (sB b).toList)=false:=strB_ne fun e=>h (sB_inj e)
theorem rsame_any (m1 m2:Str) (A1 A2:Option Addr) (c1 c2:Nat) (L1 L2:List Tr) (h1:L1.length≤1000) (h2:L2.length≤1000) (w:World) (H1:OpsP w A1 L1) (H2:OpsP w A2 L2) :
  Calls Tryz.prog 10 #[.agg #[.string (sB m1),.slice A1 L1.length c1],.agg #[.string (sB m2),.slice A2 L2.length c2]] w fun e w'=>e=.returned (.bool (decide (m1=m2)&&decide (L1=L2)))∧Below w.heap.size w w':=by
 obtain ⟨r,hr⟩:∃ r,(decide (m1=m2)&&decide (L1=L2))=r:=⟨_,rfl⟩
 have HR:=Lib.hid hr
 rw [hr]
 clear hr
 by_cases hm:m1=m2
 ·subst hm
  by_cases hl:L1.length=L2.length
  ·obtain ⟨w0,hw0,C1,C2,B0⟩:=same_start w (sB m1) (sB m1) (.slice A1 L1.length c1) (.slice A2 L2.length c2)
   obtain ⟨n,hn⟩:∃ n,L1.length=n:=⟨_,rfl⟩
   have HN:=Lib.hid hn
   have HL:=Lib.hid hl
   rw [← hl,hn] at C2 hw0
   rw [hn] at C1 h1
   rw [← hl,hn]
   have X1:=Lib.hid (H1.below B0)
   have X2:=Lib.hid (H2.below B0)
   have k0:=Lib.cell_of_heap C1 0
   have k1:=Lib.cell_of_heap C1 1
   have j0:=Lib.cell_of_heap C2 0
   have j1:=Lib.cell_of_heap C2 1
   have B0:=Lib.hid B0
   have hq:=strB_eq (sB m1)
   clear H1 H2 C1 C2 hn hl h2
   go_enter Tryz.func10,Tryz.ntmps10
   go_wp2
   clear hw0
   go_loopw [5] (fun i wr=>∃ j q:Nat,j≤n∧i=.int .i64 j∧wr=w0.drewN q∧Hid (∀ k,k<j→∀ (a:k<L1.length) (b:k<L2.length),L1[k]=L2[k])) (fun i _=>n - (intOf i).toNat)
   case atStart=>exact ⟨0,0,Nat.zero_le _,rfl,rfl,fun k h=>by omega⟩
   case round=>
    obtain ⟨j,q,hj,rfl,rfl,R⟩:=hrel
    by_cases hlt:j<n
    ·have hj1:j<L1.length:=by have:=HN.out;omega
     have hj2:j<L2.length:=by have:=HL.out;omega
     obtain ⟨b1,o1,hA1,-,p0,p1,p2⟩:=X1.out.at_ hj1
     obtain ⟨b2,o2,hA2,-,q0,q1,q2⟩:=X2.out.at_ hj2
     subst hA1
     subst hA2
     by_cases he:L1[j]=L2[j]
     ·have R2:Hid (∀ k,k<j+1→∀ (a:k<L1.length) (b:k<L2.length),L1[k]=L2[k]):=fun k hk a b=>by
       by_cases e:k=j
       ·subst e;exact he
       ·exact R.out k (by omega) a b
      rw [he] at p0 p1 p2
      obtain ⟨⟨x0,x1,x2⟩,hx⟩:∃ x,L2[j]=x:=⟨_,rfl⟩
      rw [hx] at p0 p1 p2 q0 q1 q2
      simp only at p0 p1 p2 q0 q1 q2
      clear he hx hj1 hj2 R
      go_wp2
      go_quiet (fail)
      go_wp2
      go_roundw
      case rel=>exact ⟨j+1,q+nq,by omega,by go_num,rfl,R2.out⟩
      case measure=>simp [intOf];omega
     ·have T:Hid (false=r):=by show false=r;rw [← HR.out,decide_eq_false (fun e=>he (by simp only [e]):¬L1=L2),Bool.and_false]
      have hne:=tr_ne he
      obtain ⟨⟨x0,x1,x2⟩,hx⟩:∃ x,L1[j]=x:=⟨_,rfl⟩
      obtain ⟨⟨y0,y1,y2⟩,hy⟩:∃ y,L2[j]=y:=⟨_,rfl⟩
      rw [hx] at p0 p1 p2 hne
      rw [hy] at q0 q1 q2 hne
      simp only at p0 p1 p2 q0 q1 q2 hne
      clear he hx hy hj1 hj2 R
      rcases hne with hne | ⟨rfl,hne⟩ | ⟨rfl,rfl,hne⟩
      all_goals
       go_wp2
       go_quiet (fail)
       go_wp2
       go_ret
       exact ⟨ret_bool T.out,B0.out.trans ((below_drewN w0 _ q).trans (below_drewN _ _ nq))⟩
    ·have T:Hid (true=r):=by
      have e:L1=L2:=List.ext_getElem HL.out fun k a b=>R.out k (by have:=HN.out;omega) a b
      show true=r
      rw [← HR.out,decide_eq_true e]
      rfl
     go_wp2
     go_ret
     exact ⟨ret_bool T.out,B0.out.trans (below_drewN w0 w.heap.size q)⟩
  ·have T:Hid (false=r):=by show false=r;rw [← HR.out,decide_eq_false (fun e=>hl (by rw [e]):¬L1=L2),Bool.and_false]
   have hq:=strB_eq (sB m1)
   have hne:((L1.length:Int) == (L2.length:Int))=false:=beq_eq_false_iff_ne.2 fun e=>hl (by omega)
   have hne2:((L1.length:Int) != (L2.length:Int))=true:=by unfold bne;rw [hne];rfl
   clear H1 H2
   go_enter Tryz.func10,Tryz.ntmps10
   go_wp2
   go_ret
   exact ⟨ret_bool T.out,((Below.refl _ w).alloc (Nat.le_refl _) _).alloc (by simp) _⟩
 ·have T:Hid (false=r):=by show false=r;rw [← HR.out,decide_eq_false hm,Bool.false_and]
  have hq:=sB_ne m1 m2 hm
  clear H1 H2
  go_enter Tryz.func10,Tryz.ntmps10
  go_wp2
  go_ret
  exact ⟨ret_bool T.out,((Below.refl _ w).alloc (Nat.le_refl _) _).alloc (by simp) _⟩
end Go.Proofs.YtmnleknehjkmgaaGreatDoor
namespace Go.Proofs.YtmnleknehjkmgaaGreatDoor
open Go.RowKit Go.Shelf
end Go.Proofs.YtmnleknehjkmgaaGreatDoor
namespace Go.Proofs.YtmnleknehjkmgaaGreatDoor
open Go.RowKit
def stepL (c:UInt8) (t:Str) (s:Int×Int):Int×Int:=
 if c=100 then (sgB (t.getD 0 0),s.2) else if c=101 then (s.1,sgB (t.getD 0 0)) else if c=110 then (s.1,((t.getD 0 0).toNat:Int)) else if c=119 then (s.1,((t.getD 0 0).toNat:Int)+256*((t.getD 1 0).toNat:Int)) else s
theorem getD_drop (b:Str) (k j:Nat):(b.drop k).getD j 0=b.getD (k+j) 0:=by
 rw [List.getD_eq_getElem?_getD,List.getD_eq_getElem?_getD,List.getElem?_drop]
end Go.Proofs.YtmnleknehjkmgaaGreatDoor
namespace Go.Proofs.YtmnleknehjkmgaaGreatDoor
open Go.RowKit Go.Shelf
attribute [local irreducible] Go.Mixed.wpMix
def lenE (x:En):Bool:=decide (x.1.length≤10)&&decide (x.2.1.length≤3)&&decide (x.2.2.1.length≤3)
def lenN (p n:Nat):Bool:=match atN p n with | some x=>lenE x | none=>kindT p n == rkindT p n
theorem len_0:∀ n:Fin 256,lenN 0 n.val=true:=by decide +kernel
theorem len_1:∀ n:Fin 256,lenN 1 n.val=true:=by decide +kernel
theorem len_2:∀ n:Fin 256,lenN 2 n.val=true:=by decide +kernel
theorem len_3:∀ n:Fin 256,lenN 3 n.val=true:=by decide +kernel
theorem len_4:∀ n:Fin 256,lenN 4 n.val=true:=by decide +kernel
theorem len_5:∀ n:Fin 256,lenN 5 n.val=true:=by decide +kernel
theorem len_6:∀ n:Fin 256,lenN 6 n.val=true:=by decide +kernel
theorem len_all (p n:Nat) (hp:p<7) (hn:n<256):lenN p n=true:=by
 rcases (by omega:p=0∨p=1∨p=2∨p=3∨p=4∨p=5∨p=6) with rfl | rfl | rfl | rfl | rfl | rfl | rfl
 ·exact len_0 ⟨n,hn⟩
 ·exact len_1 ⟨n,hn⟩
 ·exact len_2 ⟨n,hn⟩
 ·exact len_3 ⟨n,hn⟩
 ·exact len_4 ⟨n,hn⟩
 ·exact len_5 ⟨n,hn⟩
 ·exact len_6 ⟨n,hn⟩
theorem ok_none {page:Int} {n:Nat} (hn:n<256) (h:ratT page n=none):kindT page n=rkindT page n:=by
 by_cases hp:0≤page∧page≤6
 ·obtain ⟨p,rfl⟩:∃ p:Nat,page=p:=⟨page.toNat,by omega⟩
  have h1:=len_all p n (by omega) hn
  rw [← at_same _ n hn,atN_eq p n hn] at h
  unfold lenN at h1
  rw [h] at h1
  exact eq_of_beq h1
 ·unfold kindT rkindT
  rw [if_pos (by omega),if_neg (by omega),if_neg (by omega),if_neg (by omega)]
end Go.Proofs.YtmnleknehjkmgaaGreatDoor
