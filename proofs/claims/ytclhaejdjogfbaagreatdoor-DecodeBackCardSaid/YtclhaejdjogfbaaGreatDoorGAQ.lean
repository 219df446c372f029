/-
  SeVb, TbV, EnO, EnA, DeA, DeB, DeE, DeD, TbSm, TbY, RsA, DfB, DfD, FoA.
-/
import Derived.Test.YtclhaejdjogfbaaGreatDoorGAB
import Derived.Test.YtclhaejdjogfbaaGreatDoorMSeN
import Derived.Test.YtclhaejdjogfbaaGreatDoorGAJ
import Derived.Test.YtclhaejdjogfbaaGreatDoorGAA
import Derived.Test.YtclhaejdjogfbaaGreatDoorGAO
import Derived.Deep.DeepCutAuto
import Derived.Deep.Cut
import Derived.StillTail
import Derived.StillTailTactics
import Derived.Deep.RegionHeld3
import Derived.RegionTactic
import Derived.Test.YtclhaejdjogfbaaGreatDoorQ0
set_option linter.all false
set_option maxRecDepth 100000
set_option maxHeartbeats 4000000
namespace Go.Proofs.YtclhaejdjogfbaaGreatDoor
open Go.RowKit
theorem fill_nums {ex:Str} {L L2:List Tr} {d n:Int} (hp:placesB ex L=true) (h:fillV ex L d n=some L2):numV (varsV ex).1.1 L2=d∧numV (varsV ex).2.1 L2=n:=by
 obtain ⟨hs,hd,hn,-⟩:=fill_shape h
 constructor
 ·unfold numV
  rw [atV_congr (varsV ex).1.1 hs]
  cases ha:atV (varsV ex).1.1 L with
  | none=>
   unfold putB at hd
   rw [ha] at hd
   simp only [decide_eq_true_eq] at hd
   exact hd.symm
  | some k=>
   have hk:=atV_lt ha
   have hpl:=places_at hp k hk
   unfold placeB at hpl
   rw [if_pos ha] at hpl
   simp only [Bool.and_eq_true,decide_eq_true_eq] at hpl
   simp only
   rw [fill_get h k hk,if_neg hpl.2,if_pos ha]
 ·unfold numV
  rw [atV_congr (varsV ex).2.1 hs]
  cases ha:atV (varsV ex).2.1 L with
  | none=>
   unfold putB at hn
   rw [ha] at hn
   simp only [decide_eq_true_eq] at hn
   exact hn.symm
  | some k=>
   simp only
   rw [fill_get h k (atV_lt ha),if_pos ha]
theorem fill_has {m ex:Str} {L L2:List Tr} {d n:Int} (hp:placesB ex L=true) (h:fillV ex L d n=some L2):hasV m L ex (sB m) L2=true:=by
 obtain ⟨h1,h2⟩:=fill_nums hp h
 unfold hasV
 rw [h1,h2,h]
 simp
theorem fill_val {m ex:Str} {L L2:List Tr} {d n:Int} (hp:placesB ex L=true) (h:fillV ex L d n=some L2):valV m L ex (sB m) L2=(d,n):=by
 obtain ⟨h1,h2⟩:=fill_nums hp h
 unfold valV
 rw [if_pos (fill_has hp h),h1,h2]
theorem can_fits {m ex:Str} {L C:List Tr} (hc:canB m L ex=true) {s:ByteArray} (h:fitsR m L ex s C=true):canL (opc s) C=C:=by
 unfold fitsR shpR at h
 simp only [Bool.and_eq_true,decide_eq_true_eq,List.all_eq_true,List.mem_range] at h
 obtain ⟨⟨rfl,hsh⟩,hall⟩:=h
 have hlen:=len_of_shape hsh
 unfold canB at hc
 simp only [Bool.and_eq_true,List.all_eq_true,List.mem_range] at hc
 obtain ⟨⟨⟨c1,c2⟩,c3⟩,c4⟩:=hc
 have e1:accL (opc (sB m)) C=C:=by
  unfold accL
  rw [if_neg,if_neg]
  ·rintro ⟨h1,h2⟩
   rw [h1,hlen,h2] at c2
   simp at c2
  ·rintro ⟨h1,h2,-⟩
   rw [h1,hlen,h2] at c1
   simp at c1
 have e2:exL (opc (sB m)) C=C:=by
  unfold exL
  rw [if_neg]
  rintro ⟨h1,h2⟩
  rw [h1,hsh,h2] at c3
  revert c3
  decide
 unfold canL
 rw [e1,e2]
 conv=>rhs;rw [← List.map_id C]
 refine List.map_congr_left fun t ht=>?_
 obtain ⟨k,hk,rfl⟩:=List.getElem_of_mem ht
 have hkL:k<L.length:=by omega
 have hf:=hall k hk
 have h4:=c4 k hkL
 have hg:=(get_of_shape hsh k hkL).1
 have hC:C.getD k tr0=C[k]:=by rw [List.getD_eq_getElem?_getD,List.getElem?_eq_getElem hk];rfl
 rw [hC] at hf hg
 show wrapT _ C[k]=C[k]
 unfold wrapT
 rw [if_neg]
 rintro ⟨h6,-,hneg⟩
 simp only [Bool.or_eq_true,bne_iff_ne] at h4
 rcases h4 with h4 | h4
 ·exact h4 (hg.trans h6)
 ·unfold fitT at hf
  by_cases hz:letR ex L k=0
  ·rw [if_pos hz,decide_eq_true_eq] at hf
   rw [if_pos hz,decide_eq_true_eq] at h4
   omega
  ·rw [if_neg hz,withR_range,Bool.and_eq_true,decide_eq_true_eq] at hf
   rw [if_neg hz,decide_eq_true_eq] at h4
   omega
end Go.Proofs.YtclhaejdjogfbaaGreatDoor
namespace Go.Proofs.YtclhaejdjogfbaaGreatDoor
open Go.RowKit Go.Shelf
attribute [local go_sem] Oper.semAt_some
def letN (c:UInt8):Nat:=if c=100∨c=101∨c=110 then 1 else if c=119 then 2 else 0
def sumN (ex:Str) (k:Nat):Nat:=((ex.take k).map letN).sum
theorem sumN_succ (ex:Str) (k:Nat) (h:k<ex.length):sumN ex (k+1)=sumN ex k+letN ex[k]:=by
 unfold sumN
 rw [List.take_succ_eq_append_getElem h,List.map_append,List.sum_append]
 simp
theorem letN_le (c:UInt8):letN c≤2:=by
 unfold letN
 split
 ·omega
 ·split <;> omega
theorem sumN_le (ex:Str):∀ k,k≤ex.length→sumN ex k≤2*k
 | 0,_=>by unfold sumN;simp
 | k+1,h=>by
  rw [sumN_succ ex k (by omega)]
  have h1:=sumN_le ex k (by omega)
  have h2:=letN_le ex[k]
  omega
def sizeT (page:Int) (ex:Str):Nat:=(preS page).length+1+sumN ex ex.length
theorem pre_le (page:Int):(preS page).length≤2:=by
 unfold preS
 repeat' split
 all_goals simp
theorem size_any (page op:Int) (m:Str) (A:Option Addr) (n cap:Nat) (ex:Str) (hx:ex.length≤1000) (al:Bool) (w:World) :
  Calls Tryz.prog 112 #[enV page op m (.slice A n cap) ex al] w fun e w'=>e=.returned (.int .i64 (sizeT page ex:Nat))∧Below w.heap.size w w':=by
 unfold enV
 obtain ⟨s,hs⟩:=N9 (sB ex)
 have hz:s.size=ex.length:=by rw [← hs,sB_size]
 have hat:∀ k (h:k<s.size) (h':k<ex.length),s[k]=ex[k]:=fun k h h'=>by subst hs;exact sB_at ex k h h'
 have HAT:=J9 hat
 have HX:=J9 hx
 obtain ⟨l,hl⟩:=N9 (ex.length)
 have HL:=J9 hl
 rw [hl] at hz hx
 have hcv:=fun (w:World)=>run_bytes_of_string (P:=Tryz.prog) w 9 25 5 s Tryz.underlying9 Tryz.underlying25 Tryz.underlying5
 rw [hs]
 clear hs hat hl
 obtain ⟨w0,hw0⟩:=N9 (w.alloc (.cells #[.int .i64 page,.int .u8 op,.string (sB m),.slice A n cap,.string s,.bool al] 47))
 obtain ⟨b,hb⟩:=N9 (w.heap.size)
 have B0:Hid (Below b w w0):=by rw [← hw0,← hb];exact (Below.refl _ _).alloc (Nat.le_refl _) _
 have Z0:w0.heap.size=b+1:=by rw [← hw0,← hb];simp
 have c0:w0.heap[b]?=some (.cells #[.int .i64 page,.int .u8 op,.string (sB m),.slice A n cap,.string s,.bool al] 47 (0,0)):=by rw [← hw0,← hb];exact World.alloc_heap_new w _
 have C0:=J9 c0
 have hpp:=prefixes_any page w0
 have k0:=C9 c0 0
 have HB:=J9 hb
 have HPL:=J9 (pre_le page)
 obtain ⟨pl,hpl⟩:=N9 ((preS page).length)
 have HP:=J9 hpl
 clear c0
 go_enter Tryz.func112,Tryz.ntmps112
 go_wp2_with fail
 refine hpp.mono ?_
 rintro e w1 ⟨v,rfl,hO,hb1⟩
 obtain ⟨A1,cap1,rfl,-⟩:=hO.bytes
 rw [hpl]
 have B1:Hid (Below b w w1):=B0.out.trans (hb1.mono (by omega))
 have c1:=(hb1.block b (by omega)).trans C0.out
 have C1:=J9 c1
 have k4:=C9 c1 4
 have hp2:pl≤2:=by rw [← hpl];exact HPL.out
 have S:=J9 (rowB_start w1 s (grownCap w1 s.size 0 5) 5)
 have B2:Hid (Below b w (w1.alloc (.cells (bytesRow s (grownCap w1 s.size 0 5)) 5 ((bytesRow s (grownCap w1 s.size 0 5)).size,(bytesRow s (grownCap w1 s.size 0 5)).size+1))).drew):=
  (B1.out.alloc (by have:=hb1.size;omega) _).drew
 rw [hz] at S B2
 obtain ⟨q,hq⟩:=N9 (w1.heap.size)
 rw [hq] at S
 clear hpp hO hb1 c1 k0 hw0 B0 C0 hpl
 go_wp2
 clear hcv
 go_loopw [15,3] (fun i o wr=>∃ k:Nat,k≤l∧i=.int .i64 k∧o=.int .i64 ((pl+1+sumN ex k:Nat):Int)∧Hid (RowB wr s q)∧Hid (Below b w wr)) (fun i _ _=>l - (intOf i).toNat)
 case atStart=>exact ⟨0,Nat.zero_le _,rfl,rfl,S.out,B2.out⟩
 case round=>
  clear S B2
  obtain ⟨k,hk,rfl,rfl,R,B⟩:=hrel
  by_cases hlt:k<l
  ·have hlt':k<s.size:=by omega
   have hlt2:k<ex.length:=by rw [HL.out];exact hlt
   have g1:wr.cell? ⟨q,k,none⟩=some (.int .u8 (s[k].toNat:Int)):=R.out k hlt'
   rw [HAT.out k hlt' hlt2] at g1
   have SS:=sumN_succ ex k hlt2
   have SL:=sumN_le ex k (by omega)
   obtain ⟨c,hc⟩:=N9 (ex[k])
   rw [hc] at g1 SS
   obtain ⟨t,ht⟩:=N9 (sumN ex k)
   rw [ht] at SS SL ⊢
   have SS:=J9 SS
   clear hc ht
   have hk1:k≤1000:=by omega
   go_wp2
   ·have e:c=100:=of_decide_eq_true (u8_is c 100 (by decide) true (by assumption))
    have LN:letN c=1:=by rw [e];rfl
    go_roundw
    case rel=>exact ⟨k+1,by omega,by go_num,by rw [SS.out,LN];go_num,R,B⟩
    case measure=>simp [intOf];omega
   ·have e:c=101:=of_decide_eq_true (u8_is c 101 (by decide) true (by assumption))
    have LN:letN c=1:=by rw [e];rfl
    go_roundw
    case rel=>exact ⟨k+1,by omega,by go_num,by rw [SS.out,LN];go_num,R,B⟩
    case measure=>simp [intOf];omega
   ·have e:c=110:=of_decide_eq_true (u8_is c 110 (by decide) true (by assumption))
    have LN:letN c=1:=by rw [e];rfl
    go_roundw
    case rel=>exact ⟨k+1,by omega,by go_num,by rw [SS.out,LN];go_num,R,B⟩
    case measure=>simp [intOf];omega
   ·have e:c=119:=of_decide_eq_true (u8_is c 119 (by decide) true (by assumption))
    have LN:letN c=2:=by rw [e];rfl
    go_roundw
    case rel=>exact ⟨k+1,by omega,by go_num,by rw [SS.out,LN];go_num,R,B⟩
    case measure=>simp [intOf];omega
   ·have a1:¬c=100:=of_decide_eq_false (u8_is c 100 (by decide) false (by assumption))
    have a2:¬c=101:=of_decide_eq_false (u8_is c 101 (by decide) false (by assumption))
    have a3:¬c=110:=of_decide_eq_false (u8_is c 110 (by decide) false (by assumption))
    have a4:¬c=119:=of_decide_eq_false (u8_is c 119 (by decide) false (by assumption))
    have LN:letN c=0:=by unfold letN;rw [if_neg (by rintro (h | h | h) <;> contradiction),if_neg a4]
    go_roundw
    case rel=>exact ⟨k+1,by omega,by go_num,by rw [SS.out,LN];go_num,R,B⟩
    case measure=>simp [intOf];omega
  ·obtain rfl:k=l:=by omega
   have T:Hid (sizeT page ex=pl+1+sumN ex k):=by show sizeT page ex=_;unfold sizeT;rw [HP.out,HL.out]
   go_wp2
   go_ret
   exact ⟨by rw [T.out];rfl,by rw [HB.out];exact B.out⟩
end Go.Proofs.YtclhaejdjogfbaaGreatDoor
namespace Go.Proofs.YtclhaejdjogfbaaGreatDoor
open Go.RowKit
def byteI (n:Int):UInt8:=UInt8.ofNat (n % 256).toNat
theorem byteI_nat (n:Int):((byteI n).toNat:Int)=n % 256:=by
 unfold byteI
 rw [UInt8.toNat_ofNat_of_lt' (by have:=Int.emod_lt_of_pos n (show (0:Int)<256 by decide);have:=Int.emod_nonneg n (show (256:Int)≠0 by decide);show (n % 256).toNat<256;omega)]
 have:=Int.emod_nonneg n (show (256:Int)≠0 by decide)
 omega
theorem byteI_inj {a b:Int} (h:byteI a=byteI b):a % 256=b % 256:=by rw [← byteI_nat,← byteI_nat,h]
def letB (d n:Int) (c:UInt8):Str:=if c=100 then [byteI d] else if c=119 then [byteI n,byteI (n / 256)] else [byteI n]
def encB (page op:Int) (ex:Str) (d n:Int):Str:=if 5≤page then preS page++[byteI d,byteI op] else preS page++byteI op :: ex.flatMap (letB d n)
end Go.Proofs.YtclhaejdjogfbaaGreatDoor
namespace Go.Proofs.YtclhaejdjogfbaaGreatDoor
open Go.RowKit
def exB (g:Int) (n:Nat) (ex:Str):Bool:=
 (ex == []||ex == [100]||ex == [101]||ex == [110]||ex == [119]||ex == [100,110])&&(decide (g<5)||ex == [100]) &&
 (g != 0||(n != 203&&n != 221&&n != 237&&n != 253))&&((g != 3&&g != 4)||n != 203)
def exN (g n:Nat):Bool:=match ratT (g:Int) n with
 | some x=>exB (g:Int) n x.2.2.1
 | none=>true
theorem ex_k:∀ g:Fin 7,∀ n:Fin 256,exN g.val n.val=true:=by decide +kernel
theorem ex_of {page:Int} {n:Nat} (hn:n<256) {x:En} (h:ratT page n=some x):exB page n x.2.2.1=true∧0≤page∧page≤6:=by
 by_cases hp:0≤page∧page≤6
 ·obtain ⟨g,rfl⟩:∃ g:Nat,page=(g:Int):=⟨page.toNat,by omega⟩
  have h1:=ex_k ⟨g,by omega⟩ ⟨n,hn⟩
  unfold exN at h1
  rw [h] at h1
  exact ⟨h1,hp⟩
 ·rw [ratT_no hp] at h
  cases h
structure ExP (g:Int) (n:Nat) (ex:Str):Prop where
 lst:ex=[]∨ex=[100]∨ex=[101]∨ex=[110]∨ex=[119]∨ex=[100,110]
 hi:5≤g→ex=[100]
 main:g=0→n≠203∧n≠221∧n≠237∧n≠253
 ind:g=3∨g=4→n≠203
 pg:0≤g∧g≤6
theorem exP_of {page:Int} {n:Nat} (hn:n<256) {x:En} (h:ratT page n=some x):ExP page n x.2.2.1:=by
 obtain ⟨h1,h2⟩:=ex_of hn h
 unfold exB at h1
 simp only [Bool.and_eq_true,Bool.or_eq_true,beq_iff_eq,bne_iff_ne,decide_eq_true_eq,ne_eq] at h1
 obtain ⟨⟨⟨a,b⟩,c⟩,d⟩:=h1
 refine ⟨?_,fun h=>?_,fun h=>?_,fun h=>?_,h2⟩
 ·rcases a with ((((a | a) | a) | a) | a) | a
  ·exact .inl a
  ·exact .inr (.inl a)
  ·exact .inr (.inr (.inl a))
  ·exact .inr (.inr (.inr (.inl a)))
  ·exact .inr (.inr (.inr (.inr (.inl a))))
  ·exact .inr (.inr (.inr (.inr (.inr a))))
 ·rcases b with b | b
  ·omega
  ·exact b
 ·rcases c with c | c
  ·exact absurd h c
  ·exact ⟨c.1.1.1,c.1.1.2,c.1.2,c.2⟩
 ·rcases d with d | d
  ·rcases h with h | h
   ·exact absurd h d.1
   ·exact absurd h d.2
  ·exact d
theorem putB_rng {v:Vr} {L:List Tr} {n:Int} (hz:v.2.1≤0∧0≤v.2.2) (h:putB v L n=true):v.2.1≤n∧n≤v.2.2:=by
 unfold putB at h
 cases ha:atV v.1 L with
 | none=>
  rw [ha] at h
  simp only [decide_eq_true_eq] at h
  omega
 | some k=>
  rw [ha] at h
  simp only at h
  unfold inV at h
  simpa using h
def numsIn (ex:Str) (d n:Int):Prop:=
 (ex=[]→d=0∧n=0)∧(ex=[100]→-128≤d∧d≤127∧n=0)∧(ex=[101]→d=0∧-128≤n∧n≤127)∧(ex=[110]→d=0∧0≤n∧n≤255)∧(ex=[119]→d=0∧0≤n∧n≤65535)∧(ex=[100,110]→-128≤d∧d≤127∧0≤n∧n≤255)
theorem nums_in {ex:Str} {L C:List Tr} {d n:Int} (h:fillV ex L d n=some C):numsIn ex d n:=by
 obtain ⟨-,h1,h2,-⟩:=fill_shape h
 refine ⟨?_,?_,?_,?_,?_,?_⟩
 ·rintro rfl
  have e1:=putB_rng (v:=(varsV []).1) (by decide) h1
  have e2:=putB_rng (v:=(varsV []).2) (by decide) h2
  have f1:(varsV []).1.2=(0,0):=rfl
  have f2:(varsV []).2.2=(0,0):=rfl
  rw [f1] at e1
  rw [f2] at e2
  simp only at e1 e2
  omega
 ·rintro rfl
  have e1:=putB_rng (v:=(varsV [100]).1) (by decide) h1
  have e2:=putB_rng (v:=(varsV [100]).2) (by decide) h2
  have f1:(varsV [100]).1.2=(-128,127):=rfl
  have f2:(varsV [100]).2.2=(0,0):=rfl
  rw [f1] at e1
  rw [f2] at e2
  simp only at e1 e2
  omega
 ·rintro rfl
  have e1:=putB_rng (v:=(varsV [101]).1) (by decide) h1
  have e2:=putB_rng (v:=(varsV [101]).2) (by decide) h2
  have f1:(varsV [101]).1.2=(0,0):=rfl
  have f2:(varsV [101]).2.2=(-128,127):=rfl
  rw [f1] at e1
  rw [f2] at e2
  simp only at e1 e2
  omega
 ·rintro rfl
  have e1:=putB_rng (v:=(varsV [110]).1) (by decide) h1
  have e2:=putB_rng (v:=(varsV [110]).2) (by decide) h2
  have f1:(varsV [110]).1.2=(0,0):=rfl
  have f2:(varsV [110]).2.2=(0,255):=rfl
  rw [f1] at e1
  rw [f2] at e2
  simp only at e1 e2
  omega
 ·rintro rfl
  have e1:=putB_rng (v:=(varsV [119]).1) (by decide) h1
  have e2:=putB_rng (v:=(varsV [119]).2) (by decide) h2
  have f1:(varsV [119]).1.2=(0,0):=rfl
  have f2:(varsV [119]).2.2=(0,65535):=rfl
  rw [f1] at e1
  rw [f2] at e2
  simp only at e1 e2
  omega
 ·rintro rfl
  have e1:=putB_rng (v:=(varsV [100,110]).1) (by decide) h1
  have e2:=putB_rng (v:=(varsV [100,110]).2) (by decide) h2
  have f1:(varsV [100,110]).1.2=(-128,127):=rfl
  have f2:(varsV [100,110]).2.2=(0,255):=rfl
  rw [f1] at e1
  rw [f2] at e2
  simp only at e1 e2
  omega
def hdB:Str→Option (Int×UInt8×Str)
 | []=>none
 | b :: r=>
  if b=203 then (match r with | o :: t=>some (1,o,t) | []=>none)
  else if b=237 then (match r with | o :: t=>some (2,o,t) | []=>none)
  else if b=221 then (match r with | o :: t=>if o=203 then (match t with | x :: y :: u=>some (5,y,x :: u) | _=>none) else some (3,o,t) | []=>none)
  else if b=253 then (match r with | o :: t=>if o=203 then (match t with | x :: y :: u=>some (6,y,x :: u) | _=>none) else some (4,o,t) | []=>none)
  else some (0,b,r)
theorem op_ne {n m:Nat} (hn:n<256) (hm:m<256) (h:n≠m):byteI (n:Int)≠UInt8.ofNat m:=fun e=>by
 have h1:=byteI_nat (n:Int)
 rw [e,UInt8.toNat_ofNat_of_lt' (show m<256 from hm)] at h1
 omega
theorem hd_enc {g:Int} {n:Nat} (hn:n<256) {ex:Str} (hx:ExP g n ex) (d x:Int) (r:Str) :
  hdB (encB g (n:Int) ex d x++r)=some (g,byteI (n:Int),if 5≤g then byteI d :: r else ex.flatMap (letB d x)++r):=by
 obtain ⟨h0,h6⟩:=hx.pg
 unfold encB
 rcases (by omega:g=0∨g=1∨g=2∨g=3∨g=4∨g=5∨g=6) with rfl | rfl | rfl | rfl | rfl | rfl | rfl
 ·obtain ⟨m1,m2,m3,m4⟩:=hx.main rfl
  have e1:byteI (n:Int)≠203:=op_ne hn (by decide) m1
  have e2:byteI (n:Int)≠221:=op_ne hn (by decide) m2
  have e3:byteI (n:Int)≠237:=op_ne hn (by decide) m3
  have e4:byteI (n:Int)≠253:=op_ne hn (by decide) m4
  have e5:preS 0=[]:=rfl
  rw [e5,if_neg (by decide),if_neg (by decide)]
  simp only [List.nil_append,List.cons_append,hdB,if_neg e1,if_neg e2,if_neg e3,if_neg e4]
 ·rfl
 ·rfl
 ·have e1:byteI (n:Int)≠203:=op_ne hn (by decide) (hx.ind (.inl rfl))
  have e5:preS 3=[221]:=rfl
  rw [e5,if_neg (by decide),if_neg (by decide)]
  simp only [List.nil_append,List.cons_append,hdB,if_neg e1,show ((221:UInt8)=203)=False from by decide,show ((221:UInt8)=237)=False from by decide,if_false,if_true]
 ·have e1:byteI (n:Int)≠203:=op_ne hn (by decide) (hx.ind (.inr rfl))
  have e5:preS 4=[253]:=rfl
  rw [e5,if_neg (by decide),if_neg (by decide)]
  simp only [List.nil_append,List.cons_append,hdB,if_neg e1,show ((253:UInt8)=203)=False from by decide,show ((253:UInt8)=237)=False from by decide,show ((253:UInt8)=221)=False from by decide,if_false,if_true]
 ·rfl
 ·rfl
theorem d_inj {a b:Int} (ha : -128≤a∧a≤127) (hb : -128≤b∧b≤127) (h:byteI a=byteI b):a=b:=by have:=byteI_inj h;omega
theorem n_inj {a b:Int} (ha:0≤a∧a≤255) (hb:0≤b∧b≤255) (h:byteI a=byteI b):a=b:=by have:=byteI_inj h;omega
theorem w_inj {a b:Int} (ha:0≤a∧a≤65535) (hb:0≤b∧b≤65535) (h:byteI a=byteI b) (h2:byteI (a / 256)=byteI (b / 256)):a=b:=by
 have:=byteI_inj h
 have:=byteI_inj h2
 omega
theorem lets_inj {g:Int} {i:Nat} {ex:Str} (hx:ExP g i ex) {d n d' n':Int} (hi:numsIn ex d n) (hi':numsIn ex d' n') {r r':Str} (h:ex.flatMap (letB d n)++r=ex.flatMap (letB d' n')++r'):d=d'∧n=n'∧r=r':=by
 obtain ⟨a0,a1,a2,a3,a4,a5⟩:=hi
 obtain ⟨b0,b1,b2,b3,b4,b5⟩:=hi'
 rcases hx.lst with rfl | rfl | rfl | rfl | rfl | rfl
 ·obtain ⟨rfl,rfl⟩:=a0 rfl
  obtain ⟨rfl,rfl⟩:=b0 rfl
  exact ⟨rfl,rfl,h⟩
 ·obtain ⟨c1,c2,rfl⟩:=a1 rfl
  obtain ⟨e1,e2,rfl⟩:=b1 rfl
  have h:byteI d :: r=byteI d' :: r':=h
  exact ⟨d_inj ⟨c1,c2⟩ ⟨e1,e2⟩ (List.cons.inj h).1,rfl,(List.cons.inj h).2⟩
 ·obtain ⟨rfl,c1,c2⟩:=a2 rfl
  obtain ⟨rfl,e1,e2⟩:=b2 rfl
  have h:byteI n :: r=byteI n' :: r':=h
  exact ⟨rfl,d_inj ⟨c1,c2⟩ ⟨e1,e2⟩ (List.cons.inj h).1,(List.cons.inj h).2⟩
 ·obtain ⟨rfl,c1,c2⟩:=a3 rfl
  obtain ⟨rfl,e1,e2⟩:=b3 rfl
  have h:byteI n :: r=byteI n' :: r':=h
  exact ⟨rfl,n_inj ⟨c1,c2⟩ ⟨e1,e2⟩ (List.cons.inj h).1,(List.cons.inj h).2⟩
 ·obtain ⟨rfl,c1,c2⟩:=a4 rfl
  obtain ⟨rfl,e1,e2⟩:=b4 rfl
  have h:byteI n :: byteI (n / 256) :: r=byteI n' :: byteI (n' / 256) :: r':=h
  obtain ⟨h1,h2⟩:=List.cons.inj h
  obtain ⟨h2,h3⟩:=List.cons.inj h2
  exact ⟨rfl,w_inj ⟨c1,c2⟩ ⟨e1,e2⟩ h1 h2,h3⟩
 ·obtain ⟨c1,c2,c3,c4⟩:=a5 rfl
  obtain ⟨e1,e2,e3,e4⟩:=b5 rfl
  have h:byteI d :: byteI n :: r=byteI d' :: byteI n' :: r':=h
  obtain ⟨h1,h2⟩:=List.cons.inj h
  obtain ⟨h2,h3⟩:=List.cons.inj h2
  exact ⟨d_inj ⟨c1,c2⟩ ⟨e1,e2⟩ h1,n_inj ⟨c3,c4⟩ ⟨e3,e4⟩ h2,h3⟩
theorem enc_inj {k k':Ke} (hk:InTab k) (hk':InTab k') {d n d' n':Int} {C C':List Tr} (hf:fillV k.2.2.2.2.1 k.2.2.2.1 d n=some C) (hf':fillV k'.2.2.2.2.1 k'.2.2.2.1 d' n'=some C') {r r':Str}
  (h:encB k.1 k.2.1 k.2.2.2.2.1 d n++r=encB k'.1 k'.2.1 k'.2.2.2.2.1 d' n'++r'):k=k'∧d=d'∧n=n'∧r=r':=by
 obtain ⟨g,o,m,L,ex,al⟩:=k
 obtain ⟨g',o',m',L',ex',al'⟩:=k'
 obtain ⟨i,hi,e1,e2⟩:=hk
 obtain ⟨j,hj,e3,e4⟩:=hk'
 simp only at e1 e2 e3 e4 hf hf' h
 subst e1 e3
 have hx:=exP_of hi e2
 have hx':=exP_of hj e4
 simp only at hx hx'
 have q:=congrArg hdB h
 rw [hd_enc hi hx,hd_enc hj hx'] at q
 simp only [Option.some.injEq,Prod.mk.injEq] at q
 obtain ⟨rfl,q2,q3⟩:=q
 have hij:i=j:=by have:=byteI_inj q2;omega
 subst hij
 rw [e2] at e4
 simp only [Option.some.injEq,Prod.mk.injEq] at e4
 obtain ⟨rfl,rfl,rfl,rfl⟩:=e4
 by_cases h5:5≤g
 ·rw [if_pos h5,if_pos h5] at q3
  obtain rfl:=hx.hi h5
  have l:=lets_inj hx (nums_in hf) (nums_in hf') (r:=r) (r':=r') q3
  exact ⟨rfl,l⟩
 ·rw [if_neg h5,if_neg h5] at q3
  have l:=lets_inj hx (nums_in hf) (nums_in hf') q3
  exact ⟨rfl,l⟩
theorem enc_len {k:Ke} (hk:InTab k) (d n:Int):(encB k.1 k.2.1 k.2.2.2.2.1 d n).length=sizeT k.1 k.2.2.2.2.1∧1≤sizeT k.1 k.2.2.2.2.1∧sizeT k.1 k.2.2.2.2.1≤4:=by
 obtain ⟨g,o,m,L,ex,al⟩:=k
 obtain ⟨i,hi,e1,e2⟩:=hk
 have hx:=exP_of hi e2
 simp only at hx e1 ⊢
 subst e1
 obtain ⟨h0,h6⟩:=hx.pg
 have hsz:1≤sizeT g ex∧sizeT g ex≤4:=by
  by_cases h5:5≤g
  ·rw [hx.hi h5]
   rcases (by omega:g=5∨g=6) with rfl | rfl <;> decide
  ·rcases (by omega:g=0∨g=1∨g=2∨g=3∨g=4) with rfl | rfl | rfl | rfl | rfl <;> rcases hx.lst with rfl | rfl | rfl | rfl | rfl | rfl <;> decide
 refine ⟨?_,hsz⟩
 unfold encB sizeT
 by_cases h5:5≤g
 ·rw [if_pos h5,hx.hi h5]
  rcases (by omega:g=5∨g=6) with rfl | rfl <;> rfl
 ·rw [if_neg h5,List.length_append]
  rcases hx.lst with rfl | rfl | rfl | rfl | rfl | rfl <;> rfl
end Go.Proofs.YtclhaejdjogfbaaGreatDoor
namespace Go.Proofs.YtclhaejdjogfbaaGreatDoor
open Go.RowKit
def sgB (c:UInt8):Int:=sgnI (c.toNat:Int)
def numB (ex:Str) (t:Str):Int×Int:=
 if ex=[100] then (sgB (t.getD 0 0),0) else if ex=[101] then (0,sgB (t.getD 0 0)) else if ex=[110] then (0,((t.getD 0 0).toNat:Int)) else
 if ex=[119] then (0,((t.getD 0 0).toNat:Int)+256*((t.getD 1 0).toNat:Int)) else if ex=[100,110] then (sgB (t.getD 0 0),((t.getD 1 0).toNat:Int)) else (0,0)
theorem num_0 (t:Str):numB [] t=(0,0):=by unfold numB;rw [if_neg (by decide),if_neg (by decide),if_neg (by decide),if_neg (by decide),if_neg (by decide)]
theorem num_d (t:Str):numB [100] t=(sgB (t.getD 0 0),0):=by unfold numB;rw [if_pos rfl]
theorem num_e (t:Str):numB [101] t=(0,sgB (t.getD 0 0)):=by unfold numB;rw [if_neg (by decide),if_pos rfl]
theorem num_n (t:Str):numB [110] t=(0,((t.getD 0 0).toNat:Int)):=by unfold numB;rw [if_neg (by decide),if_neg (by decide),if_pos rfl]
theorem num_w (t:Str):numB [119] t=(0,((t.getD 0 0).toNat:Int)+256*((t.getD 1 0).toNat:Int)):=by unfold numB;rw [if_neg (by decide),if_neg (by decide),if_neg (by decide),if_pos rfl]
theorem num_dn (t:Str):numB [100,110] t=(sgB (t.getD 0 0),((t.getD 1 0).toNat:Int)):=by unfold numB;rw [if_neg (by decide),if_neg (by decide),if_neg (by decide),if_neg (by decide),if_pos rfl]
theorem let_d1 (d n:Int):letB d n 100=[byteI d]:=rfl
theorem let_e1 (d n:Int):letB d n 101=[byteI n]:=rfl
theorem let_n1 (d n:Int):letB d n 110=[byteI n]:=rfl
theorem let_w1 (d n:Int):letB d n 119=[byteI n,byteI (n / 256)]:=rfl
structure Ite where
 kind:Int
 raw:Str
 m:Str
 C:List Tr
 al:Bool
deriving DecidableEq
def iteO (kind:Int) (raw:Str):Ite:=⟨kind,raw,[],[],false⟩
def itR (b:Str):Ite:=match hdB b with
 | none=>iteO 4 b
 | some (p,o,t)=>match ratT p o.toNat with
  | none=>if rkindT p o.toNat=0 then iteO 2 (b.take 1) else iteO 3 (b.take 2)
  | some x=>if b.length<sizeT p x.2.2.1 then iteO 4 b else ⟨1,b.take (sizeT p x.2.2.1),x.1,(fillV x.2.2.1 x.2.1 (numB x.2.2.1 t).1 (numB x.2.2.1 t).2).getD [],x.2.2.2⟩
theorem sgB_rng (c:UInt8) : -128≤sgB c∧sgB c≤127:=by
 have:=c.toNat_lt
 unfold sgB sgnI
 split <;> omega
theorem sgB_byte {d:Int} (h : -128≤d∧d≤127):sgB (byteI d)=d:=by
 have:=byteI_nat d
 unfold sgB sgnI
 split <;> omega
theorem byte_sgB (c:UInt8):byteI (sgB c)=c:=by
 have h:=byteI_nat (sgB c)
 have:=c.toNat_lt
 refine UInt8.toNat_inj.1 ?_
 unfold sgB sgnI at h ⊢
 split at h <;> rename_i hc
 ·rw [if_pos hc];omega
 ·rw [if_neg hc];omega
theorem byte_nat (c:UInt8):byteI (c.toNat:Int)=c:=by
 have h:=byteI_nat (c.toNat:Int)
 have:=c.toNat_lt
 refine UInt8.toNat_inj.1 ?_
 omega
theorem nat_byte {n:Int} (h:0≤n∧n≤255):((byteI n).toNat:Int)=n:=by
 have:=byteI_nat n
 omega
theorem numB_in {g:Int} {i:Nat} {ex:Str} (hx:ExP g i ex) (t:Str):numsIn ex (numB ex t).1 (numB ex t).2:=by
 have h0:=sgB_rng (t.getD 0 0)
 have h1:=(t.getD 0 0).toNat_lt
 have h2:=(t.getD 1 0).toNat_lt
 rcases hx.lst with rfl | rfl | rfl | rfl | rfl | rfl
 ·rw [num_0];exact ⟨fun _=>⟨rfl,rfl⟩,by simp,by simp,by simp,by simp,by simp⟩
 ·rw [num_d];exact ⟨by simp,fun _=>by refine ⟨?_,?_,?_⟩ <;> simp only <;> omega,by simp,by simp,by simp,by simp⟩
 ·rw [num_e];exact ⟨by simp,by simp,fun _=>by refine ⟨?_,?_,?_⟩ <;> simp only <;> omega,by simp,by simp,by simp⟩
 ·rw [num_n];exact ⟨by simp,by simp,by simp,fun _=>by refine ⟨?_,?_,?_⟩ <;> simp only <;> omega,by simp,by simp⟩
 ·rw [num_w];exact ⟨by simp,by simp,by simp,by simp,fun _=>by refine ⟨?_,?_,?_⟩ <;> simp only <;> omega,by simp⟩
 ·rw [num_dn];exact ⟨by simp,by simp,by simp,by simp,by simp,fun _=>by refine ⟨?_,?_,?_,?_⟩ <;> simp only <;> omega⟩
theorem num_lets {g:Int} {i:Nat} {ex:Str} (hx:ExP g i ex) {d n:Int} (h:numsIn ex d n) (r:Str):numB ex (ex.flatMap (letB d n)++r)=(d,n):=by
 obtain ⟨a0,a1,a2,a3,a4,a5⟩:=h
 rcases hx.lst with rfl | rfl | rfl | rfl | rfl | rfl
 ·obtain ⟨rfl,rfl⟩:=a0 rfl;rw [num_0]
 ·obtain ⟨c1,c2,rfl⟩:=a1 rfl
  rw [num_d]
  simp only [List.flatMap_cons,List.flatMap_nil,let_d1,List.cons_append,List.nil_append,List.getD_cons_zero]
  rw [sgB_byte ⟨c1,c2⟩]
 ·obtain ⟨rfl,c1,c2⟩:=a2 rfl
  rw [num_e]
  simp only [List.flatMap_cons,List.flatMap_nil,let_e1,List.cons_append,List.nil_append,List.getD_cons_zero]
  rw [sgB_byte ⟨c1,c2⟩]
 ·obtain ⟨rfl,c1,c2⟩:=a3 rfl
  rw [num_n]
  simp only [List.flatMap_cons,List.flatMap_nil,let_n1,List.cons_append,List.nil_append,List.getD_cons_zero]
  rw [nat_byte ⟨c1,c2⟩]
 ·obtain ⟨rfl,c1,c2⟩:=a4 rfl
  rw [num_w]
  simp only [List.flatMap_cons,List.flatMap_nil,let_w1,List.cons_append,List.nil_append,List.getD_cons_zero,List.getD_cons_succ]
  have e1:=byteI_nat n
  have e2:=byteI_nat (n / 256)
  congr 1
  omega
 ·obtain ⟨c1,c2,c3,c4⟩:=a5 rfl
  rw [num_dn]
  simp only [List.flatMap_cons,List.flatMap_nil,let_d1,let_n1,List.cons_append,List.nil_append,List.getD_cons_zero,List.getD_cons_succ]
  rw [sgB_byte ⟨c1,c2⟩,nat_byte ⟨c3,c4⟩]
theorem oneS_of {t:Str} (h:1≤t.length):∃ a u,t=a :: u:=by
 cases t with
 | nil=>simp at h
 | cons a u=>exact ⟨a,u,rfl⟩
theorem twoS_of {t:Str} (h:2≤t.length):∃ a b u,t=a :: b :: u:=by
 match t,h with
 | [],h=>simp at h
 | [a],h=>simp at h
 | a :: b :: u,_=>exact ⟨a,b,u,rfl⟩
theorem lets_num {g:Int} {i:Nat} {ex:Str} (hx:ExP g i ex) (t:Str) (hl:(ex.flatMap (letB 0 0)).length≤t.length):ex.flatMap (letB (numB ex t).1 (numB ex t).2)=t.take (ex.flatMap (letB 0 0)).length:=by
 rcases hx.lst with rfl | rfl | rfl | rfl | rfl | rfl
 ·simp
 ·obtain ⟨a,t,rfl⟩:=oneS_of hl
  rw [num_d]
  simp only [List.flatMap_cons,List.flatMap_nil,let_d1,List.getD_cons_zero,byte_sgB]
  rfl
 ·obtain ⟨a,t,rfl⟩:=oneS_of hl
  rw [num_e]
  simp only [List.flatMap_cons,List.flatMap_nil,let_e1,List.getD_cons_zero,byte_sgB]
  rfl
 ·obtain ⟨a,t,rfl⟩:=oneS_of hl
  rw [num_n]
  simp only [List.flatMap_cons,List.flatMap_nil,let_n1,List.getD_cons_zero,byte_nat]
  rfl
 ·obtain ⟨a,b,t,rfl⟩:=twoS_of hl
  rw [num_w]
  simp only [List.flatMap_cons,List.flatMap_nil,let_w1,List.getD_cons_zero,List.getD_cons_succ]
  have h1:=a.toNat_lt
  have h2:=b.toNat_lt
  have e1:=byteI_nat ((a.toNat:Int)+256*(b.toNat:Int))
  have e2:=byteI_nat (((a.toNat:Int)+256*(b.toNat:Int)) / 256)
  have f1:byteI ((a.toNat:Int)+256*(b.toNat:Int))=a:=UInt8.toNat_inj.1 (by omega)
  have f2:byteI (((a.toNat:Int)+256*(b.toNat:Int)) / 256)=b:=UInt8.toNat_inj.1 (by omega)
  rw [f1,f2]
  rfl
 ·obtain ⟨a,b,t,rfl⟩:=twoS_of hl
  rw [num_dn]
  simp only [List.flatMap_cons,List.flatMap_nil,let_d1,let_n1,List.getD_cons_zero,List.getD_cons_succ,byte_sgB,byte_nat]
  rfl
def plcB (L:List Tr) (ex:Str):Bool:=(!ex.contains 100||(atV (varsV ex).1.1 L).isSome)&&(!(ex.contains 101||ex.contains 110||ex.contains 119)||(atV (varsV ex).2.1 L).isSome)
def plcN (g n:Nat):Bool:=match ratT (g:Int) n with
 | some x=>plcB x.2.1 x.2.2.1
 | none=>true
theorem plc_k:∀ g:Fin 7,∀ n:Fin 256,plcN g.val n.val=true:=by decide +kernel
theorem plc_of {page:Int} {n:Nat} (hn:n<256) {x:En} (h:ratT page n=some x):plcB x.2.1 x.2.2.1=true:=by
 obtain ⟨h1,h2⟩:=(exP_of hn h).pg
 obtain ⟨g,rfl⟩:∃ g:Nat,page=(g:Int):=⟨page.toNat,by omega⟩
 have h3:=plc_k ⟨g,by omega⟩ ⟨n,hn⟩
 unfold plcN at h3
 rw [h] at h3
 exact h3
theorem put_ok {v:Vr} {L:List Tr} {n:Int} (h:(atV v.1 L).isSome=true∧v.2.1≤n∧n≤v.2.2∨n=0∧v.2.1≤0∧0≤v.2.2):putB v L n=true:=by
 unfold putB
 cases ha:atV v.1 L with
 | none=>
  rw [ha] at h
  rcases h with ⟨h,-⟩ | ⟨rfl,-⟩
  ·cases h
  ·simp
 | some k=>
  simp only
  unfold inV
  rcases h with ⟨-,h⟩ | ⟨rfl,h⟩ <;> simp [h]
theorem fill_in {g:Int} {i:Nat} {ex:Str} (hx:ExP g i ex) {L:List Tr} (hp:plcB L ex=true) {d n:Int} (h:numsIn ex d n):∃ C,fillV ex L d n=some C:=by
 obtain ⟨a0,a1,a2,a3,a4,a5⟩:=h
 have key:putB (varsV ex).1 L d=true∧putB (varsV ex).2 L n=true:=by
  unfold plcB at hp
  rcases hx.lst with rfl | rfl | rfl | rfl | rfl | rfl
  ·obtain ⟨rfl,rfl⟩:=a0 rfl
   exact ⟨put_ok (.inr ⟨rfl,by decide⟩),put_ok (.inr ⟨rfl,by decide⟩)⟩
  ·obtain ⟨c1,c2,rfl⟩:=a1 rfl
   exact ⟨put_ok (.inl ⟨by simpa using hp,c1,c2⟩),put_ok (.inr ⟨rfl,by decide⟩)⟩
  ·obtain ⟨rfl,c1,c2⟩:=a2 rfl
   exact ⟨put_ok (.inr ⟨rfl,by decide⟩),put_ok (.inl ⟨by simpa using hp,c1,c2⟩)⟩
  ·obtain ⟨rfl,c1,c2⟩:=a3 rfl
   exact ⟨put_ok (.inr ⟨rfl,by decide⟩),put_ok (.inl ⟨by simpa using hp,c1,c2⟩)⟩
  ·obtain ⟨rfl,c1,c2⟩:=a4 rfl
   exact ⟨put_ok (.inr ⟨rfl,by decide⟩),put_ok (.inl ⟨by simpa using hp,c1,c2⟩)⟩
  ·obtain ⟨c1,c2,c3,c4⟩:=a5 rfl
   have hp2:(atV (varsV [100,110]).1.1 L).isSome=true∧(atV (varsV [100,110]).2.1 L).isSome=true:=by simpa using hp
   exact ⟨put_ok (.inl ⟨hp2.1,c1,c2⟩),put_ok (.inl ⟨hp2.2,c3,c4⟩)⟩
 unfold fillV
 rw [putB_shape (varsV ex).2 (putL_shape (varsV ex).1.1 L d) n]
 simp [key.1,key.2]
end Go.Proofs.YtclhaejdjogfbaaGreatDoor
namespace Go.Proofs.YtclhaejdjogfbaaGreatDoor
open Go.RowKit
theorem byteI_n {n:Nat} (h:n<256):(byteI (n:Int)).toNat=n:=by
 have:=byteI_nat (n:Int)
 omega
theorem dec_enc {k:Ke} (hk:InTab k) {d n:Int} {C:List Tr} (hf:fillV k.2.2.2.2.1 k.2.2.2.1 d n=some C) (r:Str) :
  itR (encB k.1 k.2.1 k.2.2.2.2.1 d n++r)=⟨1,encB k.1 k.2.1 k.2.2.2.2.1 d n,k.2.2.1,C,k.2.2.2.2.2⟩:=by
 have hl:=enc_len hk d n
 obtain ⟨g,o,m,L,ex,al⟩:=k
 obtain ⟨i,hi,e1,e2⟩:=hk
 simp only at e1 e2 hf hl ⊢
 subst e1
 have hx:=exP_of hi e2
 simp only at hx
 have hn:=nums_in hf
 have hnum:numB ex (if 5≤g then byteI d :: r else ex.flatMap (letB d n)++r)=(d,n):=by
  by_cases h5:5≤g
  ·rw [if_pos h5]
   obtain rfl:=hx.hi h5
   exact num_lets hx hn r
  ·rw [if_neg h5]
   exact num_lets hx hn r
 unfold itR
 rw [hd_enc hi hx d n r]
 simp only [byteI_n hi,e2,hnum,hf,Option.getD_some]
 rw [if_neg (by rw [List.length_append];omega)]
 congr 1
 rw [← hl.1]
 exact List.take_left
theorem hd_inv {b:Str} {p:Int} {o:UInt8} {t:Str} (h:hdB b=some (p,o,t)):(0≤p∧p≤6)∧((¬5≤p∧b=preS p++o :: t)∨(5≤p∧∃ x u,t=x :: u∧b=preS p++x :: o :: u)):=by
 cases b with
 | nil=>cases h
 | cons c r=>
  simp only [hdB] at h
  split at h
  ·rename_i hc
   subst hc
   cases r with
   | nil=>cases h
   | cons y u=>simp only [Option.some.injEq,Prod.mk.injEq] at h;obtain ⟨rfl,rfl,rfl⟩:=h;exact ⟨by omega,.inl ⟨by omega,rfl⟩⟩
  ·split at h
   ·rename_i hc
    subst hc
    cases r with
    | nil=>cases h
    | cons y u=>simp only [Option.some.injEq,Prod.mk.injEq] at h;obtain ⟨rfl,rfl,rfl⟩:=h;exact ⟨by omega,.inl ⟨by omega,rfl⟩⟩
   ·split at h
    ·rename_i hc
     subst hc
     cases r with
     | nil=>cases h
     | cons y u=>
      simp only at h
      split at h
      ·rename_i hy
       subst hy
       match u,h with
       | [],h=>cases h
       | [_],h=>cases h
       | x :: z :: v,h=>simp only [Option.some.injEq,Prod.mk.injEq] at h;obtain ⟨rfl,rfl,rfl⟩:=h;exact ⟨by omega,.inr ⟨by omega,x,v,rfl,rfl⟩⟩
      ·simp only [Option.some.injEq,Prod.mk.injEq] at h;obtain ⟨rfl,rfl,rfl⟩:=h;exact ⟨by omega,.inl ⟨by omega,rfl⟩⟩
    ·split at h
     ·rename_i hc
      subst hc
      cases r with
      | nil=>cases h
      | cons y u=>
       simp only at h
       split at h
       ·rename_i hy
        subst hy
        match u,h with
        | [],h=>cases h
        | [_],h=>cases h
        | x :: z :: v,h=>simp only [Option.some.injEq,Prod.mk.injEq] at h;obtain ⟨rfl,rfl,rfl⟩:=h;exact ⟨by omega,.inr ⟨by omega,x,v,rfl,rfl⟩⟩
       ·simp only [Option.some.injEq,Prod.mk.injEq] at h;obtain ⟨rfl,rfl,rfl⟩:=h;exact ⟨by omega,.inl ⟨by omega,rfl⟩⟩
     ·simp only [Option.some.injEq,Prod.mk.injEq] at h;obtain ⟨rfl,rfl,rfl⟩:=h;exact ⟨by omega,.inl ⟨by omega,rfl⟩⟩
theorem dec_raw {b:Str} {p:Int} {o:UInt8} {t:Str} {x:En} (h:hdB b=some (p,o,t)) (hr:ratT p o.toNat=some x) (hl:sizeT p x.2.2.1≤b.length) :
  ∃ C,fillV x.2.2.1 x.2.1 (numB x.2.2.1 t).1 (numB x.2.2.1 t).2=some C∧b.take (sizeT p x.2.2.1)=encB p (o.toNat:Int) x.2.2.1 (numB x.2.2.1 t).1 (numB x.2.2.1 t).2∧
   itR b=⟨1,b.take (sizeT p x.2.2.1),x.1,C,x.2.2.2⟩∧InTab (p,(o.toNat:Int),x.1,x.2.1,x.2.2.1,x.2.2.2):=by
 have ho:o.toNat<256:=o.toNat_lt
 have hx:=exP_of ho hr
 have hin:InTab (p,(o.toNat:Int),x.1,x.2.1,x.2.2.1,x.2.2.2):=⟨o.toNat,ho,rfl,hr⟩
 obtain ⟨C,hC⟩:=fill_in hx (plc_of ho hr) (numB_in hx t)
 refine ⟨C,hC,?_,?_,hin⟩
 ·have hsz:=(enc_len hin (numB x.2.2.1 t).1 (numB x.2.2.1 t).2).1
  simp only at hsz
  have hs0:=(enc_len hin 0 0).1
  simp only at hs0
  obtain ⟨hp,hcase⟩:=hd_inv h
  have hbo:byteI (o.toNat:Int)=o:=byte_nat o
  rcases hcase with ⟨h5,rfl⟩ | ⟨h5,y,u,rfl,rfl⟩
  ·unfold encB at hsz hs0 ⊢
   rw [if_neg h5,hbo] at hsz hs0 ⊢
   rw [List.length_append,List.length_cons] at hs0 hl
   rw [lets_num hx t (by omega)]
   rw [← hs0]
   rw [List.take_append]
   rw [show (preS p).length+((x.2.2.1.flatMap (letB 0 0)).length+1) - (preS p).length=(x.2.2.1.flatMap (letB 0 0)).length+1 by omega,List.take_of_length_le (by omega),List.take_succ_cons]
  ·have he:=hx.hi h5
   unfold encB at hsz ⊢
   rw [if_pos h5,hbo] at hsz ⊢
   rw [List.length_append] at hsz
   simp only [List.length_cons,List.length_nil] at hsz
   rw [he,num_d]
   simp only [List.getD_cons_zero,byte_sgB]
   rw [he] at hsz
   rw [← hsz,List.take_append,List.take_of_length_le (by omega)]
   rw [show (preS p).length+(0+1+1) - (preS p).length=2 by omega]
   rfl
 ·unfold itR
  rw [h]
  simp only [hr,hC,Option.getD_some]
  rw [if_neg (by omega)]
end Go.Proofs.YtclhaejdjogfbaaGreatDoor
namespace Go.Proofs.YtclhaejdjogfbaaGreatDoor
open Go.RowKit
def pgA:Str→Int×Nat
 | []=>(0,0)
 | c :: r=>if c=203 then (1,1) else if c=237 then (2,1) else if c=221 then (if r.head?=some 203 then (5,3) else (3,1)) else if c=253 then (if r.head?=some 203 then (6,3) else (4,1)) else (0,0)
def nxA (b:Str):Nat:=if 5≤(pgA b).1 then 2 else (pgA b).2+1
theorem pg_none {b:Str} (h:b.length≤(pgA b).2):hdB b=none:=by
 cases b with
 | nil=>rfl
 | cons c r=>
  simp only [pgA,hdB,List.length_cons] at h ⊢
  split
  ·rw [if_pos ‹_›] at h
   cases r with
   | nil=>rfl
   | cons y u=>simp at h
  ·rw [if_neg ‹_›] at h
   split
   ·rw [if_pos ‹_›] at h
    cases r with
    | nil=>rfl
    | cons y u=>simp at h
   ·rw [if_neg ‹_›] at h
    split
    ·rw [if_pos ‹_›] at h
     cases r with
     | nil=>rfl
     | cons y u=>
      simp only [List.head?_cons,Option.some.injEq] at h ⊢
      split
      ·rw [if_pos ‹_›] at h
       match u,h with
       | [],h=>rfl
       | [x],h=>rfl
       | x :: z :: v,h=>simp at h
      ·rw [if_neg ‹_›] at h
       simp at h
    ·rw [if_neg ‹_›] at h
     split
     ·rw [if_pos ‹_›] at h
      cases r with
      | nil=>rfl
      | cons y u=>
       simp only [List.head?_cons,Option.some.injEq] at h ⊢
       split
       ·rw [if_pos ‹_›] at h
        match u,h with
        | [],h=>rfl
        | [x],h=>rfl
        | x :: z :: v,h=>simp at h
       ·rw [if_neg ‹_›] at h
        simp at h
     ·rw [if_neg ‹_›] at h
      simp at h
theorem pg_some {b:Str} (h:(pgA b).2<b.length):hdB b=some ((pgA b).1,b[(pgA b).2],if 5≤(pgA b).1 then b.getD 2 0 :: b.drop 4 else b.drop ((pgA b).2+1)):=by
 cases b with
 | nil=>simp at h
 | cons c r=>
  by_cases h1:c=203
  ·subst h1
   cases r with
   | nil=>simp [pgA] at h
   | cons y u=>rfl
  ·by_cases h2:c=237
   ·subst h2
    cases r with
    | nil=>simp [pgA] at h
    | cons y u=>rfl
   ·by_cases h3:c=221
    ·subst h3
     cases r with
     | nil=>simp [pgA] at h
     | cons y u=>
      by_cases hy:y=203
      ·subst hy
       match u,h with
       | [],h=>simp [pgA] at h
       | [x],h=>simp [pgA] at h
       | x :: z :: v,h=>rfl
      ·have e:pgA (221 :: y :: u)=(3,1):=by simp [pgA,hy]
       simp only [e]
       simp [hdB,hy]
    ·by_cases h4:c=253
     ·subst h4
      cases r with
      | nil=>simp [pgA] at h
      | cons y u=>
       by_cases hy:y=203
       ·subst hy
        match u,h with
        | [],h=>simp [pgA] at h
        | [x],h=>simp [pgA] at h
        | x :: z :: v,h=>rfl
       ·have e:pgA (253 :: y :: u)=(4,1):=by simp [pgA,hy]
        simp only [e]
        simp [hdB,hy]
     ·have e:pgA (c :: r)=(0,0):=by simp [pgA,h1,h2,h3,h4]
      simp only [e]
      simp [hdB,h1,h2,h3,h4]
theorem pg_rng (b:Str):(0≤(pgA b).1∧(pgA b).1≤6)∧(pgA b).2≤3∧(5≤(pgA b).1↔(pgA b).2=3):=by
 cases b with
 | nil=>decide
 | cons c r=>
  simp only [pgA]
  repeat' split
  all_goals decide
end Go.Proofs.YtclhaejdjogfbaaGreatDoor
namespace Go.Proofs.YtclhaejdjogfbaaGreatDoor
open Go.RowKit
def needR (b:Str):Nat:=match hdB b with
 | some (p,o,t)=>(match ratT p o.toNat with
  | none=>if rkindT p o.toNat=0 then 1 else 2
  | some x=>sizeT p x.2.2.1)
 | none=>match b with
  | []=>1
  | _ :: 203 :: _=>4
  | _=>2
def kndB (p n:Nat):Bool:=(ratT (p:Int) n).isSome||decide (rkindT (p:Int) n=0)||(decide (rkindT (p:Int) n=3)&&decide (p=2))||(decide (p=0)&&(n == 203||n == 221||n == 237||n == 253))||((decide (p=3)||decide (p=4))&&n == 203)
theorem knd_k:∀ g:Fin 7,∀ n:Fin 256,kndB g.val n.val=true:=by decide +kernel
theorem hd_kind {b:Str} {p:Int} {o:UInt8} {t:Str} (h:hdB b=some (p,o,t)) (hr:ratT p o.toNat=none):rkindT p o.toNat=0∨(rkindT p o.toNat=3∧p=2):=by
 have hp:=(hd_inv h).1
 have ho:=o.toNat_lt
 obtain ⟨g,rfl⟩:∃ g:Nat,p=(g:Int):=⟨p.toNat,by omega⟩
 have hk:=knd_k ⟨g,by omega⟩ ⟨o.toNat,ho⟩
 unfold kndB at hk
 simp only [hr,Option.isSome_none,Bool.false_or,Bool.or_eq_true,Bool.and_eq_true,decide_eq_true_eq,beq_iff_eq] at hk
 have hne:∀ k:Nat,k<256→o.toNat=k→o=UInt8.ofNat k:=fun k hk e=>by
  refine UInt8.toNat_inj.1 ?_
  rw [UInt8.toNat_ofNat_of_lt' (show k<256 from hk)]
  exact e
 rcases hk with ((hk | hk) | hk) | hk
 ·exact .inl hk
 ·exact .inr ⟨hk.1,by omega⟩
 ·exfalso
  obtain ⟨h0,hk⟩:=hk
  obtain rfl:g=0:=h0
  cases b with
  | nil=>cases h
  | cons c r=>
   have hc:c≠203∧c≠237∧c≠221∧c≠253∧o=c:=by
    simp only [hdB] at h
    refine ⟨?_,?_,?_,?_,?_⟩
    ·rintro rfl;rw [if_pos rfl] at h;cases r <;> simp at h
    ·rintro rfl;rw [if_neg (by decide),if_pos rfl] at h;cases r <;> simp at h
    ·rintro rfl
     rw [if_neg (by decide),if_neg (by decide),if_pos rfl] at h
     cases r with
     | nil=>cases h
     | cons y u=>
      simp only at h
      split at h
      ·match u,h with
       | [],h=>cases h
       | [_],h=>cases h
       | x :: z :: v,h=>simp at h
      ·simp at h
    ·rintro rfl
     rw [if_neg (by decide),if_neg (by decide),if_neg (by decide),if_pos rfl] at h
     cases r with
     | nil=>cases h
     | cons y u=>
      simp only at h
      split at h
      ·match u,h with
       | [],h=>cases h
       | [_],h=>cases h
       | x :: z :: v,h=>simp at h
      ·simp at h
    ·split at h
     ·cases r <;> simp at h
     ·split at h
      ·cases r <;> simp at h
      ·split at h
       ·cases r with
        | nil=>cases h
        | cons y u=>
         simp only at h
         split at h
         ·match u,h with
          | [],h=>cases h
          | [_],h=>cases h
          | x :: z :: v,h=>simp at h
         ·simp at h
       ·split at h
        ·cases r with
         | nil=>cases h
         | cons y u=>
          simp only at h
          split at h
          ·match u,h with
           | [],h=>cases h
           | [_],h=>cases h
           | x :: z :: v,h=>simp at h
          ·simp at h
        ·simp only [Option.some.injEq,Prod.mk.injEq] at h
         exact h.2.1.symm
   obtain ⟨c1,c2,c3,c4,rfl⟩:=hc
   rcases hk with ((hk | hk) | hk) | hk
   ·exact c1 (hne 203 (by decide) hk)
   ·exact c3 (hne 221 (by decide) hk)
   ·exact c2 (hne 237 (by decide) hk)
   ·exact c4 (hne 253 (by decide) hk)
 ·exfalso
  obtain ⟨h0,hk⟩:=hk
  have h203:o=203:=hne 203 (by decide) hk
  subst h203
  have h34:(g:Int)=3∨(g:Int)=4:=by omega
  cases b with
  | nil=>cases h
  | cons c r=>
   simp only [hdB] at h
   split at h
   ·cases r <;> simp at h;omega
   ·split at h
    ·cases r <;> simp at h;omega
    ·split at h
     ·cases r with
      | nil=>cases h
      | cons y u=>
       simp only at h
       split at h
       ·match u,h with
        | [],h=>cases h
        | [_],h=>cases h
        | x :: z :: v,h=>simp at h;omega
       ·rename_i hy
        simp only [Option.some.injEq,Prod.mk.injEq] at h
        exact hy h.2.1
     ·split at h
      ·cases r with
       | nil=>cases h
       | cons y u=>
        simp only at h
        split at h
        ·match u,h with
         | [],h=>cases h
         | [_],h=>cases h
         | x :: z :: v,h=>simp at h;omega
        ·rename_i hy
         simp only [Option.some.injEq,Prod.mk.injEq] at h
         exact hy h.2.1
      ·simp only [Option.some.injEq,Prod.mk.injEq] at h;omega
theorem hd_len {b:Str} {p:Int} {o:UInt8} {t:Str} (h:hdB b=some (p,o,t)):(preS p).length+1≤b.length∧(5≤p→4≤b.length):=by
 obtain ⟨hp,hc⟩:=hd_inv h
 rcases hc with ⟨h5,rfl⟩ | ⟨h5,x,u,rfl,rfl⟩
 ·exact ⟨by rw [List.length_append,List.length_cons];omega,fun h=>absurd h h5⟩
 ·refine ⟨by rw [List.length_append,List.length_cons,List.length_cons];omega,fun _=>?_⟩
  have:(preS p).length=2:=by rcases (by omega:p=5∨p=6) with rfl | rfl <;> rfl
  rw [List.length_append,List.length_cons,List.length_cons]
  omega
theorem need_some {b:Str} {p:Int} {o:UInt8} {t:Str} (h:hdB b=some (p,o,t)):needR b=match ratT p o.toNat with | none=>if rkindT p o.toNat=0 then 1 else 2 | some x=>sizeT p x.2.2.1:=by
 unfold needR
 rw [h]
theorem hd_none {b:Str} (h:hdB b=none):b=[]∨(∃ c,b=[c]∧(c=203∨c=237∨c=221∨c=253))∨(∃ c,(c=221∨c=253)∧(b=[c,203]∨∃ x,b=[c,203,x])):=by
 cases b with
 | nil=>exact .inl rfl
 | cons c r=>
  simp only [hdB] at h
  refine .inr ?_
  split at h
  ·cases r with
   | nil=>exact .inl ⟨c,rfl,.inl ‹_›⟩
   | cons y u=>cases h
  ·split at h
   ·cases r with
    | nil=>exact .inl ⟨c,rfl,.inr (.inl ‹_›)⟩
    | cons y u=>cases h
   ·split at h
    ·rename_i hc
     cases r with
     | nil=>exact .inl ⟨c,rfl,.inr (.inr (.inl hc))⟩
     | cons y u=>
      simp only at h
      split at h
      ·rename_i hy
       subst hy
       match u,h with
       | [],h=>exact .inr ⟨c,.inl hc,.inl rfl⟩
       | [x],h=>exact .inr ⟨c,.inl hc,.inr ⟨x,rfl⟩⟩
       | x :: z :: v,h=>cases h
      ·cases h
    ·split at h
     ·rename_i hc
      cases r with
      | nil=>exact .inl ⟨c,rfl,.inr (.inr (.inr hc))⟩
      | cons y u=>
       simp only at h
       split at h
       ·rename_i hy
        subst hy
        match u,h with
        | [],h=>exact .inr ⟨c,.inr hc,.inl rfl⟩
        | [x],h=>exact .inr ⟨c,.inr hc,.inr ⟨x,rfl⟩⟩
        | x :: z :: v,h=>cases h
       ·cases h
     ·cases h
theorem trunc_iff {b:Str} (hb:b≠[]):(itR b).kind=4↔b.length<needR b:=by
 cases h:hdB b with
 | none=>
  have e:itR b=iteO 4 b:=by unfold itR;rw [h]
  rw [e]
  refine ⟨fun _=>?_,fun _=>rfl⟩
  rcases hd_none h with rfl | ⟨c,rfl,hc⟩ | ⟨c,hc,rfl | ⟨x,rfl⟩⟩
  ·exact absurd rfl hb
  ·rcases hc with rfl | rfl | rfl | rfl <;> decide
  ·rcases hc with rfl | rfl <;> decide
  ·rcases hc with rfl | rfl <;> (unfold needR;rw [h];simp)
 | some q=>
  obtain ⟨p,o,t⟩:=q
  have hl:=hd_len h
  rw [need_some h]
  unfold itR
  rw [h]
  simp only
  cases hr:ratT p o.toNat with
  | none=>
   simp only
   rcases hd_kind h hr with h0 | ⟨h3,rfl⟩
   ·rw [if_pos h0,if_pos h0]
    exact ⟨fun e=>(by cases e),fun e=>by omega⟩
   ·have hn0:¬rkindT 2 o.toNat=0:=by omega
    rw [if_neg hn0,if_neg hn0]
    have e2:(preS 2).length=1:=rfl
    exact ⟨fun e=>(by cases e),fun e=>by omega⟩
  | some x=>
   simp only
   by_cases hz:b.length<sizeT p x.2.2.1
   ·rw [if_pos hz];exact ⟨fun _=>hz,fun _=>rfl⟩
   ·rw [if_neg hz];exact ⟨fun e=>(by cases e),fun e=>absurd e hz⟩
end Go.Proofs.YtclhaejdjogfbaaGreatDoor
namespace Go.Proofs.YtclhaejdjogfbaaGreatDoor
open Go.RowKit Go.Shelf
theorem same_start (w:World) (s1 s2:ByteArray) (v1 v2:Value):∃ w0,(w.alloc (.cells #[.string s1,v1] 24)).alloc (.cells #[.string s2,v2] 24)=w0∧
  w0.heap[w.heap.size]?=some (.cells #[.string s1,v1] 24 (0,0))∧w0.heap[w.heap.size+1]?=some (.cells #[.string s2,v2] 24 (0,0))∧Below w.heap.size w w0:=by
 refine ⟨_,rfl,(Below.heap_alloc _ _ _ (by simp)).trans (World.alloc_heap_new w _),?_,((Below.refl _ w).alloc (Nat.le_refl _) _).alloc (by simp) _⟩
 have h:=World.alloc_heap_new (w.alloc (.cells #[.string s1,v1] 24)) (.cells #[.string s2,v2] 24)
 rw [World.size_alloc] at h
 exact h
theorem sB_inj {a b:Str} (h:sB a=sB b):a=b:=by
 have h2:(sB a).data.toList=(sB b).data.toList:=by rw [h]
 simpa [sB] using h2
theorem sB_ne (a b:Str) (h:a≠b):((sB a).toList == (sB b).toList)=false:=strB_ne fun e=>h (sB_inj e)
theorem rsame_any (m1 m2:Str) (A1 A2:Option Addr) (c1 c2:Nat) (L1 L2:List Tr) (h1:L1.length≤1000) (h2:L2.length≤1000) (w:World) (H1:OpsP w A1 L1) (H2:OpsP w A2 L2) :
  Calls Tryz.prog 12 #[.agg #[.string (sB m1),.slice A1 L1.length c1],.agg #[.string (sB m2),.slice A2 L2.length c2]] w fun e w'=>e=.returned (.bool (decide (m1=m2)&&decide (L1=L2)))∧Below w.heap.size w w':=by
 obtain ⟨r,hr⟩:=N9 ((decide (m1=m2)&&decide (L1=L2)))
 have HR:=J9 hr
 rw [hr]
 clear hr
 by_cases hm:m1=m2
 ·subst hm
  by_cases hl:L1.length=L2.length
  ·obtain ⟨w0,hw0,C1,C2,B0⟩:=same_start w (sB m1) (sB m1) (.slice A1 L1.length c1) (.slice A2 L2.length c2)
   obtain ⟨n,hn⟩:=N9 (L1.length)
   have HN:=J9 hn
   have HL:=J9 hl
   rw [← hl,hn] at C2 hw0
   rw [hn] at C1 h1
   rw [← hl,hn]
   have X1:=J9 (H1.below B0)
   have X2:=J9 (H2.below B0)
   have k0:=C9 C1 0
   have k1:=C9 C1 1
   have j0:=C9 C2 0
   have j1:=C9 C2 1
   have B0:=J9 B0
   have hq:=strB_eq (sB m1)
   clear H1 H2 C1 C2 hn hl h2
   go_enter Tryz.func12,Tryz.ntmps12
   go_wp2
   clear hw0
   go_loopw [5] (fun i wr=>∃ j q:Nat,j≤n∧i=.int .i64 j∧wr=w0.drewN q∧Hid (∀ k,k<j→∀ (a:k<L1.length) (b:k<L2.length),L1[k]=L2[k])) (fun i _=>n - (intOf i).toNat)
   case atStart=>exact ⟨0,0,Nat.zero_le _,rfl,rfl,fun k h=>by omega⟩
   case round=>
    obtain ⟨j,q,hj,rfl,rfl,R⟩:=hrel
    by_cases hlt:j<n
    ·have hj1:j<L1.length:=by have:=HN.out;omega
     have hj2:j<L2.length:=by have:=HL.out;omega
     obtain ⟨b1,o1,hA1,-,p0,p1,p2⟩:=X1.out.at_ hj1
     obtain ⟨b2,o2,hA2,-,q0,q1,q2⟩:=X2.out.at_ hj2
     subst hA1
     subst hA2
     by_cases he:L1[j]=L2[j]
     ·have R2:Hid (∀ k,k<j+1→∀ (a:k<L1.length) (b:k<L2.length),L1[k]=L2[k]):=fun k hk a b=>by
       by_cases e:k=j
       ·subst e;exact he
       ·exact R.out k (by omega) a b
      rw [he] at p0 p1 p2
      obtain ⟨⟨x0,x1,x2⟩,hx⟩:=N9 (L2[j])
      rw [hx] at p0 p1 p2 q0 q1 q2
      simp only at p0 p1 p2 q0 q1 q2
      clear he hx hj1 hj2 R
      go_wp2
      go_quiet (fail)
      go_wp2
      go_roundw
      case rel=>exact ⟨j+1,q+nq,by omega,by go_num,rfl,R2.out⟩
      case measure=>simp [intOf];omega
     ·have T:Hid (false=r):=by show false=r;rw [← HR.out,decide_eq_false (fun e=>he (by simp only [e]):¬L1=L2),Bool.and_false]
      have hne:=tr_ne he
      obtain ⟨⟨x0,x1,x2⟩,hx⟩:=N9 (L1[j])
      obtain ⟨⟨y0,y1,y2⟩,hy⟩:=N9 (L2[j])
      rw [hx] at p0 p1 p2 hne
      rw [hy] at q0 q1 q2 hne
      simp only at p0 p1 p2 q0 q1 q2 hne
      clear he hx hy hj1 hj2 R
      rcases hne with hne | ⟨rfl,hne⟩ | ⟨rfl,rfl,hne⟩
      all_goals
       go_wp2
       go_quiet (fail)
       go_wp2
       go_ret
       exact ⟨ret_bool T.out,B0.out.trans ((below_drewN w0 _ q).trans (below_drewN _ _ nq))⟩
    ·have T:Hid (true=r):=by
      have e:L1=L2:=List.ext_getElem HL.out fun k a b=>R.out k (by have:=HN.out;omega) a b
      show true=r
      rw [← HR.out,decide_eq_true e]
      rfl
     go_wp2
     go_ret
     exact ⟨ret_bool T.out,B0.out.trans (below_drewN w0 w.heap.size q)⟩
  ·have T:Hid (false=r):=by show false=r;rw [← HR.out,decide_eq_false (fun e=>hl (by rw [e]):¬L1=L2),Bool.and_false]
   have hq:=strB_eq (sB m1)
   have hne:((L1.length:Int) == (L2.length:Int))=false:=beq_eq_false_iff_ne.2 fun e=>hl (by omega)
   have hne2:((L1.length:Int) != (L2.length:Int))=true:=by unfold bne;rw [hne];rfl
   clear H1 H2
   go_enter Tryz.func12,Tryz.ntmps12
   go_wp2
   go_ret
   exact ⟨ret_bool T.out,((Below.refl _ w).alloc (Nat.le_refl _) _).alloc (by simp) _⟩
 ·have T:Hid (false=r):=by show false=r;rw [← HR.out,decide_eq_false hm,Bool.false_and]
  have hq:=sB_ne m1 m2 hm
  clear H1 H2
  go_enter Tryz.func12,Tryz.ntmps12
  go_wp2
  go_ret
  exact ⟨ret_bool T.out,((Below.refl _ w).alloc (Nat.le_refl _) _).alloc (by simp) _⟩
end Go.Proofs.YtclhaejdjogfbaaGreatDoor
namespace Go.Proofs.YtclhaejdjogfbaaGreatDoor
open Go.RowKit Go.Shelf
theorem rprefixes_1 (w:World):Calls Tryz.prog 49 #[.int .i64 1] w (RetB w [203]):=by
 have O:=J9 (own_lit w [203] (by decide))
 go_enter Tryz.func49,Tryz.ntmps49
 go_wp2
 go_ret
 exact ⟨_,rfl,O.out,(Below.refl _ _).alloc (Nat.le_refl _) _⟩
theorem rprefixes_2 (w:World):Calls Tryz.prog 49 #[.int .i64 2] w (RetB w [237]):=by
 have O:=J9 (own_lit w [237] (by decide))
 go_enter Tryz.func49,Tryz.ntmps49
 go_wp2
 go_ret
 exact ⟨_,rfl,O.out,(Below.refl _ _).alloc (Nat.le_refl _) _⟩
theorem rprefixes_3 (w:World):Calls Tryz.prog 49 #[.int .i64 3] w (RetB w [221]):=by
 have O:=J9 (own_lit w [221] (by decide))
 go_enter Tryz.func49,Tryz.ntmps49
 go_wp2
 go_ret
 exact ⟨_,rfl,O.out,(Below.refl _ _).alloc (Nat.le_refl _) _⟩
theorem rprefixes_4 (w:World):Calls Tryz.prog 49 #[.int .i64 4] w (RetB w [253]):=by
 have O:=J9 (own_lit w [253] (by decide))
 go_enter Tryz.func49,Tryz.ntmps49
 go_wp2
 go_ret
 exact ⟨_,rfl,O.out,(Below.refl _ _).alloc (Nat.le_refl _) _⟩
theorem rprefixes_5 (w:World):Calls Tryz.prog 49 #[.int .i64 5] w (RetB w [221,203]):=by
 have O:=J9 (own_lit w [221,203] (by decide))
 go_enter Tryz.func49,Tryz.ntmps49
 go_wp2
 go_ret
 exact ⟨_,rfl,O.out,(Below.refl _ _).alloc (Nat.le_refl _) _⟩
theorem rprefixes_6 (w:World):Calls Tryz.prog 49 #[.int .i64 6] w (RetB w [253,203]):=by
 have O:=J9 (own_lit w [253,203] (by decide))
 go_enter Tryz.func49,Tryz.ntmps49
 go_wp2
 go_ret
 exact ⟨_,rfl,O.out,(Below.refl _ _).alloc (Nat.le_refl _) _⟩
theorem rprefixes_any (page:Int) (w:World):Calls Tryz.prog 49 #[.int .i64 page] w (RetB w (preS page)):=by
 unfold preS
 by_cases h1:page=1
 ·rw [if_pos h1];subst h1;exact rprefixes_1 w
 by_cases h2:page=2
 ·rw [if_neg h1,if_pos h2];subst h2;exact rprefixes_2 w
 by_cases h3:page=3
 ·rw [if_neg h1,if_neg h2,if_pos h3];subst h3;exact rprefixes_3 w
 by_cases h4:page=4
 ·rw [if_neg h1,if_neg h2,if_neg h3,if_pos h4];subst h4;exact rprefixes_4 w
 by_cases h5:page=5
 ·rw [if_neg h1,if_neg h2,if_neg h3,if_neg h4,if_pos h5];subst h5;exact rprefixes_5 w
 by_cases h6:page=6
 ·rw [if_neg h1,if_neg h2,if_neg h3,if_neg h4,if_neg h5,if_pos h6];subst h6;exact rprefixes_6 w
 rw [if_neg h1,if_neg h2,if_neg h3,if_neg h4,if_neg h5,if_neg h6]
 have e1:(page == 1)=false:=by simpa using h1
 have e2:(page == 2)=false:=by simpa using h2
 have e3:(page == 3)=false:=by simpa using h3
 have e4:(page == 4)=false:=by simpa using h4
 have e5:(page == 5)=false:=by simpa using h5
 have e6:(page == 6)=false:=by simpa using h6
 clear h1 h2 h3 h4 h5 h6
 go_enter Tryz.func49,Tryz.ntmps49
 go_wp2
 go_ret
 exact ⟨_,rfl,World.ownsRow_nil _ _ _ _,Below.refl _ _⟩
theorem BytesAt.at_ {w:World} {A:Option Addr} {L:Str} (h:BytesAt w A L) {k:Nat} (hk:k<L.length):∃ b off,A=some ⟨b,off,none⟩∧w.cell? ⟨b,off+k,none⟩=some (.int .u8 (L[k].toNat:Int)):=by
 rcases h with rfl | ⟨b,off,rfl,hc⟩
 ·simp at hk
 ·exact ⟨b,off,rfl,hc k hk⟩
theorem equalU_any (A1 A2:Option Addr) (c1 c2:Nat) (L1 L2:Str) (h1:L1.length≤maxLen) (h2:L2.length≤maxLen) (w:World) (H1:BytesAt w A1 L1) (H2:BytesAt w A2 L2) :
  Calls Tryz.prog 15 #[.slice A1 L1.length c1,.slice A2 L2.length c2] w fun e w'=>e=.returned (.bool (decide (L1=L2)))∧Below w.heap.size w w':=by
 unfold maxLen at h1 h2
 by_cases hl:L1.length=L2.length
 ·have X1:=J9 H1
  have X2:=J9 H2
  have HL:=J9 hl
  obtain ⟨n,hn⟩:=N9 (L1.length)
  have HN:=J9 hn
  rw [hn] at h1
  rw [← hl,hn]
  clear H1 H2 hl h2 hn
  go_enter Tryz.func15,Tryz.ntmps15
  go_wp2
  go_loopw [13] (fun i wr=>∃ j:Nat,j≤n∧i=.int .i64 j∧Hid (∀ k,k<j→∀ (a:k<L1.length) (b:k<L2.length),L1[k]=L2[k])∧Hid (Below w.heap.size w wr)) (fun i _=>n - (intOf i).toNat)
  case atStart=>exact ⟨0,Nat.zero_le _,rfl,fun k h=>by omega,Below.refl _ _⟩
  case round=>
   obtain ⟨j,hj,rfl,R,B⟩:=hrel
   by_cases hlt:j<n
   ·have hj1:j<L1.length:=by have:=HN.out;omega
    have hj2:j<L2.length:=by have:=HL.out;omega
    obtain ⟨b1,o1,hA1,p0⟩:=(X1.out.below B.out).at_ hj1
    obtain ⟨b2,o2,hA2,q0⟩:=(X2.out.below B.out).at_ hj2
    subst hA1
    subst hA2
    have B2:=fun q=>J9 (B.out.trans (below_drewN wr w.heap.size q))
    by_cases he:L1[j]=L2[j]
    ·have R2:Hid (∀ k,k<j+1→∀ (a:k<L1.length) (b:k<L2.length),L1[k]=L2[k]):=fun k hk a b=>by
      by_cases e:k=j
      ·subst e;exact he
      ·exact R.out k (by omega) a b
     rw [he] at p0
     clear he hj1 R
     go_wp2
     go_quiet (fail)
     go_wp2
     go_roundw
     case rel=>exact ⟨j+1,by omega,by go_num,R2.out,(B2 _).out⟩
     case measure=>simp [intOf];omega
    ·have T:Hid (false=decide (L1=L2)):=(decide_eq_false (fun e=>he (by simp only [e]))).symm
     have hne:((L1[j].toNat:Int) == (L2[j].toNat:Int))=false:=by
      refine beq_eq_false_iff_ne.2 fun e=>he (UInt8.toNat_inj.1 (by omega))
     have hne2:((L1[j].toNat:Int) != (L2[j].toNat:Int))=true:=by unfold bne;rw [hne];rfl
     clear he R
     go_wp2
     go_quiet (fail)
     go_wp2
     go_ret
     exact ⟨ret_bool T.out,(B2 _).out⟩
   ·have T:Hid (true=decide (L1=L2)):=by
     refine (decide_eq_true (List.ext_getElem HL.out fun k a b=>?_)).symm
     exact R.out k (by have:=HN.out;omega) a b
    go_wp2
    go_ret
    exact ⟨ret_bool T.out,B.out⟩
 ·have T:Hid (false=decide (L1=L2)):=(decide_eq_false (fun e=>hl (by rw [e]))).symm
  have hne:((L1.length:Int) == (L2.length:Int))=false:=by
   refine beq_eq_false_iff_ne.2 fun e=>hl (by omega)
  have hne2:((L1.length:Int) != (L2.length:Int))=true:=by unfold bne;rw [hne];rfl
  go_enter Tryz.func15,Tryz.ntmps15
  go_wp2
  go_ret
  exact ⟨ret_bool T.out,Below.refl _ _⟩
end Go.Proofs.YtclhaejdjogfbaaGreatDoor
namespace Go.Proofs.YtclhaejdjogfbaaGreatDoor
open Go.RowKit Go.Shelf
def rsumN (l:Str):Nat→Nat
 | 0=>0
 | k+1=>if l[k]?.getD 0=119 then rsumN l k+2 else rsumN l k+1
theorem rsumN_le (l:Str):∀ k,rsumN l k≤2*k
 | 0=>Nat.le_refl _
 | k+1=>by
  have:=rsumN_le l k
  unfold rsumN
  split <;> omega
def rsizeT (page:Int) (ex:Str):Nat:=(preS page).length+1+rsumN ex ex.length
theorem rsize_any (page op:Int) (m:Str) (A:Option Addr) (n cap:Nat) (ex:Str) (hx:ex.length≤1000) (al:Bool) (w:World) :
  Calls Tryz.prog 28 #[enV page op m (.slice A n cap) ex al] w fun e w'=>e=.returned (.int .i64 (rsizeT page ex:Nat))∧Below w.heap.size w w':=by
 unfold enV
 obtain ⟨s,hs⟩:=N9 (sB ex)
 have hz:s.size=ex.length:=by rw [← hs,sB_size]
 have hat:∀ k (h:k<s.size) (h':k<ex.length),s[k]=ex[k]:=fun k h h'=>by subst hs;exact sB_at ex k h h'
 have HAT:=J9 hat
 obtain ⟨l,hl⟩:=N9 (ex.length)
 have HL:=J9 hl
 rw [hl] at hz hx
 rw [hs]
 clear hs hat hl
 obtain ⟨w0,hw0⟩:=N9 (w.alloc (.cells #[.int .i64 page,.int .u8 op,.string (sB m),.slice A n cap,.string s,.bool al] 63))
 obtain ⟨b,hb⟩:=N9 (w.heap.size)
 have B0:Hid (Below b w w0):=by rw [← hw0,← hb];exact (Below.refl _ _).alloc (Nat.le_refl _) _
 have Z0:w0.heap.size=b+1:=by rw [← hw0,← hb];simp
 have c0:w0.heap[b]?=some (.cells #[.int .i64 page,.int .u8 op,.string (sB m),.slice A n cap,.string s,.bool al] 63 (0,0)):=by rw [← hw0,← hb];exact World.alloc_heap_new w _
 have C0:=J9 c0
 have hpp:=rprefixes_any page w0
 have k0:=C9 c0 0
 have HB:=J9 hb
 have HPL:=J9 (pre_le page)
 obtain ⟨pl,hpl⟩:=N9 ((preS page).length)
 have HP:=J9 hpl
 have HZ:=J9 hz
 clear c0
 go_enter Tryz.func28,Tryz.ntmps28
 go_wp2_with fail
 refine hpp.mono ?_
 rintro e w1 ⟨v,rfl,hO,hb1⟩
 obtain ⟨A1,cap1,rfl,-⟩:=hO.bytes
 rw [hpl]
 have B1:Hid (Below b w w1):=B0.out.trans (hb1.mono (by omega))
 have c1:=(hb1.block b (by omega)).trans C0.out
 have C1:=J9 c1
 have k4:=C9 c1 4
 have hp2:pl≤2:=by rw [← hpl];exact HPL.out
 clear hpp hO hb1 c1 k0 hw0 B0 C0 hpl Z0
 go_wp2
 clear k4
 go_loopw [4,3] (fun i o wr=>∃ k:Nat,k≤l∧i=.int .i64 k∧o=.int .i64 ((pl+1+rsumN ex k:Nat):Int)∧wr=w1) (fun i _ _=>l - (intOf i).toNat)
 case atStart=>exact ⟨0,Nat.zero_le _,rfl,rfl,rfl⟩
 case round=>
  obtain ⟨k,hk,rfl,rfl,rfl⟩:=hrel
  have k4:=C9 C1.out 4
  by_cases hlt:k<l
  ·have hlt':k<s.size:=by omega
   have hlt2:k<ex.length:=by rw [HL.out];exact hlt
   have SL:=rsumN_le ex k
   have hc:ex[k]?.getD 0=s[k]:=by rw [List.getElem?_eq_getElem hlt2,Option.getD_some];exact (HAT.out k hlt' hlt2).symm
   have HC:=J9 hc
   obtain ⟨t,ht⟩:=N9 (rsumN ex k)
   rw [ht] at SL ⊢
   have HT:=J9 ht
   clear hc ht
   have hk1:k≤1000:=by omega
   by_cases h119:s[k]=119
   ·have SS:Hid (rsumN ex (k+1)=t+2):=by show rsumN ex (k+1)=_;rw [rsumN,if_pos (HC.out.trans h119),HT.out]
    have hv:s[k].toNat=119:=by rw [h119];rfl
    clear h119
    go_wp2
    go_roundw
    case rel=>exact ⟨k+1,by omega,by go_num,by rw [SS.out];go_num,trivial⟩
    case measure=>simp [intOf];omega
   ·have SS:Hid (rsumN ex (k+1)=t+1):=by show rsumN ex (k+1)=_;rw [rsumN,if_neg (by rw [HC.out];exact h119),HT.out]
    have hv:((s[k].toNat:Int) == 119)=false:=by
     simp
     intro h
     exact h119 (UInt8.toNat_inj.1 (by rw [show (119:UInt8).toNat=119 from rfl];omega))
    clear h119
    go_wp2
    go_roundw
    case rel=>exact ⟨k+1,by omega,by go_num,by rw [SS.out];go_num,trivial⟩
    case measure=>simp [intOf];omega
  ·obtain rfl:k=l:=by omega
   have T:Hid (rsizeT page ex=pl+1+rsumN ex k):=by show rsizeT page ex=_;unfold rsizeT;rw [HP.out,HL.out]
   go_wp2
   go_ret
   exact ⟨by rw [T.out];rfl,by rw [HB.out];exact B1.out⟩
end Go.Proofs.YtclhaejdjogfbaaGreatDoor
namespace Go.Proofs.YtclhaejdjogfbaaGreatDoor
open Go.RowKit
def stepL (c:UInt8) (t:Str) (s:Int×Int):Int×Int:=
 if c=100 then (sgB (t.getD 0 0),s.2) else if c=101 then (s.1,sgB (t.getD 0 0)) else if c=110 then (s.1,((t.getD 0 0).toNat:Int)) else if c=119 then (s.1,((t.getD 0 0).toNat:Int)+256*((t.getD 1 0).toNat:Int)) else s
def stJ (ex:Str) (b:Str) (nx:Nat):Nat→Int×Int
 | 0=>(0,0)
 | j+1=>stepL (ex.getD j 0) (b.drop (nx+j)) (stJ ex b nx j)
theorem sz_same {g:Int} {i:Nat} {ex:Str} (hx:ExP g i ex):rsizeT g ex=sizeT g ex:=by
 obtain ⟨h0,h6⟩:=hx.pg
 rcases (by omega:g=0∨g=1∨g=2∨g=3∨g=4∨g=5∨g=6) with rfl | rfl | rfl | rfl | rfl | rfl | rfl <;> rcases hx.lst with rfl | rfl | rfl | rfl | rfl | rfl <;> decide
theorem getD_drop (b:Str) (k j:Nat):(b.drop k).getD j 0=b.getD (k+j) 0:=by
 rw [List.getD_eq_getElem?_getD,List.getD_eq_getElem?_getD,List.getElem?_drop]
theorem st_num {b:Str} {g:Int} {i:Nat} {ex:Str} (hx:ExP g i ex) (hg:(pgA b).1=g) (h:(pgA b).2<b.length) :
  stJ ex b (nxA b) ex.length=numB ex (if 5≤(pgA b).1 then b.getD 2 0 :: b.drop 4 else b.drop ((pgA b).2+1)):=by
 unfold nxA
 rw [hg]
 by_cases h5:5≤g
 ·rw [if_pos h5,if_pos h5]
  obtain rfl:=hx.hi h5
  rw [num_d]
  show stepL 100 (b.drop 2) (0,0)=_
  simp only [stepL,if_true,getD_drop,List.getD_cons_zero]
 ·rw [if_neg h5,if_neg h5]
  generalize (pgA b).2+1=nx
  rcases hx.lst with rfl | rfl | rfl | rfl | rfl | rfl
  ·rw [num_0];rfl
  ·rw [num_d];rfl
  ·rw [num_e];rfl
  ·rw [num_n];rfl
  ·rw [num_w];rfl
  ·rw [num_dn]
   show stepL 110 (b.drop (nx+1)) (stepL 100 (b.drop (nx+0)) (0,0))=_
   have e1:stepL 100 (b.drop (nx+0)) (0,0)=(sgB ((b.drop nx).getD 0 0),0):=by unfold stepL;rw [if_pos rfl];rfl
   rw [e1]
   unfold stepL
   rw [if_neg (by decide),if_neg (by decide),if_pos rfl]
   simp only [getD_drop,Nat.add_zero]
theorem st_bnd {b:Str} {g:Int} {i:Nat} {ex:Str} (hx:ExP g i ex) (hg:(pgA b).1=g) (hz:sizeT g ex≤b.length) :
  ∀ j (hj:j<ex.length),nxA b+j<b.length∧(ex[j]=119→nxA b+j+1<b.length)∧(ex[j]=100∨ex[j]=101∨ex[j]=110∨ex[j]=119):=by
 obtain ⟨h0,h6⟩:=hx.pg
 obtain ⟨-,hp3,hp5⟩:=pg_rng b
 have hat:(pgA b).2=(if 5≤g then 3 else (preS g).length):=by
  cases b with
  | nil=>rw [← hg];decide
  | cons c r=>
   rw [← hg]
   simp only [pgA]
   repeat' split
   all_goals first | rfl | (simp_all;done) | (exfalso;revert hg;simp_all;done) | decide
 unfold nxA
 rw [hg]
 by_cases h5:5≤g
 ·rw [if_pos h5]
  have he:=hx.hi h5
  subst he
  have hs:sizeT g [100]=4:=by rcases (by omega:g=5∨g=6) with rfl | rfl <;> rfl
  intro j hj
  obtain rfl:j=0:=by simp at hj;omega
  exact ⟨by omega,fun e=>absurd (show (100:UInt8)=119 from e) (by decide),.inl rfl⟩
 ·rw [if_neg h5] at hat ⊢
  rw [hat]
  have hs:sizeT g ex=(preS g).length+1+sumN ex ex.length:=rfl
  rw [hs] at hz
  rcases hx.lst with rfl | rfl | rfl | rfl | rfl | rfl
  ·intro j hj;simp at hj
  ·have:sumN [100] [100].length=1:=rfl
   intro j hj
   obtain rfl:j=0:=by simp at hj;omega
   exact ⟨by omega,fun e=>absurd (show (100:UInt8)=119 from e) (by decide),.inl rfl⟩
  ·have:sumN [101] [101].length=1:=rfl
   intro j hj
   obtain rfl:j=0:=by simp at hj;omega
   exact ⟨by omega,fun e=>absurd (show (101:UInt8)=119 from e) (by decide),.inr (.inl rfl)⟩
  ·have:sumN [110] [110].length=1:=rfl
   intro j hj
   obtain rfl:j=0:=by simp at hj;omega
   exact ⟨by omega,fun e=>absurd (show (110:UInt8)=119 from e) (by decide),.inr (.inr (.inl rfl))⟩
  ·have:sumN [119] [119].length=2:=rfl
   intro j hj
   obtain rfl:j=0:=by simp at hj;omega
   exact ⟨by omega,fun e=>by omega,.inr (.inr (.inr rfl))⟩
  ·have:sumN [100,110] [100,110].length=2:=rfl
   intro j hj
   simp only [List.length_cons,List.length_nil] at hj
   have hj2:j=0∨j=1:=by omega
   rcases hj2 with rfl | rfl
   ·exact ⟨by omega,fun e=>absurd (show (100:UInt8)=119 from e) (by decide),.inl rfl⟩
   ·exact ⟨by omega,fun e=>absurd (show (110:UInt8)=119 from e) (by decide),.inr (.inr (.inl rfl))⟩
end Go.Proofs.YtclhaejdjogfbaaGreatDoor
namespace Go.Proofs.YtclhaejdjogfbaaGreatDoor
open Go.RowKit Go.Shelf
attribute [local go_sem] Oper.semAt_some
theorem raw_need {b:Str} (hb:b≠[]) (h:(itR b).kind≠4):(itR b).raw.length=needR b:=by
 have hl:1≤b.length:=by cases b;exact absurd rfl hb;simp
 have ht:=mt (trunc_iff hb).2 h
 obtain ⟨e,he⟩:=N9 (hdB b)
 cases e with
 | none=>exact absurd (by unfold itR;rw [he];rfl) h
 | some q=>
  obtain ⟨p,o,t⟩:=q
  rw [need_some he] at ht ⊢
  have hi:itR b=match ratT p o.toNat with
   | none=>if rkindT p o.toNat=0 then iteO 2 (b.take 1) else iteO 3 (b.take 2)
   | some x=>if b.length<sizeT p x.2.2.1 then iteO 4 b else ⟨1,b.take (sizeT p x.2.2.1),x.1,(fillV x.2.2.1 x.2.1 (numB x.2.2.1 t).1 (numB x.2.2.1 t).2).getD [],x.2.2.2⟩:=by
   unfold itR
   rw [he]
   try rfl
  rw [hi]
  cases hx:ratT p o.toNat with
  | none=>
   rw [hx] at ht
   simp only at ht ⊢
   by_cases h0:rkindT p o.toNat=0
   ·rw [if_pos h0,if_pos h0]
    show (b.take 1).length=1
    rw [List.length_take];omega
   ·rw [if_neg h0,if_neg h0]
    rw [if_neg h0] at ht
    show (b.take 2).length=2
    rw [List.length_take];omega
  | some x=>
   rw [hx] at ht
   simp only at ht ⊢
   rw [if_neg ht]
   show (b.take _).length=_
   rw [List.length_take];omega
end Go.Proofs.YtclhaejdjogfbaaGreatDoor
namespace Go.Proofs.YtclhaejdjogfbaaGreatDoor
open Go.RowKit Go.Shelf
attribute [local irreducible] Go.Mixed.wpMix
def lenE (x:En):Bool:=decide (x.1.length≤10)&&decide (x.2.1.length≤3)&&decide (x.2.2.1.length≤3)
def lenN (p n:Nat):Bool:=match atN p n with | some x=>lenE x | none=>kindT p n == rkindT p n
theorem len_0:∀ n:Fin 256,lenN 0 n.val=true:=by decide +kernel
theorem len_1:∀ n:Fin 256,lenN 1 n.val=true:=by decide +kernel
theorem len_2:∀ n:Fin 256,lenN 2 n.val=true:=by decide +kernel
theorem len_3:∀ n:Fin 256,lenN 3 n.val=true:=by decide +kernel
theorem len_4:∀ n:Fin 256,lenN 4 n.val=true:=by decide +kernel
theorem len_5:∀ n:Fin 256,lenN 5 n.val=true:=by decide +kernel
theorem len_6:∀ n:Fin 256,lenN 6 n.val=true:=by decide +kernel
theorem len_all (p n:Nat) (hp:p<7) (hn:n<256):lenN p n=true:=by
 rcases (by omega:p=0∨p=1∨p=2∨p=3∨p=4∨p=5∨p=6) with rfl | rfl | rfl | rfl | rfl | rfl | rfl
 ·exact len_0 ⟨n,hn⟩
 ·exact len_1 ⟨n,hn⟩
 ·exact len_2 ⟨n,hn⟩
 ·exact len_3 ⟨n,hn⟩
 ·exact len_4 ⟨n,hn⟩
 ·exact len_5 ⟨n,hn⟩
 ·exact len_6 ⟨n,hn⟩
theorem ok_none {page:Int} {n:Nat} (hn:n<256) (h:ratT page n=none):kindT page n=rkindT page n:=by
 by_cases hp:0≤page∧page≤6
 ·obtain ⟨p,rfl⟩:∃ p:Nat,page=p:=⟨page.toNat,by omega⟩
  have h1:=len_all p n (by omega) hn
  rw [← at_same _ n hn,atN_eq p n hn] at h
  unfold lenN at h1
  rw [h] at h1
  exact eq_of_beq h1
 ·unfold kindT rkindT
  rw [if_pos (by omega),if_neg (by omega),if_neg (by omega),if_neg (by omega)]
end Go.Proofs.YtclhaejdjogfbaaGreatDoor
