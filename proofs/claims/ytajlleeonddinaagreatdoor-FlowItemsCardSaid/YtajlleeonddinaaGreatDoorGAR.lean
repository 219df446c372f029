/-
  SeVb, TbV, EnA, DeA, DeB, DeD, DiA, FlA, SeRa, SeRb, SeRc, SeRd, CnW, CnV, CnD.
-/
import Derived.Test.YtajlleeonddinaaGreatDoorGAF
import Derived.Test.YtajlleeonddinaaGreatDoorMSeN
import Derived.Test.YtajlleeonddinaaGreatDoorGAJ
import Derived.Test.YtajlleeonddinaaGreatDoorGAE
import Derived.Test.YtajlleeonddinaaGreatDoorGAA
import Derived.Deep.DeepCutAuto
import Derived.Test.YtajlleeonddinaaGreatDoorGAH
import Derived.Test.YtajlleeonddinaaGreatDoorGAC
set_option linter.all false
set_option maxRecDepth 100000
set_option maxHeartbeats 4000000
namespace Go.Proofs.YtajlleeonddinaaGreatDoor
open Go.RowKit
end Go.Proofs.YtajlleeonddinaaGreatDoor
namespace Go.Proofs.YtajlleeonddinaaGreatDoor
open Go.RowKit Go.Shelf
attribute [local go_sem] Oper.semAt_some
def letN (c:UInt8):Nat:=if c=100∨c=101∨c=110 then 1 else if c=119 then 2 else 0
def sumN (ex:Str) (k:Nat):Nat:=((ex.take k).map letN).sum
theorem sumN_succ (ex:Str) (k:Nat) (h:k<ex.length):sumN ex (k+1)=sumN ex k+letN ex[k]:=by
 unfold sumN
 rw [List.take_succ_eq_append_getElem h,List.map_append,List.sum_append]
 simp
theorem letN_le (c:UInt8):letN c≤2:=by
 unfold letN
 split
 ·omega
 ·split <;> omega
theorem sumN_le (ex:Str):∀ k,k≤ex.length→sumN ex k≤2*k
 | 0,_=>by unfold sumN;simp
 | k+1,h=>by
  rw [sumN_succ ex k (by omega)]
  have h1:=sumN_le ex k (by omega)
  have h2:=letN_le ex[k]
  omega
def sizeT (page:Int) (ex:Str):Nat:=(preS page).length+1+sumN ex ex.length
theorem pre_le (page:Int):(preS page).length≤2:=by
 unfold preS
 repeat' split
 all_goals simp
theorem size_any (page op:Int) (m:Str) (A:Option Addr) (n cap:Nat) (ex:Str) (hx:ex.length≤1000) (al:Bool) (w:World) :
  Calls Tryz.prog 186 #[enV page op m (.slice A n cap) ex al] w fun e w'=>e=.returned (.int .i64 (sizeT page ex:Nat))∧Below w.heap.size w w':=by
 unfold enV
 obtain ⟨s,hs⟩:∃ s,sB ex=s:=⟨_,rfl⟩
 have hz:s.size=ex.length:=by rw [← hs,sB_size]
 have hat:∀ k (h:k<s.size) (h':k<ex.length),s[k]=ex[k]:=fun k h h'=>by subst hs;exact sB_at ex k h h'
 have HAT:=Lib.hid hat
 have HX:=Lib.hid hx
 obtain ⟨l,hl⟩:∃ l,ex.length=l:=⟨_,rfl⟩
 have HL:=Lib.hid hl
 rw [hl] at hz hx
 have hcv:=fun (w:World)=>run_bytes_of_string (P:=Tryz.prog) w 9 38 5 s Tryz.underlying9 Tryz.underlying38 Tryz.underlying5
 rw [hs]
 clear hs hat hl
 obtain ⟨w0,hw0⟩:∃ w0,w.alloc (.cells #[.int .i64 page,.int .u8 op,.string (sB m),.slice A n cap,.string s,.bool al] 134)=w0:=⟨_,rfl⟩
 obtain ⟨b,hb⟩:∃ b,w.heap.size=b:=⟨_,rfl⟩
 have B0:Hid (Below b w w0):=by rw [← hw0,← hb];exact (Below.refl _ _).alloc (Nat.le_refl _) _
 have Z0:w0.heap.size=b+1:=by rw [← hw0,← hb];simp
 have c0:w0.heap[b]?=some (.cells #[.int .i64 page,.int .u8 op,.string (sB m),.slice A n cap,.string s,.bool al] 134 (0,0)):=by rw [← hw0,← hb];exact World.alloc_heap_new w _
 have C0:=Lib.hid c0
 have hpp:=prefixes_any page w0
 have k0:=Lib.cell_of_heap c0 0
 have HB:=Lib.hid hb
 have HPL:=Lib.hid (pre_le page)
 obtain ⟨pl,hpl⟩:∃ p,(preS page).length=p:=⟨_,rfl⟩
 have HP:=Lib.hid hpl
 clear c0
 go_enter Tryz.func186,Tryz.ntmps186
 go_wp2_with fail
 refine hpp.mono ?_
 rintro e w1 ⟨v,rfl,hO,hb1⟩
 obtain ⟨A1,cap1,rfl,-⟩:=hO.bytes
 rw [hpl]
 have B1:Hid (Below b w w1):=B0.out.trans (hb1.mono (by omega))
 have c1:=(hb1.block b (by omega)).trans C0.out
 have C1:=Lib.hid c1
 have k4:=Lib.cell_of_heap c1 4
 have hp2:pl≤2:=by rw [← hpl];exact HPL.out
 have S:=Lib.hid (rowB_start w1 s (grownCap w1 s.size 0 5) 5)
 have B2:Hid (Below b w (w1.alloc (.cells (bytesRow s (grownCap w1 s.size 0 5)) 5 ((bytesRow s (grownCap w1 s.size 0 5)).size,(bytesRow s (grownCap w1 s.size 0 5)).size+1))).drew):=
  (B1.out.alloc (by have:=hb1.size;omega) _).drew
 rw [hz] at S B2
 obtain ⟨q,hq⟩:∃ q,w1.heap.size=q:=⟨_,rfl⟩
 rw [hq] at S
 clear hpp hO hb1 c1 k0 hw0 B0 C0 hpl
 go_wp2
 clear hcv
 go_loopw [15,3] (fun i o wr=>∃ k:Nat,k≤l∧i=.int .i64 k∧o=.int .i64 ((pl+1+sumN ex k:Nat):Int)∧Hid (RowB wr s q)∧Hid (Below b w wr)) (fun i _ _=>l - (intOf i).toNat)
 case atStart=>exact ⟨0,Nat.zero_le _,rfl,rfl,S.out,B2.out⟩
 case round=>
  clear S B2
  obtain ⟨k,hk,rfl,rfl,R,B⟩:=hrel
  by_cases hlt:k<l
  ·have hlt':k<s.size:=by omega
   have hlt2:k<ex.length:=by rw [HL.out];exact hlt
   have g1:wr.cell? ⟨q,k,none⟩=some (.int .u8 (s[k].toNat:Int)):=R.out k hlt'
   rw [HAT.out k hlt' hlt2] at g1
   have SS:=sumN_succ ex k hlt2
   have SL:=sumN_le ex k (by omega)
   obtain ⟨c,hc⟩:∃ c,ex[k]=c:=⟨_,rfl⟩
   rw [hc] at g1 SS
   obtain ⟨t,ht⟩:∃ t,sumN ex k=t:=⟨_,rfl⟩
   rw [ht] at SS SL ⊢
   have SS:=Lib.hid SS
   clear hc ht
   have hk1:k≤1000:=by omega
   go_wp2
   ·have e:c=100:=of_decide_eq_true (u8_is c 100 (by decide) true (by assumption))
    have LN:letN c=1:=by rw [e];rfl
    go_roundw
    case rel=>exact ⟨k+1,by omega,by go_num,by rw [SS.out,LN];go_num,R,B⟩
    case measure=>simp [intOf];omega
   ·have e:c=101:=of_decide_eq_true (u8_is c 101 (by decide) true (by assumption))
    have LN:letN c=1:=by rw [e];rfl
    go_roundw
    case rel=>exact ⟨k+1,by omega,by go_num,by rw [SS.out,LN];go_num,R,B⟩
    case measure=>simp [intOf];omega
   ·have e:c=110:=of_decide_eq_true (u8_is c 110 (by decide) true (by assumption))
    have LN:letN c=1:=by rw [e];rfl
    go_roundw
    case rel=>exact ⟨k+1,by omega,by go_num,by rw [SS.out,LN];go_num,R,B⟩
    case measure=>simp [intOf];omega
   ·have e:c=119:=of_decide_eq_true (u8_is c 119 (by decide) true (by assumption))
    have LN:letN c=2:=by rw [e];rfl
    go_roundw
    case rel=>exact ⟨k+1,by omega,by go_num,by rw [SS.out,LN];go_num,R,B⟩
    case measure=>simp [intOf];omega
   ·have a1:¬c=100:=of_decide_eq_false (u8_is c 100 (by decide) false (by assumption))
    have a2:¬c=101:=of_decide_eq_false (u8_is c 101 (by decide) false (by assumption))
    have a3:¬c=110:=of_decide_eq_false (u8_is c 110 (by decide) false (by assumption))
    have a4:¬c=119:=of_decide_eq_false (u8_is c 119 (by decide) false (by assumption))
    have LN:letN c=0:=by unfold letN;rw [if_neg (by rintro (h | h | h) <;> contradiction),if_neg a4]
    go_roundw
    case rel=>exact ⟨k+1,by omega,by go_num,by rw [SS.out,LN];go_num,R,B⟩
    case measure=>simp [intOf];omega
  ·obtain rfl:k=l:=by omega
   have T:Hid (sizeT page ex=pl+1+sumN ex k):=by show sizeT page ex=_;unfold sizeT;rw [HP.out,HL.out]
   go_wp2
   go_ret
   exact ⟨by rw [T.out];rfl,by rw [HB.out];exact B.out⟩
end Go.Proofs.YtajlleeonddinaaGreatDoor
namespace Go.Proofs.YtajlleeonddinaaGreatDoor
open Go.RowKit
def exB (g:Int) (n:Nat) (ex:Str):Bool:=
 (ex == []||ex == [100]||ex == [101]||ex == [110]||ex == [119]||ex == [100,110])&&(decide (g<5)||ex == [100]) &&
 (g != 0||(n != 203&&n != 221&&n != 237&&n != 253))&&((g != 3&&g != 4)||n != 203)
def exN (g n:Nat):Bool:=match ratT (g:Int) n with
 | some x=>exB (g:Int) n x.2.2.1
 | none=>true
theorem ex_k:∀ g:Fin 7,∀ n:Fin 256,exN g.val n.val=true:=by decide +kernel
theorem ex_of {page:Int} {n:Nat} (hn:n<256) {x:En} (h:ratT page n=some x):exB page n x.2.2.1=true∧0≤page∧page≤6:=by
 by_cases hp:0≤page∧page≤6
 ·obtain ⟨g,rfl⟩:∃ g:Nat,page=(g:Int):=⟨page.toNat,by omega⟩
  have h1:=ex_k ⟨g,by omega⟩ ⟨n,hn⟩
  unfold exN at h1
  rw [h] at h1
  exact ⟨h1,hp⟩
 ·rw [ratT_no hp] at h
  cases h
structure ExP (g:Int) (n:Nat) (ex:Str):Prop where
 lst:ex=[]∨ex=[100]∨ex=[101]∨ex=[110]∨ex=[119]∨ex=[100,110]
 hi:5≤g→ex=[100]
 main:g=0→n≠203∧n≠221∧n≠237∧n≠253
 ind:g=3∨g=4→n≠203
 pg:0≤g∧g≤6
theorem exP_of {page:Int} {n:Nat} (hn:n<256) {x:En} (h:ratT page n=some x):ExP page n x.2.2.1:=by
 obtain ⟨h1,h2⟩:=ex_of hn h
 unfold exB at h1
 simp only [Bool.and_eq_true,Bool.or_eq_true,beq_iff_eq,bne_iff_ne,decide_eq_true_eq,ne_eq] at h1
 obtain ⟨⟨⟨a,b⟩,c⟩,d⟩:=h1
 refine ⟨?_,fun h=>?_,fun h=>?_,fun h=>?_,h2⟩
 ·rcases a with ((((a | a) | a) | a) | a) | a
  ·exact .inl a
  ·exact .inr (.inl a)
  ·exact .inr (.inr (.inl a))
  ·exact .inr (.inr (.inr (.inl a)))
  ·exact .inr (.inr (.inr (.inr (.inl a))))
  ·exact .inr (.inr (.inr (.inr (.inr a))))
 ·rcases b with b | b
  ·omega
  ·exact b
 ·rcases c with c | c
  ·exact absurd h c
  ·exact ⟨c.1.1.1,c.1.1.2,c.1.2,c.2⟩
 ·rcases d with d | d
  ·rcases h with h | h
   ·exact absurd h d.1
   ·exact absurd h d.2
  ·exact d
def numsIn (ex:Str) (d n:Int):Prop:=
 (ex=[]→d=0∧n=0)∧(ex=[100]→-128≤d∧d≤127∧n=0)∧(ex=[101]→d=0∧-128≤n∧n≤127)∧(ex=[110]→d=0∧0≤n∧n≤255)∧(ex=[119]→d=0∧0≤n∧n≤65535)∧(ex=[100,110]→-128≤d∧d≤127∧0≤n∧n≤255)
def hdB:Str→Option (Int×UInt8×Str)
 | []=>none
 | b :: r=>
  if b=203 then (match r with | o :: t=>some (1,o,t) | []=>none)
  else if b=237 then (match r with | o :: t=>some (2,o,t) | []=>none)
  else if b=221 then (match r with | o :: t=>if o=203 then (match t with | x :: y :: u=>some (5,y,x :: u) | _=>none) else some (3,o,t) | []=>none)
  else if b=253 then (match r with | o :: t=>if o=203 then (match t with | x :: y :: u=>some (6,y,x :: u) | _=>none) else some (4,o,t) | []=>none)
  else some (0,b,r)
theorem enc_len {k:Ke} (hk:InTab k) (d n:Int):(encB k.1 k.2.1 k.2.2.2.2.1 d n).length=sizeT k.1 k.2.2.2.2.1∧1≤sizeT k.1 k.2.2.2.2.1∧sizeT k.1 k.2.2.2.2.1≤4:=by
 obtain ⟨g,o,m,L,ex,al⟩:=k
 obtain ⟨i,hi,e1,e2⟩:=hk
 have hx:=exP_of hi e2
 simp only at hx e1 ⊢
 subst e1
 obtain ⟨h0,h6⟩:=hx.pg
 have hsz:1≤sizeT g ex∧sizeT g ex≤4:=by
  by_cases h5:5≤g
  ·rw [hx.hi h5]
   rcases (by omega:g=5∨g=6) with rfl | rfl <;> decide
  ·rcases (by omega:g=0∨g=1∨g=2∨g=3∨g=4) with rfl | rfl | rfl | rfl | rfl <;> rcases hx.lst with rfl | rfl | rfl | rfl | rfl | rfl <;> decide
 refine ⟨?_,hsz⟩
 unfold encB sizeT
 by_cases h5:5≤g
 ·rw [if_pos h5,hx.hi h5]
  rcases (by omega:g=5∨g=6) with rfl | rfl <;> rfl
 ·rw [if_neg h5,List.length_append]
  rcases hx.lst with rfl | rfl | rfl | rfl | rfl | rfl <;> rfl
end Go.Proofs.YtajlleeonddinaaGreatDoor
namespace Go.Proofs.YtajlleeonddinaaGreatDoor
open Go.RowKit
def sgB (c:UInt8):Int:=sgnI (c.toNat:Int)
def numB (ex:Str) (t:Str):Int×Int:=
 if ex=[100] then (sgB (t.getD 0 0),0) else if ex=[101] then (0,sgB (t.getD 0 0)) else if ex=[110] then (0,((t.getD 0 0).toNat:Int)) else
 if ex=[119] then (0,((t.getD 0 0).toNat:Int)+256*((t.getD 1 0).toNat:Int)) else if ex=[100,110] then (sgB (t.getD 0 0),((t.getD 1 0).toNat:Int)) else (0,0)
theorem num_0 (t:Str):numB [] t=(0,0):=by unfold numB;rw [if_neg (by decide),if_neg (by decide),if_neg (by decide),if_neg (by decide),if_neg (by decide)]
theorem num_d (t:Str):numB [100] t=(sgB (t.getD 0 0),0):=by unfold numB;rw [if_pos rfl]
theorem num_e (t:Str):numB [101] t=(0,sgB (t.getD 0 0)):=by unfold numB;rw [if_neg (by decide),if_pos rfl]
theorem num_n (t:Str):numB [110] t=(0,((t.getD 0 0).toNat:Int)):=by unfold numB;rw [if_neg (by decide),if_neg (by decide),if_pos rfl]
theorem num_w (t:Str):numB [119] t=(0,((t.getD 0 0).toNat:Int)+256*((t.getD 1 0).toNat:Int)):=by unfold numB;rw [if_neg (by decide),if_neg (by decide),if_neg (by decide),if_pos rfl]
theorem num_dn (t:Str):numB [100,110] t=(sgB (t.getD 0 0),((t.getD 1 0).toNat:Int)):=by unfold numB;rw [if_neg (by decide),if_neg (by decide),if_neg (by decide),if_neg (by decide),if_pos rfl]
structure Ite where
 kind:Int
 raw:Str
 m:Str
 C:List Tr
 al:Bool
deriving DecidableEq
def iteO (kind:Int) (raw:Str):Ite:=⟨kind,raw,[],[],false⟩
def itR (b:Str):Ite:=match hdB b with
 | none=>iteO 4 b
 | some (p,o,t)=>match ratT p o.toNat with
  | none=>if rkindT p o.toNat=0 then iteO 2 (b.take 1) else iteO 3 (b.take 2)
  | some x=>if b.length<sizeT p x.2.2.1 then iteO 4 b else ⟨1,b.take (sizeT p x.2.2.1),x.1,(fillV x.2.2.1 x.2.1 (numB x.2.2.1 t).1 (numB x.2.2.1 t).2).getD [],x.2.2.2⟩
theorem sgB_rng (c:UInt8) : -128≤sgB c∧sgB c≤127:=by
 have:=c.toNat_lt
 unfold sgB sgnI
 split <;> omega
theorem numB_in {g:Int} {i:Nat} {ex:Str} (hx:ExP g i ex) (t:Str):numsIn ex (numB ex t).1 (numB ex t).2:=by
 have h0:=sgB_rng (t.getD 0 0)
 have h1:=(t.getD 0 0).toNat_lt
 have h2:=(t.getD 1 0).toNat_lt
 rcases hx.lst with rfl | rfl | rfl | rfl | rfl | rfl
 ·rw [num_0];exact ⟨fun _=>⟨rfl,rfl⟩,by simp,by simp,by simp,by simp,by simp⟩
 ·rw [num_d];exact ⟨by simp,fun _=>by refine ⟨?_,?_,?_⟩ <;> simp only <;> omega,by simp,by simp,by simp,by simp⟩
 ·rw [num_e];exact ⟨by simp,by simp,fun _=>by refine ⟨?_,?_,?_⟩ <;> simp only <;> omega,by simp,by simp,by simp⟩
 ·rw [num_n];exact ⟨by simp,by simp,by simp,fun _=>by refine ⟨?_,?_,?_⟩ <;> simp only <;> omega,by simp,by simp⟩
 ·rw [num_w];exact ⟨by simp,by simp,by simp,by simp,fun _=>by refine ⟨?_,?_,?_⟩ <;> simp only <;> omega,by simp⟩
 ·rw [num_dn];exact ⟨by simp,by simp,by simp,by simp,by simp,fun _=>by refine ⟨?_,?_,?_,?_⟩ <;> simp only <;> omega⟩
def plcB (L:List Tr) (ex:Str):Bool:=(!ex.contains 100||(atV (varsV ex).1.1 L).isSome)&&(!(ex.contains 101||ex.contains 110||ex.contains 119)||(atV (varsV ex).2.1 L).isSome)
def plcN (g n:Nat):Bool:=match ratT (g:Int) n with
 | some x=>plcB x.2.1 x.2.2.1
 | none=>true
theorem plc_k:∀ g:Fin 7,∀ n:Fin 256,plcN g.val n.val=true:=by decide +kernel
theorem plc_of {page:Int} {n:Nat} (hn:n<256) {x:En} (h:ratT page n=some x):plcB x.2.1 x.2.2.1=true:=by
 obtain ⟨h1,h2⟩:=(exP_of hn h).pg
 obtain ⟨g,rfl⟩:∃ g:Nat,page=(g:Int):=⟨page.toNat,by omega⟩
 have h3:=plc_k ⟨g,by omega⟩ ⟨n,hn⟩
 unfold plcN at h3
 rw [h] at h3
 exact h3
theorem put_ok {v:Vr} {L:List Tr} {n:Int} (h:(atV v.1 L).isSome=true∧v.2.1≤n∧n≤v.2.2∨n=0∧v.2.1≤0∧0≤v.2.2):putB v L n=true:=by
 unfold putB
 cases ha:atV v.1 L with
 | none=>
  rw [ha] at h
  rcases h with ⟨h,-⟩ | ⟨rfl,-⟩
  ·cases h
  ·simp
 | some k=>
  simp only
  unfold inV
  rcases h with ⟨-,h⟩ | ⟨rfl,h⟩ <;> simp [h]
theorem fill_in {g:Int} {i:Nat} {ex:Str} (hx:ExP g i ex) {L:List Tr} (hp:plcB L ex=true) {d n:Int} (h:numsIn ex d n):∃ C,fillV ex L d n=some C:=by
 obtain ⟨a0,a1,a2,a3,a4,a5⟩:=h
 have key:putB (varsV ex).1 L d=true∧putB (varsV ex).2 L n=true:=by
  unfold plcB at hp
  rcases hx.lst with rfl | rfl | rfl | rfl | rfl | rfl
  ·obtain ⟨rfl,rfl⟩:=a0 rfl
   exact ⟨put_ok (.inr ⟨rfl,by decide⟩),put_ok (.inr ⟨rfl,by decide⟩)⟩
  ·obtain ⟨c1,c2,rfl⟩:=a1 rfl
   exact ⟨put_ok (.inl ⟨by simpa using hp,c1,c2⟩),put_ok (.inr ⟨rfl,by decide⟩)⟩
  ·obtain ⟨rfl,c1,c2⟩:=a2 rfl
   exact ⟨put_ok (.inr ⟨rfl,by decide⟩),put_ok (.inl ⟨by simpa using hp,c1,c2⟩)⟩
  ·obtain ⟨rfl,c1,c2⟩:=a3 rfl
   exact ⟨put_ok (.inr ⟨rfl,by decide⟩),put_ok (.inl ⟨by simpa using hp,c1,c2⟩)⟩
  ·obtain ⟨rfl,c1,c2⟩:=a4 rfl
   exact ⟨put_ok (.inr ⟨rfl,by decide⟩),put_ok (.inl ⟨by simpa using hp,c1,c2⟩)⟩
  ·obtain ⟨c1,c2,c3,c4⟩:=a5 rfl
   have hp2:(atV (varsV [100,110]).1.1 L).isSome=true∧(atV (varsV [100,110]).2.1 L).isSome=true:=by simpa using hp
   exact ⟨put_ok (.inl ⟨hp2.1,c1,c2⟩),put_ok (.inl ⟨hp2.2,c3,c4⟩)⟩
 unfold fillV
 rw [putB_shape (varsV ex).2 (putL_shape (varsV ex).1.1 L d) n]
 simp [key.1,key.2]
end Go.Proofs.YtajlleeonddinaaGreatDoor
namespace Go.Proofs.YtajlleeonddinaaGreatDoor
open Go.RowKit
theorem hd_inv {b:Str} {p:Int} {o:UInt8} {t:Str} (h:hdB b=some (p,o,t)):(0≤p∧p≤6)∧((¬5≤p∧b=preS p++o :: t)∨(5≤p∧∃ x u,t=x :: u∧b=preS p++x :: o :: u)):=by
 cases b with
 | nil=>cases h
 | cons c r=>
  simp only [hdB] at h
  split at h
  ·rename_i hc
   subst hc
   cases r with
   | nil=>cases h
   | cons y u=>simp only [Option.some.injEq,Prod.mk.injEq] at h;obtain ⟨rfl,rfl,rfl⟩:=h;exact ⟨by omega,.inl ⟨by omega,rfl⟩⟩
  ·split at h
   ·rename_i hc
    subst hc
    cases r with
    | nil=>cases h
    | cons y u=>simp only [Option.some.injEq,Prod.mk.injEq] at h;obtain ⟨rfl,rfl,rfl⟩:=h;exact ⟨by omega,.inl ⟨by omega,rfl⟩⟩
   ·split at h
    ·rename_i hc
     subst hc
     cases r with
     | nil=>cases h
     | cons y u=>
      simp only at h
      split at h
      ·rename_i hy
       subst hy
       match u,h with
       | [],h=>cases h
       | [_],h=>cases h
       | x :: z :: v,h=>simp only [Option.some.injEq,Prod.mk.injEq] at h;obtain ⟨rfl,rfl,rfl⟩:=h;exact ⟨by omega,.inr ⟨by omega,x,v,rfl,rfl⟩⟩
      ·simp only [Option.some.injEq,Prod.mk.injEq] at h;obtain ⟨rfl,rfl,rfl⟩:=h;exact ⟨by omega,.inl ⟨by omega,rfl⟩⟩
    ·split at h
     ·rename_i hc
      subst hc
      cases r with
      | nil=>cases h
      | cons y u=>
       simp only at h
       split at h
       ·rename_i hy
        subst hy
        match u,h with
        | [],h=>cases h
        | [_],h=>cases h
        | x :: z :: v,h=>simp only [Option.some.injEq,Prod.mk.injEq] at h;obtain ⟨rfl,rfl,rfl⟩:=h;exact ⟨by omega,.inr ⟨by omega,x,v,rfl,rfl⟩⟩
       ·simp only [Option.some.injEq,Prod.mk.injEq] at h;obtain ⟨rfl,rfl,rfl⟩:=h;exact ⟨by omega,.inl ⟨by omega,rfl⟩⟩
     ·simp only [Option.some.injEq,Prod.mk.injEq] at h;obtain ⟨rfl,rfl,rfl⟩:=h;exact ⟨by omega,.inl ⟨by omega,rfl⟩⟩
end Go.Proofs.YtajlleeonddinaaGreatDoor
namespace Go.Proofs.YtajlleeonddinaaGreatDoor
open Go.RowKit
def needR (b:Str):Nat:=match hdB b with
 | some (p,o,t)=>(match ratT p o.toNat with
  | none=>if rkindT p o.toNat=0 then 1 else 2
  | some x=>sizeT p x.2.2.1)
 | none=>match b with
  | []=>1
  | _ :: 203 :: _=>4
  | _=>2
def kndB (p n:Nat):Bool:=(ratT (p:Int) n).isSome||decide (rkindT (p:Int) n=0)||(decide (rkindT (p:Int) n=3)&&decide (p=2))||(decide (p=0)&&(n == 203||n == 221||n == 237||n == 253))||((decide (p=3)||decide (p=4))&&n == 203)
theorem knd_k:∀ g:Fin 7,∀ n:Fin 256,kndB g.val n.val=true:=by decide +kernel
theorem hd_kind {b:Str} {p:Int} {o:UInt8} {t:Str} (h:hdB b=some (p,o,t)) (hr:ratT p o.toNat=none):rkindT p o.toNat=0∨(rkindT p o.toNat=3∧p=2):=by
 have hp:=(hd_inv h).1
 have ho:=o.toNat_lt
 obtain ⟨g,rfl⟩:∃ g:Nat,p=(g:Int):=⟨p.toNat,by omega⟩
 have hk:=knd_k ⟨g,by omega⟩ ⟨o.toNat,ho⟩
 unfold kndB at hk
 simp only [hr,Option.isSome_none,Bool.false_or,Bool.or_eq_true,Bool.and_eq_true,decide_eq_true_eq,beq_iff_eq] at hk
 have hne:∀ k:Nat,k<256→o.toNat=k→o=UInt8.ofNat k:=fun k hk e=>by
  refine UInt8.toNat_inj.1 ?_
  rw [UInt8.toNat_ofNat_of_lt' (show k<256 from hk)]
  exact e
 rcases hk with ((hk | hk) | hk) | hk
 ·exact .inl hk
 ·exact .inr ⟨hk.1,by omega⟩
 ·exfalso
  obtain ⟨h0,hk⟩:=hk
  obtain rfl:g=0:=h0
  cases b with
  | nil=>cases h
  | cons c r=>
   have hc:c≠203∧c≠237∧c≠221∧c≠253∧o=c:=by
    simp only [hdB] at h
    refine ⟨?_,?_,?_,?_,?_⟩
    ·rintro rfl;rw [if_pos rfl] at h;cases r <;> simp at h
    ·rintro rfl;rw [if_neg (by decide),if_pos rfl] at h;cases r <;> simp at h
    ·rintro rfl
     rw [if_neg (by decide),if_neg (by decide),if_pos rfl] at h
     cases r with
     | nil=>cases h
     | cons y u=>
      simp only at h
      split at h
      ·match u,h with
       | [],h=>cases h
       | [_],h=>cases h
       | x :: z :: v,h=>simp at h
      ·simp at h
    ·rintro rfl
     rw [if_neg (by decide),if_neg (by decide),if_neg (by decide),if_pos rfl] at h
     cases r with
     | nil=>cases h
     | cons y u=>
      simp only at h
      split at h
      ·match u,h with
       | [],h=>cases h
       | [_],h=>cases h
       | x :: z :: v,h=>simp at h
      ·simp at h
    ·split at h
     ·cases r <;> simp at h
     ·split at h
      ·cases r <;> simp at h
      ·split at h
       ·cases r with
        | nil=>cases h
        | cons y u=>
         simp only at h
         split at h
         ·match u,h with
          | [],h=>cases h
          | [_],h=>cases h
          | x :: z :: v,h=>simp at h
         ·simp at h
       ·split at h
        ·cases r with
         | nil=>cases h
         | cons y u=>
          simp only at h
          split at h
          ·match u,h with
           | [],h=>cases h
           | [_],h=>cases h
           | x :: z :: v,h=>simp at h
          ·simp at h
        ·simp only [Option.some.injEq,Prod.mk.injEq] at h
         exact h.2.1.symm
   obtain ⟨c1,c2,c3,c4,rfl⟩:=hc
   rcases hk with ((hk | hk) | hk) | hk
   ·exact c1 (hne 203 (by decide) hk)
   ·exact c3 (hne 221 (by decide) hk)
   ·exact c2 (hne 237 (by decide) hk)
   ·exact c4 (hne 253 (by decide) hk)
 ·exfalso
  obtain ⟨h0,hk⟩:=hk
  have h203:o=203:=hne 203 (by decide) hk
  subst h203
  have h34:(g:Int)=3∨(g:Int)=4:=by omega
  cases b with
  | nil=>cases h
  | cons c r=>
   simp only [hdB] at h
   split at h
   ·cases r <;> simp at h;omega
   ·split at h
    ·cases r <;> simp at h;omega
    ·split at h
     ·cases r with
      | nil=>cases h
      | cons y u=>
       simp only at h
       split at h
       ·match u,h with
        | [],h=>cases h
        | [_],h=>cases h
        | x :: z :: v,h=>simp at h;omega
       ·rename_i hy
        simp only [Option.some.injEq,Prod.mk.injEq] at h
        exact hy h.2.1
     ·split at h
      ·cases r with
       | nil=>cases h
       | cons y u=>
        simp only at h
        split at h
        ·match u,h with
         | [],h=>cases h
         | [_],h=>cases h
         | x :: z :: v,h=>simp at h;omega
        ·rename_i hy
         simp only [Option.some.injEq,Prod.mk.injEq] at h
         exact hy h.2.1
      ·simp only [Option.some.injEq,Prod.mk.injEq] at h;omega
theorem hd_len {b:Str} {p:Int} {o:UInt8} {t:Str} (h:hdB b=some (p,o,t)):(preS p).length+1≤b.length∧(5≤p→4≤b.length):=by
 obtain ⟨hp,hc⟩:=hd_inv h
 rcases hc with ⟨h5,rfl⟩ | ⟨h5,x,u,rfl,rfl⟩
 ·exact ⟨by rw [List.length_append,List.length_cons];omega,fun h=>absurd h h5⟩
 ·refine ⟨by rw [List.length_append,List.length_cons,List.length_cons];omega,fun _=>?_⟩
  have:(preS p).length=2:=by rcases (by omega:p=5∨p=6) with rfl | rfl <;> rfl
  rw [List.length_append,List.length_cons,List.length_cons]
  omega
theorem need_some {b:Str} {p:Int} {o:UInt8} {t:Str} (h:hdB b=some (p,o,t)):needR b=match ratT p o.toNat with | none=>if rkindT p o.toNat=0 then 1 else 2 | some x=>sizeT p x.2.2.1:=by
 unfold needR
 rw [h]
end Go.Proofs.YtajlleeonddinaaGreatDoor
namespace Go.Proofs.YtajlleeonddinaaGreatDoor
open Go.RowKit
end Go.Proofs.YtajlleeonddinaaGreatDoor
namespace Go.Proofs.YtajlleeonddinaaGreatDoor
open Go.RowKit
def Asc (l:List Int):Prop:=l.Pairwise (· < ·)
theorem asc_ext:∀ {l m:List Int},Asc l→Asc m→(∀ a,a∈l↔a∈m)→l=m
 | [],[],_,_,_=>rfl
 | [],b :: m,_,_,h=>absurd ((h b).2 (List.mem_cons_self ..)) List.not_mem_nil
 | a :: l,[],_,_,h=>absurd ((h a).1 (List.mem_cons_self ..)) List.not_mem_nil
 | a :: l,b :: m,hl,hm,h=>by
  obtain ⟨l1,l2⟩:=List.pairwise_cons.1 hl
  obtain ⟨m1,m2⟩:=List.pairwise_cons.1 hm
  have hab:a=b:=by
   have h1:=(h a).1 (List.mem_cons_self ..)
   have h2:=(h b).2 (List.mem_cons_self ..)
   rcases List.mem_cons.1 h1 with e | e
   ·exact e
   ·rcases List.mem_cons.1 h2 with e2 | e2
    ·exact e2.symm
    ·have:=m1 a e
     have:=l1 b e2
     omega
  subst hab
  refine congrArg (a :: ·) (asc_ext l2 m2 fun c=>?_)
  constructor
  ·intro hc
   rcases List.mem_cons.1 ((h c).1 (List.mem_cons_of_mem _ hc)) with e | e
   ·subst e
    exact absurd (l1 c hc) (Int.lt_irrefl c)
   ·exact e
  ·intro hc
   rcases List.mem_cons.1 ((h c).2 (List.mem_cons_of_mem _ hc)) with e | e
   ·subst e
    exact absurd (m1 c hc) (Int.lt_irrefl c)
   ·exact e
section
variable {α:Type} (it:Int→Option α) (nx:Int→α→List Int)
inductive Rch (S:List Int):Int→Prop
 | start {a:Int} {x:α}:a∈S→it a=some x→Rch S a
 | step {a b:Int} {x y:α}:Rch S a→it a=some x→b∈nx a x→it b=some y→Rch S b
variable {it nx}
theorem Rch.item {S:List Int} {a:Int} (h:Rch it nx S a):∃ x,it a=some x:=by
 cases h with
 | start _ h=>exact ⟨_,h⟩
 | step _ _ _ h=>exact ⟨_,h⟩
theorem Rch.more {S S':List Int} (hs:∀ a∈S,a∈S') {a:Int} (h:Rch it nx S a):Rch it nx S' a:=by
 induction h with
 | start h1 h2=>exact .start (hs _ h1) h2
 | step _ h2 h3 h4 ih=>exact .step ih h2 h3 h4
theorem Rch.closed {S T:List Int} (hT:∀ a,a∈T↔Rch it nx S a) (a:Int):Rch it nx T a↔Rch it nx S a:=by
 constructor
 ·intro h
  induction h with
  | start h1 _=>exact (hT _).1 h1
  | step _ h2 h3 h4 ih=>exact .step ih h2 h3 h4
 ·intro h
  obtain ⟨x,hx⟩:=h.item
  exact .start ((hT a).2 h) hx
structure Wk (it:Int→Option α) (nx:Int→α→List Int) (S out wait:List Int):Prop where
 out_ok:∀ a∈out,Rch it nx S a
 wait_ok:∀ a∈wait,∀ x,it a=some x→Rch it nx S a
 starts:∀ a∈S,∀ x,it a=some x→a∈out∨a∈wait
 closed:∀ a∈out,∀ x,it a=some x→∀ b∈nx a x,∀ y,it b=some y→b∈out∨b∈wait
theorem Wk.begin (S:List Int):Wk it nx S [] S:=⟨fun a h=>(by cases h),fun a h x hx=>.start h hx,fun a h x hx=>.inr h,fun a h=>(by cases h)⟩
theorem Wk.skip {S out w1 w2:List Int} {a:Int} (h:Wk it nx S out (w1++a :: w2)) (hs:it a=none∨a∈out):Wk it nx S out (w1++w2):=by
 have key:∀ b x,it b=some x→b∈w1++a :: w2→b∈out∨b∈w1++w2:=fun b x hx hb=>by
  rcases List.mem_append.1 hb with e | e
  ·exact .inr (List.mem_append_left _ e)
  ·rcases List.mem_cons.1 e with e | e
   ·subst e
    rcases hs with h1 | h1
    ·rw [h1] at hx;cases hx
    ·exact .inl h1
   ·exact .inr (List.mem_append_right _ e)
 refine ⟨h.out_ok,fun b hb x hx=>h.wait_ok b ?_ x hx,fun b hb x hx=>?_,fun b hb x hx c hc y hy=>?_⟩
 ·rcases List.mem_append.1 hb with e | e
  ·exact List.mem_append_left _ e
  ·exact List.mem_append_right _ (List.mem_cons_of_mem _ e)
 ·rcases h.starts b hb x hx with e | e
  ·exact .inl e
  ·exact key b x hx e
 ·rcases h.closed b hb x hx c hc y hy with e | e
  ·exact .inl e
  ·exact key c y hy e
theorem Wk.take {S out w1 w2:List Int} {a:Int} {x:α} (h:Wk it nx S out (w1++a :: w2)) (hx:it a=some x) {out' wait':List Int} (ho:∀ b,b∈out'↔b=a∨b∈out) (hw:∀ b,b∈wait'↔b∈w1++w2∨b∈nx a x):Wk it nx S out' wait':=by
 have ha:Rch it nx S a:=h.wait_ok a (List.mem_append_right _ (List.mem_cons_self ..)) x hx
 have key:∀ b,b∈out∨b∈w1++a :: w2→b∈out'∨b∈wait':=fun b hb=>by
  rcases hb with e | e
  ·exact .inl ((ho b).2 (.inr e))
  ·rcases List.mem_append.1 e with e | e
   ·exact .inr ((hw b).2 (.inl (List.mem_append_left _ e)))
   ·rcases List.mem_cons.1 e with e | e
    ·exact .inl ((ho b).2 (.inl e))
    ·exact .inr ((hw b).2 (.inl (List.mem_append_right _ e)))
 refine ⟨fun b hb=>?_,fun b hb y hy=>?_,fun b hb y hy=>key b (h.starts b hb y hy),fun b hb y hy c hc z hz=>?_⟩
 ·rcases (ho b).1 hb with e | e
  ·subst e;exact ha
  ·exact h.out_ok b e
 ·rcases (hw b).1 hb with e | e
  ·refine h.wait_ok b ?_ y hy
   rcases List.mem_append.1 e with e | e
   ·exact List.mem_append_left _ e
   ·exact List.mem_append_right _ (List.mem_cons_of_mem _ e)
  ·exact .step ha hx e hy
 ·rcases (ho b).1 hb with e | e
  ·subst e
   rw [hx] at hy
   obtain rfl:=Option.some.inj hy
   exact .inr ((hw c).2 (.inr hc))
  ·exact key c (h.closed b e y hy c hc z hz)
theorem Wk.done {S out:List Int} (h:Wk it nx S out []) (a:Int):a∈out↔Rch it nx S a:=by
 refine ⟨h.out_ok a,fun hr=>?_⟩
 induction hr with
 | start h1 h2=>
  rcases h.starts _ h1 _ h2 with e | e
  ·exact e
  ·cases e
 | step h1 h2 h3 h4 ih=>
  rcases h.closed _ ih _ h2 _ h3 _ h4 with e | e
  ·exact e
  ·cases e
end
end Go.Proofs.YtajlleeonddinaaGreatDoor
namespace Go.Proofs.YtajlleeonddinaaGreatDoor
open Go.RowKit Go.Shelf
attribute [local go_sem] Oper.semAt_some
theorem u8_beq (a b:UInt8):((a.toNat:Int) == (b.toNat:Int))=decide (a=b):=by
 by_cases h:a=b
 ·subst h
  rw [decide_eq_true rfl]
  exact beq_self_eq_true _
 ·rw [decide_eq_false h]
  exact beq_eq_false_iff_ne.2 fun e=>h (UInt8.toNat_inj.1 (by omega))
theorem rhas_any (ex:Str) (hx:ex.length≤1000) (c:UInt8) (w:World) :
  Calls Tryz.prog 121 #[.string (sB ex),.int .u8 (c.toNat:Int)] w fun e w'=>e=.returned (.bool (ex.contains c))∧w'=w:=by
 obtain ⟨s,hs⟩:∃ s,sB ex=s:=⟨_,rfl⟩
 have hz:s.size=ex.length:=by rw [← hs,sB_size]
 have hat:∀ k (h:k<s.size) (h':k<ex.length),s[k]=ex[k]:=fun k h h'=>by subst hs;exact sB_at ex k h h'
 have HAT:=Lib.hid hat
 rw [hs]
 obtain ⟨l,hl⟩:∃ l,ex.length=l:=⟨_,rfl⟩
 have HL:=Lib.hid hl
 rw [hl] at hz hx
 obtain ⟨x,hx9⟩:∃ x,(c.toNat:Int)=x:=⟨_,rfl⟩
 have HX:=Lib.hid hx9
 rw [hx9]
 clear hs hat hl hx9
 go_enter Tryz.func121,Tryz.ntmps121
 go_wp2
 go_loopw [5] (fun i wr=>∃ j:Nat,j≤l∧i=.int .i64 j∧Hid (∀ k (h:k<ex.length),k<j→ex[k]≠c)∧Hid (wr=w)) (fun i _=>l - (intOf i).toNat)
 case atStart=>exact ⟨0,Nat.zero_le _,rfl,fun k h h2=>by omega,rfl⟩
 case round=>
  obtain ⟨j,hj,rfl,R,B⟩:=hrel
  by_cases hlt:j<l
  ·have hlt':j<s.size:=by omega
   have hj1:j<ex.length:=by rw [HL.out];exact hlt
   have e1:=HAT.out j hlt' hj1
   have hb:((s[j].toNat:Int) == x)=decide (ex[j]=c):=by rw [← HX.out,e1];exact u8_beq _ _
   obtain ⟨tt,htt⟩:∃ z,decide (ex[j]=c)=z:=⟨_,rfl⟩
   rw [htt] at hb
   have hj1k:j≤1000:=by omega
   cases tt with
   | true=>
    have T:Hid (true=ex.contains c):=by
     show true=_
     exact (List.contains_iff_mem.2 (of_decide_eq_true htt ▸ List.getElem_mem hj1)).symm
    clear htt e1 hj1 R
    go_wp2
    go_ret
    exact ⟨ret_bool T.out,B.out⟩
   | false=>
    have R2:Hid (∀ k (h:k<ex.length),k<j+1→ex[k]≠c):=fun k h h2=>by
     by_cases e:k=j
     ·subst e;exact of_decide_eq_false htt
     ·exact R.out k h (by omega)
    clear htt e1 hj1 R
    go_wp2
    go_roundw
    case rel=>exact ⟨j+1,by omega,by go_num,R2.out,B.out⟩
    case measure=>simp [intOf];omega
  ·have T:Hid (false=ex.contains c):=by
    show false=_
    refine (Bool.eq_false_iff.2 fun h=>?_).symm
    obtain ⟨k,hk,e⟩:=List.getElem_of_mem (List.contains_iff_mem.1 h)
    exact R.out k hk (by have:=HL.out;omega) e
   clear R
   go_wp2
   go_ret
   exact ⟨ret_bool T.out,B.out⟩
theorem rwithin_any (c:UInt8) (n:Int) (w:World) :
  Calls Tryz.prog 94 #[.int .u8 (c.toNat:Int),.int .i64 n] w fun e w'=>e=.returned (.bool (withR c n))∧w'=w:=by
 have e1:((c.toNat:Int) == 100)=decide (c=100):=u8_beq c 100
 have e2:((c.toNat:Int) == 101)=decide (c=101):=u8_beq c 101
 have e3:((c.toNat:Int) == 110)=decide (c=110):=u8_beq c 110
 obtain ⟨x,hx⟩:∃ x,(c.toNat:Int)=x:=⟨_,rfl⟩
 rw [hx] at e1 e2 e3 ⊢
 clear hx
 have cmp:∀ a b:Int,((a≤n∧n≤b)∨(a≤n∧¬n≤b)∨¬a≤n):=fun a b=>by omega
 by_cases h1:c=100
 ·subst h1
  have T:Hid (withR 100 n=(decide (-128≤n)&&decide (n≤127))):=rfl
  rw [decide_eq_true rfl] at e1
  clear e2 e3
  rcases cmp (-128) 127 with ⟨g1,g2⟩ | ⟨g1,g2⟩ | g1
  all_goals
   go_enter Tryz.func94,Tryz.ntmps94
   go_wp2
   go_ret
   exact ⟨ret_bool (by rw [T.out];simp_all <;> (intros;omega)),rfl⟩
 ·rw [decide_eq_false h1] at e1
  by_cases h2:c=101
  ·subst h2
   have T:Hid (withR 101 n=(decide (-128≤n)&&decide (n≤127))):=rfl
   rw [decide_eq_true rfl] at e2
   clear e3 h1
   rcases cmp (-128) 127 with ⟨g1,g2⟩ | ⟨g1,g2⟩ | g1
   all_goals
    go_enter Tryz.func94,Tryz.ntmps94
    go_wp2
    go_ret
    exact ⟨ret_bool (by rw [T.out];simp_all <;> (intros;omega)),rfl⟩
  ·rw [decide_eq_false h2] at e2
   by_cases h3:c=110
   ·subst h3
    have T:Hid (withR 110 n=(decide (0≤n)&&decide (n≤255))):=rfl
    rw [decide_eq_true rfl] at e3
    clear h1 h2
    rcases cmp 0 255 with ⟨g1,g2⟩ | ⟨g1,g2⟩ | g1
    all_goals
     go_enter Tryz.func94,Tryz.ntmps94
     go_wp2
     go_ret
     exact ⟨ret_bool (by rw [T.out];simp_all <;> (intros;omega)),rfl⟩
   ·have T:Hid (withR c n=(decide (0≤n)&&decide (n≤65535))):=by show _=_;unfold withR;rw [if_neg (by rintro (h | h) <;> contradiction),if_neg h3]
    rw [decide_eq_false h3] at e3
    clear h1 h2 h3
    rcases cmp 0 65535 with ⟨g1,g2⟩ | ⟨g1,g2⟩ | g1
    all_goals
     go_enter Tryz.func94,Tryz.ntmps94
     go_wp2
     go_ret
     exact ⟨ret_bool (by rw [T.out];simp_all <;> (intros;omega)),rfl⟩
end Go.Proofs.YtajlleeonddinaaGreatDoor
namespace Go.Proofs.YtajlleeonddinaaGreatDoor
open Go.RowKit Go.Shelf
attribute [local go_sem] Oper.semAt_some
theorem varKB_eq (t:Tr):varKB t=((t.1 == 6)||(t.1 == 7)):=rfl
theorem drop_any {L:List Tr} {k:Nat} (h:∀ j (hj:j<L.length),k<j→varKB L[j]=false):(L.drop (k+1)).any varKB=false:=by
 rw [List.any_eq_false]
 intro x hx
 obtain ⟨i,hi,rfl⟩:=List.getElem_of_mem hx
 rw [List.getElem_drop]
 rw [h _ (by simp at hi;omega) (by omega)]
 decide
theorem drop_yes {L:List Tr} {k j:Nat} (hj:j<L.length) (hk:k<j) (h:varKB L[j]=true):(L.drop (k+1)).any varKB=true:=by
 rw [List.any_eq_true]
 refine ⟨L[j],?_,h⟩
 have:L[j]=(L.drop (k+1))[j - (k+1)]'(by simp;omega):=by rw [List.getElem_drop];congr 1;omega
 rw [this]
 exact List.getElem_mem _
def lastR (ex:Str):UInt8:=if ex.contains 110=true then 110 else if ex.contains 119=true then 119 else 0
theorem letR_a {ex:Str} {L:List Tr} {k:Nat} (hk:k<L.length) (h:L[k].1=5) (hc:ex.contains 100=true):letR ex L k=100:=by
 unfold letR;rw [if_pos ⟨by rw [List.getD_eq_getElem?_getD,List.getElem?_eq_getElem hk];exact h,hc⟩]
theorem letR_b {ex:Str} {L:List Tr} {k:Nat} (hk:k<L.length) (h1:¬(L[k].1=5∧ex.contains 100=true)) (h:L[k].1=10) (hc:ex.contains 101=true):letR ex L k=101:=by
 have e:(L.getD k tr0)=L[k]:=by rw [List.getD_eq_getElem?_getD,List.getElem?_eq_getElem hk];rfl
 unfold letR;rw [e,if_neg h1,if_pos ⟨h,hc⟩]
theorem letR_c {ex:Str} {L:List Tr} {k:Nat} (hk:k<L.length) (h1:¬(L[k].1=5∧ex.contains 100=true)) (h2:¬(L[k].1=10∧ex.contains 101=true)) (h:varKB L[k]=false):letR ex L k=0:=by
 have e:(L.getD k tr0)=L[k]:=by rw [List.getD_eq_getElem?_getD,List.getElem?_eq_getElem hk];rfl
 unfold letR;rw [e,if_neg h1,if_neg h2,if_pos h]
theorem letR_d {ex:Str} {L:List Tr} {k:Nat} (hk:k<L.length) (h1:¬(L[k].1=5∧ex.contains 100=true)) (h2:¬(L[k].1=10∧ex.contains 101=true)) (h:varKB L[k]=true) (hd:(L.drop (k+1)).any varKB=true):letR ex L k=0:=by
 have e:(L.getD k tr0)=L[k]:=by rw [List.getD_eq_getElem?_getD,List.getElem?_eq_getElem hk];rfl
 unfold letR;rw [e,if_neg h1,if_neg h2,if_neg (by rw [h];decide),if_pos hd]
theorem letR_e {ex:Str} {L:List Tr} {k:Nat} (hk:k<L.length) (h1:¬(L[k].1=5∧ex.contains 100=true)) (h2:¬(L[k].1=10∧ex.contains 101=true)) (h:varKB L[k]=true) (hd:(L.drop (k+1)).any varKB=false):letR ex L k=lastR ex:=by
 have e:(L.getD k tr0)=L[k]:=by rw [List.getD_eq_getElem?_getD,List.getElem?_eq_getElem hk];rfl
 unfold letR;rw [e,if_neg h1,if_neg h2,if_neg (by rw [h];decide),if_neg (by rw [hd];decide)];rfl
def RetLet (w:World) (c:UInt8) (e:Ending) (w':World):Prop:=e=.returned (.int .u8 (c.toNat:Int))∧Below w.heap.size w w'
end Go.Proofs.YtajlleeonddinaaGreatDoor
namespace Go.Proofs.YtajlleeonddinaaGreatDoor
open Go.RowKit Go.Shelf
attribute [local go_sem] Oper.semAt_some
theorem letter_any (page op:Int) (m:Str) (A:Option Addr) (cap l:Nat) (L:List Tr) (hl:L.length=l) (hL:l≤1000) (ex:Str) (hx:ex.length≤1000) (al:Bool) (k:Nat) (hk:k<l) (w:World) (H:OpsP w A L) :
  Calls Tryz.prog 93 #[enV page op m (.slice A l cap) ex al,.int .i64 k] w (RetLet w (letR ex L k)):=by
 have hk1:k<L.length:=by omega
 have rh:=fun c w'=>rhas_any ex hx c w'
 unfold enV
 obtain ⟨s,hs⟩:∃ s,sB ex=s:=⟨_,rfl⟩
 rw [hs] at rh ⊢
 clear hs
 obtain ⟨b,off,rfl,hb,p0,p1,p2⟩:=H.at_ hk1
 obtain ⟨⟨t0,t1,t2⟩,ht⟩:∃ t,L[k]=t:=⟨_,rfl⟩
 rw [ht] at p0 p1 p2
 simp only at p0 p1 p2
 obtain ⟨w0,hw0⟩:∃ z,w.alloc (.cells #[.int .i64 page,.int .u8 op,.string (sB m),.slice (some ⟨b,off,none⟩) l cap,.string s,.bool al] 64)=z:=⟨_,rfl⟩
 obtain ⟨n,hn⟩:∃ z,w.heap.size=z:=⟨_,rfl⟩
 have b0:Below w.heap.size w w0:=by rw [← hw0];exact up1 _ _
 have c0:w0.heap[n]?=some (.cells #[.int .i64 page,.int .u8 op,.string (sB m),.slice (some ⟨b,off,none⟩) l cap,.string s,.bool al] 64 (0,0)):=by rw [← hw0,← hn];exact World.alloc_heap_new w _
 have z0:w0.heap.size=n+1:=by rw [← hw0,← hn];simp
 obtain ⟨w1,hw1⟩:∃ z,w0.alloc (.cells #[.int .i64 t0,.int .i64 t1,.int .i64 t2] 55)=z:=⟨_,rfl⟩
 have b1:Below w0.heap.size w0 w1:=by rw [← hw1];exact up1 _ _
 have c1:w1.heap[n+1]?=some (.cells #[.int .i64 t0,.int .i64 t1,.int .i64 t2] 55 (0,0)):=by rw [← hw1,← z0];exact World.alloc_heap_new w0 _
 have bb:Below w.heap.size w w1:=b0.trans (b1.mono b0.size)
 have d0:=(b1.block n (by omega)).trans c0
 have BB:Hid (Below n w w1):=by rw [← hn];exact bb
 have HN:=Lib.hid hn
 have PL:=Lib.hid (H.below bb)
 have q0:=(b0.cell (p:=⟨b,off+k*3,none⟩) hb).trans p0
 have q1:=(b0.cell (p:=⟨b,off+k*3+1,none⟩) hb).trans p1
 have q2:=(b0.cell (p:=⟨b,off+k*3+2,none⟩) hb).trans p2
 have k3:=Lib.cell_of_heap c0 3
 have hkc:(k:Int)<(l:Int):=by omega
 have LA:=Lib.hid (letR_a (ex:=ex) hk1)
 have LB:=Lib.hid (letR_b (ex:=ex) hk1)
 have LC:=Lib.hid (letR_c (ex:=ex) hk1)
 have LD:=Lib.hid (letR_d (ex:=ex) hk1)
 have LE:=Lib.hid (letR_e (ex:=ex) hk1)
 rw [ht] at LA LB LC LD LE
 simp only [varKB_eq] at LA LB LC LD LE
 have HL:=Lib.hid hl
 have DY:=Lib.hid (fun j (hj:j<L.length)=>drop_yes (k:=k) hj)
 have DA:=Lib.hid (drop_any (L:=L) (k:=k))
 have V3:=Lib.hid (Lib.cell_of_heap d0 3)
 have V4:=Lib.hid (Lib.cell_of_heap d0 4)
 obtain ⟨h100,e100⟩:∃ z,ex.contains 100=z:=⟨_,rfl⟩
 obtain ⟨h101,e101⟩:∃ z,ex.contains 101=z:=⟨_,rfl⟩
 obtain ⟨h110,e110⟩:∃ z,ex.contains 110=z:=⟨_,rfl⟩
 obtain ⟨h119,e119⟩:∃ z,ex.contains 119=z:=⟨_,rfl⟩
 have R1:=Lib.hid (rh 100 w1)
 have R2:=Lib.hid (rh 101 w1)
 have R3:=Lib.hid (rh 110 w1)
 have R4:=Lib.hid (rh 119 w1)
 rw [e100] at R1 LA LB LC LD LE
 rw [e101] at R2 LB LC LD LE
 rw [e110] at R3
 rw [e119] at R4
 have LR:Hid (lastR ex=if h110=true then 110 else if h119=true then 119 else 0):=by show _=_;unfold lastR;rw [e110,e119]
 have u0:=Lib.cell_of_heap c1 0
 have u4:=Lib.cell_of_heap d0 4
 clear H b0 c0 b1 bb d0 rh ht hl e100 e101 e110 e119 hx hb p0 p1 p2 hk1
 obtain ⟨r,hr⟩:∃ z,letR ex L k=z:=⟨_,rfl⟩
 rw [hr] at LA LB LC LD LE ⊢
 clear hr
 go_enter Tryz.func93,Tryz.ntmps93
 go_upto_region 2 with fail
 clear k3 q0 q1 q2 hw1 hw0
 by_cases k5:t0=5
 ·subst k5
  go_wp2_with fail
  refine R1.out.mono ?_
  rintro e w' ⟨rfl,rfl⟩
  cases h100 with
  | true=>
   obtain rfl:=LA.out (by first | trivial | rfl) (by first | trivial | rfl)
   go_wp2
   go_ret
   exact ⟨rfl,by rw [HN.out];exact BB.out⟩
  | false=>
   obtain rfl:=LC.out (by simp) (by simp) (by decide)
   go_wp2
   go_ret
   exact ⟨rfl,by rw [HN.out];exact BB.out⟩
 ·have e5:(t0 == 5)=false:=beq_eq_false_iff_ne.2 k5
  by_cases k10:t0=10
  ·subst k10
   go_wp2_with fail
   refine R2.out.mono ?_
   rintro e w' ⟨rfl,rfl⟩
   cases h101 with
   | true=>
    obtain rfl:=LB.out (by simp) (by first | trivial | rfl) (by first | trivial | rfl)
    go_wp2
    go_ret
    exact ⟨rfl,by rw [HN.out];exact BB.out⟩
   | false=>
    obtain rfl:=LC.out (by simp) (by simp) (by decide)
    go_wp2
    go_ret
    exact ⟨rfl,by rw [HN.out];exact BB.out⟩
  ·have e10:(t0 == 10)=false:=beq_eq_false_iff_ne.2 k10
   by_cases k67:t0=6∨t0=7
   ·have K5:=Lib.hid k5
    have K10:=Lib.hid k10
    clear k5 k10 e5 e10
    rcases k67 with rfl | rfl
    ·skip
     go_wp2
     go_loopw [6] (fun i wr=>∃ j:Nat,k+1≤j∧j≤l∧i=.int .i64 j∧wr=w1∧Hid (∀ i (hi:i<L.length),k<i→i<j→varKB L[i]=false)) (fun i _=>l - (intOf i).toNat)
     case atStart=>exact ⟨k+1,Nat.le_refl _,by omega,by go_num,rfl,fun i hi h1 h2=>by omega⟩
     case round=>
      obtain ⟨j,hkj,hj,rfl,rfl,RR⟩:=hrel
      have w3:=V3.out
      by_cases hlt:j<l
      ·have hj1:j<L.length:=by have:=HL.out;omega
       obtain ⟨b2,o2,hA2,-,g0,g1,g2⟩:=PL.out.at_ hj1
       simp only [Option.some.injEq,Addr.mk.injEq,and_true] at hA2
       obtain ⟨rfl,rfl⟩:=hA2
       have hjc:(j:Int)<(l:Int):=by omega
       have DYj:=Lib.hid (DY.out j hj1 (by omega))
       have RN:Hid (varKB L[j]=false→∀ i (hi:i<L.length),k<i→i<j+1→varKB L[i]=false):=fun h i hi h1 h2=>by
        by_cases e:i=j
        ·subst e;exact h
        ·exact RR.out i hi h1 (by omega)
       obtain ⟨⟨y0,y1,y2⟩,hy⟩:∃ y,L[j]=y:=⟨_,rfl⟩
       rw [hy] at g0 DYj RN
       simp only [varKB_eq] at DYj RN
       simp only at g0
       clear g1 g2 hy hj1 RR
       by_cases y6:y0=6∨y0=7
       ·obtain rfl:=LD.out (fun h=>by cases h.1) (fun h=>by cases h.1) (by decide) (DYj.out (by rcases y6 with rfl | rfl <;> decide))
        rcases y6 with rfl | rfl
        all_goals
         go_wp2
         go_ret
         exact ⟨rfl,by rw [HN.out];exact BB.out⟩
       ·have n6:¬y0=6:=fun h=>y6 (.inl h)
        have n7:¬y0=7:=fun h=>y6 (.inr h)
        have m6:(y0 == 6)=false:=beq_eq_false_iff_ne.2 n6
        have m7:(y0 == 7)=false:=beq_eq_false_iff_ne.2 n7
        have R9:=Lib.hid (RN.out (by rw [m6,m7];rfl))
        clear y6 RN DYj
        go_wp2
        go_roundw
        case rel=>exact ⟨j+1,by omega,by omega,by go_num,by first | rfl | trivial,R9.out⟩
        case measure=>simp [intOf];omega
      ·obtain rfl:j=l:=by omega
       have DD:Hid (r=lastR ex):=LE.out (fun h=>by cases h.1) (fun h=>by cases h.1) (by decide) (DA.out fun i hi h1=>RR.out i hi h1 (by have:=HL.out;omega))
       have v4:=V4.out
       have DD2:Hid (r=if h110=true then 110 else if h119=true then 119 else 0):=by show r=_;rw [DD.out,LR.out]
       clear RR DD
       go_wp2_with fail
       refine R3.out.mono ?_
       rintro e w' ⟨rfl,rfl⟩
       cases h110 with
       | true=>
        obtain rfl:r=110:=DD2.out
        go_wp2
        go_ret
        exact ⟨rfl,by rw [HN.out];exact BB.out⟩
       | false=>
        go_wp2_with fail
        refine R4.out.mono ?_
        rintro e w' ⟨rfl,rfl⟩
        cases h119 with
        | true=>
         obtain rfl:r=119:=DD2.out
         go_wp2
         go_ret
         exact ⟨rfl,by rw [HN.out];exact BB.out⟩
        | false=>
         obtain rfl:r=0:=DD2.out
         go_wp2
         go_ret
         exact ⟨rfl,by rw [HN.out];exact BB.out⟩
    ·skip
     go_wp2
     go_loopw [6] (fun i wr=>∃ j:Nat,k+1≤j∧j≤l∧i=.int .i64 j∧wr=w1∧Hid (∀ i (hi:i<L.length),k<i→i<j→varKB L[i]=false)) (fun i _=>l - (intOf i).toNat)
     case atStart=>exact ⟨k+1,Nat.le_refl _,by omega,by go_num,rfl,fun i hi h1 h2=>by omega⟩
     case round=>
      obtain ⟨j,hkj,hj,rfl,rfl,RR⟩:=hrel
      have w3:=V3.out
      by_cases hlt:j<l
      ·have hj1:j<L.length:=by have:=HL.out;omega
       obtain ⟨b2,o2,hA2,-,g0,g1,g2⟩:=PL.out.at_ hj1
       simp only [Option.some.injEq,Addr.mk.injEq,and_true] at hA2
       obtain ⟨rfl,rfl⟩:=hA2
       have hjc:(j:Int)<(l:Int):=by omega
       have DYj:=Lib.hid (DY.out j hj1 (by omega))
       have RN:Hid (varKB L[j]=false→∀ i (hi:i<L.length),k<i→i<j+1→varKB L[i]=false):=fun h i hi h1 h2=>by
        by_cases e:i=j
        ·subst e;exact h
        ·exact RR.out i hi h1 (by omega)
       obtain ⟨⟨y0,y1,y2⟩,hy⟩:∃ y,L[j]=y:=⟨_,rfl⟩
       rw [hy] at g0 DYj RN
       simp only [varKB_eq] at DYj RN
       simp only at g0
       clear g1 g2 hy hj1 RR
       by_cases y6:y0=6∨y0=7
       ·obtain rfl:=LD.out (fun h=>by cases h.1) (fun h=>by cases h.1) (by decide) (DYj.out (by rcases y6 with rfl | rfl <;> decide))
        rcases y6 with rfl | rfl
        all_goals
         go_wp2
         go_ret
         exact ⟨rfl,by rw [HN.out];exact BB.out⟩
       ·have n6:¬y0=6:=fun h=>y6 (.inl h)
        have n7:¬y0=7:=fun h=>y6 (.inr h)
        have m6:(y0 == 6)=false:=beq_eq_false_iff_ne.2 n6
        have m7:(y0 == 7)=false:=beq_eq_false_iff_ne.2 n7
        have R9:=Lib.hid (RN.out (by rw [m6,m7];rfl))
        clear y6 RN DYj
        go_wp2
        go_roundw
        case rel=>exact ⟨j+1,by omega,by omega,by go_num,by first | rfl | trivial,R9.out⟩
        case measure=>simp [intOf];omega
      ·obtain rfl:j=l:=by omega
       have DD:Hid (r=lastR ex):=LE.out (fun h=>by cases h.1) (fun h=>by cases h.1) (by decide) (DA.out fun i hi h1=>RR.out i hi h1 (by have:=HL.out;omega))
       have v4:=V4.out
       have DD2:Hid (r=if h110=true then 110 else if h119=true then 119 else 0):=by show r=_;rw [DD.out,LR.out]
       clear RR DD
       go_wp2_with fail
       refine R3.out.mono ?_
       rintro e w' ⟨rfl,rfl⟩
       cases h110 with
       | true=>
        obtain rfl:r=110:=DD2.out
        go_wp2
        go_ret
        exact ⟨rfl,by rw [HN.out];exact BB.out⟩
       | false=>
        go_wp2_with fail
        refine R4.out.mono ?_
        rintro e w' ⟨rfl,rfl⟩
        cases h119 with
        | true=>
         obtain rfl:r=119:=DD2.out
         go_wp2
         go_ret
         exact ⟨rfl,by rw [HN.out];exact BB.out⟩
        | false=>
         obtain rfl:r=0:=DD2.out
         go_wp2
         go_ret
         exact ⟨rfl,by rw [HN.out];exact BB.out⟩
   ·have e6:(t0 == 6)=false:=beq_eq_false_iff_ne.2 (fun h=>k67 (.inl h))
    have e7:(t0 == 7)=false:=beq_eq_false_iff_ne.2 (fun h=>k67 (.inr h))
    obtain rfl:=LC.out (fun h=>k5 h.1) (fun h=>k10 h.1) (by rw [e6,e7];rfl)
    have n6:¬t0=6:=fun h=>k67 (.inl h)
    have n7:¬t0=7:=fun h=>k67 (.inr h)
    have m6:(t0 != 6)=true:=bne_iff_ne.2 n6
    have m7:(t0 != 7)=true:=bne_iff_ne.2 n7
    clear k5 k10 k67 e6 e7
    go_wp2
    go_ret
    exact ⟨rfl,by rw [HN.out];exact BB.out⟩
end Go.Proofs.YtajlleeonddinaaGreatDoor
namespace Go.Proofs.YtajlleeonddinaaGreatDoor
open Go.RowKit Go.Shelf
attribute [local go_sem] Oper.semAt_some
end Go.Proofs.YtajlleeonddinaaGreatDoor
namespace Go.Proofs.YtajlleeonddinaaGreatDoor
open Go.RowKit
theorem wid_4 {s:ByteArray} (L:List Tr) (h:I4 s):(0:Int)=widL (opc s) L:=by rw [opc_4 h];rfl
theorem wid_5 {s:ByteArray} (L:List Tr) (h:I5 s):(2:Int)=widL (opc s) L:=by rw [opc_5 h];rfl
theorem wid_6y {s:ByteArray} (L:List Tr) (h:I6 s) (k:0<L.length) (e:L[0].1=3):(2:Int)=widL (opc s) L:=by
 rw [opc_6 h]
 cases L with
 | nil=>simp at k
 | cons t r=>
  have e':t.1=3:=e
  unfold widL
  rw [if_neg (by omega),if_neg (by omega),if_pos ⟨rfl,by simp [e']⟩]
theorem wid_6n {s:ByteArray} (L:List Tr) (h:I6 s) (e:∀ k:0<L.length,¬L[0].1=3):(1:Int)=widL (opc s) L:=by
 rw [opc_6 h]
 unfold widL
 rw [if_neg (by omega),if_neg (by omega),if_neg]
 rintro ⟨-,q⟩
 cases L with
 | nil=>simp at q
 | cons t r=>exact e (by simp) (by simpa using q)
theorem wid_o {s:ByteArray} (L:List Tr) (h4:¬I4 s) (h5:¬I5 s) (h6:¬I6 s):(1:Int)=widL (opc s) L:=by
 unfold widL
 rw [if_neg (opc_n4 h4),if_neg (opc_n5 h5),if_neg (fun q=>opc_n6 h6 q.1)]
theorem width_any (s:ByteArray) (A:Option Addr) (cap:Nat) (L:List Tr) (hL:L.length≤1000) (w:World) (H:OpsP w A L) :
  Calls Tryz.prog 142 #[.agg #[.string s,.slice A L.length cap]] w fun e w'=>e=.returned (.int .i64 (widL (opc s) L))∧Below w.heap.size w w':=by
 have B0:Hid (Below w.heap.size w (w.alloc (.cells #[.string s,.slice A L.length cap] 24))):=(Below.refl _ _).alloc (Nat.le_refl _) _
 by_cases h4:I4 s
 ·have E:=Lib.hid (wid_4 L h4)
  clear H
  rcases h4 with rfl | rfl | rfl | rfl | rfl | rfl
  all_goals
   go_enter Tryz.func142,Tryz.ntmps142
   go_wp2
   go_ret
   exact ⟨ret_int E.out,B0.out⟩
 by_cases h5:I5 s
 ·have E:=Lib.hid (wid_5 L h5)
  clear H h4
  rcases h5 with rfl | rfl
  all_goals
   go_enter Tryz.func142,Tryz.ntmps142
   go_wp2
   go_ret
   exact ⟨ret_int E.out,B0.out⟩
 by_cases h6:I6 s
 ·have EY:=Lib.hid (wid_6y L h6)
  have EN:=Lib.hid (wid_6n L h6)
  have X:=Lib.hid (H.below B0.out)
  clear h4 h5 H
  obtain rfl:s=_:=h6
  by_cases h0:0<L.length
  ·obtain ⟨b,off,rfl,hb,p0,p1,p2⟩:=X.out.at_ h0
   rw [Nat.zero_mul,Nat.add_zero] at p0
   obtain ⟨n,hn⟩:∃ n,L.length=n:=⟨_,rfl⟩
   have EY:=Lib.hid (EY.out h0)
   have EN:=Lib.hid (fun (q:¬L[0].1=3)=>EN.out fun _=>q)
   obtain ⟨k,hk⟩:∃ k,L[0].1=k:=⟨_,rfl⟩
   rw [hk] at EY EN p0
   have g1:decide ((0:Int)<(L.length:Int))=true:=decide_eq_true (by omega)
   have g2:(0:Int)<(L.length:Int):=by omega
   have hL2:L.length≤1000:=hL
   rw [hn] at hL p0 p1 p2 B0 X g1 g2 ⊢
   clear hn hk h0 p1 p2 hb
   by_cases hk3:k=3
   ·have E:=Lib.hid (EY.out hk3)
    subst hk3
    go_enter Tryz.func142,Tryz.ntmps142
    go_wp2
    go_ret
    exact ⟨ret_int E.out,B0.out⟩
   ·have E:=Lib.hid (EN.out hk3)
    go_enter Tryz.func142,Tryz.ntmps142
    go_wp2
    go_ret
    exact ⟨ret_int E.out,B0.out⟩
  ·have e0:L.length=0:=by omega
   have E:=Lib.hid (EN.out fun k=>absurd k h0)
   rw [e0] at B0 ⊢
   clear h0 e0 X
   go_enter Tryz.func142,Tryz.ntmps142
   go_wp2
   go_ret
   exact ⟨ret_int E.out,B0.out⟩
 ·have E:=Lib.hid (wid_o L h4 h5 h6)
  clear H
  simp only [I4,not_or] at h4
  simp only [I5,not_or] at h5
  obtain ⟨n1,n2,n3,n4,n5,n6⟩:=h4
  obtain ⟨n7,n8⟩:=h5
  have n9:¬s=_:=h6
  have q1:(s.toList == [66,73,84])=false:=by simpa using strB_ne n1
  have q2:(s.toList == [82,69,83])=false:=by simpa using strB_ne n2
  have q3:(s.toList == [83,69,84])=false:=by simpa using strB_ne n3
  have q4:(s.toList == [73,77])=false:=by simpa using strB_ne n4
  have q5:(s.toList == [82,83,84])=false:=by simpa using strB_ne n5
  have q6:(s.toList == [79,85,84])=false:=by simpa using strB_ne n6
  have q7:(s.toList == [74,80])=false:=by simpa using strB_ne n7
  have q8:(s.toList == [67,65,76,76])=false:=by simpa using strB_ne n8
  have q9:(s.toList == [76,68])=false:=by simpa using strB_ne n9
  clear n1 n2 n3 n4 n5 n6 n7 n8 n9 h6
  go_enter Tryz.func142,Tryz.ntmps142
  go_wp2
  go_ret
  exact ⟨ret_int E.out,B0.out⟩
end Go.Proofs.YtajlleeonddinaaGreatDoor
namespace Go.Proofs.YtajlleeonddinaaGreatDoor
open Go.RowKit
def W1:List ByteArray:=[⟨#[83,85,66]⟩,⟨#[65,78,68]⟩,⟨#[88,79,82]⟩,⟨#[79,82]⟩,⟨#[67,80]⟩]
def W2:List ByteArray:=[⟨#[65,68,68]⟩,⟨#[65,68,67]⟩,⟨#[83,66,67]⟩]
def W4:List ByteArray:=[⟨#[66,73,84]⟩,⟨#[82,69,83]⟩,⟨#[83,69,84]⟩,⟨#[73,77]⟩,⟨#[82,83,84]⟩,⟨#[79,85,84]⟩]
end Go.Proofs.YtajlleeonddinaaGreatDoor
namespace Go.Proofs.YtajlleeonddinaaGreatDoor
open Go.RowKit
def Dr (w:World) (b:Nat) (s:ByteArray) (v:Value):Prop:=w.heap[b]?=some (.cells #[.string s,v] 126 (0,0))
theorem Dr.cells {w:World} {b:Nat} {s:ByteArray} {v:Value} (h:Dr w b s v):w.cell? ⟨b,0,none⟩=some (.string s)∧w.cell? ⟨b,1,none⟩=some v∧w.frozen? ⟨b,0,none⟩=false∧w.frozen? ⟨b,1,none⟩=false:=
 ⟨by rw [Lib.cell_of_heap h];rfl,by rw [Lib.cell_of_heap h];rfl,Lib.frozen_of_heap h 0,Lib.frozen_of_heap h 1⟩
theorem Dr.lt {w:World} {b:Nat} {s:ByteArray} {v:Value} (h:Dr w b s v):b<w.heap.size:=(Array.getElem?_eq_some_iff.1 h).1
theorem Dr.below {w w':World} {b:Nat} {s:ByteArray} {v:Value} (h:Dr w b s v) (hb:Below w.heap.size w w'):Dr w' b s v:=(hb.block _ h.lt).trans h
theorem Dr.put {w:World} {b:Nat} {s:ByteArray} {v:Value} (h:Dr w b s v) (u:Value):Dr (w.setCell ⟨b,1,none⟩ u) b s u:=by
 have h1:=heap_setCell_same w b 1 _ _ u h
 exact h1
theorem Dr.other {w:World} {b g:Nat} {s:ByteArray} {v:Value} (h:Dr w b s v) (hg:g≠b) (j:Nat) (u:Value):Dr (w.setCell ⟨g,j,none⟩ u) b s v:=(heap_setCell_other w ⟨g,j,none⟩ b u hg.symm).trans h
def RowS (w:World) (n g off:Nat) (L:List Tr):Prop:=n≤g∧∃ cur,w.heap[g]?=some (.cells cur 55 (0,0))∧∀ j u,(cellsT L)[j]?=some u→cur[off+j]?=some u
def OwnS (w:World) (n:Nat) (v:Value) (L:List Tr):Prop:=
 (v=.slice none 0 0∧L=[])∨∃ g off cap,v=.slice (some ⟨g,off,none⟩) L.length cap∧L.length≤cap∧cap≤maxLen∧RowS w n g off L
theorem RowS.apart {w:World} {n g off b:Nat} {L:List Tr} {s:ByteArray} {v:Value} (h:RowS w n g off L) (hd:Dr w b s v):g≠b:=by
 rintro rfl
 obtain ⟨-,cur,hc,-⟩:=h
 rw [show w.heap[g]?=_ from hd] at hc
 simp at hc
theorem RowS.lt {w:World} {n g off:Nat} {L:List Tr} (h:RowS w n g off L):g<w.heap.size:=by
 obtain ⟨-,cur,hc,-⟩:=h
 exact (Array.getElem?_eq_some_iff.1 hc).1
theorem RowS.below {w w':World} {n g off:Nat} {L:List Tr} (h:RowS w n g off L) (hb:Below w.heap.size w w'):RowS w' n g off L:=by
 have hl:=h.lt
 obtain ⟨h1,cur,hc,h2⟩:=h
 exact ⟨h1,cur,(hb.block _ hl).trans hc,h2⟩
theorem RowS.cellAt {w:World} {n g off:Nat} {L:List Tr} (h:RowS w n g off L) (j:Nat) (u:Value) (e:(cellsT L)[j]?=some u):w.cell? ⟨g,off+j,none⟩=some u:=by
 obtain ⟨-,cur,hc,h2⟩:=h
 rw [Lib.cell_of_heap hc]
 exact h2 j u e
theorem RowS.frozen {w:World} {n g off:Nat} {L:List Tr} (h:RowS w n g off L) (j:Nat):w.frozen? ⟨g,j,none⟩=false:=by
 obtain ⟨-,cur,hc,-⟩:=h
 exact Lib.frozen_of_heap hc j
theorem RowS.at_ {w:World} {n g off:Nat} {L:List Tr} (h:RowS w n g off L) (j:Nat) (hj:j<L.length):w.cell? ⟨g,off+j*3,none⟩=some (.int .i64 L[j].1)∧w.cell? ⟨g,off+j*3+1,none⟩=some (.int .i64 L[j].2.1)∧w.cell? ⟨g,off+j*3+2,none⟩=some (.int .i64 L[j].2.2):=by
 obtain ⟨h1,h2,h3⟩:=cellsT_at L j hj
 exact ⟨h.cellAt _ _ h1,by rw [Nat.add_assoc];exact h.cellAt _ _ h2,by rw [Nat.add_assoc];exact h.cellAt _ _ h3⟩
theorem RowS.put {w:World} {n g off:Nat} {L L':List Tr} (h:RowS w n g off L) (j:Nat) (u:Value) (e:(cellsT L).set j u=cellsT L'):RowS (w.setCell ⟨g,off+j,none⟩ u) n g off L':=by
 obtain ⟨h1,cur,hc,h2⟩:=h
 refine ⟨h1,_,heap_setCell_same w g (off+j) _ _ u hc,fun k x hk=>?_⟩
 rw [← e,List.getElem?_set] at hk
 by_cases hjk:j=k
 ·subst hjk
  rw [if_pos rfl] at hk
  have hlen:off+j<cur.size:=by
   by_cases hj:j<(cellsT L).length
   ·have:=h2 j _ (List.getElem?_eq_getElem hj)
    exact (Array.getElem?_eq_some_iff.1 this).1
   ·rw [if_neg hj] at hk;cases hk
  split at hk
  ·simp only [Option.some.injEq] at hk
   subst hk
   simp [hlen]
  ·cases hk
 ·rw [if_neg hjk] at hk
  rw [Array.getElem?_setIfInBounds,if_neg (by omega)]
  exact h2 k x hk
theorem OwnS.below {w w':World} {n:Nat} {v:Value} {L:List Tr} (h:OwnS w n v L) (hb:Below w.heap.size w w'):OwnS w' n v L:=by
 rcases h with h | ⟨g,off,cap,h1,h2,h3,h4⟩
 ·exact .inl h
 ·exact .inr ⟨g,off,cap,h1,h2,h3,h4.below hb⟩
theorem OwnS.other {w:World} {n b:Nat} {v u:Value} {L:List Tr} {s:ByteArray} {x:Value} (h:OwnS w n v L) (hd:Dr w b s x) (j:Nat):OwnS (w.setCell ⟨b,j,none⟩ u) n v L:=by
 rcases h with h | ⟨g,off,cap,h1,h2,h3,h4⟩
 ·exact .inl h
 ·have hg:=h4.apart hd
  obtain ⟨h5,cur,hc,h6⟩:=h4
  exact .inr ⟨g,off,cap,h1,h2,h3,h5,cur,(heap_setCell_other w ⟨b,j,none⟩ g u hg).trans hc,h6⟩
theorem OwnS.ops {w:World} {n:Nat} {v:Value} {L:List Tr} (h:OwnS w n v L):∃ A cap,v=.slice A L.length cap∧OpsP w A L∧L.length≤cap∧cap≤maxLen:=by
 rcases h with ⟨rfl,rfl⟩ | ⟨g,off,cap,rfl,h2,h3,h4⟩
 ·exact ⟨none,0,rfl,.inl rfl,Nat.le_refl _,by unfold maxLen;omega⟩
 ·exact ⟨_,cap,rfl,.inr ⟨g,off,rfl,fun j hj=>h4.at_ j hj⟩,h2,h3⟩
theorem OwnT.own {w:World} {n:Nat} {v:Value} {L:List Tr} (h:OwnT w n v L):OwnS w n v L:=by
 obtain ⟨hl,h | ⟨g,cap,cur,rfl,h1,h2,h3,h4,h5,h6⟩⟩:=h
 ·exact .inl ⟨h.1,List.eq_nil_of_length_eq_zero h.2⟩
 ·refine .inr ⟨g,0,cap,rfl,h3,h4,h1,cur,h2,fun j u hj=>?_⟩
  rw [← h6,List.getElem?_take] at hj
  split at hj
  ·rw [Nat.zero_add];simpa using hj
  ·cases hj
theorem OwnS.lift {w:World} {n m:Nat} {v:Value} {L:List Tr} (h:OwnS w n v L) (k:m≤n):OwnS w m v L:=by
 rcases h with h | ⟨g,off,cap,h1,h2,h3,h4,h5⟩
 ·exact .inl h
 ·exact .inr ⟨g,off,cap,h1,h2,h3,Nat.le_trans k h4,h5⟩
theorem OwnS.nonnil {w:World} {n:Nat} {v:Value} {L:List Tr} (h:OwnS w n v L) (h0:0<L.length):∃ g off cap,v=.slice (some ⟨g,off,none⟩) L.length cap∧L.length≤cap∧cap≤maxLen∧RowS w n g off L:=by
 rcases h with ⟨-,rfl⟩ | h
 ·simp at h0
 ·exact h
theorem OwnS.alloc {w:World} {n:Nat} {v:Value} {L:List Tr} (h:OwnS w n v L) (o:Obj):OwnS (w.alloc o) n v L:=h.below ((Below.refl _ _).alloc (Nat.le_refl _) _)
theorem Dr.alloc {w:World} {b:Nat} {s:ByteArray} {v:Value} (h:Dr w b s v) (o:Obj):Dr (w.alloc o) b s v:=h.below ((Below.refl _ _).alloc (Nat.le_refl _) _)
end Go.Proofs.YtajlleeonddinaaGreatDoor
