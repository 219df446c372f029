/-
  SeVb, EnA, SeRd, CnW, CnV, CnD, CnN, CnP, Mixed2.
-/
import Derived.Test.YtoilebmbljpieaaGreatDoorGAP
import Derived.Test.YtoilebmbljpieaaGreatDoorMSeN
import Derived.Test.YtoilebmbljpieaaGreatDoorGAG
import Derived.Test.YtoilebmbljpieaaGreatDoorGAO
import Derived.Test.YtoilebmbljpieaaGreatDoorGAL
import Derived.Test.YtoilebmbljpieaaGreatDoorGAC
set_option linter.all false
set_option maxRecDepth 100000
set_option maxHeartbeats 4000000
namespace Go.Proofs.YtoilebmbljpieaaGreatDoor
open Go.RowKit
end Go.Proofs.YtoilebmbljpieaaGreatDoor
namespace Go.Proofs.YtoilebmbljpieaaGreatDoor
open Go.RowKit
def exB (g:Int) (n:Nat) (ex:Str):Bool:=
 (ex == []||ex == [100]||ex == [101]||ex == [110]||ex == [119]||ex == [100,110])&&(decide (g<5)||ex == [100]) &&
 (g != 0||(n != 203&&n != 221&&n != 237&&n != 253))&&((g != 3&&g != 4)||n != 203)
def exN (g n:Nat):Bool:=match ratT (g:Int) n with
 | some x=>exB (g:Int) n x.2.2.1
 | none=>true
theorem ex_k:∀ g:Fin 7,∀ n:Fin 256,exN g.val n.val=true:=by decide +kernel
theorem ex_of {page:Int} {n:Nat} (hn:n<256) {x:En} (h:ratT page n=some x):exB page n x.2.2.1=true∧0≤page∧page≤6:=by
 by_cases hp:0≤page∧page≤6
 ·obtain ⟨g,rfl⟩:∃ g:Nat,page=(g:Int):=⟨page.toNat,by omega⟩
  have h1:=ex_k ⟨g,by omega⟩ ⟨n,hn⟩
  unfold exN at h1
  rw [h] at h1
  exact ⟨h1,hp⟩
 ·rw [ratT_no hp] at h
  cases h
structure ExP (g:Int) (n:Nat) (ex:Str):Prop where
 lst:ex=[]∨ex=[100]∨ex=[101]∨ex=[110]∨ex=[119]∨ex=[100,110]
 hi:5≤g→ex=[100]
 main:g=0→n≠203∧n≠221∧n≠237∧n≠253
 ind:g=3∨g=4→n≠203
 pg:0≤g∧g≤6
theorem exP_of {page:Int} {n:Nat} (hn:n<256) {x:En} (h:ratT page n=some x):ExP page n x.2.2.1:=by
 obtain ⟨h1,h2⟩:=ex_of hn h
 unfold exB at h1
 simp only [Bool.and_eq_true,Bool.or_eq_true,beq_iff_eq,bne_iff_ne,decide_eq_true_eq,ne_eq] at h1
 obtain ⟨⟨⟨a,b⟩,c⟩,d⟩:=h1
 refine ⟨?_,fun h=>?_,fun h=>?_,fun h=>?_,h2⟩
 ·rcases a with ((((a | a) | a) | a) | a) | a
  ·exact .inl a
  ·exact .inr (.inl a)
  ·exact .inr (.inr (.inl a))
  ·exact .inr (.inr (.inr (.inl a)))
  ·exact .inr (.inr (.inr (.inr (.inl a))))
  ·exact .inr (.inr (.inr (.inr (.inr a))))
 ·rcases b with b | b
  ·omega
  ·exact b
 ·rcases c with c | c
  ·exact absurd h c
  ·exact ⟨c.1.1.1,c.1.1.2,c.1.2,c.2⟩
 ·rcases d with d | d
  ·rcases h with h | h
   ·exact absurd h d.1
   ·exact absurd h d.2
  ·exact d
theorem putB_rng {v:Vr} {L:List Tr} {n:Int} (hz:v.2.1≤0∧0≤v.2.2) (h:putB v L n=true):v.2.1≤n∧n≤v.2.2:=by
 unfold putB at h
 cases ha:atV v.1 L with
 | none=>
  rw [ha] at h
  simp only [decide_eq_true_eq] at h
  omega
 | some k=>
  rw [ha] at h
  simp only at h
  unfold inV at h
  simpa using h
def numsIn (ex:Str) (d n:Int):Prop:=
 (ex=[]→d=0∧n=0)∧(ex=[100]→-128≤d∧d≤127∧n=0)∧(ex=[101]→d=0∧-128≤n∧n≤127)∧(ex=[110]→d=0∧0≤n∧n≤255)∧(ex=[119]→d=0∧0≤n∧n≤65535)∧(ex=[100,110]→-128≤d∧d≤127∧0≤n∧n≤255)
theorem nums_in {ex:Str} {L C:List Tr} {d n:Int} (h:fillV ex L d n=some C):numsIn ex d n:=by
 obtain ⟨-,h1,h2,-⟩:=fill_shape h
 refine ⟨?_,?_,?_,?_,?_,?_⟩
 ·rintro rfl
  have e1:=putB_rng (v:=(varsV []).1) (by decide) h1
  have e2:=putB_rng (v:=(varsV []).2) (by decide) h2
  have f1:(varsV []).1.2=(0,0):=rfl
  have f2:(varsV []).2.2=(0,0):=rfl
  rw [f1] at e1
  rw [f2] at e2
  simp only at e1 e2
  omega
 ·rintro rfl
  have e1:=putB_rng (v:=(varsV [100]).1) (by decide) h1
  have e2:=putB_rng (v:=(varsV [100]).2) (by decide) h2
  have f1:(varsV [100]).1.2=(-128,127):=rfl
  have f2:(varsV [100]).2.2=(0,0):=rfl
  rw [f1] at e1
  rw [f2] at e2
  simp only at e1 e2
  omega
 ·rintro rfl
  have e1:=putB_rng (v:=(varsV [101]).1) (by decide) h1
  have e2:=putB_rng (v:=(varsV [101]).2) (by decide) h2
  have f1:(varsV [101]).1.2=(0,0):=rfl
  have f2:(varsV [101]).2.2=(-128,127):=rfl
  rw [f1] at e1
  rw [f2] at e2
  simp only at e1 e2
  omega
 ·rintro rfl
  have e1:=putB_rng (v:=(varsV [110]).1) (by decide) h1
  have e2:=putB_rng (v:=(varsV [110]).2) (by decide) h2
  have f1:(varsV [110]).1.2=(0,0):=rfl
  have f2:(varsV [110]).2.2=(0,255):=rfl
  rw [f1] at e1
  rw [f2] at e2
  simp only at e1 e2
  omega
 ·rintro rfl
  have e1:=putB_rng (v:=(varsV [119]).1) (by decide) h1
  have e2:=putB_rng (v:=(varsV [119]).2) (by decide) h2
  have f1:(varsV [119]).1.2=(0,0):=rfl
  have f2:(varsV [119]).2.2=(0,65535):=rfl
  rw [f1] at e1
  rw [f2] at e2
  simp only at e1 e2
  omega
 ·rintro rfl
  have e1:=putB_rng (v:=(varsV [100,110]).1) (by decide) h1
  have e2:=putB_rng (v:=(varsV [100,110]).2) (by decide) h2
  have f1:(varsV [100,110]).1.2=(-128,127):=rfl
  have f2:(varsV [100,110]).2.2=(0,255):=rfl
  rw [f1] at e1
  rw [f2] at e2
  simp only at e1 e2
  omega
def hdB:Str→Option (Int×UInt8×Str)
 | []=>none
 | b :: r=>
  if b=203 then (match r with | o :: t=>some (1,o,t) | []=>none)
  else if b=237 then (match r with | o :: t=>some (2,o,t) | []=>none)
  else if b=221 then (match r with | o :: t=>if o=203 then (match t with | x :: y :: u=>some (5,y,x :: u) | _=>none) else some (3,o,t) | []=>none)
  else if b=253 then (match r with | o :: t=>if o=203 then (match t with | x :: y :: u=>some (6,y,x :: u) | _=>none) else some (4,o,t) | []=>none)
  else some (0,b,r)
theorem op_ne {n m:Nat} (hn:n<256) (hm:m<256) (h:n≠m):byteI (n:Int)≠UInt8.ofNat m:=fun e=>by
 have h1:=byteI_nat (n:Int)
 rw [e,UInt8.toNat_ofNat_of_lt' (show m<256 from hm)] at h1
 omega
theorem hd_enc {g:Int} {n:Nat} (hn:n<256) {ex:Str} (hx:ExP g n ex) (d x:Int) (r:Str) :
  hdB (encB g (n:Int) ex d x++r)=some (g,byteI (n:Int),if 5≤g then byteI d :: r else ex.flatMap (letB d x)++r):=by
 obtain ⟨h0,h6⟩:=hx.pg
 unfold encB
 rcases (by omega:g=0∨g=1∨g=2∨g=3∨g=4∨g=5∨g=6) with rfl | rfl | rfl | rfl | rfl | rfl | rfl
 ·obtain ⟨m1,m2,m3,m4⟩:=hx.main rfl
  have e1:byteI (n:Int)≠203:=op_ne hn (by decide) m1
  have e2:byteI (n:Int)≠221:=op_ne hn (by decide) m2
  have e3:byteI (n:Int)≠237:=op_ne hn (by decide) m3
  have e4:byteI (n:Int)≠253:=op_ne hn (by decide) m4
  have e5:preS 0=[]:=rfl
  rw [e5,if_neg (by decide),if_neg (by decide)]
  simp only [List.nil_append,List.cons_append,hdB,if_neg e1,if_neg e2,if_neg e3,if_neg e4]
 ·rfl
 ·rfl
 ·have e1:byteI (n:Int)≠203:=op_ne hn (by decide) (hx.ind (.inl rfl))
  have e5:preS 3=[221]:=rfl
  rw [e5,if_neg (by decide),if_neg (by decide)]
  simp only [List.nil_append,List.cons_append,hdB,if_neg e1,show ((221:UInt8)=203)=False from by decide,show ((221:UInt8)=237)=False from by decide,if_false,if_true]
 ·have e1:byteI (n:Int)≠203:=op_ne hn (by decide) (hx.ind (.inr rfl))
  have e5:preS 4=[253]:=rfl
  rw [e5,if_neg (by decide),if_neg (by decide)]
  simp only [List.nil_append,List.cons_append,hdB,if_neg e1,show ((253:UInt8)=203)=False from by decide,show ((253:UInt8)=237)=False from by decide,show ((253:UInt8)=221)=False from by decide,if_false,if_true]
 ·rfl
 ·rfl
theorem d_inj {a b:Int} (ha : -128≤a∧a≤127) (hb : -128≤b∧b≤127) (h:byteI a=byteI b):a=b:=by have:=byteI_inj h;omega
theorem n_inj {a b:Int} (ha:0≤a∧a≤255) (hb:0≤b∧b≤255) (h:byteI a=byteI b):a=b:=by have:=byteI_inj h;omega
theorem w_inj {a b:Int} (ha:0≤a∧a≤65535) (hb:0≤b∧b≤65535) (h:byteI a=byteI b) (h2:byteI (a / 256)=byteI (b / 256)):a=b:=by
 have:=byteI_inj h
 have:=byteI_inj h2
 omega
theorem lets_inj {g:Int} {i:Nat} {ex:Str} (hx:ExP g i ex) {d n d' n':Int} (hi:numsIn ex d n) (hi':numsIn ex d' n') {r r':Str} (h:ex.flatMap (letB d n)++r=ex.flatMap (letB d' n')++r'):d=d'∧n=n'∧r=r':=by
 obtain ⟨a0,a1,a2,a3,a4,a5⟩:=hi
 obtain ⟨b0,b1,b2,b3,b4,b5⟩:=hi'
 rcases hx.lst with rfl | rfl | rfl | rfl | rfl | rfl
 ·obtain ⟨rfl,rfl⟩:=a0 rfl
  obtain ⟨rfl,rfl⟩:=b0 rfl
  exact ⟨rfl,rfl,h⟩
 ·obtain ⟨c1,c2,rfl⟩:=a1 rfl
  obtain ⟨e1,e2,rfl⟩:=b1 rfl
  have h:byteI d :: r=byteI d' :: r':=h
  exact ⟨d_inj ⟨c1,c2⟩ ⟨e1,e2⟩ (List.cons.inj h).1,rfl,(List.cons.inj h).2⟩
 ·obtain ⟨rfl,c1,c2⟩:=a2 rfl
  obtain ⟨rfl,e1,e2⟩:=b2 rfl
  have h:byteI n :: r=byteI n' :: r':=h
  exact ⟨rfl,d_inj ⟨c1,c2⟩ ⟨e1,e2⟩ (List.cons.inj h).1,(List.cons.inj h).2⟩
 ·obtain ⟨rfl,c1,c2⟩:=a3 rfl
  obtain ⟨rfl,e1,e2⟩:=b3 rfl
  have h:byteI n :: r=byteI n' :: r':=h
  exact ⟨rfl,n_inj ⟨c1,c2⟩ ⟨e1,e2⟩ (List.cons.inj h).1,(List.cons.inj h).2⟩
 ·obtain ⟨rfl,c1,c2⟩:=a4 rfl
  obtain ⟨rfl,e1,e2⟩:=b4 rfl
  have h:byteI n :: byteI (n / 256) :: r=byteI n' :: byteI (n' / 256) :: r':=h
  obtain ⟨h1,h2⟩:=List.cons.inj h
  obtain ⟨h2,h3⟩:=List.cons.inj h2
  exact ⟨rfl,w_inj ⟨c1,c2⟩ ⟨e1,e2⟩ h1 h2,h3⟩
 ·obtain ⟨c1,c2,c3,c4⟩:=a5 rfl
  obtain ⟨e1,e2,e3,e4⟩:=b5 rfl
  have h:byteI d :: byteI n :: r=byteI d' :: byteI n' :: r':=h
  obtain ⟨h1,h2⟩:=List.cons.inj h
  obtain ⟨h2,h3⟩:=List.cons.inj h2
  exact ⟨d_inj ⟨c1,c2⟩ ⟨e1,e2⟩ h1,n_inj ⟨c3,c4⟩ ⟨e3,e4⟩ h2,h3⟩
theorem enc_inj {k k':Ke} (hk:InTab k) (hk':InTab k') {d n d' n':Int} {C C':List Tr} (hf:fillV k.2.2.2.2.1 k.2.2.2.1 d n=some C) (hf':fillV k'.2.2.2.2.1 k'.2.2.2.1 d' n'=some C') {r r':Str}
  (h:encB k.1 k.2.1 k.2.2.2.2.1 d n++r=encB k'.1 k'.2.1 k'.2.2.2.2.1 d' n'++r'):k=k'∧d=d'∧n=n'∧r=r':=by
 obtain ⟨g,o,m,L,ex,al⟩:=k
 obtain ⟨g',o',m',L',ex',al'⟩:=k'
 obtain ⟨i,hi,e1,e2⟩:=hk
 obtain ⟨j,hj,e3,e4⟩:=hk'
 simp only at e1 e2 e3 e4 hf hf' h
 subst e1 e3
 have hx:=exP_of hi e2
 have hx':=exP_of hj e4
 simp only at hx hx'
 have q:=congrArg hdB h
 rw [hd_enc hi hx,hd_enc hj hx'] at q
 simp only [Option.some.injEq,Prod.mk.injEq] at q
 obtain ⟨rfl,q2,q3⟩:=q
 have hij:i=j:=by have:=byteI_inj q2;omega
 subst hij
 rw [e2] at e4
 simp only [Option.some.injEq,Prod.mk.injEq] at e4
 obtain ⟨rfl,rfl,rfl,rfl⟩:=e4
 by_cases h5:5≤g
 ·rw [if_pos h5,if_pos h5] at q3
  obtain rfl:=hx.hi h5
  have l:=lets_inj hx (nums_in hf) (nums_in hf') (r:=r) (r':=r') q3
  exact ⟨rfl,l⟩
 ·rw [if_neg h5,if_neg h5] at q3
  have l:=lets_inj hx (nums_in hf) (nums_in hf') q3
  exact ⟨rfl,l⟩
theorem enc_len {k:Ke} (hk:InTab k) (d n:Int):(encB k.1 k.2.1 k.2.2.2.2.1 d n).length=sizeT k.1 k.2.2.2.2.1∧1≤sizeT k.1 k.2.2.2.2.1∧sizeT k.1 k.2.2.2.2.1≤4:=by
 obtain ⟨g,o,m,L,ex,al⟩:=k
 obtain ⟨i,hi,e1,e2⟩:=hk
 have hx:=exP_of hi e2
 simp only at hx e1 ⊢
 subst e1
 obtain ⟨h0,h6⟩:=hx.pg
 have hsz:1≤sizeT g ex∧sizeT g ex≤4:=by
  by_cases h5:5≤g
  ·rw [hx.hi h5]
   rcases (by omega:g=5∨g=6) with rfl | rfl <;> decide
  ·rcases (by omega:g=0∨g=1∨g=2∨g=3∨g=4) with rfl | rfl | rfl | rfl | rfl <;> rcases hx.lst with rfl | rfl | rfl | rfl | rfl | rfl <;> decide
 refine ⟨?_,hsz⟩
 unfold encB sizeT
 by_cases h5:5≤g
 ·rw [if_pos h5,hx.hi h5]
  rcases (by omega:g=5∨g=6) with rfl | rfl <;> rfl
 ·rw [if_neg h5,List.length_append]
  rcases hx.lst with rfl | rfl | rfl | rfl | rfl | rfl <;> rfl
end Go.Proofs.YtoilebmbljpieaaGreatDoor
namespace Go.Proofs.YtoilebmbljpieaaGreatDoor
open Go.RowKit Go.Shelf
attribute [local go_sem] Oper.semAt_some
theorem shaped_any (page op:Int) (m:Str) (A:Option Addr) (cap l:Nat) (L:List Tr) (hl:L.length=l) (hL:l≤1000) (ex:Str) (al:Bool) (s:ByteArray) (Ac:Option Addr) (cc lc:Nat) (C:List Tr) (hlc:C.length=lc) (hLc:lc≤1000) (w:World) (H:OpsP w A L) (HC:OpsP w Ac C) :
  Calls Tryz.prog 95 #[enV page op m (.slice A l cap) ex al,.agg #[.string s,.slice Ac lc cc]] w fun e w'=>e=.returned (.bool (shpR m L s C))∧Below w.heap.size w w':=by
 unfold enV
 obtain ⟨w0,hw0⟩:∃ z,(w.alloc (.cells #[.int .i64 page,.int .u8 op,.string (sB m),.slice A l cap,.string (sB ex),.bool al] 41)).alloc (.cells #[.string s,.slice Ac lc cc] 26)=z:=⟨_,rfl⟩
 obtain ⟨n,hn⟩:∃ z,w.heap.size=z:=⟨_,rfl⟩
 have b0:Below w.heap.size w w0:=by rw [← hw0];exact ((Below.refl _ w).alloc (Nat.le_refl _) _).alloc (by simp) _
 have c0:w0.heap[n]?=some (.cells #[.int .i64 page,.int .u8 op,.string (sB m),.slice A l cap,.string (sB ex),.bool al] 41 (0,0)):=by rw [← hw0,← hn];exact (Below.heap_alloc _ _ _ (by simp)).trans (World.alloc_heap_new w _)
 have c1:w0.heap[n+1]?=some (.cells #[.string s,.slice Ac lc cc] 26 (0,0)):=by
  rw [← hw0,← hn]
  have h:=World.alloc_heap_new (w.alloc (.cells #[.int .i64 page,.int .u8 op,.string (sB m),.slice A l cap,.string (sB ex),.bool al] 41)) (.cells #[.string s,.slice Ac lc cc] 26)
  rwa [World.size_alloc] at h
 have BB:Hid (Below n w w0):=by rw [← hn];exact b0
 have HN:=Lib.hid hn
 have PL:=Lib.hid (H.below b0)
 have PC:=Lib.hid (HC.below b0)
 have k2:=Lib.cell_of_heap c0 2
 have k3:=Lib.cell_of_heap c0 3
 have j0:=Lib.cell_of_heap c1 0
 have j1:=Lib.cell_of_heap c1 1
 have hd:=below_drewN w0 w0.heap.size
 clear H HC b0
 by_cases hs:sB m=s
 rotate_left
 ·have hq:=strB_ne hs
  have T:Hid (false=shpR m L s C):=by show false=_;unfold shpR;rw [decide_eq_false hs];rfl
  clear hs hlc hl
  go_enter Tryz.func95,Tryz.ntmps95
  go_wp2
  go_ret
  exact ⟨ret_bool T.out,by rw [HN.out];exact BB.out⟩
 subst hs
 have hq:=strB_eq (sB m)
 by_cases hll:l=lc
 rotate_left
 ·have T:Hid (false=shpR m L (sB m) C):=by show false=_;unfold shpR;rw [show decide (L.map ks2=C.map ks2)=false from decide_eq_false (fun e=>hll (by rw [← hl,← hlc];exact len_of_shape e))];simp
  have e1:((l:Int) == (lc:Int))=false:=beq_eq_false_iff_ne.2 (by omega)
  have e2:¬((l:Int)=(lc:Int)):=by omega
  clear hlc hl hll
  go_enter Tryz.func95,Tryz.ntmps95
  go_wp2
  go_ret
  exact ⟨ret_bool T.out,by rw [HN.out];exact BB.out⟩
 subst hll
 have HL1:=Lib.hid hl
 have HL2:=Lib.hid hlc
 have KK:Hid (w0.heap[n]?=some (.cells #[.int .i64 page,.int .u8 op,.string (sB m),.slice A l cap,.string (sB ex),.bool al] 41 (0,0))∧w0.heap[n+1]?=some (.cells #[.string (sB m),.slice Ac l cc] 26 (0,0))):=⟨c0,c1⟩
 clear hl hlc c0 c1 hLc
 go_enter Tryz.func95,Tryz.ntmps95
 go_wp2
 clear hd hw0 k2 k3 j0 j1 hq
 go_loopw [5] (fun i wr=>∃ j:Nat,j≤l∧i=.int .i64 j∧Hid (∀ k,k<j→ks2 (L.getD k tr0)=ks2 (C.getD k tr0))∧Hid (Below w0.heap.size w0 wr)) (fun i _=>l - (intOf i).toNat)
 case atStart=>exact ⟨0,Nat.zero_le _,rfl,fun k h=>by omega,Below.refl _ _⟩
 case round=>
  obtain ⟨j,hj,rfl,R,B⟩:=hrel
  have s0:n<w0.heap.size:=(Array.getElem?_eq_some_iff.1 KK.out.1).1
  have s1:n+1<w0.heap.size:=(Array.getElem?_eq_some_iff.1 KK.out.2).1
  have d0:=(B.out.block n s0).trans KK.out.1
  have d1:=(B.out.block (n+1) s1).trans KK.out.2
  have k3:=Lib.cell_of_heap d0 3
  have j1:=Lib.cell_of_heap d1 1
  have B2:=fun q=>Lib.hid (B.out.trans (below_drewN wr w0.heap.size q))
  have BF:Hid (∀ q,Below n w (wr.drewN q)):=fun q=>BB.out.trans ((B2 q).out.mono (by omega))
  by_cases hlt:j<l
  ·have hj1:j<L.length:=by have:=HL1.out;omega
   have hj2:j<C.length:=by have:=HL2.out;omega
   obtain ⟨b1,o1,rfl,-,p0,p1,p2⟩:=(PL.out.below B.out).at_ hj1
   obtain ⟨b2,o2,rfl,-,q0,q1,q2⟩:=(PC.out.below B.out).at_ hj2
   have g1:L.getD j tr0=L[j]:=by rw [List.getD_eq_getElem?_getD,List.getElem?_eq_getElem hj1];rfl
   have g2:C.getD j tr0=C[j]:=by rw [List.getD_eq_getElem?_getD,List.getElem?_eq_getElem hj2];rfl
   rw [← g1] at p0 p1 p2
   rw [← g2] at q0 q1 q2
   have R2:Hid (ks2 (L.getD j tr0)=ks2 (C.getD j tr0)→∀ k,k<j+1→ks2 (L.getD k tr0)=ks2 (C.getD k tr0)):=fun h k hk=>by
    by_cases e:k=j
    ·subst e;exact h
    ·exact R.out k (by omega)
   have RF:Hid (ks2 (L.getD j tr0)≠ks2 (C.getD j tr0)→shpR m L (sB m) C=false):=fun h=>by
    unfold shpR
    rw [show decide (L.map ks2=C.map ks2)=false from decide_eq_false (fun e=>h (by
     have h2:=get_of_shape e j hj1
     exact Prod.ext h2.1 h2.2))]
    simp
   obtain ⟨⟨x0,x1,x2⟩,hx⟩:∃ x,L.getD j tr0=x:=⟨_,rfl⟩
   obtain ⟨⟨y0,y1,y2⟩,hy⟩:∃ y,C.getD j tr0=y:=⟨_,rfl⟩
   rw [hx] at p0 p1 p2 R2 RF
   rw [hy] at q0 q1 q2 R2 RF
   simp only [ks2] at p0 p1 p2 q0 q1 q2 R2 RF
   have hjc:(j:Int)<(l:Int):=by omega
   clear hx hy g1 g2 hj1 hj2 R d0 d1
   by_cases h0:x0=y0
   ·subst h0
    by_cases h1:x1=y1
    ·subst h1
     have R3:=Lib.hid (R2.out rfl)
     go_wp2
     go_quiet (fail)
     go_wp2
     go_roundw
     case rel=>exact ⟨j+1,by omega,by go_num,R3.out,(B2 _).out⟩
     case measure=>simp [intOf];omega
    ·have T:=Lib.hid (RF.out (fun e=>h1 (congrArg (fun z:Int×Int=>z.2) e)))
     have e1:(x1 == y1)=false:=beq_eq_false_iff_ne.2 h1
     go_wp2
     go_quiet (fail)
     go_wp2
     go_ret
     exact ⟨ret_bool T.out.symm,by rw [HN.out];exact BF.out _⟩
   ·have T:=Lib.hid (RF.out (fun e=>h0 (congrArg (fun z:Int×Int=>z.1) e)))
    have e1:(x0 == y0)=false:=beq_eq_false_iff_ne.2 h0
    go_wp2
    go_quiet (fail)
    go_wp2
    go_ret
    exact ⟨ret_bool T.out.symm,by rw [HN.out];exact BF.out _⟩
  ·have T:Hid (true=shpR m L (sB m) C):=by
    show true=_
    unfold shpR
    rw [decide_eq_true rfl,decide_eq_true]
    ·rfl
    ·refine List.ext_getElem (by simp [HL1.out,HL2.out]) fun k a b=>?_
     have a':k<L.length:=by simpa using a
     have b':k<C.length:=by simpa using b
     have h:=R.out k (by have:=HL1.out;omega)
     rw [List.getElem_map,List.getElem_map]
     rw [List.getD_eq_getElem?_getD,List.getElem?_eq_getElem a',List.getD_eq_getElem?_getD,List.getElem?_eq_getElem b'] at h
     exact h
   have BE:Hid (Below n w wr):=BB.out.trans (B.out.mono (by omega))
   clear R B2 BF d0 d1
   go_wp2
   go_ret
   exact ⟨ret_bool T.out,by rw [HN.out];exact BE.out⟩
end Go.Proofs.YtoilebmbljpieaaGreatDoor
namespace Go.Proofs.YtoilebmbljpieaaGreatDoor
open Go.RowKit
theorem wid_4 {s:ByteArray} (L:List Tr) (h:I4 s):(0:Int)=widL (opc s) L:=by rw [opc_4 h];rfl
theorem wid_5 {s:ByteArray} (L:List Tr) (h:I5 s):(2:Int)=widL (opc s) L:=by rw [opc_5 h];rfl
theorem wid_6y {s:ByteArray} (L:List Tr) (h:I6 s) (k:0<L.length) (e:L[0].1=3):(2:Int)=widL (opc s) L:=by
 rw [opc_6 h]
 cases L with
 | nil=>simp at k
 | cons t r=>
  have e':t.1=3:=e
  unfold widL
  rw [if_neg (by omega),if_neg (by omega),if_pos ⟨rfl,by simp [e']⟩]
theorem wid_6n {s:ByteArray} (L:List Tr) (h:I6 s) (e:∀ k:0<L.length,¬L[0].1=3):(1:Int)=widL (opc s) L:=by
 rw [opc_6 h]
 unfold widL
 rw [if_neg (by omega),if_neg (by omega),if_neg]
 rintro ⟨-,q⟩
 cases L with
 | nil=>simp at q
 | cons t r=>exact e (by simp) (by simpa using q)
theorem wid_o {s:ByteArray} (L:List Tr) (h4:¬I4 s) (h5:¬I5 s) (h6:¬I6 s):(1:Int)=widL (opc s) L:=by
 unfold widL
 rw [if_neg (opc_n4 h4),if_neg (opc_n5 h5),if_neg (fun q=>opc_n6 h6 q.1)]
theorem width_any (s:ByteArray) (A:Option Addr) (cap:Nat) (L:List Tr) (hL:L.length≤1000) (w:World) (H:OpsP w A L) :
  Calls Tryz.prog 154 #[.agg #[.string s,.slice A L.length cap]] w fun e w'=>e=.returned (.int .i64 (widL (opc s) L))∧Below w.heap.size w w':=by
 have B0:Hid (Below w.heap.size w (w.alloc (.cells #[.string s,.slice A L.length cap] 26))):=(Below.refl _ _).alloc (Nat.le_refl _) _
 by_cases h4:I4 s
 ·have E:=Lib.hid (wid_4 L h4)
  clear H
  rcases h4 with rfl | rfl | rfl | rfl | rfl | rfl
  all_goals
   go_enter Tryz.func154,Tryz.ntmps154
   go_wp2
   go_ret
   exact ⟨ret_int E.out,B0.out⟩
 by_cases h5:I5 s
 ·have E:=Lib.hid (wid_5 L h5)
  clear H h4
  rcases h5 with rfl | rfl
  all_goals
   go_enter Tryz.func154,Tryz.ntmps154
   go_wp2
   go_ret
   exact ⟨ret_int E.out,B0.out⟩
 by_cases h6:I6 s
 ·have EY:=Lib.hid (wid_6y L h6)
  have EN:=Lib.hid (wid_6n L h6)
  have X:=Lib.hid (H.below B0.out)
  clear h4 h5 H
  obtain rfl:s=_:=h6
  by_cases h0:0<L.length
  ·obtain ⟨b,off,rfl,hb,p0,p1,p2⟩:=X.out.at_ h0
   rw [Nat.zero_mul,Nat.add_zero] at p0
   obtain ⟨n,hn⟩:∃ n,L.length=n:=⟨_,rfl⟩
   have EY:=Lib.hid (EY.out h0)
   have EN:=Lib.hid (fun (q:¬L[0].1=3)=>EN.out fun _=>q)
   obtain ⟨k,hk⟩:∃ k,L[0].1=k:=⟨_,rfl⟩
   rw [hk] at EY EN p0
   have g1:decide ((0:Int)<(L.length:Int))=true:=decide_eq_true (by omega)
   have g2:(0:Int)<(L.length:Int):=by omega
   have hL2:L.length≤1000:=hL
   rw [hn] at hL p0 p1 p2 B0 X g1 g2 ⊢
   clear hn hk h0 p1 p2 hb
   by_cases hk3:k=3
   ·have E:=Lib.hid (EY.out hk3)
    subst hk3
    go_enter Tryz.func154,Tryz.ntmps154
    go_wp2
    go_ret
    exact ⟨ret_int E.out,B0.out⟩
   ·have E:=Lib.hid (EN.out hk3)
    go_enter Tryz.func154,Tryz.ntmps154
    go_wp2
    go_ret
    exact ⟨ret_int E.out,B0.out⟩
  ·have e0:L.length=0:=by omega
   have E:=Lib.hid (EN.out fun k=>absurd k h0)
   rw [e0] at B0 ⊢
   clear h0 e0 X
   go_enter Tryz.func154,Tryz.ntmps154
   go_wp2
   go_ret
   exact ⟨ret_int E.out,B0.out⟩
 ·have E:=Lib.hid (wid_o L h4 h5 h6)
  clear H
  simp only [I4,not_or] at h4
  simp only [I5,not_or] at h5
  obtain ⟨n1,n2,n3,n4,n5,n6⟩:=h4
  obtain ⟨n7,n8⟩:=h5
  have n9:¬s=_:=h6
  have q1:(s.toList == [66,73,84])=false:=by simpa using strB_ne n1
  have q2:(s.toList == [82,69,83])=false:=by simpa using strB_ne n2
  have q3:(s.toList == [83,69,84])=false:=by simpa using strB_ne n3
  have q4:(s.toList == [73,77])=false:=by simpa using strB_ne n4
  have q5:(s.toList == [82,83,84])=false:=by simpa using strB_ne n5
  have q6:(s.toList == [79,85,84])=false:=by simpa using strB_ne n6
  have q7:(s.toList == [74,80])=false:=by simpa using strB_ne n7
  have q8:(s.toList == [67,65,76,76])=false:=by simpa using strB_ne n8
  have q9:(s.toList == [76,68])=false:=by simpa using strB_ne n9
  clear n1 n2 n3 n4 n5 n6 n7 n8 n9 h6
  go_enter Tryz.func154,Tryz.ntmps154
  go_wp2
  go_ret
  exact ⟨ret_int E.out,B0.out⟩
end Go.Proofs.YtoilebmbljpieaaGreatDoor
namespace Go.Proofs.YtoilebmbljpieaaGreatDoor
open Go.RowKit
def inL (WL:List ByteArray) (s:ByteArray):Bool:=WL.any fun x=>x.toList == s.toList
theorem inL_yes (WL:List ByteArray) (s:ByteArray) (j:Nat) (h:j<WL.length) (e:(WL[j].toList == s.toList)=true):true=inL WL s:=
 (List.any_eq_true.2 ⟨_,List.getElem_mem h,e⟩).symm
theorem inL_no (WL:List ByteArray) (s:ByteArray) (h:∀ k,k<WL.length→∀ (a:k<WL.length),(WL[k].toList == s.toList)=false):false=inL WL s:=by
 refine (List.any_eq_false.2 fun x hx=>?_).symm
 obtain ⟨k,hk,rfl⟩:=List.getElem_of_mem hx
 rw [h k hk hk]
 exact Bool.false_ne_true
theorem in_any (A:Option Addr) (cap:Nat) (WL:List ByteArray) (hW:WL.length≤1000) (s:ByteArray) (w:World) (H:StrsA w A WL) :
  Calls Tryz.prog 53 #[.slice A WL.length cap,.string s] w fun e w'=>e=.returned (.bool (inL WL s))∧w=w':=by
 have X:=Lib.hid H
 have YE:=Lib.hid (inL_yes WL s)
 have NO:=Lib.hid (inL_no WL s)
 obtain ⟨n,hn⟩:∃ n,WL.length=n:=⟨_,rfl⟩
 have HN:=Lib.hid hn
 rw [hn] at hW ⊢
 clear H hn
 go_enter Tryz.func53,Tryz.ntmps53
 go_wp2
 go_loopw [5] (fun i wr=>∃ j:Nat,j≤n∧i=.int .i64 j∧Hid (∀ k,k<j→∀ (a:k<WL.length),(WL[k].toList == s.toList)=false)∧wr=w) (fun i _=>n - (intOf i).toNat)
 case atStart=>exact ⟨0,Nat.zero_le _,rfl,fun k h=>by omega,rfl⟩
 case round=>
  obtain ⟨j,hj,rfl,R,rfl⟩:=hrel
  by_cases hlt:j<n
  ·have hj1:j<WL.length:=by rw [HN.out];exact hlt
   obtain ⟨b1,o1,hA1,p0⟩:=X.out.at_ hj1
   subst hA1
   cases q:(WL[j].toList == s.toList)
   ·have R2:Hid (∀ k,k<j+1→∀ (a:k<WL.length),(WL[k].toList == s.toList)=false):=fun k hk a=>by
     by_cases e:k=j
     ·subst e;exact q
     ·exact R.out k (by omega) a
    obtain ⟨x,hx⟩:∃ x,WL[j]=x:=⟨_,rfl⟩
    rw [hx] at p0 q
    clear hx R hj1
    go_wp2
    go_roundw
    case rel=>exact ⟨j+1,by omega,by go_num,R2.out,trivial⟩
    case measure=>simp [intOf];omega
   ·have T:Hid (true=inL WL s):=YE.out j hj1 q
    obtain ⟨x,hx⟩:∃ x,WL[j]=x:=⟨_,rfl⟩
    rw [hx] at p0 q
    clear hx R hj1
    go_wp2
    go_ret
    exact ⟨ret_bool T.out,rfl⟩
  ·have T:Hid (false=inL WL s):=NO.out fun k hk a=>R.out k (by have:=HN.out;omega) a
   clear R
   go_wp2
   go_ret
   exact ⟨ret_bool T.out,rfl⟩
def W1:List ByteArray:=[⟨#[83,85,66]⟩,⟨#[65,78,68]⟩,⟨#[88,79,82]⟩,⟨#[79,82]⟩,⟨#[67,80]⟩]
def W2:List ByteArray:=[⟨#[65,68,68]⟩,⟨#[65,68,67]⟩,⟨#[83,66,67]⟩]
def W4:List ByteArray:=[⟨#[66,73,84]⟩,⟨#[82,69,83]⟩,⟨#[83,69,84]⟩,⟨#[73,77]⟩,⟨#[82,83,84]⟩,⟨#[79,85,84]⟩]
theorem eqB (a b:ByteArray):(a.toList == b.toList)=decide (b=a):=by
 by_cases h:b=a
 ·subst h;rw [strB_eq,decide_eq_true rfl]
 ·rw [decide_eq_false h,strB_ne (fun e=>h e.symm)]
theorem in_1 (s:ByteArray):inL W1 s=decide (I1 s):=Bool.eq_iff_iff.2 (by rw [decide_eq_true_iff];simp [inL,W1,I1,eqB])
theorem in_2 (s:ByteArray):inL W2 s=decide (I2 s):=Bool.eq_iff_iff.2 (by rw [decide_eq_true_iff];simp [inL,W2,I2,eqB])
theorem in_4 (s:ByteArray):inL W4 s=decide (I4 s):=Bool.eq_iff_iff.2 (by rw [decide_eq_true_iff];simp [inL,W4,I4,eqB])
theorem rwidth_any (s:ByteArray) (A:Option Addr) (cap:Nat) (L:List Tr) (hL:L.length≤1000) (w:World) (H:OpsP w A L) :
  Calls Tryz.prog 54 #[.agg #[.string s,.slice A L.length cap]] w fun e w'=>e=.returned (.int .i64 (widL (opc s) L))∧Below w.heap.size w w':=by
 obtain ⟨w1,hw1⟩:∃ w1,(w.alloc (.cells #[.string s,.slice A L.length cap] 26)).alloc (.cells (W4.map Value.string).toArray 9)=w1:=⟨_,rfl⟩
 have B1:Hid (Below w.heap.size w w1):=by rw [← hw1];exact ((Below.refl _ _).alloc (Nat.le_refl _) _).alloc (by simp) _
 have T1:Hid (Bx w1 w.heap.size s A L.length cap):=by rw [← hw1];exact ⟨by simp [go_sem],by simp [go_sem]⟩
 have hs4:=strs_of_new (w.alloc (.cells #[.string s,.slice A L.length cap] 26)) W4 9
 have hsz:(w.alloc (.cells #[.string s,.slice A L.length cap] 26)).heap.size=w.heap.size+1:=by simp
 rw [hw1,hsz] at hs4
 have IN:=Lib.hid (in_any (some ⟨w.heap.size+1,0,none⟩) 6 W4 (by decide) s w1 hs4)
 rw [in_4] at IN
 have X1:=Lib.hid (H.below B1.out)
 have E4:=Lib.hid (fun h=>wid_4 (s:=s) L h)
 have E5:=Lib.hid (fun h=>wid_5 (s:=s) L h)
 have EY:=Lib.hid (fun h=>wid_6y (s:=s) L h)
 have EN:=Lib.hid (fun h=>wid_6n (s:=s) L h)
 have EO:=Lib.hid (fun h1 h2 h3=>wid_o (s:=s) L h1 h2 h3)
 clear H hs4 hsz
 have hw2:(w.alloc (.cells #[.string s,.slice A L.length cap] 26)).alloc (.cells #[.string ⟨#[66,73,84]⟩,.string ⟨#[82,69,83]⟩,.string ⟨#[83,69,84]⟩,.string ⟨#[73,77]⟩,.string ⟨#[82,83,84]⟩,.string ⟨#[79,85,84]⟩] 9)=w1:=hw1
 clear hw1
 have g9:W4.length=6:=rfl
 rw [g9] at IN
 obtain ⟨t0,t1⟩:=T1.out
 by_cases h4:I4 s
 ·have E:=Lib.hid (E4.out h4)
  rw [decide_eq_true h4] at IN
  go_enter Tryz.func54,Tryz.ntmps54
  go_wp2_with fail
  refine IN.out.mono ?_
  rintro e w2 ⟨rfl,rfl⟩
  go_wp2
  go_ret
  exact ⟨ret_int E.out,B1.out⟩
 rw [decide_eq_false h4] at IN
 by_cases h5:I5 s
 ·have E:=Lib.hid (E5.out h5)
  clear h4
  rcases h5 with rfl | rfl
  all_goals
   go_enter Tryz.func54,Tryz.ntmps54
   go_wp2_with fail
   refine IN.out.mono ?_
   rintro e w2 ⟨rfl,rfl⟩
   go_wp2
   go_ret
   exact ⟨ret_int E.out,B1.out⟩
 by_cases h6:I6 s
 ·have EY:=Lib.hid (EY.out h6)
  have EN:=Lib.hid (EN.out h6)
  clear h4 h5
  obtain rfl:s=_:=h6
  by_cases h0:0<L.length
  ·obtain ⟨b,off,rfl,hb,p0,p1,p2⟩:=X1.out.at_ h0
   rw [Nat.zero_mul,Nat.add_zero] at p0
   have EY:=Lib.hid (EY.out h0)
   have EN:=Lib.hid (fun (q:¬L[0].1=3)=>EN.out fun _=>q)
   obtain ⟨k,hk⟩:∃ k,L[0].1=k:=⟨_,rfl⟩
   rw [hk] at EY EN p0
   have g1:decide ((0:Int)<(L.length:Int))=true:=decide_eq_true (by omega)
   have g2:(0:Int)<(L.length:Int):=by omega
   obtain ⟨n,hn⟩:∃ n,L.length=n:=⟨_,rfl⟩
   rw [hn] at hL t1 g1 g2 hw2 ⊢
   clear hn hk h0 p1 p2 hb X1 T1
   by_cases hk3:k=3
   ·have E:=Lib.hid (EY.out hk3)
    subst hk3
    go_enter Tryz.func54,Tryz.ntmps54
    go_wp2_with fail
    refine IN.out.mono ?_
    rintro e w2 ⟨rfl,rfl⟩
    go_wp2
    go_ret
    exact ⟨ret_int E.out,B1.out⟩
   ·have E:=Lib.hid (EN.out hk3)
    go_enter Tryz.func54,Tryz.ntmps54
    go_wp2_with fail
    refine IN.out.mono ?_
    rintro e w2 ⟨rfl,rfl⟩
    go_wp2
    go_ret
    exact ⟨ret_int E.out,B1.out⟩
  ·have e0:L.length=0:=by omega
   have E:=Lib.hid (EN.out fun k=>absurd k h0)
   rw [e0] at t1 hw2 ⊢
   clear h0 e0 X1 T1
   go_enter Tryz.func54,Tryz.ntmps54
   go_wp2_with fail
   refine IN.out.mono ?_
   rintro e w2 ⟨rfl,rfl⟩
   go_wp2
   go_ret
   exact ⟨ret_int E.out,B1.out⟩
 ·have E:=Lib.hid (EO.out h4 h5 h6)
  simp only [I5,not_or] at h5
  obtain ⟨n7,n8⟩:=h5
  have n9:¬s=_:=h6
  have q7:(s.toList == [74,80])=false:=by simpa using strB_ne n7
  have q8:(s.toList == [67,65,76,76])=false:=by simpa using strB_ne n8
  have q9:(s.toList == [76,68])=false:=by simpa using strB_ne n9
  clear n7 n8 n9 h6 h4
  go_enter Tryz.func54,Tryz.ntmps54
  go_wp2_with fail
  refine IN.out.mono ?_
  rintro e w2 ⟨rfl,rfl⟩
  go_wp2
  go_ret
  exact ⟨ret_int E.out,B1.out⟩
end Go.Proofs.YtoilebmbljpieaaGreatDoor
namespace Go.Proofs.YtoilebmbljpieaaGreatDoor
open Go.RowKit
def Dr (w:World) (b:Nat) (s:ByteArray) (v:Value):Prop:=w.heap[b]?=some (.cells #[.string s,v] 148 (0,0))
theorem Dr.cells {w:World} {b:Nat} {s:ByteArray} {v:Value} (h:Dr w b s v):w.cell? ⟨b,0,none⟩=some (.string s)∧w.cell? ⟨b,1,none⟩=some v∧w.frozen? ⟨b,0,none⟩=false∧w.frozen? ⟨b,1,none⟩=false:=
 ⟨by rw [Lib.cell_of_heap h];rfl,by rw [Lib.cell_of_heap h];rfl,Lib.frozen_of_heap h 0,Lib.frozen_of_heap h 1⟩
theorem Dr.lt {w:World} {b:Nat} {s:ByteArray} {v:Value} (h:Dr w b s v):b<w.heap.size:=(Array.getElem?_eq_some_iff.1 h).1
theorem Dr.below {w w':World} {b:Nat} {s:ByteArray} {v:Value} (h:Dr w b s v) (hb:Below w.heap.size w w'):Dr w' b s v:=(hb.block _ h.lt).trans h
theorem Dr.put {w:World} {b:Nat} {s:ByteArray} {v:Value} (h:Dr w b s v) (u:Value):Dr (w.setCell ⟨b,1,none⟩ u) b s u:=by
 have h1:=heap_setCell_same w b 1 _ _ u h
 exact h1
theorem Dr.other {w:World} {b g:Nat} {s:ByteArray} {v:Value} (h:Dr w b s v) (hg:g≠b) (j:Nat) (u:Value):Dr (w.setCell ⟨g,j,none⟩ u) b s v:=(heap_setCell_other w ⟨g,j,none⟩ b u hg.symm).trans h
def RowS (w:World) (n g off:Nat) (L:List Tr):Prop:=n≤g∧∃ cur,w.heap[g]?=some (.cells cur 63 (0,0))∧∀ j u,(cellsT L)[j]?=some u→cur[off+j]?=some u
def OwnS (w:World) (n:Nat) (v:Value) (L:List Tr):Prop:=
 (v=.slice none 0 0∧L=[])∨∃ g off cap,v=.slice (some ⟨g,off,none⟩) L.length cap∧L.length≤cap∧cap≤maxLen∧RowS w n g off L
theorem RowS.apart {w:World} {n g off b:Nat} {L:List Tr} {s:ByteArray} {v:Value} (h:RowS w n g off L) (hd:Dr w b s v):g≠b:=by
 rintro rfl
 obtain ⟨-,cur,hc,-⟩:=h
 rw [show w.heap[g]?=_ from hd] at hc
 simp at hc
theorem RowS.lt {w:World} {n g off:Nat} {L:List Tr} (h:RowS w n g off L):g<w.heap.size:=by
 obtain ⟨-,cur,hc,-⟩:=h
 exact (Array.getElem?_eq_some_iff.1 hc).1
theorem RowS.below {w w':World} {n g off:Nat} {L:List Tr} (h:RowS w n g off L) (hb:Below w.heap.size w w'):RowS w' n g off L:=by
 have hl:=h.lt
 obtain ⟨h1,cur,hc,h2⟩:=h
 exact ⟨h1,cur,(hb.block _ hl).trans hc,h2⟩
theorem RowS.cellAt {w:World} {n g off:Nat} {L:List Tr} (h:RowS w n g off L) (j:Nat) (u:Value) (e:(cellsT L)[j]?=some u):w.cell? ⟨g,off+j,none⟩=some u:=by
 obtain ⟨-,cur,hc,h2⟩:=h
 rw [Lib.cell_of_heap hc]
 exact h2 j u e
theorem RowS.frozen {w:World} {n g off:Nat} {L:List Tr} (h:RowS w n g off L) (j:Nat):w.frozen? ⟨g,j,none⟩=false:=by
 obtain ⟨-,cur,hc,-⟩:=h
 exact Lib.frozen_of_heap hc j
theorem RowS.at_ {w:World} {n g off:Nat} {L:List Tr} (h:RowS w n g off L) (j:Nat) (hj:j<L.length):w.cell? ⟨g,off+j*3,none⟩=some (.int .i64 L[j].1)∧w.cell? ⟨g,off+j*3+1,none⟩=some (.int .i64 L[j].2.1)∧w.cell? ⟨g,off+j*3+2,none⟩=some (.int .i64 L[j].2.2):=by
 obtain ⟨h1,h2,h3⟩:=cellsT_at L j hj
 exact ⟨h.cellAt _ _ h1,by rw [Nat.add_assoc];exact h.cellAt _ _ h2,by rw [Nat.add_assoc];exact h.cellAt _ _ h3⟩
theorem RowS.put {w:World} {n g off:Nat} {L L':List Tr} (h:RowS w n g off L) (j:Nat) (u:Value) (e:(cellsT L).set j u=cellsT L'):RowS (w.setCell ⟨g,off+j,none⟩ u) n g off L':=by
 obtain ⟨h1,cur,hc,h2⟩:=h
 refine ⟨h1,_,heap_setCell_same w g (off+j) _ _ u hc,fun k x hk=>?_⟩
 rw [← e,List.getElem?_set] at hk
 by_cases hjk:j=k
 ·subst hjk
  rw [if_pos rfl] at hk
  have hlen:off+j<cur.size:=by
   by_cases hj:j<(cellsT L).length
   ·have:=h2 j _ (List.getElem?_eq_getElem hj)
    exact (Array.getElem?_eq_some_iff.1 this).1
   ·rw [if_neg hj] at hk;cases hk
  split at hk
  ·simp only [Option.some.injEq] at hk
   subst hk
   simp [hlen]
  ·cases hk
 ·rw [if_neg hjk] at hk
  rw [Array.getElem?_setIfInBounds,if_neg (by omega)]
  exact h2 k x hk
theorem OwnS.below {w w':World} {n:Nat} {v:Value} {L:List Tr} (h:OwnS w n v L) (hb:Below w.heap.size w w'):OwnS w' n v L:=by
 rcases h with h | ⟨g,off,cap,h1,h2,h3,h4⟩
 ·exact .inl h
 ·exact .inr ⟨g,off,cap,h1,h2,h3,h4.below hb⟩
theorem OwnS.other {w:World} {n b:Nat} {v u:Value} {L:List Tr} {s:ByteArray} {x:Value} (h:OwnS w n v L) (hd:Dr w b s x) (j:Nat):OwnS (w.setCell ⟨b,j,none⟩ u) n v L:=by
 rcases h with h | ⟨g,off,cap,h1,h2,h3,h4⟩
 ·exact .inl h
 ·have hg:=h4.apart hd
  obtain ⟨h5,cur,hc,h6⟩:=h4
  exact .inr ⟨g,off,cap,h1,h2,h3,h5,cur,(heap_setCell_other w ⟨b,j,none⟩ g u hg).trans hc,h6⟩
theorem OwnS.ops {w:World} {n:Nat} {v:Value} {L:List Tr} (h:OwnS w n v L):∃ A cap,v=.slice A L.length cap∧OpsP w A L∧L.length≤cap∧cap≤maxLen:=by
 rcases h with ⟨rfl,rfl⟩ | ⟨g,off,cap,rfl,h2,h3,h4⟩
 ·exact ⟨none,0,rfl,.inl rfl,Nat.le_refl _,by unfold maxLen;omega⟩
 ·exact ⟨_,cap,rfl,.inr ⟨g,off,rfl,fun j hj=>h4.at_ j hj⟩,h2,h3⟩
theorem OwnT.own {w:World} {n:Nat} {v:Value} {L:List Tr} (h:OwnT w n v L):OwnS w n v L:=by
 obtain ⟨hl,h | ⟨g,cap,cur,rfl,h1,h2,h3,h4,h5,h6⟩⟩:=h
 ·exact .inl ⟨h.1,List.eq_nil_of_length_eq_zero h.2⟩
 ·refine .inr ⟨g,0,cap,rfl,h3,h4,h1,cur,h2,fun j u hj=>?_⟩
  rw [← h6,List.getElem?_take] at hj
  split at hj
  ·rw [Nat.zero_add];simpa using hj
  ·cases hj
theorem OwnS.lift {w:World} {n m:Nat} {v:Value} {L:List Tr} (h:OwnS w n v L) (k:m≤n):OwnS w m v L:=by
 rcases h with h | ⟨g,off,cap,h1,h2,h3,h4,h5⟩
 ·exact .inl h
 ·exact .inr ⟨g,off,cap,h1,h2,h3,Nat.le_trans k h4,h5⟩
theorem OwnS.nonnil {w:World} {n:Nat} {v:Value} {L:List Tr} (h:OwnS w n v L) (h0:0<L.length):∃ g off cap,v=.slice (some ⟨g,off,none⟩) L.length cap∧L.length≤cap∧cap≤maxLen∧RowS w n g off L:=by
 rcases h with ⟨-,rfl⟩ | h
 ·simp at h0
 ·exact h
theorem OwnS.alloc {w:World} {n:Nat} {v:Value} {L:List Tr} (h:OwnS w n v L) (o:Obj):OwnS (w.alloc o) n v L:=h.below ((Below.refl _ _).alloc (Nat.le_refl _) _)
theorem Dr.alloc {w:World} {b:Nat} {s:ByteArray} {v:Value} (h:Dr w b s v) (o:Obj):Dr (w.alloc o) b s v:=h.below ((Below.refl _ _).alloc (Nat.le_refl _) _)
end Go.Proofs.YtoilebmbljpieaaGreatDoor
namespace Go.Proofs.YtoilebmbljpieaaGreatDoor
open Go.RowKit
def wL (v:Int) (L:List Tr) (j:Nat):List Tr:=(L.take j).map (wrapT v)++L.drop j
theorem wL_end (v:Int) (L:List Tr):wL v L L.length=L.map (wrapT v):=by unfold wL;rw [List.take_length,List.drop_length,List.append_nil]
theorem wL_len (v:Int) (L:List Tr) (j:Nat):(wL v L j).length=L.length:=by
 unfold wL
 rw [List.length_append,List.length_map,← List.length_append,List.take_append_drop]
theorem wL_at (v:Int) (L:List Tr) (j:Nat) (h:j<L.length) (h':j<(wL v L j).length):(wL v L j)[j]=L[j]:=by
 have e:(wL v L j)[j]?=some L[j]:=by
  unfold wL
  rw [List.getElem?_append_right (by rw [List.length_map,List.length_take];omega),List.getElem?_drop,List.length_map,List.length_take,show j+(j - min j L.length)=j by omega]
  exact List.getElem?_eq_getElem h
 rw [List.getElem?_eq_getElem h'] at e
 exact Option.some.inj e
theorem wL_set (v:Int) (L:List Tr) (j:Nat) (h:j<L.length):(wL v L j).set j (wrapT v L[j])=wL v L (j+1):=by
 unfold wL
 rw [List.take_succ_eq_append_getElem h,List.map_append,List.append_assoc,List.set_append_right _ _ (by rw [List.length_map,List.length_take];omega)]
 congr 1
 rw [List.drop_eq_getElem_cons h,List.length_map,List.length_take,show j - min j L.length=0 by omega]
 rfl
theorem wL_no (v:Int) (L:List Tr) (j:Nat) (h:j<L.length) (e:wrapT v L[j]=L[j]):wL v L j=wL v L (j+1):=by
 have h':j<(wL v L j).length:=by rw [wL_len];exact h
 rw [← wL_set v L j h,e,← wL_at v L j h h',List.set_getElem_self]
theorem wL_yes (v:Int) (L:List Tr) (j:Nat) (h:j<L.length) (hc:L[j].1=6∧-(v / 2)≤L[j].2.2∧L[j].2.2<0):(cellsT (wL v L j)).set (j*3+2) (.int .i64 (L[j].2.2+v))=cellsT (wL v L (j+1)):=by
 have h':j<(wL v L j).length:=by rw [wL_len];exact h
 have e:wrapT v L[j]=(L[j].1,L[j].2.1,L[j].2.2+v):=by unfold wrapT;rw [if_pos hc]
 rw [← wL_set v L j h,e]
 exact (cells_set _ _ _ _ _ h' (by rw [wL_at v L j h h']) (by rw [wL_at v L j h h'])).symm
theorem wL_not (v:Int) (L:List Tr) (j:Nat) (h:j<L.length) (hc:¬(L[j].1=6∧-(v / 2)≤L[j].2.2∧L[j].2.2<0)):wL v L j=wL v L (j+1):=
 wL_no v L j h (by unfold wrapT;rw [if_neg hc])
theorem widL_cases (c:Nat) (L:List Tr):widL c L=0∨widL c L=1∨widL c L=2:=by
 unfold widL
 split
 ·exact .inl rfl
 ·split
  ·exact .inr (.inr rfl)
  ·split
   ·exact .inr (.inr rfl)
   ·exact .inr (.inl rfl)
theorem wrap_any (s:ByteArray) (B bd:Nat) (hB:B≤bd) (v:Value) (L:List Tr) (hL:L.length≤1000) (w:World) (hD:Dr w bd s v) (hO:OwnS w B v L) :
  Calls Tryz.prog 127 #[.pointer (some ⟨bd,0,none⟩)] w fun e w'=>e=.returned (.tuple #[])∧Dr w' bd s v∧OwnS w' B v (L.map (wrapT (valW (widL (opc s) L))))∧Below B w w':=by
 obtain ⟨A,cap,rfl,hP,hlc,hcm⟩:=hO.ops
 have WD:=Lib.hid (width_any s A cap L hL w hP)
 obtain ⟨d0,d1,-,-⟩:=hD.cells
 have D0:=Lib.hid hD
 have O0:=Lib.hid hO
 have YES:=fun v=>Lib.hid (wL_yes v L)
 have NOT:=fun v=>Lib.hid (wL_not v L)
 have WE:=fun v=>Lib.hid (wL_end v L)
 have AT:=fun v=>Lib.hid (wL_at v L)
 have hwl:=fun v j=>wL_len v L j
 obtain ⟨n,hn⟩:∃ n,L.length=n:=⟨_,rfl⟩
 have HN:=Lib.hid hn
 rw [hn] at D0 O0 WD d1 WE hwl hlc hL ⊢
 have SB:Hid (bd<w.heap.size):=hD.lt
 clear hD hO hP hn
 obtain ⟨x,hx⟩:∃ x,widL (opc s) L=x:=⟨_,rfl⟩
 have hcs:=widL_cases (opc s) L
 rw [hx] at WD hcs ⊢
 clear hx
 rcases hcs with rfl | rfl | rfl
 ·have hvw:valW 0=0:=rfl
  rw [hvw]
  clear hvw
  go_enter Tryz.func127,Tryz.ntmps127
  go_wp2_with fail
  refine WD.out.mono ?_
  rintro e w1 ⟨rfl,h1⟩
  have B1:Hid (Below B w w1):=h1.mono (Nat.le_trans hB (Nat.le_of_lt SB.out))
  have D1:=Lib.hid (D0.out.below h1)
  have O1:=Lib.hid (O0.out.below h1)
  clear h1 D0 O0 d0 d1 WD
  obtain ⟨d0,d1,-,-⟩:=D1.out.cells
  go_wp2
  clear d0 d1
  go_loopw [20] (fun i wr=>∃ j:Nat,j≤n∧i=.int .i64 j∧Hid (Dr wr bd s (.slice A n cap))∧Hid (OwnS wr B (.slice A n cap) (wL 0 L j))∧Hid (Below B w wr)) (fun i _=>n - (intOf i).toNat)
  case atStart=>exact ⟨0,Nat.zero_le _,rfl,D1.out,O1.out,B1.out⟩
  case round=>
   clear D1 O1 B1
   obtain ⟨j,hj,rfl,D1,O1,B1⟩:=hrel
   by_cases hlt:j<n
   ·have hj1:j<L.length:=by have:=HN.out;omega
    have hj2:j<(wL 0 L j).length:=by rw [hwl];exact hlt
    obtain ⟨g,off,cap',hA,-,-,hR⟩:=O1.out.nonnil (by omega)
    simp only [Value.slice.injEq] at hA
    obtain ⟨rfl,-,-⟩:=hA
    obtain ⟨p0,p1,p2⟩:=hR.at_ j hj2
    rw [(AT 0).out j hj1 hj2] at p0 p1 p2
    have hgb:=hR.apart D1.out
    have hgl:=hR.lt
    have fz:=hR.frozen (off+j*3+2)
    have Y:=Lib.hid ((YES 0).out j hj1)
    have N:=Lib.hid ((NOT 0).out j hj1)
    obtain ⟨⟨y0,y1,y2⟩,hy⟩:∃ y,L[j]=y:=⟨_,rfl⟩
    rw [hy] at p0 p1 p2 Y N
    simp only at p0 p1 p2 Y N
    obtain ⟨d0,d1,-,-⟩:=D1.out.cells
    have D2:=fun o=>Lib.hid (D1.out.alloc o)
    have B2:=fun o=>Lib.hid (B1.out.alloc (Nat.le_trans (Nat.le_trans hB (Nat.le_of_lt SB.out)) B1.out.size) o)
    have hgB:Hid (B≤g):=hR.1
    have hBr:Hid (B≤wr.heap.size):=Nat.le_trans (Nat.le_trans hB (Nat.le_of_lt SB.out)) B1.out.size
    have hR:=Lib.hid hR
    have hne1:g≠wr.heap.size:=by omega
    have hne2:bd≠wr.heap.size:=by have:=D1.out.lt;omega
    have O2:∀ o,Hid (OwnS (wr.alloc o) B (.slice (some ⟨g,off,none⟩) n cap) (wL 0 L j)):=fun o=>O1.out.alloc o
    clear hj1 hj2 hy O1
    by_cases k6:y0=6
    ·by_cases a1:0≤y2
     ·have hx:=N.out fun q=>absurd q.2.2 (by omega)
      rw [hx] at O2
      subst k6
      clear hx Y N D1 B1 hR
      go_wp2
      go_roundw
      case rel=>exact ⟨j+1,by omega,by go_num,(D2 _).out,(O2 _).out,(B2 _).out⟩
      case measure=>simp [intOf];omega
     ·have hx:=N.out fun q=>absurd q.2.1 (by omega)
      rw [hx] at O2
      subst k6
      clear hx Y N D1 B1 hR
      go_wp2
      go_roundw
      case rel=>exact ⟨j+1,by omega,by go_num,(D2 _).out,(O2 _).out,(B2 _).out⟩
      case measure=>simp [intOf];omega
    ·have hx:=N.out fun q=>k6 q.1
     rw [hx] at O2
     clear hx Y N D1 B1 hR
     go_wp2
     go_roundw
     case rel=>exact ⟨j+1,by omega,by go_num,(D2 _).out,(O2 _).out,(B2 _).out⟩
     case measure=>simp [intOf];omega
   ·have hjn:j=n:=by omega
    subst hjn
    rw [(WE 0).out] at O1
    go_wp2
    refine bodyPost_end (v:=.tuple #[]) ?_ rfl ⟨rfl,D1.out,O1.out,B1.out⟩
    simp [results,Tryz.results127,go_sem]
 ·have hvw:valW 1=256:=rfl
  rw [hvw]
  clear hvw
  go_enter Tryz.func127,Tryz.ntmps127
  go_wp2_with fail
  refine WD.out.mono ?_
  rintro e w1 ⟨rfl,h1⟩
  have B1:Hid (Below B w w1):=h1.mono (Nat.le_trans hB (Nat.le_of_lt SB.out))
  have D1:=Lib.hid (D0.out.below h1)
  have O1:=Lib.hid (O0.out.below h1)
  clear h1 D0 O0 d0 d1 WD
  obtain ⟨d0,d1,-,-⟩:=D1.out.cells
  go_wp2
  clear d0 d1
  go_loopw [20] (fun i wr=>∃ j:Nat,j≤n∧i=.int .i64 j∧Hid (Dr wr bd s (.slice A n cap))∧Hid (OwnS wr B (.slice A n cap) (wL 256 L j))∧Hid (Below B w wr)) (fun i _=>n - (intOf i).toNat)
  case atStart=>exact ⟨0,Nat.zero_le _,rfl,D1.out,O1.out,B1.out⟩
  case round=>
   clear D1 O1 B1
   obtain ⟨j,hj,rfl,D1,O1,B1⟩:=hrel
   by_cases hlt:j<n
   ·have hj1:j<L.length:=by have:=HN.out;omega
    have hj2:j<(wL 256 L j).length:=by rw [hwl];exact hlt
    obtain ⟨g,off,cap',hA,-,-,hR⟩:=O1.out.nonnil (by omega)
    simp only [Value.slice.injEq] at hA
    obtain ⟨rfl,-,-⟩:=hA
    obtain ⟨p0,p1,p2⟩:=hR.at_ j hj2
    rw [(AT 256).out j hj1 hj2] at p0 p1 p2
    have hgb:=hR.apart D1.out
    have hgl:=hR.lt
    have fz:=hR.frozen (off+j*3+2)
    have Y:=Lib.hid ((YES 256).out j hj1)
    have N:=Lib.hid ((NOT 256).out j hj1)
    obtain ⟨⟨y0,y1,y2⟩,hy⟩:∃ y,L[j]=y:=⟨_,rfl⟩
    rw [hy] at p0 p1 p2 Y N
    simp only at p0 p1 p2 Y N
    obtain ⟨d0,d1,-,-⟩:=D1.out.cells
    have D2:=fun o=>Lib.hid (D1.out.alloc o)
    have B2:=fun o=>Lib.hid (B1.out.alloc (Nat.le_trans (Nat.le_trans hB (Nat.le_of_lt SB.out)) B1.out.size) o)
    have hgB:Hid (B≤g):=hR.1
    have hBr:Hid (B≤wr.heap.size):=Nat.le_trans (Nat.le_trans hB (Nat.le_of_lt SB.out)) B1.out.size
    have hR:=Lib.hid hR
    have hne1:g≠wr.heap.size:=by omega
    have hne2:bd≠wr.heap.size:=by have:=D1.out.lt;omega
    have O2:∀ o,Hid (OwnS (wr.alloc o) B (.slice (some ⟨g,off,none⟩) n cap) (wL 256 L j)):=fun o=>O1.out.alloc o
    clear hj1 hj2 hy O1
    by_cases k6:y0=6
    ·by_cases a1 : -128≤y2
     ·by_cases a2:y2<0
      ·have hx:=Y.out ⟨k6,by omega,a2⟩
       have R3:∀ o,Hid (OwnS ((wr.setCell ⟨g,off+j*3+2,none⟩ (.int .i64 (y2+256))).alloc o) B (.slice (some ⟨g,off,none⟩) n cap) (wL 256 L (j+1))):=fun o=>by
        have h3:=hR.out.put (j*3+2) _ hx
        rw [← Nat.add_assoc] at h3
        exact OwnS.alloc (.inr ⟨g,off,cap,by rw [hwl],by rw [hwl];exact hlc,hcm,h3⟩) o
       have D3:∀ o,Hid (Dr ((wr.setCell ⟨g,off+j*3+2,none⟩ (.int .i64 (y2+256))).alloc o) bd s (.slice (some ⟨g,off,none⟩) n cap)):=fun o=>(D1.out.other hgb _ _).alloc o
       have B3:∀ o,Hid (Below B w ((wr.setCell ⟨g,off+j*3+2,none⟩ (.int .i64 (y2+256))).alloc o)):=fun o=>(B1.out.setCell (p:=⟨g,off+j*3+2,none⟩) hgB.out _).alloc (by simp;exact hBr.out) o
       subst k6
       have e1:=(D2 (.cells #[.int .i64 6,.int .i64 y1,.int .i64 y2] 63)).out.cells.2.1
       have e2:(wr.alloc (.cells #[.int .i64 6,.int .i64 y1,.int .i64 y2] 63)).cell? ⟨g,off+j*3+2,none⟩=some (.int .i64 y2):=(World.cell?_alloc_lt wr _ _ hgl).trans p2
       clear hx Y N O2 D2 B2 D1 B1 hR
       go_wp2
       go_roundw
       case rel=>exact ⟨j+1,by omega,by go_num,(D3 _).out,(R3 _).out,(B3 _).out⟩
       case measure=>simp [intOf];omega
      ·have hx:=N.out fun q=>absurd q.2.2 (by omega)
       rw [hx] at O2
       subst k6
       clear hx Y N D1 B1 hR
       go_wp2
       go_roundw
       case rel=>exact ⟨j+1,by omega,by go_num,(D2 _).out,(O2 _).out,(B2 _).out⟩
       case measure=>simp [intOf];omega
     ·have hx:=N.out fun q=>absurd q.2.1 (by omega)
      rw [hx] at O2
      subst k6
      clear hx Y N D1 B1 hR
      go_wp2
      go_roundw
      case rel=>exact ⟨j+1,by omega,by go_num,(D2 _).out,(O2 _).out,(B2 _).out⟩
      case measure=>simp [intOf];omega
    ·have hx:=N.out fun q=>k6 q.1
     rw [hx] at O2
     clear hx Y N D1 B1 hR
     go_wp2
     go_roundw
     case rel=>exact ⟨j+1,by omega,by go_num,(D2 _).out,(O2 _).out,(B2 _).out⟩
     case measure=>simp [intOf];omega
   ·have hjn:j=n:=by omega
    subst hjn
    rw [(WE 256).out] at O1
    go_wp2
    refine bodyPost_end (v:=.tuple #[]) ?_ rfl ⟨rfl,D1.out,O1.out,B1.out⟩
    simp [results,Tryz.results127,go_sem]
 ·have hvw:valW 2=65536:=rfl
  rw [hvw]
  clear hvw
  go_enter Tryz.func127,Tryz.ntmps127
  go_wp2_with fail
  refine WD.out.mono ?_
  rintro e w1 ⟨rfl,h1⟩
  have B1:Hid (Below B w w1):=h1.mono (Nat.le_trans hB (Nat.le_of_lt SB.out))
  have D1:=Lib.hid (D0.out.below h1)
  have O1:=Lib.hid (O0.out.below h1)
  clear h1 D0 O0 d0 d1 WD
  obtain ⟨d0,d1,-,-⟩:=D1.out.cells
  go_wp2
  clear d0 d1
  go_loopw [20] (fun i wr=>∃ j:Nat,j≤n∧i=.int .i64 j∧Hid (Dr wr bd s (.slice A n cap))∧Hid (OwnS wr B (.slice A n cap) (wL 65536 L j))∧Hid (Below B w wr)) (fun i _=>n - (intOf i).toNat)
  case atStart=>exact ⟨0,Nat.zero_le _,rfl,D1.out,O1.out,B1.out⟩
  case round=>
   clear D1 O1 B1
   obtain ⟨j,hj,rfl,D1,O1,B1⟩:=hrel
   by_cases hlt:j<n
   ·have hj1:j<L.length:=by have:=HN.out;omega
    have hj2:j<(wL 65536 L j).length:=by rw [hwl];exact hlt
    obtain ⟨g,off,cap',hA,-,-,hR⟩:=O1.out.nonnil (by omega)
    simp only [Value.slice.injEq] at hA
    obtain ⟨rfl,-,-⟩:=hA
    obtain ⟨p0,p1,p2⟩:=hR.at_ j hj2
    rw [(AT 65536).out j hj1 hj2] at p0 p1 p2
    have hgb:=hR.apart D1.out
    have hgl:=hR.lt
    have fz:=hR.frozen (off+j*3+2)
    have Y:=Lib.hid ((YES 65536).out j hj1)
    have N:=Lib.hid ((NOT 65536).out j hj1)
    obtain ⟨⟨y0,y1,y2⟩,hy⟩:∃ y,L[j]=y:=⟨_,rfl⟩
    rw [hy] at p0 p1 p2 Y N
    simp only at p0 p1 p2 Y N
    obtain ⟨d0,d1,-,-⟩:=D1.out.cells
    have D2:=fun o=>Lib.hid (D1.out.alloc o)
    have B2:=fun o=>Lib.hid (B1.out.alloc (Nat.le_trans (Nat.le_trans hB (Nat.le_of_lt SB.out)) B1.out.size) o)
    have hgB:Hid (B≤g):=hR.1
    have hBr:Hid (B≤wr.heap.size):=Nat.le_trans (Nat.le_trans hB (Nat.le_of_lt SB.out)) B1.out.size
    have hR:=Lib.hid hR
    have hne1:g≠wr.heap.size:=by omega
    have hne2:bd≠wr.heap.size:=by have:=D1.out.lt;omega
    have O2:∀ o,Hid (OwnS (wr.alloc o) B (.slice (some ⟨g,off,none⟩) n cap) (wL 65536 L j)):=fun o=>O1.out.alloc o
    clear hj1 hj2 hy O1
    by_cases k6:y0=6
    ·by_cases a1 : -32768≤y2
     ·by_cases a2:y2<0
      ·have hx:=Y.out ⟨k6,by omega,a2⟩
       have R3:∀ o,Hid (OwnS ((wr.setCell ⟨g,off+j*3+2,none⟩ (.int .i64 (y2+65536))).alloc o) B (.slice (some ⟨g,off,none⟩) n cap) (wL 65536 L (j+1))):=fun o=>by
        have h3:=hR.out.put (j*3+2) _ hx
        rw [← Nat.add_assoc] at h3
        exact OwnS.alloc (.inr ⟨g,off,cap,by rw [hwl],by rw [hwl];exact hlc,hcm,h3⟩) o
       have D3:∀ o,Hid (Dr ((wr.setCell ⟨g,off+j*3+2,none⟩ (.int .i64 (y2+65536))).alloc o) bd s (.slice (some ⟨g,off,none⟩) n cap)):=fun o=>(D1.out.other hgb _ _).alloc o
       have B3:∀ o,Hid (Below B w ((wr.setCell ⟨g,off+j*3+2,none⟩ (.int .i64 (y2+65536))).alloc o)):=fun o=>(B1.out.setCell (p:=⟨g,off+j*3+2,none⟩) hgB.out _).alloc (by simp;exact hBr.out) o
       subst k6
       have e1:=(D2 (.cells #[.int .i64 6,.int .i64 y1,.int .i64 y2] 63)).out.cells.2.1
       have e2:(wr.alloc (.cells #[.int .i64 6,.int .i64 y1,.int .i64 y2] 63)).cell? ⟨g,off+j*3+2,none⟩=some (.int .i64 y2):=(World.cell?_alloc_lt wr _ _ hgl).trans p2
       clear hx Y N O2 D2 B2 D1 B1 hR
       go_wp2
       go_roundw
       case rel=>exact ⟨j+1,by omega,by go_num,(D3 _).out,(R3 _).out,(B3 _).out⟩
       case measure=>simp [intOf];omega
      ·have hx:=N.out fun q=>absurd q.2.2 (by omega)
       rw [hx] at O2
       subst k6
       clear hx Y N D1 B1 hR
       go_wp2
       go_roundw
       case rel=>exact ⟨j+1,by omega,by go_num,(D2 _).out,(O2 _).out,(B2 _).out⟩
       case measure=>simp [intOf];omega
     ·have hx:=N.out fun q=>absurd q.2.1 (by omega)
      rw [hx] at O2
      subst k6
      clear hx Y N D1 B1 hR
      go_wp2
      go_roundw
      case rel=>exact ⟨j+1,by omega,by go_num,(D2 _).out,(O2 _).out,(B2 _).out⟩
      case measure=>simp [intOf];omega
    ·have hx:=N.out fun q=>k6 q.1
     rw [hx] at O2
     clear hx Y N D1 B1 hR
     go_wp2
     go_roundw
     case rel=>exact ⟨j+1,by omega,by go_num,(D2 _).out,(O2 _).out,(B2 _).out⟩
     case measure=>simp [intOf];omega
   ·have hjn:j=n:=by omega
    subst hjn
    rw [(WE 65536).out] at O1
    go_wp2
    refine bodyPost_end (v:=.tuple #[]) ?_ rfl ⟨rfl,D1.out,O1.out,B1.out⟩
    simp [results,Tryz.results127,go_sem]
end Go.Proofs.YtoilebmbljpieaaGreatDoor
namespace Go.Proofs.YtoilebmbljpieaaGreatDoor
open Go.RowKit
theorem acc_any (w:World):Calls Tryz.prog 150 #[] w fun e w'=>e=.returned (.agg #[.int .i64 1,.int .i64 7,.int .i64 0])∧Below w.heap.size w w':=by
 have B0:∀ o,Hid (Below w.heap.size w (w.alloc o)):=fun o=>(Below.refl _ _).alloc (Nat.le_refl _) _
 go_enter Tryz.func150,Tryz.ntmps150
 go_wp2
 refine bodyPost_ret (v:=.agg #[.int .i64 1,.int .i64 7,.int .i64 0]) ?_ rfl ⟨rfl,(B0 _).out⟩
 simp [results,Tryz.results150,go_sem]
theorem canpair_any (r:Int) (w:World):Calls Tryz.prog 152 #[.int .i64 r] w fun e w'=>e=.returned (.agg #[.int .i64 3,.int .i64 r,.int .i64 0])∧Below w.heap.size w w':=by
 have B0:∀ o,Hid (Below w.heap.size w (w.alloc o)):=fun o=>(Below.refl _ _).alloc (Nat.le_refl _) _
 go_enter Tryz.func152,Tryz.ntmps152
 go_wp2
 refine bodyPost_ret (v:=.agg #[.int .i64 3,.int .i64 r,.int .i64 0]) ?_ rfl ⟨rfl,(B0 _).out⟩
 simp [results,Tryz.results152,go_sem]
end Go.Proofs.YtoilebmbljpieaaGreatDoor
namespace Go.Mixed2
open Go Go.Mixed
section
variable {P:Program} {ops:Array Oper} {md:Region.Mode}
def CS (s:Nat) (C:World→Prop) (listed:Array Bool) (w:World):Prop:=listed.getD s true=false→C w
def wpAnyC (P:Program) (md:Region.Mode) (ops:Array Oper) (n s:Nat) (C:World→Prop) (L:Array Bool→Act→World→Prop):Nat→Array Bool→Act→World→Prop
 | 0,listed,a,w=>CS s C listed w∧L listed a w
 | f+1,listed,a,w=>CS s C listed w∧Region.ready md ops listed≠[]∧∀ i∈Region.ready md ops listed,i<n∧wpOp P ops QF i (wpAnyC P md ops n s C L f (listed.setIfInBounds i true)) a w
theorem wpAnyC_C {n s:Nat} {C:World→Prop} {L:Array Bool→Act→World→Prop} {f:Nat} {listed:Array Bool} {a:Act} {w:World} (h:wpAnyC P md ops n s C L f listed a w):CS s C listed w:=by
 cases f <;> exact h.1
theorem wpAny_of_headC {n g s:Nat} {C:World→Prop} {L:Array Bool→Act→World→Prop} {Q':Exit→Act→World→Prop} (hL:∀ listed a w,L listed a w→wpAny P md ops Q' g listed a w) :
  ∀ (f:Nat) (listed:Array Bool) (a:Act) (w:World),wpAnyC P md ops n s C L f listed a w→wpAny P md ops Q' (f+g) listed a w
 | 0,listed,a,w,h=>by rw [Nat.zero_add];exact hL _ _ _ h.2
 | f+1,listed,a,w,h=>by
  rw [show f+1+g=(f+g)+1 by omega]
  exact ⟨fun h0=>absurd h0 h.2.1,fun i hi=>wpOp_QF (fun a' w' h'=>wpAny_of_headC hL f _ a' w' h') (h.2.2 i hi).2⟩
theorem wpAnyC_first {C D:World→Prop} {n i s:Nat} {oi:Oper} {v:Value} {L:Array Bool→Act→World→Prop} (hi:ops[i]?=some oi) (hsel:∀ (j:Nat) (o:Oper) cs b,ops[j]?=some o→o.op≠.select cs b)
  (hs:Region.sinkB md ops n=true) (hc:Region.chainB md ops n=true) (hn:n<ops.size) (hin:i<n) (his:i≠s)
  (hD:∀ listed w,HeadInv md ops n listed→listed.getD i true=false→CS s C listed w→D w)
  (hdone:∀ listed a w,L listed a w→∀ j∈Region.ready md ops listed,n≤j) :
  ∀ (f:Nat) (listed:Array Bool) (a:Act) (w:World),HeadInv md ops n listed→
   (∀ j oj,ops[j]?=some oj→j≠i→listed.getD j true=false→(∀ e∈oj.after,Region.binds md e=true→e.on≠i)→oi.apart ops oj=true)→
   i∈Region.ready md ops listed→Pure P ops D oi v a→CS s C listed w→
   wpAnyC P md ops n s C L f (listed.setIfInBounds i true) (a.put oi.dst v) w→wpAnyC P md ops n s C L (f+1) listed a w:=by
 intro f
 induction f with
 | zero=>
  intro listed a w inv _ hr hy hCw H
  have hun:=(mem_ready.1 hr).1
  refine ⟨hCw,fun h=>(by rw [h] at hr;cases hr),fun j hj=>?_⟩
  have hjn:j<n:=by
   rcases Nat.lt_or_ge j n with h | h
   ·exact h
   ·exact absurd hj (tail_waits hs hc hn inv _ i rfl hin hun j h)
  refine ⟨hjn,?_⟩
  by_cases hji:j=i
  ·subst hji;exact hy.wpOp hi (hD _ _ inv hun hCw) H
  ·have:=hdone _ _ _ H.2 j (ready_mono hj hji)
   omega
 | succ f ih=>
  intro listed a w inv hfree hr hy hCw H
  have hun:=(mem_ready.1 hr).1
  refine ⟨hCw,fun h=>(by rw [h] at hr;cases hr),fun j hj=>?_⟩
  have hjn:j<n:=by
   rcases Nat.lt_or_ge j n with h | h
   ·exact h
   ·exact absurd hj (tail_waits hs hc hn inv _ i rfl hin hun j h)
  refine ⟨hjn,?_⟩
  by_cases hji:j=i
  ·subst hji;exact hy.wpOp hi (hD _ _ inv hun hCw) H
  ·have h1:=(H.2.2 j (ready_mono hj hji)).2
   obtain ⟨hjun,oj,hoj,hall⟩:=mem_ready.1 hj
   have hnot:∀ e∈oj.after,Region.binds md e=true→e.on≠i:=fun e he hb heq=>by
    have h1:=hall e he hb
    rw [heq,getD_both hun] at h1
    cases h1
   have h2:=Mixed.wpOp_put hoj (hfree j oj hoj hji hjun hnot) (fun cs b=>hsel i oi cs b hi) (fun cs b=>hsel j oj cs b hoj) hy h1
   have hfree':∀ k ok,ops[k]?=some ok→k≠i→(listed.setIfInBounds j true).getD k true=false→
     (∀ e∈ok.after,Region.binds md e=true→e.on≠i)→oi.apart ops ok=true:=fun k ok hk hki hun hno=>by
    refine hfree k ok hk hki ?_ hno
    by_cases hjk:j=k
    ·subst hjk;exact hjun
    ·rw [getD_set_ne true hjk] at hun;exact hun
   refine wpOp_QF (fun a' w' h3=>?_) h2
   obtain ⟨h3,h4⟩:=h3
   rw [Array.setIfInBounds_comm _ _ (fun e=>hji e.symm)] at h4
   have hi':=ready_mono hr (Ne.symm hji)
   refine ih (listed.setIfInBounds j true) a' w' (inv.set hj hjn) hfree' hi' h3 (fun hsl=>?_) h4
   have h5:=wpAnyC_C h4
   refine h5 ?_
   rw [getD_set_ne true his]
   exact hsl
def ordB (md:Region.Mode) (ops:Array Oper) (n g s:Nat):List (Nat×Nat)→Array Bool→Bool
 | [],listed=>Region.seqB md ops g n listed
 | (k,0) :: r,listed=>(Region.ready md ops listed).contains k&&decide (k<n)&&decide (k≠s)&&Region.waitsFor md ops s k&&Region.free md ops listed k&&ordB md ops n g s r (listed.setIfInBounds k true)
 | (k,1) :: r,listed=>(Region.ready md ops listed).contains k&&decide (k<n)&&decide (k≠s)&&Region.free md ops listed k&&ordB md ops n g s r (listed.setIfInBounds k true)
 | (k,_) :: r,listed=>decide (Region.ready md ops listed=[k])&&decide (k<n)&&ordB md ops n g s r (listed.setIfInBounds k true)
def mixedB (md:Region.Mode) (ops:Array Oper) (n s:Nat) (ord:List (Nat×Nat)):Bool:=
 Region.noSelect ops&&decide (n<ops.size)&&decide (ord.length+(ops.size - n)=ops.size)&&Region.sinkB md ops n&&Region.chainB md ops n&&ordB md ops n (ops.size - n) s ord (Array.replicate ops.size false)
def wpMix (P:Program) (ops:Array Oper) (s:Nat) (C:World→Prop) (T:Act→World→Prop):Bool→List (Nat×Nat)→Act→World→Prop
 | _,[],a,w=>T a w
 | sw,(k,0) :: r,a,w=>match ops[k]? with
  | none=>False
  | some o=>∃ v,Pure P ops C o v a∧wpMix P ops s C T sw r (a.put o.dst v) w
 | sw,(k,1) :: r,a,w=>match ops[k]? with
  | none=>False
  | some o=>∃ v,Pure P ops (fun _=>True) o v a∧wpMix P ops s C T sw r (a.put o.dst v) w
 | sw,(k,_) :: r,a,w=>wpOp P ops QF k (fun a' w'=>((sw||decide (k=s))=false→C w')∧wpMix P ops s C T (sw||decide (k=s)) r a' w') a w
theorem head_waits {n s k:Nat} {listed:Array Bool} (inv:HeadInv md ops n listed) (hw:Region.waitsFor md ops s k=true) (hk:listed.getD k true=false) (hss:s<listed.size):listed.getD s true=false:=by
 obtain ⟨os,hos,e,he,hb,hon⟩:=Region.waitsFor_spec hw
 cases hl:listed.getD s false with
 | true=>
  have:=inv.closed s os hos hl e he hb
  rw [hon,getD_both hk] at this
  cases this
 | false=>exact getD_in hss hl
theorem wpAnyC_ord {C:World→Prop} {n g s:Nat} {T:Act→World→Prop} (hsel:Region.noSelect ops=true) (hs:Region.sinkB md ops n=true) (hc:Region.chainB md ops n=true) (hn:n<ops.size) :
  ∀ (ord:List (Nat×Nat)) (sw:Bool) (listed:Array Bool) (a:Act) (w:World),HeadInv md ops n listed→(sw=true→listed.getD s true=true)→ordB md ops n g s ord listed=true→CS s C listed w→wpMix P ops s C T sw ord a w→
  wpAnyC P md ops n s C (fun listed' a' w'=>Region.seqB md ops g n listed'=true∧T a' w') ord.length listed a w
 | [],sw,listed,a,w,_,_,hB,hC,h=>⟨hC,hB,h⟩
 | (k,0) :: r,sw,listed,a,w,inv,hsw,hB,hC,h=>by
  simp only [ordB,Bool.and_eq_true,decide_eq_true_eq] at hB
  obtain ⟨⟨⟨⟨⟨hr,hk⟩,hks⟩,hws⟩,hf⟩,hB'⟩:=hB
  have hr':k∈Region.ready md ops listed:=by simpa using hr
  simp only [wpMix] at h
  cases ho:ops[k]? with
  | none=>rw [ho] at h;exact h.elim
  | some o=>
   rw [ho] at h
   obtain ⟨v,hv,hK⟩:=h
   refine wpAnyC_first ho (Region.noSelect_spec hsel) hs hc hn hk hks (fun listed w inv hun hCS=>hCS (head_waits inv hws hun ?_)) (fun listed' a' w' hL=>seqB_ready hL.1) r.length listed a w inv (Region.free_spec ho hf) hr' hv hC
    (wpAnyC_ord hsel hs hc hn r sw _ _ w (inv.set hr' hk) (fun h=>?_) hB' (fun h=>hC ?_) hK)
   ·obtain ⟨os,hos,_⟩:=Region.waitsFor_spec hws
    rw [inv.size]
    exact (Array.getElem?_eq_some_iff.1 hos).1
   ·rw [getD_set_ne true hks];exact hsw h
   ·rw [getD_set_ne true hks] at h;exact h
 | (k,1) :: r,sw,listed,a,w,inv,hsw,hB,hC,h=>by
  simp only [ordB,Bool.and_eq_true,decide_eq_true_eq] at hB
  obtain ⟨⟨⟨⟨hr,hk⟩,hks⟩,hf⟩,hB'⟩:=hB
  have hr':k∈Region.ready md ops listed:=by simpa using hr
  simp only [wpMix] at h
  cases ho:ops[k]? with
  | none=>rw [ho] at h;exact h.elim
  | some o=>
   rw [ho] at h
   obtain ⟨v,hv,hK⟩:=h
   refine wpAnyC_first ho (Region.noSelect_spec hsel) hs hc hn hk hks (fun listed w inv hun hCS=>trivial) (fun listed' a' w' hL=>seqB_ready hL.1) r.length listed a w inv (Region.free_spec ho hf) hr' hv hC
    (wpAnyC_ord hsel hs hc hn r sw _ _ w (inv.set hr' hk) (fun h=>?_) hB' (fun h=>hC ?_) hK)
   ·rw [getD_set_ne true hks];exact hsw h
   ·rw [getD_set_ne true hks] at h;exact h
 | (k,m+2) :: r,sw,listed,a,w,inv,hsw,hB,hC,h=>by
  simp only [ordB,Bool.and_eq_true,decide_eq_true_eq] at hB
  obtain ⟨⟨hr,hk⟩,hB'⟩:=hB
  simp only [wpMix] at h
  have hne:Region.ready md ops listed≠[]:=by rw [hr];exact List.cons_ne_nil _ _
  refine ⟨hC,hne,fun i hi=>?_⟩
  rw [hr] at hi
  have hik:i=k:=by simpa using hi
  subst hik
  have hks:i<listed.size:=by rw [inv.size];omega
  refine ⟨hk,wpOp_QF (fun a' w' h'=>?_) h⟩
  refine wpAnyC_ord hsel hs hc hn r _ _ a' w' (inv.set (by rw [hr];exact List.mem_singleton.2 rfl) hk) (fun h=>?_) hB' (fun hsl=>h'.1 ?_) h'.2
  ·by_cases e:i=s
   ·subst e;simp [hks]
   ·rw [getD_set_ne true e]
    simp only [decide_eq_false e,Bool.or_false] at h
    exact hsw h
  ·by_cases e:i=s
   ·subst e;simp [hks] at hsl
   ·rw [getD_set_ne true e] at hsl
    cases sw with
    | true=>rw [hsw rfl] at hsl;cases hsl
    | false=>simp [e]
theorem wp_region_mixed {id:Nat} {Q:Exit→Act→World→Prop} {a:Act} {w:World} {l:List Oper} (C:World→Prop) (n s:Nat) (ord:List (Nat×Nat)) (hm:P.follows .mixedOrders=true) (hB:mixedB .any l.toArray n s ord=true)
  (hC:C w.drew) (h:wpMix P l.toArray s C (fun a' w'=>wpList P l.toArray Q (l.drop n) a' w') false ord a w.drew):(Code.region id l.toArray true).wp P Q a w:=by
 simp only [mixedB,Bool.and_eq_true,decide_eq_true_eq] at hB
 obtain ⟨⟨⟨⟨⟨hsel,hn⟩,hlen⟩,hs⟩,hc⟩,hord⟩:=hB
 have hdl:(l.drop n).length=l.toArray.size - n:=by simp
 have inv0:HeadInv .any l.toArray n (Array.replicate l.toArray.size false):=
  ⟨by simp,fun j oj _ hl=>(by rw [getD_replicate_false] at hl;cases hl),fun t _ ht=>getD_in (by simpa using ht) (getD_replicate_false _ _)⟩
 have H:=wpAnyC_ord (s:=s) hsel hs hc hn ord false _ a w.drew inv0 (fun h=>by cases h) hord (fun _=>hC) h
 refine wp_region_any hm ?_
 have:=wpAny_of_headC (Q':=Q) (g:=l.toArray.size - n) (fun listed a' w' hL=>by
  have:=wpAny_of_seq (md:=.any) (Q':=Q) (l.drop n) n listed a' w' (fun j=>by simp [List.getElem?_drop]) (by rw [hdl];exact hL.1) hL.2
  rwa [hdl] at this) _ _ _ _ H
 rw [hlen] at this
 exact this
theorem wpMix_held {s:Nat} {sw:Bool} {C:World→Prop} {T:Act→World→Prop} {k:Nat} {r:List (Nat×Nat)} {a:Act} {w:World} {o:Oper} (ho:ops[k]?=some o) (hw:Region.wanted o (yielded ops a.tmps)=true) (v:Value)
  (hv:∀ w,C w→(execOp a.eval o).run P w=.ok (.value v) w) (h:wpMix P ops s C T sw r (a.put o.dst v) w):wpMix P ops s C T sw ((k,0) :: r) a w:=by
 simp only [wpMix,ho]
 exact ⟨v,.inl ⟨hw,hv⟩,h⟩
theorem wpMix_pure {s:Nat} {sw:Bool} {C:World→Prop} {T:Act→World→Prop} {k:Nat} {r:List (Nat×Nat)} {a:Act} {w:World} {o:Oper} (ho:ops[k]?=some o) (hw:Region.wanted o (yielded ops a.tmps)=true) (v:Value)
  (hv:∀ w,(execOp a.eval o).run P w=.ok (.value v) w) (h:wpMix P ops s C T sw r (a.put o.dst v) w):wpMix P ops s C T sw ((k,1) :: r) a w:=by
 simp only [wpMix,ho]
 exact ⟨v,.inl ⟨hw,fun w _=>hv w⟩,h⟩
theorem wpMix_move {s:Nat} {sw:Bool} {C:World→Prop} {T:Act→World→Prop} {k:Nat} {r:List (Nat×Nat)} {a:Act} {w:World} {o:Oper} (ho:ops[k]?=some o) (hw:Region.wanted o (yielded ops a.tmps)=true) (x:Operand) (hx:o.op=.move x) (v:Value)
  (hv:a.eval x=v) (h:wpMix P ops s C T sw r (a.put o.dst v) w):wpMix P ops s C T sw ((k,1) :: r) a w:=by
 subst hv
 exact wpMix_pure ho hw _ (fun w=>by unfold execOp;simp [hx]) h
theorem wpMix_loud {s:Nat} {sw:Bool} {C:World→Prop} {T:Act→World→Prop} {k:Nat} {r:List (Nat×Nat)} {a:Act} {w:World} {o:Oper} (ho:ops[k]?=some o)
  (h:wpList P ops (QK fun a' w'=>((sw||decide (k=s))=false→C w')∧wpMix P ops s C T (sw||decide (k=s)) r a' w') [o] a w):wpMix P ops s C T sw ((k,2) :: r) a w:=by
 simp only [wpMix]
 unfold wpOp
 simp only [ho]
 simp only [wpList] at h
 split
 ·rename_i hw
  simp only [hw,if_true] at h
  rcases h with h | h
  ·exact .inl (upon_QK h)
  ·exact absurd h.2 (not_letsOut_QK _)
 ·rename_i hw
  simp only [hw] at h
  exact h
end
end Go.Mixed2
