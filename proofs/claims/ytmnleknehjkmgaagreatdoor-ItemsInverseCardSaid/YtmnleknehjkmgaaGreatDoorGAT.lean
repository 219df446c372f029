/-
  StO, ItD, ItE, ItC, ItI, ItJ, ItK, InW, CnW, CnD.
-/
import Derived.Test.YtmnleknehjkmgaaGreatDoorGAB
import Derived.Test.YtmnleknehjkmgaaGreatDoorGAP
import Derived.Test.YtmnleknehjkmgaaGreatDoorGAS
import Derived.Test.YtmnleknehjkmgaaGreatDoorGAR
import Derived.Laws.CopyOwn
import Derived.Laws.Tables
import Derived.Test.YtmnleknehjkmgaaGreatDoorGAA
import Derived.Lib.SmallJoins
import Derived.Deep.Slices
import Derived.Deep.Strs
import Derived.Deep.Fields
import Derived.ChangeSame
import Derived.OpenShut
set_option linter.all false
set_option maxRecDepth 100000
set_option maxHeartbeats 4000000
namespace Go.Stops
open Go Go.RowKit
def ApartT {β:Type} (T:TypeId) (q:Nat) (J:β→World→Prop):Prop:=∀ s X Y,J s X→X.grownBy Y (some q)→(∃ cur fz,X.heap[q]?=some (.cells cur T fz))→J s Y
def TellsQ {α:Type} (F:Fence) (n:Nat) (P:Program) (g:Nat) (lb:Array Value) (encs:α→Array Value) (T:TypeId) (E:Nat→List α→α→World→Prop) (Kp:Nat→World→World→Prop) (S:List α→Prop) (w:World):Prop:=
 ∀ (l:Nat) (J Jx:Nat→List α→World→Prop) (W:World),Below w.heap.size w W→(∀ q,W.heap.size≤q→AbidesFrom W.heap.size (J q))→(∀ q,W.heap.size≤q→ApartT T q (J q))→
  (∀ q pre x W1,W.heap.size≤q→q<W1.heap.size→J q pre W1→E q pre x W1→YieldAt F (n - 1) P l (encs x) W1 fun e W'=>(e=.returned (.bool true)∧J q (pre++[x]) W'∧Kp q W1 W')∨(e=.returned (.bool false)∧Jx q (pre++[x]) W'))→
  (∀ q,W.heap.size≤q→AbidesFrom W.heap.size (Jx q))→(∀ q X,W.heap.size≤q→Below W.heap.size W X→q<X.heap.size→J q [] X)→CallsIn F n P g (#[.func (.yield l) #[] #[]]++lb) W fun e W'=>(∃ v,e=.returned v)∧((∃ q xs,W.heap.size≤q∧S xs∧J q xs W')∨∃ q pre,W.heap.size≤q∧Jx q pre W')
variable {F:Fence} {n:Nat} {P:Program}
theorem wpIn_tellsQ {α:Type} {g:Operand} {ps:Array Tmp} {assign body:Code} {Q:Exit→Act→World→Prop} {a:Act} {w:World} (hro:F.round=none) (h1:1≤n)
  {gf:Nat} {lb:Array Value} (hg:a.eval g=.func (.func gf) #[] lb) (hFg:F.fn gf) (eg:∀ args w,(callFunc gf args).run P w=.ok (.enter gf args) w)
  {encs:α→Array Value} {T:TypeId} {E:Nat→List α→α→World→Prop} {Kp:Nat→World→World→Prop} {S:List α→Prop} (hseq:TellsQ F (n - 1) P gf lb encs T E Kp S w)
  (hKt:∀ {q:Nat} {A B C:World},Kp q A B→Kp q B C→Kp q A C) (hKb:∀ (q:Nat) (W:World) (l:Nat) (o o':Obj),w.heap.size≤l→W.heap[l]?=some o→o.isCells=false→Kp q W (W.putObj l o')) (hps:∀ x,(encs x).size=ps.size)
  (I Ix:Nat→List α→World→Prop) (hI:∀ q,w.heap.size+2≤q→OwnFrom w.heap.size (I q)) (hIB:∀ q,w.heap.size+2≤q→ApartT T q (I q)) (hIx:∀ q,w.heap.size+2≤q→OwnFrom w.heap.size (Ix q)) (h0:∀ q X,w.heap.size+2≤q→Below w.heap.size w X→q<X.heap.size→I q [] X) (Ax:Nat→List α→α→Act→World→Prop) (hAx:∀ q p x,OwnFrom w.heap.size (Ax q p x))
  (hassign:∀ (l q:Nat) (pre:List α) (x:α) (W:World) (K:Act→World→Prop),w.heap.size+2≤q→q<W.heap.size→I q pre W→E q pre x W→(∀ a' W',KeepsFrom w.heap.size W W'→Kp q W W'→q<W'.heap.size→I q pre W'→Ax q pre x a' W'→K a' W')→
   assign.wpIn (F.inRound l) (n - 1 - 1) P (Exit.then K (fun _ _ _=>False)) {tmps:=(ps.zip (encs x)).foldl (fun t (p,v)=>t.setIfInBounds p v) a.tmps,defers:=[]} W)
  (hbody:∀ (l q:Nat) (pre:List α) (x:α) (a':Act) (W:World),w.heap.size+2≤q→q<W.heap.size→I q pre W→Ax q pre x a' W→body.wpIn (F.inRound l) (n - 1 - 1) P (endsSo w.heap.size (Kp q) (I q) (Ix q) (pre++[x]) W) a' W)
  (hdone:∀ (D q:Nat) (xs:List α) (W:World),w.heap.size≤D→w.heap.size+2≤q→S xs→I q xs W→W.heap[D]?=some (.deferred (some []))→Q .normal {a with defers:={target:=.collected D,args:=#[]} :: a.defers} W)
  (hstop:∀ (D q:Nat) (pre:List α) (W:World),w.heap.size≤D→w.heap.size+2≤q→Ix q pre W→W.heap[D]?=some (.deferred (some []))→Code.ret.wpIn F n P Q {a with defers:={target:=.collected D,args:=#[]} :: a.defers} W) :
  (Code.rangeFunc g ps assign body).wpIn F n P Q a w:=by
 refine wpIn_rangeFunc fun fn hfn=>?_
 rw [hro]
 let R:LoopState→Option Code→Loop:=fun st j=>{state:=st,pending:=j,fn:=fn,tmps:=a.tmps,params:=ps,assign:=assign,body:=body,defers:=w.heap.size}
 let B:World:=(w.alloc (.deferred (some []))).alloc (.loop (R .ready none))
 have bD:B.heap[w.heap.size]?=some (.deferred (some [])):=(Below.heap_alloc _ _ _ (by simp)).trans (World.alloc_heap_new w _)
 have bL:B.heap[w.heap.size+1]?=some (.loop (R .ready none)):=by
  have h:=World.alloc_heap_new (w.alloc (.deferred (some []))) (.loop (R .ready none))
  rwa [World.size_alloc] at h
 have bB:Below w.heap.size w B:=((Below.refl _ w).alloc (Nat.le_refl _) _).alloc (by simp) _
 have bz:B.heap.size=w.heap.size+1+1:=by simp [B]
 -- what a turn of a walk of the iterator's own leaves of the two blocks
 have walk:∀ {X Y:World} {row:Option Nat} {k:Nat} {o:Obj},X.grownBy Y row→(∀ r,row=some r→B.heap.size≤r∧∃ o:Obj,X.heap[r]?=some o∧o.isWalk=true)→X.heap[k]?=some o→k<w.heap.size+2→Y.heap[k]?=some o:=fun hg' hr hk hlt=>
  (hg'.block _ (Array.getElem?_eq_some_iff.1 hk).1 fun e=>by have:=(hr _ e.symm).1;omega).trans hk
 have cells:∀ {X Y:World} {row:Option Nat},(∀ r,row=some r→B.heap.size≤r∧∃ o:Obj,X.heap[r]?=some o∧o.isWalk=true)→(∀ r,row=some r→w.heap.size≤r∧∃ o:Obj,X.heap[r]?=some o∧o.isCells=false):=fun hr r e=>by
  obtain ⟨k1,o,k2,k3⟩:=hr r e
  exact ⟨by omega,o,k2,Obj.not_cells_of_walk k3⟩
 refine ⟨w.heap.size+1,[{target:=.collected w.heap.size,args:=#[]}],B,{target:=.fn (.func gf) lb,args:=#[.func (.yield (w.heap.size+1)) #[] #[]]},B,gf,#[.func (.yield (w.heap.size+1)) #[] #[]]++lb,B,
  run_enterLoop_outer _ _ _ _ _,by simp only [resolve,hg];simp [go_sem],fun f' hf'=>by simp [Target.leads] at hf';subst hf';exact hFg,by simp [invoke,go_sem,eg],fun _=>h1,?_⟩
 refine (hseq (w.heap.size+1) (fun q pre W=>I q pre W∧W.heap[w.heap.size+1]?=some (.loop (R .ready none))∧W.heap[w.heap.size]?=some (.deferred (some [])))
  (fun q pre W=>Ix q pre W∧W.heap[w.heap.size+1]?=some (.loop (R .done (some .ret)))∧W.heap[w.heap.size]?=some (.deferred (some []))) B bB ?_ ?_ ?_ ?_ ?_).mono ?_
 ·rintro q hq s X Y row ⟨s1,s2,s3⟩ hg' hr
  exact ⟨hI q (by omega) s X Y row s1 hg' (cells (Y:=Y) hr),walk hg' hr s2 (by omega),walk hg' hr s3 (by omega)⟩
 ·rintro q hq s X Y ⟨s1,s2,s3⟩ hg' hT
  have r:∀ {k:Nat} {o:Obj},X.heap[k]?=some o→k<w.heap.size+2→Y.heap[k]?=some o:=fun ho hk=>(hg'.block _ (Array.getElem?_eq_some_iff.1 ho).1 fun e=>by have:=Option.some.inj e;omega).trans ho
  exact ⟨hIB q (by omega) s X Y s1 hg' hT,r s2 (by omega),r s3 (by omega)⟩
 ·rintro q pre x W hq hqW ⟨s1,s2,s3⟩ hx
  refine ⟨fn,_,assign,body,run_yield (P:=P) (args:=encs x) s2 (hps x),roundIn_of_wpIn hfn (hassign _ q pre x W _ (by omega) hqW s1 hx fun a' U u1 uK uq uI uA=>?_)⟩
  have u2:=u1.same _ _ (by omega) s2 rfl
  have u3:=u1.same _ _ (Nat.le_refl _) s3 rfl
  have hlu:w.heap.size+1<U.heap.size:=(Array.getElem?_eq_some_iff.1 u2).1
  refine ⟨_,run_beginRound u2 rfl,?_⟩
  obtain ⟨V,hV⟩:∃ V,U.putObj (w.heap.size+1) (.loop {R .ready none with state:=.busy})=V:=⟨_,rfl⟩
  have v2:V.heap[w.heap.size+1]?=some (.loop {R .ready none with state:=.busy}):=hV ▸ World.putObj_heap_same hlu
  have v3:V.heap[w.heap.size]?=some (.deferred (some [])):=hV ▸ (World.putObj_heap_other (by omega)).trans u3
  have vI:I q pre V:=hV ▸ (hI q (by omega)).putObj _ uI (by omega) u2 rfl
  have vE:Ax q pre x a' V:=hV ▸ (hAx q pre x).putObj _ uA (by omega) u2 rfl
  have vK:Kp q W V:=hKt uK (hV ▸ hKb _ _ _ _ _ (by omega) u2 rfl)
  have vq:q<V.heap.size:=by rw [← hV];simpa using uq
  show body.wpIn _ _ _ _ _ (U.putObj (w.heap.size+1) (.loop {R .ready none with state:=.busy}))
  rw [hV]
  refine wpIn_mono (hbody _ q pre x a' V (by omega) vq vI vE) ?_
  rintro (_ | _ | _ | _ | _ | _) a3 Z hz
  case normal=>
   obtain ⟨z1,z2,z3⟩:=hz
   have l3:=z1.same _ _ (by omega) v2 rfl
   exact ⟨_,_,run_endRound (P:=P) none l3,.inl ⟨rfl,⟨(hI q (by omega)).putObj _ z3 (by omega) l3 rfl,World.putObj_heap_same (Array.getElem?_eq_some_iff.1 l3).1,(World.putObj_heap_other (by omega)).trans (z1.same _ _ (Nat.le_refl _) v3 rfl)⟩,hKt (hKt vK z2) (hKb _ _ _ _ _ (by omega) l3 rfl)⟩⟩
  case ret=>
   obtain ⟨z1,z3⟩:=hz
   have l3:=z1.same _ _ (by omega) v2 rfl
   exact ⟨_,_,run_endRound (P:=P) (some .ret) l3,.inr ⟨rfl,(hIx q (by omega)).putObj _ z3 (by omega) l3 rfl,World.putObj_heap_same (Array.getElem?_eq_some_iff.1 l3).1,(World.putObj_heap_other (by omega)).trans (z1.same _ _ (Nat.le_refl _) v3 rfl)⟩⟩
  all_goals exact hz.elim
 ·rintro q hq s X Y row ⟨s1,s2,s3⟩ hg' hr
  exact ⟨hIx q (by omega) s X Y row s1 hg' (cells (Y:=Y) hr),walk hg' hr s2 (by omega),walk hg' hr s3 (by omega)⟩
 ·rintro q X hq hX hqX
  exact ⟨h0 q X (by omega) (bB.trans (hX.mono (by omega))) hqX,(hX.block _ (by omega)).trans bL,(hX.block _ (by omega)).trans bD⟩
 ·rintro e Z ⟨⟨v,rfl⟩,(⟨q,xs,hq,hS,z1,z2,z3⟩ | ⟨q,pre,hq,z1,z2,z3⟩)⟩
  ·exact ⟨none,_,run_endLoop (P:=P) z2 (by simp [R]),hdone _ q xs _ (Nat.le_refl _) (by omega) hS ((hI q (by omega)).putObj _ z1 (by omega) z2 rfl) ((World.putObj_heap_other (by omega)).trans z3)⟩
  ·exact ⟨some .ret,_,run_endLoop (P:=P) z2 (by simp [R]),hstop _ q pre _ (Nat.le_refl _) (by omega) ((hIx q (by omega)).putObj _ z1 (by omega) z2 rfl) ((World.putObj_heap_other (by omega)).trans z3)⟩
end Go.Stops
namespace Go.Proofs.YtmnleknehjkmgaaGreatDoor
open Go.RowKit Go.Shelf
attribute [local go_sem] Oper.semAt_some
attribute [local irreducible] Go.Mixed.wpMix
def Kq (q cb:Nat) (W W':World):Prop:=W.heap.size≤W'.heap.size∧∀ k o,k≤q→k≠cb→W.heap[k]?=some o→o.isCells=true→W'.heap[k]?=some o
theorem Kq.refl (q cb:Nat) (W:World):Kq q cb W W:=⟨Nat.le_refl _,fun _ _ _ _ h _=>h⟩
theorem Kq.trans {q cb:Nat} {A B C:World} (h:Kq q cb A B) (k:Kq q cb B C):Kq q cb A C:=⟨Nat.le_trans h.1 k.1,fun x o h1 h2 h3 h4=>k.2 x o h1 h2 (h.2 x o h1 h2 h3 h4) h4⟩
theorem Kq.le {p q cb:Nat} {W W':World} (h:Kq q cb W W') (k:p≤q):Kq p cb W W':=⟨h.1,fun x o h1 h2 h3 h4=>h.2 x o (Nat.le_trans h1 k) h2 h3 h4⟩
theorem Kq.of_below {q cb:Nat} {W W':World} (hb:Below W.heap.size W W'):Kq q cb W W':=⟨hb.size,fun k o _ _ h _=>(hb.block k (Array.getElem?_eq_some_iff.1 h).1).trans h⟩
theorem Kq.put (q cb:Nat) (W:World) (l:Nat) (o o':Obj) (hl:W.heap[l]?=some o) (ho:o.isCells=false):Kq q cb W (W.putObj l o'):=by
 refine ⟨by simp,fun k x _ _ hx hc=>?_⟩
 have hne:k≠l:=by
  rintro rfl
  rw [hl] at hx
  obtain rfl:=Option.some.inj hx
  rw [ho] at hc
  cases hc
 exact (World.putObj_heap_other hne).trans hx
theorem Kq.cell {q cb:Nat} {W W':World} (h:Kq q cb W W') {a:Addr} {v:Value} (hv:W.cell? a=some v) (h1:a.block≤q) (h2:a.block≠cb):W'.cell? a=some v:=by
 obtain ⟨o,ho,hc⟩:=cells_of_cell hv
 exact (World.cell?_of_block ((h.2 _ o h1 h2 ho hc).trans ho.symm)).trans hv
theorem BytesAt.kq {q cb:Nat} {W W':World} {A:Option Addr} {xs:Str} (h:BytesAt W A xs) (k:Kq q cb W W') (hA:∀ a,A=some a→xs≠[]→a.block≤q∧a.block≠cb):BytesAt W' A xs:=by
 by_cases hx:xs=[]
 ·exact .inl hx
 rcases h with h | ⟨b,off,rfl,hc⟩
 ·exact absurd h hx
 ·obtain ⟨h1,h2⟩:=hA _ rfl hx
  exact .inr ⟨b,off,rfl,fun j hj=>k.cell (hc j hj) h1 h2⟩
theorem bytes_lt {W:World} {A:Option Addr} {xs:Str} (h:BytesAt W A xs) (a:Addr) (ha:A=some a) (hx:xs≠[]):a.block<W.heap.size:=by
 rcases h with h | ⟨b,off,e,hc⟩
 ·exact absurd h hx
 ·rw [ha] at e
  obtain rfl:=Option.some.inj e
  exact World.block_lt_of_cell? W _ (hc 0 (List.length_pos_iff.2 hx))
theorem dat_both {w w':World} {b:Str} {at_:Int} {e:Ending} (h:RetDAt w b at_ e w'):∃ (r:Xe) (nx:Int) (ok:Bool),e=.returned (.tuple #[.agg #[.int .i64 r.x.kind,.slice r.A r.x.raw.length r.ca,.string (sB r.x.m),.slice r.B r.x.C.length r.cb,.bool r.x.al],.int .i64 nx,.bool ok])∧Below w.heap.size w w'∧
  (ok=true→∃ k:Nat,at_=k∧k<b.length∧r.x=itR (b.drop k)∧nx=((k+r.x.raw.length:Nat):Int)∧OwnX w' w.heap.size r)∧(ok=false→at_<0∨(b.length:Int)≤at_):=by
 rcases h with ⟨h1,rfl,hb⟩ | ⟨k,hk,hlt,A,c,B,c2,rfl,hO,hT,hb⟩
 ·exact ⟨⟨⟨0,[],[],[],false⟩,none,0,none,0⟩,0,false,rfl,hb,fun h=>(by cases h),fun _=>h1⟩
 ·exact ⟨⟨itR (b.drop k),A,c,B,c2⟩,_,true,rfl,hb,fun _=>⟨k,hk,hlt,rfl,rfl,hO,hT⟩,fun h=>(by cases h)⟩
def StI (b:Str) (N:Nat) (wr:World) (pre:List Xe) (ok:Bool) (nx:Int) (r:Xe):Prop:=
 (ok=true→∃ k:Nat,k<b.length∧r.x=itR (b.drop k)∧nx=((k+r.x.raw.length:Nat):Int)∧k+r.x.raw.length≤b.length∧1≤r.x.raw.length∧pre.map Xe.x++itemsR (b.drop k)=itemsR b∧OwnX wr N r)∧(ok=false→pre.map Xe.x=itemsR b)
theorem st_first {b:Str} {N:Nat} {w':World} {r:Xe} {nx:Int} {ok:Bool} (h1:ok=true→∃ k:Nat,(0:Int)=k∧k<b.length∧r.x=itR (b.drop k)∧nx=((k+r.x.raw.length:Nat):Int)∧OwnX w' N r) (h2:ok=false→(0:Int)<0∨(b.length:Int)≤0):StI b N w' [] ok nx r:=by
 refine ⟨fun e=>?_,fun e=>?_⟩
 ·obtain ⟨k,hk,a1,a2,a3,a4⟩:=h1 e
  obtain rfl:k=0:=by omega
  have hr:=raw_len (drop_ne rfl a1)
  rw [List.length_drop] at hr
  rw [a2] at a3
  exact ⟨0,a1,a2,by rw [a2];exact a3,by rw [a2];omega,by rw [a2];omega,by simp,a4⟩
 ·have h:=h2 e
  have:b=[]:=List.eq_nil_of_length_eq_zero (by omega)
  subst this
  rfl
theorem st_next {b:Str} {N M:Nat} {wr w':World} {pre:List Xe} {r r':Xe} {nx nx':Int} {ok':Bool} (h:StI b N wr pre true nx r) (hNM:N≤M)
  (h1:ok'=true→∃ k:Nat,nx=k∧k<b.length∧r'.x=itR (b.drop k)∧nx'=((k+r'.x.raw.length:Nat):Int)∧OwnX w' M r') (h2:ok'=false→nx<0∨(b.length:Int)≤nx):StI b N w' (pre++[r]) ok' nx' r':=by
 obtain ⟨k,a1,a2,a3,a4,a5,a6,a7⟩:=h.1 rfl
 have hne:b.drop k≠[]:=drop_ne rfl a1
 have hs:=items_step a6 hne r a2
 rw [← a2,List.drop_drop] at hs
 refine ⟨fun e=>?_,fun e=>?_⟩
 ·obtain ⟨k',b0,b1,b2,b3,b4⟩:=h1 e
  obtain rfl:k'=k+r.x.raw.length:=by omega
  have hr:=raw_len (drop_ne rfl b1)
  rw [List.length_drop] at hr
  exact ⟨_,b1,b2,b3,by rw [b2];omega,by rw [b2];omega,hs,b4.lift hNM⟩
 ·have h3:=h2 e
  have:b.drop (k+r.x.raw.length)=[]:=List.eq_nil_of_length_eq_zero (by rw [List.length_drop];omega)
  rw [this,items_nil,List.append_nil] at hs
  exact hs
theorem StI.up {b:Str} {N N':Nat} {w w':World} {pre:List Xe} {ok:Bool} {nx:Int} {r:Xe} (h:StI b N w pre ok nx r) (hx:OwnX w N r→OwnX w' N' r):StI b N' w' pre ok nx r:=
 ⟨fun e=>by obtain ⟨k,a1,a2,a3,a4,a5,a6,a7⟩:=h.1 e;exact ⟨k,a1,a2,a3,a4,a5,a6,hx a7⟩,h.2⟩
def msI (l:Nat):Value→Value→Nat
 | vn,.bool true=>l+1 - (intOf vn).toNat
 | _,_=>0
theorem msI_t (l:Nat) (v:Value):msI l v (.bool true)=l+1 - (intOf v).toNat:=rfl
theorem msI_f (l:Nat) (v:Value):msI l v (.bool false)=0:=rfl
theorem grow_five (w:World) (b:Nat) (v0 v1 v2 v3 v4:Value):w.grownBy (((((w.setCell ⟨b,0,none⟩ v0).setCell ⟨b,1,none⟩ v1).setCell ⟨b,2,none⟩ v2).setCell ⟨b,3,none⟩ v3).setCell ⟨b,4,none⟩ v4) (some b):=
 World.grownBy.trans (World.grownBy.trans (World.grownBy.trans (World.grownBy.trans (grownBy_setC w b 0 v0) (grownBy_setC _ b 1 v1)) (grownBy_setC _ b 2 v2)) (grownBy_setC _ b 3 v3)) (grownBy_setC _ b 4 v4)
theorem OwnX.put {w w':World} {N q:Nat} {r:Xe} {kd:Int} {va vb:Value} {s:ByteArray} {al:Bool} (h:OwnX w N r) (I:ItAt w q kd va s vb al) (hg:w.grownBy w' (some q)):OwnX w' N r:=by
 refine h.grown hg fun k e cur T fz hc=>?_
 cases e
 rw [show w.heap[q]?=_ from I] at hc
 simp only [Option.some.injEq,Obj.cells.injEq] at hc
 rw [← hc.2.1]
 exact ⟨by decide,by decide⟩
theorem items_tellsQ (n Bs cb:Nat) (b:Str) (A:Option Addr) (cap l:Nat) (hl:b.length=l) (hc:l≤cap) (hcm:cap≤maxLen) (hl2:l≤100000) (w:World) (hs:Boxed w Bs 27 (.slice A l cap)) (HB:BytesAt w A b) (hM:MaxAt w) (hcb:cb<w.heap.size) (h1:Bs≠cb) (h2:∀ a,A=some a→b≠[]→a.block≠cb) (h3:0≠cb) :
  Stops.TellsQ Fence.wide n Tryz.prog 22 #[.pointer (some ⟨Bs,0,none⟩)] (fun x:Xe=>#[x.v]) 39 (fun q pre x W=>(pre++[x]).map Xe.x <+: itemsR b∧OwnX W w.heap.size x) (fun q=>Kq q cb) (fun ys=>ys.map Xe.x=itemsR b) w:=fun lp J Jx W hW hJ hA hY hJx h0=>by
 have hJd:∀ (q:Nat),W.heap.size≤q→∀ (z:List Xe) (X Y:World),J q z X→Below X.heap.size X Y→J q z Y:=fun q hq z X Y h hb=>hJ q hq z X Y none h (grow_below hb none) (fun r e=>by cases e)
 have bs1:Boxed W Bs 27 (.slice A l cap):=(hW.block Bs hs.lt).trans hs
 have HB1:=HB.below hW
 have HM1:=hM.below hW
 have DA:=dat_any b A cap l hl hc hcm hl2 W HB1 HM1 0
 obtain ⟨N,hN⟩:∃ z,w.heap.size=z:=⟨_,rfl⟩
 have NW:Hid (N≤W.heap.size):=by show _≤_;rw [← hN];exact hW.size
 have AT:Hid (∀ q W3,W.heap.size≤q→Below W.heap.size W W3→∀ W',Kq (q - 1) cb W3 W'→Boxed W' Bs 27 (.slice A l cap)∧∀ at_:Int,Calls Tryz.prog 23 #[.slice A l cap,.int .i64 at_] W' (RetDAt W' b at_)):=fun q W3 hq h3' W' hk=>by
  have lt1:=bs1.lt
  have e1:Boxed W3 Bs 27 (.slice A l cap):=(h3'.block Bs lt1).trans bs1
  have e2:=HB1.below h3'
  obtain ⟨m,hm⟩:=HM1.below h3'
  have lt3:=HM1.lt
  refine ⟨hk.2 Bs _ (by omega) h1 e1 rfl,fun at_=>dat_any b A cap l hl hc hcm hl2 W' (e2.kq hk fun a ha hne=>⟨?_,h2 a ha hne⟩) ⟨m,hk.cell hm (by show 0≤q - 1;omega) h3⟩ at_⟩
  have:=bytes_lt HB1 a ha hne
  omega
 have HL:Hid (b.length=l):=hl
 have HL2:l≤100000:=hl2
 have HCB:Hid (cb<W.heap.size):=Nat.lt_of_lt_of_le hcb hW.size
 have hY:=Lib.hid hY
 have hA:=Lib.hid hA
 have hJd:=Lib.hid hJd
 have h0:=Lib.hid h0
 have k0:=bs1.cell
 obtain ⟨NN,hNN⟩:∃ z,W.heap.size=z:=⟨_,rfl⟩
 have HNN:=Lib.hid hNN
 rw [hN] at hY
 clear hs HB hM hcb h1 h2 h3 bs1 HB1 HM1 hl hc hcm hl2 hJ hJx hN hW hNN
 refine callsIn_wide.2 ?_
 show Calls Tryz.prog 22 #[.func (.yield lp) #[] #[],.pointer (some ⟨Bs,0,none⟩)] W _
 go_enter Tryz.func22,Tryz.ntmps22
 go_wp2_with fail
 refine DA.mono ?_
 rintro e W1 hR
 obtain ⟨r,nx,ok,rfl,hb,f1,f2⟩:=dat_both hR
 have ST1:=st_first f1 f2
 obtain ⟨q,hq⟩:∃ z,W1.heap.size=z:=⟨_,rfl⟩
 obtain ⟨wq,hwq,Iq,yq,zq⟩:=it_start W1 q hq
 obtain ⟨W3,hw3,i1,i2,i3,i4,i5,i6⟩:=Iq.put r.x.kind (.slice r.A r.x.raw.length r.ca) (sB r.x.m) (.slice r.B r.x.C.length r.cb) r.x.al
 have hqN:Hid (W.heap.size≤q):=by show _≤_;rw [← hq];exact hb.size
 have B3:Hid (Below W.heap.size W W3):=hb.trans ((yq.trans (i2.mono (by omega))).mono hb.size)
 have ST3:Hid (StI b N W3 [] ok nx r):=by
  refine StI.up ST1 fun h=>?_
  refine OwnX.put ((h.below yq).lift NW.out) Iq ?_
  rw [← hw3]
  exact grow_five wq q _ _ _ _ _
 have IQ:Hid (ItAt W3 q r.x.kind (.slice r.A r.x.raw.length r.ca) (sB r.x.m) (.slice r.B r.x.C.length r.cb) r.x.al):=i1
 have J3:Hid (J q [] W3):=h0.out q W3 hqN.out B3.out i1.lt
 obtain ⟨m0,m1,m2,m3,m4,m5⟩:=Iq.cells
 have PUT:Hid (∀ (W5 W6:World) (pre:List Xe) (r r':Xe) (nx:Int) (ok:Bool),ItAt W5 q r.x.kind (.slice r.A r.x.raw.length r.ca) (sB r.x.m) (.slice r.B r.x.C.length r.cb) r.x.al→((((W5.setCell ⟨q,0,none⟩ (.int .i64 r'.x.kind)).setCell ⟨q,1,none⟩ (.slice r'.A r'.x.raw.length r'.ca)).setCell ⟨q,2,none⟩ (.string (sB r'.x.m))).setCell ⟨q,3,none⟩ (.slice r'.B r'.x.C.length r'.cb)).setCell ⟨q,4,none⟩ (.bool r'.x.al)=W6→ItAt W6 q r'.x.kind (.slice r'.A r'.x.raw.length r'.ca) (sB r'.x.m) (.slice r'.B r'.x.C.length r'.cb) r'.x.al→J q pre W5→StI b N W5 pre ok nx r'→J q pre W6∧StI b N W6 pre ok nx r'):=fun W5 W6 pre r r' nx ok hI hw6 _ hJ5 hS=>by
  have hg:W5.grownBy W6 (some q):=by rw [← hw6];exact grow_five W5 q _ _ _ _ _
  exact ⟨hA.out q hqN.out pre W5 W6 hJ5 hg ⟨_,_,hI⟩,hS.up fun h=>OwnX.put h hI hg⟩
 clear hR DA f1 f2 ST1 hb Iq yq i1 i2 i3 i4 i5 i6 k0
 go_wp2
 clear m0 m1 m2 m3 m4 m5 hw3 hwq zq
 go_loopw [4,5] (fun vn vo wr=>∃ (ok:Bool) (nx:Int) (pre:List Xe) (r:Xe),vn=.int .i64 nx∧vo=.bool ok∧Hid (StI b N wr pre ok nx r)∧Hid (J q pre wr)∧Hid (Kq (q - 1) cb W3 wr)∧Hid (ItAt wr q r.x.kind (.slice r.A r.x.raw.length r.ca) (sB r.x.m) (.slice r.B r.x.C.length r.cb) r.x.al)) (fun vn vo _=>msI l vn vo)
 case atStart=>exact ⟨ok,nx,[],r,rfl,rfl,ST3.out,J3.out,Kq.refl _ _ _,IQ.out⟩
 case round=>
  clear ST3 J3 IQ
  obtain ⟨ok,nx,pre,r,rfl,rfl,ST,JJ,KK,IQ⟩:=hrel
  cases ok with
  | false=>
   clear PUT hA hY hJd h0 AT
   go_wp2
   go_end0
   exact ⟨⟨_,rfl⟩,.inl ⟨q,pre,hqN.out,ST.out.2 rfl,JJ.out⟩⟩
  | true=>
   obtain ⟨j0,j1,j2,j3,j4,j5⟩:=IQ.out.cells
   obtain ⟨k,a1,a2,a3,a4,a5,a6,a7⟩:=ST.out.1 rfl
   have hyd:=hY.out q pre r wr hqN.out IQ.out.lt JJ.out ⟨⟨_,items_step a6 (drop_ne rfl a1) r a2⟩,a7⟩
   have NX:Hid (nx=((k+r.x.raw.length:Nat):Int)∧k+r.x.raw.length≤l):=⟨a3,by rw [← HL.out];exact a4⟩
   obtain ⟨fn,tmps,assign,body,hy,hR⟩:=hyd
   simp only [Xe.v] at hy
   clear a1 a2 a3 a4 a5 a6 a7 JJ
   refine (wpIn_wide (n:=n)).1 ?_
   gi_wp2
   refine ⟨fun h=>(by cases h),hR.mono ?_⟩
   rintro e3 W5 (⟨rfl,hJ5,hk5⟩ | ⟨rfl,hJx5⟩)
   ·have K5:Hid (Kq (q - 1) cb W3 W5):=KK.out.trans (hk5.le (Nat.sub_le q 1))
    have J5:Hid (J q (pre++[r]) W5):=hJ5
    have I5:ItAt W5 q r.x.kind (.slice r.A r.x.raw.length r.ca) (sB r.x.m) (.slice r.B r.x.C.length r.cb) r.x.al:=hk5.2 q _ (Nat.le_refl _) (by have h1:=HCB.out;have h2:=hqN.out;omega) IQ.out rfl
    obtain ⟨bs5,da⟩:=AT.out q W3 hqN.out B3.out W5 K5.out
    have da:=da nx
    have k0:=bs5.cell
    have I5:=Lib.hid I5
    clear hJ5 hk5 hR hy j0 j1 j2 j3 j4 j5 IQ KK bs5
    gi_wp2
    gi_wp2_with fail
    refine ⟨trivial,fun h=>(by cases h),(callsIn_wide.2 da).mono ?_⟩
    rintro e W6 hR
    obtain ⟨r',nx',ok',rfl,hb,f1,f2⟩:=dat_both hR
    have I6:ItAt W6 q r.x.kind (.slice r.A r.x.raw.length r.ca) (sB r.x.m) (.slice r.B r.x.C.length r.cb) r.x.al:=I5.out.all hb
    have S6:=st_next ST.out (Nat.le_trans NW.out (Nat.le_trans (Nat.le_of_lt (show W.heap.size<W5.heap.size by have h1:=hqN.out;have h2:=I5.out.lt;omega)) (Nat.le_refl _))) f1 f2
    have HM:Hid (ok'=true→nx<nx'∧nx'≤(l:Int)):=fun e=>by
     obtain ⟨k',b0,b1,b2,b3,-⟩:=f1 e
     have hr:=raw_len (drop_ne rfl b1)
     rw [List.length_drop,HL.out] at hr
     rw [b2] at b3
     have:=HL.out
     omega
    have J6:=hJd.out q hqN.out _ _ _ J5.out hb
    have K6:Kq (q - 1) cb W3 W6:=K5.out.trans (Kq.of_below hb)
    obtain ⟨W7,hw7,i1,i2,i3,i4,i5,i6⟩:=I6.put r'.x.kind (.slice r'.A r'.x.raw.length r'.ca) (sB r'.x.m) (.slice r'.B r'.x.C.length r'.cb) r'.x.al
    have P7:=Lib.hid (PUT.out W6 W7 (pre++[r]) r r' nx' ok' I6 hw7 i1 J6 S6)
    have I7:Hid (ItAt W7 q r'.x.kind (.slice r'.A r'.x.raw.length r'.ca) (sB r'.x.m) (.slice r'.B r'.x.C.length r'.cb) r'.x.al):=i1
    have K7:Hid (Kq (q - 1) cb W3 W7):=K6.trans ⟨by omega,fun k o hk hkc ho _=>(i6 k (by have h1:=HCB.out;have h2:=hqN.out;omega)).trans ho⟩
    obtain ⟨m0,m1,m2,m3,m4,m5⟩:=I6.cells
    clear hR da f1 f2 hb I5 S6 J6 K6 i1 i2 i3 i4 i5 i6 I6 J5 K5
    gi_wp2
    go_roundw
    case rel=>exact ⟨ok',nx',pre++[r],r',rfl,rfl,P7.out.2,P7.out.1,K7.out,I7.out⟩
    case measure=>
     obtain ⟨hn1,hn2⟩:=NX.out
     cases ok' with
     | false=>
      show msI l _ (.bool false)<msI l (.int .i64 nx) (.bool true)
      rw [msI_f,msI_t]
      simp only [intOf]
      omega
     | true=>
      obtain ⟨hm1,hm2⟩:=HM.out rfl
      show msI l (.int .i64 nx') (.bool true)<msI l (.int .i64 nx) (.bool true)
      rw [msI_t,msI_t]
      simp only [intOf]
      omega
   ·clear hR hy
    gi_wp2
    go_wp2
    go_end0
    exact ⟨⟨_,rfl⟩,.inr ⟨q,_,hqN.out,hJx5⟩⟩
end Go.Proofs.YtmnleknehjkmgaaGreatDoor
namespace Go.Proofs.YtmnleknehjkmgaaGreatDoor
open Go.RowKit Go.Shelf
attribute [local go_sem] Oper.semAt_some
theorem wpListIn_rapp {F:Fence} {n:Nat} {w w1:World} {t ty:TypeId} {v y v':Value} (h1:(Builtin.append_ #[t,t] ty #[v,y]).run Tryz.prog w=.ok v' w1) {ops:Array Oper} {rest:List Oper} {o:Oper} {a:Act} {Q:Exit→Act→World→Prop} (hgd:o.guard=none) (s x:Operand)
  (ho:o.op=.call {callee:=.builtin .append,args:=#[s,x],argTypes:=#[t,t]}) (hty:o.type=ty) (hs:a.eval s=v) (hx:a.eval x=y) (hk:wpListIn F n Tryz.prog ops Q rest (a.put o.dst v') w1):wpListIn F n Tryz.prog ops Q (o :: rest) a w:=by
 subst hty
 refine wpListIn_plain hgd fun K hK=>?_
 unfold Oper.wpIn
 refine ⟨?_,?_⟩
 ·simp [Oper.about,ho,resolve,Target.leads,Sem.run_pure]
 ·rw [Oper.semAt_plain F _ _ (by rw [ho];intro c hc;cases hc)]
  simp [execOp,ho,resolve,invoke,builtin,hs,hx,h1,Result.andThen]
  exact hK _ _ hk
theorem keeps_b {W W':World} (h:Below W.heap.size W W') (B:Nat):KeepsFrom B W W':=⟨h.size,fun k o _ hk _=>(h.block k (Array.getElem?_eq_some_iff.1 hk).1).trans hk⟩
theorem not_own {w:World} {base n size:Nat} {e:TypeId} {v:Value} {xs:List Value} {row:Option Nat} (h:w.ownsRow base e size v n xs) (hr:∀ r,row=some r→∃ o:Obj,w.heap[r]?=some o∧o.isCells=false) (r:Nat) (e':row=some r):v.ownBlock≠some r:=fun e2=>by
 obtain ⟨cur,hc⟩:=row_type h e2
 obtain ⟨o,ho,hc2⟩:=hr r e'
 rw [hc] at ho
 obtain rfl:=Option.some.inj ho
 cases hc2
theorem no_type {w:World} {row:Option Nat} (hr:∀ r,row=some r→∃ o:Obj,w.heap[r]?=some o∧o.isCells=false):∀ q,row=some q→∀ cur T fz,w.heap[q]?=some (.cells cur T fz)→T≠5∧T≠50:=fun q e cur T fz hc=>by
 obtain ⟨o,ho,hc2⟩:=hr q e
 rw [hc] at ho
 obtain rfl:=Option.some.inj ho
 cases hc2
theorem it_type {w:World} {q:Nat} (hT:∃ cur fz,w.heap[q]?=some (.cells cur 39 fz)):∀ r,some q=some r→∀ cur T fz,w.heap[r]?=some (.cells cur T fz)→T≠5∧T≠50:=fun r e cur T fz hc=>by
 cases e
 obtain ⟨cur2,fz2,h⟩:=hT
 rw [h] at hc
 simp only [Option.some.injEq,Obj.cells.injEq] at hc
 rw [← hc.2.1]
 exact ⟨by decide,by decide⟩
theorem OwnX.keeps {w w':World} {n:Nat} {r:Xe} {row:Option Nat} (h:OwnX w n r) (hg:w.grownBy w' row) (hr:∀ r,row=some r→∃ o:Obj,w.heap[r]?=some o∧o.isCells=false):OwnX w' n r:=h.grown hg (no_type hr)
theorem OwnIq.keeps {w w':World} {q n:Nat} {v:Value} {R:List Xe} {row:Option Nat} (h:OwnIq w q n v R) (hg:w.grownBy w' row) (hr:∀ r,row=some r→∃ o:Obj,w.heap[r]?=some o∧o.isCells=false):OwnIq w' q n v R:=h.grown hg (not_own h.1 hr) (no_type hr)
theorem ItAt.keeps {w w':World} {k:Nat} {kd:Int} {va vb:Value} {s:ByteArray} {al:Bool} {row:Option Nat} (h:ItAt w k kd va s vb al) (hg:w.grownBy w' row) (hr:∀ r,row=some r→∃ o:Obj,w.heap[r]?=some o∧o.isCells=false):ItAt w' k kd va s vb al:=by
 refine (hg.block k h.lt fun e=>?_).trans h
 obtain ⟨o,ho,hc⟩:=hr k e.symm
 rw [show w.heap[k]?=_ from h] at ho
 obtain rfl:=Option.some.inj ho
 cases hc
theorem set_id {W:World} {B:Nat} {t:TypeId} {v:Value} (h:Boxed W B t v):W.setCell ⟨B,0,none⟩ v=W:=by
 have e:(W.setCell ⟨B,0,none⟩ v).heap=W.heap:=by
  refine Array.ext_getElem? fun k=>?_
  by_cases hk:k=B
  ·subst hk
   exact (Boxed.set v h).trans h.symm
  ·exact heap_setCell_other W ⟨B,0,none⟩ k _ hk
 calc W.setCell ⟨B,0,none⟩ v={W with heap:=(W.setCell ⟨B,0,none⟩ v).heap}:=rfl
  _=W:=by rw [e]
theorem appSeq_any (Bs:Nat) (b:Str) (A:Option Addr) (cap l:Nat) (hl:b.length=l) (hc:l≤cap) (hcm:cap≤maxLen) (hl2:l≤90000) (w:World) (hs:Boxed w Bs 27 (.slice A l cap)) (HB:BytesAt w A b) (hM:MaxAt w) :
  Calls Tryz.prog 21 #[.slice none 0 0,.func (.func 22) #[] #[.pointer (some ⟨Bs,0,none⟩)]] w (RetIts w (itemsR b)):=by
 obtain ⟨n,hn⟩:∃ z,w.heap.size=z:=⟨_,rfl⟩
 have HN:=Lib.hid hn
 obtain ⟨W0,hW0⟩:∃ z,w.alloc (.cells #[.slice none 0 0] 31)=z:=⟨_,rfl⟩
 have y0:Below w.heap.size w W0:=by rw [← hW0];exact (Below.refl _ _).alloc (Nat.le_refl _) _
 have zW:W0.heap.size=n+1:=by rw [← hW0,← hn];simp
 have BL:Boxed W0 n 31 (.slice none 0 0):=by rw [← hW0,← hn];exact World.alloc_heap_new w _
 have hseq:=items_tellsQ 2 Bs n b A cap l hl hc hcm (by omega) W0 ((y0.block Bs hs.lt).trans hs) (HB.below y0) (hM.below y0) (by omega) (by have:=hs.lt;omega) (fun a ha hne=>by have:=bytes_lt HB a ha hne;omega) (by have:=hM.lt;omega)
 have BL:=Lib.hid BL
 have B0:Hid (Below n w W0):=by rw [← hn];exact y0
 have HL:=Lib.hid hl
 have ZW:=Lib.hid zW
 have NB:Hid (w.heap.size=n):=hn
 clear hl hc hcm hs HB hM y0
 refine callsIn_wide.1 (callsIn_of_wp_marks (n:=3) Tryz.func21 rfl trivial ?_ rfl)
 simp only [Tryz.ntmps21,List.size_toArray,List.length_cons,List.length_nil,Nat.reduceAdd,Nat.reduceSub,Array.replicate_succ,Array.replicate_zero,List.push_toArray,List.append_toArray,List.nil_append,List.cons_append]
 refine wpIn_wide.2 ?_
 go_wp2_with fail
 clear hn hW0
 rw [zW] at hseq
 have HZ:W0.heap.size+2=n+3:=by omega
 refine wpIn_wide.1 (Stops.wpIn_tellsQ (F:=Fence.wide) (n:=3) rfl (by omega) (gf:=22) (lb:=#[.pointer (some ⟨Bs,0,none⟩)]) rfl trivial (enters_of Tryz.func22 (by kernel_rfl) rfl)
  hseq (fun h k=>h.trans k) (fun q W l o o' _ hl ho=>Kq.put q n W l o o' hl ho) (fun _=>rfl)
  (fun q pre W=>∃ A c R,Boxed W n 31 (.slice A (List.length R) c)∧OwnIq W (q+1) (n+1) (.slice A R.length c) R∧R.map Xe.x=pre.map Xe.x∧Below n w W)
  (fun _ _ _=>False)
  (fun q hq s X Y row h hg hr=>by
   obtain ⟨A,c,R,h1,h2,h3,h4⟩:=h
   exact ⟨A,c,R,h1.kept hg (fun e=>by have:=(hr _ e.symm).1;omega),h2.keeps hg (fun r e=>(hr r e).2),h3,h4.grown hg (by have:=h1.lt;omega) (fun r e=>by have:=(hr r e).1;omega)⟩)
  (fun q hq s X Y h hg hT=>by
   obtain ⟨A,c,R,h1,h2,h3,h4⟩:=h
   exact ⟨A,c,R,h1.kept hg (fun e=>by have:=Option.some.inj e;omega),h2.grown hg (fun r e e2=>by have h5:=(World.ownsRow.lt h2.1 r e2).1;have:=Option.some.inj e;omega) (it_type hT),h3,h4.grown hg (by have:=h1.lt;omega) (fun r e=>by have:=Option.some.inj e;omega)⟩)
  (fun q hq s X Y row h hg hr=>h)
  (fun q X hq hb hqX=>⟨none,0,[],(hb.block n BL.out.lt).trans BL.out,ownIq_nil _ _ _,rfl,B0.out.trans (hb.mono (by omega))⟩)
  (fun q pre x a' W=>OwnX W (n+1) x∧(pre++[x]).map Xe.x <+: itemsR b∧∃ k,q<k∧ItAt W k x.x.kind (.slice x.A x.x.raw.length x.ca) (sB x.x.m) (.slice x.B x.x.C.length x.cb) x.x.al∧a'={tmps:=#[.slice none 0 0,.func (.func 22) #[] #[.pointer (some ⟨Bs,0,none⟩)],.pointer (some ⟨n,0,none⟩),undef,.slice none 0 0,.pointer (some ⟨k,0,none⟩),.func (.func 22) #[] #[.pointer (some ⟨Bs,0,none⟩)],x.v,undef,undef,undef,undef,undef],defers:=[]})
  (fun q pre x s X Y row h hg hr=>by
   obtain ⟨h0,h1,k,h2,h3,h4⟩:=h
   exact ⟨h0.keeps hg (fun r e=>(hr r e).2),h1,k,h2,h3.keeps hg (fun r e=>(hr r e).2),h4⟩)
  ?assign ?body ?done ?stop)
 case assign=>
  rintro lp q pre x W K hq hqW ⟨A,c,R,i1,i2,i3,i4⟩ hE hK
  simp only [Xe.v] at hK ⊢
  gi_wp2
  exact hK _ _ ((KeepsOthers.alloc _ _).from _) (Kq.of_below (up1 _ _)) (by simp;omega) ⟨A,c,R,i1.alloc _,i2.below (up1 _ _),i3,i4.trans ((up1 _ _).mono (by omega))⟩ ⟨hE.2.below (up1 _ _),hE.1,W.heap.size,hqW,World.alloc_heap_new W _,rfl⟩
 case body=>
  rintro lp q pre x a' W hq hqW ⟨A,c,R,i1,i2,i3,i4⟩ ⟨hX,hpre,k,hk,hI,rfl⟩
  have RL:Hid (R.length+1≤100000):=by
   have h1:=congrArg List.length i3
   have h2:=hpre.length_le
   have h3:=items_le b
   have h4:=HL.out
   simp only [List.length_map,List.length_append,List.length_cons,List.length_nil] at h1 h2
   show _≤_
   omega
  have i0:=i1.cell
  obtain ⟨j0,j1,j2,j3,j4,j5⟩:=hI.cells
  have hal:=up1 W (.cells #[.int .i64 x.x.kind,.slice x.A x.x.raw.length x.ca,.string (sB x.x.m),.slice x.B x.x.C.length x.cb,.bool x.x.al] 39)
  have E0:=its_one W x hX.bytes hX.ops
  obtain ⟨wa,hwa⟩:∃ z,W.alloc (.cells #[.int .i64 x.x.kind,.slice x.A x.x.raw.length x.ca,.string (sB x.x.m),.slice x.B x.x.C.length x.cb,.bool x.x.al] 39)=z:=⟨_,rfl⟩
  rw [hwa] at hal E0
  have A1:Boxed wa n 31 (.slice A R.length c):=(hal.block _ i1.lt).trans i1
  have A2:=i2.below hal
  have AX:∀ r∈[x],OwnX wa (n+1) r:=fun r hr=>by
   obtain rfl:=List.mem_singleton.1 hr
   exact hX.below hal
  obtain ⟨v8,w8,k1,k2,k3,k4⟩:=run_appI wa (q+1) (n+1) (.slice A R.length c) R A2 (some ⟨W.heap.size,0,none⟩) 1 [x] E0 AX (by have:=hal.size;omega) RL.out
  obtain ⟨A8,c8,rfl,-,-,-⟩:=k2.its
  obtain ⟨la,hla⟩:∃ z,(R++[x]).length=z:=⟨_,rfl⟩
  rw [hla] at k1 k2
  have b8:Boxed w8 n 31 (.slice A R.length c):=(k3.block n (by omega)).trans A1
  have v0:=b8.cell
  have v1:=b8.frozen
  have K1:=Lib.hid k1
  have kw:Below (q+1) W w8:=(hal.mono (by omega)).trans k3
  have FIN:Hid (KeepsFrom W0.heap.size W (w8.setCell ⟨n,0,none⟩ (.slice A8 la c8))∧Kq q n W (w8.setCell ⟨n,0,none⟩ (.slice A8 la c8))∧∃ A c R2,Boxed (w8.setCell ⟨n,0,none⟩ (.slice A8 la c8)) n 31 (.slice A (List.length R2) c)∧OwnIq (w8.setCell ⟨n,0,none⟩ (.slice A8 la c8)) (q+1) (n+1) (.slice A R2.length c) R2∧R2.map Xe.x=(pre++[x]).map Xe.x∧Below n w (w8.setCell ⟨n,0,none⟩ (.slice A8 la c8))):=by
   have hg:=grownBy_setC w8 n 0 (.slice A8 la c8)
   refine ⟨(keeps_b hal _).trans (((KeepsOthers.of_grownBy k4 fun j o e ho=>?_).trans (KeepsOthers.setCell _ _ _)).from _),⟨by have:=kw.size;simpa using this,fun y o h1 h2 h3 h4=>?_⟩,A8,c8,R++[x],by rw [hla];exact Boxed.set _ b8,?_,by rw [List.map_append,List.map_append,i3],?_⟩
   ·obtain ⟨cur,hc⟩:=row_type A2.1 e
    rw [hc] at ho
    obtain rfl:=Option.some.inj ho
    rfl
   ·exact (heap_setCell_other w8 ⟨n,0,none⟩ y _ h2).trans ((kw.block y (by omega)).trans h3)
   ·rw [hla]
    refine k2.grown hg (fun r e e2=>?_) (fun r e cur T fz hc=>?_)
    ·have h5:=(World.ownsRow.lt k2.1 r e2).1
     have:=Option.some.inj e
     omega
    ·cases e
     rw [show w8.heap[n]?=_ from b8] at hc
     simp only [Option.some.injEq,Obj.cells.injEq] at hc
     rw [← hc.2.1]
     exact ⟨by decide,by decide⟩
   ·exact (i4.trans (kw.mono (by omega))).setCell (p:=⟨n,0,none⟩) (Nat.le_refl _) _
  clear i1 i2 i3 i4 hX hpre hI hal E0 A1 A2 AX k1 k2 k3 k4 b8 kw hla RL
  gi_wp2_with (gi_at_builtin;refine wpListIn_rapp K1.out rfl _ _ rfl rfl rfl rfl ?_)
  exact FIN.out
 case done=>
  rintro D q ys W hD hq hys ⟨A,c,R,g1,g2,g3,g4⟩ hK
  have c1:=g1.cell
  have HK:=Lib.hid hK
  have G2:=Lib.hid g2
  have G4:=Lib.hid g4
  have G3:Hid (R.map Xe.x=itemsR b):=g3.trans hys
  have HW:Hid (n<W.heap.size):=g1.lt
  clear g2 g3 g4 hK hseq hys
  go_wp2_with fail
  have hg:=grownBy_putObj' W D (.deferred none)
  refine ⟨by simp,.inl ⟨_,_,rfl,run_takeDeferred HK.out,?_⟩⟩
  refine ⟨.slice A R.length c,?_,?_⟩
  ·simp [results,Tryz.results21,go_sem]
  ·have hk:∀ r,some D=some r→∃ o:Obj,W.heap[r]?=some o∧o.isCells=false:=fun r e=>by cases e;exact ⟨_,HK.out,rfl⟩
   refine ⟨A,c,R,rfl,G3.out,?_,?_⟩
   ·rw [NB.out]
    exact (G2.out.keeps hg hk).lift (by omega) (by omega)
   ·rw [NB.out]
    exact G4.out.trans (belowK_b (w:=w) (by rw [NB.out];omega) W D _ _ (by rw [NB.out];omega) HK.out rfl rfl)
 case stop=>
  rintro D q pre W hD hq h
  exact h.elim
theorem itemsOf_any (A:Option Addr) (l cap:Nat) (w:World):Calls Tryz.prog 14 #[.slice A l cap] w fun e w'=>e=.returned (.func (.func 22) #[] #[.pointer (some ⟨w.heap.size,0,none⟩)])∧w.alloc (.cells #[.slice A l cap] 27)=w':=by
 go_enter Tryz.func14,Tryz.ntmps14
 go_wp2
 go_ret
 exact ⟨rfl,rfl⟩
theorem collect_any13 (Bs:Nat) (b:Str) (A:Option Addr) (cap l:Nat) (hl:b.length=l) (hc:l≤cap) (hcm:cap≤maxLen) (hl2:l≤90000) (w:World) (hs:Boxed w Bs 27 (.slice A l cap)) (HB:BytesAt w A b) (hM:MaxAt w) :
  Calls Tryz.prog 13 #[.func (.func 22) #[] #[.pointer (some ⟨Bs,0,none⟩)]] w (RetIts w (itemsR b)):=by
 have AS:=appSeq_any Bs b A cap l hl hc hcm hl2 w hs HB hM
 clear hl hc hcm hl2 hs HB hM
 go_enter Tryz.func13,Tryz.ntmps13
 go_wp2_with fail
 refine AS.mono ?_
 rintro e w' ⟨A',c,R,rfl,h1,h2,h3⟩
 have F:=Lib.hid (show RetIts w (itemsR b) (.returned (.slice A' R.length c)) w' from ⟨A',c,R,rfl,h1,h2,h3⟩)
 obtain ⟨la,hla⟩:∃ z,R.length=z:=⟨_,rfl⟩
 rw [hla] at F ⊢
 clear h1 h2 h3 hla AS
 go_wp2
 go_ret
 exact F.out
theorem decode13_any (b:Str) (A:Option Addr) (cap l:Nat) (hl:b.length=l) (hc:l≤cap) (hcm:cap≤maxLen) (hl2:l≤90000) (w:World) (HB:BytesAt w A b) (hM:MaxAt w) :
  Calls Tryz.prog 6 #[.slice A l cap] w (RetIts w (itemsR b)):=by
 have IO:=itemsOf_any A l cap w
 have CO:=Lib.hid (fun w1 (y1:Below w.heap.size w w1) (hs:Boxed w1 w.heap.size 27 (.slice A l cap))=>collect_any13 w.heap.size b A cap l hl hc hcm hl2 w1 hs (HB.below y1) (hM.below y1))
 clear hl hc hcm hl2 HB hM
 go_enter Tryz.func6,Tryz.ntmps6
 go_wp2_with fail
 refine IO.mono ?_
 rintro e w1 ⟨rfl,hw1⟩
 have y1:Below w.heap.size w w1:=by rw [← hw1];exact (Below.refl _ _).alloc (Nat.le_refl _) _
 have C1:=CO.out w1 y1 (by rw [← hw1];exact World.alloc_heap_new w _)
 have Y1:=Lib.hid y1
 clear IO CO hw1 y1
 go_wp2_with fail
 refine C1.mono ?_
 rintro e w' ⟨A',c,R,rfl,h1,h2,h3⟩
 have F:=Lib.hid (show RetIts w (itemsR b) (.returned (.slice A' R.length c)) w' from ⟨A',c,R,rfl,h1,h2.lift Y1.out.size,Y1.out.trans (h3.mono Y1.out.size)⟩)
 obtain ⟨la,hla⟩:∃ z,R.length=z:=⟨_,rfl⟩
 rw [hla] at F ⊢
 clear h1 h2 h3 hla C1
 go_wp2
 go_ret
 exact F.out
end Go.Proofs.YtmnleknehjkmgaaGreatDoor
namespace Go.Proofs.YtmnleknehjkmgaaGreatDoor
open Go.RowKit Go.Shelf
attribute [local go_sem] Oper.semAt_some
attribute [local irreducible] Go.Mixed.wpMix
theorem townB_caps {w:World} {n l c:Nat} {A:Option Addr} {xs:Str} (h:TOwnB w n (.slice A l c) xs):l≤c∧c≤maxLen:=by
 rcases h.2 with ⟨e,h0⟩ | ⟨g,cap,cur,e,_,_,hle,hm,_⟩
 ·simp only [Value.slice.injEq] at e
  omega
 ·simp only [Value.slice.injEq] at e
  omega
theorem townB_at {w:World} {n l c:Nat} {A:Option Addr} {xs:Str} (h:TOwnB w n (.slice A l c) xs):BytesAt w A xs:=by
 obtain ⟨A',c',e,hp⟩:=h.bytes
 simp only [Value.slice.injEq] at e
 rw [e.1];exact hp
def ItJ (w:World) (A:Option Addr) (r:Xe) (j:Nat):Prop:=∃ b off,A=some ⟨b,off,none⟩∧w.cell? ⟨b,off+j*5,none⟩=some (.int .i64 r.x.kind)∧w.cell? ⟨b,off+j*5+1,none⟩=some (.slice r.A r.x.raw.length r.ca)∧w.cell? ⟨b,off+j*5+2,none⟩=some (.string (sB r.x.m))∧w.cell? ⟨b,off+j*5+3,none⟩=some (.slice r.B r.x.C.length r.cb)∧w.cell? ⟨b,off+j*5+4,none⟩=some (.bool r.x.al)∧BytesAt w r.A r.x.raw∧OpsP w r.B r.x.C
theorem ItsP.j {w:World} {A:Option Addr} {R:List Xe} (h:ItsP w A R) {k:Nat} (hk:k<R.length):ItJ w A R[k] k:=by
 obtain ⟨b,off,h1,-,h2⟩:=h.at_ hk
 exact ⟨b,off,h1,h2⟩
end Go.Proofs.YtmnleknehjkmgaaGreatDoor
namespace Go.Proofs.YtmnleknehjkmgaaGreatDoor
open Go.RowKit Go.Shelf
attribute [local go_sem] Oper.semAt_some
def Kt (q cb:Nat) (W W':World):Prop:=Kq q cb W W'∧∀ (k:Nat) (cur:Array Value) (fz:Nat×Nat),W.heap[k]?=some (Obj.cells cur 39 fz)→W'.heap[k]?=some (Obj.cells cur 39 fz)
theorem Kt.refl (q cb:Nat) (W:World):Kt q cb W W:=⟨Kq.refl _ _ _,fun _ _ _ h=>h⟩
theorem Kt.trans {q cb:Nat} {A B C:World} (h:Kt q cb A B) (k:Kt q cb B C):Kt q cb A C:=⟨h.1.trans k.1,fun x c f h1=>k.2 x c f (h.2 x c f h1)⟩
theorem Kt.of_below {q cb:Nat} {W W':World} (hb:Below W.heap.size W W'):Kt q cb W W':=⟨Kq.of_below hb,fun k _ _ h=>(hb.block k (Array.getElem?_eq_some_iff.1 h).1).trans h⟩
theorem Kt.put (q cb:Nat) (W:World) (l:Nat) (o o':Obj) (hl:W.heap[l]?=some o) (ho:o.isCells=false):Kt q cb W (W.putObj l o'):=by
 refine ⟨Kq.put q cb W l o o' hl ho,fun k c f hx=>?_⟩
 have hne:k≠l:=by
  rintro rfl
  rw [hl] at hx
  obtain rfl:=Option.some.inj hx
  cases ho
 exact (World.putObj_heap_other hne).trans hx
theorem BytesAt.tr {w w':World} {A:Option Addr} {xs:Str} (h:BytesAt w A xs) (f:∀ a v,w.cell? a=some v→w'.cell? a=some v):BytesAt w' A xs:=by
 rcases h with rfl | ⟨b,off,rfl,hc⟩
 ·exact .inl rfl
 ·exact .inr ⟨b,off,rfl,fun j hj=>f _ _ (hc j hj)⟩
theorem OpsP.tr {w w':World} {A:Option Addr} {L:List Tr} (h:OpsP w A L) (f:∀ a v,w.cell? a=some v→w'.cell? a=some v):OpsP w' A L:=by
 rcases h with rfl | ⟨b,off,rfl,hc⟩
 ·exact .inl rfl
 ·exact .inr ⟨b,off,rfl,fun j hj=>⟨f _ _ (hc j hj).1,f _ _ (hc j hj).2.1,f _ _ (hc j hj).2.2⟩⟩
theorem ItJ.tr {w w':World} {A:Option Addr} {r:Xe} {j:Nat} (h:ItJ w A r j) (f:∀ a v,w.cell? a=some v→w'.cell? a=some v):ItJ w' A r j:=by
 obtain ⟨b,off,e,h0,h1,h2,h3,h4,h5,h6⟩:=h
 exact ⟨b,off,e,f _ _ h0,f _ _ h1,f _ _ h2,f _ _ h3,f _ _ h4,h5.tr f,h6.tr f⟩
theorem cell_kq {w0 W W':World} {q cb:Nat} (hb:Below w0.heap.size w0 W) (hk:Kq q cb W W') (h1:w0.heap.size≤q+1) (h2:w0.heap.size≤cb):∀ a v,w0.cell? a=some v→W'.cell? a=some v:=fun a v h=>by
 have hlt:=World.block_lt_of_cell? w0 _ h
 exact hk.cell ((hb.cell hlt).trans h) (by omega) (by omega)
def nth (R:List Xe) (i:Nat):Xe:=R.getD i default
theorem nth_at {R:List Xe} {i:Nat} (h:i<R.length):nth R i=R[i]:=by
 unfold nth
 simp [List.getD,List.getElem?_eq_getElem h]
end Go.Proofs.YtmnleknehjkmgaaGreatDoor
namespace Go.Proofs.YtmnleknehjkmgaaGreatDoor
open Go.RowKit Go.Shelf
attribute [local go_sem] Oper.semAt_some
def kindP (R:List Xe) (kd:Int) (i:Nat):Bool:=decide ((nth R i).x.kind=kd)
theorem filt_succ (p:Nat→Bool) (j:Nat):(List.range (j+1)).filter p=(List.range j).filter p++(if p j=true then [j] else []):=by
 rw [List.range_succ,List.filter_append]
 congr 1
 by_cases h:p j=true
 ·rw [if_pos h];simp [h]
 ·rw [if_neg h];simp [h]
theorem ofKind_tells (n Bs Bk cb:Nat) (kd:Int) (R:List Xe) (A:Option Addr) (lr cr:Nat) (hr:R.length=lr) (hlr:lr≤90000) (w0 w:World) (H:ItsP w0 A R) (hb0:Below w0.heap.size w0 w) (hcb:w0.heap.size≤cb) (hs:Boxed w Bs 31 (.slice A lr cr)) (hk:Boxed w Bk 3 (.int .i64 kd)) (hkc:Bk≠cb) :
  Stops.TellsW Fence.wide n Tryz.prog 24 #[.pointer (some ⟨Bs,0,none⟩),.pointer (some ⟨Bk,0,none⟩)] (fun i:Nat=>#[(nth R i).v]) (fun pre i W=>pre=(List.range i).filter (kindP R kd)∧i<lr∧(nth R i).x.kind=kd∧OpsP W (nth R i).B (nth R i).x.C) (Kq (w.heap.size - 1) cb) (fun ys=>ys=(List.range lr).filter (kindP R kd)) w:=fun lp J Jx W hW hJ hY hJx h0=>by
 have hJd:∀ (z:List Nat) (X Y:World),J z X→Below X.heap.size X Y→J z Y:=fun z X Y h hb=>hJ z X Y none h (grow_below hb none) (fun r e=>by cases e)
 have hs1:Boxed W Bs 31 (.slice A lr cr):=(hW.block Bs hs.lt).trans hs
 have k0:=hs1.cell
 have RJ:Hid (∀ j,j<lr→∀ W',Kq (w.heap.size - 1) cb W W'→ItJ W' A (nth R j) j∧W'.cell? ⟨Bk,0,none⟩=some (.int .i64 kd)):=fun j hj W' hk'=>by
  have hj':j<R.length:=by omega
  rw [nth_at hj']
  have hlt:=hk.lt
  have hk1:Boxed W Bk 3 (.int .i64 kd):=(hW.block Bk hlt).trans hk
  have hk2:Boxed W' Bk 3 (.int .i64 kd):=hk'.2 Bk _ (by omega) hkc hk1 rfl
  exact ⟨(H.j hj').tr (cell_kq (q:=w.heap.size - 1) (hb0.trans (hW.mono hb0.size)) hk' (by have:=hb0.size;omega) hcb),hk2.cell⟩
 obtain ⟨Kp,hKp⟩:∃ z,Kq (w.heap.size - 1) cb=z:=⟨_,rfl⟩
 have KPr:Hid (∀ X,Kp X X):=by rw [← hKp];exact fun X=>Kq.refl _ _ _
 have KPt:Hid (∀ A B C,Kp A B→Kp B C→Kp A C):=by rw [← hKp];exact fun A B C h k=>h.trans k
 have KPb:Hid (∀ X Y,Below X.heap.size X Y→Kp X Y):=by rw [← hKp];exact fun X Y h=>Kq.of_below h
 rw [hKp] at RJ hY
 have J0:=Lib.hid h0
 have HY:=Lib.hid hY
 have HJd:=Lib.hid hJd
 clear hJd h0 hY hJ hJx hs hs1 H hb0 hcb hW hr hKp hk hkc
 refine callsIn_wide.2 ?_
 show Calls Tryz.prog 24 #[.func (.yield lp) #[] #[],.pointer (some ⟨Bs,0,none⟩),.pointer (some ⟨Bk,0,none⟩)] W _
 go_enter Tryz.func24,Tryz.ntmps24
 go_wp2
 go_loopw [8] (fun vi wr=>∃ j:Nat,j≤lr∧vi=.int .i64 j∧Hid (J ((List.range j).filter (kindP R kd)) wr)∧Hid (Kp W wr)) (fun vi _=>lr - (intOf vi).toNat)
 case atStart=>exact ⟨0,Nat.zero_le _,rfl,J0.out,KPr.out W⟩
 case round=>
  clear J0 k0
  obtain ⟨j,hj,rfl,JJ,KK⟩:=hrel
  by_cases hlt:j<lr
  ·obtain ⟨⟨b1,o1,rfl,h0,h1,h2,h3,h4,-,hop⟩,hkb⟩:=RJ.out j hlt wr KK.out
   have hyv:=Lib.hid (fun W1 hJ1 hkk ho=>HY.out ((List.range j).filter (kindP R kd)) j W1 hJ1 ⟨rfl,hlt,hkk,ho⟩)
   have FS:=filt_succ (kindP R kd) j
   have HKP:kindP R kd j=decide ((nth R j).x.kind=kd):=rfl
   obtain ⟨r,hr⟩:∃ z,nth R j=z:=⟨_,rfl⟩
   rw [hr] at h0 h1 h2 h3 h4 hyv hop HKP
   rw [HKP] at FS
   obtain ⟨y,w2,hy,hw2,S2,y2,z2⟩:=Fr.box (Fr.nil wr) #[.int .i64 r.x.kind,.slice r.A r.x.raw.length r.ca,.string (sB r.x.m),.slice r.B r.x.C.length r.cb,.bool r.x.al] 39
   have I2:ItAt w2 y r.x.kind (.slice r.A r.x.raw.length r.ca) (sB r.x.m) (.slice r.B r.x.C.length r.cb) r.x.al:=S2.out.1
   obtain ⟨j0,j1,j2,j3,j4,j5⟩:=I2.cells
   have J2:Hid (J ((List.range j).filter (kindP R kd)) w2):=HJd.out _ _ _ JJ.out y2
   have K2:Hid (Kp W w2):=KPt.out _ _ _ KK.out (KPb.out _ _ y2)
   have O2:=Lib.hid (hop.below y2)
   have hkb2:w2.cell? ⟨Bk,0,none⟩=some (.int .i64 kd):=(RJ.out j hlt w2 K2.out).2
   clear S2 y2 hr I2 hop HKP
   by_cases hkk:r.x.kind=kd
   ·have tt:(r.x.kind == kd)=true:=beq_iff_eq.2 hkk
    rw [decide_eq_true hkk,if_pos rfl] at FS
    have FS:=Lib.hid FS
    obtain ⟨fn,tmps,assign,body,hy',hR⟩:=hyv.out w2 J2.out hkk O2.out
    simp only [Xe.v] at hy'
    obtain ⟨kx,hkx⟩:∃ z,r.x.kind=z:=⟨_,rfl⟩
    rw [hkx] at h0 j0 tt hw2 hy'
    clear hkk hyv JJ KK hkx
    refine (wpIn_wide (n:=n)).1 ?_
    gi_wp2
    refine ⟨fun h=>(by cases h),hR.mono ?_⟩
    rintro e3 W5 (⟨rfl,hJ5,hk5⟩ | ⟨rfl,hJx5⟩)
    ·have K5:Hid (Kp W W5):=KPt.out _ _ _ K2.out hk5
     have J5:Hid (J ((List.range (j+1)).filter (kindP R kd)) W5):=by show J _ _;rw [FS.out];exact hJ5
     clear hJ5 hk5 hR hy' J2 K2 O2 j0 j1 j2 j3 j4 j5 h0 h1 h2 h3 h4 hkb hkb2
     gi_wp2
     go_roundw
     case rel=>exact ⟨j+1,by omega,by go_num,J5.out,K5.out⟩
     case measure=>simp [intOf];omega
    ·clear hR hy'
     gi_wp2
     go_wp2
     refine bodyPost_ret (results_none rfl _ _ _) rfl ?_
     exact ⟨⟨_,rfl⟩,.inr ⟨_,hJx5⟩⟩
   ·have tt:(r.x.kind == kd)=false:=beq_eq_false_iff_ne.2 hkk
    rw [decide_eq_false hkk,if_neg (by decide),List.append_nil] at FS
    have J5:Hid (J ((List.range (j+1)).filter (kindP R kd)) w2):=by show J _ _;rw [FS];exact J2.out
    clear hkk FS hyv JJ KK J2 O2 hkb
    go_wp2
    go_roundw
    case rel=>exact ⟨j+1,by omega,by go_num,J5.out,K2.out⟩
    case measure=>simp [intOf];omega
  ·obtain rfl:lr=j:=by omega
   clear RJ HY
   go_wp2
   go_end0
   exact ⟨⟨_,rfl⟩,.inl ⟨_,rfl,JJ.out⟩⟩
end Go.Proofs.YtmnleknehjkmgaaGreatDoor
namespace Go.Proofs.YtmnleknehjkmgaaGreatDoor
open Go.RowKit Go.Shelf
attribute [local go_sem] Oper.semAt_some
theorem map_nth (R:List Xe):(List.range R.length).map (fun i=>(nth R i).x)=R.map Xe.x:=by
 refine List.ext_getElem (by simp) fun i h1 h2=>?_
 simp only [List.length_map] at h2
 simp [nth_at h2]
theorem filt_nth (R:List Xe) (kd:Int):((List.range R.length).filter (kindP R kd)).map (fun i=>(nth R i).x)=(R.map Xe.x).filter (fun x=>decide (x.kind=kd)):=by
 rw [← map_nth R,List.filter_map]
 rfl
theorem cnt_nth (R:List Xe) (kd:Int):((List.range R.length).filter (kindP R kd)).length=cntI (R.map Xe.x) kd:=by
 unfold cntI
 rw [← filt_nth,List.length_map]
theorem ofKind_any (kd:Int) (A:Option Addr) (l cap n:Nat) (w:World) (hn:w.heap.size=n):Calls Tryz.prog 15 #[.int .i64 kd,.slice A l cap] w fun e w'=>e=.returned (.func (.func 24) #[] #[.pointer (some ⟨n+1,0,none⟩),.pointer (some ⟨n,0,none⟩)])∧Boxed w' n 3 (.int .i64 kd)∧Boxed w' (n+1) 31 (.slice A l cap)∧Below n w w'∧w'.heap.size=n+1+1:=by
 obtain ⟨n0,W1,e1,hW1,S1,y1,z1⟩:=Fr.box (Fr.nil w) #[.int .i64 kd] 3
 obtain ⟨n1,W2,e2,hW2,S2,y2,z2⟩:=Fr.box S1 #[.slice A l cap] 31
 obtain rfl:n0=n:=by omega
 obtain rfl:n1=n0+1:=by omega
 have F:Hid (Boxed W2 n0 3 (.int .i64 kd)∧Boxed W2 (n0+1) 31 (.slice A l cap)∧Below n0 w W2∧W2.heap.size=n0+1+1):=⟨S2.out.2.1,S2.out.1,by rw [← hn];exact y1.trans (y2.mono (by omega)),z2⟩
 clear S1 S2 y1 y2 e1
 go_enter Tryz.func15,Tryz.ntmps15
 go_wp2
 go_ret
 exact ⟨rfl,F.out⟩
theorem count13_any (kd:Int) (R:List Xe) (A:Option Addr) (lr cr:Nat) (hr:R.length=lr) (hlr:lr≤90000) (w:World) (H:ItsP w A R) :
  Calls Tryz.prog 8 #[.int .i64 kd,.slice A lr cr] w fun e w'=>e=.returned (.int .i64 (cntI (R.map Xe.x) kd:Nat))∧Below w.heap.size w w':=by
 obtain ⟨n,W1,e1,hW1,S1,y1,z1⟩:=Fr.box (Fr.nil w) #[.int .i64 0] 3
 have b1:Boxed W1 n 3 (.int .i64 0):=S1.out.1
 have OK:=ofKind_any kd A lr cr (n+1) W1 z1
 have TE:=Lib.hid (fun W0 (y:Below (n+1) W1 W0) (hs:Boxed W0 (n+1+1) 31 (.slice A lr cr)) (hk:Boxed W0 (n+1) 3 (.int .i64 kd))=>ofKind_tells 2 (n+1+1) (n+1) n kd R A lr cr hr hlr w W0 H (y1.trans (y.mono (by omega))) (by omega) hs hk (by omega))
 have HR:=Lib.hid hr
 have NB:Hid (w.heap.size=n):=e1
 have B1:=Lib.hid b1
 have Y1:=Lib.hid y1
 have v0:=b1.cell
 have v1:=b1.frozen
 have v2:=set_id b1
 clear hr H S1 y1 b1 e1
 refine callsIn_wide.1 (callsIn_of_wp_marks (n:=3) Tryz.func8 rfl trivial ?_ rfl)
 simp only [Tryz.ntmps8,List.size_toArray,List.length_cons,List.length_nil,Nat.reduceAdd,Nat.reduceSub,Array.replicate_succ,Array.replicate_zero,List.push_toArray,List.append_toArray,List.nil_append,List.cons_append]
 refine wpIn_wide.2 ?_
 have e1:=NB.out
 go_wp2_with fail
 clear v0 v1 v2 e1
 refine OK.mono ?_
 rintro e W0 ⟨rfl,o1,o2,o3,zW⟩
 have hseq:=TE.out W0 o3 o2 o1
 have BL:Hid (Boxed W0 n 3 (.int .i64 0)):=(o3.block n (by omega)).trans B1.out
 have B0:Hid (Below n w W0):=by
  have h:=Y1.out
  rw [NB.out] at h
  exact h.trans (o3.mono (by omega))
 clear OK TE o1 o2 o3 Y1 B1 hW1
 rw [show W0.heap.size - 1=n+1+1 by omega] at hseq
 go_wp2_with fail
 refine wpIn_wide.1 (Stops.wpIn_tellsW (F:=Fence.wide) (n:=3) rfl (by omega) (gf:=24) (lb:=#[.pointer (some ⟨n+1+1,0,none⟩),.pointer (some ⟨n+1,0,none⟩)]) rfl trivial (enters_of Tryz.func24 (by kernel_rfl) rfl)
  hseq (fun h k=>h.trans k) (fun W l o o' _ hl ho=>Kq.put (n+1+1) n W l o o' hl ho) (fun _=>rfl)
  (fun pre W=>Boxed W n 3 (.int .i64 (pre.length:Nat))∧Below n w W)
  (fun _ _=>False)
  (fun s X Y row h hg hr=>⟨h.1.kept hg (fun e=>by have:=(hr _ e.symm).1;omega),h.2.grown hg (by have:=h.1.lt;omega) (fun r e=>by have:=(hr r e).1;omega)⟩)
  (fun s X Y row h hg hr=>h)
  ⟨BL.out,B0.out⟩
  (fun pre i a' W=>pre.length≤90000∧a'={tmps:=#[.int .i64 kd,.slice A lr cr,undef,undef,.int .i64 0,.pointer (some ⟨n,0,none⟩),.int .i64 kd,.slice A lr cr,.func (.func 24) #[] #[.pointer (some ⟨n+1+1,0,none⟩),.pointer (some ⟨n+1,0,none⟩)],(nth R i).v,undef,undef,undef],defers:=[]})
  (fun pre x s X Y row h hg hr=>h)
  ?assign ?body ?done ?stop)
 case assign=>
  rintro lp pre i W K ⟨i1,i2⟩ hE hK
  simp only [Xe.v] at hK ⊢
  gi_wp2
  refine hK _ _ ((KeepsOthers.refl _).from _) (Kq.refl _ _ _) ⟨i1,i2⟩ ⟨?_,by simp⟩
  rw [hE.1]
  have h1:=List.length_filter_le (kindP R kd) (List.range i)
  have h2:=hE.2.1
  rw [List.length_range] at h1
  omega
 case body=>
  rintro lp pre i a' W ⟨i1,i2⟩ ⟨hle,rfl⟩
  obtain ⟨m,hm⟩:∃ z,pre.length=z:=⟨_,rfl⟩
  rw [hm] at i1 hle
  have v0:=i1.cell
  have v1:=i1.frozen
  have P:Hid (KeepsFrom W0.heap.size W (W.setCell ⟨n,0,none⟩ (.int .i64 ((m:Int)+1)))∧Kq (n+1+1) n W (W.setCell ⟨n,0,none⟩ (.int .i64 ((m:Int)+1)))∧Boxed (W.setCell ⟨n,0,none⟩ (.int .i64 ((m:Int)+1))) n 3 (.int .i64 ((pre++[i]).length:Nat))∧Below n w (W.setCell ⟨n,0,none⟩ (.int .i64 ((m:Int)+1)))):=by
   have hln:(pre++[i]).length=m+1:=by simp [hm]
   refine ⟨(KeepsOthers.setCell _ _ _).from _,⟨by simp,fun y o h1 h2 h3 h4=>(heap_setCell_other W ⟨n,0,none⟩ y _ h2).trans h3⟩,?_,i2.setCell (p:=⟨n,0,none⟩) (Nat.le_refl _) _⟩
   rw [hln]
   exact Boxed.set _ i1
  clear i1 i2 hm
  simp only [Xe.v]
  gi_wp2
  exact P.out
 case done=>
  rintro D ys W hD hys ⟨g1,g2⟩ hK
  have c1:=g1.cell
  have HK:=Lib.hid hK
  have G2:=Lib.hid g2
  have HW:Hid (n<W.heap.size):=g1.lt
  have CN:Hid (ys.length=cntI (R.map Xe.x) kd):=by show _=_;rw [hys,← HR.out];exact cnt_nth R kd
  rw [CN.out] at c1
  obtain ⟨m,hm⟩:∃ z,cntI (R.map Xe.x) kd=z:=⟨_,rfl⟩
  rw [hm] at c1
  have HM:=Lib.hid hm
  clear g1 g2 hK hseq hys CN hm
  go_wp2_with fail
  have hg:=grownBy_putObj' W D (.deferred none)
  refine ⟨by simp,.inl ⟨_,_,rfl,run_takeDeferred HK.out,?_⟩⟩
  refine ⟨.int .i64 m,?_,by rw [HM.out],?_⟩
  ·simp [results,Tryz.results8,go_sem]
  ·rw [NB.out]
   exact G2.out.trans (belowK_b (w:=w) (by rw [NB.out];omega) W D _ _ (by rw [NB.out];omega) HK.out rfl rfl)
 case stop=>
  rintro D pre W hD h
  exact h.elim
end Go.Proofs.YtmnleknehjkmgaaGreatDoor
namespace Go.Proofs.YtmnleknehjkmgaaGreatDoor
open Go.RowKit Go.ChangeShapes Go.WideShapes Go.Deep
theorem plain_cell {w:World} {a:Addr} {v:Value} (h:w.cell? (a.add 0)=some v):∃ b off,a=⟨b,off,none⟩:=by
 obtain ⟨b,off,spot⟩:=a
 have hs:spot=none:=by simpa [Addr.add] using World.cell?_spot h
 subst hs
 exact ⟨b,off,rfl⟩
theorem add_twice (b off i j:Nat):((⟨b,off,none⟩:Addr).add i).add j=⟨b,off+i+j,none⟩:=by
 unfold Addr.add
 by_cases hi:i=0 <;> by_cases hj:j=0 <;> simp [hi,hj]
section
variable {H:Type} {enc:TypeId×Value→H} {w:World} {spare:Nat→Bool} {fuel:Nat}
theorem open_opdC {cs:List Value} {x:DataW H×List MemPlace} (h:DataW.trod enc Tryz.prog w 0 spare true fuel 50 cs=some x):∃ t:Tr,cs=[.int .i64 t.1,.int .i64 t.2.1,.int .i64 t.2.2]:=by
 obtain ⟨y0,y1,y2,n,_,hl,h0,h1,h2⟩:=trod_struct3 Tryz.underlying50 h
 have c3:Tryz.prog.cellsOf 50=3:=by kernel_rfl
 have c1:Tryz.prog.cellsOf 3=1:=by kernel_rfl
 rw [c3] at hl
 match cs,hl with
 | [p0,p1,p2],_=>
  simp only [c1] at h0 h1 h2
  obtain ⟨k,e0,_,_⟩:=DataW.trod_int Tryz.underlying3 h0
  obtain ⟨r,e1,_,_⟩:=DataW.trod_int Tryz.underlying3 h1
  obtain ⟨m,e2,_,_⟩:=DataW.trod_int Tryz.underlying3 h2
  have e0':p0=.int .i64 k:=by simpa using e0
  have e1':p1=.int .i64 r:=by simpa using e1
  have e2':p2=.int .i64 m:=by simpa using e2
  subst e0' e1' e2'
  exact ⟨(k,r,m),rfl⟩
theorem open_opds {v:Value} {x:DataW H×List MemPlace} (h:DataW.trod enc Tryz.prog w 0 spare true fuel 24 [v]=some x) :
  ∃ A len cap L,v=.slice A len cap∧len=L.length∧len≤maxLen∧OpsP w A L:=by
 rcases Deep.open_slice Tryz.underlying24 h with ⟨hcs,_⟩ | ⟨a,len,cap,m,n,D,Pl,hcs,_,hl,hm,hmm,_,hx⟩
 ·simp only [List.cons.injEq,and_true] at hcs
  exact ⟨none,0,0,[],hcs,rfl,Nat.zero_le _,.inl rfl⟩
 ·simp only [List.cons.injEq,and_true] at hcs
  have hlm:len≤m:=by rw [hmm];split <;> omega
  have c3:Tryz.prog.cellsOf 50=3:=by kernel_rfl
  have hall:∀ i,i<len→∃ t:Tr,w.cells? 0 (a.add (i*3)) 3=some [.int .i64 t.1,.int .i64 t.2.1,.int .i64 t.2.2]:=fun i hi=>by
   obtain ⟨cs,h1,h2⟩:=hx i (by omega)
   rw [c3] at h1
   obtain ⟨t,e⟩:=open_opdC h2
   rw [e] at h1
   exact ⟨t,h1⟩
  obtain ⟨f,hf⟩:=Deep.choose_lt hall
  refine ⟨some a,len,cap,(List.range len).map f,hcs,by simp,by omega,?_⟩
  by_cases h0:len=0
  ·left;subst h0;simp
  ·have q:=(World.cells?_some (hf 0 (by omega))).2.2 0 (by omega)
   rw [Nat.zero_mul,show (a.add 0).add 0=a.add 0 by simp [Addr.add]] at q
   obtain ⟨b,off,rfl⟩:=plain_cell q
   refine .inr ⟨b,off,rfl,fun j hj=>?_⟩
   have hj':j<len:=by simpa using hj
   have e0:=(World.cells?_some (hf j hj')).2.2 0 (by omega)
   have e1:=(World.cells?_some (hf j hj')).2.2 1 (by omega)
   have e2:=(World.cells?_some (hf j hj')).2.2 2 (by omega)
   rw [add_twice] at e0 e1 e2
   simp only [List.getElem_map,List.getElem_range]
   exact ⟨e0,e1,e2⟩
end
end Go.Proofs.YtmnleknehjkmgaaGreatDoor
namespace Go.Proofs.YtmnleknehjkmgaaGreatDoor
open Go.RowKit
theorem wid_4 {s:ByteArray} (L:List Tr) (h:I4 s):(0:Int)=widL (opc s) L:=by rw [opc_4 h];rfl
theorem wid_5 {s:ByteArray} (L:List Tr) (h:I5 s):(2:Int)=widL (opc s) L:=by rw [opc_5 h];rfl
theorem wid_6y {s:ByteArray} (L:List Tr) (h:I6 s) (k:0<L.length) (e:L[0].1=3):(2:Int)=widL (opc s) L:=by
 rw [opc_6 h]
 cases L with
 | nil=>simp at k
 | cons t r=>
  have e':t.1=3:=e
  unfold widL
  rw [if_neg (by omega),if_neg (by omega),if_pos ⟨rfl,by simp [e']⟩]
theorem wid_6n {s:ByteArray} (L:List Tr) (h:I6 s) (e:∀ k:0<L.length,¬L[0].1=3):(1:Int)=widL (opc s) L:=by
 rw [opc_6 h]
 unfold widL
 rw [if_neg (by omega),if_neg (by omega),if_neg]
 rintro ⟨-,q⟩
 cases L with
 | nil=>simp at q
 | cons t r=>exact e (by simp) (by simpa using q)
theorem wid_o {s:ByteArray} (L:List Tr) (h4:¬I4 s) (h5:¬I5 s) (h6:¬I6 s):(1:Int)=widL (opc s) L:=by
 unfold widL
 rw [if_neg (opc_n4 h4),if_neg (opc_n5 h5),if_neg (fun q=>opc_n6 h6 q.1)]
theorem width_any (s:ByteArray) (A:Option Addr) (cap:Nat) (L:List Tr) (hL:L.length≤1000) (w:World) (H:OpsP w A L) :
  Calls Tryz.prog 71 #[.agg #[.string s,.slice A L.length cap]] w fun e w'=>e=.returned (.int .i64 (widL (opc s) L))∧Below w.heap.size w w':=by
 have B0:Hid (Below w.heap.size w (w.alloc (.cells #[.string s,.slice A L.length cap] 26))):=(Below.refl _ _).alloc (Nat.le_refl _) _
 by_cases h4:I4 s
 ·have E:=Lib.hid (wid_4 L h4)
  clear H
  rcases h4 with rfl | rfl | rfl | rfl | rfl | rfl
  all_goals
   go_enter Tryz.func71,Tryz.ntmps71
   go_wp2
   go_ret
   exact ⟨ret_int E.out,B0.out⟩
 by_cases h5:I5 s
 ·have E:=Lib.hid (wid_5 L h5)
  clear H h4
  rcases h5 with rfl | rfl
  all_goals
   go_enter Tryz.func71,Tryz.ntmps71
   go_wp2
   go_ret
   exact ⟨ret_int E.out,B0.out⟩
 by_cases h6:I6 s
 ·have EY:=Lib.hid (wid_6y L h6)
  have EN:=Lib.hid (wid_6n L h6)
  have X:=Lib.hid (H.below B0.out)
  clear h4 h5 H
  obtain rfl:s=_:=h6
  by_cases h0:0<L.length
  ·obtain ⟨b,off,rfl,hb,p0,p1,p2⟩:=X.out.at_ h0
   rw [Nat.zero_mul,Nat.add_zero] at p0
   obtain ⟨n,hn⟩:∃ n,L.length=n:=⟨_,rfl⟩
   have EY:=Lib.hid (EY.out h0)
   have EN:=Lib.hid (fun (q:¬L[0].1=3)=>EN.out fun _=>q)
   obtain ⟨k,hk⟩:∃ k,L[0].1=k:=⟨_,rfl⟩
   rw [hk] at EY EN p0
   have g1:decide ((0:Int)<(L.length:Int))=true:=decide_eq_true (by omega)
   have g2:(0:Int)<(L.length:Int):=by omega
   have hL2:L.length≤1000:=hL
   rw [hn] at hL p0 p1 p2 B0 X g1 g2 ⊢
   clear hn hk h0 p1 p2 hb
   by_cases hk3:k=3
   ·have E:=Lib.hid (EY.out hk3)
    subst hk3
    go_enter Tryz.func71,Tryz.ntmps71
    go_wp2
    go_ret
    exact ⟨ret_int E.out,B0.out⟩
   ·have E:=Lib.hid (EN.out hk3)
    go_enter Tryz.func71,Tryz.ntmps71
    go_wp2
    go_ret
    exact ⟨ret_int E.out,B0.out⟩
  ·have e0:L.length=0:=by omega
   have E:=Lib.hid (EN.out fun k=>absurd k h0)
   rw [e0] at B0 ⊢
   clear h0 e0 X
   go_enter Tryz.func71,Tryz.ntmps71
   go_wp2
   go_ret
   exact ⟨ret_int E.out,B0.out⟩
 ·have E:=Lib.hid (wid_o L h4 h5 h6)
  clear H
  simp only [I4,not_or] at h4
  simp only [I5,not_or] at h5
  obtain ⟨n1,n2,n3,n4,n5,n6⟩:=h4
  obtain ⟨n7,n8⟩:=h5
  have n9:¬s=_:=h6
  have q1:(s.toList == [66,73,84])=false:=by simpa using strB_ne n1
  have q2:(s.toList == [82,69,83])=false:=by simpa using strB_ne n2
  have q3:(s.toList == [83,69,84])=false:=by simpa using strB_ne n3
  have q4:(s.toList == [73,77])=false:=by simpa using strB_ne n4
  have q5:(s.toList == [82,83,84])=false:=by simpa using strB_ne n5
  have q6:(s.toList == [79,85,84])=false:=by simpa using strB_ne n6
  have q7:(s.toList == [74,80])=false:=by simpa using strB_ne n7
  have q8:(s.toList == [67,65,76,76])=false:=by simpa using strB_ne n8
  have q9:(s.toList == [76,68])=false:=by simpa using strB_ne n9
  clear n1 n2 n3 n4 n5 n6 n7 n8 n9 h6
  go_enter Tryz.func71,Tryz.ntmps71
  go_wp2
  go_ret
  exact ⟨ret_int E.out,B0.out⟩
end Go.Proofs.YtmnleknehjkmgaaGreatDoor
namespace Go.Proofs.YtmnleknehjkmgaaGreatDoor
open Go.RowKit
def Dr (w:World) (b:Nat) (s:ByteArray) (v:Value):Prop:=w.heap[b]?=some (.cells #[.string s,v] 74 (0,0))
theorem Dr.cells {w:World} {b:Nat} {s:ByteArray} {v:Value} (h:Dr w b s v):w.cell? ⟨b,0,none⟩=some (.string s)∧w.cell? ⟨b,1,none⟩=some v∧w.frozen? ⟨b,0,none⟩=false∧w.frozen? ⟨b,1,none⟩=false:=
 ⟨by rw [Lib.cell_of_heap h];rfl,by rw [Lib.cell_of_heap h];rfl,Lib.frozen_of_heap h 0,Lib.frozen_of_heap h 1⟩
theorem Dr.lt {w:World} {b:Nat} {s:ByteArray} {v:Value} (h:Dr w b s v):b<w.heap.size:=(Array.getElem?_eq_some_iff.1 h).1
theorem Dr.below {w w':World} {b:Nat} {s:ByteArray} {v:Value} (h:Dr w b s v) (hb:Below w.heap.size w w'):Dr w' b s v:=(hb.block _ h.lt).trans h
theorem Dr.put {w:World} {b:Nat} {s:ByteArray} {v:Value} (h:Dr w b s v) (u:Value):Dr (w.setCell ⟨b,1,none⟩ u) b s u:=by
 have h1:=heap_setCell_same w b 1 _ _ u h
 exact h1
theorem Dr.other {w:World} {b g:Nat} {s:ByteArray} {v:Value} (h:Dr w b s v) (hg:g≠b) (j:Nat) (u:Value):Dr (w.setCell ⟨g,j,none⟩ u) b s v:=(heap_setCell_other w ⟨g,j,none⟩ b u hg.symm).trans h
def RowS (w:World) (n g off:Nat) (L:List Tr):Prop:=n≤g∧∃ cur,w.heap[g]?=some (.cells cur 50 (0,0))∧∀ j u,(cellsT L)[j]?=some u→cur[off+j]?=some u
def OwnS (w:World) (n:Nat) (v:Value) (L:List Tr):Prop:=
 (v=.slice none 0 0∧L=[])∨∃ g off cap,v=.slice (some ⟨g,off,none⟩) L.length cap∧L.length≤cap∧cap≤maxLen∧RowS w n g off L
theorem RowS.apart {w:World} {n g off b:Nat} {L:List Tr} {s:ByteArray} {v:Value} (h:RowS w n g off L) (hd:Dr w b s v):g≠b:=by
 rintro rfl
 obtain ⟨-,cur,hc,-⟩:=h
 rw [show w.heap[g]?=_ from hd] at hc
 simp at hc
theorem RowS.lt {w:World} {n g off:Nat} {L:List Tr} (h:RowS w n g off L):g<w.heap.size:=by
 obtain ⟨-,cur,hc,-⟩:=h
 exact (Array.getElem?_eq_some_iff.1 hc).1
theorem RowS.below {w w':World} {n g off:Nat} {L:List Tr} (h:RowS w n g off L) (hb:Below w.heap.size w w'):RowS w' n g off L:=by
 have hl:=h.lt
 obtain ⟨h1,cur,hc,h2⟩:=h
 exact ⟨h1,cur,(hb.block _ hl).trans hc,h2⟩
theorem RowS.cellAt {w:World} {n g off:Nat} {L:List Tr} (h:RowS w n g off L) (j:Nat) (u:Value) (e:(cellsT L)[j]?=some u):w.cell? ⟨g,off+j,none⟩=some u:=by
 obtain ⟨-,cur,hc,h2⟩:=h
 rw [Lib.cell_of_heap hc]
 exact h2 j u e
theorem RowS.frozen {w:World} {n g off:Nat} {L:List Tr} (h:RowS w n g off L) (j:Nat):w.frozen? ⟨g,j,none⟩=false:=by
 obtain ⟨-,cur,hc,-⟩:=h
 exact Lib.frozen_of_heap hc j
theorem RowS.at_ {w:World} {n g off:Nat} {L:List Tr} (h:RowS w n g off L) (j:Nat) (hj:j<L.length):w.cell? ⟨g,off+j*3,none⟩=some (.int .i64 L[j].1)∧w.cell? ⟨g,off+j*3+1,none⟩=some (.int .i64 L[j].2.1)∧w.cell? ⟨g,off+j*3+2,none⟩=some (.int .i64 L[j].2.2):=by
 obtain ⟨h1,h2,h3⟩:=cellsT_at L j hj
 exact ⟨h.cellAt _ _ h1,by rw [Nat.add_assoc];exact h.cellAt _ _ h2,by rw [Nat.add_assoc];exact h.cellAt _ _ h3⟩
theorem RowS.put {w:World} {n g off:Nat} {L L':List Tr} (h:RowS w n g off L) (j:Nat) (u:Value) (e:(cellsT L).set j u=cellsT L'):RowS (w.setCell ⟨g,off+j,none⟩ u) n g off L':=by
 obtain ⟨h1,cur,hc,h2⟩:=h
 refine ⟨h1,_,heap_setCell_same w g (off+j) _ _ u hc,fun k x hk=>?_⟩
 rw [← e,List.getElem?_set] at hk
 by_cases hjk:j=k
 ·subst hjk
  rw [if_pos rfl] at hk
  have hlen:off+j<cur.size:=by
   by_cases hj:j<(cellsT L).length
   ·have:=h2 j _ (List.getElem?_eq_getElem hj)
    exact (Array.getElem?_eq_some_iff.1 this).1
   ·rw [if_neg hj] at hk;cases hk
  split at hk
  ·simp only [Option.some.injEq] at hk
   subst hk
   simp [hlen]
  ·cases hk
 ·rw [if_neg hjk] at hk
  rw [Array.getElem?_setIfInBounds,if_neg (by omega)]
  exact h2 k x hk
theorem OwnS.below {w w':World} {n:Nat} {v:Value} {L:List Tr} (h:OwnS w n v L) (hb:Below w.heap.size w w'):OwnS w' n v L:=by
 rcases h with h | ⟨g,off,cap,h1,h2,h3,h4⟩
 ·exact .inl h
 ·exact .inr ⟨g,off,cap,h1,h2,h3,h4.below hb⟩
theorem OwnS.other {w:World} {n b:Nat} {v u:Value} {L:List Tr} {s:ByteArray} {x:Value} (h:OwnS w n v L) (hd:Dr w b s x) (j:Nat):OwnS (w.setCell ⟨b,j,none⟩ u) n v L:=by
 rcases h with h | ⟨g,off,cap,h1,h2,h3,h4⟩
 ·exact .inl h
 ·have hg:=h4.apart hd
  obtain ⟨h5,cur,hc,h6⟩:=h4
  exact .inr ⟨g,off,cap,h1,h2,h3,h5,cur,(heap_setCell_other w ⟨b,j,none⟩ g u hg).trans hc,h6⟩
theorem OwnS.ops {w:World} {n:Nat} {v:Value} {L:List Tr} (h:OwnS w n v L):∃ A cap,v=.slice A L.length cap∧OpsP w A L∧L.length≤cap∧cap≤maxLen:=by
 rcases h with ⟨rfl,rfl⟩ | ⟨g,off,cap,rfl,h2,h3,h4⟩
 ·exact ⟨none,0,rfl,.inl rfl,Nat.le_refl _,by unfold maxLen;omega⟩
 ·exact ⟨_,cap,rfl,.inr ⟨g,off,rfl,fun j hj=>h4.at_ j hj⟩,h2,h3⟩
theorem OwnT.own {w:World} {n:Nat} {v:Value} {L:List Tr} (h:OwnT w n v L):OwnS w n v L:=by
 obtain ⟨hl,h | ⟨g,cap,cur,rfl,h1,h2,h3,h4,h5,h6⟩⟩:=h
 ·exact .inl ⟨h.1,List.eq_nil_of_length_eq_zero h.2⟩
 ·refine .inr ⟨g,0,cap,rfl,h3,h4,h1,cur,h2,fun j u hj=>?_⟩
  rw [← h6,List.getElem?_take] at hj
  split at hj
  ·rw [Nat.zero_add];simpa using hj
  ·cases hj
theorem OwnS.lift {w:World} {n m:Nat} {v:Value} {L:List Tr} (h:OwnS w n v L) (k:m≤n):OwnS w m v L:=by
 rcases h with h | ⟨g,off,cap,h1,h2,h3,h4,h5⟩
 ·exact .inl h
 ·exact .inr ⟨g,off,cap,h1,h2,h3,Nat.le_trans k h4,h5⟩
theorem OwnS.nonnil {w:World} {n:Nat} {v:Value} {L:List Tr} (h:OwnS w n v L) (h0:0<L.length):∃ g off cap,v=.slice (some ⟨g,off,none⟩) L.length cap∧L.length≤cap∧cap≤maxLen∧RowS w n g off L:=by
 rcases h with ⟨-,rfl⟩ | h
 ·simp at h0
 ·exact h
theorem OwnS.alloc {w:World} {n:Nat} {v:Value} {L:List Tr} (h:OwnS w n v L) (o:Obj):OwnS (w.alloc o) n v L:=h.below ((Below.refl _ _).alloc (Nat.le_refl _) _)
theorem Dr.alloc {w:World} {b:Nat} {s:ByteArray} {v:Value} (h:Dr w b s v) (o:Obj):Dr (w.alloc o) b s v:=h.below ((Below.refl _ _).alloc (Nat.le_refl _) _)
end Go.Proofs.YtmnleknehjkmgaaGreatDoor
