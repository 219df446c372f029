/-
  SeRi, SeRf, LpA, CoA.
-/
import Derived.Test.YtmnleknehjkmgaaGreatDoorMSeRe
import Derived.Test.YtmnleknehjkmgaaGreatDoorGAR
import Derived.Test.YtmnleknehjkmgaaGreatDoorGAB
import Derived.Test.YtmnleknehjkmgaaGreatDoorMSeN
import Derived.RangeFuncNested
set_option linter.all false
set_option maxRecDepth 100000
set_option maxHeartbeats 4000000
namespace Go.Proofs.YtmnleknehjkmgaaGreatDoor
open Go.RowKit Go.Shelf
attribute [local go_sem] Oper.semAt_some
end Go.Proofs.YtmnleknehjkmgaaGreatDoor
namespace Go.Proofs.YtmnleknehjkmgaaGreatDoor
open Go.RowKit Go.Shelf
attribute [local go_sem] Oper.semAt_some
end Go.Proofs.YtmnleknehjkmgaaGreatDoor
namespace Go.Stops
open Go Go.RowKit
variable {F:Fence} {n:Nat} {P:Program}
theorem wpIn_tellsH {α:Type} {g:Operand} {ps:Array Tmp} {assign body:Code} {Q:Exit→Act→World→Prop} {a:Act} {w:World} (hro:F.round=none) (h1:1≤n)
  {gf:Nat} {lb:Array Value} (hg:a.eval g=.func (.func gf) #[] lb) (hFg:F.fn gf) (eg:∀ args w,(callFunc gf args).run P w=.ok (.enter gf args) w)
  {encs:α→Array Value} {E:List α→α→Prop} {Bs:Nat} {Kp:World→World→Prop} {S:List α→Prop} (hseq:Tells F (n - 1) P gf lb encs E Bs Kp S w) (hBs:Bs<w.heap.size)
  (hKt:∀ {A B C:World},Kp A B→Kp B C→Kp A C) (hKb:∀ (W:World) (l:Nat) (o o':Obj),w.heap.size≤l→W.heap[l]?=some o→o.isCells=false→Kp W (W.putObj l o')) (hps:∀ x,(encs x).size=ps.size)
  (I Ix:List α→World→Prop) (hI:OwnFrom w.heap.size I) (hIB:Apart Bs I) (hIx:OwnFrom w.heap.size Ix) (h0:I [] w) (Ax:α→Act→World→Prop) (hAx:∀ x,OwnFrom w.heap.size (Ax x))
  (hassign:∀ (l:Nat) (pre:List α) (x:α) (W:World) (K:Act→World→Prop),I pre W→E pre x→(∀ a' W',KeepsFrom w.heap.size W W'→Kp W W'→I pre W'→Ax x a' W'→K a' W')→
   assign.wpIn (F.inRound l) (n - 1 - 1) P (Exit.then K (fun _ _ _=>False)) {tmps:=(ps.zip (encs x)).foldl (fun t (p,v)=>t.setIfInBounds p v) a.tmps,defers:=[]} W)
  (hbody:∀ (l:Nat) (pre:List α) (x:α) (a':Act) (W:World),w.heap.size≤l→(∃ r,W.heap[l]?=some (.loop r))→I pre W→Ax x a' W→E pre x→body.wpIn (F.inRound l) (n - 1 - 1) P (endsSo w.heap.size Kp I Ix (pre++[x]) W) a' W)
  (hdone:∀ (D:Nat) (xs:List α) (W:World),w.heap.size≤D→S xs→I xs W→W.heap[D]?=some (.deferred (some []))→Q .normal {a with defers:={target:=.collected D,args:=#[]} :: a.defers} W)
  (hstop:∀ (D:Nat) (pre:List α) (W:World),w.heap.size≤D→Ix pre W→W.heap[D]?=some (.deferred (some []))→Code.ret.wpIn F n P Q {a with defers:={target:=.collected D,args:=#[]} :: a.defers} W) :
  (Code.rangeFunc g ps assign body).wpIn F n P Q a w:=by
 refine wpIn_rangeFunc fun fn hfn=>?_
 rw [hro]
 let R:LoopState→Option Code→Loop:=fun st j=>{state:=st,pending:=j,fn:=fn,tmps:=a.tmps,params:=ps,assign:=assign,body:=body,defers:=w.heap.size}
 let B:World:=(w.alloc (.deferred (some []))).alloc (.loop (R .ready none))
 have bD:B.heap[w.heap.size]?=some (.deferred (some [])):=(Below.heap_alloc _ _ _ (by simp)).trans (World.alloc_heap_new w _)
 have bL:B.heap[w.heap.size+1]?=some (.loop (R .ready none)):=by
  have h:=World.alloc_heap_new (w.alloc (.deferred (some []))) (.loop (R .ready none))
  rwa [World.size_alloc] at h
 have bI:I [] B:=hI.alloc _ (hI.alloc _ h0)
 have bB:Below w.heap.size w B:=((Below.refl _ w).alloc (Nat.le_refl _) _).alloc (by simp) _
 have bz:B.heap.size=w.heap.size+1+1:=by simp [B]
 -- what a turn of a walk of the iterator's own leaves of the two blocks
 have walk:∀ {X Y:World} {row:Option Nat} {k:Nat} {o:Obj},X.grownBy Y row→(∀ r,row=some r→B.heap.size≤r∧∃ o:Obj,X.heap[r]?=some o∧o.isWalk=true)→X.heap[k]?=some o→k<w.heap.size+2→Y.heap[k]?=some o:=fun hg' hr hk hlt=>
  (hg'.block _ (Array.getElem?_eq_some_iff.1 hk).1 fun e=>by have:=(hr _ e.symm).1;omega).trans hk
 have cells:∀ {X Y:World} {row:Option Nat},(∀ r,row=some r→B.heap.size≤r∧∃ o:Obj,X.heap[r]?=some o∧o.isWalk=true)→(∀ r,row=some r→w.heap.size≤r∧∃ o:Obj,X.heap[r]?=some o∧o.isCells=false):=fun hr r e=>by
  obtain ⟨k1,o,k2,k3⟩:=hr r e
  exact ⟨by omega,o,k2,Obj.not_cells_of_walk k3⟩
 refine ⟨w.heap.size+1,[{target:=.collected w.heap.size,args:=#[]}],B,{target:=.fn (.func gf) lb,args:=#[.func (.yield (w.heap.size+1)) #[] #[]]},B,gf,#[.func (.yield (w.heap.size+1)) #[] #[]]++lb,B,
  run_enterLoop_outer _ _ _ _ _,by simp only [resolve,hg];simp [go_sem],fun f' hf'=>by simp [Target.leads] at hf';subst hf';exact hFg,by simp [invoke,go_sem,eg],fun _=>h1,?_⟩
 refine (hseq (w.heap.size+1) (fun pre W=>I pre W∧W.heap[w.heap.size+1]?=some (.loop (R .ready none))∧W.heap[w.heap.size]?=some (.deferred (some [])))
  (fun pre W=>Ix pre W∧W.heap[w.heap.size+1]?=some (.loop (R .done (some .ret)))∧W.heap[w.heap.size]?=some (.deferred (some []))) B bB ?_ ?_ ?_ ?_ ⟨bI,bL,bD⟩).mono ?_
 ·rintro s X Y row ⟨s1,s2,s3⟩ hg' hr
  exact ⟨hI s X Y row s1 hg' (cells (Y:=Y) hr),walk hg' hr s2 (by omega),walk hg' hr s3 (by omega)⟩
 ·rintro s X Y ⟨s1,s2,s3⟩ hg'
  have q:∀ {k:Nat} {o:Obj},w.heap.size≤k→X.heap[k]?=some o→Y.heap[k]?=some o:=fun hk ho=>(hg'.block _ (Array.getElem?_eq_some_iff.1 ho).1 fun e=>by have:=Option.some.inj e;omega).trans ho
  exact ⟨hIB s X Y s1 hg',q (by omega) s2,q (Nat.le_refl _) s3⟩
 ·rintro pre x W ⟨s1,s2,s3⟩ hx
  refine ⟨fn,_,assign,body,run_yield (P:=P) (args:=encs x) s2 (hps x),roundIn_of_wpIn hfn (hassign _ pre x W _ s1 hx fun a' U u1 uK uI uA=>?_)⟩
  have u2:=u1.same _ _ (by omega) s2 rfl
  have u3:=u1.same _ _ (Nat.le_refl _) s3 rfl
  have hlu:w.heap.size+1<U.heap.size:=(Array.getElem?_eq_some_iff.1 u2).1
  refine ⟨_,run_beginRound u2 rfl,?_⟩
  obtain ⟨V,hV⟩:∃ V,U.putObj (w.heap.size+1) (.loop {R .ready none with state:=.busy})=V:=⟨_,rfl⟩
  have v2:V.heap[w.heap.size+1]?=some (.loop {R .ready none with state:=.busy}):=hV ▸ World.putObj_heap_same hlu
  have v3:V.heap[w.heap.size]?=some (.deferred (some [])):=hV ▸ (World.putObj_heap_other (by omega)).trans u3
  have vI:I pre V:=hV ▸ hI.putObj _ uI (by omega) u2 rfl
  have vE:Ax x a' V:=hV ▸ (hAx x).putObj _ uA (by omega) u2 rfl
  have vK:Kp W V:=hKt uK (hV ▸ hKb _ _ _ _ (by omega) u2 rfl)
  show body.wpIn _ _ _ _ _ (U.putObj (w.heap.size+1) (.loop {R .ready none with state:=.busy}))
  rw [hV]
  refine wpIn_mono (hbody (w.heap.size+1) pre x a' V (Nat.le_succ _) ⟨_,v2⟩ vI vE hx) ?_
  rintro (_ | _ | _ | _ | _ | _) a3 Z hz
  case normal=>
   obtain ⟨z1,z2,z3⟩:=hz
   have l3:=z1.same _ _ (by omega) v2 rfl
   exact ⟨_,_,run_endRound (P:=P) none l3,.inl ⟨rfl,⟨hI.putObj _ z3 (by omega) l3 rfl,World.putObj_heap_same (Array.getElem?_eq_some_iff.1 l3).1,(World.putObj_heap_other (by omega)).trans (z1.same _ _ (Nat.le_refl _) v3 rfl)⟩,hKt (hKt vK z2) (hKb _ _ _ _ (by omega) l3 rfl)⟩⟩
  case ret=>
   obtain ⟨z1,z3⟩:=hz
   have l3:=z1.same _ _ (by omega) v2 rfl
   exact ⟨_,_,run_endRound (P:=P) (some .ret) l3,.inr ⟨rfl,hIx.putObj _ z3 (by omega) l3 rfl,World.putObj_heap_same (Array.getElem?_eq_some_iff.1 l3).1,(World.putObj_heap_other (by omega)).trans (z1.same _ _ (Nat.le_refl _) v3 rfl)⟩⟩
  all_goals exact hz.elim
 ·rintro s X Y row ⟨s1,s2,s3⟩ hg' hr
  exact ⟨hIx s X Y row s1 hg' (cells (Y:=Y) hr),walk hg' hr s2 (by omega),walk hg' hr s3 (by omega)⟩
 ·rintro e Z ⟨⟨v,rfl⟩,(⟨xs,hS,z1,z2,z3⟩ | ⟨pre,z1,z2,z3⟩)⟩
  ·exact ⟨none,_,run_endLoop (P:=P) z2 (by simp [R]),hdone _ xs _ (Nat.le_refl _) hS (hI.putObj _ z1 (by omega) z2 rfl) ((World.putObj_heap_other (by omega)).trans z3)⟩
  ·exact ⟨some .ret,_,run_endLoop (P:=P) z2 (by simp [R]),hstop _ pre _ (Nat.le_refl _) (hIx.putObj _ z1 (by omega) z2 rfl) ((World.putObj_heap_other (by omega)).trans z3)⟩
end Go.Stops
namespace Go.Each
open Go Go.RowKit
variable {F:Fence} {n:Nat} {P:Program}
def GivesB {α:Type} (F:Fence) (n:Nat) (P:Program) (g:Nat) (ba lb:Array Value) (encs:α→Array Value) (E:α→World→Prop) (Kp:World→World→Prop) (S:List α→Prop) (N:Nat) (w:World):Prop:=
 ∀ (l:Nat) (J:List α→World→Prop) (W:World),Below w.heap.size w W→AbidesFrom W.heap.size J→
  (∀ pre x W1,J pre W1→E x W1→pre.length<N→YieldAt F (n - 1) P l (encs x) W1 fun e W'=>e=.returned (.bool true)∧J (pre++[x]) W'∧Kp W1 W')→
  J [] W→CallsIn F n P g (ba++#[.func (.yield l) #[] #[]]++lb) W fun e W'=>(∃ v,e=.returned v)∧∃ xs,S xs∧J xs W'
theorem wpIn_eachN {α:Type} {g:Operand} {ps:Array Tmp} {assign body:Code} {Q:Exit→Act→World→Prop} {a:Act} {w:World} {l₀:Nat} {r₀:Loop} (hro:F.round=some l₀) (hl₀:w.heap[l₀]?=some (.loop r₀)) (h1:1≤n)
  {gf:Nat} {ba lb:Array Value} (hg:a.eval g=.func (.func gf) ba lb) (hFg:F.fn gf) (eg:∀ args w,(callFunc gf args).run P w=.ok (.enter gf args) w)
  {encs:α→Array Value} {E:α→World→Prop} {Kp:World→World→Prop} {S:List α→Prop} {N:Nat} (hseq:GivesB F (n - 1) P gf ba lb encs E Kp S N w)
  (hKt:∀ {A B C:World},Kp A B→Kp B C→Kp A C) (hKb:∀ (W:World) (l:Nat) (o o':Obj),w.heap.size≤l→W.heap[l]?=some o→o.isCells=false→Kp W (W.putObj l o')) (hps:∀ x,(encs x).size=ps.size)
  (I:List α→World→Prop) (hI:OwnFrom w.heap.size I) (h0:I [] w) (Ax:α→Act→World→Prop) (hAx:∀ x,OwnFrom w.heap.size (Ax x))
  (hassign:∀ (l:Nat) (pre:List α) (x:α) (W:World) (K:Act→World→Prop),I pre W→E x W→(∀ a' W',KeepsFrom w.heap.size W W'→Kp W W'→I pre W'→Ax x a' W'→K a' W')→
   assign.wpIn (F.inRound l) (n - 1 - 1) P (Exit.then K (fun _ _ _=>False)) {tmps:=(ps.zip (encs x)).foldl (fun t (p,v)=>t.setIfInBounds p v) a.tmps,defers:=[]} W)
  (hbody:∀ (l:Nat) (pre:List α) (x:α) (a':Act) (W:World),I pre W→Ax x a' W→pre.length<N→body.wpIn (F.inRound l) (n - 1 - 1) P (goesOn fun W'=>KeepsFrom w.heap.size W W'∧Kp W W'∧I (pre++[x]) W') a' W)
  (hdone:∀ (xs:List α) (W:World),S xs→I xs W→Q .normal a W) :
  (Code.rangeFunc g ps assign body).wpIn F n P Q a w:=by
 refine wpIn_rangeFunc fun fn hfn=>?_
 rw [hro]
 let R:LoopState→Loop:=fun st=>{state:=st,pending:=none,fn:=fn,tmps:=a.tmps,params:=ps,assign:=assign,body:=body,defers:=r₀.defers}
 let B:World:=w.alloc (.loop (R .ready))
 have bL:B.heap[w.heap.size]?=some (.loop (R .ready)):=World.alloc_heap_new w _
 have bI:I [] B:=hI.alloc _ h0
 have bB:Below w.heap.size w B:=(Below.refl _ w).alloc (Nat.le_refl _) _
 have bz:B.heap.size=w.heap.size+1:=by simp [B]
 refine ⟨w.heap.size,[],B,{target:=.fn (.func gf) lb,args:=ba++#[.func (.yield w.heap.size) #[] #[]]},B,gf,ba++#[.func (.yield w.heap.size) #[] #[]]++lb,B,
  run_enterLoop_inner hl₀ _ _ _ _ _,by simp only [resolve,hg];simp [go_sem],fun f' hf'=>by simp [Target.leads] at hf';subst hf';exact hFg,by simp [invoke,go_sem,eg],fun _=>h1,?_⟩
 refine (hseq w.heap.size (fun pre W=>I pre W∧W.heap[w.heap.size]?=some (.loop (R .ready))) B bB ?_ ?_ ⟨bI,bL⟩).mono ?_
 ·rintro s X Y row ⟨s1,s2⟩ hg' hr
  have hc:∀ r,row=some r→∃ o:Obj,X.heap[r]?=some o∧o.isWalk=true:=fun r e=>(hr r e).2
  refine ⟨hI s X Y row s1 hg' fun r e=>?_,(grownBy_keeps hg' hc s2 rfl).trans s2⟩
  obtain ⟨k1,o,k2,k3⟩:=hr r e
  exact ⟨by omega,o,k2,Obj.not_cells_of_walk k3⟩
 ·rintro pre x W ⟨s1,s2⟩ hx hlen
  refine ⟨fn,_,assign,body,run_yield (P:=P) (args:=encs x) s2 (hps x),roundIn_of_wpIn hfn (hassign _ pre x W _ s1 hx fun a' U u1 uK uI uA=>?_)⟩
  have u2:=u1.same _ _ (Nat.le_refl _) s2 rfl
  have hlu:w.heap.size<U.heap.size:=(Array.getElem?_eq_some_iff.1 u2).1
  refine ⟨_,run_beginRound u2 rfl,?_⟩
  obtain ⟨V,hV⟩:∃ V,U.putObj w.heap.size (.loop {R .ready with state:=.busy})=V:=⟨_,rfl⟩
  have v2:V.heap[w.heap.size]?=some (.loop {R .ready with state:=.busy}):=hV ▸ World.putObj_heap_same hlu
  have vI:I pre V:=hV ▸ hI.putObj _ uI (Nat.le_refl _) u2 rfl
  have vE:Ax x a' V:=hV ▸ (hAx x).putObj _ uA (Nat.le_refl _) u2 rfl
  have vK:Kp W V:=hKt uK (hV ▸ hKb _ _ _ _ (Nat.le_refl _) u2 rfl)
  show body.wpIn _ _ _ _ _ (U.putObj w.heap.size (.loop {R .ready with state:=.busy}))
  rw [hV]
  refine wpIn_mono (hbody _ pre x a' V vI vE hlen) ?_
  rintro (_ | _ | _ | _ | _ | _) a3 Z hz
  case normal=>
   obtain ⟨z1,z2,z3⟩:=hz
   have l3:=z1.same _ _ (Nat.le_refl _) v2 rfl
   refine ⟨_,_,run_endRound (P:=P) none l3,rfl,⟨hI.putObj _ z3 (Nat.le_refl _) l3 rfl,World.putObj_heap_same (Array.getElem?_eq_some_iff.1 l3).1⟩,hKt (hKt vK z2) (hKb _ _ _ _ (Nat.le_refl _) l3 rfl)⟩
  all_goals exact hz.elim
 ·rintro e Z ⟨⟨v,rfl⟩,xs,hS,z1,z2⟩
  exact ⟨none,_,run_endLoop (P:=P) z2 (by simp [R]),hdone xs _ hS (hI.putObj _ z1 (Nat.le_refl _) z2 rfl)⟩
end Go.Each
namespace Go.Proofs.YtmnleknehjkmgaaGreatDoor
open Go.RowKit Go.Shelf
attribute [local go_sem] Oper.semAt_some
def nxtG (open_ f:Int):Int:=bits .and .u8 (IntKind.u8.wrap (f - open_)) open_
def opsG (ones open_:Int):Nat→Int→List Int
 | 0,_=>[]
 | k+1,f=>bits .or .u8 ones f :: (if f=open_ then [] else opsG ones open_ k (nxtG open_ f))
def okG (ones open_:Int):Nat→Int→Bool
 | 0,_=>false
 | k+1,f=>decide (0≤bits .or .u8 ones f)&&decide (bits .or .u8 ones f≤255)&&(decide (f=open_)||okG ones open_ k (nxtG open_ f))
def opsP (p:Pat):List Int:=opsG (opnF p.1).1 (opnF p.1).2 256 0
def okP (p:Pat):Bool:=okG (opnF p.1).1 (opnF p.1).2 256 0
theorem opsG_fuel (ones open_:Int):∀ (k m:Nat) (v:Int),okG ones open_ k v=true→k≤m→opsG ones open_ m v=opsG ones open_ k v
 | 0,m,v,h,_=>by cases h
 | k+1,0,v,_,hm=>by omega
 | k+1,m+1,v,h,hm=>by
  unfold okG at h
  simp only [Bool.and_eq_true,Bool.or_eq_true,decide_eq_true_eq] at h
  unfold opsG
  by_cases e:v=open_
  ·rw [if_pos e,if_pos e]
  ·rw [if_neg e,if_neg e,opsG_fuel ones open_ k m _ (h.2.resolve_left e) (by omega)]
theorem opsG_less (ones open_:Int) (k:Nat) (v:Int) (h:okG ones open_ (k+1) v=true) (e:v≠open_) (hk:k+1≤256):(opsG ones open_ 256 (nxtG open_ v)).length<(opsG ones open_ 256 v).length:=by
 have h2:=h
 unfold okG at h2
 simp only [Bool.and_eq_true,Bool.or_eq_true,decide_eq_true_eq] at h2
 rw [opsG_fuel ones open_ (k+1) 256 v h hk,opsG_fuel ones open_ k 256 _ (h2.2.resolve_left e) (by omega)]
 show _<(_ :: _).length
 rw [if_neg e]
 exact Nat.lt_succ_self _
theorem opcodes_gives (n:Nat) (p:Pat) (h8:p.1.length=8) (hok:okP p=true) (w:World) :
  Each.GivesB Fence.wide n Tryz.prog 98 #[.agg #[.string (sB p.1),.string (sB p.2)]] #[] (fun x:Int=>#[.int .u8 x]) (fun x _=>0≤x∧x≤255) (fun _ _=>True) (fun xs=>xs=opsP p) 256 w:=fun lp J W hW hJ hY h0=>by
 have hJb:∀ (z:List Int) (X Y:World),J z X→Below X.heap.size X Y→J z Y:=fun z X Y h hb=>hJ z X Y none h ⟨hb.os,hb.tape,hb.output,hb.size,fun i hi _=>hb.block i hi⟩ (fun r e=>by cases e)
 have hm:=fun o=>masks_any p.1 p.2 h8 (W.alloc o)
 obtain ⟨ones,ho⟩:∃ z,(opnF p.1).1=z:=⟨_,rfl⟩
 obtain ⟨op,hop⟩:∃ z,(opnF p.1).2=z:=⟨_,rfl⟩
 have OP:Hid (opsP p=opsG ones op 256 0):=by show opsP p=_;unfold opsP;rw [ho,hop]
 have OK:Hid (okG ones op 256 0=true):=by show _=_;rw [← hok];unfold okP;rw [ho,hop]
 rw [ho,hop] at hm
 have HY:=Lib.hid hY
 have HJb:=Lib.hid hJb
 have J0:Hid (∀ o,J [] (W.alloc o)):=fun o=>hJb _ _ _ h0 ((Below.refl _ _).alloc (Nat.le_refl _) o)
 clear h0 hY hJb hJ hW ho hop hok h8
 refine callsIn_wide.2 ?_
 show Calls Tryz.prog 98 #[.agg #[.string (sB p.1),.string (sB p.2)],.func (.yield lp) #[] #[]] W _
 go_enter Tryz.func98,Tryz.ntmps98
 go_wp2_with fail
 refine (hm _).mono ?_
 rintro e w1 ⟨rfl,hb1⟩
 have J1:=Lib.hid (HJb.out _ _ _ (J0.out _) hb1)
 clear hm hb1 J0
 go_upto_region 2 with fail
 go_wp2
 go_loopw [6] (fun f wr=>∃ (pre:List Int) (k:Nat) (v:Int),f=.int .u8 v∧Hid (okG ones op k v=true)∧Hid (pre++opsG ones op k v=opsP p)∧Hid (pre.length+k=256)∧Hid (J pre wr)) (fun f _=>(opsG ones op 256 (intOf f)).length)
 case atStart=>exact ⟨[],256,0,rfl,OK.out,OP.out.symm,rfl,J1.out⟩
 case round=>
  clear J1 OP OK
  obtain ⟨pre,k,v,rfl,OK,EQ,LEN,JJ⟩:=hrel
  cases k with
  | zero=>exact absurd OK.out (by unfold okG;decide)
  | succ k=>
   have OK2:Hid ((0≤bits .or .u8 ones v∧bits .or .u8 ones v≤255)∧(v=op∨okG ones op k (nxtG op v)=true)):=by
    have h:=OK.out
    unfold okG at h
    simp only [Bool.and_eq_true,Bool.or_eq_true,decide_eq_true_eq] at h
    exact h
   have hyd:=HY.out pre (bits .or .u8 ones v) wr JJ.out OK2.out.1 (by have:=LEN.out;omega)
   obtain ⟨fn,tmps,assign,body,hy,hR⟩:=hyd
   have LS:=Lib.hid (opsG_less ones op k v OK.out)
   have LK:Hid (k+1≤256):=(by have:=LEN.out;omega:k+1≤256)
   have EQ2:Hid (pre++bits .or .u8 ones v :: (if v=op then [] else opsG ones op k (nxtG op v))=opsP p):=EQ.out
   have LEN2:Hid ((pre++[bits .or .u8 ones v]).length+k=256):=by show _=_;rw [List.length_append];have:=LEN.out;simp;omega
   clear EQ OK JJ LEN
   go_upto_region 3 with fail
   refine (wpIn_wide (n:=n)).1 ?_
   gi_wp2
   refine ⟨fun h=>(by cases h),hR.mono ?_⟩
   rintro e3 W3 ⟨rfl,hJ3,-⟩
   have J3:=Lib.hid hJ3
   clear hJ3 hR hy
   by_cases hv:v=op
   ·have EN:Hid (pre++[bits .or .u8 ones v]=opsP p):=by show _=_;rw [← EQ2.out,if_pos hv]
    have hb:(v == op)=true:=by rw [hv];exact beq_self_eq_true _
    clear hv EQ2 LS
    gi_wp2
    go_wp2
    go_end0
    exact ⟨⟨_,rfl⟩,_,EN.out,J3.out⟩
   ·have hb:(v == op)=false:=by simpa using hv
    have OK3:Hid (okG ones op k (nxtG op v)=true):=OK2.out.2.resolve_left hv
    have EN:Hid ((pre++[bits .or .u8 ones v])++opsG ones op k (nxtG op v)=opsP p):=by show _=_;rw [← EQ2.out,if_neg hv,List.append_assoc];rfl
    have LS2:=Lib.hid (LS.out hv LK.out)
    clear hv EQ2 LS OK2
    gi_wp2
    go_wp2
    go_roundw
    case rel=>exact ⟨pre++[bits .or .u8 ones v],k,nxtG op v,rfl,OK3.out,EN.out,LEN2.out,J3.out⟩
    case measure=>exact LS2.out
end Go.Proofs.YtmnleknehjkmgaaGreatDoor
