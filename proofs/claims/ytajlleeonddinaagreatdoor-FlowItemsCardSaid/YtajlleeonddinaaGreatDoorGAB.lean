/-
  Stops, TbC, TbD, TbE, TbF, TbG, MixG, TbH.
-/
import Derived.Test.YtajlleeonddinaaGreatDoorGAA
import Derived.Test.YtajlleeonddinaaGreatDoorCut
import Derived.Shelf.Abstract
import Derived.Shelf.RegionOpen
import Derived.WalkKit
import Derived.TacticsIn
import Derived.TacticsInMore
import Derived.OwnWalkIn
import Derived.Deep.Cut
import Derived.LoopNIn
import Derived.LoopIn
import Derived.KernelRfl
import Derived.Laws.EntriesVeiled
import Derived.StillTailTactics
set_option linter.all false
set_option maxRecDepth 100000
set_option maxHeartbeats 4000000
namespace Go.Stops
open Go Go.RowKit
def Apart {β:Type} (Bs:Nat) (J:β→World→Prop):Prop:=∀ s X Y,J s X→X.grownBy Y (some Bs)→J s Y
def Tells {α:Type} (F:Fence) (n:Nat) (P:Program) (g:Nat) (lb:Array Value) (encs:α→Array Value) (E:List α→α→Prop) (Bs:Nat) (Kp:World→World→Prop) (S:List α→Prop) (w:World):Prop:=
 ∀ (l:Nat) (J Jx:List α→World→Prop) (W:World),Below w.heap.size w W→AbidesFrom W.heap.size J→Apart Bs J→
  (∀ pre x W1,J pre W1→E pre x→YieldAt F (n - 1) P l (encs x) W1 fun e W'=>(e=.returned (.bool true)∧J (pre++[x]) W'∧Kp W1 W')∨(e=.returned (.bool false)∧Jx (pre++[x]) W'))→
  AbidesFrom W.heap.size Jx→J [] W→CallsIn F n P g (#[.func (.yield l) #[] #[]]++lb) W fun e W'=>(∃ v,e=.returned v)∧((∃ xs,S xs∧J xs W')∨∃ pre,Jx pre W')
def endsSo {α:Type} (B:Nat) (Kp:World→World→Prop) (I Ix:List α→World→Prop) (xs:List α) (W:World):Exit→Act→World→Prop
 | .normal,_,W'=>KeepsFrom B W W'∧Kp W W'∧I xs W'
 | .ret,_,W'=>KeepsFrom B W W'∧Ix xs W'
 | .exit _,_,_=>False
 | .goto _,_,_=>False
 | .panic _,_,_=>False
 | .outgrown,_,_=>False
variable {F:Fence} {n:Nat} {P:Program}
theorem wpIn_tellsA {α:Type} {g:Operand} {ps:Array Tmp} {assign body:Code} {Q:Exit→Act→World→Prop} {a:Act} {w:World} (hro:F.round=none) (h1:1≤n)
  {gf:Nat} {lb:Array Value} (hg:a.eval g=.func (.func gf) #[] lb) (hFg:F.fn gf) (eg:∀ args w,(callFunc gf args).run P w=.ok (.enter gf args) w)
  {encs:α→Array Value} {E:List α→α→Prop} {Bs:Nat} {Kp:World→World→Prop} {S:List α→Prop} (hseq:Tells F (n - 1) P gf lb encs E Bs Kp S w) (hBs:Bs<w.heap.size)
  (hKt:∀ {A B C:World},Kp A B→Kp B C→Kp A C) (hKb:∀ (W:World) (l:Nat) (o o':Obj),w.heap.size≤l→W.heap[l]?=some o→o.isCells=false→Kp W (W.putObj l o')) (hps:∀ x,(encs x).size=ps.size)
  (I Ix:List α→World→Prop) (hI:OwnFrom w.heap.size I) (hIB:Apart Bs I) (hIx:OwnFrom w.heap.size Ix) (h0:I [] w) (Ax:α→Act→World→Prop) (hAx:∀ x,OwnFrom w.heap.size (Ax x))
  (hassign:∀ (l:Nat) (pre:List α) (x:α) (W:World) (K:Act→World→Prop),I pre W→E pre x→(∀ a' W',KeepsFrom w.heap.size W W'→Kp W W'→I pre W'→Ax x a' W'→K a' W')→
   assign.wpIn (F.inRound l) (n - 1 - 1) P (Exit.then K (fun _ _ _=>False)) {tmps:=(ps.zip (encs x)).foldl (fun t (p,v)=>t.setIfInBounds p v) a.tmps,defers:=[]} W)
  (hbody:∀ (l:Nat) (pre:List α) (x:α) (a':Act) (W:World),I pre W→Ax x a' W→E pre x→body.wpIn (F.inRound l) (n - 1 - 1) P (endsSo w.heap.size Kp I Ix (pre++[x]) W) a' W)
  (hdone:∀ (D:Nat) (xs:List α) (W:World),w.heap.size≤D→S xs→I xs W→W.heap[D]?=some (.deferred (some []))→Q .normal {a with defers:={target:=.collected D,args:=#[]} :: a.defers} W)
  (hstop:∀ (D:Nat) (pre:List α) (W:World),w.heap.size≤D→Ix pre W→W.heap[D]?=some (.deferred (some []))→Code.ret.wpIn F n P Q {a with defers:={target:=.collected D,args:=#[]} :: a.defers} W) :
  (Code.rangeFunc g ps assign body).wpIn F n P Q a w:=by
 refine wpIn_rangeFunc fun fn hfn=>?_
 rw [hro]
 let R:LoopState→Option Code→Loop:=fun st j=>{state:=st,pending:=j,fn:=fn,tmps:=a.tmps,params:=ps,assign:=assign,body:=body,defers:=w.heap.size}
 let B:World:=(w.alloc (.deferred (some []))).alloc (.loop (R .ready none))
 have bD:B.heap[w.heap.size]?=some (.deferred (some [])):=(Below.heap_alloc _ _ _ (by simp)).trans (World.alloc_heap_new w _)
 have bL:B.heap[w.heap.size+1]?=some (.loop (R .ready none)):=by
  have h:=World.alloc_heap_new (w.alloc (.deferred (some []))) (.loop (R .ready none))
  rwa [World.size_alloc] at h
 have bI:I [] B:=hI.alloc _ (hI.alloc _ h0)
 have bB:Below w.heap.size w B:=((Below.refl _ w).alloc (Nat.le_refl _) _).alloc (by simp) _
 have bz:B.heap.size=w.heap.size+1+1:=by simp [B]
 -- what a turn of a walk of the iterator's own leaves of the two blocks
 have walk:∀ {X Y:World} {row:Option Nat} {k:Nat} {o:Obj},X.grownBy Y row→(∀ r,row=some r→B.heap.size≤r∧∃ o:Obj,X.heap[r]?=some o∧o.isWalk=true)→X.heap[k]?=some o→k<w.heap.size+2→Y.heap[k]?=some o:=fun hg' hr hk hlt=>
  (hg'.block _ (Array.getElem?_eq_some_iff.1 hk).1 fun e=>by have:=(hr _ e.symm).1;omega).trans hk
 have cells:∀ {X Y:World} {row:Option Nat},(∀ r,row=some r→B.heap.size≤r∧∃ o:Obj,X.heap[r]?=some o∧o.isWalk=true)→(∀ r,row=some r→w.heap.size≤r∧∃ o:Obj,X.heap[r]?=some o∧o.isCells=false):=fun hr r e=>by
  obtain ⟨k1,o,k2,k3⟩:=hr r e
  exact ⟨by omega,o,k2,Obj.not_cells_of_walk k3⟩
 refine ⟨w.heap.size+1,[{target:=.collected w.heap.size,args:=#[]}],B,{target:=.fn (.func gf) lb,args:=#[.func (.yield (w.heap.size+1)) #[] #[]]},B,gf,#[.func (.yield (w.heap.size+1)) #[] #[]]++lb,B,
  run_enterLoop_outer _ _ _ _ _,by simp only [resolve,hg];simp [go_sem],fun f' hf'=>by simp [Target.leads] at hf';subst hf';exact hFg,by simp [invoke,go_sem,eg],fun _=>h1,?_⟩
 refine (hseq (w.heap.size+1) (fun pre W=>I pre W∧W.heap[w.heap.size+1]?=some (.loop (R .ready none))∧W.heap[w.heap.size]?=some (.deferred (some [])))
  (fun pre W=>Ix pre W∧W.heap[w.heap.size+1]?=some (.loop (R .done (some .ret)))∧W.heap[w.heap.size]?=some (.deferred (some []))) B bB ?_ ?_ ?_ ?_ ⟨bI,bL,bD⟩).mono ?_
 ·rintro s X Y row ⟨s1,s2,s3⟩ hg' hr
  exact ⟨hI s X Y row s1 hg' (cells (Y:=Y) hr),walk hg' hr s2 (by omega),walk hg' hr s3 (by omega)⟩
 ·rintro s X Y ⟨s1,s2,s3⟩ hg'
  have q:∀ {k:Nat} {o:Obj},w.heap.size≤k→X.heap[k]?=some o→Y.heap[k]?=some o:=fun hk ho=>(hg'.block _ (Array.getElem?_eq_some_iff.1 ho).1 fun e=>by have:=Option.some.inj e;omega).trans ho
  exact ⟨hIB s X Y s1 hg',q (by omega) s2,q (Nat.le_refl _) s3⟩
 ·rintro pre x W ⟨s1,s2,s3⟩ hx
  refine ⟨fn,_,assign,body,run_yield (P:=P) (args:=encs x) s2 (hps x),roundIn_of_wpIn hfn (hassign _ pre x W _ s1 hx fun a' U u1 uK uI uA=>?_)⟩
  have u2:=u1.same _ _ (by omega) s2 rfl
  have u3:=u1.same _ _ (Nat.le_refl _) s3 rfl
  have hlu:w.heap.size+1<U.heap.size:=(Array.getElem?_eq_some_iff.1 u2).1
  refine ⟨_,run_beginRound u2 rfl,?_⟩
  obtain ⟨V,hV⟩:∃ V,U.putObj (w.heap.size+1) (.loop {R .ready none with state:=.busy})=V:=⟨_,rfl⟩
  have v2:V.heap[w.heap.size+1]?=some (.loop {R .ready none with state:=.busy}):=hV ▸ World.putObj_heap_same hlu
  have v3:V.heap[w.heap.size]?=some (.deferred (some [])):=hV ▸ (World.putObj_heap_other (by omega)).trans u3
  have vI:I pre V:=hV ▸ hI.putObj _ uI (by omega) u2 rfl
  have vE:Ax x a' V:=hV ▸ (hAx x).putObj _ uA (by omega) u2 rfl
  have vK:Kp W V:=hKt uK (hV ▸ hKb _ _ _ _ (by omega) u2 rfl)
  show body.wpIn _ _ _ _ _ (U.putObj (w.heap.size+1) (.loop {R .ready none with state:=.busy}))
  rw [hV]
  refine wpIn_mono (hbody _ pre x a' V vI vE hx) ?_
  rintro (_ | _ | _ | _ | _ | _) a3 Z hz
  case normal=>
   obtain ⟨z1,z2,z3⟩:=hz
   have l3:=z1.same _ _ (by omega) v2 rfl
   exact ⟨_,_,run_endRound (P:=P) none l3,.inl ⟨rfl,⟨hI.putObj _ z3 (by omega) l3 rfl,World.putObj_heap_same (Array.getElem?_eq_some_iff.1 l3).1,(World.putObj_heap_other (by omega)).trans (z1.same _ _ (Nat.le_refl _) v3 rfl)⟩,hKt (hKt vK z2) (hKb _ _ _ _ (by omega) l3 rfl)⟩⟩
  case ret=>
   obtain ⟨z1,z3⟩:=hz
   have l3:=z1.same _ _ (by omega) v2 rfl
   exact ⟨_,_,run_endRound (P:=P) (some .ret) l3,.inr ⟨rfl,hIx.putObj _ z3 (by omega) l3 rfl,World.putObj_heap_same (Array.getElem?_eq_some_iff.1 l3).1,(World.putObj_heap_other (by omega)).trans (z1.same _ _ (Nat.le_refl _) v3 rfl)⟩⟩
  all_goals exact hz.elim
 ·rintro s X Y row ⟨s1,s2,s3⟩ hg' hr
  exact ⟨hIx s X Y row s1 hg' (cells (Y:=Y) hr),walk hg' hr s2 (by omega),walk hg' hr s3 (by omega)⟩
 ·rintro e Z ⟨⟨v,rfl⟩,(⟨xs,hS,z1,z2,z3⟩ | ⟨pre,z1,z2,z3⟩)⟩
  ·exact ⟨none,_,run_endLoop (P:=P) z2 (by simp [R]),hdone _ xs _ (Nat.le_refl _) hS (hI.putObj _ z1 (by omega) z2 rfl) ((World.putObj_heap_other (by omega)).trans z3)⟩
  ·exact ⟨some .ret,_,run_endLoop (P:=P) z2 (by simp [R]),hstop _ pre _ (Nat.le_refl _) (hIx.putObj _ z1 (by omega) z2 rfl) ((World.putObj_heap_other (by omega)).trans z3)⟩
end Go.Stops
namespace Go.Proofs.YtajlleeonddinaaGreatDoor
open Go.RowKit Go.Shelf
attribute [local go_sem] Oper.semAt_some
def MaxAt (w:World):Prop:=∃ m,w.cell? ⟨0,0,none⟩=some (.int .i64 m)
theorem MaxAt.lt {w:World} (h:MaxAt w):0 < w.heap.size:=by
 obtain ⟨m,h⟩:=h
 exact World.block_lt_of_cell? w _ h
theorem MaxAt.below {w w':World} (h:MaxAt w) (hb:Below w.heap.size w w'):MaxAt w':=by
 have hl:=h.lt
 obtain ⟨m,h⟩:=h
 exact ⟨m,(hb.cell hl).trans h⟩
theorem MaxAt.belowN {w w':World} {n:Nat} (h:MaxAt w) (hb:Below n w w') (hn:0 < n):MaxAt w':=by
 obtain ⟨m,h⟩:=h
 exact ⟨m,(hb.cell hn).trans h⟩
theorem cut_any (l sep:Str) (hl:l.length≤100000) (w:World) (hM:MaxAt w) :
  Calls Tryz.prog 227 #[.string (sB l),.string (sB sep)] w fun e w'=>e=.returned (.tuple #[.string (sB (cutL sep l).1),.string (sB (cutL sep l).2.1),.bool (cutL sep l).2.2])∧∃ n,w'=w.drewN n:=by
 obtain ⟨m,hm⟩:=hM
 have h:=Tryz.strings_Cut (sB l) (sB sep) m w (by rw [sB_size];omega) hm
 rw [cut_cutL] at h
 exact h
theorem sB_nil (l:Str):((sB l).toList == ([]:List UInt8))=l.isEmpty:=by
 rw [ByteArray.toList_eq]
 cases l <;> rfl
def patsOf (l:Str):List Pat:=patsF l.length l
theorem patsF_nil (n:Nat):patsF n []=[]:=by cases n <;> rfl
theorem patterns_any (l:Str) (w:World) :
  Calls Tryz.prog 200 #[.string (sB l)] w fun e w'=>e=.returned (.func (.func 226) #[] #[.pointer (some ⟨w.heap.size,0,none⟩)])∧w.alloc (.cells #[.string (sB l)] 9)=w':=by
 go_enter Tryz.func200,Tryz.ntmps200
 go_wp2
 go_ret
 exact ⟨rfl,rfl⟩
def strSz:Value→Nat
 | .string s=>s.size
 | _=>0
def KeepM (W W':World):Prop:=W'.cell? ⟨0,0,none⟩=W.cell? ⟨0,0,none⟩
theorem KeepM.trans {A B C:World} (h:KeepM A B) (k:KeepM B C):KeepM A C:=Eq.trans k h
theorem KeepM.max {A B:World} (h:KeepM A B) (k:MaxAt A):MaxAt B:=by
 obtain ⟨m,k⟩:=k
 exact ⟨m,Eq.trans h k⟩
theorem patterns1_tells (n:Nat) (Bs:Nat) (l:Str) (hl:l.length≤100000) (w:World) (hs:Boxed w Bs 9 (.string (sB l))) (hM:MaxAt w) :
  Stops.Tells Fence.wide n Tryz.prog 226 #[.pointer (some ⟨Bs,0,none⟩)] (fun x:Pat=>#[.agg #[.string (sB x.1),.string (sB x.2)]]) (fun pre x=>pre++[x] <+: patsOf l) Bs KeepM (fun ys=>ys=patsOf l) w:=fun lp J Jx W hW hJ hJB hY hJx h0=>by
 have hJd:∀ (m:Nat) (z:List Pat) (X:World),J z X→J z (X.drewN m):=fun m z X h=>hJ z X _ none h ⟨rfl,rfl,rfl,Nat.le_refl _,fun _ _ _=>rfl⟩ (fun r e=>by cases e)
 have kb:Boxed W Bs 9 (.string (sB l)):=(hW.block Bs hs.lt).trans hs
 have hc:=kb.cell
 have M0:Hid (MaxAt W):=hM.below hW
 have J0:=Lib.hid h0
 have HY:=Lib.hid hY
 have HJd:=Lib.hid hJd
 have HL:=Lib.hid hl
 clear hl h0 hY hJB hJd hJ hJx hW hs hM kb
 refine callsIn_wide.2 ?_
 show Calls Tryz.prog 226 #[.func (.yield lp) #[] #[],.pointer (some ⟨Bs,0,none⟩)] W _
 go_enter Tryz.func226,Tryz.ntmps226
 go_wp2
 go_loopw [3] (fun r wr=>∃ (pre:List Pat) (l':Str) (k:Nat),r=.string (sB l')∧l'.length≤k∧l'.length≤l.length∧Hid (pre++patsF k l'=patsOf l)∧Hid (MaxAt wr)∧Hid (J pre wr)) (fun r _=>strSz r)
 case atStart=>exact ⟨[],l,l.length,rfl,Nat.le_refl _,Nat.le_refl _,rfl,M0.out,J0.out⟩
 case round=>
  clear M0 J0 hc
  obtain ⟨pre,l',k,rfl,hk,hle,EQ,MA,JJ⟩:=hrel
  by_cases hemp:l'=[]
  ·subst hemp
   have hn:=sB_nil []
   have P:Hid (pre=patsOf l):=by
    have h:=EQ.out
    rw [patsF_nil,List.append_nil] at h
    exact h
   go_wp2
   go_end0
   have h:=JJ.out
   exact ⟨⟨_,rfl⟩,.inl ⟨_,P.out,h⟩⟩
  ·have hn:=sB_nil l'
   rw [List.isEmpty_eq_false_iff.2 hemp] at hn
   have hl':l'.length≤100000:=by have:=HL.out;omega
   have h0':0<l'.length:=List.length_pos_iff.2 hemp
   obtain ⟨k,rfl⟩:∃ j,k=j+1:=⟨k - 1,by omega⟩
   have c1:=cutL_lt [59,32] l' (by decide) h0'
   have hcut:=cut_any l' [59,32] hl' wr MA.out
   have hcut2:=cut_any (cutL [59,32] l').1 [32] (by omega)
   obtain ⟨row,hrow⟩:∃ r,(cutL [59,32] l').1=r:=⟨_,rfl⟩
   obtain ⟨rest,hrest⟩:∃ r,(cutL [59,32] l').2.1=r:=⟨_,rfl⟩
   have EQ2:Hid ((pre++[rowP row])++patsF k rest=patsOf l):=by
    have h:=EQ.out
    rw [patsF,if_neg (by simpa using hemp),hrow,hrest] at h
    rw [List.append_assoc]
    exact h
   have LT:Hid (rest.length<l'.length):=by rw [← hrest];exact c1.1
   have S0:Hid (strSz (.string (sB l'))=l'.length):=sB_size l'
   have S1:Hid (strSz (.string (sB rest))=rest.length):=sB_size rest
   rw [hrow,hrest] at hcut
   rw [hrow] at hcut2
   have PF:pre++[rowP row] <+: patsOf l:=by rw [← EQ2.out];exact List.prefix_append _ _
   have PF:=Lib.hid PF
   clear EQ c1 hrow hrest hemp
   go_wp2_with fail
   refine hcut.mono ?_
   rintro e w' ⟨rfl,q,rfl⟩
   have M1:Hid (MaxAt (wr.drewN q)):=MA.out.below (below_drewN _ _ _)
   have J1:=Lib.hid (HJd.out q _ _ JJ.out)
   have hcut2:=hcut2 _ M1.out
   clear hcut
   go_wp2_with fail
   refine hcut2.mono ?_
   rintro e w' ⟨rfl,q2,rfl⟩
   have M2:Hid (MaxAt ((wr.drewN q).drewN q2)):=M1.out.below (below_drewN _ _ _)
   have J2:=Lib.hid (HJd.out q2 _ _ J1.out)
   clear hcut2 M1 J1 JJ MA
   obtain ⟨w2,hw2⟩:∃ w2,(wr.drewN q).drewN q2=w2:=⟨_,rfl⟩
   rw [hw2] at M2 J2 ⊢
   clear hw2
   have hyd:=HY.out pre (rowP row) w2 J2.out PF.out
   obtain ⟨fn,tmps,assign,body,hy,hR⟩:=hyd
   simp only [rowP] at hy
   go_upto_region 5 with fail
   refine (wpIn_wide (n:=n)).1 ?_
   gi_wp2
   refine ⟨fun h=>(by cases h),hR.mono ?_⟩
   rintro e3 W3 (⟨rfl,hJ3,hk3⟩ | ⟨rfl,hJx3⟩)
   ·have M3:Hid (MaxAt W3):=hk3.max M2.out
    have J3:=Lib.hid hJ3
    clear hJ3 hk3 hR hy
    gi_wp2
    go_wp2
    go_roundw
    case rel=>exact ⟨pre++[rowP row],rest,k,rfl,by have:=LT.out;omega,by have:=LT.out;omega,EQ2.out,M3.out,J3.out⟩
    case measure=>rw [S0.out,S1.out];exact LT.out
   ·clear hR hy
    gi_wp2
    go_wp2
    refine bodyPost_ret (results_none rfl _ _ _) rfl ?_
    exact ⟨⟨_,rfl⟩,.inr ⟨_,hJx3⟩⟩
end Go.Proofs.YtajlleeonddinaaGreatDoor
namespace Go.Proofs.YtajlleeonddinaaGreatDoor
open Go.RowKit Go.Shelf
attribute [local go_sem] Oper.semAt_some
def codeV (p:Pat) (op:Int):Value:=.agg #[.string (sB p.1),.string (sB p.2),.int .u8 op]
def findP (l:Str) (op:Int):Option Pat:=(patsOf l).find? fun p=>fitsP p.1 op
def RetFind (w:World) (o:Option Pat) (op:Int) (e:Ending) (w':World):Prop:=
 e=.returned (.tuple #[match o with | some p=>codeV p op | none=>.agg #[.string ⟨#[]⟩,.string ⟨#[]⟩,.int .u8 0],.bool o.isSome])∧Below w.heap.size w w'
theorem find_none {l:Str} {op:Int} {ys:List Pat} (h:ys=patsOf l) (k:∀ y∈ys,fitsP y.1 op=false):findP l op=none:=by
 unfold findP
 rw [← h,List.find?_eq_none]
 intro x hx
 rw [k x hx]
 decide
theorem find_some {l:Str} {op:Int} {pre:List Pat} {x:Pat} (h:pre++[x] <+: patsOf l) (k:∀ y∈pre,fitsP y.1 op=false) (hx:fitsP x.1 op=true):findP l op=some x:=by
 unfold findP
 obtain ⟨t,ht⟩:=h
 rw [← ht,List.find?_append,List.find?_append]
 have h1:pre.find? (fun p=>fitsP p.1 op)=none:=by
  rw [List.find?_eq_none]
  intro y hy
  rw [k y hy]
  decide
 rw [h1]
 simp [hx]
theorem mem_of_pre {l:Str} {pre:List Pat} {x:Pat} (h:pre++[x] <+: patsOf l):x∈patsOf l:=h.subset (by simp)
theorem keepM_put {W0:World} (h:MaxAt W0) (W:World) (l:Nat) (o':Obj) (hl:W0.heap.size≤l):KeepM W (W.putObj l o'):=by
 have hlt:=h.lt
 exact World.cell?_of_block (World.putObj_heap_other (by show 0≠l;omega))
theorem set3 {w:World} {b:Nat} {T:TypeId} {a0 a1 a2:Value} (h:w.heap[b]?=some (.cells #[a0,a1,a2] T (0,0))) (v0 v1 v2:Value):(((w.setCell ⟨b,0,none⟩ v0).setCell ⟨b,1,none⟩ v1).setCell ⟨b,2,none⟩ v2).heap[b]?=some (.cells #[v0,v1,v2] T (0,0)):=by
 have h1:=heap_setCell_same w b 0 _ _ v0 h
 have h2:=heap_setCell_same (w.setCell ⟨b,0,none⟩ v0) b 1 _ _ v1 h1
 have h3:=heap_setCell_same ((w.setCell ⟨b,0,none⟩ v0).setCell ⟨b,1,none⟩ v1) b 2 _ _ v2 h2
 exact h3
theorem set31 {w:World} {b:Nat} {T U:TypeId} {a0 a1 a2 u:Value} (h:w.heap[b]?=some (.cells #[a0,a1,a2] T (0,0))) (k:Boxed w (b+1) U u) (v0 v1 v2 v:Value) :
  ∃ w',(((w.setCell ⟨b,0,none⟩ v0).setCell ⟨b,1,none⟩ v1).setCell ⟨b,2,none⟩ v2).setCell ⟨b+1,0,none⟩ v=w'∧w'.heap[b]?=some (.cells #[v0,v1,v2] T (0,0))∧Boxed w' (b+1) U v∧KeepsOthers w w'∧Below b w w'∧w'.heap.size=w.heap.size:=by
 refine ⟨_,rfl,(heap_setCell_other _ ⟨b+1,0,none⟩ b v (by simp)).trans (set3 h v0 v1 v2),?_,?_,?_,by simp⟩
 ·refine Boxed.set (v:=u) v ?_
  exact (heap_setCell_other _ ⟨b,2,none⟩ (b+1) v2 (by simp)).trans ((heap_setCell_other _ ⟨b,1,none⟩ (b+1) v1 (by simp)).trans ((heap_setCell_other _ ⟨b,0,none⟩ (b+1) v0 (by simp)).trans k))
 ·exact (((KeepsOthers.setCell _ _ _).trans (KeepsOthers.setCell _ _ _)).trans (KeepsOthers.setCell _ _ _)).trans (KeepsOthers.setCell _ _ _)
 ·exact ((((Below.refl b w).setCell (p:=⟨b,0,none⟩) (Nat.le_refl _) _).setCell (p:=⟨b,1,none⟩) (Nat.le_refl _) _).setCell (p:=⟨b,2,none⟩) (Nat.le_refl _) _).setCell (p:=⟨b+1,0,none⟩) (by simp) _
theorem keepM_below {B:Nat} {W W':World} (h:Below B W W') (hB:0 < B):KeepM W W':=h.cell hB
theorem keepsFrom_below {W W':World} (h:Below W.heap.size W W') (B:Nat):KeepsFrom B W W':=⟨h.size,fun k o _ hk _=>(h.block k (Array.getElem?_eq_some_iff.1 hk).1).trans hk⟩
theorem tfind_any (l:Str) (hl:l.length≤100000) (h8:∀ p∈patsOf l,p.1.length=8) (op:Int) (w:World) (hM:MaxAt w) :
  Calls Tryz.prog 179 #[.string (sB l),.int .u8 op] w (RetFind w (findP l op) op):=by
 obtain ⟨w0,hw0⟩:∃ w0,((w.alloc (.cells #[.int .u8 op] 5)).alloc (.cells #[.string ⟨#[]⟩,.string ⟨#[]⟩,.int .u8 0] 242)).alloc (.cells #[.bool false] 4)=w0:=⟨_,rfl⟩
 obtain ⟨n,hn⟩:∃ n,w.heap.size=n:=⟨_,rfl⟩
 have z0:w0.heap.size=n+1+1+1:=by rw [← hw0,← hn];simp
 have b0:Below n w w0:=by rw [← hw0,← hn];exact (((Below.refl _ w).alloc (Nat.le_refl _) _).alloc (by simp) _).alloc (by simp;omega) _
 have c0:Boxed w0 n 5 (.int .u8 op):=by rw [← hw0,← hn];exact ((Boxed.new w 5 (.int .u8 op)).alloc _).alloc _
 have c1:w0.heap[n+1]?=some (.cells #[.string ⟨#[]⟩,.string ⟨#[]⟩,.int .u8 0] 242 (0,0)):=by
  rw [← hw0,← hn]
  refine (Below.heap_alloc _ _ _ (by simp)).trans ?_
  have h:=World.alloc_heap_new (w.alloc (.cells #[.int .u8 op] 5)) (.cells #[.string ⟨#[]⟩,.string ⟨#[]⟩,.int .u8 0] 242)
  rwa [World.size_alloc] at h
 have c2:Boxed w0 (n+1+1) 4 (.bool false):=by
  rw [← hw0,← hn]
  have h:=Boxed.new ((w.alloc (.cells #[.int .u8 op] 5)).alloc (.cells #[.string ⟨#[]⟩,.string ⟨#[]⟩,.int .u8 0] 242)) 4 (.bool false)
  rwa [World.size_alloc,World.size_alloc] at h
 have hM0:MaxAt w0:=hM.below (by rw [hn];exact b0)
 have hgn:0 < n:=by rw [← hn];exact hM.lt
 have hpt:=patterns_any l w0
 rw [z0] at hpt
 refine callsIn_wide.1 (callsIn_of_wp_marks (n:=3) Tryz.func179 rfl trivial ?_ rfl)
 simp only [Tryz.ntmps179,List.size_toArray,List.length_cons,List.length_nil,Nat.reduceAdd,Nat.reduceSub,Array.replicate_succ,Array.replicate_zero,List.push_toArray,List.append_toArray,List.nil_append,List.cons_append]
 refine wpIn_wide.2 ?_
 go_wp2_with fail
 refine hpt.mono ?_
 rintro e W0 ⟨rfl,hW0⟩
 have hs:Boxed W0 (n+1+1+1) 9 (.string (sB l)):=by
  have h:=Boxed.new w0 9 (.string (sB l))
  rw [hW0,z0] at h
  exact h
 have zW:W0.heap.size=n+1+1+1+1:=by rw [← hW0];simp;omega
 have bW:Below w0.heap.size w0 W0:=by rw [← hW0];exact (Below.refl _ _).alloc (Nat.le_refl _) _
 have d0:Boxed W0 n 5 (.int .u8 op):=(bW.block _ c0.lt).trans c0
 have d1:=(bW.block (n+1) (by omega)).trans c1
 have d2:Boxed W0 (n+1+1) 4 (.bool false):=(bW.block _ c2.lt).trans c2
 have bN:Below n w W0:=b0.trans (bW.mono (by omega))
 have hMW:MaxAt W0:=hM0.below bW
 have hseq:=patterns1_tells 2 (n+1+1+1) l hl W0 hs hMW
 have H8:=Lib.hid h8
 have hn0:=hn
 have HM0:=Lib.hid hMW
 clear hM hM0 hpt hs bW b0 c0 c1 c2 hW0 hw0 hn z0 hl h8 w0 hMW
 go_wp2_with fail
 refine wpIn_wide.1 (Stops.wpIn_tellsA (F:=Fence.wide) (n:=3) rfl (by omega) (gf:=226) (lb:=#[.pointer (some ⟨n+1+1+1,0,none⟩)]) rfl trivial (enters_of Tryz.func226 (by kernel_rfl) rfl)
  hseq (by omega) (fun h k=>h.trans k) (fun W l o o' hl _ _=>keepM_put HM0.out W l o' (by omega)) (fun _=>rfl)
  (fun pre W=>(∀ y∈pre,fitsP y.1 op=false)∧Below (n+1+1+1) W0 W)
  (fun pre W=>∃ p x,pre=p++[x]∧(∀ y∈p,fitsP y.1 op=false)∧fitsP x.1 op=true∧p++[x] <+: patsOf l∧W.heap[n+1]?=some (.cells #[.string (sB x.1),.string (sB x.2),.int .u8 op] 242 (0,0))∧Boxed W (n+1+1) 4 (.bool true)∧Below n w W)
  (fun s X Y row h hg hr=>⟨h.1,h.2.grown hg (by have:=h.2.size;omega) fun r e=>by have:=(hr r e).1;omega⟩)
  (fun s X Y h hg=>⟨h.1,h.2.grown hg (by have:=h.2.size;omega) fun r e=>by cases e;omega⟩)
  (fun s X Y row h hg hr=>by
   obtain ⟨p,x,h1,h2,h3,h4,h5,h6,h7⟩:=h
   have hne:∀ k,k<n+1+1+1+1→some k≠row:=fun k hk e=>by have:=(hr k e.symm).1;omega
   exact ⟨p,x,h1,h2,h3,h4,(hg.block _ (Array.getElem?_eq_some_iff.1 h5).1 (hne _ (by omega))).trans h5,h6.kept hg (hne _ (by omega)),h7.grown hg (by have:=(Array.getElem?_eq_some_iff.1 h5).1;omega) fun r e=>by have:=(hr r e).1;omega⟩)
  ⟨fun y hy=>(by cases hy),Below.refl _ _⟩
  (fun x a' W=>∃ b,n+4≤b∧W.heap[b]?=some (.cells #[.string (sB x.1),.string (sB x.2)] 240 (0,0))∧a'={tmps:=#[.string (sB l),.int .u8 op,undef,.pointer (some ⟨n,0,none⟩),.pointer (some ⟨n+1,0,none⟩),.pointer (some ⟨n+1+1,0,none⟩),.pointer (some ⟨b,0,none⟩),.string (sB l),.func (.func 226) #[] #[.pointer (some ⟨n+1+1+1,0,none⟩)],.agg #[.string (sB x.1),.string (sB x.2)],undef,undef,undef,undef,undef,undef,undef],defers:=[]})
  (fun x s X Y row h hg hr=>by
   obtain ⟨b,h1,h2,h3⟩:=h
   exact ⟨b,h1,(grownBy_keeps_cells hg (fun r e=>(hr r e).2) h2 rfl).trans h2,h3⟩)
  ?assign ?body ?done ?stop)
 case assign=>
  rintro lp pre x W K hI hE hK
  gi_wp2
  refine hK _ _ ((KeepsOthers.alloc _ _).from _) (keepM_below ((Below.refl n W).alloc (by have:=hI.2.size;omega) _) hgn) ⟨hI.1,hI.2.alloc (by have:=hI.2.size;omega) _⟩ ⟨W.heap.size,by have:=hI.2.size;omega,World.alloc_heap_new W _,rfl⟩
 case body=>
  rintro lp pre x a' W ⟨g1,g2⟩ ⟨b,hb,hc,rfl⟩ hpre
  have hmem:=mem_of_pre hpre
  have e0:Boxed W n 5 (.int .u8 op):=(g2.block n (by omega)).trans d0
  have p1:=e0.cell
  have q0:=Lib.cell_of_heap hc 0
  have q1:=Lib.cell_of_heap hc 1
  have hf:=tfits_any x.1 x.2 (H8.out x hmem) op W
  have G:=Lib.hid (And.intro g1 (And.intro g2 (And.intro hb hpre)))
  clear hmem g1 g2 hb hpre
  have E0:=Lib.hid e0
  have hWb:Hid (W.heap.size≥n+4):=by have:=G.out.2.1.size;show _≥_;omega
  have q2:=Lib.frozen_of_heap hc
  cases hfit:fitsP x.1 op
  ·have FT:=Lib.hid hfit
   rw [hfit] at hf
   clear e0 hfit hc
   gi_wp2_with fail
   refine ⟨trivial,CallsIn.inRound lp (callsIn_wide.2 hf) |>.mono ?_⟩
   rintro e w' ⟨rfl,hb⟩
   have P:Hid (KeepsFrom W0.heap.size W w'∧KeepM W w'∧(∀ y∈pre++[x],fitsP y.1 op=false)∧Below (n+1+1+1) W0 w'):=by
    refine ⟨keepsFrom_below hb _,keepM_below hb (by have:=hWb.out;omega),fun y hy=>?_,G.out.2.1.trans (hb.mono (by have:=hWb.out;omega))⟩
    rcases List.mem_append.1 hy with h | h
    ·exact G.out.1 y h
    ·rw [List.mem_singleton.1 h];exact FT.out
   clear hf hb
   gi_wp2
   exact P.out
  ·have FT:=Lib.hid hfit
   have b1:W.heap[n+1]?=_:=(G.out.2.1.block (n+1) (by omega)).trans d1
   have b2:Boxed W (n+1+1) 4 (.bool false):=(G.out.2.1.block (n+1+1) (by omega)).trans d2
   rw [hfit] at hf
   clear hfit hc
   gi_wp2_with fail
   refine ⟨trivial,CallsIn.inRound lp (callsIn_wide.2 hf) |>.mono ?_⟩
   rintro e w' ⟨rfl,hb⟩
   have x0:Boxed w' n 5 (.int .u8 op):=(hb.block n e0.lt).trans e0
   have x1:=(hb.block (n+1) (Array.getElem?_eq_some_iff.1 b1).1).trans b1
   have x2:Boxed w' (n+1+1) 4 (.bool false):=(hb.block (n+1+1) b2.lt).trans b2
   have x3:=(hb.cell (World.block_lt_of_cell? W _ q0)).trans q0
   have x4:=(hb.cell (World.block_lt_of_cell? W _ q1)).trans q1
   have y0:=x0.cell
   have y1:=Lib.cell_of_heap x1 0
   have y2:=Lib.cell_of_heap x1 1
   have y3:=Lib.cell_of_heap x1 2
   have y4:=Lib.frozen_of_heap x1
   have y5:=x2.cell
   have y6:=x2.frozen
   have X1:=Lib.hid x1
   have X2:=Lib.hid x2
   have BW:Hid (Below n w w'):=(bN.trans ((G.out.2.1.mono (by omega)))).trans (hb.mono (by have:=hWb.out;omega))
   have BK:Hid (Below W.heap.size W w'):=hb
   clear hf hb b1 b2 x0 x1 x2 p1 q0 q1 q2 e0
   gi_wp2
   obtain ⟨w2,hw2,z1,z2,z3,z4,z5⟩:=set31 X1.out X2.out (.string (sB x.1)) (.string (sB x.2)) (.int .u8 op) (.bool true)
   rw [hw2]
   refine ⟨((keepsFrom_below BK.out _).trans (z3.from _)),pre,x,rfl,G.out.1,FT.out,G.out.2.2.2,z1,z2,BW.out.trans (z4.mono (by omega))⟩
 case done=>
  rintro D ys W hD rfl ⟨g1,g2⟩ hK
  have b1:W.heap[n+1]?=_:=(g2.block (n+1) (by omega)).trans d1
  have b2:Boxed W (n+1+1) 4 (.bool false):=(g2.block (n+1+1) (by omega)).trans d2
  have y1:=Lib.cell_of_heap b1 0
  have y2:=Lib.cell_of_heap b1 1
  have y3:=Lib.cell_of_heap b1 2
  have y4:=Lib.frozen_of_heap b1
  have y5:=b2.cell
  have y6:=b2.frozen
  have X1:=Lib.hid b1
  have X2:=Lib.hid b2
  have HK:=Lib.hid hK
  have FN:Hid (findP l op=none):=find_none rfl g1
  have BW:Hid (Below n w W):=bN.trans (g2.mono (by omega))
  have HD:=Lib.hid hD
  clear g1 g2 hK b1 b2 hD hseq d0 d1 d2 bN
  go_wp2
  obtain ⟨w2,hw2,z1,z2,z3,z4,z5⟩:=set31 X1.out X2.out (.string ⟨#[]⟩) (.string ⟨#[]⟩) (.int .u8 0) (.bool false)
  rw [hw2]
  have hK2:w2.heap[D]?=some (.deferred (some [])):=z3.same D _ HK.out rfl
  have hg:=grownBy_putObj' w2 D (.deferred none)
  have hDn:=HD.out
  have q1:=(hg.block (n+1) (Array.getElem?_eq_some_iff.1 z1).1 (by simp;omega)).trans z1
  have q2:=(z2.kept hg (by simp;omega)).cell
  have q3:=Lib.cell_of_heap q1 0
  have q4:=Lib.cell_of_heap q1 1
  have q5:=Lib.cell_of_heap q1 2
  refine ⟨by simp,.inl ⟨_,_,rfl,run_takeDeferred hK2,?_⟩⟩
  refine ⟨.tuple #[.agg #[.string ⟨#[]⟩,.string ⟨#[]⟩,.int .u8 0],.bool false],?_,?_⟩
  ·simp [results,Tryz.results179,go_sem,q2,q3,q4,q5]
  ·rw [FN.out]
   exact ⟨rfl,by rw [hn0];exact (BW.out.trans (z4.mono (by omega))).trans (belowK_b (w:=w) (by omega) w2 D _ _ (by omega) hK2 rfl rfl)⟩
 case stop=>
  rintro D pre W hD ⟨p,x,rfl,h2,h3,h4,h5,h6,h7⟩ hK
  have hg:=grownBy_putObj' W D (.deferred none)
  have q1:=(hg.block (n+1) (Array.getElem?_eq_some_iff.1 h5).1 (by simp;omega)).trans h5
  have q2:=(h6.kept hg (by simp;omega)).cell
  have q3:=Lib.cell_of_heap q1 0
  have q4:=Lib.cell_of_heap q1 1
  have q5:=Lib.cell_of_heap q1 2
  have F:Hid (RetFind w (findP l op) op (.returned (.tuple #[codeV x op,.bool true])) (W.putObj D (.deferred none))):=by
   show RetFind _ _ _ _ _
   rw [find_some h4 h2 h3]
   exact ⟨rfl,by rw [hn0];exact h7.trans (belowK_b (w:=w) (by omega) W D _ _ (by omega) hK rfl rfl)⟩
  have HK:=Lib.hid hK
  clear h2 h3 h4 h5 h6 h7 hK hg q1
  gi_wp2
  refine ⟨by simp,.inl ⟨_,_,rfl,run_takeDeferred HK.out,?_⟩⟩
  refine ⟨.tuple #[codeV x op,.bool true],?_,F.out⟩
  simp [results,Tryz.results179,go_sem,q2,q3,q4,q5,codeV]
end Go.Proofs.YtajlleeonddinaaGreatDoor
namespace Go.Proofs.YtajlleeonddinaaGreatDoor
open Go.RowKit Go.Shelf
theorem listOf_any (page:Int) (w:World) :
  Calls Tryz.prog 180 #[.int .i64 page] w fun e w'=>e=.returned (.string (sB (listS page)))∧w'=w:=by
 by_cases h0:page=0
 ·subst h0
  go_enter Tryz.func180,Tryz.ntmps180
  go_wp2
  go_ret
  exact ⟨rfl,rfl⟩
 by_cases h1:page=1
 ·subst h1
  go_enter Tryz.func180,Tryz.ntmps180
  go_wp2
  go_ret
  exact ⟨rfl,rfl⟩
 by_cases h2:page=2
 ·subst h2
  go_enter Tryz.func180,Tryz.ntmps180
  go_wp2
  go_ret
  exact ⟨rfl,rfl⟩
 by_cases h3:page=3
 ·subst h3
  go_enter Tryz.func180,Tryz.ntmps180
  go_wp2
  go_ret
  exact ⟨rfl,rfl⟩
 by_cases h4:page=4
 ·subst h4
  go_enter Tryz.func180,Tryz.ntmps180
  go_wp2
  go_ret
  exact ⟨rfl,rfl⟩
 by_cases h5:page=5
 ·subst h5
  go_enter Tryz.func180,Tryz.ntmps180
  go_wp2
  go_ret
  exact ⟨rfl,rfl⟩
 by_cases h6:page=6
 ·subst h6
  go_enter Tryz.func180,Tryz.ntmps180
  go_wp2
  go_ret
  exact ⟨rfl,rfl⟩
 ·have e:listS page=[]:=by unfold listS;simp [h0,h1,h2,h3,h4,h5,h6]
  rw [e]
  go_enter Tryz.func180,Tryz.ntmps180
  go_wp2
  go_ret
  exact ⟨rfl,rfl⟩
theorem patsOf_main:patsOf mainS=mainP:=by decide +kernel
theorem patsOf_cb:patsOf cbS=cbP:=by decide +kernel
theorem patsOf_ed:patsOf edS=edP:=by decide +kernel
def pagePats (page:Int):List Pat:=if page=0∨page=3∨page=4 then mainP else if page=1∨page=5∨page=6 then cbP else if page=2 then edP else []
theorem patsOf_page (page:Int):patsOf (listS page)=pagePats page:=by
 unfold listS pagePats
 split
 ·exact patsOf_main
 ·split
  ·exact patsOf_cb
  ·split
   ·exact patsOf_ed
   ·rfl
theorem listS_len (page:Int):(listS page).length≤100000:=by
 have h0:mainS.length≤100000:=by decide +kernel
 have h1:cbS.length≤100000:=by decide +kernel
 have h2:edS.length≤100000:=by decide +kernel
 have h3:([]:Str).length≤100000:=by decide +kernel
 unfold listS
 split
 ·exact h0
 ·split
  ·exact h1
  ·split
   ·exact h2
   ·exact h3
theorem all8:∀ p∈mainP++cbP++edP,p.1.length=8:=by decide +kernel
theorem page_mem {page:Int} {p:Pat} (h:p∈pagePats page):p∈mainP++cbP++edP:=by
 unfold pagePats at h
 split at h
 ·simp [h]
 ·split at h
  ·simp [h]
  ·split at h
   ·simp [h]
   ·cases h
theorem page8 (page:Int):∀ p∈patsOf (listS page),p.1.length=8:=fun p h=>all8 p (page_mem (by rw [← patsOf_page];exact h))
end Go.Proofs.YtajlleeonddinaaGreatDoor
namespace Go.Proofs.YtajlleeonddinaaGreatDoor
open Go.RowKit Go.Shelf
def trV (x:Tr):Value:=.agg #[.int .i64 x.1,.int .i64 x.2.1,.int .i64 x.2.2]
def RetTr (w:World) (x:Tr) (e:Ending) (w':World):Prop:=e=.returned (trV x)∧Below w.heap.size w w'
def OpdAt (w:World) (n:Nat):Prop:=w.heap[n]?=some (.cells #[.int .i64 0,.int .i64 0,.int .i64 0] 55 (0,0))
theorem OpdAt.below {w w':World} {n:Nat} (h:OpdAt w n) (hb:Below w.heap.size w w'):OpdAt w' n:=(hb.block n (Array.getElem?_eq_some_iff.1 h).1).trans h
theorem OpdAt.belowN {w w':World} {n m:Nat} (h:OpdAt w n) (hb:Below m w w') (hn:n<m):OpdAt w' n:=(hb.block n hn).trans h
theorem OpdAt.cells {w:World} {n:Nat} (h:OpdAt w n):w.cell? ⟨n,0,none⟩=some (.int .i64 0)∧w.cell? ⟨n,1,none⟩=some (.int .i64 0)∧w.cell? ⟨n,2,none⟩=some (.int .i64 0)∧∀ j,w.frozen? ⟨n,j,none⟩=false:=
 ⟨Lib.cell_of_heap h 0,Lib.cell_of_heap h 1,Lib.cell_of_heap h 2,Lib.frozen_of_heap h⟩
theorem opd_set {w:World} {n:Nat} (h:OpdAt w n) (a b c:Int):∃ w',((w.setCell ⟨n,0,none⟩ (.int .i64 a)).setCell ⟨n,1,none⟩ (.int .i64 b)).setCell ⟨n,2,none⟩ (.int .i64 c)=w'∧
  w'.heap[n]?=some (.cells #[.int .i64 a,.int .i64 b,.int .i64 c] 55 (0,0))∧Below n w w'∧w'.heap.size=w.heap.size:=
 ⟨_,rfl,set3 h _ _ _,((((Below.refl n w).setCell (p:=⟨n,0,none⟩) (Nat.le_refl _) _).setCell (p:=⟨n,1,none⟩) (Nat.le_refl _) _).setCell (p:=⟨n,2,none⟩) (Nat.le_refl _) _),by simp⟩
theorem code_start (w:World) (p:Pat) (op:Int):∃ w0,(w.alloc (.cells #[.string (sB p.1),.string (sB p.2),.int .u8 op] 242)).alloc (.cells #[.int .i64 0,.int .i64 0,.int .i64 0] 55)=w0∧
  OpdAt w0 (w.heap.size+1)∧Below w.heap.size w w0∧w0.heap.size=w.heap.size+2∧w0.heap[w.heap.size]?=some (.cells #[.string (sB p.1),.string (sB p.2),.int .u8 op] 242 (0,0)):=by
 refine ⟨_,rfl,?_,((Below.refl _ w).alloc (Nat.le_refl _) _).alloc (by simp) _,by simp,(Below.heap_alloc _ _ _ (by simp)).trans (World.alloc_heap_new w _)⟩
 have h:=World.alloc_heap_new (w.alloc (.cells #[.string (sB p.1),.string (sB p.2),.int .u8 op] 242)) (.cells #[.int .i64 0,.int .i64 0,.int .i64 0] 55)
 rw [World.size_alloc] at h
 exact h
theorem register_any (r:Int) (w:World):Calls Tryz.prog 234 #[.int .i64 r] w (RetTr w (1,r,0)):=by
 go_enter Tryz.func234,Tryz.ntmps234
 go_wp2
 refine bodyPost_ret (v:=trV (1,r,0)) ?_ rfl ?_
 ·simp [results,Tryz.results234,go_sem,trV]
 ·exact ⟨rfl,(Below.refl _ _).alloc (Nat.le_refl _) _⟩
theorem half_any (r:Int) (w:World):Calls Tryz.prog 254 #[.int .i64 r] w (RetTr w (2,r,0)):=by
 go_enter Tryz.func254,Tryz.ntmps254
 go_wp2
 refine bodyPost_ret (v:=trV (2,r,0)) ?_ rfl ?_
 ·simp [results,Tryz.results254,go_sem,trV]
 ·exact ⟨rfl,(Below.refl _ _).alloc (Nat.le_refl _) _⟩
theorem pair_any (r:Int) (w:World):Calls Tryz.prog 245 #[.int .i64 r] w (RetTr w (3,r,0)):=by
 go_enter Tryz.func245,Tryz.ntmps245
 go_wp2
 refine bodyPost_ret (v:=trV (3,r,0)) ?_ rfl ?_
 ·simp [results,Tryz.results245,go_sem,trV]
 ·exact ⟨rfl,(Below.refl _ _).alloc (Nat.le_refl _) _⟩
theorem tpointer_any (r:Int) (w:World):Calls Tryz.prog 243 #[.int .i64 r] w (RetTr w (4,r,0)):=by
 go_enter Tryz.func243,Tryz.ntmps243
 go_wp2
 refine bodyPost_ret (v:=trV (4,r,0)) ?_ rfl ?_
 ·simp [results,Tryz.results243,go_sem,trV]
 ·exact ⟨rfl,(Below.refl _ _).alloc (Nat.le_refl _) _⟩
theorem value_any (r:Int) (w:World):Calls Tryz.prog 247 #[.int .i64 r] w (RetTr w (6,0,r)):=by
 go_enter Tryz.func247,Tryz.ntmps247
 go_wp2
 refine bodyPost_ret (v:=trV (6,0,r)) ?_ rfl ?_
 ·simp [results,Tryz.results247,go_sem,trV]
 ·exact ⟨rfl,(Below.refl _ _).alloc (Nat.le_refl _) _⟩
theorem cpair_any (p:Pat) (hl:p.1.length=8) (op:Int) (h0:0≤op) (h1:op≤255) (c:UInt8) (w:World) :
  Calls Tryz.prog 256 #[codeV p op,.int .u8 (c.toNat:Int)] w (RetTr w (3,numP p.1 op c,0)):=by
 unfold codeV
 obtain ⟨w0,hw0,S0,B0,Z0,C0⟩:=code_start w p op
 obtain ⟨n,hn⟩:∃ n,w.heap.size=n:=⟨_,rfl⟩
 rw [hn] at S0 B0 Z0 C0
 have k0:=Lib.cell_of_heap C0 0
 have k1:=Lib.cell_of_heap C0 1
 have k2:=Lib.cell_of_heap C0 2
 have hnum:=number_any p.1 p.2 hl op h0 h1 c w0
 have S0:=Lib.hid S0
 have B0:=Lib.hid B0
 have HN:=Lib.hid hn
 clear C0
 go_enter Tryz.func256,Tryz.ntmps256
 go_wp2_with fail
 refine hnum.mono ?_
 rintro e w1 ⟨rfl,hb1⟩
 have S1:Hid (OpdAt w1 (n+1)):=S0.out.below hb1
 have B1:Hid (Below n w w1):=B0.out.trans (hb1.mono (by omega))
 have Z1:Hid (n+2≤w1.heap.size):=by have:=hb1.size;show _≤_;omega
 clear hb1 hnum hw0 S0 B0 Z0 hn k0 k1 k2
 go_wp2_with fail
 refine (pair_any _ w1).mono ?_
 rintro e w2 ⟨rfl,hb2⟩
 have S2:Hid (OpdAt w2 (n+1)):=S1.out.below hb2
 have B2:Hid (Below n w w2):=B1.out.trans (hb2.mono (by have:=Z1.out;omega))
 clear hb2 S1 B1 Z1
 simp only [trV]
 obtain ⟨c0,c1,c2,c3⟩:=S2.out.cells
 go_wp2
 obtain ⟨w3,hw3,hc3,hb3,-⟩:=opd_set S2.out 3 (numP p.1 op c) 0
 rw [hw3]
 have r0:=Lib.cell_of_heap hc3 0
 have r1:=Lib.cell_of_heap hc3 1
 have r2:=Lib.cell_of_heap hc3 2
 refine bodyPost_ret (v:=trV (3,(numP p.1 op c),0)) ?_ rfl ?_
 ·simp [results,Tryz.results256,go_sem,r0,r1,r2,trV]
 ·exact ⟨rfl,by rw [HN.out];exact B2.out.trans (hb3.mono (by omega))⟩
theorem cbit_any (p:Pat) (hl:p.1.length=8) (op:Int) (h0:0≤op) (h1:op≤255) (c:UInt8) (w:World) :
  Calls Tryz.prog 259 #[codeV p op,.int .u8 (c.toNat:Int)] w (RetTr w (6,0,numP p.1 op c)):=by
 unfold codeV
 obtain ⟨w0,hw0,S0,B0,Z0,C0⟩:=code_start w p op
 obtain ⟨n,hn⟩:∃ n,w.heap.size=n:=⟨_,rfl⟩
 rw [hn] at S0 B0 Z0 C0
 have k0:=Lib.cell_of_heap C0 0
 have k1:=Lib.cell_of_heap C0 1
 have k2:=Lib.cell_of_heap C0 2
 have hnum:=number_any p.1 p.2 hl op h0 h1 c w0
 have S0:=Lib.hid S0
 have B0:=Lib.hid B0
 have HN:=Lib.hid hn
 clear C0
 go_enter Tryz.func259,Tryz.ntmps259
 go_wp2_with fail
 refine hnum.mono ?_
 rintro e w1 ⟨rfl,hb1⟩
 have S1:Hid (OpdAt w1 (n+1)):=S0.out.below hb1
 have B1:Hid (Below n w w1):=B0.out.trans (hb1.mono (by omega))
 have Z1:Hid (n+2≤w1.heap.size):=by have:=hb1.size;show _≤_;omega
 clear hb1 hnum hw0 S0 B0 Z0 hn k0 k1 k2
 go_wp2_with fail
 refine (value_any _ w1).mono ?_
 rintro e w2 ⟨rfl,hb2⟩
 have S2:Hid (OpdAt w2 (n+1)):=S1.out.below hb2
 have B2:Hid (Below n w w2):=B1.out.trans (hb2.mono (by have:=Z1.out;omega))
 clear hb2 S1 B1 Z1
 simp only [trV]
 obtain ⟨c0,c1,c2,c3⟩:=S2.out.cells
 go_wp2
 obtain ⟨w3,hw3,hc3,hb3,-⟩:=opd_set S2.out 6 0 (numP p.1 op c)
 rw [hw3]
 have r0:=Lib.cell_of_heap hc3 0
 have r1:=Lib.cell_of_heap hc3 1
 have r2:=Lib.cell_of_heap hc3 2
 refine bodyPost_ret (v:=trV (6,0,(numP p.1 op c))) ?_ rfl ?_
 ·simp [results,Tryz.results259,go_sem,r0,r1,r2,trV]
 ·exact ⟨rfl,by rw [HN.out];exact B2.out.trans (hb3.mono (by omega))⟩
theorem ccond_any (p:Pat) (hl:p.1.length=8) (op:Int) (h0:0≤op) (h1:op≤255) (c:UInt8) (w:World) :
  Calls Tryz.prog 258 #[codeV p op,.int .u8 (c.toNat:Int)] w (RetTr w (8,numP p.1 op c,0)):=by
 unfold codeV
 obtain ⟨w0,hw0,S0,B0,Z0,C0⟩:=code_start w p op
 obtain ⟨n,hn⟩:∃ n,w.heap.size=n:=⟨_,rfl⟩
 rw [hn] at S0 B0 Z0 C0
 have k0:=Lib.cell_of_heap C0 0
 have k1:=Lib.cell_of_heap C0 1
 have k2:=Lib.cell_of_heap C0 2
 have hnum:=number_any p.1 p.2 hl op h0 h1 c w0
 have S0:=Lib.hid S0
 have B0:=Lib.hid B0
 have HN:=Lib.hid hn
 clear C0
 go_enter Tryz.func258,Tryz.ntmps258
 go_wp2_with fail
 refine hnum.mono ?_
 rintro e w1 ⟨rfl,hb1⟩
 have S1:Hid (OpdAt w1 (n+1)):=S0.out.below hb1
 have B1:Hid (Below n w w1):=B0.out.trans (hb1.mono (by omega))
 have Z1:Hid (n+2≤w1.heap.size):=by have:=hb1.size;show _≤_;omega
 clear hb1 hnum hw0 S0 B0 Z0 hn k0 k1 k2
 obtain ⟨c0,c1,c2,c3⟩:=S1.out.cells
 go_wp2
 obtain ⟨w3,hw3,hc3,hb3,-⟩:=opd_set S1.out 8 (numP p.1 op c) 0
 rw [hw3]
 have r0:=Lib.cell_of_heap hc3 0
 have r1:=Lib.cell_of_heap hc3 1
 have r2:=Lib.cell_of_heap hc3 2
 refine bodyPost_ret (v:=trV (8,(numP p.1 op c),0)) ?_ rfl ?_
 ·simp [results,Tryz.results258,go_sem,r0,r1,r2,trV]
 ·exact ⟨rfl,by rw [HN.out];exact B1.out.trans (hb3.mono (by omega))⟩
theorem crestart_any (p:Pat) (hl:p.1.length=8) (op:Int) (h0:0≤op) (h1:op≤255) (c:UInt8) (hm:0≤numP p.1 op c) (hM:numP p.1 op c≤255) (w:World) :
  Calls Tryz.prog 260 #[codeV p op,.int .u8 (c.toNat:Int)] w (RetTr w (6,0,8*numP p.1 op c)):=by
 unfold codeV
 obtain ⟨w0,hw0,S0,B0,Z0,C0⟩:=code_start w p op
 obtain ⟨n,hn⟩:∃ n,w.heap.size=n:=⟨_,rfl⟩
 rw [hn] at S0 B0 Z0 C0
 have k0:=Lib.cell_of_heap C0 0
 have k1:=Lib.cell_of_heap C0 1
 have k2:=Lib.cell_of_heap C0 2
 have hnum:=number_any p.1 p.2 hl op h0 h1 c w0
 have S0:=Lib.hid S0
 have B0:=Lib.hid B0
 have HN:=Lib.hid hn
 clear C0
 go_enter Tryz.func260,Tryz.ntmps260
 go_wp2_with fail
 refine hnum.mono ?_
 rintro e w1 ⟨rfl,hb1⟩
 have S1:Hid (OpdAt w1 (n+1)):=S0.out.below hb1
 have B1:Hid (Below n w w1):=B0.out.trans (hb1.mono (by omega))
 have Z1:Hid (n+2≤w1.heap.size):=by have:=hb1.size;show _≤_;omega
 clear hb1 hnum hw0 S0 B0 Z0 hn k0 k1 k2
 go_wp2_with fail
 refine (value_any _ w1).mono ?_
 rintro e w2 ⟨rfl,hb2⟩
 have S2:Hid (OpdAt w2 (n+1)):=S1.out.below hb2
 have B2:Hid (Below n w w2):=B1.out.trans (hb2.mono (by have:=Z1.out;omega))
 clear hb2 S1 B1 Z1
 simp only [trV]
 obtain ⟨c0,c1,c2,c3⟩:=S2.out.cells
 go_wp2
 obtain ⟨w3,hw3,hc3,hb3,-⟩:=opd_set S2.out 6 0 (8*(numP p.1 op c))
 rw [hw3]
 have r0:=Lib.cell_of_heap hc3 0
 have r1:=Lib.cell_of_heap hc3 1
 have r2:=Lib.cell_of_heap hc3 2
 refine bodyPost_ret (v:=trV (6,0,(8*(numP p.1 op c)))) ?_ rfl ?_
 ·simp [results,Tryz.results260,go_sem,r0,r1,r2,trV]
 ·exact ⟨rfl,by rw [HN.out];exact B2.out.trans (hb3.mono (by omega))⟩
def regT (n:Int):Tr:=if n=6 then (4,2,0) else (1,n,0)
def pushT (n:Int):Tr:=if n=3 then (3,4,0) else (3,n,0)
theorem cregister_any (p:Pat) (hl:p.1.length=8) (op:Int) (h0:0≤op) (h1:op≤255) (c:UInt8) (w:World) :
  Calls Tryz.prog 255 #[codeV p op,.int .u8 (c.toNat:Int)] w (RetTr w (regT (numP p.1 op c))):=by
 unfold codeV
 obtain ⟨w0,hw0,S0,B0,Z0,C0⟩:=code_start w p op
 obtain ⟨n,hn⟩:∃ n,w.heap.size=n:=⟨_,rfl⟩
 rw [hn] at S0 B0 Z0 C0
 have k0:=Lib.cell_of_heap C0 0
 have k1:=Lib.cell_of_heap C0 1
 have k2:=Lib.cell_of_heap C0 2
 have hnum:=number_any p.1 p.2 hl op h0 h1 c w0
 have S0:=Lib.hid S0
 have B0:=Lib.hid B0
 have HN:=Lib.hid hn
 clear C0
 go_enter Tryz.func255,Tryz.ntmps255
 go_wp2_with fail
 refine hnum.mono ?_
 rintro e w1 ⟨rfl,hb1⟩
 have S1:Hid (OpdAt w1 (n+1)):=S0.out.below hb1
 have B1:Hid (Below n w w1):=B0.out.trans (hb1.mono (by omega))
 have Z1:Hid (n+2≤w1.heap.size):=by have:=hb1.size;show _≤_;omega
 clear hb1 hnum hw0 S0 B0 Z0 hn k0 k1 k2
 by_cases hk:numP p.1 op c=6
 ·have E:Hid (regT (numP p.1 op c)=(4,2,0)):=by show regT _=_;unfold regT;rw [if_pos hk]
  rw [hk]
  go_wp2_with fail
  refine (tpointer_any _ w1).mono ?_
  rintro e w2 ⟨rfl,hb2⟩
  have S2:Hid (OpdAt w2 (n+1)):=S1.out.below hb2
  have B2:Hid (Below n w w2):=B1.out.trans (hb2.mono (by have:=Z1.out;omega))
  clear hb2 S1 B1 Z1
  simp only [trV]
  obtain ⟨c0,c1,c2,c3⟩:=S2.out.cells
  go_wp2
  obtain ⟨w3,hw3,hc3,hb3,-⟩:=opd_set S2.out 4 2 0
  rw [hw3]
  have r0:=Lib.cell_of_heap hc3 0
  have r1:=Lib.cell_of_heap hc3 1
  have r2:=Lib.cell_of_heap hc3 2
  refine bodyPost_ret (v:=trV (4,2,0)) ?_ rfl ?_
  ·simp [results,Tryz.results255,go_sem,r0,r1,r2,trV]
  ·exact ⟨by rw [E.out],by rw [HN.out];exact B2.out.trans (hb3.mono (by omega))⟩
 ·have E:Hid (regT (numP p.1 op c)=(1,(numP p.1 op c),0)):=by show regT _=_;unfold regT;rw [if_neg hk]
  obtain ⟨m,hm⟩:∃ m,numP p.1 op c=m:=⟨_,rfl⟩
  have E2:Hid (regT (numP p.1 op c)=(1,m,0)):=by have h:=E.out;rw [hm] at h ⊢;exact h
  rw [hm] at hk ⊢
  clear hm
  go_wp2_with fail
  refine (register_any _ w1).mono ?_
  rintro e w2 ⟨rfl,hb2⟩
  have S2:Hid (OpdAt w2 (n+1)):=S1.out.below hb2
  have B2:Hid (Below n w w2):=B1.out.trans (hb2.mono (by have:=Z1.out;omega))
  clear hb2 S1 B1 Z1
  simp only [trV]
  obtain ⟨c0,c1,c2,c3⟩:=S2.out.cells
  go_wp2
  obtain ⟨w3,hw3,hc3,hb3,-⟩:=opd_set S2.out 1 m 0
  rw [hw3]
  have r0:=Lib.cell_of_heap hc3 0
  have r1:=Lib.cell_of_heap hc3 1
  have r2:=Lib.cell_of_heap hc3 2
  refine bodyPost_ret (v:=trV (1,m,0)) ?_ rfl ?_
  ·simp [results,Tryz.results255,go_sem,r0,r1,r2,trV]
  ·exact ⟨by rw [E2.out],by rw [HN.out];exact B2.out.trans (hb3.mono (by omega))⟩
theorem cpushed_any (p:Pat) (hl:p.1.length=8) (op:Int) (h0:0≤op) (h1:op≤255) (c:UInt8) (w:World) :
  Calls Tryz.prog 257 #[codeV p op,.int .u8 (c.toNat:Int)] w (RetTr w (pushT (numP p.1 op c))):=by
 unfold codeV
 obtain ⟨w0,hw0,S0,B0,Z0,C0⟩:=code_start w p op
 obtain ⟨n,hn⟩:∃ n,w.heap.size=n:=⟨_,rfl⟩
 rw [hn] at S0 B0 Z0 C0
 have k0:=Lib.cell_of_heap C0 0
 have k1:=Lib.cell_of_heap C0 1
 have k2:=Lib.cell_of_heap C0 2
 have hnum:=number_any p.1 p.2 hl op h0 h1 c w0
 have S0:=Lib.hid S0
 have B0:=Lib.hid B0
 have HN:=Lib.hid hn
 clear C0
 go_enter Tryz.func257,Tryz.ntmps257
 go_wp2_with fail
 refine hnum.mono ?_
 rintro e w1 ⟨rfl,hb1⟩
 have S1:Hid (OpdAt w1 (n+1)):=S0.out.below hb1
 have B1:Hid (Below n w w1):=B0.out.trans (hb1.mono (by omega))
 have Z1:Hid (n+2≤w1.heap.size):=by have:=hb1.size;show _≤_;omega
 clear hb1 hnum hw0 S0 B0 Z0 hn k0 k1 k2
 by_cases hk:numP p.1 op c=3
 ·have E:Hid (pushT (numP p.1 op c)=(3,4,0)):=by show pushT _=_;unfold pushT;rw [if_pos hk]
  rw [hk]
  go_wp2_with fail
  refine (pair_any _ w1).mono ?_
  rintro e w2 ⟨rfl,hb2⟩
  have S2:Hid (OpdAt w2 (n+1)):=S1.out.below hb2
  have B2:Hid (Below n w w2):=B1.out.trans (hb2.mono (by have:=Z1.out;omega))
  clear hb2 S1 B1 Z1
  simp only [trV]
  obtain ⟨c0,c1,c2,c3⟩:=S2.out.cells
  go_wp2
  obtain ⟨w3,hw3,hc3,hb3,-⟩:=opd_set S2.out 3 4 0
  rw [hw3]
  have r0:=Lib.cell_of_heap hc3 0
  have r1:=Lib.cell_of_heap hc3 1
  have r2:=Lib.cell_of_heap hc3 2
  refine bodyPost_ret (v:=trV (3,4,0)) ?_ rfl ?_
  ·simp [results,Tryz.results257,go_sem,r0,r1,r2,trV]
  ·exact ⟨by rw [E.out],by rw [HN.out];exact B2.out.trans (hb3.mono (by omega))⟩
 ·have E:Hid (pushT (numP p.1 op c)=(3,(numP p.1 op c),0)):=by show pushT _=_;unfold pushT;rw [if_neg hk]
  obtain ⟨m,hm⟩:∃ m,numP p.1 op c=m:=⟨_,rfl⟩
  have E2:Hid (pushT (numP p.1 op c)=(3,m,0)):=by have h:=E.out;rw [hm] at h ⊢;exact h
  rw [hm] at hk ⊢
  clear hm
  go_wp2_with fail
  refine (pair_any _ w1).mono ?_
  rintro e w2 ⟨rfl,hb2⟩
  have S2:Hid (OpdAt w2 (n+1)):=S1.out.below hb2
  have B2:Hid (Below n w w2):=B1.out.trans (hb2.mono (by have:=Z1.out;omega))
  clear hb2 S1 B1 Z1
  simp only [trV]
  obtain ⟨c0,c1,c2,c3⟩:=S2.out.cells
  go_wp2
  obtain ⟨w3,hw3,hc3,hb3,-⟩:=opd_set S2.out 3 m 0
  rw [hw3]
  have r0:=Lib.cell_of_heap hc3 0
  have r1:=Lib.cell_of_heap hc3 1
  have r2:=Lib.cell_of_heap hc3 2
  refine bodyPost_ret (v:=trV (3,m,0)) ?_ rfl ?_
  ·simp [results,Tryz.results257,go_sem,r0,r1,r2,trV]
  ·exact ⟨by rw [E2.out],by rw [HN.out];exact B2.out.trans (hb3.mono (by omega))⟩
end Go.Proofs.YtajlleeonddinaaGreatDoor
namespace Go.Proofs.YtajlleeonddinaaGreatDoor
open Go.RowKit Go.Shelf
theorem bit_and (x:Nat) (h:x<256):bits .and .u8 (x:Int) 1=((x % 2:Nat):Int):=by
 have:∀ y:Fin 256,bits .and .u8 (y.val:Int) 1=((y.val % 2:Nat):Int):=by decide +kernel
 exact this ⟨x,h⟩
theorem bit_or (o b:Nat) (h:o<128) (hb:b<2):bits .or .i64 (wrap64 ((o:Int)*2)) (wrap64 (b:Int))=((2*o+b:Nat):Int):=by
 have:∀ (o:Fin 128) (b:Fin 2),bits .or .i64 (wrap64 ((o.val:Int)*2)) (wrap64 (b.val:Int))=((2*o.val+b.val:Nat):Int):=by decide +kernel
 exact this ⟨o,h⟩ ⟨b,hb⟩
def numN (l:Str) (n:Nat) (c:UInt8):Nat→Nat
 | 0=>0
 | k+1=>if l[k]?.getD 0=c then 2*numN l n c k+n / 2 ^ (7 - k) % 2 else numN l n c k
theorem numF_eq (l:Str) (n:Nat) (hn:n<256) (c:UInt8):∀ k,k≤8→numF l (n:Int) c k=(numN l n c k:Nat)∧numN l n c k<2 ^ k
 | 0,_=>⟨rfl,Nat.one_pos⟩
 | k+1,h=>by
  obtain ⟨h1,h2⟩:=numF_eq l n hn c k (by omega)
  unfold numF numN
  have h3:numN l n c k<2 ^ 7:=Nat.lt_of_lt_of_le h2 (Nat.pow_le_pow_right (by decide) (by omega))
  split
  ·have e:(n:Int) / 2 ^ (7 - k)=((n / 2 ^ (7 - k):Nat):Int):=by simp
   have hle:n / 2 ^ (7 - k)<256:=Nat.lt_of_le_of_lt (Nat.div_le_self _ _) hn
   rw [h1,e,bit_and _ hle,bit_or _ _ (by omega) (by omega)]
   refine ⟨rfl,?_⟩
   rw [Nat.pow_succ]
   omega
  ·exact ⟨h1,by rw [Nat.pow_succ];omega⟩
theorem numP_eq (l:Str) (n:Nat) (hn:n<256) (c:UInt8):numP l (n:Int) c=(numN l n c 8:Nat):=(numF_eq l n hn c 8 (Nat.le_refl _)).1
theorem numP_bd (l:Str) (op:Int) (h0:0≤op) (h1:op≤255) (c:UInt8):0≤numP l op c∧numP l op c≤255:=by
 obtain ⟨n,rfl⟩:∃ n:Nat,op=n:=⟨op.toNat,by omega⟩
 have h:=numF_eq l n (by omega) c 8 (Nat.le_refl _)
 have e:numP l (n:Int) c=(numN l n c 8:Nat):=h.1
 omega
def fixedT (w:Str):Tr:=
 if w=[65] then (1,7,0) else if w=[68,69] then (3,1,0) else if w=[72,76] then (3,2,0) else if w=[83,80] then (3,3,0) else if w=[65,70] then (3,4,0) else
 if w=[65,70,39] then (3,7,0) else if w=[40,66,67,41] then (4,0,0) else if w=[40,68,69,41] then (4,1,0) else if w=[40,72,76,41] then (4,2,0) else
 if w=[40,83,80,41] then (4,3,0) else if w=[40,67,41] then (4,8,0) else if w=[73] then (9,0,0) else if w=[82] then (9,1,0) else (6,0,((w.headD 0).toNat:Int) - 48)
def fieldT (c:UInt8) (n:Int):Option Tr:=
 if c=114∨c=115 then some (regT n) else if c=112 then some (3,n,0) else if c=113 then some (pushT n) else if c=99∨c=107 then some (8,n,0) else if c=98 then some (6,0,n) else if c=116 then some (6,0,8*n) else none
def opT (p:Pat) (op:Int) (w:Str):Tr×Str:=
 if w=[101] then ((10,0,0),w) else if w=[110]∨w=[119] then ((6,0,0),w) else if w=[40,110,41]∨w=[40,119,41] then ((7,0,0),(w.drop 1).take 1) else
 match fieldT (w.headD 0) (numP p.1 op (w.headD 0)) with
 | some t=>(t,[])
 | none=>(fixedT w,[])
theorem opd_start (w:World):∃ w0,w.alloc (.cells #[.int .i64 0,.int .i64 0,.int .i64 0] 55)=w0∧OpdAt w0 w.heap.size∧Below w.heap.size w w0∧w0.heap.size=w.heap.size+1:=
 ⟨_,rfl,World.alloc_heap_new w _,(Below.refl _ w).alloc (Nat.le_refl _) _,by simp⟩
theorem fixed_c (word:Str) (hw:word∈([[65],[68,69],[72,76],[83,80],[65,70],[65,70,39],[40,66,67,41],[40,68,69,41],[40,72,76,41],[40,83,80,41],[40,67,41],[48],[49],[50]]:List Str)) (w:World):Calls Tryz.prog 249 #[.string (sB word)] w (RetTr w (fixedT word)):=by
 obtain ⟨w0,hw0,S0,B0,Z0⟩:=opd_start w
 obtain ⟨n,hn⟩:∃ n,w.heap.size=n:=⟨_,rfl⟩
 rw [hn] at S0 B0 Z0
 have S0:=Lib.hid S0
 have B0:=Lib.hid B0
 have HN:=Lib.hid hn
 have hix:∀ w,(Instr.index 9 (.string (sB word)) (.int .i64 0)).run Tryz.prog w=.ok (.int .u8 ((word.headD 0).toNat:Int)) w:=by
  simp only [List.mem_cons,List.not_mem_nil,or_false] at hw
  rcases hw with rfl | rfl | rfl | rfl | rfl | rfl | rfl | rfl | rfl | rfl | rfl | rfl | rfl | rfl
  all_goals exact fun _=>by kernel_rfl
 obtain ⟨⟨a,b,c⟩,ht⟩:∃ t:Tr,fixedT word=t:=⟨_,rfl⟩
 rw [ht]
 simp only [List.mem_cons,List.not_mem_nil,or_false] at hw
 rcases hw with rfl | rfl | rfl | rfl | rfl | rfl | rfl | rfl | rfl | rfl | rfl | rfl | rfl | rfl
 all_goals
  unfold sB at hix ⊢
  simp only [List.headD_cons] at hix
  go_enter Tryz.func249,Tryz.ntmps249
  go_wp2_with fail
  refine Calls.mono (?_:Calls _ _ _ _ (RetTr w0 (a,b,c))) ?_
  ·rw [← ht]
   first
    | exact register_any _ w0
    | exact pair_any _ w0
    | exact tpointer_any _ w0
    | exact value_any _ w0
  clear ht
  rintro e w1 ⟨rfl,hb1⟩
  have S1:Hid (OpdAt w1 n):=S0.out.below hb1
  have B1:Hid (Below n w w1):=B0.out.trans (hb1.mono (by omega))
  clear hb1 hw0 S0 B0 Z0 hn
  simp only [trV]
  obtain ⟨c0,c1,c2,c3⟩:=S1.out.cells
  go_wp2
  obtain ⟨w3,hw3,hc3,hb3,-⟩:=opd_set S1.out a b c
  rw [hw3]
  have r0:=Lib.cell_of_heap hc3 0
  have r1:=Lib.cell_of_heap hc3 1
  have r2:=Lib.cell_of_heap hc3 2
  refine bodyPost_ret (v:=trV (a,b,c)) ?_ rfl ?_
  ·simp [results,Tryz.results249,go_sem,r0,r1,r2,trV]
  ·exact ⟨rfl,by rw [HN.out];exact B1.out.trans hb3⟩
theorem fixed_d (word:Str) (hw:word∈([[73],[82]]:List Str)) (w:World):Calls Tryz.prog 249 #[.string (sB word)] w (RetTr w (fixedT word)):=by
 simp only [List.mem_cons,List.not_mem_nil,or_false] at hw
 rcases hw with rfl | rfl
 ·go_enter Tryz.func249,Tryz.ntmps249
  unfold sB
  go_wp2
  refine bodyPost_ret (v:=trV (9,0,0)) ?_ rfl ?_
  ·simp [results,Tryz.results249,go_sem,trV]
  ·exact ⟨rfl,(Below.refl _ _).alloc (Nat.le_refl _) _⟩
 ·go_enter Tryz.func249,Tryz.ntmps249
  unfold sB
  go_wp2
  refine bodyPost_ret (v:=trV (9,1,0)) ?_ rfl ?_
  ·simp [results,Tryz.results249,go_sem,trV]
  ·exact ⟨rfl,(Below.refl _ _).alloc (Nat.le_refl _) _⟩
def wordsFx:List Str:=[[65],[68,69],[72,76],[83,80],[65,70],[65,70,39],[40,66,67,41],[40,68,69,41],[40,72,76,41],[40,83,80,41],[40,67,41],[48],[49],[50],[73],[82]]
theorem fixed_any (word:Str) (hw:word∈wordsFx) (w:World):Calls Tryz.prog 249 #[.string (sB word)] w (RetTr w (fixedT word)):=by
 have h:word∈([[65],[68,69],[72,76],[83,80],[65,70],[65,70,39],[40,66,67,41],[40,68,69,41],[40,72,76,41],[40,83,80,41],[40,67,41],[48],[49],[50]]:List Str)++[[73],[82]]:=hw
 rcases List.mem_append.1 h with h | h
 ·exact fixed_c word h w
 ·exact fixed_d word h w
end Go.Proofs.YtajlleeonddinaaGreatDoor
namespace Go.Mixed
open Go
theorem execOp_bare (ρ:Operand→Value) (o:Oper):execOp ρ {o with guard:=none}=execOp ρ o:=by unfold execOp;rfl
theorem wpMix_loudG {P:Program} {ops:Array Oper} {C:World→Prop} {T:Act→World→Prop} {k:Nat} {r:List (Nat×Bool)} {a:Act} {w:World} {o:Oper} (ho:ops[k]?=some o) (hw:Region.wanted o (yielded ops a.tmps)=true)
  (h:wpList P ops (QK fun a' w'=>C w'∧wpMix P ops C T r a' w') [{o with guard:=none}] a w):wpMix P ops C T ((k,false) :: r) a w:=by
 simp only [wpMix]
 unfold wpOp
 simp only [ho,hw,if_true]
 simp only [wpList] at h
 rw [if_pos (by simp [Region.wanted])] at h
 rcases h with h | h
 ·refine .inl ?_
  unfold Oper.wp at h ⊢
  rw [execOp_bare] at h
  have h2:=upon_QK h
  generalize (execOp a.eval o).run P w=rs at h2 ⊢
  cases rs with
  | ok x w'=>cases x <;> exact h2
  | halt x w'=>cases x <;> exact h2
 ·exact absurd h.2 (not_letsOut_QK _)
end Go.Mixed
namespace Go.Proofs.YtajlleeonddinaaGreatDoor
open Go.RowKit Go.Shelf
attribute [local irreducible] Go.Mixed.wpMix
theorem field_read (p:Pat) (op:Int) {z:Int} {F:FuncId} (h:(z,F)∈([(114,255),(115,255),(112,256),(113,257),(99,258),(107,258),(98,259),(116,260)]:List (Int×FuncId))) (w:World):Calls Tryz.prog 248 #[codeV p op,.int .u8 z] w fun e w'=>e=.returned (.func (.func F) #[codeV p op] #[])∧Below w.heap.size w w':=by
 simp only [List.mem_cons,List.not_mem_nil,or_false,Prod.mk.injEq] at h
 unfold codeV
 rcases h with ⟨rfl,rfl⟩ | ⟨rfl,rfl⟩ | ⟨rfl,rfl⟩ | ⟨rfl,rfl⟩ | ⟨rfl,rfl⟩ | ⟨rfl,rfl⟩ | ⟨rfl,rfl⟩ | ⟨rfl,rfl⟩
 all_goals
  go_enter Tryz.func248,Tryz.ntmps248
  go_wp2
  go_ret
  exact ⟨rfl,(Below.refl _ _).alloc (Nat.le_refl _) _⟩
theorem field_nil (p:Pat) (op:Int) {z:Int} (h:z∈([65,68,72,83,40,73,82,48,49,50]:List Int)) (w:World):Calls Tryz.prog 248 #[codeV p op,.int .u8 z] w fun e w'=>e=.returned .nilFunc∧Below w.heap.size w w':=by
 unfold codeV
 simp only [List.mem_cons,List.not_mem_nil,or_false] at h
 rcases h with rfl | rfl | rfl | rfl | rfl | rfl | rfl | rfl | rfl | rfl
 all_goals
  go_enter Tryz.func248,Tryz.ntmps248
  go_wp2
  go_ret
  exact ⟨rfl,(Below.refl _ _).alloc (Nat.le_refl _) _⟩
theorem operand_nil (p:Pat) (op:Int) (s:ByteArray) (z:Int) (x:Tr) (q1:(s.toList == [101])=false) (q2:(s.toList == [110])=false) (q3:(s.toList == [119])=false) (q4:(s.toList == [40,110,41])=false) (q5:(s.toList == [40,119,41])=false) (hix:∀ w,(Instr.index 9 (.string s) (.int .i64 0)).run Tryz.prog w=.ok (.int .u8 z) w) (hz:z∈([65,68,72,83,40,73,82,48,49,50]:List Int)) (hx:∀ w,Calls Tryz.prog 249 #[.string s] w (RetTr w x)) (w:World):Calls Tryz.prog 231 #[codeV p op,.string s] w
  fun e w'=>e=.returned (.tuple #[trV x,.string ⟨#[]⟩])∧Below w.heap.size w w':=by
 have FI:=Lib.hid fun w=>field_nil p op hz w
 have FX:=Lib.hid hx
 clear hz hx
 obtain ⟨a,b,c⟩:=x
 unfold codeV at FI
 unfold codeV
 obtain ⟨w0,hw0,S0,B0,Z0,C0⟩:=code_start w p op
 obtain ⟨n,hn⟩:∃ n,w.heap.size=n:=⟨_,rfl⟩
 rw [hn] at S0 B0 Z0 C0
 have k0:=Lib.cell_of_heap C0 0
 have k1:=Lib.cell_of_heap C0 1
 have k2:=Lib.cell_of_heap C0 2
 obtain ⟨c0,c1,c2,c3⟩:=S0.cells
 have S0:=Lib.hid S0
 have B0:=Lib.hid B0
 have HN:=Lib.hid hn
 go_enter Tryz.func231,Tryz.ntmps231
 go_wp2
 go_still_tail 3,(by kernel_rfl)
 change wpList _ _ _ _ _ w0.drew
 obtain ⟨w1,hw1⟩:∃ w1,w0.drew=w1:=⟨_,rfl⟩
 have S1:Hid (OpdAt w1 (n+1)):=by rw [← hw1];exact S0.out
 have B1:Hid (Below n w w1):=by rw [← hw1];exact B0.out.drew
 have Z1:w1.heap.size=n+2:=by rw [← hw1];exact Z0
 rw [hw1]
 clear S0 B0 C0 hw0 hw1 Z0 c0 c1 c2 c3 k0 k1 k2
 go_wp2_with fail
 refine (FI.out w1).mono ?_
 rintro e w2 ⟨rfl,hb2⟩
 have S2:Hid (OpdAt w2 (n+1)):=S1.out.below hb2
 have B2:Hid (Below n w w2):=B1.out.trans (hb2.mono (by omega))
 have Z2:Hid (n+2≤w2.heap.size):=by have:=hb2.size;show _≤_;omega
 clear hb2 S1 B1 Z1
 have hne:∀ w,(binOp .neq 301 .nilFunc .nilFunc).run Tryz.prog w=.ok (.bool false) w:=fun _=>by kernel_rfl
 go_wp2_with fail
 refine (FX.out w2).mono ?_
 rintro e w4 ⟨rfl,hb4⟩
 have S4:Hid (OpdAt w4 (n+1)):=S2.out.below hb4
 have B4:Hid (Below n w w4):=B2.out.trans (hb4.mono (by have:=Z2.out;omega))
 clear hb4 S2 B2 Z2
 simp only [trV]
 obtain ⟨c0,c1,c2,c3⟩:=S4.out.cells
 go_wp2
 obtain ⟨w3,hw3,hc3,hb3,-⟩:=opd_set S4.out a b c
 rw [hw3]
 have r0:=Lib.cell_of_heap hc3 0
 have r1:=Lib.cell_of_heap hc3 1
 have r2:=Lib.cell_of_heap hc3 2
 refine bodyPost_ret (v:=.tuple #[trV (a,b,c),.string ⟨#[]⟩]) ?_ rfl ?_
 ·simp [results,Tryz.results231,go_sem,r0,r1,r2,trV]
 ·exact ⟨rfl,by rw [HN.out];exact B4.out.trans (hb3.mono (by omega))⟩
theorem operand_read (p:Pat) (op:Int) (s:ByteArray) (z:Int) (x:Tr) (q1:(s.toList == [101])=false) (q2:(s.toList == [110])=false) (q3:(s.toList == [119])=false) (q4:(s.toList == [40,110,41])=false) (q5:(s.toList == [40,119,41])=false) (hix:∀ w,(Instr.index 9 (.string s) (.int .i64 0)).run Tryz.prog w=.ok (.int .u8 z) w) (F:FuncId) (he:∀ args w,(callFunc F args).run Tryz.prog w=.ok (.enter F args) w) (hz:(z,F)∈([(114,255),(115,255),(112,256),(113,257),(99,258),(107,258),(98,259),(116,260)]:List (Int×FuncId))) (hx:∀ w,Calls Tryz.prog F #[codeV p op,.int .u8 z] w (RetTr w x)) (w:World):Calls Tryz.prog 231 #[codeV p op,.string s] w
  fun e w'=>e=.returned (.tuple #[trV x,.string ⟨#[]⟩])∧Below w.heap.size w w':=by
 have FI:=Lib.hid fun w=>field_read p op hz w
 have FX:=Lib.hid hx
 clear hz hx
 obtain ⟨a,b,c⟩:=x
 unfold codeV at FI FX
 unfold codeV
 obtain ⟨w0,hw0,S0,B0,Z0,C0⟩:=code_start w p op
 obtain ⟨n,hn⟩:∃ n,w.heap.size=n:=⟨_,rfl⟩
 rw [hn] at S0 B0 Z0 C0
 have k0:=Lib.cell_of_heap C0 0
 have k1:=Lib.cell_of_heap C0 1
 have k2:=Lib.cell_of_heap C0 2
 obtain ⟨c0,c1,c2,c3⟩:=S0.cells
 have S0:=Lib.hid S0
 have B0:=Lib.hid B0
 have HN:=Lib.hid hn
 go_enter Tryz.func231,Tryz.ntmps231
 go_wp2
 go_still_tail 3,(by kernel_rfl)
 change wpList _ _ _ _ _ w0.drew
 obtain ⟨w1,hw1⟩:∃ w1,w0.drew=w1:=⟨_,rfl⟩
 have S1:Hid (OpdAt w1 (n+1)):=by rw [← hw1];exact S0.out
 have B1:Hid (Below n w w1):=by rw [← hw1];exact B0.out.drew
 have Z1:w1.heap.size=n+2:=by rw [← hw1];exact Z0
 rw [hw1]
 clear S0 B0 C0 hw0 hw1 Z0 c0 c1 c2 c3 k0 k1 k2
 go_wp2_with fail
 refine (FI.out w1).mono ?_
 rintro e w2 ⟨rfl,hb2⟩
 have S2:Hid (OpdAt w2 (n+1)):=S1.out.below hb2
 have B2:Hid (Below n w w2):=B1.out.trans (hb2.mono (by omega))
 have Z2:Hid (n+2≤w2.heap.size):=by have:=hb2.size;show _≤_;omega
 clear hb2 S1 B1 Z1
 have hne:∀ w,(binOp .neq 301 (.func (.func F) #[.agg #[.string (sB p.1),.string (sB p.2),.int .u8 op]] #[]) .nilFunc).run Tryz.prog w=.ok (.bool true) w:=fun _=>by kernel_rfl
 go_wp2_with fail
 refine (FX.out w2).mono ?_
 rintro e w4 ⟨rfl,hb4⟩
 have S4:Hid (OpdAt w4 (n+1)):=S2.out.below hb4
 have B4:Hid (Below n w w4):=B2.out.trans (hb4.mono (by have:=Z2.out;omega))
 clear hb4 S2 B2 Z2
 simp only [trV]
 obtain ⟨c0,c1,c2,c3⟩:=S4.out.cells
 go_wp2
 obtain ⟨w3,hw3,hc3,hb3,-⟩:=opd_set S4.out a b c
 rw [hw3]
 have r0:=Lib.cell_of_heap hc3 0
 have r1:=Lib.cell_of_heap hc3 1
 have r2:=Lib.cell_of_heap hc3 2
 refine bodyPost_ret (v:=.tuple #[trV (a,b,c),.string ⟨#[]⟩]) ?_ rfl ?_
 ·simp [results,Tryz.results231,go_sem,r0,r1,r2,trV]
 ·exact ⟨rfl,by rw [HN.out];exact B4.out.trans (hb3.mono (by omega))⟩
theorem operand_e (p:Pat) (op:Int) (w:World):Calls Tryz.prog 231 #[codeV p op,.string ⟨#[101]⟩] w
  fun e w'=>e=.returned (.tuple #[trV (10,0,0),.string ⟨#[101]⟩])∧Below w.heap.size w w':=by
 unfold codeV
 obtain ⟨w0,hw0,S0,B0,Z0,C0⟩:=code_start w p op
 obtain ⟨n,hn⟩:∃ n,w.heap.size=n:=⟨_,rfl⟩
 rw [hn] at S0 B0 Z0 C0
 have k0:=Lib.cell_of_heap C0 0
 have k1:=Lib.cell_of_heap C0 1
 have k2:=Lib.cell_of_heap C0 2
 obtain ⟨c0,c1,c2,c3⟩:=S0.cells
 have S0:=Lib.hid S0
 have B0:=Lib.hid B0
 have HN:=Lib.hid hn
 go_enter Tryz.func231,Tryz.ntmps231
 go_wp2
 obtain ⟨w3,hw3,hc3,hb3,-⟩:=opd_set S0.out 10 0 0
 rw [hw3]
 have r0:=Lib.cell_of_heap hc3 0
 have r1:=Lib.cell_of_heap hc3 1
 have r2:=Lib.cell_of_heap hc3 2
 refine bodyPost_ret (v:=.tuple #[trV (10,0,0),.string ⟨#[101]⟩]) ?_ rfl ?_
 ·simp [results,Tryz.results231,go_sem,r0,r1,r2,trV]
 ·exact ⟨rfl,by rw [HN.out];exact B0.out.trans (hb3.mono (by omega))⟩
theorem operand_n (p:Pat) (op:Int) (z:UInt8) (hz:z=110∨z=119) (w:World):Calls Tryz.prog 231 #[codeV p op,.string ⟨#[z]⟩] w
  fun e w'=>e=.returned (.tuple #[trV (6,0,0),.string ⟨#[z]⟩])∧Below w.heap.size w w':=by
 unfold codeV
 obtain ⟨w0,hw0,S0,B0,Z0,C0⟩:=code_start w p op
 obtain ⟨n,hn⟩:∃ n,w.heap.size=n:=⟨_,rfl⟩
 rw [hn] at S0 B0 Z0 C0
 have k0:=Lib.cell_of_heap C0 0
 have k1:=Lib.cell_of_heap C0 1
 have k2:=Lib.cell_of_heap C0 2
 obtain ⟨c0,c1,c2,c3⟩:=S0.cells
 have S0:=Lib.hid S0
 have B0:=Lib.hid B0
 have HN:=Lib.hid hn
 obtain ⟨vz,hvz⟩:∃ v,Value.string ⟨#[z]⟩=v:=⟨_,rfl⟩
 have HZ:Hid (Value.string ⟨#[z]⟩=vz):=hvz
 clear hvz
 clear c0 c1 c2 c3 k0 k1 k2
 rcases hz with rfl | rfl
 all_goals
  go_enter Tryz.func231,Tryz.ntmps231
  go_wp2_with fail
  refine (value_any _ w0).mono ?_
  rintro e w2 ⟨rfl,hb2⟩
  have S2:Hid (OpdAt w2 (n+1)):=S0.out.below hb2
  have B2:Hid (Below n w w2):=B0.out.trans (hb2.mono (by omega))
  clear hb2 S0 B0 Z0 hw0
  simp only [trV]
  obtain ⟨c0,c1,c2,c3⟩:=S2.out.cells
  go_wp2
  obtain ⟨w3,hw3,hc3,hb3,-⟩:=opd_set S2.out 6 0 0
  rw [hw3]
  have r0:=Lib.cell_of_heap hc3 0
  have r1:=Lib.cell_of_heap hc3 1
  have r2:=Lib.cell_of_heap hc3 2
  refine bodyPost_ret (v:=.tuple #[trV (6,0,0),vz]) ?_ rfl ?_
  ·rw [← HZ.out]
   simp [results,Tryz.results231,go_sem,r0,r1,r2,trV]
  ·exact ⟨by rw [← HZ.out],by rw [HN.out];exact B2.out.trans (hb3.mono (by omega))⟩
theorem operand_m (p:Pat) (op:Int) (z:UInt8) (hz:z=110∨z=119) (w:World):Calls Tryz.prog 231 #[codeV p op,.string ⟨#[40,z,41]⟩] w
  fun e w'=>e=.returned (.tuple #[trV (7,0,0),.string ⟨#[z]⟩])∧Below w.heap.size w w':=by
 unfold codeV
 obtain ⟨w0,hw0,S0,B0,Z0,C0⟩:=code_start w p op
 obtain ⟨n,hn⟩:∃ n,w.heap.size=n:=⟨_,rfl⟩
 rw [hn] at S0 B0 Z0 C0
 have k0:=Lib.cell_of_heap C0 0
 have k1:=Lib.cell_of_heap C0 1
 have k2:=Lib.cell_of_heap C0 2
 obtain ⟨c0,c1,c2,c3⟩:=S0.cells
 have S0:=Lib.hid S0
 have B0:=Lib.hid B0
 have HN:=Lib.hid hn
 obtain ⟨vz,hvz⟩:∃ v,Value.string ⟨#[z]⟩=v:=⟨_,rfl⟩
 have HZ:Hid (Value.string ⟨#[z]⟩=vz):=hvz
 clear hvz
 rcases hz with rfl | rfl
 all_goals
  go_enter Tryz.func231,Tryz.ntmps231
  go_wp2
  obtain ⟨w1,hw1⟩:∃ w1,w0.drew=w1:=⟨_,rfl⟩
  have S1:Hid (OpdAt w1 (n+1)):=by rw [← hw1];exact S0.out
  have B1:Hid (Below n w w1):=by rw [← hw1];exact B0.out.drew
  have Z1:w1.heap.size=n+2:=by rw [← hw1];exact Z0
  refine Mixed.wp_region_mixed (fun _=>True) 4 [(0,true),(1,true),(2,true),(3,false)] (by kernel_rfl) (by kernel_rfl) trivial ?_
  rw [hw1]
  clear S0 B0 C0 hw0 hw1 Z0 c0 c1 c2 c3 k0 k1 k2
  obtain ⟨c0,c1,c2,c3⟩:=S1.out.cells
  refine Mixed.wpMix_pure rfl (by kernel_rfl) (.agg #[.int .i64 7,.int .i64 0,.int .i64 0]) (fun w h=>by kernel_rfl) ?_
  refine Mixed.wpMix_move rfl (by kernel_rfl) _ rfl _ rfl ?_
  refine Mixed.wpMix_pure rfl (by kernel_rfl) vz (fun w h=>by rw [← HZ.out];kernel_rfl) ?_
  refine Mixed.wpMix_loudG rfl (by kernel_rfl) ?_
  go_wp2
  refine ⟨trivial,?_⟩
  simp only [Mixed.wpMix,List.drop_succ_cons,List.drop_zero]
  go_wp2
  obtain ⟨w3,hw3,hc3,hb3,-⟩:=opd_set S1.out 7 0 0
  rw [hw3]
  have r0:=Lib.cell_of_heap hc3 0
  have r1:=Lib.cell_of_heap hc3 1
  have r2:=Lib.cell_of_heap hc3 2
  refine bodyPost_ret (v:=.tuple #[trV (7,0,0),vz]) ?_ rfl ?_
  ·rw [← HZ.out]
   simp [results,Tryz.results231,go_sem,r0,r1,r2,trV]
  ·exact ⟨by rw [← HZ.out],by rw [HN.out];exact B1.out.trans (hb3.mono (by omega))⟩
def wordsAll:List Str:=[[101],[110],[119],[40,110,41],[40,119,41],[114],[115],[112],[113],[99],[107],[98],[116],[65],[68,69],[72,76],[83,80],[65,70],[65,70,39],[40,66,67,41],[40,68,69,41],[40,72,76,41],[40,83,80,41],[40,67,41],[73],[82],[48],[49],[50]]
theorem operand_fix (p:Pat) (op:Int) (word:Str) (hF:word∈wordsFx) (w:World):Calls Tryz.prog 231 #[codeV p op,.string (sB word)] w
  fun e w'=>e=.returned (.tuple #[trV (opT p op word).1,.string (sB (opT p op word).2)])∧Below w.heap.size w w':=by
 have e:opT p op word=(fixedT word,[]):=by
  unfold wordsFx at hF
  simp only [List.mem_cons,List.not_mem_nil,or_false] at hF
  rcases hF with rfl | rfl | rfl | rfl | rfl | rfl | rfl | rfl | rfl | rfl | rfl | rfl | rfl | rfl | rfl | rfl <;> rfl
 rw [e]
 refine operand_nil p op (sB word) ((word.headD 0).toNat:Int) (fixedT word) ?_ ?_ ?_ ?_ ?_ ?_ ?_ (fixed_any word hF) w
 all_goals
  unfold wordsFx at hF
  simp only [List.mem_cons,List.not_mem_nil,or_false] at hF
  rcases hF with rfl | rfl | rfl | rfl | rfl | rfl | rfl | rfl | rfl | rfl | rfl | rfl | rfl | rfl | rfl | rfl <;> first | exact fun _=>by kernel_rfl | kernel_rfl | decide
theorem operand_any (p:Pat) (hl:p.1.length=8) (op:Int) (h0:0≤op) (h1:op≤255) (word:Str) (hw:word∈wordsAll) (w:World):Calls Tryz.prog 231 #[codeV p op,.string (sB word)] w
  fun e w'=>e=.returned (.tuple #[trV (opT p op word).1,.string (sB (opT p op word).2)])∧Below w.heap.size w w':=by
 unfold wordsAll at hw
 simp only [List.mem_cons,List.not_mem_nil,or_false] at hw
 rcases hw with rfl | rfl | rfl | rfl | rfl | rfl | rfl | rfl | rfl | rfl | rfl | rfl | rfl | rfl | rfl | rfl | rfl | rfl | rfl | rfl | rfl | rfl | rfl | rfl | rfl | rfl | rfl | rfl | rfl
 ·exact operand_e p op w
 ·exact operand_n p op 110 (.inl rfl) w
 ·exact operand_n p op 119 (.inr rfl) w
 ·exact operand_m p op 110 (.inl rfl) w
 ·exact operand_m p op 119 (.inr rfl) w
 ·exact operand_read p op ⟨#[114]⟩ 114 _ (by kernel_rfl) (by kernel_rfl) (by kernel_rfl) (by kernel_rfl) (by kernel_rfl) (fun _=>by kernel_rfl) 255 (fun _ _=>by kernel_rfl) (by decide) (fun w=>cregister_any p hl op h0 h1 114 w) w
 ·exact operand_read p op ⟨#[115]⟩ 115 _ (by kernel_rfl) (by kernel_rfl) (by kernel_rfl) (by kernel_rfl) (by kernel_rfl) (fun _=>by kernel_rfl) 255 (fun _ _=>by kernel_rfl) (by decide) (fun w=>cregister_any p hl op h0 h1 115 w) w
 ·exact operand_read p op ⟨#[112]⟩ 112 _ (by kernel_rfl) (by kernel_rfl) (by kernel_rfl) (by kernel_rfl) (by kernel_rfl) (fun _=>by kernel_rfl) 256 (fun _ _=>by kernel_rfl) (by decide) (fun w=>cpair_any p hl op h0 h1 112 w) w
 ·exact operand_read p op ⟨#[113]⟩ 113 _ (by kernel_rfl) (by kernel_rfl) (by kernel_rfl) (by kernel_rfl) (by kernel_rfl) (fun _=>by kernel_rfl) 257 (fun _ _=>by kernel_rfl) (by decide) (fun w=>cpushed_any p hl op h0 h1 113 w) w
 ·exact operand_read p op ⟨#[99]⟩ 99 _ (by kernel_rfl) (by kernel_rfl) (by kernel_rfl) (by kernel_rfl) (by kernel_rfl) (fun _=>by kernel_rfl) 258 (fun _ _=>by kernel_rfl) (by decide) (fun w=>ccond_any p hl op h0 h1 99 w) w
 ·exact operand_read p op ⟨#[107]⟩ 107 _ (by kernel_rfl) (by kernel_rfl) (by kernel_rfl) (by kernel_rfl) (by kernel_rfl) (fun _=>by kernel_rfl) 258 (fun _ _=>by kernel_rfl) (by decide) (fun w=>ccond_any p hl op h0 h1 107 w) w
 ·exact operand_read p op ⟨#[98]⟩ 98 _ (by kernel_rfl) (by kernel_rfl) (by kernel_rfl) (by kernel_rfl) (by kernel_rfl) (fun _=>by kernel_rfl) 259 (fun _ _=>by kernel_rfl) (by decide) (fun w=>cbit_any p hl op h0 h1 98 w) w
 ·exact operand_read p op ⟨#[116]⟩ 116 _ (by kernel_rfl) (by kernel_rfl) (by kernel_rfl) (by kernel_rfl) (by kernel_rfl) (fun _=>by kernel_rfl) 260 (fun _ _=>by kernel_rfl) (by decide) (fun w=>crestart_any p hl op h0 h1 116 (numP_bd p.1 op h0 h1 116).1 (numP_bd p.1 op h0 h1 116).2 w) w
 all_goals exact operand_fix p op _ (by decide) w
end Go.Proofs.YtajlleeonddinaaGreatDoor
