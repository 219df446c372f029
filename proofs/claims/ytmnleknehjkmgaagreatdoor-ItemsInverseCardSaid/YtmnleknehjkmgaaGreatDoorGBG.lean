/-
  CoC, LpB, CoD, CoE, CoF, CoG, SeK.
-/
import Derived.Test.YtmnleknehjkmgaaGreatDoorMCoB
import Derived.Deep.OwnRows
import Derived.Deep.WholeRow
import Derived.KernelRfl
import Derived.Test.YtmnleknehjkmgaaGreatDoorGAB
import Derived.RangeFuncNested
import Derived.RangeFuncKeeps
import Derived.RangeFuncLeaves
import Derived.Test.YtmnleknehjkmgaaGreatDoorGBE
import Derived.Test.YtmnleknehjkmgaaGreatDoorGAC
import Derived.Test.YtmnleknehjkmgaaGreatDoorGAI
import Derived.Deep.CutBlock
import Derived.Test.YtmnleknehjkmgaaGreatDoorGAN
import Derived.Test.YtmnleknehjkmgaaGreatDoorGAE
import Derived.Test.YtmnleknehjkmgaaGreatDoorGAR
set_option linter.all false
set_option maxRecDepth 100000
set_option maxHeartbeats 4000000
namespace Go.Proofs.YtmnleknehjkmgaaGreatDoor
open Go.RowKit Go.Shelf
attribute [local go_sem] Oper.semAt_some
def patV (f:Nat→Pat) (i:Nat):Value:=.string (sB (if i % 2=0 then (f (i / 2)).1 else (f (i / 2)).2))
theorem patV_0 (f:Nat→Pat) (i:Nat):patV f (i*2)=.string (sB (f i).1):=by
 unfold patV
 rw [if_pos (by omega),show i*2 / 2=i by omega]
theorem patV_1 (f:Nat→Pat) (i:Nat):patV f (i*2+1)=.string (sB (f i).2):=by
 unfold patV
 rw [if_neg (by omega),show (i*2+1) / 2=i by omega]
def RowF (w:World) (b:Nat) (f:Nat→Pat):Prop:=w.rowIs b 166 512 (patV f)
theorem RowF.c0 {w:World} {b:Nat} {f:Nat→Pat} (h:RowF w b f) {i:Nat} (hi:i<256):w.cell? ⟨b,i*2,none⟩=some (.string (sB (f i).1)):=by
 rw [World.rowIs.cell h (by omega),patV_0]
theorem RowF.c1 {w:World} {b:Nat} {f:Nat→Pat} (h:RowF w b f) {i:Nat} (hi:i<256):w.cell? ⟨b,i*2+1,none⟩=some (.string (sB (f i).2)):=by
 rw [World.rowIs.cell h (by omega),patV_1]
theorem RowF.lt {w:World} {b:Nat} {f:Nat→Pat} (h:RowF w b f):b<w.heap.size:=World.rowIs.lt h
theorem RowF.block {w w':World} {b:Nat} {f:Nat→Pat} (h:RowF w b f) (e:w'.heap[b]?=w.heap[b]?):RowF w' b f:=World.rowIs.of_block h e
theorem RowF.congr {w:World} {b:Nat} {f g:Nat→Pat} (h:RowF w b f) (e:∀ i,i<256→f i=g i):RowF w b g:=World.rowIs.congr h fun i hi=>by
 unfold patV
 rw [e (i / 2) (by omega)]
theorem RowF.put {w:World} {b:Nat} {f:Nat→Pat} (h:RowF w b f) (i:Nat) (p:Pat):RowF ((w.setCell ⟨b,i*2,none⟩ (.string (sB p.1))).setCell ⟨b,i*2+1,none⟩ (.string (sB p.2))) b (fun j=>if j=i then p else f j):=
 World.rowIs.congr (World.rowIs.set (World.rowIs.set h (i*2) _) (i*2+1) _) fun j hj=>by
  unfold patV
  show (if j=i*2+1 then Value.string (sB p.2) else if j=i*2 then .string (sB p.1) else .string (sB (if j % 2=0 then (f (j / 2)).1 else (f (j / 2)).2)))=.string (sB (if j % 2=0 then (if j / 2=i then p else f (j / 2)).1 else (if j / 2=i then p else f (j / 2)).2))
  by_cases e:j / 2=i
  ·rw [if_pos e]
   by_cases e0:j % 2=0
   ·rw [if_neg (by omega),if_pos (by omega),if_pos e0]
   ·rw [if_pos (by omega),if_neg e0]
  ·rw [if_neg e,if_neg (by omega),if_neg (by omega)]
theorem info_row:(Tryz.prog.info? 166).map (fun i=>(i.zero,i.size))=some (some (.agg (Array.replicate 512 (.string ⟨#[]⟩))),512):=by kernel_rfl
theorem und_row:Tryz.prog.underlying 166=some (.array 256 140):=by kernel_rfl
theorem zero_row (w:World):(zeroValue 166).run Tryz.prog w=.ok (.agg (Array.replicate 512 (.string ⟨#[]⟩))) w:=(zero_of_info info_row).1 w
theorem new_row (w:World):RowF (w.alloc (.cells (Array.replicate 512 (.string ⟨#[]⟩)) 166)) w.heap.size (fstF []):=by
 have h:=World.rowIs_alloc w (Array.replicate 512 (.string ⟨#[]⟩)) 166 (patV (fstF [])) (fun i hi=>by
  rw [Array.size_replicate] at hi
  rw [Array.getElem?_replicate,if_pos hi]
  unfold patV fstF
  split <;> rfl)
 rwa [Array.size_replicate] at h
def rowA (f:Nat→Pat):Array Value:=((List.range 512).map (patV f)).toArray
theorem rowA_get (f:Nat→Pat) (j:Nat) (hj:j<512):(rowA f)[j]?=some (patV f j):=by
 unfold rowA
 rw [List.getElem?_toArray,List.getElem?_map,List.getElem?_range hj];rfl
theorem rowA_size (f:Nat→Pat):(rowA f).size=512:=by unfold rowA;simp
theorem load_row {w:World} {b:Nat} {f:Nat→Pat} (h:RowF w b f):(Instr.loadAt 166 (.pointer (some ⟨b,0,none⟩))).run Tryz.prog w=.ok (.agg (rowA f)) w:=by
 obtain ⟨c,hb,hn,hc⟩:=h
 have e:c=rowA f:=by
  apply Array.ext_getElem?
  intro i
  have hs:=rowA_size f
  by_cases hi:i<512
  ·rw [hc i hi,rowA_get f i hi]
  ·rw [Array.getElem?_eq_none (by omega),Array.getElem?_eq_none (by omega)]
 simp only [Instr.loadAt,Instr.sureAddr,Sem.run_bind,Sem.run_pure,Result.andThen]
 rw [← e]
 exact run_loadVar_row _ b 166 166 c (0,0) _ hb und_row rfl (by rw [hn];exact (zero_of_info info_row).2)
theorem rowA_two (f:Nat→Pat) (i:Nat) (hi:i<256):(rowA f).extract (i*2) (i*2+2)=#[.string (sB (f i).1),.string (sB (f i).2)]:=by
 have hs:=rowA_size f
 have hg:=rowA_get f
 apply Array.ext_getElem?
 intro j
 rw [Array.getElem?_extract]
 match j with
 | 0=>rw [if_pos (by omega),hg _ (by omega),Nat.add_zero,patV_0];rfl
 | 1=>rw [if_pos (by omega),hg _ (by omega),patV_1];rfl
 | j+2=>rw [if_neg (by omega)];rfl
theorem index_row (f:Nat→Pat) (i:Nat) (hi:i<256) (w:World):(Instr.index 166 (.agg (rowA f)) (.int .i64 (i:Int))).run Tryz.prog w=.ok (.agg #[.string (sB (f i).1),.string (sB (f i).2)]) w:=by
 have hz:(Tryz.prog.info? 140).map (fun i=>i.size)=some 2:=by kernel_rfl
 obtain ⟨inf,hinf,hsz⟩:∃ inf,Tryz.prog.info? 140=some inf∧inf.size=2:=by
  cases hq:Tryz.prog.info? 140 with
  | none=>rw [hq] at hz;cases hz
  | some i=>rw [hq] at hz;exact ⟨i,rfl,by simpa using hz⟩
 have hsize:∀ w,(Go.sizeOf 140).run Tryz.prog w=.ok 2 w:=fun w=>by simp [Go.sizeOf,typeInfo,hinf,hsz]
 have h0:0≤(i:Int)∧(i:Int)<((256:Nat):Int):=by omega
 have hx:=rowA_two f i hi
 have h1:¬256≤i:=by omega
 simp [Instr.index,run_underlying und_row,asIntOf,hi,h1,part,isAgg,hsize,hx,run_underlying Tryz.underlying140,go_sem]
end Go.Proofs.YtmnleknehjkmgaaGreatDoor
namespace Go.Each
open Go Go.RowKit
def GivesO {α:Type} (F:Fence) (n:Nat) (P:Program) (g:Nat) (lb:Array Value) (encs:α→Array Value) (E:α→World→Prop) (Kp:World→World→Prop) (S:List α→Prop) (N:Nat) (w:World):Prop:=
 ∀ (l:Nat) (J:List α→World→Prop) (W:World),Below w.heap.size w W→OwnFrom W.heap.size J→
  (∀ pre x W1,J pre W1→E x W1→pre.length<N→YieldAt F (n - 1) P l (encs x) W1 fun e W'=>e=.returned (.bool true)∧J (pre++[x]) W'∧Kp W1 W')→
  J [] W→CallsIn F n P g (#[.func (.yield l) #[] #[]]++lb) W fun e W'=>(∃ v,e=.returned v)∧∃ xs,S xs∧J xs W'
variable {F:Fence} {n:Nat} {P:Program}
theorem wpIn_eachO {α:Type} {g:Operand} {ps:Array Tmp} {assign body:Code} {Q:Exit→Act→World→Prop} {a:Act} {w:World} (hro:F.round=none) (h1:1≤n)
  {gf:Nat} {lb:Array Value} (hg:a.eval g=.func (.func gf) #[] lb) (hFg:F.fn gf) (eg:∀ args w,(callFunc gf args).run P w=.ok (.enter gf args) w)
  {encs:α→Array Value} {E:α→World→Prop} {Kp:World→World→Prop} {S:List α→Prop} {N:Nat} (hseq:GivesO F (n - 1) P gf lb encs E Kp S N w)
  (hKt:∀ {A B C:World},Kp A B→Kp B C→Kp A C) (hKb:∀ (W:World) (l:Nat) (r r':Loop),w.heap.size≤l→W.heap[l]?=some (.loop r)→Kp W (W.putObj l (.loop r'))) (hps:∀ x,(encs x).size=ps.size)
  (I:List α→World→Prop) (hI:OwnFrom w.heap.size I) (h0:I [] w) (Ax:α→Act→World→Prop) (hAx:∀ x,OwnFrom w.heap.size (Ax x))
  (hassign:∀ (l:Nat) (pre:List α) (x:α) (W:World) (K:Act→World→Prop),I pre W→E x W→(∀ a' W',KeepsFrom w.heap.size W W'→Kp W W'→I pre W'→Ax x a' W'→K a' W')→
   assign.wpIn (F.inRound l) (n - 1 - 1) P (Exit.then K (fun _ _ _=>False)) {tmps:=(ps.zip (encs x)).foldl (fun t (p,v)=>t.setIfInBounds p v) a.tmps,defers:=[]} W)
  (hbody:∀ (l:Nat) (pre:List α) (x:α) (a':Act) (W:World),I pre W→Ax x a' W→pre.length<N→body.wpIn (F.inRound l) (n - 1 - 1) P (goesOn fun W'=>KeepsFrom w.heap.size W W'∧Kp W W'∧I (pre++[x]) W') a' W)
  (hdone:∀ (D:Nat) (xs:List α) (W:World),w.heap.size≤D→S xs→I xs W→W.heap[D]?=some (.deferred (some []))→Q .normal {a with defers:={target:=.collected D,args:=#[]} :: a.defers} W) :
  (Code.rangeFunc g ps assign body).wpIn F n P Q a w:=by
 refine wpIn_rangeFunc fun fn hfn=>?_
 rw [hro]
 -- the loop's record,ready or busy;the block of the rounds' deferred calls lies in front of it
 let R:LoopState→Loop:=fun st=>{state:=st,pending:=none,fn:=fn,tmps:=a.tmps,params:=ps,assign:=assign,body:=body,defers:=w.heap.size}
 let B:World:=(w.alloc (.deferred (some []))).alloc (.loop (R .ready))
 have bD:B.heap[w.heap.size]?=some (.deferred (some [])):=(Below.heap_alloc _ _ _ (by simp)).trans (World.alloc_heap_new w _)
 have bL:B.heap[w.heap.size+1]?=some (.loop (R .ready)):=by
  have h:=World.alloc_heap_new (w.alloc (.deferred (some []))) (.loop (R .ready))
  rwa [World.size_alloc] at h
 have bI:I [] B:=hI.alloc _ (hI.alloc _ h0)
 have bB:Below w.heap.size w B:=((Below.refl _ w).alloc (Nat.le_refl _) _).alloc (by simp) _
 have bz:B.heap.size=w.heap.size+1+1:=by simp [B]
 refine ⟨w.heap.size+1,[{target:=.collected w.heap.size,args:=#[]}],B,{target:=.fn (.func gf) lb,args:=#[.func (.yield (w.heap.size+1)) #[] #[]]},B,gf,#[.func (.yield (w.heap.size+1)) #[] #[]]++lb,B,
  run_enterLoop_outer _ _ _ _ _,by simp only [resolve,hg];simp [go_sem],fun f' hf'=>by simp [Target.leads] at hf';subst hf';exact hFg,by simp [invoke,go_sem,eg],fun _=>h1,?_⟩
 -- what the caller keeps,the record and the block beside it
 refine (hseq (w.heap.size+1) (fun pre W=>I pre W∧W.heap[w.heap.size+1]?=some (.loop (R .ready))∧W.heap[w.heap.size]?=some (.deferred (some []))) B bB ?_ ?_ ⟨bI,bL,bD⟩).mono ?_
 ·rintro s X Y row ⟨s1,s2,s3⟩ hg' hr
  have hne:∀ k,k<B.heap.size→some k≠row:=fun k hk e=>by have:=(hr k e.symm).1;omega
  refine ⟨hI s X Y row s1 hg' fun r e=>?_,(hg'.block _ (Array.getElem?_eq_some_iff.1 s2).1 (hne _ (by omega))).trans s2,(hg'.block _ (Array.getElem?_eq_some_iff.1 s3).1 (hne _ (by omega))).trans s3⟩
  obtain ⟨k1,o,k2,k3⟩:=hr r e
  exact ⟨by omega,o,k2,k3⟩
 ·rintro pre x W ⟨s1,s2,s3⟩ hx hlen
  have hlt:w.heap.size+1<W.heap.size:=(Array.getElem?_eq_some_iff.1 s2).1
  refine ⟨fn,_,assign,body,run_yield (P:=P) (args:=encs x) s2 (hps x),roundIn_of_wpIn hfn (hassign _ pre x W _ s1 hx fun a' U u1 uK uI uA=>?_)⟩
  have u2:=u1.same _ _ (by omega) s2 rfl
  have u3:=u1.same _ _ (Nat.le_refl _) s3 rfl
  have hlu:w.heap.size+1<U.heap.size:=(Array.getElem?_eq_some_iff.1 u2).1
  refine ⟨_,run_beginRound u2 rfl,?_⟩
  obtain ⟨V,hV⟩:∃ V,U.putObj (w.heap.size+1) (.loop {R .ready with state:=.busy})=V:=⟨_,rfl⟩
  have v2:V.heap[w.heap.size+1]?=some (.loop {R .ready with state:=.busy}):=hV ▸ World.putObj_heap_same hlu
  have v3:V.heap[w.heap.size]?=some (.deferred (some [])):=hV ▸ (World.putObj_heap_other (by omega)).trans u3
  have vI:I pre V:=hV ▸ hI.putObj _ uI (by omega) u2 rfl
  have vE:Ax x a' V:=hV ▸ (hAx x).putObj _ uA (by omega) u2 rfl
  have vK:Kp W V:=hKt uK (hV ▸ hKb _ _ _ _ (by omega) u2)
  show body.wpIn _ _ _ _ _ (U.putObj (w.heap.size+1) (.loop {R .ready with state:=.busy}))
  rw [hV]
  refine wpIn_mono (hbody _ pre x a' V vI vE hlen) ?_
  rintro (_ | _ | _ | _ | _ | _) a3 Z hz
  case normal=>
   obtain ⟨z1,z2,z3⟩:=hz
   have l3:=z1.same _ _ (by omega) v2 rfl
   refine ⟨_,_,run_endRound (P:=P) none l3,rfl,⟨hI.putObj _ z3 (by omega) l3 rfl,World.putObj_heap_same (Array.getElem?_eq_some_iff.1 l3).1,(World.putObj_heap_other (by omega)).trans (z1.same _ _ (Nat.le_refl _) v3 rfl)⟩,hKt (hKt vK z2) (hKb _ _ _ _ (by omega) l3)⟩
  all_goals exact hz.elim
 ·rintro e Z ⟨⟨v,rfl⟩,xs,hS,z1,z2,z3⟩
  exact ⟨none,_,run_endLoop (P:=P) z2 (by simp [R]),hdone _ xs _ (Nat.le_refl _) hS (hI.putObj _ z1 (by omega) z2 rfl) ((World.putObj_heap_other (by omega)).trans z3)⟩
def marks (Ds:List Nat):List Deferred:=Ds.map fun D=>{target:=.collected D,args:=#[]}
theorem leaves_all {fn:Func} {tmps:Array Value} {R:Ending→World→Prop} (I:World→Prop) (ok:Nat→Prop) (hI:∀ w D,ok D→I w→w.heap[D]?=some (.deferred (some []))→I (w.putObj D (.deferred none))):∀ (Ds:List Nat) (w:World),Ds.Nodup→(∀ D∈Ds,ok D∧w.heap[D]?=some (.deferred (some [])))→I w→
  (∀ w',I w'→LeavesInM F n P fn tmps R [] .returning w')→LeavesInM F n P fn tmps R (marks Ds) .returning w
 | [],w,_,_,h,k=>k w h
 | D :: Ds,w,hnd,hD,h,k=>by
  obtain ⟨h0,h1⟩:=hD D (by simp)
  refine ⟨by simp,.inl ⟨D,_,rfl,run_takeDeferred h1,?_⟩⟩
  refine leaves_all I ok hI Ds _ (List.nodup_cons.1 hnd).2 (fun E hE=>⟨(hD E (List.mem_cons_of_mem _ hE)).1,?_⟩) (hI w D h0 h h1) k
  have hne:E≠D:=fun e=>(List.nodup_cons.1 hnd).1 (e ▸ hE)
  exact (World.putObj_heap_other (by omega)).trans (hD E (List.mem_cons_of_mem _ hE)).2
end Go.Each
namespace Go.Proofs.YtmnleknehjkmgaaGreatDoor
open Go.RowKit Go.Shelf
attribute [local go_sem] Oper.semAt_some
def KeepD (W W':World):Prop:=∀ (D:Nat) (o:Option (List Deferred)),W.heap[D]?=some (.deferred o)→W'.heap[D]?=some (.deferred o)
theorem KeepD.trans {A B C:World} (h:KeepD A B) (k:KeepD B C):KeepD A C:=fun D o e=>k D o (h D o e)
theorem KeepD.below {W W':World} (h:Below W.heap.size W W'):KeepD W W':=fun D o e=>(h.block D (Array.getElem?_eq_some_iff.1 e).1).trans e
def IsCode (ps:List Pat) (x:Pat×Int):Prop:=fstF ps x.2.toNat=x.1∧x.1.1≠[]∧0≤x.2∧x.2<256
theorem isCode_of {ps:List Pat} {k:Nat} (hk:k<256) (h:(fstF ps k).1≠[]):IsCode ps (fstF ps k,(k:Int)):=⟨rfl,h,by simp,by simp;omega⟩
theorem sB_nil_eq (l:Str):(sB l).toList.isEmpty=l.isEmpty:=by
 rw [ByteArray.toList_eq]
 cases l <;> rfl
theorem grown_set2 (X:World) (b i j:Nat) (u v:Value):X.grownBy ((X.setCell ⟨b,i,none⟩ u).setCell ⟨b,j,none⟩ v) (some b):=
 ⟨rfl,rfl,rfl,by simp,fun k hk e=>(heap_setCell_other _ ⟨b,j,none⟩ k v (by simpa using e)).trans (heap_setCell_other _ ⟨b,i,none⟩ k u (by simpa using e))⟩
theorem loadR {P:Program} {w:World} {t:TypeId} {x:Operand} {p v:Value} {ops:Array Oper} {rest:List Oper} {o:Oper} {a:Act} {Q:Exit→Act→World→Prop} (h1:(Instr.loadAt t p).run P w=.ok v w) (hgd:o.guard=none)
  (ho:o.op=.load t x) (hx:a.eval x=p) (hk:wpList P ops Q rest (a.put o.dst v) w):wpList P ops Q (o :: rest) a w:=by
 refine wpList_plain hgd fun K hK=>?_
 unfold Oper.wp
 simp [execOp,ho,hx,h1,Result.andThen]
 exact hK _ _ hk
theorem fst_pre {ps pre:List Pat} {x:Pat} (hps:∀ p∈ps,p∈mainP++cbP++edP) (h:pre++[x] <+: ps):x∈mainP++cbP++edP∧∀ q∈pre,q∈mainP++cbP++edP:=
 ⟨hps _ (h.subset (by simp)),fun q hq=>hps _ (h.subset (List.mem_append_left _ hq))⟩
def InvO (n0:Nat) (W:World) (pre:List Pat) (X:World):Prop:=Below n0 W X∧n0+2≤X.heap.size∧RowF X n0 (fstF pre)
theorem InvO.own {n0:Nat} {W X Y:World} {pre:List Pat} {row:Option Nat} (h:InvO n0 W pre X) (hg:X.grownBy Y row) (hr:∀ r,row=some r→n0+1≤r):InvO n0 W pre Y:=
 ⟨h.1.grown hg (by have:=h.2.1;omega) fun r e=>by have:=hr r e;omega,Nat.le_trans h.2.1 hg.size,h.2.2.block (hg.block n0 h.2.2.lt fun e=>by have:=hr _ e.symm;omega)⟩
theorem codesK_len (ps:List Pat):∀ k,(codesK ps k).length≤k
 | 0=>Nat.le_refl _
 | k+1=>by
  have h:=codesK_len ps k
  unfold codesK
  split
  ·omega
  ·rw [List.length_append];simp;omega
theorem codes1_gives (n:Nat) (Bs:Nat) (l:Str) (hl:l.length≤100000) (hps:∀ p∈patsOf l,p∈mainP++cbP++edP) (w:World) (hs:Boxed w Bs 9 (.string (sB l))) (hM:MaxAt w) :
  Each.GivesO Fence.wide n Tryz.prog 96 #[.pointer (some ⟨Bs,0,none⟩)] (fun x:Pat×Int=>#[codeV x.1 x.2]) (fun x _=>IsCode (patsOf l) x) KeepD (fun xs=>xs=codesK (patsOf l) 256) 256 w:=fun lp J W hW hJ hY h0=>by
 have hJb:∀ (z:List (Pat×Int)) (X Y:World),J z X→Below X.heap.size X Y→J z Y:=fun z X Y h hb=>hJ z X Y none h ⟨hb.os,hb.tape,hb.output,hb.size,fun i hi _=>hb.block i hi⟩ (fun r e=>by cases e)
 have kb:Boxed W Bs 9 (.string (sB l)):=(hW.block Bs hs.lt).trans hs
 have hM1:MaxAt W:=hM.below hW
 obtain ⟨n0,hn⟩:∃ z,W.heap.size=z:=⟨_,rfl⟩
 have hgn:0 < n0:=by rw [← hn];exact hM1.lt
 have hz:=zero_row W
 obtain ⟨w0,hw0⟩:∃ w0,W.alloc (.cells (Array.replicate 512 (.string ⟨#[]⟩)) 166)=w0:=⟨_,rfl⟩
 have R0:RowF w0 n0 (fstF []):=by rw [← hw0,← hn];exact new_row W
 have b0:Below n0 W w0:=by rw [← hw0,← hn];exact (Below.refl _ _).alloc (Nat.le_refl _) _
 have z0:w0.heap.size=n0+1:=by rw [← hw0,← hn];simp
 have kb0:Boxed w0 Bs 9 (.string (sB l)):=by rw [← hw0];exact kb.alloc _
 have p0:=kb0.cell
 have hM0:MaxAt w0:=hM1.below (by rw [hn];exact b0)
 have hpt:=patterns_any l w0
 rw [z0] at hpt
 have HY:=Lib.hid hY
 have HJb:=Lib.hid hJb
 have HJd:Hid (∀ (z:List (Pat×Int)) (X:World) (D:Nat) (o:Option (List Deferred)),J z X→n0≤D→X.heap[D]?=some (.deferred o)→J z (X.putObj D (.deferred none))):=fun z X D o h hD hX=>hJ z X _ (some D) h (grownBy_putObj' X D _) (fun r e=>by cases e;exact ⟨by omega,_,hX,rfl⟩)
 have J0:=Lib.hid h0
 have HPS:=Lib.hid hps
 have hn0:=Lib.hid hn
 clear h0 hY hJb hJ hW hM hs kb hM1 kb0
 refine callsIn_wide.2 (callsIn_wide.1 (callsIn_of_wp_marks (n:=6) Tryz.func96 rfl trivial ?_ rfl))
 simp only [Tryz.ntmps96,List.size_toArray,List.length_cons,List.length_nil,Nat.reduceAdd,Nat.reduceSub,Array.replicate_succ,Array.replicate_zero,List.push_toArray,List.append_toArray,List.nil_append,List.cons_append]
 refine wpIn_wide.2 ?_
 go_wp2_with fail
 refine hpt.mono ?_
 rintro e W0 ⟨rfl,hW0⟩
 have hs1:Boxed W0 (n0+1) 9 (.string (sB l)):=by
  have h:=Boxed.new w0 9 (.string (sB l))
  rw [hW0,z0] at h
  exact h
 have zW:W0.heap.size=n0+1+1:=by rw [← hW0];simp;omega
 have bW:Below w0.heap.size w0 W0:=by rw [← hW0];exact (Below.refl _ _).alloc (Nat.le_refl _) _
 have bN:Below n0 W W0:=b0.trans (bW.mono (by omega))
 have R1:RowF W0 n0 (fstF []):=R0.block (bW.block n0 (by omega))
 have hMW:MaxAt W0:=hM0.below bW
 have hseq:=patterns1_tells 5 (n0+1) l hl W0 hs1 hMW
 have HM:=Lib.hid hMW
 have I0:Hid (InvO n0 W [] W0):=⟨bN,by omega,R1⟩
 clear R0 b0 p0 hM0 hpt hs1 bW bN R1 hMW hw0 hW0 z0 hz hl w0
 go_wp2_with fail
 refine wpIn_wide.1 (Stops.wpIn_tellsH (F:=Fence.wide) (n:=6) rfl (by omega) (gf:=131) (lb:=#[.pointer (some ⟨n0+1,0,none⟩)]) rfl trivial (enters_of Tryz.func131 (by kernel_rfl) rfl)
  hseq (by omega) (fun h k=>h.trans k) (fun W l o o' hl _ _=>keepM_put HM.out W l o' (by omega)) (fun _=>rfl)
  (InvO n0 W) (fun _ _=>False)
  (fun s X Y row h hg hr=>h.own hg fun r e=>by have:=(hr r e).1;omega)
  (fun s X Y h hg=>h.own hg fun r e=>by cases e;omega)
  (fun s X Y row h hg hr=>h.elim)
  I0.out
  (fun x a' W1=>∃ b,n0+2≤b∧W1.heap[b]?=some (.cells #[.string (sB x.1),.string (sB x.2)] 140 (0,0))∧a'={tmps:=#[.func (.yield lp) #[] #[],.pointer (some ⟨Bs,0,none⟩),undef,.pointer (some ⟨n0,0,none⟩),.pointer (some ⟨b,0,none⟩),undef,undef,undef,.string (sB l),.func (.func 131) #[] #[.pointer (some ⟨n0+1,0,none⟩)],.agg #[.string (sB x.1),.string (sB x.2)],undef,undef,undef,undef,undef,undef,undef,undef,undef,undef,undef,undef,undef,undef,undef,undef,undef,undef,undef,undef,undef,undef,undef,undef,undef,undef,undef,undef,undef],defers:=[]})
  (fun x s X Y row h hg hr=>by
   obtain ⟨b,h1,h2,h3⟩:=h
   exact ⟨b,h1,(grownBy_keeps_cells hg (fun r e=>(hr r e).2) h2 rfl).trans h2,h3⟩)
  ?assign ?body ?done (fun _ _ _ _ h=>h.elim))
 case assign=>
  rintro lq pre x W1 K hI hE hK
  have hsz:=hI.2.1
  gi_wp2
  refine hK _ _ ((KeepsOthers.alloc _ _).from _) (keepM_below ((Below.refl n0 W1).alloc (by omega) _) hgn) ⟨hI.1.alloc (by omega) _,by simp;omega,World.rowIs.alloc hI.2.2 _⟩ ⟨W1.heap.size,by omega,World.alloc_heap_new W1 _,rfl⟩
 case body=>
  rintro lq pre x a' W1 hlq ⟨r1,hr1⟩ hI ⟨b,hb,hc,rfl⟩ hpre
  have HP:=Lib.hid (fst_pre HPS.out hpre)
  have hmem:=HP.out.1
  have hfit:=ops_fit x hmem
  have h8:=(pats_small x hmem).1
  have q0:=Lib.cell_of_heap hc 0
  have q1:=Lib.cell_of_heap hc 1
  have HC:=Lib.hid hc
  have HI:=Lib.hid hI
  have hi8:=opcodes_gives 3 x h8 hfit.1 W1
  have hbl:b<W1.heap.size:=(Array.getElem?_eq_some_iff.1 hc).1
  have hW1:n0+2≤W1.heap.size:=hI.2.1
  have HR:=Lib.hid hr1
  have HE:=Lib.hid hpre
  clear hfit h8 hmem hc hI hpre hr1
  gi_wp2_with fail
  refine Each.wpIn_eachN (F:=Fence.wide.inRound lq) (n:=6 - 1 - 1) rfl HR.out (by omega) (gf:=98) (ba:=#[.agg #[.string (sB x.1),.string (sB x.2)]]) (lb:=#[]) rfl trivial (enters_of Tryz.func98 (by kernel_rfl) rfl)
   (N:=256) (fun lp2 J2 W2 h1 h2 h3 h4=>(hi8 lp2 J2 W2 h1 h2 h3 h4).inRound lq) (fun _ _=>trivial) (fun _ _ _ _ _ _ _=>trivial) (fun _=>rfl)
   (fun xs X=>W1.grownBy X (some n0)∧RowF X n0 (mkF pre x xs))
   (fun s X Y row h hg hr=>⟨h.1.andThen hg fun j e=>.inl (hr j e).1,h.2.block (hg.block n0 h.2.lt fun e=>by have:=(hr _ e.symm).1;omega)⟩)
   ⟨World.grownBy.refl _ _,HI.out.2.2.congr fun i _=>(mkF_nil pre x i).symm⟩
   (fun y a' X=>(0≤y∧y≤255)∧a'={tmps:=#[.func (.yield lp) #[] #[],.pointer (some ⟨Bs,0,none⟩),undef,.pointer (some ⟨n0,0,none⟩),.pointer (some ⟨b,0,none⟩),.int .u8 y,undef,undef,.string (sB l),.func (.func 131) #[] #[.pointer (some ⟨n0+1,0,none⟩)],.agg #[.string (sB x.1),.string (sB x.2)],.agg #[.string (sB x.1),.string (sB x.2)],.func (.func 98) #[.agg #[.string (sB x.1),.string (sB x.2)]] #[],.int .u8 y,undef,undef,undef,undef,undef,undef,undef,undef,undef,undef,undef,undef,undef,undef,undef,undef,undef,undef,undef,undef,undef,undef,undef,undef,undef,undef],defers:=[]})
   (fun x s X Y row h hg hr=>h)
   ?assign2 ?body2 ?done2
  case assign2=>
   rintro lr xs y X K hX hy hK
   gi_wp2
   exact hK _ _ (KeepsFrom.refl _ _) trivial hX ⟨hy,rfl⟩
  case body2=>
   rintro lr xs y a' X ⟨g1,g2⟩ ⟨⟨y0,y1⟩,rfl⟩ hlen
   obtain ⟨yn,rfl⟩:∃ z:Nat,y=(z:Int):=⟨y.toNat,by omega⟩
   have hyn:yn<256:=by omega
   have e0:=g2.c0 hyn
   have f0:=World.rowIs.frozen g2 (yn*2)
   have f1:=World.rowIs.frozen g2 (yn*2+1)
   have e1:=g2.c1 hyn
   have HCX:=(g1.block b hbl (by simp;omega)).trans HC.out
   have k0:=Lib.cell_of_heap HCX 0
   have k1:=Lib.cell_of_heap HCX 1
   have hem:=sB_nil_eq (mkF pre x xs yn).1
   have G1:=Lib.hid g1
   have G2:=Lib.hid g2
   have bne:b≠n0:=by omega
   have KF:Hid (∀ Z,W1.grownBy Z (some n0)→X.grownBy Z (some n0)→KeepsFrom W1.heap.size X Z):=fun Z h1 h2=>⟨h2.size,fun k o hk hk2 _=>(h2.block k (Array.getElem?_eq_some_iff.1 hk2).1 (by simp;omega)).trans hk2⟩
   clear g1 g2 HCX y0 y1 hlen
   by_cases hemp:(mkF pre x xs yn).1=[]
   ·rw [hemp] at hem e0
    rw [List.isEmpty_nil] at hem
    have P:Hid (RowF ((X.setCell ⟨n0,yn*2,none⟩ (.string (sB x.1))).setCell ⟨n0,yn*2+1,none⟩ (.string (sB x.2))) n0 (mkF pre x (xs++[(yn:Int)]))):=
     (G2.out.put yn x).congr fun i hi=>(mkF_put pre x xs yn hemp i).symm
    clear hemp
    gi_wp2
    have hg:X.grownBy ((X.setCell ⟨n0,yn*2,none⟩ (.string (sB x.1))).setCell ⟨n0,yn*2+1,none⟩ (.string (sB x.2))) (some n0):=grown_set2 _ _ _ _ _ _
    exact ⟨KF.out _ (G1.out.trans hg) hg,trivial,G1.out.trans hg,P.out⟩
   ·rw [List.isEmpty_eq_false_iff.2 hemp] at hem
    have P:Hid (RowF X n0 (mkF pre x (xs++[(yn:Int)]))):=G2.out.congr fun i hi=>(mkF_skip pre x xs yn hemp i).symm
    clear hemp
    gi_wp2
    exact ⟨KF.out _ G1.out (World.grownBy.refl _ _),trivial,G1.out,P.out⟩
  case done2=>
   rintro xs X hxs ⟨g1,g2⟩
   rw [show xs=opsP x from hxs] at g2
   have P:InvO n0 W (pre++[x]) X:=⟨HI.out.1.trans ((Below.refl n0 W1).grown g1 (by omega) fun r e=>by cases e;omega),by have:=g1.size;omega,g2.congr fun i hi=>fst_snoc pre x HP.out.1 HP.out.2 i hi⟩
   have Q:KeepsFrom (n0+2) W1 X:=⟨g1.size,fun k o hk hk2 _=>(g1.block k (Array.getElem?_eq_some_iff.1 hk2).1 (by simp;omega)).trans hk2⟩
   have M:KeepM W1 X:=World.cell?_of_block (g1.block _ (by show 0 < _;omega) (by simp;omega))
   have PQ:=Lib.hid (And.intro Q (And.intro M P))
   clear g1 g2 P Q M
   gi_wp2
   rw [show W0.heap.size=n0+2 by omega]
   exact PQ.out
 case done=>
  rintro D xs W2 hD hxs hI hK
  rw [show xs=patsOf l from hxs] at hI
  have hld:=load_row hI.2.2
  have J2:=Lib.hid (HJb.out _ _ _ J0.out (by rw [hn];exact hI.1))
  have DK:=Lib.hid hK
  have HD:Hid (n0+2≤D):=by show _≤_;omega
  have HI:=Lib.hid hI
  obtain ⟨f,hf⟩:∃ f,fstF (patsOf l)=f:=⟨_,rfl⟩
  have HF:=Lib.hid hf
  rw [hf] at hld
  clear hK hD hI hxs hf hseq HM
  go_wp2_with (refine loadR hld rfl rfl rfl ?_)
  go_loopw [23] (fun r wr=>∃ j:Nat,r=.int .i64 (j:Int)∧j≤256∧Hid (J (codesK (patsOf l) j) wr)∧Hid (wr.heap[D]?=some (.deferred (some [])))) (fun r _=>256 - (intOf r).toNat)
  case atStart=>exact ⟨0,rfl,by omega,J2.out,DK.out⟩
  case round=>
   clear J2 DK hld
   obtain ⟨j,rfl,hj,JJ,DD⟩:=hrel
   by_cases hj2:j=256
   ·subst hj2
    clear hj
    go_wp2
    refine ⟨by simp,.inl ⟨_,_,rfl,run_takeDeferred DD.out,?_⟩⟩
    refine ⟨.tuple #[],by simp [results,Tryz.results96,go_sem],⟨_,rfl⟩,_,rfl,HJd.out _ _ _ _ JJ.out (by have:=HD.out;omega) DD.out⟩
   ·have hj3:j<256:=by omega
    have hij:(j:Int)<256:=by omega
    have hix:=index_row f j hj3
    have hwr:IntKind.u8.wrap (j:Int)=(j:Int):=by show (j:Int) % 256=_;omega
    have hem:=sB_nil_eq (f j).1
    have HJ3:=Lib.hid hj3
    clear hj2 hj hj3
    by_cases hemp:(f j).1=[]
    ·rw [hemp] at hem hix
     rw [List.isEmpty_nil] at hem
     have P:Hid (codesK (patsOf l) (j+1)=codesK (patsOf l) j):=by
      show codesK _ (j+1)=_
      rw [codesK,HF.out,if_pos hemp]
     clear hemp
     go_wp2
     refine ⟨⟨j+1,by simp,by have:=HJ3.out;omega,?_,(Below.heap_alloc _ _ _ (Array.getElem?_eq_some_iff.1 DD.out).1).trans DD.out⟩,?_⟩
     ·show J _ _
      rw [P.out]
      exact HJb.out _ _ _ JJ.out ((Below.refl _ _).alloc (Nat.le_refl _) _)
     ·show 256 - ((j:Int)+1).toNat<256 - (j:Int).toNat
      have:=HJ3.out
      omega
    ·rw [List.isEmpty_eq_false_iff.2 hemp] at hem
     have P:Hid (codesK (patsOf l) (j+1)=codesK (patsOf l) j++[(f j,(j:Int))]):=by
      show codesK _ (j+1)=_
      rw [codesK,HF.out,if_neg hemp]
     have IC:Hid (IsCode (patsOf l) (f j,(j:Int))):=by
      have h:=isCode_of (ps:=patsOf l) HJ3.out (by rw [HF.out];exact hemp)
      rw [HF.out] at h
      exact h
     obtain ⟨wa,hwa⟩:∃ wa,wr.alloc (.cells #[.string (sB (f j).1),.string (sB (f j).2)] 140)=wa:=⟨_,rfl⟩
     have hca:wa.heap[wr.heap.size]?=some (.cells #[.string (sB (f j).1),.string (sB (f j).2)] 140 (0,0)):=by rw [← hwa];exact World.alloc_heap_new wr _
     have q0:=Lib.cell_of_heap hca 0
     have q1:=Lib.cell_of_heap hca 1
     have DA:Hid (wa.heap[D]?=some (.deferred (some []))):=by rw [← hwa];exact (Below.heap_alloc _ _ _ (Array.getElem?_eq_some_iff.1 DD.out).1).trans DD.out
     have hyd:=HY.out (codesK (patsOf l) j) (f j,(j:Int)) wa (by rw [← hwa];exact HJb.out _ _ _ JJ.out ((Below.refl _ _).alloc (Nat.le_refl _) _)) IC.out (Nat.lt_of_le_of_lt (codesK_len _ _) HJ3.out)
     obtain ⟨fn,tmps,assign,body,hy,hR⟩:=hyd
     simp only [codeV] at hy
     clear hemp IC JJ DD hca
     go_upto_region 10 with fail
     refine (wpIn_wide (n:=n)).1 ?_
     gi_wp2
     refine ⟨fun h=>(by cases h),hR.mono ?_⟩
     rintro e3 W3 ⟨rfl,hJ3,hk3⟩
     have J3:=Lib.hid hJ3
     have D3:=Lib.hid (hk3 D _ DA.out)
     clear hJ3 hk3 hR hy
     gi_wp2
     go_wp2
     refine ⟨⟨j+1,by simp,by have:=HJ3.out;omega,?_,D3.out⟩,?_⟩
     ·show J _ _
      rw [P.out]
      exact J3.out
     ·show 256 - ((j:Int)+1).toNat<256 - (j:Int).toNat
      have:=HJ3.out
      omega
end Go.Proofs.YtmnleknehjkmgaaGreatDoor
namespace Go.Proofs.YtmnleknehjkmgaaGreatDoor
open Go.RowKit Go.Shelf
attribute [local go_sem] Oper.semAt_some
theorem codes_any (l:Str) (w:World) :
  Calls Tryz.prog 73 #[.string (sB l)] w fun e w'=>e=.returned (.func (.func 96) #[] #[.pointer (some ⟨w.heap.size,0,none⟩)])∧w.alloc (.cells #[.string (sB l)] 9)=w':=by
 go_enter Tryz.func73,Tryz.ntmps73
 go_wp2
 go_ret
 exact ⟨rfl,rfl⟩
theorem mnemonic_any (p:Pat) (op:Int) (G:Good p op) (w:World) (hM:MaxAt w) :
  Calls Tryz.prog 75 #[codeV p op] w fun e w'=>e=.returned (.string (sB (wordsT p op).1))∧Below w.heap.size w w':=by
 have hw:=fun w' (h:MaxAt w')=>words_any p G.len (by have:=G.form;omega) op G.op0 G.op1 G.na G.no w' h
 unfold codeV at hw ⊢
 have hb:=up_alloc w (.cells #[.string (sB p.1),.string (sB p.2),.int .u8 op] 142)
 have hw:=hw _ (hM.below hb)
 have HB:=Lib.hid hb
 clear hM hb G
 go_enter Tryz.func75,Tryz.ntmps75
 go_wp2_with fail
 refine hw.mono ?_
 rintro e w' ⟨rfl,hb2⟩
 have HB2:Hid (Below w.heap.size w w'):=HB.out.trans (hb2.mono (by simp))
 clear hw hb2
 go_wp2
 go_ret
 exact ⟨rfl,HB2.out⟩
theorem sB_eq_dec (a b:Str):((sB a).toList == (sB b).toList)=decide (a=b):=by
 rw [ByteArray.toList_eq,ByteArray.toList_eq]
 show (a == b)=_
 by_cases h:a=b
 ·rw [h,decide_eq_true rfl]
  exact beq_self_eq_true _
 ·rw [decide_eq_false h]
  exact beq_false_of_ne h
theorem wantOne_any (m op:Str) (Bo:Nat) (w:World) (hb:Boxed w Bo 9 (.string (sB op))):Calls Tryz.prog 52 #[.string (sB m),.pointer (some ⟨Bo,0,none⟩)] w fun e w'=>e=.returned (.bool (decide (m=op)))∧w'=w:=by
 have hc:=hb.cell
 rw [← sB_eq_dec]
 go_enter Tryz.func52,Tryz.ntmps52
 go_wp2
 go_ret
 exact ⟨rfl,rfl⟩
def keyE (page op:Int):Option En→List Ke
 | some y=>[(page,op,y.1,y.2.1,y.2.2.1,y.2.2.2)]
 | none=>[]
def keyC (wnt:Str→Bool) (page:Int) (x:Pat×Int):List Ke:=if wnt (wordsT x.1 x.2).1=true then keyE page x.2 (entryT x.1 page x.2) else []
def keysC (wnt:Str→Bool) (page:Int) (xs:List (Pat×Int)):List Ke:=xs.flatMap (keyC wnt page)
theorem keysC_snoc (wnt:Str→Bool) (page:Int) (xs:List (Pat×Int)) (x:Pat×Int):keysC wnt page (xs++[x])=keysC wnt page xs++keyC wnt page x:=by
 unfold keysC
 rw [List.flatMap_append]
 simp
def keysPg (wnt:Str→Bool) (page:Int):List Ke:=keysC wnt page (codesK (patsOf (listS page)) 256)
def keysAll (wnt:Str→Bool) (pages:List Int):List Ke:=pages.flatMap (keysPg wnt)
theorem keysAll_snoc (wnt:Str→Bool) (xs:List Int) (x:Int):keysAll wnt (xs++[x])=keysAll wnt xs++keysPg wnt x:=by
 unfold keysAll
 rw [List.flatMap_append]
 simp
def IntsP (w:World) (A:Option Addr) (L:List Int):Prop:=L=[]∨∃ b off,A=some ⟨b,off,none⟩∧∀ k (h:k<L.length),w.cell? ⟨b,off+k,none⟩=some (.int .i64 L[k])
theorem IntsP.below {w w':World} {A:Option Addr} {L:List Int} (h:IntsP w A L) (hb:Below w.heap.size w w'):IntsP w' A L:=by
 rcases h with rfl | ⟨b,off,rfl,hc⟩
 ·exact .inl rfl
 ·exact .inr ⟨b,off,rfl,fun k hk=>(hb.cell (World.block_lt_of_cell? w _ (hc k hk))).trans (hc k hk)⟩
theorem fst_mem {ps:List Pat} {i:Nat} (h:(fstF ps i).1≠[]):fstF ps i∈ps:=by
 unfold fstF at h ⊢
 cases hf:ps.find? fun p=>fitsP p.1 (i:Int) with
 | none=>rw [hf] at h;exact absurd rfl h
 | some q=>exact List.mem_of_find?_eq_some hf
theorem isCode_mem {ps:List Pat} {x:Pat×Int} (h:IsCode ps x):x.1∈ps:=by
 rw [← h.1]
 exact fst_mem (by rw [h.1];exact h.2.1)
theorem pages_ok (page:Int):∀ p∈patsOf (listS page),p∈mainP++cbP++edP:=fun p hp=>by
 rw [patsOf_page] at hp
 exact page_mem hp
end Go.Proofs.YtmnleknehjkmgaaGreatDoor
namespace Go.Proofs.YtmnleknehjkmgaaGreatDoor
open Go.RowKit Go.Shelf
attribute [local go_sem] Oper.semAt_some
attribute [local irreducible] Go.Mixed.wpMix
def RetXT (w:World) (K:List Ke) (e:Ending) (w':World):Prop:=∃ A cap R,e=.returned (.slice A R.length cap)∧OwnXT w' w.heap.size (.slice A R.length cap) R∧R.map Ee.k=K∧Below w.heap.size w w'
def pagesL (L:List Int):List Int:=if L=[] then [0,1,2,3,4,5,6] else L
theorem ints7 (w:World):IntsP (w.alloc (.cells #[.int .i64 0,.int .i64 1,.int .i64 2,.int .i64 3,.int .i64 4,.int .i64 5,.int .i64 6] 3)) (some ⟨w.heap.size,0,none⟩) [0,1,2,3,4,5,6]:=by
 refine .inr ⟨_,_,rfl,fun k hk=>?_⟩
 rw [Nat.zero_add,Lib.cell_of_heap (heap_alloc_new w _)]
 have h:k<7:=hk
 rcases (by omega:k=0∨k=1∨k=2∨k=3∨k=4∨k=5∨k=6) with rfl | rfl | rfl | rfl | rfl | rfl | rfl <;> rfl
theorem OwnXT.grown {X Y:World} {n:Nat} {v:Value} {R:List Ee} {row:Option Nat} (h:OwnXT X n v R) (hg:X.grownBy Y row) (hr:∀ r,row=some r→∃ o:Obj,X.heap[r]?=some o∧o.isCells=false):OwnXT Y n v R:=by
 have ne:∀ (u:Value) (T:TypeId) (k m:Nat) (C:List Value),X.ownsRow n T k u m C→u.ownBlock=none∨u.ownBlock≠row:=fun u T k m C ho=>by
  cases e:u.ownBlock with
  | none=>exact .inl rfl
  | some q=>
   refine .inr fun e'=>?_
   obtain ⟨o,h1,h2⟩:=hr q e'.symm
   rcases ho.2 with ⟨rfl,_⟩ | ⟨g',cap,cur',rfl,_,hg',_⟩
   ·simp [Value.ownBlock] at e
   ·simp only [Value.ownBlock,Option.some.injEq] at e
    subst e
    rw [hg'] at h1
    cases h1
    cases h2
 exact ⟨World.ownsRow.kept h.1 hg (ne _ _ _ _ _ h.1),fun r hr'=>World.ownsRow.kept (h.2 r hr') hg (ne _ _ _ _ _ (h.2 r hr'))⟩
theorem keyC_len (wnt:Str→Bool) (page:Int) (x:Pat×Int):(keyC wnt page x).length≤1:=by
 unfold keyC
 split
 ·unfold keyE
  split <;> simp
 ·simp
theorem keysC_len (wnt:Str→Bool) (page:Int):∀ xs:List (Pat×Int),(keysC wnt page xs).length≤xs.length
 | []=>Nat.le_refl _
 | x :: t=>by
  have h:=keysC_len wnt page t
  have h2:=keyC_len wnt page x
  show (keyC wnt page x++keysC wnt page t).length≤t.length+1
  rw [List.length_append]
  omega
theorem keysAll_len (wnt:Str→Bool):∀ ps:List Int,(keysAll wnt ps).length≤256*ps.length
 | []=>Nat.le_refl _
 | x :: t=>by
  have h:=keysAll_len wnt t
  have h2:=Nat.le_trans (keysC_len wnt x (codesK (patsOf (listS x)) 256)) (codesK_len _ _)
  show (keysPg wnt x++keysAll wnt t).length≤256*(t.length+1)
  rw [List.length_append]
  unfold keysPg
  omega
def CInv (w2:World) (q:Nat) (Ds:List Nat) (K:List Ke) (X:World):Prop:=
 ∃ A5 c5 R,Boxed X q 82 (.slice A5 R.length c5)∧OwnXT X (q+1) (.slice A5 R.length c5) R∧R.map Ee.k=K∧Below q w2 X∧q+1≤X.heap.size∧∀ D∈Ds,X.heap[D]?=some (.deferred (some []))
theorem CInv.own {w2 X Y:World} {q:Nat} {Ds:List Nat} {K:List Ke} {row:Option Nat} (h:CInv w2 q Ds K X) (hq:q≤w2.heap.size) (hg:X.grownBy Y row) (hr:∀ r,row=some r→q<r∧r∉Ds∧∃ o:Obj,X.heap[r]?=some o∧o.isCells=false):CInv w2 q Ds K Y:=by
 obtain ⟨A5,c5,R,h1,h2,h3,h4,h5,h6⟩:=h
 refine ⟨A5,c5,R,h1.kept hg fun e=>?_,h2.grown hg fun r e=>(hr r e).2.2,h3,h4.grown hg (by have:=h4.size;omega) fun r e=>by have:=(hr r e).1;omega,Nat.le_trans h5 hg.size,fun D hD=>?_⟩
 ·have:=(hr q e.symm).1;omega
 ·refine (hg.block D (Array.getElem?_eq_some_iff.1 (h6 D hD)).1 fun e=>?_).trans (h6 D hD)
  exact (hr D e.symm).2.1 hD
theorem CInv.below {w2 X Y:World} {q:Nat} {Ds:List Nat} {K:List Ke} (h:CInv w2 q Ds K X) (hq:q≤w2.heap.size) (hb:Below X.heap.size X Y):CInv w2 q Ds K Y:=
 h.own hq (row:=none) ⟨hb.os,hb.tape,hb.output,hb.size,fun i hi _=>hb.block i hi⟩ (fun r e=>by cases e)
theorem OwnXT.type {X:World} {n:Nat} {v:Value} {R:List Ee} (h:OwnXT X n v R) {k:Nat} (e:v.ownBlock=some k):∃ cur,X.heap[k]?=some (.cells cur 55 (0,0))∧n≤k:=by
 have h9:=h.1.2
 rcases h9 with ⟨rfl,_⟩ | ⟨g',cap,cur',rfl,hn,hg',_⟩
 ·simp [Value.ownBlock] at e
 ·simp only [Value.ownBlock,Option.some.injEq] at e
  subst e
  exact ⟨_,hg',(World.ownsRow.lt h.1 _ rfl).1⟩
theorem wpListIn_run_append {F:Fence} {n:Nat} {w w1:World} {t ty:TypeId} {v y v':Value} (h1:(Builtin.append_ #[t,t] ty #[v,y]).run Tryz.prog w=.ok v' w1) {ops:Array Oper} {rest:List Oper} {o:Oper} {a:Act} {Q:Exit→Act→World→Prop} (hgd:o.guard=none) (s x:Operand)
  (ho:o.op=.call {callee:=.builtin .append,args:=#[s,x],argTypes:=#[t,t]}) (hty:o.type=ty) (hs:a.eval s=v) (hx:a.eval x=y) (hk:wpListIn F n Tryz.prog ops Q rest (a.put o.dst v') w1):wpListIn F n Tryz.prog ops Q (o :: rest) a w:=by
 subst hty
 refine wpListIn_plain hgd fun K hK=>?_
 unfold Oper.wpIn
 refine ⟨?_,?_⟩
 ·simp [Oper.about,ho,resolve,Target.leads,Sem.run_pure]
 ·rw [Oper.semAt_plain F _ _ (by rw [ho];intro c hc;cases hc)]
  simp [execOp,ho,resolve,invoke,builtin,hs,hx,h1,Result.andThen]
  exact hK _ _ hk
theorem OwnXT.other {X:World} {n:Nat} {v:Value} {R:List Ee} (h:OwnXT X n v R) {b:Nat} (hb:b<n) (u:Value):OwnXT (X.setCell ⟨b,0,none⟩ u) n v R:=by
 have ne:∀ (u:Value) (T:TypeId) (k m:Nat) (C:List Value),X.ownsRow n T k u m C→u.ownBlock=none∨u.ownBlock≠some b:=fun u T k m C ho=>by
  cases e:u.ownBlock with
  | none=>exact .inl rfl
  | some q=>exact .inr fun e'=>by cases e';have:=(World.ownsRow.lt ho _ e).1;omega
 exact ⟨World.ownsRow.kept h.1 (grownBy_setCell' X b u) (ne _ _ _ _ _ h.1),fun r hr'=>World.ownsRow.kept (h.2 r hr') (grownBy_setCell' X b u) (ne _ _ _ _ _ (h.2 r hr'))⟩
theorem keeps_below {W W':World} (h:Below W.heap.size W W'):KeepsOthers W W':=⟨h.size,fun k o hk _=>(h.block k (Array.getElem?_eq_some_iff.1 hk).1).trans hk⟩
theorem keepD_loop (W:World) (l:Nat) (r r':Loop) (h:W.heap[l]?=some (.loop r)):KeepD W (W.putObj l (.loop r')):=fun D o e=>by
 have hne:D≠l:=fun e'=>by rw [e',h] at e;cases e
 exact (World.putObj_heap_other hne).trans e
theorem KeepD.others {W W':World} (h:KeepsOthers W W'):KeepD W W':=fun D o e=>h.same D _ e rfl
theorem collect_any (g:Nat) (lb:Array Value) (eg:∀ args w,(callFunc g args).run Tryz.prog w=.ok (.enter g args) w) (wnt:Str→Bool) (w:World) (hM:MaxAt w) (A:Option Addr) (cap:Nat) (L:List Int) (hP:IntsP w A L) (hL:L.length≤10)
  (hw:∀ (m:Str) (w':World),Below w.heap.size w w'→Calls Tryz.prog g (#[.string (sB m)]++lb) w' fun e w2=>e=.returned (.bool (wnt m))∧w2=w') :
  Calls Tryz.prog 51 #[.slice A L.length cap,.func (.func g) #[] lb] w (RetXT w (keysAll wnt (pagesL L))):=by
 obtain ⟨n,hn⟩:∃ n,w.heap.size=n:=⟨_,rfl⟩
 have hgn:0 < n:=by rw [← hn];exact hM.lt
 obtain ⟨w1,hw1⟩:∃ w1,w.alloc (.cells #[.func (.func g) #[] lb] 103)=w1:=⟨_,rfl⟩
 have b1:Below n w w1:=by rw [← hw1,← hn];exact (Below.refl _ _).alloc (Nat.le_refl _) _
 have z1:w1.heap.size=n+1:=by rw [← hw1,← hn];simp
 have x1:Boxed w1 n 103 (.func (.func g) #[] lb):=by rw [← hw1,← hn];exact Boxed.new _ _ _
 have P1:Hid (IntsP w1 A L):=hP.below (by rw [hn];exact b1)
 have HW:=Lib.hid hw
 have B1:=Lib.hid b1
 have X1:=Lib.hid x1
 have HN:=Lib.hid hn
 have HMM:=Lib.hid hM
 clear hP hw b1 x1 hM
 refine callsIn_wide.1 (callsIn_of_wp_marks (n:=8) Tryz.func51 rfl trivial ?_ rfl)
 simp only [Tryz.ntmps51,List.size_toArray,List.length_cons,List.length_nil,Nat.reduceAdd,Nat.reduceSub,Array.replicate_succ,Array.replicate_zero,List.push_toArray,List.append_toArray,List.nil_append,List.cons_append]
 refine wpIn_wide.2 ?_
 obtain ⟨PL,hPL⟩:∃ z,pagesL L=z:=⟨_,rfl⟩
 rw [hPL]
 have HPL:=Lib.hid hPL
 have hPl:PL.length≤10:=by
  rw [← hPL]
  unfold pagesL
  split
  ·decide
  ·exact hL
 clear hPL
 go_upto_if 13 with fail
 go_cut [0] from 11 to 14 (fun v wx=>∃ A' cap',v=.slice A' PL.length cap'∧Hid (IntsP wx A' PL)∧Hid (Below (n+1) w1 wx))
 case first=>
  by_cases hL0:L=[]
  ·subst hL0
   obtain rfl:PL=[0,1,2,3,4,5,6]:=HPL.out.symm
   clear hPl
   go_wp2
   go_meet
   exact ⟨_,_,rfl,(by have h:=ints7 w1;rw [z1] at h;exact h),(Below.refl _ _).alloc (by omega) _⟩
  ·have hl:0<L.length:=List.length_pos_iff.2 hL0
   have hl2:¬((L.length:Int)=0):=by omega
   obtain rfl:PL=L:=by rw [← HPL.out];unfold pagesL;rw [if_neg hL0]
   clear hL0
   go_wp2
   go_meet
   exact ⟨_,_,rfl,P1.out,Below.refl _ _⟩
 case rest=>
  obtain ⟨A',cap',rfl,PP,BX⟩:=hcut
  clear P1 HPL hL
  obtain ⟨q,hq⟩:∃ q,wc.heap.size=q:=⟨_,rfl⟩
  obtain ⟨w2,hw2⟩:∃ w2,wc.alloc (.cells #[.slice none 0 0] 82)=w2:=⟨_,rfl⟩
  have hnq:n+1≤q:=by have:=BX.out.size;omega
  have b2:Below q wc w2:=by rw [← hw2,← hq];exact (Below.refl _ _).alloc (Nat.le_refl _) _
  have z2:w2.heap.size=q+1:=by rw [← hw2,← hq];simp
  have Q2:Hid (Boxed w2 q 82 (.slice none 0 0)):=by rw [← hw2,← hq];exact Boxed.new _ _ _
  have P2:Hid (∀ k (h:k<PL.length),∃ b off,A'=some ⟨b,off,none⟩∧b<q∧w2.cell? ⟨b,off+k,none⟩=some (.int .i64 PL[k])):=fun k h=>by
   rcases PP.out with h0 | ⟨b,off,rfl,hc⟩
   ·rw [h0] at h;cases h
   ·have hb:=World.block_lt_of_cell? wc _ (hc k h)
    exact ⟨b,off,rfl,by rw [← hq];exact hb,(b2.cell (by rw [← hq];exact hb)).trans (hc k h)⟩
  have X2:Hid (Boxed w2 n 103 (.func (.func g) #[] lb)):=(b2.block n (by omega)).trans ((BX.out.block n (by omega)).trans X1.out)
  have B2:Hid (Below n w w2):=(B1.out.trans (BX.out.mono (by omega))).trans (b2.mono (by omega))
  have HQ:=Lib.hid hq
  have HW2:=Lib.hid hw2
  clear PP BX B1 X1 b2 z1 hw1 w1
  go_upto_block 0 with fail
  apply wp_block
  have I2:Hid (CInv w2 q [] (keysAll wnt (PL.take 0)) w2):=⟨none,0,[],Q2.out,ownXT_nil _ _,rfl,Below.refl _ _,by omega,fun D hD=>absurd hD List.not_mem_nil⟩
  refine wp_loop (fun a' X=>∃ (j:Nat) (Ds:List Nat) (v7 v18 v19 v20 v21 v22 v23 v41:Value),a'={tmps:=#[.slice A' PL.length cap',.func (.func g) #[] lb,undef,.pointer (some ⟨n,0,none⟩),.slice none 0 0,.pointer (some ⟨q,0,none⟩),undef,v7,undef,undef,undef,u11,u12,u13,u14,.slice A' PL.length cap',.int .i64 (PL.length:Int),.int .i64 (j:Int),v18,v19,v20,v21,v22,v23,undef,undef,undef,undef,undef,undef,undef,undef,undef,undef,undef,undef,undef,undef,undef,undef,undef,v41,undef],defers:=Each.marks Ds}∧j≤PL.length∧Hid (CInv w2 q Ds (keysAll wnt (PL.take j)) X)∧Hid (Ds.Nodup∧∀ D∈Ds,q<D∧D<X.heap.size)) (fun a' X=>PL.length - (intOf (a'.tmps.getD 17 undef)).toNat) ?_ ?_
  ·exact ⟨0,[],_,_,_,_,_,_,_,_,rfl,Nat.zero_le _,I2.out,List.nodup_nil,fun D hD=>absurd hD List.not_mem_nil⟩
  ·clear I2 Q2
   rintro a' X ⟨j,Ds,v7,v18,v19,v20,v21,v22,v23,v41,rfl,hj,CI,ND⟩
   by_cases hje:j=PL.length
   ·have hz:¬((j:Int)<(PL.length:Int)):=by omega
    obtain ⟨A5,c5,R,h1,h2,h3,h4,h5,h6⟩:=CI.out
    have c1:=h1.cell
    have H:=Lib.hid (And.intro h2 (And.intro h3 (And.intro h4 h6)))
    clear h1 h2 h3 h4 h5 h6 CI
    go_wp2_with fail
    refine Each.leaves_all (fun Z=>OwnXT Z (q+1) (.slice A5 R.length c5) R∧Below n w Z) (fun D=>q<D) ?_ Ds X ND.out.1 (fun D hD=>⟨(ND.out.2 D hD).1,H.out.2.2.2 D hD⟩) ⟨H.out.1,B2.out.trans (H.out.2.2.1.mono (by omega))⟩ ?_
    ·rintro Z D hD ⟨z1,z2⟩ hz3
     exact ⟨z1.grown (grownBy_putObj' Z D _) fun r e=>by cases e;exact ⟨_,hz3,rfl⟩,z2.grown (grownBy_putObj' Z D _) (by have:=z2.size;omega) fun r e=>by cases e;omega⟩
    ·rintro Z ⟨z1,z2⟩
     refine ⟨.slice A5 R.length c5,by simp [results,Tryz.results51,go_sem],A5,c5,R,rfl,by rw [HN.out];exact z1.lift (by omega),?_,by rw [HN.out];exact z2⟩
     have h3:=H.out.2.1
     rwa [hje,List.take_length] at h3
   ·have hjl:j<PL.length:=by omega
    have hjz:(j:Int)<(PL.length:Int):=by omega
    obtain ⟨page,hpg⟩:∃ x,PL[j]=x:=⟨_,rfl⟩
    have BQ:Hid (Below q w2 X):=by obtain ⟨A5,c5,R,h1,h2,h3,h4,h5,h6⟩:=CI.out;exact h4
    have ZQ:q+1≤X.heap.size:=by obtain ⟨A5,c5,R,h1,h2,h3,h4,h5,h6⟩:=CI.out;exact h5
    have hMX:MaxAt X:=(HMM.out.belowN B2.out hgn).belowN BQ.out (by omega)
    have hTK:Hid (PL.take (j+1)=PL.take j++[page]):=by show _=_;rw [List.take_succ_eq_append_getElem hjl,hpg]
    have hIX:∃ b off,A'=some ⟨b,off,none⟩∧X.cell? ⟨b,off+j,none⟩=some (.int .i64 page):=by
     obtain ⟨b,off,rfl,hb,hc⟩:=P2.out j hjl
     exact ⟨b,off,rfl,((BQ.out.cell hb).trans hc).trans (by rw [hpg])⟩
    obtain ⟨bp,off,rfl,hcp⟩:=hIX
    obtain ⟨r7,hr7⟩:∃ z,X.heap.size=z:=⟨_,rfl⟩
    obtain ⟨Xa,hXa⟩:∃ z,X.alloc (.cells #[.int .i64 page] 3)=z:=⟨_,rfl⟩
    have ba:Below r7 X Xa:=by rw [← hXa,← hr7];exact up_alloc _ _
    have ca:Boxed Xa r7 3 (.int .i64 page):=by rw [← hXa,← hr7];exact Boxed.new _ _ _
    have za:Xa.heap.size=r7+1:=by rw [← hXa,← hr7];simp
    have hla:=listOf_any page Xa
    have hca:=codes_any (listS page) Xa
    rw [za] at hca
    have hMa:MaxAt Xa:=hMX.belowN ba (by omega)
    have pa:=ca.cell
    have CA:=Lib.hid ca
    have BA:=Lib.hid ba
    have IA:Hid (CInv w2 q Ds (keysAll wnt (PL.take j)) Xa):=CI.out.below (by omega) (by rw [hr7];exact ba)
    have HMa:=Lib.hid hMa
    have HJE:=Lib.hid hje
    have ND7:Hid (Ds.Nodup∧∀ D∈Ds,q<D∧D<r7):=by rw [← hr7];exact ND.out
    clear ca ba hMa hMX CI hpg hje ND
    go_wp2_with fail
    refine hla.mono ?_
    rintro e Xb ⟨rfl,rfl⟩
    go_wp2_with fail
    refine hca.mono ?_
    rintro e W0 ⟨rfl,hW0⟩
    have hs:Boxed W0 (r7+1) 9 (.string (sB (listS page))):=by
     have h:=Boxed.new Xb 9 (.string (sB (listS page)))
     rwa [hW0,za] at h
    have bW:Below Xb.heap.size Xb W0:=by rw [← hW0];exact up_alloc _ _
    have zW:W0.heap.size=r7+1+1:=by rw [← hW0];simp;omega
    have hMW:MaxAt W0:=HMa.out.below bW
    have c7:Boxed W0 r7 3 (.int .i64 page):=(bW.block r7 (by omega)).trans CA.out
    have IW:Hid (CInv w2 q Ds (keysAll wnt (PL.take j)) W0):=IA.out.below (by omega) bW
    have C7:=Lib.hid c7
    have hseq:=codes1_gives 7 (r7+1) (listS page) (listS_len page) (pages_ok page) W0 hs hMW
    clear hla hca hs bW hMW c7 hW0 za pa CA BA IA hXa
    go_wp2_with fail
    have KQ:Hid (keysC wnt page (codesK (patsOf (listS page)) 256)=keysPg wnt page):=rfl
    refine wpIn_wide.1 (Each.wpIn_eachO (F:=Fence.wide) (n:=8) rfl (by omega) (gf:=96) (lb:=#[.pointer (some ⟨r7+1,0,none⟩)]) rfl trivial (enters_of Tryz.func96 (by kernel_rfl) rfl)
     hseq (fun h k=>h.trans k) (fun W l r r' _ h=>keepD_loop W l r r' h) (fun _=>rfl)
     (fun pre Z=>CInv w2 q Ds (keysAll wnt (PL.take j)++keysC wnt page pre) Z∧Boxed Z r7 3 (.int .i64 page)∧r7+2≤Z.heap.size)
     (fun s Y Z row h hg hr=>⟨h.1.own (by omega) hg fun r e=>⟨by have:=(hr r e).1;omega,fun hD=>by have:=(ND7.out.2 r hD).2;have:=(hr r e).1;omega,(hr r e).2⟩,h.2.1.kept hg fun e=>by have:=(hr _ e.symm).1;omega,Nat.le_trans h.2.2 hg.size⟩)
     ⟨by rw [show keysC wnt page []=[] from rfl,List.append_nil];exact IW.out,C7.out,by omega⟩
     (fun x a' Z=>IsCode (patsOf (listS page)) x∧∃ b,r7+2≤b∧Z.heap[b]?=some (.cells #[.string (sB x.1.1),.string (sB x.1.2),.int .u8 x.2] 142 (0,0))∧a'={tmps:=#[.slice (some ⟨bp,off,none⟩) PL.length cap',.func (.func g) #[] lb,undef,.pointer (some ⟨n,0,none⟩),.slice none 0 0,.pointer (some ⟨q,0,none⟩),undef,.pointer (some ⟨r7,0,none⟩),.pointer (some ⟨b,0,none⟩),undef,undef,u11,u12,u13,u14,.slice (some ⟨bp,off,none⟩) PL.length cap',.int .i64 (PL.length:Int),.int .i64 (j:Int),.bool true,.pointer (some ⟨bp,off+j,none⟩),.int .i64 page,.int .i64 page,.string (sB (listS page)),.func (.func 96) #[] #[.pointer (some ⟨r7+1,0,none⟩)],.agg #[.string (sB x.1.1),.string (sB x.1.2),.int .u8 x.2],undef,undef,undef,undef,undef,undef,undef,undef,undef,undef,undef,undef,undef,undef,undef,undef,v41,undef],defers:=[]})
     (fun x s Y Z row h hg hr=>by
      obtain ⟨h0,b,h1,h2,h3⟩:=h
      exact ⟨h0,b,h1,(grownBy_keeps_cells hg (fun r e=>(hr r e).2) h2 rfl).trans h2,h3⟩)
     ?assign ?body ?done)
    case assign=>
     rintro lq pre x Z K ⟨z1,z2,z3⟩ hE hK
     simp only [codeV]
     gi_wp2
     refine hK _ _ ((KeepsOthers.alloc _ _).from _) (KeepD.below (up_alloc _ _)) ⟨z1.below (by omega) (up_alloc _ _),z2.alloc _,by simp;omega⟩ ⟨hE,Z.heap.size,by omega,World.alloc_heap_new Z _,rfl⟩
    case body=>
     rintro lq pre x a' Z ⟨z1,z2,z3⟩ ⟨hE,b,hb,hc,rfl⟩ hlen
     obtain ⟨A5,c5,R,h1,h2,h3,h4,h5,h6⟩:=z1
     have G:=good2_of (pages_ok page _ (isCode_mem hE)) x.2 hE.2.2.1 (by have:=hE.2.2.2;omega)
     have G6:=good2_of (pages_ok page _ (isCode_mem hE)) (op6 x.2) (op6_bd x.2 hE.2.2.1 (by have:=hE.2.2.2;omega)).1 (op6_bd x.2 hE.2.2.1 (by have:=hE.2.2.2;omega)).2
     have MZ:MaxAt Z:=(HMM.out.belowN B2.out hgn).belowN h4 (by omega)
     obtain ⟨Zd,hZd⟩:∃ z,Z.drew=z:=⟨_,rfl⟩
     have bd:Below Z.heap.size Z Zd:=by rw [← hZd];exact below_drewN _ _ 1
     have hmn:=mnemonic_any x.1 x.2 G.good Zd (MZ.below bd)
     have hen:=fun Y (h:MaxAt Y)=>entry_any x.1 page x.2 G G6 Y h
     unfold codeV at hmn hen
     have XF:Hid (∀ Y,Below Z.heap.size Z Y→Y.cell? ⟨n,0,none⟩=some (.func (.func g) #[] lb)∧Y.cell? ⟨b,0,none⟩=some (.string (sB x.1.1))∧Y.cell? ⟨b,1,none⟩=some (.string (sB x.1.2))∧Y.cell? ⟨b,2,none⟩=some (.int .u8 x.2)):=fun Y hY=>by
      have e1:=((hY.block n (by omega)).trans (h4.block n (by omega))).trans X2.out
      have e2:=(hY.block b (Array.getElem?_eq_some_iff.1 hc).1).trans hc
      exact ⟨Boxed.cell e1,Lib.cell_of_heap e2 0,Lib.cell_of_heap e2 1,Lib.cell_of_heap e2 2⟩
     have HZ:=Lib.hid (And.intro h1 (And.intro h2 (And.intro h3 (And.intro h4 h6))))
     have HC:=Lib.hid hc
     have Z2:=Lib.hid z2
     have HMZ:=Lib.hid MZ
     have HEN:=Lib.hid hen
     have BD:=Lib.hid bd
     have BWZ:Hid (∀ Y,Below Z.heap.size Z Y→Below w.heap.size w Y):=fun Y hY=>by rw [HN.out];exact (B2.out.trans (h4.mono (by omega))).trans (hY.mono (by omega))
     have FIN:Hid (∀ Y,Below Z.heap.size Z Y→keysC wnt page (pre++[x])=keysC wnt page pre→KeepsFrom W0.heap.size Z Y∧KeepD Z Y∧CInv w2 q Ds (keysAll wnt (PL.take j)++keysC wnt page (pre++[x])) Y∧Boxed Y r7 3 (.int .i64 page)∧r7+2≤Y.heap.size):=fun Y hY hK=>
      ⟨(keeps_below hY).from _,KeepD.below hY,by rw [hK];exact CInv.below ⟨A5,c5,R,h1,h2,h3,h4,h5,h6⟩ (by omega) hY,(hY.block r7 (by omega)).trans z2,Nat.le_trans z3 hY.size⟩
     clear h1 h2 h3 h4 h6 hc G G6 MZ hen bd hE z2 hseq
     gi_wp2_with fail
     refine Mixed.wpIn_region_mixed (fun w'=>w'.cell? ⟨n,0,none⟩=some (.func (.func g) #[] lb)∧w'.cell? ⟨b,0,none⟩=some (.string (sB x.1.1))∧w'.cell? ⟨b,1,none⟩=some (.string (sB x.1.2))∧w'.cell? ⟨b,2,none⟩=some (.int .u8 x.2)) 3 [(0,true),(1,true),(2,false)] (by kernel_rfl) (fun ⟨_,_,h⟩=>h) (by kernel_rfl) (by kernel_rfl) (by rw [hZd];exact XF.out _ BD.out) ?_
     rw [hZd]
     clear hZd
     refine Mixed.wpMix_pure rfl (by kernel_rfl) (.func (.func g) #[] lb) (fun w h=>by obtain ⟨h1,h2,h3,h4⟩:=h;go_simp;try rfl) ?_
     refine Mixed.wpMix_pure rfl (by kernel_rfl) (.agg #[.string (sB x.1.1),.string (sB x.1.2),.int .u8 x.2]) (fun w h=>by obtain ⟨h1,h2,h3,h4⟩:=h;go_simp;try rfl) ?_
     refine Mixed.wpMix_loud rfl ?_
     go_wp2_with fail
     refine hmn.mono ?_
     rintro e Z1 ⟨rfl,hb1⟩
     have B1:Hid (Below Z.heap.size Z Z1):=BD.out.trans (hb1.mono BD.out.size)
     have F1:=XF.out _ B1.out
     have hwn:=HW.out (wordsT x.1 x.2).1 Z1 (BWZ.out _ B1.out)
     clear hmn hb1 BD XF
     have FF1:=Lib.hid F1
     obtain ⟨f1,f2,f3,f4⟩:=F1
     obtain ⟨m,hm⟩:∃ z,(wordsT x.1 x.2).1=z:=⟨_,rfl⟩
     rw [hm] at hwn ⊢
     have HM:=Lib.hid hm
     clear hm
     go_wp2
     refine ⟨FF1.out,?_⟩
     simp only [Mixed.wpMix,List.drop_succ_cons,List.drop_zero]
     go_wp2_with fail
     refine hwn.mono ?_
     rintro e Z3 ⟨rfl,rfl⟩
     clear hwn
     cases hwt:wnt m with
     | false=>
      have KC:Hid (keysC wnt page (pre++[x])=keysC wnt page pre):=by
       show _=_
       rw [keysC_snoc,keyC,HM.out,hwt,if_neg (by decide),List.append_nil]
      clear hwt
      go_wp2
      gi_wp2
      exact FIN.out _ B1.out KC.out
     | true=>
      have KC:Hid (keysC wnt page (pre++[x])=keysC wnt page pre++keyE page x.2 (entryT x.1 page x.2)):=by
       show _=_
       rw [keysC_snoc,keyC,HM.out,hwt,if_pos rfl]
      have p7:Z3.cell? ⟨r7,0,none⟩=some (.int .i64 page):=Boxed.cell ((B1.out.block r7 (by omega)).trans Z2.out)
      have hen:=HEN.out Z3 (HMZ.out.below B1.out)
      clear hwt
      go_wp2
      gi_wp2_with fail
      refine ⟨trivial,CallsIn.inRound lq (callsIn_wide.2 hen) |>.mono ?_⟩
      rintro e Z4 ⟨hres,hb4⟩
      have B4:Hid (Below Z.heap.size Z Z4):=B1.out.trans (hb4.mono B1.out.size)
      have S4:Hid (Z.heap.size≤Z4.heap.size):=B4.out.size
      have S3:Hid (q+1≤Z3.heap.size):=by have:=B1.out.size;show _≤_;omega
      clear hen p7 f1 f2 f3 f4
      cases hx:entryT x.1 page x.2 with
      | none=>
       rw [hx] at hres
       subst hres
       have KC2:Hid (keysC wnt page (pre++[x])=keysC wnt page pre):=by
        show _=_
        rw [KC.out,hx]
        exact List.append_nil _
       simp only [enV]
       clear hx hb4
       gi_wp2
       exact FIN.out _ (B4.out.trans ((up_alloc _ _).mono S4.out)) KC2.out
      | some y=>
       obtain ⟨m',L',ex,al⟩:=y
       rw [hx] at hres
       obtain ⟨v,rfl,hO⟩:=hres
       simp only at hO ⊢
       obtain ⟨A9,c9,rfl,hP9,-⟩:=hO.ops
       have KC2:Hid (keysC wnt page (pre++[x])=keysC wnt page pre++[(page,x.2,m',L',ex,al)]):=by
        show _=_
        rw [KC.out,hx]
        rfl
       simp only [enV]
       obtain ⟨h1,h2,h3,h4,h6⟩:=HZ.out
       have hT4:=hO.lift S3.out
       obtain ⟨b9,hb9⟩:∃ z,Z4.heap.size=z:=⟨_,rfl⟩
       obtain ⟨Z5,hZ5⟩:∃ z,Z4.alloc (.cells #[.int .i64 page,.int .u8 x.2,.string (sB m'),.slice A9 L'.length c9,.string (sB ex),.bool al] 55)=z:=⟨_,rfl⟩
       have E5:Hid (EnAt Z5 b9 page x.2 m' (.slice A9 L'.length c9) ex al):=by rw [← hZ5,← hb9];exact World.alloc_heap_new Z4 _
       have B45:Below Z4.heap.size Z4 Z5:=by rw [← hZ5];exact up_alloc _ _
       obtain ⟨b10,hb10⟩:∃ z,Z5.heap.size=z:=⟨_,rfl⟩
       obtain ⟨Z6,hZ6⟩:∃ z,Z5.alloc (.cells #[.int .i64 page,.int .u8 x.2,.string (sB m'),.slice A9 L'.length c9,.string (sB ex),.bool al] 55)=z:=⟨_,rfl⟩
       have B56:Below Z5.heap.size Z5 Z6:=by rw [← hZ6];exact up_alloc _ _
       have B46:Below Z4.heap.size Z4 Z6:=B45.trans (B56.mono B45.size)
       have B6:Below Z.heap.size Z Z6:=B4.out.trans (B46.mono S4.out)
       have ES6:=es_oneT Z5 ⟨page,x.2,m',A9,c9,L',ex,al⟩ (hP9.below B45)
       simp only [Ee.v] at ES6
       rw [hZ6,hb10] at ES6
       have Q5:Boxed Z5 q 82 (.slice A5 R.length c5):=(B45.block q (by have:=B4.out.size;omega)).trans ((B4.out.block q (by omega)).trans h1)
       have Q6:Boxed Z6 q 82 (.slice A5 R.length c5):=(B6.block q (by omega)).trans h1
       have O6:=h2.below B6
       have RL:R.length≤5000:=by
        have e1:R.length=(keysAll wnt (PL.take j)++keysC wnt page pre).length:=by rw [← h3,List.length_map]
        have e2:=keysAll_len wnt (PL.take j)
        have e3:=keysC_len wnt page pre
        rw [List.length_take] at e2
        rw [List.length_append] at e1
        omega
       obtain ⟨v',Z7,k1,k2,k3,k4⟩:=run_appXT Z6 (q+1) (.slice A5 R.length c5) R O6 (some ⟨b10,0,none⟩) 1 [(⟨page,x.2,m',A9,c9,L',ex,al⟩:Ee)] ES6 (fun r hr=>by
        obtain rfl:=List.mem_singleton.1 hr
        exact hT4.below B46) (by have:=B6.size;omega) (by simp;omega)
       have k2':=k2
       obtain ⟨A7,c7,rfl,-,-⟩:=k2'.es
       have Q7:Boxed Z7 q 82 (.slice A5 R.length c5):=Q6.kept k4 fun e=>by
        have:=(World.ownsRow.lt O6.1 _ e.symm).1
        omega
       have ND2:∀ k o,Z6.heap[k]?=some o→(∀ cur,o≠Obj.cells cur 55 (0,0))→Z7.heap[k]?=some o:=fun k o hk ho=>(k4.block k (Array.getElem?_eq_some_iff.1 hk).1 fun e=>by
        obtain ⟨cur,hc,-⟩:=O6.type e.symm
        rw [hk] at hc
        exact ho cur (Option.some.inj hc)).trans hk
       have KO:KeepsOthers Z (Z7.setCell ⟨q,0,none⟩ (.slice A7 (R++[(⟨page,x.2,m',A9,c9,L',ex,al⟩:Ee)]).length c7)):=
        (keeps_below B6).trans (KeepsOthers.trans ⟨k4.size,fun k o hk ho=>ND2 k o hk fun cur e=>by rw [e] at ho;cases ho⟩ (KeepsOthers.setCell _ _ _))
       have FIN2:Hid (KeepsFrom W0.heap.size Z (Z7.setCell ⟨q,0,none⟩ (.slice A7 (R++[(⟨page,x.2,m',A9,c9,L',ex,al⟩:Ee)]).length c7))∧KeepD Z (Z7.setCell ⟨q,0,none⟩ (.slice A7 (R++[(⟨page,x.2,m',A9,c9,L',ex,al⟩:Ee)]).length c7))∧CInv w2 q Ds (keysAll wnt (PL.take j)++keysC wnt page (pre++[x])) (Z7.setCell ⟨q,0,none⟩ (.slice A7 (R++[(⟨page,x.2,m',A9,c9,L',ex,al⟩:Ee)]).length c7))∧Boxed (Z7.setCell ⟨q,0,none⟩ (.slice A7 (R++[(⟨page,x.2,m',A9,c9,L',ex,al⟩:Ee)]).length c7)) r7 3 (.int .i64 page)∧r7+2≤(Z7.setCell ⟨q,0,none⟩ (.slice A7 (R++[(⟨page,x.2,m',A9,c9,L',ex,al⟩:Ee)]).length c7)).heap.size):=by
        refine ⟨KO.from _,KeepD.others KO,⟨A7,c7,R++[(⟨page,x.2,m',A9,c9,L',ex,al⟩:Ee)],Q7.set _,k2.other (by omega) _,?_,?_,?_,fun D hD=>KO.same D _ (h6 D hD) rfl⟩,?_,?_⟩
        ·rw [List.map_append,h3,KC2.out,List.append_assoc];rfl
        ·exact (h4.trans (B6.mono (by omega))).trans ((show Below q Z6 Z7 from k3.mono (Nat.le_succ q)).setCell (p:=⟨q,0,none⟩) (Nat.le_refl _) _)
        ·have e1:=k4.size;have e2:=B6.size;rw [World.size_setCell];omega
        ·refine (heap_setCell_other _ ⟨q,0,none⟩ r7 _ (by simp;omega)).trans (ND2 r7 _ ((B6.block r7 (by omega)).trans Z2.out) fun cur e=>?_)
         simp at e
        ·have e1:=k4.size;have e2:=B6.size;rw [World.size_setCell];omega
       have K1:=Lib.hid k1
       have q5:=Q5.cell
       have q6:=Q6.cell
       have q7:=Q7.cell
       have q8:=Q7.frozen
       obtain ⟨e0,e1,e2,e3,e4,e5,e6⟩:=E5.out.cells
       obtain ⟨ln,hln⟩:∃ z,(R++[(⟨page,x.2,m',A9,c9,L',ex,al⟩:Ee)]).length=z:=⟨_,rfl⟩
       rw [hln] at K1 FIN2
       obtain ⟨lr,hlr⟩:∃ z,R.length=z:=⟨_,rfl⟩
       rw [hlr] at K1 q5 q6 q7
       obtain ⟨ll,hll⟩:∃ z,L'.length=z:=⟨_,rfl⟩
       rw [hll] at hZ5 hZ6 e3 ⊢
       clear hx hb4 hO hP9 h1 h2 h3 h4 h6 hT4 E5 B45 B56 B46 B6 ES6 Q5 Q6 Q7 O6 RL k1 k2 k2' k3 k4 ND2 KO hln hlr hll
       gi_wp2_with (gi_at_builtin;refine wpListIn_run_append K1.out rfl _ _ rfl rfl rfl rfl ?_)
       exact FIN2.out
    case done=>
     rintro D xs Z hD hxs ⟨z1,z2,z3⟩ hZ
     rw [show xs=_ from hxs,KQ.out,← keysAll_snoc,← hTK.out] at z1
     obtain ⟨A5,c5,R,h1,h2,h3,h4,h5,h6⟩:=z1
     have hDl:D<Z.heap.size:=(Array.getElem?_eq_some_iff.1 hZ).1
     have P:Hid (CInv w2 q (D :: Ds) (keysAll wnt (PL.take (j+1))) Z):=⟨A5,c5,R,h1,h2,h3,h4,h5,fun E hE=>by
      rcases List.mem_cons.1 hE with rfl | hE
      ·exact hZ
      ·exact h6 E hE⟩
     have P2:Hid ((D :: Ds).Nodup∧∀ E∈D :: Ds,q<E∧E<Z.heap.size):=by
      refine ⟨List.nodup_cons.2 ⟨fun hE=>by have:=(ND7.out.2 D hE).2;omega,ND7.out.1⟩,fun E hE=>?_⟩
      rcases List.mem_cons.1 hE with rfl | hE
      ·exact ⟨by omega,hDl⟩
      ·have:=ND7.out.2 E hE
       exact ⟨this.1,by omega⟩
     have HJL:=Lib.hid hjl
     clear h1 h2 h3 h4 h5 h6 hZ z2 z3 hD hDl hxs hseq
     go_wp2
     refine ⟨⟨j+1,D :: Ds,_,_,_,_,_,_,_,_,rfl,HJL.out,P.out,P2.out⟩,?_⟩
     have:=HJL.out
     show PL.length - ((j:Int)+1).toNat<PL.length - (j:Int).toNat
     omega
end Go.Proofs.YtmnleknehjkmgaaGreatDoor
namespace Go.Proofs.YtmnleknehjkmgaaGreatDoor
open Go.RowKit Go.Shelf
attribute [local go_sem] Oper.semAt_some
theorem find_fst (page:Int) (i:Nat):((fstF (patsOf (listS page)) i).1=[]→findP (listS page) (i:Int)=none)∧((fstF (patsOf (listS page)) i).1≠[]→findP (listS page) (i:Int)=some (fstF (patsOf (listS page)) i)):=by
 unfold findP fstF
 cases hf:(patsOf (listS page)).find? fun p=>fitsP p.1 (i:Int) with
 | none=>exact ⟨fun _=>rfl,fun h=>absurd rfl h⟩
 | some q=>
  have hq:=(ops_fit q (pages_ok page q (List.mem_of_find?_eq_some hf))).2.1
  exact ⟨fun h=>absurd h hq,fun _=>rfl⟩
def entsW (wnt:Str→Bool) (page:Int) (k:Nat):List Ke:=(entsR page k).filter fun e=>wnt e.2.2.1
theorem keysC_ents (wnt:Str→Bool) (page:Int) (hw:∀ (i:Nat) (p:Pat) (y:En),i<256→findP (listS page) (i:Int)=some p→entryT p page (i:Int)=some y→wnt (wordsT p (i:Int)).1=wnt y.1):∀ k,k≤256→keysC wnt page (codesK (patsOf (listS page)) k)=entsW wnt page k
 | 0,_=>rfl
 | k+1,hk=>by
  have ih:=keysC_ents wnt page hw k (by omega)
  have ha:=at_same page k (by omega)
  obtain ⟨h1,h2⟩:=find_fst page k
  unfold atT at ha
  unfold codesK
  by_cases he:(fstF (patsOf (listS page)) k).1=[]
  ·rw [if_pos he,ih]
   rw [h1 he] at ha
   unfold entsW
   rw [entsR,← ha]
  ·rw [if_neg he,keysC_snoc,ih]
   rw [h2 he] at ha
   simp only at ha
   unfold entsW keyC
   rw [entsR,← ha]
   cases hx:entryT (fstF (patsOf (listS page)) k) page (k:Int) with
   | none=>split <;> simp [keyE]
   | some y=>
    have h3:=hw k _ y (by omega) (h2 he) hx
    simp only [List.filter_append,List.filter_cons,List.filter_nil,keyE]
    rw [h3]
theorem num6:∀ p∈mainP++cbP++edP,p∈cbP→∀ n<256,numN p.1 (n / 8*8+6) 97 8=numN p.1 n 97 8∧numN p.1 (n / 8*8+6) 111 8=numN p.1 n 111 8:=by decide +kernel
theorem numP6 {p:Pat} (h:p∈mainP++cbP++edP) (hc:p∈cbP) (n:Nat) (hn:n<256):numP p.1 (op6 (n:Int)) 97=numP p.1 (n:Int) 97∧numP p.1 (op6 (n:Int)) 111=numP p.1 (n:Int) 111:=by
 have h6:=op6_all ⟨n,hn⟩
 simp only at h6
 obtain ⟨e1,e2⟩:=num6 p h hc n hn
 rw [h6,numP_eq _ _ (by omega),numP_eq _ _ hn,numP_eq _ _ (by omega),numP_eq _ _ hn]
 omega
theorem words6 {p:Pat} (h:p∈mainP++cbP++edP) (hc:p∈cbP) (n:Nat) (hn:n<256):(wordsT p (op6 (n:Int))).1=(wordsT p (n:Int)).1:=by
 obtain ⟨e1,e2⟩:=numP6 h hc n hn
 unfold wordsT
 rw [e1,e2]
theorem shift_name (p:Pat) (page op ix:Int):(shiftT p page op ix).1=(wordsT p (op6 op)).1:=by
 unfold shiftT
 simp only
 split
 ·rfl
 ·split <;> rfl
theorem entry_name {page:Int} {p:Pat} {y:En} (n:Nat) (hn:n<256) (hf:findP (listS page) (n:Int)=some p) (hy:entryT p page (n:Int)=some y):(wordsT p (n:Int)).1=y.1:=by
 have hm:=find_mem hf
 unfold entryT at hy
 by_cases h3:page=3
 ·rw [if_pos h3] at hy
  obtain ⟨z,-,rfl⟩:=Option.map_eq_some_iff.1 hy
  rfl
 rw [if_neg h3] at hy
 by_cases h4:page=4
 ·rw [if_pos h4] at hy
  obtain ⟨z,-,rfl⟩:=Option.map_eq_some_iff.1 hy
  rfl
 rw [if_neg h4] at hy
 have hcb:(page=5∨page=6)→p∈cbP:=fun h=>by
  have h1:=List.mem_of_find?_eq_some hf
  rw [patsOf_page] at h1
  unfold pagePats at h1
  rw [if_neg (by omega),if_pos (by omega)] at h1
  exact h1
 by_cases h5:page=5
 ·rw [if_pos h5] at hy
  obtain rfl:=Option.some.inj hy
  rw [shift_name]
  exact (words6 hm (hcb (.inl h5)) n hn).symm
 rw [if_neg h5] at hy
 by_cases h6:page=6
 ·rw [if_pos h6] at hy
  obtain rfl:=Option.some.inj hy
  rw [shift_name]
  exact (words6 hm (hcb (.inr h6)) n hn).symm
 rw [if_neg h6] at hy
 obtain rfl:=Option.some.inj hy
 rfl
theorem keysPg_named (op:Str) (page:Int):keysPg (fun m=>decide (m=op)) page=(entsR page 256).filter fun e=>decide (e.2.2.1=op):=by
 unfold keysPg
 rw [keysC_ents _ page (fun i p y hi hf hy=>congrArg (fun m=>decide (m=op)) (entry_name i hi hf hy)) 256 (Nat.le_refl _)]
 rfl
theorem named_any (op:Str) (w:World) (hM:MaxAt w) (A:Option Addr) (cap:Nat) (L:List Int) (hP:IntsP w A L) (hL:L.length≤10) :
  Calls Tryz.prog 35 #[.string (sB op),.slice A L.length cap] w (RetXT w (keysAll (fun m=>decide (m=op)) (pagesL L))):=by
 obtain ⟨w1,hw1⟩:∃ z,w.alloc (.cells #[.string (sB op)] 9)=z:=⟨_,rfl⟩
 have b1:Below w.heap.size w w1:=by rw [← hw1];exact up_alloc _ _
 have x1:Boxed w1 w.heap.size 9 (.string (sB op)):=by rw [← hw1];exact Boxed.new _ _ _
 have hc:=collect_any 52 #[.pointer (some ⟨w.heap.size,0,none⟩)] (enters_of Tryz.func52 (by kernel_rfl) rfl) (fun m=>decide (m=op)) w1 (hM.below b1) A cap L (hP.below b1) hL
  (fun m w' h=>wantOne_any m op w.heap.size w' ((h.block _ x1.lt).trans x1))
 have HB:=Lib.hid b1
 clear hP hM b1 x1
 go_enter Tryz.func35,Tryz.ntmps35
 go_wp2_with fail
 refine hc.mono ?_
 rintro e w' ⟨A1,c1,R,rfl,h1,h2,h3⟩
 have H:=Lib.hid (And.intro (h1.lift HB.out.size) (And.intro h2 (HB.out.trans (h3.mono HB.out.size))))
 clear h1 h2 h3 hc
 go_wp2
 go_ret
 exact ⟨A1,c1,R,rfl,H.out.1,H.out.2.1,H.out.2.2⟩
end Go.Proofs.YtmnleknehjkmgaaGreatDoor
namespace Go.Proofs.YtmnleknehjkmgaaGreatDoor
open Go.RowKit Go.Shelf
attribute [local go_sem] Oper.semAt_some
def KeepC (cb:Nat) (W W':World):Prop:=W.heap.size≤W'.heap.size∧∀ k o,k≠cb→W.heap[k]?=some o→o.isCells=true→W'.heap[k]?=some o
theorem KeepC.trans {cb:Nat} {A B C:World} (h:KeepC cb A B) (k:KeepC cb B C):KeepC cb A C:=⟨Nat.le_trans h.1 k.1,fun x o hx ho hc=>k.2 x o hx (h.2 x o hx ho hc) hc⟩
theorem KeepC.refl (cb:Nat) (W:World):KeepC cb W W:=⟨Nat.le_refl _,fun _ _ _ h _=>h⟩
theorem KeepC.of_below {cb:Nat} {W W':World} (h:Below W.heap.size W W'):KeepC cb W W':=⟨h.size,fun k o _ ho _=>(h.block k (Array.getElem?_eq_some_iff.1 ho).1).trans ho⟩
theorem KeepC.put {cb:Nat} (W:World) (l:Nat) (o o':Obj) (hl:W.heap[l]?=some o) (ho:o.isCells=false):KeepC cb W (W.putObj l o'):=⟨by simp,fun k x _ hx hc=>by
 have hne:k≠l:=by
  rintro rfl
  rw [hl] at hx
  obtain rfl:=Option.some.inj hx
  rw [ho] at hc
  cases hc
 exact (World.putObj_heap_other hne).trans hx⟩
theorem KeepC.cell {cb:Nat} {W W':World} (h:KeepC cb W W') {a:Addr} {v:Value} (hv:W.cell? a=some v) (ha:a.block≠cb):W'.cell? a=some v:=by
 obtain ⟨o,ho,hc⟩:=cells_of_cell hv
 exact (World.cell?_of_block ((h.2 _ o ha ho hc).trans ho.symm)).trans hv
theorem KeepC.boxed {cb:Nat} {W W':World} (h:KeepC cb W W') {b:Nat} {t:TypeId} {v:Value} (hv:Boxed W b t v) (hb:b≠cb):Boxed W' b t v:=h.2 b _ hb hv rfl
theorem OpsP.keepC {cb:Nat} {W W':World} {A:Option Addr} {L:List Tr} (h:OpsP W A L) (k:KeepC cb W W') (hA:∀ a,A=some a→L≠[]→a.block≠cb):OpsP W' A L:=by
 by_cases hL:L=[]
 ·exact .inl hL
 rcases h with h | ⟨b,off,rfl,hc⟩
 ·exact absurd h hL
 ·have hb:b≠cb:=hA _ rfl hL
  refine .inr ⟨b,off,rfl,fun j hj=>?_⟩
  obtain ⟨h1,h2,h3⟩:=hc j hj
  exact ⟨k.cell h1 hb,k.cell h2 hb,k.cell h3 hb⟩
theorem KsP.keepC {cb:Nat} {W W':World} {A:Option Addr} {L:List Int} (h:KsP W A L) (k:KeepC cb W W') (hA:∀ a,A=some a→L≠[]→a.block≠cb):KsP W' A L:=by
 by_cases hL:L=[]
 ·exact .inl hL
 rcases h with h | ⟨b,off,rfl,hc⟩
 ·exact absurd h hL
 ·have hb:b≠cb:=hA _ rfl hL
  exact .inr ⟨b,off,rfl,fun j hj=>k.cell (hc j hj) hb⟩
theorem MaxAt.keepC {cb:Nat} {W W':World} (h:MaxAt W) (k:KeepC cb W W') (hb:0≠cb):MaxAt W':=by
 obtain ⟨m,hm⟩:=h
 exact ⟨m,k.cell hm hb⟩
def EsN (N:Nat) (W:World) (A:Option Addr) (R:List Ee):Prop:=EsP W A R∧(∀ a,A=some a→R≠[]→N≤a.block)∧∀ r∈R,∀ a,r.A=some a→r.L≠[]→N≤a.block
theorem EsN.keepC {cb N:Nat} {W W':World} {A:Option Addr} {R:List Ee} (h:EsN N W A R) (k:KeepC cb W W') (hN:cb<N):EsN N W' A R:=by
 obtain ⟨h1,h2,h3⟩:=h
 refine ⟨?_,h2,h3⟩
 by_cases hR:R=[]
 ·exact .inl hR
 rcases h1 with h | ⟨b,off,rfl,hc⟩
 ·exact absurd h hR
 ·have hb:b≠cb:=by have:=h2 _ rfl hR;simp at this;omega
  refine .inr ⟨b,off,rfl,fun j hj=>⟨fun i u hu=>k.cell ((hc j hj).1 i u hu) hb,(hc j hj).2.keepC k fun a ha hL=>?_⟩⟩
  have:=h3 _ (List.getElem_mem hj) a ha hL
  omega
theorem own_block_ge {w:World} {n:Nat} {v:Value} {L:List Tr} {A:Option Addr} {m c:Nat} (h:OwnT w n v L) (e:v=.slice A m c) (a:Addr) (ha:A=some a):n≤a.block:=by
 subst e ha
 rcases h.2 with ⟨h,_⟩ | ⟨g,cap,cur,h,hg,_⟩
 ·cases h
 ·cases h
  exact hg
theorem OwnXT.esN {w:World} {n:Nat} {A:Option Addr} {cap:Nat} {R:List Ee} (h:OwnXT w n (.slice A R.length cap) R):EsN n w A R:=by
 obtain ⟨A',cap',e,hE,-⟩:=h.es
 simp only [Value.slice.injEq] at e
 obtain ⟨rfl,-,-⟩:=e
 refine ⟨hE,fun a ha _=>?_,fun r hr a ha _=>own_block_ge (h.2 r hr) rfl a ha⟩
 subst ha
 rcases h.1.2 with ⟨h,_⟩ | ⟨g,cap,cur,h,hg,_⟩
 ·cases h
 ·cases h
  exact hg
def shpE (C:List Tr) (k:Ke):Bool:=decide (k.2.2.2.1.map ks2=C.map ks2)
def candP (op:Str) (C:List Tr) (l:List Int):List Ke:=(keysAll (fun m=>decide (m=op)) l).filter (shpE C)
def candK (op:Str) (C:List Tr):List Ke:=candP op C (pagesC C)
def candE (C:List Tr) (R:List Ee) (k:Nat):List Ke:=((R.take k).map Ee.k).filter (shpE C)
theorem candE_succ (C:List Tr) (R:List Ee) (k:Nat) (h:k<R.length):candE C R (k+1)=candE C R k++(if shpE C R[k].k=true then [R[k].k] else []):=by
 unfold candE
 rw [List.take_succ_eq_append_getElem h,List.map_append,List.filter_append]
 simp only [List.map_cons,List.map_nil,List.filter_cons,List.filter_nil]
theorem candP_snoc (op:Str) (C:List Tr) (l:List Int) (p:Int):candP op C (l++[p])=candP op C l++(keysPg (fun m=>decide (m=op)) p).filter (shpE C):=by
 unfold candP
 rw [keysAll_snoc,List.filter_append]
theorem candP_pre (op:Str) (C:List Tr) (l:List Int) (j:Nat):candP op C (l.take j) <+: candP op C l:=by
 have h:keysAll (fun m=>decide (m=op)) (l.take j) <+: keysAll (fun m=>decide (m=op)) l:=by
  conv=>rhs;rw [← List.take_append_drop j l]
  unfold keysAll
  rw [List.flatMap_append]
  exact List.prefix_append _ _
 exact h.filter _
theorem ofShape_any (s:ByteArray) (A:Option Addr) (n cap:Nat) (w:World):Calls Tryz.prog 26 #[.agg #[.string s,.slice A n cap]] w fun e w'=>e=.returned (.func (.func 33) #[] #[.pointer (some ⟨w.heap.size,0,none⟩)])∧w.alloc (.cells #[.string s,.slice A n cap] 26)=w':=by
 go_enter Tryz.func26,Tryz.ntmps26
 go_wp2
 go_ret
 exact ⟨rfl,rfl⟩
def eeV (x:Ee):Value:=enV x.g x.o x.m x.v x.ex x.al
def ShE (op:Str) (C:List Tr) (pre:List Ee) (x:Ee) (W:World):Prop:=(pre++[x]).map Ee.k <+: candK op C∧OpsP W x.A x.L
end Go.Proofs.YtmnleknehjkmgaaGreatDoor
