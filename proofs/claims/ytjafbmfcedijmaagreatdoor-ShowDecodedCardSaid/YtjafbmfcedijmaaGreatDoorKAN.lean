/-
  NumAqRS, NumCqRS, TbBqRS, StopsqRS, TbDqRS, TbEqRS, TbSqRS, EnOqRS, EnBqRS, NumIqRS, NumNqRS, FrqRS, SeVaqRS, TbUqRS, TbVqRS, EnAqRS, DeAqRS, DeBqRS, DeDqRS, DeEqRS, TbYqRS, RsAqRS, DfBqRS, FoAqRS, DgAqRS.
-/
import Derived.Test.YtjafbmfcedijmaaGreatDoorKAK
set_option linter.all false
set_option maxRecDepth 100000
set_option maxHeartbeats 4000000
namespace Go.Proofs.YtjafbmfcedijmaaGreatDoor
open Tryz
open Go.RowKit
theorem qBr (n:Int):IntKind.i8.wrap n=if 128<=n % 256 then n % 256 - 256 else n % 256:=by simp [IntKind.wrap,IntKind.bits,IntKind.signed]
theorem qpc (c:Int) (y:0<=c) (z:c<=255) (w:World) :
  Calls prog 269 #[.int .u8 c] w fun e h=>e=.returned (.int .i64 (qtE c))/\w=h:=by
 go_enter func269,ntmps269
 go_wp2;go_ret;refine ⟨?_,rfl⟩;refine qan ?_;unfold qtE wrap64;rw [qBr];split <;> split <;> omega
def preB (s p:ByteArray):Bool:=decide (p.size<=s.size)&&((s.extract 0 p.size).toList == p.toList)
theorem qe3 (s p:ByteArray) (z:s.size<=maxLen) (y:p.size<=maxLen) (w:World) :
  Calls prog 184 #[.string s,.string p] w fun h E=>h=.returned (.bool (preB s p))/\w=E:=by
 unfold maxLen at z y;by_cases e:p.size<=s.size
 ·go_enter func184,ntmps184
  go_wp2;go_ret;exact ⟨qaa (by unfold preB;rw [Qn e,Bool.true_and]),rfl⟩
 ·go_enter func184,ntmps184
  go_wp2;go_ret;exact ⟨qaa (by unfold preB;rw [Qf e,Bool.false_and]),rfl⟩
end Go.Proofs.YtjafbmfcedijmaaGreatDoor
namespace Go.Proofs.YtjafbmfcedijmaaGreatDoor
open Tryz
open Go.RowKit
attribute [local go_sem] Oper.semAt_some
theorem qsX (l f:Str) (J:l.length=8) (y:Int) (w:World) :
  Calls prog 265 #[.agg #[.string (sB l),.string (sB f)],.int .u8 y] w fun h e=>h=.returned (.bool (qcO l y))/\Below w.heap.size w e:=by
 have E:=qj5 l f J (w.alloc (.cells #[.string (sB l),.string (sB f)] 286))
 go_enter func265,ntmps265
 go_wp2_with fail
 refine E.mono ?_;rintro h e ⟨rfl,z⟩;have G:Hid (Below w.heap.size w e):=((B0 (w:=w))).trans (z.mono (by simp));clear E z;go_wp2;go_ret;exact ⟨rfl,G.o⟩
end Go.Proofs.YtjafbmfcedijmaaGreatDoor
namespace Go.Stops
open Go Go.RowKit
variable {F:Fence} {n:Nat} {P:Program}
theorem qE1 {q:Type} {g:Operand} {ps:Array Tmp} {assign body:Code} {Q:Exit->Act->World->Prop} {a:Act} {w:World} (aK:F.round=none) (a0:1<=n)
  {gf:Nat} {lb:Array Value} (aN:a.eval g=.func (.func gf) #[] lb) (aT:F.fn gf) (aF:∀ args w,(callFunc gf args).run P w=.ok (.enter gf args) w)
  {ae:q->Array Value} {an:List q->q->Prop} {ai:Nat} {E:World->World->Prop} {S:List q->Prop} (a5:qFi F (n - 1) P gf lb ae an ai E S w) (bg:ai<w.heap.size)
  (ah:∀ {A B C:World},E A B->E B C->E A C) (ay:∀ (W:World) (l:Nat) (o aL:Obj),w.heap.size<=l->W.heap[l]?=some o->o.isCells=false->E W (W.putObj l aL)) (aM:∀ x,(ae x).size=ps.size)
  (I ag:List q->World->Prop) (Z:OwnFrom w.heap.size I) (a9:Apart ai I) (aj:OwnFrom w.heap.size ag) (a6:I [] w) (af:q->Act->World->Prop) (aR:∀ x,OwnFrom w.heap.size (af x))
  (aU:∀ (l:Nat) (e:List q) (x:q) (W:World) (ar:Act->World->Prop),I e W->an e x->(∀ J ac,KeepsFrom w.heap.size W ac->E W ac->I e ac->af x J ac->ar J ac)->
   assign.wpIn (F.inRound l) (n - 1 - 1) P (Exit.then ar (fun _ _ _=>False)) {tmps:=(ps.zip (ae x)).foldl (fun t (p,v)=>t.setIfInBounds p v) a.tmps,defers:=[]} W)
  (a1:∀ (l:Nat) (e:List q) (x:q) (J:Act) (W:World),I e W->af x J W->an e x->body.wpIn (F.inRound l) (n - 1 - 1) P (qoj w.heap.size E I ag (e++[x]) W) J W)
  (aH:∀ (D:Nat) (xs:List q) (W:World),w.heap.size<=D->S xs->I xs W->W.heap[D]?=some (.deferred (some []))->Q .normal {a with defers:={target:=.collected D,args:=#[]} :: a.defers} W)
  (aE:∀ (D:Nat) (e:List q) (W:World),w.heap.size<=D->ag e W->W.heap[D]?=some (.deferred (some []))->Code.ret.wpIn F n P Q {a with defers:={target:=.collected D,args:=#[]} :: a.defers} W) :
  (Code.rangeFunc g ps assign body).wpIn F n P Q a w:=by
 refine wpIn_rangeFunc fun fn a2=>?_
 rw [aK];let s:LoopState->Option Code->Loop:=fun aG aS=>{state:=aG,pending:=aS,fn:=fn,tmps:=a.tmps,params:=ps,assign:=assign,body:=body,defers:=w.heap.size}
 let B:World:=(w.alloc (.deferred (some []))).alloc (.loop (s .ready none));have a7:B.heap[w.heap.size]?=some (.deferred (some [])):=(Below.heap_alloc _ _ _ (by simp)).trans (World.alloc_heap_new w _);have a4:B.heap[w.heap.size+1]?=some (.loop (s .ready none)):=by
  have a8:=World.alloc_heap_new (w.alloc (.deferred (some []))) (.loop (s .ready none))
  rwa [QL] at a8
 have aI:I [] B:=Z.alloc _ (Z.alloc _ a6);have aP:Below w.heap.size w B:=((B0 (w:=w))).alloc (by simp) _;have bb:B.heap.size=w.heap.size+1+1:=by simp [B]
 -- what a turn of a walk of the iterator's own leaves of the two blocks
 have walk:∀ {h Y:World} {row:Option Nat} {O:Nat} {o:Obj},h.grownBy Y row->(∀ j,row=some j->B.heap.size<=j/\∃ o:Obj,h.heap[j]?=some o/\o.isWalk=true)->h.heap[O]?=some o->O<w.heap.size+2->Y.heap[O]?=some o:=fun k r ao be=>
  (k.block _ (Qb.1 ao).1 fun aa=>by have:=(r _ aa.symm).1;omega).trans ao
 have aq:∀ {h Y:World} {row:Option Nat},(∀ j,row=some j->B.heap.size<=j/\∃ o:Obj,h.heap[j]?=some o/\o.isWalk=true)->(∀ j,row=some j->w.heap.size<=j/\∃ o:Obj,h.heap[j]?=some o/\o.isCells=false):=fun r j aa=>by
  obtain ⟨bc,o,aO,a3⟩:=r j aa;exact ⟨by omega,o,aO,Obj.not_cells_of_walk a3⟩
 refine ⟨w.heap.size+1,[{target:=.collected w.heap.size,args:=#[]}],B,{target:=.fn (.func gf) lb,args:=#[.func (.yield (w.heap.size+1)) #[] #[]]},B,gf,#[.func (.yield (w.heap.size+1)) #[] #[]]++lb,B,
  run_enterLoop_outer _ _ _ _ _,by simp only [resolve,aN];simp [go_sem],fun bf ap=>by simp [Target.leads] at ap;subst ap;exact aT,by simp [invoke,go_sem,aF],fun _=>a0,?_⟩
 refine (a5 (w.heap.size+1) (fun e W=>I e W/\W.heap[w.heap.size+1]?=some (.loop (s .ready none))/\W.heap[w.heap.size]?=some (.deferred (some [])))
  (fun e W=>ag e W/\W.heap[w.heap.size+1]?=some (.loop (s .done (some .ret)))/\W.heap[w.heap.size]?=some (.deferred (some []))) B aP ?_ ?_ ?_ ?_ ⟨aI,a4,a7⟩).mono ?_
 ·rintro ab h Y row ⟨K,G,R⟩ k r
  exact ⟨Z ab h Y row K k (aq (Y:=Y) r),walk k r G (by omega),walk k r R (by omega)⟩
 ·rintro ab h Y ⟨K,G,R⟩ k
  have au:∀ {O:Nat} {o:Obj},w.heap.size<=O->h.heap[O]?=some o->Y.heap[O]?=some o:=fun ao ax=>(k.block _ (Qb.1 ax).1 fun aa=>by have:=Qw aa;omega).trans ax
  exact ⟨a9 ab h Y K k,au (by omega) G,au (Qa _) R⟩
 ·rintro e x W ⟨K,G,R⟩ aA
  refine ⟨fn,_,assign,body,run_yield (P:=P) (args:=ae x) G (aM x),roundIn_of_wpIn a2 (aU _ e x W _ K aA fun J ak aw aX aY aZ=>?_)⟩;have ad:=aw.same _ _ (by omega) G rfl;have aJ:=aw.same _ _ (Qa _) R rfl;have aC:w.heap.size+1<ak.heap.size:=(Qb.1 ad).1;refine ⟨_,run_beginRound ad rfl,?_⟩;obtain ⟨V,X⟩:=N9 (ak.putObj (w.heap.size+1) (.loop {s .ready none with state:=.busy}));have az:V.heap[w.heap.size+1]?=some (.loop {s .ready none with state:=.busy}):=X ▸ World.putObj_heap_same aC;have av:V.heap[w.heap.size]?=some (.deferred (some [])):=X ▸ (World.putObj_heap_other (by omega)).trans aJ;have aB:I e V:=X ▸ Z.putObj _ aY (by omega) ad rfl;have aV:af x J V:=X ▸ (aR x).putObj _ aZ (by omega) ad rfl;have aW:E W V:=ah aX (X ▸ ay _ _ _ _ (by omega) ad rfl);show body.wpIn _ _ _ _ _ (ak.putObj (w.heap.size+1) (.loop {s .ready none with state:=.busy}));rw [X];refine wpIn_mono (a1 _ e x J V aB aV aA) ?_;rintro (_ | _ | _ | _ | _ | _) bd aQ am
  case normal=>
   obtain ⟨y,U,M⟩:=am;have z:=y.same _ _ (by omega) az rfl;exact ⟨_,_,run_endRound (P:=P) none z,.inl ⟨rfl,⟨Z.putObj _ M (by omega) z rfl,World.putObj_heap_same (Qb.1 z).1,(World.putObj_heap_other (by omega)).trans (y.same _ _ (Qa _) av rfl)⟩,ah (ah aW U) (ay _ _ _ _ (by omega) z rfl)⟩⟩
  case ret=>
   obtain ⟨y,M⟩:=am;have z:=y.same _ _ (by omega) az rfl;exact ⟨_,_,run_endRound (P:=P) (some .ret) z,.inr ⟨rfl,aj.putObj _ M (by omega) z rfl,World.putObj_heap_same (Qb.1 z).1,(World.putObj_heap_other (by omega)).trans (y.same _ _ (Qa _) av rfl)⟩⟩
  all_goals exact am.elim
 ·rintro ab h Y row ⟨K,G,R⟩ k r
  exact ⟨aj ab h Y row K k (aq (Y:=Y) r),walk k r G (by omega),walk k r R (by omega)⟩
 ·rintro aa aQ ⟨⟨v,rfl⟩,(⟨xs,aD,y,U,M⟩ | ⟨e,y,U,M⟩)⟩
  ·exact ⟨none,_,run_endLoop (P:=P) U (by simp [s]),aH _ xs _ (Qa _) aD (Z.putObj _ y (by omega) U rfl) ((World.putObj_heap_other (by omega)).trans M)⟩
  ·exact ⟨some .ret,_,run_endLoop (P:=P) U (by simp [s]),aE _ e _ (Qa _) (aj.putObj _ y (by omega) U rfl) ((World.putObj_heap_other (by omega)).trans M)⟩
end Go.Stops
namespace Go.Proofs.YtjafbmfcedijmaaGreatDoor
open Tryz
open Go.RowKit Go.Shelf
attribute [local go_sem] Oper.semAt_some
def qlM (w:World) (o:Option Pat) (h:Int) (e:Ending) (w':World):Prop:=
 e=.returned (.tuple #[match o with | some p=>qai p h | none=>.agg #[.string ⟨#[]⟩,.string ⟨#[]⟩,.int .u8 0],.bool o.isSome])/\Below w.heap.size w w'
theorem qrH {l:Str} {h:Int} {ys:List Pat} (E:ys=patsOf l) (k:∀ y∈ys,qcO y.1 h=false):qdj l h=none:=by
 unfold qdj;rw [<- E,List.find?_eq_none];intro x z;rw [k x z];decide
theorem qqC {l:Str} {h:Int} {t:List Pat} {x:Pat} (G:t++[x] <+: patsOf l) (k:∀ p∈t,qcO p.1 h=false) (E:qcO x.1 h=true):qdj l h=some x:=by
 unfold qdj;obtain ⟨M,J⟩:=G;rw [<- J,List.find?_append,List.find?_append];have y:t.find? (fun K=>qcO K.1 h)=none:=by
  rw [List.find?_eq_none];intro p z;rw [k p z];decide
 rw [y];simp [E]
theorem qph {l:Str} {h:List Pat} {x:Pat} (y:h++[x] <+: patsOf l):x∈patsOf l:=y.subset (by simp)
theorem qzV {w:World} {b:Nat} {T G:TypeId} {M J K u:Value} (O:w.heap[b]?=some (.cells #[M,J,K] T (0,0))) (k:Boxed w (b+1) G u) (y E z v:Value) :
  ∃ h,(((w.setCell ⟨b,0,none⟩ y).setCell ⟨b,1,none⟩ E).setCell ⟨b,2,none⟩ z).setCell ⟨b+1,0,none⟩ v=h/\h.heap[b]?=some (.cells #[y,E,z] T (0,0))/\Boxed h (b+1) G v/\KeepsOthers w h/\Below b w h/\h.heap.size=w.heap.size:=by
 refine ⟨_,rfl,(heap_setCell_other _ ⟨b+1,0,none⟩ b v (by simp)).trans (set3 O y E z),?_,?_,?_,by simp⟩
 ·refine Boxed.set (v:=u) v ?_
  exact (heap_setCell_other _ ⟨b,2,none⟩ (b+1) z (by simp)).trans ((heap_setCell_other _ ⟨b,1,none⟩ (b+1) E (by simp)).trans ((heap_setCell_other _ ⟨b,0,none⟩ (b+1) y (by simp)).trans k))
 ·exact (((KeepsOthers.setCell _ _ _).trans (KeepsOthers.setCell _ _ _)).trans (KeepsOthers.setCell _ _ _)).trans (KeepsOthers.setCell _ _ _)
 ·exact ((((Qc b w).setCell (p:=⟨b,0,none⟩) (Qa _) _).setCell (p:=⟨b,1,none⟩) (Qa _) _).setCell (p:=⟨b,2,none⟩) (Qa _) _).setCell (p:=⟨b+1,0,none⟩) (by simp) _
theorem qrF (l:Str) (aZ:l.length<=100000) (bf:∀ p∈patsOf l,p.1.length=8) (h:Int) (w:World) (aT:qac w) :
  Calls prog 224 #[.string (sB l),.int .u8 h] w (qlM w (qdj l h) h):=by
 obtain ⟨y,af⟩:=N9 (((w.alloc (.cells #[.int .u8 h] 5)).alloc (.cells #[.string ⟨#[]⟩,.string ⟨#[]⟩,.int .u8 0] 288)).alloc (.cells #[.bool false] 4));obtain ⟨n,E⟩:=N9 (w.heap.size);have aX:y.heap.size=n+1+1+1:=by rw [<- af,<- E];simp
 have aA:Below n w y:=by rw [<- af,<- E];exact (((B0 (w:=w))).alloc (by simp) _).alloc (by simp;omega) _
 have aO:Boxed y n 5 (.int .u8 h):=by rw [<- af,<- E];exact ((Boxed.new w 5 (.int .u8 h)).alloc _).alloc _
 have a5:y.heap[n+1]?=some (.cells #[.string ⟨#[]⟩,.string ⟨#[]⟩,.int .u8 0] 288 (0,0)):=by
  rw [<- af,<- E];refine (Below.heap_alloc _ _ _ (by simp)).trans ?_;have k:=World.alloc_heap_new (w.alloc (.cells #[.int .u8 h] 5)) (.cells #[.string ⟨#[]⟩,.string ⟨#[]⟩,.int .u8 0] 288)
  rwa [QL] at k
 have ay:Boxed y (n+1+1) 4 (.bool false):=by
  rw [<- af,<- E];have k:=Boxed.new ((w.alloc (.cells #[.int .u8 h] 5)).alloc (.cells #[.string ⟨#[]⟩,.string ⟨#[]⟩,.int .u8 0] 288)) 4 (.bool false)
  rwa [QL,QL] at k
 have bb:qac y:=aT.below (by rw [E];exact aA);have bp:0 < n:=by rw [<- E];exact aT.lt
 have aW:=qf3 l y;rw [aX] at aW;refine callsIn_wide.1 (callsIn_of_wp_marks (n:=3) func224 rfl trivial ?_ rfl);simp only [ntmps224,Zx,Qv,QH,Nat.reduceAdd,Nat.reduceSub,Array.replicate_succ,Array.replicate_zero,List.push_toArray,List.append_toArray,Zk,List.cons_append];refine wpIn_wide.2 ?_
 go_wp2_with fail
 refine aW.mono ?_;rintro s D ⟨rfl,aq⟩;have a8:Boxed D (n+1+1+1) 9 (.string (sB l)):=by
  have k:=Boxed.new y 9 (.string (sB l));rw [aq,aX] at k;exact k
 have bC:D.heap.size=n+1+1+1+1:=by rw [<- aq];simp;omega
 have Z:Below y.heap.size y D:=by rw [<- aq];exact B0
 have a9:Boxed D n 5 (.int .u8 h):=(Z.block _ aO.lt).trans aO;have ax:=(Z.block (n+1) (by omega)).trans a5;have aL:Boxed D (n+1+1) 4 (.bool false):=(Z.block _ ay.lt).trans ay;have aM:=aA.trans (Z.mono (by omega));have a1:qac D:=bb.below Z;have bg:=qdu 2 (n+1+1+1) l aZ D a8 a1;have bt:=J9 bf;have a4:=E;have br:=J9 a1;clear aT bb aW a8 Z aA aO a5 ay aq af E aX aZ bf y a1
 go_wp2_with fail
 refine wpIn_wide.1 (Stops.qE1 (F:=Fence.wide) (n:=3) rfl (by omega) (gf:=285) (lb:=#[.pointer (some ⟨n+1+1+1,0,none⟩)]) rfl trivial (enters_of func285 (by kernel_rfl) rfl)
  bg (by omega) (fun k ah=>k.trans ah) (fun b l bH bh aZ _ _=>qk3 br.o b l bh (by omega)) (fun _=>rfl)
  (fun U b=>(∀ J∈U,qcO J.1 h=false)/\Below (n+1+1+1) D b)
  (fun U b=>∃ p e,U=p++[e]/\(∀ J∈p,qcO J.1 h=false)/\qcO e.1 h=true/\p++[e] <+: patsOf l/\b.heap[n+1]?=some (.cells #[.string (sB e.1),.string (sB e.2),.int .u8 h] 288 (0,0))/\Boxed b (n+1+1) 4 (.bool true)/\Below n w b)
  (fun aE aI aN row k o ae=>⟨k.1,k.2.grown o (by have:=k.2.size;omega) fun ag s=>by have:=(ae ag s).1;omega⟩)
  (fun aE aI aN k o=>⟨k.1,k.2.grown o (by have:=k.2.size;omega) fun ag s=>by cases s;omega⟩)
  (fun aE aI aN row k o ae=>by
   obtain ⟨p,e,aY,X,ab,ap,W,ar,ao⟩:=k;have bd:∀ ah,ah<n+1+1+1+1->some ah≠row:=fun ah bI s=>by have:=(ae ah s.symm).1;omega
   exact ⟨p,e,aY,X,ab,ap,(o.block _ (Qb.1 W).1 (bd _ (by omega))).trans W,ar.kept o (bd _ (by omega)),ao.grown o (by have:=(Qb.1 W).1;omega) fun ag s=>by have:=(ae ag s).1;omega⟩)
  ⟨fun J aS=>(by cases aS),Qc _ _⟩
  (fun e a6 b=>∃ aa,n+4<=aa/\b.heap[aa]?=some (.cells #[.string (sB e.1),.string (sB e.2)] 286 (0,0))/\a6={tmps:=#[.string (sB l),.int .u8 h,undef,.pointer (some ⟨n,0,none⟩),.pointer (some ⟨n+1,0,none⟩),.pointer (some ⟨n+1+1,0,none⟩),.pointer (some ⟨aa,0,none⟩),.string (sB l),.func (.func 285) #[] #[.pointer (some ⟨n+1+1+1,0,none⟩)],.agg #[.string (sB e.1),.string (sB e.2)],undef,undef,undef,undef,undef,undef,undef],defers:=[]})
  (fun e aE aI aN row k o ae=>by
   obtain ⟨aa,aY,X,ab⟩:=k;exact ⟨aa,aY,(grownBy_keeps_cells o (fun ag s=>(ae ag s).2) X rfl).trans X,ab⟩)
  ?assign ?body ?done ?stop)
 case assign=>
  rintro aF U e b bB am bx K
  gi_wp2
  refine K _ _ ((KeepsOthers.alloc _ _).from _) (qex ((Qc n b).alloc (by have:=am.2.size;omega) _) bp) ⟨am.1,am.2.alloc (by have:=am.2.size;omega) _⟩ ⟨b.heap.size,by have:=am.2.size;omega,World.alloc_heap_new b _,rfl⟩
 case body=>
  rintro aF U e a6 b ⟨ak,V⟩ ⟨aa,r,an,rfl⟩ az;have bc:=qph az;have ai:Boxed b n 5 (.int .u8 h):=(V.block n (by omega)).trans a9;have bl:=ai.cell;have aK:=C9 an 0;have x:=C9 an 1;have Y:=qsX e.1 e.2 (bt.o e bc) h b;have M:=J9 (Zf ak (Zf V (Zf r az)));clear bc ak V r az;have bD:=J9 ai;have aU:Hid (b.heap.size>=n+4):=by have:=M.o.2.1.size;show _>=_;omega
  have aj:=Qr an;cases ac:qcO e.1 h
  ·have aC:=J9 ac
   rw [ac] at Y;clear ai ac an
   gi_wp2_with fail
   refine ⟨trivial,CallsIn.inRound aF (callsIn_wide.2 Y) |>.mono ?_⟩;rintro s P ⟨rfl,r⟩;have bo:Hid (KeepsFrom D.heap.size b P/\qgT b P/\(∀ J∈U++[e],qcO J.1 h=false)/\Below (n+1+1+1) D P):=by
    refine ⟨qaC r _,qex r (by have:=aU.o;omega),fun J aS=>?_,M.o.2.1.trans (r.mono (by have:=aU.o;omega))⟩;rcases QO.1 aS with k | k
    ·exact M.o.1 J k
    ·rw [QA.1 k];exact aC.o
   clear Y r
   gi_wp2
   exact bo.o
  ·have aC:=J9 ac
   have z:b.heap[n+1]?=_:=(M.o.2.1.block (n+1) (by omega)).trans ax;have G:Boxed b (n+1+1) 4 (.bool false):=(M.o.2.1.block (n+1+1) (by omega)).trans aL;rw [ac] at Y;clear ac an
   gi_wp2_with fail
   refine ⟨trivial,CallsIn.inRound aF (callsIn_wide.2 Y) |>.mono ?_⟩;rintro s P ⟨rfl,r⟩;have a7:Boxed P n 5 (.int .u8 h):=(r.block n ai.lt).trans ai;have ad:=(r.block (n+1) (Qb.1 z).1).trans z;have au:Boxed P (n+1+1) 4 (.bool false):=(r.block (n+1+1) G.lt).trans G;have bE:=(r.cell (Qp b _ aK)).trans aK;have bz:=(r.cell (Qp b _ x)).trans x;have bG:=a7.cell;have bs:=C9 ad 0;have bi:=C9 ad 1;have bu:=C9 ad 2;have bn:=Qr ad;have bv:=au.cell;have bk:=au.frozen;have a2:=J9 ad;have aV:=J9 au;have a0:Hid (Below n w P):=(aM.trans ((M.o.2.1.mono (by omega)))).trans (r.mono (by have:=aU.o;omega));have bw:Hid (Below b.heap.size b P):=r;clear Y r z G a7 ad au bl aK x aj ai
   gi_wp2
   obtain ⟨av,aP,aw,a3,aG,aD,bj⟩:=qzV a2.o aV.o (.string (sB e.1)) (.string (sB e.2)) (.int .u8 h) (.bool true);rw [aP];refine ⟨((qaC bw.o _).trans (aG.from _)),U,e,rfl,M.o.1,aC.o,M.o.2.2.2,aw,a3,a0.o.trans (aD.mono (by omega))⟩
 case done=>
  rintro O bF b aJ rfl ⟨ak,V⟩ K;have z:b.heap[n+1]?=_:=(V.block (n+1) (by omega)).trans ax;have G:Boxed b (n+1+1) 4 (.bool false):=(V.block (n+1+1) (by omega)).trans aL;have bs:=C9 z 0;have bi:=C9 z 1;have bu:=C9 z 2;have bn:=Qr z;have bv:=G.cell;have bk:=G.frozen;have a2:=J9 z;have aV:=J9 G;have aB:=J9 K;have bm:Hid (qdj l h=none):=qrH rfl ak;have a0:=J9 (aM.trans (V.mono (by omega)));have bq:=J9 aJ;clear ak V K z G aJ bg a9 ax aL aM;go_wp2;obtain ⟨av,aP,aw,a3,aG,aD,bj⟩:=qzV a2.o aV.o (.string ⟨#[]⟩) (.string ⟨#[]⟩) (.int .u8 0) (.bool false);rw [aP];have be:av.heap[O]?=some (.deferred (some [])):=aG.same O _ aB.o rfl;have o:=grownBy_putObj' av O (.deferred none);have bA:=bq.o;have x:=(o.block (n+1) (Qb.1 aw).1 (by simp;omega)).trans aw;have aj:=(a3.kept o (by simp;omega)).cell;have aQ:=C9 x 0;have aH:=C9 x 1;have aR:=C9 x 2;refine ⟨by simp,.inl ⟨_,_,rfl,run_takeDeferred be,?_⟩⟩;refine ⟨.tuple #[.agg #[.string ⟨#[]⟩,.string ⟨#[]⟩,.int .u8 0],.bool false],?_,?_⟩
  ·simp [results,results224,go_sem,aj,aQ,aH,aR]
  ·rw [bm.o]
   exact ⟨rfl,by rw [a4];exact (a0.o.trans (aD.mono (by omega))).trans (belowK_b (w:=w) (by omega) av O _ _ (by omega) be rfl rfl)⟩
 case stop=>
  rintro O U b aJ ⟨p,e,rfl,X,ab,ap,W,ar,ao⟩ K;have o:=grownBy_putObj' b O (.deferred none);have x:=(o.block (n+1) (Qb.1 W).1 (by simp;omega)).trans W;have aj:=(ar.kept o (by simp;omega)).cell;have aQ:=C9 x 0;have aH:=C9 x 1;have aR:=C9 x 2;have F:Hid (qlM w (qdj l h) h (.returned (.tuple #[qai e h,.bool true])) (b.putObj O (.deferred none))):=by
   show qlM _ _ _ _ _;rw [qqC ap X ab];exact ⟨rfl,by rw [a4];exact ao.trans (belowK_b (w:=w) (by omega) b O _ _ (by omega) K rfl rfl)⟩
  have aB:=J9 K;clear X ab ap W ar ao K o x
  gi_wp2
  refine ⟨by simp,.inl ⟨_,_,rfl,run_takeDeferred aB.o,?_⟩⟩;refine ⟨.tuple #[qai e h,.bool true],?_,F.o⟩;simp [results,results224,go_sem,aj,aQ,aH,aR,qai]
end Go.Proofs.YtjafbmfcedijmaaGreatDoor
namespace Go.Proofs.YtjafbmfcedijmaaGreatDoor
open Tryz
open Go.RowKit Go.Shelf
theorem qDN:∀ h∈mainP++cbP++edP,h.1.length=8:=by decide +kernel
theorem qCm (p:Int):∀ h∈patsOf (listS p),h.1.length=8:=fun h y=>qDN h (qgx (by rw [<- qcf];exact y))
theorem qse {w:World} {A:Option Addr} {xs:Str} (a:BytesAt w A xs) (cap:Nat) :
  (convert 44 9 (.slice A xs.length cap)).run prog w=.ok (.string (sB xs)) w:=by
 cases A with
 | none=>
  obtain rfl:xs=[]:=by
   rcases a with a | ⟨y,E,a,_⟩
   ·exact a
   ·cases a
  rw [run_convert_bytes_nil (P:=prog) w 44 5 underlying44 underlying5 _ _ 9 underlying9];rfl
 | some j=>
  refine run_convert_bytes_back w 44 9 5 j cap xs underlying44 underlying5 underlying9 (fun G b=>?_);rcases a with rfl | ⟨y,E,z,h⟩
  ·simp at b
  ·cases z
   have e:=h G b;unfold Addr.add;split
   ·rename_i J;subst J;simpa using e
   ·exact e
theorem qbo (w:World) (xs:Str) (h:xs.length<=100):qap (w.alloc (.cells (cellsB xs).toArray 5)) w.heap.size (.slice (some ⟨w.heap.size,0,none⟩) xs.length xs.length) xs:=by
 refine ⟨by unfold cellsB;simp,.inr ⟨w.heap.size,xs.length,(cellsB xs).toArray,rfl,Qa _,World.alloc_heap_new w _,Qa _,by unfold maxLen;omega,by unfold cellsB;simp,?_⟩⟩;unfold cellsB;rw [QJ (by simp)]
theorem qpO (A1 h:Option Addr) (y c2:Nat) (xs ys:Str) (w:World) (z:BytesAt w A1 xs) (e:BytesAt w h ys) :
  Calls prog 234 #[.slice A1 xs.length y,.slice h ys.length c2] w fun E J=>E=.returned (.bool (decide (xs=ys)))/\J=w:=by
 have K:=qse z y;have M:=qse e c2;have G:Hid (((sB xs).toList == (sB ys).toList)=decide (xs=ys)):=by
  show ((sB xs).toList == (sB ys).toList)=_;rw [qdh,Qe,show (sB ys).data.toList=ys by simp [sB]]
 clear z e
 go_enter func234,ntmps234
 go_wp2;go_ret;exact ⟨qaa G.o,rfl⟩
def qlD (w:World) (xs:Str) (e:Ending) (w':World):Prop:=∃ h,e=.returned h/\qap w' w.heap.size h xs/\Below w.heap.size w w'
theorem qqq (w:World):Calls prog 235 #[.int .i64 1] w (qlD w [203]):=by
 have h:=J9 (qbo w [203] (by decide))
 go_enter func235,ntmps235
 go_wp2;go_ret;exact ⟨_,rfl,h.o,B0⟩
theorem qpH (w:World):Calls prog 235 #[.int .i64 2] w (qlD w [237]):=by
 have h:=J9 (qbo w [237] (by decide))
 go_enter func235,ntmps235
 go_wp2;go_ret;exact ⟨_,rfl,h.o,B0⟩
theorem qoV (w:World):Calls prog 235 #[.int .i64 3] w (qlD w [221]):=by
 have h:=J9 (qbo w [221] (by decide))
 go_enter func235,ntmps235
 go_wp2;go_ret;exact ⟨_,rfl,h.o,B0⟩
theorem qpd (w:World):Calls prog 235 #[.int .i64 4] w (qlD w [253]):=by
 have h:=J9 (qbo w [253] (by decide))
 go_enter func235,ntmps235
 go_wp2;go_ret;exact ⟨_,rfl,h.o,B0⟩
theorem qqk (w:World):Calls prog 235 #[.int .i64 5] w (qlD w [221,203]):=by
 have h:=J9 (qbo w [221,203] (by decide))
 go_enter func235,ntmps235
 go_wp2;go_ret;exact ⟨_,rfl,h.o,B0⟩
theorem qp1 (w:World):Calls prog 235 #[.int .i64 6] w (qlD w [253,203]):=by
 have h:=J9 (qbo w [253,203] (by decide))
 go_enter func235,ntmps235
 go_wp2;go_ret;exact ⟨_,rfl,h.o,B0⟩
theorem qdM (h:Int) (w:World):Calls prog 235 #[.int .i64 h] w (qlD w (qaQ h)):=by
 unfold qaQ;by_cases y:h=1
 ·rw [Qk y];subst y;exact qqq w
 by_cases z:h=2
 ·rw [Qd y,Qk z];subst z;exact qpH w
 by_cases E:h=3
 ·rw [Qd y,Qd z,Qk E];subst E;exact qoV w
 by_cases G:h=4
 ·rw [Qd y,Qd z,Qd E,Qk G];subst G;exact qpd w
 by_cases J:h=5
 ·rw [Qd y,Qd z,Qd E,Qd G,Qk J];subst J;exact qqk w
 by_cases K:h=6
 ·rw [Qd y,Qd z,Qd E,Qd G,Qd J,Qk K];subst K;exact qp1 w
 rw [Qd y,Qd z,Qd E,Qd G,Qd J,Qd K];have aa:(h == 1)=false:=by simpa using y
 have O:(h == 2)=false:=by simpa using z
 have Z:(h == 3)=false:=by simpa using E
 have M:(h == 4)=false:=by simpa using G
 have V:(h == 5)=false:=by simpa using J
 have U:(h == 6)=false:=by simpa using K
 clear y z E G J K
 go_enter func235,ntmps235
 go_wp2;go_ret;exact ⟨_,rfl,Zm _ _ _ _,Qc _ _⟩
def qhw (xs:Str):Nat->Option Int
 | 0=>none
 | k+1=>match qhw xs k with
  | some h=>some h
  | none=>if qaQ k=xs then some k else none
def qi3 (xs:Str):Option Int:=qhw xs 7
theorem qix (xs:Str) (k:Nat) (p:Int) (h:qhw xs k=some p):∀ m,qhw xs (k+m)=some p
 | 0=>h
 | m+1=>by
  have y:=qix xs k p h m;show qhw xs (k+m+1)=some p;unfold qhw;rw [y]
theorem qik (A:Option Addr) (cap:Nat) (xs:Str) (Z:xs.length<=maxLen) (w:World) (H:BytesAt w A xs):Calls prog 190 #[.slice A xs.length cap] w
  fun z af=>z=.returned (.tuple #[.int .i64 ((qi3 xs).getD 0),.bool (qi3 xs).isSome])/\Below w.heap.size w af:=by
 obtain ⟨ai,G⟩:=N9 (xs.length);have aa:=J9 H;have ab:=J9 G;rw [G];clear H G Z
 go_enter func190,ntmps190
 go_wp2
 go_loopw [5] (fun B wr=>∃ e:Nat,e<=7/\B=.int .i64 e/\Hid (qhw xs e=none)/\Hid (Below w.heap.size w wr)) (fun B _=>7 - (intOf B).toNat)
 case atStart=>exact ⟨0,Qs _,rfl,rfl,Qc _ _⟩
 case round=>
  obtain ⟨e,aj,rfl,J,y⟩:=hrel;by_cases ah:e<7
  ·have V:=qdM (e:Int) wr
   go_wp2_with fail
   refine V.mono ?_;rintro z ac ⟨ag,rfl,T,K⟩;obtain ⟨A1,ae,rfl,M⟩:=T.bytes;have E:=J9 (y.o.trans (K.mono y.o.size));have h:=qpO A1 A ae cap (qaQ e) xs ac M (aa.o.below E.o);rw [ab.o] at h;have U:Hid (qhw xs (e+1)=if qaQ e=xs then some (e:Int) else none):=(by show qhw xs (e+1)=_;rw [qhw,J.o]);clear V K T M y J;by_cases i:qaQ e=xs
   ·rw [Qn i] at h
    have k:Hid (qi3 xs=some (e:Int)):=by
     have v:=U.o;rw [Qk i] at v;have O:=qix xs (e+1) e v (7 - (e+1));rw [show e+1+(7 - (e+1))=7 by omega] at O;exact O
    clear i
    go_wp2_with fail
    refine h.mono ?_;rintro z ad ⟨rfl,l⟩;rw [l];clear h l;go_wp2
    go_ret2
    exact ⟨by rw [k.o];rfl,E.o⟩
   ·rw [Qf i] at h
    have k:Hid (qhw xs (e+1)=none):=(by have v:=U.o;rw [Qd i] at v;exact v);clear i
    go_wp2_with fail
    refine h.mono ?_;rintro z ad ⟨rfl,l⟩;rw [l];clear h l;go_wp2;go_roundw
    case rel=>exact ⟨e+1,by omega,by go_num,k.o,E.o⟩
    case measure=>simp [intOf];omega
  ·obtain rfl:e=7:=by omega
   have k:Hid (qi3 xs=none):=J.o;go_wp2
   go_ret2
   exact ⟨by rw [k.o];rfl,y.o⟩
theorem qom:(prog.info? 5).map (fun i=>(i.zero,i.size,i.bytes))=some (some (.int .u8 0),1,1):=by kernel_rfl
theorem ql7 {wr:World} {base:Nat} {v:Value} {xs:Str} (K:qap wr base v xs) (af:base<=wr.heap.size) {ops:Array Oper} {rest:List Oper} {o:Oper} {a:Act} {Q:Exit->Act->World->Prop} (ao:o.guard=none) (s x:Operand)
  (ak:o.op=.call {callee:=.builtin .append,args:=#[s,x],argTypes:=#[44,44]}) (Z:a.eval s=v) (E:Nat) (ac:E=wr.heap.size) (R:a.eval x=.slice (some ⟨E,0,none⟩) 1 1)
  (h:UInt8) (k:Nat) (z:xs.length=k) (ap:k<10000)
  (am:∀ j y w1,BytesAt w1 j (xs++[h])->Below base wr w1->wpList prog ops Q rest (a.put o.dst (.slice j (k+1) y)) w1):wpList prog ops Q (o :: rest) a (wr.alloc (.cells #[.int .u8 (h.toNat:Int)] 5)):=by
 subst ac;obtain ⟨ad,M,an,ah,ai⟩:=info_parts qom;have aj:Below base wr (wr.alloc (.cells #[.int .u8 (h.toNat:Int)] 5)):=(Qc base wr).alloc af _;have G:=World.ownsRow.alloc K (.cells #[.int .u8 (h.toNat:Int)] 5);refine wpList_append_own _ ao s x 44 ak base 5 ad (.int .u8 0) 1 1 underlying44 M an ah ai rfl (by decide) v xs.length _ Z G ⟨wr.heap.size,0,none⟩ 1 1 [.int .u8 (h.toNat:Int)] R rfl ?_ ?_ ?_ ?_ ?_ ?_
 ·intro aa ab u
  match aa,u with
  | 0,u=>simp at u;subst u;simp [Addr.add,go_sem]
 ·intro ab J
  simp at J;subst J;rfl
 ·unfold maxLen;omega
 ·omega
 ·simp;omega
 ·intro ag w1 O U _
  have ae:qap w1 base ag (xs++[h]):=by
   unfold qap cellsB;rw [Qg,Zc];exact O
  obtain ⟨j,y,rfl,V⟩:=ae.bytes;rw [Qg,z];exact am j y w1 V (aj.grown U (by simp;omega) fun k z=>(G.lt k z).1)
def qc9 (h y:Int):Int:=if h<0\/7<=h then 0 else if (qi3 (qaQ h++[UInt8.ofNat y.toNat])).isSome then 2 else if h=2 then 3 else 0
theorem qds (c h:Int) (au:0<=h) (aj:h<=255) (w:World):Calls prog 227 #[.int .i64 c,.int .u8 h] w
  fun M ap=>M=.returned (.int .i64 (qc9 c h))/\Below w.heap.size w ap:=by
 by_cases ai:c<0
 ·have l:Hid (qc9 c h=0):=by show qc9 c h=0;unfold qc9;rw [Qk (.inl ai)]
  go_enter func227,ntmps227
  go_wp2;go_ret;exact ⟨by rw [l.o];rfl,Qc _ _⟩
 ·by_cases an:7<=c
  ·have l:Hid (qc9 c h=0):=by show qc9 c h=0;unfold qc9;rw [Qk (.inr an)]
   go_enter func227,ntmps227
   go_wp2;go_ret;exact ⟨by rw [l.o];rfl,Qc _ _⟩
  ·have ah:=qdM c w
   obtain ⟨e,ak⟩:∃ e:UInt8,h=(e.toNat:Int):=⟨UInt8.ofNat h.toNat,by rw [UInt8.toNat_ofNat_of_lt' (show h.toNat<256 by omega)];omega⟩;subst ak;have af:UInt8.ofNat ((e.toNat:Int)).toNat=e:=(by simp);have v:Hid (qc9 c (e.toNat:Int)=if (qi3 (qaQ c++[e])).isSome then 2 else if c=2 then 3 else 0):=by
    show qc9 c (e.toNat:Int)=_;unfold qc9;rw [Qd (show ¬(c<0\/7<=c) by omega),af]
   clear au aj af
   go_enter func227,ntmps227
   go_wp2_with fail
   refine ah.mono ?_;rintro M ar ⟨av,rfl,J,U⟩;have y:=J9 J;have z:=J9 U;obtain ⟨A1,az,rfl,-⟩:=J.bytes;obtain ⟨O,aa⟩:=N9 ((qaQ c).length);have T:=J9 aa;rw [aa] at y |-;clear ah J U;have ay:O<=2:=by
    rw [<- T.o];unfold qaQ
    repeat' split
    all_goals simp
   go_wp2_with (at_builtin;refine ql7 y.o z.o.size rfl _ _ rfl rfl ar.heap.size rfl rfl e O T.o (by omega) ?_;intro am aq ag ac Z;have ab:=J9 ac;have K:Hid (Below w.heap.size w ag):=z.o.trans Z;clear ac Z)
   have G:(qaQ c++[e]).length=O+1:=(by rw [Qg,T.o];rfl);have x:=qik am aq (qaQ c++[e]) (by rw [G];unfold maxLen;omega) ag ab.o;rw [G] at x;obtain ⟨ao,V⟩:=N9 (qi3 (qaQ c++[e]));rw [V] at x v;clear V G
   go_wp2_with fail
   refine x.mono ?_;rintro M aw ⟨rfl,ae⟩;have E:=J9 (K.o.trans (ae.mono K.o.size));clear x ae ab K z y;cases ao with
   | some ax=>
    have l:Hid (qc9 c (e.toNat:Int)=2):=(by show _=_;rw [v.o];rfl);go_wp2;go_ret;exact ⟨by rw [l.o];rfl,E.o⟩
   | none=>
    by_cases ad:c=2
    ·have l:Hid (qc9 c (e.toNat:Int)=3):=by show _=_;rw [v.o,Qd (by decide),Qk ad]
     go_wp2;go_ret;exact ⟨by rw [l.o];rfl,E.o⟩
    ·have l:Hid (qc9 c (e.toNat:Int)=0):=by show _=_;rw [v.o,Qd (by decide),Qd ad]
     go_wp2;go_ret;exact ⟨by rw [l.o];rfl,E.o⟩
end Go.Proofs.YtjafbmfcedijmaaGreatDoor
namespace Go.Proofs.YtjafbmfcedijmaaGreatDoor
open Tryz
open Go.RowKit
def qc5 (n:Int):UInt8:=UInt8.ofNat (n % 256).toNat
def qtF (d n:Int) (c:UInt8):Str:=if c=100 then [qc5 d] else if c=119 then [qc5 n,qc5 (n / 256)] else [qc5 n]
def qAs (h y:Int) (ex:Str) (d n:Int):Str:=if 5<=h then qaQ h++[qc5 d,qc5 y] else qaQ h++qc5 y :: ex.flatMap (qtF d n)
end Go.Proofs.YtjafbmfcedijmaaGreatDoor
namespace Go.Proofs.YtjafbmfcedijmaaGreatDoor
open Tryz
open Go.RowKit Go.Shelf
theorem qqm (ys:Str):∀ b∈cellsB ys,b.oneCell'=true:=fun b h=>by
 unfold cellsB at h;obtain ⟨u,-,rfl⟩:=List.mem_map.1 h;rfl
theorem qjH (xs ys:Str):cellsB (xs++ys)=cellsB xs++cellsB ys:=by unfold cellsB;rw [Zc]
theorem qrC (w:World) (B:Nat) (v:Value) (xs:Str) (E:qap w B v xs) (A:Option Addr) (c:Nat) (ys:Str) (K:BytesAt w A ys) (y:B<=w.heap.size) (ac:xs.length+ys.length<=100000) :
  ∃ k h,(Builtin.append_ #[44,44] 44 #[v,.slice A ys.length c]).run prog w=.ok k h/\qap h B k (xs++ys)/\Below B w h/\w.grownBy h v.ownBlock:=by
 obtain ⟨O,G,ab,V,Z⟩:=info_parts qom;obtain ⟨k,h,M,U,z⟩:=qau w B 44 44 5 O _ 1 1 underlying44 G ab V Z rfl (by decide) v xs.length (cellsB xs) E A ys.length c (cellsB ys)
  (by unfold cellsB;simp) K.news (qqm ys) (by unfold maxLen;omega) (by omega) y
 refine ⟨k,h,M,?_,(Qc B w).grown z y fun J aa=>(World.ownsRow.lt E J aa).1,z⟩;unfold qap;rw [qjH,Qg];exact U
theorem qcq {wr:World} {B:Nat} {v:Value} {xs:Str} (aa:qap wr B v xs) {A:Option Addr} {c:Nat} {ys:Str} (J:BytesAt wr A ys) (K:B<=wr.heap.size) (M:xs.length+ys.length<=100000) {ops:Array Oper} {rest:List Oper} {o:Oper} {a:Act} {Q:Exit->Act->World->Prop} (ae:o.guard=none) (s x:Operand)
  (U:o.op=.call {callee:=.builtin .append,args:=#[s,x],argTypes:=#[44,44]}) (ac:o.type=44) (V:a.eval s=v) (m:Nat) (ad:ys.length=m) (G:a.eval x=.slice A m c) (n:Nat) (Z:xs.length+m=n)
  (k:∀ h y w1,qap w1 B (.slice h n y) (xs++ys)->Below B wr w1->wpList prog ops Q rest (a.put o.dst (.slice h n y)) w1):wpList prog ops Q (o :: rest) a wr:=by
 subst ad Z;obtain ⟨af,ab,E,z,O,-⟩:=qrC wr B v xs aa A c ys J K M;obtain ⟨h,y,rfl,-⟩:=z.bytes;rw [Qg] at E z;exact qag E ae s x U ac V G (k h y ab z O)
theorem qb7 (w:World) (n:Nat):qap w n (.slice none 0 0) []:=Zm _ _ _ _
end Go.Proofs.YtjafbmfcedijmaaGreatDoor
namespace Go.Proofs.YtjafbmfcedijmaaGreatDoor
open Tryz
open Go.RowKit
theorem qmy (c:Int) (z:0<=c) (E:c<=255) (w:World) :
  Calls prog 98 #[.int .u8 c] w fun h y=>h=.returned (.int .i64 (qtE c))/\w=y:=by
 by_cases D:128<=c
 ·have e:=J9 (show c - 256=qtE c by unfold qtE;rw [Qd (by omega)])
  go_enter func98,ntmps98
  go_wp2;go_ret;exact ⟨qan e.o,rfl⟩
 ·have e:=J9 (show c=qtE c by unfold qtE;rw [Qk (by omega)])
  go_enter func98,ntmps98
  go_wp2;go_ret;exact ⟨qan e.o,rfl⟩
def u8V (b:UInt8):Value:=.int .u8 (b.toNat:Int)
end Go.Proofs.YtjafbmfcedijmaaGreatDoor
namespace Go.Fr
open Go Go.RowKit
theorem qEL {w:World} {b:Nat} {E y z J G K:Value} {T:TypeId} {M:Nat×Nat} (h:w.heap[b]?=some (.cells #[E,y,z,J,G,K] T M)):w.cell? ⟨b,0,none⟩=some E/\w.cell? ⟨b,1,none⟩=some y/\w.cell? ⟨b,2,none⟩=some z/\w.cell? ⟨b,3,none⟩=some J/\w.cell? ⟨b,4,none⟩=some G/\w.cell? ⟨b,5,none⟩=some K:=⟨C9 h 0,C9 h 1,C9 h 2,C9 h 3,C9 h 4,C9 h 5⟩
end Go.Fr
namespace Go.Proofs.YtjafbmfcedijmaaGreatDoor
open Tryz
open Go.RowKit
theorem qqi (ex:Str) (L:List Tr) (k:Nat):letR ex L k=100\/letR ex L k=101\/letR ex L k=110\/letR ex L k=119\/letR ex L k=0:=by
 unfold letR
 repeat' split
 all_goals simp
def stR (ex:Str) (L:List Tr) (d n:Int) (k:Nat):Tr:=if letR ex L k=100 then ((L.getD k tr0).1,(L.getD k tr0).2.1,d) else if letR ex L k=0 then L.getD k tr0 else ((L.getD k tr0).1,(L.getD k tr0).2.1,n)
def okR (ex:Str) (L:List Tr) (d n:Int) (k:Nat):Bool:=letR ex L k == 0||withR (letR ex L k) (stR ex L d n k).2.2
def qlI (ex:Str) (L:List Tr) (d:Int) (k:Nat):Bool:=(d == 0)||(List.range k).any fun h=>letR ex L h == 100
def qlG (ex:Str) (L:List Tr) (n:Int) (k:Nat):Bool:=(n == 0)||(List.range k).any fun h=>letR ex L h != 100&&letR ex L h != 0
def qbN (ex:Str) (L:List Tr) (d n:Int):Option (List Tr):=
 if (List.range L.length).all (okR ex L d n)=true/\qlI ex L d L.length=true/\qlG ex L n L.length=true then some ((List.range L.length).map (stR ex L d n)) else none
theorem qrb {ex:Str} {L:List Tr} (E:qbx ex L=true) {k:Nat} (G:k<L.length):letR ex L k=100↔atV (varsV ex).1.1 L=some k:=by
 have e:=qbn E k G;unfold qdC at e;constructor
 ·intro y
  by_cases h:atV (varsV ex).1.1 L=some k
  ·exact h
  ·rw [Qd h] at e
   by_cases z:atV (varsV ex).2.1 L=some k
   ·rw [Qk z,y] at e
    simp at e
   ·rw [Qd z,y] at e
    cases e
 ·intro h
  rw [Qk h] at e;simp only [Qh,beq_iff_eq,Ql] at e;exact e.1.1
theorem qo4 {ex:Str} {L:List Tr} (E:qbx ex L=true) {k:Nat} (G:k<L.length):(letR ex L k≠100/\letR ex L k≠0)↔atV (varsV ex).2.1 L=some k:=by
 have h:=qbn E k G;unfold qdC at h;constructor
 ·rintro ⟨K,J⟩
  by_cases z:atV (varsV ex).1.1 L=some k
  ·exact absurd ((qrb E G).2 z) K
  ·rw [Qd z] at h
   by_cases y:atV (varsV ex).2.1 L=some k
   ·exact y
   ·rw [Qd y] at h
    exact absurd (beq_iff_eq.1 h) J
 ·intro y
  by_cases z:atV (varsV ex).1.1 L=some k
  ·rw [Qk z] at h
   simp only [Qh,Ql] at h;exact absurd y h.2
  ·rw [Qd z,Qk y] at h
   simp only [Qh,Zn,ne_eq,Ql] at h;exact h.1
theorem qDe {ex:Str} {L:List Tr} (z:qbx ex L=true) {k:Nat} (y:atV (varsV ex).1.1 L=some k) (d:Int):inV (varsV ex).1 d=withR 100 d:=by
 have h:=qbn z k (qdy y);unfold qdC at h;rw [Qk y] at h;simp only [Qh,beq_iff_eq,Ql] at h;rw [qaY];unfold inV;rw [<- h.1.2]
theorem qCH {ex:Str} {L:List Tr} (E:qbx ex L=true) {k:Nat} (y:atV (varsV ex).2.1 L=some k) (n:Int):inV (varsV ex).2 n=withR (letR ex L k) n:=by
 have h:=qbn E k (qdy y);unfold qdC at h;by_cases z:atV (varsV ex).1.1 L=some k
 ·rw [Qk z] at h
  simp only [Qh,Ql] at h;exact absurd y h.2
 ·rw [Qd z,Qk y] at h
  simp only [Qh,Zn,ne_eq,Ql] at h;rw [qaY];unfold inV;rw [<- h.2]
theorem qDp {ex:Str} {L:List Tr} (G:qbx ex L=true) (d n:Int):qcN (varsV ex).1 L d=true↔(∀ k,k<L.length->letR ex L k=100->okR ex L d n k=true)/\qlI ex L d L.length=true:=by
 unfold qcN qlI;cases z:atV (varsV ex).1.1 L with
 | none=>
  simp only [Ql,Zp,beq_iff_eq,Zr,QW];have K:∀ k,k<L.length->letR ex L k≠100:=fun k j e=>by
   have:=(qrb G j).1 e;rw [z] at this;cases this
  constructor
  ·exact fun h=>⟨fun k j e=>absurd e (K k j),.inl h⟩
  ·rintro ⟨-,h | ⟨k,j,e⟩⟩
   ·exact h
   ·exact absurd e (K k j)
 | some J=>
  have E:=qdy z;have y:=(qrb G E).2 z;simp only;rw [qDe G z];simp only [Zp,beq_iff_eq,Zr,QW];constructor
  ·intro h
   refine ⟨fun k j e=>?_,.inr ⟨J,E,y⟩⟩;unfold okR stR;rw [Qk e,e];simp [h]
  ·rintro ⟨h,-⟩
   have:=h J E y;unfold okR stR at this;rw [Qk y,y] at this;simpa using this
theorem qCR {ex:Str} {L:List Tr} (E:qbx ex L=true) (d n:Int):qcN (varsV ex).2 L n=true↔(∀ k,k<L.length->letR ex L k≠100->letR ex L k≠0->okR ex L d n k=true)/\qlG ex L n L.length=true:=by
 unfold qcN qlG;cases y:atV (varsV ex).2.1 L with
 | none=>
  simp only [Ql,Zp,beq_iff_eq,Zr,QW,Qh,Zn,ne_eq];have O:∀ k,k<L.length->¬(letR ex L k≠100/\letR ex L k≠0):=fun k e J=>by
   have:=(qo4 E e).1 J;rw [y] at this;cases this
  constructor
  ·exact fun h=>⟨fun k e G z=>absurd ⟨G,z⟩ (O k e),.inl h⟩
  ·rintro ⟨-,h | ⟨k,e,J⟩⟩
   ·exact h
   ·exact absurd J (O k e)
 | some K=>
  have M:=qdy y;have j:=(qo4 E M).2 y;simp only;rw [qCH E y];simp only [Zp,beq_iff_eq,Zr,QW,Qh,Zn,ne_eq];constructor
  ·intro h
   refine ⟨fun k e G z=>?_,.inr ⟨K,M,j⟩⟩;have U:k=K:=by
    have:=(qo4 E e).1 ⟨G,z⟩;rw [y] at this;exact (Qw this).symm
   subst U;unfold okR stR;rw [Qd G,Qd z];simp [h]
  ·rintro ⟨h,-⟩
   have:=h K M j.1 j.2;unfold okR stR at this;rw [Qd j.1,Qd j.2] at this;simpa [j.2] using this
theorem qis (v:Vr) {L C:List Tr} (h:L.map ks2=C.map ks2) (n:Int):qcN v L n=qcN v C n:=by
 unfold qcN;rw [qbt v.1 h]
theorem qrn {ex:Str} {L:List Tr} (E:qbx ex L=true) (d n:Int):qbN ex L d n=qaZ ex L d n:=by
 have af:=qDp E d n;have ab:=qCR E d n;have ad:=qa2 (varsV ex).1.1 L d;rw [<- qis _ ad] at ab;have aa:((List.range L.length).all (okR ex L d n)=true/\qlI ex L d L.length=true/\qlG ex L n L.length=true)↔(qcN (varsV ex).1 L d=true/\qcN (varsV ex).2 (qea (varsV ex).1.1 L d) n=true):=by
  rw [af,ab,QR];constructor
  ·rintro ⟨K,U,O⟩
   exact ⟨⟨fun i k _=>K i (QW.2 k),U⟩,fun i k _ _=>K i (QW.2 k),O⟩
  ·rintro ⟨⟨K,U⟩,O,ac⟩
   refine ⟨fun i k=>?_,U,ac⟩;have k:=QW.1 k;by_cases e:letR ex L i=100
   ·exact K i k e
   ·by_cases y:letR ex L i=0
    ·unfold okR
     rw [y];rfl
    ·exact O i k e y
 unfold qbN;by_cases M:qcN (varsV ex).1 L d=true/\qcN (varsV ex).2 (qea (varsV ex).1.1 L d) n=true
 ·have J:qaZ ex L d n=some (qea (varsV ex).2.1 (qea (varsV ex).1.1 L d) n):=by unfold qaZ;rw [Qk M]
  rw [Qk (aa.2 M),J];have ae:=qat (qbi J).1;refine congrArg some (qn3 (by rw [QM,List.length_range];exact ae.symm) fun G h=>?_);rw [QM,List.length_range] at h;rw [qfa J G h,Qo,Za,List.getElem?_range h];simp only [Option.map_some,Option.getD_some];unfold stR;by_cases e:letR ex L G=100
  ·have V:=(qrb E h).1 e
   have Z:atV (varsV ex).2.1 L≠some G:=(fun z=>((qo4 E h).2 z).1 e);rw [Qk e,Qd Z,Qk V]
  ·have V:atV (varsV ex).1.1 L≠some G:=fun z=>e ((qrb E h).2 z)
   rw [Qd e];by_cases y:letR ex L G=0
   ·have Z:atV (varsV ex).2.1 L≠some G:=fun z=>((qo4 E h).2 z).2 y
    rw [Qk y,Qd Z,Qd V]
   ·rw [Qd y,Qk ((qo4 E h).1 ⟨e,y⟩)]
 ·have J:qaZ ex L d n=none:=by unfold qaZ;rw [Qd M]
  rw [Qd (fun z=>M (aa.1 z)),J]
end Go.Proofs.YtjafbmfcedijmaaGreatDoor
namespace Go.Proofs.YtjafbmfcedijmaaGreatDoor
open Tryz
open Go.RowKit Go.Shelf
def qCB (w:World) (h v:Int) (x:Option En) (e:Ending) (w':World):Prop:=
 (match x with
  | some x=>∃ y,e=.returned (.tuple #[enV h v x.1 y x.2.2.1 x.2.2.2,.int .i64 1])/\qah w' w.heap.size y x.2.1
  | none=>e=.returned (.tuple #[enV 0 0 [] (.slice none 0 0) [] false,.int .i64 (qc9 h v)]))/\Below w.heap.size w w'
theorem qqo (w:World):∃ h,w.alloc (.cells #[.int .i64 0,.int .u8 0,.string ⟨#[]⟩,.slice none 0 0,.string ⟨#[]⟩,.bool false] 163)=h/\
  qbs h w.heap.size 0 0 [] (.slice none 0 0) [] false/\Below w.heap.size w h/\h.heap.size=w.heap.size+1:=
 ⟨_,rfl,World.alloc_heap_new w _,B0,by simp⟩
theorem qzr (f e:Int) (a3:0<=e) (aY:e<=255) (w:World) (aF:qac w):Calls prog 187 #[.int .i64 f,.int .u8 e] w (qCB w f e (atT f e)):=by
 obtain ⟨aD,bc,ah,B0,a5⟩:=qqo w;obtain ⟨n,aE⟩:=N9 (w.heap.size);rw [aE] at ah B0 a5;have aA:0 < n:=by rw [<- aE];exact aF.lt
 have aB:qac aD:=aF.qEr (n:=n) B0 aA;have av:=qh1 f aD;have ax:=qrF (listS f) (qk8 f) (qCm f) e aD aB;obtain ⟨h,aC⟩:=N9 (qdj (listS f) e);have aq:=J9 aC;obtain ⟨bo,aJ⟩:=N9 (listS f);rw [aC,aJ] at ax;rw [aJ] at av;have ao:=J9 aE;have ah:=J9 ah;have B0:=J9 B0;have o:=J9 (Zf a3 aY);have bm:=J9 aA;have aZ:=J9 aB;clear aF aB aC aJ a3 aY aA
 go_enter func187,ntmps187
 go_wp2_with fail
 refine av.mono ?_;rintro ap bp ⟨rfl,a1⟩;rw [a1];clear av a1
 go_wp2_with fail
 refine ax.mono ?_;rintro ap m ⟨rfl,O⟩;have R1:=J9 (ah.o.all O);have aj:=J9 (B0.o.trans (O.mono (by omega)));have aX:Hid (qac m):=aZ.o.below O;have bl:n+1<=m.heap.size:=by have:=O.size;omega
 clear ax O ah B0 aZ bc a5;cases h with
 | none=>
  have T:Hid (atT f e=none):=by show atT f e=none;unfold atT;rw [aq.o]
  have L:=fun l=>qds f e o.o.1 o.o.2 l
  obtain ⟨ar,G⟩:=N9 (qc9 f e);have au:=J9 G;rw [G] at L;clear G;have R2:=fun h=>J9 (R1.o.all ((Qc m.heap.size m).alloc (Qa _) h))
  have Z:=fun h=>J9 (aj.o.trans ((Qc n m).alloc (by omega) h))
  have ai:=J9 L;clear L
  go_wp2_with fail
  refine (ai.o _).mono ?_;rintro ap l ⟨rfl,p⟩;have M:=J9 ((R2 _).o.all p);have af:Hid (Below n w l):=(Z _).o.trans (p.mono (by simp;omega));clear R2 Z p R1 aj;obtain ⟨aP,aS,aN,aV,aW,aU,aM⟩:=M.o.cells;go_wp2;obtain ⟨aQ,y,ac,U,aT,-,az⟩:=M.o.put 0 0 [] (.slice none 0 0) [] false;rw [show sB []=(⟨#[]⟩:ByteArray) from rfl] at y;rw [y];obtain ⟨aa,ag,ab,ad,V,ae,-⟩:=ac.cells;refine bodyPost_ret (v:=.tuple #[enV 0 0 [] (.slice none 0 0) [] false,.int .i64 ar]) ?_ rfl ?_
  ·simp [results,results187,go_sem,aa,ag,ab,ad,V,ae,enV]
  ·rw [T.o]
   exact ⟨by rw [au.o],by rw [ao.o];exact af.o.trans U⟩
 | some aw=>
  have aG:=qoi aq.o;have aI:=qst e o.o.1 o.o.2;have ay:=fun l a8=>qlm aw f e (qgm aG e o.o.1 o.o.2) (qgm aG (op6 e) aI.1 aI.2) l a8
  have T:Hid (atT f e=qcu aw f e):=by show atT f e=_;unfold atT;rw [aq.o]
  obtain ⟨a6,aO⟩:=N9 (qcu aw f e);rw [aO] at ay T;have a4:=J9 ay;clear ay aO aI aG;have R2:=fun h=>J9 (R1.o.all ((Qc m.heap.size m).alloc (Qa _) h))
  have Z:=fun h=>J9 (aj.o.trans ((Qc n m).alloc (by omega) h))
  have a2:=fun h=>J9 (aX.o.below ((Qc m.heap.size m).alloc (Qa _) h))
  simp only [qai]
  go_wp2_with fail
  refine (a4.o _ (a2 _).o).mono ?_;rintro ap l ⟨aR,p⟩;have M:=J9 ((R2 _).o.all p);have af:Hid (Below n w l):=(Z _).o.trans (p.mono (by simp;omega));have bg:n+1<=l.heap.size:=by have:=p.size;simp at this;omega
  have ak:=fun h=>J9 (M.o.all ((Qc l.heap.size l).alloc (Qa _) h))
  have am:=fun h=>J9 (af.o.trans ((Qc n l).alloc (by omega) h))
  clear R2 Z p R1 aj a2 aX a4;cases a6 with
  | none=>
   subst aR;have bf:=J9 trivial;have bb:Hid (atT f e=none):=T.o;have L:=(fun l=>qds f e o.o.1 o.o.2 l);obtain ⟨ar,G⟩:=N9 (qc9 f e);have au:=J9 G;rw [G] at L;clear G;have ai:=J9 L;clear L;simp only [enV]
   go_wp2_with fail
   refine (ai.o _).mono ?_;rintro ap be ⟨rfl,aH⟩;have K:=J9 ((ak _).o.all aH);have al:Hid (Below n w be):=(am _).o.trans (aH.mono (by simp;omega));clear ak am aH M af bf ai;obtain ⟨aP,aS,aN,aV,aW,aU,aM⟩:=K.o.cells;go_wp2;obtain ⟨aQ,y,ac,U,aT,-,az⟩:=K.o.put 0 0 [] (.slice none 0 0) [] false;rw [show sB []=(⟨#[]⟩:ByteArray) from rfl] at y;rw [y];obtain ⟨aa,ag,ab,ad,V,ae,-⟩:=ac.cells;refine bodyPost_ret (v:=.tuple #[enV 0 0 [] (.slice none 0 0) [] false,.int .i64 ar]) ?_ rfl ?_
   ·simp [results,results187,go_sem,aa,ag,ab,ad,V,ae,enV]
   ·rw [bb.o]
    exact ⟨by rw [au.o],by rw [ao.o];exact al.o.trans U⟩
  | some a7=>
   obtain ⟨q,z,A,J⟩:=a7;obtain ⟨v,rfl,an⟩:=aR;simp only at an |-;obtain ⟨E,x,rfl,-,-⟩:=an.ops;have aK:=(fun h=>J9 ((qah.below an ((Qc _ l).alloc (Qa _) h)).lift (show n<=_ by simp;omega)));clear an M af;obtain ⟨a9,aL⟩:=N9 (l.alloc (.cells #[.int .i64 f,.int .u8 e,.string (sB q),.slice E z.length x,.string (sB A),.bool J] 163));have K:=ak (.cells #[.int .i64 f,.int .u8 e,.string (sB q),.slice E z.length x,.string (sB A),.bool J] 163);have al:=am (.cells #[.int .i64 f,.int .u8 e,.string (sB q),.slice E z.length x,.string (sB A),.bool J] 163);have a0:=aK (.cells #[.int .i64 f,.int .u8 e,.string (sB q),.slice E z.length x,.string (sB A),.bool J] 163);have bd:qbs a9 l.heap.size f e q (.slice E z.length x) A J:=(by rw [<- aL];exact World.alloc_heap_new l _);rw [aL] at K al a0;clear ak am aK;obtain ⟨bq,bi,bn,bk,bj,bh,-⟩:=bd.cells;obtain ⟨aP,aS,aN,aV,aW,aU,aM⟩:=K.o.cells;simp only [enV];go_wp2;obtain ⟨aQ,y,ac,U,aT,-,az⟩:=K.o.put f e q (.slice E z.length x) A J;rw [y];obtain ⟨aa,ag,ab,ad,V,ae,-⟩:=ac.cells;refine bodyPost_ret (v:=.tuple #[enV f e q (.slice E z.length x) A J,.int .i64 1]) ?_ rfl ?_
   ·simp [results,results187,go_sem,aa,ag,ab,ad,V,ae,enV]
   ·rw [T.o]
    exact ⟨⟨_,rfl,by rw [ao.o];exact qce K.o a0.o az⟩,by rw [ao.o];exact al.o.trans U⟩
end Go.Proofs.YtjafbmfcedijmaaGreatDoor
namespace Go.Proofs.YtjafbmfcedijmaaGreatDoor
open Tryz
open Go.RowKit Go.Shelf
attribute [local go_sem] Oper.semAt_some
theorem qyU (c:UInt8):qhX c<=2:=by
 unfold qhX;split
 ·omega
 ·split <;> omega
theorem qsd (ex:Str):∀ k,k<=ex.length->qc8 ex k<=2*k
 | 0,_=>by unfold qc8;simp
 | k+1,h=>by
  rw [qdr ex k (by omega)];have z:=qsd ex k (by omega);have y:=qyU ex[k];omega
theorem qwE (h:Int):(qaQ h).length<=2:=by
 unfold qaQ
 repeat' split
 all_goals simp
theorem qvQ (i S:Int) (m:Str) (A:Option Addr) (n cap:Nat) (ex:Str) (am:ex.length<=1000) (al:Bool) (w:World) :
  Calls prog 231 #[enV i S m (.slice A n cap) ex al] w fun h ax=>h=.returned (.int .i64 (sizeT i ex:Nat))/\Below w.heap.size w ax:=by
 unfold enV;obtain ⟨e,B⟩:=N9 (sB ex);have aj:e.size=ex.length:=by rw [<- B,qaH]
 have ab:∀ b (v:b<e.size) (ac:b<ex.length),e[b]=ex[b]:=fun b v ac=>by subst B;exact qj4 ex b v ac
 have aw:=J9 ab;have aO:=J9 am;obtain ⟨G,Z⟩:=N9 (ex.length);have ak:=J9 Z;rw [Z] at aj am;have ar:=fun (w:World)=>run_bytes_of_string (P:=prog) w 9 44 5 e underlying9 underlying44 underlying5
 rw [B];clear B ab Z;obtain ⟨J,z⟩:=N9 (w.alloc (.cells #[.int .i64 i,.int .u8 S,.string (sB m),.slice A n cap,.string e,.bool al] 163));obtain ⟨q,M⟩:=N9 (w.heap.size);have B0:Hid (Below q w J):=by rw [<- z,<- M];exact B0
 have aR:J.heap.size=q+1:=by rw [<- z,<- M];simp
 have U:J.heap[q]?=some (.cells #[.int .i64 i,.int .u8 S,.string (sB m),.slice A n cap,.string e,.bool al] 163 (0,0)):=by rw [<- z,<- M];exact World.alloc_heap_new w _
 have ad:=J9 U;have af:=qdM i J;have aC:=C9 U 0;have ay:=J9 M;have aA:=J9 (qwE i);obtain ⟨O,K⟩:=N9 ((qaQ i).length);have aB:=J9 K;clear U
 go_enter func231,ntmps231
 go_wp2_with fail
 refine af.mono ?_;rintro h o ⟨aK,rfl,ae,y⟩;obtain ⟨A1,aM,rfl,-⟩:=ae.bytes;rw [K];have aq:=J9 (B0.o.trans (y.mono (by omega)));have R:=(y.block q (by omega)).trans ad.o;have aJ:=J9 R;have aP:=C9 R 4;have aH:O<=2:=by rw [<- K];exact aA.o
 have E:=J9 (qdN o e (grownCap o e.size 0 5) 5);have T:Hid (Below q w (o.alloc (.cells (bytesRow e (grownCap o e.size 0 5)) 5 ((bytesRow e (grownCap o e.size 0 5)).size,(bytesRow e (grownCap o e.size 0 5)).size+1))).drew):=
  (aq.o.alloc (by have:=y.size;omega) _).drew
 rw [aj] at E T;obtain ⟨ai,aE⟩:=N9 (o.heap.size);rw [aE] at E;clear af ae y R aC z B0 ad K;go_wp2;clear ar
 go_loopw [15,3] (fun V aD wr=>∃ b:Nat,b<=G/\V=.int .i64 b/\aD=.int .i64 ((O+1+qc8 ex b:Nat):Int)/\Hid (qpb wr e ai)/\Hid (Below q w wr)) (fun V _ _=>G - (intOf V).toNat)
 case atStart=>exact ⟨0,Qs _,rfl,rfl,E.o,T.o⟩
 case round=>
  clear E T;obtain ⟨b,aQ,rfl,rfl,s,t⟩:=hrel;by_cases az:b<G
  ·have ah:b<e.size:=by omega
   have aa:b<ex.length:=(by rw [ak.o];exact az);have ag:wr.cell? ⟨ai,b,none⟩=some (.int .u8 (e[b].toNat:Int)):=s.o b ah;rw [aw.o b ah aa] at ag;have l:=qdr ex b aa;have av:=qsd ex b (by omega);obtain ⟨c,an⟩:=N9 (ex[b]);rw [an] at ag l;obtain ⟨aG,ao⟩:=N9 (qc8 ex b);rw [ao] at l av |-;have l:=J9 l;clear an ao;have aN:b<=1000:=(by omega);go_wp2
   ·have h:c=100:=Qt (qeQ c 100 (by decide) true (by assumption))
    have k:qhX c=1:=(by rw [h];rfl);go_roundw
    case rel=>exact ⟨b+1,by omega,by go_num,by rw [l.o,k];go_num,s,t⟩
    case measure=>simp [intOf];omega
   ·have h:c=101:=Qt (qeQ c 101 (by decide) true (by assumption))
    have k:qhX c=1:=(by rw [h];rfl);go_roundw
    case rel=>exact ⟨b+1,by omega,by go_num,by rw [l.o,k];go_num,s,t⟩
    case measure=>simp [intOf];omega
   ·have h:c=110:=Qt (qeQ c 110 (by decide) true (by assumption))
    have k:qhX c=1:=(by rw [h];rfl);go_roundw
    case rel=>exact ⟨b+1,by omega,by go_num,by rw [l.o,k];go_num,s,t⟩
    case measure=>simp [intOf];omega
   ·have h:c=119:=Qt (qeQ c 119 (by decide) true (by assumption))
    have k:qhX c=2:=(by rw [h];rfl);go_roundw
    case rel=>exact ⟨b+1,by omega,by go_num,by rw [l.o,k];go_num,s,t⟩
    case measure=>simp [intOf];omega
   ·have aI:¬c=100:=Q3 (qeQ c 100 (by decide) false (by assumption))
    have aF:¬c=101:=Q3 (qeQ c 101 (by decide) false (by assumption));have aL:¬c=110:=Q3 (qeQ c 110 (by decide) false (by assumption));have au:¬c=119:=Q3 (qeQ c 119 (by decide) false (by assumption));have k:qhX c=0:=by unfold qhX;rw [Qd (by rintro (v | v | v) <;> contradiction),Qd au]
    go_roundw
    case rel=>exact ⟨b+1,by omega,by go_num,by rw [l.o,k];go_num,s,t⟩
    case measure=>simp [intOf];omega
  ·obtain rfl:b=G:=by omega
   have ap:Hid (sizeT i ex=O+1+qc8 ex b):=(by show sizeT i ex=_;unfold sizeT;rw [aB.o,ak.o]);go_wp2;go_ret;exact ⟨by rw [ap.o];rfl,by rw [ay.o];exact t.o⟩
end Go.Proofs.YtjafbmfcedijmaaGreatDoor
namespace Go.Proofs.YtjafbmfcedijmaaGreatDoor
open Tryz
open Go.RowKit
def exB (g:Int) (n:Nat) (ex:Str):Bool:=
 (ex == []||ex == [100]||ex == [101]||ex == [110]||ex == [119]||ex == [100,110])&&(decide (g<5)||ex == [100]) &&
 (g != 0||(n != 203&&n != 221&&n != 237&&n != 253))&&((g != 3&&g != 4)||n != 203)
def exN (g n:Nat):Bool:=match qaX (g:Int) n with
 | some h=>exB (g:Int) n h.2.2.1
 | none=>true
theorem qDW:∀ h:Fin 7,∀ g:Fin 256,exN h.val g.val=true:=by decide +kernel
theorem qDo {g:Int} {n:Nat} (G:n<256) {x:En} (y:qaX g n=some x):exB g n x.2.2.1=true/\0<=g/\g<=6:=by
 by_cases E:0<=g/\g<=6
 ·obtain ⟨h,rfl⟩:∃ h:Nat,g=(h:Int):=⟨g.toNat,by omega⟩
  have z:=qDW ⟨h,by omega⟩ ⟨n,G⟩;unfold exN at z;rw [y] at z;exact ⟨z,E⟩
 ·rw [qg1 E] at y
  cases y
structure ExP (g:Int) (n:Nat) (ex:Str):Prop where
 lst:ex=[]\/ex=[100]\/ex=[101]\/ex=[110]\/ex=[119]\/ex=[100,110]
 hi:5<=g->ex=[100]
 main:g=0->n≠203/\n≠221/\n≠237/\n≠253
 ind:g=3\/g=4->n≠203
 pg:0<=g/\g<=6
theorem qip {z:Int} {n:Nat} (E:n<256) {x:En} (b:qaX z n=some x):ExP z n x.2.2.1:=by
 obtain ⟨y,G⟩:=qDo E b;unfold exB at y;simp only [Qh,Zp,beq_iff_eq,Zn,Ql,ne_eq] at y;obtain ⟨⟨⟨a,h⟩,c⟩,d⟩:=y;refine ⟨?_,fun b=>?_,fun b=>?_,fun b=>?_,G⟩
 ·rcases a with ((((a | a) | a) | a) | a) | a
  ·exact .inl a
  ·exact .inr (.inl a)
  ·exact .inr (.inr (.inl a))
  ·exact .inr (.inr (.inr (.inl a)))
  ·exact .inr (.inr (.inr (.inr (.inl a))))
  ·exact .inr (.inr (.inr (.inr (.inr a))))
 ·rcases h with h | h
  ·omega
  ·exact h
 ·rcases c with c | c
  ·exact absurd b c
  ·exact ⟨c.1.1.1,c.1.1.2,c.1.2,c.2⟩
 ·rcases d with d | d
  ·rcases b with b | b
   ·exact absurd b d.1
   ·exact absurd b d.2
  ·exact d
def qwW (ex:Str) (d n:Int):Prop:=
 (ex=[]->d=0/\n=0)/\(ex=[100]->-128<=d/\d<=127/\n=0)/\(ex=[101]->d=0/\-128<=n/\n<=127)/\(ex=[110]->d=0/\0<=n/\n<=255)/\(ex=[119]->d=0/\0<=n/\n<=65535)/\(ex=[100,110]->-128<=d/\d<=127/\0<=n/\n<=255)
theorem qhd {k:Ke} (G:qcU k) (d n:Int):(qAs k.1 k.2.1 k.2.2.2.2.1 d n).length=sizeT k.1 k.2.2.2.2.1/\1<=sizeT k.1 k.2.2.2.2.1/\sizeT k.1 k.2.2.2.2.1<=4:=by
 obtain ⟨g,O,J,L,m,V⟩:=k;obtain ⟨K,z,o,E⟩:=G;have h:=qip z E;simp only at h o |-;subst o;obtain ⟨U,M⟩:=h.pg;have y:1<=sizeT g m/\sizeT g m<=4:=by
  by_cases i:5<=g
  ·rw [h.hi i]
   rcases (by omega:g=5\/g=6) with rfl | rfl <;> decide
  ·rcases (by omega:g=0\/g=1\/g=2\/g=3\/g=4) with rfl | rfl | rfl | rfl | rfl <;> rcases h.lst with rfl | rfl | rfl | rfl | rfl | rfl <;> decide
 refine ⟨?_,y⟩;unfold qAs sizeT;by_cases i:5<=g
 ·rw [Qk i,h.hi i]
  rcases (by omega:g=5\/g=6) with rfl | rfl <;> rfl
 ·rw [Qd i,Qg]
  rcases h.lst with rfl | rfl | rfl | rfl | rfl | rfl <;> rfl
theorem qzo (t:Str):qdb [] t=(0,0):=by unfold qdb;rw [Qd (by decide),Qd (by decide),Qd (by decide),Qd (by decide),Qd (by decide)]
theorem qmR (t:Str):qdb [100] t=(sgB (t.getD 0 0),0):=by unfold qdb;rw [Qk rfl]
theorem quz (t:Str):qdb [101] t=(0,sgB (t.getD 0 0)):=by unfold qdb;rw [Qd (by decide),Qk rfl]
theorem qvw (t:Str):qdb [110] t=(0,((t.getD 0 0).toNat:Int)):=by unfold qdb;rw [Qd (by decide),Qd (by decide),Qk rfl]
theorem qtP (t:Str):qdb [119] t=(0,((t.getD 0 0).toNat:Int)+256*((t.getD 1 0).toNat:Int)):=by unfold qdb;rw [Qd (by decide),Qd (by decide),Qd (by decide),Qk rfl]
theorem qni (t:Str):qdb [100,110] t=(sgB (t.getD 0 0),((t.getD 1 0).toNat:Int)):=by unfold qdb;rw [Qd (by decide),Qd (by decide),Qd (by decide),Qd (by decide),Qk rfl]
theorem qy8 (c:UInt8) : -128<=sgB c/\sgB c<=127:=by
 have:=c.toNat_lt;unfold sgB qtE;split <;> omega
theorem qm5 {g:Int} {i:Nat} {ex:Str} (h:ExP g i ex) (t:Str):qwW ex (qdb ex t).1 (qdb ex t).2:=by
 have y:=qy8 (t.getD 0 0);have E:=(t.getD 0 0).toNat_lt;have z:=(t.getD 1 0).toNat_lt;rcases h.lst with rfl | rfl | rfl | rfl | rfl | rfl
 ·rw [qzo];exact ⟨fun _=>⟨rfl,rfl⟩,by simp,by simp,by simp,by simp,by simp⟩
 ·rw [qmR];exact ⟨by simp,fun _=>by refine ⟨?_,?_,?_⟩ <;> simp only <;> omega,by simp,by simp,by simp,by simp⟩
 ·rw [quz];exact ⟨by simp,by simp,fun _=>by refine ⟨?_,?_,?_⟩ <;> simp only <;> omega,by simp,by simp,by simp⟩
 ·rw [qvw];exact ⟨by simp,by simp,by simp,fun _=>by refine ⟨?_,?_,?_⟩ <;> simp only <;> omega,by simp,by simp⟩
 ·rw [qtP];exact ⟨by simp,by simp,by simp,by simp,fun _=>by refine ⟨?_,?_,?_⟩ <;> simp only <;> omega,by simp⟩
 ·rw [qni];exact ⟨by simp,by simp,by simp,by simp,by simp,fun _=>by refine ⟨?_,?_,?_,?_⟩ <;> simp only <;> omega⟩
def qCd (L:List Tr) (ex:Str):Bool:=(!ex.contains 100||(atV (varsV ex).1.1 L).isSome)&&(!(ex.contains 101||ex.contains 110||ex.contains 119)||(atV (varsV ex).2.1 L).isSome)
def qDH (g n:Nat):Bool:=match qaX (g:Int) n with
 | some h=>qCd h.2.1 h.2.2.1
 | none=>true
theorem qC9:∀ h:Fin 7,∀ g:Fin 256,qDH h.val g.val=true:=by decide +kernel
theorem qte {h:Int} {n:Nat} (z:n<256) {x:En} (E:qaX h n=some x):qCd x.2.1 x.2.2.1=true:=by
 obtain ⟨J,G⟩:=(qip z E).pg;obtain ⟨g,rfl⟩:∃ g:Nat,h=(g:Int):=⟨h.toNat,by omega⟩;have y:=qC9 ⟨g,by omega⟩ ⟨n,z⟩;unfold qDH at y;rw [E] at y;exact y
theorem qde {v:Vr} {L:List Tr} {n:Int} (h:(atV v.1 L).isSome=true/\v.2.1<=n/\n<=v.2.2\/n=0/\v.2.1<=0/\0<=v.2.2):qcN v L n=true:=by
 unfold qcN;cases k:atV v.1 L with
 | none=>
  rw [k] at h;rcases h with ⟨h,-⟩ | ⟨rfl,-⟩
  ·cases h
  ·simp
 | some y=>
  simp only;unfold inV;rcases h with ⟨-,h⟩ | ⟨rfl,h⟩ <;> simp [h]
theorem qm6 {g:Int} {i:Nat} {ex:Str} (G:ExP g i ex) {L:List Tr} (z:qCd L ex=true) {d n:Int} (ab:qwW ex d n):∃ O,qaZ ex L d n=some O:=by
 obtain ⟨Z,U,V,K,aa,ac⟩:=ab;have E:qcN (varsV ex).1 L d=true/\qcN (varsV ex).2 L n=true:=by
  unfold qCd at z;rcases G.lst with rfl | rfl | rfl | rfl | rfl | rfl
  ·obtain ⟨rfl,rfl⟩:=Z rfl
   exact ⟨qde (.inr ⟨rfl,by decide⟩),qde (.inr ⟨rfl,by decide⟩)⟩
  ·obtain ⟨y,h,rfl⟩:=U rfl
   exact ⟨qde (.inl ⟨by simpa using z,y,h⟩),qde (.inr ⟨rfl,by decide⟩)⟩
  ·obtain ⟨rfl,y,h⟩:=V rfl
   exact ⟨qde (.inr ⟨rfl,by decide⟩),qde (.inl ⟨by simpa using z,y,h⟩)⟩
  ·obtain ⟨rfl,y,h⟩:=K rfl
   exact ⟨qde (.inr ⟨rfl,by decide⟩),qde (.inl ⟨by simpa using z,y,h⟩)⟩
  ·obtain ⟨rfl,y,h⟩:=aa rfl
   exact ⟨qde (.inr ⟨rfl,by decide⟩),qde (.inl ⟨by simpa using z,y,h⟩)⟩
  ·obtain ⟨y,h,M,J⟩:=ac rfl
   have C:(atV (varsV [100,110]).1.1 L).isSome=true/\(atV (varsV [100,110]).2.1 L).isSome=true:=(by simpa using z);exact ⟨qde (.inl ⟨C.1,y,h⟩),qde (.inl ⟨C.2,M,J⟩)⟩
 unfold qaZ;rw [qis (varsV ex).2 (qa2 (varsV ex).1.1 L d) n];simp [E.1,E.2]
theorem qqE {b:Str} {p:Int} {o:UInt8} {t:Str} (c:hdB b=some (p,o,t)):(0<=p/\p<=6)/\((¬5<=p/\b=qaQ p++o :: t)\/(5<=p/\∃ x u,t=x :: u/\b=qaQ p++x :: o :: u)):=by
 cases b with
 | nil=>cases c
 | cons G r=>
  simp only [hdB] at c;split at c
  ·rename_i h
   subst h;cases r with
   | nil=>cases c
   | cons v u=>simp only [Qz,Zq] at c;obtain ⟨rfl,rfl,rfl⟩:=c;exact ⟨by omega,.inl ⟨by omega,rfl⟩⟩
  ·split at c
   ·rename_i h
    subst h;cases r with
    | nil=>cases c
    | cons v u=>simp only [Qz,Zq] at c;obtain ⟨rfl,rfl,rfl⟩:=c;exact ⟨by omega,.inl ⟨by omega,rfl⟩⟩
   ·split at c
    ·rename_i h
     subst h;cases r with
     | nil=>cases c
     | cons v u=>
      simp only at c;split at c
      ·rename_i y
       subst y
       match u,c with
       | [],c=>cases c
       | [_],c=>cases c
       | x :: E :: z,c=>simp only [Qz,Zq] at c;obtain ⟨rfl,rfl,rfl⟩:=c;exact ⟨by omega,.inr ⟨by omega,x,z,rfl,rfl⟩⟩
      ·simp only [Qz,Zq] at c;obtain ⟨rfl,rfl,rfl⟩:=c;exact ⟨by omega,.inl ⟨by omega,rfl⟩⟩
    ·split at c
     ·rename_i h
      subst h;cases r with
      | nil=>cases c
      | cons v u=>
       simp only at c;split at c
       ·rename_i y
        subst y
        match u,c with
        | [],c=>cases c
        | [_],c=>cases c
        | x :: E :: z,c=>simp only [Qz,Zq] at c;obtain ⟨rfl,rfl,rfl⟩:=c;exact ⟨by omega,.inr ⟨by omega,x,z,rfl,rfl⟩⟩
       ·simp only [Qz,Zq] at c;obtain ⟨rfl,rfl,rfl⟩:=c;exact ⟨by omega,.inl ⟨by omega,rfl⟩⟩
     ·simp only [Qz,Zq] at c;obtain ⟨rfl,rfl,rfl⟩:=c;exact ⟨by omega,.inl ⟨by omega,rfl⟩⟩
def qCx (p n:Nat):Bool:=(qaX (p:Int) n).isSome||decide (rkindT (p:Int) n=0)||(decide (rkindT (p:Int) n=3)&&decide (p=2))||(decide (p=0)&&(n == 203||n == 221||n == 237||n == 253))||((decide (p=3)||decide (p=4))&&n == 203)
theorem qAM:∀ h:Fin 7,∀ g:Fin 256,qCx h.val g.val=true:=by decide +kernel
theorem qmN {b:Str} {p:Int} {o:UInt8} {t:Str} (c:hdB b=some (p,o,t)) (K:qaX p o.toNat=none):rkindT p o.toNat=0\/(rkindT p o.toNat=3/\p=2):=by
 have ae:=(qqE c).1;have ab:=o.toNat_lt;obtain ⟨r,rfl⟩:∃ r:Nat,p=(r:Int):=⟨p.toNat,by omega⟩;have e:=qAM ⟨r,by omega⟩ ⟨o.toNat,ab⟩;unfold qCx at e;simp only [K,Option.isSome_none,Bool.false_or,Zp,Qh,Ql,beq_iff_eq] at e;have y:∀ u:Nat,u<256->o.toNat=u->o=UInt8.ofNat u:=fun u e aa=>by
  refine UInt8.toNat_inj.1 ?_;rw [UInt8.toNat_ofNat_of_lt' (show u<256 from e)];exact aa
 rcases e with ((e | e) | e) | e
 ·exact .inl e
 ·exact .inr ⟨e.1,by omega⟩
 ·exfalso
  obtain ⟨J,e⟩:=e;obtain rfl:r=0:=J;cases b with
  | nil=>cases c
  | cons k g=>
   have U:k≠203/\k≠237/\k≠221/\k≠253/\o=k:=by
    simp only [hdB] at c;refine ⟨?_,?_,?_,?_,?_⟩
    ·rintro rfl;rw [Qk rfl] at c;cases g <;> simp at c
    ·rintro rfl;rw [Qd (by decide),Qk rfl] at c;cases g <;> simp at c
    ·rintro rfl
     rw [Qd (by decide),Qd (by decide),Qk rfl] at c;cases g with
     | nil=>cases c
     | cons E h=>
      simp only at c;split at c
      ·match h,c with
       | [],c=>cases c
       | [_],c=>cases c
       | x :: z :: v,c=>simp at c
      ·simp at c
    ·rintro rfl
     rw [Qd (by decide),Qd (by decide),Qd (by decide),Qk rfl] at c;cases g with
     | nil=>cases c
     | cons E h=>
      simp only at c;split at c
      ·match h,c with
       | [],c=>cases c
       | [_],c=>cases c
       | x :: z :: v,c=>simp at c
      ·simp at c
    ·split at c
     ·cases g <;> simp at c
     ·split at c
      ·cases g <;> simp at c
      ·split at c
       ·cases g with
        | nil=>cases c
        | cons E h=>
         simp only at c;split at c
         ·match h,c with
          | [],c=>cases c
          | [_],c=>cases c
          | x :: z :: v,c=>simp at c
         ·simp at c
       ·split at c
        ·cases g with
         | nil=>cases c
         | cons E h=>
          simp only at c;split at c
          ·match h,c with
           | [],c=>cases c
           | [_],c=>cases c
           | x :: z :: v,c=>simp at c
          ·simp at c
        ·simp only [Qz,Zq] at c
         exact c.2.1.symm
   obtain ⟨M,O,Z,V,rfl⟩:=U;rcases e with ((e | e) | e) | e
   ·exact M (y 203 (by decide) e)
   ·exact Z (y 221 (by decide) e)
   ·exact O (y 237 (by decide) e)
   ·exact V (y 253 (by decide) e)
 ·exfalso
  obtain ⟨J,e⟩:=e;have ac:o=203:=y 203 (by decide) e;subst ac;have ad:(r:Int)=3\/(r:Int)=4:=by omega
  cases b with
  | nil=>cases c
  | cons k g=>
   simp only [hdB] at c;split at c
   ·cases g <;> simp at c;omega
   ·split at c
    ·cases g <;> simp at c;omega
    ·split at c
     ·cases g with
      | nil=>cases c
      | cons E h=>
       simp only at c;split at c
       ·match h,c with
        | [],c=>cases c
        | [_],c=>cases c
        | x :: z :: v,c=>simp at c;omega
       ·rename_i G
        simp only [Qz,Zq] at c;exact G c.2.1
     ·split at c
      ·cases g with
       | nil=>cases c
       | cons E h=>
        simp only at c;split at c
        ·match h,c with
         | [],c=>cases c
         | [_],c=>cases c
         | x :: z :: v,c=>simp at c;omega
        ·rename_i G
         simp only [Qz,Zq] at c;exact G c.2.1
      ·simp only [Qz,Zq] at c;omega
theorem qqF {b:Str} {p:Int} {o:UInt8} {t:Str} (h:hdB b=some (p,o,t)):(qaQ p).length+1<=b.length/\(5<=p->4<=b.length):=by
 obtain ⟨E,x⟩:=qqE h;rcases x with ⟨u,rfl⟩ | ⟨u,y,z,rfl,rfl⟩
 ·exact ⟨by rw [Qg,Qv];omega,fun h=>absurd h u⟩
 ·refine ⟨by rw [Qg,Qv,Qv];omega,fun _=>?_⟩
  have:(qaQ p).length=2:=by rcases (by omega:p=5\/p=6) with rfl | rfl <;> rfl
  rw [Qg,Qv,Qv];omega
theorem qeU {b:Str} {p:Int} {o:UInt8} {t:Str} (x:hdB b=some (p,o,t)):needR b=match qaX p o.toNat with | none=>if rkindT p o.toNat=0 then 1 else 2 | some h=>sizeT p h.2.2.1:=by
 unfold needR;rw [x];try rfl
def pgA:Str->Int×Nat
 | []=>(0,0)
 | c :: r=>if c=203 then (1,1) else if c=237 then (2,1) else if c=221 then (if r.head?=some 203 then (5,3) else (3,1)) else if c=253 then (if r.head?=some 203 then (6,3) else (4,1)) else (0,0)
def nxA (b:Str):Nat:=if 5<=(pgA b).1 then 2 else (pgA b).2+1
theorem qxj {b:Str} (c:b.length<=(pgA b).2):hdB b=none:=by
 cases b with
 | nil=>rfl
 | cons z r=>
  simp only [pgA,hdB,Qv] at c |-;split
  ·rw [Qk ‹_›] at c
   cases r with
   | nil=>rfl
   | cons v h=>simp at c
  ·rw [Qd ‹_›] at c
   split
   ·rw [Qk ‹_›] at c
    cases r with
    | nil=>rfl
    | cons v h=>simp at c
   ·rw [Qd ‹_›] at c
    split
    ·rw [Qk ‹_›] at c
     cases r with
     | nil=>rfl
     | cons v h=>
      simp only [List.head?_cons,Qz] at c |-;split
      ·rw [Qk ‹_›] at c
       match h,c with
       | [],c=>rfl
       | [u],c=>rfl
       | u :: x :: y,c=>simp at c
      ·rw [Qd ‹_›] at c
       simp at c
    ·rw [Qd ‹_›] at c
     split
     ·rw [Qk ‹_›] at c
      cases r with
      | nil=>rfl
      | cons v h=>
       simp only [List.head?_cons,Qz] at c |-;split
       ·rw [Qk ‹_›] at c
        match h,c with
        | [],c=>rfl
        | [u],c=>rfl
        | u :: x :: y,c=>simp at c
       ·rw [Qd ‹_›] at c
        simp at c
     ·rw [Qd ‹_›] at c
      simp at c
theorem qxU {b:Str} (c:(pgA b).2<b.length):hdB b=some ((pgA b).1,b[(pgA b).2],if 5<=(pgA b).1 then b.getD 2 0 :: b.drop 4 else b.drop ((pgA b).2+1)):=by
 cases b with
 | nil=>simp at c
 | cons v x=>
  by_cases J:v=203
  ·subst J
   cases x with
   | nil=>simp [pgA] at c
   | cons e r=>rfl
  ·by_cases G:v=237
   ·subst G
    cases x with
    | nil=>simp [pgA] at c
    | cons e r=>rfl
   ·by_cases y:v=221
    ·subst y
     cases x with
     | nil=>simp [pgA] at c
     | cons e r=>
      by_cases h:e=203
      ·subst h
       match r,c with
       | [],c=>simp [pgA] at c
       | [z],c=>simp [pgA] at c
       | z :: K :: M,c=>rfl
      ·have u:pgA (221 :: e :: r)=(3,1):=by simp [pgA,h]
       simp only [u];simp [hdB,h]
    ·by_cases E:v=253
     ·subst E
      cases x with
      | nil=>simp [pgA] at c
      | cons e r=>
       by_cases h:e=203
       ·subst h
        match r,c with
        | [],c=>simp [pgA] at c
        | [z],c=>simp [pgA] at c
        | z :: K :: M,c=>rfl
       ·have u:pgA (253 :: e :: r)=(4,1):=by simp [pgA,h]
        simp only [u];simp [hdB,h]
     ·have u:pgA (v :: x)=(0,0):=by simp [pgA,J,G,y,E]
      simp only [u];simp [hdB,J,G,y,E]
theorem qwS (b:Str):(0<=(pgA b).1/\(pgA b).1<=6)/\(pgA b).2<=3/\(5<=(pgA b).1↔(pgA b).2=3):=by
 cases b with
 | nil=>decide
 | cons c h=>
  simp only [pgA]
  repeat' split
  all_goals decide
end Go.Proofs.YtjafbmfcedijmaaGreatDoor
namespace Go.Proofs.YtjafbmfcedijmaaGreatDoor
open Tryz
open Go.RowKit Go.Shelf
theorem qlP (w:World):Calls prog 143 #[.int .i64 1] w (qlD w [203]):=by
 have h:=J9 (qbo w [203] (by decide))
 go_enter func143,ntmps143
 go_wp2;go_ret;exact ⟨_,rfl,h.o,B0⟩
theorem qmi (w:World):Calls prog 143 #[.int .i64 2] w (qlD w [237]):=by
 have h:=J9 (qbo w [237] (by decide))
 go_enter func143,ntmps143
 go_wp2;go_ret;exact ⟨_,rfl,h.o,B0⟩
theorem qmb (w:World):Calls prog 143 #[.int .i64 3] w (qlD w [221]):=by
 have h:=J9 (qbo w [221] (by decide))
 go_enter func143,ntmps143
 go_wp2;go_ret;exact ⟨_,rfl,h.o,B0⟩
theorem qmo (w:World):Calls prog 143 #[.int .i64 4] w (qlD w [253]):=by
 have h:=J9 (qbo w [253] (by decide))
 go_enter func143,ntmps143
 go_wp2;go_ret;exact ⟨_,rfl,h.o,B0⟩
theorem ql3 (w:World):Calls prog 143 #[.int .i64 5] w (qlD w [221,203]):=by
 have h:=J9 (qbo w [221,203] (by decide))
 go_enter func143,ntmps143
 go_wp2;go_ret;exact ⟨_,rfl,h.o,B0⟩
theorem qm4 (w:World):Calls prog 143 #[.int .i64 6] w (qlD w [253,203]):=by
 have h:=J9 (qbo w [253,203] (by decide))
 go_enter func143,ntmps143
 go_wp2;go_ret;exact ⟨_,rfl,h.o,B0⟩
theorem qi8 (h:Int) (w:World):Calls prog 143 #[.int .i64 h] w (qlD w (qaQ h)):=by
 unfold qaQ;by_cases y:h=1
 ·rw [Qk y];subst y;exact qlP w
 by_cases z:h=2
 ·rw [Qd y,Qk z];subst z;exact qmi w
 by_cases E:h=3
 ·rw [Qd y,Qd z,Qk E];subst E;exact qmb w
 by_cases G:h=4
 ·rw [Qd y,Qd z,Qd E,Qk G];subst G;exact qmo w
 by_cases J:h=5
 ·rw [Qd y,Qd z,Qd E,Qd G,Qk J];subst J;exact ql3 w
 by_cases K:h=6
 ·rw [Qd y,Qd z,Qd E,Qd G,Qd J,Qk K];subst K;exact qm4 w
 rw [Qd y,Qd z,Qd E,Qd G,Qd J,Qd K];have aa:(h == 1)=false:=by simpa using y
 have O:(h == 2)=false:=by simpa using z
 have Z:(h == 3)=false:=by simpa using E
 have M:(h == 4)=false:=by simpa using G
 have V:(h == 5)=false:=by simpa using J
 have U:(h == 6)=false:=by simpa using K
 clear y z E G J K
 go_enter func143,ntmps143
 go_wp2;go_ret;exact ⟨_,rfl,Zm _ _ _ _,Qc _ _⟩
def qeP (l:Str):Nat->Nat
 | 0=>0
 | k+1=>if l[k]?.getD 0=119 then qeP l k+2 else qeP l k+1
theorem qns (l:Str):∀ h,qeP l h<=2*h
 | 0=>Qa _
 | h+1=>by
  have:=qns l h;unfold qeP;split <;> omega
def rsizeT (h:Int) (ex:Str):Nat:=(qaQ h).length+1+qeP ex ex.length
theorem qsA (h E:Int) (m:Str) (A:Option Addr) (n cap:Nat) (ex:Str) (ap:ex.length<=1000) (al:Bool) (w:World) :
  Calls prog 97 #[enV h E m (.slice A n cap) ex al] w fun am aA=>am=.returned (.int .i64 (rsizeT h ex:Nat))/\Below w.heap.size w aA:=by
 unfold enV;obtain ⟨e,o⟩:=N9 (sB ex);have ah:e.size=ex.length:=by rw [<- o,qaH]
 have aj:∀ b (T:b<e.size) (af:b<ex.length),e[b]=ex[b]:=fun b T af=>by subst o;exact qj4 ex b T af
 have ay:=J9 aj;obtain ⟨v,J⟩:=N9 (ex.length);have an:=J9 J;rw [J] at ah ap;rw [o];clear o aj J;obtain ⟨y,l⟩:=N9 (w.alloc (.cells #[.int .i64 h,.int .u8 E,.string (sB m),.slice A n cap,.string e,.bool al] 66));obtain ⟨s,t⟩:=N9 (w.heap.size);have B0:Hid (Below s w y):=by rw [<- l,<- t];exact B0
 have aF:y.heap.size=s+1:=by rw [<- l,<- t];simp
 have M:y.heap[s]?=some (.cells #[.int .i64 h,.int .u8 E,.string (sB m),.slice A n cap,.string e,.bool al] 66 (0,0)):=by rw [<- l,<- t];exact World.alloc_heap_new w _
 have ag:=J9 M;have ak:=qi8 h y;have aq:=C9 M 0;have au:=J9 t;have ax:=J9 (qwE h);obtain ⟨K,k⟩:=N9 ((qaQ h).length);have aB:=J9 k;have aM:=J9 ah;clear M
 go_enter func97,ntmps97
 go_wp2_with fail
 refine ak.mono ?_;rintro am aC ⟨aH,rfl,ai,z⟩;obtain ⟨A1,aI,rfl,-⟩:=ai.bytes;rw [k];have av:=J9 (B0.o.trans (z.mono (by omega)));have U:=(z.block s (by omega)).trans ag.o;have aD:=J9 U;have ab:=C9 U 4;have aJ:K<=2:=by rw [<- k];exact ax.o
 clear ak ai z U aq l B0 ag k aF;go_wp2;clear ab
 go_loopw [4,3] (fun G az wr=>∃ b:Nat,b<=v/\G=.int .i64 b/\az=.int .i64 ((K+1+qeP ex b:Nat):Int)/\wr=aC) (fun G _ _=>v - (intOf G).toNat)
 case atStart=>exact ⟨0,Qs _,rfl,rfl,rfl⟩
 case round=>
  obtain ⟨b,aL,rfl,rfl,rfl⟩:=hrel;have ab:=C9 aD.o 4;by_cases aw:b<v
  ·have ao:b<e.size:=by omega
   have Z:b<ex.length:=(by rw [an.o];exact aw);have aG:=qns ex b;have ad:ex[b]?.getD 0=e[b]:=(by rw [Qi Z,Option.getD_some];exact (ay.o b ao Z).symm);have ae:=J9 ad;obtain ⟨ac,V⟩:=N9 (qeP ex b);rw [V] at aG |-;have aa:=J9 V;clear ad V;have aK:b<=1000:=(by omega);by_cases i:e[b]=119
   ·have O:Hid (qeP ex (b+1)=ac+2):=by show qeP ex (b+1)=_;rw [qeP,Qk (ae.o.trans i),aa.o]
    have aE:e[b].toNat=119:=(by rw [i];rfl);clear i;go_wp2;go_roundw
    case rel=>exact ⟨b+1,by omega,by go_num,by rw [O.o];go_num,trivial⟩
    case measure=>simp [intOf];omega
   ·have O:Hid (qeP ex (b+1)=ac+1):=by show qeP ex (b+1)=_;rw [qeP,Qd (by rw [ae.o];exact i),aa.o]
    have aE:((e[b].toNat:Int) == 119)=false:=by
     simp;intro T;exact i (UInt8.toNat_inj.1 (by rw [show (119:UInt8).toNat=119 from rfl];omega))
    clear i;go_wp2;go_roundw
    case rel=>exact ⟨b+1,by omega,by go_num,by rw [O.o];go_num,trivial⟩
    case measure=>simp [intOf];omega
  ·obtain rfl:b=v:=by omega
   have ar:Hid (rsizeT h ex=K+1+qeP ex b):=(by show rsizeT h ex=_;unfold rsizeT;rw [aB.o,an.o]);go_wp2;go_ret;exact ⟨by rw [ar.o];rfl,by rw [au.o];exact av.o⟩
end Go.Proofs.YtjafbmfcedijmaaGreatDoor
namespace Go.Proofs.YtjafbmfcedijmaaGreatDoor
open Tryz
open Go.RowKit
def stJ (ex:Str) (b:Str) (h:Nat):Nat->Int×Int
 | 0=>(0,0)
 | j+1=>qa1 (ex.getD j 0) (b.drop (h+j)) (stJ ex b h j)
theorem qzz {g:Int} {i:Nat} {ex:Str} (h:ExP g i ex):rsizeT g ex=sizeT g ex:=by
 obtain ⟨y,z⟩:=h.pg;rcases (by omega:g=0\/g=1\/g=2\/g=3\/g=4\/g=5\/g=6) with rfl | rfl | rfl | rfl | rfl | rfl | rfl <;> rcases h.lst with rfl | rfl | rfl | rfl | rfl | rfl <;> decide
theorem getD_drop (b:Str) (k j:Nat):(b.drop k).getD j 0=b.getD (k+j) 0:=by rw [Qo,Qo,Zl]
theorem qAY {b:Str} {g:Int} {i:Nat} {ex:Str} (z:ExP g i ex) (E:(pgA b).1=g) (J:(pgA b).2<b.length) :
  stJ ex b (nxA b) ex.length=qdb ex (if 5<=(pgA b).1 then b.getD 2 0 :: b.drop 4 else b.drop ((pgA b).2+1)):=by
 unfold nxA;rw [E];by_cases h:5<=g
 ·rw [Qk h,Qk h]
  obtain rfl:=z.hi h;rw [qmR];show qa1 100 (b.drop 2) (0,0)=_;simp only [qa1,if_true,getD_drop,List.getD_cons_zero]
 ·rw [Qd h,Qd h]
  generalize (pgA b).2+1=y;rcases z.lst with rfl | rfl | rfl | rfl | rfl | rfl
  ·rw [qzo];rfl
  ·rw [qmR];rfl
  ·rw [quz];rfl
  ·rw [qvw];rfl
  ·rw [qtP];rfl
  ·rw [qni]
   show qa1 110 (b.drop (y+1)) (qa1 100 (b.drop (y+0)) (0,0))=_;have G:qa1 100 (b.drop (y+0)) (0,0)=(sgB ((b.drop y).getD 0 0),0):=(by unfold qa1;rw [Qk rfl];rfl);rw [G];unfold qa1;rw [Qd (by decide),Qd (by decide),Qk rfl];simp only [getD_drop,Nat.add_zero]
theorem qAN {b:Str} {g:Int} {i:Nat} {ex:Str} (r:ExP g i ex) (h:(pgA b).1=g) (J:sizeT g ex<=b.length) :
  ∀ j (c:j<ex.length),nxA b+j<b.length/\(ex[j]=119->nxA b+j+1<b.length)/\(ex[j]=100\/ex[j]=101\/ex[j]=110\/ex[j]=119):=by
 obtain ⟨aa,Z⟩:=r.pg;obtain ⟨-,U,M⟩:=qwS b;have E:(pgA b).2=(if 5<=g then 3 else (qaQ g).length):=by
  cases b with
  | nil=>rw [<- h];decide
  | cons O V=>
   rw [<- h];simp only [pgA]
   repeat' split
   all_goals first | rfl | (simp_all;done) | (exfalso;revert h;simp_all;done) | decide
 unfold nxA;rw [h];by_cases y:5<=g
 ·rw [Qk y]
  have G:=r.hi y;subst G;have z:sizeT g [100]=4:=by rcases (by omega:g=5\/g=6) with rfl | rfl <;> rfl
  intro j c;obtain rfl:j=0:=by simp at c;omega
  exact ⟨by omega,fun e=>absurd (show (100:UInt8)=119 from e) (by decide),.inl rfl⟩
 ·rw [Qd y] at E |-
  rw [E];have z:sizeT g ex=(qaQ g).length+1+qc8 ex ex.length:=rfl;rw [z] at J;rcases r.lst with rfl | rfl | rfl | rfl | rfl | rfl
  ·intro j c;simp at c
  ·have:qc8 [100] [100].length=1:=rfl
   intro j c;obtain rfl:j=0:=by simp at c;omega
   exact ⟨by omega,fun e=>absurd (show (100:UInt8)=119 from e) (by decide),.inl rfl⟩
  ·have:qc8 [101] [101].length=1:=rfl
   intro j c;obtain rfl:j=0:=by simp at c;omega
   exact ⟨by omega,fun e=>absurd (show (101:UInt8)=119 from e) (by decide),.inr (.inl rfl)⟩
  ·have:qc8 [110] [110].length=1:=rfl
   intro j c;obtain rfl:j=0:=by simp at c;omega
   exact ⟨by omega,fun e=>absurd (show (110:UInt8)=119 from e) (by decide),.inr (.inr (.inl rfl))⟩
  ·have:qc8 [119] [119].length=2:=rfl
   intro j c;obtain rfl:j=0:=by simp at c;omega
   exact ⟨by omega,fun e=>by omega,.inr (.inr (.inr rfl))⟩
  ·have:qc8 [100,110] [100,110].length=2:=rfl
   intro j c;simp only [Qv,QH] at c;have K:j=0\/j=1:=(by omega);rcases K with rfl | rfl
   ·exact ⟨by omega,fun e=>absurd (show (100:UInt8)=119 from e) (by decide),.inl rfl⟩
   ·exact ⟨by omega,fun e=>absurd (show (110:UInt8)=119 from e) (by decide),.inr (.inr (.inl rfl))⟩
end Go.Proofs.YtjafbmfcedijmaaGreatDoor
namespace Go.Proofs.YtjafbmfcedijmaaGreatDoor
open Tryz
open Go.RowKit Go.Shelf
attribute [local irreducible] Go.Mixed.qD8
def qDP (x:En):Bool:=decide (x.1.length<=10)&&decide (x.2.1.length<=3)&&decide (x.2.2.1.length<=3)
def qt4 (p n:Nat):Bool:=match atN p n with | some h=>qDP h | none=>qc9 p n == rkindT p n
theorem qDu:∀ h:Fin 256,qt4 0 h.val=true:=by decide +kernel
theorem qCU:∀ h:Fin 256,qt4 1 h.val=true:=by decide +kernel
theorem qCE:∀ h:Fin 256,qt4 2 h.val=true:=by decide +kernel
theorem qCP:∀ h:Fin 256,qt4 3 h.val=true:=by decide +kernel
theorem qCM:∀ h:Fin 256,qt4 4 h.val=true:=by decide +kernel
theorem qCG:∀ h:Fin 256,qt4 5 h.val=true:=by decide +kernel
theorem qCF:∀ h:Fin 256,qt4 6 h.val=true:=by decide +kernel
theorem qxY (p n:Nat) (y:p<7) (h:n<256):qt4 p n=true:=by
 rcases (by omega:p=0\/p=1\/p=2\/p=3\/p=4\/p=5\/p=6) with rfl | rfl | rfl | rfl | rfl | rfl | rfl
 ·exact qDu ⟨n,h⟩
 ·exact qCU ⟨n,h⟩
 ·exact qCE ⟨n,h⟩
 ·exact qCP ⟨n,h⟩
 ·exact qCM ⟨n,h⟩
 ·exact qCG ⟨n,h⟩
 ·exact qCF ⟨n,h⟩
theorem ok_none {h:Int} {n:Nat} (z:n<256) (E:qaX h n=none):qc9 h n=rkindT h n:=by
 by_cases G:0<=h/\h<=6
 ·obtain ⟨p,rfl⟩:∃ p:Nat,h=p:=⟨h.toNat,by omega⟩
  have y:=qxY p n (by omega) z;rw [<- ql5 _ n z,qwA p n z] at E;unfold qt4 at y;rw [E] at y;exact eq_of_beq y
 ·unfold qc9 rkindT
  rw [Qk (by omega),Qd (by omega),Qd (by omega),Qd (by omega)]
end Go.Proofs.YtjafbmfcedijmaaGreatDoor
namespace Go.Proofs.YtjafbmfcedijmaaGreatDoor
open Tryz
open Go.RowKit
theorem qp4 {p:Int} (h:0<=p/\p<=6):p=0\/p=1\/p=2\/p=3\/p=4\/p=5\/p=6:=by omega
theorem qBD {p:Int} (E:0<=p/\p<=4) (o:UInt8) (t:Str) (y:p=0->o≠203/\o≠221/\o≠237/\o≠253) (b:p=3\/p=4->o≠203):hdB (qaQ p++o :: t)=some (p,o,t):=by
 rcases (by omega:p=0\/p=1\/p=2\/p=3\/p=4) with rfl | rfl | rfl | rfl | rfl
 ·obtain ⟨c,d,h,z⟩:=y rfl
  show hdB (o :: t)=_;simp only [hdB];rw [Qd c,Qd h,Qd d,Qd z]
 ·rfl
 ·rfl
 ·have a:=b (.inl rfl)
  show hdB (221 :: o :: t)=_;simp only [hdB];rw [Qd (by decide),Qd (by decide),Qk (by decide),Qd a]
 ·have a:=b (.inr rfl)
  show hdB (253 :: o :: t)=_;simp only [hdB];rw [Qd (by decide),Qd (by decide),Qd (by decide),Qk (by decide),Qd a]
theorem qBt {p:Int} (h:5<=p/\p<=6) (x o:UInt8) (t:Str):hdB (qaQ p++x :: o :: t)=some (p,o,x :: t):=by rcases (by omega:p=5\/p=6) with rfl | rfl <;> rfl
theorem qy4 {p:Int} (n:0<=p/\p<=4) {o:UInt8} (t:Str) {x:En} (M:qaX p o.toNat=some x):hdB (qaQ p++o :: t)=some (p,o,t):=by
 have c:=qip o.toNat_lt M;have a:∀ b:Nat,b<256->o.toNat≠b->o≠UInt8.ofNat b:=fun b z K d=>K (by rw [d,UInt8.toNat_ofNat_of_lt' z])
 refine qBD n o t (fun E=>?_) (fun y=>a 203 (by decide) (c.ind y));obtain ⟨h,e,G,J⟩:=c.main E;exact ⟨a 203 (by decide) h,a 221 (by decide) e,a 237 (by decide) G,a 253 (by decide) J⟩
theorem qAt {p:Int} (ab:0<=p/\p<=6) {o:UInt8} (Z:qaX p o.toNat=none) :
  (rkindT p o.toNat=2/\p<=4/\∃ n,qi3 (qaQ p++[o])=some n/\qaQ n=qaQ p++[o]/\0<=n/\n<=6)\/
  ((rkindT p o.toNat=0\/rkindT p o.toNat=3/\p=2)/\(p<=4->∀ t,hdB (qaQ p++o :: t)=some (p,o,t))):=by
 have M:=o.toNat_lt;have V:o=UInt8.ofNat o.toNat:=by simp
 have e:=qAM ⟨p.toNat,by omega⟩ ⟨o.toNat,M⟩;unfold qCx at e;simp only at e;rw [show ((p.toNat:Nat):Int)=p by omega,Z] at e;simp only [Option.isSome_none,Bool.false_or,Zp,Qh,Ql,beq_iff_eq] at e;have U:∀ z:Int,(z=0/\(o=203\/o=221\/o=237\/o=253))\/((z=3\/z=4)/\o=203)->z=p->(rkindT p o.toNat=2/\p<=4/\∃ n,qi3 (qaQ p++[o])=some n/\qaQ n=qaQ p++[o]/\0<=n/\n<=6):=by
  intro z aa h;subst h;rcases aa with ⟨rfl,rfl | rfl | rfl | rfl⟩ | ⟨rfl | rfl,rfl⟩
  ·exact ⟨rfl,by decide,1,rfl,rfl,by decide,by decide⟩
  ·exact ⟨rfl,by decide,3,rfl,rfl,by decide,by decide⟩
  ·exact ⟨rfl,by decide,2,rfl,rfl,by decide,by decide⟩
  ·exact ⟨rfl,by decide,4,rfl,rfl,by decide,by decide⟩
  ·exact ⟨rfl,by decide,5,rfl,rfl,by decide,by decide⟩
  ·exact ⟨rfl,by decide,6,rfl,rfl,by decide,by decide⟩
 have y:∀ G:Nat,G<256->o.toNat=G->o=UInt8.ofNat G:=fun G ad h=>by rw [V,h]
 by_cases q:(p=0/\(o=203\/o=221\/o=237\/o=253))\/((p=3\/p=4)/\o=203)
 ·exact .inl (U p q rfl)
 ·have O:p<=4->∀ t,hdB (qaQ p++o :: t)=some (p,o,t):=fun K t=>qBD ⟨ab.1,K⟩ o t
   (fun E=>⟨fun h=>q (.inl ⟨E,.inl h⟩),fun h=>q (.inl ⟨E,.inr (.inl h)⟩),fun h=>q (.inl ⟨E,.inr (.inr (.inl h))⟩),fun h=>q (.inl ⟨E,.inr (.inr (.inr h))⟩)⟩)
   (fun J h=>q (.inr ⟨J,h⟩))
  refine .inr ⟨?_,O⟩;rcases e with ((e | ⟨e,ac⟩) | ⟨E,e⟩) | ⟨J,e⟩
  ·exact .inl e
  ·exact .inr ⟨e,by omega⟩
  ·exfalso
   refine q (.inl ⟨by omega,?_⟩);rcases e with ((e | e) | e) | e
   ·exact .inl (y 203 (by decide) e)
   ·exact .inr (.inl (y 221 (by decide) e))
   ·exact .inr (.inr (.inl (y 237 (by decide) e)))
   ·exact .inr (.inr (.inr (y 253 (by decide) e)))
  ·exfalso
   exact q (.inr ⟨by omega,y 203 (by decide) e⟩)
theorem qDy {p:Int} (h:0<=p/\p<=4):itR (qaQ p)=qbB 4 (qaQ p)/\needR (qaQ p)=(qaQ p).length+1:=by rcases (by omega:p=0\/p=1\/p=2\/p=3\/p=4) with rfl | rfl | rfl | rfl | rfl <;> exact ⟨rfl,rfl⟩
theorem qDm {p:Int} (y:5<=p/\p<=6) {r:Str} (h:r.length<=1):itR (qaQ p++r)=qbB 4 (qaQ p++r)/\needR (qaQ p++r)=4:=by
 match r,h with
 | [],_=>rcases (by omega:p=5\/p=6) with rfl | rfl <;> exact ⟨rfl,rfl⟩
 | [z],_=>rcases (by omega:p=5\/p=6) with rfl | rfl <;> exact ⟨rfl,rfl⟩
 | _ :: _ :: _,x=>simp at x
theorem qvK {b:Str} {p:Int} {o:UInt8} {t:Str} (h:hdB b=some (p,o,t)):itR b=match qaX p o.toNat with
   | none=>if rkindT p o.toNat=0 then qbB 2 (b.take 1) else qbB 3 (b.take 2)
   | some x=>if b.length<sizeT p x.2.2.1 then qbB 4 b else ⟨1,b.take (sizeT p x.2.2.1),x.1,(qaZ x.2.2.1 x.2.1 (qdb x.2.2.1 t).1 (qdb x.2.2.1 t).2).getD [],x.2.2.2⟩:=by
 unfold itR;rw [h]
 try rfl
theorem qBF {g:Int} {i:Nat} {ex:Str} (h:ExP g i ex) (b:Str) (k:Nat):mS (0,0) ex b k ex.length=qdb ex (b.drop k):=by
 rcases h.lst with rfl | rfl | rfl | rfl | rfl | rfl
 ·rw [qzo];rfl
 ·rw [qmR];rfl
 ·rw [quz];rfl
 ·rw [qvw];rfl
 ·rw [qtP];rfl
 ·rw [qni]
  show qa1 110 (b.drop (k+1)) (qa1 100 (b.drop (k+0)) (0,0))=_;have y:qa1 100 (b.drop (k+0)) (0,0)=(sgB ((b.drop k).getD 0 0),0):=by unfold qa1;rw [Qk rfl];rfl
  rw [y];unfold qa1;rw [Qd (by decide),Qd (by decide),Qk rfl];simp only [getD_drop,Nat.add_zero]
theorem qt3 (ex:Str) {j:Nat} (h:j<=ex.length):qc8 ex j<=qc8 ex ex.length:=by
 have e:ex=ex.take j++ex.drop j:=(Zy j ex).symm;have y:qc8 ex ex.length=qc8 ex j+((ex.drop j).map qhX).sum:=by
  unfold qc8;rw [List.take_length]
  conv=>lhs;rw [e]
  rw [Zc,List.sum_append]
 omega
theorem qz0 {g:Int} {i:Nat} {ex:Str} (z:ExP g i ex) {j:Nat} (E:j<ex.length):ex[j]=100\/ex[j]=101\/ex[j]=110\/ex[j]=119:=by
 have h:=QB E;generalize ex[j]=c at h |-;rcases z.lst with rfl | rfl | rfl | rfl | rfl | rfl
 ·cases h
 ·exact .inl (QA.1 h)
 ·exact .inr (.inl (QA.1 h))
 ·exact .inr (.inr (.inl (QA.1 h)))
 ·exact .inr (.inr (.inr (QA.1 h)))
 ·rcases QI.1 h with y | y
  ·exact .inl y
  ·exact .inr (.inr (.inl (QA.1 y)))
theorem qwv {g:Int} {i:Nat} {ex:Str} (h:ExP g i ex):ex.length<=2:=by rcases h.lst with rfl | rfl | rfl | rfl | rfl | rfl <;> decide
theorem qC5 {p:Int} (h:5<=p/\p<=6):(qaQ p).length=2:=by rcases (by omega:p=5\/p=6) with rfl | rfl <;> rfl
end Go.Proofs.YtjafbmfcedijmaaGreatDoor
