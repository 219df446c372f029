/-
  Mixed, Round, Each, Col, OpK, OpL, OpG, OpH, MixG, OpI, OpM, OpJ, OpN, OpP, NumM, NumN, NumO, NumP.
-/
import Derived.StillTail
import Derived.RangeFuncNested
import Derived.RangeFuncBound
import Derived.OwnWalkIn
import Derived.Test.YtecpnfhpcamljaaGreatDoorKAA
import Derived.Shelf.RegionOpen
import Derived.Deep.Cut
import Derived.LoopNIn
import Derived.LoopIn
import Derived.Lib.SmallJoins
set_option linter.all false
set_option maxRecDepth 100000
set_option maxHeartbeats 4000000
namespace Go.Mixed
open Go
def QF:Exit->Act->World->Prop:=fun _ _ _=>False
theorem qba:¬LetsOut QF:=fun ⟨_,_,h⟩=>h
section
variable {P:Program} {ops:Array Oper} {md:Region.Mode}
theorem qvm {o:Oper} {a:Act} {n h:Act->World->Prop} {Q:Exit->Act->World->Prop} {r:Result Next} (d:∀ a w,n a w->h a w) (c:o.upon P a n QF r):o.upon P a h Q r:=by
 cases r with
 | ok z E=>
  cases z <;> simp only [Oper.upon] at c |-
  case value e=>exact d _ _ c
  case skip=>exact d _ _ c
  case defer J=>exact d _ _ c
  case enter K args=>
   refine c.mono fun q y f=>?_
   cases q with
   | returned e=>exact d _ _ f
   | panicked G=>exact (f:False).elim
   | outgrown=>exact absurd f qba
  case row row args=>exact c.mono fun e y x=>d _ _ x
 | halt v E=>
  cases v <;> simp only [Oper.upon] at c
  case panic e=>exact (c:False).elim
theorem qcL {i:Nat} {a:Act} {w:World} {E z:Act->World->Prop} {Q:Exit->Act->World->Prop} (o:∀ a w,E a w->z a w) (h:wpOp P ops QF i E a w):wpOp P ops Q i z a w:=by
 unfold wpOp at *;split
 ·rename_i y;simp only [y] at h;exact o _ _ h
 ·rename_i G y
  simp only [y] at h;split
  ·rename_i q
   simp only [q,if_true] at h;rcases h with h | h
   ·exact .inl (qvm o h)
   ·exact absurd h.2 qba
  ·rename_i q;simp only [q] at h;exact o _ _ h
def qa6 (P:Program) (md:Region.Mode) (ops:Array Oper) (n:Nat) (C:World->Prop) (L:Array Bool->Act->World->Prop):Nat->Array Bool->Act->World->Prop
 | 0,h,q,a=>C a/\L h q a
 | f+1,h,q,a=>C a/\Region.ready md ops h≠[]/\∀ i∈Region.ready md ops h,i<n/\wpOp P ops QF i (qa6 P md ops n C L f (h.setIfInBounds i true)) q a
theorem qd5 {n:Nat} {C:World->Prop} {L:Array Bool->Act->World->Prop} {f:Nat} {q:Array Bool} {a:Act} {w:World} (h:qa6 P md ops n C L f q a w):C w:=by cases f <;> exact h.1
theorem qam {n g:Nat} {C:World->Prop} {L:Array Bool->Act->World->Prop} {Q':Exit->Act->World->Prop} (y:∀ h a w,L h a w->wpAny P md ops Q' g h a w) :
  ∀ (f:Nat) (h:Array Bool) (a:Act) (w:World),qa6 P md ops n C L f h a w->wpAny P md ops Q' (f+g) h a w
 | 0,h,a,w,q=>by rw [QT];exact y _ _ _ q.2
 | f+1,h,a,w,q=>by
  rw [show f+1+g=(f+g)+1 by omega];exact ⟨fun G=>absurd G q.2.1,fun i E=>qcL (fun J w' z=>qam y f _ J w' z) (q.2.2 i E).2⟩
def Pure (P:Program) (ops:Array Oper) (C:World->Prop) (o:Oper) (v:Value) (a:Act):Prop:=
 (Region.wanted o (yielded ops a.tmps)=true/\∀ h,C h->(execOp a.eval o).run P h=.ok (.value v) h)\/
 (Region.wanted o (yielded ops a.tmps)=false/\v=undef)
theorem Pure.of_same {C:World->Prop} {o:Oper} {v:Value} {a h:Act} (q:Pure P ops C o v a) (z:execOp h.eval o=execOp a.eval o)
  (y:Region.wanted o (yielded ops h.tmps)=Region.wanted o (yielded ops a.tmps)):Pure P ops C o v h:=by
 unfold Pure at *;rw [z,y];exact q
theorem Pure.wpOp {C:World->Prop} {i:Nat} {o:Oper} {v:Value} {a:Act} {w:World} {y:Act->World->Prop} {Q:Exit->Act->World->Prop} (E:ops[i]?=some o) (z:Pure P ops C o v a) (J:C w) (q:y (a.put o.dst v) w):wpOp P ops Q i y a w:=by
 unfold Go.wpOp;simp only [E];rcases z with ⟨h,G⟩ | ⟨h,rfl⟩
 ·simp only [h,if_true]
  left;unfold Oper.wp;rw [G w J];exact q
 ·simp only [h,Bool.false_eq_true,if_false];exact q
theorem put_defers (a:Act) (h:List Deferred) (x:Option Tmp) (v:Value):({a with defers:=h}.put x v)={(a.put x v) with defers:=h}:=by cases x <;> rfl
theorem qdv (a:Act) (x:Option Tmp) (v:Value):(a.put x v).defers=a.defers:=by cases x <;> rfl
theorem wpOp_put {C:World->Prop} {j:Nat} {d f:Oper} {v:Value} (O:ops[j]?=some f) (aa:d.apart ops f=true)
  (M:∀ cs b,d.op≠.select cs b) (V:∀ cs b,f.op≠.select cs b) {K:Act->World->Prop} {a:Act} {w:World}
  (h:Pure P ops C d v a) (c:wpOp P ops QF j K (a.put d.dst v) w) :
  wpOp P ops QF j (fun J w'=>Pure P ops C d v J/\K (J.put d.dst v) w') a w:=by
 obtain ⟨E,q,G⟩:=Oper.apart_spec aa;have n:∀ (a:Act),Pure P ops C d v a->∀ e,Pure P ops C d v (a.put f.dst e):=fun a h e=>
  h.of_same (execOp_put d M a f.dst e G) (wanted_put d a f.dst e G)
 unfold wpOp at *;simp only [O] at *;rw [wanted_put f a d.dst v E] at c;split
 ·rename_i u
  simp only [u,if_true] at c;rcases c with c | c
  ·left
   unfold Oper.wp at *;rw [execOp_put f V a d.dst v E] at c;generalize (execOp a.eval f).run P w=r at *;cases r with
   | ok ab w'=>
    cases ab <;> simp only [Oper.upon] at c |-
    case value e=>exact ⟨n a h e,by rw [<- Act.put_comm a v e q];exact c⟩
    case skip=>exact ⟨n a h _,by rw [<- Act.put_comm a v undef q];exact c⟩
    case defer x=>
     refine ⟨?_,?_⟩
     ·have U:Pure P ops C d v {a with defers:=x :: a.defers}:=h
      exact n _ U _
     ·rw [<- Act.put_comm _ v undef q]
      have y:({a with defers:=x :: a.defers}.put d.dst v)={(a.put d.dst v) with defers:=x :: (a.put d.dst v).defers}:=(by rw [qdv];exact put_defers a _ _ _);rw [y];exact c
    case enter ad args=>
     refine c.mono fun y Z z=>?_
     cases y with
     | returned e=>exact ⟨n a h e,by rw [<- Act.put_comm a v e q];exact z⟩
     | panicked ac=>exact (z:False).elim
     | outgrown=>exact z
    case row row args=>exact c.mono fun e Z W=>⟨n a h e,by rw [<- Act.put_comm a v e q];exact W⟩
   | halt T w'=>
    cases T <;> simp only [Oper.upon] at c
    case panic v=>exact (c:False).elim
  ·exact absurd c.2 qba
 ·rename_i u
  simp only [u] at c;exact ⟨n a h _,by rw [<- Act.put_comm a v undef q];exact c⟩
theorem qaR {C:World->Prop} {n i:Nat} {H:Oper} {v:Value} {L:Array Bool->Act->World->Prop} (Z:ops[i]?=some H) (ai:∀ (j:Nat) (o:Oper) cs b,ops[j]?=some o->o.op≠.select cs b)
  (af:Region.sinkB md ops n=true) (ag:Region.chainB md ops n=true) (ah:n<ops.size) (ae:i<n)
  (aq:∀ h a w,L h a w->∀ j∈Region.ready md ops h,n<=j) :
  ∀ (f:Nat) (h:Array Bool) (a:Act) (w:World),HeadInv md ops n h->
   (∀ j E,ops[j]?=some E->j≠i->h.getD j true=false->(∀ e∈E.after,Region.binds md e=true->e.on≠i)->H.apart ops E=true)->
   i∈Region.ready md ops h->Pure P ops C H v a->C w->
   qa6 P md ops n C L f (h.setIfInBounds i true) (a.put H.dst v) w->qa6 P md ops n C L (f+1) h a w:=by
 intro f
 induction f with
 | zero=>
  intro h a w O _ y V M K;have G:=(mem_ready.1 y).1;refine ⟨M,fun k=>(by rw [k] at y;cases y),fun j z=>?_⟩;have U:j<n:=by
   rcases Nat.lt_or_ge j n with k | k
   ·exact k
   ·exact absurd z (tail_waits af ag ah O _ i rfl ae G j k)
  refine ⟨U,?_⟩;by_cases q:j=i
  ·subst q;exact V.wpOp Z M K
  ·have:=aq _ _ _ K.2 j (ready_mono z q)
   omega
 | succ f ax=>
  intro h a w O ac y V M K;have G:=(mem_ready.1 y).1;refine ⟨M,fun k=>(by rw [k] at y;cases y),fun j z=>?_⟩;have U:j<n:=by
   rcases Nat.lt_or_ge j n with k | k
   ·exact k
   ·exact absurd z (tail_waits af ag ah O _ i rfl ae G j k)
  refine ⟨U,?_⟩;by_cases q:j=i
  ·subst q;exact V.wpOp Z M K
  ·have T:=(K.2.2 j (ready_mono z q)).2
   obtain ⟨ad,E,ab,ak⟩:=mem_ready.1 z;have am:∀ e∈E.after,Region.binds md e=true->e.on≠i:=fun e ay ao az=>by
    have T:=ak e ay ao;rw [az,getD_both G] at T;cases T
   have aw:=wpOp_put ab (ac j E ab q ad am) (fun cs b=>ai i H cs b Z) (fun cs b=>ai j E cs b ab) V T;have ar:∀ J ok,ops[J]?=some ok->J≠i->(h.setIfInBounds j true).getD J true=false->
     (∀ e∈ok.after,Region.binds md e=true->e.on≠i)->H.apart ops ok=true:=fun J ok aB aA G an=>by
    refine ac J ok aB aA ?_ an;by_cases aj:j=J
    ·subst aj;exact ad
    ·rw [getD_set_ne true aj] at G;exact G
   refine qcL (fun av au aa=>?_) aw;obtain ⟨aa,W⟩:=aa;rw [Array.setIfInBounds_comm _ _ (fun e=>q e.symm)] at W;have ap:=ready_mono y (Ne.symm q);exact ax (h.setIfInBounds j true) av au (O.set z U) ar ap aa (qd5 W) W
def qkE (md:Region.Mode) (ops:Array Oper) (n g:Nat):List (Nat×Bool)->Array Bool->Bool
 | [],h=>Region.seqB md ops g n h
 | (k,true) :: q,h=>(Region.ready md ops h).contains k&&decide (k<n)&&Region.free md ops h k&&qkE md ops n g q (h.setIfInBounds k true)
 | (k,false) :: q,h=>decide (Region.ready md ops h=[k])&&decide (k<n)&&qkE md ops n g q (h.setIfInBounds k true)
def qgc (md:Region.Mode) (ops:Array Oper) (n:Nat) (h:List (Nat×Bool)):Bool:=
 Region.noSelect ops&&decide (n<ops.size)&&decide (h.length+(ops.size - n)=ops.size)&&Region.sinkB md ops n&&Region.chainB md ops n&&qkE md ops n (ops.size - n) h (Array.replicate ops.size false)
def qAU (P:Program) (ops:Array Oper) (C:World->Prop) (q:Act->World->Prop):List (Nat×Bool)->Act->World->Prop
 | [],a,h=>q a h
 | (k,true) :: r,a,h=>match ops[k]? with
  | none=>False
  | some o=>∃ v,Pure P ops C o v a/\qAU P ops C q r (a.put o.dst v) h
 | (k,false) :: r,a,h=>wpOp P ops QF k (fun w w'=>C w'/\qAU P ops C q r w w') a h
theorem qaV {C:World->Prop} {n g:Nat} {V:Act->World->Prop} (U:Region.noSelect ops=true) (J:Region.sinkB md ops n=true) (K:Region.chainB md ops n=true) (M:n<ops.size) :
  ∀ (T:List (Nat×Bool)) (i:Array Bool) (a:Act) (w:World),HeadInv md ops n i->qkE md ops n g T i=true->C w->qAU P ops C V T a w->
  qa6 P md ops n C (fun W E w'=>Region.seqB md ops g n W=true/\V E w') T.length i a w
 | [],i,a,w,_,o,q,h=>⟨q,o,h⟩
 | (k,true) :: G,i,a,w,y,o,q,h=>by
  simp only [qkE,Qd,Qf] at o;obtain ⟨⟨⟨r,v⟩,ag⟩,O⟩:=o;have ab:k∈Region.ready md ops i:=by simpa using r
  simp only [qAU] at h;cases z:ops[k]? with
  | none=>rw [z] at h;exact h.elim
  | some aj=>
   rw [z] at h;obtain ⟨ak,ae,ad⟩:=h;exact qaR z (Region.noSelect_spec U) J K M v (fun W E w' ah=>seqB_ready ah.1) G.length i a w y (Region.free_spec z ag) ab ae q
    (qaV U J K M G _ _ w (y.set ab v) O q ad)
 | (k,false) :: G,i,a,w,y,o,q,h=>by
  simp only [qkE,Qd,Qf] at o;obtain ⟨⟨r,v⟩,O⟩:=o;simp only [qAU] at h;have af:Region.ready md ops i≠[]:=by rw [r];exact List.cons_ne_nil _ _
  refine ⟨q,af,fun ac aa=>?_⟩;rw [r] at aa;have ai:ac=k:=by simpa using aa
  subst ai;refine ⟨v,qcL (fun E w' Z=>?_) h⟩;exact qaV U J K M G _ E w' (y.set (by rw [r];exact QI.2 rfl) v) O Z.1 Z.2
theorem qAQ {V:Nat} {Q:Exit->Act->World->Prop} {a:Act} {w:World} {l:List Oper} (C:World->Prop) (n:Nat) (j:List (Nat×Bool)) (U:P.follows .mixedOrders=true) (q:qgc .any l.toArray n j=true)
  (ab:C w.drew) (J:qAU P l.toArray C (fun h w'=>wpList P l.toArray Q (l.drop n) h w') j a w.drew):(Code.region V l.toArray true).wp P Q a w:=by
 simp only [qgc,Qd,Qf] at q;obtain ⟨⟨⟨⟨⟨ac,T⟩,W⟩,K⟩,M⟩,H⟩:=q;have y:(l.drop n).length=l.toArray.size - n:=by simp
 have G:HeadInv .any l.toArray n (Array.replicate l.toArray.size false):=
  ⟨by simp,fun aa ad _ t=>(by rw [getD_replicate_false] at t;cases t),fun ae _ O=>getD_in (by simpa using O) (getD_replicate_false _ _)⟩
 have E:=qaV ac K M T j _ a w.drew G H ab J;refine wp_region_any U ?_;have:=qam (Q':=Q) (g:=l.toArray.size - n) (fun Z h w' z=>by
  have:=wpAny_of_seq (md:=.any) (Q':=Q) (l.drop n) n Z h w' (fun aa=>by simp [Zc]) (by rw [y];exact z.1) z.2
  rwa [y] at this) _ _ _ _ E
 rw [W] at this;exact this
theorem qAV {C:World->Prop} {h:Act->World->Prop} {k:Nat} {r:List (Nat×Bool)} {a:Act} {w:World} {o:Oper} (E:ops[k]?=some o) (z:Region.wanted o (yielded ops a.tmps)=true) (v:Value)
  (y:∀ w,C w->(execOp a.eval o).run P w=.ok (.value v) w) (q:qAU P ops C h r (a.put o.dst v) w):qAU P ops C h ((k,true) :: r) a w:=by
 simp only [qAU,E];exact ⟨v,.inl ⟨z,y⟩,q⟩
theorem qAT {C:World->Prop} {h:Act->World->Prop} {k:Nat} {r:List (Nat×Bool)} {a:Act} {w:World} {o:Oper} (E:ops[k]?=some o) (z:Region.wanted o (yielded ops a.tmps)=true) (x:Operand) (G:o.op=.move x) (v:Value)
  (y:a.eval x=v) (q:qAU P ops C h r (a.put o.dst v) w):qAU P ops C h ((k,true) :: r) a w:=by
 subst y;exact qAV E z _ (fun w _=>by unfold execOp;simp [G]) q
def QK (h:Act->World->Prop):Exit->Act->World->Prop
 | .normal,a,q=>h a q
 | _,_,_=>False
theorem qax (q:Act->World->Prop):¬LetsOut (QK q):=fun ⟨_,_,h⟩=>h
theorem qeJ {o:Oper} {a:Act} {f:Act->World->Prop} {n:Act->World->Prop} {r:Result Next} (c:o.upon P a f (QK n) r):o.upon P a f QF r:=by
 cases r with
 | ok x h=>
  cases x <;> simp only [Oper.upon] at c |-
  case value e=>exact c
  case skip=>exact c
  case defer G=>exact c
  case enter y args=>
   refine c.mono fun q E d=>?_
   cases q with
   | returned e=>exact d
   | panicked z=>exact (d:False).elim
   | outgrown=>exact absurd d (qax _)
  case row row args=>exact c
 | halt v h=>
  cases v <;> simp only [Oper.upon] at c
  case panic e=>exact (c:False).elim
theorem mp {C:World->Prop} {q:Act->World->Prop} {k:Nat} {r:List (Nat×Bool)} {a:Act} {w:World} {o:Oper} (E:ops[k]?=some o) (v:Value)
  (h:qAU P ops C q r (a.put o.dst v) w) (z:Region.wanted o (yielded ops a.tmps)=true:=by kernel_rfl)
  (y:∀ w,C w->(execOp a.eval o).run P w=.ok (.value v) w:=by intro w h;first | (clear h;go_simp;done) | (clear h;go_simp;rfl) | (go_simp;done) | (go_simp;rfl)):qAU P ops C q ((k,true) :: r) a w:=qAV E z v y h
theorem mo {C:World->Prop} {h:Act->World->Prop} {k:Nat} {r:List (Nat×Bool)} {a:Act} {w:World} {o:Oper} (E:ops[k]?=some o) (v:Value)
  (y:∀ w,C w->(execOp a.eval o).run P w=.ok (.value v) w) (q:qAU P ops C h r (a.put o.dst v) w) (z:Region.wanted o (yielded ops a.tmps)=true:=by kernel_rfl):qAU P ops C h ((k,true) :: r) a w:=qAV E z v y q
theorem qA5 {C:World->Prop} {y:Act->World->Prop} {k:Nat} {r:List (Nat×Bool)} {a:Act} {w:World} {o:Oper} (z:ops[k]?=some o) (h:wpList P ops (QK fun E w'=>C w'/\qAU P ops C y r E w') [o] a w) :
  qAU P ops C y ((k,false) :: r) a w:=by
 simp only [qAU];unfold wpOp;simp only [z];simp only [wpList] at h;split
 ·rename_i q
  simp only [q,if_true] at h;rcases h with h | h
  ·exact .inl (qeJ h)
  ·exact absurd h.2 (qax _)
 ·rename_i q
  simp only [q] at h;exact h
end
end Go.Mixed
namespace Go.Mixed
open Go
theorem qle {n:Nat} {P:Program} {row:String} {args:Array Value} {w:World} {R:Value->World->Prop} (r:Rows P row args w R):RowsIn Fence.wide n P row args w R:=fun q v _=>
 let ⟨s,c,y,h⟩:=r q v;⟨s,c,y,stepsIn_wide.2 h⟩
theorem qfd {P:Program} {r n:Nat} {ops:Array Oper} {Q:Exit->Act->World->Prop} (y:∀ (i:Nat) (o:Oper),ops[i]?=some o->∀ c,o.op≠.defer c) (z:¬LetsOut Q) :
  ∀ (l:List Nat) (a:Act) (w:World),wpOps P ops Q l a w->wpOpsIn (Fence.wide.inRound r) n P ops Q l a w
 | [],a,w,d=>d
 | i :: rest,a,w,d=>by
  have e:=qfd (P:=P) (r:=r) (n:=n) y z rest;simp only [wpOps] at d;simp only [wpOpsIn];cases v:ops[i]? with
  | none=>simp only [v] at d;exact e _ _ d
  | some o=>
   simp only [v] at d |-;by_cases x:Region.wanted o (yielded ops a.tmps)=true
   ·simp only [x,if_true] at d |-
    rcases d with d | d
    ·refine ⟨fun _ _=>trivial,?_⟩
     rw [Oper.semAt_eq _ _ _ (y i o v)];unfold Oper.wp at d;generalize (execOp a.eval o).run P w=rs at *;cases rs with
     | ok f K=>
      cases f <;> simp only [Oper.upon] at d
      case value h=>exact e _ _ d
      case skip=>exact e _ _ d
      case defer T=>exact e _ _ d
      case enter U args=>
       refine ⟨fun d=>(by cases d),CallsIn.inRound r (callsIn_wide.2 (d.mono fun E G q=>?_))⟩;cases E with
       | returned h=>exact e _ _ q
       | panicked c=>exact q
       | outgrown=>exact q
      case row row args=>
       refine ⟨fun d=>(by cases d),?_⟩;have M:=qle (n:=n - 1) (d.mono fun h G J=>e _ _ J);exact M
     | halt f K=>
      cases f <;> simp only [Oper.upon] at d
      case panic h=>exact d
    ·exact absurd d.2 z
   ·have O:Region.wanted o (yielded ops a.tmps)=false:=by simpa using x
    simp only [O,Bool.false_eq_true,if_false] at d |-;exact ⟨fun _ _=>trivial,e _ _ d⟩
def qpm (l:List Oper):Bool:=l.all fun h=>match h.op with | .defer _=>false | _=>true
theorem qjY {l:List Oper} (h:qpm l=true):∀ (i:Nat) (o:Oper),l.toArray[i]?=some o->∀ c,o.op≠.defer c:=fun i o y c q=>by
 have e:o∈l:=by
  have:=Array.mem_of_getElem? y;simpa using this
 have:=QA.1 h o e;rw [q] at this;cases this
theorem qBk {aa r m:Nat} {P:Program} {Q:Exit->Act->World->Prop} {a:Act} {w:World} {l:List Oper} (C:World->Prop) (n:Nat) (j:List (Nat×Bool)) (Z:P.follows .mixedOrders=true) (U:¬LetsOut Q) (af:qpm l=true) (q:qgc .any l.toArray n j=true)
  (ae:C w.drew) (M:qAU P l.toArray C (fun h w'=>wpList P l.toArray Q (l.drop n) h w') j a w.drew):(Code.region aa l.toArray true).wpIn (Fence.wide.inRound r) m P Q a w:=by
 simp only [qgc,Qd,Qf] at q;obtain ⟨⟨⟨⟨⟨ag,W⟩,ab⟩,O⟩,T⟩,K⟩:=q;have E:(l.drop n).length=l.toArray.size - n:=by simp
 have J:HeadInv .any l.toArray n (Array.replicate l.toArray.size false):=
  ⟨by simp,fun ad ah _ t=>(by rw [getD_replicate_false] at t;cases t),fun z _ V=>getD_in (by simpa using V) (getD_replicate_false _ _)⟩
 have H:=qaV ag O T W j _ a w.drew J K ae M;have y:=qam (Q':=Q) (g:=l.toArray.size - n) (fun ac h w' G=>by
  have:=wpAny_of_seq (md:=.any) (Q':=Q) (l.drop n) n ac h w' (fun ad=>by simp [Zc]) (by rw [E];exact G.1) G.2
  rwa [E] at this) _ _ _ _ H
 rw [ab] at y;refine wpIn_region_draw fun z=>qfd (qjY af) U _ _ _ ?_
 simp only [Region.schedule,Z,Bool.true_or,if_true];exact wpAny_sound _ z _ a _ y
end Go.Mixed
namespace Go.Each
open Go Go.RowKit
def qAN {l:Type} (F:Fence) (n:Nat) (P:Program) (g:Nat) (lb:Array Value) (M:l->Array Value) (G:l->World->Prop) (J:World->World->Prop) (S:List l->Prop) (N:Nat) (w:World):Prop:=
 ∀ (z:Nat) (e:List l->World->Prop) (h:World),Below w.heap.size w h->AbidesFrom h.heap.size e->
  (∀ y x W1,e y W1->G x W1->y.length<N->YieldAt F (n - 1) P z (M x) W1 fun v q=>v=.returned (.bool true)/\e (y++[x]) q/\J W1 q)->
  e [] h->CallsIn F n P g (#[.func (.yield z) #[] #[]]++lb) h fun v q=>(∃ K,v=.returned K)/\∃ E,S E/\e E q
def qtZ (q:World->Prop):Exit->Act->World->Prop
 | .normal,_,h=>q h
 | .ret,_,_=>False
 | .exit _,_,_=>False
 | .goto _,_,_=>False
 | .panic _,_,_=>False
 | .outgrown,_,_=>False
variable {F:Fence} {n:Nat} {P:Program}
end Go.Each
namespace Go.Col
open Go Go.RowKit
structure Kept (Q:Nat->Obj->Prop) (w w':World):Prop where
 os:w'.os=w.os
 tape:w'.tape=w.tape
 output:w'.output=w.output
 size:w.heap.size<=w'.heap.size
 block:∀ i o,w.heap[i]?=some o->Q i o->w'.heap[i]?=some o
variable {Q:Nat->Obj->Prop}
theorem Kept.refl (Q:Nat->Obj->Prop) (w:World):Kept Q w w:=⟨rfl,rfl,rfl,Qa _,fun _ _ h _=>h⟩
theorem Kept.trans {w w1 w2:World} (h:Kept Q w w1) (k:Kept Q w1 w2):Kept Q w w2:=
 ⟨k.os.trans h.os,k.tape.trans h.tape,k.output.trans h.output,Qj h.size k.size,fun i o y q=>k.block i o (h.block i o y q) q⟩
theorem Kept.qBo {w w':World} (h:Below w.heap.size w w'):Kept Q w w':=
 ⟨h.os,h.tape,h.output,h.size,fun o q i _=>(h.block o (Qb.1 i).1).trans i⟩
theorem Kept.grown {w w':World} {row:Option Nat} (e:w.grownBy w' row) (q:∀ k o,row=some k->w.heap[k]?=some o->¬Q k o):Kept Q w w':=
 ⟨e.os,e.tape,e.output,e.size,fun i o h y=>(e.block i (Qb.1 h).1 fun z=>q i o z.symm h y).trans h⟩
theorem Kept.putObj (e:World) (l:Nat) (o h:Obj) (x:e.heap[l]?=some o) (q:¬Q l o):Kept Q e (e.putObj l h):=
 Kept.grown (grownBy_putObj' e l h) fun E z y k=>by cases y;rw [x] at k;cases k;exact q
theorem Kept.below {B:Nat} {w w':World} (h:Kept (fun i _=>i<B) w w') (z:B<=w.heap.size):Below B w w':=
 ⟨h.os,h.tape,h.output,h.size,fun i y=>by
  obtain ⟨o,q⟩:∃ o,w.heap[i]?=some o:=⟨_,Array.getElem?_eq_getElem (by omega)⟩;rw [h.block i o q y,q]⟩
theorem qhd {X Y:World} (k:Below X.heap.size X Y):X.grownBy Y none:=⟨k.os,k.tape,k.output,k.size,fun h i _=>k.block h i⟩
theorem qlH {w w':World} {e:TypeId} {h s k:Nat} {v:Value} {xs:List Value} (q:w.ownsRow h e s v k xs) {row:Option Nat} (E:w.grownBy w' row) (K:∀ r,row=some r->∃ o:Obj,w.heap[r]?=some o/\o.isCells=false):w'.ownsRow h e s v k xs:=by
 refine q.kept E ?_;rcases q.2 with ⟨g,_⟩ | ⟨J,O,T,g,_,M,_⟩
 ·rw [g];exact .inl rfl
 ·rw [g]
  refine .inr fun G=>?_
  obtain ⟨o,y,z⟩:=K J (by simpa [Value.ownBlock] using G.symm);rw [M] at y;cases y;cases z
def Col (S e:TypeId) (s:Nat) (w0:World) (v y n:Nat) (z:List Value) (h:World):Prop:=
 ∃ q,Boxed h v S q/\h.ownsRow y e s q n z/\Kept (fun i _=>i<y/\i≠v) w0 h
theorem Col.grown {S e:TypeId} {s:Nat} {w0:World} {h k n B:Nat} {y:List Value} {X Y:World} {row:Option Nat} (G:Col S e s w0 h k n y X) (V:k<=B) (q:X.grownBy Y row) (v:∀ r,row=some r->B<=r/\∃ o:Obj,X.heap[r]?=some o/\o.isCells=false):Col S e s w0 h k n y Y:=by
 obtain ⟨K,z,M,O⟩:=G;refine ⟨K,?_,qlH M q fun r e=>(v r e).2,O.trans (Kept.grown q fun T o e _ U=>?_)⟩
 ·exact z.kept q fun e=>by
   obtain ⟨o,E,J⟩:=(v h e.symm).2;rw [show X.heap[h]?=_ from z] at E;cases E;cases J
 ·have:=(v T e).1
  have:=U.1;omega
theorem Col.below {S e:TypeId} {s:Nat} {w0:World} {q h n:Nat} {r:List Value} {X Y:World} (y:Col S e s w0 q h n r X) (k:Below X.heap.size X Y):Col S e s w0 q h n r Y:=
 y.grown (B:=h) (Qa _) (qhd k) fun z e=>by cases e
theorem qeL {w w':World} (h:Below w.heap.size w w'):KeepsOthers w w':=⟨h.size,fun o q k _=>(h.block o (Qb.1 k).1).trans k⟩
theorem qfK {w w':World} {e:TypeId} {G s k:Nat} {v:Value} {xs:List Value} (q:w.ownsRow G e s v k xs) (z:w.grownBy w' v.ownBlock):KeepsOthers w w':=
 KeepsOthers.of_grownBy z fun y J j h=>by
  rcases q.2 with ⟨rfl,_⟩ | ⟨E,K,M,rfl,_,o,_⟩
  ·simp [Value.ownBlock] at j
  ·obtain rfl:E=y:=by simpa [Value.ownBlock] using j
   rw [o] at h;cases h;rfl
theorem qsW {w:World} {base n:Nat} {e:TypeId} {s:Nat} {v:Value} {xs:List Value} (q:w.ownsRow base e s v (n+1) xs):∃ g h,v=.slice (some ⟨g,0,none⟩) (n+1) h:=by
 rcases q.2 with ⟨_,y⟩ | ⟨g,h,z,rfl,_⟩
 ·omega
 ·exact ⟨g,h,rfl⟩
theorem qpp {P:Program} {e:TypeId} {q:Value} {s b:Nat} (h:(P.info? e).map (fun i=>(i.zero,i.size,i.bytes))=some (some q,s,b)):∃ i,P.info? e=some i/\i.zero=some q/\i.size=s/\i.bytes=b:=by
 cases y:P.info? e with
 | none=>rw [y] at h;cases h
 | some i=>rw [y] at h;simp only [Option.map_some,Qv,Zl] at h;exact ⟨i,rfl,h.1,h.2.1,h.2.2⟩
theorem Col.step {P:Program} {S e:TypeId} {s bytes:Nat} {Z:Value} (an:P.underlying S=some (.slice e)) (az:(P.info? e).map (fun i=>(i.zero,i.size,i.bytes))=some (some Z,s,bytes)) (ax:Z.cells.size=s) (aq:0<s) (aD:bytes<=100)
  {w0:World} {h q n:Nat} (aF:q<=w0.heap.size) (aQ:h<q) (aP:n<=1000000000) {W:List Value} {o:World} {v:Value}
  (ag:Boxed o h S v) (ah:o.ownsRow q e s v n W) (ai:Kept (fun i _=>i<q/\i≠h) w0 o)
  (ae:∀ i cs t aC,Q i (.cells cs t aC)->t≠e/\t≠S) {w2:World} (V:Below o.heap.size o w2) (k:List Value) (aL:k.length=s) (G:∀ u∈k,u.oneCell'=true) (ty:TypeId) :
  ∃ g z j,(Builtin.append_ #[S,S] ty #[v,.slice (some ⟨w2.heap.size,0,none⟩) 1 1]).run P (w2.alloc (.cells k.toArray e))=.ok (.slice (some ⟨g,0,none⟩) (n+1) z) j/\
   Boxed w2 h S v/\Boxed j h S v/\
   (∀ B,KeepsFrom B o (j.setCell ⟨h,0,none⟩ (.slice (some ⟨g,0,none⟩) (n+1) z)))/\
   Kept Q o (j.setCell ⟨h,0,none⟩ (.slice (some ⟨g,0,none⟩) (n+1) z))/\
   Col S e s w0 h q (n+1) (W++k) (j.setCell ⟨h,0,none⟩ (.slice (some ⟨g,0,none⟩) (n+1) z)):=by
 obtain ⟨ak,ao,ay,aA,aw⟩:=qpp az;have au:q<=o.heap.size:=Qj aF ai.size;have aB:Below w2.heap.size w2 (w2.alloc (.cells k.toArray e)):=B0;have K:Below o.heap.size o (w2.alloc (.cells k.toArray e)):=V.trans (aB.mono V.size);have T:(w2.alloc (.cells k.toArray e)).ownsRow q e s v n W:=qlH ah (qhd K) fun aN e=>by cases e
 have af:Boxed w2 h S v:=(V.block h ag.lt).trans ag;have av:∀ M u,k[M]?=some u->(w2.alloc (.cells k.toArray e)).cell? ((⟨w2.heap.size,0,none⟩:Addr).add M)=some u:=fun M u aj=>by
  have ap:(⟨w2.heap.size,0,none⟩:Addr).add M=⟨w2.heap.size,M,none⟩:=by unfold Addr.add;split <;> simp_all
  rw [ap];simpa [go_sem] using aj
 obtain ⟨aJ,j,am,ac,O,_,aI⟩:=run_append_own_at (P:=P) (w:=w2.alloc (.cells k.toArray e)) q S ty e ak Z s bytes an ao ay aA aw ax aq v n _ T ⟨w2.heap.size,0,none⟩ 1 1 k (by omega) av G
  (by unfold maxLen;omega) (by
   have:(n+1)*bytes<=1000000001*100:=Nat.mul_le_mul (by omega) aD;omega) (Qj au K.size)
 obtain ⟨g,z,rfl⟩:=qsW ac;have aO:q<=g:=(ac.lt g rfl).1;have ad:∀ r,v.ownBlock=some r->q<=r:=fun r ab=>(ah.lt r ab).1
 have U:Boxed j h S v:=(af.alloc _).kept O fun e=>by have:=ad h e.symm;omega
 have aE:Kept Q (w2.alloc (.cells k.toArray e)) j:=Kept.grown O fun r aa y J E=>by
  rcases T.2 with ⟨G,_⟩ | ⟨aG,aM,aR,G,_,aH,_⟩
  ·rw [G] at y;simp [Value.ownBlock] at y
  ·rw [G] at y
   obtain rfl:aG=r:=by simpa [Value.ownBlock] using y
   rw [aH] at J;cases J;exact (ae _ _ _ _ E).1 rfl
 have ar:Kept Q j (j.setCell ⟨h,0,none⟩ (.slice (some ⟨g,0,none⟩) (n+1) z)):=Kept.grown (grownBy_setCell' j h _) fun r aa y J E=>by
  obtain rfl:=Qs y;rw [show j.heap[h]?=_ from U] at J;cases J;exact (ae _ _ _ _ E).2 rfl
 refine ⟨g,z,j,am,af,U,fun B=>?_,((Kept.qBo K).trans aE).trans ar,_,U.set _,?_,?_⟩
 ·exact (((qeL K).trans (qfK T O)).trans (KeepsOthers.setCell _ _ _)).from B
 ·exact ac.kept (grownBy_setCell' j h _) (.inr fun e=>by
   have aK:g=h:=Qs e;omega)
 ·refine ai.trans ((Kept.qBo K).trans ((Kept.grown O fun r aa ab _ E=>?_).trans (Kept.grown (grownBy_setCell' j h _) fun r aa y _ E=>E.2 (Qs y).symm)))
  have:=ad r ab;have:=E.1;omega
theorem Col.start (S e:TypeId) (s:Nat) (w:World) (h:Nat) (y:h<w.heap.size) (q:Boxed w h S (.slice none 0 0)):Col S e s w h w.heap.size 0 [] w:=
 ⟨_,q,Zm _ _ _ _,Kept.refl _ _⟩
end Go.Col
namespace Go.Proofs.YtecpnfhpcamljaaGreatDoor
open Tryz
open Go.RowKit Go.Shelf
attribute [local go_sem] Oper.semAt_some
abbrev Nm:=ByteArray×Int×Int
def nmF (k:Nat) (j:Nat):List Nm:=((List.range j).filter fun h:Nat=>neB (nmS k (h:Int))).map fun h:Nat=>(nmS k (h:Int),(k:Int),(h:Int))
def nmP (i:Nat):List Nm:=(([1,2,3,8,9].take i).map fun h=>nmF h 8).flatten
def nmAll:List Nm:=nmP 5
def qyi (o:Obj):Prop:=∃ q h,o=.cells q 210 h
abbrev KK:=Col.Kept fun _ h=>qyi h
end Go.Proofs.YtecpnfhpcamljaaGreatDoor
namespace Go.Proofs.YtecpnfhpcamljaaGreatDoor
open Tryz
open Go.RowKit Go.Shelf
attribute [local go_sem] Oper.semAt_some
theorem qb0 {F:Fence} {n:Nat} {w w1:World} {t ty:TypeId} {v h q:Value} (z:(Builtin.append_ #[t,t] ty #[v,h]).run prog w=.ok q w1) {ops:Array Oper} {rest:List Oper} {o:Oper} {a:Act} {Q:Exit->Act->World->Prop} (K:o.guard=none) (s x:Operand)
  (c:o.op=.call {callee:=.builtin .append,args:=#[s,x],argTypes:=#[t,t]}) (E:o.type=ty) (G:a.eval s=v) (O:a.eval x=h) (M:wpListIn F n prog ops Q rest (a.put o.dst q) w1):wpListIn F n prog ops Q (o :: rest) a w:=by
 subst E;refine wpListIn_plain K fun U y=>?_
 unfold Oper.wpIn;refine ⟨?_,?_⟩
 ·simp [Oper.about,c,resolve,Target.leads,Sem.run_pure]
 ·rw [Oper.semAt_plain F _ _ (by rw [c];intro T J;cases J)]
  simp [execOp,c,resolve,invoke,builtin,G,O,z,Result.andThen];exact y _ _ M
def nmT (x:Nm):Tr:=(x.2.1,x.2.2,0)
def qAy (u:ByteArray) (l:List Nm):List Tr:=(l.filter fun h=>h.1.toList == u.toList).map nmT
def namedL (s:ByteArray):List Tr:=qAy (upB s) nmAll
end Go.Proofs.YtecpnfhpcamljaaGreatDoor
namespace Go.Proofs.YtecpnfhpcamljaaGreatDoor
open Tryz
open Go.RowKit
def rnL:Nat->List ByteArray
 | 4=>[⟨#[40,66,67,41]⟩,⟨#[40,68,69,41]⟩,⟨#[40,72,76,41]⟩,⟨#[40,83,80,41]⟩,⟨#[]⟩,⟨#[40,73,88,41]⟩,⟨#[40,73,89,41]⟩,⟨#[]⟩,⟨#[40,67,41]⟩]
 | k=>nmL k
def qcE (L:List ByteArray) (w:World) (e:Ending) (w':World):Prop:=
 (L=[]/\e=.returned (.slice none 0 0)/\w=w')\/(e=.returned (.slice (some ⟨w.heap.size,0,none⟩) L.length L.length)/\w.alloc (.cells (L.map Value.string).toArray 9)=w')
theorem qyt (w:World):Calls prog 170 #[.int .i64 1] w (qcE (rnL 1) w):=by
 go_enter func170,ntmps170
 go_wp2;go_ret;exact .inr ⟨rfl,rfl⟩
theorem qym (w:World):Calls prog 170 #[.int .i64 2] w (qcE (rnL 2) w):=by
 go_enter func170,ntmps170
 go_wp2;go_ret;exact .inr ⟨rfl,rfl⟩
theorem qxE (w:World):Calls prog 170 #[.int .i64 3] w (qcE (rnL 3) w):=by
 go_enter func170,ntmps170
 go_wp2;go_ret;exact .inr ⟨rfl,rfl⟩
theorem qxf (w:World):Calls prog 170 #[.int .i64 4] w (qcE (rnL 4) w):=by
 go_enter func170,ntmps170
 go_wp2;go_ret;exact .inr ⟨rfl,rfl⟩
theorem qyc (w:World):Calls prog 170 #[.int .i64 5] w (qcE (rnL 5) w):=by
 go_enter func170,ntmps170
 go_wp2;go_ret;exact .inr ⟨rfl,rfl⟩
theorem qxm (w:World):Calls prog 170 #[.int .i64 8] w (qcE (rnL 8) w):=by
 go_enter func170,ntmps170
 go_wp2;go_ret;exact .inr ⟨rfl,rfl⟩
theorem qwG (w:World):Calls prog 170 #[.int .i64 9] w (qcE (rnL 9) w):=by
 go_enter func170,ntmps170
 go_wp2;go_ret;exact .inr ⟨rfl,rfl⟩
theorem quu (k:Int) (h:k≠1/\k≠2/\k≠3/\k≠4/\k≠5/\k≠8/\k≠9) (w:World):Calls prog 170 #[.int .i64 k] w (qcE [] w):=by
 have q:(k == 1)=false:=Qm.2 (by omega);have z:(k == 2)=false:=Qm.2 (by omega);have J:(k == 3)=false:=Qm.2 (by omega);have E:(k == 4)=false:=Qm.2 (by omega);have K:(k == 5)=false:=Qm.2 (by omega);have y:(k == 8)=false:=Qm.2 (by omega);have G:(k == 9)=false:=Qm.2 (by omega);clear h
 go_enter func170,ntmps170
 go_wp2;go_ret;exact .inl ⟨rfl,rfl,rfl⟩
def rnK (k:Int):List ByteArray:=if 0<=k then rnL k.toNat else []
theorem qt6 (k:Int) (m:k≠1/\k≠2/\k≠3/\k≠4/\k≠5/\k≠8/\k≠9):rnK k=[]:=by
 unfold rnK;split
 ·rename_i q
  obtain ⟨h,rfl⟩:∃ h:Nat,k=h:=⟨k.toNat,by omega⟩;rw [Int.toNat_natCast];unfold rnL nmL;split
  ·omega
  ·split <;> first | omega | rfl
 ·rfl
theorem qsA (k:Int) (w:World):Calls prog 170 #[.int .i64 k] w (qcE (rnK k) w):=by
 by_cases h:k≠1/\k≠2/\k≠3/\k≠4/\k≠5/\k≠8/\k≠9
 ·rw [qt6 k h];exact quu k h w
 ·have q:k=1\/k=2\/k=3\/k=4\/k=5\/k=8\/k=9:=by omega
  rcases q with rfl | rfl | rfl | rfl | rfl | rfl | rfl
  ·exact qyt w
  ·exact qym w
  ·exact qxE w
  ·exact qxf w
  ·exact qyc w
  ·exact qxm w
  ·exact qwG w
theorem qvz (k:Int):(rnK k).length<=9:=by
 by_cases h:k≠1/\k≠2/\k≠3/\k≠4/\k≠5/\k≠8/\k≠9
 ·rw [qt6 k h];decide
 ·have q:k=1\/k=2\/k=3\/k=4\/k=5\/k=8\/k=9:=by omega
  rcases q with rfl | rfl | rfl | rfl | rfl | rfl | rfl <;> decide
theorem qbk (k r:Int) (w:World) :
  Calls prog 117 #[.int .i64 k,.int .i64 r] w fun s M=>s=.returned (.string (atS (rnK k) r))/\Below w.heap.size w M:=by
 have HR:=J9 (qsA k);have K:=qvz k;obtain ⟨e,j⟩:=N9 (rnK k);rw [j] at HR K |-;clear j;by_cases J:r<0
 ·have h:=J9 (qc0 e r (.inl J))
  go_enter func117,ntmps117
  go_wp2_with fail
  refine (HR.o _).mono ?_;rintro s G (⟨j,rfl,rfl⟩ | ⟨rfl,rfl⟩)
  ·clear j
   go_wp2;go_ret;exact ⟨qaq h.o.symm,Qc _ _⟩
  ·go_wp2
   go_ret;exact ⟨qaq h.o.symm,B0⟩
 ·by_cases E:(e.length:Int)<=r
  ·have h:=J9 (qc0 e r (.inr E))
   go_enter func117,ntmps117
   go_wp2_with fail
   refine (HR.o _).mono ?_;rintro s G (⟨j,rfl,rfl⟩ | ⟨rfl,rfl⟩)
   ·clear j
    have V:(0:Int)<=r:=(by omega);go_wp2;go_ret;exact ⟨qaq h.o.symm,Qc _ _⟩
   ·go_wp2
    go_ret;exact ⟨qaq h.o.symm,B0⟩
  ·obtain ⟨q,rfl⟩:∃ q:Nat,r=q:=⟨r.toNat,by omega⟩
   have y:q<e.length:=(by omega);have h:=J9 (qoY e q y);have L:=(fun (w:World)=>qbR w e 9 q y);obtain ⟨O,z⟩:=N9 (e[q]);rw [z] at h;simp only [z] at L;obtain ⟨U,n⟩:=N9 (e.length);have T:=J9 n;rw [n] at y K;clear J E z
   go_enter func117,ntmps117
   go_wp2_with fail
   refine (HR.o _).mono ?_;rintro s G (⟨j,rfl,rfl⟩ | ⟨rfl,rfl⟩)
   ·exfalso;rw [j] at n;simp at n;omega
   ·rw [n]
    clear n;go_wp2;go_ret;exact ⟨qaq h.o.symm,B0⟩
theorem neB_4 (r:Int):neB (atS (rnK 4) r)=neB (nmS 4 r):=by
 by_cases q:0<=r/\r<9
 ·obtain ⟨h,rfl⟩:∃ h:Nat,r=h:=⟨r.toNat,by omega⟩
  have j:∀ i:Fin 9,neB (atS (rnK 4) ((i.val:Nat):Int))=neB (nmS 4 ((i.val:Nat):Int)):=by decide +kernel
  exact j ⟨h,by omega⟩
 ·unfold nmS
  rw [qc0 _ r (by show r<0\/(9:Int)<=r;omega),qc0 _ r (by show r<0\/(9:Int)<=r;omega)]
theorem qk5 (k r n:Int) (e:k=1\/k=2\/k=3\/k=4\/k=8\/k=9):qaC k r n=(neB (atS (rnK k) r)&&(n == 0)):=by
 have q:qaC k r n=(neB (nmS k.toNat r)&&(decide (0<=n)&&decide (n<=0))):=by rcases e with rfl | rfl | rfl | rfl | rfl | rfl <;> rfl
 have h:neB (nmS k.toNat r)=neB (atS (rnK k) r):=by rcases e with rfl | rfl | rfl | rfl | rfl | rfl <;> first | rfl | exact (neB_4 r).symm
 rw [q,h]
 congr 1
 rw [Bool.eq_iff_iff];simp only [Qd,Qf,beq_iff_eq];omega
theorem qwH (r n:Int):qaC 1 r n=(neB (atS (rnK 1) r)&&(n == 0)):=qk5 1 r n (by decide)
theorem qxH (r n:Int):qaC 2 r n=(neB (atS (rnK 2) r)&&(n == 0)):=qk5 2 r n (by decide)
theorem qxr (r n:Int):qaC 3 r n=(neB (atS (rnK 3) r)&&(n == 0)):=qk5 3 r n (by decide)
theorem qyz (r n:Int):qaC 4 r n=(neB (atS (rnK 4) r)&&(n == 0)):=qk5 4 r n (by decide)
theorem qx1 (r n:Int):qaC 8 r n=(neB (atS (rnK 8) r)&&(n == 0)):=qk5 8 r n (by decide)
theorem qyg (r n:Int):qaC 9 r n=(neB (atS (rnK 9) r)&&(n == 0)):=qk5 9 r n (by decide)
theorem qdw (k r n:Int) (y:k=1\/k=2\/k=3\/k=4\/k=8\/k=9) (w:World) :
  Calls prog 75 #[.agg #[.int .i64 k,.int .i64 r,.int .i64 n]] w fun z E=>z=.returned (.bool (qaC k r n))/\Below w.heap.size w E:=by
 have HR:=J9 (qbk k r);rw [qk5 k r n y];obtain ⟨h,s⟩:=N9 (atS (rnK k) r);rw [s] at HR |-;clear s;rcases y with rfl | rfl | rfl | rfl | rfl | rfl
 all_goals
  cases G:h.toList.isEmpty
  all_goals
   have e:neB h=!h.toList.isEmpty:=rfl;rw [G] at e;rw [e];clear e
   go_enter func75,ntmps75
   go_wp2_with fail
   refine (HR.o _).mono ?_;rintro z J ⟨rfl,q⟩;have K:Hid (Below w.heap.size w J):=(B0).trans (q.mono (by simp));obtain ⟨M,-⟩:=qci q;clear q;go_wp2;go_ret;exact ⟨rfl,K.o⟩
theorem qr2 (r n:Int):qaC 5 r n=(neB (atS (rnK 5) r)&&(decide (-128<=n)&&decide (n<=127))):=rfl
theorem qtc (r n:Int) (w:World) :
  Calls prog 75 #[.agg #[.int .i64 5,.int .i64 r,.int .i64 n]] w fun z M=>z=.returned (.bool (qaC 5 r n))/\Below w.heap.size w M:=by
 have HR:=J9 (qbk 5 r);rw [qr2];obtain ⟨q,E⟩:=N9 (atS (rnK 5) r);rw [E] at HR |-;clear E;cases J:q.toList.isEmpty
 ·have h:neB q=!q.toList.isEmpty:=rfl
  rw [J] at h;rw [h];clear h;by_cases K : -128<=n
  ·rw [Qn K]
   go_enter func75,ntmps75
   go_wp2_with fail
   refine (HR.o _).mono ?_;rintro z s ⟨rfl,e⟩;have y:Hid (Below w.heap.size w s):=(B0).trans (e.mono (by simp));obtain ⟨G,-⟩:=qci e;clear e;go_wp2;go_ret;exact ⟨rfl,y.o⟩
  ·rw [Qh K]
   have N:n < -128:=by omega
   go_enter func75,ntmps75
   go_wp2_with fail
   refine (HR.o _).mono ?_;rintro z s ⟨rfl,e⟩;have y:Hid (Below w.heap.size w s):=(B0).trans (e.mono (by simp));obtain ⟨G,-⟩:=qci e;clear e;go_wp2;go_ret;exact ⟨rfl,y.o⟩
 ·have h:neB q=!q.toList.isEmpty:=rfl
  rw [J] at h;rw [h];clear h
  go_enter func75,ntmps75
  go_wp2_with fail
  refine (HR.o _).mono ?_;rintro z s ⟨rfl,e⟩;have y:Hid (Below w.heap.size w s):=(B0).trans (e.mono (by simp));obtain ⟨G,-⟩:=qci e;clear e;go_wp2;go_ret;exact ⟨rfl,y.o⟩
theorem qk2 (r n:Int):qaC 6 r n=((r == 0)&&(decide (-32768<=n)&&decide (n<=65535))):=rfl
theorem qr3 (r n:Int) (w:World) :
  Calls prog 75 #[.agg #[.int .i64 6,.int .i64 r,.int .i64 n]] w fun z q=>z=.returned (.bool (qaC 6 r n))/\Below w.heap.size w q:=by
 rw [qk2];by_cases e:r=0
 ·subst e
  by_cases h : -32768<=n
  ·rw [Qn h]
   go_enter func75,ntmps75
   go_wp2;go_ret;exact ⟨rfl,B0⟩
  ·rw [Qh h]
   have E:n < -32768:=by omega
   go_enter func75,ntmps75
   go_wp2;go_ret;exact ⟨rfl,B0⟩
 ·have y:(r == 0)=false:=Qm.2 e
  rw [y];clear e
  go_enter func75,ntmps75
  go_wp2;go_ret;exact ⟨rfl,B0⟩
theorem qvC (r n:Int):qaC 7 r n=((r == 0)&&(decide (0<=n)&&decide (n<=65535))):=rfl
theorem qsj (r n:Int) (w:World) :
  Calls prog 75 #[.agg #[.int .i64 7,.int .i64 r,.int .i64 n]] w fun z q=>z=.returned (.bool (qaC 7 r n))/\Below w.heap.size w q:=by
 rw [qvC];by_cases e:r=0
 ·subst e
  by_cases h:0<=n
  ·rw [Qn h]
   go_enter func75,ntmps75
   go_wp2;go_ret;exact ⟨rfl,B0⟩
  ·rw [Qh h]
   have E:n<0:=by omega
   go_enter func75,ntmps75
   go_wp2;go_ret;exact ⟨rfl,B0⟩
 ·have y:(r == 0)=false:=Qm.2 e
  rw [y];clear e
  go_enter func75,ntmps75
  go_wp2;go_ret;exact ⟨rfl,B0⟩
theorem qqX (r n:Int):qaC 10 r n=((r == 0)&&(decide (-128<=n)&&decide (n<=127))):=rfl
theorem qoX (r n:Int) (w:World) :
  Calls prog 75 #[.agg #[.int .i64 10,.int .i64 r,.int .i64 n]] w fun z q=>z=.returned (.bool (qaC 10 r n))/\Below w.heap.size w q:=by
 rw [qqX];by_cases e:r=0
 ·subst e
  by_cases h : -128<=n
  ·rw [Qn h]
   go_enter func75,ntmps75
   go_wp2;go_ret;exact ⟨rfl,B0⟩
  ·rw [Qh h]
   have E:n < -128:=by omega
   go_enter func75,ntmps75
   go_wp2;go_ret;exact ⟨rfl,B0⟩
 ·have y:(r == 0)=false:=Qm.2 e
  rw [y];clear e
  go_enter func75,ntmps75
  go_wp2;go_ret;exact ⟨rfl,B0⟩
theorem qyB (k r n:Int) (q:k<1\/10<k):qaC k r n=false:=by
 unfold qaC;by_cases h:1<=k
 ·rw [Qh (show ¬k<=10 by omega)];simp
 ·rw [Qh h];simp
theorem qoB (k r n:Int) (e:k<1\/10<k) (w:World) :
  Calls prog 75 #[.agg #[.int .i64 k,.int .i64 r,.int .i64 n]] w fun q h=>q=.returned (.bool (qaC k r n))/\Below w.heap.size w h:=by
 rw [qyB k r n e];have E:(k == 1)=false:=Qm.2 (by omega);have G:(k == 2)=false:=Qm.2 (by omega);have M:(k == 3)=false:=Qm.2 (by omega);have J:(k == 4)=false:=Qm.2 (by omega);have T:(k == 5)=false:=Qm.2 (by omega);have y:(k == 6)=false:=Qm.2 (by omega);have U:(k == 7)=false:=Qm.2 (by omega);have z:(k == 8)=false:=Qm.2 (by omega);have K:(k == 9)=false:=Qm.2 (by omega);have O:(k == 10)=false:=Qm.2 (by omega);clear e
 go_enter func75,ntmps75
 go_wp2;go_ret;exact ⟨rfl,B0⟩
theorem qaD (k r n:Int) (w:World) :
  Calls prog 75 #[.agg #[.int .i64 k,.int .i64 r,.int .i64 n]] w fun q e=>q=.returned (.bool (qaC k r n))/\Below w.heap.size w e:=by
 by_cases y:1<=k/\k<=10
 ·have h:k=1\/k=2\/k=3\/k=4\/k=5\/k=6\/k=7\/k=8\/k=9\/k=10:=by omega
  rcases h with rfl | rfl | rfl | rfl | rfl | rfl | rfl | rfl | rfl | rfl
  ·exact qdw 1 r n (by decide) w
  ·exact qdw 2 r n (by decide) w
  ·exact qdw 3 r n (by decide) w
  ·exact qdw 4 r n (by decide) w
  ·exact qtc r n w
  ·exact qr3 r n w
  ·exact qsj r n w
  ·exact qdw 8 r n (by decide) w
  ·exact qdw 9 r n (by decide) w
  ·exact qoX r n w
 ·exact qoB k r n (by omega) w
end Go.Proofs.YtecpnfhpcamljaaGreatDoor
namespace Go.Mixed
open Go
theorem qkN (h:Operand->Value) (o:Oper):execOp h {o with guard:=none}=execOp h o:=by unfold execOp;rfl
theorem qAR {P:Program} {ops:Array Oper} {C:World->Prop} {y:Act->World->Prop} {k:Nat} {r:List (Nat×Bool)} {a:Act} {w:World} {o:Oper} (E:ops[k]?=some o) (z:Region.wanted o (yielded ops a.tmps)=true)
  (h:wpList P ops (QK fun G w'=>C w'/\qAU P ops C y r G w') [{o with guard:=none}] a w):qAU P ops C y ((k,false) :: r) a w:=by
 simp only [qAU];unfold wpOp;simp only [E,z,if_true];simp only [wpList] at h;rw [Qi (by simp [Region.wanted])] at h;rcases h with h | h
 ·refine .inl ?_
  unfold Oper.wp at h |-;rw [qkN] at h;have q:=qeJ h;generalize (execOp a.eval o).run P w=rs at q |-;cases rs with
  | ok x w'=>cases x <;> exact q
  | halt x w'=>cases x <;> exact q
 ·exact absurd h.2 (qax _)
theorem qgS {P:Program} {ops:Array Oper} {C:World->Prop} {h:Act->World->Prop} {k:Nat} {r:List (Nat×Bool)} {a:Act} {w:World} {o:Oper} (z:ops[k]?=some o) (y:Region.wanted o (yielded ops a.tmps)=false)
  (q:qAU P ops C h r (a.put o.dst undef) w):qAU P ops C h ((k,true) :: r) a w:=by
 simp only [qAU,z];exact ⟨undef,.inr ⟨y,rfl⟩,q⟩
theorem ms {P:Program} {ops:Array Oper} {C:World->Prop} {h:Act->World->Prop} {k:Nat} {r:List (Nat×Bool)} {a:Act} {w:World} {o:Oper} (z:ops[k]?=some o)
  (q:qAU P ops C h r (a.put o.dst undef) w) (y:Region.wanted o (yielded ops a.tmps)=false:=by kernel_rfl):qAU P ops C h ((k,true) :: r) a w:=qgS z y q
theorem qBh {P:Program} {ops:Array Oper} {C:World->Prop} {h:Act->World->Prop} {k:Nat} {r:List (Nat×Bool)} {a:Act} {w:World} {o:Oper} (E:ops[k]?=some o) (y:Region.wanted o (yielded ops a.tmps)=false)
  (z:C w) (q:qAU P ops C h r (a.put o.dst undef) w):qAU P ops C h ((k,false) :: r) a w:=by
 simp only [qAU];unfold wpOp;simp only [E,y,Bool.false_eq_true,if_false];exact ⟨z,q⟩
end Go.Mixed
namespace Go.Proofs.YtecpnfhpcamljaaGreatDoor
open Tryz
open Go.RowKit
theorem qde (n:Int) (G : -100000<=n) (z:n<=100000) (w:World) :
  Calls prog 118 #[.int .i64 n] w fun q e=>q=.returned (.string (offS n))/\w=e:=by
 have J:=qau n;have E:=qau (-n);by_cases y:n<0
 ·have h:=J9 (show ⟨#[45]⟩++textS (-n)=offS n by unfold offS;rw [Qi y])
  go_enter func118,ntmps118
  go_wp2_with fail
  refine (qda _ _).mono ?_;rintro q e ⟨rfl,rfl⟩;go_wp2;go_ret;exact ⟨qaq h.o,rfl⟩
 ·have h:=J9 (show ⟨#[43]⟩++textS n=offS n by unfold offS;rw [Qe y])
  go_enter func118,ntmps118
  go_wp2_with fail
  refine (qda _ _).mono ?_;rintro q e ⟨rfl,rfl⟩;go_wp2;go_ret;exact ⟨qaq h.o,rfl⟩
theorem qa0 (k r n:Int) (h:qaC k r n=true):txtS k r n=qly k.toNat (nmS k.toNat r) n:=by unfold txtS;rw [h];rfl
theorem quw (k r n:Int) (e:qaC k r n=false) (w:World) :
  Calls prog 72 #[.agg #[.int .i64 k,.int .i64 r,.int .i64 n]] w fun y z=>y=.returned (.string (txtS k r n))/\Below w.heap.size w z:=by
 have q:=J9 (qaD k r n);rw [e] at q;rw [qme k r n e];clear e
 go_enter func72,ntmps72
 go_wp2_with fail
 refine (q.o _).mono ?_;rintro y E ⟨rfl,h⟩;have G:Hid (Below w.heap.size w E):=(B0).trans (h.mono (by simp));clear h;go_wp2;go_ret;exact ⟨rfl,G.o⟩
theorem qAl (r:Int) (h:neB (nmS 4 r)=true):brS (nmS 4 r)=atS (rnK 4) r:=by
 by_cases y:0<=r/\r<9
 ·obtain ⟨j,rfl⟩:∃ j:Nat,r=j:=⟨r.toNat,by omega⟩
  have q:∀ i:Fin 9,neB (nmS 4 ((i.val:Nat):Int))=true->(brS (nmS 4 ((i.val:Nat):Int))).data=(atS (rnK 4) ((i.val:Nat):Int)).data:=by decide +kernel
  have:=q ⟨j,by omega⟩ h;exact ByteArray.ext this
 ·unfold nmS at h
  rw [qc0 _ r (by show r<0\/(9:Int)<=r;omega),qln] at h;cases h
theorem qw6 (r n:Int) (h:qaC 1 r n=true) (w:World) :
  Calls prog 72 #[.agg #[.int .i64 1,.int .i64 r,.int .i64 n]] w fun q K=>q=.returned (.string (txtS 1 r n))/\Below w.heap.size w K:=by
 have z:=J9 (qaD 1 r n);rw [h] at z;have J:txtS 1 r n=atS (rnK 1) r:=by rw [qa0 1 r n h];rfl
 rw [J];clear J h
 go_enter func72,ntmps72
 go_wp2_with fail
 refine (z.o _).mono ?_;rintro q E ⟨rfl,e⟩;have G:Hid (Below w.heap.size w E):=(B0).trans (e.mono (by simp));obtain ⟨O,-⟩:=qci e;have T:w.heap.size<E.heap.size:=by have:=e.size;simp at this;omega
 clear e
 go_wp2_with fail
 refine (qbk 1 r _).mono ?_;rintro q N ⟨rfl,y⟩;have M:=J9 (G.o.trans (y.mono G.o.size));clear y;go_wp2;go_ret;exact ⟨rfl,M.o⟩
theorem qyW (r n:Int) (h:qaC 2 r n=true) (w:World) :
  Calls prog 72 #[.agg #[.int .i64 2,.int .i64 r,.int .i64 n]] w fun q K=>q=.returned (.string (txtS 2 r n))/\Below w.heap.size w K:=by
 have z:=J9 (qaD 2 r n);rw [h] at z;have J:txtS 2 r n=atS (rnK 2) r:=by rw [qa0 2 r n h];rfl
 rw [J];clear J h
 go_enter func72,ntmps72
 go_wp2_with fail
 refine (z.o _).mono ?_;rintro q E ⟨rfl,e⟩;have G:Hid (Below w.heap.size w E):=(B0).trans (e.mono (by simp));obtain ⟨O,-⟩:=qci e;have T:w.heap.size<E.heap.size:=by have:=e.size;simp at this;omega
 clear e
 go_wp2_with fail
 refine (qbk 2 r _).mono ?_;rintro q N ⟨rfl,y⟩;have M:=J9 (G.o.trans (y.mono G.o.size));clear y;go_wp2;go_ret;exact ⟨rfl,M.o⟩
theorem qwO (r n:Int) (h:qaC 3 r n=true) (w:World) :
  Calls prog 72 #[.agg #[.int .i64 3,.int .i64 r,.int .i64 n]] w fun q K=>q=.returned (.string (txtS 3 r n))/\Below w.heap.size w K:=by
 have z:=J9 (qaD 3 r n);rw [h] at z;have J:txtS 3 r n=atS (rnK 3) r:=by rw [qa0 3 r n h];rfl
 rw [J];clear J h
 go_enter func72,ntmps72
 go_wp2_with fail
 refine (z.o _).mono ?_;rintro q E ⟨rfl,e⟩;have G:Hid (Below w.heap.size w E):=(B0).trans (e.mono (by simp));obtain ⟨O,-⟩:=qci e;have T:w.heap.size<E.heap.size:=by have:=e.size;simp at this;omega
 clear e
 go_wp2_with fail
 refine (qbk 3 r _).mono ?_;rintro q N ⟨rfl,y⟩;have M:=J9 (G.o.trans (y.mono G.o.size));clear y;go_wp2;go_ret;exact ⟨rfl,M.o⟩
theorem qyT (r n:Int) (e:qaC 4 r n=true) (w:World) :
  Calls prog 72 #[.agg #[.int .i64 4,.int .i64 r,.int .i64 n]] w fun q M=>q=.returned (.string (txtS 4 r n))/\Below w.heap.size w M:=by
 have z:=J9 (qaD 4 r n);rw [e] at z;have E:neB (nmS 4 r)=true:=by
  rw [qyz,neB_4,Qd] at e;exact e.1
 have K:txtS 4 r n=atS (rnK 4) r:=by rw [qa0 4 r n e];exact qAl r E
 clear E;rw [K];clear K e
 go_enter func72,ntmps72
 go_wp2_with fail
 refine (z.o _).mono ?_;rintro q G ⟨rfl,h⟩;have J:Hid (Below w.heap.size w G):=(B0).trans (h.mono (by simp));obtain ⟨T,-⟩:=qci h;have U:w.heap.size<G.heap.size:=by have:=h.size;simp at this;omega
 clear h
 go_wp2_with fail
 refine (qbk 4 r _).mono ?_;rintro q O ⟨rfl,y⟩;have N:=J9 (J.o.trans (y.mono J.o.size));clear y;go_wp2;go_ret;exact ⟨rfl,N.o⟩
theorem qyE (r n:Int) (h:qaC 8 r n=true) (w:World) :
  Calls prog 72 #[.agg #[.int .i64 8,.int .i64 r,.int .i64 n]] w fun q K=>q=.returned (.string (txtS 8 r n))/\Below w.heap.size w K:=by
 have z:=J9 (qaD 8 r n);rw [h] at z;have J:txtS 8 r n=atS (rnK 8) r:=by rw [qa0 8 r n h];rfl
 rw [J];clear J h
 go_enter func72,ntmps72
 go_wp2_with fail
 refine (z.o _).mono ?_;rintro q E ⟨rfl,e⟩;have G:Hid (Below w.heap.size w E):=(B0).trans (e.mono (by simp));obtain ⟨O,-⟩:=qci e;have T:w.heap.size<E.heap.size:=by have:=e.size;simp at this;omega
 clear e
 go_wp2_with fail
 refine (qbk 8 r _).mono ?_;rintro q N ⟨rfl,y⟩;have M:=J9 (G.o.trans (y.mono G.o.size));clear y;go_wp2;go_ret;exact ⟨rfl,M.o⟩
theorem qxB (r n:Int) (h:qaC 9 r n=true) (w:World) :
  Calls prog 72 #[.agg #[.int .i64 9,.int .i64 r,.int .i64 n]] w fun q K=>q=.returned (.string (txtS 9 r n))/\Below w.heap.size w K:=by
 have z:=J9 (qaD 9 r n);rw [h] at z;have J:txtS 9 r n=atS (rnK 9) r:=by rw [qa0 9 r n h];rfl
 rw [J];clear J h
 go_enter func72,ntmps72
 go_wp2_with fail
 refine (z.o _).mono ?_;rintro q E ⟨rfl,e⟩;have G:Hid (Below w.heap.size w E):=(B0).trans (e.mono (by simp));obtain ⟨O,-⟩:=qci e;have T:w.heap.size<E.heap.size:=by have:=e.size;simp at this;omega
 clear e
 go_wp2_with fail
 refine (qbk 9 r _).mono ?_;rintro q N ⟨rfl,y⟩;have M:=J9 (G.o.trans (y.mono G.o.size));clear y;go_wp2;go_ret;exact ⟨rfl,M.o⟩
attribute [local irreducible] Go.Mixed.qAU
theorem qyX (r n:Int) (e:qaC 5 r n=true) (w:World) :
  Calls prog 72 #[.agg #[.int .i64 5,.int .i64 r,.int .i64 n]] w fun y z=>y=.returned (.string (txtS 5 r n))/\Below w.heap.size w z:=by
 have U:=J9 (qaD 5 r n);rw [e] at U;have ab : -128<=n/\n<=127:=by
  rw [qr2] at e;simp only [Qd,Qf] at e;exact e.2
 obtain ⟨ae,ag⟩:=ab;have O:Hid (⟨#[40]⟩++atS (rnK 5) r++offS n++⟨#[41]⟩=txtS 5 r n):=by
  rw [qa0 5 r n e];show _=brS (nmS 5 r++offS n);unfold brS;show ⟨#[40]⟩++nmS 5 r++offS n++⟨#[41]⟩=_;simp only [ByteArray.append_assoc]
 have ac:(atS (rnK 5) r).size<=50:=qmK 5 r;have ah:=qcf n;have HR:=J9 (qbk 5 r);obtain ⟨J,T⟩:=N9 (atS (rnK 5) r);rw [T] at O HR ac;clear e T
 go_enter func72,ntmps72
 go_wp2_with fail
 refine (U.o _).mono ?_;rintro y h ⟨rfl,q⟩;have W:Hid (Below w.heap.size w h):=(B0).trans (q.mono (by simp));obtain ⟨K,-⟩:=qci q;have Z:w.heap.size<h.heap.size:=by have:=q.size;simp at this;omega
 clear q;have G:h.cell? ⟨w.heap.size,1,none⟩=some (.int .i64 r):=by rw [K _ _ (by simp)];simp [go_sem]
 have N:h.cell? ⟨w.heap.size,2,none⟩=some (.int .i64 n):=by rw [K _ _ (by simp)];simp [go_sem]
 go_wp2;refine Mixed.qAQ (fun z=>z.cell? ⟨w.heap.size,1,none⟩=some (.int .i64 r)/\z.cell? ⟨w.heap.size,2,none⟩=some (.int .i64 n)) 9 [(0,true),(1,true),(4,true),(5,true),(2,false),(3,true),(6,false),(7,true),(8,true)] (by kernel_rfl) (by kernel_rfl) ⟨G,N⟩ ?_;refine Mixed.mp rfl (.pointer (some ⟨w.heap.size,1,none⟩)) ?_;refine Mixed.mo rfl (.int .i64 r) (fun w e=>by obtain ⟨q,E⟩:=e;go_simp;try rfl) ?_;refine Mixed.mp rfl (.pointer (some ⟨w.heap.size,2,none⟩)) ?_;refine Mixed.mo rfl (.int .i64 n) (fun w e=>by obtain ⟨q,E⟩:=e;go_simp;try rfl) ?_;refine Mixed.qAR rfl (by kernel_rfl) ?_;clear K
 go_wp2_with fail
 refine (HR.o _).mono ?_;rintro y M ⟨rfl,E⟩;have s:Below h.heap.size h M:=(below_drewN h _ 1).trans E;have ad:=J9 (W.o.trans (s.mono W.o.size));have aa:M.cell? ⟨w.heap.size,1,none⟩=some (.int .i64 r):=(s.cell Z).trans G;have V:M.cell? ⟨w.heap.size,2,none⟩=some (.int .i64 n):=(s.cell Z).trans N;clear E s G N;go_wp2;refine ⟨⟨aa,V⟩,?_⟩;refine Mixed.mo rfl (.string (⟨#[40]⟩++J)) (fun w e=>by clear e;go_simp;omega) ?_;refine Mixed.qAR rfl (by kernel_rfl) ?_
 go_wp2_with fail
 refine (qde n (by omega) (by omega) _).mono ?_;rintro y af ⟨rfl,rfl⟩;go_wp2;refine ⟨⟨aa,V⟩,?_⟩;refine Mixed.mo rfl (.string (⟨#[40]⟩++J++offS n)) (fun w e=>by clear e;go_simp;omega) ?_;refine Mixed.mo rfl (.string (⟨#[40]⟩++J++offS n++⟨#[41]⟩)) (fun w e=>by clear e;go_simp;omega) ?_;simp only [Mixed.qAU,Qr,Qx];go_wp2;go_ret;exact ⟨qaq O.o,ad.o⟩
theorem qxF (r n:Int) (h:qaC 6 r n=true) (w:World) :
  Calls prog 72 #[.agg #[.int .i64 6,.int .i64 r,.int .i64 n]] w fun q K=>q=.returned (.string (txtS 6 r n))/\Below w.heap.size w K:=by
 have z:=J9 (qaD 6 r n);rw [h] at z;have T : -32768<=n/\n<=65535:=by
  rw [qk2] at h;simp only [Qd,Qf] at h;exact h.2
 obtain ⟨U,V⟩:=T;have J:txtS 6 r n=if n<0 then offS n else textS n:=by rw [qa0 6 r n h];rfl
 rw [J];clear J h;by_cases G:n<0
 ·rw [Qi G]
  go_enter func72,ntmps72
  go_wp2_with fail
  refine (z.o _).mono ?_;rintro q y ⟨rfl,e⟩;have E:Hid (Below w.heap.size w y):=(B0).trans (e.mono (by simp));obtain ⟨N,-⟩:=qci e;have O:w.heap.size<y.heap.size:=by have:=e.size;simp at this;omega
  clear e
  go_wp2_with fail
  refine (qde n (by omega) (by omega) _).mono ?_;rintro q M ⟨rfl,rfl⟩;go_wp2;go_ret;exact ⟨rfl,E.o⟩
 ·rw [Qe G]
  go_enter func72,ntmps72
  go_wp2_with fail
  refine (z.o _).mono ?_;rintro q y ⟨rfl,e⟩;have E:Hid (Below w.heap.size w y):=(B0).trans (e.mono (by simp));obtain ⟨N,-⟩:=qci e;have O:w.heap.size<y.heap.size:=by have:=e.size;simp at this;omega
  clear e
  go_wp2_with fail
  refine (qda n _).mono ?_;rintro q M ⟨rfl,rfl⟩;go_wp2;go_ret;exact ⟨rfl,E.o⟩
theorem qyr (r n:Int) (h:qaC 7 r n=true) (w:World) :
  Calls prog 72 #[.agg #[.int .i64 7,.int .i64 r,.int .i64 n]] w fun q G=>q=.returned (.string (txtS 7 r n))/\Below w.heap.size w G:=by
 have y:=J9 (qaD 7 r n);rw [h] at y;have E:txtS 7 r n=⟨#[40]⟩++textS n++⟨#[41]⟩:=by rw [qa0 7 r n h];rfl
 have O:=qau n;rw [E];clear E h
 go_enter func72,ntmps72
 go_wp2_with fail
 refine (y.o _).mono ?_;rintro q z ⟨rfl,e⟩;have J:Hid (Below w.heap.size w z):=(B0).trans (e.mono (by simp));obtain ⟨M,-⟩:=qci e;have N:w.heap.size<z.heap.size:=by have:=e.size;simp at this;omega
 clear e
 go_wp2_with fail
 refine (qda n _).mono ?_;rintro q K ⟨rfl,rfl⟩;go_wp2;go_ret;exact ⟨rfl,J.o⟩
theorem quz (r n:Int) (e:qaC 10 r n=true) (w:World) :
  Calls prog 72 #[.agg #[.int .i64 10,.int .i64 r,.int .i64 n]] w fun q G=>q=.returned (.string (txtS 10 r n))/\Below w.heap.size w G:=by
 have y:=J9 (qaD 10 r n);rw [e] at y;have J : -128<=n/\n<=127:=by
  rw [qqX] at e;simp only [Qd,Qf] at e;exact e.2
 obtain ⟨T,U⟩:=J;have E:txtS 10 r n=⟨#[36]⟩++offS (n+2):=by rw [qa0 10 r n e];rfl
 have V:=qcf (n+2);rw [E];clear E e
 go_enter func72,ntmps72
 go_wp2_with fail
 refine (y.o _).mono ?_;rintro q z ⟨rfl,h⟩;have K:Hid (Below w.heap.size w z):=(B0).trans (h.mono (by simp));obtain ⟨N,-⟩:=qci h;have O:w.heap.size<z.heap.size:=by have:=h.size;simp at this;omega
 clear h
 go_wp2_with fail
 refine (qde (n+2) (by omega) (by omega) _).mono ?_;rintro q M ⟨rfl,rfl⟩;go_wp2;go_ret;exact ⟨rfl,K.o⟩
theorem qdt (k r n:Int) (h:qaC k r n=true):k=1\/k=2\/k=3\/k=4\/k=5\/k=6\/k=7\/k=8\/k=9\/k=10:=by
 unfold qaC at h;simp only [Qd,Qf] at h;omega
theorem qr6 (k r n:Int) (w:World) :
  Calls prog 72 #[.agg #[.int .i64 k,.int .i64 r,.int .i64 n]] w fun q h=>q=.returned (.string (txtS k r n))/\Below w.heap.size w h:=by
 cases e:qaC k r n
 ·exact quw k r n e w
 ·rcases qdt k r n e with rfl | rfl | rfl | rfl | rfl | rfl | rfl | rfl | rfl | rfl
  ·exact qw6 r n e w
  ·exact qyW r n e w
  ·exact qwO r n e w
  ·exact qyT r n e w
  ·exact qyX r n e w
  ·exact qxF r n e w
  ·exact qyr r n e w
  ·exact qyE r n e w
  ·exact qxB r n e w
  ·exact quz r n e w
end Go.Proofs.YtecpnfhpcamljaaGreatDoor
namespace Go.Proofs.YtecpnfhpcamljaaGreatDoor
open Tryz
open Go.RowKit
def inP (a h l k r n:Int):Prop:=(k=3/\r=a/\n=0)\/(k=4/\r=a/\n=0)\/(k=5/\r=a)\/(k=2/\r=h/\n=0)\/(k=2/\r=l/\n=0)
instance (a h l k r n:Int):Decidable (inP a h l k r n):=by unfold inP;infer_instance
def inB (a h l k r n:Int):Bool:=decide (inP a h l k r n)
theorem qiJ (a e l k r n:Int) (w:World) :
  Calls prog 224 #[.agg #[.int .i64 a,.int .i64 e,.int .i64 l],.agg #[.int .i64 k,.int .i64 r,.int .i64 n]] w fun q h=>q=.returned (.bool (inB a e l k r n))/\Below w.heap.size w h:=by
 go_enter func224,ntmps224
 go_wp2
 all_goals
  go_ret;exact ⟨qab (by unfold inB;first | exact (Qn (by unfold inP;omega)).symm | exact (Qh (by unfold inP;omega)).symm),(B0).alloc (by simp) _⟩
def qiV (k r n:Int):Int:=if qaC k r n then (if inB 5 0 1 k r n then 5 else if inB 6 2 3 k r n then 6 else 0) else 0
theorem qwK (k r n:Int) (h:qaC k r n=false):qiV k r n=0:=by unfold qiV;rw [h];rfl
theorem qzm (k r n:Int) (q:qaC k r n=true) (h:inB 5 0 1 k r n=true):qiV k r n=5:=by unfold qiV;rw [q,h];rfl
theorem qz9 (k r n:Int) (q:qaC k r n=true) (h:inB 5 0 1 k r n=false) (y:inB 6 2 3 k r n=true):qiV k r n=6:=by unfold qiV;rw [q,h,y];rfl
theorem qzZ (k r n:Int) (q:qaC k r n=true) (h:inB 5 0 1 k r n=false) (y:inB 6 2 3 k r n=false):qiV k r n=0:=by unfold qiV;rw [q,h,y];rfl
def qlI (w:World) (b:Nat) (k r n:Int):Prop:=w.cell? ⟨b,0,none⟩=some (.int .i64 k)/\w.cell? ⟨b,1,none⟩=some (.int .i64 r)/\w.cell? ⟨b,2,none⟩=some (.int .i64 n)
theorem qlI.below {w w':World} {b:Nat} {k r n:Int} (h:qlI w b k r n) (q:Below w.heap.size w w'):qlI w' b k r n:=
 ⟨(q.cell (Qq w _ h.1)).trans h.1,(q.cell (Qq w _ h.2.1)).trans h.2.1,(q.cell (Qq w _ h.2.2)).trans h.2.2⟩
theorem qlI.new (w:World) (k r n:Int) (t:TypeId):qlI (w.alloc (.cells #[.int .i64 k,.int .i64 r,.int .i64 n] t)) w.heap.size k r n:=⟨by simp [go_sem],by simp [go_sem],by simp [go_sem]⟩
theorem qlI.lt {w:World} {b:Nat} {k r n:Int} (h:qlI w b k r n):b<w.heap.size:=Qq w _ h.1
theorem qrW (k r n:Int) (e:qaC k r n=false) (w:World) :
  Calls prog 191 #[.agg #[.int .i64 k,.int .i64 r,.int .i64 n]] w fun y z=>y=.returned (.int .i64 (qiV k r n))/\Below w.heap.size w z:=by
 have q:=J9 (qfU k r n);rw [e] at q;rw [qwK k r n e];clear e
 go_enter func191,ntmps191
 go_wp2_with fail
 refine (q.o _).mono ?_;rintro y E ⟨rfl,h⟩;have G:Hid (Below w.heap.size w E):=(B0).trans (h.mono (by simp));clear h;go_wp2;go_ret;exact ⟨rfl,G.o⟩
theorem qpN (k r n:Int) (j:qaC k r n=true) (w:World) :
  Calls prog 191 #[.agg #[.int .i64 k,.int .i64 r,.int .i64 n]] w fun J ah=>J=.returned (.int .i64 (qiV k r n))/\Below w.heap.size w ah:=by
 have W:=J9 (qfU k r n);have ae:=J9 (qzm k r n j);have ak:=J9 (qz9 k r n j);have aj:=J9 (qzZ k r n j);rw [j] at W;clear j
 go_enter func191,ntmps191
 go_wp2_with fail
 refine (W.o _).mono ?_;rintro J aa ⟨rfl,O⟩;have ag:Hid (Below w.heap.size w aa):=(B0).trans (O.mono (by simp));have am:Hid (qlI aa w.heap.size k r n):=(qlI.new w k r n _).below O;clear O;go_wp2
 go_loopw [11] (fun K wr=>∃ q:Int,(q=0\/q=1\/q=2)/\K=.int .i64 q/\Below w.heap.size w wr/\qlI wr w.heap.size k r n/\(0<q->inB 5 0 1 k r n=false)/\(1<q->inB 6 2 3 k r n=false)) (fun K _=>2 - (intOf K).toNat)
 case atStart=>exact ⟨0,.inl rfl,rfl,ag.o,am.o,fun j=>by omega,fun j=>by omega⟩
 case round=>
  obtain ⟨q,ad,rfl,V,Z,ac,ab⟩:=hrel;have o:=J9 V;have N:=J9 Z;obtain ⟨ap,au,ar⟩:=Z;have I1:=J9 ac;have I2:=J9 ab;have an:=N.o.lt;clear V ac ab;have aq:∀ w,(Instr.index 245 (.agg #[.int .i64 5,.int .i64 0,.int .i64 1,.int .i64 6,.int .i64 2,.int .i64 3]) (.int .i64 0)).run prog w=.ok (.agg #[.int .i64 5,.int .i64 0,.int .i64 1]) w:=fun _=>by kernel_rfl
  have ao:∀ w,(Instr.index 245 (.agg #[.int .i64 5,.int .i64 0,.int .i64 1,.int .i64 6,.int .i64 2,.int .i64 3]) (.int .i64 1)).run prog w=.ok (.agg #[.int .i64 6,.int .i64 2,.int .i64 3]) w:=fun _=>by kernel_rfl
  rcases ad with rfl | rfl | rfl
  ·have E:∀ e,Below w.heap.size w (wr.alloc e):=fun e=>o.o.alloc o.o.size _
   have y:∀ e,qlI (wr.alloc e) w.heap.size k r n:=(fun e=>N.o.below (B0));have U:=J9 E;have T:=J9 y;clear E y
   go_wp2_with fail
   refine (qiJ 5 0 1 k r n _).mono ?_;rintro J B ⟨rfl,h⟩;have G:Hid (Below w.heap.size w B):=(U.o _).trans (h.mono (by simp;have:=o.o.size;omega));have M:Hid (qlI B w.heap.size k r n):=(T.o _).below h;obtain ⟨af,-⟩:=qci h;clear h;cases i:inB 5 0 1 k r n
   ·go_wp2
    go_roundw
    case rel=>exact ⟨1,.inr (.inl rfl),rfl,G.o,M.o,fun _=>i,fun j=>by omega⟩
    case measure=>simp [intOf]
   ·have z:=J9 (ae.o i)
    clear i;go_wp2;go_ret;exact ⟨qao z.o.symm,G.o⟩
  ·have E:∀ e,Below w.heap.size w (wr.alloc e):=fun e=>o.o.alloc o.o.size _
   have y:∀ e,qlI (wr.alloc e) w.heap.size k r n:=(fun e=>N.o.below (B0));have U:=J9 E;have T:=J9 y;clear E y
   go_wp2_with fail
   refine (qiJ 6 2 3 k r n _).mono ?_;rintro J B ⟨rfl,h⟩;have G:Hid (Below w.heap.size w B):=(U.o _).trans (h.mono (by simp;have:=o.o.size;omega));have M:Hid (qlI B w.heap.size k r n):=(T.o _).below h;obtain ⟨af,-⟩:=qci h;clear h;cases i:inB 6 2 3 k r n
   ·have ai:=J9 i
    clear i;go_wp2;go_roundw
    case rel=>exact ⟨2,.inr (.inr rfl),rfl,G.o,M.o,fun _=>I1.o (by omega),fun _=>ai.o⟩
    case measure=>simp [intOf]
   ·have z:=J9 (ak.o (I1.o (by omega)) i)
    clear i;go_wp2;go_ret;exact ⟨qao z.o.symm,G.o⟩
  ·have z:=J9 (aj.o (I1.o (by omega)) (I2.o (by omega)))
   go_wp2;go_ret;exact ⟨qao z.o.symm,o.o⟩
theorem qqj (k r n:Int) (w:World) :
  Calls prog 191 #[.agg #[.int .i64 k,.int .i64 r,.int .i64 n]] w fun q h=>q=.returned (.int .i64 (qiV k r n))/\Below w.heap.size w h:=by
 cases e:qaC k r n
 ·exact qrW k r n e w
 ·exact qpN k r n e w
end Go.Proofs.YtecpnfhpcamljaaGreatDoor
namespace Go.Proofs.YtecpnfhpcamljaaGreatDoor
open Tryz
open Go.RowKit Go.ChangeShapes Go.WideShapes Go.Deep
section
variable {H:Type} {enc:TypeId×Value->H} {w:World} {spare:Nat->Bool} {fuel:Nat}
end
end Go.Proofs.YtecpnfhpcamljaaGreatDoor
namespace Go.Proofs.YtecpnfhpcamljaaGreatDoor
open Tryz
open Go.RowKit
theorem qdh {a b:ByteArray} (h:a.data.toList=b.data.toList):a=b:=by
 apply ByteArray.ext;exact Array.toList_inj.1 h
theorem qey (n m:Int) (J:0<=n) (q:n<=65535) (z:0<=m) (y:m<=65535) (E:textS n=textS m):n=m:=by
 have h:=qlV n J q;have G:=qlV m z y;rw [E,G] at h;exact (Qs h).symm
theorem qu8 {c:Int} (h:qgI c=true):48<=c/\c<=57:=by unfold qgI at h;simpa using h
theorem qnM:∀ i:Fin 10,48<=((qbi (i.val:Int)).toNat:Int)/\((qbi (i.val:Int)).toNat:Int)<=57:=by decide +kernel
theorem qcn (n:Int) (K:0<=n) (z:n<=65535):∃ c e,(textS n).data.toList=c :: e/\48<=(c.toNat:Int)/\(c.toNat:Int)<=57:=by
 unfold textS;rw [Qe (by omega)];split
 ·rename_i J
  refine ⟨qbi n,[],rfl,?_⟩;have h:=qnM ⟨n.toNat,by omega⟩;have E:((n.toNat:Nat):Int)=n:=by omega
  simp only [E] at h;exact h
 ·split
  ·rename_i y
   have G:=qft n (by omega) z;cases t:(digS n).data.toList with
   | nil=>
    have q:(digS n).data.toList.length=(digS n).size:=(by simp);rw [t] at q;simp at q;omega
   | cons c e=>
    rw [t] at y;exact ⟨c,e++[72],by simp,qu8 (by simpa using y)⟩
  ·exact ⟨48,(digS n).data.toList++[72],by simp,by decide,by decide⟩
theorem qbB (n:Int) (h:n<0):(offS n).data.toList=45 :: (textS (-n)).data.toList:=by unfold offS;rw [Qi h,qaa];rfl
theorem qcr (n:Int) (h:0<=n):(offS n).data.toList=43 :: (textS n).data.toList:=by unfold offS;rw [Qe (by omega),qaa];rfl
theorem qiw (n m:Int) (J : -65535<=n) (K:n<=65535) (G : -65535<=m) (E:m<=65535) (z:offS n=offS m):n=m:=by
 have h:(offS n).data.toList=(offS m).data.toList:=by rw [z]
 by_cases y:n<0
 ·by_cases q:m<0
  ·rw [qbB n y,qbB m q,Q3] at h
   have:=qey (-n) (-m) (by omega) (by omega) (by omega) (by omega) (qdh h.2);omega
  ·rw [qbB n y,qcr m (by omega),Q3] at h
   exact absurd h.1 (by decide)
 ·by_cases q:m<0
  ·rw [qcr n (by omega),qbB m q,Q3] at h
   exact absurd h.1 (by decide)
  ·rw [qcr n (by omega),qcr m (by omega),Q3] at h
   exact qey n m (by omega) (by omega) (by omega) (by omega) (qdh h.2)
theorem qb7 (s:ByteArray):(brS s).data.toList=40 :: (s.data.toList++[41]):=by unfold brS;rw [qaa,qaa];rfl
theorem qku {s t:ByteArray} (q:brS s=brS t):s=t:=by
 have h:=congrArg (fun s:ByteArray=>s.data.toList) q;simp only [qb7,Q3,List.append_cancel_right_eq,true_and] at h;exact qdh h
theorem qaK (k:Nat) (r:Int) (h:neB (nmS k r)=true):0<=r/\r<((nmL k).length:Int):=by
 by_cases q:0<=r/\r<((nmL k).length:Int)
 ·exact q
 ·unfold nmS at h
  rw [qc0 _ r (by omega),qln] at h;cases h
theorem qvo:∀ i j:Fin 8,neB (nmS 1 (i.val:Int))=true->(nmS 1 (i.val:Int)).data=(nmS 1 (j.val:Int)).data->i=j:=by decide +kernel
theorem qu5:∀ i j:Fin 4,neB (nmS 2 (i.val:Int))=true->(nmS 2 (i.val:Int)).data=(nmS 2 (j.val:Int)).data->i=j:=by decide +kernel
theorem qv9:∀ i j:Fin 8,neB (nmS 3 (i.val:Int))=true->(nmS 3 (i.val:Int)).data=(nmS 3 (j.val:Int)).data->i=j:=by decide +kernel
theorem quy:∀ i j:Fin 9,neB (nmS 4 (i.val:Int))=true->(nmS 4 (i.val:Int)).data=(nmS 4 (j.val:Int)).data->i=j:=by decide +kernel
theorem qvi:∀ i j:Fin 7,neB (nmS 5 (i.val:Int))=true->(nmS 5 (i.val:Int)).data=(nmS 5 (j.val:Int)).data->i=j:=by decide +kernel
theorem quZ:∀ i j:Fin 8,neB (nmS 8 (i.val:Int))=true->(nmS 8 (i.val:Int)).data=(nmS 8 (j.val:Int)).data->i=j:=by decide +kernel
theorem qvH:∀ i j:Fin 2,neB (nmS 9 (i.val:Int))=true->(nmS 9 (i.val:Int)).data=(nmS 9 (j.val:Int)).data->i=j:=by decide +kernel
theorem qit (r:Int) (h:neB (nmS 5 r)=true):(nmS 5 r).size=2:=by
 obtain ⟨z,i⟩:=qaK 5 r h;have y:∀ e:Fin 7,neB (nmS 5 (e.val:Int))=true->(nmS 5 (e.val:Int)).size=2:=by decide +kernel
 have E:r<7:=i;have q:((r.toNat:Nat):Int)=r:=by omega
 have:=y ⟨r.toNat,by omega⟩;simp only [q] at this;exact this h
theorem qzC (r h:Int) (q:neB (nmS 1 r)=true) (z:neB (nmS 1 h)=true) (e:nmS 1 r=nmS 1 h):r=h:=by
 obtain ⟨U,G⟩:=qaK 1 r q;obtain ⟨T,J⟩:=qaK 1 h z;have M:r<8:=G;have O:h<8:=J;have K:((r.toNat:Nat):Int)=r:=by omega
 have E:((h.toNat:Nat):Int)=h:=by omega
 have y:=qvo ⟨r.toNat,by omega⟩ ⟨h.toNat,by omega⟩;simp only [K,E] at y;have:=Fin.mk.inj (y q (by rw [e]));omega
theorem qzK (r h:Int) (q:neB (nmS 2 r)=true) (z:neB (nmS 2 h)=true) (e:nmS 2 r=nmS 2 h):r=h:=by
 obtain ⟨U,G⟩:=qaK 2 r q;obtain ⟨T,J⟩:=qaK 2 h z;have M:r<4:=G;have O:h<4:=J;have K:((r.toNat:Nat):Int)=r:=by omega
 have E:((h.toNat:Nat):Int)=h:=by omega
 have y:=qu5 ⟨r.toNat,by omega⟩ ⟨h.toNat,by omega⟩;simp only [K,E] at y;have:=Fin.mk.inj (y q (by rw [e]));omega
theorem qAm (r h:Int) (q:neB (nmS 3 r)=true) (z:neB (nmS 3 h)=true) (e:nmS 3 r=nmS 3 h):r=h:=by
 obtain ⟨U,G⟩:=qaK 3 r q;obtain ⟨T,J⟩:=qaK 3 h z;have M:r<8:=G;have O:h<8:=J;have K:((r.toNat:Nat):Int)=r:=by omega
 have E:((h.toNat:Nat):Int)=h:=by omega
 have y:=qv9 ⟨r.toNat,by omega⟩ ⟨h.toNat,by omega⟩;simp only [K,E] at y;have:=Fin.mk.inj (y q (by rw [e]));omega
theorem qzj (r h:Int) (q:neB (nmS 4 r)=true) (z:neB (nmS 4 h)=true) (e:nmS 4 r=nmS 4 h):r=h:=by
 obtain ⟨U,G⟩:=qaK 4 r q;obtain ⟨T,J⟩:=qaK 4 h z;have M:r<9:=G;have O:h<9:=J;have K:((r.toNat:Nat):Int)=r:=by omega
 have E:((h.toNat:Nat):Int)=h:=by omega
 have y:=quy ⟨r.toNat,by omega⟩ ⟨h.toNat,by omega⟩;simp only [K,E] at y;have:=Fin.mk.inj (y q (by rw [e]));omega
theorem qzx (r h:Int) (q:neB (nmS 5 r)=true) (z:neB (nmS 5 h)=true) (e:nmS 5 r=nmS 5 h):r=h:=by
 obtain ⟨U,G⟩:=qaK 5 r q;obtain ⟨T,J⟩:=qaK 5 h z;have M:r<7:=G;have O:h<7:=J;have K:((r.toNat:Nat):Int)=r:=by omega
 have E:((h.toNat:Nat):Int)=h:=by omega
 have y:=qvi ⟨r.toNat,by omega⟩ ⟨h.toNat,by omega⟩;simp only [K,E] at y;have:=Fin.mk.inj (y q (by rw [e]));omega
theorem qzV (r h:Int) (q:neB (nmS 8 r)=true) (z:neB (nmS 8 h)=true) (e:nmS 8 r=nmS 8 h):r=h:=by
 obtain ⟨U,G⟩:=qaK 8 r q;obtain ⟨T,J⟩:=qaK 8 h z;have M:r<8:=G;have O:h<8:=J;have K:((r.toNat:Nat):Int)=r:=by omega
 have E:((h.toNat:Nat):Int)=h:=by omega
 have y:=quZ ⟨r.toNat,by omega⟩ ⟨h.toNat,by omega⟩;simp only [K,E] at y;have:=Fin.mk.inj (y q (by rw [e]));omega
theorem qzh (r h:Int) (q:neB (nmS 9 r)=true) (z:neB (nmS 9 h)=true) (e:nmS 9 r=nmS 9 h):r=h:=by
 obtain ⟨U,G⟩:=qaK 9 r q;obtain ⟨T,J⟩:=qaK 9 h z;have M:r<2:=G;have O:h<2:=J;have K:((r.toNat:Nat):Int)=r:=by omega
 have E:((h.toNat:Nat):Int)=h:=by omega
 have y:=qvH ⟨r.toNat,by omega⟩ ⟨h.toNat,by omega⟩;simp only [K,E] at y;have:=Fin.mk.inj (y q (by rw [e]));omega
theorem qaz {n:Int} (h:(n == 0)=true):n=0:=by simpa using h
theorem quH (k r n s q:Int) (c:qaC k r n=true) (h:qaC k s q=true) (e:txtS k r n=txtS k s q):r=s/\n=q:=by
 have V:=qdt k r n c;rw [qa0 k r n c,qa0 k s q h] at e;rcases V with rfl | rfl | rfl | rfl | rfl | rfl | rfl | rfl | rfl | rfl
 ·rw [qwH,Qd] at c h
  exact ⟨qzC r s c.1 h.1 e,by rw [qaz c.2,qaz h.2]⟩
 ·rw [qxH,Qd] at c h
  exact ⟨qzK r s c.1 h.1 e,by rw [qaz c.2,qaz h.2]⟩
 ·rw [qxr,Qd] at c h
  exact ⟨qAm r s c.1 h.1 e,by rw [qaz c.2,qaz h.2]⟩
 ·rw [qyz,neB_4,Qd] at c h
  exact ⟨qzj r s c.1 h.1 (qku e),by rw [qaz c.2,qaz h.2]⟩
 ·rw [qr2,Qd,Qd,Qf,Qf] at c h
  have t:=congrArg (fun z:ByteArray=>z.data.toList) (qku e);simp only [qaa] at t;have Z:=qit r c.1;have W:=qit s h.1;obtain ⟨y,O⟩:=List.append_inj t (by
   have aa:(nmS 5 r).data.toList.length=(nmS 5 r).size:=(by simp);have ab:(nmS 5 s).data.toList.length=(nmS 5 s).size:=(by simp);show (nmS 5 r).data.toList.length=(nmS 5 s).data.toList.length;omega)
  exact ⟨qzx r s c.1 h.1 (qdh y),qiw n q (by omega) (by omega) (by omega) (by omega) (qdh O)⟩
 ·rw [qk2,Qd,Qd,Qf,Qf] at c h
  refine ⟨by rw [qaz c.1,qaz h.1],?_⟩;have t:(if n<0 then offS n else textS n)=(if q<0 then offS q else textS q):=e;by_cases G:n<0
  ·by_cases E:q<0
   ·rw [Qi G,Qi E] at t
    exact qiw n q (by omega) (by omega) (by omega) (by omega) t
   ·rw [Qi G,Qe E] at t
    obtain ⟨M,T,K,J,U⟩:=qcn q (by omega) (by omega);have y:=congrArg (fun z:ByteArray=>z.data.toList) t;simp only [qbB n G,K,Q3] at y;rw [<- y.1] at J;exact absurd J (by decide)
  ·by_cases E:q<0
   ·rw [Qe G,Qi E] at t
    obtain ⟨M,T,K,J,U⟩:=qcn n (by omega) (by omega);have y:=congrArg (fun z:ByteArray=>z.data.toList) t;simp only [qbB q E,K,Q3] at y;rw [y.1] at J;exact absurd J (by decide)
   ·rw [Qe G,Qe E] at t
    exact qey n q (by omega) (by omega) (by omega) (by omega) t
 ·rw [qvC,Qd,Qd,Qf,Qf] at c h
  exact ⟨by rw [qaz c.1,qaz h.1],qey n q (by omega) (by omega) (by omega) (by omega) (qku e)⟩
 ·rw [qx1,Qd] at c h
  exact ⟨qzV r s c.1 h.1 e,by rw [qaz c.2,qaz h.2]⟩
 ·rw [qyg,Qd] at c h
  exact ⟨qzh r s c.1 h.1 e,by rw [qaz c.2,qaz h.2]⟩
 ·rw [qqX,Qd,Qd,Qf,Qf] at c h
  refine ⟨by rw [qaz c.1,qaz h.1],?_⟩;have t:=congrArg (fun z:ByteArray=>z.data.toList) e;have y:(⟨#[36]⟩++offS (n+2)).data.toList=(⟨#[36]⟩++offS (q+2)).data.toList:=t;rw [qaa,qaa] at y;have:=qiw (n+2) (q+2) (by omega) (by omega) (by omega) (by omega) (qdh (List.append_cancel_left y));omega
def qpO (k:Int):Bool:=k == 1||k == 2||k == 3||k == 8||k == 9
theorem qk3:∀ x∈nmAll,65<=((x.1.data.toList.getD 0 0).toNat:Int):=by decide +kernel
theorem qeS (s:ByteArray) (c:UInt8) (t:List UInt8) (y:s.data.toList=c :: t) (J:(c.toNat:Int)<65):namedL s=[]:=by
 unfold namedL qAy;rw [List.map_eq_nil_iff,List.filter_eq_nil_iff];intro q G E;have h:=qk3 q G;have x:q.1.toList=(upB s).toList:=by simpa using E
 rw [QO,QO] at x;rw [x,qmo,y] at h;have z:(((c :: t).map qng).getD 0 0)=qng c:=rfl;rw [z,qmJ] at h;unfold qkf at h;split at h <;> omega
def qe9 (k r n:Int):Prop:=decide ((k,r,n)∈namedL (txtS k r n))=qpO k/\(1<(namedL (txtS k r n)).length->txtS k r n=⟨#[67]⟩)
theorem qcs {k r n:Int} (y:qpO k=false) (c:UInt8) (t:List UInt8) (h:(txtS k r n).data.toList=c :: t) (q:(c.toNat:Int)<65):qe9 k r n:=by
 unfold qe9;rw [qeS _ c t h q,y];exact ⟨by simp,fun h=>by simp at h⟩
theorem qxd (r:Int) (i:neB (nmS 1 r)=true):qe9 1 r 0:=by
 obtain ⟨O,y⟩:=qaK 1 r i;have M:r<8:=y;have K:((r.toNat:Nat):Int)=r:=by omega
 have G:∀ h:Fin 8,neB (nmS 1 (h.val:Int))=true->decide ((1,(h.val:Int),0)∈namedL (txtS 1 (h.val:Int) 0))=qpO 1/\(1<(namedL (txtS 1 (h.val:Int) 0)).length->(txtS 1 (h.val:Int) 0).data=#[67]):=by decide +kernel
 have q:=G ⟨r.toNat,by omega⟩;simp only [K] at q;obtain ⟨E,J⟩:=q i;exact ⟨E,fun z=>ByteArray.ext (J z)⟩
theorem qwN (r:Int) (i:neB (nmS 2 r)=true):qe9 2 r 0:=by
 obtain ⟨O,y⟩:=qaK 2 r i;have M:r<4:=y;have K:((r.toNat:Nat):Int)=r:=by omega
 have G:∀ h:Fin 4,neB (nmS 2 (h.val:Int))=true->decide ((2,(h.val:Int),0)∈namedL (txtS 2 (h.val:Int) 0))=qpO 2/\(1<(namedL (txtS 2 (h.val:Int) 0)).length->(txtS 2 (h.val:Int) 0).data=#[67]):=by decide +kernel
 have q:=G ⟨r.toNat,by omega⟩;simp only [K] at q;obtain ⟨E,J⟩:=q i;exact ⟨E,fun z=>ByteArray.ext (J z)⟩
theorem qyf (r:Int) (i:neB (nmS 3 r)=true):qe9 3 r 0:=by
 obtain ⟨O,y⟩:=qaK 3 r i;have M:r<8:=y;have K:((r.toNat:Nat):Int)=r:=by omega
 have G:∀ h:Fin 8,neB (nmS 3 (h.val:Int))=true->decide ((3,(h.val:Int),0)∈namedL (txtS 3 (h.val:Int) 0))=qpO 3/\(1<(namedL (txtS 3 (h.val:Int) 0)).length->(txtS 3 (h.val:Int) 0).data=#[67]):=by decide +kernel
 have q:=G ⟨r.toNat,by omega⟩;simp only [K] at q;obtain ⟨E,J⟩:=q i;exact ⟨E,fun z=>ByteArray.ext (J z)⟩
theorem qxO (r:Int) (i:neB (nmS 8 r)=true):qe9 8 r 0:=by
 obtain ⟨O,y⟩:=qaK 8 r i;have M:r<8:=y;have K:((r.toNat:Nat):Int)=r:=by omega
 have G:∀ h:Fin 8,neB (nmS 8 (h.val:Int))=true->decide ((8,(h.val:Int),0)∈namedL (txtS 8 (h.val:Int) 0))=qpO 8/\(1<(namedL (txtS 8 (h.val:Int) 0)).length->(txtS 8 (h.val:Int) 0).data=#[67]):=by decide +kernel
 have q:=G ⟨r.toNat,by omega⟩;simp only [K] at q;obtain ⟨E,J⟩:=q i;exact ⟨E,fun z=>ByteArray.ext (J z)⟩
theorem qxJ (r:Int) (i:neB (nmS 9 r)=true):qe9 9 r 0:=by
 obtain ⟨O,y⟩:=qaK 9 r i;have M:r<2:=y;have K:((r.toNat:Nat):Int)=r:=by omega
 have G:∀ h:Fin 2,neB (nmS 9 (h.val:Int))=true->decide ((9,(h.val:Int),0)∈namedL (txtS 9 (h.val:Int) 0))=qpO 9/\(1<(namedL (txtS 9 (h.val:Int) 0)).length->(txtS 9 (h.val:Int) 0).data=#[67]):=by decide +kernel
 have q:=G ⟨r.toNat,by omega⟩;simp only [K] at q;obtain ⟨E,J⟩:=q i;exact ⟨E,fun z=>ByteArray.ext (J z)⟩
theorem qh7 (k r n:Int) (c:qaC k r n=true):qe9 k r n:=by
 have E:=qdt k r n c;have h:=qa0 k r n c;rcases E with rfl | rfl | rfl | rfl | rfl | rfl | rfl | rfl | rfl | rfl
 ·rw [qwH,Qd] at c
  rw [qaz c.2];exact qxd r c.1
 ·rw [qxH,Qd] at c
  rw [qaz c.2];exact qwN r c.1
 ·rw [qxr,Qd] at c
  rw [qaz c.2];exact qyf r c.1
 ·exact qcs rfl 40 _ (by rw [h];exact qb7 _) (by decide)
 ·exact qcs rfl 40 _ (by rw [h];exact qb7 _) (by decide)
 ·rw [qk2,Qd,Qd,Qf,Qf] at c
  have t:txtS 6 r n=if n<0 then offS n else textS n:=h
  by_cases q:n<0
  ·exact qcs rfl 45 _ (by rw [t,Qi q];exact qbB n q) (by decide)
  ·obtain ⟨z,G,y,J,K⟩:=qcn n (by omega) (by omega)
   exact qcs rfl z G (by rw [t,Qe q];exact y) (by omega)
 ·exact qcs rfl 40 _ (by rw [h];exact qb7 _) (by decide)
 ·rw [qx1,Qd] at c
  rw [qaz c.2];exact qxO r c.1
 ·rw [qyg,Qd] at c
  rw [qaz c.2];exact qxJ r c.1
 ·exact qcs rfl 36 _ (by rw [h];show (⟨#[36]⟩++offS (n+2)).data.toList=_;rw [qaa];rfl) (by decide)
def qcQ (w:World) (A:Option Addr) (xs:List UInt8):Prop:=
 xs=[]\/∃ h j,A=some ⟨h,j,none⟩/\∀ b (q:b<xs.length),w.cell? ⟨h,j+b,none⟩=some (.int .u8 (xs[b].toNat:Int))
theorem qcQ.at_ {w:World} {A:Option Addr} {xs:List UInt8} (y:qcQ w A xs) {k:Nat} (q:k<xs.length):∃ h b,A=some ⟨h,b,none⟩/\w.cell? ⟨h,b+k,none⟩=some (.int .u8 (xs[k].toNat:Int)):=by
 rcases y with rfl | ⟨h,b,rfl,z⟩
 ·simp at q
 ·exact ⟨h,b,rfl,z k q⟩
theorem qcQ.below {w w':World} {A:Option Addr} {xs:List UInt8} (z:qcQ w A xs) (E:Below w.heap.size w w'):qcQ w' A xs:=by
 rcases z with rfl | ⟨j,h,rfl,q⟩
 ·exact .inl rfl
 ·exact .inr ⟨j,h,rfl,fun b y=>(E.cell (p:=⟨j,h+b,none⟩) (Qq w _ (q b y))).trans (q b y)⟩
theorem qcQ.drewN {w:World} {A:Option Addr} {xs:List UInt8} (j:qcQ w A xs) (n:Nat):qcQ (w.drewN n) A xs:=by
 rcases j with rfl | ⟨h,b,rfl,q⟩
 ·exact .inl rfl
 ·exact .inr ⟨h,b,rfl,fun y z=>by simpa using q y z⟩
theorem qf2.below {w w':World} {A:Option Addr} {xs:List Int} (z:qf2 w A xs) (E:Below w.heap.size w w'):qf2 w' A xs:=by
 rcases z with rfl | ⟨j,h,rfl,q⟩
 ·exact .inl rfl
 ·exact .inr ⟨j,h,rfl,fun b y=>(E.cell (p:=⟨j,h+b,none⟩) (Qq w _ (q b y))).trans (q b y)⟩
def qrq (w:World) (xs:List UInt8) (e:Ending) (w':World):Prop:=∃ h q,e=.returned (.slice h xs.length q)/\qcQ w' h xs/\Below w.heap.size w w'
def qAx (w:World) (A:Option Addr):Prop:=∀ a,A=some a->w.heap.size<=a.block
def qjT (w:World) (xs:List UInt8) (e:Ending) (w':World):Prop:=∃ h q,e=.returned (.slice h xs.length q)/\qcQ w' h xs/\xs.length<=q/\qAx w h/\Below w.heap.size w w'
theorem qjT.ret {w:World} {xs:List UInt8} {e:Ending} {w':World} (q:qjT w xs e w'):qrq w xs e w':=by
 obtain ⟨A,E,h,y,_,_,z⟩:=q;exact ⟨A,E,h,y,z⟩
def u8V (b:UInt8):Value:=.int .u8 (b.toNat:Int)
def qxx (s:ByteArray) (i:Nat):Int:=quG ((s.data.toList.getD i 0).toNat:Int)
def qzH (s:ByteArray) (j:Nat):Prop:=0<=qxx s (2*j)/\0<=qxx s (2*j+1)
instance (s:ByteArray) (j:Nat):Decidable (qzH s j):=inferInstanceAs (Decidable (_/\_))
def qnh (w:World) (xs:List UInt8) (ok:Bool) (e:Ending) (w':World):Prop:=∃ h q,e=.returned (.tuple #[.slice h xs.length q,.bool ok])/\qcQ w' h xs/\Below w.heap.size w w'
def qjz (w:World) (xs:List UInt8) (ok:Bool) (e:Ending) (w':World):Prop:=∃ h q,e=.returned (.tuple #[.slice h xs.length q,.bool ok])/\qcQ w' h xs/\xs.length<=q/\qAx w h/\Below w.heap.size w w'
theorem qjz.ok {w:World} {xs:List UInt8} {ok:Bool} {e:Ending} {w':World} (q:qjz w xs ok e w'):qnh w xs ok e w':=by
 obtain ⟨A,E,h,y,_,_,z⟩:=q;exact ⟨A,E,h,y,z⟩
end Go.Proofs.YtecpnfhpcamljaaGreatDoor
