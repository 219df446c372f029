/-
  A checker of calls: EvA, EvB, EvC.
-/
import Derived.Test.YtecpnfhpcamljaaGreatDoorKAG
import Derived.Great.FillDense
set_option linter.all false
set_option maxRecDepth 100000
set_option maxHeartbeats 4000000

namespace Go.Ev
open Go Go.RowKit
inductive AC where
 | bool (b:Bool)
 | int (k:IntKind) (n:Int)
 | str (s:List UInt8)
 | nilp
 | ptr (b o:Nat)
 | nils
 | sl (b o l:Nat) (c:Option Nat)
abbrev Ren:=Nat->Option (Nat×Nat)
def AC.rel (n:Ren):AC->Value->Prop
 | .bool h,b=>b=.bool h
 | .int k v,b=>b=.int k v
 | .str q,b=>b=.string ⟨q.toArray⟩
 | .nilp,b=>b=.pointer none
 | .ptr h o,b=>∃ k l,n h=some (k,l)/\b=.pointer (some ⟨k,o,none⟩)
 | .nils,b=>b=.slice none 0 0
 | .sl h o s c,b=>∃ k l,n h=some (k,l)/\b=.slice (some ⟨k,o,none⟩) s (c.getD l)
def qpF:IntKind->Nat
 | .i8=>0 | .i16=>1 | .i32=>2 | .i64=>3 | .u8=>4 | .u16=>5 | .u32=>6 | .u64=>7
def intB:Int->Int->Bool
 | .ofNat b,.ofNat a=>Nat.beq b a
 | .negSucc b,.negSucc a=>Nat.beq b a
 | _,_=>false
def strB:List UInt8->List UInt8->Bool
 | [],[]=>true
 | a :: b,h :: q=>Nat.beq a.toNat h.toNat&&strB b q
 | _,_=>false
def AC.eqb:AC->AC->Bool
 | .bool b,.bool a=>match b,a with | true,true=>true | false,false=>true | _,_=>false
 | .int k b,.int l a=>Nat.beq (qpF k) (qpF l)&&intB b a
 | .str s,.str z=>strB s z
 | .nilp,.nilp=>true
 | .ptr b a,.ptr c t=>Nat.beq b c&&Nat.beq a t
 | .nils,.nils=>true
 | .sl b a l (some c),.sl q d h (some y)=>Nat.beq b q&&Nat.beq a d&&Nat.beq l h&&Nat.beq c y
 | .sl b a l none,.sl q d h none=>Nat.beq b q&&Nat.beq a d&&Nat.beq l h
 | _,_=>false
theorem qor {k l:IntKind} (h:qpF k=qpF l):k=l:=by cases k <;> cases l <;> simp_all [qpF]
theorem qBf {a b:Int} (h:intB a b=true):a=b:=by
 cases a <;> cases b <;> simp only [intB] at h
 ·rw [Qz h]
 ·cases h
 ·cases h
 ·rw [Qz h]
theorem qAZ:∀ {a b:List UInt8},strB a b=true->a=b
 | [],[],_=>rfl
 | [],_ :: _,h=>by cases h
 | _ :: _,[],h=>by cases h
 | a :: q,b :: s,h=>by
  simp only [strB,Qd] at h;rw [qAZ h.2,UInt8.toNat_inj.1 (Qz h.1)]
theorem AC.qBt {x E:AC} (h:x.eqb E=true):x=E:=by
 unfold AC.eqb at h;split at h
 ·split at h <;> first | rfl | cases h
 ·simp only [Qd] at h
  rw [qor (Qz h.1),qBf h.2]
 ·rw [qAZ h]
 ·rfl
 ·simp only [Qd] at h
  rw [Qz h.1,Qz h.2]
 ·rfl
 ·simp only [Qd] at h
  obtain ⟨⟨⟨q,y⟩,z⟩,G⟩:=h;rw [Qz q,Qz y,Qz z,Qz G]
 ·simp only [Qd] at h
  obtain ⟨⟨q,y⟩,z⟩:=h;rw [Qz q,Qz y,Qz z]
 ·cases h
def cellsB:List AC->List AC->Bool
 | [],[]=>true
 | a :: b,h :: q=>a.eqb h&&cellsB b q
 | _,_=>false
theorem qBj:∀ {a b:List AC},cellsB a b=true->a=b
 | [],[],_=>rfl
 | [],_ :: _,h=>by cases h
 | _ :: _,[],h=>by cases h
 | a :: q,b :: s,h=>by
  simp only [cellsB,Qd] at h;rw [AC.qBt h.1,qBj h.2]
def R2 (t:Ren):List AC->List Value->Prop
 | [],h=>h=[]
 | x :: v,h=>∃ q u,h=q :: u/\x.rel t q/\R2 t v u
structure A1 where
 g:Bool
 l:List AC
def A1.rel (h:Ren) (x:A1) (v:Value):Prop:=
 match x.g with
 | true=>∃ q,v=.agg q/\R2 h x.l q.toList
 | false=>∃ c,x.l=[c]/\c.rel h v
def A1.eqb (x h:A1):Bool:=(match x.g,h.g with | true,true=>true | false,false=>true | _,_=>false)&&cellsB x.l h.l
theorem A1.qBt {x g:A1} (h:x.eqb g=true):x=g:=by
 obtain ⟨y,E⟩:=x;obtain ⟨z,G⟩:=g;simp only [A1.eqb,Qd] at h;obtain ⟨l,q⟩:=h;rw [qBj q];cases y <;> cases z <;> first | rfl | cases l
def qlS:List A1->List A1->Bool
 | [],[]=>true
 | a :: b,h :: q=>a.eqb h&&qlS b q
 | _,_=>false
theorem qjZ:∀ {a b:List A1},qlS a b=true->a=b
 | [],[],_=>rfl
 | [],_ :: _,h=>by cases h
 | _ :: _,[],h=>by cases h
 | a :: q,b :: s,h=>by
  simp only [qlS,Qd] at h;rw [A1.qBt h.1,qjZ h.2]
inductive AV where
 | one (x:A1)
 | tup (l:List A1)
def R1 (t:Ren):List A1->List Value->Prop
 | [],h=>h=[]
 | x :: v,h=>∃ q u,h=q :: u/\x.rel t q/\R1 t v u
def AV.rel (l:Ren):AV->Value->Prop
 | .one x,h=>x.rel l h
 | .tup v,h=>∃ q,h=.tuple q/\R1 l v q.toList
def AV.eqb:AV->AV->Bool
 | .one q,.one h=>q.eqb h
 | .tup q,.tup h=>qlS q h
 | _,_=>false
theorem AV.qBt {x q:AV} (h:x.eqb q=true):x=q:=by
 cases x <;> cases q <;> simp only [AV.eqb] at h
 ·rw [A1.qBt h]
 ·cases h
 ·cases h
 ·rw [qjZ h]
def Ext (q k:Ren):Prop:=∀ h b,q h=some b->k h=some b
theorem Ext.refl (h:Ren):Ext h h:=fun _ _ q=>q
theorem Ext.trans {a b c:Ren} (q:Ext a b) (k:Ext b c):Ext a c:=fun h e x=>k h e (q h e x)
theorem AC.rel.ext {y q:Ren} (e:Ext y q):∀ {x:AC} {v:Value},x.rel y v->x.rel q v
 | .bool _,_,b=>b
 | .int _ _,_,b=>b
 | .str _,_,b=>b
 | .nilp,_,b=>b
 | .ptr h z,_,⟨o,k,c,l⟩=>⟨o,k,e h _ c,l⟩
 | .nils,_,b=>b
 | .sl h z E G,_,⟨o,k,c,l⟩=>⟨o,k,e h _ c,l⟩
theorem R2.ext {q h:Ren} (e:Ext q h):∀ {l:List AC} {t:List Value},R2 q l t->R2 h l t
 | [],_,v=>v
 | x :: J,_,⟨z,G,u,y,E⟩=>⟨z,G,u,y.ext e,R2.ext e E⟩
theorem A1.rel.ext {q h:Ren} (e:Ext q h) {x:A1} {v:Value} (l:x.rel q v):x.rel h v:=by
 obtain ⟨z,G⟩:=x;cases z
 ·obtain ⟨y,c,g⟩:=l
  exact ⟨y,c,g.ext e⟩
 ·obtain ⟨E,c,g⟩:=l
  exact ⟨E,c,g.ext e⟩
theorem R1.ext {q h:Ren} (e:Ext q h):∀ {l:List A1} {t:List Value},R1 q l t->R1 h l t
 | [],_,v=>v
 | x :: J,_,⟨z,G,u,y,E⟩=>⟨z,G,u,y.ext e,R1.ext e E⟩
theorem AV.rel.ext {y h:Ren} (e:Ext y h) {x:AV} {v:Value} (q:x.rel y v):x.rel h v:=by
 cases x
 ·exact A1.rel.ext e q
 ·obtain ⟨G,z,E⟩:=q
  exact ⟨G,z,E.ext e⟩
theorem AC.rel.one {q:Ren} {x:AC} {v:Value} (h:x.rel q v):v.oneCell'=true/\v.cells=#[v]/\(∀ cs,v≠.agg cs):=by
 cases x <;> simp only [AC.rel] at h
 case ptr=>obtain ⟨y,k,-,rfl⟩:=h;exact ⟨rfl,rfl,fun cs e=>by cases e⟩
 case sl=>obtain ⟨y,k,-,rfl⟩:=h;exact ⟨rfl,rfl,fun cs e=>by cases e⟩
 all_goals subst h;exact ⟨rfl,rfl,fun cs e=>by cases e⟩
theorem R2.length {v:Ren}:∀ {l:List AC} {h:List Value},R2 v l h->h.length=l.length
 | [],_,t=>by rw [show _=_ from t];rfl
 | x :: G,_,⟨z,E,q,y,u⟩=>by rw [q,Qt,R2.length u,Qt]
theorem R2.at_ {v:Ren}:∀ {l:List AC} {z:List Value},R2 v l z->∀ {i:Nat} {x:AC},l[i]?=some x->∃ h,z[i]?=some h/\x.rel v h
 | [],_,_,i,x,e=>by simp at e
 | y :: G,_,⟨h,E,q,t,u⟩,0,x,e=>by simp at e;subst e;subst q;exact ⟨h,rfl,t⟩
 | y :: G,_,⟨h,E,q,t,u⟩,i+1,x,e=>by subst q;simpa using R2.at_ u (by simpa using e)
theorem R2.ones {J:Ren}:∀ {l:List AC} {u:List Value},R2 J l u->∀ q∈u,q.oneCell'=true
 | [],_,y,q,t=>by rw [show _=_ from y] at t;cases t
 | x :: M,_,⟨q,K,v,z,G⟩,E,h=>by
  subst v;rcases QM.1 h with rfl | h
  ·exact z.one.1
  ·exact R2.ones G E h
theorem A1.rel.cells {l:Ren} {x:A1} {v:Value} (h:x.rel l v):R2 l x.l v.cells.toList:=by
 obtain ⟨q,y⟩:=x;cases q
 ·obtain ⟨z,g,c⟩:=h
  simp only at g;subst g;rw [c.one.2.1];exact ⟨v,[],rfl,c,rfl⟩
 ·obtain ⟨E,rfl,c⟩:=h
  exact c
theorem R2.qBA {k:Ren}:∀ {l:List AC} {h:List Value},h.length=l.length->(∀ (i:Nat) (x:AC),l[i]?=some x->∃ v,h[i]?=some v/\x.rel k v)->R2 k l h
 | [],[],_,_=>rfl
 | [],_ :: _,e,_=>by simp at e
 | x :: y,[],e,_=>by simp at e
 | x :: y,v :: z,e,q=>by
  obtain ⟨G,r,E⟩:=q 0 x rfl;simp at r;subst r;exact ⟨v,z,rfl,E,R2.qBA (by simpa using e) fun i u t=>by simpa using q (i+1) u (by simpa using t)⟩
theorem R2.append {h:Ren}:∀ {l m:List AC} {q us:List Value},R2 h l q->R2 h m us->R2 h (l++m) (q++us)
 | [],_,_,_,u,k=>by rw [show _=_ from u];exact k
 | x :: G,_,_,_,⟨y,E,t,v,z⟩,k=>⟨y,_,by rw [t];rfl,v,R2.append z k⟩
def look {h:Type}:List (Nat×h)->Nat->Option h
 | [],_=>none
 | (k,x) :: q,n=>match Nat.beq k n with | true=>some x | false=>look q n
theorem qa7 {h:Type} (k:Nat) (x:h) (t:List (Nat×h)) (n:Nat):look ((k,x) :: t) n=if k=n then some x else look t n:=by
 show (match Nat.beq k n with | true=>some x | false=>look t n)=_;by_cases e:k=n
 ·subst e
  rw [Qi rfl];have:Nat.beq k k=true:=Nat.beq_refl k;rw [this]
 ·rw [Qe e]
  have:Nat.beq k n=false:=by
   cases q:Nat.beq k n
   ·rfl
   ·exact absurd (Qz q) e
  rw [this]
structure AO where
 t:TypeId
 c:List AC
 s:Option Nat
abbrev Hp:=List (Nat×AO)
def qy2 (s:Option Nat) (n l h:Nat):Prop:=match s with
 | none=>n=l
 | some q=>n=h*q/\h<=maxLen
def AO.rel (y:Ren) (o:AO) (w:World) (k x:Nat):Prop:=∃ h,w.heap[k]?=some (.cells h o.t (0,0))/\(∀ (i:Nat) (v:AC),o.c[i]?=some v->∃ q,h[i]?=some q/\v.rel y q)/\qy2 o.s h.size o.c.length x
structure HR (w0:World) (ρ:Ren) (σ:Hp) (w:World):Prop where
 below:Below w0.heap.size w0 w
 dom:∀ b kc,ρ b=some kc->∃ o,look σ b=some o
 obj:∀ b o,look σ b=some o->∃ k cp,ρ b=some (k,cp)/\w0.heap.size<=k/\o.rel ρ w k cp
 inj:∀ b b' k c c',ρ b=some (k,c)->ρ b'=some (k,c')->b=b'
theorem HR.start (w:World):HR w (fun _=>none) [] w:=⟨Qc _ _,fun _ _ h=>by (cases h),fun _ _ h=>by (cases h),fun _ _ _ _ _ h=>by (cases h)⟩
theorem AO.rel.ext {i h:Ren} (e:Ext i h) {o:AO} {w w':World} {k q:Nat} (G:o.rel i w k q) (x:w'.heap[k]?=w.heap[k]?):o.rel h w' k q:=by
 obtain ⟨U,E,O,K⟩:=G;exact ⟨U,x.trans E,fun v z M=>by obtain ⟨J,y,T⟩:=O v z M;exact ⟨J,y,T.ext e⟩,K⟩
def Ren.add (q:Ren) (b:Nat) (k:Nat×Nat):Ren:=fun h=>if h=b then some k else q h
theorem HR.fresh {w0 w:World} {e:Ren} {h:Hp} (o:HR w0 e h w) {b:Nat} (q:look h b=none):e b=none:=by
 cases z:e b with
 | none=>rfl
 | some y=>obtain ⟨E,k⟩:=o.dom b y z;rw [q] at k;cases k
theorem HR.qBH {w0 w:World} {e:Ren} {q:Hp} (x:HR w0 e q w) {b:Nat} {k:Nat×Nat} (y:look q b=none):Ext e (e.add b k):=fun E G h=>by
 unfold Ren.add;split
 ·rename_i z;subst z;rw [x.fresh y] at h;cases h
 ·exact h
theorem HR.lt {w0 w:World} {o:Ren} {G:Hp} (h:HR w0 o G w) {b k y:Nat} (e:o b=some (k,y)):k<w.heap.size:=by
 obtain ⟨E,J⟩:=h.dom b _ e;obtain ⟨K,M,q,-,O,z,-⟩:=h.obj b E J;rw [e] at q;cases q;exact (Qb.1 z).1
theorem HR.alloc {w0 w:World} {E:Ren} {J:Hp} (h:HR w0 E J w) {b:Nat} (M:look J b=none) (o:AO) (y:Nat) {cs:Array Value} (Z:∀ (i:Nat) (x:AC),o.c[i]?=some x->∃ v,cs[i]?=some v/\x.rel E v) (V:qy2 o.s cs.size o.c.length y) :
  HR w0 (E.add b (w.heap.size,y)) ((b,o) :: J) (w.alloc (.cells cs o.t)):=by
 have q:=h.qBH (k:=(w.heap.size,y)) M;have O:(E.add b (w.heap.size,y)) b=some (w.heap.size,y):=by unfold Ren.add;rw [Qi rfl]
 refine ⟨h.below.alloc h.below.size _,fun x k e=>?_,fun x ab G=>?_,fun x T k c ad e p=>?_⟩
 ·rw [qa7]
  split
  ·exact ⟨_,rfl⟩
  ·rename_i aa
   unfold Ren.add at e;rw [Qe fun q=>aa q.symm] at e;exact h.dom x k e
 ·rw [qa7] at G
  split at G
  ·rename_i ac
   subst ac;cases G;refine ⟨_,_,O,h.below.size,cs,heap_alloc_new w _,fun i x e=>?_,V⟩;obtain ⟨v,z,K⟩:=Z i x e;exact ⟨v,z,K.ext q⟩
  ·obtain ⟨k,c,z,K,U⟩:=h.obj x ab G
   exact ⟨k,c,q x _ z,K,U.ext q (Below.heap_alloc w _ k (h.lt z))⟩
 ·unfold Ren.add at e p
  split at e
  ·rename_i ae
   split at p
   ·rename_i W;rw [ae,W]
   ·cases e;exact absurd (h.lt p) (Nat.lt_irrefl _)
  ·split at p
   ·cases p;exact absurd (h.lt e) (Nat.lt_irrefl _)
   ·exact h.inj x T k c ad e p
theorem HR.drew {w0 w:World} {q:Ren} {y:Hp} (h:HR w0 q y w):HR w0 q y w.drew:=⟨h.below.drew,h.dom,h.obj,h.inj⟩
theorem HR.row {w0 w:World} {h:Ren} {z:Hp} (c:HR w0 h z w) {b k p:Nat} {o:AO} (y:h b=some (k,p)) (ae:look z b=some o) {l:List AC} {cur':Array Value} (W:∀ (i:Nat) (x:AC),l[i]?=some x->∃ v,cur'[i]?=some v/\x.rel h v) (V:qy2 o.s cur'.size l.length p) :
  HR w0 h ((b,⟨o.t,l,o.s⟩) :: z) (w.setRow k cur'):=by
 obtain ⟨ah,ai,J,ac,Z,T,-⟩:=c.obj b o ae;rw [y] at J;cases J;have K:∀ e,e≠k->(w.setRow k cur').heap[e]?=w.heap[e]?:=fun e q=>by simp [World.setRow,Array.getElem?_modify,Ne.symm q]
 refine ⟨⟨c.below.os,c.below.tape,c.below.output,by simpa [World.setRow] using c.below.size,fun e q=>?_⟩,fun x O ag=>?_,fun x ab j=>?_,c.inj⟩
 ·rw [K e (by omega)];exact c.below.block e q
 ·rw [qa7]
  split
  ·exact ⟨_,rfl⟩
  ·exact c.dom x O ag
 ·rw [qa7] at j
  split at j
  ·rename_i ad
   subst ad;cases j;exact ⟨k,p,y,ac,cur',setRow_heap w k Z _ _ _ T,W,V⟩
  ·rename_i aa
   obtain ⟨e,E,G,af,U⟩:=c.obj x ab j;exact ⟨e,E,G,af,U.ext (Ext.refl _) (K e fun M=>aa (c.inj b x k p E y (M ▸ G)))⟩
end Go.Ev
namespace Go.Ev
open Go Go.RowKit
def ofC:Value->Option AC
 | .bool b=>some (.bool b)
 | .int k n=>some (.int k n)
 | .string s=>some (.str s.data.toList)
 | .pointer none=>some .nilp
 | .slice none 0 0=>some .nils
 | _=>none
def qyY:List Value->Option (List AC)
 | []=>some []
 | v :: h=>match ofC v,qyY h with
  | some x,some l=>some (x :: l)
  | _,_=>none
def ofV:Value->Option A1
 | .agg l=>match qyY l.toList with
  | some h=>some ⟨true,h⟩
  | none=>none
 | v=>match ofC v with
  | some c=>some ⟨false,[c]⟩
  | none=>none
theorem qoU (q:Ren) {v:Value} {x:AC} (h:ofC v=some x):x.rel q v:=by
 unfold ofC at h;split at h <;> first | (cases h;rfl) | (cases h;done)
theorem ql6 (q:Ren):∀ {t:List Value} {l:List AC},qyY t=some l->R2 q l t
 | [],l,h=>by cases h;rfl
 | v :: z,l,h=>by
  simp only [qyY] at h;split at h
  ·rename_i G E x y
   cases h;exact ⟨v,z,rfl,qoU q x,ql6 q y⟩
  ·cases h
theorem qgC (y:Ren) {v:Value} {x:A1} (h:ofV v=some x):x.rel y v:=by
 unfold ofV at h;split at h
 ·split at h
  ·rename_i q;cases h;exact ⟨_,rfl,ql6 y q⟩
  ·cases h
 ·split at h
  ·rename_i q;cases h;exact ⟨_,rfl,qoU y q⟩
  ·cases h
def AC.val:AC->Option Value
 | .bool b=>some (.bool b)
 | .int k n=>some (.int k n)
 | .str s=>some (.string ⟨s.toArray⟩)
 | .nilp=>some (.pointer none)
 | .nils=>some (.slice none 0 0)
 | _=>none
def qyZ:List AC->Option (List Value)
 | []=>some []
 | x :: h=>match x.val,qyZ h with
  | some v,some l=>some (v :: l)
  | _,_=>none
def A1.val (x:A1):Option Value:=match x.g,x.l with
 | true,c=>match qyZ c with
  | some l=>some (.agg l.toArray)
  | none=>none
 | false,[h]=>h.val
 | _,_=>none
theorem AC.qBx {q:Ren} {x:AC} {u v:Value} (h:x.val=some v) (r:x.rel q u):u=v:=by cases x <;> simp only [AC.val] at h <;> first | (cases h;exact r) | (cases h;done)
theorem qlP {y:Ren}:∀ {l:List AC} {q us:List Value},qyZ l=some q->R2 y l us->us=q
 | [],q,us,h,z=>by cases h;exact z
 | x :: O,q,us,h,⟨G,M,r,t,v⟩=>by
  simp only [qyZ] at h;split at h
  ·rename_i K J E u
   cases h;rw [r,AC.qBx E t,qlP u v]
  ·cases h
theorem A1.qBx {l:Ren} {x:A1} {u v:Value} (c:x.val=some v) (r:x.rel l u):u=v:=by
 obtain ⟨h,y⟩:=x;cases h
 ·obtain ⟨z,g,e⟩:=r
  simp only at g;subst g;exact AC.qBx c e
 ·obtain ⟨E,rfl,e⟩:=r
  simp only [A1.val] at c;split at c
  ·rename_i G q
   cases c;rw [<- qlP q e]
  ·cases c
abbrev Tm:=List (Nat×Option AV)
def TR (x:Ren) (t:Tm) (a:Act):Prop:=∀ q h,look t q=some (some h)->h.rel x (a.tmps.getD q undef)
theorem TR.ext {t h:Ren} (e:Ext t h) {q:Tm} {a:Act} (y:TR t q a):TR h q a:=fun E x z=>(y E x z).ext e
def qkh (q:Tm):Operand->Option AV
 | .tmp t=>match look q t with
  | some h=>h
  | none=>none
 | .const h=>match ofV h with
  | some x=>some (.one x)
  | none=>none
 | _=>none
theorem qfz {q:Ren} {t:Tm} {a:Act} (u:TR q t a) {x:Operand} {v:AV} (e:qkh t x=some v):v.rel q (a.eval x):=by
 cases x with
 | tmp y=>
  simp only [qkh] at e;split at e
  ·rename_i z h
   subst e;exact u y v h
  ·cases e
 | const E=>
  simp only [qkh] at e;split at e
  ·rename_i x h;cases e;exact qgC q h
  ·cases e
 | _=>cases e
def op1 (h:Tm) (x:Operand):Option A1:=match qkh h x with
 | some (.one x)=>some x
 | _=>none
theorem qcB {q:Ren} {h:Tm} {a:Act} (z:TR q h a) {x:Operand} {v:A1} (e:op1 h x=some v):v.rel q (a.eval x):=by
 unfold op1 at e;split at e
 ·rename_i E y;cases e;exact qfz z y
 ·cases e
def opc (h:Tm) (x:Operand):Option AC:=match op1 h x with
 | some ⟨false,[c]⟩=>some c
 | _=>none
theorem qaG {h:Ren} {c:Tm} {a:Act} (y:TR h c a) {x:Operand} {v:AC} (e:opc c x=some v):v.rel h (a.eval x):=by
 unfold opc at e;split at e
 ·rename_i G q
  cases e;obtain ⟨J,E,z⟩:=qcB y q;cases E;exact z
 ·cases e
def qtY (h:Tm):List (Nat×Operand)->Option (List (Nat×A1))
 | []=>some []
 | (i,x) :: q=>match op1 h x,qtY h q with
  | some v,some l=>some ((i,v) :: l)
  | _,_=>none
def PR (q:Ren):List (Nat×A1)->List (Nat×Value)->Prop
 | [],h=>h=[]
 | (i,x) :: u,h=>∃ v t,h=(i,v) :: t/\x.rel q v/\PR q u t
theorem qhI {t:Ren} {h:Tm} {a:Act} (q:TR t h a):∀ {ps:List (Nat×Operand)} {l:List (Nat×A1)},qtY h ps=some l->PR t l (ps.map fun (i,x)=>(i,a.eval x))
 | [],l,e=>by cases e;rfl
 | (i,x) :: G,l,e=>by
  simp only [qtY] at e;split at e
  ·rename_i z E v y
   cases e;exact ⟨_,_,rfl,qcB q v,qhI q y⟩
  ·cases e
def sizeT (P:Program) (t:TypeId):Option Nat:=match P.info? t with
 | some h=>some h.size
 | none=>none
def qfh (P:Program) (t:TypeId):Option A1:=match P.info? t with
 | some i=>match i.zero with
  | some h=>ofV h
  | none=>none
 | none=>none
def qy7 (P:Program) (t:TypeId):Option Bool:=match P.underlying t with
 | some (.struct _)=>some true
 | some (.array _ _)=>some true
 | some _=>some false
 | none=>none
theorem qa3 {P:Program} {t:TypeId} {n:Nat} (e:sizeT P t=some n) (w:World):(sizeOf t).run P w=.ok n w:=by
 unfold sizeT at e;split at e
 ·rename_i i h;cases e;simp [Go.sizeOf,typeInfo,h]
 ·cases e
theorem qjM {P:Program} {t:TypeId} {x:A1} (e:qfh P t=some x) (q:Ren):∃ h,x.rel q h/\∀ i,(zeroValue t).run P i=.ok h i:=by
 unfold qfh at e;split at e
 ·rename_i z y
  split at e
  ·rename_i h w;exact ⟨h,qgC q e,fun i=>by simp [zeroValue,typeInfo,y,w]⟩
  ·cases e
 ·cases e
theorem qcm {P:Program} {t:TypeId} {d:TypeDesc} (h:P.underlying t=some d) (w:World):(underlying t).run P w=.ok d w:=by simp [Go.underlying,h]
theorem qfD {P:Program} {t:TypeId} {b:Bool} (d:qy7 P t=some b) (w:World):(isAgg t).run P w=.ok b w:=by
 unfold qy7 at d;split at d
 ·rename_i e;cases d;simp [isAgg,Go.underlying,e]
 ·rename_i e;cases d;simp [isAgg,Go.underlying,e]
 ·rename_i y h q e
  cases d;simp only [isAgg,Go.underlying,Sem.run_bind,run_program,Result.andThen_ok,e,Sem.run_pure]
 ·cases d
def qlN (P:Program) {a:Type}:Sem a->Option a
 | .pure h=>some h
 | .program k=>qlN P (k P)
 | .mark _ k=>qlN P k
 | _=>none
theorem qeV {P:Program} {q:Type}:∀ {s:Sem q} {a:q},qlN P s=some a->∀ h,s.run P h=.ok a h
 | .pure w,a,b,h=>by cases b;rfl
 | .program k,a,b,h=>qeV (s:=k P) b h
 | .mark _ k,a,b,h=>qeV (s:=k) b h
 | .load ..,_,b,_=>by cases b
 | .store ..,_,b,_=>by cases b
 | .new ..,_,b,_=>by cases b
 | .shape ..,_,b,_=>by cases b
 | .freeze ..,_,b,_=>by cases b
 | .frozen ..,_,b,_=>by cases b
 | .getObj ..,_,b,_=>by cases b
 | .setObj ..,_,b,_=>by cases b
 | .choose ..,_,b,_=>by cases b
 | .sys ..,_,b,_=>by cases b
 | .halt ..,_,b,_=>by cases b
def qgn (q:Tm) (x:Operand):Option Value:=match x with
 | .func h=>some (.func (.func h) #[] #[])
 | x=>match op1 q x with
  | some f=>f.val
  | none=>none
theorem qnT {z:Ren} {h:Tm} {a:Act} (y:TR z h a) {x:Operand} {v:Value} (e:qgn h x=some v):a.eval x=v:=by
 unfold qgn at e;split at e
 ·cases e;rfl
 ·split at e
  ·rename_i E q;exact A1.qBx e (qcB y q)
  ·cases e
def qex (h:Tm):List Operand->Bool
 | []=>true
 | x :: q=>match qgn h x with
  | some _=>qex h q
  | none=>false
theorem qe2 {z:Ren} {q:Tm} {a:Act} (v:TR z q a):∀ {l:List Operand},qex q l=true->∀ x∈l,a.eval x=(qgn q x).getD undef
 | [],_,x,e=>by cases e
 | y :: G,h,x,e=>by
  simp only [qex] at h;split at h
  ·rename_i E t
   rcases QM.1 e with rfl | e
   ·rw [t];exact qnT v t
   ·exact qe2 v h x e
  ·cases h
def qsP:Op->Bool
 | .select ..=>true
 | _=>false
def qe3 (P:Program) (q:Tm) (o:Oper):Option AV:=match qsP o.op,qex q o.op.operands.toList with
 | false,true=>match qlN P (execOp (fun h=>(qgn q h).getD undef) o) with
  | some (.value v)=>match ofV v with
   | some h=>some (.one h)
   | none=>none
  | _=>none
 | _,_=>none
theorem qhu {P:Program} {h:Ren} {w:Tm} {a:Act} (z:TR h w a) {o:Oper} {x:AV} (e:qe3 P w o=some x):∃ v,x.rel h v/\∀ b,(execOp a.eval o).run P b=.ok (.value v) b:=by
 unfold qe3 at e;split at e
 ·rename_i q M
  split at e
  ·rename_i v K
   split at e
   ·rename_i T G
    cases e;refine ⟨v,qgC h G,fun b=>?_⟩;rw [execOp_congr o (fun U O E=>by rw [E] at q;cases q) (fun y J=>qe2 z M y (by simpa using J))];exact qeV K b
   ·cases e
  ·cases e
 ·cases e
end Go.Ev
namespace Go.Ev
open Go Go.RowKit
def over:List AC->Nat->List AC->List AC
 | [],_,_=>[]
 | c :: h,0,[]=>c :: h
 | c :: h,0,q :: l=>q :: over h 0 l
 | c :: h,n+1,l=>c :: over h n l
theorem qiD:∀ (cs:List AC) (n:Nat) (l:List AC) (k:Nat),(over cs n l)[k]?=if n<=k/\k<n+l.length/\k<cs.length then l[k - n]? else cs[k]?
 | [],n,l,k=>by rw [Qe (by simp)];rfl
 | c :: h,0,[],k=>by rw [Qe (by simp)];rfl
 | c :: h,0,y :: l,0=>by simp [over]
 | c :: h,0,y :: l,k+1=>by
  have x:=qiD h 0 l k;simp only [over,List.getElem?_cons_succ,x,Qt,Qu,true_and,QT,Nat.sub_zero];by_cases q:k<l.length/\k<h.length
  ·rw [Qi q,Qi (by omega)]
  ·rw [Qe q,Qe (by omega)]
 | c :: h,t+1,l,0=>by rw [Qe (by omega)];simp [over]
 | c :: h,t+1,l,k+1=>by
  have x:=qiD h t l k;simp only [over,List.getElem?_cons_succ,x,Qt];by_cases q:t<=k/\k<t+l.length/\k<h.length
  ·rw [Qi q,Qi (by omega)]
   congr 1
   omega
  ·rw [Qe q,Qe (by omega)]
theorem qcv:∀ (cs:List AC) (h:Nat) (l:List AC),(over cs h l).length=cs.length
 | [],_,_=>rfl
 | c :: t,0,[]=>rfl
 | c :: t,0,q :: l=>by simp [over,qcv t 0 l]
 | c :: t,n+1,l=>by simp [over,qcv t n l]
def qnA (y:Nat->Option (Nat×Nat)) (h:List AC):List (Nat×A1)->Option (List AC)
 | []=>some h
 | (i,x) :: rest=>match y i with
  | some (q,size)=>match Nat.beq x.l.length size&&Nat.ble (q+size) h.length with
   | true=>qnA y (over h q x.l) rest
   | false=>none
  | none=>none
theorem qfo {v:Ren} {O:Nat->Option (Nat×Nat)}:∀ {l:List (Nat×A1)} {j:List (Nat×Value)} {h:List AC} {cs:Array Value} {r:List AC},qnA O h l=some r->R2 v h cs.toList->PR v l j->
  ∃ y,Instr.fill O cs j=some y/\R2 v r y.toList
 | [],j,h,cs,r,c,u,W=>by
  cases c;rw [show j=[] from W];exact ⟨cs,rfl,u⟩
 | (i,x) :: rest,j,h,cs,r,c,u,⟨q,ao,V,ae,aa⟩=>by
  subst V;simp only [qnA] at c;split at c
  ·rename_i k U ab
   split at c
   ·rename_i G
    simp only [Qd] at G;have ak:=Qz G.1;have an:=QS G.2;have M:=ae.cells;have Z:q.cells.size=U:=(by rw [<- Zf,M.length,ak]);have K:cs.size=h.length:=(by rw [<- Zf,u.length]);obtain ⟨ad,af⟩:=Great.foldl_set k q.cells.toList 0 cs;have ac:R2 v (over h k x.l) ((q.cells.zipIdx.foldl (fun cs (E,J)=>cs.setIfInBounds (k+J) E) cs).toList):=by
     have ai:(q.cells.zipIdx.foldl (fun cs (E,J)=>cs.setIfInBounds (k+J) E) cs)=((q.cells.toList.zipIdx 0).foldl (fun cs (x:Value×Nat)=>cs.setIfInBounds (k+x.2) x.1) cs):=(by rw [<- Array.foldl_toList,Array.toList_zipIdx]);rw [ai];refine R2.qBA (by rw [Zf,ad,qcv,K]) fun ag am z=>?_
     rw [qiD] at z;rw [Q8,af ag];simp only [Nat.add_zero,Zf,Z,K];split at z
     ·rename_i ah
      rw [Qi (by omega)];exact M.at_ z
     ·rename_i ah
      rw [Qe (by omega),<- Q8];exact u.at_ z
    obtain ⟨y,T,aj⟩:=qfo c ac aa;refine ⟨y,?_,aj⟩;rw [Instr.fill,ab];simp only;rw [Qe (by simp;omega)];exact T
   ·cases c
  ·cases c
def qo2 (b o:Nat):AV:=.one ⟨false,[.ptr b o]⟩
def Res (P:Program) (w0:World) (y:Ren) (o:Oper) (a:Act) (w:World) (x:Option AV) (z:Hp):Prop:=
 ∃ n q h,(execOp a.eval o).run P w=.ok n q/\Ext y h/\HR w0 h z q/\match x with
  | some x=>∃ v,n=.value v/\x.rel h v
  | none=>n=.skip
section
variable {P:Program} {w0 w:World} {ρ:Ren} {σ σ':Hp} {T:Tm} {a:Act} {o:Oper}
theorem qbF {x:AV} {v:Value} (h:HR w0 ρ σ w) (q:(execOp a.eval o).run P w=.ok (.value v) w) (y:x.rel ρ v):Res P w0 ρ o a w (some x) σ:=⟨_,w,ρ,q,Ext.refl _,h,v,rfl,y⟩
theorem qe1 {x:AV} (q:HR w0 ρ σ w) (y:∃ v,x.rel ρ v/\∀ w,(execOp a.eval o).run P w=.ok (.value v) w):Res P w0 ρ o a w (some x) σ:=by
 obtain ⟨v,h,z⟩:=y;exact qbF q (z w) h
theorem qqH {y:Nat} {ob:AO} (z:HR w0 ρ σ w) (E:look σ y=none) (q:Nat) {cs:Array Value} (J:∀ (i:Nat) (x:AC),ob.c[i]?=some x->∃ v,cs[i]?=some v/\x.rel ρ v) (G:qy2 ob.s cs.size ob.c.length q) :
  ∃ h,Ext ρ h/\h y=some (w.heap.size,q)/\HR w0 h ((y,ob) :: σ) (w.alloc (.cells cs ob.t)):=
 ⟨_,z.qBH E,by unfold Ren.add;rw [Qi rfl],z.alloc E ob q J G⟩
theorem qgb {h:Ren} {z k y q:Nat} (E:h z=some (k,y)):(qo2 z q).rel h (.pointer (some ⟨k,q,none⟩)):=⟨_,rfl,k,y,E,rfl⟩
theorem R2.get {l:List AC} {cs:Array Value} (v:R2 ρ l cs.toList) (i:Nat) (x:AC) (z:l[i]?=some x):∃ h,cs[i]?=some h/\x.rel ρ h:=by
 obtain ⟨h,q,y⟩:=v.at_ z;exact ⟨h,by rw [<- Q8];exact q,y⟩
theorem qij {q:Nat} {t:TypeId} {l:List AC} {x:AV} {cs:Array Value} {v:Value} (E:HR w0 ρ σ w) (G:look σ q=none) (y:R2 ρ l cs.toList)
  (M:(execOp a.eval o).run P w=.ok (.value v) (w.alloc (.cells cs t))) (O:∀ h:Ren,h q=some (w.heap.size,0)->x.rel h v):Res P w0 ρ o a w (some x) ((q,⟨t,l,none⟩) :: σ):=by
 obtain ⟨h,z,J,K⟩:=qqH (ob:=⟨t,l,none⟩) E G 0 y.get (by show _=_;rw [<- Zf,y.length]);exact ⟨_,_,h,M,z,K,v,rfl,O h J⟩
theorem qpE {t:TypeId} {q:A1} {h:Nat} (K:o.op=.alloc t) (z:HR w0 ρ σ w) (E:qfh P t=some q) (y:look σ h=none):Res P w0 ρ o a w (some (qo2 h 0)) ((h,⟨t,q.l,none⟩) :: σ):=by
 obtain ⟨G,v,J⟩:=qjM E ρ;refine qij z y (cs:=G.cells) v.cells ?_ fun M=>qgb
 simp [execOp,K,Instr.alloc,J,newVar,newRow]
theorem quo {t:TypeId} {x:Operand} {q:A1} {h:Nat} (K:o.op=.box t x) (E:HR w0 ρ σ w) (J:TR ρ T a) (G:op1 T x=some q) (z:look σ h=none):Res P w0 ρ o a w (some (qo2 h 0)) ((h,⟨t,q.l,none⟩) :: σ):=by
 have y:=qcB J G;refine qij E z (cs:=(a.eval x).cells) y.cells ?_ fun M=>qgb
 simp [execOp,K,Instr.box,newVar,newRow]
def qih (P:Program):List Field->Option (List (Nat×Nat))
 | []=>some []
 | f :: h=>match sizeT P f.type,qih P h with
  | some n,some l=>some ((f.offset,n) :: l)
  | _,_=>none
theorem qhp:∀ {n:List Field} {l:List (Nat×Nat)},qih P n=some l->n.mapM (fun f=>(P.info? f.type).map fun i=>(f.offset,i.size))=some l
 | [],l,e=>by cases e;rfl
 | f :: z,l,e=>by
  simp only [qih] at e;split at e
  ·rename_i G E h q
   cases e;have t:=qhp q;unfold sizeT at h;split at h
   ·rename_i i y
    cases h;simp [List.mapM_cons,y,t]
   ·cases h
  ·cases e
def qi6 (P:Program) (t:TypeId) (q:List (Nat×A1)):Option (List AC):=match qfh P t with
 | some h=>match P.underlying t with
  | some (.struct z)=>match qih P z.toList with
   | some y=>qnA (fun e=>y[e]?) h.l q
   | none=>none
  | some (.array _ s)=>match sizeT P s with
   | some i=>qnA (fun e=>some (e*i,i)) h.l q
   | none=>none
  | _=>none
 | none=>none
theorem qqw {t:TypeId} {O:List (Nat×A1)} {l:List AC} (e:qi6 P t O=some l) {J:List (Nat×Value)} (K:PR ρ O J):∃ T,P.built t J=some T/\R2 ρ l T.toList:=by
 unfold qi6 at e;split at e
 ·rename_i Z h
  unfold qfh at h;split at h
  ·rename_i ad E
   split at h
   ·rename_i ag M
    have G:=(qgC ρ h).cells;split at e
    ·rename_i ab s
     split at e
     ·rename_i af U
      obtain ⟨y,q,z⟩:=qfo e G K;refine ⟨y,?_,z⟩;unfold Program.built;rw [E,s];simp only [M,qhp U];simpa using q
     ·cases e
    ·rename_i ac W s
     split at e
     ·rename_i aa n
      unfold sizeT at n;split at n
      ·rename_i ae V
       cases n;obtain ⟨y,q,z⟩:=qfo e G K;refine ⟨y,?_,z⟩;unfold Program.built;rw [E,s];simp only [M,V];exact q
      ·cases n
     ·cases e
    ·cases e
   ·cases h
  ·cases h
 ·cases e
theorem qhh {t:TypeId} {ps:Array (Nat×Operand)} {q:List (Nat×A1)} {l:List AC} (K:o.op=.build t ps) (J:TR ρ T a) (w:qtY T ps.toList=some q) (z:qi6 P t q=some l) :
  ∃ v,(AV.one ⟨true,l⟩).rel ρ v/\∀ h,(execOp a.eval o).run P h=.ok (.value v) h:=by
 obtain ⟨i,x,E⟩:=qqw z (qhI J w);refine ⟨.agg i,⟨i,rfl,E⟩,fun h=>?_⟩;have G:=run_build h t (ps.map fun (y,M)=>(y,a.eval M)) i (by simpa using x);simp only [execOp,K,Sem.run_bind,G,Result.andThen_ok];rfl
def qj0 (h:List AC) (n:Nat):List AC:=(List.range n).map fun i=>h.getD (i % h.length) .nilp
def qlq (P:Program) (e:TypeId) (i:Nat) (y:List (Nat×A1)):Option (List AC):=match sizeT P e,qfh P e with
 | some h,some q=>match Nat.ble 1 h&&Nat.ble 1 i&&Nat.ble (i*h) 1000000&&Nat.beq q.l.length h with
  | true=>qnA (fun s=>some (s*h,h)) (qj0 q.l (i*h)) y
  | false=>none
 | _,_=>none
theorem qqJ {h:List AC} {i:Array Value} (y:R2 ρ h i.toList) (G:0<h.length) (n:Nat):R2 ρ (qj0 h n) ((Array.range n).map (i[· % i.size]!)).toList:=by
 have M:i.size=h.length:=by rw [<- Zf,y.length]
 refine R2.qBA (by simp [qj0]) fun v E q=>?_
 have z:v<n:=by have:=(QN.1 q).1;simpa [qj0] using this
 have x:v % h.length<h.length:=Nat.mod_lt _ G;simp only [qj0,Zi,List.getElem?_range z,Option.map_some,Qv] at q;have K:h[v % h.length]?=some E:=by
  rw [Ql,Qg x] at q;rw [Qg x];simpa using q
 obtain ⟨J,O,T⟩:=y.get _ _ K;refine ⟨J,?_,T⟩;rw [Q8,Array.getElem?_map,Array.getElem?_range,Qi z,Option.map_some,M];rw [getElem!_def,O]
theorem qgH {t e:TypeId} {h:Nat} {ps:Array (Nat×Operand)} {E:List (Nat×A1)} {l:List AC} {s:Nat} (ah:o.op=.buildSlice t h ps) (V:HR w0 ρ σ w) (W:TR ρ T a) (ae:P.underlying t=some (.slice e)) (aa:qtY T ps.toList=some E)
  (i:qlq P e h E=some l) (af:look σ s=none):Res P w0 ρ o a w (some (.one ⟨false,[.sl s 0 h (some h)]⟩)) ((s,⟨e,l,none⟩) :: σ):=by
 unfold qlq at i;split at i
 ·rename_i x ak ac ab
  split at i
  ·rename_i y
   simp only [Qd] at y;obtain ⟨⟨⟨K,G⟩,z⟩,J⟩:=y;have K:=QS K;have G:=QS G;have z:=QS z;have J:=Qz J;obtain ⟨am,Z,U⟩:=qjM ab ρ;obtain ⟨cs,O,ai⟩:=qfo i (qqJ Z.cells (by omega) (h*x)) (qhI W aa);refine qij (cs:=cs) (v:=.slice (some ⟨w.heap.size,0,none⟩) h h) V af ai ?_ fun aj i=>⟨_,rfl,_,_,i,rfl⟩
   have ad:¬h*x=0:=by
    intro e;rcases Nat.mul_eq_zero.1 e with e | e <;> omega
   have ag:¬h*x > 2 ^ 24:=(by omega);simp only [execOp,ah,Instr.buildSlice,Sem.run_bind,qcm ae,qa3 ac,Result.andThen_ok];rw [Qe ag,Qe ad];simp only [Sem.run_bind,Sem.run_pure,U,Result.andThen_ok];rw [show (ps.map fun q=>(q.1,a.eval q.2)).toList=ps.toList.map fun (M,q)=>(M,a.eval q) by simp];rw [O];simp [newRow]
  ·cases i
 ·cases i
end
end Go.Ev
