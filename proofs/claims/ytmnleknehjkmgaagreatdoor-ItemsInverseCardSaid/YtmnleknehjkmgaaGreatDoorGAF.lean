/-
  EvE, EvF, EvG, EvH, TbE, TbF, TbG, TbH, TbI.
-/
import Derived.Test.YtmnleknehjkmgaaGreatDoorGAE
import Derived.Laws.Append
import Derived.Test.YtmnleknehjkmgaaGreatDoorGAC
import Derived.Test.YtmnleknehjkmgaaGreatDoorGAA
import Derived.StillTailTactics
import Derived.Laws.EntriesVeiled
set_option linter.all false
set_option maxRecDepth 100000
set_option maxHeartbeats 4000000
namespace Go.Ev
open Go Go.RowKit
section
variable {P:Program} {w0 w:World} {ρ:Ren} {σ σ':Hp} {T:Tm} {a:Act} {o:Oper}
def cellsAt (σ:Hp) (b off n:Nat):Option (List AC):=match look σ b with
 | some ob=>match Nat.beq ((ob.c.drop off).take n).length n with
  | true=>some ((ob.c.drop off).take n)
  | false=>none
 | none=>none
def bytesT (P:Program) (t:TypeId):Option Nat:=match P.info? t with
 | some i=>some i.bytes
 | none=>none
def appendA (P:Program) (σ:Hp) (e:TypeId) (s:Option AC) (x:Option AC):Option (Nat×List AC):=match sizeT P e,bytesT P e,zeroT P e,x with
 | some sz,some by_,some z,some (.sl b2 off2 (n+1) _)=>match cellsAt σ b2 off2 ((n+1)*sz) with
  | some news=>match s with
   | some .nils=>match Nat.ble ((n+1)*by_) 100000000&&Nat.ble n 1000000&&Nat.beq z.l.length sz with
    | true=>some (n+1,news)
    | false=>none
   | some (.sl b off l (some c))=>match Nat.ble c l&&Nat.ble ((l+(n+1))*by_) 100000000&&Nat.ble (l+n) 1000000&&Nat.beq z.l.length sz,cellsAt σ b off (l*sz) with
    | true,some olds=>some (l+(n+1),olds++news)
    | _,_=>none
   | _=>none
  | none=>none
 | _,_,_,_=>none
def nothing (x:Option AC):Bool:=match x with
 | some .nils=>true
 | some (.sl _ _ 0 _)=>true
 | _=>false
def full (s:Option AC):Option AC:=match s with
 | some .nils=>some .nils
 | some (.sl b o l (some c))=>match Nat.ble l c with
  | true=>some (.sl b o l (some c))
  | false=>none
 | _=>none
end
def evOp (P:Program) (T:Tm) (σ:Hp) (nm:Nat) (o:Oper):Option (Option AV×Hp):=match o.op with
 | .move x=>match opnd T x with
  | some v=>some (some v,[])
  | none=>none
 | .assign x=>match opnd T x with
  | some v=>some (some v,[])
  | none=>none
 | .pick c x y=>match opc T c with
  | some (.bool true)=>match opnd T x with
   | some v=>some (some v,[])
   | none=>none
  | some (.bool false)=>match opnd T y with
   | some v=>some (some v,[])
   | none=>none
  | _=>none
 | .alloc t=>match zeroT P t,look σ nm with
  | some z,none=>some (some (ptrV nm 0),[(nm,⟨t,z.l,none⟩)])
  | _,_=>none
 | .box t x=>match op1 T x,look σ nm with
  | some z,none=>some (some (ptrV nm 0),[(nm,⟨t,z.l,none⟩)])
  | _,_=>none
 | .build t ps=>match ops1 T ps.toList with
  | some parts=>match buildA P t parts with
   | some l=>some (some (.one ⟨true,l⟩),[])
   | none=>none
  | none=>none
 | .buildSlice t len ps=>match P.underlying t,look σ nm with
  | some (.slice e),none=>match len,ps.toList with
   | 0,[]=>match sizeT P e with
    | some _=>some (some (.one ⟨false,[.sl nm 0 0 (some 0)]⟩),[(nm,⟨e,[],none⟩)])
    | none=>none
   | len,l=>match ops1 T l with
    | some parts=>match buildSA P e len parts with
     | some c=>some (some (.one ⟨false,[.sl nm 0 len (some len)]⟩),[(nm,⟨e,c,none⟩)])
     | none=>none
    | none=>none
  | _,_=>none
 | .load t x=>match opc T x with
  | some (.ptr b off)=>match loadA P σ t b off with
   | some y=>some (some (.one y),[])
   | none=>none
  | _=>none
 | .store t x u=>match opc T x,op1 T u,sizeT P t with
  | some (.ptr b off),some y,some n=>match look σ b with
   | some ob=>match Nat.beq n y.l.length&&Nat.ble (off+y.l.length) ob.c.length with
    | true=>some (none,[(b,⟨ob.t,over ob.c off y.l,ob.s⟩)])
    | false=>none
   | none=>none
  | _,_,_=>none
 | .indexAddr t x i=>match indexAddrA P t (opc T x) (opc T i) with
  | some (b,off)=>some (some (ptrV b off),[])
  | none=>none
 | .fieldAddr t x f=>match fieldA P t f,opc T x with
  | some fd,some (.ptr b off)=>match sizeT P fd.type with
   | some (_+1)=>some (some (ptrV b (off+fd.offset)),[])
   | _=>none
  | _,_=>none
 | .field t x f=>match fieldA P t f,op1 T x with
  | some fd,some ⟨true,l⟩=>match partA P fd.type l fd.offset with
   | some y=>some (some (.one y),[])
   | none=>none
  | _,_=>none
 | .index t x i=>match indexA P t (op1 T x) (opc T i) with
  | some y=>some (some (.one y),[])
  | none=>match evPure P T o with
   | some v=>some (some v,[])
   | none=>none
 | .extract x i=>match opnd T x with
  | some (.tup l)=>match l[i]? with
   | some y=>some (some (.one y),[])
   | none=>none
  | _=>none
 | .call ⟨.builtin .len,args,ts⟩=>match args.toList,ts.toList with
  | [x],t :: _=>match P.underlying t with
   | some (.slice _)=>match opc T x with
    | some (.sl _ _ l _)=>some (some (.one ⟨false,[.int .i64 l]⟩),[])
    | some .nils=>some (some (.one ⟨false,[.int .i64 0]⟩),[])
    | _=>none
   | _=>match evPure P T o with
    | some v=>some (some v,[])
    | none=>none
  | _,_=>none
 | .call ⟨.builtin .append,args,ts⟩=>match args.toList,ts.toList with
  | [s,x],[t,t']=>match Nat.beq t t',P.underlying t,look σ nm with
   | true,some (.slice e),none=>match nothing (opc T x) with
    | true=>match full (opc T s),sizeT P e with
     | some y,some _=>some (some (.one ⟨false,[y]⟩),[])
     | _,_=>none
    | false=>match appendA P σ e (opc T s) (opc T x) with
     | some (m,l)=>some (some (.one ⟨false,[.sl nm 0 m none]⟩),[(nm,⟨e,l,sizeT P e⟩)])
     | none=>none
   | _,_,_=>none
  | _,_=>none
 | _=>match evPure P T o with
  | some v=>some (some v,[])
  | none=>none
end Go.Ev
namespace Go.Ev
open Go Go.RowKit
section
variable {P:Program} {w0 w:World} {ρ:Ren} {σ:Hp} {T:Tm} {a:Act} {o:Oper}
def evP (P:Program) (T:Tm) (o:Oper):Option AV:=match o.op with
 | .move x=>opnd T x
 | .assign x=>opnd T x
 | .pick c x y=>match opc T c with
  | some (.bool true)=>opnd T x
  | some (.bool false)=>opnd T y
  | _=>none
 | .build t ps=>match ops1 T ps.toList with
  | some parts=>match buildA P t parts with
   | some l=>some (.one ⟨true,l⟩)
   | none=>none
  | none=>none
 | .indexAddr t x i=>match indexAddrA P t (opc T x) (opc T i) with
  | some (b,off)=>some (ptrV b off)
  | none=>none
 | .fieldAddr t x f=>match fieldA P t f,opc T x with
  | some fd,some (.ptr b off)=>match sizeT P fd.type with
   | some (_+1)=>some (ptrV b (off+fd.offset))
   | _=>none
  | _,_=>none
 | .alloc _=>none
 | .box _ _=>none
 | .load _ _=>none
 | .store _ _ _=>none
 | .buildSlice _ _ _=>none
 | .call _=>none
 | _=>evPure P T o
end
end Go.Ev
namespace Go.Ev
open Go Go.RowKit
structure SR (nt:Nat) (ρ:Ren) (T:Tm) (a:Act):Prop where
 tr:TR ρ T a
 size:a.tmps.size=nt
 defers:a.defers=[]
theorem SR.ext {nt:Nat} {ρ ρ':Ren} {T:Tm} {a:Act} (h:SR nt ρ T a) (e:Ext ρ ρ'):SR nt ρ' T a:=⟨h.tr.ext e,h.size,h.defers⟩
theorem SR.put {nt:Nat} {ρ:Ren} {T:Tm} {a:Act} (h:SR nt ρ T a) {d:Nat} (hd:d<nt) {x:AV} {v:Value} (hx:x.rel ρ v):SR nt ρ ((d,some x) :: T) (a.put (some d) v):=by
 refine ⟨fun t y hy=>?_,by simp [Act.put,h.size],h.defers⟩
 rw [look_cons] at hy
 have hs:=h.size
 split at hy
 ·rename_i e
  subst e
  cases hy
  have:(a.put (some d) v).tmps.getD d undef=v:=by simp [Act.put,Array.getD_eq_getD_getElem?,hs,hd]
  rw [this];exact hx
 ·rename_i e
  have:(a.put (some d) v).tmps.getD t undef=a.tmps.getD t undef:=by simp [Act.put,Array.getD_eq_getD_getElem?,Array.getElem?_setIfInBounds_ne e]
  rw [this];exact h.tr t y hy
theorem SR.drop {nt:Nat} {ρ:Ren} {T:Tm} {a:Act} (h:SR nt ρ T a) (d:Nat) (v:Value):SR nt ρ ((d,none) :: T) (a.put (some d) v):=by
 refine ⟨fun t y hy=>?_,by simp [Act.put,h.size],h.defers⟩
 rw [look_cons] at hy
 split at hy
 ·cases hy
 ·rename_i e
  have:(a.put (some d) v).tmps.getD t undef=a.tmps.getD t undef:=by simp [Act.put,Array.getD_eq_getD_getElem?,Array.getElem?_setIfInBounds_ne e]
  rw [this];exact h.tr t y hy
def wantA (ops:Array Oper) (T:Tm) (o:Oper):Option Bool:=match o.guard with
 | none=>some true
 | some (j,want)=>match ops[j]? with
  | some oj=>match oj.dst with
   | some d=>match opc T (.tmp d) with
    | some (.bool b)=>some (b == want)
    | _=>none
   | none=>none
  | none=>none
def callOf (o:Oper):Option (FuncId×List Operand):=match o.op with
 | .call ⟨.value (.func f),args,_⟩=>some (f,args.toList)
 | _=>none
def argsA (T:Tm):List Operand→Option (List A1)
 | []=>some []
 | x :: t=>match op1 T x,argsA T t with
  | some v,some l=>some (v :: l)
  | _,_=>none
def putA (nt:Nat) (dst:Option Tmp) (v:AV):Option Tm:=match dst with
 | none=>some []
 | some d=>match Nat.blt d nt with
  | true=>some [(d,some v)]
  | false=>none
theorem SR.putA {nt:Nat} {ρ:Ren} {T e:Tm} {a:Act} (h:SR nt ρ T a) {dst:Option Tmp} {x:AV} {v:Value} (he:putA nt dst x=some e) (hx:x.rel ρ v):SR nt ρ (e++T) (a.put dst v):=by
 unfold Ev.putA at he
 split at he
 ·cases he;exact h
 ·split at he
  ·rename_i d hd;cases he;exact h.put (Nat.le_of_ble_eq_true hd) hx
  ·cases he
abbrev Caller:=FuncId→List A1→Hp→Nat→Option (AV×Hp)
def evStep (call:Caller) (P:Program) (nt:Nat) (ops:Array Oper) (T:Tm) (σ:Hp) (i nm:Nat):Option (Tm×Hp):=match ops[i]? with
 | none=>none
 | some o=>match wantA ops T o with
  | none=>none
  | some false=>match o.dst with
   | some d=>some ([(d,none)],[])
   | none=>some ([],[])
  | some true=>match callOf o with
   | some (f,args)=>match argsA T args with
    | some vs=>match call f vs σ nm with
     | some (v,δ)=>match putA nt o.dst v with
      | some e=>some (e,δ)
      | none=>none
     | none=>none
    | none=>none
   | none=>match evOp P T σ nm o with
    | some (some v,δ)=>match putA nt o.dst v with
     | some e=>some (e,δ)
     | none=>none
    | some (none,δ)=>match o.dst with
     | none=>some ([],δ)
     | some _=>none
    | none=>none
section
variable {P:Program} {w0:World} {call:Caller} {nt:Nat} {ops:Array Oper}
def maskArr (n m:Nat):Array Bool:=((List.range n).map fun i=>Nat.testBit m i).toArray
theorem SR.same {ρ:Ren} {T T':Tm} {a:Act} (h:SR nt ρ T a) (e:∀ k,look T k=look T' k):SR nt ρ T' a:=⟨fun t x hx=>h.tr t x ((e t).trans hx),h.size,h.defers⟩
theorem HR.same {ρ:Ren} {σ σ':Hp} {w:World} (h:HR w0 ρ σ w) (e:∀ k,look σ k=look σ' k):HR w0 ρ σ' w:=⟨h.below,fun b k hb=>by rw [← e b];exact h.dom b k hb,fun b o ho=>h.obj b o ((e b).trans ho),h.inj⟩
abbrev Sts:=List (Nat×Tm×Hp)
def Cov (L:Sts) (m:Nat) (e:Tm) (δ:Hp):Prop:=∃ e' δ',(m,e',δ')∈L∧(∀ k,look e k=look e' k)∧∀ k,look δ k=look δ' k
theorem Cov.sub {L L':Sts} (h:∀ x∈L,x∈L') {m:Nat} {e:Tm} {δ:Hp} (k:Cov L m e δ):Cov L' m e δ:=by
 obtain ⟨e',δ',k1,k2⟩:=k
 exact ⟨e',δ',h _ k1,k2⟩
def freeS (ops:Array Oper) (i:Nat):Bool:=Region.noSelect ops&&Region.free .any ops (Array.replicate ops.size false) i
def pureStep (P:Program) (nt:Nat) (ops:Array Oper) (T:Tm) (i:Nat):Option Tm:=match ops[i]? with
 | none=>none
 | some o=>match freeS ops i with
  | false=>none
  | true=>match wantA ops T o with
   | none=>none
   | some false=>match o.dst with
    | some d=>some [(d,none)]
    | none=>some []
   | some true=>match evP P T o with
    | some v=>putA nt o.dst v
    | none=>none
def Up (call:Caller) (P:Program) (nt:Nat) (ops:Array Oper) (T:Tm) (σ:Hp) (nm:Nat) (L':Sts) (m:Nat) (e:Tm) (δ:Hp):Prop:=
 (∃ j e1,j∈Region.ready .any ops (maskArr ops.size m)∧pureStep P nt ops (e++T) j=some e1∧Cov L' (m ||| 2 ^ j) (e1++e) δ)∨
 (Region.ready .any ops (maskArr ops.size m)≠[]∧∀ i∈Region.ready .any ops (maskArr ops.size m),∃ e1 δ1,evStep call P nt ops (e++T) (δ++σ) i (nm+i)=some (e1,δ1)∧Cov L' (m ||| 2 ^ i) (e1++e) (δ1++δ))
theorem Up.sub {T:Tm} {σ:Hp} {nm:Nat} {L L':Sts} (h:∀ x∈L,x∈L') {m:Nat} {e:Tm} {δ:Hp} (k:Up call P nt ops T σ nm L m e δ):Up call P nt ops T σ nm L' m e δ:=by
 rcases k with ⟨j,e1,h1,h2,h3⟩ | ⟨h1,h2⟩
 ·exact .inl ⟨j,e1,h1,h2,h3.sub h⟩
 ·refine .inr ⟨h1,fun i hi=>?_⟩
  obtain ⟨e1,δ1,q1,q2⟩:=h2 i hi
  exact ⟨e1,δ1,q1,q2.sub h⟩
end
end Go.Ev
namespace Go.Ev
open Go Go.RowKit
inductive Ex where
 | normal
 | exit (id:Nat)
 | ret
def Ex.to:Ex→Exit
 | .normal=>.normal
 | .exit id=>.exit id
 | .ret=>.ret
structure Fin where
 ex:Ex
 T:Tm
 d:Hp
 c:Nat
section
variable {P:Program} {w0:World} {call:Caller} {nt:Nat} {σ:Hp} {p:Nat}
def Goal (P:Program) (w0:World) (nt:Nat) (σ:Hp) (r:Fin) (ρ:Ren) (Q:Exit→Act→World→Prop):Prop:=∀ ρ' a' w',Ext ρ ρ'→SR nt ρ' r.T a'→HR w0 ρ' (r.d++σ) w'→Q r.ex.to a' w'
theorem Goal.ext {r:Fin} {ρ ρ':Ren} {Q:Exit→Act→World→Prop} (h:Goal P w0 nt σ r ρ Q) (e:Ext ρ ρ'):Goal P w0 nt σ r ρ' Q:=fun ρ2 a w h1 h2 h3=>h ρ2 a w (e.trans h1) h2 h3
end
section
variable {P:Program} {w0:World}
theorem R1.length {ρ:Ren}:∀ {l:List A1} {vs:List Value},R1 ρ l vs→vs.length=l.length
 | [],_,h=>by rw [show _=_ from h];rfl
 | x :: t,_,⟨v,u,h1,h2,h3⟩=>by rw [h1,List.length_cons,R1.length h3,List.length_cons]
end
end Go.Ev
namespace Go.Proofs.YtmnleknehjkmgaaGreatDoor
open Go.RowKit Go.Shelf
theorem listOf_any (page:Int) (w:World) :
  Calls Tryz.prog 74 #[.int .i64 page] w fun e w'=>e=.returned (.string (sB (listS page)))∧w'=w:=by
 by_cases h0:page=0
 ·subst h0
  go_enter Tryz.func74,Tryz.ntmps74
  go_wp2
  go_ret
  exact ⟨rfl,rfl⟩
 by_cases h1:page=1
 ·subst h1
  go_enter Tryz.func74,Tryz.ntmps74
  go_wp2
  go_ret
  exact ⟨rfl,rfl⟩
 by_cases h2:page=2
 ·subst h2
  go_enter Tryz.func74,Tryz.ntmps74
  go_wp2
  go_ret
  exact ⟨rfl,rfl⟩
 by_cases h3:page=3
 ·subst h3
  go_enter Tryz.func74,Tryz.ntmps74
  go_wp2
  go_ret
  exact ⟨rfl,rfl⟩
 by_cases h4:page=4
 ·subst h4
  go_enter Tryz.func74,Tryz.ntmps74
  go_wp2
  go_ret
  exact ⟨rfl,rfl⟩
 by_cases h5:page=5
 ·subst h5
  go_enter Tryz.func74,Tryz.ntmps74
  go_wp2
  go_ret
  exact ⟨rfl,rfl⟩
 by_cases h6:page=6
 ·subst h6
  go_enter Tryz.func74,Tryz.ntmps74
  go_wp2
  go_ret
  exact ⟨rfl,rfl⟩
 ·have e:listS page=[]:=by unfold listS;simp [h0,h1,h2,h3,h4,h5,h6]
  rw [e]
  go_enter Tryz.func74,Tryz.ntmps74
  go_wp2
  go_ret
  exact ⟨rfl,rfl⟩
theorem patsOf_main:patsOf mainS=mainP:=by decide +kernel
theorem patsOf_cb:patsOf cbS=cbP:=by decide +kernel
theorem patsOf_ed:patsOf edS=edP:=by decide +kernel
def pagePats (page:Int):List Pat:=if page=0∨page=3∨page=4 then mainP else if page=1∨page=5∨page=6 then cbP else if page=2 then edP else []
theorem patsOf_page (page:Int):patsOf (listS page)=pagePats page:=by
 unfold listS pagePats
 split
 ·exact patsOf_main
 ·split
  ·exact patsOf_cb
  ·split
   ·exact patsOf_ed
   ·rfl
theorem listS_len (page:Int):(listS page).length≤100000:=by
 have h0:mainS.length≤100000:=by decide +kernel
 have h1:cbS.length≤100000:=by decide +kernel
 have h2:edS.length≤100000:=by decide +kernel
 have h3:([]:Str).length≤100000:=by decide +kernel
 unfold listS
 split
 ·exact h0
 ·split
  ·exact h1
  ·split
   ·exact h2
   ·exact h3
theorem all8:∀ p∈mainP++cbP++edP,p.1.length=8:=by decide +kernel
theorem page_mem {page:Int} {p:Pat} (h:p∈pagePats page):p∈mainP++cbP++edP:=by
 unfold pagePats at h
 split at h
 ·simp [h]
 ·split at h
  ·simp [h]
  ·split at h
   ·simp [h]
   ·cases h
theorem page8 (page:Int):∀ p∈patsOf (listS page),p.1.length=8:=fun p h=>all8 p (page_mem (by rw [← patsOf_page];exact h))
end Go.Proofs.YtmnleknehjkmgaaGreatDoor
namespace Go.Proofs.YtmnleknehjkmgaaGreatDoor
open Go.RowKit Go.Shelf
def trV (x:Tr):Value:=.agg #[.int .i64 x.1,.int .i64 x.2.1,.int .i64 x.2.2]
def RetTr (w:World) (x:Tr) (e:Ending) (w':World):Prop:=e=.returned (trV x)∧Below w.heap.size w w'
def OpdAt (w:World) (n:Nat):Prop:=w.heap[n]?=some (.cells #[.int .i64 0,.int .i64 0,.int .i64 0] 50 (0,0))
theorem OpdAt.below {w w':World} {n:Nat} (h:OpdAt w n) (hb:Below w.heap.size w w'):OpdAt w' n:=(hb.block n (Array.getElem?_eq_some_iff.1 h).1).trans h
theorem OpdAt.belowN {w w':World} {n m:Nat} (h:OpdAt w n) (hb:Below m w w') (hn:n<m):OpdAt w' n:=(hb.block n hn).trans h
theorem OpdAt.cells {w:World} {n:Nat} (h:OpdAt w n):w.cell? ⟨n,0,none⟩=some (.int .i64 0)∧w.cell? ⟨n,1,none⟩=some (.int .i64 0)∧w.cell? ⟨n,2,none⟩=some (.int .i64 0)∧∀ j,w.frozen? ⟨n,j,none⟩=false:=
 ⟨Lib.cell_of_heap h 0,Lib.cell_of_heap h 1,Lib.cell_of_heap h 2,Lib.frozen_of_heap h⟩
theorem opd_set {w:World} {n:Nat} (h:OpdAt w n) (a b c:Int):∃ w',((w.setCell ⟨n,0,none⟩ (.int .i64 a)).setCell ⟨n,1,none⟩ (.int .i64 b)).setCell ⟨n,2,none⟩ (.int .i64 c)=w'∧
  w'.heap[n]?=some (.cells #[.int .i64 a,.int .i64 b,.int .i64 c] 50 (0,0))∧Below n w w'∧w'.heap.size=w.heap.size:=
 ⟨_,rfl,set3 h _ _ _,((((Below.refl n w).setCell (p:=⟨n,0,none⟩) (Nat.le_refl _) _).setCell (p:=⟨n,1,none⟩) (Nat.le_refl _) _).setCell (p:=⟨n,2,none⟩) (Nat.le_refl _) _),by simp⟩
theorem code_start (w:World) (p:Pat) (op:Int):∃ w0,(w.alloc (.cells #[.string (sB p.1),.string (sB p.2),.int .u8 op] 142)).alloc (.cells #[.int .i64 0,.int .i64 0,.int .i64 0] 50)=w0∧
  OpdAt w0 (w.heap.size+1)∧Below w.heap.size w w0∧w0.heap.size=w.heap.size+2∧w0.heap[w.heap.size]?=some (.cells #[.string (sB p.1),.string (sB p.2),.int .u8 op] 142 (0,0)):=by
 refine ⟨_,rfl,?_,((Below.refl _ w).alloc (Nat.le_refl _) _).alloc (by simp) _,by simp,(Below.heap_alloc _ _ _ (by simp)).trans (World.alloc_heap_new w _)⟩
 have h:=World.alloc_heap_new (w.alloc (.cells #[.string (sB p.1),.string (sB p.2),.int .u8 op] 142)) (.cells #[.int .i64 0,.int .i64 0,.int .i64 0] 50)
 rw [World.size_alloc] at h
 exact h
theorem register_any (r:Int) (w:World):Calls Tryz.prog 140 #[.int .i64 r] w (RetTr w (1,r,0)):=by
 go_enter Tryz.func140,Tryz.ntmps140
 go_wp2
 refine bodyPost_ret (v:=trV (1,r,0)) ?_ rfl ?_
 ·simp [results,Tryz.results140,go_sem,trV]
 ·exact ⟨rfl,(Below.refl _ _).alloc (Nat.le_refl _) _⟩
theorem half_any (r:Int) (w:World):Calls Tryz.prog 161 #[.int .i64 r] w (RetTr w (2,r,0)):=by
 go_enter Tryz.func161,Tryz.ntmps161
 go_wp2
 refine bodyPost_ret (v:=trV (2,r,0)) ?_ rfl ?_
 ·simp [results,Tryz.results161,go_sem,trV]
 ·exact ⟨rfl,(Below.refl _ _).alloc (Nat.le_refl _) _⟩
theorem pair_any (r:Int) (w:World):Calls Tryz.prog 152 #[.int .i64 r] w (RetTr w (3,r,0)):=by
 go_enter Tryz.func152,Tryz.ntmps152
 go_wp2
 refine bodyPost_ret (v:=trV (3,r,0)) ?_ rfl ?_
 ·simp [results,Tryz.results152,go_sem,trV]
 ·exact ⟨rfl,(Below.refl _ _).alloc (Nat.le_refl _) _⟩
theorem tpointer_any (r:Int) (w:World):Calls Tryz.prog 150 #[.int .i64 r] w (RetTr w (4,r,0)):=by
 go_enter Tryz.func150,Tryz.ntmps150
 go_wp2
 refine bodyPost_ret (v:=trV (4,r,0)) ?_ rfl ?_
 ·simp [results,Tryz.results150,go_sem,trV]
 ·exact ⟨rfl,(Below.refl _ _).alloc (Nat.le_refl _) _⟩
theorem value_any (r:Int) (w:World):Calls Tryz.prog 154 #[.int .i64 r] w (RetTr w (6,0,r)):=by
 go_enter Tryz.func154,Tryz.ntmps154
 go_wp2
 refine bodyPost_ret (v:=trV (6,0,r)) ?_ rfl ?_
 ·simp [results,Tryz.results154,go_sem,trV]
 ·exact ⟨rfl,(Below.refl _ _).alloc (Nat.le_refl _) _⟩
theorem cpair_any (p:Pat) (hl:p.1.length=8) (op:Int) (h0:0≤op) (h1:op≤255) (c:UInt8) (w:World) :
  Calls Tryz.prog 163 #[codeV p op,.int .u8 (c.toNat:Int)] w (RetTr w (3,numP p.1 op c,0)):=by
 unfold codeV
 obtain ⟨w0,hw0,S0,B0,Z0,C0⟩:=code_start w p op
 obtain ⟨n,hn⟩:∃ n,w.heap.size=n:=⟨_,rfl⟩
 rw [hn] at S0 B0 Z0 C0
 have k0:=Lib.cell_of_heap C0 0
 have k1:=Lib.cell_of_heap C0 1
 have k2:=Lib.cell_of_heap C0 2
 have hnum:=number_any p.1 p.2 hl op h0 h1 c w0
 have S0:=Lib.hid S0
 have B0:=Lib.hid B0
 have HN:=Lib.hid hn
 clear C0
 go_enter Tryz.func163,Tryz.ntmps163
 go_wp2_with fail
 refine hnum.mono ?_
 rintro e w1 ⟨rfl,hb1⟩
 have S1:Hid (OpdAt w1 (n+1)):=S0.out.below hb1
 have B1:Hid (Below n w w1):=B0.out.trans (hb1.mono (by omega))
 have Z1:Hid (n+2≤w1.heap.size):=by have:=hb1.size;show _≤_;omega
 clear hb1 hnum hw0 S0 B0 Z0 hn k0 k1 k2
 go_wp2_with fail
 refine (pair_any _ w1).mono ?_
 rintro e w2 ⟨rfl,hb2⟩
 have S2:Hid (OpdAt w2 (n+1)):=S1.out.below hb2
 have B2:Hid (Below n w w2):=B1.out.trans (hb2.mono (by have:=Z1.out;omega))
 clear hb2 S1 B1 Z1
 simp only [trV]
 obtain ⟨c0,c1,c2,c3⟩:=S2.out.cells
 go_wp2
 obtain ⟨w3,hw3,hc3,hb3,-⟩:=opd_set S2.out 3 (numP p.1 op c) 0
 rw [hw3]
 have r0:=Lib.cell_of_heap hc3 0
 have r1:=Lib.cell_of_heap hc3 1
 have r2:=Lib.cell_of_heap hc3 2
 refine bodyPost_ret (v:=trV (3,(numP p.1 op c),0)) ?_ rfl ?_
 ·simp [results,Tryz.results163,go_sem,r0,r1,r2,trV]
 ·exact ⟨rfl,by rw [HN.out];exact B2.out.trans (hb3.mono (by omega))⟩
theorem cbit_any (p:Pat) (hl:p.1.length=8) (op:Int) (h0:0≤op) (h1:op≤255) (c:UInt8) (w:World) :
  Calls Tryz.prog 166 #[codeV p op,.int .u8 (c.toNat:Int)] w (RetTr w (6,0,numP p.1 op c)):=by
 unfold codeV
 obtain ⟨w0,hw0,S0,B0,Z0,C0⟩:=code_start w p op
 obtain ⟨n,hn⟩:∃ n,w.heap.size=n:=⟨_,rfl⟩
 rw [hn] at S0 B0 Z0 C0
 have k0:=Lib.cell_of_heap C0 0
 have k1:=Lib.cell_of_heap C0 1
 have k2:=Lib.cell_of_heap C0 2
 have hnum:=number_any p.1 p.2 hl op h0 h1 c w0
 have S0:=Lib.hid S0
 have B0:=Lib.hid B0
 have HN:=Lib.hid hn
 clear C0
 go_enter Tryz.func166,Tryz.ntmps166
 go_wp2_with fail
 refine hnum.mono ?_
 rintro e w1 ⟨rfl,hb1⟩
 have S1:Hid (OpdAt w1 (n+1)):=S0.out.below hb1
 have B1:Hid (Below n w w1):=B0.out.trans (hb1.mono (by omega))
 have Z1:Hid (n+2≤w1.heap.size):=by have:=hb1.size;show _≤_;omega
 clear hb1 hnum hw0 S0 B0 Z0 hn k0 k1 k2
 go_wp2_with fail
 refine (value_any _ w1).mono ?_
 rintro e w2 ⟨rfl,hb2⟩
 have S2:Hid (OpdAt w2 (n+1)):=S1.out.below hb2
 have B2:Hid (Below n w w2):=B1.out.trans (hb2.mono (by have:=Z1.out;omega))
 clear hb2 S1 B1 Z1
 simp only [trV]
 obtain ⟨c0,c1,c2,c3⟩:=S2.out.cells
 go_wp2
 obtain ⟨w3,hw3,hc3,hb3,-⟩:=opd_set S2.out 6 0 (numP p.1 op c)
 rw [hw3]
 have r0:=Lib.cell_of_heap hc3 0
 have r1:=Lib.cell_of_heap hc3 1
 have r2:=Lib.cell_of_heap hc3 2
 refine bodyPost_ret (v:=trV (6,0,(numP p.1 op c))) ?_ rfl ?_
 ·simp [results,Tryz.results166,go_sem,r0,r1,r2,trV]
 ·exact ⟨rfl,by rw [HN.out];exact B2.out.trans (hb3.mono (by omega))⟩
theorem ccond_any (p:Pat) (hl:p.1.length=8) (op:Int) (h0:0≤op) (h1:op≤255) (c:UInt8) (w:World) :
  Calls Tryz.prog 165 #[codeV p op,.int .u8 (c.toNat:Int)] w (RetTr w (8,numP p.1 op c,0)):=by
 unfold codeV
 obtain ⟨w0,hw0,S0,B0,Z0,C0⟩:=code_start w p op
 obtain ⟨n,hn⟩:∃ n,w.heap.size=n:=⟨_,rfl⟩
 rw [hn] at S0 B0 Z0 C0
 have k0:=Lib.cell_of_heap C0 0
 have k1:=Lib.cell_of_heap C0 1
 have k2:=Lib.cell_of_heap C0 2
 have hnum:=number_any p.1 p.2 hl op h0 h1 c w0
 have S0:=Lib.hid S0
 have B0:=Lib.hid B0
 have HN:=Lib.hid hn
 clear C0
 go_enter Tryz.func165,Tryz.ntmps165
 go_wp2_with fail
 refine hnum.mono ?_
 rintro e w1 ⟨rfl,hb1⟩
 have S1:Hid (OpdAt w1 (n+1)):=S0.out.below hb1
 have B1:Hid (Below n w w1):=B0.out.trans (hb1.mono (by omega))
 have Z1:Hid (n+2≤w1.heap.size):=by have:=hb1.size;show _≤_;omega
 clear hb1 hnum hw0 S0 B0 Z0 hn k0 k1 k2
 obtain ⟨c0,c1,c2,c3⟩:=S1.out.cells
 go_wp2
 obtain ⟨w3,hw3,hc3,hb3,-⟩:=opd_set S1.out 8 (numP p.1 op c) 0
 rw [hw3]
 have r0:=Lib.cell_of_heap hc3 0
 have r1:=Lib.cell_of_heap hc3 1
 have r2:=Lib.cell_of_heap hc3 2
 refine bodyPost_ret (v:=trV (8,(numP p.1 op c),0)) ?_ rfl ?_
 ·simp [results,Tryz.results165,go_sem,r0,r1,r2,trV]
 ·exact ⟨rfl,by rw [HN.out];exact B1.out.trans (hb3.mono (by omega))⟩
theorem crestart_any (p:Pat) (hl:p.1.length=8) (op:Int) (h0:0≤op) (h1:op≤255) (c:UInt8) (hm:0≤numP p.1 op c) (hM:numP p.1 op c≤255) (w:World) :
  Calls Tryz.prog 167 #[codeV p op,.int .u8 (c.toNat:Int)] w (RetTr w (6,0,8*numP p.1 op c)):=by
 unfold codeV
 obtain ⟨w0,hw0,S0,B0,Z0,C0⟩:=code_start w p op
 obtain ⟨n,hn⟩:∃ n,w.heap.size=n:=⟨_,rfl⟩
 rw [hn] at S0 B0 Z0 C0
 have k0:=Lib.cell_of_heap C0 0
 have k1:=Lib.cell_of_heap C0 1
 have k2:=Lib.cell_of_heap C0 2
 have hnum:=number_any p.1 p.2 hl op h0 h1 c w0
 have S0:=Lib.hid S0
 have B0:=Lib.hid B0
 have HN:=Lib.hid hn
 clear C0
 go_enter Tryz.func167,Tryz.ntmps167
 go_wp2_with fail
 refine hnum.mono ?_
 rintro e w1 ⟨rfl,hb1⟩
 have S1:Hid (OpdAt w1 (n+1)):=S0.out.below hb1
 have B1:Hid (Below n w w1):=B0.out.trans (hb1.mono (by omega))
 have Z1:Hid (n+2≤w1.heap.size):=by have:=hb1.size;show _≤_;omega
 clear hb1 hnum hw0 S0 B0 Z0 hn k0 k1 k2
 go_wp2_with fail
 refine (value_any _ w1).mono ?_
 rintro e w2 ⟨rfl,hb2⟩
 have S2:Hid (OpdAt w2 (n+1)):=S1.out.below hb2
 have B2:Hid (Below n w w2):=B1.out.trans (hb2.mono (by have:=Z1.out;omega))
 clear hb2 S1 B1 Z1
 simp only [trV]
 obtain ⟨c0,c1,c2,c3⟩:=S2.out.cells
 go_wp2
 obtain ⟨w3,hw3,hc3,hb3,-⟩:=opd_set S2.out 6 0 (8*(numP p.1 op c))
 rw [hw3]
 have r0:=Lib.cell_of_heap hc3 0
 have r1:=Lib.cell_of_heap hc3 1
 have r2:=Lib.cell_of_heap hc3 2
 refine bodyPost_ret (v:=trV (6,0,(8*(numP p.1 op c)))) ?_ rfl ?_
 ·simp [results,Tryz.results167,go_sem,r0,r1,r2,trV]
 ·exact ⟨rfl,by rw [HN.out];exact B2.out.trans (hb3.mono (by omega))⟩
def regT (n:Int):Tr:=if n=6 then (4,2,0) else (1,n,0)
def pushT (n:Int):Tr:=if n=3 then (3,4,0) else (3,n,0)
theorem cregister_any (p:Pat) (hl:p.1.length=8) (op:Int) (h0:0≤op) (h1:op≤255) (c:UInt8) (w:World) :
  Calls Tryz.prog 162 #[codeV p op,.int .u8 (c.toNat:Int)] w (RetTr w (regT (numP p.1 op c))):=by
 unfold codeV
 obtain ⟨w0,hw0,S0,B0,Z0,C0⟩:=code_start w p op
 obtain ⟨n,hn⟩:∃ n,w.heap.size=n:=⟨_,rfl⟩
 rw [hn] at S0 B0 Z0 C0
 have k0:=Lib.cell_of_heap C0 0
 have k1:=Lib.cell_of_heap C0 1
 have k2:=Lib.cell_of_heap C0 2
 have hnum:=number_any p.1 p.2 hl op h0 h1 c w0
 have S0:=Lib.hid S0
 have B0:=Lib.hid B0
 have HN:=Lib.hid hn
 clear C0
 go_enter Tryz.func162,Tryz.ntmps162
 go_wp2_with fail
 refine hnum.mono ?_
 rintro e w1 ⟨rfl,hb1⟩
 have S1:Hid (OpdAt w1 (n+1)):=S0.out.below hb1
 have B1:Hid (Below n w w1):=B0.out.trans (hb1.mono (by omega))
 have Z1:Hid (n+2≤w1.heap.size):=by have:=hb1.size;show _≤_;omega
 clear hb1 hnum hw0 S0 B0 Z0 hn k0 k1 k2
 by_cases hk:numP p.1 op c=6
 ·have E:Hid (regT (numP p.1 op c)=(4,2,0)):=by show regT _=_;unfold regT;rw [if_pos hk]
  rw [hk]
  go_wp2_with fail
  refine (tpointer_any _ w1).mono ?_
  rintro e w2 ⟨rfl,hb2⟩
  have S2:Hid (OpdAt w2 (n+1)):=S1.out.below hb2
  have B2:Hid (Below n w w2):=B1.out.trans (hb2.mono (by have:=Z1.out;omega))
  clear hb2 S1 B1 Z1
  simp only [trV]
  obtain ⟨c0,c1,c2,c3⟩:=S2.out.cells
  go_wp2
  obtain ⟨w3,hw3,hc3,hb3,-⟩:=opd_set S2.out 4 2 0
  rw [hw3]
  have r0:=Lib.cell_of_heap hc3 0
  have r1:=Lib.cell_of_heap hc3 1
  have r2:=Lib.cell_of_heap hc3 2
  refine bodyPost_ret (v:=trV (4,2,0)) ?_ rfl ?_
  ·simp [results,Tryz.results162,go_sem,r0,r1,r2,trV]
  ·exact ⟨by rw [E.out],by rw [HN.out];exact B2.out.trans (hb3.mono (by omega))⟩
 ·have E:Hid (regT (numP p.1 op c)=(1,(numP p.1 op c),0)):=by show regT _=_;unfold regT;rw [if_neg hk]
  obtain ⟨m,hm⟩:∃ m,numP p.1 op c=m:=⟨_,rfl⟩
  have E2:Hid (regT (numP p.1 op c)=(1,m,0)):=by have h:=E.out;rw [hm] at h ⊢;exact h
  rw [hm] at hk ⊢
  clear hm
  go_wp2_with fail
  refine (register_any _ w1).mono ?_
  rintro e w2 ⟨rfl,hb2⟩
  have S2:Hid (OpdAt w2 (n+1)):=S1.out.below hb2
  have B2:Hid (Below n w w2):=B1.out.trans (hb2.mono (by have:=Z1.out;omega))
  clear hb2 S1 B1 Z1
  simp only [trV]
  obtain ⟨c0,c1,c2,c3⟩:=S2.out.cells
  go_wp2
  obtain ⟨w3,hw3,hc3,hb3,-⟩:=opd_set S2.out 1 m 0
  rw [hw3]
  have r0:=Lib.cell_of_heap hc3 0
  have r1:=Lib.cell_of_heap hc3 1
  have r2:=Lib.cell_of_heap hc3 2
  refine bodyPost_ret (v:=trV (1,m,0)) ?_ rfl ?_
  ·simp [results,Tryz.results162,go_sem,r0,r1,r2,trV]
  ·exact ⟨by rw [E2.out],by rw [HN.out];exact B2.out.trans (hb3.mono (by omega))⟩
theorem cpushed_any (p:Pat) (hl:p.1.length=8) (op:Int) (h0:0≤op) (h1:op≤255) (c:UInt8) (w:World) :
  Calls Tryz.prog 164 #[codeV p op,.int .u8 (c.toNat:Int)] w (RetTr w (pushT (numP p.1 op c))):=by
 unfold codeV
 obtain ⟨w0,hw0,S0,B0,Z0,C0⟩:=code_start w p op
 obtain ⟨n,hn⟩:∃ n,w.heap.size=n:=⟨_,rfl⟩
 rw [hn] at S0 B0 Z0 C0
 have k0:=Lib.cell_of_heap C0 0
 have k1:=Lib.cell_of_heap C0 1
 have k2:=Lib.cell_of_heap C0 2
 have hnum:=number_any p.1 p.2 hl op h0 h1 c w0
 have S0:=Lib.hid S0
 have B0:=Lib.hid B0
 have HN:=Lib.hid hn
 clear C0
 go_enter Tryz.func164,Tryz.ntmps164
 go_wp2_with fail
 refine hnum.mono ?_
 rintro e w1 ⟨rfl,hb1⟩
 have S1:Hid (OpdAt w1 (n+1)):=S0.out.below hb1
 have B1:Hid (Below n w w1):=B0.out.trans (hb1.mono (by omega))
 have Z1:Hid (n+2≤w1.heap.size):=by have:=hb1.size;show _≤_;omega
 clear hb1 hnum hw0 S0 B0 Z0 hn k0 k1 k2
 by_cases hk:numP p.1 op c=3
 ·have E:Hid (pushT (numP p.1 op c)=(3,4,0)):=by show pushT _=_;unfold pushT;rw [if_pos hk]
  rw [hk]
  go_wp2_with fail
  refine (pair_any _ w1).mono ?_
  rintro e w2 ⟨rfl,hb2⟩
  have S2:Hid (OpdAt w2 (n+1)):=S1.out.below hb2
  have B2:Hid (Below n w w2):=B1.out.trans (hb2.mono (by have:=Z1.out;omega))
  clear hb2 S1 B1 Z1
  simp only [trV]
  obtain ⟨c0,c1,c2,c3⟩:=S2.out.cells
  go_wp2
  obtain ⟨w3,hw3,hc3,hb3,-⟩:=opd_set S2.out 3 4 0
  rw [hw3]
  have r0:=Lib.cell_of_heap hc3 0
  have r1:=Lib.cell_of_heap hc3 1
  have r2:=Lib.cell_of_heap hc3 2
  refine bodyPost_ret (v:=trV (3,4,0)) ?_ rfl ?_
  ·simp [results,Tryz.results164,go_sem,r0,r1,r2,trV]
  ·exact ⟨by rw [E.out],by rw [HN.out];exact B2.out.trans (hb3.mono (by omega))⟩
 ·have E:Hid (pushT (numP p.1 op c)=(3,(numP p.1 op c),0)):=by show pushT _=_;unfold pushT;rw [if_neg hk]
  obtain ⟨m,hm⟩:∃ m,numP p.1 op c=m:=⟨_,rfl⟩
  have E2:Hid (pushT (numP p.1 op c)=(3,m,0)):=by have h:=E.out;rw [hm] at h ⊢;exact h
  rw [hm] at hk ⊢
  clear hm
  go_wp2_with fail
  refine (pair_any _ w1).mono ?_
  rintro e w2 ⟨rfl,hb2⟩
  have S2:Hid (OpdAt w2 (n+1)):=S1.out.below hb2
  have B2:Hid (Below n w w2):=B1.out.trans (hb2.mono (by have:=Z1.out;omega))
  clear hb2 S1 B1 Z1
  simp only [trV]
  obtain ⟨c0,c1,c2,c3⟩:=S2.out.cells
  go_wp2
  obtain ⟨w3,hw3,hc3,hb3,-⟩:=opd_set S2.out 3 m 0
  rw [hw3]
  have r0:=Lib.cell_of_heap hc3 0
  have r1:=Lib.cell_of_heap hc3 1
  have r2:=Lib.cell_of_heap hc3 2
  refine bodyPost_ret (v:=trV (3,m,0)) ?_ rfl ?_
  ·simp [results,Tryz.results164,go_sem,r0,r1,r2,trV]
  ·exact ⟨by rw [E2.out],by rw [HN.out];exact B2.out.trans (hb3.mono (by omega))⟩
end Go.Proofs.YtmnleknehjkmgaaGreatDoor
namespace Go.Proofs.YtmnleknehjkmgaaGreatDoor
open Go.RowKit Go.Shelf
theorem bit_and (x:Nat) (h:x<256):bits .and .u8 (x:Int) 1=((x % 2:Nat):Int):=by
 have:∀ y:Fin 256,bits .and .u8 (y.val:Int) 1=((y.val % 2:Nat):Int):=by decide +kernel
 exact this ⟨x,h⟩
theorem bit_or (o b:Nat) (h:o<128) (hb:b<2):bits .or .i64 (wrap64 ((o:Int)*2)) (wrap64 (b:Int))=((2*o+b:Nat):Int):=by
 have:∀ (o:Fin 128) (b:Fin 2),bits .or .i64 (wrap64 ((o.val:Int)*2)) (wrap64 (b.val:Int))=((2*o.val+b.val:Nat):Int):=by decide +kernel
 exact this ⟨o,h⟩ ⟨b,hb⟩
def numN (l:Str) (n:Nat) (c:UInt8):Nat→Nat
 | 0=>0
 | k+1=>if l[k]?.getD 0=c then 2*numN l n c k+n / 2 ^ (7 - k) % 2 else numN l n c k
theorem numF_eq (l:Str) (n:Nat) (hn:n<256) (c:UInt8):∀ k,k≤8→numF l (n:Int) c k=(numN l n c k:Nat)∧numN l n c k<2 ^ k
 | 0,_=>⟨rfl,Nat.one_pos⟩
 | k+1,h=>by
  obtain ⟨h1,h2⟩:=numF_eq l n hn c k (by omega)
  unfold numF numN
  have h3:numN l n c k<2 ^ 7:=Nat.lt_of_lt_of_le h2 (Nat.pow_le_pow_right (by decide) (by omega))
  split
  ·have e:(n:Int) / 2 ^ (7 - k)=((n / 2 ^ (7 - k):Nat):Int):=by simp
   have hle:n / 2 ^ (7 - k)<256:=Nat.lt_of_le_of_lt (Nat.div_le_self _ _) hn
   rw [h1,e,bit_and _ hle,bit_or _ _ (by omega) (by omega)]
   refine ⟨rfl,?_⟩
   rw [Nat.pow_succ]
   omega
  ·exact ⟨h1,by rw [Nat.pow_succ];omega⟩
theorem numP_eq (l:Str) (n:Nat) (hn:n<256) (c:UInt8):numP l (n:Int) c=(numN l n c 8:Nat):=(numF_eq l n hn c 8 (Nat.le_refl _)).1
theorem numP_bd (l:Str) (op:Int) (h0:0≤op) (h1:op≤255) (c:UInt8):0≤numP l op c∧numP l op c≤255:=by
 obtain ⟨n,rfl⟩:∃ n:Nat,op=n:=⟨op.toNat,by omega⟩
 have h:=numF_eq l n (by omega) c 8 (Nat.le_refl _)
 have e:numP l (n:Int) c=(numN l n c 8:Nat):=h.1
 omega
def fixedT (w:Str):Tr:=
 if w=[65] then (1,7,0) else if w=[68,69] then (3,1,0) else if w=[72,76] then (3,2,0) else if w=[83,80] then (3,3,0) else if w=[65,70] then (3,4,0) else
 if w=[65,70,39] then (3,7,0) else if w=[40,66,67,41] then (4,0,0) else if w=[40,68,69,41] then (4,1,0) else if w=[40,72,76,41] then (4,2,0) else
 if w=[40,83,80,41] then (4,3,0) else if w=[40,67,41] then (4,8,0) else if w=[73] then (9,0,0) else if w=[82] then (9,1,0) else (6,0,((w.headD 0).toNat:Int) - 48)
def fieldT (c:UInt8) (n:Int):Option Tr:=
 if c=114∨c=115 then some (regT n) else if c=112 then some (3,n,0) else if c=113 then some (pushT n) else if c=99∨c=107 then some (8,n,0) else if c=98 then some (6,0,n) else if c=116 then some (6,0,8*n) else none
def opT (p:Pat) (op:Int) (w:Str):Tr×Str:=
 if w=[101] then ((10,0,0),w) else if w=[110]∨w=[119] then ((6,0,0),w) else if w=[40,110,41]∨w=[40,119,41] then ((7,0,0),(w.drop 1).take 1) else
 match fieldT (w.headD 0) (numP p.1 op (w.headD 0)) with
 | some t=>(t,[])
 | none=>(fixedT w,[])
theorem opd_start (w:World):∃ w0,w.alloc (.cells #[.int .i64 0,.int .i64 0,.int .i64 0] 50)=w0∧OpdAt w0 w.heap.size∧Below w.heap.size w w0∧w0.heap.size=w.heap.size+1:=
 ⟨_,rfl,World.alloc_heap_new w _,(Below.refl _ w).alloc (Nat.le_refl _) _,by simp⟩
theorem fixed_c (word:Str) (hw:word∈([[65],[68,69],[72,76],[83,80],[65,70],[65,70,39],[40,66,67,41],[40,68,69,41],[40,72,76,41],[40,83,80,41],[40,67,41],[48],[49],[50]]:List Str)) (w:World):Calls Tryz.prog 156 #[.string (sB word)] w (RetTr w (fixedT word)):=by
 obtain ⟨w0,hw0,S0,B0,Z0⟩:=opd_start w
 obtain ⟨n,hn⟩:∃ n,w.heap.size=n:=⟨_,rfl⟩
 rw [hn] at S0 B0 Z0
 have S0:=Lib.hid S0
 have B0:=Lib.hid B0
 have HN:=Lib.hid hn
 have hix:∀ w,(Instr.index 9 (.string (sB word)) (.int .i64 0)).run Tryz.prog w=.ok (.int .u8 ((word.headD 0).toNat:Int)) w:=by
  simp only [List.mem_cons,List.not_mem_nil,or_false] at hw
  rcases hw with rfl | rfl | rfl | rfl | rfl | rfl | rfl | rfl | rfl | rfl | rfl | rfl | rfl | rfl
  all_goals exact fun _=>by kernel_rfl
 obtain ⟨⟨a,b,c⟩,ht⟩:∃ t:Tr,fixedT word=t:=⟨_,rfl⟩
 rw [ht]
 simp only [List.mem_cons,List.not_mem_nil,or_false] at hw
 rcases hw with rfl | rfl | rfl | rfl | rfl | rfl | rfl | rfl | rfl | rfl | rfl | rfl | rfl | rfl
 all_goals
  unfold sB at hix ⊢
  simp only [List.headD_cons] at hix
  go_enter Tryz.func156,Tryz.ntmps156
  go_wp2_with fail
  refine Calls.mono (?_:Calls _ _ _ _ (RetTr w0 (a,b,c))) ?_
  ·rw [← ht]
   first
    | exact register_any _ w0
    | exact pair_any _ w0
    | exact tpointer_any _ w0
    | exact value_any _ w0
  clear ht
  rintro e w1 ⟨rfl,hb1⟩
  have S1:Hid (OpdAt w1 n):=S0.out.below hb1
  have B1:Hid (Below n w w1):=B0.out.trans (hb1.mono (by omega))
  clear hb1 hw0 S0 B0 Z0 hn
  simp only [trV]
  obtain ⟨c0,c1,c2,c3⟩:=S1.out.cells
  go_wp2
  obtain ⟨w3,hw3,hc3,hb3,-⟩:=opd_set S1.out a b c
  rw [hw3]
  have r0:=Lib.cell_of_heap hc3 0
  have r1:=Lib.cell_of_heap hc3 1
  have r2:=Lib.cell_of_heap hc3 2
  refine bodyPost_ret (v:=trV (a,b,c)) ?_ rfl ?_
  ·simp [results,Tryz.results156,go_sem,r0,r1,r2,trV]
  ·exact ⟨rfl,by rw [HN.out];exact B1.out.trans hb3⟩
theorem fixed_d (word:Str) (hw:word∈([[73],[82]]:List Str)) (w:World):Calls Tryz.prog 156 #[.string (sB word)] w (RetTr w (fixedT word)):=by
 simp only [List.mem_cons,List.not_mem_nil,or_false] at hw
 rcases hw with rfl | rfl
 ·go_enter Tryz.func156,Tryz.ntmps156
  unfold sB
  go_wp2
  refine bodyPost_ret (v:=trV (9,0,0)) ?_ rfl ?_
  ·simp [results,Tryz.results156,go_sem,trV]
  ·exact ⟨rfl,(Below.refl _ _).alloc (Nat.le_refl _) _⟩
 ·go_enter Tryz.func156,Tryz.ntmps156
  unfold sB
  go_wp2
  refine bodyPost_ret (v:=trV (9,1,0)) ?_ rfl ?_
  ·simp [results,Tryz.results156,go_sem,trV]
  ·exact ⟨rfl,(Below.refl _ _).alloc (Nat.le_refl _) _⟩
def wordsFx:List Str:=[[65],[68,69],[72,76],[83,80],[65,70],[65,70,39],[40,66,67,41],[40,68,69,41],[40,72,76,41],[40,83,80,41],[40,67,41],[48],[49],[50],[73],[82]]
theorem fixed_any (word:Str) (hw:word∈wordsFx) (w:World):Calls Tryz.prog 156 #[.string (sB word)] w (RetTr w (fixedT word)):=by
 have h:word∈([[65],[68,69],[72,76],[83,80],[65,70],[65,70,39],[40,66,67,41],[40,68,69,41],[40,72,76,41],[40,83,80,41],[40,67,41],[48],[49],[50]]:List Str)++[[73],[82]]:=hw
 rcases List.mem_append.1 h with h | h
 ·exact fixed_c word h w
 ·exact fixed_d word h w
end Go.Proofs.YtmnleknehjkmgaaGreatDoor
namespace Go.Proofs.YtmnleknehjkmgaaGreatDoor
open Go.RowKit Go.Shelf
attribute [local irreducible] Go.Mixed.wpMix
theorem field_read (p:Pat) (op:Int) {z:Int} {F:FuncId} (h:(z,F)∈([(114,162),(115,162),(112,163),(113,164),(99,165),(107,165),(98,166),(116,167)]:List (Int×FuncId))) (w:World):Calls Tryz.prog 155 #[codeV p op,.int .u8 z] w fun e w'=>e=.returned (.func (.func F) #[codeV p op] #[])∧Below w.heap.size w w':=by
 simp only [List.mem_cons,List.not_mem_nil,or_false,Prod.mk.injEq] at h
 unfold codeV
 rcases h with ⟨rfl,rfl⟩ | ⟨rfl,rfl⟩ | ⟨rfl,rfl⟩ | ⟨rfl,rfl⟩ | ⟨rfl,rfl⟩ | ⟨rfl,rfl⟩ | ⟨rfl,rfl⟩ | ⟨rfl,rfl⟩
 all_goals
  go_enter Tryz.func155,Tryz.ntmps155
  go_wp2
  go_ret
  exact ⟨rfl,(Below.refl _ _).alloc (Nat.le_refl _) _⟩
theorem field_nil (p:Pat) (op:Int) {z:Int} (h:z∈([65,68,72,83,40,73,82,48,49,50]:List Int)) (w:World):Calls Tryz.prog 155 #[codeV p op,.int .u8 z] w fun e w'=>e=.returned .nilFunc∧Below w.heap.size w w':=by
 unfold codeV
 simp only [List.mem_cons,List.not_mem_nil,or_false] at h
 rcases h with rfl | rfl | rfl | rfl | rfl | rfl | rfl | rfl | rfl | rfl
 all_goals
  go_enter Tryz.func155,Tryz.ntmps155
  go_wp2
  go_ret
  exact ⟨rfl,(Below.refl _ _).alloc (Nat.le_refl _) _⟩
theorem operand_nil (p:Pat) (op:Int) (s:ByteArray) (z:Int) (x:Tr) (q1:(s.toList == [101])=false) (q2:(s.toList == [110])=false) (q3:(s.toList == [119])=false) (q4:(s.toList == [40,110,41])=false) (q5:(s.toList == [40,119,41])=false) (hix:∀ w,(Instr.index 9 (.string s) (.int .i64 0)).run Tryz.prog w=.ok (.int .u8 z) w) (hz:z∈([65,68,72,83,40,73,82,48,49,50]:List Int)) (hx:∀ w,Calls Tryz.prog 156 #[.string s] w (RetTr w x)) (w:World):Calls Tryz.prog 138 #[codeV p op,.string s] w
  fun e w'=>e=.returned (.tuple #[trV x,.string ⟨#[]⟩])∧Below w.heap.size w w':=by
 have FI:=Lib.hid fun w=>field_nil p op hz w
 have FX:=Lib.hid hx
 clear hz hx
 obtain ⟨a,b,c⟩:=x
 unfold codeV at FI
 unfold codeV
 obtain ⟨w0,hw0,S0,B0,Z0,C0⟩:=code_start w p op
 obtain ⟨n,hn⟩:∃ n,w.heap.size=n:=⟨_,rfl⟩
 rw [hn] at S0 B0 Z0 C0
 have k0:=Lib.cell_of_heap C0 0
 have k1:=Lib.cell_of_heap C0 1
 have k2:=Lib.cell_of_heap C0 2
 obtain ⟨c0,c1,c2,c3⟩:=S0.cells
 have S0:=Lib.hid S0
 have B0:=Lib.hid B0
 have HN:=Lib.hid hn
 go_enter Tryz.func138,Tryz.ntmps138
 go_wp2
 go_still_tail 3,(by kernel_rfl)
 change wpList _ _ _ _ _ w0.drew
 obtain ⟨w1,hw1⟩:∃ w1,w0.drew=w1:=⟨_,rfl⟩
 have S1:Hid (OpdAt w1 (n+1)):=by rw [← hw1];exact S0.out
 have B1:Hid (Below n w w1):=by rw [← hw1];exact B0.out.drew
 have Z1:w1.heap.size=n+2:=by rw [← hw1];exact Z0
 rw [hw1]
 clear S0 B0 C0 hw0 hw1 Z0 c0 c1 c2 c3 k0 k1 k2
 go_wp2_with fail
 refine (FI.out w1).mono ?_
 rintro e w2 ⟨rfl,hb2⟩
 have S2:Hid (OpdAt w2 (n+1)):=S1.out.below hb2
 have B2:Hid (Below n w w2):=B1.out.trans (hb2.mono (by omega))
 have Z2:Hid (n+2≤w2.heap.size):=by have:=hb2.size;show _≤_;omega
 clear hb2 S1 B1 Z1
 have hne:∀ w,(binOp .neq 209 .nilFunc .nilFunc).run Tryz.prog w=.ok (.bool false) w:=fun _=>by kernel_rfl
 go_wp2_with fail
 refine (FX.out w2).mono ?_
 rintro e w4 ⟨rfl,hb4⟩
 have S4:Hid (OpdAt w4 (n+1)):=S2.out.below hb4
 have B4:Hid (Below n w w4):=B2.out.trans (hb4.mono (by have:=Z2.out;omega))
 clear hb4 S2 B2 Z2
 simp only [trV]
 obtain ⟨c0,c1,c2,c3⟩:=S4.out.cells
 go_wp2
 obtain ⟨w3,hw3,hc3,hb3,-⟩:=opd_set S4.out a b c
 rw [hw3]
 have r0:=Lib.cell_of_heap hc3 0
 have r1:=Lib.cell_of_heap hc3 1
 have r2:=Lib.cell_of_heap hc3 2
 refine bodyPost_ret (v:=.tuple #[trV (a,b,c),.string ⟨#[]⟩]) ?_ rfl ?_
 ·simp [results,Tryz.results138,go_sem,r0,r1,r2,trV]
 ·exact ⟨rfl,by rw [HN.out];exact B4.out.trans (hb3.mono (by omega))⟩
theorem operand_read (p:Pat) (op:Int) (s:ByteArray) (z:Int) (x:Tr) (q1:(s.toList == [101])=false) (q2:(s.toList == [110])=false) (q3:(s.toList == [119])=false) (q4:(s.toList == [40,110,41])=false) (q5:(s.toList == [40,119,41])=false) (hix:∀ w,(Instr.index 9 (.string s) (.int .i64 0)).run Tryz.prog w=.ok (.int .u8 z) w) (F:FuncId) (he:∀ args w,(callFunc F args).run Tryz.prog w=.ok (.enter F args) w) (hz:(z,F)∈([(114,162),(115,162),(112,163),(113,164),(99,165),(107,165),(98,166),(116,167)]:List (Int×FuncId))) (hx:∀ w,Calls Tryz.prog F #[codeV p op,.int .u8 z] w (RetTr w x)) (w:World):Calls Tryz.prog 138 #[codeV p op,.string s] w
  fun e w'=>e=.returned (.tuple #[trV x,.string ⟨#[]⟩])∧Below w.heap.size w w':=by
 have FI:=Lib.hid fun w=>field_read p op hz w
 have FX:=Lib.hid hx
 clear hz hx
 obtain ⟨a,b,c⟩:=x
 unfold codeV at FI FX
 unfold codeV
 obtain ⟨w0,hw0,S0,B0,Z0,C0⟩:=code_start w p op
 obtain ⟨n,hn⟩:∃ n,w.heap.size=n:=⟨_,rfl⟩
 rw [hn] at S0 B0 Z0 C0
 have k0:=Lib.cell_of_heap C0 0
 have k1:=Lib.cell_of_heap C0 1
 have k2:=Lib.cell_of_heap C0 2
 obtain ⟨c0,c1,c2,c3⟩:=S0.cells
 have S0:=Lib.hid S0
 have B0:=Lib.hid B0
 have HN:=Lib.hid hn
 go_enter Tryz.func138,Tryz.ntmps138
 go_wp2
 go_still_tail 3,(by kernel_rfl)
 change wpList _ _ _ _ _ w0.drew
 obtain ⟨w1,hw1⟩:∃ w1,w0.drew=w1:=⟨_,rfl⟩
 have S1:Hid (OpdAt w1 (n+1)):=by rw [← hw1];exact S0.out
 have B1:Hid (Below n w w1):=by rw [← hw1];exact B0.out.drew
 have Z1:w1.heap.size=n+2:=by rw [← hw1];exact Z0
 rw [hw1]
 clear S0 B0 C0 hw0 hw1 Z0 c0 c1 c2 c3 k0 k1 k2
 go_wp2_with fail
 refine (FI.out w1).mono ?_
 rintro e w2 ⟨rfl,hb2⟩
 have S2:Hid (OpdAt w2 (n+1)):=S1.out.below hb2
 have B2:Hid (Below n w w2):=B1.out.trans (hb2.mono (by omega))
 have Z2:Hid (n+2≤w2.heap.size):=by have:=hb2.size;show _≤_;omega
 clear hb2 S1 B1 Z1
 have hne:∀ w,(binOp .neq 209 (.func (.func F) #[.agg #[.string (sB p.1),.string (sB p.2),.int .u8 op]] #[]) .nilFunc).run Tryz.prog w=.ok (.bool true) w:=fun _=>by kernel_rfl
 go_wp2_with fail
 refine (FX.out w2).mono ?_
 rintro e w4 ⟨rfl,hb4⟩
 have S4:Hid (OpdAt w4 (n+1)):=S2.out.below hb4
 have B4:Hid (Below n w w4):=B2.out.trans (hb4.mono (by have:=Z2.out;omega))
 clear hb4 S2 B2 Z2
 simp only [trV]
 obtain ⟨c0,c1,c2,c3⟩:=S4.out.cells
 go_wp2
 obtain ⟨w3,hw3,hc3,hb3,-⟩:=opd_set S4.out a b c
 rw [hw3]
 have r0:=Lib.cell_of_heap hc3 0
 have r1:=Lib.cell_of_heap hc3 1
 have r2:=Lib.cell_of_heap hc3 2
 refine bodyPost_ret (v:=.tuple #[trV (a,b,c),.string ⟨#[]⟩]) ?_ rfl ?_
 ·simp [results,Tryz.results138,go_sem,r0,r1,r2,trV]
 ·exact ⟨rfl,by rw [HN.out];exact B4.out.trans (hb3.mono (by omega))⟩
theorem operand_e (p:Pat) (op:Int) (w:World):Calls Tryz.prog 138 #[codeV p op,.string ⟨#[101]⟩] w
  fun e w'=>e=.returned (.tuple #[trV (10,0,0),.string ⟨#[101]⟩])∧Below w.heap.size w w':=by
 unfold codeV
 obtain ⟨w0,hw0,S0,B0,Z0,C0⟩:=code_start w p op
 obtain ⟨n,hn⟩:∃ n,w.heap.size=n:=⟨_,rfl⟩
 rw [hn] at S0 B0 Z0 C0
 have k0:=Lib.cell_of_heap C0 0
 have k1:=Lib.cell_of_heap C0 1
 have k2:=Lib.cell_of_heap C0 2
 obtain ⟨c0,c1,c2,c3⟩:=S0.cells
 have S0:=Lib.hid S0
 have B0:=Lib.hid B0
 have HN:=Lib.hid hn
 go_enter Tryz.func138,Tryz.ntmps138
 go_wp2
 obtain ⟨w3,hw3,hc3,hb3,-⟩:=opd_set S0.out 10 0 0
 rw [hw3]
 have r0:=Lib.cell_of_heap hc3 0
 have r1:=Lib.cell_of_heap hc3 1
 have r2:=Lib.cell_of_heap hc3 2
 refine bodyPost_ret (v:=.tuple #[trV (10,0,0),.string ⟨#[101]⟩]) ?_ rfl ?_
 ·simp [results,Tryz.results138,go_sem,r0,r1,r2,trV]
 ·exact ⟨rfl,by rw [HN.out];exact B0.out.trans (hb3.mono (by omega))⟩
theorem operand_n (p:Pat) (op:Int) (z:UInt8) (hz:z=110∨z=119) (w:World):Calls Tryz.prog 138 #[codeV p op,.string ⟨#[z]⟩] w
  fun e w'=>e=.returned (.tuple #[trV (6,0,0),.string ⟨#[z]⟩])∧Below w.heap.size w w':=by
 unfold codeV
 obtain ⟨w0,hw0,S0,B0,Z0,C0⟩:=code_start w p op
 obtain ⟨n,hn⟩:∃ n,w.heap.size=n:=⟨_,rfl⟩
 rw [hn] at S0 B0 Z0 C0
 have k0:=Lib.cell_of_heap C0 0
 have k1:=Lib.cell_of_heap C0 1
 have k2:=Lib.cell_of_heap C0 2
 obtain ⟨c0,c1,c2,c3⟩:=S0.cells
 have S0:=Lib.hid S0
 have B0:=Lib.hid B0
 have HN:=Lib.hid hn
 obtain ⟨vz,hvz⟩:∃ v,Value.string ⟨#[z]⟩=v:=⟨_,rfl⟩
 have HZ:Hid (Value.string ⟨#[z]⟩=vz):=hvz
 clear hvz
 clear c0 c1 c2 c3 k0 k1 k2
 rcases hz with rfl | rfl
 all_goals
  go_enter Tryz.func138,Tryz.ntmps138
  go_wp2_with fail
  refine (value_any _ w0).mono ?_
  rintro e w2 ⟨rfl,hb2⟩
  have S2:Hid (OpdAt w2 (n+1)):=S0.out.below hb2
  have B2:Hid (Below n w w2):=B0.out.trans (hb2.mono (by omega))
  clear hb2 S0 B0 Z0 hw0
  simp only [trV]
  obtain ⟨c0,c1,c2,c3⟩:=S2.out.cells
  go_wp2
  obtain ⟨w3,hw3,hc3,hb3,-⟩:=opd_set S2.out 6 0 0
  rw [hw3]
  have r0:=Lib.cell_of_heap hc3 0
  have r1:=Lib.cell_of_heap hc3 1
  have r2:=Lib.cell_of_heap hc3 2
  refine bodyPost_ret (v:=.tuple #[trV (6,0,0),vz]) ?_ rfl ?_
  ·rw [← HZ.out]
   simp [results,Tryz.results138,go_sem,r0,r1,r2,trV]
  ·exact ⟨by rw [← HZ.out],by rw [HN.out];exact B2.out.trans (hb3.mono (by omega))⟩
theorem operand_m (p:Pat) (op:Int) (z:UInt8) (hz:z=110∨z=119) (w:World):Calls Tryz.prog 138 #[codeV p op,.string ⟨#[40,z,41]⟩] w
  fun e w'=>e=.returned (.tuple #[trV (7,0,0),.string ⟨#[z]⟩])∧Below w.heap.size w w':=by
 unfold codeV
 obtain ⟨w0,hw0,S0,B0,Z0,C0⟩:=code_start w p op
 obtain ⟨n,hn⟩:∃ n,w.heap.size=n:=⟨_,rfl⟩
 rw [hn] at S0 B0 Z0 C0
 have k0:=Lib.cell_of_heap C0 0
 have k1:=Lib.cell_of_heap C0 1
 have k2:=Lib.cell_of_heap C0 2
 obtain ⟨c0,c1,c2,c3⟩:=S0.cells
 have S0:=Lib.hid S0
 have B0:=Lib.hid B0
 have HN:=Lib.hid hn
 obtain ⟨vz,hvz⟩:∃ v,Value.string ⟨#[z]⟩=v:=⟨_,rfl⟩
 have HZ:Hid (Value.string ⟨#[z]⟩=vz):=hvz
 clear hvz
 rcases hz with rfl | rfl
 all_goals
  go_enter Tryz.func138,Tryz.ntmps138
  go_wp2
  obtain ⟨w1,hw1⟩:∃ w1,w0.drew=w1:=⟨_,rfl⟩
  have S1:Hid (OpdAt w1 (n+1)):=by rw [← hw1];exact S0.out
  have B1:Hid (Below n w w1):=by rw [← hw1];exact B0.out.drew
  have Z1:w1.heap.size=n+2:=by rw [← hw1];exact Z0
  refine Mixed.wp_region_mixed (fun _=>True) 4 [(0,true),(1,true),(2,true),(3,false)] (by kernel_rfl) (by kernel_rfl) trivial ?_
  rw [hw1]
  clear S0 B0 C0 hw0 hw1 Z0 c0 c1 c2 c3 k0 k1 k2
  obtain ⟨c0,c1,c2,c3⟩:=S1.out.cells
  refine Mixed.wpMix_pure rfl (by kernel_rfl) (.agg #[.int .i64 7,.int .i64 0,.int .i64 0]) (fun w h=>by kernel_rfl) ?_
  refine Mixed.wpMix_move rfl (by kernel_rfl) _ rfl _ rfl ?_
  refine Mixed.wpMix_pure rfl (by kernel_rfl) vz (fun w h=>by rw [← HZ.out];kernel_rfl) ?_
  refine Mixed.wpMix_loudG rfl (by kernel_rfl) ?_
  go_wp2
  refine ⟨trivial,?_⟩
  simp only [Mixed.wpMix,List.drop_succ_cons,List.drop_zero]
  go_wp2
  obtain ⟨w3,hw3,hc3,hb3,-⟩:=opd_set S1.out 7 0 0
  rw [hw3]
  have r0:=Lib.cell_of_heap hc3 0
  have r1:=Lib.cell_of_heap hc3 1
  have r2:=Lib.cell_of_heap hc3 2
  refine bodyPost_ret (v:=.tuple #[trV (7,0,0),vz]) ?_ rfl ?_
  ·rw [← HZ.out]
   simp [results,Tryz.results138,go_sem,r0,r1,r2,trV]
  ·exact ⟨by rw [← HZ.out],by rw [HN.out];exact B1.out.trans (hb3.mono (by omega))⟩
def wordsAll:List Str:=[[101],[110],[119],[40,110,41],[40,119,41],[114],[115],[112],[113],[99],[107],[98],[116],[65],[68,69],[72,76],[83,80],[65,70],[65,70,39],[40,66,67,41],[40,68,69,41],[40,72,76,41],[40,83,80,41],[40,67,41],[73],[82],[48],[49],[50]]
theorem operand_fix (p:Pat) (op:Int) (word:Str) (hF:word∈wordsFx) (w:World):Calls Tryz.prog 138 #[codeV p op,.string (sB word)] w
  fun e w'=>e=.returned (.tuple #[trV (opT p op word).1,.string (sB (opT p op word).2)])∧Below w.heap.size w w':=by
 have e:opT p op word=(fixedT word,[]):=by
  unfold wordsFx at hF
  simp only [List.mem_cons,List.not_mem_nil,or_false] at hF
  rcases hF with rfl | rfl | rfl | rfl | rfl | rfl | rfl | rfl | rfl | rfl | rfl | rfl | rfl | rfl | rfl | rfl <;> rfl
 rw [e]
 refine operand_nil p op (sB word) ((word.headD 0).toNat:Int) (fixedT word) ?_ ?_ ?_ ?_ ?_ ?_ ?_ (fixed_any word hF) w
 all_goals
  unfold wordsFx at hF
  simp only [List.mem_cons,List.not_mem_nil,or_false] at hF
  rcases hF with rfl | rfl | rfl | rfl | rfl | rfl | rfl | rfl | rfl | rfl | rfl | rfl | rfl | rfl | rfl | rfl <;> first | exact fun _=>by kernel_rfl | kernel_rfl | decide
theorem operand_any (p:Pat) (hl:p.1.length=8) (op:Int) (h0:0≤op) (h1:op≤255) (word:Str) (hw:word∈wordsAll) (w:World):Calls Tryz.prog 138 #[codeV p op,.string (sB word)] w
  fun e w'=>e=.returned (.tuple #[trV (opT p op word).1,.string (sB (opT p op word).2)])∧Below w.heap.size w w':=by
 unfold wordsAll at hw
 simp only [List.mem_cons,List.not_mem_nil,or_false] at hw
 rcases hw with rfl | rfl | rfl | rfl | rfl | rfl | rfl | rfl | rfl | rfl | rfl | rfl | rfl | rfl | rfl | rfl | rfl | rfl | rfl | rfl | rfl | rfl | rfl | rfl | rfl | rfl | rfl | rfl | rfl
 ·exact operand_e p op w
 ·exact operand_n p op 110 (.inl rfl) w
 ·exact operand_n p op 119 (.inr rfl) w
 ·exact operand_m p op 110 (.inl rfl) w
 ·exact operand_m p op 119 (.inr rfl) w
 ·exact operand_read p op ⟨#[114]⟩ 114 _ (by kernel_rfl) (by kernel_rfl) (by kernel_rfl) (by kernel_rfl) (by kernel_rfl) (fun _=>by kernel_rfl) 162 (fun _ _=>by kernel_rfl) (by decide) (fun w=>cregister_any p hl op h0 h1 114 w) w
 ·exact operand_read p op ⟨#[115]⟩ 115 _ (by kernel_rfl) (by kernel_rfl) (by kernel_rfl) (by kernel_rfl) (by kernel_rfl) (fun _=>by kernel_rfl) 162 (fun _ _=>by kernel_rfl) (by decide) (fun w=>cregister_any p hl op h0 h1 115 w) w
 ·exact operand_read p op ⟨#[112]⟩ 112 _ (by kernel_rfl) (by kernel_rfl) (by kernel_rfl) (by kernel_rfl) (by kernel_rfl) (fun _=>by kernel_rfl) 163 (fun _ _=>by kernel_rfl) (by decide) (fun w=>cpair_any p hl op h0 h1 112 w) w
 ·exact operand_read p op ⟨#[113]⟩ 113 _ (by kernel_rfl) (by kernel_rfl) (by kernel_rfl) (by kernel_rfl) (by kernel_rfl) (fun _=>by kernel_rfl) 164 (fun _ _=>by kernel_rfl) (by decide) (fun w=>cpushed_any p hl op h0 h1 113 w) w
 ·exact operand_read p op ⟨#[99]⟩ 99 _ (by kernel_rfl) (by kernel_rfl) (by kernel_rfl) (by kernel_rfl) (by kernel_rfl) (fun _=>by kernel_rfl) 165 (fun _ _=>by kernel_rfl) (by decide) (fun w=>ccond_any p hl op h0 h1 99 w) w
 ·exact operand_read p op ⟨#[107]⟩ 107 _ (by kernel_rfl) (by kernel_rfl) (by kernel_rfl) (by kernel_rfl) (by kernel_rfl) (fun _=>by kernel_rfl) 165 (fun _ _=>by kernel_rfl) (by decide) (fun w=>ccond_any p hl op h0 h1 107 w) w
 ·exact operand_read p op ⟨#[98]⟩ 98 _ (by kernel_rfl) (by kernel_rfl) (by kernel_rfl) (by kernel_rfl) (by kernel_rfl) (fun _=>by kernel_rfl) 166 (fun _ _=>by kernel_rfl) (by decide) (fun w=>cbit_any p hl op h0 h1 98 w) w
 ·exact operand_read p op ⟨#[116]⟩ 116 _ (by kernel_rfl) (by kernel_rfl) (by kernel_rfl) (by kernel_rfl) (by kernel_rfl) (fun _=>by kernel_rfl) 167 (fun _ _=>by kernel_rfl) (by decide) (fun w=>crestart_any p hl op h0 h1 116 (numP_bd p.1 op h0 h1 116).1 (numP_bd p.1 op h0 h1 116).2 w) w
 all_goals exact operand_fix p op _ (by decide) w
end Go.Proofs.YtmnleknehjkmgaaGreatDoor
namespace Go.Proofs.YtmnleknehjkmgaaGreatDoor
open Go.RowKit Go.Shelf
def arN (n:Nat):Str:=([[65,68,68],[65,68,67],[83,85,66],[83,66,67],[65,78,68],[88,79,82],[79,82],[67,80]]:List Str).getD n []
def arB (n:Nat):Str:=([[65,44],[65,44],[],[65,44],[],[],[],[]]:List Str).getD n []
def roN (n:Nat):Str:=([[82,76,67],[82,82,67],[82,76],[82,82],[83,76,65],[83,82,65],[83,76,76],[83,82,76]]:List Str).getD n []
theorem sB_eq (l k:Str):((sB l).toList == k)=decide (l=k):=by
 rw [ByteArray.toList_eq]
 show (l.toArray.toList == k)=_
 rw [List.toList_toArray]
 by_cases h:l=k
 ·subst h;simp
 ·rw [decide_eq_false h];simpa using h
theorem arithmetic_of (p:Pat) (hl:p.1.length=8) (op:Int) (h0:0≤op) (h1:op≤255) (k:Int) (s:ByteArray) (t1 t2 t3:Bool) (hn:numP p.1 op 97=k) (hix:∀ w,(Instr.index 197 (.agg #[.string ⟨#[65,68,68]⟩,.string ⟨#[65,68,67]⟩,.string ⟨#[83,85,66]⟩,.string ⟨#[83,66,67]⟩,.string ⟨#[65,78,68]⟩,.string ⟨#[88,79,82]⟩,.string ⟨#[79,82]⟩,.string ⟨#[67,80]⟩]) (.int .i64 k)).run Tryz.prog w=.ok (.string s) w) (q1:(s.toList == [65,68,68])=t1) (q2:(s.toList == [65,68,67])=t2) (q3:(s.toList == [83,66,67])=t3) (w:World):Calls Tryz.prog 134 #[codeV p op] w
  fun e w'=>e=.returned (.tuple #[.string s,.string (if t1||t2||t3 then ⟨#[65,44]⟩ else ⟨#[]⟩)])∧Below w.heap.size w w':=by
 unfold codeV
 obtain ⟨w0,hw0⟩:∃ w0,w.alloc (.cells #[.string (sB p.1),.string (sB p.2),.int .u8 op] 142)=w0:=⟨_,rfl⟩
 have B0:Hid (Below w.heap.size w w0):=by rw [← hw0];exact (Below.refl _ _).alloc (Nat.le_refl _) _
 have C0:w0.heap[w.heap.size]?=some (.cells #[.string (sB p.1),.string (sB p.2),.int .u8 op] 142 (0,0)):=by rw [← hw0];exact World.alloc_heap_new w _
 have k0:=Lib.cell_of_heap C0 0
 have k1:=Lib.cell_of_heap C0 1
 have k2:=Lib.cell_of_heap C0 2
 have hnum:=number_any p.1 p.2 hl op h0 h1 97 w0
 rw [hn] at hnum
 have Z0:=B0.out.size
 clear C0
 go_enter Tryz.func134,Tryz.ntmps134
 go_wp2_with fail
 refine hnum.mono ?_
 rintro e w1 ⟨rfl,hb1⟩
 have B1:Hid (Below w.heap.size w w1):=B0.out.trans (hb1.mono Z0)
 clear hb1 hnum hw0 B0 Z0 k0 k1 k2
 cases t1 <;> cases t2 <;> cases t3
 all_goals
  go_wp2
  go_ret2
  exact ⟨rfl,B1.out⟩
theorem lt8 {n:Int} (h0:0≤n) (h1:n≤7):n=0∨n=1∨n=2∨n=3∨n=4∨n=5∨n=6∨n=7:=by omega
theorem arithmetic_any (p:Pat) (hl:p.1.length=8) (op:Int) (h0:0≤op) (h1:op≤255) (hn:numP p.1 op 97≤7) (w:World):Calls Tryz.prog 134 #[codeV p op] w
  fun e w'=>e=.returned (.tuple #[.string (sB (arN (numP p.1 op 97).toNat)),.string (sB (arB (numP p.1 op 97).toNat))])∧Below w.heap.size w w':=by
 rcases lt8 (numP_bd p.1 op h0 h1 97).1 hn with h | h | h | h | h | h | h | h
 ·rw [h]
  exact arithmetic_of p hl op h0 h1 0 (sB (arN 0)) true false false h (fun _=>by kernel_rfl) (by kernel_rfl) (by kernel_rfl) (by kernel_rfl) w
 ·rw [h]
  exact arithmetic_of p hl op h0 h1 1 (sB (arN 1)) false true false h (fun _=>by kernel_rfl) (by kernel_rfl) (by kernel_rfl) (by kernel_rfl) w
 ·rw [h]
  exact arithmetic_of p hl op h0 h1 2 (sB (arN 2)) false false false h (fun _=>by kernel_rfl) (by kernel_rfl) (by kernel_rfl) (by kernel_rfl) w
 ·rw [h]
  exact arithmetic_of p hl op h0 h1 3 (sB (arN 3)) false false true h (fun _=>by kernel_rfl) (by kernel_rfl) (by kernel_rfl) (by kernel_rfl) w
 ·rw [h]
  exact arithmetic_of p hl op h0 h1 4 (sB (arN 4)) false false false h (fun _=>by kernel_rfl) (by kernel_rfl) (by kernel_rfl) (by kernel_rfl) w
 ·rw [h]
  exact arithmetic_of p hl op h0 h1 5 (sB (arN 5)) false false false h (fun _=>by kernel_rfl) (by kernel_rfl) (by kernel_rfl) (by kernel_rfl) w
 ·rw [h]
  exact arithmetic_of p hl op h0 h1 6 (sB (arN 6)) false false false h (fun _=>by kernel_rfl) (by kernel_rfl) (by kernel_rfl) (by kernel_rfl) w
 ·rw [h]
  exact arithmetic_of p hl op h0 h1 7 (sB (arN 7)) false false false h (fun _=>by kernel_rfl) (by kernel_rfl) (by kernel_rfl) (by kernel_rfl) w
def wordsT (p:Pat) (op:Int):Str×Str×Str:=
 if (cutL [32] p.2).1=[97] then (arN (numP p.1 op 97).toNat,arB (numP p.1 op 97).toNat,(cutL [32] p.2).2.1) else
 if (cutL [32] p.2).1=[111] then (roN (numP p.1 op 111).toNat,[],(cutL [32] p.2).2.1) else ((cutL [32] p.2).1,[],(cutL [32] p.2).2.1)
def RetWords (w:World) (x:Str×Str×Str) (e:Ending) (w':World):Prop:=e=.returned (.tuple #[.string (sB x.1),.string (sB x.2.1),.string (sB x.2.2)])∧Below w.heap.size w w'
theorem words_start (w:World) (p:Pat) (op:Int):∃ w0,w.alloc (.cells #[.string (sB p.1),.string (sB p.2),.int .u8 op] 142)=w0∧Below w.heap.size w w0∧w0.heap.size=w.heap.size+1∧w0.heap[w.heap.size]?=some (.cells #[.string (sB p.1),.string (sB p.2),.int .u8 op] 142 (0,0)):=
 ⟨_,rfl,(Below.refl _ _).alloc (Nat.le_refl _) _,by simp,World.alloc_heap_new w _⟩
theorem words_a (p:Pat) (hl:p.1.length=8) (hf:p.2.length≤100000) (op:Int) (h0:0≤op) (h1:op≤255) (hn:numP p.1 op 97≤7) (hc:(cutL [32] p.2).1=[97]) (w:World) (hM:MaxAt w):Calls Tryz.prog 99 #[codeV p op] w (RetWords w (wordsT p op)):=by
 unfold codeV
 obtain ⟨w0,hw0,b0,Z0,c0⟩:=words_start w p op
 have hM0:=hM.below b0
 have hcut:=cut_any p.2 [32] hf w0 hM0
 have k0:=Lib.cell_of_heap c0 0
 have k1:=Lib.cell_of_heap c0 1
 have k2:=Lib.cell_of_heap c0 2
 have B0:=Lib.hid b0
 have C0:=Lib.hid c0
 clear b0 c0
 obtain ⟨m,hm⟩:∃ m,(cutL [32] p.2).1=m:=⟨_,rfl⟩
 obtain ⟨a,ha⟩:∃ a,(cutL [32] p.2).2.1=a:=⟨_,rfl⟩
 obtain ⟨f,hf3⟩:∃ f,(cutL [32] p.2).2.2=f:=⟨_,rfl⟩
 rw [hm,ha,hf3] at hcut
 rw [hc] at hm
 subst hm
 have E:Hid (wordsT p op=(arN (numP p.1 op 97).toNat,arB (numP p.1 op 97).toNat,a)):=by show wordsT p op=_;unfold wordsT;rw [if_pos hc,ha]
 have har:=arithmetic_any p hl op h0 h1 hn
 obtain ⟨x,hx⟩:∃ x,arN (numP p.1 op 97).toNat=x:=⟨_,rfl⟩
 obtain ⟨y,hy⟩:∃ y,arB (numP p.1 op 97).toNat=y:=⟨_,rfl⟩
 rw [hx,hy] at har E
 simp only [codeV] at har
 have ht:((sB [97]).toList == [97])=true:=by rw [sB_eq];rfl
 clear hx hy ha hf3 hc
 go_enter Tryz.func99,Tryz.ntmps99
 go_wp2_with fail
 refine hcut.mono ?_
 rintro e w1 ⟨rfl,q,rfl⟩
 have B1:Hid (Below w.heap.size w (w0.drewN q)):=below_dn B0.out q
 have D1:(w0.drewN q).heap[w.heap.size]?=some (.cells #[.string (sB p.1),.string (sB p.2),.int .u8 op] 142 (0,0)):=C0.out
 have Z1:(w0.drewN q).heap.size=w.heap.size+1:=Z0
 obtain ⟨w1,hw1⟩:∃ w1,w0.drewN q=w1:=⟨_,rfl⟩
 rw [hw1] at B1 D1 Z1 ⊢
 clear hw1 hcut hw0 k0 k1 k2 B0 C0 Z0 hM0 w0 hM
 have k0:=Lib.cell_of_heap D1 0
 have k1:=Lib.cell_of_heap D1 1
 have k2:=Lib.cell_of_heap D1 2
 clear D1
 have har:=har w1
 go_wp2_with fail
 refine har.mono ?_
 rintro e w2 ⟨rfl,hb2⟩
 have B2:Hid (Below w.heap.size w w2):=B1.out.trans (hb2.mono (by omega))
 clear hb2 har B1 k0 k1 k2 Z1
 go_wp2
 go_ret3
 exact ⟨by rw [E.out];rfl,B2.out⟩
theorem words_of (p:Pat) (hl:p.1.length=8) (hf:p.2.length≤100000) (op:Int) (h0:0≤op) (h1:op≤255) (k:Int) (r:Str) (hn:numP p.1 op 111=k) (hr:roN k.toNat=r) (hix:∀ w,(Instr.index 197 (.agg #[.string ⟨#[82,76,67]⟩,.string ⟨#[82,82,67]⟩,.string ⟨#[82,76]⟩,.string ⟨#[82,82]⟩,.string ⟨#[83,76,65]⟩,.string ⟨#[83,82,65]⟩,.string ⟨#[83,76,76]⟩,.string ⟨#[83,82,76]⟩]) (.int .i64 k)).run Tryz.prog w=.ok (.string (sB r)) w) (hc:(cutL [32] p.2).1=[111]) (w:World) (hM:MaxAt w):Calls Tryz.prog 99 #[codeV p op] w (RetWords w (wordsT p op)):=by
 unfold codeV
 obtain ⟨w0,hw0,b0,Z0,c0⟩:=words_start w p op
 have hM0:=hM.below b0
 have hcut:=cut_any p.2 [32] hf w0 hM0
 have k0:=Lib.cell_of_heap c0 0
 have k1:=Lib.cell_of_heap c0 1
 have k2:=Lib.cell_of_heap c0 2
 have B0:=Lib.hid b0
 have C0:=Lib.hid c0
 clear b0 c0
 obtain ⟨m,hm⟩:∃ m,(cutL [32] p.2).1=m:=⟨_,rfl⟩
 obtain ⟨a,ha⟩:∃ a,(cutL [32] p.2).2.1=a:=⟨_,rfl⟩
 obtain ⟨f,hf3⟩:∃ f,(cutL [32] p.2).2.2=f:=⟨_,rfl⟩
 rw [hm,ha,hf3] at hcut
 rw [hc] at hm
 subst hm
 have E:Hid (wordsT p op=(r,[],a)):=by show wordsT p op=_;unfold wordsT;rw [if_neg (by rw [hc];decide),if_pos hc,ha,hn,hr]
 have hnum:=number_any p.1 p.2 hl op h0 h1 111
 rw [hn] at hnum
 have ht:((sB [111]).toList == [97])=false:=by rw [sB_eq];rfl
 have ht2:((sB [111]).toList == [111])=true:=by rw [sB_eq];rfl
 clear ha hf3 hc
 go_enter Tryz.func99,Tryz.ntmps99
 go_wp2_with fail
 refine hcut.mono ?_
 rintro e w1 ⟨rfl,q,rfl⟩
 have B1:Hid (Below w.heap.size w (w0.drewN q)):=below_dn B0.out q
 have D1:(w0.drewN q).heap[w.heap.size]?=some (.cells #[.string (sB p.1),.string (sB p.2),.int .u8 op] 142 (0,0)):=C0.out
 have Z1:(w0.drewN q).heap.size=w.heap.size+1:=Z0
 obtain ⟨w1,hw1⟩:∃ w1,w0.drewN q=w1:=⟨_,rfl⟩
 rw [hw1] at B1 D1 Z1 ⊢
 clear hw1 hcut hw0 k0 k1 k2 B0 C0 Z0 hM0 w0 hM
 have k0:=Lib.cell_of_heap D1 0
 have k1:=Lib.cell_of_heap D1 1
 have k2:=Lib.cell_of_heap D1 2
 clear D1
 have hnum:=hnum w1
 go_wp2_with fail
 refine hnum.mono ?_
 rintro e w2 ⟨rfl,hb2⟩
 have B2:Hid (Below w.heap.size w w2):=B1.out.trans (hb2.mono (by omega))
 clear hb2 hnum B1 k0 k1 k2 Z1
 go_wp2
 go_ret3
 exact ⟨by rw [E.out];rfl,B2.out⟩
theorem words_m (p:Pat) (hl:p.1.length=8) (hf:p.2.length≤100000) (op:Int) (h0:0≤op) (h1:op≤255) (hc:(cutL [32] p.2).1≠[97]) (hc2:(cutL [32] p.2).1≠[111]) (w:World) (hM:MaxAt w):Calls Tryz.prog 99 #[codeV p op] w (RetWords w (wordsT p op)):=by
 unfold codeV
 obtain ⟨w0,hw0,b0,Z0,c0⟩:=words_start w p op
 have hM0:=hM.below b0
 have hcut:=cut_any p.2 [32] hf w0 hM0
 have k0:=Lib.cell_of_heap c0 0
 have k1:=Lib.cell_of_heap c0 1
 have k2:=Lib.cell_of_heap c0 2
 have B0:=Lib.hid b0
 have C0:=Lib.hid c0
 clear b0 c0
 obtain ⟨m,hm⟩:∃ m,(cutL [32] p.2).1=m:=⟨_,rfl⟩
 obtain ⟨a,ha⟩:∃ a,(cutL [32] p.2).2.1=a:=⟨_,rfl⟩
 obtain ⟨f,hf3⟩:∃ f,(cutL [32] p.2).2.2=f:=⟨_,rfl⟩
 rw [hm,ha,hf3] at hcut
 have E:Hid (wordsT p op=(m,[],a)):=by show wordsT p op=_;unfold wordsT;rw [if_neg hc,if_neg hc2,hm,ha]
 have ht:((sB m).toList == [97])=false:=by rw [sB_eq,← hm];exact decide_eq_false hc
 have ht2:((sB m).toList == [111])=false:=by rw [sB_eq,← hm];exact decide_eq_false hc2
 clear ha hf3 hc hc2 hm
 go_enter Tryz.func99,Tryz.ntmps99
 go_wp2_with fail
 refine hcut.mono ?_
 rintro e w1 ⟨rfl,q,rfl⟩
 have B1:Hid (Below w.heap.size w (w0.drewN q)):=below_dn B0.out q
 have D1:(w0.drewN q).heap[w.heap.size]?=some (.cells #[.string (sB p.1),.string (sB p.2),.int .u8 op] 142 (0,0)):=C0.out
 have Z1:(w0.drewN q).heap.size=w.heap.size+1:=Z0
 obtain ⟨w1,hw1⟩:∃ w1,w0.drewN q=w1:=⟨_,rfl⟩
 rw [hw1] at B1 D1 Z1 ⊢
 clear hw1 hcut hw0 k0 k1 k2 B0 C0 Z0 hM0 w0 hM
 have k0:=Lib.cell_of_heap D1 0
 have k1:=Lib.cell_of_heap D1 1
 have k2:=Lib.cell_of_heap D1 2
 clear D1
 go_wp2
 go_ret3
 exact ⟨by rw [E.out];rfl,B1.out⟩
theorem words_any (p:Pat) (hl:p.1.length=8) (hf:p.2.length≤100000) (op:Int) (h0:0≤op) (h1:op≤255) (hn:numP p.1 op 97≤7) (hn2:numP p.1 op 111≤7) (w:World) (hM:MaxAt w):Calls Tryz.prog 99 #[codeV p op] w (RetWords w (wordsT p op)):=by
 by_cases hc:(cutL [32] p.2).1=[97]
 ·exact words_a p hl hf op h0 h1 hn hc w hM
 ·by_cases hc2:(cutL [32] p.2).1=[111]
  ·rcases lt8 (numP_bd p.1 op h0 h1 111).1 hn2 with h | h | h | h | h | h | h | h
   ·exact words_of p hl hf op h0 h1 0 (roN 0) h rfl (fun _=>by kernel_rfl) hc2 w hM
   ·exact words_of p hl hf op h0 h1 1 (roN 1) h rfl (fun _=>by kernel_rfl) hc2 w hM
   ·exact words_of p hl hf op h0 h1 2 (roN 2) h rfl (fun _=>by kernel_rfl) hc2 w hM
   ·exact words_of p hl hf op h0 h1 3 (roN 3) h rfl (fun _=>by kernel_rfl) hc2 w hM
   ·exact words_of p hl hf op h0 h1 4 (roN 4) h rfl (fun _=>by kernel_rfl) hc2 w hM
   ·exact words_of p hl hf op h0 h1 5 (roN 5) h rfl (fun _=>by kernel_rfl) hc2 w hM
   ·exact words_of p hl hf op h0 h1 6 (roN 6) h rfl (fun _=>by kernel_rfl) hc2 w hM
   ·exact words_of p hl hf op h0 h1 7 (roN 7) h rfl (fun _=>by kernel_rfl) hc2 w hM
  ·exact words_m p hl hf op h0 h1 hc hc2 w hM
end Go.Proofs.YtmnleknehjkmgaaGreatDoor
