/-
  EvB, EvC, EvD, EvE, EvF.
-/
import Derived.Test.YtajlleeonddinaaGreatDoorGAH
import Derived.Great.FillDense
import Derived.Laws.Build
import Derived.Laws.Append
set_option linter.all false
set_option maxRecDepth 100000
set_option maxHeartbeats 4000000
namespace Go.Ev
open Go Go.RowKit
def ofC:Value→Option AC
 | .bool b=>some (.bool b)
 | .int k n=>some (.int k n)
 | .string s=>some (.str s.data.toList)
 | .pointer none=>some .nilp
 | .slice none 0 0=>some .nils
 | _=>none
def ofCs:List Value→Option (List AC)
 | []=>some []
 | v :: t=>match ofC v,ofCs t with
  | some x,some l=>some (x :: l)
  | _,_=>none
def ofV:Value→Option A1
 | .agg cs=>match ofCs cs.toList with
  | some l=>some ⟨true,l⟩
  | none=>none
 | v=>match ofC v with
  | some c=>some ⟨false,[c]⟩
  | none=>none
theorem ofC_rel (ρ:Ren) {v:Value} {x:AC} (h:ofC v=some x):x.rel ρ v:=by
 unfold ofC at h
 split at h <;> first | (cases h;rfl) | (cases h;done)
theorem ofCs_rel (ρ:Ren):∀ {vs:List Value} {l:List AC},ofCs vs=some l→R2 ρ l vs
 | [],l,h=>by cases h;rfl
 | v :: t,l,h=>by
  simp only [ofCs] at h
  split at h
  ·rename_i x l' h1 h2
   cases h
   exact ⟨v,t,rfl,ofC_rel ρ h1,ofCs_rel ρ h2⟩
  ·cases h
theorem ofV_rel (ρ:Ren) {v:Value} {x:A1} (h:ofV v=some x):x.rel ρ v:=by
 unfold ofV at h
 split at h
 ·split at h
  ·rename_i h1;cases h;exact ⟨_,rfl,ofCs_rel ρ h1⟩
  ·cases h
 ·split at h
  ·rename_i h1;cases h;exact ⟨_,rfl,ofC_rel ρ h1⟩
  ·cases h
def AC.val:AC→Option Value
 | .bool b=>some (.bool b)
 | .int k n=>some (.int k n)
 | .str s=>some (.string ⟨s.toArray⟩)
 | .nilp=>some (.pointer none)
 | .nils=>some (.slice none 0 0)
 | _=>none
def vals:List AC→Option (List Value)
 | []=>some []
 | x :: t=>match x.val,vals t with
  | some v,some l=>some (v :: l)
  | _,_=>none
def A1.val (x:A1):Option Value:=match x.g,x.l with
 | true,l=>match vals l with
  | some vs=>some (.agg vs.toArray)
  | none=>none
 | false,[c]=>c.val
 | _,_=>none
theorem AC.val_rel {ρ:Ren} {x:AC} {u v:Value} (h:x.val=some v) (r:x.rel ρ u):u=v:=by
 cases x <;> simp only [AC.val] at h <;> first | (cases h;exact r) | (cases h;done)
theorem vals_rel {ρ:Ren}:∀ {l:List AC} {vs us:List Value},vals l=some vs→R2 ρ l us→us=vs
 | [],vs,us,h,r=>by cases h;exact r
 | x :: t,vs,us,h,⟨v,u,h1,h2,h3⟩=>by
  simp only [vals] at h
  split at h
  ·rename_i v' l' e1 e2
   cases h
   rw [h1,AC.val_rel e1 h2,vals_rel e2 h3]
  ·cases h
theorem A1.val_rel {ρ:Ren} {x:A1} {u v:Value} (h:x.val=some v) (r:x.rel ρ u):u=v:=by
 obtain ⟨g,l⟩:=x
 cases g
 ·obtain ⟨c,h1,h2⟩:=r
  simp only at h1
  subst h1
  exact AC.val_rel h h2
 ·obtain ⟨cs,rfl,h2⟩:=r
  simp only [A1.val] at h
  split at h
  ·rename_i vs e
   cases h
   rw [← vals_rel e h2]
  ·cases h
abbrev Tm:=List (Nat×Option AV)
def TR (ρ:Ren) (T:Tm) (a:Act):Prop:=∀ t x,look T t=some (some x)→x.rel ρ (a.tmps.getD t undef)
theorem TR.ext {ρ ρ':Ren} (e:Ext ρ ρ') {T:Tm} {a:Act} (h:TR ρ T a):TR ρ' T a:=fun t x hx=>(h t x hx).ext e
def opnd (T:Tm):Operand→Option AV
 | .tmp t=>match look T t with
  | some v=>v
  | none=>none
 | .const v=>match ofV v with
  | some x=>some (.one x)
  | none=>none
 | _=>none
theorem opnd_rel {ρ:Ren} {T:Tm} {a:Act} (h:TR ρ T a) {x:Operand} {v:AV} (e:opnd T x=some v):v.rel ρ (a.eval x):=by
 cases x with
 | tmp t=>
  simp only [opnd] at e
  split at e
  ·rename_i v' h1
   subst e
   exact h t v h1
  ·cases e
 | const u=>
  simp only [opnd] at e
  split at e
  ·rename_i x h1;cases e;exact ofV_rel ρ h1
  ·cases e
 | _=>cases e
def op1 (T:Tm) (x:Operand):Option A1:=match opnd T x with
 | some (.one x)=>some x
 | _=>none
theorem op1_rel {ρ:Ren} {T:Tm} {a:Act} (h:TR ρ T a) {x:Operand} {v:A1} (e:op1 T x=some v):v.rel ρ (a.eval x):=by
 unfold op1 at e
 split at e
 ·rename_i x' h1;cases e;exact opnd_rel h h1
 ·cases e
def opc (T:Tm) (x:Operand):Option AC:=match op1 T x with
 | some ⟨false,[c]⟩=>some c
 | _=>none
theorem opc_rel {ρ:Ren} {T:Tm} {a:Act} (h:TR ρ T a) {x:Operand} {v:AC} (e:opc T x=some v):v.rel ρ (a.eval x):=by
 unfold opc at e
 split at e
 ·rename_i c h1
  cases e
  obtain ⟨c',e1,e2⟩:=op1_rel h h1
  cases e1
  exact e2
 ·cases e
def ops1 (T:Tm):List (Nat×Operand)→Option (List (Nat×A1))
 | []=>some []
 | (i,x) :: t=>match op1 T x,ops1 T t with
  | some v,some l=>some ((i,v) :: l)
  | _,_=>none
def PR (ρ:Ren):List (Nat×A1)→List (Nat×Value)→Prop
 | [],vs=>vs=[]
 | (i,x) :: t,vs=>∃ v u,vs=(i,v) :: u∧x.rel ρ v∧PR ρ t u
theorem ops1_rel {ρ:Ren} {T:Tm} {a:Act} (h:TR ρ T a):∀ {ps:List (Nat×Operand)} {l:List (Nat×A1)},ops1 T ps=some l→PR ρ l (ps.map fun (i,x)=>(i,a.eval x))
 | [],l,e=>by cases e;rfl
 | (i,x) :: t,l,e=>by
  simp only [ops1] at e
  split at e
  ·rename_i v l' h1 h2
   cases e
   exact ⟨_,_,rfl,op1_rel h h1,ops1_rel h h2⟩
  ·cases e
def sizeT (P:Program) (t:TypeId):Option Nat:=match P.info? t with
 | some i=>some i.size
 | none=>none
def zeroT (P:Program) (t:TypeId):Option A1:=match P.info? t with
 | some i=>match i.zero with
  | some z=>ofV z
  | none=>none
 | none=>none
def aggT (P:Program) (t:TypeId):Option Bool:=match P.underlying t with
 | some (.struct _)=>some true
 | some (.array _ _)=>some true
 | some _=>some false
 | none=>none
theorem run_sizeT {P:Program} {t:TypeId} {n:Nat} (h:sizeT P t=some n) (w:World):(sizeOf t).run P w=.ok n w:=by
 unfold sizeT at h
 split at h
 ·rename_i i e;cases h;simp [Go.sizeOf,typeInfo,e]
 ·cases h
theorem run_zeroT {P:Program} {t:TypeId} {x:A1} (h:zeroT P t=some x) (ρ:Ren):∃ z,x.rel ρ z∧∀ w,(zeroValue t).run P w=.ok z w:=by
 unfold zeroT at h
 split at h
 ·rename_i i e
  split at h
  ·rename_i z e2;exact ⟨z,ofV_rel ρ h,fun w=>by simp [zeroValue,typeInfo,e,e2]⟩
  ·cases h
 ·cases h
theorem run_und {P:Program} {t:TypeId} {d:TypeDesc} (h:P.underlying t=some d) (w:World):(underlying t).run P w=.ok d w:=by
 simp [Go.underlying,h]
theorem run_aggT {P:Program} {t:TypeId} {b:Bool} (h:aggT P t=some b) (w:World):(isAgg t).run P w=.ok b w:=by
 unfold aggT at h
 split at h
 ·rename_i e;cases h;simp [isAgg,Go.underlying,e]
 ·rename_i e;cases h;simp [isAgg,Go.underlying,e]
 ·rename_i d h1 h2 e
  cases h
  simp only [isAgg,Go.underlying,Sem.run_bind,run_program,Result.andThen_ok,e,Sem.run_pure]
 ·cases h
def pureOf (P:Program) {α:Type}:Sem α→Option α
 | .pure a=>some a
 | .program k=>pureOf P (k P)
 | .mark _ k=>pureOf P k
 | _=>none
theorem pureOf_run {P:Program} {α:Type}:∀ {s:Sem α} {a:α},pureOf P s=some a→∀ w,s.run P w=.ok a w
 | .pure b,a,h,w=>by cases h;rfl
 | .program k,a,h,w=>pureOf_run (s:=k P) h w
 | .mark _ k,a,h,w=>pureOf_run (s:=k) h w
 | .load ..,_,h,_=>by cases h
 | .store ..,_,h,_=>by cases h
 | .new ..,_,h,_=>by cases h
 | .shape ..,_,h,_=>by cases h
 | .freeze ..,_,h,_=>by cases h
 | .frozen ..,_,h,_=>by cases h
 | .getObj ..,_,h,_=>by cases h
 | .setObj ..,_,h,_=>by cases h
 | .choose ..,_,h,_=>by cases h
 | .sys ..,_,h,_=>by cases h
 | .halt ..,_,h,_=>by cases h
def closedV (T:Tm) (x:Operand):Option Value:=match x with
 | .func f=>some (.func (.func f) #[] #[])
 | x=>match op1 T x with
  | some y=>y.val
  | none=>none
theorem closedV_eq {ρ:Ren} {T:Tm} {a:Act} (h:TR ρ T a) {x:Operand} {v:Value} (e:closedV T x=some v):a.eval x=v:=by
 unfold closedV at e
 split at e
 ·cases e;rfl
 ·split at e
  ·rename_i y h1;exact A1.val_rel e (op1_rel h h1)
  ·cases e
def allClosed (T:Tm):List Operand→Bool
 | []=>true
 | x :: t=>match closedV T x with
  | some _=>allClosed T t
  | none=>false
theorem allClosed_eq {ρ:Ren} {T:Tm} {a:Act} (h:TR ρ T a):∀ {l:List Operand},allClosed T l=true→∀ x∈l,a.eval x=(closedV T x).getD undef
 | [],_,x,hx=>by cases hx
 | y :: t,e,x,hx=>by
  simp only [allClosed] at e
  split at e
  ·rename_i v h1
   rcases List.mem_cons.1 hx with rfl | hx
   ·rw [h1];exact closedV_eq h h1
   ·exact allClosed_eq h e x hx
  ·cases e
def isSelect:Op→Bool
 | .select ..=>true
 | _=>false
def evPure (P:Program) (T:Tm) (o:Oper):Option AV:=match isSelect o.op,allClosed T o.op.operands.toList with
 | false,true=>match pureOf P (execOp (fun x=>(closedV T x).getD undef) o) with
  | some (.value v)=>match ofV v with
   | some x=>some (.one x)
   | none=>none
  | _=>none
 | _,_=>none
theorem evPure_run {P:Program} {ρ:Ren} {T:Tm} {a:Act} (h:TR ρ T a) {o:Oper} {x:AV} (e:evPure P T o=some x):∃ v,x.rel ρ v∧∀ w,(execOp a.eval o).run P w=.ok (.value v) w:=by
 unfold evPure at e
 split at e
 ·rename_i h1 h2
  split at e
  ·rename_i v h3
   split at e
   ·rename_i y h4
    cases e
    refine ⟨v,ofV_rel ρ h4,fun w=>?_⟩
    rw [execOp_congr o (fun cs b hc=>by rw [hc] at h1;cases h1) (fun z hz=>allClosed_eq h h2 z (by simpa using hz))]
    exact pureOf_run h3 w
   ·cases e
  ·cases e
 ·cases e
end Go.Ev
namespace Go.Ev
open Go Go.RowKit
def over:List AC→Nat→List AC→List AC
 | [],_,_=>[]
 | c :: t,0,[]=>c :: t
 | c :: t,0,x :: l=>x :: over t 0 l
 | c :: t,n+1,l=>c :: over t n l
theorem over_at:∀ (cs:List AC) (off:Nat) (l:List AC) (k:Nat),(over cs off l)[k]?=if off≤k∧k<off+l.length∧k<cs.length then l[k - off]? else cs[k]?
 | [],off,l,k=>by rw [if_neg (by simp)];rfl
 | c :: t,0,[],k=>by rw [if_neg (by simp)];rfl
 | c :: t,0,x :: l,0=>by simp [over]
 | c :: t,0,x :: l,k+1=>by
  have ih:=over_at t 0 l k
  simp only [over,List.getElem?_cons_succ,ih,List.length_cons,Nat.zero_le,true_and,Nat.zero_add,Nat.sub_zero]
  by_cases h:k<l.length∧k<t.length
  ·rw [if_pos h,if_pos (by omega)]
  ·rw [if_neg h,if_neg (by omega)]
 | c :: t,n+1,l,0=>by rw [if_neg (by omega)];simp [over]
 | c :: t,n+1,l,k+1=>by
  have ih:=over_at t n l k
  simp only [over,List.getElem?_cons_succ,ih,List.length_cons]
  by_cases h:n≤k∧k<n+l.length∧k<t.length
  ·rw [if_pos h,if_pos (by omega)]
   congr 1
   omega
  ·rw [if_neg h,if_neg (by omega)]
theorem over_length:∀ (cs:List AC) (off:Nat) (l:List AC),(over cs off l).length=cs.length
 | [],_,_=>rfl
 | c :: t,0,[]=>rfl
 | c :: t,0,x :: l=>by simp [over,over_length t 0 l]
 | c :: t,n+1,l=>by simp [over,over_length t n l]
def fillA (place:Nat→Option (Nat×Nat)) (cells:List AC):List (Nat×A1)→Option (List AC)
 | []=>some cells
 | (i,x) :: rest=>match place i with
  | some (off,size)=>match Nat.beq x.l.length size&&Nat.ble (off+size) cells.length with
   | true=>fillA place (over cells off x.l) rest
   | false=>none
  | none=>none
theorem fill_rel {ρ:Ren} {place:Nat→Option (Nat×Nat)}:∀ {l:List (Nat×A1)} {vs:List (Nat×Value)} {cells:List AC} {cs:Array Value} {r:List AC},fillA place cells l=some r→R2 ρ cells cs.toList→PR ρ l vs→
  ∃ cs',Instr.fill place cs vs=some cs'∧R2 ρ r cs'.toList
 | [],vs,cells,cs,r,h,hc,hp=>by
  cases h
  rw [show vs=[] from hp]
  exact ⟨cs,rfl,hc⟩
 | (i,x) :: rest,vs,cells,cs,r,h,hc,⟨v,u,h1,h2,h3⟩=>by
  subst h1
  simp only [fillA] at h
  split at h
  ·rename_i off size hpl
   split at h
   ·rename_i hb
    simp only [Bool.and_eq_true] at hb
    have e1:=Nat.eq_of_beq_eq_true hb.1
    have e2:=Nat.le_of_ble_eq_true hb.2
    have hv:=h2.cells
    have hvl:v.cells.size=size:=by rw [← Array.length_toList,hv.length,e1]
    have hcl:cs.size=cells.length:=by rw [← Array.length_toList,hc.length]
    obtain ⟨g1,g2⟩:=Great.foldl_set off v.cells.toList 0 cs
    have hR:R2 ρ (over cells off x.l) ((v.cells.zipIdx.foldl (fun cs (c,j)=>cs.setIfInBounds (off+j) c) cs).toList):=by
     have heq:(v.cells.zipIdx.foldl (fun cs (c,j)=>cs.setIfInBounds (off+j) c) cs)=((v.cells.toList.zipIdx 0).foldl (fun cs (x:Value×Nat)=>cs.setIfInBounds (off+x.2) x.1) cs):=by
      rw [← Array.foldl_toList,Array.toList_zipIdx]
     rw [heq]
     refine R2.of_at (by rw [Array.length_toList,g1,over_length,hcl]) fun k y hy=>?_
     rw [over_at] at hy
     rw [Array.getElem?_toList,g2 k]
     simp only [Nat.add_zero,Array.length_toList,hvl,hcl]
     split at hy
     ·rename_i hk
      rw [if_pos (by omega)]
      exact hv.at_ hy
     ·rename_i hk
      rw [if_neg (by omega),← Array.getElem?_toList]
      exact hc.at_ hy
    obtain ⟨cs',k1,k2⟩:=fill_rel h hR h3
    refine ⟨cs',?_,k2⟩
    rw [Instr.fill,hpl]
    simp only
    rw [if_neg (by simp;omega)]
    exact k1
   ·cases h
  ·cases h
def ptrV (b o:Nat):AV:=.one ⟨false,[.ptr b o]⟩
def Res (P:Program) (w0:World) (ρ:Ren) (o:Oper) (a:Act) (w:World) (x:Option AV) (σ':Hp):Prop:=
 ∃ n w' ρ',(execOp a.eval o).run P w=.ok n w'∧Ext ρ ρ'∧HR w0 ρ' σ' w'∧match x with
  | some x=>∃ v,n=.value v∧x.rel ρ' v
  | none=>n=.skip
section
variable {P:Program} {w0 w:World} {ρ:Ren} {σ σ':Hp} {T:Tm} {a:Act} {o:Oper}
theorem res_still {x:AV} {v:Value} (hs:HR w0 ρ σ w) (h:(execOp a.eval o).run P w=.ok (.value v) w) (hx:x.rel ρ v):Res P w0 ρ o a w (some x) σ:=⟨_,w,ρ,h,Ext.refl _,hs,v,rfl,hx⟩
theorem res_of {x:AV} (hs:HR w0 ρ σ w) (h:∃ v,x.rel ρ v∧∀ w,(execOp a.eval o).run P w=.ok (.value v) w):Res P w0 ρ o a w (some x) σ:=by
 obtain ⟨v,h1,h2⟩:=h
 exact res_still hs (h2 w) h1
theorem row_new {nm:Nat} {ob:AO} (hs:HR w0 ρ σ w) (h:look σ nm=none) (cp:Nat) {cs:Array Value} (hl:∀ (i:Nat) (x:AC),ob.c[i]?=some x→∃ v,cs[i]?=some v∧x.rel ρ v) (hz:szOk ob.s cs.size ob.c.length cp) :
  ∃ ρ',Ext ρ ρ'∧ρ' nm=some (w.heap.size,cp)∧HR w0 ρ' ((nm,ob) :: σ) (w.alloc (.cells cs ob.t)):=
 ⟨_,hs.ext_add h,by unfold Ren.add;rw [if_pos rfl],hs.alloc h ob cp hl hz⟩
theorem ptr_rel {ρ':Ren} {nm k cp off:Nat} (h:ρ' nm=some (k,cp)):(ptrV nm off).rel ρ' (.pointer (some ⟨k,off,none⟩)):=⟨_,rfl,k,cp,h,rfl⟩
theorem R2.get {l:List AC} {cs:Array Value} (h:R2 ρ l cs.toList) (i:Nat) (x:AC) (hx:l[i]?=some x):∃ v,cs[i]?=some v∧x.rel ρ v:=by
 obtain ⟨v,h1,h2⟩:=h.at_ hx
 exact ⟨v,by rw [← Array.getElem?_toList];exact h1,h2⟩
theorem res_new {nm:Nat} {t:TypeId} {l:List AC} {x:AV} {cs:Array Value} {v:Value} (hs:HR w0 ρ σ w) (h:look σ nm=none) (hl:R2 ρ l cs.toList)
  (hr:(execOp a.eval o).run P w=.ok (.value v) (w.alloc (.cells cs t))) (hx:∀ ρ':Ren,ρ' nm=some (w.heap.size,0)→x.rel ρ' v):Res P w0 ρ o a w (some x) ((nm,⟨t,l,none⟩) :: σ):=by
 obtain ⟨ρ',h1,h2,h3⟩:=row_new (ob:=⟨t,l,none⟩) hs h 0 hl.get (by show _=_;rw [← Array.length_toList,hl.length])
 exact ⟨_,_,ρ',hr,h1,h3,v,rfl,hx ρ' h2⟩
theorem res_alloc {t:TypeId} {z:A1} {nm:Nat} (ho:o.op=.alloc t) (hs:HR w0 ρ σ w) (hz:zeroT P t=some z) (h:look σ nm=none):Res P w0 ρ o a w (some (ptrV nm 0)) ((nm,⟨t,z.l,none⟩) :: σ):=by
 obtain ⟨v,h1,h2⟩:=run_zeroT hz ρ
 refine res_new hs h (cs:=v.cells) h1.cells ?_ fun ρ'=>ptr_rel
 simp [execOp,ho,Instr.alloc,h2,newVar,newRow]
theorem res_box {t:TypeId} {x:Operand} {z:A1} {nm:Nat} (ho:o.op=.box t x) (hs:HR w0 ρ σ w) (hT:TR ρ T a) (hz:op1 T x=some z) (h:look σ nm=none):Res P w0 ρ o a w (some (ptrV nm 0)) ((nm,⟨t,z.l,none⟩) :: σ):=by
 have h1:=op1_rel hT hz
 refine res_new hs h (cs:=(a.eval x).cells) h1.cells ?_ fun ρ'=>ptr_rel
 simp [execOp,ho,Instr.box,newVar,newRow]
def placesT (P:Program):List Field→Option (List (Nat×Nat))
 | []=>some []
 | f :: t=>match sizeT P f.type,placesT P t with
  | some n,some l=>some ((f.offset,n) :: l)
  | _,_=>none
theorem placesT_eq:∀ {fs:List Field} {l:List (Nat×Nat)},placesT P fs=some l→fs.mapM (fun f=>(P.info? f.type).map fun i=>(f.offset,i.size))=some l
 | [],l,h=>by cases h;rfl
 | f :: t,l,h=>by
  simp only [placesT] at h
  split at h
  ·rename_i n l' h1 h2
   cases h
   have h3:=placesT_eq h2
   unfold sizeT at h1
   split at h1
   ·rename_i i e
    cases h1
    simp [List.mapM_cons,e,h3]
   ·cases h1
  ·cases h
def buildA (P:Program) (t:TypeId) (parts:List (Nat×A1)):Option (List AC):=match zeroT P t with
 | some z=>match P.underlying t with
  | some (.struct fs)=>match placesT P fs.toList with
   | some pl=>fillA (fun i=>pl[i]?) z.l parts
   | none=>none
  | some (.array _ e)=>match sizeT P e with
   | some s=>fillA (fun i=>some (i*s,s)) z.l parts
   | none=>none
  | _=>none
 | none=>none
theorem built_rel {t:TypeId} {parts:List (Nat×A1)} {l:List AC} (h:buildA P t parts=some l) {vs:List (Nat×Value)} (hp:PR ρ parts vs):∃ cells,P.built t vs=some cells∧R2 ρ l cells.toList:=by
 unfold buildA at h
 split at h
 ·rename_i z hz
  unfold zeroT at hz
  split at hz
  ·rename_i it hit
   split at hz
   ·rename_i zv hzv
    have hzr:=(ofV_rel ρ hz).cells
    split at h
    ·rename_i fs hu
     split at h
     ·rename_i pl hpl
      obtain ⟨cs,k1,k2⟩:=fill_rel h hzr hp
      refine ⟨cs,?_,k2⟩
      unfold Program.built
      rw [hit,hu]
      simp only [hzv,placesT_eq hpl]
      simpa using k1
     ·cases h
    ·rename_i n e hu
     split at h
     ·rename_i s hsz
      unfold sizeT at hsz
      split at hsz
      ·rename_i ie hie
       cases hsz
       obtain ⟨cs,k1,k2⟩:=fill_rel h hzr hp
       refine ⟨cs,?_,k2⟩
       unfold Program.built
       rw [hit,hu]
       simp only [hzv,hie]
       exact k1
      ·cases hsz
     ·cases h
    ·cases h
   ·cases hz
  ·cases hz
 ·cases h
theorem pure_build {t:TypeId} {ps:Array (Nat×Operand)} {parts:List (Nat×A1)} {l:List AC} (ho:o.op=.build t ps) (hT:TR ρ T a) (hp:ops1 T ps.toList=some parts) (h:buildA P t parts=some l) :
  ∃ v,(AV.one ⟨true,l⟩).rel ρ v∧∀ w,(execOp a.eval o).run P w=.ok (.value v) w:=by
 obtain ⟨cells,h1,h2⟩:=built_rel h (ops1_rel hT hp)
 refine ⟨.agg cells,⟨cells,rfl,h2⟩,fun w=>?_⟩
 have h3:=run_build w t (ps.map fun (i,x)=>(i,a.eval x)) cells (by simpa using h1)
 simp only [execOp,ho,Sem.run_bind,h3,Result.andThen_ok]
 rfl
def zerosA (z:List AC) (n:Nat):List AC:=(List.range n).map fun i=>z.getD (i % z.length) .nilp
def buildSA (P:Program) (e:TypeId) (len:Nat) (parts:List (Nat×A1)):Option (List AC):=match sizeT P e,zeroT P e with
 | some s,some z=>match Nat.ble 1 s&&Nat.ble 1 len&&Nat.ble (len*s) 1000000&&Nat.beq z.l.length s with
  | true=>fillA (fun i=>some (i*s,s)) (zerosA z.l (len*s)) parts
  | false=>none
 | _,_=>none
theorem zeros_rel {z:List AC} {zs:Array Value} (h:R2 ρ z zs.toList) (hz:0<z.length) (n:Nat):R2 ρ (zerosA z n) ((Array.range n).map (zs[· % zs.size]!)).toList:=by
 have hl:zs.size=z.length:=by rw [← Array.length_toList,h.length]
 refine R2.of_at (by simp [zerosA]) fun i x hx=>?_
 have hi:i<n:=by have:=(List.getElem?_eq_some_iff.1 hx).1;simpa [zerosA] using this
 have hm:i % z.length<z.length:=Nat.mod_lt _ hz
 simp only [zerosA,List.getElem?_map,List.getElem?_range hi,Option.map_some,Option.some.injEq] at hx
 have hg:z[i % z.length]?=some x:=by
  rw [List.getD_eq_getElem?_getD,List.getElem?_eq_getElem hm] at hx
  rw [List.getElem?_eq_getElem hm]
  simpa using hx
 obtain ⟨v,k1,k2⟩:=h.get _ _ hg
 refine ⟨v,?_,k2⟩
 rw [Array.getElem?_toList,Array.getElem?_map,Array.getElem?_range,if_pos hi,Option.map_some,hl]
 rw [getElem!_def,k1]
theorem res_buildSlice {t e:TypeId} {len:Nat} {ps:Array (Nat×Operand)} {parts:List (Nat×A1)} {l:List AC} {nm:Nat} (ho:o.op=.buildSlice t len ps) (hs:HR w0 ρ σ w) (hT:TR ρ T a) (hu:P.underlying t=some (.slice e)) (hp:ops1 T ps.toList=some parts)
  (h:buildSA P e len parts=some l) (hr:look σ nm=none):Res P w0 ρ o a w (some (.one ⟨false,[.sl nm 0 len (some len)]⟩)) ((nm,⟨e,l,none⟩) :: σ):=by
 unfold buildSA at h
 split at h
 ·rename_i s z hsz hz
  split at h
  ·rename_i hb
   simp only [Bool.and_eq_true] at hb
   obtain ⟨⟨⟨b1,b2⟩,b3⟩,b4⟩:=hb
   have b1:=Nat.le_of_ble_eq_true b1
   have b2:=Nat.le_of_ble_eq_true b2
   have b3:=Nat.le_of_ble_eq_true b3
   have b4:=Nat.eq_of_beq_eq_true b4
   obtain ⟨zv,z1,z2⟩:=run_zeroT hz ρ
   obtain ⟨cs,k1,k2⟩:=fill_rel h (zeros_rel z1.cells (by omega) (len*s)) (ops1_rel hT hp)
   refine res_new (cs:=cs) (v:=.slice (some ⟨w.heap.size,0,none⟩) len len) hs hr k2 ?_ fun ρ' h=>⟨_,rfl,_,_,h,rfl⟩
   have hne:¬len*s=0:=by
    intro e
    rcases Nat.mul_eq_zero.1 e with e | e <;> omega
   have hle:¬len*s > 2 ^ 24:=by omega
   simp only [execOp,ho,Instr.buildSlice,Sem.run_bind,run_und hu,run_sizeT hsz,Result.andThen_ok]
   rw [if_neg hle,if_neg hne]
   simp only [Sem.run_bind,Sem.run_pure,z2,Result.andThen_ok]
   rw [show (ps.map fun x=>(x.1,a.eval x.2)).toList=ps.toList.map fun (i,x)=>(i,a.eval x) by simp]
   rw [k1]
   simp [newRow]
  ·cases h
 ·cases h
end
end Go.Ev
namespace Go.Ev
open Go Go.RowKit
section
variable {P:Program} {w0 w:World} {ρ:Ren} {σ σ':Hp} {T:Tm} {a:Act} {o:Oper}
theorem cell_at {cur:Array Value} {t:TypeId} {k i:Nat} (h:w.heap[k]?=some (.cells cur t (0,0))):w.cell? ⟨k,i,none⟩=cur[i]?:=by simp [World.cell?,h]
theorem add_at (k i j:Nat):(⟨k,i,none⟩:Addr).add j=⟨k,i+j,none⟩:=by
 unfold Addr.add
 split
 ·rename_i h;subst h;rfl
 ·rfl
def loadA (P:Program) (σ:Hp) (t:TypeId) (b off:Nat):Option A1:=match look σ b with
 | some ob=>match aggT P t with
  | some true=>match sizeT P t with
   | some n=>match Nat.beq ((ob.c.drop off).take n).length n with
    | true=>some ⟨true,(ob.c.drop off).take n⟩
    | false=>none
   | none=>none
  | some false=>match ob.c[off]? with
   | some x=>some ⟨false,[x]⟩
   | none=>none
  | none=>none
 | none=>none
theorem loadA_run {t:TypeId} {b off k cp:Nat} {x:A1} (hs:HR w0 ρ σ w) (h:loadA P σ t b off=some x) (hk:ρ b=some (k,cp)):∃ v,x.rel ρ v∧(loadVar t ⟨k,off,none⟩).run P w=.ok v w:=by
 unfold loadA at h
 split at h
 ·rename_i ob hob
  obtain ⟨k',cp',e',-,cur,hcur,hc,hz⟩:=hs.obj b ob hob
  rw [hk] at e'
  cases e'
  split at h
  ·rename_i hag
   split at h
   ·rename_i n hn
    split at h
    ·rename_i hb
     have hb:=Nat.eq_of_beq_eq_true hb
     cases h
     have hcs:R2 ρ ((ob.c.drop off).take n) ((cur.toList.drop off).take n):=by
      refine R2.of_at ?_ fun i y hy=>?_
      ·rw [hb]
       rcases Nat.eq_zero_or_pos n with h0 | h0
       ·subst h0;rfl
       ·have hl:off+(n - 1)<ob.c.length:=by simp at hb;omega
        obtain ⟨v,k1,-⟩:=hc _ _ (List.getElem?_eq_getElem hl)
        have:=(Array.getElem?_eq_some_iff.1 k1).1
        simp
        omega
      ·have hi:i<n:=by
        have:=(List.getElem?_eq_some_iff.1 hy).1
        rw [hb] at this
        exact this
       rw [List.getElem?_take,if_pos hi,List.getElem?_drop] at hy
       obtain ⟨v,k1,k2⟩:=hc _ _ hy
       exact ⟨v,by rw [List.getElem?_take,if_pos hi,List.getElem?_drop,Array.getElem?_toList];exact k1,k2⟩
     refine ⟨.agg ((cur.toList.drop off).take n).toArray,⟨_,rfl,hcs⟩,?_⟩
     have hlen:((cur.toList.drop off).take n).length=n:=by rw [hcs.length,hb]
     have hl:=run_loadCells_list (P:=P) w ⟨k,off,none⟩ ((cur.toList.drop off).take n) fun j v hj=>by
      rw [add_at,cell_at hcur,← Array.getElem?_toList]
      have hi:j<n:=by
       have:=(List.getElem?_eq_some_iff.1 hj).1
       rw [hlen] at this
       exact this
      rwa [List.getElem?_take,if_pos hi,List.getElem?_drop] at hj
     rw [hlen] at hl
     simp [loadVar,run_aggT hag,run_sizeT hn,hl]
    ·cases h
   ·cases h
  ·rename_i hag
   split at h
   ·rename_i y hy
    cases h
    obtain ⟨v,k1,k2⟩:=hc _ _ hy
    refine ⟨v,⟨_,rfl,k2⟩,?_⟩
    simp only [loadVar,Sem.run_bind,run_aggT hag,Result.andThen_ok,Bool.false_eq_true,if_false,run_load,cell_at hcur,k1]
   ·cases h
  ·cases h
 ·cases h
theorem res_load {t:TypeId} {x:Operand} {b off:Nat} {y:A1} (ho:o.op=.load t x) (hs:HR w0 ρ σ w) (hT:TR ρ T a) (hx:opc T x=some (.ptr b off)) (h:loadA P σ t b off=some y):Res P w0 ρ o a w (some (.one y)) σ:=by
 obtain ⟨k,cp,hk,hv⟩:=opc_rel hT hx
 obtain ⟨v,h1,h2⟩:=loadA_run hs h hk
 refine res_still hs ?_ h1
 simp [execOp,ho,Instr.loadAt,Instr.sureAddr,hv,h2]
theorem res_store {t:TypeId} {x u:Operand} {b off:Nat} {y:A1} {ob:AO} (ho:o.op=.store t x u) (hs:HR w0 ρ σ w) (hT:TR ρ T a) (hx:opc T x=some (.ptr b off)) (hy:op1 T u=some y) (hob:look σ b=some ob)
  (hn:sizeT P t=some y.l.length) (hle:off+y.l.length≤ob.c.length):Res P w0 ρ o a w none ((b,⟨ob.t,over ob.c off y.l,ob.s⟩) :: σ):=by
 obtain ⟨k,cp,hk,hv⟩:=opc_rel hT hx
 have hyr:=(op1_rel hT hy).cells
 obtain ⟨k',cp',e',-,cur,hcur,hc,hz⟩:=hs.obj b ob hob
 rw [hk] at e'
 cases e'
 have hvl:(a.eval u).cells.size=y.l.length:=by rw [← Array.length_toList,hyr.length]
 have hcl:ob.c.length≤cur.size:=by
  rcases Nat.eq_zero_or_pos ob.c.length with h0 | h0
  ·omega
  ·obtain ⟨v,k1,-⟩:=hc (ob.c.length - 1) _ (List.getElem?_eq_getElem (by omega))
   have:=(Array.getElem?_eq_some_iff.1 k1).1
   omega
 have hst:=run_storeCells_at (P:=P) k off ob.t (a.eval u).cells.toList 0 cur w hcur (by simp;omega) hyr.ones
 refine ⟨.skip,_,ρ,?_,Ext.refl _,hs.row hk hob (l:=over ob.c off y.l) (cur':=(cur.toList.take (off+0)++(a.eval u).cells.toList++cur.toList.drop (off+0+(a.eval u).cells.toList.length)).toArray) (fun i z hz=>?_) ?_,rfl⟩
 ·have e:((a.eval u).cells.size≠y.l.length)=False:=by simp [hvl]
  simp only [execOp,ho,Instr.storeAt,Instr.sureAddr,hv,storeVar,Sem.run_bind,Sem.run_pure,Result.andThen_ok,run_sizeT hn,e,if_false,hst]
 ·rw [over_at] at hz
  have hvl':(a.eval u).cells.toList.length=y.l.length:=by rw [Array.length_toList,hvl]
  have htk:(cur.toList.take off).length=off:=by simp;omega
  rw [List.getElem?_toArray,Nat.add_zero,hvl']
  split at hz
  ·rename_i hi
   obtain ⟨v,k1,k2⟩:=hyr.at_ hz
   refine ⟨v,?_,k2⟩
   rw [List.append_assoc,List.getElem?_append_right (by rw [htk];exact hi.1),htk,List.getElem?_append_left (by rw [hvl'];omega)]
   exact k1
  ·rename_i hi
   obtain ⟨v,k1,k2⟩:=hc _ _ hz
   have hzi:=(List.getElem?_eq_some_iff.1 hz).1
   refine ⟨v,?_,k2⟩
   rw [← Array.getElem?_toList] at k1
   by_cases h1:i<off
   ·rw [List.append_assoc,List.getElem?_append_left (by rw [htk];exact h1),List.getElem?_take,if_pos h1]
    exact k1
   ·rw [List.getElem?_append_right (by simp;omega),List.length_append,htk,hvl',List.getElem?_drop,show off+y.l.length+(i - (off+y.l.length))=i by omega]
    exact k1
 ·have hsz:(cur.toList.take (off+0)++(a.eval u).cells.toList++cur.toList.drop (off+0+(a.eval u).cells.toList.length)).toArray.size=cur.size:=by simp;omega
  rw [hsz,over_length]
  exact hz
def intOf (x:Option AC):Option Nat:=match x with
 | some (.int _ (.ofNat n))=>some n
 | _=>none
def indexAddrA (P:Program) (t:TypeId) (x:Option AC) (i:Option AC):Option (Nat×Nat):=match intOf i with
 | some n=>match P.underlying t,x with
  | some (.slice e),some (.sl b off l _)=>match sizeT P e,Nat.blt n l with
   | some s,true=>some (b,off+n*s)
   | _,_=>none
  | some (.array l e),some (.ptr b off)=>match sizeT P e,Nat.blt n l with
   | some s,true=>some (b,off+n*s)
   | _,_=>none
  | _,_=>none
 | none=>none
theorem intOf_rel {x:Option AC} {n:Nat} (h:intOf x=some n) {v:Value} (hr:∀ y,x=some y→y.rel ρ v):∃ k,v=.int k (n:Int):=by
 unfold intOf at h
 split at h
 ·cases h;exact ⟨_,hr _ rfl⟩
 ·cases h
theorem pure_indexAddr {t:TypeId} {x i:Operand} {b off:Nat} (ho:o.op=.indexAddr t x i) (hT:TR ρ T a) (h:indexAddrA P t (opc T x) (opc T i)=some (b,off)):∃ v,(ptrV b off).rel ρ v∧∀ w,(execOp a.eval o).run P w=.ok (.value v) w:=by
 unfold indexAddrA at h
 split at h
 ·rename_i n hn
  obtain ⟨kd,hi⟩:=intOf_rel (ρ:=ρ) hn fun y hy=>opc_rel hT hy
  split at h
  ·rename_i e b' off' l c hu hx
   obtain ⟨k,cp,hk,hv⟩:=opc_rel hT hx
   split at h
   ·rename_i s hsz hlt
    cases h
    have hlt:n<l:=Nat.le_of_ble_eq_true hlt
    refine ⟨.pointer (some ⟨k,off'+n*s,none⟩),ptr_rel hk,fun w=>?_⟩
    have h1:(0:Int)≤(n:Int)∧(n:Int)<(l:Int):=by omega
    simp only [execOp,ho,Instr.indexAt,hi,hv,asIntOf,Sem.run_bind,Sem.run_pure,Result.andThen_ok,run_und hu,h1,and_self,if_true,run_sizeT hsz,add_at,Int.toNat_natCast]
   ·cases h
  ·rename_i l e b' off' hu hx
   obtain ⟨k,cp,hk,hv⟩:=opc_rel hT hx
   split at h
   ·rename_i s hsz hlt
    cases h
    have hlt:n<l:=Nat.le_of_ble_eq_true hlt
    refine ⟨.pointer (some ⟨k,off'+n*s,none⟩),ptr_rel hk,fun w=>?_⟩
    have h1:(0:Int)≤(n:Int)∧(n:Int)<(l:Int):=by omega
    simp only [execOp,ho,Instr.indexAt,Instr.sureAddr,hi,hv,asIntOf,Sem.run_bind,Sem.run_pure,Result.andThen_ok,run_und hu,h1,and_self,if_true,run_sizeT hsz,add_at,Int.toNat_natCast]
   ·cases h
  ·cases h
 ·cases h
def fieldA (P:Program) (t:TypeId) (f:Nat):Option Field:=match P.underlying t with
 | some (.struct fs)=>fs[f]?
 | _=>none
theorem fieldA_und {t:TypeId} {f:Nat} {fd:Field} (h:fieldA P t f=some fd):∃ fs,P.underlying t=some (.struct fs)∧fs[f]?=some fd:=by
 unfold fieldA at h
 split at h
 ·exact ⟨_,by assumption,h⟩
 ·cases h
theorem pure_fieldAddr {t:TypeId} {x:Operand} {f:Nat} {b off n:Nat} {fd:Field} (ho:o.op=.fieldAddr t x f) (hT:TR ρ T a) (hf:fieldA P t f=some fd) (hx:opc T x=some (.ptr b off)) (hn:sizeT P fd.type=some (n+1)) :
  ∃ v,(ptrV b (off+fd.offset)).rel ρ v∧∀ w,(execOp a.eval o).run P w=.ok (.value v) w:=by
 obtain ⟨fs,hu,hfd⟩:=fieldA_und hf
 obtain ⟨k,cp,hk,hv⟩:=opc_rel hT hx
 refine ⟨.pointer (some ⟨k,off+fd.offset,none⟩),ptr_rel hk,fun w=>?_⟩
 simp [execOp,ho,Instr.fieldAt,hu,run_und hu,hfd,Instr.sureAddr,hv,fieldPlace,run_sizeT hn,add_at]
def partA (P:Program) (t:TypeId) (l:List AC) (off:Nat):Option A1:=match aggT P t with
 | some true=>match sizeT P t with
  | some n=>match Nat.beq ((l.drop off).take n).length n with
   | true=>some ⟨true,(l.drop off).take n⟩
   | false=>none
  | none=>none
 | some false=>match l[off]? with
  | some x=>some ⟨false,[x]⟩
  | none=>none
 | none=>none
theorem partA_run {t:TypeId} {l:List AC} {off:Nat} {x:A1} (h:partA P t l off=some x) {cs:Array Value} (hr:R2 ρ l cs.toList):∃ v,x.rel ρ v∧∀ w,(part t cs off).run P w=.ok v w:=by
 unfold partA at h
 split at h
 ·rename_i hag
  split at h
  ·rename_i n hn
   split at h
   ·rename_i hb
    have hb:=Nat.eq_of_beq_eq_true hb
    cases h
    refine ⟨.agg (cs.extract off (off+n)),⟨_,rfl,?_⟩,fun w=>by simp [part,run_aggT hag,run_sizeT hn]⟩
    have hl:cs.size=l.length:=by rw [← Array.length_toList,hr.length]
    refine R2.of_at ?_ fun i y hy=>?_
    ·rw [hb]
     simp at hb ⊢
     omega
    ·have hi:i<n:=by
      have:=(List.getElem?_eq_some_iff.1 hy).1
      rw [hb] at this
      exact this
     rw [List.getElem?_take,if_pos hi,List.getElem?_drop] at hy
     obtain ⟨v,k1,k2⟩:=hr.get _ _ hy
     refine ⟨v,?_,k2⟩
     rw [Array.getElem?_toList,Array.getElem?_extract]
     have:=(Array.getElem?_eq_some_iff.1 k1).1
     rw [if_pos (by omega)]
     exact k1
   ·cases h
  ·cases h
 ·rename_i hag
  split at h
  ·rename_i y hy
   cases h
   obtain ⟨v,k1,k2⟩:=hr.get _ _ hy
   exact ⟨v,⟨_,rfl,k2⟩,fun w=>by simp [part,run_aggT hag,k1]⟩
  ·cases h
 ·cases h
theorem res_field {t:TypeId} {x:Operand} {f:Nat} {l:List AC} {fd:Field} {y:A1} (ho:o.op=.field t x f) (hs:HR w0 ρ σ w) (hT:TR ρ T a) (hf:fieldA P t f=some fd) (hx:op1 T x=some ⟨true,l⟩) (h:partA P fd.type l fd.offset=some y):Res P w0 ρ o a w (some (.one y)) σ:=by
 obtain ⟨fs,hu,hfd⟩:=fieldA_und hf
 obtain ⟨cs,hv,hr⟩:=op1_rel hT hx
 obtain ⟨v,h1,h2⟩:=partA_run h hr
 refine res_still hs ?_ h1
 simp [execOp,ho,Instr.field,run_und hu,hfd,asAgg,hv,h2]
def indexA (P:Program) (t:TypeId) (x:Option A1) (i:Option AC):Option A1:=match intOf i,P.underlying t,x with
 | some n,some (.array len e),some ⟨true,l⟩=>match sizeT P e,Nat.blt n len with
  | some s,true=>partA P e l (n*s)
  | _,_=>none
 | _,_,_=>none
theorem res_index {t:TypeId} {x i:Operand} {y:A1} (ho:o.op=.index t x i) (hs:HR w0 ρ σ w) (hT:TR ρ T a) (h:indexA P t (op1 T x) (opc T i)=some y):Res P w0 ρ o a w (some (.one y)) σ:=by
 unfold indexA at h
 split at h
 ·rename_i n len e l hn hu hx
  obtain ⟨kd,hi⟩:=intOf_rel (ρ:=ρ) hn fun y hy=>opc_rel hT hy
  obtain ⟨cs,hv,hr⟩:=op1_rel hT hx
  split at h
  ·rename_i s hsz hlt
   have hlt:n<len:=Nat.le_of_ble_eq_true hlt
   obtain ⟨v,h1,h2⟩:=partA_run h hr
   refine res_still hs ?_ h1
   have h3:(0:Int)≤(n:Int)∧(n:Int)<(len:Int):=by omega
   simp only [execOp,ho,Instr.index,hi,hv,asIntOf,Sem.run_bind,Sem.run_pure,Result.andThen_ok,run_und hu,h3,and_self,if_true,run_sizeT hsz,Int.toNat_natCast,h2]
  ·cases h
 ·cases h
theorem R1.get:∀ {l:List A1} {vs:List Value},R1 ρ l vs→∀ {i:Nat} {x:A1},l[i]?=some x→∃ v,vs[i]?=some v∧x.rel ρ v
 | [],_,_,i,x,e=>by simp at e
 | y :: t,_,⟨v,u,h1,h2,h3⟩,0,x,e=>by simp at e;subst e;subst h1;exact ⟨v,rfl,h2⟩
 | y :: t,_,⟨v,u,h1,h2,h3⟩,i+1,x,e=>by subst h1;simpa using R1.get h3 (by simpa using e)
theorem res_extract {x:Operand} {i:Nat} {l:List A1} {y:A1} (ho:o.op=.extract x i) (hs:HR w0 ρ σ w) (hT:TR ρ T a) (hx:opnd T x=some (.tup l)) (h:l[i]?=some y):Res P w0 ρ o a w (some (.one y)) σ:=by
 obtain ⟨vs,hv,hr⟩:=opnd_rel hT hx
 obtain ⟨v,h1,h2⟩:=hr.get h
 refine res_still hs ?_ h2
 rw [Array.getElem?_toList] at h1
 simp [execOp,ho,Instr.extract,hv,h1]
end
end Go.Ev
namespace Go.Ev
open Go Go.RowKit
section
variable {P:Program} {w0 w:World} {ρ:Ren} {σ σ':Hp} {T:Tm} {a:Act} {o:Oper}
theorem res_len {x:Operand} {ts:Array TypeId} {t e:TypeId} {b off l:Nat} {c:Option Nat} (ho:o.op=.call {callee:=.builtin .len,args:=#[x],argTypes:=ts}) (hs:HR w0 ρ σ w) (hT:TR ρ T a) (ht:ts[0]?=some t) (hu:P.underlying t=some (.slice e)) (hx:opc T x=some (.sl b off l c)) :
  Res P w0 ρ o a w (some (.one ⟨false,[.int .i64 l]⟩)) σ:=by
 obtain ⟨k,cp,-,hv⟩:=opc_rel hT hx
 refine res_still (v:=.int .i64 l) hs ?_ ⟨_,rfl,rfl⟩
 simp [execOp,ho,resolve,invoke,builtin,Builtin.len_,ht,run_und hu,hv,goInt]
theorem res_len_nil {x:Operand} {ts:Array TypeId} {t e:TypeId} (ho:o.op=.call {callee:=.builtin .len,args:=#[x],argTypes:=ts}) (hs:HR w0 ρ σ w) (hT:TR ρ T a) (ht:ts[0]?=some t) (hu:P.underlying t=some (.slice e)) (hx:opc T x=some .nils) :
  Res P w0 ρ o a w (some (.one ⟨false,[.int .i64 0]⟩)) σ:=by
 have hv:a.eval x=.slice none 0 0:=opc_rel hT hx
 refine res_still (v:=.int .i64 0) hs ?_ ⟨_,rfl,rfl⟩
 simp [execOp,ho,resolve,invoke,builtin,Builtin.len_,ht,run_und hu,hv,goInt]
def cellsAt (σ:Hp) (b off n:Nat):Option (List AC):=match look σ b with
 | some ob=>match Nat.beq ((ob.c.drop off).take n).length n with
  | true=>some ((ob.c.drop off).take n)
  | false=>none
 | none=>none
theorem cellsAt_rel {b off n k cp:Nat} {l:List AC} (hs:HR w0 ρ σ w) (h:cellsAt σ b off n=some l) (hk:ρ b=some (k,cp)):∃ vs,vs.length=n∧R2 ρ l vs∧∀ j v,vs[j]?=some v→w.cell? ((⟨k,off,none⟩:Addr).add j)=some v:=by
 unfold cellsAt at h
 split at h
 ·rename_i ob hob
  obtain ⟨k',cp',e',-,cur,hcur,hc,hz⟩:=hs.obj b ob hob
  rw [hk] at e'
  cases e'
  split at h
  ·rename_i hb
   have hb:=Nat.eq_of_beq_eq_true hb
   cases h
   have hcs:R2 ρ ((ob.c.drop off).take n) ((cur.toList.drop off).take n):=by
    refine R2.of_at ?_ fun i y hy=>?_
    ·rw [hb]
     rcases Nat.eq_zero_or_pos n with h0 | h0
     ·subst h0;rfl
     ·have hl:off+(n - 1)<ob.c.length:=by simp at hb;omega
      obtain ⟨v,k1,-⟩:=hc _ _ (List.getElem?_eq_getElem hl)
      have:=(Array.getElem?_eq_some_iff.1 k1).1
      simp
      omega
    ·have hi:i<n:=by
      have:=(List.getElem?_eq_some_iff.1 hy).1
      rw [hb] at this
      exact this
     rw [List.getElem?_take,if_pos hi,List.getElem?_drop] at hy
     obtain ⟨v,k1,k2⟩:=hc _ _ hy
     exact ⟨v,by rw [List.getElem?_take,if_pos hi,List.getElem?_drop,Array.getElem?_toList];exact k1,k2⟩
   refine ⟨_,by rw [hcs.length,hb],hcs,fun j v hj=>?_⟩
   rw [add_at,cell_at hcur,← Array.getElem?_toList]
   have hi:j<n:=by
    have:=(List.getElem?_eq_some_iff.1 hj).1
    rw [hcs.length,hb] at this
    exact this
   rwa [List.getElem?_take,if_pos hi,List.getElem?_drop] at hj
  ·cases h
 ·cases h
def bytesT (P:Program) (t:TypeId):Option Nat:=match P.info? t with
 | some i=>some i.bytes
 | none=>none
def appendA (P:Program) (σ:Hp) (e:TypeId) (s:Option AC) (x:Option AC):Option (Nat×List AC):=match sizeT P e,bytesT P e,zeroT P e,x with
 | some sz,some by_,some z,some (.sl b2 off2 (n+1) _)=>match cellsAt σ b2 off2 ((n+1)*sz) with
  | some news=>match s with
   | some .nils=>match Nat.ble ((n+1)*by_) 100000000&&Nat.ble n 1000000&&Nat.beq z.l.length sz with
    | true=>some (n+1,news)
    | false=>none
   | some (.sl b off l (some c))=>match Nat.ble c l&&Nat.ble ((l+(n+1))*by_) 100000000&&Nat.ble (l+n) 1000000&&Nat.beq z.l.length sz,cellsAt σ b off (l*sz) with
    | true,some olds=>some (l+(n+1),olds++news)
    | _,_=>none
   | _=>none
  | none=>none
 | _,_,_,_=>none
theorem zero_info {t:TypeId} {z:A1} (h:zeroT P t=some z):∃ i zv,P.info? t=some i∧i.zero=some zv:=by
 unfold zeroT at h
 split at h
 ·split at h
  ·exact ⟨_,_,by assumption,by assumption⟩
  ·cases h
 ·cases h
theorem app_get {l:List AC} {cs:Array Value} {zs:Array Value} (h:R2 ρ l cs.toList) (i:Nat) (x:AC) (hx:l[i]?=some x):∃ v,(cs++zs)[i]?=some v∧x.rel ρ v:=by
 obtain ⟨v,h1,h2⟩:=h.get i x hx
 refine ⟨v,?_,h2⟩
 rw [Array.getElem?_append_left (Array.getElem?_eq_some_iff.1 h1).1]
 exact h1
theorem grown_size (w:World) (e:TypeId) (need old:Nat) (ie:TypeInfo) (zv:Value) {z:A1} {sz:Nat} (hz:zeroT P e=some z) (hie:P.info? e=some ie) (hzv:ie.zero=some zv) (hzl:z.l.length=sz) {xs:Array Value} (hx:xs.size=need*sz) (hn:need≤100000000) :
  (xs++Builtin.zeroCells zv.cells (grownCap w need old e - need)).size=grownCap w need old e*sz∧grownCap w need old e≤maxLen:=by
 have hzs:zv.cells.size=sz:=by
  unfold zeroT at hz
  rw [hie] at hz
  simp only [hzv] at hz
  rw [← hzl,← Array.length_toList]
  exact (ofV_rel (fun _=>none) hz).cells.length
 have hc:need≤grownCap w need old e∧grownCap w need old e≤maxLen:=by
  unfold grownCap Question.cut maxLen
  have h:=Nat.mod_lt (w.tape w.drawn (.appendCap need old e)) (show 0<2 ^ 63 - need by omega)
  simp only
  omega
 refine ⟨?_,hc.2⟩
 rw [Array.size_append,hx,Builtin.zeroCells,Array.size_map,Array.size_range,hzs,← Nat.add_mul]
 congr 1
 omega
theorem run_appendA {e t ty:TypeId} {s x:Option AC} {m:Nat} {l:List AC} (hs:HR w0 ρ σ w) (h:appendA P σ e s x=some (m,l)) (hu:P.underlying t=some (.slice e)) {u v:Value} (hsu:∀ y,s=some y→y.rel ρ u) (hxv:∀ y,x=some y→y.rel ρ v) :
  ∃ cap cs,(∀ (i:Nat) (x:AC),l[i]?=some x→∃ v,cs[i]?=some v∧x.rel ρ v)∧(∃ sz,sizeT P e=some sz∧cs.size=cap*sz∧cap≤maxLen)∧(Builtin.append_ #[t,t] ty #[u,v]).run P w=.ok (.slice (some ⟨w.heap.size,0,none⟩) m cap) (w.drew.alloc (.cells cs e)):=by
 unfold appendA at h
 split at h
 ·rename_i sz by_ z b2 off2 n c2 hsz hby hz
  obtain ⟨ie,zv,hie,hzv⟩:=zero_info hz
  have e1:sz=ie.size:=by unfold sizeT at hsz;rw [hie] at hsz;cases hsz;rfl
  have e2:by_=ie.bytes:=by unfold bytesT at hby;rw [hie] at hby;cases hby;rfl
  subst e1;subst e2
  obtain ⟨k2,cp2,hk2,rfl⟩:=hxv _ rfl
  split at h
  ·rename_i news hnews
   obtain ⟨vs,v1,v2,v3⟩:=cellsAt_rel hs hnews hk2
   split at h
   ·split at h
    ·rename_i hb
     cases h
     simp only [Bool.and_eq_true] at hb
     have b1:=Nat.le_of_ble_eq_true hb.1.1
     have b2:=Nat.le_of_ble_eq_true hb.1.2
     have b4:=Nat.eq_of_beq_eq_true hb.2
     have hu0:u=.slice none 0 0:=hsu _ rfl
     subst hu0
     refine ⟨_,_,fun i x hx=>app_get (cs:=vs.toArray) v2 i x hx,⟨_,hsz,?_⟩,run_append_nil w t ty e ie zv hu hie hzv ⟨k2,off2,none⟩ (n+1) _ vs v1 v3 (by omega) (by omega) (by omega)⟩
     exact grown_size w e (n+1) 0 ie zv hz hie hzv b4 (by simpa using v1) (by omega)
    ·cases h
   ·rename_i b off l' c
    split at h
    ·rename_i olds hb holds
     cases h
     simp only [Bool.and_eq_true] at hb
     have b1:=Nat.le_of_ble_eq_true hb.1.1.1
     have b2:=Nat.le_of_ble_eq_true hb.1.1.2
     have b3:=Nat.le_of_ble_eq_true hb.1.2
     have b4:=Nat.eq_of_beq_eq_true hb.2
     obtain ⟨k,cp,hk,rfl⟩:=hsu _ rfl
     obtain ⟨us,u1,u2,u3⟩:=cellsAt_rel hs holds hk
     refine ⟨_,_,fun i x hx=>app_get (cs:=us.toArray++vs.toArray) (by simpa using u2.append v2) i x hx,⟨_,hsz,?_⟩,run_append_grow w t ty e ie zv hu hie hzv ⟨k,off,none⟩ l' c us u1 u3 ⟨k2,off2,none⟩ (n+1) _ vs v1 v3 (by omega) (by omega) ?_⟩
     ·exact grown_size w e (l'+(n+1)) c ie zv hz hie hzv b4 (by simp [u1,v1,Nat.add_mul]) (by omega)
     have:=growslice_fits (need:=l'+(n+1)) (old:=c) (bytes:=ie.bytes) (by omega) (by omega)
     exact this
    ·cases h
   ·cases h
  ·cases h
 ·cases h
theorem res_append {s x:Operand} {t e:TypeId} {m nm:Nat} {l:List AC} (ho:o.op=.call {callee:=.builtin .append,args:=#[s,x],argTypes:=#[t,t]}) (hs:HR w0 ρ σ w) (hT:TR ρ T a) (hu:P.underlying t=some (.slice e)) (h:appendA P σ e (opc T s) (opc T x)=some (m,l)) (hr:look σ nm=none) :
  Res P w0 ρ o a w (some (.one ⟨false,[.sl nm 0 m none]⟩)) ((nm,⟨e,l,sizeT P e⟩) :: σ):=by
 obtain ⟨cap,cs,h1,⟨sz,z1,z2,z3⟩,h2⟩:=run_appendA (ty:=o.type) hs h hu (fun y hy=>opc_rel hT hy) (fun y hy=>opc_rel hT hy)
 obtain ⟨ρ',k1,k2,k3⟩:=row_new (ob:=⟨e,l,sizeT P e⟩) hs.drew hr cap h1 (by rw [z1];exact ⟨z2,z3⟩)
 refine ⟨_,_,ρ',?_,k1,k3,_,rfl,⟨_,rfl,_,cap,k2,rfl⟩⟩
 simp only [execOp,ho,resolve,invoke,builtin,List.map_toArray,List.map_cons,List.map_nil,Sem.run_bind,Sem.run_pure,Result.andThen_ok,h2]
 rfl
def nothing (x:Option AC):Bool:=match x with
 | some .nils=>true
 | some (.sl _ _ 0 _)=>true
 | _=>false
def full (s:Option AC):Option AC:=match s with
 | some .nils=>some .nils
 | some (.sl b o l (some c))=>match Nat.ble l c with
  | true=>some (.sl b o l (some c))
  | false=>none
 | _=>none
theorem res_append0 {s x:Operand} {t e:TypeId} {y:AC} (ho:o.op=.call {callee:=.builtin .append,args:=#[s,x],argTypes:=#[t,t]}) (hs:HR w0 ρ σ w) (hT:TR ρ T a) (hu:P.underlying t=some (.slice e)) {n:Nat} (hn:sizeT P e=some n) (hx:nothing (opc T x)=true) (h:full (opc T s)=some y) :
  Res P w0 ρ o a w (some (.one ⟨false,[y]⟩)) σ:=by
 have hxv:∃ A c,a.eval x=.slice A 0 c:=by
  unfold nothing at hx
  split at hx
  ·rename_i e;exact ⟨_,_,opc_rel hT e⟩
  ·rename_i e;obtain ⟨k,cp,-,hv⟩:=opc_rel hT e;exact ⟨_,_,hv⟩
  ·cases hx
 obtain ⟨A,c,hxv⟩:=hxv
 have hsv:∃ B l cp,a.eval s=.slice B l cp∧l≤cp∧y.rel ρ (a.eval s):=by
  unfold full at h
  split at h
  ·rename_i e;cases h;have hv:=opc_rel hT e;exact ⟨none,0,0,hv,Nat.le_refl _,hv⟩
  ·rename_i b o l c e
   split at h
   ·rename_i hb
    cases h
    have hv:=opc_rel hT e
    obtain ⟨k,cp,-,hv'⟩:=opc_rel hT e
    exact ⟨_,_,_,hv',Nat.le_of_ble_eq_true hb,hv⟩
   ·cases h
  ·cases h
 obtain ⟨B,l,cp,hsv,hle,hr⟩:=hsv
 refine res_still hs ?_ ⟨_,rfl,hr⟩
 rw [hsv]
 have hf:∀ w,(Builtin.firstCells n 0 (.slice A 0 c)).run P w=.ok #[] w:=fun w=>by cases A <;> simp [Builtin.firstCells,loadCells,loadCellsFrom]
 have hz:∀ (b:Addr) w,(storeCells b ([]:List Value)).run P w=.ok () w:=fun b w=>rfl
 cases B <;> simp [execOp,ho,resolve,invoke,builtin,Builtin.append_,run_und hu,run_sizeT hn,hsv,hxv,Builtin.lenOf,hle,hf,hz]
theorem res_buildSlice0 {t e:TypeId} {nm:Nat} (ho:o.op=.buildSlice t 0 #[]) (hs:HR w0 ρ σ w) (hu:P.underlying t=some (.slice e)) {n:Nat} (hn:sizeT P e=some n) (hr:look σ nm=none):Res P w0 ρ o a w (some (.one ⟨false,[.sl nm 0 0 (some 0)]⟩)) ((nm,⟨e,[],none⟩) :: σ):=by
 refine res_new (cs:=#[]) (v:=.slice (some ⟨w.heap.size,0,none⟩) 0 0) hs hr rfl ?_ fun ρ' h=>⟨_,rfl,_,_,h,rfl⟩
 simp [execOp,ho,Instr.buildSlice,run_und hu,run_sizeT hn,newRow,Instr.fill,Array.range_zero']
end
def evOp (P:Program) (T:Tm) (σ:Hp) (nm:Nat) (o:Oper):Option (Option AV×Hp):=match o.op with
 | .move x=>match opnd T x with
  | some v=>some (some v,[])
  | none=>none
 | .assign x=>match opnd T x with
  | some v=>some (some v,[])
  | none=>none
 | .pick c x y=>match opc T c with
  | some (.bool true)=>match opnd T x with
   | some v=>some (some v,[])
   | none=>none
  | some (.bool false)=>match opnd T y with
   | some v=>some (some v,[])
   | none=>none
  | _=>none
 | .alloc t=>match zeroT P t,look σ nm with
  | some z,none=>some (some (ptrV nm 0),[(nm,⟨t,z.l,none⟩)])
  | _,_=>none
 | .box t x=>match op1 T x,look σ nm with
  | some z,none=>some (some (ptrV nm 0),[(nm,⟨t,z.l,none⟩)])
  | _,_=>none
 | .build t ps=>match ops1 T ps.toList with
  | some parts=>match buildA P t parts with
   | some l=>some (some (.one ⟨true,l⟩),[])
   | none=>none
  | none=>none
 | .buildSlice t len ps=>match P.underlying t,look σ nm with
  | some (.slice e),none=>match len,ps.toList with
   | 0,[]=>match sizeT P e with
    | some _=>some (some (.one ⟨false,[.sl nm 0 0 (some 0)]⟩),[(nm,⟨e,[],none⟩)])
    | none=>none
   | len,l=>match ops1 T l with
    | some parts=>match buildSA P e len parts with
     | some c=>some (some (.one ⟨false,[.sl nm 0 len (some len)]⟩),[(nm,⟨e,c,none⟩)])
     | none=>none
    | none=>none
  | _,_=>none
 | .load t x=>match opc T x with
  | some (.ptr b off)=>match loadA P σ t b off with
   | some y=>some (some (.one y),[])
   | none=>none
  | _=>none
 | .store t x u=>match opc T x,op1 T u,sizeT P t with
  | some (.ptr b off),some y,some n=>match look σ b with
   | some ob=>match Nat.beq n y.l.length&&Nat.ble (off+y.l.length) ob.c.length with
    | true=>some (none,[(b,⟨ob.t,over ob.c off y.l,ob.s⟩)])
    | false=>none
   | none=>none
  | _,_,_=>none
 | .indexAddr t x i=>match indexAddrA P t (opc T x) (opc T i) with
  | some (b,off)=>some (some (ptrV b off),[])
  | none=>none
 | .fieldAddr t x f=>match fieldA P t f,opc T x with
  | some fd,some (.ptr b off)=>match sizeT P fd.type with
   | some (_+1)=>some (some (ptrV b (off+fd.offset)),[])
   | _=>none
  | _,_=>none
 | .field t x f=>match fieldA P t f,op1 T x with
  | some fd,some ⟨true,l⟩=>match partA P fd.type l fd.offset with
   | some y=>some (some (.one y),[])
   | none=>none
  | _,_=>none
 | .index t x i=>match indexA P t (op1 T x) (opc T i) with
  | some y=>some (some (.one y),[])
  | none=>match evPure P T o with
   | some v=>some (some v,[])
   | none=>none
 | .extract x i=>match opnd T x with
  | some (.tup l)=>match l[i]? with
   | some y=>some (some (.one y),[])
   | none=>none
  | _=>none
 | .call ⟨.builtin .len,args,ts⟩=>match args.toList,ts.toList with
  | [x],t :: _=>match P.underlying t with
   | some (.slice _)=>match opc T x with
    | some (.sl _ _ l _)=>some (some (.one ⟨false,[.int .i64 l]⟩),[])
    | some .nils=>some (some (.one ⟨false,[.int .i64 0]⟩),[])
    | _=>none
   | _=>match evPure P T o with
    | some v=>some (some v,[])
    | none=>none
  | _,_=>none
 | .call ⟨.builtin .append,args,ts⟩=>match args.toList,ts.toList with
  | [s,x],[t,t']=>match Nat.beq t t',P.underlying t,look σ nm with
   | true,some (.slice e),none=>match nothing (opc T x) with
    | true=>match full (opc T s),sizeT P e with
     | some y,some _=>some (some (.one ⟨false,[y]⟩),[])
     | _,_=>none
    | false=>match appendA P σ e (opc T s) (opc T x) with
     | some (m,l)=>some (some (.one ⟨false,[.sl nm 0 m none]⟩),[(nm,⟨e,l,sizeT P e⟩)])
     | none=>none
   | _,_,_=>none
  | _,_=>none
 | _=>match evPure P T o with
  | some v=>some (some v,[])
  | none=>none
end Go.Ev
namespace Go.Ev
open Go Go.RowKit
section
variable {P:Program} {w0 w:World} {ρ:Ren} {σ:Hp} {T:Tm} {a:Act} {o:Oper}
theorem res_pure {v:AV} (hs:HR w0 ρ σ w) (hT:TR ρ T a) (h:evPure P T o=some v):Res P w0 ρ o a w (some v) σ:=res_of hs (evPure_run hT h)
theorem pure_move {x:Operand} {v:AV} (ho:o.op=.move x∨o.op=.assign x) (hT:TR ρ T a) (h:opnd T x=some v):∃ u,v.rel ρ u∧∀ w,(execOp a.eval o).run P w=.ok (.value u) w:=
 ⟨_,opnd_rel hT h,fun w=>by rcases ho with ho | ho <;> simp [execOp,ho]⟩
theorem pure_pick {c x y:Operand} {b:Bool} {v:AV} (ho:o.op=.pick c x y) (hT:TR ρ T a) (hc:opc T c=some (.bool b)) (h:opnd T (if b then x else y)=some v):∃ u,v.rel ρ u∧∀ w,(execOp a.eval o).run P w=.ok (.value u) w:=by
 have hb:a.eval c=.bool b:=opc_rel hT hc
 refine ⟨_,opnd_rel hT h,fun w=>?_⟩
 cases b <;> simp [execOp,ho,hb,asBool]
def evP (P:Program) (T:Tm) (o:Oper):Option AV:=match o.op with
 | .move x=>opnd T x
 | .assign x=>opnd T x
 | .pick c x y=>match opc T c with
  | some (.bool true)=>opnd T x
  | some (.bool false)=>opnd T y
  | _=>none
 | .build t ps=>match ops1 T ps.toList with
  | some parts=>match buildA P t parts with
   | some l=>some (.one ⟨true,l⟩)
   | none=>none
  | none=>none
 | .indexAddr t x i=>match indexAddrA P t (opc T x) (opc T i) with
  | some (b,off)=>some (ptrV b off)
  | none=>none
 | .fieldAddr t x f=>match fieldA P t f,opc T x with
  | some fd,some (.ptr b off)=>match sizeT P fd.type with
   | some (_+1)=>some (ptrV b (off+fd.offset))
   | _=>none
  | _,_=>none
 | .alloc _=>none
 | .box _ _=>none
 | .load _ _=>none
 | .store _ _ _=>none
 | .buildSlice _ _ _=>none
 | .call _=>none
 | _=>evPure P T o
theorem evP_run {x:AV} (hT:TR ρ T a) (h:evP P T o=some x):∃ v,x.rel ρ v∧∀ w,(execOp a.eval o).run P w=.ok (.value v) w:=by
 unfold evP at h
 split at h
 ·rename_i y ho;exact pure_move (.inl ho) hT h
 ·rename_i y ho;exact pure_move (.inr ho) hT h
 ·rename_i c y z ho
  split at h
  ·rename_i hc;exact pure_pick ho hT hc h
  ·rename_i hc;exact pure_pick ho hT hc h
  ·cases h
 ·rename_i t ps ho
  split at h
  ·rename_i parts hp
   split at h
   ·rename_i l hl;cases h;exact pure_build ho hT hp hl
   ·cases h
  ·cases h
 ·rename_i t y i ho
  split at h
  ·rename_i b off e;cases h;exact pure_indexAddr ho hT e
  ·cases h
 ·rename_i t y f ho
  split at h
  ·rename_i fd b off hf hx
   split at h
   ·rename_i n hn;cases h;exact pure_fieldAddr ho hT hf hx hn
   ·cases h
  ·cases h
 ·cases h
 ·cases h
 ·cases h
 ·cases h
 ·cases h
 ·cases h
 ·exact evPure_run hT h
theorem evOp_res {nm:Nat} {x:Option AV} {δ:Hp} (hs:HR w0 ρ σ w) (hT:TR ρ T a) (h:evOp P T σ nm o=some (x,δ)):Res P w0 ρ o a w x (δ++σ):=by
 have pur:(match evPure P T o with | some v=>some (some v,[]) | none=>none)=some (x,δ)→Res P w0 ρ o a w x (δ++σ):=fun h=>by
  split at h
  ·rename_i v e;cases h;exact res_pure hs hT e
  ·cases h
 unfold evOp at h
 split at h
 ·rename_i y ho
  split at h
  ·rename_i v e;cases h;exact res_of hs (pure_move (.inl ho) hT e)
  ·cases h
 ·rename_i y ho
  split at h
  ·rename_i v e;cases h;exact res_of hs (pure_move (.inr ho) hT e)
  ·cases h
 ·rename_i c y z ho
  split at h
  ·rename_i hc
   split at h
   ·rename_i v e;cases h;exact res_of hs (pure_pick ho hT hc e)
   ·cases h
  ·rename_i hc
   split at h
   ·rename_i v e;cases h;exact res_of hs (pure_pick ho hT hc e)
   ·cases h
  ·cases h
 ·rename_i t ho
  split at h
  ·rename_i z hz hl;cases h;exact res_alloc ho hs hz hl
  ·cases h
 ·rename_i t y ho
  split at h
  ·rename_i z hz hl;cases h;exact res_box ho hs hT hz hl
  ·cases h
 ·rename_i t ps ho
  split at h
  ·rename_i parts hp
   split at h
   ·rename_i l hl;cases h;exact res_of hs (pure_build ho hT hp hl)
   ·cases h
  ·cases h
 ·rename_i t len ps ho
  split at h
  ·rename_i e hu hl
   split at h
   ·rename_i hps
    have hps:ps=#[]:=by
     cases ps
     simp only at hps
     subst hps
     rfl
    subst hps
    split at h
    ·rename_i n hn;cases h;exact res_buildSlice0 ho hs hu hn hl
    ·cases h
   ·split at h
    ·rename_i parts hp
     split at h
     ·rename_i c hc;cases h;exact res_buildSlice ho hs hT hu hp hc hl
     ·cases h
    ·cases h
  ·cases h
 ·rename_i t y ho
  split at h
  ·rename_i b off hx
   split at h
   ·rename_i z hz;cases h;exact res_load ho hs hT hx hz
   ·cases h
  ·cases h
 ·rename_i t y u ho
  split at h
  ·rename_i b off z n hx hz hn
   split at h
   ·rename_i ob hob
    split at h
    ·rename_i hb
     simp only [Bool.and_eq_true] at hb
     have b1:=Nat.eq_of_beq_eq_true hb.1
     have b2:=Nat.le_of_ble_eq_true hb.2
     cases h
     exact res_store ho hs hT hx hz hob (by rw [hn,b1]) b2
    ·cases h
   ·cases h
  ·cases h
 ·rename_i t y i ho
  split at h
  ·rename_i b off e;cases h;exact res_of hs (pure_indexAddr ho hT e)
  ·cases h
 ·rename_i t y f ho
  split at h
  ·rename_i fd b off hf hx
   split at h
   ·rename_i n hn;cases h;exact res_of hs (pure_fieldAddr ho hT hf hx hn)
   ·cases h
  ·cases h
 ·rename_i t y f ho
  split at h
  ·rename_i fd l hf hx
   split at h
   ·rename_i z hz;cases h;exact res_field ho hs hT hf hx hz
   ·cases h
  ·cases h
 ·rename_i t y i ho
  split at h
  ·rename_i z hz;cases h;exact res_index ho hs hT hz
  ·exact pur h
 ·rename_i y i ho
  split at h
  ·rename_i l hx
   split at h
   ·rename_i z hz;cases h;exact res_extract ho hs hT hx hz
   ·cases h
  ·cases h
 ·rename_i args ts ho
  split at h
  ·rename_i y t r ha ht
   have ha:args=#[y]:=by
    cases args
    simp only at ha
    subst ha
    rfl
   subst ha
   have ht:ts[0]?=some t:=by
    cases ts
    simp only at ht
    subst ht
    rfl
   split at h
   ·rename_i e hu
    split at h
    ·rename_i b off l c hx;cases h;exact res_len ho hs hT ht hu hx
    ·rename_i hx;cases h;exact res_len_nil ho hs hT ht hu hx
    ·cases h
   ·exact pur h
  ·cases h
 ·rename_i args ts ho
  split at h
  ·rename_i s y t t' ha ht
   have ha:args=#[s,y]:=by
    cases args
    simp only at ha
    subst ha
    rfl
   have ht:ts=#[t,t']:=by
    cases ts
    simp only at ht
    subst ht
    rfl
   subst ha;subst ht
   split at h
   ·rename_i e hb hu hl
    have hb:=Nat.eq_of_beq_eq_true hb
    subst hb
    split at h
    ·rename_i hx0
     split at h
     ·rename_i y n hy hn;cases h;exact res_append0 ho hs hT hu hn hx0 hy
     ·cases h
    ·split at h
     ·rename_i m l hm;cases h;exact res_append ho hs hT hu hm hl
     ·cases h
   ·cases h
  ·cases h
 ·exact pur h
end
end Go.Ev
