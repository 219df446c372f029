/-
  Rows of entries.
-/
import Derived.Test.YtajlleeonddinaaGreatDoorGAJ
import Derived.Deep.DeepCutAuto
import Derived.Deep.Cut
import Derived.StillTail
import Derived.StillTailTactics
import Derived.Deep.RegionHeld3
import Derived.RegionTactic
set_option linter.all false
set_option maxRecDepth 100000
set_option maxHeartbeats 4000000
namespace Go.Proofs.YtajlleeonddinaaGreatDoor
open Go.RowKit Go.Shelf
attribute [local irreducible] Go.Mixed.wpMix
structure Ee where
 g:Int
 o:Int
 m:Str
 A:Option Addr
 cap:Nat
 L:List Tr
 ex:Str
 al:Bool
instance:Inhabited Ee:=⟨⟨0,0,[],none,0,[],[],false⟩⟩
def Ee.v (r:Ee):Value:=.slice r.A r.L.length r.cap
abbrev Ke:=Int×Int×Str×List Tr×Str×Bool
def Ee.k (r:Ee):Ke:=(r.g,r.o,r.m,r.L,r.ex,r.al)
def Ee.c (r:Ee):List Value:=[.int .i64 r.g,.int .u8 r.o,.string (sB r.m),r.v,.string (sB r.ex),.bool r.al]
def cellsX:List Ee→List Value
 | []=>[]
 | r :: t=>.int .i64 r.g :: .int .u8 r.o :: .string (sB r.m) :: r.v :: .string (sB r.ex) :: .bool r.al :: cellsX t
theorem cellsX_length:∀ R:List Ee,(cellsX R).length=R.length*6
 | []=>rfl
 | r :: t=>by
  have h:=cellsX_length t
  show (cellsX t).length+1+1+1+1+1+1=(t.length+1)*6
  omega
theorem cellsX_append:∀ a b:List Ee,cellsX (a++b)=cellsX a++cellsX b
 | [],b=>rfl
 | x :: t,b=>by
  show _ :: _ :: _ :: _ :: _ :: _ :: cellsX (t++b)=_ :: _ :: _ :: _ :: _ :: _ :: (cellsX t++cellsX b)
  rw [cellsX_append t b]
theorem cellsX_at:∀ (R:List Ee) (j:Nat) (h:j<R.length),(cellsX R)[j*6]?=some (.int .i64 R[j].g)∧(cellsX R)[j*6+1]?=some (.int .u8 R[j].o)∧(cellsX R)[j*6+2]?=some (.string (sB R[j].m))∧(cellsX R)[j*6+3]?=some R[j].v∧(cellsX R)[j*6+4]?=some (.string (sB R[j].ex))∧(cellsX R)[j*6+5]?=some (.bool R[j].al)
 | x :: t,0,h=>⟨rfl,rfl,rfl,rfl,rfl,rfl⟩
 | x :: t,j+1,h=>by
  obtain ⟨h1,h2,h3,h4,h5,h6⟩:=cellsX_at t j (by simpa using h)
  have e:cellsX (x :: t)=.int .i64 x.g :: .int .u8 x.o :: .string (sB x.m) :: x.v :: .string (sB x.ex) :: .bool x.al :: cellsX t:=rfl
  rw [e,show (j+1)*6=j*6+1+1+1+1+1+1 by omega,show j*6+1+1+1+1+1+1+1=(j*6+1)+1+1+1+1+1+1 by omega,show j*6+1+1+1+1+1+1+2=(j*6+2)+1+1+1+1+1+1 by omega,show j*6+1+1+1+1+1+1+3=(j*6+3)+1+1+1+1+1+1 by omega,show j*6+1+1+1+1+1+1+4=(j*6+4)+1+1+1+1+1+1 by omega,show j*6+1+1+1+1+1+1+5=(j*6+5)+1+1+1+1+1+1 by omega]
  simp only [List.getElem?_cons_succ,List.getElem_cons_succ]
  exact ⟨h1,h2,h3,h4,h5,h6⟩
theorem cellsX_one:∀ (R:List Ee),∀ u∈cellsX R,u.oneCell'=true
 | [],u,h=>by cases h
 | x :: t,u,h=>by
  have e:cellsX (x :: t)=.int .i64 x.g :: .int .u8 x.o :: .string (sB x.m) :: x.v :: .string (sB x.ex) :: .bool x.al :: cellsX t:=rfl
  rw [e] at h
  simp only [List.mem_cons] at h
  rcases h with rfl | rfl | rfl | rfl | rfl | rfl | h
  ·rfl
  ·rfl
  ·rfl
  ·rfl
  ·rfl
  ·rfl
  ·exact cellsX_one t u h
theorem cellsX_take6 (R:List Ee) (j:Nat) (u:Value) (hu:(cellsX R)[j]?=some u):∃ (k:Nat) (h:k<R.length) (i:Nat),i<6∧j=k*6+i∧(R[k].c)[i]?=some u:=by
 have hj:j<R.length*6:=by
  rw [← cellsX_length]
  exact (List.getElem?_eq_some_iff.1 hu).1
 have hk:j / 6<R.length:=by omega
 obtain ⟨h1,h2,h3,h4,h5,h6⟩:=cellsX_at R (j / 6) hk
 refine ⟨j / 6,hk,j % 6,by omega,by omega,?_⟩
 have:j % 6=0∨j % 6=1∨j % 6=2∨j % 6=3∨j % 6=4∨j % 6=5:=by omega
 rcases this with h | h | h | h | h | h
 all_goals rw [h]
 ·exact (show _=_ from h1.symm).trans ((congrArg (fun z=>(cellsX R)[z]?) (by omega:j / 6*6=j)).trans hu)
 ·exact (show _=_ from h2.symm).trans ((congrArg (fun z=>(cellsX R)[z]?) (by omega:j / 6*6+1=j)).trans hu)
 ·exact (show _=_ from h3.symm).trans ((congrArg (fun z=>(cellsX R)[z]?) (by omega:j / 6*6+2=j)).trans hu)
 ·exact (show _=_ from h4.symm).trans ((congrArg (fun z=>(cellsX R)[z]?) (by omega:j / 6*6+3=j)).trans hu)
 ·exact (show _=_ from h5.symm).trans ((congrArg (fun z=>(cellsX R)[z]?) (by omega:j / 6*6+4=j)).trans hu)
 ·exact (show _=_ from h6.symm).trans ((congrArg (fun z=>(cellsX R)[z]?) (by omega:j / 6*6+5=j)).trans hu)
def EsP (w:World) (A:Option Addr) (R:List Ee):Prop:=
 R=[]∨∃ b off,A=some ⟨b,off,none⟩∧∀ k (h:k<R.length),(∀ i u,(R[k].c)[i]?=some u→w.cell? ⟨b,off+(k*6+i),none⟩=some u)∧OpsP w R[k].A R[k].L
theorem EsP.at_ {w:World} {A:Option Addr} {R:List Ee} (h:EsP w A R) {k:Nat} (hk:k<R.length):∃ b off,A=some ⟨b,off,none⟩∧b<w.heap.size∧w.cell? ⟨b,off+k*6,none⟩=some (.int .i64 R[k].g)∧w.cell? ⟨b,off+k*6+1,none⟩=some (.int .u8 R[k].o)∧w.cell? ⟨b,off+k*6+2,none⟩=some (.string (sB R[k].m))∧w.cell? ⟨b,off+k*6+3,none⟩=some R[k].v∧w.cell? ⟨b,off+k*6+4,none⟩=some (.string (sB R[k].ex))∧w.cell? ⟨b,off+k*6+5,none⟩=some (.bool R[k].al)∧OpsP w R[k].A R[k].L:=by
 rcases h with rfl | ⟨b,off,rfl,hc⟩
 ·simp at hk
 ·obtain ⟨h1,h2⟩:=hc k hk
  have e:∀ i u,(R[k].c)[i]?=some u→w.cell? ⟨b,off+k*6+i,none⟩=some u:=fun i u hu=>by rw [Nat.add_assoc];exact h1 i u hu
  exact ⟨b,off,rfl,World.block_lt_of_cell? w _ (e 0 _ rfl),e 0 _ rfl,e 1 _ rfl,e 2 _ rfl,e 3 _ rfl,e 4 _ rfl,e 5 _ rfl,h2⟩
theorem EsP.below {w w':World} {A:Option Addr} {R:List Ee} (h:EsP w A R) (hb:Below w.heap.size w w'):EsP w' A R:=by
 rcases h with rfl | ⟨b,off,rfl,hc⟩
 ·exact .inl rfl
 ·refine .inr ⟨b,off,rfl,fun k hk=>⟨fun i u hu=>?_,(hc k hk).2.below hb⟩⟩
  have hp:=(hc k hk).1 i u hu
  exact (hb.cell (World.block_lt_of_cell? w _ hp)).trans hp
theorem EsP.news {w:World} {A:Option Addr} {R:List Ee} (h:EsP w A R):R.length=0∨∃ a,A=some a∧∀ j u,(cellsX R)[j]?=some u→w.cell? (a.add j)=some u:=by
 rcases h with rfl | ⟨b,off,rfl,hc⟩
 ·exact .inl rfl
 ·refine .inr ⟨_,rfl,fun j u hu=>?_⟩
  have hadd:(⟨b,off,none⟩:Addr).add j=⟨b,off+j,none⟩:=by unfold Addr.add;split <;> simp_all
  rw [hadd]
  obtain ⟨k,hk,i,hi,rfl,e⟩:=cellsX_take6 R j u hu
  exact (hc k hk).1 i u e
def OwnXR (w:World) (n:Nat) (v:Value) (R:List Ee):Prop:=w.ownsRow n 64 6 v R.length (cellsX R)∧∀ r∈R,OwnT w n r.v r.L
theorem OwnXR.below {w w':World} {n:Nat} {v:Value} {R:List Ee} (h:OwnXR w n v R) (k:Below w.heap.size w w'):OwnXR w' n v R:=
 ⟨World.ownsRow.kept h.1 (row:=none) ⟨k.os,k.tape,k.output,k.size,fun i hi _=>k.block i hi⟩ (by
  cases e:v.ownBlock with
  | none=>exact .inl rfl
  | some g=>exact .inr (by simp)),fun r hr=>(h.2 r hr).below k⟩
theorem OwnXR.lift {w:World} {n m:Nat} {v:Value} {R:List Ee} (h:OwnXR w n v R) (k:m≤n):OwnXR w m v R:=⟨row_mono h.1 k,fun r hr=>(h.2 r hr).lift k⟩
theorem OwnXR.es {w:World} {n:Nat} {v:Value} {R:List Ee} (h:OwnXR w n v R):∃ A cap,v=.slice A R.length cap∧EsP w A R∧R.length≤cap:=by
 rcases h.1.2 with ⟨rfl,h0⟩ | ⟨g,cap,cur,rfl,_,_,hle,_⟩
 ·have:R=[]:=List.eq_nil_of_length_eq_zero h0
  subst this
  exact ⟨none,0,rfl,.inl rfl,Nat.le_refl _⟩
 ·refine ⟨_,cap,rfl,.inr ⟨g,0,rfl,fun k hk=>⟨fun i u hu=>?_,?_⟩⟩,hle⟩
  ·rw [Nat.zero_add]
   have hi:i<6:=by
    have:=(List.getElem?_eq_some_iff.1 hu).1
    exact this
   obtain ⟨h1,h2,h3,h4,h5,h6⟩:=cellsX_at R k hk
   have hc:(cellsX R)[k*6+i]?=some u:=by
    have:i=0∨i=1∨i=2∨i=3∨i=4∨i=5:=by omega
    rcases this with rfl | rfl | rfl | rfl | rfl | rfl
    ·exact h1.trans hu
    ·exact h2.trans hu
    ·exact h3.trans hu
    ·exact h4.trans hu
    ·exact h5.trans hu
    ·exact h6.trans hu
   exact (World.ownsRow.cellAt h.1 _ (by omega)).trans hc
  ·obtain ⟨A',c',e,hP,-⟩:=(h.2 _ (List.getElem_mem hk)).ops
   simp only [Ee.v,Value.slice.injEq] at e
   rw [e.1];exact hP
theorem info_enT:(Tryz.prog.info? 134).map (fun i=>(i.zero,i.size,i.bytes))=some (some (.agg #[.int .i64 0,.int .u8 0,.string ⟨#[]⟩,.slice none 0 0,.string ⟨#[]⟩,.bool false]),6,80):=by kernel_rfl
def OwnXT (w:World) (n:Nat) (v:Value) (R:List Ee):Prop:=w.ownsRow n 134 6 v R.length (cellsX R)∧∀ r∈R,OwnT w n r.v r.L
theorem OwnXT.below {w w':World} {n:Nat} {v:Value} {R:List Ee} (h:OwnXT w n v R) (k:Below w.heap.size w w'):OwnXT w' n v R:=
 ⟨World.ownsRow.kept h.1 (row:=none) ⟨k.os,k.tape,k.output,k.size,fun i hi _=>k.block i hi⟩ (by
  cases e:v.ownBlock with
  | none=>exact .inl rfl
  | some g=>exact .inr (by simp)),fun r hr=>(h.2 r hr).below k⟩
theorem OwnXT.lift {w:World} {n m:Nat} {v:Value} {R:List Ee} (h:OwnXT w n v R) (k:m≤n):OwnXT w m v R:=⟨row_mono h.1 k,fun r hr=>(h.2 r hr).lift k⟩
theorem OwnXT.es {w:World} {n:Nat} {v:Value} {R:List Ee} (h:OwnXT w n v R):∃ A cap,v=.slice A R.length cap∧EsP w A R∧R.length≤cap:=by
 rcases h.1.2 with ⟨rfl,h0⟩ | ⟨g,cap,cur,rfl,_,_,hle,_⟩
 ·have:R=[]:=List.eq_nil_of_length_eq_zero h0
  subst this
  exact ⟨none,0,rfl,.inl rfl,Nat.le_refl _⟩
 ·refine ⟨_,cap,rfl,.inr ⟨g,0,rfl,fun k hk=>⟨fun i u hu=>?_,?_⟩⟩,hle⟩
  ·rw [Nat.zero_add]
   have hi:i<6:=by
    have:=(List.getElem?_eq_some_iff.1 hu).1
    exact this
   obtain ⟨h1,h2,h3,h4,h5,h6⟩:=cellsX_at R k hk
   have hc:(cellsX R)[k*6+i]?=some u:=by
    have:i=0∨i=1∨i=2∨i=3∨i=4∨i=5:=by omega
    rcases this with rfl | rfl | rfl | rfl | rfl | rfl
    ·exact h1.trans hu
    ·exact h2.trans hu
    ·exact h3.trans hu
    ·exact h4.trans hu
    ·exact h5.trans hu
    ·exact h6.trans hu
   exact (World.ownsRow.cellAt h.1 _ (by omega)).trans hc
  ·obtain ⟨A',c',e,hP,-⟩:=(h.2 _ (List.getElem_mem hk)).ops
   simp only [Ee.v,Value.slice.injEq] at e
   rw [e.1];exact hP
theorem ownXT_nil (w:World) (n:Nat):OwnXT w n (.slice none 0 0) []:=⟨World.ownsRow_nil _ _ _ _,fun r hr=>absurd hr List.not_mem_nil⟩
theorem run_appXT (w:World) (B:Nat) (v:Value) (R:List Ee) (h:OwnXT w B v R) (A:Option Addr) (c:Nat) (R2:List Ee) (hP:EsP w A R2) (hO:∀ r∈R2,OwnT w B r.v r.L) (hB:B≤w.heap.size) (hs:R.length+R2.length≤100000) :
  ∃ v' w',(Builtin.append_ #[203,203] 203 #[v,.slice A R2.length c]).run Tryz.prog w=.ok v' w'∧OwnXT w' B v' (R++R2)∧Below B w w'∧w.grownBy w' v.ownBlock:=by
 obtain ⟨i0,hi,hz0,hz1,hz2⟩:=info_parts info_enT
 obtain ⟨v',w',k1,k2,k3⟩:=run_append_src w B 203 203 134 i0 _ 6 80 Tryz.underlying203 hi hz0 hz1 hz2 rfl (by decide) v R.length (cellsX R) h.1 A R2.length c (cellsX R2)
  (cellsX_length R2) hP.news (cellsX_one R2) (by unfold maxLen;omega) (by omega) hB
 have hty:∀ q,v.ownBlock=some q→∀ cur fz,w.heap[q]?≠some (.cells cur 55 fz):=fun q hq cur fz hx=>by
  rcases h.1.2 with ⟨rfl,_⟩ | ⟨g',cap,cur',rfl,_,hg,_⟩
  ·simp [Value.ownBlock] at hq
  ·simp only [Value.ownBlock,Option.some.injEq] at hq
   subst hq
   rw [hx] at hg
   simp at hg
 have kept:∀ {u:Value} {L:List Tr},OwnT w B u L→OwnT w' B u L:=fun {u L} ho=>World.ownsRow.kept ho k3 (by
  cases e:u.ownBlock with
  | none=>exact .inl rfl
  | some q=>
   refine .inr fun e'=>?_
   obtain ⟨cur,hc⟩:=own_types ho e
   exact hty q e'.symm _ _ hc)
 refine ⟨v',w',k1,⟨?_,fun r hr=>?_⟩,(Below.refl B w).grown k3 hB fun k hk=>(World.ownsRow.lt h.1 k hk).1,k3⟩
 ·rw [cellsX_append,List.length_append]
  exact k2
 ·rcases List.mem_append.1 hr with hr | hr
  ·exact kept (h.2 r hr)
  ·exact kept (hO r hr)
theorem es_oneT (w:World) (r:Ee) (hP:OpsP w r.A r.L):EsP (w.alloc (.cells #[.int .i64 r.g,.int .u8 r.o,.string (sB r.m),r.v,.string (sB r.ex),.bool r.al] 134)) (some ⟨w.heap.size,0,none⟩) [r]:=by
 refine .inr ⟨_,_,rfl,fun k hk=>?_⟩
 obtain rfl:k=0:=by simp at hk;omega
 refine ⟨fun i u hu=>?_,hP.below (up_alloc _ _)⟩
 rw [Nat.zero_add,Nat.zero_mul,Nat.zero_add,Lib.cell_of_heap (heap_alloc_new w _)]
 have:i=0∨i=1∨i=2∨i=3∨i=4∨i=5:=by
  have h:i<6:=(List.getElem?_eq_some_iff.1 hu).1
  omega
 rcases this with rfl | rfl | rfl | rfl | rfl | rfl <;> exact hu
end Go.Proofs.YtajlleeonddinaaGreatDoor
