/-
  LsA, ItL, ItF, ItS, SeRd, CnV, CnN, CnP, Mixed2.
-/
import Derived.Test.YtmnleknehjkmgaaGreatDoorGAT
import Derived.Laws.AppendOwn
import Derived.Laws.OwnMore
import Derived.Test.YtmnleknehjkmgaaGreatDoorGAP
import Derived.Test.YtmnleknehjkmgaaGreatDoorGAB
import Derived.Test.YtmnleknehjkmgaaGreatDoorGAA
set_option linter.all false
set_option maxRecDepth 100000
set_option maxHeartbeats 4000000
namespace Go.Proofs.YtmnleknehjkmgaaGreatDoor
open Go.RowKit Go.ChangeShapes Go.WideShapes Go.Deep
structure Ie where
 s:ByteArray
 A:Option Addr
 cap:Nat
 L:List Tr
instance:Inhabited Ie:=⟨⟨⟨#[]⟩,none,0,[]⟩⟩
def Ie.v (r:Ie):Value:=.slice r.A r.L.length r.cap
def InsP (w:World) (A:Option Addr) (R:List Ie):Prop:=
 R=[]∨∃ b off,A=some ⟨b,off,none⟩∧∀ j (h:j<R.length),w.cell? ⟨b,off+j*2,none⟩=some (.string R[j].s)∧w.cell? ⟨b,off+j*2+1,none⟩=some R[j].v∧OpsP w R[j].A R[j].L
theorem InsP.at_ {w:World} {A:Option Addr} {R:List Ie} (h:InsP w A R) {k:Nat} (hk:k<R.length):∃ b off,A=some ⟨b,off,none⟩∧w.cell? ⟨b,off+k*2,none⟩=some (.string R[k].s)∧w.cell? ⟨b,off+k*2+1,none⟩=some R[k].v∧OpsP w R[k].A R[k].L:=by
 rcases h with rfl | ⟨b,off,rfl,hc⟩
 ·simp at hk
 ·exact ⟨b,off,rfl,hc k hk⟩
theorem InsP.below {w w':World} {A:Option Addr} {R:List Ie} (h:InsP w A R) (hb:Below w.heap.size w w'):InsP w' A R:=by
 rcases h with rfl | ⟨b,off,rfl,hc⟩
 ·exact .inl rfl
 ·refine .inr ⟨b,off,rfl,fun j hj=>?_⟩
  have e:∀ (p:Addr) (v:Value),w.cell? p=some v→w'.cell? p=some v:=fun p v hp=>(hb.cell (World.block_lt_of_cell? w _ hp)).trans hp
  obtain ⟨h1,h2,h3⟩:=hc j hj
  exact ⟨e _ _ h1,e _ _ h2,h3.below hb⟩
section
variable {H:Type} {enc:TypeId×Value→H} {w:World} {spare:Nat→Bool} {fuel:Nat}
theorem open_insC {cs:List Value} {x:DataW H×List MemPlace} (h:DataW.trod enc Tryz.prog w 0 spare true fuel 26 cs=some x):∃ r:Ie,cs=[.string r.s,r.v]∧r.s.size≤maxLen∧r.L.length≤maxLen∧OpsP w r.A r.L:=by
 obtain ⟨y0,y1,n,_,hl,h0,h1⟩:=trod_struct2 Tryz.underlying26 h
 have c2:Tryz.prog.cellsOf 26=2:=by kernel_rfl
 have c1:Tryz.prog.cellsOf 9=1:=by kernel_rfl
 have c3:Tryz.prog.cellsOf 24=1:=by kernel_rfl
 rw [c2] at hl
 match cs,hl with
 | [p0,p1],_=>
  simp only [c1,c3] at h0 h1
  obtain ⟨s,e0,_,hs⟩:=DataW.trod_string Tryz.underlying9 h0
  have e0':p0=.string s:=by simpa using e0
  simp only [List.drop_succ_cons,List.drop_zero,List.take_succ_cons,List.take_zero] at h1
  obtain ⟨A,len,cap,L,e2,e3,e4,hL⟩:=open_opds h1
  subst e0' e2 e3
  exact ⟨⟨s,A,cap,L⟩,rfl,hs,e4,hL⟩
theorem open_inss {v:Value} {x:DataW H×List MemPlace} (h:DataW.trod enc Tryz.prog w 0 spare true fuel 22 [v]=some x) :
  ∃ A len cap R,v=.slice A len cap∧len=R.length∧len≤maxLen∧InsP w A R∧∀ r∈R,r.s.size≤maxLen∧r.L.length≤maxLen:=by
 rcases Deep.open_slice Tryz.underlying22 h with ⟨hcs,_⟩ | ⟨a,len,cap,m,n,D,Pl,hcs,_,hl,hm,hmm,_,hx⟩
 ·simp only [List.cons.injEq,and_true] at hcs
  exact ⟨none,0,0,[],hcs,rfl,Nat.zero_le _,.inl rfl,fun r hr=>absurd hr List.not_mem_nil⟩
 ·simp only [List.cons.injEq,and_true] at hcs
  have hlm:len≤m:=by rw [hmm];split <;> omega
  have c2:Tryz.prog.cellsOf 26=2:=by kernel_rfl
  have hall:∀ i,i<len→∃ r:Ie,w.cells? 0 (a.add (i*2)) 2=some [.string r.s,r.v]∧r.s.size≤maxLen∧r.L.length≤maxLen∧OpsP w r.A r.L:=fun i hi=>by
   obtain ⟨cs,h1,h2⟩:=hx i (by omega)
   rw [c2] at h1
   obtain ⟨r,e,h3,h4,h5⟩:=open_insC h2
   rw [e] at h1
   exact ⟨r,h1,h3,h4,h5⟩
  obtain ⟨f,hf⟩:=Deep.choose_lt hall
  refine ⟨some a,len,cap,(List.range len).map f,hcs,by simp,by omega,?_,?_⟩
  ·by_cases h0:len=0
   ·left;subst h0;simp
   ·have q:=(World.cells?_some (hf 0 (by omega)).1).2.2 0 (by omega)
    rw [Nat.zero_mul,show (a.add 0).add 0=a.add 0 by simp [Addr.add]] at q
    obtain ⟨b,off,rfl⟩:=plain_cell q
    refine .inr ⟨b,off,rfl,fun j hj=>?_⟩
    have hj':j<len:=by simpa using hj
    have e0:=(World.cells?_some (hf j hj').1).2.2 0 (by omega)
    have e1:=(World.cells?_some (hf j hj').1).2.2 1 (by omega)
    rw [add_twice] at e0 e1
    simp only [List.getElem_map,List.getElem_range]
    exact ⟨e0,e1,(hf j hj').2.2.2⟩
  ·intro r hr
   obtain ⟨i,hi,rfl⟩:=List.mem_map.1 hr
   exact ⟨(hf i (List.mem_range.1 hi)).2.1,(hf i (List.mem_range.1 hi)).2.2.1⟩
end
def cellsE:List Ie→List Value
 | []=>[]
 | r :: t=>.string r.s :: r.v :: cellsE t
theorem cellsE_append:∀ a b:List Ie,cellsE (a++b)=cellsE a++cellsE b
 | [],b=>rfl
 | x :: t,b=>by
  show _ :: _ :: cellsE (t++b)=_ :: _ :: (cellsE t++cellsE b)
  rw [cellsE_append t b]
theorem cellsE_at:∀ (R:List Ie) (j:Nat) (h:j<R.length),(cellsE R)[j*2]?=some (.string R[j].s)∧(cellsE R)[j*2+1]?=some R[j].v
 | x :: t,0,h=>⟨rfl,rfl⟩
 | x :: t,j+1,h=>by
  obtain ⟨h1,h2⟩:=cellsE_at t j (by simpa using h)
  have e:cellsE (x :: t)=.string x.s :: x.v :: cellsE t:=rfl
  rw [e,show (j+1)*2=j*2+1+1 by omega,show j*2+1+1+1=(j*2+1)+1+1 by omega]
  simp only [List.getElem?_cons_succ,List.getElem_cons_succ]
  exact ⟨h1,h2⟩
theorem info_ins:(Tryz.prog.info? 26).map (fun i=>(i.zero,i.size,i.bytes))=some (some (.agg #[.string ⟨#[]⟩,.slice none 0 0]),2,40):=by kernel_rfl
def OwnE (w:World) (n:Nat) (v:Value) (R:List Ie):Prop:=w.ownsRow n 26 2 v R.length (cellsE R)∧∀ r∈R,OwnT w n r.v r.L
theorem OwnE.below {w w':World} {n:Nat} {v:Value} {R:List Ie} (h:OwnE w n v R) (k:Below w.heap.size w w'):OwnE w' n v R:=
 ⟨World.ownsRow.kept h.1 (row:=none) ⟨k.os,k.tape,k.output,k.size,fun i hi _=>k.block i hi⟩ (by
  cases e:v.ownBlock with
  | none=>exact .inl rfl
  | some g=>exact .inr (by simp)),fun r hr=>(h.2 r hr).below k⟩
theorem OwnE.ins {w:World} {n:Nat} {v:Value} {R:List Ie} (h:OwnE w n v R):∃ A cap,v=.slice A R.length cap∧InsP w A R∧R.length≤cap:=by
 rcases h.1.2 with ⟨rfl,h0⟩ | ⟨g,cap,cur,rfl,_,_,hle,_⟩
 ·have:R=[]:=List.eq_nil_of_length_eq_zero h0
  subst this
  exact ⟨none,0,rfl,.inl rfl,Nat.le_refl _⟩
 ·refine ⟨_,cap,rfl,.inr ⟨g,0,rfl,fun j hj=>?_⟩,hle⟩
  obtain ⟨h1,h2⟩:=cellsE_at R j hj
  rw [Nat.zero_add]
  obtain ⟨A',c',e,hP,-⟩:=(h.2 _ (List.getElem_mem hj)).ops
  simp only [Ie.v,Value.slice.injEq] at e
  refine ⟨(World.ownsRow.cellAt h.1 _ (by omega)).trans h1,(World.ownsRow.cellAt h.1 _ (by omega)).trans h2,?_⟩
  rw [e.1];exact hP
theorem ownE_nil (w:World) (n:Nat):OwnE w n (.slice none 0 0) []:=⟨World.ownsRow_nil _ _ _ _,fun r hr=>absurd hr List.not_mem_nil⟩
theorem OwnT.kept {w w':World} {n g:Nat} {v:Value} {L:List Tr} {row:Option Nat} (h:OwnT w n v L) (k:w.grownBy w' row) (hr:∀ q,row=some q→∀ cur fz,w.heap[q]?≠some (.cells cur 50 fz)):OwnT w' n v L:=
 World.ownsRow.kept h k (by
  cases e:v.ownBlock with
  | none=>exact .inl rfl
  | some q=>
   refine .inr fun e'=>?_
   rcases h.2 with ⟨rfl,_⟩ | ⟨g',cap,cur,rfl,_,hg,_⟩
   ·simp [Value.ownBlock] at e
   ·simp only [Value.ownBlock,Option.some.injEq] at e
    subst e
    exact hr _ e'.symm _ _ hg)
end Go.Proofs.YtmnleknehjkmgaaGreatDoor
namespace Go.Proofs.YtmnleknehjkmgaaGreatDoor
open Go.RowKit Go.Shelf
attribute [local go_sem] Oper.semAt_some
attribute [local irreducible] Go.Mixed.wpMix
theorem run_rowE (w:World) (B:Nat) (v:Value) (E:List Ie) (h:w.ownsRow B 26 2 v E.length (cellsE E)) (r:Ie) (b c:Nat) (hc0:w.cell? ⟨b,0,none⟩=some (.string r.s)) (hc1:w.cell? ⟨b,1,none⟩=some r.v) (hB:B≤w.heap.size) (hs:E.length+1≤100000) :
  ∃ v' w',(Builtin.append_ #[22,22] 22 #[v,.slice (some ⟨b,0,none⟩) 1 c]).run Tryz.prog w=.ok v' w'∧w'.ownsRow B 26 2 v' (E++[r]).length (cellsE (E++[r]))∧Below B w w'∧w.grownBy w' v.ownBlock:=by
 obtain ⟨i0,hi,hz0,hz1,hz2⟩:=info_parts info_ins
 obtain ⟨v',w',k1,k2,k3⟩:=run_append_src w B 22 22 26 i0 _ 2 40 Tryz.underlying22 hi hz0 hz1 hz2 rfl (by decide) v E.length (cellsE E) h (some ⟨b,0,none⟩) 1 c [.string r.s,r.v]
  rfl (.inr ⟨_,rfl,fun j u hj=>by
   rw [show (⟨b,0,none⟩:Addr).add j=⟨b,0+j,none⟩ by unfold Addr.add;split <;> simp_all,Nat.zero_add]
   match j,hj with
   | 0,hj=>simp only [List.getElem?_cons_zero,Option.some.injEq] at hj;subst hj;exact hc0
   | 1,hj=>simp only [List.getElem?_cons_succ,List.getElem?_cons_zero,Option.some.injEq] at hj;subst hj;exact hc1
   | j+2,hj=>cases hj⟩) (fun u hu=>by
   rcases List.mem_cons.1 hu with rfl | hu
   ·rfl
   ·obtain rfl:=List.mem_singleton.1 hu
    rfl) (by unfold maxLen;omega) (by omega) hB
 refine ⟨v',w',k1,?_,(Below.refl B w).grown k3 hB fun k hk=>(World.ownsRow.lt h k hk).1,k3⟩
 rw [cellsE_append,List.length_append]
 exact k2
theorem run_appE2 (w:World) (B:Nat) (v:Value) (E:List Ie) (h:OwnE w B v E) (r:Ie) (ho:OwnT w B r.v r.L) (b c:Nat) (hc0:w.cell? ⟨b,0,none⟩=some (.string r.s)) (hc1:w.cell? ⟨b,1,none⟩=some r.v) (hB:B≤w.heap.size) (hs:E.length+1≤100000) :
  ∃ v' w',(Builtin.append_ #[22,22] 22 #[v,.slice (some ⟨b,0,none⟩) 1 c]).run Tryz.prog w=.ok v' w'∧OwnE w' B v' (E++[r])∧Below B w w'∧w.grownBy w' v.ownBlock:=by
 obtain ⟨v',w',k1,k2,k3,k4⟩:=run_rowE w B v E h.1 r b c hc0 hc1 hB hs
 have hty:∀ q,v.ownBlock=some q→∀ cur fz,w.heap[q]?≠some (.cells cur 50 fz):=fun q hq cur fz hx=>by
  obtain ⟨cur',hg⟩:=row_type h.1 hq
  rw [hx] at hg
  simp at hg
 refine ⟨v',w',k1,⟨k2,fun r' hr'=>?_⟩,k3,k4⟩
 rcases List.mem_append.1 hr' with hr' | hr'
 ·exact OwnT.kept (g:=0) (h.2 r' hr') k4 hty
 ·obtain rfl:=List.mem_singleton.1 hr'
  exact OwnT.kept (g:=0) ho k4 hty
theorem OwnE.grown {w w':World} {n:Nat} {v:Value} {E:List Ie} {row:Option Nat} (h:OwnE w n v E) (k:w.grownBy w' row) (hne:∀ r,row=some r→v.ownBlock≠some r) (hr:∀ q,row=some q→∀ cur T fz,w.heap[q]?=some (.cells cur T fz)→T≠50):OwnE w' n v E:=
 ⟨World.ownsRow.kept h.1 k (by
  cases e:v.ownBlock with
  | none=>exact .inl rfl
  | some g=>exact .inr fun e'=>hne g e'.symm e),fun r hr'=>OwnT.kept (g:=0) (h.2 r hr') k fun q e cur fz hc=>hr q e cur _ fz hc rfl⟩
theorem OwnE.lift {w:World} {n m:Nat} {v:Value} {E:List Ie} (h:OwnE w n v E) (k:m≤n):OwnE w m v E:=⟨row_mono h.1 k,fun r hr=>OwnT.lift (h.2 r hr) k⟩
theorem ops_keeps {w w':World} {A:Option Addr} {L:List Tr} {row:Option Nat} (h:OpsP w A L) (hg:w.grownBy w' row) (hr:∀ r,row=some r→∃ o:Obj,w.heap[r]?=some o∧o.isCells=false):OpsP w' A L:=h.tr fun a v hv=>by
 obtain ⟨o,ho,hc⟩:=cells_of_cell hv
 refine (World.cell?_of_block ((hg.block a.block (Array.getElem?_eq_some_iff.1 ho).1 fun e=>?_).trans ho |>.trans ho.symm)).trans hv
 obtain ⟨o2,ho2,hc2⟩:=hr _ e.symm
 rw [ho] at ho2
 obtain rfl:=Option.some.inj ho2
 rw [hc] at hc2
 cases hc2
def ieP (e:Ie):ByteArray×List Tr:=(e.s,e.L)
def xeP (x:Ite):ByteArray×List Tr:=(sB x.m,x.C)
def RetCode (w:World) (L:List Ite) (e:Ending) (w':World):Prop:=∃ A c E,e=.returned (.slice A (List.length E) c)∧E.map ieP=(L.filter fun x=>decide (x.kind=1)).map xeP∧OwnE w' w.heap.size (.slice A E.length c) E∧Below w.heap.size w w'
theorem code13_any (R:List Xe) (A:Option Addr) (lr cr:Nat) (hr:R.length=lr) (hlr:lr≤90000) (CR:∀ r∈R,r.x.C.length≤1000) (w:World) (H:ItsP w A R) :
  Calls Tryz.prog 7 #[.slice A lr cr] w (RetCode w (R.map Xe.x)):=by
 obtain ⟨n,W1,e1,hW1,S1,y1,z1⟩:=Fr.box (Fr.nil w) #[.slice none 0 0] 22
 have b1:Boxed W1 n 22 (.slice none 0 0):=S1.out.1
 have OK:=ofKind_any 1 A lr cr (n+1) W1 z1
 have TE:=Lib.hid (fun W0 (y:Below (n+1) W1 W0) (hs:Boxed W0 (n+1+1) 31 (.slice A lr cr)) (hk:Boxed W0 (n+1) 3 (.int .i64 1))=>ofKind_tells 2 (n+1+1) (n+1) n 1 R A lr cr hr hlr w W0 H (y1.trans (y.mono (by omega))) (by omega) hs hk (by omega))
 have HR:=Lib.hid hr
 have HC:Hid (∀ i,i<lr→(nth R i).x.C.length≤1000):=fun i hi=>by
  rw [nth_at (show i<R.length by omega)]
  exact CR _ (List.getElem_mem _)
 have NB:Hid (w.heap.size=n):=e1
 have B1:=Lib.hid b1
 have Y1:=Lib.hid y1
 clear hr H S1 y1 b1 e1 CR
 refine callsIn_wide.1 (callsIn_of_wp_marks (n:=3) Tryz.func7 rfl trivial ?_ rfl)
 simp only [Tryz.ntmps7,List.size_toArray,List.length_cons,List.length_nil,Nat.reduceAdd,Nat.reduceSub,Array.replicate_succ,Array.replicate_zero,List.push_toArray,List.append_toArray,List.nil_append,List.cons_append]
 refine wpIn_wide.2 ?_
 have e1:=NB.out
 go_wp2_with fail
 clear e1
 refine OK.mono ?_
 rintro e W0 ⟨rfl,o1,o2,o3,zW⟩
 have hseq:=TE.out W0 o3 o2 o1
 have BL:Hid (Boxed W0 n 22 (.slice none 0 0)):=(o3.block n (by omega)).trans B1.out
 have B0:Hid (Below n w W0):=by
  have h:=Y1.out
  rw [NB.out] at h
  exact h.trans (o3.mono (by omega))
 clear OK TE o1 o2 o3 Y1 B1 hW1
 rw [show W0.heap.size - 1=n+1+1 by omega] at hseq
 go_wp2_with fail
 refine wpIn_wide.1 (Stops.wpIn_tellsW (F:=Fence.wide) (n:=3) rfl (by omega) (gf:=24) (lb:=#[.pointer (some ⟨n+1+1,0,none⟩),.pointer (some ⟨n+1,0,none⟩)]) rfl trivial (enters_of Tryz.func24 (by kernel_rfl) rfl)
  hseq (fun h k=>h.trans k) (fun W l o o' _ hl ho=>Kq.put (n+1+1) n W l o o' hl ho) (fun _=>rfl)
  (fun pre W=>∃ A c E,Boxed W n 22 (.slice A (List.length E) c)∧OwnE W (n+3) (.slice A E.length c) E∧E.map ieP=pre.map (fun i=>xeP (nth R i).x)∧Below n w W∧n+3≤W.heap.size)
  (fun _ _=>False)
  (fun s X Y row h hg hr=>by
   obtain ⟨A,c,E,h1,h2,h3,h4,h5⟩:=h
   exact ⟨A,c,E,h1.kept hg (fun e=>by have:=(hr _ e.symm).1;omega),h2.grown hg (not_own h2.1 fun r e=>(hr r e).2) (fun q e cur T fz hc=>((no_type (fun r e=>(hr r e).2)) q e cur T fz hc).2),h3,h4.grown hg (by have:=h1.lt;omega) (fun r e=>by have:=(hr r e).1;omega),Nat.le_trans h5 hg.size⟩)
  (fun s X Y row h hg hr=>h)
  ⟨none,0,[],BL.out,ownE_nil _ _,rfl,B0.out,by omega⟩
  (fun pre i a' W=>pre.length≤90000∧i<lr∧OpsP W (nth R i).B (nth R i).x.C∧∃ k,n+3≤k∧ItAt W k (nth R i).x.kind (.slice (nth R i).A (nth R i).x.raw.length (nth R i).ca) (sB (nth R i).x.m) (.slice (nth R i).B (nth R i).x.C.length (nth R i).cb) (nth R i).x.al∧a'={tmps:=#[.slice A lr cr,undef,.slice none 0 0,.pointer (some ⟨n,0,none⟩),.pointer (some ⟨k,0,none⟩),.slice A lr cr,.func (.func 24) #[] #[.pointer (some ⟨n+1+1,0,none⟩),.pointer (some ⟨n+1,0,none⟩)],(nth R i).v,undef,undef,undef,undef,undef,undef,undef,undef,undef,undef,undef,undef],defers:=[]})
  (fun pre x s X Y row h hg hr=>by
   obtain ⟨h1,h2,h3,k,h4,h5,h6⟩:=h
   exact ⟨h1,h2,ops_keeps h3 hg (fun r e=>(hr r e).2),k,h4,h5.keeps hg (fun r e=>(hr r e).2),h6⟩)
  ?assign ?body ?done ?stop)
 case assign=>
  rintro lp pre i W K ⟨A',c,E,i1,i2,i3,i4,hz⟩ hE hK
  have HE:=Lib.hid hE
  clear hE
  simp only [Xe.v] at hK ⊢
  gi_wp2
  refine hK _ _ ((KeepsOthers.alloc _ _).from _) (Kq.of_below (up1 _ _)) ⟨A',c,E,i1.alloc _,i2.below (up1 _ _),i3,i4.trans ((up1 _ _).mono (by omega)),by simp;omega⟩ ⟨?_,HE.out.2.1,HE.out.2.2.2.below (up1 _ _),W.heap.size,hz,World.alloc_heap_new W _,rfl⟩
  rw [HE.out.1]
  have h1:=List.length_filter_le (kindP R 1) (List.range i)
  have h2:=HE.out.2.1
  rw [List.length_range] at h1
  omega
 case body=>
  rintro lp pre i a' W ⟨A',c,E,i1,i2,i3,i4,hz⟩ ⟨hle,hil,hop,k,hk,hI,rfl⟩
  have XC:=HC.out i hil
  obtain ⟨r,hr⟩:∃ z,nth R i=z:=⟨_,rfl⟩
  have HM:Hid ((pre++[i]).map (fun i=>xeP (nth R i).x)=pre.map (fun i=>xeP (nth R i).x)++[xeP r.x]):=by show _=_;rw [List.map_append,← hr];rfl
  rw [hr] at hop hI XC ⊢
  have EL:Hid (E.length+1≤100000):=by
   have:=congrArg List.length i3
   simp only [List.length_map] at this
   show _≤_
   omega
  obtain ⟨w3,hw3⟩:∃ z,W.drew=z:=⟨_,rfl⟩
  have BB3:Hid (Below W.heap.size W w3):=by rw [← hw3];exact below_drewN W _ 1
  have CC:Hid (∀ w',Below W.heap.size W w'→w'.cell? ⟨n,0,none⟩=some (.slice A' E.length c)∧w'.cell? ⟨k,2,none⟩=some (.string (sB r.x.m))∧w'.cell? ⟨k,3,none⟩=some (.slice r.B r.x.C.length r.cb)):=fun w' h=>by
   have g1:Boxed w' n 22 _:=(h.block _ i1.lt).trans i1
   obtain ⟨j0,j1,j2,j3,j4,j5⟩:=(hI.all h).cells
   exact ⟨g1.cell,j2,j3⟩
  have CL:=Lib.hid (cloneO_any r.B r.cb r.x.C XC w3 (hop.below BB3.out))
  have APP:Hid (∀ w4 (hb:Below W.heap.size W w4) A4 c4 (hO:OwnT w4 W.heap.size (.slice A4 r.x.C.length c4) r.x.C),∃ A8 c8 w8,(Builtin.append_ #[22,22] 22 #[.slice A' E.length c,.slice (some ⟨w4.heap.size,0,none⟩) 1 1]).run Tryz.prog (w4.alloc (.cells #[.string (sB r.x.m),.slice A4 r.x.C.length c4] 26))=.ok (.slice A8 (E.length+1) c8) w8∧w8.cell? ⟨n,0,none⟩=some (.slice A' E.length c)∧w8.frozen? ⟨n,0,none⟩=false∧
    (KeepsFrom W0.heap.size W (w8.setCell ⟨n,0,none⟩ (.slice A8 (E.length+1) c8))∧Kq (n+1+1) n W (w8.setCell ⟨n,0,none⟩ (.slice A8 (E.length+1) c8))∧∃ A c E2,Boxed (w8.setCell ⟨n,0,none⟩ (.slice A8 (E.length+1) c8)) n 22 (.slice A (List.length E2) c)∧OwnE (w8.setCell ⟨n,0,none⟩ (.slice A8 (E.length+1) c8)) (n+3) (.slice A E2.length c) E2∧E2.map ieP=(pre++[i]).map (fun i=>xeP (nth R i).x)∧Below n w (w8.setCell ⟨n,0,none⟩ (.slice A8 (E.length+1) c8))∧n+3≤(w8.setCell ⟨n,0,none⟩ (.slice A8 (E.length+1) c8)).heap.size)):=fun w4 hb A4 c4 hO=>by
   have hal:=up1 w4 (.cells #[.string (sB r.x.m),.slice A4 r.x.C.length c4] 26)
   have hnew:=World.alloc_heap_new w4 (.cells #[.string (sB r.x.m),.slice A4 r.x.C.length c4] 26)
   obtain ⟨wa,hwa⟩:∃ z,w4.alloc (.cells #[.string (sB r.x.m),.slice A4 r.x.C.length c4] 26)=z:=⟨_,rfl⟩
   rw [hwa] at hal hnew ⊢
   obtain ⟨h0,h1⟩:=Fr.cells2 hnew
   have ba:Below W.heap.size W wa:=hb.trans (hal.mono hb.size)
   obtain ⟨v8,w8,k1,k2,k3,k4⟩:=run_appE2 wa (n+3) (.slice A' E.length c) E (i2.below ba) ⟨sB r.x.m,A4,c4,r.x.C⟩ (OwnT.lift (hO.below hal) hz) w4.heap.size 1 h0 h1 (Nat.le_trans hz ba.size) EL.out
   obtain ⟨A8,c8,rfl,-,-⟩:=k2.ins
   have hla:(E++[(⟨sB r.x.m,A4,c4,r.x.C⟩:Ie)]).length=E.length+1:=by simp
   rw [hla] at k1 k2
   have b8:Boxed w8 n 22 (.slice A' E.length c):=(k3.block n (by omega)).trans ((ba.block _ i1.lt).trans i1)
   have kw:Below (n+3) W w8:=(ba.mono (by omega)).trans k3
   have hg:=grownBy_setC w8 n 0 (.slice A8 (E.length+1) c8)
   refine ⟨A8,c8,w8,k1,b8.cell,b8.frozen,(keeps_b ba _).trans (((KeepsOthers.of_grownBy k4 fun j o e ho=>?_).trans (KeepsOthers.setCell _ _ _)).from _),⟨by have:=kw.size;simpa using this,fun y o h1 h2 h3 h4=>?_⟩,A8,c8,_,by rw [hla];exact Boxed.set _ b8,?_,by rw [HM.out,List.map_append,i3];rfl,?_,?_⟩
   ·obtain ⟨cur,hc⟩:=row_type i2.1 e
    have hc2:wa.heap[j]?=_:=(ba.block j (Array.getElem?_eq_some_iff.1 hc).1).trans hc
    rw [hc2] at ho
    obtain rfl:=Option.some.inj ho
    rfl
   ·exact (heap_setCell_other w8 ⟨n,0,none⟩ y _ h2).trans ((kw.block y (by omega)).trans h3)
   ·rw [hla]
    refine k2.grown hg (fun r e e2=>?_) (fun r e cur T fz hc=>?_)
    ·have h5:=(World.ownsRow.lt k2.1 r e2).1
     have:=Option.some.inj e
     omega
    ·cases e
     rw [show w8.heap[n]?=_ from b8] at hc
     simp only [Option.some.injEq,Obj.cells.injEq] at hc
     rw [← hc.2.1]
     decide
   ·exact (i4.trans (kw.mono (by omega))).setCell (p:=⟨n,0,none⟩) (Nat.le_refl _) _
   ·have:=kw.size
    simp
    omega
  obtain ⟨el,hel⟩:∃ z,E.length=z:=⟨_,rfl⟩
  rw [hel] at CC APP
  clear i1 i2 i3 i4 hop hI hel EL XC hle hr HM
  gi_wp2_with fail
  refine Mixed.wpIn_region_mixed (fun w'=>Below W.heap.size W w') 10 [(0,true),(1,true),(2,true),(3,true),(4,true),(5,true),(6,true),(7,false),(8,true),(9,false)] (by kernel_rfl) (fun ⟨_,_,h⟩=>h) (by kernel_rfl) (by kernel_rfl) (by rw [hw3];exact BB3.out) ?_
  rw [hw3]
  clear hw3
  refine Mixed.mo rfl (.slice A' el c) (fun w h=>by obtain ⟨h1,-⟩:=CC.out w h;clear h;go_simp;try rfl) ?_
  refine Mixed.mo rfl (.pointer (some ⟨k,2,none⟩)) (fun w h=>by clear h;go_simp;try rfl) ?_
  refine Mixed.mo rfl (.pointer (some ⟨k,2,none⟩)) (fun w h=>by clear h;go_simp;try rfl) ?_
  refine Mixed.mo rfl (.string (sB r.x.m)) (fun w h=>by obtain ⟨-,h1,-⟩:=CC.out w h;clear h;go_simp;try rfl) ?_
  refine Mixed.mo rfl (.pointer (some ⟨k,2,none⟩)) (fun w h=>by clear h;go_simp;try rfl) ?_
  refine Mixed.mo rfl (.pointer (some ⟨k,3,none⟩)) (fun w h=>by clear h;go_simp;try rfl) ?_
  refine Mixed.mo rfl (.slice r.B r.x.C.length r.cb) (fun w h=>by obtain ⟨-,-,h1⟩:=CC.out w h;clear h;go_simp;try rfl) ?_
  refine Mixed.wpMix_loud rfl ?_
  go_wp2_with fail
  refine CL.out.mono ?_
  rintro e w4 ⟨v4,rfl,hO4,hb4⟩
  obtain ⟨A4,c4,rfl,-,-⟩:=hO4.ops
  have B4:Hid (Below W.heap.size W w4):=BB3.out.trans (hb4.mono BB3.out.size)
  have xx:=B4.out
  obtain ⟨A8,c8,w8,k1,k2,k3,k4⟩:=APP.out w4 B4.out A4 c4 (OwnT.lift hO4 BB3.out.size)
  have K1:=Lib.hid k1
  have P:=Lib.hid k4
  have B5:∀ o,Hid (Below W.heap.size W (w4.alloc o)):=fun o=>B4.out.trans ((up1 w4 o).mono B4.out.size)
  clear CL hO4 hb4 BB3 k1 k4 APP CC B4
  go_wp2
  refine ⟨xx,?_⟩
  clear xx
  refine Mixed.mo rfl (.agg #[.string (sB r.x.m),.slice A4 r.x.C.length c4]) (fun w h=>by clear h;go_simp;try rfl) ?_
  refine Mixed.wpMix_loud rfl ?_
  have xx:=fun o=>(B5 o).out
  go_wp2
  refine ⟨xx _,?_⟩
  clear xx B5
  simp only [Mixed.wpMix,List.drop_succ_cons,List.drop_zero]
  go_wp2_with (at_builtin;refine wpList_run_append K1.out rfl _ _ rfl rfl rfl rfl ?_)
  gi_wp2
  exact P.out
 case done=>
  rintro D ys W hD hys ⟨A',c,E,g1,g2,g3,g4,-⟩ hK
  have c1:=g1.cell
  have HK:=Lib.hid hK
  have G2:=Lib.hid g2
  have G4:=Lib.hid g4
  have G3:Hid (E.map ieP=((R.map Xe.x).filter fun x=>decide (x.kind=1)).map xeP):=by
   show _=_
   rw [g3,hys,← HR.out,← filt_nth,List.map_map]
   rfl
  have HW:Hid (n<W.heap.size):=g1.lt
  clear g1 g2 g3 g4 hK hseq hys
  go_wp2_with fail
  have hg:=grownBy_putObj' W D (.deferred none)
  refine ⟨by simp,.inl ⟨_,_,rfl,run_takeDeferred HK.out,?_⟩⟩
  refine ⟨.slice A' E.length c,?_,?_⟩
  ·simp [results,Tryz.results7,go_sem]
  ·have hk:∀ r,some D=some r→∃ o:Obj,W.heap[r]?=some o∧o.isCells=false:=fun r e=>by cases e;exact ⟨_,HK.out,rfl⟩
   refine ⟨A',c,E,rfl,G3.out,?_,?_⟩
   ·rw [NB.out]
    exact (G2.out.grown hg (not_own G2.out.1 hk) (fun q e cur T fz hc=>((no_type hk) q e cur T fz hc).2)).lift (by omega)
   ·rw [NB.out]
    exact G4.out.trans (belowK_b (w:=w) (by rw [NB.out];omega) W D _ _ (by rw [NB.out];omega) HK.out rfl rfl)
 case stop=>
  rintro D pre W hD h
  exact h.elim
end Go.Proofs.YtmnleknehjkmgaaGreatDoor
namespace Go.Proofs.YtmnleknehjkmgaaGreatDoor
open Go.RowKit Go.Shelf
attribute [local go_sem] Oper.semAt_some
theorem only_zero {b:Str} {pre:List Ite} {x:Ite} (h:pre++[x] <+: itemsR b) (hx:okI x=false):onlyB b=0:=by
 unfold onlyB
 rw [if_neg]
 intro ha
 have hm:x∈itemsR b:=h.subset (by simp)
 rw [List.all_eq_true] at ha
 rw [ha x hm] at hx
 cases hx
theorem only_one {b:Str} (h:∀ x∈itemsR b,okI x=true):onlyB b=1:=by
 unfold onlyB
 rw [if_pos (List.all_eq_true.2 h)]
theorem split_any (b:Str) (A:Option Addr) (cap l:Nat) (hl:b.length=l) (hc:l≤cap) (hcm:cap≤maxLen) (hl2:l≤90000) (w:World) (HB:BytesAt w A b) (hM:MaxAt w) :
  Calls Tryz.prog 9 #[.slice A l cap] w fun e w'=>e=.returned (.int .i64 (onlyB b:Nat))∧Below w.heap.size w w':=by
 obtain ⟨n,hn⟩:∃ z,w.heap.size=z:=⟨_,rfl⟩
 obtain ⟨W1,hW1⟩:∃ z,w.alloc (.cells #[.int .i64 0] 3)=z:=⟨_,rfl⟩
 have y1:Below w.heap.size w W1:=by rw [← hW1];exact (Below.refl _ _).alloc (Nat.le_refl _) _
 have z1:W1.heap.size=n+1:=by rw [← hW1,← hn];simp
 have R1:Boxed W1 n 3 (.int .i64 0):=by rw [← hW1,← hn];exact World.alloc_heap_new w _
 have IO:=itemsOf_any A l cap W1
 rw [z1] at IO
 have HB1:=HB.below y1
 have HM1:=hM.below y1
 have hAn:∀ a,A=some a→b≠[]→a.block≠n:=fun a ha hne=>by have:=bytes_lt HB a ha hne;omega
 have hMn:0≠n:=by have:=hM.lt;omega
 have SQ:=Lib.hid (fun W0 (y:Below W1.heap.size W1 W0) (hs:Boxed W0 (n+1) 27 (.slice A l cap))=>items_tellsQ 2 (n+1) n b A cap l hl hc hcm (by omega) W0 hs (HB1.below y) (HM1.below y) (by have:=y.size;omega) (by omega) hAn hMn)
 have NB:Hid (w.heap.size=n):=hn
 have Y1:Hid (Below n w W1):=by rw [← hn];exact y1
 have R1:=Lib.hid R1
 clear hl hc hcm hl2 HB hM HB1 HM1 hAn hMn y1
 refine callsIn_wide.1 (callsIn_of_wp_marks (n:=3) Tryz.func9 rfl trivial ?_ rfl)
 simp only [Tryz.ntmps9,List.size_toArray,List.length_cons,List.length_nil,Nat.reduceAdd,Nat.reduceSub,Array.replicate_succ,Array.replicate_zero,List.push_toArray,List.append_toArray,List.nil_append,List.cons_append]
 refine wpIn_wide.2 ?_
 go_wp2_with fail
 refine IO.mono ?_
 rintro e W0 ⟨rfl,hW0⟩
 have y0:Below W1.heap.size W1 W0:=by rw [← hW0];exact (Below.refl _ _).alloc (Nat.le_refl _) _
 have zW:W0.heap.size=n+2:=by rw [← hW0];simp;omega
 have hseq:=SQ.out W0 y0 (by rw [← hW0,← z1];exact World.alloc_heap_new W1 _)
 have BL:Hid (Boxed W0 n 3 (.int .i64 0)):=(y0.block n (by omega)).trans R1.out
 have B0:Hid (Below n w W0):=Y1.out.trans (y0.mono (by omega))
 clear IO SQ Y1 R1 y0 hW0 hW1 hn z1
 rw [zW] at hseq
 go_wp2_with fail
 refine wpIn_wide.1 (Stops.wpIn_tellsQ (F:=Fence.wide) (n:=3) rfl (by omega) (gf:=22) (lb:=#[.pointer (some ⟨n+1,0,none⟩)]) rfl trivial (enters_of Tryz.func22 (by kernel_rfl) rfl)
  hseq (fun h k=>h.trans k) (fun q W l o o' _ hl ho=>Kq.put q n W l o o' hl ho) (fun _=>rfl)
  (fun q pre W=>(∀ x∈pre,okI x.x=true)∧Boxed W n 3 (.int .i64 0)∧Below n w W)
  (fun q pre W=>onlyB b=0∧Boxed W n 3 (.int .i64 0)∧Below n w W)
  (fun q hq s X Y row h hg hr=>⟨h.1,h.2.1.kept hg (fun e=>by have:=(hr _ e.symm).1;omega),h.2.2.grown hg (by have:=h.2.1.lt;omega) (fun r e=>by have:=(hr r e).1;omega)⟩)
  (fun q hq s X Y h hg hT=>⟨h.1,h.2.1.kept hg (fun e=>by have:=Option.some.inj e;omega),h.2.2.grown hg (by have:=h.2.1.lt;omega) (fun r e=>by have:=Option.some.inj e;omega)⟩)
  (fun q hq s X Y row h hg hr=>⟨h.1,h.2.1.kept hg (fun e=>by have:=(hr _ e.symm).1;omega),h.2.2.grown hg (by have:=h.2.1.lt;omega) (fun r e=>by have:=(hr r e).1;omega)⟩)
  (fun q X hq hb hqX=>⟨fun x hx=>(by cases hx),(hb.block n BL.out.lt).trans BL.out,B0.out.trans (hb.mono (by omega))⟩)
  (fun q pre x a' W=>(pre++[x]).map Xe.x <+: itemsR b∧∃ k,q<k∧ItAt W k x.x.kind (.slice x.A x.x.raw.length x.ca) (sB x.x.m) (.slice x.B x.x.C.length x.cb) x.x.al∧a'={tmps:=#[.slice A l cap,undef,.pointer (some ⟨n,0,none⟩),.pointer (some ⟨k,0,none⟩),.slice A l cap,.func (.func 22) #[] #[.pointer (some ⟨n+1,0,none⟩)],x.v,undef,undef,undef,undef,undef,undef,undef],defers:=[]})
  (fun q pre x s X Y row h hg hr=>by
   obtain ⟨h1,k,h2,h3,h4⟩:=h
   exact ⟨h1,k,h2,h3.keeps hg (fun r e=>(hr r e).2),h4⟩)
  ?assign ?body ?done ?stop)
 case assign=>
  rintro lp q pre x W K hq hqW ⟨i1,i2,i3⟩ hE hK
  simp only [Xe.v] at hK ⊢
  gi_wp2
  exact hK _ _ ((KeepsOthers.alloc _ _).from _) (Kq.of_below (up1 _ _)) (by simp;omega) ⟨i1,i2.alloc _,i3.trans ((up1 _ _).mono (by omega))⟩ ⟨hE.1,W.heap.size,hqW,World.alloc_heap_new W _,rfl⟩
 case body=>
  rintro lp q pre x a' W hq hqW ⟨i1,i2,i3⟩ ⟨hpre,k,hk,hI,rfl⟩
  obtain ⟨j0,j1,j2,j3,j4,j5⟩:=hI.cells
  have v0:=i2.cell
  have v1:=i2.frozen
  have ST:Hid (okI x.x=false→KeepsFrom W0.heap.size W (W.setCell ⟨n,0,none⟩ (.int .i64 0))∧onlyB b=0∧Boxed (W.setCell ⟨n,0,none⟩ (.int .i64 0)) n 3 (.int .i64 0)∧Below n w (W.setCell ⟨n,0,none⟩ (.int .i64 0))):=fun h=>by
   rw [List.map_append] at hpre
   exact ⟨(KeepsOthers.setCell _ _ _).from _,only_zero hpre h,Boxed.set _ i2,i3.setCell (p:=⟨n,0,none⟩) (Nat.le_refl _) _⟩
  have GO:Hid (okI x.x=true→KeepsFrom W0.heap.size W W∧Kq q n W W∧(∀ y∈pre++[x],okI y.x=true)∧Boxed W n 3 (.int .i64 0)∧Below n w W):=fun h=>by
   refine ⟨keeps_b (Below.refl _ _) _,Kq.refl _ _ _,fun y hy=>?_,i2,i3⟩
   rcases List.mem_append.1 hy with hy | hy
   ·exact i1 y hy
   ·rw [List.mem_singleton.1 hy]
    exact h
  obtain ⟨kd,hkd⟩:∃ z,x.x.kind=z:=⟨_,rfl⟩
  obtain ⟨al,hal⟩:∃ z,x.x.al=z:=⟨_,rfl⟩
  have OK:okI x.x=(decide (kd=1)&&!al):=by unfold okI;rw [hkd,hal]
  rw [OK] at ST GO
  rw [hkd] at j0
  rw [hal] at j4
  clear i1 i2 i3 hpre hI hkd hal OK
  by_cases h1:kd=1
  ·subst h1
   have t1:((1:Int) != 1)=false:=rfl
   cases al with
   | false=>
    have P:=Lib.hid (GO.out rfl)
    clear ST GO
    gi_wp2
    exact P.out
   | true=>
    have P:=Lib.hid (ST.out rfl)
    clear ST GO
    gi_wp2
    exact P.out
  ·have t1:(kd != 1)=true:=bne_iff_ne.2 h1
   have P:=Lib.hid (ST.out (by rw [decide_eq_false h1,Bool.false_and]))
   clear ST GO h1
   gi_wp2
   exact P.out
 case done=>
  rintro D q ys W hD hq hys ⟨g1,g2,g3⟩ hK
  have HK:=Lib.hid hK
  have v0:=g2.cell
  have v1:=g2.frozen
  have G2:=Lib.hid g2
  have G3:=Lib.hid g3
  have ON:Hid (onlyB b=1):=only_one fun x hx=>by
   rw [← hys] at hx
   obtain ⟨y,hy,rfl⟩:=List.mem_map.1 hx
   exact g1 y hy
  clear g1 g2 g3 hK hseq hys
  go_wp2_with fail
  have b8:=Boxed.set (.int .i64 1) G2.out
  have hg:=grownBy_putObj' (W.setCell ⟨n,0,none⟩ (.int .i64 1)) D (.deferred none)
  have hK2:(W.setCell ⟨n,0,none⟩ (.int .i64 1)).heap[D]?=some (.deferred (some [])):=(heap_setCell_other W ⟨n,0,none⟩ D _ (by simp;omega)).trans HK.out
  have q2:=(b8.kept hg (by simp;omega)).cell
  refine ⟨by simp,.inl ⟨_,_,rfl,run_takeDeferred hK2,?_⟩⟩
  refine ⟨.int .i64 1,?_,by rw [ON.out];rfl,?_⟩
  ·simp [results,Tryz.results9,go_sem,q2]
  ·rw [NB.out]
   exact (G3.out.setCell (p:=⟨n,0,none⟩) (Nat.le_refl _) _).trans (belowK_b (w:=w) (by rw [NB.out];omega) _ D _ _ (by rw [NB.out];omega) hK2 rfl rfl)
 case stop=>
  rintro D q pre W hD hq ⟨h1,h2,h3⟩ hK
  have hg:=grownBy_putObj' W D (.deferred none)
  have q2:=(h2.kept hg (by simp;omega)).cell
  have HK:=Lib.hid hK
  have G3:=Lib.hid h3
  have H1:=Lib.hid h1
  clear h1 h2 h3 hK hg hseq
  gi_wp2
  refine ⟨by simp,.inl ⟨_,_,rfl,run_takeDeferred HK.out,?_⟩⟩
  refine ⟨.int .i64 0,?_,by rw [H1.out];rfl,?_⟩
  ·simp [results,Tryz.results9,go_sem,q2]
  ·rw [NB.out]
   exact G3.out.trans (belowK_b (w:=w) (by rw [NB.out];omega) W D _ _ (by rw [NB.out];omega) HK.out rfl rfl)
end Go.Proofs.YtmnleknehjkmgaaGreatDoor
namespace Go.Proofs.YtmnleknehjkmgaaGreatDoor
open Go.RowKit Go.Shelf
attribute [local go_sem] Oper.semAt_some
theorem it_ex13:(itemsR [0,221,0,237]).map Ite.kind=[1,2,1,4]∧((itemsR [0,221,0,237]).map Ite.m)[2]?=some [78,79,80]:=by decide +kernel
theorem OwnIq.cellK {w:World} {q n l c:Nat} {A:Option Addr} {R:List Xe} (h:OwnIq w q n (.slice A l c) R) (h0:0<R.length):∃ g,A=some ⟨g,0,none⟩∧∀ k (hk:k<R.length) i u,R[k].c[i]?=some u→w.cell? ⟨g,k*5+i,none⟩=some u:=by
 rcases h.1.2 with ⟨_,h1⟩ | ⟨g,cap,cur,e,_⟩
 ·omega
 ·simp only [Value.slice.injEq] at e
  obtain ⟨rfl,rfl,rfl⟩:=e
  refine ⟨g,rfl,fun k hk i u hu=>?_⟩
  have hi:=Xe.c_lt _ hu
  exact (World.ownsRow.cellAt h.1 (k*5+i) (by omega)).trans ((cellsI_at R k hk i hi).trans hu)
theorem alive13_any (w:World) (hM:MaxAt w):Calls Tryz.prog 4 #[] w fun e w'=>e=.returned (.bool true)∧Below w.heap.size w w':=by
 obtain ⟨EK,EM⟩:=it_ex13
 obtain ⟨g1,w1,hg1,hw1,S1,y1,z1⟩:=Fr.box (Fr.nil w) #[.int .u8 0,.int .u8 221,.int .u8 0,.int .u8 237] 5
 have HB:BytesAt w1 (some ⟨g1,0,none⟩) [0,221,0,237]:=by
  have h:=own_lit w [0,221,0,237] (by decide)
  obtain ⟨A',c',e,hP⟩:=h.bytes
  simp only [Value.slice.injEq] at e
  obtain ⟨rfl,-,-⟩:=e
  rw [← hw1,← hg1]
  exact hP
 have D1:=decode13_any [0,221,0,237] (some ⟨g1,0,none⟩) 4 4 rfl (Nat.le_refl _) (by unfold maxLen;omega) (by decide) w1 HB (hM.below y1)
 obtain ⟨L,hL⟩:∃ z,itemsR [0,221,0,237]=z:=⟨_,rfl⟩
 rw [hL] at D1 EK EM
 have Y1:=Lib.hid y1
 have EK:=Lib.hid EK
 have EM:=Lib.hid EM
 clear hL y1 S1 hM HB
 go_enter Tryz.func4,Tryz.ntmps4
 go_wp2_with fail
 refine D1.mono ?_
 rintro e w2 ⟨A,c,R,rfl,hR,hO,hb⟩
 have hlen:R.length=4:=by
  have h1:=congrArg List.length EK.out
  have h2:=congrArg List.length hR
  simp only [List.length_map] at h1 h2
  rw [h2,h1]
  rfl
 obtain ⟨g,rfl,hc⟩:=OwnIq.cellK hO (by omega)
 have K:∀ k (hk:k<R.length),L[k]?=some R[k].x:=fun k hk=>by rw [← hR,List.getElem?_map,List.getElem?_eq_getElem hk];rfl
 have KD:∀ k (hk:k<R.length) z,[(1:Int),2,1,4][k]?=some z→w2.cell? ⟨g,k*5+0,none⟩=some (.int .i64 z):=fun k hk z hz=>by
  rw [← EK.out,List.getElem?_map,K k hk] at hz
  have hz:R[k].x.kind=z:=by simpa using hz
  rw [← hz]
  exact hc k hk 0 _ rfl
 have k0:=KD 0 (by omega) 1 rfl
 have k1:=KD 1 (by omega) 2 rfl
 have k3:=KD 3 (by omega) 4 rfl
 have k2:w2.cell? ⟨g,2*5+2,none⟩=some (.string ⟨#[78,79,80]⟩):=by
  have h:=EM.out
  rw [List.getElem?_map,K 2 (by omega)] at h
  have h:R[2].x.m=[78,79,80]:=by simpa using h
  have h2:=hc 2 (by omega) 2 (.string (sB R[2].x.m)) rfl
  rw [h] at h2
  exact h2
 simp only [Nat.reduceMul,Nat.reduceAdd,Nat.zero_mul,Nat.one_mul] at k0 k1 k2 k3
 rw [hlen]
 have B2:Hid (Below w.heap.size w w2):=Y1.out.trans (hb.mono Y1.out.size)
 clear D1 hR hO hb hlen hc K KD EK EM Y1
 go_wp2
 go_ret
 exact ⟨rfl,B2.out⟩
end Go.Proofs.YtmnleknehjkmgaaGreatDoor
namespace Go.Proofs.YtmnleknehjkmgaaGreatDoor
open Go.RowKit Go.Shelf
attribute [local go_sem] Oper.semAt_some
end Go.Proofs.YtmnleknehjkmgaaGreatDoor
namespace Go.Proofs.YtmnleknehjkmgaaGreatDoor
open Go.RowKit
def inL (WL:List ByteArray) (s:ByteArray):Bool:=WL.any fun x=>x.toList == s.toList
theorem inL_yes (WL:List ByteArray) (s:ByteArray) (j:Nat) (h:j<WL.length) (e:(WL[j].toList == s.toList)=true):true=inL WL s:=
 (List.any_eq_true.2 ⟨_,List.getElem_mem h,e⟩).symm
theorem inL_no (WL:List ByteArray) (s:ByteArray) (h:∀ k,k<WL.length→∀ (a:k<WL.length),(WL[k].toList == s.toList)=false):false=inL WL s:=by
 refine (List.any_eq_false.2 fun x hx=>?_).symm
 obtain ⟨k,hk,rfl⟩:=List.getElem_of_mem hx
 rw [h k hk hk]
 exact Bool.false_ne_true
theorem in_any (A:Option Addr) (cap:Nat) (WL:List ByteArray) (hW:WL.length≤1000) (s:ByteArray) (w:World) (H:StrsA w A WL) :
  Calls Tryz.prog 17 #[.slice A WL.length cap,.string s] w fun e w'=>e=.returned (.bool (inL WL s))∧w=w':=by
 have X:=Lib.hid H
 have YE:=Lib.hid (inL_yes WL s)
 have NO:=Lib.hid (inL_no WL s)
 obtain ⟨n,hn⟩:∃ n,WL.length=n:=⟨_,rfl⟩
 have HN:=Lib.hid hn
 rw [hn] at hW ⊢
 clear H hn
 go_enter Tryz.func17,Tryz.ntmps17
 go_wp2
 go_loopw [5] (fun i wr=>∃ j:Nat,j≤n∧i=.int .i64 j∧Hid (∀ k,k<j→∀ (a:k<WL.length),(WL[k].toList == s.toList)=false)∧wr=w) (fun i _=>n - (intOf i).toNat)
 case atStart=>exact ⟨0,Nat.zero_le _,rfl,fun k h=>by omega,rfl⟩
 case round=>
  obtain ⟨j,hj,rfl,R,rfl⟩:=hrel
  by_cases hlt:j<n
  ·have hj1:j<WL.length:=by rw [HN.out];exact hlt
   obtain ⟨b1,o1,hA1,p0⟩:=X.out.at_ hj1
   subst hA1
   cases q:(WL[j].toList == s.toList)
   ·have R2:Hid (∀ k,k<j+1→∀ (a:k<WL.length),(WL[k].toList == s.toList)=false):=fun k hk a=>by
     by_cases e:k=j
     ·subst e;exact q
     ·exact R.out k (by omega) a
    obtain ⟨x,hx⟩:∃ x,WL[j]=x:=⟨_,rfl⟩
    rw [hx] at p0 q
    clear hx R hj1
    go_wp2
    go_roundw
    case rel=>exact ⟨j+1,by omega,by go_num,R2.out,trivial⟩
    case measure=>simp [intOf];omega
   ·have T:Hid (true=inL WL s):=YE.out j hj1 q
    obtain ⟨x,hx⟩:∃ x,WL[j]=x:=⟨_,rfl⟩
    rw [hx] at p0 q
    clear hx R hj1
    go_wp2
    go_ret
    exact ⟨ret_bool T.out,rfl⟩
  ·have T:Hid (false=inL WL s):=NO.out fun k hk a=>R.out k (by have:=HN.out;omega) a
   clear R
   go_wp2
   go_ret
   exact ⟨ret_bool T.out,rfl⟩
def W1:List ByteArray:=[⟨#[83,85,66]⟩,⟨#[65,78,68]⟩,⟨#[88,79,82]⟩,⟨#[79,82]⟩,⟨#[67,80]⟩]
def W2:List ByteArray:=[⟨#[65,68,68]⟩,⟨#[65,68,67]⟩,⟨#[83,66,67]⟩]
def W4:List ByteArray:=[⟨#[66,73,84]⟩,⟨#[82,69,83]⟩,⟨#[83,69,84]⟩,⟨#[73,77]⟩,⟨#[82,83,84]⟩,⟨#[79,85,84]⟩]
theorem eqB (a b:ByteArray):(a.toList == b.toList)=decide (b=a):=by
 by_cases h:b=a
 ·subst h;rw [strB_eq,decide_eq_true rfl]
 ·rw [decide_eq_false h,strB_ne (fun e=>h e.symm)]
theorem in_1 (s:ByteArray):inL W1 s=decide (I1 s):=Bool.eq_iff_iff.2 (by rw [decide_eq_true_iff];simp [inL,W1,I1,eqB])
theorem in_2 (s:ByteArray):inL W2 s=decide (I2 s):=Bool.eq_iff_iff.2 (by rw [decide_eq_true_iff];simp [inL,W2,I2,eqB])
theorem in_4 (s:ByteArray):inL W4 s=decide (I4 s):=Bool.eq_iff_iff.2 (by rw [decide_eq_true_iff];simp [inL,W4,I4,eqB])
theorem rwidth_any (s:ByteArray) (A:Option Addr) (cap:Nat) (L:List Tr) (hL:L.length≤1000) (w:World) (H:OpsP w A L) :
  Calls Tryz.prog 18 #[.agg #[.string s,.slice A L.length cap]] w fun e w'=>e=.returned (.int .i64 (widL (opc s) L))∧Below w.heap.size w w':=by
 obtain ⟨w1,hw1⟩:∃ w1,(w.alloc (.cells #[.string s,.slice A L.length cap] 26)).alloc (.cells (W4.map Value.string).toArray 9)=w1:=⟨_,rfl⟩
 have B1:Hid (Below w.heap.size w w1):=by rw [← hw1];exact ((Below.refl _ _).alloc (Nat.le_refl _) _).alloc (by simp) _
 have T1:Hid (Bx w1 w.heap.size s A L.length cap):=by rw [← hw1];exact ⟨by simp [go_sem],by simp [go_sem]⟩
 have hs4:=strs_of_new (w.alloc (.cells #[.string s,.slice A L.length cap] 26)) W4 9
 have hsz:(w.alloc (.cells #[.string s,.slice A L.length cap] 26)).heap.size=w.heap.size+1:=by simp
 rw [hw1,hsz] at hs4
 have IN:=Lib.hid (in_any (some ⟨w.heap.size+1,0,none⟩) 6 W4 (by decide) s w1 hs4)
 rw [in_4] at IN
 have X1:=Lib.hid (H.below B1.out)
 have E4:=Lib.hid (fun h=>wid_4 (s:=s) L h)
 have E5:=Lib.hid (fun h=>wid_5 (s:=s) L h)
 have EY:=Lib.hid (fun h=>wid_6y (s:=s) L h)
 have EN:=Lib.hid (fun h=>wid_6n (s:=s) L h)
 have EO:=Lib.hid (fun h1 h2 h3=>wid_o (s:=s) L h1 h2 h3)
 clear H hs4 hsz
 have hw2:(w.alloc (.cells #[.string s,.slice A L.length cap] 26)).alloc (.cells #[.string ⟨#[66,73,84]⟩,.string ⟨#[82,69,83]⟩,.string ⟨#[83,69,84]⟩,.string ⟨#[73,77]⟩,.string ⟨#[82,83,84]⟩,.string ⟨#[79,85,84]⟩] 9)=w1:=hw1
 clear hw1
 have g9:W4.length=6:=rfl
 rw [g9] at IN
 obtain ⟨t0,t1⟩:=T1.out
 by_cases h4:I4 s
 ·have E:=Lib.hid (E4.out h4)
  rw [decide_eq_true h4] at IN
  go_enter Tryz.func18,Tryz.ntmps18
  go_wp2_with fail
  refine IN.out.mono ?_
  rintro e w2 ⟨rfl,rfl⟩
  go_wp2
  go_ret
  exact ⟨ret_int E.out,B1.out⟩
 rw [decide_eq_false h4] at IN
 by_cases h5:I5 s
 ·have E:=Lib.hid (E5.out h5)
  clear h4
  rcases h5 with rfl | rfl
  all_goals
   go_enter Tryz.func18,Tryz.ntmps18
   go_wp2_with fail
   refine IN.out.mono ?_
   rintro e w2 ⟨rfl,rfl⟩
   go_wp2
   go_ret
   exact ⟨ret_int E.out,B1.out⟩
 by_cases h6:I6 s
 ·have EY:=Lib.hid (EY.out h6)
  have EN:=Lib.hid (EN.out h6)
  clear h4 h5
  obtain rfl:s=_:=h6
  by_cases h0:0<L.length
  ·obtain ⟨b,off,rfl,hb,p0,p1,p2⟩:=X1.out.at_ h0
   rw [Nat.zero_mul,Nat.add_zero] at p0
   have EY:=Lib.hid (EY.out h0)
   have EN:=Lib.hid (fun (q:¬L[0].1=3)=>EN.out fun _=>q)
   obtain ⟨k,hk⟩:∃ k,L[0].1=k:=⟨_,rfl⟩
   rw [hk] at EY EN p0
   have g1:decide ((0:Int)<(L.length:Int))=true:=decide_eq_true (by omega)
   have g2:(0:Int)<(L.length:Int):=by omega
   obtain ⟨n,hn⟩:∃ n,L.length=n:=⟨_,rfl⟩
   rw [hn] at hL t1 g1 g2 hw2 ⊢
   clear hn hk h0 p1 p2 hb X1 T1
   by_cases hk3:k=3
   ·have E:=Lib.hid (EY.out hk3)
    subst hk3
    go_enter Tryz.func18,Tryz.ntmps18
    go_wp2_with fail
    refine IN.out.mono ?_
    rintro e w2 ⟨rfl,rfl⟩
    go_wp2
    go_ret
    exact ⟨ret_int E.out,B1.out⟩
   ·have E:=Lib.hid (EN.out hk3)
    go_enter Tryz.func18,Tryz.ntmps18
    go_wp2_with fail
    refine IN.out.mono ?_
    rintro e w2 ⟨rfl,rfl⟩
    go_wp2
    go_ret
    exact ⟨ret_int E.out,B1.out⟩
  ·have e0:L.length=0:=by omega
   have E:=Lib.hid (EN.out fun k=>absurd k h0)
   rw [e0] at t1 hw2 ⊢
   clear h0 e0 X1 T1
   go_enter Tryz.func18,Tryz.ntmps18
   go_wp2_with fail
   refine IN.out.mono ?_
   rintro e w2 ⟨rfl,rfl⟩
   go_wp2
   go_ret
   exact ⟨ret_int E.out,B1.out⟩
 ·have E:=Lib.hid (EO.out h4 h5 h6)
  simp only [I5,not_or] at h5
  obtain ⟨n7,n8⟩:=h5
  have n9:¬s=_:=h6
  have q7:(s.toList == [74,80])=false:=by simpa using strB_ne n7
  have q8:(s.toList == [67,65,76,76])=false:=by simpa using strB_ne n8
  have q9:(s.toList == [76,68])=false:=by simpa using strB_ne n9
  clear n7 n8 n9 h6 h4
  go_enter Tryz.func18,Tryz.ntmps18
  go_wp2_with fail
  refine IN.out.mono ?_
  rintro e w2 ⟨rfl,rfl⟩
  go_wp2
  go_ret
  exact ⟨ret_int E.out,B1.out⟩
end Go.Proofs.YtmnleknehjkmgaaGreatDoor
namespace Go.Proofs.YtmnleknehjkmgaaGreatDoor
open Go.RowKit
def wL (v:Int) (L:List Tr) (j:Nat):List Tr:=(L.take j).map (wrapT v)++L.drop j
theorem wL_end (v:Int) (L:List Tr):wL v L L.length=L.map (wrapT v):=by unfold wL;rw [List.take_length,List.drop_length,List.append_nil]
theorem wL_len (v:Int) (L:List Tr) (j:Nat):(wL v L j).length=L.length:=by
 unfold wL
 rw [List.length_append,List.length_map,← List.length_append,List.take_append_drop]
theorem wL_at (v:Int) (L:List Tr) (j:Nat) (h:j<L.length) (h':j<(wL v L j).length):(wL v L j)[j]=L[j]:=by
 have e:(wL v L j)[j]?=some L[j]:=by
  unfold wL
  rw [List.getElem?_append_right (by rw [List.length_map,List.length_take];omega),List.getElem?_drop,List.length_map,List.length_take,show j+(j - min j L.length)=j by omega]
  exact List.getElem?_eq_getElem h
 rw [List.getElem?_eq_getElem h'] at e
 exact Option.some.inj e
theorem wL_set (v:Int) (L:List Tr) (j:Nat) (h:j<L.length):(wL v L j).set j (wrapT v L[j])=wL v L (j+1):=by
 unfold wL
 rw [List.take_succ_eq_append_getElem h,List.map_append,List.append_assoc,List.set_append_right _ _ (by rw [List.length_map,List.length_take];omega)]
 congr 1
 rw [List.drop_eq_getElem_cons h,List.length_map,List.length_take,show j - min j L.length=0 by omega]
 rfl
theorem wL_no (v:Int) (L:List Tr) (j:Nat) (h:j<L.length) (e:wrapT v L[j]=L[j]):wL v L j=wL v L (j+1):=by
 have h':j<(wL v L j).length:=by rw [wL_len];exact h
 rw [← wL_set v L j h,e,← wL_at v L j h h',List.set_getElem_self]
theorem wL_yes (v:Int) (L:List Tr) (j:Nat) (h:j<L.length) (hc:L[j].1=6∧-(v / 2)≤L[j].2.2∧L[j].2.2<0):(cellsT (wL v L j)).set (j*3+2) (.int .i64 (L[j].2.2+v))=cellsT (wL v L (j+1)):=by
 have h':j<(wL v L j).length:=by rw [wL_len];exact h
 have e:wrapT v L[j]=(L[j].1,L[j].2.1,L[j].2.2+v):=by unfold wrapT;rw [if_pos hc]
 rw [← wL_set v L j h,e]
 exact (cells_set _ _ _ _ _ h' (by rw [wL_at v L j h h']) (by rw [wL_at v L j h h'])).symm
theorem wL_not (v:Int) (L:List Tr) (j:Nat) (h:j<L.length) (hc:¬(L[j].1=6∧-(v / 2)≤L[j].2.2∧L[j].2.2<0)):wL v L j=wL v L (j+1):=
 wL_no v L j h (by unfold wrapT;rw [if_neg hc])
theorem widL_cases (c:Nat) (L:List Tr):widL c L=0∨widL c L=1∨widL c L=2:=by
 unfold widL
 split
 ·exact .inl rfl
 ·split
  ·exact .inr (.inr rfl)
  ·split
   ·exact .inr (.inr rfl)
   ·exact .inr (.inl rfl)
theorem wrap_any (s:ByteArray) (B bd:Nat) (hB:B≤bd) (v:Value) (L:List Tr) (hL:L.length≤1000) (w:World) (hD:Dr w bd s v) (hO:OwnS w B v L) :
  Calls Tryz.prog 49 #[.pointer (some ⟨bd,0,none⟩)] w fun e w'=>e=.returned (.tuple #[])∧Dr w' bd s v∧OwnS w' B v (L.map (wrapT (valW (widL (opc s) L))))∧Below B w w':=by
 obtain ⟨A,cap,rfl,hP,hlc,hcm⟩:=hO.ops
 have WD:=Lib.hid (width_any s A cap L hL w hP)
 obtain ⟨d0,d1,-,-⟩:=hD.cells
 have D0:=Lib.hid hD
 have O0:=Lib.hid hO
 have YES:=fun v=>Lib.hid (wL_yes v L)
 have NOT:=fun v=>Lib.hid (wL_not v L)
 have WE:=fun v=>Lib.hid (wL_end v L)
 have AT:=fun v=>Lib.hid (wL_at v L)
 have hwl:=fun v j=>wL_len v L j
 obtain ⟨n,hn⟩:∃ n,L.length=n:=⟨_,rfl⟩
 have HN:=Lib.hid hn
 rw [hn] at D0 O0 WD d1 WE hwl hlc hL ⊢
 have SB:Hid (bd<w.heap.size):=hD.lt
 clear hD hO hP hn
 obtain ⟨x,hx⟩:∃ x,widL (opc s) L=x:=⟨_,rfl⟩
 have hcs:=widL_cases (opc s) L
 rw [hx] at WD hcs ⊢
 clear hx
 rcases hcs with rfl | rfl | rfl
 ·have hvw:valW 0=0:=rfl
  rw [hvw]
  clear hvw
  go_enter Tryz.func49,Tryz.ntmps49
  go_wp2_with fail
  refine WD.out.mono ?_
  rintro e w1 ⟨rfl,h1⟩
  have B1:Hid (Below B w w1):=h1.mono (Nat.le_trans hB (Nat.le_of_lt SB.out))
  have D1:=Lib.hid (D0.out.below h1)
  have O1:=Lib.hid (O0.out.below h1)
  clear h1 D0 O0 d0 d1 WD
  obtain ⟨d0,d1,-,-⟩:=D1.out.cells
  go_wp2
  clear d0 d1
  go_loopw [20] (fun i wr=>∃ j:Nat,j≤n∧i=.int .i64 j∧Hid (Dr wr bd s (.slice A n cap))∧Hid (OwnS wr B (.slice A n cap) (wL 0 L j))∧Hid (Below B w wr)) (fun i _=>n - (intOf i).toNat)
  case atStart=>exact ⟨0,Nat.zero_le _,rfl,D1.out,O1.out,B1.out⟩
  case round=>
   clear D1 O1 B1
   obtain ⟨j,hj,rfl,D1,O1,B1⟩:=hrel
   by_cases hlt:j<n
   ·have hj1:j<L.length:=by have:=HN.out;omega
    have hj2:j<(wL 0 L j).length:=by rw [hwl];exact hlt
    obtain ⟨g,off,cap',hA,-,-,hR⟩:=O1.out.nonnil (by omega)
    simp only [Value.slice.injEq] at hA
    obtain ⟨rfl,-,-⟩:=hA
    obtain ⟨p0,p1,p2⟩:=hR.at_ j hj2
    rw [(AT 0).out j hj1 hj2] at p0 p1 p2
    have hgb:=hR.apart D1.out
    have hgl:=hR.lt
    have fz:=hR.frozen (off+j*3+2)
    have Y:=Lib.hid ((YES 0).out j hj1)
    have N:=Lib.hid ((NOT 0).out j hj1)
    obtain ⟨⟨y0,y1,y2⟩,hy⟩:∃ y,L[j]=y:=⟨_,rfl⟩
    rw [hy] at p0 p1 p2 Y N
    simp only at p0 p1 p2 Y N
    obtain ⟨d0,d1,-,-⟩:=D1.out.cells
    have D2:=fun o=>Lib.hid (D1.out.alloc o)
    have B2:=fun o=>Lib.hid (B1.out.alloc (Nat.le_trans (Nat.le_trans hB (Nat.le_of_lt SB.out)) B1.out.size) o)
    have hgB:Hid (B≤g):=hR.1
    have hBr:Hid (B≤wr.heap.size):=Nat.le_trans (Nat.le_trans hB (Nat.le_of_lt SB.out)) B1.out.size
    have hR:=Lib.hid hR
    have hne1:g≠wr.heap.size:=by omega
    have hne2:bd≠wr.heap.size:=by have:=D1.out.lt;omega
    have O2:∀ o,Hid (OwnS (wr.alloc o) B (.slice (some ⟨g,off,none⟩) n cap) (wL 0 L j)):=fun o=>O1.out.alloc o
    clear hj1 hj2 hy O1
    by_cases k6:y0=6
    ·by_cases a1:0≤y2
     ·have hx:=N.out fun q=>absurd q.2.2 (by omega)
      rw [hx] at O2
      subst k6
      clear hx Y N D1 B1 hR
      go_wp2
      go_roundw
      case rel=>exact ⟨j+1,by omega,by go_num,(D2 _).out,(O2 _).out,(B2 _).out⟩
      case measure=>simp [intOf];omega
     ·have hx:=N.out fun q=>absurd q.2.1 (by omega)
      rw [hx] at O2
      subst k6
      clear hx Y N D1 B1 hR
      go_wp2
      go_roundw
      case rel=>exact ⟨j+1,by omega,by go_num,(D2 _).out,(O2 _).out,(B2 _).out⟩
      case measure=>simp [intOf];omega
    ·have hx:=N.out fun q=>k6 q.1
     rw [hx] at O2
     clear hx Y N D1 B1 hR
     go_wp2
     go_roundw
     case rel=>exact ⟨j+1,by omega,by go_num,(D2 _).out,(O2 _).out,(B2 _).out⟩
     case measure=>simp [intOf];omega
   ·have hjn:j=n:=by omega
    subst hjn
    rw [(WE 0).out] at O1
    go_wp2
    refine bodyPost_end (v:=.tuple #[]) ?_ rfl ⟨rfl,D1.out,O1.out,B1.out⟩
    simp [results,Tryz.results49,go_sem]
 ·have hvw:valW 1=256:=rfl
  rw [hvw]
  clear hvw
  go_enter Tryz.func49,Tryz.ntmps49
  go_wp2_with fail
  refine WD.out.mono ?_
  rintro e w1 ⟨rfl,h1⟩
  have B1:Hid (Below B w w1):=h1.mono (Nat.le_trans hB (Nat.le_of_lt SB.out))
  have D1:=Lib.hid (D0.out.below h1)
  have O1:=Lib.hid (O0.out.below h1)
  clear h1 D0 O0 d0 d1 WD
  obtain ⟨d0,d1,-,-⟩:=D1.out.cells
  go_wp2
  clear d0 d1
  go_loopw [20] (fun i wr=>∃ j:Nat,j≤n∧i=.int .i64 j∧Hid (Dr wr bd s (.slice A n cap))∧Hid (OwnS wr B (.slice A n cap) (wL 256 L j))∧Hid (Below B w wr)) (fun i _=>n - (intOf i).toNat)
  case atStart=>exact ⟨0,Nat.zero_le _,rfl,D1.out,O1.out,B1.out⟩
  case round=>
   clear D1 O1 B1
   obtain ⟨j,hj,rfl,D1,O1,B1⟩:=hrel
   by_cases hlt:j<n
   ·have hj1:j<L.length:=by have:=HN.out;omega
    have hj2:j<(wL 256 L j).length:=by rw [hwl];exact hlt
    obtain ⟨g,off,cap',hA,-,-,hR⟩:=O1.out.nonnil (by omega)
    simp only [Value.slice.injEq] at hA
    obtain ⟨rfl,-,-⟩:=hA
    obtain ⟨p0,p1,p2⟩:=hR.at_ j hj2
    rw [(AT 256).out j hj1 hj2] at p0 p1 p2
    have hgb:=hR.apart D1.out
    have hgl:=hR.lt
    have fz:=hR.frozen (off+j*3+2)
    have Y:=Lib.hid ((YES 256).out j hj1)
    have N:=Lib.hid ((NOT 256).out j hj1)
    obtain ⟨⟨y0,y1,y2⟩,hy⟩:∃ y,L[j]=y:=⟨_,rfl⟩
    rw [hy] at p0 p1 p2 Y N
    simp only at p0 p1 p2 Y N
    obtain ⟨d0,d1,-,-⟩:=D1.out.cells
    have D2:=fun o=>Lib.hid (D1.out.alloc o)
    have B2:=fun o=>Lib.hid (B1.out.alloc (Nat.le_trans (Nat.le_trans hB (Nat.le_of_lt SB.out)) B1.out.size) o)
    have hgB:Hid (B≤g):=hR.1
    have hBr:Hid (B≤wr.heap.size):=Nat.le_trans (Nat.le_trans hB (Nat.le_of_lt SB.out)) B1.out.size
    have hR:=Lib.hid hR
    have hne1:g≠wr.heap.size:=by omega
    have hne2:bd≠wr.heap.size:=by have:=D1.out.lt;omega
    have O2:∀ o,Hid (OwnS (wr.alloc o) B (.slice (some ⟨g,off,none⟩) n cap) (wL 256 L j)):=fun o=>O1.out.alloc o
    clear hj1 hj2 hy O1
    by_cases k6:y0=6
    ·by_cases a1 : -128≤y2
     ·by_cases a2:y2<0
      ·have hx:=Y.out ⟨k6,by omega,a2⟩
       have R3:∀ o,Hid (OwnS ((wr.setCell ⟨g,off+j*3+2,none⟩ (.int .i64 (y2+256))).alloc o) B (.slice (some ⟨g,off,none⟩) n cap) (wL 256 L (j+1))):=fun o=>by
        have h3:=hR.out.put (j*3+2) _ hx
        rw [← Nat.add_assoc] at h3
        exact OwnS.alloc (.inr ⟨g,off,cap,by rw [hwl],by rw [hwl];exact hlc,hcm,h3⟩) o
       have D3:∀ o,Hid (Dr ((wr.setCell ⟨g,off+j*3+2,none⟩ (.int .i64 (y2+256))).alloc o) bd s (.slice (some ⟨g,off,none⟩) n cap)):=fun o=>(D1.out.other hgb _ _).alloc o
       have B3:∀ o,Hid (Below B w ((wr.setCell ⟨g,off+j*3+2,none⟩ (.int .i64 (y2+256))).alloc o)):=fun o=>(B1.out.setCell (p:=⟨g,off+j*3+2,none⟩) hgB.out _).alloc (by simp;exact hBr.out) o
       subst k6
       have e1:=(D2 (.cells #[.int .i64 6,.int .i64 y1,.int .i64 y2] 50)).out.cells.2.1
       have e2:(wr.alloc (.cells #[.int .i64 6,.int .i64 y1,.int .i64 y2] 50)).cell? ⟨g,off+j*3+2,none⟩=some (.int .i64 y2):=(World.cell?_alloc_lt wr _ _ hgl).trans p2
       clear hx Y N O2 D2 B2 D1 B1 hR
       go_wp2
       go_roundw
       case rel=>exact ⟨j+1,by omega,by go_num,(D3 _).out,(R3 _).out,(B3 _).out⟩
       case measure=>simp [intOf];omega
      ·have hx:=N.out fun q=>absurd q.2.2 (by omega)
       rw [hx] at O2
       subst k6
       clear hx Y N D1 B1 hR
       go_wp2
       go_roundw
       case rel=>exact ⟨j+1,by omega,by go_num,(D2 _).out,(O2 _).out,(B2 _).out⟩
       case measure=>simp [intOf];omega
     ·have hx:=N.out fun q=>absurd q.2.1 (by omega)
      rw [hx] at O2
      subst k6
      clear hx Y N D1 B1 hR
      go_wp2
      go_roundw
      case rel=>exact ⟨j+1,by omega,by go_num,(D2 _).out,(O2 _).out,(B2 _).out⟩
      case measure=>simp [intOf];omega
    ·have hx:=N.out fun q=>k6 q.1
     rw [hx] at O2
     clear hx Y N D1 B1 hR
     go_wp2
     go_roundw
     case rel=>exact ⟨j+1,by omega,by go_num,(D2 _).out,(O2 _).out,(B2 _).out⟩
     case measure=>simp [intOf];omega
   ·have hjn:j=n:=by omega
    subst hjn
    rw [(WE 256).out] at O1
    go_wp2
    refine bodyPost_end (v:=.tuple #[]) ?_ rfl ⟨rfl,D1.out,O1.out,B1.out⟩
    simp [results,Tryz.results49,go_sem]
 ·have hvw:valW 2=65536:=rfl
  rw [hvw]
  clear hvw
  go_enter Tryz.func49,Tryz.ntmps49
  go_wp2_with fail
  refine WD.out.mono ?_
  rintro e w1 ⟨rfl,h1⟩
  have B1:Hid (Below B w w1):=h1.mono (Nat.le_trans hB (Nat.le_of_lt SB.out))
  have D1:=Lib.hid (D0.out.below h1)
  have O1:=Lib.hid (O0.out.below h1)
  clear h1 D0 O0 d0 d1 WD
  obtain ⟨d0,d1,-,-⟩:=D1.out.cells
  go_wp2
  clear d0 d1
  go_loopw [20] (fun i wr=>∃ j:Nat,j≤n∧i=.int .i64 j∧Hid (Dr wr bd s (.slice A n cap))∧Hid (OwnS wr B (.slice A n cap) (wL 65536 L j))∧Hid (Below B w wr)) (fun i _=>n - (intOf i).toNat)
  case atStart=>exact ⟨0,Nat.zero_le _,rfl,D1.out,O1.out,B1.out⟩
  case round=>
   clear D1 O1 B1
   obtain ⟨j,hj,rfl,D1,O1,B1⟩:=hrel
   by_cases hlt:j<n
   ·have hj1:j<L.length:=by have:=HN.out;omega
    have hj2:j<(wL 65536 L j).length:=by rw [hwl];exact hlt
    obtain ⟨g,off,cap',hA,-,-,hR⟩:=O1.out.nonnil (by omega)
    simp only [Value.slice.injEq] at hA
    obtain ⟨rfl,-,-⟩:=hA
    obtain ⟨p0,p1,p2⟩:=hR.at_ j hj2
    rw [(AT 65536).out j hj1 hj2] at p0 p1 p2
    have hgb:=hR.apart D1.out
    have hgl:=hR.lt
    have fz:=hR.frozen (off+j*3+2)
    have Y:=Lib.hid ((YES 65536).out j hj1)
    have N:=Lib.hid ((NOT 65536).out j hj1)
    obtain ⟨⟨y0,y1,y2⟩,hy⟩:∃ y,L[j]=y:=⟨_,rfl⟩
    rw [hy] at p0 p1 p2 Y N
    simp only at p0 p1 p2 Y N
    obtain ⟨d0,d1,-,-⟩:=D1.out.cells
    have D2:=fun o=>Lib.hid (D1.out.alloc o)
    have B2:=fun o=>Lib.hid (B1.out.alloc (Nat.le_trans (Nat.le_trans hB (Nat.le_of_lt SB.out)) B1.out.size) o)
    have hgB:Hid (B≤g):=hR.1
    have hBr:Hid (B≤wr.heap.size):=Nat.le_trans (Nat.le_trans hB (Nat.le_of_lt SB.out)) B1.out.size
    have hR:=Lib.hid hR
    have hne1:g≠wr.heap.size:=by omega
    have hne2:bd≠wr.heap.size:=by have:=D1.out.lt;omega
    have O2:∀ o,Hid (OwnS (wr.alloc o) B (.slice (some ⟨g,off,none⟩) n cap) (wL 65536 L j)):=fun o=>O1.out.alloc o
    clear hj1 hj2 hy O1
    by_cases k6:y0=6
    ·by_cases a1 : -32768≤y2
     ·by_cases a2:y2<0
      ·have hx:=Y.out ⟨k6,by omega,a2⟩
       have R3:∀ o,Hid (OwnS ((wr.setCell ⟨g,off+j*3+2,none⟩ (.int .i64 (y2+65536))).alloc o) B (.slice (some ⟨g,off,none⟩) n cap) (wL 65536 L (j+1))):=fun o=>by
        have h3:=hR.out.put (j*3+2) _ hx
        rw [← Nat.add_assoc] at h3
        exact OwnS.alloc (.inr ⟨g,off,cap,by rw [hwl],by rw [hwl];exact hlc,hcm,h3⟩) o
       have D3:∀ o,Hid (Dr ((wr.setCell ⟨g,off+j*3+2,none⟩ (.int .i64 (y2+65536))).alloc o) bd s (.slice (some ⟨g,off,none⟩) n cap)):=fun o=>(D1.out.other hgb _ _).alloc o
       have B3:∀ o,Hid (Below B w ((wr.setCell ⟨g,off+j*3+2,none⟩ (.int .i64 (y2+65536))).alloc o)):=fun o=>(B1.out.setCell (p:=⟨g,off+j*3+2,none⟩) hgB.out _).alloc (by simp;exact hBr.out) o
       subst k6
       have e1:=(D2 (.cells #[.int .i64 6,.int .i64 y1,.int .i64 y2] 50)).out.cells.2.1
       have e2:(wr.alloc (.cells #[.int .i64 6,.int .i64 y1,.int .i64 y2] 50)).cell? ⟨g,off+j*3+2,none⟩=some (.int .i64 y2):=(World.cell?_alloc_lt wr _ _ hgl).trans p2
       clear hx Y N O2 D2 B2 D1 B1 hR
       go_wp2
       go_roundw
       case rel=>exact ⟨j+1,by omega,by go_num,(D3 _).out,(R3 _).out,(B3 _).out⟩
       case measure=>simp [intOf];omega
      ·have hx:=N.out fun q=>absurd q.2.2 (by omega)
       rw [hx] at O2
       subst k6
       clear hx Y N D1 B1 hR
       go_wp2
       go_roundw
       case rel=>exact ⟨j+1,by omega,by go_num,(D2 _).out,(O2 _).out,(B2 _).out⟩
       case measure=>simp [intOf];omega
     ·have hx:=N.out fun q=>absurd q.2.1 (by omega)
      rw [hx] at O2
      subst k6
      clear hx Y N D1 B1 hR
      go_wp2
      go_roundw
      case rel=>exact ⟨j+1,by omega,by go_num,(D2 _).out,(O2 _).out,(B2 _).out⟩
      case measure=>simp [intOf];omega
    ·have hx:=N.out fun q=>k6 q.1
     rw [hx] at O2
     clear hx Y N D1 B1 hR
     go_wp2
     go_roundw
     case rel=>exact ⟨j+1,by omega,by go_num,(D2 _).out,(O2 _).out,(B2 _).out⟩
     case measure=>simp [intOf];omega
   ·have hjn:j=n:=by omega
    subst hjn
    rw [(WE 65536).out] at O1
    go_wp2
    refine bodyPost_end (v:=.tuple #[]) ?_ rfl ⟨rfl,D1.out,O1.out,B1.out⟩
    simp [results,Tryz.results49,go_sem]
end Go.Proofs.YtmnleknehjkmgaaGreatDoor
namespace Go.Proofs.YtmnleknehjkmgaaGreatDoor
open Go.RowKit
theorem acc_any (w:World):Calls Tryz.prog 67 #[] w fun e w'=>e=.returned (.agg #[.int .i64 1,.int .i64 7,.int .i64 0])∧Below w.heap.size w w':=by
 have B0:∀ o,Hid (Below w.heap.size w (w.alloc o)):=fun o=>(Below.refl _ _).alloc (Nat.le_refl _) _
 go_enter Tryz.func67,Tryz.ntmps67
 go_wp2
 refine bodyPost_ret (v:=.agg #[.int .i64 1,.int .i64 7,.int .i64 0]) ?_ rfl ⟨rfl,(B0 _).out⟩
 simp [results,Tryz.results67,go_sem]
theorem canpair_any (r:Int) (w:World):Calls Tryz.prog 69 #[.int .i64 r] w fun e w'=>e=.returned (.agg #[.int .i64 3,.int .i64 r,.int .i64 0])∧Below w.heap.size w w':=by
 have B0:∀ o,Hid (Below w.heap.size w (w.alloc o)):=fun o=>(Below.refl _ _).alloc (Nat.le_refl _) _
 go_enter Tryz.func69,Tryz.ntmps69
 go_wp2
 refine bodyPost_ret (v:=.agg #[.int .i64 3,.int .i64 r,.int .i64 0]) ?_ rfl ⟨rfl,(B0 _).out⟩
 simp [results,Tryz.results69,go_sem]
end Go.Proofs.YtmnleknehjkmgaaGreatDoor
namespace Go.Mixed2
open Go Go.Mixed
section
variable {P:Program} {ops:Array Oper} {md:Region.Mode}
def CS (s:Nat) (C:World→Prop) (listed:Array Bool) (w:World):Prop:=listed.getD s true=false→C w
def wpAnyC (P:Program) (md:Region.Mode) (ops:Array Oper) (n s:Nat) (C:World→Prop) (L:Array Bool→Act→World→Prop):Nat→Array Bool→Act→World→Prop
 | 0,listed,a,w=>CS s C listed w∧L listed a w
 | f+1,listed,a,w=>CS s C listed w∧Region.ready md ops listed≠[]∧∀ i∈Region.ready md ops listed,i<n∧wpOp P ops QF i (wpAnyC P md ops n s C L f (listed.setIfInBounds i true)) a w
theorem wpAnyC_C {n s:Nat} {C:World→Prop} {L:Array Bool→Act→World→Prop} {f:Nat} {listed:Array Bool} {a:Act} {w:World} (h:wpAnyC P md ops n s C L f listed a w):CS s C listed w:=by
 cases f <;> exact h.1
theorem wpAny_of_headC {n g s:Nat} {C:World→Prop} {L:Array Bool→Act→World→Prop} {Q':Exit→Act→World→Prop} (hL:∀ listed a w,L listed a w→wpAny P md ops Q' g listed a w) :
  ∀ (f:Nat) (listed:Array Bool) (a:Act) (w:World),wpAnyC P md ops n s C L f listed a w→wpAny P md ops Q' (f+g) listed a w
 | 0,listed,a,w,h=>by rw [Nat.zero_add];exact hL _ _ _ h.2
 | f+1,listed,a,w,h=>by
  rw [show f+1+g=(f+g)+1 by omega]
  exact ⟨fun h0=>absurd h0 h.2.1,fun i hi=>wpOp_QF (fun a' w' h'=>wpAny_of_headC hL f _ a' w' h') (h.2.2 i hi).2⟩
theorem wpAnyC_first {C D:World→Prop} {n i s:Nat} {oi:Oper} {v:Value} {L:Array Bool→Act→World→Prop} (hi:ops[i]?=some oi) (hsel:∀ (j:Nat) (o:Oper) cs b,ops[j]?=some o→o.op≠.select cs b)
  (hs:Region.sinkB md ops n=true) (hc:Region.chainB md ops n=true) (hn:n<ops.size) (hin:i<n) (his:i≠s)
  (hD:∀ listed w,HeadInv md ops n listed→listed.getD i true=false→CS s C listed w→D w)
  (hdone:∀ listed a w,L listed a w→∀ j∈Region.ready md ops listed,n≤j) :
  ∀ (f:Nat) (listed:Array Bool) (a:Act) (w:World),HeadInv md ops n listed→
   (∀ j oj,ops[j]?=some oj→j≠i→listed.getD j true=false→(∀ e∈oj.after,Region.binds md e=true→e.on≠i)→oi.apart ops oj=true)→
   i∈Region.ready md ops listed→Pure P ops D oi v a→CS s C listed w→
   wpAnyC P md ops n s C L f (listed.setIfInBounds i true) (a.put oi.dst v) w→wpAnyC P md ops n s C L (f+1) listed a w:=by
 intro f
 induction f with
 | zero=>
  intro listed a w inv _ hr hy hCw H
  have hun:=(mem_ready.1 hr).1
  refine ⟨hCw,fun h=>(by rw [h] at hr;cases hr),fun j hj=>?_⟩
  have hjn:j<n:=by
   rcases Nat.lt_or_ge j n with h | h
   ·exact h
   ·exact absurd hj (tail_waits hs hc hn inv _ i rfl hin hun j h)
  refine ⟨hjn,?_⟩
  by_cases hji:j=i
  ·subst hji;exact hy.wpOp hi (hD _ _ inv hun hCw) H
  ·have:=hdone _ _ _ H.2 j (ready_mono hj hji)
   omega
 | succ f ih=>
  intro listed a w inv hfree hr hy hCw H
  have hun:=(mem_ready.1 hr).1
  refine ⟨hCw,fun h=>(by rw [h] at hr;cases hr),fun j hj=>?_⟩
  have hjn:j<n:=by
   rcases Nat.lt_or_ge j n with h | h
   ·exact h
   ·exact absurd hj (tail_waits hs hc hn inv _ i rfl hin hun j h)
  refine ⟨hjn,?_⟩
  by_cases hji:j=i
  ·subst hji;exact hy.wpOp hi (hD _ _ inv hun hCw) H
  ·have h1:=(H.2.2 j (ready_mono hj hji)).2
   obtain ⟨hjun,oj,hoj,hall⟩:=mem_ready.1 hj
   have hnot:∀ e∈oj.after,Region.binds md e=true→e.on≠i:=fun e he hb heq=>by
    have h1:=hall e he hb
    rw [heq,getD_both hun] at h1
    cases h1
   have h2:=Mixed.wpOp_put hoj (hfree j oj hoj hji hjun hnot) (fun cs b=>hsel i oi cs b hi) (fun cs b=>hsel j oj cs b hoj) hy h1
   have hfree':∀ k ok,ops[k]?=some ok→k≠i→(listed.setIfInBounds j true).getD k true=false→
     (∀ e∈ok.after,Region.binds md e=true→e.on≠i)→oi.apart ops ok=true:=fun k ok hk hki hun hno=>by
    refine hfree k ok hk hki ?_ hno
    by_cases hjk:j=k
    ·subst hjk;exact hjun
    ·rw [getD_set_ne true hjk] at hun;exact hun
   refine wpOp_QF (fun a' w' h3=>?_) h2
   obtain ⟨h3,h4⟩:=h3
   rw [Array.setIfInBounds_comm _ _ (fun e=>hji e.symm)] at h4
   have hi':=ready_mono hr (Ne.symm hji)
   refine ih (listed.setIfInBounds j true) a' w' (inv.set hj hjn) hfree' hi' h3 (fun hsl=>?_) h4
   have h5:=wpAnyC_C h4
   refine h5 ?_
   rw [getD_set_ne true his]
   exact hsl
def ordB (md:Region.Mode) (ops:Array Oper) (n g s:Nat):List (Nat×Nat)→Array Bool→Bool
 | [],listed=>Region.seqB md ops g n listed
 | (k,0) :: r,listed=>(Region.ready md ops listed).contains k&&decide (k<n)&&decide (k≠s)&&Region.waitsFor md ops s k&&Region.free md ops listed k&&ordB md ops n g s r (listed.setIfInBounds k true)
 | (k,1) :: r,listed=>(Region.ready md ops listed).contains k&&decide (k<n)&&decide (k≠s)&&Region.free md ops listed k&&ordB md ops n g s r (listed.setIfInBounds k true)
 | (k,_) :: r,listed=>decide (Region.ready md ops listed=[k])&&decide (k<n)&&ordB md ops n g s r (listed.setIfInBounds k true)
def mixedB (md:Region.Mode) (ops:Array Oper) (n s:Nat) (ord:List (Nat×Nat)):Bool:=
 Region.noSelect ops&&decide (n<ops.size)&&decide (ord.length+(ops.size - n)=ops.size)&&Region.sinkB md ops n&&Region.chainB md ops n&&ordB md ops n (ops.size - n) s ord (Array.replicate ops.size false)
def wpMix (P:Program) (ops:Array Oper) (s:Nat) (C:World→Prop) (T:Act→World→Prop):Bool→List (Nat×Nat)→Act→World→Prop
 | _,[],a,w=>T a w
 | sw,(k,0) :: r,a,w=>match ops[k]? with
  | none=>False
  | some o=>∃ v,Pure P ops C o v a∧wpMix P ops s C T sw r (a.put o.dst v) w
 | sw,(k,1) :: r,a,w=>match ops[k]? with
  | none=>False
  | some o=>∃ v,Pure P ops (fun _=>True) o v a∧wpMix P ops s C T sw r (a.put o.dst v) w
 | sw,(k,_) :: r,a,w=>wpOp P ops QF k (fun a' w'=>((sw||decide (k=s))=false→C w')∧wpMix P ops s C T (sw||decide (k=s)) r a' w') a w
theorem head_waits {n s k:Nat} {listed:Array Bool} (inv:HeadInv md ops n listed) (hw:Region.waitsFor md ops s k=true) (hk:listed.getD k true=false) (hss:s<listed.size):listed.getD s true=false:=by
 obtain ⟨os,hos,e,he,hb,hon⟩:=Region.waitsFor_spec hw
 cases hl:listed.getD s false with
 | true=>
  have:=inv.closed s os hos hl e he hb
  rw [hon,getD_both hk] at this
  cases this
 | false=>exact getD_in hss hl
theorem wpAnyC_ord {C:World→Prop} {n g s:Nat} {T:Act→World→Prop} (hsel:Region.noSelect ops=true) (hs:Region.sinkB md ops n=true) (hc:Region.chainB md ops n=true) (hn:n<ops.size) :
  ∀ (ord:List (Nat×Nat)) (sw:Bool) (listed:Array Bool) (a:Act) (w:World),HeadInv md ops n listed→(sw=true→listed.getD s true=true)→ordB md ops n g s ord listed=true→CS s C listed w→wpMix P ops s C T sw ord a w→
  wpAnyC P md ops n s C (fun listed' a' w'=>Region.seqB md ops g n listed'=true∧T a' w') ord.length listed a w
 | [],sw,listed,a,w,_,_,hB,hC,h=>⟨hC,hB,h⟩
 | (k,0) :: r,sw,listed,a,w,inv,hsw,hB,hC,h=>by
  simp only [ordB,Bool.and_eq_true,decide_eq_true_eq] at hB
  obtain ⟨⟨⟨⟨⟨hr,hk⟩,hks⟩,hws⟩,hf⟩,hB'⟩:=hB
  have hr':k∈Region.ready md ops listed:=by simpa using hr
  simp only [wpMix] at h
  cases ho:ops[k]? with
  | none=>rw [ho] at h;exact h.elim
  | some o=>
   rw [ho] at h
   obtain ⟨v,hv,hK⟩:=h
   refine wpAnyC_first ho (Region.noSelect_spec hsel) hs hc hn hk hks (fun listed w inv hun hCS=>hCS (head_waits inv hws hun ?_)) (fun listed' a' w' hL=>seqB_ready hL.1) r.length listed a w inv (Region.free_spec ho hf) hr' hv hC
    (wpAnyC_ord hsel hs hc hn r sw _ _ w (inv.set hr' hk) (fun h=>?_) hB' (fun h=>hC ?_) hK)
   ·obtain ⟨os,hos,_⟩:=Region.waitsFor_spec hws
    rw [inv.size]
    exact (Array.getElem?_eq_some_iff.1 hos).1
   ·rw [getD_set_ne true hks];exact hsw h
   ·rw [getD_set_ne true hks] at h;exact h
 | (k,1) :: r,sw,listed,a,w,inv,hsw,hB,hC,h=>by
  simp only [ordB,Bool.and_eq_true,decide_eq_true_eq] at hB
  obtain ⟨⟨⟨⟨hr,hk⟩,hks⟩,hf⟩,hB'⟩:=hB
  have hr':k∈Region.ready md ops listed:=by simpa using hr
  simp only [wpMix] at h
  cases ho:ops[k]? with
  | none=>rw [ho] at h;exact h.elim
  | some o=>
   rw [ho] at h
   obtain ⟨v,hv,hK⟩:=h
   refine wpAnyC_first ho (Region.noSelect_spec hsel) hs hc hn hk hks (fun listed w inv hun hCS=>trivial) (fun listed' a' w' hL=>seqB_ready hL.1) r.length listed a w inv (Region.free_spec ho hf) hr' hv hC
    (wpAnyC_ord hsel hs hc hn r sw _ _ w (inv.set hr' hk) (fun h=>?_) hB' (fun h=>hC ?_) hK)
   ·rw [getD_set_ne true hks];exact hsw h
   ·rw [getD_set_ne true hks] at h;exact h
 | (k,m+2) :: r,sw,listed,a,w,inv,hsw,hB,hC,h=>by
  simp only [ordB,Bool.and_eq_true,decide_eq_true_eq] at hB
  obtain ⟨⟨hr,hk⟩,hB'⟩:=hB
  simp only [wpMix] at h
  have hne:Region.ready md ops listed≠[]:=by rw [hr];exact List.cons_ne_nil _ _
  refine ⟨hC,hne,fun i hi=>?_⟩
  rw [hr] at hi
  have hik:i=k:=by simpa using hi
  subst hik
  have hks:i<listed.size:=by rw [inv.size];omega
  refine ⟨hk,wpOp_QF (fun a' w' h'=>?_) h⟩
  refine wpAnyC_ord hsel hs hc hn r _ _ a' w' (inv.set (by rw [hr];exact List.mem_singleton.2 rfl) hk) (fun h=>?_) hB' (fun hsl=>h'.1 ?_) h'.2
  ·by_cases e:i=s
   ·subst e;simp [hks]
   ·rw [getD_set_ne true e]
    simp only [decide_eq_false e,Bool.or_false] at h
    exact hsw h
  ·by_cases e:i=s
   ·subst e;simp [hks] at hsl
   ·rw [getD_set_ne true e] at hsl
    cases sw with
    | true=>rw [hsw rfl] at hsl;cases hsl
    | false=>simp [e]
theorem wp_region_mixed {id:Nat} {Q:Exit→Act→World→Prop} {a:Act} {w:World} {l:List Oper} (C:World→Prop) (n s:Nat) (ord:List (Nat×Nat)) (hm:P.follows .mixedOrders=true) (hB:mixedB .any l.toArray n s ord=true)
  (hC:C w.drew) (h:wpMix P l.toArray s C (fun a' w'=>wpList P l.toArray Q (l.drop n) a' w') false ord a w.drew):(Code.region id l.toArray true).wp P Q a w:=by
 simp only [mixedB,Bool.and_eq_true,decide_eq_true_eq] at hB
 obtain ⟨⟨⟨⟨⟨hsel,hn⟩,hlen⟩,hs⟩,hc⟩,hord⟩:=hB
 have hdl:(l.drop n).length=l.toArray.size - n:=by simp
 have inv0:HeadInv .any l.toArray n (Array.replicate l.toArray.size false):=
  ⟨by simp,fun j oj _ hl=>(by rw [getD_replicate_false] at hl;cases hl),fun t _ ht=>getD_in (by simpa using ht) (getD_replicate_false _ _)⟩
 have H:=wpAnyC_ord (s:=s) hsel hs hc hn ord false _ a w.drew inv0 (fun h=>by cases h) hord (fun _=>hC) h
 refine wp_region_any hm ?_
 have:=wpAny_of_headC (Q':=Q) (g:=l.toArray.size - n) (fun listed a' w' hL=>by
  have:=wpAny_of_seq (md:=.any) (Q':=Q) (l.drop n) n listed a' w' (fun j=>by simp [List.getElem?_drop]) (by rw [hdl];exact hL.1) hL.2
  rwa [hdl] at this) _ _ _ _ H
 rw [hlen] at this
 exact this
theorem wpMix_held {s:Nat} {sw:Bool} {C:World→Prop} {T:Act→World→Prop} {k:Nat} {r:List (Nat×Nat)} {a:Act} {w:World} {o:Oper} (ho:ops[k]?=some o) (hw:Region.wanted o (yielded ops a.tmps)=true) (v:Value)
  (hv:∀ w,C w→(execOp a.eval o).run P w=.ok (.value v) w) (h:wpMix P ops s C T sw r (a.put o.dst v) w):wpMix P ops s C T sw ((k,0) :: r) a w:=by
 simp only [wpMix,ho]
 exact ⟨v,.inl ⟨hw,hv⟩,h⟩
theorem wpMix_pure {s:Nat} {sw:Bool} {C:World→Prop} {T:Act→World→Prop} {k:Nat} {r:List (Nat×Nat)} {a:Act} {w:World} {o:Oper} (ho:ops[k]?=some o) (hw:Region.wanted o (yielded ops a.tmps)=true) (v:Value)
  (hv:∀ w,(execOp a.eval o).run P w=.ok (.value v) w) (h:wpMix P ops s C T sw r (a.put o.dst v) w):wpMix P ops s C T sw ((k,1) :: r) a w:=by
 simp only [wpMix,ho]
 exact ⟨v,.inl ⟨hw,fun w _=>hv w⟩,h⟩
theorem wpMix_move {s:Nat} {sw:Bool} {C:World→Prop} {T:Act→World→Prop} {k:Nat} {r:List (Nat×Nat)} {a:Act} {w:World} {o:Oper} (ho:ops[k]?=some o) (hw:Region.wanted o (yielded ops a.tmps)=true) (x:Operand) (hx:o.op=.move x) (v:Value)
  (hv:a.eval x=v) (h:wpMix P ops s C T sw r (a.put o.dst v) w):wpMix P ops s C T sw ((k,1) :: r) a w:=by
 subst hv
 exact wpMix_pure ho hw _ (fun w=>by unfold execOp;simp [hx]) h
theorem wpMix_loud {s:Nat} {sw:Bool} {C:World→Prop} {T:Act→World→Prop} {k:Nat} {r:List (Nat×Nat)} {a:Act} {w:World} {o:Oper} (ho:ops[k]?=some o)
  (h:wpList P ops (QK fun a' w'=>((sw||decide (k=s))=false→C w')∧wpMix P ops s C T (sw||decide (k=s)) r a' w') [o] a w):wpMix P ops s C T sw ((k,2) :: r) a w:=by
 simp only [wpMix]
 unfold wpOp
 simp only [ho]
 simp only [wpList] at h
 split
 ·rename_i hw
  simp only [hw,if_true] at h
  rcases h with h | h
  ·exact .inl (upon_QK h)
  ·exact absurd h.2 (not_letsOut_QK _)
 ·rename_i hw
  simp only [hw] at h
  exact h
end
end Go.Mixed2
