/-
  Str, OpR, TbA, TbB, ShT, CmA, Fr, ShC, Stops.
-/
import Derived.Test.YtecpnfhpcamljaaGreatDoorKAB
import Derived.Lib.MakeNoZero
import Derived.Lib.IndexMore
set_option linter.all false
set_option maxRecDepth 100000
set_option maxHeartbeats 4000000
namespace Go.Proofs.YtecpnfhpcamljaaGreatDoor.St
open Tryz
open Go.RowKit Go.Proofs.YtecpnfhpcamljaaGreatDoor
theorem below_drewN' (w:World) (h:Nat):Below w.heap.size w (w.drewN h):=⟨rfl,rfl,rfl,Qa _,fun _ _=>rfl⟩
def qwz (A:Option Addr) (l m:Nat):Option Addr:=if m=l then A else A.map (·.add (l*1))
theorem qp1 (A:Option Addr) (m:Nat):qwz A 0 m=A:=by
 unfold qwz;split
 ·rfl
 ·cases A <;> simp [Addr.add]
theorem qtL:prog.elem 35=5:=by unfold Program.elem;rw [underlying35]
theorem qzS:prog.underlying 35=some (.slice (prog.elem 35)):=by rw [qtL];exact underlying35
theorem qzd (A:Option Addr) (h cap n:Nat) (q:n<=cap) (w:World) :
  (Instr.slice 35 (.slice A h cap) none (some (.int .i64 (n:Int))) none).run prog w=.ok (.slice A n cap) w:=by
 rw [run_slice_h w 35 A h cap qzS .i64 (n:Int) (by omega) (by omega),qtL,Tryz.sizeOf5];simp only [Result.andThen_ok,sliced];have e:=qp1 A cap;unfold qwz at e;rw [e,show ((n:Int)).toNat - 0=n by omega,Nat.sub_zero]
structure KeptP (P:Nat->Prop) (w w':World):Prop where
 os:w'.os=w.os
 tape:w'.tape=w.tape
 output:w'.output=w.output
 size:w.heap.size<=w'.heap.size
 block:∀ i,i<w.heap.size->P i->w'.heap[i]?=w.heap[i]?
theorem KeptP.refl (P:Nat->Prop) (w:World):KeptP P w w:=⟨rfl,rfl,rfl,Qa _,fun _ _ _=>rfl⟩
theorem KeptP.trans {P:Nat->Prop} {w w1 w2:World} (h:KeptP P w w1) (k:KeptP P w1 w2):KeptP P w w2:=
 ⟨k.os.trans h.os,k.tape.trans h.tape,k.output.trans h.output,Qj h.size k.size,fun q y i=>(k.block q (Zk y h.size) i).trans (h.block q y i)⟩
theorem KeptP.mono {P Q:Nat->Prop} {w w':World} (h:KeptP P w w') (y:∀ i,i<w.heap.size->Q i->P i):KeptP Q w w':=⟨h.os,h.tape,h.output,h.size,fun i q z=>h.block i q (y i q z)⟩
theorem KeptP.of_below {P:Nat->Prop} {B:Nat} {w w':World} (h:Below B w w') (q:∀ i,i<w.heap.size->P i->i<B):KeptP P w w':=⟨h.os,h.tape,h.output,h.size,fun i z y=>h.block i (q i z y)⟩
theorem KeptP.qBo {P:Nat->Prop} {w w':World} (h:Below w.heap.size w w'):KeptP P w w':=KeptP.of_below h fun q i _=>i
theorem KeptP.below {P:Nat->Prop} {B:Nat} {w w':World} (h:KeptP P w w') (y:∀ i,i<B->P i) (z:B<=w.heap.size):Below B w w':=⟨h.os,h.tape,h.output,h.size,fun i q=>h.block i (by omega) (y i q)⟩
theorem KeptP.setCell {P:Nat->Prop} {w w':World} (h:KeptP P w w') {p:Addr} (e:¬P p.block) (u:Value):KeptP P w (w'.setCell p u):=
 h.trans ⟨rfl,rfl,rfl,by simp [World.setCell],fun y z q=>Below.heap_setCell _ _ _ _ (fun i=>e (i ▸ q))⟩
theorem KeptP.put {P:Nat->Prop} (w:World) (p:Addr) (h:¬P p.block) (u:Value):KeptP P w (w.setCell p u):=(KeptP.refl _ _).setCell h u
theorem KeptP.alloc {P:Nat->Prop} {w w':World} (h:KeptP P w w') (o:Obj):KeptP P w (w'.alloc o):=
 h.trans ⟨rfl,rfl,rfl,by simp,fun q i _=>Below.heap_alloc _ _ _ i⟩
theorem KeptP.drew {P:Nat->Prop} {w w':World} (h:KeptP P w w'):KeptP P w w'.drew:=⟨h.os,h.tape,h.output,h.size,h.block⟩
theorem KeptP.drewN {P:Nat->Prop} {w w':World} (h:KeptP P w w') (n:Nat):KeptP P w (w'.drewN n):=⟨h.os,h.tape,h.output,h.size,h.block⟩
theorem KeptP.grown {P:Nat->Prop} {w w1 w2:World} {row:Option Nat} (q:KeptP P w w1) (e:w1.grownBy w2 row) (z:∀ k,row=some k->¬P k):KeptP P w w2:=
 q.trans ⟨e.os,e.tape,e.output,e.size,fun h y i=>e.block h y (fun E=>z h E.symm i)⟩
theorem KeptP.cell {P:Nat->Prop} {w w':World} (q:KeptP P w w') {p:Addr} (y:p.block<w.heap.size) (h:P p.block):w'.cell? p=w.cell? p:=Q1 (w:=w) (q.block p.block y h)
theorem KeptP.frozen {P:Nat->Prop} {w w':World} (q:KeptP P w w') {p:Addr} (y:p.block<w.heap.size) (h:P p.block):w'.frozen? p=w.frozen? p:=World.frozen?_of_block (w:=w) (q.block p.block y h)
def qbc (P:Nat->Prop) (w:World) (A:Option Addr) (xs:List UInt8):Prop:=
 xs=[]\/∃ b j,A=some ⟨b,j,none⟩/\P b/\∀ h (q:h<xs.length),w.cell? ⟨b,j+h,none⟩=some (.int .u8 (xs[h].toNat:Int))
theorem qbc.at_ {P:Nat->Prop} {w:World} {A:Option Addr} {xs:List UInt8} (y:qbc P w A xs) {k:Nat} (q:k<xs.length):∃ h b,A=some ⟨h,b,none⟩/\w.cell? ⟨h,b+k,none⟩=some (.int .u8 (xs[k].toNat:Int)):=by
 rcases y with rfl | ⟨h,b,rfl,_,z⟩
 ·simp at q
 ·exact ⟨h,b,rfl,z k q⟩
theorem qbc.mono {P Q:Nat->Prop} {w:World} {A:Option Addr} {xs:List UInt8} (z:qbc P w A xs) (E:∀ i,i<w.heap.size->P i->Q i):qbc Q w A xs:=by
 by_cases q:xs=[]
 ·exact .inl q
 ·rcases z with rfl | ⟨b,G,rfl,y,h⟩
  ·exact .inl rfl
  ·exact .inr ⟨b,G,rfl,E b (Qq w _ (h 0 (Zp.2 q))) y,h⟩
theorem qbc.blocks {P:Nat->Prop} {w w':World} {A:Option Addr} {xs:List UInt8} (z:qbc P w A xs) (G:∀ i,i<w.heap.size->P i->w'.heap[i]?=w.heap[i]?):qbc P w' A xs:=by
 rcases z with rfl | ⟨h,E,rfl,b,j⟩
 ·exact .inl rfl
 ·refine .inr ⟨h,E,rfl,b,fun q y=>?_⟩
  exact (Q1 (w:=w) (G h (Qq w _ (j q y)) b)).trans (j q y)
theorem qbc.below {P:Nat->Prop} {w w':World} {A:Option Addr} {xs:List UInt8} (i:qbc P w A xs) (y:Below w.heap.size w w'):qbc P w' A xs:=i.blocks fun h q _=>y.block h q
theorem qbc.kept {P Q:Nat->Prop} {w w':World} {A:Option Addr} {xs:List UInt8} (y:qbc P w A xs) (E:KeptP Q w w') (z:∀ i,i<w.heap.size->P i->Q i):qbc P w' A xs:=y.blocks fun i h q=>E.block i h (z i h q)
theorem qbc.drewN {P:Nat->Prop} {w:World} {A:Option Addr} {xs:List UInt8} (h:qbc P w A xs) (n:Nat):qbc P (w.drewN n) A xs:=h.blocks fun _ _ _=>rfl
def strOf (xs:List UInt8):ByteArray:=⟨xs.toArray⟩
theorem qA1 (x:List UInt8):(strOf x).data.toList=x:=by simp [strOf]
theorem qBw (s:ByteArray):strOf s.data.toList=s:=by apply qah;rw [qA1]
def Bld (b:Nat) (w:World) (p v:Value) (h:List UInt8):Prop:=
 w.heap[b]?=some (.cells #[p,v] 100 (0,0))/\w.ownsRow 0 5 1 v h.length (h.map u8V)/\v.ownBlock≠some b
def qcT (b:Nat):Value:=.pointer (some ⟨b,0,none⟩)
theorem Bld.lt {b:Nat} {w:World} {p v:Value} {q:List UInt8} (h:Bld b w p v q):b<w.heap.size:=lt_of_block h.1
theorem Bld.c0 {b:Nat} {w:World} {p v:Value} {q:List UInt8} (h:Bld b w p v q):w.cell? ⟨b,0,none⟩=some p:=by rw [C9 h.1];rfl
theorem Bld.c1 {b:Nat} {w:World} {p v:Value} {q:List UInt8} (h:Bld b w p v q):w.cell? ⟨b,1,none⟩=some v:=by rw [C9 h.1];rfl
theorem Bld.f {b:Nat} {w:World} {p v:Value} {q:List UInt8} (h:Bld b w p v q) (j:Nat):w.frozen? ⟨b,j,none⟩=false:=Qp h.1 j
theorem Bld.shape {b:Nat} {w:World} {p v:Value} {q:List UInt8} (h:Bld b w p v q):w.shape? b=some (100,2):=by simp [World.shape?,h.1]
theorem Bld.fresh (w:World) (n:Nat) (h:w.heap.size=n):Bld n (w.alloc (.cells #[.pointer none,.slice none 0 0] 100)) (.pointer none) (.slice none 0 0) []:=by
 subst h;exact ⟨heap_alloc_new w _,Zm _ _ _ _,by simp [Value.ownBlock]⟩
theorem Bld.set0 {b:Nat} {w:World} {p v:Value} {e:List UInt8} (q:Bld b w p v e) (h:Value):Bld b (w.setCell ⟨b,0,none⟩ h) h v e:=by
 obtain ⟨z,y,k⟩:=q;refine ⟨by simp [World.setCell,Array.getElem?_modify,z],?_,k⟩;exact y.kept (row:=some b) ⟨rfl,rfl,rfl,by simp [World.setCell],fun J _ E=>Below.heap_setCell _ _ _ _ (fun G=>E (by simp [G]))⟩ (Or.inr k)
theorem qxT:(100 : TypeId)≠5:=by decide
theorem Bld.set1 {b:Nat} {w:World} {p v h:Value} {e:List UInt8} (q:w.heap[b]?=some (.cells #[p,v] 100 (0,0))) (k:w.ownsRow 0 5 1 h e.length (e.map u8V)):Bld b (w.setCell ⟨b,1,none⟩ h) p h e:=by
 have y:=Lib.ownBlock_ne k q qxT;refine ⟨by simp [World.setCell,Array.getElem?_modify,q],?_,y⟩;exact k.kept (row:=some b) ⟨rfl,rfl,rfl,by simp [World.setCell],fun G _ z=>Below.heap_setCell _ _ _ _ (fun E=>z (by simp [E]))⟩ (Or.inr y)
theorem Bld.kept {b:Nat} {P:Nat->Prop} {w w':World} {p v:Value} {y:List UInt8} (J:Bld b w p v y) (k:KeptP P w w') (E:P b) (M:∀ g,v.ownBlock=some g->P g):Bld b w' p v y:=by
 obtain ⟨q,O,U⟩:=J;refine ⟨(k.block b (lt_of_block q) E).trans q,?_,U⟩;obtain ⟨G,h⟩:=O;refine ⟨G,?_⟩;rcases h with h | ⟨g,z,V,rfl,K,r,T⟩
 ·exact .inl h
 ·exact .inr ⟨g,z,V,rfl,K,(k.block g (lt_of_block r) (M g rfl)).trans r,T⟩
theorem qdP:∃ h,prog.info? 100=some h/\h.size=2:=Option.map_eq_some_iff.1 (show (prog.info? 100).map (·.size)=some 2 by kernel_rfl)
theorem qgq:liesAt prog prog.depth 100 (2 / prog.cellsOf 100) 0 100 1=true:=by kernel_rfl
theorem qgL (b:Nat) (w:World) (v:Value) (j:List UInt8) (e:Bld b w (qcT b) v j) :
  Calls prog 115 #[.pointer (some ⟨b,0,none⟩)] w fun z h=>z=.returned (.tuple #[])/\w=h:=by
 obtain ⟨E,q,_⟩:=qdP;have y:=e.c0;unfold qcT at y;have G:=Lib.run_neq_ptr_same (P:=prog) w ⟨b,0,none⟩ underlying98 q;clear e
 go_enter func115,ntmps115
 go_wp2
 go_end0
 exact ⟨rfl,rfl⟩
theorem qgr (b:Nat) (w:World) (v:Value) (E:List UInt8) (h:Bld b w (.pointer none) v E) :
  Calls prog 115 #[.pointer (some ⟨b,0,none⟩)] w fun e z=>e=.returned (.tuple #[])/\w.setCell ⟨b,0,none⟩ (.pointer (some ⟨b,0,none⟩))=z:=by
 obtain ⟨J,j,y⟩:=qdP;have K:=h.c0;have G:=h.f 0;have q:=h.shape;clear h
 go_enter func115,ntmps115
 go_wp2;rw [Lib.run_to_unsafe w ⟨b,0,none⟩ underlying98 underlying208 j (by rw [y];decide) q (Nat.zero_lt_succ 1)];simp only [Result.andThen];rw [Oper.upon_value];go_wp2;rw [run_callFunc_extern func168 (by kernel_rfl) (by kernel_rfl) (by kernel_rfl) (e:=Extern.AbiNoEscape.same) (by kernel_rfl)];rw [Lib.run_noEscape];simp only [Result.andThen];rw [Oper.upon_value];go_wp2;rw [Lib.run_from_unsafe w ⟨b,0,none⟩ underlying208 underlying98 j q qgq];simp only [Result.andThen];rw [Oper.upon_value];go_wp2
 go_end0
 exact ⟨rfl,rfl⟩
theorem qe4 (s:ByteArray):Lib.strCells s=s.data.toList.map u8V:=rfl
theorem qvD {w:World} {v:Value} {b:List UInt8} (O:w.ownsRow 0 5 1 v b.length (b.map u8V)) (s:ByteArray) (ag:b.length+s.size<=140737488355328) (ty:TypeId) :
  ∃ q h,(Builtin.append_ #[35,9] ty #[v,.string s]).run prog w=.ok q h/\h.ownsRow 0 5 1 q (b++s.data.toList).length ((b++s.data.toList).map u8V)/\w.grownBy h v.ownBlock/\
   ∀ g,q.ownBlock=some g->v.ownBlock=some g\/w.heap.size<=g:=by
 obtain ⟨z,E,U,G,T⟩:=info_parts qkB;have ac:b.length+s.size<=maxLen:=by unfold maxLen;omega
 obtain ⟨q,h,J,W,af,_⟩:=Lib.run_append_own_string (P:=prog) w 0 35 9 ty 5 z underlying35 underlying9 E U G T v b.length (b.map u8V) O s ac ag (Qu _);refine ⟨q,h,J,?_,af,?_⟩
 ·rw [qe4] at W
  rw [Qk,Zg];have e:s.data.toList.length=s.size:=by simp
  rw [e];exact W
 ·intro g M
  rcases O.2 with ⟨rfl,ap⟩ | ⟨y,K,ai,rfl,aj,ab,an,ao,aq,am⟩
  ·obtain ⟨ar,ak,j,ah,_⟩:=Lib.run_append_own_string (P:=prog) w w.heap.size 35 9 ty 5 z underlying35 underlying9 E U G T (.slice none 0 0) 0 [] (Zm _ _ _ _) s (by unfold maxLen;omega) (by omega) (Qa _)
   have e:=J.symm.trans j;injection e with u V
   subst u;exact .inr (ah.lt g M).1
  ·by_cases ae:b.length+s.size<=K
   ·have j:=Lib.run_append_room_string (P:=prog) w 35 9 ty 5 z underlying35 underlying9 E G y b.length K ai ab s ae (by omega)
    have e:=J.symm.trans j;injection e with u V
    subst u;exact .inl M
   ·have ad:∀ Z aa,(b.map u8V)[Z]?=some aa->w.cell? ((⟨y,0,none⟩:Addr).add Z)=some aa:=O.cells (g:=y) rfl
    have j:=Lib.run_append_grow_string (P:=prog) w 35 9 ty 5 z (.int .u8 0) underlying35 underlying9 E U ⟨y,0,none⟩ b.length K (b.map u8V) (by rw [G];simp) ad s (by omega) (by omega) (by rw [T];exact growslice_fits (by omega) (by omega));have e:=J.symm.trans j;injection e with u V
    subst u;simp only [Value.ownBlock,Qv] at M;exact .inr (by omega)
theorem qdF {w w1:World} {t u ty:TypeId} {v h:Value} {s:ByteArray} (y:(Builtin.append_ #[t,u] ty #[v,.string s]).run prog w=.ok h w1) {ops:Array Oper} {rest:List Oper} {o:Oper} {a:Act} {Q:Exit->Act->World->Prop} (G:o.guard=none) (sl x:Operand)
  (K:o.op=.call {callee:=.builtin .append,args:=#[sl,x],argTypes:=#[t,u]}) (z:o.type=ty) (E:a.eval sl=v) (M:a.eval x=.string s) (J:wpList prog ops Q rest (a.put o.dst h) w1):wpList prog ops Q (o :: rest) a w:=by
 subst z;refine wpList_plain G fun O q=>?_
 unfold Oper.wp;simp [execOp,K,resolve,invoke,builtin,E,M,y,Result.andThen];exact q _ _ J
theorem qlO:prog.cellsOf 5=1:=by kernel_rfl
theorem qkF (B b:Nat) (w:World) (p v:Value) (e:List UInt8) (z:e≠[]) (N:Bld b w p v e) (y:∀ g,v.ownBlock=some g->B<=g) :
  Calls prog 69 #[.pointer (some ⟨b,0,none⟩)] w fun K U=>K=.returned (.string (strOf e))/\Below B w U:=by
 obtain ⟨r,q,aa⟩:=N;have W:e.length≠0:=by simpa using z
 obtain ⟨g,h,j,rfl,-,x,ag,ae,E,ac⟩:∃ g h j,v=.slice (some ⟨g,0,none⟩) e.length h/\0<=g/\w.heap[g]?=some (.cells j 5 (0,0))/\e.length<=h/\h<=maxLen/\j.size=h*1/\j.toList.take (e.length*1)=e.map u8V:=by
  rcases q.2 with ⟨_,V⟩ | ⟨g,h,j,O,Z⟩
  ·exact absurd V W
  ·exact ⟨g,h,j,O,Z⟩
 have ah:w.drew.cell? ⟨b,1,none⟩=some (.slice (some ⟨g,0,none⟩) e.length h):=by
  have:w.drew.heap[b]?=some (.cells #[p,.slice (some ⟨g,0,none⟩) e.length h] 100 (0,0)):=r;rw [C9 this];rfl
 have af:(Builtin.unsafeSliceData_ #[35] 152 #[.slice (some ⟨g,0,none⟩) e.length h]).run prog w.drew=.ok (.pointer (some ⟨g,0,none⟩)) w.drew:=
  Lib.run_unsafeSliceData_row _ _ _ _ _ _ (by omega)
 have ai:(Builtin.unsafeString_ #[152,3] 9 #[.pointer (some ⟨g,0,none⟩),.int .i64 e.length]).run prog w.drew=.ok (.string (strOf e)) (w.drew.freeze ⟨g,0,none⟩ e.length):=by
  refine Lib.run_unsafeString_row w.drew 152 3 9 5 underlying152 qlO g j.size (by have G:w.drew.heap[g]?=some (.cells j 5 (0,0)):=x;simp [World.shape?,G]) e z (by omega) (by unfold maxLen at ae;omega) ?_;intro ab M ad;have:=q.cells (g:=g) rfl ab (.int .u8 M.toNat) (by simp [u8V,ad]);exact this
 have J:=y g rfl;have T:Hid (Below B w (w.drew.freeze ⟨g,0,none⟩ e.length)):=Lib.below_freeze (Below.drew (Qc B w)) (p:=⟨g,0,none⟩) J _;clear y r q aa x ac E
 go_enter func69,ntmps69
 go_wp2
 go_region
 all_goals (go_wp2;go_ret;exact ⟨rfl,T.o⟩)
theorem run_append_nothing (w:World) (base:Nat) (t ty e:TypeId) (size:Nat) (q:prog.underlying t=some (.slice e)) (h:∀ w,(sizeOf e).run prog w=.ok size w)
  (v:Value) (n:Nat) (xs:List Value) (y:w.ownsRow base e size v n xs) (A:Option Addr) (c:Nat) :
  (Builtin.append_ #[t,t] ty #[v,.slice A 0 c]).run prog w=.ok v w:=by
 have x:∀ g,(loadCells g 0).run prog w=.ok #[] w:=fun g=>by simpa using run_loadCells_list (P:=prog) w g [] (by simp)
 rcases y.2 with ⟨rfl,J⟩ | ⟨M,G,T,rfl,E,K,z,O,_⟩
 ·cases A <;> simp [Builtin.append_,run_underlying q,h,Builtin.lenOf,Builtin.firstCells,x]
 ·cases A <;> simp [Builtin.append_,run_underlying q,h,Builtin.lenOf,Builtin.firstCells,x,z,storeCells] <;> omega
theorem qa4 (w:World) (base:Nat) (t ty e:TypeId) (i:TypeInfo) (z:Value) (size bytes:Nat) (J:prog.underlying t=some (.slice e)) (M:prog.info? e=some i) (Z:i.zero=some z)
  (G:i.size=size) (ah:i.bytes=bytes) (ad:z.cells.size=size) (af:0<size)
  (v:Value) (n:Nat) (xs:List Value) (E:w.ownsRow base e size v n xs)
  (A:Option Addr) (m c:Nat) (h:List Value) (ab:h.length=m*size) (W:m=0\/∃ a,A=some a/\∀ j u,h[j]?=some u->w.cell? (a.add j)=some u) (T:∀ u∈h,u.oneCell'=true)
  (U:n+m<=maxLen) (ae:(n+m)*bytes<=140737488355328) (ag:base<=w.heap.size) :
  ∃ y q,(Builtin.append_ #[t,t] ty #[v,.slice A m c]).run prog w=.ok y q/\q.ownsRow base e size y (n+m) (xs++h)/\w.grownBy q v.ownBlock:=by
 by_cases K:m=0
 ·subst K
  have O:h=[]:=Qw (by omega);subst O;refine ⟨v,w,run_append_nothing w base t ty e size J (fun w=>?_) v n xs E A c,?_,World.grownBy.refl _ _⟩
  ·simp [sizeOf,typeInfo,M,G]
  ·simpa using E
 ·obtain ⟨a,rfl,V⟩:=W.resolve_left K
  obtain ⟨y,q,ai,ac,aa,_⟩:=run_append_own (P:=prog) w base t ty e i z size bytes J M Z G ah ad af v n xs E a m c h ab V T U ae ag;exact ⟨y,q,ai,ac,aa⟩
theorem qal {w w1:World} {t ty:TypeId} {v h q:Value} (z:(Builtin.append_ #[t,t] ty #[v,h]).run prog w=.ok q w1) {ops:Array Oper} {rest:List Oper} {o:Oper} {a:Act} {Q:Exit->Act->World->Prop} (J:o.guard=none) (s x:Operand)
  (M:o.op=.call {callee:=.builtin .append,args:=#[s,x],argTypes:=#[t,t]}) (E:o.type=ty) (G:a.eval s=v) (O:a.eval x=h) (K:wpList prog ops Q rest (a.put o.dst q) w1):wpList prog ops Q (o :: rest) a w:=by
 subst E;refine wpList_plain J fun T y=>?_
 unfold Oper.wp;simp [execOp,M,resolve,invoke,builtin,G,O,z,Result.andThen];exact y _ _ K
theorem qbc.news {P:Nat->Prop} {w:World} {A:Option Addr} {xs:List UInt8} (z:qbc P w A xs):xs.length=0\/∃ a,A=some a/\∀ j h,(xs.map u8V)[j]?=some h->w.cell? (a.add j)=some h:=by
 rcases z with rfl | ⟨u,q,rfl,_,E⟩
 ·exact .inl rfl
 ·refine .inr ⟨_,rfl,fun j h b=>?_⟩
  have G:(⟨u,q,none⟩:Addr).add j=⟨u,q+j,none⟩:=by unfold Addr.add;split <;> simp_all
  rw [Zi] at b;by_cases y:j<xs.length
  ·rw [Qg y] at b
   simp only [Option.map_some,Qv] at b;subst b;rw [G];exact E j y
  ·rw [List.getElem?_eq_none (by omega)] at b;cases b
def qkC (w:World) (xs:List UInt8) (e:Ending) (w':World):Prop:=∃ h q,e=.returned (.slice h xs.length q)/\qbc (w.heap.size<=·) w' h xs/\Below w.heap.size w w'
theorem qej (b:Nat) (w:World) (p v:Value) (h:List UInt8) (z:p=qcT b\/p=.pointer none) (q:Bld b w p v h) :
  Calls prog 115 #[.pointer (some ⟨b,0,none⟩)] w fun y e=>y=.returned (.tuple #[])/\Bld b e (qcT b) v h/\KeptP (·≠b) w e/\e.heap.size=w.heap.size:=by
 rcases z with rfl | rfl
 ·refine (qgL b w v h q).mono ?_
  rintro y e ⟨rfl,rfl⟩;exact ⟨rfl,q,KeptP.refl _ _,rfl⟩
 ·refine (qgr b w v h q).mono ?_
  rintro y e ⟨rfl,rfl⟩;exact ⟨rfl,q.set0 _,KeptP.put _ _ (by simp) _,by simp [World.setCell]⟩
structure BJ (B b:Nat) (w wr:World) (v:Value) (bs:List UInt8):Prop where
 bld:∃ p,(p=qcT b\/p=.pointer none)/\Bld b wr p v bs
 own:∀ g,v.ownBlock=some g->B<=g
 below:Below B w wr
 hb:B<=b
 hw:B<=w.heap.size
theorem BJ.start (w:World):BJ w.heap.size w.heap.size w (w.alloc (.cells #[.pointer none,.slice none 0 0] 100)) (.slice none 0 0) []:=
 ⟨⟨_,.inr rfl,Bld.fresh w _ rfl⟩,fun h g=>by simp [Value.ownBlock] at g,B0,Qa _,Qa _⟩
theorem BJ.more {B b:Nat} {w wr w':World} {v:Value} {h:List UInt8} (E:BJ B b w wr v h) (k:Below wr.heap.size wr w'):BJ B b w w' v h:=by
 obtain ⟨⟨z,y,K⟩,G,p,J,q⟩:=E;exact ⟨⟨z,y,K.kept (KeptP.qBo k) trivial fun _ _=>trivial⟩,G,p.trans (k.mono (Qj q p.size)),J,q⟩
theorem qvJ {B b:Nat} {w w':World} {v:Value} (e:KeptP (fun i=>i≠b/\some i≠v.ownBlock) w w') (E:B<=b) (q:∀ g,v.ownBlock=some g->B<=g) (h:B<=w.heap.size):Below B w w':=
 e.below (fun i z=>⟨by omega,fun y=>by have:=q i y.symm;omega⟩) h
theorem BJ.str {B b:Nat} {w wr:World} {v:Value} {g:List UInt8} (e:BJ B b w wr v g) (s:ByteArray) (ac:g.length+s.size<=140737488355328) :
  Calls prog 68 #[.pointer (some ⟨b,0,none⟩),.string s] wr fun i ao=>i=.returned (.tuple #[.int .i64 s.size,.nilIface])/\∃ h,BJ B b w ao h (g++s.data.toList):=by
 obtain ⟨⟨ar,U,N⟩,ae,aa,ah,ag⟩:=e;have J:=qej b wr ar v g U N;have ak:=J9 (Zb ae (Zb aa (Zb ah ag)));clear U N ae aa ah ag
 go_enter func68,ntmps68
 go_wp2_with fail
 refine J.mono ?_;rintro i aA ⟨rfl,e,q,au⟩;clear J;obtain ⟨h,p,ai,z,y,T⟩:=qvD e.2.1 s ac 35;have aj:=e.lt;have k:p.heap[b]?=some (.cells #[qcT b,v] 100 (0,0)):=by
  rw [y.block b aj (fun i=>e.2.2 i.symm)];exact e.1
 have az:=e.c1;have av:p.cell? ⟨b,1,none⟩=some v:=by rw [C9 k];rfl
 have ax:p.frozen? ⟨b,1,none⟩=false:=Qp k 1;have O:=Bld.set1 k z;have an:Hid (BJ B b w (p.setCell ⟨b,1,none⟩ h) h (g++s.data.toList)):=by
  obtain ⟨ad,af,ab,M⟩:=ak.o;have aD:=Qj M af.size;refine ⟨⟨_,.inl rfl,O⟩,fun G am=>?_,?_,ab,M⟩
  ·rcases T G am with W | W
   ·exact ad G W
   ·omega
  ·refine af.trans (qvJ (b:=b) (v:=v) ((q.mono fun aw _ ap=>ap.1).trans (((KeptP.refl _ _).grown y (fun aB q e=>e.2 q.symm)).setCell (fun e=>e.1 rfl) _)) ab ad (by omega))
 have HR:=J9 ai;obtain ⟨V,Z,K,aq⟩:∃ V Z K,h=.slice V Z K:=by
  rcases z.2 with ⟨E,_⟩ | ⟨G,ay,aC,E,_⟩
  ·exact ⟨_,_,_,E⟩
  ·exact ⟨_,_,_,E⟩
 subst aq;clear O q au T ai z y k e aj ac
 go_wp2_with (at_builtin;refine qdF HR.o rfl _ _ rfl rfl rfl rfl ?_)
 go_ret2
 exact ⟨rfl,_,an.o⟩
theorem BJ.string {B b:Nat} {w wr:World} {v:Value} {e:List UInt8} (y:BJ B b w wr v e) (J:e≠[]) :
  Calls prog 69 #[.pointer (some ⟨b,0,none⟩)] wr fun p h=>p=.returned (.string (strOf e))/\Below B w h:=by
 obtain ⟨⟨q,M,z⟩,E,K,O,-⟩:=y;refine (qkF B b wr q v e J z E).mono ?_;rintro p h ⟨rfl,G⟩;exact ⟨rfl,K.trans G⟩
def qff (P:Nat->Prop) (w:World) (A:Option Addr) (h:List ByteArray):Prop:=
 h=[]\/∃ b q,A=some ⟨b,q,none⟩/\P b/\∀ j (y:j<h.length),w.cell? ⟨b,q+j,none⟩=some (.string h[j])
theorem qff.at_ {P:Nat->Prop} {w:World} {A:Option Addr} {q:List ByteArray} (z:qff P w A q) {k:Nat} (y:k<q.length):∃ h b,A=some ⟨h,b,none⟩/\w.cell? ⟨h,b+k,none⟩=some (.string q[k]):=by
 rcases z with rfl | ⟨h,b,rfl,_,E⟩
 ·simp at y
 ·exact ⟨h,b,rfl,E k y⟩
theorem qff.mono {P Q:Nat->Prop} {w:World} {A:Option Addr} {b:List ByteArray} (E:qff P w A b) (G:∀ i,i<w.heap.size->P i->Q i):qff Q w A b:=by
 by_cases y:b=[]
 ·exact .inl y
 ·rcases E with rfl | ⟨h,J,rfl,z,q⟩
  ·exact .inl rfl
  ·exact .inr ⟨h,J,rfl,G h (Qq w _ (q 0 (Zp.2 y))) z,q⟩
theorem qff.blocks {P:Nat->Prop} {w w':World} {A:Option Addr} {j:List ByteArray} (E:qff P w A j) (J:∀ i,i<w.heap.size->P i->w'.heap[i]?=w.heap[i]?):qff P w' A j:=by
 rcases E with rfl | ⟨h,G,rfl,b,q⟩
 ·exact .inl rfl
 ·refine .inr ⟨h,G,rfl,b,fun y z=>?_⟩
  exact (Q1 (w:=w) (J h (Qq w _ (q y z)) b)).trans (q y z)
theorem qff.below {P:Nat->Prop} {w w':World} {A:Option Addr} {h:List ByteArray} (q:qff P w A h) (z:Below w.heap.size w w'):qff P w' A h:=q.blocks fun i y _=>z.block i y
theorem qxk (g n cap:Nat) (w:World) :
  (Instr.slice 35 (.slice (some ⟨g,0,none⟩) n cap) none (some (.int .i64 (0:Int))) none).run prog w=.ok (.slice (some ⟨g,0,none⟩) 0 cap) w:=
 qzd (some ⟨g,0,none⟩) n cap 0 (Qu _) w
def qum (w:World) (b:Nat) (p:Value) (e:Ending) (w':World):Prop:=
 e=.returned (.tuple #[])/\∃ g,Bld b w' p g []/\(∀ h,g.ownBlock=some h->w.heap.size<=h)/\KeptP (·≠b) w w'
theorem qpL (b:Nat) (w:World) (p:Value) (n:Nat) (V:n<=140737488351232) (g:Bld b w p (.slice none 0 0) []) :
  Calls prog 143 #[.pointer (some ⟨b,0,none⟩),.int .i64 (n:Int)] w (qum w b p):=by
 have ai:w.drew.cell? ⟨b,1,none⟩=some (.slice none 0 0):=g.c1;have aj:=g.lt;have K:=fun w=>Lib.run_makeNoZero (P:=prog) w #[3] 35 5 underlying35 n (by omega)
 have T:w.heap[b]?=some (.cells #[p,.slice none 0 0] 100 (0,0)):=g.1;have J:=J9 T;have ao:(n:Int)<=140737488351232:=by omega
 have M:=J9 V;have an:IntKind.i64.wrap (n:Int)=(n:Int):=by rw [IntKind.wrap_i64];omega
 clear g T V
 go_enter func143,ntmps143
 go_wp2;refine Mixed.qAQ (fun y=>y.cell? ⟨b,1,none⟩=some (.slice none 0 0)) 15
  [(0,true),(1,true),(2,true),(3,true),(4,true),(5,true),(6,true),(7,true),(9,true),(10,true),(11,true),(12,true),(13,true),(8,false),(14,true)] (by kernel_rfl) (by kernel_rfl) ai ?_
 refine Mixed.qAT rfl rfl _ rfl _ rfl ?_;refine Mixed.qAV rfl rfl (.pointer (some ⟨b,0,none⟩)) (fun w g=>by go_simp;try rfl) ?_;refine Mixed.qAV rfl rfl (.pointer (some ⟨b,1,none⟩)) (fun w g=>by go_simp;try rfl) ?_;refine Mixed.qAV rfl rfl (.slice none 0 0) (fun w g=>by go_simp;try rfl) ?_;refine Mixed.qAV rfl rfl (.int .i64 0) (fun w g=>by clear g;go_simp;try rfl) ?_;refine Mixed.qAV rfl rfl (.int .i64 0) (fun w g=>by clear g;go_simp;try rfl) ?_;refine Mixed.qAT rfl rfl _ rfl _ rfl ?_;refine Mixed.qAV rfl rfl (.int .i64 (n:Int)) (fun w g=>by clear g;go_simp) ?_;refine Mixed.qAT rfl rfl _ rfl _ rfl ?_;refine Mixed.qAV rfl rfl (.pointer (some ⟨b,0,none⟩)) (fun w g=>by go_simp;try rfl) ?_;refine Mixed.qAV rfl rfl (.pointer (some ⟨b,1,none⟩)) (fun w g=>by go_simp;try rfl) ?_;refine Mixed.qAV rfl rfl (.slice none 0 0) (fun w g=>by go_simp;try rfl) ?_;refine Mixed.qAV rfl rfl (.int .i64 0) (fun w g=>by clear g;go_simp;try rfl) ?_;refine Mixed.qA5 rfl ?_;go_wp2;obtain ⟨q,W,af,U⟩:=K w.drew;rw [run_callFunc_extern func178 (by kernel_rfl) (by kernel_rfl) (by kernel_rfl) (e:=Extern.BytealgMakeNoZero.makeNoZero #[3] #[35]) (by kernel_rfl),W];simp only [Result.andThen];rw [Oper.upon_value];obtain ⟨h,E⟩:=N9 (w.drew.heap.size);obtain ⟨z,aa⟩:=N9 (w.drew.drew.drew.alloc (.cells q 5));have H:Below w.heap.size w z:=by rw [<- aa];exact ((((Qc _ _).drew).drew).drew).alloc (Qa _) _
 have O:z.heap[h]?=some (.cells q 5 (0,0)):=by rw [<- aa,<- E];exact World.alloc_heap_new _ _
 have G:z.heap[b]?=some (.cells #[p,.slice none 0 0] 100 (0,0)):=(H.block b aj).trans J.o;have Z:h=w.heap.size:=E.symm;have ag:z.cell? ⟨b,1,none⟩=some (.slice none 0 0):=by rw [C9 G];rfl
 have ap:z.frozen? ⟨b,1,none⟩=false:=Qp G 1;have ad:∀ y,(Instr.slice 35 (.slice (some ⟨h,0,none⟩) n q.size) none (some (.int .i64 (0:Int))) none).run prog y=.ok (.slice (some ⟨h,0,none⟩) 0 q.size) y:=fun y=>qxk h n q.size y
 have own:z.ownsRow 0 5 1 (.slice (some ⟨h,0,none⟩) 0 q.size) ([]:List UInt8).length (([]:List UInt8).map u8V):=
  ⟨rfl,.inr ⟨h,q.size,q,rfl,Qu _,O,Qu _,U (Qj M.o (by unfold maxLen;omega)),by simp,by simp⟩⟩
 have ac:=J9 (Bld.set1 G own);have ak:Hid (KeptP (·≠b) w (z.setCell ⟨b,1,none⟩ (.slice (some ⟨h,0,none⟩) 0 q.size))):=(KeptP.qBo H).setCell (by simp) _;have ah:=J9 Z;have am:∀ y,(Builtin.copy_ #[35,35] 3 #[.slice (some ⟨h,0,none⟩) 0 q.size,.slice none 0 0]).run prog y=.ok (.int .i64 0) y:=fun y=>
  run_copy_none (P:=prog) y 35 35 3 5 (some ⟨h,0,none⟩) none 0 q.size 0 0 underlying35 (by kernel_rfl) rfl
 rw [E];clear W af U K H O G own E Z J M;go_wp2;refine ⟨ag,?_⟩;refine Mixed.qAV rfl rfl (.slice (some ⟨h,0,none⟩) 0 q.size) (fun w g=>by clear g;go_simp;try (rw [ad];rfl)) ?_;simp only [Mixed.qAU,Qr,Qx];go_wp2
 go_end0
 exact ⟨rfl,_,ac.o,fun ae ab=>(by have g:=ah.o;have e:h=ae:=(Qs ab);omega),ak.o⟩
theorem BJ.grow {B b:Nat} {w wr:World} (e:BJ B b w wr (.slice none 0 0) []) (n:Nat) (W:n<=140737488351232) :
  Calls prog 95 #[.pointer (some ⟨b,0,none⟩),.int .i64 (n:Int)] wr fun v aj=>v=.returned (.tuple #[])/\∃ y,BJ B b w aj y []:=by
 obtain ⟨⟨ao,Z,V⟩,ap,ab,ad,ac⟩:=e;have q:=qej b wr ao _ _ Z V;have U:=J9 (Zb ab (Zb ad ac));have aw:(n:Int)<=140737488351232:=by omega
 have ah:=J9 W;clear Z V ap ab ad ac W;by_cases an:n=0
 ·subst an
  go_enter func95,ntmps95
  go_wp2_with fail
  refine q.mono ?_;rintro v g ⟨rfl,e,p,M⟩;have ai:=e.c1;have E:∀ z,Hid (BJ B b w (g.drewN z) (.slice none 0 0) []):=fun z=>by
   obtain ⟨h,K,i⟩:=U.o;have J:=(p.drewN z);exact ⟨⟨_,.inl rfl,e.kept (P:=fun _=>True) (KeptP.qBo (below_drewN' g z)) trivial fun _ _=>trivial⟩,fun ae F=>by simp [Value.ownBlock] at F,h.trans (J.below (fun ag am=>by omega) (Qj i h.size)),K,i⟩
  clear q p M e
  go_wp2_with fail
  go_quiet (fail)
  go_wp2
  go_end0
  exact ⟨rfl,_,(E _).o⟩
 ·have ar:(0:Int)<(n:Int):=by omega
  have au:0<n:=by omega
  go_enter func95,ntmps95
  go_wp2_with fail
  refine q.mono ?_;rintro v g ⟨rfl,e,p,M⟩;have ai:=e.c1;have G:=J9 (Zb e p);clear q p M e
  go_wp2_with fail
  go_quiet (fail)
  have O:=qpL b (g.drewN nq) _ n ah.o (G.o.1.kept (P:=fun _=>True) (KeptP.qBo (below_drewN' g nq)) trivial fun _ _=>trivial)
  go_wp2_with fail
  refine O.mono ?_;rintro v ak ⟨rfl,y,T,af,aa⟩;have E:Hid (BJ B b w ak y []):=by
   obtain ⟨h,K,i⟩:=U.o;have J:=(G.o.2.drewN nq).trans aa;exact ⟨⟨_,.inl rfl,T⟩,fun ae F=>by have aq:=af ae F;have ay:=G.o.2.size;have ax:=h.size;have av:(g.drewN nq).heap.size=g.heap.size:=rfl;omega,h.trans (J.below (fun ag am=>by omega) (Qj i h.size)),K,i⟩
  clear O T af aa;go_wp2
  go_end0
  exact ⟨rfl,y,E.o⟩
theorem quf:prog.elem 42=9:=by unfold Program.elem;rw [underlying42]
theorem qzD:prog.underlying 42=some (.slice (prog.elem 42)):=by rw [quf];exact underlying42
theorem qA9 (xs:List UInt8):(strOf xs).size=xs.length:=by
 show xs.toArray.size=_;simp
def qAX:List (List UInt8)->List UInt8
 | []=>[]
 | [x]=>x
 | x :: h :: t=>x++44 :: qAX (h :: t)
theorem qfO:∀ (l:List (List UInt8)) (x:List UInt8),l≠[]->qAX (l++[x])=qAX l++44 :: x
 | [],_,y=>absurd rfl y
 | [q],x,_=>by simp [qAX]
 | q :: h :: t,x,_=>by
  show q++44 :: qAX ((h :: t)++[x])=(q++44 :: qAX (h :: t))++44 :: x;rw [qfO (h :: t) x (by simp)];simp
theorem qBc:∀ (l:List (List UInt8)),l≠[]->(qAX l).length+1=(l.map List.length).sum+l.length
 | [],h=>absurd rfl h
 | [x],_=>by simp [qAX]
 | x :: q :: t,_=>by
  have h:=qBc (q :: t) (by simp);show (x++44 :: qAX (q :: t)).length+1=_;rw [Qk,Qt];rw [List.map_cons,List.sum_cons,Qt];omega
theorem qdU (l:List (List UInt8)) (k:Nat):((l.take k).map List.length).sum<=(l.map List.length).sum:=by
 conv=>rhs;rw [<- List.take_append_drop k l,Zg,List.sum_append]
 omega
theorem qif (l:List (List UInt8)) (k:Nat) (h:k<l.length):((l.take (k+1)).map List.length).sum=((l.take k).map List.length).sum+l[k].length:=by
 rw [QL h,Zg,List.sum_append];simp
theorem qBp (l:List (List UInt8)) (k:Nat) (y:0<k) (e:k<l.length):qAX (l.take (k+1))=(qAX (l.take k)++[44])++l[k]:=by
 have q:l.take k≠[]:=by
  intro h;have:=congrArg List.length h;rw [QH,QP] at this;omega
 rw [QL e,qfO _ _ q];simp
theorem qck (l:List (List UInt8)) (k:Nat) (h:k<=l.length) (G:0<k):(qAX (l.take k)).length<=(qAX l).length:=by
 have y:=qBc (l.take k) (by intro e;have:=congrArg List.length e;rw [QH,QP] at this;omega);have E:=qBc l (by intro e;rw [e,QP] at h;omega);have z:=qdU l k;have q:(l.take k).length=k:=by rw [QH];omega
 rw [q] at y;omega
theorem qzE (A:Option Addr) (h cap n:Nat) (q:n<=h) (w:World) :
  (Instr.slice 42 (.slice A h cap) (some (.int .i64 (n:Int))) none none).run prog w=.ok (.slice (qwz A n cap) (h - n) (cap - n)) w:=by
 rw [run_slice_l w 42 A h cap qzD .i64 (n:Int) (by omega) (by omega),quf,Tryz.sizeOf9];simp only [Result.andThen_ok,sliced];rw [show ((n:Int)).toNat=n by omega];rfl
theorem qBG (P:Nat->Prop) (A:Option Addr) (cap:Nat) (g:List (List UInt8)) (X:2<=g.length) (a0:g.length<=cap) (aS:(qAX g).length<=1000000000) (w:World) (aU:qff P w A (g.map strOf)) :
  Calls prog 71 #[.slice A g.length cap,.string ⟨#[44]⟩] w fun t L=>t=.returned (.string (strOf (qAX g)))/\Below w.heap.size w L:=by
 obtain ⟨k,h,aY,ax,aT⟩:∃ b h,A=some ⟨b,h,none⟩/\b<w.heap.size/\∀ x (m:x<g.length),w.cell? ⟨b,h+x,none⟩=some (.string (strOf g[x])):=by
  rcases aU with m | ⟨b,h,m,-,bh⟩
  ·have:=congrArg List.length m;simp at this;subst this;simp at X
  ·have aJ:∀ x (m:x<g.length),w.cell? ⟨b,h+x,none⟩=some (.string (strOf g[x])):=fun x bf=>by
    have m:=bh x (by rw [QC];exact bf)
    rwa [Zo] at m
   exact ⟨b,h,m,Qq w _ (aJ 0 (by omega)),aJ⟩
 subst aY;have aL:g≠[]:=fun t=>by subst t;simp at X
 have aP:=qBc g aL;obtain ⟨j,ab⟩:=N9 (g.length);have q:=J9 ab;have z:=J9 (Zb ax aT);have an:=J9 aP;have W:=J9 aS;have bt:j<=1000000001:=by omega
 have bA:((j:Int) == 0)=false:=Qm.2 (by omega);have bw:((j:Int) == 1)=false:=Qm.2 (by omega);have bE:(⟨#[44]⟩:ByteArray).size=1:=rfl;rw [ab] at X a0 |-;have bD:decide ((9223372036854775807:Int) / ((j:Int) - 1)<=1)=false:=Qh (by
  have m:=Int.le_ediv_of_mul_le (a:=2) (b:=9223372036854775807) (c:=(j:Int) - 1) (by omega) (by omega);omega)
 clear ab ax aU aT aL aP aS
 go_enter func71,ntmps71
 go_wp2
 go_loopw [5,41] (fun bc E wr=>∃ (e y:Nat),e<=j/\E=.int .i64 e/\bc=.int .i64 y/\Hid (y+1=j+((g.take e).map List.length).sum)/\wr=w) (fun _ E _=>j - (intOf E).toNat)
 case atStart=>exact ⟨0,j - 1,Qu _,rfl,by congr 1;omega,by show _=_;simp;omega,rfl⟩
 case round=>
  obtain ⟨e,y,be,rfl,rfl,aa,rfl⟩:=hrel;have bs:y<=1000000000:=by
   have U:=aa.o;have X:=qdU g e;have ay:=an.o;have bi:=W.o;have bd:=q.o;omega
  by_cases M:e<j
  ·have ar:e<g.length:=by rw [q.o];exact M
   have au:(e:Int)<(j:Int):=(by omega);have O:=z.o.2 e ar;have a3:=qif g e ar;have ac:Hid (y+g[e].length+1=j+((g.take (e+1)).map List.length).sum):=by
    have U:=aa.o;show _=_;omega
   have a1:g[e].length<=1000000000:=by
    have U:=ac.o;have X:=qdU g (e+1);have ay:=an.o;have bi:=W.o;have bd:=q.o;omega
   have aK:(strOf g[e]).size=g[e].length:=qA9 _;obtain ⟨aC,aQ⟩:=N9 (g[e].length);obtain ⟨T,V⟩:=N9 (strOf g[e]);rw [aQ] at aK a1 ac;rw [V] at O aK;have bu:decide ((9223372036854775807:Int) - (y:Int)<(aC:Int))=false:=Qh (by omega);clear a3 aQ V ar;go_wp2;go_roundw
   case rel=>exact ⟨e+1,y+aC,M,by go_num,by first | rfl | go_num,ac.o,by first | rfl | trivial⟩
   case measure=>simp [intOf];omega
  ·have aB:e=j:=by omega
   have au:decide ((e:Int)<(j:Int))=false:=Qh (by omega);have B0:=BJ.start wr;have av:=B0.grow y (by omega);obtain ⟨v,aD⟩:∃ v,j=v+1:=⟨j - 1,by omega⟩;have bv:∀ L,(Instr.slice 42 (.slice (some ⟨k,h,none⟩) j cap) (some (.int .i64 (1:Int))) none none).run prog L=.ok (.slice (some ⟨k,h+1,none⟩) v (cap - 1)) L:=fun L=>by
    have m:=qzE (some ⟨k,h,none⟩) j cap 1 (by omega) L;have bl:qwz (some ⟨k,h,none⟩) 1 cap=some ⟨k,h+1,none⟩:=by
     unfold qwz;rw [Qe (by omega)];rfl
    rw [bl,show j - 1=v by omega] at m;exact m
   have O:=z.o.2 0 (by have:=q.o;omega);have ai:qAX (g.take 1)=g[0]'(by have:=q.o;omega):=by
    have bk:0<g.length:=(by have:=q.o;omega);cases g with
    | nil=>simp at bk
    | cons bB T=>rfl
   have ah:(strOf (g[0]'(by have:=q.o;omega))).size<=1000000000:=by
    have m:=qck g 1 (by have:=q.o;omega) (by omega);rw [ai] at m;rw [qA9];exact Qj m W.o
   have ag:(strOf (g[0]'(by have:=q.o;omega))).data.toList=qAX (g.take 1):=(by rw [qA1,ai]);obtain ⟨T,V⟩:=N9 (strOf (g[0]'(by have:=q.o;omega)));rw [V] at O ah ag;have bm:=J9 ag;have ap:=J9 aD;have bg:=J9 ah;have bx:(v:Int)<=1000000001:=(by omega);have br:=J9 aB;have bq:wr.cell? ⟨k,h,none⟩=some (.string T):=O;clear B0 ai ag V aD ah aB O aa
   go_wp2_with fail
   refine av.mono ?_;rintro t a2 ⟨rfl,bz,am⟩;have aG:=am.str T (by simp;exact Qj bg.o (by decide));have aZ:a2.cell? ⟨k,h,none⟩=some (.string T):=(Q1 (w:=wr) (am.below.block k z.o.1)).trans bq;clear av am
   go_wp2_with fail
   refine aG.mono ?_;rintro t a4 ⟨rfl,bj,ao⟩;rw [List.nil_append,bm.o] at ao;have aW:Hid (∃ K,BJ wr.heap.size wr.heap.size wr a4 K (qAX (g.take 1))):=⟨bj,ao⟩;clear aG ao aZ;go_wp2;obtain ⟨s,bo⟩:∃ s:World,s=wr:=⟨_,rfl⟩;subst bo
   go_loopw [65] (fun E bp=>∃ e,e<=v/\E=.int .i64 (e:Nat)/\Hid (∃ K,BJ s.heap.size s.heap.size s bp K (qAX (g.take (e+1))))) (fun E _=>v - (intOf E).toNat)
   case atStart=>exact ⟨0,Qu _,rfl,aW.o⟩
   case round=>
    clear aW;obtain ⟨e,be,rfl,⟨K,G⟩⟩:=hrel;have aN:(qAX (g.take (e+1))).length<=1000000000:=Qj (qck g (e+1) (by have:=q.o;have:=ap.o;omega) (by omega)) W.o;by_cases M:e<v
    ·have au:(e:Int)<(v:Int):=by omega
     have ak:e+1<g.length:=(by have:=q.o;have:=ap.o;omega);have ae:wr.cell? ⟨k,h+1+e,none⟩=some (.string (strOf g[e+1])):=by
      have m:=(Q1 (w:=s) (a:=⟨k,h+(e+1),none⟩) (G.below.block k z.o.1)).trans (z.o.2 (e+1) ak);rw [show h+1+e=h+(e+1) by omega];exact m
     have a7:(qAX (g.take (e+1+1))).length<=1000000000:=Qj (qck g (e+1+1) (by omega) (by omega)) W.o;have Z:=qBp g (e+1) (by omega) ak;have aq:=qA1 g[e+1];have aH:=qA9 g[e+1];obtain ⟨J,aw⟩:=N9 (strOf g[e+1]);rw [aw] at ae aq aH;rw [<- aq] at Z;have ad:=congrArg List.length Z;rw [Qk,Qk,show J.data.toList.length=J.size from Zf] at ad;have aR:Hid ((qAX (g.take (e+1))).length+1+J.size<=1000000000):=by
      show _<=_;have t:([44]:List UInt8).length=1:=rfl;rw [t] at ad;omega
     have aM:=G.str ⟨#[44]⟩ (by show _+1<=_;have:=aR.o;omega);have a5:=J9 Z;have aO:=J9 G.below;clear Z ad aw aq aH aN a7 ak G
     go_wp2_with fail
     refine aM.mono ?_;rintro t aF ⟨rfl,bC,aj⟩;have aI:s.cell? ⟨k,h+1+e,none⟩=some (.string J):=by
      have M:=z.o.1;rw [<- ae];exact (Q1 (w:=s) (a:=⟨k,h+1+e,none⟩) (aO.o.block k M)).symm
     have a8:aF.cell? ⟨k,h+1+e,none⟩=some (.string J):=(Q1 (w:=s) (a:=⟨k,h+1+e,none⟩) (aj.below.block k z.o.1)).trans aI;have aV:=aj.str J (by have:=aR.o;rw [Qk];show _+1+_<=_;omega);clear aM aj ae aI aO
     go_wp2_with fail
     refine aV.mono ?_;rintro t a9 ⟨rfl,bb,af⟩;rw [<- a5.o] at af;have aX:Hid (∃ K,BJ s.heap.size s.heap.size s a9 K (qAX (g.take (e+1+1)))):=⟨bb,af⟩;clear aV af a8;go_wp2;go_roundw
     case rel=>exact ⟨e+1,M,by go_num,aX.o⟩
     case measure=>simp [intOf];omega
    ·have bn:e=v:=by omega
     have au:decide ((e:Int)<(v:Int))=false:=Qh (by omega);have aA:g.take (e+1)=g:=QW (by have:=q.o;have:=ap.o;omega);rw [aA] at G;have az:=G.string (by
      intro t;have U:=an.o;rw [t] at U;have ay:=q.o;rw [QP] at U;omega)
     clear bn aA G aN
     go_wp2_with fail
     refine az.mono ?_;rintro t aF ⟨rfl,aE⟩;have a6:=J9 aE;clear az aE;go_wp2;go_ret;exact ⟨rfl,a6.o⟩
end Go.Proofs.YtecpnfhpcamljaaGreatDoor.St
namespace Go.Proofs.YtecpnfhpcamljaaGreatDoor
open Tryz
open Go.RowKit
theorem qtW (k r n:Int):(txtS k r n).size<=60:=by
 cases y:qaC k r n
 ·rw [qme k r n y];decide
 ·have z:=qdt k r n y
  have h:∀ s:Fin 11,(nmS s.val r).size<=50:=fun s=>qmK s r
  have G:(nmS 4 r).size<=50:=h 4;have K:(nmS 5 r).size<=50:=h 5;have M:=qcf n;have E:=qcf (n+2);have J:=qau n;have q:∀ j:ByteArray,(brS j).size=1+j.size+1:=fun j=>by unfold brS;rw [Zh,Zh];rfl
  rw [qa0 k r n y];rcases z with rfl | rfl | rfl | rfl | rfl | rfl | rfl | rfl | rfl | rfl
  ·show (nmS 1 r).size<=_;exact Qj (h 1) (by decide)
  ·show (nmS 2 r).size<=_;exact Qj (h 2) (by decide)
  ·show (nmS 3 r).size<=_;exact Qj (h 3) (by decide)
  ·show (brS (nmS 4 r)).size<=_;rw [q];omega
  ·show (brS (nmS 5 r++offS n)).size<=_;rw [q,Zh];omega
  ·show (if n<0 then offS n else textS n).size<=_;split <;> omega
  ·show (brS (textS n)).size<=_;rw [q];omega
  ·show (nmS 8 r).size<=_;exact Qj (h 8) (by decide)
  ·show (nmS 9 r).size<=_;exact Qj (h 9) (by decide)
  ·show (⟨#[36]⟩++offS (n+2)).size<=_;rw [Zh];show 1+_<=_;omega
def qaZ (t:Tr):ByteArray:=txtS t.1 t.2.1 t.2.2
def formsL (L:List Tr):List (List UInt8):=L.map fun h=>(qaZ h).data.toList
def olistS (L:List Tr):ByteArray:=St.strOf (St.qAX (formsL L))
theorem qb1 (L:List Tr):(formsL L).length=L.length:=by unfold formsL;rw [QC]
theorem qrT (L:List Tr) (k:Nat) (h:k<L.length) (q:k<(formsL L).length):(formsL L)[k]=(qaZ L[k]).data.toList:=by simp only [formsL,Zo]
theorem qnc (L:List Tr):(formsL L).map St.strOf=L.map qaZ:=by
 unfold formsL;rw [List.map_map];exact List.map_congr_left fun h _=>St.qBw _
theorem qwJ (l:List (List UInt8)) (b:Nat) (h:∀ x∈l,x.length<=b):(l.map List.length).sum<=b*l.length:=by
 induction l with
 | nil=>simp
 | cons x G y=>
  have z:=y fun t q=>h t (QG _ q)
  have E:=h x QD;rw [List.map_cons,List.sum_cons,Qt,Nat.mul_add];omega
theorem qwa (L:List Tr):∀ h∈formsL L,h.length<=60:=by
 intro h x;obtain ⟨e,-,rfl⟩:=Zq.1 x;have q:=qtW e.1 e.2.1 e.2.2;have t:(qaZ e).data.toList.length=(qaZ e).size:=by simp
 rw [t];exact q
theorem qhT (L:List Tr) (E:L.length<=60) (k:Nat):(St.qAX ((formsL L).take k)).length<=4000:=by
 by_cases h:(formsL L).take k=[]
 ·rw [h];decide
 ·have z:=St.qBc _ h
  have J:=qwJ ((formsL L).take k) 60 fun q y=>qwa L q (List.mem_of_mem_take y)
  have x:((formsL L).take k).length<=60:=by rw [QH,qb1];omega
  have G:60*((formsL L).take k).length<=60*60:=Nat.mul_le_mul_left _ x;omega
theorem qmb {a b:ByteArray} (h:a.data.toList=b.data.toList):a=b:=by
 apply ByteArray.ext;exact Array.toList_inj.1 h
theorem join_none (A:Option Addr) (cap:Nat) (h:ByteArray) (w:World) :
  Calls prog 71 #[.slice A 0 cap,.string h] w fun q e=>q=.returned (.string ⟨#[]⟩)/\Below w.heap.size w e:=by
 go_enter func71,ntmps71
 go_wp2;go_ret;exact ⟨rfl,Qc _ _⟩
theorem join_one (b e cap:Nat) (q t:ByteArray) (w:World) (z:w.cell? ⟨b,e,none⟩=some (.string t)) :
  Calls prog 71 #[.slice (some ⟨b,e,none⟩) 1 cap,.string q] w fun y h=>y=.returned (.string t)/\Below w.heap.size w h:=by
 go_enter func71,ntmps71
 go_wp2;go_ret;exact ⟨rfl,Qc _ _⟩
theorem qqZ (L:List Tr) (G:L.length<=60) (b:Nat) (w:World) (t:∀ j (e:j<L.length),w.cell? ⟨b,j,none⟩=some (.string (qaZ L[j]))) :
  Calls prog 71 #[.slice (some ⟨b,0,none⟩) L.length L.length,.string ⟨#[44]⟩] w fun h y=>h=.returned (.string (olistS L))/\Below w.heap.size w y:=by
 by_cases K:L.length=0
 ·have:L=[]:=Qw K
  subst this;exact join_none _ _ _ w
 ·by_cases z:L.length=1
  ·obtain ⟨q,rfl⟩:=List.length_eq_one_iff.1 z
   have h:olistS [q]=qaZ q:=by
    unfold olistS formsL;show St.strOf (qaZ q).data.toList=_;exact St.qBw _
   rw [h];exact join_one b 0 1 _ _ w (t 0 (by simp))
  ·have e:=St.qBG (fun _=>True) (some ⟨b,0,none⟩) L.length (formsL L) (by rw [qb1];omega) (by rw [qb1];omega) (by
     have:=qhT L G (formsL L).length;rw [Zt] at this;omega) w (by
     rw [qnc];refine .inr ⟨b,0,rfl,trivial,fun j E=>?_⟩;have J:j<L.length:=(by simpa using E);rw [QT,Zo];exact t j J)
   rw [qb1] at e;exact e
theorem qqB:(prog.info? 9).map (fun i=>(i.zero,i.size,i.bytes))=some (some (.string ⟨#[]⟩),1,16):=by kernel_rfl
def SpL (b k n:Nat) (L:List Tr) (wr:World):Prop:=
 ∃ j,wr.heap[b]?=some (.cells j 9 (0,0))/\(∀ h (v:h<L.length),h<k->j[h]?=some (.string (qaZ L[h])))/\∀ h,h<n->∃ q,j[h]?=some (.string q)
theorem SpL.start (w:World) (n:Nat) (L:List Tr):SpL w.heap.size 0 n L (w.alloc (.cells (madeCells #[.string ⟨#[]⟩] n) 9)):=by
 refine ⟨_,heap_alloc_new w _,fun j _ h=>absurd h (Nat.not_lt_zero _),fun j q=>⟨⟨#[]⟩,?_⟩⟩;unfold madeCells;rw [Array.getElem?_map,Array.getElem?_range,Qi (by simpa using q)];simp [Nat.mod_one]
theorem SpL.below {b k n:Nat} {L:List Tr} {w w':World} (q:SpL b k n L w) (E:Below w.heap.size w w'):SpL b k n L w':=by
 obtain ⟨G,h,y,z⟩:=q;exact ⟨G,(E.block b (Qb.1 h).1).trans h,y,z⟩
theorem SpL.at_ {b k n:Nat} {L:List Tr} {w:World} (q:SpL b k n L w) (j:Nat) (y:j<n):(∃ v,w.cell? ⟨b,j,none⟩=some (.string v))/\w.frozen? ⟨b,j,none⟩=false:=by
 obtain ⟨G,h,_,z⟩:=q;obtain ⟨v,E⟩:=z j y;exact ⟨⟨v,(C9 h j).trans E⟩,Qp h j⟩
theorem SpL.set {b k n:Nat} {L:List Tr} {w:World} (J:SpL b k n L w) (O:k<L.length) (E:k<n):SpL b (k+1) n L (w.setCell ⟨b,k,none⟩ (.string (qaZ L[k]))):=by
 obtain ⟨v,G,K,z⟩:=J;refine ⟨_,heap_setCell_same w b k v _ _ G,fun e q M=>?_,fun e q=>?_⟩
 ·rw [QR]
  by_cases h:k=e
  ·subst h
   obtain ⟨y,j⟩:=z k E;have:k<v.size:=(Qb.1 j).1;rw [Qi rfl,Qi this]
  ·rw [Qe h]
   exact K e q (by omega)
 ·rw [QR]
  obtain ⟨y,j⟩:=z e q;by_cases h:k=e
  ·subst h
   have:k<v.size:=(Qb.1 j).1;rw [Qi rfl,Qi this];exact ⟨_,rfl⟩
  ·rw [Qe h]
   exact ⟨y,j⟩
theorem SpL.done {b n:Nat} {L:List Tr} {w:World} (h:SpL b L.length n L w):∀ j (h:j<L.length),w.cell? ⟨b,j,none⟩=some (.string (qaZ L[j])):=by
 obtain ⟨E,y,z,_⟩:=h;exact fun j q=>(C9 y j).trans (z j q q)
theorem qty (A:Option Addr) (c:Nat) (L:List Tr) (ag:L.length<=60) (w:World) (H:qai w A L) :
  Calls prog 37 #[.slice A L.length c] w fun h W=>h=.returned (.string (olistS L))/\Below w.heap.size w W:=by
 have az:=J9 H;have aD:=J9 ag;have ay:=J9 (qqZ L ag);have am:∀ w,(Instr.makeSlice 42 (.int .i64 (L.length:Int)) (.int .i64 (L.length:Int))).run prog w=.ok (.slice (some ⟨w.heap.size,0,none⟩) L.length L.length) (w.alloc (.cells (madeCells #[.string ⟨#[]⟩] L.length) 9)):=fun w=>
  run_make_row' (P:=prog) 42 9 (.string ⟨#[]⟩) 16 underlying42 qqB rfl .i64 .i64 L.length (by omega) (by omega) w
 have X:=J9 (SpL.start w L.length L);have B0:Hid (Below w.heap.size w (w.alloc (.cells (madeCells #[.string ⟨#[]⟩] L.length) 9))):=B0;obtain ⟨n,Z⟩:=N9 (L.length);have S:=J9 Z;rw [Z] at ag am X B0 |-;clear H Z
 go_enter func37,ntmps37
 go_wp2
 go_loopw [11] (fun G wr=>∃ e:Nat,e<=n/\G=.int .i64 e/\Hid (Below w.heap.size w wr)/\Hid (SpL w.heap.size e n L wr)) (fun G _=>n - (intOf G).toNat)
 case atStart=>exact ⟨0,Qu _,rfl,B0.o,X.o⟩
 case round=>
  clear B0 X am;obtain ⟨e,aH,rfl,s,ae⟩:=hrel;by_cases av:e<n
  ·have V:e<L.length:=by have:=S.o;omega
   have v:Below w.heap.size w wr:=s.o;obtain ⟨ah,M,aC,B,ak,ao,aq⟩:=az.o.at_ V;subst aC;have K:wr.cell? ⟨ah,M+e*3,none⟩=some (.int .i64 L[e].1):=(v.cell B).trans ak;have E:wr.cell? ⟨ah,M+e*3+1,none⟩=some (.int .i64 L[e].2.1):=(v.cell B).trans ao;have af:wr.cell? ⟨ah,M+e*3+2,none⟩=some (.int .i64 L[e].2.2):=(v.cell B).trans aq;have z:Hid (qaZ L[e]=txtS L[e].1 L[e].2.1 L[e].2.2):=rfl;have ac:Hid (∀ q,SpL w.heap.size e n L q->SpL w.heap.size (e+1) n L (q.setCell ⟨w.heap.size,e,none⟩ (.string (qaZ L[e])))):=(fun q T=>T.set V av);obtain ⟨⟨U,ab,O⟩,aw⟩:=N9 (L[e]);rw [aw] at K E af z ac;simp only at K E af z;have y:=J9 (qoI U ab O);rw [<- z.o] at y;obtain ⟨ax,aj⟩:=N9 (qaZ (U,ab,O));rw [aj] at y ac;have ad:Below wr.heap.size wr (wr.alloc (.cells #[.int .i64 U,.int .i64 ab,.int .i64 O] 56)):=B0;have aa:=J9 (s.o.trans (ad.mono s.o.size));have au:=J9 (ae.o.below ad);clear ak ao aq V aw aj z ad B v s ae
   go_wp2_with fail
   refine (y.o _).mono ?_;rintro h q ⟨rfl,i⟩;have J:=J9 (aa.o.trans (i.mono aa.o.size));have an:=J9 (au.o.below i);obtain ⟨⟨aF,aE⟩,aG⟩:=an.o.at_ e av;have aB:=J9 (ac.o _ an.o);have aA:Hid (Below w.heap.size w (q.setCell ⟨w.heap.size,e,none⟩ (.string ax))):=J.o.setCell (by simp) _;clear i K E af aa au y;go_wp2;go_roundw
   case rel=>exact ⟨e+1,by omega,by go_num,aA.o,aB.o⟩
   case measure=>simp [intOf];omega
  ·have ap:e=n:=by omega
   have ai:Hid (∀ k,SpL w.heap.size e n L k->Calls prog 71 #[.slice (some ⟨w.heap.size,0,none⟩) n n,.string ⟨#[44]⟩] k fun h W=>h=.returned (.string (olistS L))/\Below k.heap.size k W):=fun k T=>by
    have h:L.length=e:=S.o.trans ap.symm;have ar:=ay.o w.heap.size k (SpL.done (n:=n) (by rw [h];exact T));rw [S.o] at ar;exact ar
   clear ap
   go_wp2_with fail
   refine (ai.o _ ae.o).mono ?_;rintro h q ⟨rfl,i⟩;have J:=J9 (s.o.trans (i.mono s.o.size));clear i ai;go_wp2;go_ret;exact ⟨rfl,J.o⟩
theorem qoM (L:List Tr) (h:0<L.length):St.strOf (St.qAX ((formsL L).take 0))++qaZ L[0]=St.strOf (St.qAX ((formsL L).take 1)):=by
 cases L with
 | nil=>simp at h
 | cons q L=>
  apply qmb;rw [qaa,St.qA1,St.qA1];rfl
theorem qnm (L:List Tr) (k:Nat) (y:0<k) (h:k<L.length):(St.strOf (St.qAX ((formsL L).take k))++⟨#[44]⟩)++qaZ L[k]=St.strOf (St.qAX ((formsL L).take (k+1))):=by
 apply qmb;have q:k<(formsL L).length:=by rw [qb1];exact h
 rw [qaa,qaa,St.qA1,St.qA1,St.qBp _ k y q,qrT L k h q]
theorem qqT (A:Option Addr) (c:Nat) (L:List Tr) (aj:L.length<=60) (w:World) (H:qai w A L) :
  Calls prog 38 #[.slice A L.length c] w fun S ao=>S=.returned (.string (olistS L))/\Below w.heap.size w ao:=by
 have am:=J9 H;have an:=J9 (qhT L aj);obtain ⟨W,X⟩:=N9 (L.length);have ac:=J9 X;rw [X] at aj |-;clear H X
 go_enter func38,ntmps38
 go_wp2
 go_loopw [3,4] (fun aq M wr=>∃ (e:Nat) (h:ByteArray),e<=W/\M=.int .i64 e/\aq=.string h/\Hid (St.strOf (St.qAX ((formsL L).take e))=h)/\Hid (Below w.heap.size w wr)) (fun _ M _=>W - (intOf M).toNat)
 case atStart=>exact ⟨0,⟨#[]⟩,Qu _,rfl,rfl,rfl,Qc _ _⟩
 case round=>
  obtain ⟨e,h,ax,rfl,rfl,J,k⟩:=hrel;have aw:h.size<=4000:=by
   have i:=an.o e;rw [<- St.qA9,J.o] at i;exact i
  by_cases ay:e<W
  ·have B:e<L.length:=by have:=ac.o;omega
   have z:Below w.heap.size w wr:=k.o;obtain ⟨aa,T,ar,K,ad,af,ai⟩:=am.o.at_ B;subst ar;have s:wr.cell? ⟨aa,T+e*3,none⟩=some (.int .i64 L[e].1):=(z.cell K).trans ad;have n:wr.cell? ⟨aa,T+e*3+1,none⟩=some (.int .i64 L[e].2.1):=(z.cell K).trans af;have y:wr.cell? ⟨aa,T+e*3+2,none⟩=some (.int .i64 L[e].2.2):=(z.cell K).trans ai;have G:Hid (qaZ L[e]=txtS L[e].1 L[e].2.1 L[e].2.2):=rfl;have I1:Hid (e=0->h++qaZ L[e]=St.strOf (St.qAX ((formsL L).take (e+1)))):=fun i=>by
    have v:=J.o;subst i;rw [<- v];exact qoM L B
   have I2:Hid (0<e->(h++⟨#[44]⟩)++qaZ L[e]=St.strOf (St.qAX ((formsL L).take (e+1)))):=fun i=>by
    have v:=J.o;rw [<- v];exact qnm L e i B
   obtain ⟨⟨V,Z,U⟩,ak⟩:=N9 (L[e]);rw [ak] at s n y G I1 I2;simp only at s n y G;have E:=J9 (qr6 V Z U);have ab:=qtW V Z U;rw [<- G.o] at E ab;obtain ⟨ah,ag⟩:=N9 (qaZ (V,Z,U));rw [ag] at E I1 I2 ab;clear ad af ai B ak ag G K z;by_cases ae:e=0
   ·have t:=J9 (I1.o ae)
    subst ae;clear I1 I2;simp only [Nat.zero_mul,Nat.add_zero] at s n y
    go_wp2_with fail
    refine (E.o _).mono ?_;rintro S ap ⟨rfl,q⟩;have O:=J9 (k.o.trans (q.mono k.o.size));clear q s n y;go_wp2;go_roundw
    case rel=>exact ⟨0+1,h++ah,by omega,by go_num,rfl,t.o.symm,O.o⟩
    case measure=>simp [intOf];omega
   ·have au:0<e:=by omega
    have av:(0:Int)<(e:Int):=(by omega);have t:=J9 (I2.o au);clear I1 I2
    go_wp2_with fail
    refine (E.o _).mono ?_;rintro S ap ⟨rfl,q⟩;have O:=J9 (k.o.trans (q.mono k.o.size));clear q s n y;go_wp2;go_roundw
    case rel=>exact ⟨e+1,h++(⟨#[44]⟩:ByteArray)++ah,by omega,by go_num,rfl,t.o.symm,O.o⟩
    case measure=>simp [intOf];omega
  ·have t:Hid (h=olistS L):=by
    have v:=J.o;show _=_;rw [<- v];unfold olistS;rw [QW (by rw [qb1];have:=ac.o;omega)]
   go_wp2;go_ret;exact ⟨qaq t.o,k.o⟩
abbrev Str:=List UInt8
def ixL (h:Str):Str->Option Nat
 | []=>if h.isEmpty then some 0 else none
 | b :: l=>if h.isPrefixOf (b :: l) then some 0 else (ixL h l).map (· + 1)
theorem qiT (l:Str):∀ h:Str,Lib.index h l=match ixL l h with | none=>-1 | some n=>(n:Int)
 | []=>by
  unfold Lib.index ixL;cases l.isEmpty <;> simp
 | b :: h=>by
  have q:=qiT l h;unfold Lib.index ixL;rw [q];cases l.isPrefixOf (b :: h)
  ·cases ixL l h <;> simp <;> omega
  ·simp
def qbp (h l:Str):Str×Str×Bool:=match ixL h l with
 | none=>(l,[],false)
 | some n=>(l.take n,l.drop (n+h.length),true)
theorem qrS (l h:Str):Lib.cut l h=qbp h l:=by
 unfold Lib.cut qbp;rw [qiT];cases q:ixL h l <;> simp
theorem quc (m:Str):∀ (l:Str) (n:Nat),ixL m l=some n->n+m.length<=l.length
 | [],n,h=>by
  unfold ixL at h;cases m with
  | nil=>simp at h;subst h;simp
  | cons=>simp at h
 | b :: l,n,h=>by
  unfold ixL at h;split at h
  ·next y=>
   have:=List.IsPrefix.length_le (List.isPrefixOf_iff_prefix.1 y);simp at h;subst h;simpa using this
  ·cases q:ixL m l with
   | none=>rw [q] at h;simp at h
   | some z=>
    rw [q] at h;have E:=quc m l z q;simp at h;simp;omega
theorem qlh (h l:Str) (z:0<h.length) (q:0<l.length):(qbp h l).2.1.length<l.length/\(qbp h l).1.length<=l.length:=by
 unfold qbp;cases n:ixL h l with
 | none=>simpa using q
 | some y=>
  have:=quc h l y n;simp;omega
abbrev Pat:=Str×Str
def rowP (row:Str):Pat:=((qbp [32] row).1,(qbp [32] row).2.1)
def qiE:Nat->Str->List Pat
 | 0,_=>[]
 | n+1,l=>if l.isEmpty then [] else rowP (qbp [59,32] l).1 :: qiE n (qbp [59,32] l).2.1
def qtw:Str:=[48,48,48,48,48,48,48,48,32,78,79,80,59,32,48,48,48,48,49,48,48,48,32,69,88,32,65,70,44,65,70,39,59,32,48,48,48,49,48,48,
 48,48,32,68,74,78,90,32,101,59,32,48,48,48,49,49,48,48,48,32,74,82,32,101,59,32,48,48,49,107,107,48,48,48,32,74,82,32,107,44,
 101,59,32,48,48,112,112,48,48,48,49,32,76,68,32,112,44,119,59,32,48,48,112,112,49,48,48,49,32,65,68,68,32,72,76,44,112,59,32,48,
 48,48,48,48,48,49,48,32,76,68,32,40,66,67,41,44,65,59,32,48,48,48,49,48,48,49,48,32,76,68,32,40,68,69,41,44,65,59,32,48,
 48,49,48,48,48,49,48,32,76,68,32,40,119,41,44,72,76,59,32,48,48,49,49,48,48,49,48,32,76,68,32,40,119,41,44,65,59,32,48,48,
 48,48,49,48,49,48,32,76,68,32,65,44,40,66,67,41,59,32,48,48,48,49,49,48,49,48,32,76,68,32,65,44,40,68,69,41,59,32,48,48,
 49,48,49,48,49,48,32,76,68,32,72,76,44,40,119,41,59,32,48,48,49,49,49,48,49,48,32,76,68,32,65,44,40,119,41,59,32,48,48,112,
 112,48,48,49,49,32,73,78,67,32,112,59,32,48,48,112,112,49,48,49,49,32,68,69,67,32,112,59,32,48,48,114,114,114,49,48,48,32,73,78,
 67,32,114,59,32,48,48,114,114,114,49,48,49,32,68,69,67,32,114,59,32,48,48,114,114,114,49,49,48,32,76,68,32,114,44,110,59,32,48,48,
 48,48,48,49,49,49,32,82,76,67,65,59,32,48,48,48,48,49,49,49,49,32,82,82,67,65,59,32,48,48,48,49,48,49,49,49,32,82,76,65,
 59,32,48,48,48,49,49,49,49,49,32,82,82,65,59,32,48,48,49,48,48,49,49,49,32,68,65,65,59,32,48,48,49,48,49,49,49,49,32,67,
 80,76,59,32,48,48,49,49,48,49,49,49,32,83,67,70,59,32,48,48,49,49,49,49,49,49,32,67,67,70,59,32,48,49,49,49,48,49,49,48,
 32,72,65,76,84,59,32,48,49,114,114,114,115,115,115,32,76,68,32,114,44,115,59,32,49,48,97,97,97,115,115,115,32,97,32,115,59,32,49,49,
 99,99,99,48,48,48,32,82,69,84,32,99,59,32,49,49,113,113,48,48,48,49,32,80,79,80,32,113,59,32,49,49,48,48,49,48,48,49,32,82,
 69,84,59,32,49,49,48,49,49,48,48,49,32,69,88,88,59,32,49,49,49,48,49,48,48,49,32,74,80,32,40,72,76,41,59,32,49,49,49,49,
 49,48,48,49,32,76,68,32,83,80,44,72,76,59,32,49,49,99,99,99,48,49,48,32,74,80,32,99,44,119,59,32,49,49,48,48,48,48,49,49,
 32,74,80,32,119,59,32,49,49,48,49,48,48,49,49,32,79,85,84,32,40,110,41,44,65,59,32,49,49,48,49,49,48,49,49,32,73,78,32,65,
 44,40,110,41,59,32,49,49,49,48,48,48,49,49,32,69,88,32,40,83,80,41,44,72,76,59,32,49,49,49,48,49,48,49,49,32,69,88,32,68,
 69,44,72,76,59,32,49,49,49,49,48,48,49,49,32,68,73,59,32,49,49,49,49,49,48,49,49,32,69,73,59,32,49,49,99,99,99,49,48,48,
 32,67,65,76,76,32,99,44,119,59,32,49,49,113,113,48,49,48,49,32,80,85,83,72,32,113,59,32,49,49,48,48,49,49,48,49,32,67,65,76,
 76,32,119,59,32,49,49,97,97,97,49,49,48,32,97,32,110,59,32,49,49,116,116,116,49,49,49,32,82,83,84,32,116]
def cbS:Str:=[48,48,111,111,111,115,115,115,32,111,32,115,59,32,48,49,98,98,98,115,115,115,32,66,73,84,32,98,44,115,59,32,49,48,98,98,98,115,115,115,
 32,82,69,83,32,98,44,115,59,32,49,49,98,98,98,115,115,115,32,83,69,84,32,98,44,115]
def edS:Str:=[48,49,49,49,48,48,48,48,32,73,78,32,40,67,41,59,32,48,49,114,114,114,48,48,48,32,73,78,32,114,44,40,67,41,59,32,48,49,49,49,
 48,48,48,49,32,79,85,84,32,40,67,41,44,48,59,32,48,49,114,114,114,48,48,49,32,79,85,84,32,40,67,41,44,114,59,32,48,49,112,112,
 48,48,49,48,32,83,66,67,32,72,76,44,112,59,32,48,49,112,112,49,48,49,48,32,65,68,67,32,72,76,44,112,59,32,48,49,112,112,48,48,
 49,49,32,76,68,32,40,119,41,44,112,59,32,48,49,112,112,49,48,49,49,32,76,68,32,112,44,40,119,41,59,32,48,49,120,120,120,49,48,48,
 32,78,69,71,59,32,48,49,48,48,49,49,48,49,32,82,69,84,73,59,32,48,49,120,120,120,49,48,49,32,82,69,84,78,59,32,48,49,120,48,
 120,49,49,48,32,73,77,32,48,59,32,48,49,120,49,48,49,49,48,32,73,77,32,49,59,32,48,49,120,49,49,49,49,48,32,73,77,32,50,59,
 32,48,49,48,48,48,49,49,49,32,76,68,32,73,44,65,59,32,48,49,48,48,49,49,49,49,32,76,68,32,82,44,65,59,32,48,49,48,49,48,
 49,49,49,32,76,68,32,65,44,73,59,32,48,49,48,49,49,49,49,49,32,76,68,32,65,44,82,59,32,48,49,49,48,48,49,49,49,32,82,82,
 68,59,32,48,49,49,48,49,49,49,49,32,82,76,68,59,32,49,48,49,48,48,48,48,48,32,76,68,73,59,32,49,48,49,48,48,48,48,49,32,
 67,80,73,59,32,49,48,49,48,48,48,49,48,32,73,78,73,59,32,49,48,49,48,48,48,49,49,32,79,85,84,73,59,32,49,48,49,48,49,48,
 48,48,32,76,68,68,59,32,49,48,49,48,49,48,48,49,32,67,80,68,59,32,49,48,49,48,49,48,49,48,32,73,78,68,59,32,49,48,49,48,
 49,48,49,49,32,79,85,84,68,59,32,49,48,49,49,48,48,48,48,32,76,68,73,82,59,32,49,48,49,49,48,48,48,49,32,67,80,73,82,59,
 32,49,48,49,49,48,48,49,48,32,73,78,73,82,59,32,49,48,49,49,48,48,49,49,32,79,84,73,82,59,32,49,48,49,49,49,48,48,48,32,
 76,68,68,82,59,32,49,48,49,49,49,48,48,49,32,67,80,68,82,59,32,49,48,49,49,49,48,49,48,32,73,78,68,82,59,32,49,48,49,49,
 49,48,49,49,32,79,84,68,82]
def listS (h:Int):Str:=if h=0\/h=3\/h=4 then qtw else if h=1\/h=5\/h=6 then cbS else if h=2 then edS else []
def mainP:List Pat:=qiE 60 qtw
def cbP:List Pat:=qiE 60 cbS
def edP:List Pat:=qiE 60 edS
end Go.Proofs.YtecpnfhpcamljaaGreatDoor
namespace Go.Proofs.YtecpnfhpcamljaaGreatDoor
open Tryz
open Go.RowKit
attribute [local go_sem] Oper.semAt_some
def sB (l:Str):ByteArray:=⟨l.toArray⟩
theorem qaB (l:Str):(sB l).size=l.length:=by show l.toArray.size=l.length;simp
theorem qjr (l:Str) (j:Nat) (q:j<(sB l).size) (y:j<l.length):(sB l)[j]=l[j]:=by
 have h:(sB l).data[j]'q=l[j]:=by simp [sB]
 exact h
def qnu (w:World) (s:ByteArray) (b:Nat):Prop:=∀ h (j:h<s.size),w.cell? ⟨b,h,none⟩=some (.int .u8 (s[h].toNat:Int))
theorem qdp (w:World) (s:ByteArray) (cap:Nat) (e:TypeId):qnu (w.alloc (.cells (bytesRow s cap) e ((bytesRow s cap).size,(bytesRow s cap).size+1))).drew s w.heap.size:=fun j q=>by
 have h:=World.cell?_alloc_mark w (bytesRow s cap) e ((bytesRow s cap).size,(bytesRow s cap).size+1) j;rw [bytesRow_at s cap j q] at h;exact h
def qkl (l:Str):Nat->Int×Int
 | 0=>(0,0)
 | k+1=>if l[k]?.getD 0=48 then qkl l k else if l[k]?.getD 0=49 then (bits .or .u8 (qkl l k).1 (128 / 2 ^ k),(qkl l k).2) else ((qkl l k).1,bits .or .u8 (qkl l k).2 (128 / 2 ^ k))
theorem qed (c:UInt8) (n:Nat) (q:n<256) (b:Bool) (e:((c.toNat:Int) == (n:Int))=b):decide (c=UInt8.ofNat n)=b:=by
 have h:(UInt8.ofNat n).toNat=n:=UInt8.toNat_ofNat_of_lt' q;cases b
 ·simp at e |-
  intro y;subst y;exact e (by rw [h])
 ·simp at e |-
  exact UInt8.toNat_inj.1 (by rw [h];omega)
def qq9 (l:Str):Int×Int:=qkl l 8
theorem qiP (l f:Str) (J:l.length=8) (w:World) :
  Calls prog 239 #[.agg #[.string (sB l),.string (sB f)]] w fun aa ab=>aa=.returned (.tuple #[.int .u8 (qq9 l).1,.int .u8 (qq9 l).2])/\Below w.heap.size w ab:=by
 obtain ⟨e,s⟩:=N9 (sB l);have ac:e.size=8:=by rw [<- s,qaB,J]
 have S:∀ c (o:c<e.size) (U:c<l.length),e[c]=l[c]:=fun c o U=>by subst s;exact qjr l c o U
 have ad:=J9 S;have Z:=J9 J;have ag:=fun (w:World)=>run_bytes_of_string (P:=prog) w 9 35 5 e underlying9 underlying35 underlying5
 have M:=J9 (qdp (w.alloc (.cells #[.string e,.string (sB f)] 219)) e (grownCap (w.alloc (.cells #[.string e,.string (sB f)] 219)) e.size 0 5) 5);have G:Hid (Below w.heap.size w ((w.alloc (.cells #[.string e,.string (sB f)] 219)).alloc (.cells (bytesRow e (grownCap (w.alloc (.cells #[.string e,.string (sB f)] 219)) e.size 0 5)) 5 ((bytesRow e (grownCap (w.alloc (.cells #[.string e,.string (sB f)] 219)) e.size 0 5)).size,(bytesRow e (grownCap (w.alloc (.cells #[.string e,.string (sB f)] 219)) e.size 0 5)).size+1))).drew):=
  (((B0 (w:=w))).alloc (by simp) _).drew
 rw [ac] at M G;rw [s];clear s S J
 go_enter func239,ntmps239
 go_wp2;clear ag
 go_loopw [10,2,3] (fun z T W wr=>∃ c:Nat,c<=8/\z=.int .i64 c/\T=.int .u8 (qkl l c).1/\W=.int .u8 (qkl l c).2/\Hid (qnu wr e (w.heap.size+1))/\Hid (Below w.heap.size w wr)) (fun z _ _ _=>8 - (intOf z).toNat)
 case atStart=>exact ⟨0,Qu _,rfl,rfl,rfl,(by have o:=M.o;rw [QB] at o;exact o),G.o⟩
 case round=>
  clear M G;obtain ⟨c,ai,rfl,rfl,rfl,y,u⟩:=hrel;by_cases aj:c<8
  ·have V:c<e.size:=by omega
   have af:wr.cell? ⟨w.heap.size+1,c,none⟩=some (.int .u8 (e[c].toNat:Int)):=y.o c V;obtain ⟨h,B⟩:=N9 (e[c]);rw [B] at af;have ae:=J9 B;clear B;obtain ⟨T,R⟩:=N9 ((qkl l c).1);obtain ⟨W,O⟩:=N9 ((qkl l c).2);rw [R,O];have K:=J9 R;have E:=J9 O;clear R O;go_wp2
   all_goals (have ah:=Z.o)
   all_goals (have i:l[c]?.getD 0=h:=by rw [Qg (by omega),Option.getD_some,<- ad.o c V (by omega)];exact ae.o)
   ·have k:h=48:=Qo (qed h 48 (by decide) true (by assumption))
    go_roundw
    case rel=>exact ⟨c+1,by omega,by go_num,by rw [qkl,Qi (i.trans k),K.o],by rw [qkl,Qi (i.trans k),E.o],y,u⟩
    case measure=>simp [intOf];omega
   ·have q:¬h=48:=QX (qed h 48 (by decide) false (by assumption))
    have k:h=49:=Qo (qed h 49 (by decide) true (by assumption));go_roundw
    case rel=>exact ⟨c+1,by omega,by go_num,by rw [qkl,Qe (by rw [i];exact q),Qi (i.trans k),K.o],by rw [qkl,Qe (by rw [i];exact q),Qi (i.trans k),E.o],y,u⟩
    case measure=>simp [intOf];omega
   ·have q:¬h=48:=QX (qed h 48 (by decide) false (by assumption))
    have k:¬h=49:=QX (qed h 49 (by decide) false (by assumption));go_roundw
    case rel=>exact ⟨c+1,by omega,by go_num,by rw [qkl,Qe (by rw [i];exact q),Qe (by rw [i];exact k),K.o],by rw [qkl,Qe (by rw [i];exact q),Qe (by rw [i];exact k),E.o],y,u⟩
    case measure=>simp [intOf];omega
  ·obtain rfl:c=8:=by omega
   go_wp2
   go_ret2
   exact ⟨rfl,u.o⟩
def qcD (l:Str) (h:Int):Bool:=bits .andNot .u8 h (qq9 l).2 == (qq9 l).1
theorem qpI (l f:Str) (G:l.length=8) (q:Int) (w:World) :
  Calls prog 217 #[.agg #[.string (sB l),.string (sB f)],.int .u8 q] w fun z e=>z=.returned (.bool (qcD l q))/\Below w.heap.size w e:=by
 have h:=qiP l f G (w.alloc (.cells #[.string (sB l),.string (sB f)] 219))
 go_enter func217,ntmps217
 go_wp2_with fail
 refine h.mono ?_;rintro z e ⟨rfl,y⟩;have E:Hid (Below w.heap.size w e):=((B0 (w:=w))).trans (y.mono (by simp));clear h y;go_wp2;go_ret;exact ⟨rfl,E.o⟩
def qrh (l:Str) (h:Int) (c:UInt8):Nat->Int
 | 0=>0
 | k+1=>if l[k]?.getD 0=c then bits .or .i64 (wrap64 (qrh l h c k*2)) (wrap64 (bits .and .u8 (h / 2 ^ (7 - k)) 1)) else qrh l h c k
def qbe (l:Str) (h:Int) (c:UInt8):Int:=qrh l h c 8
theorem qaU (l f:Str) (G:l.length=8) (i:Int) (ar:0<=i) (an:i<=255) (c:UInt8) (w:World) :
  Calls prog 245 #[.agg #[.string (sB l),.string (sB f),.int .u8 i],.int .u8 (c.toNat:Int)] w fun z ah=>z=.returned (.int .i64 (qbe l i c))/\Below w.heap.size w ah:=by
 obtain ⟨d,q⟩:=N9 (sB l);have ai:d.size=8:=by rw [<- q,qaB,G]
 have U:∀ e (o:e<d.size) (W:e<l.length),d[e]=l[e]:=fun e o W=>by subst q;exact qjr l e o W
 have aj:=J9 U;have ae:=J9 G;have am:=fun (w:World)=>run_bytes_of_string (P:=prog) w 9 35 5 d underlying9 underlying35 underlying5
 obtain ⟨h,s⟩:=N9 (w.alloc (.cells #[.string d,.string (sB f),.int .u8 i] 221));have M:=J9 (qdp h d (grownCap h d.size 0 5) 5);have E:Hid (Below w.heap.size w (h.alloc (.cells (bytesRow d (grownCap h d.size 0 5)) 5 ((bytesRow d (grownCap h d.size 0 5)).size,(bytesRow d (grownCap h d.size 0 5)).size+1))).drew):=by
  subst s;exact (((B0 (w:=w))).alloc (by simp) _).drew
 have J:Hid (Below h.heap.size h (h.alloc (.cells (bytesRow d (grownCap h d.size 0 5)) 5 ((bytesRow d (grownCap h d.size 0 5)).size,(bytesRow d (grownCap h d.size 0 5)).size+1))).drew):=
  ((B0 (w:=h))).drew
 have ap:h.cell? ⟨w.heap.size,0,none⟩=some (.string d):=by subst s;simp [go_sem]
 have ab:h.cell? ⟨w.heap.size,2,none⟩=some (.int .u8 i):=by subst s;simp [go_sem]
 have ag:=J9 ab;have ak:h.heap.size=w.heap.size+1:=by subst s;simp
 rw [ai] at M E J;rw [q];clear q U G ab
 go_enter func245,ntmps245
 go_wp2;clear am
 go_loopw [13,5] (fun y V wr=>∃ e:Nat,e<=8/\y=.int .i64 e/\V=.int .i64 (qrh l i c e)/\Hid (qnu wr d h.heap.size)/\Hid (Below w.heap.size w wr)/\Hid (Below h.heap.size h wr)) (fun y _ _=>8 - (intOf y).toNat)
 case atStart=>exact ⟨0,Qu _,rfl,rfl,M.o,E.o,J.o⟩
 case round=>
  clear M E J;obtain ⟨e,aw,rfl,rfl,O,K,B⟩:=hrel;by_cases ax:e<8
  ·have aa:e<d.size:=by omega
   have ac:wr.cell? ⟨h.heap.size,e,none⟩=some (.int .u8 (d[e].toNat:Int)):=O.o e aa;have av:wr.cell? ⟨w.heap.size,2,none⟩=some (.int .u8 i):=(B.o.cell (show w.heap.size<h.heap.size by omega)).trans ag.o;rw [ak] at ac;obtain ⟨k,S⟩:=N9 (d[e]);rw [S] at ac;have af:=J9 S;clear S;obtain ⟨V,R⟩:=N9 (qrh l i c e);rw [R];have Z:=J9 R;clear R;have ao:(e:Int)<=7:=(by omega);go_wp2
   all_goals (have aq:=ae.o)
   all_goals (have ad:l[e]?.getD 0=k:=by rw [Qg (by omega),Option.getD_some,<- aj.o e aa (by omega)];exact af.o)
   ·have T:k=c:=UInt8.toNat_inj.1 (by
     have o:((k.toNat:Int) == (c.toNat:Int))=true:=(by assumption);have au:(k.toNat:Int)=(c.toNat:Int):=(by simpa using o);omega)
    go_roundw
    case rel=>exact ⟨e+1,by omega,by go_num,by rw [qrh,Qi (ad.trans T),Z.o],O,K,B⟩
    case measure=>simp [intOf];omega
   ·have T:¬k=c:=fun z=>by
     subst z;have o:((k.toNat:Int) == (k.toNat:Int))=false:=(by assumption);simp at o
    go_roundw
    case rel=>exact ⟨e+1,by omega,by go_num,by rw [qrh,Qe (by rw [ad];exact T),Z.o],O,K,B⟩
    case measure=>simp [intOf];omega
  ·obtain rfl:e=8:=by omega
   go_wp2;go_ret;exact ⟨rfl,K.o⟩
end Go.Proofs.YtecpnfhpcamljaaGreatDoor
namespace Go.Proofs.YtecpnfhpcamljaaGreatDoor
open Tryz
open Go.RowKit
def qdE (h:Str):List Str->Str
 | []=>[]
 | x :: t=>x++t.flatMap fun q=>h++q
theorem qhV (h:Str) (F:List Str) (q:0<F.length):qdE h (F.take 1)=F[0]:=by
 cases F with
 | nil=>simp at q
 | cons t x=>simp [qdE]
theorem qgE (j:Str) (F:List Str) (k:Nat) (y:0<k) (q:k<F.length):qdE j (F.take (k+1))=qdE j (F.take k)++j++F[k]:=by
 obtain ⟨e,rfl⟩:∃ e,k=e+1:=⟨k - 1,by omega⟩;cases F with
 | nil=>simp at q
 | cons z h=>
  have t:e<h.length:=by simpa using q
  have x:h.take (e+1)=h.take e++[h[e]]:=QL t;rw [List.take_succ_cons,List.take_succ_cons];simp only [qdE];rw [x,List.flatMap_append];simp
theorem qmP (t:Str) (F:List Str) (c:UInt8) (h:c∈qdE t F):c∈t\/∃ q∈F,c∈q:=by
 cases F with
 | nil=>simp [qdE] at h
 | cons q z=>
  simp only [qdE,QY,List.mem_flatMap] at h;rcases h with h | ⟨y,x,h | h⟩
  ·exact .inr ⟨q,QD,h⟩
  ·exact .inl h
  ·exact .inr ⟨y,QG _ x,h⟩
theorem qd2 (t:Str) (F:List Str) (a b:Nat) (M:t.length<=a) (hF:∀ x∈F,x.length<=b):(qdE t F).length<=F.length*(a+b):=by
 cases F with
 | nil=>simp [qdE]
 | cons x h=>
  have K:=hF x QD;have U:(h.flatMap fun q=>t++q).length<=h.length*(a+b):=by
   have:∀ h:List Str,(∀ q∈h,q.length<=b)->(h.flatMap fun q=>t++q).length<=h.length*(a+b):=by
    intro h
    induction h with
    | nil=>intro _;simp
    | cons q h J=>
     intro y;have T:=J fun z G=>y z (QG _ G)
     have O:=y q QD;rw [List.flatMap_cons,Qk,Qk,Qt,Nat.add_mul];omega
   exact this h fun q E=>hF q (QG _ E)
  show (x++h.flatMap fun q=>t++q).length<=(h.length+1)*(a+b);rw [Qk,Nat.add_mul];omega
theorem qne (F:List Str) (t:∀ x∈F,(44:UInt8)∉x):(qdE [44] F).count 44=F.length - 1:=by
 cases F with
 | nil=>rfl
 | cons x q=>
  have z:x.count 44=0:=List.count_eq_zero.2 (t x QD);have G:∀ q:List Str,(∀ h∈q,(44:UInt8)∉h)->(q.flatMap fun h=>[44]++h).count 44=q.length:=by
   intro q
   induction q with
   | nil=>intro _;rfl
   | cons h q O=>
    intro t;have M:=O fun y J=>t y (QG _ J)
    have K:h.count 44=0:=List.count_eq_zero.2 (t h QD);rw [List.flatMap_cons,List.count_append,List.count_append,M,K,Qt];simp [Nat.add_comm]
  show (x++q.flatMap fun h=>[44]++h).count 44=_;rw [List.count_append,z,G q fun h E=>t h (QG _ E),Qt];omega
def numT (b:UInt8):Str:=(textS (b.toNat:Int)).data.toList
def dataB (b:Str):Str:=if b=[] then [] else [68,69,70,66,32]++qdE [44] (b.map numT)
def qd1 (b:UInt8):Str:=(hexS (b.toNat:Int) 2).data.toList
theorem qmF:∀ x:Fin 16,48<=(qbi (x.val:Int)).toNat/\(qbi (x.val:Int)).toNat<=70:=by decide +kernel
theorem qhJ (n:Int) (d:Nat):∀ e∈(hexS n d).data.toList,48<=e.toNat/\e.toNat<=70:=by
 intro e h;unfold hexS at h;simp only [Zq,QZ] at h;obtain ⟨c,-,rfl⟩:=h;obtain ⟨z,y⟩:=qa1 n (d - 1 - c);have j:=qmF ⟨(qaY n (d - 1 - c)).toNat,by omega⟩;have q:(((qaY n (d - 1 - c)).toNat:Nat):Int)=qaY n (d - 1 - c):=by omega
 simp only [q] at j;exact j
theorem qmG (n:Int):∀ c∈(digS n).data.toList,48<=c.toNat/\c.toNat<=70:=by
 intro c h;unfold digS qcg at h;exact qhJ n 4 c ((List.dropWhile_sublist _).subset (by simpa using h))
theorem qdi (n:Int):∀ e∈(textS n).data.toList,48<=e.toNat/\e.toNat<=72:=by
 intro e c;unfold textS at c;split at c
 ·simp at c
 ·split at c
  ·rename_i y z
   simp only [QM,Q9,or_false] at c;subst c;have h:=qmF ⟨n.toNat,by omega⟩;have q:((n.toNat:Nat):Int)=n:=(by omega);simp only [q] at h;omega
  ·split at c
   ·simp only [QY,QM,Q9,or_false] at c
    rcases c with c | rfl
    ·have:=qmG n e c;omega
    ·decide
   ·simp only [QY,QM,Q9,or_false] at c
    rcases c with (rfl | c) | rfl
    ·decide
    ·have:=qmG n e c;omega
    ·decide
def Sgn (c:UInt8):Prop:=36<=c.toNat/\c≠44
theorem qml {c:UInt8} (e:48<=c.toNat/\c.toNat<=72):Sgn c:=⟨by omega,fun h=>by subst h;exact absurd e.1 (by decide)⟩
theorem qhA (n:Int):∀ h∈(offS n).data.toList,Sgn h:=by
 intro h c;by_cases q:n<0
 ·rw [qbB n q] at c
  rcases QM.1 c with rfl | c
  ·exact ⟨by decide,by decide⟩
  ·exact qml (qdi _ h c)
 ·rw [qcr n (by omega)] at c
  rcases QM.1 c with rfl | c
  ·exact ⟨by decide,by decide⟩
  ·exact qml (qdi _ h c)
theorem qva:∀ k:Fin 11,(nmL k.val).all (fun x=>x.data.toList.all fun c=>decide (36<=c.toNat)&&decide (c≠44))=true:=by decide +kernel
theorem qkZ (k:Nat) (r:Int) (c:UInt8) (e:c∈(nmS k r).data.toList):nmS k r∈nmL k:=by
 unfold nmS at e |-;rcases qp6 (nmL k) r with h | h
 ·rw [h] at e;simp at e
 ·exact h
theorem qwf (k:Fin 11) (r:Int):∀ c∈(nmS k.val r).data.toList,Sgn c:=by
 intro c q;have y:=QA.1 (qva k) _ (qkZ _ r c q);have h:=QA.1 y c q;simp only [Qd,Qf] at h;exact h
theorem qkt {s:ByteArray} (q:∀ c∈s.data.toList,Sgn c):∀ c∈(brS s).data.toList,Sgn c:=by
 intro c h;rw [qb7] at h;simp only [QM,QY,Q9,or_false] at h;rcases h with rfl | h | rfl
 ·exact ⟨by decide,by decide⟩
 ·exact q c h
 ·exact ⟨by decide,by decide⟩
theorem qoJ {a b:ByteArray} (q:∀ c∈a.data.toList,Sgn c) (k:∀ c∈b.data.toList,Sgn c):∀ c∈(a++b).data.toList,Sgn c:=by
 intro c h;rw [qaa] at h;rcases QY.1 h with h | h
 ·exact q c h
 ·exact k c h
theorem qqz (k r n:Int):∀ c∈(txtS k r n).data.toList,Sgn c:=by
 cases q:qaC k r n
 ·rw [qme k r n q];intro c h;simp at h
 ·have z:=qdt k r n q
  have j:=fun y:Fin 11=>qwf y r
  rw [qa0 k r n q];rcases z with rfl | rfl | rfl | rfl | rfl | rfl | rfl | rfl | rfl | rfl
  ·exact j 1
  ·exact j 2
  ·exact j 3
  ·exact qkt (j 4)
  ·exact qkt (qoJ (j 5) (qhA n))
  ·show ∀ c∈(if n<0 then offS n else textS n).data.toList,Sgn c
   split
   ·exact qhA n
   ·exact fun c h=>qml (qdi n c h)
  ·exact qkt fun c h=>qml (qdi n c h)
  ·exact j 8
  ·exact j 9
  ·exact qoJ (a:=⟨#[36]⟩) (fun c h=>by simp at h;subst h;exact ⟨by decide,by decide⟩) (qhA (n+2))
theorem qjQ:∀ (F:List Str) (c:UInt8),c∈St.qAX F->c=44\/∃ x∈F,c∈x
 | [],c,h=>by simp [St.qAX] at h
 | [x],c,h=>.inr ⟨x,QD,h⟩
 | x :: y :: t,c,h=>by
  simp only [St.qAX,QY,QM] at h;rcases h with h | h | h
  ·exact .inr ⟨x,QD,h⟩
  ·exact .inl h
  ·rcases qjQ (y :: t) c h with h | ⟨q,z,h⟩
   ·exact .inl h
   ·exact .inr ⟨q,QG _ z,h⟩
theorem qtr (L:List Tr):∀ c∈(olistS L).data.toList,36<=c.toNat:=by
 intro c h;unfold olistS at h;rw [St.qA1] at h;rcases qjQ _ c h with rfl | ⟨x,q,t⟩
 ·decide
 ·unfold formsL at q
  obtain ⟨y,-,rfl⟩:=Zq.1 q;exact (qqz _ _ _ c t).1
theorem qmg (b:UInt8):∀ c∈numT b,48<=c.toNat/\c.toNat<=72:=qdi _
theorem qrX (b:Str):∀ h∈dataB b,32<=h.toNat:=by
 intro h c;unfold dataB at c;split at c
 ·simp at c
 ·rcases QY.1 c with c | c
  ·have:∀ h∈([68,69,70,66,32]:Str),32<=h.toNat:=by decide
   exact this h c
  ·rcases qmP _ _ h c with c | ⟨y,x,c⟩
   ·have:∀ h∈([44]:Str),32<=h.toNat:=by decide
    exact this h c
   ·obtain ⟨q,-,rfl⟩:=Zq.1 x
    have:=qmg q h c;omega
theorem qnx (b:Str):(dataB b).count 44=b.length - 1:=by
 unfold dataB;split
 ·rename_i h;rw [h];rfl
 ·rw [List.count_append,qne,QC]
  ·show 0+_=_;omega
  ·intro z y x
   obtain ⟨q,-,rfl⟩:=Zq.1 y;exact absurd (qmg q 44 x).1 (by decide)
theorem qhG (b:UInt8):(numT b).length<=6:=by
 unfold numT;have e:=qau (b.toNat:Int);have h:(textS (b.toNat:Int)).data.toList.length=(textS (b.toNat:Int)).size:=by simp
 omega
theorem qfZ (b:UInt8):(qd1 b).length=2:=by
 unfold qd1;have e:=qaQ (b.toNat:Int) 2;have h:(hexS (b.toNat:Int) 2).data.toList.length=(hexS (b.toNat:Int) 2).size:=by simp
 omega
theorem qhL (L:List Tr) (q:L.length<=60):(olistS L).size<=4000:=by
 have h:=qhT L q (formsL L).length;rw [Zt] at h;unfold olistS;rw [St.qA9];exact h
end Go.Proofs.YtecpnfhpcamljaaGreatDoor
namespace Go.Proofs.YtecpnfhpcamljaaGreatDoor.Cm
open Tryz
open Go.RowKit Go.Proofs.YtecpnfhpcamljaaGreatDoor Go.Proofs.YtecpnfhpcamljaaGreatDoor.St
structure CB (B b:Nat) (w:World) (bs:List UInt8):Prop where
 hB:B<=b
 ex:∃ p v,(p=.pointer none\/p=qcT b)/\w.heap[b]?=some (.cells #[p,v] 100 (0,0))/\w.ownsRowF B 5 1 v bs.length (bs.map u8V)/\v.ownBlock≠some b/\(bs=[]->v=.slice none 0 0)
theorem CB.lt {B b:Nat} {w:World} {p:List UInt8} (h:CB B b w p):b<w.heap.size:=by
 obtain ⟨_,v,y,_,q,_⟩:=h;exact lt_of_block q
theorem CB.fresh {B:Nat} (w:World) (h:B<=w.heap.size):CB B w.heap.size (w.alloc (.cells #[.pointer none,.slice none 0 0] 100)) []:=
 ⟨h,_,_,.inl rfl,heap_alloc_new w _,World.ownsRowF_nil _ _ _ _,by simp [Value.ownBlock],fun _=>rfl⟩
structure FK (B b:Nat) (w w':World):Prop where
 bel:Below B w w'
 oth:Lib.OthersKept 5 (some b) w w'
theorem FK.refl (B b:Nat) (w:World):FK B b w w:=⟨Qc _ _,Lib.OthersKept.refl _ _ _⟩
theorem FK.trans {B b:Nat} {w w1 w2:World} (h:FK B b w w1) (k:FK B b w1 w2):FK B b w w2:=⟨h.bel.trans k.bel,h.oth.trans k.oth⟩
theorem FK.of {B b:Nat} {w w':World} (h:Below w.heap.size w w') (o:B<=w.heap.size):FK B b w w':=
 ⟨h.mono o,fun q y k _ _=>(h.block q (lt_of_block k)).trans k⟩
theorem FK.block {B b:Nat} {w w':World} (q:FK B b w w') {k:Nat} {c:Array Value} {t:TypeId} {h:Nat×Nat} (z:w.heap[k]?=some (.cells c t h)) (y:k≠b) (E:t≠5):w'.heap[k]?=some (.cells c t h):=
 q.oth k _ z (fun e=>y (Qs e)) fun J G e=>E (by injection e)
theorem CB.more {B b:Nat} {w w':World} {i:List UInt8} (h:CB B b w i) (k:Below w.heap.size w w'):CB B b w' i:=by
 have M:=h.lt;obtain ⟨K,y,p,q,J,O,v,E⟩:=h;refine ⟨K,y,p,q,(k.block b M).trans J,?_,v,E⟩;exact O.kept (row:=none) ⟨k.os,k.tape,k.output,k.size,fun z G _=>k.block z G⟩ (by cases p.ownBlock <;> simp)
theorem qwI {B b:Nat} {w:World} {h:List UInt8} (K:CB B b w h) :
  Calls prog 115 #[.pointer (some ⟨b,0,none⟩)] w fun e E=>e=.returned (.tuple #[])/\FK B b w E/\
   ∃ v,E.heap[b]?=some (.cells #[qcT b,v] 100 (0,0))/\E.ownsRowF B 5 1 v h.length (h.map u8V)/\v.ownBlock≠some b/\(h=[]->v=.slice none 0 0):=by
 obtain ⟨M,T,v,O,j,y,k,p⟩:=K;obtain ⟨Z,z,J⟩:=qdP;have R:w.cell? ⟨b,0,none⟩=some T:=by rw [C9 j];rfl
 rcases O with rfl | rfl
 ·have W:w.frozen? ⟨b,0,none⟩=false:=Qp j 0
  have G:w.shape? b=some (100,2):=by simp [World.shape?,j]
  have q:Hid (FK B b w (w.setCell ⟨b,0,none⟩ (qcT b))/\
    ∃ v,(w.setCell ⟨b,0,none⟩ (qcT b)).heap[b]?=some (.cells #[qcT b,v] 100 (0,0))/\(w.setCell ⟨b,0,none⟩ (qcT b)).ownsRowF B 5 1 v h.length (h.map u8V)/\v.ownBlock≠some b/\(h=[]->v=.slice none 0 0)):=by
   refine ⟨⟨(Qc _ _).setCell M _,Lib.OthersKept.setCell (b:=b) (Lib.OthersKept.refl _ _ _) ⟨b,0,none⟩ rfl _⟩,v,by simp [World.setCell,Array.getElem?_modify,j],?_,k,p⟩;exact y.kept (row:=some b) ⟨rfl,rfl,rfl,by simp [World.setCell],fun aa _ U=>Below.heap_setCell _ _ _ _ (fun e=>U (by simp [e]))⟩ (Or.inr k)
  unfold qcT at q;clear j y k p
  go_enter func115,ntmps115
  go_wp2;rw [Lib.run_to_unsafe w ⟨b,0,none⟩ underlying98 underlying208 z (by rw [J];decide) G (Nat.zero_lt_succ 1)];simp only [Result.andThen];rw [Oper.upon_value];go_wp2;rw [run_callFunc_extern func168 (by kernel_rfl) (by kernel_rfl) (by kernel_rfl) (e:=Extern.AbiNoEscape.same) (by kernel_rfl)];rw [Lib.run_noEscape];simp only [Result.andThen];rw [Oper.upon_value];go_wp2;rw [Lib.run_from_unsafe w ⟨b,0,none⟩ underlying208 underlying98 z G qgq];simp only [Result.andThen];rw [Oper.upon_value];go_wp2
  go_end0
  exact ⟨rfl,q.o⟩
 ·have q:Hid (FK B b w w/\∃ v,w.heap[b]?=some (.cells #[qcT b,v] 100 (0,0))/\w.ownsRowF B 5 1 v h.length (h.map u8V)/\v.ownBlock≠some b/\(h=[]->v=.slice none 0 0)):=
   ⟨FK.refl _ _ _,v,j,y,k,p⟩
  unfold qcT at R;have V:=Lib.run_neq_ptr_same (P:=prog) w ⟨b,0,none⟩ underlying98 z;clear j y k p
  go_enter func115,ntmps115
  go_wp2
  go_end0
  exact ⟨rfl,q.o⟩
def qiF (B b:Nat) (w:World) (h:List UInt8) (r:Value) (e:Ending) (w':World):Prop:=e=.returned r/\CB B b w' h/\FK B b w w'
theorem qys {B b:Nat} {w:World} {e:List UInt8} (T:CB B b w e) (aC:B<=w.heap.size) (s:ByteArray) (ax:e.length+s.size<=140737488355328) :
  Calls prog 68 #[.pointer (some ⟨b,0,none⟩),.string s] w (qiF B b w (e++s.data.toList) (.tuple #[.int .i64 s.size,.nilIface])):=by
 have ab:=T.hB;have Z:=J9 (qwI T);obtain ⟨aj,aq,ao,av,an⟩:=info_parts qkB;have aa:Hid (∀ (h:World) (g:Value),FK B b w h->h.heap[b]?=some (.cells #[qcT b,g] 100 (0,0))->h.ownsRowF B 5 1 g e.length (e.map u8V)->g.ownBlock≠some b->(e=[]->g=.slice none 0 0)->
   ∃ v y k q,(Builtin.append_ #[35,9] 35 #[g,.string s]).run prog h=.ok (.slice v y k) q/\q.cell? ⟨b,1,none⟩=some g/\q.frozen? ⟨b,1,none⟩=false/\
    CB B b (q.setCell ⟨b,1,none⟩ (.slice v y k)) (e++s.data.toList)/\FK B b w (q.setCell ⟨b,1,none⟩ (.slice v y k))):=by
  intro h g z E J M O;have ak:=z.bel.size;obtain ⟨ah,q,ay,ac,U,am⟩:=Lib.run_append_own_stringF (P:=prog) h B 35 9 35 5 aj underlying35 underlying9 aq ao av an g e.length (e.map u8V) J s (by unfold maxLen;omega) ax (by omega);rw [qe4] at ac;have az:b<h.heap.size:=lt_of_block E;have K:q.heap[b]?=some (.cells #[qcT b,g] 100 (0,0)):=(U.block b az (fun G=>M G.symm)).trans E;have W:q.ownsRowF B 5 1 ah (e++s.data.toList).length ((e++s.data.toList).map u8V):=by
   rw [Qk,Zg];have G:s.data.toList.length=s.size:=(by simp);rw [G];exact ac
  have ae:=Lib.ownBlock_neF W K qxT;obtain ⟨v,y,k,rfl⟩:∃ v y k,ah=.slice v y k:=by
   rcases W.2 with ⟨V,_⟩ | ⟨aG,k,aH,aF,V,_⟩
   ·exact ⟨_,_,_,V⟩
   ·exact ⟨_,_,_,V⟩
  refine ⟨v,y,k,q,ay,by rw [C9 K];rfl,Qp K 1,⟨ab,qcT b,.slice v y k,.inr rfl,by simp [World.setCell,Array.getElem?_modify,K],?_,ae,?_⟩,z.trans ⟨?_,?_⟩⟩
  ·exact W.kept (row:=some b) ⟨rfl,rfl,rfl,by simp [World.setCell],fun af _ z=>Below.heap_setCell _ _ _ _ (fun G=>z (by simp [G]))⟩ (Or.inr ae)
  ·intro ad
   have aA:e=[]:=(List.append_eq_nil_iff.1 ad).1;have ap:s.data.toList=[]:=(List.append_eq_nil_iff.1 ad).2;have ar:s.data.toList.length=s.size:=(by simp);have aw:s.size=0:=(by rw [<- ar,ap];rfl);exact am.2 ⟨O aA,aw⟩
  ·exact ((Qc B h).grown U (by have:=ak;omega) (fun af z=>(J.lt af z).1)).setCell (p:=⟨b,1,none⟩) ab _
  ·exact Lib.OthersKept.setCell (b:=b) ((Lib.OthersKept.refl _ _ _).grown U (Lib.ownsRowF_kind J)) ⟨b,1,none⟩ rfl _
 clear T
 go_enter func68,ntmps68
 go_wp2_with fail
 refine Z.o.mono ?_;rintro G h ⟨rfl,z,g,E,J,M,O⟩;have aE:h.cell? ⟨b,1,none⟩=some g:=by rw [C9 E];rfl
 obtain ⟨v,y,k,q,HR,aB,aD,ag,hF⟩:=aa.o h g z E J M O;have au:=J9 ag;have ai:=J9 hF;have HR:=J9 HR;clear ag hF z E J M O Z aa
 go_wp2_with (at_builtin;refine qdF HR.o rfl _ _ rfl rfl rfl rfl ?_)
 go_ret2
 exact ⟨rfl,au.o,ai.o⟩
theorem qwb {B b:Nat} {w:World} {e:List UInt8} (R:CB B b w e) (au:B<=w.heap.size) :
  Calls prog 69 #[.pointer (some ⟨b,0,none⟩)] w (qiF B b w e (.string (strOf e))):=by
 have an:=R.lt;obtain ⟨v,p,ag,J,q,r,E,x⟩:=R;by_cases y:e=[]
 ·obtain rfl:=x y
  subst y;have am:∀ z K,(Builtin.unsafeString_ #[152,3] 9 #[.pointer K,.int .i64 0]).run prog z=.ok (.string .empty) z:=fun z K=>Lib.run_unsafeString_none z _ _ _ K
  have T:w.drew.cell? ⟨b,1,none⟩=some (.slice none 0 0):=by
   have:w.drew.heap[b]?=some (.cells #[p,.slice none 0 0] 100 (0,0)):=q;rw [C9 this];rfl
  have Z:(Builtin.unsafeSliceData_ #[35] 152 #[.slice none 0 0]).run prog w.drew=.ok (.pointer none) w.drew:=rfl;have M:Hid (CB B b w.drew []/\FK B b w w.drew):=⟨⟨v,p,.slice none 0 0,J,q,r,E,fun _=>rfl⟩,⟨Below.drew (Qc B w),(Lib.OthersKept.refl _ _ _).drew⟩⟩;clear v q r E x
  go_enter func69,ntmps69
  go_wp2
  go_region
  all_goals (go_wp2;go_ret;exact ⟨rfl,M.o⟩)
 ·have ah:e.length≠0:=by simpa using y
  obtain ⟨g,cap,h,j,rfl,O,G,aj,av,ar,V,ao⟩:∃ g cap h j,ag=.slice (some ⟨g,0,none⟩) e.length cap/\B<=g/\w.heap[g]?=some (.cells h 5 j)/\j.2<=e.length*1/\e.length<=cap/\cap<=maxLen/\h.size=cap*1/\h.toList.take (e.length*1)=e.map u8V:=by
   rcases r.2 with ⟨_,x⟩ | ⟨g,cap,h,j,ae,ai⟩
   ·exact absurd x ah
   ·exact ⟨g,cap,h,j,ae,ai⟩
  have T:w.drew.cell? ⟨b,1,none⟩=some (.slice (some ⟨g,0,none⟩) e.length cap):=by
   have:w.drew.heap[b]?=some (.cells #[p,.slice (some ⟨g,0,none⟩) e.length cap] 100 (0,0)):=q;rw [C9 this];rfl
  have Z:(Builtin.unsafeSliceData_ #[35] 152 #[.slice (some ⟨g,0,none⟩) e.length cap]).run prog w.drew=.ok (.pointer (some ⟨g,0,none⟩)) w.drew:=
   Lib.run_unsafeSliceData_row _ _ _ _ _ _ (by omega)
  have am:(Builtin.unsafeString_ #[152,3] 9 #[.pointer (some ⟨g,0,none⟩),.int .i64 e.length]).run prog w.drew=.ok (.string (strOf e)) (w.drew.freeze ⟨g,0,none⟩ e.length):=by
   refine Lib.run_unsafeString_row w.drew 152 3 9 5 underlying152 qlO g h.size (by have W:w.drew.heap[g]?=some (.cells h 5 j):=G;simp [World.shape?,W]) e y (by omega) (by unfold maxLen at ar;omega) ?_;intro ak ad aq;have:=r.cells (g:=g) rfl ak (.int .u8 ad.toNat) (by simp [u8V,aq]);exact this
  have M:Hid (CB B b (w.drew.freeze ⟨g,0,none⟩ e.length) e/\FK B b w (w.drew.freeze ⟨g,0,none⟩ e.length)):=by
   have ac:Lib.BuilderAtF 100 5 B b p (e.map u8V) w.drew:=⟨v,_,q,by rw [QC];exact r,E⟩;have hF:=ac.froze (g:=g) (cap:=cap) (by rw [QC];exact T);rw [QC] at hF;refine ⟨?_,⟨Lib.below_freeze (Below.drew (Qc B w)) (p:=⟨g,0,none⟩) O _,((Lib.OthersKept.refl _ _ _).drew).freeze _ _ ⟨h,j,G⟩⟩⟩;obtain ⟨_,ap,aa,U,af⟩:=hF;rw [QC] at U;exact ⟨v,p,ap,J,aa,U,af,fun ab=>absurd ab y⟩
  clear v q r E x G ao V O aj an J
  go_enter func69,ntmps69
  go_wp2
  go_region
  all_goals (go_wp2;go_ret;exact ⟨rfl,M.o⟩)
end Go.Proofs.YtecpnfhpcamljaaGreatDoor.Cm
namespace Go.Fr
open Go Go.RowKit
structure F where
 p:World->Prop
 up:∀ {w w':World},p w->Below w.heap.size w w'->p w'
def St (w:World):List F->Prop
 | []=>True
 | f :: h=>f.p w/\St w h
theorem St.up {w w':World}:∀ {l:List F},St w l->Below w.heap.size w w'->St w' l
 | [],_,_=>trivial
 | f :: _,h,q=>⟨f.up h.1 q,St.up h.2 q⟩
theorem up {w w':World} {l:List F} (h:Hid (St w l)) (q:Below w.heap.size w w'):Hid (St w' l):=St.up (l:=l) h q
theorem add {w:World} {l:List F} (q:Hid (St w l)) (f:F) (h:f.p w):Hid (St w (f :: l)):=⟨h,q⟩
theorem nil (w:World):Hid (St w []):=trivial
def blk (b:Nat) (o:Obj):F:=⟨fun q=>q.heap[b]?=some o,fun h w=>(w.block _ (Qb.1 h).1).trans h⟩
def bel (n:Nat) (w0:World):F:=⟨fun q=>Below n w0 q/\n<=q.heap.size,fun h w=>⟨h.1.trans (w.mono h.2),Qj h.2 w.size⟩⟩
def sz (n:Nat):F:=⟨fun w=>n<=w.heap.size,fun h q=>Qj h q.size⟩
theorem start (w:World) (n:Nat) (h:w.heap.size=n):Hid (St w [bel n w]):=⟨⟨Qc _ _,Nat.le_of_eq h.symm⟩,trivial⟩
theorem box {w:World} {l:List F} (q:Hid (St w l)) (cs:Array Value) (t:TypeId):∃ b w2,w.heap.size=b/\w.alloc (.cells cs t)=w2/\Hid (St w2 (blk b (.cells cs t (0,0)) :: l))/\Below w.heap.size w w2/\w2.heap.size=b+1:=
 have h:Below w.heap.size w (w.alloc (.cells cs t)):=(B0 (w:=w))
 ⟨_,_,rfl,rfl,add (up q h) (blk w.heap.size _) (World.alloc_heap_new w _),h,by simp⟩
theorem qBb {w:World} {b:Nat} {q y:Value} {z:TypeId} {E:Nat×Nat} (h:w.heap[b]?=some (.cells #[q,y] z E)):w.cell? ⟨b,0,none⟩=some q/\w.cell? ⟨b,1,none⟩=some y:=⟨C9 h 0,C9 h 1⟩
theorem cells3 {w:World} {b:Nat} {y z q:Value} {E:TypeId} {G:Nat×Nat} (h:w.heap[b]?=some (.cells #[y,z,q] E G)):w.cell? ⟨b,0,none⟩=some y/\w.cell? ⟨b,1,none⟩=some z/\w.cell? ⟨b,2,none⟩=some q:=⟨C9 h 0,C9 h 1,C9 h 2⟩
theorem qBq {w:World} {b:Nat} {y z q G J E:Value} {K:TypeId} {M:Nat×Nat} (h:w.heap[b]?=some (.cells #[y,z,q,G,J,E] K M)):w.cell? ⟨b,0,none⟩=some y/\w.cell? ⟨b,1,none⟩=some z/\w.cell? ⟨b,2,none⟩=some q/\w.cell? ⟨b,3,none⟩=some G/\w.cell? ⟨b,4,none⟩=some J/\w.cell? ⟨b,5,none⟩=some E:=⟨C9 h 0,C9 h 1,C9 h 2,C9 h 3,C9 h 4,C9 h 5⟩
end Go.Fr
namespace Go.Proofs.YtecpnfhpcamljaaGreatDoor
open Tryz
open Go.RowKit Cm
def qfc (P:List ByteArray):List UInt8:=P.flatMap fun h=>h.data.toList
theorem qjK (P:List ByteArray) (k:Nat) (h:k<P.length):qfc (P.take (k+1))=qfc (P.take k)++P[k].data.toList:=by
 unfold qfc;rw [QL h,List.flatMap_append];simp
theorem qv6 (P:List ByteArray) (k:Nat):(qfc (P.take k)).length<=(qfc P).length:=by
 have h:qfc P=qfc (P.take k)++qfc (P.drop k):=by
  unfold qfc;rw [<- List.flatMap_append,List.take_append_drop]
 rw [h,Qk];omega
def PartsAt (b:Nat) (w:World) (A:Option Addr) (P:List ByteArray):Prop:=
 P=[]\/∃ h,A=some ⟨h,0,none⟩/\h≠b/\w.heap[h]?=some (.cells (P.map Value.string).toArray 9 (0,0))
theorem qAe:(9 : TypeId)≠5:=by decide
theorem PartsAt.fk {B b:Nat} {w w':World} {A:Option Addr} {P:List ByteArray} (h:PartsAt b w A P) (f:FK B b w w'):PartsAt b w' A P:=by
 rcases h with h | ⟨z,q,k,y⟩
 ·exact .inl h
 ·exact .inr ⟨z,q,k,f.block y k qAe⟩
theorem PartsAt.at_ {b:Nat} {w:World} {A:Option Addr} {P:List ByteArray} (y:PartsAt b w A P) {j:Nat} (k:j<P.length):∃ h,A=some ⟨h,0,none⟩/\w.cell? ⟨h,j,none⟩=some (.string P[j]):=by
 rcases y with rfl | ⟨h,q,E,z⟩
 ·simp at k
 ·refine ⟨h,q,(C9 z j).trans ?_⟩
  simp [k]
theorem qb9 (w:World) :
  Calls prog 36 #[] w fun y q=>y=.returned (.func (.func 67) #[] #[.pointer (some ⟨w.heap.size,0,none⟩)])/\w.alloc (.cells #[.pointer none,.slice none 0 0] 100)=q:=by
 have z:∀ (e:Fn) (first h:Array Value) (w:World),(Instr.makeFunc e first h).run prog w=.ok (.func e first h) w:=fun _ _ _ _=>rfl
 go_enter func36,ntmps36
 go_wp2;go_ret;exact ⟨rfl,rfl⟩
theorem qii {B b:Nat} {w:World} {h:List UInt8} (O:CB B b w h) (M:B<=w.heap.size) (P:List ByteArray) (A:Option Addr) (n cap:Nat) (ab:P.length=n) (F:PartsAt b w A P) (af:h.length+(qfc P).length<=100000000) (aj:n<=1000) :
  Calls prog 67 #[.slice A n cap,.pointer (some ⟨b,0,none⟩)] w (qiF B b w (h++qfc P) (.string (St.strOf (h++qfc P)))):=by
 have Z:Hid (∀ (wr:World) (e:Nat),e<n->CB B b wr (h++qfc (P.take e))->FK B b w wr->∃ C G,A=some ⟨C,0,none⟩/\wr.cell? ⟨C,e,none⟩=some (.string G)/\
   Calls prog 68 #[.pointer (some ⟨b,0,none⟩),.string G] wr fun y z=>y=.returned (.tuple #[.int .i64 G.size,.nilIface])/\Hid (CB B b z (h++qfc (P.take (e+1))))/\Hid (FK B b w z)):=by
  intro wr e ah s i;have K:e<P.length:=by omega
  obtain ⟨C,W,ag⟩:=(F.fk i).at_ K;refine ⟨C,_,W,ag,(qys s (Qj M i.bel.size) P[e] ?_).mono ?_⟩
  ·have ad:=qv6 P (e+1)
   rw [qjK P e K,Qk] at ad;rw [Qk];have y:P[e].data.toList.length=P[e].size:=(by simp);omega
  ·rintro y z ⟨rfl,k,q⟩
   rw [Za,<- qjK P e K] at k;exact ⟨rfl,k,i.trans q⟩
 have ae:Hid (∀ (wr:World),CB B b wr (h++qfc (P.take n))->FK B b w wr->Calls prog 69 #[.pointer (some ⟨b,0,none⟩)] wr fun y z=>y=.returned (.string (St.strOf (h++qfc P)))/\CB B b z (h++qfc P)/\FK B b w z):=by
  intro wr s i;rw [QW (by omega)] at s;refine (qwb s (Qj M i.bel.size)).mono ?_;rintro y z ⟨rfl,k,q⟩;exact ⟨rfl,k,i.trans q⟩
 have U:Hid (CB B b w (h++qfc (P.take 0))):=by
  show CB B b w (h++[]);rw [Zu];exact O
 have T:Hid (FK B b w w):=FK.refl _ _ _;clear O F af ab
 go_enter func67,ntmps67
 go_wp2
 go_loopw [8] (fun J wr=>∃ e:Nat,e<=n/\J=.int .i64 e/\Hid (CB B b wr (h++qfc (P.take e)))/\Hid (FK B b w wr)) (fun J _=>n - (intOf J).toNat)
 case atStart=>exact ⟨0,Qu _,rfl,U,T⟩
 case round=>
  clear U T;obtain ⟨e,ah,rfl,s,i⟩:=hrel;by_cases ai:e<n
  ·obtain ⟨C,G,F,aa,E⟩:=Z.o wr e ai s.o i.o
   subst F;have E:=J9 E;clear s i
   go_wp2_with fail
   refine E.o.mono ?_;rintro y ac ⟨rfl,k,q⟩;clear E aa;go_wp2;go_roundw
   case rel=>exact ⟨e+1,by omega,by go_num,k,q⟩
   case measure=>simp [intOf];omega
  ·obtain rfl:e=n:=by omega
   have V:=J9 (ae.o wr s.o i.o);clear s i
   go_wp2_with fail
   refine V.o.mono ?_;rintro y ac ⟨rfl,k,q⟩;have k:=J9 k;have q:=J9 q;clear V;go_wp2;go_ret;exact ⟨rfl,k.o,q.o⟩
end Go.Proofs.YtecpnfhpcamljaaGreatDoor
namespace Go.Stops
open Go Go.RowKit
def Apart {z:Type} (E:Nat) (y:z->World->Prop):Prop:=∀ h q s,y h q->q.grownBy s (some E)->y h s
def qBO {v:Type} (F:Fence) (n:Nat) (P:Program) (g:Nat) (lb:Array Value) (T:v->Array Value) (J:List v->v->Prop) (O:Nat) (K:World->World->Prop) (S:List v->Prop) (w:World):Prop:=
 ∀ (E:Nat) (h z:List v->World->Prop) (q:World),Below w.heap.size w q->AbidesFrom q.heap.size h->Apart O h->
  (∀ e y W1,h e W1->J e y->YieldAt F (n - 1) P E (T y) W1 fun x l=>(x=.returned (.bool true)/\h (e++[y]) l/\K W1 l)\/(x=.returned (.bool false)/\z (e++[y]) l))->
  AbidesFrom q.heap.size z->h [] q->CallsIn F n P g (#[.func (.yield E) #[] #[]]++lb) q fun x l=>(∃ M,x=.returned M)/\((∃ G,S G/\h G l)\/∃ e,z e l)
def qmw {y:Type} (B:Nat) (E:World->World->Prop) (I z:List y->World->Prop) (xs:List y) (q:World):Exit->Act->World->Prop
 | .normal,_,h=>KeepsFrom B q h/\E q h/\I xs h
 | .ret,_,h=>KeepsFrom B q h/\z xs h
 | .exit _,_,_=>False
 | .goto _,_,_=>False
 | .panic _,_,_=>False
 | .outgrown,_,_=>False
variable {F:Fence} {n:Nat} {P:Program}
theorem qBD {q:Type} {g:Operand} {ps:Array Tmp} {assign body:Code} {Q:Exit->Act->World->Prop} {a:Act} {w:World} (aZ:F.round=none) (aQ:1<=n)
  {gf:Nat} {lb:Array Value} (aK:a.eval g=.func (.func gf) #[] lb) (aX:F.fn gf) (aC:∀ args w,(callFunc gf args).run P w=.ok (.enter gf args) w)
  {af:q->Array Value} {ah:List q->q->Prop} {an:Nat} {E:World->World->Prop} {S:List q->Prop} (a8:qBO F (n - 1) P gf lb af ah an E S w) (be:an<w.heap.size)
  (am:∀ {A B C:World},E A B->E B C->E A C) (ao:∀ (e:World) (l:Nat) (o aT:Obj),w.heap.size<=l->e.heap[l]?=some o->o.isCells=false->E e (e.putObj l aT)) (aB:∀ x,(af x).size=ps.size)
  (I ae:List q->World->Prop) (X:OwnFrom w.heap.size I) (a7:Apart an I) (ag:OwnFrom w.heap.size ae) (aV:I [] w) (ad:q->Act->World->Prop) (aP:∀ x,OwnFrom w.heap.size (ad x))
  (aU:∀ (l:Nat) (h:List q) (x:q) (e:World) (aq:Act->World->Prop),I h e->ah h x->(∀ G aa,KeepsFrom w.heap.size e aa->E e aa->I h aa->ad x G aa->aq G aa)->
   assign.wpIn (F.inRound l) (n - 1 - 1) P (Exit.then aq (fun _ _ _=>False)) {tmps:=(ps.zip (af x)).foldl (fun t (p,v)=>t.setIfInBounds p v) a.tmps,defers:=[]} e)
  (aD:∀ (l:Nat) (h:List q) (x:q) (G:Act) (e:World),I h e->ad x G e->ah h x->body.wpIn (F.inRound l) (n - 1 - 1) P (qmw w.heap.size E I ae (h++[x]) e) G e)
  (aS:∀ (D:Nat) (xs:List q) (e:World),w.heap.size<=D->S xs->I xs e->e.heap[D]?=some (.deferred (some []))->Q .normal {a with defers:={target:=.collected D,args:=#[]} :: a.defers} e)
  (aG:∀ (D:Nat) (h:List q) (e:World),w.heap.size<=D->ae h e->e.heap[D]?=some (.deferred (some []))->Code.ret.wpIn F n P Q {a with defers:={target:=.collected D,args:=#[]} :: a.defers} e) :
  (Code.rangeFunc g ps assign body).wpIn F n P Q a w:=by
 refine wpIn_rangeFunc fun fn aF=>?_
 rw [aZ];let y:LoopState->Option Code->Loop:=fun a2 aY=>{state:=a2,pending:=aY,fn:=fn,tmps:=a.tmps,params:=ps,assign:=assign,body:=body,defers:=w.heap.size}
 let B:World:=(w.alloc (.deferred (some []))).alloc (.loop (y .ready none));have a0:B.heap[w.heap.size]?=some (.deferred (some [])):=(Below.heap_alloc _ _ _ (by simp)).trans (World.alloc_heap_new w _);have aL:B.heap[w.heap.size+1]?=some (.loop (y .ready none)):=by
  have aJ:=World.alloc_heap_new (w.alloc (.deferred (some []))) (.loop (y .ready none))
  rwa [QB] at aJ
 have aW:I [] B:=X.alloc _ (X.alloc _ aV);have aR:Below w.heap.size w B:=((B0 (w:=w))).alloc (by simp) _;have bc:B.heap.size=w.heap.size+1+1:=by simp [B]
 -- what a turn of a walk of the iterator's own leaves of the two blocks
 have walk:∀ {j Y:World} {row:Option Nat} {R:Nat} {o:Obj},j.grownBy Y row->(∀ k,row=some k->B.heap.size<=k/\∃ o:Obj,j.heap[k]?=some o/\o.isWalk=true)->j.heap[R]?=some o->R<w.heap.size+2->Y.heap[R]?=some o:=fun r s ak bf=>
  (r.block _ (Qb.1 ak).1 fun W=>by have:=(s _ W.symm).1;omega).trans ak
 have aw:∀ {j Y:World} {row:Option Nat},(∀ k,row=some k->B.heap.size<=k/\∃ o:Obj,j.heap[k]?=some o/\o.isWalk=true)->(∀ k,row=some k->w.heap.size<=k/\∃ o:Obj,j.heap[k]?=some o/\o.isCells=false):=fun s k W=>by
  obtain ⟨a9,o,aN,a5⟩:=s k W;exact ⟨by omega,o,aN,Obj.not_cells_of_walk a5⟩
 refine ⟨w.heap.size+1,[{target:=.collected w.heap.size,args:=#[]}],B,{target:=.fn (.func gf) lb,args:=#[.func (.yield (w.heap.size+1)) #[] #[]]},B,gf,#[.func (.yield (w.heap.size+1)) #[] #[]]++lb,B,
  run_enterLoop_outer _ _ _ _ _,by simp only [resolve,aK];simp [go_sem],fun bb ar=>by simp [Target.leads] at ar;subst ar;exact aX,by simp [invoke,go_sem,aC],fun _=>aQ,?_⟩
 refine (a8 (w.heap.size+1) (fun h e=>I h e/\e.heap[w.heap.size+1]?=some (.loop (y .ready none))/\e.heap[w.heap.size]?=some (.deferred (some [])))
  (fun h e=>ae h e/\e.heap[w.heap.size+1]?=some (.loop (y .done (some .ret)))/\e.heap[w.heap.size]?=some (.deferred (some []))) B aR ?_ ?_ ?_ ?_ ⟨aW,aL,a0⟩).mono ?_
 ·rintro ac j Y row ⟨M,K,O⟩ r s
  exact ⟨X ac j Y row M r (aw (Y:=Y) s),walk r s K (by omega),walk r s O (by omega)⟩
 ·rintro ac j Y ⟨M,K,O⟩ r
  have ap:∀ {R:Nat} {o:Obj},w.heap.size<=R->j.heap[R]?=some o->Y.heap[R]?=some o:=fun ak ay=>(r.block _ (Qb.1 ay).1 fun W=>by have:=Qs W;omega).trans ay
  exact ⟨a7 ac j Y M r,ap (by omega) K,ap (Qa _) O⟩
 ·rintro h x e ⟨M,K,O⟩ az
  refine ⟨fn,_,assign,body,run_yield (P:=P) (args:=af x) K (aB x),roundIn_of_wpIn aF (aU _ h x e _ M az fun G aj ax aO aI a4=>?_)⟩;have ab:=ax.same _ _ (by omega) K rfl;have aA:=ax.same _ _ (Qa _) O rfl;have a1:w.heap.size+1<aj.heap.size:=(Qb.1 ab).1;refine ⟨_,run_beginRound ab rfl,?_⟩;obtain ⟨Z,V⟩:=N9 (aj.putObj (w.heap.size+1) (.loop {y .ready none with state:=.busy}));have au:Z.heap[w.heap.size+1]?=some (.loop {y .ready none with state:=.busy}):=V ▸ World.putObj_heap_same a1;have av:Z.heap[w.heap.size]?=some (.deferred (some [])):=V ▸ (World.putObj_heap_other (by omega)).trans aA;have aE:I h Z:=V ▸ X.putObj _ aI (by omega) ab rfl;have a6:ad x G Z:=V ▸ (aP x).putObj _ a4 (by omega) ab rfl;have a3:E e Z:=am aO (V ▸ ao _ _ _ _ (by omega) ab rfl);show body.wpIn _ _ _ _ _ (aj.putObj (w.heap.size+1) (.loop {y .ready none with state:=.busy}));rw [V];refine wpIn_mono (aD _ h x G Z aE a6 az) ?_;rintro (_ | _ | _ | _ | _ | _) bd aM ai
  case normal=>
   obtain ⟨z,T,U⟩:=ai;have J:=z.same _ _ (by omega) au rfl;exact ⟨_,_,run_endRound (P:=P) none J,.inl ⟨rfl,⟨X.putObj _ U (by omega) J rfl,World.putObj_heap_same (Qb.1 J).1,(World.putObj_heap_other (by omega)).trans (z.same _ _ (Qa _) av rfl)⟩,am (am a3 T) (ao _ _ _ _ (by omega) J rfl)⟩⟩
  case ret=>
   obtain ⟨z,U⟩:=ai;have J:=z.same _ _ (by omega) au rfl;exact ⟨_,_,run_endRound (P:=P) (some .ret) J,.inr ⟨rfl,ag.putObj _ U (by omega) J rfl,World.putObj_heap_same (Qb.1 J).1,(World.putObj_heap_other (by omega)).trans (z.same _ _ (Qa _) av rfl)⟩⟩
  all_goals exact ai.elim
 ·rintro ac j Y row ⟨M,K,O⟩ r s
  exact ⟨ag ac j Y row M r (aw (Y:=Y) s),walk r s K (by omega),walk r s O (by omega)⟩
 ·rintro W aM ⟨⟨v,rfl⟩,(⟨xs,aH,z,T,U⟩ | ⟨h,z,T,U⟩)⟩
  ·exact ⟨none,_,run_endLoop (P:=P) T (by simp [y]),aS _ xs _ (Qa _) aH (X.putObj _ z (by omega) T rfl) ((World.putObj_heap_other (by omega)).trans U)⟩
  ·exact ⟨some .ret,_,run_endLoop (P:=P) T (by simp [y]),aG _ h _ (Qa _) (ag.putObj _ z (by omega) T rfl) ((World.putObj_heap_other (by omega)).trans U)⟩
end Go.Stops
