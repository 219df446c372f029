/-
  EvD, EvE, EvF, EvG, EvH, TbT, TbU, TbZ, RkA, EsA.
-/
import Derived.Test.YtecpnfhpcamljaaGreatDoorKAZ
set_option linter.all false
set_option maxRecDepth 100000
set_option maxHeartbeats 4000000
namespace Go.Ev
open Go Go.RowKit
section
variable {P:Program} {w0 w:World} {ρ:Ren} {σ σ':Hp} {T:Tm} {a:Act} {o:Oper}
theorem qlm {h:Array Value} {t:TypeId} {k i:Nat} (q:w.heap[k]?=some (.cells h t (0,0))):w.cell? ⟨k,i,none⟩=h[i]?:=by simp [World.cell?,q]
theorem qjq (k i j:Nat):(⟨k,i,none⟩:Addr).add j=⟨k,i+j,none⟩:=by
 unfold Addr.add;split
 ·rename_i h;subst h;rfl
 ·rfl
def qpk (P:Program) (x:Hp) (t:TypeId) (b h:Nat):Option A1:=match look x b with
 | some n=>match qy7 P t with
  | some true=>match sizeT P t with
   | some q=>match Nat.beq ((n.c.drop h).take q).length q with
    | true=>some ⟨true,(n.c.drop h).take q⟩
    | false=>none
   | none=>none
  | some false=>match n.c[h]? with
   | some y=>some ⟨false,[y]⟩
   | none=>none
  | none=>none
 | none=>none
theorem qjE {t:TypeId} {b j k ag:Nat} {x:A1} (ac:HR w0 ρ σ w) (h:qpk P σ t b j=some x) (ai:ρ b=some (k,ag)):∃ n,x.rel ρ n/\(loadVar t ⟨k,j,none⟩).run P w=.ok n w:=by
 unfold qpk at h;split at h
 ·rename_i M ae
  obtain ⟨ak,am,W,-,G,U,J,aj⟩:=ac.obj b M ae;rw [ai] at W;cases W;split at h
  ·rename_i K
   split at h
   ·rename_i i af
    split at h
    ·rename_i q
     have q:=Qz q;cases h;have T:R2 ρ ((M.c.drop j).take i) ((G.toList.drop j).take i):=by
      refine R2.qBA ?_ fun ab ad y=>?_
      ·rw [q]
       rcases Nat.eq_zero_or_pos i with Z | Z
       ·subst Z;rfl
       ·have z:j+(i - 1)<M.c.length:=by simp at q;omega
        obtain ⟨n,v,-⟩:=J _ _ (Qg z);have:=(Qb.1 v).1;simp;omega
      ·have E:ab<i:=by
        have:=(QN.1 y).1;rw [q] at this;exact this
       rw [Zs,Qi E,Zc] at y;obtain ⟨n,v,O⟩:=J _ _ y;exact ⟨n,by rw [Zs,Qi E,Zc,Q8];exact v,O⟩
     refine ⟨.agg ((G.toList.drop j).take i).toArray,⟨_,rfl,T⟩,?_⟩;have aa:((G.toList.drop j).take i).length=i:=(by rw [T.length,q]);have z:=run_loadCells_list (P:=P) w ⟨k,j,none⟩ ((G.toList.drop j).take i) fun ah n V=>by
      rw [qjq,qlm U,<- Q8];have E:ah<i:=by
       have:=(QN.1 V).1;rw [aa] at this;exact this
      rwa [Zs,Qi E,Zc] at V
     rw [aa] at z;simp [loadVar,qfD K,qa3 af,z]
    ·cases h
   ·cases h
  ·rename_i K
   split at h
   ·rename_i ad y
    cases h;obtain ⟨n,v,O⟩:=J _ _ y;refine ⟨n,⟨_,rfl,O⟩,?_⟩;simp only [loadVar,Sem.run_bind,qfD K,Result.andThen_ok,Bool.false_eq_true,if_false,run_load,qlm U,v]
   ·cases h
  ·cases h
 ·cases h
theorem qsq {t:TypeId} {x:Operand} {b h:Nat} {q:A1} (K:o.op=.load t x) (k:HR w0 ρ σ w) (G:TR ρ T a) (M:opc T x=some (.ptr b h)) (y:qpk P σ t b h=some q):Res P w0 ρ o a w (some (.one q)) σ:=by
 obtain ⟨V,O,J,E⟩:=qaG G M;obtain ⟨U,v,z⟩:=qjE k y J;refine qbF k ?_ v;simp [execOp,K,Instr.loadAt,Instr.sureAddr,E,z]
theorem qp2 {t:TypeId} {x u:Operand} {b e:Nat} {h:A1} {ob:AO} (an:o.op=.store t x u) (M:HR w0 ρ σ w) (U:TR ρ T a) (ah:opc T x=some (.ptr b e)) (aj:op1 T u=some h) (W:look σ b=some ob)
  (af:sizeT P t=some h.l.length) (aq:e+h.l.length<=ob.c.length):Res P w0 ρ o a w none ((b,⟨ob.t,over ob.c e h.l,ob.s⟩) :: σ):=by
 obtain ⟨ak,ar,ab,ae⟩:=qaG U ah;have E:=(qcB U aj).cells;obtain ⟨au,aw,V,-,i,ac,O,q⟩:=M.obj b ob W;rw [ab] at V;cases V;have Z:(a.eval u).cells.size=h.l.length:=by rw [<- Zf,E.length]
 have ao:ob.c.length<=i.size:=by
  rcases Nat.eq_zero_or_pos ob.c.length with ag | ag
  ·omega
  ·obtain ⟨y,k,-⟩:=O (ob.c.length - 1) _ (Qg (by omega))
   have:=(Qb.1 k).1;omega
 have am:=run_storeCells_at (P:=P) ak e ob.t (a.eval u).cells.toList 0 i w ac (by simp;omega) E.ones;refine ⟨.skip,_,ρ,?_,Ext.refl _,M.row ab W (l:=over ob.c e h.l) (cur':=(i.toList.take (e+0)++(a.eval u).cells.toList++i.toList.drop (e+0+(a.eval u).cells.toList.length)).toArray) (fun z ap q=>?_) ?_,rfl⟩
 ·have ad:((a.eval u).cells.size≠h.l.length)=False:=by simp [Z]
  simp only [execOp,an,Instr.storeAt,Instr.sureAddr,ae,storeVar,Sem.run_bind,Sem.run_pure,Result.andThen_ok,qa3 af,ad,if_false,am]
 ·rw [qiD] at q
  have G:(a.eval u).cells.toList.length=h.l.length:=by rw [Zf,Z]
  have v:(i.toList.take e).length=e:=by simp;omega
  rw [List.getElem?_toArray,Nat.add_zero,G];split at q
  ·rename_i aa
   obtain ⟨y,k,J⟩:=E.at_ q;refine ⟨y,?_,J⟩;rw [Za,Zr (by rw [v];exact aa.1),v,List.getElem?_append_left (by rw [G];omega)];exact k
  ·rename_i aa
   obtain ⟨y,k,J⟩:=O _ _ q;have av:=(QN.1 q).1;refine ⟨y,?_,J⟩;rw [<- Q8] at k;by_cases K:z<e
   ·rw [Za,List.getElem?_append_left (by rw [v];exact K),Zs,Qi K]
    exact k
   ·rw [Zr (by simp;omega),Qk,v,G,Zc,show e+h.l.length+(z - (e+h.l.length))=z by omega]
    exact k
 ·have ai:(i.toList.take (e+0)++(a.eval u).cells.toList++i.toList.drop (e+0+(a.eval u).cells.toList.length)).toArray.size=i.size:=by simp;omega
  rw [ai,qcv];exact q
def intOf (x:Option AC):Option Nat:=match x with
 | some (.int _ (.ofNat h))=>some h
 | _=>none
def qdq (P:Program) (t:TypeId) (x:Option AC) (i:Option AC):Option (Nat×Nat):=match intOf i with
 | some b=>match P.underlying t,x with
  | some (.slice q),some (.sl l n h _)=>match sizeT P q,Nat.blt b h with
   | some e,true=>some (l,n+b*e)
   | _,_=>none
  | some (.array h q),some (.ptr l n)=>match sizeT P q,Nat.blt b h with
   | some e,true=>some (l,n+b*e)
   | _,_=>none
  | _,_=>none
 | none=>none
theorem qi2 {x:Option AC} {n:Nat} (h:intOf x=some n) {v:Value} (y:∀ k,x=some k->k.rel ρ v):∃ q,v=.int q (n:Int):=by
 unfold intOf at h;split at h
 ·cases h;exact ⟨_,y _ rfl⟩
 ·cases h
theorem qdI {t:TypeId} {x i:Operand} {b M:Nat} (U:o.op=.indexAddr t x i) (w:TR ρ T a) (c:qdq P t (opc T x) (opc T i)=some (b,M)):∃ v,(qo2 b M).rel ρ v/\∀ l,(execOp a.eval o).run P l=.ok (.value v) l:=by
 unfold qdq at c;split at c
 ·rename_i e Z
  obtain ⟨ae,O⟩:=qi2 (ρ:=ρ) Z fun ad ab=>qaG w ab
  split at c
  ·rename_i V W z h ac E K
   obtain ⟨G,aa,J,s⟩:=qaG w K;split at c
   ·rename_i n y k
    cases c;have k:e<h:=QS k;refine ⟨.pointer (some ⟨G,z+e*n,none⟩),qgb J,fun l=>?_⟩;have q:(0:Int)<=(e:Int)/\(e:Int)<(h:Int):=(by omega);simp only [execOp,U,Instr.indexAt,O,s,asIntOf,Sem.run_bind,Sem.run_pure,Result.andThen_ok,qcm E,q,and_self,if_true,qa3 y,qjq,Int.toNat_natCast]
   ·cases c
  ·rename_i h V W z E K
   obtain ⟨G,aa,J,s⟩:=qaG w K;split at c
   ·rename_i n y k
    cases c;have k:e<h:=QS k;refine ⟨.pointer (some ⟨G,z+e*n,none⟩),qgb J,fun l=>?_⟩;have q:(0:Int)<=(e:Int)/\(e:Int)<(h:Int):=(by omega);simp only [execOp,U,Instr.indexAt,Instr.sureAddr,O,s,asIntOf,Sem.run_bind,Sem.run_pure,Result.andThen_ok,qcm E,q,and_self,if_true,qa3 y,qjq,Int.toNat_natCast]
   ·cases c
  ·cases c
 ·cases c
def qfG (P:Program) (t:TypeId) (f:Nat):Option Field:=match P.underlying t with
 | some (.struct h)=>h[f]?
 | _=>none
theorem qg4 {t:TypeId} {f:Nat} {q:Field} (h:qfG P t f=some q):∃ y,P.underlying t=some (.struct y)/\y[f]?=some q:=by
 unfold qfG at h;split at h
 ·exact ⟨_,by assumption,h⟩
 ·cases h
theorem qdH {t:TypeId} {x:Operand} {f:Nat} {b q n:Nat} {h:Field} (O:o.op=.fieldAddr t x f) (E:TR ρ T a) (J:qfG P t f=some h) (U:opc T x=some (.ptr b q)) (G:sizeT P h.type=some (n+1)) :
  ∃ v,(qo2 b (q+h.offset)).rel ρ v/\∀ k,(execOp a.eval o).run P k=.ok (.value v) k:=by
 obtain ⟨V,w,y⟩:=qg4 J;obtain ⟨K,W,M,z⟩:=qaG E U;refine ⟨.pointer (some ⟨K,q+h.offset,none⟩),qgb M,fun k=>?_⟩;simp [execOp,O,Instr.fieldAt,w,qcm w,y,Instr.sureAddr,z,fieldPlace,qa3 G,qjq]
def qpG (P:Program) (t:TypeId) (l:List AC) (h:Nat):Option A1:=match qy7 P t with
 | some true=>match sizeT P t with
  | some n=>match Nat.beq ((l.drop h).take n).length n with
   | true=>some ⟨true,(l.drop h).take n⟩
   | false=>none
  | none=>none
 | some false=>match l[h]? with
  | some q=>some ⟨false,[q]⟩
  | none=>none
 | none=>none
theorem qj9 {t:TypeId} {l:List AC} {y:Nat} {x:A1} (h:qpG P t l y=some x) {cs:Array Value} (E:R2 ρ l cs.toList):∃ i,x.rel ρ i/\∀ w,(part t cs y).run P w=.ok i w:=by
 unfold qpG at h;split at h
 ·rename_i z
  split at h
  ·rename_i J O
   split at h
   ·rename_i n
    have n:=Qz n;cases h;refine ⟨.agg (cs.extract y (y+J)),⟨_,rfl,?_⟩,fun w=>by simp [part,qfD z,qa3 O]⟩;have U:cs.size=l.length:=(by rw [<- Zf,E.length]);refine R2.qBA ?_ fun K M q=>?_
    ·rw [n]
     simp at n |-;omega
    ·have T:K<J:=by
      have:=(QN.1 q).1;rw [n] at this;exact this
     rw [Zs,Qi T,Zc] at q;obtain ⟨i,v,G⟩:=E.get _ _ q;refine ⟨i,?_,G⟩;rw [Q8,Array.getElem?_extract];have:=(Qb.1 v).1;rw [Qi (by omega)];exact v
   ·cases h
  ·cases h
 ·rename_i z
  split at h
  ·rename_i M q
   cases h;obtain ⟨i,v,G⟩:=E.get _ _ q;exact ⟨i,⟨_,rfl,G⟩,fun w=>by simp [part,qfD z,v]⟩
  ·cases h
 ·cases h
theorem qqp {t:TypeId} {x:Operand} {f:Nat} {l:List AC} {h:Field} {q:A1} (V:o.op=.field t x f) (z:HR w0 ρ σ w) (J:TR ρ T a) (K:qfG P t f=some h) (W:op1 T x=some ⟨true,l⟩) (E:qpG P h.type l h.offset=some q):Res P w0 ρ o a w (some (.one q)) σ:=by
 obtain ⟨Z,M,y⟩:=qg4 K;obtain ⟨ab,G,U⟩:=qcB J W;obtain ⟨aa,v,O⟩:=qj9 E U;refine qbF z ?_ v;simp [execOp,V,Instr.field,qcm M,y,asAgg,G,O]
def qos (P:Program) (t:TypeId) (x:Option A1) (i:Option AC):Option A1:=match intOf i,P.underlying t,x with
 | some h,some (.array q e),some ⟨true,n⟩=>match sizeT P e,Nat.blt h q with
  | some l,true=>qpG P e n (h*l)
  | _,_=>none
 | _,_,_=>none
theorem qpT {t:TypeId} {x i:Operand} {h:A1} (W:o.op=.index t x i) (y:HR w0 ρ σ w) (n:TR ρ T a) (e:qos P t (op1 T x) (opc T i)=some h):Res P w0 ρ o a w (some (.one h)) σ:=by
 unfold qos at e;split at e
 ·rename_i l s aa ac E O Z
  obtain ⟨ae,G⟩:=qi2 (ρ:=ρ) E fun h M=>qaG n M
  obtain ⟨af,z,V⟩:=qcB n Z;split at e
  ·rename_i ab K q
   have q:l<s:=QS q;obtain ⟨ad,v,U⟩:=qj9 e V;refine qbF y ?_ v;have J:(0:Int)<=(l:Int)/\(l:Int)<(s:Int):=(by omega);simp only [execOp,W,Instr.index,G,z,asIntOf,Sem.run_bind,Sem.run_pure,Result.andThen_ok,qcm O,J,and_self,if_true,qa3 K,Int.toNat_natCast,U]
  ·cases e
 ·cases e
theorem R1.get:∀ {l:List A1} {v:List Value},R1 ρ l v->∀ {i:Nat} {x:A1},l[i]?=some x->∃ h,v[i]?=some h/\x.rel ρ h
 | [],_,_,i,x,e=>by simp at e
 | y :: E,_,⟨h,z,q,t,u⟩,0,x,e=>by simp at e;subst e;subst q;exact ⟨h,rfl,t⟩
 | y :: E,_,⟨h,z,q,t,u⟩,i+1,x,e=>by subst q;simpa using R1.get u (by simpa using e)
theorem qlB {x:Operand} {i:Nat} {l:List A1} {q:A1} (K:o.op=.extract x i) (v:HR w0 ρ σ w) (G:TR ρ T a) (M:qkh T x=some (.tup l)) (y:l[i]?=some q):Res P w0 ρ o a w (some (.one q)) σ:=by
 obtain ⟨U,E,J⟩:=qfz G M;obtain ⟨O,h,z⟩:=J.get y;refine qbF v ?_ z;rw [Q8] at h;simp [execOp,K,Instr.extract,E,h]
end
end Go.Ev
namespace Go.Ev
open Go Go.RowKit
section
variable {P:Program} {w0 w:World} {ρ:Ren} {σ σ':Hp} {T:Tm} {a:Act} {o:Oper}
theorem qwq {x:Operand} {h:Array TypeId} {t e:TypeId} {b k l:Nat} {c:Option Nat} (J:o.op=.call {callee:=.builtin .len,args:=#[x],argTypes:=h}) (q:HR w0 ρ σ w) (E:TR ρ T a) (K:h[0]?=some t) (y:P.underlying t=some (.slice e)) (G:opc T x=some (.sl b k l c)) :
  Res P w0 ρ o a w (some (.one ⟨false,[.int .i64 l]⟩)) σ:=by
 obtain ⟨O,M,-,z⟩:=qaG E G;refine qbF (v:=.int .i64 l) q ?_ ⟨_,rfl,rfl⟩;simp [execOp,J,resolve,invoke,builtin,Builtin.len_,K,qcm y,z,goInt]
theorem qkI {x:Operand} {h:Array TypeId} {t e:TypeId} (J:o.op=.call {callee:=.builtin .len,args:=#[x],argTypes:=h}) (y:HR w0 ρ σ w) (E:TR ρ T a) (K:h[0]?=some t) (q:P.underlying t=some (.slice e)) (G:opc T x=some .nils) :
  Res P w0 ρ o a w (some (.one ⟨false,[.int .i64 0]⟩)) σ:=by
 have z:a.eval x=.slice none 0 0:=qaG E G;refine qbF (v:=.int .i64 0) y ?_ ⟨_,rfl,rfl⟩;simp [execOp,J,resolve,invoke,builtin,Builtin.len_,K,qcm q,z,goInt]
def qh1 (y:Hp) (b h n:Nat):Option (List AC):=match look y b with
 | some q=>match Nat.beq ((q.c.drop h).take n).length n with
  | true=>some ((q.c.drop h).take n)
  | false=>none
 | none=>none
theorem qgf {b v n k ab:Nat} {l:List AC} (Z:HR w0 ρ σ w) (i:qh1 σ b v n=some l) (ad:ρ b=some (k,ab)):∃ G,G.length=n/\R2 ρ l G/\∀ j q,G[j]?=some q->w.cell? ((⟨k,v,none⟩:Addr).add j)=some q:=by
 unfold qh1 at i;split at i
 ·rename_i J aa
  obtain ⟨ai,aj,T,-,af,W,O,ah⟩:=Z.obj b J aa;rw [ad] at T;cases T;split at i
  ·rename_i h
   have h:=Qz h;cases i;have z:R2 ρ ((J.c.drop v).take n) ((af.toList.drop v).take n):=by
    refine R2.qBA ?_ fun V ag K=>?_
    ·rw [h]
     rcases Nat.eq_zero_or_pos n with U | U
     ·subst U;rfl
     ·have ac:v+(n - 1)<J.c.length:=by simp at h;omega
      obtain ⟨q,E,-⟩:=O _ _ (Qg ac);have:=(Qb.1 E).1;simp;omega
    ·have y:V<n:=by
      have:=(QN.1 K).1;rw [h] at this;exact this
     rw [Zs,Qi y,Zc] at K;obtain ⟨q,E,ae⟩:=O _ _ K;exact ⟨q,by rw [Zs,Qi y,Zc,Q8];exact E,ae⟩
   refine ⟨_,by rw [z.length,h],z,fun j q M=>?_⟩;rw [qjq,qlm W,<- Q8];have y:j<n:=by
    have:=(QN.1 M).1;rw [z.length,h] at this;exact this
   rwa [Zs,Qi y,Zc] at M
  ·cases i
 ·cases i
def qtQ (P:Program) (t:TypeId):Option Nat:=match P.info? t with
 | some h=>some h.bytes
 | none=>none
def qir (P:Program) (q:Hp) (e:TypeId) (s:Option AC) (x:Option AC):Option (Nat×List AC):=match sizeT P e,qtQ P e,qfh P e,x with
 | some h,some n,some l,some (.sl J M (b+1) _)=>match qh1 q J M ((b+1)*h) with
  | some y=>match s with
   | some .nils=>match Nat.ble ((b+1)*n) 100000000&&Nat.ble b 1000000&&Nat.beq l.l.length h with
    | true=>some (b+1,y)
    | false=>none
   | some (.sl z G c (some E))=>match Nat.ble E c&&Nat.ble ((c+(b+1))*n) 100000000&&Nat.ble (c+b) 1000000&&Nat.beq l.l.length h,qh1 q z G (c*h) with
    | true,some K=>some (c+(b+1),K++y)
    | _,_=>none
   | _=>none
  | none=>none
 | _,_,_,_=>none
theorem qqC {t:TypeId} {q:A1} (h:qfh P t=some q):∃ i y,P.info? t=some i/\i.zero=some y:=by
 unfold qfh at h;split at h
 ·split at h
  ·exact ⟨_,_,by assumption,by assumption⟩
  ·cases h
 ·cases h
theorem qqK {l:List AC} {cs:Array Value} {v:Array Value} (y:R2 ρ l cs.toList) (i:Nat) (x:AC) (E:l[i]?=some x):∃ h,(cs++v)[i]?=some h/\x.rel ρ h:=by
 obtain ⟨h,q,z⟩:=y.get i x E;refine ⟨h,?_,z⟩;rw [Array.getElem?_append_left (Qb.1 q).1];exact q
theorem qg6 (w:World) (e:TypeId) (need old:Nat) (E:TypeInfo) (y:Value) {z:A1} {q:Nat} (h:qfh P e=some z) (J:P.info? e=some E) (G:E.zero=some y) (M:z.l.length=q) {xs:Array Value} (T:xs.size=need*q) (U:need<=100000000) :
  (xs++Builtin.zeroCells y.cells (grownCap w need old e - need)).size=grownCap w need old e*q/\grownCap w need old e<=maxLen:=by
 have O:y.cells.size=q:=by
  unfold qfh at h;rw [J] at h;simp only [G] at h;rw [<- M,<- Zf];exact (qgC (fun _=>none) h).cells.length
 have K:need<=grownCap w need old e/\grownCap w need old e<=maxLen:=by
  unfold grownCap Question.cut maxLen;have V:=Nat.mod_lt (w.tape w.drawn (.appendCap need old e)) (show 0<2 ^ 63 - need by omega);simp only;omega
 refine ⟨?_,K.2⟩;rw [Array.size_append,T,Builtin.zeroCells,Array.size_map,Array.size_range,O,<- Nat.add_mul]
 congr 1
 omega
theorem qkU {e t ty:TypeId} {s x:Option AC} {m:Nat} {l:List AC} (aa:HR w0 ρ σ w) (b:qir P σ e s x=some (m,l)) (af:P.underlying t=some (.slice e)) {u v:Value} (ah:∀ n,s=some n->n.rel ρ u) (aj:∀ n,x=some n->n.rel ρ v) :
  ∃ cap cs,(∀ (i:Nat) (x:AC),l[i]?=some x->∃ v,cs[i]?=some v/\x.rel ρ v)/\(∃ J,sizeT P e=some J/\cs.size=cap*J/\cap<=maxLen)/\(Builtin.append_ #[t,t] ty #[u,v]).run P w=.ok (.slice (some ⟨w.heap.size,0,none⟩) m cap) (w.drew.alloc (.cells cs e)):=by
 unfold qir at b;split at b
 ·rename_i J ao aD ag ae q aH y V T
  obtain ⟨h,K,k,E⟩:=qqC T;have az:J=h.size:=by unfold sizeT at y;rw [k] at y;cases y;rfl
  have ar:ao=h.bytes:=by unfold qtQ at V;rw [k] at V;cases V;rfl
  subst az;subst ar;obtain ⟨ai,aB,au,rfl⟩:=aj _ rfl;split at b
  ·rename_i aC ap
   obtain ⟨z,G,ab,Z⟩:=qgf aa ap au;split at b
   ·split at b
    ·rename_i c
     cases b;simp only [Qd] at c;have av:=QS c.1.1;have ag:=QS c.1.2;have U:=Qz c.2;have ak:u=.slice none 0 0:=ah _ rfl;subst ak;refine ⟨_,_,fun i x W=>qqK (cs:=z.toArray) ab i x W,⟨_,y,?_⟩,run_append_nil w t ty e h K af k E ⟨ai,ae,none⟩ (q+1) _ z G Z (by omega) (by omega) (by omega)⟩;exact qg6 w e (q+1) 0 h K T k E U (by simpa using G) (by omega)
    ·cases b
   ·rename_i aA aq O M
    split at b
    ·rename_i aF c am
     cases b;simp only [Qd] at c;have av:=QS c.1.1.1;have ag:=QS c.1.1.2;have aE:=QS c.1.2;have U:=Qz c.2;obtain ⟨aw,aG,ax,rfl⟩:=ah _ rfl;obtain ⟨ac,ad,ay,an⟩:=qgf aa am ax;refine ⟨_,_,fun i x W=>qqK (cs:=ac.toArray++z.toArray) (by simpa using ay.append ab) i x W,⟨_,y,?_⟩,run_append_grow w t ty e h K af k E ⟨aw,aq,none⟩ O M ac ad an ⟨ai,ae,none⟩ (q+1) _ z G Z (by omega) (by omega) ?_⟩
     ·exact qg6 w e (O+(q+1)) M h K T k E U (by simp [ad,G,Nat.add_mul]) (by omega)
     have:=growslice_fits (need:=O+(q+1)) (old:=M) (bytes:=h.bytes) (by omega) (by omega);exact this
    ·cases b
   ·cases b
  ·cases b
 ·cases b
theorem qn1 {s x:Operand} {t e:TypeId} {m h:Nat} {l:List AC} (ad:o.op=.call {callee:=.builtin .append,args:=#[s,x],argTypes:=#[t,t]}) (z:HR w0 ρ σ w) (E:TR ρ T a) (aa:P.underlying t=some (.slice e)) (O:qir P σ e (opc T s) (opc T x)=some (m,l)) (ac:look σ h=none) :
  Res P w0 ρ o a w (some (.one ⟨false,[.sl h 0 m none]⟩)) ((h,⟨e,l,sizeT P e⟩) :: σ):=by
 obtain ⟨y,ag,K,⟨af,V,M,Z⟩,ab⟩:=qkU (ty:=o.type) z O aa (fun U q=>qaG E q) (fun U q=>qaG E q);obtain ⟨G,J,ae,W⟩:=qqH (ob:=⟨e,l,sizeT P e⟩) z.drew ac y K (by rw [V];exact ⟨M,Z⟩);refine ⟨_,_,G,?_,J,W,_,rfl,⟨_,rfl,_,y,ae,rfl⟩⟩;simp only [execOp,ad,resolve,invoke,builtin,List.map_toArray,List.map_cons,List.map_nil,Sem.run_bind,Sem.run_pure,Result.andThen_ok,ab];rfl
def nothing (x:Option AC):Bool:=match x with
 | some .nils=>true
 | some (.sl _ _ 0 _)=>true
 | _=>false
def qzr (s:Option AC):Option AC:=match s with
 | some .nils=>some .nils
 | some (.sl h l b (some c))=>match Nat.ble b c with
  | true=>some (.sl h l b (some c))
  | false=>none
 | _=>none
theorem qkH {s x:Operand} {t e:TypeId} {E:AC} (ad:o.op=.call {callee:=.builtin .append,args:=#[s,x],argTypes:=#[t,t]}) (M:HR w0 ρ σ w) (h:TR ρ T a) (Z:P.underlying t=some (.slice e)) {n:Nat} (O:sizeT P e=some n) (J:nothing (opc T x)=true) (b:qzr (opc T s)=some E) :
  Res P w0 ρ o a w (some (.one ⟨false,[E]⟩)) σ:=by
 have B:∃ z l,a.eval x=.slice z 0 l:=by
  unfold nothing at J;split at J
  ·rename_i e;exact ⟨_,_,qaG h e⟩
  ·rename_i e;obtain ⟨aa,k,-,c⟩:=qaG h e;exact ⟨_,_,c⟩
  ·cases J
 obtain ⟨z,l,B⟩:=B;have y:∃ G q k,a.eval s=.slice G q k/\q<=k/\E.rel ρ (a.eval s):=by
  unfold qzr at b;split at b
  ·rename_i e;cases b;have c:=qaG h e;exact ⟨none,0,0,c,Qa _,c⟩
  ·rename_i A o q l e
   split at b
   ·rename_i K
    cases b;have c:=qaG h e;obtain ⟨aa,k,-,V⟩:=qaG h e;exact ⟨_,_,_,V,QS K,c⟩
   ·cases b
  ·cases b
 obtain ⟨G,q,k,y,ac,ab⟩:=y;refine qbF M ?_ ⟨_,rfl,ab⟩;rw [y];have W:∀ w,(Builtin.firstCells n 0 (.slice z 0 l)).run P w=.ok #[] w:=fun w=>by cases z <;> simp [Builtin.firstCells,loadCells,loadCellsFrom]
 have U:∀ (A:Addr) w,(storeCells A ([]:List Value)).run P w=.ok () w:=fun A w=>rfl
 cases G <;> simp [execOp,ad,resolve,invoke,builtin,Builtin.append_,qcm Z,qa3 O,y,B,Builtin.lenOf,ac,W,U]
theorem qfN {t e:TypeId} {h:Nat} (J:o.op=.buildSlice t 0 #[]) (z:HR w0 ρ σ w) (y:P.underlying t=some (.slice e)) {n:Nat} (q:sizeT P e=some n) (G:look σ h=none):Res P w0 ρ o a w (some (.one ⟨false,[.sl h 0 0 (some 0)]⟩)) ((h,⟨e,[],none⟩) :: σ):=by
 refine qij (cs:=#[]) (v:=.slice (some ⟨w.heap.size,0,none⟩) 0 0) z G rfl ?_ fun K E=>⟨_,rfl,_,_,E,rfl⟩
 simp [execOp,J,Instr.buildSlice,qcm y,qa3 q,newRow,Instr.fill,Array.range_zero']
end
def qz4 (P:Program) (c:Tm) (s:Hp) (h:Nat) (o:Oper):Option (Option AV×Hp):=match o.op with
 | .move b=>match qkh c b with
  | some i=>some (some i,[])
  | none=>none
 | .assign b=>match qkh c b with
  | some i=>some (some i,[])
  | none=>none
 | .pick y b f=>match opc c y with
  | some (.bool true)=>match qkh c b with
   | some i=>some (some i,[])
   | none=>none
  | some (.bool false)=>match qkh c f with
   | some i=>some (some i,[])
   | none=>none
  | _=>none
 | .alloc e=>match qfh P e,look s h with
  | some z,none=>some (some (qo2 h 0),[(h,⟨e,z.l,none⟩)])
  | _,_=>none
 | .box e b=>match op1 c b,look s h with
  | some z,none=>some (some (qo2 h 0),[(h,⟨e,z.l,none⟩)])
  | _,_=>none
 | .build e K=>match qtY c K.toList with
  | some E=>match qi6 P e E with
   | some l=>some (some (.one ⟨true,l⟩),[])
   | none=>none
  | none=>none
 | .buildSlice e v K=>match P.underlying e,look s h with
  | some (.slice m),none=>match v,K.toList with
   | 0,[]=>match sizeT P m with
    | some _=>some (some (.one ⟨false,[.sl h 0 0 (some 0)]⟩),[(h,⟨m,[],none⟩)])
    | none=>none
   | v,l=>match qtY c l with
    | some E=>match qlq P m v E with
     | some y=>some (some (.one ⟨false,[.sl h 0 v (some v)]⟩),[(h,⟨m,y,none⟩)])
     | none=>none
    | none=>none
  | _,_=>none
 | .load e b=>match opc c b with
  | some (.ptr n q)=>match qpk P s e n q with
   | some f=>some (some (.one f),[])
   | none=>none
  | _=>none
 | .store e b V=>match opc c b,op1 c V,sizeT P e with
  | some (.ptr n q),some f,some T=>match look s n with
   | some x=>match Nat.beq T f.l.length&&Nat.ble (q+f.l.length) x.c.length with
    | true=>some (none,[(n,⟨x.t,over x.c q f.l,x.s⟩)])
    | false=>none
   | none=>none
  | _,_,_=>none
 | .indexAddr e b u=>match qdq P e (opc c b) (opc c u) with
  | some (n,q)=>some (some (qo2 n q),[])
  | none=>none
 | .fieldAddr e b J=>match qfG P e J,opc c b with
  | some t,some (.ptr n q)=>match sizeT P t.type with
   | some (_+1)=>some (some (qo2 n (q+t.offset)),[])
   | _=>none
  | _,_=>none
 | .field e b J=>match qfG P e J,op1 c b with
  | some t,some ⟨true,l⟩=>match qpG P t.type l t.offset with
   | some f=>some (some (.one f),[])
   | none=>none
  | _,_=>none
 | .index e b u=>match qos P e (op1 c b) (opc c u) with
  | some f=>some (some (.one f),[])
  | none=>match qe3 P c o with
   | some i=>some (some i,[])
   | none=>none
 | .extract b u=>match qkh c b with
  | some (.tup l)=>match l[u]? with
   | some f=>some (some (.one f),[])
   | none=>none
  | _=>none
 | .call ⟨.builtin .len,args,G⟩=>match args.toList,G.toList with
  | [b],e :: _=>match P.underlying e with
   | some (.slice _)=>match opc c b with
    | some (.sl _ _ l _)=>some (some (.one ⟨false,[.int .i64 l]⟩),[])
    | some .nils=>some (some (.one ⟨false,[.int .i64 0]⟩),[])
    | _=>none
   | _=>match qe3 P c o with
    | some i=>some (some i,[])
    | none=>none
  | _,_=>none
 | .call ⟨.builtin .append,args,G⟩=>match args.toList,G.toList with
  | [M,b],[e,U]=>match Nat.beq e U,P.underlying e,look s h with
   | true,some (.slice m),none=>match nothing (opc c b) with
    | true=>match qzr (opc c M),sizeT P m with
     | some f,some _=>some (some (.one ⟨false,[f]⟩),[])
     | _,_=>none
    | false=>match qir P s m (opc c M) (opc c b) with
     | some (O,l)=>some (some (.one ⟨false,[.sl h 0 O none]⟩),[(h,⟨m,l,sizeT P m⟩)])
     | none=>none
   | _,_,_=>none
  | _,_=>none
 | _=>match qe3 P c o with
  | some i=>some (some i,[])
  | none=>none
end Go.Ev
namespace Go.Ev
open Go Go.RowKit
section
variable {P:Program} {w0 w:World} {ρ:Ren} {σ:Hp} {T:Tm} {a:Act} {o:Oper}
theorem qrv {v:AV} (h:HR w0 ρ σ w) (q:TR ρ T a) (y:qe3 P T o=some v):Res P w0 ρ o a w (some v) σ:=qe1 h (qhu q y)
theorem qd8 {x:Operand} {v:AV} (h:o.op=.move x\/o.op=.assign x) (y:TR ρ T a) (w:qkh T x=some v):∃ u,v.rel ρ u/\∀ q,(execOp a.eval o).run P q=.ok (.value u) q:=
 ⟨_,qfz y w,fun q=>by rcases h with h | h <;> simp [execOp,h]⟩
theorem qet {c x q:Operand} {b:Bool} {v:AV} (G:o.op=.pick c x q) (w:TR ρ T a) (z:opc T c=some (.bool b)) (y:qkh T (if b then x else q)=some v):∃ u,v.rel ρ u/\∀ h,(execOp a.eval o).run P h=.ok (.value u) h:=by
 have E:a.eval c=.bool b:=qaG w z;refine ⟨_,qfz w y,fun h=>?_⟩;cases b <;> simp [execOp,G,E,asBool]
def evP (P:Program) (b:Tm) (o:Oper):Option AV:=match o.op with
 | .move c=>qkh b c
 | .assign c=>qkh b c
 | .pick x c y=>match opc b x with
  | some (.bool true)=>qkh b c
  | some (.bool false)=>qkh b y
  | _=>none
 | .build f G=>match qtY b G.toList with
  | some z=>match qi6 P f z with
   | some q=>some (.one ⟨true,q⟩)
   | none=>none
  | none=>none
 | .indexAddr f c t=>match qdq P f (opc b c) (opc b t) with
  | some (h,i)=>some (qo2 h i)
  | none=>none
 | .fieldAddr f c E=>match qfG P f E,opc b c with
  | some l,some (.ptr h i)=>match sizeT P l.type with
   | some (_+1)=>some (qo2 h (i+l.offset))
   | _=>none
  | _,_=>none
 | .alloc _=>none
 | .box _ _=>none
 | .load _ _=>none
 | .store _ _ _=>none
 | .buildSlice _ _ _=>none
 | .call _=>none
 | _=>qe3 P b o
theorem qvh {x:AV} (e:TR ρ T a) (b:evP P T o=some x):∃ v,x.rel ρ v/\∀ i,(execOp a.eval o).run P i=.ok (.value v) i:=by
 unfold evP at b;split at b
 ·rename_i f c;exact qd8 (.inl c) e b
 ·rename_i f c;exact qd8 (.inr c) e b
 ·rename_i M f O c
  split at b
  ·rename_i h;exact qet c e h b
  ·rename_i h;exact qet c e h b
  ·cases b
 ·rename_i l aa c
  split at b
  ·rename_i W t
   split at b
   ·rename_i V z;cases b;exact qhh c e t z
   ·cases b
  ·cases b
 ·rename_i l f K c
  split at b
  ·rename_i n y q;cases b;exact qdI c e q
  ·cases b
 ·rename_i l f Z c
  split at b
  ·rename_i J n y E G
   split at b
   ·rename_i U w;cases b;exact qdH c e E G w
   ·cases b
  ·cases b
 ·cases b
 ·cases b
 ·cases b
 ·cases b
 ·cases b
 ·cases b
 ·exact qhu e b
theorem qmV {af:Nat} {x:Option AV} {K:Hp} (e:HR w0 ρ σ w) (f:TR ρ T a) (b:qz4 P T σ af o=some (x,K)):Res P w0 ρ o a w x (K++σ):=by
 have V:(match qe3 P T o with | some z=>some (some z,[]) | none=>none)=some (x,K)->Res P w0 ρ o a w x (K++σ):=fun b=>by
  split at b
  ·rename_i z i;cases b;exact qrv e f i
  ·cases b
 unfold qz4 at b;split at b
 ·rename_i h c
  split at b
  ·rename_i z i;cases b;exact qe1 e (qd8 (.inl c) f i)
  ·cases b
 ·rename_i h c
  split at b
  ·rename_i z i;cases b;exact qe1 e (qd8 (.inr c) f i)
  ·cases b
 ·rename_i ad h v c
  split at b
  ·rename_i E
   split at b
   ·rename_i z i;cases b;exact qe1 e (qet c f E i)
   ·cases b
  ·rename_i E
   split at b
   ·rename_i z i;cases b;exact qe1 e (qet c f E i)
   ·cases b
  ·cases b
 ·rename_i m c
  split at b
  ·rename_i v l r;cases b;exact qpE c e l r
  ·cases b
 ·rename_i m h c
  split at b
  ·rename_i v l r;cases b;exact quo c e f l r
  ·cases b
 ·rename_i m ab c
  split at b
  ·rename_i aj Z
   split at b
   ·rename_i M r;cases b;exact qe1 e (qhh c f Z r)
   ·cases b
  ·cases b
 ·rename_i m aw ab c
  split at b
  ·rename_i i t r
   split at b
   ·rename_i O
    have O:ab=#[]:=by
     cases ab;simp only at O;subst O;rfl
    subst O;split at b
    ·rename_i W y;cases b;exact qfN c e t y r
    ·cases b
   ·split at b
    ·rename_i aj Z
     split at b
     ·rename_i ad E;cases b;exact qgH c e f t Z E r
     ·cases b
    ·cases b
  ·cases b
 ·rename_i m h c
  split at b
  ·rename_i J U n
   split at b
   ·rename_i v l;cases b;exact qsq c e f n l
   ·cases b
  ·cases b
 ·rename_i m h ax c
  split at b
  ·rename_i J U v W n l y
   split at b
   ·rename_i au ah
    split at b
    ·rename_i u
     simp only [Qd] at u;have aq:=Qz u.1;have ap:=QS u.2;cases b;exact qp2 c e f n l ah (by rw [y,aq]) ap
    ·cases b
   ·cases b
  ·cases b
 ·rename_i m h ac c
  split at b
  ·rename_i J U i;cases b;exact qe1 e (qdI c f i)
  ·cases b
 ·rename_i m h an c
  split at b
  ·rename_i ae J U aa n
   split at b
   ·rename_i W y;cases b;exact qe1 e (qdH c f aa n y)
   ·cases b
  ·cases b
 ·rename_i m h an c
  split at b
  ·rename_i ae M aa n
   split at b
   ·rename_i v l;cases b;exact qqp c e f aa n l
   ·cases b
  ·cases b
 ·rename_i m h ac c
  split at b
  ·rename_i v l;cases b;exact qpT c e f l
  ·exact V b
 ·rename_i h ac c
  split at b
  ·rename_i M n
   split at b
   ·rename_i v l;cases b;exact qlB c e f n l
   ·cases b
  ·cases b
 ·rename_i args G c
  split at b
  ·rename_i h m av s q
   have s:args=#[h]:=by
    cases args;simp only at s;subst s;rfl
   subst s;have q:G[0]?=some m:=by
    cases G;simp only at q;subst q;rfl
   split at b
   ·rename_i i t
    split at b
    ·rename_i J U M ad n;cases b;exact qwq c e f q t n
    ·rename_i n;cases b;exact qkI c e f q t n
    ·cases b
   ·exact V b
  ·cases b
 ·rename_i args G c
  split at b
  ·rename_i ag h m ak s q
   have s:args=#[ag,h]:=by
    cases args;simp only at s;subst s;rfl
   have q:G=#[m,ak]:=by
    cases G;simp only at q;subst q;rfl
   subst s;subst q;split at b
   ·rename_i i u t r
    have u:=Qz u;subst u;split at b
    ·rename_i ao
     split at b
     ·rename_i h W am y;cases b;exact qkH c e f t y ao am
     ·cases b
    ·split at b
     ·rename_i ar M ai;cases b;exact qn1 c e f t ai r
     ·cases b
   ·cases b
  ·cases b
 ·exact V b
end
end Go.Ev
namespace Go.Ev
open Go Go.RowKit
theorem qdL {h:Type}:∀ (d t:List (Nat×h)) (k:Nat),look (d++t) k=match look d k with | some x=>some x | none=>look t k
 | [],t,k=>rfl
 | (j,x) :: d,t,k=>by
  rw [Zn,qa7,qa7];split
  ·rfl
  ·exact qdL d t k
structure SR (nt:Nat) (ρ:Ren) (T:Tm) (a:Act):Prop where
 tr:TR ρ T a
 size:a.tmps.size=nt
 defers:a.defers=[]
theorem SR.ext {q:Nat} {E y:Ren} {z:Tm} {a:Act} (h:SR q E z a) (e:Ext E y):SR q y z a:=⟨h.tr.ext e,h.size,h.defers⟩
theorem SR.put {q:Nat} {t:Ren} {E:Tm} {a:Act} (h:SR q t E a) {d:Nat} (K:d<q) {x:AV} {v:Value} (M:x.rel t v):SR q t ((d,some x) :: E) (a.put (some d) v):=by
 refine ⟨fun z G e=>?_,by simp [Act.put,h.size],h.defers⟩;rw [qa7] at e;have J:=h.size;split at e
 ·rename_i y
  subst y;cases e;have:(a.put (some d) v).tmps.getD d undef=v:=by simp [Act.put,Array.getD_eq_getD_getElem?,J,K]
  rw [this];exact M
 ·rename_i y
  have:(a.put (some d) v).tmps.getD z undef=a.tmps.getD z undef:=by simp [Act.put,Array.getD_eq_getD_getElem?,Array.getElem?_setIfInBounds_ne y]
  rw [this];exact h.tr z G e
theorem SR.drop {t:Nat} {z:Ren} {y:Tm} {a:Act} (h:SR t z y a) (d:Nat) (v:Value):SR t z ((d,none) :: y) (a.put (some d) v):=by
 refine ⟨fun q E e=>?_,by simp [Act.put,h.size],h.defers⟩;rw [qa7] at e;split at e
 ·cases e
 ·rename_i G
  have:(a.put (some d) v).tmps.getD q undef=a.tmps.getD q undef:=by simp [Act.put,Array.getD_eq_getD_getElem?,Array.getElem?_setIfInBounds_ne G]
  rw [this];exact h.tr q E e
def qsU (ops:Array Oper) (d:Tm) (o:Oper):Option Bool:=match o.guard with
 | none=>some true
 | some (j,h)=>match ops[j]? with
  | some y=>match y.dst with
   | some q=>match opc d (.tmp q) with
    | some (.bool b)=>some (b == h)
    | _=>none
   | none=>none
  | none=>none
theorem qfl {E:Ren} {u:Tm} {a:Act} (G:TR E u a) {ops:Array Oper} {o:Oper} {b:Bool} (c:qsU ops u o=some b):Region.wanted o (yielded ops a.tmps)=b:=by
 unfold qsU at c;unfold Region.wanted;split at c
 ·rename_i j;rw [j];cases c;rfl
 ·rename_i M U j
  rw [j];split at c
  ·rename_i T y
   split at c
   ·rename_i h O
    split at c
    ·rename_i e z
     cases c;have d:a.tmps.getD h undef=.bool e:=qaG G z;have J:a.tmps[h]?=some (.bool e):=by
      rw [Array.getD_eq_getD_getElem?] at d;cases q:a.tmps[h]? with
      | none=>rw [q] at d;cases d
      | some V=>rw [q] at d;exact congrArg some d
     have K:yielded ops a.tmps M=some e:=(by simp [yielded,y,O,J]);simp only [K];rfl
    ·cases c
   ·cases c
  ·cases c
def qtS (o:Oper):Option (FuncId×List Operand):=match o.op with
 | .call ⟨.value (.func f),args,_⟩=>some (f,args.toList)
 | _=>none
def qrD (h:Tm):List Operand->Option (List A1)
 | []=>some []
 | x :: q=>match op1 h x,qrD h q with
  | some v,some l=>some (v :: l)
  | _,_=>none
theorem qjn {v:Ren} {q:Tm} {a:Act} (t:TR v q a):∀ {l:List Operand} {h:List A1},qrD q l=some h->R1 v h (l.map a.eval)
 | [],h,e=>by cases e;rfl
 | x :: J,h,e=>by
  simp only [qrD] at e;split at e
  ·rename_i E G y z
   cases e;exact ⟨_,_,rfl,qcB t y,qjn t z⟩
  ·cases e
def putA (h:Nat) (q:Option Tmp) (v:AV):Option Tm:=match q with
 | none=>some []
 | some d=>match Nat.blt d h with
  | true=>some [(d,some v)]
  | false=>none
theorem SR.putA {h:Nat} {q:Ren} {y e:Tm} {a:Act} (z:SR h q y a) {E:Option Tmp} {x:AV} {v:Value} (d:putA h E x=some e) (J:x.rel q v):SR h q (e++y) (a.put E v):=by
 unfold Ev.putA at d;split at d
 ·cases d;exact z
 ·split at d
  ·rename_i K G;cases d;exact z.put (QS G) J
  ·cases d
abbrev qc4:=FuncId->List A1->Hp->Nat->Option (AV×Hp)
def qg7 (G:qc4) (P:Program) (v:Nat) (ops:Array Oper) (h:Tm) (y:Hp) (i q:Nat):Option (Tm×Hp):=match ops[i]? with
 | none=>none
 | some d=>match qsU ops h d with
  | none=>none
  | some false=>match d.dst with
   | some z=>some ([(z,none)],[])
   | none=>some ([],[])
  | some true=>match qtS d with
   | some (J,args)=>match qrD h args with
    | some E=>match G J E y q with
     | some (o,e)=>match putA v d.dst o with
      | some f=>some (f,e)
      | none=>none
     | none=>none
    | none=>none
   | none=>match qz4 P h y q d with
    | some (some o,e)=>match putA v d.dst o with
     | some f=>some (f,e)
     | none=>none
    | some (none,e)=>match d.dst with
     | none=>some ([],e)
     | some _=>none
    | none=>none
def qjX (P:Program) (w0:World) (M:qc4):Prop:=∀ f z u J v w,M f z u J=some (v,w)->(∀ args e,(callFunc f args).run P e=.ok (.enter f args) e)/\∀ q e y,HR w0 q u e->R1 q z y->
 Calls P f y.toArray e fun K G=>∃ E h,K=.returned E/\Ext q h/\v.rel h E/\HR w0 h (w++u) G
section
variable {P:Program} {w0:World} {call:qc4} {nt:Nat} {ops:Array Oper}
theorem qi1 (ar:qjX P w0 call) {O e:Tm} {J K:Hp} {i W:Nat} (d:qg7 call P nt ops O J i W=some (e,K)) {q:Ren} {a:Act} {w:World} (f:SR nt q O a) (v:HR w0 q J w) {Q:Exit->Act->World->Prop} {U:Act->World->Prop}
  (u:∀ h ac w',Ext q h->SR nt h (e++O) ac->HR w0 h (K++J) w'->U ac w'):wpOp P ops Q i U a w:=by
 unfold qg7 at d;split at d
 ·cases d
 ·rename_i Z am
  unfold wpOp;rw [am];simp only;split at d
  ·cases d
  ·rename_i M
   rw [qfl f.tr M];simp only [Bool.false_eq_true,if_false];split at d
   ·rename_i ah y
    cases d;rw [y];exact u q _ _ (Ext.refl _) (f.drop ah undef) v
   ·rename_i y
    cases d;rw [y];exact u q _ _ (Ext.refl _) f v
  ·rename_i M
   rw [qfl f.tr M];simp only [if_true];refine .inl ?_;unfold Oper.wp;split at d
   ·rename_i ae args G
    split at d
    ·rename_i aj ao
     split at d
     ·rename_i ab ad an
      split at d
      ·rename_i ak T
       cases d;obtain ⟨af,ai⟩:=ar ae aj J W ab K an;unfold qtS at G;split at G
       ·rename_i av ag aw aq
        cases G;have ap:(execOp a.eval Z).run P w=.ok (.enter ae (ag.toList.map a.eval).toArray) w:=by
         simp only [execOp,aq,resolve,Deferred.ofValue,Act.eval,invoke,Sem.run_bind,Sem.run_pure,Result.andThen_ok,af];simp;exact Array.ext' (by simp)
        rw [ap];refine (ai q w _ v (qjn f.tr ao)).mono ?_;rintro ax w' ⟨au,h,rfl,o,n,E⟩;exact u h _ _ o ((f.ext o).putA T n) E
       ·cases G
      ·cases d
     ·cases d
    ·cases d
   ·split at d
    ·rename_i ab ad V
     split at d
     ·rename_i ak T
      cases d;obtain ⟨aa,w',h,o,n,E,au,rfl,z⟩:=qmV v f.tr V;rw [o];exact u h _ _ n ((f.ext n).putA T z) E
     ·cases d
    ·rename_i ad V
     split at d
     ·rename_i y
      cases d;obtain ⟨aa,w',h,o,n,E,z⟩:=qmV v f.tr V;have z:aa=.skip:=z;subst z;rw [o];show U (a.put Z.dst undef) w';rw [y];exact u h _ _ n (f.ext n) E
     ·cases d
    ·cases d
def qtk (G:qc4) (P:Program) (q:Nat) (ops:Array Oper) (y:Tm) (z:Hp) (E:Nat):List Nat->Tm->Hp->Option (Tm×Hp)
 | [],e,h=>some (e,h)
 | i :: rest,e,h=>match qg7 G P q ops (e++y) (h++z) i (E+i) with
  | some (K,J)=>qtk G P q ops y z E rest (K++e) (J++h)
  | none=>none
theorem qmt (Z:qjX P w0 call) {J:Tm} {O:Hp} {ab:Nat} {T:Ren} {Q:Exit->Act->World->Prop} {V:Tm} {W:Hp} (U:∀ y E w',Ext T y->SR nt y (V++J) E->HR w0 y (W++O) w'->Q .normal E w') :
  ∀ (l:List Nat) (e:Tm) (z:Hp),qtk call P nt ops J O ab l e z=some (V,W)->∀ (q:Ren) (a:Act) (w:World),Ext T q->SR nt q (e++J) a->HR w0 q (z++O) w->wpOps P ops Q l a w
 | [],e,z,h,q,a,w,M,G,K=>by
  cases h;exact U q a w M G K
 | i :: rest,e,z,h,q,a,w,M,G,K=>by
  simp only [qtk] at h;split at h
  ·rename_i ag af ac
   rw [wpOps_cons];refine qi1 Z ac G K fun y E w' aa ae ad=>?_
   exact qmt Z U rest _ _ h y E w' (M.trans aa) (by rw [Za];exact ae) (by rw [Za];exact ad)
  ·cases h
def maskArr (n m:Nat):Array Bool:=((List.range n).map fun h=>Nat.testBit m h).toArray
theorem qje (n:Nat):maskArr n 0=Array.replicate n false:=by
 unfold maskArr;apply Array.ext';simp only [Nat.zero_testBit,Array.toList_replicate];rw [List.map_const',List.length_range]
theorem qfP (n m i:Nat):maskArr n (m ||| 2 ^ i)=(maskArr n m).setIfInBounds i true:=by
 unfold maskArr;apply Array.ext
 ·simp
 ·intro e j q
  have y:e<n:=by simpa using j
  simp only [List.getElem_toArray,Zo,List.getElem_range,Nat.testBit_or,Nat.testBit_two_pow,Array.getElem_setIfInBounds];by_cases h:i=e
  ·simp [h]
  ·simp [h]
def qzz:Option AV->Option AV->Bool
 | some q,some h=>q.eqb h
 | none,none=>true
 | _,_=>false
theorem quX {x q:Option AV} (h:qzz x q=true):x=q:=by
 cases x <;> cases q <;> simp only [qzz] at h
 ·rfl
 ·cases h
 ·cases h
 ·rw [AV.qBt h]
def qAv:Option Nat->Option Nat->Bool
 | some q,some h=>Nat.beq q h
 | none,none=>true
 | _,_=>false
def aoB (x h:AO):Bool:=Nat.beq x.t h.t&&(cellsB x.c h.c&&qAv x.s h.s)
theorem qxv {x q:AO} (c:aoB x q=true):x=q:=by
 obtain ⟨G,J,s⟩:=x;obtain ⟨E,K,t⟩:=q;simp only [aoB,Qd] at c;have y:G=E:=Qz c.1;have z:s=t:=by
  have h:=c.2.2;cases s <;> cases t <;> simp only [qAv] at h
  ·rfl
  ·cases h
  ·cases h
  ·rw [Qz h]
 rw [y,qBj c.2.1,z]
def sameAt {h:Type} (q:h->h->Bool) (t y:List (Nat×h)):List (Nat×h)->Bool
 | []=>true
 | (k,_) :: E=>(match look t k,look y k with
  | some x,some z=>q x z
  | none,none=>true
  | _,_=>false)&&sameAt q t y E
theorem qdO {h:Type} {y:h->h->Bool} (J:∀ x E,y x E=true->x=E) {z G:List (Nat×h)}:∀ {l:List (Nat×h)},sameAt y z G l=true->∀ k,(look l k).isSome=true->look z k=look G k
 | [],_,k,e=>by cases e
 | (j,x) :: T,e,k,u=>by
  simp only [sameAt,Qd] at e;rw [qa7] at u;split at u
  ·rename_i K
   subst K;have q:=e.1;split at q
   ·rename_i O M v t;rw [v,t,J O M q]
   ·rename_i v t;rw [v,t]
   ·cases q
  ·exact qdO J e.2 k u
def qsC {h:Type} (z:h->h->Bool) (q y:List (Nat×h)):Bool:=sameAt z q y q&&sameAt z q y y
theorem qg5 {E:Type} {J:E->E->Bool} (M:∀ x z,J x z=true->x=z) {h q:List (Nat×E)} (y:qsC J h q=true) (k:Nat):look h k=look q k:=by
 simp only [qsC,Qd] at y;cases G:look h k with
 | some x=>rw [<- G];exact qdO M y.1 k (by rw [G];rfl)
 | none=>
  cases K:look q k with
  | some z=>rw [<- G,<- K];exact qdO M y.2 k (by rw [K];rfl)
  | none=>rfl
theorem SR.same {x:Ren} {q t:Tm} {a:Act} (h:SR nt x q a) (e:∀ k,look q k=look t k):SR nt x t a:=⟨fun y z E=>h.tr y z ((e y).trans E),h.size,h.defers⟩
theorem HR.same {o:Ren} {q y:Hp} {w:World} (h:HR w0 o q w) (e:∀ k,look q k=look y k):HR w0 o y w:=⟨h.below,fun b k E=>by rw [<- e b];exact h.dom b k E,fun b z G=>h.obj b z ((e b).trans G),h.inj⟩
theorem qep {q:Type} {d h t:List (Nat×q)} (e:∀ k,look d k=look h k) (k:Nat):look (d++t) k=look (h++t) k:=by rw [qdL,qdL,e k]
abbrev Sts:=List (Nat×Tm×Hp)
def qx3:Sts->Nat->Tm->Hp->Option Sts
 | [],m,e,h=>some [(m,e,h)]
 | (z,y,q) :: t,m,e,h=>match Nat.beq m z with
  | true=>match qsC qzz y e&&qsC aoB q h with
   | true=>some ((z,y,q) :: t)
   | false=>none
  | false=>match qx3 t m e h with
   | some E=>some ((z,y,q) :: E)
   | none=>none
def Cov (L:Sts) (m:Nat) (e:Tm) (y:Hp):Prop:=∃ q k,(m,q,k)∈L/\(∀ h,look e h=look q h)/\∀ h,look y h=look k h
theorem Cov.sub {L L':Sts} (y:∀ x∈L,x∈L') {m:Nat} {e:Tm} {h:Hp} (k:Cov L m e h):Cov L' m e h:=by
 obtain ⟨z,q,E,G⟩:=k;exact ⟨z,q,y _ E,G⟩
theorem qlc:∀ {L L':Sts} {m:Nat} {e:Tm} {t:Hp},qx3 L m e t=some L'->Cov L' m e t/\∀ q∈L,q∈L'
 | [],L',m,e,t,h=>by
  cases h;exact ⟨⟨e,t,QI.2 rfl,fun _=>rfl,fun _=>rfl⟩,fun q k=>by cases k⟩
 | (T,J,M) :: V,L',m,e,t,h=>by
  simp only [qx3] at h;split at h
  ·rename_i x
   have x:=Qz x;subst x;split at h
   ·rename_i y
    simp only [Qd] at y;cases h;exact ⟨⟨J,M,QD,fun z=>(qg5 (fun q G=>quX) y.1 z).symm,fun z=>(qg5 (fun q G=>qxv) y.2 z).symm⟩,fun q k=>k⟩
   ·cases h
  ·split at h
   ·rename_i U K
    cases h;obtain ⟨E,O⟩:=qlc K;refine ⟨E.sub fun q k=>QG _ k,fun q k=>?_⟩;rcases QM.1 k with rfl | k
    ·exact QD
    ·exact QG _ (O q k)
   ·cases h
def qmC (J:qc4) (P:Program) (y:Nat) (ops:Array Oper) (z:Tm) (E:Hp) (G:Nat) (m:Nat) (e:Tm) (h:Hp):List Nat->Sts->Option Sts
 | [],q=>some q
 | i :: rest,q=>match qg7 J P y ops (e++z) (h++E) i (G+i) with
  | some (M,K)=>match qx3 q (m ||| 2 ^ i) (M++e) (K++h) with
   | some L=>qmC J P y ops z E G m e h rest L
   | none=>none
  | none=>none
theorem qj8 {J:Tm} {M:Hp} {G m:Nat} {e:Tm} {z:Hp}:∀ {l:List Nat} {L L':Sts},qmC call P nt ops J M G m e z l L=some L'->(∀ i∈l,∃ x q,qg7 call P nt ops (e++J) (z++M) i (G+i)=some (x,q)/\Cov L' (m ||| 2 ^ i) (x++e) (q++z))/\∀ j∈L,j∈L'
 | [],L,L',h=>by
  cases h;exact ⟨fun i V=>by (cases V),fun j E=>E⟩
 | i :: rest,L,L',h=>by
  simp only [qmC] at h;split at h
  ·rename_i x q T
   split at h
   ·rename_i ab W
    obtain ⟨O,aa⟩:=qlc W;obtain ⟨U,K⟩:=qj8 h;refine ⟨fun Z y=>?_,fun j E=>K j (aa j E)⟩;rcases QM.1 y with rfl | y
    ·exact ⟨x,q,T,O.sub K⟩
    ·exact U Z y
   ·cases h
  ·cases h
def qrG (ops:Array Oper) (i:Nat):Bool:=Region.noSelect ops&&Region.free .any ops (Array.replicate ops.size false) i
theorem qnL {i:Nat} (j:qrG ops i=true) (z:Array Bool):Region.noSelect ops=true/\Region.free .any ops z i=true:=by
 unfold qrG at j;rw [Qd] at j;refine ⟨j.1,?_⟩;have h:=j.2;unfold Region.free at h |-;split at h
 ·cases h
 ·rename_i J K
  rw [QA] at h |-;intro q y;have e:=h q y;have E:q<ops.size:=QZ.1 y;have G:(Array.replicate ops.size false).getD q true=false:=by simp [Array.getD_eq_getD_getElem?,E]
  rw [G] at e;simp only [Bool.or_false,Zv] at e |-;rcases e with e | e
  ·exact .inl (.inl e)
  ·exact .inr e
def qel (P:Program) (o:Nat) (ops:Array Oper) (h:Tm) (i:Nat):Option Tm:=match ops[i]? with
 | none=>none
 | some d=>match qrG ops i with
  | false=>none
  | true=>match qsU ops h d with
   | none=>none
   | some false=>match d.dst with
    | some v=>some [(v,none)]
    | none=>some []
   | some true=>match evP P h d with
    | some q=>putA o d.dst q
    | none=>none
theorem qk0 {y e:Tm} {i:Nat} (d:qel P nt ops y i=some e) {G:Ren} {a:Act} (q:SR nt G y a):∃ o v,ops[i]?=some o/\qrG ops i=true/\Yields P ops o v a/\SR nt G (e++y) (a.put o.dst v):=by
 unfold qel at d;split at d
 ·cases d
 ·rename_i o E
  split at d
  ·cases d
  ·rename_i u
   split at d
   ·cases d
   ·rename_i h
    have h:=qfl q.tr h;split at d
    ·rename_i K z
     cases d;exact ⟨o,undef,E,u,.inr ⟨h,rfl⟩,by rw [z];exact q.drop K undef⟩
    ·rename_i z
     cases d;exact ⟨o,undef,E,u,.inr ⟨h,rfl⟩,by rw [z];exact q⟩
   ·rename_i h
    have h:=qfl q.tr h;split at d
    ·rename_i v J
     obtain ⟨T,M,O⟩:=qvh q.tr J;exact ⟨o,T,E,u,.inl ⟨h,O⟩,q.putA d M⟩
    ·cases d
def qd4 (P:Program) (h:Nat) (ops:Array Oper) (q:Tm):List Nat->Option (Nat×Tm)
 | []=>none
 | i :: r=>match qel P h ops q i with
  | some e=>some (i,e)
  | none=>qd4 P h ops q r
theorem qfa {q:Tm}:∀ {l:List Nat} {i:Nat} {e:Tm},qd4 P nt ops q l=some (i,e)->i∈l/\qel P nt ops q i=some e
 | [],i,e,h=>by cases h
 | j :: G,i,e,h=>by
  simp only [qd4] at h;split at h
  ·rename_i E r
   cases h;exact ⟨QD,r⟩
  ·obtain ⟨y,z⟩:=qfa h
   exact ⟨QG _ y,z⟩
def qcM (ops:Array Oper) (m:Nat):Nat->List Oper->List Nat
 | _,[]=>[]
 | i,o :: h=>match Nat.testBit m i with
  | true=>qcM ops m (i+1) h
  | false=>match o.after.toList.all fun e=>!Region.binds .any e||(Nat.blt e.on ops.size&&Nat.testBit m e.on) with
   | true=>i :: qcM ops m (i+1) h
   | false=>qcM ops m (i+1) h
theorem qgF (n m i:Nat) (d:Bool):(maskArr n m).getD i d=if i<n then Nat.testBit m i else d:=by
 unfold maskArr;rw [Array.getD_eq_getD_getElem?,List.getElem?_toArray,Zi];split
 ·rename_i h;rw [List.getElem?_range h];rfl
 ·rename_i h;rw [List.getElem?_eq_none (by simpa using h)];rfl
theorem qgy {m:Nat}:∀ (l:List Oper) (i:Nat),(∀ j,l[j]?=ops[i+j]?)->∀ e,e∈qcM ops m i l↔i<=e/\e∈Region.ready .any ops (maskArr ops.size m)
 | [],i,E,e=>by
  constructor
  ·intro o;cases o
  ·rintro ⟨k,h⟩
   obtain ⟨-,z,G,-⟩:=mem_ready.1 h;have:=E (e - i);rw [show i+(e - i)=e by omega,G] at this;cases this
 | z :: T,i,E,e=>by
  have K:=qgy (m:=m) T (i+1) (fun j=>by
   have:=E (j+1);rw [List.getElem?_cons_succ] at this;rw [this]
   congr 1
   omega) e
  have G:ops[i]?=some z:=(E 0).symm;have U:i<ops.size:=(Qb.1 G).1;have J:i∈Region.ready .any ops (maskArr ops.size m)↔Nat.testBit m i=false/\(z.after.toList.all fun q=>!Region.binds .any q||(Nat.blt q.on ops.size&&Nat.testBit m q.on))=true:=by
   rw [mem_ready,qgF,Qi U];refine and_congr_right fun Z=>?_
   rw [G,QA];constructor
   ·rintro ⟨W,V,o⟩ q M
    cases V;cases t:Region.binds .any q
    ·rfl
    ·have k:=o q (Array.mem_toList_iff.1 M) t
     rw [qgF] at k;split at k
     ·rename_i h
      rw [k];have:Nat.blt q.on ops.size=true:=Nat.ble_eq_true_of_le h;rw [this];rfl
     ·cases k
   ·intro o
    refine ⟨z,rfl,fun q M t=>?_⟩;have k:=o q (Array.mem_toList_iff.2 M);rw [t] at k;simp only [Bool.not_true,Bool.false_or,Qd] at k;have O:q.on<ops.size:=QS k.1;rw [qgF,Qi O];exact k.2
  have aa:∀ e,i+1<=e->i≠e:=fun e o q=>by omega
  simp only [qcM];split
  ·rename_i t
   rw [K];constructor
   ·rintro ⟨k,h⟩;exact ⟨by omega,h⟩
   ·rintro ⟨k,h⟩
    refine ⟨?_,h⟩;rcases Nat.lt_or_ge i e with o | o
    ·exact o
    ·obtain rfl:e=i:=by omega
     rw [(J.1 h).1] at t;cases t
  ·rename_i t
   split
   ·rename_i y
    rw [QM,K];constructor
    ·rintro (rfl | ⟨k,h⟩)
     ·exact ⟨Qa _,J.2 ⟨t,y⟩⟩
     ·exact ⟨by omega,h⟩
    ·rintro ⟨k,h⟩
     rcases Nat.lt_or_ge i e with o | o
     ·exact .inr ⟨o,h⟩
     ·exact .inl (by omega)
   ·rename_i y
    rw [K];constructor
    ·rintro ⟨k,h⟩;exact ⟨by omega,h⟩
    ·rintro ⟨k,h⟩
     refine ⟨?_,h⟩;rcases Nat.lt_or_ge i e with o | o
     ·exact o
     ·obtain rfl:e=i:=by omega
      rw [(J.1 h).2] at y;cases y
theorem qjf {m:Nat} (k:Nat):k∈qcM ops m 0 ops.toList↔k∈Region.ready .any ops (maskArr ops.size m):=by
 rw [qgy ops.toList 0 (fun h=>by rw [QT,Q8])];simp
def qyo (G:qc4) (P:Program) (h:Nat) (ops:Array Oper) (q:Tm) (z:Hp) (E:Nat):Sts->Sts->Option Sts
 | [],t=>some t
 | (m,e,J) :: K,t=>match qcM ops m 0 ops.toList with
  | []=>none
  | i :: r=>match qd4 P h ops (e++q) (i :: r) with
   | some (j,L)=>match qx3 t (m ||| 2 ^ j) (L++e) J with
    | some y=>qyo G P h ops q z E K y
    | none=>none
   | none=>match qmC G P h ops q z E m e J (i :: r) t with
    | some y=>qyo G P h ops q z E K y
    | none=>none
def Up (K:qc4) (P:Program) (y:Nat) (ops:Array Oper) (z:Tm) (G:Hp) (J:Nat) (L':Sts) (m:Nat) (e:Tm) (q:Hp):Prop:=
 (∃ j h,j∈Region.ready .any ops (maskArr ops.size m)/\qel P y ops (e++z) j=some h/\Cov L' (m ||| 2 ^ j) (h++e) q)\/
 (Region.ready .any ops (maskArr ops.size m)≠[]/\∀ i∈Region.ready .any ops (maskArr ops.size m),∃ h E,qg7 K P y ops (e++z) (q++G) i (J+i)=some (h,E)/\Cov L' (m ||| 2 ^ i) (h++e) (E++q))
theorem Up.sub {z:Tm} {G:Hp} {y:Nat} {L L':Sts} (E:∀ x∈L,x∈L') {m:Nat} {e:Tm} {q:Hp} (k:Up call P nt ops z G y L m e q):Up call P nt ops z G y L' m e q:=by
 rcases k with ⟨V,j,h,i,O⟩ | ⟨h,i⟩
 ·exact .inl ⟨V,j,h,i,O.sub E⟩
 ·refine .inr ⟨h,fun K T=>?_⟩
  obtain ⟨j,M,J,U⟩:=i K T;exact ⟨j,M,J,U.sub E⟩
theorem qkK {W:Tm} {Z:Hp} {V:Nat}:∀ {S L L':Sts},qyo call P nt ops W Z V S L=some L'->(∀ m e t,(m,e,t)∈S->Up call P nt ops W Z V L' m e t)/\∀ j∈L,j∈L'
 | [],L,L',h=>by
  cases h;exact ⟨fun m e t ag=>by (cases ag),fun j r=>r⟩
 | (m,e,t) :: am,L,L',h=>by
  simp only [qyo] at h;split at h
  ·cases h
  ·rename_i U ah ak
   have J:∀ x,x∈U :: ah↔x∈Region.ready .any ops (maskArr ops.size m):=fun x=>by rw [<- ak];exact qjf x
   split at h
   ·rename_i q T af
    obtain ⟨ad,ai⟩:=qfa af;split at h
    ·rename_i ae E
     obtain ⟨y,O⟩:=qlc E;obtain ⟨K,k⟩:=qkK h;refine ⟨fun z G M i=>?_,fun j r=>k j (O j r)⟩;rcases QM.1 i with i | i
     ·cases i
      exact .inl ⟨q,T,(J q).1 ad,ai,y.sub k⟩
     ·exact K z G M i
    ·cases h
   ·split at h
    ·rename_i ae E
     obtain ⟨y,O⟩:=qj8 E;obtain ⟨K,k⟩:=qkK h;refine ⟨fun z G M i=>?_,fun j r=>k j (O j r)⟩;rcases QM.1 i with i | i
     ·cases i
      refine .inr ⟨fun e=>?_,fun q ab=>?_⟩
      ·have:=(J U).1 QD
       rw [e] at this;cases this
      ·obtain ⟨T,ac,aa,aj⟩:=y q ((J q).2 ab)
       exact ⟨T,ac,aa,aj.sub k⟩
     ·exact K z G M i
    ·cases h
def qjb (E:qc4) (P:Program) (h:Nat) (ops:Array Oper) (q:Tm) (y:Hp) (z:Nat):Nat->Sts->Option (Tm×Hp)
 | 0,[(m,e,J)]=>match qcM ops m 0 ops.toList with
  | []=>some (e,J)
  | _ :: _=>none
 | 0,_=>none
 | k+1,G=>match qyo E P h ops q y z G [] with
  | some K=>qjb E P h ops q y z k K
  | none=>none
theorem qf0 (ab:qjX P w0 call) {K:Tm} {aa:Hp} {an:Nat} {ae:Ren} {Q:Exit->Act->World->Prop} {af:Tm} {ag:Hp} (J:∀ c a w,¬Q (.panic c) a w) (M:∀ o z w',Ext ae o->SR nt o (af++K) z->HR w0 o (ag++aa) w'->Q .normal z w') :
  ∀ (k:Nat) (S:Sts),qjb call P nt ops K aa an k S=some (af,ag)->∀ (m:Nat) (e:Tm) (q:Hp),(m,e,q)∈S->∀ (j:Ren) (a:Act) (w:World),Ext ae j->SR nt j (e++K) a->HR w0 j (q++aa) w->wpAny P .any ops Q k (maskArr ops.size m) a w
 | 0,S,h,m,e,q,T,j,a,w,y,v,x=>by
  unfold qjb at h;split at h
  ·rename_i aE ah ak
   split at h
   ·rename_i ac
    cases h;cases QI.1 T;refine ⟨?_,M j a w y v x⟩;cases ax:Region.ready .any ops (maskArr ops.size m) with
    | nil=>rfl
    | cons i aG=>
     have:i∈qcM ops m 0 ops.toList:=(qjf i).2 (by rw [ax];exact QD);rw [ac] at this;cases this
   ·cases h
  ·cases h
  ·rename_i aB;cases aB
 | k+1,S,h,m,e,q,T,j,a,w,y,v,x=>by
  simp only [qjb] at h;split at h
  ·rename_i ad aq
   obtain ⟨am,-⟩:=qkK aq;rcases am m e q T with ⟨aI,ah,V,O,U,G,W,E,Z⟩ | ⟨aD,au⟩
   ·obtain ⟨aF,aH,av,aC,ap,az⟩:=qk0 O v
    obtain ⟨ao,aA⟩:=qnL aC (maskArr ops.size m);refine wpAny_take av ao aA (by simpa using V) (fun c a w ar=>absurd ar (J c _ _)) ap ?_;rw [<- qfP];refine qf0 ab J M k ad h _ U G W j _ w y (SR.same az fun i=>?_) (HR.same x fun i=>?_)
    ·rw [<- Za];exact qep E i
    ·exact qep Z i
   ·refine ⟨fun ac=>absurd ac aD,fun aj aw=>?_⟩
    obtain ⟨ah,ak,ai,U,G,W,E,Z⟩:=au aj aw;refine qi1 ab ai v x fun o z w' V O ay=>?_
    rw [<- qfP];refine qf0 ab J M k ad h _ U G W o z w' (y.trans V) (SR.same O fun i=>?_) (HR.same ay fun i=>?_)
    ·rw [<- Za];exact qep E i
    ·rw [<- Za];exact qep Z i
  ·cases h
end
end Go.Ev
namespace Go.Ev
open Go Go.RowKit
inductive Ex where
 | normal
 | exit (id:Nat)
 | ret
def Ex.to:Ex->Exit
 | .normal=>.normal
 | .exit h=>.exit h
 | .ret=>.ret
structure Fin where
 ex:Ex
 T:Tm
 d:Hp
 c:Nat
def qaL (x:qc4) (P:Program) (q:Nat) (y:Hp) (p:Nat):Nat->Code->Tm->Hp->Nat->Option Fin
 | 0,_,_,_,_=>none
 | k+1,.skip,h,d,c=>some ⟨.normal,h,d,c⟩
 | k+1,.label _,h,d,c=>some ⟨.normal,h,d,c⟩
 | k+1,.region _ ops false,h,d,c=>match qtk x P q ops h (d++y) ((p*4096+c)*64) (List.range ops.size) [] [] with
  | some (e,J)=>some ⟨.normal,e++h,J++d,c+1⟩
  | none=>none
 | k+1,.region _ ops true,h,d,c=>match P.follows .mixedOrders,qjb x P q ops h (d++y) ((p*4096+c)*64) ops.size [(0,[],[])] with
  | true,some (e,J)=>some ⟨.normal,e++h,J++d,c+1⟩
  | _,_=>none
 | k+1,.seq K M,h,d,c=>match qaL x P q y p k K h d c with
  | some ⟨.normal,z,E,G⟩=>qaL x P q y p k M z E G
  | r=>r
 | k+1,.cond b K M,h,d,c=>match opc h b with
  | some (.bool true)=>qaL x P q y p k K h d c
  | some (.bool false)=>qaL x P q y p k M h d c
  | _=>none
 | k+1,.block O b,h,d,c=>match qaL x P q y p k b h d c with
  | some ⟨.exit T,z,E,G⟩=>match Nat.beq T O with
   | true=>some ⟨.normal,z,E,G⟩
   | false=>some ⟨.exit T,z,E,G⟩
  | r=>r
 | k+1,.loop b,h,d,c=>match qaL x P q y p k b h d c with
  | some ⟨.normal,z,E,G⟩=>qaL x P q y p k (.loop b) z E G
  | r=>r
 | k+1,.exit O,h,d,c=>some ⟨.exit O,h,d,c⟩
 | k+1,.ret,h,d,c=>some ⟨.ret,h,d,c⟩
 | k+1,_,_,_,_=>none
section
variable {P:Program} {w0:World} {call:qc4} {nt:Nat} {σ:Hp} {p:Nat}
def qwy (P:Program) (w0:World) (z:Nat) (G:Hp) (r:Fin) (E:Ren) (Q:Exit->Act->World->Prop):Prop:=∀ h y q,Ext E h->SR z h r.T y->HR w0 h (r.d++G) q->Q r.ex.to y q
theorem qwy.ext {r:Fin} {h a:Ren} {Q:Exit->Act->World->Prop} (y:qwy P w0 nt σ r h Q) (e:Ext h a):qwy P w0 nt σ r a Q:=fun G J w q z E=>y G J w (e.trans q) z E
theorem qiW (aq:qjX P w0 call):∀ (k:Nat),(∀ (ad:Code) (h:Tm) (d:Hp) (c:Nat) (r:Fin),qaL call P nt σ p k ad h d c=some r->∀ (f:Ren) (a:Act) (w:World) (Q:Exit->Act->World->Prop),SR nt f h a->HR w0 f (d++σ) w->qwy P w0 nt σ r f Q->ad.wp P Q a w)/\
  (∀ (b:Code) (h:Tm) (d:Hp) (c:Nat) (r:Fin),qaL call P nt σ p k (.loop b) h d c=some r->∀ (f:Ren) (a:Act) (w:World) (Q:Exit->Act->World->Prop),SR nt f h a->HR w0 f (d++σ) w->qwy P w0 nt σ r f Q->Code.rounds P b Q k a w)
 | 0=>⟨fun ad h d c r e=>by (simp only [qaL] at e;cases e),fun b h d c r e=>by (simp only [qaL] at e;cases e)⟩
 | k+1=>by
  obtain ⟨U,aA⟩:=qiW aq k;have au:∀ (b:Code) (h:Tm) (d:Hp) (c:Nat) (r:Fin),qaL call P nt σ p (k+1) (.loop b) h d c=some r->∀ (f:Ren) (a:Act) (w:World) (Q:Exit->Act->World->Prop),SR nt f h a->HR w0 f (d++σ) w->qwy P w0 nt σ r f Q->Code.rounds P b Q (k+1) a w:=by
   intro b h d c r e f a w Q l y q;rw [rounds_succ];simp only [qaL] at e;split at e
   ·rename_i M O T Z
    refine U b h d c _ Z f a w _ l y fun z G E x K J=>?_
    exact aA b M O T r e z G E Q K J (q.ext x)
   ·rename_i ae
    refine U b h d c r e f a w _ l y fun z G E x K J=>?_
    have V:=q z G E x K J;obtain ⟨W,M,O,T⟩:=r;cases W
    ·exact absurd e (ae M O T)
    ·exact V
    ·exact V
  refine ⟨fun ad h d c r e f a w Q l y q=>?_,au⟩;cases ad with
  | skip=>
   simp only [qaL] at e;cases e;exact wp_skip (q f a w (Ext.refl _) l y)
  | label ax=>
   simp only [qaL] at e;cases e;exact wp_label (q f a w (Ext.refl _) l y)
  | exit aj=>
   simp only [qaL] at e;cases e;exact wp_exit (q f a w (Ext.refl _) l y)
  | ret=>
   simp only [qaL] at e;cases e;exact wp_ret (q f a w (Ext.refl _) l y)
  | region aj aC az=>
   cases az with
   | false=>
    simp only [qaL] at e;split at e
    ·rename_i am av x
     cases e;refine wp_region (qmt aq (fun ak ac ab an ar ap=>?_) _ _ _ x f a w (Ext.refl _) l y);exact q ak ac ab an ar (by rw [Za];exact ap)
    ·cases e
   | true=>
    simp only [qaL] at e;split at e
    ·rename_i am av ay x
     cases e;refine wp_mono (Q:=fun W ac ab=>W=.normal/\Q .normal ac ab) (wp_region_any ay ?_) fun W ac ab af=>by obtain ⟨rfl,af⟩:=af;exact af
     rw [<- qje];exact qf0 aq (fun c a w aw=>by cases aw.1) (fun ak ac ab an ar ap=>⟨rfl,q ak ac ab an ar (by rw [Za];exact ap)⟩) _ _ x 0 [] [] (QI.2 rfl) f a _ (Ext.refl _) l y.drew
    ·cases e
  | seq ag ah=>
   simp only [qaL] at e;refine wp_seq ?_;split at e
   ·rename_i M O T af
    refine U ag h d c _ af f a w _ l y fun z G E x K J=>?_
    exact U ah M O T r e z G E Q K J (q.ext x)
   ·rename_i ae
    refine U ag h d c r e f a w _ l y fun z G E x K J=>?_
    have V:=q z G E x K J;obtain ⟨W,M,O,T⟩:=r;cases W
    ·exact absurd e (ae M O T)
    ·exact V
    ·exact V
  | cond b ag ah=>
   simp only [qaL] at e;split at e
   ·rename_i Z
    have ao:a.eval b=.bool true:=qaG l.tr Z;exact wp_cond_true ao (U ag h d c r e f a w Q l y q)
   ·rename_i Z
    have ao:a.eval b=.bool false:=qaG l.tr Z;exact wp_cond_false ao (U ah h d c r e f a w Q l y q)
   ·cases e
  | block aj b=>
   simp only [qaL] at e;refine wp_block ?_;split at e
   ·rename_i ai M O T Z
    refine U b h d c _ Z f a w _ l y fun z G E x K J=>?_
    split at e
    ·rename_i aa
     have aa:=Qz aa;cases e;show (if ai=aj then _ else _);rw [Qi aa];exact q z G E x K J
    ·rename_i aa
     cases e;show (if ai=aj then _ else _);rw [Qe fun am=>by rw [am] at aa;exact absurd aa (by simp)];exact q z G E x K J
   ·rename_i ae
    refine U b h d c r e f a w _ l y fun z G E x K J=>?_
    have V:=q z G E x K J;obtain ⟨W,M,O,T⟩:=r;cases W with
    | normal=>exact V
    | exit ai=>exact absurd e (ae ai M O T)
    | ret=>exact V
  | loop b=>exact wp_loop_rounds (k+1) (au b h d c r e f a w Q l y q)
  | rangeFunc aD aE aB b=>simp only [qaL] at e;cases e
  | scope b=>simp only [qaL] at e;cases e
  | goto ax=>simp only [qaL] at e;cases e
  | refuse ah=>simp only [qaL] at e;cases e
end
def qyI:Nat->List A1->Tm
 | _,[]=>[]
 | i,v :: h=>(i,some (.one v)) :: qyI (i+1) h
def qws (P:Program) (h:Tm) (q:Hp):List ResultVar->Option (List A1)
 | []=>some []
 | .tmp t :: r=>match op1 h (.tmp t),qws P h q r with
  | some v,some l=>some (v :: l)
  | _,_=>none
 | .cell t z :: r=>match opc h (.tmp t) with
  | some (.ptr b y)=>match qpk P q z b y,qws P h q r with
   | some v,some l=>some (v :: l)
   | _,_=>none
  | _=>none
def qAo:List A1->AV
 | [x]=>.one x
 | l=>.tup l
def qgv (P:Program) (p:Nat):Nat->qc4
 | 0,_,_,_,_=>none
 | n+1,f,c,h,q=>match P.funcs[f]? with
  | some fn => match fn.name == "runtime.NumGoroutine", fn.body with
   | false,some z=>match qaL (qgv P p n) P (c.length+(fn.ntmps - c.length)) h q p z (qyI 0 c) [] 0 with
    | some ⟨.exit _,_,_,_⟩=>none
    | some ⟨_,y,d,_⟩=>match qws P y (d++h) fn.results.toList with
     | some l=>some (qAo l,d)
     | none=>none
    | none=>none
   | _,_=>none
  | none=>none
section
variable {P:Program} {w0:World}
theorem qi9:∀ (q:List A1) (i t:Nat) (x:AV),look (qyI i q) t=some (some x)->∃ h,i<=t/\q[t - i]?=some h/\x=.one h
 | [],i,t,x,e=>by cases e
 | h :: z,i,t,x,e=>by
  simp only [qyI] at e;rw [qa7] at e;split at e
  ·rename_i u
   subst u;cases e;exact ⟨h,Qa _,by simp,rfl⟩
  ·obtain ⟨y,E,v,r⟩:=qi9 z (i+1) t x e
   exact ⟨y,by omega,by rw [show t - i=(t - (i+1))+1 by omega];simpa using v,r⟩
theorem R1.length {v:Ren}:∀ {l:List A1} {h:List Value},R1 v l h->h.length=l.length
 | [],_,t=>by rw [show _=_ from t];rfl
 | x :: G,_,⟨z,E,q,y,u⟩=>by rw [q,Qt,R1.length u,Qt]
theorem qsb {h:Ren} {e:List A1} {us:List Value} (u:R1 h e us) (n:Nat):SR (e.length+(n - e.length)) h (qyI 0 e) {tmps:=us.toArray++Array.replicate (n - us.toArray.size) undef,defers:=[]}:=by
 have z:=u.length;refine ⟨fun q x K=>?_,by simp [z],rfl⟩;obtain ⟨y,-,v,rfl⟩:=qi9 e 0 q x K;rw [Nat.sub_zero] at v;obtain ⟨M,t,E⟩:=u.get v;have G:=(QN.1 t).1;have J:(us.toArray++Array.replicate (n - us.toArray.size) undef).getD q undef=M:=by
  rw [Array.getD_eq_getD_getElem?,Array.getElem?_append_left (by simpa using G),List.getElem?_toArray,t];rfl
 exact (by rw [J];exact E:A1.rel h y ((us.toArray++Array.replicate (n - us.toArray.size) undef).getD q undef))
def ql0 (tmps:Array Value) (x:ResultVar):Sem Value:=match x with
 | .tmp b=>pure (tmps.getD b undef)
 | .cell h b=>do loadVar b (<- asAddr (tmps.getD h undef))
theorem qiB {k:Ren} {J:Tm} {M:Hp} {a:Act} {w:World} (q:TR k J a) (u:HR w0 k M w):∀ {rs:List ResultVar} {l:List A1},qws P J M rs=some l->∃ h,R1 k l h/\(rs.mapM (ql0 a.tmps)).run P w=.ok h w
 | [],l,b=>by cases b;exact ⟨[],rfl,by simp⟩
 | .tmp z :: W,l,b=>by
  simp only [qws] at b;split at b
  ·rename_i K O t E
   cases b;obtain ⟨h,r,G⟩:=qiB q u E;have y:K.rel k (a.tmps.getD z undef):=qcB q t;exact ⟨_,⟨_,h,rfl,y,r⟩,by simp [List.mapM_cons,ql0,G]⟩
  ·cases b
 | .cell z ad :: W,l,b=>by
  simp only [qws] at b;split at b
  ·rename_i ab U T
   split at b
   ·rename_i K O t E
    cases b;obtain ⟨h,r,G⟩:=qiB q u E;obtain ⟨Z,ac,aa,v⟩:=qaG q T;have v:a.tmps.getD z undef=.pointer (some ⟨Z,U,none⟩):=v;obtain ⟨ae,y,V⟩:=qjE u t aa;exact ⟨_,⟨_,h,rfl,y,r⟩,by simp [List.mapM_cons,ql0,v,asAddr,V,G]⟩
   ·cases b
  ·cases b
theorem qlD {u:Ren} {y:Tm} {G:Hp} {a:Act} {w:World} (K:TR u y a) (J:HR w0 u G w) {fn:Func} {l:List A1} (t:qws P y G fn.results.toList=some l):∃ h,(qAo l).rel u h/\(results fn a.tmps).run P w=.ok h w:=by
 obtain ⟨e,q,T⟩:=qiB K J t;have v:=q.length;refine ⟨if t:e.toArray.size=1 then e.toArray[0] else .tuple e.toArray,?_,?_⟩
 ·cases l with
  | nil=>
   rw [show e=[] from q];exact ⟨_,rfl,rfl⟩
  | cons U M=>
   obtain ⟨h,x,rfl,E,z⟩:=q;cases M with
   | nil=>
    rw [show x=[] from z];exact E
   | cons V W=>
    have O:¬(h :: x).toArray.size=1:=(by simp at v |-;intro r;rw [r] at v;simp at v);rw [dif_neg O];exact ⟨_,rfl,h,x,rfl,E,z⟩
 ·have r:results fn a.tmps=(fn.results.mapM (ql0 a.tmps)) >>= fun e=>pure (if t:e.size=1 then e[0] else .tuple e):=by
   unfold results
   congr 2
  rw [r,Array.mapM_eq_mapM_toList];simp only [Sem.run_bind,Sem.run_map,T,Result.andThen_ok];rfl
theorem qjp (l:Nat):∀ n,qjX P w0 (qgv P l n)
 | 0=>fun q T ah U d O c=>by (simp only [qgv] at c;cases c)
 | n+1=>fun q T ah U d O c=>by
  have ai:=qjp l n;simp only [qgv] at c;split at c
  ·rename_i aj J
   split at c
   ·rename_i M ae G
    have K:∀ args f,(callFunc q args).run P f=.ok (.enter q args) f:=fun args f=>by
     have V : aj.name ≠ "runtime.NumGoroutine" :=(by simpa using ae);simp [callFunc,J,V,G]
    split at c
    ·cases c
    ·rename_i ab am ak ar af Z
     split at c
     ·rename_i ao ac
      cases c;refine ⟨K,fun aa f ap W ag=>calls_of_wp J G ?_⟩;refine (qiW ai l).1 M _ [] 0 _ Z aa _ f _ (qsb ag _) W fun w aq an y v h=>?_
      obtain ⟨d,E,z⟩:=qlD v.tr h ac;cases ab with
      | normal=>exact ⟨v.defers,d,z,d,w,rfl,y,E,h⟩
      | ret=>exact ⟨v.defers,d,z,d,w,rfl,y,E,h⟩
      | exit ad=>exact (af ad rfl).elim
     ·cases c
    ·cases c
   ·cases c
  ·cases c
theorem qmj {E n:Nat} {f:FuncId} {u:List A1} {v:AV} {q:Hp} (G:qgv P E n f u [] 1=some (v,q)) {us:List Value} (K:R1 (fun _=>none) u us) (w:World) :
  Calls P f us.toArray w fun z y=>∃ h e,z=.returned h/\v.rel e h/\HR w e q y:=by
 refine ((qjp E n f u [] 1 v q G).2 _ w us (HR.start w) K).mono ?_;rintro z y ⟨h,e,rfl,-,J,M⟩;exact ⟨h,e,rfl,J,by simpa using M⟩
end
end Go.Ev
namespace Go.Proofs.YtecpnfhpcamljaaGreatDoor
open Tryz
open Go.RowKit Go.Shelf
def argsU (p:Pat) (a:Nat):Str:=if (qbp [32] p.2).1=[97] then arB a++(qbp [32] p.2).2.1 else (qbp [32] p.2).2.1
theorem qr4 (p:Pat) (h:Int):(qaj p h).2.1++(qaj p h).2.2=argsU p (qbe p.1 h 97).toNat:=by
 unfold qaj argsU;split
 ·rfl
 ·split <;> rfl
theorem qhi:∀ h∈mainP++cbP++edP,h.1.length=8/\h.2.length<=100:=by decide +kernel
theorem qrB:∀ h∈mainP++cbP++edP,∀ n<256,numN h.1 n 97 8<=7/\numN h.1 n 111 8<=7:=by decide +kernel
theorem qom:∀ p∈mainP++cbP++edP,∀ a<8,(argsU p a).length<=100/\∀ h∈splitW (argsU p a),h∈qeg:=by decide +kernel
theorem qhf:∀ (n:Nat) (l:Str),(qdf n l).length<=l.length
 | 0,l=>Qu _
 | n+1,l=>by
  unfold qdf;split
  ·exact Qu _
  ·next h=>
   have q:0<l.length:=Zp.2 (by simpa using h);have y:=(qlh [44] l (by decide) q).1;have z:=qhf n (qbp [44] l).2.1;rw [Qt];omega
theorem qg0 (p:Pat) (h:Int):∀ (n:Nat) (l:Str),(qbj p h (qdf n l)).length<=l.length
 | 0,l=>Qu _
 | n+1,l=>by
  unfold qdf;split
  ·exact Qu _
  ·have q:=qlU [44] l
   have y:=qg0 p h n (qbp [44] l).2.1;have z:=qpq p h (qbp [44] l).1;show ((opT p h (qbp [44] l).1).2++qbj p h (qdf n (qbp [44] l).2.1)).length<=_;rw [Qk];omega
theorem qfn {p:Pat} (q:p∈mainP++cbP++edP) (n:Int) (J:0<=n) (E:n<=255):Good2 p n:=by
 obtain ⟨h,rfl⟩:∃ h:Nat,n=h:=⟨n.toNat,by omega⟩;have y:h<256:=by omega
 obtain ⟨V,T⟩:=qhi p q;obtain ⟨W,Z⟩:=qrB p q h y;have K:qbe p.1 (h:Int) 97<=7:=by rw [qcl _ _ y];omega
 have M:qbe p.1 (h:Int) 111<=7:=by rw [qcl _ _ y];omega
 have aa:=(qgz p.1 (h:Int) J E 97).1;obtain ⟨z,G⟩:=qom p q (qbe p.1 (h:Int) 97).toNat (by omega);rw [<- qr4] at z G;have O:=qhf ((qaj p (h:Int)).2.1++(qaj p (h:Int)).2.2).length ((qaj p (h:Int)).2.1++(qaj p (h:Int)).2.2);have U:=qg0 p (h:Int) ((qaj p (h:Int)).2.1++(qaj p (h:Int)).2.2).length ((qaj p (h:Int)).2.1++(qaj p (h:Int)).2.2);exact ⟨⟨V,T,J,E,K,M,z,G⟩,Qj O z,Qj U (by omega)⟩
theorem qls:∀ n:Fin 256,op6 (n.val:Int)=((n.val / 8*8+6:Nat):Int):=by decide +kernel
theorem qpP (h:Int) (z:0<=h) (y:h<=255):0<=op6 h/\op6 h<=255:=by
 obtain ⟨n,rfl⟩:∃ n:Nat,h=n:=⟨h.toNat,by omega⟩;have q:=qls ⟨n,by omega⟩;simp only at q;omega
theorem qmp {z q:Int} {p:Pat} (y:qcS (listS z) q=some p):p∈mainP++cbP++edP:=by
 have h:=List.mem_of_find?_eq_some y;rw [qbZ] at h;exact qfw h
end Go.Proofs.YtecpnfhpcamljaaGreatDoor
namespace Go.Proofs.YtecpnfhpcamljaaGreatDoor
open Tryz
open Go.RowKit Go.Shelf
def atT (p h:Int):Option En:=match qcS (listS p) h with
 | some q=>qb8 q p h
 | none=>none
def qAk (w:World) (v h:Int) (x:Option En) (e:Ending) (w':World):Prop:=
 (match x with
  | some x=>∃ q,e=.returned (.tuple #[enV v h x.1 q x.2.2.1 x.2.2.2,.int .i64 1])/\qaf w' w.heap.size q x.2.1
  | none=>e=.returned (.tuple #[enV 0 0 [] (.slice none 0 0) [] false,.int .i64 (qcJ v h)]))/\Below w.heap.size w w'
theorem qoa (w:World):∃ h,w.alloc (.cells #[.int .i64 0,.int .u8 0,.string ⟨#[]⟩,.slice none 0 0,.string ⟨#[]⟩,.bool false] 88)=h/\
  qbl h w.heap.size 0 0 [] (.slice none 0 0) [] false/\Below w.heap.size w h/\h.heap.size=w.heap.size+1:=
 ⟨_,rfl,World.alloc_heap_new w _,B0,by simp⟩
theorem qvy (f e:Int) (aX:0<=e) (aV:e<=255) (w:World) (au:qad w):Calls prog 146 #[.int .i64 f,.int .u8 e] w (qAk w f e (atT f e)):=by
 obtain ⟨aq,a9,ac,B0,aN⟩:=qoa w;obtain ⟨n,aC⟩:=N9 (w.heap.size);rw [aC] at ac B0 aN;have aB:0 < n:=by rw [<- aC];exact au.lt
 have av:qad aq:=au.qA6 (n:=n) B0 aB;have aF:=qg9 f aq;have ap:=qqF (listS f) (qiU f) (qzo f) e aq av;obtain ⟨h,aI⟩:=N9 (qcS (listS f) e);have aH:=J9 aI;obtain ⟨bo,ax⟩:=N9 (listS f);rw [aI,ax] at ap;rw [ax] at aF;have ao:=J9 aC;have ac:=J9 ac;have B0:=J9 B0;have p:=J9 (Zb aX aV);have bj:=J9 aB;have aW:=J9 av;clear au av aI ax aX aV aB
 go_enter func146,ntmps146
 go_wp2_with fail
 refine aF.mono ?_;rintro ak bk ⟨rfl,aJ⟩;rw [aJ];clear aF aJ
 go_wp2_with fail
 refine ap.mono ?_;rintro ak m ⟨rfl,ag⟩;have R1:=J9 (ac.o.all ag);have ai:=J9 (B0.o.trans (ag.mono (by omega)));have aO:Hid (qad m):=aW.o.below ag;have bi:n+1<=m.heap.size:=by have:=ag.size;omega
 clear ap ag ac B0 aW a9 aN;cases h with
 | none=>
  have T:Hid (atT f e=none):=by show atT f e=none;unfold atT;rw [aH.o]
  have A:=fun l=>qc3 f e p.o.1 p.o.2 l
  obtain ⟨ay,L⟩:=N9 (qcJ f e);have aA:=J9 L;rw [L] at A;clear L;have R2:=fun h=>J9 (R1.o.all ((Qc m.heap.size m).alloc (Qa _) h))
  have ab:=fun h=>J9 (ai.o.trans ((Qc n m).alloc (by omega) h))
  have an:=J9 A;clear A
  go_wp2_with fail
  refine (an.o _).mono ?_;rintro ak l ⟨rfl,o⟩;have M:=J9 ((R2 _).o.all o);have ad:Hid (Below n w l):=(ab _).o.trans (o.mono (by simp;omega));clear R2 ab o R1 ai;obtain ⟨aR,aQ,a3,aZ,aU,a0,aT⟩:=M.o.cells;go_wp2;obtain ⟨a1,K,U,W,aS,-,aE⟩:=M.o.put 0 0 [] (.slice none 0 0) [] false;rw [show sB []=(⟨#[]⟩:ByteArray) from rfl] at K;rw [K];obtain ⟨O,Z,V,aa,af,ae,-⟩:=U.cells;refine bodyPost_ret (v:=.tuple #[enV 0 0 [] (.slice none 0 0) [] false,.int .i64 ay]) ?_ rfl ?_
  ·simp [results,results146,go_sem,O,Z,V,aa,af,ae,enV]
  ·rw [T.o]
   exact ⟨by rw [aA.o],by rw [ao.o];exact ad.o.trans W⟩
 | some az=>
  have aw:=qmp aH.o;have aG:=qpP e p.o.1 p.o.2;have ar:=fun l a8=>qjo az f e (qfn aw e p.o.1 p.o.2) (qfn aw (op6 e) aG.1 aG.2) l a8
  have T:Hid (atT f e=qb8 az f e):=by show atT f e=_;unfold atT;rw [aH.o]
  obtain ⟨bd,aL⟩:=N9 (qb8 az f e);rw [aL] at ar T;have a4:=J9 ar;clear ar aL aG aw;have R2:=fun h=>J9 (R1.o.all ((Qc m.heap.size m).alloc (Qa _) h))
  have ab:=fun h=>J9 (ai.o.trans ((Qc n m).alloc (by omega) h))
  have aK:=fun h=>J9 (aO.o.below ((Qc m.heap.size m).alloc (Qa _) h))
  simp only [qag]
  go_wp2_with fail
  refine (a4.o _ (aK _).o).mono ?_;rintro ak l ⟨aM,o⟩;have M:=J9 ((R2 _).o.all o);have ad:Hid (Below n w l):=(ab _).o.trans (o.mono (by simp;omega));have bn:n+1<=l.heap.size:=by have:=o.size;simp at this;omega
  have aj:=fun h=>J9 (M.o.all ((Qc l.heap.size l).alloc (Qa _) h))
  have ah:=fun h=>J9 (ad.o.trans ((Qc n l).alloc (by omega) h))
  clear R2 ab o R1 ai aK aO a4;cases bd with
  | none=>
   subst aM;have be:=J9 trivial;have bb:Hid (atT f e=none):=T.o;have A:=(fun l=>qc3 f e p.o.1 p.o.2 l);obtain ⟨ay,L⟩:=N9 (qcJ f e);have aA:=J9 L;rw [L] at A;clear L;have an:=J9 A;clear A;simp only [enV]
   go_wp2_with fail
   refine (an.o _).mono ?_;rintro ak a7 ⟨rfl,aD⟩;have y:=J9 ((aj _).o.all aD);have al:Hid (Below n w a7):=(ah _).o.trans (aD.mono (by simp;omega));clear aj ah aD M ad be an;obtain ⟨aR,aQ,a3,aZ,aU,a0,aT⟩:=y.o.cells;go_wp2;obtain ⟨a1,K,U,W,aS,-,aE⟩:=y.o.put 0 0 [] (.slice none 0 0) [] false;rw [show sB []=(⟨#[]⟩:ByteArray) from rfl] at K;rw [K];obtain ⟨O,Z,V,aa,af,ae,-⟩:=U.cells;refine bodyPost_ret (v:=.tuple #[enV 0 0 [] (.slice none 0 0) [] false,.int .i64 ay]) ?_ rfl ?_
   ·simp [results,results146,go_sem,O,Z,V,aa,af,ae,enV]
   ·rw [bb.o]
    exact ⟨by rw [aA.o],by rw [ao.o];exact al.o.trans W⟩
  | some bc=>
   obtain ⟨z,q,G,E⟩:=bc;obtain ⟨v,rfl,am⟩:=aM;simp only at am |-;obtain ⟨J,x,rfl,-,-⟩:=am.ops;have aP:=(fun h=>J9 ((qaf.below am ((Qc _ l).alloc (Qa _) h)).lift (show n<=_ by simp;omega)));clear am M ad;obtain ⟨a6,aY⟩:=N9 (l.alloc (.cells #[.int .i64 f,.int .u8 e,.string (sB z),.slice J q.length x,.string (sB G),.bool E] 88));have y:=aj (.cells #[.int .i64 f,.int .u8 e,.string (sB z),.slice J q.length x,.string (sB G),.bool E] 88);have al:=ah (.cells #[.int .i64 f,.int .u8 e,.string (sB z),.slice J q.length x,.string (sB G),.bool E] 88);have a2:=aP (.cells #[.int .i64 f,.int .u8 e,.string (sB z),.slice J q.length x,.string (sB G),.bool E] 88);have a5:qbl a6 l.heap.size f e z (.slice J q.length x) G E:=(by rw [<- aY];exact World.alloc_heap_new l _);rw [aY] at y al a2;clear aj ah aP;obtain ⟨bl,bm,bg,bh,bp,bf,-⟩:=a5.cells;obtain ⟨aR,aQ,a3,aZ,aU,a0,aT⟩:=y.o.cells;simp only [enV];go_wp2;obtain ⟨a1,K,U,W,aS,-,aE⟩:=y.o.put f e z (.slice J q.length x) G E;rw [K];obtain ⟨O,Z,V,aa,af,ae,-⟩:=U.cells;refine bodyPost_ret (v:=.tuple #[enV f e z (.slice J q.length x) G E,.int .i64 1]) ?_ rfl ?_
   ·simp [results,results146,go_sem,O,Z,V,aa,af,ae,enV]
   ·rw [T.o]
    exact ⟨⟨_,rfl,by rw [ao.o];exact qbY y.o a2.o aE⟩,by rw [ao.o];exact al.o.trans W⟩
def qy9 (n:Nat):Nat->Str->Bool
 | _,[]=>true
 | w,c :: h=>(if c=48 then n / w % 2 == 0 else if c=49 then n / w % 2 == 1 else true)&&qy9 n (w / 2) h
theorem quB:∀ h∈mainP++cbP++edP,∀ n:Fin 256,qcD h.1 (n.val:Int)=qy9 n.val 128 h.1:=by decide +kernel
def qs5 (h n:Nat):Option Pat:=(qdu h).find? fun p=>qy9 n 128 p.1
theorem find_eq (q n:Nat) (z:n<256):qcS (listS q) (n:Int)=qs5 q n:=by
 unfold qcS qs5;rw [qbZ];have E:∀ p:List Pat,(∀ h∈p,h∈mainP++cbP++edP)->p.find? (fun h=>qcD h.1 (n:Int))=p.find? (fun h=>qy9 n 128 h.1):=by
  intro p
  induction p with
  | nil=>intro _;rfl
  | cons h L G=>
   intro t;rw [List.find?_cons,List.find?_cons,quB h (t h (by simp)) ⟨n,z⟩,G (fun J K=>t J (by simp [K]))]
 exact E _ fun h y=>qfw y
def nuN (p:Pat) (n:Nat) (c:UInt8):Int:=(numN p.1 n c 8:Nat)
def opN (p:Pat) (n:Nat) (w:Str):Tr×Str:=
 if w=[101] then ((10,0,0),w) else if w=[110]\/w=[119] then ((6,0,0),w) else if w=[40,110,41]\/w=[40,119,41] then ((7,0,0),(w.drop 1).take 1) else
 match quk (w.headD 0) (nuN p n (w.headD 0)) with
 | some h=>(h,[])
 | none=>(qeY w,[])
def qe6 (p:Pat) (n:Nat):Str×Str×Str:=
 if (qbp [32] p.2).1=[97] then (arN (numN p.1 n 97 8),arB (numN p.1 n 97 8),(qbp [32] p.2).2.1) else
 if (qbp [32] p.2).1=[111] then (roN (numN p.1 n 111 8),[],(qbp [32] p.2).2.1) else ((qbp [32] p.2).1,[],(qbp [32] p.2).2.1)
def qcc (p:Pat) (q n:Nat):En:=
 ((qe6 p n).1,(splitW ((qe6 p n).2.1++(qe6 p n).2.2)).map (fun h=>(opN p n h).1),((splitW ((qe6 p n).2.1++(qe6 p n).2.2)).map (fun h=>(opN p n h).2)).flatten,(q:Int) == 2&&qap (qe6 p n).1 n)
theorem qw3 (p:Pat) (n:Nat) (h:n<256) (w:Str):opT p (n:Int) w=opN p n w:=by
 unfold opT opN nuN;rw [qcl _ _ h];rfl
theorem qps (p:Pat) (n:Nat) (h:n<256):qaj p (n:Int)=qe6 p n:=by
 unfold qaj qe6;rw [qcl _ _ h,qcl _ _ h];simp only [Int.toNat_natCast]
theorem qj4 (p:Pat) (q n:Nat) (h:n<256):qae p q (n:Int)=qcc p q n:=by
 unfold qae qcc qbK qbj qbH;rw [qps p n h];simp only [qw3 p n h]
def qlZ (p:Pat) (z n:Nat) (y:Int):En:=
 let h:=qcc p z (n / 8*8+6);let x:=if qgX h.1 h.2.1 then qmf y h.2.1 else h.2.1
 let q:=if qgX h.1 h.2.1 then 100 :: h.2.2.1 else h.2.2.1
 if numN p.1 n 115 8=6 then (h.1,x,q,h.2.2.2) else if h.1=[66,73,84] then (h.1,x,q,true) else (h.1,x++[((1:Int),((numN p.1 n 115 8:Nat):Int),(0:Int))],q,h.2.2.2)
theorem qjN (p:Pat) (h n:Nat) (q:n<256) (z:Int):qbE p h (n:Int) z=qlZ p h n z:=by
 have y:=qls ⟨n,q⟩;simp only at y;unfold qbE qlZ;rw [y,qj4 p h _ (by omega),qcl _ _ q];simp only [show ∀ m:Nat,((m:Int)=6)=(m=6) from fun m=>by simp;omega]
def qqI (p:Pat) (h n:Nat):Option En:=
 if h=3 then (qbP (qcc p h n).1 5 (qcc p h n).2.1 (qcc p h n).2.2.1).map fun q=>((qcc p h n).1,q.1,q.2,(qcc p h n).2.2.2) else
 if h=4 then (qbP (qcc p h n).1 6 (qcc p h n).2.1 (qcc p h n).2.2.1).map fun q=>((qcc p h n).1,q.1,q.2,(qcc p h n).2.2.2) else
 if h=5 then some (qlZ p h n 5) else if h=6 then some (qlZ p h n 6) else some (qcc p h n)
theorem qqn (p:Pat) (h n:Nat) (q:n<256):qb8 p h (n:Int)=qqI p h n:=by
 unfold qb8 qqI;rw [qj4 p h n q,qjN p h n q,qjN p h n q];simp only [show ((h:Int)=3)=(h=3) by simp;omega,show ((h:Int)=4)=(h=4) by simp;omega,show ((h:Int)=5)=(h=5) by simp;omega,show ((h:Int)=6)=(h=6) by simp;omega]
def atN (h n:Nat):Option En:=match qs5 h n with
 | some p=>qqI p h n
 | none=>none
theorem qt7 (h n:Nat) (p:n<256):atT h (n:Int)=atN h n:=by
 unfold atT atN;rw [find_eq h n p];cases qs5 h n with
 | none=>rfl
 | some q=>exact qqn q h n p
end Go.Proofs.YtecpnfhpcamljaaGreatDoor
namespace Go.Proofs.YtecpnfhpcamljaaGreatDoor
open Tryz
open Go.RowKit Go.Shelf
attribute [local irreducible] Go.Mixed.qAU
theorem up {a b c:World} (h:Below a.heap.size a b) (k:Below b.heap.size b c):Below a.heap.size a c:=h.trans (k.mono h.size)
theorem qaE (w:World) (o:Obj):Below w.heap.size w (w.alloc o):=B0
def OpV (w:World) (b:Nat) (x:Tr):Prop:=w.heap[b]?=some (.cells #[.int .i64 x.1,.int .i64 x.2.1,.int .i64 x.2.2] 56 (0,0))
theorem OpV.all {w w':World} {b:Nat} {x:Tr} (h:OpV w b x) (q:Below w.heap.size w w'):OpV w' b x:=(q.block b (Qb.1 h).1).trans h
theorem OpV.cells {w:World} {b:Nat} {x:Tr} (h:OpV w b x):w.cell? ⟨b,0,none⟩=some (.int .i64 x.1)/\w.cell? ⟨b,1,none⟩=some (.int .i64 x.2.1)/\w.cell? ⟨b,2,none⟩=some (.int .i64 x.2.2)/\∀ j,w.frozen? ⟨b,j,none⟩=false:=
 ⟨C9 h 0,C9 h 1,C9 h 2,Qp h⟩
section
variable {P:Program} {ops:Array Oper}
theorem qgS {C:World->Prop} {h:Act->World->Prop} {k:Nat} {r:List (Nat×Bool)} {a:Act} {w:World} {o:Oper} (z:ops[k]?=some o) (y:Region.wanted o (yielded ops a.tmps)=false)
  (q:Mixed.qAU P ops C h r (a.put o.dst undef) w):Mixed.qAU P ops C h ((k,true) :: r) a w:=by
 unfold Mixed.qAU;simp only [z];exact ⟨undef,.inr ⟨y,rfl⟩,q⟩
theorem qBh {C:World->Prop} {h:Act->World->Prop} {k:Nat} {r:List (Nat×Bool)} {a:Act} {w:World} {o:Oper} (E:ops[k]?=some o) (y:Region.wanted o (yielded ops a.tmps)=false)
  (z:C w) (q:Mixed.qAU P ops C h r (a.put o.dst undef) w):Mixed.qAU P ops C h ((k,false) :: r) a w:=by
 unfold Mixed.qAU;unfold wpOp;simp only [E,y,Bool.false_eq_true,if_false];exact ⟨z,q⟩
end
def qcV (w:World) (b:Nat) (q h:Int) (m:Str) (v:Value) (ex:Str) (al:Bool):Prop:=w.heap[b]?=some (.cells #[.int .i64 q,.int .u8 h,.string (sB m),v,.string (sB ex),.bool al] 30 (0,0))
section
variable {w w':World} {b:Nat} {page op:Int} {m ex:Str} {v:Value} {al:Bool}
theorem qcV.lt (h:qcV w b page op m v ex al):b<w.heap.size:=(Qb.1 h).1
theorem qcV.below {B:Nat} (h:qcV w b page op m v ex al) (q:Below B w w') (y:b<B):qcV w' b page op m v ex al:=(q.block b y).trans h
theorem qcV.all (h:qcV w b page op m v ex al) (q:Below w.heap.size w w'):qcV w' b page op m v ex al:=h.below q h.lt
theorem qcV.cells (h:qcV w b page op m v ex al):w.cell? ⟨b,0,none⟩=some (.int .i64 page)/\w.cell? ⟨b,1,none⟩=some (.int .u8 op)/\w.cell? ⟨b,2,none⟩=some (.string (sB m))/\w.cell? ⟨b,3,none⟩=some v/\w.cell? ⟨b,4,none⟩=some (.string (sB ex))/\w.cell? ⟨b,5,none⟩=some (.bool al)/\∀ j,w.frozen? ⟨b,j,none⟩=false:=
 ⟨C9 h 0,C9 h 1,C9 h 2,C9 h 3,C9 h 4,C9 h 5,Qp h⟩
theorem qcV.qBg (q:qcV w b page op m v ex al) (h:Value):qcV (w.setCell ⟨b,3,none⟩ h) b page op m h ex al:=heap_setCell_same w b 3 _ _ h q
theorem qcV.qBe (q:qcV w b page op m v ex al) (h:Str):qcV (w.setCell ⟨b,4,none⟩ (.string (sB h))) b page op m v h al:=heap_setCell_same w b 4 _ _ _ q
theorem qcV.qBa (q:qcV w b page op m v ex al) (h:Bool):qcV (w.setCell ⟨b,5,none⟩ (.bool h)) b page op m v ex h:=heap_setCell_same w b 5 _ _ _ q
theorem qcV.qBn (q:qcV w b page op m v ex al) (h:Int):qcV (w.setCell ⟨b,1,none⟩ (.int .u8 h)) b page h m v ex al:=heap_setCell_same w b 1 _ _ _ q
theorem qcV.qBy (q:qcV w b page op m v ex al) (h:Int):qcV (w.setCell ⟨b,0,none⟩ (.int .i64 h)) b h op m v ex al:=heap_setCell_same w b 0 _ _ _ q
theorem qcV.qBJ (q:qcV w b page op m v ex al) (h:Str):qcV (w.setCell ⟨b,2,none⟩ (.string (sB h))) b page op h v ex al:=heap_setCell_same w b 2 _ _ _ q
theorem qcV.put (M:qcV w b page op m v ex al) (J y:Int) (G:Str) (K:Value) (z:Str) (E:Bool) :
  ∃ w',(((((w.setCell ⟨b,0,none⟩ (.int .i64 J)).setCell ⟨b,1,none⟩ (.int .u8 y)).setCell ⟨b,2,none⟩ (.string (sB G))).setCell ⟨b,3,none⟩ K).setCell ⟨b,4,none⟩ (.string (sB z))).setCell ⟨b,5,none⟩ (.bool E)=w'/\
   qcV w' b J y G K z E/\Below b w w'/\w'.heap.size=w.heap.size/\(∀ B u L,b<B->qaf w B u L->qaf w' B u L)/\∀ k,k≠b->w'.heap[k]?=w.heap[k]?:=by
 refine ⟨_,rfl,(((((M.qBy J).qBn y).qBJ G).qBg K).qBe z).qBa E,?_,by simp,fun B u L h O=>?_,fun k q=>?_⟩
 ·exact ((((((Qc b w).setCell (p:=⟨b,0,none⟩) (Qa _) _).setCell (p:=⟨b,1,none⟩) (Qa _) _).setCell (p:=⟨b,2,none⟩) (Qa _) _).setCell (p:=⟨b,3,none⟩) (Qa _) _).setCell (p:=⟨b,4,none⟩) (Qa _) _).setCell (p:=⟨b,5,none⟩) (Qa _) _
 ·exact row_set (row_set (row_set (row_set (row_set (row_set O (p:=⟨b,0,none⟩) h _) (p:=⟨b,1,none⟩) h _) (p:=⟨b,2,none⟩) h _) (p:=⟨b,3,none⟩) h _) (p:=⟨b,4,none⟩) h _) (p:=⟨b,5,none⟩) h _
 ·exact (heap_setCell_other _ ⟨b,5,none⟩ k _ q).trans ((heap_setCell_other _ ⟨b,4,none⟩ k _ q).trans ((heap_setCell_other _ ⟨b,3,none⟩ k _ q).trans ((heap_setCell_other _ ⟨b,2,none⟩ k _ q).trans ((heap_setCell_other _ ⟨b,1,none⟩ k _ q).trans (heap_setCell_other _ ⟨b,0,none⟩ k _ q)))))
theorem qcV.qBd (h:qcV w b page op m v ex al) {g j:Nat} (q:b≠g) (u:Value):qcV (w.setCell ⟨g,j,none⟩ u) b page op m v ex al:=(heap_setCell_other w ⟨g,j,none⟩ b u q).trans h
end
def qaX (h:Int) (q:Nat):Option En:=if 0<=h/\h<=6 then atN h.toNat q else none
def rkindT (h:Int) (q:Nat):Int:=if h=0 then 2 else if h=2 then 3 else if (h=3\/h=4)/\q=203 then 2 else 0
def qlT (w:World) (v q:Int) (y:Int) (x:Option En) (e:Ending) (w':World):Prop:=
 (match x with
  | some x=>∃ h,e=.returned (.tuple #[enV v q x.1 h x.2.2.1 x.2.2.2,.int .i64 1])/\qaf w' w.heap.size h x.2.1
  | none=>e=.returned (.tuple #[enV 0 0 [] (.slice none 0 0) [] false,.int .i64 y]))/\Below w.heap.size w w'
theorem qsI {h:Int} (q:¬(0<=h/\h<=6)):listS h=[]:=by
 unfold listS;rw [Qe (by omega),Qe (by omega),Qe (by omega)]
theorem qeQ {h:Int} (q:¬(0<=h/\h<=6)) (y:Nat):qaX h y=none:=by
 unfold qaX;rw [Qe q]
theorem qkX (g:Int) (n:Nat) (y:n<256):atT g (n:Int)=qaX g n:=by
 by_cases h:0<=g/\g<=6
 ·obtain ⟨q,rfl⟩:∃ q:Nat,g=(q:Int):=⟨g.toNat,by omega⟩
  unfold qaX;rw [Qi h,qt7 q n y];rfl
 ·rw [qeQ h]
  unfold atT qcS;rw [qsI h];rfl
open Go.Ev in
def qpS:List Tr->List AC
 | []=>[]
 | x :: h=>.int .i64 x.1 :: .int .i64 x.2.1 :: .int .i64 x.2.2 :: qpS h
open Go.Ev in
theorem qe0:∀ L:List Tr,(qpS L).length=L.length*3
 | []=>rfl
 | x :: h=>by
  have q:=qe0 h;show (qpS h).length+1+1+1=(h.length+1)*3;omega
open Go.Ev in
theorem qiS (q:Ev.Ren):∀ {L:List Tr} {h:List Value},R2 q (qpS L) h->h=cellsT L
 | [],h,E=>E
 | x :: Z,h,⟨z,V,t,T,M,W,G,U,y,aa,K,O,J⟩=>by
  rw [t,G,K,qiS q J,show z=_ from T,show M=_ from U,show y=_ from O];rfl
open Go.Ev in
def ql8 (y:Hp) (a:AC) (L:List Tr):Bool:=match a with
 | .nils=>L.isEmpty
 | .sl q 0 c l=>Nat.beq c L.length&&match Ev.look y q with
  | some b=>Nat.beq b.t 56&&Ev.cellsB (b.c.take (c*3)) (qpS L)&&match l,b.s with
   | some h,none=>Nat.beq b.c.length (h*3)&&Nat.ble c h&&Nat.ble h 1000
   | none,some 3=>true
   | _,_=>false
  | none=>false
 | _=>false
open Go.Ev in
theorem qnw {V:Hp} {a:AC} {L:List Tr} (b:ql8 V a L=true) {w w':World} {J:Ev.Ren} (ag:HR w J V w') {v:Value} (Z:a.rel J v):qaf w' w.heap.size v L:=by
 unfold ql8 at b;split at b
 ·have ap:L=[]:=by simpa using b
  subst ap;rw [show v=_ from Z];exact Zm _ _ _ _
 ·rename_i ad c q
  rw [Qd] at b;obtain ⟨x,b⟩:=b;have x:=Qz x;split at b
  ·rename_i z ai
   rw [Qd,Qd] at b;obtain ⟨⟨M,y⟩,h⟩:=b;have M:=Qz M;have y:=Ev.qBj y;obtain ⟨aq,k,ar,rfl⟩:=Z;obtain ⟨az,aA,aa,am,l,U,W,i⟩:=ag.obj ad z ai;rw [ar] at aa;cases aa;have K:(z.c.take (c*3)).length=c*3:=(by rw [y,qe0,x]);have aw:c*3<=z.c.length:=(by rw [QH] at K;omega);have av:c*3<=l.size:=by
    rcases Nat.eq_zero_or_pos (c*3) with ak | ak
    ·omega
    ·obtain ⟨v,G,-⟩:=W (c*3 - 1) _ (Qg (by omega))
     have:=(Qb.1 G).1;omega
   have ah:l.toList.take (c*3)=cellsT L:=by
    refine qiS J ?_;rw [<- y];refine R2.qBA (by rw [K,QH,Zf];omega) fun ae ay O=>?_
    have ab:ae<c*3:=by
     have:=(QN.1 O).1;rw [K] at this;exact this
    rw [Zs,Qi ab] at O;obtain ⟨v,G,au⟩:=W _ _ O;exact ⟨v,by rw [Zs,Qi ab,Q8];exact G,au⟩
   rw [M] at U;have E:c<=q.getD k/\q.getD k<=maxLen/\l.size=q.getD k*3:=by
    split at h
    ·rename_i an T
     rw [Qd,Qd] at h;have ac:=Qz h.1.1;have ao:=QS h.1.2;have ax:=QS h.2;rw [T] at i;have i:l.size=z.c.length:=i;refine ⟨ao,?_,by rw [i,ac];rfl⟩;show an<=maxLen;unfold maxLen;omega
    ·rename_i T
     rw [T] at i;obtain ⟨aj,af⟩:=i;exact ⟨by show c<=k;omega,af,aj⟩
    ·cases h
   rw [x] at *;exact ⟨qbN L,.inr ⟨aq,q.getD k,l,rfl,am,U,E.1,E.2.1,E.2.2,ah⟩⟩
  ·cases b
 ·cases b
def quq:Bool->Bool->Bool
 | true,true=>true
 | false,false=>true
 | _,_=>false
theorem qmT {a b:Bool} (h:quq a b=true):a=b:=by cases a <;> cases b <;> first | rfl | cases h
open Go.Ev in
def qvb (h:Hp) (g n:Nat) (a b:Int) (m:List UInt8) (s:AC) (ex:List UInt8) (al:Bool) (q:Int):Option En->Bool
 | some x=>Ev.intB a g&&(Ev.intB b n&&(Ev.strB m x.1&&(ql8 h s x.2.1&&(Ev.strB ex x.2.2.1&&(quq al x.2.2.2&&Ev.intB q 1)))))
 | none=>Ev.intB a 0&&(Ev.intB b 0&&(Ev.strB m []&&(ql8 h s []&&(match s with | .nils=>true | _=>false)&&(Ev.strB ex []&&(quq al false&&Ev.intB q (rkindT g n))))))
open Go.Ev in
def qqa (P:Program) (g n:Nat):Bool:=match qgv P 200 8 43 [⟨false,[.int .i64 (g:Int)]⟩,⟨false,[.int .u8 (n:Int)]⟩] [] 1 with
 | some (.tup [⟨true,[.int .i64 z,.int .u8 h,.str y,a,.str m,.bool b]⟩,⟨false,[.int .i64 s]⟩],q)=>qvb q g n z h y a m b s (atN g n)
 | _=>false
def qav (P:Program) (g h q:Nat):Bool:=(List.range q).all fun i=>qqa P g (h+i)
theorem qac {P:Program} {g h q:Nat} (y:qav P g h q=true) (n:Nat) (z:h<=n) (E:n<h+q):qqa P g n=true:=by
 have:=QA.1 y (n - h) (QZ.2 (by omega))
 rwa [show h+(n - h)=n by omega] at this
open Go.Ev in
theorem qbs {g n:Nat} (az:g<=6) (a:qqa prog g n=true) (w:World):Calls prog 43 #[.int .i64 (g:Int),.int .u8 (n:Int)] w (qlT w g n (rkindT g n) (qaX g n)):=by
 unfold qqa at a;split at a
 ·rename_i ax am aq ay aD al aE an ah
  refine (qmj ah (us:=[.int .i64 (g:Int),.int .u8 (n:Int)]) ⟨_,_,rfl,⟨_,rfl,rfl⟩,_,_,rfl,⟨_,rfl,rfl⟩,rfl⟩ w).mono ?_;rintro ar aB ⟨aJ,aA,rfl,⟨ac,rfl,aC,aF,q,⟨W,rfl,J,ap,b,aa,U,aG,rfl,ag,G,aH,rfl,ab,m,aw,rfl,V,K,ao,rfl,ae,M,au,rfl,aj,rfl⟩,T,aI,rfl,⟨ak,af,ad⟩,rfl⟩,E⟩;cases af;have ai:qaX g n=atN g n:=by unfold qaX;rw [Qi (by omega)];rfl
  have b:W=#[J,U,G,m,K,M]:=Array.ext' b;have q:ac=#[.agg W,T]:=Array.ext' q;rw [ai];subst b;subst q;rw [show J=_ from aa,show U=_ from ag,show G=_ from ab,show K=_ from ae,show M=_ from aj,show T=_ from ad];refine ⟨?_,E.below⟩;cases Z:atN g n with
  | some av=>
   rw [Z] at a;simp only [qvb,Qd] at a;obtain ⟨e,y,s,O,u,h,x⟩:=a;rw [Ev.qBf e,Ev.qBf y,Ev.qAZ s,Ev.qAZ u,qmT h,Ev.qBf x];exact ⟨m,rfl,qnw O E V⟩
  | none=>
   rw [Z] at a;simp only [qvb,Qd] at a;obtain ⟨e,y,s,⟨O,z⟩,u,h,x⟩:=a;rw [Ev.qBf e,Ev.qBf y,Ev.qAZ s,Ev.qAZ u,qmT h,Ev.qBf x];split at z
   ·rw [show m=_ from V];rfl
   ·cases z
 ·cases a
end Go.Proofs.YtecpnfhpcamljaaGreatDoor
namespace Go.Proofs.YtecpnfhpcamljaaGreatDoor
open Tryz
open Go.RowKit Go.Shelf
attribute [local irreducible] Go.Mixed.qAU
structure Ee where
 g:Int
 o:Int
 m:Str
 A:Option Addr
 cap:Nat
 L:List Tr
 ex:Str
 al:Bool
instance:Inhabited Ee:=⟨⟨0,0,[],none,0,[],[],false⟩⟩
def Ee.v (r:Ee):Value:=.slice r.A r.L.length r.cap
abbrev Ke:=Int×Int×Str×List Tr×Str×Bool
def Ee.k (r:Ee):Ke:=(r.g,r.o,r.m,r.L,r.ex,r.al)
def Ee.c (r:Ee):List Value:=[.int .i64 r.g,.int .u8 r.o,.string (sB r.m),r.v,.string (sB r.ex),.bool r.al]
def cellsX:List Ee->List Value
 | []=>[]
 | r :: h=>.int .i64 r.g :: .int .u8 r.o :: .string (sB r.m) :: r.v :: .string (sB r.ex) :: .bool r.al :: cellsX h
theorem qcI:∀ R:List Ee,(cellsX R).length=R.length*6
 | []=>rfl
 | r :: h=>by
  have q:=qcI h;show (cellsX h).length+1+1+1+1+1+1=(h.length+1)*6;omega
theorem qeu:∀ a b:List Ee,cellsX (a++b)=cellsX a++cellsX b
 | [],b=>rfl
 | x :: t,b=>by
  show _ :: _ :: _ :: _ :: _ :: _ :: cellsX (t++b)=_ :: _ :: _ :: _ :: _ :: _ :: (cellsX t++cellsX b);rw [qeu t b]
theorem qd0:∀ (R:List Ee) (j:Nat) (h:j<R.length),(cellsX R)[j*6]?=some (.int .i64 R[j].g)/\(cellsX R)[j*6+1]?=some (.int .u8 R[j].o)/\(cellsX R)[j*6+2]?=some (.string (sB R[j].m))/\(cellsX R)[j*6+3]?=some R[j].v/\(cellsX R)[j*6+4]?=some (.string (sB R[j].ex))/\(cellsX R)[j*6+5]?=some (.bool R[j].al)
 | x :: e,0,h=>⟨rfl,rfl,rfl,rfl,rfl,rfl⟩
 | x :: e,j+1,h=>by
  obtain ⟨q,y,E,z,J,t⟩:=qd0 e j (by simpa using h);have G:cellsX (x :: e)=.int .i64 x.g :: .int .u8 x.o :: .string (sB x.m) :: x.v :: .string (sB x.ex) :: .bool x.al :: cellsX e:=rfl;rw [G,show (j+1)*6=j*6+1+1+1+1+1+1 by omega,show j*6+1+1+1+1+1+1+1=(j*6+1)+1+1+1+1+1+1 by omega,show j*6+1+1+1+1+1+1+2=(j*6+2)+1+1+1+1+1+1 by omega,show j*6+1+1+1+1+1+1+3=(j*6+3)+1+1+1+1+1+1 by omega,show j*6+1+1+1+1+1+1+4=(j*6+4)+1+1+1+1+1+1 by omega,show j*6+1+1+1+1+1+1+5=(j*6+5)+1+1+1+1+1+1 by omega];simp only [List.getElem?_cons_succ,List.getElem_cons_succ];exact ⟨q,y,E,z,J,t⟩
theorem qhx:∀ (R:List Ee),∀ h∈cellsX R,h.oneCell'=true
 | [],h,e=>by cases e
 | x :: t,h,e=>by
  have q:cellsX (x :: t)=.int .i64 x.g :: .int .u8 x.o :: .string (sB x.m) :: x.v :: .string (sB x.ex) :: .bool x.al :: cellsX t:=rfl;rw [q] at e;simp only [QM] at e;rcases e with rfl | rfl | rfl | rfl | rfl | rfl | e
  ·rfl
  ·rfl
  ·rfl
  ·rfl
  ·rfl
  ·rfl
  ·exact qhx t h e
theorem qji (R:List Ee) (j:Nat) (u:Value) (q:(cellsX R)[j]?=some u):∃ (k:Nat) (y:k<R.length) (i:Nat),i<6/\j=k*6+i/\(R[k].c)[i]?=some u:=by
 have T:j<R.length*6:=by
  rw [<- qcI];exact (QN.1 q).1
 have z:j / 6<R.length:=by omega
 obtain ⟨E,J,M,K,O,G⟩:=qd0 R (j / 6) z;refine ⟨j / 6,z,j % 6,by omega,by omega,?_⟩;have:j % 6=0\/j % 6=1\/j % 6=2\/j % 6=3\/j % 6=4\/j % 6=5:=by omega
 rcases this with y | y | y | y | y | y
 all_goals rw [y]
 ·exact (show _=_ from E.symm).trans ((congrArg (fun h=>(cellsX R)[h]?) (by omega:j / 6*6=j)).trans q)
 ·exact (show _=_ from J.symm).trans ((congrArg (fun h=>(cellsX R)[h]?) (by omega:j / 6*6+1=j)).trans q)
 ·exact (show _=_ from M.symm).trans ((congrArg (fun h=>(cellsX R)[h]?) (by omega:j / 6*6+2=j)).trans q)
 ·exact (show _=_ from K.symm).trans ((congrArg (fun h=>(cellsX R)[h]?) (by omega:j / 6*6+3=j)).trans q)
 ·exact (show _=_ from O.symm).trans ((congrArg (fun h=>(cellsX R)[h]?) (by omega:j / 6*6+4=j)).trans q)
 ·exact (show _=_ from G.symm).trans ((congrArg (fun h=>(cellsX R)[h]?) (by omega:j / 6*6+5=j)).trans q)
def EsP (w:World) (A:Option Addr) (R:List Ee):Prop:=
 R=[]\/∃ i k,A=some ⟨i,k,none⟩/\∀ b (u:b<R.length),(∀ h q,(R[b].c)[h]?=some q->w.cell? ⟨i,k+(b*6+h),none⟩=some q)/\qai w R[b].A R[b].L
theorem EsP.at_ {w:World} {A:Option Addr} {R:List Ee} (z:EsP w A R) {k:Nat} (u:k<R.length):∃ b e,A=some ⟨b,e,none⟩/\b<w.heap.size/\w.cell? ⟨b,e+k*6,none⟩=some (.int .i64 R[k].g)/\w.cell? ⟨b,e+k*6+1,none⟩=some (.int .u8 R[k].o)/\w.cell? ⟨b,e+k*6+2,none⟩=some (.string (sB R[k].m))/\w.cell? ⟨b,e+k*6+3,none⟩=some R[k].v/\w.cell? ⟨b,e+k*6+4,none⟩=some (.string (sB R[k].ex))/\w.cell? ⟨b,e+k*6+5,none⟩=some (.bool R[k].al)/\qai w R[k].A R[k].L:=by
 rcases z with rfl | ⟨b,e,rfl,G⟩
 ·simp at u
 ·obtain ⟨y,E⟩:=G k u
  have h:∀ i q,(R[k].c)[i]?=some q->w.cell? ⟨b,e+k*6+i,none⟩=some q:=fun i q J=>by rw [Nat.add_assoc];exact y i q J
  exact ⟨b,e,rfl,Qq w _ (h 0 _ rfl),h 0 _ rfl,h 1 _ rfl,h 2 _ rfl,h 3 _ rfl,h 4 _ rfl,h 5 _ rfl,E⟩
theorem EsP.below {w w':World} {A:Option Addr} {R:List Ee} (z:EsP w A R) (i:Below w.heap.size w w'):EsP w' A R:=by
 rcases z with rfl | ⟨y,u,rfl,h⟩
 ·exact .inl rfl
 ·refine .inr ⟨y,u,rfl,fun k q=>⟨fun E J G=>?_,(h k q).2.below i⟩⟩
  have b:=(h k q).1 E J G;exact (i.cell (Qq w _ b)).trans b
theorem EsP.news {w:World} {A:Option Addr} {R:List Ee} (k:EsP w A R):R.length=0\/∃ a,A=some a/\∀ j b,(cellsX R)[j]?=some b->w.cell? (a.add j)=some b:=by
 rcases k with rfl | ⟨h,e,rfl,q⟩
 ·exact .inl rfl
 ·refine .inr ⟨_,rfl,fun j b i=>?_⟩
  have u:(⟨h,e,none⟩:Addr).add j=⟨h,e+j,none⟩:=by unfold Addr.add;split <;> simp_all
  rw [u];obtain ⟨z,E,y,J,rfl,G⟩:=qji R j b i;exact (q z E).1 y b G
def qjL (w:World) (n:Nat) (v:Value) (R:List Ee):Prop:=w.ownsRow n 30 6 v R.length (cellsX R)/\∀ h∈R,qaf w n h.v h.L
theorem qjL.below {w w':World} {n:Nat} {v:Value} {R:List Ee} (e:qjL w n v R) (k:Below w.heap.size w w'):qjL w' n v R:=
 ⟨World.ownsRow.kept e.1 (row:=none) ⟨k.os,k.tape,k.output,k.size,fun g h _=>k.block g h⟩ (by
  cases y:v.ownBlock with
  | none=>exact .inl rfl
  | some r=>exact .inr (by simp)),fun q i=>(e.2 q i).below k⟩
theorem qjL.lift {w:World} {n m:Nat} {v:Value} {R:List Ee} (h:qjL w n v R) (k:m<=n):qjL w m v R:=⟨row_mono h.1 k,fun r q=>(h.2 r q).lift k⟩
theorem qjL.es {w:World} {n:Nat} {v:Value} {R:List Ee} (i:qjL w n v R):∃ y h,v=.slice y R.length h/\EsP w y R/\R.length<=h:=by
 rcases i.1.2 with ⟨rfl,M⟩ | ⟨U,h,ac,rfl,_,_,V,_⟩
 ·have:R=[]:=Qw M
  subst this;exact ⟨none,0,rfl,.inl rfl,Qa _⟩
 ·refine ⟨_,h,rfl,.inr ⟨U,0,rfl,fun q u=>⟨fun e W g=>?_,?_⟩⟩,V⟩
  ·rw [QT]
   have aa:e<6:=by
    have:=(QN.1 g).1;exact this
   obtain ⟨A,T,K,J,O,E⟩:=qd0 R q u;have G:(cellsX R)[q*6+e]?=some W:=by
    have:e=0\/e=1\/e=2\/e=3\/e=4\/e=5:=(by omega);rcases this with rfl | rfl | rfl | rfl | rfl | rfl
    ·exact A.trans g
    ·exact T.trans g
    ·exact K.trans g
    ·exact J.trans g
    ·exact O.trans g
    ·exact E.trans g
   exact (World.ownsRow.cellAt i.1 _ (by omega)).trans G
  ·obtain ⟨Z,ab,k,z,-⟩:=(i.2 _ (QJ u)).ops
   simp only [Ee.v,Qy] at k;rw [k.1];exact z
theorem qsi:(prog.info? 88).map (fun i=>(i.zero,i.size,i.bytes))=some (some (.agg #[.int .i64 0,.int .u8 0,.string ⟨#[]⟩,.slice none 0 0,.string ⟨#[]⟩,.bool false]),6,80):=by kernel_rfl
def qbO (w:World) (n:Nat) (v:Value) (R:List Ee):Prop:=w.ownsRow n 88 6 v R.length (cellsX R)/\∀ h∈R,qaf w n h.v h.L
theorem qbO.below {w w':World} {n:Nat} {v:Value} {R:List Ee} (e:qbO w n v R) (k:Below w.heap.size w w'):qbO w' n v R:=
 ⟨World.ownsRow.kept e.1 (row:=none) ⟨k.os,k.tape,k.output,k.size,fun g h _=>k.block g h⟩ (by
  cases y:v.ownBlock with
  | none=>exact .inl rfl
  | some r=>exact .inr (by simp)),fun q i=>(e.2 q i).below k⟩
theorem qbO.lift {w:World} {n m:Nat} {v:Value} {R:List Ee} (h:qbO w n v R) (k:m<=n):qbO w m v R:=⟨row_mono h.1 k,fun r q=>(h.2 r q).lift k⟩
theorem qbO.es {w:World} {n:Nat} {v:Value} {R:List Ee} (i:qbO w n v R):∃ y h,v=.slice y R.length h/\EsP w y R/\R.length<=h:=by
 rcases i.1.2 with ⟨rfl,M⟩ | ⟨U,h,ac,rfl,_,_,V,_⟩
 ·have:R=[]:=Qw M
  subst this;exact ⟨none,0,rfl,.inl rfl,Qa _⟩
 ·refine ⟨_,h,rfl,.inr ⟨U,0,rfl,fun q u=>⟨fun e W g=>?_,?_⟩⟩,V⟩
  ·rw [QT]
   have aa:e<6:=by
    have:=(QN.1 g).1;exact this
   obtain ⟨A,T,K,J,O,E⟩:=qd0 R q u;have G:(cellsX R)[q*6+e]?=some W:=by
    have:e=0\/e=1\/e=2\/e=3\/e=4\/e=5:=(by omega);rcases this with rfl | rfl | rfl | rfl | rfl | rfl
    ·exact A.trans g
    ·exact T.trans g
    ·exact K.trans g
    ·exact J.trans g
    ·exact O.trans g
    ·exact E.trans g
   exact (World.ownsRow.cellAt i.1 _ (by omega)).trans G
  ·obtain ⟨Z,ab,k,z,-⟩:=(i.2 _ (QJ u)).ops
   simp only [Ee.v,Qy] at k;rw [k.1];exact z
theorem qpc (w:World) (n:Nat):qbO w n (.slice none 0 0) []:=⟨Zm _ _ _ _,fun q h=>absurd h Q9⟩
theorem qqW (w:World) (B:Nat) (v:Value) (R:List Ee) (q:qbO w B v R) (A:Option Addr) (c:Nat) (R2:List Ee) (Z:EsP w A R2) (ac:∀ r∈R2,qaf w B r.v r.L) (K:B<=w.heap.size) (ao:R.length+R2.length<=100000) :
  ∃ u e,(Builtin.append_ #[194,194] 194 #[v,.slice A R2.length c]).run prog w=.ok u e/\qbO e B u (R++R2)/\Below B w e/\w.grownBy e v.ownBlock:=by
 obtain ⟨U,ag,af,ah,ae⟩:=info_parts qsi;obtain ⟨u,e,V,aj,E⟩:=qa4 w B 194 194 88 U _ 6 80 underlying194 ag af ah ae rfl (by decide) v R.length (cellsX R) q.1 A R2.length c (cellsX R2)
  (qcI R2) Z.news (qhx R2) (by unfold maxLen;omega) (by omega) K
 have aa:∀ h,v.ownBlock=some h->∀ G O,w.heap[h]?≠some (.cells G 56 O):=fun h z G O ak=>by
  rcases q.1.2 with ⟨rfl,_⟩ | ⟨ap,an,aq,rfl,_,J,_⟩
  ·simp [Value.ownBlock] at z
  ·simp only [Value.ownBlock,Qv] at z
   subst z;rw [ak] at J;simp at J
 have M:∀ {y:Value} {L:List Tr},qaf w B y L->qaf e B y L:=fun {y L} T=>World.ownsRow.kept T E (by
  cases W:y.ownBlock with
  | none=>exact .inl rfl
  | some h=>
   refine .inr fun ad=>?_
   obtain ⟨G,ab⟩:=qbC T W;exact aa h ad.symm _ _ ab)
 refine ⟨u,e,V,⟨?_,fun r k=>?_⟩,(Qc B w).grown E K fun ai am=>(World.ownsRow.lt q.1 ai am).1,E⟩
 ·rw [qeu,Qk]
  exact aj
 ·rcases QY.1 k with k | k
  ·exact M (q.2 r k)
  ·exact M (ac r k)
theorem qvw (w:World) (r:Ee) (k:qai w r.A r.L):EsP (w.alloc (.cells #[.int .i64 r.g,.int .u8 r.o,.string (sB r.m),r.v,.string (sB r.ex),.bool r.al] 88)) (some ⟨w.heap.size,0,none⟩) [r]:=by
 refine .inr ⟨_,_,rfl,fun q u=>?_⟩;obtain rfl:q=0:=by simp at u;omega
 refine ⟨fun h z i=>?_,k.below (qaE _ _)⟩;rw [QT,Nat.zero_mul,QT,C9 (heap_alloc_new w _)];have:h=0\/h=1\/h=2\/h=3\/h=4\/h=5:=by
  have y:h<6:=(QN.1 i).1;omega
 rcases this with rfl | rfl | rfl | rfl | rfl | rfl <;> exact i
end Go.Proofs.YtecpnfhpcamljaaGreatDoor
