/-
  EvCqRSK, EvDqRSK, EvEqRSK, EvFqRSK, EvGqRSK, EvHqRSK, TbTqRSK, TbUqRSK, TbZqRSK, RkAqRSK.
-/
import Derived.Test.YtjafbmfcedijmaaGreatDoorKAD
import Derived.Great.FillDense
set_option linter.all false
set_option maxRecDepth 100000
set_option maxHeartbeats 4000000
namespace Go.Ev
open Go Go.RowKit
def over:List AC->Nat->List AC->List AC
 | [],_,_=>[]
 | c :: h,0,[]=>c :: h
 | c :: h,0,n :: l=>n :: over h 0 l
 | c :: h,t+1,l=>c :: over h t l
theorem qjE:∀ (cs:List AC) (t:Nat) (l:List AC) (k:Nat),(over cs t l)[k]?=if t<=k/\k<t+l.length/\k<cs.length then l[k - t]? else cs[k]?
 | [],t,l,k=>by rw [Qd (by simp)];rfl
 | c :: h,0,[],k=>by rw [Qd (by simp)];rfl
 | c :: h,0,z :: l,0=>by simp [over]
 | c :: h,0,z :: l,k+1=>by
  have y:=qjE h 0 l k;simp only [over,List.getElem?_cons_succ,y,Qv,Qs,true_and,QS,Nat.sub_zero];by_cases n:k<l.length/\k<h.length
  ·rw [Qk n,Qk (by omega)]
  ·rw [Qd n,Qd (by omega)]
 | c :: h,x+1,l,0=>by rw [Qd (by omega)];simp [over]
 | c :: h,x+1,l,k+1=>by
  have y:=qjE h x l k;simp only [over,List.getElem?_cons_succ,y,Qv];by_cases n:x<=k/\k<x+l.length/\k<h.length
  ·rw [Qk n,Qk (by omega)]
   congr 1
   omega
  ·rw [Qd n,Qd (by omega)]
theorem qcY:∀ (cs:List AC) (h:Nat) (l:List AC),(over cs h l).length=cs.length
 | [],_,_=>rfl
 | c :: t,0,[]=>rfl
 | c :: t,0,x :: l=>by simp [over,qcY t 0 l]
 | c :: t,n+1,l=>by simp [over,qcY t n l]
def qpx (y:Nat->Option (Nat×Nat)) (h:List AC):List (Nat×A1)->Option (List AC)
 | []=>some h
 | (i,x) :: rest=>match y i with
  | some (z,size)=>match Nat.beq x.l.length size&&Nat.ble (z+size) h.length with
   | true=>qpx y (over h z x.l) rest
   | false=>none
  | none=>none
theorem qgs {v:Ren} {M:Nat->Option (Nat×Nat)}:∀ {l:List (Nat×A1)} {u:List (Nat×Value)} {h:List AC} {cs:Array Value} {r:List AC},qpx M h l=some r->R2 v h cs.toList->PR v l u->
  ∃ y,Instr.fill M cs u=some y/\R2 v r y.toList
 | [],u,h,cs,r,c,z,ao=>by
  cases c;rw [show u=[] from ao];exact ⟨cs,rfl,z⟩
 | (i,x) :: rest,u,h,cs,r,c,z,⟨j,ap,ae,ai,af⟩=>by
  subst ae;simp only [qpx] at c;split at c
  ·rename_i k Z ab
   split at c
   ·rename_i K
    simp only [Qh] at K;have ak:=QG K.1;have aq:=QX K.2;have O:=ai.cells;have ac:j.cells.size=Z:=(by rw [<- Zh,O.length,ak]);have U:cs.size=h.length:=(by rw [<- Zh,z.length]);obtain ⟨V,an⟩:=Great.foldl_set k j.cells.toList 0 cs;have aa:R2 v (over h k x.l) ((j.cells.zipIdx.foldl (fun cs (G,J)=>cs.setIfInBounds (k+J) G) cs).toList):=by
     have ah:(j.cells.zipIdx.foldl (fun cs (G,J)=>cs.setIfInBounds (k+J) G) cs)=((j.cells.toList.zipIdx 0).foldl (fun cs (x:Value×Nat)=>cs.setIfInBounds (k+x.2) x.1) cs):=(by rw [<- Array.foldl_toList,Array.toList_zipIdx]);rw [ah];refine R2.qEY (by rw [Zh,V,qcY,U]) fun ad ar E=>?_
     rw [qjE] at E;rw [QV,an ad];simp only [Nat.add_zero,Zh,ac,U];split at E
     ·rename_i am
      rw [Qk (by omega)];exact O.at_ E
     ·rename_i am
      rw [Qd (by omega),<- QV];exact z.at_ E
    obtain ⟨y,ag,aj⟩:=qgs c aa af;refine ⟨y,?_,aj⟩;rw [Instr.fill,ab];simp only;rw [Qd (by simp;omega)];exact ag
   ·cases c
  ·cases c
def qrA (b o:Nat):AV:=.one ⟨false,[.ptr b o]⟩
def Res (P:Program) (w0:World) (z:Ren) (o:Oper) (a:Act) (w:World) (x:Option AV) (E:Hp):Prop:=
 ∃ h v n,(execOp a.eval o).run P w=.ok h v/\Ext z n/\HR w0 n E v/\match x with
  | some x=>∃ y,h=.value y/\x.rel n y
  | none=>h=.skip
section
variable {P:Program} {w0 w:World} {ρ:Ren} {σ σ':Hp} {T:Tm} {a:Act} {o:Oper}
theorem qbK {x:AV} {v:Value} (h:HR w0 ρ σ w) (z:(execOp a.eval o).run P w=.ok (.value v) w) (y:x.rel ρ v):Res P w0 ρ o a w (some x) σ:=⟨_,w,ρ,z,Ext.refl _,h,v,rfl,y⟩
theorem qfY {x:AV} (h:HR w0 ρ σ w) (y:∃ v,x.rel ρ v/\∀ w,(execOp a.eval o).run P w=.ok (.value v) w):Res P w0 ρ o a w (some x) σ:=by
 obtain ⟨v,E,z⟩:=y;exact qbK h (z w) E
theorem qrp {z:Nat} {ob:AO} (E:HR w0 ρ σ w) (G:look σ z=none) (h:Nat) {cs:Array Value} (K:∀ (i:Nat) (x:AC),ob.c[i]?=some x->∃ v,cs[i]?=some v/\x.rel ρ v) (J:qCh ob.s cs.size ob.c.length h) :
  ∃ y,Ext ρ y/\y z=some (w.heap.size,h)/\HR w0 y ((z,ob) :: σ) (w.alloc (.cells cs ob.t)):=
 ⟨_,E.qE6 G,by unfold Ren.add;rw [Qk rfl],E.alloc G ob h K J⟩
theorem qhA {z:Ren} {E k h y:Nat} (G:z E=some (k,h)):(qrA E y).rel z (.pointer (some ⟨k,y,none⟩)):=⟨_,rfl,k,h,G,rfl⟩
theorem R2.get {l:List AC} {cs:Array Value} (y:R2 ρ l cs.toList) (i:Nat) (x:AC) (v:l[i]?=some x):∃ h,cs[i]?=some h/\x.rel ρ h:=by
 obtain ⟨h,E,z⟩:=y.at_ v;exact ⟨h,by rw [<- QV];exact E,z⟩
theorem qjz {y:Nat} {t:TypeId} {l:List AC} {x:AV} {cs:Array Value} {v:Value} (J:HR w0 ρ σ w) (M:look σ y=none) (z:R2 ρ l cs.toList)
  (G:(execOp a.eval o).run P w=.ok (.value v) (w.alloc (.cells cs t))) (K:∀ h:Ren,h y=some (w.heap.size,0)->x.rel h v):Res P w0 ρ o a w (some x) ((y,⟨t,l,none⟩) :: σ):=by
 obtain ⟨h,U,O,E⟩:=qrp (ob:=⟨t,l,none⟩) J M 0 z.get (by show _=_;rw [<- Zh,z.length]);exact ⟨_,_,h,G,U,E,v,rfl,K h O⟩
theorem qtu {t:TypeId} {v:A1} {h:Nat} (z:o.op=.alloc t) (E:HR w0 ρ σ w) (y:qgd P t=some v) (G:look σ h=none):Res P w0 ρ o a w (some (qrA h 0)) ((h,⟨t,v.l,none⟩) :: σ):=by
 obtain ⟨M,K,J⟩:=qkS y ρ;refine qjz E G (cs:=M.cells) K.cells ?_ fun O=>qhA
 simp [execOp,z,Instr.alloc,J,newVar,newRow]
theorem qyC {t:TypeId} {x:Operand} {y:A1} {h:Nat} (E:o.op=.box t x) (G:HR w0 ρ σ w) (J:TR ρ T a) (z:op1 T x=some y) (K:look σ h=none):Res P w0 ρ o a w (some (qrA h 0)) ((h,⟨t,y.l,none⟩) :: σ):=by
 have M:=qc0 J z;refine qjz G K (cs:=(a.eval x).cells) M.cells ?_ fun O=>qhA
 simp [execOp,E,Instr.box,newVar,newRow]
def qiX (P:Program):List Field->Option (List (Nat×Nat))
 | []=>some []
 | f :: h=>match sizeT P f.type,qiX P h with
  | some n,some l=>some ((f.offset,n) :: l)
  | _,_=>none
theorem qhZ:∀ {n:List Field} {l:List (Nat×Nat)},qiX P n=some l->n.mapM (fun f=>(P.info? f.type).map fun i=>(f.offset,i.size))=some l
 | [],l,e=>by cases e;rfl
 | f :: J,l,e=>by
  simp only [qiX] at e;split at e
  ·rename_i E G h z
   cases e;have y:=qhZ z;unfold sizeT at h;split at h
   ·rename_i i t
    cases h;simp [List.mapM_cons,t,y]
   ·cases h
  ·cases e
def qk9 (P:Program) (t:TypeId) (i:List (Nat×A1)):Option (List AC):=match qgd P t with
 | some s=>match P.underlying t with
  | some (.struct z)=>match qiX P z.toList with
   | some E=>qpx (fun e=>E[e]?) s.l i
   | none=>none
  | some (.array _ y)=>match sizeT P y with
   | some h=>qpx (fun e=>some (e*h,h)) s.l i
   | none=>none
  | _=>none
 | none=>none
theorem qrl {t:TypeId} {J:List (Nat×A1)} {l:List AC} (e:qk9 P t J=some l) {K:List (Nat×Value)} (V:PR ρ J K):∃ M,P.built t K=some M/\R2 ρ l M.toList:=by
 unfold qk9 at e;split at e
 ·rename_i ag h
  unfold qgd at h;split at h
  ·rename_i ab U
   split at h
   ·rename_i ai G
    have O:=(qhK ρ h).cells;split at e
    ·rename_i ae E
     split at e
     ·rename_i ad Z
      obtain ⟨s,y,z⟩:=qgs e O V;refine ⟨s,?_,z⟩;unfold Program.built;rw [U,E];simp only [G,qhZ Z];simpa using y
     ·cases e
    ·rename_i aj ah E
     split at e
     ·rename_i ac n
      unfold sizeT at n;split at n
      ·rename_i af aa
       cases n;obtain ⟨s,y,z⟩:=qgs e O V;refine ⟨s,?_,z⟩;unfold Program.built;rw [U,E];simp only [G,aa];exact y
      ·cases n
     ·cases e
    ·cases e
   ·cases h
  ·cases h
 ·cases e
theorem qie {t:TypeId} {ps:Array (Nat×Operand)} {w:List (Nat×A1)} {l:List AC} (z:o.op=.build t ps) (J:TR ρ T a) (y:qwY T ps.toList=some w) (M:qk9 P t w=some l) :
  ∃ v,(AV.one ⟨true,l⟩).rel ρ v/\∀ h,(execOp a.eval o).run P h=.ok (.value v) h:=by
 obtain ⟨i,x,O⟩:=qrl M (qjm J y);refine ⟨.agg i,⟨i,rfl,O⟩,fun h=>?_⟩;have E:=run_build h t (ps.map fun (K,G)=>(K,a.eval G)) i (by simpa using x);simp only [execOp,z,Sem.run_bind,E,Result.andThen_ok];rfl
def qkK (h:List AC) (n:Nat):List AC:=(List.range n).map fun i=>h.getD (i % h.length) .nilp
def qmq (P:Program) (e:TypeId) (i:Nat) (z:List (Nat×A1)):Option (List AC):=match sizeT P e,qgd P e with
 | some h,some s=>match Nat.ble 1 h&&Nat.ble 1 i&&Nat.ble (i*h) 1000000&&Nat.beq s.l.length h with
  | true=>qpx (fun y=>some (y*h,h)) (qkK s.l (i*h)) z
  | false=>none
 | _,_=>none
theorem qqD {h:List AC} {i:Array Value} (z:R2 ρ h i.toList) (G:0<h.length) (n:Nat):R2 ρ (qkK h n) ((Array.range n).map (i[· % i.size]!)).toList:=by
 have U:i.size=h.length:=by rw [<- Zh,z.length]
 refine R2.qEY (by simp [qkK]) fun x K v=>?_
 have y:x<n:=by have:=(QP.1 v).1;simpa [qkK] using this
 have E:x % h.length<h.length:=Nat.mod_lt _ G;simp only [qkK,Za,List.getElem?_range y,Option.map_some,Qz] at v;have J:h[x % h.length]?=some K:=by
  rw [Qo,Qi E] at v;rw [Qi E];simpa using v
 obtain ⟨V,M,O⟩:=z.get _ _ J;refine ⟨V,?_,O⟩;rw [QV,Array.getElem?_map,Array.getElem?_range,Qk y,Option.map_some,U];rw [getElem!_def,M]
theorem qhT {t e:TypeId} {h:Nat} {ps:Array (Nat×Operand)} {J:List (Nat×A1)} {l:List AC} {y:Nat} (af:o.op=.buildSlice t h ps) (ab:HR w0 ρ σ w) (ad:TR ρ T a) (ai:P.underlying t=some (.slice e)) (ak:qwY T ps.toList=some J)
  (i:qmq P e h J=some l) (U:look σ y=none):Res P w0 ρ o a w (some (.one ⟨false,[.sl y 0 h (some h)]⟩)) ((y,⟨e,l,none⟩) :: σ):=by
 unfold qmq at i;split at i
 ·rename_i x an O ac
  split at i
  ·rename_i K
   simp only [Qh] at K;obtain ⟨⟨⟨z,E⟩,M⟩,G⟩:=K;have z:=QX z;have E:=QX E;have M:=QX M;have G:=QG G;obtain ⟨ao,ag,ah⟩:=qkS ac ρ;obtain ⟨cs,Z,ae⟩:=qgs i (qqD ag.cells (by omega) (h*x)) (qjm ad ak);refine qjz (cs:=cs) (v:=.slice (some ⟨w.heap.size,0,none⟩) h h) ab U ae ?_ fun am i=>⟨_,rfl,_,_,i,rfl⟩
   have aa:¬h*x=0:=by
    intro e;rcases Nat.mul_eq_zero.1 e with e | e <;> omega
   have aj:¬h*x > 2 ^ 24:=(by omega);simp only [execOp,af,Instr.buildSlice,Sem.run_bind,qcB ai,qa7 O,Result.andThen_ok];rw [Qd aj,Qd aa];simp only [Sem.run_bind,Sem.run_pure,ah,Result.andThen_ok];rw [show (ps.map fun s=>(s.1,a.eval s.2)).toList=ps.toList.map fun (V,s)=>(V,a.eval s) by simp];rw [Z];simp [newRow]
  ·cases i
 ·cases i
end
end Go.Ev
namespace Go.Ev
open Go Go.RowKit
section
variable {P:Program} {w0 w:World} {ρ:Ren} {σ σ':Hp} {T:Tm} {a:Act} {o:Oper}
theorem qmA {h:Array Value} {t:TypeId} {k i:Nat} (y:w.heap[k]?=some (.cells h t (0,0))):w.cell? ⟨k,i,none⟩=h[i]?:=by simp [World.cell?,y]
theorem qgJ (k i j:Nat):(⟨k,i,none⟩:Addr).add j=⟨k,i+j,none⟩:=by
 unfold Addr.add;split
 ·rename_i h;subst h;rfl
 ·rfl
def qtz (P:Program) (y:Hp) (t:TypeId) (b x:Nat):Option A1:=match look y b with
 | some n=>match qCg P t with
  | some true=>match sizeT P t with
   | some h=>match Nat.beq ((n.c.drop x).take h).length h with
    | true=>some ⟨true,(n.c.drop x).take h⟩
    | false=>none
   | none=>none
  | some false=>match n.c[x]? with
   | some z=>some ⟨false,[z]⟩
   | none=>none
  | none=>none
 | none=>none
theorem qkz {t:TypeId} {b j k ai:Nat} {x:A1} (ag:HR w0 ρ σ w) (h:qtz P σ t b j=some x) (am:ρ b=some (k,ai)):∃ n,x.rel ρ n/\(loadVar t ⟨k,j,none⟩).run P w=.ok n w:=by
 unfold qtz at h;split at h
 ·rename_i U ae
  obtain ⟨an,ap,ab,-,G,ac,K,ao⟩:=ag.obj b U ae;rw [am] at ab;cases ab;split at h
  ·rename_i M
   split at h
   ·rename_i i aj
    split at h
    ·rename_i v
     have v:=QG v;cases h;have Z:R2 ρ ((U.c.drop j).take i) ((G.toList.drop j).take i):=by
      refine R2.qEY ?_ fun af ak z=>?_
      ·rw [v]
       rcases Nat.eq_zero_or_pos i with ad | ad
       ·subst ad;rfl
       ·have J:j+(i - 1)<U.c.length:=by simp at v;omega
        obtain ⟨n,y,-⟩:=K _ _ (Qi J);have:=(Qb.1 y).1;simp;omega
      ·have E:af<i:=by
        have:=(QP.1 z).1;rw [v] at this;exact this
       rw [Zu,Qk E,Zl] at z;obtain ⟨n,y,O⟩:=K _ _ z;exact ⟨n,by rw [Zu,Qk E,Zl,QV];exact y,O⟩
     refine ⟨.agg ((G.toList.drop j).take i).toArray,⟨_,rfl,Z⟩,?_⟩;have aa:((G.toList.drop j).take i).length=i:=(by rw [Z.length,v]);have J:=run_loadCells_list (P:=P) w ⟨k,j,none⟩ ((G.toList.drop j).take i) fun ah n V=>by
      rw [qgJ,qmA ac,<- QV];have E:ah<i:=by
       have:=(QP.1 V).1;rw [aa] at this;exact this
      rwa [Zu,Qk E,Zl] at V
     rw [aa] at J;simp [loadVar,qgr M,qa7 aj,J]
    ·cases h
   ·cases h
  ·rename_i M
   split at h
   ·rename_i ak z
    cases h;obtain ⟨n,y,O⟩:=K _ _ z;refine ⟨n,⟨_,rfl,O⟩,?_⟩;simp only [loadVar,Sem.run_bind,qgr M,Result.andThen_ok,Bool.false_eq_true,if_false,run_load,qmA ac,y]
   ·cases h
  ·cases h
 ·cases h
theorem qtW {t:TypeId} {x:Operand} {b v:Nat} {h:A1} (y:o.op=.load t x) (k:HR w0 ρ σ w) (z:TR ρ T a) (E:opc T x=some (.ptr b v)) (K:qtz P σ t b v=some h):Res P w0 ρ o a w (some (.one h)) σ:=by
 obtain ⟨U,V,J,G⟩:=qaK z E;obtain ⟨Z,O,M⟩:=qkz k K J;refine qbK k ?_ O;simp [execOp,y,Instr.loadAt,Instr.sureAddr,G,M]
theorem qrV {t:TypeId} {x u:Operand} {b e:Nat} {h:A1} {ob:AO} (ak:o.op=.store t x u) (aa:HR w0 ρ σ w) (ac:TR ρ T a) (ah:opc T x=some (.ptr b e)) (am:op1 T u=some h) (O:look σ b=some ob)
  (an:sizeT P t=some h.l.length) (ay:e+h.l.length<=ob.c.length):Res P w0 ρ o a w none ((b,⟨ob.t,over ob.c e h.l,ob.s⟩) :: σ):=by
 obtain ⟨ag,ar,ad,ap⟩:=qaK ac ah;have K:=(qc0 ac am).cells;obtain ⟨aq,aw,ab,-,i,ai,Z,v⟩:=aa.obj b ob O;rw [ad] at ab;cases ab;have U:(a.eval u).cells.size=h.l.length:=by rw [<- Zh,K.length]
 have ax:ob.c.length<=i.size:=by
  rcases Nat.eq_zero_or_pos ob.c.length with ao | ao
  ·omega
  ·obtain ⟨z,k,-⟩:=Z (ob.c.length - 1) _ (Qi (by omega))
   have:=(Qb.1 k).1;omega
 have af:=run_storeCells_at (P:=P) ag e ob.t (a.eval u).cells.toList 0 i w ai (by simp;omega) K.ones;refine ⟨.skip,_,ρ,?_,Ext.refl _,aa.row ad O (l:=over ob.c e h.l) (cur':=(i.toList.take (e+0)++(a.eval u).cells.toList++i.toList.drop (e+0+(a.eval u).cells.toList.length)).toArray) (fun E av v=>?_) ?_,rfl⟩
 ·have aj:((a.eval u).cells.size≠h.l.length)=False:=by simp [U]
  simp only [execOp,ak,Instr.storeAt,Instr.sureAddr,ap,storeVar,Sem.run_bind,Sem.run_pure,Result.andThen_ok,qa7 an,aj,if_false,af]
 ·rw [qjE] at v
  have G:(a.eval u).cells.toList.length=h.l.length:=by rw [Zh,U]
  have y:(i.toList.take e).length=e:=by simp;omega
  rw [List.getElem?_toArray,Nat.add_zero,G];split at v
  ·rename_i M
   obtain ⟨z,k,J⟩:=K.at_ v;refine ⟨z,?_,J⟩;rw [Ze,Zj (by rw [y];exact M.1),y,List.getElem?_append_left (by rw [G];omega)];exact k
  ·rename_i M
   obtain ⟨z,k,J⟩:=Z _ _ v;have au:=(QP.1 v).1;refine ⟨z,?_,J⟩;rw [<- QV] at k;by_cases V:E<e
   ·rw [Ze,List.getElem?_append_left (by rw [y];exact V),Zu,Qk V]
    exact k
   ·rw [Zj (by simp;omega),Qg,y,G,Zl,show e+h.l.length+(E - (e+h.l.length))=E by omega]
    exact k
 ·have ae:(i.toList.take (e+0)++(a.eval u).cells.toList++i.toList.drop (e+0+(a.eval u).cells.toList.length)).toArray.size=i.size:=by simp;omega
  rw [ae,qcY];exact v
def intOf (x:Option AC):Option Nat:=match x with
 | some (.int _ (.ofNat h))=>some h
 | _=>none
def qdU (P:Program) (t:TypeId) (x:Option AC) (i:Option AC):Option (Nat×Nat):=match intOf i with
 | some b=>match P.underlying t,x with
  | some (.slice e),some (.sl h s l _)=>match sizeT P e,Nat.blt b l with
   | some n,true=>some (h,s+b*n)
   | _,_=>none
  | some (.array l e),some (.ptr h s)=>match sizeT P e,Nat.blt b l with
   | some n,true=>some (h,s+b*n)
   | _,_=>none
  | _,_=>none
 | none=>none
theorem qkN {x:Option AC} {n:Nat} (h:intOf x=some n) {v:Value} (y:∀ k,x=some k->k.rel ρ v):∃ z,v=.int z (n:Int):=by
 unfold intOf at h;split at h
 ·cases h;exact ⟨_,y _ rfl⟩
 ·cases h
theorem qef {t:TypeId} {x i:Operand} {b U:Nat} (V:o.op=.indexAddr t x i) (G:TR ρ T a) (c:qdU P t (opc T x) (opc T i)=some (b,U)):∃ v,(qrA b U).rel ρ v/\∀ l,(execOp a.eval o).run P l=.ok (.value v) l:=by
 unfold qdU at c;split at c
 ·rename_i e ac
  obtain ⟨ae,O⟩:=qkN (ρ:=ρ) ac fun ag ad=>qaK G ad
  split at c
  ·rename_i ab Z y k af M w
   obtain ⟨s,aa,K,J⟩:=qaK G w;split at c
   ·rename_i E n h
    cases c;have h:e<k:=QX h;refine ⟨.pointer (some ⟨s,y+e*E,none⟩),qhA K,fun l=>?_⟩;have z:(0:Int)<=(e:Int)/\(e:Int)<(k:Int):=(by omega);simp only [execOp,V,Instr.indexAt,O,J,asIntOf,Sem.run_bind,Sem.run_pure,Result.andThen_ok,qcB M,z,and_self,if_true,qa7 n,qgJ,Int.toNat_natCast]
   ·cases c
  ·rename_i k ab Z y M w
   obtain ⟨s,aa,K,J⟩:=qaK G w;split at c
   ·rename_i E n h
    cases c;have h:e<k:=QX h;refine ⟨.pointer (some ⟨s,y+e*E,none⟩),qhA K,fun l=>?_⟩;have z:(0:Int)<=(e:Int)/\(e:Int)<(k:Int):=(by omega);simp only [execOp,V,Instr.indexAt,Instr.sureAddr,O,J,asIntOf,Sem.run_bind,Sem.run_pure,Result.andThen_ok,qcB M,z,and_self,if_true,qa7 n,qgJ,Int.toNat_natCast]
   ·cases c
  ·cases c
 ·cases c
def qg9 (P:Program) (t:TypeId) (f:Nat):Option Field:=match P.underlying t with
 | some (.struct h)=>h[f]?
 | _=>none
theorem qiD {t:TypeId} {f:Nat} {z:Field} (h:qg9 P t f=some z):∃ y,P.underlying t=some (.struct y)/\y[f]?=some z:=by
 unfold qg9 at h;split at h
 ·exact ⟨_,by assumption,h⟩
 ·cases h
theorem qeb {t:TypeId} {x:Operand} {f:Nat} {b k n:Nat} {h:Field} (K:o.op=.fieldAddr t x f) (J:TR ρ T a) (G:qg9 P t f=some h) (E:opc T x=some (.ptr b k)) (O:sizeT P h.type=some (n+1)) :
  ∃ v,(qrA b (k+h.offset)).rel ρ v/\∀ w,(execOp a.eval o).run P w=.ok (.value v) w:=by
 obtain ⟨aa,y,M⟩:=qiD G;obtain ⟨z,Z,V,U⟩:=qaK J E;refine ⟨.pointer (some ⟨z,k+h.offset,none⟩),qhA V,fun w=>?_⟩;simp [execOp,K,Instr.fieldAt,y,qcB y,M,Instr.sureAddr,U,fieldPlace,qa7 O,qgJ]
def qrk (P:Program) (t:TypeId) (l:List AC) (n:Nat):Option A1:=match qCg P t with
 | some true=>match sizeT P t with
  | some h=>match Nat.beq ((l.drop n).take h).length h with
   | true=>some ⟨true,(l.drop n).take h⟩
   | false=>none
  | none=>none
 | some false=>match l[n]? with
  | some x=>some ⟨false,[x]⟩
  | none=>none
 | none=>none
theorem qkB {t:TypeId} {l:List AC} {y:Nat} {x:A1} (h:qrk P t l y=some x) {cs:Array Value} (E:R2 ρ l cs.toList):∃ i,x.rel ρ i/\∀ z,(part t cs y).run P z=.ok i z:=by
 unfold qrk at h;split at h
 ·rename_i G
  split at h
  ·rename_i K U
   split at h
   ·rename_i n
    have n:=QG n;cases h;refine ⟨.agg (cs.extract y (y+K)),⟨_,rfl,?_⟩,fun z=>by simp [part,qgr G,qa7 U]⟩;have Z:cs.size=l.length:=(by rw [<- Zh,E.length]);refine R2.qEY ?_ fun O V v=>?_
    ·rw [n]
     simp at n |-;omega
    ·have M:O<K:=by
      have:=(QP.1 v).1;rw [n] at this;exact this
     rw [Zu,Qk M,Zl] at v;obtain ⟨i,w,J⟩:=E.get _ _ v;refine ⟨i,?_,J⟩;rw [QV,Array.getElem?_extract];have:=(Qb.1 w).1;rw [Qk (by omega)];exact w
   ·cases h
  ·cases h
 ·rename_i G
  split at h
  ·rename_i V v
   cases h;obtain ⟨i,w,J⟩:=E.get _ _ v;exact ⟨i,⟨_,rfl,J⟩,fun z=>by simp [part,qgr G,w]⟩
  ·cases h
 ·cases h
theorem qqV {t:TypeId} {x:Operand} {f:Nat} {l:List AC} {h:Field} {v:A1} (O:o.op=.field t x f) (G:HR w0 ρ σ w) (M:TR ρ T a) (J:qg9 P t f=some h) (z:op1 T x=some ⟨true,l⟩) (Z:qrk P h.type l h.offset=some v):Res P w0 ρ o a w (some (.one v)) σ:=by
 obtain ⟨ad,aa,U⟩:=qiD J;obtain ⟨ab,V,y⟩:=qc0 M z;obtain ⟨ac,E,K⟩:=qkB Z y;refine qbK G ?_ E;simp [execOp,O,Instr.field,qcB aa,U,asAgg,V,K]
def qq4 (P:Program) (t:TypeId) (x:Option A1) (i:Option AC):Option A1:=match intOf i,P.underlying t,x with
 | some h,some (.array s e),some ⟨true,l⟩=>match sizeT P e,Nat.blt h s with
  | some n,true=>qrk P e l (h*n)
  | _,_=>none
 | _,_,_=>none
theorem qti {t:TypeId} {x i:Operand} {h:A1} (U:o.op=.index t x i) (M:HR w0 ρ σ w) (s:TR ρ T a) (e:qq4 P t (op1 T x) (opc T i)=some h):Res P w0 ρ o a w (some (.one h)) σ:=by
 unfold qq4 at e;split at e
 ·rename_i l v ag ah V ab G
  obtain ⟨ac,z⟩:=qkN (ρ:=ρ) V fun h Z=>qaK s Z
  obtain ⟨ad,aa,E⟩:=qc0 s G;split at e
  ·rename_i af y n
   have n:l<v:=QX n;obtain ⟨ae,J,O⟩:=qkB e E;refine qbK M ?_ J;have K:(0:Int)<=(l:Int)/\(l:Int)<(v:Int):=(by omega);simp only [execOp,U,Instr.index,z,aa,asIntOf,Sem.run_bind,Sem.run_pure,Result.andThen_ok,qcB ab,K,and_self,if_true,qa7 y,Int.toNat_natCast,O]
  ·cases e
 ·cases e
theorem R1.get:∀ {l:List A1} {v:List Value},R1 ρ l v->∀ {i:Nat} {x:A1},l[i]?=some x->∃ h,v[i]?=some h/\x.rel ρ h
 | [],_,_,i,x,e=>by simp at e
 | y :: E,_,⟨h,G,t,z,u⟩,0,x,e=>by simp at e;subst e;subst t;exact ⟨h,rfl,z⟩
 | y :: E,_,⟨h,G,t,z,u⟩,i+1,x,e=>by subst t;simpa using R1.get u (by simpa using e)
theorem qmj {x:Operand} {i:Nat} {l:List A1} {h:A1} (y:o.op=.extract x i) (E:HR w0 ρ σ w) (G:TR ρ T a) (J:qlH T x=some (.tup l)) (M:l[i]?=some h):Res P w0 ρ o a w (some (.one h)) σ:=by
 obtain ⟨U,K,z⟩:=qgh G J;obtain ⟨V,v,O⟩:=z.get M;refine qbK E ?_ O;rw [QV] at v;simp [execOp,y,Instr.extract,K,v]
end
end Go.Ev
namespace Go.Ev
open Go Go.RowKit
section
variable {P:Program} {w0 w:World} {ρ:Ren} {σ σ':Hp} {T:Tm} {a:Act} {o:Oper}
theorem qx6 {x:Operand} {h:Array TypeId} {t e:TypeId} {b K l:Nat} {c:Option Nat} (k:o.op=.call {callee:=.builtin .len,args:=#[x],argTypes:=h}) (y:HR w0 ρ σ w) (z:TR ρ T a) (M:h[0]?=some t) (J:P.underlying t=some (.slice e)) (E:opc T x=some (.sl b K l c)) :
  Res P w0 ρ o a w (some (.one ⟨false,[.int .i64 l]⟩)) σ:=by
 obtain ⟨O,U,-,G⟩:=qaK z E;refine qbK (v:=.int .i64 l) y ?_ ⟨_,rfl,rfl⟩;simp [execOp,k,resolve,invoke,builtin,Builtin.len_,M,qcB J,G,goInt]
theorem qlX {x:Operand} {h:Array TypeId} {t e:TypeId} (y:o.op=.call {callee:=.builtin .len,args:=#[x],argTypes:=h}) (z:HR w0 ρ σ w) (E:TR ρ T a) (M:h[0]?=some t) (K:P.underlying t=some (.slice e)) (G:opc T x=some .nils) :
  Res P w0 ρ o a w (some (.one ⟨false,[.int .i64 0]⟩)) σ:=by
 have J:a.eval x=.slice none 0 0:=qaK E G;refine qbK (v:=.int .i64 0) z ?_ ⟨_,rfl,rfl⟩;simp [execOp,y,resolve,invoke,builtin,Builtin.len_,M,qcB K,J,goInt]
def qjN (z:Hp) (b y n:Nat):Option (List AC):=match look z b with
 | some h=>match Nat.beq ((h.c.drop y).take n).length n with
  | true=>some ((h.c.drop y).take n)
  | false=>none
 | none=>none
theorem qho {b y n k af:Nat} {l:List AC} (ad:HR w0 ρ σ w) (v:qjN σ b y n=some l) (ai:ρ b=some (k,af)):∃ J,J.length=n/\R2 ρ l J/\∀ j i,J[j]?=some i->w.cell? ((⟨k,y,none⟩:Addr).add j)=some i:=by
 unfold qjN at v;split at v
 ·rename_i K aa
  obtain ⟨aj,am,V,-,ab,ag,U,ak⟩:=ad.obj b K aa;rw [ai] at V;cases V;split at v
  ·rename_i h
   have h:=QG h;cases v;have E:R2 ρ ((K.c.drop y).take n) ((ab.toList.drop y).take n):=by
    refine R2.qEY ?_ fun ac an M=>?_
    ·rw [h]
     rcases Nat.eq_zero_or_pos n with Z | Z
     ·subst Z;rfl
     ·have ae:y+(n - 1)<K.c.length:=by simp at h;omega
      obtain ⟨i,G,-⟩:=U _ _ (Qi ae);have:=(Qb.1 G).1;simp;omega
    ·have z:ac<n:=by
      have:=(QP.1 M).1;rw [h] at this;exact this
     rw [Zu,Qk z,Zl] at M;obtain ⟨i,G,ah⟩:=U _ _ M;exact ⟨i,by rw [Zu,Qk z,Zl,QV];exact G,ah⟩
   refine ⟨_,by rw [E.length,h],E,fun j i O=>?_⟩;rw [qgJ,qmA ag,<- QV];have z:j<n:=by
    have:=(QP.1 O).1;rw [E.length,h] at this;exact this
   rwa [Zu,Qk z,Zl] at O
  ·cases v
 ·cases v
def qwI (P:Program) (t:TypeId):Option Nat:=match P.info? t with
 | some h=>some h.bytes
 | none=>none
def qjr (P:Program) (l:Hp) (e:TypeId) (s:Option AC) (x:Option AC):Option (Nat×List AC):=match sizeT P e,qwI P e,qgd P e,x with
 | some h,some y,some z,some (.sl J K (b+1) _)=>match qjN l J K ((b+1)*h) with
  | some n=>match s with
   | some .nils=>match Nat.ble ((b+1)*y) 100000000&&Nat.ble b 1000000&&Nat.beq z.l.length h with
    | true=>some (b+1,n)
    | false=>none
   | some (.sl E M c (some G))=>match Nat.ble G c&&Nat.ble ((c+(b+1))*y) 100000000&&Nat.ble (c+b) 1000000&&Nat.beq z.l.length h,qjN l E M (c*h) with
    | true,some O=>some (c+(b+1),O++n)
    | _,_=>none
   | _=>none
  | none=>none
 | _,_,_,_=>none
theorem qs9 {t:TypeId} {z:A1} (h:qgd P t=some z):∃ i y,P.info? t=some i/\i.zero=some y:=by
 unfold qgd at h;split at h
 ·split at h
  ·exact ⟨_,_,by assumption,by assumption⟩
  ·cases h
 ·cases h
theorem qtw {l:List AC} {cs:Array Value} {y:Array Value} (E:R2 ρ l cs.toList) (i:Nat) (x:AC) (z:l[i]?=some x):∃ h,(cs++y)[i]?=some h/\x.rel ρ h:=by
 obtain ⟨h,v,G⟩:=E.get i x z;refine ⟨h,?_,G⟩;rw [Array.getElem?_append_left (Qb.1 v).1];exact v
theorem qiC (w:World) (e:TypeId) (need old:Nat) (E:TypeInfo) (z:Value) {G:A1} {y:Nat} (h:qgd P e=some G) (U:P.info? e=some E) (K:E.zero=some z) (M:G.l.length=y) {xs:Array Value} (O:xs.size=need*y) (Z:need<=100000000) :
  (xs++Builtin.zeroCells z.cells (grownCap w need old e - need)).size=grownCap w need old e*y/\grownCap w need old e<=maxLen:=by
 have V:z.cells.size=y:=by
  unfold qgd at h;rw [U] at h;simp only [K] at h;rw [<- M,<- Zh];exact (qhK (fun _=>none) h).cells.length
 have J:need<=grownCap w need old e/\grownCap w need old e<=maxLen:=by
  unfold grownCap Question.cut maxLen;have aa:=Nat.mod_lt (w.tape w.drawn (.appendCap need old e)) (show 0<2 ^ 63 - need by omega);simp only;omega
 refine ⟨?_,J.2⟩;rw [Array.size_append,O,Builtin.zeroCells,Array.size_map,Array.size_range,V,<- Nat.add_mul]
 congr 1
 omega
theorem qlU {e t ty:TypeId} {s x:Option AC} {m:Nat} {l:List AC} (ae:HR w0 ρ σ w) (b:qjr P σ e s x=some (m,l)) (ak:P.underlying t=some (.slice e)) {u v:Value} (aj:∀ y,s=some y->y.rel ρ u) (aA:∀ y,x=some y->y.rel ρ v) :
  ∃ cap cs,(∀ (i:Nat) (x:AC),l[i]?=some x->∃ v,cs[i]?=some v/\x.rel ρ v)/\(∃ E,sizeT P e=some E/\cs.size=cap*E/\cap<=maxLen)/\(Builtin.append_ #[t,t] ty #[u,v]).run P w=.ok (.slice (some ⟨w.heap.size,0,none⟩) m cap) (w.drew.alloc (.cells cs e)):=by
 unfold qjr at b;split at b
 ·rename_i E aq aJ ad am z aD n ab aa
  obtain ⟨h,M,k,G⟩:=qs9 aa;have ax:E=h.size:=by unfold sizeT at n;rw [k] at n;cases n;rfl
  have aw:aq=h.bytes:=by unfold qwI at ab;rw [k] at ab;cases ab;rfl
  subst ax;subst aw;obtain ⟨ag,aI,ar,rfl⟩:=aA _ rfl;split at b
  ·rename_i aF au
   obtain ⟨J,K,ac,ah⟩:=qho ae au ar;split at b
   ·split at b
    ·rename_i c
     cases b;simp only [Qh] at c;have an:=QX c.1.1;have ad:=QX c.1.2;have Z:=QG c.2;have aB:u=.slice none 0 0:=aj _ rfl;subst aB;refine ⟨_,_,fun i x U=>qtw (cs:=J.toArray) ac i x U,⟨_,n,?_⟩,run_append_nil w t ty e h M ak k G ⟨ag,am,none⟩ (z+1) _ J K ah (by omega) (by omega) (by omega)⟩;exact qiC w e (z+1) 0 h M aa k G Z (by simpa using K) (by omega)
    ·cases b
   ·rename_i aH av V O
    split at b
    ·rename_i aE c ao
     cases b;simp only [Qh] at c;have an:=QX c.1.1.1;have ad:=QX c.1.1.2;have aK:=QX c.1.2;have Z:=QG c.2;obtain ⟨ap,aG,aC,rfl⟩:=aj _ rfl;obtain ⟨af,ai,az,ay⟩:=qho ae ao aC;refine ⟨_,_,fun i x U=>qtw (cs:=af.toArray++J.toArray) (by simpa using az.append ac) i x U,⟨_,n,?_⟩,run_append_grow w t ty e h M ak k G ⟨ap,av,none⟩ V O af ai ay ⟨ag,am,none⟩ (z+1) _ J K ah (by omega) (by omega) ?_⟩
     ·exact qiC w e (V+(z+1)) O h M aa k G Z (by simp [ai,K,Nat.add_mul]) (by omega)
     have:=growslice_fits (need:=V+(z+1)) (old:=O) (bytes:=h.bytes) (by omega) (by omega);exact this
    ·cases b
   ·cases b
  ·cases b
 ·cases b
theorem qo6 {s x:Operand} {t e:TypeId} {m h:Nat} {l:List AC} (ab:o.op=.call {callee:=.builtin .append,args:=#[s,x],argTypes:=#[t,t]}) (E:HR w0 ρ σ w) (G:TR ρ T a) (af:P.underlying t=some (.slice e)) (ag:qjr P σ e (opc T s) (opc T x)=some (m,l)) (J:look σ h=none) :
  Res P w0 ρ o a w (some (.one ⟨false,[.sl h 0 m none]⟩)) ((h,⟨e,l,sizeT P e⟩) :: σ):=by
 obtain ⟨z,ah,K,⟨ai,ad,ae,aa⟩,U⟩:=qlU (ty:=o.type) E ag af (fun ac y=>qaK G y) (fun ac y=>qaK G y);obtain ⟨O,M,Z,V⟩:=qrp (ob:=⟨e,l,sizeT P e⟩) E.drew J z K (by rw [ad];exact ⟨ae,aa⟩);refine ⟨_,_,O,?_,M,V,_,rfl,⟨_,rfl,_,z,Z,rfl⟩⟩;simp only [execOp,ab,resolve,invoke,builtin,List.map_toArray,List.map_cons,List.map_nil,Sem.run_bind,Sem.run_pure,Result.andThen_ok,U];rfl
def nothing (x:Option AC):Bool:=match x with
 | some .nils=>true
 | some (.sl _ _ 0 _)=>true
 | _=>false
def qDr (s:Option AC):Option AC:=match s with
 | some .nils=>some .nils
 | some (.sl l h b (some c))=>match Nat.ble b c with
  | true=>some (.sl l h b (some c))
  | false=>none
 | _=>none
theorem qmI {s x:Operand} {t e:TypeId} {J:AC} (ab:o.op=.call {callee:=.builtin .append,args:=#[s,x],argTypes:=#[t,t]}) (U:HR w0 ρ σ w) (k:TR ρ T a) (ae:P.underlying t=some (.slice e)) {n:Nat} (ac:sizeT P e=some n) (B:nothing (opc T x)=true) (b:qDr (opc T s)=some J) :
  Res P w0 ρ o a w (some (.one ⟨false,[J]⟩)) σ:=by
 have K:∃ y l,a.eval x=.slice y 0 l:=by
  unfold nothing at B;split at B
  ·rename_i e;exact ⟨_,_,qaK k e⟩
  ·rename_i e;obtain ⟨O,h,-,c⟩:=qaK k e;exact ⟨_,_,c⟩
  ·cases B
 obtain ⟨y,l,K⟩:=K;have A:∃ E z h,a.eval s=.slice E z h/\z<=h/\J.rel ρ (a.eval s):=by
  unfold qDr at b;split at b
  ·rename_i e;cases b;have c:=qaK k e;exact ⟨none,0,0,c,Qa _,c⟩
  ·rename_i G o z l e
   split at b
   ·rename_i aa
    cases b;have c:=qaK k e;obtain ⟨O,h,-,ad⟩:=qaK k e;exact ⟨_,_,_,ad,QX aa,c⟩
   ·cases b
  ·cases b
 obtain ⟨E,z,h,A,af,M⟩:=A;refine qbK U ?_ ⟨_,rfl,M⟩;rw [A];have V:∀ w,(Builtin.firstCells n 0 (.slice y 0 l)).run P w=.ok #[] w:=fun w=>by cases y <;> simp [Builtin.firstCells,loadCells,loadCellsFrom]
 have Z:∀ (G:Addr) w,(storeCells G ([]:List Value)).run P w=.ok () w:=fun G w=>rfl
 cases E <;> simp [execOp,ab,resolve,invoke,builtin,Builtin.append_,qcB ae,qa7 ac,A,K,Builtin.lenOf,af,V,Z]
theorem qht {t e:TypeId} {h:Nat} (y:o.op=.buildSlice t 0 #[]) (E:HR w0 ρ σ w) (J:P.underlying t=some (.slice e)) {n:Nat} (G:sizeT P e=some n) (z:look σ h=none):Res P w0 ρ o a w (some (.one ⟨false,[.sl h 0 0 (some 0)]⟩)) ((h,⟨e,[],none⟩) :: σ):=by
 refine qjz (cs:=#[]) (v:=.slice (some ⟨w.heap.size,0,none⟩) 0 0) E z rfl ?_ fun M K=>⟨_,rfl,_,_,K,rfl⟩
 simp [execOp,y,Instr.buildSlice,qcB J,qa7 G,newRow,Instr.fill,Array.range_zero']
end
def qCL (P:Program) (T:Tm) (s:Hp) (f:Nat) (o:Oper):Option (Option AV×Hp):=match o.op with
 | .move b=>match qlH T b with
  | some h=>some (some h,[])
  | none=>none
 | .assign b=>match qlH T b with
  | some h=>some (some h,[])
  | none=>none
 | .pick z b e=>match opc T z with
  | some (.bool true)=>match qlH T b with
   | some h=>some (some h,[])
   | none=>none
  | some (.bool false)=>match qlH T e with
   | some h=>some (some h,[])
   | none=>none
  | _=>none
 | .alloc c=>match qgd P c,look s f with
  | some G,none=>some (some (qrA f 0),[(f,⟨c,G.l,none⟩)])
  | _,_=>none
 | .box c b=>match op1 T b,look s f with
  | some G,none=>some (some (qrA f 0),[(f,⟨c,G.l,none⟩)])
  | _,_=>none
 | .build c J=>match qwY T J.toList with
  | some E=>match qk9 P c E with
   | some i=>some (some (.one ⟨true,i⟩),[])
   | none=>none
  | none=>none
 | .buildSlice c v J=>match P.underlying c,look s f with
  | some (.slice l),none=>match v,J.toList with
   | 0,[]=>match sizeT P l with
    | some _=>some (some (.one ⟨false,[.sl f 0 0 (some 0)]⟩),[(f,⟨l,[],none⟩)])
    | none=>none
   | v,i=>match qwY T i with
    | some E=>match qmq P l v E with
     | some z=>some (some (.one ⟨false,[.sl f 0 v (some v)]⟩),[(f,⟨l,z,none⟩)])
     | none=>none
    | none=>none
  | _,_=>none
 | .load c b=>match opc T b with
  | some (.ptr n m)=>match qtz P s c n m with
   | some e=>some (some (.one e),[])
   | none=>none
  | _=>none
 | .store c b V=>match opc T b,op1 T V,sizeT P c with
  | some (.ptr n m),some e,some Z=>match look s n with
   | some x=>match Nat.beq Z e.l.length&&Nat.ble (m+e.l.length) x.c.length with
    | true=>some (none,[(n,⟨x.t,over x.c m e.l,x.s⟩)])
    | false=>none
   | none=>none
  | _,_,_=>none
 | .indexAddr c b t=>match qdU P c (opc T b) (opc T t) with
  | some (n,m)=>some (some (qrA n m),[])
  | none=>none
 | .fieldAddr c b y=>match qg9 P c y,opc T b with
  | some u,some (.ptr n m)=>match sizeT P u.type with
   | some (_+1)=>some (some (qrA n (m+u.offset)),[])
   | _=>none
  | _,_=>none
 | .field c b y=>match qg9 P c y,op1 T b with
  | some u,some ⟨true,i⟩=>match qrk P u.type i u.offset with
   | some e=>some (some (.one e),[])
   | none=>none
  | _,_=>none
 | .index c b t=>match qq4 P c (op1 T b) (opc T t) with
  | some e=>some (some (.one e),[])
  | none=>match qf4 P T o with
   | some h=>some (some h,[])
   | none=>none
 | .extract b t=>match qlH T b with
  | some (.tup i)=>match i[t]? with
   | some e=>some (some (.one e),[])
   | none=>none
  | _=>none
 | .call ⟨.builtin .len,args,K⟩=>match args.toList,K.toList with
  | [b],c :: _=>match P.underlying c with
   | some (.slice _)=>match opc T b with
    | some (.sl _ _ i _)=>some (some (.one ⟨false,[.int .i64 i]⟩),[])
    | some .nils=>some (some (.one ⟨false,[.int .i64 0]⟩),[])
    | _=>none
   | _=>match qf4 P T o with
    | some h=>some (some h,[])
    | none=>none
  | _,_=>none
 | .call ⟨.builtin .append,args,K⟩=>match args.toList,K.toList with
  | [M,b],[c,U]=>match Nat.beq c U,P.underlying c,look s f with
   | true,some (.slice l),none=>match nothing (opc T b) with
    | true=>match qDr (opc T M),sizeT P l with
     | some e,some _=>some (some (.one ⟨false,[e]⟩),[])
     | _,_=>none
    | false=>match qjr P s l (opc T M) (opc T b) with
     | some (O,i)=>some (some (.one ⟨false,[.sl f 0 O none]⟩),[(f,⟨l,i,sizeT P l⟩)])
     | none=>none
   | _,_,_=>none
  | _,_=>none
 | _=>match qf4 P T o with
  | some h=>some (some h,[])
  | none=>none
end Go.Ev
namespace Go.Ev
open Go Go.RowKit
section
variable {P:Program} {w0 w:World} {ρ:Ren} {σ:Hp} {T:Tm} {a:Act} {o:Oper}
theorem quX {v:AV} (h:HR w0 ρ σ w) (y:TR ρ T a) (z:qf4 P T o=some v):Res P w0 ρ o a w (some v) σ:=qfY h (qh2 y z)
theorem qfh {x:Operand} {v:AV} (h:o.op=.move x\/o.op=.assign x) (y:TR ρ T a) (z:qlH T x=some v):∃ u,v.rel ρ u/\∀ w,(execOp a.eval o).run P w=.ok (.value u) w:=
 ⟨_,qgh y z,fun w=>by rcases h with h | h <;> simp [execOp,h]⟩
theorem qfb {c x w:Operand} {b:Bool} {v:AV} (E:o.op=.pick c x w) (y:TR ρ T a) (z:opc T c=some (.bool b)) (G:qlH T (if b then x else w)=some v):∃ u,v.rel ρ u/\∀ h,(execOp a.eval o).run P h=.ok (.value u) h:=by
 have J:a.eval c=.bool b:=qaK y z;refine ⟨_,qgh y G,fun h=>?_⟩;cases b <;> simp [execOp,E,J,asBool]
def evP (P:Program) (T:Tm) (o:Oper):Option AV:=match o.op with
 | .move b=>qlH T b
 | .assign b=>qlH T b
 | .pick y b z=>match opc T y with
  | some (.bool true)=>qlH T b
  | some (.bool false)=>qlH T z
  | _=>none
 | .build c t=>match qwY T t.toList with
  | some G=>match qk9 P c G with
   | some x=>some (.one ⟨true,x⟩)
   | none=>none
  | none=>none
 | .indexAddr c b E=>match qdU P c (opc T b) (opc T E) with
  | some (f,h)=>some (qrA f h)
  | none=>none
 | .fieldAddr c b l=>match qg9 P c l,opc T b with
  | some i,some (.ptr f h)=>match sizeT P i.type with
   | some (_+1)=>some (qrA f (h+i.offset))
   | _=>none
  | _,_=>none
 | .alloc _=>none
 | .box _ _=>none
 | .load _ _=>none
 | .store _ _ _=>none
 | .buildSlice _ _ _=>none
 | .call _=>none
 | _=>qf4 P T o
theorem qzk {x:AV} (e:TR ρ T a) (b:evP P T o=some x):∃ v,x.rel ρ v/\∀ l,(execOp a.eval o).run P l=.ok (.value v) l:=by
 unfold evP at b;split at b
 ·rename_i f c;exact qfh (.inl c) e b
 ·rename_i f c;exact qfh (.inr c) e b
 ·rename_i M f V c
  split at b
  ·rename_i h;exact qfb c e h b
  ·rename_i h;exact qfb c e h b
  ·cases b
 ·rename_i i Z c
  split at b
  ·rename_i U J
   split at b
   ·rename_i aa w;cases b;exact qie c e J w
   ·cases b
  ·cases b
 ·rename_i i f O c
  split at b
  ·rename_i z y E;cases b;exact qef c e E
  ·cases b
 ·rename_i i f K c
  split at b
  ·rename_i ac z y t n
   split at b
   ·rename_i ab G;cases b;exact qeb c e t n G
   ·cases b
  ·cases b
 ·cases b
 ·cases b
 ·cases b
 ·cases b
 ·cases b
 ·cases b
 ·exact qh2 e b
theorem qoq {ao:Nat} {x:Option AV} {K:Hp} (e:HR w0 ρ σ w) (f:TR ρ T a) (b:qCL P T σ ao o=some (x,K)):Res P w0 ρ o a w x (K++σ):=by
 have aa:(match qf4 P T o with | some E=>some (some E,[]) | none=>none)=some (x,K)->Res P w0 ρ o a w x (K++σ):=fun b=>by
  split at b
  ·rename_i E i;cases b;exact quX e f i
  ·cases b
 unfold qCL at b;split at b
 ·rename_i h c
  split at b
  ·rename_i E i;cases b;exact qfY e (qfh (.inl c) f i)
  ·cases b
 ·rename_i h c
  split at b
  ·rename_i E i;cases b;exact qfY e (qfh (.inr c) f i)
  ·cases b
 ·rename_i ae h v c
  split at b
  ·rename_i G
   split at b
   ·rename_i E i;cases b;exact qfY e (qfb c f G i)
   ·cases b
  ·rename_i G
   split at b
   ·rename_i E i;cases b;exact qfY e (qfb c f G i)
   ·cases b
  ·cases b
 ·rename_i m c
  split at b
  ·rename_i v n r;cases b;exact qtu c e n r
  ·cases b
 ·rename_i m h c
  split at b
  ·rename_i v n r;cases b;exact qyC c e f n r
  ·cases b
 ·rename_i m ab c
  split at b
  ·rename_i an ad
   split at b
   ·rename_i V r;cases b;exact qfY e (qie c f ad r)
   ·cases b
  ·cases b
 ·rename_i m az ab c
  split at b
  ·rename_i i u r
   split at b
   ·rename_i M
    have M:ab=#[]:=by
     cases ab;simp only at M;subst M;rfl
    subst M;split at b
    ·rename_i ac z;cases b;exact qht c e u z r
    ·cases b
   ·split at b
    ·rename_i an ad
     split at b
     ·rename_i ae G;cases b;exact qhT c e f u ad G r
     ·cases b
    ·cases b
  ·cases b
 ·rename_i m h c
  split at b
  ·rename_i U O l
   split at b
   ·rename_i v n;cases b;exact qtW c e f l n
   ·cases b
  ·cases b
 ·rename_i m h ax c
  split at b
  ·rename_i U O v ac l n z
   split at b
   ·rename_i ay ai
    split at b
    ·rename_i y
     simp only [Qh] at y;have ag:=QG y.1;have aj:=QX y.2;cases b;exact qrV c e f l n ai (by rw [z,ag]) aj
    ·cases b
   ·cases b
  ·cases b
 ·rename_i m h af c
  split at b
  ·rename_i U O i;cases b;exact qfY e (qef c f i)
  ·cases b
 ·rename_i m h ah c
  split at b
  ·rename_i aq U O Z l
   split at b
   ·rename_i ac z;cases b;exact qfY e (qeb c f Z l z)
   ·cases b
  ·cases b
 ·rename_i m h ah c
  split at b
  ·rename_i aq V Z l
   split at b
   ·rename_i v n;cases b;exact qqV c e f Z l n
   ·cases b
  ·cases b
 ·rename_i m h af c
  split at b
  ·rename_i v n;cases b;exact qti c e f n
  ·exact aa b
 ·rename_i h af c
  split at b
  ·rename_i V l
   split at b
   ·rename_i v n;cases b;exact qmj c e f l n
   ·cases b
  ·cases b
 ·rename_i args J c
  split at b
  ·rename_i h m aw t s
   have t:args=#[h]:=by
    cases args;simp only at t;subst t;rfl
   subst t;have s:J[0]?=some m:=by
    cases J;simp only at s;subst s;rfl
   split at b
   ·rename_i i u
    split at b
    ·rename_i U O V ae l;cases b;exact qx6 c e f s u l
    ·rename_i l;cases b;exact qlX c e f s u l
    ·cases b
   ·exact aa b
  ·cases b
 ·rename_i args J c
  split at b
  ·rename_i am h m ak t s
   have t:args=#[am,h]:=by
    cases args;simp only at t;subst t;rfl
   have s:J=#[m,ak]:=by
    cases J;simp only at s;subst s;rfl
   subst t;subst s;split at b
   ·rename_i i y u r
    have y:=QG y;subst y;split at b
    ·rename_i ar
     split at b
     ·rename_i h ac ap z;cases b;exact qmI c e f u z ar ap
     ·cases b
    ·split at b
     ·rename_i av V au;cases b;exact qo6 c e f u au r
     ·cases b
   ·cases b
  ·cases b
 ·exact aa b
end
end Go.Ev
namespace Go.Ev
open Go Go.RowKit
theorem qeu {h:Type}:∀ (d t:List (Nat×h)) (k:Nat),look (d++t) k=match look d k with | some x=>some x | none=>look t k
 | [],t,k=>rfl
 | (j,x) :: d,t,k=>by
  rw [List.cons_append,qba,qba];split
  ·rfl
  ·exact qeu d t k
structure SR (nt:Nat) (ρ:Ren) (T:Tm) (a:Act):Prop where
 tr:TR ρ T a
 size:a.tmps.size=nt
 defers:a.defers=[]
theorem SR.ext {y:Nat} {z E:Ren} {T:Tm} {a:Act} (h:SR y z T a) (e:Ext z E):SR y E T a:=⟨h.tr.ext e,h.size,h.defers⟩
theorem SR.put {y:Nat} {z:Ren} {T:Tm} {a:Act} (h:SR y z T a) {d:Nat} (M:d<y) {x:AV} {v:Value} (K:x.rel z v):SR y z ((d,some x) :: T) (a.put (some d) v):=by
 refine ⟨fun E G e=>?_,by simp [Act.put,h.size],h.defers⟩;rw [qba] at e;have J:=h.size;split at e
 ·rename_i t
  subst t;cases e;have:(a.put (some d) v).tmps.getD d undef=v:=by simp [Act.put,Array.getD_eq_getD_getElem?,J,M]
  rw [this];exact K
 ·rename_i t
  have:(a.put (some d) v).tmps.getD E undef=a.tmps.getD E undef:=by simp [Act.put,Array.getD_eq_getD_getElem?,Array.getElem?_setIfInBounds_ne t]
  rw [this];exact h.tr E G e
theorem SR.drop {y:Nat} {z:Ren} {T:Tm} {a:Act} (h:SR y z T a) (d:Nat) (v:Value):SR y z ((d,none) :: T) (a.put (some d) v):=by
 refine ⟨fun t G e=>?_,by simp [Act.put,h.size],h.defers⟩;rw [qba] at e;split at e
 ·cases e
 ·rename_i E
  have:(a.put (some d) v).tmps.getD t undef=a.tmps.getD t undef:=by simp [Act.put,Array.getD_eq_getD_getElem?,Array.getElem?_setIfInBounds_ne E]
  rw [this];exact h.tr t G e
def qvF (ops:Array Oper) (T:Tm) (o:Oper):Option Bool:=match o.guard with
 | none=>some true
 | some (j,d)=>match ops[j]? with
  | some h=>match h.dst with
   | some y=>match opc T (.tmp y) with
    | some (.bool b)=>some (b == d)
    | _=>none
   | none=>none
  | none=>none
theorem qgw {y:Ren} {T:Tm} {a:Act} (J:TR y T a) {ops:Array Oper} {o:Oper} {b:Bool} (c:qvF ops T o=some b):Region.wanted o (yielded ops a.tmps)=b:=by
 unfold qvF at c;unfold Region.wanted;split at c
 ·rename_i j;rw [j];cases c;rfl
 ·rename_i G Z j
  rw [j];split at c
  ·rename_i V z
   split at c
   ·rename_i h O
    split at c
    ·rename_i e E
     cases c;have d:a.tmps.getD h undef=.bool e:=qaK J E;have M:a.tmps[h]?=some (.bool e):=by
      rw [Array.getD_eq_getD_getElem?] at d;cases u:a.tmps[h]? with
      | none=>rw [u] at d;cases d
      | some U=>rw [u] at d;exact congrArg some d
     have K:yielded ops a.tmps G=some e:=(by simp [yielded,z,O,M]);simp only [K];rfl
    ·cases c
   ·cases c
  ·cases c
def qwu (o:Oper):Option (FuncId×List Operand):=match o.op with
 | .call ⟨.value (.func f),args,_⟩=>some (f,args.toList)
 | _=>none
def qws (T:Tm):List Operand->Option (List A1)
 | []=>some []
 | x :: h=>match op1 T x,qws T h with
  | some v,some l=>some (v :: l)
  | _,_=>none
theorem qjZ {t:Ren} {T:Tm} {a:Act} (v:TR t T a):∀ {l:List Operand} {h:List A1},qws T l=some h->R1 t h (l.map a.eval)
 | [],h,e=>by cases e;rfl
 | x :: E,h,e=>by
  simp only [qws] at e;split at e
  ·rename_i J G z y
   cases e;exact ⟨_,_,rfl,qc0 v z,qjZ v y⟩
  ·cases e
def putA (y:Nat) (h:Option Tmp) (v:AV):Option Tm:=match h with
 | none=>some []
 | some d=>match Nat.blt d y with
  | true=>some [(d,some v)]
  | false=>none
theorem SR.putA {h:Nat} {y:Ren} {T e:Tm} {a:Act} (E:SR h y T a) {z:Option Tmp} {x:AV} {v:Value} (d:putA h z x=some e) (G:x.rel y v):SR h y (e++T) (a.put z v):=by
 unfold Ev.putA at d;split at d
 ·cases d;exact E
 ·split at d
  ·rename_i K J;cases d;exact E.put (QX J) G
  ·cases d
abbrev qdD:=FuncId->List A1->Hp->Nat->Option (AV×Hp)
def qiw (G:qdD) (P:Program) (v:Nat) (ops:Array Oper) (T:Tm) (o:Hp) (i y:Nat):Option (Tm×Hp):=match ops[i]? with
 | none=>none
 | some d=>match qvF ops T d with
  | none=>none
  | some false=>match d.dst with
   | some E=>some ([(E,none)],[])
   | none=>some ([],[])
  | some true=>match qwu d with
   | some (z,args)=>match qws T args with
    | some J=>match G z J o y with
     | some (f,e)=>match putA v d.dst f with
      | some h=>some (h,e)
      | none=>none
     | none=>none
    | none=>none
   | none=>match qCL P T o y d with
    | some (some f,e)=>match putA v d.dst f with
     | some h=>some (h,e)
     | none=>none
    | some (none,e)=>match d.dst with
     | none=>some ([],e)
     | some _=>none
    | none=>none
def qkQ (P:Program) (w0:World) (K:qdD):Prop:=∀ f z h M E G,K f z h M=some (E,G)->(∀ args e,(callFunc f args).run P e=.ok (.enter f args) e)/\∀ u e w,HR w0 u h e->R1 u z w->
 Calls P f w.toArray e fun J O=>∃ y v,J=.returned y/\Ext u v/\E.rel v y/\HR w0 v (G++h) O
section
variable {P:Program} {w0:World} {call:qdD} {nt:Nat} {ops:Array Oper}
theorem qkb (ar:qkQ P w0 call) {T e:Tm} {K U:Hp} {i ad:Nat} (d:qiw call P nt ops T K i ad=some (e,U)) {o:Ren} {a:Act} {w:World} (f:SR nt o T a) (z:HR w0 o K w) {Q:Exit->Act->World->Prop} {V:Act->World->Prop}
  (v:∀ h ac w',Ext o h->SR nt h (e++T) ac->HR w0 h (U++K) w'->V ac w'):wpOp P ops Q i V a w:=by
 unfold qiw at d;split at d
 ·cases d
 ·rename_i ae au
  unfold wpOp;rw [au];simp only;split at d
  ·cases d
  ·rename_i O
   rw [qgw f.tr O];simp only [Bool.false_eq_true,if_false];split at d
   ·rename_i ah G
    cases d;rw [G];exact v o _ _ (Ext.refl _) (f.drop ah undef) z
   ·rename_i G
    cases d;rw [G];exact v o _ _ (Ext.refl _) f z
  ·rename_i O
   rw [qgw f.tr O];simp only [if_true];refine .inl ?_;unfold Oper.wp;split at d
   ·rename_i aa args J
    split at d
    ·rename_i ak an
     split at d
     ·rename_i ab af av
      split at d
      ·rename_i am M
       cases d;obtain ⟨aq,aw⟩:=ar aa ak K ad ab U av;unfold qwu at J;split at J
       ·rename_i ax ao az ai
        cases J;have ap:(execOp a.eval ae).run P w=.ok (.enter aa (ao.toList.map a.eval).toArray) w:=by
         simp only [execOp,ai,resolve,Deferred.ofValue,Act.eval,invoke,Sem.run_bind,Sem.run_pure,Result.andThen_ok,aq];simp;exact Array.ext' (by simp)
        rw [ap];refine (aw o w _ z (qjZ f.tr an)).mono ?_;rintro ay w' ⟨aj,h,rfl,u,n,E⟩;exact v h _ _ u ((f.ext u).putA M n) E
       ·cases J
      ·cases d
     ·cases d
    ·cases d
   ·split at d
    ·rename_i ab af Z
     split at d
     ·rename_i am M
      cases d;obtain ⟨ag,w',h,u,n,E,aj,rfl,y⟩:=qoq z f.tr Z;rw [u];exact v h _ _ n ((f.ext n).putA M y) E
     ·cases d
    ·rename_i af Z
     split at d
     ·rename_i G
      cases d;obtain ⟨ag,w',h,u,n,E,y⟩:=qoq z f.tr Z;have y:ag=.skip:=y;subst y;rw [u];show V (a.put ae.dst undef) w';rw [G];exact v h _ _ n (f.ext n) E
     ·cases d
    ·cases d
def qun (E:qdD) (P:Program) (z:Nat) (ops:Array Oper) (T:Tm) (y:Hp) (G:Nat):List Nat->Tm->Hp->Option (Tm×Hp)
 | [],e,h=>some (e,h)
 | i :: rest,e,h=>match qiw E P z ops (e++T) (h++y) i (G+i) with
  | some (K,J)=>qun E P z ops T y G rest (K++e) (J++h)
  | none=>none
theorem qn0 (aa:qkQ P w0 call) {T:Tm} {M:Hp} {ag:Nat} {Z:Ren} {Q:Exit->Act->World->Prop} {V:Tm} {ab:Hp} (U:∀ z G w',Ext Z z->SR nt z (V++T) G->HR w0 z (ab++M) w'->Q .normal G w') :
  ∀ (l:List Nat) (e:Tm) (E:Hp),qun call P nt ops T M ag l e E=some (V,ab)->∀ (h:Ren) (a:Act) (w:World),Ext Z h->SR nt h (e++T) a->HR w0 h (E++M) w->wpOps P ops Q l a w
 | [],e,E,y,h,a,w,O,J,K=>by
  cases y;exact U h a w O J K
 | i :: rest,e,E,y,h,a,w,O,J,K=>by
  simp only [qun] at y;split at y
  ·rename_i ai ah ac
   rw [wpOps_cons];refine qkb aa ac J K fun z G w' ad af ae=>?_
   exact qn0 aa U rest _ _ y z G w' (O.trans ad) (by rw [Ze];exact af) (by rw [Ze];exact ae)
  ·cases y
def maskArr (n m:Nat):Array Bool:=((List.range n).map fun h=>Nat.testBit m h).toArray
theorem qkV (n:Nat):maskArr n 0=Array.replicate n false:=by
 unfold maskArr;apply Array.ext';simp only [Nat.zero_testBit,Array.toList_replicate];rw [List.map_const',List.length_range]
theorem qhc (n m i:Nat):maskArr n (m ||| 2 ^ i)=(maskArr n m).setIfInBounds i true:=by
 unfold maskArr;apply Array.ext
 ·simp
 ·intro h j y
  have z:h<n:=by simpa using j
  simp only [List.getElem_toArray,Zt,List.getElem_range,Nat.testBit_or,Nat.testBit_two_pow,Array.getElem_setIfInBounds];by_cases e:i=h
  ·simp [e]
  ·simp [e]
def qCT:Option AV->Option AV->Bool
 | some h,some x=>h.eqb x
 | none,none=>true
 | _,_=>false
theorem qzC {x y:Option AV} (h:qCT x y=true):x=y:=by
 cases x <;> cases y <;> simp only [qCT] at h
 ·rfl
 ·cases h
 ·cases h
 ·rw [AV.qEQ h]
def qDJ:Option Nat->Option Nat->Bool
 | some h,some x=>Nat.beq h x
 | none,none=>true
 | _,_=>false
def aoB (x h:AO):Bool:=Nat.beq x.t h.t&&(cellsB x.c h.c&&qDJ x.s h.s)
theorem qz8 {x s:AO} (h:aoB x s=true):x=s:=by
 obtain ⟨J,K,y⟩:=x;obtain ⟨z,M,t⟩:=s;simp only [aoB,Qh] at h;have G:J=z:=QG h.1;have E:y=t:=by
  have c:=h.2.2;cases y <;> cases t <;> simp only [qDJ] at c
  ·rfl
  ·cases c
  ·cases c
  ·rw [QG c]
 rw [G,qEE h.2.1,E]
def sameAt {h:Type} (z:h->h->Bool) (t y:List (Nat×h)):List (Nat×h)->Bool
 | []=>true
 | (k,_) :: G=>(match look t k,look y k with
  | some x,some E=>z x E
  | none,none=>true
  | _,_=>false)&&sameAt z t y G
theorem qey {h:Type} {K:h->h->Bool} (E:∀ x J,K x J=true->x=J) {z G:List (Nat×h)}:∀ {l:List (Nat×h)},sameAt K z G l=true->∀ k,(look l k).isSome=true->look z k=look G k
 | [],_,k,e=>by cases e
 | (j,x) :: V,e,k,y=>by
  simp only [sameAt,Qh] at e;rw [qba] at y;split at y
  ·rename_i U
   subst U;have t:=e.1;split at t
   ·rename_i O M v u;rw [v,u,E O M t]
   ·rename_i v u;rw [v,u]
   ·cases t
  ·exact qey E e.2 k y
def qwo {z:Type} (E:z->z->Bool) (h y:List (Nat×z)):Bool:=sameAt E h y h&&sameAt E h y y
theorem qin {G:Type} {M:G->G->Bool} (K:∀ x y,M x y=true->x=y) {h z:List (Nat×G)} (E:qwo M h z=true) (k:Nat):look h k=look z k:=by
 simp only [qwo,Qh] at E;cases J:look h k with
 | some x=>rw [<- J];exact qey K E.1 k (by rw [J];rfl)
 | none=>
  cases O:look z k with
  | some y=>rw [<- J,<- O];exact qey K E.2 k (by rw [O];rfl)
  | none=>rfl
theorem SR.same {t:Ren} {T x:Tm} {a:Act} (h:SR nt t T a) (e:∀ k,look T k=look x k):SR nt t x a:=⟨fun y z E=>h.tr y z ((e y).trans E),h.size,h.defers⟩
theorem HR.same {y:Ren} {o z:Hp} {w:World} (h:HR w0 y o w) (e:∀ k,look o k=look z k):HR w0 y z w:=⟨h.below,fun b k J=>by rw [<- e b];exact h.dom b k J,fun b E G=>h.obj b E ((e b).trans G),h.inj⟩
theorem qeJ {y:Type} {d h t:List (Nat×y)} (e:∀ k,look d k=look h k) (k:Nat):look (d++t) k=look (h++t) k:=by rw [qeu,qeu,e k]
abbrev Sts:=List (Nat×Tm×Hp)
def qBZ:Sts->Nat->Tm->Hp->Option Sts
 | [],m,e,h=>some [(m,e,h)]
 | (y,z,E) :: t,m,e,h=>match Nat.beq m y with
  | true=>match qwo qCT z e&&qwo aoB E h with
   | true=>some ((y,z,E) :: t)
   | false=>none
  | false=>match qBZ t m e h with
   | some G=>some ((y,z,E) :: G)
   | none=>none
def Cov (L:Sts) (m:Nat) (e:Tm) (z:Hp):Prop:=∃ k y,(m,k,y)∈L/\(∀ h,look e h=look k h)/\∀ h,look z h=look y h
theorem Cov.sub {L L':Sts} (J:∀ x∈L,x∈L') {m:Nat} {e:Tm} {h:Hp} (k:Cov L m e h):Cov L' m e h:=by
 obtain ⟨y,z,E,G⟩:=k;exact ⟨y,z,J _ E,G⟩
theorem qm1:∀ {L L':Sts} {m:Nat} {e:Tm} {x:Hp},qBZ L m e x=some L'->Cov L' m e x/\∀ t∈L,t∈L'
 | [],L',m,e,x,h=>by
  cases h;exact ⟨⟨e,x,QA.2 rfl,fun _=>rfl,fun _=>rfl⟩,fun t k=>by cases k⟩
 | (V,J,M) :: aa,L',m,e,x,h=>by
  simp only [qBZ] at h;split at h
  ·rename_i E
   have E:=QG E;subst E;split at h
   ·rename_i z
    simp only [Qh] at z;cases h;exact ⟨⟨J,M,QY,fun y=>(qin (fun t O=>qzC) z.1 y).symm,fun y=>(qin (fun t O=>qz8) z.2 y).symm⟩,fun t k=>k⟩
   ·cases h
  ·split at h
   ·rename_i Z U
    cases h;obtain ⟨G,K⟩:=qm1 U;refine ⟨G.sub fun t k=>QZ _ k,fun t k=>?_⟩;rcases QI.1 k with rfl | k
    ·exact QY
    ·exact QZ _ (K t k)
   ·cases h
def qnQ (G:qdD) (P:Program) (E:Nat) (ops:Array Oper) (T:Tm) (z:Hp) (J:Nat) (m:Nat) (e:Tm) (y:Hp):List Nat->Sts->Option Sts
 | [],h=>some h
 | i :: rest,h=>match qiw G P E ops (e++T) (y++z) i (J+i) with
  | some (M,K)=>match qBZ h (m ||| 2 ^ i) (M++e) (K++y) with
   | some L=>qnQ G P E ops T z J m e y rest L
   | none=>none
  | none=>none
theorem qj7 {T:Tm} {K:Hp} {M m:Nat} {e:Tm} {E:Hp}:∀ {l:List Nat} {L L':Sts},qnQ call P nt ops T K M m e E l L=some L'->(∀ i∈l,∃ y x,qiw call P nt ops (e++T) (E++K) i (M+i)=some (y,x)/\Cov L' (m ||| 2 ^ i) (y++e) (x++E))/\∀ j∈L,j∈L'
 | [],L,L',h=>by
  cases h;exact ⟨fun i O=>by (cases O),fun j z=>z⟩
 | i :: rest,L,L',h=>by
  simp only [qnQ] at h;split at h
  ·rename_i y x U
   split at h
   ·rename_i ad aa
    obtain ⟨V,ac⟩:=qm1 aa;obtain ⟨ab,J⟩:=qj7 h;refine ⟨fun Z G=>?_,fun j z=>J j (ac j z)⟩;rcases QI.1 G with rfl | G
    ·exact ⟨y,x,U,V.sub J⟩
    ·exact ab Z G
   ·cases h
  ·cases h
def qvO (ops:Array Oper) (i:Nat):Bool:=Region.noSelect ops&&Region.free .any ops (Array.replicate ops.size false) i
theorem qpS {i:Nat} (j:qvO ops i=true) (J:Array Bool):Region.noSelect ops=true/\Region.free .any ops J i=true:=by
 unfold qvO at j;rw [Qh] at j;refine ⟨j.1,?_⟩;have h:=j.2;unfold Region.free at h |-;split at h
 ·cases h
 ·rename_i M K
  rw [QR] at h |-;intro y z;have e:=h y z;have G:y<ops.size:=QW.1 z;have E:(Array.replicate ops.size false).getD y true=false:=by simp [Array.getD_eq_getD_getElem?,G]
  rw [E] at e;simp only [Bool.or_false,Zp] at e |-;rcases e with e | e
  ·exact .inl (.inl e)
  ·exact .inr e
def qeC (P:Program) (h:Nat) (ops:Array Oper) (T:Tm) (i:Nat):Option Tm:=match ops[i]? with
 | none=>none
 | some d=>match qvO ops i with
  | false=>none
  | true=>match qvF ops T d with
   | none=>none
   | some false=>match d.dst with
    | some o=>some [(o,none)]
    | none=>some []
   | some true=>match evP P T d with
    | some v=>putA h d.dst v
    | none=>none
theorem qmX {T e:Tm} {i:Nat} (d:qeC P nt ops T i=some e) {G:Ren} {a:Act} (u:SR nt G T a):∃ o v,ops[i]?=some o/\qvO ops i=true/\Yields P ops o v a/\SR nt G (e++T) (a.put o.dst v):=by
 unfold qeC at d;split at d
 ·cases d
 ·rename_i o y
  split at d
  ·cases d
  ·rename_i z
   split at d
   ·cases d
   ·rename_i h
    have h:=qgw u.tr h;split at d
    ·rename_i K E
     cases d;exact ⟨o,undef,y,z,.inr ⟨h,rfl⟩,by rw [E];exact u.drop K undef⟩
    ·rename_i E
     cases d;exact ⟨o,undef,y,z,.inr ⟨h,rfl⟩,by rw [E];exact u⟩
   ·rename_i h
    have h:=qgw u.tr h;split at d
    ·rename_i v O
     obtain ⟨M,J,U⟩:=qzk u.tr O;exact ⟨o,M,y,z,.inl ⟨h,U⟩,u.putA d J⟩
    ·cases d
def qfg (P:Program) (h:Nat) (ops:Array Oper) (T:Tm):List Nat->Option (Nat×Tm)
 | []=>none
 | i :: r=>match qeC P h ops T i with
  | some e=>some (i,e)
  | none=>qfg P h ops T r
theorem qfV {T:Tm}:∀ {l:List Nat} {i:Nat} {e:Tm},qfg P nt ops T l=some (i,e)->i∈l/\qeC P nt ops T i=some e
 | [],i,e,h=>by cases h
 | j :: G,i,e,h=>by
  simp only [qfg] at h;split at h
  ·rename_i E y
   cases h;exact ⟨QY,y⟩
  ·obtain ⟨r,z⟩:=qfV h
   exact ⟨QZ _ r,z⟩
def qcZ (ops:Array Oper) (m:Nat):Nat->List Oper->List Nat
 | _,[]=>[]
 | i,o :: h=>match Nat.testBit m i with
  | true=>qcZ ops m (i+1) h
  | false=>match o.after.toList.all fun e=>!Region.binds .any e||(Nat.blt e.on ops.size&&Nat.testBit m e.on) with
   | true=>i :: qcZ ops m (i+1) h
   | false=>qcZ ops m (i+1) h
theorem qgP (n m i:Nat) (d:Bool):(maskArr n m).getD i d=if i<n then Nat.testBit m i else d:=by
 unfold maskArr;rw [Array.getD_eq_getD_getElem?,List.getElem?_toArray,Za];split
 ·rename_i h;rw [List.getElem?_range h];rfl
 ·rename_i h;rw [List.getElem?_eq_none (by simpa using h)];rfl
theorem qgN {m:Nat}:∀ (l:List Oper) (i:Nat),(∀ j,l[j]?=ops[i+j]?)->∀ e,e∈qcZ ops m i l↔i<=e/\e∈Region.ready .any ops (maskArr ops.size m)
 | [],i,z,e=>by
  constructor
  ·intro o;cases o
  ·rintro ⟨k,h⟩
   obtain ⟨-,G,J,-⟩:=mem_ready.1 h;have:=z (e - i);rw [show i+(e - i)=e by omega,J] at this;cases this
 | G :: V,i,z,e=>by
  have O:=qgN (m:=m) V (i+1) (fun j=>by
   have:=z (j+1);rw [List.getElem?_cons_succ] at this;rw [this]
   congr 1
   omega) e
  have J:ops[i]?=some G:=(z 0).symm;have Z:i<ops.size:=(Qb.1 J).1;have K:i∈Region.ready .any ops (maskArr ops.size m)↔Nat.testBit m i=false/\(G.after.toList.all fun t=>!Region.binds .any t||(Nat.blt t.on ops.size&&Nat.testBit m t.on))=true:=by
   rw [mem_ready,qgP,Qk Z];refine and_congr_right fun ad=>?_
   rw [J,QR];constructor
   ·rintro ⟨ab,aa,o⟩ t M
    cases aa;cases y:Region.binds .any t
    ·rfl
    ·have k:=o t (Array.mem_toList_iff.1 M) y
     rw [qgP] at k;split at k
     ·rename_i h
      rw [k];have:Nat.blt t.on ops.size=true:=Nat.ble_eq_true_of_le h;rw [this];rfl
     ·cases k
   ·intro o
    refine ⟨G,rfl,fun t M y=>?_⟩;have k:=o t (Array.mem_toList_iff.2 M);rw [y] at k;simp only [Bool.not_true,Bool.false_or,Qh] at k;have U:t.on<ops.size:=QX k.1;rw [qgP,Qk U];exact k.2
  have ac:∀ e,i+1<=e->i≠e:=fun e o t=>by omega
  simp only [qcZ];split
  ·rename_i y
   rw [O];constructor
   ·rintro ⟨k,h⟩;exact ⟨by omega,h⟩
   ·rintro ⟨k,h⟩
    refine ⟨?_,h⟩;rcases Nat.lt_or_ge i e with o | o
    ·exact o
    ·obtain rfl:e=i:=by omega
     rw [(K.1 h).1] at y;cases y
  ·rename_i y
   split
   ·rename_i E
    rw [QI,O];constructor
    ·rintro (rfl | ⟨k,h⟩)
     ·exact ⟨Qa _,K.2 ⟨y,E⟩⟩
     ·exact ⟨by omega,h⟩
    ·rintro ⟨k,h⟩
     rcases Nat.lt_or_ge i e with o | o
     ·exact .inr ⟨o,h⟩
     ·exact .inl (by omega)
   ·rename_i E
    rw [O];constructor
    ·rintro ⟨k,h⟩;exact ⟨by omega,h⟩
    ·rintro ⟨k,h⟩
     refine ⟨?_,h⟩;rcases Nat.lt_or_ge i e with o | o
     ·exact o
     ·obtain rfl:e=i:=by omega
      rw [(K.1 h).2] at E;cases E
theorem qkr {m:Nat} (k:Nat):k∈qcZ ops m 0 ops.toList↔k∈Region.ready .any ops (maskArr ops.size m):=by
 rw [qgN ops.toList 0 (fun h=>by rw [QS,QV])];simp
def qBW (E:qdD) (P:Program) (t:Nat) (ops:Array Oper) (T:Tm) (y:Hp) (G:Nat):Sts->Sts->Option Sts
 | [],h=>some h
 | (m,e,J) :: K,h=>match qcZ ops m 0 ops.toList with
  | []=>none
  | i :: r=>match qfg P t ops (e++T) (i :: r) with
   | some (j,L)=>match qBZ h (m ||| 2 ^ j) (L++e) J with
    | some z=>qBW E P t ops T y G K z
    | none=>none
   | none=>match qnQ E P t ops T y G m e J (i :: r) h with
    | some z=>qBW E P t ops T y G K z
    | none=>none
def Up (J:qdD) (P:Program) (z:Nat) (ops:Array Oper) (T:Tm) (G:Hp) (K:Nat) (L':Sts) (m:Nat) (e:Tm) (y:Hp):Prop:=
 (∃ i h,i∈Region.ready .any ops (maskArr ops.size m)/\qeC P z ops (e++T) i=some h/\Cov L' (m ||| 2 ^ i) (h++e) y)\/
 (Region.ready .any ops (maskArr ops.size m)≠[]/\∀ j∈Region.ready .any ops (maskArr ops.size m),∃ h E,qiw J P z ops (e++T) (y++G) j (K+j)=some (h,E)/\Cov L' (m ||| 2 ^ j) (h++e) (E++y))
theorem Up.sub {T:Tm} {z:Hp} {E:Nat} {L L':Sts} (G:∀ x∈L,x∈L') {m:Nat} {e:Tm} {y:Hp} (k:Up call P nt ops T z E L m e y):Up call P nt ops T z E L' m e y:=by
 rcases k with ⟨U,j,h,i,M⟩ | ⟨h,i⟩
 ·exact .inl ⟨U,j,h,i,M.sub G⟩
 ·refine .inr ⟨h,fun K J=>?_⟩
  obtain ⟨j,O,Z,V⟩:=i K J;exact ⟨j,O,Z,V.sub G⟩
theorem ql8 {T:Tm} {aa:Hp} {ab:Nat}:∀ {S L L':Sts},qBW call P nt ops T aa ab S L=some L'->(∀ m e y,(m,e,y)∈S->Up call P nt ops T aa ab L' m e y)/\∀ j∈L,j∈L'
 | [],L,L',h=>by
  cases h;exact ⟨fun m e y ac=>by (cases ac),fun j k=>k⟩
 | (m,e,y) :: ao,L,L',h=>by
  simp only [qBW] at h;split at h
  ·cases h
  ·rename_i Z ag ad
   have E:∀ x,x∈Z :: ag↔x∈Region.ready .any ops (maskArr ops.size m):=fun x=>by rw [<- ad];exact qkr x
   split at h
   ·rename_i t U an
    obtain ⟨ak,aj⟩:=qfV an;split at h
    ·rename_i ah G
     obtain ⟨J,O⟩:=qm1 G;obtain ⟨M,r⟩:=ql8 h;refine ⟨fun z K V i=>?_,fun j k=>r j (O j k)⟩;rcases QI.1 i with i | i
     ·cases i
      exact .inl ⟨t,U,(E t).1 ak,aj,J.sub r⟩
     ·exact M z K V i
    ·cases h
   ·split at h
    ·rename_i ah G
     obtain ⟨J,O⟩:=qj7 G;obtain ⟨M,r⟩:=ql8 h;refine ⟨fun z K V i=>?_,fun j k=>r j (O j k)⟩;rcases QI.1 i with i | i
     ·cases i
      refine .inr ⟨fun e=>?_,fun t ae=>?_⟩
      ·have:=(E Z).1 QY
       rw [e] at this;cases this
      ·obtain ⟨U,af,am,ai⟩:=J t ((E t).2 ae)
       exact ⟨U,af,am,ai.sub r⟩
     ·exact M z K V i
    ·cases h
def qlz (z:qdD) (P:Program) (y:Nat) (ops:Array Oper) (T:Tm) (h:Hp) (E:Nat):Nat->Sts->Option (Tm×Hp)
 | 0,[(m,e,K)]=>match qcZ ops m 0 ops.toList with
  | []=>some (e,K)
  | _ :: _=>none
 | 0,_=>none
 | k+1,G=>match qBW z P y ops T h E G [] with
  | some J=>qlz z P y ops T h E k J
  | none=>none
theorem qg8 (Z:qkQ P w0 call) {T:Tm} {O:Hp} {aA:Nat} {ah:Ren} {Q:Exit->Act->World->Prop} {af:Tm} {aj:Hp} (J:∀ c a w,¬Q (.panic c) a w) (K:∀ v y w',Ext ah v->SR nt v (af++T) y->HR w0 v (aj++O) w'->Q .normal y w') :
  ∀ (k:Nat) (S:Sts),qlz call P nt ops T O aA k S=some (af,aj)->∀ (m:Nat) (e:Tm) (o:Hp),(m,e,o)∈S->∀ (j:Ren) (a:Act) (w:World),Ext ah j->SR nt j (e++T) a->HR w0 j (o++O) w->wpAny P .any ops Q k (maskArr ops.size m) a w
 | 0,S,h,m,e,o,ae,j,a,w,E,x,z=>by
  unfold qlz at h;split at h
  ·rename_i aG ai aq
   split at h
   ·rename_i G
    cases h;cases QA.1 ae;refine ⟨?_,K j a w E x z⟩;cases aD:Region.ready .any ops (maskArr ops.size m) with
    | nil=>rfl
    | cons i aJ=>
     have:i∈qcZ ops m 0 ops.toList:=(qkr i).2 (by rw [aD];exact QY);rw [G] at this;cases this
   ·cases h
  ·cases h
  ·rename_i aF;cases aF
 | k+1,S,h,m,e,o,ae,j,a,w,E,x,z=>by
  simp only [qlz] at h;split at h
  ·rename_i ag an
   obtain ⟨ar,-⟩:=ql8 an;rcases ar m e o ae with ⟨aI,ai,aa,ad,V,U,M,ab,ac⟩ | ⟨ax,ay⟩
   ·obtain ⟨aK,aH,az,ap,aB,av⟩:=qmX ad x
    obtain ⟨au,aw⟩:=qpS ap (maskArr ops.size m);refine wpAny_take az au aw (by simpa using aa) (fun c a w ao=>absurd ao (J c _ _)) aB ?_;rw [<- qhc];refine qg8 Z J K k ag h _ V U M j _ w E (SR.same av fun i=>?_) (HR.same z fun i=>?_)
    ·rw [<- Ze];exact qeJ ab i
    ·exact qeJ ac i
   ·refine ⟨fun G=>absurd G ax,fun am ak=>?_⟩
    obtain ⟨ai,aq,aE,V,U,M,ab,ac⟩:=ay am ak;refine qkb Z aE x z fun v y w' aa ad aC=>?_
    rw [<- qhc];refine qg8 Z J K k ag h _ V U M v y w' (E.trans aa) (SR.same ad fun i=>?_) (HR.same aC fun i=>?_)
    ·rw [<- Ze];exact qeJ ab i
    ·rw [<- Ze];exact qeJ ac i
  ·cases h
end
end Go.Ev
namespace Go.Ev
open Go Go.RowKit
inductive Ex where
 | normal
 | exit (id:Nat)
 | ret
def Ex.to:Ex->Exit
 | .normal=>.normal
 | .exit h=>.exit h
 | .ret=>.ret
structure Fin where
 ex:Ex
 T:Tm
 d:Hp
 c:Nat
def qaP (x:qdD) (P:Program) (z:Nat) (y:Hp) (p:Nat):Nat->Code->Tm->Hp->Nat->Option Fin
 | 0,_,_,_,_=>none
 | k+1,.skip,h,d,c=>some ⟨.normal,h,d,c⟩
 | k+1,.label _,h,d,c=>some ⟨.normal,h,d,c⟩
 | k+1,.region _ ops false,h,d,c=>match qun x P z ops h (d++y) ((p*4096+c)*64) (List.range ops.size) [] [] with
  | some (e,K)=>some ⟨.normal,e++h,K++d,c+1⟩
  | none=>none
 | k+1,.region _ ops true,h,d,c=>match P.follows .mixedOrders,qlz x P z ops h (d++y) ((p*4096+c)*64) ops.size [(0,[],[])] with
  | true,some (e,K)=>some ⟨.normal,e++h,K++d,c+1⟩
  | _,_=>none
 | k+1,.seq M T,h,d,c=>match qaP x P z y p k M h d c with
  | some ⟨.normal,J,E,G⟩=>qaP x P z y p k T J E G
  | r=>r
 | k+1,.cond b M T,h,d,c=>match opc h b with
  | some (.bool true)=>qaP x P z y p k M h d c
  | some (.bool false)=>qaP x P z y p k T h d c
  | _=>none
 | k+1,.block O b,h,d,c=>match qaP x P z y p k b h d c with
  | some ⟨.exit U,J,E,G⟩=>match Nat.beq U O with
   | true=>some ⟨.normal,J,E,G⟩
   | false=>some ⟨.exit U,J,E,G⟩
  | r=>r
 | k+1,.loop b,h,d,c=>match qaP x P z y p k b h d c with
  | some ⟨.normal,J,E,G⟩=>qaP x P z y p k (.loop b) J E G
  | r=>r
 | k+1,.exit O,h,d,c=>some ⟨.exit O,h,d,c⟩
 | k+1,.ret,h,d,c=>some ⟨.ret,h,d,c⟩
 | k+1,_,_,_,_=>none
section
variable {P:Program} {w0:World} {call:qdD} {nt:Nat} {σ:Hp} {p:Nat}
def qzF (P:Program) (w0:World) (G:Nat) (E:Hp) (r:Fin) (J:Ren) (Q:Exit->Act->World->Prop):Prop:=∀ h y z,Ext J h->SR G h r.T y->HR w0 h (r.d++E) z->Q r.ex.to y z
theorem qzF.ext {r:Fin} {a h:Ren} {Q:Exit->Act->World->Prop} (E:qzF P w0 nt σ r a Q) (e:Ext a h):qzF P w0 nt σ r h Q:=fun G w z K J y=>E G w z (e.trans K) J y
theorem qjW (ar:qkQ P w0 call):∀ (k:Nat),(∀ (ag:Code) (T:Tm) (d:Hp) (c:Nat) (r:Fin),qaP call P nt σ p k ag T d c=some r->∀ (f:Ren) (a:Act) (w:World) (Q:Exit->Act->World->Prop),SR nt f T a->HR w0 f (d++σ) w->qzF P w0 nt σ r f Q->ag.wp P Q a w)/\
  (∀ (b:Code) (T:Tm) (d:Hp) (c:Nat) (r:Fin),qaP call P nt σ p k (.loop b) T d c=some r->∀ (f:Ren) (a:Act) (w:World) (Q:Exit->Act->World->Prop),SR nt f T a->HR w0 f (d++σ) w->qzF P w0 nt σ r f Q->Code.rounds P b Q k a w)
 | 0=>⟨fun ag T d c r e=>by (simp only [qaP] at e;cases e),fun b T d c r e=>by (simp only [qaP] at e;cases e)⟩
 | k+1=>by
  obtain ⟨V,aA⟩:=qjW ar k;have aw:∀ (b:Code) (T:Tm) (d:Hp) (c:Nat) (r:Fin),qaP call P nt σ p (k+1) (.loop b) T d c=some r->∀ (f:Ren) (a:Act) (w:World) (Q:Exit->Act->World->Prop),SR nt f T a->HR w0 f (d++σ) w->qzF P w0 nt σ r f Q->Code.rounds P b Q (k+1) a w:=by
   intro b T d c r e f a w Q h y l;rw [rounds_succ];simp only [qaP] at e;split at e
   ·rename_i U M O ab
    refine V b T d c _ ab f a w _ h y fun G J K x E z=>?_
    exact aA b U M O r e G J K Q E z (l.ext x)
   ·rename_i ah
    refine V b T d c r e f a w _ h y fun G J K x E z=>?_
    have aa:=l G J K x E z;obtain ⟨Z,U,M,O⟩:=r;cases Z
    ·exact absurd e (ah U M O)
    ·exact aa
    ·exact aa
  refine ⟨fun ag T d c r e f a w Q h y l=>?_,aw⟩;cases ag with
  | skip=>
   simp only [qaP] at e;cases e;exact wp_skip (l f a w (Ext.refl _) h y)
  | label aB=>
   simp only [qaP] at e;cases e;exact wp_label (l f a w (Ext.refl _) h y)
  | exit ak=>
   simp only [qaP] at e;cases e;exact wp_exit (l f a w (Ext.refl _) h y)
  | ret=>
   simp only [qaP] at e;cases e;exact wp_ret (l f a w (Ext.refl _) h y)
  | region ak aE ax=>
   cases ax with
   | false=>
    simp only [qaP] at e;split at e
    ·rename_i au ay x
     cases e;refine wp_region (qn0 ar (fun ao ad ae an aq ap=>?_) _ _ _ x f a w (Ext.refl _) h y);exact l ao ad ae an aq (by rw [Ze];exact ap)
    ·cases e
   | true=>
    simp only [qaP] at e;split at e
    ·rename_i au ay aC x
     cases e;refine wp_mono (Q:=fun Z ad ae=>Z=.normal/\Q .normal ad ae) (wp_region_any aC ?_) fun Z ad ae af=>by obtain ⟨rfl,af⟩:=af;exact af
     rw [<- qkV];exact qg8 ar (fun c a w az=>by cases az.1) (fun ao ad ae an aq ap=>⟨rfl,l ao ad ae an aq (by rw [Ze];exact ap)⟩) _ _ x 0 [] [] (QA.2 rfl) f a _ (Ext.refl _) h y.drew
    ·cases e
  | seq ai am=>
   simp only [qaP] at e;refine wp_seq ?_;split at e
   ·rename_i U M O af
    refine V ai T d c _ af f a w _ h y fun G J K x E z=>?_
    exact V am U M O r e G J K Q E z (l.ext x)
   ·rename_i ah
    refine V ai T d c r e f a w _ h y fun G J K x E z=>?_
    have aa:=l G J K x E z;obtain ⟨Z,U,M,O⟩:=r;cases Z
    ·exact absurd e (ah U M O)
    ·exact aa
    ·exact aa
  | cond b ai am=>
   simp only [qaP] at e;split at e
   ·rename_i ab
    have av:a.eval b=.bool true:=qaK h.tr ab;exact wp_cond_true av (V ai T d c r e f a w Q h y l)
   ·rename_i ab
    have av:a.eval b=.bool false:=qaK h.tr ab;exact wp_cond_false av (V am T d c r e f a w Q h y l)
   ·cases e
  | block ak b=>
   simp only [qaP] at e;refine wp_block ?_;split at e
   ·rename_i aj U M O ab
    refine V b T d c _ ab f a w _ h y fun G J K x E z=>?_
    split at e
    ·rename_i ac
     have ac:=QG ac;cases e;show (if aj=ak then _ else _);rw [Qk ac];exact l G J K x E z
    ·rename_i ac
     cases e;show (if aj=ak then _ else _);rw [Qd fun au=>by rw [au] at ac;exact absurd ac (by simp)];exact l G J K x E z
   ·rename_i ah
    refine V b T d c r e f a w _ h y fun G J K x E z=>?_
    have aa:=l G J K x E z;obtain ⟨Z,U,M,O⟩:=r;cases Z with
    | normal=>exact aa
    | exit aj=>exact absurd e (ah aj U M O)
    | ret=>exact aa
  | loop b=>exact wp_loop_rounds (k+1) (aw b T d c r e f a w Q h y l)
  | rangeFunc aD aG aF b=>simp only [qaP] at e;cases e
  | scope b=>simp only [qaP] at e;cases e
  | goto aB=>simp only [qaP] at e;cases e
  | refuse am=>simp only [qaP] at e;cases e
end
def qAQ:Nat->List A1->Tm
 | _,[]=>[]
 | i,v :: h=>(i,some (.one v)) :: qAQ (i+1) h
def qyY (P:Program) (T:Tm) (h:Hp):List ResultVar->Option (List A1)
 | []=>some []
 | .tmp t :: r=>match op1 T (.tmp t),qyY P T h r with
  | some v,some l=>some (v :: l)
  | _,_=>none
 | .cell t y :: r=>match opc T (.tmp t) with
  | some (.ptr b z)=>match qtz P h y b z,qyY P T h r with
   | some v,some l=>some (v :: l)
   | _,_=>none
  | _=>none
def qDG:List A1->AV
 | [x]=>.one x
 | l=>.tup l
def qhG (P:Program) (p:Nat):Nat->qdD
 | 0,_,_,_,_=>none
 | n+1,f,c,h,E=>match P.funcs[f]? with
  | some fn => match fn.name == "runtime.NumGoroutine", fn.body with
   | false,some z=>match qaP (qhG P p n) P (c.length+(fn.ntmps - c.length)) h E p z (qAQ 0 c) [] 0 with
    | some ⟨.exit _,_,_,_⟩=>none
    | some ⟨_,y,d,_⟩=>match qyY P y (d++h) fn.results.toList with
     | some l=>some (qDG l,d)
     | none=>none
    | none=>none
   | _,_=>none
  | none=>none
section
variable {P:Program} {w0:World}
theorem qj1:∀ (r:List A1) (i t:Nat) (x:AV),look (qAQ i r) t=some (some x)->∃ h,i<=t/\r[t - i]?=some h/\x=.one h
 | [],i,t,x,e=>by cases e
 | h :: y,i,t,x,e=>by
  simp only [qAQ] at e;rw [qba] at e;split at e
  ·rename_i u
   subst u;cases e;exact ⟨h,Qa _,by simp,rfl⟩
  ·obtain ⟨z,G,E,v⟩:=qj1 y (i+1) t x e
   exact ⟨z,by omega,by rw [show t - i=(t - (i+1))+1 by omega];simpa using E,v⟩
theorem R1.length {u:Ren}:∀ {l:List A1} {h:List Value},R1 u l h->h.length=l.length
 | [],_,v=>by rw [show _=_ from v];rfl
 | x :: z,_,⟨J,E,y,G,t⟩=>by rw [y,Qv,R1.length t,Qv]
theorem qtI {h:Ren} {e:List A1} {us:List Value} (x:R1 h e us) (n:Nat):SR (e.length+(n - e.length)) h (qAQ 0 e) {tmps:=us.toArray++Array.replicate (n - us.toArray.size) undef,defers:=[]}:=by
 have J:=x.length;refine ⟨fun t E K=>?_,by simp [J],rfl⟩;obtain ⟨O,-,v,rfl⟩:=qj1 e 0 t E K;rw [Nat.sub_zero] at v;obtain ⟨G,u,M⟩:=x.get v;have z:=(QP.1 u).1;have y:(us.toArray++Array.replicate (n - us.toArray.size) undef).getD t undef=G:=by
  rw [Array.getD_eq_getD_getElem?,Array.getElem?_append_left (by simpa using z),List.getElem?_toArray,u];rfl
 exact (by rw [y];exact M:A1.rel h O ((us.toArray++Array.replicate (n - us.toArray.size) undef).getD t undef))
def qnj (tmps:Array Value) (x:ResultVar):Sem Value:=match x with
 | .tmp b=>pure (tmps.getD b undef)
 | .cell h b=>do loadVar b (<- asAddr (tmps.getD h undef))
theorem qjI {k:Ren} {T:Tm} {M:Hp} {a:Act} {w:World} (r:TR k T a) (z:HR w0 k M w):∀ {O:List ResultVar} {l:List A1},qyY P T M O=some l->∃ h,R1 k l h/\(O.mapM (qnj a.tmps)).run P w=.ok h w
 | [],l,b=>by cases b;exact ⟨[],rfl,by simp⟩
 | .tmp u :: aa,l,b=>by
  simp only [qyY] at b;split at b
  ·rename_i K Z t E
   cases b;obtain ⟨h,y,G⟩:=qjI r z E;have v:K.rel k (a.tmps.getD u undef):=qc0 r t;exact ⟨_,⟨_,h,rfl,v,y⟩,by simp [List.mapM_cons,qnj,G]⟩
  ·cases b
 | .cell u ah :: aa,l,b=>by
  simp only [qyY] at b;split at b
  ·rename_i ag ab ad
   split at b
   ·rename_i K Z t E
    cases b;obtain ⟨h,y,G⟩:=qjI r z E;obtain ⟨V,af,ac,J⟩:=qaK r ad;have J:a.tmps.getD u undef=.pointer (some ⟨V,ab,none⟩):=J;obtain ⟨ae,v,U⟩:=qkz z t ac;exact ⟨_,⟨_,h,rfl,v,y⟩,by simp [List.mapM_cons,qnj,J,asAddr,U,G]⟩
   ·cases b
  ·cases b
theorem qnd {r:Ren} {T:Tm} {E:Hp} {a:Act} {w:World} (O:TR r T a) (M:HR w0 r E w) {fn:Func} {l:List A1} (y:qyY P T E fn.results.toList=some l):∃ h,(qDG l).rel r h/\(results fn a.tmps).run P w=.ok h w:=by
 obtain ⟨e,t,U⟩:=qjI O M y;have v:=t.length;refine ⟨if y:e.toArray.size=1 then e.toArray[0] else .tuple e.toArray,?_,?_⟩
 ·cases l with
  | nil=>
   rw [show e=[] from t];exact ⟨_,rfl,rfl⟩
  | cons Z J=>
   obtain ⟨h,u,rfl,G,z⟩:=t;cases J with
   | nil=>
    rw [show u=[] from z];exact G
   | cons aa V=>
    have K:¬(h :: u).toArray.size=1:=(by simp at v |-;intro x;rw [x] at v;simp at v);rw [dif_neg K];exact ⟨_,rfl,h,u,rfl,G,z⟩
 ·have x:results fn a.tmps=(fn.results.mapM (qnj a.tmps)) >>= fun e=>pure (if y:e.size=1 then e[0] else .tuple e):=by
   unfold results
   congr 2
  rw [x,Array.mapM_eq_mapM_toList];simp only [Sem.run_bind,Sem.run_map,U,Result.andThen_ok];rfl
theorem qk6 (l:Nat):∀ n,qkQ P w0 (qhG P l n)
 | 0=>fun h ag ai ak d T c=>by (simp only [qhG] at c;cases c)
 | n+1=>fun h ag ai ak d T c=>by
  have Z:=qk6 l n;simp only [qhG] at c;split at c
  ·rename_i af E
   split at c
   ·rename_i M ae z
    have aj:∀ args f,(callFunc h args).run P f=.ok (.enter h args) f:=fun args f=>by
     have U : af.name ≠ "runtime.NumGoroutine" :=(by simpa using ae);simp [callFunc,E,U,z]
    split at c
    ·cases c
    ·rename_i ah ao an aq ab V
     split at c
     ·rename_i au ad
      cases c;refine ⟨aj,fun O f ar ac aa=>calls_of_wp E z ?_⟩;refine (qjW Z l).1 M _ [] 0 _ V O _ f _ (qtI aa _) ac fun G ap av y w v=>?_
      obtain ⟨d,J,K⟩:=qnd w.tr v ad;cases ah with
      | normal=>exact ⟨w.defers,d,K,d,G,rfl,y,J,v⟩
      | ret=>exact ⟨w.defers,d,K,d,G,rfl,y,J,v⟩
      | exit am=>exact (ab am rfl).elim
     ·cases c
    ·cases c
   ·cases c
  ·cases c
theorem qnq {E n:Nat} {f:FuncId} {y:List A1} {v:AV} {u:Hp} (M:qhG P E n f y [] 1=some (v,u)) {us:List Value} (J:R1 (fun _=>none) y us) (w:World) :
  Calls P f us.toArray w fun z G=>∃ h e,z=.returned h/\v.rel e h/\HR w e u G:=by
 refine ((qk6 E n f y [] 1 v u M).2 _ w us (HR.start w) J).mono ?_;rintro z G ⟨h,e,rfl,-,O,K⟩;exact ⟨h,e,rfl,O,by simpa using K⟩
end
end Go.Ev
namespace Go.Proofs.YtjafbmfcedijmaaGreatDoor
open Tryz
open Go.RowKit Go.Shelf
def argsU (p:Pat) (a:Nat):Str:=if (qbu [32] p.2).1=[97] then arB a++(qbu [32] p.2).2.1 else (qbu [32] p.2).2.1
theorem qwe (p:Pat) (h:Int):(qal p h).2.1++(qal p h).2.2=argsU p (qbm p.1 h 97).toNat:=by
 unfold qal argsU;split
 ·rfl
 ·split <;> rfl
theorem qiK:∀ h∈mainP++cbP++edP,h.1.length=8/\h.2.length<=100:=by decide +kernel
theorem qvW:∀ n∈mainP++cbP++edP,∀ h<256,numN n.1 h 97 8<=7/\numN n.1 h 111 8<=7:=by decide +kernel
theorem qpY:∀ p∈mainP++cbP++edP,∀ a<8,(argsU p a).length<=100/\∀ h∈splitW (argsU p a),h∈qeD:=by decide +kernel
theorem qiI:∀ (n:Nat) (l:Str),(qdI n l).length<=l.length
 | 0,l=>Qs _
 | n+1,l=>by
  unfold qdI;split
  ·exact Qs _
  ·next y=>
   have h:0<l.length:=Q9.2 (by simpa using y);have E:=(qmZ [44] l (by decide) h).1;have z:=qiI n (qbu [44] l).2.1;rw [Qv];omega
theorem qiv (p:Pat) (h:Int):∀ (n:Nat) (l:Str),(qbq p h (qdI n l)).length<=l.length
 | 0,l=>Qs _
 | n+1,l=>by
  unfold qdI;split
  ·exact Qs _
  ·have E:=qnz [44] l
   have z:=qiv p h n (qbu [44] l).2.1;have y:=qso p h (qbu [44] l).1;show ((opT p h (qbu [44] l).1).2++qbq p h (qdI n (qbu [44] l).2.1)).length<=_;rw [Qg];omega
theorem qgm {p:Pat} (y:p∈mainP++cbP++edP) (n:Int) (J:0<=n) (G:n<=255):Good2 p n:=by
 obtain ⟨h,rfl⟩:∃ h:Nat,n=h:=⟨n.toNat,by omega⟩;have z:h<256:=by omega
 obtain ⟨aa,Z⟩:=qiK p y;obtain ⟨ad,ac⟩:=qvW p y h z;have U:qbm p.1 (h:Int) 97<=7:=by rw [qcz _ _ z];omega
 have V:qbm p.1 (h:Int) 111<=7:=by rw [qcz _ _ z];omega
 have ab:=(qgO p.1 (h:Int) J G 97).1;obtain ⟨E,K⟩:=qpY p y (qbm p.1 (h:Int) 97).toNat (by omega);rw [<- qwe] at E K;have M:=qiI ((qal p (h:Int)).2.1++(qal p (h:Int)).2.2).length ((qal p (h:Int)).2.1++(qal p (h:Int)).2.2);have O:=qiv p (h:Int) ((qal p (h:Int)).2.1++(qal p (h:Int)).2.2).length ((qal p (h:Int)).2.1++(qal p (h:Int)).2.2);exact ⟨⟨aa,Z,J,G,U,V,E,K⟩,Qm M E,Qm O (by omega)⟩
theorem qna:∀ n:Fin 256,op6 (n.val:Int)=((n.val / 8*8+6:Nat):Int):=by decide +kernel
theorem qst (h:Int) (z:0<=h) (E:h<=255):0<=op6 h/\op6 h<=255:=by
 obtain ⟨n,rfl⟩:∃ n:Nat,h=n:=⟨h.toNat,by omega⟩;have y:=qna ⟨n,by omega⟩;simp only at y;omega
theorem qoi {y z:Int} {p:Pat} (E:qdj (listS y) z=some p):p∈mainP++cbP++edP:=by
 have h:=Zw E;rw [qcf] at h;exact qgx h
end Go.Proofs.YtjafbmfcedijmaaGreatDoor
namespace Go.Proofs.YtjafbmfcedijmaaGreatDoor
open Tryz
open Go.RowKit Go.Shelf
def atT (h p:Int):Option En:=match qdj (listS h) p with
 | some y=>qcu y h p
 | none=>none
def qCa (n:Nat):Nat->Str->Bool
 | _,[]=>true
 | w,c :: h=>(if c=48 then n / w % 2 == 0 else if c=49 then n / w % 2 == 1 else true)&&qCa n (w / 2) h
theorem qxP:∀ h∈mainP++cbP++edP,∀ n:Fin 256,qcO h.1 (n.val:Int)=qCa n.val 128 h.1:=by decide +kernel
def qt8 (h n:Nat):Option Pat:=(qdY h).find? fun p=>qCa n 128 p.1
theorem find_eq (q n:Nat) (y:n<256):qdj (listS q) (n:Int)=qt8 q n:=by
 unfold qdj qt8;rw [qcf];have E:∀ p:List Pat,(∀ h∈p,h∈mainP++cbP++edP)->p.find? (fun h=>qcO h.1 (n:Int))=p.find? (fun h=>qCa n 128 h.1):=by
  intro p
  induction p with
  | nil=>intro _;rfl
  | cons h L K=>
   intro t;rw [List.find?_cons,List.find?_cons,qxP h (t h (by simp)) ⟨n,y⟩,K (fun z G=>t z (by simp [G]))]
 exact E _ fun h J=>qgx J
def nuN (p:Pat) (n:Nat) (c:UInt8):Int:=(numN p.1 n c 8:Nat)
def opN (p:Pat) (n:Nat) (w:Str):Tr×Str:=
 if w=[101] then ((10,0,0),w) else if w=[110]\/w=[119] then ((6,0,0),w) else if w=[40,110,41]\/w=[40,119,41] then ((7,0,0),(w.drop 1).take 1) else
 match qw6 (w.headD 0) (nuN p n (w.headD 0)) with
 | some h=>(h,[])
 | none=>(qf0 w,[])
def qfX (p:Pat) (n:Nat):Str×Str×Str:=
 if (qbu [32] p.2).1=[97] then (arN (numN p.1 n 97 8),arB (numN p.1 n 97 8),(qbu [32] p.2).2.1) else
 if (qbu [32] p.2).1=[111] then (roN (numN p.1 n 111 8),[],(qbu [32] p.2).2.1) else ((qbu [32] p.2).1,[],(qbu [32] p.2).2.1)
def qcs (p:Pat) (w n:Nat):En:=
 ((qfX p n).1,(splitW ((qfX p n).2.1++(qfX p n).2.2)).map (fun h=>(opN p n h).1),((splitW ((qfX p n).2.1++(qfX p n).2.2)).map (fun h=>(opN p n h).2)).flatten,(w:Int) == 2&&qav (qfX p n).1 n)
theorem qBI (p:Pat) (n:Nat) (h:n<256) (w:Str):opT p (n:Int) w=opN p n w:=by
 unfold opT opN nuN;rw [qcz _ _ h];rfl
theorem qsa (p:Pat) (n:Nat) (h:n<256):qal p (n:Int)=qfX p n:=by
 unfold qal qfX;rw [qcz _ _ h,qcz _ _ h];simp only [Int.toNat_natCast]
theorem qjX (p:Pat) (y n:Nat) (h:n<256):qae p y (n:Int)=qcs p y n:=by
 unfold qae qcs qbQ qbq qbO;rw [qsa p n h];simp only [qBI p n h]
def qon (p:Pat) (z n:Nat) (E:Int):En:=
 let h:=qcs p z (n / 8*8+6);let x:=if qif h.1 h.2.1 then qog E h.2.1 else h.2.1
 let y:=if qif h.1 h.2.1 then 100 :: h.2.2.1 else h.2.2.1
 if numN p.1 n 115 8=6 then (h.1,x,y,h.2.2.2) else if h.1=[66,73,84] then (h.1,x,y,true) else (h.1,x++[((1:Int),((numN p.1 n 115 8:Nat):Int),(0:Int))],y,h.2.2.2)
theorem qkR (p:Pat) (h n:Nat) (y:n<256) (z:Int):qbJ p h (n:Int) z=qon p h n z:=by
 have E:=qna ⟨n,y⟩;simp only at E;unfold qbJ qon;rw [E,qjX p h _ (by omega),qcz _ _ y];simp only [show ∀ m:Nat,((m:Int)=6)=(m=6) from fun m=>by simp;omega]
def qre (p:Pat) (h n:Nat):Option En:=
 if h=3 then (qbU (qcs p h n).1 5 (qcs p h n).2.1 (qcs p h n).2.2.1).map fun y=>((qcs p h n).1,y.1,y.2,(qcs p h n).2.2.2) else
 if h=4 then (qbU (qcs p h n).1 6 (qcs p h n).2.1 (qcs p h n).2.2.1).map fun y=>((qcs p h n).1,y.1,y.2,(qcs p h n).2.2.2) else
 if h=5 then some (qon p h n 5) else if h=6 then some (qon p h n 6) else some (qcs p h n)
theorem qsI (p:Pat) (h n:Nat) (y:n<256):qcu p h (n:Int)=qre p h n:=by
 unfold qcu qre;rw [qjX p h n y,qkR p h n y,qkR p h n y];simp only [show ((h:Int)=3)=(h=3) by simp;omega,show ((h:Int)=4)=(h=4) by simp;omega,show ((h:Int)=5)=(h=5) by simp;omega,show ((h:Int)=6)=(h=6) by simp;omega]
def atN (h n:Nat):Option En:=match qt8 h n with
 | some p=>qre p h n
 | none=>none
theorem qwA (h n:Nat) (p:n<256):atT h (n:Int)=atN h n:=by
 unfold atT atN;rw [find_eq h n p];cases qt8 h n with
 | none=>rfl
 | some y=>exact qsI y h n p
end Go.Proofs.YtjafbmfcedijmaaGreatDoor
namespace Go.Proofs.YtjafbmfcedijmaaGreatDoor
open Tryz
open Go.RowKit Go.Shelf
attribute [local irreducible] Go.Mixed.qD8
theorem up {a b c:World} (h:Below a.heap.size a b) (k:Below b.heap.size b c):Below a.heap.size a c:=h.trans (k.mono h.size)
theorem qaG (w:World) (o:Obj):Below w.heap.size w (w.alloc o):=B0
def OpV (w:World) (b:Nat) (x:Tr):Prop:=w.heap[b]?=some (.cells #[.int .i64 x.1,.int .i64 x.2.1,.int .i64 x.2.2] 57 (0,0))
theorem OpV.all {w w':World} {b:Nat} {x:Tr} (h:OpV w b x) (y:Below w.heap.size w w'):OpV w' b x:=(y.block b (Qb.1 h).1).trans h
theorem OpV.cells {w:World} {b:Nat} {x:Tr} (h:OpV w b x):w.cell? ⟨b,0,none⟩=some (.int .i64 x.1)/\w.cell? ⟨b,1,none⟩=some (.int .i64 x.2.1)/\w.cell? ⟨b,2,none⟩=some (.int .i64 x.2.2)/\∀ j,w.frozen? ⟨b,j,none⟩=false:=
 ⟨C9 h 0,C9 h 1,C9 h 2,Qr h⟩
section
variable {P:Program} {ops:Array Oper}
theorem qiJ {C:World->Prop} {T:Act->World->Prop} {k:Nat} {r:List (Nat×Bool)} {a:Act} {w:World} {o:Oper} (h:ops[k]?=some o) (y:Region.wanted o (yielded ops a.tmps)=false)
  (z:Mixed.qD8 P ops C T r (a.put o.dst undef) w):Mixed.qD8 P ops C T ((k,true) :: r) a w:=by
 unfold Mixed.qD8;simp only [h];exact ⟨undef,.inr ⟨y,rfl⟩,z⟩
theorem qEC {C:World->Prop} {T:Act->World->Prop} {k:Nat} {r:List (Nat×Bool)} {a:Act} {w:World} {o:Oper} (h:ops[k]?=some o) (y:Region.wanted o (yielded ops a.tmps)=false)
  (z:C w) (E:Mixed.qD8 P ops C T r (a.put o.dst undef) w):Mixed.qD8 P ops C T ((k,false) :: r) a w:=by
 unfold Mixed.qD8;unfold wpOp;simp only [h,y,Bool.false_eq_true,if_false];exact ⟨z,E⟩
end
def qdo (w:World) (b:Nat) (h y:Int) (m:Str) (v:Value) (ex:Str) (al:Bool):Prop:=w.heap[b]?=some (.cells #[.int .i64 h,.int .u8 y,.string (sB m),v,.string (sB ex),.bool al] 66 (0,0))
section
variable {w w':World} {b:Nat} {page op:Int} {m ex:Str} {v:Value} {al:Bool}
theorem qdo.lt (h:qdo w b page op m v ex al):b<w.heap.size:=(Qb.1 h).1
theorem qdo.below {B:Nat} (y:qdo w b page op m v ex al) (h:Below B w w') (z:b<B):qdo w' b page op m v ex al:=(h.block b z).trans y
theorem qdo.all (h:qdo w b page op m v ex al) (y:Below w.heap.size w w'):qdo w' b page op m v ex al:=h.below y h.lt
theorem qdo.cells (h:qdo w b page op m v ex al):w.cell? ⟨b,0,none⟩=some (.int .i64 page)/\w.cell? ⟨b,1,none⟩=some (.int .u8 op)/\w.cell? ⟨b,2,none⟩=some (.string (sB m))/\w.cell? ⟨b,3,none⟩=some v/\w.cell? ⟨b,4,none⟩=some (.string (sB ex))/\w.cell? ⟨b,5,none⟩=some (.bool al)/\∀ j,w.frozen? ⟨b,j,none⟩=false:=
 ⟨C9 h 0,C9 h 1,C9 h 2,C9 h 3,C9 h 4,C9 h 5,Qr h⟩
theorem qdo.qEA (y:qdo w b page op m v ex al) (h:Value):qdo (w.setCell ⟨b,3,none⟩ h) b page op m h ex al:=heap_setCell_same w b 3 _ _ h y
theorem qdo.qEy (y:qdo w b page op m v ex al) (h:Str):qdo (w.setCell ⟨b,4,none⟩ (.string (sB h))) b page op m v h al:=heap_setCell_same w b 4 _ _ _ y
theorem qdo.qEv (y:qdo w b page op m v ex al) (h:Bool):qdo (w.setCell ⟨b,5,none⟩ (.bool h)) b page op m v ex h:=heap_setCell_same w b 5 _ _ _ y
theorem qdo.qEI (y:qdo w b page op m v ex al) (h:Int):qdo (w.setCell ⟨b,1,none⟩ (.int .u8 h)) b page h m v ex al:=heap_setCell_same w b 1 _ _ _ y
theorem qdo.qET (y:qdo w b page op m v ex al) (h:Int):qdo (w.setCell ⟨b,0,none⟩ (.int .i64 h)) b h op m v ex al:=heap_setCell_same w b 0 _ _ _ y
theorem qdo.qE8 (y:qdo w b page op m v ex al) (h:Str):qdo (w.setCell ⟨b,2,none⟩ (.string (sB h))) b page op h v ex al:=heap_setCell_same w b 2 _ _ _ y
theorem qdo.put (U:qdo w b page op m v ex al) (J G:Int) (z:Str) (E:Value) (M:Str) (K:Bool) :
  ∃ w',(((((w.setCell ⟨b,0,none⟩ (.int .i64 J)).setCell ⟨b,1,none⟩ (.int .u8 G)).setCell ⟨b,2,none⟩ (.string (sB z))).setCell ⟨b,3,none⟩ E).setCell ⟨b,4,none⟩ (.string (sB M))).setCell ⟨b,5,none⟩ (.bool K)=w'/\
   qdo w' b J G z E M K/\Below b w w'/\w'.heap.size=w.heap.size/\(∀ B u L,b<B->qah w B u L->qah w' B u L)/\∀ k,k≠b->w'.heap[k]?=w.heap[k]?:=by
 refine ⟨_,rfl,(((((U.qET J).qEI G).qE8 z).qEA E).qEy M).qEv K,?_,by simp,fun B u L h O=>?_,fun k y=>?_⟩
 ·exact ((((((Qc b w).setCell (p:=⟨b,0,none⟩) (Qa _) _).setCell (p:=⟨b,1,none⟩) (Qa _) _).setCell (p:=⟨b,2,none⟩) (Qa _) _).setCell (p:=⟨b,3,none⟩) (Qa _) _).setCell (p:=⟨b,4,none⟩) (Qa _) _).setCell (p:=⟨b,5,none⟩) (Qa _) _
 ·exact row_set (row_set (row_set (row_set (row_set (row_set O (p:=⟨b,0,none⟩) h _) (p:=⟨b,1,none⟩) h _) (p:=⟨b,2,none⟩) h _) (p:=⟨b,3,none⟩) h _) (p:=⟨b,4,none⟩) h _) (p:=⟨b,5,none⟩) h _
 ·exact (heap_setCell_other _ ⟨b,5,none⟩ k _ y).trans ((heap_setCell_other _ ⟨b,4,none⟩ k _ y).trans ((heap_setCell_other _ ⟨b,3,none⟩ k _ y).trans ((heap_setCell_other _ ⟨b,2,none⟩ k _ y).trans ((heap_setCell_other _ ⟨b,1,none⟩ k _ y).trans (heap_setCell_other _ ⟨b,0,none⟩ k _ y)))))
theorem qdo.qEw (y:qdo w b page op m v ex al) {g j:Nat} (h:b≠g) (u:Value):qdo (w.setCell ⟨g,j,none⟩ u) b page op m v ex al:=(heap_setCell_other w ⟨g,j,none⟩ b u h).trans y
end
def qaX (h:Int) (y:Nat):Option En:=if 0<=h/\h<=6 then atN h.toNat y else none
def rkindT (h:Int) (y:Nat):Int:=if h=0 then 2 else if h=2 then 3 else if (h=3\/h=4)/\y=203 then 2 else 0
def qnC (w:World) (y z:Int) (v:Int) (x:Option En) (e:Ending) (w':World):Prop:=
 (match x with
  | some x=>∃ h,e=.returned (.tuple #[enV y z x.1 h x.2.2.1 x.2.2.2,.int .i64 1])/\qah w' w.heap.size h x.2.1
  | none=>e=.returned (.tuple #[enV 0 0 [] (.slice none 0 0) [] false,.int .i64 v]))/\Below w.heap.size w w'
theorem qv3 {h:Int} (y:¬(0<=h/\h<=6)):listS h=[]:=by
 unfold listS;rw [Qd (by omega),Qd (by omega),Qd (by omega)]
theorem qg1 {h:Int} (z:¬(0<=h/\h<=6)) (y:Nat):qaX h y=none:=by
 unfold qaX;rw [Qd z]
theorem ql5 (g:Int) (n:Nat) (z:n<256):atT g (n:Int)=qaX g n:=by
 by_cases y:0<=g/\g<=6
 ·obtain ⟨h,rfl⟩:∃ h:Nat,g=(h:Int):=⟨g.toNat,by omega⟩
  unfold qaX;rw [Qk y,qwA h n z];rfl
 ·rw [qg1 y]
  unfold atT qdj;rw [qv3 y];rfl
open Go.Ev in
def qsx:List Tr->List AC
 | []=>[]
 | x :: h=>.int .i64 x.1 :: .int .i64 x.2.1 :: .int .i64 x.2.2 :: qsx h
open Go.Ev in
theorem qfP:∀ L:List Tr,(qsx L).length=L.length*3
 | []=>rfl
 | x :: h=>by
  have t:=qfP h;show (qsx h).length+1+1+1=(h.length+1)*3;omega
open Go.Ev in
theorem qko (t:Ev.Ren):∀ {L:List Tr} {h:List Value},R2 t (qsx L) h->h=cellsT L
 | [],h,M=>M
 | x :: aa,h,⟨Z,ad,V,y,G,ac,U,O,J,ab,z,K,E⟩=>by
  rw [V,U,z,qko t E,show Z=_ from y,show G=_ from O,show J=_ from K];rfl
open Go.Ev in
def qox (z:Hp) (a:AC) (L:List Tr):Bool:=match a with
 | .nils=>L.isEmpty
 | .sl l 0 c y=>Nat.beq c L.length&&match Ev.look z l with
  | some b=>Nat.beq b.t 57&&Ev.cellsB (b.c.take (c*3)) (qsx L)&&match y,b.s with
   | some h,none=>Nat.beq b.c.length (h*3)&&Nat.ble c h&&Nat.ble h 1000
   | none,some 3=>true
   | _,_=>false
  | none=>false
 | _=>false
open Go.Ev in
theorem qoJ {aa:Hp} {a:AC} {L:List Tr} (b:qox aa a L=true) {w w':World} {G:Ev.Ren} (aj:HR w G aa w') {v:Value} (ae:a.rel G v):qah w' w.heap.size v L:=by
 unfold qox at b;split at b
 ·have ap:L=[]:=by simpa using b
  subst ap;rw [show v=_ from ae];exact Zm _ _ _ _
 ·rename_i ao c x
  rw [Qh] at b;obtain ⟨y,b⟩:=b;have y:=QG y;split at b
  ·rename_i E ag
   rw [Qh,Qh] at b;obtain ⟨⟨O,z⟩,h⟩:=b;have O:=QG O;have z:=Ev.qEE z;obtain ⟨ah,l,aw,rfl⟩:=ae;obtain ⟨aA,aD,ac,ak,k,ad,ab,i⟩:=aj.obj ao E ag;rw [aw] at ac;cases ac;have U:(E.c.take (c*3)).length=c*3:=(by rw [z,qfP,y]);have ay:c*3<=E.c.length:=(by rw [QD] at U;omega);have az:c*3<=k.size:=by
    rcases Nat.eq_zero_or_pos (c*3) with au | au
    ·omega
    ·obtain ⟨v,M,-⟩:=ab (c*3 - 1) _ (Qi (by omega))
     have:=(Qb.1 M).1;omega
   have af:k.toList.take (c*3)=cellsT L:=by
    refine qko G ?_;rw [<- z];refine R2.qEY (by rw [U,QD,Zh];omega) fun ai aB J=>?_
    have Z:ai<c*3:=by
     have:=(QP.1 J).1;rw [U] at this;exact this
    rw [Zu,Qk Z] at J;obtain ⟨v,M,aq⟩:=ab _ _ J;exact ⟨v,by rw [Zu,Qk Z,QV];exact M,aq⟩
   rw [O] at ad;have K:c<=x.getD l/\x.getD l<=maxLen/\k.size=x.getD l*3:=by
    split at h
    ·rename_i am V
     rw [Qh,Qh] at h;have ar:=QG h.1.1;have an:=QX h.1.2;have aC:=QX h.2;rw [V] at i;have i:k.size=E.c.length:=i;refine ⟨an,?_,by rw [i,ar];rfl⟩;show am<=maxLen;unfold maxLen;omega
    ·rename_i V
     rw [V] at i;obtain ⟨av,ax⟩:=i;exact ⟨by show c<=l;omega,ax,av⟩
    ·cases h
   rw [y] at *;exact ⟨qbX L,.inr ⟨ah,x.getD l,k,rfl,ak,ad,K.1,K.2.1,K.2.2,af⟩⟩
  ·cases b
 ·cases b
def qx1:Bool->Bool->Bool
 | true,true=>true
 | false,false=>true
 | _,_=>false
theorem qor {a b:Bool} (h:qx1 a b=true):a=b:=by cases a <;> cases b <;> first | rfl | cases h
open Go.Ev in
def qxQ (y:Hp) (g n:Nat) (a b:Int) (m:List UInt8) (s:AC) (ex:List UInt8) (al:Bool) (h:Int):Option En->Bool
 | some x=>Ev.intB a g&&(Ev.intB b n&&(Ev.strB m x.1&&(qox y s x.2.1&&(Ev.strB ex x.2.2.1&&(qx1 al x.2.2.2&&Ev.intB h 1)))))
 | none=>Ev.intB a 0&&(Ev.intB b 0&&(Ev.strB m []&&(qox y s []&&(match s with | .nils=>true | _=>false)&&(Ev.strB ex []&&(qx1 al false&&Ev.intB h (rkindT g n))))))
open Go.Ev in
def qsc (P:Program) (g n:Nat):Bool:=match qhG P 200 8 72 [⟨false,[.int .i64 (g:Int)]⟩,⟨false,[.int .u8 (n:Int)]⟩] [] 1 with
 | some (.tup [⟨true,[.int .i64 a,.int .u8 b,.str s,m,.str y,.bool E]⟩,⟨false,[.int .i64 h]⟩],z)=>qxQ z g n a b s m y E h (atN g n)
 | _=>false
def qax (P:Program) (g h i:Nat):Bool:=(List.range i).all fun y=>qsc P g (h+y)
theorem qab {P:Program} {g h y:Nat} (z:qax P g h y=true) (n:Nat) (G:h<=n) (E:n<h+y):qsc P g n=true:=by
 have:=QR.1 z (n - h) (QW.2 (by omega))
 rwa [show h+(n - h)=n by omega] at this
open Go.Ev in
theorem qbz {g n:Nat} (au:g<=6) (a:qsc prog g n=true) (w:World):Calls prog 72 #[.int .i64 (g:Int),.int .u8 (n:Int)] w (qnC w g n (rkindT g n) (qaX g n)):=by
 unfold qsc at a;split at a
 ·rename_i aD aA ao av ax aM an ar af
  refine (qnq af (us:=[.int .i64 (g:Int),.int .u8 (n:Int)]) ⟨_,_,rfl,⟨_,rfl,rfl⟩,_,_,rfl,⟨_,rfl,rfl⟩,rfl⟩ w).mono ?_;rintro aE aL ⟨aw,ap,rfl,⟨ag,rfl,ay,aC,y,⟨J,rfl,U,az,h,ak,K,aK,rfl,ah,ab,aJ,rfl,ai,s,aq,rfl,ac,Z,aF,rfl,aj,E,aG,rfl,am,rfl⟩,M,aI,rfl,⟨aH,ad,al⟩,rfl⟩,V⟩;cases ad;have ae:qaX g n=atN g n:=by unfold qaX;rw [Qk (by omega)];rfl
  have h:J=#[U,K,ab,s,Z,E]:=Array.ext' h;have y:ag=#[.agg J,M]:=Array.ext' y;rw [ae];subst h;subst y;rw [show U=_ from ak,show K=_ from ah,show ab=_ from ai,show Z=_ from aj,show E=_ from am,show M=_ from al];refine ⟨?_,V.below⟩;cases O:atN g n with
  | some aB=>
   rw [O] at a;simp only [qxQ,Qh] at a;obtain ⟨e,x,m,G,z,u,b⟩:=a;rw [Ev.qEz e,Ev.qEz x,Ev.qEp m,Ev.qEp z,qor u,Ev.qEz b];exact ⟨s,rfl,qoJ G V ac⟩
  | none=>
   rw [O] at a;simp only [qxQ,Qh] at a;obtain ⟨e,x,m,⟨G,aa⟩,z,u,b⟩:=a;rw [Ev.qEz e,Ev.qEz x,Ev.qEp m,Ev.qEp z,qor u,Ev.qEz b];split at aa
   ·rw [show s=_ from ac];rfl
   ·cases aa
 ·cases a
end Go.Proofs.YtjafbmfcedijmaaGreatDoor
