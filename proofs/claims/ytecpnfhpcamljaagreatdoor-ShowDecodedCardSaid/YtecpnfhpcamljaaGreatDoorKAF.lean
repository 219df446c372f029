/-
  SeA, SeB, StW, SeC, SeRa, SeJ, SeRb, SeRc, SeRd, CnW, CnV, CnD.
-/
import Derived.Test.YtecpnfhpcamljaaGreatDoorKAE
set_option linter.all false
set_option maxRecDepth 100000
set_option maxHeartbeats 4000000
namespace Go.Proofs.YtecpnfhpcamljaaGreatDoor
open Tryz
open Go.RowKit
abbrev Vr:=List Int×Int×Int
def vr0:Vr:=([],0,0)
def qjg (p:Vr×Vr) (c:UInt8):Vr×Vr:=
 if c=100 then (([5],-128,127),p.2) else if c=101 then (p.1,([10],-128,127)) else if c=110 then (p.1,([6,7],0,255)) else if c=119 then (p.1,([6,7],0,65535)) else p
def varsV (ex:Str):Vr×Vr:=ex.foldl qjg (vr0,vr0)
def atV (h:List Int):List Tr->Option Nat
 | []=>none
 | t :: q=>match atV h q with
  | some k=>some (k+1)
  | none=>if t.1∈h then some 0 else none
def tr0:Tr:=(0,0,0)
def qcX (k:List Int) (L:List Tr):Int:=match atV k L with
 | some h=>(L.getD h tr0).2.2
 | none=>0
def qsF (L:List Tr) (k:Nat) (n:Int):List Tr:=L.set k ((L.getD k tr0).1,(L.getD k tr0).2.1,n)
def qdC (h:List Int) (L:List Tr) (n:Int):List Tr:=match atV h L with
 | some k=>qsF L k n
 | none=>L
def inV (v:Vr) (n:Int):Bool:=decide (v.2.1<=n)&&decide (n<=v.2.2)
def qcA (v:Vr) (L:List Tr) (n:Int):Bool:=match atV v.1 L with
 | some _=>inV v n
 | none=>decide (n=0)
def qaW (ex:Str) (L:List Tr) (d n:Int):Option (List Tr):=
 if qcA (varsV ex).1 L d=true/\qcA (varsV ex).2 (qdC (varsV ex).1.1 L d) n=true then some (qdC (varsV ex).2.1 (qdC (varsV ex).1.1 L d) n) else none
def qnZ (m:Str) (L:List Tr) (ex:Str) (s:ByteArray) (C:List Tr):Bool:=
 match qaW ex L (qcX (varsV ex).1.1 C) (qcX (varsV ex).2.1 C) with
 | some h=>decide (sB m=s)&&decide (h=C)
 | none=>false
def ks2 (t:Tr):Int×Int:=(t.1,t.2.1)
def qcR (t:Tr):Bool:=t.1 == 6||t.1 == 7
def letR (ex:Str) (L:List Tr) (k:Nat):UInt8:=
 if (L.getD k tr0).1=5/\ex.contains 100=true then 100 else
 if (L.getD k tr0).1=10/\ex.contains 101=true then 101 else
 if qcR (L.getD k tr0)=false then 0 else
 if (L.drop (k+1)).any qcR=true then 0 else
 if ex.contains 110=true then 110 else if ex.contains 119=true then 119 else 0
def withR (c:UInt8) (n:Int):Bool:=
 if c=100\/c=101 then decide (-128<=n)&&decide (n<=127) else if c=110 then decide (0<=n)&&decide (n<=255) else decide (0<=n)&&decide (n<=65535)
def qgW (ex:Str) (L:List Tr) (k:Nat) (t:Tr):Bool:=
 if letR ex L k=0 then decide ((L.getD k tr0).2.2=t.2.2) else withR (letR ex L k) t.2.2
def qfg (m:Str) (L:List Tr) (s:ByteArray) (C:List Tr):Bool:=decide (sB m=s)&&decide (L.map ks2=C.map ks2)
def qa9 (m:Str) (L:List Tr) (ex:Str) (s:ByteArray) (C:List Tr):Bool:=qfg m L s C&&(List.range C.length).all fun h=>qgW ex L h (C.getD h tr0)
def rangeR (c:UInt8):Int×Int:=if c=100\/c=101 then (-128,127) else if c=110 then (0,255) else (0,65535)
def qcY (ex:Str) (L:List Tr) (k:Nat):Bool:=
 if atV (varsV ex).1.1 L=some k then letR ex L k == 100&&decide ((varsV ex).1.2=rangeR 100)&&decide (atV (varsV ex).2.1 L≠some k) else
 if atV (varsV ex).2.1 L=some k then letR ex L k != 100&&letR ex L k != 0&&decide ((varsV ex).2.2=rangeR (letR ex L k)) else letR ex L k == 0
def qbr (ex:Str) (L:List Tr):Bool:=(List.range L.length).all fun h=>qcY ex L h
theorem qbb (c:UInt8) (n:Int):withR c n=(decide ((rangeR c).1<=n)&&decide (n<=(rangeR c).2)):=by
 unfold withR rangeR;split
 ·rfl
 ·split <;> rfl
theorem qc6 {q:List Int}:∀ {L:List Tr} {k:Nat},atV q L=some k->k<L.length
 | [],k,h=>by cases h
 | t :: r,k,h=>by
  unfold atV at h;cases j:atV q r with
  | some y=>
   rw [j] at h;obtain rfl:=Qs h;have:=qc6 j;simp;omega
  | none=>
   rw [j] at h;simp only at h;split at h
   ·obtain rfl:=Qs h
    simp
   ·cases h
theorem qbo (h:List Int):∀ {L C:List Tr},L.map ks2=C.map ks2->atV h L=atV h C
 | [],[],_=>rfl
 | [],q :: C,c=>by simp at c
 | t :: L,[],c=>by simp at c
 | t :: L,q :: C,c=>by
  simp only [List.map_cons,Q3] at c;unfold atV;rw [qbo h c.2];have z:t.1=q.1:=congrArg (fun y:Int×Int=>y.1) c.1;rw [z]
theorem qnl (L:List Tr) (k:Nat) (n:Int):(qsF L k n).map ks2=L.map ks2:=by
 unfold qsF;refine List.ext_getElem (by simp) fun e y h=>?_
 rw [Zo,Zo,List.getElem_set];have i:e<L.length:=by simpa using h
 split
 ·rename_i q
  subst q;rw [Ql,Qg i];rfl
 ·rfl
theorem qaT (h:List Int) (L:List Tr) (n:Int):(qdC h L n).map ks2=L.map ks2:=by
 unfold qdC;split
 ·exact qnl L _ n
 ·rfl
theorem qrE (L:List Tr) (k:Nat) (n:Int) (i:Nat) (q:i<L.length):(qsF L k n).getD i tr0=if i=k then ((L.getD i tr0).1,(L.getD i tr0).2.1,n) else L.getD i tr0:=by
 unfold qsF;rw [Ql,List.getElem?_set];by_cases e:k=i
 ·subst e
  rw [Qi rfl,Qi q,Qi rfl];rfl
 ·rw [Qe e,Qe (fun h=>e h.symm),Ql]
theorem qmq (h:List Int) (L:List Tr) (n:Int) (i:Nat) (y:i<L.length):(qdC h L n).getD i tr0=if atV h L=some i then ((L.getD i tr0).1,(L.getD i tr0).2.1,n) else L.getD i tr0:=by
 unfold qdC;cases k:atV h L with
 | none=>simp
 | some q=>
  simp only [Qv];rw [qrE L q n i y];by_cases e:i=q
  ·rw [Qi e,Qi e.symm]
  ·rw [Qe e,Qe (fun k=>e k.symm)]
theorem qar {L C:List Tr} (h:L.map ks2=C.map ks2):L.length=C.length:=by simpa using congrArg List.length h
theorem qcd {L C:List Tr} (z:L.map ks2=C.map ks2) (i:Nat) (y:i<L.length):(L.getD i tr0).1=(C.getD i tr0).1/\(L.getD i tr0).2.1=(C.getD i tr0).2.1:=by
 have E:i<C.length:=by rw [<- qar z];exact y
 have q:=congrArg (fun h=>h[i]?) z;simp only [Zi,Qg y,Qg E,Option.map_some,Qv] at q;rw [Ql,Ql,Qg y,Qg E];exact ⟨congrArg (fun h:Int×Int=>h.1) q,congrArg (fun h:Int×Int=>h.2) q⟩
theorem ql5 {L C:List Tr} (z:L.length=C.length) (q:∀ i,i<L.length->L.getD i tr0=C.getD i tr0):L=C:=by
 refine List.ext_getElem z fun i h y=>?_
 have:=q i h;rw [Ql,Ql,Qg h,Qg y] at this;exact this
theorem qbA {ex:Str} {L q:List Tr} {d n:Int} (h:qaW ex L d n=some q):q.map ks2=L.map ks2/\qcA (varsV ex).1 L d=true/\qcA (varsV ex).2 L n=true/\q=qdC (varsV ex).2.1 (qdC (varsV ex).1.1 L d) n:=by
 unfold qaW at h;split at h
 ·rename_i y
  obtain rfl:=Qs h;refine ⟨(qaT _ _ _).trans (qaT _ _ _),y.1,?_,rfl⟩;have z:=y.2;unfold qcA at z |-;rw [<- qbo (varsV ex).2.1 (qaT (varsV ex).1.1 L d)];exact z
 ·cases h
theorem qbm {ex:Str} {L:List Tr} (h:qbr ex L=true) (k:Nat) (q:k<L.length):qcY ex L k=true:=QA.1 h k (QZ.2 q)
theorem qd3 {ex:Str} {L h:List Tr} {d n:Int} (q:qaW ex L d n=some h) (i:Nat) (y:i<L.length) :
  h.getD i tr0=if atV (varsV ex).2.1 L=some i then ((L.getD i tr0).1,(L.getD i tr0).2.1,n) else if atV (varsV ex).1.1 L=some i then ((L.getD i tr0).1,(L.getD i tr0).2.1,d) else L.getD i tr0:=by
 obtain ⟨-,-,-,rfl⟩:=qbA q;have z:=qar (qaT (varsV ex).1.1 L d);rw [qmq _ _ _ _ (by omega),qbo (varsV ex).2.1 (qaT (varsV ex).1.1 L d),qmq _ _ _ _ y];split
 ·split <;> rfl
 ·rfl
theorem qiz {m ex:Str} {L:List Tr} (O:qbr ex L=true) (s:ByteArray) (C:List Tr):qnZ m L ex s C=qa9 m L ex s C:=by
 by_cases U:sB m=s
 rotate_left
 ·unfold qnZ qa9 qfg
  rw [Qh U];split <;> simp
 by_cases G:L.map ks2=C.map ks2
 rotate_left
 ·have k:qa9 m L ex s C=false:=by unfold qa9 qfg;rw [Qh G];simp
  rw [k];unfold qnZ;cases n:qaW ex L (qcX (varsV ex).1.1 C) (qcX (varsV ex).2.1 C) with
  | none=>rfl
  | some ad=>
   have ai:=(qbA n).1;have:ad≠C:=(fun ah=>G (by rw [<- ai,ah]));simp [this]
 have am:=qar G;have ae:=qbo (varsV ex).1.1 G;have af:=qbo (varsV ex).2.1 G;rw [Bool.eq_iff_iff];constructor
 ·intro z
  unfold qnZ at z;cases n:qaW ex L (qcX (varsV ex).1.1 C) (qcX (varsV ex).2.1 C) with
  | none=>rw [n] at z;cases z
  | some ad=>
   rw [n] at z;simp only [Qd,Qf] at z;obtain rfl:=z.2;unfold qa9 qfg;rw [Qn U,Qn G];simp only [Bool.and_self,Bool.true_and,QA,QZ];intro h y;have ag:h<L.length:=(by omega);have E:=qd3 n h ag;have e:=qbm O h ag;obtain ⟨-,K,J,-⟩:=qbA n;unfold qgW;unfold qcY at e;by_cases i:atV (varsV ex).1.1 L=some h
   ·rw [Qi i] at e
    simp only [Qd,beq_iff_eq,Qf] at e;rw [e.1.1,Qe (by decide),qbb,<- e.1.2];rw [Qe e.2,Qi i] at E;unfold qcA at K;rw [i] at K;rw [E];exact K
   ·rw [Qe i] at e
    by_cases k:atV (varsV ex).2.1 L=some h
    ·rw [Qi k] at e
     simp only [Qd,bne_iff_ne,Qf] at e;rw [Qe e.1.2,qbb,<- e.2];rw [Qi k] at E;unfold qcA at J;rw [k] at J;rw [E];exact J
    ·rw [Qe k] at e
     rw [Qi (by simpa using e)];rw [Qe k,Qe i] at E;rw [E];exact Qn rfl
 ·intro z
  unfold qa9 qfg at z;simp only [Qd,QA,QZ] at z;have W:∀ h,h<L.length->qgW ex L h (C.getD h tr0)=true:=fun h y=>z.2 h (by omega)
  have ab:∀ h,atV (varsV ex).1.1 L=some h->qcX (varsV ex).1.1 C=(C.getD h tr0).2.2:=fun h y=>by unfold qcX;rw [<- ae,y]
  have aa:∀ h,atV (varsV ex).2.1 L=some h->qcX (varsV ex).2.1 C=(C.getD h tr0).2.2:=fun h y=>by unfold qcX;rw [<- af,y]
  have K:qcA (varsV ex).1 L (qcX (varsV ex).1.1 C)=true:=by
   unfold qcA;cases i:atV (varsV ex).1.1 L with
   | none=>simp only;unfold qcX;rw [<- ae,i];exact Qn rfl
   | some h=>
    have y:=qc6 i;have e:=qbm O h y;have n:=W h y;unfold qcY at e;rw [Qi i] at e;simp only [Qd,beq_iff_eq,Qf] at e;unfold qgW at n;rw [e.1.1,Qe (by decide),qbb,<- e.1.2,<- ab h i] at n;exact n
  have J:qcA (varsV ex).2 (qdC (varsV ex).1.1 L (qcX (varsV ex).1.1 C)) (qcX (varsV ex).2.1 C)=true:=by
   unfold qcA;rw [qbo (varsV ex).2.1 (qaT (varsV ex).1.1 L _)];cases k:atV (varsV ex).2.1 L with
   | none=>simp only;unfold qcX;rw [<- af,k];exact Qn rfl
   | some h=>
    have y:=qc6 k;have e:=qbm O h y;have n:=W h y;unfold qcY at e;have i:¬atV (varsV ex).1.1 L=some h:=fun i=>by
     rw [Qi i] at e;simp only [Qd,Qf] at e;exact e.2 k
    rw [Qe i,Qi k] at e;simp only [Qd,bne_iff_ne,Qf] at e;unfold qgW at n;rw [Qe e.1.2,qbb,<- e.2,<- aa h k] at n;exact n
  have n:qaW ex L (qcX (varsV ex).1.1 C) (qcX (varsV ex).2.1 C)=some (qdC (varsV ex).2.1 (qdC (varsV ex).1.1 L (qcX (varsV ex).1.1 C)) (qcX (varsV ex).2.1 C)):=by
   unfold qaW;rw [Qi ⟨K,J⟩]
  unfold qnZ;rw [n];simp only [Qd,Qf];refine ⟨U,?_⟩;have ak:=(qbA n).1;have ao:=qar ak;refine ql5 (by omega) fun q an=>?_
  have M:q<L.length:=by omega
  have E:=qd3 n q M;have ac:=qcd G q M;rw [E];have e:=qbm O q M;have T:=W q M;unfold qcY at e;have Z:∀ V:Int,(C.getD q tr0).2.2=V->((L.getD q tr0).1,(L.getD q tr0).2.1,V)=C.getD q tr0:=fun V aj=>by rw [ac.1,ac.2,<- aj]
  by_cases k:atV (varsV ex).2.1 L=some q
  ·rw [Qi k]
   exact Z _ (aa q k).symm
  ·rw [Qe k]
   by_cases i:atV (varsV ex).1.1 L=some q
   ·rw [Qi i]
    exact Z _ (ab q i).symm
   ·rw [Qe i]
    rw [Qe i,Qe k] at e;unfold qgW at T;rw [Qi (by simpa using e)] at T;have:=Qo T;exact Z _ this.symm
def KsP (w:World) (A:Option Addr) (L:List Int):Prop:=L=[]\/∃ h k,A=some ⟨h,k,none⟩/\∀ b (q:b<L.length),w.cell? ⟨h,k+b,none⟩=some (.int .i64 L[b])
theorem KsP.below {w w':World} {A:Option Addr} {L:List Int} (z:KsP w A L) (E:Below w.heap.size w w'):KsP w' A L:=by
 rcases z with rfl | ⟨y,q,rfl,b⟩
 ·exact .inl rfl
 ·exact .inr ⟨y,q,rfl,fun h k=>(E.cell (Qq w _ (b h k))).trans (b h k)⟩
theorem KsP.at_ {w:World} {A:Option Addr} {L:List Int} (y:KsP w A L) {k:Nat} (q:k<L.length):∃ h b,A=some ⟨h,b,none⟩/\w.cell? ⟨h,b+k,none⟩=some (.int .i64 L[k]):=by
 rcases y with rfl | ⟨h,b,rfl,z⟩
 ·simp at q
 ·exact ⟨h,b,rfl,z k q⟩
theorem qno (A:Option Addr) (c n:Nat) (L:List Int) (J:L.length=n) (ac:n<=1000) (x:Int) (w:World) (H:KsP w A L) :
  Calls prog 249 #[.slice A n c,.int .i64 x] w fun e U=>(∃ i:Int,e=.returned (.int .i64 i)/\decide (0<=i)=decide (x∈L))/\U=w:=by
 have T:=J9 H;have G:=J9 J;clear H J
 go_enter func249,ntmps249
 go_wp2
 go_loopw [8] (fun i wr=>∃ h:Nat,h<=n/\i=.int .i64 h/\Hid (∀ a,a<h->∀ (z:a<L.length),L[a]≠x)/\Hid (wr=w)) (fun i _=>n - (intOf i).toNat)
 case atStart=>exact ⟨0,Qu _,rfl,fun a aa=>by omega,rfl⟩
 case round=>
  obtain ⟨h,X,rfl,k,y⟩:=hrel;by_cases ae:h<n
  ·have q:h<L.length:=by have:=G.o;omega
   obtain ⟨ad,Z,W,E⟩:=T.o.at_ q;rw [<- y.o] at E;subst W;by_cases j:L[h]=x
   ·have B:Hid (x∈L):=j ▸ QJ q
    have O:=j.symm;rw [j] at E;clear j O q k;go_wp2;go_ret;exact ⟨⟨_,rfl,by rw [Qn B.o];exact Qn (by omega)⟩,y.o⟩
   ·have R2:Hid (∀ a,a<h+1->∀ (z:a<L.length),L[a]≠x):=fun a M z=>by
     by_cases e:a=h
     ·subst e;exact j
     ·exact k.o a (by omega) z
    obtain ⟨R,K⟩:=N9 (L[h]);rw [K] at E j;have ab:(x == R)=false:=Qm.2 fun e=>j e.symm
    clear K j q k;go_wp2;go_roundw
    case rel=>exact ⟨h+1,by omega,by go_num,R2.o,y.o⟩
    case measure=>simp [intOf];omega
  ·have B:Hid (x∉L):=fun V=>by
    obtain ⟨a,M,j⟩:=Ze V;exact k.o a (by have:=G.o;omega) M j
   clear k;go_wp2;go_ret;exact ⟨⟨_,rfl,by rw [Qh B.o];rfl⟩,y.o⟩
theorem qib (A:Option Addr) (c n:Nat) (L:List Int) (h:L.length=n) (E:n<=1000) (x:Int) (w:World) (H:KsP w A L) :
  Calls prog 228 #[.slice A n c,.int .i64 x] w fun q z=>q=.returned (.bool (decide (x∈L)))/\z=w:=by
 have e:=J9 (qno A c n L h E x w H);obtain ⟨K,y⟩:=N9 (decide (x∈L));rw [y] at e |-;clear H y h
 go_enter func228,ntmps228
 go_wp2_with fail
 refine e.o.mono ?_;rintro q M ⟨⟨J,rfl,i⟩,rfl⟩;have G:=J9 i;clear e;clear i;go_wp2;go_ret;exact ⟨qab G.o,rfl⟩
def qdV (w:World) (v:Value) (x:Vr):Prop:=∃ y h q z A,v=.agg #[.func (.func 227) #[] #[.pointer (some ⟨y,0,none⟩)],.func (.func 229) #[] #[.pointer (some ⟨h,0,none⟩),.pointer (some ⟨q,0,none⟩)]]/\
 Boxed w y 168 (.slice z x.1.length A)/\KsP w z x.1/\Boxed w h 3 (.int .i64 x.2.1)/\Boxed w q 3 (.int .i64 x.2.2)/\x.1.length<=1000
theorem Boxed.under {w w':World} {b:Nat} {t:TypeId} {v:Value} (h:Boxed w b t v) (q:Below w.heap.size w w'):Boxed w' b t v:=(q.block b h.lt).trans h
theorem qdV.below {w w':World} {v:Value} {x:Vr} (y:qdV w v x) (h:Below w.heap.size w w'):qdV w' v x:=by
 obtain ⟨K,z,A,M,O,rfl,q,E,J,G,T⟩:=y;exact ⟨K,z,A,M,O,rfl,Boxed.under q h,E.below h,Boxed.under J h,Boxed.under G h,T⟩
theorem qbx (A:Option Addr) (n cap:Nat) (w:World):Calls prog 194 #[.slice A n cap] w fun h e=>h=.returned (.func (.func 227) #[] #[.pointer (some ⟨w.heap.size,0,none⟩)])/\w.alloc (.cells #[.slice A n cap] 168)=e:=by
 go_enter func194,ntmps194
 go_wp2;go_ret;exact ⟨rfl,rfl⟩
theorem qbU (e h:Int) (w:World):Calls prog 195 #[.int .i64 e,.int .i64 h] w fun y q=>y=.returned (.func (.func 229) #[] #[.pointer (some ⟨w.heap.size,0,none⟩),.pointer (some ⟨w.heap.size+1,0,none⟩)])/\(w.alloc (.cells #[.int .i64 e] 3)).alloc (.cells #[.int .i64 h] 3)=q:=by
 go_enter func195,ntmps195
 go_wp2;go_ret;exact ⟨rfl,rfl⟩
theorem qtb (C:Nat) (A:Option Addr) (cap n:Nat) (L:List Int) (M:L.length=n) (Z:n<=1000) (t:Tr) (w:World) (z:Boxed w C 168 (.slice A n cap)) (T:KsP w A L) :
  Calls prog 227 #[.agg #[.int .i64 t.1,.int .i64 t.2.1,.int .i64 t.2.2],.pointer (some ⟨C,0,none⟩)] w fun K V=>K=.returned (.bool (decide (t.1∈L)))/\Below w.heap.size w V:=by
 obtain ⟨e,h,q⟩:=t;simp only;have y:Below w.heap.size w (w.alloc (.cells #[.int .i64 e,.int .i64 h,.int .i64 q] 56)):=B0;have E:=J9 (qib A cap n L M Z e _ (T.below y));have U:=(Boxed.under z y).cell;have ae:C≠w.heap.size:=by have:=z.lt;omega
 have O:=J9 y;obtain ⟨ad,J⟩:=N9 (decide (e∈L));rw [J] at E |-;obtain ⟨aa,B⟩:=N9 (w.alloc (.cells #[.int .i64 e,.int .i64 h,.int .i64 q] 56));have G:(w.alloc (.cells #[.int .i64 e,.int .i64 h,.int .i64 q] 56)).heap[w.heap.size]?=some (.cells #[.int .i64 e,.int .i64 h,.int .i64 q] 56 (0,0)):=World.alloc_heap_new w _;rw [B] at U G E O;have ac:=C9 G 0;have W:=J9 B;clear y z T J M G B
 go_enter func227,ntmps227
 go_upto_region 1 with fail
 rw [W.o]
 go_wp2_with fail
 refine E.o.mono ?_;rintro K ab ⟨rfl,rfl⟩;go_wp2;go_ret;exact ⟨rfl,O.o⟩
theorem qu4 (v:Vr) (n:Int):qcF v.2.1 v.2.2 [n]=inV v n:=by
 unfold inV;by_cases h:v.2.1<=n/\n<=v.2.2
 ·rw [qco _ _ _ h.1 h.2,Qn h.1,Qn h.2];rfl
 ·rw [qfu _ _ _ (by omega)]
  by_cases q:v.2.1<=n
  ·rw [Qn q,Qh (fun y=>h ⟨q,y⟩)];rfl
  ·rw [Qh q];rfl
theorem qoj (h y:Nat) (v:Vr) (n:Int) (w:World) (e:Boxed w h 3 (.int .i64 v.2.1)) (q:Boxed w y 3 (.int .i64 v.2.2)) :
  Calls prog 229 #[.int .i64 n,.pointer (some ⟨h,0,none⟩),.pointer (some ⟨y,0,none⟩)] w fun B G=>B=.returned (.bool (inV v n))/\Below w.heap.size w G:=by
 have E:Below w.heap.size w (w.alloc (.cells #[.int .i64 n] 3)):=B0;have z:=J9 (qcH v.2.1 v.2.2 n w.heap.size (inV v n) (qu4 v n) (w.alloc (.cells #[.int .i64 n] 3)) (by simp [go_sem]));have J:=J9 E;have M:=e.cell;have K:=q.cell;obtain ⟨O,C⟩:=N9 (inV v n);rw [C] at z |-;clear E e q C
 go_enter func229,ntmps229
 go_wp2_with fail
 refine z.o.mono ?_;rintro B T ⟨rfl,rfl⟩;go_wp2;go_ret;exact ⟨rfl,J.o⟩
end Go.Proofs.YtecpnfhpcamljaaGreatDoor
namespace Go.Stops
open Go Go.RowKit
def qBI {q:Type} (F:Fence) (n:Nat) (P:Program) (g:Nat) (lb:Array Value) (O:q->Array Value) (J:List q->q->World->Prop) (K:World->World->Prop) (S:List q->Prop) (w:World):Prop:=
 ∀ (E:Nat) (v z:List q->World->Prop) (l:World),Below w.heap.size w l->AbidesFrom l.heap.size v->
  (∀ e y W1,v e W1->J e y W1->YieldAt F (n - 1) P E (O y) W1 fun x h=>(x=.returned (.bool true)/\v (e++[y]) h/\K W1 h)\/(x=.returned (.bool false)/\z (e++[y]) h))->
  AbidesFrom l.heap.size z->v [] l->CallsIn F n P g (#[.func (.yield E) #[] #[]]++lb) l fun x h=>(∃ M,x=.returned M)/\((∃ G,S G/\v G h)\/∃ e,z e h)
variable {F:Fence} {n:Nat} {P:Program}
theorem qBs {j:Type} {g:Operand} {ps:Array Tmp} {assign body:Code} {Q:Exit->Act->World->Prop} {a:Act} {w:World} (aV:F.round=none) (aM:1<=n)
  {gf:Nat} {lb:Array Value} (aG:a.eval g=.func (.func gf) #[] lb) (aT:F.fn gf) (ay:∀ args w,(callFunc gf args).run P w=.ok (.enter gf args) w)
  {ad:j->Array Value} {ak:List j->j->World->Prop} {E:World->World->Prop} {S:List j->Prop} (a3:qBI F (n - 1) P gf lb ad ak E S w)
  (ai:∀ {A B C:World},E A B->E B C->E A C) (am:∀ (e:World) (l:Nat) (o aP:Obj),w.heap.size<=l->e.heap[l]?=some o->o.isCells=false->E e (e.putObj l aP)) (ax:∀ x,(ad x).size=ps.size)
  (I ac:List j->World->Prop) (R:OwnFrom w.heap.size I) (ae:OwnFrom w.heap.size ac) (aR:I [] w) (aa:List j->j->Act->World->Prop) (aL:∀ p x,OwnFrom w.heap.size (aa p x))
  (aQ:∀ (l:Nat) (h:List j) (x:j) (e:World) (an:Act->World->Prop),I h e->ak h x e->(∀ G X,KeepsFrom w.heap.size e X->E e X->I h X->aa h x G X->an G X)->
   assign.wpIn (F.inRound l) (n - 1 - 1) P (Exit.then an (fun _ _ _=>False)) {tmps:=(ps.zip (ad x)).foldl (fun t (p,v)=>t.setIfInBounds p v) a.tmps,defers:=[]} e)
  (az:∀ (l:Nat) (h:List j) (x:j) (G:Act) (e:World),I h e->aa h x G e->body.wpIn (F.inRound l) (n - 1 - 1) P (qmw w.heap.size E I ac (h++[x]) e) G e)
  (aO:∀ (D:Nat) (xs:List j) (e:World),w.heap.size<=D->S xs->I xs e->e.heap[D]?=some (.deferred (some []))->Q .normal {a with defers:={target:=.collected D,args:=#[]} :: a.defers} e)
  (aC:∀ (D:Nat) (h:List j) (e:World),w.heap.size<=D->ac h e->e.heap[D]?=some (.deferred (some []))->Code.ret.wpIn F n P Q {a with defers:={target:=.collected D,args:=#[]} :: a.defers} e) :
  (Code.rangeFunc g ps assign body).wpIn F n P Q a w:=by
 refine wpIn_rangeFunc fun fn aB=>?_
 rw [aV];let s:LoopState->Option Code->Loop:=fun aY aU=>{state:=aY,pending:=aU,fn:=fn,tmps:=a.tmps,params:=ps,assign:=assign,body:=body,defers:=w.heap.size}
 let B:World:=(w.alloc (.deferred (some []))).alloc (.loop (s .ready none));have aW:B.heap[w.heap.size]?=some (.deferred (some [])):=(Below.heap_alloc _ _ _ (by simp)).trans (World.alloc_heap_new w _);have aH:B.heap[w.heap.size+1]?=some (.loop (s .ready none)):=by
  have aF:=World.alloc_heap_new (w.alloc (.deferred (some []))) (.loop (s .ready none))
  rwa [QB] at aF
 have aS:I [] B:=R.alloc _ (R.alloc _ aR);have aN:Below w.heap.size w B:=((B0 (w:=w))).alloc (by simp) _;have a7:B.heap.size=w.heap.size+1+1:=by simp [B]
 -- what a turn of a walk of the iterator's own leaves of the two blocks
 have walk:∀ {r Y:World} {row:Option Nat} {ag:Nat} {o:Obj},r.grownBy Y row->(∀ k,row=some k->B.heap.size<=k/\∃ o:Obj,r.heap[k]?=some o/\o.isWalk=true)->r.heap[ag]?=some o->ag<w.heap.size+2->Y.heap[ag]?=some o:=fun z q ap a9=>
  (z.block _ (Qb.1 ap).1 fun ab=>by have:=(q _ ab.symm).1;omega).trans ap
 have au:∀ {r Y:World} {row:Option Nat},(∀ k,row=some k->B.heap.size<=k/\∃ o:Obj,r.heap[k]?=some o/\o.isWalk=true)->(∀ k,row=some k->w.heap.size<=k/\∃ o:Obj,r.heap[k]?=some o/\o.isCells=false):=fun q k ab=>by
  obtain ⟨a5,o,aJ,a1⟩:=q k ab;exact ⟨by omega,o,aJ,Obj.not_cells_of_walk a1⟩
 refine ⟨w.heap.size+1,[{target:=.collected w.heap.size,args:=#[]}],B,{target:=.fn (.func gf) lb,args:=#[.func (.yield (w.heap.size+1)) #[] #[]]},B,gf,#[.func (.yield (w.heap.size+1)) #[] #[]]++lb,B,
  run_enterLoop_outer _ _ _ _ _,by simp only [resolve,aG];simp [go_sem],fun a6 ao=>by simp [Target.leads] at ao;subst ao;exact aT,by simp [invoke,go_sem,ay],fun _=>aM,?_⟩
 refine (a3 (w.heap.size+1) (fun h e=>I h e/\e.heap[w.heap.size+1]?=some (.loop (s .ready none))/\e.heap[w.heap.size]?=some (.deferred (some [])))
  (fun h e=>ac h e/\e.heap[w.heap.size+1]?=some (.loop (s .done (some .ret)))/\e.heap[w.heap.size]?=some (.deferred (some []))) B aN ?_ ?_ ?_ ⟨aS,aH,aW⟩).mono ?_
 ·rintro aj r Y row ⟨V,T,W⟩ z q
  exact ⟨R aj r Y row V z (au (Y:=Y) q),walk z q T (by omega),walk z q W (by omega)⟩
 ·rintro h x e ⟨V,T,W⟩ a4
  refine ⟨fn,_,assign,body,run_yield (P:=P) (args:=ad x) T (ax x),roundIn_of_wpIn aB (aQ _ h x e _ V a4 fun G ah av aK aE a0=>?_)⟩;have Z:=av.same _ _ (by omega) T rfl;have aw:=av.same _ _ (Qa _) W rfl;have aX:w.heap.size+1<ah.heap.size:=(Qb.1 Z).1;refine ⟨_,run_beginRound Z rfl,?_⟩;obtain ⟨U,O⟩:=N9 (ah.putObj (w.heap.size+1) (.loop {s .ready none with state:=.busy}));have aq:U.heap[w.heap.size+1]?=some (.loop {s .ready none with state:=.busy}):=O ▸ World.putObj_heap_same aX;have ar:U.heap[w.heap.size]?=some (.deferred (some [])):=O ▸ (World.putObj_heap_other (by omega)).trans aw;have aA:I h U:=O ▸ R.putObj _ aE (by omega) Z rfl;have a2:aa h x G U:=O ▸ (aL h x).putObj _ a0 (by omega) Z rfl;have aZ:E e U:=ai aK (O ▸ am _ _ _ _ (by omega) Z rfl);show body.wpIn _ _ _ _ _ (ah.putObj (w.heap.size+1) (.loop {s .ready none with state:=.busy}));rw [O];refine wpIn_mono (az _ h x G U aA a2) ?_;rintro (_ | _ | _ | _ | _ | _) a8 aI af
  case normal=>
   obtain ⟨y,K,M⟩:=af;have J:=y.same _ _ (by omega) aq rfl;exact ⟨_,_,run_endRound (P:=P) none J,.inl ⟨rfl,⟨R.putObj _ M (by omega) J rfl,World.putObj_heap_same (Qb.1 J).1,(World.putObj_heap_other (by omega)).trans (y.same _ _ (Qa _) ar rfl)⟩,ai (ai aZ K) (am _ _ _ _ (by omega) J rfl)⟩⟩
  case ret=>
   obtain ⟨y,M⟩:=af;have J:=y.same _ _ (by omega) aq rfl;exact ⟨_,_,run_endRound (P:=P) (some .ret) J,.inr ⟨rfl,ae.putObj _ M (by omega) J rfl,World.putObj_heap_same (Qb.1 J).1,(World.putObj_heap_other (by omega)).trans (y.same _ _ (Qa _) ar rfl)⟩⟩
  all_goals exact af.elim
 ·rintro aj r Y row ⟨V,T,W⟩ z q
  exact ⟨ae aj r Y row V z (au (Y:=Y) q),walk z q T (by omega),walk z q W (by omega)⟩
 ·rintro ab aI ⟨⟨v,rfl⟩,(⟨xs,aD,y,K,M⟩ | ⟨h,y,K,M⟩)⟩
  ·exact ⟨none,_,run_endLoop (P:=P) K (by simp [s]),aO _ xs _ (Qa _) aD (R.putObj _ y (by omega) K rfl) ((World.putObj_heap_other (by omega)).trans M)⟩
  ·exact ⟨some .ret,_,run_endLoop (P:=P) K (by simp [s]),aC _ h _ (Qa _) (ae.putObj _ y (by omega) K rfl) ((World.putObj_heap_other (by omega)).trans M)⟩
end Go.Stops
namespace Go.Proofs.YtecpnfhpcamljaaGreatDoor
open Tryz
open Go.RowKit
attribute [local go_sem] Oper.semAt_some
theorem qic {q:List Int}:∀ {L:List Tr},(∀ j,j<L.length->(L.getD j tr0).1∉q)->atV q L=none
 | [],_=>rfl
 | t :: r,h=>by
  unfold atV;rw [qic (L:=r) (fun j y=>by have:=h (j+1) (by simp;omega);rwa [List.getD_cons_succ] at this)];exact Qe (h 0 (by simp))
theorem qlY {y:List Int}:∀ {L:List Tr} {k:Nat},k<L.length->(L.getD k tr0).1∈y->(∀ j,k<j->j<L.length->(L.getD j tr0).1∉y)->atV y L=some k
 | [],k,z,_,_=>by simp at z
 | t :: r,0,_,h,q=>by
  unfold atV;rw [qic (L:=r) (fun j E=>by have:=q (j+1) (by omega) (by simp;omega);rwa [List.getD_cons_succ] at this)];exact Qi h
 | t :: r,k+1,z,h,q=>by
  unfold atV;rw [List.getD_cons_succ] at h;rw [qlY (L:=r) (by simpa using z) h (fun j E G=>by have:=q (j+1) (by omega) (by simp;omega);rwa [List.getD_cons_succ] at this)]
def atI (k:List Int) (L:List Tr):Int:=match atV k L with
 | some h=>h
 | none=>-1
def qdd (N:Nat) (q k:World):Prop:=∀ h,h<N->k.heap[h]?=q.heap[h]?
theorem qdd.trans {N:Nat} {A B C:World} (x:qdd N A B) (k:qdd N B C):qdd N A C:=fun h q=>(k h q).trans (x h q)
theorem qdd.of_below {N B:Nat} {k h:World} (q:Below B k h) (E:N<=B):qdd N k h:=fun y z=>q.block y (by omega)
theorem qdd.put {N:Nat} (h:World) (l:Nat) (k:Obj) (q:N<=l):qdd N h (h.putObj l k):=fun y z=>World.putObj_heap_other (by omega)
theorem qdd.cell {N:Nat} {q h:World} (z:qdd N q h) {a:Addr} (y:a.block<N):h.cell? a=q.cell? a:=Q1 (z _ y)
theorem qai.qBP {N:Nat} {y z:World} {A:Option Addr} {L:List Tr} (j:qai y A L) (k:qdd N y z) (G:∀ a,A=some a->L≠[]->a.block<N):qai z A L:=by
 by_cases q:L=[]
 ·exact .inl q
 rcases j with j | ⟨b,M,rfl,K⟩
 ·exact absurd j q
 ·have h:b<N:=G _ rfl q
  refine .inr ⟨b,M,rfl,fun U E=>?_⟩;obtain ⟨J,T,O⟩:=K U E;exact ⟨(k.cell (a:=⟨b,_,none⟩) h).trans J,(k.cell (a:=⟨b,_,none⟩) h).trans T,(k.cell (a:=⟨b,_,none⟩) h).trans O⟩
def qxa (t:Tr):Value:=.agg #[.int .i64 t.1,.int .i64 t.2.1,.int .i64 t.2.2]
def qvA (L:List Tr) (h:List (Nat×Tr)) (x:Nat×Tr) (q:World):Prop:=h.length<L.length/\x.1=L.length - 1 - h.length/\x.2=L.getD x.1 tr0
theorem qj1 (A:Option Addr) (n cap:Nat) (w:World):Calls prog 230 #[.slice A n cap] w fun h e=>h=.returned (.func (.func 250) #[] #[.pointer (some ⟨w.heap.size,0,none⟩)])/\w.alloc (.cells #[.slice A n cap] 22)=e:=by
 go_enter func230,ntmps230
 go_wp2;go_ret;exact ⟨rfl,rfl⟩
theorem qnb (n:Nat) (h:Nat) (A:Option Addr) (cap l:Nat) (L:List Tr) (ai:L.length=l) (aT:l<=1000) (N:Nat) (w:World) (ar:Boxed w h 22 (.slice A l cap)) (aa:qai w A L) (aL:h<N) (X:∀ a,A=some a->L≠[]->a.block<N) (az:N<=w.heap.size) :
  Stops.qBI Fence.wide n prog 250 #[.pointer (some ⟨h,0,none⟩)] (fun x:Nat×Tr=>#[.int .i64 x.1,qxa x.2]) (qvA L) (qdd N) (fun ys=>ys.length=L.length) w:=fun aD E aP t T ak aq aH ap=>by
 have af:∀ (ae:Nat) (j:List (Nat×Tr)) (m:World),E j m->E j (m.drewN ae):=fun ae j m i=>ak j m _ none i ⟨rfl,rfl,rfl,Qa _,fun _ _ _=>rfl⟩ (fun aX aF=>by cases aF)
 have O:Boxed t h 22 (.slice A l cap):=Boxed.under ar T;have Z:qai t A L:=aa.below T;have an:=O.cell;have aN:=J9 O;have aC:=J9 Z;have ac:=J9 ap;have aG:=J9 aq;have r:=J9 ai;have ay:=J9 X;have aQ:=J9 af;clear ap aq ak aH T ar aa O Z ai X az af;refine callsIn_wide.2 ?_;show Calls prog 250 #[.func (.yield aD) #[] #[],.pointer (some ⟨h,0,none⟩)] t _
 go_enter func250,ntmps250
 go_wp2
 go_loopw [3] (fun K wr=>∃ (e:List (Nat×Tr)),e.length<=l/\K=.int .i64 ((l:Int) - 1 - (e.length:Int))/\Hid (qdd N t wr)/\Hid (E e wr)) (fun K _=>(intOf K+1).toNat)
 case atStart=>exact ⟨[],Qu _,by simp,fun _ _=>rfl,ac.o⟩
 case round=>
  clear ac an;obtain ⟨e,aJ,rfl,J,ad⟩:=hrel;by_cases aw:e.length<l
  ·obtain ⟨b,aj⟩:∃ b:Nat,b=l - 1 - e.length:=⟨_,rfl⟩
   have q:(l:Int) - 1 - (e.length:Int)=(b:Int):=(by omega);have M:b<L.length:=(by have:=r.o;omega);obtain ⟨ax,aI,rfl,-,z,G,U⟩:=(aC.o.qBP J.o ay.o).at_ M;have ab:L.getD b tr0=L[b]:=(by rw [Ql,Qg M];rfl);rw [<- ab] at z G U;have y:Hid (qvA L e (b,L.getD b tr0) wr):=⟨by rw [r.o];exact aw,by rw [r.o];exact aj,rfl⟩;obtain ⟨aA,av⟩:=N9 (L.getD b tr0);rw [av] at z G U y;obtain ⟨ao,au,ag⟩:=aA;simp only at z G U;have aW:b<l:=(by omega);have aS:(b:Int)<(l:Int):=(by omega);have an:wr.cell? ⟨h,0,none⟩=some (.slice (some ⟨ax,aI,none⟩) l cap):=(J.o.cell (a:=⟨h,0,none⟩) aL).trans aN.o.cell;have aK:=aG.o e (b,ao,au,ag) wr ad.o y.o;have W:Hid (e.length+1+b=l):=(by show e.length+1+b=l;omega);rw [q];obtain ⟨aV,tmps,assign,body,V,P⟩:=aK;simp only [qxa] at V;clear q ab av M y aw aJ aj
   go_upto_region 3 with fail
   refine (wpIn_wide (n:=n)).1 ?_
   gi_wp2
   refine ⟨fun i=>(by cases i),P.mono ?_⟩;rintro aR aU (⟨rfl,ah,am⟩ | ⟨rfl,aO⟩)
   ·have aM:=J9 (J.o.trans am)
    have aB:=J9 ah;clear ah am P V
    gi_wp2
    go_wp2;go_roundw
    case rel=>exact ⟨e++[(b,ao,au,ag)],by have:=W.o;simp;omega,by have:=W.o;simp;omega,aM.o,aB.o⟩
    case measure=>simp [intOf]
   ·clear P V
    gi_wp2
    go_wp2;refine bodyPost_ret (results_none rfl _ _ _) rfl ?_;exact ⟨⟨_,rfl⟩,.inr ⟨_,aO⟩⟩
  ·have aE:Hid (e.length=L.length):=by have:=r.o;show _=_;omega
   have q:(l:Int) - 1 - (e.length:Int)=-1:=(by omega);rw [q];go_wp2
   go_end0
   have i:=ad.o;exact ⟨⟨_,rfl⟩,.inl ⟨_,aE.o,i⟩⟩
theorem qqR (x:Vr) (v:Value) (s:ByteArray) (A:Option Addr) (cap l:Nat) (L:List Tr) (ao:L.length=l) (bt:l<=1000) (w:World) (bq:qdV w v x) (H:qai w A L) :
  Calls prog 197 #[v,.agg #[.string s,.slice A l cap]] w fun f U=>f=.returned (.int .i64 (atI x.1 L))/\Below w.heap.size w U:=by
 obtain ⟨V,J,aq,aF,bg,rfl,aL,aM,bE,bv,aT⟩:=bq;obtain ⟨k,bm⟩:=N9 (x.1);rw [bm] at aL aM aT |-;clear bm bE bv;obtain ⟨a1,ar⟩:∃ bs:Value,Value.func (.func 229) #[] #[.pointer (some ⟨J,0,none⟩),.pointer (some ⟨aq,0,none⟩)]=bs:=⟨_,rfl⟩;obtain ⟨E,P⟩:=N9 (((w.alloc (.cells #[.func (.func 227) #[] #[.pointer (some ⟨V,0,none⟩)],.func (.func 229) #[] #[.pointer (some ⟨J,0,none⟩),.pointer (some ⟨aq,0,none⟩)]] 199)).alloc (.cells #[.string s,.slice A l cap] 24)).alloc (.cells #[.int .i64 0] 3));obtain ⟨n,G⟩:=N9 (w.heap.size);have aC:E.heap.size=n+1+1+1:=by rw [<- P,<- G];simp
 have a5:Below n w E:=by rw [<- P,<- G];exact (((B0 (w:=w))).alloc (by simp) _).alloc (by simp;omega) _
 have aZ:E.heap[n]?=some (.cells #[.func (.func 227) #[] #[.pointer (some ⟨V,0,none⟩)],a1] 199 (0,0)):=by
  rw [<- P,<- G,<- ar];exact (Below.heap_alloc _ _ _ (by simp;omega)).trans ((Below.heap_alloc _ _ _ (by simp)).trans (World.alloc_heap_new w _))
 have aY:E.heap[n+1]?=some (.cells #[.string s,.slice A l cap] 24 (0,0)):=by
  rw [<- P,<- G];refine (Below.heap_alloc _ _ _ (by simp)).trans ?_;have e:=World.alloc_heap_new (w.alloc (.cells #[.func (.func 227) #[] #[.pointer (some ⟨V,0,none⟩)],.func (.func 229) #[] #[.pointer (some ⟨J,0,none⟩),.pointer (some ⟨aq,0,none⟩)]] 199)) (.cells #[.string s,.slice A l cap] 24)
  rwa [QB] at e
 have aN:Boxed E (n+1+1) 3 (.int .i64 0):=by
  rw [<- P,<- G];have e:=Boxed.new ((w.alloc (.cells #[.func (.func 227) #[] #[.pointer (some ⟨V,0,none⟩)],.func (.func 229) #[] #[.pointer (some ⟨J,0,none⟩),.pointer (some ⟨aq,0,none⟩)]] 199)).alloc (.cells #[.string s,.slice A l cap] 24)) 3 (.int .i64 0)
  rwa [QB,QB] at e
 rw [ar] at P;have aP:=qj1 A l cap E;rw [aC] at aP;have bo:=C9 aY 1;refine callsIn_wide.1 (callsIn_of_wp_marks (n:=3) func197 rfl trivial ?_ rfl);simp only [ntmps197,List.size_toArray,Qt,QP,Nat.reduceAdd,Nat.reduceSub,Array.replicate_succ,Array.replicate_zero,List.push_toArray,List.append_toArray,List.nil_append,Zn];refine wpIn_wide.2 ?_;rw [ar]
 go_wp2_with fail
 refine aP.mono ?_;rintro f D ⟨rfl,an⟩;have bi:Boxed D (n+1+1+1) 22 (.slice A l cap):=by
  have e:=Boxed.new E 22 (.slice A l cap);rw [an,aC] at e;exact e
 have aV:D.heap.size=n+1+1+1+1:=by rw [<- an];simp;omega
 have ap:Below E.heap.size E D:=by rw [<- an];exact B0
 have Z:=(ap.block n (by omega)).trans aZ;have bb:Boxed D (n+1+1) 3 (.int .i64 0):=(ap.block _ aN.lt).trans aN;have ae:=a5.trans (ap.mono (by omega));have be:qai D A L:=H.below (by rw [G];exact ae);have aW:∀ ad,A=some ad->L≠[]->ad.block<n:=fun ad bu au=>by
  rcases H with e | ⟨bk,bT,f,O⟩
  ·exact absurd e au
  ·rw [bu] at f
   obtain rfl:=Qs f;have bR:bk<w.heap.size:=Qq w _ (O 0 (Zp.2 au)).1;show bk<n;omega
 have bj:Boxed D V 168 (.slice aF k.length bg):=Boxed.under aL (by rw [G];exact ae);have a7:KsP D aF k:=aM.below (by rw [G];exact ae);have aS:=qnb 2 (n+1+1+1) A cap l L ao bt (n+1+1+1+1) D bi be (by omega) (fun ad j r=>by have:=aW ad j r;omega) (by omega);have Y:=J9 ao;have aw:=J9 G;have a6:=J9 ae;have bJ:=J9 Z;have a0:=J9 bb;have bx:=J9 bj;have bH:=J9 a7;have br:=J9 aT;clear aP bi ap a5 aZ aY aN an P G aC ao aW H be aL aM bj a7 aT bo E Z bb ae ar
 go_wp2_with fail
 refine wpIn_wide.1 (Stops.qBs (F:=Fence.wide) (n:=3) rfl (by omega) (gf:=250) (lb:=#[.pointer (some ⟨n+1+1+1,0,none⟩)]) rfl trivial (enters_of func250 (by kernel_rfl) rfl)
  aS (fun e b=>e.trans b) (fun a l bM bA ao _ _=>qdd.put a l bA (by omega)) (fun _=>rfl)
  (fun z a=>(∀ h,l<=h+z.length->h<l->(L.getD h tr0).1∉k)/\Below (n+1+1+1+1) D a)
  (fun z a=>∃ b,atV k L=some b/\Boxed a (n+1+1) 3 (.int .i64 (b:Nat))/\Below n w a)
  (fun s aX ax row e y ac=>⟨e.1,e.2.grown y (by have:=e.2.size;omega) fun ag f=>by have:=(ac ag f).1;omega⟩)
  (fun s aX ax row e y ac=>by
   obtain ⟨b,j,r,aB⟩:=e;have au:∀ b,b<n+1+1+1+1->some b≠row:=fun b bS f=>by have:=(ac b f.symm).1;omega
   exact ⟨b,j,r.kept y (au _ (by omega)),aB.grown y (by have:=r.lt;omega) fun ag f=>by have:=(ac ag f).1;omega⟩)
  ⟨fun h j r=>by simp at j;omega,Qc _ _⟩
  (fun z x bf a=>qvA L z x a/\∃ W,n+4<=W/\a.heap[W]?=some (.cells #[.int .i64 x.2.1,.int .i64 x.2.2.1,.int .i64 x.2.2.2] 56 (0,0))/\bf={tmps:=#[.agg #[.func (.func 227) #[] #[.pointer (some ⟨V,0,none⟩)],a1],.agg #[.string s,.slice A l cap],.pointer (some ⟨n,0,none⟩),.pointer (some ⟨n+1,0,none⟩),.pointer (some ⟨n+1+1,0,none⟩),.int .i64 x.1,.pointer (some ⟨W,0,none⟩),.pointer (some ⟨n+1,1,none⟩),.slice A l cap,.func (.func 250) #[] #[.pointer (some ⟨n+1+1+1,0,none⟩)],.int .i64 x.1,qxa x.2,undef,undef,undef,undef,undef],defers:=[]})
  (fun z x s aX ax row e y ac=>by
   obtain ⟨bC,W,j,r,aB⟩:=e;exact ⟨bC,W,j,(grownBy_keeps_cells y (fun ag f=>(ac ag f).2) r rfl).trans r,aB⟩)
  ?assign ?body ?done ?stop)
 case assign=>
  rintro aJ z ⟨b,aa,aQ,aH⟩ a bO af az M;simp only [qxa]
  gi_wp2
  refine M _ _ ((KeepsOthers.alloc _ _).from _) (qdd.of_below ((Qc (n+1+1+1+1) a).alloc (by have:=af.2.size;omega) _) (Qa _)) ⟨af.1,af.2.alloc (by have:=af.2.size;omega) _⟩ ⟨az,a.heap.size,by have:=af.2.size;omega,World.alloc_heap_new a _,rfl⟩
 case body=>
  rintro aJ z ⟨b,aa,aQ,aH⟩ bf a ⟨X,o⟩ ⟨az,W,q,O,rfl⟩;obtain ⟨av,aj,ak⟩:=az;simp only at av aj ak O;have bK:=C9 O 0;have bP:=C9 O 1;have am:=C9 O 2;have Z:=(o.block n (by omega)).trans bJ.o;have bL:=C9 Z 0;have T:=qtb V aF bg k.length k rfl br.o (aa,aQ,aH) a (Boxed.under bx.o (by rw [aV];exact o)) (bH.o.below (by rw [aV];exact o));simp only at T;have ay:Hid (z.length<l):=by rw [<- Y.o];exact av
  have aG:Hid (b=l - 1 - z.length):=by rw [<- Y.o];exact aj
  have bc:Hid ((L.getD b tr0).1=aa):=by show (L.getD b tr0).1=aa;rw [<- ak]
  have ah:=J9 (Zb X (Zb o q));have aD:Hid (n+4<=a.heap.size):=by have:=o.size;show _<=_;omega
  simp only [qxa];by_cases ab:aa∈k
  ·have aO:=J9 ab
   rw [Qn ab] at T;have a8:Boxed a (n+1+1) 3 (.int .i64 0):=(o.block _ (by omega)).trans a0.o;have aE:=J9 a8;clear O Z X o q av aj ak ab a8
   gi_wp2_with fail
   refine ⟨trivial,CallsIn.inRound aJ (callsIn_wide.2 T) |>.mono ?_⟩;rintro f U ⟨rfl,q⟩;have ai:=Boxed.under aE.o q;have bI:=ai.cell;have bB:=ai.frozen;have ax:=J9 ai;have aR:=J9 q;clear T q ai
   gi_wp2
   have bn:Below a.heap.size a U:=aR.o;refine ⟨(qay bn _).trans (KeepsOthers.from (KeepsOthers.setCell _ _ _) _),b,?_,?_,?_⟩
   ·refine qlY (by rw [Y.o];have:=ay.o;have:=aG.o;omega) (by rw [bc.o];exact aO.o) (fun h j r=>ah.o.1 h (by have:=aG.o;have:=ay.o;omega) (by rw [<- Y.o];exact r))
   ·exact Boxed.set _ ax.o
   ·exact (a6.o.trans ((ah.o.2.1.mono (by omega)).trans (bn.mono (by have:=aD.o;omega)))).setCell (p:=⟨n+1+1,0,none⟩) (by simp;omega) _
  ·have aO:=J9 ab
   rw [Qh ab] at T;clear O Z X o q av aj ak ab
   gi_wp2_with fail
   refine ⟨trivial,CallsIn.inRound aJ (callsIn_wide.2 T) |>.mono ?_⟩;rintro f U ⟨rfl,q⟩;have bw:Hid (KeepsFrom D.heap.size a U/\qdd (n+1+1+1+1) a U/\(∀ h,l<=h+(z++[((b,aa,aQ,aH):Nat×Tr)]).length->h<l->(L.getD h tr0).1∉k)/\Below (n+1+1+1+1) D U):=by
    refine ⟨qay q _,qdd.of_below q aD.o,fun h j r=>?_,ah.o.2.1.trans (q.mono aD.o)⟩;by_cases f:h=b
    ·subst f;rw [bc.o];exact aO.o
    ·exact ah.o.1 h (by have:=aG.o;have:=ay.o;simp at j;omega) r
   clear T q
   gi_wp2
   exact bw.o
 case done=>
  rintro K bN a aI aU ⟨X,o⟩ M;have J:Boxed a (n+1+1) 3 (.int .i64 0):=(o.block _ (by omega)).trans a0.o;have bI:=J.cell;have bB:=J.frozen;have aE:=J9 J;have aK:=J9 M;have bF:Hid (atI k L=-1):=by
   show atI k L=-1;unfold atI;rw [qic (fun h bz=>X h (by rw [aU,Y.o];omega) (by rw [<- Y.o];exact bz))]
  have aR:=J9 (a6.o.trans (o.mono (by omega)));have bD:=J9 aI;clear X o M J aI aS aU;go_wp2;have a4:=Boxed.set (.int .i64 (-1)) aE.o;have a3:KeepsOthers a (a.setCell ⟨n+1+1,0,none⟩ (.int .i64 (-1))):=KeepsOthers.setCell _ _ _;have bd:Below n w (a.setCell ⟨n+1+1,0,none⟩ (.int .i64 (-1))):=aR.o.setCell (p:=⟨n+1+1,0,none⟩) (by simp;omega) _;obtain ⟨aA,bp⟩:=N9 (a.setCell ⟨n+1+1,0,none⟩ (.int .i64 (-1)));rw [bp] at a4 a3 bd |-;have a9:aA.heap[K]?=some (.deferred (some [])):=a3.same K _ aK.o rfl;have y:=grownBy_putObj' aA K (.deferred none);have bQ:=bD.o;have am:=(a4.kept y (by simp;omega)).cell;refine ⟨by simp,.inl ⟨_,_,rfl,run_takeDeferred a9,?_⟩⟩;refine ⟨.int .i64 (-1),?_,?_⟩
  ·simp [results,results197,go_sem,am]
  ·have a2:w.heap.size=n:=aw.o
   exact ⟨by rw [bF.o],by rw [aw.o];exact bd.trans (belowK_b (w:=w) (by omega) aA K _ _ (by omega) a9 rfl rfl)⟩
 case stop=>
  rintro K z a aI ⟨b,j,bh,bl⟩ M;have y:=grownBy_putObj' a K (.deferred none);have am:=(bh.kept y (by simp;omega)).cell;have F:Hid (atI k L=(b:Int)):=by
   show atI k L=_;unfold atI;rw [j]
  have a2:w.heap.size=n:=aw.o;have bG:Hid (Below w.heap.size w (a.putObj K (.deferred none))):=by rw [aw.o];exact bl.trans (belowK_b (w:=w) (by omega) a K _ _ (by omega) M rfl rfl)
  have aK:=J9 M;clear j bh bl M y aS a2
  gi_wp2
  refine ⟨by simp,.inl ⟨_,_,rfl,run_takeDeferred aK.o,?_⟩⟩;refine ⟨.int .i64 b,?_,by rw [F.o],bG.o⟩;simp [results,results197,go_sem,am]
end Go.Proofs.YtecpnfhpcamljaaGreatDoor
namespace Go.Proofs.YtecpnfhpcamljaaGreatDoor
open Tryz
open Go.RowKit Go.Shelf
attribute [local go_sem] Oper.semAt_some
theorem qc2 (a b:UInt8):((a.toNat:Int) == (b.toNat:Int))=decide (a=b):=by
 by_cases e:a=b
 ·subst e
  rw [Qn rfl];exact beq_self_eq_true _
 ·rw [Qh e]
  exact Qm.2 fun h=>e (UInt8.toNat_inj.1 (by omega))
theorem qsr (ex:Str) (ag:ex.length<=1000) (c:UInt8) (w:World) :
  Calls prog 135 #[.string (sB ex),.int .u8 (c.toNat:Int)] w fun j Z=>j=.returned (.bool (ex.contains c))/\Z=w:=by
 obtain ⟨k,x⟩:=N9 (sB ex);have aa:k.size=ex.length:=by rw [<- x,qaB]
 have M:∀ e (i:e<k.size) (R:e<ex.length),k[e]=ex[e]:=fun e i R=>by subst x;exact qjr ex e i R
 have ab:=J9 M;rw [x];obtain ⟨B,E⟩:=N9 (ex.length);have O:=J9 E;rw [E] at aa ag;obtain ⟨U,J⟩:=N9 ((c.toNat:Int));have W:=J9 J;rw [J];clear x M E J
 go_enter func135,ntmps135
 go_wp2
 go_loopw [5] (fun y wr=>∃ h:Nat,h<=B/\y=.int .i64 h/\Hid (∀ e (i:e<ex.length),e<h->ex[e]≠c)/\Hid (wr=w)) (fun y _=>B - (intOf y).toNat)
 case atStart=>exact ⟨0,Qu _,rfl,fun e i ac=>by omega,rfl⟩
 case round=>
  obtain ⟨h,ah,rfl,l,G⟩:=hrel;by_cases ae:h<B
  ·have af:h<k.size:=by omega
   have s:h<ex.length:=(by rw [O.o];exact ae);have K:=ab.o h af s;have T:((k[h].toNat:Int) == U)=decide (ex[h]=c):=(by rw [<- W.o,K];exact qc2 _ _);obtain ⟨V,q⟩:=N9 (decide (ex[h]=c));rw [q] at T;have ai:h<=1000:=(by omega);cases V with
   | true=>
    have z:Hid (true=ex.contains c):=by
     show true=_;exact (List.contains_iff_mem.2 (Qo q ▸ QJ s)).symm
    clear q K s l;go_wp2;go_ret;exact ⟨qab z.o,G.o⟩
   | false=>
    have R2:Hid (∀ e (i:e<ex.length),e<h+1->ex[e]≠c):=fun e i ac=>by
     by_cases j:e=h
     ·subst j;exact QX q
     ·exact l.o e i (by omega)
    clear q K s l;go_wp2;go_roundw
    case rel=>exact ⟨h+1,by omega,by go_num,R2.o,G.o⟩
    case measure=>simp [intOf];omega
  ·have z:Hid (false=ex.contains c):=by
    show false=_;refine (Bool.eq_false_iff.2 fun i=>?_).symm;obtain ⟨e,ad,j⟩:=Ze (List.contains_iff_mem.1 i);exact l.o e ad (by have:=O.o;omega) j
   clear l;go_wp2;go_ret;exact ⟨qab z.o,G.o⟩
theorem qdS (c:UInt8) (n:Int) (w:World) :
  Calls prog 83 #[.int .u8 (c.toNat:Int),.int .i64 n] w fun O U=>O=.returned (.bool (withR c n))/\U=w:=by
 have K:((c.toNat:Int) == 100)=decide (c=100):=qc2 c 100;have y:((c.toNat:Int) == 101)=decide (c=101):=qc2 c 101;have q:((c.toNat:Int) == 110)=decide (c=110):=qc2 c 110;obtain ⟨V,M⟩:=N9 ((c.toNat:Int));rw [M] at K y q |-;clear M;have E:∀ x J:Int,((x<=n/\n<=J)\/(x<=n/\¬n<=J)\/¬x<=n):=fun x J=>by omega
 by_cases h:c=100
 ·subst h
  have b:Hid (withR 100 n=(decide (-128<=n)&&decide (n<=127))):=rfl;rw [Qn rfl] at K;clear y q;rcases E (-128) 127 with ⟨a,e⟩ | ⟨a,e⟩ | a
  all_goals
   go_enter func83,ntmps83
   go_wp2;go_ret;exact ⟨qab (by rw [b.o];simp_all <;> (intros;omega)),rfl⟩
 ·rw [Qh h] at K
  by_cases G:c=101
  ·subst G
   have b:Hid (withR 101 n=(decide (-128<=n)&&decide (n<=127))):=rfl;rw [Qn rfl] at y;clear q h;rcases E (-128) 127 with ⟨a,e⟩ | ⟨a,e⟩ | a
   all_goals
    go_enter func83,ntmps83
    go_wp2;go_ret;exact ⟨qab (by rw [b.o];simp_all <;> (intros;omega)),rfl⟩
  ·rw [Qh G] at y
   by_cases z:c=110
   ·subst z
    have b:Hid (withR 110 n=(decide (0<=n)&&decide (n<=255))):=rfl;rw [Qn rfl] at q;clear h G;rcases E 0 255 with ⟨a,e⟩ | ⟨a,e⟩ | a
    all_goals
     go_enter func83,ntmps83
     go_wp2;go_ret;exact ⟨qab (by rw [b.o];simp_all <;> (intros;omega)),rfl⟩
   ·have b:Hid (withR c n=(decide (0<=n)&&decide (n<=65535))):=by show _=_;unfold withR;rw [Qe (by rintro (T | T) <;> contradiction),Qe z]
    rw [Qh z] at q;clear h G z;rcases E 0 65535 with ⟨a,e⟩ | ⟨a,e⟩ | a
    all_goals
     go_enter func83,ntmps83
     go_wp2;go_ret;exact ⟨qab (by rw [b.o];simp_all <;> (intros;omega)),rfl⟩
end Go.Proofs.YtecpnfhpcamljaaGreatDoor
namespace Go.Proofs.YtecpnfhpcamljaaGreatDoor
open Tryz
open Go.RowKit
attribute [local go_sem] Oper.semAt_some
theorem up1 (w:World) (o:Obj):Below w.heap.size w (w.alloc o):=B0
theorem qkG (a b:Tr) (w:World) :
  Calls prog 155 #[.agg #[.int .i64 a.1,.int .i64 a.2.1,.int .i64 a.2.2],.agg #[.int .i64 b.1,.int .i64 b.2.1,.int .i64 b.2.2]] w fun z U=>z=.returned (.bool (decide (ks2 a=ks2 b)))/\Below w.heap.size w U:=by
 obtain ⟨e,h,G⟩:=a;obtain ⟨K,y,J⟩:=b;simp only;have T:Hid (Below w.heap.size w ((w.alloc (.cells #[.int .i64 e,.int .i64 h,.int .i64 G] 56)).alloc (.cells #[.int .i64 K,.int .i64 y,.int .i64 J] 56))):=(B0).alloc (by simp) _;by_cases M:e=K
 ·subst M
  by_cases E:h=y
  ·subst E
   have q:Hid (true=decide (ks2 (e,h,G)=ks2 (e,h,J))):=(Qn rfl).symm
   go_enter func155,ntmps155
   go_wp2;go_ret;exact ⟨qab q.o,T.o⟩
  ·have q:Hid (false=decide (ks2 (e,h,G)=ks2 (e,y,J))):=(Qh (fun z=>E (congrArg (fun O:Int×Int=>O.2) z))).symm
   have V:(h == y)=false:=Qm.2 E;clear E
   go_enter func155,ntmps155
   go_wp2;go_ret;exact ⟨qab q.o,T.o⟩
 ·have q:Hid (false=decide (ks2 (e,h,G)=ks2 (K,y,J))):=(Qh (fun z=>M (congrArg (fun O:Int×Int=>O.1) z))).symm
  have V:(e == K)=false:=Qm.2 M;clear M
  go_enter func155,ntmps155
  go_wp2;go_ret;exact ⟨qab q.o,T.o⟩
theorem qni (A1 aF:Option Addr) (aK c2 i x:Nat) (e h:List Tr) (R:e.length=i) (T:h.length=x) (a1:i<=1000) (aS:x<=1000) (w:World) (aj:qai w A1 e) (am:qai w aF h) :
  Calls prog 154 #[.slice A1 i aK,.slice aF x c2,.func (.func 155) #[] #[]] w fun j ai=>j=.returned (.bool (decide (e.map ks2=h.map ks2)))/\Below w.heap.size w ai:=by
 by_cases aA:i=x
 ·subst aA
  have aM:=J9 aj;have aN:=J9 am;have U:=J9 R;have aE:=J9 T;clear aj am R T aS
  go_enter func154,ntmps154
  go_wp2
  go_loopw [17] (fun af wr=>∃ a:Nat,a<=i/\af=.int .i64 a/\Hid (∀ b,b<a->ks2 (e.getD b tr0)=ks2 (h.getD b tr0))/\Hid (Below w.heap.size w wr)) (fun af _=>i - (intOf af).toNat)
  case atStart=>exact ⟨0,Qu _,rfl,fun b k=>by omega,Qc _ _⟩
  case round=>
   obtain ⟨a,aZ,rfl,G,y⟩:=hrel;by_cases a5:a<i
   ·have ag:a<e.length:=by have:=U.o;omega
    have ac:a<h.length:=(by have:=aE.o;omega);obtain ⟨a2,aW,rfl,aL,aa,ad,an⟩:=(aM.o.below y.o).at_ ag;obtain ⟨ae,ak,rfl,V,z,J,E⟩:=(aN.o.below y.o).at_ ac;have av:e.getD a tr0=e[a]:=(by rw [Ql,Qg ag];rfl);have aB:h.getD a tr0=h[a]:=(by rw [Ql,Qg ac];rfl);rw [<- av] at aa ad an;rw [<- aB] at z J E;obtain ⟨aG,ap⟩:=N9 (e.getD a tr0);obtain ⟨aq,ao⟩:=N9 (h.getD a tr0);rw [ap] at aa ad an;rw [ao] at z J E;have ar:=J9 ap;have aD:=J9 ao;have q:=(fun ai=>qkG aG aq ai);obtain ⟨O,M,K⟩:=aG;obtain ⟨ax,au,aw⟩:=aq;simp only at aa ad an z J E q;have aX:=((up1 wr (.cells #[.int .i64 O,.int .i64 M,.int .i64 K] 56)).cell (p:=⟨ae,ak+a*3,none⟩) V).trans z;have aV:=((up1 wr (.cells #[.int .i64 O,.int .i64 M,.int .i64 K] 56)).cell (p:=⟨ae,ak+a*3+1,none⟩) V).trans J;have a4:=((up1 wr (.cells #[.int .i64 O,.int .i64 M,.int .i64 K] 56)).cell (p:=⟨ae,ak+a*3+2,none⟩) V).trans E;clear z J E aL V;obtain ⟨Z,W⟩:=N9 ((wr.alloc (.cells #[.int .i64 O,.int .i64 M,.int .i64 K] 56)).alloc (.cells #[.int .i64 ax,.int .i64 au,.int .i64 aw] 56));have ay:Below wr.heap.size wr Z:=(by rw [<- W];exact (B0).alloc (by simp) _);have az:=J9 (y.o.trans (ay.mono y.o.size));have aT:Hid (w.heap.size<=Z.heap.size):=az.o.size;have q:=q Z;rw [<- W] at q;have aR:=J9 W;obtain ⟨aJ,ab⟩:=N9 (decide (ks2 (O,M,K)=ks2 (ax,au,aw)));rw [ab] at q;have aH:=J9 ab;clear ap ao av aB ag ac ay ab y W
    go_wp2_with fail
    refine q.mono ?_;rintro j a3 ⟨rfl,ah⟩;rw [aR.o] at ah;have aC:=J9 (az.o.trans (ah.mono aT.o));clear ah q;cases aJ with
    | true=>
     have R2:Hid (∀ b,b<a+1->ks2 (e.getD b tr0)=ks2 (h.getD b tr0)):=fun b aY=>by
      by_cases j:b=a
      ·subst j
       rw [ar.o,aD.o];exact Qo aH.o
      ·exact G.o b (by omega)
     clear G;go_wp2;go_roundw
     case rel=>exact ⟨a+1,by omega,by go_num,R2.o,aC.o⟩
     case measure=>simp [intOf];omega
    | false=>
     have B:Hid (false=decide (e.map ks2=h.map ks2)):=(Qh (fun j=>by
      have k:=qcd j a (by have:=U.o;omega);rw [ar.o,aD.o] at k;exact QX aH.o (Prod.ext k.1 k.2))).symm
     clear G;go_wp2;go_ret;exact ⟨qab B.o,aC.o⟩
   ·have B:Hid (true=decide (e.map ks2=h.map ks2)):=by
     refine (Qn (List.ext_getElem (by simp [U.o,aE.o]) fun b aO aI=>?_)).symm;have aQ:b<e.length:=(by simpa using aO);have aP:b<h.length:=(by simpa using aI);have k:=G.o b (by have:=U.o;omega);rw [Zo,Zo];rw [Ql,Qg aQ,Ql,Qg aP] at k;exact k
    clear G;go_wp2;go_ret;exact ⟨qab B.o,y.o⟩
 ·have B:Hid (false=decide (e.map ks2=h.map ks2)):=(Qh (fun j=>aA (by rw [<- R,<- T];exact qar j))).symm
  have aU:((i:Int) == (x:Int))=false:=Qm.2 (by omega);have a0:¬((i:Int)=(x:Int)):=by omega
  clear aj am R T
  go_enter func154,ntmps154
  go_wp2;go_ret;exact ⟨qab B.o,Qc _ _⟩
def ixF (L:List Tr) (k:Nat):Int:=(L.take k).foldl (fun h a=>max h (qiV a.1 a.2.1 a.2.2)) 0
theorem qr9 (L:List Tr) (k:Nat) (h:k<L.length):ixF L (k+1)=max (ixF L k) (qiV L[k].1 L[k].2.1 L[k].2.2):=by
 unfold ixF;rw [QL h,List.foldl_append];rfl
def ixC (L:List Tr):Int:=ixF L L.length
def qbD (L:List Tr):List Int:=if ixC L=5 then [3,5] else if ixC L=6 then [4,6] else [0,1,2]
def qzX (w:World) (l:List Int) (e:Ending) (w':World):Prop:=∃ a,e=.returned (.slice a l.length l.length)/\KsP w' a l/\Below w.heap.size w w'/\∀ h,a=some h->w.heap.size<=h.block
theorem qqc (w:World) (L:List Int) (cs:Array Value) (h:cs.toList=L.map fun n=>.int .i64 n) (t:TypeId):KsP (w.alloc (.cells cs t)) (some ⟨w.heap.size,0,none⟩) L:=by
 refine .inr ⟨_,0,rfl,fun q k=>?_⟩;rw [C9 (heap_alloc_new w _),QT,<- Q8,h,Zi,Qg k];rfl
theorem qoG (s:ByteArray) (A:Option Addr) (cap n:Nat) (L:List Tr) (ah:L.length=n) (aF:n<=1000) (w:World) (H:qai w A L) :
  Calls prog 152 #[.agg #[.string s,.slice A n cap]] w (qzX w (qbD L)):=by
 have h:Below w.heap.size w (w.alloc (.cells #[.string s,.slice A n cap] 24)):=B0;obtain ⟨X,aj⟩:=N9 (w.alloc (.cells #[.string s,.slice A n cap] 24));have U:X.heap[w.heap.size]?=some (.cells #[.string s,.slice A n cap] 24 (0,0)):=by rw [<- aj];exact World.alloc_heap_new w _
 rw [aj] at h;have au:=J9 (H.below h);have ax:=J9 h;have ae:=J9 ah;have ay:=C9 U 0;have aq:=C9 U 1;have ai:Hid (ixF L 0=0):=rfl;clear H h U ah
 go_enter func152,ntmps152
 go_wp2
 go_loopw [9,3] (fun T W wr=>∃ a:Nat,a<=n/\T=.int .i64 a/\W=.int .i64 (ixF L a)/\Hid (Below w.heap.size w wr)/\Hid (Below X.heap.size X wr)) (fun T _ _=>n - (intOf T).toNat)
 case atStart=>exact ⟨0,Qu _,rfl,by rw [ai.o],ax.o,Qc _ _⟩
 case round=>
  clear ay aq ai;obtain ⟨a,aA,rfl,rfl,e,q⟩:=hrel;by_cases aI:a<n
  ·have V:a<L.length:=by have:=ae.o;omega
   obtain ⟨aG,aD,rfl,-,af,ag,am⟩:=(au.o.below q.o).at_ V;have i:=qr9 L a V;obtain ⟨W,ao⟩:=N9 (L[a]);rw [ao] at af ag am i;obtain ⟨K,M,G⟩:=W;simp only at af ag am i;obtain ⟨ac,ak⟩:=N9 (wr.alloc (.cells #[.int .i64 K,.int .i64 M,.int .i64 G] 56));have Z:Below wr.heap.size wr ac:=(by rw [<- ak];exact B0);have aa:=J9 (e.o.trans (Z.mono e.o.size));have ab:=J9 (q.o.trans (Z.mono q.o.size));have x:=World.alloc_heap_new wr (.cells #[.int .i64 K,.int .i64 M,.int .i64 G] 56);rw [ak] at x;have ap:=C9 x 0;have aw:=C9 x 1;have av:=C9 x 2;have P:=qqj K M G ac;obtain ⟨aJ,an⟩:=N9 (qiV K M G);rw [an] at P i;obtain ⟨y,v⟩:=N9 (ixF L a);rw [v] at i |-;have i:=J9 i;clear ao V Z an v e q x
   go_wp2_with fail
   refine P.mono ?_;rintro aB aE ⟨rfl,h⟩;have ar:=J9 (aa.o.trans (h.mono aa.o.size));have az:=J9 (ab.o.trans (h.mono ab.o.size));clear h P aa ab ap aw av;go_wp2;go_roundw
   case rel=>exact ⟨a+1,by omega,by go_num,by rw [i.o],ar.o,az.o⟩
   case measure=>simp [intOf];omega
  ·obtain rfl:a=n:=by omega
   have E:Hid (ixC L=ixF L a):=(by show ixC L=_;unfold ixC;rw [ae.o]);obtain ⟨y,v⟩:=N9 (ixF L a);rw [v] at E |-;clear v q;by_cases O:y=5
   ·subst O
    have B:Hid (qbD L=[3,5]):=(by show qbD L=_;unfold qbD;rw [E.o];rfl);have z:=J9 (qqc wr [3,5] #[.int .i64 3,.int .i64 5] rfl 3);have u:Hid (Below w.heap.size w (wr.alloc (.cells #[.int .i64 3,.int .i64 5] 3))):=e.o.alloc e.o.size _;go_wp2;go_ret;rw [B.o];exact ⟨_,rfl,z.o,u.o,fun ad j=>by cases j;exact e.o.size⟩
   ·by_cases J:y=6
    ·subst J
     have B:Hid (qbD L=[4,6]):=(by show qbD L=_;unfold qbD;rw [E.o];rfl);have z:=J9 (qqc wr [4,6] #[.int .i64 4,.int .i64 6] rfl 3);have u:Hid (Below w.heap.size w (wr.alloc (.cells #[.int .i64 4,.int .i64 6] 3))):=e.o.alloc e.o.size _;go_wp2;go_ret;rw [B.o];exact ⟨_,rfl,z.o,u.o,fun ad j=>by cases j;exact e.o.size⟩
    ·have B:Hid (qbD L=[0,1,2]):=by show qbD L=_;unfold qbD;rw [E.o,Qe O,Qe J]
     have z:=J9 (qqc wr [0,1,2] #[.int .i64 0,.int .i64 1,.int .i64 2] rfl 3);have u:Hid (Below w.heap.size w (wr.alloc (.cells #[.int .i64 0,.int .i64 1,.int .i64 2] 3))):=e.o.alloc e.o.size _;have aC:(y == 5)=false:=Qm.2 O;have aH:(y == 6)=false:=Qm.2 J;clear O J;go_wp2;go_ret;rw [B.o];exact ⟨_,rfl,z.o,u.o,fun ad j=>by cases j;exact e.o.size⟩
end Go.Proofs.YtecpnfhpcamljaaGreatDoor
namespace Go.Proofs.YtecpnfhpcamljaaGreatDoor
open Tryz
open Go.RowKit Go.Shelf
attribute [local go_sem] Oper.semAt_some
theorem qid (t:Tr):qcR t=((t.1 == 6)||(t.1 == 7)):=rfl
theorem qrw {L:List Tr} {k:Nat} (h:∀ j (z:j<L.length),k<j->qcR L[j]=false):(L.drop (k+1)).any qcR=false:=by
 rw [List.any_eq_false];intro x q;obtain ⟨y,i,rfl⟩:=Ze q;rw [List.getElem_drop];rw [h _ (by simp at i;omega) (by omega)];decide
theorem qtj {L:List Tr} {k j:Nat} (q:j<L.length) (y:k<j) (h:qcR L[j]=true):(L.drop (k+1)).any qcR=true:=by
 rw [List.any_eq_true];refine ⟨L[j],?_,h⟩;have:L[j]=(L.drop (k+1))[j - (k+1)]'(by simp;omega):=by rw [List.getElem_drop];congr 1;omega
 rw [this];exact QJ _
def qoA (ex:Str):UInt8:=if ex.contains 110=true then 110 else if ex.contains 119=true then 119 else 0
theorem qyj {ex:Str} {L:List Tr} {k:Nat} (y:k<L.length) (h:L[k].1=5) (q:ex.contains 100=true):letR ex L k=100:=by unfold letR;rw [Qi ⟨by rw [Ql,Qg y];exact h,q⟩]
theorem qxj {ex:Str} {L:List Tr} {k:Nat} (y:k<L.length) (e:¬(L[k].1=5/\ex.contains 100=true)) (h:L[k].1=10) (q:ex.contains 101=true):letR ex L k=101:=by
 have z:(L.getD k tr0)=L[k]:=by rw [Ql,Qg y];rfl
 unfold letR;rw [z,Qe e,Qi ⟨h,q⟩]
theorem qyb {ex:Str} {L:List Tr} {k:Nat} (y:k<L.length) (e:¬(L[k].1=5/\ex.contains 100=true)) (h:¬(L[k].1=10/\ex.contains 101=true)) (q:qcR L[k]=false):letR ex L k=0:=by
 have z:(L.getD k tr0)=L[k]:=by rw [Ql,Qg y];rfl
 unfold letR;rw [z,Qe e,Qe h,Qi q]
theorem qyy {ex:Str} {L:List Tr} {k:Nat} (y:k<L.length) (e:¬(L[k].1=5/\ex.contains 100=true)) (h:¬(L[k].1=10/\ex.contains 101=true)) (q:qcR L[k]=true) (E:(L.drop (k+1)).any qcR=true):letR ex L k=0:=by
 have z:(L.getD k tr0)=L[k]:=by rw [Ql,Qg y];rfl
 unfold letR;rw [z,Qe e,Qe h,Qe (by rw [q];decide),Qi E]
theorem qxZ {ex:Str} {L:List Tr} {k:Nat} (y:k<L.length) (e:¬(L[k].1=5/\ex.contains 100=true)) (h:¬(L[k].1=10/\ex.contains 101=true)) (q:qcR L[k]=true) (E:(L.drop (k+1)).any qcR=false):letR ex L k=qoA ex:=by
 have z:(L.getD k tr0)=L[k]:=by rw [Ql,Qg y];rfl
 unfold letR;rw [z,Qe e,Qe h,Qe (by rw [q];decide),Qe (by rw [E];decide)];rfl
def qxV (w:World) (c:UInt8) (e:Ending) (w':World):Prop:=e=.returned (.int .u8 (c.toNat:Int))/\Below w.heap.size w w'
theorem qhs (aL aK:Int) (m:Str) (A:Option Addr) (cap l:Nat) (L:List Tr) (a2:L.length=l) (bB:l<=1000) (ex:Str) (bc:ex.length<=1000) (al:Bool) (k:Nat) (bD:k<l) (w:World) (H:qai w A L) :
  Calls prog 82 #[enV aL aK m (.slice A l cap) ex al,.int .i64 k] w (qxV w (letR ex L k)):=by
 have Z:k<L.length:=by omega
 have ag:=fun bp aa=>qsr ex bc bp aa
 unfold enV;obtain ⟨a7,a8⟩:=N9 (sB ex);rw [a8] at ag |-;clear a8;obtain ⟨ah,aq,rfl,aD,ax,aB,aF⟩:=H.at_ Z;obtain ⟨⟨h,a9,a1⟩,aT⟩:=N9 (L[k]);rw [aT] at ax aB aF;simp only at ax aB aF;obtain ⟨U,aC⟩:=N9 (w.alloc (.cells #[.int .i64 aL,.int .u8 aK,.string (sB m),.slice (some ⟨ah,aq,none⟩) l cap,.string a7,.bool al] 30));obtain ⟨aj,aE⟩:=N9 (w.heap.size);have ad:Below w.heap.size w U:=by rw [<- aC];exact up1 _ _
 have aH:U.heap[aj]?=some (.cells #[.int .i64 aL,.int .u8 aK,.string (sB m),.slice (some ⟨ah,aq,none⟩) l cap,.string a7,.bool al] 30 (0,0)):=by rw [<- aC,<- aE];exact World.alloc_heap_new w _
 have bi:U.heap.size=aj+1:=by rw [<- aC,<- aE];simp
 obtain ⟨z,aM⟩:=N9 (U.alloc (.cells #[.int .i64 h,.int .i64 a9,.int .i64 a1] 56));have aR:Below U.heap.size U z:=by rw [<- aM];exact up1 _ _
 have bg:z.heap[aj+1]?=some (.cells #[.int .i64 h,.int .i64 a9,.int .i64 a1] 56 (0,0)):=by rw [<- aM,<- bi];exact World.alloc_heap_new U _
 have aS:=ad.trans (aR.mono ad.size);have aA:=(aR.block aj (by omega)).trans aH;have n:Hid (Below aj w z):=by rw [<- aE];exact aS
 have q:=J9 aE;have aW:=J9 (H.below aS);have bf:=(ad.cell (p:=⟨ah,aq+k*3,none⟩) aD).trans ax;have bo:=(ad.cell (p:=⟨ah,aq+k*3+1,none⟩) aD).trans aB;have bk:=(ad.cell (p:=⟨ah,aq+k*3+2,none⟩) aD).trans aF;have bu:=C9 aH 3;have bF:(k:Int)<(l:Int):=by omega
 have ap:=J9 (qyj (ex:=ex) Z);have ac:=J9 (qxj (ex:=ex) Z);have M:=J9 (qyb (ex:=ex) Z);have T:=J9 (qyy (ex:=ex) Z);have V:=J9 (qxZ (ex:=ex) Z);rw [aT] at ap ac M T V;simp only [qid] at ap ac M T V;have ay:=J9 a2;have aY:=J9 (fun e (aO:e<L.length)=>qtj (k:=k) aO);have aX:=J9 (qrw (L:=L) (k:=k));have a6:=J9 (C9 aA 3);have a0:=J9 (C9 aA 4);obtain ⟨bt,a4⟩:=N9 (ex.contains 100);obtain ⟨bl,bd⟩:=N9 (ex.contains 101);obtain ⟨ak,aP⟩:=N9 (ex.contains 110);obtain ⟨an,aQ⟩:=N9 (ex.contains 119);have R1:=J9 (ag 100 z);have R2:=J9 (ag 101 z);have aU:=J9 (ag 110 z);have aJ:=J9 (ag 119 z);rw [a4] at R1 ap ac M T V;rw [bd] at R2 ac M T V;rw [aP] at aU;rw [aQ] at aJ;have a3:Hid (qoA ex=if ak=true then 110 else if an=true then 119 else 0):=by show _=_;unfold qoA;rw [aP,aQ]
 have bE:=C9 bg 0;have bA:=C9 aA 4;clear H ad aH aR aS aA ag aT a2 a4 bd aP aQ bc aD ax aB aF Z;obtain ⟨r,bb⟩:=N9 (letR ex L k);rw [bb] at ap ac M T V |-;clear bb
 go_enter func82,ntmps82
 go_upto_region 2 with fail
 clear bu bf bo bk aM aC;by_cases ab:h=5
 ·subst ab
  go_wp2_with fail
  refine R1.o.mono ?_;rintro G aa ⟨rfl,rfl⟩;cases bt with
  | true=>
   obtain rfl:=ap.o (by first | trivial | rfl) (by first | trivial | rfl);go_wp2;go_ret;exact ⟨rfl,by rw [q.o];exact n.o⟩
  | false=>
   obtain rfl:=M.o (by simp) (by simp) (by decide);go_wp2;go_ret;exact ⟨rfl,by rw [q.o];exact n.o⟩
 ·have be:(h == 5)=false:=Qm.2 ab
  by_cases ae:h=10
  ·subst ae
   go_wp2_with fail
   refine R2.o.mono ?_;rintro G aa ⟨rfl,rfl⟩;cases bl with
   | true=>
    obtain rfl:=ac.o (by simp) (by first | trivial | rfl) (by first | trivial | rfl);go_wp2;go_ret;exact ⟨rfl,by rw [q.o];exact n.o⟩
   | false=>
    obtain rfl:=M.o (by simp) (by simp) (by decide);go_wp2;go_ret;exact ⟨rfl,by rw [q.o];exact n.o⟩
  ·have bn:(h == 10)=false:=Qm.2 ae
   by_cases af:h=6\/h=7
   ·have bz:=J9 ab
    have bC:=J9 ae;clear ab ae be bn;rcases af with rfl | rfl
    ·skip
     go_wp2
     go_loopw [6] (fun c wr=>∃ e:Nat,k+1<=e/\e<=l/\c=.int .i64 e/\wr=z/\Hid (∀ c (j:c<L.length),k<c->c<e->qcR L[c]=false)) (fun c _=>l - (intOf c).toNat)
     case atStart=>exact ⟨k+1,Qa _,by omega,by go_num,rfl,fun c j J aV=>by omega⟩
     case round=>
      obtain ⟨e,bw,aO,rfl,rfl,E⟩:=hrel;have br:=a6.o;by_cases bx:e<l
      ·have W:e<L.length:=by have:=ay.o;omega
       obtain ⟨bs,bv,ai,-,ar,aI,aN⟩:=aW.o.at_ W;simp only [Qv,Addr.mk.injEq,and_true] at ai;obtain ⟨rfl,rfl⟩:=ai;have bj:(e:Int)<(l:Int):=(by omega);have K:=J9 (aY.o e W (by omega));have y:Hid (qcR L[e]=false->∀ c (j:c<L.length),k<c->c<e+1->qcR L[c]=false):=fun b c j J aV=>by
        by_cases G:c=e
        ·subst G;exact b
        ·exact E.o c j J (by omega)
       obtain ⟨⟨i,bh,bm⟩,av⟩:=N9 (L[e]);rw [av] at ar K y;simp only [qid] at K y;simp only at ar;clear aI aN av W E;by_cases s:i=6\/i=7
       ·obtain rfl:=T.o (fun b=>by cases b.1) (fun b=>by cases b.1) (by decide) (K.o (by rcases s with rfl | rfl <;> decide))
        rcases s with rfl | rfl
        all_goals
         go_wp2;go_ret;exact ⟨rfl,by rw [q.o];exact n.o⟩
       ·have ao:¬i=6:=fun b=>s (.inl b)
        have au:¬i=7:=(fun b=>s (.inr b));have aw:(i == 6)=false:=Qm.2 ao;have az:(i == 7)=false:=Qm.2 au;have aG:=J9 (y.o (by rw [aw,az];rfl));clear s y K;go_wp2;go_roundw
        case rel=>exact ⟨e+1,by omega,by omega,by go_num,by first | rfl | trivial,aG.o⟩
        case measure=>simp [intOf];omega
      ·obtain rfl:e=l:=by omega
       have am:Hid (r=qoA ex):=V.o (fun b=>by cases b.1) (fun b=>by cases b.1) (by decide) (aX.o fun c j J=>E.o c j J (by have:=ay.o;omega));have bq:=a0.o;have O:Hid (r=if ak=true then 110 else if an=true then 119 else 0):=(by show r=_;rw [am.o,a3.o]);clear E am
       go_wp2_with fail
       refine aU.o.mono ?_;rintro G aa ⟨rfl,rfl⟩;cases ak with
       | true=>
        obtain rfl:r=110:=O.o;go_wp2;go_ret;exact ⟨rfl,by rw [q.o];exact n.o⟩
       | false=>
        go_wp2_with fail
        refine aJ.o.mono ?_;rintro G aa ⟨rfl,rfl⟩;cases an with
        | true=>
         obtain rfl:r=119:=O.o;go_wp2;go_ret;exact ⟨rfl,by rw [q.o];exact n.o⟩
        | false=>
         obtain rfl:r=0:=O.o;go_wp2;go_ret;exact ⟨rfl,by rw [q.o];exact n.o⟩
    ·skip
     go_wp2
     go_loopw [6] (fun c wr=>∃ e:Nat,k+1<=e/\e<=l/\c=.int .i64 e/\wr=z/\Hid (∀ c (j:c<L.length),k<c->c<e->qcR L[c]=false)) (fun c _=>l - (intOf c).toNat)
     case atStart=>exact ⟨k+1,Qa _,by omega,by go_num,rfl,fun c j J aV=>by omega⟩
     case round=>
      obtain ⟨e,bw,aO,rfl,rfl,E⟩:=hrel;have br:=a6.o;by_cases bx:e<l
      ·have W:e<L.length:=by have:=ay.o;omega
       obtain ⟨bs,bv,ai,-,ar,aI,aN⟩:=aW.o.at_ W;simp only [Qv,Addr.mk.injEq,and_true] at ai;obtain ⟨rfl,rfl⟩:=ai;have bj:(e:Int)<(l:Int):=(by omega);have K:=J9 (aY.o e W (by omega));have y:Hid (qcR L[e]=false->∀ c (j:c<L.length),k<c->c<e+1->qcR L[c]=false):=fun b c j J aV=>by
        by_cases G:c=e
        ·subst G;exact b
        ·exact E.o c j J (by omega)
       obtain ⟨⟨i,bh,bm⟩,av⟩:=N9 (L[e]);rw [av] at ar K y;simp only [qid] at K y;simp only at ar;clear aI aN av W E;by_cases s:i=6\/i=7
       ·obtain rfl:=T.o (fun b=>by cases b.1) (fun b=>by cases b.1) (by decide) (K.o (by rcases s with rfl | rfl <;> decide))
        rcases s with rfl | rfl
        all_goals
         go_wp2;go_ret;exact ⟨rfl,by rw [q.o];exact n.o⟩
       ·have ao:¬i=6:=fun b=>s (.inl b)
        have au:¬i=7:=(fun b=>s (.inr b));have aw:(i == 6)=false:=Qm.2 ao;have az:(i == 7)=false:=Qm.2 au;have aG:=J9 (y.o (by rw [aw,az];rfl));clear s y K;go_wp2;go_roundw
        case rel=>exact ⟨e+1,by omega,by omega,by go_num,by first | rfl | trivial,aG.o⟩
        case measure=>simp [intOf];omega
      ·obtain rfl:e=l:=by omega
       have am:Hid (r=qoA ex):=V.o (fun b=>by cases b.1) (fun b=>by cases b.1) (by decide) (aX.o fun c j J=>E.o c j J (by have:=ay.o;omega));have bq:=a0.o;have O:Hid (r=if ak=true then 110 else if an=true then 119 else 0):=(by show r=_;rw [am.o,a3.o]);clear E am
       go_wp2_with fail
       refine aU.o.mono ?_;rintro G aa ⟨rfl,rfl⟩;cases ak with
       | true=>
        obtain rfl:r=110:=O.o;go_wp2;go_ret;exact ⟨rfl,by rw [q.o];exact n.o⟩
       | false=>
        go_wp2_with fail
        refine aJ.o.mono ?_;rintro G aa ⟨rfl,rfl⟩;cases an with
        | true=>
         obtain rfl:r=119:=O.o;go_wp2;go_ret;exact ⟨rfl,by rw [q.o];exact n.o⟩
        | false=>
         obtain rfl:r=0:=O.o;go_wp2;go_ret;exact ⟨rfl,by rw [q.o];exact n.o⟩
   ·have aZ:(h == 6)=false:=Qm.2 (fun b=>af (.inl b))
    have a5:(h == 7)=false:=Qm.2 (fun b=>af (.inr b));obtain rfl:=M.o (fun b=>ab b.1) (fun b=>ae b.1) (by rw [aZ,a5];rfl);have ao:¬h=6:=(fun b=>af (.inl b));have au:¬h=7:=(fun b=>af (.inr b));have aw:(h != 6)=true:=bne_iff_ne.2 ao;have az:(h != 7)=true:=bne_iff_ne.2 au;clear ab ae af aZ a5;go_wp2;go_ret;exact ⟨rfl,by rw [q.o];exact n.o⟩
theorem qho (G E:Int) (m:Str) (A:Option Addr) (cap l:Nat) (L:List Tr) (J:L.length=l) (a4:l<=1000) (ex:Str) (al:Bool) (s:ByteArray) (q:Option Addr) (M n:Nat) (C:List Tr) (B:C.length=n) (aZ:n<=1000) (w:World) (H:qai w A L) (aC:qai w q C) :
  Calls prog 44 #[enV G E m (.slice A l cap) ex al,.agg #[.string s,.slice q n M]] w fun h aW=>h=.returned (.bool (qfg m L s C))/\Below w.heap.size w aW:=by
 unfold enV;obtain ⟨e,W⟩:=N9 ((w.alloc (.cells #[.int .i64 G,.int .u8 E,.string (sB m),.slice A l cap,.string (sB ex),.bool al] 30)).alloc (.cells #[.string s,.slice q n M] 24));obtain ⟨i,ab⟩:=N9 (w.heap.size);have V:Below w.heap.size w e:=by rw [<- W];exact ((B0 (w:=w))).alloc (by simp) _
 have T:e.heap[i]?=some (.cells #[.int .i64 G,.int .u8 E,.string (sB m),.slice A l cap,.string (sB ex),.bool al] 30 (0,0)):=by rw [<- W,<- ab];exact (Below.heap_alloc _ _ _ (by simp)).trans (World.alloc_heap_new w _)
 have R:e.heap[i+1]?=some (.cells #[.string s,.slice q n M] 24 (0,0)):=by
  rw [<- W,<- ab];have k:=World.alloc_heap_new (w.alloc (.cells #[.int .i64 G,.int .u8 E,.string (sB m),.slice A l cap,.string (sB ex),.bool al] 30)) (.cells #[.string s,.slice q n M] 24)
  rwa [QB] at k
 have ac:Hid (Below i w e):=by rw [<- ab];exact V
 have O:=J9 ab;have aN:=J9 (H.below V);have aT:=J9 (aC.below V);have aU:=C9 T 2;have aJ:=C9 T 3;have aQ:=C9 R 0;have aF:=C9 R 1;have a1:=below_drewN e e.heap.size;clear H aC V;by_cases ad:sB m=s
 rotate_left
 ·have ay:=qak ad
  have j:Hid (false=qfg m L s C):=by show false=_;unfold qfg;rw [Qh ad];rfl
  clear ad B J
  go_enter func44,ntmps44
  go_wp2;go_ret;exact ⟨qab j.o,by rw [O.o];exact ac.o⟩
 subst ad;have ay:=qAZ (sB m);by_cases au:l=n
 rotate_left
 ·have j:Hid (false=qfg m L (sB m) C):=by show false=_;unfold qfg;rw [show decide (L.map ks2=C.map ks2)=false from Qh (fun h=>au (by rw [<- J,<- B];exact qar h))];simp
  have aH:((l:Int) == (n:Int))=false:=Qm.2 (by omega);have a2:¬((l:Int)=(n:Int)):=by omega
  clear B J au
  go_enter func44,ntmps44
  go_wp2;go_ret;exact ⟨qab j.o,by rw [O.o];exact ac.o⟩
 subst au;have ak:=J9 J;have aD:=J9 B;have Z:Hid (e.heap[i]?=some (.cells #[.int .i64 G,.int .u8 E,.string (sB m),.slice A l cap,.string (sB ex),.bool al] 30 (0,0))/\e.heap[i+1]?=some (.cells #[.string (sB m),.slice q l M] 24 (0,0))):=⟨T,R⟩;clear J B T R aZ
 go_enter func44,ntmps44
 go_wp2;clear a1 W aU aJ aQ aF ay
 go_loopw [5] (fun ap wr=>∃ a:Nat,a<=l/\ap=.int .i64 a/\Hid (∀ b,b<a->ks2 (L.getD b tr0)=ks2 (C.getD b tr0))/\Hid (Below e.heap.size e wr)) (fun ap _=>l - (intOf ap).toNat)
 case atStart=>exact ⟨0,Qu _,rfl,fun b k=>by omega,Qc _ _⟩
 case round=>
  obtain ⟨a,a9,rfl,U,y⟩:=hrel;have aY:i<e.heap.size:=(Qb.1 Z.o.1).1;have aP:i+1<e.heap.size:=(Qb.1 Z.o.2).1;have am:=(y.o.block i aY).trans Z.o.1;have aw:=(y.o.block (i+1) aP).trans Z.o.2;have aJ:=C9 am 3;have aF:=C9 aw 1;have aq:=fun z=>J9 (y.o.trans (below_drewN wr e.heap.size z))
  have ah:Hid (∀ z,Below i w (wr.drewN z)):=fun z=>ac.o.trans ((aq z).o.mono (by omega))
  by_cases be:a<l
  ·have aa:a<L.length:=by have:=ak.o;omega
   have an:a<C.length:=(by have:=aD.o;omega);obtain ⟨bc,a6,rfl,-,ag,ao,ax⟩:=(aN.o.below y.o).at_ aa;obtain ⟨a7,bd,rfl,-,ae,aj,ai⟩:=(aT.o.below y.o).at_ an;have aA:L.getD a tr0=L[a]:=(by rw [Ql,Qg aa];rfl);have aE:C.getD a tr0=C[a]:=(by rw [Ql,Qg an];rfl);rw [<- aA] at ag ao ax;rw [<- aE] at ae aj ai;have R2:Hid (ks2 (L.getD a tr0)=ks2 (C.getD a tr0)->∀ b,b<a+1->ks2 (L.getD b tr0)=ks2 (C.getD b tr0)):=fun k b a8=>by
    by_cases h:b=a
    ·subst h;exact k
    ·exact U.o b (by omega)
   have K:Hid (ks2 (L.getD a tr0)≠ks2 (C.getD a tr0)->qfg m L (sB m) C=false):=fun k=>by
    unfold qfg;rw [show decide (L.map ks2=C.map ks2)=false from Qh (fun h=>k (by
     have aL:=qcd h a aa;exact Prod.ext aL.1 aL.2))]
    simp
   obtain ⟨⟨aI,aG,bb⟩,aM⟩:=N9 (L.getD a tr0);obtain ⟨⟨aB,az,a5⟩,aK⟩:=N9 (C.getD a tr0);rw [aM] at ag ao ax R2 K;rw [aK] at ae aj ai R2 K;simp only [ks2] at ag ao ax ae aj ai R2 K;have a3:(a:Int)<(l:Int):=(by omega);clear aM aK aA aE aa an U am aw;by_cases av:aI=aB
   ·subst av
    by_cases ar:aG=az
    ·subst ar
     have a0:=J9 (R2.o rfl);go_wp2
     go_quiet (fail)
     go_wp2;go_roundw
     case rel=>exact ⟨a+1,by omega,by go_num,a0.o,(aq _).o⟩
     case measure=>simp [intOf];omega
    ·have j:=J9 (K.o (fun h=>ar (congrArg (fun af:Int×Int=>af.2) h)))
     have aH:(aG == az)=false:=Qm.2 ar;go_wp2
     go_quiet (fail)
     go_wp2;go_ret;exact ⟨qab j.o.symm,by rw [O.o];exact ah.o _⟩
   ·have j:=J9 (K.o (fun h=>av (congrArg (fun af:Int×Int=>af.1) h)))
    have aH:(aI == aB)=false:=Qm.2 av;go_wp2
    go_quiet (fail)
    go_wp2;go_ret;exact ⟨qab j.o.symm,by rw [O.o];exact ah.o _⟩
  ·have j:Hid (true=qfg m L (sB m) C):=by
    show true=_;unfold qfg;rw [Qn rfl,Qn]
    ·rfl
    ·refine List.ext_getElem (by simp [ak.o,aD.o]) fun b aR aO=>?_
     have aX:b<L.length:=(by simpa using aR);have aV:b<C.length:=(by simpa using aO);have k:=U.o b (by have:=ak.o;omega);rw [Zo,Zo];rw [Ql,Qg aX,Ql,Qg aV] at k;exact k
   have aS:=J9 (ac.o.trans (y.o.mono (by omega)));clear U aq ah am aw;go_wp2;go_ret;exact ⟨qab j.o,by rw [O.o];exact aS.o⟩
end Go.Proofs.YtecpnfhpcamljaaGreatDoor
namespace Go.Proofs.YtecpnfhpcamljaaGreatDoor
open Tryz
open Go.RowKit
theorem qyV {s:ByteArray} (L:List Tr) (h:I4 s):(0:Int)=qcP (opc s) L:=by rw [qzM h];rfl
theorem qwP {s:ByteArray} (L:List Tr) (h:I5 s):(2:Int)=qcP (opc s) L:=by rw [qzi h];rfl
theorem qt5 {s:ByteArray} (L:List Tr) (h:I6 s) (k:0<L.length) (e:L[0].1=3):(2:Int)=qcP (opc s) L:=by
 rw [qyw h];cases L with
 | nil=>simp at k
 | cons q t=>
  have r:q.1=3:=e;unfold qcP;rw [Qe (by omega),Qe (by omega),Qi ⟨rfl,by simp [r]⟩]
theorem qtV {s:ByteArray} (L:List Tr) (q:I6 s) (e:∀ k:0<L.length,¬L[0].1=3):(1:Int)=qcP (opc s) L:=by
 rw [qyw q];unfold qcP;rw [Qe (by omega),Qe (by omega),Qe];rintro ⟨-,h⟩;cases L with
 | nil=>simp at h
 | cons r t=>exact e (by simp) (by simpa using h)
theorem qyJ {s:ByteArray} (L:List Tr) (q:¬I4 s) (z:¬I5 s) (h:¬I6 s):(1:Int)=qcP (opc s) L:=by
 unfold qcP;rw [Qe (qwL q),Qe (qwZ z),Qe (fun y=>qxc h y.1)]
theorem qq4 (s:ByteArray) (A:Option Addr) (cap:Nat) (L:List Tr) (ad:L.length<=1000) (w:World) (H:qai w A L) :
  Calls prog 167 #[.agg #[.string s,.slice A L.length cap]] w fun ah ai=>ah=.returned (.int .i64 (qcP (opc s) L))/\Below w.heap.size w ai:=by
 have B0:Hid (Below w.heap.size w (w.alloc (.cells #[.string s,.slice A L.length cap] 24))):=B0;by_cases e:I4 s
 ·have b:=J9 (qyV L e)
  clear H;rcases e with rfl | rfl | rfl | rfl | rfl | rfl
  all_goals
   go_enter func167,ntmps167
   go_wp2;go_ret;exact ⟨qao b.o,B0.o⟩
 by_cases k:I5 s
 ·have b:=J9 (qwP L k)
  clear H e;rcases k with rfl | rfl
  all_goals
   go_enter func167,ntmps167
   go_wp2;go_ret;exact ⟨qao b.o,B0.o⟩
 by_cases h:I6 s
 ·have y:=J9 (qt5 L h)
  have n:=J9 (qtV L h);have G:=J9 (H.below B0.o);clear e k H;obtain rfl:s=_:=h;by_cases q:0<L.length
  ·obtain ⟨ao,au,rfl,ag,E,W,ac⟩:=G.o.at_ q
   rw [Nat.zero_mul,Nat.add_zero] at E;obtain ⟨ar,Z⟩:=N9 (L.length);have y:=J9 (y.o q);have n:=J9 (fun (aj:¬L[0].1=3)=>n.o fun _=>aj);obtain ⟨J,ae⟩:=N9 (L[0].1);rw [ae] at y n E;have ak:decide ((0:Int)<(L.length:Int))=true:=Qn (by omega);have am:(0:Int)<(L.length:Int):=(by omega);have ax:L.length<=1000:=ad;rw [Z] at ad E W ac B0 G ak am |-;clear Z ae q W ac ag;by_cases z:J=3
   ·have b:=J9 (y.o z)
    subst z
    go_enter func167,ntmps167
    go_wp2;go_ret;exact ⟨qao b.o,B0.o⟩
   ·have b:=J9 (n.o z)
    go_enter func167,ntmps167
    go_wp2;go_ret;exact ⟨qao b.o,B0.o⟩
  ·have af:L.length=0:=by omega
   have b:=J9 (n.o fun J=>absurd J q);rw [af] at B0 |-;clear q af G
   go_enter func167,ntmps167
   go_wp2;go_ret;exact ⟨qao b.o,B0.o⟩
 ·have b:=J9 (qyJ L e k h)
  clear H;simp only [I4,not_or] at e;simp only [I5,not_or] at k;obtain ⟨U,O,V,K,T,aa⟩:=e;obtain ⟨ab,X⟩:=k;have M:¬s=_:=h;have an:(s.toList == [66,73,84])=false:=by simpa using qak U
  have ay:(s.toList == [82,69,83])=false:=by simpa using qak O
  have ap:(s.toList == [83,69,84])=false:=by simpa using qak V
  have az:(s.toList == [73,77])=false:=by simpa using qak K
  have aw:(s.toList == [82,83,84])=false:=by simpa using qak T
  have aB:(s.toList == [79,85,84])=false:=by simpa using qak aa
  have aq:(s.toList == [74,80])=false:=by simpa using qak ab
  have aA:(s.toList == [67,65,76,76])=false:=by simpa using qak X
  have av:(s.toList == [76,68])=false:=by simpa using qak M
  clear U O V K T aa ab X M h
  go_enter func167,ntmps167
  go_wp2;go_ret;exact ⟨qao b.o,B0.o⟩
def inL (h:List ByteArray) (s:ByteArray):Bool:=h.any fun q=>q.toList == s.toList
theorem quQ (h:List ByteArray) (s:ByteArray) (j:Nat) (q:j<h.length) (e:(h[j].toList == s.toList)=true):true=inL h s:=
 (List.any_eq_true.2 ⟨_,QJ q,e⟩).symm
theorem qxt (h:List ByteArray) (s:ByteArray) (x:∀ k,k<h.length->∀ (a:k<h.length),(h[k].toList == s.toList)=false):false=inL h s:=by
 refine (List.any_eq_false.2 fun z y=>?_).symm;obtain ⟨k,q,rfl⟩:=Ze y;rw [x k q q];exact Bool.false_ne_true
theorem qen (A:Option Addr) (cap:Nat) (a:List ByteArray) (M:a.length<=1000) (s:ByteArray) (w:World) (H:qdl w A a) :
  Calls prog 46 #[.slice A a.length cap,.string s] w fun y T=>y=.returned (.bool (inL a s))/\w=T:=by
 have R:=J9 H;have U:=J9 (quQ a s);have V:=J9 (qxt a s);obtain ⟨E,G⟩:=N9 (a.length);have J:=J9 G;rw [G] at M |-;clear H G
 go_enter func46,ntmps46
 go_wp2
 go_loopw [5] (fun x wr=>∃ e:Nat,e<=E/\x=.int .i64 e/\Hid (∀ h,h<e->∀ (i:h<a.length),(a[h].toList == s.toList)=false)/\wr=w) (fun x _=>E - (intOf x).toNat)
 case atStart=>exact ⟨0,Qu _,rfl,fun h ac=>by omega,rfl⟩
 case round=>
  obtain ⟨e,aa,rfl,j,rfl⟩:=hrel;by_cases Z:e<E
  ·have n:e<a.length:=by rw [J.o];exact Z
   obtain ⟨ad,ab,W,K⟩:=R.o.at_ n;subst W;cases q:(a[e].toList == s.toList)
   ·have R2:Hid (∀ h,h<e+1->∀ (i:h<a.length),(a[h].toList == s.toList)=false):=fun h X i=>by
     by_cases y:h=e
     ·subst y;exact q
     ·exact j.o h (by omega) i
    obtain ⟨O,k⟩:=N9 (a[e]);rw [k] at K q;clear k j n;go_wp2;go_roundw
    case rel=>exact ⟨e+1,by omega,by go_num,R2.o,trivial⟩
    case measure=>simp [intOf];omega
   ·have z:Hid (true=inL a s):=U.o e n q
    obtain ⟨O,k⟩:=N9 (a[e]);rw [k] at K q;clear k j n;go_wp2;go_ret;exact ⟨qab z.o,rfl⟩
  ·have z:Hid (false=inL a s):=V.o fun h X i=>j.o h (by have:=J.o;omega) i
   clear j;go_wp2;go_ret;exact ⟨qab z.o,rfl⟩
def W1:List ByteArray:=[⟨#[83,85,66]⟩,⟨#[65,78,68]⟩,⟨#[88,79,82]⟩,⟨#[79,82]⟩,⟨#[67,80]⟩]
def W2:List ByteArray:=[⟨#[65,68,68]⟩,⟨#[65,68,67]⟩,⟨#[83,66,67]⟩]
def W4:List ByteArray:=[⟨#[66,73,84]⟩,⟨#[82,69,83]⟩,⟨#[83,69,84]⟩,⟨#[73,77]⟩,⟨#[82,83,84]⟩,⟨#[79,85,84]⟩]
theorem eqB (a b:ByteArray):(a.toList == b.toList)=decide (b=a):=by
 by_cases e:b=a
 ·subst e;rw [qAZ,Qn rfl]
 ·rw [Qh e,qak (fun h=>e h.symm)]
theorem qy6 (s:ByteArray):inL W1 s=decide (I1 s):=Bool.eq_iff_iff.2 (by rw [decide_eq_true_iff];simp [inL,W1,I1,eqB])
theorem qza (s:ByteArray):inL W2 s=decide (I2 s):=Bool.eq_iff_iff.2 (by rw [decide_eq_true_iff];simp [inL,W2,I2,eqB])
theorem qAL (s:ByteArray):inL W4 s=decide (I4 s):=Bool.eq_iff_iff.2 (by rw [decide_eq_true_iff];simp [inL,W4,I4,eqB])
theorem qdr (s:ByteArray) (A:Option Addr) (cap:Nat) (L:List Tr) (aB:L.length<=1000) (w:World) (H:qai w A L) :
  Calls prog 47 #[.agg #[.string s,.slice A L.length cap]] w fun h aq=>h=.returned (.int .i64 (qcP (opc s) L))/\Below w.heap.size w aq:=by
 obtain ⟨O,M⟩:=N9 ((w.alloc (.cells #[.string s,.slice A L.length cap] 24)).alloc (.cells (W4.map Value.string).toArray 9));have n:Hid (Below w.heap.size w O):=by rw [<- M];exact (B0).alloc (by simp) _
 have U:Hid (Bx O w.heap.size s A L.length cap):=by rw [<- M];exact ⟨by simp [go_sem],by simp [go_sem]⟩
 have W:=qaH (w.alloc (.cells #[.string s,.slice A L.length cap] 24)) W4 9;have ag:(w.alloc (.cells #[.string s,.slice A L.length cap] 24)).heap.size=w.heap.size+1:=by simp
 rw [M,ag] at W;have e:=J9 (qen (some ⟨w.heap.size+1,0,none⟩) 6 W4 (by decide) s O W);rw [qAL] at e;have V:=J9 (H.below n.o);have aw:=J9 (fun k=>qyV (s:=s) L k);have av:=J9 (fun k=>qwP (s:=s) L k);have E:=J9 (fun k=>qt5 (s:=s) L k);have q:=J9 (fun k=>qtV (s:=s) L k);have ao:=J9 (fun an az ar=>qyJ (s:=s) L an az ar);clear H W ag;have ab:(w.alloc (.cells #[.string s,.slice A L.length cap] 24)).alloc (.cells #[.string ⟨#[66,73,84]⟩,.string ⟨#[82,69,83]⟩,.string ⟨#[83,69,84]⟩,.string ⟨#[73,77]⟩,.string ⟨#[82,83,84]⟩,.string ⟨#[79,85,84]⟩] 9)=O:=M;clear M;have am:W4.length=6:=rfl;rw [am] at e;obtain ⟨aF,ac⟩:=U.o;by_cases y:I4 s
 ·have b:=J9 (aw.o y)
  rw [Qn y] at e
  go_enter func47,ntmps47
  go_wp2_with fail
  refine e.o.mono ?_;rintro h J ⟨rfl,rfl⟩;go_wp2;go_ret;exact ⟨qao b.o,n.o⟩
 rw [Qh y] at e;by_cases G:I5 s
 ·have b:=J9 (av.o G)
  clear y;rcases G with rfl | rfl
  all_goals
   go_enter func47,ntmps47
   go_wp2_with fail
   refine e.o.mono ?_;rintro h J ⟨rfl,rfl⟩;go_wp2;go_ret;exact ⟨qao b.o,n.o⟩
 by_cases z:I6 s
 ·have E:=J9 (E.o z)
  have q:=J9 (q.o z);clear y G;obtain rfl:s=_:=z;by_cases K:0<L.length
  ·obtain ⟨aC,aG,rfl,ak,ad,ap,ax⟩:=V.o.at_ K
   rw [Nat.zero_mul,Nat.add_zero] at ad;have E:=J9 (E.o K);have q:=J9 (fun (au:¬L[0].1=3)=>q.o fun _=>au);obtain ⟨Z,ai⟩:=N9 (L[0].1);rw [ai] at E q ad;have ay:decide ((0:Int)<(L.length:Int))=true:=Qn (by omega);have aA:(0:Int)<(L.length:Int):=(by omega);obtain ⟨aE,af⟩:=N9 (L.length);rw [af] at aB ac ay aA ab |-;clear af ai K ap ax ak V U;by_cases T:Z=3
   ·have b:=J9 (E.o T)
    subst T
    go_enter func47,ntmps47
    go_wp2_with fail
    refine e.o.mono ?_;rintro h J ⟨rfl,rfl⟩;go_wp2;go_ret;exact ⟨qao b.o,n.o⟩
   ·have b:=J9 (q.o T)
    go_enter func47,ntmps47
    go_wp2_with fail
    refine e.o.mono ?_;rintro h J ⟨rfl,rfl⟩;go_wp2;go_ret;exact ⟨qao b.o,n.o⟩
  ·have aj:L.length=0:=by omega
   have b:=J9 (q.o fun Z=>absurd Z K);rw [aj] at ac ab |-;clear K aj V U
   go_enter func47,ntmps47
   go_wp2_with fail
   refine e.o.mono ?_;rintro h J ⟨rfl,rfl⟩;go_wp2;go_ret;exact ⟨qao b.o,n.o⟩
 ·have b:=J9 (ao.o y G z)
  simp only [I5,not_or] at G;obtain ⟨ah,ae⟩:=G;have aa:¬s=_:=z;have aD:(s.toList == [74,80])=false:=by simpa using qak ah
  have aI:(s.toList == [67,65,76,76])=false:=by simpa using qak ae
  have aH:(s.toList == [76,68])=false:=by simpa using qak aa
  clear ah ae aa z y
  go_enter func47,ntmps47
  go_wp2_with fail
  refine e.o.mono ?_;rintro h J ⟨rfl,rfl⟩;go_wp2;go_ret;exact ⟨qao b.o,n.o⟩
def Dr (w:World) (b:Nat) (s:ByteArray) (v:Value):Prop:=w.heap[b]?=some (.cells #[.string s,v] 93 (0,0))
theorem Dr.cells {w:World} {b:Nat} {s:ByteArray} {v:Value} (h:Dr w b s v):w.cell? ⟨b,0,none⟩=some (.string s)/\w.cell? ⟨b,1,none⟩=some v/\w.frozen? ⟨b,0,none⟩=false/\w.frozen? ⟨b,1,none⟩=false:=
 ⟨by rw [C9 h];rfl,by rw [C9 h];rfl,Qp h 0,Qp h 1⟩
theorem Dr.lt {w:World} {b:Nat} {s:ByteArray} {v:Value} (h:Dr w b s v):b<w.heap.size:=(Qb.1 h).1
theorem Dr.below {w w':World} {b:Nat} {s:ByteArray} {v:Value} (h:Dr w b s v) (q:Below w.heap.size w w'):Dr w' b s v:=(q.block _ h.lt).trans h
theorem Dr.put {w:World} {b:Nat} {s:ByteArray} {v:Value} (q:Dr w b s v) (u:Value):Dr (w.setCell ⟨b,1,none⟩ u) b s u:=by
 have h:=heap_setCell_same w b 1 _ _ u q;exact h
theorem Dr.other {w:World} {b g:Nat} {s:ByteArray} {v:Value} (h:Dr w b s v) (q:g≠b) (j:Nat) (u:Value):Dr (w.setCell ⟨g,j,none⟩ u) b s v:=(heap_setCell_other w ⟨g,j,none⟩ b u q.symm).trans h
def qc8 (w:World) (n g u:Nat) (L:List Tr):Prop:=n<=g/\∃ j,w.heap[g]?=some (.cells j 56 (0,0))/\∀ h q,(cellsT L)[h]?=some q->j[u+h]?=some q
def qan (w:World) (n:Nat) (v:Value) (L:List Tr):Prop:=
 (v=.slice none 0 0/\L=[])\/∃ q h g,v=.slice (some ⟨q,h,none⟩) L.length g/\L.length<=g/\g<=maxLen/\qc8 w n q h L
theorem qc8.apart {w:World} {n g q b:Nat} {L:List Tr} {s:ByteArray} {v:Value} (y:qc8 w n g q L) (z:Dr w b s v):g≠b:=by
 rintro rfl;obtain ⟨-,E,h,-⟩:=y;rw [show w.heap[g]?=_ from z] at h;simp at h
theorem qc8.lt {w:World} {n g h:Nat} {L:List Tr} (q:qc8 w n g h L):g<w.heap.size:=by
 obtain ⟨-,z,y,-⟩:=q;exact (Qb.1 y).1
theorem qc8.below {w w':World} {n g h:Nat} {L:List Tr} (q:qc8 w n g h L) (J:Below w.heap.size w w'):qc8 w' n g h L:=by
 have G:=q.lt;obtain ⟨y,K,E,z⟩:=q;exact ⟨y,K,(J.block _ G).trans E,z⟩
theorem qc8.cellAt {w:World} {n g h:Nat} {L:List Tr} (q:qc8 w n g h L) (j:Nat) (u:Value) (e:(cellsT L)[j]?=some u):w.cell? ⟨g,h+j,none⟩=some u:=by
 obtain ⟨-,E,z,y⟩:=q;rw [C9 z];exact y j u e
theorem qc8.frozen {w:World} {n g h:Nat} {L:List Tr} (q:qc8 w n g h L) (j:Nat):w.frozen? ⟨g,j,none⟩=false:=by
 obtain ⟨-,z,y,-⟩:=q;exact Qp y j
theorem qc8.at_ {w:World} {n g h:Nat} {L:List Tr} (q:qc8 w n g h L) (j:Nat) (E:j<L.length):w.cell? ⟨g,h+j*3,none⟩=some (.int .i64 L[j].1)/\w.cell? ⟨g,h+j*3+1,none⟩=some (.int .i64 L[j].2.1)/\w.cell? ⟨g,h+j*3+2,none⟩=some (.int .i64 L[j].2.2):=by
 obtain ⟨y,z,G⟩:=qdb L j E;exact ⟨q.cellAt _ _ y,by rw [Nat.add_assoc];exact q.cellAt _ _ z,by rw [Nat.add_assoc];exact q.cellAt _ _ G⟩
theorem qc8.put {w:World} {n g k:Nat} {L L':List Tr} (J:qc8 w n g k L) (j:Nat) (u:Value) (e:(cellsT L).set j u=cellsT L'):qc8 (w.setCell ⟨g,k+j,none⟩ u) n g k L':=by
 obtain ⟨G,O,K,y⟩:=J;refine ⟨G,_,heap_setCell_same w g (k+j) _ _ u K,fun z E h=>?_⟩;rw [<- e,List.getElem?_set] at h;by_cases x:j=z
 ·subst x
  rw [Qi rfl] at h;have M:k+j<O.size:=by
   by_cases q:j<(cellsT L).length
   ·have:=y j _ (Qg q)
    exact (Qb.1 this).1
   ·rw [Qe q] at h;cases h
  split at h
  ·simp only [Qv] at h
   subst h;simp [M]
  ·cases h
 ·rw [Qe x] at h
  rw [QR,Qe (by omega)];exact y z E h
theorem qan.below {w w':World} {n:Nat} {v:Value} {L:List Tr} (g:qan w n v L) (J:Below w.heap.size w w'):qan w' n v L:=by
 rcases g with g | ⟨E,q,K,h,y,G,z⟩
 ·exact .inl g
 ·exact .inr ⟨E,q,K,h,y,G,z.below J⟩
theorem qan.other {w:World} {n b:Nat} {v u:Value} {L:List Tr} {s:ByteArray} {x:Value} (g:qan w n v L) (U:Dr w b s x) (j:Nat):qan (w.setCell ⟨b,j,none⟩ u) n v L:=by
 rcases g with g | ⟨q,K,y,z,T,M,h⟩
 ·exact .inl g
 ·have J:=h.apart U
  obtain ⟨O,V,G,E⟩:=h;exact .inr ⟨q,K,y,z,T,M,O,V,(heap_setCell_other w ⟨b,j,none⟩ q u J).trans G,E⟩
theorem qan.ops {w:World} {n:Nat} {v:Value} {L:List Tr} (q:qan w n v L):∃ h g,v=.slice h L.length g/\qai w h L/\L.length<=g/\g<=maxLen:=by
 rcases q with ⟨rfl,rfl⟩ | ⟨E,j,g,rfl,y,G,z⟩
 ·exact ⟨none,0,rfl,.inl rfl,Qa _,by unfold maxLen;omega⟩
 ·exact ⟨_,g,rfl,.inr ⟨E,j,rfl,fun A J=>z.at_ A J⟩,y,G⟩
theorem qaf.own {w:World} {n:Nat} {v:Value} {L:List Tr} (g:qaf w n v L):qan w n v L:=by
 obtain ⟨M,g | ⟨E,G,J,rfl,j,y,z,u,T,q⟩⟩:=g
 ·exact .inl ⟨g.1,Qw g.2⟩
 ·refine .inr ⟨E,0,G,rfl,z,u,j,J,y,fun K O h=>?_⟩
  rw [<- q,Zs] at h;split at h
  ·rw [QT];simpa using h
  ·cases h
theorem qan.lift {w:World} {n m:Nat} {v:Value} {L:List Tr} (g:qan w n v L) (k:m<=n):qan w m v L:=by
 rcases g with g | ⟨E,q,J,h,y,G,z,K⟩
 ·exact .inl g
 ·exact .inr ⟨E,q,J,h,y,G,Qj k z,K⟩
theorem qan.qA8 {w:World} {n:Nat} {v:Value} {L:List Tr} (h:qan w n v L) (z:0<L.length):∃ g y q,v=.slice (some ⟨g,y,none⟩) L.length q/\L.length<=q/\q<=maxLen/\qc8 w n g y L:=by
 rcases h with ⟨-,rfl⟩ | h
 ·simp at z
 ·exact h
theorem qan.alloc {w:World} {n:Nat} {v:Value} {L:List Tr} (h:qan w n v L) (o:Obj):qan (w.alloc o) n v L:=h.below (B0)
theorem Dr.alloc {w:World} {b:Nat} {s:ByteArray} {v:Value} (h:Dr w b s v) (o:Obj):Dr (w.alloc o) b s v:=h.below (B0)
end Go.Proofs.YtecpnfhpcamljaaGreatDoor
