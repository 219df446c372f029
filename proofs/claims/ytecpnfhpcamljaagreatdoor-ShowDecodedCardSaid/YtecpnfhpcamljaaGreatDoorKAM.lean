/-
  LsA, SeX, CnK, SeRh, SeVa, SeVb, TbV, EnO, EnA, DeA, ShA, ShE, MixP, DeB, DeE, DeD, EnB, SeRj, TbY, EnC.
-/
import Derived.Test.YtecpnfhpcamljaaGreatDoorKAL
set_option linter.all false
set_option maxRecDepth 100000
set_option maxHeartbeats 4000000
namespace Go.Proofs.YtecpnfhpcamljaaGreatDoor
open Tryz
open Go.RowKit Go.ChangeShapes Go.WideShapes Go.Deep
structure Ie where
 s:ByteArray
 A:Option Addr
 cap:Nat
 L:List Tr
instance:Inhabited Ie:=⟨⟨⟨#[]⟩,none,0,[]⟩⟩
def Ie.v (r:Ie):Value:=.slice r.A r.L.length r.cap
def qwi (w:World) (A:Option Addr) (R:List Ie):Prop:=
 R=[]\/∃ h j,A=some ⟨h,j,none⟩/\∀ b (q:b<R.length),w.cell? ⟨h,j+b*2,none⟩=some (.string R[b].s)/\w.cell? ⟨h,j+b*2+1,none⟩=some R[b].v/\qai w R[b].A R[b].L
theorem qwi.at_ {w:World} {A:Option Addr} {R:List Ie} (y:qwi w A R) {k:Nat} (q:k<R.length):∃ h b,A=some ⟨h,b,none⟩/\w.cell? ⟨h,b+k*2,none⟩=some (.string R[k].s)/\w.cell? ⟨h,b+k*2+1,none⟩=some R[k].v/\qai w R[k].A R[k].L:=by
 rcases y with rfl | ⟨h,b,rfl,z⟩
 ·simp at q
 ·exact ⟨h,b,rfl,z k q⟩
theorem qwi.below {w w':World} {A:Option Addr} {R:List Ie} (z:qwi w A R) (j:Below w.heap.size w w'):qwi w' A R:=by
 rcases z with rfl | ⟨v,y,rfl,G⟩
 ·exact .inl rfl
 ·refine .inr ⟨v,y,rfl,fun J K=>?_⟩
  have p:∀ (b:Addr) (e:Value),w.cell? b=some e->w'.cell? b=some e:=fun b e h=>(j.cell (Qq w _ h)).trans h
  obtain ⟨q,E,M⟩:=G J K;exact ⟨p _ _ q,p _ _ E,M.below j⟩
section
variable {H:Type} {enc:TypeId×Value->H} {w:World} {spare:Nat->Bool} {fuel:Nat}
theorem qph {cs:List Value} {x:DataW H×List MemPlace} (A:DataW.trod enc prog w 0 spare true fuel 24 cs=some x):∃ r:Ie,cs=[.string r.s,r.v]/\r.s.size<=maxLen/\r.L.length<=maxLen/\qai w r.A r.L:=by
 obtain ⟨aa,ad,ac,_,n,q,h⟩:=trod_struct2 underlying24 A;have U:prog.cellsOf 24=2:=by kernel_rfl
 have K:prog.cellsOf 9=1:=by kernel_rfl
 have J:prog.cellsOf 22=1:=by kernel_rfl
 rw [U] at n
 match cs,n with
 | [G,ab],_=>
  simp only [K,J] at q h;obtain ⟨s,Z,_,E⟩:=DataW.trod_string underlying9 q;have L:G=.string s:=by simpa using Z
  simp only [Qr,Qx,List.take_succ_cons,List.take_zero] at h;obtain ⟨W,ae,z,y,M,O,T,V⟩:=qi5 h;subst L M O;exact ⟨⟨s,W,z,y⟩,rfl,E,T,V⟩
end
def qtR:List Ie->List Value
 | []=>[]
 | r :: h=>.string r.s :: r.v :: qtR h
def qzl (w:World) (n:Nat) (v:Value) (R:List Ie):Prop:=w.ownsRow n 24 2 v R.length (qtR R)/\∀ h∈R,qaf w n h.v h.L
theorem qzl.below {w w':World} {n:Nat} {v:Value} {R:List Ie} (e:qzl w n v R) (k:Below w.heap.size w w'):qzl w' n v R:=
 ⟨World.ownsRow.kept e.1 (row:=none) ⟨k.os,k.tape,k.output,k.size,fun g h _=>k.block g h⟩ (by
  cases y:v.ownBlock with
  | none=>exact .inl rfl
  | some r=>exact .inr (by simp)),fun q i=>(e.2 q i).below k⟩
theorem qaf.kept {w w':World} {n g:Nat} {v:Value} {L:List Tr} {row:Option Nat} (q:qaf w n v L) (k:w.grownBy w' row) (J:∀ h,row=some h->∀ y z,w.heap[h]?≠some (.cells y 56 z)):qaf w' n v L:=
 World.ownsRow.kept q k (by
  cases e:v.ownBlock with
  | none=>exact .inl rfl
  | some h=>
   refine .inr fun G=>?_
   rcases q.2 with ⟨rfl,_⟩ | ⟨K,M,y,rfl,_,E,_⟩
   ·simp [Value.ownBlock] at e
   ·simp only [Value.ownBlock,Qv] at e
    subst e;exact J _ G.symm _ _ E)
end Go.Proofs.YtecpnfhpcamljaaGreatDoor
namespace Go.Proofs.YtecpnfhpcamljaaGreatDoor
open Tryz
open Go.RowKit Go.Shelf
attribute [local go_sem] Oper.semAt_some
def sT (s:ByteArray):Str:=s.data.toList
theorem qsa (s:ByteArray):sB (sT s)=s:=by
 obtain ⟨d⟩:=s;show (⟨d.toList.toArray⟩:ByteArray)=⟨d⟩;rw [Array.toArray_toList]
theorem qxC (s:ByteArray):(sT s).length=s.size:=by unfold sT;rw [Zf];rfl
def qcG (s:ByteArray) (L:List Tr):Bool:=(qdB (sT s) (canL (opc s) L)).isSome
theorem qsO (h:Str) (I C:List Tr):codeF h I C≠0:=by
 unfold codeF;split
 ·assumption
 ·split <;> decide
theorem qqt {s:ByteArray} {L:List Tr} {k:Ke} (h:qdB (sT s) (canL (opc s) L)=some k):qcG s L=true:=by unfold qcG;rw [h];rfl
theorem qqO {s:ByteArray} {L:List Tr} (h:qdB (sT s) (canL (opc s) L)=none):qcG s L=false:=by unfold qcG;rw [h];rfl
theorem qm6 (s:ByteArray) (J:s.size<=1000) (q:Option Addr) (z h:Nat) (I:List Tr) (M:I.length=h) (G:h<=900) (w:World) (E:qad w) (K:qai w q I) :
  Calls prog 65 #[.agg #[.string s,.slice q h z]] w (qhB w (sT s) I (qdB (sT s) (canL (opc s) I))):=by
 have y:=qqA (sT s) (by rw [qxC];exact J) q z h I M G w E K;rw [qsa] at y;exact y
theorem qpd (A:Option Addr) (cap n:Nat) (R:List Ie) (ar:R.length=n) (aL:n<=1000) (au:∀ r∈R,r.s.size<=1000/\r.L.length<=900) (w:World) (aj:qad w) (H:qwi w A R) :
  Calls prog 34 #[.slice A n cap] w fun J aE=>J=.returned (.bool (R.all fun r=>qcG r.s r.L))/\Below w.heap.size w aE:=by
 have ay:=J9 H;have aw:=J9 ar;have aG:=J9 aj;have HR:=J9 au;clear H aj ar au
 go_enter func34,ntmps34
 go_wp2
 go_loopw [9] (fun aa wr=>∃ e:Nat,e<=n/\aa=.int .i64 e/\Hid (∀ c (z:c<R.length),c<e->qcG R[c].s R[c].L=true)/\Hid (Below w.heap.size w wr)) (fun aa _=>n - (intOf aa).toNat)
 case atStart=>exact ⟨0,Qu _,rfl,fun c z aI=>by omega,Qc _ _⟩
 case round=>
  obtain ⟨e,aN,rfl,R1,y⟩:=hrel;by_cases aZ:e<n
  ·have G:e<R.length:=by have:=aw.o;omega
   obtain ⟨aS,aM,rfl,ag,X,O⟩:=(ay.o.below y.o).at_ G;have h:=HR.o _ (QJ G);have aq:Hid (∀ r:Ie,R[e]=r->qcG r.s r.L=true->∀ c (z:c<R.length),c<e+1->qcG R[c].s R[c].L=true):=fun r ac U c z aI=>by
    by_cases J:c=e
    ·subst J
     rw [ac];exact U
    ·exact R1.o c z (by omega)
   have ap:Hid (∀ r:Ie,R[e]=r->qcG r.s r.L=false->(R.all fun r=>qcG r.s r.L)=false):=fun r ac U=>by
    refine List.all_eq_false.2 ⟨r,ac ▸ QJ G,?_⟩;rw [U];decide
   obtain ⟨r,K⟩:=N9 (R[e]);have B:=J9 (aq.o r K);have M:=J9 (ap.o r K);clear aq ap;rw [K] at ag X O h;obtain ⟨s,ak,ai,i⟩:=r;simp only [Ie.v] at ag X O h;simp only at B M;obtain ⟨ao,ad⟩:=N9 (i.length);rw [ad] at X h;obtain ⟨aA,aD⟩:=N9 (wr.heap.size);obtain ⟨af,aX,V,W,aF⟩:=qiv wr s (.slice ak ao ai) aA aD;have k:=J9 (y.o.trans (W.mono y.o.size));have av:qad af:=aG.o.below k.o;have E:=qm6 s h.1 ak ai ao i ad h.2 af av (O.below W);have aV:=C9 V 0;have aO:=C9 V 1;obtain ⟨j,ae⟩:=N9 (qdB (sT s) (canL (opc s) i));rw [ae] at E;have ax:=J9 ae;clear K G V W aF O h av y ae R1 ad
   go_wp2_with fail
   refine E.mono ?_;rintro J aU ah;cases j with
   | some c=>
    obtain ⟨aQ,aP,rfl,az,o⟩:=ah;have q:=J9 (k.o.trans (o.mono k.o.size));have Z:=(fun j=>J9 (q.o.alloc q.o.size j));have R2:=J9 (B.o (qqt ax.o));obtain ⟨aY,aR,a0,aH,aJ,aW⟩:=c;obtain ⟨aK,an⟩:=N9 (aH.length);simp only [enV,an];clear E o az B M an;go_wp2;go_roundw
    case rel=>exact ⟨e+1,by omega,by go_num,R2.o,(Z _).o⟩
    case measure=>simp [intOf];omega
   | none=>
    obtain ⟨rfl,o⟩:=ah;have q:=J9 (k.o.trans (o.mono k.o.size));have Z:=(fun j=>J9 (q.o.alloc q.o.size j));have T:=J9 (M.o (qqO ax.o)).symm;have ab:=qsO (sT s) i (canL (opc (sB (sT s))) i);obtain ⟨aC,am⟩:=N9 (codeF (sT s) i (canL (opc (sB (sT s))) i));rw [am] at ab |-;have aT:(aC == 0)=false:=Qm.2 ab;simp only [enV];clear E o B M am ab;go_wp2;go_ret;exact ⟨qab T.o,(Z _).o⟩
  ·have T:Hid (true=R.all fun r=>qcG r.s r.L):=by
    refine (QA.2 fun r h=>?_).symm;obtain ⟨c,aB,rfl⟩:=Ze h;exact R1.o c aB (by have:=aw.o;omega)
   clear R1;go_wp2;go_ret;exact ⟨qab T.o,y.o⟩
end Go.Proofs.YtecpnfhpcamljaaGreatDoor
namespace Go.Proofs.YtecpnfhpcamljaaGreatDoor
open Tryz
open Go.RowKit
theorem qbz {s:ByteArray} {L:List Tr} (h:qa5 s L=0):knB s=true/\L.length<=3/\∀ q∈L,vT q=true:=by
 unfold qa5 at h;split at h
 ·cases h
 ·rename_i t
  split at h
  ·cases h
  ·rename_i E
   split at h
   ·rename_i y
    exact ⟨by simpa using t,by omega,fun q z=>QA.1 y q z⟩
   ·cases h
theorem qx5 {c:Nat} {L:List Tr} {u:Tr} (h:u∈exL c (accL c L)):u∈L\/u=qbV\/u=hlT\/u=deT:=by
 have e:u∈accL c L\/u=hlT\/u=deT:=by
  unfold exL at h;split at h
  ·rcases QM.1 h with q | h
   ·exact .inr (.inr q)
   ·exact .inr (.inl (QI.1 h))
  ·exact .inl h
 rcases e with e | e | e
 ·unfold accL at e
  split at e
  ·exact .inl (List.mem_of_mem_tail e)
  ·split at e
   ·rcases QM.1 e with q | h
    ·exact .inr (.inl q)
    ·exact .inl h
   ·exact .inl e
 ·exact .inr (.inr (.inl e))
 ·exact .inr (.inr (.inr e))
theorem qwY:vT qbV=true:=by decide +kernel
theorem qzv:vT hlT=true:=by decide +kernel
theorem qz0:vT deT=true:=by decide +kernel
theorem qw9 {c:Nat} {s:ByteArray} {L:List Tr} (y:qa5 s L=0) {u:Tr} (q:u∈exL c (accL c L)):vT u=true:=by
 rcases qx5 q with h | rfl | rfl | rfl
 ·exact (qbz y).2.2 u h
 ·exact qwY
 ·exact qzv
 ·exact qz0
theorem qAB {t:Tr} (a:vT t=true) (h:t.1=6):t.2.1=0/\-32768<=t.2.2/\t.2.2<=65535:=by
 obtain ⟨r,n,q⟩:=t;simp only at h;subst h;unfold vT at a;simp only [qk2] at a;simp only [Qd,beq_iff_eq,Qf] at a;exact ⟨a.1,a.2.1,a.2.2⟩
theorem qvF {t:Tr} (w:Int) (y:vT t=true):vT (wrapT (qeK w) t)=true:=by
 by_cases e:t.1=6/\-(qeK w / 2)<=t.2.2/\t.2.2<0
 ·obtain ⟨z,G,J⟩:=qAB y e.1
  have h:wrapT (qeK w) t=(t.1,t.2.1,t.2.2+qeK w):=by unfold wrapT;rw [Qi e]
  rw [h,e.1];unfold vT;simp only [qk2,Qd,beq_iff_eq,Qf];obtain ⟨-,E,K⟩:=e;refine ⟨z,?_,?_⟩ <;> rcases qgY w with q | q | q <;> rw [q] at E |- <;> omega
 ·have h:wrapT (qeK w) t=t:=by unfold wrapT;rw [Qe e]
  rw [h];exact y
theorem qtd {c:Nat} {L:List Tr} (h:L.length<=3):(canL c L).length<=3:=by
 unfold canL;rw [QC,qip];unfold accL;split
 ·rw [List.length_tail];omega
 ·split
  ·simp only [Qt];omega
  ·exact h
theorem qj7 {s:ByteArray} {L:List Tr} (e:qa5 s L=0):qa5 s (canL (opc s) L)=0:=by
 obtain ⟨h,q,z⟩:=qbz e;refine (qo4 s _ h (by have:=qtd (c:=opc s) q;omega) fun E G y=>?_).symm;have a:=QJ y;unfold canL at a;rw [Zq] at a;obtain ⟨J,k,u⟩:=a;have:=qvF (qcP (opc s) L) (qw9 e k);rw [u] at this;exact this
end Go.Proofs.YtecpnfhpcamljaaGreatDoor
namespace Go.Proofs.YtecpnfhpcamljaaGreatDoor
open Tryz
open Go.RowKit Go.Shelf
theorem qxX {a b:Tr} (k:ks2 a=ks2 b) (h:vT a=true) (n:loK b.1.toNat<=b.2.2/\b.2.2<=hiK b.1.toNat):vT b=true:=by
 obtain ⟨q,r,G⟩:=a;obtain ⟨z,y,E⟩:=b;unfold ks2 at k;simp only [Zl] at k;obtain ⟨rfl,rfl⟩:=k;unfold vT qaC at h |-;simp only [Qd,Qf] at h |- n;exact ⟨h.1,n⟩
theorem qxb {a:Tr} (h:vT a=true):loK a.1.toNat<=a.2.2/\a.2.2<=hiK a.1.toNat:=by
 obtain ⟨k,n,q⟩:=a;unfold vT qaC at h;simp only [Qd,Qf] at h;exact h.2
theorem qsS {c:UInt8} {n:Int} (h:withR c n=true):(rangeR c).1<=n/\n<=(rangeR c).2:=by
 unfold withR at h;unfold rangeR;by_cases q:c=100\/c=101
 ·rw [Qi q] at h |-
  simp only [Qd,Qf] at h;exact h
 ·rw [Qe q] at h |-
  by_cases y:c=110
  ·rw [Qi y] at h |-
   simp only [Qd,Qf] at h;exact h
  ·rw [Qe y] at h |-
   simp only [Qd,Qf] at h;exact h
theorem qoL {A B:List Tr} (q:A.map ks2=B.map ks2) {k:Nat} (y:k<B.length):ks2 (A.getD k tr0)=ks2 (B.getD k tr0):=by
 have z:A.length=B.length:=by have:=congrArg List.length q;simpa using this
 have h:(A.map ks2)[k]?=(B.map ks2)[k]?:=by rw [q]
 rw [Zi,Zi,Qg y,Qg (by omega)] at h;rw [Ql,Ql,Qg y,Qg (by omega)];exact Qs h
theorem qhq {k:Ke} (ok:OkS k) {s:ByteArray} {C:List Tr} (z:qa9 k.2.2.1 k.2.2.2.1 k.2.2.2.2.1 s C=true):∀ O∈C,vT O=true:=by
 intro O V;unfold qa9 qfg at z;simp only [Qd,Qf,QA,QZ] at z;obtain ⟨⟨-,M⟩,U⟩:=z;obtain ⟨h,t,rfl⟩:=Ze V;have ab:k.2.2.2.1.length=C.length:=by have:=congrArg List.length M;simpa using this
 have E:=qoL M t;have T:C.getD h tr0=C[h]:=by rw [Ql,Qg t];rfl
 have J:k.2.2.2.1.getD h tr0=k.2.2.2.1[h]'(by omega):=by rw [Ql,Qg (by omega)];rfl
 have K:=(qbz ok.code).2.2 _ (QJ (l:=k.2.2.2.1) (n:=h) (by omega));have q:=U h t;have j:=ok.rng;unfold qzA at j;have j:=QA.1 j h (QZ.2 (by omega));rw [T,J] at E;rw [J] at j;have Z:(k.2.2.2.1[h]'(by omega)).1=C[h].1:=congrArg (fun W:Int×Int=>W.1) E;unfold qgW at q;rw [T,J] at q;refine qxX E K ?_;have y:=qxb K;rw [Z] at y j;by_cases G:letR k.2.2.2.2.1 k.2.2.2.1 h=0
 ·rw [Qi G,Qf] at q
  rw [q] at y;exact y
 ·rw [Qe G] at q
  have aa:=qsS q;simp only [Zv,beq_iff_eq,Qd,Qf] at j;rcases j with j | j
  ·exact absurd j G
  ·omega
theorem qnt {v:Int} (G:v=256\/v=65536\/v=0) {t:Tr} (h:vT (wrapT v t)=true):vT t=true:=by
 unfold wrapT at h;by_cases k:t.1=6/\-(v / 2)<=t.2.2/\t.2.2<0
 ·rw [Qi k] at h
  obtain ⟨J,r,q⟩:=t;simp only at k;obtain ⟨rfl,z,E⟩:=k;refine qxX (a:=(6,r,q+v)) rfl h ?_;have y:loK (6:Int).toNat=-32768:=rfl;have n:hiK (6:Int).toNat=65535:=rfl;simp only [y,n];omega
 ·rw [Qe k] at h
  exact h
theorem qw8 {c:Nat} {L:List Tr} {t:Tr} (h:t∈L):t∈exL c L:=by
 unfold exL;split
 ·rename_i q
  obtain ⟨-,rfl⟩:=q;simp only [QM,Q9,or_false] at h |-;exact h.symm
 ·exact h
theorem qqM {c:Nat} {L:List Tr} (a:∀ t∈accL c L,vT t=true):∀ t∈L,vT t=true:=by
 intro t e;unfold accL at a;by_cases h:c=1/\L.length=2/\L.head?=some qbV
 ·rw [Qi h] at a
  cases L with
  | nil=>cases e
  | cons z L=>
   obtain ⟨-,-,y⟩:=h;obtain rfl:z=qbV:=Qs y;rcases QM.1 e with rfl | e
   ·decide +kernel
   ·exact a t e
 ·rw [Qe h] at a
  by_cases q:c=2/\L.length=1
  ·rw [Qi q] at a
   exact a t (QG _ e)
  ·rw [Qe q] at a
   exact a t e
theorem qoV {c:Nat} {L:List Tr} (h:(accL c L).length<=3):L.length<=3:=by
 unfold accL at h;by_cases q:c=1/\L.length=2/\L.head?=some qbV
 ·omega
 ·rw [Qe q] at h
  by_cases y:c=2/\L.length=1
  ·omega
  ·rw [Qe y] at h
   exact h
theorem qqP {c:Nat} {L:List Tr} (q:∀ t∈canL c L,vT t=true):∀ t∈L,vT t=true:=by
 refine qqM (c:=c) fun t y=>?_
 have h:=q (wrapT (qeK (qcP c L)) t) (by unfold canL;exact List.mem_map_of_mem (qw8 y));exact qnt (qgY _) h
theorem qlQ {s:ByteArray} {I:List Tr} (y:knB s=true) (h:(canL (opc s) I).length<=3) (q:∀ t∈canL (opc s) I,vT t=true):qa5 s I=0:=by
 have z:I.length<=3:=qoV (c:=opc s) (by unfold canL at h;rw [QC,qip] at h;exact h);unfold qa5;rw [Qe (by simp [y]),Qe (by omega),Qi (QA.2 (qqP q))]
theorem qke {A B:List Tr} (y:A.map ks2=B.map ks2):A.any qfp=B.any qfp:=by
 have h:∀ e:List Tr,e.any qfp=(e.map ks2).any fun q=>qfp (q.1,q.2,0):=fun e=>by rw [List.any_map];rfl
 rw [h,h,y]
theorem qtl {A B:List Tr} (q:A.map ks2=B.map ks2):qv4 A=qv4 B:=by
 have e:∀ a:List Tr,qv4 a=(a.map ks2).foldl (fun y h=>max y (ixT (h.1,h.2,0))) 0:=fun a=>by rw [List.foldl_map];rfl
 rw [e,e,q]
theorem qlK:∀ (L:List Tr) (a:Int),(∀ t∈L,vT t=true)->L.foldl (fun a t=>max a (qiV t.1 t.2.1 t.2.2)) a=L.foldl (fun a t=>max a (ixT t)) a
 | [],_,_=>rfl
 | t :: L,a,h=>by
  rw [List.foldl_cons,List.foldl_cons,qu3 (h t (QD ..))];exact qlK L _ fun u q=>h u (QG _ q)
theorem qwT {C:List Tr} (h:∀ t∈C,vT t=true):ixC C=qv4 C:=by
 unfold ixC ixF qv4;rw [Zt];exact qlK C 0 h
theorem qwW (m:Str):sT (sB m)=m:=by unfold sT sB;simp
theorem qem (s:ByteArray) (I:List Tr):qcG s I=true↔qq8 s I (canL (opc s) I):=by
 obtain ⟨G,E⟩:=N9 (canL (opc s) I);constructor
 ·intro n
  unfold qcG at n;rw [E] at n |-;obtain ⟨h,Z⟩:=Option.isSome_iff_exists.1 n;unfold qdB qjU at Z;have K:=List.find?_some Z;have W:=List.mem_of_find?_eq_some Z;obtain ⟨W,ae⟩:=List.mem_filter.1 W;obtain ⟨y,T,z,ac⟩:=qpa W;have ok:=y.ok;have x:qa9 h.2.2.1 h.2.2.2.1 h.2.2.2.2.1 s G=true:=by
   unfold qoz at K;rw [qiz ok.places,qsa] at K;exact K
  have ah:=qhq ok x;have am:h.2.2.2.1.length=G.length:=by have:=congrArg List.length z;simpa using this
  have ao:=ok.len;have ak:knB s=true:=by
   have:=(qbz ok.code).1;rw [T,qsa] at this;exact this
  have aa:qa5 s I=0:=qlQ ak (by rw [E];omega) (by rw [E];exact ah);have U:h.2.2.2.2.2=false:=by unfold qfe at ae;simpa using ae
  have V:=ok.fst;rw [qke z] at V;have ad:=ok.lo;have af:=ok.hi;obtain ⟨C,O,an,ab⟩:=y;refine ⟨aa,h.1,C,?_,?_,O,(h.2.2.1,h.2.2.2.1,h.2.2.2.2.1,h.2.2.2.2.2),ab,U,x⟩
  ·unfold qki
   rw [V];by_cases n:3<=h.1
   ·simp [n]
   ·simp [n];omega
  ·unfold qtf
   rw [V];by_cases n:3<=h.1
   ·simp [n];omega
   ·simp [n];omega
 ·rintro ⟨aa,k,C,-,-,O,q,ab,U,x⟩
  have y:qdA (k,(C:Int),q.1,q.2.1,q.2.2.1,q.2.2.2):=⟨C,O,rfl,ab⟩;have ok:=y.ok;have ag:=qbz (qj7 aa);rw [E] at ag x;have J:=x;unfold qa9 qfg at J;simp only [Qd,Qf] at J;obtain ⟨⟨T,z⟩,-⟩:=J;have M:=ok.ix;rw [qtl z,<- qwT ag.2.2] at M;have ad:=ok.lo;have af:=ok.hi;simp only at M ad af;have ac:k∈qbD G:=by
   unfold qbD;rw [M];unfold qz1;have aj:k=0\/k=1\/k=2\/k=3\/k=4\/k=5\/k=6:=(by omega);rcases aj with rfl | rfl | rfl | rfl | rfl | rfl | rfl <;> decide
  have ai:(k,(C:Int),q.1,q.2.1,q.2.2.1,q.2.2.2)∈candK (sT s) G:=qvx y (by rw [<- T,qwW]) z ac;unfold qcG qdB qjU;rw [E,List.find?_isSome];refine ⟨_,List.mem_filter.2 ⟨ai,by unfold qfe;simp [U]⟩,?_⟩;unfold qoz;rw [qiz ok.places,qsa];exact x
end Go.Proofs.YtecpnfhpcamljaaGreatDoor
namespace Go.Proofs.YtecpnfhpcamljaaGreatDoor
open Tryz
open Go.RowKit
theorem qm4 (ex:Str) (L:List Tr) (k:Nat):letR ex L k=100\/letR ex L k=101\/letR ex L k=110\/letR ex L k=119\/letR ex L k=0:=by
 unfold letR
 repeat' split
 all_goals simp
def stR (ex:Str) (L:List Tr) (d n:Int) (k:Nat):Tr:=if letR ex L k=100 then ((L.getD k tr0).1,(L.getD k tr0).2.1,d) else if letR ex L k=0 then L.getD k tr0 else ((L.getD k tr0).1,(L.getD k tr0).2.1,n)
def okR (ex:Str) (L:List Tr) (d n:Int) (k:Nat):Bool:=letR ex L k == 0||withR (letR ex L k) (stR ex L d n k).2.2
def qkk (ex:Str) (L:List Tr) (d:Int) (k:Nat):Bool:=(d == 0)||(List.range k).any fun h=>letR ex L h == 100
def qkg (ex:Str) (L:List Tr) (n:Int) (k:Nat):Bool:=(n == 0)||(List.range k).any fun h=>letR ex L h != 100&&letR ex L h != 0
def qbG (ex:Str) (L:List Tr) (d n:Int):Option (List Tr):=
 if (List.range L.length).all (okR ex L d n)=true/\qkk ex L d L.length=true/\qkg ex L n L.length=true then some ((List.range L.length).map (stR ex L d n)) else none
theorem qq1 {ex:Str} {L:List Tr} (z:qbr ex L=true) {k:Nat} (E:k<L.length):letR ex L k=100↔atV (varsV ex).1.1 L=some k:=by
 have e:=qbm z k E;unfold qcY at e;constructor
 ·intro y
  by_cases h:atV (varsV ex).1.1 L=some k
  ·exact h
  ·rw [Qe h] at e
   by_cases q:atV (varsV ex).2.1 L=some k
   ·rw [Qi q,y] at e
    simp at e
   ·rw [Qe q,y] at e
    cases e
 ·intro h
  rw [Qi h] at e;simp only [Qd,beq_iff_eq,Qf] at e;exact e.1.1
theorem qn2 {ex:Str} {L:List Tr} (z:qbr ex L=true) {k:Nat} (E:k<L.length):(letR ex L k≠100/\letR ex L k≠0)↔atV (varsV ex).2.1 L=some k:=by
 have h:=qbm z k E;unfold qcY at h;constructor
 ·rintro ⟨J,G⟩
  by_cases q:atV (varsV ex).1.1 L=some k
  ·exact absurd ((qq1 z E).2 q) J
  ·rw [Qe q] at h
   by_cases y:atV (varsV ex).2.1 L=some k
   ·exact y
   ·rw [Qe y] at h
    exact absurd (beq_iff_eq.1 h) G
 ·intro y
  by_cases q:atV (varsV ex).1.1 L=some k
  ·rw [Qi q] at h
   simp only [Qd,Qf] at h;exact absurd y h.2
  ·rw [Qe q,Qi y] at h
   simp only [Qd,bne_iff_ne,ne_eq,Qf] at h;exact h.1
theorem qzc {ex:Str} {L:List Tr} (y:qbr ex L=true) {k:Nat} (q:atV (varsV ex).1.1 L=some k) (d:Int):inV (varsV ex).1 d=withR 100 d:=by
 have h:=qbm y k (qc6 q);unfold qcY at h;rw [Qi q] at h;simp only [Qd,beq_iff_eq,Qf] at h;rw [qbb];unfold inV;rw [<- h.1.2]
theorem qAf {ex:Str} {L:List Tr} (z:qbr ex L=true) {k:Nat} (q:atV (varsV ex).2.1 L=some k) (n:Int):inV (varsV ex).2 n=withR (letR ex L k) n:=by
 have h:=qbm z k (qc6 q);unfold qcY at h;by_cases y:atV (varsV ex).1.1 L=some k
 ·rw [Qi y] at h
  simp only [Qd,Qf] at h;exact absurd q h.2
 ·rw [Qe y,Qi q] at h
  simp only [Qd,bne_iff_ne,ne_eq,Qf] at h;rw [qbb];unfold inV;rw [<- h.2]
theorem qzy {ex:Str} {L:List Tr} (z:qbr ex L=true) (d n:Int):qcA (varsV ex).1 L d=true↔(∀ k,k<L.length->letR ex L k=100->okR ex L d n k=true)/\qkk ex L d L.length=true:=by
 unfold qcA qkk;cases q:atV (varsV ex).1.1 L with
 | none=>
  simp only [Qf,Zv,beq_iff_eq,List.any_eq_true,QZ];have J:∀ k,k<L.length->letR ex L k≠100:=fun k j e=>by
   have:=(qq1 z j).1 e;rw [q] at this;cases this
  constructor
  ·exact fun h=>⟨fun k j e=>absurd e (J k j),.inl h⟩
  ·rintro ⟨-,h | ⟨k,j,e⟩⟩
   ·exact h
   ·exact absurd e (J k j)
 | some G=>
  have E:=qc6 q;have y:=(qq1 z E).2 q;simp only;rw [qzc z q];simp only [Zv,beq_iff_eq,List.any_eq_true,QZ];constructor
  ·intro h
   refine ⟨fun k j e=>?_,.inr ⟨G,E,y⟩⟩;unfold okR stR;rw [Qi e,e];simp [h]
  ·rintro ⟨h,-⟩
   have:=h G E y;unfold okR stR at this;rw [Qi y,y] at this;simpa using this
theorem qAc {ex:Str} {L:List Tr} (y:qbr ex L=true) (d n:Int):qcA (varsV ex).2 L n=true↔(∀ k,k<L.length->letR ex L k≠100->letR ex L k≠0->okR ex L d n k=true)/\qkg ex L n L.length=true:=by
 unfold qcA qkg;cases q:atV (varsV ex).2.1 L with
 | none=>
  simp only [Qf,Zv,beq_iff_eq,List.any_eq_true,QZ,Qd,bne_iff_ne,ne_eq];have M:∀ k,k<L.length->¬(letR ex L k≠100/\letR ex L k≠0):=fun k h J=>by
   have:=(qn2 y h).1 J;rw [q] at this;cases this
  constructor
  ·exact fun e=>⟨fun k h E z=>absurd ⟨E,z⟩ (M k h),.inl e⟩
  ·rintro ⟨-,e | ⟨k,h,J⟩⟩
   ·exact e
   ·exact absurd J (M k h)
 | some G=>
  have K:=qc6 q;have j:=(qn2 y K).2 q;simp only;rw [qAf y q];simp only [Zv,beq_iff_eq,List.any_eq_true,QZ,Qd,bne_iff_ne,ne_eq];constructor
  ·intro e
   refine ⟨fun k h E z=>?_,.inr ⟨G,K,j⟩⟩;have O:k=G:=by
    have:=(qn2 y h).1 ⟨E,z⟩;rw [q] at this;exact (Qs this).symm
   subst O;unfold okR stR;rw [Qe E,Qe z];simp [e]
  ·rintro ⟨e,-⟩
   have:=e G K j.1 j.2;unfold okR stR at this;rw [Qe j.1,Qe j.2] at this;simpa [j.2] using this
theorem qgV (v:Vr) {L C:List Tr} (h:L.map ks2=C.map ks2) (n:Int):qcA v L n=qcA v C n:=by
 unfold qcA;rw [qbo v.1 h]
theorem qoo {ex:Str} {L:List Tr} (y:qbr ex L=true) (d n:Int):qbG ex L d n=qaW ex L d n:=by
 have ac:=qzy y d n;have W:=qAc y d n;have Z:=qaT (varsV ex).1.1 L d;rw [<- qgV _ Z] at W;have V:((List.range L.length).all (okR ex L d n)=true/\qkk ex L d L.length=true/\qkg ex L n L.length=true)↔(qcA (varsV ex).1 L d=true/\qcA (varsV ex).2 (qdC (varsV ex).1.1 L d) n=true):=by
  rw [ac,W,QA];constructor
  ·rintro ⟨J,U,O⟩
   exact ⟨⟨fun i k _=>J i (QZ.2 k),U⟩,fun i k _ _=>J i (QZ.2 k),O⟩
  ·rintro ⟨⟨J,U⟩,O,aa⟩
   refine ⟨fun i k=>?_,U,aa⟩;have k:=QZ.1 k;by_cases e:letR ex L i=100
   ·exact J i k e
   ·by_cases z:letR ex L i=0
    ·unfold okR
     rw [z];rfl
    ·exact O i k e z
 unfold qbG;by_cases K:qcA (varsV ex).1 L d=true/\qcA (varsV ex).2 (qdC (varsV ex).1.1 L d) n=true
 ·have G:qaW ex L d n=some (qdC (varsV ex).2.1 (qdC (varsV ex).1.1 L d) n):=by unfold qaW;rw [Qi K]
  rw [Qi (V.2 K),G];have ab:=qar (qbA G).1;refine congrArg some (ql5 (by rw [QC,List.length_range];exact ab.symm) fun E h=>?_);rw [QC,List.length_range] at h;rw [qd3 G E h,Ql,Zi,List.getElem?_range h];simp only [Option.map_some,Option.getD_some];unfold stR;by_cases e:letR ex L E=100
  ·have M:=(qq1 y h).1 e
   have T:atV (varsV ex).2.1 L≠some E:=(fun q=>((qn2 y h).2 q).1 e);rw [Qi e,Qe T,Qi M]
  ·have M:atV (varsV ex).1.1 L≠some E:=fun q=>e ((qq1 y h).2 q)
   rw [Qe e];by_cases z:letR ex L E=0
   ·have T:atV (varsV ex).2.1 L≠some E:=fun q=>((qn2 y h).2 q).2 z
    rw [Qi z,Qe T,Qe M]
   ·rw [Qe z,Qi ((qn2 y h).1 ⟨e,z⟩)]
 ·have G:qaW ex L d n=none:=by unfold qaW;rw [Qe K]
  rw [Qe (fun q=>K (V.1 q)),G]
theorem qpA {ex:Str} {L G:List Tr} {d n:Int} (M:qbr ex L=true) (E:qaW ex L d n=some G):qcX (varsV ex).1.1 G=d/\qcX (varsV ex).2.1 G=n:=by
 obtain ⟨J,z,k,-⟩:=qbA E;constructor
 ·unfold qcX
  rw [qbo (varsV ex).1.1 J];cases h:atV (varsV ex).1.1 L with
  | none=>
   unfold qcA at z;rw [h] at z;simp only [Qf] at z;exact z.symm
  | some q=>
   have K:=qc6 h;have y:=qbm M q K;unfold qcY at y;rw [Qi h] at y;simp only [Qd,Qf] at y;simp only;rw [qd3 E q K,Qe y.2,Qi h]
 ·unfold qcX
  rw [qbo (varsV ex).2.1 J];cases h:atV (varsV ex).2.1 L with
  | none=>
   unfold qcA at k;rw [h] at k;simp only [Qf] at k;exact k.symm
  | some q=>
   simp only;rw [qd3 E q (qc6 h),Qi h]
theorem qto {m ex:Str} {L q:List Tr} {d n:Int} (y:qbr ex L=true) (h:qaW ex L d n=some q):qnZ m L ex (sB m) q=true:=by
 obtain ⟨z,E⟩:=qpA y h;unfold qnZ;rw [z,E,h];simp
theorem qrQ {m ex:Str} {L C:List Tr} (G:qy3 m L ex=true) {s:ByteArray} (E:qa9 m L ex s C=true):canL (opc s) C=C:=by
 unfold qa9 qfg at E;simp only [Qd,Qf,QA,QZ] at E;obtain ⟨⟨rfl,J⟩,Z⟩:=E;have V:=qar J;unfold qy3 at G;simp only [Qd,QA,QZ] at G;obtain ⟨⟨⟨T,U⟩,O⟩,ac⟩:=G;have af:accL (opc (sB m)) C=C:=by
  unfold accL;rw [Qe,Qe]
  ·rintro ⟨q,t⟩
   rw [q,V,t] at U;simp at U
  ·rintro ⟨q,t,-⟩
   rw [q,V,t] at T;simp at T
 have ad:exL (opc (sB m)) C=C:=by
  unfold exL;rw [Qe];rintro ⟨q,t⟩;rw [q,J,t] at O
  revert O
  decide
 unfold canL;rw [af,ad]
 conv=>rhs;rw [<- List.map_id C]
 refine List.map_congr_left fun ah ab=>?_
 obtain ⟨h,W,rfl⟩:=Ze ab;have K:h<L.length:=by omega
 have z:=Z h W;have k:=ac h K;have M:=(qcd J h K).1;have ae:C.getD h tr0=C[h]:=by rw [Ql,Qg W];rfl
 rw [ae] at z M;show wrapT _ C[h]=C[h];unfold wrapT;rw [Qe];rintro ⟨aa,-,ag⟩;simp only [Zv,bne_iff_ne] at k;rcases k with k | k
 ·exact k (M.trans aa)
 ·unfold qgW at z
  by_cases y:letR ex L h=0
  ·rw [Qi y,Qf] at z
   rw [Qi y,Qf] at k;omega
  ·rw [Qe y,qbb,Qd,Qf] at z
   rw [Qe y,Qf] at k;omega
end Go.Proofs.YtecpnfhpcamljaaGreatDoor
namespace Go.Proofs.YtecpnfhpcamljaaGreatDoor
open Tryz
open Go.RowKit Go.Shelf
attribute [local go_sem] Oper.semAt_some
def qgJ (c:UInt8):Nat:=if c=100\/c=101\/c=110 then 1 else if c=119 then 2 else 0
def qcz (ex:Str) (k:Nat):Nat:=((ex.take k).map qgJ).sum
theorem qc9 (ex:Str) (k:Nat) (h:k<ex.length):qcz ex (k+1)=qcz ex k+qgJ ex[k]:=by
 unfold qcz;rw [QL h,Zg,List.sum_append];simp
theorem qvv (c:UInt8):qgJ c<=2:=by
 unfold qgJ;split
 ·omega
 ·split <;> omega
theorem qqx (ex:Str):∀ k,k<=ex.length->qcz ex k<=2*k
 | 0,_=>by unfold qcz;simp
 | k+1,q=>by
  rw [qc9 ex k (by omega)];have h:=qqx ex k (by omega);have y:=qvv ex[k];omega
def sizeT (h:Int) (ex:Str):Nat:=(qaM h).length+1+qcz ex ex.length
theorem qtT (h:Int):(qaM h).length<=2:=by
 unfold qaM
 repeat' split
 all_goals simp
theorem qsu (k S:Int) (m:Str) (A:Option Addr) (n cap:Nat) (ex:Str) (an:ex.length<=1000) (al:Bool) (w:World) :
  Calls prog 186 #[enV k S m (.slice A n cap) ex al] w fun h aA=>h=.returned (.int .i64 (sizeT k ex:Nat))/\Below w.heap.size w aA:=by
 unfold enV;obtain ⟨e,J⟩:=N9 (sB ex);have Z:e.size=ex.length:=by rw [<- J,qaB]
 have ag:∀ b (v:b<e.size) (ad:b<ex.length),e[b]=ex[b]:=fun b v ad=>by subst J;exact qjr ex b v ad
 have au:=J9 ag;have aF:=J9 an;obtain ⟨K,T⟩:=N9 (ex.length);have ac:=J9 T;rw [T] at Z an;have aC:=fun (w:World)=>run_bytes_of_string (P:=prog) w 9 35 5 e underlying9 underlying35 underlying5
 rw [J];clear J ag T;obtain ⟨z,B⟩:=N9 (w.alloc (.cells #[.int .i64 k,.int .u8 S,.string (sB m),.slice A n cap,.string e,.bool al] 88));obtain ⟨q,E⟩:=N9 (w.heap.size);have B0:Hid (Below q w z):=by rw [<- B,<- E];exact B0
 have aI:z.heap.size=q+1:=by rw [<- B,<- E];simp
 have R:z.heap[q]?=some (.cells #[.int .i64 k,.int .u8 S,.string (sB m),.slice A n cap,.string e,.bool al] 88 (0,0)):=by rw [<- B,<- E];exact World.alloc_heap_new w _
 have ae:=J9 R;have aj:=qdg k z;have ay:=C9 R 0;have aB:=J9 E;have av:=J9 (qtT k);obtain ⟨W,G⟩:=N9 ((qaM k).length);have az:=J9 G;clear R
 go_enter func186,ntmps186
 go_wp2_with fail
 refine aj.mono ?_;rintro h o ⟨aK,rfl,ai,M⟩;obtain ⟨A1,aP,rfl,-⟩:=ai.bytes;rw [G];have ar:=J9 (B0.o.trans (M.mono (by omega)));have O:=(M.block q (by omega)).trans ae.o;have aE:=J9 O;have aQ:=C9 O 4;have aM:W<=2:=by rw [<- G];exact av.o
 have y:=J9 (qdp o e (grownCap o e.size 0 5) 5);have V:Hid (Below q w (o.alloc (.cells (bytesRow e (grownCap o e.size 0 5)) 5 ((bytesRow e (grownCap o e.size 0 5)).size,(bytesRow e (grownCap o e.size 0 5)).size+1))).drew):=
  (ar.o.alloc (by have:=M.size;omega) _).drew
 rw [Z] at y V;obtain ⟨aa,ao⟩:=N9 (o.heap.size);rw [ao] at y;clear aj ai M O ay B B0 ae G;go_wp2;clear aC
 go_loopw [15,3] (fun U aq wr=>∃ b:Nat,b<=K/\U=.int .i64 b/\aq=.int .i64 ((W+1+qcz ex b:Nat):Int)/\Hid (qnu wr e aa)/\Hid (Below q w wr)) (fun U _ _=>K - (intOf U).toNat)
 case atStart=>exact ⟨0,Qu _,rfl,rfl,y.o,V.o⟩
 case round=>
  clear y V;obtain ⟨b,aL,rfl,rfl,s,t⟩:=hrel;by_cases aD:b<K
  ·have am:b<e.size:=by omega
   have af:b<ex.length:=(by rw [ac.o];exact aD);have ab:wr.cell? ⟨aa,b,none⟩=some (.int .u8 (e[b].toNat:Int)):=s.o b am;rw [au.o b am af] at ab;have i:=qc9 ex b af;have aw:=qqx ex b (by omega);obtain ⟨c,ah⟩:=N9 (ex[b]);rw [ah] at ab i;obtain ⟨aH,ak⟩:=N9 (qcz ex b);rw [ak] at i aw |-;have i:=J9 i;clear ah ak;have aN:b<=1000:=(by omega);go_wp2
   ·have h:c=100:=Qo (qed c 100 (by decide) true (by assumption))
    have l:qgJ c=1:=(by rw [h];rfl);go_roundw
    case rel=>exact ⟨b+1,by omega,by go_num,by rw [i.o,l];go_num,s,t⟩
    case measure=>simp [intOf];omega
   ·have h:c=101:=Qo (qed c 101 (by decide) true (by assumption))
    have l:qgJ c=1:=(by rw [h];rfl);go_roundw
    case rel=>exact ⟨b+1,by omega,by go_num,by rw [i.o,l];go_num,s,t⟩
    case measure=>simp [intOf];omega
   ·have h:c=110:=Qo (qed c 110 (by decide) true (by assumption))
    have l:qgJ c=1:=(by rw [h];rfl);go_roundw
    case rel=>exact ⟨b+1,by omega,by go_num,by rw [i.o,l];go_num,s,t⟩
    case measure=>simp [intOf];omega
   ·have h:c=119:=Qo (qed c 119 (by decide) true (by assumption))
    have l:qgJ c=2:=(by rw [h];rfl);go_roundw
    case rel=>exact ⟨b+1,by omega,by go_num,by rw [i.o,l];go_num,s,t⟩
    case measure=>simp [intOf];omega
   ·have aG:¬c=100:=QX (qed c 100 (by decide) false (by assumption))
    have aJ:¬c=101:=QX (qed c 101 (by decide) false (by assumption));have aO:¬c=110:=QX (qed c 110 (by decide) false (by assumption));have ax:¬c=119:=QX (qed c 119 (by decide) false (by assumption));have l:qgJ c=0:=by unfold qgJ;rw [Qe (by rintro (v | v | v) <;> contradiction),Qe ax]
    go_roundw
    case rel=>exact ⟨b+1,by omega,by go_num,by rw [i.o,l];go_num,s,t⟩
    case measure=>simp [intOf];omega
  ·obtain rfl:b=K:=by omega
   have ap:Hid (sizeT k ex=W+1+qcz ex b):=(by show sizeT k ex=_;unfold sizeT;rw [az.o,ac.o]);go_wp2;go_ret;exact ⟨by rw [ap.o];rfl,by rw [aB.o];exact t.o⟩
end Go.Proofs.YtecpnfhpcamljaaGreatDoor
namespace Go.Proofs.YtecpnfhpcamljaaGreatDoor
open Tryz
open Go.RowKit
def qcK (n:Int):UInt8:=UInt8.ofNat (n % 256).toNat
theorem qec (n:Int):((qcK n).toNat:Int)=n % 256:=by
 unfold qcK;rw [UInt8.toNat_ofNat_of_lt' (by have:=Int.emod_lt_of_pos n (show (0:Int)<256 by decide);have:=Int.emod_nonneg n (show (256:Int)≠0 by decide);show (n % 256).toNat<256;omega)];have:=Int.emod_nonneg n (show (256:Int)≠0 by decide);omega
def qrc (d n:Int) (c:UInt8):Str:=if c=100 then [qcK d] else if c=119 then [qcK n,qcK (n / 256)] else [qcK n]
def qxl (h q:Int) (ex:Str) (d n:Int):Str:=if 5<=h then qaM h++[qcK d,qcK q] else qaM h++qcK q :: ex.flatMap (qrc d n)
def exB (g:Int) (n:Nat) (ex:Str):Bool:=
 (ex == []||ex == [100]||ex == [101]||ex == [110]||ex == [119]||ex == [100,110])&&(decide (g<5)||ex == [100]) &&
 (g != 0||(n != 203&&n != 221&&n != 237&&n != 253))&&((g != 3&&g != 4)||n != 203)
def exN (g n:Nat):Bool:=match qaX (g:Int) n with
 | some h=>exB (g:Int) n h.2.2.1
 | none=>true
theorem qAA:∀ g:Fin 7,∀ h:Fin 256,exN g.val h.val=true:=by decide +kernel
theorem qz8 {g:Int} {n:Nat} (E:n<256) {x:En} (q:qaX g n=some x):exB g n x.2.2.1=true/\0<=g/\g<=6:=by
 by_cases z:0<=g/\g<=6
 ·obtain ⟨y,rfl⟩:∃ y:Nat,g=(y:Int):=⟨g.toNat,by omega⟩
  have h:=qAA ⟨y,by omega⟩ ⟨n,E⟩;unfold exN at h;rw [q] at h;exact ⟨h,z⟩
 ·rw [qeQ z] at q
  cases q
structure ExP (g:Int) (n:Nat) (ex:Str):Prop where
 lst:ex=[]\/ex=[100]\/ex=[101]\/ex=[110]\/ex=[119]\/ex=[100,110]
 hi:5<=g->ex=[100]
 main:g=0->n≠203/\n≠221/\n≠237/\n≠253
 ind:g=3\/g=4->n≠203
 pg:0<=g/\g<=6
theorem qgR {y:Int} {n:Nat} (z:n<256) {x:En} (b:qaX y n=some x):ExP y n x.2.2.1:=by
 obtain ⟨q,E⟩:=qz8 z b;unfold exB at q;simp only [Qd,Zv,beq_iff_eq,bne_iff_ne,Qf,ne_eq] at q;obtain ⟨⟨⟨a,h⟩,c⟩,d⟩:=q;refine ⟨?_,fun b=>?_,fun b=>?_,fun b=>?_,E⟩
 ·rcases a with ((((a | a) | a) | a) | a) | a
  ·exact .inl a
  ·exact .inr (.inl a)
  ·exact .inr (.inr (.inl a))
  ·exact .inr (.inr (.inr (.inl a)))
  ·exact .inr (.inr (.inr (.inr (.inl a))))
  ·exact .inr (.inr (.inr (.inr (.inr a))))
 ·rcases h with h | h
  ·omega
  ·exact h
 ·rcases c with c | c
  ·exact absurd b c
  ·exact ⟨c.1.1.1,c.1.1.2,c.1.2,c.2⟩
 ·rcases d with d | d
  ·rcases b with b | b
   ·exact absurd b d.1
   ·exact absurd b d.2
  ·exact d
def qud (ex:Str) (d n:Int):Prop:=
 (ex=[]->d=0/\n=0)/\(ex=[100]->-128<=d/\d<=127/\n=0)/\(ex=[101]->d=0/\-128<=n/\n<=127)/\(ex=[110]->d=0/\0<=n/\n<=255)/\(ex=[119]->d=0/\0<=n/\n<=65535)/\(ex=[100,110]->-128<=d/\d<=127/\0<=n/\n<=255)
def hdB:Str->Option (Int×UInt8×Str)
 | []=>none
 | b :: r=>
  if b=203 then (match r with | o :: t=>some (1,o,t) | []=>none)
  else if b=237 then (match r with | o :: t=>some (2,o,t) | []=>none)
  else if b=221 then (match r with | o :: t=>if o=203 then (match t with | x :: h :: u=>some (5,h,x :: u) | _=>none) else some (3,o,t) | []=>none)
  else if b=253 then (match r with | o :: t=>if o=203 then (match t with | x :: h :: u=>some (6,h,x :: u) | _=>none) else some (4,o,t) | []=>none)
  else some (0,b,r)
theorem qfI {k:Ke} (E:qdA k) (d n:Int):(qxl k.1 k.2.1 k.2.2.2.2.1 d n).length=sizeT k.1 k.2.2.2.2.1/\1<=sizeT k.1 k.2.2.2.2.1/\sizeT k.1 k.2.2.2.2.1<=4:=by
 obtain ⟨g,O,L,K,m,J⟩:=k;obtain ⟨G,y,o,q⟩:=E;have h:=qgR y q;simp only at h o |-;subst o;obtain ⟨T,M⟩:=h.pg;have z:1<=sizeT g m/\sizeT g m<=4:=by
  by_cases i:5<=g
  ·rw [h.hi i]
   rcases (by omega:g=5\/g=6) with rfl | rfl <;> decide
  ·rcases (by omega:g=0\/g=1\/g=2\/g=3\/g=4) with rfl | rfl | rfl | rfl | rfl <;> rcases h.lst with rfl | rfl | rfl | rfl | rfl | rfl <;> decide
 refine ⟨?_,z⟩;unfold qxl sizeT;by_cases i:5<=g
 ·rw [Qi i,h.hi i]
  rcases (by omega:g=5\/g=6) with rfl | rfl <;> rfl
 ·rw [Qe i,Qk]
  rcases h.lst with rfl | rfl | rfl | rfl | rfl | rfl <;> rfl
def sgB (c:UInt8):Int:=qqv (c.toNat:Int)
def qcW (ex:Str) (t:Str):Int×Int:=
 if ex=[100] then (sgB (t.getD 0 0),0) else if ex=[101] then (0,sgB (t.getD 0 0)) else if ex=[110] then (0,((t.getD 0 0).toNat:Int)) else
 if ex=[119] then (0,((t.getD 0 0).toNat:Int)+256*((t.getD 1 0).toNat:Int)) else if ex=[100,110] then (sgB (t.getD 0 0),((t.getD 1 0).toNat:Int)) else (0,0)
theorem qvK (t:Str):qcW [] t=(0,0):=by unfold qcW;rw [Qe (by decide),Qe (by decide),Qe (by decide),Qe (by decide),Qe (by decide)]
theorem qlr (t:Str):qcW [100] t=(sgB (t.getD 0 0),0):=by unfold qcW;rw [Qi rfl]
theorem qrM (t:Str):qcW [101] t=(0,sgB (t.getD 0 0)):=by unfold qcW;rw [Qe (by decide),Qi rfl]
theorem qrf (t:Str):qcW [110] t=(0,((t.getD 0 0).toNat:Int)):=by unfold qcW;rw [Qe (by decide),Qe (by decide),Qi rfl]
theorem qrH (t:Str):qcW [119] t=(0,((t.getD 0 0).toNat:Int)+256*((t.getD 1 0).toNat:Int)):=by unfold qcW;rw [Qe (by decide),Qe (by decide),Qe (by decide),Qi rfl]
theorem ql7 (t:Str):qcW [100,110] t=(sgB (t.getD 0 0),((t.getD 1 0).toNat:Int)):=by unfold qcW;rw [Qe (by decide),Qe (by decide),Qe (by decide),Qe (by decide),Qi rfl]
theorem qtN (d n:Int):qrc d n 100=[qcK d]:=rfl
theorem qwX (d n:Int):qrc d n 101=[qcK n]:=rfl
theorem qt3 (d n:Int):qrc d n 110=[qcK n]:=rfl
theorem qw7 (d n:Int):qrc d n 119=[qcK n,qcK (n / 256)]:=rfl
structure Ite where
 kind:Int
 raw:Str
 m:Str
 C:List Tr
 al:Bool
deriving DecidableEq
def qbv (kind:Int) (h:Str):Ite:=⟨kind,h,[],[],false⟩
def itR (b:Str):Ite:=match hdB b with
 | none=>qbv 4 b
 | some (o,p,q)=>match qaX o p.toNat with
  | none=>if rkindT o p.toNat=0 then qbv 2 (b.take 1) else qbv 3 (b.take 2)
  | some h=>if b.length<sizeT o h.2.2.1 then qbv 4 b else ⟨1,b.take (sizeT o h.2.2.1),h.1,(qaW h.2.2.1 h.2.1 (qcW h.2.2.1 q).1 (qcW h.2.2.1 q).2).getD [],h.2.2.2⟩
theorem qwx (c:UInt8) : -128<=sgB c/\sgB c<=127:=by
 have:=c.toNat_lt;unfold sgB qqv;split <;> omega
theorem qfA (c:UInt8):qcK (sgB c)=c:=by
 have h:=qec (sgB c);have:=c.toNat_lt;refine UInt8.toNat_inj.1 ?_;unfold sgB qqv at h |-;split at h <;> rename_i q
 ·rw [Qi q];omega
 ·rw [Qe q];omega
theorem qh6 (c:UInt8):qcK (c.toNat:Int)=c:=by
 have h:=qec (c.toNat:Int);have:=c.toNat_lt;refine UInt8.toNat_inj.1 ?_;omega
theorem qks {g:Int} {i:Nat} {ex:Str} (h:ExP g i ex) (t:Str):qud ex (qcW ex t).1 (qcW ex t).2:=by
 have z:=qwx (t.getD 0 0);have q:=(t.getD 0 0).toNat_lt;have y:=(t.getD 1 0).toNat_lt;rcases h.lst with rfl | rfl | rfl | rfl | rfl | rfl
 ·rw [qvK];exact ⟨fun _=>⟨rfl,rfl⟩,by simp,by simp,by simp,by simp,by simp⟩
 ·rw [qlr];exact ⟨by simp,fun _=>by refine ⟨?_,?_,?_⟩ <;> simp only <;> omega,by simp,by simp,by simp,by simp⟩
 ·rw [qrM];exact ⟨by simp,by simp,fun _=>by refine ⟨?_,?_,?_⟩ <;> simp only <;> omega,by simp,by simp,by simp⟩
 ·rw [qrf];exact ⟨by simp,by simp,by simp,fun _=>by refine ⟨?_,?_,?_⟩ <;> simp only <;> omega,by simp,by simp⟩
 ·rw [qrH];exact ⟨by simp,by simp,by simp,by simp,fun _=>by refine ⟨?_,?_,?_⟩ <;> simp only <;> omega,by simp⟩
 ·rw [ql7];exact ⟨by simp,by simp,by simp,by simp,by simp,fun _=>by refine ⟨?_,?_,?_,?_⟩ <;> simp only <;> omega⟩
theorem qk4 {t:Str} (q:1<=t.length):∃ h a,t=h :: a:=by
 cases t with
 | nil=>simp at q
 | cons h a=>exact ⟨h,a,rfl⟩
theorem qop {t:Str} (a:2<=t.length):∃ b h q,t=b :: h :: q:=by
 match t,a with
 | [],a=>simp at a
 | [b],a=>simp at a
 | b :: h :: q,_=>exact ⟨b,h,q,rfl⟩
theorem qsD {g:Int} {i:Nat} {ex:Str} (y:ExP g i ex) (t:Str) (h:(ex.flatMap (qrc 0 0)).length<=t.length):ex.flatMap (qrc (qcW ex t).1 (qcW ex t).2)=t.take (ex.flatMap (qrc 0 0)).length:=by
 rcases y.lst with rfl | rfl | rfl | rfl | rfl | rfl
 ·simp
 ·obtain ⟨a,t,rfl⟩:=qk4 h
  rw [qlr];simp only [List.flatMap_cons,List.flatMap_nil,qtN,List.getD_cons_zero,qfA];rfl
 ·obtain ⟨a,t,rfl⟩:=qk4 h
  rw [qrM];simp only [List.flatMap_cons,List.flatMap_nil,qwX,List.getD_cons_zero,qfA];rfl
 ·obtain ⟨a,t,rfl⟩:=qk4 h
  rw [qrf];simp only [List.flatMap_cons,List.flatMap_nil,qt3,List.getD_cons_zero,qh6];rfl
 ·obtain ⟨a,b,t,rfl⟩:=qop h
  rw [qrH];simp only [List.flatMap_cons,List.flatMap_nil,qw7,List.getD_cons_zero,List.getD_cons_succ];have E:=a.toNat_lt;have G:=b.toNat_lt;have K:=qec ((a.toNat:Int)+256*(b.toNat:Int));have J:=qec (((a.toNat:Int)+256*(b.toNat:Int)) / 256);have q:qcK ((a.toNat:Int)+256*(b.toNat:Int))=a:=UInt8.toNat_inj.1 (by omega);have z:qcK (((a.toNat:Int)+256*(b.toNat:Int)) / 256)=b:=UInt8.toNat_inj.1 (by omega);rw [q,z];rfl
 ·obtain ⟨a,b,t,rfl⟩:=qop h
  rw [ql7];simp only [List.flatMap_cons,List.flatMap_nil,qtN,qt3,List.getD_cons_zero,List.getD_cons_succ,qfA,qh6];rfl
def qy4 (L:List Tr) (ex:Str):Bool:=(!ex.contains 100||(atV (varsV ex).1.1 L).isSome)&&(!(ex.contains 101||ex.contains 110||ex.contains 119)||(atV (varsV ex).2.1 L).isSome)
def qAw (g n:Nat):Bool:=match qaX (g:Int) n with
 | some h=>qy4 h.2.1 h.2.2.1
 | none=>true
theorem qAi:∀ g:Fin 7,∀ h:Fin 256,qAw g.val h.val=true:=by decide +kernel
theorem qpe {g:Int} {n:Nat} (y:n<256) {x:En} (z:qaX g n=some x):qy4 x.2.1 x.2.2.1=true:=by
 obtain ⟨E,G⟩:=(qgR y z).pg;obtain ⟨h,rfl⟩:∃ h:Nat,g=(h:Int):=⟨g.toNat,by omega⟩;have q:=qAi ⟨h,by omega⟩ ⟨n,y⟩;unfold qAw at q;rw [z] at q;exact q
theorem qcN {v:Vr} {L:List Tr} {n:Int} (h:(atV v.1 L).isSome=true/\v.2.1<=n/\n<=v.2.2\/n=0/\v.2.1<=0/\0<=v.2.2):qcA v L n=true:=by
 unfold qcA;cases k:atV v.1 L with
 | none=>
  rw [k] at h;rcases h with ⟨h,-⟩ | ⟨rfl,-⟩
  ·cases h
  ·simp
 | some q=>
  simp only;unfold inV;rcases h with ⟨-,h⟩ | ⟨rfl,h⟩ <;> simp [h]
theorem qkW {g:Int} {i:Nat} {ex:Str} (W:ExP g i ex) {L:List Tr} (y:qy4 L ex=true) {d n:Int} (G:qud ex d n):∃ U,qaW ex L d n=some U:=by
 obtain ⟨Z,M,T,V,E,O⟩:=G;have C:qcA (varsV ex).1 L d=true/\qcA (varsV ex).2 L n=true:=by
  unfold qy4 at y;rcases W.lst with rfl | rfl | rfl | rfl | rfl | rfl
  ·obtain ⟨rfl,rfl⟩:=Z rfl
   exact ⟨qcN (.inr ⟨rfl,by decide⟩),qcN (.inr ⟨rfl,by decide⟩)⟩
  ·obtain ⟨h,q,rfl⟩:=M rfl
   exact ⟨qcN (.inl ⟨by simpa using y,h,q⟩),qcN (.inr ⟨rfl,by decide⟩)⟩
  ·obtain ⟨rfl,h,q⟩:=T rfl
   exact ⟨qcN (.inr ⟨rfl,by decide⟩),qcN (.inl ⟨by simpa using y,h,q⟩)⟩
  ·obtain ⟨rfl,h,q⟩:=V rfl
   exact ⟨qcN (.inr ⟨rfl,by decide⟩),qcN (.inl ⟨by simpa using y,h,q⟩)⟩
  ·obtain ⟨rfl,h,q⟩:=E rfl
   exact ⟨qcN (.inr ⟨rfl,by decide⟩),qcN (.inl ⟨by simpa using y,h,q⟩)⟩
  ·obtain ⟨h,q,J,K⟩:=O rfl
   have z:(atV (varsV [100,110]).1.1 L).isSome=true/\(atV (varsV [100,110]).2.1 L).isSome=true:=(by simpa using y);exact ⟨qcN (.inl ⟨z.1,h,q⟩),qcN (.inl ⟨z.2,J,K⟩)⟩
 unfold qaW;rw [qgV (varsV ex).2 (qaT (varsV ex).1.1 L d) n];simp [C.1,C.2]
end Go.Proofs.YtecpnfhpcamljaaGreatDoor
namespace Go.Proofs.YtecpnfhpcamljaaGreatDoor
open Tryz
open Go.RowKit Go.Shelf
def showB (s:ByteArray) (L:List Tr):Str:=
 if qcG s L=true then (if canL (opc s) L=[] then s.data.toList else s.data.toList++32 :: (olistS (canL (opc s) L)).data.toList) else []
def itemB (x:Ite):Str:=if x.kind=1/\x.al=false then showB (sB x.m) x.C else dataB x.raw
def qh5 (x:Ite):Str:=qdE [32] (x.raw.map qd1)
def qgM (x:Ite):Str:=if x.al=true then [32,32,59,32]++showB (sB x.m) x.C else []
def qkj (n:Nat):Nat:=max (18 - n) 2
def rowB (a:Int) (x:Ite):Str:=
 if 0<=a/\a<=65535 then
  ((hexS a 4).data.toList++[32,32]++qh5 x)++List.replicate (qkj (6+(qh5 x).length)) 32++(itemB x++qgM x)
 else []
def qdW:Int->List Ite->Str
 | _,[]=>[]
 | a,x :: h=>if 0<=a/\a<=65535 then rowB a x++[10]++qdW (a+x.raw.length) h else []
theorem qrN:opsL.all (fun x=>!x.data.toList.isEmpty&&x.data.toList.all fun c=>decide (36<=c.toNat))=true:=by decide +kernel
theorem qeq {s:ByteArray} (h:knB s=true):s.data.toList≠[]/\∀ q∈s.data.toList,36<=q.toNat:=by
 unfold knB at h;obtain ⟨e,z,x⟩:=List.any_eq_true.1 h;have y:e.data.toList=s.data.toList:=by
  have:=eq_of_beq x;rw [QO,QO] at this;exact this
 have c:=QA.1 qrN e z;rw [y] at c;simp only [Qd,Bool.not_eq_true',List.isEmpty_eq_false_iff,QA,Qf] at c;exact c
theorem qb5 {s:ByteArray} {L:List Tr} (q:qcG s L=true):knB s=true/\(canL (opc s) L).length<=3/\∀ t∈canL (opc s) L,vT t=true:=by
 have h:=qj7 ((qem s L).1 q).1;exact qbz h
theorem qiC (s:ByteArray) (L:List Tr):∀ h∈showB s L,32<=h.toNat:=by
 intro h c;unfold showB at c;split at c
 ·rename_i y
  have q:=(qeq (qb5 y).1).2;split at c
  ·have:=q h c;omega
  ·rcases QY.1 c with c | c
   ·have:=q h c;omega
   ·rcases QM.1 c with rfl | c
    ·decide
    ·have:=qtr _ h c;omega
 ·simp at c
theorem quO {s:ByteArray} {L:List Tr} (h:qcG s L=true):showB s L≠[]:=by
 have q:=(qeq (qb5 h).1).1;unfold showB;rw [Qi h];split
 ·exact q
 ·simp [q]
theorem qrJ (x:Ite):∀ c∈itemB x,32<=c.toNat:=by
 unfold itemB;split
 ·exact qiC _ _
 ·exact qrX _
theorem qvZ (a:Int) (x:Ite):∀ h∈rowB a x,32<=h.toNat:=by
 intro h c;unfold rowB at c;split at c
 ·simp only [QY] at c
  have q:∀ h∈([32,32]:Str),32<=h.toNat:=by decide
  rcases c with (((c | c) | c) | c) | c | c
  ·have:=qhJ a 4 h c;omega
  ·exact q h c
  ·rcases qmP _ _ h c with c | ⟨E,y,c⟩
   ·exact q h (by simp at c;simp [c])
   ·obtain ⟨z,-,rfl⟩:=Zq.1 y
    have:=qhJ _ 2 h c;omega
  ·have:=List.eq_of_mem_replicate c
   subst this;decide
  ·exact qrJ x h c
  ·unfold qgM at c
   split at c
   ·rcases QY.1 c with c | c
    ·have:∀ h∈([32,32,59,32]:Str),32<=h.toNat:=by decide
     exact this h c
    ·exact qiC _ _ h c
   ·simp at c
 ·simp at c
theorem qxS {x:Str} (h:∀ c∈x,32<=c.toNat):(10:UInt8)∉x:=fun q=>absurd (h 10 q) (by decide)
theorem qiZ:∀ (l:List Ite) (a:Int),(qdW a l).count 10<=l.length
 | [],a=>by simp [qdW]
 | x :: q,a=>by
  unfold qdW;split
  ·have h:(rowB a x).count 10=0:=List.count_eq_zero.2 (qxS (qvZ a x))
   have t:=qiZ q (a+x.raw.length);rw [List.count_append,List.count_append,h,Qt];have y:([10]:Str).count 10=1:=rfl;omega
  ·simp
end Go.Proofs.YtecpnfhpcamljaaGreatDoor
namespace Go.Proofs.YtecpnfhpcamljaaGreatDoor
open Tryz
open Go.RowKit Go.Shelf Cm
attribute [local go_sem] Oper.semAt_some
theorem qmB {s:ByteArray} {I:List Tr} {c:Int} (e:(c=0/\qq8 s I (canL (opc s) I))\/(c≠0/\¬qq8 s I (canL (opc s) I))):(c=0/\qcG s I=true)\/(c≠0/\qcG s I=false):=by
 rcases e with ⟨rfl,e⟩ | ⟨h,e⟩
 ·exact .inl ⟨rfl,(qem s I).2 e⟩
 ·exact .inr ⟨h,Bool.eq_false_iff.2 fun q=>e ((qem s I).1 q)⟩
theorem qqg {s:ByteArray} {I:List Tr} (h:qcG s I=false):sB (showB s I)=⟨#[]⟩:=by unfold showB;rw [h];rfl
theorem qyQ (w:World) (s:ByteArray) (A:Option Addr) (n cap:Nat) (L:List Tr) (j:L.length=n) (H:qai w A L):qwi (w.alloc (.cells #[.string s,.slice A n cap] 24)) (some ⟨w.heap.size,0,none⟩) [⟨s,A,cap,L⟩]:=by
 subst j;refine .inr ⟨_,_,rfl,fun q y=>?_⟩;obtain rfl:q=0:=by simp at y;omega
 have h:=heap_alloc_new w (.cells #[.string s,.slice A L.length cap] 24);exact ⟨C9 h 0,C9 h 1,H.below (B0)⟩
theorem qzu:(24 : TypeId)≠5:=by decide
theorem qct (s:ByteArray) (bD:s.size<=1000) (A:Option Addr) (cap E:Nat) (I:List Tr) (ao:I.length=E) (bN:E<=900) (w:World) (aY:qad w) (H:qai w A I) :
  Calls prog 11 #[.agg #[.string s,.slice A E cap]] w fun e z=>e=.returned (.string (sB (showB s I)))/\Below w.heap.size w z:=by
 obtain ⟨bt,aK⟩:=N9 (w.heap.size);have bM:=J9 aK;obtain ⟨G,y,bG,bK,aE,am,aB⟩:=Fr.box (Fr.nil w) #[.string s,.slice A E cap] 24;obtain rfl:G=bt:=by omega
 have aN:=H.below am;have au:Below y.heap.size y (y.alloc (.cells #[.string s,.slice A E cap] 24)):=B0;have V:=qpd (some ⟨y.heap.size,0,none⟩) 1 1 [⟨s,A,cap,I⟩] rfl (by omega) (fun aR bF=>by rw [QI.1 bF];exact ⟨bD,by show I.length<=900;omega⟩) (y.alloc (.cells #[.string s,.slice A E cap] 24)) ((aY.below am).below au) (qyQ y s A E cap I ao aN);have be:([(⟨s,A,cap,I⟩:Ie)].all fun aR=>qcG aR.s aR.L)=qcG s I:=by simp
 rw [be] at V;have ax:Hid (∀ C,Below y.heap.size y C->Calls prog 35 #[.agg #[.string s,.slice A E cap]] C (qiF C s (canL (opc s) I))):=fun C q=>by
  have n:=quj s A cap I (by omega) C (aN.below q);rw [ao] at n;exact n
 have B0:Hid (Below G w y):=by have n:=am;rw [aK] at n;exact n
 obtain ⟨bs,a4⟩:=N9 (y.alloc (.cells #[.string s,.slice A E cap] 24));rw [a4] at V au;have bx:bs.heap.size=G+2:=by rw [<- a4];simp;omega
 obtain ⟨aC,aa⟩:=N9 (qcG s I);rw [aa] at V;rw [aB] at V;have bh:=J9 V;have bb:=J9 au;have aP:=J9 aE.o.1;have bL:=J9 ao;have ap:Hid (aC=false->showB s I=[]):=fun n=>by unfold showB;rw [aa,n];rfl
 have ac:Hid (aC=true->(canL (opc s) I).length<=3/\showB s I=if canL (opc s) I=[] then s.data.toList else s.data.toList++32 :: (olistS (canL (opc s) I)).data.toList):=fun n=>by
  obtain ⟨-,aI,-⟩:=qb5 (aa.trans n);refine ⟨aI,?_⟩;unfold showB;rw [Qi (aa.trans n)]
 obtain ⟨ab,aA⟩:=N9 (showB s I);obtain ⟨J,ae⟩:=N9 (canL (opc s) I);rw [aA] at ap ac;rw [ae] at ac ax;rw [aA,aK];obtain ⟨aG,ay⟩:=Fr.qBb aE.o.1;clear H aN aY am aE au be ao aa aA ae V
 go_enter func11,ntmps11
 go_wp2_with fail
 refine bh.o.mono ?_;rintro e C ⟨rfl,an⟩;have T:Hid (Below (G+1) y C):=by
  have n:=bb.o;rw [aB] at n;exact n.trans (an.mono (by omega))
 have aJ:Hid (C.heap[G]?=some (.cells #[.string s,.slice A E cap] 24 (0,0))):=(T.o.block G (by omega)).trans aP.o;clear bh an bb aG ay bx;cases aC with
 | false=>
  have bo:=J9 (ap.o rfl);have bw:=J9 (B0.o.trans (T.o.mono (by omega)));clear B0 T aJ ax aP ac ap;go_wp2;go_ret;rw [bo.o];exact ⟨rfl,bw.o⟩
 | true=>
  obtain ⟨aI,a5⟩:=ac.o rfl;have aW:=J9 (ax.o C (by rw [aB];exact T.o));have ai:=J9 a5;clear ac ap a5;obtain ⟨aG,ay⟩:=Fr.qBb aJ.o;have bj:=J9 (B0.o.trans (T.o.mono (by omega)));have bO:G+1<=C.heap.size:=by have:=T.o.size;omega
  clear B0 T ax aP
  go_wp2_with fail
  refine aW.o.mono ?_;rintro e v ⟨aF,rfl,a9,aH⟩;obtain ⟨Z,ad,rfl,aS,-,-⟩:=a9.ops;have aM:=J9 (qb9 v);obtain ⟨h,ag⟩:=N9 (v.heap.size);have bi:=J9 (bj.o.trans (aH.mono (by omega)));have bH:G+1<=h:=by have:=aH.size;omega
  obtain ⟨K,aj⟩:=N9 (v.alloc (.cells #[.pointer none,.slice none 0 0] 100));rw [aj,ag] at aM;have bm:CB h h K []:=by
   have n:=CB.fresh (B:=v.heap.size) v (Qa _);rw [aj,ag] at n;exact n
  have bd:Below h v K:=by rw [<- aj,<- ag];exact B0
  have bu:K.heap.size=h+1:=by rw [<- aj];simp;omega
  obtain ⟨W,aD⟩:=N9 (J.length);rw [aD];have av:Below K.heap.size K (K.alloc (.cells #[.string s,.slice Z W ad] 24)):=B0;obtain ⟨bg,aQ⟩:=N9 (K.alloc (.cells #[.string s,.slice Z W ad] 24));rw [aQ] at av;have a0:=J9 (bm.more av);have aZ:=J9 (bd.trans (av.mono (by omega)));have az:Hid (bg.heap[h+1]?=some (.cells #[.string s,.slice Z W ad] 24 (0,0))):=by
   show _=_;rw [<- aQ,<- bu];exact heap_alloc_new K _
  have bB:bg.heap.size=h+2:=by rw [<- aQ];simp;omega
  have bl:Hid (∀ r,Below h v r->qai r Z J):=fun r q=>aS.below (by rw [ag];exact q)
  clear aW aG ay a9 aS aH bj bm bd av aJ
  go_wp2_with fail
  refine aM.o.mono ?_;rintro e z ⟨rfl,rfl⟩;clear aM;obtain ⟨bp,bA⟩:=Fr.qBb az.o;have aO:=J9 (qpK (w:=v) a0.o aZ.o (by omega) s (by simp;omega));rw [bB] at aO
  go_wp2_with fail
  refine aO.o.mono ?_;rintro e U ⟨rfl,M,aX,O⟩;have bq:Hid (U.heap[h+1]?=some (.cells #[.string s,.slice Z W ad] 24 (0,0))):=aX.block az.o (by omega) qzu;obtain ⟨bz,bC⟩:=Fr.qBb bq.o;have M:=J9 M;have O:=J9 O;have a2:=J9 (bl.o U O.o);have a3:Hid (h<=U.heap.size):=QV M.o.lt;have ah:Hid (∀ r aw,aw=ab->CB h h r aw->Below h v r->aw.length<=10000->Calls prog 67 #[.slice none 0 0,.pointer (some ⟨h,0,none⟩)] r fun e z=>e=.returned (.string (sB ab))/\Below G w z):=by
   rintro r aw rfl ae q bJ;refine (qdc (w:=v) ae q (QV ae.lt) (by omega)).mono ?_;rintro e z ⟨rfl,-,-,an⟩;exact ⟨rfl,bi.o.trans (an.mono (by omega))⟩
  clear aO bp bA az aZ a0 aX bl bi;by_cases bc:W=0
  ·have ar:J=[]:=Qw (by omega)
   have af:=J9 (ah.o U _ (by rw [ai.o,Qi ar];rfl) M.o O.o (by simp;omega));subst bc;clear M O ah ai
   go_wp2_with fail
   refine af.o.mono ?_;rintro e z ⟨rfl,q⟩;have aL:=J9 q;clear af q;go_wp2;go_ret;exact ⟨rfl,aL.o⟩
  ·have ar:J≠[]:=fun e=>bc (by rw [<- aD,e];rfl)
   have bI:0<W:=(by omega);have aq:=J9 (qty Z ad J (by omega) U a2.o);rw [aD] at aq;have aV:=qhL J (by omega);have ak:Hid (ab=([]++s.data.toList)++((⟨#[32]⟩:ByteArray).data.toList++(olistS J).data.toList)):=(by show _=_;rw [ai.o,Qe ar];rfl);obtain ⟨a1,bf⟩:=N9 (olistS J);rw [bf] at aq ak aV;have aU:Hid (∀ r,Below U.heap.size U r->Calls prog 67 #[.slice (some ⟨r.heap.size,0,none⟩) 2 2,.pointer (some ⟨h,0,none⟩)] (r.alloc (.cells #[.string ⟨#[32]⟩,.string a1] 9)) fun e z=>
     (∃ aF,e=.returned aF)/\Hid (CB h h z ab)/\Hid (Below h v z)/\Hid (ab.length<=10000)):=by
    intro r q;refine (qer (w:=v) (M.o.more q) (O.o.trans (q.mono a3.o)) (Qj a3.o q.size) ⟨#[32]⟩ a1 (by
     have e:(⟨#[32]⟩:ByteArray).size=1:=rfl;rw [e];simp;omega)).mono ?_
    rintro e z ⟨rfl,a7,-,bv⟩;rw [<- ak.o] at a7;refine ⟨⟨_,rfl⟩,a7,bv,?_⟩;show _<=_;rw [ak.o];simp;omega
   clear ai ak M a2 bf aV aI ar
   go_wp2_with fail
   refine aq.o.mono ?_;rintro e bE ⟨rfl,bn⟩;have bk:=J9 (aU.o bE bn);clear aq aU bn bz bC
   go_wp2_with fail
   refine bk.o.mono ?_;rintro e br ⟨⟨aF,rfl⟩,a6,a8,aT⟩;have af:=J9 (ah.o br _ rfl a6.o a8.o aT.o);clear bk ah a6 a8 aT O
   go_wp2_with fail
   refine af.o.mono ?_;rintro e z ⟨rfl,q⟩;have aL:=J9 q;clear af q;go_wp2;go_ret;exact ⟨rfl,aL.o⟩
end Go.Proofs.YtecpnfhpcamljaaGreatDoor
namespace Go.Mixed
open Go
section
variable {P:Program} {ops:Array Oper}
end
end Go.Mixed
namespace Go.Proofs.YtecpnfhpcamljaaGreatDoor
open Tryz
open Go.RowKit
theorem qqD {b:Str} {p:Int} {o:UInt8} {t:Str} (c:hdB b=some (p,o,t)):(0<=p/\p<=6)/\((¬5<=p/\b=qaM p++o :: t)\/(5<=p/\∃ x u,t=x :: u/\b=qaM p++x :: o :: u)):=by
 cases b with
 | nil=>cases c
 | cons E q=>
  simp only [hdB] at c;split at c
  ·rename_i h
   subst h;cases q with
   | nil=>cases c
   | cons v u=>simp only [Qv,Zl] at c;obtain ⟨rfl,rfl,rfl⟩:=c;exact ⟨by omega,.inl ⟨by omega,rfl⟩⟩
  ·split at c
   ·rename_i h
    subst h;cases q with
    | nil=>cases c
    | cons v u=>simp only [Qv,Zl] at c;obtain ⟨rfl,rfl,rfl⟩:=c;exact ⟨by omega,.inl ⟨by omega,rfl⟩⟩
   ·split at c
    ·rename_i h
     subst h;cases q with
     | nil=>cases c
     | cons v u=>
      simp only at c;split at c
      ·rename_i r
       subst r
       match u,c with
       | [],c=>cases c
       | [_],c=>cases c
       | x :: z :: y,c=>simp only [Qv,Zl] at c;obtain ⟨rfl,rfl,rfl⟩:=c;exact ⟨by omega,.inr ⟨by omega,x,y,rfl,rfl⟩⟩
      ·simp only [Qv,Zl] at c;obtain ⟨rfl,rfl,rfl⟩:=c;exact ⟨by omega,.inl ⟨by omega,rfl⟩⟩
    ·split at c
     ·rename_i h
      subst h;cases q with
      | nil=>cases c
      | cons v u=>
       simp only at c;split at c
       ·rename_i r
        subst r
        match u,c with
        | [],c=>cases c
        | [_],c=>cases c
        | x :: z :: y,c=>simp only [Qv,Zl] at c;obtain ⟨rfl,rfl,rfl⟩:=c;exact ⟨by omega,.inr ⟨by omega,x,y,rfl,rfl⟩⟩
       ·simp only [Qv,Zl] at c;obtain ⟨rfl,rfl,rfl⟩:=c;exact ⟨by omega,.inl ⟨by omega,rfl⟩⟩
     ·simp only [Qv,Zl] at c;obtain ⟨rfl,rfl,rfl⟩:=c;exact ⟨by omega,.inl ⟨by omega,rfl⟩⟩
theorem qvL {b:Str} {p:Int} {o:UInt8} {t:Str} {x:En} (J:hdB b=some (p,o,t)) (z:qaX p o.toNat=some x) (U:sizeT p x.2.2.1<=b.length) :
  ∃ y,qaW x.2.2.1 x.2.1 (qcW x.2.2.1 t).1 (qcW x.2.2.1 t).2=some y/\b.take (sizeT p x.2.2.1)=qxl p (o.toNat:Int) x.2.2.1 (qcW x.2.2.1 t).1 (qcW x.2.2.1 t).2/\
   itR b=⟨1,b.take (sizeT p x.2.2.1),x.1,y,x.2.2.2⟩/\qdA (p,(o.toNat:Int),x.1,x.2.1,x.2.2.1,x.2.2.2):=by
 have G:o.toNat<256:=o.toNat_lt;have C:=qgR G z;have E:qdA (p,(o.toNat:Int),x.1,x.2.1,x.2.2.1,x.2.2.2):=⟨o.toNat,G,rfl,z⟩;obtain ⟨y,M⟩:=qkW C (qpe G z) (qks C t);refine ⟨y,M,?_,?_,E⟩
 ·have h:=(qfI E (qcW x.2.2.1 t).1 (qcW x.2.2.1 t).2).1
  simp only at h;have q:=(qfI E 0 0).1;simp only at q;obtain ⟨W,T⟩:=qqD J;have K:qcK (o.toNat:Int)=o:=qh6 o;rcases T with ⟨u,rfl⟩ | ⟨u,V,Z,rfl,rfl⟩
  ·unfold qxl at h q |-
   rw [Qe u,K] at h q |-;rw [Qk,Qt] at q U;rw [qsD C t (by omega)];rw [<- q];rw [List.take_append];rw [show (qaM p).length+((x.2.2.1.flatMap (qrc 0 0)).length+1) - (qaM p).length=(x.2.2.1.flatMap (qrc 0 0)).length+1 by omega,QW (by omega),List.take_succ_cons]
  ·have O:=C.hi u
   unfold qxl at h |-;rw [Qi u,K] at h |-;rw [Qk] at h;simp only [Qt,QP] at h;rw [O,qlr];simp only [List.getD_cons_zero,qfA];rw [O] at h;rw [<- h,List.take_append,QW (by omega)];rw [show (qaM p).length+(0+1+1) - (qaM p).length=2 by omega];rfl
 ·unfold itR
  rw [J];simp only [z,M,Option.getD_some];rw [Qe (by omega)]
end Go.Proofs.YtecpnfhpcamljaaGreatDoor
namespace Go.Proofs.YtecpnfhpcamljaaGreatDoor
open Tryz
open Go.RowKit
def pgA:Str->Int×Nat
 | []=>(0,0)
 | c :: r=>if c=203 then (1,1) else if c=237 then (2,1) else if c=221 then (if r.head?=some 203 then (5,3) else (3,1)) else if c=253 then (if r.head?=some 203 then (6,3) else (4,1)) else (0,0)
def nxA (b:Str):Nat:=if 5<=(pgA b).1 then 2 else (pgA b).2+1
theorem quL {b:Str} (c:b.length<=(pgA b).2):hdB b=none:=by
 cases b with
 | nil=>rfl
 | cons y q=>
  simp only [pgA,hdB,Qt] at c |-;split
  ·rw [Qi ‹_›] at c
   cases q with
   | nil=>rfl
   | cons r h=>simp at c
  ·rw [Qe ‹_›] at c
   split
   ·rw [Qi ‹_›] at c
    cases q with
    | nil=>rfl
    | cons r h=>simp at c
   ·rw [Qe ‹_›] at c
    split
    ·rw [Qi ‹_›] at c
     cases q with
     | nil=>rfl
     | cons r h=>
      simp only [List.head?_cons,Qv] at c |-;split
      ·rw [Qi ‹_›] at c
       match h,c with
       | [],c=>rfl
       | [u],c=>rfl
       | u :: v :: x,c=>simp at c
      ·rw [Qe ‹_›] at c
       simp at c
    ·rw [Qe ‹_›] at c
     split
     ·rw [Qi ‹_›] at c
      cases q with
      | nil=>rfl
      | cons r h=>
       simp only [List.head?_cons,Qv] at c |-;split
       ·rw [Qi ‹_›] at c
        match h,c with
        | [],c=>rfl
        | [u],c=>rfl
        | u :: v :: x,c=>simp at c
       ·rw [Qe ‹_›] at c
        simp at c
     ·rw [Qe ‹_›] at c
      simp at c
theorem qux {b:Str} (c:(pgA b).2<b.length):hdB b=some ((pgA b).1,b[(pgA b).2],if 5<=(pgA b).1 then b.getD 2 0 :: b.drop 4 else b.drop ((pgA b).2+1)):=by
 cases b with
 | nil=>simp at c
 | cons r v=>
  by_cases x:r=203
  ·subst x
   cases v with
   | nil=>simp [pgA] at c
   | cons h q=>rfl
  ·by_cases y:r=237
   ·subst y
    cases v with
    | nil=>simp [pgA] at c
    | cons h q=>rfl
   ·by_cases E:r=221
    ·subst E
     cases v with
     | nil=>simp [pgA] at c
     | cons h q=>
      by_cases e:h=203
      ·subst e
       match q,c with
       | [],c=>simp [pgA] at c
       | [G],c=>simp [pgA] at c
       | G :: J :: K,c=>rfl
      ·have u:pgA (221 :: h :: q)=(3,1):=by simp [pgA,e]
       simp only [u];simp [hdB,e]
    ·by_cases z:r=253
     ·subst z
      cases v with
      | nil=>simp [pgA] at c
      | cons h q=>
       by_cases e:h=203
       ·subst e
        match q,c with
        | [],c=>simp [pgA] at c
        | [G],c=>simp [pgA] at c
        | G :: J :: K,c=>rfl
       ·have u:pgA (253 :: h :: q)=(4,1):=by simp [pgA,e]
        simp only [u];simp [hdB,e]
     ·have u:pgA (r :: v)=(0,0):=by simp [pgA,x,y,E,z]
      simp only [u];simp [hdB,x,y,E,z]
theorem qtU (b:Str):(0<=(pgA b).1/\(pgA b).1<=6)/\(pgA b).2<=3/\(5<=(pgA b).1↔(pgA b).2=3):=by
 cases b with
 | nil=>decide
 | cons c h=>
  simp only [pgA]
  repeat' split
  all_goals decide
def needR (b:Str):Nat:=match hdB b with
 | some (h,o,q)=>(match qaX h o.toNat with
  | none=>if rkindT h o.toNat=0 then 1 else 2
  | some p=>sizeT h p.2.2.1)
 | none=>match b with
  | []=>1
  | _ :: 203 :: _=>4
  | _=>2
def qzO (p n:Nat):Bool:=(qaX (p:Int) n).isSome||decide (rkindT (p:Int) n=0)||(decide (rkindT (p:Int) n=3)&&decide (p=2))||(decide (p=0)&&(n == 203||n == 221||n == 237||n == 253))||((decide (p=3)||decide (p=4))&&n == 203)
theorem qyM:∀ g:Fin 7,∀ h:Fin 256,qzO g.val h.val=true:=by decide +kernel
theorem qko {b:Str} {p:Int} {o:UInt8} {t:Str} (c:hdB b=some (p,o,t)) (W:qaX p o.toNat=none):rkindT p o.toNat=0\/(rkindT p o.toNat=3/\p=2):=by
 have aa:=(qqD c).1;have Z:=o.toNat_lt;obtain ⟨q,rfl⟩:∃ q:Nat,p=(q:Int):=⟨p.toNat,by omega⟩;have e:=qyM ⟨q,by omega⟩ ⟨o.toNat,Z⟩;unfold qzO at e;simp only [W,Option.isSome_none,Bool.false_or,Zv,Qd,Qf,beq_iff_eq] at e;have y:∀ z:Nat,z<256->o.toNat=z->o=UInt8.ofNat z:=fun z e J=>by
  refine UInt8.toNat_inj.1 ?_;rw [UInt8.toNat_ofNat_of_lt' (show z<256 from e)];exact J
 rcases e with ((e | e) | e) | e
 ·exact .inl e
 ·exact .inr ⟨e.1,by omega⟩
 ·exfalso
  obtain ⟨G,e⟩:=e;obtain rfl:q=0:=G;cases b with
  | nil=>cases c
  | cons k g=>
   have K:k≠203/\k≠237/\k≠221/\k≠253/\o=k:=by
    simp only [hdB] at c;refine ⟨?_,?_,?_,?_,?_⟩
    ·rintro rfl;rw [Qi rfl] at c;cases g <;> simp at c
    ·rintro rfl;rw [Qe (by decide),Qi rfl] at c;cases g <;> simp at c
    ·rintro rfl
     rw [Qe (by decide),Qe (by decide),Qi rfl] at c;cases g with
     | nil=>cases c
     | cons u h=>
      simp only at c;split at c
      ·match h,c with
       | [],c=>cases c
       | [_],c=>cases c
       | x :: r :: v,c=>simp at c
      ·simp at c
    ·rintro rfl
     rw [Qe (by decide),Qe (by decide),Qe (by decide),Qi rfl] at c;cases g with
     | nil=>cases c
     | cons u h=>
      simp only at c;split at c
      ·match h,c with
       | [],c=>cases c
       | [_],c=>cases c
       | x :: r :: v,c=>simp at c
      ·simp at c
    ·split at c
     ·cases g <;> simp at c
     ·split at c
      ·cases g <;> simp at c
      ·split at c
       ·cases g with
        | nil=>cases c
        | cons u h=>
         simp only at c;split at c
         ·match h,c with
          | [],c=>cases c
          | [_],c=>cases c
          | x :: r :: v,c=>simp at c
         ·simp at c
       ·split at c
        ·cases g with
         | nil=>cases c
         | cons u h=>
          simp only at c;split at c
          ·match h,c with
           | [],c=>cases c
           | [_],c=>cases c
           | x :: r :: v,c=>simp at c
          ·simp at c
        ·simp only [Qv,Zl] at c
         exact c.2.1.symm
   obtain ⟨O,V,M,T,rfl⟩:=K;rcases e with ((e | e) | e) | e
   ·exact O (y 203 (by decide) e)
   ·exact M (y 221 (by decide) e)
   ·exact V (y 237 (by decide) e)
   ·exact T (y 253 (by decide) e)
 ·exfalso
  obtain ⟨G,e⟩:=e;have U:o=203:=y 203 (by decide) e;subst U;have ab:(q:Int)=3\/(q:Int)=4:=by omega
  cases b with
  | nil=>cases c
  | cons k g=>
   simp only [hdB] at c;split at c
   ·cases g <;> simp at c;omega
   ·split at c
    ·cases g <;> simp at c;omega
    ·split at c
     ·cases g with
      | nil=>cases c
      | cons u h=>
       simp only at c;split at c
       ·match h,c with
        | [],c=>cases c
        | [_],c=>cases c
        | x :: r :: v,c=>simp at c;omega
       ·rename_i E
        simp only [Qv,Zl] at c;exact E c.2.1
     ·split at c
      ·cases g with
       | nil=>cases c
       | cons u h=>
        simp only at c;split at c
        ·match h,c with
         | [],c=>cases c
         | [_],c=>cases c
         | x :: r :: v,c=>simp at c;omega
        ·rename_i E
         simp only [Qv,Zl] at c;exact E c.2.1
      ·simp only [Qv,Zl] at c;omega
theorem qo1 {b:Str} {p:Int} {o:UInt8} {t:Str} (h:hdB b=some (p,o,t)):(qaM p).length+1<=b.length/\(5<=p->4<=b.length):=by
 obtain ⟨x,u⟩:=qqD h;rcases u with ⟨q,rfl⟩ | ⟨q,y,z,rfl,rfl⟩
 ·exact ⟨by rw [Qk,Qt];omega,fun h=>absurd h q⟩
 ·refine ⟨by rw [Qk,Qt,Qt];omega,fun _=>?_⟩
  have:(qaM p).length=2:=by rcases (by omega:p=5\/p=6) with rfl | rfl <;> rfl
  rw [Qk,Qt,Qt];omega
theorem qd7 {b:Str} {p:Int} {o:UInt8} {t:Str} (h:hdB b=some (p,o,t)):needR b=match qaX p o.toNat with | none=>if rkindT p o.toNat=0 then 1 else 2 | some q=>sizeT p q.2.2.1:=by
 unfold needR;rw [h]
theorem qwk {b:Str} (h:hdB b=none):b=[]\/(∃ c,b=[c]/\(c=203\/c=237\/c=221\/c=253))\/(∃ c,(c=221\/c=253)/\(b=[c,203]\/∃ x,b=[c,203,x])):=by
 cases b with
 | nil=>exact .inl rfl
 | cons c u=>
  simp only [hdB] at h;refine .inr ?_;split at h
  ·cases u with
   | nil=>exact .inl ⟨c,rfl,.inl ‹_›⟩
   | cons y r=>cases h
  ·split at h
   ·cases u with
    | nil=>exact .inl ⟨c,rfl,.inr (.inl ‹_›)⟩
    | cons y r=>cases h
   ·split at h
    ·rename_i q
     cases u with
     | nil=>exact .inl ⟨c,rfl,.inr (.inr (.inl q))⟩
     | cons y r=>
      simp only at h;split at h
      ·rename_i v
       subst v
       match r,h with
       | [],h=>exact .inr ⟨c,.inl q,.inl rfl⟩
       | [x],h=>exact .inr ⟨c,.inl q,.inr ⟨x,rfl⟩⟩
       | x :: z :: E,h=>cases h
      ·cases h
    ·split at h
     ·rename_i q
      cases u with
      | nil=>exact .inl ⟨c,rfl,.inr (.inr (.inr q))⟩
      | cons y r=>
       simp only at h;split at h
       ·rename_i v
        subst v
        match r,h with
        | [],h=>exact .inr ⟨c,.inr q,.inl rfl⟩
        | [x],h=>exact .inr ⟨c,.inr q,.inr ⟨x,rfl⟩⟩
        | x :: z :: E,h=>cases h
       ·cases h
     ·cases h
theorem qrs (b:Str):1<=needR b/\needR b<=4:=by
 cases q:hdB b with
 | none=>
  unfold needR;rw [q];simp only;split <;> omega
 | some x=>
  obtain ⟨p,h,y⟩:=x;rw [qd7 q];cases t:qaX p h.toNat with
  | none=>simp only;split <;> omega
  | some o=>
   have:=qfI (k:=(p,(h.toNat:Int),o.1,o.2.1,o.2.2.1,o.2.2.2)) ⟨h.toNat,h.toNat_lt,rfl,t⟩ 0 0;exact ⟨this.2.1,this.2.2⟩
theorem qjt {b:Str} (E:b≠[]):(itR b).kind=4↔b.length<needR b:=by
 cases e:hdB b with
 | none=>
  have c:itR b=qbv 4 b:=by unfold itR;rw [e]
  rw [c];refine ⟨fun _=>?_,fun _=>rfl⟩;rcases qwk e with rfl | ⟨z,rfl,h⟩ | ⟨z,h,rfl | ⟨q,rfl⟩⟩
  ·exact absurd rfl E
  ·rcases h with rfl | rfl | rfl | rfl <;> decide
  ·rcases h with rfl | rfl <;> decide
  ·rcases h with rfl | rfl <;> (unfold needR;rw [e];simp)
 | some G=>
  obtain ⟨y,t,T⟩:=G;have M:=qo1 e;rw [qd7 e];unfold itR;rw [e];simp only;cases J:qaX y t.toNat with
  | none=>
   simp only;rcases qko e J with x | ⟨O,rfl⟩
   ·rw [Qi x,Qi x]
    exact ⟨fun c=>(by cases c),fun c=>by omega⟩
   ·have p:¬rkindT 2 t.toNat=0:=by omega
    rw [Qe p,Qe p];have K:(qaM 2).length=1:=rfl;exact ⟨fun c=>(by cases c),fun c=>by omega⟩
  | some q=>
   simp only;by_cases o:b.length<sizeT y q.2.2.1
   ·rw [Qi o];exact ⟨fun _=>o,fun _=>rfl⟩
   ·rw [Qe o];exact ⟨fun c=>(by cases c),fun c=>absurd c o⟩
end Go.Proofs.YtecpnfhpcamljaaGreatDoor
namespace Go.Proofs.YtecpnfhpcamljaaGreatDoor
open Tryz
open Go.RowKit Go.Shelf
theorem qna (ys:Str):∀ h∈cellsB ys,h.oneCell'=true:=fun h b=>by
 unfold cellsB at b;obtain ⟨q,-,rfl⟩:=Zq.1 b;rfl
theorem qhD (xs ys:Str):cellsB (xs++ys)=cellsB xs++cellsB ys:=by unfold cellsB;rw [Zg]
theorem BytesAt.news {w:World} {A:Option Addr} {ys:Str} (z:BytesAt w A ys):ys.length=0\/∃ a,A=some a/\∀ j q,(cellsB ys)[j]?=some q->w.cell? (a.add j)=some q:=by
 rcases z with rfl | ⟨y,u,rfl,E⟩
 ·exact .inl rfl
 ·refine .inr ⟨_,rfl,fun j q b=>?_⟩
  have G:(⟨y,u,none⟩:Addr).add j=⟨y,u+j,none⟩:=by unfold Addr.add;split <;> simp_all
  rw [G];unfold cellsB at b;rw [Zi] at b;cases h:ys[j]? with
  | none=>rw [h] at b;cases b
  | some M=>
   rw [h] at b;obtain ⟨J,K⟩:=QN.1 h;obtain rfl:=Qs b;rw [E j J,K]
theorem qqG (w:World) (B:Nat) (v:Value) (xs:Str) (q:qat w B v xs) (A:Option Addr) (c:Nat) (ys:Str) (J:BytesAt w A ys) (y:B<=w.heap.size) (Z:xs.length+ys.length<=100000) :
  ∃ k h,(Builtin.append_ #[35,35] 35 #[v,.slice A ys.length c]).run prog w=.ok k h/\qat h B k (xs++ys)/\Below B w h/\w.grownBy h v.ownBlock:=by
 obtain ⟨E,O,M,T,K⟩:=info_parts qmv;obtain ⟨k,h,G,W,z⟩:=qa4 w B 35 35 5 E _ 1 1 underlying35 O M T K rfl (by decide) v xs.length (cellsB xs) q A ys.length c (cellsB ys)
  (by unfold cellsB;simp) J.news (qna ys) (by unfold maxLen;omega) (by omega) y
 refine ⟨k,h,G,?_,(Qc B w).grown z y fun U V=>(World.ownsRow.lt q U V).1,z⟩;unfold qat;rw [qhD,Qk];exact W
theorem qfb {wr:World} {B:Nat} {v:Value} {xs:Str} (J:qat wr B v xs) {A:Option Addr} {c:Nat} {ys:Str} (E:BytesAt wr A ys) (O:B<=wr.heap.size) (K:xs.length+ys.length<=100000) {ops:Array Oper} {rest:List Oper} {o:Oper} {a:Act} {Q:Exit->Act->World->Prop} (M:o.guard=none) (s x:Operand)
  (aa:o.op=.call {callee:=.builtin .append,args:=#[s,x],argTypes:=#[35,35]}) (G:o.type=35) (Z:a.eval s=v) (m:Nat) (V:ys.length=m) (ab:a.eval x=.slice A m c) (n:Nat) (T:xs.length+m=n)
  (k:∀ q h w1,qat w1 B (.slice q n h) (xs++ys)->Below B wr w1->wpList prog ops Q rest (a.put o.dst (.slice q n h)) w1):wpList prog ops Q (o :: rest) a wr:=by
 subst V T;obtain ⟨ac,U,z,y,W,-⟩:=qqG wr B v xs J A c ys E O K;obtain ⟨q,h,rfl,-⟩:=y.bytes;rw [Qk] at z y;exact qal z M s x aa G Z ab (k q h U y W)
theorem qj2 (w:World) (n:Nat):qat w n (.slice none 0 0) []:=Zm _ _ _ _
theorem qat.lift {w:World} {n m:Nat} {v:Value} {xs:Str} (h:qat w n v xs) (k:m<=n):qat w m v xs:=row_mono h k
end Go.Proofs.YtecpnfhpcamljaaGreatDoor
namespace Go.Proofs.YtecpnfhpcamljaaGreatDoor
open Tryz
open Go.RowKit Go.Shelf
attribute [local go_sem] Oper.semAt_some
def qa8 (w:World) (m:Str) (o:Option (List Tr)) (e:Ending) (w':World):Prop:=match o with
 | some q=>∃ h,e=.returned (.tuple #[.agg #[.string (sB m),h],.bool true])/\qaf w' w.heap.size h q/\Below w.heap.size w w'
 | none=>e=.returned (.tuple #[.agg #[.string ⟨#[]⟩,.slice none 0 0],.bool false])/\Below w.heap.size w w'
theorem qmu {ex:Str} {L:List Tr} {d n:Int} {k:Nat} (y:k<L.length) (h:okR ex L d n k=false):qbG ex L d n=none:=by
 unfold qbG;refine Qe fun q=>?_
 have:=QA.1 q.1 k (QZ.2 y);rw [h] at this;cases this
theorem qqe {ex:Str} {L:List Tr} {d n:Int} (q:∀ k,k<L.length->okR ex L d n k=true) (h:qkk ex L d L.length=true) (y:qkg ex L n L.length=true):qbG ex L d n=some ((List.range L.length).map (stR ex L d n)):=by
 unfold qbG;exact Qi ⟨QA.2 fun k z=>q k (QZ.1 z),h,y⟩
theorem qpy {ex:Str} {L:List Tr} {d n:Int} (q:qkk ex L d L.length=false):qbG ex L d n=none:=by
 unfold qbG;refine Qe fun h=>?_
 rw [q] at h;exact absurd h.2.1 (by simp)
theorem qqo {ex:Str} {L:List Tr} {d n:Int} (q:qkg ex L n L.length=false):qbG ex L d n=none:=by
 unfold qbG;refine Qe fun h=>?_
 rw [q] at h;exact absurd h.2.2 (by simp)
theorem qgA (ex:Str) (L:List Tr) (d:Int) (k:Nat):qkk ex L d (k+1)=(qkk ex L d k||letR ex L k == 100):=by
 unfold qkk;rw [List.range_succ,List.any_append];simp [Bool.or_assoc]
theorem qf8 (ex:Str) (L:List Tr) (n:Int) (k:Nat):qkg ex L n (k+1)=(qkg ex L n k||(letR ex L k != 100&&letR ex L k != 0)):=by
 unfold qkg;rw [List.range_succ,List.any_append];simp [Bool.or_assoc]
theorem qiu (ex:Str) (L:List Tr) (d n:Int) (k:Nat):(List.range (k+1)).map (stR ex L d n)=(List.range k).map (stR ex L d n)++[stR ex L d n k]:=by
 rw [List.range_succ,Zg];rfl
theorem qnE (w:World) (y q:Int) (m:Str) (v:Value) (ex:Str) (al:Bool) (n:Nat) (z:w.heap.size=n):∃ h,((w.alloc (.cells #[.int .i64 y,.int .u8 q,.string (sB m),v,.string (sB ex),.bool al] 30)).alloc (.cells #[.string ⟨#[]⟩,.slice none 0 0] 24))=h/\
  h.heap[n]?=some (.cells #[.int .i64 y,.int .u8 q,.string (sB m),v,.string (sB ex),.bool al] 30 (0,0))/\Rz h (n+1)/\Below w.heap.size w h/\h.heap.size=n+2:=by
 subst z;refine ⟨_,rfl,(Below.heap_alloc _ _ _ (by simp)).trans (World.alloc_heap_new w _),?_,((B0 (w:=w))).alloc (by simp) _,by simp⟩;have E:=World.alloc_heap_new (w.alloc (.cells #[.int .i64 y,.int .u8 q,.string (sB m),v,.string (sB ex),.bool al] 30)) (.cells #[.string ⟨#[]⟩,.slice none 0 0] 24)
 rwa [QB] at E
theorem qqb (bx bw:Int) (m:Str) (A:Option Addr) (cap l:Nat) (L:List Tr) (bV:L.length=l) (ck:l<=1000) (ex:Str) (cA:ex.length<=1000) (al:Bool) (d g:Int) (w:World) (H:qai w A L) :
  Calls prog 104 #[enV bx bw m (.slice A l cap) ex al,.int .i64 d,.int .i64 g] w (qa8 w m (qbG ex L d g)):=by
 unfold enV;obtain ⟨n,bG⟩:=N9 (w.heap.size);obtain ⟨aF,co,Z,b3,bW,aa⟩:=qnE w bx bw m (.slice A l cap) ex al n bG;have ce:Hid (Below n w aF):=by rw [<- bG];exact bW
 have aA:=J9 bG;have aH:=J9 bV;have aN:=J9 aa;have cj:=J9 H;have b0:=J9 Z;have b5:=J9 b3;have bh:=C9 Z 0;have a9:=C9 Z 1;have bi:=C9 Z 2;have bp:=C9 Z 3;have bo:=C9 Z 4;have bb:=C9 Z 5;clear H bW Z aa b3 bV
 go_enter func104,ntmps104
 go_upto_region 1 with fail
 clear co
 go_upto_region 2 with fail
 obtain ⟨z,a6⟩:=N9 (aF.alloc (.cells #[.string (sB m),.slice none 0 0] 24));obtain ⟨e,ab⟩:=N9 (aF.heap.size);have W:Below aF.heap.size aF z:=by rw [<- a6];exact B0
 have bP:Hid (Ri z e (sB m) (.slice none 0 0)):=by rw [<- a6,<- ab];exact heap_alloc_new aF _
 have cB:n+1<e:=by have:=aN.o;omega
 have cr:Hid (z.heap.size=e+1):=by show _=_;rw [<- a6,<- ab];simp
 have bE:Hid (Below n w z):=ce.o.trans (W.mono (by have:=aN.o;omega));have cp:=J9 ((W.block n (by have:=aN.o;omega)).trans b0.o);have cw:Hid (Rz z (n+1)):=(W.block (n+1) (by have:=aN.o;omega)).trans b5.o;rw [a6,ab];clear a6 ab W bh a9 bi bp bo bb ce aN b0 b5;have bt:Hid ((d == 0)=qkk ex L d 0):=by show _=_;unfold qkk;simp
 have bI:Hid ((g == 0)=qkg ex L g 0):=by show _=_;unfold qkg;simp
 obtain ⟨cx,bX⟩:=N9 ((d == 0));obtain ⟨cn,cf⟩:=N9 ((g == 0));rw [bX] at bt;rw [cf] at bI;have bN:Hid (qaf z (e+1) (.slice none 0 0) ((List.range 0).map (stR ex L d g))):=Zm _ _ _ _;go_wp2;clear bX cf
 go_loopw [9,10,11] (fun cv ci bB wr=>∃ (b:Nat) (x:Option Addr) (y:Nat) (p aC:Bool),b<=l/\bB=.int .i64 b/\cv=.bool p/\ci=.bool aC/\Hid (p=qkk ex L d b)/\Hid (aC=qkg ex L g b)/\Hid (∀ k,k<b->okR ex L d g k=true)/\Hid (Ri wr e (sB m) (.slice x b y))/\Hid (qaf wr (e+1) (.slice x b y) ((List.range b).map (stR ex L d g)))/\Hid (Below e z wr)/\Hid (e+1<=wr.heap.size)) (fun _ _ bB _=>l - (intOf bB).toNat)
 case atStart=>exact ⟨0,none,0,cx,cn,Qu _,rfl,rfl,rfl,bt.o,bI.o,fun k bT=>by omega,bP.o,bN.o,Qc _ _,Nat.le_of_eq cr.o.symm⟩
 case round=>
  clear bP bN bt bI;obtain ⟨b,x,y,p,aC,cC,rfl,rfl,rfl,bm,bf,a7,aE,ar,a1,aI⟩:=hrel;have an:=(a1.o.block n (by omega)).trans cp.o;have cd:=J9 an;have av:Hid (Rz wr (n+1)):=(a1.o.block (n+1) (by omega)).trans cw.o;have a4:=J9 (bE.o.trans (a1.o.mono (by omega)));have bH:Hid (qai wr A L):=cj.o.below (by rw [aA.o];exact a4.o);have bh:=C9 an 0;have a9:=C9 an 1;have bi:=C9 an 2;have bp:=C9 an 3;have bo:=C9 an 4;have bb:=C9 an 5;clear an;by_cases cz:b<l
  ·have bj:b<L.length:=by have:=aH.o;omega
   obtain ⟨cq,cm,rfl,-,bc,bg,bq⟩:=bH.o.at_ bj;have b1:L.getD b tr0=L[b]:=(by rw [Ql,Qg bj];rfl);rw [<- b1] at bc bg bq;have bZ:=J9 bj;obtain ⟨⟨J,G,W⟩,bJ⟩:=N9 (L.getD b tr0);have bF:=J9 bJ;rw [bJ] at bc bg bq;simp only at bc bg bq;have b8:Below wr.heap.size wr (wr.alloc (.cells #[.int .i64 J,.int .i64 G,.int .i64 W] 56)):=B0;have au:=J9 b8;have b6:(wr.alloc (.cells #[.int .i64 J,.int .i64 G,.int .i64 W] 56)).heap[wr.heap.size]?=some (.cells #[.int .i64 J,.int .i64 G,.int .i64 W] 56 (0,0)):=heap_alloc_new wr _;have bk:=J9 b6;have bD:=(fun aX bT=>qhs bx bw m (some ⟨cq,cm,none⟩) cap l L aH.o ck ex cA al b cz aX bT);simp only [enV] at bD;have bK:=J9 bD;clear bJ bj b1 b8 b6 bD
   go_upto_region 8 with fail
   obtain ⟨i,bv⟩:=N9 (wr.heap.size);obtain ⟨aQ,be⟩:=N9 (wr.alloc (.cells #[.int .i64 J,.int .i64 G,.int .i64 W] 56));rw [be,bv];rw [be,bv] at bk;rw [be] at au;have ap:=(au.o.block n (by have:=aI.o;omega)).trans cd.o;have cl:=J9 ap;have bM:Hid (Rz aQ (n+1)):=(au.o.block (n+1) (by have:=aI.o;omega)).trans av.o;have b9:=J9 (bH.o.below au.o);have ca:Hid (Ri aQ e (sB m) (.slice x b y)):=(au.o.block e (by have:=aI.o;omega)).trans aE.o;have cg:=J9 (ar.o.below au.o);have bU:Hid (Below e z aQ):=a1.o.trans (au.o.mono (by have:=aI.o;omega));have ax:Hid (e+1<=i/\i<aQ.heap.size):=by
    have aJ:=aI.o;exact ⟨by omega,(Qb.1 bk.o).1⟩
   have bY:Hid (∀ bn,(Value.slice x b y).ownBlock=some bn->bn≠i):=fun bn ct=>by have:=(World.ownsRow.lt ar.o bn ct).2;omega
   have bh:=C9 ap 0;have a9:=C9 ap 1;have bi:=C9 ap 2;have bp:=C9 ap 3;have bo:=C9 ap 4;have bb:=C9 ap 5;clear be ap bc bg bq bv au cd av a4 bH aE ar a1 aI
   go_wp2_with fail
   refine (bK.o aQ b9.o).mono ?_;rintro aq j ⟨rfl,ab⟩;have aS:Hid (Rz j (n+1)):=(ab.block (n+1) (by have:=ax.o;omega)).trans bM.o;have aG:Hid (Ri j e (sB m) (.slice x b y)):=(ab.block e (by have:=ax.o;omega)).trans ca.o;have aK:=J9 (cg.o.below ab);have aL:Hid (Below e z j):=bU.o.trans (ab.mono (by have:=ax.o;omega));have aM:Hid (j.heap[i]?=some (.cells #[.int .i64 J,.int .i64 G,.int .i64 W] 56 (0,0))):=(ab.block i ax.o.2).trans bk.o;have ay:Hid (e+1<=i/\i<j.heap.size):=⟨ax.o.1,Zk ax.o.2 ab.size⟩;have bQ:i≠e:=(by have:=ay.o.1;omega);have b4:i≠n+1:=(by have:=ay.o.1;omega);have bL:=C9 aM.o 0;have bR:=C9 aM.o 1;have bO:=C9 aM.o 2;have b7:((List.range b).map (stR ex L d g)).length=b:=(by rw [QC,List.length_range]);have bC:=J9 b7;clear ab bh a9 bi bp bo bb bK b9 bM ca cg bU bk ax cl b7;rcases qm4 ex L b with af | af | af | af | af
   rotate_left 4
   ·have F:letR ex L b=0:=af
    rw [af];simp only [show ((0:UInt8).toNat:Int)=0 from rfl];have aD:Hid (stR ex L d g b=(J,G,W)):=(by show stR ex L d g b=_;unfold stR;rw [Qe (by rw [F];decide),Qi F,bF.o]);have ah:Hid (okR ex L d g b=true):=(by show okR ex L d g b=_;unfold okR;rw [F];rfl);have aT:Hid (p=qkk ex L d (b+1)):=(by show _=_;rw [qgA,F];rw [<- bm.o];simp);have aY:Hid (aC=qkg ex L g (b+1)):=(by show _=_;rw [qf8,F];rw [<- bf.o];simp);have ae:=aG;have az:=aK;have aj:=aL;have ao:Hid (e+1<=j.heap.size):=(by have:=ay.o;show _<=_;omega);have a3:Hid (∀ k,k<b+1->okR ex L d g k=true):=fun k bA=>by
     by_cases aq:k=b
     ·rw [aq];exact ah.o
     ·exact a7.o k (by omega)
    have aR:Hid ((List.range (b+1)).map (stR ex L d g)=(List.range b).map (stR ex L d g)++[(J,G,W)]):=(by show _=_;rw [qiu,aD.o]);clear aG aK aL aS;obtain ⟨-,bS⟩:=ae.o.cells;have a2:Hid (∀ h,Below (e+1) j h->Ri h e (sB m) (.slice x b y)/\Below e z h/\e+1<=h.heap.size):=fun h r=>⟨(r.block e (by omega)).trans ae.o,aj.o.trans (r.mono (by omega)),Qj ao.o r.size⟩
    go_wp2_with (at_builtin;refine qcy az.o ao.o rfl _ _ rfl rfl j.heap.size (by simp) rfl (J,G,W) b bC.o (by omega) ?_;intro q o h O r;obtain ⟨E,ad,ac⟩:=a2.o h r;rw [<- aR.o] at O;obtain ⟨a5,cc⟩:=E.cells;have b2:h.frozen? ⟨e,1,none⟩=false:=Qp E 1;have O:=J9 O;have E:=J9 E;have ad:=J9 ad;have ac:=J9 ac;clear r a5)
    have aP:Hid (Ri (h.setCell ⟨e,1,none⟩ (.slice q (b+1) o)) e (sB m) (.slice q (b+1) o)):=heap_setCell_same h e 1 _ _ _ E.o;have aZ:Hid (qaf (h.setCell ⟨e,1,none⟩ (.slice q (b+1) o)) (e+1) (.slice q (b+1) o) ((List.range (b+1)).map (stR ex L d g))):=row_set O.o (p:=⟨e,1,none⟩) (by simp) _;have aO:Hid (Below e z (h.setCell ⟨e,1,none⟩ (.slice q (b+1) o))):=ad.o.setCell (p:=⟨e,1,none⟩) (Qa _) _;have aV:Hid (e+1<=(h.setCell ⟨e,1,none⟩ (.slice q (b+1) o)).heap.size):=(by have aJ:=ac.o;simp [Hid] at aJ |-;omega);go_roundw
    case rel=>exact ⟨b+1,q,o,_,_,by omega,by go_num,rfl,rfl,aT.o,aY.o,a3.o,aP.o,aZ.o,aO.o,aV.o⟩
    case measure=>simp [intOf];omega
   ·have F:letR ex L b=100:=af
    rw [af];simp only [show ((100:UInt8).toNat:Int)=100 from rfl];have cy:j.frozen? ⟨i,2,none⟩=false:=Qp aM.o 2;have V:=J9 (fun aX=>qdS 100 d aX);simp only [show ((100:UInt8).toNat:Int)=100 from rfl] at V;have aD:Hid (stR ex L d g b=(J,G,d)):=(by show stR ex L d g b=_;unfold stR;rw [Qi F,bF.o]);have ah:Hid (okR ex L d g b=withR 100 d):=(by show okR ex L d g b=_;unfold okR;rw [aD.o,F];simp);have aT:Hid (true=qkk ex L d (b+1)):=(by show _=_;rw [qgA,F];simp);have aY:Hid (aC=qkg ex L g (b+1)):=(by show _=_;rw [qf8,F];rw [<- bf.o];simp);obtain ⟨bs,a8⟩:=N9 (withR 100 d);rw [a8] at ah V;have ae:Hid (Ri (j.setCell ⟨i,2,none⟩ (.int .i64 d)) e (sB m) (.slice x b y)):=(heap_setCell_other j ⟨i,2,none⟩ e _ bQ.symm).trans aG.o;have az:Hid (qaf (j.setCell ⟨i,2,none⟩ (.int .i64 d)) (e+1) (.slice x b y) ((List.range b).map (stR ex L d g))):=qcq aK.o (p:=⟨i,2,none⟩) bY.o _;have aj:Hid (Below e z (j.setCell ⟨i,2,none⟩ (.int .i64 d))):=aL.o.setCell (p:=⟨i,2,none⟩) (by have:=ay.o.1;simp;omega) _;have aU:Hid (Rz (j.setCell ⟨i,2,none⟩ (.int .i64 d)) (n+1)):=(heap_setCell_other j ⟨i,2,none⟩ (n+1) _ b4.symm).trans aS.o;have ao:Hid (e+1<=(j.setCell ⟨i,2,none⟩ (.int .i64 d)).heap.size):=(by have:=ay.o;simp [Hid];omega);clear a8 aG aK aL aS
    go_wp2_with fail
    refine (V.o _).mono ?_;rintro aq wx ⟨rfl,rfl⟩;cases bs with
    | false=>
     have bz:Hid (Below n w (j.setCell ⟨i,2,none⟩ (.int .i64 d))):=bE.o.trans (aj.o.mono (by omega));have aB:=J9 (qmu bZ.o ah.o);clear bL bR bO V ae az aj;have aw:Hid (qbG ex L d g=none):=aB.o;obtain ⟨aa,ak,ai,am⟩:=aU.o.cells;have K:Hid (qa8 w m (qbG ex L d g) (.returned (.tuple #[.agg #[.string ⟨#[]⟩,.slice none 0 0],.bool false])) (((j.setCell ⟨i,2,none⟩ (.int .i64 d)).setCell ⟨n+1,0,none⟩ (.string ⟨#[]⟩)).setCell ⟨n+1,1,none⟩ (.slice none 0 0))):=by
      show qa8 w m (qbG ex L d g) _ _;rw [aw.o];refine ⟨rfl,?_⟩;rw [aA.o];exact (bz.o.setCell (p:=⟨n+1,0,none⟩) (by simp) _).setCell (p:=⟨n+1,1,none⟩) (by simp) _
     have ag:=J9 (aU.o.set ⟨#[]⟩ (.slice none 0 0));go_wp2;obtain ⟨T,U⟩:=ag.o;obtain ⟨bl,M⟩:=N9 ((((j.setCell ⟨i,2,none⟩ (.int .i64 d)).setCell ⟨n+1,0,none⟩ (.string ⟨#[]⟩)).setCell ⟨n+1,1,none⟩ (.slice none 0 0)));rw [M] at K T U |-;clear M aa ak ai am;refine bodyPost_ret (v:=.tuple #[.agg #[.string ⟨#[]⟩,.slice none 0 0],.bool false]) ?_ rfl K.o;simp [results,results104,go_sem,T,U]
    | true=>
     have a3:Hid (∀ k,k<b+1->okR ex L d g k=true):=fun k bA=>by
      by_cases aq:k=b
      ·rw [aq];exact ah.o
      ·exact a7.o k (by omega)
     have aR:Hid ((List.range (b+1)).map (stR ex L d g)=(List.range b).map (stR ex L d g)++[(J,G,d)]):=(by show _=_;rw [qiu,aD.o]);clear V;obtain ⟨-,bS⟩:=ae.o.cells;have a2:Hid (∀ h,Below (e+1) (j.setCell ⟨i,2,none⟩ (.int .i64 d)) h->Ri h e (sB m) (.slice x b y)/\Below e z h/\e+1<=h.heap.size):=fun h r=>⟨(r.block e (by omega)).trans ae.o,aj.o.trans (r.mono (by omega)),Qj ao.o r.size⟩
     go_wp2_with (at_builtin;refine qcy az.o ao.o rfl _ _ rfl rfl j.heap.size (by simp) rfl (J,G,d) b bC.o (by omega) ?_;intro q o h O r;obtain ⟨E,ad,ac⟩:=a2.o h r;rw [<- aR.o] at O;obtain ⟨a5,cc⟩:=E.cells;have b2:h.frozen? ⟨e,1,none⟩=false:=Qp E 1;have O:=J9 O;have E:=J9 E;have ad:=J9 ad;have ac:=J9 ac;clear r a5)
     have aP:Hid (Ri (h.setCell ⟨e,1,none⟩ (.slice q (b+1) o)) e (sB m) (.slice q (b+1) o)):=heap_setCell_same h e 1 _ _ _ E.o;have aZ:Hid (qaf (h.setCell ⟨e,1,none⟩ (.slice q (b+1) o)) (e+1) (.slice q (b+1) o) ((List.range (b+1)).map (stR ex L d g))):=row_set O.o (p:=⟨e,1,none⟩) (by simp) _;have aO:Hid (Below e z (h.setCell ⟨e,1,none⟩ (.slice q (b+1) o))):=ad.o.setCell (p:=⟨e,1,none⟩) (Qa _) _;have aV:Hid (e+1<=(h.setCell ⟨e,1,none⟩ (.slice q (b+1) o)).heap.size):=(by have aJ:=ac.o;simp [Hid] at aJ |-;omega);go_roundw
     case rel=>exact ⟨b+1,q,o,_,_,by omega,by go_num,rfl,rfl,aT.o,aY.o,a3.o,aP.o,aZ.o,aO.o,aV.o⟩
     case measure=>simp [intOf];omega
   all_goals
    have F:=af;have V:=(fun aX=>qdS (letR ex L b) g aX);have cy:j.frozen? ⟨i,2,none⟩=false:=Qp aM.o 2;have aD:Hid (stR ex L d g b=(J,G,g)):=(by show stR ex L d g b=_;unfold stR;rw [Qe (by rw [F];decide),Qe (by rw [F];decide),bF.o]);have ah:Hid (okR ex L d g b=withR (letR ex L b) g):=(by show okR ex L d g b=_;unfold okR;rw [aD.o,F];simp);have aT:Hid (p=qkk ex L d (b+1)):=(by show _=_;rw [qgA,F];rw [<- bm.o];simp);have aY:Hid (true=qkg ex L g (b+1)):=(by show _=_;rw [qf8,F];simp);obtain ⟨bs,a8⟩:=N9 (withR (letR ex L b) g);rw [a8] at ah V;rw [af] at V |-;simp only [UInt8.reduceToNat,Int.cast_ofNat_Int] at V |-;have V:=J9 V;have ae:Hid (Ri (j.setCell ⟨i,2,none⟩ (.int .i64 g)) e (sB m) (.slice x b y)):=(heap_setCell_other j ⟨i,2,none⟩ e _ bQ.symm).trans aG.o;have az:Hid (qaf (j.setCell ⟨i,2,none⟩ (.int .i64 g)) (e+1) (.slice x b y) ((List.range b).map (stR ex L d g))):=qcq aK.o (p:=⟨i,2,none⟩) bY.o _;have aj:Hid (Below e z (j.setCell ⟨i,2,none⟩ (.int .i64 g))):=aL.o.setCell (p:=⟨i,2,none⟩) (by have:=ay.o.1;simp;omega) _;have aU:Hid (Rz (j.setCell ⟨i,2,none⟩ (.int .i64 g)) (n+1)):=(heap_setCell_other j ⟨i,2,none⟩ (n+1) _ b4.symm).trans aS.o;have ao:Hid (e+1<=(j.setCell ⟨i,2,none⟩ (.int .i64 g)).heap.size):=(by have:=ay.o;simp [Hid];omega);clear a8 aG aK aL aS
    go_wp2_with fail
    refine (V.o _).mono ?_;rintro aq wx ⟨rfl,rfl⟩;cases bs with
    | false=>
     have bz:Hid (Below n w (j.setCell ⟨i,2,none⟩ (.int .i64 g))):=bE.o.trans (aj.o.mono (by omega));have aB:=J9 (qmu bZ.o ah.o);clear bL bR bO V ae az aj;have aw:Hid (qbG ex L d g=none):=aB.o;obtain ⟨aa,ak,ai,am⟩:=aU.o.cells;have K:Hid (qa8 w m (qbG ex L d g) (.returned (.tuple #[.agg #[.string ⟨#[]⟩,.slice none 0 0],.bool false])) (((j.setCell ⟨i,2,none⟩ (.int .i64 g)).setCell ⟨n+1,0,none⟩ (.string ⟨#[]⟩)).setCell ⟨n+1,1,none⟩ (.slice none 0 0))):=by
      show qa8 w m (qbG ex L d g) _ _;rw [aw.o];refine ⟨rfl,?_⟩;rw [aA.o];exact (bz.o.setCell (p:=⟨n+1,0,none⟩) (by simp) _).setCell (p:=⟨n+1,1,none⟩) (by simp) _
     have ag:=J9 (aU.o.set ⟨#[]⟩ (.slice none 0 0));go_wp2;obtain ⟨T,U⟩:=ag.o;obtain ⟨bl,M⟩:=N9 ((((j.setCell ⟨i,2,none⟩ (.int .i64 g)).setCell ⟨n+1,0,none⟩ (.string ⟨#[]⟩)).setCell ⟨n+1,1,none⟩ (.slice none 0 0)));rw [M] at K T U |-;clear M aa ak ai am;refine bodyPost_ret (v:=.tuple #[.agg #[.string ⟨#[]⟩,.slice none 0 0],.bool false]) ?_ rfl K.o;simp [results,results104,go_sem,T,U]
    | true=>
     have a3:Hid (∀ k,k<b+1->okR ex L d g k=true):=fun k bA=>by
      by_cases aq:k=b
      ·rw [aq];exact ah.o
      ·exact a7.o k (by omega)
     have aR:Hid ((List.range (b+1)).map (stR ex L d g)=(List.range b).map (stR ex L d g)++[(J,G,g)]):=(by show _=_;rw [qiu,aD.o]);clear V;obtain ⟨-,bS⟩:=ae.o.cells;have a2:Hid (∀ h,Below (e+1) (j.setCell ⟨i,2,none⟩ (.int .i64 g)) h->Ri h e (sB m) (.slice x b y)/\Below e z h/\e+1<=h.heap.size):=fun h r=>⟨(r.block e (by omega)).trans ae.o,aj.o.trans (r.mono (by omega)),Qj ao.o r.size⟩
     go_wp2_with (at_builtin;refine qcy az.o ao.o rfl _ _ rfl rfl j.heap.size (by simp) rfl (J,G,g) b bC.o (by omega) ?_;intro q o h O r;obtain ⟨E,ad,ac⟩:=a2.o h r;rw [<- aR.o] at O;obtain ⟨a5,cc⟩:=E.cells;have b2:h.frozen? ⟨e,1,none⟩=false:=Qp E 1;have O:=J9 O;have E:=J9 E;have ad:=J9 ad;have ac:=J9 ac;clear r a5)
     have aP:Hid (Ri (h.setCell ⟨e,1,none⟩ (.slice q (b+1) o)) e (sB m) (.slice q (b+1) o)):=heap_setCell_same h e 1 _ _ _ E.o;have aZ:Hid (qaf (h.setCell ⟨e,1,none⟩ (.slice q (b+1) o)) (e+1) (.slice q (b+1) o) ((List.range (b+1)).map (stR ex L d g))):=row_set O.o (p:=⟨e,1,none⟩) (by simp) _;have aO:Hid (Below e z (h.setCell ⟨e,1,none⟩ (.slice q (b+1) o))):=ad.o.setCell (p:=⟨e,1,none⟩) (Qa _) _;have aV:Hid (e+1<=(h.setCell ⟨e,1,none⟩ (.slice q (b+1) o)).heap.size):=(by have aJ:=ac.o;simp [Hid] at aJ |-;omega);go_roundw
     case rel=>exact ⟨b+1,q,o,_,_,by omega,by go_num,rfl,rfl,aT.o,aY.o,a3.o,aP.o,aZ.o,aO.o,aV.o⟩
     case measure=>simp [intOf];omega
  ·obtain rfl:b=l:=by omega
   have cu:=ar.o;have br:Hid (∀ k,k<L.length->okR ex L d g k=true):=(fun k bA=>a7.o k (by have:=aH.o;omega));obtain ⟨Z,bu⟩:=aE.o.cells;have aW:Hid (p=qkk ex L d L.length):=(by show _=_;rw [aH.o];exact bm.o);have a0:Hid (aC=qkg ex L g L.length):=(by show _=_;rw [aH.o];exact bf.o);have bd:=ar;clear cu bm bf a7;cases p with
   | false=>
    have aB:=J9 (qpy (n:=g) aW.o.symm);clear aW a0 Z bu ar aE bd br;have aw:Hid (qbG ex L d g=none):=aB.o;obtain ⟨aa,ak,ai,am⟩:=av.o.cells;have K:Hid (qa8 w m (qbG ex L d g) (.returned (.tuple #[.agg #[.string ⟨#[]⟩,.slice none 0 0],.bool false])) ((wr.setCell ⟨n+1,0,none⟩ (.string ⟨#[]⟩)).setCell ⟨n+1,1,none⟩ (.slice none 0 0))):=by
     show qa8 w m (qbG ex L d g) _ _;rw [aw.o];refine ⟨rfl,?_⟩;rw [aA.o];exact (a4.o.setCell (p:=⟨n+1,0,none⟩) (by simp) _).setCell (p:=⟨n+1,1,none⟩) (by simp) _
    have ag:=J9 (av.o.set ⟨#[]⟩ (.slice none 0 0));go_wp2;obtain ⟨T,U⟩:=ag.o;obtain ⟨bl,M⟩:=N9 (((wr.setCell ⟨n+1,0,none⟩ (.string ⟨#[]⟩)).setCell ⟨n+1,1,none⟩ (.slice none 0 0)));rw [M] at K T U |-;clear M aa ak ai am;refine bodyPost_ret (v:=.tuple #[.agg #[.string ⟨#[]⟩,.slice none 0 0],.bool false]) ?_ rfl K.o;simp [results,results104,go_sem,T,U]
   | true=>
    cases aC with
    | false=>
     have aB:=J9 (qqo (d:=d) a0.o.symm);clear aW a0 Z bu ar aE bd br;have aw:Hid (qbG ex L d g=none):=aB.o;obtain ⟨aa,ak,ai,am⟩:=av.o.cells;have K:Hid (qa8 w m (qbG ex L d g) (.returned (.tuple #[.agg #[.string ⟨#[]⟩,.slice none 0 0],.bool false])) ((wr.setCell ⟨n+1,0,none⟩ (.string ⟨#[]⟩)).setCell ⟨n+1,1,none⟩ (.slice none 0 0))):=by
      show qa8 w m (qbG ex L d g) _ _;rw [aw.o];refine ⟨rfl,?_⟩;rw [aA.o];exact (a4.o.setCell (p:=⟨n+1,0,none⟩) (by simp) _).setCell (p:=⟨n+1,1,none⟩) (by simp) _
     have ag:=J9 (av.o.set ⟨#[]⟩ (.slice none 0 0));go_wp2;obtain ⟨T,U⟩:=ag.o;obtain ⟨bl,M⟩:=N9 (((wr.setCell ⟨n+1,0,none⟩ (.string ⟨#[]⟩)).setCell ⟨n+1,1,none⟩ (.slice none 0 0)));rw [M] at K T U |-;clear M aa ak ai am;refine bodyPost_ret (v:=.tuple #[.agg #[.string ⟨#[]⟩,.slice none 0 0],.bool false]) ?_ rfl K.o;simp [results,results104,go_sem,T,U]
    | true=>
     have ch:=J9 (qqe br.o aW.o.symm a0.o.symm);have K:Hid (qa8 w m (qbG ex L d g) (.returned (.tuple #[.agg #[.string (sB m),.slice x b y],.bool true])) ((wr.setCell ⟨n+1,0,none⟩ (.string (sB m))).setCell ⟨n+1,1,none⟩ (.slice x b y))):=by
      show qa8 w m (qbG ex L d g) _ _;rw [ch.o,aH.o];refine ⟨_,rfl,?_,?_⟩
      ·rw [aA.o]
       exact row_mono (row_set (row_set bd.o (p:=⟨n+1,0,none⟩) (by simp;omega) _) (p:=⟨n+1,1,none⟩) (by simp;omega) _) (by omega)
      ·rw [aA.o]
       exact (a4.o.setCell (p:=⟨n+1,0,none⟩) (by simp) _).setCell (p:=⟨n+1,1,none⟩) (by simp) _
     obtain ⟨aa,ak,ai,am⟩:=av.o.cells;have ag:=J9 (av.o.set (sB m) (.slice x b y));clear aW a0 ar aE bd br ch;go_wp2;obtain ⟨T,U⟩:=ag.o;obtain ⟨bl,M⟩:=N9 (((wr.setCell ⟨n+1,0,none⟩ (.string (sB m))).setCell ⟨n+1,1,none⟩ (.slice x b y)));rw [M] at K T U |-;clear M aa ak ai am Z bu;refine bodyPost_ret (v:=.tuple #[.agg #[.string (sB m),.slice x b y],.bool true]) ?_ rfl K.o;simp [results,results104,go_sem,T,U]
end Go.Proofs.YtecpnfhpcamljaaGreatDoor
namespace Go.Proofs.YtecpnfhpcamljaaGreatDoor
open Tryz
open Go.RowKit Go.Shelf
theorem qk9 (w:World):Calls prog 144 #[.int .i64 1] w (qkC w [203]):=by
 have h:=J9 (qbn w [203] (by decide))
 go_enter func144,ntmps144
 go_wp2;go_ret;exact ⟨_,rfl,h.o,B0⟩
theorem qlw (w:World):Calls prog 144 #[.int .i64 2] w (qkC w [237]):=by
 have h:=J9 (qbn w [237] (by decide))
 go_enter func144,ntmps144
 go_wp2;go_ret;exact ⟨_,rfl,h.o,B0⟩
theorem qkv (w:World):Calls prog 144 #[.int .i64 3] w (qkC w [221]):=by
 have h:=J9 (qbn w [221] (by decide))
 go_enter func144,ntmps144
 go_wp2;go_ret;exact ⟨_,rfl,h.o,B0⟩
theorem qkw (w:World):Calls prog 144 #[.int .i64 4] w (qkC w [253]):=by
 have h:=J9 (qbn w [253] (by decide))
 go_enter func144,ntmps144
 go_wp2;go_ret;exact ⟨_,rfl,h.o,B0⟩
theorem qkJ (w:World):Calls prog 144 #[.int .i64 5] w (qkC w [221,203]):=by
 have h:=J9 (qbn w [221,203] (by decide))
 go_enter func144,ntmps144
 go_wp2;go_ret;exact ⟨_,rfl,h.o,B0⟩
theorem qlC (w:World):Calls prog 144 #[.int .i64 6] w (qkC w [253,203]):=by
 have h:=J9 (qbn w [253,203] (by decide))
 go_enter func144,ntmps144
 go_wp2;go_ret;exact ⟨_,rfl,h.o,B0⟩
theorem qhZ (h:Int) (w:World):Calls prog 144 #[.int .i64 h] w (qkC w (qaM h)):=by
 unfold qaM;by_cases q:h=1
 ·rw [Qi q];subst q;exact qk9 w
 by_cases y:h=2
 ·rw [Qe q,Qi y];subst y;exact qlw w
 by_cases z:h=3
 ·rw [Qe q,Qe y,Qi z];subst z;exact qkv w
 by_cases E:h=4
 ·rw [Qe q,Qe y,Qe z,Qi E];subst E;exact qkw w
 by_cases G:h=5
 ·rw [Qe q,Qe y,Qe z,Qe E,Qi G];subst G;exact qkJ w
 by_cases J:h=6
 ·rw [Qe q,Qe y,Qe z,Qe E,Qe G,Qi J];subst J;exact qlC w
 rw [Qe q,Qe y,Qe z,Qe E,Qe G,Qe J];have U:(h == 1)=false:=by simpa using q
 have K:(h == 2)=false:=by simpa using y
 have M:(h == 3)=false:=by simpa using z
 have V:(h == 4)=false:=by simpa using E
 have O:(h == 5)=false:=by simpa using G
 have T:(h == 6)=false:=by simpa using J
 clear q y z E G J
 go_enter func144,ntmps144
 go_wp2;go_ret;exact ⟨_,rfl,Zm _ _ _ _,Qc _ _⟩
theorem BytesAt.at_ {w:World} {A:Option Addr} {L:Str} (y:BytesAt w A L) {k:Nat} (q:k<L.length):∃ h b,A=some ⟨h,b,none⟩/\w.cell? ⟨h,b+k,none⟩=some (.int .u8 (L[k].toNat:Int)):=by
 rcases y with rfl | ⟨h,b,rfl,z⟩
 ·simp at q
 ·exact ⟨h,b,rfl,z k q⟩
end Go.Proofs.YtecpnfhpcamljaaGreatDoor
namespace Go.Proofs.YtecpnfhpcamljaaGreatDoor
open Tryz
open Go.RowKit Go.Shelf
attribute [local go_sem] Oper.semAt_some
end Go.Proofs.YtecpnfhpcamljaaGreatDoor
