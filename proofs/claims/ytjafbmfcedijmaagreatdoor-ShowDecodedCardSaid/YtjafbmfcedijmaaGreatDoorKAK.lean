/-
  SeXqRSK, CnKqRSK, SeRhqRSK, TbYqRSK, DfBqRSK, DgAqRSK, DfAqRSK, DgBqRSK, DfCqRSK, DgEqRSK, MixEqRSK, DgGqRSK, DgHqRSK, ShpqRSK.
-/
import Derived.Test.YtjafbmfcedijmaaGreatDoorKAJ
import Derived.Shelf.Vars
set_option linter.all false
set_option maxRecDepth 100000
set_option maxHeartbeats 4000000
namespace Go.Proofs.YtjafbmfcedijmaaGreatDoor
open Tryz
open Go.RowKit Go.Shelf
attribute [local go_sem] Oper.semAt_some
def sT (s:ByteArray):Str:=s.data.toList
theorem qv5 (s:ByteArray):sB (sT s)=s:=by
 obtain ⟨d⟩:=s;show (⟨d.toList.toArray⟩:ByteArray)=⟨d⟩;rw [Array.toArray_toList]
theorem qAS (s:ByteArray):(sT s).length=s.size:=by unfold sT;rw [Zh];rfl
def legB (s:ByteArray) (L:List Tr):Bool:=(qd8 (sT s) (canL (opc s) L)).isSome
theorem quK (h:Str) (I C:List Tr):codeF h I C≠0:=by
 unfold codeF;split
 ·assumption
 ·split <;> decide
theorem qqQ {s:ByteArray} {L:List Tr} {k:Ke} (h:qd8 (sT s) (canL (opc s) L)=some k):legB s L=true:=by unfold legB;rw [h];rfl
theorem qtj {s:ByteArray} {L:List Tr} (h:qd8 (sT s) (canL (opc s) L)=none):legB s L=false:=by unfold legB;rw [h];rfl
theorem qo2 (s:ByteArray) (G:s.size<=1000) (y:Option Addr) (E h:Nat) (I:List Tr) (K:I.length=h) (O:h<=900) (w:World) (M:qac w) (J:qaj w y I) :
  Calls prog 107 #[.agg #[.string s,.slice y h E]] w (qjn w (sT s) I (qd8 (sT s) (canL (opc s) I))):=by
 have z:=qs0 (sT s) (by rw [qAS];exact G) y E h I K O w M J;rw [qv5] at z;exact z
theorem qkG (A:Option Addr) (cap n:Nat) (e:List Ie) (av:e.length=n) (aO:n<=1000) (ai:∀ r∈e,r.s.size<=1000/\r.L.length<=900) (w:World) (ax:qac w) (H:qwy w A e) :
  Calls prog 67 #[.slice A n cap] w fun O aE=>O=.returned (.bool (e.all fun r=>legB r.s r.L))/\Below w.heap.size w aE:=by
 have aD:=J9 H;have ar:=J9 av;have aJ:=J9 ax;have HR:=J9 ai;clear H ax av ai
 go_enter func67,ntmps67
 go_wp2
 go_loopw [9] (fun af wr=>∃ h:Nat,h<=n/\af=.int .i64 h/\Hid (∀ c (T:c<e.length),c<h->legB e[c].s e[c].L=true)/\Hid (Below w.heap.size w wr)) (fun af _=>n - (intOf af).toNat)
 case atStart=>exact ⟨0,Qs _,rfl,fun c T aF=>by omega,Qc _ _⟩
 case round=>
  obtain ⟨h,aX,rfl,R1,o⟩:=hrel;by_cases aS:h<n
  ·have E:h<e.length:=by have:=ar.o;omega
   obtain ⟨aP,aQ,rfl,az,aa,G⟩:=(aD.o.below o.o).at_ E;have i:=HR.o _ (QB E);have ap:Hid (∀ r:Ie,e[h]=r->legB r.s r.L=true->∀ c (T:c<e.length),c<h+1->legB e[c].s e[c].L=true):=fun r X ac c T aF=>by
    by_cases O:c=h
    ·subst O
     rw [X];exact ac
    ·exact R1.o c T (by omega)
   have aj:Hid (∀ r:Ie,e[h]=r->legB r.s r.L=false->(e.all fun r=>legB r.s r.L)=false):=fun r X ac=>by
    refine List.all_eq_false.2 ⟨r,X ▸ QB E,?_⟩;rw [ac];decide
   obtain ⟨r,K⟩:=N9 (e[h]);have J:=J9 (ap.o r K);have M:=J9 (aj.o r K);clear ap aj;rw [K] at az aa G i;obtain ⟨s,an,ak,j⟩:=r;simp only [Ie.v] at az aa G i;simp only at J M;obtain ⟨ao,ae⟩:=N9 (j.length);rw [ae] at aa i;obtain ⟨aH,aI⟩:=N9 (wr.heap.size);obtain ⟨ay,a2,ab,Z,aG⟩:=qjT wr s (.slice an ao ak) aH aI;have y:=J9 (o.o.trans (Z.mono o.o.size));have au:qac ay:=aJ.o.below y.o;have R:=qo2 s i.1 an ak ao j ae i.2 ay au (G.below Z);have aW:=C9 ab 0;have aR:=C9 ab 1;obtain ⟨B,ad⟩:=N9 (qd8 (sT s) (canL (opc s) j));rw [ad] at R;have ah:=J9 ad;clear K E ab Z aG G i au o ad R1 ae
   go_wp2_with fail
   refine R.mono ?_;rintro O aN aq;cases B with
   | some c=>
    obtain ⟨aY,aL,rfl,aC,z⟩:=aq;have k:=J9 (y.o.trans (z.mono y.o.size));have V:=(fun B=>J9 (k.o.alloc k.o.size B));have R2:=J9 (J.o (qqQ ah.o));obtain ⟨aV,a0,aM,aA,aU,a1⟩:=c;obtain ⟨aT,am⟩:=N9 (aA.length);simp only [enV,am];clear R z aC J M am;go_wp2;go_roundw
    case rel=>exact ⟨h+1,by omega,by go_num,R2.o,(V _).o⟩
    case measure=>simp [intOf];omega
   | none=>
    obtain ⟨rfl,z⟩:=aq;have k:=J9 (y.o.trans (z.mono y.o.size));have V:=(fun B=>J9 (k.o.alloc k.o.size B));have U:=J9 (M.o (qtj ah.o)).symm;have ag:=quK (sT s) j (canL (opc (sB (sT s))) j);obtain ⟨aB,aw⟩:=N9 (codeF (sT s) j (canL (opc (sB (sT s))) j));rw [aw] at ag |-;have aZ:(aB == 0)=false:=Qj.2 ag;simp only [enV];clear R z J M aw ag;go_wp2;go_ret;exact ⟨qaa U.o,(V _).o⟩
  ·have U:Hid (true=e.all fun r=>legB r.s r.L):=by
    refine (QR.2 fun r i=>?_).symm;obtain ⟨c,aK,rfl⟩:=Zg i;exact R1.o c aK (by have:=ar.o;omega)
   clear R1;go_wp2;go_ret;exact ⟨qaa U.o,o.o⟩
end Go.Proofs.YtjafbmfcedijmaaGreatDoor
namespace Go.Proofs.YtjafbmfcedijmaaGreatDoor
open Tryz
open Go.RowKit
theorem qby {s:ByteArray} {L:List Tr} (h:qa6 s L=0):knB s=true/\L.length<=3/\∀ t∈L,vT t=true:=by
 unfold qa6 at h;split at h
 ·cases h
 ·rename_i E
  split at h
  ·cases h
  ·rename_i G
   split at h
   ·rename_i y
    exact ⟨by simpa using E,by omega,fun t z=>QR.1 y t z⟩
   ·cases h
theorem qBQ {c:Nat} {L:List Tr} {u:Tr} (h:u∈exL c (accL c L)):u∈L\/u=qb4\/u=hlT\/u=deT:=by
 have e:u∈accL c L\/u=hlT\/u=deT:=by
  unfold exL at h;split at h
  ·rcases QI.1 h with y | h
   ·exact .inr (.inr y)
   ·exact .inr (.inl (QA.1 h))
  ·exact .inl h
 rcases e with e | e | e
 ·unfold accL at e
  split at e
  ·exact .inl (List.mem_of_mem_tail e)
  ·split at e
   ·rcases QI.1 e with y | h
    ·exact .inr (.inl y)
    ·exact .inl h
   ·exact .inl e
 ·exact .inr (.inr (.inl e))
 ·exact .inr (.inr (.inr e))
theorem qBn:vT qb4=true:=by decide +kernel
theorem qDn:vT hlT=true:=by decide +kernel
theorem qDa:vT deT=true:=by decide +kernel
theorem qB2 {c:Nat} {s:ByteArray} {L:List Tr} (h:qa6 s L=0) {u:Tr} (y:u∈exL c (accL c L)):vT u=true:=by
 rcases qBQ y with z | rfl | rfl | rfl
 ·exact (qby h).2.2 u z
 ·exact qBn
 ·exact qDn
 ·exact qDa
theorem qDV {t:Tr} (a:vT t=true) (h:t.1=6):t.2.1=0/\-32768<=t.2.2/\t.2.2<=65535:=by
 obtain ⟨n,y,r⟩:=t;simp only at h;subst h;unfold vT at a;simp only [quO] at a;simp only [Qh,beq_iff_eq,Ql] at a;exact ⟨a.1,a.2.1,a.2.2⟩
theorem qxF {t:Tr} (w:Int) (y:vT t=true):vT (wrapT (qfv w) t)=true:=by
 by_cases e:t.1=6/\-(qfv w / 2)<=t.2.2/\t.2.2<0
 ·obtain ⟨z,J,G⟩:=qDV y e.1
  have h:wrapT (qfv w) t=(t.1,t.2.1,t.2.2+qfv w):=by unfold wrapT;rw [Qk e]
  rw [h,e.1];unfold vT;simp only [quO,Qh,beq_iff_eq,Ql];obtain ⟨-,E,K⟩:=e;refine ⟨z,?_,?_⟩ <;> rcases qh6 w with q | q | q <;> rw [q] at E |- <;> omega
 ·have h:wrapT (qfv w) t=t:=by unfold wrapT;rw [Qd e]
  rw [h];exact y
theorem qu4 {c:Nat} {L:List Tr} (h:L.length<=3):(canL c L).length<=3:=by
 unfold canL;rw [QM,qiQ];unfold accL;split
 ·rw [List.length_tail];omega
 ·split
  ·simp only [Qv];omega
  ·exact h
theorem qky {s:ByteArray} {L:List Tr} (e:qa6 s L=0):qa6 s (canL (opc s) L)=0:=by
 obtain ⟨z,y,E⟩:=qby e;refine (qqS s _ z (by have:=qu4 (c:=opc s) y;omega) fun G K h=>?_).symm;have a:=QB h;unfold canL at a;rw [List.mem_map] at a;obtain ⟨J,u,k⟩:=a;have:=qxF (qdc (opc s) L) (qB2 e u);rw [k] at this;exact this
end Go.Proofs.YtjafbmfcedijmaaGreatDoor
namespace Go.Proofs.YtjafbmfcedijmaaGreatDoor
open Tryz
open Go.RowKit Go.Shelf
theorem qBg {a b:Tr} (h:ks2 a=ks2 b) (k:vT a=true) (n:loK b.1.toNat<=b.2.2/\b.2.2<=hiK b.1.toNat):vT b=true:=by
 obtain ⟨E,z,y⟩:=a;obtain ⟨G,J,r⟩:=b;unfold ks2 at h;simp only [Zq] at h;obtain ⟨rfl,rfl⟩:=h;unfold vT qaT at k |-;simp only [Qh,Ql] at k |- n;exact ⟨k.1,n⟩
theorem qr8 {a:Tr} (h:vT a=true):loK a.1.toNat<=a.2.2/\a.2.2<=hiK a.1.toNat:=by
 obtain ⟨r,n,k⟩:=a;unfold vT qaT at h;simp only [Qh,Ql] at h;exact h.2
theorem qv2 {c:UInt8} {n:Int} (h:withR c n=true):(rangeR c).1<=n/\n<=(rangeR c).2:=by
 unfold withR at h;unfold rangeR;by_cases z:c=100\/c=101
 ·rw [Qk z] at h |-
  simp only [Qh,Ql] at h;exact h
 ·rw [Qd z] at h |-
  by_cases y:c=110
  ·rw [Qk y] at h |-
   simp only [Qh,Ql] at h;exact h
  ·rw [Qd y] at h |-
   simp only [Qh,Ql] at h;exact h
theorem qsy {A B:List Tr} (y:A.map ks2=B.map ks2) {k:Nat} (h:k<B.length):ks2 (A.getD k tr0)=ks2 (B.getD k tr0):=by
 have E:A.length=B.length:=by have:=congrArg List.length y;simpa using this
 have z:(A.map ks2)[k]?=(B.map ks2)[k]?:=by rw [y]
 rw [Za,Za,Qi h,Qi (by omega)] at z;rw [Qo,Qo,Qi h,Qi (by omega)];exact Qw z
theorem qfL {k:Ke} (ok:OkS k) {s:ByteArray} {C:List Tr} (J:qa3 k.2.2.1 k.2.2.2.1 k.2.2.2.2.1 s C=true):∀ K∈C,vT K=true:=by
 intro K ab;unfold qa3 qfU at J;simp only [Qh,Ql,QR,QW] at J;obtain ⟨⟨-,M⟩,Z⟩:=J;obtain ⟨j,t,rfl⟩:=Zg ab;have ad:k.2.2.2.1.length=C.length:=by have:=congrArg List.length M;simpa using this
 have y:=qsy M t;have O:C.getD j tr0=C[j]:=by rw [Qo,Qi t];rfl
 have G:k.2.2.2.1.getD j tr0=k.2.2.2.1[j]'(by omega):=by rw [Qo,Qi (by omega)];rfl
 have U:=(qby ok.code).2.2 _ (QB (l:=k.2.2.2.1) (n:=j) (by omega));have q:=Z j t;have h:=ok.rng;unfold qC1 at h;have h:=QR.1 h j (QW.2 (by omega));rw [O,G] at y;rw [G] at h;have aa:(k.2.2.2.1[j]'(by omega)).1=C[j].1:=congrArg (fun V:Int×Int=>V.1) y;unfold qhV at q;rw [O,G] at q;refine qBg y U ?_;have z:=qr8 U;rw [aa] at z h;by_cases E:letR k.2.2.2.2.1 k.2.2.2.1 j=0
 ·rw [Qk E,Ql] at q
  rw [q] at z;exact z
 ·rw [Qd E] at q
  have ac:=qv2 q;simp only [Zp,beq_iff_eq,Qh,Ql] at h;rcases h with h | h
  ·exact absurd h E
  ·omega
theorem qp0 {v:Int} (G:v=256\/v=65536\/v=0) {t:Tr} (h:vT (wrapT v t)=true):vT t=true:=by
 unfold wrapT at h;by_cases k:t.1=6/\-(v / 2)<=t.2.2/\t.2.2<0
 ·rw [Qk k] at h
  obtain ⟨E,r,n⟩:=t;simp only at k;obtain ⟨rfl,K,J⟩:=k;refine qBg (a:=(6,r,n+v)) rfl h ?_;have z:loK (6:Int).toNat=-32768:=rfl;have y:hiK (6:Int).toNat=65535:=rfl;simp only [z,y];omega
 ·rw [Qd k] at h
  exact h
theorem qBT {c:Nat} {L:List Tr} {t:Tr} (h:t∈L):t∈exL c L:=by
 unfold exL;split
 ·rename_i y
  obtain ⟨-,rfl⟩:=y;simp only [QI,Q8,or_false] at h |-;exact h.symm
 ·exact h
theorem qrW {c:Nat} {L:List Tr} (a:∀ t∈accL c L,vT t=true):∀ t∈L,vT t=true:=by
 intro t e;unfold accL at a;by_cases h:c=1/\L.length=2/\L.head?=some qb4
 ·rw [Qk h] at a
  cases L with
  | nil=>cases e
  | cons z L=>
   obtain ⟨-,-,E⟩:=h;obtain rfl:z=qb4:=Qw E;rcases QI.1 e with rfl | e
   ·decide +kernel
   ·exact a t e
 ·rw [Qd h] at a
  by_cases y:c=2/\L.length=1
  ·rw [Qk y] at a
   exact a t (QZ _ e)
  ·rw [Qd y] at a
   exact a t e
theorem qrv {c:Nat} {L:List Tr} (h:(accL c L).length<=3):L.length<=3:=by
 unfold accL at h;by_cases z:c=1/\L.length=2/\L.head?=some qb4
 ·omega
 ·rw [Qd z] at h
  by_cases y:c=2/\L.length=1
  ·omega
  ·rw [Qd y] at h
   exact h
theorem qqA {c:Nat} {L:List Tr} (h:∀ t∈canL c L,vT t=true):∀ t∈L,vT t=true:=by
 refine qrW (c:=c) fun t y=>?_
 have z:=h (wrapT (qfv (qdc c L)) t) (by unfold canL;exact List.mem_map_of_mem (qBT y));exact qp0 (qh6 _) z
theorem qnM {s:ByteArray} {I:List Tr} (y:knB s=true) (h:(canL (opc s) I).length<=3) (z:∀ t∈canL (opc s) I,vT t=true):qa6 s I=0:=by
 have E:I.length<=3:=qrv (c:=opc s) (by unfold canL at h;rw [QM,qiQ] at h;exact h);unfold qa6;rw [Qd (by simp [y]),Qd (by omega),Qk (QR.2 (qqA z))]
theorem qjV {A B:List Tr} (y:A.map ks2=B.map ks2):A.any qgi=B.any qgi:=by
 have h:∀ e:List Tr,e.any qgi=(e.map ks2).any fun q=>qgi (q.1,q.2,0):=fun e=>by rw [List.any_map];rfl
 rw [h,h,y]
theorem qvp {A B:List Tr} (y:A.map ks2=B.map ks2):qx8 A=qx8 B:=by
 have e:∀ a:List Tr,qx8 a=(a.map ks2).foldl (fun q h=>max q (ixT (h.1,h.2,0))) 0:=fun a=>by rw [List.foldl_map];rfl
 rw [e,e,y]
theorem qnh:∀ (L:List Tr) (a:Int),(∀ t∈L,vT t=true)->L.foldl (fun a t=>max a (qkY t.1 t.2.1 t.2.2)) a=L.foldl (fun a t=>max a (ixT t)) a
 | [],_,_=>rfl
 | t :: L,a,h=>by
  rw [List.foldl_cons,List.foldl_cons,qxl (h t (QY ..))];exact qnh L _ fun u y=>h u (QZ _ y)
theorem qB5 {C:List Tr} (h:∀ t∈C,vT t=true):ixC C=qx8 C:=by
 unfold ixC ixF qx8;rw [List.take_length];exact qnh C 0 h
theorem qzx (m:Str):sT (sB m)=m:=by unfold sT sB;simp
theorem qbF (s:ByteArray) (I:List Tr):legB s I=true↔qfi s I (canL (opc s) I):=by
 obtain ⟨J,C⟩:=N9 (canL (opc s) I);constructor
 ·intro n
  unfold legB at n;rw [C] at n |-;obtain ⟨h,ac⟩:=Option.isSome_iff_exists.1 n;unfold qd8 qlg at ac;have O:=List.find?_some ac;have aa:=Zw ac;obtain ⟨aa,ag⟩:=List.mem_filter.1 aa;obtain ⟨E,ad,z,aj⟩:=qsz aa;have ok:=E.ok;have y:qa3 h.2.2.1 h.2.2.2.1 h.2.2.2.2.1 s J=true:=by
   unfold qqM at O;rw [qjB ok.places,qv5] at O;exact O
  have an:=qfL ok y;have ap:h.2.2.2.1.length=J.length:=by have:=congrArg List.length z;simpa using this
  have aq:=ok.len;have am:knB s=true:=by
   have:=(qby ok.code).1;rw [ad,qv5] at this;exact this
  have U:qa6 s I=0:=qnM am (by rw [C];omega) (by rw [C];exact an);have ae:h.2.2.2.2.2=false:=by unfold qga at ag;simpa using ag
  have Z:=ok.fst;rw [qjV z] at Z;have af:=ok.lo;have ah:=ok.hi;obtain ⟨G,ab,ar,K⟩:=E;refine ⟨U,h.1,G,?_,?_,ab,(h.2.2.1,h.2.2.2.1,h.2.2.2.2.1,h.2.2.2.2.2),K,ae,y⟩
  ·unfold qlE
   rw [Z];by_cases n:3<=h.1
   ·simp [n]
   ·simp [n];omega
  ·unfold quq
   rw [Z];by_cases n:3<=h.1
   ·simp [n];omega
   ·simp [n];omega
 ·rintro ⟨U,k,G,-,-,ab,x,K,ae,y⟩
  have E:qcU (k,(G:Int),x.1,x.2.1,x.2.2.1,x.2.2.2):=⟨G,ab,rfl,K⟩;have ok:=E.ok;have ai:=qby (qky U);rw [C] at ai y;have V:=y;unfold qa3 qfU at V;simp only [Qh,Ql] at V;obtain ⟨⟨ad,z⟩,-⟩:=V;have M:=ok.ix;rw [qvp z,<- qB5 ai.2.2] at M;have af:=ok.lo;have ah:=ok.hi;simp only at M af ah;have aj:k∈qbG J:=by
   unfold qbG;rw [M];unfold qDz;have ao:k=0\/k=1\/k=2\/k=3\/k=4\/k=5\/k=6:=(by omega);rcases ao with rfl | rfl | rfl | rfl | rfl | rfl | rfl <;> decide
  have ak:(k,(G:Int),x.1,x.2.1,x.2.2.1,x.2.2.2)∈candK (sT s) J:=qyO E (by rw [<- ad,qzx]) z aj;unfold legB qd8 qlg;rw [C,List.find?_isSome];refine ⟨_,List.mem_filter.2 ⟨ak,by unfold qga;simp [ae]⟩,?_⟩;unfold qqM;rw [qjB ok.places,qv5];exact y
theorem BytesAt.at_ {w:World} {A:Option Addr} {L:Str} (E:BytesAt w A L) {k:Nat} (y:k<L.length):∃ b h,A=some ⟨b,h,none⟩/\w.cell? ⟨b,h+k,none⟩=some (.int .u8 (L[k].toNat:Int)):=by
 rcases E with rfl | ⟨b,h,rfl,z⟩
 ·simp at y
 ·exact ⟨b,h,rfl,z k y⟩
end Go.Proofs.YtjafbmfcedijmaaGreatDoor
namespace Go.Proofs.YtjafbmfcedijmaaGreatDoor
open Tryz
open Go.RowKit
def qa1 (c:UInt8) (t:Str) (s:Int×Int):Int×Int:=
 if c=100 then (sgB (t.getD 0 0),s.2) else if c=101 then (s.1,sgB (t.getD 0 0)) else if c=110 then (s.1,((t.getD 0 0).toNat:Int)) else if c=119 then (s.1,((t.getD 0 0).toNat:Int)+256*((t.getD 1 0).toNat:Int)) else s
def mS (s0:Int×Int) (ex:Str) (b:Str) (k:Nat):Nat->Int×Int
 | 0=>s0
 | j+1=>qa1 (ex.getD j 0) (b.drop (k+qc8 ex j)) (mS s0 ex b k j)
theorem qzc (s0:Int×Int) {ex:Str} (b:Str) (k:Nat) {j:Nat} (h:j<ex.length):mS s0 ex b k (j+1)=qa1 ex[j] (b.drop (k+qc8 ex j)) (mS s0 ex b k j):=by
 show qa1 (ex.getD j 0) _ _=_;rw [Qo,Qi h];rfl
end Go.Proofs.YtjafbmfcedijmaaGreatDoor
namespace Go.Proofs.YtjafbmfcedijmaaGreatDoor
open Tryz
open Go.RowKit Go.Shelf
attribute [local go_sem] Oper.semAt_some
def qar (w:World) (b:Nat) (kind:Int) (va:Value) (s:ByteArray) (vb:Value) (al:Bool):Prop:=w.heap[b]?=some (.cells #[.int .i64 kind,va,.string s,vb,.bool al] 50 (0,0))
section
variable {w w':World} {b:Nat} {kind:Int} {va vb:Value} {s:ByteArray} {al:Bool}
theorem qar.lt (h:qar w b kind va s vb al):b<w.heap.size:=(Qb.1 h).1
theorem qar.all (h:qar w b kind va s vb al) (y:Below w.heap.size w w'):qar w' b kind va s vb al:=(y.block b h.lt).trans h
theorem qar.cells (h:qar w b kind va s vb al):w.cell? ⟨b,0,none⟩=some (.int .i64 kind)/\w.cell? ⟨b,1,none⟩=some va/\w.cell? ⟨b,2,none⟩=some (.string s)/\w.cell? ⟨b,3,none⟩=some vb/\w.cell? ⟨b,4,none⟩=some (.bool al)/\∀ i,w.frozen? ⟨b,i,none⟩=false:=
 ⟨C9 h 0,C9 h 1,C9 h 2,C9 h 3,C9 h 4,fun i=>Qr h i⟩
theorem qar.put (V:qar w b kind va s vb al) (J:Int) (M:Value) (G:ByteArray) (E:Value) (K:Bool) :
  ∃ w',((((w.setCell ⟨b,0,none⟩ (.int .i64 J)).setCell ⟨b,1,none⟩ M).setCell ⟨b,2,none⟩ (.string G)).setCell ⟨b,3,none⟩ E).setCell ⟨b,4,none⟩ (.bool K)=w'/\
   qar w' b J M G E K/\Below b w w'/\w'.heap.size=w.heap.size/\(∀ B u L,b<B->qah w B u L->qah w' B u L)/\(∀ B u L,b<B->qap w B u L->qap w' B u L)/\∀ k,k≠b->w'.heap[k]?=w.heap[k]?:=by
 refine ⟨_,rfl,?_,?_,by simp,fun B u L h z=>?_,fun B u L h z=>?_,fun k y=>?_⟩
 ·have aa:=heap_setCell_same w b 0 _ _ (.int .i64 J) V
  have Z:=heap_setCell_same _ b 1 _ _ M aa;have O:=heap_setCell_same _ b 2 _ _ (.string G) Z;have U:=heap_setCell_same _ b 3 _ _ E O;exact heap_setCell_same _ b 4 _ _ (.bool K) U
 ·exact (((((Qc b w).setCell (p:=⟨b,0,none⟩) (Qa _) _).setCell (p:=⟨b,1,none⟩) (Qa _) _).setCell (p:=⟨b,2,none⟩) (Qa _) _).setCell (p:=⟨b,3,none⟩) (Qa _) _).setCell (p:=⟨b,4,none⟩) (Qa _) _
 ·exact row_set (row_set (row_set (row_set (row_set z (p:=⟨b,0,none⟩) h _) (p:=⟨b,1,none⟩) h _) (p:=⟨b,2,none⟩) h _) (p:=⟨b,3,none⟩) h _) (p:=⟨b,4,none⟩) h _
 ·exact row_set (row_set (row_set (row_set (row_set z (p:=⟨b,0,none⟩) h _) (p:=⟨b,1,none⟩) h _) (p:=⟨b,2,none⟩) h _) (p:=⟨b,3,none⟩) h _) (p:=⟨b,4,none⟩) h _
 ·exact (heap_setCell_other _ ⟨b,4,none⟩ k _ y).trans ((heap_setCell_other _ ⟨b,3,none⟩ k _ y).trans ((heap_setCell_other _ ⟨b,2,none⟩ k _ y).trans ((heap_setCell_other _ ⟨b,1,none⟩ k _ y).trans (heap_setCell_other _ ⟨b,0,none⟩ k _ y))))
end
theorem BytesAt.cellAt {w:World} {A:Option Addr} {b:Str} (E:BytesAt w A b) {j:Nat} (y:j<b.length):∃ g h,A=some ⟨g,h,none⟩/\w.cell? ⟨g,h+j,none⟩=some (.int .u8 (b[j].toNat:Int)):=by
 rcases E with rfl | ⟨g,h,rfl,z⟩
 ·simp at y
 ·exact ⟨g,h,rfl,z j y⟩
end Go.Proofs.YtjafbmfcedijmaaGreatDoor
namespace Go.Proofs.YtjafbmfcedijmaaGreatDoor
open Tryz
open Go.RowKit Go.Shelf
attribute [local go_sem] Oper.semAt_some
structure Dec (w0:World) (D:Nat) (S:Value) (w:World) (k:Nat) (p nd d n:Int):Prop where
 blk:w.heap[D]?=some (.cells #[S,.int .i64 k,.int .i64 p,.int .i64 nd,.int .i64 d,.int .i64 n] 204 (0,0))
 bel:Below D w0 w
structure DK (D:Nat) (w w':World):Prop where
 size:w.heap.size<=w'.heap.size
 same:∀ k,k<w.heap.size->k≠D->w'.heap[k]?=w.heap[k]?
section
variable {w0 w w':World} {D:Nat} {S:Value} {k:Nat} {p nd d n:Int}
theorem Dec.lt (h:Dec w0 D S w k p nd d n):D<w.heap.size:=(Qb.1 h.blk).1
theorem Dec.all (h:Dec w0 D S w k p nd d n) (y:Below w.heap.size w w'):Dec w0 D S w' k p nd d n:=
 ⟨(y.block D h.lt).trans h.blk,h.bel.trans (y.mono (Zb h.lt))⟩
theorem Dec.cells (h:Dec w0 D S w k p nd d n):w.cell? ⟨D,0,none⟩=some S/\w.cell? ⟨D,1,none⟩=some (.int .i64 k)/\w.cell? ⟨D,2,none⟩=some (.int .i64 p)/\w.cell? ⟨D,3,none⟩=some (.int .i64 nd)/\w.cell? ⟨D,4,none⟩=some (.int .i64 d)/\w.cell? ⟨D,5,none⟩=some (.int .i64 n)/\∀ i,w.frozen? ⟨D,i,none⟩=false:=
 ⟨C9 h.blk 0,C9 h.blk 1,C9 h.blk 2,C9 h.blk 3,C9 h.blk 4,C9 h.blk 5,fun i=>Qr h.blk i⟩
theorem Dec.set3 (h:Dec w0 D S w k p nd d n) (x:Int):Dec w0 D S (w.setCell ⟨D,3,none⟩ (.int .i64 x)) k p x d n:=
 ⟨heap_setCell_same w D 3 _ _ (.int .i64 x) h.blk,h.bel.setCell (p:=⟨D,3,none⟩) (Qa _) _⟩
theorem DK.refl (D:Nat) (w:World):DK D w w:=⟨Qa _,fun _ _ _=>rfl⟩
theorem DK.of_below (h:Below w.heap.size w w'):DK D w w':=⟨h.size,fun y k _=>h.block y k⟩
theorem DK.trans {E:World} (h:DK D w w') (k:DK D w' E):DK D w E:=
 ⟨Qm h.size k.size,fun y z G=>(k.same y (Zo z h.size) G).trans (h.same y z G)⟩
theorem DK.set (k:DK D w w') (j:Nat) (u:Value):DK D w (w'.setCell ⟨D,j,none⟩ u):=
 ⟨by simpa using k.size,fun h z y=>(heap_setCell_other w' ⟨D,j,none⟩ h u y).trans (k.same h z y)⟩
theorem Dec.bytes {b:Str} {A:Option Addr} (y:Dec w0 D S w k p nd d n) (h:w0.heap.size<=D) (H:BytesAt w0 A b):BytesAt w A b:=H.below (y.bel.mono h)
end
def qsf:List PanicEntry:=[{v:=.iface 206 (.agg #[]),recovered:=false}]
structure DH (w0:World) (D:Nat) (b:Str) (A:Option Addr) (l cap:Nat):Prop where
 hl:b.length=l
 hl2:l<=100000
 hD:w0.heap.size<=D
 H0:BytesAt w0 A b
 hc:l<=cap
 hcm:cap<=maxLen
def qiN (w0:World) (D:Nat) (S:Value) (w:World) (e:Ending) (w':World) (l:Nat) (p nd:Int):Prop:=e=.panicked qsf/\(∃ h d,Dec w0 D S w' l p nd h d)/\DK D w w'
theorem DH.byte {w0:World} {D:Nat} {b:Str} {A:Option Addr} {l cap:Nat} (H:DH w0 D b A l cap) {k:Nat} (J:k<l) {w:World} (z:Below D w0 w):∃ h g,A=some ⟨h,g,none⟩/\w.cell? ⟨h,g+k,none⟩=some (.int .u8 ((b.getD k 0).toNat:Int)):=by
 have y:k<b.length:=by have:=H.hl;omega
 obtain ⟨h,g,G,E⟩:=(H.H0.below (z.mono H.hD)).cellAt y;refine ⟨h,g,G,?_⟩;rw [E,Qo,Qi y];rfl
end Go.Proofs.YtjafbmfcedijmaaGreatDoor
namespace Go.Proofs.YtjafbmfcedijmaaGreatDoor
open Tryz
open Go.RowKit Go.Shelf
attribute [local go_sem] Oper.semAt_some
attribute [local irreducible] Go.Mixed.qD8
theorem qer {w w':World} {b B:Nat} {kind:Int} {va vb u:Value} {s:ByteArray} {al:Bool} {L:List Tr} (O:qar w b kind va s vb al) (h:qah w B u L) (k:∀ k,k≠b->w'.heap[k]?=w.heap[k]?):qah w' B u L:=by
 refine ⟨h.1,?_⟩;rcases h.2 with K | ⟨e,E,z,G,y,g,J⟩
 ·exact .inl K
 ·refine .inr ⟨e,E,z,G,y,(k e (fun M=>?_)).trans g,J⟩
  subst M;rw [show w.heap[e]?=_ from O] at g;simp at g
end Go.Proofs.YtjafbmfcedijmaaGreatDoor
namespace Go.Proofs.YtjafbmfcedijmaaGreatDoor
open Tryz
open Go.RowKit Go.Shelf
attribute [local go_sem] Oper.semAt_some
attribute [local irreducible] Go.Mixed.qEd
section
variable {w0 w w':World} {D:Nat} {S:Value} {k:Nat} {p nd d n:Int}
theorem qah.dk {B:Nat} {v:Value} {L:List Tr} (g:qah w B v L) (O:D<B) (E:DK D w w'):qah w' B v L:=by
 refine ⟨g.1,?_⟩;rcases g.2 with y | ⟨e,K,G,M,J,h,z⟩
 ·exact .inl y
 ·exact .inr ⟨e,K,G,M,J,(E.same e (Qb.1 h).1 (by omega)).trans h,z⟩
theorem DK.blk (z:DK D w w') {g:Nat} {o:Obj} (h:w.heap[g]?=some o) (y:g≠D):w'.heap[g]?=some o:=(z.same g (Qb.1 h).1 y).trans h
theorem Dec.iterAt (y:Dec w0 D S w k p nd d n) {h:Nat} (z:D<h) (s:ByteArray) (j:Nat):Dec w0 D S (w.iterAt h s j) k p nd d n:=
 ⟨(Lib.iterAt_other _ _ _ _ _ (by omega)).trans y.blk,Lib.below_iterAt y.bel (by omega) _ _⟩
theorem DK.iterAt (k:DK D w w') {h:Nat} (J:w.heap.size<=h) (s:ByteArray) (j:Nat):DK D w (w'.iterAt h s j):=
 ⟨by have:=k.size;have G:=(Lib.below_iterAt (Qc h w') (Qa _) s j).size;omega,fun y z E=>(Lib.iterAt_other _ _ _ _ _ (by omega)).trans (k.same y z E)⟩
end
theorem qah.opsP {w:World} {B n c:Nat} {A:Option Addr} {L:List Tr} (h:qah w B (.slice A n c) L):qaj w A L:=by
 obtain ⟨z,E,e,y,-⟩:=h.ops;simp only [QC] at e;obtain ⟨rfl,-,-⟩:=e;exact y
structure DL (w0 wb wr:World) (D:Nat) (b:Str) (S:Value) (l it:Nat) (s2:Str) (k:Nat) (p sz:Int) (s0:Int×Int) (j:Nat):Prop where
 le:j<=s2.length
 iter:wr.heap[it]?=some (.stringIter (sB s2) j)
 dec:Dec w0 D S wr (k+qc8 s2 j) p sz (mS s0 s2 b k j).1 (mS s0 s2 b k j).2
 kl:k+qc8 s2 j<=l
 dk:DK D wb wr
theorem DL.next {w0 y wr:World} {D:Nat} {b:Str} {S:Value} {l h:Nat} {s2:Str} {k:Nat} {p z:Int} {s0:Int×Int} {j:Nat} (L:DL w0 y wr D b S l h s2 k p z s0 j) (E:D<h) (G:y.heap.size<=h) :
  Dec w0 D S (wr.iterAt h (sB s2) (j+1)) (k+qc8 s2 j) p z (mS s0 s2 b k j).1 (mS s0 s2 b k j).2/\DK D y (wr.iterAt h (sB s2) (j+1))/\(wr.iterAt h (sB s2) (j+1)).heap[h]?=some (.stringIter (sB s2) (j+1)):=
 ⟨L.dec.iterAt E _ _,L.dk.iterAt G _ _,Lib.iterAt_heap _ _ _ _ _ L.iter⟩
theorem DL.put {w0 E wr w2:World} {D:Nat} {b:Str} {S:Value} {l h:Nat} {s2:Str} {k:Nat} {p z:Int} {s0:Int×Int} {j:Nat} (L:DL w0 E wr D b S l h s2 k p z s0 j) (K:D<h) (O:E.heap.size<=h) (y:j<s2.length)
  (V:k+qc8 s2 j+qhX s2[j]<=l) (X:Dec w0 D S w2 (k+qc8 s2 j+qhX s2[j]) p z (qa1 s2[j] (b.drop (k+qc8 s2 j)) (mS s0 s2 b k j)).1 (qa1 s2[j] (b.drop (k+qc8 s2 j)) (mS s0 s2 b k j)).2) (G:DK D (wr.iterAt h (sB s2) (j+1)) w2) :
  DL w0 E w2 D b S l h s2 k p z s0 (j+1):=by
 obtain ⟨U,J,M⟩:=L.next K O;refine ⟨y,G.blk M (by omega),?_,?_,J.trans G⟩
 ·rw [qzc s0 b k y,qdr s2 j y,<- Nat.add_assoc]
  exact X
 ·rw [qdr s2 j y]
  omega
end Go.Proofs.YtjafbmfcedijmaaGreatDoor
namespace Go.MixE
open Go Go.Mixed
def QE (a:List PanicEntry->List Deferred->World->Prop):Exit->Act->World->Prop
 | .panic w,h,y=>a w h.defers y
 | _,_,_=>False
theorem qbd (h:List PanicEntry->List Deferred->World->Prop):¬LetsOut (QE h):=fun ⟨_,_,y⟩=>y
section
variable {P:Program} {ops:Array Oper} {md:Region.Mode} {E:List PanicEntry->List Deferred->World->Prop}
theorem qy5 {o:Oper} {a:Act} {n h:Act->World->Prop} {Q:Exit->Act->World->Prop} {r:Result Next} (x:∀ v a w,E v a.defers w->Q (.panic v) a w) (d:∀ a w,n a w->h a w) (c:o.upon P a n (QE E) r):o.upon P a h Q r:=by
 cases r with
 | ok J M=>
  cases J <;> simp only [Oper.upon] at c |-
  case value f=>exact d _ _ c
  case skip=>exact d _ _ c
  case defer V=>exact d _ _ c
  case enter O args=>
   refine c.mono fun G y e=>?_
   cases G with
   | returned f=>exact d _ _ e
   | panicked U=>exact x _ _ _ e
   | outgrown=>exact absurd e (qbd E)
  case row row args=>exact c.mono fun f y K=>d _ _ K
 | halt z M=>
  cases z <;> simp only [Oper.upon] at c |-
  case panic f=>exact x _ _ _ c
theorem qrf {i:Nat} {a:Act} {w:World} {G J:Act->World->Prop} {Q:Exit->Act->World->Prop} (M:∀ K a w,E K a.defers w->Q (.panic K) a w) (y:∀ a w,G a w->J a w) (h:wpOp P ops (QE E) i G a w):wpOp P ops Q i J a w:=by
 unfold wpOp at *;split
 ·rename_i o;simp only [o] at h;exact y _ _ h
 ·rename_i O o
  simp only [o] at h;split
  ·rename_i z
   simp only [z,if_true] at h;rcases h with h | h
   ·exact .inl (qy5 M y h)
   ·exact absurd h.2 (qbd E)
  ·rename_i z;simp only [z] at h;exact y _ _ h
theorem qgv {i:Nat} {a:Act} {w:World} {y z:Act->World->Prop} (G:∀ a w,y a w->z a w) (h:wpOp P ops (QE E) i y a w):wpOp P ops (QE E) i z a w:=qrf (fun _ _ _ h=>h) G h
def qa8 (P:Program) (md:Region.Mode) (ops:Array Oper) (n:Nat) (C:World->Prop) (y:List PanicEntry->List Deferred->World->Prop) (L:Array Bool->Act->World->Prop):Nat->Array Bool->Act->World->Prop
 | 0,h,w,a=>C a/\L h w a
 | f+1,h,w,a=>C a/\Region.ready md ops h≠[]/\∀ i∈Region.ready md ops h,i<n/\wpOp P ops (QE y) i (qa8 P md ops n C y L f (h.setIfInBounds i true)) w a
theorem qeS {n:Nat} {C:World->Prop} {L:Array Bool->Act->World->Prop} {f:Nat} {h:Array Bool} {a:Act} {w:World} (y:qa8 P md ops n C E L f h a w):C w:=by cases f <;> exact y.1
theorem qaq {n g:Nat} {C:World->Prop} {L:Array Bool->Act->World->Prop} {Q':Exit->Act->World->Prop} (G:∀ z a w,E z a.defers w->Q' (.panic z) a w) (J:∀ h a w,L h a w->wpAny P md ops Q' g h a w) :
  ∀ (f:Nat) (h:Array Bool) (a:Act) (w:World),qa8 P md ops n C E L f h a w->wpAny P md ops Q' (f+g) h a w
 | 0,h,a,w,y=>by rw [QS];exact J _ _ _ y.2
 | f+1,h,a,w,y=>by
  rw [show f+1+g=(f+g)+1 by omega];exact ⟨fun U=>absurd U y.2.1,fun i K=>qrf G (fun M w' O=>qaq G J f _ M w' O) (y.2.2 i K).2⟩
theorem wpOp_put {C:World->Prop} {j:Nat} {c f:Oper} {v:Value} (ab:ops[j]?=some f) (V:c.apart ops f=true)
  (aa:∀ cs b,c.op≠.select cs b) (ae:∀ cs b,f.op≠.select cs b) {M:Act->World->Prop} {a:Act} {w:World}
  (h:Pure P ops C c v a) (d:wpOp P ops (QE E) j M (a.put c.dst v) w) :
  wpOp P ops (QE E) j (fun K w'=>Pure P ops C c v K/\M (K.put c.dst v) w') a w:=by
 obtain ⟨J,u,O⟩:=Oper.apart_spec V;have n:∀ (a:Act),Pure P ops C c v a->∀ e,Pure P ops C c v (a.put f.dst e):=fun a h e=>
  h.of_same (execOp_put c aa a f.dst e O) (wanted_put c a f.dst e O)
 unfold wpOp at *;simp only [ab] at *;rw [wanted_put f a c.dst v J] at d;split
 ·rename_i x
  simp only [x,if_true] at d;rcases d with d | d
  ·left
   unfold Oper.wp at *;rw [execOp_put f ae a c.dst v J] at d;generalize (execOp a.eval f).run P w=r at *;cases r with
   | ok ad w'=>
    cases ad <;> simp only [Oper.upon] at d |-
    case value e=>exact ⟨n a h e,by rw [<- Act.put_comm a v e u];exact d⟩
    case skip=>exact ⟨n a h _,by rw [<- Act.put_comm a v undef u];exact d⟩
    case defer z=>
     refine ⟨?_,?_⟩
     ·have ag:Pure P ops C c v {a with defers:=z :: a.defers}:=h
      exact n _ ag _
     ·rw [<- Act.put_comm _ v undef u]
      have G:({a with defers:=z :: a.defers}.put c.dst v)={(a.put c.dst v) with defers:=z :: (a.put c.dst v).defers}:=(by rw [qdT];exact put_defers a _ _ _);rw [G];exact d
    case enter ah args=>
     refine d.mono fun G U y=>?_
     cases G with
     | returned e=>exact ⟨n a h e,by rw [<- Act.put_comm a v e u];exact y⟩
     | panicked Z=>exact (show E Z a.defers U by rw [<- qdT a c.dst v];exact y)
     | outgrown=>exact y
    case row row args=>exact d.mono fun e U af=>⟨n a h e,by rw [<- Act.put_comm a v e u];exact af⟩
   | halt ac w'=>
    cases ac <;> simp only [Oper.upon] at d |-
    case panic e=>exact (show E [{v:=e,recovered:=false}] a.defers w' by rw [<- qdT a c.dst v];exact d)
  ·exact absurd d.2 (qbd E)
 ·rename_i x
  simp only [x] at d;exact ⟨n a h _,by rw [<- Act.put_comm a v undef u];exact d⟩
theorem qa0 {C:World->Prop} {n i:Nat} {M:Oper} {v:Value} {L:Array Bool->Act->World->Prop} (ac:ops[i]?=some M) (aj:∀ (j:Nat) (o:Oper) cs b,ops[j]?=some o->o.op≠.select cs b)
  (ai:Region.sinkB md ops n=true) (ah:Region.chainB md ops n=true) (am:n<ops.size) (ak:i<n)
  (aC:∀ h a w,L h a w->∀ j∈Region.ready md ops h,n<=j) :
  ∀ (f:Nat) (h:Array Bool) (a:Act) (w:World),HeadInv md ops n h->
   (∀ j J,ops[j]?=some J->j≠i->h.getD j true=false->(∀ e∈J.after,Region.binds md e=true->e.on≠i)->M.apart ops J=true)->
   i∈Region.ready md ops h->Pure P ops C M v a->C w->
   qa8 P md ops n C E L f (h.setIfInBounds i true) (a.put M.dst v) w->qa8 P md ops n C E L (f+1) h a w:=by
 intro f
 induction f with
 | zero=>
  intro h a w aa _ y ab U O;have G:=(mem_ready.1 y).1;refine ⟨U,fun k=>(by rw [k] at y;cases y),fun j H=>?_⟩;have V:j<n:=by
   rcases Nat.lt_or_ge j n with k | k
   ·exact k
   ·exact absurd H (tail_waits ai ah am aa _ i rfl ak G j k)
  refine ⟨V,?_⟩;by_cases z:j=i
  ·subst z;exact ab.wpOp ac U O
  ·have:=aC _ _ _ O.2 j (ready_mono H z)
   omega
 | succ f ar=>
  intro h a w aa an y ab U O;have G:=(mem_ready.1 y).1;refine ⟨U,fun k=>(by rw [k] at y;cases y),fun j H=>?_⟩;have V:j<n:=by
   rcases Nat.lt_or_ge j n with k | k
   ·exact k
   ·exact absurd H (tail_waits ai ah am aa _ i rfl ak G j k)
  refine ⟨V,?_⟩;by_cases z:j=i
  ·subst z;exact ab.wpOp ac U O
  ·have Z:=(O.2.2 j (ready_mono H z)).2
   obtain ⟨ag,J,af,ax⟩:=mem_ready.1 H;have ap:∀ e∈J.after,Region.binds md e=true->e.on≠i:=fun e aq aD aw=>by
    have Z:=ax e aq aD;rw [aw,getD_both G] at Z;cases Z
   have az:=wpOp_put af (an j J af z ag ap) (fun cs b=>aj i M cs b ac) (fun cs b=>aj j J cs b af) ab Z;have aB:∀ K ok,ops[K]?=some ok->K≠i->(h.setIfInBounds j true).getD K true=false->
     (∀ e∈ok.after,Region.binds md e=true->e.on≠i)->M.apart ops ok=true:=fun K ok aE ay G au=>by
    refine an K ok aE ay ?_ au;by_cases ao:j=K
    ·subst ao;exact ag
    ·rw [getD_set_ne true ao] at G;exact G
   refine qgv (fun av aF ae=>?_) az;obtain ⟨ae,ad⟩:=ae;rw [Array.setIfInBounds_comm _ _ (fun e=>z e.symm)] at ad;have aA:=ready_mono y (Ne.symm z);exact ar (h.setIfInBounds j true) av aF (aa.set H V) aB aA ae (qeS ad) ad
def qEk (P:Program) (ops:Array Oper) (C:World->Prop) (w:List PanicEntry->List Deferred->World->Prop) (T:Act->World->Prop):Ord->Act->World->Prop
 | .done,a,h=>T a h
 | .pure k r,a,h=>match ops[k]? with
  | none=>False
  | some o=>∃ v,Pure P ops C o v a/\qEk P ops C w T r (a.put o.dst v) h
 | .one k r,a,h=>wpOp P ops (QE w) k (fun y w'=>C w'/\qEk P ops C w T r y w') a h
 | .two k r z E,a,h=>wpOp P ops (QE w) k (fun y w'=>C w'/\qEk P ops C w T r y w') a h/\wpOp P ops (QE w) z (fun y w'=>C w'/\qEk P ops C w T E y w') a h
def QK (z:List PanicEntry->List Deferred->World->Prop) (w:Act->World->Prop):Exit->Act->World->Prop
 | .normal,a,h=>w a h
 | .panic y,a,h=>z y a.defers h
 | _,_,_=>False
theorem qaA (h:Act->World->Prop):¬LetsOut (QK E h):=fun ⟨_,_,y⟩=>y
theorem qfC {o:Oper} {a:Act} {e:Act->World->Prop} {v:Act->World->Prop} {r:Result Next} (c:o.upon P a e (QK E v) r):o.upon P a e (QE E) r:=by
 cases r with
 | ok x y=>
  cases x <;> simp only [Oper.upon] at c |-
  case value f=>exact c
  case skip=>exact c
  case defer J=>exact c
  case enter z args=>
   refine c.mono fun h K d=>?_
   cases h with
   | returned f=>exact d
   | panicked G=>exact d
   | outgrown=>exact absurd d (qaA _)
  case row row args=>exact c
 | halt n y=>
  cases n <;> simp only [Oper.upon] at c |-
  case panic f=>exact c
end
end Go.MixE
namespace Go.Proofs.YtjafbmfcedijmaaGreatDoor
open Tryz
open Go.RowKit Go.Shelf
attribute [local go_sem] Oper.semAt_some
attribute [local irreducible] Go.MixE.qEk
def qCi (D:Nat) (w:World):Nat:=match w.cell? ⟨D,1,none⟩ with
 | some h=>(intOf h).toNat
 | none=>0
theorem Dec.cnt {w0 w:World} {D:Nat} {S:Value} {k:Nat} {p nd d n:Int} (h:Dec w0 D S w k p nd d n):qCi D w=k:=by
 unfold qCi;rw [h.cells.2.1];simp [intOf]
def qkx (w0:World) (D:Nat) (S:Value) (b:Str) (l:Nat) (w:World) (e:Ending) (w':World):Prop:=
 ((itR b).kind≠4/\(∃ k n,e=.returned (.agg #[.int .i64 (itR b).kind,.slice none 0 0,.string (sB (itR b).m),.slice k (itR b).C.length n,.bool (itR b).al])/\qah w' w.heap.size (.slice k (itR b).C.length n) (itR b).C)/\(∃ h d z y p,h<=l/\(itR b).raw=b.take h/\Dec w0 D S w' h d z y p)/\DK D w w')\/
 (itR b=qbB 4 b/\∃ d,qiN w0 D S w e w' l d (needR b:Nat))
theorem qkx.put {w0 w w2 h:World} {D:Nat} {S:Value} {b:Str} {l I:Nat} {v:Value} {kind:Int} {va vb:Value} {s:ByteArray} {al:Bool} (ad:qkx w0 D S b l w (.returned v) w2) (Z:qar w2 I kind va s vb al) (U:D<I) (af:w.heap.size<=I) (n:Below I w2 h) (G:∀ k,k≠I->h.heap[k]?=w2.heap[k]?):qkx w0 D S b l w (.returned v) h:=by
 rcases ad with ⟨y,⟨O,K,d,B⟩,⟨k,z,V,M,ab,J,ae,E⟩,p⟩ | ⟨y,z,d,B⟩
 ·exact .inl ⟨y,⟨O,K,d,qer Z B G⟩,⟨k,z,V,M,ab,J,ae,⟨(n.block D U).trans E.blk,E.bel.trans (n.mono (by omega))⟩⟩,⟨Qm p.size n.size,fun k ac aa=>(G k (by omega)).trans (p.same k ac aa)⟩⟩
 ·cases d
end Go.Proofs.YtjafbmfcedijmaaGreatDoor
namespace Go.Proofs.YtjafbmfcedijmaaGreatDoor
open Tryz
open Go.RowKit Go.Shelf
attribute [local go_sem] Oper.semAt_some
def PtD (w:World) (x D:Nat):Prop:=w.heap[x]?=some (.cells #[.pointer (some ⟨D,0,none⟩)] 137 (0,0))
theorem PtD.ne {w:World} {x D I:Nat} (e:PtD w x D) {kind:Int} {va vb:Value} {s:ByteArray} {al:Bool} (y:qar w I kind va s vb al):x≠I:=fun h=>by
 subst h;unfold PtD at e;rw [show w.heap[x]?=_ from y] at e;simp at e
theorem PtD.cells {w:World} {x D:Nat} (h:PtD w x D):w.cell? ⟨x,0,none⟩=some (.pointer (some ⟨D,0,none⟩))/\w.frozen? ⟨x,0,none⟩=false:=⟨C9 h 0,Qr h 0⟩
end Go.Proofs.YtjafbmfcedijmaaGreatDoor
namespace Go.Proofs.YtjafbmfcedijmaaGreatDoor
open Tryz
open Go.RowKit
variable {H:Type} {enc:TypeId×Value->H}
theorem qeh {a:Assume} {C:Checked} {os:Os} {f:FuncId} {fn:Func} {s:ChangeSpec} {K:List PathCond} {h G J M:Bool} {X:World->Array Value->Prop}
  (ai:∀ (w w':World) (args:Array Value),w.heap=w'.heap->X w args->X w' args)
  (own:ownKnob C.prog.godebug=none) (ah:os.Started) (U:C.prog.inits.idxOf? f=none) (af:C.prog.funcs[f]?=some fn)
  (ab:∃ (w:World) (g:Tape) (i:Input),w.os=os/\(w.forCall g i).Shaped C.prog/\i.vars=[]/\Input.okWide C.prog (w.forCall g i) .any w.heap.size f i/\
   ((s.pre enc C.prog fn K h (w.forCall g i).memory i.args/\X (w.forCall g i).memory i.args)/\sizedMet enc C.prog fn (OpenSpec.ofChange s) h (w.forCall g i).memory i.args)/\a.holds C.prog (lone (Frame.enter C.prog f i.args .normal) [] (w.forCall g i)))
  (body:∀ (W:World) (base:Nat) (args:Array Value) (E z:List (DataW H)) (y:List MemPlace),
   (∀ (j:Nat) t v,fn.params[j]?=some t->args[j]?=some v->Value.okWide C.prog W .any base t v)->
   DataW.Whole enc C.prog fn.params.toList s.vars h W args.toList E z y->X W args->W.ShapedOpen C.prog->
   Calls C.prog f args W fun e O=>∃ v,e=.returned v/\s.post enc C.prog fn h G J M W args v O) :
  ReturnsInHanded a C os f .any (fun w args=>(s.pre enc C.prog fn K h w args/\X w args)/\sizedMet enc C.prog fn (OpenSpec.ofChange s) h w args) (s.post enc C.prog fn h G J M):=by
 refine returnsInHanded_of_calls own ah U ab fun w g i _ ae _ ag aa _=>?_
 obtain ⟨_,_,_,ak,ad,_,_,_,_,ac⟩:=ag;cases Qw (ad.symm.trans af);obtain ⟨⟨⟨E,z,y,V,_⟩,Z⟩,_⟩:=aa;refine (body _ w.heap.size i.args E z y ac (DataW.Whole.of_heap (w':=w.forCall g i) (by rfl) V) (ai _ _ _ (by rfl) Z) ae).mono ?_;rintro e O ⟨v,rfl,aj⟩;exact ChangeSpec.post_blind aj
theorem qcn {W:World} (h:W.ShapedOpen prog):qac W:=
 cell_of_shapedOpen_int (g:=0) (t:=3) (zero:=#[.int .i64 0]) h (Qt (by kernel_rfl)) (by kernel_rfl) rfl (by kernel_rfl) (by kernel_rfl) underlying3
end Go.Proofs.YtjafbmfcedijmaaGreatDoor
