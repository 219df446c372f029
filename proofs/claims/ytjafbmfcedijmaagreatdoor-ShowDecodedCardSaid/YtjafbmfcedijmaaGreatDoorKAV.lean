/-
  NumAqS, EnOqS, NumIqS, NumJqS, OpFqS, OpHqS, OpIqS, SeVbqS, DeAqS, DeBqS, DeDqS, DiAqS, DfDqS, ColqS, OpKqS, OpLqS, NumPqS, StrqS, OpRqS, ShTqS.
-/
import Derived.Test.YtjafbmfcedijmaaGreatDoorKAN
import Derived.Lib.MakeNoZero
set_option linter.all false
set_option maxRecDepth 100000
set_option maxHeartbeats 4000000
namespace Go.Proofs.YtjafbmfcedijmaaGreatDoor
open Tryz
open Go.RowKit
def qD0 (c:Int):Int:=if 48<=c/\c<=57 then c - 48 else if 65<=c/\c<=70 then c - 55 else if 97<=c/\c<=102 then c - 87 else -1
theorem qeV (n:Int):((qc5 n).toNat:Int)=n % 256:=by
 unfold qc5;rw [UInt8.toNat_ofNat_of_lt' (by have:=Int.emod_lt_of_pos n (show (0:Int)<256 by decide);have:=Int.emod_nonneg n (show (256:Int)≠0 by decide);show (n % 256).toNat<256;omega)];have:=Int.emod_nonneg n (show (256:Int)≠0 by decide);omega
theorem qo5 (x:Int) (z:0<=x) (E:x<16):qeg.extract x.toNat (x+1).toNat=⟨#[qci x]⟩:=by
 have y:∀ e:Fin 16,qeg.extract e.val (e.val+1)=⟨#[qci (e.val:Int)]⟩:=by decide +kernel
 have h:=y ⟨x.toNat,by omega⟩;have i:((x.toNat:Nat):Int)=x:=by omega
 have t:(x+1).toNat=x.toNat+1:=by omega
 simp only [i] at h;rw [t];exact h
theorem qkk (n:Int) (k:Nat):(qcM n (k+1)).data.toList=qci (qbw n k) :: (qcM n k).data.toList:=by
 have h:(List.range (k+1)).map (fun e=>qci (qbw n (k+1 - 1 - e)))=qci (qbw n k) :: (List.range k).map fun e=>qci (qbw n (k - 1 - e)):=by
  rw [List.range_succ_eq_map,List.map_cons,List.map_map]
  congr 1
  apply List.map_congr_left;intro e j;have:=QW.1 j;show qci (qbw n (k+1 - 1 - (e+1)))=_;rw [show k+1 - 1 - (e+1)=k - 1 - e by omega]
 unfold qcM;simpa using h
theorem qzv (n m:Int) (k:Nat) (h:m=n / 2 ^ (4*k)):m % 16=qbw n k:=by unfold qbw;rw [h]
theorem qvC (n m:Int) (k:Nat) (h:m=n / 2 ^ (4*k)):m / 16=n / 2 ^ (4*(k+1)):=by rw [h,Int.ediv_ediv_of_nonneg (by exact Int.pow_nonneg (by omega)),show (2:Int) ^ (4*(k+1))=2 ^ (4*k)*16 by rw [Nat.mul_add,Int.pow_add];rfl]
theorem qnY (n:Int) (d:Nat) (Z:d<=8) (w:World) :
  Calls prog 145 #[.int .i64 n,.int .i64 d] w fun K O=>K=.returned (.string (qcM n d))/\w=O:=by
 go_enter func145,ntmps145
 go_wp2
 go_loop [0,5,6] (fun M G k=>∃ (a:Nat) (h:Int) (e:ByteArray),a<=d/\k=.int .i64 a/\M=.int .i64 h/\G=.string e/\e.size<=8/\Hid (h=n / 2 ^ (4*a))/\Hid (e=qcM n a)) (fun _ _ k=>d - (intOf k).toNat)
 case atStart=>exact ⟨0,n,⟨#[]⟩,Qs _,rfl,rfl,rfl,by decide,by show n=n / 2 ^ (4*0);simp,rfl⟩
 case round=>
  obtain ⟨a,h,e,U,rfl,rfl,rfl,V,z,t⟩:=hrel;by_cases T:a<d
  ·have s:=qAb h
   obtain ⟨y,E⟩:=qbM n a;rw [qzv n h a z.o] at s;obtain ⟨i,m⟩:=N9 (qbw n a);rw [m] at s y E;have x:Hid (qeg.extract i.toNat (i+1).toNat++e=qcM n (a+1)):=by
    rw [qo5 i y E];apply qaB;rw [qam,qkk,t.o,m];rfl
   clear m;go_wp2
   go_round
   case rel=>exact ⟨a+1,_,_,by omega,by go_num,rfl,rfl,by show (qeg.extract i.toNat (i+1).toNat++e).size<=8;rw [x.o,qa9];omega,qvC n h a z.o,x⟩
   case measure=>simp [intOf];omega
  ·have J:Hid (e=qcM n d):=by have N:=t.o;rwa [show a=d by omega] at N
   go_wp2;go_ret;exact ⟨qaw J.o,rfl⟩
theorem qva:∀ x:Fin 16,(qnO ((qci (x.val:Int)).toNat:Int)=decide (x.val<10))/\(decide (65<=(qci (x.val:Int)).toNat)=decide (10<=x.val)):=by decide +kernel
theorem qvq (x:Int) (G:0<=x) (J:x<16):qnO ((qci x).toNat:Int)=!decide ((65:Int)<=((qci x).toNat:Int)):=by
 have h:=qva ⟨x.toNat,by omega⟩;have z:((x.toNat:Nat):Int)=x:=by omega
 simp only [z] at h;rw [h.1];have c:=h.2;by_cases y:x.toNat<10
 ·have:¬65<=(qci x).toNat:=by
   intro E;rw [Qn E] at c;have:=Qt c.symm;omega
  have e:¬(65:Int)<=((qci x).toNat:Int):=by omega
  rw [Qn y,Qf e];rfl
 ·have:65<=(qci x).toNat:=by
   rw [Qn (show 10<=x.toNat by omega)] at c;exact Qt c
  have e:(65:Int)<=((qci x).toNat:Int):=by omega
  rw [Qf y,Qn e];rfl
theorem qjL (t:ByteArray) (h:0<t.size) (a:UInt8) (l:List UInt8) (e:t.data.toList=a :: l):t[0]=a:=by
 have y:t.data.toList[0]'(by simpa using h)=t[0]:=rfl;rw [<- y];simp [e]
theorem qrP (n:Int) (z:10<=n) (E:n<=65535) (y:0<(qdf n).size):∃ i,(qdf n)[0]=qci (qbw n i):=by
 rcases qij n z E with ⟨_,h,_⟩ | ⟨_,_,h,_⟩ | ⟨_,_,h,_⟩ | ⟨_,h,_⟩
 ·exact ⟨_,qjL _ y _ _ h⟩
 ·exact ⟨_,qjL _ y _ _ h⟩
 ·exact ⟨_,qjL _ y _ _ h⟩
 ·exact ⟨_,qjL _ y _ _ h⟩
theorem qvL (n:Int) (y:10<=n) (z:n<=65535) (i:0<(qdf n).size):qnO ((qdf n)[0].toNat:Int)=!decide ((65:Int)<=((qdf n)[0].toNat:Int)):=by
 obtain ⟨e,h⟩:=qrP n y z i;rw [h];exact qvq _ (qbM n e).1 (qbM n e).2
theorem qqN (n:Int) (w:World) :
  Calls prog 145 #[.int .i64 n,.int .i64 4] w fun e h=>e=.returned (.string (qcM n 4))/\w=h:=qnY n 4 (by omega) w
theorem qu9 (n:Int) (y:0<=n) (h:n<10):qcM n 1=qaM n:=by
 apply qaB;rw [qkk];unfold qaM;rw [Qd (by omega),Qk h];have:qbw n 0=n:=by unfold qbw;simp;omega
 rw [this];rfl
theorem qtl (n:Int) (y:0<=n) (z:n<10) (w:World) :
  Calls prog 145 #[.int .i64 n,.int .i64 1] w fun h E=>h=.returned (.string (qaM n))/\w=E:=by
 have e:=qnY n 1 (by omega) w;rw [qu9 n y z] at e;exact e
theorem qdE (n:Int) (w:World) :
  Calls prog 101 #[.int .i64 n] w fun e J=>e=.returned (.string (qaM n))/\w=J:=by
 by_cases T:n<0
 ·have h:=J9 (show (⟨#[]⟩:ByteArray)=qaM n by unfold qaM;rw [Qk (.inl T)])
  go_enter func101,ntmps101
  go_wp2;go_ret;exact ⟨qaw h.o,rfl⟩
 ·by_cases V:65535<n
  ·have h:=J9 (show (⟨#[]⟩:ByteArray)=qaM n by unfold qaM;rw [Qk (.inr V)])
   go_enter func101,ntmps101
   go_wp2;go_ret;exact ⟨qaw h.o,rfl⟩
  ·by_cases M:n<10
   ·have aa:0<=n:=by omega
    go_enter func101,ntmps101
    go_wp2_with (go_at_call 145;refine (qtl n aa M _).mono ?_;rintro e J ⟨rfl,rfl⟩)
    go_ret;exact ⟨rfl,rfl⟩
   ·have y:n<=65535:=by omega
    have v:=qnS n (by omega) y;have ad:=qlR n;have K:=qvL n (by omega) y v
    go_enter func101,ntmps101
    have N:=J9 K;clear K
    go_wp2_with (go_at_call 145;refine (qqN n _).mono ?_;rintro e J ⟨rfl,rfl⟩)
    go_loop [3] (fun F=>∃ c:ByteArray,F=.string c/\c.size<=4/\0<c.size/\Hid (qcJ 48 c=qdf n)) (fun F=>qnE F)
    case atStart=>exact ⟨_,rfl,by rw [qa9];omega,by rw [qa9];omega,rfl⟩
    case round=>
     obtain ⟨c,rfl,U,O,h⟩:=hrel;have ac:((c.size:Int) == 0)=false:=(by rw [Qj];omega);by_cases e:c[0]=48
     ·have Z:((c[0].toNat:Int) == 48)=true:=by rw [e];rfl
      have z:Hid (qcJ 48 (c.extract 1 c.size)=qdf n):=(qiE 48 c O e).trans h.o;have ab:0<(c.extract 1 c.size).size:=by
       by_cases E:0<(c.extract 1 c.size).size
       ·exact E
       ·have t:=qgD 48 _ E
        rw [z.o] at t;rw [t] at v;exact absurd v E
      clear e;go_wp2
      go_round
      case rel=>exact ⟨_,rfl,Qm (qir c 1 c.size) U,ab,z⟩
      case measure=>simp [qnE];omega
     ·have Z:((c[0].toNat:Int) == 48)=false:=by
       rw [Qj];intro M;exact e (UInt8.toNat_inj.1 (by show c[0].toNat=48;omega))
      have z:c=qdf n:=(qit 48 c O e).symm.trans h.o;subst z;clear e h;by_cases t:(65:Int)<=((qdf n)[0].toNat:Int)
      ·have G:=J9 (qn4 n (by omega) y v (by rw [N.o];simp [t]))
       go_wp2;go_ret;exact ⟨qaw G.o,rfl⟩
      ·have G:=J9 (qnR n (by omega) y v (by rw [N.o];simp [t]))
       go_wp2;go_ret;exact ⟨qaw G.o,rfl⟩
theorem qsv (k r n:Int) (h:qaT k r n=false):qd2 k r n=⟨#[]⟩:=by unfold qd2;rw [h];rfl
theorem qqz (k r n:Int) (w:World) :
  Calls prog 126 #[.agg #[.int .i64 k,.int .i64 r,.int .i64 n]] w fun y V=>y=.returned (.string (qd2 k r n))/\Below w.heap.size w V:=by
 obtain ⟨J,K⟩:=qcX k r n;cases s:qaT k r n
 ·have E:=J9 (K s)
  have G:=J9 (qsv k r n s);clear J K s
  go_enter func126,ntmps126
  go_wp2_with fail
  refine (E.o _).mono ?_;rintro y z ⟨rfl,e⟩;have h:Hid (Below w.heap.size w z):=(B0).trans (e.mono (by simp));have H:=h.o.size;clear e;go_wp2;go_ret;exact ⟨qaw G.o.symm,h.o.alloc H _⟩
 ·obtain ⟨ac,ad,ag,Z,aa,M,ab,O⟩:=J s
  have E:=J9 M;have G:=J9 O;clear J K s M O
  go_enter func126,ntmps126
  go_wp2_with fail
  refine (E.o _).mono ?_;rintro y z ⟨rfl,e⟩;obtain ⟨ae,-⟩:=qcC e;have h:Hid (Below w.heap.size w z):=(B0).trans (e.mono (by simp));have H:=h.o.size;have af:w.heap.size<z.heap.size:=by have:=e.size;simp at this;omega
  clear e
  go_wp2_with fail
  refine (G.o _).mono ?_;rintro y U ⟨rfl,N⟩;have T:Hid (Below w.heap.size w U):=(h.o.alloc H _).trans (N.mono (by simp;omega));clear N;go_wp2;go_ret;exact ⟨rfl,T.o⟩
theorem qDf (r n:Int):qaT 4 r n=(neB (atS (rnK 4) r)&&(n == 0)):=qA9 4 r n (by decide)
theorem qdB (n:Int) (E : -100000<=n) (K:n<=100000) (w:World) :
  Calls prog 194 #[.int .i64 n] w fun e y=>e=.returned (.string (qeA n))/\w=y:=by
 have G:=qaz n;have J:=qaz (-n);by_cases z:n<0
 ·have h:=J9 (show ⟨#[45]⟩++qaM (-n)=qeA n by unfold qeA;rw [Qk z])
  go_enter func194,ntmps194
  go_wp2_with fail
  refine (qdE _ _).mono ?_;rintro e y ⟨rfl,rfl⟩;go_wp2;go_ret;exact ⟨qaw h.o,rfl⟩
 ·have h:=J9 (show ⟨#[43]⟩++qaM n=qeA n by unfold qeA;rw [Qd z])
  go_enter func194,ntmps194
  go_wp2_with fail
  refine (qdE _ _).mono ?_;rintro e y ⟨rfl,rfl⟩;go_wp2;go_ret;exact ⟨qaw h.o,rfl⟩
theorem qcd (k r n:Int) (h:qaT k r n=true):qd2 k r n=qmf k.toNat (nmS k.toNat r) n:=by unfold qd2;rw [h];rfl
theorem qyz (k r n:Int) (e:qaT k r n=false) (w:World) :
  Calls prog 144 #[.agg #[.int .i64 k,.int .i64 r,.int .i64 n]] w fun h J=>h=.returned (.string (qd2 k r n))/\Below w.heap.size w J:=by
 have y:=J9 (qaE k r n);rw [e] at y;rw [qsv k r n e];clear e
 go_enter func144,ntmps144
 go_wp2_with fail
 refine (y.o _).mono ?_;rintro h G ⟨rfl,z⟩;have E:Hid (Below w.heap.size w G):=(B0).trans (z.mono (by simp));clear z;go_wp2;go_ret;exact ⟨rfl,E.o⟩
theorem qCl (r:Int) (h:neB (nmS 4 r)=true):brS (nmS 4 r)=atS (rnK 4) r:=by
 by_cases z:0<=r/\r<9
 ·obtain ⟨i,rfl⟩:∃ i:Nat,r=i:=⟨r.toNat,by omega⟩
  have y:∀ j:Fin 9,neB (nmS 4 ((j.val:Nat):Int))=true->(brS (nmS 4 ((j.val:Nat):Int))).data=(atS (rnK 4) ((j.val:Nat):Int)).data:=by decide +kernel
  have:=y ⟨i,by omega⟩ h;exact ByteArray.ext this
 ·unfold nmS at h
  rw [qej _ r (by show r<0\/(9:Int)<=r;omega),qqL] at h;cases h
theorem qBq (r n:Int) (y:qaT 1 r n=true) (w:World) :
  Calls prog 144 #[.agg #[.int .i64 1,.int .i64 r,.int .i64 n]] w fun h N=>h=.returned (.string (qd2 1 r n))/\Below w.heap.size w N:=by
 have J:=J9 (qaE 1 r n);rw [y] at J;have G:qd2 1 r n=atS (rnK 1) r:=by rw [qcd 1 r n y];rfl
 rw [G];clear G y
 go_enter func144,ntmps144
 go_wp2_with fail
 refine (J.o _).mono ?_;rintro h E ⟨rfl,e⟩;have z:Hid (Below w.heap.size w E):=(B0).trans (e.mono (by simp));obtain ⟨O,-⟩:=qcC e;have U:w.heap.size<E.heap.size:=by have:=e.size;simp at this;omega
 clear e
 go_wp2_with fail
 refine (qbp 1 r _).mono ?_;rintro h V ⟨rfl,K⟩;have M:=J9 (z.o.trans (K.mono z.o.size));clear K;go_wp2;go_ret;exact ⟨rfl,M.o⟩
theorem qBK (r n:Int) (y:qaT 2 r n=true) (w:World) :
  Calls prog 144 #[.agg #[.int .i64 2,.int .i64 r,.int .i64 n]] w fun h N=>h=.returned (.string (qd2 2 r n))/\Below w.heap.size w N:=by
 have J:=J9 (qaE 2 r n);rw [y] at J;have G:qd2 2 r n=atS (rnK 2) r:=by rw [qcd 2 r n y];rfl
 rw [G];clear G y
 go_enter func144,ntmps144
 go_wp2_with fail
 refine (J.o _).mono ?_;rintro h E ⟨rfl,e⟩;have z:Hid (Below w.heap.size w E):=(B0).trans (e.mono (by simp));obtain ⟨O,-⟩:=qcC e;have U:w.heap.size<E.heap.size:=by have:=e.size;simp at this;omega
 clear e
 go_wp2_with fail
 refine (qbp 2 r _).mono ?_;rintro h V ⟨rfl,K⟩;have M:=J9 (z.o.trans (K.mono z.o.size));clear K;go_wp2;go_ret;exact ⟨rfl,M.o⟩
theorem qA2 (r n:Int) (y:qaT 3 r n=true) (w:World) :
  Calls prog 144 #[.agg #[.int .i64 3,.int .i64 r,.int .i64 n]] w fun h N=>h=.returned (.string (qd2 3 r n))/\Below w.heap.size w N:=by
 have J:=J9 (qaE 3 r n);rw [y] at J;have G:qd2 3 r n=atS (rnK 3) r:=by rw [qcd 3 r n y];rfl
 rw [G];clear G y
 go_enter func144,ntmps144
 go_wp2_with fail
 refine (J.o _).mono ?_;rintro h E ⟨rfl,e⟩;have z:Hid (Below w.heap.size w E):=(B0).trans (e.mono (by simp));obtain ⟨O,-⟩:=qcC e;have U:w.heap.size<E.heap.size:=by have:=e.size;simp at this;omega
 clear e
 go_wp2_with fail
 refine (qbp 3 r _).mono ?_;rintro h V ⟨rfl,K⟩;have M:=J9 (z.o.trans (K.mono z.o.size));clear K;go_wp2;go_ret;exact ⟨rfl,M.o⟩
theorem qBR (r n:Int) (e:qaT 4 r n=true) (w:World) :
  Calls prog 144 #[.agg #[.int .i64 4,.int .i64 r,.int .i64 n]] w fun y O=>y=.returned (.string (qd2 4 r n))/\Below w.heap.size w O:=by
 have J:=J9 (qaE 4 r n);rw [e] at J;have K:neB (nmS 4 r)=true:=by
  rw [qDf,neB_4,Qh] at e;exact e.1
 have G:qd2 4 r n=atS (rnK 4) r:=by rw [qcd 4 r n e];exact qCl r K
 clear K;rw [G];clear G e
 go_enter func144,ntmps144
 go_wp2_with fail
 refine (J.o _).mono ?_;rintro y E ⟨rfl,h⟩;have z:Hid (Below w.heap.size w E):=(B0).trans (h.mono (by simp));obtain ⟨U,-⟩:=qcC h;have V:w.heap.size<E.heap.size:=by have:=h.size;simp at this;omega
 clear h
 go_wp2_with fail
 refine (qbp 4 r _).mono ?_;rintro y Z ⟨rfl,M⟩;have N:=J9 (z.o.trans (M.mono z.o.size));clear M;go_wp2;go_ret;exact ⟨rfl,N.o⟩
theorem qzT (r n:Int) (y:qaT 8 r n=true) (w:World) :
  Calls prog 144 #[.agg #[.int .i64 8,.int .i64 r,.int .i64 n]] w fun h N=>h=.returned (.string (qd2 8 r n))/\Below w.heap.size w N:=by
 have J:=J9 (qaE 8 r n);rw [y] at J;have G:qd2 8 r n=atS (rnK 8) r:=by rw [qcd 8 r n y];rfl
 rw [G];clear G y
 go_enter func144,ntmps144
 go_wp2_with fail
 refine (J.o _).mono ?_;rintro h E ⟨rfl,e⟩;have z:Hid (Below w.heap.size w E):=(B0).trans (e.mono (by simp));obtain ⟨O,-⟩:=qcC e;have U:w.heap.size<E.heap.size:=by have:=e.size;simp at this;omega
 clear e
 go_wp2_with fail
 refine (qbp 8 r _).mono ?_;rintro h V ⟨rfl,K⟩;have M:=J9 (z.o.trans (K.mono z.o.size));clear K;go_wp2;go_ret;exact ⟨rfl,M.o⟩
theorem qAE (r n:Int) (y:qaT 9 r n=true) (w:World) :
  Calls prog 144 #[.agg #[.int .i64 9,.int .i64 r,.int .i64 n]] w fun h N=>h=.returned (.string (qd2 9 r n))/\Below w.heap.size w N:=by
 have J:=J9 (qaE 9 r n);rw [y] at J;have G:qd2 9 r n=atS (rnK 9) r:=by rw [qcd 9 r n y];rfl
 rw [G];clear G y
 go_enter func144,ntmps144
 go_wp2_with fail
 refine (J.o _).mono ?_;rintro h E ⟨rfl,e⟩;have z:Hid (Below w.heap.size w E):=(B0).trans (e.mono (by simp));obtain ⟨O,-⟩:=qcC e;have U:w.heap.size<E.heap.size:=by have:=e.size;simp at this;omega
 clear e
 go_wp2_with fail
 refine (qbp 9 r _).mono ?_;rintro h V ⟨rfl,K⟩;have M:=J9 (z.o.trans (K.mono z.o.size));clear K;go_wp2;go_ret;exact ⟨rfl,M.o⟩
attribute [local irreducible] Go.Mixed.qD8
theorem qz5 (r n:Int) (e:qaT 5 r n=true) (w:World) :
  Calls prog 144 #[.agg #[.int .i64 5,.int .i64 r,.int .i64 n]] w fun E G=>E=.returned (.string (qd2 5 r n))/\Below w.heap.size w G:=by
 have T:=J9 (qaE 5 r n);rw [e] at T;have af : -128<=n/\n<=127:=by
  rw [qBH] at e;simp only [Qh,Ql] at e;exact e.2
 obtain ⟨ai,ah⟩:=af;have U:Hid (⟨#[40]⟩++atS (rnK 5) r++qeA n++⟨#[41]⟩=qd2 5 r n):=by
  rw [qcd 5 r n e];show _=brS (nmS 5 r++qeA n);unfold brS;show ⟨#[40]⟩++nmS 5 r++qeA n++⟨#[41]⟩=_;simp only [ByteArray.append_assoc]
 have ad:(atS (rnK 5) r).size<=50:=qoA 5 r;have ag:=qcw n;have HR:=J9 (qbp 5 r);obtain ⟨K,V⟩:=N9 (atS (rnK 5) r);rw [V] at U HR ad;clear e V
 go_enter func144,ntmps144
 go_wp2_with fail
 refine (T.o _).mono ?_;rintro E h ⟨rfl,s⟩;have aa:Hid (Below w.heap.size w h):=(B0).trans (s.mono (by simp));obtain ⟨J,-⟩:=qcC s;have Z:w.heap.size<h.heap.size:=by have:=s.size;simp at this;omega
 clear s;have M:h.cell? ⟨w.heap.size,1,none⟩=some (.int .i64 r):=by rw [J _ _ (by simp)];simp [go_sem]
 have N:h.cell? ⟨w.heap.size,2,none⟩=some (.int .i64 n):=by rw [J _ _ (by simp)];simp [go_sem]
 go_wp2;refine Mixed.qD5 (fun G=>G.cell? ⟨w.heap.size,1,none⟩=some (.int .i64 r)/\G.cell? ⟨w.heap.size,2,none⟩=some (.int .i64 n)) 9 [(0,true),(1,true),(4,true),(5,true),(2,false),(3,true),(6,false),(7,true),(8,true)] (by kernel_rfl) (by kernel_rfl) ⟨M,N⟩ ?_;refine Mixed.mp rfl (.pointer (some ⟨w.heap.size,1,none⟩)) ?_;refine Mixed.mo rfl (.int .i64 r) (fun w e=>by obtain ⟨s,z⟩:=e;go_simp;try rfl) ?_;refine Mixed.mp rfl (.pointer (some ⟨w.heap.size,2,none⟩)) ?_;refine Mixed.mo rfl (.int .i64 n) (fun w e=>by obtain ⟨s,z⟩:=e;go_simp;try rfl) ?_;refine Mixed.qD6 rfl (by kernel_rfl) ?_;clear J
 go_wp2_with fail
 refine (HR.o _).mono ?_;rintro E O ⟨rfl,z⟩;have y:Below h.heap.size h O:=(below_drewN h _ 1).trans z;have ae:=J9 (aa.o.trans (y.mono aa.o.size));have ab:O.cell? ⟨w.heap.size,1,none⟩=some (.int .i64 r):=(y.cell Z).trans M;have ac:O.cell? ⟨w.heap.size,2,none⟩=some (.int .i64 n):=(y.cell Z).trans N;clear z y M N;go_wp2;refine ⟨⟨ab,ac⟩,?_⟩;refine Mixed.mo rfl (.string (⟨#[40]⟩++K)) (fun w e=>by clear e;go_simp;omega) ?_;refine Mixed.qD6 rfl (by kernel_rfl) ?_
 go_wp2_with fail
 refine (qdB n (by omega) (by omega) _).mono ?_;rintro E aj ⟨rfl,rfl⟩;go_wp2;refine ⟨⟨ab,ac⟩,?_⟩;refine Mixed.mo rfl (.string (⟨#[40]⟩++K++qeA n)) (fun w e=>by clear e;go_simp;omega) ?_;refine Mixed.mo rfl (.string (⟨#[40]⟩++K++qeA n++⟨#[41]⟩)) (fun w e=>by clear e;go_simp;omega) ?_;simp only [Mixed.qD8,Qq,Qy];go_wp2;go_ret;exact ⟨qaw U.o,ae.o⟩
theorem qBM (r n:Int) (h:qaT 6 r n=true) (w:World) :
  Calls prog 144 #[.agg #[.int .i64 6,.int .i64 r,.int .i64 n]] w fun y V=>y=.returned (.string (qd2 6 r n))/\Below w.heap.size w V:=by
 have G:=J9 (qaE 6 r n);rw [h] at G;have U : -32768<=n/\n<=65535:=by
  rw [quO] at h;simp only [Qh,Ql] at h;exact h.2
 obtain ⟨aa,Z⟩:=U;have K:qd2 6 r n=if n<0 then qeA n else qaM n:=by rw [qcd 6 r n h];rfl
 rw [K];clear K h;by_cases J:n<0
 ·rw [Qk J]
  go_enter func144,ntmps144
  go_wp2_with fail
  refine (G.o _).mono ?_;rintro y z ⟨rfl,e⟩;have E:Hid (Below w.heap.size w z):=(B0).trans (e.mono (by simp));obtain ⟨M,-⟩:=qcC e;have N:w.heap.size<z.heap.size:=by have:=e.size;simp at this;omega
  clear e
  go_wp2_with fail
  refine (qdB n (by omega) (by omega) _).mono ?_;rintro y O ⟨rfl,rfl⟩;go_wp2;go_ret;exact ⟨rfl,E.o⟩
 ·rw [Qd J]
  go_enter func144,ntmps144
  go_wp2_with fail
  refine (G.o _).mono ?_;rintro y z ⟨rfl,e⟩;have E:Hid (Below w.heap.size w z):=(B0).trans (e.mono (by simp));obtain ⟨M,-⟩:=qcC e;have N:w.heap.size<z.heap.size:=by have:=e.size;simp at this;omega
  clear e
  go_wp2_with fail
  refine (qdE n _).mono ?_;rintro y O ⟨rfl,rfl⟩;go_wp2;go_ret;exact ⟨rfl,E.o⟩
theorem qBX (r n:Int) (y:qaT 7 r n=true) (w:World) :
  Calls prog 144 #[.agg #[.int .i64 7,.int .i64 r,.int .i64 n]] w fun h K=>h=.returned (.string (qd2 7 r n))/\Below w.heap.size w K:=by
 have E:=J9 (qaE 7 r n);rw [y] at E;have G:qd2 7 r n=⟨#[40]⟩++qaM n++⟨#[41]⟩:=by rw [qcd 7 r n y];rfl
 have U:=qaz n;rw [G];clear G y
 go_enter func144,ntmps144
 go_wp2_with fail
 refine (E.o _).mono ?_;rintro h z ⟨rfl,e⟩;have J:Hid (Below w.heap.size w z):=(B0).trans (e.mono (by simp));obtain ⟨M,-⟩:=qcC e;have N:w.heap.size<z.heap.size:=by have:=e.size;simp at this;omega
 clear e
 go_wp2_with fail
 refine (qdE n _).mono ?_;rintro h O ⟨rfl,rfl⟩;go_wp2;go_ret;exact ⟨rfl,J.o⟩
theorem qy6 (r n:Int) (e:qaT 10 r n=true) (w:World) :
  Calls prog 144 #[.agg #[.int .i64 10,.int .i64 r,.int .i64 n]] w fun y M=>y=.returned (.string (qd2 10 r n))/\Below w.heap.size w M:=by
 have E:=J9 (qaE 10 r n);rw [e] at E;have K : -128<=n/\n<=127:=by
  rw [qww] at e;simp only [Qh,Ql] at e;exact e.2
 obtain ⟨aa,O⟩:=K;have G:qd2 10 r n=⟨#[36]⟩++qeA (n+2):=by rw [qcd 10 r n e];rfl
 have Z:=qcw (n+2);rw [G];clear G e
 go_enter func144,ntmps144
 go_wp2_with fail
 refine (E.o _).mono ?_;rintro y z ⟨rfl,h⟩;have J:Hid (Below w.heap.size w z):=(B0).trans (h.mono (by simp));obtain ⟨N,-⟩:=qcC h;have U:w.heap.size<z.heap.size:=by have:=h.size;simp at this;omega
 clear h
 go_wp2_with fail
 refine (qdB (n+2) (by omega) (by omega) _).mono ?_;rintro y V ⟨rfl,rfl⟩;go_wp2;go_ret;exact ⟨rfl,J.o⟩
theorem qot (k r n:Int) (h:qaT k r n=true):k=1\/k=2\/k=3\/k=4\/k=5\/k=6\/k=7\/k=8\/k=9\/k=10:=by
 unfold qaT at h;simp only [Qh,Ql] at h;omega
theorem qvx (k r n:Int) (w:World) :
  Calls prog 144 #[.agg #[.int .i64 k,.int .i64 r,.int .i64 n]] w fun h y=>h=.returned (.string (qd2 k r n))/\Below w.heap.size w y:=by
 cases e:qaT k r n
 ·exact qyz k r n e w
 ·rcases qot k r n e with rfl | rfl | rfl | rfl | rfl | rfl | rfl | rfl | rfl | rfl
  ·exact qBq r n e w
  ·exact qBK r n e w
  ·exact qA2 r n e w
  ·exact qBR r n e w
  ·exact qz5 r n e w
  ·exact qBM r n e w
  ·exact qBX r n e w
  ·exact qzT r n e w
  ·exact qAE r n e w
  ·exact qy6 r n e w
end Go.Proofs.YtjafbmfcedijmaaGreatDoor
namespace Go.Proofs.YtjafbmfcedijmaaGreatDoor
open Tryz
open Go.RowKit
theorem qsT {ex:Str} {L G:List Tr} {d n:Int} (O:qbx ex L=true) (J:qaZ ex L d n=some G):qdn (varsV ex).1.1 G=d/\qdn (varsV ex).2.1 G=n:=by
 obtain ⟨K,E,k,-⟩:=qbi J;constructor
 ·unfold qdn
  rw [qbt (varsV ex).1.1 K];cases h:atV (varsV ex).1.1 L with
  | none=>
   unfold qcN at E;rw [h] at E;simp only [Ql] at E;exact E.symm
  | some y=>
   have M:=qdy h;have z:=qbn O y M;unfold qdC at z;rw [Qk h] at z;simp only [Qh,Ql] at z;simp only;rw [qfa J y M,Qd z.2,Qk h]
 ·unfold qdn
  rw [qbt (varsV ex).2.1 K];cases h:atV (varsV ex).2.1 L with
  | none=>
   unfold qcN at k;rw [h] at k;simp only [Ql] at k;exact k.symm
  | some y=>
   simp only;rw [qfa J y (qdy h),Qk h]
theorem quT {m ex:Str} {L h:List Tr} {d n:Int} (G:qbx ex L=true) (y:qaZ ex L d n=some h):qqr m L ex (sB m) h=true:=by
 obtain ⟨z,E⟩:=qsT G y;unfold qqr;rw [z,E,y];simp
theorem quf {m ex:Str} {L C:List Tr} (G:qzD m L ex=true) {s:ByteArray} (K:qa3 m L ex s C=true):canL (opc s) C=C:=by
 unfold qa3 qfU at K;simp only [Qh,Ql,QR,QW] at K;obtain ⟨⟨rfl,J⟩,ad⟩:=K;have U:=qat J;unfold qzD at G;simp only [Qh,QR,QW] at G;obtain ⟨⟨⟨ab,M⟩,Z⟩,ac⟩:=G;have ah:accL (opc (sB m)) C=C:=by
  unfold accL;rw [Qd,Qd]
  ·rintro ⟨t,y⟩
   rw [t,U,y] at M;simp at M
  ·rintro ⟨t,y,-⟩
   rw [t,U,y] at ab;simp at ab
 have af:exL (opc (sB m)) C=C:=by
  unfold exL;rw [Qd];rintro ⟨t,y⟩;rw [t,J,y] at Z
  revert Z
  decide
 unfold canL;rw [ah,af]
 conv=>rhs;rw [<- List.map_id C]
 refine List.map_congr_left fun aj ai=>?_
 obtain ⟨h,aa,rfl⟩:=Zg ai;have V:h<L.length:=by omega
 have z:=ad h aa;have k:=ac h V;have O:=(qbI J h V).1;have ag:C.getD h tr0=C[h]:=by rw [Qo,Qi aa];rfl
 rw [ag] at z O;show wrapT _ C[h]=C[h];unfold wrapT;rw [Qd];rintro ⟨ae,-,ak⟩;simp only [Zp,Zn] at k;rcases k with k | k
 ·exact k (O.trans ae)
 ·unfold qhV at z
  by_cases E:letR ex L h=0
  ·rw [Qk E,Ql] at z
   rw [Qk E,Ql] at k;omega
  ·rw [Qd E,qaY,Qh,Ql] at z
   rw [Qd E,Ql] at k;omega
theorem qwN (d n:Int):qtF d n 100=[qc5 d]:=rfl
theorem qB1 (d n:Int):qtF d n 101=[qc5 n]:=rfl
theorem qwt (d n:Int):qtF d n 110=[qc5 n]:=rfl
theorem qBE (d n:Int):qtF d n 119=[qc5 n,qc5 (n / 256)]:=rfl
theorem qgu (c:UInt8):qc5 (sgB c)=c:=by
 have y:=qeV (sgB c);have:=c.toNat_lt;refine UInt8.toNat_inj.1 ?_;unfold sgB qtE at y |-;split at y <;> rename_i h
 ·rw [Qk h];omega
 ·rw [Qd h];omega
theorem qjo (c:UInt8):qc5 (c.toNat:Int)=c:=by
 have h:=qeV (c.toNat:Int);have:=c.toNat_lt;refine UInt8.toNat_inj.1 ?_;omega
theorem qma {t:Str} (u:1<=t.length):∃ h a,t=h :: a:=by
 cases t with
 | nil=>simp at u
 | cons h a=>exact ⟨h,a,rfl⟩
theorem qsO {t:Str} (a:2<=t.length):∃ b h u,t=b :: h :: u:=by
 match t,a with
 | [],a=>simp at a
 | [b],a=>simp at a
 | b :: h :: u,_=>exact ⟨b,h,u,rfl⟩
theorem qum {g:Int} {i:Nat} {ex:Str} (E:ExP g i ex) (t:Str) (h:(ex.flatMap (qtF 0 0)).length<=t.length):ex.flatMap (qtF (qdb ex t).1 (qdb ex t).2)=t.take (ex.flatMap (qtF 0 0)).length:=by
 rcases E.lst with rfl | rfl | rfl | rfl | rfl | rfl
 ·simp
 ·obtain ⟨a,t,rfl⟩:=qma h
  rw [qmR];simp only [List.flatMap_cons,List.flatMap_nil,qwN,List.getD_cons_zero,qgu];rfl
 ·obtain ⟨a,t,rfl⟩:=qma h
  rw [quz];simp only [List.flatMap_cons,List.flatMap_nil,qB1,List.getD_cons_zero,qgu];rfl
 ·obtain ⟨a,t,rfl⟩:=qma h
  rw [qvw];simp only [List.flatMap_cons,List.flatMap_nil,qwt,List.getD_cons_zero,qjo];rfl
 ·obtain ⟨a,b,t,rfl⟩:=qsO h
  rw [qtP];simp only [List.flatMap_cons,List.flatMap_nil,qBE,List.getD_cons_zero,List.getD_cons_succ];have K:=a.toNat_lt;have J:=b.toNat_lt;have M:=qeV ((a.toNat:Int)+256*(b.toNat:Int));have G:=qeV (((a.toNat:Int)+256*(b.toNat:Int)) / 256);have z:qc5 ((a.toNat:Int)+256*(b.toNat:Int))=a:=UInt8.toNat_inj.1 (by omega);have y:qc5 (((a.toNat:Int)+256*(b.toNat:Int)) / 256)=b:=UInt8.toNat_inj.1 (by omega);rw [z,y];rfl
 ·obtain ⟨a,b,t,rfl⟩:=qsO h
  rw [qni];simp only [List.flatMap_cons,List.flatMap_nil,qwN,qwt,List.getD_cons_zero,List.getD_cons_succ,qgu,qjo];rfl
theorem qxO {b:Str} {p:Int} {o:UInt8} {t:Str} {x:En} (U:hdB b=some (p,o,t)) (y:qaX p o.toNat=some x) (V:sizeT p x.2.2.1<=b.length) :
  ∃ C,qaZ x.2.2.1 x.2.1 (qdb x.2.2.1 t).1 (qdb x.2.2.1 t).2=some C/\b.take (sizeT p x.2.2.1)=qAs p (o.toNat:Int) x.2.2.1 (qdb x.2.2.1 t).1 (qdb x.2.2.1 t).2/\
   itR b=⟨1,b.take (sizeT p x.2.2.1),x.1,C,x.2.2.2⟩/\qcU (p,(o.toNat:Int),x.1,x.2.1,x.2.2.1,x.2.2.2):=by
 have J:o.toNat<256:=o.toNat_lt;have z:=qip J y;have G:qcU (p,(o.toNat:Int),x.1,x.2.1,x.2.2.1,x.2.2.2):=⟨o.toNat,J,rfl,y⟩;obtain ⟨C,O⟩:=qm6 z (qte J y) (qm5 z t);refine ⟨C,O,?_,?_,G⟩
 ·have h:=(qhd G (qdb x.2.2.1 t).1 (qdb x.2.2.1 t).2).1
  simp only at h;have u:=(qhd G 0 0).1;simp only at u;obtain ⟨aa,Z⟩:=qqE U;have M:qc5 (o.toNat:Int)=o:=qjo o;rcases Z with ⟨E,rfl⟩ | ⟨E,ac,ab,rfl,rfl⟩
  ·unfold qAs at h u |-
   rw [Qd E,M] at h u |-;rw [Qg,Qv] at u V;rw [qum z t (by omega)];rw [<- u];rw [List.take_append];rw [show (qaQ p).length+((x.2.2.1.flatMap (qtF 0 0)).length+1) - (qaQ p).length=(x.2.2.1.flatMap (qtF 0 0)).length+1 by omega,QJ (by omega),List.take_succ_cons]
  ·have K:=z.hi E
   unfold qAs at h |-;rw [Qk E,M] at h |-;rw [Qg] at h;simp only [Qv,QH] at h;rw [K,qmR];simp only [List.getD_cons_zero,qgu];rw [K] at h;rw [<- h,List.take_append,QJ (by omega)];rw [show (qaQ p).length+(0+1+1) - (qaQ p).length=2 by omega];rfl
 ·unfold itR
  rw [U];simp only [y,O,Option.getD_some];rw [Qd (by omega)]
theorem qxs {b:Str} (h:hdB b=none):b=[]\/(∃ c,b=[c]/\(c=203\/c=237\/c=221\/c=253))\/(∃ c,(c=221\/c=253)/\(b=[c,203]\/∃ x,b=[c,203,x])):=by
 cases b with
 | nil=>exact .inl rfl
 | cons c v=>
  simp only [hdB] at h;refine .inr ?_;split at h
  ·cases v with
   | nil=>exact .inl ⟨c,rfl,.inl ‹_›⟩
   | cons y u=>cases h
  ·split at h
   ·cases v with
    | nil=>exact .inl ⟨c,rfl,.inr (.inl ‹_›)⟩
    | cons y u=>cases h
   ·split at h
    ·rename_i r
     cases v with
     | nil=>exact .inl ⟨c,rfl,.inr (.inr (.inl r))⟩
     | cons y u=>
      simp only at h;split at h
      ·rename_i z
       subst z
       match u,h with
       | [],h=>exact .inr ⟨c,.inl r,.inl rfl⟩
       | [x],h=>exact .inr ⟨c,.inl r,.inr ⟨x,rfl⟩⟩
       | x :: E :: G,h=>cases h
      ·cases h
    ·split at h
     ·rename_i r
      cases v with
      | nil=>exact .inl ⟨c,rfl,.inr (.inr (.inr r))⟩
      | cons y u=>
       simp only at h;split at h
       ·rename_i z
        subst z
        match u,h with
        | [],h=>exact .inr ⟨c,.inr r,.inl rfl⟩
        | [x],h=>exact .inr ⟨c,.inr r,.inr ⟨x,rfl⟩⟩
        | x :: E :: G,h=>cases h
       ·cases h
     ·cases h
theorem qvT (b:Str):1<=needR b/\needR b<=4:=by
 cases p:hdB b with
 | none=>
  unfold needR;rw [p];simp only;split <;> omega
 | some x=>
  obtain ⟨q,h,y⟩:=x;rw [qeU p];cases t:qaX q h.toNat with
  | none=>simp only;split <;> omega
  | some o=>
   have:=qhd (k:=(q,(h.toNat:Int),o.1,o.2.1,o.2.2.1,o.2.2.2)) ⟨h.toNat,h.toNat_lt,rfl,t⟩ 0 0;exact ⟨this.2.1,this.2.2⟩
theorem qkd {b:Str} (J:b≠[]):(itR b).kind=4↔b.length<needR b:=by
 cases e:hdB b with
 | none=>
  have c:itR b=qbB 4 b:=by unfold itR;rw [e];try rfl
  rw [c];refine ⟨fun _=>?_,fun _=>rfl⟩;rcases qxs e with rfl | ⟨E,rfl,h⟩ | ⟨E,h,rfl | ⟨q,rfl⟩⟩
  ·exact absurd rfl J
  ·rcases h with rfl | rfl | rfl | rfl <;> decide
  ·rcases h with rfl | rfl <;> decide
  ·rcases h with rfl | rfl <;> (unfold needR;rw [e];simp)
 | some G=>
  obtain ⟨p,t,K⟩:=G;have O:=qqF e;rw [qeU e];unfold itR;rw [e];simp only;cases z:qaX p t.toNat with
  | none=>
   simp only;rcases qmN e z with x | ⟨M,rfl⟩
   ·rw [Qk x,Qk x]
    exact ⟨fun c=>(by cases c),fun c=>by omega⟩
   ·have y:¬rkindT 2 t.toNat=0:=by omega
    rw [Qd y,Qd y];have U:(qaQ 2).length=1:=rfl;exact ⟨fun c=>(by cases c),fun c=>by omega⟩
  | some q=>
   simp only;by_cases o:b.length<sizeT p q.2.2.1
   ·rw [Qk o];exact ⟨fun _=>o,fun _=>rfl⟩
   ·rw [Qd o];exact ⟨fun c=>(by cases c),fun c=>absurd c o⟩
theorem qxv {b:Str} (K:b≠[]):∃ j,1<=j/\j<=b.length/\(itR b).raw=b.take j/\((itR b).kind=4->j=b.length):=by
 have t:1<=b.length:=by cases b with | nil=>exact absurd rfl K | cons M G=>simp
 cases c:hdB b with
 | none=>
  refine ⟨b.length,t,Qa _,?_,fun _=>rfl⟩;unfold itR;rw [c];simp [qbB]
 | some J=>
  obtain ⟨q,o,G⟩:=J;have V:=qqF c;cases e:qaX q o.toNat with
  | none=>
   rcases qmN c e with z | ⟨O,rfl⟩
   ·refine ⟨1,Qa _,t,?_,?_⟩
    ·unfold itR;rw [c];simp only [e,Qk z,qbB]
    ·unfold itR;rw [c];simp only [e,Qk z,qbB];intro p;cases p
   ·have E:¬rkindT 2 o.toNat=0:=by omega
    have U:(qaQ 2).length=1:=rfl;refine ⟨2,by omega,by omega,?_,?_⟩
    ·unfold itR;rw [c];simp only [e,Qd E,qbB]
    ·unfold itR;rw [c];simp only [e,Qd E,qbB];intro p;cases p
  | some h=>
   have y:=qhd (k:=(q,(o.toNat:Int),h.1,h.2.1,h.2.2.1,h.2.2.2)) ⟨o.toNat,o.toNat_lt,rfl,e⟩ 0 0;simp only at y;by_cases x:b.length<sizeT q h.2.2.1
   ·refine ⟨b.length,t,Qa _,?_,fun _=>rfl⟩
    unfold itR;rw [c];simp only [e,Qk x,qbB,List.take_length]
   ·refine ⟨sizeT q h.2.2.1,y.2.1,by omega,?_,?_⟩
    ·unfold itR;rw [c];simp only [e,Qd x]
    ·unfold itR;rw [c];simp only [e,Qd x];intro p;cases p
theorem qbS {b:Str} (z:b≠[]):1<=(itR b).raw.length/\(itR b).raw.length<=b.length/\(itR b).raw=b.take (itR b).raw.length/\((itR b).kind=4->(itR b).raw.length=b.length):=by
 obtain ⟨y,J,E,h,j⟩:=qxv z;have G:(itR b).raw.length=y:=by rw [h,QD];omega
 rw [G];exact ⟨J,E,h,j⟩
def qeY:Nat->Str->List Ite
 | 0,_=>[]
 | _+1,[]=>[]
 | n+1,c :: t=>itR (c :: t) :: qeY n ((c :: t).drop (itR (c :: t)).raw.length)
def itemsR (b:Str):List Ite:=qeY b.length b
theorem qhh:∀ (n m:Nat) (b:Str),b.length<=n->b.length<=m->qeY n b=qeY m b
 | n,m,[],_,_=>by cases n <;> cases m <;> rfl
 | 0,m,h :: c,t,_=>by simp at t
 | n+1,0,h :: c,_,t=>by simp at t
 | n+1,m+1,h :: c,t,y=>by
  have z:=qbS (b:=h :: c) (by simp);have E:((h :: c).drop (itR (h :: c)).raw.length).length<=c.length:=by rw [Q1];simp only [Qv];omega
  show itR (h :: c) :: qeY n _=itR (h :: c) :: qeY m _;rw [qhh n m _ (by simp only [Qv] at t;omega) (by simp only [Qv] at y;omega)]
theorem qoS (n:Nat) (b:Str) (h:b.length<=n):qeY n b=qeY b.length b:=qhh n b.length b h (Qa _)
theorem qeR:itemsR []=[]:=rfl
theorem qfo {b:Str} (t:b≠[]):itemsR b=itR b :: itemsR (b.drop (itR b).raw.length):=by
 cases b with
 | nil=>exact absurd rfl t
 | cons h c=>
  have z:=qbS (b:=h :: c) (by simp);have y:((h :: c).drop (itR (h :: c)).raw.length).length<=c.length:=by rw [Q1];simp only [Qv];omega
  show itR (h :: c) :: qeY c.length _=_;rw [qoS c.length _ y];rfl
theorem qrh {P:Str->Prop} (y:P []) (G:∀ b,b≠[]->P (b.drop (itR b).raw.length)->P b) (b:Str):P b:=by
 have z:∀ h (b:Str),b.length<=h->P b:=fun h=>by
  induction h with
  | zero=>
   intro b E;have:b=[]:=Qu (by omega);subst this;exact y
  | succ h J=>
   intro b E;by_cases n:b=[]
   ·subst n;exact y
   ·have K:=qbS n
    exact G b n (J _ (by rw [Q1];omega))
 exact z b.length b (Qa _)
end Go.Proofs.YtjafbmfcedijmaaGreatDoor
namespace Go.Proofs.YtjafbmfcedijmaaGreatDoor
open Tryz
open Go.RowKit Go.Shelf
attribute [local go_sem] Oper.semAt_some
theorem qux {b:Str} (z:b≠[]) (y:(itR b).kind≠4):(itR b).raw.length=needR b:=by
 have M:1<=b.length:=by cases b;exact absurd rfl z;simp
 have h:=mt (qkd z).2 y;obtain ⟨G,t⟩:=N9 (hdB b);cases G with
 | none=>exact absurd (by unfold itR;rw [t];rfl) y
 | some K=>
  obtain ⟨o,q,E⟩:=K;rw [qeU t] at h |-;have J:itR b=match qaX o q.toNat with
   | none=>if rkindT o q.toNat=0 then qbB 2 (b.take 1) else qbB 3 (b.take 2)
   | some e=>if b.length<sizeT o e.2.2.1 then qbB 4 b else ⟨1,b.take (sizeT o e.2.2.1),e.1,(qaZ e.2.2.1 e.2.1 (qdb e.2.2.1 E).1 (qdb e.2.2.1 E).2).getD [],e.2.2.2⟩:=by
   unfold itR;rw [t];try rfl
   try rfl
  rw [J];cases x:qaX o q.toNat with
  | none=>
   rw [x] at h;simp only at h |-;by_cases p:rkindT o q.toNat=0
   ·rw [Qk p,Qk p]
    show (b.take 1).length=1;rw [QD];omega
   ·rw [Qd p,Qd p]
    rw [Qd p] at h;show (b.take 2).length=2;rw [QD];omega
  | some e=>
   rw [x] at h;simp only at h |-;rw [Qd h];show (b.take _).length=_;rw [QD];omega
end Go.Proofs.YtjafbmfcedijmaaGreatDoor
namespace Go.Col
open Go Go.RowKit
structure Kept (Q:Nat->Obj->Prop) (w w':World):Prop where
 os:w'.os=w.os
 tape:w'.tape=w.tape
 output:w'.output=w.output
 size:w.heap.size<=w'.heap.size
 block:∀ i o,w.heap[i]?=some o->Q i o->w'.heap[i]?=some o
variable {Q:Nat->Obj->Prop}
theorem Kept.refl (Q:Nat->Obj->Prop) (w:World):Kept Q w w:=⟨rfl,rfl,rfl,Qa _,fun _ _ h _=>h⟩
theorem Kept.trans {w w1 w2:World} (h:Kept Q w w1) (k:Kept Q w1 w2):Kept Q w w2:=
 ⟨k.os.trans h.os,k.tape.trans h.tape,k.output.trans h.output,Qm h.size k.size,fun o i z y=>k.block o i (h.block o i z y) y⟩
theorem Kept.qEK {w w':World} (h:Below w.heap.size w w'):Kept Q w w':=
 ⟨h.os,h.tape,h.output,h.size,fun o y i _=>(h.block o (Qb.1 i).1).trans i⟩
theorem Kept.grown {w w':World} {row:Option Nat} (e:w.grownBy w' row) (z:∀ k o,row=some k->w.heap[k]?=some o->¬Q k o):Kept Q w w':=
 ⟨e.os,e.tape,e.output,e.size,fun i o h E=>(e.block i (Qb.1 h).1 fun y=>z i o y.symm h E).trans h⟩
theorem Kept.putObj (W:World) (l:Nat) (o e:Obj) (x:W.heap[l]?=some o) (y:¬Q l o):Kept Q W (W.putObj l e):=
 Kept.grown (grownBy_putObj' W l e) fun E z k h=>by cases k;rw [x] at h;cases h;exact y
theorem Kept.below {B:Nat} {w w':World} (h:Kept (fun i _=>i<B) w w') (E:B<=w.heap.size):Below B w w':=
 ⟨h.os,h.tape,h.output,h.size,fun i z=>by
  obtain ⟨o,y⟩:∃ o,w.heap[i]?=some o:=⟨_,Array.getElem?_eq_getElem (by omega)⟩;rw [h.block i o y z,y]⟩
theorem qih {X Y:World} (k:Below X.heap.size X Y):X.grownBy Y none:=⟨k.os,k.tape,k.output,k.size,fun i h _=>k.block i h⟩
theorem qnu {w w':World} {e:TypeId} {h s k:Nat} {v:Value} {xs:List Value} (z:w.ownsRow h e s v k xs) {row:Option Nat} (J:w.grownBy w' row) (E:∀ r,row=some r->∃ o:Obj,w.heap[r]?=some o/\o.isCells=false):w'.ownsRow h e s v k xs:=by
 refine z.kept J ?_;rcases z.2 with ⟨g,_⟩ | ⟨M,V,U,g,_,O,_⟩
 ·rw [g];exact .inl rfl
 ·rw [g]
  refine .inr fun K=>?_
  obtain ⟨o,y,G⟩:=E M (by simpa [Value.ownBlock] using K.symm);rw [O] at y;cases y;cases G
def Col (S e:TypeId) (s:Nat) (w0:World) (i h n:Nat) (z:List Value) (W:World):Prop:=
 ∃ y,Boxed W i S y/\W.ownsRow h e s y n z/\Kept (fun v _=>v<h/\v≠i) w0 W
theorem Col.grown {S e:TypeId} {s:Nat} {w0:World} {h v n B:Nat} {z:List Value} {X Y:World} {row:Option Nat} (Z:Col S e s w0 h v n z X) (aa:v<=B) (y:X.grownBy Y row) (k:∀ r,row=some r->B<=r/\∃ o:Obj,X.heap[r]?=some o/\o.isCells=false):Col S e s w0 h v n z Y:=by
 obtain ⟨K,E,U,O⟩:=Z;refine ⟨K,?_,qnu U y fun r e=>(k r e).2,O.trans (Kept.grown y fun J o e _ V=>?_)⟩
 ·exact E.kept y fun e=>by
   obtain ⟨o,G,M⟩:=(k h e.symm).2;rw [show X.heap[h]?=_ from E] at G;cases G;cases M
 ·have:=(k J e).1
  have:=V.1;omega
theorem Col.below {S e:TypeId} {s:Nat} {w0:World} {r h n:Nat} {y:List Value} {X Y:World} (z:Col S e s w0 r h n y X) (k:Below X.heap.size X Y):Col S e s w0 r h n y Y:=
 z.grown (B:=h) (Qa _) (qih k) fun E e=>by cases e
theorem qfx {w w':World} (k:Below w.heap.size w w'):KeepsOthers w w':=⟨k.size,fun o y h _=>(k.block o (Qb.1 h).1).trans h⟩
theorem qhH {w w':World} {e:TypeId} {z s k:Nat} {v:Value} {xs:List Value} (G:w.ownsRow z e s v k xs) (o:w.grownBy w' v.ownBlock):KeepsOthers w w':=
 KeepsOthers.of_grownBy o fun y K h j=>by
  rcases G.2 with ⟨rfl,_⟩ | ⟨E,O,M,rfl,_,J,_⟩
  ·simp [Value.ownBlock] at h
  ·obtain rfl:E=y:=by simpa [Value.ownBlock] using h
   rw [J] at j;cases j;rfl
theorem qvb {w:World} {base n:Nat} {e:TypeId} {s:Nat} {v:Value} {xs:List Value} (y:w.ownsRow base e s v (n+1) xs):∃ g h,v=.slice (some ⟨g,0,none⟩) (n+1) h:=by
 rcases y.2 with ⟨_,z⟩ | ⟨g,h,E,rfl,_⟩
 ·omega
 ·exact ⟨g,h,rfl⟩
theorem qsi {P:Program} {e:TypeId} {z:Value} {s b:Nat} (h:(P.info? e).map (fun i=>(i.zero,i.size,i.bytes))=some (some z,s,b)):∃ i,P.info? e=some i/\i.zero=some z/\i.size=s/\i.bytes=b:=by
 cases y:P.info? e with
 | none=>rw [y] at h;cases h
 | some i=>rw [y] at h;simp only [Option.map_some,Qz,Zq] at h;exact ⟨i,rfl,h.1,h.2.1,h.2.2⟩
theorem Col.step {P:Program} {S e:TypeId} {s bytes:Nat} {aa:Value} (aq:P.underlying S=some (.slice e)) (an:(P.info? e).map (fun i=>(i.zero,i.size,i.bytes))=some (some aa,s,bytes)) (aB:aa.cells.size=s) (az:0<s) (aH:bytes<=100)
  {w0:World} {h r n:Nat} (aw:r<=w0.heap.size) (aT:h<r) (aM:n<=1000000000) {V:List Value} {W:World} {v:Value}
  (ai:Boxed W h S v) (aj:W.ownsRow r e s v n V) (ag:Kept (fun i _=>i<r/\i≠h) w0 W)
  (af:∀ i cs t aA,Q i (.cells cs t aA)->t≠e/\t≠S) {w2:World} (ab:Below W.heap.size W w2) (k:List Value) (aP:k.length=s) (G:∀ u∈k,u.oneCell'=true) (ty:TypeId) :
  ∃ g E j,(Builtin.append_ #[S,S] ty #[v,.slice (some ⟨w2.heap.size,0,none⟩) 1 1]).run P (w2.alloc (.cells k.toArray e))=.ok (.slice (some ⟨g,0,none⟩) (n+1) E) j/\
   Boxed w2 h S v/\Boxed j h S v/\
   (∀ B,KeepsFrom B W (j.setCell ⟨h,0,none⟩ (.slice (some ⟨g,0,none⟩) (n+1) E)))/\
   Kept Q W (j.setCell ⟨h,0,none⟩ (.slice (some ⟨g,0,none⟩) (n+1) E))/\
   Col S e s w0 h r (n+1) (V++k) (j.setCell ⟨h,0,none⟩ (.slice (some ⟨g,0,none⟩) (n+1) E)):=by
 obtain ⟨aC,ar,aJ,aE,aF⟩:=qsi an;have am:r<=W.heap.size:=Qm aw ag.size;have ao:Below w2.heap.size w2 (w2.alloc (.cells k.toArray e)):=B0;have K:Below W.heap.size W (w2.alloc (.cells k.toArray e)):=ab.trans (ao.mono ab.size);have ad:(w2.alloc (.cells k.toArray e)).ownsRow r e s v n V:=qnu aj (qih K) fun aL e=>by cases e
 have ak:Boxed w2 h S v:=(ab.block h ai.lt).trans ai;have av:∀ J u,k[J]?=some u->(w2.alloc (.cells k.toArray e)).cell? ((⟨w2.heap.size,0,none⟩:Addr).add J)=some u:=fun J u ax=>by
  have aG:(⟨w2.heap.size,0,none⟩:Addr).add J=⟨w2.heap.size,J,none⟩:=by unfold Addr.add;split <;> simp_all
  rw [aG];simpa [go_sem] using ax
 obtain ⟨aN,j,ay,Z,O,_,aO⟩:=run_append_own_at (P:=P) (w:=w2.alloc (.cells k.toArray e)) r S ty e aC aa s bytes aq ar aJ aE aF aB az v n _ ad ⟨w2.heap.size,0,none⟩ 1 1 k (by omega) av G
  (by unfold maxLen;omega) (by
   have:(n+1)*bytes<=1000000001*100:=Nat.mul_le_mul (by omega) aH;omega) (Qm am K.size)
 obtain ⟨g,E,rfl⟩:=qvb Z;have aQ:r<=g:=(Z.lt g rfl).1;have ah:∀ o,v.ownBlock=some o->r<=o:=fun o ae=>(aj.lt o ae).1
 have U:Boxed j h S v:=(ak.alloc _).kept O fun e=>by have:=ah h e.symm;omega
 have aD:Kept Q (w2.alloc (.cells k.toArray e)) j:=Kept.grown O fun o ac y M z=>by
  rcases ad.2 with ⟨G,_⟩ | ⟨ap,aR,aK,G,_,aI,_⟩
  ·rw [G] at y;simp [Value.ownBlock] at y
  ·rw [G] at y
   obtain rfl:ap=o:=by simpa [Value.ownBlock] using y
   rw [aI] at M;cases M;exact (af _ _ _ _ z).1 rfl
 have au:Kept Q j (j.setCell ⟨h,0,none⟩ (.slice (some ⟨g,0,none⟩) (n+1) E)):=Kept.grown (grownBy_setCell' j h _) fun o ac y M z=>by
  obtain rfl:=Qw y;rw [show j.heap[h]?=_ from U] at M;cases M;exact (af _ _ _ _ z).2 rfl
 refine ⟨g,E,j,ay,ak,U,fun B=>?_,((Kept.qEK K).trans aD).trans au,_,U.set _,?_,?_⟩
 ·exact (((qfx K).trans (qhH ad O)).trans (KeepsOthers.setCell _ _ _)).from B
 ·exact Z.kept (grownBy_setCell' j h _) (.inr fun e=>by
   have aS:g=h:=Qw e;omega)
 ·refine ag.trans ((Kept.qEK K).trans ((Kept.grown O fun o ac ae _ z=>?_).trans (Kept.grown (grownBy_setCell' j h _) fun o ac y _ z=>z.2 (Qw y).symm)))
  have:=ah o ae;have:=z.1;omega
theorem Col.start (S e:TypeId) (s:Nat) (w:World) (h:Nat) (z:h<w.heap.size) (y:Boxed w h S (.slice none 0 0)):Col S e s w h w.heap.size 0 [] w:=
 ⟨_,y,Zm _ _ _ _,Kept.refl _ _⟩
end Go.Col
namespace Go.Proofs.YtjafbmfcedijmaaGreatDoor
open Tryz
open Go.RowKit Go.Shelf
attribute [local go_sem] Oper.semAt_some
def qAp (o:Obj):Prop:=∃ y h,o=.cells y 282 h
abbrev KK:=Col.Kept fun _ h=>qAp h
end Go.Proofs.YtjafbmfcedijmaaGreatDoor
namespace Go.Proofs.YtjafbmfcedijmaaGreatDoor
open Tryz
open Go.RowKit Go.Shelf
attribute [local go_sem] Oper.semAt_some
end Go.Proofs.YtjafbmfcedijmaaGreatDoor
namespace Go.Proofs.YtjafbmfcedijmaaGreatDoor
open Tryz
open Go.RowKit
def qBB (s:ByteArray) (i:Nat):Int:=qD0 ((s.data.toList.getD i 0).toNat:Int)
def qDg (s:ByteArray) (j:Nat):Prop:=0<=qBB s (2*j)/\0<=qBB s (2*j+1)
instance (s:ByteArray) (j:Nat):Decidable (qDg s j):=inferInstanceAs (Decidable (_/\_))
def qoG (w:World) (xs:List UInt8) (ok:Bool) (e:Ending) (w':World):Prop:=∃ h y,e=.returned (.tuple #[.slice h xs.length y,.bool ok])/\qdg w' h xs/\Below w.heap.size w w'
def qly (w:World) (xs:List UInt8) (ok:Bool) (e:Ending) (w':World):Prop:=∃ h y,e=.returned (.tuple #[.slice h xs.length y,.bool ok])/\qdg w' h xs/\xs.length<=y/\qDF w h/\Below w.heap.size w w'
theorem qly.ok {w:World} {xs:List UInt8} {ok:Bool} {e:Ending} {w':World} (z:qly w xs ok e w'):qoG w xs ok e w':=by
 obtain ⟨h,A,G,E,_,_,y⟩:=z;exact ⟨h,A,G,E,y⟩
end Go.Proofs.YtjafbmfcedijmaaGreatDoor
namespace Go.Proofs.YtjafbmfcedijmaaGreatDoor.St
open Tryz
open Go.RowKit Go.Proofs.YtjafbmfcedijmaaGreatDoor
theorem below_drewN' (w:World) (q:Nat):Below w.heap.size w (w.drewN q):=⟨rfl,rfl,rfl,Qa _,fun _ _=>rfl⟩
def qzG (A:Option Addr) (l m:Nat):Option Addr:=if m=l then A else A.map (·.add (l*1))
theorem qsq (A:Option Addr) (m:Nat):qzG A 0 m=A:=by
 unfold qzG;split
 ·rfl
 ·cases A <;> simp [Addr.add]
theorem qwO:prog.elem 44=5:=by unfold Program.elem;rw [underlying44]
theorem qDd:prog.underlying 44=some (.slice (prog.elem 44)):=by rw [qwO];exact underlying44
theorem qCj (A:Option Addr) (h cap n:Nat) (y:n<=cap) (w:World) :
  (Instr.slice 44 (.slice A h cap) none (some (.int .i64 (n:Int))) none).run prog w=.ok (.slice A n cap) w:=by
 rw [run_slice_h w 44 A h cap qDd .i64 (n:Int) (by omega) (by omega),qwO,Tryz.sizeOf5];simp only [Result.andThen_ok,sliced];have e:=qsq A cap;unfold qzG at e;rw [e,show ((n:Int)).toNat - 0=n by omega,Nat.sub_zero]
structure KeptP (P:Nat->Prop) (w w':World):Prop where
 os:w'.os=w.os
 tape:w'.tape=w.tape
 output:w'.output=w.output
 size:w.heap.size<=w'.heap.size
 block:∀ i,i<w.heap.size->P i->w'.heap[i]?=w.heap[i]?
theorem KeptP.refl (P:Nat->Prop) (w:World):KeptP P w w:=⟨rfl,rfl,rfl,Qa _,fun _ _ _=>rfl⟩
theorem KeptP.trans {P:Nat->Prop} {w w1 w2:World} (h:KeptP P w w1) (k:KeptP P w1 w2):KeptP P w w2:=
 ⟨k.os.trans h.os,k.tape.trans h.tape,k.output.trans h.output,Qm h.size k.size,fun y i z=>(k.block y (Zo i h.size) z).trans (h.block y i z)⟩
theorem KeptP.mono {P Q:Nat->Prop} {w w':World} (h:KeptP P w w') (z:∀ i,i<w.heap.size->Q i->P i):KeptP Q w w':=⟨h.os,h.tape,h.output,h.size,fun i y E=>h.block i y (z i y E)⟩
theorem KeptP.of_below {P:Nat->Prop} {B:Nat} {w w':World} (h:Below B w w') (z:∀ i,i<w.heap.size->P i->i<B):KeptP P w w':=⟨h.os,h.tape,h.output,h.size,fun i y E=>h.block i (z i y E)⟩
theorem KeptP.qEK {P:Nat->Prop} {w w':World} (i:Below w.heap.size w w'):KeptP P w w':=KeptP.of_below i fun y h _=>h
theorem KeptP.below {P:Nat->Prop} {B:Nat} {w w':World} (h:KeptP P w w') (z:∀ i,i<B->P i) (E:B<=w.heap.size):Below B w w':=⟨h.os,h.tape,h.output,h.size,fun i y=>h.block i (by omega) (z i y)⟩
theorem KeptP.setCell {P:Nat->Prop} {w w':World} (i:KeptP P w w') {p:Addr} (y:¬P p.block) (u:Value):KeptP P w (w'.setCell p u):=
 i.trans ⟨rfl,rfl,rfl,by simp [World.setCell],fun E z h=>Below.heap_setCell _ _ _ _ (fun e=>y (e ▸ h))⟩
theorem KeptP.put {P:Nat->Prop} (w:World) (p:Addr) (h:¬P p.block) (u:Value):KeptP P w (w.setCell p u):=(KeptP.refl _ _).setCell h u
theorem KeptP.alloc {P:Nat->Prop} {w w':World} (i:KeptP P w w') (o:Obj):KeptP P w (w'.alloc o):=
 i.trans ⟨rfl,rfl,rfl,by simp,fun y h _=>Below.heap_alloc _ _ _ h⟩
theorem KeptP.drew {P:Nat->Prop} {w w':World} (h:KeptP P w w'):KeptP P w w'.drew:=⟨h.os,h.tape,h.output,h.size,h.block⟩
theorem KeptP.drewN {P:Nat->Prop} {w w':World} (h:KeptP P w w') (n:Nat):KeptP P w (w'.drewN n):=⟨h.os,h.tape,h.output,h.size,h.block⟩
theorem KeptP.grown {P:Nat->Prop} {w w1 w2:World} {row:Option Nat} (E:KeptP P w w1) (e:w1.grownBy w2 row) (y:∀ k,row=some k->¬P k):KeptP P w w2:=
 E.trans ⟨e.os,e.tape,e.output,e.size,fun h z G=>e.block h z (fun i=>y h i.symm G)⟩
theorem KeptP.cell {P:Nat->Prop} {w w':World} (y:KeptP P w w') {p:Addr} (h:p.block<w.heap.size) (z:P p.block):w'.cell? p=w.cell? p:=QN (w:=w) (y.block p.block h z)
theorem KeptP.frozen {P:Nat->Prop} {w w':World} (y:KeptP P w w') {p:Addr} (h:p.block<w.heap.size) (z:P p.block):w'.frozen? p=w.frozen? p:=World.frozen?_of_block (w:=w) (y.block p.block h z)
def qaf (P:Nat->Prop) (w:World) (A:Option Addr) (xs:List UInt8):Prop:=
 xs=[]\/∃ b j,A=some ⟨b,j,none⟩/\P b/\∀ h (y:h<xs.length),w.cell? ⟨b,j+h,none⟩=some (.int .u8 (xs[h].toNat:Int))
theorem qaf.at_ {P:Nat->Prop} {w:World} {A:Option Addr} {xs:List UInt8} (E:qaf P w A xs) {k:Nat} (y:k<xs.length):∃ b h,A=some ⟨b,h,none⟩/\w.cell? ⟨b,h+k,none⟩=some (.int .u8 (xs[k].toNat:Int)):=by
 rcases E with rfl | ⟨b,h,rfl,_,z⟩
 ·simp at y
 ·exact ⟨b,h,rfl,z k y⟩
theorem qaf.mono {P Q:Nat->Prop} {w:World} {A:Option Addr} {xs:List UInt8} (z:qaf P w A xs) (G:∀ i,i<w.heap.size->P i->Q i):qaf Q w A xs:=by
 by_cases y:xs=[]
 ·exact .inl y
 ·rcases z with rfl | ⟨h,E,rfl,J,b⟩
  ·exact .inl rfl
  ·exact .inr ⟨h,E,rfl,G h (Qp w _ (b 0 (Q9.2 y))) J,b⟩
theorem qaf.blocks {P:Nat->Prop} {w w':World} {A:Option Addr} {xs:List UInt8} (G:qaf P w A xs) (E:∀ i,i<w.heap.size->P i->w'.heap[i]?=w.heap[i]?):qaf P w' A xs:=by
 rcases G with rfl | ⟨h,J,rfl,z,b⟩
 ·exact .inl rfl
 ·refine .inr ⟨h,J,rfl,z,fun j y=>?_⟩
  exact (QN (w:=w) (E h (Qp w _ (b j y)) z)).trans (b j y)
theorem qaf.below {P:Nat->Prop} {w w':World} {A:Option Addr} {xs:List UInt8} (y:qaf P w A xs) (z:Below w.heap.size w w'):qaf P w' A xs:=y.blocks fun i h _=>z.block i h
theorem qaf.kept {P Q:Nat->Prop} {w w':World} {A:Option Addr} {xs:List UInt8} (y:qaf P w A xs) (z:KeptP Q w w') (E:∀ i,i<w.heap.size->P i->Q i):qaf P w' A xs:=y.blocks fun i h G=>z.block i h (E i h G)
theorem qaf.drewN {P:Nat->Prop} {w:World} {A:Option Addr} {xs:List UInt8} (h:qaf P w A xs) (n:Nat):qaf P (w.drewN n) A xs:=h.blocks fun _ _ _=>rfl
def strOf (xs:List UInt8):ByteArray:=⟨xs.toArray⟩
theorem qEo (x:List UInt8):(strOf x).data.toList=x:=by simp [strOf]
theorem qEP (s:ByteArray):strOf s.data.toList=s:=by apply qaB;rw [qEo]
def Bld (b:Nat) (w:World) (p v:Value) (h:List UInt8):Prop:=
 w.heap[b]?=some (.cells #[p,v] 187 (0,0))/\w.ownsRow 0 5 1 v h.length (h.map u8V)/\v.ownBlock≠some b
def qdl (b:Nat):Value:=.pointer (some ⟨b,0,none⟩)
theorem Bld.lt {b:Nat} {w:World} {p v:Value} {y:List UInt8} (h:Bld b w p v y):b<w.heap.size:=lt_of_block h.1
theorem Bld.c0 {b:Nat} {w:World} {p v:Value} {y:List UInt8} (h:Bld b w p v y):w.cell? ⟨b,0,none⟩=some p:=by rw [C9 h.1];rfl
theorem Bld.c1 {b:Nat} {w:World} {p v:Value} {y:List UInt8} (h:Bld b w p v y):w.cell? ⟨b,1,none⟩=some v:=by rw [C9 h.1];rfl
theorem Bld.f {b:Nat} {w:World} {p v:Value} {y:List UInt8} (h:Bld b w p v y) (j:Nat):w.frozen? ⟨b,j,none⟩=false:=Qr h.1 j
theorem Bld.shape {b:Nat} {w:World} {p v:Value} {y:List UInt8} (h:Bld b w p v y):w.shape? b=some (187,2):=by simp [World.shape?,h.1]
theorem Bld.fresh (w:World) (n:Nat) (h:w.heap.size=n):Bld n (w.alloc (.cells #[.pointer none,.slice none 0 0] 187)) (.pointer none) (.slice none 0 0) []:=by
 subst h;exact ⟨heap_alloc_new w _,Zm _ _ _ _,by simp [Value.ownBlock]⟩
theorem Bld.set0 {b:Nat} {w:World} {p v:Value} {h:List UInt8} (E:Bld b w p v h) (q:Value):Bld b (w.setCell ⟨b,0,none⟩ q) q v h:=by
 obtain ⟨G,y,e⟩:=E;refine ⟨by simp [World.setCell,Array.getElem?_modify,G],?_,e⟩;exact y.kept (row:=some b) ⟨rfl,rfl,rfl,by simp [World.setCell],fun J _ z=>Below.heap_setCell _ _ _ _ (fun k=>z (by simp [k]))⟩ (Or.inr e)
theorem qA8:(187 : TypeId)≠5:=by decide
theorem Bld.set1 {b:Nat} {w:World} {p v h:Value} {e:List UInt8} (z:w.heap[b]?=some (.cells #[p,v] 187 (0,0))) (y:w.ownsRow 0 5 1 h e.length (e.map u8V)):Bld b (w.setCell ⟨b,1,none⟩ h) p h e:=by
 have k:=Lib.ownBlock_ne y z qA8;refine ⟨by simp [World.setCell,Array.getElem?_modify,z],?_,k⟩;exact y.kept (row:=some b) ⟨rfl,rfl,rfl,by simp [World.setCell],fun J _ G=>Below.heap_setCell _ _ _ _ (fun E=>G (by simp [E]))⟩ (Or.inr k)
theorem Bld.kept {b:Nat} {P:Nat->Prop} {w w':World} {p v:Value} {r:List UInt8} (aa:Bld b w p v r) (k:KeptP P w w') (J:P b) (V:∀ g,v.ownBlock=some g->P g):Bld b w' p v r:=by
 obtain ⟨y,Z,O⟩:=aa;refine ⟨(k.block b (lt_of_block y) J).trans y,?_,O⟩;obtain ⟨K,h⟩:=Z;refine ⟨K,?_⟩;rcases h with h | ⟨g,G,E,rfl,M,z,U⟩
 ·exact .inl h
 ·exact .inr ⟨g,G,E,rfl,M,(k.block g (lt_of_block z) (V g rfl)).trans z,U⟩
theorem qek:∃ h,prog.info? 187=some h/\h.size=2:=Option.map_eq_some_iff.1 (show (prog.info? 187).map (·.size)=some 2 by kernel_rfl)
theorem qhE:liesAt prog prog.depth 187 (2 / prog.cellsOf 187) 0 187 1=true:=by kernel_rfl
theorem qhU (b:Nat) (w:World) (v:Value) (E:List UInt8) (e:Bld b w (qdl b) v E) :
  Calls prog 180 #[.pointer (some ⟨b,0,none⟩)] w fun h y=>h=.returned (.tuple #[])/\w=y:=by
 obtain ⟨G,z,_⟩:=qek;have j:=e.c0;unfold qdl at j;have J:=Lib.run_neq_ptr_same (P:=prog) w ⟨b,0,none⟩ underlying185 z;clear e
 go_enter func180,ntmps180
 go_wp2
 go_end0
 exact ⟨rfl,rfl⟩
theorem qgL (b:Nat) (w:World) (v:Value) (G:List UInt8) (h:Bld b w (.pointer none) v G) :
  Calls prog 180 #[.pointer (some ⟨b,0,none⟩)] w fun e E=>e=.returned (.tuple #[])/\w.setCell ⟨b,0,none⟩ (.pointer (some ⟨b,0,none⟩))=E:=by
 obtain ⟨J,y,z⟩:=qek;have K:=h.c0;have M:=h.f 0;have j:=h.shape;clear h
 go_enter func180,ntmps180
 go_wp2;rw [Lib.run_to_unsafe w ⟨b,0,none⟩ underlying185 underlying280 y (by rw [z];decide) j (Nat.zero_lt_succ 1)];simp only [Result.andThen];rw [Oper.upon_value];go_wp2;rw [run_callFunc_extern func221 (by kernel_rfl) (by kernel_rfl) (by kernel_rfl) (e:=Extern.AbiNoEscape.same) (by kernel_rfl)];rw [Lib.run_noEscape];simp only [Result.andThen];rw [Oper.upon_value];go_wp2;rw [Lib.run_from_unsafe w ⟨b,0,none⟩ underlying280 underlying185 y j qhE];simp only [Result.andThen];rw [Oper.upon_value];go_wp2
 go_end0
 exact ⟨rfl,rfl⟩
theorem qfS (s:ByteArray):Lib.strCells s=s.data.toList.map u8V:=rfl
theorem qys {w:World} {v:Value} {b:List UInt8} (V:w.ownsRow 0 5 1 v b.length (b.map u8V)) (s:ByteArray) (aj:b.length+s.size<=140737488355328) (ty:TypeId) :
  ∃ h y,(Builtin.append_ #[44,9] ty #[v,.string s]).run prog w=.ok h y/\y.ownsRow 0 5 1 h (b++s.data.toList).length ((b++s.data.toList).map u8V)/\w.grownBy y v.ownBlock/\
   ∀ g,h.ownBlock=some g->v.ownBlock=some g\/w.heap.size<=g:=by
 obtain ⟨J,z,Z,K,U⟩:=info_parts qja;have ag:b.length+s.size<=maxLen:=by unfold maxLen;omega
 obtain ⟨h,y,E,ac,ai,_⟩:=Lib.run_append_own_string (P:=prog) w 0 44 9 ty 5 J underlying44 underlying9 z Z K U v b.length (b.map u8V) V s ag aj (Qs _);refine ⟨h,y,E,?_,ai,?_⟩
 ·rw [qfS] at ac
  rw [Qg,Zc];have e:s.data.toList.length=s.size:=by simp
  rw [e];exact ac
 ·intro g O
  rcases V.2 with ⟨rfl,ar⟩ | ⟨G,M,af,rfl,ap,ah,au,aw,an,av⟩
  ·obtain ⟨aq,ao,u,ak,_⟩:=Lib.run_append_own_string (P:=prog) w w.heap.size 44 9 ty 5 J underlying44 underlying9 z Z K U (.slice none 0 0) 0 [] (Zm _ _ _ _) s (by unfold maxLen;omega) (by omega) (Qa _)
   have e:=E.symm.trans u;injection e with j ad
   subst j;exact .inr (ak.lt g O).1
  ·by_cases am:b.length+s.size<=M
   ·have u:=Lib.run_append_room_string (P:=prog) w 44 9 ty 5 J underlying44 underlying9 z K G b.length M af ah s am (by omega)
    have e:=E.symm.trans u;injection e with j ad
    subst j;exact .inl O
   ·have ae:∀ aa ab,(b.map u8V)[aa]?=some ab->w.cell? ((⟨G,0,none⟩:Addr).add aa)=some ab:=V.cells (g:=G) rfl
    have u:=Lib.run_append_grow_string (P:=prog) w 44 9 ty 5 J (.int .u8 0) underlying44 underlying9 z Z ⟨G,0,none⟩ b.length M (b.map u8V) (by rw [K];simp) ae s (by omega) (by omega) (by rw [U];exact growslice_fits (by omega) (by omega));have e:=E.symm.trans u;injection e with j ad
    subst j;simp only [Value.ownBlock,Qz] at O;exact .inr (by omega)
theorem qed {w w1:World} {t u ty:TypeId} {v h:Value} {s:ByteArray} (E:(Builtin.append_ #[t,u] ty #[v,.string s]).run prog w=.ok h w1) {ops:Array Oper} {rest:List Oper} {o:Oper} {a:Act} {Q:Exit->Act->World->Prop} (O:o.guard=none) (sl x:Operand)
  (J:o.op=.call {callee:=.builtin .append,args:=#[sl,x],argTypes:=#[t,u]}) (M:o.type=ty) (G:a.eval sl=v) (z:a.eval x=.string s) (K:wpList prog ops Q rest (a.put o.dst h) w1):wpList prog ops Q (o :: rest) a w:=by
 subst M;refine wpList_plain O fun U y=>?_
 unfold Oper.wp;simp [execOp,J,resolve,invoke,builtin,G,z,E,Result.andThen];exact y _ _ K
theorem qnL:prog.cellsOf 5=1:=by kernel_rfl
theorem qmG (B b:Nat) (w:World) (p v:Value) (e:List UInt8) (E:e≠[]) (ag:Bld b w p v e) (z:∀ g,v.ownBlock=some g->B<=g) :
  Calls prog 125 #[.pointer (some ⟨b,0,none⟩)] w fun ad ah=>ad=.returned (.string (strOf e))/\Below B w ah:=by
 obtain ⟨x,r,M⟩:=ag;have U:e.length≠0:=by simpa using E
 obtain ⟨g,h,j,rfl,-,y,aj,aa,K,ae⟩:∃ g h j,v=.slice (some ⟨g,0,none⟩) e.length h/\0<=g/\w.heap[g]?=some (.cells j 5 (0,0))/\e.length<=h/\h<=maxLen/\j.size=h*1/\j.toList.take (e.length*1)=e.map u8V:=by
  rcases r.2 with ⟨_,V⟩ | ⟨g,h,j,af,O⟩
  ·exact absurd V U
  ·exact ⟨g,h,j,af,O⟩
 have am:w.drew.cell? ⟨b,1,none⟩=some (.slice (some ⟨g,0,none⟩) e.length h):=by
  have:w.drew.heap[b]?=some (.cells #[p,.slice (some ⟨g,0,none⟩) e.length h] 187 (0,0)):=x;rw [C9 this];rfl
 have ak:(Builtin.unsafeSliceData_ #[44] 238 #[.slice (some ⟨g,0,none⟩) e.length h]).run prog w.drew=.ok (.pointer (some ⟨g,0,none⟩)) w.drew:=
  Lib.run_unsafeSliceData_row _ _ _ _ _ _ (by omega)
 have ai:(Builtin.unsafeString_ #[238,3] 9 #[.pointer (some ⟨g,0,none⟩),.int .i64 e.length]).run prog w.drew=.ok (.string (strOf e)) (w.drew.freeze ⟨g,0,none⟩ e.length):=by
  refine Lib.run_unsafeString_row w.drew 238 3 9 5 underlying238 qnL g j.size (by have G:w.drew.heap[g]?=some (.cells j 5 (0,0)):=y;simp [World.shape?,G]) e E (by omega) (by unfold maxLen at aa;omega) ?_;intro N ab J;have:=r.cells (g:=g) rfl N (.int .u8 ab.toNat) (by simp [u8V,J]);exact this
 have Z:=z g rfl;have ac:Hid (Below B w (w.drew.freeze ⟨g,0,none⟩ e.length)):=Lib.below_freeze (Below.drew (Qc B w)) (p:=⟨g,0,none⟩) Z _;clear z x r M y ae K
 go_enter func125,ntmps125
 go_wp2
 go_region
 all_goals (go_wp2;go_ret;exact ⟨rfl,ac.o⟩)
theorem run_append_nothing (w:World) (base:Nat) (t ty e:TypeId) (size:Nat) (y:prog.underlying t=some (.slice e)) (h:∀ w,(sizeOf e).run prog w=.ok size w)
  (v:Value) (n:Nat) (xs:List Value) (z:w.ownsRow base e size v n xs) (A:Option Addr) (c:Nat) :
  (Builtin.append_ #[t,t] ty #[v,.slice A 0 c]).run prog w=.ok v w:=by
 have x:∀ g,(loadCells g 0).run prog w=.ok #[] w:=fun g=>by simpa using run_loadCells_list (P:=prog) w g [] (by simp)
 rcases z.2 with ⟨rfl,U⟩ | ⟨O,J,G,rfl,M,K,E,V,_⟩
 ·cases A <;> simp [Builtin.append_,run_underlying y,h,Builtin.lenOf,Builtin.firstCells,x]
 ·cases A <;> simp [Builtin.append_,run_underlying y,h,Builtin.lenOf,Builtin.firstCells,x,E,storeCells] <;> omega
theorem qau (w:World) (base:Nat) (t ty e:TypeId) (i:TypeInfo) (E:Value) (size bytes:Nat) (M:prog.underlying t=some (.slice e)) (K:prog.info? e=some i) (ag:i.zero=some E)
  (J:i.size=size) (aj:i.bytes=bytes) (am:E.cells.size=size) (U:0<size)
  (v:Value) (n:Nat) (xs:List Value) (G:w.ownsRow base e size v n xs)
  (A:Option Addr) (m c:Nat) (h:List Value) (ad:h.length=m*size) (ac:m=0\/∃ a,A=some a/\∀ j u,h[j]?=some u->w.cell? (a.add j)=some u) (aa:∀ u∈h,u.oneCell'=true)
  (Z:n+m<=maxLen) (af:(n+m)*bytes<=140737488355328) (ah:base<=w.heap.size) :
  ∃ z y,(Builtin.append_ #[t,t] ty #[v,.slice A m c]).run prog w=.ok z y/\y.ownsRow base e size z (n+m) (xs++h)/\w.grownBy y v.ownBlock:=by
 by_cases O:m=0
 ·subst O
  have ak:h=[]:=Qu (by omega);subst ak;refine ⟨v,w,run_append_nothing w base t ty e size M (fun w=>?_) v n xs G A c,?_,World.grownBy.refl _ _⟩
  ·simp [sizeOf,typeInfo,K,J]
  ·simpa using G
 ·obtain ⟨a,rfl,ai⟩:=ac.resolve_left O
  obtain ⟨z,y,ae,ab,V,_⟩:=run_append_own (P:=prog) w base t ty e i E size bytes M K ag J aj am U v n xs G a m c h ad ai aa Z af ah;exact ⟨z,y,ae,ab,V⟩
theorem qag {w w1:World} {t ty:TypeId} {v y h:Value} (G:(Builtin.append_ #[t,t] ty #[v,y]).run prog w=.ok h w1) {ops:Array Oper} {rest:List Oper} {o:Oper} {a:Act} {Q:Exit->Act->World->Prop} (U:o.guard=none) (s x:Operand)
  (K:o.op=.call {callee:=.builtin .append,args:=#[s,x],argTypes:=#[t,t]}) (O:o.type=ty) (J:a.eval s=v) (E:a.eval x=y) (M:wpList prog ops Q rest (a.put o.dst h) w1):wpList prog ops Q (o :: rest) a w:=by
 subst O;refine wpList_plain U fun V z=>?_
 unfold Oper.wp;simp [execOp,K,resolve,invoke,builtin,J,E,G,Result.andThen];exact z _ _ M
theorem qaf.news {P:Nat->Prop} {w:World} {A:Option Addr} {xs:List UInt8} (G:qaf P w A xs):xs.length=0\/∃ a,A=some a/\∀ j h,(xs.map u8V)[j]?=some h->w.cell? (a.add j)=some h:=by
 rcases G with rfl | ⟨u,y,rfl,_,E⟩
 ·exact .inl rfl
 ·refine .inr ⟨_,rfl,fun j h b=>?_⟩
  have J:(⟨u,y,none⟩:Addr).add j=⟨u,y+j,none⟩:=by unfold Addr.add;split <;> simp_all
  rw [Za] at b;by_cases z:j<xs.length
  ·rw [Qi z] at b
   simp only [Option.map_some,Qz] at b;subst b;rw [J];exact E j z
  ·rw [List.getElem?_eq_none (by omega)] at b;cases b
def qlD (w:World) (xs:List UInt8) (e:Ending) (w':World):Prop:=∃ h y,e=.returned (.slice h xs.length y)/\qaf (w.heap.size<=·) w' h xs/\Below w.heap.size w w'
theorem qeF (b:Nat) (w:World) (p v:Value) (y:List UInt8) (E:p=qdl b\/p=.pointer none) (h:Bld b w p v y) :
  Calls prog 180 #[.pointer (some ⟨b,0,none⟩)] w fun z e=>z=.returned (.tuple #[])/\Bld b e (qdl b) v y/\KeptP (·≠b) w e/\e.heap.size=w.heap.size:=by
 rcases E with rfl | rfl
 ·refine (qhU b w v y h).mono ?_
  rintro z e ⟨rfl,rfl⟩;exact ⟨rfl,h,KeptP.refl _ _,rfl⟩
 ·refine (qgL b w v y h).mono ?_
  rintro z e ⟨rfl,rfl⟩;exact ⟨rfl,h.set0 _,KeptP.put _ _ (by simp) _,by simp [World.setCell]⟩
structure BJ (B b:Nat) (w wr:World) (v:Value) (bs:List UInt8):Prop where
 bld:∃ p,(p=qdl b\/p=.pointer none)/\Bld b wr p v bs
 own:∀ g,v.ownBlock=some g->B<=g
 below:Below B w wr
 hb:B<=b
 hw:B<=w.heap.size
theorem BJ.start (w:World):BJ w.heap.size w.heap.size w (w.alloc (.cells #[.pointer none,.slice none 0 0] 187)) (.slice none 0 0) []:=
 ⟨⟨_,.inr rfl,Bld.fresh w _ rfl⟩,fun h g=>by simp [Value.ownBlock] at g,B0,Qa _,Qa _⟩
theorem BJ.more {B b:Nat} {w wr w':World} {v:Value} {p:List UInt8} (K:BJ B b w wr v p) (k:Below wr.heap.size wr w'):BJ B b w w' v p:=by
 obtain ⟨⟨G,z,E⟩,M,h,J,y⟩:=K;exact ⟨⟨G,z,E.kept (KeptP.qEK k) trivial fun _ _=>trivial⟩,M,h.trans (k.mono (Qm y h.size)),J,y⟩
theorem qyy {B b:Nat} {w w':World} {v:Value} (z:KeptP (fun i=>i≠b/\some i≠v.ownBlock) w w') (G:B<=b) (y:∀ g,v.ownBlock=some g->B<=g) (h:B<=w.heap.size):Below B w w':=
 z.below (fun i E=>⟨by omega,fun e=>by have:=y i e.symm;omega⟩) h
theorem BJ.str {B b:Nat} {w wr:World} {v:Value} {g:List UInt8} (e:BJ B b w wr v g) (s:ByteArray) (ae:g.length+s.size<=140737488355328) :
  Calls prog 124 #[.pointer (some ⟨b,0,none⟩),.string s] wr fun k aw=>k=.returned (.tuple #[.int .i64 s.size,.nilIface])/\∃ h,BJ B b w aw h (g++s.data.toList):=by
 obtain ⟨⟨aq,an,aj⟩,ah,ag,Z,V⟩:=e;have ak:=qeF b wr aq v g an aj;have ap:=J9 (Zf ah (Zf ag (Zf Z V)));clear an aj ah ag Z V
 go_enter func124,ntmps124
 go_wp2_with fail
 refine ak.mono ?_;rintro k aF ⟨rfl,e,y,ar⟩;clear ak;obtain ⟨h,p,M,z,E,ai⟩:=qys e.2.1 s ae 44;have af:=e.lt;have i:p.heap[b]?=some (.cells #[qdl b,v] 187 (0,0)):=by
  rw [E.block b af (fun k=>e.2.2 k.symm)];exact e.1
 have aG:=e.c1;have ay:p.cell? ⟨b,1,none⟩=some v:=by rw [C9 i];rfl
 have aD:p.frozen? ⟨b,1,none⟩=false:=Qr i 1;have ac:=Bld.set1 i z;have av:Hid (BJ B b w (p.setCell ⟨b,1,none⟩ h) h (g++s.data.toList)):=by
  obtain ⟨K,am,O,U⟩:=ap.o;have aE:=Qm U am.size;refine ⟨⟨_,.inl rfl,ac⟩,fun G au=>?_,?_,O,U⟩
  ·rcases ai G au with N | N
   ·exact K G N
   ·omega
  ·refine am.trans (qyy (b:=b) (v:=v) ((y.mono fun az _ ao=>ao.1).trans (((KeptP.refl _ _).grown E (fun aA y e=>e.2 y.symm)).setCell (fun e=>e.1 rfl) _)) O K (by omega))
 have HR:=J9 M;obtain ⟨aa,ad,ab,ax⟩:∃ aa ad ab,h=.slice aa ad ab:=by
  rcases z.2 with ⟨J,_⟩ | ⟨G,aC,aB,J,_⟩
  ·exact ⟨_,_,_,J⟩
  ·exact ⟨_,_,_,J⟩
 subst ax;clear ac y ar ai M z E i e af ae
 go_wp2_with (at_builtin;refine qed HR.o rfl _ _ rfl rfl rfl rfl ?_)
 go_ret2
 exact ⟨rfl,_,av.o⟩
theorem BJ.string {B b:Nat} {w wr:World} {v:Value} {e:List UInt8} (K:BJ B b w wr v e) (G:e≠[]) :
  Calls prog 125 #[.pointer (some ⟨b,0,none⟩)] wr fun h p=>h=.returned (.string (strOf e))/\Below B w p:=by
 obtain ⟨⟨E,U,y⟩,J,z,O,-⟩:=K;refine (qmG B b wr E v e G y J).mono ?_;rintro h p ⟨rfl,M⟩;exact ⟨rfl,z.trans M⟩
def qf7 (P:Nat->Prop) (w:World) (A:Option Addr) (h:List ByteArray):Prop:=
 h=[]\/∃ b y,A=some ⟨b,y,none⟩/\P b/\∀ j (z:j<h.length),w.cell? ⟨b,y+j,none⟩=some (.string h[j])
theorem qf7.at_ {P:Nat->Prop} {w:World} {A:Option Addr} {y:List ByteArray} (G:qf7 P w A y) {k:Nat} (z:k<y.length):∃ b h,A=some ⟨b,h,none⟩/\w.cell? ⟨b,h+k,none⟩=some (.string y[k]):=by
 rcases G with rfl | ⟨b,h,rfl,_,E⟩
 ·simp at z
 ·exact ⟨b,h,rfl,E k z⟩
theorem qf7.mono {P Q:Nat->Prop} {w:World} {A:Option Addr} {b:List ByteArray} (E:qf7 P w A b) (J:∀ i,i<w.heap.size->P i->Q i):qf7 Q w A b:=by
 by_cases z:b=[]
 ·exact .inl z
 ·rcases E with rfl | ⟨y,G,rfl,K,h⟩
  ·exact .inl rfl
  ·exact .inr ⟨y,G,rfl,J y (Qp w _ (h 0 (Q9.2 z))) K,h⟩
theorem qf7.blocks {P:Nat->Prop} {w w':World} {A:Option Addr} {j:List ByteArray} (J:qf7 P w A j) (G:∀ i,i<w.heap.size->P i->w'.heap[i]?=w.heap[i]?):qf7 P w' A j:=by
 rcases J with rfl | ⟨h,K,rfl,E,b⟩
 ·exact .inl rfl
 ·refine .inr ⟨h,K,rfl,E,fun y z=>?_⟩
  exact (QN (w:=w) (G h (Qp w _ (b y z)) E)).trans (b y z)
theorem qf7.below {P:Nat->Prop} {w w':World} {A:Option Addr} {h:List ByteArray} (z:qf7 P w A h) (E:Below w.heap.size w w'):qf7 P w' A h:=z.blocks fun y i _=>E.block y i
theorem qAX (g n cap:Nat) (w:World) :
  (Instr.slice 44 (.slice (some ⟨g,0,none⟩) n cap) none (some (.int .i64 (0:Int))) none).run prog w=.ok (.slice (some ⟨g,0,none⟩) 0 cap) w:=
 qCj (some ⟨g,0,none⟩) n cap 0 (Qs _) w
def qzf (w:World) (b:Nat) (p:Value) (e:Ending) (w':World):Prop:=
 e=.returned (.tuple #[])/\∃ h,Bld b w' p h []/\(∀ g,h.ownBlock=some g->w.heap.size<=g)/\KeptP (·≠b) w w'
theorem qtg (b:Nat) (w:World) (p:Value) (n:Nat) (ab:n<=140737488351232) (g:Bld b w p (.slice none 0 0) []) :
  Calls prog 185 #[.pointer (some ⟨b,0,none⟩),.int .i64 (n:Int)] w (qzf w b p):=by
 have am:w.drew.cell? ⟨b,1,none⟩=some (.slice none 0 0):=g.c1;have ah:=g.lt;have ac:=fun w=>Lib.run_makeNoZero (P:=prog) w #[3] 44 5 underlying44 n (by omega)
 have Z:w.heap[b]?=some (.cells #[p,.slice none 0 0] 187 (0,0)):=g.1;have K:=J9 Z;have aq:(n:Int)<=140737488351232:=by omega
 have aa:=J9 ab;have ap:IntKind.i64.wrap (n:Int)=(n:Int):=by rw [IntKind.wrap_i64];omega
 clear g Z ab
 go_enter func185,ntmps185
 go_wp2;refine Mixed.qD5 (fun z=>z.cell? ⟨b,1,none⟩=some (.slice none 0 0)) 15
  [(0,true),(1,true),(2,true),(3,true),(4,true),(5,true),(6,true),(7,true),(9,true),(10,true),(11,true),(12,true),(13,true),(8,false),(14,true)] (by kernel_rfl) (by kernel_rfl) am ?_
 refine Mixed.qD7 rfl rfl _ rfl _ rfl ?_;refine Mixed.qEb rfl rfl (.pointer (some ⟨b,0,none⟩)) (fun w g=>by go_simp;try rfl) ?_;refine Mixed.qEb rfl rfl (.pointer (some ⟨b,1,none⟩)) (fun w g=>by go_simp;try rfl) ?_;refine Mixed.qEb rfl rfl (.slice none 0 0) (fun w g=>by go_simp;try rfl) ?_;refine Mixed.qEb rfl rfl (.int .i64 0) (fun w g=>by clear g;go_simp;try rfl) ?_;refine Mixed.qEb rfl rfl (.int .i64 0) (fun w g=>by clear g;go_simp;try rfl) ?_;refine Mixed.qD7 rfl rfl _ rfl _ rfl ?_;refine Mixed.qEb rfl rfl (.int .i64 (n:Int)) (fun w g=>by clear g;go_simp) ?_;refine Mixed.qD7 rfl rfl _ rfl _ rfl ?_;refine Mixed.qEb rfl rfl (.pointer (some ⟨b,0,none⟩)) (fun w g=>by go_simp;try rfl) ?_;refine Mixed.qEb rfl rfl (.pointer (some ⟨b,1,none⟩)) (fun w g=>by go_simp;try rfl) ?_;refine Mixed.qEb rfl rfl (.slice none 0 0) (fun w g=>by go_simp;try rfl) ?_;refine Mixed.qEb rfl rfl (.int .i64 0) (fun w g=>by clear g;go_simp;try rfl) ?_;refine Mixed.qEh rfl ?_;go_wp2;obtain ⟨h,ad,ag,U⟩:=ac w.drew;rw [run_callFunc_extern func223 (by kernel_rfl) (by kernel_rfl) (by kernel_rfl) (e:=Extern.BytealgMakeNoZero.makeNoZero #[3] #[44]) (by kernel_rfl),ad];simp only [Result.andThen];rw [Oper.upon_value];obtain ⟨y,G⟩:=N9 (w.drew.heap.size);obtain ⟨E,O⟩:=N9 (w.drew.drew.drew.alloc (.cells h 5));have J:Below w.heap.size w E:=by rw [<- O];exact ((((Qc _ _).drew).drew).drew).alloc (Qa _) _
 have V:E.heap[y]?=some (.cells h 5 (0,0)):=by rw [<- O,<- G];exact World.alloc_heap_new _ _
 have H:E.heap[b]?=some (.cells #[p,.slice none 0 0] 187 (0,0)):=(J.block b ah).trans K.o;have M:y=w.heap.size:=G.symm;have ak:E.cell? ⟨b,1,none⟩=some (.slice none 0 0):=by rw [C9 H];rfl
 have au:E.frozen? ⟨b,1,none⟩=false:=Qr H 1;have ao:∀ z,(Instr.slice 44 (.slice (some ⟨y,0,none⟩) n h.size) none (some (.int .i64 (0:Int))) none).run prog z=.ok (.slice (some ⟨y,0,none⟩) 0 h.size) z:=fun z=>qAX y n h.size z
 have own:E.ownsRow 0 5 1 (.slice (some ⟨y,0,none⟩) 0 h.size) ([]:List UInt8).length (([]:List UInt8).map u8V):=
  ⟨rfl,.inr ⟨y,h.size,h,rfl,Qs _,V,Qs _,U (Qm aa.o (by unfold maxLen;omega)),by simp,by simp⟩⟩
 have an:=J9 (Bld.set1 H own);have aj:Hid (KeptP (·≠b) w (E.setCell ⟨b,1,none⟩ (.slice (some ⟨y,0,none⟩) 0 h.size))):=(KeptP.qEK J).setCell (by simp) _;have ae:=J9 M;have ar:∀ z,(Builtin.copy_ #[44,44] 3 #[.slice (some ⟨y,0,none⟩) 0 h.size,.slice none 0 0]).run prog z=.ok (.int .i64 0) z:=fun z=>
  run_copy_none (P:=prog) z 44 44 3 5 (some ⟨y,0,none⟩) none 0 h.size 0 0 underlying44 (by kernel_rfl) rfl
 rw [G];clear ad ag U ac J V H own G M K aa;go_wp2;refine ⟨ak,?_⟩;refine Mixed.qEb rfl rfl (.slice (some ⟨y,0,none⟩) 0 h.size) (fun w g=>by clear g;go_simp;try (rw [ao];rfl)) ?_;simp only [Mixed.qD8,Qq,Qy];go_wp2
 go_end0
 exact ⟨rfl,_,an.o,fun ai af=>(by have g:=ae.o;have e:y=ai:=(Qw af);omega),aj.o⟩
theorem BJ.grow {B b:Nat} {w wr:World} (e:BJ B b w wr (.slice none 0 0) []) (n:Nat) (ag:n<=140737488351232) :
  Calls prog 137 #[.pointer (some ⟨b,0,none⟩),.int .i64 (n:Int)] wr fun y ao=>y=.returned (.tuple #[])/\∃ q,BJ B b w ao q []:=by
 obtain ⟨⟨ak,ah,ae⟩,am,ab,V,U⟩:=e;have z:=qeF b wr ak _ _ ah ae;have O:=J9 (Zf ab (Zf V U));have az:(n:Int)<=140737488351232:=by omega
 have an:=J9 ag;clear ah ae am ab V U ag;by_cases aq:n=0
 ·subst aq
  go_enter func137,ntmps137
  go_wp2_with fail
  refine z.mono ?_;rintro y g ⟨rfl,e,p,E⟩;have ar:=e.c1;have J:∀ v,Hid (BJ B b w (g.drewN v) (.slice none 0 0) []):=fun v=>by
   obtain ⟨h,M,i⟩:=O.o;have G:=(p.drewN v);exact ⟨⟨_,.inl rfl,e.kept (P:=fun _=>True) (KeptP.qEK (below_drewN' g v)) trivial fun _ _=>trivial⟩,fun af F=>by simp [Value.ownBlock] at F,h.trans (G.below (fun aj ai=>by omega) (Qm i h.size)),M,i⟩
  clear z p E e
  go_wp2_with fail
  go_quiet (fail)
  go_wp2
  go_end0
  exact ⟨rfl,_,(J _).o⟩
 ·have aA:(0:Int)<(n:Int):=by omega
  have aw:0<n:=by omega
  go_enter func137,ntmps137
  go_wp2_with fail
  refine z.mono ?_;rintro y g ⟨rfl,e,p,E⟩;have ar:=e.c1;have K:=J9 (Zf e p);clear z p E e
  go_wp2_with fail
  go_quiet (fail)
  have Z:=qtg b (g.drewN nq) _ n an.o (K.o.1.kept (P:=fun _=>True) (KeptP.qEK (below_drewN' g nq)) trivial fun _ _=>trivial)
  go_wp2_with fail
  refine Z.mono ?_;rintro y ap ⟨rfl,q,aa,ad,ac⟩;have J:Hid (BJ B b w ap q []):=by
   obtain ⟨h,M,i⟩:=O.o;have G:=(K.o.2.drewN nq).trans ac;exact ⟨⟨_,.inl rfl,aa⟩,fun af F=>by have av:=ad af F;have ay:=K.o.2.size;have ax:=h.size;have au:(g.drewN nq).heap.size=g.heap.size:=rfl;omega,h.trans (G.below (fun aj ai=>by omega) (Qm i h.size)),M,i⟩
  clear Z aa ad ac;go_wp2
  go_end0
  exact ⟨rfl,q,J.o⟩
theorem qwL:prog.elem 45=9:=by unfold Program.elem;rw [underlying45]
theorem qDw:prog.underlying 45=some (.slice (prog.elem 45)):=by rw [qwL];exact underlying45
theorem qEt (xs:List UInt8):(strOf xs).size=xs.length:=by
 show xs.toArray.size=_;simp
def qEi:List (List UInt8)->List UInt8
 | []=>[]
 | [x]=>x
 | x :: h :: t=>x++44 :: qEi (h :: t)
theorem qgQ:∀ (l:List (List UInt8)) (x:List UInt8),l≠[]->qEi (l++[x])=qEi l++44 :: x
 | [],_,z=>absurd rfl z
 | [h],x,_=>by simp [qEi]
 | h :: y :: t,x,_=>by
  show h++44 :: qEi ((y :: t)++[x])=(h++44 :: qEi (y :: t))++44 :: x;rw [qgQ (y :: t) x (by simp)];simp
theorem qEx:∀ (l:List (List UInt8)),l≠[]->(qEi l).length+1=(l.map List.length).sum+l.length
 | [],t=>absurd rfl t
 | [x],_=>by simp [qEi]
 | x :: h :: y,_=>by
  have t:=qEx (h :: y) (by simp);show (x++44 :: qEi (h :: y)).length+1=_;rw [Qg,Qv];rw [List.map_cons,List.sum_cons,Qv];omega
theorem qeq (l:List (List UInt8)) (k:Nat):((l.take k).map List.length).sum<=(l.map List.length).sum:=by
 conv=>rhs;rw [<- Zy k l,Zc,List.sum_append]
 omega
theorem qjM (l:List (List UInt8)) (k:Nat) (h:k<l.length):((l.take (k+1)).map List.length).sum=((l.take k).map List.length).sum+l[k].length:=by
 rw [Qx h,Zc,List.sum_append];simp
theorem qEJ (l:List (List UInt8)) (k:Nat) (z:0<k) (y:k<l.length):qEi (l.take (k+1))=(qEi (l.take k)++[44])++l[k]:=by
 have h:l.take k≠[]:=by
  intro e;have:=congrArg List.length e;rw [QD,QH] at this;omega
 rw [Qx y,qgQ _ _ h];simp
theorem qcA (l:List (List UInt8)) (k:Nat) (y:k<=l.length) (E:0<k):(qEi (l.take k)).length<=(qEi l).length:=by
 have z:=qEx (l.take k) (by intro e;have:=congrArg List.length e;rw [QD,QH] at this;omega);have G:=qEx l (by intro e;rw [e,QH] at y;omega);have J:=qeq l k;have h:(l.take k).length=k:=by rw [QD];omega
 rw [h] at z;omega
theorem qC8 (A:Option Addr) (h cap n:Nat) (y:n<=h) (w:World) :
  (Instr.slice 45 (.slice A h cap) (some (.int .i64 (n:Int))) none none).run prog w=.ok (.slice (qzG A n cap) (h - n) (cap - n)) w:=by
 rw [run_slice_l w 45 A h cap qDw .i64 (n:Int) (by omega) (by omega),qwL,Tryz.sizeOf9];simp only [Result.andThen_ok,sliced];rw [show ((n:Int)).toNat=n by omega];rfl
theorem qFa (P:Nat->Prop) (A:Option Addr) (cap:Nat) (g:List (List UInt8)) (X:2<=g.length) (bp:g.length<=cap) (aM:(qEi g).length<=1000000000) (w:World) (aY:qf7 P w A (g.map strOf)) :
  Calls prog 127 #[.slice A g.length cap,.string ⟨#[44]⟩] w fun t K=>t=.returned (.string (strOf (qEi g)))/\Below w.heap.size w K:=by
 obtain ⟨k,h,bm,aU,aP⟩:∃ b h,A=some ⟨b,h,none⟩/\b<w.heap.size/\∀ y (m:y<g.length),w.cell? ⟨b,h+y,none⟩=some (.string (strOf g[y])):=by
  rcases aY with m | ⟨b,h,m,-,bl⟩
  ·have:=congrArg List.length m;simp at this;subst this;simp at X
  ·have aX:∀ y (m:y<g.length),w.cell? ⟨b,h+y,none⟩=some (.string (strOf g[y])):=fun y bj=>by
    have m:=bl y (by rw [QM];exact bj)
    rwa [Zt] at m
   exact ⟨b,h,m,Qp w _ (aX 0 (by omega)),aX⟩
 subst bm;have aV:g≠[]:=fun t=>by subst t;simp at X
 have aL:=qEx g aV;obtain ⟨j,am⟩:=N9 (g.length);have s:=J9 am;have G:=J9 (Zf aU aP);have ae:=J9 aL;have V:=J9 aM;have bC:j<=1000000001:=by omega
 have bw:((j:Int) == 0)=false:=Qj.2 (by omega);have bx:((j:Int) == 1)=false:=Qj.2 (by omega);have bz:(⟨#[44]⟩:ByteArray).size=1:=rfl;rw [am] at X bp |-;have bE:decide ((9223372036854775807:Int) / ((j:Int) - 1)<=1)=false:=Qf (by
  have m:=Int.le_ediv_of_mul_le (a:=2) (b:=9223372036854775807) (c:=(j:Int) - 1) (by omega) (by omega);omega)
 clear am aU aY aP aV aL aM
 go_enter func127,ntmps127
 go_wp2
 go_loopw [5,41] (fun a1 J wr=>∃ (e z:Nat),e<=j/\J=.int .i64 e/\a1=.int .i64 z/\Hid (z+1=j+((g.take e).map List.length).sum)/\wr=w) (fun _ J _=>j - (intOf J).toNat)
 case atStart=>exact ⟨0,j - 1,Qs _,rfl,by congr 1;omega,by show _=_;simp;omega,rfl⟩
 case round=>
  obtain ⟨e,z,bt,rfl,rfl,av,rfl⟩:=hrel;have bu:z<=1000000000:=by
   have aa:=av.o;have X:=qeq g e;have aG:=ae.o;have a0:=V.o;have a8:=s.o;omega
  by_cases M:e<j
  ·have ar:e<g.length:=by rw [s.o];exact M
   have ao:(e:Int)<(j:Int):=(by omega);have Z:=G.o.2 e ar;have bc:=qjM g e ar;have ap:Hid (z+g[e].length+1=j+((g.take (e+1)).map List.length).sum):=by
    have aa:=av.o;show _=_;omega
   have bf:g[e].length<=1000000000:=by
    have aa:=ap.o;have X:=qeq g (e+1);have aG:=ae.o;have a0:=V.o;have a8:=s.o;omega
   have aJ:(strOf g[e]).size=g[e].length:=qEt _;obtain ⟨ay,aT⟩:=N9 (g[e].length);obtain ⟨U,ab⟩:=N9 (strOf g[e]);rw [aT] at aJ bf ap;rw [ab] at Z aJ;have bG:decide ((9223372036854775807:Int) - (z:Int)<(ay:Int))=false:=Qf (by omega);clear bc aT ab ar;go_wp2;go_roundw
   case rel=>exact ⟨e+1,z+ay,M,by go_num,by first | rfl | go_num,ap.o,by first | rfl | trivial⟩
   case measure=>simp [intOf];omega
  ·have aN:e=j:=by omega
   have ao:decide ((e:Int)<(j:Int))=false:=Qf (by omega);have B0:=BJ.start wr;have az:=B0.grow z (by omega);obtain ⟨x,aS⟩:∃ x,j=x+1:=⟨j - 1,by omega⟩;have bH:∀ K,(Instr.slice 45 (.slice (some ⟨k,h,none⟩) j cap) (some (.int .i64 (1:Int))) none none).run prog K=.ok (.slice (some ⟨k,h+1,none⟩) x (cap - 1)) K:=fun K=>by
    have m:=qC8 (some ⟨k,h,none⟩) j cap 1 (by omega) K;have a3:qzG (some ⟨k,h,none⟩) 1 cap=some ⟨k,h+1,none⟩:=by
     unfold qzG;rw [Qd (by omega)];rfl
    rw [a3,show j - 1=x by omega] at m;exact m
   have Z:=G.o.2 0 (by have:=s.o;omega);have ag:qEi (g.take 1)=g[0]'(by have:=s.o;omega):=by
    have bs:0<g.length:=(by have:=s.o;omega);cases g with
    | nil=>simp at bs
    | cons bv U=>rfl
   have ai:(strOf (g[0]'(by have:=s.o;omega))).size<=1000000000:=by
    have m:=qcA g 1 (by have:=s.o;omega) (by omega);rw [ag] at m;rw [qEt];exact Qm m V.o
   have ah:(strOf (g[0]'(by have:=s.o;omega))).data.toList=qEi (g.take 1):=(by rw [qEo,ag]);obtain ⟨U,ab⟩:=N9 (strOf (g[0]'(by have:=s.o;omega)));rw [ab] at Z ai ah;have bn:=J9 ah;have ax:=J9 aS;have bd:=J9 ai;have bF:(x:Int)<=1000000001:=(by omega);have bD:=J9 aN;have bo:wr.cell? ⟨k,h,none⟩=some (.string U):=Z;clear B0 ag ah ab aS ai aN Z av
   go_wp2_with fail
   refine az.mono ?_;rintro t br ⟨rfl,bA,aj⟩;have aH:=aj.str U (by simp;exact Qm bd.o (by decide));have a5:br.cell? ⟨k,h,none⟩=some (.string U):=(QN (w:=wr) (aj.below.block k G.o.1)).trans bo;clear az aj
   go_wp2_with fail
   refine aH.mono ?_;rintro t bq ⟨rfl,bi,ad⟩;rw [Zk,bn.o] at ad;have aB:Hid (∃ L,BJ wr.heap.size wr.heap.size wr bq L (qEi (g.take 1))):=⟨bi,ad⟩;clear aH ad a5;go_wp2;obtain ⟨v,bg⟩:∃ v:World,v=wr:=⟨_,rfl⟩;subst bg
   go_loopw [65] (fun J a9=>∃ e,e<=x/\J=.int .i64 (e:Nat)/\Hid (∃ L,BJ v.heap.size v.heap.size v a9 L (qEi (g.take (e+1))))) (fun J _=>x - (intOf J).toNat)
   case atStart=>exact ⟨0,Qs _,rfl,aB.o⟩
   case round=>
    clear aB;obtain ⟨e,bt,rfl,⟨L,E⟩⟩:=hrel;have aR:(qEi (g.take (e+1))).length<=1000000000:=Qm (qcA g (e+1) (by have:=s.o;have:=ax.o;omega) (by omega)) V.o;by_cases M:e<x
    ·have ao:(e:Int)<(x:Int):=by omega
     have an:e+1<g.length:=(by have:=s.o;have:=ax.o;omega);have aq:wr.cell? ⟨k,h+1+e,none⟩=some (.string (strOf g[e+1])):=by
      have m:=(QN (w:=v) (a:=⟨k,h+(e+1),none⟩) (E.below.block k G.o.1)).trans (G.o.2 (e+1) an);rw [show h+1+e=h+(e+1) by omega];exact m
     have a7:(qEi (g.take (e+1+1))).length<=1000000000:=Qm (qcA g (e+1+1) (by omega) (by omega)) V.o;have ac:=qEJ g (e+1) (by omega) an;have au:=qEo g[e+1];have aC:=qEt g[e+1];obtain ⟨O,aA⟩:=N9 (strOf g[e+1]);rw [aA] at aq au aC;rw [<- au] at ac;have ak:=congrArg List.length ac;rw [Qg,Qg,show O.data.toList.length=O.size from Zh] at ak;have aD:Hid ((qEi (g.take (e+1))).length+1+O.size<=1000000000):=by
      show _<=_;have t:([44]:List UInt8).length=1:=rfl;rw [t] at ak;omega
     have aI:=E.str ⟨#[44]⟩ (by show _+1<=_;have:=aD.o;omega);have bb:=J9 ac;have aZ:=J9 E.below;clear ac ak aA au aC aR a7 an E
     go_wp2_with fail
     refine aI.mono ?_;rintro t aO ⟨rfl,bB,aw⟩;have aF:v.cell? ⟨k,h+1+e,none⟩=some (.string O):=by
      have M:=G.o.1;rw [<- aq];exact (QN (w:=v) (a:=⟨k,h+1+e,none⟩) (aZ.o.block k M)).symm
     have a2:aO.cell? ⟨k,h+1+e,none⟩=some (.string O):=(QN (w:=v) (a:=⟨k,h+1+e,none⟩) (aw.below.block k G.o.1)).trans aF;have aE:=aw.str O (by have:=aD.o;rw [Qg];show _+1+_<=_;omega);clear aI aw aq aF aZ
     go_wp2_with fail
     refine aE.mono ?_;rintro t bk ⟨rfl,a4,af⟩;rw [<- bb.o] at af;have be:Hid (∃ L,BJ v.heap.size v.heap.size v bk L (qEi (g.take (e+1+1)))):=⟨a4,af⟩;clear aE af a2;go_wp2;go_roundw
     case rel=>exact ⟨e+1,M,by go_num,be.o⟩
     case measure=>simp [intOf];omega
    ·have a6:e=x:=by omega
     have ao:decide ((e:Int)<(x:Int))=false:=Qf (by omega);have aW:g.take (e+1)=g:=QJ (by have:=s.o;have:=ax.o;omega);rw [aW] at E;have aK:=E.string (by
      intro t;have aa:=ae.o;rw [t] at aa;have aG:=s.o;rw [QH] at aa;omega)
     clear a6 aW E aR
     go_wp2_with fail
     refine aK.mono ?_;rintro t aO ⟨rfl,aQ⟩;have bh:=J9 aQ;clear aK aQ;go_wp2;go_ret;exact ⟨rfl,bh.o⟩
end Go.Proofs.YtjafbmfcedijmaaGreatDoor.St
namespace Go.Proofs.YtjafbmfcedijmaaGreatDoor
open Tryz
open Go.RowKit
theorem qwX (k r n:Int):(qd2 k r n).size<=60:=by
 cases s:qaT k r n
 ·rw [qsv k r n s];decide
 ·have z:=qot k r n s
  have h:∀ q:Fin 11,(nmS q.val r).size<=50:=fun q=>qoA q r
  have E:(nmS 4 r).size<=50:=h 4;have G:(nmS 5 r).size<=50:=h 5;have J:=qcw n;have K:=qcw (n+2);have M:=qaz n;have y:∀ j:ByteArray,(brS j).size=1+j.size+1:=fun j=>by unfold brS;rw [ByteArray.size_append,ByteArray.size_append];rfl
  rw [qcd k r n s];rcases z with rfl | rfl | rfl | rfl | rfl | rfl | rfl | rfl | rfl | rfl
  ·show (nmS 1 r).size<=_;exact Qm (h 1) (by decide)
  ·show (nmS 2 r).size<=_;exact Qm (h 2) (by decide)
  ·show (nmS 3 r).size<=_;exact Qm (h 3) (by decide)
  ·show (brS (nmS 4 r)).size<=_;rw [y];omega
  ·show (brS (nmS 5 r++qeA n)).size<=_;rw [y,ByteArray.size_append];omega
  ·show (if n<0 then qeA n else qaM n).size<=_;split <;> omega
  ·show (brS (qaM n)).size<=_;rw [y];omega
  ·show (nmS 8 r).size<=_;exact Qm (h 8) (by decide)
  ·show (nmS 9 r).size<=_;exact Qm (h 9) (by decide)
  ·show (⟨#[36]⟩++qeA (n+2)).size<=_;rw [ByteArray.size_append];show 1+_<=_;omega
def qbg (t:Tr):ByteArray:=qd2 t.1 t.2.1 t.2.2
def formsL (L:List Tr):List (List UInt8):=L.map fun h=>(qbg h).data.toList
def qbf (L:List Tr):ByteArray:=St.strOf (St.qEi (formsL L))
theorem qcI (L:List Tr):(formsL L).length=L.length:=by unfold formsL;rw [QM]
theorem qvv (L:List Tr) (k:Nat) (h:k<L.length) (y:k<(formsL L).length):(formsL L)[k]=(qbg L[k]).data.toList:=by simp only [formsL,Zt]
theorem qqb (L:List Tr):(formsL L).map St.strOf=L.map qbg:=by
 unfold formsL;rw [List.map_map];exact List.map_congr_left fun h _=>St.qEP _
theorem qA6 (l:List (List UInt8)) (b:Nat) (h:∀ x∈l,x.length<=b):(l.map List.length).sum<=b*l.length:=by
 induction l with
 | nil=>simp
 | cons x E z=>
  have J:=z fun t y=>h t (QZ _ y)
  have G:=h x QY;rw [List.map_cons,List.sum_cons,Qv,Nat.mul_add];omega
theorem qxu (L:List Tr):∀ h∈formsL L,h.length<=60:=by
 intro h x;obtain ⟨e,-,rfl⟩:=List.mem_map.1 x;have y:=qwX e.1 e.2.1 e.2.2;have t:(qbg e).data.toList.length=(qbg e).size:=by simp
 rw [t];exact y
theorem qjR (L:List Tr) (G:L.length<=60) (k:Nat):(St.qEi ((formsL L).take k)).length<=4000:=by
 by_cases h:(formsL L).take k=[]
 ·rw [h];decide
 ·have K:=St.qEx _ h
  have J:=qA6 ((formsL L).take k) 60 fun y z=>qxu L y (List.mem_of_mem_take z)
  have x:((formsL L).take k).length<=60:=by rw [QD,qcI];omega
  have E:60*((formsL L).take k).length<=60*60:=Nat.mul_le_mul_left _ x;omega
theorem qn1 {a b:ByteArray} (h:a.data.toList=b.data.toList):a=b:=by
 apply ByteArray.ext;exact Array.toList_inj.1 h
theorem join_none (A:Option Addr) (cap:Nat) (h:ByteArray) (w:World) :
  Calls prog 127 #[.slice A 0 cap,.string h] w fun e y=>e=.returned (.string ⟨#[]⟩)/\Below w.heap.size w y:=by
 go_enter func127,ntmps127
 go_wp2;go_ret;exact ⟨rfl,Qc _ _⟩
theorem join_one (b e cap:Nat) (y t:ByteArray) (w:World) (E:w.cell? ⟨b,e,none⟩=some (.string t)) :
  Calls prog 127 #[.slice (some ⟨b,e,none⟩) 1 cap,.string y] w fun h z=>h=.returned (.string t)/\Below w.heap.size w z:=by
 go_enter func127,ntmps127
 go_wp2;go_ret;exact ⟨rfl,Qc _ _⟩
theorem qsh (L:List Tr) (E:L.length<=60) (b:Nat) (w:World) (y:∀ j (h:j<L.length),w.cell? ⟨b,j,none⟩=some (.string (qbg L[j]))) :
  Calls prog 127 #[.slice (some ⟨b,0,none⟩) L.length L.length,.string ⟨#[44]⟩] w fun e J=>e=.returned (.string (qbf L))/\Below w.heap.size w J:=by
 by_cases G:L.length=0
 ·have:L=[]:=Qu G
  subst this;exact join_none _ _ _ w
 ·by_cases M:L.length=1
  ·obtain ⟨t,rfl⟩:=List.length_eq_one_iff.1 M
   have e:qbf [t]=qbg t:=by
    unfold qbf formsL;show St.strOf (qbg t).data.toList=_;exact St.qEP _
   rw [e];exact join_one b 0 1 _ _ w (y 0 (by simp))
  ·have h:=St.qFa (fun _=>True) (some ⟨b,0,none⟩) L.length (formsL L) (by rw [qcI];omega) (by rw [qcI];omega) (by
     have:=qjR L E (formsL L).length;rw [List.take_length] at this;omega) w (by
     rw [qqb];refine .inr ⟨b,0,rfl,trivial,fun j K=>?_⟩;have z:j<L.length:=(by simpa using K);rw [QS,Zt];exact y j z)
   rw [qcI] at h;exact h
theorem qtA:(prog.info? 9).map (fun i=>(i.zero,i.size,i.bytes))=some (some (.string ⟨#[]⟩),1,16):=by kernel_rfl
def SpL (b k n:Nat) (L:List Tr) (wr:World):Prop:=
 ∃ j,wr.heap[b]?=some (.cells j 9 (0,0))/\(∀ h (y:h<L.length),h<k->j[h]?=some (.string (qbg L[h])))/\∀ h,h<n->∃ v,j[h]?=some (.string v)
theorem SpL.start (w:World) (n:Nat) (L:List Tr):SpL w.heap.size 0 n L (w.alloc (.cells (madeCells #[.string ⟨#[]⟩] n) 9)):=by
 refine ⟨_,heap_alloc_new w _,fun h _ j=>absurd j (Nat.not_lt_zero _),fun h y=>⟨⟨#[]⟩,?_⟩⟩;unfold madeCells;rw [Array.getElem?_map,Array.getElem?_range,Qk (by simpa using y)];simp [Nat.mod_one]
theorem SpL.below {b k n:Nat} {L:List Tr} {w w':World} (E:SpL b k n L w) (G:Below w.heap.size w w'):SpL b k n L w':=by
 obtain ⟨z,h,J,y⟩:=E;exact ⟨z,(G.block b (Qb.1 h).1).trans h,J,y⟩
theorem SpL.at_ {b k n:Nat} {L:List Tr} {w:World} (E:SpL b k n L w) (j:Nat) (G:j<n):(∃ v,w.cell? ⟨b,j,none⟩=some (.string v))/\w.frozen? ⟨b,j,none⟩=false:=by
 obtain ⟨J,h,_,y⟩:=E;obtain ⟨v,z⟩:=y j G;exact ⟨⟨v,(C9 h j).trans z⟩,Qr h j⟩
theorem SpL.set {b k n:Nat} {L:List Tr} {w:World} (J:SpL b k n L w) (O:k<L.length) (G:k<n):SpL b (k+1) n L (w.setCell ⟨b,k,none⟩ (.string (qbg L[k]))):=by
 obtain ⟨v,M,K,z⟩:=J;refine ⟨_,heap_setCell_same w b k v _ _ M,fun h y U=>?_,fun h y=>?_⟩
 ·rw [QT]
  by_cases e:k=h
  ·subst e
   obtain ⟨E,j⟩:=z k G;have:k<v.size:=(Qb.1 j).1;rw [Qk rfl,Qk this]
  ·rw [Qd e]
   exact K h y (by omega)
 ·rw [QT]
  obtain ⟨E,j⟩:=z h y;by_cases e:k=h
  ·subst e
   have:k<v.size:=(Qb.1 j).1;rw [Qk rfl,Qk this];exact ⟨_,rfl⟩
  ·rw [Qd e]
   exact ⟨E,j⟩
theorem SpL.done {b n:Nat} {L:List Tr} {w:World} (h:SpL b L.length n L w):∀ j (h:j<L.length),w.cell? ⟨b,j,none⟩=some (.string (qbg L[j])):=by
 obtain ⟨G,E,z,_⟩:=h;exact fun j y=>(C9 E j).trans (z j y y)
theorem qvI (A:Option Addr) (c:Nat) (L:List Tr) (X:L.length<=60) (w:World) (H:qaj w A L) :
  Calls prog 86 #[.slice A L.length c] w fun h af=>h=.returned (.string (qbf L))/\Below w.heap.size w af:=by
 have aE:=J9 H;have aI:=J9 X;have az:=J9 (qsh L X);have ao:∀ w,(Instr.makeSlice 45 (.int .i64 (L.length:Int)) (.int .i64 (L.length:Int))).run prog w=.ok (.slice (some ⟨w.heap.size,0,none⟩) L.length L.length) (w.alloc (.cells (madeCells #[.string ⟨#[]⟩] L.length) 9)):=fun w=>
  run_make_row' (P:=prog) 45 9 (.string ⟨#[]⟩) 16 underlying45 qtA rfl .i64 .i64 L.length (by omega) (by omega) w
 have O:=J9 (SpL.start w L.length L);have B0:Hid (Below w.heap.size w (w.alloc (.cells (madeCells #[.string ⟨#[]⟩] L.length) 9))):=B0;obtain ⟨n,ag⟩:=N9 (L.length);have ae:=J9 ag;rw [ag] at X ao O B0 |-;clear H ag
 go_enter func86,ntmps86
 go_wp2
 go_loopw [11] (fun K wr=>∃ e:Nat,e<=n/\K=.int .i64 e/\Hid (Below w.heap.size w wr)/\Hid (SpL w.heap.size e n L wr)) (fun K _=>n - (intOf K).toNat)
 case atStart=>exact ⟨0,Qs _,rfl,B0.o,O.o⟩
 case round=>
  clear B0 O ao;obtain ⟨e,aJ,rfl,i,aa⟩:=hrel;by_cases av:e<n
  ·have ac:e<L.length:=by have:=ae.o;omega
   have E:Below w.heap.size w wr:=i.o;obtain ⟨G,U,aC,y,ax,ay,aw⟩:=aE.o.at_ ac;subst aC;have M:wr.cell? ⟨G,U+e*3,none⟩=some (.int .i64 L[e].1):=(E.cell y).trans ax;have ah:wr.cell? ⟨G,U+e*3+1,none⟩=some (.int .i64 L[e].2.1):=(E.cell y).trans ay;have W:wr.cell? ⟨G,U+e*3+2,none⟩=some (.int .i64 L[e].2.2):=(E.cell y).trans aw;have z:Hid (qbg L[e]=qd2 L[e].1 L[e].2.1 L[e].2.2):=rfl;have S:Hid (∀ s,SpL w.heap.size e n L s->SpL w.heap.size (e+1) n L (s.setCell ⟨w.heap.size,e,none⟩ (.string (qbg L[e])))):=(fun s ai=>ai.set ac av);obtain ⟨⟨Z,ad,V⟩,ak⟩:=N9 (L[e]);rw [ak] at M ah W z S;simp only at M ah W z;have B:=J9 (qqz Z ad V);rw [<- z.o] at B;obtain ⟨aA,aq⟩:=N9 (qbg (Z,ad,V));rw [aq] at B S;have aj:Below wr.heap.size wr (wr.alloc (.cells #[.int .i64 Z,.int .i64 ad,.int .i64 V] 57)):=B0;have J:=J9 (i.o.trans (aj.mono i.o.size));have an:=J9 (aa.o.below aj);clear ax ay aw ac ak aq z aj y E i aa
   go_wp2_with fail
   refine (B.o _).mono ?_;rintro h s ⟨rfl,k⟩;have ab:=J9 (J.o.trans (k.mono J.o.size));have am:=J9 (an.o.below k);obtain ⟨⟨aG,aH⟩,aF⟩:=am.o.at_ e av;have aD:=J9 (S.o _ am.o);have aB:Hid (Below w.heap.size w (s.setCell ⟨w.heap.size,e,none⟩ (.string aA))):=ab.o.setCell (by simp) _;clear k M ah W J an B;go_wp2;go_roundw
   case rel=>exact ⟨e+1,by omega,by go_num,aB.o,aD.o⟩
   case measure=>simp [intOf];omega
  ·have ap:e=n:=by omega
   have ar:Hid (∀ v,SpL w.heap.size e n L v->Calls prog 127 #[.slice (some ⟨w.heap.size,0,none⟩) n n,.string ⟨#[44]⟩] v fun h af=>h=.returned (.string (qbf L))/\Below v.heap.size v af):=fun v ai=>by
    have h:L.length=e:=ae.o.trans ap.symm;have au:=az.o w.heap.size v (SpL.done (n:=n) (by rw [h];exact ai));rw [ae.o] at au;exact au
   clear ap
   go_wp2_with fail
   refine (ar.o _ aa.o).mono ?_;rintro h s ⟨rfl,k⟩;have ab:=J9 (i.o.trans (k.mono i.o.size));clear k ar;go_wp2;go_ret;exact ⟨rfl,ab.o⟩
theorem qq2 (L:List Tr) (h:0<L.length):St.strOf (St.qEi ((formsL L).take 0))++qbg L[0]=St.strOf (St.qEi ((formsL L).take 1)):=by
 cases L with
 | nil=>simp at h
 | cons t L=>
  apply qn1;rw [qam,St.qEo,St.qEo];rfl
theorem qoL (L:List Tr) (k:Nat) (z:0<k) (y:k<L.length):(St.strOf (St.qEi ((formsL L).take k))++⟨#[44]⟩)++qbg L[k]=St.strOf (St.qEi ((formsL L).take (k+1))):=by
 apply qn1;have h:k<(formsL L).length:=by rw [qcI];exact y
 rw [qam,qam,St.qEo,St.qEo,St.qEJ _ k z h,qvv L k y h]
theorem qsl (A:Option Addr) (c:Nat) (L:List Tr) (ah:L.length<=60) (w:World) (H:qaj w A L) :
  Calls prog 100 #[.slice A L.length c] w fun aa aw=>aa=.returned (.string (qbf L))/\Below w.heap.size w aw:=by
 have av:=J9 H;have ar:=J9 (qjR L ah);obtain ⟨ab,ac⟩:=N9 (L.length);have ak:=J9 ac;rw [ac] at ah |-;clear H ac
 go_enter func100,ntmps100
 go_wp2
 go_loopw [3,4] (fun ap S wr=>∃ (e:Nat) (h:ByteArray),e<=ab/\S=.int .i64 e/\ap=.string h/\Hid (St.strOf (St.qEi ((formsL L).take e))=h)/\Hid (Below w.heap.size w wr)) (fun _ S _=>ab - (intOf S).toNat)
 case atStart=>exact ⟨0,⟨#[]⟩,Qs _,rfl,rfl,rfl,Qc _ _⟩
 case round=>
  obtain ⟨e,h,aA,rfl,rfl,J,i⟩:=hrel;have ax:h.size<=4000:=by
   have k:=ar.o e;rw [<- St.qEt,J.o] at k;exact k
  by_cases az:e<ab
  ·have K:e<L.length:=by have:=ak.o;omega
   have M:Below w.heap.size w wr:=i.o;obtain ⟨O,T,aq,B,ai,aj,ag⟩:=av.o.at_ K;subst aq;have n:wr.cell? ⟨O,T+e*3,none⟩=some (.int .i64 L[e].1):=(M.cell B).trans ai;have z:wr.cell? ⟨O,T+e*3+1,none⟩=some (.int .i64 L[e].2.1):=(M.cell B).trans aj;have v:wr.cell? ⟨O,T+e*3+2,none⟩=some (.int .i64 L[e].2.2):=(M.cell B).trans ag;have E:Hid (qbg L[e]=qd2 L[e].1 L[e].2.1 L[e].2.2):=rfl;have I1:Hid (e=0->h++qbg L[e]=St.strOf (St.qEi ((formsL L).take (e+1)))):=fun k=>by
    have t:=J.o;subst k;rw [<- t];exact qq2 L K
   have I2:Hid (0<e->(h++⟨#[44]⟩)++qbg L[e]=St.strOf (St.qEi ((formsL L).take (e+1)))):=fun k=>by
    have t:=J.o;rw [<- t];exact qoL L e k K
   obtain ⟨⟨V,Z,U⟩,ad⟩:=N9 (L[e]);rw [ad] at n z v E I1 I2;simp only at n z v E;have G:=J9 (qvx V Z U);have af:=qwX V Z U;rw [<- E.o] at G af;obtain ⟨ae,an⟩:=N9 (qbg (V,Z,U));rw [an] at G I1 I2 af;clear ai aj ag K ad an E B M;by_cases am:e=0
   ·have s:=J9 (I1.o am)
    subst am;clear I1 I2;simp only [Nat.zero_mul,Nat.add_zero] at n z v
    go_wp2_with fail
    refine (G.o _).mono ?_;rintro aa au ⟨rfl,y⟩;have X:=J9 (i.o.trans (y.mono i.o.size));clear y n z v;go_wp2;go_roundw
    case rel=>exact ⟨0+1,h++ae,by omega,by go_num,rfl,s.o.symm,X.o⟩
    case measure=>simp [intOf];omega
   ·have ao:0<e:=by omega
    have ay:(0:Int)<(e:Int):=(by omega);have s:=J9 (I2.o ao);clear I1 I2
    go_wp2_with fail
    refine (G.o _).mono ?_;rintro aa au ⟨rfl,y⟩;have X:=J9 (i.o.trans (y.mono i.o.size));clear y n z v;go_wp2;go_roundw
    case rel=>exact ⟨e+1,h++(⟨#[44]⟩:ByteArray)++ae,by omega,by go_num,rfl,s.o.symm,X.o⟩
    case measure=>simp [intOf];omega
  ·have s:Hid (h=qbf L):=by
    have t:=J.o;show _=_;rw [<- t];unfold qbf;rw [QJ (by rw [qcI];have:=ak.o;omega)]
   go_wp2;go_ret;exact ⟨qaw s.o,i.o⟩
def qgf (h:Str):List Str->Str
 | []=>[]
 | x :: y=>x++y.flatMap fun t=>h++t
theorem qoo (t:Str) (F:List Str) (h:0<F.length):qgf t (F.take 1)=F[0]:=by
 cases F with
 | nil=>simp at h
 | cons x y=>simp [qgf]
theorem qks (j:Str) (F:List Str) (k:Nat) (E:0<k) (t:k<F.length):qgf j (F.take (k+1))=qgf j (F.take k)++j++F[k]:=by
 obtain ⟨e,rfl⟩:∃ e,k=e+1:=⟨k - 1,by omega⟩;cases F with
 | nil=>simp at t
 | cons z h=>
  have y:e<h.length:=by simpa using t
  have x:h.take (e+1)=h.take e++[h[e]]:=Qx y;rw [List.take_succ_cons,List.take_succ_cons];simp only [qgf];rw [x,List.flatMap_append];simp
theorem qgq (y:Str) (F:List Str) (a b:Nat) (U:y.length<=a) (hF:∀ x∈F,x.length<=b):(qgf y F).length<=F.length*(a+b):=by
 cases F with
 | nil=>simp [qgf]
 | cons x h=>
  have Z:=hF x QY;have V:(h.flatMap fun t=>y++t).length<=h.length*(a+b):=by
   have:∀ h:List Str,(∀ t∈h,t.length<=b)->(h.flatMap fun t=>y++t).length<=h.length*(a+b):=by
    intro h
    induction h with
    | nil=>intro _;simp
    | cons t h G=>
     intro z;have M:=G fun K E=>z K (QZ _ E)
     have O:=z t QY;rw [List.flatMap_cons,Qg,Qg,Qv,Nat.add_mul];omega
   exact this h fun t J=>hF t (QZ _ J)
  show (x++h.flatMap fun t=>y++t).length<=(h.length+1)*(a+b);rw [Qg,Nat.add_mul];omega
def qlp (b:UInt8):Str:=(qaM (b.toNat:Int)).data.toList
def qgb (b:Str):Str:=if b=[] then [] else [68,69,70,66,32]++qgf [44] (b.map qlp)
def qi0 (b:UInt8):Str:=(qcM (b.toNat:Int) 2).data.toList
theorem qiR (b:UInt8):(qlp b).length<=6:=by
 unfold qlp;have h:=qaz (b.toNat:Int);have e:(qaM (b.toNat:Int)).data.toList.length=(qaM (b.toNat:Int)).size:=by simp
 omega
theorem qlw (b:UInt8):(qi0 b).length=2:=by
 unfold qi0;have h:=qa9 (b.toNat:Int) 2;have e:(qcM (b.toNat:Int) 2).data.toList.length=(qcM (b.toNat:Int) 2).size:=by simp
 omega
theorem qjA (L:List Tr) (y:L.length<=60):(qbf L).size<=4000:=by
 have h:=qjR L y (formsL L).length;rw [List.take_length] at h;unfold qbf;rw [St.qEt];exact h
end Go.Proofs.YtjafbmfcedijmaaGreatDoor
