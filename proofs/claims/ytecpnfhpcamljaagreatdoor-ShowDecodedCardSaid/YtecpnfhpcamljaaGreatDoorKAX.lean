/-
  EqS, ShS, ShM.
-/
import Derived.Test.YtecpnfhpcamljaaGreatDoorKN2
set_option linter.all false
set_option maxRecDepth 100000
set_option maxHeartbeats 4000000
namespace Go.Proofs.YtecpnfhpcamljaaGreatDoor
open Tryz
open Go.RowKit
attribute [local go_sem] Oper.semAt_some
theorem qoi (A1 af:Option Addr) (ah c2:Nat) (b a:List ByteArray) (ab:b.length<=maxLen) (ae:a.length<=maxLen) (w:World) (T:qdl w A1 b) (U:qdl w af a) :
  Calls prog 30 #[.slice A1 b.length ah,.slice af a.length c2] w fun i ai=>i=.returned (.bool (decide (b=a)))/\Below w.heap.size w ai:=by
 unfold maxLen at ab ae;by_cases B:b.length=a.length
 ·have ak:=J9 T
  have an:=J9 U;have W:=J9 B;obtain ⟨R,z⟩:=N9 (b.length);have ac:=J9 z;rw [z] at ab;rw [<- B,z];clear T U B ae z
  go_enter func30,ntmps30
  go_wp2
  go_loopw [13] (fun J wr=>∃ h:Nat,h<=R/\J=.int .i64 h/\Hid (∀ e,e<h->∀ (n:e<b.length) (k:e<a.length),b[e]=a[e])/\Hid (Below w.heap.size w wr)) (fun J _=>R - (intOf J).toNat)
  case atStart=>exact ⟨0,Qu _,rfl,fun e aq=>by omega,Qc _ _⟩
  case round=>
   obtain ⟨h,ao,rfl,y,E⟩:=hrel;by_cases ay:h<R
   ·have K:h<b.length:=by have:=ac.o;omega
    have O:h<a.length:=(by have:=W.o;omega);obtain ⟨ax,ap,am,M⟩:=(ak.o.below E.o).at_ K;obtain ⟨av,au,ag,Z⟩:=(an.o.below E.o).at_ O;subst am;subst ag;have V:=(fun aj=>J9 (E.o.trans (below_drewN wr w.heap.size aj)));by_cases j:b[h]=a[h]
    ·have R2:Hid (∀ e,e<h+1->∀ (n:e<b.length) (k:e<a.length),b[e]=a[e]):=fun e az n k=>by
      by_cases i:e=h
      ·subst i;exact j
      ·exact y.o e (by omega) n k
     rw [j] at M;obtain ⟨aa,x⟩:=N9 (a[h]);rw [x] at M Z;have G:=qAZ aa;clear j x K O y;go_wp2
     go_quiet (fail)
     go_wp2;go_roundw
     case rel=>exact ⟨h+1,by omega,by go_num,R2.o,(V _).o⟩
     case measure=>simp [intOf];omega
    ·have q:Hid (false=decide (b=a)):=(Qh (fun i=>j (by simp only [i]))).symm
     have G:=qak j;obtain ⟨aa,x⟩:=N9 (b[h]);obtain ⟨ar,ad⟩:=N9 (a[h]);rw [x] at M G;rw [ad] at Z G;clear j x ad K O y;go_wp2
     go_quiet (fail)
     go_wp2;go_ret;exact ⟨qab q.o,(V _).o⟩
   ·have q:Hid (true=decide (b=a)):=by
     refine (Qn (List.ext_getElem W.o fun e n k=>?_)).symm;exact y.o e (by have:=ac.o;omega) n k
    clear y;go_wp2;go_ret;exact ⟨qab q.o,E.o⟩
 ·have q:Hid (false=decide (b=a)):=(Qh (fun i=>B (by rw [i]))).symm
  have aw:((b.length:Int) == (a.length:Int))=false:=Qm.2 (by omega);have aA:¬((b.length:Int)=(a.length:Int)):=by omega
  clear T U
  go_enter func30,ntmps30
  go_wp2;go_ret;exact ⟨qab q.o,Qc _ _⟩
end Go.Proofs.YtecpnfhpcamljaaGreatDoor
namespace Go.Proofs.YtecpnfhpcamljaaGreatDoor
open Tryz
open Go.RowKit Go.Shelf
theorem qoH:(prog.info? 9).map (fun i=>(i.zero,i.size,i.bytes))=some (some (.string ⟨#[]⟩),1,16):=by kernel_rfl
def qlt (L:List ByteArray):List Value:=L.map Value.string
def qdz (w:World) (B:Nat) (v:Value) (L:List ByteArray):Prop:=w.ownsRow B 9 1 v L.length (qlt L)
theorem qdz.strs {w:World} {n:Nat} {v:Value} {L:List ByteArray} (h:qdz w n v L):∃ j g,v=.slice j L.length g/\qdl w j L:=by
 rcases h.2 with ⟨rfl,A⟩ | ⟨y,g,E,rfl,_,_,_⟩
 ·have:L=[]:=Qw A
  subst this;exact ⟨none,0,rfl,.inl rfl⟩
 ·refine ⟨_,g,rfl,.inr ⟨y,0,rfl,fun q z=>?_⟩⟩
  rw [QT,World.ownsRow.cellAt h q (by omega)];unfold qlt;rw [Zi,Qg z];rfl
theorem qdz.below {w w':World} {n:Nat} {v:Value} {L:List ByteArray} (g:qdz w n v L) (k:Below w.heap.size w w'):qdz w' n v L:=
 World.ownsRow.kept g (row:=none) ⟨k.os,k.tape,k.output,k.size,fun e h _=>k.block e h⟩ (by
  cases q:v.ownBlock with
  | none=>exact .inl rfl
  | some i=>exact .inr (by simp))
theorem qpX (w:World) (n:Nat):qdz w n (.slice none 0 0) []:=Zm _ _ _ _
theorem qpY {w:World} {n:Nat} {v:Value} {L:List ByteArray} (K:qdz w n v L) (s:ByteArray) (ac:L.length<=1000000) (q:n<=w.heap.size) (ty:TypeId) :
  ∃ k h,(Builtin.append_ #[42,42] ty #[v,.slice (some ⟨w.heap.size,0,none⟩) 1 1]).run prog (w.alloc (.cells #[.string s] 9))=.ok k h/\qdz h n k (L++[s])/\Below n w h:=by
 obtain ⟨G,U,T,V,M⟩:=info_parts qoH;have u:Below w.heap.size w (w.alloc (.cells #[.string s] 9)):=B0;have y:=K.below u;obtain ⟨k,h,J,E,O,_⟩:=run_append_own (P:=prog) (w.alloc (.cells #[.string s] 9)) n 42 ty 9 G _ 1 16 underlying42 U T V M rfl (by decide) v L.length _ y ⟨w.heap.size,0,none⟩ 1 1 [.string s] rfl
  (fun W ab j=>by
   match W,j with
   | 0,j=>simp at j;subst j;simp [Addr.add,go_sem])
  (fun ab z=>by simp at z;subst z;rfl) (by unfold maxLen;omega) (by omega) (Qj q u.size)
 refine ⟨k,h,J,?_,?_⟩
 ·unfold qdz
  rw [Qk];unfold qlt at E |-;rw [Zg];exact E
 ·exact ((Qc n w).alloc q _).grown O (Qj q u.size) (fun Z aa=>(World.ownsRow.lt y Z aa).1)
theorem qiQ {w:World} {n:Nat} {v:Value} {L:List ByteArray} (z:qdz w n v L) (s:ByteArray) (K:L.length<=1000000) (J:n<=w.heap.size)
  {ops:Array Oper} {rest:List Oper} {o:Oper} {a:Act} {Q:Exit->Act->World->Prop} (G:o.guard=none) (sl x:Operand)
  (O:o.op=.call {callee:=.builtin .append,args:=#[sl,x],argTypes:=#[42,42]}) (E:a.eval sl=v) (T:a.eval x=.slice (some ⟨w.heap.size,0,none⟩) 1 1)
  (k:∀ A c w',qdz w' n (.slice A (L.length+1) c) (L++[s])->Below n w w'->wpList prog ops Q rest (a.put o.dst (.slice A (L.length+1) c)) w'):wpList prog ops Q (o :: rest) a (w.alloc (.cells #[.string s] 9)):=by
 refine wpList_plain G fun U y=>?_
 obtain ⟨V,w',q,h,M⟩:=qpY z s K J o.type;obtain ⟨A,c,rfl,-⟩:=h.strs;rw [Qk] at h q;unfold Oper.wp execOp;simp only [O,resolve,invoke,builtin,Sem.run_bind,Sem.run_pure,Result.andThen_ok,List.map_toArray,List.map_cons,List.map_nil,E,T,q];exact y _ _ (k A c w' h M)
theorem qvW {h:Bool} {p:Prop} (q:h=true↔p) (y:¬p):h=false:=by
 cases h
 ·rfl
 ·exact absurd (q.1 rfl) y
def qxu (w:World) (i:Bool) (e:Ending) (w':World):Prop:=∃ h:Int,e=.returned (.int .i64 h)/\decide (0<=h)=i/\Below w.heap.size w w'
theorem qm7 (A:Option Addr) (c:Nat) (L:List ByteArray) (R:L.length<=maxLen) (t:ByteArray) (O:Bool) (G:O=true↔t∈L) (w:World) (H:qdl w A L) :
  Calls prog 60 #[.slice A L.length c,.string t] w (qxu w O):=by
 unfold maxLen at R;have V:=J9 H;have M:=J9 G;obtain ⟨z,B⟩:=N9 (L.length);have J:=J9 B;rw [B] at R |-;clear B H G
 go_enter func60,ntmps60
 go_wp2
 go_loopw [8] (fun n wr=>∃ e:Nat,e<=z/\n=.int .i64 e/\Hid (∀ a,a<e->∀ (x:a<L.length),L[a]≠t)/\Hid (Below w.heap.size w wr)) (fun n _=>z - (intOf n).toNat)
 case atStart=>exact ⟨0,Qu _,rfl,fun a ac=>by omega,Qc _ _⟩
 case round=>
  obtain ⟨e,Z,rfl,i,k⟩:=hrel;by_cases ae:e<z
  ·have j:e<L.length:=by have:=J.o;omega
   obtain ⟨ad,aa,X,K⟩:=(V.o.below k.o).at_ j;subst X;by_cases h:L[e]=t
   ·have y:Hid (t∈L):=h ▸ QJ j
    rw [h] at K;have E:=qAZ t;clear h j i;go_wp2;go_ret;exact ⟨_,rfl,by rw [M.o.2 y.o];exact Qn (by omega),k.o⟩
   ·have R2:Hid (∀ a,a<e+1->∀ (x:a<L.length),L[a]≠t):=fun a T x=>by
     by_cases q:a=e
     ·subst q;exact h
     ·exact i.o a (by omega) x
    have E:=qak (fun q=>h q.symm);obtain ⟨ab,U⟩:=N9 (L[e]);rw [U] at K E;clear h U j i;go_wp2;go_roundw
    case rel=>exact ⟨e+1,by omega,by go_num,R2.o,k.o⟩
    case measure=>simp [intOf];omega
  ·have y:Hid (t∉L):=fun W=>by
    obtain ⟨a,T,h⟩:=Ze W;exact i.o a (by have:=J.o;omega) T h
   clear i;go_wp2;go_ret;exact ⟨_,rfl,by rw [qvW M.o y.o];rfl,k.o⟩
theorem qiy (A:Option Addr) (c:Nat) (L:List ByteArray) (J:L.length<=maxLen) (t:ByteArray) (e:Bool) (q:e=true↔t∈L) (w:World) (H:qdl w A L) :
  Calls prog 31 #[.slice A L.length c,.string t] w fun y E=>y=.returned (.bool e)/\Below w.heap.size w E:=by
 have z:=J9 (qm7 A c L J t e q w H);clear H q
 go_enter func31,ntmps31
 go_wp2_with fail
 refine z.o.mono ?_;rintro y N ⟨M,rfl,h,i⟩;have K:=J9 i;have G:=J9 h;clear i h;go_wp2;go_ret;exact ⟨qab G.o,K.o⟩
end Go.Proofs.YtecpnfhpcamljaaGreatDoor
namespace Go.Proofs.YtecpnfhpcamljaaGreatDoor
open Tryz
open Go.RowKit Go.Shelf
attribute [local go_sem] Oper.semAt_some
def SpS (b k n:Nat) (F:List ByteArray) (wr:World):Prop:=
 ∃ j,wr.heap[b]?=some (.cells j 9 (0,0))/\(∀ h (v:h<F.length),h<k->j[h]?=some (.string F[h]))/\∀ h,h<n->∃ q,j[h]?=some (.string q)
theorem SpS.start (w:World) (n:Nat) (F:List ByteArray):SpS w.heap.size 0 n F (w.alloc (.cells (madeCells #[.string ⟨#[]⟩] n) 9)):=by
 refine ⟨_,heap_alloc_new w _,fun j _ h=>absurd h (Nat.not_lt_zero _),fun j q=>⟨⟨#[]⟩,?_⟩⟩;unfold madeCells;rw [Array.getElem?_map,Array.getElem?_range,Qi (by simpa using q)];simp [Nat.mod_one]
theorem SpS.below {b k n:Nat} {F:List ByteArray} {w w':World} (q:SpS b k n F w) (E:Below w.heap.size w w'):SpS b k n F w':=by
 obtain ⟨G,h,y,z⟩:=q;exact ⟨G,(E.block b (Qb.1 h).1).trans h,y,z⟩
theorem SpS.at_ {b k n:Nat} {F:List ByteArray} {w:World} (q:SpS b k n F w) (j:Nat) (y:j<n):(∃ v,w.cell? ⟨b,j,none⟩=some (.string v))/\w.frozen? ⟨b,j,none⟩=false:=by
 obtain ⟨G,h,_,z⟩:=q;obtain ⟨v,E⟩:=z j y;exact ⟨⟨v,(C9 h j).trans E⟩,Qp h j⟩
theorem SpS.set {b k n:Nat} {F:List ByteArray} {w:World} (J:SpS b k n F w) (O:k<F.length) (E:k<n):SpS b (k+1) n F (w.setCell ⟨b,k,none⟩ (.string F[k])):=by
 obtain ⟨v,G,K,z⟩:=J;refine ⟨_,heap_setCell_same w b k v _ _ G,fun e q M=>?_,fun e q=>?_⟩
 ·rw [QR]
  by_cases h:k=e
  ·subst h
   obtain ⟨y,j⟩:=z k E;have:k<v.size:=(Qb.1 j).1;rw [Qi rfl,Qi this]
  ·rw [Qe h]
   exact K e q (by omega)
 ·rw [QR]
  obtain ⟨y,j⟩:=z e q;by_cases h:k=e
  ·subst h
   have:k<v.size:=(Qb.1 j).1;rw [Qi rfl,Qi this];exact ⟨_,rfl⟩
  ·rw [Qe h]
   exact ⟨y,j⟩
theorem SpS.done {b n:Nat} {F:List ByteArray} {w:World} (y:SpS b F.length n F w):qdl w (some ⟨b,0,none⟩) F:=by
 obtain ⟨E,q,z,_⟩:=y;exact .inr ⟨b,0,rfl,fun h j=>by rw [QT];exact (C9 q h).trans (z h j j)⟩
def qbt (r:Xe):ByteArray:=sB (itemB r.x)
theorem qha (R:List Xe) (A:Option Addr) (l cap:Nat) (ah:R.length=l) (aX:l<=1000) (hF:∀ r∈R,qcj r.x) (w:World) (ae:qad w) (H:qdX w A R) :
  Calls prog 21 #[.slice A l cap] w (qlv w (R.map qbt)):=by
 have aO:∀ w,(Instr.makeSlice 42 (.int .i64 (l:Int)) (.int .i64 (l:Int))).run prog w=.ok (.slice (some ⟨w.heap.size,0,none⟩) l l) (w.alloc (.cells (madeCells #[.string ⟨#[]⟩] l) 9)):=fun w=>
  run_make_row' (P:=prog) 42 9 (.string ⟨#[]⟩) 16 underlying42 qoH rfl .i64 .i64 l (by omega) (by omega) w
 have Z:(R.map qbt).length=l:=by rw [QC];exact ah
 obtain ⟨e,s⟩:=N9 (w.heap.size);have k:=SpS.start w l (R.map qbt);have B0:Below w.heap.size w (w.alloc (.cells (madeCells #[.string ⟨#[]⟩] l) 9)):=B0;rw [s] at k B0;have k:=J9 k;have B0:=J9 B0;have z:Hid (∀ i,i<l->∃ r:Xe,(∀ b,Below e w b->ItJ b A r i)/\(∀ b,Below e w b->Calls prog 23 #[r.v] b fun an aP=>an=.returned (.string (qbt r))/\Below b.heap.size b aP)/\∀ b,SpS e i l (R.map qbt) b->SpS e (i+1) l (R.map qbt) (b.setCell ⟨e,i,none⟩ (.string (qbt r)))):=by
  intro i aM;have aq:i<R.length:=by omega
  refine ⟨R[i],fun b q=>(H.below (by rw [s];exact q)).j aq,fun b q=>?_,fun b O=>?_⟩
  ·obtain ⟨aB,aQ,-,-,-,-,-,-,aS,aT⟩:=(H.below (by rw [s];exact q)).j aq
   exact qfS R[i] (hF _ (QJ _)) b (ae.below (by rw [s];exact q)) ⟨aS,aT⟩
  ·have j:=O.set (by omega:i<(R.map qbt).length) aM
   rw [Zo] at j;exact j
 have G:Hid (∀ b,SpS e l l (R.map qbt) b->Below e w b->qlv w (R.map qbt) (.returned (.slice (some ⟨e,0,none⟩) l l)) b):=by
  intro b O q;have j:SpS e (R.map qbt).length l (R.map qbt) b:=by rw [Z];exact O
  exact ⟨_,l,by rw [Z],j.done,by rw [s];exact q⟩
 obtain ⟨V,am⟩:=N9 (R.map qbt);rw [am] at k z G |-;clear H ae hF ah Z am
 go_enter func21,ntmps21
 go_wp2
 go_loopw [11] (fun U wr=>∃ h:Nat,h<=l/\U=.int .i64 h/\Hid (Below e w wr)/\Hid (SpS e h l V wr)/\e<wr.heap.size) (fun U _=>l - (intOf U).toNat)
 case atStart=>exact ⟨0,Qu _,rfl,B0.o,k.o,by simp;omega⟩
 case round=>
  clear B0 k aO;obtain ⟨h,a1,rfl,v,J,aK⟩:=hrel;by_cases az:h<l
  ·obtain ⟨r,ao,j,K⟩:=z.o h az
   obtain ⟨aB,aQ,aE,ai,ac,ak,ay,aw,-,-⟩:=ao wr v.o;subst aE;unfold Xe.v at j;obtain ⟨au,av⟩:=N9 (qbt r);rw [av] at j K;have aa:=J9 j;have ab:=J9 K;obtain ⟨x,A1,ar,ad,ag⟩:=r;simp only at ai ac ak ay aw aa;obtain ⟨aF,y,a2,aV,ax,M,aY⟩:=Fr.box (Fr.nil wr) #[.int .i64 x.kind,.slice A1 x.raw.length ar,.string (sB x.m),.slice ad x.C.length ag,.bool x.al] 45;have I2:qas y aF x.kind (.slice A1 x.raw.length ar) (sB x.m) (.slice ad x.C.length ag) x.al:=ax.o.1;obtain ⟨aC,aR,aG,aI,aJ,aH⟩:=I2.cells;have W:=J9 (v.o.trans (M.mono (QV aK)));have af:Hid (SpS e h l V y):=J.o.below M;have aj:=J9 (aa.o y W.o);have aU:e<y.heap.size:=(by omega);clear v J ax M I2 ao j K aa z G av
   go_wp2_with fail
   refine aj.o.mono ?_;rintro an F ⟨rfl,E⟩;have ap:=J9 (W.o.trans (E.mono (QV aU)));have T:Hid (SpS e h l V F):=af.o.below E;obtain ⟨⟨aZ,aW⟩,a0⟩:=T.o.at_ h az;have aL:=J9 (ab.o F T.o);have aD:Hid (Below e w (F.setCell ⟨e,h,none⟩ (.string au))):=ap.o.setCell (by simp) _;have aA:e<(F.setCell ⟨e,h,none⟩ (.string au)).heap.size:=(by have:=E.size;simp;omega);clear aj E W af aC aR aG aI aJ aH ab ap T ai ac ak ay aw;go_wp2;go_roundw
   case rel=>exact ⟨h+1,by omega,by go_num,aD.o,aL.o,aA⟩
   case measure=>simp [intOf];omega
  ·obtain rfl:h=l:=by omega
   have aN:=J9 (G.o wr J.o v.o);clear J v z G;go_wp2;go_ret;exact aN.o
end Go.Proofs.YtecpnfhpcamljaaGreatDoor
