/-
  EsAqRSK, RkBqRSK, RkCqRSK, RkDqRSK, RkEqRSK, RkZqRSK, EsBqRSK, SeNqRSK, TbVqRSK, EnAqRSK, DeAqRSK, DeDqRSK, SeRaqRSK, SeRbqRSK, SeRcqRSK, SeRdqRSK, CnWqRSK, CnVqRSK, CnDqRSK, CnNqRSK, CnPqRSK, Mixed2qRSK, CnRqRSK.
-/
import Derived.Test.YtjafbmfcedijmaaGreatDoorKAE
set_option linter.all false
set_option maxRecDepth 100000
set_option maxHeartbeats 4000000
namespace Go.Proofs.YtjafbmfcedijmaaGreatDoor
open Tryz
open Go.RowKit Go.Shelf
attribute [local irreducible] Go.Mixed.qD8
structure Ee where
 g:Int
 o:Int
 m:Str
 A:Option Addr
 cap:Nat
 L:List Tr
 ex:Str
 al:Bool
instance:Inhabited Ee:=⟨⟨0,0,[],none,0,[],[],false⟩⟩
def Ee.v (r:Ee):Value:=.slice r.A r.L.length r.cap
abbrev Ke:=Int×Int×Str×List Tr×Str×Bool
def Ee.k (r:Ee):Ke:=(r.g,r.o,r.m,r.L,r.ex,r.al)
def Ee.c (r:Ee):List Value:=[.int .i64 r.g,.int .u8 r.o,.string (sB r.m),r.v,.string (sB r.ex),.bool r.al]
def cellsX:List Ee->List Value
 | []=>[]
 | r :: h=>.int .i64 r.g :: .int .u8 r.o :: .string (sB r.m) :: r.v :: .string (sB r.ex) :: .bool r.al :: cellsX h
theorem qc6:∀ t:List Ee,(cellsX t).length=t.length*6
 | []=>rfl
 | r :: h=>by
  have y:=qc6 h;show (cellsX h).length+1+1+1+1+1+1=(h.length+1)*6;omega
theorem qeT:∀ a b:List Ee,cellsX (a++b)=cellsX a++cellsX b
 | [],b=>rfl
 | x :: t,b=>by
  show _ :: _ :: _ :: _ :: _ :: _ :: cellsX (t++b)=_ :: _ :: _ :: _ :: _ :: _ :: (cellsX t++cellsX b);rw [qeT t b]
theorem qe5:∀ (e:List Ee) (j:Nat) (t:j<e.length),(cellsX e)[j*6]?=some (.int .i64 e[j].g)/\(cellsX e)[j*6+1]?=some (.int .u8 e[j].o)/\(cellsX e)[j*6+2]?=some (.string (sB e[j].m))/\(cellsX e)[j*6+3]?=some e[j].v/\(cellsX e)[j*6+4]?=some (.string (sB e[j].ex))/\(cellsX e)[j*6+5]?=some (.bool e[j].al)
 | x :: h,0,t=>⟨rfl,rfl,rfl,rfl,rfl,rfl⟩
 | x :: h,j+1,t=>by
  obtain ⟨z,K,E,G,M,J⟩:=qe5 h j (by simpa using t);have y:cellsX (x :: h)=.int .i64 x.g :: .int .u8 x.o :: .string (sB x.m) :: x.v :: .string (sB x.ex) :: .bool x.al :: cellsX h:=rfl;rw [y,show (j+1)*6=j*6+1+1+1+1+1+1 by omega,show j*6+1+1+1+1+1+1+1=(j*6+1)+1+1+1+1+1+1 by omega,show j*6+1+1+1+1+1+1+2=(j*6+2)+1+1+1+1+1+1 by omega,show j*6+1+1+1+1+1+1+3=(j*6+3)+1+1+1+1+1+1 by omega,show j*6+1+1+1+1+1+1+4=(j*6+4)+1+1+1+1+1+1 by omega,show j*6+1+1+1+1+1+1+5=(j*6+5)+1+1+1+1+1+1 by omega];simp only [List.getElem?_cons_succ,List.getElem_cons_succ];exact ⟨z,K,E,G,M,J⟩
theorem qil:∀ (y:List Ee),∀ h∈cellsX y,h.oneCell'=true
 | [],h,e=>by cases e
 | x :: t,h,e=>by
  have u:cellsX (x :: t)=.int .i64 x.g :: .int .u8 x.o :: .string (sB x.m) :: x.v :: .string (sB x.ex) :: .bool x.al :: cellsX t:=rfl;rw [u] at e;simp only [QI] at e;rcases e with rfl | rfl | rfl | rfl | rfl | rfl | e
  ·rfl
  ·rfl
  ·rfl
  ·rfl
  ·rfl
  ·rfl
  ·exact qil t h e
theorem qle (h:List Ee) (j:Nat) (u:Value) (z:(cellsX h)[j]?=some u):∃ (k:Nat) (E:k<h.length) (i:Nat),i<6/\j=k*6+i/\(h[k].c)[i]?=some u:=by
 have V:j<h.length*6:=by
  rw [<- qc6];exact (QP.1 z).1
 have G:j / 6<h.length:=by omega
 obtain ⟨J,R,K,M,U,O⟩:=qe5 h (j / 6) G;refine ⟨j / 6,G,j % 6,by omega,by omega,?_⟩;have:j % 6=0\/j % 6=1\/j % 6=2\/j % 6=3\/j % 6=4\/j % 6=5:=by omega
 rcases this with E | E | E | E | E | E
 all_goals rw [E]
 ·exact (show _=_ from J.symm).trans ((congrArg (fun y=>(cellsX h)[y]?) (by omega:j / 6*6=j)).trans z)
 ·exact (show _=_ from R.symm).trans ((congrArg (fun y=>(cellsX h)[y]?) (by omega:j / 6*6+1=j)).trans z)
 ·exact (show _=_ from K.symm).trans ((congrArg (fun y=>(cellsX h)[y]?) (by omega:j / 6*6+2=j)).trans z)
 ·exact (show _=_ from M.symm).trans ((congrArg (fun y=>(cellsX h)[y]?) (by omega:j / 6*6+3=j)).trans z)
 ·exact (show _=_ from U.symm).trans ((congrArg (fun y=>(cellsX h)[y]?) (by omega:j / 6*6+4=j)).trans z)
 ·exact (show _=_ from O.symm).trans ((congrArg (fun y=>(cellsX h)[y]?) (by omega:j / 6*6+5=j)).trans z)
def EsP (w:World) (A:Option Addr) (b:List Ee):Prop:=
 b=[]\/∃ i y,A=some ⟨i,y,none⟩/\∀ h (z:h<b.length),(∀ k u,(b[h].c)[k]?=some u->w.cell? ⟨i,y+(h*6+k),none⟩=some u)/\qaj w b[h].A b[h].L
theorem EsP.at_ {w:World} {A:Option Addr} {e:List Ee} (G:EsP w A e) {k:Nat} (z:k<e.length):∃ b h,A=some ⟨b,h,none⟩/\b<w.heap.size/\w.cell? ⟨b,h+k*6,none⟩=some (.int .i64 e[k].g)/\w.cell? ⟨b,h+k*6+1,none⟩=some (.int .u8 e[k].o)/\w.cell? ⟨b,h+k*6+2,none⟩=some (.string (sB e[k].m))/\w.cell? ⟨b,h+k*6+3,none⟩=some e[k].v/\w.cell? ⟨b,h+k*6+4,none⟩=some (.string (sB e[k].ex))/\w.cell? ⟨b,h+k*6+5,none⟩=some (.bool e[k].al)/\qaj w e[k].A e[k].L:=by
 rcases G with rfl | ⟨b,h,rfl,E⟩
 ·simp at z
 ·obtain ⟨M,K⟩:=E k z
  have i:∀ u y,(e[k].c)[u]?=some y->w.cell? ⟨b,h+k*6+u,none⟩=some y:=fun u y J=>by rw [Nat.add_assoc];exact M u y J
  exact ⟨b,h,rfl,Qp w _ (i 0 _ rfl),i 0 _ rfl,i 1 _ rfl,i 2 _ rfl,i 3 _ rfl,i 4 _ rfl,i 5 _ rfl,K⟩
theorem EsP.below {w w':World} {A:Option Addr} {h:List Ee} (J:EsP w A h) (u:Below w.heap.size w w'):EsP w' A h:=by
 rcases J with rfl | ⟨z,M,rfl,b⟩
 ·exact .inl rfl
 ·refine .inr ⟨z,M,rfl,fun i k=>⟨fun E G K=>?_,(b i k).2.below u⟩⟩
  have y:=(b i k).1 E G K;exact (u.cell (Qp w _ y)).trans y
theorem EsP.news {w:World} {A:Option Addr} {e:List Ee} (G:EsP w A e):e.length=0\/∃ a,A=some a/\∀ j b,(cellsX e)[j]?=some b->w.cell? (a.add j)=some b:=by
 rcases G with rfl | ⟨h,i,rfl,k⟩
 ·exact .inl rfl
 ·refine .inr ⟨_,rfl,fun j b J=>?_⟩
  have K:(⟨h,i,none⟩:Addr).add j=⟨h,i+j,none⟩:=by unfold Addr.add;split <;> simp_all
  rw [K];obtain ⟨y,E,z,M,rfl,u⟩:=qle e j b J;exact (k y E).1 z b u
def qkj (w:World) (n:Nat) (v:Value) (h:List Ee):Prop:=w.ownsRow n 66 6 v h.length (cellsX h)/\∀ r∈h,qah w n r.v r.L
theorem qkj.below {w w':World} {n:Nat} {v:Value} {e:List Ee} (g:qkj w n v e) (k:Below w.heap.size w w'):qkj w' n v e:=
 ⟨World.ownsRow.kept g.1 (row:=none) ⟨k.os,k.tape,k.output,k.size,fun y h _=>k.block y h⟩ (by
  cases z:v.ownBlock with
  | none=>exact .inl rfl
  | some E=>exact .inr (by simp)),fun r i=>(g.2 r i).below k⟩
theorem qkj.lift {w:World} {n m:Nat} {v:Value} {h:List Ee} (r:qkj w n v h) (k:m<=n):qkj w m v h:=⟨row_mono r.1 k,fun z y=>(r.2 z y).lift k⟩
theorem qkj.es {w:World} {n:Nat} {v:Value} {g:List Ee} (k:qkj w n v g):∃ y i,v=.slice y g.length i/\EsP w y g/\g.length<=i:=by
 rcases k.1.2 with ⟨rfl,Z⟩ | ⟨V,i,ad,rfl,_,_,aa,_⟩
 ·have:g=[]:=Qu Z
  subst this;exact ⟨none,0,rfl,.inl rfl,Qa _⟩
 ·refine ⟨_,i,rfl,.inr ⟨V,0,rfl,fun u A=>⟨fun e O h=>?_,?_⟩⟩,aa⟩
  ·rw [QS]
   have ac:e<6:=by
    have:=(QP.1 h).1;exact this
   obtain ⟨J,U,M,E,ab,R⟩:=qe5 g u A;have K:(cellsX g)[u*6+e]?=some O:=by
    have:e=0\/e=1\/e=2\/e=3\/e=4\/e=5:=(by omega);rcases this with rfl | rfl | rfl | rfl | rfl | rfl
    ·exact J.trans h
    ·exact U.trans h
    ·exact M.trans h
    ·exact E.trans h
    ·exact ab.trans h
    ·exact R.trans h
   exact (World.ownsRow.cellAt k.1 _ (by omega)).trans K
  ·obtain ⟨ae,af,z,G,-⟩:=(k.2 _ (QB A)).ops
   simp only [Ee.v,QC] at z;rw [z.1];exact G
theorem qv8:(prog.info? 163).map (fun i=>(i.zero,i.size,i.bytes))=some (some (.agg #[.int .i64 0,.int .u8 0,.string ⟨#[]⟩,.slice none 0 0,.string ⟨#[]⟩,.bool false]),6,80):=by kernel_rfl
def qbV (w:World) (n:Nat) (v:Value) (h:List Ee):Prop:=w.ownsRow n 163 6 v h.length (cellsX h)/\∀ r∈h,qah w n r.v r.L
theorem qbV.below {w w':World} {n:Nat} {v:Value} {e:List Ee} (g:qbV w n v e) (k:Below w.heap.size w w'):qbV w' n v e:=
 ⟨World.ownsRow.kept g.1 (row:=none) ⟨k.os,k.tape,k.output,k.size,fun y h _=>k.block y h⟩ (by
  cases z:v.ownBlock with
  | none=>exact .inl rfl
  | some E=>exact .inr (by simp)),fun r i=>(g.2 r i).below k⟩
theorem qbV.lift {w:World} {n m:Nat} {v:Value} {h:List Ee} (r:qbV w n v h) (k:m<=n):qbV w m v h:=⟨row_mono r.1 k,fun z y=>(r.2 z y).lift k⟩
theorem qbV.es {w:World} {n:Nat} {v:Value} {g:List Ee} (k:qbV w n v g):∃ y i,v=.slice y g.length i/\EsP w y g/\g.length<=i:=by
 rcases k.1.2 with ⟨rfl,Z⟩ | ⟨V,i,ad,rfl,_,_,aa,_⟩
 ·have:g=[]:=Qu Z
  subst this;exact ⟨none,0,rfl,.inl rfl,Qa _⟩
 ·refine ⟨_,i,rfl,.inr ⟨V,0,rfl,fun u A=>⟨fun e O h=>?_,?_⟩⟩,aa⟩
  ·rw [QS]
   have ac:e<6:=by
    have:=(QP.1 h).1;exact this
   obtain ⟨J,U,M,E,ab,R⟩:=qe5 g u A;have K:(cellsX g)[u*6+e]?=some O:=by
    have:e=0\/e=1\/e=2\/e=3\/e=4\/e=5:=(by omega);rcases this with rfl | rfl | rfl | rfl | rfl | rfl
    ·exact J.trans h
    ·exact U.trans h
    ·exact M.trans h
    ·exact E.trans h
    ·exact ab.trans h
    ·exact R.trans h
   exact (World.ownsRow.cellAt k.1 _ (by omega)).trans K
  ·obtain ⟨ae,af,z,G,-⟩:=(k.2 _ (QB A)).ops
   simp only [Ee.v,QC] at z;rw [z.1];exact G
theorem qsm (w:World) (n:Nat):qbV w n (.slice none 0 0) []:=⟨Zm _ _ _ _,fun r h=>absurd h Q8⟩
theorem qq9 (w:World) (B:Nat) (v:Value) (h:List Ee) (z:qbV w B v h) (A:Option Addr) (c:Nat) (R2:List Ee) (ab:EsP w A R2) (ae:∀ r∈R2,qah w B r.v r.L) (O:B<=w.heap.size) (ar:h.length+R2.length<=100000) :
  ∃ y e,(Builtin.append_ #[262,262] 262 #[v,.slice A R2.length c]).run prog w=.ok y e/\qbV e B y (h++R2)/\Below B w e/\w.grownBy e v.ownBlock:=by
 obtain ⟨af,V,an,ai,aj⟩:=info_parts qv8;obtain ⟨y,e,ad,ah,G⟩:=qau w B 262 262 163 af _ 6 80 underlying262 V an ai aj rfl (by decide) v h.length (cellsX h) z.1 A R2.length c (cellsX R2)
  (qc6 R2) ab.news (qil R2) (by unfold maxLen;omega) (by omega) O
 have ao:∀ q,v.ownBlock=some q->∀ E R,w.heap[q]?≠some (.cells E 57 R):=fun q J E R aa=>by
  rcases z.1.2 with ⟨rfl,_⟩ | ⟨au,aq,ap,rfl,_,M,_⟩
  ·simp [Value.ownBlock] at J
  ·simp only [Value.ownBlock,Qz] at J
   subst J;rw [aa] at M;simp at M
 have K:∀ {u:Value} {L:List Tr},qah w B u L->qah e B u L:=fun {u L} U=>World.ownsRow.kept U G (by
  cases ak:u.ownBlock with
  | none=>exact .inl rfl
  | some q=>
   refine .inr fun ag=>?_
   obtain ⟨E,ac⟩:=qbH U ak;exact ao q ag.symm _ _ ac)
 refine ⟨y,e,ad,⟨?_,fun r k=>?_⟩,(Qc B w).grown G O fun Z am=>(World.ownsRow.lt z.1 Z am).1,G⟩
 ·rw [qeT,Qg]
  exact ah
 ·rcases QO.1 k with k | k
  ·exact K (z.2 r k)
  ·exact K (ae r k)
theorem qzn (w:World) (r:Ee) (y:qaj w r.A r.L):EsP (w.alloc (.cells #[.int .i64 r.g,.int .u8 r.o,.string (sB r.m),r.v,.string (sB r.ex),.bool r.al] 163)) (some ⟨w.heap.size,0,none⟩) [r]:=by
 refine .inr ⟨_,_,rfl,fun k u=>?_⟩;obtain rfl:k=0:=by simp at u;omega
 refine ⟨fun h z i=>?_,y.below (qaG _ _)⟩;rw [QS,Nat.zero_mul,QS,C9 (heap_alloc_new w _)];have:h=0\/h=1\/h=2\/h=3\/h=4\/h=5:=by
  have E:h<6:=(QP.1 i).1;omega
 rcases this with rfl | rfl | rfl | rfl | rfl | rfl <;> exact i
end Go.Proofs.YtjafbmfcedijmaaGreatDoor
namespace Go.Proofs.YtjafbmfcedijmaaGreatDoor
open Tryz
set_option maxRecDepth 100000
theorem qAR:qax prog 0 0 64=true:=by decide +kernel
theorem qyk:qax prog 0 64 64=true:=by decide +kernel
theorem qvS:qax prog 0 128 64=true:=by decide +kernel
theorem qv0:qax prog 0 192 64=true:=by decide +kernel
theorem qAn:qax prog 1 0 64=true:=by decide +kernel
theorem qyc:qax prog 1 64 64=true:=by decide +kernel
theorem qvt:qax prog 1 128 64=true:=by decide +kernel
theorem qvl:qax prog 1 192 64=true:=by decide +kernel
theorem qzY:qax prog 5 0 64=true:=by decide +kernel
theorem qxV:qax prog 5 64 64=true:=by decide +kernel
theorem qu5:qax prog 5 128 64=true:=by decide +kernel
theorem qu6:qax prog 5 192 64=true:=by decide +kernel
theorem qAP:qax prog 6 0 64=true:=by decide +kernel
theorem qx7:qax prog 6 64 64=true:=by decide +kernel
theorem qvH:qax prog 6 128 64=true:=by decide +kernel
theorem qvu:qax prog 6 192 64=true:=by decide +kernel
theorem qzW:qax prog 2 0 16=true:=by decide +kernel
theorem qxA:qax prog 2 16 16=true:=by decide +kernel
theorem qyh:qax prog 2 32 16=true:=by decide +kernel
theorem qzy:qax prog 2 48 16=true:=by decide +kernel
theorem qy7:qax prog 2 64 16=true:=by decide +kernel
theorem qyi:qax prog 2 80 16=true:=by decide +kernel
theorem qyt:qax prog 2 96 16=true:=by decide +kernel
theorem qt0:qax prog 2 112 16=true:=by decide +kernel
theorem qud:qax prog 2 128 16=true:=by decide +kernel
theorem quS:qax prog 2 144 16=true:=by decide +kernel
theorem qwf:qax prog 2 160 16=true:=by decide +kernel
theorem qv6:qax prog 2 176 16=true:=by decide +kernel
theorem qvz:qax prog 2 192 16=true:=by decide +kernel
theorem qt7:qax prog 2 208 16=true:=by decide +kernel
theorem qt6:qax prog 2 224 16=true:=by decide +kernel
theorem qtR:qax prog 2 240 16=true:=by decide +kernel
theorem qBa:qax prog 3 0 32=true:=by decide +kernel
theorem qza:qax prog 3 32 32=true:=by decide +kernel
theorem qyr:qax prog 3 64 32=true:=by decide +kernel
theorem qxh:qax prog 3 96 32=true:=by decide +kernel
theorem qub:qax prog 3 128 32=true:=by decide +kernel
theorem qvN:qax prog 3 160 32=true:=by decide +kernel
theorem quQ:qax prog 3 192 32=true:=by decide +kernel
theorem qvs:qax prog 3 224 32=true:=by decide +kernel
theorem qA5:qax prog 4 0 32=true:=by decide +kernel
theorem qxG:qax prog 4 32 32=true:=by decide +kernel
theorem qxr:qax prog 4 64 32=true:=by decide +kernel
theorem qxK:qax prog 4 96 32=true:=by decide +kernel
theorem qvj:qax prog 4 128 32=true:=by decide +kernel
theorem qvf:qax prog 4 160 32=true:=by decide +kernel
theorem quF:qax prog 4 192 32=true:=by decide +kernel
theorem qwq:qax prog 4 224 32=true:=by decide +kernel
end Go.Proofs.YtjafbmfcedijmaaGreatDoor
namespace Go.Proofs.YtjafbmfcedijmaaGreatDoor
open Tryz
open Go.RowKit Go.Shelf
theorem qDU (n:Nat) (z:n<256):qsc prog 0 n=true:=by
 rcases (by omega:0<=n/\n<64\/64<=n/\n<128\/128<=n/\n<192\/192<=n/\n<256) with ⟨y,h⟩ | ⟨y,h⟩ | ⟨y,h⟩ | ⟨y,h⟩
 ·exact qab qAR n y h
 ·exact qab qyk n y h
 ·exact qab qvS n y h
 ·exact qab qv0 n y h
theorem qDL (n:Nat) (z:n<256):qsc prog 1 n=true:=by
 rcases (by omega:0<=n/\n<64\/64<=n/\n<128\/128<=n/\n<192\/192<=n/\n<256) with ⟨y,h⟩ | ⟨y,h⟩ | ⟨y,h⟩ | ⟨y,h⟩
 ·exact qab qAn n y h
 ·exact qab qyc n y h
 ·exact qab qvt n y h
 ·exact qab qvl n y h
theorem qDQ (n:Nat) (z:n<256):qsc prog 2 n=true:=by
 rcases (by omega:0<=n/\n<16\/16<=n/\n<32\/32<=n/\n<48\/48<=n/\n<64\/64<=n/\n<80\/80<=n/\n<96\/96<=n/\n<112\/112<=n/\n<128\/128<=n/\n<144\/144<=n/\n<160\/160<=n/\n<176\/176<=n/\n<192\/192<=n/\n<208\/208<=n/\n<224\/224<=n/\n<240\/240<=n/\n<256) with ⟨y,h⟩ | ⟨y,h⟩ | ⟨y,h⟩ | ⟨y,h⟩ | ⟨y,h⟩ | ⟨y,h⟩ | ⟨y,h⟩ | ⟨y,h⟩ | ⟨y,h⟩ | ⟨y,h⟩ | ⟨y,h⟩ | ⟨y,h⟩ | ⟨y,h⟩ | ⟨y,h⟩ | ⟨y,h⟩ | ⟨y,h⟩
 ·exact qab qzW n y h
 ·exact qab qxA n y h
 ·exact qab qyh n y h
 ·exact qab qzy n y h
 ·exact qab qy7 n y h
 ·exact qab qyi n y h
 ·exact qab qyt n y h
 ·exact qab qt0 n y h
 ·exact qab qud n y h
 ·exact qab quS n y h
 ·exact qab qwf n y h
 ·exact qab qv6 n y h
 ·exact qab qvz n y h
 ·exact qab qt7 n y h
 ·exact qab qt6 n y h
 ·exact qab qtR n y h
theorem qD3 (n:Nat) (z:n<256):qsc prog 3 n=true:=by
 rcases (by omega:0<=n/\n<32\/32<=n/\n<64\/64<=n/\n<96\/96<=n/\n<128\/128<=n/\n<160\/160<=n/\n<192\/192<=n/\n<224\/224<=n/\n<256) with ⟨y,h⟩ | ⟨y,h⟩ | ⟨y,h⟩ | ⟨y,h⟩ | ⟨y,h⟩ | ⟨y,h⟩ | ⟨y,h⟩ | ⟨y,h⟩
 ·exact qab qBa n y h
 ·exact qab qza n y h
 ·exact qab qyr n y h
 ·exact qab qxh n y h
 ·exact qab qub n y h
 ·exact qab qvN n y h
 ·exact qab quQ n y h
 ·exact qab qvs n y h
theorem qDM (n:Nat) (z:n<256):qsc prog 4 n=true:=by
 rcases (by omega:0<=n/\n<32\/32<=n/\n<64\/64<=n/\n<96\/96<=n/\n<128\/128<=n/\n<160\/160<=n/\n<192\/192<=n/\n<224\/224<=n/\n<256) with ⟨y,h⟩ | ⟨y,h⟩ | ⟨y,h⟩ | ⟨y,h⟩ | ⟨y,h⟩ | ⟨y,h⟩ | ⟨y,h⟩ | ⟨y,h⟩
 ·exact qab qA5 n y h
 ·exact qab qxG n y h
 ·exact qab qxr n y h
 ·exact qab qxK n y h
 ·exact qab qvj n y h
 ·exact qab qvf n y h
 ·exact qab quF n y h
 ·exact qab qwq n y h
theorem qD2 (n:Nat) (z:n<256):qsc prog 5 n=true:=by
 rcases (by omega:0<=n/\n<64\/64<=n/\n<128\/128<=n/\n<192\/192<=n/\n<256) with ⟨y,h⟩ | ⟨y,h⟩ | ⟨y,h⟩ | ⟨y,h⟩
 ·exact qab qzY n y h
 ·exact qab qxV n y h
 ·exact qab qu5 n y h
 ·exact qab qu6 n y h
theorem qDS (n:Nat) (z:n<256):qsc prog 6 n=true:=by
 rcases (by omega:0<=n/\n<64\/64<=n/\n<128\/128<=n/\n<192\/192<=n/\n<256) with ⟨y,h⟩ | ⟨y,h⟩ | ⟨y,h⟩ | ⟨y,h⟩
 ·exact qab qAP n y h
 ·exact qab qx7 n y h
 ·exact qab qvH n y h
 ·exact qab qvu n y h
theorem qsH (w:World) (y z:Int):∃ h,(w.alloc (.cells #[.int .i64 0,.int .u8 0,.string ⟨#[]⟩,.slice none 0 0,.string ⟨#[]⟩,.bool false] 66)).alloc (.cells #[.int .i64 y,.int .u8 z,.string ⟨#[]⟩,.slice none 0 0,.string ⟨#[]⟩,.bool false] 66)=h/\
  qdo h w.heap.size 0 0 [] (.slice none 0 0) [] false/\qdo h (w.heap.size+1) y z [] (.slice none 0 0) [] false/\Below w.heap.size w h/\h.heap.size=w.heap.size+2:=by
 refine ⟨_,rfl,(Below.heap_alloc _ _ _ (by simp)).trans (World.alloc_heap_new w _),?_,((B0 (w:=w))).alloc (by simp) _,by simp⟩;have E:=World.alloc_heap_new (w.alloc (.cells #[.int .i64 0,.int .u8 0,.string ⟨#[]⟩,.slice none 0 0,.string ⟨#[]⟩,.bool false] 66)) (.cells #[.int .i64 y,.int .u8 z,.string ⟨#[]⟩,.slice none 0 0,.string ⟨#[]⟩,.bool false] 66);rw [QL] at E;exact E
theorem qCA (n:Nat) (am:n<256) (h:Int) (J:¬(0<=h/\h<=6)) (w:World):Calls prog 72 #[.int .i64 h,.int .u8 n] w (qnC w h n (rkindT h n) (qaX h n)):=by
 obtain ⟨aA,K,G,y,B0,E⟩:=qsH w h n;obtain ⟨aB,z⟩:=N9 (w.heap.size);rw [z] at G y B0 E;have U:=J9 z;have M:=J9 K;have T:=J9 G;have az:=J9 y;have ai:=J9 B0;have ap:=J9 E;clear K z G y B0 E;have af:Hid (rkindT h n=0):=(by unfold rkindT;rw [Qd (by omega),Qd (by omega),Qd (by omega)]:rkindT h n=0);have aa:Hid (qaX h n=none):=qg1 J n;have av:(h == 0)=false:=by simp;omega
 have aw:(h == 1)=false:=by simp;omega
 have aq:(h == 2)=false:=by simp;omega
 have aj:(h == 3)=false:=by simp;omega
 have ar:(h == 4)=false:=by simp;omega
 have aE:(h == 5)=false:=by simp;omega
 have ak:(h == 6)=false:=by simp;omega
 clear J
 go_enter func72,ntmps72
 go_upto_region 3 with fail
 rw [M.o,U.o];clear M;obtain ⟨au,ao,aG,aF,aH,aC,aD⟩:=T.o.cells;go_wp2;obtain ⟨an,O,ab,ae,ax,-,ay⟩:=T.o.put 0 0 [] (.slice none 0 0) [] false;rw [show sB []=(⟨#[]⟩:ByteArray) from rfl] at O;rw [O];obtain ⟨V,ah,Z,ad,ac,ag,-⟩:=ab.cells;refine bodyPost_ret (v:=.tuple #[enV 0 0 [] (.slice none 0 0) [] false,.int .i64 0]) ?_ rfl ?_
 ·simp [results,results72,go_sem,V,ah,Z,ad,ac,ag,enV]
 ·rw [aa.o]
  exact ⟨by first | rfl | (rw [af.o]),by rw [U.o];exact ai.o.trans ae⟩
theorem qrg (h:Int) (y:Nat) (z:y<256) (w:World):Calls prog 72 #[.int .i64 h,.int .u8 y] w (qnC w h y (rkindT h y) (qaX h y)):=by
 by_cases E:0<=h/\h<=6
 ·rcases (by omega:h=0\/h=1\/h=2\/h=3\/h=4\/h=5\/h=6) with rfl | rfl | rfl | rfl | rfl | rfl | rfl
  ·exact qbz (g:=0) (by omega) (qDU y z) w
  ·exact qbz (g:=1) (by omega) (qDL y z) w
  ·exact qbz (g:=2) (by omega) (qDQ y z) w
  ·exact qbz (g:=3) (by omega) (qD3 y z) w
  ·exact qbz (g:=4) (by omega) (qDM y z) w
  ·exact qbz (g:=5) (by omega) (qD2 y z) w
  ·exact qbz (g:=6) (by omega) (qDS y z) w
 ·exact qCA y z h E w
def entsR (h:Int):Nat->List Ke
 | 0=>[]
 | k+1=>match qaX h k with
  | some x=>entsR h k++[(h,(k:Int),x.1,x.2.1,x.2.2.1,x.2.2.2)]
  | none=>entsR h k
theorem qwp (h:Int) (n:Nat):(rkindT h n == 1)=false:=by
 unfold rkindT;split
 ·rfl
 ·split
  ·rfl
  ·split <;> rfl
def ixT (t:Tr):Int:=
 if t.1=3\/t.1=4\/t.1=5 then (if t.2.1=5 then 5 else if t.2.1=6 then 6 else 0) else if t.1=2 then (if t.2.1=0\/t.2.1=1 then 5 else if t.2.1=2\/t.2.1=3 then 6 else 0) else 0
def qx8 (L:List Tr):Int:=L.foldl (fun a h=>max a (ixT h)) 0
def qgi (t:Tr):Bool:=decide (t.1=2)||(decide (3<=t.1)&&decide (t.1<=5)&&(decide (t.2.1=5)||decide (t.2.1=6)))
def qDz (h:Int):Int:=if h=3\/h=5 then 5 else if h=4\/h=6 then 6 else 0
def qzD (m:Str) (L:List Tr) (ex:Str):Bool:=
 (opc (sB m) != 1||L.length != 2)&&(opc (sB m) != 2||L.length != 1)&&(opc (sB m) != 3||!(L.map ks2 == [(3,2),(3,1)])) &&
 (List.range L.length).all fun h=>(L.getD h tr0).1 != 6||(if letR ex L h=0 then decide (0<=(L.getD h tr0).2.2) else decide (0<=(rangeR (letR ex L h)).1))
def qC1 (L:List Tr) (ex:Str):Bool:=(List.range L.length).all fun h=>letR ex L h == 0||(decide (loK (L.getD h tr0).1.toNat<=(rangeR (letR ex L h)).1)&&decide ((rangeR (letR ex L h)).2<=hiK (L.getD h tr0).1.toNat))
def okS (h:Int) (x:En):Bool:=
 decide (x.1.length<=10)&&decide (x.2.2.1.length<=10)&&decide (x.2.1.length<=3)&&((upB (sB x.1)).data == (sB x.1).data)&&qbx x.2.2.1 x.2.1&&decide (qa6 (sB x.1) x.2.1=0)&&qzD x.1 x.2.1 x.2.2.1&&qC1 x.2.1 x.2.2.1 &&decide (qx8 x.2.1=qDz h)&&(x.2.1.any qgi == decide (3<=h))
def qDB (g n:Nat):Bool:=match qaX (g:Int) n with
 | some h=>okS (g:Int) h
 | none=>true
theorem qC3:∀ h:Fin 7,∀ g:Fin 256,qDB h.val g.val=true:=by decide +kernel
theorem qwZ {g:Int} {n:Nat} (G:n<256) {x:En} (y:qaX g n=some x):okS g x=true/\0<=g/\g<=6:=by
 by_cases E:0<=g/\g<=6
 ·obtain ⟨h,rfl⟩:∃ h:Nat,g=(h:Int):=⟨g.toNat,by omega⟩
  have z:=qC3 ⟨h,by omega⟩ ⟨n,G⟩;unfold qDB at z;rw [y] at z;exact ⟨z,E⟩
 ·rw [qg1 E] at y
  cases y
def qcU (k:Ke):Prop:=∃ h:Nat,h<256/\k.2.1=(h:Int)/\qaX k.1 h=some (k.2.2.1,k.2.2.2.1,k.2.2.2.2.1,k.2.2.2.2.2)
theorem qsP (z:Int):∀ x,x<=256->∀ y∈entsR z x,y.1=z/\qcU y
 | 0,_,y,h=>by cases h
 | x+1,K,y,h=>by
  have J:=qsP z x (by omega);unfold entsR at h;cases E:qaX z x with
  | none=>rw [E] at h;exact J y h
  | some M=>
   rw [E] at h;rcases QO.1 h with G | G
   ·exact J y G
   ·obtain rfl:=QA.1 G
    exact ⟨rfl,x,by omega,rfl,E⟩
theorem qqB {k:Ke} (c:qcU k):∀ a:Nat,k.2.1<(a:Int)->k∈entsR k.1 a
 | 0,e=>by obtain ⟨d,_,b,_⟩:=c;omega
 | a+1,e=>by
  have h:=qqB c a;obtain ⟨d,G,b,f⟩:=c;unfold entsR;by_cases g:d=a
  ·subst g
   rw [f];refine QO.2 (.inr (QA.2 ?_));obtain ⟨x,n,J,K,y,z⟩:=k;simp only at b;subst b;rfl
  ·have:=h (by omega)
   cases qaX k.1 a with
   | none=>exact this
   | some E=>exact QO.2 (.inl this)
structure OkS (k:Ke):Prop where
 m:k.2.2.1.length<=10
 ex:k.2.2.2.2.1.length<=10
 len:k.2.2.2.1.length<=3
 up:upB (sB k.2.2.1)=sB k.2.2.1
 places:qbx k.2.2.2.2.1 k.2.2.2.1=true
 code:qa6 (sB k.2.2.1) k.2.2.2.1=0
 can:qzD k.2.2.1 k.2.2.2.1 k.2.2.2.2.1=true
 rng:qC1 k.2.2.2.1 k.2.2.2.2.1=true
 ix:qx8 k.2.2.2.1=qDz k.1
 fst:k.2.2.2.1.any qgi=decide (3<=k.1)
 lo:0<=k.1
 hi:k.1<=6
theorem qcU.ok {k:Ke} (E:qcU k):OkS k:=by
 obtain ⟨J,j,-,i⟩:=E;obtain ⟨a,G,g⟩:=qwZ j i;unfold okS at a;simp only [Qh,Ql,beq_iff_eq] at a;obtain ⟨⟨⟨⟨⟨⟨⟨⟨⟨c,d⟩,l⟩,y⟩,b⟩,e⟩,f⟩,z⟩,n⟩,h⟩:=a;exact ⟨c,d,l,ByteArray.ext y,b,e,f,z,n,h,G,g⟩
theorem qxl {t:Tr} (k:vT t=true):qkY t.1 t.2.1 t.2.2=ixT t:=by
 obtain ⟨h,O,E⟩:=t;unfold vT at k;simp only at k |-;unfold qkY ixT;rw [Qk k];have n:=k;unfold qaT at n;simp only [Qh,Ql] at n;obtain ⟨⟨⟨Z,U⟩,M⟩,V,K⟩:=n;have G:h=1\/h=2\/h=3\/h=4\/h=5\/h=6\/h=7\/h=8\/h=9\/h=10:=by omega
 have z:h=2\/h=3\/h=4->E=0:=fun k=>by
  rcases k with rfl | rfl | rfl
  ·have y:loK (2:Int).toNat=0:=rfl
   have r:hiK (2:Int).toNat=0:=rfl;omega
  ·have y:loK (3:Int).toNat=0:=rfl
   have r:hiK (3:Int).toNat=0:=rfl;omega
  ·have y:loK (4:Int).toNat=0:=rfl
   have r:hiK (4:Int).toNat=0:=rfl;omega
 unfold inB inP;rcases G with rfl | rfl | rfl | rfl | rfl | rfl | rfl | rfl | rfl | rfl
 all_goals (try (have J:=z (by omega);subst J))
 all_goals simp
 all_goals (repeat' split) <;> simp_all <;> omega
end Go.Proofs.YtjafbmfcedijmaaGreatDoor
namespace Go.Proofs.YtjafbmfcedijmaaGreatDoor
open Tryz
open Go.RowKit Go.Shelf
attribute [local go_sem] Oper.semAt_some
def qhX (c:UInt8):Nat:=if c=100\/c=101\/c=110 then 1 else if c=119 then 2 else 0
def qc8 (ex:Str) (k:Nat):Nat:=((ex.take k).map qhX).sum
theorem qdr (ex:Str) (k:Nat) (h:k<ex.length):qc8 ex (k+1)=qc8 ex k+qhX ex[k]:=by
 unfold qc8;rw [Qx h,Zc,List.sum_append];simp
def sizeT (h:Int) (ex:Str):Nat:=(qaQ h).length+1+qc8 ex ex.length
end Go.Proofs.YtjafbmfcedijmaaGreatDoor
namespace Go.Proofs.YtjafbmfcedijmaaGreatDoor
open Tryz
open Go.RowKit
def hdB:Str->Option (Int×UInt8×Str)
 | []=>none
 | b :: r=>
  if b=203 then (match r with | o :: t=>some (1,o,t) | []=>none)
  else if b=237 then (match r with | o :: t=>some (2,o,t) | []=>none)
  else if b=221 then (match r with | o :: t=>if o=203 then (match t with | x :: h :: u=>some (5,h,x :: u) | _=>none) else some (3,o,t) | []=>none)
  else if b=253 then (match r with | o :: t=>if o=203 then (match t with | x :: h :: u=>some (6,h,x :: u) | _=>none) else some (4,o,t) | []=>none)
  else some (0,b,r)
def sgB (c:UInt8):Int:=qtE (c.toNat:Int)
def qdb (ex:Str) (t:Str):Int×Int:=
 if ex=[100] then (sgB (t.getD 0 0),0) else if ex=[101] then (0,sgB (t.getD 0 0)) else if ex=[110] then (0,((t.getD 0 0).toNat:Int)) else
 if ex=[119] then (0,((t.getD 0 0).toNat:Int)+256*((t.getD 1 0).toNat:Int)) else if ex=[100,110] then (sgB (t.getD 0 0),((t.getD 1 0).toNat:Int)) else (0,0)
structure Ite where
 kind:Int
 raw:Str
 m:Str
 C:List Tr
 al:Bool
deriving DecidableEq
def qbB (kind:Int) (h:Str):Ite:=⟨kind,h,[],[],false⟩
def itR (b:Str):Ite:=match hdB b with
 | none=>qbB 4 b
 | some (o,p,t)=>match qaX o p.toNat with
  | none=>if rkindT o p.toNat=0 then qbB 2 (b.take 1) else qbB 3 (b.take 2)
  | some h=>if b.length<sizeT o h.2.2.1 then qbB 4 b else ⟨1,b.take (sizeT o h.2.2.1),h.1,(qaZ h.2.2.1 h.2.1 (qdb h.2.2.1 t).1 (qdb h.2.2.1 t).2).getD [],h.2.2.2⟩
def needR (b:Str):Nat:=match hdB b with
 | some (h,o,t)=>(match qaX h o.toNat with
  | none=>if rkindT h o.toNat=0 then 1 else 2
  | some p=>sizeT h p.2.2.1)
 | none=>match b with
  | []=>1
  | _ :: 203 :: _=>4
  | _=>2
end Go.Proofs.YtjafbmfcedijmaaGreatDoor
namespace Go.Proofs.YtjafbmfcedijmaaGreatDoor
open Tryz
open Go.RowKit Go.Shelf
attribute [local go_sem] Oper.semAt_some
theorem qdK (a b:UInt8):((a.toNat:Int) == (b.toNat:Int))=decide (a=b):=by
 by_cases e:a=b
 ·subst e
  rw [Qn rfl];exact beq_self_eq_true _
 ·rw [Qf e]
  exact Qj.2 fun h=>e (UInt8.toNat_inj.1 (by omega))
theorem quY (ex:Str) (V:ex.length<=1000) (c:UInt8) (w:World) :
  Calls prog 167 #[.string (sB ex),.int .u8 (c.toNat:Int)] w fun s ai=>s=.returned (.bool (ex.contains c))/\ai=w:=by
 obtain ⟨l,x⟩:=N9 (sB ex);have aa:l.size=ex.length:=by rw [<- x,qaH]
 have R:∀ e (i:e<l.size) (O:e<ex.length),l[e]=ex[e]:=fun e i O=>by subst x;exact qj4 ex e i O
 have ad:=J9 R;rw [x];obtain ⟨M,J⟩:=N9 (ex.length);have T:=J9 J;rw [J] at aa V;obtain ⟨ac,z⟩:=N9 ((c.toNat:Int));have af:=J9 z;rw [z];clear x R J z
 go_enter func167,ntmps167
 go_wp2
 go_loopw [5] (fun B wr=>∃ h:Nat,h<=M/\B=.int .i64 h/\Hid (∀ e (i:e<ex.length),e<h->ex[e]≠c)/\Hid (wr=w)) (fun B _=>M - (intOf B).toNat)
 case atStart=>exact ⟨0,Qs _,rfl,fun e i Z=>by omega,rfl⟩
 case round=>
  obtain ⟨h,aj,rfl,k,G⟩:=hrel;by_cases ab:h<M
  ·have U:h<l.size:=by omega
   have y:h<ex.length:=(by rw [T.o];exact ab);have K:=ad.o h U y;have ae:((l[h].toNat:Int) == ac)=decide (ex[h]=c):=(by rw [<- af.o,K];exact qdK _ _);obtain ⟨ag,j⟩:=N9 (decide (ex[h]=c));rw [j] at ae;have ak:h<=1000:=(by omega);cases ag with
   | true=>
    have E:Hid (true=ex.contains c):=by
     show true=_;exact (List.contains_iff_mem.2 (Qt j ▸ QB y)).symm
    clear j K y k;go_wp2;go_ret;exact ⟨qaa E.o,G.o⟩
   | false=>
    have R2:Hid (∀ e (i:e<ex.length),e<h+1->ex[e]≠c):=fun e i Z=>by
     by_cases s:e=h
     ·subst s;exact Q3 j
     ·exact k.o e i (by omega)
    clear j K y k;go_wp2;go_roundw
    case rel=>exact ⟨h+1,by omega,by go_num,R2.o,G.o⟩
    case measure=>simp [intOf];omega
  ·have E:Hid (false=ex.contains c):=by
    show false=_;refine (Bool.eq_false_iff.2 fun i=>?_).symm;obtain ⟨e,ah,s⟩:=Zg (List.contains_iff_mem.1 i);exact k.o e ah (by have:=T.o;omega) s
   clear k;go_wp2;go_ret;exact ⟨qaa E.o,G.o⟩
theorem qev (c:UInt8) (n:Int) (w:World) :
  Calls prog 119 #[.int .u8 (c.toNat:Int),.int .i64 n] w fun T V=>T=.returned (.bool (withR c n))/\V=w:=by
 have M:((c.toNat:Int) == 100)=decide (c=100):=qdK c 100;have E:((c.toNat:Int) == 101)=decide (c=101):=qdK c 101;have x:((c.toNat:Int) == 110)=decide (c=110):=qdK c 110;obtain ⟨Z,O⟩:=N9 ((c.toNat:Int));rw [O] at M E x |-;clear O;have G:∀ J K:Int,((J<=n/\n<=K)\/(J<=n/\¬n<=K)\/¬J<=n):=fun J K=>by omega
 by_cases h:c=100
 ·subst h
  have e:Hid (withR 100 n=(decide (-128<=n)&&decide (n<=127))):=rfl;rw [Qn rfl] at M;clear E x;rcases G (-128) 127 with ⟨a,b⟩ | ⟨a,b⟩ | a
  all_goals
   go_enter func119,ntmps119
   go_wp2;go_ret;exact ⟨qaa (by rw [e.o];simp_all <;> (intros;omega)),rfl⟩
 ·rw [Qf h] at M
  by_cases z:c=101
  ·subst z
   have e:Hid (withR 101 n=(decide (-128<=n)&&decide (n<=127))):=rfl;rw [Qn rfl] at E;clear x h;rcases G (-128) 127 with ⟨a,b⟩ | ⟨a,b⟩ | a
   all_goals
    go_enter func119,ntmps119
    go_wp2;go_ret;exact ⟨qaa (by rw [e.o];simp_all <;> (intros;omega)),rfl⟩
  ·rw [Qf z] at E
   by_cases y:c=110
   ·subst y
    have e:Hid (withR 110 n=(decide (0<=n)&&decide (n<=255))):=rfl;rw [Qn rfl] at x;clear h z;rcases G 0 255 with ⟨a,b⟩ | ⟨a,b⟩ | a
    all_goals
     go_enter func119,ntmps119
     go_wp2;go_ret;exact ⟨qaa (by rw [e.o];simp_all <;> (intros;omega)),rfl⟩
   ·have e:Hid (withR c n=(decide (0<=n)&&decide (n<=65535))):=by show _=_;unfold withR;rw [Qd (by rintro (U | U) <;> contradiction),Qd y]
    rw [Qf y] at x;clear h z y;rcases G 0 65535 with ⟨a,b⟩ | ⟨a,b⟩ | a
    all_goals
     go_enter func119,ntmps119
     go_wp2;go_ret;exact ⟨qaa (by rw [e.o];simp_all <;> (intros;omega)),rfl⟩
theorem qjO (t:Tr):qdm t=((t.1 == 6)||(t.1 == 7)):=rfl
theorem qvh {L:List Tr} {k:Nat} (x:∀ j (E:j<L.length),k<j->qdm L[j]=false):(L.drop (k+1)).any qdm=false:=by
 rw [List.any_eq_false];intro y i;obtain ⟨z,h,rfl⟩:=Zg i;rw [List.getElem_drop];rw [x _ (by simp at h;omega) (by omega)];decide
theorem qvE {L:List Tr} {k j:Nat} (z:j<L.length) (y:k<j) (h:qdm L[j]=true):(L.drop (k+1)).any qdm=true:=by
 rw [Zr];refine ⟨L[j],?_,h⟩;have:L[j]=(L.drop (k+1))[j - (k+1)]'(by simp;omega):=by rw [List.getElem_drop];congr 1;omega
 rw [this];exact QB _
def qq7 (ex:Str):UInt8:=if ex.contains 110=true then 110 else if ex.contains 119=true then 119 else 0
theorem qBP {ex:Str} {L:List Tr} {k:Nat} (y:k<L.length) (z:L[k].1=5) (h:ex.contains 100=true):letR ex L k=100:=by unfold letR;rw [Qk ⟨by rw [Qo,Qi y];exact z,h⟩]
theorem qAI {ex:Str} {L:List Tr} {k:Nat} (y:k<L.length) (E:¬(L[k].1=5/\ex.contains 100=true)) (z:L[k].1=10) (h:ex.contains 101=true):letR ex L k=101:=by
 have e:(L.getD k tr0)=L[k]:=by rw [Qo,Qi y];rfl
 unfold letR;rw [e,Qd E,Qk ⟨z,h⟩]
theorem qB0 {ex:Str} {L:List Tr} {k:Nat} (h:k<L.length) (E:¬(L[k].1=5/\ex.contains 100=true)) (z:¬(L[k].1=10/\ex.contains 101=true)) (y:qdm L[k]=false):letR ex L k=0:=by
 have e:(L.getD k tr0)=L[k]:=by rw [Qo,Qi h];rfl
 unfold letR;rw [e,Qd E,Qd z,Qk y]
theorem qAr {ex:Str} {L:List Tr} {k:Nat} (h:k<L.length) (G:¬(L[k].1=5/\ex.contains 100=true)) (z:¬(L[k].1=10/\ex.contains 101=true)) (y:qdm L[k]=true) (E:(L.drop (k+1)).any qdm=true):letR ex L k=0:=by
 have e:(L.getD k tr0)=L[k]:=by rw [Qo,Qi h];rfl
 unfold letR;rw [e,Qd G,Qd z,Qd (by rw [y];decide),Qk E]
theorem qBi {ex:Str} {L:List Tr} {k:Nat} (h:k<L.length) (G:¬(L[k].1=5/\ex.contains 100=true)) (z:¬(L[k].1=10/\ex.contains 101=true)) (y:qdm L[k]=true) (E:(L.drop (k+1)).any qdm=false):letR ex L k=qq7 ex:=by
 have e:(L.getD k tr0)=L[k]:=by rw [Qo,Qi h];rfl
 unfold letR;rw [e,Qd G,Qd z,Qd (by rw [y];decide),Qd (by rw [E];decide)];rfl
def qAB (w:World) (c:UInt8) (e:Ending) (w':World):Prop:=e=.returned (.int .u8 (c.toNat:Int))/\Below w.heap.size w w'
theorem qh9 (aI aL:Int) (m:Str) (A:Option Addr) (cap l:Nat) (L:List Tr) (bc:L.length=l) (bE:l<=1000) (ex:Str) (a9:ex.length<=1000) (al:Bool) (k:Nat) (bH:k<l) (w:World) (H:qaj w A L) :
  Calls prog 118 #[enV aI aL m (.slice A l cap) ex al,.int .i64 k] w (qAB w (letR ex L k)):=by
 have aa:k<L.length:=by omega
 have ae:=fun bt Z=>quY ex a9 bt Z
 unfold enV;obtain ⟨a1,a7⟩:=N9 (sB ex);rw [a7] at ae |-;clear a7;obtain ⟨an,ar,rfl,aH,aG,az,aC⟩:=H.at_ aa;obtain ⟨⟨h,a3,bd⟩,aX⟩:=N9 (L[k]);rw [aX] at aG az aC;simp only at aG az aC;obtain ⟨ab,aA⟩:=N9 (w.alloc (.cells #[.int .i64 aI,.int .u8 aL,.string (sB m),.slice (some ⟨an,ar,none⟩) l cap,.string a1,.bool al] 66));obtain ⟨ap,aF⟩:=N9 (w.heap.size);have ad:Below w.heap.size w ab:=by rw [<- aA];exact up1 _ _
 have aS:ab.heap[ap]?=some (.cells #[.int .i64 aI,.int .u8 aL,.string (sB m),.slice (some ⟨an,ar,none⟩) l cap,.string a1,.bool al] 66 (0,0)):=by rw [<- aA,<- aF];exact World.alloc_heap_new w _
 have bu:ab.heap.size=ap+1:=by rw [<- aA,<- aF];simp
 obtain ⟨K,aN⟩:=N9 (ab.alloc (.cells #[.int .i64 h,.int .i64 a3,.int .i64 bd] 57));have aP:Below ab.heap.size ab K:=by rw [<- aN];exact up1 _ _
 have bm:K.heap[ap+1]?=some (.cells #[.int .i64 h,.int .i64 a3,.int .i64 bd] 57 (0,0)):=by rw [<- aN,<- bu];exact World.alloc_heap_new ab _
 have aO:=ad.trans (aP.mono ad.size);have aB:=(aP.block ap (by omega)).trans aS;have j:Hid (Below ap w K):=by rw [<- aF];exact aO
 have n:=J9 aF;have aY:=J9 (H.below aO);have bp:=(ad.cell (p:=⟨an,ar+k*3,none⟩) aH).trans aG;have bA:=(ad.cell (p:=⟨an,ar+k*3+1,none⟩) aH).trans az;have bi:=(ad.cell (p:=⟨an,ar+k*3+2,none⟩) aH).trans aC;have bw:=C9 aS 3;have bD:(k:Int)<(l:Int):=by omega
 have ax:=J9 (qBP (ex:=ex) aa);have af:=J9 (qAI (ex:=ex) aa);have M:=J9 (qB0 (ex:=ex) aa);have ac:=J9 (qAr (ex:=ex) aa);have V:=J9 (qBi (ex:=ex) aa);rw [aX] at ax af M ac V;simp only [qjO] at ax af M ac V;have aE:=J9 bc;have aZ:=J9 (fun e (aV:e<L.length)=>qvE (k:=k) aV);have bb:=J9 (qvh (L:=L) (k:=k));have bf:=J9 (C9 aB 3);have a8:=J9 (C9 aB 4);obtain ⟨bz,be⟩:=N9 (ex.contains 100);obtain ⟨bo,a6⟩:=N9 (ex.contains 101);obtain ⟨am,aK⟩:=N9 (ex.contains 110);obtain ⟨aq,aM⟩:=N9 (ex.contains 119);have R1:=J9 (ae 100 K);have R2:=J9 (ae 101 K);have aT:=J9 (ae 110 K);have aJ:=J9 (ae 119 K);rw [be] at R1 ax af M ac V;rw [a6] at R2 af M ac V;rw [aK] at aT;rw [aM] at aJ;have a2:Hid (qq7 ex=if am=true then 110 else if aq=true then 119 else 0):=by show _=_;unfold qq7;rw [aK,aM]
 have bG:=C9 bm 0;have bC:=C9 aB 4;clear H ad aS aP aO aB ae aX bc be a6 aK aM a9 aH aG az aC aa;obtain ⟨s,a5⟩:=N9 (letR ex L k);rw [a5] at ax af M ac V |-;clear a5
 go_enter func118,ntmps118
 go_upto_region 2 with fail
 clear bw bp bA bi aN aA;by_cases ah:h=5
 ·subst ah
  go_wp2_with fail
  refine R1.o.mono ?_;rintro E Z ⟨rfl,rfl⟩;cases bz with
  | true=>
   obtain rfl:=ax.o (by first | trivial | rfl) (by first | trivial | rfl);go_wp2;go_ret;exact ⟨rfl,by rw [n.o];exact j.o⟩
  | false=>
   obtain rfl:=M.o (by simp) (by simp) (by decide);go_wp2;go_ret;exact ⟨rfl,by rw [n.o];exact j.o⟩
 ·have bk:(h == 5)=false:=Qj.2 ah
  by_cases ai:h=10
  ·subst ai
   go_wp2_with fail
   refine R2.o.mono ?_;rintro E Z ⟨rfl,rfl⟩;cases bo with
   | true=>
    obtain rfl:=af.o (by simp) (by first | trivial | rfl) (by first | trivial | rfl);go_wp2;go_ret;exact ⟨rfl,by rw [n.o];exact j.o⟩
   | false=>
    obtain rfl:=M.o (by simp) (by simp) (by decide);go_wp2;go_ret;exact ⟨rfl,by rw [n.o];exact j.o⟩
  ·have bv:(h == 10)=false:=Qj.2 ai
   by_cases ag:h=6\/h=7
   ·have bF:=J9 ah
    have bB:=J9 ai;clear ah ai bk bv;rcases ag with rfl | rfl
    ·skip
     go_wp2
     go_loopw [6] (fun b wr=>∃ e:Nat,k+1<=e/\e<=l/\b=.int .i64 e/\wr=K/\Hid (∀ b (i:b<L.length),k<b->b<e->qdm L[b]=false)) (fun b _=>l - (intOf b).toNat)
     case atStart=>exact ⟨k+1,Qa _,by omega,by go_num,rfl,fun b i J aR=>by omega⟩
     case round=>
      obtain ⟨e,bq,aV,rfl,rfl,RR⟩:=hrel;have br:=bf.o;by_cases bs:e<l
      ·have O:e<L.length:=by have:=aE.o;omega
       obtain ⟨bh,bg,av,-,ak,aQ,aW⟩:=aY.o.at_ O;simp only [Qz,Addr.mk.injEq,and_true] at av;obtain ⟨rfl,rfl⟩:=av;have bj:(e:Int)<(l:Int):=(by omega);have G:=J9 (aZ.o e O (by omega));have z:Hid (qdm L[e]=false->∀ b (i:b<L.length),k<b->b<e+1->qdm L[b]=false):=fun c b i J aR=>by
        by_cases E:b=e
        ·subst E;exact c
        ·exact RR.o b i J (by omega)
       obtain ⟨⟨r,bx,bn⟩,aw⟩:=N9 (L[e]);rw [aw] at ak G z;simp only [qjO] at G z;simp only at ak;clear aQ aW aw O RR;by_cases y:r=6\/r=7
       ·obtain rfl:=ac.o (fun c=>by cases c.1) (fun c=>by cases c.1) (by decide) (G.o (by rcases y with rfl | rfl <;> decide))
        rcases y with rfl | rfl
        all_goals
         go_wp2;go_ret;exact ⟨rfl,by rw [n.o];exact j.o⟩
       ·have ao:¬r=6:=fun c=>y (.inl c)
        have aj:¬r=7:=(fun c=>y (.inr c));have aD:(r == 6)=false:=Qj.2 ao;have ay:(r == 7)=false:=Qj.2 aj;have aU:=J9 (z.o (by rw [aD,ay];rfl));clear y z G;go_wp2;go_roundw
        case rel=>exact ⟨e+1,by omega,by omega,by go_num,by first | rfl | trivial,aU.o⟩
        case measure=>simp [intOf];omega
      ·obtain rfl:e=l:=by omega
       have au:Hid (s=qq7 ex):=V.o (fun c=>by cases c.1) (fun c=>by cases c.1) (by decide) (bb.o fun b i J=>RR.o b i J (by have:=aE.o;omega));have bl:=a8.o;have U:Hid (s=if am=true then 110 else if aq=true then 119 else 0):=(by show s=_;rw [au.o,a2.o]);clear RR au
       go_wp2_with fail
       refine aT.o.mono ?_;rintro E Z ⟨rfl,rfl⟩;cases am with
       | true=>
        obtain rfl:s=110:=U.o;go_wp2;go_ret;exact ⟨rfl,by rw [n.o];exact j.o⟩
       | false=>
        go_wp2_with fail
        refine aJ.o.mono ?_;rintro E Z ⟨rfl,rfl⟩;cases aq with
        | true=>
         obtain rfl:s=119:=U.o;go_wp2;go_ret;exact ⟨rfl,by rw [n.o];exact j.o⟩
        | false=>
         obtain rfl:s=0:=U.o;go_wp2;go_ret;exact ⟨rfl,by rw [n.o];exact j.o⟩
    ·skip
     go_wp2
     go_loopw [6] (fun b wr=>∃ e:Nat,k+1<=e/\e<=l/\b=.int .i64 e/\wr=K/\Hid (∀ b (i:b<L.length),k<b->b<e->qdm L[b]=false)) (fun b _=>l - (intOf b).toNat)
     case atStart=>exact ⟨k+1,Qa _,by omega,by go_num,rfl,fun b i J aR=>by omega⟩
     case round=>
      obtain ⟨e,bq,aV,rfl,rfl,RR⟩:=hrel;have br:=bf.o;by_cases bs:e<l
      ·have O:e<L.length:=by have:=aE.o;omega
       obtain ⟨bh,bg,av,-,ak,aQ,aW⟩:=aY.o.at_ O;simp only [Qz,Addr.mk.injEq,and_true] at av;obtain ⟨rfl,rfl⟩:=av;have bj:(e:Int)<(l:Int):=(by omega);have G:=J9 (aZ.o e O (by omega));have z:Hid (qdm L[e]=false->∀ b (i:b<L.length),k<b->b<e+1->qdm L[b]=false):=fun c b i J aR=>by
        by_cases E:b=e
        ·subst E;exact c
        ·exact RR.o b i J (by omega)
       obtain ⟨⟨r,bx,bn⟩,aw⟩:=N9 (L[e]);rw [aw] at ak G z;simp only [qjO] at G z;simp only at ak;clear aQ aW aw O RR;by_cases y:r=6\/r=7
       ·obtain rfl:=ac.o (fun c=>by cases c.1) (fun c=>by cases c.1) (by decide) (G.o (by rcases y with rfl | rfl <;> decide))
        rcases y with rfl | rfl
        all_goals
         go_wp2;go_ret;exact ⟨rfl,by rw [n.o];exact j.o⟩
       ·have ao:¬r=6:=fun c=>y (.inl c)
        have aj:¬r=7:=(fun c=>y (.inr c));have aD:(r == 6)=false:=Qj.2 ao;have ay:(r == 7)=false:=Qj.2 aj;have aU:=J9 (z.o (by rw [aD,ay];rfl));clear y z G;go_wp2;go_roundw
        case rel=>exact ⟨e+1,by omega,by omega,by go_num,by first | rfl | trivial,aU.o⟩
        case measure=>simp [intOf];omega
      ·obtain rfl:e=l:=by omega
       have au:Hid (s=qq7 ex):=V.o (fun c=>by cases c.1) (fun c=>by cases c.1) (by decide) (bb.o fun b i J=>RR.o b i J (by have:=aE.o;omega));have bl:=a8.o;have U:Hid (s=if am=true then 110 else if aq=true then 119 else 0):=(by show s=_;rw [au.o,a2.o]);clear RR au
       go_wp2_with fail
       refine aT.o.mono ?_;rintro E Z ⟨rfl,rfl⟩;cases am with
       | true=>
        obtain rfl:s=110:=U.o;go_wp2;go_ret;exact ⟨rfl,by rw [n.o];exact j.o⟩
       | false=>
        go_wp2_with fail
        refine aJ.o.mono ?_;rintro E Z ⟨rfl,rfl⟩;cases aq with
        | true=>
         obtain rfl:s=119:=U.o;go_wp2;go_ret;exact ⟨rfl,by rw [n.o];exact j.o⟩
        | false=>
         obtain rfl:s=0:=U.o;go_wp2;go_ret;exact ⟨rfl,by rw [n.o];exact j.o⟩
   ·have a0:(h == 6)=false:=Qj.2 (fun c=>ag (.inl c))
    have a4:(h == 7)=false:=Qj.2 (fun c=>ag (.inr c));obtain rfl:=M.o (fun c=>ah c.1) (fun c=>ai c.1) (by rw [a0,a4];rfl);have ao:¬h=6:=(fun c=>ag (.inl c));have aj:¬h=7:=(fun c=>ag (.inr c));have aD:(h != 6)=true:=Zn.2 ao;have ay:(h != 7)=true:=Zn.2 aj;clear ah ai ag a0 a4;go_wp2;go_ret;exact ⟨rfl,by rw [n.o];exact j.o⟩
theorem qiG (z E:Int) (m:Str) (A:Option Addr) (cap l:Nat) (L:List Tr) (M:L.length=l) (a7:l<=1000) (ex:Str) (al:Bool) (s:ByteArray) (q:Option Addr) (O k:Nat) (C:List Tr) (K:C.length=k) (aY:k<=1000) (w:World) (H:qaj w A L) (aJ:qaj w q C) :
  Calls prog 73 #[enV z E m (.slice A l cap) ex al,.agg #[.string s,.slice q k O]] w fun h aV=>h=.returned (.bool (qfU m L s C))/\Below w.heap.size w aV:=by
 unfold enV;obtain ⟨e,ab⟩:=N9 ((w.alloc (.cells #[.int .i64 z,.int .u8 E,.string (sB m),.slice A l cap,.string (sB ex),.bool al] 66)).alloc (.cells #[.string s,.slice q k O] 24));obtain ⟨i,ae⟩:=N9 (w.heap.size);have R:Below w.heap.size w e:=by rw [<- ab];exact ((B0 (w:=w))).alloc (by simp) _
 have ad:e.heap[i]?=some (.cells #[.int .i64 z,.int .u8 E,.string (sB m),.slice A l cap,.string (sB ex),.bool al] 66 (0,0)):=by rw [<- ab,<- ae];exact (Below.heap_alloc _ _ _ (by simp)).trans (World.alloc_heap_new w _)
 have U:e.heap[i+1]?=some (.cells #[.string s,.slice q k O] 24 (0,0)):=by
  rw [<- ab,<- ae];have n:=World.alloc_heap_new (w.alloc (.cells #[.int .i64 z,.int .u8 E,.string (sB m),.slice A l cap,.string (sB ex),.bool al] 66)) (.cells #[.string s,.slice q k O] 24)
  rwa [QL] at n
 have aa:Hid (Below i w e):=by rw [<- ae];exact R
 have J:=J9 ae;have aO:=J9 (H.below R);have a0:=J9 (aJ.below R);have aT:=C9 ad 2;have aK:=C9 ad 3;have aZ:=C9 U 0;have aD:=C9 U 1;have aW:=below_drewN e e.heap.size;clear H aJ R;by_cases ac:sB m=s
 rotate_left
 ·have aM:=qao ac
  have j:Hid (false=qfU m L s C):=by show false=_;unfold qfU;rw [Qf ac];rfl
  clear ac K M
  go_enter func73,ntmps73
  go_wp2;go_ret;exact ⟨qaa j.o,by rw [J.o];exact aa.o⟩
 subst ac;have aM:=qEp (sB m);by_cases an:l=k
 rotate_left
 ·have j:Hid (false=qfU m L (sB m) C):=by show false=_;unfold qfU;rw [show decide (L.map ks2=C.map ks2)=false from Qf (fun h=>an (by rw [<- M,<- K];exact qat h))];simp
  have aA:((l:Int) == (k:Int))=false:=Qj.2 (by omega);have bc:¬((l:Int)=(k:Int)):=by omega
  clear K M an
  go_enter func73,ntmps73
  go_wp2;go_ret;exact ⟨qaa j.o,by rw [J.o];exact aa.o⟩
 subst an;have ar:=J9 M;have az:=J9 K;have Z:Hid (e.heap[i]?=some (.cells #[.int .i64 z,.int .u8 E,.string (sB m),.slice A l cap,.string (sB ex),.bool al] 66 (0,0))/\e.heap[i+1]?=some (.cells #[.string (sB m),.slice q l O] 24 (0,0))):=⟨ad,U⟩;clear M K ad U aY
 go_enter func73,ntmps73
 go_wp2;clear aW ab aT aK aZ aD aM
 go_loopw [5] (fun au wr=>∃ a:Nat,a<=l/\au=.int .i64 a/\Hid (∀ b,b<a->ks2 (L.getD b tr0)=ks2 (C.getD b tr0))/\Hid (Below e.heap.size e wr)) (fun au _=>l - (intOf au).toNat)
 case atStart=>exact ⟨0,Qs _,rfl,fun b n=>by omega,Qc _ _⟩
 case round=>
  obtain ⟨a,bd,rfl,V,y⟩:=hrel;have aX:i<e.heap.size:=(Qb.1 Z.o.1).1;have aQ:i+1<e.heap.size:=(Qb.1 Z.o.2).1;have am:=(y.o.block i aX).trans Z.o.1;have af:=(y.o.block (i+1) aQ).trans Z.o.2;have aK:=C9 am 3;have aD:=C9 af 1;have ah:=fun G=>J9 (y.o.trans (below_drewN wr e.heap.size G))
  have aq:Hid (∀ G,Below i w (wr.drewN G)):=fun G=>aa.o.trans ((ah G).o.mono (by omega))
  by_cases bb:a<l
  ·have T:a<L.length:=by have:=ar.o;omega
   have ap:a<C.length:=(by have:=az.o;omega);obtain ⟨a8,a9,rfl,-,aw,ai,ao⟩:=(aO.o.below y.o).at_ T;obtain ⟨a4,a3,rfl,-,ak,ax,ag⟩:=(a0.o.below y.o).at_ ap;have aE:L.getD a tr0=L[a]:=(by rw [Qo,Qi T];rfl);have aN:C.getD a tr0=C[a]:=(by rw [Qo,Qi ap];rfl);rw [<- aE] at aw ai ao;rw [<- aN] at ak ax ag;have R2:Hid (ks2 (L.getD a tr0)=ks2 (C.getD a tr0)->∀ b,b<a+1->ks2 (L.getD b tr0)=ks2 (C.getD b tr0)):=fun n b bf=>by
    by_cases h:b=a
    ·subst h;exact n
    ·exact V.o b (by omega)
   have B:Hid (ks2 (L.getD a tr0)≠ks2 (C.getD a tr0)->qfU m L (sB m) C=false):=fun n=>by
    unfold qfU;rw [show decide (L.map ks2=C.map ks2)=false from Qf (fun h=>n (by
     have aF:=qbI h a T;exact Prod.ext aF.1 aF.2))]
    simp
   obtain ⟨⟨aB,aC,be⟩,aH⟩:=N9 (L.getD a tr0);obtain ⟨⟨aI,aL,a6⟩,aG⟩:=N9 (C.getD a tr0);rw [aH] at aw ai ao R2 B;rw [aG] at ak ax ag R2 B;simp only [ks2] at aw ai ao ak ax ag R2 B;have a5:(a:Int)<(l:Int):=(by omega);clear aH aG aE aN T ap V am af;by_cases ay:aB=aI
   ·subst ay
    by_cases av:aC=aL
    ·subst av
     have a1:=J9 (R2.o rfl);go_wp2
     go_quiet (fail)
     go_wp2;go_roundw
     case rel=>exact ⟨a+1,by omega,by go_num,a1.o,(ah _).o⟩
     case measure=>simp [intOf];omega
    ·have j:=J9 (B.o (fun h=>av (congrArg (fun aj:Int×Int=>aj.2) h)))
     have aA:(aC == aL)=false:=Qj.2 av;go_wp2
     go_quiet (fail)
     go_wp2;go_ret;exact ⟨qaa j.o.symm,by rw [J.o];exact aq.o _⟩
   ·have j:=J9 (B.o (fun h=>ay (congrArg (fun aj:Int×Int=>aj.1) h)))
    have aA:(aB == aI)=false:=Qj.2 ay;go_wp2
    go_quiet (fail)
    go_wp2;go_ret;exact ⟨qaa j.o.symm,by rw [J.o];exact aq.o _⟩
  ·have j:Hid (true=qfU m L (sB m) C):=by
    show true=_;unfold qfU;rw [Qn rfl,Qn]
    ·rfl
    ·refine List.ext_getElem (by simp [ar.o,az.o]) fun b aU aP=>?_
     have aS:b<L.length:=(by simpa using aU);have aR:b<C.length:=(by simpa using aP);have n:=V.o b (by have:=ar.o;omega);rw [Zt,Zt];rw [Qo,Qi aS,Qo,Qi aR] at n;exact n
   have a2:=J9 (aa.o.trans (y.o.mono (by omega)));clear V ah aq am af;go_wp2;go_ret;exact ⟨qaa j.o,by rw [J.o];exact a2.o⟩
end Go.Proofs.YtjafbmfcedijmaaGreatDoor
namespace Go.Proofs.YtjafbmfcedijmaaGreatDoor
open Tryz
open Go.RowKit
theorem qzS {s:ByteArray} (L:List Tr) (h:I4 s):(0:Int)=qdc (opc s) L:=by rw [qCy h];rfl
theorem qBL {s:ByteArray} (L:List Tr) (h:I5 s):(2:Int)=qdc (opc s) L:=by rw [qCz h];rfl
theorem qwG {s:ByteArray} (L:List Tr) (r:I6 s) (k:0<L.length) (e:L[0].1=3):(2:Int)=qdc (opc s) L:=by
 rw [qAe r];cases L with
 | nil=>simp at k
 | cons t y=>
  have h:t.1=3:=e;unfold qdc;rw [Qd (by omega),Qd (by omega),Qk ⟨rfl,by simp [h]⟩]
theorem qw7 {s:ByteArray} (L:List Tr) (q:I6 s) (e:∀ k:0<L.length,¬L[0].1=3):(1:Int)=qdc (opc s) L:=by
 rw [qAe q];unfold qdc;rw [Qd (by omega),Qd (by omega),Qd];rintro ⟨-,h⟩;cases L with
 | nil=>simp at h
 | cons t r=>exact e (by simp) (by simpa using h)
theorem qAJ {s:ByteArray} (L:List Tr) (h:¬I4 s) (z:¬I5 s) (y:¬I6 s):(1:Int)=qdc (opc s) L:=by
 unfold qdc;rw [Qd (qzM h),Qd (qAa z),Qd (fun q=>qBy y q.1)]
theorem qqy (s:ByteArray) (A:Option Addr) (cap:Nat) (L:List Tr) (ac:L.length<=1000) (w:World) (H:qaj w A L) :
  Calls prog 200 #[.agg #[.string s,.slice A L.length cap]] w fun an am=>an=.returned (.int .i64 (qdc (opc s) L))/\Below w.heap.size w am:=by
 have B0:Hid (Below w.heap.size w (w.alloc (.cells #[.string s,.slice A L.length cap] 24))):=B0;by_cases e:I4 s
 ·have b:=J9 (qzS L e)
  clear H;rcases e with rfl | rfl | rfl | rfl | rfl | rfl
  all_goals
   go_enter func200,ntmps200
   go_wp2;go_ret;exact ⟨qan b.o,B0.o⟩
 by_cases k:I5 s
 ·have b:=J9 (qBL L k)
  clear H e;rcases k with rfl | rfl
  all_goals
   go_enter func200,ntmps200
   go_wp2;go_ret;exact ⟨qan b.o,B0.o⟩
 by_cases h:I6 s
 ·have y:=J9 (qwG L h)
  have n:=J9 (qw7 L h);have J:=J9 (H.below B0.o);clear e k H;obtain rfl:s=_:=h;by_cases q:0<L.length
  ·obtain ⟨au,aq,rfl,ak,G,ae,X⟩:=J.o.at_ q
   rw [Nat.zero_mul,Nat.add_zero] at G;obtain ⟨az,ag⟩:=N9 (L.length);have y:=J9 (y.o q);have n:=J9 (fun (aj:¬L[0].1=3)=>n.o fun _=>aj);obtain ⟨z,ah⟩:=N9 (L[0].1);rw [ah] at y n G;have ai:decide ((0:Int)<(L.length:Int))=true:=Qn (by omega);have ao:(0:Int)<(L.length:Int):=(by omega);have aA:L.length<=1000:=ac;rw [ag] at ac G ae X B0 J ai ao |-;clear ag ah q ae X ak;by_cases E:z=3
   ·have b:=J9 (y.o E)
    subst E
    go_enter func200,ntmps200
    go_wp2;go_ret;exact ⟨qan b.o,B0.o⟩
   ·have b:=J9 (n.o E)
    go_enter func200,ntmps200
    go_wp2;go_ret;exact ⟨qan b.o,B0.o⟩
  ·have Z:L.length=0:=by omega
   have b:=J9 (n.o fun z=>absurd z q);rw [Z] at B0 |-;clear q Z J
   go_enter func200,ntmps200
   go_wp2;go_ret;exact ⟨qan b.o,B0.o⟩
 ·have b:=J9 (qAJ L e k h)
  clear H;simp only [I4,not_or] at e;simp only [I5,not_or] at k;obtain ⟨U,K,aa,ab,M,af⟩:=e;obtain ⟨O,ad⟩:=k;have V:¬s=_:=h;have aB:(s.toList == [66,73,84])=false:=by simpa using qao U
  have ar:(s.toList == [82,69,83])=false:=by simpa using qao K
  have av:(s.toList == [83,69,84])=false:=by simpa using qao aa
  have aw:(s.toList == [73,77])=false:=by simpa using qao ab
  have ay:(s.toList == [82,83,84])=false:=by simpa using qao M
  have aD:(s.toList == [79,85,84])=false:=by simpa using qao af
  have aC:(s.toList == [74,80])=false:=by simpa using qao O
  have ap:(s.toList == [67,65,76,76])=false:=by simpa using qao ad
  have ax:(s.toList == [76,68])=false:=by simpa using qao V
  clear U K aa ab M af O ad V h
  go_enter func200,ntmps200
  go_wp2;go_ret;exact ⟨qan b.o,B0.o⟩
def inL (x:List ByteArray) (s:ByteArray):Bool:=x.any fun h=>h.toList == s.toList
theorem qyw (h:List ByteArray) (s:ByteArray) (j:Nat) (y:j<h.length) (e:(h[j].toList == s.toList)=true):true=inL h s:=
 (Zr.2 ⟨_,QB y,e⟩).symm
theorem qBG (h:List ByteArray) (s:ByteArray) (z:∀ k,k<h.length->∀ (a:k<h.length),(h[k].toList == s.toList)=false):false=inL h s:=by
 refine (List.any_eq_false.2 fun E y=>?_).symm;obtain ⟨k,x,rfl⟩:=Zg y;rw [z k x x];exact Bool.false_ne_true
theorem qfe (A:Option Addr) (cap:Nat) (a:List ByteArray) (V:a.length<=1000) (s:ByteArray) (w:World) (H:qew w A a) :
  Calls prog 108 #[.slice A a.length cap,.string s] w fun z aa=>z=.returned (.bool (inL a s))/\w=aa:=by
 have X:=J9 H;have M:=J9 (qyw a s);have O:=J9 (qBG a s);obtain ⟨E,G⟩:=N9 (a.length);have K:=J9 G;rw [G] at V |-;clear H G
 go_enter func108,ntmps108
 go_wp2
 go_loopw [5] (fun x wr=>∃ h:Nat,h<=E/\x=.int .i64 h/\Hid (∀ e,e<h->∀ (k:e<a.length),(a[e].toList == s.toList)=false)/\wr=w) (fun x _=>E - (intOf x).toNat)
 case atStart=>exact ⟨0,Qs _,rfl,fun e ae=>by omega,rfl⟩
 case round=>
  obtain ⟨h,ac,rfl,i,rfl⟩:=hrel;by_cases T:h<E
  ·have q:h<a.length:=by rw [K.o];exact T
   obtain ⟨ab,ad,R,J⟩:=X.o.at_ q;subst R;cases n:(a[h].toList == s.toList)
   ·have R2:Hid (∀ e,e<h+1->∀ (k:e<a.length),(a[e].toList == s.toList)=false):=fun e Z k=>by
     by_cases z:e=h
     ·subst z;exact n
     ·exact i.o e (by omega) k
    obtain ⟨U,j⟩:=N9 (a[h]);rw [j] at J n;clear j i q;go_wp2;go_roundw
    case rel=>exact ⟨h+1,by omega,by go_num,R2.o,trivial⟩
    case measure=>simp [intOf];omega
   ·have y:Hid (true=inL a s):=M.o h q n
    obtain ⟨U,j⟩:=N9 (a[h]);rw [j] at J n;clear j i q;go_wp2;go_ret;exact ⟨qaa y.o,rfl⟩
  ·have y:Hid (false=inL a s):=O.o fun e Z k=>i.o e (by have:=K.o;omega) k
   clear i;go_wp2;go_ret;exact ⟨qaa y.o,rfl⟩
def W1:List ByteArray:=[⟨#[83,85,66]⟩,⟨#[65,78,68]⟩,⟨#[88,79,82]⟩,⟨#[79,82]⟩,⟨#[67,80]⟩]
def W2:List ByteArray:=[⟨#[65,68,68]⟩,⟨#[65,68,67]⟩,⟨#[83,66,67]⟩]
def W4:List ByteArray:=[⟨#[66,73,84]⟩,⟨#[82,69,83]⟩,⟨#[83,69,84]⟩,⟨#[73,77]⟩,⟨#[82,83,84]⟩,⟨#[79,85,84]⟩]
theorem eqB (a b:ByteArray):(a.toList == b.toList)=decide (b=a):=by
 by_cases e:b=a
 ·subst e;rw [qEp,Qn rfl]
 ·rw [Qf e,qao (fun h=>e h.symm)]
theorem qB8 (s:ByteArray):inL W1 s=decide (I1 s):=Bool.eq_iff_iff.2 (by rw [decide_eq_true_iff];simp [inL,W1,I1,eqB])
theorem qCb (s:ByteArray):inL W2 s=decide (I2 s):=Bool.eq_iff_iff.2 (by rw [decide_eq_true_iff];simp [inL,W2,I2,eqB])
theorem qDT (s:ByteArray):inL W4 s=decide (I4 s):=Bool.eq_iff_iff.2 (by rw [decide_eq_true_iff];simp [inL,W4,I4,eqB])
theorem qd6 (s:ByteArray) (A:Option Addr) (cap:Nat) (L:List Tr) (aw:L.length<=1000) (w:World) (H:qaj w A L) :
  Calls prog 109 #[.agg #[.string s,.slice A L.length cap]] w fun q aA=>q=.returned (.int .i64 (qdc (opc s) L))/\Below w.heap.size w aA:=by
 obtain ⟨O,J⟩:=N9 ((w.alloc (.cells #[.string s,.slice A L.length cap] 24)).alloc (.cells (W4.map Value.string).toArray 9));have k:Hid (Below w.heap.size w O):=by rw [<- J];exact (B0).alloc (by simp) _
 have aa:Hid (Bx O w.heap.size s A L.length cap):=by rw [<- J];exact ⟨by simp [go_sem],by simp [go_sem]⟩
 have U:=qaJ (w.alloc (.cells #[.string s,.slice A L.length cap] 24)) W4 9;have ad:(w.alloc (.cells #[.string s,.slice A L.length cap] 24)).heap.size=w.heap.size+1:=by simp
 rw [J,ad] at U;have e:=J9 (qfe (some ⟨w.heap.size+1,0,none⟩) 6 W4 (by decide) s O U);rw [qDT] at e;have ab:=J9 (H.below k.o);have ao:=J9 (fun y=>qzS (s:=s) L y);have ax:=J9 (fun y=>qBL (s:=s) L y);have z:=J9 (fun y=>qwG (s:=s) L y);have n:=J9 (fun y=>qw7 (s:=s) L y);have aB:=J9 (fun ap au aq=>qAJ (s:=s) L ap au aq);clear H U ad;have aj:(w.alloc (.cells #[.string s,.slice A L.length cap] 24)).alloc (.cells #[.string ⟨#[66,73,84]⟩,.string ⟨#[82,69,83]⟩,.string ⟨#[83,69,84]⟩,.string ⟨#[73,77]⟩,.string ⟨#[82,83,84]⟩,.string ⟨#[79,85,84]⟩] 9)=O:=J;clear J;have aD:W4.length=6:=rfl;rw [aD] at e;obtain ⟨aE,ac⟩:=aa.o;by_cases h:I4 s
 ·have b:=J9 (ao.o h)
  rw [Qn h] at e
  go_enter func109,ntmps109
  go_wp2_with fail
  refine e.o.mono ?_;rintro q K ⟨rfl,rfl⟩;go_wp2;go_ret;exact ⟨qan b.o,k.o⟩
 rw [Qf h] at e;by_cases G:I5 s
 ·have b:=J9 (ax.o G)
  clear h;rcases G with rfl | rfl
  all_goals
   go_enter func109,ntmps109
   go_wp2_with fail
   refine e.o.mono ?_;rintro q K ⟨rfl,rfl⟩;go_wp2;go_ret;exact ⟨qan b.o,k.o⟩
 by_cases E:I6 s
 ·have z:=J9 (z.o E)
  have n:=J9 (n.o E);clear h G;obtain rfl:s=_:=E;by_cases M:0<L.length
  ·obtain ⟨aH,aG,rfl,az,ah,ay,av⟩:=ab.o.at_ M
   rw [Nat.zero_mul,Nat.add_zero] at ah;have z:=J9 (z.o M);have n:=J9 (fun (ar:¬L[0].1=3)=>n.o fun _=>ar);obtain ⟨V,am⟩:=N9 (L[0].1);rw [am] at z n ah;have an:decide ((0:Int)<(L.length:Int))=true:=Qn (by omega);have aC:(0:Int)<(L.length:Int):=(by omega);obtain ⟨aJ,ak⟩:=N9 (L.length);rw [ak] at aw ac an aC aj |-;clear ak am M ay av az ab aa;by_cases Z:V=3
   ·have b:=J9 (z.o Z)
    subst Z
    go_enter func109,ntmps109
    go_wp2_with fail
    refine e.o.mono ?_;rintro q K ⟨rfl,rfl⟩;go_wp2;go_ret;exact ⟨qan b.o,k.o⟩
   ·have b:=J9 (n.o Z)
    go_enter func109,ntmps109
    go_wp2_with fail
    refine e.o.mono ?_;rintro q K ⟨rfl,rfl⟩;go_wp2;go_ret;exact ⟨qan b.o,k.o⟩
  ·have ag:L.length=0:=by omega
   have b:=J9 (n.o fun V=>absurd V M);rw [ag] at ac aj |-;clear M ag ab aa
   go_enter func109,ntmps109
   go_wp2_with fail
   refine e.o.mono ?_;rintro q K ⟨rfl,rfl⟩;go_wp2;go_ret;exact ⟨qan b.o,k.o⟩
 ·have b:=J9 (aB.o h G E)
  simp only [I5,not_or] at G;obtain ⟨ae,ai⟩:=G;have af:¬s=_:=E;have aK:(s.toList == [74,80])=false:=by simpa using qao ae
  have aF:(s.toList == [67,65,76,76])=false:=by simpa using qao ai
  have aI:(s.toList == [76,68])=false:=by simpa using qao af
  clear ae ai af E h
  go_enter func109,ntmps109
  go_wp2_with fail
  refine e.o.mono ?_;rintro q K ⟨rfl,rfl⟩;go_wp2;go_ret;exact ⟨qan b.o,k.o⟩
def Dr (w:World) (b:Nat) (s:ByteArray) (v:Value):Prop:=w.heap[b]?=some (.cells #[.string s,v] 155 (0,0))
theorem Dr.cells {w:World} {b:Nat} {s:ByteArray} {v:Value} (h:Dr w b s v):w.cell? ⟨b,0,none⟩=some (.string s)/\w.cell? ⟨b,1,none⟩=some v/\w.frozen? ⟨b,0,none⟩=false/\w.frozen? ⟨b,1,none⟩=false:=
 ⟨by rw [C9 h];rfl,by rw [C9 h];rfl,Qr h 0,Qr h 1⟩
theorem Dr.lt {w:World} {b:Nat} {s:ByteArray} {v:Value} (h:Dr w b s v):b<w.heap.size:=(Qb.1 h).1
theorem Dr.below {w w':World} {b:Nat} {s:ByteArray} {v:Value} (h:Dr w b s v) (y:Below w.heap.size w w'):Dr w' b s v:=(y.block _ h.lt).trans h
theorem Dr.put {w:World} {b:Nat} {s:ByteArray} {v:Value} (h:Dr w b s v) (u:Value):Dr (w.setCell ⟨b,1,none⟩ u) b s u:=by
 have y:=heap_setCell_same w b 1 _ _ u h;exact y
theorem Dr.other {w:World} {b g:Nat} {s:ByteArray} {v:Value} (y:Dr w b s v) (h:g≠b) (j:Nat) (u:Value):Dr (w.setCell ⟨g,j,none⟩ u) b s v:=(heap_setCell_other w ⟨g,j,none⟩ b u h.symm).trans y
def qdJ (w:World) (n g y:Nat) (L:List Tr):Prop:=n<=g/\∃ j,w.heap[g]?=some (.cells j 57 (0,0))/\∀ h u,(cellsT L)[h]?=some u->j[y+h]?=some u
def qas (w:World) (n:Nat) (v:Value) (L:List Tr):Prop:=
 (v=.slice none 0 0/\L=[])\/∃ h y g,v=.slice (some ⟨h,y,none⟩) L.length g/\L.length<=g/\g<=maxLen/\qdJ w n h y L
theorem qdJ.apart {w:World} {n g z b:Nat} {L:List Tr} {s:ByteArray} {v:Value} (y:qdJ w n g z L) (E:Dr w b s v):g≠b:=by
 rintro rfl;obtain ⟨-,G,h,-⟩:=y;rw [show w.heap[g]?=_ from E] at h;simp at h
theorem qdJ.lt {w:World} {n g z:Nat} {L:List Tr} (y:qdJ w n g z L):g<w.heap.size:=by
 obtain ⟨-,E,h,-⟩:=y;exact (Qb.1 h).1
theorem qdJ.below {w w':World} {n g y:Nat} {L:List Tr} (h:qdJ w n g y L) (J:Below w.heap.size w w'):qdJ w' n g y L:=by
 have G:=h.lt;obtain ⟨M,E,z,K⟩:=h;exact ⟨M,E,(J.block _ G).trans z,K⟩
theorem qdJ.cellAt {w:World} {n g h:Nat} {L:List Tr} (z:qdJ w n g h L) (j:Nat) (u:Value) (e:(cellsT L)[j]?=some u):w.cell? ⟨g,h+j,none⟩=some u:=by
 obtain ⟨-,G,y,E⟩:=z;rw [C9 y];exact E j u e
theorem qdJ.frozen {w:World} {n g z:Nat} {L:List Tr} (y:qdJ w n g z L) (j:Nat):w.frozen? ⟨g,j,none⟩=false:=by
 obtain ⟨-,E,h,-⟩:=y;exact Qr h j
theorem qdJ.at_ {w:World} {n g h:Nat} {L:List Tr} (y:qdJ w n g h L) (j:Nat) (G:j<L.length):w.cell? ⟨g,h+j*3,none⟩=some (.int .i64 L[j].1)/\w.cell? ⟨g,h+j*3+1,none⟩=some (.int .i64 L[j].2.1)/\w.cell? ⟨g,h+j*3+2,none⟩=some (.int .i64 L[j].2.2):=by
 obtain ⟨J,E,z⟩:=qdG L j G;exact ⟨y.cellAt _ _ J,by rw [Nat.add_assoc];exact y.cellAt _ _ E,by rw [Nat.add_assoc];exact y.cellAt _ _ z⟩
theorem qdJ.put {w:World} {n g k:Nat} {L L':List Tr} (U:qdJ w n g k L) (j:Nat) (u:Value) (e:(cellsT L).set j u=cellsT L'):qdJ (w.setCell ⟨g,k+j,none⟩ u) n g k L':=by
 obtain ⟨J,G,K,z⟩:=U;refine ⟨J,_,heap_setCell_same w g (k+j) _ _ u K,fun x O h=>?_⟩;rw [<- e,List.getElem?_set] at h;by_cases E:j=x
 ·subst E
  rw [Qk rfl] at h;have M:k+j<G.size:=by
   by_cases y:j<(cellsT L).length
   ·have:=z j _ (Qi y)
    exact (Qb.1 this).1
   ·rw [Qd y] at h;cases h
  split at h
  ·simp only [Qz] at h
   subst h;simp [M]
  ·cases h
 ·rw [Qd E] at h
  rw [QT,Qd (by omega)];exact z x O h
theorem qas.below {w w':World} {n:Nat} {v:Value} {L:List Tr} (g:qas w n v L) (J:Below w.heap.size w w'):qas w' n v L:=by
 rcases g with g | ⟨y,h,G,M,K,z,E⟩
 ·exact .inl g
 ·exact .inr ⟨y,h,G,M,K,z,E.below J⟩
theorem qas.other {w:World} {n b:Nat} {v u:Value} {L:List Tr} {s:ByteArray} {x:Value} (g:qas w n v L) (Z:Dr w b s x) (j:Nat):qas (w.setCell ⟨b,j,none⟩ u) n v L:=by
 rcases g with g | ⟨y,U,E,G,V,M,h⟩
 ·exact .inl g
 ·have K:=h.apart Z
  obtain ⟨aa,z,J,O⟩:=h;exact .inr ⟨y,U,E,G,V,M,aa,z,(heap_setCell_other w ⟨b,j,none⟩ y u K).trans J,O⟩
theorem qas.ops {w:World} {n:Nat} {v:Value} {L:List Tr} (E:qas w n v L):∃ h g,v=.slice h L.length g/\qaj w h L/\L.length<=g/\g<=maxLen:=by
 rcases E with ⟨rfl,rfl⟩ | ⟨j,G,g,rfl,J,y,z⟩
 ·exact ⟨none,0,rfl,.inl rfl,Qa _,by unfold maxLen;omega⟩
 ·exact ⟨_,g,rfl,.inr ⟨j,G,rfl,fun A K=>z.at_ A K⟩,J,y⟩
theorem qah.own {w:World} {n:Nat} {v:Value} {L:List Tr} (g:qah w n v L):qas w n v L:=by
 obtain ⟨U,g | ⟨j,G,z,rfl,K,J,u,y,V,E⟩⟩:=g
 ·exact .inl ⟨g.1,Qu g.2⟩
 ·refine .inr ⟨j,0,G,rfl,u,y,K,z,J,fun M O h=>?_⟩
  rw [<- E,Zu] at h;split at h
  ·rw [QS];simpa using h
  ·cases h
theorem qas.lift {w:World} {n m:Nat} {v:Value} {L:List Tr} (g:qas w n v L) (k:m<=n):qas w m v L:=by
 rcases g with g | ⟨h,E,G,M,K,y,z,J⟩
 ·exact .inl g
 ·exact .inr ⟨h,E,G,M,K,y,Qm k z,J⟩
theorem qas.qEs {w:World} {n:Nat} {v:Value} {L:List Tr} (h:qas w n v L) (E:0<L.length):∃ g z y,v=.slice (some ⟨g,z,none⟩) L.length y/\L.length<=y/\y<=maxLen/\qdJ w n g z L:=by
 rcases h with ⟨-,rfl⟩ | h
 ·simp at E
 ·exact h
theorem qas.alloc {w:World} {n:Nat} {v:Value} {L:List Tr} (h:qas w n v L) (o:Obj):qas (w.alloc o) n v L:=h.below (B0)
theorem Dr.alloc {w:World} {b:Nat} {s:ByteArray} {v:Value} (h:Dr w b s v) (o:Obj):Dr (w.alloc o) b s v:=h.below (B0)
def wL (v:Int) (L:List Tr) (j:Nat):List Tr:=(L.take j).map (wrapT v)++L.drop j
theorem qjY (v:Int) (L:List Tr):wL v L L.length=L.map (wrapT v):=by unfold wL;rw [List.take_length,List.drop_length,Zs]
theorem qgA (v:Int) (L:List Tr) (j:Nat):(wL v L j).length=L.length:=by
 unfold wL;rw [Qg,QM,<- Qg,Zy]
theorem qkv (v:Int) (L:List Tr) (j:Nat) (y:j<L.length) (h:j<(wL v L j).length):(wL v L j)[j]=L[j]:=by
 have e:(wL v L j)[j]?=some L[j]:=by
  unfold wL;rw [Zj (by rw [QM,QD];omega),Zl,QM,QD,show j+(j - min j L.length)=j by omega];exact Qi y
 rw [Qi h] at e;exact Qw e
theorem qxf (v:Int) (L:List Tr) (j:Nat) (h:j<L.length):(wL v L j).set j (wrapT v L[j])=wL v L (j+1):=by
 unfold wL;rw [Qx h,Zc,Ze,List.set_append_right _ _ (by rw [QM,QD];omega)]
 congr 1
 rw [Zv h,QM,QD,show j - min j L.length=0 by omega];rfl
theorem qDk (v:Int) (L:List Tr) (j:Nat) (h:j<L.length) (e:wrapT v L[j]=L[j]):wL v L j=wL v L (j+1):=by
 have y:j<(wL v L j).length:=by rw [qgA];exact h
 rw [<- qxf v L j h,e,<- qkv v L j h y,List.set_getElem_self]
theorem qkf (v:Int) (L:List Tr) (j:Nat) (e:j<L.length) (z:L[j].1=6/\-(v / 2)<=L[j].2.2/\L[j].2.2<0):(cellsT (wL v L j)).set (j*3+2) (.int .i64 (L[j].2.2+v))=cellsT (wL v L (j+1)):=by
 have h:j<(wL v L j).length:=by rw [qgA];exact e
 have y:wrapT v L[j]=(L[j].1,L[j].2.1,L[j].2.2+v):=by unfold wrapT;rw [Qk z]
 rw [<- qxf v L j e,y];exact (qe6 _ _ _ _ _ h (by rw [qkv v L j e h]) (by rw [qkv v L j e h])).symm
theorem qkU (v:Int) (L:List Tr) (j:Nat) (y:j<L.length) (h:¬(L[j].1=6/\-(v / 2)<=L[j].2.2/\L[j].2.2<0)):wL v L j=wL v L (j+1):=
 qDk v L j y (by unfold wrapT;rw [Qd h])
theorem qb3 (c:Nat) (L:List Tr):qdc c L=0\/qdc c L=1\/qdc c L=2:=by
 unfold qdc;split
 ·exact .inl rfl
 ·split
  ·exact .inr (.inr rfl)
  ·split
   ·exact .inr (.inr rfl)
   ·exact .inr (.inl rfl)
theorem qwc (s:ByteArray) (B Z:Nat) (ag:B<=Z) (v:Value) (L:List Tr) (aU:L.length<=1000) (w:World) (az:Dr w Z s v) (aH:qas w B v L) :
  Calls prog 148 #[.pointer (some ⟨Z,0,none⟩)] w fun aC aK=>aC=.returned (.tuple #[])/\Dr aK Z s v/\qas aK B v (L.map (wrapT (qfv (qdc (opc s) L))))/\Below B w aK:=by
 obtain ⟨aq,K,rfl,aW,aP,aT⟩:=aH.ops;have ak:=J9 (qqy s aq K L aU w aW);obtain ⟨ab,V,-,-⟩:=az.cells;have ap:=J9 az;have ao:=J9 aH;have aR:=fun v=>J9 (qkf v L)
 have aM:=fun v=>J9 (qkU v L)
 have aA:=fun v=>J9 (qjY v L)
 have aJ:=fun v=>J9 (qkv v L)
 have ai:=fun v e=>qgA v L e
 obtain ⟨y,aN⟩:=N9 (L.length);have aL:=J9 aN;rw [aN] at ap ao ak V aA ai aP aU |-;have ah:Hid (Z<w.heap.size):=az.lt;clear az aH aW aN;obtain ⟨a4,n⟩:=N9 (qdc (opc s) L);have aY:=qb3 (opc s) L;rw [n] at ak aY |-;clear n;rcases aY with rfl | rfl | rfl
 ·have aj:qfv 0=0:=rfl
  rw [aj];clear aj
  go_enter func148,ntmps148
  go_wp2_with fail
  refine ak.o.mono ?_;rintro aC ay ⟨rfl,U⟩;have j:Hid (Below B w ay):=U.mono (Qm ag (Zb ah.o));have h:=J9 (ap.o.below U);have x:=J9 (ao.o.below U);clear U ap ao ab V ak;obtain ⟨ab,V,-,-⟩:=h.o.cells;go_wp2;clear ab V
  go_loopw [20] (fun ae wr=>∃ e:Nat,e<=y/\ae=.int .i64 e/\Hid (Dr wr Z s (.slice aq y K))/\Hid (qas wr B (.slice aq y K) (wL 0 L e))/\Hid (Below B w wr)) (fun ae _=>y - (intOf ae).toNat)
  case atStart=>exact ⟨0,Qs _,rfl,h.o,x.o,j.o⟩
  case round=>
   clear h x j;obtain ⟨e,aX,rfl,h,x,j⟩:=hrel;by_cases aw:e<y
   ·have O:e<L.length:=by have:=aL.o;omega
    have ad:e<(wL 0 L e).length:=(by rw [ai];exact aw);obtain ⟨q,z,aS,an,-,-,i⟩:=x.o.qEs (by omega);simp only [QC] at an;obtain ⟨rfl,-,-⟩:=an;obtain ⟨af,ac,aa⟩:=i.at_ e ad;rw [(aJ 0).o e O ad] at af ac aa;have aE:=i.apart h.o;have aB:=i.lt;have a0:=i.frozen (z+e*3+2);have E:=J9 ((aR 0).o e O);have o:=J9 ((aM 0).o e O);obtain ⟨⟨ax,ar,G⟩,am⟩:=N9 (L[e]);rw [am] at af ac aa E o;simp only at af ac aa E o;obtain ⟨ab,V,-,-⟩:=h.o.cells;have N:=(fun g=>J9 (h.o.alloc g));have Y:=(fun g=>J9 (j.o.alloc (Qm (Qm ag (Zb ah.o)) j.o.size) g));have aD:Hid (B<=q):=i.1;have aF:Hid (B<=wr.heap.size):=Qm (Qm ag (Zb ah.o)) j.o.size;have i:=J9 i;have aZ:q≠wr.heap.size:=(by omega);have a1:Z≠wr.heap.size:=(by have:=h.o.lt;omega);have A:∀ g,Hid (qas (wr.alloc g) B (.slice (some ⟨q,z,none⟩) y K) (wL 0 L e)):=(fun g=>x.o.alloc g);clear O ad am x;by_cases M:ax=6
    ·by_cases aV:0<=G
     ·have n:=o.o fun J=>absurd J.2.2 (by omega)
      rw [n] at A;subst M;clear n E o h j i;go_wp2;go_roundw
      case rel=>exact ⟨e+1,by omega,by go_num,(N _).o,(A _).o,(Y _).o⟩
      case measure=>simp [intOf];omega
     ·have n:=o.o fun J=>absurd J.2.1 (by omega)
      rw [n] at A;subst M;clear n E o h j i;go_wp2;go_roundw
      case rel=>exact ⟨e+1,by omega,by go_num,(N _).o,(A _).o,(Y _).o⟩
      case measure=>simp [intOf];omega
    ·have n:=o.o fun J=>M J.1
     rw [n] at A;clear n E o h j i;go_wp2;go_roundw
     case rel=>exact ⟨e+1,by omega,by go_num,(N _).o,(A _).o,(Y _).o⟩
     case measure=>simp [intOf];omega
   ·have au:e=y:=by omega
    subst au;rw [(aA 0).o] at x;go_wp2;refine bodyPost_end (v:=.tuple #[]) ?_ rfl ⟨rfl,h.o,x.o,j.o⟩;simp [results,results148,go_sem]
 ·have aj:qfv 1=256:=rfl
  rw [aj];clear aj
  go_enter func148,ntmps148
  go_wp2_with fail
  refine ak.o.mono ?_;rintro aC ay ⟨rfl,U⟩;have j:Hid (Below B w ay):=U.mono (Qm ag (Zb ah.o));have h:=J9 (ap.o.below U);have x:=J9 (ao.o.below U);clear U ap ao ab V ak;obtain ⟨ab,V,-,-⟩:=h.o.cells;go_wp2;clear ab V
  go_loopw [20] (fun ae wr=>∃ e:Nat,e<=y/\ae=.int .i64 e/\Hid (Dr wr Z s (.slice aq y K))/\Hid (qas wr B (.slice aq y K) (wL 256 L e))/\Hid (Below B w wr)) (fun ae _=>y - (intOf ae).toNat)
  case atStart=>exact ⟨0,Qs _,rfl,h.o,x.o,j.o⟩
  case round=>
   clear h x j;obtain ⟨e,aX,rfl,h,x,j⟩:=hrel;by_cases aw:e<y
   ·have O:e<L.length:=by have:=aL.o;omega
    have ad:e<(wL 256 L e).length:=(by rw [ai];exact aw);obtain ⟨q,z,aS,an,-,-,i⟩:=x.o.qEs (by omega);simp only [QC] at an;obtain ⟨rfl,-,-⟩:=an;obtain ⟨af,ac,aa⟩:=i.at_ e ad;rw [(aJ 256).o e O ad] at af ac aa;have aE:=i.apart h.o;have aB:=i.lt;have a0:=i.frozen (z+e*3+2);have E:=J9 ((aR 256).o e O);have o:=J9 ((aM 256).o e O);obtain ⟨⟨ax,ar,G⟩,am⟩:=N9 (L[e]);rw [am] at af ac aa E o;simp only at af ac aa E o;obtain ⟨ab,V,-,-⟩:=h.o.cells;have N:=(fun g=>J9 (h.o.alloc g));have Y:=(fun g=>J9 (j.o.alloc (Qm (Qm ag (Zb ah.o)) j.o.size) g));have aD:Hid (B<=q):=i.1;have aF:Hid (B<=wr.heap.size):=Qm (Qm ag (Zb ah.o)) j.o.size;have i:=J9 i;have aZ:q≠wr.heap.size:=(by omega);have a1:Z≠wr.heap.size:=(by have:=h.o.lt;omega);have A:∀ g,Hid (qas (wr.alloc g) B (.slice (some ⟨q,z,none⟩) y K) (wL 256 L e)):=(fun g=>x.o.alloc g);clear O ad am x;by_cases M:ax=6
    ·by_cases aV : -128<=G
     ·by_cases aG:G<0
      ·have n:=E.o ⟨M,by omega,aG⟩
       have aO:∀ g,Hid (qas ((wr.setCell ⟨q,z+e*3+2,none⟩ (.int .i64 (G+256))).alloc g) B (.slice (some ⟨q,z,none⟩) y K) (wL 256 L (e+1))):=fun g=>by
        have av:=i.o.put (e*3+2) _ n;rw [<- Nat.add_assoc] at av;exact qas.alloc (.inr ⟨q,z,K,by rw [ai],by rw [ai];exact aP,aT,av⟩) g
       have aI:∀ g,Hid (Dr ((wr.setCell ⟨q,z+e*3+2,none⟩ (.int .i64 (G+256))).alloc g) Z s (.slice (some ⟨q,z,none⟩) y K)):=(fun g=>(h.o.other aE _ _).alloc g);have aQ:∀ g,Hid (Below B w ((wr.setCell ⟨q,z+e*3+2,none⟩ (.int .i64 (G+256))).alloc g)):=(fun g=>(j.o.setCell (p:=⟨q,z+e*3+2,none⟩) aD.o _).alloc (by simp;exact aF.o) g);subst M;have a2:=(N (.cells #[.int .i64 6,.int .i64 ar,.int .i64 G] 57)).o.cells.2.1;have a3:(wr.alloc (.cells #[.int .i64 6,.int .i64 ar,.int .i64 G] 57)).cell? ⟨q,z+e*3+2,none⟩=some (.int .i64 G):=(World.cell?_alloc_lt wr _ _ aB).trans aa;clear n E o A N Y h j i;go_wp2;go_roundw
       case rel=>exact ⟨e+1,by omega,by go_num,(aI _).o,(aO _).o,(aQ _).o⟩
       case measure=>simp [intOf];omega
      ·have n:=o.o fun J=>absurd J.2.2 (by omega)
       rw [n] at A;subst M;clear n E o h j i;go_wp2;go_roundw
       case rel=>exact ⟨e+1,by omega,by go_num,(N _).o,(A _).o,(Y _).o⟩
       case measure=>simp [intOf];omega
     ·have n:=o.o fun J=>absurd J.2.1 (by omega)
      rw [n] at A;subst M;clear n E o h j i;go_wp2;go_roundw
      case rel=>exact ⟨e+1,by omega,by go_num,(N _).o,(A _).o,(Y _).o⟩
      case measure=>simp [intOf];omega
    ·have n:=o.o fun J=>M J.1
     rw [n] at A;clear n E o h j i;go_wp2;go_roundw
     case rel=>exact ⟨e+1,by omega,by go_num,(N _).o,(A _).o,(Y _).o⟩
     case measure=>simp [intOf];omega
   ·have au:e=y:=by omega
    subst au;rw [(aA 256).o] at x;go_wp2;refine bodyPost_end (v:=.tuple #[]) ?_ rfl ⟨rfl,h.o,x.o,j.o⟩;simp [results,results148,go_sem]
 ·have aj:qfv 2=65536:=rfl
  rw [aj];clear aj
  go_enter func148,ntmps148
  go_wp2_with fail
  refine ak.o.mono ?_;rintro aC ay ⟨rfl,U⟩;have j:Hid (Below B w ay):=U.mono (Qm ag (Zb ah.o));have h:=J9 (ap.o.below U);have x:=J9 (ao.o.below U);clear U ap ao ab V ak;obtain ⟨ab,V,-,-⟩:=h.o.cells;go_wp2;clear ab V
  go_loopw [20] (fun ae wr=>∃ e:Nat,e<=y/\ae=.int .i64 e/\Hid (Dr wr Z s (.slice aq y K))/\Hid (qas wr B (.slice aq y K) (wL 65536 L e))/\Hid (Below B w wr)) (fun ae _=>y - (intOf ae).toNat)
  case atStart=>exact ⟨0,Qs _,rfl,h.o,x.o,j.o⟩
  case round=>
   clear h x j;obtain ⟨e,aX,rfl,h,x,j⟩:=hrel;by_cases aw:e<y
   ·have O:e<L.length:=by have:=aL.o;omega
    have ad:e<(wL 65536 L e).length:=(by rw [ai];exact aw);obtain ⟨q,z,aS,an,-,-,i⟩:=x.o.qEs (by omega);simp only [QC] at an;obtain ⟨rfl,-,-⟩:=an;obtain ⟨af,ac,aa⟩:=i.at_ e ad;rw [(aJ 65536).o e O ad] at af ac aa;have aE:=i.apart h.o;have aB:=i.lt;have a0:=i.frozen (z+e*3+2);have E:=J9 ((aR 65536).o e O);have o:=J9 ((aM 65536).o e O);obtain ⟨⟨ax,ar,G⟩,am⟩:=N9 (L[e]);rw [am] at af ac aa E o;simp only at af ac aa E o;obtain ⟨ab,V,-,-⟩:=h.o.cells;have N:=(fun g=>J9 (h.o.alloc g));have Y:=(fun g=>J9 (j.o.alloc (Qm (Qm ag (Zb ah.o)) j.o.size) g));have aD:Hid (B<=q):=i.1;have aF:Hid (B<=wr.heap.size):=Qm (Qm ag (Zb ah.o)) j.o.size;have i:=J9 i;have aZ:q≠wr.heap.size:=(by omega);have a1:Z≠wr.heap.size:=(by have:=h.o.lt;omega);have A:∀ g,Hid (qas (wr.alloc g) B (.slice (some ⟨q,z,none⟩) y K) (wL 65536 L e)):=(fun g=>x.o.alloc g);clear O ad am x;by_cases M:ax=6
    ·by_cases aV : -32768<=G
     ·by_cases aG:G<0
      ·have n:=E.o ⟨M,by omega,aG⟩
       have aO:∀ g,Hid (qas ((wr.setCell ⟨q,z+e*3+2,none⟩ (.int .i64 (G+65536))).alloc g) B (.slice (some ⟨q,z,none⟩) y K) (wL 65536 L (e+1))):=fun g=>by
        have av:=i.o.put (e*3+2) _ n;rw [<- Nat.add_assoc] at av;exact qas.alloc (.inr ⟨q,z,K,by rw [ai],by rw [ai];exact aP,aT,av⟩) g
       have aI:∀ g,Hid (Dr ((wr.setCell ⟨q,z+e*3+2,none⟩ (.int .i64 (G+65536))).alloc g) Z s (.slice (some ⟨q,z,none⟩) y K)):=(fun g=>(h.o.other aE _ _).alloc g);have aQ:∀ g,Hid (Below B w ((wr.setCell ⟨q,z+e*3+2,none⟩ (.int .i64 (G+65536))).alloc g)):=(fun g=>(j.o.setCell (p:=⟨q,z+e*3+2,none⟩) aD.o _).alloc (by simp;exact aF.o) g);subst M;have a2:=(N (.cells #[.int .i64 6,.int .i64 ar,.int .i64 G] 57)).o.cells.2.1;have a3:(wr.alloc (.cells #[.int .i64 6,.int .i64 ar,.int .i64 G] 57)).cell? ⟨q,z+e*3+2,none⟩=some (.int .i64 G):=(World.cell?_alloc_lt wr _ _ aB).trans aa;clear n E o A N Y h j i;go_wp2;go_roundw
       case rel=>exact ⟨e+1,by omega,by go_num,(aI _).o,(aO _).o,(aQ _).o⟩
       case measure=>simp [intOf];omega
      ·have n:=o.o fun J=>absurd J.2.2 (by omega)
       rw [n] at A;subst M;clear n E o h j i;go_wp2;go_roundw
       case rel=>exact ⟨e+1,by omega,by go_num,(N _).o,(A _).o,(Y _).o⟩
       case measure=>simp [intOf];omega
     ·have n:=o.o fun J=>absurd J.2.1 (by omega)
      rw [n] at A;subst M;clear n E o h j i;go_wp2;go_roundw
      case rel=>exact ⟨e+1,by omega,by go_num,(N _).o,(A _).o,(Y _).o⟩
      case measure=>simp [intOf];omega
    ·have n:=o.o fun J=>M J.1
     rw [n] at A;clear n E o h j i;go_wp2;go_roundw
     case rel=>exact ⟨e+1,by omega,by go_num,(N _).o,(A _).o,(Y _).o⟩
     case measure=>simp [intOf];omega
   ·have au:e=y:=by omega
    subst au;rw [(aA 65536).o] at x;go_wp2;refine bodyPost_end (v:=.tuple #[]) ?_ rfl ⟨rfl,h.o,x.o,j.o⟩;simp [results,results148,go_sem]
theorem qsg (w:World):Calls prog 195 #[] w fun h o=>h=.returned (.agg #[.int .i64 1,.int .i64 7,.int .i64 0])/\Below w.heap.size w o:=by
 have B0:∀ e,Hid (Below w.heap.size w (w.alloc e)):=fun e=>B0
 go_enter func195,ntmps195
 go_wp2;refine bodyPost_ret (v:=.agg #[.int .i64 1,.int .i64 7,.int .i64 0]) ?_ rfl ⟨rfl,(B0 _).o⟩;simp [results,results195,go_sem]
theorem qhB (r:Int) (w:World):Calls prog 198 #[.int .i64 r] w fun h o=>h=.returned (.agg #[.int .i64 3,.int .i64 r,.int .i64 0])/\Below w.heap.size w o:=by
 have B0:∀ e,Hid (Below w.heap.size w (w.alloc e)):=fun e=>B0
 go_enter func198,ntmps198
 go_wp2;refine bodyPost_ret (v:=.agg #[.int .i64 3,.int .i64 r,.int .i64 0]) ?_ rfl ⟨rfl,(B0 _).o⟩;simp [results,results198,go_sem]
end Go.Proofs.YtjafbmfcedijmaaGreatDoor
namespace Go.Mixed2
open Go Go.Mixed
section
variable {P:Program} {ops:Array Oper} {md:Region.Mode}
def CS (s:Nat) (C:World->Prop) (h:Array Bool) (w:World):Prop:=h.getD s true=false->C w
def qa8 (P:Program) (md:Region.Mode) (ops:Array Oper) (n s:Nat) (C:World->Prop) (L:Array Bool->Act->World->Prop):Nat->Array Bool->Act->World->Prop
 | 0,a,w,h=>CS s C a h/\L a w h
 | f+1,a,w,h=>CS s C a h/\Region.ready md ops a≠[]/\∀ i∈Region.ready md ops a,i<n/\wpOp P ops QF i (qa8 P md ops n s C L f (a.setIfInBounds i true)) w h
theorem qeS {n s:Nat} {C:World->Prop} {L:Array Bool->Act->World->Prop} {f:Nat} {h:Array Bool} {a:Act} {w:World} (y:qa8 P md ops n s C L f h a w):CS s C h w:=by cases f <;> exact y.1
theorem qaq {n g s:Nat} {C:World->Prop} {L:Array Bool->Act->World->Prop} {Q':Exit->Act->World->Prop} (z:∀ h a w,L h a w->wpAny P md ops Q' g h a w) :
  ∀ (f:Nat) (h:Array Bool) (a:Act) (w:World),qa8 P md ops n s C L f h a w->wpAny P md ops Q' (f+g) h a w
 | 0,h,a,w,y=>by rw [QS];exact z _ _ _ y.2
 | f+1,h,a,w,y=>by
  rw [show f+1+g=(f+g)+1 by omega];exact ⟨fun G=>absurd G y.2.1,fun i J=>qcW (fun E w' K=>qaq z f _ E w' K) (y.2.2 i J).2⟩
theorem qa0 {C D:World->Prop} {n i s:Nat} {M:Oper} {v:Value} {L:Array Bool->Act->World->Prop} (ab:ops[i]?=some M) (aj:∀ (j:Nat) (o:Oper) cs b,ops[j]?=some o->o.op≠.select cs b)
  (ai:Region.sinkB md ops n=true) (ah:Region.chainB md ops n=true) (am:n<ops.size) (ak:i<n) (aG:i≠s)
  (ag:∀ h w,HeadInv md ops n h->h.getD i true=false->CS s C h w->D w)
  (aC:∀ h a w,L h a w->∀ j∈Region.ready md ops h,n<=j) :
  ∀ (f:Nat) (h:Array Bool) (a:Act) (w:World),HeadInv md ops n h->
   (∀ j H,ops[j]?=some H->j≠i->h.getD j true=false->(∀ e∈H.after,Region.binds md e=true->e.on≠i)->M.apart ops H=true)->
   i∈Region.ready md ops h->Pure P ops D M v a->CS s C h w->
   qa8 P md ops n s C L f (h.setIfInBounds i true) (a.put M.dst v) w->qa8 P md ops n s C L (f+1) h a w:=by
 intro f
 induction f with
 | zero=>
  intro h a w K _ z aa U O;have y:=(mem_ready.1 z).1;refine ⟨U,fun k=>(by rw [k] at z;cases z),fun j G=>?_⟩;have V:j<n:=by
   rcases Nat.lt_or_ge j n with k | k
   ·exact k
   ·exact absurd G (tail_waits ai ah am K _ i rfl ak y j k)
  refine ⟨V,?_⟩;by_cases E:j=i
  ·subst E;exact aa.wpOp ab (ag _ _ K y U) O
  ·have:=aC _ _ _ O.2 j (ready_mono G E)
   omega
 | succ f ar=>
  intro h a w K an z aa U O;have y:=(mem_ready.1 z).1;refine ⟨U,fun k=>(by rw [k] at z;cases z),fun j G=>?_⟩;have V:j<n:=by
   rcases Nat.lt_or_ge j n with k | k
   ·exact k
   ·exact absurd G (tail_waits ai ah am K _ i rfl ak y j k)
  refine ⟨V,?_⟩;by_cases E:j=i
  ·subst E;exact aa.wpOp ab (ag _ _ K y U) O
  ·have Z:=(O.2.2 j (ready_mono G E)).2
   obtain ⟨af,H,ae,ax⟩:=mem_ready.1 G;have ap:∀ e∈H.after,Region.binds md e=true->e.on≠i:=fun e aq aD aw=>by
    have Z:=ax e aq aD;rw [aw,getD_both y] at Z;cases Z
   have az:=Mixed.wpOp_put ae (an j H ae E af ap) (fun cs b=>aj i M cs b ab) (fun cs b=>aj j H cs b ae) aa Z;have aB:∀ J ok,ops[J]?=some ok->J≠i->(h.setIfInBounds j true).getD J true=false->
     (∀ e∈ok.after,Region.binds md e=true->e.on≠i)->M.apart ops ok=true:=fun J ok aF ay y au=>by
    refine an J ok aF ay ?_ au;by_cases ao:j=J
    ·subst ao;exact af
    ·rw [getD_set_ne true ao] at y;exact y
   refine qcW (fun av aE ad=>?_) az;obtain ⟨ad,ac⟩:=ad;rw [Array.setIfInBounds_comm _ _ (fun e=>E e.symm)] at ac;have aA:=ready_mono z (Ne.symm E);refine ar (h.setIfInBounds j true) av aE (K.set G V) aB aA ad (fun aH=>?_) ac;have aI:=qeS ac;refine aI ?_;rw [getD_set_ne true aG];exact aH
def qlL (md:Region.Mode) (ops:Array Oper) (n g s:Nat):List (Nat×Nat)->Array Bool->Bool
 | [],h=>Region.seqB md ops g n h
 | (k,0) :: r,h=>(Region.ready md ops h).contains k&&decide (k<n)&&decide (k≠s)&&Region.waitsFor md ops s k&&Region.free md ops h k&&qlL md ops n g s r (h.setIfInBounds k true)
 | (k,1) :: r,h=>(Region.ready md ops h).contains k&&decide (k<n)&&decide (k≠s)&&Region.free md ops h k&&qlL md ops n g s r (h.setIfInBounds k true)
 | (k,_) :: r,h=>decide (Region.ready md ops h=[k])&&decide (k<n)&&qlL md ops n g s r (h.setIfInBounds k true)
def qgK (md:Region.Mode) (ops:Array Oper) (n s:Nat) (h:List (Nat×Nat)):Bool:=
 Region.noSelect ops&&decide (n<ops.size)&&decide (h.length+(ops.size - n)=ops.size)&&Region.sinkB md ops n&&Region.chainB md ops n&&qlL md ops n (ops.size - n) s h (Array.replicate ops.size false)
def qD8 (P:Program) (ops:Array Oper) (s:Nat) (C:World->Prop) (T:Act->World->Prop):Bool->List (Nat×Nat)->Act->World->Prop
 | _,[],a,h=>T a h
 | sw,(k,0) :: r,a,h=>match ops[k]? with
  | none=>False
  | some o=>∃ v,Pure P ops C o v a/\qD8 P ops s C T sw r (a.put o.dst v) h
 | sw,(k,1) :: r,a,h=>match ops[k]? with
  | none=>False
  | some o=>∃ v,Pure P ops (fun _=>True) o v a/\qD8 P ops s C T sw r (a.put o.dst v) h
 | sw,(k,_) :: r,a,h=>wpOp P ops QF k (fun w w'=>((sw||decide (k=s))=false->C w')/\qD8 P ops s C T (sw||decide (k=s)) r w w') a h
theorem qpw {n s k:Nat} {e:Array Bool} (E:HeadInv md ops n e) (J:Region.waitsFor md ops s k=true) (O:e.getD k true=false) (z:s<e.size):e.getD s true=false:=by
 obtain ⟨G,K,y,M,V,U⟩:=Region.waitsFor_spec J;cases h:e.getD s false with
 | true=>
  have:=E.closed s G K h y M V;rw [U,getD_both O] at this;cases this
 | false=>exact getD_in z h
theorem qa5 {C:World->Prop} {n g s:Nat} {T:Act->World->Prop} (Z:Region.noSelect ops=true) (V:Region.sinkB md ops n=true) (O:Region.chainB md ops n=true) (ab:n<ops.size) :
  ∀ (ai:List (Nat×Nat)) (v:Bool) (h:Array Bool) (a:Act) (w:World),HeadInv md ops n h->(v=true->h.getD s true=true)->qlL md ops n g s ai h=true->CS s C h w->qD8 P ops s C T v ai a w->
  qa8 P md ops n s C (fun af U w'=>Region.seqB md ops g n af=true/\T U w') ai.length h a w
 | [],v,h,a,w,_,_,m,r,e=>⟨r,m,e⟩
 | (k,0) :: G,v,h,a,w,i,K,m,r,e=>by
  simp only [qlL,Qh,Ql] at m;obtain ⟨⟨⟨⟨⟨E,z⟩,o⟩,ap⟩,ag⟩,M⟩:=m;have aa:k∈Region.ready md ops h:=by simpa using E
  simp only [qD8] at e;cases y:ops[k]? with
  | none=>rw [y] at e;exact e.elim
  | some aw=>
   rw [y] at e;obtain ⟨ar,aj,ae⟩:=e;refine qa0 y (Region.noSelect_spec Z) V O ab z o (fun h w i ak an=>an (qpw i ap ak ?_)) (fun af U w' ah=>seqB_ready ah.1) G.length h a w i (Region.free_spec y ag) aa aj r
    (qa5 Z V O ab G v _ _ w (i.set aa z) (fun e=>?_) M (fun e=>r ?_) ae)
   ·obtain ⟨ax,aq,_⟩:=Region.waitsFor_spec ap
    rw [i.size];exact (Qb.1 aq).1
   ·rw [getD_set_ne true o];exact K e
   ·rw [getD_set_ne true o] at e;exact e
 | (k,1) :: G,v,h,a,w,i,K,m,r,e=>by
  simp only [qlL,Qh,Ql] at m;obtain ⟨⟨⟨⟨E,z⟩,o⟩,ag⟩,M⟩:=m;have aa:k∈Region.ready md ops h:=by simpa using E
  simp only [qD8] at e;cases y:ops[k]? with
  | none=>rw [y] at e;exact e.elim
  | some aw=>
   rw [y] at e;obtain ⟨ar,aj,ae⟩:=e;refine qa0 y (Region.noSelect_spec Z) V O ab z o (fun h w i ak an=>trivial) (fun af U w' ah=>seqB_ready ah.1) G.length h a w i (Region.free_spec y ag) aa aj r
    (qa5 Z V O ab G v _ _ w (i.set aa z) (fun e=>?_) M (fun e=>r ?_) ae)
   ·rw [getD_set_ne true o];exact K e
   ·rw [getD_set_ne true o] at e;exact e
 | (k,ay+2) :: G,v,h,a,w,i,K,m,r,e=>by
  simp only [qlL,Qh,Ql] at m;obtain ⟨⟨E,z⟩,M⟩:=m;simp only [qD8] at e;have au:Region.ready md ops h≠[]:=by rw [E];exact List.cons_ne_nil _ _
  refine ⟨r,au,fun ac am=>?_⟩;rw [E] at am;have av:ac=k:=by simpa using am
  subst av;have o:ac<h.size:=by rw [i.size];omega
  refine ⟨z,qcW (fun U w' ao=>?_) e⟩;refine qa5 Z V O ab G _ _ U w' (i.set (by rw [E];exact QA.2 rfl) z) (fun e=>?_) M (fun ad=>ao.1 ?_) ao.2
  ·by_cases J:ac=s
   ·subst J;simp [o]
   ·rw [getD_set_ne true J]
    simp only [Qf J,Bool.or_false] at e;exact K e
  ·by_cases J:ac=s
   ·subst J;simp [o] at ad
   ·rw [getD_set_ne true J] at ad
    cases v with
    | true=>rw [K rfl] at ad;cases ad
    | false=>simp [J]
theorem qD5 {ab:Nat} {Q:Exit->Act->World->Prop} {a:Act} {w:World} {l:List Oper} (C:World->Prop) (n s:Nat) (j:List (Nat×Nat)) (af:P.follows .mixedOrders=true) (y:qgK .any l.toArray n s j=true)
  (aa:C w.drew) (t:qD8 P l.toArray s C (fun h w'=>wpList P l.toArray Q (l.drop n) h w') false j a w.drew):(Code.region ab l.toArray true).wp P Q a w:=by
 simp only [qgK,Qh,Ql] at y;obtain ⟨⟨⟨⟨⟨Z,ac⟩,U⟩,M⟩,K⟩,V⟩:=y;have G:(l.drop n).length=l.toArray.size - n:=by simp
 have J:HeadInv .any l.toArray n (Array.replicate l.toArray.size false):=
  ⟨by simp,fun O ah _ z=>(by rw [getD_replicate_false] at z;cases z),fun ag _ ae=>getD_in (by simpa using ae) (getD_replicate_false _ _)⟩
 have H:=qa5 (s:=s) Z M K ac j false _ a w.drew J (fun t=>by cases t) V (fun _=>aa) t;refine wp_region_any af ?_;have:=qaq (Q':=Q) (g:=l.toArray.size - n) (fun ad h w' E=>by
  have:=wpAny_of_seq (md:=.any) (Q':=Q) (l.drop n) n ad h w' (fun O=>by simp [Zl]) (by rw [G];exact E.1) E.2
  rwa [G] at this) _ _ _ _ H
 rw [U] at this;exact this
theorem qER {s:Nat} {h:Bool} {C:World->Prop} {T:Act->World->Prop} {k:Nat} {r:List (Nat×Nat)} {a:Act} {w:World} {o:Oper} (y:ops[k]?=some o) (z:Region.wanted o (yielded ops a.tmps)=true) (v:Value)
  (E:∀ w,C w->(execOp a.eval o).run P w=.ok (.value v) w) (G:qD8 P ops s C T h r (a.put o.dst v) w):qD8 P ops s C T h ((k,0) :: r) a w:=by
 simp only [qD8,y];exact ⟨v,.inl ⟨z,E⟩,G⟩
theorem qEb {s:Nat} {h:Bool} {C:World->Prop} {T:Act->World->Prop} {k:Nat} {r:List (Nat×Nat)} {a:Act} {w:World} {o:Oper} (y:ops[k]?=some o) (z:Region.wanted o (yielded ops a.tmps)=true) (v:Value)
  (E:∀ w,(execOp a.eval o).run P w=.ok (.value v) w) (G:qD8 P ops s C T h r (a.put o.dst v) w):qD8 P ops s C T h ((k,1) :: r) a w:=by
 simp only [qD8,y];exact ⟨v,.inl ⟨z,fun w _=>E w⟩,G⟩
theorem qD7 {s:Nat} {h:Bool} {C:World->Prop} {T:Act->World->Prop} {k:Nat} {r:List (Nat×Nat)} {a:Act} {w:World} {o:Oper} (y:ops[k]?=some o) (z:Region.wanted o (yielded ops a.tmps)=true) (x:Operand) (E:o.op=.move x) (v:Value)
  (G:a.eval x=v) (J:qD8 P ops s C T h r (a.put o.dst v) w):qD8 P ops s C T h ((k,1) :: r) a w:=by
 subst G;exact qEb y z _ (fun w=>by unfold execOp;simp [E]) J
theorem qEh {s:Nat} {z:Bool} {C:World->Prop} {T:Act->World->Prop} {k:Nat} {r:List (Nat×Nat)} {a:Act} {w:World} {o:Oper} (G:ops[k]?=some o)
  (h:wpList P ops (QK fun E w'=>((z||decide (k=s))=false->C w')/\qD8 P ops s C T (z||decide (k=s)) r E w') [o] a w):qD8 P ops s C T z ((k,2) :: r) a w:=by
 simp only [qD8];unfold wpOp;simp only [G];simp only [wpList] at h;split
 ·rename_i y
  simp only [y,if_true] at h;rcases h with h | h
  ·exact .inl (qfC h)
  ·exact absurd h.2 (qaA _)
 ·rename_i y
  simp only [y] at h;exact h
end
end Go.Mixed2
namespace Go.Proofs.YtjafbmfcedijmaaGreatDoor
open Tryz
open Go.RowKit
theorem qh4:∀ (L:List Tr) (k:Nat) (a:Int) (e:k<L.length),(cellsT L).set (k*3) (.int .i64 a)=cellsT (L.set k (a,L[k].2.1,L[k].2.2))
 | x :: h,0,a,e=>rfl
 | x :: h,k+1,a,e=>by
  have z:=qh4 h k a (by simpa using e);rw [show (k+1)*3=(k*3)+1+1+1 by omega];have y:∀ t:List Tr,cellsT (x :: t)=.int .i64 x.1 :: .int .i64 x.2.1 :: .int .i64 x.2.2 :: cellsT t:=fun _=>rfl
  simp only [List.set_cons_succ,List.getElem_cons_succ,y];rw [z]
theorem qh0:∀ (L:List Tr) (k:Nat) (a:Int) (e:k<L.length),(cellsT L).set (k*3+1) (.int .i64 a)=cellsT (L.set k (L[k].1,a,L[k].2.2))
 | x :: h,0,a,e=>rfl
 | x :: h,k+1,a,e=>by
  have z:=qh0 h k a (by simpa using e);rw [show (k+1)*3+1=(k*3+1)+1+1+1 by omega];have y:∀ t:List Tr,cellsT (x :: t)=.int .i64 x.1 :: .int .i64 x.2.1 :: .int .i64 x.2.2 :: cellsT t:=fun _=>rfl
  simp only [List.set_cons_succ,List.getElem_cons_succ,y];rw [z]
theorem qdJ.put3 {w:World} {n g h:Nat} {L L':List Tr} (J:qdJ w n g h L) (j:Nat) (t:Tr) (E:j<L.length) (e:L.set j t=L') :
  qdJ (((w.setCell ⟨g,h+j*3,none⟩ (.int .i64 t.1)).setCell ⟨g,h+j*3+1,none⟩ (.int .i64 t.2.1)).setCell ⟨g,h+j*3+2,none⟩ (.int .i64 t.2.2)) n g h L':=by
 have M:=J.put (L':=L.set j (t.1,L[j].2.1,L[j].2.2)) (j*3) (.int .i64 t.1) (qh4 L j _ E);have z:j<(L.set j (t.1,L[j].2.1,L[j].2.2)).length:=by rw [List.length_set];exact E
 have K:=M.put (L':=(L.set j (t.1,L[j].2.1,L[j].2.2)).set j (t.1,t.2.1,L[j].2.2)) (j*3+1) (.int .i64 t.2.1) (by
  have:=qh0 (L.set j (t.1,L[j].2.1,L[j].2.2)) j t.2.1 z;simp only [List.getElem_set_self] at this;exact this)
 have G:j<((L.set j (t.1,L[j].2.1,L[j].2.2)).set j (t.1,t.2.1,L[j].2.2)).length:=by rw [List.length_set];exact z
 have y:=K.put (L':=L') (j*3+2) (.int .i64 t.2.2) (by
  have:=qe6 ((L.set j (t.1,L[j].2.1,L[j].2.2)).set j (t.1,t.2.1,L[j].2.2)) j t.1 t.2.1 t.2.2 G (by simp) (by simp);rw [<- this,List.set_set,List.set_set,<- e])
 rw [<- Nat.add_assoc,<- Nat.add_assoc] at y;exact y
theorem grownBy_set {w w':World} {g:Nat} (e:w.grownBy w' (some g)) (j:Nat) (u:Value):w.grownBy (w'.setCell ⟨g,j,none⟩ u) (some g):=
 ⟨e.os,e.tape,e.output,by simpa using e.size,fun k z h=>(heap_setCell_other w' ⟨g,j,none⟩ k u (fun y=>h (by rw [y]))).trans (e.block k z h)⟩
theorem grownBy_drew {w w':World} {r:Option Nat} (h:w.grownBy w' r):w.grownBy w'.drew r:=⟨h.os,h.tape,h.output,h.size,h.block⟩
theorem qdJ.drew {w:World} {n g h:Nat} {L:List Tr} (y:qdJ w n g h L):qdJ w.drew n g h L:=y
theorem qvV (B g e cap:Nat) (x i:Tr) (w:World) (y:qdJ w B g e [x,i]) :
  Calls prog 199 #[.slice (some ⟨g,e,none⟩) 2 cap] w fun ao h=>ao=.returned (.tuple #[])/\qdJ h B g e [i,x]/\w.grownBy h (some g):=by
 have E:=y.at_ 0 (by simp);have z:=y.at_ 1 (by simp);have j:=y.frozen;simp only [List.getElem_cons_zero,List.getElem_cons_succ,Nat.zero_mul,Nat.add_zero,Nat.one_mul] at E z;have af:=y.put3 0 i (by simp) (L':=[i,i]) rfl;have Z:=af.put3 1 x (by simp) (L':=[i,x]) rfl;simp only [Nat.zero_mul,Nat.add_zero,Nat.one_mul] at Z;have ag:=J9 Z.drew;obtain ⟨R,V,O⟩:=x;obtain ⟨J,U,K⟩:=i;simp only at E z ag;have ap:Hid ((w.drew.cell? ⟨g,e,none⟩=some (.int .i64 R)/\w.drew.cell? ⟨g,e+1,none⟩=some (.int .i64 V)/\w.drew.cell? ⟨g,e+2,none⟩=some (.int .i64 O))/\
   (w.drew.cell? ⟨g,e+3,none⟩=some (.int .i64 J)/\w.drew.cell? ⟨g,e+3+1,none⟩=some (.int .i64 U)/\w.drew.cell? ⟨g,e+3+2,none⟩=some (.int .i64 K))):=⟨E,z⟩
 have aq:=J9 (grownBy_drew (grownBy_set (grownBy_set (grownBy_set (grownBy_set (grownBy_set (grownBy_set (g:=g) (World.grownBy.refl w (some g)) e (.int .i64 J)) (e+1) (.int .i64 U)) (e+2) (.int .i64 K)) (e+3) (.int .i64 R)) (e+3+1) (.int .i64 V)) (e+3+2) (.int .i64 O)));have ak:=J9 E;have an:=J9 z;clear y af Z E z
 go_enter func199,ntmps199
 go_wp2
 go_loopw [2,3] (fun G M wr=>(G=.int .i64 0/\M=.int .i64 1/\wr=w)\/(G=.int .i64 1/\M=.int .i64 0/\Hid (qdJ wr B g e [(J,U,K),(R,V,O)])/\Hid (w.grownBy wr (some g)))) (fun G M _=>(intOf M - intOf G+1).toNat)
 case atStart=>exact .inl ⟨rfl,rfl,rfl⟩
 case round=>
  rcases hrel with ⟨rfl,rfl,rfl⟩ | ⟨rfl,rfl,aj,am⟩
  ·go_wp2
   refine Mixed2.qD5 (fun h=>(h.cell? ⟨g,e,none⟩=some (.int .i64 R)/\h.cell? ⟨g,e+1,none⟩=some (.int .i64 V)/\h.cell? ⟨g,e+2,none⟩=some (.int .i64 O))/\
     (h.cell? ⟨g,e+3,none⟩=some (.int .i64 J)/\h.cell? ⟨g,e+3+1,none⟩=some (.int .i64 U)/\h.cell? ⟨g,e+3+2,none⟩=some (.int .i64 K))) 15 13
    [(0,1),(1,1),(2,1),(3,1),(4,1),(5,1),(6,1),(7,0),(8,1),(9,1),(10,1),(11,0),(12,1),(13,2),(14,1)] (by kernel_rfl) (by kernel_rfl) ap.o ?_
   refine Mixed2.qD7 rfl rfl _ rfl _ rfl ?_;refine Mixed2.qD7 rfl rfl _ rfl _ rfl ?_;refine Mixed2.qD7 rfl rfl _ rfl _ rfl ?_;refine Mixed2.qD7 rfl rfl _ rfl _ rfl ?_;refine Mixed2.qD7 rfl rfl _ rfl _ rfl ?_;refine Mixed2.qD7 rfl rfl _ rfl _ rfl ?_;refine Mixed2.qEb rfl rfl _ (fun w=>by go_simp;rfl) ?_;refine Mixed2.qER rfl rfl _ (fun w aa=>by obtain ⟨⟨ae,ad,ab⟩,ai,ah,ac⟩:=aa;go_simp;rfl) ?_;refine Mixed2.qD7 rfl rfl _ rfl _ rfl ?_;refine Mixed2.qD7 rfl rfl _ rfl _ rfl ?_;refine Mixed2.qEb rfl rfl _ (fun w=>by go_simp;rfl) ?_;refine Mixed2.qER rfl rfl _ (fun w aa=>by obtain ⟨⟨ae,ad,ab⟩,ai,ah,ac⟩:=aa;go_simp;rfl) ?_;refine Mixed2.qEb rfl rfl _ (fun w=>by go_simp;rfl) ?_;refine Mixed2.qEh rfl ?_;obtain ⟨ae,ad,ab⟩:=ak.o;obtain ⟨ai,ah,ac⟩:=an.o;have av:=j e;have aw:=j (e+1);have ax:=j (e+2);have ay:=j (e+3);have au:=j (e+3+1);have ar:=j (e+3+2);go_wp2;show Mixed2.qD8 _ _ _ _ _ _ _ _ _;refine Mixed2.qEb rfl rfl _ (fun w=>by go_simp;rfl) ?_;simp only [Mixed2.qD8];go_wp2;go_roundw
   case rel=>exact .inr ⟨rfl,rfl,ag.o,aq.o⟩
   case measure=>simp [intOf]
  ·go_wp2
   go_end0
   exact ⟨rfl,aj.o,am.o⟩
end Go.Proofs.YtjafbmfcedijmaaGreatDoor
