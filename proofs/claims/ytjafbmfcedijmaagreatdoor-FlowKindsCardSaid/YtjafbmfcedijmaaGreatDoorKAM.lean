/-
  FmGqRK, FmPqRK, FmOqRK.
-/
import Derived.Test.YtjafbmfcedijmaaGreatDoorKAL
set_option linter.all false
set_option maxRecDepth 100000
set_option maxHeartbeats 4000000
namespace Go.Proofs.YtjafbmfcedijmaaGreatDoor
open Tryz
open Go.RowKit Go.Shelf
attribute [local go_sem] Oper.semAt_some
noncomputable def nxG (a kind:Int) (z:Nat) (s:ByteArray) (I:List Tr):List Int:=
 if a<0\/65535<a then []
 else
  let k:=if kind=1 then kdF s I else 0
  let o:=if kind=1 then tgF a s I else -1
  let y:Bool:=decide (kind=1)&&(decide (k=1)||decide (k=3)||decide (k=4))&&!smF s I;let t:=a+z;let h:=if t<=65535/\kind≠4/\y=false then [t] else []
  if 0<=o/\(h=[]\/h.head?≠some o) then h++[o] else h
noncomputable def nx1 (a kind:Int) (h:Nat) (s:ByteArray) (I:List Tr):List Int:=if (adB (a+h)&&decide (kind≠4)&&qtT (kdI kind s I) (smI kind s I))=true then [a+h] else []
theorem qml {a:Int} (y:adB a=false) (kind:Int) (h:Nat) (s:ByteArray) (I:List Tr):nxG a kind h s I=[]:=by
 unfold nxG;rw [Qk];refine Classical.byContradiction fun z=>?_
 have:=qcx.2 (show 0<=a/\a<=65535 by omega);rw [y] at this;cases this
theorem alw (kind:Int) (s:ByteArray) (I:List Tr):qtT (kdI kind s I) (smI kind s I)=!(decide (kind=1)&&(decide ((if kind=1 then kdF s I else 0)=1)||decide ((if kind=1 then kdF s I else 0)=3)||decide ((if kind=1 then kdF s I else 0)=4))&&!smF s I):=by
 unfold qtT kdI smI;by_cases y:kind=1
 ·simp only [Qk y]
  by_cases e:kdF s I=1\/kdF s I=3\/kdF s I=4
  ·rw [Qk e]
   rcases e with e | e | e <;> simp [y,e]
  ·rw [Qd e]
   have G:¬kdF s I=1:=(fun h=>e (.inl h));have E:¬kdF s I=3:=(fun h=>e (.inr (.inl h)));have z:¬kdF s I=4:=(fun h=>e (.inr (.inr h)));simp [G,E,z]
 ·simp only [Qd y]
  simp [y]
theorem qwT {a:Int} (y:adB a=true) (kind:Int) (e:Nat) (s:ByteArray) (I:List Tr):nx1 a kind e s I=(if a+e<=65535/\kind≠4/\(decide (kind=1)&&(decide ((if kind=1 then kdF s I else 0)=1)||decide ((if kind=1 then kdF s I else 0)=3)||decide ((if kind=1 then kdF s I else 0)=4))&&!smF s I)=false then [a+e] else []):=by
 have J:=qcx.1 y;unfold nx1;rw [alw];have h:adB (a+e)=decide (a+(e:Int)<=65535):=by unfold adB;rw [Qn (by omega),Bool.true_and]
 rw [h];obtain ⟨q,z⟩:=N9 ((decide (kind=1)&&(decide ((if kind=1 then kdF s I else 0)=1)||decide ((if kind=1 then kdF s I else 0)=3)||decide ((if kind=1 then kdF s I else 0)=4))&&!smF s I));rw [z];by_cases G:a+(e:Int)<=65535 <;> by_cases E:kind=4 <;> cases q <;> simp [G,E]
theorem qod {a:Int} (J:adB a=true) (kind:Int) (e:Nat) (s:ByteArray) (I:List Tr):nxG a kind e s I=if (decide (0<=tgI kind s I a)&&!(nx1 a kind e s I).contains (tgI kind s I a))=true then nx1 a kind e s I++[tgI kind s I a] else nx1 a kind e s I:=by
 have O:=qcx.1 J;unfold nxG;rw [Qd (by omega)];dsimp only;rw [<- qwT J];show (if 0<=tgI kind s I a/\(nx1 a kind e s I=[]\/(nx1 a kind e s I).head?≠some (tgI kind s I a)) then nx1 a kind e s I++[tgI kind s I a] else nx1 a kind e s I)=_;have K:nx1 a kind e s I=[]\/∃ G,nx1 a kind e s I=[G]:=by
  unfold nx1;split
  ·exact .inr ⟨_,rfl⟩
  ·exact .inl rfl
 obtain ⟨E,M⟩:=N9 (tgI kind s I a);rw [M];rcases K with y | ⟨G,y⟩
 ·rw [y]
  by_cases h:0<=E <;> simp [h]
 ·rw [y]
  by_cases h:0<=E <;> by_cases z:G=E
  ·subst z;simp [h]
  ·simp [h,z]
   exact fun y=>z y.symm
  ·subst z;simp [h]
  ·simp [h]
def qw3 (w:World) (L:List Int) (e:Ending) (w':World):Prop:=∃ c h,e=.returned (.slice c L.length h)/\qaI w' w.heap.size (.slice c L.length h) L/\Below w.heap.size w w'
theorem qxa (a kind:Int) (h:Nat) (s:ByteArray) (I:List Tr):(nx1 a kind h s I).length<=1:=by unfold nx1;split <;> simp
def qBS (b:Nat) (kind:Int) (va:Value) (s:ByteArray) (vb:Value) (al:Bool):Fr.F:=⟨fun h=>qar h b kind va s vb al,fun w y=>w.all y⟩
theorem qiA (a:Int) (kind:Int) (C:Option Addr) (e z:Nat) (ca:e<=1000000000) (al:Bool) (s:ByteArray) (bS:s.size<=1000) (A:Option Addr) (cap p:Nat) (I:List Tr) (aO:I.length=p) (b0:p<=900) (w:World) (aV:qac w) (H:qaj w A I) :
  Calls prog 30 #[.int .i64 a,.agg #[.int .i64 kind,.slice C e z,.string s,.slice A p cap,.bool al]] w (qw3 w (nxG a kind e s I)):=by
 obtain ⟨a4,aD⟩:=N9 (w.heap.size);have af:=J9 aD;obtain ⟨n,br,bn,a9,az,bo,bs⟩:=Fr.box (Fr.add (Fr.add (Fr.start w a4 aD) (qaW A I) H) qmt aV) #[.int .i64 kind,.slice C e z,.string s,.slice A p cap,.bool al] 50;obtain rfl:n=a4:=by omega
 have l:qar br n kind (.slice C e z) s (.slice A p cap) al:=az.o.1;obtain ⟨M,v,E,O,K,G⟩:=l.cells;have ai:=J9 (qfl a br);have aQ:=J9 (fun ar b1 bU=>qgC kind (.slice C e z) al s bS A cap p I aO b0 ar b1 bU);cases aa:adB a with
 | false=>
  have bw:=J9 (qml aa kind e s I);rw [aa] at ai;clear H aV bo l aO aa aQ
  go_enter func30,ntmps30
  go_wp2_with fail
  refine ai.o.mono ?_;rintro am aY ⟨rfl,h⟩;have ae:=Fr.up az h;clear h ai az M v E O K G aD bn a9 bs;go_wp2;go_ret;rw [bw.o];exact ⟨none,0,rfl,qbc _ _,by rw [af.o];exact ae.o.2.2.2.1.1⟩
 | true=>
  have J:=J9 (qod aa kind e s I);have bZ:=J9 (qcx.1 aa);have ad:Hid (nx1 a kind e s I=if (adB (a+e)&&decide (kind≠4)&&qtT (kdI kind s I) (smI kind s I))=true then [a+e] else []):=rfl;have aI:=J9 (qxa a kind e s I);obtain ⟨k,aU⟩:=N9 (nx1 a kind e s I);obtain ⟨aK,aT⟩:=N9 (nxG a kind e s I);rw [aU,aT] at J;rw [aU] at ad aI;rw [aT];rw [aa] at ai;clear H aV bo l aO aa aU aT
  go_enter func30,ntmps30
  go_wp2_with fail
  refine ai.o.mono ?_;rintro am aY ⟨rfl,h⟩;have ae:=Fr.up az h;clear h ai az M v E O K G a9 bs aD bn;have l:qar aY n kind (.slice C e z) s (.slice A p cap) al:=ae.o.1;obtain ⟨M,v,E,O,K,G⟩:=l.cells;have bc:=aQ.o aY ae.o.2.1 ae.o.2.2.1;clear l aQ
  go_wp2_with fail
  refine bc.mono ?_;rintro am ck ⟨Z,V,cj,aj,rfl,a8,h,y⟩;obtain ⟨T,av,rfl,bj,-,-⟩:=a8.ops;have bq:=Fr.add (Fr.up ae h) (qaW T aj) bj;have au:=J9 (fun ar b8=>qfI Z V aj aj.length rfl y.len y.imm y.rel T av a ar b8);rw [y.tg a] at au;obtain ⟨aG,bl⟩:=N9 (aj.length);rw [bl] at au |-;have ce:=J9 y.kd;have cf:=J9 y.sm;obtain ⟨q,bg⟩:=N9 (tgI kind s I a);rw [bg] at au J;rw [<- y.kd,<- y.sm] at ad;clear bc a8 h y bj ae M v E O K G bl bg
  go_upto_region 4 with fail
  obtain ⟨bi,bk,a0,a2,aB,bT,bJ⟩:=Fr.box bq #[.int .i64 Z,.bool V,.slice T aG av] 60;rw [a2,a0];clear bq bT bJ a2 a0;have l:qar bk n kind (.slice C e z) s (.slice A p cap) al:=aB.o.2.2.1;obtain ⟨M,v,E,O,K,G⟩:=l.cells;have bF:IntKind.i64.wrap (a+(e:Int))=a+(e:Int):=by have:=bZ.o;rw [IntKind.wrap_i64];omega
  obtain ⟨U,aW⟩:=N9 (a+(e:Int));rw [aW] at bF ad;clear l
  go_upto_region 6 with fail
  try rw [aW]
  clear aW
  go_cut [30] (fun bK wx=>bK=.bool (adB U&&decide (kind≠4)&&qtT Z V)/\Hid (Fr.St wx [efF bi Z V (.slice T aG av),qaW T aj,qBS n kind (.slice C e z) s (.slice A p cap) al,qmt,qaW A I,Fr.bel n w]))
  case first=>
   have bp:=qfl U bk
   go_wp2_with fail
   refine bp.mono ?_;rintro am a6 ⟨rfl,h⟩;have ag:=Fr.up aB h;clear bp h aB M v E O K G;have l:qar a6 n kind (.slice C e z) s (.slice A p cap) al:=ag.o.2.2.1;obtain ⟨M,v,E,O,K,G⟩:=l.cells;clear l;cases ak:adB U with
   | false=>
    have aA:=J9 ak
    try rw [ak]
    clear ak;go_wp2
    go_meet
    exact ⟨by rw [aA.o];rfl,ag.o⟩
   | true=>
    have aA:=J9 ak
    try rw [ak]
    clear ak;by_cases ap:kind=4
    ·subst ap
     go_wp2
     go_meet
     exact ⟨by rw [aA.o];rfl,ag.o⟩
    ·have cd:(kind != 4)=true:=Zn.2 ap
     have cc:(kind == 4)=false:=Qj.2 ap;have b3:Hid (decide (kind≠4)=true):=Qn ap;have aZ:=qoK Z V (.slice T aG av) a6;obtain ⟨aX,aL,aR,aP⟩:=qiS.cells ag.o.1;clear ap
     go_wp2_with fail
     refine aZ.mono ?_;rintro am cl ⟨rfl,h⟩;have bB:=Fr.up ag h;clear aZ h ag M v E O K G aX aL aR aP;obtain ⟨b2,aM⟩:=N9 (qtT Z V);have bQ:=J9 aM;rw [aM];clear aM;go_wp2
     go_meet
     exact ⟨by rw [b3.o,aA.o,bQ.o];cases b2 <;> rfl,bB.o⟩
  case rest=>
   obtain ⟨rfl,aq⟩:=hcut;clear aB M v E O K G;obtain ⟨b6,bd⟩:=N9 ((adB U&&decide (kind≠4)&&qtT Z V));rw [bd] at ad |-;clear bd
   go_upto_if 30 with fail
   go_cut [6] (fun bY wx=>∃ ao ah,bY=.slice ao k.length ah/\Hid (Fr.St wx [qz1 n (.slice ao k.length ah) k,efF bi Z V (.slice T aG av),qaW T aj,qBS n kind (.slice C e z) s (.slice A p cap) al,qmt,qaW A I,Fr.bel n w]))
   case first=>
    cases b6 with
    | false=>
     have aN:k=[]:=ad.o;subst aN;go_wp2
     go_meet
     exact ⟨none,0,rfl,qbc _ _,aq.o⟩
    | true=>
     have aN:k=[U]:=ad.o;subst aN;have ci:=aq.o.2.2.2.2.2.1.2;obtain ⟨bV,aC,bu,b4,ab,bC,b9⟩:=Fr.box aq #[.int .i64 U] 3;have bI:Hid (qad aC (some ⟨bV,0,none⟩) [U]):=(by rw [<- b4,<- bu];exact qaO wc U);have cm:Hid (∀ ar,wc.heap.size<=aC.heap.size->Below n aC ar->True):=(fun _ _ _=>trivial);have a7:=J9 ab.o.2;clear aq bC ab
     go_wp2_with (at_builtin;refine qak (qbc _ aC.heap.size) bI.o (Qa _) (by simp) rfl _ _ rfl rfl rfl 1 rfl rfl 1 rfl ?_;intro bO bA a1 a5 bb bx;have bv:=J9 a5;have bG:=J9 bb;clear a5 bb bx)
     go_meet
     exact ⟨bO,bA,rfl,qaI.lift bv.o (by have:=a7.o.2.2.2.2.2.1.2;omega),Fr.St.up a7.o bG.o⟩
   case rest=>
    obtain ⟨ao,ah,rfl,ab⟩:=hcut;clear aq ad;obtain ⟨aX,aL,aR,aP⟩:=qiS.cells ab.o.2.1;have bm:=au.o _ ab.o.2.2.1;clear au
    go_wp2_with fail
    refine bm.mono ?_;rintro am a1 ⟨rfl,h⟩;have an:=Fr.up ab h;clear bm h ab aX aL aR aP;by_cases ay:0<=q
    ·have ac:decide (0<=q)=true:=Qn ay
     rw [ac,Int.max_eq_left ay];rw [ac,Bool.true_and] at J;obtain ⟨aJ,ax⟩:=N9 (k.length);have aS:=qe8 ao ah aJ k ax (by have:=aI.o;omega) q a1 (qw5 (qaI.qEq (ax ▸ an.o.1)));rw [List.contains_eq_mem] at J;obtain ⟨bW,bh⟩:=N9 (decide (q∈k));rw [bh] at J aS;have aE:=J9 ax;rw [ax] at an |-;clear ac ay bh ax
     go_wp2_with fail
     refine aS.mono ?_;rintro am cg ⟨rfl,h⟩;subst h;have aF:=an;clear aS an;cases bW with
     | true=>
      have aw:aK=k:=J.o;subst aw;go_wp2;go_ret;exact ⟨ao,ah,by rw [aE.o];rfl,by rw [af.o,aE.o];exact aF.o.1,by rw [af.o];exact aF.o.2.2.2.2.2.2.1.1⟩
     | false=>
      have aw:aK=k++[q]:=J.o;subst aw;obtain ⟨bH,bE,bL,bD,aH,bP,ch⟩:=Fr.box aF #[.int .i64 q] 3;have b7:Hid (qad bE (some ⟨bH,0,none⟩) [q]):=(by rw [<- bD,<- bL];exact qaO _ q);have bt:Hid ((k++[q]).length=aJ+1):=(by show _=_;rw [Qg,aE.o];rfl);have a3:=J9 aH.o.2.2.2.2.2.2.2.1;have bN:=J9 aH.o.2.1;clear aF bP aH
      go_wp2_with (at_builtin;refine qak bN.o b7.o a3.o.2 (by have:=aI.o;simp;omega) rfl _ _ rfl rfl rfl 1 rfl rfl (aJ+1) (by rw [aE.o]) ?_;intro bz bX cn be bf bM;have bR:=J9 be;have b5:=J9 bf;clear be bf bM)
      go_ret;exact ⟨bz,bX,by rw [bt.o];rfl,by rw [af.o,bt.o];exact bR.o,by rw [af.o];exact a3.o.1.trans b5.o⟩
    ·have ac:decide (0<=q)=false:=Qf ay
     rw [ac];rw [ac,Bool.false_and] at J;have aw:aK=k:=J.o;subst aw;clear ac ay;go_wp2;go_ret;exact ⟨ao,ah,rfl,by rw [af.o];exact an.o.1,by rw [af.o];exact an.o.2.2.2.2.2.2.1.1⟩
theorem qb8 (A1 y:Option Addr) (aa c2:Nat) (xs:List Int) (h:xs.length<=maxLen) (w:World) (x:qad w A1 xs) (E:qad w y xs) :
  Calls prog 16 #[.slice A1 xs.length aa,.slice y xs.length c2] w fun Z V=>Z=.returned (.bool true)/\Below w.heap.size w V:=by
 unfold maxLen at h;have U:=J9 x;have K:=J9 E;clear x E;obtain ⟨n,q⟩:=N9 (xs.length);have k:=J9 q;rw [q] at h |-;clear q
 go_enter func16,ntmps16
 go_wp2
 go_loopw [13] (fun i wr=>∃ e z:Nat,e<=n/\i=.int .i64 e/\wr=w.drewN z) (fun i _=>n - (intOf i).toNat)
 case atStart=>exact ⟨0,0,Qs _,rfl,rfl⟩
 case round=>
  obtain ⟨e,z,ah,rfl,rfl⟩:=hrel;by_cases ag:e<n
  ·obtain ⟨ac,af,M,J⟩:=U.o.at_ (show e<xs.length by have:=k.o;omega)
   obtain ⟨ae,ad,O,ab⟩:=K.o.at_ (show e<xs.length by have:=k.o;omega);subst M O;obtain ⟨G,h⟩:∃ G:Int,(xs[e]'(by have:=k.o;omega))=G:=⟨_,rfl⟩;rw [h] at J ab;clear h
   go_wp2_with fail
   go_quiet (fail)
   go_wp2;go_roundw
   case rel=>exact ⟨e+1,_,by omega,by go_num,rfl⟩
   case measure=>simp [intOf];omega
  ·go_wp2
   go_ret;exact ⟨rfl,qbZ (Qc _ _) _⟩
def exC:List Tr:=[(8,0,0),(10,0,3)]
theorem qs6:canL (opc qdk) exC=exC:=by decide +kernel
def qCr (x:Int) (n:Nat) (s:ByteArray) (C:List Tr):Bool:=match qaX x n with
 | some h=>!h.2.2.2&&qa3 h.1 h.2.1 h.2.2.1 s C
 | none=>false
theorem qyV {x:Int} {n:Nat} {s:ByteArray} {C:List Tr} (h:qCr x n s C=true):Hit s C x n:=by
 unfold qCr at h;cases y:qaX x n with
 | none=>rw [y] at h;cases h
 | some z=>
  rw [y] at h;simp only [Qh,Bool.not_eq_true'] at h;exact ⟨z,y,h.1,h.2⟩
theorem qBY:qCr 0 32 qdk exC=true:=by decide +kernel
theorem qxg:qa6 qdk exC=0:=by decide +kernel
theorem qBf:legB qdk exC=true:=by
 rw [qbF,qs6];exact ⟨qxg,0,32,by decide,by decide,by decide,qyV qBY⟩
theorem qDj:upB qdk=qdk:=ByteArray.ext (by decide +kernel)
theorem qqK:qqt qdk exC=false:=by
 unfold qqt;rw [qBf,(qrK _).1];rfl
theorem qzP:kdF qdk exC=1:=by
 have h:=qjd qdk exC;rw [Qd (by rw [qqK];decide),(qrK _).1] at h;exact h.symm
theorem qzN:smF qdk exC=true:=by
 have h:=qmM qdk exC;rw [qqK,qs6] at h;rw [<- h];rfl
theorem qDb:tgF 100 qdk exC=105:=by
 have h:=qmY 100 qdk exC;rw [Qd (by rw [qqK];decide),(qrK _).1,qs6] at h;rw [<- h];rfl
theorem qDq:nxG 100 1 2 qdk exC=[102,105]:=by
 have y:tgI 1 qdk exC 100=105:=by unfold tgI;rw [Qk rfl];exact qDb
 have h:nx1 100 1 2 qdk exC=[102]:=by
  unfold nx1 kdI smI;rw [Qk (rfl:(1:Int)=1),Qk (rfl:(1:Int)=1),qzP,qzN];rfl
 rw [qod (by decide),y,h];rfl
theorem qC2 (w:World):qaj (w.alloc (.cells #[.int .i64 8,.int .i64 0,.int .i64 0,.int .i64 10,.int .i64 0,.int .i64 3] 57)) (some ⟨w.heap.size,0,none⟩) exC:=by
 refine .inr ⟨_,0,rfl,fun j y=>?_⟩;have h:=heap_alloc_new w (.cells #[.int .i64 8,.int .i64 0,.int .i64 0,.int .i64 10,.int .i64 0,.int .i64 3] 57);have:j=0\/j=1:=by
  have:exC.length=2:=rfl;omega
 rcases this with rfl | rfl
 ·exact ⟨C9 h 0,C9 h 1,C9 h 2⟩
 ·exact ⟨C9 h 3,C9 h 4,C9 h 5⟩
theorem qro (w:World) (x h:Int):qad (w.alloc (.cells #[.int .i64 x,.int .i64 h] 3)) (some ⟨w.heap.size,0,none⟩) [x,h]:=by
 refine .inr ⟨_,_,rfl,fun j y=>?_⟩;rw [C9 (heap_alloc_new w _)];have:j=0\/j=1:=by simp at y;omega
 rcases this with rfl | rfl <;> rfl
theorem qei (w:World) (aE:qac w):Calls prog 7 #[] w fun y J=>y=.returned (.bool true)/\Below w.heap.size w J:=by
 have ak:Hid (∀ K,Below w.heap.size w K->qac K):=fun K a5=>aE.below a5
 obtain ⟨aQ,a3,aM,aF,a6,aH,a4⟩:=Fr.box (Fr.nil w) #[.int .i64 8,.int .i64 0,.int .i64 0,.int .i64 10,.int .i64 0,.int .i64 3] 57;have ap:=qjt qdk (by decide) (some ⟨aQ,0,none⟩) 2 exC (by decide) a3 (by rw [<- aF,<- aM];exact qC2 w);rw [qDj] at ap;have af:=J9 aH;clear aH a6 aE
 go_enter func7,ntmps7
 go_wp2_with fail
 refine ap.mono ?_;rintro y K ⟨a8,rfl,G,e⟩;obtain ⟨h,v,rfl,az,-⟩:=G.ops;have am:=J9 (af.o.trans (e.mono af.o.size));have ax:=Fr.add (Fr.nil K) (qaW h exC) az;rw [show exC.length=2 from rfl];clear ap G e az af aF aM a4
 go_upto_region 2 with fail
 obtain ⟨M,a9,aJ,aO,aL,aI,a1⟩:=Fr.box ax #[.string qdk,.slice h 2 v] 24;have ag:=J9 (am.o.trans (aI.mono am.o.size))
 try rw [aO,aJ]
 obtain ⟨aS,aU,aR,aV,V,aB,aW⟩:=Fr.box aL #[.int .u8 32,.int .u8 3] 5;obtain rfl:aS=M+1:=by omega
 have aa:=J9 (ag.o.trans (aB.mono ag.o.size));have ah:=qiA 100 1 (some ⟨M+1,0,none⟩) 2 2 (by omega) false qdk (by decide) h v 2 exC rfl (by omega) aU (ak.o _ aa.o) V.o.2.2.1;rw [qDq] at ah;obtain ⟨z,E⟩:=Fr.qEc V.o.2.1;have aj:=J9 (fun J ad ai=>qkZ qdk (by decide) h v 2 exC rfl (by omega) J ad ai);have ab:=J9 (fun J ad ai=>qj2 qdk (by decide) h v 2 exC rfl (by omega) J ad ai);rw [qzP] at aj;rw [qzN] at ab;have aN:=J9 V.o.2;clear am ag ax aL aI aB V
 go_wp2_with fail
 refine ah.mono ?_;rintro y av ⟨aP,aZ,rfl,G,e⟩;have aC:Hid (Fr.St av [Fr.blk M (.cells #[.string qdk,.slice h 2 v] 24 (0,0)),qaW h exC]):=Fr.St.up aN.o e;have an:=J9 (aa.o.trans (e.mono aa.o.size));have ar:=Fr.add aC (qC6 aP [102,105]) G.qEq;obtain ⟨a0,a2,aq,aG,ao,aD,aX⟩:=Fr.box ar #[.int .i64 102,.int .i64 105] 3;have ae:=J9 (an.o.trans (aD.mono an.o.size));have aw:=J9 (qb8 aP (some ⟨a0,0,none⟩) aZ 2 [102,105] (by decide) a2 ao.o.2.1 (by rw [<- aG,<- aq];exact qro av 102 105));have aK:=J9 ao.o.2.2;clear ah G e aN aC ar aD ao aa an aV aR aW z E aO aJ a1
 go_wp2_with fail
 refine aw.o.mono ?_;rintro y aA ⟨rfl,e⟩;have Z:=J9 (ae.o.trans (e.mono ae.o.size));have U:Hid (Fr.St aA [Fr.blk M (.cells #[.string qdk,.slice h 2 v] 24 (0,0)),qaW h exC]):=Fr.St.up aK.o e;obtain ⟨z,E⟩:=Fr.qEc U.o.1;have au:=aj.o aA (ak.o _ Z.o) U.o.2.1;clear aw e aK ae aG aq aX aj
 go_wp2_with fail
 refine au.mono ?_;rintro y aY ⟨rfl,e⟩;have O:=J9 (Z.o.trans (e.mono Z.o.size));have ac:=Fr.up U e;clear au e Z U z E;obtain ⟨z,E⟩:=Fr.qEc ac.o.1;have ay:=ab.o aY (ak.o _ O.o) ac.o.2.1;clear ab
 go_wp2_with fail
 refine ay.mono ?_;rintro y a7 ⟨rfl,e⟩;have aT:=J9 (O.o.trans (e.mono O.o.size));clear ay e O ac z E;go_wp2;go_ret;exact ⟨rfl,aT.o⟩
end Go.Proofs.YtjafbmfcedijmaaGreatDoor
