/-
  ShB, ShX.
-/
import Derived.Test.YtecpnfhpcamljaaGreatDoorKAP
set_option linter.all false
set_option maxRecDepth 100000
set_option maxHeartbeats 4000000
namespace Go.Proofs.YtecpnfhpcamljaaGreatDoor
open Tryz
open Go.RowKit Go.Shelf
theorem qql (d:UInt8):∀ (s t X Y:Str),d∉s->d∉t->(X=[]\/∃ x,X=d :: x)->(Y=[]\/∃ G,Y=d :: G)->s++X=t++Y->s=t/\X=Y
 | [],[],X,Y,_,_,_,_,c=>⟨rfl,c⟩
 | [],E :: t,X,Y,_,z,q,_,c=>by
  exfalso;rcases q with rfl | ⟨x,rfl⟩
  ·simp at c
  ·simp only [List.nil_append,Zn,Q3] at c
   exact z (by rw [c.1];exact QD)
 | E :: s,[],X,Y,h,_,_,k,c=>by
  exfalso;rcases k with rfl | ⟨G,rfl⟩
  ·simp at c
  ·simp only [List.nil_append,Zn,Q3] at c
   exact h (by rw [<- c.1];exact QD)
 | a :: s,E :: t,X,Y,h,z,q,k,c=>by
  simp only [Zn,Q3] at c;obtain ⟨K,J⟩:=qql d s t X Y (fun y=>h (QG _ y)) (fun y=>z (QG _ y)) q k c.2;exact ⟨by rw [c.1,K],J⟩
theorem qjG:∀ (F y:List Str),(∀ x∈F,(44:UInt8)∉x)->(∀ x∈y,(44:UInt8)∉x)->F≠[]->y≠[]->St.qAX F=St.qAX y->F=y
 | [],_,_,_,a,_,_=>absurd rfl a
 | _,[],_,_,_,a,_=>absurd rfl a
 | [x],[b],_,_,_,_,a=>by
  have q:x=b:=a;rw [q]
 | [x],b :: h :: s,hF,_,_,_,a=>by
  exfalso;have q:x=b++44 :: St.qAX (h :: s):=a;exact hF x QD (by rw [q];simp)
 | x :: h :: s,[b],_,t,_,_,a=>by
  exfalso;have q:x++44 :: St.qAX (h :: s)=b:=a;exact t b QD (by rw [<- q];simp)
 | x :: G :: E,b :: J :: s,hF,t,_,_,a=>by
  have q:x++44 :: St.qAX (G :: E)=b++44 :: St.qAX (J :: s):=a;obtain ⟨O,K⟩:=qql 44 x b _ _ (hF x QD) (t b QD) (.inr ⟨_,rfl⟩) (.inr ⟨_,rfl⟩) q;have M:=qjG (G :: E) (J :: s) (fun h z=>hF h (QG _ z)) (fun h z=>t h (QG _ z)) (by simp) (by simp) (List.cons.inj K).2;rw [O,M]
theorem qrK:(nmL 4).all (fun x=>x.data.toList.all fun c=>decide (65<=c.toNat))=true:=by decide +kernel
theorem qsZ:(nmL 5).all (fun x=>x.data.toList.all fun c=>decide (65<=c.toNat))=true:=by decide +kernel
theorem nm4_let (r:Int):∀ c∈(nmS 4 r).data.toList,65<=c.toNat:=by
 intro c h;have q:=QA.1 qrK _ (qkZ _ r c h);have y:=QA.1 q c h;exact Qo y
theorem qv2 (r:Int):∀ c∈(nmS 5 r).data.toList,65<=c.toNat:=by
 intro c h;have q:=QA.1 qsZ _ (qkZ _ r c h);have y:=QA.1 q c h;exact Qo y
theorem qrL (n:Int):∃ c q,(offS n).data.toList=c :: q/\c.toNat<65:=by
 by_cases h:n<0
 ·exact ⟨_,_,qbB n h,by decide⟩
 ·exact ⟨_,_,qcr n (by omega),by decide⟩
def Plain (k r n:Int):Prop:=
 (k=4/\(txtS k r n).data.toList=40 :: ((nmS 4 r).data.toList++[41]))\/
 (k=5/\(∃ h a,(nmS 5 r).data.toList=h :: a/\65<=h.toNat)/\(txtS k r n).data.toList=40 :: (((nmS 5 r).data.toList++(offS n).data.toList)++[41]))\/
 (k=6/\∃ c a,(txtS k r n).data.toList=c :: a/\45<=c.toNat/\c.toNat<65)\/
 (k=7/\∃ c a,(txtS k r n).data.toList=40 :: ((c :: a)++[41])/\c.toNat<65)\/
 (k=10/\∃ a,(txtS k r n).data.toList=36 :: a)
theorem qil {k r n:Int} (c:qaC k r n=true) (q:qpO k=false):Plain k r n:=by
 have t:=qa0 k r n c;rcases qdt k r n c with rfl | rfl | rfl | rfl | rfl | rfl | rfl | rfl | rfl | rfl
 ·cases q
 ·cases q
 ·cases q
 ·refine .inl ⟨rfl,?_⟩
  rw [t];exact qb7 _
 ·refine .inr (.inl ⟨rfl,?_,?_⟩)
  ·rw [qr2,Qd] at c
   have G:=qit r c.1;have z:(nmS 5 r).data.toList.length=2:=(by rw [<- G];simp);cases e:(nmS 5 r).data.toList with
   | nil=>rw [e] at z;cases z
   | cons E a=>exact ⟨E,a,rfl,qv2 r E (by rw [e];exact QD)⟩
  ·rw [t]
   show (brS (nmS 5 r++offS n)).data.toList=_;rw [qb7,qaa]
 ·refine .inr (.inr (.inl ⟨rfl,?_⟩))
  rw [qk2,Qd,Qd,Qf,Qf] at c;rw [t];show ∃ h a,(if n<0 then offS n else textS n).data.toList=h :: a/\_;split
  ·rename_i y
   exact ⟨_,_,qbB n y,by decide,by decide⟩
  ·rename_i y
   obtain ⟨h,a,e,J,K⟩:=qcn n (by omega) (by omega);exact ⟨h,a,e,by omega,by omega⟩
 ·refine .inr (.inr (.inr (.inl ⟨rfl,?_⟩)))
  rw [qvC,Qd,Qd,Qf,Qf] at c;obtain ⟨h,a,e,J,K⟩:=qcn n (by omega) (by omega);refine ⟨h,a,?_,by omega⟩;rw [t];show (brS (textS n)).data.toList=_;rw [qb7,e]
 ·cases q
 ·cases q
 ·refine .inr (.inr (.inr (.inr ⟨rfl,(offS (n+2)).data.toList,?_⟩)))
  rw [t];show (⟨#[36]⟩++offS (n+2)).data.toList=_;rw [qaa];rfl
theorem qg2 {k r n:Int} (h:Plain k r n):∃ c q,(txtS k r n).data.toList=c :: q/\(c.toNat:Int)<65:=by
 rcases h with ⟨-,h⟩ | ⟨-,-,h⟩ | ⟨-,c,q,h,-,t⟩ | ⟨-,c,q,h,-⟩ | ⟨-,q,h⟩
 ·exact ⟨_,_,h,by decide⟩
 ·exact ⟨_,_,h,by decide⟩
 ·exact ⟨c,q,h,by omega⟩
 ·exact ⟨_,_,h,by decide⟩
 ·exact ⟨_,_,h,by decide⟩
theorem no_36 {c:UInt8} (h:36=c) (k:40<=c.toNat):False:=by subst h;exact absurd k (by decide)
theorem no_40 {c:UInt8} (h:40=c) (k:45<=c.toNat):False:=by subst h;exact absurd k (by decide)
theorem qm8 {k r n y b E:Int} (W:Plain k r n) (aa:Plain y b E) (e:txtS k r n=txtS y b E):k=y:=by
 have K:(txtS k r n).data.toList=(txtS y b E).data.toList:=by rw [e]
 have T:∀ {r b n:Int} {z:Str},z=(nmS 5 b).data.toList++(offS n).data.toList->(∀ c∈z,65<=c.toNat)->False:=fun {r b n z} ae X=>by
  obtain ⟨c,J,Z,U⟩:=qrL n;have:=X c (by rw [ae,Z];simp);omega
 rcases W with ⟨rfl,q⟩ | ⟨rfl,⟨ag,ai,ab,am⟩,q⟩ | ⟨rfl,c,J,q,ac,ao⟩ | ⟨rfl,c,J,q,U⟩ | ⟨rfl,J,q⟩ <;>
  rcases aa with ⟨rfl,t⟩ | ⟨rfl,⟨af,an,ad,ah⟩,t⟩ | ⟨rfl,O,M,t,V,ak⟩ | ⟨rfl,O,M,t,aj⟩ | ⟨rfl,M,t⟩ <;>
  first | rfl | (exfalso;rw [q,t] at K;simp only [Q3] at K;obtain ⟨x,h⟩:=K;first | exact absurd x (by decide) | exact no_40 x V | exact no_40 x.symm ac | exact no_36 x (by omega) | exact no_36 x.symm (by omega) | exact T (r:=0) (List.append_cancel_right h) (nm4_let _) | exact T (r:=0) (List.append_cancel_right h).symm (nm4_let _) | (have a:=List.append_cancel_right h;have:=nm4_let r O (by rw [a];exact QD);omega) | (have a:=List.append_cancel_right h;have:=nm4_let b c (by rw [<- a];exact QD);omega) | (have a:=List.append_cancel_right h;rw [ab] at a;have G:=(List.cons.inj a).1;subst G;omega) | (have a:=List.append_cancel_right h;rw [ad] at a;have G:=(List.cons.inj a).1;subst G;omega))
theorem named_C:∀ h∈namedL ⟨#[67]⟩,h=(1,1,0)\/h=(8,3,0):=by decide +kernel
theorem qts {k r n c o l:Int} (K:qaC k r n=true) (t:qaC c o l=true) (e:txtS k r n=txtS c o l) :
  (k,r,n)=(c,o,l)\/(k=1/\c=8)\/(k=8/\c=1):=by
 cases U:qpO k with
 | false=>
  have Z:=qil K U;cases y:qpO c with
  | false=>
   obtain rfl:=qm8 Z (qil t y) e;obtain ⟨rfl,rfl⟩:=quH k r n o l K t e;exact .inl rfl
  | true=>
   exfalso;obtain ⟨M,V,T,O⟩:=qg2 Z;have q:=(qh7 c o l t).1;rw [<- e,qeS _ M V T O,y] at q;simp at q
 | true=>
  cases y:qpO c with
  | false=>
   exfalso;obtain ⟨M,V,T,O⟩:=qg2 (qil t y);have q:=(qh7 k r n K).1;rw [e,qeS _ M V T O,U] at q;simp at q
  | true=>
   obtain ⟨h,ab⟩:=qh7 k r n K;have p:=(qh7 c o l t).1;rw [U,Qf] at h;rw [y,Qf,<- e] at p;by_cases J:(k,r,n)=(c,o,l)
   ·exact .inl J
   ·right
    have E:1<(namedL (txtS k r n)).length:=by
     rcases Nat.lt_or_ge 1 (namedL (txtS k r n)).length with E | E
     ·exact E
     ·exfalso
      cases W:namedL (txtS k r n) with
      | nil=>rw [W] at h;cases h
      | cons ac aa=>
       rw [W,Qt] at E;obtain rfl:aa=[]:=Qw (by omega);rw [W] at h p;exact J ((QI.1 h).trans (QI.1 p).symm)
    rw [ab E] at h p;rcases named_C _ h with G | G <;> rcases named_C _ p with z | z
    ·exact absurd (G.trans z.symm) J
    ·exact .inl ⟨congrArg (·.1) G,congrArg (·.1) z⟩
    ·exact .inr ⟨congrArg (·.1) G,congrArg (·.1) z⟩
    ·exact absurd (G.trans z.symm) J
def condM (m:Str):Bool:=m == [74,80]||m == [74,82]||m == [67,65,76,76]||m == [82,69,84]
def okC (x:En):Bool:=x.2.1.all fun h=>(h.1 != 8||condM x.1)&&(h.1 != 1||!condM x.1)
def qAn (g n:Nat):Bool:=match qaX (g:Int) n with
 | some h=>okC h
 | none=>true
theorem qzL:∀ g:Fin 7,∀ h:Fin 256,qAn g.val h.val=true:=by decide +kernel
theorem qyv {g:Int} {n:Nat} (E:n<256) {x:En} (q:qaX g n=some x):okC x=true:=by
 by_cases z:0<=g/\g<=6
 ·obtain ⟨y,rfl⟩:∃ y:Nat,g=(y:Int):=⟨g.toNat,by omega⟩
  have h:=qzL ⟨y,by omega⟩ ⟨n,E⟩;unfold qAn at h;rw [q] at h;exact h
 ·rw [qeQ z] at q
  cases q
theorem qmL {s:ByteArray} {L:List Tr} (E:qcG s L=true):∀ t∈canL (opc s) L,(t.1=8->condM (sT s)=true)/\(t.1=1->condM (sT s)=false):=by
 intro t J;obtain ⟨-,W,V,-,-,K,q,T,-,k⟩:=(qem s L).1 E;have ok:=qyv K T;unfold qa9 qfg at k;simp only [Qd,Qf] at k;obtain ⟨⟨M,G⟩,-⟩:=k;have y:q.1=sT s:=by rw [<- M];exact (qwW _).symm
 have z:ks2 t∈q.2.1.map ks2:=by rw [G];exact List.mem_map_of_mem J
 obtain ⟨u,O,x⟩:=Zq.1 z;have U:u.1=t.1:=congrArg (fun e:Int×Int=>e.1) x;unfold okC at ok;have h:=QA.1 ok u O;rw [U,y] at h;simp only [Qd,Zv,bne_iff_ne,ne_eq,Bool.not_eq_true'] at h;exact ⟨fun n=>h.1.resolve_left fun e=>e n,fun n=>h.2.resolve_left fun e=>e n⟩
theorem qiI:∀ (C D:List Tr),(∀ t∈C,vT t=true)->(∀ t∈D,vT t=true)->(∀ t∈C,∀ u∈D,¬(t.1=1/\u.1=8)/\¬(t.1=8/\u.1=1))->formsL C=formsL D->C=D
 | [],[],_,_,_,_=>rfl
 | [],_ :: _,_,_,_,x=>by cases x
 | _ :: _,[],_,_,_,x=>by cases x
 | t :: C,u :: D,J,G,E,x=>by
  have M:(qaZ t).data.toList :: formsL C=(qaZ u).data.toList :: formsL D:=x;obtain ⟨Z,O⟩:=List.cons.inj M;have T:=qiI C D (fun q y=>J q (QG _ y)) (fun q y=>G q (QG _ y)) (fun q y K V=>E q (QG _ y) K (QG _ V)) O;have U:txtS t.1 t.2.1 t.2.2=txtS u.1 u.2.1 u.2.2:=qdh Z;have z:=E t QD u QD;rcases qts (J t QD) (G u QD) U with h | h | h
  ·have W:t=u:=h
   rw [W,T]
  ·exact absurd h z.1
  ·exact absurd h z.2
theorem qrI {s t:ByteArray} {L J:List Tr} (D:qcG s L=true) (k:qcG t J=true) (e:showB s L=showB t J):sT s=sT t/\canL (opc s) L=canL (opc t) J:=by
 obtain ⟨ai,an,Z⟩:=qb5 D;obtain ⟨af,ao,W⟩:=qb5 k;have K:=qmL D;have M:=qmL k;have ah:(32:UInt8)∉s.data.toList:=fun h=>absurd ((qeq ai).2 _ h) (by decide)
 have ag:(32:UInt8)∉t.data.toList:=fun h=>absurd ((qeq af).2 _ h) (by decide)
 unfold showB at e;rw [Qi D,Qi k] at e;obtain ⟨f,am⟩:=N9 (canL (opc s) L);obtain ⟨E,aj⟩:=N9 (canL (opc t) J);rw [am] at e Z K |-;rw [aj] at e W M |-;have ab:∀ (s:ByteArray) (f:List Tr),(if f=[] then s.data.toList else s.data.toList++32 :: (olistS f).data.toList)=s.data.toList++(if f=[] then [] else 32 :: (olistS f).data.toList):=fun s f=>by split <;> simp
 rw [ab,ab] at e;obtain ⟨ae,x⟩:=qql 32 _ _ _ _ ah ag (by split;exact .inl rfl;exact .inr ⟨_,rfl⟩) (by split;exact .inl rfl;exact .inr ⟨_,rfl⟩) e;refine ⟨ae,?_⟩;have ac:sT s=sT t:=ae;by_cases C:f=[]
 ·by_cases q:E=[]
  ·rw [C,q]
  ·rw [Qi C,Qe q] at x;cases x
 ·by_cases q:E=[]
  ·rw [Qe C,Qi q] at x;cases x
  ·rw [Qe C,Qe q] at x
   have O:=(List.cons.inj x).2;unfold olistS at O;rw [St.qA1,St.qA1] at O;have V:∀ f:List Tr,∀ z∈formsL f,(44:UInt8)∉z:=fun f z G h=>by
    unfold formsL at G;obtain ⟨t,-,rfl⟩:=Zq.1 G;exact (qqz _ _ _ _ h).2 rfl
   have ad:∀ f:List Tr,f≠[]->formsL f≠[]:=(fun f D h=>D (Qw (by rw [<- qb1,h];rfl)));have ak:=qjG _ _ (V f) (V E) (ad f C) (ad E q) O;refine qiI f E Z W (fun z G U aa=>⟨fun h=>?_,fun h=>?_⟩) ak
   ·have y:=(K z G).2 h.1
    have T:=(M U aa).1 h.2;rw [ac,T] at y;cases y
   ·have y:=(K z G).1 h.1
    have T:=(M U aa).2 h.2;rw [ac,T] at y;cases y
theorem qrY {s t:ByteArray} {L e:List Tr} (z:qcG s L=true) (k:qcG t e=true):decide (showB s L=showB t e)=(decide (sT s=sT t)&&decide (canL (opc s) L=canL (opc t) e)):=by
 by_cases h:showB s L=showB t e
 ·obtain ⟨q,y⟩:=qrI z k h
  rw [Qn h,Qn q,Qn y];rfl
 ·rw [Qh h]
  symm
  rw [Bool.and_eq_false_iff,decide_eq_false_iff_not,decide_eq_false_iff_not];by_cases q:sT s=sT t
  ·right
   intro y;apply h;have E:s=t:=qdh q;subst E;unfold showB;rw [Qi z,Qi k,y]
  ·exact .inl q
end Go.Proofs.YtecpnfhpcamljaaGreatDoor
namespace Go.Proofs.YtecpnfhpcamljaaGreatDoor
open Tryz
open Go.RowKit Go.Shelf
attribute [local go_sem] Oper.semAt_some
attribute [local irreducible] Go.Mixed.qAU
def qAG (s:ByteArray) (I:List Tr) (c:Int):Prop:=(c=0/\qcG s I=true)\/(c≠0/\qcG s I=false)
theorem qf4 (q:ByteArray) (A1:Option Addr) (E:Nat) (v:List Tr) (w:World) (y:Nat) (K:v.length=y) (W:q.size<=100) (aa:y<=20) (T:qad w) (J:qai w A1 v) :
  Hid (∀ h,Below w.heap.size w h->Calls prog 14 #[.agg #[.string q,.slice A1 y E]] h fun e w'=>∃ (g o:Int) (m:Str) (A:Option Addr) (l cap:Nat) (ex:Str) (al:Bool) (c:Int),e=.returned (.tuple #[enV g o m (.slice A l cap) ex al,.int .i64 c])/\Below h.heap.size h w'/\qAG q v c)/\
  Hid (∀ h,Below w.heap.size w h->Calls prog 11 #[.agg #[.string q,.slice A1 y E]] h fun e w'=>e=.returned (.string (sB (showB q v)))/\Below h.heap.size h w')/\
  Hid (∀ h,Below w.heap.size w h->Calls prog 16 #[.agg #[.string q,.slice A1 y E]] h fun e w'=>∃ A c,e=.returned (.agg #[.string q,.slice A (canL (opc q) v).length c])/\qai w' A (canL (opc q) v)/\Below h.heap.size h w'):=by
 refine ⟨fun h z=>(qgB q (by omega) A1 E y v K (by omega) h (J.below z)).mono ?_,fun h z=>qct q (by omega) A1 E y v K (by omega) h (T.below z) (J.below z),fun h z=>?_⟩
 ·rintro e w' ⟨g,o,m,A,l,cap,ex,al,c,rfl,G,U⟩
  exact ⟨g,o,m,A,l,cap,ex,al,c,rfl,G,qmB U⟩
 ·have M:=qiq q A1 E v (by omega) h (J.below z)
  rw [K] at M;refine M.mono ?_;rintro e w' ⟨Z,rfl,V,G⟩;obtain ⟨A,c,rfl,O,-,-⟩:=V.ops;exact ⟨A,c,rfl,O,G⟩
theorem qt1 (s:ByteArray):sB (sT s)=s:=by unfold sB sT;simp
theorem qxU (k:ByteArray) (A1:Option Addr) (ai:Nat) (o:List Tr) (s2:ByteArray) (M:Option Addr) (c2:Nat) (y:List Tr) (w:World) (a0:qai w A1 o) (a1:qai w M y) (aC:qad w) :
  Calls prog 4 #[.agg #[.string k,.slice A1 o.length ai],.agg #[.string s2,.slice M y.length c2]] w fun g m=>g=.returned (.bool true)/\Below w.heap.size w m:=by
 obtain ⟨aj,aQ⟩:=N9 (o.length);obtain ⟨ag,aN⟩:=N9 (y.length);rw [aQ,aN];obtain ⟨U,ch,bv,co,aY,W,cg⟩:=Fr.box (Fr.nil w) #[.string k,.slice A1 aj ai] 24;obtain ⟨ca,q,cz,cn,aU,ac,ck⟩:=Fr.box aY #[.string s2,.slice M ag c2] 24;obtain rfl:ca=U+1:=by omega
 have bt:=J9 (W.trans (ac.mono W.size));have aI:=J9 (fun m=>qdK k A1 ai aj m);have aG:=J9 (fun m=>qdK s2 M c2 ag m);obtain ⟨b4,ay⟩:=N9 ((decide (k.size<=100)&&decide (aj<=20)));obtain ⟨b0,ax⟩:=N9 ((decide (s2.size<=100)&&decide (ag<=20)));rw [ay] at aI;rw [ax] at aG;have ae:Hid (∀ m,Below q.heap.size q m->Calls prog 10 #[] m fun g cd=>g=.returned (.bool true)/\Below m.heap.size m cd):=fun m h=>qbw m (((aC.below W).below ac).below h)
 have ce:=J9 aU.o.2.1;have b8:=J9 aU.o.1;have K:Hid (∀ e,Below q.heap.size q e->(e.cell? ⟨U,0,none⟩=some (.string k)/\e.cell? ⟨U,1,none⟩=some (.slice A1 aj ai))/\(e.cell? ⟨U+1,0,none⟩=some (.string s2)/\e.cell? ⟨U+1,1,none⟩=some (.slice M ag c2))):=fun e c=>
  ⟨Fr.qBb ((c.block U (by omega)).trans ce.o),Fr.qBb ((c.block (U+1) (by omega)).trans b8.o)⟩
 have T:Hid (∀ e,Below q.heap.size q e->Below w.heap.size w e):=fun e c=>bt.o.trans (c.mono bt.o.size)
 have am:Hid (∀ e,Below q.heap.size q e->Calls prog 10 #[] e fun g m=>g=.returned (.bool true)/\Below w.heap.size w m):=fun e c=>(ae.o e c).mono fun g m h=>⟨h.1,T.o m (c.trans (h.2.mono c.size))⟩
 obtain ⟨⟨A,z⟩,E,J⟩:=K.o q (Qc _ _);have aE:=aI.o q;cases b4 with
 | false=>
  clear a0 a1 aC aQ aN ay ax aY aU W ac K aI aG ae T
  go_enter func4,ntmps4
  go_wp2_with fail
  refine aE.mono ?_;rintro g aq ⟨rfl,c⟩;have M:=am.o aq c;clear aE c A z E J am
  go_wp2_with fail
  refine M.mono ?_;rintro g aS ⟨rfl,c⟩;have bg:=J9 c;clear M c;go_wp2;go_ret;exact ⟨rfl,bg.o⟩
 | true=>
  cases b0 with
  | false=>
   clear a0 a1 aC aQ aN ay ax aY aU W ac aI ae T
   go_enter func4,ntmps4
   go_wp2_with fail
   refine aE.mono ?_;rintro g aq ⟨rfl,c⟩;have al:=J9 c;have aT:=aG.o aq;clear aE c A z E J aG;obtain ⟨⟨A,z⟩,E,J⟩:=K.o aq al.o
   go_wp2_with fail
   refine aT.mono ?_;rintro g aS ⟨rfl,c⟩;have M:=am.o aS (al.o.trans (c.mono al.o.size));clear aT c A z E J am K
   go_wp2_with fail
   refine M.mono ?_;rintro g bB ⟨rfl,c⟩;have bg:=J9 c;clear M c;go_wp2;go_ret;exact ⟨rfl,bg.o⟩
  | true=>
   simp only [Qd,Qf] at ay ax;obtain ⟨bH,I1,aD⟩:=qf4 k A1 ai o q aj aQ ay.1 ay.2 ((aC.below W).below ac) ((a0.below W).below ac);obtain ⟨bp,I2,aF⟩:=qf4 s2 M c2 y q ag aN ax.1 ax.2 ((aC.below W).below ac) ((a1.below W).below ac);have az:Hid (qcG k o=false->sB (showB k o)=⟨#[]⟩):=qqg;have ao:Hid (qcG s2 y=false->sB (showB s2 y)=⟨#[]⟩):=qqg;have bS:(canL (opc k) o).length<=1000:=(by have:=qeA (opc k) o;omega);have bV:(canL (opc s2) y).length<=1000:=(by have:=qeA (opc s2) y;omega);have ab:Hid (qcG k o=true->qcG s2 y=true->decide (showB k o=showB s2 y)=(decide (sT k=sT s2)&&decide (canL (opc k) o=canL (opc s2) y))):=qrY;have aB:Hid (∀ e ah av ad au,qai e ah (canL (opc k) o)->qai e ad (canL (opc s2) y)->Calls prog 15 #[.agg #[.string k,.slice ah (canL (opc k) o).length av],.agg #[.string s2,.slice ad (canL (opc s2) y).length au]] e fun g m=>g=.returned (.bool (decide (sT k=sT s2)&&decide (canL (opc k) o=canL (opc s2) y)))/\Below e.heap.size e m):=fun e ah av ad au bf bo=>by
    have h:=qpC (sT k) (sT s2) ah ad av au _ _ bS bV e bf bo;rw [qt1,qt1] at h;exact h
   have af:Hid (∀ ak,decide (showB k o=showB s2 y)=ak->((sB (showB k o)).toList == (sB (showB s2 y)).toList)=ak):=fun ak h=>by
    rw [<- h,QO,QO];show (showB k o == showB s2 y)=_;by_cases g:showB k o=showB s2 y
    ·rw [g];simp
    ·rw [Qh g];simpa using g
   obtain ⟨bs,bT⟩:=N9 (canL (opc k) o);obtain ⟨bK,bu⟩:=N9 (canL (opc s2) y);obtain ⟨bR,bL⟩:=N9 (showB k o);obtain ⟨bF,bD⟩:=N9 (showB s2 y);rw [bL] at I1 az ab af;rw [bD] at I2 ao ab af;rw [bT] at aD ab aB;rw [bu] at aF ab aB;obtain ⟨cv,bI⟩:=N9 (sB bR);obtain ⟨cj,bq⟩:=N9 (sB bF);rw [bI] at I1 az af;rw [bq] at I2 ao af;have aT:=J9 (fun m=>aG.o m);clear a0 a1 aC aQ aN ay ax aY aU W ac aI aG bT bu bL bD bI bq bS bV
   go_enter func4,ntmps4
   go_wp2_with fail
   refine aE.mono ?_;rintro g aq ⟨rfl,c⟩;have al:=J9 c;have bx:=aT.o aq;clear aE c A z E J aT;obtain ⟨⟨A,z⟩,E,J⟩:=K.o aq al.o
   go_wp2_with fail
   refine bx.mono ?_;rintro g aS ⟨rfl,c⟩;have aV:=J9 (al.o.trans (c.mono al.o.size));have bw:=bH.o aS aV.o;clear bx c A z E J bH al;obtain ⟨⟨A,z⟩,E,J⟩:=K.o aS aV.o
   go_wp2_with fail
   refine bw.mono ?_;rintro g bB ⟨bj,a5,a8,bd,a6,a4,bh,bc,cr,rfl,c,ap⟩;have ap:=J9 ap;have bb:=J9 (aV.o.trans (c.mono aV.o.size));obtain ⟨cq,bO,cu,cx,b1,bQ,ci⟩:=Fr.box (Fr.nil bB) #[.int .i64 bj,.int .u8 a5,.string (sB a8),.slice bd a6 a4,.string (sB bh),.bool bc] 30;have aM:=J9 (bb.o.trans (bQ.mono bb.o.size));have bM:=bp.o bO aM.o;simp only [enV];clear bw c A z E J aV bb b1 bQ bp;obtain ⟨⟨A,z⟩,E,J⟩:=K.o bO aM.o
   go_wp2_with fail
   refine bM.mono ?_;rintro g cb ⟨bj,a5,a8,bd,a6,a4,bh,bc,cl,rfl,c,an⟩;have an:=J9 an;have bn:=J9 (aM.o.trans (c.mono aM.o.size));obtain ⟨cp,aW,cy,cw,bX,bC,cm⟩:=Fr.box (Fr.nil cb) #[.int .i64 bj,.int .u8 a5,.string (sB a8),.slice bd a6 a4,.string (sB bh),.bool bc] 30;have aa:=J9 (bn.o.trans (bC.mono bn.o.size));simp only [enV];clear bM c A z E J aM bn bX bC;have ar:=J9 (ae.o aW aa.o);rcases ap.o with ⟨rfl,aw⟩ | ⟨ct,aw⟩
   ·rcases an.o with ⟨rfl,c⟩ | ⟨bv,c⟩
    ·-- both are legal
     have bl:=J9 (ab.o aw c);obtain ⟨ak,a3⟩:=N9 (decide (bR=bF));have bY:=af.o ak a3;rw [a3] at bl;have bN:Hid (∀ e ah av ad au,qai e ah bs->qai e ad bK->Calls prog 15 #[.agg #[.string k,.slice ah bs.length av],.agg #[.string s2,.slice ad bK.length au]] e fun g m=>g=.returned (.bool ak)/\Below e.heap.size e m):=fun e ah av ad au bf bo=>by
      have h:=aB.o e ah av ad au bf bo;rw [<- bl.o] at h;exact h
     clear ap an aw c az ao ab af aB bl a3 am
     go_upto_region 7 with fail
     obtain ⟨O,aX⟩:=N9 (aW.drew);have br:Below aW.heap.size aW O:=(by rw [<- aX];exact below_drewN aW _ 1);have G:=J9 (aa.o.trans (br.mono aa.o.size));refine Mixed.qAQ (fun e=>Below q.heap.size q e) 14 [(0,false),(1,true),(2,true),(4,true),(7,true),(9,true),(3,false),(5,false),(6,true),(8,false),(10,false),(11,false),(12,true),(13,true)] (by kernel_rfl) (by kernel_rfl) (by rw [aX];exact G.o) ?_;rw [aX];refine Mixed.qAR rfl (by kernel_rfl) ?_;have V:=J9 (ae.o O G.o);clear aX br ar ae aa
     go_wp2_with fail
     refine V.o.mono ?_;rintro g aA ⟨rfl,c⟩;have Z:=J9 (G.o.trans (c.mono G.o.size));clear V c G;go_wp2;refine ⟨Z.o,?_⟩;refine Mixed.mp rfl (.bool true) ?_;have a7:Hid (∀ e,Below q.heap.size q e->e.cell? ⟨U,0,none⟩=some (.string k)/\e.cell? ⟨U,1,none⟩=some (.slice A1 aj ai)):=(fun e h=>(K.o e h).1);have a9:Hid (∀ e,Below q.heap.size q e->e.cell? ⟨U+1,0,none⟩=some (.string s2)/\e.cell? ⟨U+1,1,none⟩=some (.slice M ag c2)):=(fun e h=>(K.o e h).2);refine Mixed.mo rfl (.agg #[.string k,.slice A1 aj ai]) (fun w h=>by obtain ⟨a2,bi⟩:=a7.o w h;clear h;go_simp;try rfl) ?_;refine Mixed.mo rfl (.agg #[.string s2,.slice M ag c2]) (fun w h=>by obtain ⟨a2,bi⟩:=a9.o w h;clear h;go_simp;try rfl) ?_;refine Mixed.mo rfl (.agg #[.string k,.slice A1 aj ai]) (fun w h=>by obtain ⟨a2,bi⟩:=a7.o w h;clear h;go_simp;try rfl) ?_;refine Mixed.mo rfl (.agg #[.string s2,.slice M ag c2]) (fun w h=>by obtain ⟨a2,bi⟩:=a9.o w h;clear h;go_simp;try rfl) ?_;refine Mixed.qAR rfl (by kernel_rfl) ?_;have aO:=J9 (I1.o aA Z.o);clear I1 K a7 a9
     go_wp2_with fail
     refine aO.o.mono ?_;rintro g bm ⟨rfl,c⟩;have aP:=J9 (Z.o.trans (c.mono Z.o.size));clear aO c Z;go_wp2;refine ⟨aP.o,?_⟩;refine Mixed.qAR rfl (by kernel_rfl) ?_;have bA:=J9 (I2.o bm aP.o);clear I2
     go_wp2_with fail
     refine bA.o.mono ?_;rintro g cf ⟨rfl,c⟩;have aJ:=J9 (aP.o.trans (c.mono aP.o.size));clear bA c aP;go_wp2;refine ⟨aJ.o,?_⟩;refine Mixed.mo rfl (.bool ak) (fun w h=>by clear h;go_simp;try rfl) ?_;refine Mixed.qAR rfl (by kernel_rfl) ?_;have bJ:=J9 (aD.o cf aJ.o);clear aD
     go_wp2_with fail
     refine bJ.o.mono ?_;rintro g b2 ⟨b7,b9,rfl,aH,c⟩;have aR:=J9 (aJ.o.trans (c.mono aJ.o.size));have bE:=J9 aH;clear bJ c aJ aH;go_wp2;refine ⟨aR.o,?_⟩;refine Mixed.qAR rfl (by kernel_rfl) ?_;have bG:=J9 (aF.o b2 aR.o);clear aF
     go_wp2_with fail
     refine bG.o.mono ?_;rintro g cc ⟨b6,b5,rfl,aH,c⟩;have aZ:=J9 (aR.o.trans (c.mono aR.o.size));have bU:=J9 (bN.o cc b7 b9 b6 b5 (bE.o.below c) aH);clear bG c aR aH bE bN;go_wp2;refine ⟨aZ.o,?_⟩;refine Mixed.qAR rfl (by kernel_rfl) ?_
     go_wp2_with fail
     refine bU.o.mono ?_;rintro g b3 ⟨rfl,c⟩;have be:=J9 (aZ.o.trans (c.mono aZ.o.size));have bW:=J9 (T.o b3 be.o);clear bU c aZ T;go_wp2;refine ⟨be.o,?_⟩;refine Mixed.mo rfl (.bool true) (fun w h=>by clear h;go_simp;try (cases ak <;> rfl)) ?_;refine Mixed.mp rfl (.bool true) ?_;simp only [Mixed.qAU,Qr,Qx];clear be bY;go_wp2;go_ret;exact ⟨rfl,bW.o⟩
    ·have aK:=ao.o c
     have bZ:=qAZ (⟨#[]⟩:ByteArray);rw [aK] at I2;have bP:Hid (∀ e,Below q.heap.size q e->Calls prog 11 #[.agg #[.string s2,.slice M ag c2]] e fun g m=>g=.returned (.string ⟨#[]⟩)/\Below w.heap.size w m):=(fun e h=>(I2.o e h).mono fun g m bz=>⟨bz.1,T.o m (h.trans (bz.2.mono h.size))⟩);clear ap an aw c az ao ab af aB am I1 I2 aD aF aK T ae
     go_wp2_with fail
     refine ar.o.mono ?_;rintro g O ⟨rfl,c⟩;have G:=J9 (aa.o.trans (c.mono aa.o.size));have V:=J9 (bP.o O G.o);obtain ⟨⟨A,z⟩,E,J⟩:=K.o O G.o;clear ar c bP K
     go_wp2_with fail
     refine V.o.mono ?_;rintro g aA ⟨rfl,c⟩;have aL:=J9 c;clear V c A z E J;go_wp2;go_ret;exact ⟨rfl,aL.o⟩
   ·have bk:=az.o aw
    have bZ:=qAZ (⟨#[]⟩:ByteArray);rw [bk] at I1;rcases an.o with ⟨rfl,c⟩ | ⟨bv,c⟩
    ·clear ap an aw c az ao ab af aB am I2 aD aF bk ae
     go_wp2_with fail
     refine ar.o.mono ?_;rintro g O ⟨rfl,c⟩;have G:=J9 (aa.o.trans (c.mono aa.o.size));have V:=J9 (I1.o O G.o);obtain ⟨⟨A,z⟩,E,J⟩:=K.o O G.o;clear ar c I1 K
     go_wp2_with fail
     refine V.o.mono ?_;rintro g aA ⟨rfl,c⟩;have aL:=J9 (T.o aA (G.o.trans (c.mono G.o.size)));clear V c A z E J T;go_wp2;go_ret;exact ⟨rfl,aL.o⟩
    ·have aK:=ao.o c
     rw [aK] at I2;clear ap an aw c az ao ab af aB am aD aF bk aK ae
     go_wp2_with fail
     refine ar.o.mono ?_;rintro g O ⟨rfl,c⟩;have G:=J9 (aa.o.trans (c.mono aa.o.size));have V:=J9 (I1.o O G.o);obtain ⟨⟨A,z⟩,E,J⟩:=K.o O G.o;clear ar c I1
     go_wp2_with fail
     refine V.o.mono ?_;rintro g aA ⟨rfl,c⟩;have Z:=J9 (G.o.trans (c.mono G.o.size));have aO:=J9 (I2.o aA Z.o);clear V c A z E J G;obtain ⟨⟨A,z⟩,E,J⟩:=K.o aA Z.o
     go_wp2_with fail
     refine aO.o.mono ?_;rintro g bm ⟨rfl,c⟩;have aL:=J9 (T.o bm (Z.o.trans (c.mono Z.o.size)));clear aO c A z E J T;go_wp2;go_ret;exact ⟨rfl,aL.o⟩
end Go.Proofs.YtecpnfhpcamljaaGreatDoor
