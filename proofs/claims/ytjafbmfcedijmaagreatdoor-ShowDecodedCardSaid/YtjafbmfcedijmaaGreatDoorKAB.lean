/-
  TbHqRSK, TbIqRSK, TbJqRSK, TbKqRSK, TbLqRSK, TbMqRSK, TbNqRSK, TbOqRSK, TbPqRSK.
-/
import Derived.Test.YtjafbmfcedijmaaGreatDoorKAA
import Derived.Deep.DeepCutAuto
set_option linter.all false
set_option maxRecDepth 100000
set_option maxHeartbeats 4000000
namespace Go.Proofs.YtjafbmfcedijmaaGreatDoor
open Tryz
open Go.RowKit Go.Shelf
attribute [local irreducible] Go.Mixed.qD8
theorem qps (p:Pat) (e:Int) {y:Int} {F:FuncId} (h:(y,F)∈([(114,316),(115,316),(112,317),(113,318),(99,319),(107,319),(98,320),(116,321)]:List (Int×FuncId))) (w:World):Calls prog 308 #[qai p e,.int .u8 y] w fun z E=>z=.returned (.func (.func F) #[qai p e] #[])/\Below w.heap.size w E:=by
 simp only [QI,Q8,or_false,Zq] at h;unfold qai;rcases h with ⟨rfl,rfl⟩ | ⟨rfl,rfl⟩ | ⟨rfl,rfl⟩ | ⟨rfl,rfl⟩ | ⟨rfl,rfl⟩ | ⟨rfl,rfl⟩ | ⟨rfl,rfl⟩ | ⟨rfl,rfl⟩
 all_goals
  go_enter func308,ntmps308
  go_wp2;go_ret;exact ⟨rfl,B0⟩
theorem qsW (p:Pat) (z:Int) {h:Int} (e:h∈([65,68,72,83,40,73,82,48,49,50]:List Int)) (w:World):Calls prog 308 #[qai p z,.int .u8 h] w fun y E=>y=.returned .nilFunc/\Below w.heap.size w E:=by
 unfold qai;simp only [QI,Q8,or_false] at e;rcases e with rfl | rfl | rfl | rfl | rfl | rfl | rfl | rfl | rfl | rfl
 all_goals
  go_enter func308,ntmps308
  go_wp2;go_ret;exact ⟨rfl,B0⟩
theorem operand_nil (p:Pat) (y:Int) (s:ByteArray) (ah:Int) (x:Tr) (aN:(s.toList == [101])=false) (aI:(s.toList == [110])=false) (aK:(s.toList == [119])=false) (aL:(s.toList == [40,110,41])=false) (aM:(s.toList == [40,119,41])=false) (aG:∀ w,(Instr.index 9 (.string s) (.int .i64 0)).run prog w=.ok (.int .u8 ah) w) (ae:ah∈([65,68,72,83,40,73,82,48,49,50]:List Int)) (U:∀ w,Calls prog 309 #[.string s] w (qcg w x)) (w:World):Calls prog 291 #[qai p y,.string s] w
  fun G aF=>G=.returned (.tuple #[trV x,.string ⟨#[]⟩])/\Below w.heap.size w aF:=by
 have aa:=J9 fun w=>qsW p y ae w
 have au:=J9 U;clear ae U;obtain ⟨aj,ad,M⟩:=x;unfold qai at aa;unfold qai;obtain ⟨am,ar,b,B0,K,c⟩:=qaN w p y;obtain ⟨a,an⟩:=N9 (w.heap.size);rw [an] at b B0 K c;have aq:=C9 c 0;have av:=C9 c 1;have ay:=C9 c 2;obtain ⟨ac,ap,O,ag⟩:=b.cells;have b:=J9 b;have B0:=J9 B0;have az:=J9 an
 go_enter func291,ntmps291
 go_wp2
 go_still_tail 3,(by kernel_rfl)
 change wpList _ _ _ _ _ am.drew;obtain ⟨n,e⟩:=N9 (am.drew);have ao:Hid (qaL n (a+1)):=by rw [<- e];exact b.o
 have ab:Hid (Below a w n):=by rw [<- e];exact B0.o.drew
 have aB:n.heap.size=a+2:=by rw [<- e];exact K
 rw [e];clear b B0 c ar e K ac ap O ag aq av ay
 go_wp2_with fail
 refine (aa.o n).mono ?_;rintro G J ⟨rfl,h⟩;have V:Hid (qaL J (a+1)):=ao.o.below h;have af:=J9 (ab.o.trans (h.mono (by omega)));have ak:Hid (a+2<=J.heap.size):=by have:=h.size;show _<=_;omega
 clear h ao ab aB;have aH:∀ w,(binOp .neq 354 .nilFunc .nilFunc).run prog w=.ok (.bool false) w:=fun _=>by kernel_rfl
 go_wp2_with fail
 refine (au.o J).mono ?_;rintro G Z ⟨rfl,z⟩;have ai:Hid (qaL Z (a+1)):=V.o.below z;have aC:Hid (Below a w Z):=af.o.trans (z.mono (by have:=ak.o;omega));clear z V af ak;simp only [trV];obtain ⟨ac,ap,O,ag⟩:=ai.o.cells;go_wp2;obtain ⟨aJ,aE,E,aA,-⟩:=qaU ai.o aj ad M;rw [aE];have ax:=C9 E 0;have aw:=C9 E 1;have aD:=C9 E 2;refine bodyPost_ret (v:=.tuple #[trV (aj,ad,M),.string ⟨#[]⟩]) ?_ rfl ?_
 ·simp [results,results291,go_sem,ax,aw,aD,trV]
 ·exact ⟨rfl,by rw [az.o];exact aC.o.trans (aA.mono (by omega))⟩
theorem qaS (p:Pat) (c:Int) (s:ByteArray) (G:Int) (x:Tr) (aO:(s.toList == [101])=false) (aJ:(s.toList == [110])=false) (aL:(s.toList == [119])=false) (aM:(s.toList == [40,110,41])=false) (aN:(s.toList == [40,119,41])=false) (aG:∀ w,(Instr.index 9 (.string s) (.int .i64 0)).run prog w=.ok (.int .u8 G) w) (F:FuncId) (aH:∀ args w,(callFunc F args).run prog w=.ok (.enter F args) w) (ag:(G,F)∈([(114,316),(115,316),(112,317),(113,318),(99,319),(107,319),(98,320),(116,321)]:List (Int×FuncId))) (V:∀ w,Calls prog F #[qai p c,.int .u8 G] w (qcg w x)) (w:World):Calls prog 291 #[qai p c,.string s] w
  fun J aF=>J=.returned (.tuple #[trV x,.string ⟨#[]⟩])/\Below w.heap.size w aF:=by
 have ab:=J9 fun w=>qps p c ag w
 have ac:=J9 V;clear ag V;obtain ⟨ak,af,O⟩:=x;unfold qai at ab ac;unfold qai;obtain ⟨an,au,b,B0,M,e⟩:=qaN w p c;obtain ⟨a,ao⟩:=N9 (w.heap.size);rw [ao] at b B0 M e;have ar:=C9 e 0;have av:=C9 e 1;have ay:=C9 e 2;obtain ⟨ae,aq,U,ai⟩:=b.cells;have b:=J9 b;have B0:=J9 B0;have az:=J9 ao
 go_enter func291,ntmps291
 go_wp2
 go_still_tail 3,(by kernel_rfl)
 change wpList _ _ _ _ _ an.drew;obtain ⟨y,h⟩:=N9 (an.drew);have ap:Hid (qaL y (a+1)):=by rw [<- h];exact b.o
 have ad:Hid (Below a w y):=by rw [<- h];exact B0.o.drew
 have aB:y.heap.size=a+2:=by rw [<- h];exact M
 rw [h];clear b B0 e au h M ae aq U ai ar av ay
 go_wp2_with fail
 refine (ab.o y).mono ?_;rintro J K ⟨rfl,n⟩;have Z:Hid (qaL K (a+1)):=ap.o.below n;have ah:=J9 (ad.o.trans (n.mono (by omega)));have am:Hid (a+2<=K.heap.size):=by have:=n.size;show _<=_;omega
 clear n ap ad aB;have aI:∀ w,(binOp .neq 354 (.func (.func F) #[.agg #[.string (sB p.1),.string (sB p.2),.int .u8 c]] #[]) .nilFunc).run prog w=.ok (.bool true) w:=fun _=>by kernel_rfl
 go_wp2_with fail
 refine (ac.o K).mono ?_;rintro J aa ⟨rfl,z⟩;have aj:Hid (qaL aa (a+1)):=Z.o.below z;have aC:Hid (Below a w aa):=ah.o.trans (z.mono (by have:=am.o;omega));clear z Z ah am;simp only [trV];obtain ⟨ae,aq,U,ai⟩:=aj.o.cells;go_wp2;obtain ⟨aK,aE,E,aA,-⟩:=qaU aj.o ak af O;rw [aE];have ax:=C9 E 0;have aw:=C9 E 1;have aD:=C9 E 2;refine bodyPost_ret (v:=.tuple #[trV (ak,af,O),.string ⟨#[]⟩]) ?_ rfl ?_
 ·simp [results,results291,go_sem,ax,aw,aD,trV]
 ·exact ⟨rfl,by rw [az.o];exact aC.o.trans (aA.mono (by omega))⟩
theorem qru (p:Pat) (y:Int) (w:World):Calls prog 291 #[qai p y,.string ⟨#[101]⟩] w
  fun M V=>M=.returned (.tuple #[trV (10,0,0),.string ⟨#[101]⟩])/\Below w.heap.size w V:=by
 unfold qai;obtain ⟨ai,ac,e,B0,Z,h⟩:=qaN w p y;obtain ⟨aj,z⟩:=N9 (w.heap.size);rw [z] at e B0 Z h;have ab:=C9 h 0;have ad:=C9 h 1;have ag:=C9 h 2;obtain ⟨ae,ak,aa,ah⟩:=e.cells;have e:=J9 e;have B0:=J9 B0;have J:=J9 z
 go_enter func291,ntmps291
 go_wp2;obtain ⟨af,U,n,K,-⟩:=qaU e.o 10 0 0;rw [U];have G:=C9 n 0;have E:=C9 n 1;have O:=C9 n 2;refine bodyPost_ret (v:=.tuple #[trV (10,0,0),.string ⟨#[101]⟩]) ?_ rfl ?_
 ·simp [results,results291,go_sem,G,E,O,trV]
 ·exact ⟨rfl,by rw [J.o];exact B0.o.trans (K.mono (by omega))⟩
theorem qla (p:Pat) (G:Int) (h:UInt8) (ah:h=110\/h=119) (w:World):Calls prog 291 #[qai p G,.string ⟨#[h]⟩] w
  fun V av=>V=.returned (.tuple #[trV (6,0,0),.string ⟨#[h]⟩])/\Below w.heap.size w av:=by
 unfold qai;obtain ⟨ao,ae,e,B0,ac,n⟩:=qaN w p G;obtain ⟨aq,Z⟩:=N9 (w.heap.size);rw [Z] at e B0 ac n;have ad:=C9 n 0;have af:=C9 n 1;have ak:=C9 n 2;obtain ⟨M,ab,E,O⟩:=e.cells;have e:=J9 e;have B0:=J9 B0;have am:=J9 Z;obtain ⟨K,U⟩:=N9 (Value.string ⟨#[h]⟩);have aa:Hid (Value.string ⟨#[h]⟩=K):=U;clear U;clear M ab E O ad af ak;rcases ah with rfl | rfl
 all_goals
  go_enter func291,ntmps291
  go_wp2_with fail
  refine (value_any _ ao).mono ?_;rintro V ap ⟨rfl,z⟩;have J:Hid (qaL ap (aq+1)):=e.o.below z;have aj:=J9 (B0.o.trans (z.mono (by omega)));clear z e B0 ac ae;simp only [trV];obtain ⟨M,ab,E,O⟩:=J.o.cells;go_wp2;obtain ⟨aw,au,y,an,-⟩:=qaU J.o 6 0 0;rw [au];have ai:=C9 y 0;have ag:=C9 y 1;have ar:=C9 y 2;refine bodyPost_ret (v:=.tuple #[trV (6,0,0),K]) ?_ rfl ?_
  ·rw [<- aa.o]
   simp [results,results291,go_sem,ai,ag,ar,trV]
  ·exact ⟨by rw [<- aa.o],by rw [am.o];exact aj.o.trans (an.mono (by omega))⟩
theorem qkp (p:Pat) (V:Int) (h:UInt8) (aj:h=110\/h=119) (w:World):Calls prog 291 #[qai p V,.string ⟨#[40,h,41]⟩] w
  fun ap aw=>ap=.returned (.tuple #[trV (7,0,0),.string ⟨#[h]⟩])/\Below w.heap.size w aw:=by
 unfold qai;obtain ⟨aq,af,e,B0,M,n⟩:=qaN w p V;obtain ⟨G,ac⟩:=N9 (w.heap.size);rw [ac] at e B0 M n;have ae:=C9 n 0;have ag:=C9 n 1;have am:=C9 n 2;obtain ⟨Z,O,U,aa⟩:=e.cells;have e:=J9 e;have B0:=J9 B0;have an:=J9 ac;obtain ⟨z,ab⟩:=N9 (Value.string ⟨#[h]⟩);have K:Hid (Value.string ⟨#[h]⟩=z):=ab;clear ab;rcases aj with rfl | rfl
 all_goals
  go_enter func291,ntmps291
  go_wp2;obtain ⟨J,y⟩:=N9 (aq.drew);have ad:Hid (qaL J (G+1)):=by rw [<- y];exact e.o
  have ah:Hid (Below G w J):=by rw [<- y];exact B0.o.drew
  have ay:J.heap.size=G+2:=by rw [<- y];exact M
  refine Mixed.qD5 (fun _=>True) 4 [(0,true),(1,true),(2,true),(3,false)] (by kernel_rfl) (by kernel_rfl) trivial ?_;rw [y];clear e B0 n af y M Z O U aa ae ag am;obtain ⟨Z,O,U,aa⟩:=ad.o.cells;refine Mixed.mo rfl (.agg #[.int .i64 7,.int .i64 0,.int .i64 0]) (fun w au=>by kernel_rfl) ?_;refine Mixed.qD7 rfl (by kernel_rfl) _ rfl _ rfl ?_;refine Mixed.mo rfl z (fun w au=>by rw [<- K.o];kernel_rfl) ?_;refine Mixed.qD6 rfl (by kernel_rfl) ?_;go_wp2;refine ⟨trivial,?_⟩;simp only [Mixed.qD8,Qq,Qy];go_wp2;obtain ⟨ax,av,E,ao,-⟩:=qaU ad.o 7 0 0;rw [av];have ak:=C9 E 0;have ai:=C9 E 1;have ar:=C9 E 2;refine bodyPost_ret (v:=.tuple #[trV (7,0,0),z]) ?_ rfl ?_
  ·rw [<- K.o]
   simp [results,results291,go_sem,ak,ai,ar,trV]
  ·exact ⟨by rw [<- K.o],by rw [an.o];exact ah.o.trans (ao.mono (by omega))⟩
def qeD:List Str:=[[101],[110],[119],[40,110,41],[40,119,41],[114],[115],[112],[113],[99],[107],[98],[116],[65],[68,69],[72,76],[83,80],[65,70],[65,70,39],[40,66,67,41],[40,68,69,41],[40,72,76,41],[40,83,80,41],[40,67,41],[73],[82],[48],[49],[50]]
theorem qmU (p:Pat) (h:Int) (e:Str) (hF:e∈qjP) (w:World):Calls prog 291 #[qai p h,.string (sB e)] w
  fun y z=>y=.returned (.tuple #[trV (opT p h e).1,.string (sB (opT p h e).2)])/\Below w.heap.size w z:=by
 have y:opT p h e=(qf0 e,[]):=by
  unfold qjP at hF;simp only [QI,Q8,or_false] at hF;rcases hF with rfl | rfl | rfl | rfl | rfl | rfl | rfl | rfl | rfl | rfl | rfl | rfl | rfl | rfl | rfl | rfl <;> rfl
 rw [y];refine operand_nil p h (sB e) ((e.headD 0).toNat:Int) (qf0 e) ?_ ?_ ?_ ?_ ?_ ?_ ?_ (qq3 e hF) w
 all_goals
  unfold qjP at hF;simp only [QI,Q8,or_false] at hF;rcases hF with rfl | rfl | rfl | rfl | rfl | rfl | rfl | rfl | rfl | rfl | rfl | rfl | rfl | rfl | rfl | rfl <;> first | exact fun _=>by kernel_rfl | kernel_rfl | decide
theorem qne (p:Pat) (z:p.1.length=8) (e:Int) (y:0<=e) (h:e<=255) (E:Str) (G:E∈qeD) (w:World):Calls prog 291 #[qai p e,.string (sB E)] w
  fun J K=>J=.returned (.tuple #[trV (opT p e E).1,.string (sB (opT p e E).2)])/\Below w.heap.size w K:=by
 unfold qeD at G;simp only [QI,Q8,or_false] at G;rcases G with rfl | rfl | rfl | rfl | rfl | rfl | rfl | rfl | rfl | rfl | rfl | rfl | rfl | rfl | rfl | rfl | rfl | rfl | rfl | rfl | rfl | rfl | rfl | rfl | rfl | rfl | rfl | rfl | rfl
 ·exact qru p e w
 ·exact qla p e 110 (.inl rfl) w
 ·exact qla p e 119 (.inr rfl) w
 ·exact qkp p e 110 (.inl rfl) w
 ·exact qkp p e 119 (.inr rfl) w
 ·exact qaS p e ⟨#[114]⟩ 114 _ (by kernel_rfl) (by kernel_rfl) (by kernel_rfl) (by kernel_rfl) (by kernel_rfl) (fun _=>by kernel_rfl) 316 (fun _ _=>by kernel_rfl) (by decide) (fun w=>qfc p z e y h 114 w) w
 ·exact qaS p e ⟨#[115]⟩ 115 _ (by kernel_rfl) (by kernel_rfl) (by kernel_rfl) (by kernel_rfl) (by kernel_rfl) (fun _=>by kernel_rfl) 316 (fun _ _=>by kernel_rfl) (by decide) (fun w=>qfc p z e y h 115 w) w
 ·exact qaS p e ⟨#[112]⟩ 112 _ (by kernel_rfl) (by kernel_rfl) (by kernel_rfl) (by kernel_rfl) (by kernel_rfl) (fun _=>by kernel_rfl) 317 (fun _ _=>by kernel_rfl) (by decide) (fun w=>qtD p z e y h 112 w) w
 ·exact qaS p e ⟨#[113]⟩ 113 _ (by kernel_rfl) (by kernel_rfl) (by kernel_rfl) (by kernel_rfl) (by kernel_rfl) (fun _=>by kernel_rfl) 318 (fun _ _=>by kernel_rfl) (by decide) (fun w=>qmr p z e y h 113 w) w
 ·exact qaS p e ⟨#[99]⟩ 99 _ (by kernel_rfl) (by kernel_rfl) (by kernel_rfl) (by kernel_rfl) (by kernel_rfl) (fun _=>by kernel_rfl) 319 (fun _ _=>by kernel_rfl) (by decide) (fun w=>qll p z e y h 99 w) w
 ·exact qaS p e ⟨#[107]⟩ 107 _ (by kernel_rfl) (by kernel_rfl) (by kernel_rfl) (by kernel_rfl) (by kernel_rfl) (fun _=>by kernel_rfl) 319 (fun _ _=>by kernel_rfl) (by decide) (fun w=>qll p z e y h 107 w) w
 ·exact qaS p e ⟨#[98]⟩ 98 _ (by kernel_rfl) (by kernel_rfl) (by kernel_rfl) (by kernel_rfl) (by kernel_rfl) (fun _=>by kernel_rfl) 320 (fun _ _=>by kernel_rfl) (by decide) (fun w=>quW p z e y h 98 w) w
 ·exact qaS p e ⟨#[116]⟩ 116 _ (by kernel_rfl) (by kernel_rfl) (by kernel_rfl) (by kernel_rfl) (by kernel_rfl) (fun _=>by kernel_rfl) 321 (fun _ _=>by kernel_rfl) (by decide) (fun w=>qlc p z e y h 116 (qgO p.1 e y h 116).1 (qgO p.1 e y h 116).2 w) w
 all_goals exact qmU p e _ (by decide) w
end Go.Proofs.YtjafbmfcedijmaaGreatDoor
namespace Go.Proofs.YtjafbmfcedijmaaGreatDoor
open Tryz
open Go.RowKit Go.Shelf
def arN (n:Nat):Str:=([[65,68,68],[65,68,67],[83,85,66],[83,66,67],[65,78,68],[88,79,82],[79,82],[67,80]]:List Str).getD n []
def arB (n:Nat):Str:=([[65,44],[65,44],[],[65,44],[],[],[],[]]:List Str).getD n []
def roN (n:Nat):Str:=([[82,76,67],[82,82,67],[82,76],[82,82],[83,76,65],[83,82,65],[83,76,76],[83,82,76]]:List Str).getD n []
theorem qdh (l k:Str):((sB l).toList == k)=decide (l=k):=by
 rw [Qe];show (l.toArray.toList == k)=_;rw [List.toList_toArray];by_cases h:l=k
 ·subst h;simp
 ·rw [Qf h];simpa using h
theorem qaF (p:Pat) (ac:p.1.length=8) (e:Int) (ae:0<=e) (Z:e<=255) (k:Int) (s:ByteArray) (y G E:Bool) (af:qbm p.1 e 97=k) (ah:∀ w,(Instr.index 353 (.agg #[.string ⟨#[65,68,68]⟩,.string ⟨#[65,68,67]⟩,.string ⟨#[83,85,66]⟩,.string ⟨#[83,66,67]⟩,.string ⟨#[65,78,68]⟩,.string ⟨#[88,79,82]⟩,.string ⟨#[79,82]⟩,.string ⟨#[67,80]⟩]) (.int .i64 k)).run prog w=.ok (.string s) w) (ak:(s.toList == [65,68,68])=y) (ai:(s.toList == [65,68,67])=G) (aj:(s.toList == [83,66,67])=E) (w:World):Calls prog 306 #[qai p e] w
  fun O ag=>O=.returned (.tuple #[.string s,.string (if y||G||E then ⟨#[65,44]⟩ else ⟨#[]⟩)])/\Below w.heap.size w ag:=by
 unfold qai;obtain ⟨J,z⟩:=N9 (w.alloc (.cells #[.string (sB p.1),.string (sB p.2),.int .u8 e] 288));have B0:Hid (Below w.heap.size w J):=by rw [<- z];exact B0
 have h:J.heap[w.heap.size]?=some (.cells #[.string (sB p.1),.string (sB p.2),.int .u8 e] 288 (0,0)):=by rw [<- z];exact World.alloc_heap_new w _
 have V:=C9 h 0;have aa:=C9 h 1;have ad:=C9 h 2;have K:=qa4 p.1 p.2 ac e ae Z 97 J;rw [af] at K;have U:=B0.o.size;clear h
 go_enter func306,ntmps306
 go_wp2_with fail
 refine K.mono ?_;rintro O am ⟨rfl,M⟩;have ab:=J9 (B0.o.trans (M.mono U));clear M K z B0 U V aa ad;cases y <;> cases G <;> cases E
 all_goals
  go_wp2
  go_ret2
  exact ⟨rfl,ab.o⟩
theorem lt8 {n:Int} (h:0<=n) (y:n<=7):n=0\/n=1\/n=2\/n=3\/n=4\/n=5\/n=6\/n=7:=by omega
theorem qhQ (p:Pat) (E:p.1.length=8) (h:Int) (z:0<=h) (y:h<=255) (J:qbm p.1 h 97<=7) (w:World):Calls prog 306 #[qai p h] w
  fun G K=>G=.returned (.tuple #[.string (sB (arN (qbm p.1 h 97).toNat)),.string (sB (arB (qbm p.1 h 97).toNat))])/\Below w.heap.size w K:=by
 rcases lt8 (qgO p.1 h z y 97).1 J with e | e | e | e | e | e | e | e
 ·rw [e]
  exact qaF p E h z y 0 (sB (arN 0)) true false false e (fun _=>by kernel_rfl) (by kernel_rfl) (by kernel_rfl) (by kernel_rfl) w
 ·rw [e]
  exact qaF p E h z y 1 (sB (arN 1)) false true false e (fun _=>by kernel_rfl) (by kernel_rfl) (by kernel_rfl) (by kernel_rfl) w
 ·rw [e]
  exact qaF p E h z y 2 (sB (arN 2)) false false false e (fun _=>by kernel_rfl) (by kernel_rfl) (by kernel_rfl) (by kernel_rfl) w
 ·rw [e]
  exact qaF p E h z y 3 (sB (arN 3)) false false true e (fun _=>by kernel_rfl) (by kernel_rfl) (by kernel_rfl) (by kernel_rfl) w
 ·rw [e]
  exact qaF p E h z y 4 (sB (arN 4)) false false false e (fun _=>by kernel_rfl) (by kernel_rfl) (by kernel_rfl) (by kernel_rfl) w
 ·rw [e]
  exact qaF p E h z y 5 (sB (arN 5)) false false false e (fun _=>by kernel_rfl) (by kernel_rfl) (by kernel_rfl) (by kernel_rfl) w
 ·rw [e]
  exact qaF p E h z y 6 (sB (arN 6)) false false false e (fun _=>by kernel_rfl) (by kernel_rfl) (by kernel_rfl) (by kernel_rfl) w
 ·rw [e]
  exact qaF p E h z y 7 (sB (arN 7)) false false false e (fun _=>by kernel_rfl) (by kernel_rfl) (by kernel_rfl) (by kernel_rfl) w
def qal (p:Pat) (h:Int):Str×Str×Str:=
 if (qbu [32] p.2).1=[97] then (arN (qbm p.1 h 97).toNat,arB (qbm p.1 h 97).toNat,(qbu [32] p.2).2.1) else
 if (qbu [32] p.2).1=[111] then (roN (qbm p.1 h 111).toNat,[],(qbu [32] p.2).2.1) else ((qbu [32] p.2).1,[],(qbu [32] p.2).2.1)
def qeI (w:World) (x:Str×Str×Str) (e:Ending) (w':World):Prop:=e=.returned (.tuple #[.string (sB x.1),.string (sB x.2.1),.string (sB x.2.2)])/\Below w.heap.size w w'
theorem qel (w:World) (p:Pat) (y:Int):∃ h,w.alloc (.cells #[.string (sB p.1),.string (sB p.2),.int .u8 y] 288)=h/\Below w.heap.size w h/\h.heap.size=w.heap.size+1/\h.heap[w.heap.size]?=some (.cells #[.string (sB p.1),.string (sB p.2),.int .u8 y] 288 (0,0)):=
 ⟨_,rfl,B0,by simp,World.alloc_heap_new w _⟩
theorem qx5 (p:Pat) (am:p.1.length=8) (ak:p.2.length<=100000) (a:Int) (aq:0<=a) (ai:a<=255) (ar:qbm p.1 a 97<=7) (z:(qbu [32] p.2).1=[97]) (w:World) (ah:qac w):Calls prog 290 #[qai p a] w (qeI w (qal p a)):=by
 unfold qai;obtain ⟨f,aj,y,ag,q⟩:=qel w p a;have ad:=ah.below y;have hcut:=qft p.2 [32] ak f ad;have x:=C9 q 0;have E:=C9 q 1;have K:=C9 q 2;have B0:=J9 y;have aa:=J9 q;clear y q;obtain ⟨av,M⟩:=N9 ((qbu [32] p.2).1);obtain ⟨ao,J⟩:=N9 ((qbu [32] p.2).2.1);obtain ⟨au,U⟩:=N9 ((qbu [32] p.2).2.2);rw [M,J,U] at hcut;rw [z] at M;subst M;have Z:Hid (qal p a=(arN (qbm p.1 a 97).toNat,arB (qbm p.1 a 97).toNat,ao)):=by show qal p a=_;unfold qal;rw [Qk z,J]
 have e:=qhQ p am a aq ai ar;obtain ⟨aw,O⟩:=N9 (arN (qbm p.1 a 97).toNat);obtain ⟨az,ae⟩:=N9 (arB (qbm p.1 a 97).toNat);rw [O,ae] at e Z;simp only [qai] at e;have ax:((sB [97]).toList == [97])=true:=by rw [qdh];rfl
 clear O ae J U z
 go_enter func290,ntmps290
 go_wp2_with fail
 refine hcut.mono ?_;rintro ap af ⟨rfl,h,rfl⟩;have G:Hid (Below w.heap.size w (f.drewN h)):=qbZ B0.o h;have m:(f.drewN h).heap[w.heap.size]?=some (.cells #[.string (sB p.1),.string (sB p.2),.int .u8 a] 288 (0,0)):=aa.o;have ac:(f.drewN h).heap.size=w.heap.size+1:=ag;obtain ⟨af,ab⟩:=N9 (f.drewN h);rw [ab] at G m ac |-;clear ab hcut aj x E K B0 aa ag ad f ah;have x:=C9 m 0;have E:=C9 m 1;have K:=C9 m 2;clear m;have e:=e af
 go_wp2_with fail
 refine e.mono ?_;rintro ap ay ⟨rfl,V⟩;have an:=J9 (G.o.trans (V.mono (by omega)));clear V e G x E K ac;go_wp2
 go_ret3
 exact ⟨by rw [Z.o];rfl,an.o⟩
theorem qco (p:Pat) (am:p.1.length=8) (ak:p.2.length<=100000) (a:Int) (ar:0<=a) (ai:a<=255) (k:Int) (r:Str) (ae:qbm p.1 a 111=k) (ah:roN k.toNat=r) (av:∀ w,(Instr.index 353 (.agg #[.string ⟨#[82,76,67]⟩,.string ⟨#[82,82,67]⟩,.string ⟨#[82,76]⟩,.string ⟨#[82,82]⟩,.string ⟨#[83,76,65]⟩,.string ⟨#[83,82,65]⟩,.string ⟨#[83,76,76]⟩,.string ⟨#[83,82,76]⟩]) (.int .i64 k)).run prog w=.ok (.string (sB r)) w) (y:(qbu [32] p.2).1=[111]) (w:World) (ag:qac w):Calls prog 290 #[qai p a] w (qeI w (qal p a)):=by
 unfold qai;obtain ⟨e,aj,E,af,m⟩:=qel w p a;have ac:=ag.below E;have hcut:=qft p.2 [32] ak e ac;have z:=C9 m 0;have G:=C9 m 1;have M:=C9 m 2;have B0:=J9 E;have Z:=J9 m;clear E m;obtain ⟨aw,O⟩:=N9 ((qbu [32] p.2).1);obtain ⟨ap,K⟩:=N9 ((qbu [32] p.2).2.1);obtain ⟨au,U⟩:=N9 ((qbu [32] p.2).2.2);rw [O,K,U] at hcut;rw [y] at O;subst O;have an:Hid (qal p a=(r,[],ap)):=by show qal p a=_;unfold qal;rw [Qd (by rw [y];decide),Qk y,K,ae,ah]
 have q:=qa4 p.1 p.2 am a ar ai 111;rw [ae] at q;have ay:((sB [111]).toList == [97])=false:=by rw [qdh];rfl
 have ax:((sB [111]).toList == [111])=true:=by rw [qdh];rfl
 clear K U y
 go_enter func290,ntmps290
 go_wp2_with fail
 refine hcut.mono ?_;rintro aq ad ⟨rfl,f,rfl⟩;have J:Hid (Below w.heap.size w (e.drewN f)):=qbZ B0.o f;have h:(e.drewN f).heap[w.heap.size]?=some (.cells #[.string (sB p.1),.string (sB p.2),.int .u8 a] 288 (0,0)):=Z.o;have ab:(e.drewN f).heap.size=w.heap.size+1:=af;obtain ⟨ad,aa⟩:=N9 (e.drewN f);rw [aa] at J h ab |-;clear aa hcut aj z G M B0 Z af ac e ag;have z:=C9 h 0;have G:=C9 h 1;have M:=C9 h 2;clear h;have q:=q ad
 go_wp2_with fail
 refine q.mono ?_;rintro aq az ⟨rfl,V⟩;have ao:=J9 (J.o.trans (V.mono (by omega)));clear V q J z G M ab;go_wp2
 go_ret3
 exact ⟨by rw [an.o];rfl,ao.o⟩
theorem qxn (p:Pat) (an:p.1.length=8) (af:p.2.length<=100000) (a:Int) (ar:0<=a) (am:a<=255) (G:(qbu [32] p.2).1≠[97]) (z:(qbu [32] p.2).1≠[111]) (w:World) (ad:qac w):Calls prog 290 #[qai p a] w (qeI w (qal p a)):=by
 unfold qai;obtain ⟨e,ae,E,ac,m⟩:=qel w p a;have ab:=ad.below E;have hcut:=qft p.2 [32] af e ab;have K:=C9 m 0;have O:=C9 m 1;have aa:=C9 m 2;have B0:=J9 E;have V:=J9 m;clear E m;obtain ⟨y,q⟩:=N9 ((qbu [32] p.2).1);obtain ⟨ai,J⟩:=N9 ((qbu [32] p.2).2.1);obtain ⟨ak,M⟩:=N9 ((qbu [32] p.2).2.2);rw [q,J,M] at hcut;have ag:Hid (qal p a=(y,[],ai)):=by show qal p a=_;unfold qal;rw [Qd G,Qd z,q,J]
 have ap:((sB y).toList == [97])=false:=by rw [qdh,<- q];exact Qf G
 have ao:((sB y).toList == [111])=false:=by rw [qdh,<- q];exact Qf z
 clear J M G z q
 go_enter func290,ntmps290
 go_wp2_with fail
 refine hcut.mono ?_;rintro aq aj ⟨rfl,f,rfl⟩;have U:Hid (Below w.heap.size w (e.drewN f)):=qbZ B0.o f;have h:(e.drewN f).heap[w.heap.size]?=some (.cells #[.string (sB p.1),.string (sB p.2),.int .u8 a] 288 (0,0)):=V.o;have ah:(e.drewN f).heap.size=w.heap.size+1:=ac;obtain ⟨aj,Z⟩:=N9 (e.drewN f);rw [Z] at U h ah |-;clear Z hcut ae K O aa B0 V ac ab e ad;have K:=C9 h 0;have O:=C9 h 1;have aa:=C9 h 2;clear h;go_wp2
 go_ret3
 exact ⟨by rw [ag.o];rfl,U.o⟩
theorem qk7 (p:Pat) (J:p.1.length=8) (G:p.2.length<=100000) (h:Int) (z:0<=h) (E:h<=255) (V:qbm p.1 h 97<=7) (U:qbm p.1 h 111<=7) (w:World) (K:qac w):Calls prog 290 #[qai p h] w (qeI w (qal p h)):=by
 by_cases O:(qbu [32] p.2).1=[97]
 ·exact qx5 p J G h z E V O w K
 ·by_cases M:(qbu [32] p.2).1=[111]
  ·rcases lt8 (qgO p.1 h z E 111).1 U with y | y | y | y | y | y | y | y
   ·exact qco p J G h z E 0 (roN 0) y rfl (fun _=>by kernel_rfl) M w K
   ·exact qco p J G h z E 1 (roN 1) y rfl (fun _=>by kernel_rfl) M w K
   ·exact qco p J G h z E 2 (roN 2) y rfl (fun _=>by kernel_rfl) M w K
   ·exact qco p J G h z E 3 (roN 3) y rfl (fun _=>by kernel_rfl) M w K
   ·exact qco p J G h z E 4 (roN 4) y rfl (fun _=>by kernel_rfl) M w K
   ·exact qco p J G h z E 5 (roN 5) y rfl (fun _=>by kernel_rfl) M w K
   ·exact qco p J G h z E 6 (roN 6) y rfl (fun _=>by kernel_rfl) M w K
   ·exact qco p J G h z E 7 (roN 7) y rfl (fun _=>by kernel_rfl) M w K
  ·exact qxn p J G h z E O M w K
theorem qcQ {wr:World} {base:Nat} {v:Value} {xs:List Tr} (M:qah wr base v xs) (ae:base<=wr.heap.size) {ops:Array Oper} {rest:List Oper} {o:Oper} {a:Act} {Q:Exit->Act->World->Prop} (an:o.guard=none) (s x:Operand)
  (aj:o.op=.call {callee:=.builtin .append,args:=#[s,x],argTypes:=#[22,22]}) (Z:a.eval s=v) (G:Nat) (ac:G=wr.heap.size) (U:a.eval x=.slice (some ⟨G,0,none⟩) 1 1)
  (h:Tr) (k:Nat) (E:xs.length=k) (ao:k<10000)
  (ak:∀ u y w1,qah w1 base (.slice u (k+1) y) (xs++[h])->Below base wr w1->wpList prog ops Q rest (a.put o.dst (.slice u (k+1) y)) w1):wpList prog ops Q (o :: rest) a (wr.alloc (.cells #[.int .i64 h.1,.int .i64 h.2.1,.int .i64 h.2.2] 57)):=by
 subst ac;obtain ⟨ad,O,am,ag,ah⟩:=info_parts qd4;have ai:Below base wr (wr.alloc (.cells #[.int .i64 h.1,.int .i64 h.2.1,.int .i64 h.2.2] 57)):=(Qc base wr).alloc ae _;have J:=World.ownsRow.alloc M (.cells #[.int .i64 h.1,.int .i64 h.2.1,.int .i64 h.2.2] 57);refine wpList_append_own _ an s x 22 aj base 57 ad (.agg #[.int .i64 0,.int .i64 0,.int .i64 0]) 3 24 underlying22 O am ag ah rfl (by decide) v xs.length _ Z J ⟨wr.heap.size,0,none⟩ 1 1 [.int .i64 h.1,.int .i64 h.2.1,.int .i64 h.2.2] U rfl ?_ ?_ ?_ ?_ ?_ ?_
 ·intro aa ab j
  match aa,j with
  | 0,j=>simp at j;subst j;simp [Addr.add,go_sem]
  | 1,j=>simp at j;subst j;simp [Addr.add,go_sem]
  | 2,j=>simp at j;subst j;simp [Addr.add,go_sem]
 ·intro ab K
  simp at K;rcases K with rfl | rfl | rfl <;> rfl
 ·unfold maxLen;omega
 ·omega
 ·simp;omega
 ·intro af w1 R V _
  have z:qah w1 base af (xs++[h]):=by
   unfold qah;rw [Qg,qc7];exact R
  obtain ⟨u,y,rfl,-,-⟩:=z.ops;rw [Qg,E] at z |-;exact ak u y w1 z (ai.grown V (by simp;omega) fun k E=>(J.lt k E).1)
def qav (m:Str) (h:Int):Bool:=
 if m=[78,69,71] then h != 68 else if m=[82,69,84,78] then h != 69 else if m=[73,77] then h != 70&&h != 86&&h != 94 else h == 99||h == 107
theorem qmP (m:Str) (e:Int) (w:World):Calls prog 292 #[.string (sB m),.int .u8 e] w fun O ab=>O=.returned (.bool (qav m e))/\ab=w:=by
 by_cases y:m=[78,69,71]
 ·have h:Hid (qav m e=(e != 68)):=by show qav m e=_;unfold qav;rw [Qk y]
  have U:((sB m).toList == [78,69,71])=true:=by rw [qdh];exact Qn y
  clear y
  go_enter func292,ntmps292
  go_wp2;go_ret;exact ⟨qaa h.o.symm,rfl⟩
 ·have U:((sB m).toList == [78,69,71])=false:=by rw [qdh];exact Qf y
  by_cases z:m=[82,69,84,78]
  ·have h:Hid (qav m e=(e != 69)):=by show qav m e=_;unfold qav;rw [Qd y,Qk z]
   have Z:((sB m).toList == [82,69,84,78])=true:=(by rw [qdh];exact Qn z);clear y z
   go_enter func292,ntmps292
   go_wp2;go_ret;exact ⟨qaa h.o.symm,rfl⟩
  ·have Z:((sB m).toList == [82,69,84,78])=false:=by rw [qdh];exact Qf z
   by_cases F:m=[73,77]
   ·have h:Hid (qav m e=(e != 70&&e != 86&&e != 94)):=by show qav m e=_;unfold qav;rw [Qd y,Qd z,Qk F]
    have V:((sB m).toList == [73,77])=true:=(by rw [qdh];exact Qn F);clear y z F;by_cases E:e=70
    ·subst E
     go_enter func292,ntmps292
     go_wp2;go_ret;exact ⟨qaa h.o.symm,rfl⟩
    ·by_cases K:e=86
     ·subst K
      go_enter func292,ntmps292
      go_wp2;go_ret;exact ⟨qaa h.o.symm,rfl⟩
     ·have J:(e != 70)=true:=by simpa using E
      have aa:(e != 86)=true:=(by simpa using K);have M:Hid (qav m e=(e != 94)):=(by have G:=h.o;rw [J,aa] at G;show qav m e=_;simpa using G);clear E K
      go_enter func292,ntmps292
      go_wp2;go_ret;exact ⟨qaa M.o.symm,rfl⟩
   ·have h:Hid (qav m e=(e == 99||e == 107)):=by show qav m e=_;unfold qav;rw [Qd y,Qd z,Qd F]
    have V:((sB m).toList == [73,77])=false:=(by rw [qdh];exact Qf F);clear y z F;by_cases E:e=99
    ·subst E
     go_enter func292,ntmps292
     go_wp2;go_ret;exact ⟨qaa h.o.symm,rfl⟩
    ·have J:(e == 99)=false:=by simpa using E
     have M:Hid (qav m e=(e == 107)):=(by have G:=h.o;rw [J] at G;show qav m e=_;simpa using G);clear E
     go_enter func292,ntmps292
     go_wp2;go_ret;exact ⟨qaa M.o.symm,rfl⟩
def qdI:Nat->Str->List Str
 | 0,_=>[]
 | n+1,l=>if l.isEmpty then [] else (qbu [44] l).1 :: qdI n (qbu [44] l).2.1
theorem qoR (n:Nat):qdI n []=[]:=by cases n <;> rfl
def splitW (l:Str):List Str:=qdI l.length l
abbrev En:=Str×List Tr×Str×Bool
def qbQ (p:Pat) (w:Int) (y:List Str):List Tr:=y.map fun h=>(opT p w h).1
def qbq (p:Pat) (w:Int) (y:List Str):Str:=(y.map fun h=>(opT p w h).2).flatten
def qbO (p:Pat) (h:Int):List Str:=splitW ((qal p h).2.1++(qal p h).2.2)
def qae (p:Pat) (y h:Int):En:=((qal p h).1,qbQ p h (qbO p h),qbq p h (qbO p h),y == 2&&qav (qal p h).1 h)
structure Good (p:Pat) (op:Int):Prop where
 len:p.1.length=8
 form:p.2.length<=100
 op0:0<=op
 op1:op<=255
 na:qbm p.1 op 97<=7
 no:qbm p.1 op 111<=7
 args:((qal p op).2.1++(qal p op).2.2).length<=100
 words:∀ w∈qbO p op,w∈qeD
def qbs (w:World) (b:Nat) (h y:Int) (m:Str) (v:Value) (ex:Str) (al:Bool):Prop:=w.heap[b]?=some (.cells #[.int .i64 h,.int .u8 y,.string (sB m),v,.string (sB ex),.bool al] 163 (0,0))
def enV (h y:Int) (m:Str) (v:Value) (ex:Str) (al:Bool):Value:=.agg #[.int .i64 h,.int .u8 y,.string (sB m),v,.string (sB ex),.bool al]
def qB3 (w:World) (v y:Int) (x:En) (e:Ending) (w':World):Prop:=∃ h,e=.returned (enV v y x.1 h x.2.2.1 x.2.2.2)/\qah w' w.heap.size h x.2.1/\Below w.heap.size w w'
theorem qpE (p:Pat) (h:Int) (a:List Str) (x:Str):qbQ p h (a++[x])=qbQ p h a++[(opT p h x).1]:=by unfold qbQ;simp
theorem ql9 (p:Pat) (h:Int) (a:List Str) (x:Str):qbq p h (a++[x])=qbq p h a++(opT p h x).2:=by unfold qbq;simp
theorem qhe (a b:Str):sB a++sB b=sB (a++b):=by
 refine ByteArray.ext ?_;show (sB a++sB b).data=(a++b).toArray;rw [ByteArray.data_append];simp [sB]
theorem qso (p:Pat) (h:Int) (w:Str):(opT p h w).2.length<=w.length:=by
 unfold opT;split
 ·exact Qa _
 ·split
  ·exact Qa _
  ·split
   ·simp;omega
   ·split <;> simp
theorem qnz (h l:Str):(qbu h l).1.length+(qbu h l).2.1.length<=l.length:=by
 unfold qbu;split
 ·simp
 ·simp;omega
section
variable {w w':World} {b:Nat} {page op:Int} {m ex:Str} {v:Value} {al:Bool}
theorem qbs.lt (h:qbs w b page op m v ex al):b<w.heap.size:=(Qb.1 h).1
theorem qbs.below {B:Nat} (y:qbs w b page op m v ex al) (h:Below B w w') (z:b<B):qbs w' b page op m v ex al:=(h.block b z).trans y
theorem qbs.all (h:qbs w b page op m v ex al) (y:Below w.heap.size w w'):qbs w' b page op m v ex al:=h.below y h.lt
theorem qbs.cells (h:qbs w b page op m v ex al):w.cell? ⟨b,0,none⟩=some (.int .i64 page)/\w.cell? ⟨b,1,none⟩=some (.int .u8 op)/\w.cell? ⟨b,2,none⟩=some (.string (sB m))/\w.cell? ⟨b,3,none⟩=some v/\w.cell? ⟨b,4,none⟩=some (.string (sB ex))/\w.cell? ⟨b,5,none⟩=some (.bool al)/\∀ j,w.frozen? ⟨b,j,none⟩=false:=
 ⟨C9 h 0,C9 h 1,C9 h 2,C9 h 3,C9 h 4,C9 h 5,Qr h⟩
theorem qbs.qEA (y:qbs w b page op m v ex al) (h:Value):qbs (w.setCell ⟨b,3,none⟩ h) b page op m h ex al:=heap_setCell_same w b 3 _ _ h y
theorem qbs.qEy (y:qbs w b page op m v ex al) (h:Str):qbs (w.setCell ⟨b,4,none⟩ (.string (sB h))) b page op m v h al:=heap_setCell_same w b 4 _ _ _ y
theorem qbs.qEv (y:qbs w b page op m v ex al) (h:Bool):qbs (w.setCell ⟨b,5,none⟩ (.bool h)) b page op m v ex h:=heap_setCell_same w b 5 _ _ _ y
theorem qbs.qEI (y:qbs w b page op m v ex al) (h:Int):qbs (w.setCell ⟨b,1,none⟩ (.int .u8 h)) b page h m v ex al:=heap_setCell_same w b 1 _ _ _ y
theorem qbs.qET (y:qbs w b page op m v ex al) (h:Int):qbs (w.setCell ⟨b,0,none⟩ (.int .i64 h)) b h op m v ex al:=heap_setCell_same w b 0 _ _ _ y
theorem qbs.qE8 (y:qbs w b page op m v ex al) (h:Str):qbs (w.setCell ⟨b,2,none⟩ (.string (sB h))) b page op h v ex al:=heap_setCell_same w b 2 _ _ _ y
theorem qbs.put (U:qbs w b page op m v ex al) (J G:Int) (z:Str) (E:Value) (M:Str) (K:Bool) :
  ∃ w',(((((w.setCell ⟨b,0,none⟩ (.int .i64 J)).setCell ⟨b,1,none⟩ (.int .u8 G)).setCell ⟨b,2,none⟩ (.string (sB z))).setCell ⟨b,3,none⟩ E).setCell ⟨b,4,none⟩ (.string (sB M))).setCell ⟨b,5,none⟩ (.bool K)=w'/\
   qbs w' b J G z E M K/\Below b w w'/\w'.heap.size=w.heap.size/\(∀ B u L,b<B->qah w B u L->qah w' B u L)/\∀ k,k≠b->w'.heap[k]?=w.heap[k]?:=by
 refine ⟨_,rfl,(((((U.qET J).qEI G).qE8 z).qEA E).qEy M).qEv K,?_,by simp,fun B u L h O=>?_,fun k y=>?_⟩
 ·exact ((((((Qc b w).setCell (p:=⟨b,0,none⟩) (Qa _) _).setCell (p:=⟨b,1,none⟩) (Qa _) _).setCell (p:=⟨b,2,none⟩) (Qa _) _).setCell (p:=⟨b,3,none⟩) (Qa _) _).setCell (p:=⟨b,4,none⟩) (Qa _) _).setCell (p:=⟨b,5,none⟩) (Qa _) _
 ·exact row_set (row_set (row_set (row_set (row_set (row_set O (p:=⟨b,0,none⟩) h _) (p:=⟨b,1,none⟩) h _) (p:=⟨b,2,none⟩) h _) (p:=⟨b,3,none⟩) h _) (p:=⟨b,4,none⟩) h _) (p:=⟨b,5,none⟩) h _
 ·exact (heap_setCell_other _ ⟨b,5,none⟩ k _ y).trans ((heap_setCell_other _ ⟨b,4,none⟩ k _ y).trans ((heap_setCell_other _ ⟨b,3,none⟩ k _ y).trans ((heap_setCell_other _ ⟨b,2,none⟩ k _ y).trans ((heap_setCell_other _ ⟨b,1,none⟩ k _ y).trans (heap_setCell_other _ ⟨b,0,none⟩ k _ y)))))
theorem qbs.qEw (y:qbs w b page op m v ex al) {g j:Nat} (h:b≠g) (u:Value):qbs (w.setCell ⟨g,j,none⟩ u) b page op m v ex al:=(heap_setCell_other w ⟨g,j,none⟩ b u h).trans y
end
theorem qd3 (p:Pat) (k b:Int) (A:Good p b) (w:World) (a9:qac w):Calls prog 267 #[qai p b,.int .i64 k] w (qB3 w k b (qae p k b)):=by
 unfold qai;obtain ⟨U,ao⟩:=N9 ((w.alloc (.cells #[.string (sB p.1),.string (sB p.2),.int .u8 b] 288)).alloc (.cells #[.int .i64 0,.int .u8 0,.string ⟨#[]⟩,.slice none 0 0,.string ⟨#[]⟩,.bool false] 163));obtain ⟨n,ad⟩:=N9 (w.heap.size);have cc:U.heap.size=n+1+1:=by rw [<- ao,<- ad];simp
 have B0:Below n w U:=by rw [<- ao,<- ad];exact ((B0 (w:=w))).alloc (by simp) _
 have aj:U.heap[n]?=some (.cells #[.string (sB p.1),.string (sB p.2),.int .u8 b] 288 (0,0)):=by rw [<- ao,<- ad];exact (Below.heap_alloc _ _ _ (by simp)).trans (World.alloc_heap_new w _)
 have bK:qbs U (n+1) 0 0 [] (.slice none 0 0) [] false:=by
  rw [<- ao,<- ad];have j:=World.alloc_heap_new (w.alloc (.cells #[.string (sB p.1),.string (sB p.2),.int .u8 b] 288)) (.cells #[.int .i64 0,.int .u8 0,.string ⟨#[]⟩,.slice none 0 0,.string ⟨#[]⟩,.bool false] 163);rw [QL] at j;exact j
 have b5:0 < n:=by rw [<- ad];exact a9.lt
 have a6:qac U:=a9.qEr (n:=n) B0 b5;have x:=qk7 p A.len (by have:=A.form;omega) b A.op0 A.op1 A.na A.no U a6;have ae:=C9 aj 0;have aa:=C9 aj 1;have ab:=C9 aj 2;have aP:=J9 A;have aG:=J9 ad;simp only [qai] at x;obtain ⟨o,a2⟩:=N9 ((qal p b).1);obtain ⟨an,aO⟩:=N9 ((qal p b).2.1);obtain ⟨ay,aF⟩:=N9 ((qal p b).2.2);have aB:Hid ((qal p b).1=o/\qbO p b=splitW (an++ay)/\(an++ay).length<=100):=⟨a2,by unfold qbO;rw [aO,aF],by rw [<- aO,<- aF];exact A.args⟩;unfold qeI at x;rw [a2,aO,aF] at x;clear a2 aO aF A a9
 go_enter func267,ntmps267
 go_wp2_with fail
 refine x.mono ?_;rintro a4 y ⟨rfl,z⟩;have ak:=(z.block n (by omega)).trans aj;have R1:qbs y (n+1) 0 0 [] (.slice none 0 0) [] false:=(z.block (n+1) (by omega)).trans bK;have bi:=B0.trans (z.mono (by omega));have bU:n+1+1<=y.heap.size:=by have:=z.size;omega
 have aw:qac y:=a6.below z;clear z x ae aa ab aj bK B0 ao cc a6 U;have ae:=C9 ak 0;have aa:=C9 ak 1;have ab:=C9 ak 2;obtain ⟨e,bd⟩:=N9 (y.heap.size);have ap:=J9 (Zf ak (Zf R1 (Zf bi aw)));have co:n+1+1<=e:=by omega
 clear bU ak R1 bi aw;have b2:(sB an).size+(sB ay).size<=100:=by have j:=aB.o.2.2;rw [qaH,qaH];simpa using j
 go_wp2;obtain ⟨bf,au⟩:=N9 (y.alloc (.cells #[.int .i64 k,.int .u8 b,.string (sB o),.slice none 0 0,.string ⟨#[]⟩,.bool false] 163));have aD:qbs bf e k b o (.slice none 0 0) [] false:=by rw [<- au,<- bd];exact World.alloc_heap_new y _
 have aN:bf.heap.size=e+1:=by rw [<- au,<- bd];simp
 have aM:Below e y bf:=by rw [<- au,<- bd];exact B0
 rw [au];have aD:=J9 aD;have aM:=J9 aM;have aN:=J9 aN;clear au ae aa ab b2;rw [qhe];have aS:(an++ay).length<=100:=aB.o.2.2;obtain ⟨bl,br⟩:=N9 (an++ay);have bZ:=J9 br;rw [br] at aS |-
 go_loopw [7] (fun aV wr=>∃ (done:List Str) (M:Nat) (h:Str) (v:Value),aV=.string (sB h)/\h.length<=M/\done.length+h.length<=100/\(qbq p b done).length+h.length<=100/\Hid (done++qdI M h=qbO p b)/\Hid (qbs wr e k b o v (qbq p b done) false)/\Hid (qah wr (e+1) v (qbQ p b done))/\Hid (Below e y wr)/\e+1<=wr.heap.size) (fun aV _=>qpl aV)
 case atStart=>exact ⟨[],bl.length,bl,_,rfl,Qa _,by simpa using aS,by simpa [qbq] using aS,by show []++_=_;rw [aB.o.2.1,bZ.o];rfl,aD.o,Zm _ _ _ _,aM.o,by rw [aN.o];exact Qa _⟩
 case round=>
  clear aD aM aN;obtain ⟨done,M,h,v,rfl,b9,bW,cx,aJ,ai,ah,ac,bv⟩:=hrel;by_cases am:h=[]
  ·subst am
   have ci:=qnr [];have aC:Hid (done=qbO p b):=by
    have j:=aJ.o;rw [qoR,Zs] at j;exact j
   have a3:Hid (qbs wr (n+1) 0 0 [] (.slice none 0 0) [] false):=ap.o.2.1.below ac.o (by omega);have bw:=J9 (ap.o.2.2.1.trans (ac.o.mono (by omega)));have G:=(ac.o.block n (by omega)).trans ap.o.1;have ae:=C9 G 0;have aa:=C9 G 1;have ab:=C9 G 2;obtain ⟨K,J,rfl,-,-⟩:=ah.o.ops;obtain ⟨bH,bk,bB,aY,bn,bj,bp⟩:=ai.o.cells;obtain ⟨cp,cr,cj,cv,cw,cu,cg⟩:=a3.o.cells;have af:Hid (qae p k b=(o,qbQ p b done,qbq p b done,k == 2&&qav o b)):=by
    show qae p k b=_;unfold qae;rw [aB.o.1,aC.o]
   have aH:=qmP o b wr;obtain ⟨Z,bx⟩:=N9 (qav o b);rw [bx] at aH af;clear aJ b9 bW bx G;have z:e≠n+1:=(by omega);by_cases bu:k=2
   ·subst bu
    go_wp2_with fail
    refine aH.mono ?_;rintro a4 bV ⟨rfl,bh⟩;rw [bh];clear aH bh;go_wp2;have ag:=J9 (ai.o.qEv Z);have V:Hid (qah (wr.setCell ⟨e,5,none⟩ (.bool Z)) (e+1) (.slice K (qbQ p b done).length J) (qbQ p b done)):=row_set ah.o (p:=⟨e,5,none⟩) (by simp) _;have a8:Hid (qbs (wr.setCell ⟨e,5,none⟩ (.bool Z)) (n+1) 0 0 [] (.slice none 0 0) [] false):=a3.o.qEw z.symm _;have O:Hid (Below n w (wr.setCell ⟨e,5,none⟩ (.bool Z))):=bw.o.setCell (p:=⟨e,5,none⟩) (by simp;omega) _;obtain ⟨b1,aT,aL,ar,bq,aQ,-⟩:=a8.o.put 2 b o (.slice K (qbQ p b done).length J) (qbq p b done) Z;rw [aT];obtain ⟨a0,bg,aU,a5,aZ,a7,-⟩:=aL.cells;refine bodyPost_ret (v:=enV 2 b o (.slice K (qbQ p b done).length J) (qbq p b done) Z) ?_ rfl ?_
    ·simp [results,results267,go_sem,a0,bg,aU,a5,aZ,a7,enV]
    ·refine ⟨.slice K (qbQ p b done).length J,by rw [af.o];rfl,?_,?_⟩
     ·rw [af.o,aG.o];exact (aQ _ _ _ (by omega) V.o).lift (by omega)
     ·rw [aG.o];exact O.o.trans (ar.mono (by omega))
   ·have bT:(k == 2)=false:=by simpa using bu
    clear aH;go_wp2;have ag:=J9 (ai.o.qEv false);have V:Hid (qah (wr.setCell ⟨e,5,none⟩ (.bool false)) (e+1) (.slice K (qbQ p b done).length J) (qbQ p b done)):=row_set ah.o (p:=⟨e,5,none⟩) (by simp) _;have a8:Hid (qbs (wr.setCell ⟨e,5,none⟩ (.bool false)) (n+1) 0 0 [] (.slice none 0 0) [] false):=a3.o.qEw z.symm _;have O:Hid (Below n w (wr.setCell ⟨e,5,none⟩ (.bool false))):=bw.o.setCell (p:=⟨e,5,none⟩) (by simp;omega) _;obtain ⟨b1,aT,aL,ar,bq,aQ,-⟩:=a8.o.put k b o (.slice K (qbQ p b done).length J) (qbq p b done) false;rw [aT];obtain ⟨a0,bg,aU,a5,aZ,a7,-⟩:=aL.cells;refine bodyPost_ret (v:=enV k b o (.slice K (qbQ p b done).length J) (qbq p b done) false) ?_ rfl ?_
    ·simp [results,results267,go_sem,a0,bg,aU,a5,aZ,a7,enV]
    ·refine ⟨.slice K (qbQ p b done).length J,by rw [af.o,bT];rfl,?_,?_⟩
     ·rw [af.o,aG.o];exact (aQ _ _ _ (by omega) V.o).lift (by omega)
     ·rw [aG.o];exact O.o.trans (ar.mono (by omega))
  ·have b7:=qnr h
   rw [List.isEmpty_eq_false_iff.2 am] at b7;have b4:0<h.length:=Q9.2 am;obtain ⟨M,rfl⟩:∃ aq,M=aq+1:=⟨M - 1,by omega⟩;have aW:=qmZ [44] h (by decide) b4;have aR:=qnz [44] h;have aw:qac wr:=ap.o.2.2.2.qEr ac.o (by omega);have hcut:=qft h [44] (by omega) wr aw;obtain ⟨q,x⟩:=N9 ((qbu [44] h).1);obtain ⟨rest,av⟩:=N9 ((qbu [44] h).2.1);obtain ⟨cm,bz⟩:=N9 ((qbu [44] h).2.2);have aC:Hid ((done++[q])++qdI M rest=qbO p b):=by
    have j:=aJ.o;rw [qdI,Qd (by simpa using am),x,av] at j;rw [Ze];exact j
   have b0:Hid (q∈qeD):=aP.o.words q (by rw [<- aC.o];simp);rw [x,av] at aR;rw [av] at aW;have bs:Hid (rest.length<h.length):=aW.1;have bD:Hid (q.length+rest.length<=h.length):=aR;have bY:Hid (qpl (.string (sB h))=h.length):=qaH h;have ca:Hid (qpl (.string (sB rest))=rest.length):=qaH rest;rw [x,av,bz] at hcut;clear aJ aW aR x av bz am aw
   go_wp2_with fail
   refine hcut.mono ?_;rintro a4 bV ⟨rfl,aE,rfl⟩;have aA:=below_drewN wr wr.heap.size aE;have ag:=J9 (ai.o.all aA);have V:=J9 (ah.o.below aA);have O:Hid (Below e y (wr.drewN aE)):=ac.o.trans (aA.mono (by omega));have bt:e+1<=(wr.drewN aE).heap.size:=bv;obtain ⟨b3,bF⟩:=N9 (wr.drewN aE);rw [bF] at ag V O bt |-;clear bF aA hcut ai ah ac bv wr;have G:=(O.o.block n (by omega)).trans ap.o.1;have ae:=C9 G 0;have aa:=C9 G 1;have ab:=C9 G 2;clear G;have aK:=qne p aP.o.len b aP.o.op0 aP.o.op1 q b0.o b3;obtain ⟨⟨⟨bb,bc,aX⟩,a1⟩,aI⟩:=N9 (opT p b q);have bm:=J9 aI;have bE:Hid (a1.length<=q.length):=(by have j:=qso p b q;rw [aI] at j;exact j);rw [aI] at aK;simp only [qai,trV] at aK;clear aI
   go_wp2_with fail
   refine aK.mono ?_;rintro a4 E ⟨rfl,ax⟩;have bG:=J9 (ag.o.all ax);have bM:=J9 (V.o.below ax);have bQ:=J9 (O.o.trans (ax.mono (by omega)));have bS:e+1<=E.heap.size:=(by have:=ax.size;omega);clear ax aK ag V O bt ae aa ab;obtain ⟨bH,bk,bB,aY,bn,bj,bp⟩:=bG.o.cells;have b8:Hid (qah (E.alloc (.cells #[.int .i64 bb,.int .i64 bc,.int .i64 aX] 57)) (e+1) v (qbQ p b done)):=bM.o.below (B0);have bC:Hid ((qbQ p b done).length=done.length):=(by show (qbQ p b done).length=_;unfold qbQ;simp);obtain ⟨aq,b6⟩:=N9 (done.length);rw [b6] at bC;have bP:aq<10000:=(by omega);have cq:e≠E.heap.size:=(by omega);have cf:∀ be,(E.alloc be).cell? ⟨e,3,none⟩=some v:=(fun be=>(((Qc (e+1) E).alloc bS be).cell (show e<e+1 by omega)).trans aY);have ch:(sB (qbq p b done)).size+(sB a1).size<=100:=(by have j:=bE.o;have ar:=bD.o;rw [qaH,qaH];omega);clear bH bk bB aY bn bj bp
   go_wp2_with (at_builtin;refine qcQ b8.o (by simp;omega) rfl _ _ rfl rfl (E.heap.size+1) (by simp) rfl (bb,bc,aX) aq bC.o bP ?_;intro bX bL bo bJ az;have bA:=J9 ((bG.o.all ((Qc E.heap.size E).alloc (Qa _) _)).below az (by omega));have bN:=J9 bJ;have bO:Hid (Below e y bo):=(bQ.o.trans ((Qc e E).alloc (by omega) _)).trans (az.mono (by omega));have cn:e+1<=bo.heap.size:=(by have:=az.size;simp at this;omega);obtain ⟨cl,ce,ct,ck,cy,cd,cz⟩:=bA.o.cells;clear bJ az)
   rw [qhe];have bI:Hid (qbq p b (done++[q])=qbq p b done++a1):=(by show _=_;rw [ql9,bm.o]);have bR:Hid (qbQ p b (done++[q])=qbQ p b done++[(bb,bc,aX)]):=(by show _=_;rw [qpE,bm.o]);go_roundw
   case rel=>
    have aL:=bs.o;have ar:=bD.o;have bq:=bE.o;refine ⟨done++[q],M,rest,.slice bX (aq+1) bL,rfl,by omega,by rw [Qg];simp;omega,by rw [bI.o,Qg];omega,aC.o,?_,?_,?_,by simp;omega⟩
    ·rw [bI.o];exact (bA.o.qEA _).qEy _
    ·rw [bR.o];exact row_set (row_set bN.o (p:=⟨e,3,none⟩) (by simp) _) (p:=⟨e,4,none⟩) (by simp) _
    ·exact (bO.o.setCell (p:=⟨e,3,none⟩) (Qa _) _).setCell (p:=⟨e,4,none⟩) (Qa _) _
   case measure=>rw [bY.o,ca.o];exact bs.o
end Go.Proofs.YtjafbmfcedijmaaGreatDoor
namespace Go.Proofs.YtjafbmfcedijmaaGreatDoor
open Tryz
open Go.RowKit Go.Shelf
def Box (w:World) (b:Nat) (k r n:Int):Prop:=w.cell? ⟨b,0,none⟩=some (.int .i64 k)/\w.cell? ⟨b,1,none⟩=some (.int .i64 r)/\w.cell? ⟨b,2,none⟩=some (.int .i64 n)
theorem Box.new (w:World) (k r n:Int) (t:TypeId):Box (w.alloc (.cells #[.int .i64 k,.int .i64 r,.int .i64 n] t)) w.heap.size k r n:=⟨by simp [go_sem],by simp [go_sem],by simp [go_sem]⟩
theorem Box.below {w w':World} {b:Nat} {k r n:Int} (h:Box w b k r n) (y:Below w.heap.size w w'):Box w' b k r n:=
 ⟨(y.cell (Qp w _ h.1)).trans h.1,(y.cell (Qp w _ h.2.1)).trans h.2.1,(y.cell (Qp w _ h.2.2)).trans h.2.2⟩
def qBk (w:World) (L:List Tr) (t:Tr) (e:Ending) (w':World):Prop:=
 ((t∉L/\e=.returned (.int .i64 (-1)))\/∃ a:Nat,(∃ k:a<L.length,L[a]=t)/\(∀ h,h<a->∀ (j:h<L.length),L[h]≠t)/\e=.returned (.int .i64 a))/\Below w.heap.size w w'
def qz4 (w:World) (q:Bool) (e:Ending) (w':World):Prop:=∃ h:Int,e=.returned (.int .i64 h)/\decide (0<=h)=q/\Below w.heap.size w w'
theorem qC7 {w w':World} {L:List Tr} {t:Tr} {e:Ending} (h:qBk w L t e w'):qz4 w (decide (t∈L)) e w':=by
 obtain ⟨h | ⟨y,⟨G,z⟩,-,rfl⟩,j⟩:=h
 ·exact ⟨-1,h.2,by rw [Qf h.1];rfl,j⟩
 ·have E:t∈L:=by rw [<- z];exact QB G
  exact ⟨y,rfl,(Qn (by omega)).trans (Qn E).symm,j⟩
theorem qim (A:Option Addr) (c:Nat) (L:List Tr) (ag:L.length<=maxLen) (t:Tr) (w:World) (H:qaj w A L) :
  Calls prog 301 #[.slice A L.length c,.agg #[.int .i64 t.1,.int .i64 t.2.1,.int .i64 t.2.2]] w (qBk w L t):=by
 unfold maxLen at ag;obtain ⟨h,i,j⟩:=t;simp only;have ac:Below w.heap.size w (w.alloc (.cells #[.int .i64 h,.int .i64 i,.int .i64 j] 57)):=B0;have aj:=J9 (H.below ac);have B0:=J9 ac;have ad:=J9 (Box.new w h i j 57);obtain ⟨z,aa⟩:=N9 (w.alloc (.cells #[.int .i64 h,.int .i64 i,.int .i64 j] 57));rw [aa] at aj B0 ad;have am:=J9 aa;clear H ac aa;obtain ⟨X,Z⟩:=N9 (L.length);have ai:=J9 Z;rw [Z] at ag |-;clear Z
 go_enter func301,ntmps301
 go_wp2;rw [am.o]
 go_loopw [8] (fun M wr=>∃ e:Nat,e<=X/\M=.int .i64 e/\Hid (∀ a,a<e->∀ (K:a<L.length),L[a]≠(h,i,j))/\Hid (Below z.heap.size z wr)) (fun M _=>X - (intOf M).toNat)
 case atStart=>exact ⟨0,Qs _,rfl,fun a ab=>by omega,Qc _ _⟩
 case round=>
  obtain ⟨e,aw,rfl,n,y⟩:=hrel;obtain ⟨av,aB,aC⟩:=ad.o.below y.o;by_cases az:e<X
  ·have G:e<L.length:=by have:=ai.o;omega
   obtain ⟨au,ax,ap,-,E,J,B⟩:=(aj.o.below y.o).at_ G;subst ap;have T:=(fun O=>J9 (B0.o.trans ((y.o.trans (below_drewN wr z.heap.size O)).mono B0.o.size)));have R:=(fun O=>J9 (y.o.trans (below_drewN wr z.heap.size O)));by_cases k:L[e]=(h,i,j)
   ·have ae:Hid ((∃ ab:e<L.length,L[e]=(h,i,j))/\∀ a,a<e->∀ (K:a<L.length),L[a]≠(h,i,j)):=⟨⟨G,k⟩,n.o⟩
    rw [k] at E J B;simp only at E J B;clear k G n;go_wp2
    go_quiet (fail)
    go_wp2;go_ret;exact ⟨.inr ⟨e,ae.o.1,ae.o.2,rfl⟩,(T _).o⟩
   ·have R2:Hid (∀ a,a<e+1->∀ (K:a<L.length),L[a]≠(h,i,j)):=fun a ak K=>by
     by_cases V:a=e
     ·subst V;exact k
     ·exact n.o a (by omega) K
    have q:=qp5 (fun V=>k V.symm);obtain ⟨⟨ah,aA,ay⟩,af⟩:=N9 (L[e]);rw [af] at E J B q;simp only at E J B q;clear k af G n;have ao:ah=h->h=ah:=(fun ab=>ab.symm);clear ao;rcases q with q | ⟨U,q⟩ | ⟨U,aq,q⟩
    ·go_wp2
     go_quiet (fail)
     go_wp2;go_roundw
     case rel=>exact ⟨e+1,by omega,by go_num,R2.o,(R _).o⟩
     case measure=>simp [intOf];omega
    ·subst U
     go_wp2
     go_quiet (fail)
     go_wp2;go_roundw
     case rel=>exact ⟨e+1,by omega,by go_num,R2.o,(R _).o⟩
     case measure=>simp [intOf];omega
    ·subst U
     subst aq;go_wp2
     go_quiet (fail)
     go_wp2;go_roundw
     case rel=>exact ⟨e+1,by omega,by go_num,R2.o,(R _).o⟩
     case measure=>simp [intOf];omega
  ·have an:Hid ((h,i,j)∉L):=fun ar=>by
    obtain ⟨a,ak,k⟩:=Zg ar;exact n.o a (by have:=ai.o;omega) ak k
   have T:=J9 (B0.o.trans (y.o.mono B0.o.size));clear n;go_wp2;go_ret;exact ⟨.inl ⟨an.o,rfl⟩,T.o⟩
theorem qjx (A:Option Addr) (c:Nat) (L:List Tr) (T:L.length<=maxLen) (t:Tr) (w:World) (H:qaj w A L) :
  Calls prog 303 #[.slice A L.length c,.agg #[.int .i64 t.1,.int .i64 t.2.1,.int .i64 t.2.2]] w fun q y=>q=.returned (.bool (decide (t∈L)))/\Below w.heap.size w y:=by
 obtain ⟨h,e,i⟩:=t;have z:Below w.heap.size w (w.alloc (.cells #[.int .i64 h,.int .i64 e,.int .i64 i] 57)):=B0;have K:=J9 (qim A c L T (h,e,i) _ (H.below z));have B0:=J9 z;have E:=J9 (K.o.mono (R':=fun q y=>qz4 (w.alloc (.cells #[.int .i64 h,.int .i64 e,.int .i64 i] 57)) (decide ((h,e,i)∈L)) q y) (fun q y U=>qC7 U));clear K;obtain ⟨Z,M⟩:=N9 (decide ((h,e,i)∈L));rw [M] at E |-;clear z H M
 go_enter func303,ntmps303
 go_wp2_with fail
 refine E.o.mono ?_;rintro q aa ⟨V,rfl,G,J⟩;have O:=J9 (B0.o.trans (J.mono B0.o.size));have N:=J9 G;clear J G;go_wp2;go_ret;exact ⟨qaa N.o,O.o⟩
theorem qjQ (x b:Tr) (w:World):(binOp .eql 57 (trV x) (trV b)).run prog w=.ok (.bool (decide (x=b))) w:=by
 obtain ⟨f,h,z⟩:=x;obtain ⟨E,e,y⟩:=b;simp only [trV]
 go_simp
 by_cases a:f=E
 ·by_cases c:h=e
  ·by_cases d:z=y
   ·simp [a,c,d]
   ·simp [a,c,d]
  ·simp [a,c]
 ·simp [a]
theorem qya (x b:Tr) (w:World):(binOp .neq 57 (trV x) (trV b)).run prog w=.ok (.bool (!decide (x=b))) w:=by
 obtain ⟨f,h,z⟩:=x;obtain ⟨E,e,y⟩:=b;simp only [trV]
 go_simp
 by_cases a:f=E
 ·by_cases c:h=e
  ·by_cases d:z=y
   ·simp [a,c,d]
   ·simp [a,c,d]
  ·simp [a,c]
 ·simp [a]
def opX (h:Int) (o:Tr):Tr:=
 if o=(1,4,0) then (2,if h=6 then 2 else 0,0) else if o=(1,5,0) then (2,if h=6 then 3 else 1,0) else if o=(3,2,0) then (3,h,0) else if o=(4,2,0) then (4,h,0) else o
theorem qsn (w:World) (o:Tr):∃ h,(w.alloc (.cells #[.int .i64 o.1,.int .i64 o.2.1,.int .i64 o.2.2] 57)).alloc (.cells #[.int .i64 0,.int .i64 0,.int .i64 0] 57)=h/\
  qaL h (w.heap.size+1)/\Below w.heap.size w h/\h.heap.size=w.heap.size+2/\h.heap[w.heap.size]?=some (.cells #[.int .i64 o.1,.int .i64 o.2.1,.int .i64 o.2.2] 57 (0,0)):=by
 refine ⟨_,rfl,?_,((B0 (w:=w))).alloc (by simp) _,by simp,(Below.heap_alloc _ _ _ (by simp)).trans (World.alloc_heap_new w _)⟩;have y:=World.alloc_heap_new (w.alloc (.cells #[.int .i64 o.1,.int .i64 o.2.1,.int .i64 o.2.2] 57)) (.cells #[.int .i64 0,.int .i64 0,.int .i64 0] 57);rw [QL] at y;exact y
theorem qBu (b:Nat) (M:Int) (aX:M=5\/M=6) (a c d:Int) (aC az aD ay:Bool) (a9:∀ w,(binOp .eql 57 (.agg #[.int .i64 a,.int .i64 c,.int .i64 d]) (.agg #[.int .i64 1,.int .i64 4,.int .i64 0])).run prog w=.ok (.bool aC) w) (bd:∀ w,(binOp .eql 57 (.agg #[.int .i64 a,.int .i64 c,.int .i64 d]) (.agg #[.int .i64 1,.int .i64 5,.int .i64 0])).run prog w=.ok (.bool az) w) (a7:∀ w,(binOp .eql 57 (.agg #[.int .i64 a,.int .i64 c,.int .i64 d]) (.agg #[.int .i64 3,.int .i64 2,.int .i64 0])).run prog w=.ok (.bool aD) w) (bc:∀ w,(binOp .eql 57 (.agg #[.int .i64 a,.int .i64 c,.int .i64 d]) (.agg #[.int .i64 4,.int .i64 2,.int .i64 0])).run prog w=.ok (.bool ay) w) (w:World) (aN:w.cell? ⟨b,6,none⟩=some (.int .i64 M)):Calls prog 305 #[.pointer (some ⟨b,0,none⟩),.agg #[.int .i64 a,.int .i64 c,.int .i64 d]] w (qcg w (if aC then ((2,if M=6 then 2 else 0,0):Tr) else if az then (2,if M=6 then 3 else 1,0) else if aD then (3,M,0) else if ay then (4,M,0) else (a,c,d))):=by
 obtain ⟨a3,aT,ai,B0,aQ,an⟩:=qsn w (a,c,d);have aG:=Qp w _ aN;have aI:=(B0.cell aG).trans aN;obtain ⟨h,aL⟩:=N9 (w.heap.size);rw [aL] at ai B0 aQ an;have a0:b<h:=by rw [<- aL];exact aG
 have y:=C9 an 0;have n:=C9 an 1;have u:=C9 an 2;obtain ⟨aq,aU⟩:=N9 (a3);rw [aU] at aT ai B0 aQ y n u aI;clear an aU;have ai:=J9 ai;have B0:=J9 B0;have ap:=J9 aL;have bb:=J9 a0;obtain ⟨ax,aP⟩:∃ ao:Int,(if M=6 then 2 else 0)=ao:=⟨_,rfl⟩;obtain ⟨v,aF⟩:∃ ao:Int,(if M=6 then 3 else 1)=ao:=⟨_,rfl⟩;obtain ⟨ac,aH⟩:∃ ao:Int,M=ao:=⟨_,rfl⟩;rw [aP,aF,aH];have aS:=J9 aH;obtain ⟨a8,aM⟩:=N9 ((if aC then ((2,ax,0):Tr) else if az then (2,v,0) else if aD then (3,ac,0) else if ay then (4,ac,0) else (a,c,d)));rw [aM];have HR:=J9 aM;clear aM;have a2:=J9 aP;have aY:=J9 aF;clear aG aN aP aF aH;rcases aX with rfl | rfl
 all_goals
  go_enter func305,ntmps305
  go_wp2_with fail
  refine (register_any _ aq).mono ?_;rintro af ab ⟨rfl,e⟩;have aE:Hid (qaL ab (h+1)):=ai.o.below e;have au:=J9 (B0.o.trans (e.mono (by omega)));have a1:h+2<=ab.heap.size:=by have:=e.size;omega
  have aJ:=(e.cell (show b<aq.heap.size by omega)).trans aI;have E:=(e.cell (show h<aq.heap.size by omega)).trans y;have J:=(e.cell (show h<aq.heap.size by omega)).trans n;have G:=(e.cell (show h<aq.heap.size by omega)).trans u;clear y n u;have y:=E;have n:=J;have u:=G;clear E J G e ai B0 aQ aI aT;simp only [trV];cases aC
  rotate_left
  ·go_wp2_with fail
   refine Calls.mono (?_:Calls _ _ _ _ (qcg ab (2,ax,0))) ?_
   ·rw [<- a2.o];exact qov _ ab
   rintro af z ⟨rfl,e⟩;have ae:Hid (qaL z (h+1)):=aE.o.below e;have ah:=J9 (au.o.trans (e.mono (by omega)));clear e aE au aJ y n u;simp only [trV];obtain ⟨aA,aw,ar,av⟩:=ae.o.cells;go_wp2;obtain ⟨aB,aa,i,Z,-⟩:=qaU ae.o 2 ax 0;rw [aa];have U:=C9 i 0;have V:=C9 i 1;have O:=C9 i 2;refine bodyPost_ret (v:=trV (2,ax,0)) ?_ rfl ?_
   ·simp [results,results305,go_sem,U,V,O,trV]
   ·exact ⟨by rw [<- HR.o];rfl,by rw [ap.o];exact ah.o.trans (Z.mono (by omega))⟩
  go_wp2_with fail
  refine (register_any _ ab).mono ?_;rintro af z ⟨rfl,e⟩;have ae:Hid (qaL z (h+1)):=aE.o.below e;have ah:=J9 (au.o.trans (e.mono (by omega)));have a4:h+2<=z.heap.size:=by have:=e.size;omega
  have aO:=(e.cell (show b<ab.heap.size by omega)).trans aJ;have E:=(e.cell (show h<ab.heap.size by omega)).trans y;have J:=(e.cell (show h<ab.heap.size by omega)).trans n;have G:=(e.cell (show h<ab.heap.size by omega)).trans u;clear y n u;have y:=E;have n:=J;have u:=G;clear E J G e aE au a1 aJ;simp only [trV];cases az
  rotate_left
  ·go_wp2_with fail
   refine Calls.mono (?_:Calls _ _ _ _ (qcg z (2,v,0))) ?_
   ·rw [<- aY.o];exact qov _ z
   rintro af K ⟨rfl,e⟩;have ag:Hid (qaL K (h+1)):=ae.o.below e;have ak:=J9 (ah.o.trans (e.mono (by omega)));clear e ae ah aO y n u;simp only [trV];obtain ⟨aA,aw,ar,av⟩:=ag.o.cells;go_wp2;obtain ⟨aB,aa,i,Z,-⟩:=qaU ag.o 2 v 0;rw [aa];have U:=C9 i 0;have V:=C9 i 1;have O:=C9 i 2;refine bodyPost_ret (v:=trV (2,v,0)) ?_ rfl ?_
   ·simp [results,results305,go_sem,U,V,O,trV]
   ·exact ⟨by rw [<- HR.o];rfl,by rw [ap.o];exact ak.o.trans (Z.mono (by omega))⟩
  go_wp2_with fail
  refine (pair_any _ z).mono ?_;rintro af K ⟨rfl,e⟩;have ag:Hid (qaL K (h+1)):=ae.o.below e;have ak:=J9 (ah.o.trans (e.mono (by omega)));have aW:h+2<=K.heap.size:=by have:=e.size;omega
  have aK:=(e.cell (show b<z.heap.size by omega)).trans aO;have E:=(e.cell (show h<z.heap.size by omega)).trans y;have J:=(e.cell (show h<z.heap.size by omega)).trans n;have G:=(e.cell (show h<z.heap.size by omega)).trans u;clear y n u;have y:=E;have n:=J;have u:=G;clear E J G e ae ah a4 aO;simp only [trV];cases aD
  rotate_left
  ·go_wp2_with fail
   refine Calls.mono (?_:Calls _ _ _ _ (qcg K (3,ac,0))) ?_
   ·rw [<- aS.o];exact pair_any _ K
   rintro af aj ⟨rfl,e⟩;have ad:Hid (qaL aj (h+1)):=ag.o.below e;have am:=J9 (ak.o.trans (e.mono (by omega)));clear e ag ak aK y n u;simp only [trV];obtain ⟨aA,aw,ar,av⟩:=ad.o.cells;go_wp2;obtain ⟨aB,aa,i,Z,-⟩:=qaU ad.o 3 ac 0;rw [aa];have U:=C9 i 0;have V:=C9 i 1;have O:=C9 i 2;refine bodyPost_ret (v:=trV (3,ac,0)) ?_ rfl ?_
   ·simp [results,results305,go_sem,U,V,O,trV]
   ·exact ⟨by rw [<- HR.o];rfl,by rw [ap.o];exact am.o.trans (Z.mono (by omega))⟩
  go_wp2_with fail
  refine (tpointer_any _ K).mono ?_;rintro af aj ⟨rfl,e⟩;have ad:Hid (qaL aj (h+1)):=ag.o.below e;have am:=J9 (ak.o.trans (e.mono (by omega)));have a6:h+2<=aj.heap.size:=by have:=e.size;omega
  have aZ:=(e.cell (show b<K.heap.size by omega)).trans aK;have E:=(e.cell (show h<K.heap.size by omega)).trans y;have J:=(e.cell (show h<K.heap.size by omega)).trans n;have G:=(e.cell (show h<K.heap.size by omega)).trans u;clear y n u;have y:=E;have n:=J;have u:=G;clear E J G e ag ak aW aK;simp only [trV];cases ay
  rotate_left
  ·go_wp2_with fail
   refine Calls.mono (?_:Calls _ _ _ _ (qcg aj (4,ac,0))) ?_
   ·rw [<- aS.o];exact tpointer_any _ aj
   rintro af a5 ⟨rfl,e⟩;have aR:Hid (qaL a5 (h+1)):=ad.o.below e;have aV:=J9 (am.o.trans (e.mono (by omega)));clear e ad am aZ y n u;simp only [trV];obtain ⟨aA,aw,ar,av⟩:=aR.o.cells;go_wp2;obtain ⟨aB,aa,i,Z,-⟩:=qaU aR.o 4 ac 0;rw [aa];have U:=C9 i 0;have V:=C9 i 1;have O:=C9 i 2;refine bodyPost_ret (v:=trV (4,ac,0)) ?_ rfl ?_
   ·simp [results,results305,go_sem,U,V,O,trV]
   ·exact ⟨by rw [<- HR.o];rfl,by rw [ap.o];exact aV.o.trans (Z.mono (by omega))⟩
  obtain ⟨aA,aw,ar,av⟩:=ad.o.cells;go_wp2;obtain ⟨aB,aa,i,Z,-⟩:=qaU ad.o a c d;rw [aa];have U:=C9 i 0;have V:=C9 i 1;have O:=C9 i 2;refine bodyPost_ret (v:=trV (a,c,d)) ?_ rfl ?_
  ·simp [results,results305,go_sem,U,V,O,trV]
  ·exact ⟨by rw [<- HR.o];rfl,by rw [ap.o];exact am.o.trans (Z.mono (by omega))⟩
theorem qyS (b:Nat) (h:Int) (z:h=5\/h=6) (o:Tr) (w:World) (E:w.cell? ⟨b,6,none⟩=some (.int .i64 h)):Calls prog 305 #[.pointer (some ⟨b,0,none⟩),trV o] w (qcg w (opX h o)):=by
 have y:=qBu b h z o.1 o.2.1 o.2.2 _ _ _ _ (fun w=>qjQ o (1,4,0) w) (fun w=>qjQ o (1,5,0) w) (fun w=>qjQ o (3,2,0) w) (fun w=>qjQ o (4,2,0) w) w E;simp only [Ql] at y;exact y
end Go.Proofs.YtjafbmfcedijmaaGreatDoor
namespace Go.Proofs.YtjafbmfcedijmaaGreatDoor
open Tryz
open Go.RowKit Go.Shelf
attribute [local irreducible] Go.Mixed.qD8
theorem qh3:∀ (L:List Tr) (k:Nat) (x:Tr) (t:k<L.length),(((cellsT L).set (k*3) (.int .i64 x.1)).set (k*3+1) (.int .i64 x.2.1)).set (k*3+2) (.int .i64 x.2.2)=cellsT (L.set k x)
 | e :: h,0,x,t=>rfl
 | e :: h,k+1,x,t=>by
  have E:=qh3 h k x (by simpa using t);rw [show (k+1)*3+2=(k*3+2)+1+1+1 by omega,show (k+1)*3+1=(k*3+1)+1+1+1 by omega,show (k+1)*3=(k*3)+1+1+1 by omega];have y:∀ e:Tr,∀ z:List Tr,cellsT (e :: z)=.int .i64 e.1 :: .int .i64 e.2.1 :: .int .i64 e.2.2 :: cellsT z:=fun _ _=>rfl
  show _=cellsT (e :: h.set k x);rw [y,y,<- E];rfl
theorem qah.put3 {w:World} {B g cap n:Nat} {L:List Tr} (h:qah w B (.slice (some ⟨g,0,none⟩) n cap) L) (y:L.length=n) (k:Nat) (z:k<n) (x:Tr) :
  qah (((w.setCell ⟨g,k*3,none⟩ (.int .i64 x.1)).setCell ⟨g,k*3+1,none⟩ (.int .i64 x.2.1)).setCell ⟨g,k*3+2,none⟩ (.int .i64 x.2.2)) B (.slice (some ⟨g,0,none⟩) n cap) (L.set k x):=by
 unfold qah at h |-;rw [y] at h;rw [List.length_set,y,<- qh3 L k x (by omega)];exact (World.ownsRow.stored (World.ownsRow.stored (World.ownsRow.stored h (k*3) _).1 (k*3+1) _).1 (k*3+2) _).1
theorem qcK {w:World} {base:Nat} {e:TypeId} {size n:Nat} {v:Value} {xs:List Value} (z:w.ownsRow base e size v n xs) {p:Addr} (E:∀ g,v.ownBlock=some g->g≠p.block) (u:Value):(w.setCell p u).ownsRow base e size v n xs:=
 World.ownsRow.kept z (row:=some p.block) ⟨rfl,rfl,rfl,by simp,fun k _ y=>heap_setCell_other w p k u (fun e=>y (by rw [e]))⟩ (by
  cases e:v.ownBlock with
  | none=>exact .inl rfl
  | some g=>exact .inr (fun h=>E g e (by cases h;rfl)))
def qcl (w:World) (b:Nat) (h z:Int) (m:Str) (v:Value) (ex:Str) (al:Bool) (y:Int):Prop:=
 w.heap[b]?=some (.cells #[.int .i64 h,.int .u8 z,.string (sB m),v,.string (sB ex),.bool al,.int .i64 y] 336 (0,0))
section
variable {w w':World} {b:Nat} {page op ix:Int} {m ex:Str} {v:Value} {al:Bool}
theorem qcl.lt (h:qcl w b page op m v ex al ix):b<w.heap.size:=(Qb.1 h).1
theorem qcl.below {B:Nat} (y:qcl w b page op m v ex al ix) (h:Below B w w') (z:b<B):qcl w' b page op m v ex al ix:=(h.block b z).trans y
theorem qcl.all (h:qcl w b page op m v ex al ix) (y:Below w.heap.size w w'):qcl w' b page op m v ex al ix:=h.below y h.lt
theorem qcl.cells (h:qcl w b page op m v ex al ix):w.cell? ⟨b,0,none⟩=some (.int .i64 page)/\w.cell? ⟨b,1,none⟩=some (.int .u8 op)/\w.cell? ⟨b,2,none⟩=some (.string (sB m))/\w.cell? ⟨b,3,none⟩=some v/\w.cell? ⟨b,4,none⟩=some (.string (sB ex))/\w.cell? ⟨b,5,none⟩=some (.bool al)/\w.cell? ⟨b,6,none⟩=some (.int .i64 ix)/\∀ j,w.frozen? ⟨b,j,none⟩=false:=
 ⟨C9 h 0,C9 h 1,C9 h 2,C9 h 3,C9 h 4,C9 h 5,C9 h 6,Qr h⟩
theorem qcl.apart (z:qcl w b page op m v ex al ix) {g:Nat} {y:Array Value} (h:w.heap[g]?=some (.cells y 57 (0,0))):g≠b:=by
 rintro rfl;rw [show w.heap[g]?=_ from z] at h;simp at h
theorem qcl.qEA (y:qcl w b page op m v ex al ix) (h:Value):qcl (w.setCell ⟨b,3,none⟩ h) b page op m h ex al ix:=heap_setCell_same w b 3 _ _ h y
theorem qcl.qEy (y:qcl w b page op m v ex al ix) (h:Str):qcl (w.setCell ⟨b,4,none⟩ (.string (sB h))) b page op m v h al ix:=heap_setCell_same w b 4 _ _ _ y
theorem qcl.qEv (y:qcl w b page op m v ex al ix) (h:Bool):qcl (w.setCell ⟨b,5,none⟩ (.bool h)) b page op m v ex h ix:=heap_setCell_same w b 5 _ _ _ y
theorem qcl.qEI (y:qcl w b page op m v ex al ix) (h:Int):qcl (w.setCell ⟨b,1,none⟩ (.int .u8 h)) b page h m v ex al ix:=heap_setCell_same w b 1 _ _ _ y
theorem qcl.other (y:qcl w b page op m v ex al ix) {g:Nat} (h:b≠g) (j:Nat) (u:Value):qcl (w.setCell ⟨g,j,none⟩ u) b page op m v ex al ix:=(heap_setCell_other w ⟨g,j,none⟩ b u h).trans y
end
def qog (h:Int):List Tr->List Tr
 | []=>[]
 | x :: t=>if x=(4,2,0) then (5,h,0) :: t else x :: qog h t
theorem qoC (t:Int):∀ (L:List Tr) (j:Nat),(∃ h:j<L.length,L[j]=(4,2,0))->(∀ k,k<j->∀ (a:k<L.length),L[k]≠(4,2,0))->qog t L=L.set j (5,t,0)
 | [],j,⟨h,_⟩,_=>by simp at h
 | x :: z,0,⟨_,e⟩,_=>by
  simp only [List.getElem_cons_zero] at e;unfold qog;rw [Qk e];rfl
 | x :: z,j+1,⟨h,e⟩,y=>by
  unfold qog;have E:x≠(4,2,0):=y 0 (by omega) (by simp);rw [Qd E,qoC t z j ⟨by simpa using h,by simpa using e⟩ (fun k G a=>by
   have:=y (k+1) (by omega) (by simpa using a);simpa using this)]
  rfl
theorem qoE (h:Int):∀ L:List Tr,(qog h L).length=L.length
 | []=>rfl
 | x :: t=>by unfold qog;split <;> simp [qoE h t]
structure Fr (w:World) (b:Nat) (v:Value) (w':World):Prop where
 size:w.heap.size<=w'.heap.size
 same:∀ k,k<w.heap.size->k≠b->v.ownBlock≠some k->w'.heap[k]?=w.heap[k]?
theorem Fr.of_below {w w':World} {b:Nat} {v:Value} (h:Below w.heap.size w w'):Fr w b v w':=⟨h.size,fun k y _ _=>h.block k y⟩
theorem Fr.below {w w' z:World} {b:Nat} {v:Value} (h:Fr w b v w') (E:Below w'.heap.size w' z):Fr w b v z:=
 ⟨Qm h.size E.size,fun k y J G=>(E.block k (Zo y h.size)).trans (h.same k y J G)⟩
theorem Fr.set {w w':World} {b:Nat} {v:Value} (z:Fr w b v w') {p:Addr} (e:p.block=b\/v.ownBlock=some p.block) (u:Value):Fr w b v (w'.setCell p u):=
 ⟨by simpa using z.size,fun y G k E=>(heap_setCell_other w' p y u (fun h=>by rcases e with e | e;exact k (h.trans e);exact E (by rw [e,h]))).trans (z.same y G k E)⟩
def qif (m:Str) (L:List Tr):Bool:=decide ((4,2,0)∈L)&&!decide (m=[74,80])
def qAo (w:World) (b B:Nat) (y z:Int) (m:Str) (v:Value) (ex:Str) (al:Bool) (h:Int) (L:List Tr) (e:Ending) (w':World):Prop:=
 e=.returned (.bool (qif m L))/\qcl w' b y z m v (if qif m L then 100 :: ex else ex) al h/\qah w' B v (if qif m L then qog h L else L)/\Below B w w'/\Fr w b v w'
theorem qii (b B:Nat) (V aa:Int) (m:Str) (v:Value) (ex:Str) (al:Bool) (h:Int) (L:List Tr) (a4:L.length<=100) (aR:ex.length<=1000) (w:World)
  (X:qcl w b V aa m v ex al h) (ah:qah w B v L) (a1:B<=b):Calls prog 288 #[.pointer (some ⟨b,0,none⟩)] w (qAo w b B V aa m v ex al h L):=by
 obtain ⟨E,n,rfl,aW,be⟩:=ah.ops;obtain ⟨y,aq⟩:=N9 (L.length);rw [aq] at X ah a4 be |-;obtain ⟨an,ao,av,ad,aj,am,ai,au⟩:=X.cells;have az:w.drew.cell? ⟨b,3,none⟩=some (.slice E y n):=ad;have aG:=fun aB O=>qim E n L (by unfold maxLen;omega) (4,2,0) aB O
 rw [aq] at aG;have aZ:=J9 X;have aP:=J9 ah;have aI:=J9 aW;have G:=J9 aq;have bg:=J9 aR;have ay:Hid (B<=w.heap.size):=by have:=X.lt;show B<=_;omega
 clear X ah aW aq aR an ao av ad aj am ai au
 go_enter func288,ntmps288
 go_wp2;obtain ⟨af,z⟩:=N9 (w.drew);rw [z] at az;have aQ:=J9 az;have a0:Hid (qcl af b V aa m (.slice E y n) ex al h):=by rw [<- z];exact aZ.o
 have aO:Hid (qah af B (.slice E y n) L):=by rw [<- z];exact aP.o.below (below_drewN w _ 1)
 have aT:Hid (qaj af E L):=by rw [<- z];exact aI.o.below (below_drewN w _ 1)
 have ax:Hid (Below w.heap.size w af):=by rw [<- z];exact below_drewN w _ 1
 refine Mixed.qD5 (fun aB=>aB.cell? ⟨b,3,none⟩=some (.slice E y n)) 7 [(0,true),(1,true),(2,true),(3,true),(4,true),(5,true),(6,false)] (by kernel_rfl) (by kernel_rfl) (by rw [z];exact aQ.o) ?_;rw [z];clear aZ aP aI z aQ az;refine Mixed.qD7 rfl (by kernel_rfl) _ rfl _ rfl ?_;refine Mixed.mo rfl (.pointer (some ⟨b,0,none⟩)) (fun w O=>by go_simp;try rfl) ?_;refine Mixed.mo rfl (.pointer (some ⟨b,0,none⟩)) (fun w O=>by go_simp;try rfl) ?_;refine Mixed.mo rfl (.pointer (some ⟨b,2,none⟩)) (fun w O=>by go_simp;try rfl) ?_;refine Mixed.mo rfl (.pointer (some ⟨b,3,none⟩)) (fun w O=>by go_simp;try rfl) ?_;refine Mixed.mo rfl (.slice E y n) (fun w O=>by go_simp;try rfl) ?_;refine Mixed.qD6 rfl (by kernel_rfl) ?_
 go_wp2_with fail
 refine (tpointer_any 2 af).mono ?_;rintro aC bf ⟨rfl,ae⟩;have aD:=J9 (a0.o.all ae);have aL:=J9 (aO.o.below ae);have aH:=J9 (aT.o.below ae);have aA:=J9 (ax.o.trans (ae.mono ax.o.size));have aS:=(aD.o.cells).2.2.2.1;clear a0 aO aT ax ae;go_wp2;refine ⟨aS,?_⟩;clear aS;simp only [Mixed.qD8,Qq,Qy,trV];have aU:=aG bf aH.o;clear aG
 go_wp2_with fail
 refine aU.mono ?_;rintro aC ab ⟨a7,ap⟩;have A:=J9 (aD.o.all ap);have ag:=J9 (aL.o.below ap);have M:=J9 (aA.o.trans (ap.mono aA.o.size));clear aD aL aH aA ap aU;have a8:b<ab.heap.size:=A.o.lt;rcases a7 with ⟨aX,rfl⟩ | ⟨e,a9,aE,rfl⟩
 ·have j:Hid (qif m L=false):=by show qif m L=_;unfold qif;rw [Qf aX];rfl
  clear aX;go_wp2;go_ret;refine ⟨qaa j.o.symm,?_,?_,M.o.mono ay.o,Fr.of_below M.o⟩
  ·rw [j.o];exact A.o
  ·rw [j.o];exact ag.o
 ·obtain ⟨ac,ak⟩:=a9
  have aF:(4,2,0)∈L:=by rw [<- ak];exact QB ac
  have a2:Hid (qog h L=L.set e (5,h,0)):=qoC h L e ⟨ac,ak⟩ aE;have aJ:e<y:=by rw [<- G.o];exact ac
  obtain ⟨g,bj,Z,bo,⟨bk,aw⟩,-,aM⟩:=ag.o.form (by omega);rw [G.o] at Z;cases Z;obtain ⟨an,ao,av,ad,aj,am,ai,au⟩:=A.o.cells;have ar:g≠b:=A.o.apart aw;have bb:=J9 aw;by_cases J:m=[74,80]
  ·have j:Hid (qif m L=false):=by show qif m L=_;unfold qif;rw [Qn J];simp
   have bh:((sB m).toList == [74,80])=true:=(by rw [qdh];exact Qn J);clear J aF ak ac aE aw;go_wp2;go_ret;refine ⟨qaa j.o.symm,?_,?_,M.o.mono ay.o,Fr.of_below M.o⟩
   ·rw [j.o];exact A.o
   ·rw [j.o];exact ag.o
  ·have j:Hid (qif m L=true):=by show qif m L=_;unfold qif;rw [Qn aF,Qf J];rfl
   have bh:((sB m).toList == [74,80])=false:=(by rw [qdh];exact Qf J);have bm:(⟨#[100]⟩:ByteArray).size+(sB ex).size<=2000:=(by have:=bg.o;rw [qaH];show 1+_<=_;omega);clear J aF ak ac aE aw;go_wp2
   go_still_tail 12,(by kernel_rfl)
   change wpList _ _ _ _ _ ab.drew;obtain ⟨K,U⟩:=N9 (ab.drew);have aV:Hid (qcl K b V aa m (.slice (some ⟨g,0,none⟩) y n) ex al h):=(by rw [<- U];exact A.o);have aK:Hid (qah K B (.slice (some ⟨g,0,none⟩) y n) L):=(by rw [<- U];exact ag.o.below (below_drewN ab _ 1));have aN:Hid (Below w.heap.size w K):=(by rw [<- U];exact M.o.trans (below_drewN ab _ 1));rw [U];clear A ag M an ao av ad aj am ai au aM bb U a8;obtain ⟨an,ao,av,ad,aj,am,ai,au⟩:=aV.o.cells;obtain ⟨a5,bl,Z,-,-,aY,aM⟩:=aK.o.form (by have:=G.o;omega);rw [G.o] at Z;cases Z;obtain ⟨bi,bn,bp⟩:=aY e (by rw [G.o];exact aJ);clear aY;have bc:Hid (qah (((K.setCell ⟨g,e*3,none⟩ (.int .i64 5)).setCell ⟨g,e*3+1,none⟩ (.int .i64 h)).setCell ⟨g,e*3+2,none⟩ (.int .i64 0)) B (.slice (some ⟨g,0,none⟩) y n) (L.set e (5,h,0))):=aK.o.put3 G.o e aJ (5,h,0);have a6:Hid (qcl (((K.setCell ⟨g,e*3,none⟩ (.int .i64 5)).setCell ⟨g,e*3+1,none⟩ (.int .i64 h)).setCell ⟨g,e*3+2,none⟩ (.int .i64 0)) b V aa m (.slice (some ⟨g,0,none⟩) y n) ex al h):=((aV.o.other ar.symm _ _).other ar.symm _ _).other ar.symm _ _;have a3:Hid (Below B w (((K.setCell ⟨g,e*3,none⟩ (.int .i64 5)).setCell ⟨g,e*3+1,none⟩ (.int .i64 h)).setCell ⟨g,e*3+2,none⟩ (.int .i64 0))):=
    (((aN.o.mono ay.o).setCell (p:=⟨g,e*3,none⟩) (by simp;omega) _).setCell (p:=⟨g,e*3+1,none⟩) (by simp;omega) _).setCell (p:=⟨g,e*3+2,none⟩) (by simp;omega) _
   go_wp2;have bd:(⟨#[100]⟩:ByteArray)++sB ex=sB (100 :: ex):=qhe [100] ex;rw [bd];go_ret;refine ⟨qaa j.o.symm,?_,?_,a3.o.setCell (p:=⟨b,4,none⟩) a1 _,((((Fr.of_below aN.o).set (p:=⟨g,e*3,none⟩) (.inr rfl) _).set (p:=⟨g,e*3+1,none⟩) (.inr rfl) _).set (p:=⟨g,e*3+2,none⟩) (.inr rfl) _).set (p:=⟨b,4,none⟩) (.inl rfl) _⟩
   ·rw [j.o];exact a6.o.qEy (100 :: ex)
   ·rw [j.o]
    show qah _ _ _ (qog h L);rw [a2.o];exact qcK bc.o (p:=⟨b,4,none⟩) (fun a5 aC=>by cases aC;exact ar) _
end Go.Proofs.YtjafbmfcedijmaaGreatDoor
namespace Go.Proofs.YtjafbmfcedijmaaGreatDoor
open Tryz
open Go.RowKit Go.Shelf
attribute [local irreducible] Go.Mixed.qD8
def qqu (o:Int) (L:List Tr):Bool:=L.any fun h=>!decide (opX o h=h)
def mpx (h:Int) (L:List Tr) (j:Nat):List Tr:=(L.take j).map (opX h)++L.drop j
theorem qi6 (h:Int) (L:List Tr) (j:Nat):(mpx h L j).length=L.length:=by unfold mpx;simp;omega
theorem qwJ (e:Int) (L:List Tr) (j:Nat) (y:j<L.length) (z:j<(mpx e L j).length):(mpx e L j)[j]=L[j]:=by
 have h:(mpx e L j)[j]?=L[j]?:=by
  unfold mpx;rw [Zj (by simp;omega)];simp [Nat.min_eq_left (Zb y)]
 rw [Qi z,Qi y] at h;exact Qw h
theorem qnB (h:Int) (L:List Tr) (j:Nat) (y:j<L.length):mpx h L (j+1)=(mpx h L j).set j (opX h L[j]):=by
 have z:((L.take j).map (opX h)).length=j:=by simp;omega
 unfold mpx;rw [List.set_append_right _ _ (by omega),z,Nat.sub_self,Qx y,Zc,Ze,Zv y];rfl
theorem qxt (e:Int) (L:List Tr) (j:Nat) (y:j<L.length) (z:j<(mpx e L (j+1)).length):(mpx e L (j+1))[j]=opX e L[j]:=by
 have h:(mpx e L (j+1))[j]?=some (opX e L[j]):=by rw [qnB e L j y,List.getElem?_set_self (by rw [qi6];exact y)]
 rw [Qi z] at h;exact Qw h
theorem qrz (h:Int) (L:List Tr) (j:Nat) (y:j<L.length):qqu h (L.take (j+1))=(qqu h (L.take j)||!decide (opX h L[j]=L[j])):=by
 unfold qqu;rw [Qx y,List.any_append];simp
theorem qze (h:Int) (L:List Tr):mpx h L L.length=L.map (opX h):=by unfold mpx;simp
def qez (m:Str) (h:Int) (L:List Tr):Bool:=!(decide (m=[69,88])&&decide ((3,1,0)∈L))&&qqu h L
def qzL (w:World) (b B:Nat) (y z:Int) (m:Str) (v:Value) (ex:Str) (al:Bool) (h:Int) (L:List Tr) (e:Ending) (w':World):Prop:=
 e=.returned (.bool (qez m h L))/\qcl w' b y z m v ex al h/\(qez m h L=true->qah w' B v (L.map (opX h)))/\Below B w w'/\Fr w b v w'
theorem qpW (b B:Nat) (aw ay:Int) (m:Str) (v:Value) (ex:Str) (al:Bool) (e:Int) (bj:e=5\/e=6) (L:List Tr) (bE:L.length<=100) (w:World)
  (X:qcl w b aw ay m v ex al e) (aO:qah w B v L) (bS:B<=b):Calls prog 289 #[.pointer (some ⟨b,0,none⟩)] w (qzL w b B aw ay m v ex al e L):=by
 obtain ⟨n,i,rfl,be,bN⟩:=aO.ops;obtain ⟨h,aK⟩:=N9 (L.length);rw [aK] at X aO bE bN |-;have bB:Hid (B<=w.heap.size):=by have:=X.lt;show B<=_;omega
 have aW:=J9 X;have aQ:=J9 aO;have aq:=J9 aK;have bC:=J9 bj;obtain ⟨ao,ap,av,ar,am,an,ak,au⟩:=X.cells;clear X aO bj;by_cases aB:m=[69,88]
 focus
  have bO:((sB m).toList == [69,88])=true:=by rw [qdh];exact Qn aB
  have bM:=J9 aB;have a7:=fun ad g=>qjx n i L (by unfold maxLen;omega) (3,1,0) ad g
  rw [aK] at a7;have bh:=J9 be;clear aB be aK
  go_enter func289,ntmps289
  go_wp2;obtain ⟨K,q⟩:=N9 (w.drew);have V:Hid (qcl K b aw ay m (.slice n h i) ex al e):=by rw [<- q];exact aW.o
  have ax:Hid (qah K B (.slice n h i) L):=by rw [<- q];exact aQ.o.below (below_drewN w _ 1)
  have bq:Hid (qaj K n L):=by rw [<- q];exact bh.o.below (below_drewN w _ 1)
  have ae:Hid (Below w.heap.size w K):=by rw [<- q];exact below_drewN w _ 1
  have bm:Hid (K.cell? ⟨b,3,none⟩=some (.slice n h i)/\K.cell? ⟨b,2,none⟩=some (.string (sB m))):=⟨V.o.cells.2.2.2.1,V.o.cells.2.2.1⟩;refine Mixed.qD5 (fun ad=>ad.cell? ⟨b,3,none⟩=some (.slice n h i)/\ad.cell? ⟨b,2,none⟩=some (.string (sB m))) 15 [(0,true),(1,true),(2,true),(3,true),(4,true),(5,true),(6,true),(7,true),(8,true),(9,true),(10,true),(11,true),(12,true),(13,true),(14,false)] (by kernel_rfl) (by kernel_rfl) (by rw [q];exact bm.o) ?_;rw [q];clear aW aQ bh q bm ao ap av ar am an ak au;refine Mixed.qD7 rfl (by kernel_rfl) _ rfl _ rfl ?_;refine Mixed.mo rfl (.pointer (some ⟨b,0,none⟩)) (fun w g=>by go_simp;try rfl) ?_;refine Mixed.mo rfl (.pointer (some ⟨b,0,none⟩)) (fun w g=>by go_simp;try rfl) ?_;refine Mixed.mo rfl (.pointer (some ⟨b,2,none⟩)) (fun w g=>by go_simp;try rfl) ?_;refine Mixed.mo rfl (.pointer (some ⟨b,2,none⟩)) (fun w g=>by go_simp;try rfl) ?_;refine Mixed.mo rfl (.string (sB m)) (fun w g=>by obtain ⟨-,bI⟩:=g;go_simp;try rfl) ?_;refine Mixed.mo rfl (.bool true) (fun w g=>by go_simp;try rfl) ?_;refine Mixed.mo rfl (.bool true) (fun w g=>by go_simp;try rfl) ?_;refine Mixed.mo rfl (.pointer (some ⟨b,0,none⟩)) (fun w g=>by go_simp;try rfl) ?_;refine Mixed.mo rfl (.pointer (some ⟨b,0,none⟩)) (fun w g=>by go_simp;try rfl) ?_;refine Mixed.mo rfl (.pointer (some ⟨b,0,none⟩)) (fun w g=>by go_simp;try rfl) ?_;refine Mixed.mo rfl (.pointer (some ⟨b,2,none⟩)) (fun w g=>by go_simp;try rfl) ?_;refine Mixed.mo rfl (.pointer (some ⟨b,3,none⟩)) (fun w g=>by go_simp;try rfl) ?_;refine Mixed.mo rfl (.slice n h i) (fun w g=>by obtain ⟨bu,-⟩:=g;go_simp;try rfl) ?_;refine Mixed.qD6 rfl (by kernel_rfl) ?_
  go_wp2_with fail
  refine (pair_any 1 K).mono ?_;rintro br J ⟨rfl,aM⟩;have ab:=J9 (V.o.all aM);have aD:=J9 (ax.o.below aM);have bg:=J9 (bq.o.below aM);have ah:=J9 (ae.o.trans (aM.mono ae.o.size));have aE:J.cell? ⟨b,3,none⟩=some (.slice n h i)/\J.cell? ⟨b,2,none⟩=some (.string (sB m)):=⟨ab.o.cells.2.2.2.1,ab.o.cells.2.2.1⟩;clear V ax bq ae aM;go_wp2;refine ⟨aE,?_⟩;clear aE;simp only [Mixed.qD8,Qq,Qy,trV];have a3:=a7 J bg.o;clear a7;obtain ⟨j,aj⟩:=N9 (decide (((3:Int),(1:Int),(0:Int))∈L));have bl:=J9 aj;rw [aj] at a3;clear aj
  go_wp2_with fail
  refine a3.mono ?_;rintro br a5 ⟨rfl,aJ⟩;have V:=J9 (ab.o.all aJ);have ax:Hid (qah a5 B (.slice n h i) (mpx e L 0)):=aD.o.below aJ;have aV:Hid (Fr w b (.slice n h i) a5):=Fr.of_below (ah.o.trans (aJ.mono ah.o.size));have ae:Hid (Below B w a5):=(ah.o.trans (aJ.mono ah.o.size)).mono bB.o;clear ab aD bg ah aJ a3;obtain ⟨ao,ap,av,ar,am,an,ak,au⟩:=V.o.cells;cases j
  rotate_left
  ·have aH:Hid (qez m e L=false):=by show qez m e L=_;unfold qez;rw [bl.o,bM.o];rfl
   go_wp2;go_ret;exact ⟨qaa aH.o.symm,V.o,fun g=>absurd g (by rw [aH.o];decide),ae.o,aV.o⟩
  have aH:Hid (qez m e L=qqu e L):=by show qez m e L=_;unfold qez;rw [bl.o];simp
  go_wp2
 rotate_left
 focus
  have bO:((sB m).toList == [69,88])=false:=by rw [qdh];exact Qf aB
  have aH:Hid (qez m e L=qqu e L):=by show qez m e L=_;unfold qez;rw [Qf aB];rfl
  clear aB be aK
  go_enter func289,ntmps289
  go_wp2
  go_quiet (fail)
  obtain ⟨K,q⟩:=N9 (w.drewN nq);have V:Hid (qcl K b aw ay m (.slice n h i) ex al e):=by rw [<- q];exact aW.o
  have ax:Hid (qah K B (.slice n h i) (mpx e L 0)):=by rw [<- q];exact aQ.o.below (below_drewN w _ nq)
  have ae:Hid (Below B w K):=by rw [<- q];exact below_drewN w _ nq
  have aV:Hid (Fr w b (.slice n h i) K):=Fr.of_below (by rw [<- q];exact below_drewN w _ nq);rw [q];clear aW aQ q ao ap av ar am an ak au;obtain ⟨ao,ap,av,ar,am,an,ak,au⟩:=V.o.cells;go_wp2
 all_goals
  go_loopw [30,3] (fun bc bJ wr=>∃ c:Nat,c<=h/\bc=.int .i64 c/\bJ=.bool (qqu e (L.take c))/\Hid (qcl wr b aw ay m (.slice n h i) ex al e)/\Hid (qah wr B (.slice n h i) (mpx e L c))/\Hid (Below B w wr)/\Hid (Fr w b (.slice n h i) wr)) (fun bc _ _=>h - (intOf bc).toNat)
  case atStart=>exact ⟨0,Qs _,rfl,rfl,V.o,ax.o,ae.o,aV.o⟩
  case round=>
   clear V ax ae aV;obtain ⟨c,b1,rfl,rfl,az,aR,a8,a4⟩:=hrel;by_cases aA:c<h
   ·have aG:c<L.length:=by rw [aq.o];exact aA
    have E:(mpx e L c).length=h:=(by rw [qi6];exact aq.o);obtain ⟨d,bR,ag,bY,⟨bV,bw⟩,ai,aZ⟩:=aR.o.form (by omega);rw [E] at ag;cases ag;have a9:d≠b:=az.o.apart bw;clear bw;obtain ⟨M,aa,ac⟩:=ai c (by rw [E];exact aA);rw [qwJ e L c aG] at M aa ac;obtain ⟨⟨z,A,y⟩,aT⟩:=N9 (L[c]);have bz:=J9 aT;rw [aT] at M aa ac;simp only at M aa ac;obtain ⟨ao,ap,av,ar,am,an,ak,au⟩:=az.o.cells;have bv:d<wr.heap.size:=Qp wr _ M;have bp:b<wr.heap.size:=az.o.lt;have af:=qrz e L c aG;rw [aT] at af;obtain ⟨bL,bx⟩:=N9 (qqu e (L.take c));rw [bx] at af |-;have af:=J9 af;clear ai aT E bx
    go_upto_region 7 with fail
    obtain ⟨j,aj⟩:=N9 (wr.heap.size);obtain ⟨J,aI⟩:=N9 ((wr.alloc (.cells #[.int .i64 z,.int .i64 A,.int .i64 y] 57)).drew);have aN:Below wr.heap.size wr J:=(by rw [<- aI];exact (B0).drew);have ab:=J9 (az.o.all aN);have aD:=J9 (aR.o.below aN);have ah:=J9 (a8.o.trans (aN.mono (by omega)));have bo:Hid (Fr w b (.slice (some ⟨d,0,none⟩) h i) J):=a4.o.below aN;have aL:J.heap[j]?=some (.cells #[.int .i64 z,.int .i64 A,.int .i64 y] 57 (0,0)):=(by rw [<- aI,<- aj];exact World.alloc_heap_new wr _);have b0:d<j:=(by rw [<- aj];exact bv);have bT:b<j:=(by rw [<- aj];exact bp);have a0:=J9 aL;have bs:Hid (J.cell? ⟨b,3,none⟩=some (.slice (some ⟨d,0,none⟩) h i)/\J.cell? ⟨j,0,none⟩=some (.int .i64 z)/\J.cell? ⟨j,1,none⟩=some (.int .i64 A)/\J.cell? ⟨j,2,none⟩=some (.int .i64 y)):=⟨ab.o.cells.2.2.2.1,C9 aL 0,C9 aL 1,C9 aL 2⟩;refine Mixed.qD5 (fun ad=>ad.cell? ⟨b,3,none⟩=some (.slice (some ⟨d,0,none⟩) h i)/\ad.cell? ⟨j,0,none⟩=some (.int .i64 z)/\ad.cell? ⟨j,1,none⟩=some (.int .i64 A)/\ad.cell? ⟨j,2,none⟩=some (.int .i64 y)) 10 [(0,true),(1,true),(2,true),(3,true),(4,true),(5,true),(6,true),(7,true),(8,true),(9,false)] (by kernel_rfl) (by kernel_rfl) (by rw [aI];exact bs.o) ?_;rw [aI];clear az aR a8 a4 aN aI ao ap av ar am an ak au M aa ac aZ bs aL bv bp;refine Mixed.qD7 rfl (by kernel_rfl) _ rfl _ rfl ?_;refine Mixed.mo rfl (.pointer (some ⟨b,0,none⟩)) (fun w g=>by go_simp;try rfl) ?_;refine Mixed.mo rfl (.pointer (some ⟨b,0,none⟩)) (fun w g=>by go_simp;try rfl) ?_;refine Mixed.mo rfl (.pointer (some ⟨b,2,none⟩)) (fun w g=>by go_simp;try rfl) ?_;refine Mixed.mo rfl (.pointer (some ⟨b,3,none⟩)) (fun w g=>by go_simp;try rfl) ?_;refine Mixed.mo rfl (.slice (some ⟨d,0,none⟩) h i) (fun w g=>by obtain ⟨bu,-⟩:=g;go_simp;try rfl) ?_;refine Mixed.mo rfl (.int .i64 c) (fun w g=>by go_simp;try rfl) ?_;refine Mixed.mo rfl (.pointer (some ⟨b,0,none⟩)) (fun w g=>by go_simp;try rfl) ?_;refine Mixed.mo rfl (.agg #[.int .i64 z,.int .i64 A,.int .i64 y]) (fun w g=>by obtain ⟨-,bu,bI,bW⟩:=g;subst aj;go_simp;try rfl) ?_;refine Mixed.qD6 rfl (by kernel_rfl) ?_;have aU:=qyS b e bC.o (z,A,y) J ab.o.cells.2.2.2.2.2.2.1;obtain ⟨⟨O,U,Z⟩,a6⟩:=N9 (opX e (z,A,y));have a2:=J9 a6;rw [a6] at aU;simp only [trV] at aU;clear a6
    go_wp2_with fail
    refine aU.mono ?_;rintro br G ⟨rfl,aC⟩;have bd:=J9 (ab.o.all aC);have aY:=J9 (aD.o.below aC);have bi:Hid (Below B w G):=ah.o.trans (aC.mono (by have:=ab.o.lt;omega));have bt:Hid (Fr w b (.slice (some ⟨d,0,none⟩) h i) G):=bo.o.below aC;have aF:=J9 ((aC.block j (Qb.1 a0.o).1).trans a0.o);have aE:G.cell? ⟨b,3,none⟩=some (.slice (some ⟨d,0,none⟩) h i)/\G.cell? ⟨j,0,none⟩=some (.int .i64 z)/\G.cell? ⟨j,1,none⟩=some (.int .i64 A)/\G.cell? ⟨j,2,none⟩=some (.int .i64 y):=⟨bd.o.cells.2.2.2.1,C9 aF.o 0,C9 aF.o 1,C9 aF.o 2⟩;clear aC aU ab aD ah bo a0;go_wp2;refine ⟨aE,?_⟩;clear aE;simp only [Mixed.qD8,Qq,Qy];have E:(mpx e L c).length=h:=(by rw [qi6];exact aq.o);obtain ⟨bF,bD,ag,-,-,ai,aZ⟩:=aY.o.form (by omega);rw [E] at ag;cases ag;obtain ⟨M,aa,ac⟩:=ai c (by rw [E];exact aA);rw [qwJ e L c aG] at M aa ac;have aX:Hid (qah (((G.setCell ⟨d,c*3,none⟩ (.int .i64 O)).setCell ⟨d,c*3+1,none⟩ (.int .i64 U)).setCell ⟨d,c*3+2,none⟩ (.int .i64 Z)) B (.slice (some ⟨d,0,none⟩) h i) (mpx e L (c+1))):=by
     have g:=aY.o.put3 E c aA (O,U,Z);rw [qnB e L c aG,bz.o,a2.o];exact g
    have aS:Hid (qcl (((G.setCell ⟨d,c*3,none⟩ (.int .i64 O)).setCell ⟨d,c*3+1,none⟩ (.int .i64 U)).setCell ⟨d,c*3+2,none⟩ (.int .i64 Z)) b aw ay m (.slice (some ⟨d,0,none⟩) h i) ex al e):=((bd.o.other a9.symm _ _).other a9.symm _ _).other a9.symm _ _;have a1:Hid (Below B w (((G.setCell ⟨d,c*3,none⟩ (.int .i64 O)).setCell ⟨d,c*3+1,none⟩ (.int .i64 U)).setCell ⟨d,c*3+2,none⟩ (.int .i64 Z))):=
     ((bi.o.setCell (p:=⟨d,c*3,none⟩) (by simp;omega) _).setCell (p:=⟨d,c*3+1,none⟩) (by simp;omega) _).setCell (p:=⟨d,c*3+2,none⟩) (by simp;omega) _
    have bf:Hid (Fr w b (.slice (some ⟨d,0,none⟩) h i) (((G.setCell ⟨d,c*3,none⟩ (.int .i64 O)).setCell ⟨d,c*3+1,none⟩ (.int .i64 U)).setCell ⟨d,c*3+2,none⟩ (.int .i64 Z))):=((bt.o.set (p:=⟨d,c*3,none⟩) (.inr rfl) _).set (p:=⟨d,c*3+1,none⟩) (.inr rfl) _).set (p:=⟨d,c*3+2,none⟩) (.inr rfl) _;have aP:Hid ((((G.setCell ⟨d,c*3,none⟩ (.int .i64 O)).setCell ⟨d,c*3+1,none⟩ (.int .i64 U)).setCell ⟨d,c*3+2,none⟩ (.int .i64 Z)).heap[j]?=some (.cells #[.int .i64 z,.int .i64 A,.int .i64 y] 57 (0,0))):=
     (heap_setCell_other _ ⟨d,c*3+2,none⟩ j _ (by simp;omega)).trans ((heap_setCell_other _ ⟨d,c*3+1,none⟩ j _ (by simp;omega)).trans ((heap_setCell_other _ ⟨d,c*3,none⟩ j _ (by simp;omega)).trans aF.o))
    clear ai E;simp only [trV]
    go_upto_region 8 with fail
    obtain ⟨bU,bk⟩:=N9 (((G.setCell ⟨d,c*3,none⟩ (.int .i64 O)).setCell ⟨d,c*3+1,none⟩ (.int .i64 U)).setCell ⟨d,c*3+2,none⟩ (.int .i64 Z));rw [bk] at aX aS a1 aP bf |-;clear bk M aa ac aZ aY bd bi aF bt;have E:(mpx e L (c+1)).length=h:=(by rw [qi6];exact aq.o);obtain ⟨bF,bD,ag,-,-,ai,-⟩:=aX.o.form (by omega);rw [E] at ag;cases ag;obtain ⟨M,aa,ac⟩:=ai c (by rw [E];exact aA);rw [qxt e L c aG,bz.o,a2.o] at M aa ac;simp only at M aa ac;obtain ⟨ao,ap,av,ar,am,an,ak,au⟩:=aS.o.cells;have bX:=C9 aP.o 0;have bZ:=C9 aP.o 1;have bQ:=C9 aP.o 2;have bA:∀ w,(binOp .neq 57 (.agg #[.int .i64 O,.int .i64 U,.int .i64 Z]) (.agg #[.int .i64 z,.int .i64 A,.int .i64 y])).run prog w=.ok (.bool (!decide ((O,U,Z)=(z,A,y)))) w:=(fun w=>qya (O,U,Z) (z,A,y) w);rw [a2.o] at af;obtain ⟨bK,bn⟩:=N9 ((!decide ((O,U,Z)=(z,A,y))));rw [bn] at bA af;clear ai E bn;have bP:=aA;cases bL
    ·have bb:Hid (qqu e (L.take (c+1))=bK):=af.o
     go_wp2
     go_quiet (fail)
     go_wp2;go_roundw
     case rel=>exact ⟨c+1,by omega,by go_num,by rw [bb.o],aS.o.all (below_drewN _ _ _),aX.o.below (below_drewN _ _ _),a1.o.trans (below_drewN _ _ _),bf.o.below (below_drewN _ _ _)⟩
     case measure=>simp [intOf];omega
    ·have bb:Hid (qqu e (L.take (c+1))=true):=af.o
     go_wp2
     go_quiet (fail)
     go_wp2;go_roundw
     case rel=>exact ⟨c+1,by omega,by go_num,by rw [bb.o],aS.o.all (below_drewN _ _ _),aX.o.below (below_drewN _ _ _),a1.o.trans (below_drewN _ _ _),bf.o.below (below_drewN _ _ _)⟩
     case measure=>simp [intOf];omega
   ·obtain rfl:c=h:=by omega
    have bG:Hid (qqu e (L.take c)=qez m e L):=by
     show qqu e (L.take c)=qez m e L;rw [aH.o,<- aq.o,List.take_length]
    have bH:Hid (qah wr B (.slice n c i) (L.map (opX e))):=by
     have g:=aR.o;rw [<- aq.o,qze] at g;rw [<- aq.o];exact g
    go_wp2;go_ret;exact ⟨qaa bG.o,az.o,fun _=>bH.o,a8.o,a4.o⟩
def qbU (m:Str) (h:Int) (L:List Tr) (ex:Str):Option (List Tr×Str):=
 if qif m L then some (qog h L,100 :: ex) else if qez m h L then some (L.map (opX h),ex) else none
theorem qoH (w:World) (h y G:Int) (m ex:Str) (v:Value) (al:Bool):∃ E,((w.alloc (.cells #[.int .i64 h,.int .u8 y,.string (sB m),v,.string (sB ex),.bool al] 163)).alloc (.cells #[.int .i64 0,.int .u8 0,.string ⟨#[]⟩,.slice none 0 0,.string ⟨#[]⟩,.bool false] 163)).alloc (.cells #[.int .i64 h,.int .u8 y,.string (sB m),v,.string (sB ex),.bool al,.int .i64 G] 336)=E/\
  qbs E (w.heap.size+1) 0 0 [] (.slice none 0 0) [] false/\qcl E (w.heap.size+1+1) h y m v ex al G/\Below w.heap.size w E:=by
 refine ⟨_,rfl,(Below.heap_alloc _ _ _ (by simp)).trans ?_,?_,(((B0 (w:=w))).alloc (by simp) _).alloc (by simp;omega) _⟩
 ·have z:=World.alloc_heap_new (w.alloc (.cells #[.int .i64 h,.int .u8 y,.string (sB m),v,.string (sB ex),.bool al] 163)) (.cells #[.int .i64 0,.int .u8 0,.string ⟨#[]⟩,.slice none 0 0,.string ⟨#[]⟩,.bool false] 163)
  rw [QL] at z;exact z
 ·have z:=World.alloc_heap_new ((w.alloc (.cells #[.int .i64 h,.int .u8 y,.string (sB m),v,.string (sB ex),.bool al] 163)).alloc (.cells #[.int .i64 0,.int .u8 0,.string ⟨#[]⟩,.slice none 0 0,.string ⟨#[]⟩,.bool false] 163)) (.cells #[.int .i64 h,.int .u8 y,.string (sB m),v,.string (sB ex),.bool al,.int .i64 G] 336)
  rw [QL,QL] at z;exact z
theorem qbH {w:World} {B:Nat} {v:Value} {L:List Tr} (z:qah w B v L) {g:Nat} (y:v.ownBlock=some g):∃ h,w.heap[g]?=some (.cells h 57 (0,0)):=by
 rcases z.2 with ⟨rfl,_⟩ | ⟨G,J,h,rfl,_,E,_⟩
 ·cases y
 ·cases y
  exact ⟨h,E⟩
def qxL (w:World) (B:Nat) (y z:Int) (m:Str) (v:Value) (al:Bool) (x:Option (List Tr×Str)) (e:Ending) (w':World):Prop:=
 (match x with
  | some h=>e=.returned (.tuple #[enV y z m v h.2 al,.bool true])/\qah w' B v h.1
  | none=>e=.returned (.tuple #[enV 0 0 [] (.slice none 0 0) [] false,.bool false]))/\Below B w w'
theorem qce {w w':World} {b B:Nat} {K G:Int} {m ex:Str} {v u:Value} {al:Bool} {L:List Tr} (aa:qbs w b K G m v ex al) (h:qah w B u L) (k:∀ k,k≠b->w'.heap[k]?=w.heap[k]?):qah w' B u L:=by
 have O:∀ e g,w.heap[e]?=some (.cells g 57 (0,0))->e≠b:=fun e g y Z=>by
  subst Z;rw [show w.heap[e]?=_ from aa] at y;simp at y
 refine ⟨h.1,?_⟩;rcases h.2 with V | ⟨e,J,g,M,E,z,U⟩
 ·exact .inl V
 ·exact .inr ⟨e,J,g,M,E,(k e (O e g z)).trans z,U⟩
theorem qCY (a b:Bool):a=true\/(a=false/\b=true)\/(a=false/\b=false):=by cases a <;> cases b <;> simp
theorem qn5 (B:Nat) (q u:Int) (m:Str) (v:Value) (ex:Str) (al:Bool) (e:Int) (aR:e=5\/e=6) (L:List Tr) (aA:L.length<=100) (aJ:ex.length<=1000) (w:World)
  (ax:qah w B v L) (aE:B<=w.heap.size):Calls prog 266 #[enV q u m v ex al,.int .i64 e] w (qxL w B q u m v al (qbU m e L ex)):=by
 unfold enV;obtain ⟨K,A,rfl,-,-⟩:=ax.ops;obtain ⟨E,a2⟩:=N9 (w.heap.size);obtain ⟨aw,aX,R1,V,M⟩:=qoH w q u e m ex (.slice K L.length A) al;have ay:=J9 (ax.below M);rw [a2] at R1 V M aE;have aH:=qii (E+1+1) B q u m _ ex al e L aA aJ aw V ay.o (by omega);have R1:=J9 R1;have V:=J9 V;have M:Hid (Below B w aw):=M.mono aE;have G:=fun U (n:qcl U (E+1+1) q u m (.slice K L.length A) ex al e) a0=>qpW (E+1+1) B q u m _ ex al e aR L aA U n a0 (by omega)
 have G:=J9 G;clear ax aA aJ;have a7:Hid (E+1<aw.heap.size):=by have:=V.o.lt;show _<_;omega
 go_enter func266,ntmps266
 go_wp2_with fail
 refine aH.mono ?_;rintro aM U ⟨rfl,h,k,a4,y⟩;have ae:=J9 (M.o.trans a4);have an:∀ (az:World),Fr aw (E+1+1) (.slice K L.length A) az->qbs az (E+1) 0 0 [] (.slice none 0 0) [] false:=fun az a6=>by
  refine (a6.same (E+1) a7.o (by omega) ?_).trans R1.o;intro aU;obtain ⟨a8,aZ⟩:=qbH ay.o aU;have aD:=R1.o;unfold qbs at aD;rw [aZ] at aD;simp at aD
 have R2:=J9 (an U y);have an:=J9 an;have y:=J9 y;clear aH aX V ay M R1;rcases qCY (qif m L) (qez m e L) with n | ⟨n,z⟩ | ⟨n,z⟩
 ·have Z:Hid (qbU m e L ex=some (qog e L,100 :: ex)):=by show qbU m e L ex=_;unfold qbU;rw [Qk n]
  rw [n] at h k |-;rw [Qk rfl] at h k;have h:=J9 h;have k:=J9 k;clear n G;obtain ⟨aW,aY,a5,a1,aT,aV,aS,a3⟩:=h.o.cells;obtain ⟨aI,aL,aG,aP,aQ,aO,aF⟩:=R2.o.cells;go_wp2;obtain ⟨aK,O,ai,ac,aN,-,av⟩:=R2.o.put q u m (.slice K L.length A) (100 :: ex) al;rw [O];obtain ⟨ag,aq,ah,aj,ad,am,-⟩:=ai.cells;refine bodyPost_ret (v:=.tuple #[enV q u m (.slice K L.length A) (100 :: ex) al,.bool true]) ?_ rfl ?_
  ·simp [results,results266,go_sem,ag,aq,ah,aj,ad,am,enV]
  ·rw [Z.o]
   exact ⟨⟨rfl,qce R2.o k.o av⟩,ae.o.trans (ac.mono (by omega))⟩
 ·have Z:Hid (qbU m e L ex=some (L.map (opX e),ex)):=by show qbU m e L ex=_;unfold qbU;rw [Qd (by rw [n];decide),Qk z]
  rw [n] at h k |-;rw [Qd (by decide)] at h k;have ap:=G.o U h k;have h:=J9 h
  go_wp2_with fail
  refine ap.mono ?_;rintro aM aB ⟨rfl,ab,ar,ak,J⟩;have ar:=ar z;have T:=J9 (an.o aB ⟨Qm y.o.size J.size,fun ao au aa af=>(J.same ao (Zo au y.o.size) aa af).trans (y.o.same ao au aa af)⟩);have aC:=J9 (ae.o.trans ak);rw [z];have ab:=J9 ab;have ar:=J9 ar;clear n z G ap h k R2 ae ak J;obtain ⟨aW,aY,a5,a1,aT,aV,aS,a3⟩:=ab.o.cells;obtain ⟨aI,aL,aG,aP,aQ,aO,aF⟩:=T.o.cells;go_wp2;obtain ⟨aK,O,ai,ac,aN,-,av⟩:=T.o.put q u m (.slice K L.length A) ex al;rw [O];obtain ⟨ag,aq,ah,aj,ad,am,-⟩:=ai.cells;refine bodyPost_ret (v:=.tuple #[enV q u m (.slice K L.length A) ex al,.bool true]) ?_ rfl ?_
  ·simp [results,results266,go_sem,ag,aq,ah,aj,ad,am,enV]
  ·rw [Z.o]
   exact ⟨⟨rfl,qce T.o ar.o av⟩,aC.o.trans (ac.mono (by omega))⟩
 ·have Z:Hid (qbU m e L ex=none):=by show qbU m e L ex=_;unfold qbU;rw [Qd (by rw [n];decide),Qd (by rw [z];decide)]
  rw [n] at h k |-;rw [Qd (by decide)] at h k;have ap:=G.o U h k
  go_wp2_with fail
  refine ap.mono ?_;rintro aM aB ⟨rfl,ab,-,ak,J⟩;have T:=J9 (an.o aB ⟨Qm y.o.size J.size,fun ao au aa af=>(J.same ao (Zo au y.o.size) aa af).trans (y.o.same ao au aa af)⟩);have aC:=J9 (ae.o.trans ak);rw [z];clear n z G ap h k R2 ae ak J ab;obtain ⟨aI,aL,aG,aP,aQ,aO,aF⟩:=T.o.cells;go_wp2;obtain ⟨aK,O,ai,ac,aN,-,av⟩:=T.o.put 0 0 [] (.slice none 0 0) [] false;rw [show sB []=(⟨#[]⟩:ByteArray) from rfl] at O;rw [O];obtain ⟨ag,aq,ah,aj,ad,am,-⟩:=ai.cells;refine bodyPost_ret (v:=.tuple #[enV 0 0 [] (.slice none 0 0) [] false,.bool false]) ?_ rfl ?_
  ·simp [results,results266,go_sem,ag,aq,ah,aj,ad,am,enV]
  ·rw [Z.o]
   exact ⟨rfl,aC.o.trans (ac.mono (by omega))⟩
end Go.Proofs.YtjafbmfcedijmaaGreatDoor
