/-
  CmAqS, ShCqS, ShDqS, ShAqS, ShEqS, EnSqS, EnRqS, ItAqS, ShFqS, ShRqS, DiBqS, ItPqS, ItCqS, ShHqS, ShIqS, ShKqS, ShLqS, ItBqS, EqSqS.
-/
import Derived.Test.YtjafbmfcedijmaaGreatDoorKAV
import Derived.Test.YtjafbmfcedijmaaGreatDoorKAP
set_option linter.all false
set_option maxRecDepth 100000
set_option maxHeartbeats 4000000
namespace Go.Proofs.YtjafbmfcedijmaaGreatDoor.Cm
open Tryz
open Go.RowKit Go.Proofs.YtjafbmfcedijmaaGreatDoor Go.Proofs.YtjafbmfcedijmaaGreatDoor.St
structure CB (B b:Nat) (w:World) (bs:List UInt8):Prop where
 hB:B<=b
 ex:∃ p v,(p=.pointer none\/p=qdl b)/\w.heap[b]?=some (.cells #[p,v] 187 (0,0))/\w.ownsRowF B 5 1 v bs.length (bs.map u8V)/\v.ownBlock≠some b/\(bs=[]->v=.slice none 0 0)
theorem CB.lt {B b:Nat} {w:World} {v:List UInt8} (h:CB B b w v):b<w.heap.size:=by
 obtain ⟨_,y,z,_,p,_⟩:=h;exact lt_of_block p
theorem CB.fresh {B:Nat} (w:World) (h:B<=w.heap.size):CB B w.heap.size (w.alloc (.cells #[.pointer none,.slice none 0 0] 187)) []:=
 ⟨h,_,_,.inl rfl,heap_alloc_new w _,World.ownsRowF_nil _ _ _ _,by simp [Value.ownBlock],fun _=>rfl⟩
structure FK (B b:Nat) (w w':World):Prop where
 bel:Below B w w'
 oth:Lib.OthersKept 5 (some b) w w'
theorem FK.refl (B b:Nat) (w:World):FK B b w w:=⟨Qc _ _,Lib.OthersKept.refl _ _ _⟩
theorem FK.trans {B b:Nat} {w w1 w2:World} (h:FK B b w w1) (k:FK B b w1 w2):FK B b w w2:=⟨h.bel.trans k.bel,h.oth.trans k.oth⟩
theorem FK.of {B b:Nat} {w w':World} (k:Below w.heap.size w w') (o:B<=w.heap.size):FK B b w w':=
 ⟨k.mono o,fun y z h _ _=>(k.block y (lt_of_block h)).trans h⟩
theorem FK.block {B b:Nat} {w w':World} (E:FK B b w w') {k:Nat} {c:Array Value} {t:TypeId} {h:Nat×Nat} (z:w.heap[k]?=some (.cells c t h)) (y:k≠b) (G:t≠5):w'.heap[k]?=some (.cells c t h):=
 E.oth k _ z (fun e=>y (Qw e)) fun J K e=>G (by injection e)
theorem CB.more {B b:Nat} {w w':World} {i:List UInt8} (h:CB B b w i) (k:Below w.heap.size w w'):CB B b w' i:=by
 have v:=h.lt;obtain ⟨J,K,p,z,U,E,M,y⟩:=h;refine ⟨J,K,p,z,(k.block b v).trans U,?_,M,y⟩;exact E.kept (row:=none) ⟨k.os,k.tape,k.output,k.size,fun O G _=>k.block O G⟩ (by cases p.ownBlock <;> simp)
theorem qAG {B b:Nat} {w:World} {h:List UInt8} (U:CB B b w h) :
  Calls prog 180 #[.pointer (some ⟨b,0,none⟩)] w fun e G=>e=.returned (.tuple #[])/\FK B b w G/\
   ∃ v,G.heap[b]?=some (.cells #[qdl b,v] 187 (0,0))/\G.ownsRowF B 5 1 v h.length (h.map u8V)/\v.ownBlock≠some b/\(h=[]->v=.slice none 0 0):=by
 obtain ⟨M,K,v,Z,j,z,k,y⟩:=U;obtain ⟨ab,E,V⟩:=qek;have O:w.cell? ⟨b,0,none⟩=some K:=by rw [C9 j];rfl
 rcases Z with rfl | rfl
 ·have ac:w.frozen? ⟨b,0,none⟩=false:=Qr j 0
  have J:w.shape? b=some (187,2):=by simp [World.shape?,j]
  have p:Hid (FK B b w (w.setCell ⟨b,0,none⟩ (qdl b))/\
    ∃ v,(w.setCell ⟨b,0,none⟩ (qdl b)).heap[b]?=some (.cells #[qdl b,v] 187 (0,0))/\(w.setCell ⟨b,0,none⟩ (qdl b)).ownsRowF B 5 1 v h.length (h.map u8V)/\v.ownBlock≠some b/\(h=[]->v=.slice none 0 0)):=by
   refine ⟨⟨(Qc _ _).setCell M _,Lib.OthersKept.setCell (b:=b) (Lib.OthersKept.refl _ _ _) ⟨b,0,none⟩ rfl _⟩,v,by simp [World.setCell,Array.getElem?_modify,j],?_,k,y⟩;exact z.kept (row:=some b) ⟨rfl,rfl,rfl,by simp [World.setCell],fun aa _ R=>Below.heap_setCell _ _ _ _ (fun e=>R (by simp [e]))⟩ (Or.inr k)
  unfold qdl at p;clear j z k y
  go_enter func180,ntmps180
  go_wp2;rw [Lib.run_to_unsafe w ⟨b,0,none⟩ underlying185 underlying280 E (by rw [V];decide) J (Nat.zero_lt_succ 1)];simp only [Result.andThen];rw [Oper.upon_value];go_wp2;rw [run_callFunc_extern func221 (by kernel_rfl) (by kernel_rfl) (by kernel_rfl) (e:=Extern.AbiNoEscape.same) (by kernel_rfl)];rw [Lib.run_noEscape];simp only [Result.andThen];rw [Oper.upon_value];go_wp2;rw [Lib.run_from_unsafe w ⟨b,0,none⟩ underlying280 underlying185 E J qhE];simp only [Result.andThen];rw [Oper.upon_value];go_wp2
  go_end0
  exact ⟨rfl,p.o⟩
 ·have p:Hid (FK B b w w/\∃ v,w.heap[b]?=some (.cells #[qdl b,v] 187 (0,0))/\w.ownsRowF B 5 1 v h.length (h.map u8V)/\v.ownBlock≠some b/\(h=[]->v=.slice none 0 0)):=
   ⟨FK.refl _ _ _,v,j,z,k,y⟩
  unfold qdl at O;have ad:=Lib.run_neq_ptr_same (P:=prog) w ⟨b,0,none⟩ underlying185 E;clear j z k y
  go_enter func180,ntmps180
  go_wp2
  go_end0
  exact ⟨rfl,p.o⟩
def qjUc (B b:Nat) (w:World) (h:List UInt8) (r:Value) (e:Ending) (w':World):Prop:=e=.returned r/\CB B b w' h/\FK B b w w'
theorem qBO {B b:Nat} {w:World} {g:List UInt8} (ab:CB B b w g) (aD:B<=w.heap.size) (s:ByteArray) (ar:g.length+s.size<=140737488355328) :
  Calls prog 124 #[.pointer (some ⟨b,0,none⟩),.string s] w (qjUc B b w (g++s.data.toList) (.tuple #[.int .i64 s.size,.nilIface])):=by
 have ad:=ab.hB;have aj:=J9 (qAG ab);obtain ⟨au,am,aB,aw,ay⟩:=info_parts qja;have ag:Hid (∀ (h:World) (e:Value),FK B b w h->h.heap[b]?=some (.cells #[qdl b,e] 187 (0,0))->h.ownsRowF B 5 1 e g.length (g.map u8V)->e.ownBlock≠some b->(g=[]->e=.slice none 0 0)->
   ∃ y z k v,(Builtin.append_ #[44,9] 44 #[e,.string s]).run prog h=.ok (.slice y z k) v/\v.cell? ⟨b,1,none⟩=some e/\v.frozen? ⟨b,1,none⟩=false/\
    CB B b (v.setCell ⟨b,1,none⟩ (.slice y z k)) (g++s.data.toList)/\FK B b w (v.setCell ⟨b,1,none⟩ (.slice y z k))):=by
  intro h e E J K U O;have ao:=E.bel.size;obtain ⟨ah,v,an,af,Z,aA⟩:=Lib.run_append_own_stringF (P:=prog) h B 44 9 44 5 au underlying44 underlying9 am aB aw ay e g.length (g.map u8V) K s (by unfold maxLen;omega) ar (by omega);rw [qfS] at af;have av:b<h.heap.size:=lt_of_block J;have M:v.heap[b]?=some (.cells #[qdl b,e] 187 (0,0)):=(Z.block b av (fun G=>U G.symm)).trans J;have V:v.ownsRowF B 5 1 ah (g++s.data.toList).length ((g++s.data.toList).map u8V):=by
   rw [Qg,Zc];have G:s.data.toList.length=s.size:=(by simp);rw [G];exact af
  have ae:=Lib.ownBlock_neF V M qA8;obtain ⟨y,z,k,rfl⟩:∃ y z k,ah=.slice y z k:=by
   rcases V.2 with ⟨aa,_⟩ | ⟨aH,k,aE,aG,aa,_⟩
   ·exact ⟨_,_,_,aa⟩
   ·exact ⟨_,_,_,aa⟩
  refine ⟨y,z,k,v,an,by rw [C9 M];rfl,Qr M 1,⟨ad,qdl b,.slice y z k,.inr rfl,by simp [World.setCell,Array.getElem?_modify,M],?_,ae,?_⟩,E.trans ⟨?_,?_⟩⟩
  ·exact V.kept (row:=some b) ⟨rfl,rfl,rfl,by simp [World.setCell],fun ac _ E=>Below.heap_setCell _ _ _ _ (fun G=>E (by simp [G]))⟩ (Or.inr ae)
  ·intro ak
   have az:g=[]:=(List.append_eq_nil_iff.1 ak).1;have ax:s.data.toList=[]:=(List.append_eq_nil_iff.1 ak).2;have G:s.data.toList.length=s.size:=by simp
   exact aA.2 ⟨O az,by rw [<- G,ax];rfl⟩
  ·exact ((Qc B h).grown Z (by have:=ao;omega) (fun ac E=>(K.lt ac E).1)).setCell (p:=⟨b,1,none⟩) ad _
  ·exact Lib.OthersKept.setCell (b:=b) ((Lib.OthersKept.refl _ _ _).grown Z (Lib.ownsRowF_kind K)) ⟨b,1,none⟩ rfl _
 clear ab
 go_enter func124,ntmps124
 go_wp2_with fail
 refine aj.o.mono ?_;rintro G h ⟨rfl,E,e,J,K,U,O⟩;have aI:h.cell? ⟨b,1,none⟩=some e:=by rw [C9 J];rfl
 obtain ⟨y,z,k,v,HR,aC,aF,ai,hF⟩:=ag.o h e E J K U O;have ap:=J9 ai;have aq:=J9 hF;have HR:=J9 HR;clear ai hF E J K U O aj ag
 go_wp2_with (at_builtin;refine qed HR.o rfl _ _ rfl rfl rfl rfl ?_)
 go_ret2
 exact ⟨rfl,ap.o,aq.o⟩
theorem qyd {B b:Nat} {w:World} {e:List UInt8} (U:CB B b w e) (av:B<=w.heap.size) :
  Calls prog 125 #[.pointer (some ⟨b,0,none⟩)] w (qjUc B b w e (.string (strOf e))):=by
 have ai:=U.lt;obtain ⟨v,p,ab,M,q,r,z,x⟩:=U;by_cases y:e=[]
 ·obtain rfl:=x y
  subst y;have aa:∀ E K,(Builtin.unsafeString_ #[238,3] 9 #[.pointer K,.int .i64 0]).run prog E=.ok (.string .empty) E:=fun E K=>Lib.run_unsafeString_none E _ _ _ K
  have V:w.drew.cell? ⟨b,1,none⟩=some (.slice none 0 0):=by
   have:w.drew.heap[b]?=some (.cells #[p,.slice none 0 0] 187 (0,0)):=q;rw [C9 this];rfl
  have ah:(Builtin.unsafeSliceData_ #[44] 238 #[.slice none 0 0]).run prog w.drew=.ok (.pointer none) w.drew:=rfl;have G:Hid (CB B b w.drew []/\FK B b w w.drew):=⟨⟨v,p,.slice none 0 0,M,q,r,z,fun _=>rfl⟩,⟨Below.drew (Qc B w),(Lib.OthersKept.refl _ _ _).drew⟩⟩;clear v q r z x
  go_enter func125,ntmps125
  go_wp2
  go_region
  all_goals (go_wp2;go_ret;exact ⟨rfl,G.o⟩)
 ·have ag:e.length≠0:=by simpa using y
  obtain ⟨g,cap,h,j,rfl,R,J,aj,aw,ak,ad,ar⟩:∃ g cap h j,ab=.slice (some ⟨g,0,none⟩) e.length cap/\B<=g/\w.heap[g]?=some (.cells h 5 j)/\j.2<=e.length*1/\e.length<=cap/\cap<=maxLen/\h.size=cap*1/\h.toList.take (e.length*1)=e.map u8V:=by
   rcases r.2 with ⟨_,x⟩ | ⟨g,cap,h,j,au,af⟩
   ·exact absurd x ag
   ·exact ⟨g,cap,h,j,au,af⟩
  have V:w.drew.cell? ⟨b,1,none⟩=some (.slice (some ⟨g,0,none⟩) e.length cap):=by
   have:w.drew.heap[b]?=some (.cells #[p,.slice (some ⟨g,0,none⟩) e.length cap] 187 (0,0)):=q;rw [C9 this];rfl
  have ah:(Builtin.unsafeSliceData_ #[44] 238 #[.slice (some ⟨g,0,none⟩) e.length cap]).run prog w.drew=.ok (.pointer (some ⟨g,0,none⟩)) w.drew:=
   Lib.run_unsafeSliceData_row _ _ _ _ _ _ (by omega)
  have aa:(Builtin.unsafeString_ #[238,3] 9 #[.pointer (some ⟨g,0,none⟩),.int .i64 e.length]).run prog w.drew=.ok (.string (strOf e)) (w.drew.freeze ⟨g,0,none⟩ e.length):=by
   refine Lib.run_unsafeString_row w.drew 238 3 9 5 underlying238 qnL g h.size (by have W:w.drew.heap[g]?=some (.cells h 5 j):=J;simp [World.shape?,W]) e y (by omega) (by unfold maxLen at ak;omega) ?_;intro ae am Z;have:=r.cells (g:=g) rfl ae (.int .u8 am.toNat) (by simp [u8V,Z]);exact this
  have G:Hid (CB B b (w.drew.freeze ⟨g,0,none⟩ e.length) e/\FK B b w (w.drew.freeze ⟨g,0,none⟩ e.length)):=by
   have an:Lib.BuilderAtF 187 5 B b p (e.map u8V) w.drew:=⟨v,_,q,by rw [QM];exact r,z⟩;have hF:=an.froze (g:=g) (cap:=cap) (by rw [QM];exact V);rw [QM] at hF;refine ⟨?_,⟨Lib.below_freeze (Below.drew (Qc B w)) (p:=⟨g,0,none⟩) R _,((Lib.OthersKept.refl _ _ _).drew).freeze _ _ ⟨h,j,J⟩⟩⟩;obtain ⟨_,ao,ap,O,ac⟩:=hF;rw [QM] at O;exact ⟨v,p,ao,M,ap,O,ac,fun aq=>absurd aq y⟩
  clear v q r z x J ar ad R aj ai M
  go_enter func125,ntmps125
  go_wp2
  go_region
  all_goals (go_wp2;go_ret;exact ⟨rfl,G.o⟩)
end Go.Proofs.YtjafbmfcedijmaaGreatDoor.Cm
namespace Go.Proofs.YtjafbmfcedijmaaGreatDoor
open Tryz
open Go.RowKit Cm
def qfR (P:List ByteArray):List UInt8:=P.flatMap fun h=>h.data.toList
theorem qkh (P:List ByteArray) (k:Nat) (h:k<P.length):qfR (P.take (k+1))=qfR (P.take k)++P[k].data.toList:=by
 unfold qfR;rw [Qx h,List.flatMap_append];simp
theorem qyK (P:List ByteArray) (k:Nat):(qfR (P.take k)).length<=(qfR P).length:=by
 have h:qfR P=qfR (P.take k)++qfR (P.drop k):=by
  unfold qfR;rw [<- List.flatMap_append,Zy]
 rw [h,Qg];omega
def PartsAt (b:Nat) (w:World) (A:Option Addr) (P:List ByteArray):Prop:=
 P=[]\/∃ h,A=some ⟨h,0,none⟩/\h≠b/\w.heap[h]?=some (.cells (P.map Value.string).toArray 9 (0,0))
theorem qC4:(9 : TypeId)≠5:=by decide
theorem PartsAt.fk {B b:Nat} {w w':World} {A:Option Addr} {P:List ByteArray} (h:PartsAt b w A P) (f:FK B b w w'):PartsAt b w' A P:=by
 rcases h with h | ⟨z,E,k,y⟩
 ·exact .inl h
 ·exact .inr ⟨z,E,k,f.block y k qC4⟩
theorem PartsAt.at_ {b:Nat} {w:World} {A:Option Addr} {P:List ByteArray} (z:PartsAt b w A P) {j:Nat} (k:j<P.length):∃ h,A=some ⟨h,0,none⟩/\w.cell? ⟨h,j,none⟩=some (.string P[j]):=by
 rcases z with rfl | ⟨h,E,G,y⟩
 ·simp at k
 ·refine ⟨h,E,(C9 y j).trans ?_⟩
  simp [k]
theorem qdL (w:World) :
  Calls prog 85 #[] w fun y z=>y=.returned (.func (.func 123) #[] #[.pointer (some ⟨w.heap.size,0,none⟩)])/\w.alloc (.cells #[.pointer none,.slice none 0 0] 187)=z:=by
 have E:∀ (h:Fn) (first e:Array Value) (w:World),(Instr.makeFunc h first e).run prog w=.ok (.func h first e) w:=fun _ _ _ _=>rfl
 go_enter func85,ntmps85
 go_wp2;go_ret;exact ⟨rfl,rfl⟩
theorem qjC {B b:Nat} {w:World} {h:List UInt8} (V:CB B b w h) (M:B<=w.heap.size) (P:List ByteArray) (A:Option Addr) (n cap:Nat) (aj:P.length=n) (F:PartsAt b w A P) (ag:h.length+(qfR P).length<=100000000) (am:n<=1000) :
  Calls prog 123 #[.slice A n cap,.pointer (some ⟨b,0,none⟩)] w (qjUc B b w (h++qfR P) (.string (St.strOf (h++qfR P)))):=by
 have ae:Hid (∀ (wr:World) (e:Nat),e<n->CB B b wr (h++qfR (P.take e))->FK B b w wr->∃ C E,A=some ⟨C,0,none⟩/\wr.cell? ⟨C,e,none⟩=some (.string E)/\
   Calls prog 124 #[.pointer (some ⟨b,0,none⟩),.string E] wr fun y z=>y=.returned (.tuple #[.int .i64 E.size,.nilIface])/\Hid (CB B b z (h++qfR (P.take (e+1))))/\Hid (FK B b w z)):=by
  intro wr e ak s i;have K:e<P.length:=by omega
  obtain ⟨C,aa,af⟩:=(F.fk i).at_ K;refine ⟨C,_,aa,af,(qBO s (Qm M i.bel.size) P[e] ?_).mono ?_⟩
  ·have ad:=qyK P (e+1)
   rw [qkh P e K,Qg] at ad;rw [Qg];have y:P[e].data.toList.length=P[e].size:=(by simp);omega
  ·rintro y z ⟨rfl,k,q⟩
   rw [Ze,<- qkh P e K] at k;exact ⟨rfl,k,i.trans q⟩
 have ac:Hid (∀ (wr:World),CB B b wr (h++qfR (P.take n))->FK B b w wr->Calls prog 125 #[.pointer (some ⟨b,0,none⟩)] wr fun y z=>y=.returned (.string (St.strOf (h++qfR P)))/\CB B b z (h++qfR P)/\FK B b w z):=by
  intro wr s i;rw [QJ (by omega)] at s;refine (qyd s (Qm M i.bel.size)).mono ?_;rintro y z ⟨rfl,k,q⟩;exact ⟨rfl,k,i.trans q⟩
 have U:Hid (CB B b w (h++qfR (P.take 0))):=by
  show CB B b w (h++[]);rw [Zs];exact V
 have O:Hid (FK B b w w):=FK.refl _ _ _;clear V F ag aj
 go_enter func123,ntmps123
 go_wp2
 go_loopw [8] (fun J wr=>∃ e:Nat,e<=n/\J=.int .i64 e/\Hid (CB B b wr (h++qfR (P.take e)))/\Hid (FK B b w wr)) (fun J _=>n - (intOf J).toNat)
 case atStart=>exact ⟨0,Qs _,rfl,U,O⟩
 case round=>
  clear U O;obtain ⟨e,ak,rfl,s,i⟩:=hrel;by_cases ah:e<n
  ·obtain ⟨C,E,F,ab,G⟩:=ae.o wr e ah s.o i.o
   subst F;have G:=J9 G;clear s i
   go_wp2_with fail
   refine G.o.mono ?_;rintro y ai ⟨rfl,k,q⟩;clear G ab;go_wp2;go_roundw
   case rel=>exact ⟨e+1,by omega,by go_num,k,q⟩
   case measure=>simp [intOf];omega
  ·obtain rfl:e=n:=by omega
   have Z:=J9 (ac.o wr s.o i.o);clear s i
   go_wp2_with fail
   refine Z.o.mono ?_;rintro y ai ⟨rfl,k,q⟩;have k:=J9 k;have q:=J9 q;clear Z;go_wp2;go_ret;exact ⟨rfl,k.o,q.o⟩
theorem qoy (a b:ByteArray):qfR [a,b]=a.data.toList++b.data.toList:=by simp [qfR]
theorem qz6 (b:Nat) (W:World) (x h:ByteArray) (y:b<W.heap.size):PartsAt b (W.alloc (.cells #[.string x,.string h] 9)) (some ⟨W.heap.size,0,none⟩) [x,h]:=
 .inr ⟨_,rfl,by omega,heap_alloc_new W _⟩
theorem qBU (b:Nat) (W:World) (x:ByteArray) (h:b<W.heap.size):PartsAt b (W.alloc (.cells #[.string x] 9)) (some ⟨W.heap.size,0,none⟩) [x]:=
 .inr ⟨_,rfl,by omega,heap_alloc_new W _⟩
theorem qhj {B b:Nat} {w W:World} {y:List UInt8} (C:CB B b W y) (U:Below B w W) (G:B<=W.heap.size) (x e:ByteArray) (V:y.length+(x.size+e.size)<=100000000) :
  Calls prog 123 #[.slice (some ⟨W.heap.size,0,none⟩) 2 2,.pointer (some ⟨b,0,none⟩)] (W.alloc (.cells #[.string x,.string e] 9)) fun E h=>
   E=.returned (.string (St.strOf (y++(x.data.toList++e.data.toList))))/\CB B b h (y++(x.data.toList++e.data.toList))/\FK B b W h/\Below B w h:=by
 have z:Below W.heap.size W (W.alloc (.cells #[.string x,.string e] 9)):=B0;have K:=qjC (C.more z) (Qm G z.size) [x,e] (some ⟨W.heap.size,0,none⟩) 2 2 rfl (qz6 b W x e C.lt) (by rw [qoy,Qg];simpa using V) (by omega);rw [qoy] at K;refine K.mono ?_;rintro E h ⟨rfl,M,O⟩;have J:=(FK.of (b:=b) z G).trans O;exact ⟨rfl,M,J,U.trans J.bel⟩
theorem qtc {B b:Nat} {w W:World} {h:List UInt8} (C:CB B b W h) (U:Below B w W) (E:B<=W.heap.size) (x:ByteArray) (V:h.length+x.size<=100000000) :
  Calls prog 123 #[.slice (some ⟨W.heap.size,0,none⟩) 1 1,.pointer (some ⟨b,0,none⟩)] (W.alloc (.cells #[.string x] 9)) fun z e=>
   z=.returned (.string (St.strOf (h++x.data.toList)))/\CB B b e (h++x.data.toList)/\FK B b W e/\Below B w e:=by
 have y:Below W.heap.size W (W.alloc (.cells #[.string x] 9)):=B0;have K:qfR [x]=x.data.toList:=by simp [qfR]
 have J:=qjC (C.more y) (Qm E y.size) [x] (some ⟨W.heap.size,0,none⟩) 1 1 rfl (qBU b W x C.lt) (by rw [K];simpa using V) (by omega);rw [K] at J;refine J.mono ?_;rintro z e ⟨rfl,M,O⟩;have G:=(FK.of (b:=b) y E).trans O;exact ⟨rfl,M,G,U.trans G.bel⟩
theorem qeE {B b:Nat} {w W:World} {e:List UInt8} (C:CB B b W e) (J:Below B w W) (K:B<=W.heap.size) (M:e.length<=100000000) :
  Calls prog 123 #[.slice none 0 0,.pointer (some ⟨b,0,none⟩)] W fun y h=>
   y=.returned (.string (St.strOf e))/\CB B b h e/\FK B b W h/\Below B w h:=by
 have E:=qjC C K [] none 0 0 rfl (.inl rfl) (by simpa [qfR] using M) (by omega);have O:e++qfR []=e:=by simp [qfR]
 rw [O] at E;refine E.mono ?_;rintro y h ⟨rfl,G,z⟩;exact ⟨rfl,G,z,J.trans z.bel⟩
theorem qsu (F:FuncId) (T:UInt8->Str) (aV:∀ args w,(callFunc F args).run prog w=.ok (.enter F args) w)
  (aw:∀ (x:UInt8) w,Calls prog F #[.int .i64 (x.toNat:Int)] w fun e w'=>e=.returned (.string (sB (T x)))/\Below w.heap.size w w') (ak:∀ x,(T x).length<=6)
  (i:Str) (ae:i.length<=2) (A:Option Addr) (n cap:Nat) (xs:Str) (aL:xs.length=n) (aY:n<=1000) (w:World) (H:BytesAt w A xs) :
  Calls prog 131 #[.string (sB i),.func (.func F) #[] #[],.slice A n cap] w fun e w'=>e=.returned (.string (sB (qgf i (xs.map T))))/\Below w.heap.size w w':=by
 obtain ⟨h,z⟩:=N9 (w.heap.size);have a0:=J9 z;have ap:∀ b,(qgf i ((xs.map T).take b)).length<=8000:=fun b=>by
  have y:=qgq i ((xs.map T).take b) 2 6 ae fun x aM=>by
   obtain ⟨aG,-,rfl⟩:=List.mem_map.1 (List.mem_of_mem_take aM);exact ak aG
  have aW:((xs.map T).take b).length<=n:=by rw [QD,QM];omega
  omega
 obtain ⟨s,K⟩:∃ aI:Nat->Str,aI=fun b=>qgf i ((xs.map T).take b):=⟨_,rfl⟩
 have an:s 0=[]:=by rw [K];rfl
 have ar:s n=qgf i (xs.map T):=by rw [K];show qgf i ((xs.map T).take n)=_;rw [QJ (by rw [QM];omega)]
 have ad:∀ b,(s b).length<=8000:=fun b=>by rw [K];exact ap b
 have aC:∀ b (y:b<xs.length),s (b+1)=s b++((if b=0 then [] else i)++T xs[b]):=fun b y=>by
  rw [K];show qgf i ((xs.map T).take (b+1))=qgf i ((xs.map T).take b)++_;have ay:b<(xs.map T).length:=by rw [QM];exact y
  by_cases aB:b=0
  ·subst aB
   rw [Qk rfl,qoo i _ ay];simp [qgf]
  ·rw [Qd aB,qks i _ b (by omega) ay]
   simp
 have ac:Hid (∀ (wr:World) (b:Nat),b<n->CB h h wr (s b)->Below h w wr->∃ (G J:Nat) (x:Int) (ab:ByteArray),A=some ⟨G,J,none⟩/\wr.cell? ⟨G,J+b,none⟩=some (.int .u8 x)/\(0<=x/\x<=255)/\
   (∀ aa,Calls prog F #[.int .i64 x] aa fun e w'=>e=.returned (.string ab)/\Below aa.heap.size aa w')/\
   ∀ W2 k,Below wr.heap.size wr W2->k=(if b=0 then ⟨#[]⟩ else sB i)->Calls prog 123 #[.slice (some ⟨W2.heap.size,0,none⟩) 2 2,.pointer (some ⟨h,0,none⟩)] (W2.alloc (.cells #[.string k,.string ab] 9)) fun e w'=>
    (∃ U,e=.returned U)/\Hid (CB h h w' (s (b+1)))/\Hid (Below h w w')):=by
  intro wr b aQ v V;have Z:b<xs.length:=by omega
  have aN:=H.below (by rw [z];exact V);obtain rfl | ⟨G,J,am,aj⟩:=aN
  ·simp at Z
  ·refine ⟨G,J,(xs[b].toNat:Int),sB (T xs[b]),am,aj b Z,⟨by omega,by have:=xs[b].toNat_lt;omega⟩,aw xs[b],fun W2 k E aP=>?_⟩
   have az:h<=wr.heap.size:=Zb v.lt;have ao:k.data.toList=if b=0 then [] else i:=by
    rw [aP];split
    ·rfl
    ·simp [sB]
   have aK:(sB (T xs[b])).data.toList=T xs[b]:=(by simp [sB]);have aX:k.size<=2:=by
    have:k.data.toList.length=k.size:=(by simp);rw [<- this,ao];split
    ·simp
    ·exact ae
   have y:=qhj (w:=w) (v.more E) (V.trans (E.mono az)) (Qm az E.size) k (sB (T xs[b])) (by
    have a1:=ad b;have aS:(sB (T xs[b])).size<=6:=ak xs[b];omega)
   refine y.mono ?_;rintro e w' ⟨rfl,ax,-,C⟩;rw [ao,aK,<- aC b Z] at ax;exact ⟨⟨_,rfl⟩,ax,C⟩
 have aq:Hid (∀ wr,CB h h wr (s n)->Below h w wr->Calls prog 123 #[.slice none 0 0,.pointer (some ⟨h,0,none⟩)] wr fun e w'=>e=.returned (.string (sB (qgf i (xs.map T))))/\Below h w w'):=by
  intro wr v V;refine (qeE (w:=w) v V (Zb v.lt) (by have:=ad n;omega)).mono ?_;rintro e w' ⟨rfl,-,-,C⟩;rw [ar];exact ⟨rfl,C⟩
 obtain ⟨aD,R⟩:=N9 (w.alloc (.cells #[.pointer none,.slice none 0 0] 187));have au:Hid (CB h h aD (s 0)):=by
  have y:=CB.fresh (B:=w.heap.size) w (Qa _);rw [R,z] at y;rw [an];exact y
 have B0:Hid (Below h w aD):=by rw [<- R,<- z];exact B0
 have ag:=J9 (qdL w);rw [R,z] at ag;obtain ⟨aR,W⟩:=N9 (sB (qgf i (xs.map T)));obtain ⟨aF,af⟩:=N9 (sB i);rw [W] at aq;rw [af] at ac;rw [z,W,af];clear H aL z ap K an ar ad aC R aw ak ae W af
 go_enter func131,ntmps131
 go_wp2_with fail
 refine ag.o.mono ?_;rintro e w' ⟨rfl,rfl⟩;clear ag;go_wp2
 go_loopw [8,14] (fun U ai wr=>∃ (b:Nat) (k:ByteArray),b<=n/\ai=.int .i64 b/\U=.string k/\Hid (k=if b=0 then ⟨#[]⟩ else aF)/\Hid (CB h h wr (s b))/\Hid (Below h w wr)) (fun _ ai _=>n - (intOf ai).toNat)
 case atStart=>exact ⟨0,⟨#[]⟩,Qs _,rfl,rfl,rfl,au,B0⟩
 case round=>
  clear au B0;obtain ⟨b,k,aQ,rfl,rfl,ah,v,B⟩:=hrel;by_cases aJ:b<n
  ·obtain ⟨G,J,x,ab,am,aj,⟨aT,aU⟩,O,M⟩:=ac.o wr b aJ v.o B.o
   subst am;have O:=J9 O;have M:=J9 M;clear v B
   go_wp2_with fail
   refine (O.o _).mono ?_;rintro e aE ⟨rfl,E⟩;have aA:=J9 (M.o aE k E ah.o);clear O M aj
   go_wp2_with fail
   refine aA.o.mono ?_;rintro e aZ ⟨⟨U,rfl⟩,aH,aO⟩;clear aA E ah;go_wp2;go_roundw
   case rel=>exact ⟨b+1,aF,by omega,by go_num,rfl,by show _=_;rw [Qd (by omega)],aH,aO⟩
   case measure=>simp [intOf];omega
  ·obtain rfl:b=n:=by omega
   have av:=J9 (aq.o wr v.o B.o);clear v B ah ac
   go_wp2_with fail
   refine av.o.mono ?_;rintro e aE ⟨rfl,C⟩;have C:=J9 C;clear av;go_wp2;go_ret;exact ⟨rfl,C.o⟩
theorem quk (x:UInt8) (w:World):Calls prog 142 #[.int .i64 (x.toNat:Int)] w fun e h=>e=.returned (.string (sB (qlp x)))/\Below w.heap.size w h:=by
 have e:sB (qlp x)=qaM (x.toNat:Int):=by unfold qlp sB;simp
 rw [e];exact qfd _ w
theorem qwg (A:Option Addr) (n cap:Nat) (xs:Str) (x:xs.length=n) (U:n<=1000) (w:World) (H:BytesAt w A xs) :
  Calls prog 92 #[.slice A n cap] w fun e K=>e=.returned (.string (sB (qgb xs)))/\Below w.heap.size w K:=by
 have y:∀ args w,(callFunc 142 args).run prog w=.ok (.enter 142 args) w:=enters_of func142 (by kernel_rfl) rfl;have r:=J9 (qsu 142 qlp y quk qiR [44] (by decide) A n cap xs x U w H);by_cases J:n=0
 ·have h:xs=[]:=Qu (by omega)
  have e:sB (qgb xs)=⟨#[]⟩:=by rw [h];rfl
  rw [e];subst J;clear r H x y
  go_enter func92,ntmps92
  go_wp2;go_ret;exact ⟨rfl,Qc _ _⟩
 ·have h:xs≠[]:=fun e=>J (by rw [<- x,e];rfl)
  have e:(⟨#[68,69,70,66,32]⟩:ByteArray)++sB (qgf [44] (xs.map qlp))=sB (qgb xs):=by
   apply qaB;unfold qgb;rw [Qd h,qam];simp [sB]
  have O:(sB (qgf [44] (xs.map qlp))).size<=100000:=by
   have aa:=qgq [44] (xs.map qlp) 1 6 (by decide) fun ad h=>by
    obtain ⟨Z,-,rfl⟩:=List.mem_map.1 h;exact qiR Z
   rw [QM] at aa;show (qgf [44] (xs.map qlp)).length<=_;omega
  have G:sB [44]=⟨#[44]⟩:=rfl;rw [G] at r;obtain ⟨ac,z⟩:=N9 (sB (qgf [44] (xs.map qlp)));rw [z] at e r O;have M:=J9 e;have ab:¬(n:Int)=0:=by omega
  clear H x y e h z G
  go_enter func92,ntmps92
  go_wp2_with fail
  refine r.o.mono ?_;rintro e K ⟨rfl,E⟩;have V:=J9 E;clear r E;go_wp2;go_ret;rw [M.o];exact ⟨rfl,V.o⟩
theorem qyE (x:Int) (w:World):Calls prog 132 #[.int .i64 x] w fun h z=>h=.returned (.string (qcM x 2))/\Below w.heap.size w z:=by
 have e:=J9 (qmH x 2 (by omega) w);obtain ⟨G,s⟩:=N9 (qcM x 2);rw [s] at e |-;clear s
 go_enter func132,ntmps132
 go_wp2_with fail
 refine e.o.mono ?_;rintro h z ⟨rfl,y⟩;have E:=J9 y;clear y e;go_wp2;go_ret;exact ⟨rfl,E.o⟩
theorem qwm (x:UInt8) (w:World):Calls prog 132 #[.int .i64 (x.toNat:Int)] w fun e h=>e=.returned (.string (sB (qi0 x)))/\Below w.heap.size w h:=by
 have e:sB (qi0 x)=qcM (x.toNat:Int) 2:=by unfold qi0 sB;simp
 rw [e];exact qyE _ w
def qtO (a:Int):Bool:=decide (0<=a)&&decide (a<=65535)
theorem qmg (a:Int) (w:World):Calls prog 87 #[.int .i64 a] w fun e y=>e=.returned (.bool (qtO a))/\Below w.heap.size w y:=by
 have h:=J9 (fits_any 0 65535 (some ⟨w.heap.size,0,none⟩) 1 [a] (by unfold maxLen;simp) (w.alloc (.cells #[.int .i64 a] 3)) (ints_one w a _));have e:qcL 0 65535 [a]=qtO a:=by unfold qcL qtO;simp
 rw [e] at h;have z:Hid (Below w.heap.size w (w.alloc (.cells #[.int .i64 a] 3))):=B0;obtain ⟨E,r⟩:=N9 (qtO a);rw [r] at h |-;clear r e
 go_enter func87,ntmps87
 go_wp2_with fail
 refine h.o.mono ?_;rintro e y ⟨rfl,rfl⟩;clear h;go_wp2;go_ret;exact ⟨rfl,z.o⟩
end Go.Proofs.YtjafbmfcedijmaaGreatDoor
namespace Go.Proofs.YtjafbmfcedijmaaGreatDoor
open Tryz
open Go.RowKit Go.Shelf
def qcj (s:ByteArray) (L:List Tr):Str:=
 if legB s L=true then (if canL (opc s) L=[] then s.data.toList else s.data.toList++32 :: (qbf (canL (opc s) L)).data.toList) else []
def qbP (x:Ite):Str:=if x.kind=1/\x.al=false then qcj (sB x.m) x.C else qgb x.raw
def qqv (x:Ite):Str:=qgf [32] (x.raw.map qi0)
def qkc (x:Ite):Str:=if x.al=true then [32,32,59,32]++qcj (sB x.m) x.C else []
def qzs (n:Nat):Nat:=max (18 - n) 2
def qwK (a:Int) (x:Ite):Str:=
 if 0<=a/\a<=65535 then
  ((qcM a 4).data.toList++[32,32]++qqv x)++List.replicate (qzs (6+(qqv x).length)) 32++(qbP x++qkc x)
 else []
theorem quR:opsL.all (fun x=>!x.data.toList.isEmpty&&x.data.toList.all fun c=>decide (36<=c.toNat))=true:=by decide +kernel
theorem qri {s:ByteArray} (h:knB s=true):s.data.toList≠[]/\∀ y∈s.data.toList,36<=y.toNat:=by
 unfold knB at h;obtain ⟨e,E,z⟩:=Zr.1 h;have x:e.data.toList=s.data.toList:=by
  have:=eq_of_beq z;rw [Qe,Qe] at this;exact this
 have c:=QR.1 quR e E;rw [x] at c;simp only [Qh,Bool.not_eq_true',List.isEmpty_eq_false_iff,QR,Ql] at c;exact c
theorem qe2 {s:ByteArray} {L:List Tr} (h:legB s L=true):knB s=true/\(canL (opc s) L).length<=3/\∀ y∈canL (opc s) L,vT y=true:=by
 have t:=qky ((qbF s L).1 h).1;exact qby t
theorem qxq {s:ByteArray} {L:List Tr} (y:legB s L=true):qcj s L≠[]:=by
 have h:=(qri (qe2 y).1).1;unfold qcj;rw [Qk y];split
 ·exact h
 ·simp [h]
end Go.Proofs.YtjafbmfcedijmaaGreatDoor
namespace Go.Proofs.YtjafbmfcedijmaaGreatDoor
open Tryz
open Go.RowKit Go.Shelf Cm
attribute [local go_sem] Oper.semAt_some
theorem quZ {s:ByteArray} {I:List Tr} {c:Int} (e:(c=0/\qfi s I (canL (opc s) I))\/(c≠0/\¬qfi s I (canL (opc s) I))):(c=0/\legB s I=true)\/(c≠0/\legB s I=false):=by
 rcases e with ⟨rfl,e⟩ | ⟨h,e⟩
 ·exact .inl ⟨rfl,(qbF s I).2 e⟩
 ·exact .inr ⟨h,Bool.eq_false_iff.2 fun y=>e ((qbF s I).1 y)⟩
theorem qzX (w:World) (s:ByteArray) (A:Option Addr) (n cap:Nat) (L:List Tr) (j:L.length=n) (H:qaj w A L):qwy (w.alloc (.cells #[.string s,.slice A n cap] 24)) (some ⟨w.heap.size,0,none⟩) [⟨s,A,cap,L⟩]:=by
 subst j;refine .inr ⟨_,_,rfl,fun y z=>?_⟩;obtain rfl:y=0:=by simp at z;omega
 have h:=heap_alloc_new w (.cells #[.string s,.slice A L.length cap] 24);exact ⟨C9 h 0,C9 h 1,H.below (B0)⟩
theorem qDh:(24 : TypeId)≠5:=by decide
theorem qfA (s:ByteArray) (bw:s.size<=1000) (A:Option Addr) (cap C:Nat) (I:List Tr) (am:I.length=C) (bM:C<=900) (w:World) (be:qac w) (H:qaj w A I) :
  Calls prog 50 #[.agg #[.string s,.slice A C cap]] w fun e y=>e=.returned (.string (sB (qcj s I)))/\Below w.heap.size w y:=by
 obtain ⟨bp,aN⟩:=N9 (w.heap.size);have bL:=J9 aN;obtain ⟨G,z,bO,bK,aC,aq,aO⟩:=Fr.box (Fr.nil w) #[.string s,.slice A C cap] 24;obtain rfl:G=bp:=by omega
 have aA:=H.below aq;have ax:Below z.heap.size z (z.alloc (.cells #[.string s,.slice A C cap] 24)):=B0;have W:=qkG (some ⟨z.heap.size,0,none⟩) 1 1 [⟨s,A,cap,I⟩] rfl (by omega) (fun aH bu=>by rw [QA.1 bu];exact ⟨bw,by show I.length<=900;omega⟩) (z.alloc (.cells #[.string s,.slice A C cap] 24)) ((be.below aq).below ax) (qzX z s A C cap I am aA);have aZ:([(⟨s,A,cap,I⟩:Ie)].all fun aH=>legB aH.s aH.L)=legB s I:=by simp
 rw [aZ] at W;have an:Hid (∀ E,Below z.heap.size z E->Calls prog 64 #[.agg #[.string s,.slice A C cap]] E (qjU E s (canL (opc s) I))):=fun E q=>by
  have n:=qsU s A cap I (by omega) E (aA.below q);rw [am] at n;exact n
 have B0:Hid (Below G w z):=by have n:=aq;rw [aN] at n;exact n
 obtain ⟨bE,a5⟩:=N9 (z.alloc (.cells #[.string s,.slice A C cap] 24));rw [a5] at W ax;have bs:bE.heap.size=G+2:=by rw [<- a5];simp;omega
 obtain ⟨aG,af⟩:=N9 (legB s I);rw [af] at W;rw [aO] at W;have aT:=J9 W;have bm:=J9 ax;have az:=J9 aC.o.1;have bH:=J9 am;have au:Hid (aG=false->qcj s I=[]):=fun n=>by unfold qcj;rw [af,n];rfl
 have ab:Hid (aG=true->(canL (opc s) I).length<=3/\qcj s I=if canL (opc s) I=[] then s.data.toList else s.data.toList++32 :: (qbf (canL (opc s) I)).data.toList):=fun n=>by
  obtain ⟨-,aF,-⟩:=qe2 (af.trans n);refine ⟨aF,?_⟩;unfold qcj;rw [Qk (af.trans n)]
 obtain ⟨aa,aI⟩:=N9 (qcj s I);obtain ⟨J,ae⟩:=N9 (canL (opc s) I);rw [aI] at au ab;rw [ae] at ab an;rw [aI,aN];obtain ⟨aQ,ay⟩:=Fr.qEc aC.o.1;clear H aA be aq aC ax aZ am af aI ae W
 go_enter func50,ntmps50
 go_wp2_with fail
 refine aT.o.mono ?_;rintro e E ⟨rfl,ar⟩;have O:Hid (Below (G+1) z E):=by
  have n:=bm.o;rw [aO] at n;exact n.trans (ar.mono (by omega))
 have aM:Hid (E.heap[G]?=some (.cells #[.string s,.slice A C cap] 24 (0,0))):=(O.o.block G (by omega)).trans az.o;clear aT ar bm aQ ay bs;cases aG with
 | false=>
  have bC:=J9 (au.o rfl);have bB:=J9 (B0.o.trans (O.o.mono (by omega)));clear B0 O aM an az ab au;go_wp2;go_ret;rw [bC.o];exact ⟨rfl,bB.o⟩
 | true=>
  obtain ⟨aF,a1⟩:=ab.o rfl;have a9:=J9 (an.o E (by rw [aO];exact O.o));have ak:=J9 a1;clear ab au a1;obtain ⟨aQ,ay⟩:=Fr.qEc aM.o;have bl:=J9 (B0.o.trans (O.o.mono (by omega)));have bG:G+1<=E.heap.size:=by have:=O.o.size;omega
  clear B0 O an az
  go_wp2_with fail
  refine a9.o.mono ?_;rintro e v ⟨aE,rfl,a4,aK⟩;obtain ⟨V,ad,rfl,bh,-,-⟩:=a4.ops;have aL:=J9 (qdL v);obtain ⟨h,ao⟩:=N9 (v.heap.size);have bk:=J9 (bl.o.trans (aK.mono (by omega)));have bJ:G+1<=h:=by have:=aK.size;omega
  obtain ⟨K,ag⟩:=N9 (v.alloc (.cells #[.pointer none,.slice none 0 0] 187));rw [ag,ao] at aL;have bg:CB h h K []:=by
   have n:=CB.fresh (B:=v.heap.size) v (Qa _);rw [ag,ao] at n;exact n
  have bb:Below h v K:=by rw [<- ag,<- ao];exact B0
  have bD:K.heap.size=h+1:=by rw [<- ag];simp;omega
  obtain ⟨Z,aR⟩:=N9 (J.length);rw [aR];have ai:Below K.heap.size K (K.alloc (.cells #[.string s,.slice V Z ad] 24)):=B0;obtain ⟨a2,aB⟩:=N9 (K.alloc (.cells #[.string s,.slice V Z ad] 24));rw [aB] at ai;have aS:=J9 (bg.more ai);have a3:=J9 (bb.trans (ai.mono (by omega)));have aP:Hid (a2.heap[h+1]?=some (.cells #[.string s,.slice V Z ad] 24 (0,0))):=by
   show _=_;rw [<- aB,<- bD];exact heap_alloc_new K _
  have br:a2.heap.size=h+2:=by rw [<- aB];simp;omega
  have a0:Hid (∀ r,Below h v r->qaj r V J):=fun r q=>bh.below (by rw [ao];exact q)
  clear a9 aQ ay a4 bh aK bl bg bb ai aM
  go_wp2_with fail
  refine aL.o.mono ?_;rintro e y ⟨rfl,rfl⟩;clear aL;obtain ⟨bv,bF⟩:=Fr.qEc aP.o;have aJ:=J9 (qtc (w:=v) aS.o a3.o (by omega) s (by simp;omega));rw [br] at aJ
  go_wp2_with fail
  refine aJ.o.mono ?_;rintro e T ⟨rfl,U,bd,M⟩;have bt:Hid (T.heap[h+1]?=some (.cells #[.string s,.slice V Z ad] 24 (0,0))):=bd.block aP.o (by omega) qDh;obtain ⟨bo,bA⟩:=Fr.qEc bt.o;have U:=J9 U;have M:=J9 M;have aV:=J9 (a0.o T M.o);have aX:Hid (h<=T.heap.size):=Zb U.o.lt;have ah:Hid (∀ r aj,aj=aa->CB h h r aj->Below h v r->aj.length<=10000->Calls prog 123 #[.slice none 0 0,.pointer (some ⟨h,0,none⟩)] r fun e y=>e=.returned (.string (sB aa))/\Below G w y):=by
   rintro r aj rfl ae q bN;refine (qeE (w:=v) ae q (Zb ae.lt) (by omega)).mono ?_;rintro e y ⟨rfl,-,-,ar⟩;exact ⟨rfl,bk.o.trans (ar.mono (by omega))⟩
  clear aJ bv bF aP a3 aS bd a0 bk;by_cases bn:Z=0
  ·have ap:J=[]:=Qu (by omega)
   have ac:=J9 (ah.o T _ (by rw [ak.o,Qk ap];rfl) U.o M.o (by simp;omega));subst bn;clear U M ah ak
   go_wp2_with fail
   refine ac.o.mono ?_;rintro e y ⟨rfl,q⟩;have aD:=J9 q;clear ac q;go_wp2;go_ret;exact ⟨rfl,aD.o⟩
  ·have ap:J≠[]:=fun e=>bn (by rw [<- aR,e];rfl)
   have bI:0<Z:=(by omega);have aw:=J9 (qvI V ad J (by omega) T aV.o);rw [aR] at aw;have a7:=qjA J (by omega);have av:Hid (aa=([]++s.data.toList)++((⟨#[32]⟩:ByteArray).data.toList++(qbf J).data.toList)):=(by show _=_;rw [ak.o,Qd ap];rfl);obtain ⟨a6,bc⟩:=N9 (qbf J);rw [bc] at aw av a7;have aY:Hid (∀ r,Below T.heap.size T r->Calls prog 123 #[.slice (some ⟨r.heap.size,0,none⟩) 2 2,.pointer (some ⟨h,0,none⟩)] (r.alloc (.cells #[.string ⟨#[32]⟩,.string a6] 9)) fun e y=>
     (∃ aE,e=.returned aE)/\Hid (CB h h y aa)/\Hid (Below h v y)/\Hid (aa.length<=10000)):=by
    intro r q;refine (qhj (w:=v) (U.o.more q) (M.o.trans (q.mono aX.o)) (Qm aX.o q.size) ⟨#[32]⟩ a6 (by
     have e:(⟨#[32]⟩:ByteArray).size=1:=rfl;rw [e];simp;omega)).mono ?_
    rintro e y ⟨rfl,bi,-,bq⟩;rw [<- av.o] at bi;refine ⟨⟨_,rfl⟩,bi,bq,?_⟩;show _<=_;rw [av.o];simp;omega
   clear ak av U aV bc a7 aF ap
   go_wp2_with fail
   refine aw.o.mono ?_;rintro e bx ⟨rfl,aU⟩;have bj:=J9 (aY.o bx aU);clear aw aY aU bo bA
   go_wp2_with fail
   refine bj.o.mono ?_;rintro e bz ⟨⟨aE,rfl⟩,a8,aW,bf⟩;have ac:=J9 (ah.o bz _ rfl a8.o aW.o bf.o);clear bj ah a8 aW bf M
   go_wp2_with fail
   refine ac.o.mono ?_;rintro e y ⟨rfl,q⟩;have aD:=J9 q;clear ac q;go_wp2;go_ret;exact ⟨rfl,aD.o⟩
end Go.Proofs.YtjafbmfcedijmaaGreatDoor
namespace Go.Proofs.YtjafbmfcedijmaaGreatDoor
open Tryz
open Go.RowKit Go.Shelf
attribute [local go_sem] Oper.semAt_some
def BsP (w:World) (A:Option Addr) (h:List Str):Prop:=h=[]\/∃ y z,A=some ⟨y,z,none⟩/\∀ b (G:b<h.length),∃ k E,w.cell? ⟨y,z+b,none⟩=some (.slice k h[b].length E)/\BytesAt w k h[b]
theorem BsP.below {w w':World} {A:Option Addr} {b:List Str} (K:BsP w A b) (h:Below w.heap.size w w'):BsP w' A b:=by
 rcases K with rfl | ⟨z,M,rfl,y⟩
 ·exact .inl rfl
 ·refine .inr ⟨z,M,rfl,fun G J=>?_⟩
  obtain ⟨E,O,k,U⟩:=y G J;exact ⟨E,O,(h.cell (Qp w _ k)).trans k,U.below h⟩
theorem BsP.at_ {w:World} {A:Option Addr} {y:List Str} (K:BsP w A y) {k:Nat} (G:k<y.length):∃ b z h E,A=some ⟨b,z,none⟩/\w.cell? ⟨b,z+k,none⟩=some (.slice h y[k].length E)/\BytesAt w h y[k]:=by
 rcases K with rfl | ⟨b,z,rfl,J⟩
 ·simp at G
 ·obtain ⟨h,E,O,M⟩:=J k G
  exact ⟨b,z,h,E,rfl,O,M⟩
end Go.Proofs.YtjafbmfcedijmaaGreatDoor
namespace Go.Proofs.YtjafbmfcedijmaaGreatDoor
open Tryz
open Go.RowKit Go.Shelf
structure Be where
 A:Option Addr
 cap:Nat
 xs:Str
def Be.v (r:Be):Value:=.slice r.A r.xs.length r.cap
def qwR (h:List Be):List Value:=h.map Be.v
def qkn (w:World) (n:Nat) (v:Value) (h:List Be):Prop:=w.ownsRow n 44 1 v h.length (qwR h)/\∀ r∈h,qap w n r.v r.xs
theorem qkn.below {w w':World} {n:Nat} {v:Value} {e:List Be} (g:qkn w n v e) (k:Below w.heap.size w w'):qkn w' n v e:=
 ⟨World.ownsRow.kept g.1 (row:=none) ⟨k.os,k.tape,k.output,k.size,fun y h _=>k.block y h⟩ (by
  cases z:v.ownBlock with
  | none=>exact .inl rfl
  | some E=>exact .inr (by simp)),fun r i=>(g.2 r i).below k⟩
theorem qkn.lift {w:World} {n m:Nat} {v:Value} {h:List Be} (r:qkn w n v h) (k:m<=n):qkn w m v h:=⟨row_mono r.1 k,fun z y=>(r.2 z y).lift k⟩
theorem qkn.bs {w:World} {n:Nat} {v:Value} {e:List Be} (h:qkn w n v e):∃ y k,v=.slice y e.length k/\BsP w y (e.map Be.xs):=by
 rcases h.1.2 with ⟨rfl,G⟩ | ⟨E,k,U,rfl,_,_,_⟩
 ·have:e=[]:=Qu G
  subst this;exact ⟨none,0,rfl,.inl rfl⟩
 ·refine ⟨_,k,rfl,.inr ⟨E,0,rfl,fun g O=>?_⟩⟩
  have z:g<e.length:=by simpa using O
  obtain ⟨J,K,A,R⟩:=(h.2 _ (QB z)).bytes;have M:(e.map Be.xs)[g]=e[g].xs:=by simp
  rw [M];refine ⟨J,K,?_,R⟩;rw [QS,World.ownsRow.cellAt h.1 g (by omega)];unfold qwR;rw [Za,Qi z,<- A];rfl
theorem qoP {w:World} {n:Nat} {u:Value} {xs:Str} (z:qap w n u xs) {g:Nat} (e:u.ownBlock=some g):∃ y,w.heap[g]?=some (.cells y 5 (0,0)):=by
 rcases z.2 with ⟨rfl,_⟩ | ⟨G,J,E,rfl,_,h,_⟩
 ·simp [Value.ownBlock] at e
 ·simp only [Value.ownBlock,Qz] at e
  subst e;exact ⟨_,h⟩
structure Xe where
 x:Ite
 A:Option Addr
 ca:Nat
 B:Option Addr
 cb:Nat
instance:Inhabited Xe:=⟨⟨⟨0,[],[],[],false⟩,none,0,none,0⟩⟩
def Xe.a (r:Xe):Value:=.slice r.A r.x.raw.length r.ca
def Xe.b (r:Xe):Value:=.slice r.B r.x.C.length r.cb
def Xe.v (r:Xe):Value:=.agg #[.int .i64 r.x.kind,.slice r.A r.x.raw.length r.ca,.string (sB r.x.m),.slice r.B r.x.C.length r.cb,.bool r.x.al]
def Xe.c (r:Xe):List Value:=[.int .i64 r.x.kind,.slice r.A r.x.raw.length r.ca,.string (sB r.x.m),.slice r.B r.x.C.length r.cb,.bool r.x.al]
theorem Xe.qFb (r:Xe):r.c.length=5:=rfl
theorem Xe.c_lt (r:Xe) {i:Nat} {u:Value} (h:r.c[i]?=some u):i<5:=(QP.1 h).1
def cellsI (h:List Xe):List Value:=h.flatMap Xe.c
theorem qc2:∀ t:List Xe,(cellsI t).length=t.length*5
 | []=>rfl
 | r :: h=>by
  have y:=qc2 h;show (r.c++cellsI h).length=(h.length+1)*5;rw [Qg,y,Xe.qFb];omega
theorem qi7 (a b:List Xe):cellsI (a++b)=cellsI a++cellsI b:=List.flatMap_append
theorem qg6:∀ (h:List Xe) (j:Nat) (z:j<h.length) (i:Nat),i<5->(cellsI h)[j*5+i]?=h[j].c[i]?
 | x :: t,0,z,i,y=>by
  show (x.c++cellsI t)[0*5+i]?=_;rw [Nat.zero_mul,QS,List.getElem?_append_left (by rw [Xe.qFb];exact y)];rfl
 | x :: t,j+1,z,i,y=>by
  show (x.c++cellsI t)[(j+1)*5+i]?=_;rw [Zj (by rw [Xe.qFb];omega),Xe.qFb,show (j+1)*5+i - 5=j*5+i by omega,qg6 t j (by simpa using z) i y];rfl
theorem qqd (y:List Xe):∀ h∈cellsI y,h.oneCell'=true:=fun h r=>by
 unfold cellsI at r;obtain ⟨z,-,u⟩:=List.mem_flatMap.1 r;simp only [Xe.c,QI,Q8,or_false] at u;rcases u with rfl | rfl | rfl | rfl | rfl <;> rfl
theorem qpP (h:List Xe) (j:Nat) (u:Value) (z:(cellsI h)[j]?=some u):∃ (k:Nat) (E:k<h.length) (i:Nat),i<5/\j=k*5+i/\(h[k].c)[i]?=some u:=by
 have G:j<h.length*5:=by
  rw [<- qc2];exact (QP.1 z).1
 have y:j / 5<h.length:=by omega
 refine ⟨j / 5,y,j % 5,by omega,by omega,?_⟩;rw [<- qg6 h (j / 5) y (j % 5) (by omega),show j / 5*5+j % 5=j by omega];exact z
def qi2 (w:World) (A:Option Addr) (b:List Xe):Prop:=
 b=[]\/∃ i y,A=some ⟨i,y,none⟩/\∀ h (z:h<b.length),(∀ k u,(b[h].c)[k]?=some u->w.cell? ⟨i,y+(h*5+k),none⟩=some u)/\BytesAt w b[h].A b[h].x.raw/\qaj w b[h].B b[h].x.C
theorem qi2.at_ {w:World} {A:Option Addr} {b:List Xe} (J:qi2 w A b) {k:Nat} (z:k<b.length):∃ e h,A=some ⟨e,h,none⟩/\e<w.heap.size/\w.cell? ⟨e,h+k*5,none⟩=some (.int .i64 b[k].x.kind)/\w.cell? ⟨e,h+k*5+1,none⟩=some (.slice b[k].A b[k].x.raw.length b[k].ca)/\w.cell? ⟨e,h+k*5+2,none⟩=some (.string (sB b[k].x.m))/\w.cell? ⟨e,h+k*5+3,none⟩=some (.slice b[k].B b[k].x.C.length b[k].cb)/\w.cell? ⟨e,h+k*5+4,none⟩=some (.bool b[k].x.al)/\BytesAt w b[k].A b[k].x.raw/\qaj w b[k].B b[k].x.C:=by
 rcases J with rfl | ⟨e,h,rfl,E⟩
 ·simp at z
 ·obtain ⟨O,M,G⟩:=E k z
  have i:∀ u y,(b[k].c)[u]?=some y->w.cell? ⟨e,h+k*5+u,none⟩=some y:=fun u y K=>by rw [Nat.add_assoc];exact O u y K
  exact ⟨e,h,rfl,Qp w _ (i 0 _ rfl),i 0 _ rfl,i 1 _ rfl,i 2 _ rfl,i 3 _ rfl,i 4 _ rfl,M,G⟩
theorem qi2.below {w w':World} {A:Option Addr} {u:List Xe} (J:qi2 w A u) (k:Below w.heap.size w w'):qi2 w' A u:=by
 rcases J with rfl | ⟨z,M,rfl,b⟩
 ·exact .inl rfl
 ·refine .inr ⟨z,M,rfl,fun h i=>⟨fun E G K=>?_,(b h i).2.1.below k,(b h i).2.2.below k⟩⟩
  have y:=(b h i).1 E G K;exact (k.cell (Qp w _ y)).trans y
theorem qi2.news {w:World} {A:Option Addr} {e:List Xe} (G:qi2 w A e):e.length=0\/∃ a,A=some a/\∀ j b,(cellsI e)[j]?=some b->w.cell? (a.add j)=some b:=by
 rcases G with rfl | ⟨h,i,rfl,k⟩
 ·exact .inl rfl
 ·refine .inr ⟨_,rfl,fun j b J=>?_⟩
  have K:(⟨h,i,none⟩:Addr).add j=⟨h,i+j,none⟩:=by unfold Addr.add;split <;> simp_all
  rw [K];obtain ⟨y,E,z,M,rfl,u⟩:=qpP e j b J;exact (k y E).1 z b u
theorem qyu:(prog.info? 50).map (fun i=>(i.zero,i.size,i.bytes))=some (some (.agg #[.int .i64 0,.slice none 0 0,.string ⟨#[]⟩,.slice none 0 0,.bool false]),5,80):=by kernel_rfl
def qdv (w:World) (n:Nat) (r:Xe):Prop:=qap w n r.a r.x.raw/\qah w n r.b r.x.C
theorem qdv.below {w w':World} {n:Nat} {r:Xe} (h:qdv w n r) (k:Below w.heap.size w w'):qdv w' n r:=⟨h.1.below k,h.2.below k⟩
theorem qdv.lift {w:World} {n m:Nat} {r:Xe} (h:qdv w n r) (k:m<=n):qdv w m r:=⟨h.1.lift k,h.2.lift k⟩
theorem qdv.bytes {w:World} {n:Nat} {r:Xe} (e:qdv w n r):BytesAt w r.A r.x.raw:=by
 obtain ⟨y,z,c,h⟩:=e.1.bytes;simp only [Xe.a,QC] at c;rw [c.1];exact h
theorem qdv.ops {w:World} {n:Nat} {r:Xe} (e:qdv w n r):qaj w r.B r.x.C:=by
 obtain ⟨y,z,c,h,-⟩:=qah.ops e.2;simp only [Xe.b,QC] at c;rw [c.1];exact h
def qbv (w:World) (q n:Nat) (v:Value) (h:List Xe):Prop:=w.ownsRow q 50 5 v h.length (cellsI h)/\∀ r∈h,qdv w n r
def qeZ (w:World) (n:Nat) (v:Value) (h:List Xe):Prop:=qbv w n n v h
theorem qbv.below {w w':World} {q n:Nat} {v:Value} {e:List Xe} (g:qbv w q n v e) (k:Below w.heap.size w w'):qbv w' q n v e:=
 ⟨World.ownsRow.kept g.1 (row:=none) ⟨k.os,k.tape,k.output,k.size,fun y h _=>k.block y h⟩ (by
  cases z:v.ownBlock with
  | none=>exact .inl rfl
  | some E=>exact .inr (by simp)),fun r i=>(g.2 r i).below k⟩
theorem qeZ.below {w w':World} {n:Nat} {v:Value} {h:List Xe} (y:qeZ w n v h) (k:Below w.heap.size w w'):qeZ w' n v h:=qbv.below y k
theorem qbv.lift {w:World} {q n z r:Nat} {v:Value} {h:List Xe} (y:qbv w q n v h) (k:z<=q) (J:r<=n):qbv w z r v h:=⟨row_mono y.1 k,fun G E=>(y.2 G E).lift J⟩
theorem qeZ.lift {w:World} {n m:Nat} {v:Value} {h:List Xe} (y:qeZ w n v h) (k:m<=n):qeZ w m v h:=qbv.lift y k k
theorem qbv.its {w:World} {q n:Nat} {v:Value} {g:List Xe} (u:qbv w q n v g):∃ y k,v=.slice y g.length k/\qi2 w y g/\g.length<=k/\k<=maxLen:=by
 have q:∀ h (i:h<g.length),BytesAt w g[h].A g[h].x.raw/\qaj w g[h].B g[h].x.C:=fun h i=>⟨(u.2 _ (QB i)).bytes,(u.2 _ (QB i)).ops⟩
 rcases u.1.2 with ⟨rfl,K⟩ | ⟨J,k,O,rfl,_,_,M,G,_⟩
 ·have:g=[]:=Qu K
  subst this;exact ⟨none,0,rfl,.inl rfl,Qa _,Qs _⟩
 ·refine ⟨_,k,rfl,.inr ⟨J,0,rfl,fun h i=>⟨fun E R z=>?_,q h i⟩⟩,M,G⟩
  have A:=Xe.c_lt _ z;rw [QS];exact (World.ownsRow.cellAt u.1 _ (by omega)).trans ((qg6 g h i E A).trans z)
theorem qbv.itsP {w:World} {q n l c:Nat} {A:Option Addr} {h:List Xe} (y:qbv w q n (.slice A l c) h):qi2 w A h:=by
 obtain ⟨E,G,e,z,-⟩:=y.its;simp only [QC] at e;rw [e.1];exact z
theorem qeZ.its {w:World} {n:Nat} {v:Value} {h:List Xe} (A:qeZ w n v h):∃ z y,v=.slice z h.length y/\qi2 w z h/\h.length<=y/\y<=maxLen:=qbv.its A
theorem qeZ.itsP {w:World} {n l c:Nat} {A:Option Addr} {h:List Xe} (y:qeZ w n (.slice A l c) h):qi2 w A h:=qbv.itsP y
theorem qkM (w:World) (q n:Nat):qbv w q n (.slice none 0 0) []:=⟨Zm _ _ _ _,fun r h=>absurd h Q8⟩
theorem qrr (w:World) (n:Nat):qeZ w n (.slice none 0 0) []:=qkM w n n
theorem qdv.grown {w w':World} {n:Nat} {r:Xe} {row:Option Nat} (e:qdv w n r) (k:w.grownBy w' row) (G:∀ q,row=some q->∀ E T J,w.heap[q]?=some (.cells E T J)->T≠5/\T≠57):qdv w' n r:=by
 refine ⟨World.ownsRow.kept e.1 k ?_,World.ownsRow.kept e.2 k ?_⟩
 ·cases y:r.a.ownBlock with
  | none=>exact .inl rfl
  | some q=>
   refine .inr fun z=>?_
   obtain ⟨E,h⟩:=qoP e.1 y;exact (G q z.symm _ _ _ h).1 rfl
 ·cases y:r.b.ownBlock with
  | none=>exact .inl rfl
  | some q=>
   refine .inr fun z=>?_
   obtain ⟨E,h⟩:=qbH e.2 y;exact (G q z.symm _ _ _ h).2 rfl
theorem qbv.grown {w w':World} {q n:Nat} {v:Value} {e:List Xe} {row:Option Nat} (g:qbv w q n v e) (k:w.grownBy w' row) (z:∀ r,row=some r->v.ownBlock≠some r) (h:∀ q,row=some q->∀ y T E,w.heap[q]?=some (.cells y T E)->T≠5/\T≠57):qbv w' q n v e:=
 ⟨World.ownsRow.kept g.1 k (by
  cases J:v.ownBlock with
  | none=>exact .inl rfl
  | some M=>exact .inr fun G=>z M G.symm J),fun r K=>(g.2 r K).grown k h⟩
theorem qjf {w:World} {n s m:Nat} {T:TypeId} {v:Value} {xs:List Value} (E:w.ownsRow n T s v m xs) {q:Nat} (h:v.ownBlock=some q):∃ z,w.heap[q]?=some (.cells z T (0,0)):=by
 rcases E.2 with ⟨rfl,_⟩ | ⟨J,K,G,rfl,_,y,_⟩
 ·simp [Value.ownBlock] at h
 ·simp only [Value.ownBlock,Qz] at h
  subst h;exact ⟨_,y⟩
theorem qnA (w:World) (B n:Nat) (v:Value) (k:List Xe) (G:qbv w B n v k) (A:Option Addr) (c:Nat) (R2:List Xe) (aa:qi2 w A R2) (ac:∀ r∈R2,qdv w n r) (O:B<=w.heap.size) (am:k.length+R2.length<=100000) :
  ∃ z h,(Builtin.append_ #[47,47] 47 #[v,.slice A R2.length c]).run prog w=.ok z h/\qbv h B n z (k++R2)/\Below B w h/\w.grownBy h v.ownBlock:=by
 obtain ⟨ad,U,aj,af,ag⟩:=info_parts qyu;obtain ⟨z,h,ab,ae,E⟩:=qau w B 47 47 50 ad _ 5 80 underlying47 U aj af ag rfl (by decide) v k.length (cellsI k) G.1 A R2.length c (cellsI R2)
  (qc2 R2) aa.news (qqd R2) (by unfold maxLen;omega) (by omega) O
 have T:∀ K,v.ownBlock=some K->∀ M y R,w.heap[K]?=some (.cells M y R)->y≠5/\y≠57:=fun K ai M y R Z=>by
  obtain ⟨ak,J⟩:=qjf G.1 ai;rw [Z] at J;simp only [Qz,Obj.cells.injEq] at J;rw [J.2.1];exact ⟨by decide,by decide⟩
 refine ⟨z,h,ab,⟨?_,fun r q=>?_⟩,(Qc B w).grown E O fun V ah=>(World.ownsRow.lt G.1 V ah).1,E⟩
 ·rw [qi7,Qg]
  exact ae
 ·rcases QO.1 q with q | q
  ·exact (G.2 r q).grown E T
  ·exact (ac r q).grown E T
theorem qlb {wr:World} {B n:Nat} {v:Value} {h:List Xe} (ab:qbv wr B n v h) {A:Option Addr} {c:Nat} {R2:List Xe} (K:qi2 wr A R2) (U:∀ r∈R2,qdv wr n r) (M:B<=wr.heap.size) (R:h.length+R2.length<=100000) {ops:Array Oper} {rest:List Oper} {o:Oper} {a:Act} {Q:Exit->Act->World->Prop} (af:o.guard=none) (s x:Operand)
  (Z:o.op=.call {callee:=.builtin .append,args:=#[s,x],argTypes:=#[47,47]}) (ad:o.type=47) (aa:a.eval s=v) (m:Nat) (ae:R2.length=m) (G:a.eval x=.slice A m c)
  (k:∀ y z w1,qbv w1 B n (.slice y (h++R2).length z) (h++R2)->Below B wr w1->wr.grownBy w1 v.ownBlock->wpList prog ops Q rest (a.put o.dst (.slice y (h++R2).length z)) w1):wpList prog ops Q (o :: rest) a wr:=by
 subst ae;obtain ⟨ag,ac,O,E,V,J⟩:=qnA wr B n v h ab A c R2 K U M R;obtain ⟨y,z,rfl,-,-,-⟩:=E.its;exact qag O af s x Z ad aa G (k y z ac E V J)
theorem qrs (w:World) (r:Xe) (E:BytesAt w r.A r.x.raw) (z:qaj w r.B r.x.C):qi2 (w.alloc (.cells #[.int .i64 r.x.kind,.slice r.A r.x.raw.length r.ca,.string (sB r.x.m),.slice r.B r.x.C.length r.cb,.bool r.x.al] 50)) (some ⟨w.heap.size,0,none⟩) [r]:=by
 refine .inr ⟨_,_,rfl,fun u y=>?_⟩;obtain rfl:u=0:=by simp at y;omega
 refine ⟨fun k G h=>?_,E.below (qaG _ _),z.below (qaG _ _)⟩;rw [QS,Nat.zero_mul,QS,C9 (heap_alloc_new w _)];have i:=Xe.c_lt _ h
 match k,i with
 | 0,_=>exact h
 | 1,_=>exact h
 | 2,_=>exact h
 | 3,_=>exact h
 | 4,_=>exact h
def qgZ (w:World) (l:List Ite) (e:Ending) (w':World):Prop:=∃ h y c,e=.returned (.slice h (List.length c) y)/\c.map Xe.x=l/\qeZ w' w.heap.size (.slice h c.length y) c/\Below w.heap.size w w'
end Go.Proofs.YtjafbmfcedijmaaGreatDoor
namespace Go.Proofs.YtjafbmfcedijmaaGreatDoor
open Tryz
open Go.RowKit Go.Shelf Cm
attribute [local go_sem] Oper.semAt_some
attribute [local irreducible] Go.Mixed.qD8
theorem qo0 (s:ByteArray) (bb:s.size<=1000) (A:Option Addr) (cap o:Nat) (I:List Tr) (ak:I.length=o) (bl:o<=900) (w:World) (H:qaj w A I) :
  Calls prog 57 #[.agg #[.string s,.slice A o cap]] w fun m J=>m=.returned (.string (sB (qcj s I)))/\Below w.heap.size w J:=by
 obtain ⟨aD,aR⟩:=N9 (w.heap.size);obtain ⟨O,ap,bC,bw,al,aW,bA⟩:=Fr.box (Fr.start w aD aR) #[.string s,.slice A o cap] 24;obtain rfl:O=aD:=by omega
 have ai:=H.below aW;have aH:=J9 (qda s bb A cap o I ak bl ap ai);have aq:Hid (∀ E,Below ap.heap.size ap E->Calls prog 68 #[.agg #[.string s,.slice A o cap]] E (qjU E s (canL (opc s) I))):=fun E aa=>by
  have e:=qjc s A cap I (by omega) E (ai.below aa);rw [ak] at e;exact e
 obtain ⟨bk,a4⟩:=Fr.qEc al.o.1;have ae:Hid (legB s I=false->qcj s I=[]):=fun e=>by unfold qcj;rw [e];rfl
 have T:Hid (legB s I=true->(canL (opc s) I).length<=3/\qcj s I=if canL (opc s) I=[] then s.data.toList else s.data.toList++32 :: (qbf (canL (opc s) I)).data.toList):=fun e=>by
  obtain ⟨-,am,-⟩:=qe2 e;refine ⟨am,?_⟩;unfold qcj;rw [Qk e]
 obtain ⟨aB,ao⟩:=N9 (qcj s I);obtain ⟨h,aY⟩:=N9 (canL (opc s) I);rw [ao] at ae T;rw [aY] at T aq;rw [aR,ao];clear H ai aW ak ao aY
 go_enter func57,ntmps57
 go_wp2_with fail
 refine aH.o.mono ?_;rintro m E ⟨bg,bo,a2,bh,bf,a5,bc,bi,br,rfl,V,aT⟩;have aw:=J9 (quZ aT);have aL:=Fr.up al V;have bq:O<E.heap.size:=by have:=V.size;omega
 obtain ⟨bD,an,bx,bz,aZ,ay,bu⟩:=Fr.box aL #[.int .i64 bg,.int .u8 bo,.string (sB a2),.slice bh bf a5,.string (sB bc),.bool bi] 66;have ar:Hid (∀ n,Below an.heap.size an n->Calls prog 68 #[.agg #[.string s,.slice A o cap]] n (qjU n s h)):=fun n aa=>aq.o n (V.trans ((ay.trans (aa.mono ay.size)).mono V.size))
 obtain ⟨-,ab,⟨W,aG⟩,-⟩:=aZ.o;obtain ⟨a6,bn⟩:=Fr.qEc ab;have ab:=J9 ab;have W:=J9 W;simp only [enV];clear aH aq V aT bk a4 al aL aZ ay;rcases aw.o with ⟨rfl,Z⟩ | ⟨bB,Z⟩
 ·obtain ⟨am,aE⟩:=T.o Z
  have ac:=J9 aE;have aN:=J9 (ar.o an (Qc _ _));clear aw Z ar ab T ae aE
  go_wp2_with fail
  refine aN.o.mono ?_;rintro m n ⟨bv,rfl,aI,au⟩;obtain ⟨v,z,rfl,aV,-,-⟩:=aI.ops;obtain ⟨C,av⟩:=N9 (h.length);rw [av];have aF:=J9 (W.o.trans (au.mono aG));have a9:O<=n.heap.size:=Qm aG au.size;obtain ⟨g,y,bp,bs,af,az,bt⟩:=Fr.box (Fr.nil n) #[.string s,.slice v C z] 24;have ag:=J9 (aV.below az);have ah:=J9 (aF.o.trans (az.mono a9));have aS:O<=y.heap.size:=by omega
  obtain ⟨aM,a0⟩:=Fr.qEc af.o.1;have aU:=J9 af.o.1;clear aN au aI aV az af a6 bn W aF;by_cases a1:C=0
  ·have ad:h=[]:=Qu (by omega)
   have K:Hid (s=sB aB):=by
    show s=_;rw [ac.o,Qk ad];unfold sB;simp
   subst a1;clear ac ag;go_wp2;go_ret;rw [<- K.o];exact ⟨rfl,ah.o⟩
  ·have ad:h≠[]:=fun m=>a1 (by rw [<- av,m];rfl)
   have aA:Hid (∀ G,Below y.heap.size y G->Calls prog 100 #[.slice v C z] G fun m J=>m=.returned (.string (qbf h))/\Below G.heap.size G J):=fun G aa=>by
    have e:=qsl v z h (by omega) G (ag.o.below aa);rw [av] at e;exact e
   have a8:=qjA h (by omega);have K:Hid ((s++⟨#[32]⟩)++qbf h=sB aB):=by
    show _=_;rw [ac.o,Qd ad];apply qaB;rw [qam,qam];simp [sB]
   obtain ⟨a7,aQ⟩:=N9 (qbf h);rw [aQ] at aA a8 K;clear ac ag aQ am ad
   go_upto_region 7 with fail
   obtain ⟨U,aj⟩:=N9 (y.drew);have M:Below y.heap.size y U:=(by rw [<- aj];exact below_drewN y _ 1);refine Mixed.qD5 (fun J=>J.cell? ⟨g,0,none⟩=some (.string s)/\J.cell? ⟨g,1,none⟩=some (.slice v C z)) 7 [(0,true),(1,true),(2,true),(3,true),(4,true),(5,false),(6,true)] (by kernel_rfl) (by kernel_rfl) ⟨aM,a0⟩ ?_;rw [aj];refine Mixed.mp rfl (.pointer (some ⟨g,0,none⟩)) ?_;refine Mixed.mo rfl (.string s) (fun w e=>by obtain ⟨bm,bd⟩:=e;go_simp;try rfl) ?_;refine Mixed.mo rfl (.string (s++⟨#[32]⟩)) (fun w e=>by clear e;go_simp;try omega) ?_;refine Mixed.mp rfl (.pointer (some ⟨g,1,none⟩)) ?_;refine Mixed.mo rfl (.slice v C z) (fun w e=>by obtain ⟨bm,bd⟩:=e;go_simp;try rfl) ?_;refine Mixed.qD6 rfl (by kernel_rfl) ?_;have aC:=J9 (aA.o U M);have aX:Hid (U.heap[g]?=some (.cells #[.string s,.slice v C z] 24 (0,0))):=(M.block g (by omega)).trans aU.o;have aP:=J9 (ah.o.trans (M.mono aS));have bj:O<=U.heap.size:=Qm aS M.size;have be:g<U.heap.size:=(by have:=M.size;omega);clear aA M aU ah aM a0 aj
   go_wp2_with fail
   refine aC.o.mono ?_;rintro m aO ⟨rfl,ax⟩;have aK:=(ax.block g be).trans aX.o;have aJ:Hid (aO.cell? ⟨g,0,none⟩=some (.string s)/\aO.cell? ⟨g,1,none⟩=some (.slice v C z)):=Fr.qEc aK;have a3:=J9 (aP.o.trans (ax.mono bj));clear aC ax aK aX aP;go_wp2;refine ⟨aJ.o,?_⟩;refine Mixed.mo rfl (.string ((s++⟨#[32]⟩)++a7)) (fun w e=>by clear e;go_simp;first | omega | (simp;omega)) ?_;simp only [Mixed.qD8,Qq,Qy];clear aJ;go_wp2;go_ret;rw [K.o];exact ⟨rfl,a3.o⟩
 ·have K:=J9 (ae.o Z)
  clear aw Z ar ab T ae;go_wp2;go_ret;rw [K.o];exact ⟨rfl,W.o⟩
def qe7 (xs:Str) (k:Nat):Str:=if k=0 then [] else [68,69,70,66,32]++qgf [44] ((xs.map qlp).take k)
theorem qk1 (xs:Str):qe7 xs xs.length=qgb xs:=by
 unfold qe7 qgb;by_cases e:xs=[]
 ·subst e;rfl
 ·rw [Qd (fun h=>e (Qu h)),Qd e,QJ (by simp)]
theorem qlr (xs:Str) (k:Nat) (E:xs.length<=1000):(qe7 xs k).length<=8000:=by
 unfold qe7;split
 ·simp
 ·have J:=qgq [44] ((xs.map qlp).take k) 1 6 (by decide) fun z x=>by
   obtain ⟨h,-,rfl⟩:=List.mem_map.1 (List.mem_of_mem_take x);exact qiR h
  have G:((xs.map qlp).take k).length<=1000:=by rw [QD,QM];omega
  rw [Qg];have y:([68,69,70,66,32]:Str).length=5:=rfl;omega
theorem qq8 (xs:Str) (h:0<xs.length):(⟨#[68,69,70,66,32]⟩:ByteArray)++qaM (xs[0].toNat:Int)=sB (qe7 xs 1):=by
 apply qaB;rw [qam];unfold qe7;rw [Qd (by decide),qoo [44] _ (by simpa using h)];simp [sB,qlp]
theorem qqp (xs:Str) (k:Nat) (h:0<k) (y:k<xs.length):(sB (qe7 xs k)++⟨#[44]⟩)++qaM (xs[k].toNat:Int)=sB (qe7 xs (k+1)):=by
 apply qaB;rw [qam,qam];unfold qe7;rw [Qd (by omega),Qd (by omega),qks [44] _ k h (by simpa using y)];simp [sB,qlp]
theorem qss (A:Option Addr) (n cap:Nat) (xs:Str) (ac:xs.length=n) (ao:n<=1000) (w:World) (H:BytesAt w A xs) :
  Calls prog 58 #[.slice A n cap] w fun s B=>s=.returned (.string (sB (qgb xs)))/\Below w.heap.size w B:=by
 obtain ⟨h,Z⟩:=N9 (w.heap.size);have M:Hid (∀ (wr:World) (b:Nat) (e:ByteArray),b<n->e=sB (qe7 xs b)->Below h w wr->h<=wr.heap.size->e.size<=8000/\∃ (y x:Nat) (z:Int) (t:ByteArray),A=some ⟨y,x,none⟩/\wr.cell? ⟨y,x+b,none⟩=some (.int .u8 z)/\(0<=z/\z<=255)/\t.size<=6/\
   (Calls prog 101 #[.int .i64 z] wr fun s B=>s=.returned (.string t)/\Hid (Below h w B)/\h<=B.heap.size)/\
   Hid ((b=0->(⟨#[68,69,70,66,32]⟩:ByteArray)++t=sB (qe7 xs (b+1)))/\(0<b->(e++⟨#[44]⟩)++t=sB (qe7 xs (b+1))))):=by
  rintro wr b e aj rfl ab af;have G:b<xs.length:=by omega
  refine ⟨qlr xs b (by omega),?_⟩;obtain rfl | ⟨y,x,U,v⟩:=H.below (by rw [Z];exact ab)
  ·simp at G
  ·refine ⟨y,x,(xs[b].toNat:Int),qaM (xs[b].toNat:Int),U,v b G,⟨by omega,by have:=xs[b].toNat_lt;omega⟩,qaz _,(qdE _ wr).mono ?_,?_⟩
   ·rintro s B ⟨rfl,rfl⟩
    exact ⟨rfl,ab,af⟩
   ·refine ⟨?_,fun ak=>qqp xs b ak G⟩
    rintro rfl;exact qq8 xs G
 have O:Hid (∀ e,e=sB (qe7 xs n)->e=sB (qgb xs)):=by
  rintro e rfl;rw [<- ac,qk1]
 have B0:Hid (Below h w w):=Qc _ _;have aa:h<=w.heap.size:=by omega
 rw [Z];clear H ac Z
 go_enter func58,ntmps58
 go_wp2
 go_loopw [3,4] (fun ae J wr=>∃ (b:Nat) (e:ByteArray),b<=n/\J=.int .i64 b/\ae=.string e/\Hid (e=sB (qe7 xs b))/\Hid (Below h w wr)/\h<=wr.heap.size) (fun _ J _=>n - (intOf J).toNat)
 case atStart=>exact ⟨0,⟨#[]⟩,Qs _,rfl,rfl,rfl,B0,aa⟩
 case round=>
  clear B0 aa;obtain ⟨b,e,aj,rfl,rfl,E,K,ah⟩:=hrel;by_cases ag:b<n
  ·obtain ⟨am,y,x,z,t,U,v,⟨ap,aq⟩,an,i,k⟩:=M.o wr b e ag E.o K.o ah
   subst U;have i:=J9 i;clear K E M O;by_cases ad:b=0
   ·subst ad
    rw [Nat.add_zero] at v;have N:=J9 (k.o.1 rfl);clear k
    go_wp2_with fail
    refine i.o.mono ?_;rintro s ai ⟨rfl,V,S⟩;clear i v;go_wp2;go_roundw
    case rel=>exact ⟨0+1,_,by omega,by go_num,rfl,N.o,V,S⟩
    case measure=>simp [intOf];omega
   ·have N:=J9 (k.o.2 (by omega))
    clear k
    go_wp2_with fail
    refine i.o.mono ?_;rintro s ai ⟨rfl,V,S⟩;clear i v;go_wp2;go_roundw
    case rel=>exact ⟨b+1,_,by omega,by go_num,rfl,N.o,V,S⟩
    case measure=>simp [intOf];omega
  ·obtain rfl:b=n:=by omega
   have k:=J9 (O.o e E.o);clear E M O;go_wp2;go_ret;rw [k.o];exact ⟨rfl,K.o⟩
def qge (x:Ite):Prop:=x.raw.length<=300/\x.m.length<=1000/\x.C.length<=900
def XAt (w:World) (r:Xe):Prop:=BytesAt w r.A r.x.raw/\qaj w r.B r.x.C
theorem XAt.below {w w':World} {r:Xe} (h:XAt w r) (k:Below w.heap.size w w'):XAt w' r:=⟨h.1.below k,h.2.below k⟩
theorem qfB (m:Str):(sB m).size=m.length:=rfl
theorem qlv {x:Ite} (y:x.kind=1) (h:x.al=false):sB (qbP x)=sB (qcj (sB x.m) x.C):=by unfold qbP;rw [Qk ⟨y,h⟩]
theorem qlh {x:Ite} (h:¬(x.kind=1/\x.al=false)):sB (qbP x)=sB (qgb x.raw):=by unfold qbP;rw [Qd h]
theorem qku (r:Xe) (ai:qge r.x) (w:World) (ag:qac w) (H:XAt w r) :
  Calls prog 53 #[r.v] w fun G J=>G=.returned (.string (sB (qbP r.x)))/\Below w.heap.size w J:=by
 obtain ⟨x,V,aa,M,K⟩:=r;obtain ⟨ad,ae,O⟩:=ai;obtain ⟨U,Z⟩:=H;unfold Xe.v;simp only at ad ae O U Z |-;obtain ⟨ao,ab,ax,am,ac,B,ay⟩:=Fr.box (Fr.nil w) #[.int .i64 x.kind,.slice V x.raw.length aa,.string (sB x.m),.slice M x.C.length K,.bool x.al] 50;have I2:qar ab ao x.kind (.slice V x.raw.length aa) (sB x.m) (.slice M x.C.length K) x.al:=ac.o.1;obtain ⟨ak,al,ap,an,aj,au⟩:=I2.cells;have z:=J9 (qfA (sB x.m) (by rw [qfB];omega) M K x.C.length x.C rfl O ab (ag.below B) (Z.below B));have h:=J9 (qwg V x.raw.length aa x.raw rfl (by omega) ab (U.below B));have E:=J9 (qlv (x:=x));have y:=J9 (qlh (x:=x));have m:=J9 B;obtain ⟨ah,av,ar,aw,aq⟩:=x;simp only at ak al ap an aj z h E y ad O am;clear U Z ag ac I2 B ae;by_cases af:ah=1
 ·subst af
  cases aq with
  | false=>
   have C:=J9 (E.o rfl rfl);clear E y h
   go_enter func53,ntmps53
   go_wp2_with fail
   refine z.o.mono ?_;rintro G J ⟨rfl,e⟩;have A:=J9 (m.o.trans (e.mono m.o.size));clear z e;go_wp2;go_ret;rw [C.o];exact ⟨rfl,A.o⟩
  | true=>
   have C:=J9 (y.o (by simp));clear E y z
   go_enter func53,ntmps53
   go_wp2_with fail
   refine h.o.mono ?_;rintro G J ⟨rfl,e⟩;have A:=J9 (m.o.trans (e.mono m.o.size));clear h e;go_wp2;go_ret;rw [C.o];exact ⟨rfl,A.o⟩
 ·have C:=J9 (y.o (by simp [af]))
  clear E y z
  go_enter func53,ntmps53
  go_wp2_with fail
  refine h.o.mono ?_;rintro G J ⟨rfl,e⟩;have A:=J9 (m.o.trans (e.mono m.o.size));clear h e;go_wp2;go_ret;rw [C.o];exact ⟨rfl,A.o⟩
theorem qr9 (r:Xe) (ah:qge r.x) (w:World) (H:XAt w r) :
  Calls prog 26 #[r.v] w fun G J=>G=.returned (.string (sB (qbP r.x)))/\Below w.heap.size w J:=by
 obtain ⟨x,V,aa,M,K⟩:=r;obtain ⟨ad,ae,O⟩:=ah;obtain ⟨U,Z⟩:=H;unfold Xe.v;simp only at ad ae O U Z |-;obtain ⟨an,ab,aw,al,ac,E,ax⟩:=Fr.box (Fr.nil w) #[.int .i64 x.kind,.slice V x.raw.length aa,.string (sB x.m),.slice M x.C.length K,.bool x.al] 50;have I2:qar ab an x.kind (.slice V x.raw.length aa) (sB x.m) (.slice M x.C.length K) x.al:=ac.o.1;obtain ⟨aj,ak,ao,am,ai,ar⟩:=I2.cells;have z:=J9 (qo0 (sB x.m) (by rw [qfB];omega) M K x.C.length x.C rfl O ab (Z.below E));have h:=J9 (qss V x.raw.length aa x.raw rfl (by omega) ab (U.below E));have C:=J9 (qlv (x:=x));have y:=J9 (qlh (x:=x));have m:=J9 E;obtain ⟨ag,au,aq,av,ap⟩:=x;simp only at aj ak ao am ai z h C y ad O al;clear U Z ac I2 E ae;by_cases af:ag=1
 ·subst af
  cases ap with
  | false=>
   have B:=J9 (C.o rfl rfl);clear C y h
   go_enter func26,ntmps26
   go_wp2_with fail
   refine z.o.mono ?_;rintro G J ⟨rfl,e⟩;have A:=J9 (m.o.trans (e.mono m.o.size));clear z e;go_wp2;go_ret;rw [B.o];exact ⟨rfl,A.o⟩
  | true=>
   have B:=J9 (y.o (by simp));clear C y z
   go_enter func26,ntmps26
   go_wp2_with fail
   refine h.o.mono ?_;rintro G J ⟨rfl,e⟩;have A:=J9 (m.o.trans (e.mono m.o.size));clear h e;go_wp2;go_ret;rw [B.o];exact ⟨rfl,A.o⟩
 ·have B:=J9 (y.o (by simp [af]))
  clear C y z
  go_enter func26,ntmps26
  go_wp2_with fail
  refine h.o.mono ?_;rintro G J ⟨rfl,e⟩;have A:=J9 (m.o.trans (e.mono m.o.size));clear h e;go_wp2;go_ret;rw [B.o];exact ⟨rfl,A.o⟩
theorem qje (s:ByteArray) (L:List Tr) (y:s.size<=1000):(qcj s L).length<=6000:=by
 have h:s.data.toList.length=s.size:=by simp
 unfold qcj;split
 ·rename_i e
  have E:=qjA (canL (opc s) L) (by have:=(qe2 e).2.1;omega);have z:(qbf (canL (opc s) L)).data.toList.length=(qbf (canL (opc s) L)).size:=by simp
  split
  ·omega
  ·rw [Qg,Qv];omega
 ·simp
theorem qpr (r:Xe) (ag:qge r.x) (w:World) (aa:qac w) (H:XAt w r) :
  Calls prog 134 #[r.v] w fun ac af=>ac=.returned (.string (sB (qkc r.x)))/\Below w.heap.size w af:=by
 obtain ⟨x,Z,ad,A,z⟩:=r;obtain ⟨O,V,B⟩:=ag;obtain ⟨U,E⟩:=H;unfold Xe.v;simp only at O V B U E |-;obtain ⟨ao,ae,ay,am,K,h,az⟩:=Fr.box (Fr.nil w) #[.int .i64 x.kind,.slice Z x.raw.length ad,.string (sB x.m),.slice A x.C.length z,.bool x.al] 50;have I2:qar ae ao x.kind (.slice Z x.raw.length ad) (sB x.m) (.slice A x.C.length z) x.al:=K.o.1;obtain ⟨ak,al,ap,an,ah,av⟩:=I2.cells;have e:=J9 (qfA (sB x.m) (by rw [qfB];omega) A z x.C.length x.C rfl B ae (aa.below h) (E.below h));have y:=J9 h;have M:(sB (qcj (sB x.m) x.C)).size<=6000:=qje (sB x.m) x.C (by rw [qfB];omega);obtain ⟨aj,J⟩:=N9 (sB (qcj (sB x.m) x.C));rw [J] at e M;have m:Hid (x.al=true->(⟨#[32,32,59,32]⟩:ByteArray)++aj=sB (qkc x)):=fun G=>by
  rw [<- J];apply qaB;rw [qam];unfold qkc;rw [Qk G];simp [sB]
 have t:Hid (x.al=false->(⟨#[]⟩:ByteArray)=sB (qkc x)):=fun G=>by unfold qkc;rw [G];rfl
 obtain ⟨ar,aw,au,ax,aq⟩:=x;simp only at ak al ap an ah e m t O B am M;clear U E aa K I2 h V J;cases aq with
 | false=>
  have C:=J9 (t.o (by first | rfl | trivial));clear t e m
  go_enter func134,ntmps134
  go_wp2;go_ret;rw [C.o];exact ⟨rfl,y.o⟩
 | true=>
  have C:=J9 (m.o (by first | rfl | trivial));clear t m
  go_enter func134,ntmps134
  go_wp2_with fail
  refine e.o.mono ?_;rintro ac af ⟨rfl,ab⟩;have ai:=J9 (y.o.trans (ab.mono y.o.size));clear e ab;go_wp2;go_ret;rw [C.o];exact ⟨rfl,ai.o⟩
end Go.Proofs.YtjafbmfcedijmaaGreatDoor
namespace Go.Proofs.YtjafbmfcedijmaaGreatDoor
open Tryz
open Go.RowKit
open Go.Ev in
def qx9 (P:Program) (n:Nat):Bool:=match qhG P 200 8 135 [⟨false,[.int .u64 1]⟩,⟨false,[.int .u64 (n:Int)]⟩] [] 1 with
 | some (.tup [⟨false,[.int .u64 b]⟩,⟨false,[.int .u64 a]⟩],h)=>Ev.intB b 0&&Ev.intB a n
 | _=>false
def qBo (P:Program):Bool:=(List.range 20).all fun h=>qx9 P h
theorem qyQ:qBo prog=true:=by decide +kernel
open Go.Ev in
theorem qxI (n:Nat) (O:n<20) (w:World):Calls prog 135 #[.int .u64 1,.int .u64 (n:Int)] w fun u y=>u=.returned (.tuple #[.int .u64 0,.int .u64 (n:Int)])/\Below w.heap.size w y:=by
 have a:=QR.1 (show (List.range 20).all (fun n=>qx9 prog n)=true from qyQ) n (QW.2 O);unfold qx9 at a;split at a
 ·rename_i ae ac aa z
  refine (qnq z (us:=[.int .u64 1,.int .u64 (n:Int)]) ⟨_,_,rfl,⟨_,rfl,rfl⟩,_,_,rfl,⟨_,rfl,rfl⟩,rfl⟩ w).mono ?_;rintro u y ⟨ab,Z,rfl,⟨G,rfl,h,ad,b,⟨ag,M,U⟩,e,af,rfl,⟨V,K,J⟩,rfl⟩,E⟩;cases M;cases K;have b:G=#[h,e]:=Array.ext' b;subst b;rw [Qh] at a;rw [show h=_ from U,show e=_ from J,Ev.qEz a.1,Ev.qEz a.2];exact ⟨rfl,E.below⟩
 ·cases a
def spS (n:Nat):ByteArray:=sB (List.replicate n 32)
theorem qDi (n:Nat) (s:n<=18):∀ h:ByteArray,h=sB (List.replicate 128 32)->h.extract 0 n=spS n:=by
 rintro h rfl;apply qaB;rw [Lib.extract_data];unfold spS sB;show List.take (n - 0) (List.drop 0 (List.replicate 128 32))=List.replicate n 32;rw [Qy,Nat.sub_zero,List.take_replicate,Nat.min_eq_left (by omega)]
theorem qoM (s p:ByteArray) (y:s.size<=maxLen) (q:p.size<=maxLen) (w:World) :
  Calls prog 136 #[.string s,.string p] w fun h E=>h=.returned (.bool (preB s p))/\w=E:=by
 have e:=J9 (qe3 s p y q w);obtain ⟨G,z⟩:=N9 (preB s p);rw [z] at e |-;clear y q z
 go_enter func136,ntmps136
 go_wp2_with fail
 refine e.o.mono ?_;rintro h E ⟨rfl,rfl⟩;clear e;go_wp2;go_ret;exact ⟨rfl,rfl⟩
theorem qyL (n:Nat) (U:n<=18) (w:World) :
  Calls prog 89 #[.string ⟨#[32]⟩,.int .i64 (n:Int)] w fun p s=>p=.returned (.string (spS n))/\Below w.heap.size w s:=by
 by_cases V:n=0
 ·subst V
  have aa:Hid ((⟨#[]⟩:ByteArray)=spS 0):=rfl
  go_enter func89,ntmps89
  go_wp2;go_ret;exact ⟨rfl,Qc _ _⟩
 by_cases y:n=1
 ·subst y
  go_enter func89,ntmps89
  go_wp2;go_ret;exact ⟨rfl,Qc _ _⟩
 have z:=J9 (qxI n (by omega) w);have M:2<=n:=by omega
 go_enter func89,ntmps89
 go_wp2_with fail
 refine z.o.mono ?_;rintro p ab ⟨rfl,G⟩;have K:=J9 G;clear z G;have J:∀ e h w,preB h e=true->h.size<=200->e.size<=200->Hid (Calls prog 136 #[.string h,.string e] w fun p s=>p=.returned (.bool true)/\w=s):=fun e h w Z y M=>by
  have E:=qoM h e (by unfold maxLen;omega) (by unfold maxLen;omega) w;rw [Z] at E;exact E
 go_wp2_with fail
 refine (J _ _ _ (by decide +kernel) (by decide +kernel) (by decide +kernel)).o.mono ?_;rintro p s ⟨rfl,rfl⟩;clear J;go_wp2;go_ret;exact ⟨congrArg (fun O=>Ending.returned (.string O)) (qDi n U _ (by rfl)),K.o⟩
end Go.Proofs.YtjafbmfcedijmaaGreatDoor
namespace Go.Proofs.YtjafbmfcedijmaaGreatDoor
open Tryz
open Go.RowKit
theorem qvo {b:Str} (y:b≠[]):(itR b).raw.length<=4:=by
 have z:=qvT b;by_cases h:(itR b).kind=4
 ·have G:=(qbS y).2.2.2 h
  have E:=(qkd y).1 h;omega
 ·rw [qux y h]
  exact z.2
theorem qjq (b:Str):(itemsR b).length<=b.length:=by
 refine qrh (P:=fun b=>(itemsR b).length<=b.length) (Qa _) ?_ b;intro b h y;have z:=qbS h;simp only [Q1] at y;rw [qfo h,Qv];omega
theorem qpo {z y:Type} {f:z->y} {h:List z} {a c:List y} (E:h.map f++a=c):h.length+a.length=c.length:=by rw [<- E,Qg,QM]
theorem qfD {h:Type} {f:h->Ite} {y:List h} {rest b:Str} (J:y.map f++itemsR rest=itemsR b) (E:rest≠[]) (z:h) (G:f z=itR rest):(y++[z]).map f++itemsR (rest.drop (itR rest).raw.length)=itemsR b:=by
 rw [<- J,qfo E,Zc,Ze];simp [G]
theorem qqO {y:Type} {f:y->Ite} {h:List y} {rest b:Str} (z:h.map f++itemsR rest=itemsR b):h.length<=b.length:=by
 have G:=qpo z;have E:=qjq b;omega
theorem qgz {b:Str} {k l:Nat} (h:b.length=l) (y:k<l):b.drop k≠[]:=fun e=>by
 have:=congrArg List.length e;rw [Q1] at this;simp at this;omega
end Go.Proofs.YtjafbmfcedijmaaGreatDoor
namespace Go.Proofs.YtjafbmfcedijmaaGreatDoor
open Tryz
open Go.RowKit Go.Shelf
attribute [local go_sem] Oper.semAt_some
attribute [local irreducible] Go.Mixed.qD8
theorem que {w:World} {n l c:Nat} {A:Option Addr} {xs:Str} (h:qap w n (.slice A l c) xs):BytesAt w A xs:=by
 obtain ⟨z,E,e,y⟩:=h.bytes;simp only [QC] at e;rw [e.1];exact y
def ItJ (w:World) (A:Option Addr) (r:Xe) (j:Nat):Prop:=∃ b h,A=some ⟨b,h,none⟩/\w.cell? ⟨b,h+j*5,none⟩=some (.int .i64 r.x.kind)/\w.cell? ⟨b,h+j*5+1,none⟩=some (.slice r.A r.x.raw.length r.ca)/\w.cell? ⟨b,h+j*5+2,none⟩=some (.string (sB r.x.m))/\w.cell? ⟨b,h+j*5+3,none⟩=some (.slice r.B r.x.C.length r.cb)/\w.cell? ⟨b,h+j*5+4,none⟩=some (.bool r.x.al)/\BytesAt w r.A r.x.raw/\qaj w r.B r.x.C
theorem qi2.j {w:World} {A:Option Addr} {b:List Xe} (z:qi2 w A b) {k:Nat} (y:k<b.length):ItJ w A b[k] k:=by
 obtain ⟨h,E,J,-,G⟩:=z.at_ y;exact ⟨h,E,J,G⟩
end Go.Proofs.YtjafbmfcedijmaaGreatDoor
namespace Go.Proofs.YtjafbmfcedijmaaGreatDoor
open Tryz
open Go.RowKit Go.Shelf Cm
attribute [local go_sem] Oper.semAt_some
attribute [local irreducible] Go.Mixed.qD8
def quj:Array Value:=#[.int .i64 0,.int .i64 0,.func (.func 128) #[] #[],.int .i64 6,.int .i64 2,.func (.func 130) #[] #[],.int .i64 18,.int .i64 2,.func (.func 133) #[] #[]]
theorem qmK (w:World):Calls prog 88 #[] w fun h o=>h=.returned (.agg quj)/\Below w.heap.size w o:=by
 have B0:∀ e,Hid (Below w.heap.size w (w.alloc e)):=fun e=>B0
 go_enter func88,ntmps88
 go_wp2;refine bodyPost_ret (v:=.agg quj) ?_ rfl ⟨rfl,(B0 _).o⟩;simp [results,results88,go_sem,quj]
theorem qCN:(133 : TypeId)≠5:=by decide
section
variable (r:Xe) (hr:qge r.x) (a:Int) (w:World)
theorem quE:Calls prog 128 #[.int .i64 a,r.v] w fun A B=>A=.returned (.string (qcM a 4))/\Below w.heap.size w B:=by
 obtain ⟨e,M,O,K,J⟩:=r;unfold Xe.v;obtain ⟨aa,U,ab,Z,E,x,ac⟩:=Fr.box (Fr.nil w) #[.int .i64 e.kind,.slice M e.raw.length O,.string (sB e.m),.slice K e.C.length J,.bool e.al] 50;have h:=J9 (qmH a 4 (by omega) U);have s:=J9 x;obtain ⟨V,y⟩:=N9 (qcM a 4);rw [y] at h |-;clear y E x
 go_enter func128,ntmps128
 go_wp2_with fail
 refine h.o.mono ?_;rintro A B ⟨rfl,z⟩;have G:=J9 (s.o.trans (z.mono s.o.size));clear h z;go_wp2;go_ret;exact ⟨rfl,G.o⟩
include hr in
theorem qv1 (H:XAt w r):Calls prog 130 #[.int .i64 a,r.v] w fun U Z=>U=.returned (.string (sB (qqv r.x)))/\Below w.heap.size w Z:=by
 obtain ⟨x,y,z,J,G⟩:=r;obtain ⟨ab,ad,ac⟩:=hr;obtain ⟨s,ae⟩:=H;unfold Xe.v;simp only at ab s |-;obtain ⟨af,V,ao,am,B,h,aq⟩:=Fr.box (Fr.nil w) #[.int .i64 x.kind,.slice y x.raw.length z,.string (sB x.m),.slice J x.C.length G,.bool x.al] 50;have I2:qar V af x.kind (.slice y x.raw.length z) (sB x.m) (.slice J x.C.length G) x.al:=B.o.1;obtain ⟨aj,ak,ap,an,ag,ah⟩:=I2.cells;have A:∀ args w,(callFunc 132 args).run prog w=.ok (.enter 132 args) w:=enters_of func132 (by kernel_rfl) rfl;have e:=J9 (qsu 132 qi0 A qwm (fun x=>by rw [qlw];omega) [32] (by decide) y x.raw.length z x.raw rfl (by omega) V (s.below h));have E:=J9 h;have O:sB [32]=⟨#[32]⟩:=rfl;rw [O] at e;unfold qqv;obtain ⟨ai,K⟩:=N9 (sB (qgf [32] (x.raw.map qi0)));rw [K] at e |-;clear K O s ae B I2 h ad ac A
 go_enter func130,ntmps130
 go_wp2_with fail
 refine e.o.mono ?_;rintro U Z ⟨rfl,M⟩;have aa:=J9 (E.o.trans (M.mono E.o.size));clear e M;go_wp2;go_ret;exact ⟨rfl,aa.o⟩
theorem qtV (b:Str) (h:b.length<=1000):(qgb b).length<=8000:=by rw [<- qk1];exact qlr b _ h
theorem qi9 {x:Ite} (h:qge x):(qbP x).length<=8000:=by
 unfold qbP;split
 ·exact Qm (qje _ _ (by rw [qfB];exact h.2.1)) (by omega)
 ·exact qtV _ (by have:=h.1;omega)
theorem ql4 {x:Ite} (e:qge x):(qkc x).length<=8000:=by
 unfold qkc;split
 ·have:=qje (sB x.m) x.C (by rw [qfB];exact e.2.1)
  rw [Qg];have h:([32,32,59,32]:Str).length=4:=rfl;omega
 ·simp
theorem qmz {x:Ite} (h:qge x):(qqv x).length<=1000:=by
 have z:=qgq [32] (x.raw.map qi0) 1 2 (by decide) fun E y=>by
  obtain ⟨G,-,rfl⟩:=List.mem_map.1 y;rw [qlw];omega
 rw [QM] at z;unfold qqv;have:=h.1;omega
include hr in
theorem qtS (ae:qac w) (H:XAt w r):Calls prog 133 #[.int .i64 a,r.v] w fun A J=>A=.returned (.string (sB (qbP r.x++qkc r.x)))/\Below w.heap.size w J:=by
 have M:Hid (∀ e,Below w.heap.size w e->Calls prog 53 #[r.v] e fun A J=>A=.returned (.string (sB (qbP r.x)))/\Below e.heap.size e J):=fun e z=>qku r hr e (ae.below z) (H.below z)
 have W:Hid (∀ e,Below w.heap.size w e->Calls prog 134 #[r.v] e fun A J=>A=.returned (.string (sB (qkc r.x)))/\Below e.heap.size e J):=fun e z=>qpr r hr e (ae.below z) (H.below z)
 have aE:(sB (qbP r.x)).size<=8000:=qi9 hr;have aG:(sB (qkc r.x)).size<=8000:=ql4 hr;have aa:Hid (sB (qbP r.x)++sB (qkc r.x)=sB (qbP r.x++qkc r.x)):=by
  apply qaB;rw [qam];simp [sB]
 obtain ⟨ay,am⟩:=N9 (sB (qbP r.x));obtain ⟨aw,aq⟩:=N9 (sB (qkc r.x));rw [am] at M aE aa;rw [aq] at W aG aa;clear am aq hr ae H;obtain ⟨x,t,y,s,h⟩:=r;unfold Xe.v at M W |-;simp only at M W aa |-;obtain ⟨K,E,aI,aC,ah,ak,aH⟩:=Fr.box (Fr.nil w) #[.int .i64 x.kind,.slice t x.raw.length y,.string (sB x.m),.slice s x.C.length h,.bool x.al] 50;have I2:qar E K x.kind (.slice t x.raw.length y) (sB x.m) (.slice s x.C.length h) x.al:=ah.o.1;have ai:=J9 ak;have B:Hid (∀ e,Below E.heap.size E e->qar e K x.kind (.slice t x.raw.length y) (sB x.m) (.slice s x.C.length h) x.al/\Below w.heap.size w e):=fun e z=>⟨I2.all z,ai.o.trans (z.mono ai.o.size)⟩
 clear ah I2 ak
 go_enter func133,ntmps133
 go_upto_region 1 with fail
 obtain ⟨O,ab⟩:=N9 (E.drew);have U:Below E.heap.size E O:=by rw [<- ab];exact below_drewN E _ 1
 have ar:Hid (qar O K x.kind (.slice t x.raw.length y) (sB x.m) (.slice s x.C.length h) x.al):=(B.o O U).1;have an:=J9 (B.o O U).2;refine Mixed.qD5 (fun J=>qar J K x.kind (.slice t x.raw.length y) (sB x.m) (.slice s x.C.length h) x.al) 5 [(0,true),(2,true),(1,false),(3,false),(4,true)] (by kernel_rfl) (by kernel_rfl) (by rw [ab];exact ar.o) ?_;rw [ab];refine Mixed.mo rfl (.agg #[.int .i64 x.kind,.slice t x.raw.length y,.string (sB x.m),.slice s x.C.length h,.bool x.al]) (fun w G=>by obtain ⟨az,aB,aF,aD,av,ax⟩:=qar.cells G;clear G;go_simp;try rfl) ?_;refine Mixed.mo rfl (.agg #[.int .i64 x.kind,.slice t x.raw.length y,.string (sB x.m),.slice s x.C.length h,.bool x.al]) (fun w G=>by obtain ⟨az,aB,aF,aD,av,ax⟩:=qar.cells G;clear G;go_simp;try rfl) ?_;refine Mixed.qD6 rfl (by kernel_rfl) ?_;have I3:=J9 (M.o O an.o);clear ab aC
 go_wp2_with fail
 refine I3.o.mono ?_;rintro A Z ⟨rfl,aj⟩;have V:=U.trans (aj.mono U.size);have ao:Hid (qar Z K x.kind (.slice t x.raw.length y) (sB x.m) (.slice s x.C.length h) x.al):=(B.o Z V).1;have au:=J9 (B.o Z V).2;clear I3 M aj ar an U;go_wp2;refine ⟨ao.o,?_⟩;refine Mixed.qD6 rfl (by kernel_rfl) ?_;have ap:=J9 (W.o Z au.o)
 go_wp2_with fail
 refine ap.o.mono ?_;rintro A ac ⟨rfl,ag⟩;have ad:=V.trans (ag.mono V.size);have af:Hid (qar ac K x.kind (.slice t x.raw.length y) (sB x.m) (.slice s x.C.length h) x.al):=(B.o ac ad).1;have aA:=J9 (B.o ac ad).2;clear ap W ag ao au V ad B;go_wp2;refine ⟨af.o,?_⟩;refine Mixed.mo rfl (.string (ay++aw)) (fun w G=>by clear G;go_simp;try omega) ?_;simp only [Mixed.qD8,Qq,Qy];clear af;go_wp2;go_ret;rw [aa.o];exact ⟨rfl,aA.o⟩
end
def qgB (a:Int) (x:Ite):Nat->Str
 | 0=>[]
 | 1=>(qcM a 4).data.toList
 | 2=>(qcM a 4).data.toList++(List.replicate 2 32++qqv x)
 | _=>(qcM a 4).data.toList++(List.replicate 2 32++qqv x)++(List.replicate (qzs (6+(qqv x).length)) 32++(qbP x++qkc x))
theorem qe1 (a:Int):(qcM a 4).data.toList.length=4:=by
 have h:=qa9 a 4;have e:(qcM a 4).data.toList.length=(qcM a 4).size:=by simp
 omega
theorem qwk (a:Int) {x:Ite} (h:qge x):∀ k,(qgB a x k).length<=20000
 | 0=>by simp [qgB]
 | 1=>by simp only [qgB,qe1];omega
 | 2=>by
  have:=qmz h;simp only [qgB,Qg,qe1,List.length_replicate];omega
 | k+3=>by
  have G:=qmz h;have E:=qi9 h;have y:=ql4 h;have z:qzs (6+(qqv x).length)<=18:=by unfold qzs;omega
  simp only [qgB,Qg,qe1,List.length_replicate];omega
theorem qvD {a:Int} (x:Ite) (h:qtO a=true):qgB a x 3=qwK a x:=by
 unfold qtO at h;simp only [Qh,Ql] at h;unfold qwK;rw [Qk h];simp [qgB]
structure Colm (a:Int) (r:Xe) (w2:World) (k:Nat) (st ls:Int) (F:FuncId) (sp:Nat) (T:ByteArray):Prop where
 ix:∀ w,(Instr.index 134 (.agg quj) (.int .i64 (k:Int))).run prog w=.ok (.agg #[.int .i64 st,.int .i64 ls,.func (.func F) #[] #[]]) w
 en:∀ args w,(callFunc F args).run prog w=.ok (.enter F args) w
 b0:0<=st/\st<=18/\0<=ls/\ls<=2
 mx:max (st - ((qgB a r.x k).length:Int)) ls=(sp:Int)
 sz:sp<=18
 tx:T.size<=16000
 nx:qgB a r.x (k+1)=qgB a r.x k++((spS sp).data.toList++T.data.toList)
 ca:∀ W,Below w2.heap.size w2 W->Calls prog F #[.int .i64 a,r.v] W fun e w'=>e=.returned (.string T)/\Below W.heap.size W w'
theorem qgn (n:Nat):(spS n).data.toList=List.replicate n 32:=by unfold spS sB;simp
theorem qDK (a:Int) (r:Xe) (h:qge r.x) (w2:World) (O:qac w2) (H:XAt w2 r) (k:Nat) (J:k<3):∃ G F K M E,Colm a r w2 k G F K M E:=by
 match k,J with
 | 0,_=>
  refine ⟨0,0,128,0,qcM a 4,fun z=>by kernel_rfl,enters_of func128 (by kernel_rfl) rfl,by decide,by simp [qgB],by omega,by rw [qa9];omega,?_,fun w y=>quE r a w⟩;rw [qgn];simp [qgB]
 | 1,_=>
  refine ⟨6,2,130,2,sB (qqv r.x),fun z=>by kernel_rfl,enters_of func130 (by kernel_rfl) rfl,by decide,by simp only [qgB,qe1];decide,by omega,Qm (qmz h) (by omega),?_,fun w y=>qv1 r h a w (H.below y)⟩;rw [qgn];simp [qgB,sB]
 | 2,_=>
  refine ⟨18,2,133,qzs (6+(qqv r.x).length),sB (qbP r.x++qkc r.x),fun z=>by kernel_rfl,enters_of func133 (by kernel_rfl) rfl,by decide,?_,by unfold qzs;omega,?_,?_,fun w y=>qtS r h a w (O.below y) (H.below y)⟩
  ·simp only [qgB,Qg,qe1,List.length_replicate]
   unfold qzs;omega
  ·show (qbP r.x++qkc r.x).length<=_
   rw [Qg];have U:=qi9 h;have T:=ql4 h;omega
  ·rw [qgn]
   simp [qgB,sB]
end Go.Proofs.YtjafbmfcedijmaaGreatDoor
namespace Go.Proofs.YtjafbmfcedijmaaGreatDoor
open Tryz
open Go.RowKit Go.Shelf Cm
attribute [local go_sem] Oper.semAt_some
attribute [local irreducible] Go.Mixed.qD8
theorem qA3 {a:Int} (x:Ite) (q:qtO a=false):(⟨#[]⟩:ByteArray)=sB (qwK a x):=by
 unfold qtO at q;unfold qwK;rw [Qd (fun h=>by simp [h.1,h.2] at q)];rfl
theorem quh (a:Int) (r:Xe) (aM:qge r.x) (w:World) (bg:qac w) (H:XAt w r) :
  Calls prog 51 #[.int .i64 a,r.v] w fun o aL=>o=.returned (.string (sB (qwK a r.x)))/\Below w.heap.size w aL:=by
 obtain ⟨x,J,K,B,G⟩:=r;obtain ⟨aj,M,bR,bQ,be,am,bZ⟩:=Fr.box (Fr.nil w) #[.int .i64 x.kind,.slice J x.raw.length K,.string (sB x.m),.slice B x.C.length G,.bool x.al] 50;have ap:Hid (∀ i,i<3->∃ q y C E ay,Colm a ⟨x,J,K,B,G⟩ M i q y C E ay):=fun i bo=>qDK a ⟨x,J,K,B,G⟩ aM M (bg.below am) (H.below am) i bo
 have ac:=J9 (qwk a aM);have I2:qar M aj x.kind (.slice J x.raw.length K) (sB x.m) (.slice B x.C.length G) x.al:=be.o.1;have W:=J9 (qmg a M);have aq:=J9 (qA3 (a:=a) x);have ag:=J9 (qvD (a:=a) x);have au:=J9 am;have I2:=J9 I2;unfold Xe.v;simp only at ap ac |-;obtain ⟨bz,bp⟩:=N9 (qtO a);rw [bp] at W aq ag;clear bp bg H aM be am;cases bz with
 | false=>
  have aU:=J9 (aq.o rfl);clear ap ac I2 aq ag
  go_enter func51,ntmps51
  go_wp2_with fail
  refine W.o.mono ?_;rintro o aL ⟨rfl,m⟩;have aO:=J9 (au.o.trans (m.mono au.o.size));clear W m;go_wp2;go_ret;rw [aU.o];exact ⟨rfl,aO.o⟩
 | true=>
  have aU:=J9 (ag.o rfl);clear aq ag
  go_enter func51,ntmps51
  go_wp2_with fail
  refine W.o.mono ?_;rintro o k ⟨rfl,aQ⟩;obtain ⟨h,ar⟩:=N9 (k.heap.size);have bu:M.heap.size<=h:=by rw [<- ar];exact aQ.size
  have aR:=J9 (qdL k);obtain ⟨aT,ae⟩:=N9 (k.alloc (.cells #[.pointer none,.slice none 0 0] 187));rw [ae,ar] at aR;have aV:Hid (CB h h aT []):=by
   have e:=CB.fresh (B:=k.heap.size) k (Qa _);rw [ae,ar] at e;exact e
  have a6:Hid (Below h k aT):=by rw [<- ae,<- ar];exact B0
  have aX:Hid (∀ c,Below h k c->Below M.heap.size M c):=fun c m=>aQ.trans (m.mono bu)
  clear W aQ ae
  go_wp2_with fail
  refine aR.o.mono ?_;rintro o aL ⟨rfl,rfl⟩;have bi:=J9 (qmK aT);clear aR
  go_wp2_with fail
  refine bi.o.mono ?_;rintro o bw ⟨rfl,aw⟩;have aY:Hid (CB h h bw (qgB a x 0)):=aV.o.more aw;have a2:=J9 (a6.o.trans (aw.mono (Zb aV.o.lt)));clear bi aw aV a6;go_wp2
  go_loopw [14] (fun aS wr=>∃ i:Nat,i<=3/\aS=.int .i64 i/\Hid (CB h h wr (qgB a x i))/\Hid (Below h k wr)) (fun aS _=>3 - (intOf aS).toNat)
  case atStart=>exact ⟨0,Qs _,rfl,aY,a2⟩
  case round=>
   clear aY a2;obtain ⟨i,bo,rfl,R,af⟩:=hrel;by_cases bB:i<3
   ·obtain ⟨q,y,C,E,ay,bC⟩:=ap.o i bB
    obtain ⟨bS,bT,⟨bF,bO,bE,bY⟩,ao,bA,bN,aF,ak⟩:=bC;simp only at ao aF;unfold Xe.v at ak;simp only at ak;have bk:=J9 ak;have a9:=J9 aF;obtain ⟨t,A,bW,bK,a3,aG,bM⟩:=Fr.box (Fr.nil wr) #[.int .i64 q,.int .i64 y,.func (.func C) #[] #[]] 133;have br:=J9 (R.o.more aG);have bU:h<wr.heap.size:=R.o.lt;have bl:Hid (Below h k A):=af.o.trans (aG.mono (by omega));have bd:Hid (A.heap[t]?=some (.cells #[.int .i64 q,.int .i64 y,.func (.func C) #[] #[]] 133 (0,0))):=a3.o.1;clear R af a3 aG ak aF
    go_upto_region 7 with fail
    obtain ⟨ab,ai⟩:=N9 (A.drew);have Z:Below A.heap.size A ab:=(by rw [<- ai];exact below_drewN A _ 1);have a7:=J9 (br.o.more Z);have bc:Hid (Below h k ab):=bl.o.trans (Z.mono (by omega));have aD:Hid (ab.heap[t]?=some (.cells #[.int .i64 q,.int .i64 y,.func (.func C) #[] #[]] 133 (0,0))):=(Z.block t (by omega)).trans bd.o;have bL:A.heap.size<=ab.heap.size:=Z.size;refine Mixed.qD5 (fun c=>c.heap[t]?=some (.cells #[.int .i64 q,.int .i64 y,.func (.func C) #[] #[]] 133 (0,0))) 9 [(0,true),(1,true),(2,true),(6,true),(7,true),(3,false),(4,true),(5,true),(8,true)] (by kernel_rfl) (by kernel_rfl) (by rw [ai];exact aD.o) ?_;rw [ai];clear ai Z br bl bd;refine Mixed.mp rfl (.pointer (some ⟨t,0,none⟩)) ?_;refine Mixed.mo rfl (.int .i64 q) (fun w e=>by obtain ⟨aP,aI,aJ⟩:=Fr.cells3 e;clear e;go_simp;try rfl) ?_;refine Mixed.mp rfl (.func (.func 123) #[] #[.pointer (some ⟨h,0,none⟩)]) ?_;refine Mixed.mp rfl (.pointer (some ⟨t,1,none⟩)) ?_;refine Mixed.mo rfl (.int .i64 y) (fun w e=>by obtain ⟨aP,aI,aJ⟩:=Fr.cells3 e;clear e;go_simp;try rfl) ?_;refine Mixed.qD6 rfl (by kernel_rfl) ?_;have F:=J9 (qeE (w:=k) a7.o bc.o (by omega) (by have:=ac.o i;omega));have aA:(St.strOf (qgB a x i)).size=(qgB a x i).length:=St.qEt _;have bv:=ac.o i;obtain ⟨bJ,bs⟩:=N9 (St.strOf (qgB a x i));obtain ⟨a0,bh⟩:=N9 ((qgB a x i).length);rw [bs] at F aA;rw [bh] at aA ao bv;clear a7 bc bs
    go_wp2_with fail
    refine F.o.mono ?_;rintro o z ⟨rfl,aa,aH,V⟩;have az:=J9 (aH.block aD.o (by omega) qCN);have aa:=J9 aa;have V:=J9 V;have bH:ab.heap.size<=z.heap.size:=aH.bel.size;clear F aD aH;go_wp2;refine ⟨az.o,?_⟩;refine Mixed.mo rfl (.int .i64 (a0:Int)) (fun w e=>by clear e;go_simp;try omega) ?_;refine Mixed.mo rfl (.int .i64 (q - (a0:Int))) (fun w e=>by clear e;go_simp;exact IntWalk.i64_in _ (by omega)) ?_;refine Mixed.mo rfl (.int .i64 (E:Int)) (fun w e=>by clear e;go_simp;try (rw [<- ao];omega)) ?_;simp only [Mixed.qD8,Qq,Qy];clear aA ao
    go_upto_region 8 with fail
    obtain ⟨ax,ah⟩:=N9 (z.drew);have O:Below z.heap.size z ax:=(by rw [<- ah];exact below_drewN z _ 1);have C9:=J9 (aa.o.more O);have bx:=J9 (V.o.trans (O.mono (by omega)));have bj:Hid (∀ c,Below h k c->qar c aj x.kind (.slice J x.raw.length K) (sB x.m) (.slice B x.C.length G) x.al):=(fun c m=>I2.o.all (aX.o c m));have ad:Hid (∀ c,Below z.heap.size z c->c.heap[t]?=some (.cells #[.int .i64 q,.int .i64 y,.func (.func C) #[] #[]] 133 (0,0))/\Below h k c/\qar c aj x.kind (.slice J x.raw.length K) (sB x.m) (.slice B x.C.length G) x.al):=fun c m=>
     have e:=V.o.trans (m.mono (by omega))
     ⟨(m.block t (by omega)).trans az.o,e,bj.o c e⟩
    refine Mixed.qD5 (fun c=>c.heap[t]?=some (.cells #[.int .i64 q,.int .i64 y,.func (.func C) #[] #[]] 133 (0,0))/\Below h k c/\qar c aj x.kind (.slice J x.raw.length K) (sB x.m) (.slice B x.C.length G) x.al) 9 [(0,true),(1,true),(3,true),(4,true),(5,true),(6,true),(2,false),(7,false),(8,false)] (by kernel_rfl) (by kernel_rfl) (by rw [ah];exact ad.o ax O) ?_;rw [ah];clear ah az;refine Mixed.mp rfl (.func (.func 123) #[] #[.pointer (some ⟨h,0,none⟩)]) ?_;refine Mixed.mp rfl (.int .i64 (E:Int)) ?_;refine Mixed.mp rfl (.pointer (some ⟨t,2,none⟩)) ?_;refine Mixed.mo rfl (.func (.func C) #[] #[]) (fun w e=>by obtain ⟨aP,aI,aJ⟩:=Fr.cells3 e.1;clear e;go_simp;try rfl) ?_;refine Mixed.mp rfl (.int .i64 a) ?_;refine Mixed.mo rfl (.agg #[.int .i64 x.kind,.slice J x.raw.length K,.string (sB x.m),.slice B x.C.length G,.bool x.al]) (fun w e=>by obtain ⟨aP,aI,aJ,bX,bV,bP⟩:=qar.cells e.2.2;clear e;go_simp;try rfl) ?_;refine Mixed.qD6 rfl (by kernel_rfl) ?_;have a8:=J9 (qyL E bA ax)
    go_wp2_with fail
    refine a8.o.mono ?_;rintro o aK ⟨rfl,a4⟩;have an:=O.trans (a4.mono O.size);have aB:=J9 (ad.o aK an);clear a8 a4 C9 bx O;go_wp2;refine ⟨aB.o,?_⟩;refine Mixed.qD6 rfl (by kernel_rfl) ?_;have bb:=J9 (bk.o aK (aX.o aK aB.o.2.1))
    go_wp2_with fail
    refine bb.o.mono ?_;rintro o aC ⟨rfl,bf⟩;have U:=an.trans (bf.mono an.size);have aE:=J9 (ad.o aC U);have bn:=J9 (aa.o.more U);clear bb bk bf aB an;go_wp2;refine ⟨aE.o,?_⟩;refine Mixed.qD6 rfl (by kernel_rfl) ?_;have bq:∀ T,Hid (Below z.heap.size z (aC.alloc T)):=(fun T=>U.alloc U.size T);have bm:=(fun T=>J9 (ad.o (aC.alloc T) (bq T).o));go_wp2;refine ⟨(bm _).o,?_⟩;simp only [Mixed.qD8,Qq,Qy];have bD:(spS E).size<=18:=by
     have o:(spS E).data.toList.length=(spS E).size:=(by simp);rw [qgn,List.length_replicate] at o;omega
    have av:=J9 (qhj (w:=k) bn.o aE.o.2.1 (by have:=U.size;omega) (spS E) ay (by rw [bh];omega));rw [<- a9.o] at av;clear aE bn ad bj bm bq U aa V a9
    go_wp2_with fail
    refine av.o.mono ?_;rintro o bI ⟨rfl,aW,bt,aN⟩;have aW:=J9 aW;have aN:=J9 aN;clear av bt;go_wp2;go_roundw
    case rel=>exact ⟨i+1,by omega,by go_num,aW.o,aN.o⟩
    case measure=>simp [intOf];omega
   ·obtain rfl:i=3:=by omega
    have F:=J9 (qeE (w:=k) R.o af.o (Zb R.o.lt) (by have:=ac.o 3;omega));have a5:St.strOf (qgB a x 3)=sB (qwK a x):=(by rw [aU.o];rfl);rw [a5] at F;have a1:Hid (∀ c,Below h k c->Below w.heap.size w c):=(fun c m=>au.o.trans ((aX.o c m).mono au.o.size));obtain ⟨bG,aZ⟩:=N9 (sB (qwK a x));rw [aZ] at F;clear R af a5 ap
    go_wp2_with fail
    refine F.o.mono ?_;rintro o A ⟨rfl,-,-,m⟩;have aO:=J9 (a1.o A m);clear F m a1;go_wp2;go_ret;rw [aZ];exact ⟨rfl,aO.o⟩
end Go.Proofs.YtjafbmfcedijmaaGreatDoor
namespace Go.Proofs.YtjafbmfcedijmaaGreatDoor
open Tryz
open Go.RowKit Go.Shelf Cm
attribute [local go_sem] Oper.semAt_some
theorem qAA {W:World} {A:Option Addr} {r:Xe} {j:Nat} (y:ItJ W A r j):XAt W r:=by
 obtain ⟨z,E,-,-,-,-,-,-,h,b⟩:=y;exact ⟨h,b⟩
end Go.Proofs.YtjafbmfcedijmaaGreatDoor
namespace Go.Proofs.YtjafbmfcedijmaaGreatDoor
open Tryz
open Go.RowKit Go.Shelf
attribute [local go_sem] Oper.semAt_some
theorem qAc:qcj (upB ⟨#[65,68,68]⟩) [(6,0,-1)]=[65,68,68,32,65,44,48,70,70,72]:=by decide +kernel
theorem qBp:qwK 256 (itP [33,52,18])=[48,49,48,48,32,32,50,49,32,51,52,32,49,50,32,32,32,32,76,68,32,72,76,44,49,50,51,52,72]:=by decide +kernel
theorem qAz:(itP [33,52,18]).raw.length<=300/\(itP [33,52,18]).m.length<=1000/\(itP [33,52,18]).C.length<=900:=by decide +kernel
theorem qAK:(upB ⟨#[65,68,68]⟩).size<=1000:=by decide +kernel
theorem qlS (w:World):BytesAt (w.alloc (.cells #[.int .u8 33,.int .u8 52,.int .u8 18] 5)) (some ⟨w.heap.size,0,none⟩) [33,52,18]:=by
 refine .inr ⟨_,_,rfl,fun h j=>?_⟩;have y:=heap_alloc_new w (.cells #[.int .u8 33,.int .u8 52,.int .u8 18] 5);rw [C9 y]
 match h,j with
 | 0,_=>rfl
 | 1,_=>rfl
 | 2,_=>rfl
theorem qnm {s:ByteArray} {l:List UInt8} (h:s=sB l):(s.toList == l)=true:=by
 rw [h,Qe];simp [sB]
theorem qmn (w:World) (ac:qac w):Calls prog 22 #[] w fun c aB=>c=.returned (.bool true)/\Below w.heap.size w aB:=by
 obtain ⟨v,ai,aO,aM,aj,ae,aP⟩:=Fr.box (Fr.nil w) #[.int .i64 6,.int .i64 0,.int .i64 (-1)] 57;have G:qaj ai (some ⟨v,0,none⟩) [(6,0,-1)]:=by
  refine .inr ⟨v,0,rfl,fun av aq=>?_⟩;obtain rfl:av=0:=by simp at aq;omega
  obtain ⟨ap,au,ay⟩:=Fr.cells3 aj.o.1;exact ⟨ap,au,ay⟩
 have ak:=J9 (qjt ⟨#[65,68,68]⟩ (by decide +kernel) (some ⟨v,0,none⟩) 1 [(6,0,-1)] (by decide) ai G);have y:=J9 ae;have z:=J9 ac;clear aj G ae ac
 go_enter func22,ntmps22
 go_wp2_with fail
 refine ak.o.mono ?_;rintro c aC ⟨aG,rfl,ab,V⟩;have t:=J9 (y.o.trans (V.mono y.o.size));obtain ⟨ax,ao,rfl,M⟩:=ab.ops;have e:=J9 (qfA (upB ⟨#[65,68,68]⟩) qAK ax ao 1 [(6,0,-1)] rfl (by omega) aC (z.o.below t.o) M.1);rw [qAc] at e;have aD:=qnm (s:=sB [65,68,68,32,65,44,48,70,70,72]) rfl;obtain ⟨aH,am⟩:=N9 (sB [65,68,68,32,65,44,48,70,70,72]);rw [am] at e aD;obtain ⟨aI,E⟩:=N9 (upB ⟨#[65,68,68]⟩);rw [E] at e;rw [E];clear ak V ab M am E y
 go_wp2_with fail
 refine e.o.mono ?_;rintro c j ⟨rfl,ah⟩;have h:=J9 (t.o.trans (ah.mono t.o.size));have af:=J9 (qiB [33,52,18] (some ⟨j.heap.size,0,none⟩) 3 3 rfl (Qa _) (by unfold maxLen;omega) (by decide) (j.alloc (.cells #[.int .u8 33,.int .u8 52,.int .u8 18] 5)) (qlS j) ((z.o.below h.o).below (B0)));have A:Hid (Below w.heap.size w (j.alloc (.cells #[.int .u8 33,.int .u8 52,.int .u8 18] 5))):=h.o.alloc h.o.size _;clear e ah t
 go_wp2_with fail
 refine af.o.mono ?_;rintro c J ⟨aA,az,ag,an,rfl,U,ad,K⟩;have u:=J9 (A.o.trans (K.mono A.o.size));have O:qaj J ag (itP [33,52,18]).C:=by
  obtain ⟨aF,aJ,c,aE,-⟩:=ad.ops;simp only [QC] at c;rw [c.1];exact aE
 have SR:=J9 (quh 256 ⟨itP [33,52,18],aA,az,ag,an⟩ qAz J (z.o.below u.o) ⟨que U,O⟩);unfold Xe.v at SR;simp only at SR;rw [qBp] at SR;have aw:=qnm (s:=sB [48,49,48,48,32,32,50,49,32,51,52,32,49,50,32,32,32,32,76,68,32,72,76,44,49,50,51,52,72]) rfl;obtain ⟨aK,aa⟩:=N9 (sB [48,49,48,48,32,32,50,49,32,51,52,32,49,50,32,32,32,32,76,68,32,72,76,44,49,50,51,52,72]);rw [aa] at SR aw;obtain ⟨aL,x⟩:=N9 (itP [33,52,18]);rw [x] at SR;rw [x];clear af K U ad O A h aa x
 go_wp2_with fail
 refine SR.o.mono ?_;rintro c aN ⟨rfl,Z⟩;have ar:=J9 (u.o.trans (Z.mono u.o.size));clear SR Z u;go_wp2;go_ret;exact ⟨rfl,ar.o⟩
def qBc:Value->Nat
 | .slice _ h _=>h
 | _=>0
theorem qzu {w:World} {g b:Nat} {xs:Str} (o:BytesAt w (some ⟨g,b,none⟩) xs) (k:Nat):BytesAt w (some ⟨g,b+k,none⟩) (xs.drop k):=by
 rcases o with rfl | ⟨E,z,e,h⟩
 ·exact .inl (by simp)
 ·simp only [Qz,Addr.mk.injEq] at e
  obtain ⟨rfl,rfl,-⟩:=e;refine .inr ⟨g,b+k,rfl,fun j y=>?_⟩;rw [Q1] at y;rw [List.getElem_drop,Nat.add_assoc];exact h (k+j) (by omega)
theorem qjJ (b:Str) (A:Option Addr) (cap l:Nat) (aU:b.length=l) (aR:l<=cap) (aH:cap<=maxLen) (aZ:l<=10000) (w:World) (H:BytesAt w A b) :
  Calls prog 25 #[.slice A l cap] w (qgZ w (itemsR b)):=by
 obtain ⟨h,av⟩:=N9 (w.heap.size);have ar:=J9 av;have aM:=J9 aU;have ax:Hid (∀ g,Below h w g->BytesAt g A b):=fun g y=>H.below (by rw [ar.o];exact y)
 have aT:Hid (l<=cap/\cap<=maxLen):=⟨aR,aH⟩;have B0:Hid (Below h w w):=Qc _ _;have aB:Hid (h<=w.heap.size):=Nat.le_of_eq av.symm;have aC:=J9 aZ;clear H av aU aR aH aZ
 go_enter func25,ntmps25
 go_wp2
 go_loopw [0,3] (fun ak a8 wr=>∃ (rest:Str) (ad:Option Addr) (x F:Nat) (O:Option Addr) (R K:Nat) (z:List Xe),ak=.slice ad x F/\a8=.slice O R K/\Hid (rest.length=x)/\Hid (x<=l)/\Hid (x<=F/\F<=maxLen)/\Hid (∀ g,Below h w g->BytesAt g ad rest)/\Hid (z.length=R)/\Hid (qeZ wr h (.slice O R K) z)/\Hid (z.map Xe.x++itemsR rest=itemsR b)/\Hid (Below h w wr)/\Hid (h<=wr.heap.size)) (fun ak _ _=>qBc ak)
 case atStart=>exact ⟨b,A,l,cap,none,0,0,[],rfl,rfl,aM.o,Qa _,aT.o,ax.o,rfl,qrr _ _,rfl,B0.o,aB.o⟩
 case round=>
  clear B0 aB ax aT;obtain ⟨rest,ad,x,F,O,R,K,z,rfl,rfl,E,aw,Z,aa,HR,V,RR,U,J⟩:=hrel;by_cases aj:x=0
  ·subst aj
   have aE:rest=[]:=Qu E.o;have bn:Hid (qgZ w (itemsR b) (.returned (.slice O R K)) wr):=by
    have G:=RR.o;rw [aE,qeR,Zs] at G;exact ⟨O,K,z,by rw [HR.o],G,by rw [HR.o,ar.o];exact V.o,by rw [ar.o];exact U.o⟩
   clear E aw Z aa HR V RR U J aE;go_wp2;go_ret;exact bn.o
  ·have ac:Hid (rest≠[]):=fun ag=>aj (by rw [<- E.o,ag];rfl)
   have ao:=qdF rest ac.o ad F x E.o Z.o.1 Z.o.2 (Qm aw.o aC.o) wr (aa.o wr U.o);have bo:0<x:=Nat.pos_of_ne_zero aj;have bi:Hid (z.length+1<=100000):=by
    have bj:=qqO RR.o;have bf:=aM.o;have bq:=aC.o;show _<=_;omega
   have aS:=J9 (fun k (aN:Xe.x k=itR rest)=>qfD RR.o ac.o k aN);have aV:=(qbS ac.o).2.1;have a1:=(qbS ac.o).1;have DL:Hid ((rest.drop (itR rest).raw.length).length=x - (itR rest).raw.length):=(by show _=_;rw [Q1,E.o]);rw [E.o] at aV;obtain ⟨e,aP⟩:=N9 (itR rest);rw [aP] at ao aS aV a1 DL;obtain ⟨au,ap,rfl,-⟩:=(aa.o wr U.o).cellAt (j:=0) (by rw [E.o];exact bo);have aI:Hid (∀ g,Below h w g->BytesAt g (some ⟨au,ap+e.raw.length,none⟩) (rest.drop e.raw.length)):=(fun g y=>qzu (aa.o g y) _);have bc:Hid (∀ g,Below h w g->BytesAt g (if F=e.raw.length then some ⟨au,ap,none⟩ else some ⟨au,ap+e.raw.length,none⟩) (rest.drop e.raw.length)):=fun g y=>by
    split
    ·exact .inl (Qu (by rw [DL.o];have:=Z.o.1;omega))
    ·exact aI.o g y
   have aG:Hid (∀ k:Xe,(z++[k]).length=z.length+1):=fun k=>by simp
   have a4:Hid (x - e.raw.length<=l):=(by have:=aw.o;show _<=_;omega);have a9:Hid (x - e.raw.length<=F - e.raw.length/\F - e.raw.length<=maxLen):=(by have:=Z.o;show _/\_;omega);clear aP ac E RR aa aj aI
   go_wp2_with fail
   refine ao.mono ?_;rintro ag aY ⟨A1,r,q,n,rfl,aF,aL,y⟩;obtain ⟨k,aX,aN,bB,aq,M,bG⟩:=Fr.box (Fr.nil aY) #[.int .i64 e.kind,.slice A1 e.raw.length r,.string (sB e.m),.slice q e.C.length n,.bool e.al] 50;obtain ⟨bg,ab,a2,bh,aW,ai,bs⟩:=Fr.box aq #[.int .i64 e.kind,.slice A1 e.raw.length r,.string (sB e.m),.slice q e.C.length n,.bool e.al] 50;obtain rfl:bg=k+1:=by omega
   have ah:qdv aY h ⟨e,A1,r,q,n⟩:=⟨aF.lift J.o,qah.lift aL J.o⟩;have a3:Hid (∀ aJ∈[(⟨e,A1,r,q,n⟩:Xe)],qdv ab h aJ):=fun aJ bb=>by
    obtain rfl:=QA.1 bb;exact (ah.below M).below ai
   have a5:Hid (qi2 ab (some ⟨k+1,0,none⟩) [(⟨e,A1,r,q,n⟩:Xe)]):=by
    have G:=qrs aX ⟨e,A1,r,q,n⟩ (ah.below M).bytes (ah.below M).ops;rw [a2] at G;show qi2 ab _ _;rw [<- bh];exact G
   have a0:=J9 (((V.o.below y).below M).below ai);have an:=y.trans ((M.trans (ai.mono (by omega))).mono y.size);have aD:Hid (h<=ab.heap.size):=Qm J.o an.size;have bk:=J9 (U.o.trans (an.mono J.o));have I3:qar ab k e.kind (.slice A1 e.raw.length r) (sB e.m) (.slice q e.C.length n) e.al:=aW.o.2.1;have I2:qar aX k e.kind (.slice A1 e.raw.length r) (sB e.m) (.slice q e.C.length n) e.al:=aq.o.1;obtain ⟨bA,bt,bv,bF,bD,bx⟩:=I2.cells;have bl:Hid (∀ ae,(Value.slice O R K).ownBlock=some ae->ae≠k):=fun ae bp=>by
    have bj:=(World.ownsRow.lt V.o.1 ae bp).2;have bf:=y.size;omega
   have I3:=J9 I3;clear ao aF aL y aq aW M ai ah V U J an I2
   go_wp2_with (at_builtin;refine qlb a0.o a5.o a3.o aD.o bi.o rfl _ _ rfl rfl rfl 1 rfl rfl ?_;intro az aO af aK am aQ;have ay:=J9 aK;have a7:Hid (Below h w af):=bk.o.trans am;have a6:Hid (h<=af.heap.size):=Qm aD.o am.size;have aA:qar af k e.kind (.slice A1 e.raw.length r) (sB e.m) (.slice q e.C.length n) e.al:=(aQ.block k I3.o.lt (fun ag=>bl.o _ ag.symm rfl)).trans I3.o;obtain ⟨bu,bE,bw,bC,bz,br⟩:=aA.cells;clear aK am aQ aA)
   have bm:Hid (qeZ af h (.slice az (z.length+1) aO) (z++[(⟨e,A1,r,q,n⟩:Xe)])):=by
    have G:=ay.o;rw [aG.o] at G;exact G
   have bd:=J9 (aS.o ⟨e,A1,r,q,n⟩ rfl);have be:=J9 (aG.o ⟨e,A1,r,q,n⟩);clear ay;go_roundw
   case rel=>exact ⟨_,_,_,_,az,_,aO,_,rfl,rfl,DL.o,a4.o,a9.o,bc.o,be.o,bm.o,bd.o,a7.o,a6.o⟩
   case measure=>simp only [qBc];omega
end Go.Proofs.YtjafbmfcedijmaaGreatDoor
namespace Go.Proofs.YtjafbmfcedijmaaGreatDoor
open Tryz
open Go.RowKit
attribute [local go_sem] Oper.semAt_some
theorem qpa (A1 aa:Option Addr) (an c2:Nat) (a b:List ByteArray) (Z:a.length<=maxLen) (ab:b.length<=maxLen) (w:World) (M:qew w A1 a) (J:qew w aa b) :
  Calls prog 27 #[.slice A1 a.length an,.slice aa b.length c2] w fun i ao=>i=.returned (.bool (decide (a=b)))/\Below w.heap.size w ao:=by
 unfold maxLen at Z ab;by_cases B:a.length=b.length
 ·have am:=J9 M
  have ah:=J9 J;have af:=J9 B;obtain ⟨T,E⟩:=N9 (a.length);have ae:=J9 E;rw [E] at Z;rw [<- B,E];clear M J B ab E
  go_enter func27,ntmps27
  go_wp2
  go_loopw [13] (fun G wr=>∃ h:Nat,h<=T/\G=.int .i64 h/\Hid (∀ e,e<h->∀ (y:e<a.length) (x:e<b.length),a[e]=b[e])/\Hid (Below w.heap.size w wr)) (fun G _=>T - (intOf G).toNat)
  case atStart=>exact ⟨0,Qs _,rfl,fun e aB=>by omega,Qc _ _⟩
  case round=>
   obtain ⟨h,au,rfl,k,z⟩:=hrel;by_cases ax:h<T
   ·have O:h<a.length:=by have:=ae.o;omega
    have R:h<b.length:=(by have:=af.o;omega);obtain ⟨ap,av,aj,K⟩:=(am.o.below z.o).at_ O;obtain ⟨ar,aq,ak,V⟩:=(ah.o.below z.o).at_ R;subst aj;subst ak;have ad:=(fun ai=>J9 (z.o.trans (below_drewN wr w.heap.size ai)));by_cases j:a[h]=b[h]
    ·have R2:Hid (∀ e,e<h+1->∀ (y:e<a.length) (x:e<b.length),a[e]=b[e]):=fun e aA y x=>by
      by_cases i:e=h
      ·subst i;exact j
      ·exact k.o e (by omega) y x
     rw [j] at K;obtain ⟨ac,n⟩:=N9 (b[h]);rw [n] at K V;have U:=qEp ac;clear j n O R k;go_wp2
     go_quiet (fail)
     go_wp2;go_roundw
     case rel=>exact ⟨h+1,by omega,by go_num,R2.o,(ad _).o⟩
     case measure=>simp [intOf];omega
    ·have q:Hid (false=decide (a=b)):=(Qf (fun i=>j (by simp only [i]))).symm
     have U:=qao j;obtain ⟨ac,n⟩:=N9 (a[h]);obtain ⟨ay,ag⟩:=N9 (b[h]);rw [n] at K U;rw [ag] at V U;clear j n ag O R k;go_wp2
     go_quiet (fail)
     go_wp2;go_ret;exact ⟨qaa q.o,(ad _).o⟩
   ·have q:Hid (true=decide (a=b)):=by
     refine (Qn (List.ext_getElem af.o fun e y x=>?_)).symm;exact k.o e (by have:=ae.o;omega) y x
    clear k;go_wp2;go_ret;exact ⟨qaa q.o,z.o⟩
 ·have q:Hid (false=decide (a=b)):=(Qf (fun i=>B (by rw [i]))).symm
  have aw:((a.length:Int) == (b.length:Int))=false:=Qj.2 (by omega);have az:¬((a.length:Int)=(b.length:Int)):=by omega
  clear M J
  go_enter func27,ntmps27
  go_wp2;go_ret;exact ⟨qaa q.o,Qc _ _⟩
end Go.Proofs.YtjafbmfcedijmaaGreatDoor
