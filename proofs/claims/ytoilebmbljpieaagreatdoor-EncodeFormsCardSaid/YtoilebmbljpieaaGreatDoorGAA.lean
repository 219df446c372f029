/-
  NumA, NumB, NumC, NumD, Ob.
-/
import Derived.Test.YtoilebmbljpieaaGreatDoorProg
import Derived.WalkKit
import Derived.WalkSpells
import Derived.WalkLawsBesides
import Derived.Lib.Bytealg
import Derived.Lib.Hide
import Derived.OneCell
import Derived.Laws.IdiomStrings
import Derived.Lib.SlBytesRow
import Derived.Deep.QuietTactic
import Derived.BigQuiet
import Derived.RangeFuncBox
import Derived.OwnWalk
import Derived.Laws.AppendOwn
import Derived.Laws.OwnMore
import Derived.Lib.SliceRun
import Derived.Maps.AppendAt
set_option linter.all false
set_option maxRecDepth 100000
set_option maxHeartbeats 4000000
namespace Go.Proofs.YtoilebmbljpieaaGreatDoor
open Go.RowKit
theorem ret_int {k:IntKind} {a b:Int} (h:a=b):Ending.returned (.int k a)=.returned (.int k b):=by rw [h]
def capI (c:Int):Int:=if 97≤c∧c≤122 then c - 32 else c
def decB (c:Int):Bool:=decide (48≤c)&&decide (c≤57)
theorem capital_any (c:Int) (h0:0≤c) (h1:c≤255) (w:World) :
  Calls Tryz.prog 93 #[.int .u8 c] w fun e w'=>e=.returned (.int .u8 (capI c))∧w=w':=by
 by_cases ha:97≤c
 ·by_cases hb:c≤122
  ·go_enter Tryz.func93,Tryz.ntmps93
   go_wp2
   go_ret
   refine ⟨?_,rfl⟩
   have e1:capI c=c - 32:=by unfold capI;rw [if_pos ⟨ha,hb⟩]
   rw [e1]
   exact ret_int (by omega)
  ·go_enter Tryz.func93,Tryz.ntmps93
   go_wp2
   go_ret
   refine ⟨?_,rfl⟩
   have e1:capI c=c:=by unfold capI;rw [if_neg (by omega)]
   rw [e1]
   rfl
 ·go_enter Tryz.func93,Tryz.ntmps93
  go_wp2
  go_ret
  refine ⟨?_,rfl⟩
  have e1:capI c=c:=by unfold capI;rw [if_neg (by omega)]
  rw [e1]
  rfl
theorem isDecimal_any (c:Int) (h0:0≤c) (h1:c≤255) (w:World) :
  Calls Tryz.prog 203 #[.int .u8 c] w fun e w'=>e=.returned (.bool (decB c))∧w=w':=by
 by_cases ha:48≤c
 ·have e1:decB c=decide (c≤57):=by unfold decB;simp [ha]
  rw [e1]
  go_enter Tryz.func203,Tryz.ntmps203
  go_wp2
  go_ret
  exact ⟨rfl,rfl⟩
 ·have e1:decB c=false:=by unfold decB;simp [ha]
  rw [e1]
  go_enter Tryz.func203,Tryz.ntmps203
  go_wp2
  go_ret
  exact ⟨rfl,rfl⟩
theorem capI_bd (c:Int) (h0:0≤c) (h1:c≤255):0≤capI c∧capI c≤255:=by unfold capI;split <;> omega
end Go.Proofs.YtoilebmbljpieaaGreatDoor
namespace Go.Proofs.YtoilebmbljpieaaGreatDoor
open Go.RowKit
end Go.Proofs.YtoilebmbljpieaaGreatDoor
namespace Go.Proofs.YtoilebmbljpieaaGreatDoor
open Go.RowKit
theorem ret_bool {a b:Bool} (h:a=b):Ending.returned (.bool a)=.returned (.bool b):=by rw [h]
theorem ret_str {a b:ByteArray} (h:a=b):Ending.returned (.string a)=.returned (.string b):=by rw [h]
def preB (s p:ByteArray):Bool:=decide (p.size≤s.size)&&((s.extract 0 p.size).toList == p.toList)
theorem hasPrefix_any (s p:ByteArray) (hs:s.size≤maxLen) (hp:p.size≤maxLen) (w:World) :
  Calls Tryz.prog 145 #[.string s,.string p] w fun e w'=>e=.returned (.bool (preB s p))∧w=w':=by
 unfold maxLen at hs hp
 by_cases h:p.size≤s.size
 ·go_enter Tryz.func145,Tryz.ntmps145
  go_wp2
  go_ret
  exact ⟨ret_bool (by unfold preB;rw [decide_eq_true h,Bool.true_and]),rfl⟩
 ·go_enter Tryz.func145,Tryz.ntmps145
  go_wp2
  go_ret
  exact ⟨ret_bool (by unfold preB;rw [decide_eq_false h,Bool.false_and]),rfl⟩
end Go.Proofs.YtoilebmbljpieaaGreatDoor
namespace Go.Proofs.YtoilebmbljpieaaGreatDoor
open Go.RowKit
def capU (c:UInt8):UInt8:=(capI (c.toNat:Int)).toNat.toUInt8
theorem capU_nat (c:UInt8):((capU c).toNat:Int)=capI (c.toNat:Int):=by
 have h:=capI_bd (c.toNat:Int) (by omega) (by have:=c.toNat_lt;omega)
 unfold capU
 have:(capI (c.toNat:Int)).toNat<256:=by omega
 rw [UInt8.toNat_ofNat_of_lt' this]
 omega
def upB (s:ByteArray):ByteArray:=⟨s.data.map capU⟩
theorem upB_size (s:ByteArray):(upB s).size=s.size:=by unfold upB;show (s.data.map capU).size=s.data.size;simp
theorem upB_at (s:ByteArray) (j:Nat) (h:j<s.size) (h':j<(upB s).size):(upB s)[j]=capU s[j]:=by
 have h1:(upB s).data[j]'h'=capU (s.data[j]'h):=by simp [upB]
 exact h1
def UpRel (w:World) (s:ByteArray) (k:Nat) (wr:World):Prop:=
 (∀ j (h:j<s.size),wr.cell? ⟨w.heap.size,j,none⟩=some (.int .u8 (if j<k then capI (s[j].toNat:Int) else (s[j].toNat:Int))))∧(∀ j,j<s.size→wr.frozen? ⟨w.heap.size,j,none⟩=false)∧Below w.heap.size w wr
theorem upRel_start (w:World) (s:ByteArray) (cap:Nat) (e:TypeId) :
  UpRel w s 0 (w.alloc (.cells (bytesRow s cap) e ((bytesRow s cap).size,(bytesRow s cap).size+1))).drew:=by
 refine ⟨fun j h=>?_,fun j h=>?_,((Below.refl _ _).alloc (Nat.le_refl _) _).drew⟩
 ·have h1:=World.cell?_alloc_mark w (bytesRow s cap) e ((bytesRow s cap).size,(bytesRow s cap).size+1) j
  rw [bytesRow_at s cap j h] at h1
  exact h1
 ·have h1:=World.frozen?_alloc_mark w (bytesRow s cap) e (bytesRow s cap).size ((bytesRow s cap).size+1) j
  have h2:j<(bytesRow s cap).size:=by
   unfold bytesRow
   rw [Array.size_append,Array.size_map]
   have:s.data.size=s.size:=rfl
   omega
  have h3:decide ((bytesRow s cap).size≤j)=false:=by simp;exact h2
  rw [h3,Bool.false_and] at h1
  simpa using h1
theorem upRel_next (w wr:World) (s:ByteArray) (k:Nat) (h:k<s.size) (hr:UpRel w s k wr):UpRel w s (k+1) (wr.setCell ⟨w.heap.size,k,none⟩ (.int .u8 (capI (s[k].toNat:Int)))):=by
 obtain ⟨r1,r2,r3⟩:=hr
 refine ⟨fun j hj=>?_,fun j hj=>?_,r3.setCell (by simp) _⟩
 ·by_cases e:j=k
  ·subst e
   have:=r1 j hj
   rw [if_pos (by omega)]
   simp [go_sem,this]
  ·rw [World.cell?_setCell_other _ _ _ _ (by simp),r1 j hj]
   by_cases h1:j<k
   ·rw [if_pos h1,if_pos (by omega)]
   ·rw [if_neg h1,if_neg (by omega)]
 ·simp [go_sem,r2 j hj]
theorem upRel_end (w wr:World) (s:ByteArray) (cap:Nat) (hr:UpRel w s s.size wr) :
  (convert 28 9 (.slice (some ⟨w.heap.size,0,none⟩) s.size cap)).run Tryz.prog wr=.ok (.string (upB s)) wr:=by
 have h:=Lib.run_convert_whole (P:=Tryz.prog) wr 28 5 9 Tryz.underlying28 Tryz.underlying5 Tryz.underlying9 w.heap.size 0 (upB s) (fun i hi=>by
  have hi':i<s.size:=by rw [upB_size] at hi;exact hi
  rw [Nat.zero_add,hr.1 i hi',if_pos hi',upB_at s i hi' hi,capU_nat]) cap
 rw [upB_size] at h
 exact h
theorem upper_any (s:ByteArray) (hs:s.size≤maxLen) (w:World) :
  Calls Tryz.prog 57 #[.string s] w fun e w'=>e=.returned (.string (upB s))∧Below w.heap.size w w':=by
 unfold maxLen at hs
 have hcv:=fun (w:World)=>run_bytes_of_string (P:=Tryz.prog) w 9 28 5 s Tryz.underlying9 Tryz.underlying28 Tryz.underlying5
 have S:=Lib.hid (upRel_start w s (grownCap w s.size 0 5) 5)
 go_enter Tryz.func57,Tryz.ntmps57
 go_wp2
 clear hcv
 go_loopw [10] (fun i wr=>∃ k:Nat,k≤s.size∧i=.int .i64 k∧UpRel w s k wr) (fun i _=>s.size - (intOf i).toNat)
 case atStart=>exact ⟨0,Nat.zero_le _,rfl,S.out⟩
 case round=>
  obtain ⟨k,hk,rfl,hr⟩:=hrel
  have R:=Lib.hid hr
  clear hr
  by_cases hlt:k<s.size
  ·have c0:(0:Int)≤(s[k].toNat:Int):=by omega
   have c1:(s[k].toNat:Int)≤255:=by have:=s[k].toNat_lt;omega
   have g1:wr.cell? ⟨w.heap.size,k,none⟩=some (.int .u8 (s[k].toNat:Int)):=by rw [R.out.1 k hlt,if_neg (by omega)]
   have g2:=R.out.2.1 k hlt
   have N:=Lib.hid (upRel_next w wr s k hlt R.out)
   go_wp2_with (go_at_call 93;refine (capital_any _ c0 c1 _).mono ?_;rintro e w' ⟨rfl,rfl⟩)
   go_roundw
   case rel=>exact ⟨k+1,by omega,by go_num,N.out⟩
   case measure=>simp [intOf];omega
  ·obtain rfl:k=s.size:=by omega
   have hback:=upRel_end w wr s (grownCap w s.size 0 5) R.out
   go_wp2
   go_ret
   exact ⟨rfl,R.out.2.2⟩
end Go.Proofs.YtoilebmbljpieaaGreatDoor
namespace Go.Proofs.YtoilebmbljpieaaGreatDoor
open Go.RowKit
theorem below_drewN (w:World) (n q:Nat):Below n w (w.drewN q):=⟨rfl,rfl,rfl,Nat.le_refl _,fun _ _=>rfl⟩
theorem below_dn {B:Nat} {a w:World} (h:Below B a w) (n:Nat):Below B a (w.drewN n):=⟨h.os,h.tape,h.output,h.size,h.block⟩
abbrev Tr:=Int×Int×Int
def cellsT:List Tr→List Value
 | []=>[]
 | x :: t=>.int .i64 x.1 :: .int .i64 x.2.1 :: .int .i64 x.2.2 :: cellsT t
theorem cellsT_length:∀ L:List Tr,(cellsT L).length=L.length*3
 | []=>rfl
 | x :: t=>by
  have h:=cellsT_length t
  show (cellsT t).length+1+1+1=(t.length+1)*3
  omega
theorem cellsT_append:∀ a b:List Tr,cellsT (a++b)=cellsT a++cellsT b
 | [],b=>rfl
 | x :: t,b=>by
  show _ :: _ :: _ :: cellsT (t++b)=_ :: _ :: _ :: (cellsT t++cellsT b)
  rw [cellsT_append t b]
theorem cellsT_at:∀ (L:List Tr) (j:Nat) (h:j<L.length),(cellsT L)[j*3]?=some (.int .i64 L[j].1)∧(cellsT L)[j*3+1]?=some (.int .i64 L[j].2.1)∧(cellsT L)[j*3+2]?=some (.int .i64 L[j].2.2)
 | x :: t,0,h=>⟨rfl,rfl,rfl⟩
 | x :: t,j+1,h=>by
  obtain ⟨h1,h2,h3⟩:=cellsT_at t j (by simpa using h)
  have e:cellsT (x :: t)=.int .i64 x.1 :: .int .i64 x.2.1 :: .int .i64 x.2.2 :: cellsT t:=rfl
  rw [e,show (j+1)*3=j*3+1+1+1 by omega,show j*3+1+1+1+1=(j*3+1)+1+1+1 by omega,show j*3+1+1+1+2=(j*3+2)+1+1+1 by omega]
  simp only [List.getElem?_cons_succ,List.getElem_cons_succ]
  exact ⟨h1,h2,h3⟩
def OpsP (w:World) (A:Option Addr) (L:List Tr):Prop:=
 L=[]∨∃ b off,A=some ⟨b,off,none⟩∧∀ j (h:j<L.length),w.cell? ⟨b,off+j*3,none⟩=some (.int .i64 L[j].1)∧w.cell? ⟨b,off+j*3+1,none⟩=some (.int .i64 L[j].2.1)∧w.cell? ⟨b,off+j*3+2,none⟩=some (.int .i64 L[j].2.2)
theorem OpsP.at_ {w:World} {A:Option Addr} {L:List Tr} (h:OpsP w A L) {k:Nat} (hk:k<L.length):∃ b off,A=some ⟨b,off,none⟩∧b<w.heap.size∧w.cell? ⟨b,off+k*3,none⟩=some (.int .i64 L[k].1)∧w.cell? ⟨b,off+k*3+1,none⟩=some (.int .i64 L[k].2.1)∧w.cell? ⟨b,off+k*3+2,none⟩=some (.int .i64 L[k].2.2):=by
 rcases h with rfl | ⟨b,off,rfl,hc⟩
 ·simp at hk
 ·exact ⟨b,off,rfl,World.block_lt_of_cell? w _ (hc k hk).1,hc k hk⟩
theorem OpsP.below {w w':World} {A:Option Addr} {L:List Tr} (h:OpsP w A L) (hb:Below w.heap.size w w'):OpsP w' A L:=by
 rcases h with rfl | ⟨b,off,rfl,hc⟩
 ·exact .inl rfl
 ·refine .inr ⟨b,off,rfl,fun j hj=>?_⟩
  have e:∀ (p:Addr) (v:Value),w.cell? p=some v→w'.cell? p=some v:=fun p v hp=>(hb.cell (World.block_lt_of_cell? w _ hp)).trans hp
  obtain ⟨h1,h2,h3⟩:=hc j hj
  exact ⟨e _ _ h1,e _ _ h2,e _ _ h3⟩
theorem ops_of_row {w:World} {base:Nat} {v:Value} {L:List Tr} (h:w.ownsRow base 63 3 v L.length (cellsT L)):∃ A cap,v=.slice A L.length cap∧OpsP w A L∧L.length≤cap:=by
 rcases h.2 with ⟨rfl,h0⟩ | ⟨g,cap,cur,rfl,_,_,hle,_⟩
 ·have:L=[]:=List.eq_nil_of_length_eq_zero h0
  subst this
  exact ⟨none,0,rfl,.inl rfl,Nat.le_refl _⟩
 ·refine ⟨_,cap,rfl,.inr ⟨g,0,rfl,fun j hj=>?_⟩,hle⟩
  obtain ⟨h1,h2,h3⟩:=cellsT_at L j hj
  rw [Nat.zero_add]
  exact ⟨(h.cellAt _ (by omega)).trans h1,(h.cellAt _ (by omega)).trans h2,(h.cellAt _ (by omega)).trans h3⟩
theorem info_opd:(Tryz.prog.info? 63).map (fun i=>(i.zero,i.size,i.bytes))=some (some (.agg #[.int .i64 0,.int .i64 0,.int .i64 0]),3,24):=by kernel_rfl
theorem run_append_nothing (w:World) (base:Nat) (t ty e:TypeId) (size:Nat) (ht:Tryz.prog.underlying t=some (.slice e)) (hs:∀ w,(sizeOf e).run Tryz.prog w=.ok size w)
  (v:Value) (n:Nat) (xs:List Value) (hown:w.ownsRow base e size v n xs) (A:Option Addr) (c:Nat) :
  (Builtin.append_ #[t,t] ty #[v,.slice A 0 c]).run Tryz.prog w=.ok v w:=by
 have h0:∀ x,(loadCells x 0).run Tryz.prog w=.ok #[] w:=fun x=>by simpa using run_loadCells_list (P:=Tryz.prog) w x [] (by simp)
 rcases hown.2 with ⟨rfl,h⟩ | ⟨g,cap,cur,rfl,hb,hg,hm,hle,_⟩
 ·cases A <;> simp [Builtin.append_,run_underlying ht,hs,Builtin.lenOf,Builtin.firstCells,h0]
 ·cases A <;> simp [Builtin.append_,run_underlying ht,hs,Builtin.lenOf,Builtin.firstCells,h0,hm,storeCells] <;> omega
theorem run_append_src (w:World) (base:Nat) (t ty e:TypeId) (i:TypeInfo) (z:Value) (size bytes:Nat) (ht:Tryz.prog.underlying t=some (.slice e)) (hi:Tryz.prog.info? e=some i) (hz:i.zero=some z)
  (hsize:i.size=size) (hby:i.bytes=bytes) (hzs:z.cells.size=size) (hsz:0<size)
  (v:Value) (n:Nat) (xs:List Value) (hown:w.ownsRow base e size v n xs)
  (A:Option Addr) (m c:Nat) (news:List Value) (hl:news.length=m*size) (hnews:m=0∨∃ a,A=some a∧∀ j u,news[j]?=some u→w.cell? (a.add j)=some u) (h1:∀ u∈news,u.oneCell'=true)
  (h63:n+m≤maxLen) (hbytes:(n+m)*bytes≤140737488355328) (hbase:base≤w.heap.size) :
  ∃ v' w',(Builtin.append_ #[t,t] ty #[v,.slice A m c]).run Tryz.prog w=.ok v' w'∧w'.ownsRow base e size v' (n+m) (xs++news)∧w.grownBy w' v.ownBlock:=by
 by_cases hm:m=0
 ·subst hm
  have hn0:news=[]:=List.eq_nil_of_length_eq_zero (by omega)
  subst hn0
  refine ⟨v,w,run_append_nothing w base t ty e size ht (fun w=>?_) v n xs hown A c,?_,World.grownBy.refl _ _⟩
  ·simp [sizeOf,typeInfo,hi,hsize]
  ·simpa using hown
 ·obtain ⟨a,rfl,hn⟩:=hnews.resolve_left hm
  obtain ⟨v',w',h2,h3,h4,_⟩:=run_append_own (P:=Tryz.prog) w base t ty e i z size bytes ht hi hz hsize hby hzs hsz v n xs hown a m c news hl hn h1 h63 hbytes hbase
  exact ⟨v',w',h2,h3,h4⟩
theorem wpList_run_append {w w1:World} {t ty:TypeId} {v y v':Value} (h1:(Builtin.append_ #[t,t] ty #[v,y]).run Tryz.prog w=.ok v' w1) {ops:Array Oper} {rest:List Oper} {o:Oper} {a:Act} {Q:Exit→Act→World→Prop} (hgd:o.guard=none) (s x:Operand)
  (ho:o.op=.call {callee:=.builtin .append,args:=#[s,x],argTypes:=#[t,t]}) (hty:o.type=ty) (hs:a.eval s=v) (hx:a.eval x=y) (hk:wpList Tryz.prog ops Q rest (a.put o.dst v') w1):wpList Tryz.prog ops Q (o :: rest) a w:=by
 subst hty
 refine wpList_plain hgd fun K hK=>?_
 unfold Oper.wp
 simp [execOp,ho,resolve,invoke,builtin,hs,hx,h1,Result.andThen]
 exact hK _ _ hk
theorem cellsT_one:∀ (L:List Tr),∀ u∈cellsT L,u.oneCell'=true
 | [],u,h=>by cases h
 | x :: t,u,h=>by
  have e:cellsT (x :: t)=.int .i64 x.1 :: .int .i64 x.2.1 :: .int .i64 x.2.2 :: cellsT t:=rfl
  rw [e] at h
  rcases List.mem_cons.1 h with rfl | h
  ·rfl
  ·rcases List.mem_cons.1 h with rfl | h
   ·rfl
   ·rcases List.mem_cons.1 h with rfl | h
    ·rfl
    ·exact cellsT_one t u h
theorem cellsT_take3 (L:List Tr) (j:Nat) (u:Value) (hu:(cellsT L)[j]?=some u):∃ (k:Nat) (h:k<L.length),(j=k*3∧u=.int .i64 L[k].1)∨(j=k*3+1∧u=.int .i64 L[k].2.1)∨(j=k*3+2∧u=.int .i64 L[k].2.2):=by
 have hj:j<L.length*3:=by
  rw [← cellsT_length]
  exact (List.getElem?_eq_some_iff.1 hu).1
 have hk:j / 3<L.length:=by omega
 obtain ⟨h1,h2,h3⟩:=cellsT_at L (j / 3) hk
 refine ⟨j / 3,hk,?_⟩
 have:j % 3=0∨j % 3=1∨j % 3=2:=by omega
 rcases this with h | h | h
 ·have e:j=j / 3*3:=by omega
  rw [← e,hu] at h1
  exact .inl ⟨e,by simpa using h1⟩
 ·have e:j=j / 3*3+1:=by omega
  rw [← e,hu] at h2
  exact .inr (.inl ⟨e,by simpa using h2⟩)
 ·have e:j=j / 3*3+2:=by omega
  rw [← e,hu] at h3
  exact .inr (.inr ⟨e,by simpa using h3⟩)
theorem OpsP.news {w:World} {A:Option Addr} {L:List Tr} (h:OpsP w A L):L.length=0∨∃ a,A=some a∧∀ j u,(cellsT L)[j]?=some u→w.cell? (a.add j)=some u:=by
 rcases h with rfl | ⟨b,off,rfl,hc⟩
 ·exact .inl rfl
 ·refine .inr ⟨_,rfl,fun j u hu=>?_⟩
  have hadd:(⟨b,off,none⟩:Addr).add j=⟨b,off+j,none⟩:=by unfold Addr.add;split <;> simp_all
  rw [hadd]
  obtain ⟨k,hk,e⟩:=cellsT_take3 L j u hu
  obtain ⟨h1,h2,h3⟩:=hc k hk
  rcases e with ⟨rfl,rfl⟩ | ⟨rfl,rfl⟩ | ⟨rfl,rfl⟩
  ·exact h1
  ·exact h2
  ·exact h3
theorem cells_set:∀ (L:List Tr) (k:Nat) (a b c:Int) (h:k<L.length) (h1:L[k].1=a) (h2:L[k].2.1=b),cellsT (L.set k (a,b,c))=(cellsT L).set (k*3+2) (.int .i64 c)
 | x :: t,0,a,b,c,h,h1,h2=>by
  simp only [List.getElem_cons_zero] at h1 h2
  subst h1 h2
  rfl
 | x :: t,k+1,a,b,c,h,h1,h2=>by
  have ih:=cells_set t k a b c (by simpa using h) (by simpa using h1) (by simpa using h2)
  rw [show (k+1)*3+2=(k*3+2)+1+1+1 by omega]
  show cellsT (x :: t.set k (a,b,c))=_
  have e:∀ y:List Tr,cellsT (x :: y)=.int .i64 x.1 :: .int .i64 x.2.1 :: .int .i64 x.2.2 :: cellsT y:=fun _=>rfl
  rw [e,e,ih]
  rfl
def OwnT (w:World) (n:Nat) (v:Value) (L:List Tr):Prop:=w.ownsRow n 63 3 v L.length (cellsT L)
theorem OwnT.ops {w:World} {n:Nat} {v:Value} {L:List Tr} (h:OwnT w n v L):∃ A cap,v=.slice A L.length cap∧OpsP w A L∧L.length≤cap:=ops_of_row h
theorem OwnT.below {w w':World} {n:Nat} {v:Value} {L:List Tr} (h:OwnT w n v L) (k:Below w.heap.size w w'):OwnT w' n v L:=
 World.ownsRow.kept h (row:=none) ⟨k.os,k.tape,k.output,k.size,fun i hi _=>k.block i hi⟩ (by
  cases e:v.ownBlock with
  | none=>exact .inl rfl
  | some g=>exact .inr (by simp))
def RetOwn (w:World) (L:List Tr) (e:Ending) (w':World):Prop:=∃ v,e=.returned v∧OwnT w' w.heap.size v L∧Below w.heap.size w w'
theorem append_ops (A:Option Addr) (cap:Nat) (L:List Tr) (hl:L.length≤1000) (w:World) (hx:OpsP w A L) :
  ∃ v' w',(Builtin.append_ #[24,24] 24 #[.slice (some ⟨w.heap.size,0,none⟩) 0 0,.slice A L.length cap]).run Tryz.prog (w.alloc (.cells #[] 63))=.ok v' w'∧OwnT w' w.heap.size v' L∧Below w.heap.size w w':=by
 obtain ⟨i0,hi,hz0,hz1,hz2⟩:=info_parts info_opd
 have hb:Below w.heap.size w (w.alloc (.cells #[] 63)):=(Below.refl _ _).alloc (Nat.le_refl _) _
 have hown:=World.ownsRow_made (base:=w.heap.size) (e:=63) (size:=3) w #[] 0 (Nat.le_refl _) (by unfold maxLen;omega) rfl
 obtain ⟨v',w',k1,k2,k3⟩:=run_append_src (w.alloc (.cells #[] 63)) w.heap.size 24 24 63 i0 _ 3 24 Tryz.underlying24 hi hz0 hz1 hz2 rfl (by decide) _ 0 [] hown A L.length cap (cellsT L)
  (cellsT_length L) (hx.below hb).news (cellsT_one L) (by unfold maxLen;omega) (by omega) (by simp)
 rw [List.nil_append,Nat.zero_add] at k2
 exact ⟨v',w',k1,k2,hb.grown k3 (by simp) fun k hk=>(hown.lt k hk).1⟩
theorem cloneO_any (A:Option Addr) (cap:Nat) (L:List Tr) (hl:L.length≤1000) (w:World) (hx:OpsP w A L) :
  Calls Tryz.prog 58 #[.slice A L.length cap] w (RetOwn w L):=by
 cases A with
 | none=>
  obtain rfl:L=[]:=by
   rcases hx with h | ⟨b,off,h,_⟩
   ·exact h
   ·cases h
  clear hx
  have hnil:=fun w=>Lib.run_eql_slice_nil (P:=Tryz.prog) w 24 63 none 0 cap 0 0 Tryz.underlying24
  go_enter Tryz.func58,Tryz.ntmps58
  go_wp2
  go_ret
  exact ⟨_,rfl,World.ownsRow_nil _ _ _ _,Below.refl _ _⟩
 | some a=>
  obtain ⟨v',w',k1,k2,k3⟩:=append_ops (some a) cap L hl w hx
  have N:Hid (RetOwn w L (.returned v') w'):=⟨v',rfl,k2,k3⟩
  have K:=Lib.hid k1
  clear hx k1 k2 k3
  go_enter Tryz.func58,Tryz.ntmps58
  have hnil:=fun w=>Lib.run_eql_slice_nil (P:=Tryz.prog) w 24 63 (some a) L.length cap 0 0 Tryz.underlying24
  go_wp2_with (at_builtin;refine wpList_run_append K.out rfl _ _ rfl rfl rfl rfl ?_)
  go_ret
  exact N.out
def Bx (w:World) (b:Nat) (s:ByteArray) (A:Option Addr) (len cap:Nat):Prop:=w.cell? ⟨b,0,none⟩=some (.string s)∧w.cell? ⟨b,1,none⟩=some (.slice A len cap)
theorem Bx.lt {w:World} {b:Nat} {s:ByteArray} {A:Option Addr} {len cap:Nat} (h:Bx w b s A len cap):b<w.heap.size:=World.block_lt_of_cell? w _ h.1
theorem Bx.below {w w':World} {b:Nat} {s:ByteArray} {A:Option Addr} {len cap B:Nat} (h:Bx w b s A len cap) (hb:Below B w w') (hB:b<B):Bx w' b s A len cap:=
 ⟨(hb.cell hB).trans h.1,(hb.cell hB).trans h.2⟩
theorem Bx.all {w w':World} {b:Nat} {s:ByteArray} {A:Option Addr} {len cap:Nat} (h:Bx w b s A len cap) (hb:Below w.heap.size w w'):Bx w' b s A len cap:=h.below hb h.lt
theorem Bx.new (w:World) (s:ByteArray) (A:Option Addr) (len cap:Nat) (t:TypeId):Bx (w.alloc (.cells #[.string s,.slice A len cap] t)) w.heap.size s A len cap:=⟨by simp [go_sem],by simp [go_sem]⟩
theorem row_mono {w:World} {base base':Nat} {e:TypeId} {size:Nat} {v:Value} {n:Nat} {xs:List Value} (h:w.ownsRow base e size v n xs) (hb:base'≤base):w.ownsRow base' e size v n xs:=by
 refine ⟨h.1,?_⟩
 rcases h.2 with h2 | ⟨g,cap,cur,h1,h2,h3⟩
 ·exact .inl h2
 ·exact .inr ⟨g,cap,cur,h1,Nat.le_trans hb h2,h3⟩
theorem row_set {w:World} {base:Nat} {e:TypeId} {size n:Nat} {v:Value} {xs:List Value} (h:w.ownsRow base e size v n xs) {p:Addr} (hp:p.block<base) (u:Value):(w.setCell p u).ownsRow base e size v n xs:=
 World.ownsRow.kept h (row:=some p.block) ⟨rfl,rfl,rfl,by simp,fun k _ hk=>heap_setCell_other w p k u (fun e=>hk (by rw [e]))⟩ (by
  cases e:v.ownBlock with
  | none=>exact .inl rfl
  | some g=>exact .inr (fun e'=>by have:=(h.lt g e).1;cases e';omega))
def RetIns (w:World) (s:ByteArray) (L:List Tr) (e:Ending) (w':World):Prop:=∃ v,e=.returned (.agg #[.string s,v])∧OwnT w' w.heap.size v L∧Below w.heap.size w w'
theorem OwnT.lift {w:World} {n m:Nat} {v:Value} {L:List Tr} (h:OwnT w n v L) (k:m≤n):OwnT w m v L:=row_mono h k
def Rz (w:World) (b:Nat):Prop:=w.heap[b]?=some (.cells #[.string ⟨#[]⟩,.slice none 0 0] 26 (0,0))
def Ri (w:World) (b:Nat) (s:ByteArray) (v:Value):Prop:=w.heap[b]?=some (.cells #[.string s,v] 26 (0,0))
theorem Rz.cells {w:World} {b:Nat} (h:Rz w b):w.cell? ⟨b,0,none⟩=some (.string ⟨#[]⟩)∧w.cell? ⟨b,1,none⟩=some (.slice none 0 0)∧w.frozen? ⟨b,0,none⟩=false∧w.frozen? ⟨b,1,none⟩=false:=
 ⟨by rw [Lib.cell_of_heap h];rfl,by rw [Lib.cell_of_heap h];rfl,Lib.frozen_of_heap h 0,Lib.frozen_of_heap h 1⟩
theorem Ri.cells {w:World} {b:Nat} {s:ByteArray} {v:Value} (h:Ri w b s v):w.cell? ⟨b,0,none⟩=some (.string s)∧w.cell? ⟨b,1,none⟩=some v:=
 ⟨by rw [Lib.cell_of_heap h];rfl,by rw [Lib.cell_of_heap h];rfl⟩
theorem Rz.set {w:World} {b:Nat} (h:Rz w b) (s:ByteArray) (v:Value):((w.setCell ⟨b,0,none⟩ (.string s)).setCell ⟨b,1,none⟩ v).cell? ⟨b,0,none⟩=some (.string s)∧((w.setCell ⟨b,0,none⟩ (.string s)).setCell ⟨b,1,none⟩ v).cell? ⟨b,1,none⟩=some v:=by
 obtain ⟨h0,h1,-,-⟩:=h.cells
 exact ⟨by simp [go_sem,h0],by simp [go_sem,h1]⟩
theorem Rz.done {w:World} {b:Nat} (h:Rz w b) (s:ByteArray) (v:Value):Ri ((w.setCell ⟨b,0,none⟩ (.string s)).setCell ⟨b,1,none⟩ v) b s v:=by
 have h1:=heap_setCell_same w b 0 _ _ (.string s) h
 have h2:=heap_setCell_same (w.setCell ⟨b,0,none⟩ (.string s)) b 1 _ _ v h1
 exact h2
theorem OwnT.form {w:World} {b:Nat} {v:Value} {L:List Tr} (h:OwnT w b v L) (h0:0<L.length):∃ g cap,v=.slice (some ⟨g,0,none⟩) L.length cap∧b≤g∧(∃ cur,w.heap[g]?=some (.cells cur 63 (0,0)))∧
  (∀ j (hj:j<L.length),w.cell? ⟨g,j*3,none⟩=some (.int .i64 L[j].1)∧w.cell? ⟨g,j*3+1,none⟩=some (.int .i64 L[j].2.1)∧w.cell? ⟨g,j*3+2,none⟩=some (.int .i64 L[j].2.2))∧∀ j,w.frozen? ⟨g,j,none⟩=false:=by
 rcases h.2 with ⟨_,h1⟩ | ⟨g,cap,cur,rfl,hb,hg,_⟩
 ·omega
 ·refine ⟨g,cap,rfl,hb,⟨cur,hg⟩,fun j hj=>?_,fun j=>World.ownsRow.frozenAt h j⟩
  obtain ⟨h1,h2,h3⟩:=cellsT_at L j hj
  exact ⟨(World.ownsRow.cellAt h _ (by omega)).trans h1,(World.ownsRow.cellAt h _ (by omega)).trans h2,(World.ownsRow.cellAt h _ (by omega)).trans h3⟩
theorem OwnT.put {w:World} {b g cap n:Nat} {L L':List Tr} (h:OwnT w b (.slice (some ⟨g,0,none⟩) n cap) L) (hn:L.length=n) (hn':L'.length=n) (j:Nat) (u:Value) (e:(cellsT L).set j u=cellsT L'):OwnT (w.setCell ⟨g,j,none⟩ u) b (.slice (some ⟨g,0,none⟩) n cap) L':=by
 unfold OwnT at h ⊢
 rw [hn] at h
 rw [hn',← e]
 exact (World.ownsRow.stored h j u).1
theorem Ri.apart {w:World} {b g:Nat} {s:ByteArray} {v:Value} {cur:Array Value} (h:Ri w b s v) (hg:w.heap[g]?=some (.cells cur 63 (0,0))):g≠b:=by
 rintro rfl
 rw [show w.heap[g]?=_ from h] at hg
 simp at hg
theorem clone_n {A:Option Addr} {cap n:Nat} {L:List Tr} (h:∀ w,OpsP w A L→Calls Tryz.prog 58 #[.slice A n cap] w (RetOwn w L)) (hn:L.length=n) (w:World) (H:OpsP w A L) :
  Calls Tryz.prog 58 #[.slice A n cap] w fun e w'=>∃ A3 cap3,e=.returned (.slice A3 n cap3)∧OwnT w' w.heap.size (.slice A3 n cap3) L∧Below w.heap.size w w':=by
 refine (h w H).mono ?_
 rintro e w' ⟨v,rfl,hO,hb⟩
 obtain ⟨A3,cap3,rfl,-,-⟩:=hO.ops
 rw [hn] at hO ⊢
 exact ⟨A3,cap3,rfl,hO,hb⟩
theorem strB_ne {a b:ByteArray} (h:a≠b):(a.toList == b.toList)=false:=beq_eq_false_iff_ne.2 fun e=>h (by
 rw [ByteArray.toList_eq,ByteArray.toList_eq] at e
 exact ByteArray.ext (Array.toList_inj.1 e))
theorem strB_eq (a:ByteArray):(a.toList == a.toList)=true:=beq_self_eq_true _
theorem tr_ne {a b:Tr} (h:a≠b):¬a.1=b.1∨(a.1=b.1∧¬a.2.1=b.2.1)∨(a.1=b.1∧a.2.1=b.2.1∧¬a.2.2=b.2.2):=by
 obtain ⟨a1,a2,a3⟩:=a
 obtain ⟨b1,b2,b3⟩:=b
 by_cases h1:a1=b1
 ·by_cases h2:a2=b2
  ·refine .inr (.inr ⟨h1,h2,fun h3=>h (by simp only at h3;rw [h1,h2,h3])⟩)
  ·exact .inr (.inl ⟨h1,h2⟩)
 ·exact .inl h1
theorem equalO_any (A1 A2:Option Addr) (c1 c2:Nat) (L1 L2:List Tr) (h1:L1.length≤maxLen) (h2:L2.length≤maxLen) (w:World) (H1:OpsP w A1 L1) (H2:OpsP w A2 L2) :
  Calls Tryz.prog 52 #[.slice A1 L1.length c1,.slice A2 L2.length c2] w fun e w'=>e=.returned (.bool (decide (L1=L2)))∧Below w.heap.size w w':=by
 unfold maxLen at h1 h2
 by_cases hl:L1.length=L2.length
 ·have X1:=Lib.hid H1
  have X2:=Lib.hid H2
  have HL:=Lib.hid hl
  obtain ⟨n,hn⟩:∃ n,L1.length=n:=⟨_,rfl⟩
  have HN:=Lib.hid hn
  rw [hn] at h1
  rw [← hl,hn]
  clear H1 H2 hl h2 hn
  go_enter Tryz.func52,Tryz.ntmps52
  go_wp2
  go_loopw [13] (fun i wr=>∃ j:Nat,j≤n∧i=.int .i64 j∧Hid (∀ k,k<j→∀ (a:k<L1.length) (b:k<L2.length),L1[k]=L2[k])∧Hid (Below w.heap.size w wr)) (fun i _=>n - (intOf i).toNat)
  case atStart=>exact ⟨0,Nat.zero_le _,rfl,fun k h=>by omega,Below.refl _ _⟩
  case round=>
   obtain ⟨j,hj,rfl,R,B⟩:=hrel
   by_cases hlt:j<n
   ·have hj1:j<L1.length:=by have:=HN.out;omega
    have hj2:j<L2.length:=by have:=HL.out;omega
    obtain ⟨b1,o1,hA1,-,p0,p1,p2⟩:=(X1.out.below B.out).at_ hj1
    obtain ⟨b2,o2,hA2,-,q0,q1,q2⟩:=(X2.out.below B.out).at_ hj2
    subst hA1
    subst hA2
    by_cases he:L1[j]=L2[j]
    ·have R2:Hid (∀ k,k<j+1→∀ (a:k<L1.length) (b:k<L2.length),L1[k]=L2[k]):=fun k hk a b=>by
      by_cases e:k=j
      ·subst e;exact he
      ·exact R.out k (by omega) a b
     rw [he] at p0 p1 p2
     obtain ⟨⟨x0,x1,x2⟩,hx⟩:∃ x,L2[j]=x:=⟨_,rfl⟩
     rw [hx] at p0 p1 p2 q0 q1 q2
     simp only at p0 p1 p2 q0 q1 q2
     clear he hx hj1 hj2 R
     go_wp2
     go_quiet (fail)
     have B2:=fun q=>Lib.hid (B.out.trans (below_drewN wr w.heap.size q))
     go_wp2
     go_roundw
     case rel=>exact ⟨j+1,by omega,by go_num,R2.out,(B2 _).out⟩
     case measure=>simp [intOf];omega
    ·have T:Hid (false=decide (L1=L2)):=(decide_eq_false (fun e=>he (by simp only [e]))).symm
     have hne:=tr_ne he
     obtain ⟨⟨x0,x1,x2⟩,hx⟩:∃ x,L1[j]=x:=⟨_,rfl⟩
     obtain ⟨⟨y0,y1,y2⟩,hy⟩:∃ y,L2[j]=y:=⟨_,rfl⟩
     rw [hx] at p0 p1 p2 hne
     rw [hy] at q0 q1 q2 hne
     simp only at p0 p1 p2 q0 q1 q2 hne
     have B2:=fun q=>Lib.hid (B.out.trans (below_drewN wr w.heap.size q))
     clear he hx hy hj1 hj2 R
     rcases hne with hne | ⟨rfl,hne⟩ | ⟨rfl,rfl,hne⟩
     all_goals
      go_wp2
      go_quiet (fail)
      go_wp2
      go_ret
      exact ⟨ret_bool T.out,(B2 _).out⟩
   ·have T:Hid (true=decide (L1=L2)):=by
     refine (decide_eq_true (List.ext_getElem HL.out fun k a b=>?_)).symm
     exact R.out k (by have:=HN.out;omega) a b
    clear R
    go_wp2
    go_ret
    exact ⟨ret_bool T.out,B.out⟩
 ·have T:Hid (false=decide (L1=L2)):=(decide_eq_false (fun e=>hl (by rw [e]))).symm
  have hl':((L1.length:Int) == (L2.length:Int))=false:=beq_eq_false_iff_ne.2 (by omega)
  have hl2:¬((L1.length:Int)=(L2.length:Int)):=by omega
  clear H1 H2
  go_enter Tryz.func52,Tryz.ntmps52
  go_wp2
  go_ret
  exact ⟨ret_bool T.out,Below.refl _ _⟩
theorem make_any (s:ByteArray) (hs:s.size≤maxLen) (A:Option Addr) (cap:Nat) (L:List Tr) (hL:L.length≤1000) (w:World) (H:OpsP w A L) :
  Calls Tryz.prog 29 #[.string s,.slice A L.length cap] w (RetIns w (upB s) L):=by
 have UP:=Lib.hid (upper_any s hs)
 have CL:=Lib.hid (cloneO_any A cap L hL)
 obtain ⟨u,hu⟩:∃ u,upB s=u:=⟨_,rfl⟩
 rw [hu] at UP ⊢
 have B0:Hid (Below w.heap.size w (w.alloc (.cells #[.string ⟨#[]⟩,.slice none 0 0] 26))):=(Below.refl _ _).alloc (Nat.le_refl _) _
 have X0:=Lib.hid (H.below B0.out)
 have c0:(w.alloc (.cells #[.string ⟨#[]⟩,.slice none 0 0] 26)).heap[w.heap.size]?=some (.cells #[.string ⟨#[]⟩,.slice none 0 0] 26 (0,0)):=heap_alloc_new w _
 have C0:=Lib.hid c0
 clear H hu c0
 go_enter Tryz.func29,Tryz.ntmps29
 go_wp2_with fail
 refine (UP.out _).mono ?_
 rintro e w1 ⟨rfl,h1⟩
 have X1:=Lib.hid (X0.out.below h1)
 have B1:=Lib.hid (B0.out.trans (h1.mono B0.out.size))
 have C1:Hid (w1.heap[w.heap.size]?=some (.cells #[.string ⟨#[]⟩,.slice none 0 0] 26 (0,0))):=(h1.block _ (by simp)).trans C0.out
 have Z1:Hid (w.heap.size<w1.heap.size):=by have:=h1.size;simp at this;show w.heap.size<w1.heap.size;omega
 clear h1 X0 B0 C0
 go_wp2_with fail
 refine (CL.out _ X1.out).mono ?_
 rintro e w2 ⟨v,rfl,hO,h2⟩
 obtain ⟨A',cap',rfl,-,-⟩:=hO.ops
 have O2:=Lib.hid hO
 have B2:=Lib.hid (B1.out.trans (h2.mono B1.out.size))
 have C2:Hid (w2.heap[w.heap.size]?=some (.cells #[.string ⟨#[]⟩,.slice none 0 0] 26 (0,0))):=(h2.block _ Z1.out).trans C1.out
 clear h2 X1 B1 C1 hO
 have d0:w2.cell? ⟨w.heap.size,0,none⟩=some (.string ⟨#[]⟩):=by rw [Lib.cell_of_heap C2.out];rfl
 have d1:w2.cell? ⟨w.heap.size,1,none⟩=some (.slice none 0 0):=by rw [Lib.cell_of_heap C2.out];rfl
 have f0:w2.frozen? ⟨w.heap.size,0,none⟩=false:=Lib.frozen_of_heap C2.out 0
 have f1:w2.frozen? ⟨w.heap.size,1,none⟩=false:=Lib.frozen_of_heap C2.out 1
 have F:Hid (RetIns w u L (.returned (.agg #[.string u,.slice A' L.length cap'])) ((w2.setCell ⟨w.heap.size,0,none⟩ (.string u)).setCell ⟨w.heap.size,1,none⟩ (.slice A' L.length cap'))):=
  ⟨_,rfl,row_mono (row_set (row_set O2.out (p:=⟨w.heap.size,0,none⟩) Z1.out _) (p:=⟨w.heap.size,1,none⟩) Z1.out _) (Nat.le_of_lt Z1.out),(B2.out.setCell (p:=⟨w.heap.size,0,none⟩) (Nat.le_refl _) _).setCell (p:=⟨w.heap.size,1,none⟩) (Nat.le_refl _) _⟩
 go_wp2
 obtain ⟨w3,hw3⟩:∃ w3,((w2.setCell ⟨w.heap.size,0,none⟩ (.string u)).setCell ⟨w.heap.size,1,none⟩ (.slice A' L.length cap'))=w3:=⟨_,rfl⟩
 have e0:w3.cell? ⟨w.heap.size,0,none⟩=some (.string u):=by rw [← hw3];simp [go_sem,d0]
 have e1:w3.cell? ⟨w.heap.size,1,none⟩=some (.slice A' L.length cap'):=by rw [← hw3];simp [go_sem,d1]
 rw [hw3] at F ⊢
 refine bodyPost_ret (v:=.agg #[.string u,.slice A' L.length cap']) ?_ rfl F.out
 simp [results,Tryz.results29,go_sem,e0,e1]
end Go.Proofs.YtoilebmbljpieaaGreatDoor
