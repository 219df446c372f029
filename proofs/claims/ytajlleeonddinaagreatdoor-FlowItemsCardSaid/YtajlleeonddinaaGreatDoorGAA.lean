/-
  NumA, NumB, NumC, NumD, Ob, TbA, Mixed, TbB, Round, Each.
-/
import Derived.Test.YtajlleeonddinaaGreatDoorProg
import Derived.WalkKit
import Derived.WalkSpells
import Derived.WalkLawsBesides
import Derived.Lib.Bytealg
import Derived.Lib.Hide
import Derived.OneCell
import Derived.Laws.IdiomStrings
import Derived.Lib.SlBytesRow
import Derived.Deep.QuietTactic
import Derived.BigQuiet
import Derived.RangeFuncBox
import Derived.OwnWalk
import Derived.Laws.AppendOwn
import Derived.Laws.OwnMore
import Derived.Lib.SliceRun
import Derived.Maps.AppendAt
import Derived.Lib.IndexMore
import Derived.StillTail
import Derived.Deep.Quiet
import Derived.Tactics
import Derived.Tactics2
import Derived.KernelRfl
import Derived.RangeFuncNested
import Derived.RangeFuncBound
import Derived.RangeFuncCalls
import Derived.RangeFuncLeaves
import Derived.OwnWalkIn
import Derived.TacticsInMore
set_option linter.all false
set_option maxRecDepth 100000
set_option maxHeartbeats 4000000
namespace Go.Proofs.YtajlleeonddinaaGreatDoor
open Go.RowKit
theorem ret_int {k:IntKind} {a b:Int} (h:a=b):Ending.returned (.int k a)=.returned (.int k b):=by rw [h]
def capI (c:Int):Int:=if 97≤c∧c≤122 then c - 32 else c
def decB (c:Int):Bool:=decide (48≤c)&&decide (c≤57)
theorem capital_any (c:Int) (h0:0≤c) (h1:c≤255) (w:World) :
  Calls Tryz.prog 77 #[.int .u8 c] w fun e w'=>e=.returned (.int .u8 (capI c))∧w=w':=by
 by_cases ha:97≤c
 ·by_cases hb:c≤122
  ·go_enter Tryz.func77,Tryz.ntmps77
   go_wp2
   go_ret
   refine ⟨?_,rfl⟩
   have e1:capI c=c - 32:=by unfold capI;rw [if_pos ⟨ha,hb⟩]
   rw [e1]
   exact ret_int (by omega)
  ·go_enter Tryz.func77,Tryz.ntmps77
   go_wp2
   go_ret
   refine ⟨?_,rfl⟩
   have e1:capI c=c:=by unfold capI;rw [if_neg (by omega)]
   rw [e1]
   rfl
 ·go_enter Tryz.func77,Tryz.ntmps77
  go_wp2
  go_ret
  refine ⟨?_,rfl⟩
  have e1:capI c=c:=by unfold capI;rw [if_neg (by omega)]
  rw [e1]
  rfl
theorem isDecimal_any (c:Int) (h0:0≤c) (h1:c≤255) (w:World) :
  Calls Tryz.prog 252 #[.int .u8 c] w fun e w'=>e=.returned (.bool (decB c))∧w=w':=by
 by_cases ha:48≤c
 ·have e1:decB c=decide (c≤57):=by unfold decB;simp [ha]
  rw [e1]
  go_enter Tryz.func252,Tryz.ntmps252
  go_wp2
  go_ret
  exact ⟨rfl,rfl⟩
 ·have e1:decB c=false:=by unfold decB;simp [ha]
  rw [e1]
  go_enter Tryz.func252,Tryz.ntmps252
  go_wp2
  go_ret
  exact ⟨rfl,rfl⟩
theorem capI_bd (c:Int) (h0:0≤c) (h1:c≤255):0≤capI c∧capI c≤255:=by unfold capI;split <;> omega
theorem wrapI8 (n:Int):IntKind.i8.wrap n=if 128≤n % 256 then n % 256 - 256 else n % 256:=by simp [IntKind.wrap,IntKind.bits,IntKind.signed]
def sgnI (c:Int):Int:=if c<128 then c else c - 256
theorem signed_any (c:Int) (h0:0≤c) (h1:c≤255) (w:World) :
  Calls Tryz.prog 205 #[.int .u8 c] w fun e w'=>e=.returned (.int .i64 (sgnI c))∧w=w':=by
 go_enter Tryz.func205,Tryz.ntmps205
 go_wp2
 go_ret
 refine ⟨?_,rfl⟩
 refine ret_int ?_
 unfold sgnI wrap64
 rw [wrapI8]
 split <;> split <;> omega
end Go.Proofs.YtajlleeonddinaaGreatDoor
namespace Go.Proofs.YtajlleeonddinaaGreatDoor
open Go.RowKit
end Go.Proofs.YtajlleeonddinaaGreatDoor
namespace Go.Proofs.YtajlleeonddinaaGreatDoor
open Go.RowKit
theorem ret_bool {a b:Bool} (h:a=b):Ending.returned (.bool a)=.returned (.bool b):=by rw [h]
theorem ret_str {a b:ByteArray} (h:a=b):Ending.returned (.string a)=.returned (.string b):=by rw [h]
def preB (s p:ByteArray):Bool:=decide (p.size≤s.size)&&((s.extract 0 p.size).toList == p.toList)
def sufB (s p:ByteArray):Bool:=decide (p.size≤s.size)&&((s.extract (s.size - p.size) s.size).toList == p.toList)
def cutSuf (s p:ByteArray):ByteArray:=if sufB s p then s.extract 0 (s.size - p.size) else s
theorem hasPrefix_any (s p:ByteArray) (hs:s.size≤maxLen) (hp:p.size≤maxLen) (w:World) :
  Calls Tryz.prog 235 #[.string s,.string p] w fun e w'=>e=.returned (.bool (preB s p))∧w=w':=by
 unfold maxLen at hs hp
 by_cases h:p.size≤s.size
 ·go_enter Tryz.func235,Tryz.ntmps235
  go_wp2
  go_ret
  exact ⟨ret_bool (by unfold preB;rw [decide_eq_true h,Bool.true_and]),rfl⟩
 ·go_enter Tryz.func235,Tryz.ntmps235
  go_wp2
  go_ret
  exact ⟨ret_bool (by unfold preB;rw [decide_eq_false h,Bool.false_and]),rfl⟩
def hexB (u:ByteArray):Bool:=sufB u ⟨#[72]⟩&&!(cutSuf u ⟨#[72]⟩).toList.isEmpty&&decB (((cutSuf u ⟨#[72]⟩).data.toList.getD 0 0).toNat:Int)
def hasW (k:Nat) (u:ByteArray):Bool:=match k with
 | 0=>true
 | 1=>preB u ⟨#[48,88]⟩
 | 2=>preB u ⟨#[36]⟩
 | 3=>hexB u
 | 4=>sufB u ⟨#[66]⟩
 | _=>preB u ⟨#[37]⟩
end Go.Proofs.YtajlleeonddinaaGreatDoor
namespace Go.Proofs.YtajlleeonddinaaGreatDoor
open Go.RowKit
def capU (c:UInt8):UInt8:=(capI (c.toNat:Int)).toNat.toUInt8
theorem capU_nat (c:UInt8):((capU c).toNat:Int)=capI (c.toNat:Int):=by
 have h:=capI_bd (c.toNat:Int) (by omega) (by have:=c.toNat_lt;omega)
 unfold capU
 have:(capI (c.toNat:Int)).toNat<256:=by omega
 rw [UInt8.toNat_ofNat_of_lt' this]
 omega
def upB (s:ByteArray):ByteArray:=⟨s.data.map capU⟩
theorem upB_size (s:ByteArray):(upB s).size=s.size:=by unfold upB;show (s.data.map capU).size=s.data.size;simp
theorem upB_at (s:ByteArray) (j:Nat) (h:j<s.size) (h':j<(upB s).size):(upB s)[j]=capU s[j]:=by
 have h1:(upB s).data[j]'h'=capU (s.data[j]'h):=by simp [upB]
 exact h1
def UpRel (w:World) (s:ByteArray) (k:Nat) (wr:World):Prop:=
 (∀ j (h:j<s.size),wr.cell? ⟨w.heap.size,j,none⟩=some (.int .u8 (if j<k then capI (s[j].toNat:Int) else (s[j].toNat:Int))))∧(∀ j,j<s.size→wr.frozen? ⟨w.heap.size,j,none⟩=false)∧Below w.heap.size w wr
theorem upRel_start (w:World) (s:ByteArray) (cap:Nat) (e:TypeId) :
  UpRel w s 0 (w.alloc (.cells (bytesRow s cap) e ((bytesRow s cap).size,(bytesRow s cap).size+1))).drew:=by
 refine ⟨fun j h=>?_,fun j h=>?_,((Below.refl _ _).alloc (Nat.le_refl _) _).drew⟩
 ·have h1:=World.cell?_alloc_mark w (bytesRow s cap) e ((bytesRow s cap).size,(bytesRow s cap).size+1) j
  rw [bytesRow_at s cap j h] at h1
  exact h1
 ·have h1:=World.frozen?_alloc_mark w (bytesRow s cap) e (bytesRow s cap).size ((bytesRow s cap).size+1) j
  have h2:j<(bytesRow s cap).size:=by
   unfold bytesRow
   rw [Array.size_append,Array.size_map]
   have:s.data.size=s.size:=rfl
   omega
  have h3:decide ((bytesRow s cap).size≤j)=false:=by simp;exact h2
  rw [h3,Bool.false_and] at h1
  simpa using h1
theorem upRel_next (w wr:World) (s:ByteArray) (k:Nat) (h:k<s.size) (hr:UpRel w s k wr):UpRel w s (k+1) (wr.setCell ⟨w.heap.size,k,none⟩ (.int .u8 (capI (s[k].toNat:Int)))):=by
 obtain ⟨r1,r2,r3⟩:=hr
 refine ⟨fun j hj=>?_,fun j hj=>?_,r3.setCell (by simp) _⟩
 ·by_cases e:j=k
  ·subst e
   have:=r1 j hj
   rw [if_pos (by omega)]
   simp [go_sem,this]
  ·rw [World.cell?_setCell_other _ _ _ _ (by simp),r1 j hj]
   by_cases h1:j<k
   ·rw [if_pos h1,if_pos (by omega)]
   ·rw [if_neg h1,if_neg (by omega)]
 ·simp [go_sem,r2 j hj]
theorem upRel_end (w wr:World) (s:ByteArray) (cap:Nat) (hr:UpRel w s s.size wr) :
  (convert 38 9 (.slice (some ⟨w.heap.size,0,none⟩) s.size cap)).run Tryz.prog wr=.ok (.string (upB s)) wr:=by
 have h:=Lib.run_convert_whole (P:=Tryz.prog) wr 38 5 9 Tryz.underlying38 Tryz.underlying5 Tryz.underlying9 w.heap.size 0 (upB s) (fun i hi=>by
  have hi':i<s.size:=by rw [upB_size] at hi;exact hi
  rw [Nat.zero_add,hr.1 i hi',if_pos hi',upB_at s i hi' hi,capU_nat]) cap
 rw [upB_size] at h
 exact h
theorem upper_any (s:ByteArray) (hs:s.size≤maxLen) (w:World) :
  Calls Tryz.prog 47 #[.string s] w fun e w'=>e=.returned (.string (upB s))∧Below w.heap.size w w':=by
 unfold maxLen at hs
 have hcv:=fun (w:World)=>run_bytes_of_string (P:=Tryz.prog) w 9 38 5 s Tryz.underlying9 Tryz.underlying38 Tryz.underlying5
 have S:=Lib.hid (upRel_start w s (grownCap w s.size 0 5) 5)
 go_enter Tryz.func47,Tryz.ntmps47
 go_wp2
 clear hcv
 go_loopw [10] (fun i wr=>∃ k:Nat,k≤s.size∧i=.int .i64 k∧UpRel w s k wr) (fun i _=>s.size - (intOf i).toNat)
 case atStart=>exact ⟨0,Nat.zero_le _,rfl,S.out⟩
 case round=>
  obtain ⟨k,hk,rfl,hr⟩:=hrel
  have R:=Lib.hid hr
  clear hr
  by_cases hlt:k<s.size
  ·have c0:(0:Int)≤(s[k].toNat:Int):=by omega
   have c1:(s[k].toNat:Int)≤255:=by have:=s[k].toNat_lt;omega
   have g1:wr.cell? ⟨w.heap.size,k,none⟩=some (.int .u8 (s[k].toNat:Int)):=by rw [R.out.1 k hlt,if_neg (by omega)]
   have g2:=R.out.2.1 k hlt
   have N:=Lib.hid (upRel_next w wr s k hlt R.out)
   go_wp2_with (go_at_call 77;refine (capital_any _ c0 c1 _).mono ?_;rintro e w' ⟨rfl,rfl⟩)
   go_roundw
   case rel=>exact ⟨k+1,by omega,by go_num,N.out⟩
   case measure=>simp [intOf];omega
  ·obtain rfl:k=s.size:=by omega
   have hback:=upRel_end w wr s (grownCap w s.size 0 5) R.out
   go_wp2
   go_ret
   exact ⟨rfl,R.out.2.2⟩
end Go.Proofs.YtajlleeonddinaaGreatDoor
namespace Go.Proofs.YtajlleeonddinaaGreatDoor
open Go.RowKit
theorem below_drewN (w:World) (n q:Nat):Below n w (w.drewN q):=⟨rfl,rfl,rfl,Nat.le_refl _,fun _ _=>rfl⟩
theorem below_dn {B:Nat} {a w:World} (h:Below B a w) (n:Nat):Below B a (w.drewN n):=⟨h.os,h.tape,h.output,h.size,h.block⟩
abbrev Tr:=Int×Int×Int
def cellsT:List Tr→List Value
 | []=>[]
 | x :: t=>.int .i64 x.1 :: .int .i64 x.2.1 :: .int .i64 x.2.2 :: cellsT t
theorem cellsT_length:∀ L:List Tr,(cellsT L).length=L.length*3
 | []=>rfl
 | x :: t=>by
  have h:=cellsT_length t
  show (cellsT t).length+1+1+1=(t.length+1)*3
  omega
theorem cellsT_append:∀ a b:List Tr,cellsT (a++b)=cellsT a++cellsT b
 | [],b=>rfl
 | x :: t,b=>by
  show _ :: _ :: _ :: cellsT (t++b)=_ :: _ :: _ :: (cellsT t++cellsT b)
  rw [cellsT_append t b]
theorem cellsT_at:∀ (L:List Tr) (j:Nat) (h:j<L.length),(cellsT L)[j*3]?=some (.int .i64 L[j].1)∧(cellsT L)[j*3+1]?=some (.int .i64 L[j].2.1)∧(cellsT L)[j*3+2]?=some (.int .i64 L[j].2.2)
 | x :: t,0,h=>⟨rfl,rfl,rfl⟩
 | x :: t,j+1,h=>by
  obtain ⟨h1,h2,h3⟩:=cellsT_at t j (by simpa using h)
  have e:cellsT (x :: t)=.int .i64 x.1 :: .int .i64 x.2.1 :: .int .i64 x.2.2 :: cellsT t:=rfl
  rw [e,show (j+1)*3=j*3+1+1+1 by omega,show j*3+1+1+1+1=(j*3+1)+1+1+1 by omega,show j*3+1+1+1+2=(j*3+2)+1+1+1 by omega]
  simp only [List.getElem?_cons_succ,List.getElem_cons_succ]
  exact ⟨h1,h2,h3⟩
def OpsP (w:World) (A:Option Addr) (L:List Tr):Prop:=
 L=[]∨∃ b off,A=some ⟨b,off,none⟩∧∀ j (h:j<L.length),w.cell? ⟨b,off+j*3,none⟩=some (.int .i64 L[j].1)∧w.cell? ⟨b,off+j*3+1,none⟩=some (.int .i64 L[j].2.1)∧w.cell? ⟨b,off+j*3+2,none⟩=some (.int .i64 L[j].2.2)
theorem OpsP.at_ {w:World} {A:Option Addr} {L:List Tr} (h:OpsP w A L) {k:Nat} (hk:k<L.length):∃ b off,A=some ⟨b,off,none⟩∧b<w.heap.size∧w.cell? ⟨b,off+k*3,none⟩=some (.int .i64 L[k].1)∧w.cell? ⟨b,off+k*3+1,none⟩=some (.int .i64 L[k].2.1)∧w.cell? ⟨b,off+k*3+2,none⟩=some (.int .i64 L[k].2.2):=by
 rcases h with rfl | ⟨b,off,rfl,hc⟩
 ·simp at hk
 ·exact ⟨b,off,rfl,World.block_lt_of_cell? w _ (hc k hk).1,hc k hk⟩
theorem OpsP.below {w w':World} {A:Option Addr} {L:List Tr} (h:OpsP w A L) (hb:Below w.heap.size w w'):OpsP w' A L:=by
 rcases h with rfl | ⟨b,off,rfl,hc⟩
 ·exact .inl rfl
 ·refine .inr ⟨b,off,rfl,fun j hj=>?_⟩
  have e:∀ (p:Addr) (v:Value),w.cell? p=some v→w'.cell? p=some v:=fun p v hp=>(hb.cell (World.block_lt_of_cell? w _ hp)).trans hp
  obtain ⟨h1,h2,h3⟩:=hc j hj
  exact ⟨e _ _ h1,e _ _ h2,e _ _ h3⟩
theorem ops_of_row {w:World} {base:Nat} {v:Value} {L:List Tr} (h:w.ownsRow base 55 3 v L.length (cellsT L)):∃ A cap,v=.slice A L.length cap∧OpsP w A L∧L.length≤cap:=by
 rcases h.2 with ⟨rfl,h0⟩ | ⟨g,cap,cur,rfl,_,_,hle,_⟩
 ·have:L=[]:=List.eq_nil_of_length_eq_zero h0
  subst this
  exact ⟨none,0,rfl,.inl rfl,Nat.le_refl _⟩
 ·refine ⟨_,cap,rfl,.inr ⟨g,0,rfl,fun j hj=>?_⟩,hle⟩
  obtain ⟨h1,h2,h3⟩:=cellsT_at L j hj
  rw [Nat.zero_add]
  exact ⟨(h.cellAt _ (by omega)).trans h1,(h.cellAt _ (by omega)).trans h2,(h.cellAt _ (by omega)).trans h3⟩
theorem info_opd:(Tryz.prog.info? 55).map (fun i=>(i.zero,i.size,i.bytes))=some (some (.agg #[.int .i64 0,.int .i64 0,.int .i64 0]),3,24):=by kernel_rfl
theorem run_append_nothing (w:World) (base:Nat) (t ty e:TypeId) (size:Nat) (ht:Tryz.prog.underlying t=some (.slice e)) (hs:∀ w,(sizeOf e).run Tryz.prog w=.ok size w)
  (v:Value) (n:Nat) (xs:List Value) (hown:w.ownsRow base e size v n xs) (A:Option Addr) (c:Nat) :
  (Builtin.append_ #[t,t] ty #[v,.slice A 0 c]).run Tryz.prog w=.ok v w:=by
 have h0:∀ x,(loadCells x 0).run Tryz.prog w=.ok #[] w:=fun x=>by simpa using run_loadCells_list (P:=Tryz.prog) w x [] (by simp)
 rcases hown.2 with ⟨rfl,h⟩ | ⟨g,cap,cur,rfl,hb,hg,hm,hle,_⟩
 ·cases A <;> simp [Builtin.append_,run_underlying ht,hs,Builtin.lenOf,Builtin.firstCells,h0]
 ·cases A <;> simp [Builtin.append_,run_underlying ht,hs,Builtin.lenOf,Builtin.firstCells,h0,hm,storeCells] <;> omega
theorem run_append_src (w:World) (base:Nat) (t ty e:TypeId) (i:TypeInfo) (z:Value) (size bytes:Nat) (ht:Tryz.prog.underlying t=some (.slice e)) (hi:Tryz.prog.info? e=some i) (hz:i.zero=some z)
  (hsize:i.size=size) (hby:i.bytes=bytes) (hzs:z.cells.size=size) (hsz:0<size)
  (v:Value) (n:Nat) (xs:List Value) (hown:w.ownsRow base e size v n xs)
  (A:Option Addr) (m c:Nat) (news:List Value) (hl:news.length=m*size) (hnews:m=0∨∃ a,A=some a∧∀ j u,news[j]?=some u→w.cell? (a.add j)=some u) (h1:∀ u∈news,u.oneCell'=true)
  (h63:n+m≤maxLen) (hbytes:(n+m)*bytes≤140737488355328) (hbase:base≤w.heap.size) :
  ∃ v' w',(Builtin.append_ #[t,t] ty #[v,.slice A m c]).run Tryz.prog w=.ok v' w'∧w'.ownsRow base e size v' (n+m) (xs++news)∧w.grownBy w' v.ownBlock:=by
 by_cases hm:m=0
 ·subst hm
  have hn0:news=[]:=List.eq_nil_of_length_eq_zero (by omega)
  subst hn0
  refine ⟨v,w,run_append_nothing w base t ty e size ht (fun w=>?_) v n xs hown A c,?_,World.grownBy.refl _ _⟩
  ·simp [sizeOf,typeInfo,hi,hsize]
  ·simpa using hown
 ·obtain ⟨a,rfl,hn⟩:=hnews.resolve_left hm
  obtain ⟨v',w',h2,h3,h4,_⟩:=run_append_own (P:=Tryz.prog) w base t ty e i z size bytes ht hi hz hsize hby hzs hsz v n xs hown a m c news hl hn h1 h63 hbytes hbase
  exact ⟨v',w',h2,h3,h4⟩
theorem wpList_run_append {w w1:World} {t ty:TypeId} {v y v':Value} (h1:(Builtin.append_ #[t,t] ty #[v,y]).run Tryz.prog w=.ok v' w1) {ops:Array Oper} {rest:List Oper} {o:Oper} {a:Act} {Q:Exit→Act→World→Prop} (hgd:o.guard=none) (s x:Operand)
  (ho:o.op=.call {callee:=.builtin .append,args:=#[s,x],argTypes:=#[t,t]}) (hty:o.type=ty) (hs:a.eval s=v) (hx:a.eval x=y) (hk:wpList Tryz.prog ops Q rest (a.put o.dst v') w1):wpList Tryz.prog ops Q (o :: rest) a w:=by
 subst hty
 refine wpList_plain hgd fun K hK=>?_
 unfold Oper.wp
 simp [execOp,ho,resolve,invoke,builtin,hs,hx,h1,Result.andThen]
 exact hK _ _ hk
theorem cellsT_one:∀ (L:List Tr),∀ u∈cellsT L,u.oneCell'=true
 | [],u,h=>by cases h
 | x :: t,u,h=>by
  have e:cellsT (x :: t)=.int .i64 x.1 :: .int .i64 x.2.1 :: .int .i64 x.2.2 :: cellsT t:=rfl
  rw [e] at h
  rcases List.mem_cons.1 h with rfl | h
  ·rfl
  ·rcases List.mem_cons.1 h with rfl | h
   ·rfl
   ·rcases List.mem_cons.1 h with rfl | h
    ·rfl
    ·exact cellsT_one t u h
theorem cellsT_take3 (L:List Tr) (j:Nat) (u:Value) (hu:(cellsT L)[j]?=some u):∃ (k:Nat) (h:k<L.length),(j=k*3∧u=.int .i64 L[k].1)∨(j=k*3+1∧u=.int .i64 L[k].2.1)∨(j=k*3+2∧u=.int .i64 L[k].2.2):=by
 have hj:j<L.length*3:=by
  rw [← cellsT_length]
  exact (List.getElem?_eq_some_iff.1 hu).1
 have hk:j / 3<L.length:=by omega
 obtain ⟨h1,h2,h3⟩:=cellsT_at L (j / 3) hk
 refine ⟨j / 3,hk,?_⟩
 have:j % 3=0∨j % 3=1∨j % 3=2:=by omega
 rcases this with h | h | h
 ·have e:j=j / 3*3:=by omega
  rw [← e,hu] at h1
  exact .inl ⟨e,by simpa using h1⟩
 ·have e:j=j / 3*3+1:=by omega
  rw [← e,hu] at h2
  exact .inr (.inl ⟨e,by simpa using h2⟩)
 ·have e:j=j / 3*3+2:=by omega
  rw [← e,hu] at h3
  exact .inr (.inr ⟨e,by simpa using h3⟩)
theorem OpsP.news {w:World} {A:Option Addr} {L:List Tr} (h:OpsP w A L):L.length=0∨∃ a,A=some a∧∀ j u,(cellsT L)[j]?=some u→w.cell? (a.add j)=some u:=by
 rcases h with rfl | ⟨b,off,rfl,hc⟩
 ·exact .inl rfl
 ·refine .inr ⟨_,rfl,fun j u hu=>?_⟩
  have hadd:(⟨b,off,none⟩:Addr).add j=⟨b,off+j,none⟩:=by unfold Addr.add;split <;> simp_all
  rw [hadd]
  obtain ⟨k,hk,e⟩:=cellsT_take3 L j u hu
  obtain ⟨h1,h2,h3⟩:=hc k hk
  rcases e with ⟨rfl,rfl⟩ | ⟨rfl,rfl⟩ | ⟨rfl,rfl⟩
  ·exact h1
  ·exact h2
  ·exact h3
theorem cells_set:∀ (L:List Tr) (k:Nat) (a b c:Int) (h:k<L.length) (h1:L[k].1=a) (h2:L[k].2.1=b),cellsT (L.set k (a,b,c))=(cellsT L).set (k*3+2) (.int .i64 c)
 | x :: t,0,a,b,c,h,h1,h2=>by
  simp only [List.getElem_cons_zero] at h1 h2
  subst h1 h2
  rfl
 | x :: t,k+1,a,b,c,h,h1,h2=>by
  have ih:=cells_set t k a b c (by simpa using h) (by simpa using h1) (by simpa using h2)
  rw [show (k+1)*3+2=(k*3+2)+1+1+1 by omega]
  show cellsT (x :: t.set k (a,b,c))=_
  have e:∀ y:List Tr,cellsT (x :: y)=.int .i64 x.1 :: .int .i64 x.2.1 :: .int .i64 x.2.2 :: cellsT y:=fun _=>rfl
  rw [e,e,ih]
  rfl
def OwnT (w:World) (n:Nat) (v:Value) (L:List Tr):Prop:=w.ownsRow n 55 3 v L.length (cellsT L)
theorem OwnT.ops {w:World} {n:Nat} {v:Value} {L:List Tr} (h:OwnT w n v L):∃ A cap,v=.slice A L.length cap∧OpsP w A L∧L.length≤cap:=ops_of_row h
theorem OwnT.below {w w':World} {n:Nat} {v:Value} {L:List Tr} (h:OwnT w n v L) (k:Below w.heap.size w w'):OwnT w' n v L:=
 World.ownsRow.kept h (row:=none) ⟨k.os,k.tape,k.output,k.size,fun i hi _=>k.block i hi⟩ (by
  cases e:v.ownBlock with
  | none=>exact .inl rfl
  | some g=>exact .inr (by simp))
def RetOwn (w:World) (L:List Tr) (e:Ending) (w':World):Prop:=∃ v,e=.returned v∧OwnT w' w.heap.size v L∧Below w.heap.size w w'
theorem append_ops (A:Option Addr) (cap:Nat) (L:List Tr) (hl:L.length≤1000) (w:World) (hx:OpsP w A L) :
  ∃ v' w',(Builtin.append_ #[22,22] 22 #[.slice (some ⟨w.heap.size,0,none⟩) 0 0,.slice A L.length cap]).run Tryz.prog (w.alloc (.cells #[] 55))=.ok v' w'∧OwnT w' w.heap.size v' L∧Below w.heap.size w w':=by
 obtain ⟨i0,hi,hz0,hz1,hz2⟩:=info_parts info_opd
 have hb:Below w.heap.size w (w.alloc (.cells #[] 55)):=(Below.refl _ _).alloc (Nat.le_refl _) _
 have hown:=World.ownsRow_made (base:=w.heap.size) (e:=55) (size:=3) w #[] 0 (Nat.le_refl _) (by unfold maxLen;omega) rfl
 obtain ⟨v',w',k1,k2,k3⟩:=run_append_src (w.alloc (.cells #[] 55)) w.heap.size 22 22 55 i0 _ 3 24 Tryz.underlying22 hi hz0 hz1 hz2 rfl (by decide) _ 0 [] hown A L.length cap (cellsT L)
  (cellsT_length L) (hx.below hb).news (cellsT_one L) (by unfold maxLen;omega) (by omega) (by simp)
 rw [List.nil_append,Nat.zero_add] at k2
 exact ⟨v',w',k1,k2,hb.grown k3 (by simp) fun k hk=>(hown.lt k hk).1⟩
theorem cloneO_any (A:Option Addr) (cap:Nat) (L:List Tr) (hl:L.length≤1000) (w:World) (hx:OpsP w A L) :
  Calls Tryz.prog 48 #[.slice A L.length cap] w (RetOwn w L):=by
 cases A with
 | none=>
  obtain rfl:L=[]:=by
   rcases hx with h | ⟨b,off,h,_⟩
   ·exact h
   ·cases h
  clear hx
  have hnil:=fun w=>Lib.run_eql_slice_nil (P:=Tryz.prog) w 22 55 none 0 cap 0 0 Tryz.underlying22
  go_enter Tryz.func48,Tryz.ntmps48
  go_wp2
  go_ret
  exact ⟨_,rfl,World.ownsRow_nil _ _ _ _,Below.refl _ _⟩
 | some a=>
  obtain ⟨v',w',k1,k2,k3⟩:=append_ops (some a) cap L hl w hx
  have N:Hid (RetOwn w L (.returned v') w'):=⟨v',rfl,k2,k3⟩
  have K:=Lib.hid k1
  clear hx k1 k2 k3
  go_enter Tryz.func48,Tryz.ntmps48
  have hnil:=fun w=>Lib.run_eql_slice_nil (P:=Tryz.prog) w 22 55 (some a) L.length cap 0 0 Tryz.underlying22
  go_wp2_with (at_builtin;refine wpList_run_append K.out rfl _ _ rfl rfl rfl rfl ?_)
  go_ret
  exact N.out
def Bx (w:World) (b:Nat) (s:ByteArray) (A:Option Addr) (len cap:Nat):Prop:=w.cell? ⟨b,0,none⟩=some (.string s)∧w.cell? ⟨b,1,none⟩=some (.slice A len cap)
theorem Bx.lt {w:World} {b:Nat} {s:ByteArray} {A:Option Addr} {len cap:Nat} (h:Bx w b s A len cap):b<w.heap.size:=World.block_lt_of_cell? w _ h.1
theorem Bx.below {w w':World} {b:Nat} {s:ByteArray} {A:Option Addr} {len cap B:Nat} (h:Bx w b s A len cap) (hb:Below B w w') (hB:b<B):Bx w' b s A len cap:=
 ⟨(hb.cell hB).trans h.1,(hb.cell hB).trans h.2⟩
theorem Bx.all {w w':World} {b:Nat} {s:ByteArray} {A:Option Addr} {len cap:Nat} (h:Bx w b s A len cap) (hb:Below w.heap.size w w'):Bx w' b s A len cap:=h.below hb h.lt
theorem Bx.new (w:World) (s:ByteArray) (A:Option Addr) (len cap:Nat) (t:TypeId):Bx (w.alloc (.cells #[.string s,.slice A len cap] t)) w.heap.size s A len cap:=⟨by simp [go_sem],by simp [go_sem]⟩
theorem row_mono {w:World} {base base':Nat} {e:TypeId} {size:Nat} {v:Value} {n:Nat} {xs:List Value} (h:w.ownsRow base e size v n xs) (hb:base'≤base):w.ownsRow base' e size v n xs:=by
 refine ⟨h.1,?_⟩
 rcases h.2 with h2 | ⟨g,cap,cur,h1,h2,h3⟩
 ·exact .inl h2
 ·exact .inr ⟨g,cap,cur,h1,Nat.le_trans hb h2,h3⟩
theorem row_set {w:World} {base:Nat} {e:TypeId} {size n:Nat} {v:Value} {xs:List Value} (h:w.ownsRow base e size v n xs) {p:Addr} (hp:p.block<base) (u:Value):(w.setCell p u).ownsRow base e size v n xs:=
 World.ownsRow.kept h (row:=some p.block) ⟨rfl,rfl,rfl,by simp,fun k _ hk=>heap_setCell_other w p k u (fun e=>hk (by rw [e]))⟩ (by
  cases e:v.ownBlock with
  | none=>exact .inl rfl
  | some g=>exact .inr (fun e'=>by have:=(h.lt g e).1;cases e';omega))
def RetIns (w:World) (s:ByteArray) (L:List Tr) (e:Ending) (w':World):Prop:=∃ v,e=.returned (.agg #[.string s,v])∧OwnT w' w.heap.size v L∧Below w.heap.size w w'
theorem OwnT.lift {w:World} {n m:Nat} {v:Value} {L:List Tr} (h:OwnT w n v L) (k:m≤n):OwnT w m v L:=row_mono h k
def Rz (w:World) (b:Nat):Prop:=w.heap[b]?=some (.cells #[.string ⟨#[]⟩,.slice none 0 0] 24 (0,0))
def Ri (w:World) (b:Nat) (s:ByteArray) (v:Value):Prop:=w.heap[b]?=some (.cells #[.string s,v] 24 (0,0))
theorem Rz.cells {w:World} {b:Nat} (h:Rz w b):w.cell? ⟨b,0,none⟩=some (.string ⟨#[]⟩)∧w.cell? ⟨b,1,none⟩=some (.slice none 0 0)∧w.frozen? ⟨b,0,none⟩=false∧w.frozen? ⟨b,1,none⟩=false:=
 ⟨by rw [Lib.cell_of_heap h];rfl,by rw [Lib.cell_of_heap h];rfl,Lib.frozen_of_heap h 0,Lib.frozen_of_heap h 1⟩
theorem Ri.cells {w:World} {b:Nat} {s:ByteArray} {v:Value} (h:Ri w b s v):w.cell? ⟨b,0,none⟩=some (.string s)∧w.cell? ⟨b,1,none⟩=some v:=
 ⟨by rw [Lib.cell_of_heap h];rfl,by rw [Lib.cell_of_heap h];rfl⟩
theorem Rz.set {w:World} {b:Nat} (h:Rz w b) (s:ByteArray) (v:Value):((w.setCell ⟨b,0,none⟩ (.string s)).setCell ⟨b,1,none⟩ v).cell? ⟨b,0,none⟩=some (.string s)∧((w.setCell ⟨b,0,none⟩ (.string s)).setCell ⟨b,1,none⟩ v).cell? ⟨b,1,none⟩=some v:=by
 obtain ⟨h0,h1,-,-⟩:=h.cells
 exact ⟨by simp [go_sem,h0],by simp [go_sem,h1]⟩
theorem Rz.done {w:World} {b:Nat} (h:Rz w b) (s:ByteArray) (v:Value):Ri ((w.setCell ⟨b,0,none⟩ (.string s)).setCell ⟨b,1,none⟩ v) b s v:=by
 have h1:=heap_setCell_same w b 0 _ _ (.string s) h
 have h2:=heap_setCell_same (w.setCell ⟨b,0,none⟩ (.string s)) b 1 _ _ v h1
 exact h2
theorem OwnT.form {w:World} {b:Nat} {v:Value} {L:List Tr} (h:OwnT w b v L) (h0:0<L.length):∃ g cap,v=.slice (some ⟨g,0,none⟩) L.length cap∧b≤g∧(∃ cur,w.heap[g]?=some (.cells cur 55 (0,0)))∧
  (∀ j (hj:j<L.length),w.cell? ⟨g,j*3,none⟩=some (.int .i64 L[j].1)∧w.cell? ⟨g,j*3+1,none⟩=some (.int .i64 L[j].2.1)∧w.cell? ⟨g,j*3+2,none⟩=some (.int .i64 L[j].2.2))∧∀ j,w.frozen? ⟨g,j,none⟩=false:=by
 rcases h.2 with ⟨_,h1⟩ | ⟨g,cap,cur,rfl,hb,hg,_⟩
 ·omega
 ·refine ⟨g,cap,rfl,hb,⟨cur,hg⟩,fun j hj=>?_,fun j=>World.ownsRow.frozenAt h j⟩
  obtain ⟨h1,h2,h3⟩:=cellsT_at L j hj
  exact ⟨(World.ownsRow.cellAt h _ (by omega)).trans h1,(World.ownsRow.cellAt h _ (by omega)).trans h2,(World.ownsRow.cellAt h _ (by omega)).trans h3⟩
theorem OwnT.put {w:World} {b g cap n:Nat} {L L':List Tr} (h:OwnT w b (.slice (some ⟨g,0,none⟩) n cap) L) (hn:L.length=n) (hn':L'.length=n) (j:Nat) (u:Value) (e:(cellsT L).set j u=cellsT L'):OwnT (w.setCell ⟨g,j,none⟩ u) b (.slice (some ⟨g,0,none⟩) n cap) L':=by
 unfold OwnT at h ⊢
 rw [hn] at h
 rw [hn',← e]
 exact (World.ownsRow.stored h j u).1
theorem Ri.apart {w:World} {b g:Nat} {s:ByteArray} {v:Value} {cur:Array Value} (h:Ri w b s v) (hg:w.heap[g]?=some (.cells cur 55 (0,0))):g≠b:=by
 rintro rfl
 rw [show w.heap[g]?=_ from h] at hg
 simp at hg
theorem clone_n {A:Option Addr} {cap n:Nat} {L:List Tr} (h:∀ w,OpsP w A L→Calls Tryz.prog 48 #[.slice A n cap] w (RetOwn w L)) (hn:L.length=n) (w:World) (H:OpsP w A L) :
  Calls Tryz.prog 48 #[.slice A n cap] w fun e w'=>∃ A3 cap3,e=.returned (.slice A3 n cap3)∧OwnT w' w.heap.size (.slice A3 n cap3) L∧Below w.heap.size w w':=by
 refine (h w H).mono ?_
 rintro e w' ⟨v,rfl,hO,hb⟩
 obtain ⟨A3,cap3,rfl,-,-⟩:=hO.ops
 rw [hn] at hO ⊢
 exact ⟨A3,cap3,rfl,hO,hb⟩
theorem strB_ne {a b:ByteArray} (h:a≠b):(a.toList == b.toList)=false:=beq_eq_false_iff_ne.2 fun e=>h (by
 rw [ByteArray.toList_eq,ByteArray.toList_eq] at e
 exact ByteArray.ext (Array.toList_inj.1 e))
theorem strB_eq (a:ByteArray):(a.toList == a.toList)=true:=beq_self_eq_true _
theorem tr_ne {a b:Tr} (h:a≠b):¬a.1=b.1∨(a.1=b.1∧¬a.2.1=b.2.1)∨(a.1=b.1∧a.2.1=b.2.1∧¬a.2.2=b.2.2):=by
 obtain ⟨a1,a2,a3⟩:=a
 obtain ⟨b1,b2,b3⟩:=b
 by_cases h1:a1=b1
 ·by_cases h2:a2=b2
  ·refine .inr (.inr ⟨h1,h2,fun h3=>h (by simp only at h3;rw [h1,h2,h3])⟩)
  ·exact .inr (.inl ⟨h1,h2⟩)
 ·exact .inl h1
theorem equalO_any (A1 A2:Option Addr) (c1 c2:Nat) (L1 L2:List Tr) (h1:L1.length≤maxLen) (h2:L2.length≤maxLen) (w:World) (H1:OpsP w A1 L1) (H2:OpsP w A2 L2) :
  Calls Tryz.prog 139 #[.slice A1 L1.length c1,.slice A2 L2.length c2] w fun e w'=>e=.returned (.bool (decide (L1=L2)))∧Below w.heap.size w w':=by
 unfold maxLen at h1 h2
 by_cases hl:L1.length=L2.length
 ·have X1:=Lib.hid H1
  have X2:=Lib.hid H2
  have HL:=Lib.hid hl
  obtain ⟨n,hn⟩:∃ n,L1.length=n:=⟨_,rfl⟩
  have HN:=Lib.hid hn
  rw [hn] at h1
  rw [← hl,hn]
  clear H1 H2 hl h2 hn
  go_enter Tryz.func139,Tryz.ntmps139
  go_wp2
  go_loopw [13] (fun i wr=>∃ j:Nat,j≤n∧i=.int .i64 j∧Hid (∀ k,k<j→∀ (a:k<L1.length) (b:k<L2.length),L1[k]=L2[k])∧Hid (Below w.heap.size w wr)) (fun i _=>n - (intOf i).toNat)
  case atStart=>exact ⟨0,Nat.zero_le _,rfl,fun k h=>by omega,Below.refl _ _⟩
  case round=>
   obtain ⟨j,hj,rfl,R,B⟩:=hrel
   by_cases hlt:j<n
   ·have hj1:j<L1.length:=by have:=HN.out;omega
    have hj2:j<L2.length:=by have:=HL.out;omega
    obtain ⟨b1,o1,hA1,-,p0,p1,p2⟩:=(X1.out.below B.out).at_ hj1
    obtain ⟨b2,o2,hA2,-,q0,q1,q2⟩:=(X2.out.below B.out).at_ hj2
    subst hA1
    subst hA2
    by_cases he:L1[j]=L2[j]
    ·have R2:Hid (∀ k,k<j+1→∀ (a:k<L1.length) (b:k<L2.length),L1[k]=L2[k]):=fun k hk a b=>by
      by_cases e:k=j
      ·subst e;exact he
      ·exact R.out k (by omega) a b
     rw [he] at p0 p1 p2
     obtain ⟨⟨x0,x1,x2⟩,hx⟩:∃ x,L2[j]=x:=⟨_,rfl⟩
     rw [hx] at p0 p1 p2 q0 q1 q2
     simp only at p0 p1 p2 q0 q1 q2
     clear he hx hj1 hj2 R
     go_wp2
     go_quiet (fail)
     have B2:=fun q=>Lib.hid (B.out.trans (below_drewN wr w.heap.size q))
     go_wp2
     go_roundw
     case rel=>exact ⟨j+1,by omega,by go_num,R2.out,(B2 _).out⟩
     case measure=>simp [intOf];omega
    ·have T:Hid (false=decide (L1=L2)):=(decide_eq_false (fun e=>he (by simp only [e]))).symm
     have hne:=tr_ne he
     obtain ⟨⟨x0,x1,x2⟩,hx⟩:∃ x,L1[j]=x:=⟨_,rfl⟩
     obtain ⟨⟨y0,y1,y2⟩,hy⟩:∃ y,L2[j]=y:=⟨_,rfl⟩
     rw [hx] at p0 p1 p2 hne
     rw [hy] at q0 q1 q2 hne
     simp only at p0 p1 p2 q0 q1 q2 hne
     have B2:=fun q=>Lib.hid (B.out.trans (below_drewN wr w.heap.size q))
     clear he hx hy hj1 hj2 R
     rcases hne with hne | ⟨rfl,hne⟩ | ⟨rfl,rfl,hne⟩
     all_goals
      go_wp2
      go_quiet (fail)
      go_wp2
      go_ret
      exact ⟨ret_bool T.out,(B2 _).out⟩
   ·have T:Hid (true=decide (L1=L2)):=by
     refine (decide_eq_true (List.ext_getElem HL.out fun k a b=>?_)).symm
     exact R.out k (by have:=HN.out;omega) a b
    clear R
    go_wp2
    go_ret
    exact ⟨ret_bool T.out,B.out⟩
 ·have T:Hid (false=decide (L1=L2)):=(decide_eq_false (fun e=>hl (by rw [e]))).symm
  have hl':((L1.length:Int) == (L2.length:Int))=false:=beq_eq_false_iff_ne.2 (by omega)
  have hl2:¬((L1.length:Int)=(L2.length:Int)):=by omega
  clear H1 H2
  go_enter Tryz.func139,Tryz.ntmps139
  go_wp2
  go_ret
  exact ⟨ret_bool T.out,Below.refl _ _⟩
theorem make_any (s:ByteArray) (hs:s.size≤maxLen) (A:Option Addr) (cap:Nat) (L:List Tr) (hL:L.length≤1000) (w:World) (H:OpsP w A L) :
  Calls Tryz.prog 26 #[.string s,.slice A L.length cap] w (RetIns w (upB s) L):=by
 have UP:=Lib.hid (upper_any s hs)
 have CL:=Lib.hid (cloneO_any A cap L hL)
 obtain ⟨u,hu⟩:∃ u,upB s=u:=⟨_,rfl⟩
 rw [hu] at UP ⊢
 have B0:Hid (Below w.heap.size w (w.alloc (.cells #[.string ⟨#[]⟩,.slice none 0 0] 24))):=(Below.refl _ _).alloc (Nat.le_refl _) _
 have X0:=Lib.hid (H.below B0.out)
 have c0:(w.alloc (.cells #[.string ⟨#[]⟩,.slice none 0 0] 24)).heap[w.heap.size]?=some (.cells #[.string ⟨#[]⟩,.slice none 0 0] 24 (0,0)):=heap_alloc_new w _
 have C0:=Lib.hid c0
 clear H hu c0
 go_enter Tryz.func26,Tryz.ntmps26
 go_wp2_with fail
 refine (UP.out _).mono ?_
 rintro e w1 ⟨rfl,h1⟩
 have X1:=Lib.hid (X0.out.below h1)
 have B1:=Lib.hid (B0.out.trans (h1.mono B0.out.size))
 have C1:Hid (w1.heap[w.heap.size]?=some (.cells #[.string ⟨#[]⟩,.slice none 0 0] 24 (0,0))):=(h1.block _ (by simp)).trans C0.out
 have Z1:Hid (w.heap.size<w1.heap.size):=by have:=h1.size;simp at this;show w.heap.size<w1.heap.size;omega
 clear h1 X0 B0 C0
 go_wp2_with fail
 refine (CL.out _ X1.out).mono ?_
 rintro e w2 ⟨v,rfl,hO,h2⟩
 obtain ⟨A',cap',rfl,-,-⟩:=hO.ops
 have O2:=Lib.hid hO
 have B2:=Lib.hid (B1.out.trans (h2.mono B1.out.size))
 have C2:Hid (w2.heap[w.heap.size]?=some (.cells #[.string ⟨#[]⟩,.slice none 0 0] 24 (0,0))):=(h2.block _ Z1.out).trans C1.out
 clear h2 X1 B1 C1 hO
 have d0:w2.cell? ⟨w.heap.size,0,none⟩=some (.string ⟨#[]⟩):=by rw [Lib.cell_of_heap C2.out];rfl
 have d1:w2.cell? ⟨w.heap.size,1,none⟩=some (.slice none 0 0):=by rw [Lib.cell_of_heap C2.out];rfl
 have f0:w2.frozen? ⟨w.heap.size,0,none⟩=false:=Lib.frozen_of_heap C2.out 0
 have f1:w2.frozen? ⟨w.heap.size,1,none⟩=false:=Lib.frozen_of_heap C2.out 1
 have F:Hid (RetIns w u L (.returned (.agg #[.string u,.slice A' L.length cap'])) ((w2.setCell ⟨w.heap.size,0,none⟩ (.string u)).setCell ⟨w.heap.size,1,none⟩ (.slice A' L.length cap'))):=
  ⟨_,rfl,row_mono (row_set (row_set O2.out (p:=⟨w.heap.size,0,none⟩) Z1.out _) (p:=⟨w.heap.size,1,none⟩) Z1.out _) (Nat.le_of_lt Z1.out),(B2.out.setCell (p:=⟨w.heap.size,0,none⟩) (Nat.le_refl _) _).setCell (p:=⟨w.heap.size,1,none⟩) (Nat.le_refl _) _⟩
 go_wp2
 obtain ⟨w3,hw3⟩:∃ w3,((w2.setCell ⟨w.heap.size,0,none⟩ (.string u)).setCell ⟨w.heap.size,1,none⟩ (.slice A' L.length cap'))=w3:=⟨_,rfl⟩
 have e0:w3.cell? ⟨w.heap.size,0,none⟩=some (.string u):=by rw [← hw3];simp [go_sem,d0]
 have e1:w3.cell? ⟨w.heap.size,1,none⟩=some (.slice A' L.length cap'):=by rw [← hw3];simp [go_sem,d1]
 rw [hw3] at F ⊢
 refine bodyPost_ret (v:=.agg #[.string u,.slice A' L.length cap']) ?_ rfl F.out
 simp [results,Tryz.results26,go_sem,e0,e1]
end Go.Proofs.YtajlleeonddinaaGreatDoor
namespace Go.Proofs.YtajlleeonddinaaGreatDoor
open Go.RowKit
abbrev Str:=List UInt8
def ixL (sub:Str):Str→Option Nat
 | []=>if sub.isEmpty then some 0 else none
 | b :: l=>if sub.isPrefixOf (b :: l) then some 0 else (ixL sub l).map (· + 1)
theorem index_ixL (sub:Str):∀ l:Str,Lib.index l sub=match ixL sub l with | none=>-1 | some n=>(n:Int)
 | []=>by
  unfold Lib.index ixL
  cases sub.isEmpty <;> simp
 | b :: l=>by
  have ih:=index_ixL sub l
  unfold Lib.index ixL
  rw [ih]
  cases sub.isPrefixOf (b :: l)
  ·cases ixL sub l <;> simp <;> omega
  ·simp
def cutL (sub l:Str):Str×Str×Bool:=match ixL sub l with
 | none=>(l,[],false)
 | some n=>(l.take n,l.drop (n+sub.length),true)
theorem cut_cutL (l sub:Str):Lib.cut l sub=cutL sub l:=by
 unfold Lib.cut cutL
 rw [index_ixL]
 cases h:ixL sub l <;> simp
theorem ixL_le (sub:Str):∀ (l:Str) (n:Nat),ixL sub l=some n→n+sub.length≤l.length
 | [],n,h=>by
  unfold ixL at h
  cases sub with
  | nil=>simp at h;subst h;simp
  | cons=>simp at h
 | b :: l,n,h=>by
  unfold ixL at h
  split at h
  ·next hp=>
   have:=List.IsPrefix.length_le (List.isPrefixOf_iff_prefix.1 hp)
   simp at h
   subst h
   simpa using this
  ·cases hx:ixL sub l with
   | none=>rw [hx] at h;simp at h
   | some m=>
    rw [hx] at h
    have ih:=ixL_le sub l m hx
    simp at h
    simp
    omega
theorem cutL_lt (sub l:Str) (hs:0<sub.length) (hl:0<l.length):(cutL sub l).2.1.length<l.length∧(cutL sub l).1.length≤l.length:=by
 unfold cutL
 cases h:ixL sub l with
 | none=>simpa using hl
 | some n=>
  have:=ixL_le sub l n h
  simp
  omega
abbrev Pat:=Str×Str
def rowP (row:Str):Pat:=((cutL [32] row).1,(cutL [32] row).2.1)
def patsF:Nat→Str→List Pat
 | 0,_=>[]
 | n+1,l=>if l.isEmpty then [] else rowP (cutL [59,32] l).1 :: patsF n (cutL [59,32] l).2.1
def mainS:Str:=[48,48,48,48,48,48,48,48,32,78,79,80,59,32,48,48,48,48,49,48,48,48,32,69,88,32,65,70,44,65,70,39,59,32,48,48,48,49,48,48,
 48,48,32,68,74,78,90,32,101,59,32,48,48,48,49,49,48,48,48,32,74,82,32,101,59,32,48,48,49,107,107,48,48,48,32,74,82,32,107,44,
 101,59,32,48,48,112,112,48,48,48,49,32,76,68,32,112,44,119,59,32,48,48,112,112,49,48,48,49,32,65,68,68,32,72,76,44,112,59,32,48,
 48,48,48,48,48,49,48,32,76,68,32,40,66,67,41,44,65,59,32,48,48,48,49,48,48,49,48,32,76,68,32,40,68,69,41,44,65,59,32,48,
 48,49,48,48,48,49,48,32,76,68,32,40,119,41,44,72,76,59,32,48,48,49,49,48,48,49,48,32,76,68,32,40,119,41,44,65,59,32,48,48,
 48,48,49,48,49,48,32,76,68,32,65,44,40,66,67,41,59,32,48,48,48,49,49,48,49,48,32,76,68,32,65,44,40,68,69,41,59,32,48,48,
 49,48,49,48,49,48,32,76,68,32,72,76,44,40,119,41,59,32,48,48,49,49,49,48,49,48,32,76,68,32,65,44,40,119,41,59,32,48,48,112,
 112,48,48,49,49,32,73,78,67,32,112,59,32,48,48,112,112,49,48,49,49,32,68,69,67,32,112,59,32,48,48,114,114,114,49,48,48,32,73,78,
 67,32,114,59,32,48,48,114,114,114,49,48,49,32,68,69,67,32,114,59,32,48,48,114,114,114,49,49,48,32,76,68,32,114,44,110,59,32,48,48,
 48,48,48,49,49,49,32,82,76,67,65,59,32,48,48,48,48,49,49,49,49,32,82,82,67,65,59,32,48,48,48,49,48,49,49,49,32,82,76,65,
 59,32,48,48,48,49,49,49,49,49,32,82,82,65,59,32,48,48,49,48,48,49,49,49,32,68,65,65,59,32,48,48,49,48,49,49,49,49,32,67,
 80,76,59,32,48,48,49,49,48,49,49,49,32,83,67,70,59,32,48,48,49,49,49,49,49,49,32,67,67,70,59,32,48,49,49,49,48,49,49,48,
 32,72,65,76,84,59,32,48,49,114,114,114,115,115,115,32,76,68,32,114,44,115,59,32,49,48,97,97,97,115,115,115,32,97,32,115,59,32,49,49,
 99,99,99,48,48,48,32,82,69,84,32,99,59,32,49,49,113,113,48,48,48,49,32,80,79,80,32,113,59,32,49,49,48,48,49,48,48,49,32,82,
 69,84,59,32,49,49,48,49,49,48,48,49,32,69,88,88,59,32,49,49,49,48,49,48,48,49,32,74,80,32,40,72,76,41,59,32,49,49,49,49,
 49,48,48,49,32,76,68,32,83,80,44,72,76,59,32,49,49,99,99,99,48,49,48,32,74,80,32,99,44,119,59,32,49,49,48,48,48,48,49,49,
 32,74,80,32,119,59,32,49,49,48,49,48,48,49,49,32,79,85,84,32,40,110,41,44,65,59,32,49,49,48,49,49,48,49,49,32,73,78,32,65,
 44,40,110,41,59,32,49,49,49,48,48,48,49,49,32,69,88,32,40,83,80,41,44,72,76,59,32,49,49,49,48,49,48,49,49,32,69,88,32,68,
 69,44,72,76,59,32,49,49,49,49,48,48,49,49,32,68,73,59,32,49,49,49,49,49,48,49,49,32,69,73,59,32,49,49,99,99,99,49,48,48,
 32,67,65,76,76,32,99,44,119,59,32,49,49,113,113,48,49,48,49,32,80,85,83,72,32,113,59,32,49,49,48,48,49,49,48,49,32,67,65,76,
 76,32,119,59,32,49,49,97,97,97,49,49,48,32,97,32,110,59,32,49,49,116,116,116,49,49,49,32,82,83,84,32,116]
def cbS:Str:=[48,48,111,111,111,115,115,115,32,111,32,115,59,32,48,49,98,98,98,115,115,115,32,66,73,84,32,98,44,115,59,32,49,48,98,98,98,115,115,115,
 32,82,69,83,32,98,44,115,59,32,49,49,98,98,98,115,115,115,32,83,69,84,32,98,44,115]
def edS:Str:=[48,49,49,49,48,48,48,48,32,73,78,32,40,67,41,59,32,48,49,114,114,114,48,48,48,32,73,78,32,114,44,40,67,41,59,32,48,49,49,49,
 48,48,48,49,32,79,85,84,32,40,67,41,44,48,59,32,48,49,114,114,114,48,48,49,32,79,85,84,32,40,67,41,44,114,59,32,48,49,112,112,
 48,48,49,48,32,83,66,67,32,72,76,44,112,59,32,48,49,112,112,49,48,49,48,32,65,68,67,32,72,76,44,112,59,32,48,49,112,112,48,48,
 49,49,32,76,68,32,40,119,41,44,112,59,32,48,49,112,112,49,48,49,49,32,76,68,32,112,44,40,119,41,59,32,48,49,120,120,120,49,48,48,
 32,78,69,71,59,32,48,49,48,48,49,49,48,49,32,82,69,84,73,59,32,48,49,120,120,120,49,48,49,32,82,69,84,78,59,32,48,49,120,48,
 120,49,49,48,32,73,77,32,48,59,32,48,49,120,49,48,49,49,48,32,73,77,32,49,59,32,48,49,120,49,49,49,49,48,32,73,77,32,50,59,
 32,48,49,48,48,48,49,49,49,32,76,68,32,73,44,65,59,32,48,49,48,48,49,49,49,49,32,76,68,32,82,44,65,59,32,48,49,48,49,48,
 49,49,49,32,76,68,32,65,44,73,59,32,48,49,48,49,49,49,49,49,32,76,68,32,65,44,82,59,32,48,49,49,48,48,49,49,49,32,82,82,
 68,59,32,48,49,49,48,49,49,49,49,32,82,76,68,59,32,49,48,49,48,48,48,48,48,32,76,68,73,59,32,49,48,49,48,48,48,48,49,32,
 67,80,73,59,32,49,48,49,48,48,48,49,48,32,73,78,73,59,32,49,48,49,48,48,48,49,49,32,79,85,84,73,59,32,49,48,49,48,49,48,
 48,48,32,76,68,68,59,32,49,48,49,48,49,48,48,49,32,67,80,68,59,32,49,48,49,48,49,48,49,48,32,73,78,68,59,32,49,48,49,48,
 49,48,49,49,32,79,85,84,68,59,32,49,48,49,49,48,48,48,48,32,76,68,73,82,59,32,49,48,49,49,48,48,48,49,32,67,80,73,82,59,
 32,49,48,49,49,48,48,49,48,32,73,78,73,82,59,32,49,48,49,49,48,48,49,49,32,79,84,73,82,59,32,49,48,49,49,49,48,48,48,32,
 76,68,68,82,59,32,49,48,49,49,49,48,48,49,32,67,80,68,82,59,32,49,48,49,49,49,48,49,48,32,73,78,68,82,59,32,49,48,49,49,
 49,48,49,49,32,79,84,68,82]
def listS (page:Int):Str:=if page=0∨page=3∨page=4 then mainS else if page=1∨page=5∨page=6 then cbS else if page=2 then edS else []
def mainP:List Pat:=patsF 60 mainS
def cbP:List Pat:=patsF 60 cbS
def edP:List Pat:=patsF 60 edS
end Go.Proofs.YtajlleeonddinaaGreatDoor
namespace Go.Mixed
open Go
def QF:Exit→Act→World→Prop:=fun _ _ _=>False
theorem not_letsOut:¬LetsOut QF:=fun ⟨_,_,h⟩=>h
section
variable {P:Program} {ops:Array Oper} {md:Region.Mode}
theorem upon_QF {o:Oper} {a:Act} {K K':Act→World→Prop} {Q:Exit→Act→World→Prop} {r:Result Next} (hK:∀ a w,K a w→K' a w) (h:o.upon P a K QF r):o.upon P a K' Q r:=by
 cases r with
 | ok n w'=>
  cases n <;> simp only [Oper.upon] at h ⊢
  case value v=>exact hK _ _ h
  case skip=>exact hK _ _ h
  case defer d=>exact hK _ _ h
  case enter f args=>
   refine h.mono fun e w'' he=>?_
   cases e with
   | returned v=>exact hK _ _ he
   | panicked c=>exact (he:False).elim
   | outgrown=>exact absurd he not_letsOut
  case row row args=>exact h.mono fun v w'' hv=>hK _ _ hv
 | halt x w'=>
  cases x <;> simp only [Oper.upon] at h
  case panic v=>exact (h:False).elim
theorem wpOp_QF {i:Nat} {a:Act} {w:World} {K K':Act→World→Prop} {Q:Exit→Act→World→Prop} (hK:∀ a w,K a w→K' a w) (h:wpOp P ops QF i K a w):wpOp P ops Q i K' a w:=by
 unfold wpOp at *
 split
 ·rename_i ho;simp only [ho] at h;exact hK _ _ h
 ·rename_i o ho
  simp only [ho] at h
  split
  ·rename_i hw
   simp only [hw,if_true] at h
   rcases h with h | h
   ·exact .inl (upon_QF hK h)
   ·exact absurd h.2 not_letsOut
  ·rename_i hw;simp only [hw] at h;exact hK _ _ h
def wpAnyC (P:Program) (md:Region.Mode) (ops:Array Oper) (n:Nat) (C:World→Prop) (L:Array Bool→Act→World→Prop):Nat→Array Bool→Act→World→Prop
 | 0,listed,a,w=>C w∧L listed a w
 | f+1,listed,a,w=>C w∧Region.ready md ops listed≠[]∧∀ i∈Region.ready md ops listed,i<n∧wpOp P ops QF i (wpAnyC P md ops n C L f (listed.setIfInBounds i true)) a w
theorem wpAnyC_C {n:Nat} {C:World→Prop} {L:Array Bool→Act→World→Prop} {f:Nat} {listed:Array Bool} {a:Act} {w:World} (h:wpAnyC P md ops n C L f listed a w):C w:=by
 cases f <;> exact h.1
theorem wpAny_of_headC {n g:Nat} {C:World→Prop} {L:Array Bool→Act→World→Prop} {Q':Exit→Act→World→Prop} (hL:∀ listed a w,L listed a w→wpAny P md ops Q' g listed a w) :
  ∀ (f:Nat) (listed:Array Bool) (a:Act) (w:World),wpAnyC P md ops n C L f listed a w→wpAny P md ops Q' (f+g) listed a w
 | 0,listed,a,w,h=>by rw [Nat.zero_add];exact hL _ _ _ h.2
 | f+1,listed,a,w,h=>by
  rw [show f+1+g=(f+g)+1 by omega]
  exact ⟨fun h0=>absurd h0 h.2.1,fun i hi=>wpOp_QF (fun a' w' h'=>wpAny_of_headC hL f _ a' w' h') (h.2.2 i hi).2⟩
def Pure (P:Program) (ops:Array Oper) (C:World→Prop) (o:Oper) (v:Value) (a:Act):Prop:=
 (Region.wanted o (yielded ops a.tmps)=true∧∀ w,C w→(execOp a.eval o).run P w=.ok (.value v) w)∨
 (Region.wanted o (yielded ops a.tmps)=false∧v=undef)
theorem Pure.of_same {C:World→Prop} {o:Oper} {v:Value} {a a':Act} (hy:Pure P ops C o v a) (he:execOp a'.eval o=execOp a.eval o)
  (hw:Region.wanted o (yielded ops a'.tmps)=Region.wanted o (yielded ops a.tmps)):Pure P ops C o v a':=by
 unfold Pure at *
 rw [he,hw]
 exact hy
theorem Pure.wpOp {C:World→Prop} {i:Nat} {o:Oper} {v:Value} {a:Act} {w:World} {K:Act→World→Prop} {Q:Exit→Act→World→Prop} (hi:ops[i]?=some o) (hy:Pure P ops C o v a) (hC:C w) (h:K (a.put o.dst v) w):wpOp P ops Q i K a w:=by
 unfold Go.wpOp
 simp only [hi]
 rcases hy with ⟨hw,hv⟩ | ⟨hw,rfl⟩
 ·simp only [hw,if_true]
  left
  unfold Oper.wp
  rw [hv w hC]
  exact h
 ·simp only [hw,Bool.false_eq_true,if_false];exact h
theorem put_defers (a:Act) (ds:List Deferred) (x:Option Tmp) (v:Value):({a with defers:=ds}.put x v)={(a.put x v) with defers:=ds}:=by
 cases x <;> rfl
theorem defers_put (a:Act) (x:Option Tmp) (v:Value):(a.put x v).defers=a.defers:=by
 cases x <;> rfl
theorem wpOp_put {C:World→Prop} {j:Nat} {oi oj:Oper} {v:Value} (hj:ops[j]?=some oj) (hap:oi.apart ops oj=true)
  (hsi:∀ cs b,oi.op≠.select cs b) (hsj:∀ cs b,oj.op≠.select cs b) {K:Act→World→Prop} {a:Act} {w:World}
  (hy:Pure P ops C oi v a) (h:wpOp P ops QF j K (a.put oi.dst v) w) :
  wpOp P ops QF j (fun a' w'=>Pure P ops C oi v a'∧K (a'.put oi.dst v) w') a w:=by
 obtain ⟨h1,h2,h3⟩:=Oper.apart_spec hap
 have keep:∀ (a:Act),Pure P ops C oi v a→∀ u,Pure P ops C oi v (a.put oj.dst u):=fun a hy u=>
  hy.of_same (execOp_put oi hsi a oj.dst u h3) (wanted_put oi a oj.dst u h3)
 unfold wpOp at *
 simp only [hj] at *
 rw [wanted_put oj a oi.dst v h1] at h
 split
 ·rename_i hw
  simp only [hw,if_true] at h
  rcases h with h | h
  ·left
   unfold Oper.wp at *
   rw [execOp_put oj hsj a oi.dst v h1] at h
   generalize (execOp a.eval oj).run P w=r at *
   cases r with
   | ok n w'=>
    cases n <;> simp only [Oper.upon] at h ⊢
    case value u=>exact ⟨keep a hy u,by rw [← Act.put_comm a v u h2];exact h⟩
    case skip=>exact ⟨keep a hy _,by rw [← Act.put_comm a v undef h2];exact h⟩
    case defer d=>
     refine ⟨?_,?_⟩
     ·have hy':Pure P ops C oi v {a with defers:=d :: a.defers}:=hy
      exact keep _ hy' _
     ·rw [← Act.put_comm _ v undef h2]
      have e:({a with defers:=d :: a.defers}.put oi.dst v)={(a.put oi.dst v) with defers:=d :: (a.put oi.dst v).defers}:=by rw [defers_put];exact put_defers a _ _ _
      rw [e]
      exact h
    case enter f args=>
     refine h.mono fun e w'' he=>?_
     cases e with
     | returned u=>exact ⟨keep a hy u,by rw [← Act.put_comm a v u h2];exact he⟩
     | panicked c=>exact (he:False).elim
     | outgrown=>exact he
    case row row args=>exact h.mono fun u w'' hv=>⟨keep a hy u,by rw [← Act.put_comm a v u h2];exact hv⟩
   | halt x w'=>
    cases x <;> simp only [Oper.upon] at h
    case panic v=>exact (h:False).elim
  ·exact absurd h.2 not_letsOut
 ·rename_i hw
  simp only [hw] at h
  exact ⟨keep a hy _,by rw [← Act.put_comm a v undef h2];exact h⟩
theorem wpAnyC_first {C:World→Prop} {n i:Nat} {oi:Oper} {v:Value} {L:Array Bool→Act→World→Prop} (hi:ops[i]?=some oi) (hsel:∀ (j:Nat) (o:Oper) cs b,ops[j]?=some o→o.op≠.select cs b)
  (hs:Region.sinkB md ops n=true) (hc:Region.chainB md ops n=true) (hn:n<ops.size) (hin:i<n)
  (hdone:∀ listed a w,L listed a w→∀ j∈Region.ready md ops listed,n≤j) :
  ∀ (f:Nat) (listed:Array Bool) (a:Act) (w:World),HeadInv md ops n listed→
   (∀ j oj,ops[j]?=some oj→j≠i→listed.getD j true=false→(∀ e∈oj.after,Region.binds md e=true→e.on≠i)→oi.apart ops oj=true)→
   i∈Region.ready md ops listed→Pure P ops C oi v a→C w→
   wpAnyC P md ops n C L f (listed.setIfInBounds i true) (a.put oi.dst v) w→wpAnyC P md ops n C L (f+1) listed a w:=by
 intro f
 induction f with
 | zero=>
  intro listed a w inv _ hr hy hCw H
  have hun:=(mem_ready.1 hr).1
  refine ⟨hCw,fun h=>(by rw [h] at hr;cases hr),fun j hj=>?_⟩
  have hjn:j<n:=by
   rcases Nat.lt_or_ge j n with h | h
   ·exact h
   ·exact absurd hj (tail_waits hs hc hn inv _ i rfl hin hun j h)
  refine ⟨hjn,?_⟩
  by_cases hji:j=i
  ·subst hji;exact hy.wpOp hi hCw H
  ·have:=hdone _ _ _ H.2 j (ready_mono hj hji)
   omega
 | succ f ih=>
  intro listed a w inv hfree hr hy hCw H
  have hun:=(mem_ready.1 hr).1
  refine ⟨hCw,fun h=>(by rw [h] at hr;cases hr),fun j hj=>?_⟩
  have hjn:j<n:=by
   rcases Nat.lt_or_ge j n with h | h
   ·exact h
   ·exact absurd hj (tail_waits hs hc hn inv _ i rfl hin hun j h)
  refine ⟨hjn,?_⟩
  by_cases hji:j=i
  ·subst hji;exact hy.wpOp hi hCw H
  ·have h1:=(H.2.2 j (ready_mono hj hji)).2
   obtain ⟨hjun,oj,hoj,hall⟩:=mem_ready.1 hj
   have hnot:∀ e∈oj.after,Region.binds md e=true→e.on≠i:=fun e he hb heq=>by
    have h1:=hall e he hb
    rw [heq,getD_both hun] at h1
    cases h1
   have h2:=wpOp_put hoj (hfree j oj hoj hji hjun hnot) (fun cs b=>hsel i oi cs b hi) (fun cs b=>hsel j oj cs b hoj) hy h1
   have hfree':∀ k ok,ops[k]?=some ok→k≠i→(listed.setIfInBounds j true).getD k true=false→
     (∀ e∈ok.after,Region.binds md e=true→e.on≠i)→oi.apart ops ok=true:=fun k ok hk hki hun hno=>by
    refine hfree k ok hk hki ?_ hno
    by_cases hjk:j=k
    ·subst hjk;exact hjun
    ·rw [getD_set_ne true hjk] at hun;exact hun
   refine wpOp_QF (fun a' w' h3=>?_) h2
   obtain ⟨h3,h4⟩:=h3
   rw [Array.setIfInBounds_comm _ _ (fun e=>hji e.symm)] at h4
   have hi':=ready_mono hr (Ne.symm hji)
   exact ih (listed.setIfInBounds j true) a' w' (inv.set hj hjn) hfree' hi' h3 (wpAnyC_C h4) h4
def ordB (md:Region.Mode) (ops:Array Oper) (n g:Nat):List (Nat×Bool)→Array Bool→Bool
 | [],listed=>Region.seqB md ops g n listed
 | (k,true) :: r,listed=>(Region.ready md ops listed).contains k&&decide (k<n)&&Region.free md ops listed k&&ordB md ops n g r (listed.setIfInBounds k true)
 | (k,false) :: r,listed=>decide (Region.ready md ops listed=[k])&&decide (k<n)&&ordB md ops n g r (listed.setIfInBounds k true)
def mixedB (md:Region.Mode) (ops:Array Oper) (n:Nat) (ord:List (Nat×Bool)):Bool:=
 Region.noSelect ops&&decide (n<ops.size)&&decide (ord.length+(ops.size - n)=ops.size)&&Region.sinkB md ops n&&Region.chainB md ops n&&ordB md ops n (ops.size - n) ord (Array.replicate ops.size false)
def wpMix (P:Program) (ops:Array Oper) (C:World→Prop) (T:Act→World→Prop):List (Nat×Bool)→Act→World→Prop
 | [],a,w=>T a w
 | (k,true) :: r,a,w=>match ops[k]? with
  | none=>False
  | some o=>∃ v,Pure P ops C o v a∧wpMix P ops C T r (a.put o.dst v) w
 | (k,false) :: r,a,w=>wpOp P ops QF k (fun a' w'=>C w'∧wpMix P ops C T r a' w') a w
theorem wpAnyC_ord {C:World→Prop} {n g:Nat} {T:Act→World→Prop} (hsel:Region.noSelect ops=true) (hs:Region.sinkB md ops n=true) (hc:Region.chainB md ops n=true) (hn:n<ops.size) :
  ∀ (ord:List (Nat×Bool)) (listed:Array Bool) (a:Act) (w:World),HeadInv md ops n listed→ordB md ops n g ord listed=true→C w→wpMix P ops C T ord a w→
  wpAnyC P md ops n C (fun listed' a' w'=>Region.seqB md ops g n listed'=true∧T a' w') ord.length listed a w
 | [],listed,a,w,_,hB,hC,h=>⟨hC,hB,h⟩
 | (k,true) :: r,listed,a,w,inv,hB,hC,h=>by
  simp only [ordB,Bool.and_eq_true,decide_eq_true_eq] at hB
  obtain ⟨⟨⟨hr,hk⟩,hf⟩,hB'⟩:=hB
  have hr':k∈Region.ready md ops listed:=by simpa using hr
  simp only [wpMix] at h
  cases ho:ops[k]? with
  | none=>rw [ho] at h;exact h.elim
  | some o=>
   rw [ho] at h
   obtain ⟨v,hv,hK⟩:=h
   exact wpAnyC_first ho (Region.noSelect_spec hsel) hs hc hn hk (fun listed' a' w' hL=>seqB_ready hL.1) r.length listed a w inv (Region.free_spec ho hf) hr' hv hC
    (wpAnyC_ord hsel hs hc hn r _ _ w (inv.set hr' hk) hB' hC hK)
 | (k,false) :: r,listed,a,w,inv,hB,hC,h=>by
  simp only [ordB,Bool.and_eq_true,decide_eq_true_eq] at hB
  obtain ⟨⟨hr,hk⟩,hB'⟩:=hB
  simp only [wpMix] at h
  have hne:Region.ready md ops listed≠[]:=by rw [hr];exact List.cons_ne_nil _ _
  refine ⟨hC,hne,fun i hi=>?_⟩
  rw [hr] at hi
  have hik:i=k:=by simpa using hi
  subst hik
  refine ⟨hk,wpOp_QF (fun a' w' h'=>?_) h⟩
  exact wpAnyC_ord hsel hs hc hn r _ a' w' (inv.set (by rw [hr];exact List.mem_singleton.2 rfl) hk) hB' h'.1 h'.2
theorem wp_region_mixed {id:Nat} {Q:Exit→Act→World→Prop} {a:Act} {w:World} {l:List Oper} (C:World→Prop) (n:Nat) (ord:List (Nat×Bool)) (hm:P.follows .mixedOrders=true) (hB:mixedB .any l.toArray n ord=true)
  (hC:C w.drew) (h:wpMix P l.toArray C (fun a' w'=>wpList P l.toArray Q (l.drop n) a' w') ord a w.drew):(Code.region id l.toArray true).wp P Q a w:=by
 simp only [mixedB,Bool.and_eq_true,decide_eq_true_eq] at hB
 obtain ⟨⟨⟨⟨⟨hsel,hn⟩,hlen⟩,hs⟩,hc⟩,hord⟩:=hB
 have hdl:(l.drop n).length=l.toArray.size - n:=by simp
 have inv0:HeadInv .any l.toArray n (Array.replicate l.toArray.size false):=
  ⟨by simp,fun j oj _ hl=>(by rw [getD_replicate_false] at hl;cases hl),fun t _ ht=>getD_in (by simpa using ht) (getD_replicate_false _ _)⟩
 have H:=wpAnyC_ord hsel hs hc hn ord _ a w.drew inv0 hord hC h
 refine wp_region_any hm ?_
 have:=wpAny_of_headC (Q':=Q) (g:=l.toArray.size - n) (fun listed a' w' hL=>by
  have:=wpAny_of_seq (md:=.any) (Q':=Q) (l.drop n) n listed a' w' (fun j=>by simp [List.getElem?_drop]) (by rw [hdl];exact hL.1) hL.2
  rwa [hdl] at this) _ _ _ _ H
 rw [hlen] at this
 exact this
theorem wpMix_pure {C:World→Prop} {T:Act→World→Prop} {k:Nat} {r:List (Nat×Bool)} {a:Act} {w:World} {o:Oper} (ho:ops[k]?=some o) (hw:Region.wanted o (yielded ops a.tmps)=true) (v:Value)
  (hv:∀ w,C w→(execOp a.eval o).run P w=.ok (.value v) w) (h:wpMix P ops C T r (a.put o.dst v) w):wpMix P ops C T ((k,true) :: r) a w:=by
 simp only [wpMix,ho]
 exact ⟨v,.inl ⟨hw,hv⟩,h⟩
theorem wpMix_move {C:World→Prop} {T:Act→World→Prop} {k:Nat} {r:List (Nat×Bool)} {a:Act} {w:World} {o:Oper} (ho:ops[k]?=some o) (hw:Region.wanted o (yielded ops a.tmps)=true) (x:Operand) (hx:o.op=.move x) (v:Value)
  (hv:a.eval x=v) (h:wpMix P ops C T r (a.put o.dst v) w):wpMix P ops C T ((k,true) :: r) a w:=by
 subst hv
 exact wpMix_pure ho hw _ (fun w _=>by unfold execOp;simp [hx]) h
def QK (K:Act→World→Prop):Exit→Act→World→Prop
 | .normal,a,w=>K a w
 | _,_,_=>False
theorem not_letsOut_QK (K:Act→World→Prop):¬LetsOut (QK K):=fun ⟨_,_,h⟩=>h
theorem upon_QK {o:Oper} {a:Act} {K:Act→World→Prop} {K':Act→World→Prop} {r:Result Next} (h:o.upon P a K (QK K') r):o.upon P a K QF r:=by
 cases r with
 | ok n w'=>
  cases n <;> simp only [Oper.upon] at h ⊢
  case value v=>exact h
  case skip=>exact h
  case defer d=>exact h
  case enter f args=>
   refine h.mono fun e w'' he=>?_
   cases e with
   | returned v=>exact he
   | panicked c=>exact (he:False).elim
   | outgrown=>exact absurd he (not_letsOut_QK _)
  case row row args=>exact h
 | halt x w'=>
  cases x <;> simp only [Oper.upon] at h
  case panic v=>exact (h:False).elim
theorem wpMix_loud {C:World→Prop} {T:Act→World→Prop} {k:Nat} {r:List (Nat×Bool)} {a:Act} {w:World} {o:Oper} (ho:ops[k]?=some o) (h:wpList P ops (QK fun a' w'=>C w'∧wpMix P ops C T r a' w') [o] a w) :
  wpMix P ops C T ((k,false) :: r) a w:=by
 simp only [wpMix]
 unfold wpOp
 simp only [ho]
 simp only [wpList] at h
 split
 ·rename_i hw
  simp only [hw,if_true] at h
  rcases h with h | h
  ·exact .inl (upon_QK h)
  ·exact absurd h.2 (not_letsOut_QK _)
 ·rename_i hw
  simp only [hw] at h
  exact h
end
end Go.Mixed
namespace Go.Proofs.YtajlleeonddinaaGreatDoor
open Go.RowKit
attribute [local go_sem] Oper.semAt_some
def sB (l:Str):ByteArray:=⟨l.toArray⟩
theorem sB_size (l:Str):(sB l).size=l.length:=by show l.toArray.size=l.length;simp
theorem sB_at (l:Str) (j:Nat) (h:j<(sB l).size) (h':j<l.length):(sB l)[j]=l[j]:=by
 have h1:(sB l).data[j]'h=l[j]:=by simp [sB]
 exact h1
def RowB (w:World) (s:ByteArray) (b:Nat):Prop:=∀ j (h:j<s.size),w.cell? ⟨b,j,none⟩=some (.int .u8 (s[j].toNat:Int))
theorem rowB_start (w:World) (s:ByteArray) (cap:Nat) (e:TypeId):RowB (w.alloc (.cells (bytesRow s cap) e ((bytesRow s cap).size,(bytesRow s cap).size+1))).drew s w.heap.size:=fun j h=>by
 have h1:=World.cell?_alloc_mark w (bytesRow s cap) e ((bytesRow s cap).size,(bytesRow s cap).size+1) j
 rw [bytesRow_at s cap j h] at h1
 exact h1
def mskF (l:Str):Nat→Int×Int
 | 0=>(0,0)
 | k+1=>if l[k]?.getD 0=48 then mskF l k else if l[k]?.getD 0=49 then (bits .or .u8 (mskF l k).1 (128 / 2 ^ k),(mskF l k).2) else ((mskF l k).1,bits .or .u8 (mskF l k).2 (128 / 2 ^ k))
theorem u8_is (c:UInt8) (n:Nat) (hn:n<256) (b:Bool) (h:((c.toNat:Int) == (n:Int))=b):decide (c=UInt8.ofNat n)=b:=by
 have e:(UInt8.ofNat n).toNat=n:=UInt8.toNat_ofNat_of_lt' hn
 cases b
 ·simp at h ⊢
  intro h2
  subst h2
  exact h (by rw [e])
 ·simp at h ⊢
  exact UInt8.toNat_inj.1 (by rw [e];omega)
def opnF (l:Str):Int×Int:=mskF l 8
theorem masks_any (l f:Str) (hl:l.length=8) (w:World) :
  Calls Tryz.prog 228 #[.agg #[.string (sB l),.string (sB f)]] w fun e w'=>e=.returned (.tuple #[.int .u8 (opnF l).1,.int .u8 (opnF l).2])∧Below w.heap.size w w':=by
 obtain ⟨s,hs⟩:∃ s,sB l=s:=⟨_,rfl⟩
 have hz:s.size=8:=by rw [← hs,sB_size,hl]
 have hat:∀ k (h:k<s.size) (h':k<l.length),s[k]=l[k]:=fun k h h'=>by subst hs;exact sB_at l k h h'
 have HAT:=Lib.hid hat
 have HL:=Lib.hid hl
 have hcv:=fun (w:World)=>run_bytes_of_string (P:=Tryz.prog) w 9 38 5 s Tryz.underlying9 Tryz.underlying38 Tryz.underlying5
 have S:=Lib.hid (rowB_start (w.alloc (.cells #[.string s,.string (sB f)] 240)) s (grownCap (w.alloc (.cells #[.string s,.string (sB f)] 240)) s.size 0 5) 5)
 have HB:Hid (Below w.heap.size w ((w.alloc (.cells #[.string s,.string (sB f)] 240)).alloc (.cells (bytesRow s (grownCap (w.alloc (.cells #[.string s,.string (sB f)] 240)) s.size 0 5)) 5 ((bytesRow s (grownCap (w.alloc (.cells #[.string s,.string (sB f)] 240)) s.size 0 5)).size,(bytesRow s (grownCap (w.alloc (.cells #[.string s,.string (sB f)] 240)) s.size 0 5)).size+1))).drew):=
  (((Below.refl _ w).alloc (Nat.le_refl _) _).alloc (by simp) _).drew
 rw [hz] at S HB
 rw [hs]
 clear hs hat hl
 go_enter Tryz.func228,Tryz.ntmps228
 go_wp2
 clear hcv
 go_loopw [10,2,3] (fun i o u wr=>∃ k:Nat,k≤8∧i=.int .i64 k∧o=.int .u8 (mskF l k).1∧u=.int .u8 (mskF l k).2∧Hid (RowB wr s (w.heap.size+1))∧Hid (Below w.heap.size w wr)) (fun i _ _ _=>8 - (intOf i).toNat)
 case atStart=>exact ⟨0,Nat.zero_le _,rfl,rfl,rfl,(by have h:=S.out;rw [World.size_alloc] at h;exact h),HB.out⟩
 case round=>
  clear S HB
  obtain ⟨k,hk,rfl,rfl,rfl,R,B⟩:=hrel
  by_cases hlt:k<8
  ·have hlt':k<s.size:=by omega
   have g1:wr.cell? ⟨w.heap.size+1,k,none⟩=some (.int .u8 (s[k].toNat:Int)):=R.out k hlt'
   obtain ⟨c,hc⟩:∃ c,s[k]=c:=⟨_,rfl⟩
   rw [hc] at g1
   have HC:=Lib.hid hc
   clear hc
   obtain ⟨o,ho⟩:∃ o,(mskF l k).1=o:=⟨_,rfl⟩
   obtain ⟨u,hu⟩:∃ u,(mskF l k).2=u:=⟨_,rfl⟩
   rw [ho,hu]
   have HO:=Lib.hid ho
   have HU:=Lib.hid hu
   clear ho hu
   go_wp2
   all_goals (have hl8:=HL.out)
   all_goals (have hck:l[k]?.getD 0=c:=by rw [List.getElem?_eq_getElem (by omega),Option.getD_some,← HAT.out k hlt' (by omega)];exact HC.out)
   ·have e1:c=48:=of_decide_eq_true (u8_is c 48 (by decide) true (by assumption))
    go_roundw
    case rel=>exact ⟨k+1,by omega,by go_num,by rw [mskF,if_pos (hck.trans e1),HO.out],by rw [mskF,if_pos (hck.trans e1),HU.out],R,B⟩
    case measure=>simp [intOf];omega
   ·have e0:¬c=48:=of_decide_eq_false (u8_is c 48 (by decide) false (by assumption))
    have e1:c=49:=of_decide_eq_true (u8_is c 49 (by decide) true (by assumption))
    go_roundw
    case rel=>exact ⟨k+1,by omega,by go_num,by rw [mskF,if_neg (by rw [hck];exact e0),if_pos (hck.trans e1),HO.out],by rw [mskF,if_neg (by rw [hck];exact e0),if_pos (hck.trans e1),HU.out],R,B⟩
    case measure=>simp [intOf];omega
   ·have e0:¬c=48:=of_decide_eq_false (u8_is c 48 (by decide) false (by assumption))
    have e1:¬c=49:=of_decide_eq_false (u8_is c 49 (by decide) false (by assumption))
    go_roundw
    case rel=>exact ⟨k+1,by omega,by go_num,by rw [mskF,if_neg (by rw [hck];exact e0),if_neg (by rw [hck];exact e1),HO.out],by rw [mskF,if_neg (by rw [hck];exact e0),if_neg (by rw [hck];exact e1),HU.out],R,B⟩
    case measure=>simp [intOf];omega
  ·obtain rfl:k=8:=by omega
   go_wp2
   go_ret2
   exact ⟨rfl,B.out⟩
def fitsP (l:Str) (op:Int):Bool:=bits .andNot .u8 op (opnF l).2 == (opnF l).1
theorem tfits_any (l f:Str) (hl:l.length=8) (op:Int) (w:World) :
  Calls Tryz.prog 201 #[.agg #[.string (sB l),.string (sB f)],.int .u8 op] w fun e w'=>e=.returned (.bool (fitsP l op))∧Below w.heap.size w w':=by
 have hm:=masks_any l f hl (w.alloc (.cells #[.string (sB l),.string (sB f)] 240))
 go_enter Tryz.func201,Tryz.ntmps201
 go_wp2_with fail
 refine hm.mono ?_
 rintro e w' ⟨rfl,hb⟩
 have HB:Hid (Below w.heap.size w w'):=((Below.refl _ w).alloc (Nat.le_refl _) _).trans (hb.mono (by simp))
 clear hm hb
 go_wp2
 go_ret
 exact ⟨rfl,HB.out⟩
def numF (l:Str) (op:Int) (c:UInt8):Nat→Int
 | 0=>0
 | k+1=>if l[k]?.getD 0=c then bits .or .i64 (wrap64 (numF l op c k*2)) (wrap64 (bits .and .u8 (op / 2 ^ (7 - k)) 1)) else numF l op c k
def numP (l:Str) (op:Int) (c:UInt8):Int:=numF l op c 8
theorem number_any (l f:Str) (hl:l.length=8) (op:Int) (h0:0≤op) (h1:op≤255) (c:UInt8) (w:World) :
  Calls Tryz.prog 233 #[.agg #[.string (sB l),.string (sB f),.int .u8 op],.int .u8 (c.toNat:Int)] w fun e w'=>e=.returned (.int .i64 (numP l op c))∧Below w.heap.size w w':=by
 obtain ⟨s,hs⟩:∃ s,sB l=s:=⟨_,rfl⟩
 have hz:s.size=8:=by rw [← hs,sB_size,hl]
 have hat:∀ k (h:k<s.size) (h':k<l.length),s[k]=l[k]:=fun k h h'=>by subst hs;exact sB_at l k h h'
 have HAT:=Lib.hid hat
 have HL:=Lib.hid hl
 have hcv:=fun (w:World)=>run_bytes_of_string (P:=Tryz.prog) w 9 38 5 s Tryz.underlying9 Tryz.underlying38 Tryz.underlying5
 obtain ⟨w1,hw1⟩:∃ w1,w.alloc (.cells #[.string s,.string (sB f),.int .u8 op] 242)=w1:=⟨_,rfl⟩
 have S:=Lib.hid (rowB_start w1 s (grownCap w1 s.size 0 5) 5)
 have HB:Hid (Below w.heap.size w (w1.alloc (.cells (bytesRow s (grownCap w1 s.size 0 5)) 5 ((bytesRow s (grownCap w1 s.size 0 5)).size,(bytesRow s (grownCap w1 s.size 0 5)).size+1))).drew):=by
  subst hw1
  exact (((Below.refl _ w).alloc (Nat.le_refl _) _).alloc (by simp) _).drew
 have HB1:Hid (Below w1.heap.size w1 (w1.alloc (.cells (bytesRow s (grownCap w1 s.size 0 5)) 5 ((bytesRow s (grownCap w1 s.size 0 5)).size,(bytesRow s (grownCap w1 s.size 0 5)).size+1))).drew):=
  ((Below.refl _ w1).alloc (Nat.le_refl _) _).drew
 have c0:w1.cell? ⟨w.heap.size,0,none⟩=some (.string s):=by subst hw1;simp [go_sem]
 have c2:w1.cell? ⟨w.heap.size,2,none⟩=some (.int .u8 op):=by subst hw1;simp [go_sem]
 have C2:=Lib.hid c2
 have hsz:w1.heap.size=w.heap.size+1:=by subst hw1;simp
 rw [hz] at S HB HB1
 rw [hs]
 clear hs hat hl c2
 go_enter Tryz.func233,Tryz.ntmps233
 go_wp2
 clear hcv
 go_loopw [13,5] (fun i o wr=>∃ k:Nat,k≤8∧i=.int .i64 k∧o=.int .i64 (numF l op c k)∧Hid (RowB wr s w1.heap.size)∧Hid (Below w.heap.size w wr)∧Hid (Below w1.heap.size w1 wr)) (fun i _ _=>8 - (intOf i).toNat)
 case atStart=>exact ⟨0,Nat.zero_le _,rfl,rfl,S.out,HB.out,HB1.out⟩
 case round=>
  clear S HB HB1
  obtain ⟨k,hk,rfl,rfl,R,B,B1⟩:=hrel
  by_cases hlt:k<8
  ·have hlt':k<s.size:=by omega
   have g1:wr.cell? ⟨w1.heap.size,k,none⟩=some (.int .u8 (s[k].toNat:Int)):=R.out k hlt'
   have g2:wr.cell? ⟨w.heap.size,2,none⟩=some (.int .u8 op):=(B1.out.cell (show w.heap.size<w1.heap.size by omega)).trans C2.out
   rw [hsz] at g1
   obtain ⟨d,hd⟩:∃ d,s[k]=d:=⟨_,rfl⟩
   rw [hd] at g1
   have HD:=Lib.hid hd
   clear hd
   obtain ⟨o,ho⟩:∃ o,numF l op c k=o:=⟨_,rfl⟩
   rw [ho]
   have HO:=Lib.hid ho
   clear ho
   have hk7:(k:Int)≤7:=by omega
   go_wp2
   all_goals (have hl8:=HL.out)
   all_goals (have hck:l[k]?.getD 0=d:=by rw [List.getElem?_eq_getElem (by omega),Option.getD_some,← HAT.out k hlt' (by omega)];exact HD.out)
   ·have e1:d=c:=UInt8.toNat_inj.1 (by
     have h:((d.toNat:Int) == (c.toNat:Int))=true:=by assumption
     have h2:(d.toNat:Int)=(c.toNat:Int):=by simpa using h
     omega)
    go_roundw
    case rel=>exact ⟨k+1,by omega,by go_num,by rw [numF,if_pos (hck.trans e1),HO.out],R,B,B1⟩
    case measure=>simp [intOf];omega
   ·have e1:¬d=c:=fun e=>by
     subst e
     have h:((d.toNat:Int) == (d.toNat:Int))=false:=by assumption
     simp at h
    go_roundw
    case rel=>exact ⟨k+1,by omega,by go_num,by rw [numF,if_neg (by rw [hck];exact e1),HO.out],R,B,B1⟩
    case measure=>simp [intOf];omega
  ·obtain rfl:k=8:=by omega
   go_wp2
   go_ret
   exact ⟨rfl,B.out⟩
end Go.Proofs.YtajlleeonddinaaGreatDoor
namespace Go.Mixed
open Go
theorem rowsIn_wide {n:Nat} {P:Program} {row:String} {args:Array Value} {w:World} {R:Value→World→Prop} (h:Rows P row args w R):RowsIn Fence.wide n P row args w R:=fun c cs _=>
 let ⟨v,w',r,s⟩:=h c cs;⟨v,w',r,stepsIn_wide.2 s⟩
theorem opsIn_of_ops {P:Program} {r n:Nat} {ops:Array Oper} {Q:Exit→Act→World→Prop} (hnd:∀ (i:Nat) (o:Oper),ops[i]?=some o→∀ c,o.op≠.defer c) (hQ:¬LetsOut Q) :
  ∀ (l:List Nat) (a:Act) (w:World),wpOps P ops Q l a w→wpOpsIn (Fence.wide.inRound r) n P ops Q l a w
 | [],a,w,h=>h
 | i :: rest,a,w,h=>by
  have ih:=opsIn_of_ops (P:=P) (r:=r) (n:=n) hnd hQ rest
  simp only [wpOps] at h
  simp only [wpOpsIn]
  cases ho:ops[i]? with
  | none=>simp only [ho] at h;exact ih _ _ h
  | some o=>
   simp only [ho] at h ⊢
   by_cases hw:Region.wanted o (yielded ops a.tmps)=true
   ·simp only [hw,if_true] at h ⊢
    rcases h with h | h
    ·refine ⟨fun _ _=>trivial,?_⟩
     rw [Oper.semAt_eq _ _ _ (hnd i o ho)]
     unfold Oper.wp at h
     generalize (execOp a.eval o).run P w=rs at *
     cases rs with
     | ok x w'=>
      cases x <;> simp only [Oper.upon] at h
      case value v=>exact ih _ _ h
      case skip=>exact ih _ _ h
      case defer d=>exact ih _ _ h
      case enter f args=>
       refine ⟨fun h=>(by cases h),CallsIn.inRound r (callsIn_wide.2 (h.mono fun e w'' he=>?_))⟩
       cases e with
       | returned v=>exact ih _ _ he
       | panicked c=>exact he
       | outgrown=>exact he
      case row row args=>
       refine ⟨fun h=>(by cases h),?_⟩
       have h2:=rowsIn_wide (n:=n - 1) (h.mono fun v w'' hv=>ih _ _ hv)
       exact h2
     | halt x w'=>
      cases x <;> simp only [Oper.upon] at h
      case panic v=>exact h
    ·exact absurd h.2 hQ
   ·have hw':Region.wanted o (yielded ops a.tmps)=false:=by simpa using hw
    simp only [hw',Bool.false_eq_true,if_false] at h ⊢
    exact ⟨fun _ _=>trivial,ih _ _ h⟩
def noDefer (l:List Oper):Bool:=l.all fun o=>match o.op with | .defer _=>false | _=>true
theorem noDefer_spec {l:List Oper} (h:noDefer l=true):∀ (i:Nat) (o:Oper),l.toArray[i]?=some o→∀ c,o.op≠.defer c:=fun i o ho c e=>by
 have hm:o∈l:=by
  have:=Array.mem_of_getElem? ho
  simpa using this
 have:=List.all_eq_true.1 h o hm
 rw [e] at this
 cases this
theorem wpIn_region_mixed {id r m:Nat} {P:Program} {Q:Exit→Act→World→Prop} {a:Act} {w:World} {l:List Oper} (C:World→Prop) (n:Nat) (ord:List (Nat×Bool)) (hm:P.follows .mixedOrders=true) (hQ:¬LetsOut Q) (hd:noDefer l=true) (hB:mixedB .any l.toArray n ord=true)
  (hC:C w.drew) (h:wpMix P l.toArray C (fun a' w'=>wpList P l.toArray Q (l.drop n) a' w') ord a w.drew):(Code.region id l.toArray true).wpIn (Fence.wide.inRound r) m P Q a w:=by
 simp only [mixedB,Bool.and_eq_true,decide_eq_true_eq] at hB
 obtain ⟨⟨⟨⟨⟨hsel,hn⟩,hlen⟩,hs⟩,hc⟩,hord⟩:=hB
 have hdl:(l.drop n).length=l.toArray.size - n:=by simp
 have inv0:HeadInv .any l.toArray n (Array.replicate l.toArray.size false):=
  ⟨by simp,fun j oj _ hl=>(by rw [getD_replicate_false] at hl;cases hl),fun t _ ht=>getD_in (by simpa using ht) (getD_replicate_false _ _)⟩
 have H:=wpAnyC_ord hsel hs hc hn ord _ a w.drew inv0 hord hC h
 have h3:=wpAny_of_headC (Q':=Q) (g:=l.toArray.size - n) (fun listed a' w' hL=>by
  have:=wpAny_of_seq (md:=.any) (Q':=Q) (l.drop n) n listed a' w' (fun j=>by simp [List.getElem?_drop]) (by rw [hdl];exact hL.1) hL.2
  rwa [hdl] at this) _ _ _ _ H
 rw [hlen] at h3
 refine wpIn_region_draw fun t=>opsIn_of_ops (noDefer_spec hd) hQ _ _ _ ?_
 simp only [Region.schedule,hm,Bool.true_or,if_true]
 exact wpAny_sound _ t _ a _ h3
end Go.Mixed
namespace Go.Each
open Go Go.RowKit
def Gives {α:Type} (F:Fence) (n:Nat) (P:Program) (g:Nat) (lb:Array Value) (encs:α→Array Value) (E:α→World→Prop) (Kp:World→World→Prop) (S:List α→Prop) (N:Nat) (w:World):Prop:=
 ∀ (l:Nat) (J:List α→World→Prop) (W:World),Below w.heap.size w W→AbidesFrom W.heap.size J→
  (∀ pre x W1,J pre W1→E x W1→pre.length<N→YieldAt F (n - 1) P l (encs x) W1 fun e W'=>e=.returned (.bool true)∧J (pre++[x]) W'∧Kp W1 W')→
  J [] W→CallsIn F n P g (#[.func (.yield l) #[] #[]]++lb) W fun e W'=>(∃ v,e=.returned v)∧∃ xs,S xs∧J xs W'
def goesOn (K:World→Prop):Exit→Act→World→Prop
 | .normal,_,W'=>K W'
 | .ret,_,_=>False
 | .exit _,_,_=>False
 | .goto _,_,_=>False
 | .panic _,_,_=>False
 | .outgrown,_,_=>False
variable {F:Fence} {n:Nat} {P:Program}
end Go.Each
