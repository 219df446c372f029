/-
  ImgD, ImgE, ImgG, ImgH, ImgI, ImgJ, ImgN, ImgK, ImgP, ImgQ, ImgS, ImgT, ImgU, ImgV, ImgW, ImgX, FmBd.
-/
import Derived.Test.YtajlleeonddinaaGreatDoorGBC
import Derived.Test.YtajlleeonddinaaGreatDoorGAA
import Derived.OwnWalk
import Derived.Laws.AppendOwn
import Derived.Laws.OwnMore
import Derived.Laws.StructEq
import Derived.Laws.Rows
import Derived.Laws.Tables
import Derived.Maps.AppendAt
import Derived.Lib.SliceRun
import Derived.OneCell
import Derived.Deep.AppendLies
import Derived.ProofKit
import Derived.OpenShut
import Derived.Deep.Slices
import Derived.Test.YtajlleeonddinaaGreatDoorGAS
set_option linter.all false
set_option maxRecDepth 100000
set_option maxHeartbeats 4000000
namespace Go.Proofs.YtajlleeonddinaaGreatDoor.Im
open Go.RowKit
def CellsP (P:Nat→Prop) (w:World) (A:Option Addr) (W:List Cel):Prop:=
 W=[]∨∃ b off,A=some ⟨b,off,none⟩∧P b∧∀ j (h:j<W.length),w.cell? ⟨b,off+j*2,none⟩=some (.int .i64 (W[j].1:Int))∧w.cell? ⟨b,off+j*2+1,none⟩=some (.int .u8 (W[j].2.toNat:Int))
theorem CellsP.at_ {P:Nat→Prop} {w:World} {A:Option Addr} {W:List Cel} (h:CellsP P w A W) {k:Nat} (hk:k<W.length) :
  ∃ b off,A=some ⟨b,off,none⟩∧w.cell? ⟨b,off+k*2,none⟩=some (.int .i64 (W[k].1:Int))∧w.cell? ⟨b,off+k*2+1,none⟩=some (.int .u8 (W[k].2.toNat:Int)):=by
 rcases h with rfl | ⟨b,off,rfl,_,hc⟩
 ·simp at hk
 ·exact ⟨b,off,rfl,(hc k hk).1,(hc k hk).2⟩
theorem CellsP.mono {P Q:Nat→Prop} {w:World} {A:Option Addr} {W:List Cel} (h:CellsP P w A W) (hPQ:∀ i,i<w.heap.size→P i→Q i):CellsP Q w A W:=by
 by_cases hx:W=[]
 ·exact .inl hx
 ·rcases h with rfl | ⟨b,off,rfl,hp,hc⟩
  ·exact .inl rfl
  ·exact .inr ⟨b,off,rfl,hPQ b (World.block_lt_of_cell? w _ (hc 0 (List.length_pos_iff.2 hx)).1) hp,hc⟩
theorem CellsP.blocks {P:Nat→Prop} {w w':World} {A:Option Addr} {W:List Cel} (h:CellsP P w A W) (hk:∀ i,i<w.heap.size→P i→w'.heap[i]?=w.heap[i]?):CellsP P w' A W:=by
 rcases h with rfl | ⟨b,off,rfl,hp,hc⟩
 ·exact .inl rfl
 ·refine .inr ⟨b,off,rfl,hp,fun j hj=>?_⟩
  have e:=hk b (World.block_lt_of_cell? w _ (hc j hj).1) hp
  exact ⟨(World.cell?_of_block (w:=w) e).trans (hc j hj).1,(World.cell?_of_block (w:=w) e).trans (hc j hj).2⟩
theorem CellsP.below {P:Nat→Prop} {w w':World} {A:Option Addr} {W:List Cel} (h:CellsP P w A W) (hb:Below w.heap.size w w'):CellsP P w' A W:=h.blocks fun i hi _=>hb.block i hi
theorem CellsP.keep {P:Nat→Prop} {w w':World} {b:Nat} {A:Option Addr} {W:List Cel} (h:CellsP P w A W) (hb:Keep b w w') (hP:¬P b):CellsP P w' A W:=h.blocks fun i hi hp=>hb.block i hi fun e=>hP (e ▸ hp)
theorem CellsP.drewN {P:Nat→Prop} {w:World} {A:Option Addr} {W:List Cel} (h:CellsP P w A W) (n:Nat):CellsP P (w.drewN n) A W:=h.blocks fun _ _ _=>rfl
structure R where
 addr:Int
 A:Option Addr
 cap:Nat
 data:List UInt8
instance:Inhabited R:=⟨⟨0,none,0,[]⟩⟩
def RunsP (S P:Nat→Prop) (w:World) (A:Option Addr) (rs:List R):Prop:=
 (rs=[]∨∃ b off,A=some ⟨b,off,none⟩∧S b∧∀ j (h:j<rs.length),w.cell? ⟨b,off+j*2,none⟩=some (.int .i64 rs[j].addr)∧w.cell? ⟨b,off+j*2+1,none⟩=some (.slice rs[j].A rs[j].data.length rs[j].cap))∧
 ∀ r∈rs,BytesP P w r.A r.data
theorem RunsP.at_ {S P:Nat→Prop} {w:World} {A:Option Addr} {rs:List R} (h:RunsP S P w A rs) {k:Nat} (hk:k<rs.length) :
  ∃ b off,A=some ⟨b,off,none⟩∧w.cell? ⟨b,off+k*2,none⟩=some (.int .i64 rs[k].addr)∧w.cell? ⟨b,off+k*2+1,none⟩=some (.slice rs[k].A rs[k].data.length rs[k].cap):=by
 rcases h.1 with rfl | ⟨b,off,rfl,_,hc⟩
 ·simp at hk
 ·exact ⟨b,off,rfl,(hc k hk).1,(hc k hk).2⟩
theorem RunsP.mono {S T P Q:Nat→Prop} {w:World} {A:Option Addr} {rs:List R} (h:RunsP S P w A rs) (hST:∀ i,i<w.heap.size→S i→T i) (hPQ:∀ i,i<w.heap.size→P i→Q i):RunsP T Q w A rs:=by
 refine ⟨?_,fun r hr=>(h.2 r hr).mono hPQ⟩
 by_cases hx:rs=[]
 ·exact .inl hx
 ·rcases h.1 with rfl | ⟨b,off,rfl,hp,hc⟩
  ·exact .inl rfl
  ·exact .inr ⟨b,off,rfl,hST b (World.block_lt_of_cell? w _ (hc 0 (List.length_pos_iff.2 hx)).1) hp,hc⟩
theorem RunsP.blocks {S P:Nat→Prop} {w w':World} {A:Option Addr} {rs:List R} (h:RunsP S P w A rs) (hs:∀ i,i<w.heap.size→S i→w'.heap[i]?=w.heap[i]?) (hk:∀ i,i<w.heap.size→P i→w'.heap[i]?=w.heap[i]?):RunsP S P w' A rs:=by
 refine ⟨?_,fun r hr=>(h.2 r hr).blocks hk⟩
 rcases h.1 with rfl | ⟨b,off,rfl,hp,hc⟩
 ·exact .inl rfl
 ·refine .inr ⟨b,off,rfl,hp,fun j hj=>?_⟩
  have e:=hs b (World.block_lt_of_cell? w _ (hc j hj).1) hp
  exact ⟨(World.cell?_of_block (w:=w) e).trans (hc j hj).1,(World.cell?_of_block (w:=w) e).trans (hc j hj).2⟩
theorem RunsP.below {S P:Nat→Prop} {w w':World} {A:Option Addr} {rs:List R} (h:RunsP S P w A rs) (hb:Below w.heap.size w w'):RunsP S P w' A rs:=h.blocks (fun i hi _=>hb.block i hi) fun i hi _=>hb.block i hi
theorem RunsP.keep {S P:Nat→Prop} {w w':World} {b:Nat} {A:Option Addr} {rs:List R} (h:RunsP S P w A rs) (hb:Keep b w w') (hS:¬S b) (hP:¬P b):RunsP S P w' A rs:=h.blocks (fun i hi hp=>hb.block i hi fun e=>hS (e ▸ hp)) fun i hi hp=>hb.block i hi fun e=>hP (e ▸ hp)
theorem RunsP.drewN {S P:Nat→Prop} {w:World} {A:Option Addr} {rs:List R} (h:RunsP S P w A rs) (n:Nat):RunsP S P (w.drewN n) A rs:=h.blocks (fun _ _ _=>rfl) fun _ _ _=>rfl
theorem find_any (P:Nat→Prop) (A:Option Addr) (cap:Nat) (W:List Cel) (hl:W.length≤maxLen) (a:Int) (w:World) (hW:CellsP P w A W) :
  Calls Tryz.prog 65 #[.slice A W.length cap,.int .i64 a] w fun e w'=>e=.returned (.int .i64 (findW W a))∧w=w':=by
 unfold maxLen at hl
 have Z:=Lib.hid hW
 clear hW
 go_enter Tryz.func65,Tryz.ntmps65
 go_wp2
 go_loop [5] (fun i=>∃ k:Nat,k≤W.length∧i=.int .i64 k∧Hid (∀ j (h:j<W.length),j<k→(W[j].1:Int)<a)) (fun i=>W.length - (intOf i).toNat)
 case atStart=>exact ⟨0,Nat.zero_le _,rfl,fun j h h'=>by omega⟩
 case round=>
  obtain ⟨k,hk,rfl,R⟩:=hrel
  by_cases hlt:k<W.length
  ·obtain ⟨b,off,hA,g1,g2⟩:=Z.out.at_ hlt
   subst hA
   obtain ⟨x,hx⟩:∃ x:Int,(W[k].1:Int)=x:=⟨_,rfl⟩
   rw [hx] at g1
   have X:=Lib.hid hx
   clear hx g2
   have hlt':(k:Int)<(W.length:Int):=by omega
   by_cases h1:x<a
   ·have N:Hid (∀ j (h:j<W.length),j<k+1→(W[j].1:Int)<a):=fun j h h'=>by
     by_cases e:j=k
     ·subst e;rw [X.out];exact h1
     ·exact R.out j h (by omega)
    go_wp2
    go_round
    case rel=>exact ⟨k+1,by omega,by go_num,N⟩
    case measure=>simp [intOf];omega
   ·have N:Hid (findW W a=k):=findW_of W a k hk R.out fun h=>by rw [X.out];exact h1
    go_wp2
    go_ret
    exact ⟨ret_int (by rw [N.out]),rfl⟩
  ·have N:Hid (findW W a=k):=findW_of W a k hk R.out fun h=>absurd h hlt
   have hlt':decide ((k:Int)<(W.length:Int))=false:=decide_eq_false (by omega)
   go_wp2
   go_ret
   exact ⟨ret_int (by rw [N.out]),rfl⟩
def getV (W:List Cel) (a:Int):UInt8:=if addrB a then byteW W a.toNat else 0
def getOk (W:List Cel) (a:Int):Bool:=addrB a&&hasW W a.toNat
theorem get_hit {W:List Cel} (hs:SortedW W) (a:Int) (k:Nat) (hk:k<W.length) (h:(W[k].1:Int)=a):getV W a=W[k].2∧getOk W a=true:=by
 have hm:=List.getElem_mem hk
 have h1:=hs.2 _ hm
 have ha:addrB a=true:=by unfold addrB;rw [decide_eq_true (by omega),decide_eq_true (by omega)];rfl
 have e:a.toNat=W[k].1:=by omega
 unfold getV getOk
 rw [ha,e]
 exact ⟨by rw [if_pos rfl];exact byteW_mem hs.1 hm,by rw [Bool.true_and];exact hasW_iff.2 ⟨_,hm,rfl⟩⟩
theorem get_miss {W:List Cel} (hs:SortedW W) (a:Int) (h:∀ h:findW W a<W.length,(W[findW W a].1:Int)≠a):getV W a=0∧getOk W a=false:=by
 cases ha:addrB a
 ·unfold getV getOk;rw [ha];exact ⟨rfl,rfl⟩
 ·have hw:hasW W a.toNat=false:=hasW_false.2 fun c hc e=>by
   have h0:(c.1:Int)=a:=by
    unfold addrB at ha
    rw [Bool.and_eq_true,decide_eq_true_eq,decide_eq_true_eq] at ha
    omega
   rcases (mem_split W (findW W a) c).1 hc with h3 | h3
   ·have:=mem_take_findW h3;omega
   ·have hlt:findW W a<W.length:=by
     rcases Nat.lt_or_ge (findW W a) W.length with h4 | h4
     ·exact h4
     ·rw [List.drop_eq_nil_of_le h4] at h3;cases h3
    have hne:=h hlt
    have hp:=hs.1.sublist (List.drop_sublist (findW W a) W)
    have hd:∀ c∈W.drop (findW W a),a≤(c.1:Int):=fun c hc=>mem_drop_findW hs.1 hc
    rw [List.drop_eq_getElem_cons hlt] at h3 hp hd
    have h6:=hd _ List.mem_cons_self
    rw [List.pairwise_cons] at hp
    rcases List.mem_cons.1 h3 with e2 | h5
    ·rw [e2] at h0;exact hne h0
    ·have:=hp.1 c h5;omega
  unfold getV getOk
  rw [ha,hw,byteW_none hw]
  exact ⟨rfl,rfl⟩
theorem ret_u8b {a b:UInt8} {p q:Bool} (h:a=b) (h':p=q):Ending.returned (.tuple #[.int .u8 (a.toNat:Int),.bool p])=.returned (.tuple #[.int .u8 (b.toNat:Int),.bool q]):=by rw [h,h']
theorem rget_any (P:Nat→Prop) (A:Option Addr) (cap:Nat) (W:List Cel) (hs:SortedW W) (a:Int) (w:World) (hW:CellsP P w A W) :
  Calls Tryz.prog 37 #[.slice A W.length cap,.int .i64 a] w fun e w'=>e=.returned (.tuple #[.int .u8 ((getV W a).toNat:Int),.bool (getOk W a)])∧w=w':=by
 have hl:=sorted_length hs
 have Z:=Lib.hid hW
 have hf:=find_any P A cap W (by unfold maxLen;omega) a w hW
 obtain ⟨k,hk⟩:∃ k,findW W a=k:=⟨_,rfl⟩
 rw [hk] at hf
 clear hW
 by_cases hlt:k<W.length
 ·obtain ⟨b,off,hA,g1,g2⟩:=Z.out.at_ hlt
  subst hA
  have hlt':(k:Int)<(W.length:Int):=by omega
  by_cases he:(W[k].1:Int)=a
  ·have N:=Lib.hid (get_hit hs a k hlt he)
   rw [he] at g1
   clear he hs hl hk
   go_enter Tryz.func37,Tryz.ntmps37
   go_wp2_with fail
   refine hf.mono ?_
   rintro e w1 ⟨rfl,rfl⟩
   go_wp2
   go_ret2
   exact ⟨ret_u8b N.out.1.symm N.out.2.symm,rfl⟩
  ·have N:=Lib.hid (get_miss hs a (by rw [hk];exact fun _=>he))
   obtain ⟨x,hx⟩:∃ x:Int,(W[k].1:Int)=x:=⟨_,rfl⟩
   rw [hx] at g1 he
   have he':(x == a)=false:=beq_eq_false_iff_ne.2 he
   clear hx g2 hs hl hk he
   go_enter Tryz.func37,Tryz.ntmps37
   go_wp2_with fail
   refine hf.mono ?_
   rintro e w1 ⟨rfl,rfl⟩
   go_wp2
   go_ret2
   exact ⟨ret_u8b (b:=getV W a) (a:=0) N.out.1.symm N.out.2.symm,rfl⟩
 ·have N:=Lib.hid (get_miss hs a (by rw [hk];exact fun h=>absurd h hlt))
  have hlt':decide ((k:Int)<(W.length:Int))=false:=decide_eq_false (by omega)
  clear hs hl hk
  go_enter Tryz.func37,Tryz.ntmps37
  go_wp2_with fail
  refine hf.mono ?_
  rintro e w1 ⟨rfl,rfl⟩
  go_wp2
  go_ret2
  exact ⟨ret_u8b (b:=getV W a) (a:=0) N.out.1.symm N.out.2.symm,rfl⟩
def sumR (rs:List R):Nat:=(rs.map fun r=>min r.data.length 5000).sum
def fewB (rs:List R):Bool:=decide (rs.length≤60)&&decide (sumR rs≤3000)
theorem sumR_take (rs:List R) (k:Nat) (hk:k<rs.length):sumR (rs.take (k+1))=sumR (rs.take k)+min rs[k].data.length 5000:=by
 unfold sumR
 rw [List.take_succ_eq_append_getElem hk,List.map_append,List.sum_append]
 simp only [List.map_cons,List.map_nil,List.sum_cons,List.sum_nil,Nat.add_zero]
theorem few_any (S P:Nat→Prop) (A:Option Addr) (cap:Nat) (rs:List R) (hl:rs.length≤140737488355328) (w:World) (hW:RunsP S P w A rs) (hd:∀ r∈rs,r.data.length≤maxLen) :
  Calls Tryz.prog 15 #[.slice A rs.length cap] w fun e w'=>e=.returned (.bool (fewB rs))∧w=w':=by
 have Z:=Lib.hid hW
 have HD:=Lib.hid hd
 clear hW hd
 go_enter Tryz.func15,Tryz.ntmps15
 go_wp2
 go_loop [3,4] (fun n i=>∃ k m:Nat,k≤rs.length∧i=.int .i64 k∧n=.int .i64 m∧m≤k*5000∧Hid (sumR (rs.take k)=m)) (fun _ i=>rs.length - (intOf i).toNat)
 case atStart=>exact ⟨0,0,Nat.zero_le _,rfl,rfl,by omega,rfl⟩
 case round=>
  obtain ⟨k,m,hk,rfl,rfl,hm,R⟩:=hrel
  by_cases hlt:k<rs.length
  ·obtain ⟨b,off,hA,g1,g2⟩:=Z.out.at_ hlt
   subst hA
   have hdk:=HD.out _ (List.getElem_mem hlt)
   obtain ⟨x,hx⟩:∃ x:Nat,rs[k].data.length=x:=⟨_,rfl⟩
   have N:Hid (sumR (rs.take (k+1))=m+min x 5000):=by
    have h:=sumR_take rs k hlt
    rw [R.out,hx] at h
    exact h
   rw [hx] at g2 hdk
   unfold maxLen at hdk
   clear hx g1
   have hlt':(k:Int)<(rs.length:Int):=by omega
   go_wp2
   go_round
   case rel=>exact ⟨k+1,m+min x 5000,by omega,by go_num,by go_num,by omega,N⟩
   case measure=>simp [intOf];omega
  ·have hk':k=rs.length:=by omega
   have N:Hid (sumR rs=m):=by
    have h:=R.out
    rwa [List.take_of_length_le (by omega)] at h
   have hlt':decide ((k:Int)<(rs.length:Int))=false:=decide_eq_false (by omega)
   clear hk'
   by_cases h60:rs.length≤60
   ·have F:Hid (fewB rs=decide ((m:Int)≤3000)):=by
     show fewB rs=_
     unfold fewB
     rw [decide_eq_true h60,N.out,Bool.true_and]
     exact decide_eq_decide.2 (by omega)
    have h60':(rs.length:Int)≤60:=by omega
    go_wp2
    go_ret
    exact ⟨ret_bool F.out.symm,rfl⟩
   ·have F:Hid (fewB rs=false):=by
     show fewB rs=_
     unfold fewB
     rw [decide_eq_false h60];rfl
    have h60':decide ((rs.length:Int)≤60)=false:=decide_eq_false (by omega)
    go_wp2
    go_ret
    exact ⟨ret_bool F.out.symm,rfl⟩
end Go.Proofs.YtajlleeonddinaaGreatDoor.Im
namespace Go.Proofs.YtajlleeonddinaaGreatDoor.Im
open Go.RowKit
theorem run_append_nothing (w:World) (base:Nat) (t ty e:TypeId) (size:Nat) (ht:Tryz.prog.underlying t=some (.slice e)) (hs:∀ w,(sizeOf e).run Tryz.prog w=.ok size w)
  (v:Value) (n:Nat) (xs:List Value) (hown:w.ownsRow base e size v n xs) (A:Option Addr) (c:Nat) :
  (Builtin.append_ #[t,t] ty #[v,.slice A 0 c]).run Tryz.prog w=.ok v w:=by
 have h0:∀ x,(loadCells x 0).run Tryz.prog w=.ok #[] w:=fun x=>by simpa using run_loadCells_list (P:=Tryz.prog) w x [] (by simp)
 rcases hown.2 with ⟨rfl,h⟩ | ⟨g,cap,cur,rfl,hb,hg,hm,hle,_⟩
 ·cases A <;> simp [Builtin.append_,run_underlying ht,hs,Builtin.lenOf,Builtin.firstCells,h0]
 ·cases A <;> simp [Builtin.append_,run_underlying ht,hs,Builtin.lenOf,Builtin.firstCells,h0,hm,storeCells] <;> omega
theorem run_append_src (w:World) (base:Nat) (t ty e:TypeId) (i:TypeInfo) (z:Value) (size bytes:Nat) (ht:Tryz.prog.underlying t=some (.slice e)) (hi:Tryz.prog.info? e=some i) (hz:i.zero=some z)
  (hsize:i.size=size) (hby:i.bytes=bytes) (hzs:z.cells.size=size) (hsz:0<size)
  (v:Value) (n:Nat) (xs:List Value) (hown:w.ownsRow base e size v n xs)
  (A:Option Addr) (m c:Nat) (news:List Value) (hl:news.length=m*size) (hnews:m=0∨∃ a,A=some a∧∀ j u,news[j]?=some u→w.cell? (a.add j)=some u) (h1:∀ u∈news,u.oneCell'=true)
  (h63:n+m≤maxLen) (hbytes:(n+m)*bytes≤140737488355328) (hbase:base≤w.heap.size) :
  ∃ v' w',(Builtin.append_ #[t,t] ty #[v,.slice A m c]).run Tryz.prog w=.ok v' w'∧w'.ownsRow base e size v' (n+m) (xs++news)∧w.grownBy w' v.ownBlock:=by
 by_cases hm:m=0
 ·subst hm
  have hn0:news=[]:=List.eq_nil_of_length_eq_zero (by omega)
  subst hn0
  refine ⟨v,w,run_append_nothing w base t ty e size ht (fun w=>?_) v n xs hown A c,?_,World.grownBy.refl _ _⟩
  ·simp [sizeOf,typeInfo,hi,hsize]
  ·simpa using hown
 ·obtain ⟨a,rfl,hn⟩:=hnews.resolve_left hm
  obtain ⟨v',w',h2,h3,h4,_⟩:=run_append_own (P:=Tryz.prog) w base t ty e i z size bytes ht hi hz hsize hby hzs hsz v n xs hown a m c news hl hn h1 h63 hbytes hbase
  exact ⟨v',w',h2,h3,h4⟩
def cellsV (W:List Cel):List Value:=W.flatMap fun c=>[.int .i64 (c.1:Int),.int .u8 (c.2.toNat:Int)]
theorem cellsV_append (V W:List Cel):cellsV (V++W)=cellsV V++cellsV W:=by unfold cellsV;rw [List.flatMap_append]
theorem cellsV_length (W:List Cel):(cellsV W).length=W.length*2:=by
 induction W with
 | nil=>rfl
 | cons c t ih=>
  have:cellsV (c :: t)=[.int .i64 (c.1:Int),.int .u8 (c.2.toNat:Int)]++cellsV t:=rfl
  rw [this,List.length_append,ih]
  simp only [List.length_cons,List.length_nil]
  omega
theorem cellsV_get (W:List Cel) (j:Nat) (h:j<W.length):(cellsV W)[j*2]?=some (.int .i64 (W[j].1:Int))∧(cellsV W)[j*2+1]?=some (.int .u8 (W[j].2.toNat:Int)):=by
 induction W generalizing j with
 | nil=>simp at h
 | cons c t ih=>
  have e:cellsV (c :: t)=.int .i64 (c.1:Int) :: .int .u8 (c.2.toNat:Int) :: cellsV t:=rfl
  cases j with
  | zero=>rw [e];exact ⟨rfl,rfl⟩
  | succ j=>
   obtain ⟨h1,h2⟩:=ih j (by simpa using h)
   rw [e,show (j+1)*2=j*2+1+1 by omega]
   simp only [List.getElem?_cons_succ,List.getElem_cons_succ]
   exact ⟨h1,h2⟩
theorem cellsV_at {W:List Cel} {j:Nat} {u:Value} (h:(cellsV W)[j]?=some u):∃ k,∃ hk:k<W.length,(j=k*2∧u=.int .i64 (W[k].1:Int))∨(j=k*2+1∧u=.int .u8 (W[k].2.toNat:Int)):=by
 have hj:j<W.length*2:=by
  rw [← cellsV_length]
  exact (List.getElem?_eq_some_iff.1 h).1
 have hk:j / 2<W.length:=by omega
 refine ⟨j / 2,hk,?_⟩
 obtain ⟨h1,h2⟩:=cellsV_get W (j / 2) hk
 rcases Nat.mod_two_eq_zero_or_one j with e | e
 ·left
  have e2:j=j / 2*2:=by omega
  rw [← e2,h] at h1
  exact ⟨e2,Option.some.inj h1⟩
 ·right
  have e2:j=j / 2*2+1:=by omega
  rw [← e2,h] at h2
  exact ⟨e2,Option.some.inj h2⟩
theorem CellsP.news {P:Nat→Prop} {w:World} {A:Option Addr} {W:List Cel} (h:CellsP P w A W):W.length=0∨∃ a,A=some a∧∀ j u,(cellsV W)[j]?=some u→w.cell? (a.add j)=some u:=by
 rcases h with rfl | ⟨b,off,rfl,_,hc⟩
 ·exact .inl rfl
 ·refine .inr ⟨_,rfl,fun j u hu=>?_⟩
  have hadd:(⟨b,off,none⟩:Addr).add j=⟨b,off+j,none⟩:=by unfold Addr.add;split <;> simp_all
  rw [hadd]
  obtain ⟨k,hk,⟨rfl,rfl⟩ | ⟨rfl,rfl⟩⟩:=cellsV_at hu
  ·exact (hc k hk).1
  ·exact (hc k hk).2
theorem cellsV_one (W:List Cel):∀ u∈cellsV W,u.oneCell'=true:=by
 intro u hu
 unfold cellsV at hu
 obtain ⟨c,_,h⟩:=List.mem_flatMap.1 hu
 simp only [List.mem_cons,List.not_mem_nil,or_false] at h
 rcases h with rfl | rfl <;> rfl
def OwnC (w wr:World) (v:Value) (W:List Cel):Prop:=wr.ownsRow w.heap.size 107 2 v W.length (cellsV W)∧Below w.heap.size w wr
theorem ownC_start (w:World):OwnC w w (.slice none 0 0) []:=⟨World.ownsRow_nil _ _ _ _,Below.refl _ _⟩
theorem OwnC.alloc {w wr:World} {v:Value} {W:List Cel} (h:OwnC w wr v W) (o:Obj):OwnC w (wr.alloc o) v W:=⟨h.1.alloc o,h.2.alloc h.2.size o⟩
theorem OwnC.cellsP {w wr:World} {v:Value} {W:List Cel} (h:OwnC w wr v W):∃ A cap,v=.slice A W.length cap∧W.length≤cap∧CellsP (w.heap.size≤·) wr A W:=by
 rcases h.1.2 with ⟨rfl,h0⟩ | ⟨g,cap,cur,rfl,hb,_,hm,hcs⟩
 ·have:=List.eq_nil_of_length_eq_zero h0
  subst this
  exact ⟨none,0,rfl,Nat.le_refl _,.inl rfl⟩
 ·refine ⟨_,cap,rfl,by first | exact hm | exact hm.1 | exact hcs.1 | omega,.inr ⟨g,0,rfl,hb,fun j hj=>?_⟩⟩
  obtain ⟨h1,h2⟩:=cellsV_get W j hj
  rw [Nat.zero_add,h.1.cellAt (j*2) (by omega),h.1.cellAt (j*2+1) (by omega)]
  exact ⟨h1,h2⟩
theorem info_cell:(Tryz.prog.info? 107).map (fun i=>(i.zero,i.size,i.bytes))=some (some (.agg #[.int .i64 0,.int .u8 0]),2,16):=by kernel_rfl
theorem append_cells {w wr:World} {v:Value} {W:List Cel} (h:OwnC w wr v W) {P:Nat→Prop} {A:Option Addr} {V:List Cel} (hV:CellsP P wr A V) (c:Nat) (hlen:W.length+V.length≤8796093022208) (ty:TypeId) :
  ∃ v' w',(Builtin.append_ #[34,34] ty #[v,.slice A V.length c]).run Tryz.prog wr=.ok v' w'∧OwnC w w' v' (W++V):=by
 obtain ⟨i0,hi,hz0,hz1,hz2⟩:=info_parts info_cell
 obtain ⟨v',w',h1,h2,h3⟩:=run_append_src wr w.heap.size 34 ty 107 i0 _ 2 16 Tryz.underlying34 hi hz0 hz1 hz2 rfl (by decide) v W.length _ h.1 A V.length c (cellsV V)
  (cellsV_length V) hV.news (cellsV_one V) (by unfold maxLen;omega) (by omega) h.2.size
 refine ⟨v',w',h1,?_,h.2.grown h3 h.2.size fun k hk=>(h.1.lt k hk).1⟩
 rw [List.length_append,cellsV_append]
 exact h2
theorem wpList_appC {w wr:World} {v:Value} {W:List Cel} (h:OwnC w wr v W) {P:Nat→Prop} {A:Option Addr} {V:List Cel} (hV:CellsP P wr A V) (m c:Nat) (hm:m=V.length) (hlen:W.length+V.length≤8796093022208)
  {ops:Array Oper} {rest:List Oper} {o:Oper} {a:Act} {Q:Exit→Act→World→Prop} (hgd:o.guard=none) (s x:Operand)
  (ho:o.op=.call {callee:=.builtin .append,args:=#[s,x],argTypes:=#[34,34]}) (hs:a.eval s=v) (hx:a.eval x=.slice A m c)
  (hk:∀ v' w1,OwnC w w1 v' (W++V)→wpList Tryz.prog ops Q rest (a.put o.dst v') w1):wpList Tryz.prog ops Q (o :: rest) a wr:=by
 subst hm
 obtain ⟨v',w',h1,h2⟩:=append_cells h hV c hlen o.type
 refine wpList_plain hgd fun K hK=>?_
 unfold Oper.wp
 simp [execOp,ho,resolve,invoke,builtin,hs,hx,h1,Result.andThen]
 exact hK _ _ (hk _ _ h2)
theorem cell_one (wr:World) (a:Nat) (x:UInt8) (n m:Int) (hn:n=a) (hm:m=x.toNat):CellsP (fun _=>True) (wr.alloc (.cells #[.int .i64 n,.int .u8 m] 107)) (some ⟨wr.heap.size,0,none⟩) [(a,x)]:=by
 subst hn hm
 refine .inr ⟨_,0,rfl,trivial,fun j hj=>?_⟩
 have:j=0:=by simpa using hj
 subst this
 simp [go_sem]
theorem mk_take (a:Nat) (xs:List UInt8) (k:Nat) (h:k<xs.length):mkW a (xs.take (k+1))=mkW a (xs.take k)++[(a+k,xs[k])]:=by
 rw [List.take_succ_eq_append_getElem h,mkW_append,List.length_take,Nat.min_eq_left (by omega)]
 rfl
def RetCells (P:Nat→Prop) (w:World) (W:List Cel) (c:Int) (e:Ending) (w':World):Prop:=
 ∃ A cap,e=.returned (.tuple #[.slice A W.length cap,.int .i64 c])∧W.length≤cap∧CellsP P w' A W∧Below w.heap.size w w'
end Go.Proofs.YtajlleeonddinaaGreatDoor.Im
namespace Go.Proofs.YtajlleeonddinaaGreatDoor.Im
open Go.RowKit
theorem slice_hi (A:Option Addr) (len cap i:Nat) (hi:i≤cap) (w:World) :
  (Instr.slice 34 (.slice A len cap) none (some (.int .i64 (i:Int))) none).run Tryz.prog w=.ok (.slice A i cap) w:=by
 have h2:Tryz.prog.elem 34=107:=by unfold Program.elem;rw [Tryz.underlying34]
 rw [run_slice_h w 34 A len cap (by rw [h2];exact Tryz.underlying34) .i64 (i:Int) (by omega) (by omega),h2,Tryz.sizeOf107]
 simp only [Result.andThen_ok,sliced]
 have e:(if cap=0 then A else A.map (·.add (0*2)))=A:=by
  split
  ·rfl
  ·cases A <;> simp [Addr.add]
 rw [e,show ((i:Int)).toNat - 0=i by omega,Nat.sub_zero]
theorem slice_lo (P:Nat→Prop) (A:Option Addr) (W:List Cel) (cap i:Nat) (hi:i≤W.length) (hc:W.length≤cap) (w:World) (hW:CellsP P w A W) :
  ∃ A',(∀ w,(Instr.slice 34 (.slice A W.length cap) (some (.int .i64 (i:Int))) none none).run Tryz.prog w=.ok (.slice A' (W.length - i) (cap - i)) w)∧CellsP P w A' (W.drop i):=by
 refine ⟨if cap=i then A else A.map (·.add (i*2)),fun w=>?_,?_⟩
 ·have h2:Tryz.prog.elem 34=107:=by unfold Program.elem;rw [Tryz.underlying34]
  rw [run_slice_l w 34 A W.length cap (by rw [h2];exact Tryz.underlying34) .i64 (i:Int) (by omega) (by omega),h2,Tryz.sizeOf107]
  simp only [Result.andThen_ok,sliced]
  rw [show ((i:Int)).toNat=i by omega]
 ·by_cases h0:W.length≤i
  ·left;exact List.drop_eq_nil_of_le h0
  ·rcases hW with rfl | ⟨b,off,rfl,hp,hcl⟩
   ·simp at h0
   ·right
    rw [if_neg (by omega)]
    refine ⟨b,off+i*2,?_,hp,fun j hj=>?_⟩
    ·simp only [Option.map_some,Option.some.injEq]
     unfold Addr.add
     split
     ·rename_i h;rw [h];rfl
     ·rfl
    ·have hj':i+j<W.length:=by simp at hj;omega
     have h:=hcl (i+j) hj'
     rw [show off+i*2+j*2=off+(i+j)*2 by omega,List.getElem_drop]
     exact h
theorem CellsP.take {P:Nat→Prop} {w:World} {A:Option Addr} {W:List Cel} (h:CellsP P w A W) (i:Nat):CellsP P w A (W.take i):=by
 rcases h with rfl | ⟨b,off,rfl,hp,hc⟩
 ·left;simp
 ·right
  refine ⟨b,off,rfl,hp,fun j hj=>?_⟩
  have hj':j<W.length:=by simp at hj;omega
  rw [List.getElem_take]
  exact hc j hj'
theorem rputBad1 (P:Nat→Prop) (A:Option Addr) (cap:Nat) (W:List Cel) (n:Int) (B:Option Addr) (bcap:Nat) (xs:List UInt8) (w:World) (hcap:W.length≤cap) (hW:CellsP P w A W) (ha:addrB n=false) :
  Calls Tryz.prog 34 #[.slice A W.length cap,.int .i64 n,.slice B xs.length bcap] w (RetCells P w W 2):=by
 have N:Hid (RetCells P w W 2 (.returned (.tuple #[.slice A W.length cap,.int .i64 2])) w):=⟨A,cap,rfl,hcap,hW,Below.refl _ _⟩
 clear hW
 by_cases h0:n<0
 ·clear ha
  go_enter Tryz.func34,Tryz.ntmps34
  go_wp2
  go_ret2
  exact N.out
 ·have h1:65535<n:=by
   unfold addrB at ha
   rw [Bool.and_eq_false_iff,decide_eq_false_iff_not,decide_eq_false_iff_not] at ha
   omega
  clear ha
  go_enter Tryz.func34,Tryz.ntmps34
  go_wp2
  go_ret2
  exact N.out
theorem rputBad2 (P:Nat→Prop) (A:Option Addr) (cap:Nat) (W:List Cel) (n:Int) (h0:0≤n) (h1:n≤65535) (B:Option Addr) (bcap:Nat) (xs:List UInt8) (w:World) (hcap:W.length≤cap) (hW:CellsP P w A W) (hw:65536 - n<(xs.length:Int)) (hl:xs.length≤maxLen) :
  Calls Tryz.prog 34 #[.slice A W.length cap,.int .i64 n,.slice B xs.length bcap] w (RetCells P w W 10):=by
 have N:Hid (RetCells P w W 10 (.returned (.tuple #[.slice A W.length cap,.int .i64 10])) w):=⟨A,cap,rfl,hcap,hW,Below.refl _ _⟩
 unfold maxLen at hl
 clear hW
 go_enter Tryz.func34,Tryz.ntmps34
 go_wp2
 go_ret2
 exact N.out
theorem rputNone (P:Nat→Prop) (A:Option Addr) (cap:Nat) (W:List Cel) (hWl:W.length≤65536) (n:Int) (h0:0≤n) (h1:n≤65535) (B:Option Addr) (bcap:Nat) (w:World) (hcap:W.length≤cap) (hW:CellsP P w A W) :
  Calls Tryz.prog 34 #[.slice A W.length cap,.int .i64 n,.slice B 0 bcap] w (RetCells P w W 0):=by
 have N:Hid (RetCells P w W 0 (.returned (.tuple #[.slice A W.length cap,.int .i64 0])) w):=⟨A,cap,rfl,hcap,hW,Below.refl _ _⟩
 have hf:=find_any P A cap W (by unfold maxLen;omega) n w hW
 clear hW
 have h2:decide (65536 - n<0)=false:=decide_eq_false (by omega)
 go_enter Tryz.func34,Tryz.ntmps34
 go_wp2_with fail
 refine hf.mono ?_
 rintro e w1 ⟨rfl,rfl⟩
 go_wp2
 go_ret2
 exact N.out
theorem rputOver (P:Nat→Prop) (A:Option Addr) (cap:Nat) (W:List Cel) (hs:SortedW W) (a:Nat) (B:Option Addr) (bcap:Nat) (xs:List UInt8) (hx:xs≠[]) (hax:a+xs.length≤65536) (w:World) (hcap:W.length≤cap) (hW:CellsP P w A W)
  (hov:anyB (fun j=>hasW W (a+j)) xs.length=true) :
  Calls Tryz.prog 34 #[.slice A W.length cap,.int .i64 a,.slice B xs.length bcap] w (RetCells P w W 4):=by
 have N:Hid (RetCells P w W 4 (.returned (.tuple #[.slice A W.length cap,.int .i64 4])) w):=⟨A,cap,rfl,hcap,hW,Below.refl _ _⟩
 have hWl:=sorted_length hs
 have hf:=find_any P A cap W (by unfold maxLen;omega) (a:Int) w hW
 obtain ⟨hk,ho⟩:=(over_iff hs hx).2 hov
 obtain ⟨b,off,hA,g1,g2⟩:=hW.at_ hk
 subst hA
 have hx0:0<xs.length:=List.length_pos_iff.2 hx
 have e0:((xs.length:Int) == 0)=false:=beq_eq_false_iff_ne.2 (by omega)
 have hk2:(findW W (a:Int):Int)<(W.length:Int):=by omega
 have ho2:(W[findW W (a:Int)].1:Int)<(a:Int)+(xs.length:Int):=by omega
 obtain ⟨i,hi⟩:∃ i,findW W (a:Int)=i:=⟨_,rfl⟩
 obtain ⟨y,hy⟩:∃ y:Int,(W[findW W (a:Int)].1:Int)=y:=⟨_,rfl⟩
 rw [hy] at g1 ho2
 rw [hi] at hf g1 hk2
 have h2:decide (65536 - (a:Int)<(xs.length:Int))=false:=decide_eq_false (by omega)
 have h3:(a:Int)≤65535:=by omega
 clear hW hov ho hy hi g2 hx hs
 go_enter Tryz.func34,Tryz.ntmps34
 go_wp2_with fail
 refine hf.mono ?_
 rintro e w1 ⟨rfl,rfl⟩
 go_wp2
 go_ret2
 exact N.out
theorem rputGood (P:Nat→Prop) (A:Option Addr) (cap:Nat) (W:List Cel) (hs:SortedW W) (a:Nat) (Q:Nat→Prop) (B:Option Addr) (bcap:Nat) (xs:List UInt8) (hx:xs≠[]) (hax:a+xs.length≤65536) (w:World) (hcap:W.length≤cap) (hW:CellsP P w A W)
  (hB:BytesP Q w B xs) (hov:anyB (fun j=>hasW W (a+j)) xs.length=false) :
  Calls Tryz.prog 34 #[.slice A W.length cap,.int .i64 a,.slice B xs.length bcap] w (RetCells (w.heap.size≤·) w (insW W a xs) 0):=by
 have hWl:=sorted_length hs
 have hf:=find_any P A cap W (by unfold maxLen;omega) (a:Int) w hW
 have hno:¬∃ h:findW W a<W.length,W[findW W a].1<a+xs.length:=fun h=>by
  have:=(over_iff hs hx).1 h
  rw [hov] at this;cases this
 have hx0:0<xs.length:=List.length_pos_iff.2 hx
 have e0:((xs.length:Int) == 0)=false:=beq_eq_false_iff_ne.2 (by omega)
 have hil:=findW_le W (a:Int)
 have h2:decide (65536 - (a:Int)<(xs.length:Int))=false:=decide_eq_false (by omega)
 have h3:(a:Int)≤65535:=by omega
 have Z:=Lib.hid hW
 have X:=Lib.hid hB
 have HS:=Lib.hid hs
 clear hov hW hB hx hs
 obtain ⟨i,hi⟩:∃ i,findW W (a:Int)=i:=⟨_,rfl⟩
 have HI:=Lib.hid hi
 rw [hi] at hf hil
 by_cases hlt:i<W.length
 case' neg=>
  have hlt2:decide ((i:Int)<(W.length:Int))=false:=decide_eq_false (by omega)
  clear hno hi
  go_enter Tryz.func34,Tryz.ntmps34
  go_wp2_with fail
  refine hf.mono ?_
  rintro e w1 ⟨rfl,rfl⟩
  go_wp2
 case' pos=>
  obtain ⟨b,off,hA,g1,g2⟩:=Z.out.at_ hlt
  subst hA
  have ho:¬(W[i].1<a+xs.length):=fun h=>hno (by subst hi;exact ⟨hlt,h⟩)
  obtain ⟨y,hy⟩:∃ y:Int,(W[i].1:Int)=y:=⟨_,rfl⟩
  rw [hy] at g1
  have hoy:decide (y<(a:Int)+(xs.length:Int))=false:=decide_eq_false (by omega)
  have hlt2:(i:Int)<(W.length:Int):=by omega
  clear hno ho hy g2 hi
  go_enter Tryz.func34,Tryz.ntmps34
  go_wp2_with fail
  refine hf.mono ?_
  rintro e w1 ⟨rfl,rfl⟩
  go_wp2
 all_goals
  clear hlt2 e0 hf h2
  go_loopw [9,10] (fun v i wr=>∃ k:Nat,k≤xs.length∧i=.int .i64 k∧OwnC w wr v (mkW a (xs.take k))) (fun _ i _=>xs.length - (intOf i).toNat)
  case atStart=>exact ⟨0,Nat.zero_le _,rfl,ownC_start w⟩
  case round=>
   obtain ⟨k,hk,rfl,hr⟩:=hrel
   have R:=Lib.hid hr
   clear hr
   by_cases hlt:k<xs.length
   ·obtain ⟨bb,ob,hB,g⟩:=(X.out.below R.out.2).at_ hlt
    subst hB
    have M:=Lib.hid (mk_take a xs k hlt)
    have R1:=fun o=>Lib.hid (R.out.alloc o)
    have hmk:(mkW a (xs.take k)).length≤k:=by rw [mkW_length];simp;omega
    have hm1:(mkW a (xs.take k)).length + [(a+k,xs[k])].length≤8796093022208:=by simp only [List.length_cons,List.length_nil];omega
    clear hmk
    have HM:=Lib.hid hm1
    clear hm1
    go_wp2_with (at_builtin;refine wpList_appC (R1 _).out (cell_one _ (a+k) xs[k] _ _ (by omega) rfl) 1 1 rfl HM.out rfl _ _ rfl rfl rfl ?_)
    intro v' w1 ho
    have N:Hid (OwnC w w1 v' (mkW a (xs.take (k+1)))):=by rw [M.out];exact ho
    clear ho
    go_wp2
    go_roundw
    case rel=>exact ⟨k+1,by omega,by go_num,N.out⟩
    case measure=>simp [intOf];omega
   ·have N:Hid (OwnC w wr u9 (mkW a xs)):=by
     have h:=R.out
     rwa [List.take_of_length_le (by omega)] at h
    have hk2:decide ((k:Int)<(xs.length:Int))=false:=decide_eq_false (by omega)
    obtain ⟨A9,cap9,hv9,hc9,C9⟩:=N.out.cellsP
    rw [mkW_length] at hv9 hc9
    subst hv9
    obtain ⟨A7,hsl,C7⟩:=slice_lo P _ W cap i hil hcap w Z.out
    have hsh:=fun (A:Option Addr) w=>slice_hi A W.length cap i (by omega) w
    have B1:Below w.heap.size w wr:=N.out.2
    have hB1:=B1.size
    have S0:Hid (OwnC wr (wr.drew.alloc (.cells #[] 107)) (.slice (some ⟨wr.heap.size,0,none⟩) 0 0) []):=
     Lib.hid ⟨World.ownsRow_made wr.drew #[] 0 (Nat.le_refl _) (by unfold maxLen;omega) rfl,(Below.refl _ _).drew.alloc (Nat.le_refl _) _⟩
    have T0:=Lib.hid (((Z.out.take i).below B1).below S0.out.2)
    have T7:=Lib.hid (C7.below B1)
    have L0:Hid (i=(W.take i).length):=by show i=_;rw [List.length_take];omega
    have L1:Hid (xs.length=(mkW a xs).length):=(mkW_length a xs).symm
    have L2:Hid (W.length - i=(W.drop i).length):=(List.length_drop ..).symm
    have M0:Hid (([]:List Cel).length+(W.take i).length≤8796093022208):=by show _≤_;rw [← L0.out];simp only [List.length_nil];omega
    have M1:Hid (([]++W.take i).length+(mkW a xs).length≤8796093022208):=by show _≤_;rw [List.nil_append,← L0.out,← L1.out];omega
    have M2:Hid (([]++W.take i++mkW a xs).length+(W.drop i).length≤8796093022208):=by show _≤_;rw [List.nil_append,List.length_append,← L0.out,← L1.out,← L2.out];omega
    have F:Hid (∀ A5 cap5 w5,([]++W.take i++mkW a xs++W.drop i).length≤cap5→CellsP (wr.heap.size≤·) w5 A5 ([]++W.take i++mkW a xs++W.drop i)→Below wr.heap.size wr w5→
      RetCells (w.heap.size≤·) w (insW W a xs) 0 (.returned (.tuple #[.slice A5 ([]++W.take i++mkW a xs++W.drop i).length cap5,.int .i64 0])) w5):=by
     intro A5 cap5 w5 h1 h2 h3
     have e:[]++W.take i++mkW a xs++W.drop i=insW W a xs:=by
      unfold insW;rw [HI.out,List.nil_append]
     rw [e] at h1 h2 ⊢
     exact ⟨A5,cap5,rfl,h1,h2.mono (fun j _ hj=>Nat.le_trans hB1 hj),B1.trans (h3.mono hB1)⟩
    clear B1 hB1 C7
    go_wp2
    refine Mixed.wp_region_mixed (fun _=>True) 11 [(1,true),(2,true),(3,true),(5,true),(7,true),(8,true),(9,true),(0,false),(4,false),(6,false),(10,false)] (by kernel_rfl) (by kernel_rfl) trivial ?_
    refine Mixed.wpMix_move rfl rfl _ rfl _ rfl ?_
    refine Mixed.wpMix_move rfl rfl _ rfl _ rfl ?_
    refine Mixed.wpMix_pure rfl rfl _ (fun w _=>by go_simp;rfl) ?_
    refine Mixed.wpMix_move rfl rfl _ rfl _ rfl ?_
    refine Mixed.wpMix_move rfl rfl _ rfl _ rfl ?_
    refine Mixed.wpMix_move rfl rfl _ rfl _ rfl ?_
    refine Mixed.wpMix_pure rfl rfl _ (fun w _=>by go_simp;rfl) ?_
    refine Mixed.wpMix_loud rfl ?_
    go_wp2
    refine ⟨trivial,?_⟩
    refine Mixed.wpMix_loud rfl ?_
    refine wpList_appC S0.out T0.out i cap L0.out M0.out rfl _ _ rfl rfl rfl ?_
    intro v3 w3 o3
    refine ⟨trivial,?_⟩
    refine Mixed.wpMix_loud rfl ?_
    refine wpList_appC o3 (C9.below o3.2) xs.length cap9 L1.out M1.out rfl _ _ rfl rfl rfl ?_
    intro v4 w4 o4
    refine ⟨trivial,?_⟩
    refine Mixed.wpMix_loud rfl ?_
    refine wpList_appC o4 (T7.out.below o4.2) (W.length - i) (cap - i) L2.out M2.out rfl _ _ rfl rfl rfl ?_
    intro v5 w5 o5
    refine ⟨trivial,?_⟩
    obtain ⟨A5,cap5,hv5,hc5,C5⟩:=o5.cellsP
    have K:=Lib.hid (F.out A5 cap5 w5 hc5 C5 o5.2)
    have L3:=Lib.hid hv5
    clear o3 o4 o5 hc5 C5 hv5
    simp only [Mixed.wpMix,List.drop_succ_cons,List.drop_zero]
    go_wp2
    rw [L3.out]
    go_ret2
    exact K.out
theorem RetCells.mono {P Q:Nat→Prop} {w:World} {W:List Cel} {c:Int} {e:Ending} {w':World} (h:RetCells P w W c e w') (hPQ:∀ i,P i→Q i):RetCells Q w W c e w':=by
 obtain ⟨A,cap,h1,h2,h3,h4⟩:=h
 exact ⟨A,cap,h1,h2,h3.mono fun i _ hi=>hPQ i hi,h4⟩
theorem rput_any (P:Nat→Prop) (A:Option Addr) (cap:Nat) (W:List Cel) (hs:SortedW W) (n:Int) (Q:Nat→Prop) (B:Option Addr) (bcap:Nat) (xs:List UInt8) (hl:xs.length≤maxLen) (w:World) (hP:∀ i,w.heap.size≤i→P i)
  (hcap:W.length≤cap) (hW:CellsP P w A W) (hB:BytesP Q w B xs) :
  Calls Tryz.prog 34 #[.slice A W.length cap,.int .i64 n,.slice B xs.length bcap] w (RetCells P w (putW W n xs) (codeW W n xs)):=by
 unfold putW
 cases ha:addrB n
 ·have e:codeW W n xs=2:=by unfold codeW putE;rw [if_pos ha]
  rw [e,if_neg (by decide)]
  exact rputBad1 P A cap W n B bcap xs w hcap hW ha
 ·have ha':=ha
  unfold addrB at ha'
  rw [Bool.and_eq_true,decide_eq_true_eq,decide_eq_true_eq] at ha'
  by_cases hw:65536 - n<(xs.length:Int)
  ·have e:codeW W n xs=10:=by unfold codeW putE;rw [if_neg (by rw [ha];decide),if_pos hw]
   rw [e,if_neg (by decide)]
   exact rputBad2 P A cap W n ha'.1 (by omega) B bcap xs w hcap hW hw hl
  ·obtain ⟨a,rfl⟩:∃ a:Nat,n=a:=⟨n.toNat,by omega⟩
   by_cases hx:xs=[]
   ·subst hx
    have e:codeW W a []=0:=by
     unfold codeW putE
     rw [if_neg (by rw [ha];decide),if_neg hw,if_neg (fun h=>by obtain ⟨k,hk,_⟩:=anyB_iff.1 h;exact absurd hk (Nat.not_lt_zero _))]
    rw [e,if_pos rfl,insW_nil]
    exact rputNone P A cap W (sorted_length hs) a ha'.1 (by omega) B bcap w hcap hW
   ·have e:codeW W a xs=if anyB (fun j=>hasW W (a+j)) xs.length then 4 else 0:=by
     unfold codeW putE
     rw [if_neg (by rw [ha];decide),if_neg hw]
     rfl
    cases hov:anyB (fun j=>hasW W (a+j)) xs.length
    ·rw [hov] at e
     rw [e]
     exact (rputGood P A cap W hs a Q B bcap xs hx (by omega) w hcap hW hB hov).mono fun e w' h=>h.mono hP
    ·rw [hov] at e
     rw [e]
     exact rputOver P A cap W hs a B bcap xs hx (by omega) w hcap hW hov
def ImgOf (w:World) (b:Nat) (W:List Cel):Prop:=SortedW W∧ImgF w b (hasW W) (W.length:Int) (byteW W)
theorem ImgOf.below {w w':World} {b:Nat} {W:List Cel} (h:ImgOf w b W) (k:Below w.heap.size w w'):ImgOf w' b W:=⟨h.1,h.2.below k⟩
theorem ImgOf.keep {w w':World} {b a:Nat} {W:List Cel} (h:ImgOf w b W) (k:Keep a w w') (hn:b≠a):ImgOf w' b W:=⟨h.1,h.2.keep k hn⟩
theorem ImgOf.lt {w:World} {b:Nat} {W:List Cel} (h:ImgOf w b W):b<w.heap.size:=World.rowIs.lt h.2
theorem sorted_nil:SortedW []:=⟨List.Pairwise.nil,fun _ h=>by cases h⟩
def NewOf (w:World) (W:List Cel) (e:Ending) (w':World):Prop:=∃ b,e=.returned (.pointer (some ⟨b,0,none⟩))∧w.heap.size≤b∧ImgOf w' b W∧Below w.heap.size w w'
theorem newOf_any (w:World):Calls Tryz.prog 32 #[] w (NewOf w []):=
 (new_any w).mono fun e w' ⟨b,h1,h2,h3,h4⟩=>⟨b,h1,h2,⟨sorted_nil,h3⟩,h4⟩
theorem put_any (b:Nat) (W:List Cel) (n:Int) (P:Nat→Prop) (hP:¬P b) (A:Option Addr) (xs:List UInt8) (cap:Nat) (w:World) (hl:xs.length≤maxLen) (hI:ImgOf w b W) (hx:BytesP P w A xs) :
  Calls Tryz.prog 33 #[.pointer (some ⟨b,0,none⟩),.int .i64 n,.slice A xs.length cap] w fun e w'=>
   e=.returned (.int .i64 (codeW W n xs))∧ImgOf w' b (putW W n xs)∧Keep b w w':=by
 have hWl:=sorted_length hI.1
 unfold putW
 by_cases h:codeW W n xs=0
 ·rw [if_pos h,h]
  obtain ⟨h0,h1,h2,h3⟩:=code_zero h
  refine (put_good b _ _ (by omega) (by omega) _ n P hP A xs cap w hl hI.2 hx h).mono fun e w' ⟨k1,k2,k3⟩=>⟨k1,⟨insW_sorted hI.1 h2 h3,?_⟩,k3⟩
  rw [insW_length]
  have k4:=k2.congr (H':=hasW (insW W n.toNat xs)) (D':=byteW (insW W n.toNat xs)) (fun i _=>(hasW_ins W n.toNat xs i).symm) (fun i _=>(byteW_ins hI.1 h2 h3 i).symm)
  exact k4
 ·rw [if_neg h]
  exact (put_bad b _ _ _ n A xs cap w hl hI.2 h).mono fun e w' ⟨k1,k2⟩=>by subst k2;exact ⟨k1,hI,Keep.refl _ _⟩
theorem getOf_any (b:Nat) (W:List Cel) (n:Int) (w:World) (hI:ImgOf w b W) :
  Calls Tryz.prog 35 #[.pointer (some ⟨b,0,none⟩),.int .i64 n] w fun e w'=>e=.returned (.tuple #[.int .u8 ((getV W n).toNat:Int),.bool (getOk W n)])∧w=w':=by
 have h:=get_any b _ _ _ n w hI.2 fun i _ hi=>byteW_none hi
 have e:(if addrB n=true then ((byteW W n.toNat).toNat:Int) else 0)=((getV W n).toNat:Int):=by
  unfold getV;split <;> rfl
 rw [e] at h
 exact h
end Go.Proofs.YtajlleeonddinaaGreatDoor.Im
namespace Go.Proofs.YtajlleeonddinaaGreatDoor.Im
open Go.RowKit
end Go.Proofs.YtajlleeonddinaaGreatDoor.Im
namespace Go.Proofs.YtajlleeonddinaaGreatDoor.Im
open Go.RowKit
end Go.Proofs.YtajlleeonddinaaGreatDoor.Im
namespace Go.Proofs.YtajlleeonddinaaGreatDoor.Im
open Go.RowKit
end Go.Proofs.YtajlleeonddinaaGreatDoor.Im
namespace Go.Proofs.YtajlleeonddinaaGreatDoor.Im
open Go.RowKit
def below (W:List Cel) (k:Nat):List Cel:=W.filter fun c=>decide (c.1<k)
end Go.Proofs.YtajlleeonddinaaGreatDoor.Im
namespace Go.Proofs.YtajlleeonddinaaGreatDoor.Im
open Go.RowKit
def runsV (rs:List R):List Value:=rs.flatMap fun r=>[.int .i64 r.addr,.slice r.A r.data.length r.cap]
theorem runsV_append (V W:List R):runsV (V++W)=runsV V++runsV W:=by unfold runsV;rw [List.flatMap_append]
theorem runsV_length (W:List R):(runsV W).length=W.length*2:=by
 induction W with
 | nil=>rfl
 | cons c t ih=>
  have:runsV (c :: t)=[.int .i64 c.addr,.slice c.A c.data.length c.cap]++runsV t:=rfl
  rw [this,List.length_append,ih]
  simp only [List.length_cons,List.length_nil]
  omega
theorem runsV_get (W:List R) (j:Nat) (h:j<W.length):(runsV W)[j*2]?=some (.int .i64 W[j].addr)∧(runsV W)[j*2+1]?=some (.slice W[j].A W[j].data.length W[j].cap):=by
 induction W generalizing j with
 | nil=>simp at h
 | cons c t ih=>
  have e:runsV (c :: t)=.int .i64 c.addr :: .slice c.A c.data.length c.cap :: runsV t:=rfl
  cases j with
  | zero=>rw [e];exact ⟨rfl,rfl⟩
  | succ j=>
   obtain ⟨h1,h2⟩:=ih j (by simpa using h)
   rw [e,show (j+1)*2=j*2+1+1 by omega]
   simp only [List.getElem?_cons_succ,List.getElem_cons_succ]
   exact ⟨h1,h2⟩
def OwnR (e:TypeId) (P:Nat→Prop) (w wr:World) (v:Value) (rs:List R):Prop:=
 wr.ownsRow w.heap.size e 2 v rs.length (runsV rs)∧Below w.heap.size w wr∧∀ r∈rs,BytesP (fun i=>P i∧some i≠v.ownBlock) wr r.A r.data
theorem OwnR.alloc {e:TypeId} {P:Nat→Prop} {w wr:World} {v:Value} {rs:List R} (h:OwnR e P w wr v rs) (o:Obj):OwnR e P w (wr.alloc o) v rs:=
 ⟨h.1.alloc o,h.2.1.alloc h.2.1.size o,fun r hr=>(h.2.2 r hr).below ((Below.refl _ _).alloc (Nat.le_refl _) o)⟩
theorem grownBy_below {w w':World} (h:Below w.heap.size w w') (row:Option Nat):w.grownBy w' row:=⟨h.os,h.tape,h.output,h.size,fun k hk _=>h.block k hk⟩
theorem OwnR.below {e:TypeId} {P:Nat→Prop} {w wr w':World} {v:Value} {rs:List R} (h:OwnR e P w wr v rs) (k:Below wr.heap.size wr w'):OwnR e P w w' v rs:=
 ⟨by
  cases hv:v.ownBlock with
  | none=>exact h.1.kept (grownBy_below k none) (.inl hv)
  | some b=>exact h.1.kept (grownBy_below k none) (.inr (by rw [hv];simp)),h.2.1.trans (k.mono h.2.1.size),fun r hr=>(h.2.2 r hr).below k⟩
theorem wpList_run_append {w w1:World} {t ty:TypeId} {v y v':Value} (h1:(Builtin.append_ #[t,t] ty #[v,y]).run Tryz.prog w=.ok v' w1) {ops:Array Oper} {rest:List Oper} {o:Oper} {a:Act} {Q:Exit→Act→World→Prop} (hgd:o.guard=none) (s x:Operand)
  (ho:o.op=.call {callee:=.builtin .append,args:=#[s,x],argTypes:=#[t,t]}) (hty:o.type=ty) (hs:a.eval s=v) (hx:a.eval x=y) (hk:wpList Tryz.prog ops Q rest (a.put o.dst v') w1):wpList Tryz.prog ops Q (o :: rest) a w:=by
 subst hty
 refine wpList_plain hgd fun K hK=>?_
 unfold Oper.wp
 simp [execOp,ho,resolve,invoke,builtin,hs,hx,h1,Result.andThen]
 exact hK _ _ hk
def u8V (b:UInt8):Value:=.int .u8 (b.toNat:Int)
theorem own_bytes {w:World} {base:Nat} {e:TypeId} {v:Value} {n:Nat} {xs:List UInt8} (h:w.ownsRow base e 1 v n (xs.map u8V)) (hn:n=xs.length):∃ A cap,v=.slice A xs.length cap∧BytesP (fun i=>base≤i∧some i=v.ownBlock) w A xs:=by
 subst hn
 rcases h.2 with ⟨rfl,h0⟩ | ⟨g,cap,cur,rfl,hb,_⟩
 ·exact ⟨none,0,by rw [h0],.inl (List.eq_nil_of_length_eq_zero h0)⟩
 ·refine ⟨_,cap,rfl,.inr ⟨g,0,rfl,⟨hb,rfl⟩,fun j hj=>?_⟩⟩
  rw [Nat.zero_add,h.cellAt j (by omega)]
  simp [u8V,List.getElem?_eq_getElem hj]
theorem BytesP.news {P:Nat→Prop} {w:World} {A:Option Addr} {xs:List UInt8} (h:BytesP P w A xs):xs.length=0∨∃ a,A=some a∧∀ j u,(xs.map u8V)[j]?=some u→w.cell? (a.add j)=some u:=by
 rcases h with rfl | ⟨b,off,rfl,_,hc⟩
 ·exact .inl rfl
 ·refine .inr ⟨_,rfl,fun j u hu=>?_⟩
  have hadd:(⟨b,off,none⟩:Addr).add j=⟨b,off+j,none⟩:=by unfold Addr.add;split <;> simp_all
  rw [List.getElem?_map] at hu
  by_cases hj:j<xs.length
  ·rw [List.getElem?_eq_getElem hj] at hu
   simp only [Option.map_some,Option.some.injEq] at hu
   subst hu
   rw [hadd]
   exact hc j hj
  ·rw [List.getElem?_eq_none (by omega)] at hu;cases hu
def RetB (w:World) (xs:List UInt8) (e:Ending) (w':World):Prop:=∃ A cap,e=.returned (.slice A xs.length cap)∧BytesP (w.heap.size≤·) w' A xs∧Below w.heap.size w w'
def pairs (rs:List R):List (Int×List UInt8):=rs.map fun r=>(r.addr,r.data)
end Go.Proofs.YtajlleeonddinaaGreatDoor.Im
namespace Go.Proofs.YtajlleeonddinaaGreatDoor.Im
open Go.RowKit
def RR (w wr:World) (v:Value) (init:List R) (last:R):Prop:=
 OwnR 69 (w.heap.size≤·) w wr v (init++[last])∧
 wr.ownsRow w.heap.size 5 1 (.slice last.A last.data.length last.cap) last.data.length (last.data.map u8V)∧
 ((Value.slice last.A last.data.length last.cap).ownBlock=none∨(Value.slice last.A last.data.length last.cap).ownBlock≠v.ownBlock)∧
 ∀ r∈init,BytesP (fun i=>w.heap.size≤i∧some i≠v.ownBlock∧some i≠(Value.slice last.A last.data.length last.cap).ownBlock) wr r.A r.data
theorem RR.drew {w wr:World} {v:Value} {init:List R} {last:R} (h:RR w wr v init last):RR w wr.drew v init last:=
 ⟨h.1.below (Below.refl _ _).drew,h.2.1,h.2.2.1,fun r hr=>(h.2.2.2 r hr).blocks fun _ _ _=>rfl⟩
theorem RR.fresh {w wr:World} {v:Value} {rs:List R} (a:Int) (h:OwnR 69 (w.heap.size≤·) w wr v (rs++[⟨a,none,0,[]⟩])):RR w wr v rs ⟨a,none,0,[]⟩:=
 ⟨h,World.ownsRow_nil _ _ _ _,.inl rfl,fun r hr=>(h.2.2 r (List.mem_append_left _ hr)).mono fun i _ hi=>⟨hi.1,hi.2,by simp [Value.ownBlock]⟩⟩
theorem RR.of {w wr:World} {v:Value} {init:List R} {last:R} (h:RR w wr v init last):∃ g cap,v=.slice (some ⟨g,0,none⟩) (init.length+1) cap∧w.heap.size≤g∧g<wr.heap.size∧
  wr.cell? ⟨g,init.length*2+1,none⟩=some (.slice last.A last.data.length last.cap)∧wr.frozen? ⟨g,init.length*2+1,none⟩=false:=by
 obtain ⟨h1,_⟩:=h
 have hl:(init++[last]).length=init.length+1:=by simp
 rcases h1.1.2 with ⟨_,h0⟩ | ⟨g,cap,cur,rfl,hb,hg,_⟩
 ·rw [hl] at h0;omega
 ·refine ⟨g,cap,by rw [hl],hb,(Array.getElem?_eq_some_iff.1 hg).1,?_,frozen_of_row wr g _ cur _ hg⟩
  rw [h1.1.cellAt _ (by omega),(runsV_get (init++[last]) init.length (by omega)).2]
  simp
theorem runsV_set (init:List R) (last new:R) (h:new.addr=last.addr):(runsV (init++[last])).set (init.length*2+1) (.slice new.A new.data.length new.cap)=runsV (init++[new]):=by
 rw [runsV_append,runsV_append,List.set_append_right _ _ (by rw [runsV_length];omega),runsV_length,show init.length*2+1 - init.length*2=1 by omega]
 unfold runsV
 simp [h]
theorem RR.next {w wr w1 w2:World} {v:Value} {init:List R} {last:R} (h:RR w wr v init last) (hb:Below wr.heap.size wr w1) {g cap:Nat} (hv:v=.slice (some ⟨g,0,none⟩) (init.length+1) cap) (x:UInt8) (A:Option Addr) (c:Nat)
  (h2:w2.ownsRow w.heap.size 5 1 (.slice A (last.data.length+1) c) (last.data.length+1) (last.data.map u8V++[u8V x])) (hg:w1.grownBy w2 (Value.slice last.A last.data.length last.cap).ownBlock)
  (ho:(Value.slice A (last.data.length+1) c).ownBlock=(Value.slice last.A last.data.length last.cap).ownBlock∨(Value.slice A (last.data.length+1) c).ownBlock=some w1.heap.size) :
  RR w (w2.setCell ⟨g,init.length*2+1,none⟩ (.slice A (last.data.length+1) c)) v init ⟨last.addr,A,c,last.data++[x]⟩:=by
 have hO:=h.1.below hb
 have hlt:g<wr.heap.size:=by
  have:=(h.1.1.lt g (by rw [hv];rfl)).2
  exact this
 have hltB:w.heap.size≤g:=(h.1.1.lt g (by rw [hv];rfl)).1
 have hvb:v.ownBlock=some g:=by rw [hv];rfl
 have hs1:=hb.size
 have hne:(Value.slice A (last.data.length+1) c).ownBlock≠some g:=by
  rcases ho with e | e
  ·rw [e]
   rcases h.2.2.1 with e2 | e2
   ·rw [e2];simp
   ·rw [hvb] at e2;exact e2
  ·rw [e]
   intro e3
   have:=Option.some.inj e3
   omega
 have hlg:(Value.slice last.A last.data.length last.cap).ownBlock≠some g:=by
  rcases h.2.2.1 with e2 | e2
  ·rw [e2];simp
  ·rw [hvb] at e2;exact e2
 have hkept:w2.ownsRow w.heap.size 69 2 v (init++[last]).length (runsV (init++[last])):=hO.1.kept hg (.inr (by rw [hvb];exact fun e=>hlg e.symm))
 have hl1:(init++[last]).length=init.length+1:=by simp
 have hst:(w2.setCell ⟨g,init.length*2+1,none⟩ (.slice A (last.data.length+1) c)).ownsRow w.heap.size 69 2 v (init++[(⟨last.addr,A,c,last.data++[x]⟩:R)]).length (runsV (init++[⟨last.addr,A,c,last.data++[x]⟩])):=by
  have hk:=hkept
  rw [hv,hl1] at hk
  have:=(hk.stored (init.length*2+1) (.slice A (last.data.length+1) c)).1
  have e:=runsV_set init last ⟨last.addr,A,c,last.data++[x]⟩ rfl
  simp only [List.length_append,List.length_cons,List.length_nil,Nat.zero_add] at e
  rw [e] at this
  rw [hv]
  simpa using this
 have hBel:Below w.heap.size w (w2.setCell ⟨g,init.length*2+1,none⟩ (.slice A (last.data.length+1) c)):=(hO.2.1.grown hg hO.2.1.size fun k hk=>(h.2.1.lt k hk).1).setCell hltB _
 have hnew:(w2.setCell ⟨g,init.length*2+1,none⟩ (.slice A (last.data.length+1) c)).ownsRow w.heap.size 5 1 (.slice A (last.data++[x]).length c) (last.data++[x]).length ((last.data++[x]).map u8V):=by
  have:=ownsRow_setCell_other (a:=(⟨g,init.length*2+1,none⟩:Addr)) h2 hne (.slice A (last.data.length+1) c)
  simpa using this
 have hinit:∀ r∈init,BytesP (fun i=>w.heap.size≤i∧some i≠v.ownBlock∧some i≠(Value.slice A (last.data++[x]).length c).ownBlock) (w2.setCell ⟨g,init.length*2+1,none⟩ (.slice A (last.data.length+1) c)) r.A r.data:=fun r hr=>by
  have q0:=(h.2.2.2 r hr).mono (Q:=fun i=>(w.heap.size≤i∧some i≠v.ownBlock∧some i≠(Value.slice last.A last.data.length last.cap).ownBlock)∧i<wr.heap.size) fun i hi hp=>⟨hp,hi⟩
  have q1:=q0.below hb
  have q2:=q1.blocks (w':=w2) fun i hi hp=>hg.block i hi hp.1.2.2
  have q3:=q2.blocks (w':=w2.setCell ⟨g,init.length*2+1,none⟩ (.slice A (last.data.length+1) c)) fun i hi hp=>Below.heap_setCell _ _ _ _ (fun e=>hp.1.2.1 (by rw [hvb];exact congrArg some e))
  refine q3.mono fun i _ hp=>⟨hp.1.1,hp.1.2.1,?_⟩
  have e1:(Value.slice A (last.data++[x]).length c).ownBlock=(Value.slice A (last.data.length+1) c).ownBlock:=by cases A <;> rfl
  rw [e1]
  rcases ho with e | e
  ·rw [e];exact hp.1.2.2
  ·rw [e]
   intro e3
   have:=Option.some.inj e3
   have:=hp.2
   omega
 refine ⟨⟨hst,hBel,fun r hr=>?_⟩,hnew,.inr ?_,hinit⟩
 ·rcases List.mem_append.1 hr with hr | hr
  ·exact (hinit r hr).mono fun i _ hp=>⟨hp.1,hp.2.1⟩
  ·rw [List.mem_singleton.1 hr]
   obtain ⟨A',c',e,hB⟩:=own_bytes hnew rfl
   simp only [Value.slice.injEq,true_and] at e
   obtain ⟨rfl,rfl⟩:=e
   refine hB.mono fun i _ hp=>⟨hp.1,?_⟩
   rw [hp.2,hvb]
   have e1:(Value.slice A (last.data++[x]).length c).ownBlock=(Value.slice A (last.data.length+1) c).ownBlock:=by cases A <;> rfl
   rw [e1]
   exact hne
 ·rw [hvb]
  have e1:(Value.slice A (last.data++[x]).length c).ownBlock=(Value.slice A (last.data.length+1) c).ownBlock:=by cases A <;> rfl
  show (Value.slice A (last.data++[x]).length c).ownBlock≠_
  rw [e1]
  exact hne
theorem CellsP.get {P:Nat→Prop} {w:World} {b off:Nat} {W:List Cel} (h:CellsP P w (some ⟨b,off,none⟩) W) {k:Nat} (hk:k<W.length) :
  w.cell? ⟨b,off+k*2,none⟩=some (.int .i64 (W[k].1:Int))∧w.cell? ⟨b,off+k*2+1,none⟩=some (.int .u8 (W[k].2.toNat:Int)):=by
 obtain ⟨b',off',h1,h2,h3⟩:=h.at_ hk
 have:=Option.some.inj h1
 simp only [Addr.mk.injEq,and_true] at this
 rw [this.1,this.2]
 exact ⟨h2,h3⟩
theorem below_drewN (w:World) (n:Nat):Below w.heap.size w (w.drewN n):=⟨rfl,rfl,rfl,Nat.le_refl _,fun _ _=>rfl⟩
theorem RR.below {w wr w':World} {v:Value} {init:List R} {last:R} (h:RR w wr v init last) (k:Below wr.heap.size wr w'):RR w w' v init last:=
 ⟨h.1.below k,by
  cases hv:(Value.slice last.A last.data.length last.cap).ownBlock with
  | none=>exact h.2.1.kept (grownBy_below k none) (.inl hv)
  | some b=>exact h.2.1.kept (grownBy_below k none) (.inr (by rw [hv];simp)),h.2.2.1,fun r hr=>(h.2.2.2 r hr).below k⟩
end Go.Proofs.YtajlleeonddinaaGreatDoor.Im
namespace Go.Proofs.YtajlleeonddinaaGreatDoor.Im
open Go.RowKit
theorem RunsP.get {S P:Nat→Prop} {w:World} {b off:Nat} {rs:List R} (h:RunsP S P w (some ⟨b,off,none⟩) rs) {k:Nat} (hk:k<rs.length) :
  w.cell? ⟨b,off+k*2,none⟩=some (.int .i64 rs[k].addr)∧w.cell? ⟨b,off+k*2+1,none⟩=some (.slice rs[k].A rs[k].data.length rs[k].cap):=by
 obtain ⟨b',off',h1,h2,h3⟩:=h.at_ hk
 have:=Option.some.inj h1
 simp only [Addr.mk.injEq,and_true] at this
 rw [this.1,this.2]
 exact ⟨h2,h3⟩
end Go.Proofs.YtajlleeonddinaaGreatDoor.Im
namespace Go.Proofs.YtajlleeonddinaaGreatDoor.Im
open Go.RowKit
end Go.Proofs.YtajlleeonddinaaGreatDoor.Im
namespace Go.Proofs.YtajlleeonddinaaGreatDoor.Im
open Go.ChangeShapes Go.WideShapes Go.RowKit
theorem plain_of_cell {w:World} {a:Addr} {v:Value} (h:w.cell? (a.add 0)=some v):∃ b off,a=⟨b,off,none⟩:=by
 obtain ⟨b,off,spot⟩:=a
 have hs:spot=none:=by simpa [Addr.add] using World.cell?_spot h
 subst hs
 exact ⟨b,off,rfl⟩
theorem add_at (b off i j:Nat):((⟨b,off,none⟩:Addr).add i).add j=⟨b,off+i+j,none⟩:=by
 unfold Addr.add
 by_cases hi:i=0 <;> by_cases hj:j=0 <;> simp [hi,hj]
def toU8 (n:Int):UInt8:=n.toNat.toUInt8
theorem toU8_nat {n:Int} (h:(Lit.int .u8 n).wf=true):((toU8 n).toNat:Int)=n:=by
 have:=bounds_u8 h
 unfold toU8
 rw [UInt8.toNat_ofNat_of_lt' (show n.toNat<256 by omega)]
 omega
section
variable {H:Type} {enc:TypeId×Value→H} {w:World} {spare:Nat→Bool} {fuel:Nat}
theorem open_bytes {v:Value} {x:DataW H×List MemPlace} (h:DataW.trod enc Tryz.prog w 0 spare true fuel 38 [v]=some x):∃ A len cap xs,v=.slice A len cap∧len=xs.length∧len≤maxLen∧BytesP (fun _=>True) w A xs:=by
 rcases open_ints Tryz.underlying38 Tryz.underlying5 (by kernel_rfl) h with ⟨hcs,_⟩ | ⟨a,l,c,zs,hcs,_,hl,hm,hz,_,hcell,hwz⟩
 ·simp only [List.cons.injEq,and_true] at hcs
  subst hcs
  exact ⟨none,0,0,[],rfl,rfl,Nat.zero_le _,.inl rfl⟩
 ·simp only [List.cons.injEq,and_true] at hcs
  subst hcs
  have hlz:l≤zs.length:=by rw [hz];split <;> omega
  refine ⟨some a,l,c,(zs.take l).map toU8,rfl,by simp;omega,by omega,?_⟩
  by_cases h0:l=0
  ·left;subst h0;simp
  ·obtain ⟨b,off,rfl⟩:=plain_of_cell (hcell 0 (by omega))
   refine .inr ⟨b,off,rfl,trivial,fun j hj=>?_⟩
   have hj':j<l:=by simp at hj;omega
   have hjz:j<zs.length:=by omega
   have e:=hcell j hjz
   have hadd:(⟨b,off,none⟩:Addr).add j=⟨b,off+j,none⟩:=by unfold Addr.add;split <;> simp_all
   rw [hadd] at e
   rw [e]
   have hg:zs.getD j 0=zs[j]:=by simp [List.getD,List.getElem?_eq_getElem hjz]
   rw [hg]
   simp only [List.getElem_map,List.getElem_take]
   rw [toU8_nat (hwz _ (List.getElem_mem hjz))]
theorem open_run {cs:List Value} {x:DataW H×List MemPlace} (h:DataW.trod enc Tryz.prog w 0 spare true fuel 69 cs=some x) :
  ∃ r:R,cs=[.int .i64 r.addr,.slice r.A r.data.length r.cap]∧r.data.length≤maxLen∧BytesP (fun _=>True) w r.A r.data:=by
 have hu:=Tryz.underlying69
 obtain ⟨y0,y1,n,_,hl,h0,h1⟩:=trod_struct2 hu h
 have c30:Tryz.prog.cellsOf 69=2:=by kernel_rfl
 have c3:Tryz.prog.cellsOf 3=1:=by kernel_rfl
 have c28:Tryz.prog.cellsOf 38=1:=by kernel_rfl
 rw [c30] at hl
 match cs,hl with
 | [c0,c1],_=>
  simp only [c3,c28] at h0 h1
  obtain ⟨m,e0,_,_⟩:=DataW.trod_int Tryz.underlying3 h0
  have e0':c0=.int .i64 m:=by simpa using e0
  have h1':DataW.trod enc Tryz.prog w 0 spare true n 38 [c1]=some y1:=h1
  obtain ⟨A,len,cap,xs,e1,e2,e3,hb⟩:=open_bytes h1'
  subst e0' e1 e2
  exact ⟨⟨m,A,cap,xs⟩,rfl,e3,hb⟩
theorem open_runs {v:Value} {x:DataW H×List MemPlace} (h:DataW.trod enc Tryz.prog w 0 spare true fuel 32 [v]=some x) :
  ∃ A len cap rs,v=.slice A len cap∧len=rs.length∧len≤maxLen∧RunsP (fun _=>True) (fun _=>True) w A rs∧∀ r∈rs,r.data.length≤maxLen:=by
 rcases Deep.open_slice Tryz.underlying32 h with ⟨hcs,_⟩ | ⟨a,len,cap,m,n,D,Pl,hcs,_,hl,hm,hmm,_,hx⟩
 ·simp only [List.cons.injEq,and_true] at hcs
  subst hcs
  exact ⟨none,0,0,[],rfl,rfl,Nat.zero_le _,⟨.inl rfl,fun r hr=>absurd hr List.not_mem_nil⟩,fun r hr=>absurd hr List.not_mem_nil⟩
 ·simp only [List.cons.injEq,and_true] at hcs
  subst hcs
  have hlm:len≤m:=by rw [hmm];split <;> omega
  have c30:Tryz.prog.cellsOf 69=2:=by kernel_rfl
  have hall:∀ i,i<len→∃ r:R,w.cells? 0 (a.add (i*2)) 2=some [.int .i64 r.addr,.slice r.A r.data.length r.cap]∧r.data.length≤maxLen∧BytesP (fun _=>True) w r.A r.data:=fun i hi=>by
   obtain ⟨cs,h1,h2⟩:=hx i (by omega)
   rw [c30] at h1
   obtain ⟨r,e,h3,h4⟩:=open_run h2
   rw [e] at h1
   exact ⟨r,h1,h3,h4⟩
  obtain ⟨f,hf⟩:=Deep.choose_lt hall
  refine ⟨some a,len,cap,(List.range len).map f,rfl,by simp,by omega,⟨?_,?_⟩,?_⟩
  ·by_cases h0:len=0
   ·left;subst h0;simp
   ·obtain ⟨q1,_⟩:=hf 0 (by omega)
    have e0:=(World.cells?_some q1).2.2 0 (by omega)
    simp only [Nat.zero_mul] at e0
    have e0':w.cell? (a.add 0)=some (.int .i64 (f 0).addr):=by
     have hz:(a.add 0).add 0=a.add 0:=by simp [Addr.add]
     rw [hz] at e0;exact e0
    obtain ⟨b,off,rfl⟩:=plain_of_cell e0'
    refine .inr ⟨b,off,rfl,trivial,fun j hj=>?_⟩
    have hj':j<len:=by simpa using hj
    obtain ⟨q1,_⟩:=hf j hj'
    have e1:=(World.cells?_some q1).2.2 0 (by omega)
    have e2:=(World.cells?_some q1).2.2 1 (by omega)
    rw [add_at] at e1 e2
    simp only [List.getElem_map,List.getElem_range]
    exact ⟨e1,e2⟩
  ·intro r hr
   obtain ⟨i,hi,rfl⟩:=List.mem_map.1 hr
   exact (hf i (List.mem_range.1 hi)).2.2
  ·intro r hr
   obtain ⟨i,hi,rfl⟩:=List.mem_map.1 hr
   exact (hf i (List.mem_range.1 hi)).2.1
end
theorem few_big (S P:Nat→Prop) (A:Option Addr) (cap:Nat) (rs:List R) (hl:rs.length≤maxLen) (h60:60<rs.length) (w:World) (hW:RunsP S P w A rs) (hd:∀ r∈rs,r.data.length≤maxLen) :
  Calls Tryz.prog 15 #[.slice A rs.length cap] w fun e w'=>e=.returned (.bool false)∧w=w':=by
 unfold maxLen at hl
 have Z:=Lib.hid hW
 have HD:=Lib.hid hd
 have H6:=Lib.hid h60
 clear hW hd h60
 go_enter Tryz.func15,Tryz.ntmps15
 go_wp2
 go_loop [3,4] (fun n i=>∃ (k:Nat) (m:Int),k≤rs.length∧i=.int .i64 k∧n=.int .i64 m) (fun _ i=>rs.length - (intOf i).toNat)
 case atStart=>exact ⟨0,0,Nat.zero_le _,rfl,rfl⟩
 case round=>
  obtain ⟨k,m,hk,rfl,rfl⟩:=hrel
  by_cases hlt:k<rs.length
  ·obtain ⟨b,off,hA,g1,g2⟩:=Z.out.at_ hlt
   subst hA
   have hdk:=HD.out _ (List.getElem_mem hlt)
   obtain ⟨x,hx⟩:∃ x:Nat,rs[k].data.length=x:=⟨_,rfl⟩
   rw [hx] at g2 hdk
   unfold maxLen at hdk
   clear hx g1
   have hlt':(k:Int)<(rs.length:Int):=by omega
   go_wp2
   go_round
   case rel=>exact ⟨k+1,_,by omega,by go_num,rfl⟩
   case measure=>simp [intOf];omega
  ·have hlt':decide ((k:Int)<(rs.length:Int))=false:=decide_eq_false (by omega)
   have h60':decide ((rs.length:Int)≤60)=false:=decide_eq_false (by have:=H6.out;omega)
   go_wp2
   go_ret
   exact ⟨rfl,rfl⟩
theorem fewAll_any (S P:Nat→Prop) (A:Option Addr) (cap:Nat) (rs:List R) (hl:rs.length≤maxLen) (w:World) (hW:RunsP S P w A rs) (hd:∀ r∈rs,r.data.length≤maxLen) :
  Calls Tryz.prog 15 #[.slice A rs.length cap] w fun e w'=>e=.returned (.bool (fewB rs))∧w=w':=by
 by_cases h:rs.length≤60
 ·exact few_any S P A cap rs (by omega) w hW hd
 ·have e:fewB rs=false:=by unfold fewB;rw [decide_eq_false h];rfl
  rw [e]
  exact few_big S P A cap rs hl (by omega) w hW hd
theorem few_len {rs:List R} (h:fewB rs=true):rs.length≤60:=by
 unfold fewB at h
 rw [Bool.and_eq_true,decide_eq_true_eq] at h
 exact h.1
end Go.Proofs.YtajlleeonddinaaGreatDoor.Im
namespace Go.Proofs.YtajlleeonddinaaGreatDoor.Im
open Go.RowKit
def okR (r:R):Prop:=0≤r.addr∧r.addr<65536∧r.addr.toNat+r.data.length≤65536
end Go.Proofs.YtajlleeonddinaaGreatDoor.Im
namespace Go.Proofs.YtajlleeonddinaaGreatDoor.Im
open Go.RowKit
theorem OwnR.at_ {e:TypeId} {P:Nat→Prop} {w wr:World} {v:Value} {rs:List R} (h:OwnR e P w wr v rs) (hn:0<rs.length):∃ g cap,v=.slice (some ⟨g,0,none⟩) rs.length cap∧w.heap.size≤g∧
  ∀ k (hk:k<rs.length),wr.cell? ⟨g,k*2,none⟩=some (.int .i64 rs[k].addr)∧wr.cell? ⟨g,k*2+1,none⟩=some (.slice rs[k].A rs[k].data.length rs[k].cap)∧wr.frozen? ⟨g,k*2,none⟩=false∧wr.frozen? ⟨g,k*2+1,none⟩=false:=by
 rcases h.1.2 with ⟨_,h0⟩ | ⟨g,cap,cur,rfl,hb,hg,_⟩
 ·omega
 ·refine ⟨g,cap,rfl,hb,fun k hk=>?_⟩
  obtain ⟨h1,h2⟩:=runsV_get rs k hk
  rw [h.1.cellAt (k*2) (by omega),h.1.cellAt (k*2+1) (by omega)]
  exact ⟨h1,h2,frozen_of_row wr g _ cur _ hg,frozen_of_row wr g _ cur _ hg⟩
theorem runsV_setAt (l:List R) (i:Nat) (r:R) (hi:i<l.length):((runsV l).set (i*2) (.int .i64 r.addr)).set (i*2+1) (.slice r.A r.data.length r.cap)=runsV (l.set i r):=by
 induction l generalizing i with
 | nil=>simp at hi
 | cons c t ih=>
  have e:∀ (c:R) (t:List R),runsV (c :: t)=.int .i64 c.addr :: .slice c.A c.data.length c.cap :: runsV t:=fun _ _=>rfl
  cases i with
  | zero=>
   show _=runsV (r :: t)
   rw [e,e]
   rfl
  | succ i=>
   rw [e,List.set_cons_succ,e,← ih i (by simpa using hi),show (i+1)*2=i*2+1+1 by omega]
   simp only [List.set_cons_succ]
theorem OwnR.set {e:TypeId} {P:Nat→Prop} {w wr:World} {g n cap:Nat} {rs:List R} (h:OwnR e P w wr (.slice (some ⟨g,0,none⟩) n cap) rs) (hn:n=rs.length) (i:Nat) (hi:i<rs.length) (r:R) (hr:BytesP (fun i=>P i∧some i≠some g) wr r.A r.data) :
  OwnR e P w ((wr.setCell ⟨g,i*2,none⟩ (.int .i64 r.addr)).setCell ⟨g,i*2+1,none⟩ (.slice r.A r.data.length r.cap)) (.slice (some ⟨g,0,none⟩) n cap) (rs.set i r):=by
 subst hn
 obtain ⟨s1,g1⟩:=h.1.stored (i*2) (.int .i64 r.addr)
 obtain ⟨s2,g2⟩:=s1.stored (i*2+1) (.slice r.A r.data.length r.cap)
 have hg:=(h.1.lt g rfl).1
 refine ⟨?_,(h.2.1.setCell hg _).setCell hg _,fun q hq=>?_⟩
 ·rw [runsV_setAt rs i r hi] at s2
  rw [List.length_set]
  exact s2
 ·have q0:BytesP (fun i=>P i∧some i≠some g) wr q.A q.data:=by
   rcases List.mem_or_eq_of_mem_set hq with hq | hq
   ·exact h.2.2 q hq
   ·rw [hq];exact hr
  refine q0.blocks fun k _ hk=>?_
  have hkg:k≠g:=fun e=>hk.2 (by rw [e])
  rw [Below.heap_setCell _ _ _ _ hkg,Below.heap_setCell _ _ _ _ hkg]
end Go.Proofs.YtajlleeonddinaaGreatDoor.Im
namespace Go.Proofs.YtajlleeonddinaaGreatDoor.Im
open Go.ChangeShapes Go.WideShapes Go.RowKit
section
variable {H:Type} {enc:TypeId×Value→H} {w:World} {spare:Nat→Bool} {fuel:Nat}
end
end Go.Proofs.YtajlleeonddinaaGreatDoor.Im
namespace Go.Proofs.YtajlleeonddinaaGreatDoor.Im
open Go.RowKit
def Wr (w:World) (A:Option Addr) (xs:List UInt8):Prop:=xs=[]∨∃ (b off:Nat) (cs:Array Value) (t:{t:TypeId // t=5}),A=some ⟨b,off,none⟩∧w.heap[b]?=some (.cells cs t.1 (0,0))
theorem Wr.below {w w':World} {A:Option Addr} {xs:List UInt8} (h:Wr w A xs) (k:Below w.heap.size w w'):Wr w' A xs:=by
 rcases h with h | ⟨b,off,cs,t,h1,h2⟩
 ·exact .inl h
 ·exact .inr ⟨b,off,cs,t,h1,(k.block b (Array.getElem?_eq_some_iff.1 h2).1).trans h2⟩
theorem Wr.grown {w w':World} {A:Option Addr} {xs:List UInt8} {row:Option Nat} {P:Nat→Prop} (h:Wr w A xs) (hb:BytesP (fun i=>P i∧some i≠row) w A xs) (k:w.grownBy w' row):Wr w' A xs:=by
 rcases h with h | ⟨b,off,cs,t,h1,h2⟩
 ·exact .inl h
 ·rcases hb with h | ⟨b',off',h3,h4,_⟩
  ·exact .inl h
  ·rw [h1] at h3
   simp only [Option.some.injEq,Addr.mk.injEq,and_true] at h3
   obtain ⟨rfl,rfl⟩:=h3
   exact .inr ⟨b,off,cs,t,h1,(k.block b (Array.getElem?_eq_some_iff.1 h2).1 h4.2).trans h2⟩
end Go.Proofs.YtajlleeonddinaaGreatDoor.Im
namespace Go.Proofs.YtajlleeonddinaaGreatDoor
open Go.RowKit
def allW (rs:List Im.R):List Im.Cel:=rs.foldl (fun W r=>Im.putW W r.addr r.data) []
theorem allW_take (rs:List Im.R) (k:Nat) (h:k<rs.length):allW (rs.take (k+1))=Im.putW (allW (rs.take k)) rs[k].addr rs[k].data:=by
 unfold allW
 rw [List.take_succ_eq_append_getElem h,List.foldl_append]
 rfl
def RetBuild (w:World) (rs:List Im.R) (e:Ending) (w':World):Prop:=
 (Im.fewB rs=false→e=.returned (.tuple #[.pointer none,.slice none 0 0]))∧
 (Im.fewB rs=true→∃ b A cap,e=.returned (.tuple #[.pointer (some ⟨b,0,none⟩),.slice A (allW rs).length cap])∧w.heap.size≤b∧Im.ImgOf w' b (allW rs)∧Im.CellsP (fun i=>i≠b∧w.heap.size≤i) w' A (allW rs))∧
 Below w.heap.size w w'
theorem build_any (A:Option Addr) (cap:Nat) (rs:List Im.R) (hl:rs.length≤maxLen) (w:World) (hW:Im.RunsP (fun _=>True) (fun _=>True) w A rs) (hd:∀ r∈rs,r.data.length≤maxLen) :
  Calls Tryz.prog 14 #[.slice A rs.length cap] w (RetBuild w rs):=by
 have hf:=Im.fewAll_any _ _ A cap rs hl w hW hd
 have Z:=Lib.hid (hW.mono (T:=(· < w.heap.size)) (Q:=(· < w.heap.size)) (fun _ h _=>h) (fun _ h _=>h))
 have HD:=Lib.hid hd
 cases hb:Im.fewB rs
 case false=>
  have N:Hid (RetBuild w rs (.returned (.tuple #[.pointer none,.slice none 0 0])) w):=by
   refine ⟨fun _=>rfl,fun h=>?_,Below.refl _ _⟩
   rw [hb] at h
   cases h
  rw [hb] at hf
  clear hW hd hb hl
  go_enter Tryz.func14,Tryz.ntmps14
  go_wp2_with fail
  refine hf.mono ?_
  rintro e w' ⟨rfl,rfl⟩
  clear hf
  go_wp2
  go_ret2
  exact N.out
 case true=>
  have h60:=Im.few_len hb
  have N:=Lib.hid hb
  rw [hb] at hf
  clear hW hd hb hl
  go_enter Tryz.func14,Tryz.ntmps14
  go_wp2_with fail
  refine hf.mono ?_
  rintro e w' ⟨rfl,rfl⟩
  clear hf
  go_wp2_with fail
  refine (Im.newOf_any _).mono ?_
  rintro e w1 ⟨b,rfl,hb,hI1,hB1⟩
  have I1:=Lib.hid hI1
  have B1:=Lib.hid hB1
  have HB:=Lib.hid hb
  clear hI1 hB1 hb
  go_wp2
  go_loopw [5,14] (fun cv i wr=>∃ (k c:Nat) (B:Option Addr),k≤rs.length∧i=.int .i64 k∧cv=.slice B (allW (rs.take k)).length c∧(allW (rs.take k)).length≤c∧Hid (Below w.heap.size w wr)∧Hid (Im.ImgOf wr b (allW (rs.take k)))∧Hid (Im.CellsP (fun i=>i≠b∧w.heap.size≤i) wr B (allW (rs.take k)))) (fun _ i _=>rs.length - (intOf i).toNat)
  case atStart=>exact ⟨0,0,none,Nat.zero_le _,rfl,rfl,Nat.zero_le _,B1.out,I1.out,.inl rfl⟩
  case round=>
   obtain ⟨k,c,B,hk,rfl,rfl,hc,Bel,Img,Cls⟩:=hrel
   by_cases hlt:k<rs.length
   ·have RW:=Z.out.below Bel.out
    obtain ⟨g,off,hA,g0,g1⟩:=RW.at_ hlt
    subst hA
    have hD:=RW.2 _ (List.getElem_mem hlt)
    have hdl:=HD.out _ (List.getElem_mem hlt)
    have HT:=allW_take rs k hlt
    obtain ⟨r,hr⟩:∃ r,rs[k]=r:=⟨_,rfl⟩
    rw [hr] at g0 g1 hD hdl HT
    obtain ⟨W,hWk⟩:∃ W,allW (rs.take k)=W:=⟨_,rfl⟩
    rw [hWk] at HT hc Img Cls ⊢
    have hbw:b<wr.heap.size:=Img.out.lt
    have hbB:=HB.out
    obtain ⟨ob,hob⟩:∃ o,Obj.cells #[.int .i64 r.addr,.slice r.A r.data.length r.cap] 69=o:=⟨_,rfl⟩
    have hal:Below wr.heap.size wr (wr.alloc ob):=(Below.refl _ _).alloc (Nat.le_refl _) ob
    have hput:=Im.put_any b W r.addr (· < w.heap.size) (show ¬b<w.heap.size by omega) r.A r.data r.cap (wr.alloc ob) hdl (Img.out.below hal) (hD.below hal)
    have X2:=Lib.hid (hD.below hal)
    have C2:=Lib.hid (Cls.out.below hal)
    have AL:=Lib.hid (And.intro hal (And.intro hbw hbB))
    have hob2:(wr.alloc ob).cell? ⟨wr.heap.size,0,none⟩=some (.int .i64 r.addr)∧(wr.alloc ob).cell? ⟨wr.heap.size,1,none⟩=some (.slice r.A r.data.length r.cap):=by
     rw [← hob];exact ⟨by simp [go_sem],by simp [go_sem]⟩
    have hSW:=Img.out.1
    have SW:=Lib.hid hSW
    have HTT:=Lib.hid HT
    have OB:=Lib.hid hob2
    have HOB:=Lib.hid hob
    rw [← hob] at hput
    clear hr hWk hal hbw hbB hD hob hob2 hSW HT RW
    go_wp2_with fail
    refine hput.mono ?_
    rintro e w2 ⟨rfl,hI2,hK2⟩
    rw [HOB.out] at hK2
    obtain ⟨a1,a2,a3⟩:=AL.out
    have hsz:(wr.alloc ob).heap.size=wr.heap.size+1:=by simp
    have hC3:=C2.out.keep hK2 (fun h=>h.1 rfl)
    have hX3:=X2.out.keep hK2 (show ¬b<w.heap.size by omega)
    have c0:w2.cell? ⟨wr.heap.size,0,none⟩=some (.int .i64 r.addr):=(World.cell?_of_block (w:=wr.alloc ob) (hK2.block wr.heap.size (by omega) (by omega))).trans OB.out.1
    have c1:w2.cell? ⟨wr.heap.size,1,none⟩=some (.slice r.A r.data.length r.cap):=(World.cell?_of_block (w:=wr.alloc ob) (hK2.block wr.heap.size (by omega) (by omega))).trans OB.out.2
    have B3:Hid (Below w.heap.size w w2):=(Bel.out.trans (a1.mono Bel.out.size)).trans (hK2.below a3 (by have:=Bel.out.size;omega))
    have hrp:=Im.rput_any (fun i=>i≠b∧w.heap.size≤i) B c W SW.out r.addr _ r.A r.cap r.data hdl w2 (fun i hi=>⟨by have:=hI2.lt;omega,by have:=B3.out.size;omega⟩) hc hC3 hX3
    have I3:=Lib.hid hI2
    clear hput hI2 hK2 a1 a2 a3 hsz hC3 hX3 X2 C2
    go_wp2_with fail
    refine hrp.mono ?_
    rintro e w3 ⟨B',c',rfl,hc',hC4,hB4⟩
    have B4:Hid (Below w.heap.size w w3):=B3.out.trans (hB4.mono B3.out.size)
    have I4:Hid (Im.ImgOf w3 b (allW (rs.take (k+1)))):=by rw [HTT.out];exact I3.out.below hB4
    have C4:Hid (Im.CellsP (fun i=>i≠b∧w.heap.size≤i) w3 B' (allW (rs.take (k+1)))):=by rw [HTT.out];exact hC4
    rw [← HTT.out] at hc'
    have e5:=HTT.out
    clear hrp hC4 hB4 c0 c1
    rw [← e5]
    clear e5
    go_wp2
    go_roundw
    case rel=>exact ⟨k+1,c',B',by omega,by go_num,rfl,hc',B4.out,I4.out,C4.out⟩
    case measure=>simp [intOf];omega
   ·have F:Hid (RetBuild w rs (.returned (.tuple #[.pointer (some ⟨b,0,none⟩),.slice B (allW (rs.take k)).length c])) wr):=by
     have hI:=Img.out
     have hC:=Cls.out
     rw [List.take_of_length_le (by omega)] at hI hC ⊢
     refine ⟨fun h=>?_,fun _=>⟨b,B,c,rfl,HB.out,hI,hC⟩,Bel.out⟩
     rw [N.out] at h
     cases h
    go_wp2
    go_ret2
    exact F.out
end Go.Proofs.YtajlleeonddinaaGreatDoor
