/-
  TbS, TbT, TbU, TbZ, RkA, EsA.
-/
import Derived.Test.YtmnleknehjkmgaaGreatDoorGAH
import Derived.Laws.BytesArg
import Derived.Test.YtmnleknehjkmgaaGreatDoorGAF
import Derived.Test.YtmnleknehjkmgaaGreatDoorGAE
import Derived.Deep.DeepCutAuto
import Derived.Deep.Cut
import Derived.StillTail
import Derived.StillTailTactics
import Derived.Deep.RegionHeld3
import Derived.RegionTactic
set_option linter.all false
set_option maxRecDepth 100000
set_option maxHeartbeats 4000000
namespace Go.Proofs.YtmnleknehjkmgaaGreatDoor
open Go.RowKit Go.Shelf
def BytesAt (w:World) (A:Option Addr) (xs:Str):Prop:=xs=[]∨∃ b off,A=some ⟨b,off,none⟩∧∀ j (h:j<xs.length),w.cell? ⟨b,off+j,none⟩=some (.int .u8 (xs[j].toNat:Int))
theorem BytesAt.below {w w':World} {A:Option Addr} {xs:Str} (h:BytesAt w A xs) (hb:Below w.heap.size w w'):BytesAt w' A xs:=by
 rcases h with rfl | ⟨b,off,rfl,hc⟩
 ·exact .inl rfl
 ·exact .inr ⟨b,off,rfl,fun j hj=>(hb.cell (World.block_lt_of_cell? w _ (hc j hj))).trans (hc j hj)⟩
theorem conv_sB {w:World} {A:Option Addr} {xs:Str} (h:BytesAt w A xs) (cap:Nat) :
  (convert 27 9 (.slice A xs.length cap)).run Tryz.prog w=.ok (.string (sB xs)) w:=by
 cases A with
 | none=>
  obtain rfl:xs=[]:=by
   rcases h with h | ⟨b,off,h,_⟩
   ·exact h
   ·cases h
  rw [run_convert_bytes_nil (P:=Tryz.prog) w 27 5 Tryz.underlying27 Tryz.underlying5 _ _ 9 Tryz.underlying9]
  rfl
 | some a=>
  refine run_convert_bytes_back w 27 9 5 a cap xs Tryz.underlying27 Tryz.underlying5 Tryz.underlying9 (fun j hj=>?_)
  rcases h with rfl | ⟨b,off,e,hc⟩
  ·simp at hj
  ·cases e
   have h1:=hc j hj
   unfold Addr.add
   split
   ·rename_i h0;subst h0;simpa using h1
   ·exact h1
def cellsB (xs:Str):List Value:=xs.map fun b=>.int .u8 (b.toNat:Int)
def TOwnB (w:World) (n:Nat) (v:Value) (xs:Str):Prop:=w.ownsRow n 5 1 v xs.length (cellsB xs)
theorem TOwnB.bytes {w:World} {n:Nat} {v:Value} {xs:Str} (h:TOwnB w n v xs):∃ A cap,v=.slice A xs.length cap∧BytesAt w A xs:=by
 rcases h.2 with ⟨rfl,h0⟩ | ⟨g,cap,cur,rfl,_,_,_⟩
 ·have:xs=[]:=List.eq_nil_of_length_eq_zero h0
  subst this
  exact ⟨none,0,rfl,.inl rfl⟩
 ·refine ⟨_,cap,rfl,.inr ⟨g,0,rfl,fun j hj=>?_⟩⟩
  rw [Nat.zero_add,World.ownsRow.cellAt h j (by omega)]
  unfold cellsB
  rw [List.getElem?_map,List.getElem?_eq_getElem hj]
  rfl
theorem TOwnB.below {w w':World} {n:Nat} {v:Value} {xs:Str} (h:TOwnB w n v xs) (k:Below w.heap.size w w'):TOwnB w' n v xs:=
 World.ownsRow.kept h (row:=none) ⟨k.os,k.tape,k.output,k.size,fun i hi _=>k.block i hi⟩ (by
  cases e:v.ownBlock with
  | none=>exact .inl rfl
  | some g=>exact .inr (by simp))
theorem own_lit (w:World) (xs:Str) (hl:xs.length≤100):TOwnB (w.alloc (.cells (cellsB xs).toArray 5)) w.heap.size (.slice (some ⟨w.heap.size,0,none⟩) xs.length xs.length) xs:=by
 refine ⟨by unfold cellsB;simp,.inr ⟨w.heap.size,xs.length,(cellsB xs).toArray,rfl,Nat.le_refl _,World.alloc_heap_new w _,Nat.le_refl _,by unfold maxLen;omega,by unfold cellsB;simp,?_⟩⟩
 unfold cellsB
 rw [List.take_of_length_le (by simp)]
theorem equalB_any (A1 A2:Option Addr) (c1 c2:Nat) (xs ys:Str) (w:World) (H1:BytesAt w A1 xs) (H2:BytesAt w A2 ys) :
  Calls Tryz.prog 129 #[.slice A1 xs.length c1,.slice A2 ys.length c2] w fun e w'=>e=.returned (.bool (decide (xs=ys)))∧w'=w:=by
 have k1:=conv_sB H1 c1
 have k2:=conv_sB H2 c2
 have E:Hid (((sB xs).toList == (sB ys).toList)=decide (xs=ys)):=by
  show ((sB xs).toList == (sB ys).toList)=_
  rw [sB_eq,ByteArray.toList_eq,show (sB ys).data.toList=ys by simp [sB]]
 clear H1 H2
 go_enter Tryz.func129,Tryz.ntmps129
 go_wp2
 go_ret
 exact ⟨ret_bool E.out,rfl⟩
def preS (page:Int):Str:=if page=1 then [203] else if page=2 then [237] else if page=3 then [221] else if page=4 then [253] else if page=5 then [221,203] else if page=6 then [253,203] else []
def RetB (w:World) (xs:Str) (e:Ending) (w':World):Prop:=∃ v,e=.returned v∧TOwnB w' w.heap.size v xs∧Below w.heap.size w w'
theorem prefixes_1 (w:World):Calls Tryz.prog 60 #[.int .i64 1] w (RetB w [203]):=by
 have O:=Lib.hid (own_lit w [203] (by decide))
 go_enter Tryz.func60,Tryz.ntmps60
 go_wp2
 go_ret
 exact ⟨_,rfl,O.out,(Below.refl _ _).alloc (Nat.le_refl _) _⟩
theorem prefixes_2 (w:World):Calls Tryz.prog 60 #[.int .i64 2] w (RetB w [237]):=by
 have O:=Lib.hid (own_lit w [237] (by decide))
 go_enter Tryz.func60,Tryz.ntmps60
 go_wp2
 go_ret
 exact ⟨_,rfl,O.out,(Below.refl _ _).alloc (Nat.le_refl _) _⟩
theorem prefixes_3 (w:World):Calls Tryz.prog 60 #[.int .i64 3] w (RetB w [221]):=by
 have O:=Lib.hid (own_lit w [221] (by decide))
 go_enter Tryz.func60,Tryz.ntmps60
 go_wp2
 go_ret
 exact ⟨_,rfl,O.out,(Below.refl _ _).alloc (Nat.le_refl _) _⟩
theorem prefixes_4 (w:World):Calls Tryz.prog 60 #[.int .i64 4] w (RetB w [253]):=by
 have O:=Lib.hid (own_lit w [253] (by decide))
 go_enter Tryz.func60,Tryz.ntmps60
 go_wp2
 go_ret
 exact ⟨_,rfl,O.out,(Below.refl _ _).alloc (Nat.le_refl _) _⟩
theorem prefixes_5 (w:World):Calls Tryz.prog 60 #[.int .i64 5] w (RetB w [221,203]):=by
 have O:=Lib.hid (own_lit w [221,203] (by decide))
 go_enter Tryz.func60,Tryz.ntmps60
 go_wp2
 go_ret
 exact ⟨_,rfl,O.out,(Below.refl _ _).alloc (Nat.le_refl _) _⟩
theorem prefixes_6 (w:World):Calls Tryz.prog 60 #[.int .i64 6] w (RetB w [253,203]):=by
 have O:=Lib.hid (own_lit w [253,203] (by decide))
 go_enter Tryz.func60,Tryz.ntmps60
 go_wp2
 go_ret
 exact ⟨_,rfl,O.out,(Below.refl _ _).alloc (Nat.le_refl _) _⟩
theorem prefixes_any (page:Int) (w:World):Calls Tryz.prog 60 #[.int .i64 page] w (RetB w (preS page)):=by
 unfold preS
 by_cases h1:page=1
 ·rw [if_pos h1];subst h1;exact prefixes_1 w
 by_cases h2:page=2
 ·rw [if_neg h1,if_pos h2];subst h2;exact prefixes_2 w
 by_cases h3:page=3
 ·rw [if_neg h1,if_neg h2,if_pos h3];subst h3;exact prefixes_3 w
 by_cases h4:page=4
 ·rw [if_neg h1,if_neg h2,if_neg h3,if_pos h4];subst h4;exact prefixes_4 w
 by_cases h5:page=5
 ·rw [if_neg h1,if_neg h2,if_neg h3,if_neg h4,if_pos h5];subst h5;exact prefixes_5 w
 by_cases h6:page=6
 ·rw [if_neg h1,if_neg h2,if_neg h3,if_neg h4,if_neg h5,if_pos h6];subst h6;exact prefixes_6 w
 rw [if_neg h1,if_neg h2,if_neg h3,if_neg h4,if_neg h5,if_neg h6]
 have e1:(page == 1)=false:=by simpa using h1
 have e2:(page == 2)=false:=by simpa using h2
 have e3:(page == 3)=false:=by simpa using h3
 have e4:(page == 4)=false:=by simpa using h4
 have e5:(page == 5)=false:=by simpa using h5
 have e6:(page == 6)=false:=by simpa using h6
 clear h1 h2 h3 h4 h5 h6
 go_enter Tryz.func60,Tryz.ntmps60
 go_wp2
 go_ret
 exact ⟨_,rfl,World.ownsRow_nil _ _ _ _,Below.refl _ _⟩
def pageF (xs:Str):Nat→Option Int
 | 0=>none
 | k+1=>match pageF xs k with
  | some p=>some p
  | none=>if preS k=xs then some k else none
def pageT (xs:Str):Option Int:=pageF xs 7
theorem pageF_some (xs:Str) (k:Nat) (p:Int) (h:pageF xs k=some p):∀ m,pageF xs (k+m)=some p
 | 0=>h
 | m+1=>by
  have ih:=pageF_some xs k p h m
  show pageF xs (k+m+1)=some p
  unfold pageF
  rw [ih]
theorem pageOf_any (A:Option Addr) (cap:Nat) (xs:Str) (hx:xs.length≤maxLen) (w:World) (H:BytesAt w A xs):Calls Tryz.prog 92 #[.slice A xs.length cap] w
  fun e w'=>e=.returned (.tuple #[.int .i64 ((pageT xs).getD 0),.bool (pageT xs).isSome])∧Below w.heap.size w w':=by
 obtain ⟨l,hl⟩:∃ l,xs.length=l:=⟨_,rfl⟩
 have HH:=Lib.hid H
 have HL:=Lib.hid hl
 rw [hl]
 clear H hl hx
 go_enter Tryz.func92,Tryz.ntmps92
 go_wp2
 go_loopw [5] (fun i wr=>∃ k:Nat,k≤7∧i=.int .i64 k∧Hid (pageF xs k=none)∧Hid (Below w.heap.size w wr)) (fun i _=>7 - (intOf i).toNat)
 case atStart=>exact ⟨0,Nat.zero_le _,rfl,rfl,Below.refl _ _⟩
 case round=>
  obtain ⟨k,hk,rfl,PF,B⟩:=hrel
  by_cases hlt:k<7
  ·have hp:=prefixes_any (k:Int) wr
   go_wp2_with fail
   refine hp.mono ?_
   rintro e w1 ⟨v,rfl,hO,hb1⟩
   obtain ⟨A1,c1,rfl,hB1⟩:=hO.bytes
   have B1:Hid (Below w.heap.size w w1):=B.out.trans (hb1.mono B.out.size)
   have hq:=equalB_any A1 A c1 cap (preS k) xs w1 hB1 (HH.out.below B1.out)
   rw [HL.out] at hq
   have PS:Hid (pageF xs (k+1)=if preS k=xs then some (k:Int) else none):=by show pageF xs (k+1)=_;rw [pageF,PF.out]
   clear hp hb1 hO hB1 B PF
   by_cases he:preS k=xs
   ·rw [decide_eq_true he] at hq
    have T:Hid (pageT xs=some (k:Int)):=by
     have h:=PS.out
     rw [if_pos he] at h
     have h2:=pageF_some xs (k+1) k h (7 - (k+1))
     rw [show k+1+(7 - (k+1))=7 by omega] at h2
     exact h2
    clear he
    go_wp2_with fail
    refine hq.mono ?_
    rintro e w2 ⟨rfl,hw2⟩
    rw [hw2]
    clear hq hw2
    go_wp2
    go_ret2
    exact ⟨by rw [T.out];rfl,B1.out⟩
   ·rw [decide_eq_false he] at hq
    have T:Hid (pageF xs (k+1)=none):=by have h:=PS.out;rw [if_neg he] at h;exact h
    clear he
    go_wp2_with fail
    refine hq.mono ?_
    rintro e w2 ⟨rfl,hw2⟩
    rw [hw2]
    clear hq hw2
    go_wp2
    go_roundw
    case rel=>exact ⟨k+1,by omega,by go_num,T.out,B1.out⟩
    case measure=>simp [intOf];omega
  ·obtain rfl:k=7:=by omega
   have T:Hid (pageT xs=none):=PF.out
   go_wp2
   go_ret2
   exact ⟨by rw [T.out];rfl,B.out⟩
theorem tinfo_u8:(Tryz.prog.info? 5).map (fun i=>(i.zero,i.size,i.bytes))=some (some (.int .u8 0),1,1):=by kernel_rfl
theorem wpList_appB {wr:World} {base:Nat} {v:Value} {xs:Str} (R:TOwnB wr base v xs) (hbase:base≤wr.heap.size) {ops:Array Oper} {rest:List Oper} {o:Oper} {a:Act} {Q:Exit→Act→World→Prop} (hgd:o.guard=none) (s x:Operand)
  (ho:o.op=.call {callee:=.builtin .append,args:=#[s,x],argTypes:=#[27,27]}) (hs:a.eval s=v) (nb:Nat) (hnb:nb=wr.heap.size) (hx:a.eval x=.slice (some ⟨nb,0,none⟩) 1 1)
  (y:UInt8) (k:Nat) (hk:xs.length=k) (hlen:k<10000)
  (h:∀ A' cap' w1,BytesAt w1 A' (xs++[y])→Below base wr w1→wpList Tryz.prog ops Q rest (a.put o.dst (.slice A' (k+1) cap')) w1):wpList Tryz.prog ops Q (o :: rest) a (wr.alloc (.cells #[.int .u8 (y.toNat:Int)] 5)):=by
 subst hnb
 obtain ⟨i0,hi,hz0,hz1,hz2⟩:=info_parts tinfo_u8
 have hb:Below base wr (wr.alloc (.cells #[.int .u8 (y.toNat:Int)] 5)):=(Below.refl base wr).alloc hbase _
 have hown:=World.ownsRow.alloc R (.cells #[.int .u8 (y.toNat:Int)] 5)
 refine wpList_append_own _ hgd s x 27 ho base 5 i0 (.int .u8 0) 1 1 Tryz.underlying27 hi hz0 hz1 hz2 rfl (by decide) v xs.length _ hs hown ⟨wr.heap.size,0,none⟩ 1 1 [.int .u8 (y.toNat:Int)] hx rfl ?_ ?_ ?_ ?_ ?_ ?_
 ·intro j u hj
  match j,hj with
  | 0,hj=>simp at hj;subst hj;simp [Addr.add,go_sem]
 ·intro u hu
  simp at hu
  subst hu
  rfl
 ·unfold maxLen;omega
 ·omega
 ·simp;omega
 ·intro v' w1 hown' hgrow _
  have hO:TOwnB w1 base v' (xs++[y]):=by
   unfold TOwnB cellsB
   rw [List.length_append,List.map_append]
   exact hown'
  obtain ⟨A',cap',rfl,hB⟩:=hO.bytes
  rw [List.length_append,hk]
  exact h A' cap' w1 hB (hb.grown hgrow (by simp;omega) fun k hk=>(hown.lt k hk).1)
def kindT (page op:Int):Int:=if page<0∨7≤page then 0 else if (pageT (preS page++[UInt8.ofNat op.toNat])).isSome then 2 else if page=2 then 3 else 0
theorem kindWithout_any (page op:Int) (h0:0≤op) (h1:op≤255) (w:World):Calls Tryz.prog 123 #[.int .i64 page,.int .u8 op] w
  fun e w'=>e=.returned (.int .i64 (kindT page op))∧Below w.heap.size w w':=by
 by_cases hp0:page<0
 ·have T:Hid (kindT page op=0):=by show kindT page op=0;unfold kindT;rw [if_pos (.inl hp0)]
  go_enter Tryz.func123,Tryz.ntmps123
  go_wp2
  go_ret
  exact ⟨by rw [T.out];rfl,Below.refl _ _⟩
 ·by_cases hp1:7≤page
  ·have T:Hid (kindT page op=0):=by show kindT page op=0;unfold kindT;rw [if_pos (.inr hp1)]
   go_enter Tryz.func123,Tryz.ntmps123
   go_wp2
   go_ret
   exact ⟨by rw [T.out];rfl,Below.refl _ _⟩
  ·have hpp:=prefixes_any page w
   obtain ⟨c,hc⟩:∃ c:UInt8,op=(c.toNat:Int):=⟨UInt8.ofNat op.toNat,by rw [UInt8.toNat_ofNat_of_lt' (show op.toNat<256 by omega)];omega⟩
   subst hc
   have hcc:UInt8.ofNat ((c.toNat:Int)).toNat=c:=by simp
   have KT:Hid (kindT page (c.toNat:Int)=if (pageT (preS page++[c])).isSome then 2 else if page=2 then 3 else 0):=by
    show kindT page (c.toNat:Int)=_
    unfold kindT
    rw [if_neg (show ¬(page<0∨7≤page) by omega),hcc]
   clear h0 h1 hcc
   go_enter Tryz.func123,Tryz.ntmps123
   go_wp2_with fail
   refine hpp.mono ?_
   rintro e w1 ⟨v,rfl,hO,hb1⟩
   have O1:=Lib.hid hO
   have B1:=Lib.hid hb1
   obtain ⟨A1,c1,rfl,-⟩:=hO.bytes
   obtain ⟨l,hl⟩:∃ l,(preS page).length=l:=⟨_,rfl⟩
   have HL:=Lib.hid hl
   rw [hl] at O1 ⊢
   clear hpp hO hb1
   have hl2:l≤2:=by
    rw [← HL.out]
    unfold preS
    repeat' split
    all_goals simp
   go_wp2_with (at_builtin;refine wpList_appB O1.out B1.out.size rfl _ _ rfl rfl w1.heap.size rfl rfl c l HL.out (by omega) ?_;intro A2 cap2 w2 hA2 hB2;have A2':=Lib.hid hA2;have B2:Hid (Below w.heap.size w w2):=B1.out.trans hB2;clear hA2 hB2)
   have hlen:(preS page++[c]).length=l+1:=by rw [List.length_append,HL.out];rfl
   have hpo:=pageOf_any A2 cap2 (preS page++[c]) (by rw [hlen];unfold maxLen;omega) w2 A2'.out
   rw [hlen] at hpo
   obtain ⟨po,hpo2⟩:∃ x,pageT (preS page++[c])=x:=⟨_,rfl⟩
   rw [hpo2] at hpo KT
   clear hpo2 hlen
   go_wp2_with fail
   refine hpo.mono ?_
   rintro e w3 ⟨rfl,hb3⟩
   have B3:Hid (Below w.heap.size w w3):=B2.out.trans (hb3.mono B2.out.size)
   clear hpo hb3 A2' B2 B1 O1
   cases po with
   | some x=>
    have T:Hid (kindT page (c.toNat:Int)=2):=by show _=_;rw [KT.out];rfl
    go_wp2
    go_ret
    exact ⟨by rw [T.out];rfl,B3.out⟩
   | none=>
    by_cases hp2:page=2
    ·have T:Hid (kindT page (c.toNat:Int)=3):=by show _=_;rw [KT.out,if_neg (by decide),if_pos hp2]
     go_wp2
     go_ret
     exact ⟨by rw [T.out];rfl,B3.out⟩
    ·have T:Hid (kindT page (c.toNat:Int)=0):=by show _=_;rw [KT.out,if_neg (by decide),if_neg hp2]
     go_wp2
     go_ret
     exact ⟨by rw [T.out];rfl,B3.out⟩
end Go.Proofs.YtmnleknehjkmgaaGreatDoor
namespace Go.Proofs.YtmnleknehjkmgaaGreatDoor
open Go.RowKit Go.Shelf
def argsU (p:Pat) (a:Nat):Str:=if (cutL [32] p.2).1=[97] then arB a++(cutL [32] p.2).2.1 else (cutL [32] p.2).2.1
theorem argsU_eq (p:Pat) (op:Int):(wordsT p op).2.1++(wordsT p op).2.2=argsU p (numP p.1 op 97).toNat:=by
 unfold wordsT argsU
 split
 ·rfl
 ·split <;> rfl
theorem pats_small:∀ p∈mainP++cbP++edP,p.1.length=8∧p.2.length≤100:=by decide +kernel
theorem pats_num:∀ p∈mainP++cbP++edP,∀ n<256,numN p.1 n 97 8≤7∧numN p.1 n 111 8≤7:=by decide +kernel
theorem pats_words:∀ p∈mainP++cbP++edP,∀ a<8,(argsU p a).length≤100∧∀ w∈splitW (argsU p a),w∈wordsAll:=by decide +kernel
theorem wordsF_len:∀ (n:Nat) (l:Str),(wordsF n l).length≤l.length
 | 0,l=>Nat.zero_le _
 | n+1,l=>by
  unfold wordsF
  split
  ·exact Nat.zero_le _
  ·next h=>
   have hl:0<l.length:=List.length_pos_iff.2 (by simpa using h)
   have h1:=(cutL_lt [44] l (by decide) hl).1
   have h2:=wordsF_len n (cutL [44] l).2.1
   rw [List.length_cons]
   omega
theorem extraF_len (p:Pat) (op:Int):∀ (n:Nat) (l:Str),(extraT p op (wordsF n l)).length≤l.length
 | 0,l=>Nat.zero_le _
 | n+1,l=>by
  unfold wordsF
  split
  ·exact Nat.zero_le _
  ·have h1:=cutL_sum [44] l
   have h2:=extraF_len p op n (cutL [44] l).2.1
   have h3:=opT_len p op (cutL [44] l).1
   show ((opT p op (cutL [44] l).1).2++extraT p op (wordsF n (cutL [44] l).2.1)).length≤_
   rw [List.length_append]
   omega
theorem good2_of {p:Pat} (hp:p∈mainP++cbP++edP) (op:Int) (h0:0≤op) (h1:op≤255):Good2 p op:=by
 obtain ⟨n,rfl⟩:∃ n:Nat,op=n:=⟨op.toNat,by omega⟩
 have hn:n<256:=by omega
 obtain ⟨e1,e2⟩:=pats_small p hp
 obtain ⟨e3,e4⟩:=pats_num p hp n hn
 have na:numP p.1 (n:Int) 97≤7:=by rw [numP_eq _ _ hn];omega
 have no:numP p.1 (n:Int) 111≤7:=by rw [numP_eq _ _ hn];omega
 have n0:=(numP_bd p.1 (n:Int) h0 h1 97).1
 obtain ⟨e5,e6⟩:=pats_words p hp (numP p.1 (n:Int) 97).toNat (by omega)
 rw [← argsU_eq] at e5 e6
 have l1:=wordsF_len ((wordsT p (n:Int)).2.1++(wordsT p (n:Int)).2.2).length ((wordsT p (n:Int)).2.1++(wordsT p (n:Int)).2.2)
 have l2:=extraF_len p (n:Int) ((wordsT p (n:Int)).2.1++(wordsT p (n:Int)).2.2).length ((wordsT p (n:Int)).2.1++(wordsT p (n:Int)).2.2)
 exact ⟨⟨e1,e2,h0,h1,na,no,e5,e6⟩,Nat.le_trans l1 e5,Nat.le_trans l2 (by omega)⟩
theorem op6_all:∀ n:Fin 256,op6 (n.val:Int)=((n.val / 8*8+6:Nat):Int):=by decide +kernel
theorem op6_bd (op:Int) (h0:0≤op) (h1:op≤255):0≤op6 op∧op6 op≤255:=by
 obtain ⟨n,rfl⟩:∃ n:Nat,op=n:=⟨op.toNat,by omega⟩
 have h:=op6_all ⟨n,by omega⟩
 simp only at h
 omega
theorem find_mem {page op:Int} {p:Pat} (h:findP (listS page) op=some p):p∈mainP++cbP++edP:=by
 have h1:=List.mem_of_find?_eq_some h
 rw [patsOf_page] at h1
 exact page_mem h1
end Go.Proofs.YtmnleknehjkmgaaGreatDoor
namespace Go.Proofs.YtmnleknehjkmgaaGreatDoor
open Go.RowKit Go.Shelf
def atT (page op:Int):Option En:=match findP (listS page) op with
 | some p=>entryT p page op
 | none=>none
def RetAt (w:World) (page op:Int) (x:Option En) (e:Ending) (w':World):Prop:=
 (match x with
  | some x=>∃ v,e=.returned (.tuple #[enV page op x.1 v x.2.2.1 x.2.2.2,.int .i64 1])∧OwnT w' w.heap.size v x.2.1
  | none=>e=.returned (.tuple #[enV 0 0 [] (.slice none 0 0) [] false,.int .i64 (kindT page op)]))∧Below w.heap.size w w'
theorem opd0_start (w:World):∃ w0,w.alloc (.cells #[.int .i64 0,.int .u8 0,.string ⟨#[]⟩,.slice none 0 0,.string ⟨#[]⟩,.bool false] 55)=w0∧
  EnAt w0 w.heap.size 0 0 [] (.slice none 0 0) [] false∧Below w.heap.size w w0∧w0.heap.size=w.heap.size+1:=
 ⟨_,rfl,World.alloc_heap_new w _,(Below.refl _ _).alloc (Nat.le_refl _) _,by simp⟩
theorem tat_any (page op:Int) (h0:0≤op) (h1:op≤255) (w:World) (hM:MaxAt w):Calls Tryz.prog 89 #[.int .i64 page,.int .u8 op] w (RetAt w page op (atT page op)):=by
 obtain ⟨w0,hw0,R0,B0,Z0⟩:=opd0_start w
 obtain ⟨n,hn⟩:∃ n,w.heap.size=n:=⟨_,rfl⟩
 rw [hn] at R0 B0 Z0
 have hgn:0 < n:=by rw [← hn];exact hM.lt
 have hM0:MaxAt w0:=hM.belowN (n:=n) B0 hgn
 have hlo:=listOf_any page w0
 have hfi:=tfind_any (listS page) (listS_len page) (page8 page) op w0 hM0
 obtain ⟨o,ho⟩:∃ o,findP (listS page) op=o:=⟨_,rfl⟩
 have HO:=Lib.hid ho
 obtain ⟨l,hl⟩:∃ l,listS page=l:=⟨_,rfl⟩
 rw [ho,hl] at hfi
 rw [hl] at hlo
 have HN:=Lib.hid hn
 have R0:=Lib.hid R0
 have B0:=Lib.hid B0
 have HB:=Lib.hid (And.intro h0 h1)
 have HG:=Lib.hid hgn
 have M0:=Lib.hid hM0
 clear hM hM0 ho hl h0 h1 hgn
 go_enter Tryz.func89,Tryz.ntmps89
 go_wp2_with fail
 refine hlo.mono ?_
 rintro e w0' ⟨rfl,hw0'⟩
 rw [hw0']
 clear hlo hw0'
 go_wp2_with fail
 refine hfi.mono ?_
 rintro e w1 ⟨rfl,hb1⟩
 have R1:=Lib.hid (R0.out.all hb1)
 have B1:Hid (Below n w w1):=B0.out.trans (hb1.mono (by omega))
 have M1:Hid (MaxAt w1):=M0.out.below hb1
 have Z1:n+1≤w1.heap.size:=by have:=hb1.size;omega
 clear hfi hb1 R0 B0 M0 hw0 Z0
 cases o with
 | none=>
  have T:Hid (atT page op=none):=by show atT page op=none;unfold atT;rw [HO.out]
  have hk:=fun w2=>kindWithout_any page op HB.out.1 HB.out.2 w2
  obtain ⟨kd,hkd⟩:∃ k,kindT page op=k:=⟨_,rfl⟩
  have HK:=Lib.hid hkd
  rw [hkd] at hk
  clear hkd
  have R2:=fun o=>Lib.hid (R1.out.all ((Below.refl w1.heap.size w1).alloc (Nat.le_refl _) o))
  have B2:=fun o=>Lib.hid (B1.out.trans ((Below.refl n w1).alloc (by omega) o))
  have HK2:=Lib.hid hk
  clear hk
  go_wp2_with fail
  refine (HK2.out _).mono ?_
  rintro e w2 ⟨rfl,hb2⟩
  have R3:=Lib.hid ((R2 _).out.all hb2)
  have B3:Hid (Below n w w2):=(B2 _).out.trans (hb2.mono (by simp;omega))
  clear R2 B2 hb2 R1 B1
  obtain ⟨r0,r1,r2,r3,r4,r5,r6⟩:=R3.out.cells
  go_wp2
  obtain ⟨w7,hw7,q,q2,q3,-,q4⟩:=R3.out.put 0 0 [] (.slice none 0 0) [] false
  rw [show sB []=(⟨#[]⟩:ByteArray) from rfl] at hw7
  rw [hw7]
  obtain ⟨q0,q1,q2',q3',q4',q5,-⟩:=q.cells
  refine bodyPost_ret (v:=.tuple #[enV 0 0 [] (.slice none 0 0) [] false,.int .i64 kd]) ?_ rfl ?_
  ·simp [results,Tryz.results89,go_sem,q0,q1,q2',q3',q4',q5,enV]
  ·rw [T.out]
   exact ⟨by rw [HK.out],by rw [HN.out];exact B3.out.trans q2⟩
 | some p=>
  have hmem:=find_mem HO.out
  have hb6:=op6_bd op HB.out.1 HB.out.2
  have hen:=fun w2 hM2=>entry_any p page op (good2_of hmem op HB.out.1 HB.out.2) (good2_of hmem (op6 op) hb6.1 hb6.2) w2 hM2
  have T:Hid (atT page op=entryT p page op):=by show atT page op=_;unfold atT;rw [HO.out]
  obtain ⟨o2,ho2⟩:∃ o,entryT p page op=o:=⟨_,rfl⟩
  rw [ho2] at hen T
  have HE:=Lib.hid hen
  clear hen ho2 hb6 hmem
  have R2:=fun o=>Lib.hid (R1.out.all ((Below.refl w1.heap.size w1).alloc (Nat.le_refl _) o))
  have B2:=fun o=>Lib.hid (B1.out.trans ((Below.refl n w1).alloc (by omega) o))
  have M2:=fun o=>Lib.hid (M1.out.below ((Below.refl w1.heap.size w1).alloc (Nat.le_refl _) o))
  simp only [codeV]
  go_wp2_with fail
  refine (HE.out _ (M2 _).out).mono ?_
  rintro e w2 ⟨hres,hb2⟩
  have R3:=Lib.hid ((R2 _).out.all hb2)
  have B3:Hid (Below n w w2):=(B2 _).out.trans (hb2.mono (by simp;omega))
  have Z3:n+1≤w2.heap.size:=by have:=hb2.size;simp at this;omega
  have R4:=fun o=>Lib.hid (R3.out.all ((Below.refl w2.heap.size w2).alloc (Nat.le_refl _) o))
  have B4:=fun o=>Lib.hid (B3.out.trans ((Below.refl n w2).alloc (by omega) o))
  clear R2 B2 hb2 R1 B1 M2 M1 HE
  cases o2 with
  | none=>
   subst hres
   have O3:=Lib.hid trivial
   have T2:Hid (atT page op=none):=T.out
   have hk:=fun w2=>kindWithout_any page op HB.out.1 HB.out.2 w2
   obtain ⟨kd,hkd⟩:∃ k,kindT page op=k:=⟨_,rfl⟩
   have HK:=Lib.hid hkd
   rw [hkd] at hk
   clear hkd
   have HK2:=Lib.hid hk
   clear hk
   simp only [enV]
   go_wp2_with fail
   refine (HK2.out _).mono ?_
   rintro e w4 ⟨rfl,hb4⟩
   have R5:=Lib.hid ((R4 _).out.all hb4)
   have B5:Hid (Below n w w4):=(B4 _).out.trans (hb4.mono (by simp;omega))
   clear R4 B4 hb4 R3 B3 O3 HK2
   obtain ⟨r0,r1,r2,r3,r4,r5,r6⟩:=R5.out.cells
   go_wp2
   obtain ⟨w7,hw7,q,q2,q3,-,q4⟩:=R5.out.put 0 0 [] (.slice none 0 0) [] false
   rw [show sB []=(⟨#[]⟩:ByteArray) from rfl] at hw7
   rw [hw7]
   obtain ⟨q0,q1,q2',q3',q4',q5,-⟩:=q.cells
   refine bodyPost_ret (v:=.tuple #[enV 0 0 [] (.slice none 0 0) [] false,.int .i64 kd]) ?_ rfl ?_
   ·simp [results,Tryz.results89,go_sem,q0,q1,q2',q3',q4',q5,enV]
   ·rw [T2.out]
    exact ⟨by rw [HK.out],by rw [HN.out];exact B5.out.trans q2⟩
  | some x=>
   obtain ⟨m,L,ex,al⟩:=x
   obtain ⟨v,rfl,hO⟩:=hres
   simp only at hO ⊢
   obtain ⟨A,cap,rfl,-,-⟩:=hO.ops
   have O4:=fun o=>Lib.hid ((OwnT.below hO ((Below.refl _ w2).alloc (Nat.le_refl _) o)).lift (show n≤_ by simp;omega))
   clear hO R3 B3
   obtain ⟨f,hf⟩:∃ f,w2.alloc (.cells #[.int .i64 page,.int .u8 op,.string (sB m),.slice A L.length cap,.string (sB ex),.bool al] 55)=f:=⟨_,rfl⟩
   have R5:=R4 (.cells #[.int .i64 page,.int .u8 op,.string (sB m),.slice A L.length cap,.string (sB ex),.bool al] 55)
   have B5:=B4 (.cells #[.int .i64 page,.int .u8 op,.string (sB m),.slice A L.length cap,.string (sB ex),.bool al] 55)
   have O5:=O4 (.cells #[.int .i64 page,.int .u8 op,.string (sB m),.slice A L.length cap,.string (sB ex),.bool al] 55)
   have E5:EnAt f w2.heap.size page op m (.slice A L.length cap) ex al:=by rw [← hf];exact World.alloc_heap_new w2 _
   rw [hf] at R5 B5 O5
   clear R4 B4 O4
   obtain ⟨e0,e1,e2,e3,e4,e5,-⟩:=E5.cells
   obtain ⟨r0,r1,r2,r3,r4,r5,r6⟩:=R5.out.cells
   simp only [enV]
   go_wp2
   obtain ⟨w7,hw7,q,q2,q3,-,q4⟩:=R5.out.put page op m (.slice A L.length cap) ex al
   rw [hw7]
   obtain ⟨q0,q1,q2',q3',q4',q5,-⟩:=q.cells
   refine bodyPost_ret (v:=.tuple #[enV page op m (.slice A L.length cap) ex al,.int .i64 1]) ?_ rfl ?_
   ·simp [results,Tryz.results89,go_sem,q0,q1,q2',q3',q4',q5,enV]
   ·rw [T.out]
    exact ⟨⟨_,rfl,by rw [HN.out];exact put_own R5.out O5.out q4⟩,by rw [HN.out];exact B5.out.trans q2⟩
end Go.Proofs.YtmnleknehjkmgaaGreatDoor
namespace Go.Proofs.YtmnleknehjkmgaaGreatDoor
open Go.RowKit Go.Shelf
def fitF (n:Nat):Nat→Str→Bool
 | _,[]=>true
 | w,c :: t=>(if c=48 then n / w % 2 == 0 else if c=49 then n / w % 2 == 1 else true)&&fitF n (w / 2) t
theorem fit_all:∀ p∈mainP++cbP++edP,∀ n:Fin 256,fitsP p.1 (n.val:Int)=fitF n.val 128 p.1:=by decide +kernel
def findN (page n:Nat):Option Pat:=(pagePats page).find? fun p=>fitF n 128 p.1
theorem find_eq (page n:Nat) (hn:n<256):findP (listS page) (n:Int)=findN page n:=by
 unfold findP findN
 rw [patsOf_page]
 have h:∀ L:List Pat,(∀ p∈L,p∈mainP++cbP++edP)→L.find? (fun p=>fitsP p.1 (n:Int))=L.find? (fun p=>fitF n 128 p.1):=by
  intro L
  induction L with
  | nil=>intro _;rfl
  | cons p t ih=>
   intro hL
   rw [List.find?_cons,List.find?_cons,fit_all p (hL p (by simp)) ⟨n,hn⟩,ih (fun q hq=>hL q (by simp [hq]))]
 exact h _ fun p hp=>page_mem hp
def nuN (p:Pat) (n:Nat) (c:UInt8):Int:=(numN p.1 n c 8:Nat)
def opN (p:Pat) (n:Nat) (w:Str):Tr×Str:=
 if w=[101] then ((10,0,0),w) else if w=[110]∨w=[119] then ((6,0,0),w) else if w=[40,110,41]∨w=[40,119,41] then ((7,0,0),(w.drop 1).take 1) else
 match fieldT (w.headD 0) (nuN p n (w.headD 0)) with
 | some t=>(t,[])
 | none=>(fixedT w,[])
def wordsN (p:Pat) (n:Nat):Str×Str×Str:=
 if (cutL [32] p.2).1=[97] then (arN (numN p.1 n 97 8),arB (numN p.1 n 97 8),(cutL [32] p.2).2.1) else
 if (cutL [32] p.2).1=[111] then (roN (numN p.1 n 111 8),[],(cutL [32] p.2).2.1) else ((cutL [32] p.2).1,[],(cutL [32] p.2).2.1)
def plainN (p:Pat) (page n:Nat):En:=
 ((wordsN p n).1,(splitW ((wordsN p n).2.1++(wordsN p n).2.2)).map (fun w=>(opN p n w).1),((splitW ((wordsN p n).2.1++(wordsN p n).2.2)).map (fun w=>(opN p n w).2)).flatten,(page:Int) == 2&&isAliasT (wordsN p n).1 n)
theorem opN_eq (p:Pat) (n:Nat) (hn:n<256) (w:Str):opT p (n:Int) w=opN p n w:=by
 unfold opT opN nuN
 rw [numP_eq _ _ hn]
 rfl
theorem wordsN_eq (p:Pat) (n:Nat) (hn:n<256):wordsT p (n:Int)=wordsN p n:=by
 unfold wordsT wordsN
 rw [numP_eq _ _ hn,numP_eq _ _ hn]
 simp only [Int.toNat_natCast]
theorem plainN_eq (p:Pat) (page n:Nat) (hn:n<256):plainT p page (n:Int)=plainN p page n:=by
 unfold plainT plainN argsT extraT wordsOf
 rw [wordsN_eq p n hn]
 simp only [opN_eq p n hn]
def shiftN (p:Pat) (page n:Nat) (ix:Int):En:=
 let x:=plainN p page (n / 8*8+6)
 let L:=if memB x.1 x.2.1 then repM ix x.2.1 else x.2.1
 let ex:=if memB x.1 x.2.1 then 100 :: x.2.2.1 else x.2.2.1
 if numN p.1 n 115 8=6 then (x.1,L,ex,x.2.2.2) else if x.1=[66,73,84] then (x.1,L,ex,true) else (x.1,L++[((1:Int),((numN p.1 n 115 8:Nat):Int),(0:Int))],ex,x.2.2.2)
theorem shiftN_eq (p:Pat) (page n:Nat) (hn:n<256) (ix:Int):shiftT p page (n:Int) ix=shiftN p page n ix:=by
 have h6:=op6_all ⟨n,hn⟩
 simp only at h6
 unfold shiftT shiftN
 rw [h6,plainN_eq p page _ (by omega),numP_eq _ _ hn]
 simp only [show ∀ m:Nat,((m:Int)=6)=(m=6) from fun m=>by simp;omega]
def entryN (p:Pat) (page n:Nat):Option En:=
 if page=3 then (withP (plainN p page n).1 5 (plainN p page n).2.1 (plainN p page n).2.2.1).map fun y=>((plainN p page n).1,y.1,y.2,(plainN p page n).2.2.2) else
 if page=4 then (withP (plainN p page n).1 6 (plainN p page n).2.1 (plainN p page n).2.2.1).map fun y=>((plainN p page n).1,y.1,y.2,(plainN p page n).2.2.2) else
 if page=5 then some (shiftN p page n 5) else if page=6 then some (shiftN p page n 6) else some (plainN p page n)
theorem entryN_eq (p:Pat) (page n:Nat) (hn:n<256):entryT p page (n:Int)=entryN p page n:=by
 unfold entryT entryN
 rw [plainN_eq p page n hn,shiftN_eq p page n hn,shiftN_eq p page n hn]
 simp only [show ((page:Int)=3)=(page=3) by simp;omega,show ((page:Int)=4)=(page=4) by simp;omega,show ((page:Int)=5)=(page=5) by simp;omega,show ((page:Int)=6)=(page=6) by simp;omega]
def atN (page n:Nat):Option En:=match findN page n with
 | some p=>entryN p page n
 | none=>none
theorem atN_eq (page n:Nat) (hn:n<256):atT page (n:Int)=atN page n:=by
 unfold atT atN
 rw [find_eq page n hn]
 cases findN page n with
 | none=>rfl
 | some p=>exact entryN_eq p page n hn
end Go.Proofs.YtmnleknehjkmgaaGreatDoor
namespace Go.Proofs.YtmnleknehjkmgaaGreatDoor
open Go.RowKit Go.Shelf
attribute [local irreducible] Go.Mixed.wpMix
theorem up {a b c:World} (h:Below a.heap.size a b) (k:Below b.heap.size b c):Below a.heap.size a c:=h.trans (k.mono h.size)
theorem up_alloc (w:World) (o:Obj):Below w.heap.size w (w.alloc o):=(Below.refl _ _).alloc (Nat.le_refl _) _
def OpV (w:World) (b:Nat) (x:Tr):Prop:=w.heap[b]?=some (.cells #[.int .i64 x.1,.int .i64 x.2.1,.int .i64 x.2.2] 50 (0,0))
theorem OpV.all {w w':World} {b:Nat} {x:Tr} (h:OpV w b x) (hb:Below w.heap.size w w'):OpV w' b x:=(hb.block b (Array.getElem?_eq_some_iff.1 h).1).trans h
theorem OpV.cells {w:World} {b:Nat} {x:Tr} (h:OpV w b x):w.cell? ⟨b,0,none⟩=some (.int .i64 x.1)∧w.cell? ⟨b,1,none⟩=some (.int .i64 x.2.1)∧w.cell? ⟨b,2,none⟩=some (.int .i64 x.2.2)∧∀ j,w.frozen? ⟨b,j,none⟩=false:=
 ⟨Lib.cell_of_heap h 0,Lib.cell_of_heap h 1,Lib.cell_of_heap h 2,Lib.frozen_of_heap h⟩
section
variable {P:Program} {ops:Array Oper}
theorem wpMix_skip {C:World→Prop} {T:Act→World→Prop} {k:Nat} {r:List (Nat×Bool)} {a:Act} {w:World} {o:Oper} (ho:ops[k]?=some o) (hw:Region.wanted o (yielded ops a.tmps)=false)
  (h:Mixed.wpMix P ops C T r (a.put o.dst undef) w):Mixed.wpMix P ops C T ((k,true) :: r) a w:=by
 unfold Mixed.wpMix
 simp only [ho]
 exact ⟨undef,.inr ⟨hw,rfl⟩,h⟩
end
section
variable {w w':World} {b:Nat} {page op:Int} {m ex:Str} {v:Value} {al:Bool}
end
def ratT (page:Int) (op:Nat):Option En:=if 0≤page∧page≤6 then atN page.toNat op else none
def rkindT (page:Int) (op:Nat):Int:=if page=0 then 2 else if page=2 then 3 else if (page=3∨page=4)∧op=203 then 2 else 0
theorem listS_no {page:Int} (h:¬(0≤page∧page≤6)):listS page=[]:=by
 unfold listS
 rw [if_neg (by omega),if_neg (by omega),if_neg (by omega)]
theorem ratT_no {page:Int} (h:¬(0≤page∧page≤6)) (op:Nat):ratT page op=none:=by
 unfold ratT
 rw [if_neg h]
theorem at_same (page:Int) (n:Nat) (hn:n<256):atT page (n:Int)=ratT page n:=by
 by_cases hp:0≤page∧page≤6
 ·obtain ⟨g,rfl⟩:∃ g:Nat,page=(g:Int):=⟨page.toNat,by omega⟩
  unfold ratT
  rw [if_pos hp,atN_eq g n hn]
  rfl
 ·rw [ratT_no hp]
  unfold atT findP
  rw [listS_no hp]
  rfl
end Go.Proofs.YtmnleknehjkmgaaGreatDoor
namespace Go.Proofs.YtmnleknehjkmgaaGreatDoor
open Go.RowKit Go.Shelf
attribute [local irreducible] Go.Mixed.wpMix
structure Ee where
 g:Int
 o:Int
 m:Str
 A:Option Addr
 cap:Nat
 L:List Tr
 ex:Str
 al:Bool
instance:Inhabited Ee:=⟨⟨0,0,[],none,0,[],[],false⟩⟩
def Ee.v (r:Ee):Value:=.slice r.A r.L.length r.cap
abbrev Ke:=Int×Int×Str×List Tr×Str×Bool
def Ee.k (r:Ee):Ke:=(r.g,r.o,r.m,r.L,r.ex,r.al)
def Ee.c (r:Ee):List Value:=[.int .i64 r.g,.int .u8 r.o,.string (sB r.m),r.v,.string (sB r.ex),.bool r.al]
def cellsX:List Ee→List Value
 | []=>[]
 | r :: t=>.int .i64 r.g :: .int .u8 r.o :: .string (sB r.m) :: r.v :: .string (sB r.ex) :: .bool r.al :: cellsX t
theorem cellsX_length:∀ R:List Ee,(cellsX R).length=R.length*6
 | []=>rfl
 | r :: t=>by
  have h:=cellsX_length t
  show (cellsX t).length+1+1+1+1+1+1=(t.length+1)*6
  omega
theorem cellsX_append:∀ a b:List Ee,cellsX (a++b)=cellsX a++cellsX b
 | [],b=>rfl
 | x :: t,b=>by
  show _ :: _ :: _ :: _ :: _ :: _ :: cellsX (t++b)=_ :: _ :: _ :: _ :: _ :: _ :: (cellsX t++cellsX b)
  rw [cellsX_append t b]
theorem cellsX_at:∀ (R:List Ee) (j:Nat) (h:j<R.length),(cellsX R)[j*6]?=some (.int .i64 R[j].g)∧(cellsX R)[j*6+1]?=some (.int .u8 R[j].o)∧(cellsX R)[j*6+2]?=some (.string (sB R[j].m))∧(cellsX R)[j*6+3]?=some R[j].v∧(cellsX R)[j*6+4]?=some (.string (sB R[j].ex))∧(cellsX R)[j*6+5]?=some (.bool R[j].al)
 | x :: t,0,h=>⟨rfl,rfl,rfl,rfl,rfl,rfl⟩
 | x :: t,j+1,h=>by
  obtain ⟨h1,h2,h3,h4,h5,h6⟩:=cellsX_at t j (by simpa using h)
  have e:cellsX (x :: t)=.int .i64 x.g :: .int .u8 x.o :: .string (sB x.m) :: x.v :: .string (sB x.ex) :: .bool x.al :: cellsX t:=rfl
  rw [e,show (j+1)*6=j*6+1+1+1+1+1+1 by omega,show j*6+1+1+1+1+1+1+1=(j*6+1)+1+1+1+1+1+1 by omega,show j*6+1+1+1+1+1+1+2=(j*6+2)+1+1+1+1+1+1 by omega,show j*6+1+1+1+1+1+1+3=(j*6+3)+1+1+1+1+1+1 by omega,show j*6+1+1+1+1+1+1+4=(j*6+4)+1+1+1+1+1+1 by omega,show j*6+1+1+1+1+1+1+5=(j*6+5)+1+1+1+1+1+1 by omega]
  simp only [List.getElem?_cons_succ,List.getElem_cons_succ]
  exact ⟨h1,h2,h3,h4,h5,h6⟩
theorem cellsX_one:∀ (R:List Ee),∀ u∈cellsX R,u.oneCell'=true
 | [],u,h=>by cases h
 | x :: t,u,h=>by
  have e:cellsX (x :: t)=.int .i64 x.g :: .int .u8 x.o :: .string (sB x.m) :: x.v :: .string (sB x.ex) :: .bool x.al :: cellsX t:=rfl
  rw [e] at h
  simp only [List.mem_cons] at h
  rcases h with rfl | rfl | rfl | rfl | rfl | rfl | h
  ·rfl
  ·rfl
  ·rfl
  ·rfl
  ·rfl
  ·rfl
  ·exact cellsX_one t u h
theorem cellsX_take6 (R:List Ee) (j:Nat) (u:Value) (hu:(cellsX R)[j]?=some u):∃ (k:Nat) (h:k<R.length) (i:Nat),i<6∧j=k*6+i∧(R[k].c)[i]?=some u:=by
 have hj:j<R.length*6:=by
  rw [← cellsX_length]
  exact (List.getElem?_eq_some_iff.1 hu).1
 have hk:j / 6<R.length:=by omega
 obtain ⟨h1,h2,h3,h4,h5,h6⟩:=cellsX_at R (j / 6) hk
 refine ⟨j / 6,hk,j % 6,by omega,by omega,?_⟩
 have:j % 6=0∨j % 6=1∨j % 6=2∨j % 6=3∨j % 6=4∨j % 6=5:=by omega
 rcases this with h | h | h | h | h | h
 all_goals rw [h]
 ·exact (show _=_ from h1.symm).trans ((congrArg (fun z=>(cellsX R)[z]?) (by omega:j / 6*6=j)).trans hu)
 ·exact (show _=_ from h2.symm).trans ((congrArg (fun z=>(cellsX R)[z]?) (by omega:j / 6*6+1=j)).trans hu)
 ·exact (show _=_ from h3.symm).trans ((congrArg (fun z=>(cellsX R)[z]?) (by omega:j / 6*6+2=j)).trans hu)
 ·exact (show _=_ from h4.symm).trans ((congrArg (fun z=>(cellsX R)[z]?) (by omega:j / 6*6+3=j)).trans hu)
 ·exact (show _=_ from h5.symm).trans ((congrArg (fun z=>(cellsX R)[z]?) (by omega:j / 6*6+4=j)).trans hu)
 ·exact (show _=_ from h6.symm).trans ((congrArg (fun z=>(cellsX R)[z]?) (by omega:j / 6*6+5=j)).trans hu)
def EsP (w:World) (A:Option Addr) (R:List Ee):Prop:=
 R=[]∨∃ b off,A=some ⟨b,off,none⟩∧∀ k (h:k<R.length),(∀ i u,(R[k].c)[i]?=some u→w.cell? ⟨b,off+(k*6+i),none⟩=some u)∧OpsP w R[k].A R[k].L
theorem EsP.at_ {w:World} {A:Option Addr} {R:List Ee} (h:EsP w A R) {k:Nat} (hk:k<R.length):∃ b off,A=some ⟨b,off,none⟩∧b<w.heap.size∧w.cell? ⟨b,off+k*6,none⟩=some (.int .i64 R[k].g)∧w.cell? ⟨b,off+k*6+1,none⟩=some (.int .u8 R[k].o)∧w.cell? ⟨b,off+k*6+2,none⟩=some (.string (sB R[k].m))∧w.cell? ⟨b,off+k*6+3,none⟩=some R[k].v∧w.cell? ⟨b,off+k*6+4,none⟩=some (.string (sB R[k].ex))∧w.cell? ⟨b,off+k*6+5,none⟩=some (.bool R[k].al)∧OpsP w R[k].A R[k].L:=by
 rcases h with rfl | ⟨b,off,rfl,hc⟩
 ·simp at hk
 ·obtain ⟨h1,h2⟩:=hc k hk
  have e:∀ i u,(R[k].c)[i]?=some u→w.cell? ⟨b,off+k*6+i,none⟩=some u:=fun i u hu=>by rw [Nat.add_assoc];exact h1 i u hu
  exact ⟨b,off,rfl,World.block_lt_of_cell? w _ (e 0 _ rfl),e 0 _ rfl,e 1 _ rfl,e 2 _ rfl,e 3 _ rfl,e 4 _ rfl,e 5 _ rfl,h2⟩
theorem EsP.below {w w':World} {A:Option Addr} {R:List Ee} (h:EsP w A R) (hb:Below w.heap.size w w'):EsP w' A R:=by
 rcases h with rfl | ⟨b,off,rfl,hc⟩
 ·exact .inl rfl
 ·refine .inr ⟨b,off,rfl,fun k hk=>⟨fun i u hu=>?_,(hc k hk).2.below hb⟩⟩
  have hp:=(hc k hk).1 i u hu
  exact (hb.cell (World.block_lt_of_cell? w _ hp)).trans hp
theorem EsP.news {w:World} {A:Option Addr} {R:List Ee} (h:EsP w A R):R.length=0∨∃ a,A=some a∧∀ j u,(cellsX R)[j]?=some u→w.cell? (a.add j)=some u:=by
 rcases h with rfl | ⟨b,off,rfl,hc⟩
 ·exact .inl rfl
 ·refine .inr ⟨_,rfl,fun j u hu=>?_⟩
  have hadd:(⟨b,off,none⟩:Addr).add j=⟨b,off+j,none⟩:=by unfold Addr.add;split <;> simp_all
  rw [hadd]
  obtain ⟨k,hk,i,hi,rfl,e⟩:=cellsX_take6 R j u hu
  exact (hc k hk).1 i u e
theorem info_enT:(Tryz.prog.info? 55).map (fun i=>(i.zero,i.size,i.bytes))=some (some (.agg #[.int .i64 0,.int .u8 0,.string ⟨#[]⟩,.slice none 0 0,.string ⟨#[]⟩,.bool false]),6,80):=by kernel_rfl
def OwnXT (w:World) (n:Nat) (v:Value) (R:List Ee):Prop:=w.ownsRow n 55 6 v R.length (cellsX R)∧∀ r∈R,OwnT w n r.v r.L
theorem OwnXT.below {w w':World} {n:Nat} {v:Value} {R:List Ee} (h:OwnXT w n v R) (k:Below w.heap.size w w'):OwnXT w' n v R:=
 ⟨World.ownsRow.kept h.1 (row:=none) ⟨k.os,k.tape,k.output,k.size,fun i hi _=>k.block i hi⟩ (by
  cases e:v.ownBlock with
  | none=>exact .inl rfl
  | some g=>exact .inr (by simp)),fun r hr=>(h.2 r hr).below k⟩
theorem OwnXT.lift {w:World} {n m:Nat} {v:Value} {R:List Ee} (h:OwnXT w n v R) (k:m≤n):OwnXT w m v R:=⟨row_mono h.1 k,fun r hr=>(h.2 r hr).lift k⟩
theorem OwnXT.es {w:World} {n:Nat} {v:Value} {R:List Ee} (h:OwnXT w n v R):∃ A cap,v=.slice A R.length cap∧EsP w A R∧R.length≤cap:=by
 rcases h.1.2 with ⟨rfl,h0⟩ | ⟨g,cap,cur,rfl,_,_,hle,_⟩
 ·have:R=[]:=List.eq_nil_of_length_eq_zero h0
  subst this
  exact ⟨none,0,rfl,.inl rfl,Nat.le_refl _⟩
 ·refine ⟨_,cap,rfl,.inr ⟨g,0,rfl,fun k hk=>⟨fun i u hu=>?_,?_⟩⟩,hle⟩
  ·rw [Nat.zero_add]
   have hi:i<6:=by
    have:=(List.getElem?_eq_some_iff.1 hu).1
    exact this
   obtain ⟨h1,h2,h3,h4,h5,h6⟩:=cellsX_at R k hk
   have hc:(cellsX R)[k*6+i]?=some u:=by
    have:i=0∨i=1∨i=2∨i=3∨i=4∨i=5:=by omega
    rcases this with rfl | rfl | rfl | rfl | rfl | rfl
    ·exact h1.trans hu
    ·exact h2.trans hu
    ·exact h3.trans hu
    ·exact h4.trans hu
    ·exact h5.trans hu
    ·exact h6.trans hu
   exact (World.ownsRow.cellAt h.1 _ (by omega)).trans hc
  ·obtain ⟨A',c',e,hP,-⟩:=(h.2 _ (List.getElem_mem hk)).ops
   simp only [Ee.v,Value.slice.injEq] at e
   rw [e.1];exact hP
theorem ownXT_nil (w:World) (n:Nat):OwnXT w n (.slice none 0 0) []:=⟨World.ownsRow_nil _ _ _ _,fun r hr=>absurd hr List.not_mem_nil⟩
theorem run_appXT (w:World) (B:Nat) (v:Value) (R:List Ee) (h:OwnXT w B v R) (A:Option Addr) (c:Nat) (R2:List Ee) (hP:EsP w A R2) (hO:∀ r∈R2,OwnT w B r.v r.L) (hB:B≤w.heap.size) (hs:R.length+R2.length≤100000) :
  ∃ v' w',(Builtin.append_ #[82,82] 82 #[v,.slice A R2.length c]).run Tryz.prog w=.ok v' w'∧OwnXT w' B v' (R++R2)∧Below B w w'∧w.grownBy w' v.ownBlock:=by
 obtain ⟨i0,hi,hz0,hz1,hz2⟩:=info_parts info_enT
 obtain ⟨v',w',k1,k2,k3⟩:=run_append_src w B 82 82 55 i0 _ 6 80 Tryz.underlying82 hi hz0 hz1 hz2 rfl (by decide) v R.length (cellsX R) h.1 A R2.length c (cellsX R2)
  (cellsX_length R2) hP.news (cellsX_one R2) (by unfold maxLen;omega) (by omega) hB
 have hty:∀ q,v.ownBlock=some q→∀ cur fz,w.heap[q]?≠some (.cells cur 50 fz):=fun q hq cur fz hx=>by
  rcases h.1.2 with ⟨rfl,_⟩ | ⟨g',cap,cur',rfl,_,hg,_⟩
  ·simp [Value.ownBlock] at hq
  ·simp only [Value.ownBlock,Option.some.injEq] at hq
   subst hq
   rw [hx] at hg
   simp at hg
 have kept:∀ {u:Value} {L:List Tr},OwnT w B u L→OwnT w' B u L:=fun {u L} ho=>World.ownsRow.kept ho k3 (by
  cases e:u.ownBlock with
  | none=>exact .inl rfl
  | some q=>
   refine .inr fun e'=>?_
   obtain ⟨cur,hc⟩:=own_types ho e
   exact hty q e'.symm _ _ hc)
 refine ⟨v',w',k1,⟨?_,fun r hr=>?_⟩,(Below.refl B w).grown k3 hB fun k hk=>(World.ownsRow.lt h.1 k hk).1,k3⟩
 ·rw [cellsX_append,List.length_append]
  exact k2
 ·rcases List.mem_append.1 hr with hr | hr
  ·exact kept (h.2 r hr)
  ·exact kept (hO r hr)
theorem es_oneT (w:World) (r:Ee) (hP:OpsP w r.A r.L):EsP (w.alloc (.cells #[.int .i64 r.g,.int .u8 r.o,.string (sB r.m),r.v,.string (sB r.ex),.bool r.al] 55)) (some ⟨w.heap.size,0,none⟩) [r]:=by
 refine .inr ⟨_,_,rfl,fun k hk=>?_⟩
 obtain rfl:k=0:=by simp at hk;omega
 refine ⟨fun i u hu=>?_,hP.below (up_alloc _ _)⟩
 rw [Nat.zero_add,Nat.zero_mul,Nat.zero_add,Lib.cell_of_heap (heap_alloc_new w _)]
 have:i=0∨i=1∨i=2∨i=3∨i=4∨i=5:=by
  have h:i<6:=(List.getElem?_eq_some_iff.1 hu).1
  omega
 rcases this with rfl | rfl | rfl | rfl | rfl | rfl <;> exact hu
end Go.Proofs.YtmnleknehjkmgaaGreatDoor
