/-
  TbS, EnO, EnB, NumF, NumG, NumH, NumI, NumM, NumN, CnA, SeA, NumE, NumJ, NumL, OpA, Sa, OpB.
-/
import Derived.Test.YtajlleeonddinaaGreatDoorGAD
import Derived.Laws.BytesArg
import Derived.Test.YtajlleeonddinaaGreatDoorGAA
import Derived.Laws.IdiomStrings
import Derived.Lib.SlBytesRow
import Derived.Deep.OwnRows
import Derived.Deep.Draws
import Derived.RegionTactic
import Derived.Deep.QuietTactic
import Derived.BigQuiet
import Derived.Laws.EntriesVeiled
set_option linter.all false
set_option maxRecDepth 100000
set_option maxHeartbeats 4000000
namespace Go.Proofs.YtajlleeonddinaaGreatDoor
open Go.RowKit Go.Shelf
def BytesAt (w:World) (A:Option Addr) (xs:Str):Prop:=xs=[]∨∃ b off,A=some ⟨b,off,none⟩∧∀ j (h:j<xs.length),w.cell? ⟨b,off+j,none⟩=some (.int .u8 (xs[j].toNat:Int))
theorem BytesAt.below {w w':World} {A:Option Addr} {xs:Str} (h:BytesAt w A xs) (hb:Below w.heap.size w w'):BytesAt w' A xs:=by
 rcases h with rfl | ⟨b,off,rfl,hc⟩
 ·exact .inl rfl
 ·exact .inr ⟨b,off,rfl,fun j hj=>(hb.cell (World.block_lt_of_cell? w _ (hc j hj))).trans (hc j hj)⟩
theorem conv_sB {w:World} {A:Option Addr} {xs:Str} (h:BytesAt w A xs) (cap:Nat) :
  (convert 38 9 (.slice A xs.length cap)).run Tryz.prog w=.ok (.string (sB xs)) w:=by
 cases A with
 | none=>
  obtain rfl:xs=[]:=by
   rcases h with h | ⟨b,off,h,_⟩
   ·exact h
   ·cases h
  rw [run_convert_bytes_nil (P:=Tryz.prog) w 38 5 Tryz.underlying38 Tryz.underlying5 _ _ 9 Tryz.underlying9]
  rfl
 | some a=>
  refine run_convert_bytes_back w 38 9 5 a cap xs Tryz.underlying38 Tryz.underlying5 Tryz.underlying9 (fun j hj=>?_)
  rcases h with rfl | ⟨b,off,e,hc⟩
  ·simp at hj
  ·cases e
   have h1:=hc j hj
   unfold Addr.add
   split
   ·rename_i h0;subst h0;simpa using h1
   ·exact h1
def cellsB (xs:Str):List Value:=xs.map fun b=>.int .u8 (b.toNat:Int)
def TOwnB (w:World) (n:Nat) (v:Value) (xs:Str):Prop:=w.ownsRow n 5 1 v xs.length (cellsB xs)
theorem TOwnB.bytes {w:World} {n:Nat} {v:Value} {xs:Str} (h:TOwnB w n v xs):∃ A cap,v=.slice A xs.length cap∧BytesAt w A xs:=by
 rcases h.2 with ⟨rfl,h0⟩ | ⟨g,cap,cur,rfl,_,_,_⟩
 ·have:xs=[]:=List.eq_nil_of_length_eq_zero h0
  subst this
  exact ⟨none,0,rfl,.inl rfl⟩
 ·refine ⟨_,cap,rfl,.inr ⟨g,0,rfl,fun j hj=>?_⟩⟩
  rw [Nat.zero_add,World.ownsRow.cellAt h j (by omega)]
  unfold cellsB
  rw [List.getElem?_map,List.getElem?_eq_getElem hj]
  rfl
theorem TOwnB.below {w w':World} {n:Nat} {v:Value} {xs:Str} (h:TOwnB w n v xs) (k:Below w.heap.size w w'):TOwnB w' n v xs:=
 World.ownsRow.kept h (row:=none) ⟨k.os,k.tape,k.output,k.size,fun i hi _=>k.block i hi⟩ (by
  cases e:v.ownBlock with
  | none=>exact .inl rfl
  | some g=>exact .inr (by simp))
theorem own_lit (w:World) (xs:Str) (hl:xs.length≤100):TOwnB (w.alloc (.cells (cellsB xs).toArray 5)) w.heap.size (.slice (some ⟨w.heap.size,0,none⟩) xs.length xs.length) xs:=by
 refine ⟨by unfold cellsB;simp,.inr ⟨w.heap.size,xs.length,(cellsB xs).toArray,rfl,Nat.le_refl _,World.alloc_heap_new w _,Nat.le_refl _,by unfold maxLen;omega,by unfold cellsB;simp,?_⟩⟩
 unfold cellsB
 rw [List.take_of_length_le (by simp)]
theorem equalB_any (A1 A2:Option Addr) (c1 c2:Nat) (xs ys:Str) (w:World) (H1:BytesAt w A1 xs) (H2:BytesAt w A2 ys) :
  Calls Tryz.prog 189 #[.slice A1 xs.length c1,.slice A2 ys.length c2] w fun e w'=>e=.returned (.bool (decide (xs=ys)))∧w'=w:=by
 have k1:=conv_sB H1 c1
 have k2:=conv_sB H2 c2
 have E:Hid (((sB xs).toList == (sB ys).toList)=decide (xs=ys)):=by
  show ((sB xs).toList == (sB ys).toList)=_
  rw [sB_eq,ByteArray.toList_eq,show (sB ys).data.toList=ys by simp [sB]]
 clear H1 H2
 go_enter Tryz.func189,Tryz.ntmps189
 go_wp2
 go_ret
 exact ⟨ret_bool E.out,rfl⟩
def preS (page:Int):Str:=if page=1 then [203] else if page=2 then [237] else if page=3 then [221] else if page=4 then [253] else if page=5 then [221,203] else if page=6 then [253,203] else []
def RetB (w:World) (xs:Str) (e:Ending) (w':World):Prop:=∃ v,e=.returned v∧TOwnB w' w.heap.size v xs∧Below w.heap.size w w'
theorem prefixes_1 (w:World):Calls Tryz.prog 190 #[.int .i64 1] w (RetB w [203]):=by
 have O:=Lib.hid (own_lit w [203] (by decide))
 go_enter Tryz.func190,Tryz.ntmps190
 go_wp2
 go_ret
 exact ⟨_,rfl,O.out,(Below.refl _ _).alloc (Nat.le_refl _) _⟩
theorem prefixes_2 (w:World):Calls Tryz.prog 190 #[.int .i64 2] w (RetB w [237]):=by
 have O:=Lib.hid (own_lit w [237] (by decide))
 go_enter Tryz.func190,Tryz.ntmps190
 go_wp2
 go_ret
 exact ⟨_,rfl,O.out,(Below.refl _ _).alloc (Nat.le_refl _) _⟩
theorem prefixes_3 (w:World):Calls Tryz.prog 190 #[.int .i64 3] w (RetB w [221]):=by
 have O:=Lib.hid (own_lit w [221] (by decide))
 go_enter Tryz.func190,Tryz.ntmps190
 go_wp2
 go_ret
 exact ⟨_,rfl,O.out,(Below.refl _ _).alloc (Nat.le_refl _) _⟩
theorem prefixes_4 (w:World):Calls Tryz.prog 190 #[.int .i64 4] w (RetB w [253]):=by
 have O:=Lib.hid (own_lit w [253] (by decide))
 go_enter Tryz.func190,Tryz.ntmps190
 go_wp2
 go_ret
 exact ⟨_,rfl,O.out,(Below.refl _ _).alloc (Nat.le_refl _) _⟩
theorem prefixes_5 (w:World):Calls Tryz.prog 190 #[.int .i64 5] w (RetB w [221,203]):=by
 have O:=Lib.hid (own_lit w [221,203] (by decide))
 go_enter Tryz.func190,Tryz.ntmps190
 go_wp2
 go_ret
 exact ⟨_,rfl,O.out,(Below.refl _ _).alloc (Nat.le_refl _) _⟩
theorem prefixes_6 (w:World):Calls Tryz.prog 190 #[.int .i64 6] w (RetB w [253,203]):=by
 have O:=Lib.hid (own_lit w [253,203] (by decide))
 go_enter Tryz.func190,Tryz.ntmps190
 go_wp2
 go_ret
 exact ⟨_,rfl,O.out,(Below.refl _ _).alloc (Nat.le_refl _) _⟩
theorem prefixes_any (page:Int) (w:World):Calls Tryz.prog 190 #[.int .i64 page] w (RetB w (preS page)):=by
 unfold preS
 by_cases h1:page=1
 ·rw [if_pos h1];subst h1;exact prefixes_1 w
 by_cases h2:page=2
 ·rw [if_neg h1,if_pos h2];subst h2;exact prefixes_2 w
 by_cases h3:page=3
 ·rw [if_neg h1,if_neg h2,if_pos h3];subst h3;exact prefixes_3 w
 by_cases h4:page=4
 ·rw [if_neg h1,if_neg h2,if_neg h3,if_pos h4];subst h4;exact prefixes_4 w
 by_cases h5:page=5
 ·rw [if_neg h1,if_neg h2,if_neg h3,if_neg h4,if_pos h5];subst h5;exact prefixes_5 w
 by_cases h6:page=6
 ·rw [if_neg h1,if_neg h2,if_neg h3,if_neg h4,if_neg h5,if_pos h6];subst h6;exact prefixes_6 w
 rw [if_neg h1,if_neg h2,if_neg h3,if_neg h4,if_neg h5,if_neg h6]
 have e1:(page == 1)=false:=by simpa using h1
 have e2:(page == 2)=false:=by simpa using h2
 have e3:(page == 3)=false:=by simpa using h3
 have e4:(page == 4)=false:=by simpa using h4
 have e5:(page == 5)=false:=by simpa using h5
 have e6:(page == 6)=false:=by simpa using h6
 clear h1 h2 h3 h4 h5 h6
 go_enter Tryz.func190,Tryz.ntmps190
 go_wp2
 go_ret
 exact ⟨_,rfl,World.ownsRow_nil _ _ _ _,Below.refl _ _⟩
def pageF (xs:Str):Nat→Option Int
 | 0=>none
 | k+1=>match pageF xs k with
  | some p=>some p
  | none=>if preS k=xs then some k else none
def pageT (xs:Str):Option Int:=pageF xs 7
theorem pageF_some (xs:Str) (k:Nat) (p:Int) (h:pageF xs k=some p):∀ m,pageF xs (k+m)=some p
 | 0=>h
 | m+1=>by
  have ih:=pageF_some xs k p h m
  show pageF xs (k+m+1)=some p
  unfold pageF
  rw [ih]
theorem pageOf_any (A:Option Addr) (cap:Nat) (xs:Str) (hx:xs.length≤maxLen) (w:World) (H:BytesAt w A xs):Calls Tryz.prog 161 #[.slice A xs.length cap] w
  fun e w'=>e=.returned (.tuple #[.int .i64 ((pageT xs).getD 0),.bool (pageT xs).isSome])∧Below w.heap.size w w':=by
 obtain ⟨l,hl⟩:∃ l,xs.length=l:=⟨_,rfl⟩
 have HH:=Lib.hid H
 have HL:=Lib.hid hl
 rw [hl]
 clear H hl hx
 go_enter Tryz.func161,Tryz.ntmps161
 go_wp2
 go_loopw [5] (fun i wr=>∃ k:Nat,k≤7∧i=.int .i64 k∧Hid (pageF xs k=none)∧Hid (Below w.heap.size w wr)) (fun i _=>7 - (intOf i).toNat)
 case atStart=>exact ⟨0,Nat.zero_le _,rfl,rfl,Below.refl _ _⟩
 case round=>
  obtain ⟨k,hk,rfl,PF,B⟩:=hrel
  by_cases hlt:k<7
  ·have hp:=prefixes_any (k:Int) wr
   go_wp2_with fail
   refine hp.mono ?_
   rintro e w1 ⟨v,rfl,hO,hb1⟩
   obtain ⟨A1,c1,rfl,hB1⟩:=hO.bytes
   have B1:Hid (Below w.heap.size w w1):=B.out.trans (hb1.mono B.out.size)
   have hq:=equalB_any A1 A c1 cap (preS k) xs w1 hB1 (HH.out.below B1.out)
   rw [HL.out] at hq
   have PS:Hid (pageF xs (k+1)=if preS k=xs then some (k:Int) else none):=by show pageF xs (k+1)=_;rw [pageF,PF.out]
   clear hp hb1 hO hB1 B PF
   by_cases he:preS k=xs
   ·rw [decide_eq_true he] at hq
    have T:Hid (pageT xs=some (k:Int)):=by
     have h:=PS.out
     rw [if_pos he] at h
     have h2:=pageF_some xs (k+1) k h (7 - (k+1))
     rw [show k+1+(7 - (k+1))=7 by omega] at h2
     exact h2
    clear he
    go_wp2_with fail
    refine hq.mono ?_
    rintro e w2 ⟨rfl,hw2⟩
    rw [hw2]
    clear hq hw2
    go_wp2
    go_ret2
    exact ⟨by rw [T.out];rfl,B1.out⟩
   ·rw [decide_eq_false he] at hq
    have T:Hid (pageF xs (k+1)=none):=by have h:=PS.out;rw [if_neg he] at h;exact h
    clear he
    go_wp2_with fail
    refine hq.mono ?_
    rintro e w2 ⟨rfl,hw2⟩
    rw [hw2]
    clear hq hw2
    go_wp2
    go_roundw
    case rel=>exact ⟨k+1,by omega,by go_num,T.out,B1.out⟩
    case measure=>simp [intOf];omega
  ·obtain rfl:k=7:=by omega
   have T:Hid (pageT xs=none):=PF.out
   go_wp2
   go_ret2
   exact ⟨by rw [T.out];rfl,B.out⟩
theorem tinfo_u8:(Tryz.prog.info? 5).map (fun i=>(i.zero,i.size,i.bytes))=some (some (.int .u8 0),1,1):=by kernel_rfl
theorem wpList_appB {wr:World} {base:Nat} {v:Value} {xs:Str} (R:TOwnB wr base v xs) (hbase:base≤wr.heap.size) {ops:Array Oper} {rest:List Oper} {o:Oper} {a:Act} {Q:Exit→Act→World→Prop} (hgd:o.guard=none) (s x:Operand)
  (ho:o.op=.call {callee:=.builtin .append,args:=#[s,x],argTypes:=#[38,38]}) (hs:a.eval s=v) (nb:Nat) (hnb:nb=wr.heap.size) (hx:a.eval x=.slice (some ⟨nb,0,none⟩) 1 1)
  (y:UInt8) (k:Nat) (hk:xs.length=k) (hlen:k<10000)
  (h:∀ A' cap' w1,BytesAt w1 A' (xs++[y])→Below base wr w1→wpList Tryz.prog ops Q rest (a.put o.dst (.slice A' (k+1) cap')) w1):wpList Tryz.prog ops Q (o :: rest) a (wr.alloc (.cells #[.int .u8 (y.toNat:Int)] 5)):=by
 subst hnb
 obtain ⟨i0,hi,hz0,hz1,hz2⟩:=info_parts tinfo_u8
 have hb:Below base wr (wr.alloc (.cells #[.int .u8 (y.toNat:Int)] 5)):=(Below.refl base wr).alloc hbase _
 have hown:=World.ownsRow.alloc R (.cells #[.int .u8 (y.toNat:Int)] 5)
 refine wpList_append_own _ hgd s x 38 ho base 5 i0 (.int .u8 0) 1 1 Tryz.underlying38 hi hz0 hz1 hz2 rfl (by decide) v xs.length _ hs hown ⟨wr.heap.size,0,none⟩ 1 1 [.int .u8 (y.toNat:Int)] hx rfl ?_ ?_ ?_ ?_ ?_ ?_
 ·intro j u hj
  match j,hj with
  | 0,hj=>simp at hj;subst hj;simp [Addr.add,go_sem]
 ·intro u hu
  simp at hu
  subst hu
  rfl
 ·unfold maxLen;omega
 ·omega
 ·simp;omega
 ·intro v' w1 hown' hgrow _
  have hO:TOwnB w1 base v' (xs++[y]):=by
   unfold TOwnB cellsB
   rw [List.length_append,List.map_append]
   exact hown'
  obtain ⟨A',cap',rfl,hB⟩:=hO.bytes
  rw [List.length_append,hk]
  exact h A' cap' w1 hB (hb.grown hgrow (by simp;omega) fun k hk=>(hown.lt k hk).1)
def kindT (page op:Int):Int:=if page<0∨7≤page then 0 else if (pageT (preS page++[UInt8.ofNat op.toNat])).isSome then 2 else if page=2 then 3 else 0
theorem kindWithout_any (page op:Int) (h0:0≤op) (h1:op≤255) (w:World):Calls Tryz.prog 182 #[.int .i64 page,.int .u8 op] w
  fun e w'=>e=.returned (.int .i64 (kindT page op))∧Below w.heap.size w w':=by
 by_cases hp0:page<0
 ·have T:Hid (kindT page op=0):=by show kindT page op=0;unfold kindT;rw [if_pos (.inl hp0)]
  go_enter Tryz.func182,Tryz.ntmps182
  go_wp2
  go_ret
  exact ⟨by rw [T.out];rfl,Below.refl _ _⟩
 ·by_cases hp1:7≤page
  ·have T:Hid (kindT page op=0):=by show kindT page op=0;unfold kindT;rw [if_pos (.inr hp1)]
   go_enter Tryz.func182,Tryz.ntmps182
   go_wp2
   go_ret
   exact ⟨by rw [T.out];rfl,Below.refl _ _⟩
  ·have hpp:=prefixes_any page w
   obtain ⟨c,hc⟩:∃ c:UInt8,op=(c.toNat:Int):=⟨UInt8.ofNat op.toNat,by rw [UInt8.toNat_ofNat_of_lt' (show op.toNat<256 by omega)];omega⟩
   subst hc
   have hcc:UInt8.ofNat ((c.toNat:Int)).toNat=c:=by simp
   have KT:Hid (kindT page (c.toNat:Int)=if (pageT (preS page++[c])).isSome then 2 else if page=2 then 3 else 0):=by
    show kindT page (c.toNat:Int)=_
    unfold kindT
    rw [if_neg (show ¬(page<0∨7≤page) by omega),hcc]
   clear h0 h1 hcc
   go_enter Tryz.func182,Tryz.ntmps182
   go_wp2_with fail
   refine hpp.mono ?_
   rintro e w1 ⟨v,rfl,hO,hb1⟩
   have O1:=Lib.hid hO
   have B1:=Lib.hid hb1
   obtain ⟨A1,c1,rfl,-⟩:=hO.bytes
   obtain ⟨l,hl⟩:∃ l,(preS page).length=l:=⟨_,rfl⟩
   have HL:=Lib.hid hl
   rw [hl] at O1 ⊢
   clear hpp hO hb1
   have hl2:l≤2:=by
    rw [← HL.out]
    unfold preS
    repeat' split
    all_goals simp
   go_wp2_with (at_builtin;refine wpList_appB O1.out B1.out.size rfl _ _ rfl rfl w1.heap.size rfl rfl c l HL.out (by omega) ?_;intro A2 cap2 w2 hA2 hB2;have A2':=Lib.hid hA2;have B2:Hid (Below w.heap.size w w2):=B1.out.trans hB2;clear hA2 hB2)
   have hlen:(preS page++[c]).length=l+1:=by rw [List.length_append,HL.out];rfl
   have hpo:=pageOf_any A2 cap2 (preS page++[c]) (by rw [hlen];unfold maxLen;omega) w2 A2'.out
   rw [hlen] at hpo
   obtain ⟨po,hpo2⟩:∃ x,pageT (preS page++[c])=x:=⟨_,rfl⟩
   rw [hpo2] at hpo KT
   clear hpo2 hlen
   go_wp2_with fail
   refine hpo.mono ?_
   rintro e w3 ⟨rfl,hb3⟩
   have B3:Hid (Below w.heap.size w w3):=B2.out.trans (hb3.mono B2.out.size)
   clear hpo hb3 A2' B2 B1 O1
   cases po with
   | some x=>
    have T:Hid (kindT page (c.toNat:Int)=2):=by show _=_;rw [KT.out];rfl
    go_wp2
    go_ret
    exact ⟨by rw [T.out];rfl,B3.out⟩
   | none=>
    by_cases hp2:page=2
    ·have T:Hid (kindT page (c.toNat:Int)=3):=by show _=_;rw [KT.out,if_neg (by decide),if_pos hp2]
     go_wp2
     go_ret
     exact ⟨by rw [T.out];rfl,B3.out⟩
    ·have T:Hid (kindT page (c.toNat:Int)=0):=by show _=_;rw [KT.out,if_neg (by decide),if_neg hp2]
     go_wp2
     go_ret
     exact ⟨by rw [T.out];rfl,B3.out⟩
end Go.Proofs.YtajlleeonddinaaGreatDoor
namespace Go.Proofs.YtajlleeonddinaaGreatDoor
open Go.RowKit
def byteI (n:Int):UInt8:=UInt8.ofNat (n % 256).toNat
def letB (d n:Int) (c:UInt8):Str:=if c=100 then [byteI d] else if c=119 then [byteI n,byteI (n / 256)] else [byteI n]
def encB (page op:Int) (ex:Str) (d n:Int):Str:=if 5≤page then preS page++[byteI d,byteI op] else preS page++byteI op :: ex.flatMap (letB d n)
end Go.Proofs.YtajlleeonddinaaGreatDoor
namespace Go.Proofs.YtajlleeonddinaaGreatDoor
open Go.RowKit Go.Shelf
theorem cellsB_one (ys:Str):∀ u∈cellsB ys,u.oneCell'=true:=fun u hu=>by
 unfold cellsB at hu
 obtain ⟨b,-,rfl⟩:=List.mem_map.1 hu
 rfl
theorem cellsB_append (xs ys:Str):cellsB (xs++ys)=cellsB xs++cellsB ys:=by unfold cellsB;rw [List.map_append]
theorem BytesAt.news {w:World} {A:Option Addr} {ys:Str} (h:BytesAt w A ys):ys.length=0∨∃ a,A=some a∧∀ j u,(cellsB ys)[j]?=some u→w.cell? (a.add j)=some u:=by
 rcases h with rfl | ⟨b,off,rfl,hc⟩
 ·exact .inl rfl
 ·refine .inr ⟨_,rfl,fun j u hu=>?_⟩
  have hadd:(⟨b,off,none⟩:Addr).add j=⟨b,off+j,none⟩:=by unfold Addr.add;split <;> simp_all
  rw [hadd]
  unfold cellsB at hu
  rw [List.getElem?_map] at hu
  cases hy:ys[j]? with
  | none=>rw [hy] at hu;cases hu
  | some y=>
   rw [hy] at hu
   obtain ⟨hj,hy2⟩:=List.getElem?_eq_some_iff.1 hy
   obtain rfl:=Option.some.inj hu
   rw [hc j hj,hy2]
theorem run_appBs (w:World) (B:Nat) (v:Value) (xs:Str) (h:TOwnB w B v xs) (A:Option Addr) (c:Nat) (ys:Str) (hP:BytesAt w A ys) (hB:B≤w.heap.size) (hs:xs.length+ys.length≤100000) :
  ∃ v' w',(Builtin.append_ #[38,38] 38 #[v,.slice A ys.length c]).run Tryz.prog w=.ok v' w'∧TOwnB w' B v' (xs++ys)∧Below B w w'∧w.grownBy w' v.ownBlock:=by
 obtain ⟨i0,hi,hz0,hz1,hz2⟩:=info_parts tinfo_u8
 obtain ⟨v',w',k1,k2,k3⟩:=run_append_src w B 38 38 5 i0 _ 1 1 Tryz.underlying38 hi hz0 hz1 hz2 rfl (by decide) v xs.length (cellsB xs) h A ys.length c (cellsB ys)
  (by unfold cellsB;simp) hP.news (cellsB_one ys) (by unfold maxLen;omega) (by omega) hB
 refine ⟨v',w',k1,?_,(Below.refl B w).grown k3 hB fun k hk=>(World.ownsRow.lt h k hk).1,k3⟩
 unfold TOwnB
 rw [cellsB_append,List.length_append]
 exact k2
theorem wpList_appBs {wr:World} {B:Nat} {v:Value} {xs:Str} (h:TOwnB wr B v xs) {A:Option Addr} {c:Nat} {ys:Str} (hP:BytesAt wr A ys) (hB:B≤wr.heap.size) (hs:xs.length+ys.length≤100000) {ops:Array Oper} {rest:List Oper} {o:Oper} {a:Act} {Q:Exit→Act→World→Prop} (hgd:o.guard=none) (s x:Operand)
  (ho:o.op=.call {callee:=.builtin .append,args:=#[s,x],argTypes:=#[38,38]}) (hty:o.type=38) (hsv:a.eval s=v) (m:Nat) (hm:ys.length=m) (hx:a.eval x=.slice A m c) (n:Nat) (hn:xs.length+m=n)
  (k:∀ A' cap' w1,TOwnB w1 B (.slice A' n cap') (xs++ys)→Below B wr w1→wpList Tryz.prog ops Q rest (a.put o.dst (.slice A' n cap')) w1):wpList Tryz.prog ops Q (o :: rest) a wr:=by
 subst hm hn
 obtain ⟨v',w',k1,k2,k3,-⟩:=run_appBs wr B v xs h A c ys hP hB hs
 obtain ⟨A',cap',rfl,-⟩:=k2.bytes
 rw [List.length_append] at k1 k2
 exact wpList_run_append k1 hgd s x ho hty hsv hx (k A' cap' w' k2 k3)
theorem bytes_new1 (w:World) (a:UInt8):BytesAt (w.alloc (.cells #[.int .u8 (a.toNat:Int)] 5)) (some ⟨w.heap.size,0,none⟩) [a]:=by
 refine .inr ⟨_,_,rfl,fun j hj=>?_⟩
 obtain rfl:j=0:=by simp at hj;omega
 rw [Lib.cell_of_heap (heap_alloc_new w _)]
 rfl
theorem townB_nil (w:World) (n:Nat):TOwnB w n (.slice none 0 0) []:=World.ownsRow_nil _ _ _ _
theorem TOwnB.lift {w:World} {n m:Nat} {v:Value} {xs:Str} (h:TOwnB w n v xs) (k:m≤n):TOwnB w m v xs:=row_mono h k
end Go.Proofs.YtajlleeonddinaaGreatDoor
namespace Go.Proofs.YtajlleeonddinaaGreatDoor
open Go.RowKit
def IntsAt (w:World) (A:Option Addr) (zs:List Int):Prop:=
 zs=[]∨∃ b off,A=some ⟨b,off,none⟩∧∀ j (h:j<zs.length),w.cell? ⟨b,off+j,none⟩=some (.int .i64 zs[j])
theorem IntsAt.at_ {w:World} {A:Option Addr} {zs:List Int} (h:IntsAt w A zs) {k:Nat} (hk:k<zs.length):∃ b off,A=some ⟨b,off,none⟩∧w.cell? ⟨b,off+k,none⟩=some (.int .i64 zs[k]):=by
 rcases h with rfl | ⟨b,off,rfl,hc⟩
 ·simp at hk
 ·exact ⟨b,off,rfl,hc k hk⟩
def fitsB (lo hi:Int) (zs:List Int):Bool:=zs.all fun n=>decide (lo≤n)&&decide (n≤hi)
theorem fits_bad (lo hi:Int) (zs:List Int) (k:Nat) (h:k<zs.length) (hb:zs[k]<lo∨hi<zs[k]):fitsB lo hi zs=false:=by
 unfold fitsB
 rw [List.all_eq_false]
 refine ⟨zs[k],List.getElem_mem h,?_⟩
 simp
 omega
theorem fits_all (lo hi:Int) (zs:List Int) (h:∀ j (h:j<zs.length),lo≤zs[j]∧zs[j]≤hi):fitsB lo hi zs=true:=by
 unfold fitsB
 rw [List.all_eq_true]
 intro x hx
 obtain ⟨j,hj,rfl⟩:=List.getElem_of_mem hx
 have:=h j hj
 simp
 omega
theorem fits_any (lo hi:Int) (A:Option Addr) (cap:Nat) (zs:List Int) (hl:zs.length≤maxLen) (w:World) (hz:IntsAt w A zs) :
  Calls Tryz.prog 78 #[.int .i64 lo,.int .i64 hi,.slice A zs.length cap] w fun e w'=>e=.returned (.bool (fitsB lo hi zs))∧w=w':=by
 unfold maxLen at hl
 have Z:=Lib.hid hz
 clear hz
 go_enter Tryz.func78,Tryz.ntmps78
 go_wp2
 go_loop [11] (fun i=>∃ k:Nat,k≤zs.length∧i=.int .i64 k∧Hid (∀ j (h:j<zs.length),j<k→lo≤zs[j]∧zs[j]≤hi)) (fun i=>zs.length - (intOf i).toNat)
 case atStart=>exact ⟨0,Nat.zero_le _,rfl,fun j h h'=>by omega⟩
 case round=>
  obtain ⟨k,hk,rfl,R⟩:=hrel
  by_cases hlt:k<zs.length
  ·obtain ⟨b,off,hA,hc⟩:=Z.out.at_ hlt
   subst hA
   by_cases h1:zs[k]<lo
   ·have F:=Lib.hid (fits_bad lo hi zs k hlt (.inl h1))
    go_wp2
    go_ret
    exact ⟨ret_bool F.out.symm,rfl⟩
   ·by_cases h2:hi<zs[k]
    ·have F:=Lib.hid (fits_bad lo hi zs k hlt (.inr h2))
     go_wp2
     go_ret
     exact ⟨ret_bool F.out.symm,rfl⟩
    ·have N:Hid (∀ j (h:j<zs.length),j<k+1→lo≤zs[j]∧zs[j]≤hi):=fun j h h'=>by
      by_cases e:j=k
      ·subst e;omega
      ·exact R.out j h (by omega)
     go_wp2
     go_round
     case rel=>exact ⟨k+1,by omega,by go_num,N⟩
     case measure=>simp [intOf];omega
  ·have F:=Lib.hid (fits_all lo hi zs fun j h=>R.out j h (by omega))
   go_wp2
   go_ret
   exact ⟨ret_bool F.out.symm,rfl⟩
theorem ints_one (w:World) (x:Int) (t:TypeId):IntsAt (w.alloc (.cells #[.int .i64 x] t)) (some ⟨w.heap.size,0,none⟩) [x]:=by
 refine .inr ⟨_,_,rfl,fun j h=>?_⟩
 obtain rfl:j=0:=by simp at h;omega
 simp [go_sem]
theorem info_u8:(Tryz.prog.info? 5).map (fun i=>(i.zero,i.size,i.bytes))=some (some (.int .u8 0),1,1):=by kernel_rfl
def hexU (x:Int):UInt8:=(if x<10 then 48+x else 55+x).toNat.toUInt8
def hexTab:ByteArray:=⟨#[48,49,50,51,52,53,54,55,56,57,65,66,67,68,69,70]⟩
theorem hexTab_at (x:Int) (h0:0≤x) (h1:x<16) (h:x.toNat<hexTab.size):hexTab[x.toNat]=hexU x:=by
 have t:∀ i:Fin 16,∀ h:i.val<hexTab.size,hexTab[i.val]=hexU (i.val:Int):=by decide +kernel
 have:=t ⟨x.toNat,by omega⟩ h
 simpa [Int.toNat_of_nonneg h0] using this
theorem and15 (x:Int):bits .and .i64 x 15=x % 16:=by
 show IntKind.i64.wrap ((BitVec.ofInt 64 x &&& BitVec.ofInt 64 15).toNat:Int)=_
 rw [BitVec.toNat_and,show (BitVec.ofInt 64 15).toNat=2 ^ 4 - 1 from rfl,Nat.and_two_pow_sub_one_eq_mod,BitVec.toNat_ofInt,IntKind.wrap_i64]
 omega
def digI (n:Int) (i:Nat):Int:=(n / 2 ^ (4*i)) % 16
theorem digI_bd (n:Int) (i:Nat):0≤digI n i∧digI n i<16:=by unfold digI;omega
def hexS (n:Int) (d:Nat):ByteArray:=⟨((List.range d).map fun j=>hexU (digI n (d - 1 - j))).toArray⟩
theorem hexS_size (n:Int) (d:Nat):(hexS n d).size=d:=by show (((List.range d).map fun j=>hexU (digI n (d - 1 - j))).toArray).size=d;simp
theorem hexS_at (n:Int) (d j:Nat) (h:j<(hexS n d).size):(hexS n d)[j]=hexU (digI n (d - 1 - j)):=by
 have h1:(hexS n d).data[j]'h=hexU (digI n (d - 1 - j)):=by simp [hexS]
 exact h1
def HexRel (w:World) (n:Int) (d k:Nat) (wr:World):Prop:=
 (∀ j,j<d→wr.cell? ⟨w.heap.size+1,j,none⟩=some (.int .u8 (if d - 1 - j<k then ((hexU (digI n (d - 1 - j))).toNat:Int) else 0)))∧(∀ j,j<d→wr.frozen? ⟨w.heap.size+1,j,none⟩=false)∧Below w.heap.size w wr
theorem hexRel_start (w:World) (n:Int) (d:Nat) (O:Obj) (e:TypeId):HexRel w n d 0 ((w.alloc O).alloc (.cells (madeCells #[.int .u8 0] d) e)):=by
 refine ⟨fun j h=>?_,fun j h=>?_,((Below.refl _ _).alloc (Nat.le_refl _) _).alloc (by simp) _⟩
 ·rw [if_neg (by omega)]
  simp [go_sem,madeCells,h,Nat.mod_one]
 ·simp [go_sem]
theorem hexRel_next (w wr:World) (n:Int) (d k:Nat) (hk:k<d) (hr:HexRel w n d k wr) :
  HexRel w n d (k+1) (wr.setCell ⟨w.heap.size+1,d - 1 - k,none⟩ (.int .u8 ((hexU (digI n k)).toNat:Int))):=by
 obtain ⟨r1,r2,r3⟩:=hr
 refine ⟨fun j hj=>?_,fun j hj=>?_,r3.setCell (by simp) _⟩
 ·by_cases e:j=d - 1 - k
  ·subst e
   have:=r1 _ hj
   have e2:d - 1 - (d - 1 - k)=k:=by omega
   rw [if_pos (by omega),e2]
   simp [go_sem,this]
  ·rw [World.cell?_setCell_other _ _ _ _ (by simp),r1 j hj]
   by_cases h1:d - 1 - j<k
   ·rw [if_pos h1,if_pos (by omega)]
   ·rw [if_neg h1,if_neg (by omega)]
 ·simp [go_sem,r2 j hj]
theorem hexRel_end (w wr:World) (n:Int) (d cap:Nat) (hr:HexRel w n d d wr) :
  (convert 38 9 (.slice (some ⟨w.heap.size+1,0,none⟩) d cap)).run Tryz.prog wr=.ok (.string (hexS n d)) wr:=by
 have h:=Lib.run_convert_whole (P:=Tryz.prog) wr 38 5 9 Tryz.underlying38 Tryz.underlying5 Tryz.underlying9 (w.heap.size+1) 0 (hexS n d) (fun i hi=>by
  have hi':i<d:=by rw [hexS_size] at hi;exact hi
  rw [Nat.zero_add,hr.1 i hi',if_pos (by omega),hexS_at n d i hi]) cap
 rw [hexS_size] at h
 exact h
theorem hex_any (n:Int) (d:Nat) (hd:d≤8) (w:World) :
  Calls Tryz.prog 251 #[.int .i64 n,.int .i64 d] w fun e w'=>e=.returned (.string (hexS n d))∧Below w.heap.size w w':=by
 have hF:fitsB 0 8 [(d:Int)]=true:=by simp [fitsB];omega
 have hmk:=fun w=>run_make_row' (P:=Tryz.prog) 38 5 (.int .u8 0) 1 Tryz.underlying38 info_u8 rfl .i64 .i64 d (by omega) (by omega) w
 have S:=fun O=>Lib.hid (hexRel_start w n d O 5)
 go_enter Tryz.func251,Tryz.ntmps251
 go_wp2_with (go_at_call 78;refine (fits_any 0 8 _ _ [(d:Int)] (by simp [maxLen]) _ (ints_one _ _ _)).mono ?_;rintro e w' ⟨rfl,rfl⟩)
 clear hmk
 go_loopw [14] (fun i wr=>∃ k:Nat,k≤d∧i=.int .i64 k∧HexRel w n d k wr) (fun i _=>d - (intOf i).toNat)
 case atStart=>exact ⟨0,Nat.zero_le _,rfl,(S _).out⟩
 case round=>
  obtain ⟨k,hk,rfl,hr⟩:=hrel
  have R:=Lib.hid hr
  clear hr
  by_cases hlt:k<d
  ·have hbit:=and15 (n / 2 ^ (4*k))
   obtain ⟨x0,x1⟩:=digI_bd n k
   have hd0:digI n k=n / 2 ^ (4*k) % 16:=rfl
   rw [← hd0] at hbit
   clear hd0
   obtain ⟨x,hx⟩:∃ x,digI n k=x:=⟨_,rfl⟩
   rw [hx] at hbit x0 x1
   have X:=Lib.hid hx
   clear hx
   have g1:=R.out.1 (d - 1 - k) (by omega)
   have g2:=R.out.2.1 (d - 1 - k) (by omega)
   have N:=Lib.hid (hexRel_next w wr n d k hlt R.out)
   go_wp2
   go_roundw
   case rel=>exact ⟨k+1,by omega,by go_num,by have h:=N.out;rw [X.out,← hexTab_at x x0 x1 (by show x.toNat<16;omega)] at h;exact h⟩
   case measure=>simp [intOf];omega
  ·obtain rfl:k=d:=by omega
   have hback:=hexRel_end w wr n k k R.out
   go_wp2
   go_ret
   exact ⟨rfl,R.out.2.2⟩
end Go.Proofs.YtajlleeonddinaaGreatDoor
namespace Go.Proofs.YtajlleeonddinaaGreatDoor
open Go.RowKit
theorem extract_le (s:ByteArray) (a b:Nat):(s.extract a b).size≤s.size:=by simp;omega
theorem bytes_ext {a b:ByteArray} (h:a.data.toList=b.data.toList):a=b:=by
 apply ByteArray.ext
 exact Array.toList_inj.1 h
def strLen:Value→Nat
 | .string s=>s.size
 | _=>0
def trimL (c:UInt8) (s:ByteArray):ByteArray:=⟨(s.data.toList.dropWhile (· == c)).toArray⟩
theorem list_cons (t:ByteArray) (h:0<t.size):t.data.toList=t[0] :: (t.extract 1 t.size).data.toList:=by
 rw [Lib.extract_data]
 have hl:0<t.data.toList.length:=by simpa using h
 have h1:=List.drop_eq_getElem_cons hl
 rw [List.drop_zero] at h1
 rw [List.take_of_length_le (by simp),← show t.data.toList[0]=t[0] from rfl]
 exact h1
theorem trimL_same (c:UInt8) (t:ByteArray) (h:0<t.size) (e:t[0]=c):trimL c (t.extract 1 t.size)=trimL c t:=by
 apply bytes_ext
 unfold trimL
 simp only [list_cons t h,List.dropWhile_cons,e,beq_self_eq_true,if_true]
theorem trimL_stop (c:UInt8) (t:ByteArray) (h:0<t.size) (e:¬t[0]=c):trimL c t=t:=by
 apply bytes_ext
 unfold trimL
 show List.dropWhile (· == c) t.data.toList=_
 rw [list_cons t h,List.dropWhile_cons]
 simp [e]
theorem trimL_nil (c:UInt8) (t:ByteArray) (h:¬0<t.size):trimL c t=t:=by
 apply bytes_ext
 have h3:t.data.toList.length=t.size:=by simp
 have h1:t.data.toList=[]:=List.eq_nil_of_length_eq_zero (by omega)
 unfold trimL
 simp [h1]
theorem trimLeftByte_any (s:ByteArray) (c:UInt8) (hs:s.size≤maxLen) (w:World) :
  Calls Tryz.prog 261 #[.string s,.int .u8 (c.toNat:Int)] w fun e w'=>e=.returned (.string (trimL c s))∧w=w':=by
 unfold maxLen at hs
 go_enter Tryz.func261,Tryz.ntmps261
 go_wp2
 go_loop [0] (fun v=>∃ t:ByteArray,v=.string t∧t.size≤2 ^ 63 - 1∧Hid (trimL c t=trimL c s)) (fun v=>strLen v)
 case atStart=>exact ⟨s,rfl,hs,rfl⟩
 case round=>
  obtain ⟨t,rfl,ht,T⟩:=hrel
  by_cases h:0<t.size
  ·have hne:((t.size:Int) == 0)=false:=by rw [beq_eq_false_iff_ne];omega
   by_cases e:t[0]=c
   ·have e1:((t[0].toNat:Int) == (c.toNat:Int))=true:=by rw [e];simp
    have N:Hid (trimL c (t.extract 1 t.size)=trimL c s):=(trimL_same c t h e).trans T.out
    clear e
    go_wp2
    go_round
    case rel=>exact ⟨_,rfl,Nat.le_trans (extract_le t 1 t.size) ht,N⟩
    case measure=>simp [strLen];omega
   ·have e1:((t[0].toNat:Int) == (c.toNat:Int))=false:=by
     rw [beq_eq_false_iff_ne]
     intro h2
     exact e (UInt8.toNat_inj.1 (by omega))
    have N:Hid (t=trimL c s):=(trimL_stop c t h e).symm.trans T.out
    clear e
    go_wp2
    go_ret
    exact ⟨ret_str N.out,rfl⟩
  ·have N:Hid (t=trimL c s):=(trimL_nil c t h).symm.trans T.out
   go_wp2
   go_ret
   exact ⟨ret_str N.out,rfl⟩
theorem trimLeft0_any (s:ByteArray) (hs:s.size≤maxLen) (w:World) :
  Calls Tryz.prog 250 #[.string s,.string ⟨#[48]⟩] w fun e w'=>e=.returned (.string (trimL 48 s))∧w=w':=by
 have hs0:=hs
 unfold maxLen at hs
 by_cases h:s.toList.isEmpty=true
 ·have h1:¬0<s.size:=by
   rw [ByteArray.toList_eq] at h
   have h2:s.data.toList=[]:=by simpa using h
   have h3:s.data.toList.length=s.size:=by simp
   rw [h2] at h3
   simp at h3
   omega
  have N:=Lib.hid (trimL_nil 48 s h1).symm
  go_enter Tryz.func250,Tryz.ntmps250
  go_wp2
  go_ret
  exact ⟨ret_str N.out,rfl⟩
 ·have h':s.toList.isEmpty=false:=by simpa using h
  clear h
  go_enter Tryz.func250,Tryz.ntmps250
  go_wp2_with (go_at_call 261;refine (trimLeftByte_any _ 48 hs0 _).mono ?_;rintro e w' ⟨rfl,rfl⟩)
  go_ret
  exact ⟨rfl,rfl⟩
end Go.Proofs.YtajlleeonddinaaGreatDoor
namespace Go.Proofs.YtajlleeonddinaaGreatDoor
open Go.RowKit
def digS (n:Int):ByteArray:=trimL 48 (hexS n 4)
theorem hexU_48:∀ x:Fin 16,(hexU (x.val:Int)=48↔x.val=0):=by decide +kernel
theorem hexU_zero (x:Int) (h0:0≤x) (h1:x<16):hexU x=48↔x=0:=by
 have h:=hexU_48 ⟨x.toNat,by omega⟩
 have e:((x.toNat:Nat):Int)=x:=by omega
 simp only [e] at h
 rw [h]
 omega
theorem hexS4 (n:Int):(hexS n 4).data.toList=[hexU (digI n 3),hexU (digI n 2),hexU (digI n 1),hexU (digI n 0)]:=by
 unfold hexS;simp [List.range_succ]
theorem digS_cases (n:Int) (h0:10≤n) (h1:n≤65535) :
  (4096≤n∧(digS n).data.toList=[hexU (digI n 3),hexU (digI n 2),hexU (digI n 1),hexU (digI n 0)]∧1≤digI n 3)∨
  (n<4096∧256≤n∧(digS n).data.toList=[hexU (digI n 2),hexU (digI n 1),hexU (digI n 0)]∧1≤digI n 2)∨
  (n<256∧16≤n∧(digS n).data.toList=[hexU (digI n 1),hexU (digI n 0)]∧1≤digI n 1)∨
  (n<16∧(digS n).data.toList=[hexU (digI n 0)]∧1≤digI n 0):=by
 have z3:=hexU_zero (digI n 3) (digI_bd n 3).1 (digI_bd n 3).2
 have z2:=hexU_zero (digI n 2) (digI_bd n 2).1 (digI_bd n 2).2
 have z1:=hexU_zero (digI n 1) (digI_bd n 1).1 (digI_bd n 1).2
 have z0:=hexU_zero (digI n 0) (digI_bd n 0).1 (digI_bd n 0).2
 have d3:digI n 3=n / 4096 % 16:=by unfold digI;simp
 have d2:digI n 2=n / 256 % 16:=by unfold digI;simp
 have d1:digI n 1=n / 16 % 16:=by unfold digI;simp
 have d0:digI n 0=n % 16:=by unfold digI;simp
 have hl:(digS n).data.toList=List.dropWhile (· == 48) [hexU (digI n 3),hexU (digI n 2),hexU (digI n 1),hexU (digI n 0)]:=by
  unfold digS trimL;rw [hexS4]
 rw [hl]
 simp only [List.dropWhile_cons,beq_iff_eq,z3,z2,z1,z0]
 by_cases c3:4096≤n
 ·left
  rw [if_neg (by omega)]
  exact ⟨c3,rfl,by omega⟩
 ·right
  rw [if_pos (by omega)]
  by_cases c2:256≤n
  ·left
   rw [if_neg (by omega)]
   exact ⟨by omega,c2,rfl,by omega⟩
  ·right
   rw [if_pos (by omega)]
   by_cases c1:16≤n
   ·left
    rw [if_neg (by omega)]
    exact ⟨by omega,c1,rfl,by omega⟩
   ·right
    rw [if_pos (by omega),if_neg (by omega)]
    exact ⟨by omega,rfl,by omega⟩
theorem digS_pos (n:Int) (h0:10≤n) (h1:n≤65535):0<(digS n).size:=by
 have hl:(digS n).data.toList.length=(digS n).size:=by simp
 rcases digS_cases n h0 h1 with ⟨_,h,_⟩ | ⟨_,_,h,_⟩ | ⟨_,_,h,_⟩ | ⟨_,h,_⟩ <;> rw [h] at hl <;> simp at hl <;> omega
theorem trimL_le (c:UInt8) (s:ByteArray):(trimL c s).size≤s.size:=by
 show (List.dropWhile (· == c) s.data.toList).toArray.size≤s.data.size
 have h:=(List.dropWhile_sublist (p:=(· == c)) (l:=s.data.toList)).length_le
 simpa using h
theorem digS_le (n:Int):(digS n).size≤4:=by
 have h:=trimL_le 48 (hexS n 4)
 rw [hexS_size] at h
 exact h
theorem hexS4_max (n:Int):(hexS n 4).size≤maxLen:=by rw [hexS_size];simp [maxLen]
theorem hex4_any (n:Int) (w:World) :
  Calls Tryz.prog 251 #[.int .i64 n,.int .i64 4] w fun e w'=>e=.returned (.string (hexS n 4))∧Below w.heap.size w w':=hex_any n 4 (by omega) w
theorem trimDig_any (n:Int) (w:World) :
  Calls Tryz.prog 250 #[.string (hexS n 4),.string ⟨#[48]⟩] w fun e w'=>e=.returned (.string (digS n))∧w=w':=trimLeft0_any _ (hexS4_max n) w
def textS (n:Int):ByteArray:=
 if n<0∨65535<n then ⟨#[]⟩
 else if n<10 then ⟨#[hexU n]⟩
 else if decB (((digS n).data.toList.getD 0 0).toNat:Int) then ⟨((digS n).data.toList++[72]).toArray⟩ else ⟨(48 :: (digS n).data.toList++[72]).toArray⟩
theorem fits16_yes (n:Int) (h0:0≤n) (h1:n≤65535):fitsB 0 65535 [n]=true:=by simp [fitsB];omega
theorem fits16_no (n:Int) (h:n<0∨65535<n):fitsB 0 65535 [n]=false:=by simp [fitsB];omega
theorem text_small (n:Int) (h0:0≤n) (h2:n<10):hexTab.extract n.toNat (n+1).toNat=textS n:=by
 have t:∀ i:Fin 10,hexTab.extract i.val (i.val+1)=⟨#[hexU (i.val:Int)]⟩:=by decide +kernel
 have h:=t ⟨n.toNat,by omega⟩
 have e:((n.toNat:Nat):Int)=n:=by omega
 have e2:(n+1).toNat=n.toNat+1:=by omega
 simp only [e] at h
 unfold textS
 rw [if_neg (by omega),if_pos h2,e2]
 exact h
theorem getD0 (t:ByteArray) (h:0<t.size):t.data.toList.getD 0 0=t[0]:=by
 rw [List.getD_eq_getElem?_getD,List.getElem?_eq_getElem (by simpa using h)];rfl
theorem append_data (a b:ByteArray):(a++b).data.toList=a.data.toList++b.data.toList:=by simp
theorem text_dec (n:Int) (h0:10≤n) (h1:n≤65535) (hp:0<(digS n).size) (h3:decB ((digS n)[0].toNat:Int)=true):digS n++⟨#[72]⟩=textS n:=by
 apply bytes_ext
 unfold textS
 rw [if_neg (by omega),if_neg (by omega),getD0 _ hp,h3,append_data]
 simp
theorem text_let (n:Int) (h0:10≤n) (h1:n≤65535) (hp:0<(digS n).size) (h3:decB ((digS n)[0].toNat:Int)=false):(⟨#[48]⟩++digS n)++⟨#[72]⟩=textS n:=by
 apply bytes_ext
 unfold textS
 rw [if_neg (by omega),if_neg (by omega),getD0 _ hp,h3,append_data,append_data]
 simp
theorem text_any (n:Int) (w:World) :
  Calls Tryz.prog 240 #[.int .i64 n] w fun e w'=>e=.returned (.string (textS n))∧Below w.heap.size w w':=by
 by_cases h0:n<0∨65535<n
 ·have hF:=fits16_no n h0
  have T:=Lib.hid (show (⟨#[]⟩:ByteArray)=textS n by unfold textS;rw [if_pos h0])
  clear h0
  go_enter Tryz.func240,Tryz.ntmps240
  go_wp2_with (go_at_call 78;refine (fits_any 0 65535 _ _ [n] (by simp [maxLen]) _ (ints_one _ _ _)).mono ?_;rintro e w' ⟨rfl,rfl⟩)
  go_ret
  exact ⟨ret_str T.out,(Below.refl _ _).alloc (Nat.le_refl _) _⟩
 ·have h1:n≤65535:=by omega
  have h0':0≤n:=by omega
  have hF:=fits16_yes n h0' h1
  clear h0
  by_cases h2:n<10
  ·have T:=Lib.hid (text_small n h0' h2)
   go_enter Tryz.func240,Tryz.ntmps240
   go_wp2_with (go_at_call 78;refine (fits_any 0 65535 _ _ [n] (by simp [maxLen]) _ (ints_one _ _ _)).mono ?_;rintro e w' ⟨rfl,rfl⟩)
   go_ret
   exact ⟨ret_str T.out,(Below.refl _ _).alloc (Nat.le_refl _) _⟩
  ·have hp:=digS_pos n (by omega) h1
   have hq:=digS_le n
   have c0:(0:Int)≤((digS n)[0].toNat:Int):=by omega
   have c1:((digS n)[0].toNat:Int)≤255:=by have:=(digS n)[0].toNat_lt;omega
   by_cases h3:decB ((digS n)[0].toNat:Int)=true
   ·have T:=Lib.hid (text_dec n (by omega) h1 hp h3)
    go_enter Tryz.func240,Tryz.ntmps240
    go_wp2_with (first | (go_at_call 78;refine (fits_any 0 65535 _ _ [n] (by simp [maxLen]) _ (ints_one _ _ _)).mono ?_;rintro e w' ⟨rfl,rfl⟩) | (go_at_call 251;refine (hex4_any n _).mono ?_;rintro e w1 ⟨rfl,hb1⟩) | (go_at_call 250;refine (trimDig_any n _).mono ?_;rintro e w' ⟨rfl,rfl⟩) | (go_at_call 252;refine (isDecimal_any _ c0 c1 _).mono ?_;rintro e w' ⟨rfl,rfl⟩))
    go_ret
    exact ⟨ret_str T.out,((Below.refl _ _).alloc (Nat.le_refl _) _).trans (hb1.mono (by simp))⟩
   ·have h3':decB ((digS n)[0].toNat:Int)=false:=by simpa using h3
    clear h3
    have T:=Lib.hid (text_let n (by omega) h1 hp h3')
    go_enter Tryz.func240,Tryz.ntmps240
    go_wp2_with (first | (go_at_call 78;refine (fits_any 0 65535 _ _ [n] (by simp [maxLen]) _ (ints_one _ _ _)).mono ?_;rintro e w' ⟨rfl,rfl⟩) | (go_at_call 251;refine (hex4_any n _).mono ?_;rintro e w1 ⟨rfl,hb1⟩) | (go_at_call 250;refine (trimDig_any n _).mono ?_;rintro e w' ⟨rfl,rfl⟩) | (go_at_call 252;refine (isDecimal_any _ c0 c1 _).mono ?_;rintro e w' ⟨rfl,rfl⟩))
    go_ret
    exact ⟨ret_str T.out,((Below.refl _ _).alloc (Nat.le_refl _) _).trans (hb1.mono (by simp))⟩
end Go.Proofs.YtajlleeonddinaaGreatDoor
namespace Go.Proofs.YtajlleeonddinaaGreatDoor
open Go.RowKit
theorem rsigned_any (c:Int) (h0:0≤c) (h1:c≤255) (w:World) :
  Calls Tryz.prog 71 #[.int .u8 c] w fun e w'=>e=.returned (.int .i64 (sgnI c))∧w=w':=by
 by_cases h:128≤c
 ·have D:=Lib.hid (show c - 256=sgnI c by unfold sgnI;rw [if_neg (by omega)])
  go_enter Tryz.func71,Tryz.ntmps71
  go_wp2
  go_ret
  exact ⟨ret_int D.out,rfl⟩
 ·have D:=Lib.hid (show c=sgnI c by unfold sgnI;rw [if_pos (by omega)])
  go_enter Tryz.func71,Tryz.ntmps71
  go_wp2
  go_ret
  exact ⟨ret_int D.out,rfl⟩
end Go.Proofs.YtajlleeonddinaaGreatDoor
namespace Go.Proofs.YtajlleeonddinaaGreatDoor
open Go.RowKit
def BytesB (w:World) (A:Option Addr) (xs:List UInt8):Prop:=
 xs=[]∨∃ b off,A=some ⟨b,off,none⟩∧∀ j (h:j<xs.length),w.cell? ⟨b,off+j,none⟩=some (.int .u8 (xs[j].toNat:Int))
theorem BytesB.at_ {w:World} {A:Option Addr} {xs:List UInt8} (h:BytesB w A xs) {k:Nat} (hk:k<xs.length):∃ b off,A=some ⟨b,off,none⟩∧w.cell? ⟨b,off+k,none⟩=some (.int .u8 (xs[k].toNat:Int)):=by
 rcases h with rfl | ⟨b,off,rfl,hc⟩
 ·simp at hk
 ·exact ⟨b,off,rfl,hc k hk⟩
theorem BytesB.below {w w':World} {A:Option Addr} {xs:List UInt8} (h:BytesB w A xs) (hb:Below w.heap.size w w'):BytesB w' A xs:=by
 rcases h with rfl | ⟨b,off,rfl,hc⟩
 ·exact .inl rfl
 ·exact .inr ⟨b,off,rfl,fun j hj=>(hb.cell (p:=⟨b,off+j,none⟩) (World.block_lt_of_cell? w _ (hc j hj))).trans (hc j hj)⟩
theorem BytesB.drewN {w:World} {A:Option Addr} {xs:List UInt8} (h:BytesB w A xs) (n:Nat):BytesB (w.drewN n) A xs:=by
 rcases h with rfl | ⟨b,off,rfl,hc⟩
 ·exact .inl rfl
 ·exact .inr ⟨b,off,rfl,fun j hj=>by simpa using hc j hj⟩
end Go.Proofs.YtajlleeonddinaaGreatDoor
namespace Go.Proofs.YtajlleeonddinaaGreatDoor
open Go.RowKit
theorem IntsAt.below {w w':World} {A:Option Addr} {xs:List Int} (h:IntsAt w A xs) (hb:Below w.heap.size w w'):IntsAt w' A xs:=by
 rcases h with rfl | ⟨b,off,rfl,hc⟩
 ·exact .inl rfl
 ·exact .inr ⟨b,off,rfl,fun j hj=>(hb.cell (p:=⟨b,off+j,none⟩) (World.block_lt_of_cell? w _ (hc j hj))).trans (hc j hj)⟩
def RetBytes (w:World) (xs:List UInt8) (e:Ending) (w':World):Prop:=∃ A cap,e=.returned (.slice A xs.length cap)∧BytesB w' A xs∧Below w.heap.size w w'
def NewA (w:World) (A:Option Addr):Prop:=∀ a,A=some a→w.heap.size≤a.block
def RetBytesN (w:World) (xs:List UInt8) (e:Ending) (w':World):Prop:=∃ A cap,e=.returned (.slice A xs.length cap)∧BytesB w' A xs∧xs.length≤cap∧NewA w A∧Below w.heap.size w w'
theorem RetBytesN.ret {w:World} {xs:List UInt8} {e:Ending} {w':World} (h:RetBytesN w xs e w'):RetBytes w xs e w':=by
 obtain ⟨A,cap,h1,h2,_,_,h3⟩:=h
 exact ⟨A,cap,h1,h2,h3⟩
def u8V (b:UInt8):Value:=.int .u8 (b.toNat:Int)
end Go.Proofs.YtajlleeonddinaaGreatDoor
namespace Go.Proofs.YtajlleeonddinaaGreatDoor
open Go.RowKit
def accT:Tr:=(1,7,0)
def hlT:Tr:=(3,2,0)
def deT:Tr:=(3,1,0)
def I1 (s:ByteArray):Prop:=s=⟨#[83,85,66]⟩∨s=⟨#[65,78,68]⟩∨s=⟨#[88,79,82]⟩∨s=⟨#[79,82]⟩∨s=⟨#[67,80]⟩
def I2 (s:ByteArray):Prop:=s=⟨#[65,68,68]⟩∨s=⟨#[65,68,67]⟩∨s=⟨#[83,66,67]⟩
def I3 (s:ByteArray):Prop:=s=⟨#[69,88]⟩
def I4 (s:ByteArray):Prop:=s=⟨#[66,73,84]⟩∨s=⟨#[82,69,83]⟩∨s=⟨#[83,69,84]⟩∨s=⟨#[73,77]⟩∨s=⟨#[82,83,84]⟩∨s=⟨#[79,85,84]⟩
def I5 (s:ByteArray):Prop:=s=⟨#[74,80]⟩∨s=⟨#[67,65,76,76]⟩
def I6 (s:ByteArray):Prop:=s=⟨#[76,68]⟩
instance (s:ByteArray):Decidable (I1 s):=by unfold I1;infer_instance
instance (s:ByteArray):Decidable (I2 s):=by unfold I2;infer_instance
instance (s:ByteArray):Decidable (I3 s):=by unfold I3;infer_instance
instance (s:ByteArray):Decidable (I4 s):=by unfold I4;infer_instance
instance (s:ByteArray):Decidable (I5 s):=by unfold I5;infer_instance
instance (s:ByteArray):Decidable (I6 s):=by unfold I6;infer_instance
def opc (s:ByteArray):Nat:=if I1 s then 1 else if I2 s then 2 else if I3 s then 3 else if I4 s then 4 else if I5 s then 5 else if I6 s then 6 else 0
theorem opc_1 {s:ByteArray} (h:I1 s):opc s=1:=by rcases h with rfl | rfl | rfl | rfl | rfl <;> decide +kernel
theorem opc_2 {s:ByteArray} (h:I2 s):opc s=2:=by rcases h with rfl | rfl | rfl <;> decide +kernel
theorem opc_3 {s:ByteArray} (h:I3 s):opc s=3:=by obtain rfl:s=_:=h;decide +kernel
theorem opc_4 {s:ByteArray} (h:I4 s):opc s=4:=by rcases h with rfl | rfl | rfl | rfl | rfl | rfl <;> decide +kernel
theorem opc_5 {s:ByteArray} (h:I5 s):opc s=5:=by rcases h with rfl | rfl <;> decide +kernel
theorem opc_6 {s:ByteArray} (h:I6 s):opc s=6:=by obtain rfl:s=_:=h;decide +kernel
theorem opc_n1 {s:ByteArray} (h:¬I1 s):opc s≠1:=by
 unfold opc;rw [if_neg h];split <;> try decide
 split <;> try decide
 split <;> try decide
 split <;> try decide
 split <;> decide
theorem opc_n2 {s:ByteArray} (h:¬I2 s):opc s≠2:=by
 unfold opc;rw [if_neg h];split <;> try decide
 split <;> try decide
 split <;> try decide
 split <;> try decide
 split <;> decide
theorem opc_n3 {s:ByteArray} (h:¬I3 s):opc s≠3:=by
 unfold opc;rw [if_neg h];split <;> try decide
 split <;> try decide
 split <;> try decide
 split <;> try decide
 split <;> decide
theorem opc_n4 {s:ByteArray} (h:¬I4 s):opc s≠4:=by
 unfold opc;rw [if_neg h];split <;> try decide
 split <;> try decide
 split <;> try decide
 split <;> try decide
 split <;> decide
theorem opc_n5 {s:ByteArray} (h:¬I5 s):opc s≠5:=by
 unfold opc;rw [if_neg h];split <;> try decide
 split <;> try decide
 split <;> try decide
 split <;> try decide
 split <;> decide
theorem opc_n6 {s:ByteArray} (h:¬I6 s):opc s≠6:=by
 unfold opc;rw [if_neg h];split <;> try decide
 split <;> try decide
 split <;> try decide
 split <;> try decide
 split <;> decide
def accL (c:Nat) (L:List Tr):List Tr:=if c=1∧L.length=2∧L.head?=some accT then L.tail else if c=2∧L.length=1 then accT :: L else L
def exL (c:Nat) (L:List Tr):List Tr:=if c=3∧L=[hlT,deT] then [deT,hlT] else L
def widL (c:Nat) (L:List Tr):Int:=if c=4 then 0 else if c=5 then 2 else if c=6∧L.head?.map (fun t=>t.1)=some 3 then 2 else 1
def valW (w:Int):Int:=if w=1 then 256 else if w=2 then 65536 else 0
def wrapT (v:Int) (t:Tr):Tr:=if t.1=6∧-(v / 2)≤t.2.2∧t.2.2<0 then (t.1,t.2.1,t.2.2+v) else t
def canL (c:Nat) (L:List Tr):List Tr:=(exL c (accL c L)).map (wrapT (valW (widL c L)))
theorem valW_cases (w:Int):valW w=256∨valW w=65536∨valW w=0:=by
 unfold valW
 split
 ·exact .inl rfl
 ·split
  ·exact .inr (.inl rfl)
  ·exact .inr (.inr rfl)
theorem accL_len (c:Nat) (L:List Tr):(accL c L).length≤L.length+1:=by
 unfold accL
 split
 ·rw [List.length_tail];omega
 ·split
  ·exact Nat.le_refl _
  ·omega
theorem exL_len (c:Nat) (L:List Tr):(exL c L).length=L.length:=by
 unfold exL
 split
 ·rename_i h;rw [h.2];rfl
 ·rfl
theorem canL_len (c:Nat) (L:List Tr):(canL c L).length≤L.length+1:=by
 unfold canL
 rw [List.length_map,exL_len]
 exact accL_len c L
theorem two_of (L:List Tr) (h:L.length=2):∃ a b,L=[a,b]:=by
 cases L with
 | nil=>simp at h
 | cons a r=>
  cases r with
  | nil=>simp at h
  | cons b r=>
   cases r with
   | nil=>exact ⟨a,b,rfl⟩
   | cons c r=>simp at h
end Go.Proofs.YtajlleeonddinaaGreatDoor
namespace Go.Proofs.YtajlleeonddinaaGreatDoor
open Go.RowKit
abbrev Vr:=List Int×Int×Int
def vr0:Vr:=([],0,0)
def stepV (p:Vr×Vr) (c:UInt8):Vr×Vr:=
 if c=100 then (([5],-128,127),p.2) else if c=101 then (p.1,([10],-128,127)) else if c=110 then (p.1,([6,7],0,255)) else if c=119 then (p.1,([6,7],0,65535)) else p
def varsV (ex:Str):Vr×Vr:=ex.foldl stepV (vr0,vr0)
def atV (ks:List Int):List Tr→Option Nat
 | []=>none
 | t :: r=>match atV ks r with
  | some k=>some (k+1)
  | none=>if t.1∈ks then some 0 else none
def tr0:Tr:=(0,0,0)
def numV (ks:List Int) (L:List Tr):Int:=match atV ks L with
 | some k=>(L.getD k tr0).2.2
 | none=>0
def setN (L:List Tr) (k:Nat) (n:Int):List Tr:=L.set k ((L.getD k tr0).1,(L.getD k tr0).2.1,n)
def putL (ks:List Int) (L:List Tr) (n:Int):List Tr:=match atV ks L with
 | some k=>setN L k n
 | none=>L
def inV (v:Vr) (n:Int):Bool:=decide (v.2.1≤n)&&decide (n≤v.2.2)
def putB (v:Vr) (L:List Tr) (n:Int):Bool:=match atV v.1 L with
 | some _=>inV v n
 | none=>decide (n=0)
def fillV (ex:Str) (L:List Tr) (d n:Int):Option (List Tr):=
 if putB (varsV ex).1 L d=true∧putB (varsV ex).2 (putL (varsV ex).1.1 L d) n=true then some (putL (varsV ex).2.1 (putL (varsV ex).1.1 L d) n) else none
def hasV (m:Str) (L:List Tr) (ex:Str) (s:ByteArray) (C:List Tr):Bool:=
 match fillV ex L (numV (varsV ex).1.1 C) (numV (varsV ex).2.1 C) with
 | some L2=>decide (sB m=s)&&decide (L2=C)
 | none=>false
def ks2 (t:Tr):Int×Int:=(t.1,t.2.1)
def varKB (t:Tr):Bool:=t.1 == 6||t.1 == 7
def letR (ex:Str) (L:List Tr) (k:Nat):UInt8:=
 if (L.getD k tr0).1=5∧ex.contains 100=true then 100 else
 if (L.getD k tr0).1=10∧ex.contains 101=true then 101 else
 if varKB (L.getD k tr0)=false then 0 else
 if (L.drop (k+1)).any varKB=true then 0 else
 if ex.contains 110=true then 110 else if ex.contains 119=true then 119 else 0
def withR (c:UInt8) (n:Int):Bool:=
 if c=100∨c=101 then decide (-128≤n)&&decide (n≤127) else if c=110 then decide (0≤n)&&decide (n≤255) else decide (0≤n)&&decide (n≤65535)
def fitT (ex:Str) (L:List Tr) (k:Nat) (t:Tr):Bool:=
 if letR ex L k=0 then decide ((L.getD k tr0).2.2=t.2.2) else withR (letR ex L k) t.2.2
def shpR (m:Str) (L:List Tr) (s:ByteArray) (C:List Tr):Bool:=decide (sB m=s)&&decide (L.map ks2=C.map ks2)
def fitsR (m:Str) (L:List Tr) (ex:Str) (s:ByteArray) (C:List Tr):Bool:=shpR m L s C&&(List.range C.length).all fun k=>fitT ex L k (C.getD k tr0)
def rangeR (c:UInt8):Int×Int:=if c=100∨c=101 then (-128,127) else if c=110 then (0,255) else (0,65535)
def placeB (ex:Str) (L:List Tr) (k:Nat):Bool:=
 if atV (varsV ex).1.1 L=some k then letR ex L k == 100&&decide ((varsV ex).1.2=rangeR 100)&&decide (atV (varsV ex).2.1 L≠some k) else
 if atV (varsV ex).2.1 L=some k then letR ex L k != 100&&letR ex L k != 0&&decide ((varsV ex).2.2=rangeR (letR ex L k)) else letR ex L k == 0
def placesB (ex:Str) (L:List Tr):Bool:=(List.range L.length).all fun k=>placeB ex L k
theorem withR_range (c:UInt8) (n:Int):withR c n=(decide ((rangeR c).1≤n)&&decide (n≤(rangeR c).2)):=by
 unfold withR rangeR
 split
 ·rfl
 ·split <;> rfl
theorem atV_lt {ks:List Int}:∀ {L:List Tr} {k:Nat},atV ks L=some k→k<L.length
 | [],k,h=>by cases h
 | t :: r,k,h=>by
  unfold atV at h
  cases hr:atV ks r with
  | some j=>
   rw [hr] at h
   obtain rfl:=Option.some.inj h
   have:=atV_lt hr
   simp;omega
  | none=>
   rw [hr] at h
   simp only at h
   split at h
   ·obtain rfl:=Option.some.inj h
    simp
   ·cases h
theorem atV_congr (ks:List Int):∀ {L C:List Tr},L.map ks2=C.map ks2→atV ks L=atV ks C
 | [],[],_=>rfl
 | [],c :: C,h=>by simp at h
 | t :: L,[],h=>by simp at h
 | t :: L,c :: C,h=>by
  simp only [List.map_cons,List.cons.injEq] at h
  unfold atV
  rw [atV_congr ks h.2]
  have h1:t.1=c.1:=congrArg (fun z:Int×Int=>z.1) h.1
  rw [h1]
theorem setN_shape (L:List Tr) (k:Nat) (n:Int):(setN L k n).map ks2=L.map ks2:=by
 unfold setN
 refine List.ext_getElem (by simp) fun i h1 h2=>?_
 rw [List.getElem_map,List.getElem_map,List.getElem_set]
 have hi:i<L.length:=by simpa using h2
 split
 ·rename_i e
  subst e
  rw [List.getD_eq_getElem?_getD,List.getElem?_eq_getElem hi]
  rfl
 ·rfl
theorem putL_shape (ks:List Int) (L:List Tr) (n:Int):(putL ks L n).map ks2=L.map ks2:=by
 unfold putL
 split
 ·exact setN_shape L _ n
 ·rfl
theorem setN_get (L:List Tr) (k:Nat) (n:Int) (i:Nat) (hi:i<L.length):(setN L k n).getD i tr0=if i=k then ((L.getD i tr0).1,(L.getD i tr0).2.1,n) else L.getD i tr0:=by
 unfold setN
 rw [List.getD_eq_getElem?_getD,List.getElem?_set]
 by_cases e:k=i
 ·subst e
  rw [if_pos rfl,if_pos hi,if_pos rfl]
  rfl
 ·rw [if_neg e,if_neg (fun h=>e h.symm),List.getD_eq_getElem?_getD]
theorem putL_get (ks:List Int) (L:List Tr) (n:Int) (i:Nat) (hi:i<L.length):(putL ks L n).getD i tr0=if atV ks L=some i then ((L.getD i tr0).1,(L.getD i tr0).2.1,n) else L.getD i tr0:=by
 unfold putL
 cases h:atV ks L with
 | none=>simp
 | some k=>
  simp only [Option.some.injEq]
  rw [setN_get L k n i hi]
  by_cases e:i=k
  ·rw [if_pos e,if_pos e.symm]
  ·rw [if_neg e,if_neg (fun h=>e h.symm)]
theorem len_of_shape {L C:List Tr} (h:L.map ks2=C.map ks2):L.length=C.length:=by simpa using congrArg List.length h
theorem get_of_shape {L C:List Tr} (h:L.map ks2=C.map ks2) (i:Nat) (hi:i<L.length):(L.getD i tr0).1=(C.getD i tr0).1∧(L.getD i tr0).2.1=(C.getD i tr0).2.1:=by
 have hc:i<C.length:=by rw [← len_of_shape h];exact hi
 have h1:=congrArg (fun z=>z[i]?) h
 simp only [List.getElem?_map,List.getElem?_eq_getElem hi,List.getElem?_eq_getElem hc,Option.map_some,Option.some.injEq] at h1
 rw [List.getD_eq_getElem?_getD,List.getD_eq_getElem?_getD,List.getElem?_eq_getElem hi,List.getElem?_eq_getElem hc]
 exact ⟨congrArg (fun z:Int×Int=>z.1) h1,congrArg (fun z:Int×Int=>z.2) h1⟩
theorem ext_getD {L C:List Tr} (hl:L.length=C.length) (h:∀ i,i<L.length→L.getD i tr0=C.getD i tr0):L=C:=by
 refine List.ext_getElem hl fun i h1 h2=>?_
 have:=h i h1
 rw [List.getD_eq_getElem?_getD,List.getD_eq_getElem?_getD,List.getElem?_eq_getElem h1,List.getElem?_eq_getElem h2] at this
 exact this
theorem fill_shape {ex:Str} {L L2:List Tr} {d n:Int} (h:fillV ex L d n=some L2):L2.map ks2=L.map ks2∧putB (varsV ex).1 L d=true∧putB (varsV ex).2 L n=true∧L2=putL (varsV ex).2.1 (putL (varsV ex).1.1 L d) n:=by
 unfold fillV at h
 split at h
 ·rename_i hc
  obtain rfl:=Option.some.inj h
  refine ⟨(putL_shape _ _ _).trans (putL_shape _ _ _),hc.1,?_,rfl⟩
  have h2:=hc.2
  unfold putB at h2 ⊢
  rw [← atV_congr (varsV ex).2.1 (putL_shape (varsV ex).1.1 L d)]
  exact h2
 ·cases h
theorem places_at {ex:Str} {L:List Tr} (h:placesB ex L=true) (k:Nat) (hk:k<L.length):placeB ex L k=true:=List.all_eq_true.1 h k (List.mem_range.2 hk)
theorem fill_get {ex:Str} {L L2:List Tr} {d n:Int} (h:fillV ex L d n=some L2) (i:Nat) (hi:i<L.length) :
  L2.getD i tr0=if atV (varsV ex).2.1 L=some i then ((L.getD i tr0).1,(L.getD i tr0).2.1,n) else if atV (varsV ex).1.1 L=some i then ((L.getD i tr0).1,(L.getD i tr0).2.1,d) else L.getD i tr0:=by
 obtain ⟨-,-,-,rfl⟩:=fill_shape h
 have h1:=len_of_shape (putL_shape (varsV ex).1.1 L d)
 rw [putL_get _ _ _ _ (by omega),atV_congr (varsV ex).2.1 (putL_shape (varsV ex).1.1 L d),putL_get _ _ _ _ hi]
 split
 ·split <;> rfl
 ·rfl
theorem has_fits {m ex:Str} {L:List Tr} (hp:placesB ex L=true) (s:ByteArray) (C:List Tr):hasV m L ex s C=fitsR m L ex s C:=by
 by_cases hs:sB m=s
 rotate_left
 ·unfold hasV fitsR shpR
  rw [decide_eq_false hs]
  split <;> simp
 by_cases hsh:L.map ks2=C.map ks2
 rotate_left
 ·have e2:fitsR m L ex s C=false:=by unfold fitsR shpR;rw [decide_eq_false hsh];simp
  rw [e2]
  unfold hasV
  cases hf:fillV ex L (numV (varsV ex).1.1 C) (numV (varsV ex).2.1 C) with
  | none=>rfl
  | some L2=>
   have h1:=(fill_shape hf).1
   have:L2≠C:=fun e=>hsh (by rw [← h1,e])
   simp [this]
 have hl:=len_of_shape hsh
 have a1:=atV_congr (varsV ex).1.1 hsh
 have a2:=atV_congr (varsV ex).2.1 hsh
 rw [Bool.eq_iff_iff]
 constructor
 ·intro h
  unfold hasV at h
  cases hf:fillV ex L (numV (varsV ex).1.1 C) (numV (varsV ex).2.1 C) with
  | none=>rw [hf] at h;cases h
  | some L2=>
   rw [hf] at h
   simp only [Bool.and_eq_true,decide_eq_true_eq] at h
   obtain rfl:=h.2
   unfold fitsR shpR
   rw [decide_eq_true hs,decide_eq_true hsh]
   simp only [Bool.and_self,Bool.true_and,List.all_eq_true,List.mem_range]
   intro k hk
   have hk':k<L.length:=by omega
   have hg:=fill_get hf k hk'
   have hpl:=places_at hp k hk'
   obtain ⟨-,b1,b2,-⟩:=fill_shape hf
   unfold fitT
   unfold placeB at hpl
   by_cases e1:atV (varsV ex).1.1 L=some k
   ·rw [if_pos e1] at hpl
    simp only [Bool.and_eq_true,beq_iff_eq,decide_eq_true_eq] at hpl
    rw [hpl.1.1,if_neg (by decide),withR_range,← hpl.1.2]
    rw [if_neg hpl.2,if_pos e1] at hg
    unfold putB at b1
    rw [e1] at b1
    rw [hg]
    exact b1
   ·rw [if_neg e1] at hpl
    by_cases e2:atV (varsV ex).2.1 L=some k
    ·rw [if_pos e2] at hpl
     simp only [Bool.and_eq_true,bne_iff_ne,decide_eq_true_eq] at hpl
     rw [if_neg hpl.1.2,withR_range,← hpl.2]
     rw [if_pos e2] at hg
     unfold putB at b2
     rw [e2] at b2
     rw [hg]
     exact b2
    ·rw [if_neg e2] at hpl
     rw [if_pos (by simpa using hpl)]
     rw [if_neg e2,if_neg e1] at hg
     rw [hg]
     exact decide_eq_true rfl
 ·intro h
  unfold fitsR shpR at h
  simp only [Bool.and_eq_true,List.all_eq_true,List.mem_range] at h
  have hfit:∀ k,k<L.length→fitT ex L k (C.getD k tr0)=true:=fun k hk=>h.2 k (by omega)
  have n1:∀ k,atV (varsV ex).1.1 L=some k→numV (varsV ex).1.1 C=(C.getD k tr0).2.2:=fun k hk=>by unfold numV;rw [← a1,hk]
  have n2:∀ k,atV (varsV ex).2.1 L=some k→numV (varsV ex).2.1 C=(C.getD k tr0).2.2:=fun k hk=>by unfold numV;rw [← a2,hk]
  have b1:putB (varsV ex).1 L (numV (varsV ex).1.1 C)=true:=by
   unfold putB
   cases e1:atV (varsV ex).1.1 L with
   | none=>simp only;unfold numV;rw [← a1,e1];exact decide_eq_true rfl
   | some k=>
    have hk:=atV_lt e1
    have hpl:=places_at hp k hk
    have hf:=hfit k hk
    unfold placeB at hpl
    rw [if_pos e1] at hpl
    simp only [Bool.and_eq_true,beq_iff_eq,decide_eq_true_eq] at hpl
    unfold fitT at hf
    rw [hpl.1.1,if_neg (by decide),withR_range,← hpl.1.2,← n1 k e1] at hf
    exact hf
  have b2:putB (varsV ex).2 (putL (varsV ex).1.1 L (numV (varsV ex).1.1 C)) (numV (varsV ex).2.1 C)=true:=by
   unfold putB
   rw [atV_congr (varsV ex).2.1 (putL_shape (varsV ex).1.1 L _)]
   cases e2:atV (varsV ex).2.1 L with
   | none=>simp only;unfold numV;rw [← a2,e2];exact decide_eq_true rfl
   | some k=>
    have hk:=atV_lt e2
    have hpl:=places_at hp k hk
    have hf:=hfit k hk
    unfold placeB at hpl
    have e1:¬atV (varsV ex).1.1 L=some k:=fun e1=>by
     rw [if_pos e1] at hpl
     simp only [Bool.and_eq_true,decide_eq_true_eq] at hpl
     exact hpl.2 e2
    rw [if_neg e1,if_pos e2] at hpl
    simp only [Bool.and_eq_true,bne_iff_ne,decide_eq_true_eq] at hpl
    unfold fitT at hf
    rw [if_neg hpl.1.2,withR_range,← hpl.2,← n2 k e2] at hf
    exact hf
  have hf:fillV ex L (numV (varsV ex).1.1 C) (numV (varsV ex).2.1 C)=some (putL (varsV ex).2.1 (putL (varsV ex).1.1 L (numV (varsV ex).1.1 C)) (numV (varsV ex).2.1 C)):=by
   unfold fillV
   rw [if_pos ⟨b1,b2⟩]
  unfold hasV
  rw [hf]
  simp only [Bool.and_eq_true,decide_eq_true_eq]
  refine ⟨hs,?_⟩
  have hsh2:=(fill_shape hf).1
  have hl2:=len_of_shape hsh2
  refine ext_getD (by omega) fun i hi=>?_
  have hi':i<L.length:=by omega
  have hg:=fill_get hf i hi'
  have hgs:=get_of_shape hsh i hi'
  rw [hg]
  have hpl:=places_at hp i hi'
  have hfi:=hfit i hi'
  unfold placeB at hpl
  have e3:∀ n:Int,(C.getD i tr0).2.2=n→((L.getD i tr0).1,(L.getD i tr0).2.1,n)=C.getD i tr0:=fun n hn=>by rw [hgs.1,hgs.2,← hn]
  by_cases e2:atV (varsV ex).2.1 L=some i
  ·rw [if_pos e2]
   exact e3 _ (n2 i e2).symm
  ·rw [if_neg e2]
   by_cases e1:atV (varsV ex).1.1 L=some i
   ·rw [if_pos e1]
    exact e3 _ (n1 i e1).symm
   ·rw [if_neg e1]
    rw [if_neg e1,if_neg e2] at hpl
    unfold fitT at hfi
    rw [if_pos (by simpa using hpl)] at hfi
    have:=of_decide_eq_true hfi
    exact e3 _ this.symm
end Go.Proofs.YtajlleeonddinaaGreatDoor
namespace Go.Proofs.YtajlleeonddinaaGreatDoor
open Go.RowKit
end Go.Proofs.YtajlleeonddinaaGreatDoor
namespace Go.Proofs.YtajlleeonddinaaGreatDoor
open Go.RowKit
end Go.Proofs.YtajlleeonddinaaGreatDoor
namespace Go.Proofs.YtajlleeonddinaaGreatDoor
end Go.Proofs.YtajlleeonddinaaGreatDoor
namespace Go.Proofs.YtajlleeonddinaaGreatDoor
open Go.RowKit
def nmL:Nat→List ByteArray
 | 1=>[⟨#[66]⟩,⟨#[67]⟩,⟨#[68]⟩,⟨#[69]⟩,⟨#[72]⟩,⟨#[76]⟩,⟨#[]⟩,⟨#[65]⟩]
 | 2=>[⟨#[73,88,72]⟩,⟨#[73,88,76]⟩,⟨#[73,89,72]⟩,⟨#[73,89,76]⟩]
 | 3=>[⟨#[66,67]⟩,⟨#[68,69]⟩,⟨#[72,76]⟩,⟨#[83,80]⟩,⟨#[65,70]⟩,⟨#[73,88]⟩,⟨#[73,89]⟩,⟨#[65,70,39]⟩]
 | 4=>[⟨#[66,67]⟩,⟨#[68,69]⟩,⟨#[72,76]⟩,⟨#[83,80]⟩,⟨#[]⟩,⟨#[73,88]⟩,⟨#[73,89]⟩,⟨#[]⟩,⟨#[67]⟩]
 | 5=>[⟨#[]⟩,⟨#[]⟩,⟨#[]⟩,⟨#[]⟩,⟨#[]⟩,⟨#[73,88]⟩,⟨#[73,89]⟩]
 | 8=>[⟨#[78,90]⟩,⟨#[90]⟩,⟨#[78,67]⟩,⟨#[67]⟩,⟨#[80,79]⟩,⟨#[80,69]⟩,⟨#[80]⟩,⟨#[77]⟩]
 | 9=>[⟨#[73]⟩,⟨#[82]⟩]
 | _=>[]
def atS (L:List ByteArray) (r:Int):ByteArray:=if 0≤r then L.getD r.toNat ⟨#[]⟩ else ⟨#[]⟩
def neB (s:ByteArray):Bool:=!s.toList.isEmpty
theorem atS_in (L:List ByteArray) (k:Nat) (h:k<L.length):atS L (k:Int)=L[k]:=by
 unfold atS
 rw [if_pos (by omega),List.getD_eq_getElem?_getD,Int.toNat_natCast,List.getElem?_eq_getElem h]
 rfl
theorem atS_out (L:List ByteArray) (r:Int) (h:r<0∨(L.length:Int)≤r):atS L r=⟨#[]⟩:=by
 unfold atS
 split
 ·rw [List.getD_eq_getElem?_getD,List.getElem?_eq_none (by omega)];rfl
 ·rfl
def nmS (k:Nat) (r:Int):ByteArray:=atS (nmL k) r
theorem atS_mem (L:List ByteArray) (r:Int):atS L r=⟨#[]⟩∨atS L r∈L:=by
 by_cases h:0≤r∧r<(L.length:Int)
 ·right
  obtain ⟨k,rfl⟩:∃ k:Nat,r=k:=⟨r.toNat,by omega⟩
  rw [atS_in L k (by omega)]
  exact List.getElem_mem _
 ·left;exact atS_out L r (by omega)
end Go.Proofs.YtajlleeonddinaaGreatDoor
namespace Go.Proofs.YtajlleeonddinaaGreatDoor
open Go.RowKit
theorem strs_new (w:World) (L:List ByteArray) (t:TypeId):∀ j (h:j<L.length),(w.alloc (.cells (L.map Value.string).toArray t)).cell? ⟨w.heap.size,j,none⟩=some (.string L[j]):=by
 intro j h
 simp [go_sem,h]
def StrsA (w:World) (A:Option Addr) (L:List ByteArray):Prop:=L=[]∨∃ b off,A=some ⟨b,off,none⟩∧∀ j (h:j<L.length),w.cell? ⟨b,off+j,none⟩=some (.string L[j])
theorem StrsA.at_ {w:World} {A:Option Addr} {L:List ByteArray} (h:StrsA w A L) {k:Nat} (hk:k<L.length):∃ b off,A=some ⟨b,off,none⟩∧w.cell? ⟨b,off+k,none⟩=some (.string L[k]):=by
 rcases h with rfl | ⟨b,off,rfl,hc⟩
 ·simp at hk
 ·exact ⟨b,off,rfl,hc k hk⟩
theorem StrsA.below {w w':World} {A:Option Addr} {L:List ByteArray} (h:StrsA w A L) (hb:Below w.heap.size w w'):StrsA w' A L:=by
 rcases h with rfl | ⟨b,off,rfl,hc⟩
 ·exact .inl rfl
 ·exact .inr ⟨b,off,rfl,fun j hj=>(hb.cell (World.block_lt_of_cell? w _ (hc j hj))).trans (hc j hj)⟩
end Go.Proofs.YtajlleeonddinaaGreatDoor
namespace Go.Proofs.YtajlleeonddinaaGreatDoor
open Go.RowKit
theorem fits1_yes (lo hi n:Int) (h0:lo≤n) (h1:n≤hi):fitsB lo hi [n]=true:=by simp [fitsB];omega
theorem fits1_no (lo hi n:Int) (h:n<lo∨hi<n):fitsB lo hi [n]=false:=by simp [fitsB];omega
theorem fit1_any (lo hi x:Int) (b:Nat) (q:Bool) (hq:fitsB lo hi [x]=q) (w:World) (hc:w.cell? ⟨b,0,none⟩=some (.int .i64 x)) :
  Calls Tryz.prog 78 #[.int .i64 lo,.int .i64 hi,.slice (some ⟨b,0,none⟩) 1 1] w fun e w'=>e=.returned (.bool q)∧w=w':=by
 subst hq
 refine fits_any lo hi _ 1 [x] (by simp [maxLen]) w (.inr ⟨b,0,rfl,fun j h=>?_⟩)
 obtain rfl:j=0:=by simp at h;omega
 exact hc
theorem neB_nil:neB ⟨#[]⟩=false:=by decide +kernel
theorem at_any (r:Int) (b cap n:Nat) (L:List ByteArray) (hn:n=L.length) (hl:L.length≤100) (w:World) (hc:∀ j (h:j<L.length),w.cell? ⟨b,j,none⟩=some (.string L[j])) :
  Calls Tryz.prog 237 #[.int .i64 r,.slice (some ⟨b,0,none⟩) n cap] w fun e w'=>e=.returned (.tuple #[.string (atS L r),.bool (neB (atS L r))])∧Below w.heap.size w w':=by
 by_cases h:0≤r∧r<(L.length:Int)
 ·obtain ⟨k,rfl⟩:∃ k:Nat,r=k:=⟨r.toNat,by omega⟩
  have hk:k<L.length:=by omega
  have hck:=hc k hk
  have e1:=atS_in L k hk
  have HF:=fits1_yes 0 ((n:Int) - 1) (k:Int) (by omega) (by omega)
  obtain ⟨s,hs⟩:∃ s,L[k]=s:=⟨_,rfl⟩
  rw [hs] at hck e1
  rw [e1]
  have hkn:k<n:=by omega
  have hnb:n≤100:=by omega
  have hb:=World.block_lt_of_cell? w _ hck
  have hck2:∀ o,(w.alloc o).cell? ⟨b,k,none⟩=some (.string s):=fun o=>(World.cell?_alloc_lt w o _ hb).trans hck
  clear hc h hk e1 hs hn hl hck hb
  go_enter Tryz.func237,Tryz.ntmps237
  go_wp2_with fail
  refine (fits_any 0 ((n:Int) - 1) _ _ [(k:Int)] (by simp [maxLen]) _ (ints_one _ _ _)).mono ?_
  rintro e w' ⟨rfl,rfl⟩
  rw [HF]
  clear HF
  go_wp2
  go_quiet (fail)
  go_wp2
  go_ret2
  exact ⟨rfl,((Below.refl _ _).alloc (Nat.le_refl _) _).trans (below_drewN _ _ _)⟩
 ·have e1:=atS_out L r (by omega)
  have HF:=fits1_no 0 ((n:Int) - 1) r (by omega)
  rw [e1,neB_nil]
  have hnb:n≤100:=by omega
  clear hc h e1 hn hl
  go_enter Tryz.func237,Tryz.ntmps237
  go_wp2_with fail
  refine (fits_any 0 ((n:Int) - 1) _ _ [r] (by simp [maxLen]) _ (ints_one _ _ _)).mono ?_
  rintro e w' ⟨rfl,rfl⟩
  rw [HF]
  clear HF
  go_wp2
  go_ret2
  exact ⟨rfl,((Below.refl _ _).alloc (Nat.le_refl _) _)⟩
theorem name8_any (r:Int) (w:World) :
  Calls Tryz.prog 212 #[.int .i64 r] w fun e w'=>e=.returned (.tuple #[.string (nmS 1 r),.bool (neB (nmS 1 r))])∧Below w.heap.size w w':=by
 go_enter Tryz.func212,Tryz.ntmps212
 go_wp2_with fail
 refine (at_any r _ _ _ (nmL 1) rfl (by decide) _ (strs_new w (nmL 1) 9)).mono ?_
 rintro e w' ⟨rfl,hb⟩
 have N:=Lib.hid (((Below.refl _ _).alloc (Nat.le_refl _) _).trans (hb.mono (by simp)))
 clear hb
 go_wp2
 go_ret2
 exact ⟨rfl,N.out⟩
theorem nameHalf_any (r:Int) (w:World) :
  Calls Tryz.prog 214 #[.int .i64 r] w fun e w'=>e=.returned (.tuple #[.string (nmS 2 r),.bool (neB (nmS 2 r))])∧Below w.heap.size w w':=by
 go_enter Tryz.func214,Tryz.ntmps214
 go_wp2_with fail
 refine (at_any r _ _ _ (nmL 2) rfl (by decide) _ (strs_new w (nmL 2) 9)).mono ?_
 rintro e w' ⟨rfl,hb⟩
 have N:=Lib.hid (((Below.refl _ _).alloc (Nat.le_refl _) _).trans (hb.mono (by simp)))
 clear hb
 go_wp2
 go_ret2
 exact ⟨rfl,N.out⟩
theorem name16_any (r:Int) (w:World) :
  Calls Tryz.prog 215 #[.int .i64 r] w fun e w'=>e=.returned (.tuple #[.string (nmS 3 r),.bool (neB (nmS 3 r))])∧Below w.heap.size w w':=by
 go_enter Tryz.func215,Tryz.ntmps215
 go_wp2_with fail
 refine (at_any r _ _ _ (nmL 3) rfl (by decide) _ (strs_new w (nmL 3) 9)).mono ?_
 rintro e w' ⟨rfl,hb⟩
 have N:=Lib.hid (((Below.refl _ _).alloc (Nat.le_refl _) _).trans (hb.mono (by simp)))
 clear hb
 go_wp2
 go_ret2
 exact ⟨rfl,N.out⟩
theorem namePointer_any (r:Int) (w:World) :
  Calls Tryz.prog 216 #[.int .i64 r] w fun e w'=>e=.returned (.tuple #[.string (nmS 4 r),.bool (neB (nmS 4 r))])∧Below w.heap.size w w':=by
 go_enter Tryz.func216,Tryz.ntmps216
 go_wp2_with fail
 refine (at_any r _ _ _ (nmL 4) rfl (by decide) _ (strs_new w (nmL 4) 9)).mono ?_
 rintro e w' ⟨rfl,hb⟩
 have N:=Lib.hid (((Below.refl _ _).alloc (Nat.le_refl _) _).trans (hb.mono (by simp)))
 clear hb
 go_wp2
 go_ret2
 exact ⟨rfl,N.out⟩
theorem nameIndex_any (r:Int) (w:World) :
  Calls Tryz.prog 218 #[.int .i64 r] w fun e w'=>e=.returned (.tuple #[.string (nmS 5 r),.bool (neB (nmS 5 r))])∧Below w.heap.size w w':=by
 go_enter Tryz.func218,Tryz.ntmps218
 go_wp2_with fail
 refine (at_any r _ _ _ (nmL 5) rfl (by decide) _ (strs_new w (nmL 5) 9)).mono ?_
 rintro e w' ⟨rfl,hb⟩
 have N:=Lib.hid (((Below.refl _ _).alloc (Nat.le_refl _) _).trans (hb.mono (by simp)))
 clear hb
 go_wp2
 go_ret2
 exact ⟨rfl,N.out⟩
theorem nameCondition_any (r:Int) (w:World) :
  Calls Tryz.prog 223 #[.int .i64 r] w fun e w'=>e=.returned (.tuple #[.string (nmS 8 r),.bool (neB (nmS 8 r))])∧Below w.heap.size w w':=by
 go_enter Tryz.func223,Tryz.ntmps223
 go_wp2_with fail
 refine (at_any r _ _ _ (nmL 8) rfl (by decide) _ (strs_new w (nmL 8) 9)).mono ?_
 rintro e w' ⟨rfl,hb⟩
 have N:=Lib.hid (((Below.refl _ _).alloc (Nat.le_refl _) _).trans (hb.mono (by simp)))
 clear hb
 go_wp2
 go_ret2
 exact ⟨rfl,N.out⟩
theorem nameControl_any (r:Int) (w:World) :
  Calls Tryz.prog 224 #[.int .i64 r] w fun e w'=>e=.returned (.tuple #[.string (nmS 9 r),.bool (neB (nmS 9 r))])∧Below w.heap.size w w':=by
 go_enter Tryz.func224,Tryz.ntmps224
 go_wp2_with fail
 refine (at_any r _ _ _ (nmL 9) rfl (by decide) _ (strs_new w (nmL 9) 9)).mono ?_
 rintro e w' ⟨rfl,hb⟩
 have N:=Lib.hid (((Below.refl _ _).alloc (Nat.le_refl _) _).trans (hb.mono (by simp)))
 clear hb
 go_wp2
 go_ret2
 exact ⟨rfl,N.out⟩
theorem noName_any (r:Int) (w:World) :
  Calls Tryz.prog 220 #[.int .i64 r] w fun e w'=>e=.returned (.tuple #[.string ⟨#[]⟩,.bool (r == 0)])∧w=w':=by
 go_enter Tryz.func220,Tryz.ntmps220
 go_wp2
 go_ret2
 exact ⟨rfl,rfl⟩
end Go.Proofs.YtajlleeonddinaaGreatDoor
