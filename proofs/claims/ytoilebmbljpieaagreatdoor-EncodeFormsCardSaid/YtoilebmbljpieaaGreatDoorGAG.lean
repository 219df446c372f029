/-
  TbS, EnO, EnB, WrA, WrB.
-/
import Derived.Test.YtoilebmbljpieaaGreatDoorGAF
import Derived.Laws.BytesArg
import Derived.Test.YtoilebmbljpieaaGreatDoorGAA
import Derived.Test.YtoilebmbljpieaaGreatDoorGAC
import Derived.Test.YtoilebmbljpieaaGreatDoorGAE
import Derived.Lib.OthersKept
set_option linter.all false
set_option maxRecDepth 100000
set_option maxHeartbeats 4000000
namespace Go.Proofs.YtoilebmbljpieaaGreatDoor
open Go.RowKit Go.Shelf
def BytesAt (w:World) (A:Option Addr) (xs:Str):Prop:=xs=[]∨∃ b off,A=some ⟨b,off,none⟩∧∀ j (h:j<xs.length),w.cell? ⟨b,off+j,none⟩=some (.int .u8 (xs[j].toNat:Int))
theorem BytesAt.below {w w':World} {A:Option Addr} {xs:Str} (h:BytesAt w A xs) (hb:Below w.heap.size w w'):BytesAt w' A xs:=by
 rcases h with rfl | ⟨b,off,rfl,hc⟩
 ·exact .inl rfl
 ·exact .inr ⟨b,off,rfl,fun j hj=>(hb.cell (World.block_lt_of_cell? w _ (hc j hj))).trans (hc j hj)⟩
theorem conv_sB {w:World} {A:Option Addr} {xs:Str} (h:BytesAt w A xs) (cap:Nat) :
  (convert 28 9 (.slice A xs.length cap)).run Tryz.prog w=.ok (.string (sB xs)) w:=by
 cases A with
 | none=>
  obtain rfl:xs=[]:=by
   rcases h with h | ⟨b,off,h,_⟩
   ·exact h
   ·cases h
  rw [run_convert_bytes_nil (P:=Tryz.prog) w 28 5 Tryz.underlying28 Tryz.underlying5 _ _ 9 Tryz.underlying9]
  rfl
 | some a=>
  refine run_convert_bytes_back w 28 9 5 a cap xs Tryz.underlying28 Tryz.underlying5 Tryz.underlying9 (fun j hj=>?_)
  rcases h with rfl | ⟨b,off,e,hc⟩
  ·simp at hj
  ·cases e
   have h1:=hc j hj
   unfold Addr.add
   split
   ·rename_i h0;subst h0;simpa using h1
   ·exact h1
def cellsB (xs:Str):List Value:=xs.map fun b=>.int .u8 (b.toNat:Int)
def TOwnB (w:World) (n:Nat) (v:Value) (xs:Str):Prop:=w.ownsRow n 5 1 v xs.length (cellsB xs)
theorem TOwnB.bytes {w:World} {n:Nat} {v:Value} {xs:Str} (h:TOwnB w n v xs):∃ A cap,v=.slice A xs.length cap∧BytesAt w A xs:=by
 rcases h.2 with ⟨rfl,h0⟩ | ⟨g,cap,cur,rfl,_,_,_⟩
 ·have:xs=[]:=List.eq_nil_of_length_eq_zero h0
  subst this
  exact ⟨none,0,rfl,.inl rfl⟩
 ·refine ⟨_,cap,rfl,.inr ⟨g,0,rfl,fun j hj=>?_⟩⟩
  rw [Nat.zero_add,World.ownsRow.cellAt h j (by omega)]
  unfold cellsB
  rw [List.getElem?_map,List.getElem?_eq_getElem hj]
  rfl
theorem TOwnB.below {w w':World} {n:Nat} {v:Value} {xs:Str} (h:TOwnB w n v xs) (k:Below w.heap.size w w'):TOwnB w' n v xs:=
 World.ownsRow.kept h (row:=none) ⟨k.os,k.tape,k.output,k.size,fun i hi _=>k.block i hi⟩ (by
  cases e:v.ownBlock with
  | none=>exact .inl rfl
  | some g=>exact .inr (by simp))
theorem own_lit (w:World) (xs:Str) (hl:xs.length≤100):TOwnB (w.alloc (.cells (cellsB xs).toArray 5)) w.heap.size (.slice (some ⟨w.heap.size,0,none⟩) xs.length xs.length) xs:=by
 refine ⟨by unfold cellsB;simp,.inr ⟨w.heap.size,xs.length,(cellsB xs).toArray,rfl,Nat.le_refl _,World.alloc_heap_new w _,Nat.le_refl _,by unfold maxLen;omega,by unfold cellsB;simp,?_⟩⟩
 unfold cellsB
 rw [List.take_of_length_le (by simp)]
theorem equalB_any (A1 A2:Option Addr) (c1 c2:Nat) (xs ys:Str) (w:World) (H1:BytesAt w A1 xs) (H2:BytesAt w A2 ys) :
  Calls Tryz.prog 106 #[.slice A1 xs.length c1,.slice A2 ys.length c2] w fun e w'=>e=.returned (.bool (decide (xs=ys)))∧w'=w:=by
 have k1:=conv_sB H1 c1
 have k2:=conv_sB H2 c2
 have E:Hid (((sB xs).toList == (sB ys).toList)=decide (xs=ys)):=by
  show ((sB xs).toList == (sB ys).toList)=_
  rw [sB_eq,ByteArray.toList_eq,show (sB ys).data.toList=ys by simp [sB]]
 clear H1 H2
 go_enter Tryz.func106,Tryz.ntmps106
 go_wp2
 go_ret
 exact ⟨ret_bool E.out,rfl⟩
def preS (page:Int):Str:=if page=1 then [203] else if page=2 then [237] else if page=3 then [221] else if page=4 then [253] else if page=5 then [221,203] else if page=6 then [253,203] else []
def RetB (w:World) (xs:Str) (e:Ending) (w':World):Prop:=∃ v,e=.returned v∧TOwnB w' w.heap.size v xs∧Below w.heap.size w w'
theorem prefixes_1 (w:World):Calls Tryz.prog 45 #[.int .i64 1] w (RetB w [203]):=by
 have O:=Lib.hid (own_lit w [203] (by decide))
 go_enter Tryz.func45,Tryz.ntmps45
 go_wp2
 go_ret
 exact ⟨_,rfl,O.out,(Below.refl _ _).alloc (Nat.le_refl _) _⟩
theorem prefixes_2 (w:World):Calls Tryz.prog 45 #[.int .i64 2] w (RetB w [237]):=by
 have O:=Lib.hid (own_lit w [237] (by decide))
 go_enter Tryz.func45,Tryz.ntmps45
 go_wp2
 go_ret
 exact ⟨_,rfl,O.out,(Below.refl _ _).alloc (Nat.le_refl _) _⟩
theorem prefixes_3 (w:World):Calls Tryz.prog 45 #[.int .i64 3] w (RetB w [221]):=by
 have O:=Lib.hid (own_lit w [221] (by decide))
 go_enter Tryz.func45,Tryz.ntmps45
 go_wp2
 go_ret
 exact ⟨_,rfl,O.out,(Below.refl _ _).alloc (Nat.le_refl _) _⟩
theorem prefixes_4 (w:World):Calls Tryz.prog 45 #[.int .i64 4] w (RetB w [253]):=by
 have O:=Lib.hid (own_lit w [253] (by decide))
 go_enter Tryz.func45,Tryz.ntmps45
 go_wp2
 go_ret
 exact ⟨_,rfl,O.out,(Below.refl _ _).alloc (Nat.le_refl _) _⟩
theorem prefixes_5 (w:World):Calls Tryz.prog 45 #[.int .i64 5] w (RetB w [221,203]):=by
 have O:=Lib.hid (own_lit w [221,203] (by decide))
 go_enter Tryz.func45,Tryz.ntmps45
 go_wp2
 go_ret
 exact ⟨_,rfl,O.out,(Below.refl _ _).alloc (Nat.le_refl _) _⟩
theorem prefixes_6 (w:World):Calls Tryz.prog 45 #[.int .i64 6] w (RetB w [253,203]):=by
 have O:=Lib.hid (own_lit w [253,203] (by decide))
 go_enter Tryz.func45,Tryz.ntmps45
 go_wp2
 go_ret
 exact ⟨_,rfl,O.out,(Below.refl _ _).alloc (Nat.le_refl _) _⟩
theorem prefixes_any (page:Int) (w:World):Calls Tryz.prog 45 #[.int .i64 page] w (RetB w (preS page)):=by
 unfold preS
 by_cases h1:page=1
 ·rw [if_pos h1];subst h1;exact prefixes_1 w
 by_cases h2:page=2
 ·rw [if_neg h1,if_pos h2];subst h2;exact prefixes_2 w
 by_cases h3:page=3
 ·rw [if_neg h1,if_neg h2,if_pos h3];subst h3;exact prefixes_3 w
 by_cases h4:page=4
 ·rw [if_neg h1,if_neg h2,if_neg h3,if_pos h4];subst h4;exact prefixes_4 w
 by_cases h5:page=5
 ·rw [if_neg h1,if_neg h2,if_neg h3,if_neg h4,if_pos h5];subst h5;exact prefixes_5 w
 by_cases h6:page=6
 ·rw [if_neg h1,if_neg h2,if_neg h3,if_neg h4,if_neg h5,if_pos h6];subst h6;exact prefixes_6 w
 rw [if_neg h1,if_neg h2,if_neg h3,if_neg h4,if_neg h5,if_neg h6]
 have e1:(page == 1)=false:=by simpa using h1
 have e2:(page == 2)=false:=by simpa using h2
 have e3:(page == 3)=false:=by simpa using h3
 have e4:(page == 4)=false:=by simpa using h4
 have e5:(page == 5)=false:=by simpa using h5
 have e6:(page == 6)=false:=by simpa using h6
 clear h1 h2 h3 h4 h5 h6
 go_enter Tryz.func45,Tryz.ntmps45
 go_wp2
 go_ret
 exact ⟨_,rfl,World.ownsRow_nil _ _ _ _,Below.refl _ _⟩
def pageF (xs:Str):Nat→Option Int
 | 0=>none
 | k+1=>match pageF xs k with
  | some p=>some p
  | none=>if preS k=xs then some k else none
def pageT (xs:Str):Option Int:=pageF xs 7
theorem pageF_some (xs:Str) (k:Nat) (p:Int) (h:pageF xs k=some p):∀ m,pageF xs (k+m)=some p
 | 0=>h
 | m+1=>by
  have ih:=pageF_some xs k p h m
  show pageF xs (k+m+1)=some p
  unfold pageF
  rw [ih]
theorem pageOf_any (A:Option Addr) (cap:Nat) (xs:Str) (hx:xs.length≤maxLen) (w:World) (H:BytesAt w A xs):Calls Tryz.prog 65 #[.slice A xs.length cap] w
  fun e w'=>e=.returned (.tuple #[.int .i64 ((pageT xs).getD 0),.bool (pageT xs).isSome])∧Below w.heap.size w w':=by
 obtain ⟨l,hl⟩:∃ l,xs.length=l:=⟨_,rfl⟩
 have HH:=Lib.hid H
 have HL:=Lib.hid hl
 rw [hl]
 clear H hl hx
 go_enter Tryz.func65,Tryz.ntmps65
 go_wp2
 go_loopw [5] (fun i wr=>∃ k:Nat,k≤7∧i=.int .i64 k∧Hid (pageF xs k=none)∧Hid (Below w.heap.size w wr)) (fun i _=>7 - (intOf i).toNat)
 case atStart=>exact ⟨0,Nat.zero_le _,rfl,rfl,Below.refl _ _⟩
 case round=>
  obtain ⟨k,hk,rfl,PF,B⟩:=hrel
  by_cases hlt:k<7
  ·have hp:=prefixes_any (k:Int) wr
   go_wp2_with fail
   refine hp.mono ?_
   rintro e w1 ⟨v,rfl,hO,hb1⟩
   obtain ⟨A1,c1,rfl,hB1⟩:=hO.bytes
   have B1:Hid (Below w.heap.size w w1):=B.out.trans (hb1.mono B.out.size)
   have hq:=equalB_any A1 A c1 cap (preS k) xs w1 hB1 (HH.out.below B1.out)
   rw [HL.out] at hq
   have PS:Hid (pageF xs (k+1)=if preS k=xs then some (k:Int) else none):=by show pageF xs (k+1)=_;rw [pageF,PF.out]
   clear hp hb1 hO hB1 B PF
   by_cases he:preS k=xs
   ·rw [decide_eq_true he] at hq
    have T:Hid (pageT xs=some (k:Int)):=by
     have h:=PS.out
     rw [if_pos he] at h
     have h2:=pageF_some xs (k+1) k h (7 - (k+1))
     rw [show k+1+(7 - (k+1))=7 by omega] at h2
     exact h2
    clear he
    go_wp2_with fail
    refine hq.mono ?_
    rintro e w2 ⟨rfl,hw2⟩
    rw [hw2]
    clear hq hw2
    go_wp2
    go_ret2
    exact ⟨by rw [T.out];rfl,B1.out⟩
   ·rw [decide_eq_false he] at hq
    have T:Hid (pageF xs (k+1)=none):=by have h:=PS.out;rw [if_neg he] at h;exact h
    clear he
    go_wp2_with fail
    refine hq.mono ?_
    rintro e w2 ⟨rfl,hw2⟩
    rw [hw2]
    clear hq hw2
    go_wp2
    go_roundw
    case rel=>exact ⟨k+1,by omega,by go_num,T.out,B1.out⟩
    case measure=>simp [intOf];omega
  ·obtain rfl:k=7:=by omega
   have T:Hid (pageT xs=none):=PF.out
   go_wp2
   go_ret2
   exact ⟨by rw [T.out];rfl,B.out⟩
theorem tinfo_u8:(Tryz.prog.info? 5).map (fun i=>(i.zero,i.size,i.bytes))=some (some (.int .u8 0),1,1):=by kernel_rfl
theorem wpList_appB {wr:World} {base:Nat} {v:Value} {xs:Str} (R:TOwnB wr base v xs) (hbase:base≤wr.heap.size) {ops:Array Oper} {rest:List Oper} {o:Oper} {a:Act} {Q:Exit→Act→World→Prop} (hgd:o.guard=none) (s x:Operand)
  (ho:o.op=.call {callee:=.builtin .append,args:=#[s,x],argTypes:=#[28,28]}) (hs:a.eval s=v) (nb:Nat) (hnb:nb=wr.heap.size) (hx:a.eval x=.slice (some ⟨nb,0,none⟩) 1 1)
  (y:UInt8) (k:Nat) (hk:xs.length=k) (hlen:k<10000)
  (h:∀ A' cap' w1,BytesAt w1 A' (xs++[y])→Below base wr w1→wpList Tryz.prog ops Q rest (a.put o.dst (.slice A' (k+1) cap')) w1):wpList Tryz.prog ops Q (o :: rest) a (wr.alloc (.cells #[.int .u8 (y.toNat:Int)] 5)):=by
 subst hnb
 obtain ⟨i0,hi,hz0,hz1,hz2⟩:=info_parts tinfo_u8
 have hb:Below base wr (wr.alloc (.cells #[.int .u8 (y.toNat:Int)] 5)):=(Below.refl base wr).alloc hbase _
 have hown:=World.ownsRow.alloc R (.cells #[.int .u8 (y.toNat:Int)] 5)
 refine wpList_append_own _ hgd s x 28 ho base 5 i0 (.int .u8 0) 1 1 Tryz.underlying28 hi hz0 hz1 hz2 rfl (by decide) v xs.length _ hs hown ⟨wr.heap.size,0,none⟩ 1 1 [.int .u8 (y.toNat:Int)] hx rfl ?_ ?_ ?_ ?_ ?_ ?_
 ·intro j u hj
  match j,hj with
  | 0,hj=>simp at hj;subst hj;simp [Addr.add,go_sem]
 ·intro u hu
  simp at hu
  subst hu
  rfl
 ·unfold maxLen;omega
 ·omega
 ·simp;omega
 ·intro v' w1 hown' hgrow _
  have hO:TOwnB w1 base v' (xs++[y]):=by
   unfold TOwnB cellsB
   rw [List.length_append,List.map_append]
   exact hown'
  obtain ⟨A',cap',rfl,hB⟩:=hO.bytes
  rw [List.length_append,hk]
  exact h A' cap' w1 hB (hb.grown hgrow (by simp;omega) fun k hk=>(hown.lt k hk).1)
def kindT (page op:Int):Int:=if page<0∨7≤page then 0 else if (pageT (preS page++[UInt8.ofNat op.toNat])).isSome then 2 else if page=2 then 3 else 0
theorem kindWithout_any (page op:Int) (h0:0≤op) (h1:op≤255) (w:World):Calls Tryz.prog 34 #[.int .i64 page,.int .u8 op] w
  fun e w'=>e=.returned (.int .i64 (kindT page op))∧Below w.heap.size w w':=by
 by_cases hp0:page<0
 ·have T:Hid (kindT page op=0):=by show kindT page op=0;unfold kindT;rw [if_pos (.inl hp0)]
  go_enter Tryz.func34,Tryz.ntmps34
  go_wp2
  go_ret
  exact ⟨by rw [T.out];rfl,Below.refl _ _⟩
 ·by_cases hp1:7≤page
  ·have T:Hid (kindT page op=0):=by show kindT page op=0;unfold kindT;rw [if_pos (.inr hp1)]
   go_enter Tryz.func34,Tryz.ntmps34
   go_wp2
   go_ret
   exact ⟨by rw [T.out];rfl,Below.refl _ _⟩
  ·have hpp:=prefixes_any page w
   obtain ⟨c,hc⟩:∃ c:UInt8,op=(c.toNat:Int):=⟨UInt8.ofNat op.toNat,by rw [UInt8.toNat_ofNat_of_lt' (show op.toNat<256 by omega)];omega⟩
   subst hc
   have hcc:UInt8.ofNat ((c.toNat:Int)).toNat=c:=by simp
   have KT:Hid (kindT page (c.toNat:Int)=if (pageT (preS page++[c])).isSome then 2 else if page=2 then 3 else 0):=by
    show kindT page (c.toNat:Int)=_
    unfold kindT
    rw [if_neg (show ¬(page<0∨7≤page) by omega),hcc]
   clear h0 h1 hcc
   go_enter Tryz.func34,Tryz.ntmps34
   go_wp2_with fail
   refine hpp.mono ?_
   rintro e w1 ⟨v,rfl,hO,hb1⟩
   have O1:=Lib.hid hO
   have B1:=Lib.hid hb1
   obtain ⟨A1,c1,rfl,-⟩:=hO.bytes
   obtain ⟨l,hl⟩:∃ l,(preS page).length=l:=⟨_,rfl⟩
   have HL:=Lib.hid hl
   rw [hl] at O1 ⊢
   clear hpp hO hb1
   have hl2:l≤2:=by
    rw [← HL.out]
    unfold preS
    repeat' split
    all_goals simp
   go_wp2_with (at_builtin;refine wpList_appB O1.out B1.out.size rfl _ _ rfl rfl w1.heap.size rfl rfl c l HL.out (by omega) ?_;intro A2 cap2 w2 hA2 hB2;have A2':=Lib.hid hA2;have B2:Hid (Below w.heap.size w w2):=B1.out.trans hB2;clear hA2 hB2)
   have hlen:(preS page++[c]).length=l+1:=by rw [List.length_append,HL.out];rfl
   have hpo:=pageOf_any A2 cap2 (preS page++[c]) (by rw [hlen];unfold maxLen;omega) w2 A2'.out
   rw [hlen] at hpo
   obtain ⟨po,hpo2⟩:∃ x,pageT (preS page++[c])=x:=⟨_,rfl⟩
   rw [hpo2] at hpo KT
   clear hpo2 hlen
   go_wp2_with fail
   refine hpo.mono ?_
   rintro e w3 ⟨rfl,hb3⟩
   have B3:Hid (Below w.heap.size w w3):=B2.out.trans (hb3.mono B2.out.size)
   clear hpo hb3 A2' B2 B1 O1
   cases po with
   | some x=>
    have T:Hid (kindT page (c.toNat:Int)=2):=by show _=_;rw [KT.out];rfl
    go_wp2
    go_ret
    exact ⟨by rw [T.out];rfl,B3.out⟩
   | none=>
    by_cases hp2:page=2
    ·have T:Hid (kindT page (c.toNat:Int)=3):=by show _=_;rw [KT.out,if_neg (by decide),if_pos hp2]
     go_wp2
     go_ret
     exact ⟨by rw [T.out];rfl,B3.out⟩
    ·have T:Hid (kindT page (c.toNat:Int)=0):=by show _=_;rw [KT.out,if_neg (by decide),if_neg hp2]
     go_wp2
     go_ret
     exact ⟨by rw [T.out];rfl,B3.out⟩
end Go.Proofs.YtoilebmbljpieaaGreatDoor
namespace Go.Proofs.YtoilebmbljpieaaGreatDoor
open Go.RowKit
def byteI (n:Int):UInt8:=UInt8.ofNat (n % 256).toNat
theorem byteI_nat (n:Int):((byteI n).toNat:Int)=n % 256:=by
 unfold byteI
 rw [UInt8.toNat_ofNat_of_lt' (by have:=Int.emod_lt_of_pos n (show (0:Int)<256 by decide);have:=Int.emod_nonneg n (show (256:Int)≠0 by decide);show (n % 256).toNat<256;omega)]
 have:=Int.emod_nonneg n (show (256:Int)≠0 by decide)
 omega
theorem byteI_inj {a b:Int} (h:byteI a=byteI b):a % 256=b % 256:=by rw [← byteI_nat,← byteI_nat,h]
def letB (d n:Int) (c:UInt8):Str:=if c=100 then [byteI d] else if c=119 then [byteI n,byteI (n / 256)] else [byteI n]
def encB (page op:Int) (ex:Str) (d n:Int):Str:=if 5≤page then preS page++[byteI d,byteI op] else preS page++byteI op :: ex.flatMap (letB d n)
end Go.Proofs.YtoilebmbljpieaaGreatDoor
namespace Go.Proofs.YtoilebmbljpieaaGreatDoor
open Go.RowKit Go.Shelf
theorem cellsB_one (ys:Str):∀ u∈cellsB ys,u.oneCell'=true:=fun u hu=>by
 unfold cellsB at hu
 obtain ⟨b,-,rfl⟩:=List.mem_map.1 hu
 rfl
theorem cellsB_append (xs ys:Str):cellsB (xs++ys)=cellsB xs++cellsB ys:=by unfold cellsB;rw [List.map_append]
theorem BytesAt.news {w:World} {A:Option Addr} {ys:Str} (h:BytesAt w A ys):ys.length=0∨∃ a,A=some a∧∀ j u,(cellsB ys)[j]?=some u→w.cell? (a.add j)=some u:=by
 rcases h with rfl | ⟨b,off,rfl,hc⟩
 ·exact .inl rfl
 ·refine .inr ⟨_,rfl,fun j u hu=>?_⟩
  have hadd:(⟨b,off,none⟩:Addr).add j=⟨b,off+j,none⟩:=by unfold Addr.add;split <;> simp_all
  rw [hadd]
  unfold cellsB at hu
  rw [List.getElem?_map] at hu
  cases hy:ys[j]? with
  | none=>rw [hy] at hu;cases hu
  | some y=>
   rw [hy] at hu
   obtain ⟨hj,hy2⟩:=List.getElem?_eq_some_iff.1 hy
   obtain rfl:=Option.some.inj hu
   rw [hc j hj,hy2]
theorem run_appBs (w:World) (B:Nat) (v:Value) (xs:Str) (h:TOwnB w B v xs) (A:Option Addr) (c:Nat) (ys:Str) (hP:BytesAt w A ys) (hB:B≤w.heap.size) (hs:xs.length+ys.length≤100000) :
  ∃ v' w',(Builtin.append_ #[28,28] 28 #[v,.slice A ys.length c]).run Tryz.prog w=.ok v' w'∧TOwnB w' B v' (xs++ys)∧Below B w w'∧w.grownBy w' v.ownBlock:=by
 obtain ⟨i0,hi,hz0,hz1,hz2⟩:=info_parts tinfo_u8
 obtain ⟨v',w',k1,k2,k3⟩:=run_append_src w B 28 28 5 i0 _ 1 1 Tryz.underlying28 hi hz0 hz1 hz2 rfl (by decide) v xs.length (cellsB xs) h A ys.length c (cellsB ys)
  (by unfold cellsB;simp) hP.news (cellsB_one ys) (by unfold maxLen;omega) (by omega) hB
 refine ⟨v',w',k1,?_,(Below.refl B w).grown k3 hB fun k hk=>(World.ownsRow.lt h k hk).1,k3⟩
 unfold TOwnB
 rw [cellsB_append,List.length_append]
 exact k2
theorem wpList_appBs {wr:World} {B:Nat} {v:Value} {xs:Str} (h:TOwnB wr B v xs) {A:Option Addr} {c:Nat} {ys:Str} (hP:BytesAt wr A ys) (hB:B≤wr.heap.size) (hs:xs.length+ys.length≤100000) {ops:Array Oper} {rest:List Oper} {o:Oper} {a:Act} {Q:Exit→Act→World→Prop} (hgd:o.guard=none) (s x:Operand)
  (ho:o.op=.call {callee:=.builtin .append,args:=#[s,x],argTypes:=#[28,28]}) (hty:o.type=28) (hsv:a.eval s=v) (m:Nat) (hm:ys.length=m) (hx:a.eval x=.slice A m c) (n:Nat) (hn:xs.length+m=n)
  (k:∀ A' cap' w1,TOwnB w1 B (.slice A' n cap') (xs++ys)→Below B wr w1→wpList Tryz.prog ops Q rest (a.put o.dst (.slice A' n cap')) w1):wpList Tryz.prog ops Q (o :: rest) a wr:=by
 subst hm hn
 obtain ⟨v',w',k1,k2,k3,-⟩:=run_appBs wr B v xs h A c ys hP hB hs
 obtain ⟨A',cap',rfl,-⟩:=k2.bytes
 rw [List.length_append] at k1 k2
 exact wpList_run_append k1 hgd s x ho hty hsv hx (k A' cap' w' k2 k3)
theorem bytes_new1 (w:World) (a:UInt8):BytesAt (w.alloc (.cells #[.int .u8 (a.toNat:Int)] 5)) (some ⟨w.heap.size,0,none⟩) [a]:=by
 refine .inr ⟨_,_,rfl,fun j hj=>?_⟩
 obtain rfl:j=0:=by simp at hj;omega
 rw [Lib.cell_of_heap (heap_alloc_new w _)]
 rfl
theorem bytes_new2 (w:World) (a b:UInt8):BytesAt (w.alloc (.cells #[.int .u8 (a.toNat:Int),.int .u8 (b.toNat:Int)] 5)) (some ⟨w.heap.size,0,none⟩) [a,b]:=by
 refine .inr ⟨_,_,rfl,fun j hj=>?_⟩
 rw [Lib.cell_of_heap (heap_alloc_new w _)]
 have:j=0∨j=1:=by simp at hj;omega
 rcases this with rfl | rfl <;> rfl
theorem townB_nil (w:World) (n:Nat):TOwnB w n (.slice none 0 0) []:=World.ownsRow_nil _ _ _ _
theorem TOwnB.lift {w:World} {n m:Nat} {v:Value} {xs:Str} (h:TOwnB w n v xs) (k:m≤n):TOwnB w m v xs:=row_mono h k
end Go.Proofs.YtoilebmbljpieaaGreatDoor
namespace Go.Proofs.YtoilebmbljpieaaGreatDoor
open Go.RowKit Go.Shelf
attribute [local go_sem] Oper.semAt_some
attribute [local irreducible] Go.Mixed.wpMix
structure Wri where
 page:Int
 op:Int
 m:Str
 v:Value
 ex:Str
 al:Bool
 d:Int
 n:Int
def Wri.cells (h:Wri) (u:Value):Array Value:=#[.int .i64 h.page,.int .u8 h.op,.string (sB h.m),h.v,.string (sB h.ex),.bool h.al,.int .i64 h.d,.int .i64 h.n,u]
def WrAt (w:World) (B b:Nat) (h:Wri) (xs:Str):Prop:=∃ A c,w.heap[b]?=some (.cells (h.cells (.slice A xs.length c)) 87 (0,0))∧TOwnB w B (.slice A xs.length c) xs
structure WKp (b:Nat) (w w':World):Prop where
 size:w.heap.size≤w'.heap.size
 same:∀ k,k<w.heap.size→k≠b→(∀ cur,w.heap[k]?≠some (.cells cur 5 (0,0)))→w'.heap[k]?=w.heap[k]?
theorem WKp.refl (b:Nat) (w:World):WKp b w w:=⟨Nat.le_refl _,fun _ _ _ _=>rfl⟩
theorem WKp.of_below {b:Nat} {w w':World} (h:Below w.heap.size w w'):WKp b w w':=⟨h.size,fun k hk _ _=>h.block k hk⟩
theorem WKp.trans {b:Nat} {w w' w'':World} (h:WKp b w w') (h':WKp b w' w''):WKp b w w'':=
 ⟨Nat.le_trans h.size h'.size,fun k hk hb ht=>(h'.same k (Nat.lt_of_lt_of_le hk h.size) hb (fun cur e=>ht cur (by rw [← h.same k hk hb ht];exact e))).trans (h.same k hk hb ht)⟩
theorem WKp.set {b:Nat} {w w':World} (h:WKp b w w') (j:Nat) (u:Value):WKp b w (w'.setCell ⟨b,j,none⟩ u):=
 ⟨by simpa using h.size,fun k hk hb ht=>(heap_setCell_other w' ⟨b,j,none⟩ k u hb).trans (h.same k hk hb ht)⟩
theorem upA (w:World) (o:Obj):Below w.heap.size w (w.alloc o):=(Below.refl _ _).alloc (Nat.le_refl _) _
theorem own_u8 {w:World} {n:Nat} {u:Value} {xs:Str} (h:TOwnB w n u xs) {g:Nat} (e:u.ownBlock=some g):∃ cur,w.heap[g]?=some (.cells cur 5 (0,0)):=by
 rcases h.2 with ⟨rfl,_⟩ | ⟨g',cap,cur,rfl,_,h2,_⟩
 ·cases e
 ·cases e
  exact ⟨cur,h2⟩
theorem WKp.grown {b B:Nat} {w w':World} {v:Value} {xs:Str} (h:TOwnB w B v xs) (g:w.grownBy w' v.ownBlock):WKp b w w':=
 ⟨g.size,fun k hk _ ht=>g.block k hk (fun e=>by obtain ⟨cur,hc⟩:=own_u8 h e.symm;exact ht cur hc)⟩
section
variable {w w':World} {B b:Nat} {h:Wri} {xs:Str}
theorem WrAt.lt (H:WrAt w B b h xs):b<w.heap.size:=by obtain ⟨A,c,k,-⟩:=H;exact (Array.getElem?_eq_some_iff.1 k).1
theorem WrAt.below (H:WrAt w B b h xs) (hb:Below w.heap.size w w'):WrAt w' B b h xs:=by
 have hl:=H.lt
 obtain ⟨A,c,k,o⟩:=H
 exact ⟨A,c,(hb.block b hl).trans k,o.below hb⟩
end
theorem wr_cells {w:World} {b:Nat} {h:Wri} {u:Value} (k:w.heap[b]?=some (.cells (h.cells u) 87 (0,0))) :
  w.cell? ⟨b,0,none⟩=some (.int .i64 h.page)∧w.cell? ⟨b,1,none⟩=some (.int .u8 h.op)∧w.cell? ⟨b,4,none⟩=some (.string (sB h.ex))∧w.cell? ⟨b,6,none⟩=some (.int .i64 h.d)∧w.cell? ⟨b,7,none⟩=some (.int .i64 h.n)∧w.cell? ⟨b,8,none⟩=some u∧w.frozen? ⟨b,8,none⟩=false:=
 ⟨Lib.cell_of_heap k 0,Lib.cell_of_heap k 1,Lib.cell_of_heap k 4,Lib.cell_of_heap k 6,Lib.cell_of_heap k 7,Lib.cell_of_heap k 8,Lib.frozen_of_heap k 8⟩
theorem wpList_appBsG {wr:World} {B:Nat} {v:Value} {xs:Str} (h:TOwnB wr B v xs) {A:Option Addr} {c:Nat} {ys:Str} (hP:BytesAt wr A ys) (hB:B≤wr.heap.size) (hs:xs.length+ys.length≤100000) {ops:Array Oper} {rest:List Oper} {o:Oper} {a:Act} {Q:Exit→Act→World→Prop} (hgd:o.guard=none) (s x:Operand)
  (ho:o.op=.call {callee:=.builtin .append,args:=#[s,x],argTypes:=#[28,28]}) (hty:o.type=28) (hsv:a.eval s=v) (m:Nat) (hm:ys.length=m) (hx:a.eval x=.slice A m c) (n:Nat) (hn:xs.length+m=n)
  (k:∀ A' cap' w1,TOwnB w1 B (.slice A' n cap') (xs++ys)→Below B wr w1→wr.grownBy w1 v.ownBlock→wpList Tryz.prog ops Q rest (a.put o.dst (.slice A' n cap')) w1):wpList Tryz.prog ops Q (o :: rest) a wr:=by
 subst hm hn
 obtain ⟨v',w',k1,k2,k3,k4⟩:=run_appBs wr B v xs h A c ys hP hB hs
 obtain ⟨A',cap',rfl,-⟩:=k2.bytes
 rw [List.length_append] at k1 k2
 exact wpList_run_append k1 hgd s x ho hty hsv hx (k A' cap' w' k2 k3 k4)
theorem map_low (zs:List Int):zs.map lowU=zs.map byteI:=rfl
theorem wr_store {w:World} {B b:Nat} {h:Wri} {u:Value} {A:Option Addr} {c:Nat} {xs:Str} (k:w.heap[b]?=some (.cells (h.cells u) 87 (0,0))) (o:TOwnB w B (.slice A xs.length c) xs) :
  WrAt (w.setCell ⟨b,8,none⟩ (.slice A xs.length c)) B b h xs:=by
 refine ⟨A,c,heap_setCell_same w b 8 _ _ _ k,row_set_ne o (fun g hg=>?_) _⟩
 obtain ⟨cur,hc⟩:=own_u8 o hg
 rintro rfl
 rw [k] at hc
 simp at hc
def RetPut (w:World) (B b:Nat) (h:Wri) (zs:Str) (e:Ending) (w':World):Prop:=e=.returned (.tuple #[])∧WrAt w' B b h zs∧Below B w w'∧WKp b w w'
theorem wput_any (B b:Nat) (h:Wri) (xs:Str) (hx:xs.length≤1000) (Al:Option Addr) (cap l:Nat) (zs:List Int) (hl:zs.length=l) (hz:l≤1000) (w:World) (H:WrAt w B b h xs) (hB:B≤b) (hi:IntsAt w Al zs) :
  Calls Tryz.prog 112 #[.pointer (some ⟨b,0,none⟩),.slice Al l cap] w (RetPut w B b h (xs++zs.map byteI)):=by
 have hbw:=H.lt
 obtain ⟨A,c,k,o⟩:=H
 have lw:=fun w' p=>low_any Al cap zs (by omega) w' p
 rw [hl] at lw
 obtain ⟨ys,hys⟩:∃ z,zs.map byteI=z:=⟨_,rfl⟩
 have hyl:ys.length=l:=by rw [← hys,List.length_map,hl]
 rw [map_low,hys] at lw
 rw [hys]
 obtain ⟨n,hn⟩:∃ z,xs.length=z:=⟨_,rfl⟩
 rw [hn] at k o hx
 have HYL:=Lib.hid hyl
 have HN:=Lib.hid hn
 have K:=Lib.hid k
 have O:=Lib.hid o
 have HI:=Lib.hid hi
 clear hi hl hys hyl hn k o
 unfold RetBytes at lw
 rw [HYL.out] at lw
 have LW:=Lib.hid lw
 clear lw
 go_enter Tryz.func112,Tryz.ntmps112
 go_upto_region 0 with fail
 obtain ⟨w1,hw1⟩:∃ z,w.drew=z:=⟨_,rfl⟩
 have hd:Below w.heap.size w w1:=by rw [← hw1];exact below_drewN w _ 1
 have K1:Hid (w1.heap[b]?=some (.cells (h.cells (.slice A n c)) 87 (0,0))):=(hd.block b hbw).trans K.out
 have O1:=Lib.hid (O.out.below hd)
 have I1:Hid (IntsAt w1 Al zs):=by rw [← hw1];exact HI.out
 have B1:=Lib.hid hd
 clear hd K O HI
 refine Mixed.wp_region_mixed (fun w'=>w'.heap[b]?=some (.cells (h.cells (.slice A n c)) 87 (0,0))) 8 [(0,true),(1,true),(2,true),(3,true),(4,true),(5,true),(6,false),(7,false)] (by kernel_rfl) (by kernel_rfl) (by rw [hw1];exact K1.out) ?_
 rw [hw1]
 clear hw1
 refine Mixed.wpMix_pure rfl (by kernel_rfl) (.pointer (some ⟨b,0,none⟩)) (fun w h=>by clear h;go_simp;try rfl) ?_
 refine Mixed.wpMix_pure rfl (by kernel_rfl) (.pointer (some ⟨b,0,none⟩)) (fun w h=>by clear h;go_simp;try rfl) ?_
 refine Mixed.wpMix_pure rfl (by kernel_rfl) (.pointer (some ⟨b,0,none⟩)) (fun w h=>by clear h;go_simp;try rfl) ?_
 refine Mixed.wpMix_pure rfl (by kernel_rfl) (.pointer (some ⟨b,8,none⟩)) (fun w h=>by clear h;go_simp;try rfl) ?_
 refine Mixed.wpMix_pure rfl (by kernel_rfl) (.slice A n c) (fun w h=>by obtain ⟨h0,h1,h2,h3,h4,h5,h6⟩:=wr_cells h;clear h;go_simp;try rfl) ?_
 refine Mixed.wpMix_pure rfl (by kernel_rfl) (.slice Al l cap) (fun w h=>by clear h;go_simp;try rfl) ?_
 refine Mixed.wpMix_loud rfl ?_
 have L1:=LW.out w1 I1.out
 clear LW I1
 go_wp2_with fail
 refine L1.mono ?_
 rintro e w2 ⟨A2,c2,rfl,hP,hb⟩
 have hbw1:b<w1.heap.size:=(Array.getElem?_eq_some_iff.1 K1.out).1
 have K2:Hid (w2.heap[b]?=some (.cells (h.cells (.slice A n c)) 87 (0,0))):=(hb.block b hbw1).trans K1.out
 have O2:=Lib.hid (O1.out.below hb)
 have B2:Hid (Below w.heap.size w w2):=B1.out.trans (hb.mono B1.out.size)
 have P2:Hid (BytesAt w2 A2 ys):=hP
 clear K1 O1 B1 L1 hP hb hbw1
 go_wp2
 refine ⟨K2.out,?_⟩
 refine Mixed.wpMix_loud rfl ?_
 have Z2:Hid (B≤w2.heap.size):=by have:=B2.out.size;show _≤_;omega
 refine wpList_appBsG (ys:=ys) O2.out P2.out Z2.out (by rw [HN.out,HYL.out];omega) rfl _ _ rfl rfl rfl l HYL.out rfl (n+l) (by rw [HN.out]) ?_
 intro A3 c3 w3 h1 h2 h3
 have K3:Hid (w3.heap[b]?=some (.cells (h.cells (.slice A n c)) 87 (0,0))):=(h3.block b (by have:=B2.out.size;omega) (fun e=>by
  obtain ⟨cur,hc⟩:=own_u8 O2.out e.symm
  rw [K2.out] at hc
  simp at hc)).trans K2.out
 have O3:=Lib.hid h1
 have B3:Hid (Below B w w3):=(B2.out.mono (by omega)).trans h2
 have W3:Hid (WKp b w w3):=(WKp.of_below B2.out).trans (WKp.grown O2.out h3)
 clear h1 h2 h3 O2 P2 B2 Z2 K2
 go_wp2
 refine ⟨K3.out,?_⟩
 simp only [Mixed.wpMix]
 obtain ⟨e0,e1,e2,e3,e4,e5,e6⟩:=wr_cells K3.out
 have F:Hid (RetPut w B b h (xs++ys) (.returned (.tuple #[])) (w3.setCell ⟨b,8,none⟩ (.slice A3 (n+l) c3))):=by
  have hln:(xs++ys).length=n+l:=by rw [List.length_append,HN.out,HYL.out]
  have o3:=O3.out
  rw [← hln] at o3 ⊢
  exact ⟨rfl,wr_store K3.out o3,B3.out.setCell (by simpa using hB) _,W3.out.set 8 _⟩
 clear e0 e1 e2 e3 e4
 go_wp2
 refine bodyPost_end (v:=.tuple #[]) ?_ rfl F.out
 simp [results,Tryz.results112,go_sem]
end Go.Proofs.YtoilebmbljpieaaGreatDoor
namespace Go.Proofs.YtoilebmbljpieaaGreatDoor
open Go.RowKit Go.Shelf
attribute [local go_sem] Oper.semAt_some
attribute [local irreducible] Go.Mixed.wpMix
theorem ints_new1 (w:World) (x:Int):IntsAt (w.alloc (.cells #[.int .i64 x] 3)) (some ⟨w.heap.size,0,none⟩) [x]:=by
 refine .inr ⟨_,_,rfl,fun j hj=>?_⟩
 obtain rfl:j=0:=by simp at hj;omega
 rw [Lib.cell_of_heap (heap_alloc_new w _)]
 rfl
theorem ints_new2 (w:World) (x y:Int):IntsAt (w.alloc (.cells #[.int .i64 x,.int .i64 y] 3)) (some ⟨w.heap.size,0,none⟩) [x,y]:=by
 refine .inr ⟨_,_,rfl,fun j hj=>?_⟩
 rw [Lib.cell_of_heap (heap_alloc_new w _)]
 have:j=0∨j=1:=by simp at hj;omega
 rcases this with rfl | rfl <;> rfl
theorem RetPut.from {w w1:World} {B b:Nat} {h:Wri} {zs:Str} {e:Ending} {w':World} (hb:Below w.heap.size w w1) (hB:B≤w.heap.size) (r:RetPut w1 B b h zs e w'):RetPut w B b h zs e w':=
 ⟨r.1,r.2.1,(hb.mono hB).trans r.2.2.1,(WKp.of_below hb).trans r.2.2.2⟩
theorem wdisp_any (B b:Nat) (h:Wri) (xs:Str) (hx:xs.length≤1000) (w:World) (H:WrAt w B b h xs) (hB:B≤b) :
  Calls Tryz.prog 80 #[.pointer (some ⟨b,0,none⟩)] w (RetPut w B b h (xs++[byteI h.d])):=by
 have hbw:=H.lt
 have hal:=upA w (.cells #[.int .i64 h.d] 3)
 have P:=wput_any B b h xs hx (some ⟨w.heap.size,0,none⟩) 1 1 [h.d] rfl (by omega) _ (H.below hal) hB (ints_new1 w h.d)
 have P:=Lib.hid (P.mono fun e w' r=>r.from hal (by omega))
 obtain ⟨A,c,k,o⟩:=H
 obtain ⟨e0,e1,e2,e3,e4,e5,e6⟩:=wr_cells k
 clear hal k o e0 e1 e2 e5 e6
 obtain ⟨x,hx⟩:∃ x,h.d=x:=⟨_,rfl⟩
 simp only [hx] at e3 e4 P ⊢
 clear hx
 go_enter Tryz.func80,Tryz.ntmps80
 go_wp2_with fail
 refine P.out.mono ?_
 rintro e w1 ⟨rfl,h1⟩
 have R:=Lib.hid h1
 clear h1 P
 go_wp2
 refine bodyPost_end (v:=.tuple #[]) ?_ rfl ⟨rfl,R.out⟩
 simp [results,Tryz.results80,go_sem]
theorem wbyte_any (B b:Nat) (h:Wri) (xs:Str) (hx:xs.length≤1000) (w:World) (H:WrAt w B b h xs) (hB:B≤b) :
  Calls Tryz.prog 114 #[.pointer (some ⟨b,0,none⟩)] w (RetPut w B b h (xs++[byteI h.n])):=by
 have hbw:=H.lt
 have hal:=upA w (.cells #[.int .i64 h.n] 3)
 have P:=wput_any B b h xs hx (some ⟨w.heap.size,0,none⟩) 1 1 [h.n] rfl (by omega) _ (H.below hal) hB (ints_new1 w h.n)
 have P:=Lib.hid (P.mono fun e w' r=>r.from hal (by omega))
 obtain ⟨A,c,k,o⟩:=H
 obtain ⟨e0,e1,e2,e3,e4,e5,e6⟩:=wr_cells k
 clear hal k o e0 e1 e2 e5 e6
 obtain ⟨x,hx⟩:∃ x,h.n=x:=⟨_,rfl⟩
 simp only [hx] at e3 e4 P ⊢
 clear hx
 go_enter Tryz.func114,Tryz.ntmps114
 go_wp2_with fail
 refine P.out.mono ?_
 rintro e w1 ⟨rfl,h1⟩
 have R:=Lib.hid h1
 clear h1 P
 go_wp2
 refine bodyPost_end (v:=.tuple #[]) ?_ rfl ⟨rfl,R.out⟩
 simp [results,Tryz.results114,go_sem]
theorem wword_any (B b:Nat) (h:Wri) (xs:Str) (hx:xs.length≤1000) (w:World) (H:WrAt w B b h xs) (hB:B≤b) :
  Calls Tryz.prog 115 #[.pointer (some ⟨b,0,none⟩)] w (RetPut w B b h (xs++[byteI h.n,byteI (h.n / 256)])):=by
 have hbw:=H.lt
 obtain ⟨w1,hw1⟩:∃ z,w.drew=z:=⟨_,rfl⟩
 have hd:Below w.heap.size w w1:=by rw [← hw1];exact below_drewN w _ 1
 have hal:=upA w1 (.cells #[.int .i64 h.n,.int .i64 (h.n / 256)] 3)
 have P:=wput_any B b h xs hx (some ⟨w1.heap.size,0,none⟩) 2 2 [h.n,h.n / 256] rfl (by omega) _ ((H.below hd).below hal) hB (ints_new2 w1 h.n (h.n / 256))
 have P:=Lib.hid (P.mono fun e w' r=>(r.from hal (by have:=hd.size;omega)).from hd (by omega))
 obtain ⟨A,c,k,o⟩:=H
 have K:Hid (w1.heap[b]?=some (.cells (h.cells (.slice A xs.length c)) 87 (0,0))):=(hd.block b hbw).trans k
 have K2:Hid ((w1.alloc (.cells #[.int .i64 h.n,.int .i64 (h.n / 256)] 3)).heap[b]?=some (.cells (h.cells (.slice A xs.length c)) 87 (0,0))):=(hal.block b (by have:=hd.size;omega)).trans K.out
 clear hal hd k o
 go_enter Tryz.func115,Tryz.ntmps115
 go_upto_region 0 with fail
 refine Mixed.wp_region_mixed (fun w'=>w'.heap[b]?=some (.cells (h.cells (.slice A xs.length c)) 87 (0,0))) 11 [(0,true),(1,true),(2,true),(3,true),(4,true),(5,true),(6,true),(7,true),(8,true),(9,true),(10,false)] (by kernel_rfl) (by kernel_rfl) (by rw [hw1];exact K.out) ?_
 rw [hw1]
 clear hw1 K
 refine Mixed.wpMix_pure rfl (by kernel_rfl) (.pointer (some ⟨b,0,none⟩)) (fun w h=>by clear h;go_simp;try rfl) ?_
 refine Mixed.wpMix_pure rfl (by kernel_rfl) (.pointer (some ⟨b,0,none⟩)) (fun w h=>by clear h;go_simp;try rfl) ?_
 refine Mixed.wpMix_pure rfl (by kernel_rfl) (.pointer (some ⟨b,0,none⟩)) (fun w h=>by clear h;go_simp;try rfl) ?_
 refine Mixed.wpMix_pure rfl (by kernel_rfl) (.pointer (some ⟨b,7,none⟩)) (fun w h=>by clear h;go_simp;try rfl) ?_
 refine Mixed.wpMix_pure rfl (by kernel_rfl) (.int .i64 h.n) (fun w h=>by obtain ⟨h0,h1,h2,h3,h4,h5,h6⟩:=wr_cells h;clear h;go_simp;try rfl) ?_
 refine Mixed.wpMix_pure rfl (by kernel_rfl) (.pointer (some ⟨b,0,none⟩)) (fun w h=>by clear h;go_simp;try rfl) ?_
 refine Mixed.wpMix_pure rfl (by kernel_rfl) (.pointer (some ⟨b,0,none⟩)) (fun w h=>by clear h;go_simp;try rfl) ?_
 refine Mixed.wpMix_pure rfl (by kernel_rfl) (.pointer (some ⟨b,7,none⟩)) (fun w h=>by clear h;go_simp;try rfl) ?_
 refine Mixed.wpMix_pure rfl (by kernel_rfl) (.int .i64 h.n) (fun w h=>by obtain ⟨h0,h1,h2,h3,h4,h5,h6⟩:=wr_cells h;clear h;go_simp;try rfl) ?_
 refine Mixed.wpMix_pure rfl (by kernel_rfl) (.int .i64 (h.n / 256)) (fun w h=>by clear h;go_simp;try rfl) ?_
 refine Mixed.wpMix_loud rfl ?_
 go_wp2
 refine ⟨K2.out,?_⟩
 clear K2
 simp only [Mixed.wpMix]
 go_wp2_with fail
 refine P.out.mono ?_
 rintro e w2 ⟨rfl,h1⟩
 have R:=Lib.hid h1
 clear h1 P
 go_wp2
 refine bodyPost_end (v:=.tuple #[]) ?_ rfl ⟨rfl,R.out⟩
 simp [results,Tryz.results115,go_sem]
end Go.Proofs.YtoilebmbljpieaaGreatDoor
