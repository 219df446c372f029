/-
  DgA, EnB, SeRa, SeRb, SeRc, SeRj.
-/
import Derived.Test.YtclhaejdjogfbaaGreatDoorGAQ
import Derived.Test.YtclhaejdjogfbaaGreatDoorGAJ
import Derived.Test.YtclhaejdjogfbaaGreatDoorGAA
import Derived.Test.YtclhaejdjogfbaaGreatDoorGAC
import Derived.Deep.DeepCutAuto
import Derived.Test.YtclhaejdjogfbaaGreatDoorGAE
import Derived.Test.YtclhaejdjogfbaaGreatDoorGAH
import Derived.Test.YtclhaejdjogfbaaGreatDoorGAB
import Derived.Test.YtclhaejdjogfbaaGreatDoorGAI
import Derived.Deep.Cut
import Derived.Test.YtclhaejdjogfbaaGreatDoorQ0
set_option linter.all false
set_option maxRecDepth 100000
set_option maxHeartbeats 4000000
namespace Go.Proofs.YtclhaejdjogfbaaGreatDoor
open Go.RowKit
theorem page_cases {p:Int} (hp:0≤p∧p≤6):p=0∨p=1∨p=2∨p=3∨p=4∨p=5∨p=6:=by omega
theorem hd_at {p:Int} (hp:0≤p∧p≤4) (o:UInt8) (t:Str) (h0:p=0→o≠203∧o≠221∧o≠237∧o≠253) (h3:p=3∨p=4→o≠203):hdB (preS p++o :: t)=some (p,o,t):=by
 rcases (by omega:p=0∨p=1∨p=2∨p=3∨p=4) with rfl | rfl | rfl | rfl | rfl
 ·obtain ⟨a,b,c,d⟩:=h0 rfl
  show hdB (o :: t)=_
  simp only [hdB]
  rw [if_neg a,if_neg c,if_neg b,if_neg d]
 ·rfl
 ·rfl
 ·have h:=h3 (.inl rfl)
  show hdB (221 :: o :: t)=_
  simp only [hdB]
  rw [if_neg (by decide),if_neg (by decide),if_pos (by decide),if_neg h]
 ·have h:=h3 (.inr rfl)
  show hdB (253 :: o :: t)=_
  simp only [hdB]
  rw [if_neg (by decide),if_neg (by decide),if_neg (by decide),if_pos (by decide),if_neg h]
theorem hd_at5 {p:Int} (hp:5≤p∧p≤6) (x o:UInt8) (t:Str):hdB (preS p++x :: o :: t)=some (p,o,x :: t):=by
 rcases (by omega:p=5∨p=6) with rfl | rfl <;> rfl
theorem hd_some {p:Int} (hp:0≤p∧p≤4) {o:UInt8} (t:Str) {x:En} (h:ratT p o.toNat=some x):hdB (preS p++o :: t)=some (p,o,t):=by
 have hx:=exP_of o.toNat_lt h
 have ne:∀ n:Nat,n<256→o.toNat≠n→o≠UInt8.ofNat n:=fun n hn hh e=>hh (by rw [e,UInt8.toNat_ofNat_of_lt' hn])
 refine hd_at hp o t (fun h0=>?_) (fun h3=>ne 203 (by decide) (hx.ind h3))
 obtain ⟨a,b,c,d⟩:=hx.main h0
 exact ⟨ne 203 (by decide) a,ne 221 (by decide) b,ne 237 (by decide) c,ne 253 (by decide) d⟩
theorem knd_of {p:Int} (hp:0≤p∧p≤6) {o:UInt8} (h:ratT p o.toNat=none) :
  (rkindT p o.toNat=2∧p≤4∧∃ p',pageT (preS p++[o])=some p'∧preS p'=preS p++[o]∧0≤p'∧p'≤6)∨
  ((rkindT p o.toNat=0∨rkindT p o.toNat=3∧p=2)∧(p≤4→∀ t,hdB (preS p++o :: t)=some (p,o,t))):=by
 have hlt:=o.toNat_lt
 have ho:o=UInt8.ofNat o.toNat:=by simp
 have hk:=knd_k ⟨p.toNat,by omega⟩ ⟨o.toNat,hlt⟩
 unfold kndB at hk
 simp only at hk
 rw [show ((p.toNat:Nat):Int)=p by omega,h] at hk
 simp only [Option.isSome_none,Bool.false_or,Bool.or_eq_true,Bool.and_eq_true,decide_eq_true_eq,beq_iff_eq] at hk
 have two:∀ q:Int,(q=0∧(o=203∨o=221∨o=237∨o=253))∨((q=3∨q=4)∧o=203)→q=p→(rkindT p o.toNat=2∧p≤4∧∃ p',pageT (preS p++[o])=some p'∧preS p'=preS p++[o]∧0≤p'∧p'≤6):=by
  intro q hq e
  subst e
  rcases hq with ⟨rfl,rfl | rfl | rfl | rfl⟩ | ⟨rfl | rfl,rfl⟩
  ·exact ⟨rfl,by decide,1,rfl,rfl,by decide,by decide⟩
  ·exact ⟨rfl,by decide,3,rfl,rfl,by decide,by decide⟩
  ·exact ⟨rfl,by decide,2,rfl,rfl,by decide,by decide⟩
  ·exact ⟨rfl,by decide,4,rfl,rfl,by decide,by decide⟩
  ·exact ⟨rfl,by decide,5,rfl,rfl,by decide,by decide⟩
  ·exact ⟨rfl,by decide,6,rfl,rfl,by decide,by decide⟩
 have on:∀ n:Nat,n<256→o.toNat=n→o=UInt8.ofNat n:=fun n hn e=>by rw [ho,e]
 by_cases hpre:(p=0∧(o=203∨o=221∨o=237∨o=253))∨((p=3∨p=4)∧o=203)
 ·exact .inl (two p hpre rfl)
 ·have hat:p≤4→∀ t,hdB (preS p++o :: t)=some (p,o,t):=fun h4 t=>hd_at ⟨hp.1,h4⟩ o t
   (fun h0=>⟨fun e=>hpre (.inl ⟨h0,.inl e⟩),fun e=>hpre (.inl ⟨h0,.inr (.inl e)⟩),fun e=>hpre (.inl ⟨h0,.inr (.inr (.inl e))⟩),fun e=>hpre (.inl ⟨h0,.inr (.inr (.inr e))⟩)⟩)
   (fun h3 e=>hpre (.inr ⟨h3,e⟩))
  refine .inr ⟨?_,hat⟩
  rcases hk with ((hk | ⟨hk,h2⟩) | ⟨h0,hk⟩) | ⟨h3,hk⟩
  ·exact .inl hk
  ·exact .inr ⟨hk,by omega⟩
  ·exfalso
   refine hpre (.inl ⟨by omega,?_⟩)
   rcases hk with ((hk | hk) | hk) | hk
   ·exact .inl (on 203 (by decide) hk)
   ·exact .inr (.inl (on 221 (by decide) hk))
   ·exact .inr (.inr (.inl (on 237 (by decide) hk)))
   ·exact .inr (.inr (.inr (on 253 (by decide) hk)))
  ·exfalso
   exact hpre (.inr ⟨by omega,on 203 (by decide) hk⟩)
theorem miss4 {p:Int} (hp:0≤p∧p≤4):itR (preS p)=iteO 4 (preS p)∧needR (preS p)=(preS p).length+1:=by
 rcases (by omega:p=0∨p=1∨p=2∨p=3∨p=4) with rfl | rfl | rfl | rfl | rfl <;> exact ⟨rfl,rfl⟩
theorem miss5 {p:Int} (hp:5≤p∧p≤6) {r:Str} (hr:r.length≤1):itR (preS p++r)=iteO 4 (preS p++r)∧needR (preS p++r)=4:=by
 match r,hr with
 | [],_=>rcases (by omega:p=5∨p=6) with rfl | rfl <;> exact ⟨rfl,rfl⟩
 | [x],_=>rcases (by omega:p=5∨p=6) with rfl | rfl <;> exact ⟨rfl,rfl⟩
 | _ :: _ :: _,h=>simp at h
theorem it_of {b:Str} {p:Int} {o:UInt8} {t:Str} (h:hdB b=some (p,o,t)):itR b=match ratT p o.toNat with
   | none=>if rkindT p o.toNat=0 then iteO 2 (b.take 1) else iteO 3 (b.take 2)
   | some x=>if b.length<sizeT p x.2.2.1 then iteO 4 b else ⟨1,b.take (sizeT p x.2.2.1),x.1,(fillV x.2.2.1 x.2.1 (numB x.2.2.1 t).1 (numB x.2.2.1 t).2).getD [],x.2.2.2⟩:=by
 unfold itR
 rw [h]
 try rfl
def mS (s0:Int×Int) (ex:Str) (b:Str) (k:Nat):Nat→Int×Int
 | 0=>s0
 | j+1=>stepL (ex.getD j 0) (b.drop (k+sumN ex j)) (mS s0 ex b k j)
theorem mS_succ (s0:Int×Int) {ex:Str} (b:Str) (k:Nat) {j:Nat} (hj:j<ex.length):mS s0 ex b k (j+1)=stepL ex[j] (b.drop (k+sumN ex j)) (mS s0 ex b k j):=by
 show stepL (ex.getD j 0) _ _=_
 rw [List.getD_eq_getElem?_getD,List.getElem?_eq_getElem hj]
 rfl
theorem mS_num {g:Int} {i:Nat} {ex:Str} (hx:ExP g i ex) (b:Str) (k:Nat):mS (0,0) ex b k ex.length=numB ex (b.drop k):=by
 rcases hx.lst with rfl | rfl | rfl | rfl | rfl | rfl
 ·rw [num_0];rfl
 ·rw [num_d];rfl
 ·rw [num_e];rfl
 ·rw [num_n];rfl
 ·rw [num_w];rfl
 ·rw [num_dn]
  show stepL 110 (b.drop (k+1)) (stepL 100 (b.drop (k+0)) (0,0))=_
  have e1:stepL 100 (b.drop (k+0)) (0,0)=(sgB ((b.drop k).getD 0 0),0):=by unfold stepL;rw [if_pos rfl];rfl
  rw [e1]
  unfold stepL
  rw [if_neg (by decide),if_neg (by decide),if_pos rfl]
  simp only [getD_drop,Nat.add_zero]
theorem sumN_all (ex:Str) {j:Nat} (h:j≤ex.length):sumN ex j≤sumN ex ex.length:=by
 have e:ex=ex.take j++ex.drop j:=(List.take_append_drop j ex).symm
 have h1:sumN ex ex.length=sumN ex j+((ex.drop j).map letN).sum:=by
  unfold sumN
  rw [List.take_length]
  conv=>lhs;rw [e]
  rw [List.map_append,List.sum_append]
 omega
theorem ex_let {g:Int} {i:Nat} {ex:Str} (hx:ExP g i ex) {j:Nat} (hj:j<ex.length):ex[j]=100∨ex[j]=101∨ex[j]=110∨ex[j]=119:=by
 have hm:=List.getElem_mem hj
 generalize ex[j]=c at hm ⊢
 rcases hx.lst with rfl | rfl | rfl | rfl | rfl | rfl
 ·cases hm
 ·exact .inl (List.mem_singleton.1 hm)
 ·exact .inr (.inl (List.mem_singleton.1 hm))
 ·exact .inr (.inr (.inl (List.mem_singleton.1 hm)))
 ·exact .inr (.inr (.inr (List.mem_singleton.1 hm)))
 ·rcases List.mem_cons.1 hm with h | h
  ·exact .inl h
  ·exact .inr (.inr (.inl (List.mem_singleton.1 h)))
theorem ex_len {g:Int} {i:Nat} {ex:Str} (hx:ExP g i ex):ex.length≤2:=by
 rcases hx.lst with rfl | rfl | rfl | rfl | rfl | rfl <;> decide
theorem pre_5 {p:Int} (h:5≤p∧p≤6):(preS p).length=2:=by
 rcases (by omega:p=5∨p=6) with rfl | rfl <;> rfl
end Go.Proofs.YtclhaejdjogfbaaGreatDoor
namespace Go.Proofs.YtclhaejdjogfbaaGreatDoor
open Go.RowKit Go.Shelf
theorem cellsB_one (ys:Str):∀ u∈cellsB ys,u.oneCell'=true:=fun u hu=>by
 unfold cellsB at hu
 obtain ⟨b,-,rfl⟩:=List.mem_map.1 hu
 rfl
theorem cellsB_append (xs ys:Str):cellsB (xs++ys)=cellsB xs++cellsB ys:=by unfold cellsB;rw [List.map_append]
theorem BytesAt.news {w:World} {A:Option Addr} {ys:Str} (h:BytesAt w A ys):ys.length=0∨∃ a,A=some a∧∀ j u,(cellsB ys)[j]?=some u→w.cell? (a.add j)=some u:=by
 rcases h with rfl | ⟨b,off,rfl,hc⟩
 ·exact .inl rfl
 ·refine .inr ⟨_,rfl,fun j u hu=>?_⟩
  have hadd:(⟨b,off,none⟩:Addr).add j=⟨b,off+j,none⟩:=by unfold Addr.add;split <;> simp_all
  rw [hadd]
  unfold cellsB at hu
  rw [List.getElem?_map] at hu
  cases hy:ys[j]? with
  | none=>rw [hy] at hu;cases hu
  | some y=>
   rw [hy] at hu
   obtain ⟨hj,hy2⟩:=List.getElem?_eq_some_iff.1 hy
   obtain rfl:=Option.some.inj hu
   rw [hc j hj,hy2]
theorem run_appBs (w:World) (B:Nat) (v:Value) (xs:Str) (h:TOwnB w B v xs) (A:Option Addr) (c:Nat) (ys:Str) (hP:BytesAt w A ys) (hB:B≤w.heap.size) (hs:xs.length+ys.length≤100000) :
  ∃ v' w',(Builtin.append_ #[25,25] 25 #[v,.slice A ys.length c]).run Tryz.prog w=.ok v' w'∧TOwnB w' B v' (xs++ys)∧Below B w w'∧w.grownBy w' v.ownBlock:=by
 obtain ⟨i0,hi,hz0,hz1,hz2⟩:=info_parts tinfo_u8
 obtain ⟨v',w',k1,k2,k3⟩:=run_append_src w B 25 25 5 i0 _ 1 1 Tryz.underlying25 hi hz0 hz1 hz2 rfl (by decide) v xs.length (cellsB xs) h A ys.length c (cellsB ys)
  (by unfold cellsB;simp) hP.news (cellsB_one ys) (by unfold maxLen;omega) (by omega) hB
 refine ⟨v',w',k1,?_,(Below.refl B w).grown k3 hB fun k hk=>(World.ownsRow.lt h k hk).1,k3⟩
 unfold TOwnB
 rw [cellsB_append,List.length_append]
 exact k2
theorem wpList_appBs {wr:World} {B:Nat} {v:Value} {xs:Str} (h:TOwnB wr B v xs) {A:Option Addr} {c:Nat} {ys:Str} (hP:BytesAt wr A ys) (hB:B≤wr.heap.size) (hs:xs.length+ys.length≤100000) {ops:Array Oper} {rest:List Oper} {o:Oper} {a:Act} {Q:Exit→Act→World→Prop} (hgd:o.guard=none) (s x:Operand)
  (ho:o.op=.call {callee:=.builtin .append,args:=#[s,x],argTypes:=#[25,25]}) (hty:o.type=25) (hsv:a.eval s=v) (m:Nat) (hm:ys.length=m) (hx:a.eval x=.slice A m c) (n:Nat) (hn:xs.length+m=n)
  (k:∀ A' cap' w1,TOwnB w1 B (.slice A' n cap') (xs++ys)→Below B wr w1→wpList Tryz.prog ops Q rest (a.put o.dst (.slice A' n cap')) w1):wpList Tryz.prog ops Q (o :: rest) a wr:=by
 subst hm hn
 obtain ⟨v',w',k1,k2,k3,-⟩:=run_appBs wr B v xs h A c ys hP hB hs
 obtain ⟨A',cap',rfl,-⟩:=k2.bytes
 rw [List.length_append] at k1 k2
 exact wpList_run_append k1 hgd s x ho hty hsv hx (k A' cap' w' k2 k3)
theorem bytes_new1 (w:World) (a:UInt8):BytesAt (w.alloc (.cells #[.int .u8 (a.toNat:Int)] 5)) (some ⟨w.heap.size,0,none⟩) [a]:=by
 refine .inr ⟨_,_,rfl,fun j hj=>?_⟩
 obtain rfl:j=0:=by simp at hj;omega
 rw [C9 (heap_alloc_new w _)]
 rfl
theorem bytes_new2 (w:World) (a b:UInt8):BytesAt (w.alloc (.cells #[.int .u8 (a.toNat:Int),.int .u8 (b.toNat:Int)] 5)) (some ⟨w.heap.size,0,none⟩) [a,b]:=by
 refine .inr ⟨_,_,rfl,fun j hj=>?_⟩
 rw [C9 (heap_alloc_new w _)]
 have:j=0∨j=1:=by simp at hj;omega
 rcases this with rfl | rfl <;> rfl
theorem townB_nil (w:World) (n:Nat):TOwnB w n (.slice none 0 0) []:=World.ownsRow_nil _ _ _ _
theorem TOwnB.lift {w:World} {n m:Nat} {v:Value} {xs:Str} (h:TOwnB w n v xs) (k:m≤n):TOwnB w m v xs:=row_mono h k
end Go.Proofs.YtclhaejdjogfbaaGreatDoor
namespace Go.Proofs.YtclhaejdjogfbaaGreatDoor
open Go.RowKit Go.Shelf
attribute [local go_sem] Oper.semAt_some
theorem u8_beq (a b:UInt8):((a.toNat:Int) == (b.toNat:Int))=decide (a=b):=by
 by_cases h:a=b
 ·subst h
  rw [decide_eq_true rfl]
  exact beq_self_eq_true _
 ·rw [decide_eq_false h]
  exact beq_eq_false_iff_ne.2 fun e=>h (UInt8.toNat_inj.1 (by omega))
theorem rhas_any (ex:Str) (hx:ex.length≤1000) (c:UInt8) (w:World) :
  Calls Tryz.prog 86 #[.string (sB ex),.int .u8 (c.toNat:Int)] w fun e w'=>e=.returned (.bool (ex.contains c))∧w'=w:=by
 obtain ⟨s,hs⟩:=N9 (sB ex)
 have hz:s.size=ex.length:=by rw [← hs,sB_size]
 have hat:∀ k (h:k<s.size) (h':k<ex.length),s[k]=ex[k]:=fun k h h'=>by subst hs;exact sB_at ex k h h'
 have HAT:=J9 hat
 rw [hs]
 obtain ⟨l,hl⟩:=N9 (ex.length)
 have HL:=J9 hl
 rw [hl] at hz hx
 obtain ⟨x,hx9⟩:=N9 ((c.toNat:Int))
 have HX:=J9 hx9
 rw [hx9]
 clear hs hat hl hx9
 go_enter Tryz.func86,Tryz.ntmps86
 go_wp2
 go_loopw [5] (fun i wr=>∃ j:Nat,j≤l∧i=.int .i64 j∧Hid (∀ k (h:k<ex.length),k<j→ex[k]≠c)∧Hid (wr=w)) (fun i _=>l - (intOf i).toNat)
 case atStart=>exact ⟨0,Nat.zero_le _,rfl,fun k h h2=>by omega,rfl⟩
 case round=>
  obtain ⟨j,hj,rfl,R,B⟩:=hrel
  by_cases hlt:j<l
  ·have hlt':j<s.size:=by omega
   have hj1:j<ex.length:=by rw [HL.out];exact hlt
   have e1:=HAT.out j hlt' hj1
   have hb:((s[j].toNat:Int) == x)=decide (ex[j]=c):=by rw [← HX.out,e1];exact u8_beq _ _
   obtain ⟨tt,htt⟩:=N9 (decide (ex[j]=c))
   rw [htt] at hb
   have hj1k:j≤1000:=by omega
   cases tt with
   | true=>
    have T:Hid (true=ex.contains c):=by
     show true=_
     exact (List.contains_iff_mem.2 (of_decide_eq_true htt ▸ List.getElem_mem hj1)).symm
    clear htt e1 hj1 R
    go_wp2
    go_ret
    exact ⟨ret_bool T.out,B.out⟩
   | false=>
    have R2:Hid (∀ k (h:k<ex.length),k<j+1→ex[k]≠c):=fun k h h2=>by
     by_cases e:k=j
     ·subst e;exact of_decide_eq_false htt
     ·exact R.out k h (by omega)
    clear htt e1 hj1 R
    go_wp2
    go_roundw
    case rel=>exact ⟨j+1,by omega,by go_num,R2.out,B.out⟩
    case measure=>simp [intOf];omega
  ·have T:Hid (false=ex.contains c):=by
    show false=_
    refine (Bool.eq_false_iff.2 fun h=>?_).symm
    obtain ⟨k,hk,e⟩:=List.getElem_of_mem (List.contains_iff_mem.1 h)
    exact R.out k hk (by have:=HL.out;omega) e
   clear R
   go_wp2
   go_ret
   exact ⟨ret_bool T.out,B.out⟩
theorem rwithin_any (c:UInt8) (n:Int) (w:World) :
  Calls Tryz.prog 51 #[.int .u8 (c.toNat:Int),.int .i64 n] w fun e w'=>e=.returned (.bool (withR c n))∧w'=w:=by
 have e1:((c.toNat:Int) == 100)=decide (c=100):=u8_beq c 100
 have e2:((c.toNat:Int) == 101)=decide (c=101):=u8_beq c 101
 have e3:((c.toNat:Int) == 110)=decide (c=110):=u8_beq c 110
 obtain ⟨x,hx⟩:=N9 ((c.toNat:Int))
 rw [hx] at e1 e2 e3 ⊢
 clear hx
 have cmp:∀ a b:Int,((a≤n∧n≤b)∨(a≤n∧¬n≤b)∨¬a≤n):=fun a b=>by omega
 by_cases h1:c=100
 ·subst h1
  have T:Hid (withR 100 n=(decide (-128≤n)&&decide (n≤127))):=rfl
  rw [decide_eq_true rfl] at e1
  clear e2 e3
  rcases cmp (-128) 127 with ⟨g1,g2⟩ | ⟨g1,g2⟩ | g1
  all_goals
   go_enter Tryz.func51,Tryz.ntmps51
   go_wp2
   go_ret
   exact ⟨ret_bool (by rw [T.out];simp_all <;> (intros;omega)),rfl⟩
 ·rw [decide_eq_false h1] at e1
  by_cases h2:c=101
  ·subst h2
   have T:Hid (withR 101 n=(decide (-128≤n)&&decide (n≤127))):=rfl
   rw [decide_eq_true rfl] at e2
   clear e3 h1
   rcases cmp (-128) 127 with ⟨g1,g2⟩ | ⟨g1,g2⟩ | g1
   all_goals
    go_enter Tryz.func51,Tryz.ntmps51
    go_wp2
    go_ret
    exact ⟨ret_bool (by rw [T.out];simp_all <;> (intros;omega)),rfl⟩
  ·rw [decide_eq_false h2] at e2
   by_cases h3:c=110
   ·subst h3
    have T:Hid (withR 110 n=(decide (0≤n)&&decide (n≤255))):=rfl
    rw [decide_eq_true rfl] at e3
    clear h1 h2
    rcases cmp 0 255 with ⟨g1,g2⟩ | ⟨g1,g2⟩ | g1
    all_goals
     go_enter Tryz.func51,Tryz.ntmps51
     go_wp2
     go_ret
     exact ⟨ret_bool (by rw [T.out];simp_all <;> (intros;omega)),rfl⟩
   ·have T:Hid (withR c n=(decide (0≤n)&&decide (n≤65535))):=by show _=_;unfold withR;rw [if_neg (by rintro (h | h) <;> contradiction),if_neg h3]
    rw [decide_eq_false h3] at e3
    clear h1 h2 h3
    rcases cmp 0 65535 with ⟨g1,g2⟩ | ⟨g1,g2⟩ | g1
    all_goals
     go_enter Tryz.func51,Tryz.ntmps51
     go_wp2
     go_ret
     exact ⟨ret_bool (by rw [T.out];simp_all <;> (intros;omega)),rfl⟩
end Go.Proofs.YtclhaejdjogfbaaGreatDoor
namespace Go.Proofs.YtclhaejdjogfbaaGreatDoor
open Go.RowKit Go.Shelf
attribute [local go_sem] Oper.semAt_some
theorem varKB_eq (t:Tr):varKB t=((t.1 == 6)||(t.1 == 7)):=rfl
theorem drop_any {L:List Tr} {k:Nat} (h:∀ j (hj:j<L.length),k<j→varKB L[j]=false):(L.drop (k+1)).any varKB=false:=by
 rw [List.any_eq_false]
 intro x hx
 obtain ⟨i,hi,rfl⟩:=List.getElem_of_mem hx
 rw [List.getElem_drop]
 rw [h _ (by simp at hi;omega) (by omega)]
 decide
theorem drop_yes {L:List Tr} {k j:Nat} (hj:j<L.length) (hk:k<j) (h:varKB L[j]=true):(L.drop (k+1)).any varKB=true:=by
 rw [List.any_eq_true]
 refine ⟨L[j],?_,h⟩
 have:L[j]=(L.drop (k+1))[j - (k+1)]'(by simp;omega):=by rw [List.getElem_drop];congr 1;omega
 rw [this]
 exact List.getElem_mem _
def lastR (ex:Str):UInt8:=if ex.contains 110=true then 110 else if ex.contains 119=true then 119 else 0
theorem letR_a {ex:Str} {L:List Tr} {k:Nat} (hk:k<L.length) (h:L[k].1=5) (hc:ex.contains 100=true):letR ex L k=100:=by
 unfold letR;rw [if_pos ⟨by rw [List.getD_eq_getElem?_getD,List.getElem?_eq_getElem hk];exact h,hc⟩]
theorem letR_b {ex:Str} {L:List Tr} {k:Nat} (hk:k<L.length) (h1:¬(L[k].1=5∧ex.contains 100=true)) (h:L[k].1=10) (hc:ex.contains 101=true):letR ex L k=101:=by
 have e:(L.getD k tr0)=L[k]:=by rw [List.getD_eq_getElem?_getD,List.getElem?_eq_getElem hk];rfl
 unfold letR;rw [e,if_neg h1,if_pos ⟨h,hc⟩]
theorem letR_c {ex:Str} {L:List Tr} {k:Nat} (hk:k<L.length) (h1:¬(L[k].1=5∧ex.contains 100=true)) (h2:¬(L[k].1=10∧ex.contains 101=true)) (h:varKB L[k]=false):letR ex L k=0:=by
 have e:(L.getD k tr0)=L[k]:=by rw [List.getD_eq_getElem?_getD,List.getElem?_eq_getElem hk];rfl
 unfold letR;rw [e,if_neg h1,if_neg h2,if_pos h]
theorem letR_d {ex:Str} {L:List Tr} {k:Nat} (hk:k<L.length) (h1:¬(L[k].1=5∧ex.contains 100=true)) (h2:¬(L[k].1=10∧ex.contains 101=true)) (h:varKB L[k]=true) (hd:(L.drop (k+1)).any varKB=true):letR ex L k=0:=by
 have e:(L.getD k tr0)=L[k]:=by rw [List.getD_eq_getElem?_getD,List.getElem?_eq_getElem hk];rfl
 unfold letR;rw [e,if_neg h1,if_neg h2,if_neg (by rw [h];decide),if_pos hd]
theorem letR_e {ex:Str} {L:List Tr} {k:Nat} (hk:k<L.length) (h1:¬(L[k].1=5∧ex.contains 100=true)) (h2:¬(L[k].1=10∧ex.contains 101=true)) (h:varKB L[k]=true) (hd:(L.drop (k+1)).any varKB=false):letR ex L k=lastR ex:=by
 have e:(L.getD k tr0)=L[k]:=by rw [List.getD_eq_getElem?_getD,List.getElem?_eq_getElem hk];rfl
 unfold letR;rw [e,if_neg h1,if_neg h2,if_neg (by rw [h];decide),if_neg (by rw [hd];decide)];rfl
def RetLet (w:World) (c:UInt8) (e:Ending) (w':World):Prop:=e=.returned (.int .u8 (c.toNat:Int))∧Below w.heap.size w w'
end Go.Proofs.YtclhaejdjogfbaaGreatDoor
namespace Go.Proofs.YtclhaejdjogfbaaGreatDoor
open Go.RowKit Go.Shelf
attribute [local go_sem] Oper.semAt_some
theorem letter_any (page op:Int) (m:Str) (A:Option Addr) (cap l:Nat) (L:List Tr) (hl:L.length=l) (hL:l≤1000) (ex:Str) (hx:ex.length≤1000) (al:Bool) (k:Nat) (hk:k<l) (w:World) (H:OpsP w A L) :
  Calls Tryz.prog 50 #[enV page op m (.slice A l cap) ex al,.int .i64 k] w (RetLet w (letR ex L k)):=by
 have hk1:k<L.length:=by omega
 have rh:=fun c w'=>rhas_any ex hx c w'
 unfold enV
 obtain ⟨s,hs⟩:=N9 (sB ex)
 rw [hs] at rh ⊢
 clear hs
 obtain ⟨b,off,rfl,hb,p0,p1,p2⟩:=H.at_ hk1
 obtain ⟨⟨t0,t1,t2⟩,ht⟩:=N9 (L[k])
 rw [ht] at p0 p1 p2
 simp only at p0 p1 p2
 obtain ⟨w0,hw0⟩:=N9 (w.alloc (.cells #[.int .i64 page,.int .u8 op,.string (sB m),.slice (some ⟨b,off,none⟩) l cap,.string s,.bool al] 63))
 obtain ⟨n,hn⟩:=N9 (w.heap.size)
 have b0:Below w.heap.size w w0:=by rw [← hw0];exact up1 _ _
 have c0:w0.heap[n]?=some (.cells #[.int .i64 page,.int .u8 op,.string (sB m),.slice (some ⟨b,off,none⟩) l cap,.string s,.bool al] 63 (0,0)):=by rw [← hw0,← hn];exact World.alloc_heap_new w _
 have z0:w0.heap.size=n+1:=by rw [← hw0,← hn];simp
 obtain ⟨w1,hw1⟩:=N9 (w0.alloc (.cells #[.int .i64 t0,.int .i64 t1,.int .i64 t2] 56))
 have b1:Below w0.heap.size w0 w1:=by rw [← hw1];exact up1 _ _
 have c1:w1.heap[n+1]?=some (.cells #[.int .i64 t0,.int .i64 t1,.int .i64 t2] 56 (0,0)):=by rw [← hw1,← z0];exact World.alloc_heap_new w0 _
 have bb:Below w.heap.size w w1:=b0.trans (b1.mono b0.size)
 have d0:=(b1.block n (by omega)).trans c0
 have BB:Hid (Below n w w1):=by rw [← hn];exact bb
 have HN:=J9 hn
 have PL:=J9 (H.below bb)
 have q0:=(b0.cell (p:=⟨b,off+k*3,none⟩) hb).trans p0
 have q1:=(b0.cell (p:=⟨b,off+k*3+1,none⟩) hb).trans p1
 have q2:=(b0.cell (p:=⟨b,off+k*3+2,none⟩) hb).trans p2
 have k3:=C9 c0 3
 have hkc:(k:Int)<(l:Int):=by omega
 have LA:=J9 (letR_a (ex:=ex) hk1)
 have LB:=J9 (letR_b (ex:=ex) hk1)
 have LC:=J9 (letR_c (ex:=ex) hk1)
 have LD:=J9 (letR_d (ex:=ex) hk1)
 have LE:=J9 (letR_e (ex:=ex) hk1)
 rw [ht] at LA LB LC LD LE
 simp only [varKB_eq] at LA LB LC LD LE
 have HL:=J9 hl
 have DY:=J9 (fun j (hj:j<L.length)=>drop_yes (k:=k) hj)
 have DA:=J9 (drop_any (L:=L) (k:=k))
 have V3:=J9 (C9 d0 3)
 have V4:=J9 (C9 d0 4)
 obtain ⟨h100,e100⟩:=N9 (ex.contains 100)
 obtain ⟨h101,e101⟩:=N9 (ex.contains 101)
 obtain ⟨h110,e110⟩:=N9 (ex.contains 110)
 obtain ⟨h119,e119⟩:=N9 (ex.contains 119)
 have R1:=J9 (rh 100 w1)
 have R2:=J9 (rh 101 w1)
 have R3:=J9 (rh 110 w1)
 have R4:=J9 (rh 119 w1)
 rw [e100] at R1 LA LB LC LD LE
 rw [e101] at R2 LB LC LD LE
 rw [e110] at R3
 rw [e119] at R4
 have LR:Hid (lastR ex=if h110=true then 110 else if h119=true then 119 else 0):=by show _=_;unfold lastR;rw [e110,e119]
 have u0:=C9 c1 0
 have u4:=C9 d0 4
 clear H b0 c0 b1 bb d0 rh ht hl e100 e101 e110 e119 hx hb p0 p1 p2 hk1
 obtain ⟨r,hr⟩:=N9 (letR ex L k)
 rw [hr] at LA LB LC LD LE ⊢
 clear hr
 go_enter Tryz.func50,Tryz.ntmps50
 go_upto_region 2 with fail
 clear k3 q0 q1 q2 hw1 hw0
 by_cases k5:t0=5
 ·subst k5
  go_wp2_with fail
  refine R1.out.mono ?_
  rintro e w' ⟨rfl,rfl⟩
  cases h100 with
  | true=>
   obtain rfl:=LA.out (by first | trivial | rfl) (by first | trivial | rfl)
   go_wp2
   go_ret
   exact ⟨rfl,by rw [HN.out];exact BB.out⟩
  | false=>
   obtain rfl:=LC.out (by simp) (by simp) (by decide)
   go_wp2
   go_ret
   exact ⟨rfl,by rw [HN.out];exact BB.out⟩
 ·have e5:(t0 == 5)=false:=beq_eq_false_iff_ne.2 k5
  by_cases k10:t0=10
  ·subst k10
   go_wp2_with fail
   refine R2.out.mono ?_
   rintro e w' ⟨rfl,rfl⟩
   cases h101 with
   | true=>
    obtain rfl:=LB.out (by simp) (by first | trivial | rfl) (by first | trivial | rfl)
    go_wp2
    go_ret
    exact ⟨rfl,by rw [HN.out];exact BB.out⟩
   | false=>
    obtain rfl:=LC.out (by simp) (by simp) (by decide)
    go_wp2
    go_ret
    exact ⟨rfl,by rw [HN.out];exact BB.out⟩
  ·have e10:(t0 == 10)=false:=beq_eq_false_iff_ne.2 k10
   by_cases k67:t0=6∨t0=7
   ·have K5:=J9 k5
    have K10:=J9 k10
    clear k5 k10 e5 e10
    rcases k67 with rfl | rfl
    ·skip
     go_wp2
     go_loopw [6] (fun i wr=>∃ j:Nat,k+1≤j∧j≤l∧i=.int .i64 j∧wr=w1∧Hid (∀ i (hi:i<L.length),k<i→i<j→varKB L[i]=false)) (fun i _=>l - (intOf i).toNat)
     case atStart=>exact ⟨k+1,Nat.le_refl _,by omega,by go_num,rfl,fun i hi h1 h2=>by omega⟩
     case round=>
      obtain ⟨j,hkj,hj,rfl,rfl,RR⟩:=hrel
      have w3:=V3.out
      by_cases hlt:j<l
      ·have hj1:j<L.length:=by have:=HL.out;omega
       obtain ⟨b2,o2,hA2,-,g0,g1,g2⟩:=PL.out.at_ hj1
       simp only [Option.some.injEq,Addr.mk.injEq,and_true] at hA2
       obtain ⟨rfl,rfl⟩:=hA2
       have hjc:(j:Int)<(l:Int):=by omega
       have DYj:=J9 (DY.out j hj1 (by omega))
       have RN:Hid (varKB L[j]=false→∀ i (hi:i<L.length),k<i→i<j+1→varKB L[i]=false):=fun h i hi h1 h2=>by
        by_cases e:i=j
        ·subst e;exact h
        ·exact RR.out i hi h1 (by omega)
       obtain ⟨⟨y0,y1,y2⟩,hy⟩:=N9 (L[j])
       rw [hy] at g0 DYj RN
       simp only [varKB_eq] at DYj RN
       simp only at g0
       clear g1 g2 hy hj1 RR
       by_cases y6:y0=6∨y0=7
       ·obtain rfl:=LD.out (fun h=>by cases h.1) (fun h=>by cases h.1) (by decide) (DYj.out (by rcases y6 with rfl | rfl <;> decide))
        rcases y6 with rfl | rfl
        all_goals
         go_wp2
         go_ret
         exact ⟨rfl,by rw [HN.out];exact BB.out⟩
       ·have n6:¬y0=6:=fun h=>y6 (.inl h)
        have n7:¬y0=7:=fun h=>y6 (.inr h)
        have m6:(y0 == 6)=false:=beq_eq_false_iff_ne.2 n6
        have m7:(y0 == 7)=false:=beq_eq_false_iff_ne.2 n7
        have R9:=J9 (RN.out (by rw [m6,m7];rfl))
        clear y6 RN DYj
        go_wp2
        go_roundw
        case rel=>exact ⟨j+1,by omega,by omega,by go_num,by first | rfl | trivial,R9.out⟩
        case measure=>simp [intOf];omega
      ·obtain rfl:j=l:=by omega
       have DD:Hid (r=lastR ex):=LE.out (fun h=>by cases h.1) (fun h=>by cases h.1) (by decide) (DA.out fun i hi h1=>RR.out i hi h1 (by have:=HL.out;omega))
       have v4:=V4.out
       have DD2:Hid (r=if h110=true then 110 else if h119=true then 119 else 0):=by show r=_;rw [DD.out,LR.out]
       clear RR DD
       go_wp2_with fail
       refine R3.out.mono ?_
       rintro e w' ⟨rfl,rfl⟩
       cases h110 with
       | true=>
        obtain rfl:r=110:=DD2.out
        go_wp2
        go_ret
        exact ⟨rfl,by rw [HN.out];exact BB.out⟩
       | false=>
        go_wp2_with fail
        refine R4.out.mono ?_
        rintro e w' ⟨rfl,rfl⟩
        cases h119 with
        | true=>
         obtain rfl:r=119:=DD2.out
         go_wp2
         go_ret
         exact ⟨rfl,by rw [HN.out];exact BB.out⟩
        | false=>
         obtain rfl:r=0:=DD2.out
         go_wp2
         go_ret
         exact ⟨rfl,by rw [HN.out];exact BB.out⟩
    ·skip
     go_wp2
     go_loopw [6] (fun i wr=>∃ j:Nat,k+1≤j∧j≤l∧i=.int .i64 j∧wr=w1∧Hid (∀ i (hi:i<L.length),k<i→i<j→varKB L[i]=false)) (fun i _=>l - (intOf i).toNat)
     case atStart=>exact ⟨k+1,Nat.le_refl _,by omega,by go_num,rfl,fun i hi h1 h2=>by omega⟩
     case round=>
      obtain ⟨j,hkj,hj,rfl,rfl,RR⟩:=hrel
      have w3:=V3.out
      by_cases hlt:j<l
      ·have hj1:j<L.length:=by have:=HL.out;omega
       obtain ⟨b2,o2,hA2,-,g0,g1,g2⟩:=PL.out.at_ hj1
       simp only [Option.some.injEq,Addr.mk.injEq,and_true] at hA2
       obtain ⟨rfl,rfl⟩:=hA2
       have hjc:(j:Int)<(l:Int):=by omega
       have DYj:=J9 (DY.out j hj1 (by omega))
       have RN:Hid (varKB L[j]=false→∀ i (hi:i<L.length),k<i→i<j+1→varKB L[i]=false):=fun h i hi h1 h2=>by
        by_cases e:i=j
        ·subst e;exact h
        ·exact RR.out i hi h1 (by omega)
       obtain ⟨⟨y0,y1,y2⟩,hy⟩:=N9 (L[j])
       rw [hy] at g0 DYj RN
       simp only [varKB_eq] at DYj RN
       simp only at g0
       clear g1 g2 hy hj1 RR
       by_cases y6:y0=6∨y0=7
       ·obtain rfl:=LD.out (fun h=>by cases h.1) (fun h=>by cases h.1) (by decide) (DYj.out (by rcases y6 with rfl | rfl <;> decide))
        rcases y6 with rfl | rfl
        all_goals
         go_wp2
         go_ret
         exact ⟨rfl,by rw [HN.out];exact BB.out⟩
       ·have n6:¬y0=6:=fun h=>y6 (.inl h)
        have n7:¬y0=7:=fun h=>y6 (.inr h)
        have m6:(y0 == 6)=false:=beq_eq_false_iff_ne.2 n6
        have m7:(y0 == 7)=false:=beq_eq_false_iff_ne.2 n7
        have R9:=J9 (RN.out (by rw [m6,m7];rfl))
        clear y6 RN DYj
        go_wp2
        go_roundw
        case rel=>exact ⟨j+1,by omega,by omega,by go_num,by first | rfl | trivial,R9.out⟩
        case measure=>simp [intOf];omega
      ·obtain rfl:j=l:=by omega
       have DD:Hid (r=lastR ex):=LE.out (fun h=>by cases h.1) (fun h=>by cases h.1) (by decide) (DA.out fun i hi h1=>RR.out i hi h1 (by have:=HL.out;omega))
       have v4:=V4.out
       have DD2:Hid (r=if h110=true then 110 else if h119=true then 119 else 0):=by show r=_;rw [DD.out,LR.out]
       clear RR DD
       go_wp2_with fail
       refine R3.out.mono ?_
       rintro e w' ⟨rfl,rfl⟩
       cases h110 with
       | true=>
        obtain rfl:r=110:=DD2.out
        go_wp2
        go_ret
        exact ⟨rfl,by rw [HN.out];exact BB.out⟩
       | false=>
        go_wp2_with fail
        refine R4.out.mono ?_
        rintro e w' ⟨rfl,rfl⟩
        cases h119 with
        | true=>
         obtain rfl:r=119:=DD2.out
         go_wp2
         go_ret
         exact ⟨rfl,by rw [HN.out];exact BB.out⟩
        | false=>
         obtain rfl:r=0:=DD2.out
         go_wp2
         go_ret
         exact ⟨rfl,by rw [HN.out];exact BB.out⟩
   ·have e6:(t0 == 6)=false:=beq_eq_false_iff_ne.2 (fun h=>k67 (.inl h))
    have e7:(t0 == 7)=false:=beq_eq_false_iff_ne.2 (fun h=>k67 (.inr h))
    obtain rfl:=LC.out (fun h=>k5 h.1) (fun h=>k10 h.1) (by rw [e6,e7];rfl)
    have n6:¬t0=6:=fun h=>k67 (.inl h)
    have n7:¬t0=7:=fun h=>k67 (.inr h)
    have m6:(t0 != 6)=true:=bne_iff_ne.2 n6
    have m7:(t0 != 7)=true:=bne_iff_ne.2 n7
    clear k5 k10 k67 e6 e7
    go_wp2
    go_ret
    exact ⟨rfl,by rw [HN.out];exact BB.out⟩
end Go.Proofs.YtclhaejdjogfbaaGreatDoor
namespace Go.Proofs.YtclhaejdjogfbaaGreatDoor
open Go.RowKit Go.Shelf
attribute [local go_sem] Oper.semAt_some
def RetRFill (w:World) (m:Str) (o:Option (List Tr)) (e:Ending) (w':World):Prop:=match o with
 | some L2=>∃ v,e=.returned (.tuple #[.agg #[.string (sB m),v],.bool true])∧OwnT w' w.heap.size v L2∧Below w.heap.size w w'
 | none=>e=.returned (.tuple #[.agg #[.string ⟨#[]⟩,.slice none 0 0],.bool false])∧Below w.heap.size w w'
theorem fillR_no {ex:Str} {L:List Tr} {d n:Int} {k:Nat} (hk:k<L.length) (h:okR ex L d n k=false):fillR ex L d n=none:=by
 unfold fillR
 refine if_neg fun hc=>?_
 have:=List.all_eq_true.1 hc.1 k (List.mem_range.2 hk)
 rw [h] at this
 cases this
theorem fillR_yes {ex:Str} {L:List Tr} {d n:Int} (h:∀ k,k<L.length→okR ex L d n k=true) (h1:useD ex L d L.length=true) (h2:useN ex L n L.length=true):fillR ex L d n=some ((List.range L.length).map (stR ex L d n)):=by
 unfold fillR
 exact if_pos ⟨List.all_eq_true.2 fun k hk=>h k (List.mem_range.1 hk),h1,h2⟩
theorem fillR_noD {ex:Str} {L:List Tr} {d n:Int} (h1:useD ex L d L.length=false):fillR ex L d n=none:=by
 unfold fillR
 refine if_neg fun hc=>?_
 rw [h1] at hc
 exact absurd hc.2.1 (by simp)
theorem fillR_noN {ex:Str} {L:List Tr} {d n:Int} (h1:useN ex L n L.length=false):fillR ex L d n=none:=by
 unfold fillR
 refine if_neg fun hc=>?_
 rw [h1] at hc
 exact absurd hc.2.2 (by simp)
theorem useD_step (ex:Str) (L:List Tr) (d:Int) (k:Nat):useD ex L d (k+1)=(useD ex L d k||letR ex L k == 100):=by
 unfold useD
 rw [List.range_succ,List.any_append]
 simp [Bool.or_assoc]
theorem useN_step (ex:Str) (L:List Tr) (n:Int) (k:Nat):useN ex L n (k+1)=(useN ex L n k||(letR ex L k != 100&&letR ex L k != 0)):=by
 unfold useN
 rw [List.range_succ,List.any_append]
 simp [Bool.or_assoc]
theorem map_step (ex:Str) (L:List Tr) (d n:Int) (k:Nat):(List.range (k+1)).map (stR ex L d n)=(List.range k).map (stR ex L d n)++[stR ex L d n k]:=by
 rw [List.range_succ,List.map_append]
 rfl
theorem fill_start (w:World) (page op:Int) (m:Str) (v:Value) (ex:Str) (al:Bool) (n:Nat) (hn:w.heap.size=n):∃ w0,((w.alloc (.cells #[.int .i64 page,.int .u8 op,.string (sB m),v,.string (sB ex),.bool al] 63)).alloc (.cells #[.string ⟨#[]⟩,.slice none 0 0] 24))=w0∧
  w0.heap[n]?=some (.cells #[.int .i64 page,.int .u8 op,.string (sB m),v,.string (sB ex),.bool al] 63 (0,0))∧Rz w0 (n+1)∧Below w.heap.size w w0∧w0.heap.size=n+2:=by
 subst hn
 refine ⟨_,rfl,(Below.heap_alloc _ _ _ (by simp)).trans (World.alloc_heap_new w _),?_,((Below.refl _ w).alloc (Nat.le_refl _) _).alloc (by simp) _,by simp⟩
 have h:=World.alloc_heap_new (w.alloc (.cells #[.int .i64 page,.int .u8 op,.string (sB m),v,.string (sB ex),.bool al] 63)) (.cells #[.string ⟨#[]⟩,.slice none 0 0] 24)
 rwa [World.size_alloc] at h
theorem rfill_any (page op:Int) (m:Str) (A:Option Addr) (cap l:Nat) (L:List Tr) (hl:L.length=l) (hL:l≤1000) (ex:Str) (hx:ex.length≤1000) (al:Bool) (d q:Int) (w:World) (H:OpsP w A L) :
  Calls Tryz.prog 30 #[enV page op m (.slice A l cap) ex al,.int .i64 d,.int .i64 q] w (RetRFill w m (fillR ex L d q)):=by
 unfold enV
 obtain ⟨n,hn⟩:=N9 (w.heap.size)
 obtain ⟨w0,hw0,c0,zz,b0,z0⟩:=fill_start w page op m (.slice A l cap) ex al n hn
 have BB:Hid (Below n w w0):=by rw [← hn];exact b0
 have HN:=J9 hn
 have HL:=J9 hl
 have Z0:=J9 z0
 have PH:=J9 H
 have C0:=J9 c0
 have R0:=J9 zz
 have k0:=C9 c0 0
 have k1:=C9 c0 1
 have k2:=C9 c0 2
 have k3:=C9 c0 3
 have k4:=C9 c0 4
 have k5:=C9 c0 5
 clear H b0 c0 z0 zz hl
 go_enter Tryz.func30,Tryz.ntmps30
 go_upto_region 1 with fail
 clear hw0
 go_upto_region 2 with fail
 obtain ⟨w3,hw3⟩:=N9 (w0.alloc (.cells #[.string (sB m),.slice none 0 0] 24))
 obtain ⟨b,hb⟩:=N9 (w0.heap.size)
 have y2:Below w0.heap.size w0 w3:=by rw [← hw3];exact (Below.refl _ _).alloc (Nat.le_refl _) _
 have RI:Hid (Ri w3 b (sB m) (.slice none 0 0)):=by rw [← hw3,← hb];exact heap_alloc_new w0 _
 have hb2:n+1<b:=by have:=Z0.out;omega
 have ZS:Hid (w3.heap.size=b+1):=by show _=_;rw [← hw3,← hb];simp
 have B3:Hid (Below n w w3):=BB.out.trans (y2.mono (by have:=Z0.out;omega))
 have C3:=J9 ((y2.block n (by have:=Z0.out;omega)).trans C0.out)
 have R3:Hid (Rz w3 (n+1)):=(y2.block (n+1) (by have:=Z0.out;omega)).trans R0.out
 rw [hw3,hb]
 clear hw3 hb y2 k0 k1 k2 k3 k4 k5 BB Z0 C0 R0
 have U0:Hid ((d == 0)=useD ex L d 0):=by show _=_;unfold useD;simp
 have U1:Hid ((q == 0)=useN ex L q 0):=by show _=_;unfold useN;simp
 obtain ⟨ud,hud⟩:=N9 ((d == 0))
 obtain ⟨un,hun⟩:=N9 ((q == 0))
 rw [hud] at U0
 rw [hun] at U1
 have hO0:Hid (OwnT w3 (b+1) (.slice none 0 0) ((List.range 0).map (stR ex L d q))):=World.ownsRow_nil _ _ _ _
 go_wp2
 clear hud hun
 go_loopw [9,10,11] (fun x y i wr=>∃ (j:Nat) (A4:Option Addr) (cap4:Nat) (p r:Bool),j≤l∧i=.int .i64 j∧x=.bool p∧y=.bool r∧Hid (p=useD ex L d j)∧Hid (r=useN ex L q j)∧Hid (∀ k,k<j→okR ex L d q k=true)∧Hid (Ri wr b (sB m) (.slice A4 j cap4))∧Hid (OwnT wr (b+1) (.slice A4 j cap4) ((List.range j).map (stR ex L d q)))∧Hid (Below b w3 wr)∧Hid (b+1≤wr.heap.size)) (fun _ _ i _=>l - (intOf i).toNat)
 case atStart=>exact ⟨0,none,0,ud,un,Nat.zero_le _,rfl,rfl,rfl,U0.out,U1.out,fun k h=>by omega,RI.out,hO0.out,Below.refl _ _,Nat.le_of_eq ZS.out.symm⟩
 case round=>
  clear RI hO0 U0 U1
  obtain ⟨j,A4,cap4,p,r,hj,rfl,rfl,rfl,UD,UN,OK,hri,hO,hB,hS⟩:=hrel
  have cw:=(hB.out.block n (by omega)).trans C3.out
  have CW:=J9 cw
  have RW:Hid (Rz wr (n+1)):=(hB.out.block (n+1) (by omega)).trans R3.out
  have BW:Hid (Below n w wr):=B3.out.trans (hB.out.mono (by omega))
  have PW:Hid (OpsP wr A L):=PH.out.below (by rw [HN.out];exact BW.out)
  have k0:=C9 cw 0
  have k1:=C9 cw 1
  have k2:=C9 cw 2
  have k3:=C9 cw 3
  have k4:=C9 cw 4
  have k5:=C9 cw 5
  clear cw
  by_cases hlt:j<l
  ·have hjL:j<L.length:=by have:=HL.out;omega
   obtain ⟨b1,o1,rfl,-,p0,p1,p2⟩:=PW.out.at_ hjL
   have g2:L.getD j tr0=L[j]:=by rw [List.getD_eq_getElem?_getD,List.getElem?_eq_getElem hjL];rfl
   rw [← g2] at p0 p1 p2
   have HJL:=J9 hjL
   obtain ⟨⟨y0,y1,y2⟩,hy⟩:=N9 (L.getD j tr0)
   have HY:=J9 hy
   rw [hy] at p0 p1 p2
   simp only at p0 p1 p2
   have hal:Below wr.heap.size wr (wr.alloc (.cells #[.int .i64 y0,.int .i64 y1,.int .i64 y2] 56)):=(Below.refl _ _).alloc (Nat.le_refl _) _
   have HAL:=J9 hal
   have bx:(wr.alloc (.cells #[.int .i64 y0,.int .i64 y1,.int .i64 y2] 56)).heap[wr.heap.size]?=some (.cells #[.int .i64 y0,.int .i64 y1,.int .i64 y2] 56 (0,0)):=heap_alloc_new wr _
   have BX:=J9 bx
   have lt:=fun w' h=>letter_any page op m (some ⟨b1,o1,none⟩) cap l L HL.out hL ex hx al j hlt w' h
   simp only [enV] at lt
   have LT:=J9 lt
   clear hy hjL g2 hal bx lt
   go_upto_region 8 with fail
   obtain ⟨g,hg⟩:=N9 (wr.heap.size)
   obtain ⟨w4,hw4⟩:=N9 (wr.alloc (.cells #[.int .i64 y0,.int .i64 y1,.int .i64 y2] 56))
   rw [hw4,hg]
   rw [hw4,hg] at BX
   rw [hw4] at HAL
   have c4:=(HAL.out.block n (by have:=hS.out;omega)).trans CW.out
   have C4:=J9 c4
   have RW4:Hid (Rz w4 (n+1)):=(HAL.out.block (n+1) (by have:=hS.out;omega)).trans RW.out
   have P4:=J9 (PW.out.below HAL.out)
   have hri4:Hid (Ri w4 b (sB m) (.slice A4 j cap4)):=(HAL.out.block b (by have:=hS.out;omega)).trans hri.out
   have hO4:=J9 (hO.out.below HAL.out)
   have hB4:Hid (Below b w3 w4):=hB.out.trans (HAL.out.mono (by have:=hS.out;omega))
   have hS4:Hid (b+1≤g∧g<w4.heap.size):=by
    have h1:=hS.out
    exact ⟨by omega,(Array.getElem?_eq_some_iff.1 BX.out).1⟩
   have GB:Hid (∀ g',(Value.slice A4 j cap4).ownBlock=some g'→g'≠g):=fun g' hg'=>by have:=(World.ownsRow.lt hO.out g' hg').2;omega
   have k0:=C9 c4 0
   have k1:=C9 c4 1
   have k2:=C9 c4 2
   have k3:=C9 c4 3
   have k4:=C9 c4 4
   have k5:=C9 c4 5
   clear hw4 c4 p0 p1 p2 hg HAL CW RW BW PW hri hO hB hS
   go_wp2_with fail
   refine (LT.out w4 P4.out).mono ?_
   rintro e w5 ⟨rfl,hb⟩
   have RW5:Hid (Rz w5 (n+1)):=(hb.block (n+1) (by have:=hS4.out;omega)).trans RW4.out
   have hri5:Hid (Ri w5 b (sB m) (.slice A4 j cap4)):=(hb.block b (by have:=hS4.out;omega)).trans hri4.out
   have hO5:=J9 (hO4.out.below hb)
   have hB5:Hid (Below b w3 w5):=hB4.out.trans (hb.mono (by have:=hS4.out;omega))
   have bx5:Hid (w5.heap[g]?=some (.cells #[.int .i64 y0,.int .i64 y1,.int .i64 y2] 56 (0,0))):=(hb.block g hS4.out.2).trans BX.out
   have hS5:Hid (b+1≤g∧g<w5.heap.size):=⟨hS4.out.1,Nat.lt_of_lt_of_le hS4.out.2 hb.size⟩
   have hgb:g≠b:=by have:=hS5.out.1;omega
   have hgn:g≠n+1:=by have:=hS5.out.1;omega
   have q0:=C9 bx5.out 0
   have q1:=C9 bx5.out 1
   have q2:=C9 bx5.out 2
   have hll:((List.range j).map (stR ex L d q)).length=j:=by rw [List.length_map,List.length_range]
   have HLL:=J9 hll
   clear hb k0 k1 k2 k3 k4 k5 LT P4 RW4 hri4 hO4 hB4 BX hS4 C4 hll
   rcases letR_cases ex L j with hv9 | hv9 | hv9 | hv9 | hv9
   rotate_left 4
   ·have e9:letR ex L j=0:=hv9
    rw [hv9]
    simp only [show ((0:UInt8).toNat:Int)=0 from rfl]
    have ST:Hid (stR ex L d q j=(y0,y1,y2)):=by show stR ex L d q j=_;unfold stR;rw [if_neg (by rw [e9];decide),if_pos e9,HY.out]
    have OKJ:Hid (okR ex L d q j=true):=by show okR ex L d q j=_;unfold okR;rw [e9];rfl
    have UD2:Hid (p=useD ex L d (j+1)):=by show _=_;rw [useD_step,e9];rw [← UD.out];simp
    have UN2:Hid (r=useN ex L q (j+1)):=by show _=_;rw [useN_step,e9];rw [← UN.out];simp
    have hri6:=hri5
    have hO6:=hO5
    have hB6:=hB5
    have hS6:Hid (b+1≤w5.heap.size):=by have:=hS5.out;show _≤_;omega
    have OK2:Hid (∀ k,k<j+1→okR ex L d q k=true):=fun k hk=>by
     by_cases e:k=j
     ·rw [e];exact OKJ.out
     ·exact OK.out k (by omega)
    have W3:Hid ((List.range (j+1)).map (stR ex L d q)=(List.range j).map (stR ex L d q)++[(y0,y1,y2)]):=by show _=_;rw [map_step,ST.out]
    clear hri5 hO5 hB5 RW5
    obtain ⟨-,r1⟩:=hri6.out.cells
    have BK:Hid (∀ w8,Below (b+1) w5 w8→Ri w8 b (sB m) (.slice A4 j cap4)∧Below b w3 w8∧b+1≤w8.heap.size):=fun w8 hB8=>⟨(hB8.block b (by omega)).trans hri6.out,hB6.out.trans (hB8.mono (by omega)),Nat.le_trans hS6.out hB8.size⟩
    go_wp2_with (at_builtin;refine wpList_appT hO6.out hS6.out rfl _ _ rfl rfl w5.heap.size (by simp) rfl (y0,y1,y2) j HLL.out (by omega) ?_;intro A4' cap4' w8 hO8 hB8;obtain ⟨hri8,hB9,hS9⟩:=BK.out w8 hB8;rw [← W3.out] at hO8;obtain ⟨r2,r3⟩:=hri8.cells;have r4:w8.frozen? ⟨b,1,none⟩=false:=Lib.frozen_of_heap hri8 1;have hO8:=J9 hO8;have hri8:=J9 hri8;have hB9:=J9 hB9;have hS9:=J9 hS9;clear hB8 r2)
    have hri9:Hid (Ri (w8.setCell ⟨b,1,none⟩ (.slice A4' (j+1) cap4')) b (sB m) (.slice A4' (j+1) cap4')):=heap_setCell_same w8 b 1 _ _ _ hri8.out
    have hO9:Hid (OwnT (w8.setCell ⟨b,1,none⟩ (.slice A4' (j+1) cap4')) (b+1) (.slice A4' (j+1) cap4') ((List.range (j+1)).map (stR ex L d q))):=row_set hO8.out (p:=⟨b,1,none⟩) (by simp) _
    have hBa:Hid (Below b w3 (w8.setCell ⟨b,1,none⟩ (.slice A4' (j+1) cap4'))):=hB9.out.setCell (p:=⟨b,1,none⟩) (Nat.le_refl _) _
    have hSa:Hid (b+1≤(w8.setCell ⟨b,1,none⟩ (.slice A4' (j+1) cap4')).heap.size):=by have h1:=hS9.out;simp [Hid] at h1 ⊢;omega
    go_roundw
    case rel=>exact ⟨j+1,A4',cap4',_,_,by omega,by go_num,rfl,rfl,UD2.out,UN2.out,OK2.out,hri9.out,hO9.out,hBa.out,hSa.out⟩
    case measure=>simp [intOf];omega
   ·have e9:letR ex L j=100:=hv9
    rw [hv9]
    simp only [show ((100:UInt8).toNat:Int)=100 from rfl]
    have fz:w5.frozen? ⟨g,2,none⟩=false:=Lib.frozen_of_heap bx5.out 2
    have WI:=J9 (fun w'=>rwithin_any 100 d w')
    simp only [show ((100:UInt8).toNat:Int)=100 from rfl] at WI
    have ST:Hid (stR ex L d q j=(y0,y1,d)):=by show stR ex L d q j=_;unfold stR;rw [if_pos e9,HY.out]
    have OKJ:Hid (okR ex L d q j=withR 100 d):=by show okR ex L d q j=_;unfold okR;rw [ST.out,e9];simp
    have UD2:Hid (true=useD ex L d (j+1)):=by show _=_;rw [useD_step,e9];simp
    have UN2:Hid (r=useN ex L q (j+1)):=by show _=_;rw [useN_step,e9];rw [← UN.out];simp
    obtain ⟨o,ho⟩:=N9 (withR 100 d)
    rw [ho] at OKJ WI
    have hri6:Hid (Ri (w5.setCell ⟨g,2,none⟩ (.int .i64 d)) b (sB m) (.slice A4 j cap4)):=(heap_setCell_other w5 ⟨g,2,none⟩ b _ hgb.symm).trans hri5.out
    have hO6:Hid (OwnT (w5.setCell ⟨g,2,none⟩ (.int .i64 d)) (b+1) (.slice A4 j cap4) ((List.range j).map (stR ex L d q))):=row_set_ne hO5.out (p:=⟨g,2,none⟩) GB.out _
    have hB6:Hid (Below b w3 (w5.setCell ⟨g,2,none⟩ (.int .i64 d))):=hB5.out.setCell (p:=⟨g,2,none⟩) (by have:=hS5.out.1;simp;omega) _
    have RW6:Hid (Rz (w5.setCell ⟨g,2,none⟩ (.int .i64 d)) (n+1)):=(heap_setCell_other w5 ⟨g,2,none⟩ (n+1) _ hgn.symm).trans RW5.out
    have hS6:Hid (b+1≤(w5.setCell ⟨g,2,none⟩ (.int .i64 d)).heap.size):=by have:=hS5.out;simp [Hid];omega
    clear ho hri5 hO5 hB5 RW5
    go_wp2_with fail
    refine (WI.out _).mono ?_
    rintro e wx ⟨rfl,rfl⟩
    cases o with
    | false=>
     have B6:Hid (Below n w (w5.setCell ⟨g,2,none⟩ (.int .i64 d))):=B3.out.trans (hB6.out.mono (by omega))
     have NO2:=J9 (fillR_no HJL.out OKJ.out)
     clear q0 q1 q2 WI hri6 hO6 hB6
     have NO:Hid (fillR ex L d q=none):=NO2.out
     obtain ⟨z0,z1,z2,z3⟩:=RW6.out.cells
     have F:Hid (RetRFill w m (fillR ex L d q) (.returned (.tuple #[.agg #[.string ⟨#[]⟩,.slice none 0 0],.bool false])) (((w5.setCell ⟨g,2,none⟩ (.int .i64 d)).setCell ⟨n+1,0,none⟩ (.string ⟨#[]⟩)).setCell ⟨n+1,1,none⟩ (.slice none 0 0))):=by
      show RetRFill w m (fillR ex L d q) _ _
      rw [NO.out]
      refine ⟨rfl,?_⟩
      rw [HN.out]
      exact (B6.out.setCell (p:=⟨n+1,0,none⟩) (by simp) _).setCell (p:=⟨n+1,1,none⟩) (by simp) _
     have E:=J9 (RW6.out.set ⟨#[]⟩ (.slice none 0 0))
     go_wp2
     obtain ⟨e0,e1⟩:=E.out
     obtain ⟨w6,hw6⟩:=N9 ((((w5.setCell ⟨g,2,none⟩ (.int .i64 d)).setCell ⟨n+1,0,none⟩ (.string ⟨#[]⟩)).setCell ⟨n+1,1,none⟩ (.slice none 0 0)))
     rw [hw6] at F e0 e1 ⊢
     clear hw6 z0 z1 z2 z3
     refine bodyPost_ret (v:=.tuple #[.agg #[.string ⟨#[]⟩,.slice none 0 0],.bool false]) ?_ rfl F.out
     simp [results,Tryz.results30,go_sem,e0,e1]
    | true=>
     have OK2:Hid (∀ k,k<j+1→okR ex L d q k=true):=fun k hk=>by
      by_cases e:k=j
      ·rw [e];exact OKJ.out
      ·exact OK.out k (by omega)
     have W3:Hid ((List.range (j+1)).map (stR ex L d q)=(List.range j).map (stR ex L d q)++[(y0,y1,d)]):=by show _=_;rw [map_step,ST.out]
     clear WI
     obtain ⟨-,r1⟩:=hri6.out.cells
     have BK:Hid (∀ w8,Below (b+1) (w5.setCell ⟨g,2,none⟩ (.int .i64 d)) w8→Ri w8 b (sB m) (.slice A4 j cap4)∧Below b w3 w8∧b+1≤w8.heap.size):=fun w8 hB8=>⟨(hB8.block b (by omega)).trans hri6.out,hB6.out.trans (hB8.mono (by omega)),Nat.le_trans hS6.out hB8.size⟩
     go_wp2_with (at_builtin;refine wpList_appT hO6.out hS6.out rfl _ _ rfl rfl w5.heap.size (by simp) rfl (y0,y1,d) j HLL.out (by omega) ?_;intro A4' cap4' w8 hO8 hB8;obtain ⟨hri8,hB9,hS9⟩:=BK.out w8 hB8;rw [← W3.out] at hO8;obtain ⟨r2,r3⟩:=hri8.cells;have r4:w8.frozen? ⟨b,1,none⟩=false:=Lib.frozen_of_heap hri8 1;have hO8:=J9 hO8;have hri8:=J9 hri8;have hB9:=J9 hB9;have hS9:=J9 hS9;clear hB8 r2)
     have hri9:Hid (Ri (w8.setCell ⟨b,1,none⟩ (.slice A4' (j+1) cap4')) b (sB m) (.slice A4' (j+1) cap4')):=heap_setCell_same w8 b 1 _ _ _ hri8.out
     have hO9:Hid (OwnT (w8.setCell ⟨b,1,none⟩ (.slice A4' (j+1) cap4')) (b+1) (.slice A4' (j+1) cap4') ((List.range (j+1)).map (stR ex L d q))):=row_set hO8.out (p:=⟨b,1,none⟩) (by simp) _
     have hBa:Hid (Below b w3 (w8.setCell ⟨b,1,none⟩ (.slice A4' (j+1) cap4'))):=hB9.out.setCell (p:=⟨b,1,none⟩) (Nat.le_refl _) _
     have hSa:Hid (b+1≤(w8.setCell ⟨b,1,none⟩ (.slice A4' (j+1) cap4')).heap.size):=by have h1:=hS9.out;simp [Hid] at h1 ⊢;omega
     go_roundw
     case rel=>exact ⟨j+1,A4',cap4',_,_,by omega,by go_num,rfl,rfl,UD2.out,UN2.out,OK2.out,hri9.out,hO9.out,hBa.out,hSa.out⟩
     case measure=>simp [intOf];omega
   all_goals
    have e9:=hv9
    have WI:=fun w'=>rwithin_any (letR ex L j) q w'
    have fz:w5.frozen? ⟨g,2,none⟩=false:=Lib.frozen_of_heap bx5.out 2
    have ST:Hid (stR ex L d q j=(y0,y1,q)):=by show stR ex L d q j=_;unfold stR;rw [if_neg (by rw [e9];decide),if_neg (by rw [e9];decide),HY.out]
    have OKJ:Hid (okR ex L d q j=withR (letR ex L j) q):=by show okR ex L d q j=_;unfold okR;rw [ST.out,e9];simp
    have UD2:Hid (p=useD ex L d (j+1)):=by show _=_;rw [useD_step,e9];rw [← UD.out];simp
    have UN2:Hid (true=useN ex L q (j+1)):=by show _=_;rw [useN_step,e9];simp
    obtain ⟨o,ho⟩:=N9 (withR (letR ex L j) q)
    rw [ho] at OKJ WI
    rw [hv9] at WI ⊢
    simp only [UInt8.reduceToNat,Int.cast_ofNat_Int] at WI ⊢
    have WI:=J9 WI
    have hri6:Hid (Ri (w5.setCell ⟨g,2,none⟩ (.int .i64 q)) b (sB m) (.slice A4 j cap4)):=(heap_setCell_other w5 ⟨g,2,none⟩ b _ hgb.symm).trans hri5.out
    have hO6:Hid (OwnT (w5.setCell ⟨g,2,none⟩ (.int .i64 q)) (b+1) (.slice A4 j cap4) ((List.range j).map (stR ex L d q))):=row_set_ne hO5.out (p:=⟨g,2,none⟩) GB.out _
    have hB6:Hid (Below b w3 (w5.setCell ⟨g,2,none⟩ (.int .i64 q))):=hB5.out.setCell (p:=⟨g,2,none⟩) (by have:=hS5.out.1;simp;omega) _
    have RW6:Hid (Rz (w5.setCell ⟨g,2,none⟩ (.int .i64 q)) (n+1)):=(heap_setCell_other w5 ⟨g,2,none⟩ (n+1) _ hgn.symm).trans RW5.out
    have hS6:Hid (b+1≤(w5.setCell ⟨g,2,none⟩ (.int .i64 q)).heap.size):=by have:=hS5.out;simp [Hid];omega
    clear ho hri5 hO5 hB5 RW5
    go_wp2_with fail
    refine (WI.out _).mono ?_
    rintro e wx ⟨rfl,rfl⟩
    cases o with
    | false=>
     have B6:Hid (Below n w (w5.setCell ⟨g,2,none⟩ (.int .i64 q))):=B3.out.trans (hB6.out.mono (by omega))
     have NO2:=J9 (fillR_no HJL.out OKJ.out)
     clear q0 q1 q2 WI hri6 hO6 hB6
     have NO:Hid (fillR ex L d q=none):=NO2.out
     obtain ⟨z0,z1,z2,z3⟩:=RW6.out.cells
     have F:Hid (RetRFill w m (fillR ex L d q) (.returned (.tuple #[.agg #[.string ⟨#[]⟩,.slice none 0 0],.bool false])) (((w5.setCell ⟨g,2,none⟩ (.int .i64 q)).setCell ⟨n+1,0,none⟩ (.string ⟨#[]⟩)).setCell ⟨n+1,1,none⟩ (.slice none 0 0))):=by
      show RetRFill w m (fillR ex L d q) _ _
      rw [NO.out]
      refine ⟨rfl,?_⟩
      rw [HN.out]
      exact (B6.out.setCell (p:=⟨n+1,0,none⟩) (by simp) _).setCell (p:=⟨n+1,1,none⟩) (by simp) _
     have E:=J9 (RW6.out.set ⟨#[]⟩ (.slice none 0 0))
     go_wp2
     obtain ⟨e0,e1⟩:=E.out
     obtain ⟨w6,hw6⟩:=N9 ((((w5.setCell ⟨g,2,none⟩ (.int .i64 q)).setCell ⟨n+1,0,none⟩ (.string ⟨#[]⟩)).setCell ⟨n+1,1,none⟩ (.slice none 0 0)))
     rw [hw6] at F e0 e1 ⊢
     clear hw6 z0 z1 z2 z3
     refine bodyPost_ret (v:=.tuple #[.agg #[.string ⟨#[]⟩,.slice none 0 0],.bool false]) ?_ rfl F.out
     simp [results,Tryz.results30,go_sem,e0,e1]
    | true=>
     have OK2:Hid (∀ k,k<j+1→okR ex L d q k=true):=fun k hk=>by
      by_cases e:k=j
      ·rw [e];exact OKJ.out
      ·exact OK.out k (by omega)
     have W3:Hid ((List.range (j+1)).map (stR ex L d q)=(List.range j).map (stR ex L d q)++[(y0,y1,q)]):=by show _=_;rw [map_step,ST.out]
     clear WI
     obtain ⟨-,r1⟩:=hri6.out.cells
     have BK:Hid (∀ w8,Below (b+1) (w5.setCell ⟨g,2,none⟩ (.int .i64 q)) w8→Ri w8 b (sB m) (.slice A4 j cap4)∧Below b w3 w8∧b+1≤w8.heap.size):=fun w8 hB8=>⟨(hB8.block b (by omega)).trans hri6.out,hB6.out.trans (hB8.mono (by omega)),Nat.le_trans hS6.out hB8.size⟩
     go_wp2_with (at_builtin;refine wpList_appT hO6.out hS6.out rfl _ _ rfl rfl w5.heap.size (by simp) rfl (y0,y1,q) j HLL.out (by omega) ?_;intro A4' cap4' w8 hO8 hB8;obtain ⟨hri8,hB9,hS9⟩:=BK.out w8 hB8;rw [← W3.out] at hO8;obtain ⟨r2,r3⟩:=hri8.cells;have r4:w8.frozen? ⟨b,1,none⟩=false:=Lib.frozen_of_heap hri8 1;have hO8:=J9 hO8;have hri8:=J9 hri8;have hB9:=J9 hB9;have hS9:=J9 hS9;clear hB8 r2)
     have hri9:Hid (Ri (w8.setCell ⟨b,1,none⟩ (.slice A4' (j+1) cap4')) b (sB m) (.slice A4' (j+1) cap4')):=heap_setCell_same w8 b 1 _ _ _ hri8.out
     have hO9:Hid (OwnT (w8.setCell ⟨b,1,none⟩ (.slice A4' (j+1) cap4')) (b+1) (.slice A4' (j+1) cap4') ((List.range (j+1)).map (stR ex L d q))):=row_set hO8.out (p:=⟨b,1,none⟩) (by simp) _
     have hBa:Hid (Below b w3 (w8.setCell ⟨b,1,none⟩ (.slice A4' (j+1) cap4'))):=hB9.out.setCell (p:=⟨b,1,none⟩) (Nat.le_refl _) _
     have hSa:Hid (b+1≤(w8.setCell ⟨b,1,none⟩ (.slice A4' (j+1) cap4')).heap.size):=by have h1:=hS9.out;simp [Hid] at h1 ⊢;omega
     go_roundw
     case rel=>exact ⟨j+1,A4',cap4',_,_,by omega,by go_num,rfl,rfl,UD2.out,UN2.out,OK2.out,hri9.out,hO9.out,hBa.out,hSa.out⟩
     case measure=>simp [intOf];omega
  ·obtain rfl:j=l:=by omega
   have hw:=hO.out
   have OKA:Hid (∀ k,k<L.length→okR ex L d q k=true):=fun k hk=>OK.out k (by have:=HL.out;omega)
   obtain ⟨c0,c1⟩:=hri.out.cells
   have UD3:Hid (p=useD ex L d L.length):=by show _=_;rw [HL.out];exact UD.out
   have UN3:Hid (r=useN ex L q L.length):=by show _=_;rw [HL.out];exact UN.out
   have hO7:=hO
   clear hw UD UN OK
   cases p with
   | false=>
    have NO2:=J9 (fillR_noD (n:=q) UD3.out.symm)
    clear UD3 UN3 c0 c1 hO hri hO7 OKA
    have NO:Hid (fillR ex L d q=none):=NO2.out
    obtain ⟨z0,z1,z2,z3⟩:=RW.out.cells
    have F:Hid (RetRFill w m (fillR ex L d q) (.returned (.tuple #[.agg #[.string ⟨#[]⟩,.slice none 0 0],.bool false])) ((wr.setCell ⟨n+1,0,none⟩ (.string ⟨#[]⟩)).setCell ⟨n+1,1,none⟩ (.slice none 0 0))):=by
     show RetRFill w m (fillR ex L d q) _ _
     rw [NO.out]
     refine ⟨rfl,?_⟩
     rw [HN.out]
     exact (BW.out.setCell (p:=⟨n+1,0,none⟩) (by simp) _).setCell (p:=⟨n+1,1,none⟩) (by simp) _
    have E:=J9 (RW.out.set ⟨#[]⟩ (.slice none 0 0))
    go_wp2
    obtain ⟨e0,e1⟩:=E.out
    obtain ⟨w6,hw6⟩:=N9 (((wr.setCell ⟨n+1,0,none⟩ (.string ⟨#[]⟩)).setCell ⟨n+1,1,none⟩ (.slice none 0 0)))
    rw [hw6] at F e0 e1 ⊢
    clear hw6 z0 z1 z2 z3
    refine bodyPost_ret (v:=.tuple #[.agg #[.string ⟨#[]⟩,.slice none 0 0],.bool false]) ?_ rfl F.out
    simp [results,Tryz.results30,go_sem,e0,e1]
   | true=>
    cases r with
    | false=>
     have NO2:=J9 (fillR_noN (d:=d) UN3.out.symm)
     clear UD3 UN3 c0 c1 hO hri hO7 OKA
     have NO:Hid (fillR ex L d q=none):=NO2.out
     obtain ⟨z0,z1,z2,z3⟩:=RW.out.cells
     have F:Hid (RetRFill w m (fillR ex L d q) (.returned (.tuple #[.agg #[.string ⟨#[]⟩,.slice none 0 0],.bool false])) ((wr.setCell ⟨n+1,0,none⟩ (.string ⟨#[]⟩)).setCell ⟨n+1,1,none⟩ (.slice none 0 0))):=by
      show RetRFill w m (fillR ex L d q) _ _
      rw [NO.out]
      refine ⟨rfl,?_⟩
      rw [HN.out]
      exact (BW.out.setCell (p:=⟨n+1,0,none⟩) (by simp) _).setCell (p:=⟨n+1,1,none⟩) (by simp) _
     have E:=J9 (RW.out.set ⟨#[]⟩ (.slice none 0 0))
     go_wp2
     obtain ⟨e0,e1⟩:=E.out
     obtain ⟨w6,hw6⟩:=N9 (((wr.setCell ⟨n+1,0,none⟩ (.string ⟨#[]⟩)).setCell ⟨n+1,1,none⟩ (.slice none 0 0)))
     rw [hw6] at F e0 e1 ⊢
     clear hw6 z0 z1 z2 z3
     refine bodyPost_ret (v:=.tuple #[.agg #[.string ⟨#[]⟩,.slice none 0 0],.bool false]) ?_ rfl F.out
     simp [results,Tryz.results30,go_sem,e0,e1]
    | true=>
     have YES:=J9 (fillR_yes OKA.out UD3.out.symm UN3.out.symm)
     have F:Hid (RetRFill w m (fillR ex L d q) (.returned (.tuple #[.agg #[.string (sB m),.slice A4 j cap4],.bool true])) ((wr.setCell ⟨n+1,0,none⟩ (.string (sB m))).setCell ⟨n+1,1,none⟩ (.slice A4 j cap4))):=by
      show RetRFill w m (fillR ex L d q) _ _
      rw [YES.out,HL.out]
      refine ⟨_,rfl,?_,?_⟩
      ·rw [HN.out]
       exact row_mono (row_set (row_set hO7.out (p:=⟨n+1,0,none⟩) (by simp;omega) _) (p:=⟨n+1,1,none⟩) (by simp;omega) _) (by omega)
      ·rw [HN.out]
       exact (BW.out.setCell (p:=⟨n+1,0,none⟩) (by simp) _).setCell (p:=⟨n+1,1,none⟩) (by simp) _
     obtain ⟨z0,z1,z2,z3⟩:=RW.out.cells
     have E:=J9 (RW.out.set (sB m) (.slice A4 j cap4))
     clear UD3 UN3 hO hri hO7 OKA YES
     go_wp2
     obtain ⟨e0,e1⟩:=E.out
     obtain ⟨w6,hw6⟩:=N9 (((wr.setCell ⟨n+1,0,none⟩ (.string (sB m))).setCell ⟨n+1,1,none⟩ (.slice A4 j cap4)))
     rw [hw6] at F e0 e1 ⊢
     clear hw6 z0 z1 z2 z3 c0 c1
     refine bodyPost_ret (v:=.tuple #[.agg #[.string (sB m),.slice A4 j cap4],.bool true]) ?_ rfl F.out
     simp [results,Tryz.results30,go_sem,e0,e1]
end Go.Proofs.YtclhaejdjogfbaaGreatDoor
