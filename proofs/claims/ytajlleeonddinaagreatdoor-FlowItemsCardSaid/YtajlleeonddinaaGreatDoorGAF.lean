/-
  SeB, Fr, FmD, SeVa, StW, SeC, OpC.
-/
import Derived.Test.YtajlleeonddinaaGreatDoorGAE
import Derived.RangeFuncBox
import Derived.Deep.DeepCutAuto
import Derived.Laws.EntriesVeiled
import Derived.Below
import Derived.Lib.Hide
import Derived.Lib.Builder
import Derived.RangeFuncRecord
import Derived.Test.YtajlleeonddinaaGreatDoorGAB
import Derived.Shelf.Abstract
import Derived.Shelf.RegionOpen
import Derived.WalkKit
import Derived.TacticsIn
import Derived.TacticsInMore
import Derived.OwnWalkIn
import Derived.Deep.Cut
import Derived.LoopNIn
import Derived.LoopIn
import Derived.Laws.Tables
import Derived.Deep.WholeRow
set_option linter.all false
set_option maxRecDepth 100000
set_option maxHeartbeats 4000000
namespace Go.Proofs.YtajlleeonddinaaGreatDoor
open Go.RowKit
def KsP (w:World) (A:Option Addr) (L:List Int):Prop:=L=[]∨∃ b off,A=some ⟨b,off,none⟩∧∀ k (h:k<L.length),w.cell? ⟨b,off+k,none⟩=some (.int .i64 L[k])
theorem KsP.below {w w':World} {A:Option Addr} {L:List Int} (h:KsP w A L) (hb:Below w.heap.size w w'):KsP w' A L:=by
 rcases h with rfl | ⟨b,off,rfl,hc⟩
 ·exact .inl rfl
 ·exact .inr ⟨b,off,rfl,fun k hk=>(hb.cell (World.block_lt_of_cell? w _ (hc k hk))).trans (hc k hk)⟩
theorem KsP.at_ {w:World} {A:Option Addr} {L:List Int} (h:KsP w A L) {k:Nat} (hk:k<L.length):∃ b off,A=some ⟨b,off,none⟩∧w.cell? ⟨b,off+k,none⟩=some (.int .i64 L[k]):=by
 rcases h with rfl | ⟨b,off,rfl,hc⟩
 ·simp at hk
 ·exact ⟨b,off,rfl,hc k hk⟩
theorem indexI_any (A:Option Addr) (c n:Nat) (L:List Int) (hn:L.length=n) (hL:n≤1000) (x:Int) (w:World) (H:KsP w A L) :
  Calls Tryz.prog 46 #[.slice A n c,.int .i64 x] w fun e w'=>(∃ i:Int,e=.returned (.int .i64 i)∧decide (0≤i)=decide (x∈L))∧w'=w:=by
 have X:=Lib.hid H
 have HN:=Lib.hid hn
 clear H hn
 go_enter Tryz.func46,Tryz.ntmps46
 go_wp2
 go_loopw [8] (fun i wr=>∃ j:Nat,j≤n∧i=.int .i64 j∧Hid (∀ k,k<j→∀ (a:k<L.length),L[k]≠x)∧Hid (wr=w)) (fun i _=>n - (intOf i).toNat)
 case atStart=>exact ⟨0,Nat.zero_le _,rfl,fun k h=>by omega,rfl⟩
 case round=>
  obtain ⟨j,hj,rfl,R,B⟩:=hrel
  by_cases hlt:j<n
  ·have hj1:j<L.length:=by have:=HN.out;omega
   obtain ⟨b1,o1,hA1,p0⟩:=X.out.at_ hj1
   rw [← B.out] at p0
   subst hA1
   by_cases he:L[j]=x
   ·have T:Hid (x∈L):=he ▸ List.getElem_mem hj1
    have he':=he.symm
    rw [he] at p0
    clear he he' hj1 R
    go_wp2
    go_ret
    exact ⟨⟨_,rfl,by rw [decide_eq_true T.out];exact decide_eq_true (by omega)⟩,B.out⟩
   ·have R2:Hid (∀ k,k<j+1→∀ (a:k<L.length),L[k]≠x):=fun k hk a=>by
     by_cases e:k=j
     ·subst e;exact he
     ·exact R.out k (by omega) a
    obtain ⟨y,hy⟩:∃ y,L[j]=y:=⟨_,rfl⟩
    rw [hy] at p0 he
    have hne:(x == y)=false:=beq_eq_false_iff_ne.2 fun e=>he e.symm
    clear hy he hj1 R
    go_wp2
    go_roundw
    case rel=>exact ⟨j+1,by omega,by go_num,R2.out,B.out⟩
    case measure=>simp [intOf];omega
  ·have T:Hid (x∉L):=fun hm=>by
    obtain ⟨k,hk,he⟩:=List.getElem_of_mem hm
    exact R.out k (by have:=HN.out;omega) hk he
   clear R
   go_wp2
   go_ret
   exact ⟨⟨_,rfl,by rw [decide_eq_false T.out];rfl⟩,B.out⟩
theorem containsI_any (A:Option Addr) (c n:Nat) (L:List Int) (hn:L.length=n) (hL:n≤1000) (x:Int) (w:World) (H:KsP w A L) :
  Calls Tryz.prog 25 #[.slice A n c,.int .i64 x] w fun e w'=>e=.returned (.bool (decide (x∈L)))∧w'=w:=by
 have IX:=Lib.hid (indexI_any A c n L hn hL x w H)
 obtain ⟨q,hq⟩:∃ q,decide (x∈L)=q:=⟨_,rfl⟩
 rw [hq] at IX ⊢
 clear H hq hn
 go_enter Tryz.func25,Tryz.ntmps25
 go_wp2_with fail
 refine IX.out.mono ?_
 rintro e w1 ⟨⟨i,rfl,hi⟩,rfl⟩
 have Q:=Lib.hid hi
 clear IX
 clear hi
 go_wp2
 go_ret
 exact ⟨ret_bool Q.out,rfl⟩
def VarA (w:World) (v:Value) (x:Vr):Prop:=∃ b1 b2 b3 A cap,v=.agg #[.func (.func 196) #[] #[.pointer (some ⟨b1,0,none⟩)],.func (.func 197) #[] #[.pointer (some ⟨b2,0,none⟩),.pointer (some ⟨b3,0,none⟩)]]∧
 Boxed w b1 46 (.slice A x.1.length cap)∧KsP w A x.1∧Boxed w b2 3 (.int .i64 x.2.1)∧Boxed w b3 3 (.int .i64 x.2.2)∧x.1.length≤1000
theorem Boxed.under {w w':World} {b:Nat} {t:TypeId} {v:Value} (h:Boxed w b t v) (hb:Below w.heap.size w w'):Boxed w' b t v:=(hb.block b h.lt).trans h
theorem VarA.below {w w':World} {v:Value} {x:Vr} (h:VarA w v x) (hb:Below w.heap.size w w'):VarA w' v x:=by
 obtain ⟨b1,b2,b3,A,cap,rfl,h1,h2,h3,h4,h5⟩:=h
 exact ⟨b1,b2,b3,A,cap,rfl,Boxed.under h1 hb,h2.below hb,Boxed.under h3 hb,Boxed.under h4 hb,h5⟩
theorem ofKinds_any (A:Option Addr) (n cap:Nat) (w:World):Calls Tryz.prog 174 #[.slice A n cap] w fun e w'=>e=.returned (.func (.func 196) #[] #[.pointer (some ⟨w.heap.size,0,none⟩)])∧w.alloc (.cells #[.slice A n cap] 46)=w':=by
 go_enter Tryz.func174,Tryz.ntmps174
 go_wp2
 go_ret
 exact ⟨rfl,rfl⟩
theorem within_any (lo hi:Int) (w:World):Calls Tryz.prog 175 #[.int .i64 lo,.int .i64 hi] w fun e w'=>e=.returned (.func (.func 197) #[] #[.pointer (some ⟨w.heap.size,0,none⟩),.pointer (some ⟨w.heap.size+1,0,none⟩)])∧(w.alloc (.cells #[.int .i64 lo] 3)).alloc (.cells #[.int .i64 hi] 3)=w':=by
 go_enter Tryz.func175,Tryz.ntmps175
 go_wp2
 go_ret
 exact ⟨rfl,rfl⟩
theorem isIn_any (b1:Nat) (A:Option Addr) (cap n:Nat) (L:List Int) (hn:L.length=n) (hL:n≤1000) (t:Tr) (w:World) (h1:Boxed w b1 46 (.slice A n cap)) (h2:KsP w A L) :
  Calls Tryz.prog 196 #[.agg #[.int .i64 t.1,.int .i64 t.2.1,.int .i64 t.2.2],.pointer (some ⟨b1,0,none⟩)] w fun e w'=>e=.returned (.bool (decide (t.1∈L)))∧Below w.heap.size w w':=by
 obtain ⟨t0,t1,t2⟩:=t
 simp only
 have hal:Below w.heap.size w (w.alloc (.cells #[.int .i64 t0,.int .i64 t1,.int .i64 t2] 55)):=(Below.refl _ _).alloc (Nat.le_refl _) _
 have C:=Lib.hid (containsI_any A cap n L hn hL t0 _ (h2.below hal))
 have c1:=(Boxed.under h1 hal).cell
 have hne:b1≠w.heap.size:=by have:=h1.lt;omega
 have B:=Lib.hid hal
 obtain ⟨q,hq⟩:∃ q,decide (t0∈L)=q:=⟨_,rfl⟩
 rw [hq] at C ⊢
 obtain ⟨wa,hwa⟩:∃ wa,w.alloc (.cells #[.int .i64 t0,.int .i64 t1,.int .i64 t2] 55)=wa:=⟨_,rfl⟩
 have n0:(w.alloc (.cells #[.int .i64 t0,.int .i64 t1,.int .i64 t2] 55)).heap[w.heap.size]?=some (.cells #[.int .i64 t0,.int .i64 t1,.int .i64 t2] 55 (0,0)):=World.alloc_heap_new w _
 rw [hwa] at c1 n0 C B
 have k0:=Lib.cell_of_heap n0 0
 have HW:=Lib.hid hwa
 clear hal h1 h2 hq hn n0 hwa
 go_enter Tryz.func196,Tryz.ntmps196
 go_upto_region 1 with fail
 rw [HW.out]
 go_wp2_with fail
 refine C.out.mono ?_
 rintro e w1 ⟨rfl,rfl⟩
 go_wp2
 go_ret
 exact ⟨rfl,B.out⟩
theorem fits_in (v:Vr) (n:Int):fitsB v.2.1 v.2.2 [n]=inV v n:=by
 unfold inV
 by_cases h:v.2.1≤n∧n≤v.2.2
 ·rw [fits1_yes _ _ _ h.1 h.2,decide_eq_true h.1,decide_eq_true h.2];rfl
 ·rw [fits1_no _ _ _ (by omega)]
  by_cases h1:v.2.1≤n
  ·rw [decide_eq_true h1,decide_eq_false (fun h2=>h ⟨h1,h2⟩)];rfl
  ·rw [decide_eq_false h1];rfl
theorem allows_any (b2 b3:Nat) (v:Vr) (n:Int) (w:World) (h1:Boxed w b2 3 (.int .i64 v.2.1)) (h2:Boxed w b3 3 (.int .i64 v.2.2)) :
  Calls Tryz.prog 197 #[.int .i64 n,.pointer (some ⟨b2,0,none⟩),.pointer (some ⟨b3,0,none⟩)] w fun e w'=>e=.returned (.bool (inV v n))∧Below w.heap.size w w':=by
 have hal:Below w.heap.size w (w.alloc (.cells #[.int .i64 n] 3)):=(Below.refl _ _).alloc (Nat.le_refl _) _
 have C:=Lib.hid (fit1_any v.2.1 v.2.2 n w.heap.size (inV v n) (fits_in v n) (w.alloc (.cells #[.int .i64 n] 3)) (by simp [go_sem]))
 have B:=Lib.hid hal
 have c1:=h1.cell
 have c2:=h2.cell
 obtain ⟨q,hq⟩:∃ q,inV v n=q:=⟨_,rfl⟩
 rw [hq] at C ⊢
 clear hal h1 h2 hq
 go_enter Tryz.func197,Tryz.ntmps197
 go_wp2_with fail
 refine C.out.mono ?_
 rintro e w1 ⟨rfl,rfl⟩
 go_wp2
 go_ret
 exact ⟨rfl,B.out⟩
end Go.Proofs.YtajlleeonddinaaGreatDoor
namespace Go.Fr
open Go Go.RowKit
structure F where
 p:World→Prop
 up:∀ {w w':World},p w→Below w.heap.size w w'→p w'
def St (w:World):List F→Prop
 | []=>True
 | f :: l=>f.p w∧St w l
theorem St.up {w w':World}:∀ {l:List F},St w l→Below w.heap.size w w'→St w' l
 | [],_,_=>trivial
 | f :: _,h,hb=>⟨f.up h.1 hb,St.up h.2 hb⟩
theorem up {w w':World} {l:List F} (h:Hid (St w l)) (hb:Below w.heap.size w w'):Hid (St w' l):=St.up (l:=l) h hb
theorem add {w:World} {l:List F} (h:Hid (St w l)) (f:F) (hp:f.p w):Hid (St w (f :: l)):=⟨hp,h⟩
theorem nil (w:World):Hid (St w []):=trivial
def blk (b:Nat) (o:Obj):F:=⟨fun w=>w.heap[b]?=some o,fun h hb=>(hb.block _ (Array.getElem?_eq_some_iff.1 h).1).trans h⟩
def bel (n:Nat) (w0:World):F:=⟨fun w=>Below n w0 w∧n≤w.heap.size,fun h hb=>⟨h.1.trans (hb.mono h.2),Nat.le_trans h.2 hb.size⟩⟩
def sz (n:Nat):F:=⟨fun w=>n≤w.heap.size,fun h hb=>Nat.le_trans h hb.size⟩
theorem start (w:World) (n:Nat) (hn:w.heap.size=n):Hid (St w [bel n w]):=⟨⟨Below.refl _ _,Nat.le_of_eq hn.symm⟩,trivial⟩
theorem box {w:World} {l:List F} (h:Hid (St w l)) (cs:Array Value) (t:TypeId):∃ b w2,w.heap.size=b∧w.alloc (.cells cs t)=w2∧Hid (St w2 (blk b (.cells cs t (0,0)) :: l))∧Below w.heap.size w w2∧w2.heap.size=b+1:=
 have hb:Below w.heap.size w (w.alloc (.cells cs t)):=(Below.refl _ w).alloc (Nat.le_refl _) _
 ⟨_,_,rfl,rfl,add (up h hb) (blk w.heap.size _) (World.alloc_heap_new w _),hb,by simp⟩
theorem cells2 {w:World} {b:Nat} {a0 a1:Value} {T:TypeId} {fr:Nat×Nat} (h:w.heap[b]?=some (.cells #[a0,a1] T fr)):w.cell? ⟨b,0,none⟩=some a0∧w.cell? ⟨b,1,none⟩=some a1:=⟨Lib.cell_of_heap h 0,Lib.cell_of_heap h 1⟩
theorem cells3 {w:World} {b:Nat} {a0 a1 a2:Value} {T:TypeId} {fr:Nat×Nat} (h:w.heap[b]?=some (.cells #[a0,a1,a2] T fr)):w.cell? ⟨b,0,none⟩=some a0∧w.cell? ⟨b,1,none⟩=some a1∧w.cell? ⟨b,2,none⟩=some a2:=⟨Lib.cell_of_heap h 0,Lib.cell_of_heap h 1,Lib.cell_of_heap h 2⟩
theorem cells6 {w:World} {b:Nat} {a0 a1 a2 a3 a4 a5:Value} {T:TypeId} {fr:Nat×Nat} (h:w.heap[b]?=some (.cells #[a0,a1,a2,a3,a4,a5] T fr)):w.cell? ⟨b,0,none⟩=some a0∧w.cell? ⟨b,1,none⟩=some a1∧w.cell? ⟨b,2,none⟩=some a2∧w.cell? ⟨b,3,none⟩=some a3∧w.cell? ⟨b,4,none⟩=some a4∧w.cell? ⟨b,5,none⟩=some a5:=⟨Lib.cell_of_heap h 0,Lib.cell_of_heap h 1,Lib.cell_of_heap h 2,Lib.cell_of_heap h 3,Lib.cell_of_heap h 4,Lib.cell_of_heap h 5⟩
end Go.Fr
namespace Go.Proofs.YtajlleeonddinaaGreatDoor
open Go.RowKit Go.Shelf
def cellsZ (L:List Int):List Value:=L.map fun z=>Value.int .i64 z
theorem info_z:(Tryz.prog.info? 3).map (fun i=>(i.zero,i.size,i.bytes))=some (some (.int .i64 0),1,8):=by kernel_rfl
def OwnZ (w:World) (B:Nat) (v:Value) (L:List Int):Prop:=w.ownsRow B 3 1 v L.length (cellsZ L)
theorem OwnZ.ints {w:World} {n:Nat} {v:Value} {L:List Int} (h:OwnZ w n v L):∃ A cap,v=.slice A L.length cap∧IntsAt w A L:=by
 rcases h.2 with ⟨rfl,h0⟩ | ⟨g,cap,cur,rfl,_,_,_⟩
 ·have:L=[]:=List.eq_nil_of_length_eq_zero h0
  subst this
  exact ⟨none,0,rfl,.inl rfl⟩
 ·refine ⟨_,cap,rfl,.inr ⟨g,0,rfl,fun j hj=>?_⟩⟩
  rw [Nat.zero_add,World.ownsRow.cellAt h j (by omega)]
  unfold cellsZ
  rw [List.getElem?_map,List.getElem?_eq_getElem hj]
  rfl
theorem OwnZ.intsA {w:World} {n m c:Nat} {A:Option Addr} {L:List Int} (h:OwnZ w n (.slice A m c) L):IntsAt w A L:=by
 obtain ⟨A',c',e,hi⟩:=h.ints
 injection e with e1
 subst e1
 exact hi
theorem OwnZ.le {w:World} {n m c:Nat} {A:Option Addr} {L:List Int} (h:OwnZ w n (.slice A m c) L):L.length=m∧m≤c∧c≤maxLen:=by
 rcases h.2 with ⟨e,h0⟩ | ⟨g,cap,cur,e,_,_,h3,h4,_⟩
 ·injection e with e1 e2 e3
  subst e2 e3
  exact ⟨h0,Nat.le_refl _,Nat.zero_le _⟩
 ·injection e with e1 e2 e3
  subst e2 e3
  exact ⟨rfl,h3,h4⟩
theorem OwnZ.below {w w':World} {n:Nat} {v:Value} {L:List Int} (h:OwnZ w n v L) (k:Below w.heap.size w w'):OwnZ w' n v L:=
 World.ownsRow.kept h (row:=none) ⟨k.os,k.tape,k.output,k.size,fun i hi _=>k.block i hi⟩ (by
  cases e:v.ownBlock with
  | none=>exact .inl rfl
  | some g=>exact .inr (by simp))
theorem OwnZ.lift {w:World} {n m:Nat} {v:Value} {L:List Int} (h:OwnZ w n v L) (k:m≤n):OwnZ w m v L:=row_mono h k
theorem OwnZ.grown {w w':World} {n:Nat} {v:Value} {L:List Int} {row:Option Nat} (h:OwnZ w n v L) (k:w.grownBy w' row) (hne:∀ r,row=some r→v.ownBlock≠some r):OwnZ w' n v L:=
 World.ownsRow.kept h k (by
  cases e:v.ownBlock with
  | none=>exact .inl rfl
  | some g=>exact .inr fun e'=>hne g e'.symm e)
theorem ownZ_nil (w:World) (n:Nat):OwnZ w n (.slice none 0 0) []:=World.ownsRow_nil _ _ _ _
def ownZF (n:Nat) (v:Value) (L:List Int):Fr.F:=⟨fun w=>OwnZ w n v L,fun h hb=>h.below hb⟩
def intsF (A:Option Addr) (L:List Int):Fr.F:=⟨fun w=>IntsAt w A L,fun h hb=>h.below hb⟩
theorem cellsZ_one (ys:List Int):∀ u∈cellsZ ys,u.oneCell'=true:=fun u hu=>by
 unfold cellsZ at hu
 obtain ⟨b,-,rfl⟩:=List.mem_map.1 hu
 rfl
theorem cellsZ_append (xs ys:List Int):cellsZ (xs++ys)=cellsZ xs++cellsZ ys:=by unfold cellsZ;rw [List.map_append]
theorem IntsAt.news {w:World} {A:Option Addr} {ys:List Int} (h:IntsAt w A ys):ys.length=0∨∃ a,A=some a∧∀ j u,(cellsZ ys)[j]?=some u→w.cell? (a.add j)=some u:=by
 rcases h with rfl | ⟨b,off,rfl,hc⟩
 ·exact .inl rfl
 ·refine .inr ⟨_,rfl,fun j u hu=>?_⟩
  have hadd:(⟨b,off,none⟩:Addr).add j=⟨b,off+j,none⟩:=by unfold Addr.add;split <;> simp_all
  rw [hadd]
  unfold cellsZ at hu
  rw [List.getElem?_map] at hu
  cases hy:ys[j]? with
  | none=>rw [hy] at hu;cases hu
  | some y=>
   rw [hy] at hu
   obtain ⟨hj,hy2⟩:=List.getElem?_eq_some_iff.1 hy
   obtain rfl:=Option.some.inj hu
   rw [hc j hj,hy2]
theorem IntsAt.take {w:World} {A:Option Addr} {xs:List Int} (h:IntsAt w A xs) (k:Nat):IntsAt w A (xs.take k):=by
 rcases h with rfl | ⟨b,off,rfl,hc⟩
 ·exact .inl (by simp)
 ·refine .inr ⟨b,off,rfl,fun j hj=>?_⟩
  rw [List.getElem_take]
  exact hc j (by rw [List.length_take] at hj;omega)
theorem run_appZs (w:World) (B:Nat) (v:Value) (xs:List Int) (h:OwnZ w B v xs) (A:Option Addr) (c:Nat) (ys:List Int) (hP:IntsAt w A ys) (hB:B≤w.heap.size) (hs:xs.length+ys.length≤1000000) :
  ∃ v' w',(Builtin.append_ #[46,46] 46 #[v,.slice A ys.length c]).run Tryz.prog w=.ok v' w'∧OwnZ w' B v' (xs++ys)∧Below B w w'∧w.grownBy w' v.ownBlock:=by
 obtain ⟨i0,hi,hz0,hz1,hz2⟩:=info_parts info_z
 obtain ⟨v',w',k1,k2,k3⟩:=run_append_src w B 46 46 3 i0 _ 1 8 Tryz.underlying46 hi hz0 hz1 hz2 rfl (by decide) v xs.length (cellsZ xs) h A ys.length c (cellsZ ys)
  (by unfold cellsZ;simp) hP.news (cellsZ_one ys) (by unfold maxLen;omega) (by omega) hB
 refine ⟨v',w',k1,?_,(Below.refl B w).grown k3 hB fun k hk=>(World.ownsRow.lt h k hk).1,k3⟩
 unfold OwnZ
 rw [cellsZ_append,List.length_append]
 exact k2
theorem wpList_appZs {wr:World} {B:Nat} {v:Value} {xs:List Int} (h:OwnZ wr B v xs) {A:Option Addr} {c:Nat} {ys:List Int} (hP:IntsAt wr A ys) (hB:B≤wr.heap.size) (hs:xs.length+ys.length≤1000000) {ops:Array Oper} {rest:List Oper} {o:Oper} {a:Act} {Q:Exit→Act→World→Prop} (hgd:o.guard=none) (s x:Operand)
  (ho:o.op=.call {callee:=.builtin .append,args:=#[s,x],argTypes:=#[46,46]}) (hty:o.type=46) (hsv:a.eval s=v) (m:Nat) (hm:ys.length=m) (hx:a.eval x=.slice A m c) (n:Nat) (hn:xs.length+m=n)
  (k:∀ A' cap' w1,OwnZ w1 B (.slice A' n cap') (xs++ys)→Below B wr w1→wr.grownBy w1 v.ownBlock→wpList Tryz.prog ops Q rest (a.put o.dst (.slice A' n cap')) w1):wpList Tryz.prog ops Q (o :: rest) a wr:=by
 subst hm hn
 obtain ⟨v',w',k1,k2,k3,k4⟩:=run_appZs wr B v xs h A c ys hP hB hs
 obtain ⟨A',cap',rfl,-⟩:=k2.ints
 rw [List.length_append] at k1 k2
 exact wpList_run_append k1 hgd s x ho hty hsv hx (k A' cap' w' k2 k3 k4)
theorem ints_new1 (w:World) (x:Int):IntsAt (w.alloc (.cells #[.int .i64 x] 3)) (some ⟨w.heap.size,0,none⟩) [x]:=by
 refine .inr ⟨_,_,rfl,fun j hj=>?_⟩
 obtain rfl:j=0:=by simp at hj;omega
 rw [Lib.cell_of_heap (heap_alloc_new w _)]
 rfl
theorem ksP_of {w:World} {A:Option Addr} {L:List Int} (h:IntsAt w A L):KsP w A L:=h
end Go.Proofs.YtajlleeonddinaaGreatDoor
namespace Go.Proofs.YtajlleeonddinaaGreatDoor
open Go.RowKit
theorem letR_cases (ex:Str) (L:List Tr) (k:Nat):letR ex L k=100∨letR ex L k=101∨letR ex L k=110∨letR ex L k=119∨letR ex L k=0:=by
 unfold letR
 repeat' split
 all_goals simp
def stR (ex:Str) (L:List Tr) (d n:Int) (k:Nat):Tr:=if letR ex L k=100 then ((L.getD k tr0).1,(L.getD k tr0).2.1,d) else if letR ex L k=0 then L.getD k tr0 else ((L.getD k tr0).1,(L.getD k tr0).2.1,n)
def okR (ex:Str) (L:List Tr) (d n:Int) (k:Nat):Bool:=letR ex L k == 0||withR (letR ex L k) (stR ex L d n k).2.2
def useD (ex:Str) (L:List Tr) (d:Int) (k:Nat):Bool:=(d == 0)||(List.range k).any fun j=>letR ex L j == 100
def useN (ex:Str) (L:List Tr) (n:Int) (k:Nat):Bool:=(n == 0)||(List.range k).any fun j=>letR ex L j != 100&&letR ex L j != 0
def fillR (ex:Str) (L:List Tr) (d n:Int):Option (List Tr):=
 if (List.range L.length).all (okR ex L d n)=true∧useD ex L d L.length=true∧useN ex L n L.length=true then some ((List.range L.length).map (stR ex L d n)) else none
theorem let_d {ex:Str} {L:List Tr} (hp:placesB ex L=true) {k:Nat} (hk:k<L.length):letR ex L k=100↔atV (varsV ex).1.1 L=some k:=by
 have h:=places_at hp k hk
 unfold placeB at h
 constructor
 ·intro e
  by_cases h1:atV (varsV ex).1.1 L=some k
  ·exact h1
  ·rw [if_neg h1] at h
   by_cases h2:atV (varsV ex).2.1 L=some k
   ·rw [if_pos h2,e] at h
    simp at h
   ·rw [if_neg h2,e] at h
    cases h
 ·intro h1
  rw [if_pos h1] at h
  simp only [Bool.and_eq_true,beq_iff_eq,decide_eq_true_eq] at h
  exact h.1.1
theorem let_n {ex:Str} {L:List Tr} (hp:placesB ex L=true) {k:Nat} (hk:k<L.length):(letR ex L k≠100∧letR ex L k≠0)↔atV (varsV ex).2.1 L=some k:=by
 have h:=places_at hp k hk
 unfold placeB at h
 constructor
 ·rintro ⟨e1,e2⟩
  by_cases h1:atV (varsV ex).1.1 L=some k
  ·exact absurd ((let_d hp hk).2 h1) e1
  ·rw [if_neg h1] at h
   by_cases h2:atV (varsV ex).2.1 L=some k
   ·exact h2
   ·rw [if_neg h2] at h
    exact absurd (beq_iff_eq.1 h) e2
 ·intro h2
  by_cases h1:atV (varsV ex).1.1 L=some k
  ·rw [if_pos h1] at h
   simp only [Bool.and_eq_true,decide_eq_true_eq] at h
   exact absurd h2 h.2
  ·rw [if_neg h1,if_pos h2] at h
   simp only [Bool.and_eq_true,bne_iff_ne,ne_eq,decide_eq_true_eq] at h
   exact h.1
theorem rng_d {ex:Str} {L:List Tr} (hp:placesB ex L=true) {k:Nat} (h1:atV (varsV ex).1.1 L=some k) (d:Int):inV (varsV ex).1 d=withR 100 d:=by
 have h:=places_at hp k (atV_lt h1)
 unfold placeB at h
 rw [if_pos h1] at h
 simp only [Bool.and_eq_true,beq_iff_eq,decide_eq_true_eq] at h
 rw [withR_range]
 unfold inV
 rw [← h.1.2]
theorem rng_n {ex:Str} {L:List Tr} (hp:placesB ex L=true) {k:Nat} (h2:atV (varsV ex).2.1 L=some k) (n:Int):inV (varsV ex).2 n=withR (letR ex L k) n:=by
 have h:=places_at hp k (atV_lt h2)
 unfold placeB at h
 by_cases h1:atV (varsV ex).1.1 L=some k
 ·rw [if_pos h1] at h
  simp only [Bool.and_eq_true,decide_eq_true_eq] at h
  exact absurd h2 h.2
 ·rw [if_neg h1,if_pos h2] at h
  simp only [Bool.and_eq_true,bne_iff_ne,ne_eq,decide_eq_true_eq] at h
  rw [withR_range]
  unfold inV
  rw [← h.2]
theorem put_d {ex:Str} {L:List Tr} (hp:placesB ex L=true) (d n:Int):putB (varsV ex).1 L d=true↔(∀ k,k<L.length→letR ex L k=100→okR ex L d n k=true)∧useD ex L d L.length=true:=by
 unfold putB useD
 cases hj:atV (varsV ex).1.1 L with
 | none=>
  simp only [decide_eq_true_eq,Bool.or_eq_true,beq_iff_eq,List.any_eq_true,List.mem_range]
  have hno:∀ k,k<L.length→letR ex L k≠100:=fun k hk e=>by
   have:=(let_d hp hk).1 e
   rw [hj] at this
   cases this
  constructor
  ·exact fun h=>⟨fun k hk e=>absurd e (hno k hk),.inl h⟩
  ·rintro ⟨-,h | ⟨k,hk,e⟩⟩
   ·exact h
   ·exact absurd e (hno k hk)
 | some j=>
  have hjl:=atV_lt hj
  have hlj:=(let_d hp hjl).2 hj
  simp only
  rw [rng_d hp hj]
  simp only [Bool.or_eq_true,beq_iff_eq,List.any_eq_true,List.mem_range]
  constructor
  ·intro h
   refine ⟨fun k hk e=>?_,.inr ⟨j,hjl,hlj⟩⟩
   unfold okR stR
   rw [if_pos e,e]
   simp [h]
  ·rintro ⟨h,-⟩
   have:=h j hjl hlj
   unfold okR stR at this
   rw [if_pos hlj,hlj] at this
   simpa using this
theorem put_n {ex:Str} {L:List Tr} (hp:placesB ex L=true) (d n:Int):putB (varsV ex).2 L n=true↔(∀ k,k<L.length→letR ex L k≠100→letR ex L k≠0→okR ex L d n k=true)∧useN ex L n L.length=true:=by
 unfold putB useN
 cases hj:atV (varsV ex).2.1 L with
 | none=>
  simp only [decide_eq_true_eq,Bool.or_eq_true,beq_iff_eq,List.any_eq_true,List.mem_range,Bool.and_eq_true,bne_iff_ne,ne_eq]
  have hno:∀ k,k<L.length→¬(letR ex L k≠100∧letR ex L k≠0):=fun k hk e=>by
   have:=(let_n hp hk).1 e
   rw [hj] at this
   cases this
  constructor
  ·exact fun h=>⟨fun k hk e1 e2=>absurd ⟨e1,e2⟩ (hno k hk),.inl h⟩
  ·rintro ⟨-,h | ⟨k,hk,e⟩⟩
   ·exact h
   ·exact absurd e (hno k hk)
 | some j=>
  have hjl:=atV_lt hj
  have hlj:=(let_n hp hjl).2 hj
  simp only
  rw [rng_n hp hj]
  simp only [Bool.or_eq_true,beq_iff_eq,List.any_eq_true,List.mem_range,Bool.and_eq_true,bne_iff_ne,ne_eq]
  constructor
  ·intro h
   refine ⟨fun k hk e1 e2=>?_,.inr ⟨j,hjl,hlj⟩⟩
   have hkj:k=j:=by
    have:=(let_n hp hk).1 ⟨e1,e2⟩
    rw [hj] at this
    exact (Option.some.inj this).symm
   subst hkj
   unfold okR stR
   rw [if_neg e1,if_neg e2]
   simp [h]
  ·rintro ⟨h,-⟩
   have:=h j hjl hlj.1 hlj.2
   unfold okR stR at this
   rw [if_neg hlj.1,if_neg hlj.2] at this
   simpa [hlj.2] using this
theorem putB_shape (v:Vr) {L C:List Tr} (h:L.map ks2=C.map ks2) (n:Int):putB v L n=putB v C n:=by
 unfold putB
 rw [atV_congr v.1 h]
theorem fill_same {ex:Str} {L:List Tr} (hp:placesB ex L=true) (d n:Int):fillR ex L d n=fillV ex L d n:=by
 have hd:=put_d hp d n
 have hn:=put_n hp d n
 have hsh:=putL_shape (varsV ex).1.1 L d
 rw [← putB_shape _ hsh] at hn
 have hc:((List.range L.length).all (okR ex L d n)=true∧useD ex L d L.length=true∧useN ex L n L.length=true)↔(putB (varsV ex).1 L d=true∧putB (varsV ex).2 (putL (varsV ex).1.1 L d) n=true):=by
  rw [hd,hn,List.all_eq_true]
  constructor
  ·rintro ⟨h1,h2,h3⟩
   exact ⟨⟨fun k hk _=>h1 k (List.mem_range.2 hk),h2⟩,fun k hk _ _=>h1 k (List.mem_range.2 hk),h3⟩
  ·rintro ⟨⟨h1,h2⟩,h3,h4⟩
   refine ⟨fun k hk=>?_,h2,h4⟩
   have hk:=List.mem_range.1 hk
   by_cases e1:letR ex L k=100
   ·exact h1 k hk e1
   ·by_cases e2:letR ex L k=0
    ·unfold okR
     rw [e2]
     rfl
    ·exact h3 k hk e1 e2
 unfold fillR
 by_cases h:putB (varsV ex).1 L d=true∧putB (varsV ex).2 (putL (varsV ex).1.1 L d) n=true
 ·have hf:fillV ex L d n=some (putL (varsV ex).2.1 (putL (varsV ex).1.1 L d) n):=by unfold fillV;rw [if_pos h]
  rw [if_pos (hc.2 h),hf]
  have hl:=len_of_shape (fill_shape hf).1
  refine congrArg some (ext_getD (by rw [List.length_map,List.length_range];exact hl.symm) fun i hi=>?_)
  rw [List.length_map,List.length_range] at hi
  rw [fill_get hf i hi,List.getD_eq_getElem?_getD,List.getElem?_map,List.getElem?_range hi]
  simp only [Option.map_some,Option.getD_some]
  unfold stR
  by_cases e1:letR ex L i=100
  ·have a1:=(let_d hp hi).1 e1
   have a2:atV (varsV ex).2.1 L≠some i:=fun e=>((let_n hp hi).2 e).1 e1
   rw [if_pos e1,if_neg a2,if_pos a1]
  ·have a1:atV (varsV ex).1.1 L≠some i:=fun e=>e1 ((let_d hp hi).2 e)
   rw [if_neg e1]
   by_cases e2:letR ex L i=0
   ·have a2:atV (varsV ex).2.1 L≠some i:=fun e=>((let_n hp hi).2 e).2 e2
    rw [if_pos e2,if_neg a2,if_neg a1]
   ·rw [if_neg e2,if_pos ((let_n hp hi).1 ⟨e1,e2⟩)]
 ·have hf:fillV ex L d n=none:=by unfold fillV;rw [if_neg h]
  rw [if_neg (fun e=>h (hc.1 e)),hf]
end Go.Proofs.YtajlleeonddinaaGreatDoor
namespace Go.Stops
open Go Go.RowKit
def TellsW {α:Type} (F:Fence) (n:Nat) (P:Program) (g:Nat) (lb:Array Value) (encs:α→Array Value) (E:List α→α→World→Prop) (Kp:World→World→Prop) (S:List α→Prop) (w:World):Prop:=
 ∀ (l:Nat) (J Jx:List α→World→Prop) (W:World),Below w.heap.size w W→AbidesFrom W.heap.size J→
  (∀ pre x W1,J pre W1→E pre x W1→YieldAt F (n - 1) P l (encs x) W1 fun e W'=>(e=.returned (.bool true)∧J (pre++[x]) W'∧Kp W1 W')∨(e=.returned (.bool false)∧Jx (pre++[x]) W'))→
  AbidesFrom W.heap.size Jx→J [] W→CallsIn F n P g (#[.func (.yield l) #[] #[]]++lb) W fun e W'=>(∃ v,e=.returned v)∧((∃ xs,S xs∧J xs W')∨∃ pre,Jx pre W')
variable {F:Fence} {n:Nat} {P:Program}
theorem wpIn_tellsW {α:Type} {g:Operand} {ps:Array Tmp} {assign body:Code} {Q:Exit→Act→World→Prop} {a:Act} {w:World} (hro:F.round=none) (h1:1≤n)
  {gf:Nat} {lb:Array Value} (hg:a.eval g=.func (.func gf) #[] lb) (hFg:F.fn gf) (eg:∀ args w,(callFunc gf args).run P w=.ok (.enter gf args) w)
  {encs:α→Array Value} {E:List α→α→World→Prop} {Kp:World→World→Prop} {S:List α→Prop} (hseq:TellsW F (n - 1) P gf lb encs E Kp S w)
  (hKt:∀ {A B C:World},Kp A B→Kp B C→Kp A C) (hKb:∀ (W:World) (l:Nat) (o o':Obj),w.heap.size≤l→W.heap[l]?=some o→o.isCells=false→Kp W (W.putObj l o')) (hps:∀ x,(encs x).size=ps.size)
  (I Ix:List α→World→Prop) (hI:OwnFrom w.heap.size I) (hIx:OwnFrom w.heap.size Ix) (h0:I [] w) (Ax:List α→α→Act→World→Prop) (hAx:∀ p x,OwnFrom w.heap.size (Ax p x))
  (hassign:∀ (l:Nat) (pre:List α) (x:α) (W:World) (K:Act→World→Prop),I pre W→E pre x W→(∀ a' W',KeepsFrom w.heap.size W W'→Kp W W'→I pre W'→Ax pre x a' W'→K a' W')→
   assign.wpIn (F.inRound l) (n - 1 - 1) P (Exit.then K (fun _ _ _=>False)) {tmps:=(ps.zip (encs x)).foldl (fun t (p,v)=>t.setIfInBounds p v) a.tmps,defers:=[]} W)
  (hbody:∀ (l:Nat) (pre:List α) (x:α) (a':Act) (W:World),I pre W→Ax pre x a' W→body.wpIn (F.inRound l) (n - 1 - 1) P (endsSo w.heap.size Kp I Ix (pre++[x]) W) a' W)
  (hdone:∀ (D:Nat) (xs:List α) (W:World),w.heap.size≤D→S xs→I xs W→W.heap[D]?=some (.deferred (some []))→Q .normal {a with defers:={target:=.collected D,args:=#[]} :: a.defers} W)
  (hstop:∀ (D:Nat) (pre:List α) (W:World),w.heap.size≤D→Ix pre W→W.heap[D]?=some (.deferred (some []))→Code.ret.wpIn F n P Q {a with defers:={target:=.collected D,args:=#[]} :: a.defers} W) :
  (Code.rangeFunc g ps assign body).wpIn F n P Q a w:=by
 refine wpIn_rangeFunc fun fn hfn=>?_
 rw [hro]
 let R:LoopState→Option Code→Loop:=fun st j=>{state:=st,pending:=j,fn:=fn,tmps:=a.tmps,params:=ps,assign:=assign,body:=body,defers:=w.heap.size}
 let B:World:=(w.alloc (.deferred (some []))).alloc (.loop (R .ready none))
 have bD:B.heap[w.heap.size]?=some (.deferred (some [])):=(Below.heap_alloc _ _ _ (by simp)).trans (World.alloc_heap_new w _)
 have bL:B.heap[w.heap.size+1]?=some (.loop (R .ready none)):=by
  have h:=World.alloc_heap_new (w.alloc (.deferred (some []))) (.loop (R .ready none))
  rwa [World.size_alloc] at h
 have bI:I [] B:=hI.alloc _ (hI.alloc _ h0)
 have bB:Below w.heap.size w B:=((Below.refl _ w).alloc (Nat.le_refl _) _).alloc (by simp) _
 have bz:B.heap.size=w.heap.size+1+1:=by simp [B]
 -- what a turn of a walk of the iterator's own leaves of the two blocks
 have walk:∀ {X Y:World} {row:Option Nat} {k:Nat} {o:Obj},X.grownBy Y row→(∀ r,row=some r→B.heap.size≤r∧∃ o:Obj,X.heap[r]?=some o∧o.isWalk=true)→X.heap[k]?=some o→k<w.heap.size+2→Y.heap[k]?=some o:=fun hg' hr hk hlt=>
  (hg'.block _ (Array.getElem?_eq_some_iff.1 hk).1 fun e=>by have:=(hr _ e.symm).1;omega).trans hk
 have cells:∀ {X Y:World} {row:Option Nat},(∀ r,row=some r→B.heap.size≤r∧∃ o:Obj,X.heap[r]?=some o∧o.isWalk=true)→(∀ r,row=some r→w.heap.size≤r∧∃ o:Obj,X.heap[r]?=some o∧o.isCells=false):=fun hr r e=>by
  obtain ⟨k1,o,k2,k3⟩:=hr r e
  exact ⟨by omega,o,k2,Obj.not_cells_of_walk k3⟩
 refine ⟨w.heap.size+1,[{target:=.collected w.heap.size,args:=#[]}],B,{target:=.fn (.func gf) lb,args:=#[.func (.yield (w.heap.size+1)) #[] #[]]},B,gf,#[.func (.yield (w.heap.size+1)) #[] #[]]++lb,B,
  run_enterLoop_outer _ _ _ _ _,by simp only [resolve,hg];simp [go_sem],fun f' hf'=>by simp [Target.leads] at hf';subst hf';exact hFg,by simp [invoke,go_sem,eg],fun _=>h1,?_⟩
 refine (hseq (w.heap.size+1) (fun pre W=>I pre W∧W.heap[w.heap.size+1]?=some (.loop (R .ready none))∧W.heap[w.heap.size]?=some (.deferred (some [])))
  (fun pre W=>Ix pre W∧W.heap[w.heap.size+1]?=some (.loop (R .done (some .ret)))∧W.heap[w.heap.size]?=some (.deferred (some []))) B bB ?_ ?_ ?_ ⟨bI,bL,bD⟩).mono ?_
 ·rintro s X Y row ⟨s1,s2,s3⟩ hg' hr
  exact ⟨hI s X Y row s1 hg' (cells (Y:=Y) hr),walk hg' hr s2 (by omega),walk hg' hr s3 (by omega)⟩
 ·rintro pre x W ⟨s1,s2,s3⟩ hx
  refine ⟨fn,_,assign,body,run_yield (P:=P) (args:=encs x) s2 (hps x),roundIn_of_wpIn hfn (hassign _ pre x W _ s1 hx fun a' U u1 uK uI uA=>?_)⟩
  have u2:=u1.same _ _ (by omega) s2 rfl
  have u3:=u1.same _ _ (Nat.le_refl _) s3 rfl
  have hlu:w.heap.size+1<U.heap.size:=(Array.getElem?_eq_some_iff.1 u2).1
  refine ⟨_,run_beginRound u2 rfl,?_⟩
  obtain ⟨V,hV⟩:∃ V,U.putObj (w.heap.size+1) (.loop {R .ready none with state:=.busy})=V:=⟨_,rfl⟩
  have v2:V.heap[w.heap.size+1]?=some (.loop {R .ready none with state:=.busy}):=hV ▸ World.putObj_heap_same hlu
  have v3:V.heap[w.heap.size]?=some (.deferred (some [])):=hV ▸ (World.putObj_heap_other (by omega)).trans u3
  have vI:I pre V:=hV ▸ hI.putObj _ uI (by omega) u2 rfl
  have vE:Ax pre x a' V:=hV ▸ (hAx pre x).putObj _ uA (by omega) u2 rfl
  have vK:Kp W V:=hKt uK (hV ▸ hKb _ _ _ _ (by omega) u2 rfl)
  show body.wpIn _ _ _ _ _ (U.putObj (w.heap.size+1) (.loop {R .ready none with state:=.busy}))
  rw [hV]
  refine wpIn_mono (hbody _ pre x a' V vI vE) ?_
  rintro (_ | _ | _ | _ | _ | _) a3 Z hz
  case normal=>
   obtain ⟨z1,z2,z3⟩:=hz
   have l3:=z1.same _ _ (by omega) v2 rfl
   exact ⟨_,_,run_endRound (P:=P) none l3,.inl ⟨rfl,⟨hI.putObj _ z3 (by omega) l3 rfl,World.putObj_heap_same (Array.getElem?_eq_some_iff.1 l3).1,(World.putObj_heap_other (by omega)).trans (z1.same _ _ (Nat.le_refl _) v3 rfl)⟩,hKt (hKt vK z2) (hKb _ _ _ _ (by omega) l3 rfl)⟩⟩
  case ret=>
   obtain ⟨z1,z3⟩:=hz
   have l3:=z1.same _ _ (by omega) v2 rfl
   exact ⟨_,_,run_endRound (P:=P) (some .ret) l3,.inr ⟨rfl,hIx.putObj _ z3 (by omega) l3 rfl,World.putObj_heap_same (Array.getElem?_eq_some_iff.1 l3).1,(World.putObj_heap_other (by omega)).trans (z1.same _ _ (Nat.le_refl _) v3 rfl)⟩⟩
  all_goals exact hz.elim
 ·rintro s X Y row ⟨s1,s2,s3⟩ hg' hr
  exact ⟨hIx s X Y row s1 hg' (cells (Y:=Y) hr),walk hg' hr s2 (by omega),walk hg' hr s3 (by omega)⟩
 ·rintro e Z ⟨⟨v,rfl⟩,(⟨xs,hS,z1,z2,z3⟩ | ⟨pre,z1,z2,z3⟩)⟩
  ·exact ⟨none,_,run_endLoop (P:=P) z2 (by simp [R]),hdone _ xs _ (Nat.le_refl _) hS (hI.putObj _ z1 (by omega) z2 rfl) ((World.putObj_heap_other (by omega)).trans z3)⟩
  ·exact ⟨some .ret,_,run_endLoop (P:=P) z2 (by simp [R]),hstop _ pre _ (Nat.le_refl _) (hIx.putObj _ z1 (by omega) z2 rfl) ((World.putObj_heap_other (by omega)).trans z3)⟩
end Go.Stops
namespace Go.Proofs.YtajlleeonddinaaGreatDoor
open Go.RowKit
attribute [local go_sem] Oper.semAt_some
theorem atV_none {ks:List Int}:∀ {L:List Tr},(∀ j,j<L.length→(L.getD j tr0).1∉ks)→atV ks L=none
 | [],_=>rfl
 | t :: r,h=>by
  unfold atV
  rw [atV_none (L:=r) (fun j hj=>by have:=h (j+1) (by simp;omega);rwa [List.getD_cons_succ] at this)]
  exact if_neg (h 0 (by simp))
theorem atV_last {ks:List Int}:∀ {L:List Tr} {k:Nat},k<L.length→(L.getD k tr0).1∈ks→(∀ j,k<j→j<L.length→(L.getD j tr0).1∉ks)→atV ks L=some k
 | [],k,hk,_,_=>by simp at hk
 | t :: r,0,_,h1,h2=>by
  unfold atV
  rw [atV_none (L:=r) (fun j hj=>by have:=h2 (j+1) (by omega) (by simp;omega);rwa [List.getD_cons_succ] at this)]
  exact if_pos h1
 | t :: r,k+1,hk,h1,h2=>by
  unfold atV
  rw [List.getD_cons_succ] at h1
  rw [atV_last (L:=r) (by simpa using hk) h1 (fun j hj hl=>by have:=h2 (j+1) (by omega) (by simp;omega);rwa [List.getD_cons_succ] at this)]
def atI (ks:List Int) (L:List Tr):Int:=match atV ks L with
 | some k=>k
 | none=>-1
def KeepN (N:Nat) (W W':World):Prop:=∀ k,k<N→W'.heap[k]?=W.heap[k]?
theorem KeepN.trans {N:Nat} {A B C:World} (h:KeepN N A B) (k:KeepN N B C):KeepN N A C:=fun x hx=>(k x hx).trans (h x hx)
theorem KeepN.of_below {N B:Nat} {W W':World} (h:Below B W W') (hN:N≤B):KeepN N W W':=fun k hk=>h.block k (by omega)
theorem KeepN.put {N:Nat} (W:World) (l:Nat) (o':Obj) (hl:N≤l):KeepN N W (W.putObj l o'):=fun k hk=>World.putObj_heap_other (by omega)
theorem KeepN.cell {N:Nat} {W W':World} (h:KeepN N W W') {a:Addr} (ha:a.block<N):W'.cell? a=W.cell? a:=World.cell?_of_block (h _ ha)
theorem OpsP.keepN {N:Nat} {W W':World} {A:Option Addr} {L:List Tr} (h:OpsP W A L) (k:KeepN N W W') (hA:∀ a,A=some a→L≠[]→a.block<N):OpsP W' A L:=by
 by_cases hL:L=[]
 ·exact .inl hL
 rcases h with h | ⟨b,off,rfl,hc⟩
 ·exact absurd h hL
 ·have hb:b<N:=hA _ rfl hL
  refine .inr ⟨b,off,rfl,fun j hj=>?_⟩
  obtain ⟨h1,h2,h3⟩:=hc j hj
  exact ⟨(k.cell (a:=⟨b,_,none⟩) hb).trans h1,(k.cell (a:=⟨b,_,none⟩) hb).trans h2,(k.cell (a:=⟨b,_,none⟩) hb).trans h3⟩
def opdV (t:Tr):Value:=.agg #[.int .i64 t.1,.int .i64 t.2.1,.int .i64 t.2.2]
def BackE (L:List Tr) (pre:List (Nat×Tr)) (x:Nat×Tr) (W:World):Prop:=pre.length<L.length∧x.1=L.length - 1 - pre.length∧x.2=L.getD x.1 tr0
theorem backward_any (A:Option Addr) (n cap:Nat) (w:World):Calls Tryz.prog 198 #[.slice A n cap] w fun e w'=>e=.returned (.func (.func 211) #[] #[.pointer (some ⟨w.heap.size,0,none⟩)])∧w.alloc (.cells #[.slice A n cap] 22)=w':=by
 go_enter Tryz.func198,Tryz.ntmps198
 go_wp2
 go_ret
 exact ⟨rfl,rfl⟩
theorem back_tells (n:Nat) (Bs:Nat) (A:Option Addr) (cap l:Nat) (L:List Tr) (hl:L.length=l) (hL:l≤1000) (N:Nat) (w:World) (hs:Boxed w Bs 22 (.slice A l cap)) (hP:OpsP w A L) (hB:Bs<N) (hA:∀ a,A=some a→L≠[]→a.block<N) (hN:N≤w.heap.size) :
  Stops.TellsW Fence.wide n Tryz.prog 211 #[.pointer (some ⟨Bs,0,none⟩)] (fun x:Nat×Tr=>#[.int .i64 x.1,opdV x.2]) (BackE L) (KeepN N) (fun ys=>ys.length=L.length) w:=fun lp J Jx W hW hJ hY hJx h0=>by
 have hJd:∀ (m:Nat) (z:List (Nat×Tr)) (X:World),J z X→J z (X.drewN m):=fun m z X h=>hJ z X _ none h ⟨rfl,rfl,rfl,Nat.le_refl _,fun _ _ _=>rfl⟩ (fun r e=>by cases e)
 have kb:Boxed W Bs 22 (.slice A l cap):=Boxed.under hs hW
 have kp:OpsP W A L:=hP.below hW
 have hc:=kb.cell
 have KB:=Lib.hid kb
 have KPP:=Lib.hid kp
 have J0:=Lib.hid h0
 have HY:=Lib.hid hY
 have HL:=Lib.hid hl
 have HA:=Lib.hid hA
 have HJd:=Lib.hid hJd
 clear h0 hY hJ hJx hW hs hP kb kp hl hA hN hJd
 refine callsIn_wide.2 ?_
 show Calls Tryz.prog 211 #[.func (.yield lp) #[] #[],.pointer (some ⟨Bs,0,none⟩)] W _
 go_enter Tryz.func211,Tryz.ntmps211
 go_wp2
 go_loopw [3] (fun i wr=>∃ (pre:List (Nat×Tr)),pre.length≤l∧i=.int .i64 ((l:Int) - 1 - (pre.length:Int))∧Hid (KeepN N W wr)∧Hid (J pre wr)) (fun i _=>(intOf i+1).toNat)
 case atStart=>exact ⟨[],Nat.zero_le _,by simp,fun _ _=>rfl,J0.out⟩
 case round=>
  clear J0 hc
  obtain ⟨pre,hpl,rfl,KK,JJ⟩:=hrel
  by_cases hlt:pre.length<l
  ·obtain ⟨j,hj⟩:∃ j:Nat,j=l - 1 - pre.length:=⟨_,rfl⟩
   have hji:(l:Int) - 1 - (pre.length:Int)=(j:Int):=by omega
   have hjL:j<L.length:=by have:=HL.out;omega
   obtain ⟨b,off,rfl,-,p0,p1,p2⟩:=(KPP.out.keepN KK.out HA.out).at_ hjL
   have hgd:L.getD j tr0=L[j]:=by rw [List.getD_eq_getElem?_getD,List.getElem?_eq_getElem hjL];rfl
   rw [← hgd] at p0 p1 p2
   have E:Hid (BackE L pre (j,L.getD j tr0) wr):=⟨by rw [HL.out];exact hlt,by rw [HL.out];exact hj,rfl⟩
   obtain ⟨t,ht⟩:∃ t,L.getD j tr0=t:=⟨_,rfl⟩
   rw [ht] at p0 p1 p2 E
   obtain ⟨t0,t1,t2⟩:=t
   simp only at p0 p1 p2
   have hjl:j<l:=by omega
   have hjc:(j:Int)<(l:Int):=by omega
   have hc:wr.cell? ⟨Bs,0,none⟩=some (.slice (some ⟨b,off,none⟩) l cap):=(KK.out.cell (a:=⟨Bs,0,none⟩) hB).trans KB.out.cell
   have hyd:=HY.out pre (j,t0,t1,t2) wr JJ.out E.out
   have PL:Hid (pre.length+1+j=l):=by show pre.length+1+j=l;omega
   rw [hji]
   obtain ⟨fn,tmps,assign,body,hy,hR⟩:=hyd
   simp only [opdV] at hy
   clear hji hgd ht hjL E hlt hpl hj
   go_upto_region 3 with fail
   refine (wpIn_wide (n:=n)).1 ?_
   gi_wp2
   refine ⟨fun h=>(by cases h),hR.mono ?_⟩
   rintro e3 W3 (⟨rfl,hJ3,hk3⟩ | ⟨rfl,hJx3⟩)
   ·have K3:=Lib.hid (KK.out.trans hk3)
    have J3:=Lib.hid hJ3
    clear hJ3 hk3 hR hy
    gi_wp2
    go_wp2
    go_roundw
    case rel=>exact ⟨pre++[(j,t0,t1,t2)],by have:=PL.out;simp;omega,by have:=PL.out;simp;omega,K3.out,J3.out⟩
    case measure=>simp [intOf]
   ·clear hR hy
    gi_wp2
    go_wp2
    refine bodyPost_ret (results_none rfl _ _ _) rfl ?_
    exact ⟨⟨_,rfl⟩,.inr ⟨_,hJx3⟩⟩
  ·have P:Hid (pre.length=L.length):=by have:=HL.out;show _=_;omega
   have hji:(l:Int) - 1 - (pre.length:Int)=-1:=by omega
   rw [hji]
   go_wp2
   go_end0
   have h:=JJ.out
   exact ⟨⟨_,rfl⟩,.inl ⟨_,P.out,h⟩⟩
theorem vat_any (x:Vr) (v:Value) (s:ByteArray) (A:Option Addr) (cap l:Nat) (L:List Tr) (hl:L.length=l) (hL:l≤1000) (w:World) (hv:VarA w v x) (H:OpsP w A L) :
  Calls Tryz.prog 177 #[v,.agg #[.string s,.slice A l cap]] w fun e w'=>e=.returned (.int .i64 (atI x.1 L))∧Below w.heap.size w w':=by
 obtain ⟨b1,b2,b3,Ak,ck,rfl,v1,v2,v3,v4,v5⟩:=hv
 obtain ⟨ks,hks⟩:∃ ks,x.1=ks:=⟨_,rfl⟩
 rw [hks] at v1 v2 v5 ⊢
 clear hks v3 v4
 obtain ⟨f2,hf2⟩:∃ f:Value,Value.func (.func 197) #[] #[.pointer (some ⟨b2,0,none⟩),.pointer (some ⟨b3,0,none⟩)]=f:=⟨_,rfl⟩
 obtain ⟨w0,hw0⟩:∃ w0,((w.alloc (.cells #[.func (.func 196) #[] #[.pointer (some ⟨b1,0,none⟩)],.func (.func 197) #[] #[.pointer (some ⟨b2,0,none⟩),.pointer (some ⟨b3,0,none⟩)]] 208)).alloc (.cells #[.string s,.slice A l cap] 24)).alloc (.cells #[.int .i64 0] 3)=w0:=⟨_,rfl⟩
 obtain ⟨n,hn⟩:∃ n,w.heap.size=n:=⟨_,rfl⟩
 have z0:w0.heap.size=n+1+1+1:=by rw [← hw0,← hn];simp
 have b0:Below n w w0:=by rw [← hw0,← hn];exact (((Below.refl _ w).alloc (Nat.le_refl _) _).alloc (by simp) _).alloc (by simp;omega) _
 have c0:w0.heap[n]?=some (.cells #[.func (.func 196) #[] #[.pointer (some ⟨b1,0,none⟩)],f2] 208 (0,0)):=by
  rw [← hw0,← hn,← hf2]
  exact (Below.heap_alloc _ _ _ (by simp;omega)).trans ((Below.heap_alloc _ _ _ (by simp)).trans (World.alloc_heap_new w _))
 have c1:w0.heap[n+1]?=some (.cells #[.string s,.slice A l cap] 24 (0,0)):=by
  rw [← hw0,← hn]
  refine (Below.heap_alloc _ _ _ (by simp)).trans ?_
  have h:=World.alloc_heap_new (w.alloc (.cells #[.func (.func 196) #[] #[.pointer (some ⟨b1,0,none⟩)],.func (.func 197) #[] #[.pointer (some ⟨b2,0,none⟩),.pointer (some ⟨b3,0,none⟩)]] 208)) (.cells #[.string s,.slice A l cap] 24)
  rwa [World.size_alloc] at h
 have c2:Boxed w0 (n+1+1) 3 (.int .i64 0):=by
  rw [← hw0,← hn]
  have h:=Boxed.new ((w.alloc (.cells #[.func (.func 196) #[] #[.pointer (some ⟨b1,0,none⟩)],.func (.func 197) #[] #[.pointer (some ⟨b2,0,none⟩),.pointer (some ⟨b3,0,none⟩)]] 208)).alloc (.cells #[.string s,.slice A l cap] 24)) 3 (.int .i64 0)
  rwa [World.size_alloc,World.size_alloc] at h
 rw [hf2] at hw0
 have hbk:=backward_any A l cap w0
 rw [z0] at hbk
 have k1:=Lib.cell_of_heap c1 1
 refine callsIn_wide.1 (callsIn_of_wp_marks (n:=3) Tryz.func177 rfl trivial ?_ rfl)
 simp only [Tryz.ntmps177,List.size_toArray,List.length_cons,List.length_nil,Nat.reduceAdd,Nat.reduceSub,Array.replicate_succ,Array.replicate_zero,List.push_toArray,List.append_toArray,List.nil_append,List.cons_append]
 refine wpIn_wide.2 ?_
 rw [hf2]
 go_wp2_with fail
 refine hbk.mono ?_
 rintro e W0 ⟨rfl,hW0⟩
 have hs:Boxed W0 (n+1+1+1) 22 (.slice A l cap):=by
  have h:=Boxed.new w0 22 (.slice A l cap)
  rw [hW0,z0] at h
  exact h
 have zW:W0.heap.size=n+1+1+1+1:=by rw [← hW0];simp;omega
 have bW:Below w0.heap.size w0 W0:=by rw [← hW0];exact (Below.refl _ _).alloc (Nat.le_refl _) _
 have d0:=(bW.block n (by omega)).trans c0
 have d2:Boxed W0 (n+1+1) 3 (.int .i64 0):=(bW.block _ c2.lt).trans c2
 have bN:Below n w W0:=b0.trans (bW.mono (by omega))
 have HW:OpsP W0 A L:=H.below (by rw [hn];exact bN)
 have hA:∀ a,A=some a→L≠[]→a.block<n:=fun a ha hne=>by
  rcases H with h | ⟨bb,off,e,hc⟩
  ·exact absurd h hne
  ·rw [ha] at e
   obtain rfl:=Option.some.inj e
   have h9:bb<w.heap.size:=World.block_lt_of_cell? w _ (hc 0 (List.length_pos_iff.2 hne)).1
   show bb<n
   omega
 have v1':Boxed W0 b1 46 (.slice Ak ks.length ck):=Boxed.under v1 (by rw [hn];exact bN)
 have v2':KsP W0 Ak ks:=v2.below (by rw [hn];exact bN)
 have hseq:=back_tells 2 (n+1+1+1) A cap l L hl hL (n+1+1+1+1) W0 hs HW (by omega) (fun a h1 h2=>by have:=hA a h1 h2;omega) (by omega)
 have HL:=Lib.hid hl
 have HN:=Lib.hid hn
 have BN:=Lib.hid bN
 have D0:=Lib.hid d0
 have D2:=Lib.hid d2
 have V1:=Lib.hid v1'
 have V2:=Lib.hid v2'
 have V5:=Lib.hid v5
 clear hbk hs bW b0 c0 c1 c2 hW0 hw0 hn z0 hl hA H HW v1 v2 v1' v2' v5 k1 w0 d0 d2 bN hf2
 go_wp2_with fail
 refine wpIn_wide.1 (Stops.wpIn_tellsW (F:=Fence.wide) (n:=3) rfl (by omega) (gf:=211) (lb:=#[.pointer (some ⟨n+1+1+1,0,none⟩)]) rfl trivial (enters_of Tryz.func211 (by kernel_rfl) rfl)
  hseq (fun h k=>h.trans k) (fun W l o o' hl _ _=>KeepN.put W l o' (by omega)) (fun _=>rfl)
  (fun pre W=>(∀ j,l≤j+pre.length→j<l→(L.getD j tr0).1∉ks)∧Below (n+1+1+1+1) W0 W)
  (fun pre W=>∃ k,atV ks L=some k∧Boxed W (n+1+1) 3 (.int .i64 (k:Nat))∧Below n w W)
  (fun s X Y row h hg hr=>⟨h.1,h.2.grown hg (by have:=h.2.size;omega) fun r e=>by have:=(hr r e).1;omega⟩)
  (fun s X Y row h hg hr=>by
   obtain ⟨k,h1,h2,h3⟩:=h
   have hne:∀ k,k<n+1+1+1+1→some k≠row:=fun k hk e=>by have:=(hr k e.symm).1;omega
   exact ⟨k,h1,h2.kept hg (hne _ (by omega)),h3.grown hg (by have:=h2.lt;omega) fun r e=>by have:=(hr r e).1;omega⟩)
  ⟨fun j h1 h2=>by simp at h1;omega,Below.refl _ _⟩
  (fun pre x a' W=>BackE L pre x W∧∃ b,n+4≤b∧W.heap[b]?=some (.cells #[.int .i64 x.2.1,.int .i64 x.2.2.1,.int .i64 x.2.2.2] 55 (0,0))∧a'={tmps:=#[.agg #[.func (.func 196) #[] #[.pointer (some ⟨b1,0,none⟩)],f2],.agg #[.string s,.slice A l cap],.pointer (some ⟨n,0,none⟩),.pointer (some ⟨n+1,0,none⟩),.pointer (some ⟨n+1+1,0,none⟩),.int .i64 x.1,.pointer (some ⟨b,0,none⟩),.pointer (some ⟨n+1,1,none⟩),.slice A l cap,.func (.func 211) #[] #[.pointer (some ⟨n+1+1+1,0,none⟩)],.int .i64 x.1,opdV x.2,undef,undef,undef,undef,undef],defers:=[]})
  (fun pre x s X Y row h hg hr=>by
   obtain ⟨h0,b,h1,h2,h3⟩:=h
   exact ⟨h0,b,h1,(grownBy_keeps_cells hg (fun r e=>(hr r e).2) h2 rfl).trans h2,h3⟩)
  ?assign ?body ?done ?stop)
 case assign=>
  rintro lp pre ⟨k,t0,t1,t2⟩ W K hI hE hK
  simp only [opdV]
  gi_wp2
  refine hK _ _ ((KeepsOthers.alloc _ _).from _) (KeepN.of_below ((Below.refl (n+1+1+1+1) W).alloc (by have:=hI.2.size;omega) _) (Nat.le_refl _)) ⟨hI.1,hI.2.alloc (by have:=hI.2.size;omega) _⟩ ⟨hE,W.heap.size,by have:=hI.2.size;omega,World.alloc_heap_new W _,rfl⟩
 case body=>
  rintro lp pre ⟨k,t0,t1,t2⟩ a' W ⟨g1,g2⟩ ⟨hE,b,hb,hc,rfl⟩
  obtain ⟨e1,e2,e3⟩:=hE
  simp only at e1 e2 e3 hc
  have q0:=Lib.cell_of_heap hc 0
  have q1:=Lib.cell_of_heap hc 1
  have q2:=Lib.cell_of_heap hc 2
  have d0:=(g2.block n (by omega)).trans D0.out
  have p0:=Lib.cell_of_heap d0 0
  have his:=isIn_any b1 Ak ck ks.length ks rfl V5.out (t0,t1,t2) W (Boxed.under V1.out (by rw [zW];exact g2)) (V2.out.below (by rw [zW];exact g2))
  simp only at his
  have KL:Hid (pre.length<l):=by rw [← HL.out];exact e1
  have KE:Hid (k=l - 1 - pre.length):=by rw [← HL.out];exact e2
  have KT:Hid ((L.getD k tr0).1=t0):=by show (L.getD k tr0).1=t0;rw [← e3]
  have G:=Lib.hid (And.intro g1 (And.intro g2 hb))
  have hWb:Hid (n+4≤W.heap.size):=by have:=g2.size;show _≤_;omega
  simp only [opdV]
  by_cases hin:t0∈ks
  ·have HI:=Lib.hid hin
   rw [decide_eq_true hin] at his
   have x2:Boxed W (n+1+1) 3 (.int .i64 0):=(g2.block _ (by omega)).trans D2.out
   have X2:=Lib.hid x2
   clear hc d0 g1 g2 hb e1 e2 e3 hin x2
   gi_wp2_with fail
   refine ⟨trivial,CallsIn.inRound lp (callsIn_wide.2 his) |>.mono ?_⟩
   rintro e w' ⟨rfl,hb⟩
   have y:=Boxed.under X2.out hb
   have y5:=y.cell
   have y6:=y.frozen
   have Y:=Lib.hid y
   have BW:=Lib.hid hb
   clear his hb y
   gi_wp2
   have hb1:Below W.heap.size W w':=BW.out
   refine ⟨(keepsFrom_below hb1 _).trans (KeepsOthers.from (KeepsOthers.setCell _ _ _) _),k,?_,?_,?_⟩
   ·refine atV_last (by rw [HL.out];have:=KL.out;have:=KE.out;omega) (by rw [KT.out];exact HI.out) (fun j h1 h2=>G.out.1 j (by have:=KE.out;have:=KL.out;omega) (by rw [← HL.out];exact h2))
   ·exact Boxed.set _ Y.out
   ·exact (BN.out.trans ((G.out.2.1.mono (by omega)).trans (hb1.mono (by have:=hWb.out;omega)))).setCell (p:=⟨n+1+1,0,none⟩) (by simp;omega) _
  ·have HI:=Lib.hid hin
   rw [decide_eq_false hin] at his
   clear hc d0 g1 g2 hb e1 e2 e3 hin
   gi_wp2_with fail
   refine ⟨trivial,CallsIn.inRound lp (callsIn_wide.2 his) |>.mono ?_⟩
   rintro e w' ⟨rfl,hb⟩
   have P:Hid (KeepsFrom W0.heap.size W w'∧KeepN (n+1+1+1+1) W w'∧(∀ j,l≤j+(pre++[((k,t0,t1,t2):Nat×Tr)]).length→j<l→(L.getD j tr0).1∉ks)∧Below (n+1+1+1+1) W0 w'):=by
    refine ⟨keepsFrom_below hb _,KeepN.of_below hb hWb.out,fun j h1 h2=>?_,G.out.2.1.trans (hb.mono hWb.out)⟩
    by_cases e:j=k
    ·subst e;rw [KT.out];exact HI.out
    ·exact G.out.1 j (by have:=KE.out;have:=KL.out;simp at h1;omega) h2
   clear his hb
   gi_wp2
   exact P.out
 case done=>
  rintro D ys W hD hys ⟨g1,g2⟩ hK
  have b2:Boxed W (n+1+1) 3 (.int .i64 0):=(g2.block _ (by omega)).trans D2.out
  have y5:=b2.cell
  have y6:=b2.frozen
  have X2:=Lib.hid b2
  have HK:=Lib.hid hK
  have FN:Hid (atI ks L=-1):=by
   show atI ks L=-1
   unfold atI
   rw [atV_none (fun j hj=>g1 j (by rw [hys,HL.out];omega) (by rw [← HL.out];exact hj))]
  have BW:Hid (Below n w W):=BN.out.trans (g2.mono (by omega))
  have HD:=Lib.hid hD
  clear g1 g2 hK b2 hD hseq hys
  go_wp2
  have z1:=Boxed.set (.int .i64 (-1)) X2.out
  have z2:KeepsOthers W (W.setCell ⟨n+1+1,0,none⟩ (.int .i64 (-1))):=KeepsOthers.setCell _ _ _
  have z3:Below n w (W.setCell ⟨n+1+1,0,none⟩ (.int .i64 (-1))):=BW.out.setCell (p:=⟨n+1+1,0,none⟩) (by simp;omega) _
  obtain ⟨w2,hw2⟩:∃ w2,W.setCell ⟨n+1+1,0,none⟩ (.int .i64 (-1))=w2:=⟨_,rfl⟩
  rw [hw2] at z1 z2 z3 ⊢
  have hK2:w2.heap[D]?=some (.deferred (some [])):=z2.same D _ HK.out rfl
  have hg:=grownBy_putObj' w2 D (.deferred none)
  have hDn:=HD.out
  have q2:=(z1.kept hg (by simp;omega)).cell
  refine ⟨by simp,.inl ⟨_,_,rfl,run_takeDeferred hK2,?_⟩⟩
  refine ⟨.int .i64 (-1),?_,?_⟩
  ·simp [results,Tryz.results177,go_sem,q2]
  ·have hn0:w.heap.size=n:=HN.out
   exact ⟨by rw [FN.out],by rw [HN.out];exact z3.trans (belowK_b (w:=w) (by omega) w2 D _ _ (by omega) hK2 rfl rfl)⟩
 case stop=>
  rintro D pre W hD ⟨k,h1,h6,h7⟩ hK
  have hg:=grownBy_putObj' W D (.deferred none)
  have q2:=(h6.kept hg (by simp;omega)).cell
  have F:Hid (atI ks L=(k:Int)):=by
   show atI ks L=_
   unfold atI
   rw [h1]
  have hn0:w.heap.size=n:=HN.out
  have BB:Hid (Below w.heap.size w (W.putObj D (.deferred none))):=by
   rw [HN.out];exact h7.trans (belowK_b (w:=w) (by omega) W D _ _ (by omega) hK rfl rfl)
  have HK:=Lib.hid hK
  clear h1 h6 h7 hK hg hseq hn0
  gi_wp2
  refine ⟨by simp,.inl ⟨_,_,rfl,run_takeDeferred HK.out,?_⟩⟩
  refine ⟨.int .i64 k,?_,by rw [F.out],BB.out⟩
  simp [results,Tryz.results177,go_sem,q2]
end Go.Proofs.YtajlleeonddinaaGreatDoor
namespace Go.Proofs.YtajlleeonddinaaGreatDoor
open Go.RowKit
def kindsA:Array Value:=#[.nilFunc,.int .i64 0,.int .i64 0,.nilFunc,
 .func (.func 212) #[] #[],.int .i64 0,.int .i64 0,.func (.func 213) #[] #[],
 .func (.func 214) #[] #[],.int .i64 0,.int .i64 0,.func (.func 213) #[] #[],
 .func (.func 215) #[] #[],.int .i64 0,.int .i64 0,.func (.func 213) #[] #[],
 .func (.func 216) #[] #[],.int .i64 0,.int .i64 0,.func (.func 217) #[] #[],
 .func (.func 218) #[] #[],.int .i64 (-128),.int .i64 127,.func (.func 219) #[] #[],
 .func (.func 220) #[] #[],.int .i64 (-32768),.int .i64 65535,.func (.func 221) #[] #[],
 .func (.func 220) #[] #[],.int .i64 0,.int .i64 65535,.func (.func 222) #[] #[],
 .func (.func 223) #[] #[],.int .i64 0,.int .i64 0,.func (.func 213) #[] #[],
 .func (.func 224) #[] #[],.int .i64 0,.int .i64 0,.func (.func 213) #[] #[],
 .func (.func 220) #[] #[],.int .i64 (-128),.int .i64 127,.func (.func 225) #[] #[]]
theorem wpList_build {P:Program} {ops:Array Oper} {Q:Exit→Act→World→Prop} {o:Oper} {l:List Oper} {a:Act} {w:World} (t:TypeId) (parts:Array (Nat×Operand)) (ho:o.op=.build t parts) (hg:o.guard=none) (cells:Array Value)
  (hc:P.built t (parts.map fun (i,x)=>(i,a.eval x)).toList=some cells) (h:wpList P ops Q l (a.put o.dst (.agg cells)) w):wpList P ops Q (o :: l) a w:=by
 simp only [wpList]
 rw [if_pos (by simp [Region.wanted,hg])]
 left
 exact wp_build t parts ho (by rw [hc];rfl) (by rw [hc];exact h)
theorem kindsA_size:kindsA.size=44:=rfl
theorem kinds_any (w:World) :
  Calls Tryz.prog 199 #[] w fun e w'=>e=.returned (.agg kindsA)∧w.alloc (.cells kindsA 266)=w':=by
 have hst:∀ c:Array Value,c.size=44→(storeCells ⟨w.heap.size,0,none⟩ kindsA.toList 0).run Tryz.prog (w.alloc (.cells c 266))=.ok () (w.alloc (.cells kindsA 266)):=fun c hc=>
  run_storeCells_new w 266 c kindsA (by kernel_rfl) (by rw [hc,kindsA_size]) (by kernel_rfl)
 have hld:(loadVar 266 ⟨w.heap.size,0,none⟩).run Tryz.prog (w.alloc (.cells kindsA 266))=.ok (.agg kindsA) (w.alloc (.cells kindsA 266)):=
  run_loadVar_new w 266 kindsA 11 236 (by kernel_rfl) (by kernel_rfl)
 have hks:=kindsA_size
 go_enter Tryz.func199,Tryz.ntmps199
 go_wp2_with (with_reducible refine wpList_build (o:=⟨some 11,_,_,_,_,_⟩) _ _ rfl rfl kindsA (by kernel_rfl) ?_)
 refine bodyPost_ret (v:=.agg kindsA) ?_ rfl ⟨rfl,rfl⟩
 simp [results,Tryz.results199,asAddr,hld]
end Go.Proofs.YtajlleeonddinaaGreatDoor
