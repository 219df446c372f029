/-
  What holds of each entry, for the search: by the kernel; what that says of the instructions that have one.
-/
import Derived.Test.YtajlleeonddinaaGreatDoorGAE
import Derived.Test.YtajlleeonddinaaGreatDoorGAH
import Derived.Test.YtajlleeonddinaaGreatDoorGAP
set_option linter.all false
set_option maxRecDepth 100000
set_option maxHeartbeats 4000000
namespace Go.Proofs.YtajlleeonddinaaGreatDoor
open Go.RowKit Go.Shelf
def ixT (t:Tr):Int:=
 if t.1=3∨t.1=4∨t.1=5 then (if t.2.1=5 then 5 else if t.2.1=6 then 6 else 0) else if t.1=2 then (if t.2.1=0∨t.2.1=1 then 5 else if t.2.1=2∨t.2.1=3 then 6 else 0) else 0
def ixL2 (L:List Tr):Int:=L.foldl (fun a t=>max a (ixT t)) 0
def fstB (t:Tr):Bool:=decide (t.1=2)||(decide (3≤t.1)&&decide (t.1≤5)&&(decide (t.2.1=5)||decide (t.2.1=6)))
def pgIx (page:Int):Int:=if page=3∨page=5 then 5 else if page=4∨page=6 then 6 else 0
def canB (m:Str) (L:List Tr) (ex:Str):Bool:=
 (opc (sB m) != 1||L.length != 2)&&(opc (sB m) != 2||L.length != 1)&&(opc (sB m) != 3||!(L.map ks2 == [(3,2),(3,1)])) &&
 (List.range L.length).all fun k=>(L.getD k tr0).1 != 6||(if letR ex L k=0 then decide (0≤(L.getD k tr0).2.2) else decide (0≤(rangeR (letR ex L k)).1))
def rngB (L:List Tr) (ex:Str):Bool:=(List.range L.length).all fun k=>letR ex L k == 0||(decide (loK (L.getD k tr0).1.toNat≤(rangeR (letR ex L k)).1)&&decide ((rangeR (letR ex L k)).2≤hiK (L.getD k tr0).1.toNat))
def okS (page:Int) (x:En):Bool:=
 decide (x.1.length≤10)&&decide (x.2.2.1.length≤10)&&decide (x.2.1.length≤3)&&((upB (sB x.1)).data == (sB x.1).data)&&placesB x.2.2.1 x.2.1&&decide (codeI (sB x.1) x.2.1=0)&&canB x.1 x.2.1 x.2.2.1&&rngB x.2.1 x.2.2.1 &&
 decide (ixL2 x.2.1=pgIx page)&&(x.2.1.any fstB == decide (3≤page))
def okSN (g n:Nat):Bool:=match ratT (g:Int) n with
 | some x=>okS (g:Int) x
 | none=>true
theorem okS_k:∀ g:Fin 7,∀ n:Fin 256,okSN g.val n.val=true:=by decide +kernel
theorem okS_of {page:Int} {n:Nat} (hn:n<256) {x:En} (h:ratT page n=some x):okS page x=true∧0≤page∧page≤6:=by
 by_cases hp:0≤page∧page≤6
 ·obtain ⟨g,rfl⟩:∃ g:Nat,page=(g:Int):=⟨page.toNat,by omega⟩
  have h1:=okS_k ⟨g,by omega⟩ ⟨n,hn⟩
  unfold okSN at h1
  rw [h] at h1
  exact ⟨h1,hp⟩
 ·rw [ratT_no hp] at h
  cases h
def InTab (k:Ke):Prop:=∃ n:Nat,n<256∧k.2.1=(n:Int)∧ratT k.1 n=some (k.2.2.1,k.2.2.2.1,k.2.2.2.2.1,k.2.2.2.2.2)
theorem ents_in (page:Int):∀ K,K≤256→∀ y∈entsR page K,y.1=page∧InTab y
 | 0,_,y,hy=>by cases hy
 | K+1,hK,y,hy=>by
  have ih:=ents_in page K (by omega)
  unfold entsR at hy
  cases hx:ratT page K with
  | none=>rw [hx] at hy;exact ih y hy
  | some x=>
   rw [hx] at hy
   rcases List.mem_append.1 hy with h | h
   ·exact ih y h
   ·obtain rfl:=List.mem_singleton.1 h
    exact ⟨rfl,K,by omega,rfl,hx⟩
theorem in_ents {k:Ke} (h:InTab k):∀ K:Nat,k.2.1<(K:Int)→k∈entsR k.1 K
 | 0,hK=>by obtain ⟨n,_,e,_⟩:=h;omega
 | K+1,hK=>by
  have ih:=in_ents h K
  obtain ⟨n,hn,e,hr⟩:=h
  unfold entsR
  by_cases hk:n=K
  ·subst hk
   rw [hr]
   refine List.mem_append.2 (.inr (List.mem_singleton.2 ?_))
   obtain ⟨a,b,c,d,f,g⟩:=k
   simp only at e
   subst e
   rfl
  ·have:=ih (by omega)
   cases ratT k.1 K with
   | none=>exact this
   | some x=>exact List.mem_append.2 (.inl this)
structure OkS (k:Ke):Prop where
 m:k.2.2.1.length≤10
 ex:k.2.2.2.2.1.length≤10
 len:k.2.2.2.1.length≤3
 up:upB (sB k.2.2.1)=sB k.2.2.1
 places:placesB k.2.2.2.2.1 k.2.2.2.1=true
 code:codeI (sB k.2.2.1) k.2.2.2.1=0
 can:canB k.2.2.1 k.2.2.2.1 k.2.2.2.2.1=true
 rng:rngB k.2.2.2.1 k.2.2.2.2.1=true
 ix:ixL2 k.2.2.2.1=pgIx k.1
 fst:k.2.2.2.1.any fstB=decide (3≤k.1)
 lo:0≤k.1
 hi:k.1≤6
theorem InTab.ok {k:Ke} (h:InTab k):OkS k:=by
 obtain ⟨n,hn,-,hr⟩:=h
 obtain ⟨h1,h2,h3⟩:=okS_of hn hr
 unfold okS at h1
 simp only [Bool.and_eq_true,decide_eq_true_eq,beq_iff_eq] at h1
 obtain ⟨⟨⟨⟨⟨⟨⟨⟨⟨a,b⟩,c⟩,d⟩,e⟩,f⟩,g⟩,i⟩,j⟩,l⟩:=h1
 exact ⟨a,b,c,ByteArray.ext d,e,f,g,i,j,l,h2,h3⟩
theorem ixT_idx {t:Tr} (h:vT t=true):idxI t.1 t.2.1 t.2.2=ixT t:=by
 obtain ⟨k,r,n⟩:=t
 unfold vT at h
 simp only at h ⊢
 unfold idxI ixT
 rw [if_pos h]
 have hv:=h
 unfold vldB at hv
 simp only [Bool.and_eq_true,decide_eq_true_eq] at hv
 obtain ⟨⟨⟨hk1,hk2⟩,hr⟩,hn1,hn2⟩:=hv
 have hk:k=1∨k=2∨k=3∨k=4∨k=5∨k=6∨k=7∨k=8∨k=9∨k=10:=by omega
 have hz:k=2∨k=3∨k=4→n=0:=fun h=>by
  rcases h with rfl | rfl | rfl
  ·have e1:loK (2:Int).toNat=0:=rfl
   have e2:hiK (2:Int).toNat=0:=rfl
   omega
  ·have e1:loK (3:Int).toNat=0:=rfl
   have e2:hiK (3:Int).toNat=0:=rfl
   omega
  ·have e1:loK (4:Int).toNat=0:=rfl
   have e2:hiK (4:Int).toNat=0:=rfl
   omega
 unfold inB inP
 rcases hk with rfl | rfl | rfl | rfl | rfl | rfl | rfl | rfl | rfl | rfl
 all_goals (try (have hz0:=hz (by omega);subst hz0))
 all_goals simp
 all_goals (repeat' split) <;> simp_all <;> omega
end Go.Proofs.YtajlleeonddinaaGreatDoor
