/-
  The opcodes of a list with their first patterns (pure): the array that is marked, pattern by pattern.
-/
import Derived.Test.YtmnleknehjkmgaaGreatDoorGBE
import Derived.Test.YtmnleknehjkmgaaGreatDoorGAC
import Derived.Test.YtmnleknehjkmgaaGreatDoorGAI
set_option linter.all false
set_option maxRecDepth 100000
set_option maxHeartbeats 4000000
namespace Go.Proofs.YtmnleknehjkmgaaGreatDoor
open Go.RowKit Go.Shelf
def fstF (ps:List Pat) (i:Nat):Pat:=(ps.find? fun p=>fitsP p.1 (i:Int)).getD ([],[])
def mkF (ps:List Pat) (p:Pat) (xs:List Int) (i:Nat):Pat:=if (i:Int)∈xs∧(fstF ps i).1=[] then p else fstF ps i
theorem mkF_nil (ps:List Pat) (p:Pat) (i:Nat):mkF ps p [] i=fstF ps i:=by
 unfold mkF
 rw [if_neg (by simp)]
theorem mkF_skip (ps:List Pat) (p:Pat) (xs:List Int) (x:Nat) (h:(mkF ps p xs x).1≠[]) (i:Nat):mkF ps p (xs++[(x:Int)]) i=mkF ps p xs i:=by
 unfold mkF at h ⊢
 by_cases e:i=x
 ·subst e
  by_cases h1:(fstF ps i).1=[]
  ·by_cases h2:(i:Int)∈xs
   ·rw [if_pos ⟨by simp,h1⟩,if_pos ⟨h2,h1⟩]
   ·rw [if_neg (fun k=>h2 k.1)] at h
    exact absurd h1 h
  ·rw [if_neg (fun k=>h1 k.2),if_neg (fun k=>h1 k.2)]
 ·have:((i:Int)∈xs++[(x:Int)])↔((i:Int)∈xs):=by
   simp only [List.mem_append,List.mem_singleton]
   exact ⟨fun k=>k.resolve_right (by omega),.inl⟩
  simp only [this]
theorem mkF_put (ps:List Pat) (p:Pat) (xs:List Int) (x:Nat) (h:(mkF ps p xs x).1=[]) (i:Nat):mkF ps p (xs++[(x:Int)]) i=if i=x then p else mkF ps p xs i:=by
 by_cases e:i=x
 ·subst e
  rw [if_pos rfl]
  unfold mkF at h ⊢
  by_cases h1:(fstF ps i).1=[]
  ·rw [if_pos ⟨by simp,h1⟩]
  ·rw [if_neg (fun k=>h1 k.2)] at h
   exact absurd h h1
 ·rw [if_neg e]
  unfold mkF
  have:((i:Int)∈xs++[(x:Int)])↔((i:Int)∈xs):=by
   simp only [List.mem_append,List.mem_singleton]
   exact ⟨fun k=>k.resolve_right (by omega),.inl⟩
  simp only [this]
theorem ops_fit:∀ p∈mainP++cbP++edP,okP p=true∧p.1≠[]∧∀ i:Fin 256,decide ((i.val:Int)∈opsP p)=fitsP p.1 (i.val:Int):=by decide +kernel
theorem fst_snoc (ps:List Pat) (p:Pat) (hp:p∈mainP++cbP++edP) (hps:∀ q∈ps,q∈mainP++cbP++edP) (i:Nat) (hi:i<256):mkF ps p (opsP p) i=fstF (ps++[p]) i:=by
 have h:=(ops_fit p hp).2.2 ⟨i,hi⟩
 simp only at h
 unfold mkF fstF
 rw [List.find?_append]
 cases hf:ps.find? fun p=>fitsP p.1 (i:Int) with
 | none=>
  simp only [Option.getD_none,Option.none_or,List.find?_cons,List.find?_nil]
  cases hfit:fitsP p.1 (i:Int)
  ·rw [hfit] at h
   rw [if_neg (fun k=>of_decide_eq_false h k.1)]
   rfl
  ·rw [hfit] at h
   rw [if_pos ⟨of_decide_eq_true h,trivial⟩]
   rfl
 | some q=>
  have hq:=(ops_fit q (hps q (List.mem_of_find?_eq_some hf))).2.1
  simp only [Option.getD_some,Option.some_or]
  rw [if_neg (fun k=>hq k.2)]
def codesK (ps:List Pat):Nat→List (Pat×Int)
 | 0=>[]
 | k+1=>if (fstF ps k).1=[] then codesK ps k else codesK ps k++[(fstF ps k,(k:Int))]
end Go.Proofs.YtmnleknehjkmgaaGreatDoor
