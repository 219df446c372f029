/-
  Encodings are apart: none begins with that of another canonical form.
-/
import Derived.Test.YtoilebmbljpieaaGreatDoorGBP
import Derived.Test.YtoilebmbljpieaaGreatDoorGAY
set_option linter.all false
set_option maxRecDepth 100000
set_option maxHeartbeats 4000000
namespace Go.Proofs.YtoilebmbljpieaaGreatDoor
open Go.RowKit Go.Shelf
theorem enc_from {s:ByteArray} {I:List Tr} {a:Str} (h:encI s I=some a) :
  ∃ (k:Ke) (d n:Int),InTab k∧sB k.2.2.1=s∧fillV k.2.2.2.2.1 k.2.2.2.1 d n=some (canL (opc s) I)∧a=encB k.1 k.2.1 k.2.2.2.2.1 d n:=by
 unfold encI at h
 cases hf:findK (sT s) (canL (opc s) I) with
 | none=>rw [hf] at h;cases h
 | some k=>
  rw [hf] at h
  simp only [Option.map_some,Option.some.injEq] at h
  have hm:k∈candK (sT s) (canL (opc s) I):=(List.mem_filter.1 (List.mem_of_find?_eq_some hf)).1
  have hc:=cand_in hm
  have hh:hasV k.2.2.1 k.2.2.2.1 k.2.2.2.2.1 s (canL (opc s) I)=true:=by
   have:=List.find?_some hf
   unfold hasK at this
   rwa [sB_sT] at this
  exact ⟨k,_,_,hc.1,by rw [hc.2.1,sB_sT],has_fill2 hh,h.symm⟩
theorem enc_apart {s s':ByteArray} {I I':List Tr} {a b:Str} (h:encI s I=some a) (h':encI s' I'=some b) {r r':Str} (e:a++r=b++r'):s=s'∧canL (opc s) I=canL (opc s') I'∧r=r':=by
 obtain ⟨k,d,n,hk,hs,hf,rfl⟩:=enc_from h
 obtain ⟨k',d',n',hk',hs',hf',rfl⟩:=enc_from h'
 obtain ⟨rfl,rfl,rfl,er⟩:=enc_inj hk hk' hf hf' e
 refine ⟨hs.symm.trans hs',?_,er⟩
 rw [hf] at hf'
 exact Option.some.inj hf'
theorem enc_same {s s':ByteArray} {I I':List Tr} (h:s=s') (h2:canL (opc s) I=canL (opc s') I'):encI s I=encI s' I':=by
 subst h
 unfold encI
 rw [h2]
theorem enc_eq {s s':ByteArray} {I I':List Tr} {a b:Str} (h:encI s I=some a) (h':encI s' I'=some b):a=b↔s=s'∧canL (opc s) I=canL (opc s') I':=by
 constructor
 ·rintro rfl
  have:=enc_apart h h' (r:=[]) (r':=[]) rfl
  exact ⟨this.1,this.2.1⟩
 ·rintro ⟨h1,h2⟩
  have:=enc_same h1 h2
  rw [h,h'] at this
  exact Option.some.inj this
theorem enc_take {s s':ByteArray} {I I':List Tr} {a b:Str} (h:encI s I=some a) (h':encI s' I'=some b):a.take (min a.length b.length)=b.take (min a.length b.length)↔s=s'∧canL (opc s) I=canL (opc s') I':=by
 constructor
 ·intro e
  by_cases hl:a.length≤b.length
  ·rw [Nat.min_eq_left hl,List.take_length] at e
   have:=enc_apart h h' (r:=b.drop a.length) (r':=[]) (by rw [List.append_nil];conv=>{lhs;lhs;rw [e]};exact List.take_append_drop _ _)
   exact ⟨this.1,this.2.1⟩
  ·rw [Nat.min_eq_right (by omega),List.take_length] at e
   have:=enc_apart h h' (r:=[]) (r':=a.drop b.length) (by rw [List.append_nil];conv=>{rhs;lhs;rw [← e]};exact (List.take_append_drop _ _).symm)
   exact ⟨this.1,this.2.1⟩
 ·intro e
  rw [(enc_eq h h').2 e]
end Go.Proofs.YtoilebmbljpieaaGreatDoor
