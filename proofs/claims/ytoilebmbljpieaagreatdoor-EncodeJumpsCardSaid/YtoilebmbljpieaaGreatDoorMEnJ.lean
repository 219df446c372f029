/-
  The reference's Jump.
-/
import Derived.Test.YtoilebmbljpieaaGreatDoorGAA
set_option linter.all false
set_option maxRecDepth 100000
set_option maxHeartbeats 4000000
namespace Go.Proofs.YtoilebmbljpieaaGreatDoor
open Go.RowKit
def jumpT (f t:Int):Int×Bool:=if f<0∨65535<f∨t < -200∨66000<t then (0,false) else if t - f - 2 < -128∨127<t - f - 2 then (0,false) else (t - f - 2,true)
def RetJ (w:World) (v:Int×Bool) (e:Ending) (w':World):Prop:=e=.returned (.tuple #[.int .i64 v.1,.bool v.2])∧Below w.heap.size w w'
theorem rjump_any (f t:Int) (w:World):Calls Tryz.prog 28 #[.int .i64 f,.int .i64 t] w (RetJ w (jumpT f t)):=by
 obtain ⟨v,hv⟩:∃ v,jumpT f t=v:=⟨_,rfl⟩
 have HV:=Lib.hid hv
 rw [hv]
 clear hv
 go_enter Tryz.func28,Tryz.ntmps28
 by_cases h1:f<0
 ·have E:Hid (v=(0,false)):=by show v=_;rw [← HV.out];unfold jumpT;rw [if_pos (.inl h1)]
  go_wp2
  go_ret2
  exact ⟨by rw [E.out];rfl,Below.refl _ _⟩
 by_cases h2:65535<f
 ·have E:Hid (v=(0,false)):=by show v=_;rw [← HV.out];unfold jumpT;rw [if_pos (.inr (.inl h2))]
  go_wp2
  go_ret2
  exact ⟨by rw [E.out];rfl,Below.refl _ _⟩
 by_cases h3:t < -200
 ·have E:Hid (v=(0,false)):=by show v=_;rw [← HV.out];unfold jumpT;rw [if_pos (.inr (.inr (.inl h3)))]
  go_wp2
  go_ret2
  exact ⟨by rw [E.out];rfl,Below.refl _ _⟩
 by_cases h4:66000<t
 ·have E:Hid (v=(0,false)):=by show v=_;rw [← HV.out];unfold jumpT;rw [if_pos (.inr (.inr (.inr h4)))]
  go_wp2
  go_ret2
  exact ⟨by rw [E.out];rfl,Below.refl _ _⟩
 have E0:Hid (v=if t - f - 2 < -128∨127<t - f - 2 then (0,false) else (t - f - 2,true)):=by show v=_;rw [← HV.out];unfold jumpT;rw [if_neg (by omega)]
 have W1:IntKind.i64.wrap (t - f)=t - f:=by rw [IntKind.wrap_i64];omega
 have W2:IntKind.i64.wrap (t - f - 2)=t - f - 2:=by rw [IntKind.wrap_i64];omega
 obtain ⟨d,hd⟩:∃ d,t - f - 2=d:=⟨_,rfl⟩
 rw [hd] at E0 W2
 by_cases h5:d < -128
 ·have E:Hid (v=(0,false)):=by show v=_;rw [E0.out,if_pos (.inl h5)]
  go_wp2
  go_ret2
  exact ⟨by rw [E.out];rfl,Below.refl _ _⟩
 by_cases h6:127<d
 ·have E:Hid (v=(0,false)):=by show v=_;rw [E0.out,if_pos (.inr h6)]
  go_wp2
  go_ret2
  exact ⟨by rw [E.out];rfl,Below.refl _ _⟩
 have E:Hid (v=(d,true)):=by show v=_;rw [E0.out,if_neg (by omega)]
 go_wp2
 go_ret2
 exact ⟨by rw [E.out];rfl,Below.refl _ _⟩
end Go.Proofs.YtoilebmbljpieaaGreatDoor
