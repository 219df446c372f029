/-
  encode.Jump.
-/
import Derived.Test.YtoilebmbljpieaaGreatDoorMEnJ
import Derived.Test.YtoilebmbljpieaaGreatDoorGAC
import Derived.Test.YtoilebmbljpieaaGreatDoorGAG
set_option linter.all false
set_option maxRecDepth 100000
set_option maxHeartbeats 4000000
namespace Go.Proofs.YtoilebmbljpieaaGreatDoor
open Go.RowKit
attribute [local go_sem] Oper.semAt_some
theorem fits1B (lo hi x:Int):fitsB lo hi [x]=decide (lo≤x∧x≤hi):=by
 unfold fitsB
 simp
theorem one_new (w:World) (x:Int):(w.alloc (.cells #[.int .i64 x] 3)).cell? ⟨w.heap.size,0,none⟩=some (.int .i64 x):=Lib.cell_of_heap (World.alloc_heap_new w _) 0
theorem wjump_any (f t:Int) (w:World):Calls Tryz.prog 27 #[.int .i64 f,.int .i64 t] w (RetJ w (jumpT f t)):=by
 obtain ⟨v,hv⟩:∃ v,jumpT f t=v:=⟨_,rfl⟩
 have HV:=Lib.hid hv
 rw [hv]
 clear hv
 obtain ⟨w1,hw1⟩:∃ z,w.alloc (.cells #[.int .i64 f] 3)=z:=⟨_,rfl⟩
 have y1:Below w.heap.size w w1:=by rw [← hw1];exact upA _ _
 have c1:=one_new w f
 rw [hw1] at c1
 by_cases h:0≤f∧f≤65535
 ·obtain ⟨h1,h2⟩:=h
  have F1:=fit1_any 0 65535 f w.heap.size true (by rw [fits1B];exact decide_eq_true ⟨h1,h2⟩) w1 c1
  obtain ⟨a,ha⟩:∃ a,f+2=a:=⟨_,rfl⟩
  have W1:IntKind.i64.wrap (f+2)=f+2:=by rw [IntKind.wrap_i64];omega
  have W2:IntKind.i64.wrap (a - 128)=a - 128:=by rw [IntKind.wrap_i64];omega
  have W3:IntKind.i64.wrap (a+127)=a+127:=by rw [IntKind.wrap_i64];omega
  rw [ha] at W1
  obtain ⟨w2,hw2⟩:∃ z,w1.alloc (.cells #[.int .i64 t] 3)=z:=⟨_,rfl⟩
  have y2:Below w1.heap.size w1 w2:=by rw [← hw2];exact upA _ _
  have c2:=one_new w1 t
  rw [hw2] at c2
  have B2:=Lib.hid (y1.trans (y2.mono y1.size))
  by_cases h3:a - 128≤t∧t≤a+127
  ·have F2:=fit1_any (a - 128) (a+127) t w1.heap.size true (by rw [fits1B];exact decide_eq_true h3) w2 c2
   have E:Hid (v=(t - a,true)):=by
    show v=_
    rw [← HV.out]
    unfold jumpT
    rw [if_neg (by omega),if_neg (by omega)]
    congr 1
    omega
   have W4:IntKind.i64.wrap (t - a)=t - a:=by rw [IntKind.wrap_i64];omega
   clear c1 c2 y1 y2 h1 h2 h3
   go_enter Tryz.func27,Tryz.ntmps27
   go_wp2_with fail
   refine F1.mono ?_
   rintro e w' ⟨rfl,rfl⟩
   clear F1
   go_wp2_with fail
   refine F2.mono ?_
   rintro e w' ⟨rfl,rfl⟩
   clear F2
   go_wp2
   go_ret2
   exact ⟨by rw [E.out];rfl,B2.out⟩
  ·have F2:=fit1_any (a - 128) (a+127) t w1.heap.size false (by rw [fits1B];exact decide_eq_false h3) w2 c2
   have E:Hid (v=(0,false)):=by
    show v=_
    rw [← HV.out]
    unfold jumpT
    by_cases h4:f<0∨65535<f∨t < -200∨66000<t
    ·rw [if_pos h4]
    ·rw [if_neg h4,if_pos (by omega)]
   clear c1 c2 y1 y2 h1 h2 h3
   go_enter Tryz.func27,Tryz.ntmps27
   go_wp2_with fail
   refine F1.mono ?_
   rintro e w' ⟨rfl,rfl⟩
   clear F1
   go_wp2_with fail
   refine F2.mono ?_
   rintro e w' ⟨rfl,rfl⟩
   clear F2
   go_wp2
   go_ret2
   exact ⟨by rw [E.out];rfl,B2.out⟩
 ·have F1:=fit1_any 0 65535 f w.heap.size false (by rw [fits1B];exact decide_eq_false h) w1 c1
  have E:Hid (v=(0,false)):=by show v=_;rw [← HV.out];unfold jumpT;rw [if_pos (by omega)]
  have B1:=Lib.hid y1
  clear c1 y1 h
  go_enter Tryz.func27,Tryz.ntmps27
  go_wp2_with fail
  refine F1.mono ?_
  rintro e w' ⟨rfl,rfl⟩
  clear F1
  go_wp2
  go_ret2
  exact ⟨by rw [E.out];rfl,B1.out⟩
end Go.Proofs.YtoilebmbljpieaaGreatDoor
