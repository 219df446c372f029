/-
  EncodeJumps: the walk over the law.
-/
import Derived.Test.YtoilebmbljpieaaGreatDoorMWrJ
import Derived.Test.YtoilebmbljpieaaGreatDoorGBP
set_option linter.all false
set_option maxRecDepth 100000
set_option maxHeartbeats 4000000
namespace Go.Proofs.YtoilebmbljpieaaGreatDoor
open Go.RowKit Go.Shelf
attribute [local go_sem] Oper.semAt_some
theorem walkEJ (f t:Int) (w:World) (hM:MaxAt w) :
  Calls Tryz.prog 7 #[.int .i64 f,.int .i64 t] w fun e w'=>e=.returned (.bool true)∧Below w.heap.size w w':=by
 have J:=wjump_any f t w
 have RJ:=fun w'=>rjump_any f t w'
 obtain ⟨⟨vn,vb⟩,hv⟩:∃ v,jumpT f t=v:=⟨_,rfl⟩
 rw [hv] at J RJ
 unfold RetJ at J RJ
 simp only at J RJ
 have RJ:=Lib.hid RJ
 have HM:=Lib.hid hM
 clear hv hM
 go_enter Tryz.func7,Tryz.ntmps7
 go_wp2_with fail
 refine J.mono ?_
 rintro e w1 ⟨rfl,hb⟩
 have B1:=Lib.hid hb
 have r:=RJ.out w1
 clear J RJ hb
 go_wp2_with fail
 refine r.mono ?_
 rintro e w2 ⟨rfl,hb⟩
 have B2:Hid (Below w.heap.size w w2):=B1.out.trans (hb.mono B1.out.size)
 have al:=walive_any w2 (HM.out.below B2.out)
 clear r hb B1
 go_wp2_with fail
 refine al.mono ?_
 rintro e w3 ⟨rfl,hb⟩
 have B3:Hid (Below w.heap.size w w3):=B2.out.trans (hb.mono B2.out.size)
 clear al hb B2
 have e1:(vn == vn)=true:=beq_self_eq_true _
 cases vb
 ·go_wp2
  go_ret
  exact ⟨rfl,B3.out⟩
 ·go_wp2
  go_ret
  exact ⟨rfl,B3.out⟩
end Go.Proofs.YtoilebmbljpieaaGreatDoor
