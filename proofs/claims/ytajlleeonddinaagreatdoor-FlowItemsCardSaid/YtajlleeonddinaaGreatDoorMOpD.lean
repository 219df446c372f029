/-
  The walk over operand.find.
-/
import Derived.Test.YtajlleeonddinaaGreatDoorGAF
import Derived.Deep.RegionHeld3
import Derived.Deep.DrawnRows
set_option linter.all false
set_option maxRecDepth 100000
set_option maxHeartbeats 4000000
namespace Go.Proofs.YtajlleeonddinaaGreatDoor
open Go.RowKit
theorem bcell {W w1:World} (hb:Below W.heap.size W w1):(∀ b o,b<W.heap.size→w1.cell? ⟨b,o,none⟩=W.cell? ⟨b,o,none⟩)∧(∀ b o,b<W.heap.size→w1.frozen? ⟨b,o,none⟩=W.frozen? ⟨b,o,none⟩):=
 ⟨fun b o h=>hb.cell (p:=⟨b,o,none⟩) h,fun b o h=>hb.frozen (p:=⟨b,o,none⟩) h⟩
attribute [local go_sem ↓] Go.wp_at_zero Go.wp_at_succ
theorem find_kind (k:Nat) (fn ff:FuncId) (lo hi r n:Int) (s:ByteArray) (h0:1≤k) (h1:k≤10)
  (hi1:∀ w,(Instr.index 266 (.agg kindsA) (.int .i64 (k:Int))).run Tryz.prog w=.ok (.agg #[.func (.func fn) #[] #[],.int .i64 lo,.int .i64 hi,.func (.func ff) #[] #[]]) w)
  (he:∀ args w,(callFunc fn args).run Tryz.prog w=.ok (.enter fn args) w)
  (hn:∀ w,Calls Tryz.prog fn #[.int .i64 r] w fun e w'=>e=.returned (.tuple #[.string s,.bool true])∧Below w.heap.size w w')
  (hl:lo≤n) (hh:n≤hi) (w:World) :
  Calls Tryz.prog 178 #[.agg #[.int .i64 (k:Int),.int .i64 r,.int .i64 n]] w fun e w'=>
   e=.returned (.tuple #[.agg #[.func (.func fn) #[] #[],.int .i64 lo,.int .i64 hi,.func (.func ff) #[] #[]],.string s,.bool true])∧Below w.heap.size w w':=by
 have HF:=fits1_yes 1 10 (k:Int) (by omega) (by omega)
 have HG:=Lib.hid (fits1_yes lo hi n hl hh)
 have HN:=Lib.hid hn
 clear hn hl hh
 go_enter Tryz.func178,Tryz.ntmps178
 go_wp2_with fail
 refine (fit1_any 1 10 (k:Int) _ true HF _ (by simp [go_sem])).mono ?_
 rintro e w' ⟨rfl,rfl⟩
 clear HF
 go_wp2
 go_region_held3 (fun w'=>w'.cell? ⟨w.heap.size,0,none⟩=some (.int .i64 (k:Int))) (simp [go_sem]) ((go_at_call 199;refine (kinds_any _).mono ?_;rintro e w' ⟨rfl,rfl⟩))
 all_goals
  go_wp2_with fail
  refine (HN.out _).mono ?_
  rintro e w5 ⟨rfl,hb5⟩
  obtain ⟨hc5,hf5⟩:=bcell hb5
  have hz5:=hb5.size
  simp at hz5
  have z4:w.heap.size+1+1+1+1<w5.heap.size:=by omega
  have z3:w.heap.size+1+1+1<w5.heap.size:=by omega
  have z1:w.heap.size+1<w5.heap.size:=by omega
  have z0:w.heap.size<w5.heap.size:=by omega
  clear hz5
  have N:Hid (Below w.heap.size w w5):=by
   refine Below.trans ?_ (hb5.mono (by simp;omega))
   repeat (first | exact Below.refl _ _ | refine Below.drew ?_ | refine Below.alloc ?_ (by simp <;> omega) _)
  clear hb5 hi1 he
  go_wp2_with fail
  refine (fit1_any lo hi n _ true HG.out _ (by simp [go_sem])).mono ?_
  rintro e w6 ⟨rfl,rfl⟩
  go_wp2
  refine bodyPost_ret (v:=.tuple #[.agg #[.func (.func fn) #[] #[],.int .i64 lo,.int .i64 hi,.func (.func ff) #[] #[]],.string s,.bool true]) (by simp [results,Tryz.results178,go_sem,hc5,hf5,z0,z1,z3,z4]) rfl ⟨rfl,?_⟩
  exact ((((N.out.setCell (by simp) _).setCell (by simp) _).setCell (by simp) _).setCell (by simp) _).alloc (by simp;omega) _
theorem find_nameless (k:Nat) (fn ff:FuncId) (lo hi r n:Int) (s:ByteArray) (h0:1≤k) (h1:k≤10)
  (hi1:∀ w,(Instr.index 266 (.agg kindsA) (.int .i64 (k:Int))).run Tryz.prog w=.ok (.agg #[.func (.func fn) #[] #[],.int .i64 lo,.int .i64 hi,.func (.func ff) #[] #[]]) w)
  (he:∀ args w,(callFunc fn args).run Tryz.prog w=.ok (.enter fn args) w)
  (hn:∀ w,Calls Tryz.prog fn #[.int .i64 r] w fun e w'=>e=.returned (.tuple #[.string s,.bool false])∧Below w.heap.size w w')
  (w:World) :
  Calls Tryz.prog 178 #[.agg #[.int .i64 (k:Int),.int .i64 r,.int .i64 n]] w fun e w'=>
   e=.returned (.tuple #[.agg #[.nilFunc,.int .i64 0,.int .i64 0,.nilFunc],.string ⟨#[]⟩,.bool false])∧Below w.heap.size w w':=by
 have HF:=fits1_yes 1 10 (k:Int) (by omega) (by omega)
 have HN:=Lib.hid hn
 clear hn
 go_enter Tryz.func178,Tryz.ntmps178
 go_wp2_with fail
 refine (fit1_any 1 10 (k:Int) _ true HF _ (by simp [go_sem])).mono ?_
 rintro e w' ⟨rfl,rfl⟩
 clear HF
 go_wp2
 go_region_held3 (fun w'=>w'.cell? ⟨w.heap.size,0,none⟩=some (.int .i64 (k:Int))) (simp [go_sem]) ((go_at_call 199;refine (kinds_any _).mono ?_;rintro e w' ⟨rfl,rfl⟩))
 all_goals
  go_wp2_with fail
  refine (HN.out _).mono ?_
  rintro e w5 ⟨rfl,hb5⟩
  obtain ⟨hc5,hf5⟩:=bcell hb5
  have hz5:=hb5.size
  simp at hz5
  have z4:w.heap.size+1+1+1+1<w5.heap.size:=by omega
  have z3:w.heap.size+1+1+1<w5.heap.size:=by omega
  have z1:w.heap.size+1<w5.heap.size:=by omega
  have z0:w.heap.size<w5.heap.size:=by omega
  clear hz5
  have N:Hid (Below w.heap.size w w5):=by
   refine Below.trans ?_ (hb5.mono (by simp;omega))
   repeat (first | exact Below.refl _ _ | refine Below.drew ?_ | refine Below.alloc ?_ (by simp <;> omega) _)
  clear hb5 hi1 he
  go_wp2
  refine bodyPost_ret (v:=.tuple #[.agg #[.nilFunc,.int .i64 0,.int .i64 0,.nilFunc],.string ⟨#[]⟩,.bool false]) (by simp [results,Tryz.results178,go_sem,hc5,hf5,z0,z1,z3,z4]) rfl ⟨rfl,?_⟩
  exact (((N.out.setCell (by simp) _).setCell (by simp) _).setCell (by simp) _).setCell (by simp) _
theorem find_wide (k:Nat) (fn ff:FuncId) (lo hi r n:Int) (s:ByteArray) (h0:1≤k) (h1:k≤10)
  (hi1:∀ w,(Instr.index 266 (.agg kindsA) (.int .i64 (k:Int))).run Tryz.prog w=.ok (.agg #[.func (.func fn) #[] #[],.int .i64 lo,.int .i64 hi,.func (.func ff) #[] #[]]) w)
  (he:∀ args w,(callFunc fn args).run Tryz.prog w=.ok (.enter fn args) w)
  (hn:∀ w,Calls Tryz.prog fn #[.int .i64 r] w fun e w'=>e=.returned (.tuple #[.string s,.bool true])∧Below w.heap.size w w')
  (hl:n<lo∨hi<n) (w:World) :
  Calls Tryz.prog 178 #[.agg #[.int .i64 (k:Int),.int .i64 r,.int .i64 n]] w fun e w'=>
   e=.returned (.tuple #[.agg #[.nilFunc,.int .i64 0,.int .i64 0,.nilFunc],.string ⟨#[]⟩,.bool false])∧Below w.heap.size w w':=by
 have HF:=fits1_yes 1 10 (k:Int) (by omega) (by omega)
 have HG:=Lib.hid (fits1_no lo hi n hl)
 have HN:=Lib.hid hn
 clear hn hl
 go_enter Tryz.func178,Tryz.ntmps178
 go_wp2_with fail
 refine (fit1_any 1 10 (k:Int) _ true HF _ (by simp [go_sem])).mono ?_
 rintro e w' ⟨rfl,rfl⟩
 clear HF
 go_wp2
 go_region_held3 (fun w'=>w'.cell? ⟨w.heap.size,0,none⟩=some (.int .i64 (k:Int))) (simp [go_sem]) ((go_at_call 199;refine (kinds_any _).mono ?_;rintro e w' ⟨rfl,rfl⟩))
 all_goals
  go_wp2_with fail
  refine (HN.out _).mono ?_
  rintro e w5 ⟨rfl,hb5⟩
  obtain ⟨hc5,hf5⟩:=bcell hb5
  have hz5:=hb5.size
  simp at hz5
  have z4:w.heap.size+1+1+1+1<w5.heap.size:=by omega
  have z3:w.heap.size+1+1+1<w5.heap.size:=by omega
  have z1:w.heap.size+1<w5.heap.size:=by omega
  have z0:w.heap.size<w5.heap.size:=by omega
  clear hz5
  have N:Hid (Below w.heap.size w w5):=by
   refine Below.trans ?_ (hb5.mono (by simp;omega))
   repeat (first | exact Below.refl _ _ | refine Below.drew ?_ | refine Below.alloc ?_ (by simp <;> omega) _)
  clear hb5 hi1 he
  go_wp2_with fail
  refine (fit1_any lo hi n _ false HG.out _ (by simp [go_sem])).mono ?_
  rintro e w6 ⟨rfl,rfl⟩
  go_wp2
  refine bodyPost_ret (v:=.tuple #[.agg #[.nilFunc,.int .i64 0,.int .i64 0,.nilFunc],.string ⟨#[]⟩,.bool false]) (by simp [results,Tryz.results178,go_sem,hc5,hf5,z0,z1,z3,z4]) rfl ⟨rfl,?_⟩
  exact ((((N.out.setCell (by simp) _).setCell (by simp) _).setCell (by simp) _).setCell (by simp) _).alloc (by simp;omega) _
theorem find_out (k r n:Int) (h:k<1∨10<k) (w:World) :
  Calls Tryz.prog 178 #[.agg #[.int .i64 k,.int .i64 r,.int .i64 n]] w fun e w'=>
   e=.returned (.tuple #[.agg #[.nilFunc,.int .i64 0,.int .i64 0,.nilFunc],.string ⟨#[]⟩,.bool false])∧Below w.heap.size w w':=by
 have HF:=fits1_no 1 10 k h
 clear h
 go_enter Tryz.func178,Tryz.ntmps178
 go_wp2_with fail
 refine (fit1_any 1 10 k _ false HF _ (by simp [go_sem])).mono ?_
 rintro e w' ⟨rfl,rfl⟩
 clear HF
 go_wp2
 refine bodyPost_ret (v:=.tuple #[.agg #[.nilFunc,.int .i64 0,.int .i64 0,.nilFunc],.string ⟨#[]⟩,.bool false]) (by simp [results,Tryz.results178,go_sem]) rfl ⟨rfl,?_⟩
 repeat (first | exact Below.refl _ _ | refine Below.setCell ?_ (by simp) _ | refine Below.alloc ?_ (by simp <;> omega) _)
end Go.Proofs.YtajlleeonddinaaGreatDoor
