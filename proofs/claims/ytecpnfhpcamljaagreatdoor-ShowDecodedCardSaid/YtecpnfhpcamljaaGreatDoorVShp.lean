/-
  A row over laid variables whose contract is told the world's shape too; MaxLen's cell by that shape.
-/
import Derived.Shelf.Vars
import Derived.Test.YtecpnfhpcamljaaGreatDoorKAD
set_option linter.all false
set_option maxRecDepth 100000
set_option maxHeartbeats 4000000
namespace Go.Proofs.YtecpnfhpcamljaaGreatDoor
open Tryz
open Go.RowKit
variable {H:Type} {enc:TypeId×Value->H}
theorem qbu {a:Assume} {C:Checked} {os:Os} {f:FuncId} {fn:Func} {s:ChangeSpec} {O:List PathCond} {h M J G:Bool} {X:World->Array Value->Prop}
  (af:∀ (w w':World) (args:Array Value),w.heap=w'.heap->X w args->X w' args)
  (own:ownKnob C.prog.godebug=none) (V:os.Started) (ad:C.prog.inits.idxOf? f=none) (ae:C.prog.funcs[f]?=some fn)
  (ag:∃ (w:World) (g:Tape) (i:Input),w.os=os/\(w.forCall g i).Shaped C.prog/\i.vars=[]/\Input.okWide C.prog (w.forCall g i) .any w.heap.size f i/\
   ((s.pre enc C.prog fn O h (w.forCall g i).memory i.args/\X (w.forCall g i).memory i.args)/\sizedMet enc C.prog fn (OpenSpec.ofChange s) h (w.forCall g i).memory i.args)/\a.holds C.prog (lone (Frame.enter C.prog f i.args .normal) [] (w.forCall g i)))
  (body:∀ (q:World) (base:Nat) (args:Array Value) (z y:List (DataW H)) (E:List MemPlace),
   (∀ (j:Nat) t v,fn.params[j]?=some t->args[j]?=some v->Value.okWide C.prog q .any base t v)->
   DataW.Whole enc C.prog fn.params.toList s.vars h q args.toList z y E->X q args->q.ShapedOpen C.prog->
   Calls C.prog f args q fun e K=>∃ v,e=.returned v/\s.post enc C.prog fn h M J G q args v K) :
  ReturnsInHanded a C os f .any (fun w args=>(s.pre enc C.prog fn O h w args/\X w args)/\sizedMet enc C.prog fn (OpenSpec.ofChange s) h w args) (s.post enc C.prog fn h M J G):=by
 refine returnsInHanded_of_calls own V ad ag fun w g i _ ab _ W Z _=>?_
 obtain ⟨_,_,_,ai,aa,_,_,_,_,T⟩:=W;cases Qs (aa.symm.trans ae);obtain ⟨⟨⟨z,y,E,U,_⟩,ah⟩,_⟩:=Z;refine (body _ w.heap.size i.args z y E T (DataW.Whole.of_heap (w':=w.forCall g i) (by rfl) U) (af _ _ _ (by rfl) ah) ab).mono ?_;rintro e K ⟨v,rfl,ac⟩;exact ChangeSpec.post_blind ac
theorem qbg {h:World} (q:h.ShapedOpen prog):qad h:=
 cell_of_shapedOpen_int (g:=0) (t:=3) (zero:=#[.int .i64 0]) q (Qo (by kernel_rfl)) (by kernel_rfl) rfl (by kernel_rfl) (by kernel_rfl) underlying3
end Go.Proofs.YtecpnfhpcamljaaGreatDoor
