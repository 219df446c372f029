/-
  Short forms of facts of the library.
-/
import Derived.Lib.Hide
import Derived.Lib.Builder
namespace Go
theorem N9 {α:Sort _} (a:α):∃ x,a=x:=⟨_,rfl⟩
theorem J9 {p:Prop} (h:p):RowKit.Hid p:=h
theorem C9 {w:World} {b:Nat} {cs:Array Value} {T:TypeId} {fr:Nat×Nat} (hb:w.heap[b]?=some (.cells cs T fr)) (j:Nat):w.cell? ⟨b,j,none⟩=cs[j]?:=Lib.cell_of_heap hb j
end Go
