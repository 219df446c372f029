/-
  Short forms of facts of the library.
-/
import Derived.Lib.Hide
import Derived.ProofKit
import Derived.Lib.Builder
namespace Go
open RowKit
theorem RowKit.Hid.o {p : Prop} (h : RowKit.Hid p) : p := h.out
theorem N9 {h:Sort _} (a:h):∃ q,a=q:=⟨_,rfl⟩
theorem J9 {p:Prop} (h:p):RowKit.Hid p:=h
theorem C9 {w:World} {b:Nat} {cs:Array Value} {h:TypeId} {y:Nat×Nat} (q:w.heap[b]?=some (.cells cs h y)) (j:Nat):w.cell? ⟨b,j,none⟩=cs[j]?:=Lib.cell_of_heap q j
abbrev Qa:=@Nat.le_refl
abbrev Qb:=@Array.getElem?_eq_some_iff
abbrev Qc:=@Below.refl
abbrev Qd:=@Bool.and_eq_true
abbrev Qe:=@if_neg
abbrev Qf:=@decide_eq_true_eq
abbrev Qg:=@List.getElem?_eq_getElem
abbrev Qh:=@decide_eq_false
abbrev Qi:=@if_pos
abbrev Qj:=@Nat.le_trans
abbrev Qk:=@List.length_append
abbrev Ql:=@List.getD_eq_getElem?_getD
abbrev Qm:=@beq_eq_false_iff_ne
abbrev Qn:=@decide_eq_true
abbrev Qo:=@of_decide_eq_true
abbrev Qp:=@Lib.frozen_of_heap
abbrev Qq:=@World.block_lt_of_cell?
abbrev Qr:=@List.drop_succ_cons
abbrev Qs:=@Option.some.inj
abbrev Qt:=@List.length_cons
abbrev Qu:=@Nat.zero_le
abbrev Qv:=@Option.some.injEq
abbrev Qw:=@List.eq_nil_of_length_eq_zero
abbrev Qx:=@List.drop_zero
abbrev Qy:=@Value.slice.injEq
abbrev Qz:=@Nat.eq_of_beq_eq_true
abbrev QA:=@List.all_eq_true
abbrev QB:=@World.size_alloc
abbrev QC:=@List.length_map
abbrev QD:=@List.mem_cons_self
abbrev QG:=@List.mem_cons_of_mem
abbrev QH:=@List.length_take
abbrev QI:=@List.mem_singleton
abbrev QJ:=@List.getElem_mem
abbrev QL:=@List.take_succ_eq_append_getElem
abbrev QM:=@List.mem_cons
abbrev QN:=@List.getElem?_eq_some_iff
abbrev QO:=@ByteArray.toList_eq
abbrev QP:=@List.length_nil
abbrev QR:=@Array.getElem?_setIfInBounds
abbrev QS:=@Nat.le_of_ble_eq_true
abbrev QT:=@Nat.zero_add
abbrev QV:=@Nat.le_of_lt
abbrev QW:=@List.take_of_length_le
abbrev QX:=@of_decide_eq_false
abbrev QY:=@List.mem_append
abbrev QZ:=@List.mem_range
abbrev Q1:=@World.cell?_of_block
abbrev Q3:=@List.cons.injEq
abbrev Q8:=@Array.getElem?_toList
abbrev Q9:=@List.not_mem_nil
abbrev Za:=@List.append_assoc
abbrev Zb:=@And.intro
abbrev Zc:=@List.getElem?_drop
abbrev Ze:=@List.getElem_of_mem
abbrev Zf:=@Array.length_toList
abbrev Zg:=@List.map_append
abbrev Zh:=@ByteArray.size_append
abbrev Zi:=@List.getElem?_map
abbrev Zj:=@List.length_drop
abbrev Zk:=@Nat.lt_of_lt_of_le
abbrev Zl:=@Prod.mk.injEq
abbrev Zm:=@World.ownsRow_nil
abbrev Zn:=@List.cons_append
abbrev Zo:=@List.getElem_map
abbrev Zp:=@List.length_pos_iff
abbrev Zq:=@List.mem_map
abbrev Zr:=@List.getElem?_append_right
abbrev Zs:=@List.getElem?_take
abbrev Zt:=@List.take_length
abbrev Zu:=@List.append_nil
abbrev Zv:=@Bool.or_eq_true
theorem B0 {w:World} {o:Obj}:Below w.heap.size w (w.alloc o):=(Below.refl _ _).alloc (Nat.le_refl _) _
end Go
