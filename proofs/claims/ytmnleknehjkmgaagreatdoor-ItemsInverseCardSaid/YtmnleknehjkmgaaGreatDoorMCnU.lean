/-
  The walk over the document's own Of: all mnemonics.
-/
import Derived.Test.YtmnleknehjkmgaaGreatDoorMCnUb
import Derived.Test.YtmnleknehjkmgaaGreatDoorMCnUc
import Derived.Test.YtmnleknehjkmgaaGreatDoorMCnUd
set_option linter.all false
set_option maxRecDepth 100000
set_option maxHeartbeats 4000000
namespace Go.Proofs.YtmnleknehjkmgaaGreatDoor
open Go.RowKit
attribute [local irreducible] Go.Mixed.wpMix
theorem wid_one {s:ByteArray} {L:List Tr} {c:Nat} (h:opc s=c) (hc:c=1∨c=2∨c=3):widL (opc s) L=1:=by
 rw [h]
 unfold widL
 rcases hc with rfl | rfl | rfl <;> simp
theorem rof_any (s:ByteArray) (A:Option Addr) (cap:Nat) (L:List Tr) (hL:L.length≤900) (w:World) (H:OpsP w A L) :
  Calls Tryz.prog 11 #[.agg #[.string s,.slice A L.length cap]] w (RetC w s (canL (opc s) L)):=by
 by_cases k3:I3 s
 ·have e3:=opc_3 k3
  exact rof_3 s A cap L hL w H (fun k=>by have:=opc_1 k;omega) (fun k=>by have:=opc_2 k;omega) k3 (wid_one e3 (.inr (.inr rfl)))
 have no1:widL (opc s) L≠1→¬I1 s:=fun h k=>h (wid_one (opc_1 k) (.inl rfl))
 have no2:widL (opc s) L≠1→¬I2 s:=fun h k=>h (wid_one (opc_2 k) (.inr (.inl rfl)))
 rcases widL_cases (opc s) L with h | h | h
 ·exact rof_w0 s A cap L hL w H (no1 (by rw [h];omega)) (no2 (by rw [h];omega)) k3 h
 ·exact rof_1 s A cap L hL w H k3 h
 ·exact rof_w2 s A cap L hL w H (no1 (by rw [h];omega)) (no2 (by rw [h];omega)) k3 h
end Go.Proofs.YtmnleknehjkmgaaGreatDoor
