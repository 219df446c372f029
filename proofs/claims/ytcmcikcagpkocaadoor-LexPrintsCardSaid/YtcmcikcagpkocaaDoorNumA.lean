/-
  Walks over the leaf functions of package num: capital, isDecimal, strings.IndexByte, value, Signed. For every byte: what each returns; the world is left as it was.
-/
import Derived.Test.YtcmcikcagpkocaaDoorProg
import Derived.WalkKit
import Derived.WalkSpells
import Derived.WalkLawsBesides
import Derived.Lib.Bytealg
import Derived.Lib.Hide
namespace Go.Proofs.YtcmcikcagpkocaaDoor
open Go.RowKit
set_option linter.unusedVariables false

theorem ret_int {k : IntKind} {a b : Int} (h : a = b) : Ending.returned (.int k a) = .returned (.int k b) := by rw [h]
/-- The capital letter of a byte. -/
def capI (c : Int) : Int := if 97 ≤ c ∧ c ≤ 122 then c - 32 else c
/-- Is the byte a decimal digit? -/
def decB (c : Int) : Bool := decide (48 ≤ c) && decide (c ≤ 57)

set_option maxHeartbeats 400000 in
theorem capital_any (c : Int) (h0 : 0 ≤ c) (h1 : c ≤ 255) (w : World) :
    Calls Tryd.prog 84 #[.int .u8 c] w fun e w' => e = .returned (.int .u8 (capI c)) ∧ w = w' := by
  by_cases ha : 97 ≤ c
  · by_cases hb : c ≤ 122
    · go_enter Tryd.func84, Tryd.ntmps84
      go_wp2
      go_ret
      refine ⟨?_, rfl⟩
      have e1 : capI c = c - 32 := by unfold capI; rw [if_pos ⟨ha, hb⟩]
      rw [e1]
      exact ret_int (by omega)
    · go_enter Tryd.func84, Tryd.ntmps84
      go_wp2
      go_ret
      refine ⟨?_, rfl⟩
      have e1 : capI c = c := by unfold capI; rw [if_neg (by omega)]
      rw [e1]
      rfl
  · go_enter Tryd.func84, Tryd.ntmps84
    go_wp2
    go_ret
    refine ⟨?_, rfl⟩
    have e1 : capI c = c := by unfold capI; rw [if_neg (by omega)]
    rw [e1]
    rfl

set_option maxHeartbeats 400000 in
theorem isDecimal_any (c : Int) (h0 : 0 ≤ c) (h1 : c ≤ 255) (w : World) :
    Calls Tryd.prog 81 #[.int .u8 c] w fun e w' => e = .returned (.bool (decB c)) ∧ w = w' := by
  by_cases ha : 48 ≤ c
  · have e1 : decB c = decide (c ≤ 57) := by unfold decB; simp [ha]
    rw [e1]
    go_enter Tryd.func81, Tryd.ntmps81
    go_wp2
    go_ret
    exact ⟨rfl, rfl⟩
  · have e1 : decB c = false := by unfold decB; simp [ha]
    rw [e1]
    go_enter Tryd.func81, Tryd.ntmps81
    go_wp2
    go_ret
    exact ⟨rfl, rfl⟩
set_option maxRecDepth 100000 in
set_option maxHeartbeats 4000000 in
theorem slIndexByte_any (s : ByteArray) (c : Int) (w : World) :
    Calls Tryd.prog 90 #[.string s, .int .u8 c] w fun e w' => e = .returned (.int .i64 (Lib.indexByte s.data.toList c.toNat.toUInt8)) ∧ w = w' := by
  go_enter Tryd.func90, Tryd.ntmps90
  go_wp2
  rw [run_callFunc_extern Tryd.func100 (by kernel_rfl) (by kernel_rfl) (by kernel_rfl) (e := Extern.BytealgIndexByte.indexByte) (by kernel_rfl), Lib.run_indexByteString]
  simp only [Result.andThen]
  rw [Oper.upon_value]
  go_wp2
  go_ret
  exact ⟨rfl, rfl⟩

set_option maxRecDepth 100000 in
set_option maxHeartbeats 4000000 in
theorem indexByte_any (s : ByteArray) (c : Int) (w : World) :
    Calls Tryd.prog 82 #[.string s, .int .u8 c] w fun e w' => e = .returned (.int .i64 (Lib.indexByte s.data.toList c.toNat.toUInt8)) ∧ w = w' := by
  go_enter Tryd.func82, Tryd.ntmps82
  go_wp2_with (go_at_call 90; refine (slIndexByte_any _ _ _).mono ?_; rintro e w' ⟨rfl, rfl⟩)
  go_ret
  exact ⟨rfl, rfl⟩

/-- The value of a hexadecimal digit, or -1. -/
def hexV (c : Int) : Int := if 48 ≤ c ∧ c ≤ 57 then c - 48 else if 65 ≤ c ∧ c ≤ 70 then c - 55 else if 97 ≤ c ∧ c ≤ 102 then c - 87 else -1
theorem hexV_tab : ∀ n : Fin 256, Lib.indexByte [48, 49, 50, 51, 52, 53, 54, 55, 56, 57, 65, 66, 67, 68, 69, 70] (capI (n.val : Int)).toNat.toUInt8 = hexV (n.val : Int) := by decide +kernel
theorem hexV_of (c : Int) (h0 : 0 ≤ c) (h1 : c ≤ 255) : Lib.indexByte [48, 49, 50, 51, 52, 53, 54, 55, 56, 57, 65, 66, 67, 68, 69, 70] (capI c).toNat.toUInt8 = hexV c := by
  have := hexV_tab ⟨c.toNat, by omega⟩
  have e : ((c.toNat : Nat) : Int) = c := by omega
  simp only [e] at this
  exact this
theorem capI_bd (c : Int) (h0 : 0 ≤ c) (h1 : c ≤ 255) : 0 ≤ capI c ∧ capI c ≤ 255 := by unfold capI; split <;> omega
theorem hexV_bd (c : Int) : -1 ≤ hexV c ∧ hexV c ≤ 15 := by unfold hexV; split <;> (try split) <;> (try split) <;> omega

set_option maxHeartbeats 400000 in
theorem value_any (c : Int) (h0 : 0 ≤ c) (h1 : c ≤ 255) (w : World) :
    Calls Tryd.prog 113 #[.int .u8 c] w fun e w' => e = .returned (.int .i64 (hexV c)) ∧ w = w' := by
  have H := Lib.hid (hexV_of c h0 h1)
  go_enter Tryd.func113, Tryd.ntmps113
  go_wp2_with (first | (go_at_call 84; refine (capital_any _ h0 h1 _).mono ?_; rintro e w' ⟨rfl, rfl⟩) | (go_at_call 82; refine (indexByte_any _ _ _).mono ?_; rintro e w' ⟨rfl, rfl⟩))
  go_ret
  exact ⟨ret_int H.out, rfl⟩

theorem wrapI8 (n : Int) : IntKind.i8.wrap n = if 128 ≤ n % 256 then n % 256 - 256 else n % 256 := by simp [IntKind.wrap, IntKind.bits, IntKind.signed]
/-- The number from -128 to 127 that a byte stands for. -/
def sgnI (c : Int) : Int := if c < 128 then c else c - 256

end Go.Proofs.YtcmcikcagpkocaaDoor
