/-
  NumA, NumB, NumC, NumD, NumF, NumG, NumE, NumH, NumI, NumJ, NumK, NumL, NumM, NumN, NumO, NumP: texts joined to one.
-/
import Derived.Test.YtmeegpdjhcilkaaDoorProg
import Derived.WalkKit
import Derived.WalkSpells
import Derived.WalkLawsBesides
import Derived.Lib.Bytealg
import Derived.Lib.Hide
import Derived.OneCell
import Derived.Laws.IdiomStrings
import Derived.Lib.SlBytesRow
import Derived.Deep.OwnRows
import Derived.Laws.EntriesVeiled
import Derived.Deep.Draws
import Derived.RegionTactic
import Derived.Deep.QuietTactic
import Derived.BigQuiet
import Derived.Laws.BytesArg
/-
  Walks over the leaf functions of package num: capital, isDecimal, strings.IndexByte, value, Signed. For every byte: what each returns; the world is left as it was.
-/
namespace Go.Proofs.YtmeegpdjhcilkaaDoor
open Go.RowKit
set_option linter.unusedVariables false

theorem ret_int {k : IntKind} {a b : Int} (h : a = b) : Ending.returned (.int k a) = .returned (.int k b) := by rw [h]
/-- The capital letter of a byte. -/
def capI (c : Int) : Int := if 97 ≤ c ∧ c ≤ 122 then c - 32 else c
/-- Is the byte a decimal digit? -/
def decB (c : Int) : Bool := decide (48 ≤ c) && decide (c ≤ 57)

set_option maxHeartbeats 400000 in
theorem capital_any (c : Int) (h0 : 0 ≤ c) (h1 : c ≤ 255) (w : World) :
    Calls Tryd.prog 131 #[.int .u8 c] w fun e w' => e = .returned (.int .u8 (capI c)) ∧ w = w' := by
  by_cases ha : 97 ≤ c
  · by_cases hb : c ≤ 122
    · go_enter Tryd.func131, Tryd.ntmps131
      go_wp2
      go_ret
      refine ⟨?_, rfl⟩
      have e1 : capI c = c - 32 := by unfold capI; rw [if_pos ⟨ha, hb⟩]
      rw [e1]
      exact ret_int (by omega)
    · go_enter Tryd.func131, Tryd.ntmps131
      go_wp2
      go_ret
      refine ⟨?_, rfl⟩
      have e1 : capI c = c := by unfold capI; rw [if_neg (by omega)]
      rw [e1]
      rfl
  · go_enter Tryd.func131, Tryd.ntmps131
    go_wp2
    go_ret
    refine ⟨?_, rfl⟩
    have e1 : capI c = c := by unfold capI; rw [if_neg (by omega)]
    rw [e1]
    rfl

set_option maxRecDepth 100000 in
set_option maxHeartbeats 4000000 in
theorem slIndexByte_any (s : ByteArray) (c : Int) (w : World) :
    Calls Tryd.prog 106 #[.string s, .int .u8 c] w fun e w' => e = .returned (.int .i64 (Lib.indexByte s.data.toList c.toNat.toUInt8)) ∧ w = w' := by
  go_enter Tryd.func106, Tryd.ntmps106
  go_wp2
  rw [run_callFunc_extern Tryd.func121 (by kernel_rfl) (by kernel_rfl) (by kernel_rfl) (e := Extern.BytealgIndexByte.indexByte) (by kernel_rfl), Lib.run_indexByteString]
  simp only [Result.andThen]
  rw [Oper.upon_value]
  go_wp2
  go_ret
  exact ⟨rfl, rfl⟩

set_option maxRecDepth 100000 in
set_option maxHeartbeats 4000000 in
theorem indexByte_any (s : ByteArray) (c : Int) (w : World) :
    Calls Tryd.prog 123 #[.string s, .int .u8 c] w fun e w' => e = .returned (.int .i64 (Lib.indexByte s.data.toList c.toNat.toUInt8)) ∧ w = w' := by
  go_enter Tryd.func123, Tryd.ntmps123
  go_wp2_with (go_at_call 106; refine (slIndexByte_any _ _ _).mono ?_; rintro e w' ⟨rfl, rfl⟩)
  go_ret
  exact ⟨rfl, rfl⟩

/-- The value of a hexadecimal digit, or -1. -/
def hexV (c : Int) : Int := if 48 ≤ c ∧ c ≤ 57 then c - 48 else if 65 ≤ c ∧ c ≤ 70 then c - 55 else if 97 ≤ c ∧ c ≤ 102 then c - 87 else -1
theorem hexV_tab : ∀ n : Fin 256, Lib.indexByte [48, 49, 50, 51, 52, 53, 54, 55, 56, 57, 65, 66, 67, 68, 69, 70] (capI (n.val : Int)).toNat.toUInt8 = hexV (n.val : Int) := by decide +kernel
theorem hexV_of (c : Int) (h0 : 0 ≤ c) (h1 : c ≤ 255) : Lib.indexByte [48, 49, 50, 51, 52, 53, 54, 55, 56, 57, 65, 66, 67, 68, 69, 70] (capI c).toNat.toUInt8 = hexV c := by
  have := hexV_tab ⟨c.toNat, by omega⟩
  have e : ((c.toNat : Nat) : Int) = c := by omega
  simp only [e] at this
  exact this
theorem capI_bd (c : Int) (h0 : 0 ≤ c) (h1 : c ≤ 255) : 0 ≤ capI c ∧ capI c ≤ 255 := by unfold capI; split <;> omega
theorem hexV_bd (c : Int) : -1 ≤ hexV c ∧ hexV c ≤ 15 := by unfold hexV; split <;> (try split) <;> (try split) <;> omega

set_option maxHeartbeats 400000 in
theorem value_any (c : Int) (h0 : 0 ≤ c) (h1 : c ≤ 255) (w : World) :
    Calls Tryd.prog 130 #[.int .u8 c] w fun e w' => e = .returned (.int .i64 (hexV c)) ∧ w = w' := by
  have H := Lib.hid (hexV_of c h0 h1)
  go_enter Tryd.func130, Tryd.ntmps130
  go_wp2_with (first | (go_at_call 131; refine (capital_any _ h0 h1 _).mono ?_; rintro e w' ⟨rfl, rfl⟩) | (go_at_call 123; refine (indexByte_any _ _ _).mono ?_; rintro e w' ⟨rfl, rfl⟩))
  go_ret
  exact ⟨ret_int H.out, rfl⟩

theorem wrapI8 (n : Int) : IntKind.i8.wrap n = if 128 ≤ n % 256 then n % 256 - 256 else n % 256 := by simp [IntKind.wrap, IntKind.bits, IntKind.signed]
/-- The number from -128 to 127 that a byte stands for. -/
def sgnI (c : Int) : Int := if c < 128 then c else c - 256

end Go.Proofs.YtmeegpdjhcilkaaDoor
/-
  Walks over num.read and its closure: for every string and base (2 to 16) the number that the digits denote, or 0 and false; nothing that was there is changed.
-/
namespace Go.Proofs.YtmeegpdjhcilkaaDoor
open Go.RowKit
set_option linter.unusedVariables false

/-- One digit more. -/
def rdStep (base : Int) (o : Option Int) (c : UInt8) : Option Int :=
  o.bind fun n => if hexV (c.toNat : Int) < 0 ∨ base ≤ hexV (c.toNat : Int) then none else if n * base + hexV (c.toNat : Int) ≤ 65535 then some (n * base + hexV (c.toNat : Int)) else none
def rdL (base : Int) (l : List UInt8) : Option Int := l.foldl (rdStep base) (some 0)
theorem rdL_none (base : Int) (l : List UInt8) : l.foldl (rdStep base) none = none := by
  induction l with
  | nil => rfl
  | cons c l ih => simpa [rdStep] using ih
theorem rdL_snoc (base : Int) (l : List UInt8) (c : UInt8) : rdL base (l ++ [c]) = rdStep base (rdL base l) c := by
  unfold rdL; rw [List.foldl_append]; rfl
theorem rdL_app_none (base : Int) (l r : List UInt8) (h : rdL base l = none) : rdL base (l ++ r) = none := by
  unfold rdL at h ⊢; rw [List.foldl_append, h]; exact rdL_none base r
/-- The number that all digits denote, if they are digits, there is one, and it is not too great. -/
def rdO (base : Int) (s : ByteArray) : Option Int := if s.data.toList = [] then none else rdL base s.data.toList
def rdOk (base : Int) (s : ByteArray) : Bool := (rdO base s).isSome
def rdV (base : Int) (s : ByteArray) : Int := (rdO base s).getD 0

set_option maxHeartbeats 400000 in
/-- The closure refuses the digit. -/
theorem add_bad (c base n : Int) (p q : Addr) (h0 : 0 ≤ c) (h1 : c ≤ 255) (hv : hexV c < 0 ∨ base ≤ hexV c) (w : World)
    (hp : w.cell? p = some (.int .i64 base)) (hq : w.cell? q = some (.int .i64 n)) :
    Calls Tryd.prog 129 #[.int .u8 c, .pointer (some p), .pointer (some q)] w fun e w' => e = .returned (.bool false) ∧ w = w' := by
  by_cases ha : hexV c < 0
  · go_enter Tryd.func129, Tryd.ntmps129
    go_wp2_with (go_at_call 130; refine (value_any _ h0 h1 _).mono ?_; rintro e w' ⟨rfl, rfl⟩)
    go_ret
    exact ⟨rfl, rfl⟩
  · have hb : base ≤ hexV c := by omega
    clear hv
    go_enter Tryd.func129, Tryd.ntmps129
    go_wp2_with (go_at_call 130; refine (value_any _ h0 h1 _).mono ?_; rintro e w' ⟨rfl, rfl⟩)
    go_ret
    exact ⟨rfl, rfl⟩

set_option maxHeartbeats 400000 in
/-- The closure takes the digit. -/
theorem add_good (c base n : Int) (p q : Addr) (h0 : 0 ≤ c) (h1 : c ≤ 255) (hv0 : 0 ≤ hexV c) (hv1 : hexV c < base) (hb : base ≤ 16) (hn0 : 0 ≤ n) (hn1 : n ≤ 65535) (w : World)
    (hp : w.cell? p = some (.int .i64 base)) (hq : w.cell? q = some (.int .i64 n)) (hf : w.frozen? q = false) :
    Calls Tryd.prog 129 #[.int .u8 c, .pointer (some p), .pointer (some q)] w fun e w' => e = .returned (.bool (decide (n * base + hexV c ≤ 65535))) ∧ w.setCell q (.int .i64 (n * base + hexV c)) = w' := by
  have hbd : 0 ≤ n * base ∧ n * base ≤ 65535 * 16 := ⟨Int.mul_nonneg hn0 (by omega), Int.mul_le_mul hn1 hb (by omega) (by omega)⟩
  obtain ⟨m0, m1⟩ := hbd
  go_enter Tryd.func129, Tryd.ntmps129
  go_wp2_with (go_at_call 130; refine (value_any _ h0 h1 _).mono ?_; rintro e w' ⟨rfl, rfl⟩)
  go_ret
  exact ⟨rfl, rfl⟩

/-- What holds at the head of the loop's round k: the digits so far denote n, and the two variables hold base and n. -/
def RdRel (w : World) (base : Int) (s : ByteArray) (k : Nat) (n : Int) (wr : World) : Prop :=
  rdL base (s.data.toList.take k) = some n ∧ 0 ≤ n ∧ n ≤ 65535 ∧ wr.cell? ⟨w.heap.size, 0, none⟩ = some (.int .i64 base) ∧ wr.cell? ⟨w.heap.size + 1, 0, none⟩ = some (.int .i64 n) ∧ wr.frozen? ⟨w.heap.size + 1, 0, none⟩ = false ∧ Below w.heap.size w wr
theorem rdRel_start (w : World) (base : Int) (s : ByteArray) : RdRel w base s 0 0 ((w.alloc (.cells #[.int .i64 base] 3)).alloc (.cells #[.int .i64 0] 3)) := by
  refine ⟨rfl, by omega, by omega, ?_, ?_, ?_, ((Below.refl _ _).alloc (Nat.le_refl _) _).alloc (by simp) _⟩
  · simp [go_sem]
  · simp [go_sem]
  · simp [go_sem]

theorem take_snoc (s : ByteArray) (k : Nat) (h : k < s.size) : s.data.toList.take (k + 1) = s.data.toList.take k ++ [s[k]] := by
  rw [List.take_succ_eq_append_getElem (by simpa using h)]; rfl
theorem take_all (s : ByteArray) (k : Nat) (h : k < s.size) : s.data.toList = (s.data.toList.take k ++ [s[k]]) ++ s.data.toList.drop (k + 1) := by
  rw [← take_snoc s k h, List.take_append_drop]
theorem ne_nil_of_lt (s : ByteArray) (k : Nat) (h : k < s.size) : s.data.toList ≠ [] := by
  intro e
  have h1 : s.data.toList.length = s.size := by simp
  rw [e] at h1
  simp at h1
  omega
theorem rd_of_none (s : ByteArray) (base : Int) (k : Nat) (h : k < s.size) (hn : rdL base (s.data.toList.take k ++ [s[k]]) = none) : rdV base s = 0 ∧ rdOk base s = false := by
  have h1 : rdO base s = none := by
    unfold rdO
    rw [if_neg (ne_nil_of_lt s k h), take_all s k h]
    exact rdL_app_none base _ _ hn
  unfold rdV rdOk
  rw [h1]
  exact ⟨rfl, rfl⟩
theorem rd_bad (s : ByteArray) (base n : Int) (k : Nat) (h : k < s.size) (hr : rdL base (s.data.toList.take k) = some n) (hv : hexV (s[k].toNat : Int) < 0 ∨ base ≤ hexV (s[k].toNat : Int)) :
    rdV base s = 0 ∧ rdOk base s = false :=
  rd_of_none s base k h (by rw [rdL_snoc, hr]; unfold rdStep; simp only [Option.bind_some]; rw [if_pos hv])
theorem rd_big (s : ByteArray) (base n : Int) (k : Nat) (h : k < s.size) (hr : rdL base (s.data.toList.take k) = some n) (v0 : 0 ≤ hexV (s[k].toNat : Int)) (v1 : hexV (s[k].toNat : Int) < base)
    (hle : ¬ n * base + hexV (s[k].toNat : Int) ≤ 65535) : rdV base s = 0 ∧ rdOk base s = false :=
  rd_of_none s base k h (by rw [rdL_snoc, hr]; unfold rdStep; simp only [Option.bind_some]; rw [if_neg (by omega), if_neg hle])
theorem rd_all (s : ByteArray) (base n : Int) (hr : rdL base s.data.toList = some n) : rdV base s = n ∧ rdOk base s = !s.toList.isEmpty := by
  rw [ByteArray.toList_eq]
  unfold rdV rdOk rdO
  cases h : s.data.toList with
  | nil => rw [h] at hr; simp [rdL] at hr; subst hr; simp
  | cons a l => rw [h] at hr; simp [hr]
theorem rdRel_next (w wr : World) (base : Int) (s : ByteArray) (k : Nat) (n : Int) (h : k < s.size) (hr : RdRel w base s k n wr) (v0 : 0 ≤ hexV (s[k].toNat : Int)) (v1 : hexV (s[k].toNat : Int) < base) (hb : 0 ≤ base)
    (hle : n * base + hexV (s[k].toNat : Int) ≤ 65535) : RdRel w base s (k + 1) (n * base + hexV (s[k].toNat : Int)) (wr.setCell ⟨w.heap.size + 1, 0, none⟩ (.int .i64 (n * base + hexV (s[k].toNat : Int)))) := by
  obtain ⟨r1, r2, r3, r4, r5, r6, r7⟩ := hr
  have hm : 0 ≤ n * base := Int.mul_nonneg r2 hb
  refine ⟨?_, by omega, hle, ?_, ?_, ?_, r7.setCell (by simp) _⟩
  · rw [take_snoc s k h, rdL_snoc, r1]; unfold rdStep; simp only [Option.bind_some]; rw [if_neg (by omega), if_pos hle]
  · rw [World.cell?_setCell_other _ _ _ _ (by simp)]; exact r4
  · simp [go_sem, r5]
  · simp [go_sem, r6]
theorem ret_pair {k : IntKind} {a b : Int} {p q : Bool} (h : a = b) (h' : p = q) : Ending.returned (.tuple #[.int k a, .bool p]) = .returned (.tuple #[.int k b, .bool q]) := by rw [h, h']

set_option maxHeartbeats 1000000 in
theorem read_any (s : ByteArray) (base : Int) (hs : s.size ≤ maxLen) (hb0 : 2 ≤ base) (hb1 : base ≤ 16) (w : World) :
    Calls Tryd.prog 127 #[.string s, .int .i64 base] w fun e w' => e = .returned (.tuple #[.int .i64 (rdV base s), .bool (rdOk base s)]) ∧ Below w.heap.size w w' := by
  unfold maxLen at hs
  have hmf : ∀ (fn : Fn) (first cap : Array Value) (w : World), (Instr.makeFunc fn first cap).run Tryd.prog w = .ok (.func fn first cap) w := fun _ _ _ _ => rfl
  go_enter Tryd.func127, Tryd.ntmps127
  go_wp2
  go_loopw [12] (fun i wr => ∃ (k : Nat) (n : Int), k ≤ s.size ∧ i = .int .i64 k ∧ RdRel w base s k n wr) (fun i _ => s.size - (intOf i).toNat)
  case atStart => exact ⟨0, 0, Nat.zero_le _, rfl, rdRel_start w base s⟩
  case round =>
    obtain ⟨k, n, hk, rfl, hr⟩ := hrel
    obtain ⟨r1, r2, r3, r4, r5, r6, r7⟩ := hr
    have R1 := Lib.hid r1
    clear r1
    by_cases hlt : k < s.size
    · have c0 : (0 : Int) ≤ (s[k].toNat : Int) := by omega
      have c1 : (s[k].toNat : Int) ≤ 255 := by have := s[k].toNat_lt; omega
      by_cases hv : hexV (s[k].toNat : Int) < 0 ∨ base ≤ hexV (s[k].toNat : Int)
      · have F := rd_bad s base n k hlt R1.out hv
        have F1 := Lib.hid F.1
        have F2 := Lib.hid F.2
        clear F
        go_wp2_with (go_at_call 129; refine (add_bad _ base n _ _ c0 c1 hv _ r4 r5).mono ?_; rintro e w' ⟨rfl, rfl⟩)
        go_ret2
        exact ⟨ret_pair F1.out.symm F2.out.symm, r7⟩
      · have v0 : 0 ≤ hexV (s[k].toNat : Int) := by omega
        have v1 : hexV (s[k].toNat : Int) < base := by omega
        by_cases hle : n * base + hexV (s[k].toNat : Int) ≤ 65535
        · have N := Lib.hid (rdRel_next w wr base s k n hlt ⟨R1.out, r2, r3, r4, r5, r6, r7⟩ v0 v1 (by omega) hle)
          go_wp2_with (go_at_call 129; refine (add_good _ base n _ _ c0 c1 v0 v1 hb1 r2 r3 _ r4 r5 r6).mono ?_; rintro e w' ⟨rfl, rfl⟩)
          go_roundw
          case rel => exact ⟨k + 1, _, by omega, by go_num, N.out⟩
          case measure => simp [intOf]; omega
        · have F := rd_big s base n k hlt R1.out v0 v1 hle
          have F1 := Lib.hid F.1
          have F2 := Lib.hid F.2
          clear F
          have hd : decide (n * base + hexV (s[k].toNat : Int) ≤ 65535) = false := by simpa using hle
          go_wp2_with (go_at_call 129; refine (add_good _ base n _ _ c0 c1 v0 v1 hb1 r2 r3 _ r4 r5 r6).mono ?_; rintro e w' ⟨rfl, rfl⟩)
          go_ret2
          exact ⟨ret_pair F1.out.symm F2.out.symm, r7.setCell (by simp) _⟩
    · have F := rd_all s base n (by have := R1.out; rwa [List.take_of_length_le (by simp; omega)] at this)
      have F1 := Lib.hid F.1
      have F2 := Lib.hid F.2
      clear F
      go_wp2
      go_ret2
      exact ⟨ret_pair F1.out.symm F2.out.symm, r7⟩
end Go.Proofs.YtmeegpdjhcilkaaDoor
/-
  Walks over strings.CutPrefix, strings.CutSuffix and the functions that num.forms lists: for every word, what each cuts and whether the word has the form; the world is left as it was.
-/
namespace Go.Proofs.YtmeegpdjhcilkaaDoor
open Go.RowKit
set_option linter.unusedVariables false

theorem ret_bool {a b : Bool} (h : a = b) : Ending.returned (.bool a) = .returned (.bool b) := by rw [h]
theorem ret_str {a b : ByteArray} (h : a = b) : Ending.returned (.string a) = .returned (.string b) := by rw [h]
theorem ret_sb {a b : ByteArray} {p q : Bool} (h : a = b) (h' : p = q) : Ending.returned (.tuple #[.string a, .bool p]) = .returned (.tuple #[.string b, .bool q]) := by rw [h, h']
/-- Does s begin with p? -/
def preB (s p : ByteArray) : Bool := decide (p.size ≤ s.size) && ((s.extract 0 p.size).toList == p.toList)
/-- Does s end with p? -/
def sufB (s p : ByteArray) : Bool := decide (p.size ≤ s.size) && ((s.extract (s.size - p.size) s.size).toList == p.toList)
def cutPre (s p : ByteArray) : ByteArray := if preB s p then s.extract p.size s.size else s
def cutSuf (s p : ByteArray) : ByteArray := if sufB s p then s.extract 0 (s.size - p.size) else s
theorem preB_le {s p : ByteArray} (h : preB s p = true) : p.size ≤ s.size := by unfold preB at h; simp at h; exact h.1
theorem sufB_le {s p : ByteArray} (h : sufB s p = true) : p.size ≤ s.size := by unfold sufB at h; simp at h; exact h.1

set_option maxHeartbeats 400000 in
theorem hasPrefix_any (s p : ByteArray) (hs : s.size ≤ maxLen) (hp : p.size ≤ maxLen) (w : World) :
    Calls Tryd.prog 128 #[.string s, .string p] w fun e w' => e = .returned (.bool (preB s p)) ∧ w = w' := by
  unfold maxLen at hs hp
  by_cases h : p.size ≤ s.size
  · go_enter Tryd.func128, Tryd.ntmps128
    go_wp2
    go_ret
    exact ⟨ret_bool (by unfold preB; rw [decide_eq_true h, Bool.true_and]), rfl⟩
  · go_enter Tryd.func128, Tryd.ntmps128
    go_wp2
    go_ret
    exact ⟨ret_bool (by unfold preB; rw [decide_eq_false h, Bool.false_and]), rfl⟩

set_option maxHeartbeats 400000 in
theorem hasSuffix_any (s p : ByteArray) (hs : s.size ≤ maxLen) (hp : p.size ≤ maxLen) (w : World) :
    Calls Tryd.prog 82 #[.string s, .string p] w fun e w' => e = .returned (.bool (sufB s p)) ∧ w = w' := by
  unfold maxLen at hs hp
  by_cases h : p.size ≤ s.size
  · go_enter Tryd.func82, Tryd.ntmps82
    go_wp2
    go_ret
    exact ⟨ret_bool (by unfold sufB; rw [decide_eq_true h, Bool.true_and]), rfl⟩
  · go_enter Tryd.func82, Tryd.ntmps82
    go_wp2
    go_ret
    exact ⟨ret_bool (by unfold sufB; rw [decide_eq_false h, Bool.false_and]), rfl⟩

set_option maxHeartbeats 400000 in
theorem slCutPrefix_any (s p : ByteArray) (hs : s.size ≤ maxLen) (hp : p.size ≤ maxLen) (w : World) :
    Calls Tryd.prog 126 #[.string s, .string p] w fun e w' => e = .returned (.tuple #[.string (cutPre s p), .bool (preB s p)]) ∧ w = w' := by
  have hs0 := hs
  have hp0 := hp
  unfold maxLen at hs hp
  by_cases h : preB s p = true
  · have hl := preB_le h
    have E := Lib.hid (show cutPre s p = s.extract p.size s.size by unfold cutPre; rw [if_pos h])
    go_enter Tryd.func126, Tryd.ntmps126
    go_wp2_with (go_at_call 128; refine (hasPrefix_any _ _ hs0 hp0 _).mono ?_; rintro e w' ⟨rfl, rfl⟩)
    go_ret2
    exact ⟨ret_sb E.out.symm h.symm, rfl⟩
  · have h' : preB s p = false := by simpa using h
    have E := Lib.hid (show cutPre s p = s by unfold cutPre; rw [h']; rfl)
    clear h
    go_enter Tryd.func126, Tryd.ntmps126
    go_wp2_with (go_at_call 128; refine (hasPrefix_any _ _ hs0 hp0 _).mono ?_; rintro e w' ⟨rfl, rfl⟩)
    go_ret2
    exact ⟨ret_sb E.out.symm h'.symm, rfl⟩

set_option maxHeartbeats 400000 in
theorem cutPrefix_any (s p : ByteArray) (hs : s.size ≤ maxLen) (hp : p.size ≤ maxLen) (w : World) :
    Calls Tryd.prog 115 #[.string s, .string p] w fun e w' => e = .returned (.tuple #[.string (cutPre s p), .bool (preB s p)]) ∧ w = w' := by
  go_enter Tryd.func115, Tryd.ntmps115
  go_wp2_with (go_at_call 126; refine (slCutPrefix_any _ _ hs hp _).mono ?_; rintro e w' ⟨rfl, rfl⟩)
  go_ret2
  exact ⟨rfl, rfl⟩

/-- What the form number k cuts out of a word, and whether the word has the form. -/
def cutW (k : Nat) (u : ByteArray) : ByteArray := match k with
  | 0 => u
  | 1 => cutPre u ⟨#[48, 88]⟩
  | 2 => cutPre u ⟨#[36]⟩
  | 3 => cutSuf u ⟨#[72]⟩
  | 4 => cutSuf u ⟨#[66]⟩
  | _ => cutPre u ⟨#[37]⟩
/-- The H's form: the digits begin with a decimal digit. -/
def hexB (u : ByteArray) : Bool := sufB u ⟨#[72]⟩ && !(cutSuf u ⟨#[72]⟩).toList.isEmpty && decB (((cutSuf u ⟨#[72]⟩).data.toList.getD 0 0).toNat : Int)
def hasW (k : Nat) (u : ByteArray) : Bool := match k with
  | 0 => true
  | 1 => preB u ⟨#[48, 88]⟩
  | 2 => preB u ⟨#[36]⟩
  | 3 => hexB u
  | 4 => sufB u ⟨#[66]⟩
  | _ => preB u ⟨#[37]⟩

theorem hexB_no {u : ByteArray} (h : sufB u ⟨#[72]⟩ = false) : hexB u = false := by unfold hexB; rw [h]; rfl
theorem hexB_none {u : ByteArray} (h : (cutSuf u ⟨#[72]⟩).toList.isEmpty = true) : hexB u = false := by unfold hexB; rw [h]; simp
theorem hexB_dec {u : ByteArray} (h : sufB u ⟨#[72]⟩ = true) (h' : (cutSuf u ⟨#[72]⟩).toList.isEmpty = false) (h0 : 0 < (cutSuf u ⟨#[72]⟩).size) : hexB u = decB ((cutSuf u ⟨#[72]⟩)[0].toNat : Int) := by
  unfold hexB
  rw [h, h']
  have : (cutSuf u ⟨#[72]⟩).data.toList.getD 0 0 = (cutSuf u ⟨#[72]⟩)[0] := by
    rw [List.getD_eq_getElem?_getD, List.getElem?_eq_getElem (by simpa using h0)]; rfl
  rw [this]
  simp
theorem size_pos {s : ByteArray} (h : s.toList.isEmpty = false) : 0 < s.size := by
  rw [ByteArray.toList_eq] at h
  have h1 : s.data.toList.length = s.size := by simp
  cases hl : s.data.toList with
  | nil => rw [hl] at h; simp at h
  | cons a l => rw [hl] at h1; simp at h1; omega
end Go.Proofs.YtmeegpdjhcilkaaDoor
/-
  Walks over num.forms and num.Upper: for every string, the string with capital letters instead of a to z; nothing that was there is changed.
-/
namespace Go.Proofs.YtmeegpdjhcilkaaDoor
open Go.RowKit
set_option linter.unusedVariables false

/-- The capital letter of a byte, as a byte. -/
def capU (c : UInt8) : UInt8 := (capI (c.toNat : Int)).toNat.toUInt8
theorem capU_nat (c : UInt8) : ((capU c).toNat : Int) = capI (c.toNat : Int) := by
  have h := capI_bd (c.toNat : Int) (by omega) (by have := c.toNat_lt; omega)
  unfold capU
  have : (capI (c.toNat : Int)).toNat < 256 := by omega
  rw [UInt8.toNat_ofNat_of_lt' this]
  omega
/-- The string with capital letters. -/
def upB (s : ByteArray) : ByteArray := ⟨s.data.map capU⟩
theorem upB_size (s : ByteArray) : (upB s).size = s.size := by unfold upB; show (s.data.map capU).size = s.data.size; simp
theorem upB_at (s : ByteArray) (j : Nat) (h : j < s.size) (h' : j < (upB s).size) : (upB s)[j] = capU s[j] := by
  have h1 : (upB s).data[j]'h' = capU (s.data[j]'h) := by simp [upB]
  exact h1
theorem upB_list (s : ByteArray) : (upB s).data.toList = s.data.toList.map capU := by unfold upB; simp

/-- What holds at the head of round k: the first k bytes of the row are capital letters, the others are as in s. -/
def UpRel (w : World) (s : ByteArray) (k : Nat) (wr : World) : Prop :=
  (∀ j (h : j < s.size), wr.cell? ⟨w.heap.size, j, none⟩ = some (.int .u8 (if j < k then capI (s[j].toNat : Int) else (s[j].toNat : Int)))) ∧ (∀ j, j < s.size → wr.frozen? ⟨w.heap.size, j, none⟩ = false) ∧ Below w.heap.size w wr
theorem upRel_start (w : World) (s : ByteArray) (cap : Nat) (e : TypeId) :
    UpRel w s 0 (w.alloc (.cells (bytesRow s cap) e ((bytesRow s cap).size, (bytesRow s cap).size + 1))).drew := by
  refine ⟨fun j h => ?_, fun j h => ?_, ((Below.refl _ _).alloc (Nat.le_refl _) _).drew⟩
  · have h1 := World.cell?_alloc_mark w (bytesRow s cap) e ((bytesRow s cap).size, (bytesRow s cap).size + 1) j
    rw [bytesRow_at s cap j h] at h1
    exact h1
  · have h1 := World.frozen?_alloc_mark w (bytesRow s cap) e (bytesRow s cap).size ((bytesRow s cap).size + 1) j
    have h2 : j < (bytesRow s cap).size := by
      unfold bytesRow
      rw [Array.size_append, Array.size_map]
      have : s.data.size = s.size := rfl
      omega
    have h3 : decide ((bytesRow s cap).size ≤ j) = false := by simp; exact h2
    rw [h3, Bool.false_and] at h1
    simpa using h1
theorem upRel_next (w wr : World) (s : ByteArray) (k : Nat) (h : k < s.size) (hr : UpRel w s k wr) : UpRel w s (k + 1) (wr.setCell ⟨w.heap.size, k, none⟩ (.int .u8 (capI (s[k].toNat : Int)))) := by
  obtain ⟨r1, r2, r3⟩ := hr
  refine ⟨fun j hj => ?_, fun j hj => ?_, r3.setCell (by simp) _⟩
  · by_cases e : j = k
    · subst e
      have := r1 j hj
      rw [if_pos (by omega)]
      simp [go_sem, this]
    · rw [World.cell?_setCell_other _ _ _ _ (by simp), r1 j hj]
      by_cases h1 : j < k
      · rw [if_pos h1, if_pos (by omega)]
      · rw [if_neg h1, if_neg (by omega)]
  · simp [go_sem, r2 j hj]
theorem upRel_end (w wr : World) (s : ByteArray) (cap : Nat) (hr : UpRel w s s.size wr) :
    (convert 59 9 (.slice (some ⟨w.heap.size, 0, none⟩) s.size cap)).run Tryd.prog wr = .ok (.string (upB s)) wr := by
  have h := Lib.run_convert_whole (P := Tryd.prog) wr 59 5 9 Tryd.underlying59 Tryd.underlying5 Tryd.underlying9 w.heap.size 0 (upB s) (fun i hi => by
    have hi' : i < s.size := by rw [upB_size] at hi; exact hi
    rw [Nat.zero_add, hr.1 i hi', if_pos hi', upB_at s i hi' hi, capU_nat]) cap
  rw [upB_size] at h
  exact h

end Go.Proofs.YtmeegpdjhcilkaaDoor
/-
  Walks over num.Fits and num.Hex.
-/
namespace Go.Proofs.YtmeegpdjhcilkaaDoor
open Go.RowKit
set_option linter.unusedVariables false

/-- A slice of integers that reads as zs. -/
def IntsAt (w : World) (A : Option Addr) (zs : List Int) : Prop :=
  zs = [] ∨ ∃ b off, A = some ⟨b, off, none⟩ ∧ ∀ j (h : j < zs.length), w.cell? ⟨b, off + j, none⟩ = some (.int .i64 zs[j])
theorem IntsAt.at_ {w : World} {A : Option Addr} {zs : List Int} (h : IntsAt w A zs) {k : Nat} (hk : k < zs.length) : ∃ b off, A = some ⟨b, off, none⟩ ∧ w.cell? ⟨b, off + k, none⟩ = some (.int .i64 zs[k]) := by
  rcases h with rfl | ⟨b, off, rfl, hc⟩
  · simp at hk
  · exact ⟨b, off, rfl, hc k hk⟩
/-- Are all numbers from lo to hi? -/
def fitsB (lo hi : Int) (zs : List Int) : Bool := zs.all fun n => decide (lo ≤ n) && decide (n ≤ hi)
theorem fits_bad (lo hi : Int) (zs : List Int) (k : Nat) (h : k < zs.length) (hb : zs[k] < lo ∨ hi < zs[k]) : fitsB lo hi zs = false := by
  unfold fitsB
  rw [List.all_eq_false]
  refine ⟨zs[k], List.getElem_mem h, ?_⟩
  simp
  omega
theorem fits_all (lo hi : Int) (zs : List Int) (h : ∀ j (h : j < zs.length), lo ≤ zs[j] ∧ zs[j] ≤ hi) : fitsB lo hi zs = true := by
  unfold fitsB
  rw [List.all_eq_true]
  intro x hx
  obtain ⟨j, hj, rfl⟩ := List.getElem_of_mem hx
  have := h j hj
  simp
  omega

set_option maxHeartbeats 400000 in
theorem fits_any (lo hi : Int) (A : Option Addr) (cap : Nat) (zs : List Int) (hl : zs.length ≤ maxLen) (w : World) (hz : IntsAt w A zs) :
    Calls Tryd.prog 34 #[.int .i64 lo, .int .i64 hi, .slice A zs.length cap] w fun e w' => e = .returned (.bool (fitsB lo hi zs)) ∧ w = w' := by
  unfold maxLen at hl
  have Z := Lib.hid hz
  clear hz
  go_enter Tryd.func34, Tryd.ntmps34
  go_wp2
  go_loop [11] (fun i => ∃ k : Nat, k ≤ zs.length ∧ i = .int .i64 k ∧ Hid (∀ j (h : j < zs.length), j < k → lo ≤ zs[j] ∧ zs[j] ≤ hi)) (fun i => zs.length - (intOf i).toNat)
  case atStart => exact ⟨0, Nat.zero_le _, rfl, fun j h h' => by omega⟩
  case round =>
    obtain ⟨k, hk, rfl, R⟩ := hrel
    by_cases hlt : k < zs.length
    · obtain ⟨b, off, hA, hc⟩ := Z.out.at_ hlt
      subst hA
      by_cases h1 : zs[k] < lo
      · have F := Lib.hid (fits_bad lo hi zs k hlt (.inl h1))
        go_wp2
        go_ret
        exact ⟨ret_bool F.out.symm, rfl⟩
      · by_cases h2 : hi < zs[k]
        · have F := Lib.hid (fits_bad lo hi zs k hlt (.inr h2))
          go_wp2
          go_ret
          exact ⟨ret_bool F.out.symm, rfl⟩
        · have N : Hid (∀ j (h : j < zs.length), j < k + 1 → lo ≤ zs[j] ∧ zs[j] ≤ hi) := fun j h h' => by
            by_cases e : j = k
            · subst e; omega
            · exact R.out j h (by omega)
          go_wp2
          go_round
          case rel => exact ⟨k + 1, by omega, by go_num, N⟩
          case measure => simp [intOf]; omega
    · have F := Lib.hid (fits_all lo hi zs fun j h => R.out j h (by omega))
      go_wp2
      go_ret
      exact ⟨ret_bool F.out.symm, rfl⟩

theorem ints_one (w : World) (x : Int) (t : TypeId) : IntsAt (w.alloc (.cells #[.int .i64 x] t)) (some ⟨w.heap.size, 0, none⟩) [x] := by
  refine .inr ⟨_, _, rfl, fun j h => ?_⟩
  obtain rfl : j = 0 := by simp at h; omega
  simp [go_sem]

theorem info_u8 : (Tryd.prog.info? 5).map (fun i => (i.zero, i.size, i.bytes)) = some (some (.int .u8 0), 1, 1) := by kernel_rfl

/-- The digit with the value x. -/
def hexU (x : Int) : UInt8 := (if x < 10 then 48 + x else 55 + x).toNat.toUInt8
def hexTab : ByteArray := ⟨#[48, 49, 50, 51, 52, 53, 54, 55, 56, 57, 65, 66, 67, 68, 69, 70]⟩
theorem hexTab_at (x : Int) (h0 : 0 ≤ x) (h1 : x < 16) (h : x.toNat < hexTab.size) : hexTab[x.toNat] = hexU x := by
  have t : ∀ i : Fin 16, ∀ h : i.val < hexTab.size, hexTab[i.val] = hexU (i.val : Int) := by decide +kernel
  have := t ⟨x.toNat, by omega⟩ h
  simpa [Int.toNat_of_nonneg h0] using this
theorem and15 (x : Int) : bits .and .i64 x 15 = x % 16 := by
  show IntKind.i64.wrap ((BitVec.ofInt 64 x &&& BitVec.ofInt 64 15).toNat : Int) = _
  rw [BitVec.toNat_and, show (BitVec.ofInt 64 15).toNat = 2 ^ 4 - 1 from rfl, Nat.and_two_pow_sub_one_eq_mod, BitVec.toNat_ofInt, IntKind.wrap_i64]
  omega
/-- The digit number i from the right of n. -/
def digI (n : Int) (i : Nat) : Int := (n / 2 ^ (4 * i)) % 16
theorem digI_bd (n : Int) (i : Nat) : 0 ≤ digI n i ∧ digI n i < 16 := by unfold digI; omega
/-- The last d digits of n. -/
def hexS (n : Int) (d : Nat) : ByteArray := ⟨((List.range d).map fun j => hexU (digI n (d - 1 - j))).toArray⟩
theorem hexS_size (n : Int) (d : Nat) : (hexS n d).size = d := by show (((List.range d).map fun j => hexU (digI n (d - 1 - j))).toArray).size = d; simp
theorem hexS_at (n : Int) (d j : Nat) (h : j < (hexS n d).size) : (hexS n d)[j] = hexU (digI n (d - 1 - j)) := by
  have h1 : (hexS n d).data[j]'h = hexU (digI n (d - 1 - j)) := by simp [hexS]
  exact h1
def HexRel (w : World) (n : Int) (d k : Nat) (wr : World) : Prop :=
  (∀ j, j < d → wr.cell? ⟨w.heap.size + 1, j, none⟩ = some (.int .u8 (if d - 1 - j < k then ((hexU (digI n (d - 1 - j))).toNat : Int) else 0))) ∧ (∀ j, j < d → wr.frozen? ⟨w.heap.size + 1, j, none⟩ = false) ∧ Below w.heap.size w wr
theorem hexRel_start (w : World) (n : Int) (d : Nat) (O : Obj) (e : TypeId) : HexRel w n d 0 ((w.alloc O).alloc (.cells (madeCells #[.int .u8 0] d) e)) := by
  refine ⟨fun j h => ?_, fun j h => ?_, ((Below.refl _ _).alloc (Nat.le_refl _) _).alloc (by simp) _⟩
  · rw [if_neg (by omega)]
    simp [go_sem, madeCells, h, Nat.mod_one]
  · simp [go_sem]
theorem hexRel_next (w wr : World) (n : Int) (d k : Nat) (hk : k < d) (hr : HexRel w n d k wr) :
    HexRel w n d (k + 1) (wr.setCell ⟨w.heap.size + 1, d - 1 - k, none⟩ (.int .u8 ((hexU (digI n k)).toNat : Int))) := by
  obtain ⟨r1, r2, r3⟩ := hr
  refine ⟨fun j hj => ?_, fun j hj => ?_, r3.setCell (by simp) _⟩
  · by_cases e : j = d - 1 - k
    · subst e
      have := r1 _ hj
      have e2 : d - 1 - (d - 1 - k) = k := by omega
      rw [if_pos (by omega), e2]
      simp [go_sem, this]
    · rw [World.cell?_setCell_other _ _ _ _ (by simp), r1 j hj]
      by_cases h1 : d - 1 - j < k
      · rw [if_pos h1, if_pos (by omega)]
      · rw [if_neg h1, if_neg (by omega)]
  · simp [go_sem, r2 j hj]
theorem hexRel_end (w wr : World) (n : Int) (d cap : Nat) (hr : HexRel w n d d wr) :
    (convert 59 9 (.slice (some ⟨w.heap.size + 1, 0, none⟩) d cap)).run Tryd.prog wr = .ok (.string (hexS n d)) wr := by
  have h := Lib.run_convert_whole (P := Tryd.prog) wr 59 5 9 Tryd.underlying59 Tryd.underlying5 Tryd.underlying9 (w.heap.size + 1) 0 (hexS n d) (fun i hi => by
    have hi' : i < d := by rw [hexS_size] at hi; exact hi
    rw [Nat.zero_add, hr.1 i hi', if_pos (by omega), hexS_at n d i hi]) cap
  rw [hexS_size] at h
  exact h

set_option maxHeartbeats 400000 in
theorem hex_any (n : Int) (d : Nat) (hd : d ≤ 8) (w : World) :
    Calls Tryd.prog 73 #[.int .i64 n, .int .i64 d] w fun e w' => e = .returned (.string (hexS n d)) ∧ Below w.heap.size w w' := by
  have hF : fitsB 0 8 [(d : Int)] = true := by simp [fitsB]; omega
  have hmk := fun w => run_make_row' (P := Tryd.prog) 59 5 (.int .u8 0) 1 Tryd.underlying59 info_u8 rfl .i64 .i64 d (by omega) (by omega) w
  have S := fun O => Lib.hid (hexRel_start w n d O 5)
  go_enter Tryd.func73, Tryd.ntmps73
  go_wp2_with (go_at_call 34; refine (fits_any 0 8 _ _ [(d : Int)] (by simp [maxLen]) _ (ints_one _ _ _)).mono ?_; rintro e w' ⟨rfl, rfl⟩)
  clear hmk
  go_loopw [14] (fun i wr => ∃ k : Nat, k ≤ d ∧ i = .int .i64 k ∧ HexRel w n d k wr) (fun i _ => d - (intOf i).toNat)
  case atStart => exact ⟨0, Nat.zero_le _, rfl, (S _).out⟩
  case round =>
    obtain ⟨k, hk, rfl, hr⟩ := hrel
    have R := Lib.hid hr
    clear hr
    by_cases hlt : k < d
    · have hbit := and15 (n / 2 ^ (4 * k))
      obtain ⟨x0, x1⟩ := digI_bd n k
      have hd0 : digI n k = n / 2 ^ (4 * k) % 16 := rfl
      rw [← hd0] at hbit
      clear hd0
      obtain ⟨x, hx⟩ : ∃ x, digI n k = x := ⟨_, rfl⟩
      rw [hx] at hbit x0 x1
      have X := Lib.hid hx
      clear hx
      have g1 := R.out.1 (d - 1 - k) (by omega)
      have g2 := R.out.2.1 (d - 1 - k) (by omega)
      have N := Lib.hid (hexRel_next w wr n d k hlt R.out)
      go_wp2
      go_roundw
      case rel => exact ⟨k + 1, by omega, by go_num, by have h := N.out; rw [X.out, ← hexTab_at x x0 x1 (by show x.toNat < 16; omega)] at h; exact h⟩
      case measure => simp [intOf]; omega
    · obtain rfl : k = d := by omega
      have hback := hexRel_end w wr n k k R.out
      go_wp2
      go_ret
      exact ⟨rfl, R.out.2.2⟩
end Go.Proofs.YtmeegpdjhcilkaaDoor
/-
  Walks over strings.TrimLeft (at the cutset "0") and num.Text.
-/
namespace Go.Proofs.YtmeegpdjhcilkaaDoor
open Go.RowKit
set_option linter.unusedVariables false

theorem extract_le (s : ByteArray) (a b : Nat) : (s.extract a b).size ≤ s.size := by simp; omega
theorem bytes_ext {a b : ByteArray} (h : a.data.toList = b.data.toList) : a = b := by
  apply ByteArray.ext
  exact Array.toList_inj.1 h
def strLen : Value → Nat
  | .string s => s.size
  | _ => 0
/-- The string without the bytes c in front. -/
def trimL (c : UInt8) (s : ByteArray) : ByteArray := ⟨(s.data.toList.dropWhile (· == c)).toArray⟩
theorem list_cons (t : ByteArray) (h : 0 < t.size) : t.data.toList = t[0] :: (t.extract 1 t.size).data.toList := by
  rw [Lib.extract_data]
  have hl : 0 < t.data.toList.length := by simpa using h
  have h1 := List.drop_eq_getElem_cons hl
  rw [List.drop_zero] at h1
  rw [List.take_of_length_le (by simp), ← show t.data.toList[0] = t[0] from rfl]
  exact h1
theorem trimL_same (c : UInt8) (t : ByteArray) (h : 0 < t.size) (e : t[0] = c) : trimL c (t.extract 1 t.size) = trimL c t := by
  apply bytes_ext
  unfold trimL
  simp only [list_cons t h, List.dropWhile_cons, e, beq_self_eq_true, if_true]
theorem trimL_stop (c : UInt8) (t : ByteArray) (h : 0 < t.size) (e : ¬ t[0] = c) : trimL c t = t := by
  apply bytes_ext
  unfold trimL
  show List.dropWhile (· == c) t.data.toList = _
  rw [list_cons t h, List.dropWhile_cons]
  simp [e]
theorem trimL_nil (c : UInt8) (t : ByteArray) (h : ¬ 0 < t.size) : trimL c t = t := by
  apply bytes_ext
  have h3 : t.data.toList.length = t.size := by simp
  have h1 : t.data.toList = [] := List.eq_nil_of_length_eq_zero (by omega)
  unfold trimL
  simp [h1]

set_option maxHeartbeats 400000 in
theorem trimLeftByte_any (s : ByteArray) (c : UInt8) (hs : s.size ≤ maxLen) (w : World) :
    Calls Tryd.prog 52 #[.string s, .int .u8 (c.toNat : Int)] w fun e w' => e = .returned (.string (trimL c s)) ∧ w = w' := by
  unfold maxLen at hs
  go_enter Tryd.func52, Tryd.ntmps52
  go_wp2
  go_loop [0] (fun v => ∃ t : ByteArray, v = .string t ∧ t.size ≤ 2 ^ 63 - 1 ∧ Hid (trimL c t = trimL c s)) (fun v => strLen v)
  case atStart => exact ⟨s, rfl, hs, rfl⟩
  case round =>
    obtain ⟨t, rfl, ht, T⟩ := hrel
    by_cases h : 0 < t.size
    · have hne : ((t.size : Int) == 0) = false := by rw [beq_eq_false_iff_ne]; omega
      by_cases e : t[0] = c
      · have e1 : ((t[0].toNat : Int) == (c.toNat : Int)) = true := by rw [e]; simp
        have N : Hid (trimL c (t.extract 1 t.size) = trimL c s) := (trimL_same c t h e).trans T.out
        clear e
        go_wp2
        go_round
        case rel => exact ⟨_, rfl, Nat.le_trans (extract_le t 1 t.size) ht, N⟩
        case measure => simp [strLen]; omega
      · have e1 : ((t[0].toNat : Int) == (c.toNat : Int)) = false := by
          rw [beq_eq_false_iff_ne]
          intro h2
          exact e (UInt8.toNat_inj.1 (by omega))
        have N : Hid (t = trimL c s) := (trimL_stop c t h e).symm.trans T.out
        clear e
        go_wp2
        go_ret
        exact ⟨ret_str N.out, rfl⟩
    · have N : Hid (t = trimL c s) := (trimL_nil c t h).symm.trans T.out
      go_wp2
      go_ret
      exact ⟨ret_str N.out, rfl⟩

end Go.Proofs.YtmeegpdjhcilkaaDoor
/-
  The walk over num.Parse: for every word the number of the first form that it has, or 0 and false; nothing that was there is changed.
-/
namespace Go.Proofs.YtmeegpdjhcilkaaDoor
open Go.RowKit
set_option linter.unusedVariables false

def baseW (k : Nat) : Int := match k with
  | 0 => 10
  | 1 => 16
  | 2 => 16
  | 3 => 16
  | _ => 2
/-- The number that the word u (in capital letters) denotes in the form k. -/
def attO (k : Nat) (u : ByteArray) : Option Int := if hasW k u = true then rdO (baseW k) (cutW k u) else none
/-- The first form before k that the word has. -/
def firstO (u : ByteArray) : Nat → Option Int
  | 0 => none
  | k + 1 => (firstO u k).or (attO k u)
def parO (s : ByteArray) : Option Int := firstO (upB s) 6
def parV (s : ByteArray) : Int := (parO s).getD 0
def parOk (s : ByteArray) : Bool := (parO s).isSome
theorem first_none (u : ByteArray) (k : Nat) (h : firstO u k = none) (h' : attO k u = none) : firstO u (k + 1) = none := by show (firstO u k).or (attO k u) = none; rw [h, h']; rfl
theorem first_some (u : ByteArray) (x : Int) : ∀ (m k : Nat), k < m → firstO u k = none → attO k u = some x → firstO u m = some x
  | 0, k, h, _, _ => by omega
  | m + 1, k, h, hn, hx => by
    show (firstO u m).or (attO m u) = some x
    by_cases e : k = m
    · subst e; rw [hn, hx]; rfl
    · rw [first_some u x m k (by omega) hn hx]; rfl
theorem par_hit (s : ByteArray) (k : Nat) (hk : k < 6) (h : firstO (upB s) k = none) (hA : hasW k (upB s) = true) (hB : rdOk (baseW k) (cutW k (upB s)) = true) :
    parV s = rdV (baseW k) (cutW k (upB s)) ∧ parOk s = true := by
  unfold rdOk at hB
  obtain ⟨x, hx⟩ := Option.isSome_iff_exists.1 hB
  have h1 : parO s = some x := first_some (upB s) x 6 k hk h (by unfold attO; rw [if_pos hA]; exact hx)
  unfold parV parOk rdV
  rw [h1, hx]
  exact ⟨rfl, rfl⟩
theorem par_miss (s : ByteArray) (h : firstO (upB s) 6 = none) : parV s = 0 ∧ parOk s = false := by
  unfold parV parOk parO
  rw [h]
  exact ⟨rfl, rfl⟩
theorem att_no (k : Nat) (u : ByteArray) (hA : hasW k u = false) : attO k u = none := by unfold attO; rw [hA]; rfl
theorem att_bad (k : Nat) (u : ByteArray) (hA : hasW k u = true) (hB : rdOk (baseW k) (cutW k u) = false) : attO k u = none := by
  unfold attO rdOk at *
  rw [if_pos hA]
  simpa using hB
theorem cutW_size (k : Nat) (u : ByteArray) : (cutW k u).size ≤ u.size := by
  unfold cutW cutPre cutSuf
  split <;> (try split) <;> (first | exact Nat.le_refl _ | exact extract_le _ _ _)
theorem cutW_max (k : Nat) (u : ByteArray) (h : u.size ≤ maxLen) : (cutW k u).size ≤ maxLen := Nat.le_trans (cutW_size k u) h

end Go.Proofs.YtmeegpdjhcilkaaDoor
/-
  The walk over num.Text.
-/
namespace Go.Proofs.YtmeegpdjhcilkaaDoor
open Go.RowKit
set_option linter.unusedVariables false

/-- The digits of n without zeros in front. -/
def digS (n : Int) : ByteArray := trimL 48 (hexS n 4)
theorem hexU_48 : ∀ x : Fin 16, (hexU (x.val : Int) = 48 ↔ x.val = 0) := by decide +kernel
theorem hexU_zero (x : Int) (h0 : 0 ≤ x) (h1 : x < 16) : hexU x = 48 ↔ x = 0 := by
  have h := hexU_48 ⟨x.toNat, by omega⟩
  have e : ((x.toNat : Nat) : Int) = x := by omega
  simp only [e] at h
  rw [h]
  omega
theorem hexS4 (n : Int) : (hexS n 4).data.toList = [hexU (digI n 3), hexU (digI n 2), hexU (digI n 1), hexU (digI n 0)] := by
  unfold hexS; simp [List.range_succ]
theorem digS_cases (n : Int) (h0 : 10 ≤ n) (h1 : n ≤ 65535) :
    (4096 ≤ n ∧ (digS n).data.toList = [hexU (digI n 3), hexU (digI n 2), hexU (digI n 1), hexU (digI n 0)] ∧ 1 ≤ digI n 3) ∨
    (n < 4096 ∧ 256 ≤ n ∧ (digS n).data.toList = [hexU (digI n 2), hexU (digI n 1), hexU (digI n 0)] ∧ 1 ≤ digI n 2) ∨
    (n < 256 ∧ 16 ≤ n ∧ (digS n).data.toList = [hexU (digI n 1), hexU (digI n 0)] ∧ 1 ≤ digI n 1) ∨
    (n < 16 ∧ (digS n).data.toList = [hexU (digI n 0)] ∧ 1 ≤ digI n 0) := by
  have z3 := hexU_zero (digI n 3) (digI_bd n 3).1 (digI_bd n 3).2
  have z2 := hexU_zero (digI n 2) (digI_bd n 2).1 (digI_bd n 2).2
  have z1 := hexU_zero (digI n 1) (digI_bd n 1).1 (digI_bd n 1).2
  have z0 := hexU_zero (digI n 0) (digI_bd n 0).1 (digI_bd n 0).2
  have d3 : digI n 3 = n / 4096 % 16 := by unfold digI; simp
  have d2 : digI n 2 = n / 256 % 16 := by unfold digI; simp
  have d1 : digI n 1 = n / 16 % 16 := by unfold digI; simp
  have d0 : digI n 0 = n % 16 := by unfold digI; simp
  have hl : (digS n).data.toList = List.dropWhile (· == 48) [hexU (digI n 3), hexU (digI n 2), hexU (digI n 1), hexU (digI n 0)] := by
    unfold digS trimL; rw [hexS4]
  rw [hl]
  simp only [List.dropWhile_cons, beq_iff_eq, z3, z2, z1, z0]
  by_cases c3 : 4096 ≤ n
  · left
    rw [if_neg (by omega)]
    exact ⟨c3, rfl, by omega⟩
  · right
    rw [if_pos (by omega)]
    by_cases c2 : 256 ≤ n
    · left
      rw [if_neg (by omega)]
      exact ⟨by omega, c2, rfl, by omega⟩
    · right
      rw [if_pos (by omega)]
      by_cases c1 : 16 ≤ n
      · left
        rw [if_neg (by omega)]
        exact ⟨by omega, c1, rfl, by omega⟩
      · right
        rw [if_pos (by omega), if_neg (by omega)]
        exact ⟨by omega, rfl, by omega⟩
theorem digS_pos (n : Int) (h0 : 10 ≤ n) (h1 : n ≤ 65535) : 0 < (digS n).size := by
  have hl : (digS n).data.toList.length = (digS n).size := by simp
  rcases digS_cases n h0 h1 with ⟨_, h, _⟩ | ⟨_, _, h, _⟩ | ⟨_, _, h, _⟩ | ⟨_, h, _⟩ <;> rw [h] at hl <;> simp at hl <;> omega

theorem trimL_le (c : UInt8) (s : ByteArray) : (trimL c s).size ≤ s.size := by
  show (List.dropWhile (· == c) s.data.toList).toArray.size ≤ s.data.size
  have h := (List.dropWhile_sublist (p := (· == c)) (l := s.data.toList)).length_le
  simpa using h
theorem digS_le (n : Int) : (digS n).size ≤ 4 := by
  have h := trimL_le 48 (hexS n 4)
  rw [hexS_size] at h
  exact h
theorem hexS4_max (n : Int) : (hexS n 4).size ≤ maxLen := by rw [hexS_size]; simp [maxLen]
theorem hex4_any (n : Int) (w : World) :
    Calls Tryd.prog 73 #[.int .i64 n, .int .i64 4] w fun e w' => e = .returned (.string (hexS n 4)) ∧ Below w.heap.size w w' := hex_any n 4 (by omega) w
/-- The text of a number. -/
def textS (n : Int) : ByteArray :=
  if n < 0 ∨ 65535 < n then ⟨#[]⟩
  else if n < 10 then ⟨#[hexU n]⟩
  else if decB (((digS n).data.toList.getD 0 0).toNat : Int) then ⟨((digS n).data.toList ++ [72]).toArray⟩ else ⟨(48 :: (digS n).data.toList ++ [72]).toArray⟩
theorem fits16_yes (n : Int) (h0 : 0 ≤ n) (h1 : n ≤ 65535) : fitsB 0 65535 [n] = true := by simp [fitsB]; omega
theorem fits16_no (n : Int) (h : n < 0 ∨ 65535 < n) : fitsB 0 65535 [n] = false := by simp [fitsB]; omega
theorem text_small (n : Int) (h0 : 0 ≤ n) (h2 : n < 10) : hexTab.extract n.toNat (n + 1).toNat = textS n := by
  have t : ∀ i : Fin 10, hexTab.extract i.val (i.val + 1) = ⟨#[hexU (i.val : Int)]⟩ := by decide +kernel
  have h := t ⟨n.toNat, by omega⟩
  have e : ((n.toNat : Nat) : Int) = n := by omega
  have e2 : (n + 1).toNat = n.toNat + 1 := by omega
  simp only [e] at h
  unfold textS
  rw [if_neg (by omega), if_pos h2, e2]
  exact h
theorem getD0 (t : ByteArray) (h : 0 < t.size) : t.data.toList.getD 0 0 = t[0] := by
  rw [List.getD_eq_getElem?_getD, List.getElem?_eq_getElem (by simpa using h)]; rfl
theorem append_data (a b : ByteArray) : (a ++ b).data.toList = a.data.toList ++ b.data.toList := by simp
theorem text_dec (n : Int) (h0 : 10 ≤ n) (h1 : n ≤ 65535) (hp : 0 < (digS n).size) (h3 : decB ((digS n)[0].toNat : Int) = true) : digS n ++ ⟨#[72]⟩ = textS n := by
  apply bytes_ext
  unfold textS
  rw [if_neg (by omega), if_neg (by omega), getD0 _ hp, h3, append_data]
  simp
theorem text_let (n : Int) (h0 : 10 ≤ n) (h1 : n ≤ 65535) (hp : 0 < (digS n).size) (h3 : decB ((digS n)[0].toNat : Int) = false) : (⟨#[48]⟩ ++ digS n) ++ ⟨#[72]⟩ = textS n := by
  apply bytes_ext
  unfold textS
  rw [if_neg (by omega), if_neg (by omega), getD0 _ hp, h3, append_data, append_data]
  simp

end Go.Proofs.YtmeegpdjhcilkaaDoor
/-
  Walks over the document's own answers (package breadboardref01): digit, value, Hex, Text, Signed: each returns what the walks over package num return.
-/
namespace Go.Proofs.YtmeegpdjhcilkaaDoor
open Go.RowKit
set_option linter.unusedVariables false

/-- The value of a digit, or 99. -/
def digV (c : Int) : Int := if 48 ≤ c ∧ c ≤ 57 then c - 48 else if 97 ≤ c ∧ c ≤ 102 then c - 87 else if 65 ≤ c ∧ c ≤ 70 then c - 55 else 99
set_option maxHeartbeats 400000 in
theorem rdigit_any (c : Int) (h0 : 0 ≤ c) (h1 : c ≤ 255) (w : World) :
    Calls Tryd.prog 125 #[.int .u8 c] w fun e w' => e = .returned (.int .i64 (digV c)) ∧ w = w' := by
  by_cases a1 : 48 ≤ c ∧ c ≤ 57
  · have D := Lib.hid (show c - 48 = digV c by unfold digV; rw [if_pos a1])
    obtain ⟨b0, b1⟩ := a1
    go_enter Tryd.func125, Tryd.ntmps125
    go_wp2
    go_ret
    exact ⟨ret_int (by have := D.out; omega), rfl⟩
  · by_cases a2 : 97 ≤ c ∧ c ≤ 102
    · have D := Lib.hid (show c - 87 = digV c by unfold digV; rw [if_neg a1, if_pos a2])
      obtain ⟨b0, b1⟩ := a2
      clear a1
      go_enter Tryd.func125, Tryd.ntmps125
      go_wp2
      go_ret
      exact ⟨ret_int (by have := D.out; omega), rfl⟩
    · by_cases a3 : 65 ≤ c ∧ c ≤ 70
      · have D := Lib.hid (show c - 55 = digV c by unfold digV; rw [if_neg a1, if_neg a2, if_pos a3])
        obtain ⟨b0, b1⟩ := a3
        clear a1 a2
        go_enter Tryd.func125, Tryd.ntmps125
        go_wp2
        go_ret
        exact ⟨ret_int (by have := D.out; omega), rfl⟩
      · have D := Lib.hid (show 99 = digV c by unfold digV; rw [if_neg a1, if_neg a2, if_neg a3])
        have b : c < 48 ∨ (57 < c ∧ c < 65) ∨ (70 < c ∧ c < 97) ∨ 102 < c := by omega
        clear a1 a2 a3
        rcases b with b | ⟨b, b'⟩ | ⟨b, b'⟩ | b
        all_goals
          go_enter Tryd.func125, Tryd.ntmps125
          go_wp2
          go_ret
          exact ⟨ret_int D.out, rfl⟩
theorem hexTab_cut (x : Int) (h0 : 0 ≤ x) (h1 : x < 16) : hexTab.extract x.toNat (x + 1).toNat = ⟨#[hexU x]⟩ := by
  have t : ∀ i : Fin 16, hexTab.extract i.val (i.val + 1) = ⟨#[hexU (i.val : Int)]⟩ := by decide +kernel
  have h := t ⟨x.toNat, by omega⟩
  have e : ((x.toNat : Nat) : Int) = x := by omega
  have e2 : (x + 1).toNat = x.toNat + 1 := by omega
  simp only [e] at h
  rw [e2]
  exact h
theorem hexS_succ (n : Int) (k : Nat) : (hexS n (k + 1)).data.toList = hexU (digI n k) :: (hexS n k).data.toList := by
  have e : (List.range (k + 1)).map (fun j => hexU (digI n (k + 1 - 1 - j))) = hexU (digI n k) :: (List.range k).map fun j => hexU (digI n (k - 1 - j)) := by
    rw [List.range_succ_eq_map, List.map_cons, List.map_map]
    congr 1
    apply List.map_congr_left
    intro j hj
    have := List.mem_range.1 hj
    show hexU (digI n (k + 1 - 1 - (j + 1))) = _
    rw [show k + 1 - 1 - (j + 1) = k - 1 - j by omega]
  unfold hexS
  simpa using e
theorem digI_of (n m : Int) (k : Nat) (h : m = n / 2 ^ (4 * k)) : m % 16 = digI n k := by unfold digI; rw [h]
theorem shr_next (n m : Int) (k : Nat) (h : m = n / 2 ^ (4 * k)) : m / 16 = n / 2 ^ (4 * (k + 1)) := by
  rw [h, Int.ediv_ediv_of_nonneg (by exact Int.pow_nonneg (by omega)), show (2 : Int) ^ (4 * (k + 1)) = 2 ^ (4 * k) * 16 by rw [Nat.mul_add, Int.pow_add]; rfl]
set_option maxHeartbeats 400000 in
theorem rhex_any (n : Int) (d : Nat) (hd : d ≤ 8) (w : World) :
    Calls Tryd.prog 105 #[.int .i64 n, .int .i64 d] w fun e w' => e = .returned (.string (hexS n d)) ∧ w = w' := by
  go_enter Tryd.func105, Tryd.ntmps105
  go_wp2
  go_loop [0, 5, 6] (fun a s i => ∃ (k : Nat) (m : Int) (t : ByteArray), k ≤ d ∧ i = .int .i64 k ∧ a = .int .i64 m ∧ s = .string t ∧ t.size ≤ 8 ∧ Hid (m = n / 2 ^ (4 * k)) ∧ Hid (t = hexS n k)) (fun _ _ i => d - (intOf i).toNat)
  case atStart => exact ⟨0, n, ⟨#[]⟩, Nat.zero_le _, rfl, rfl, rfl, by decide, by show n = n / 2 ^ (4 * 0); simp, rfl⟩
  case round =>
    obtain ⟨k, m, t, hk, rfl, rfl, rfl, ht, M, T⟩ := hrel
    by_cases hlt : k < d
    · have hbit := and15 m
      obtain ⟨x0, x1⟩ := digI_bd n k
      rw [digI_of n m k M.out] at hbit
      obtain ⟨x, hx⟩ : ∃ x, digI n k = x := ⟨_, rfl⟩
      rw [hx] at hbit x0 x1
      have N : Hid (hexTab.extract x.toNat (x + 1).toNat ++ t = hexS n (k + 1)) := by
        rw [hexTab_cut x x0 x1]
        apply bytes_ext
        rw [append_data, hexS_succ, T.out, hx]
        rfl
      clear hx
      go_wp2
      go_round
      case rel => exact ⟨k + 1, _, _, by omega, by go_num, rfl, rfl, by show (hexTab.extract x.toNat (x + 1).toNat ++ t).size ≤ 8; rw [N.out, hexS_size]; omega, shr_next n m k M.out, N⟩
      case measure => simp [intOf]; omega
    · have T' : Hid (t = hexS n d) := by have h := T.out; rwa [show k = d by omega] at h
      go_wp2
      go_ret
      exact ⟨ret_str T'.out, rfl⟩
end Go.Proofs.YtmeegpdjhcilkaaDoor
/-
  Walks over the document's own answers (package breadboardref01): Text and value.
-/
namespace Go.Proofs.YtmeegpdjhcilkaaDoor
open Go.RowKit
set_option linter.unusedVariables false

theorem hexU_dec : ∀ x : Fin 16, (decB ((hexU (x.val : Int)).toNat : Int) = decide (x.val < 10)) ∧ (decide (65 ≤ (hexU (x.val : Int)).toNat) = decide (10 ≤ x.val)) := by decide +kernel
theorem hexU_let (x : Int) (h0 : 0 ≤ x) (h1 : x < 16) : decB ((hexU x).toNat : Int) = !decide ((65 : Int) ≤ ((hexU x).toNat : Int)) := by
  have h := hexU_dec ⟨x.toNat, by omega⟩
  have e : ((x.toNat : Nat) : Int) = x := by omega
  simp only [e] at h
  rw [h.1]
  have h2 := h.2
  by_cases c : x.toNat < 10
  · have : ¬ 65 ≤ (hexU x).toNat := by
      intro h3
      rw [decide_eq_true h3] at h2
      have := of_decide_eq_true h2.symm
      omega
    have h4 : ¬ (65 : Int) ≤ ((hexU x).toNat : Int) := by omega
    rw [decide_eq_true c, decide_eq_false h4]; rfl
  · have : 65 ≤ (hexU x).toNat := by
      rw [decide_eq_true (show 10 ≤ x.toNat by omega)] at h2
      exact of_decide_eq_true h2
    have h4 : (65 : Int) ≤ ((hexU x).toNat : Int) := by omega
    rw [decide_eq_false c, decide_eq_true h4]; rfl
theorem head_of (t : ByteArray) (h : 0 < t.size) (a : UInt8) (l : List UInt8) (e : t.data.toList = a :: l) : t[0] = a := by
  have h1 : t.data.toList[0]'(by simpa using h) = t[0] := rfl
  rw [← h1]
  simp [e]
theorem digS_head (n : Int) (h0 : 10 ≤ n) (h1 : n ≤ 65535) (hp : 0 < (digS n).size) : ∃ i, (digS n)[0] = hexU (digI n i) := by
  rcases digS_cases n h0 h1 with ⟨_, h, _⟩ | ⟨_, _, h, _⟩ | ⟨_, _, h, _⟩ | ⟨_, h, _⟩
  · exact ⟨_, head_of _ hp _ _ h⟩
  · exact ⟨_, head_of _ hp _ _ h⟩
  · exact ⟨_, head_of _ hp _ _ h⟩
  · exact ⟨_, head_of _ hp _ _ h⟩
theorem digS_let (n : Int) (h0 : 10 ≤ n) (h1 : n ≤ 65535) (hp : 0 < (digS n).size) : decB ((digS n)[0].toNat : Int) = !decide ((65 : Int) ≤ ((digS n)[0].toNat : Int)) := by
  obtain ⟨i, e⟩ := digS_head n h0 h1 hp
  rw [e]
  exact hexU_let _ (digI_bd n i).1 (digI_bd n i).2
theorem rhex4_any (n : Int) (w : World) :
    Calls Tryd.prog 105 #[.int .i64 n, .int .i64 4] w fun e w' => e = .returned (.string (hexS n 4)) ∧ w = w' := rhex_any n 4 (by omega) w
theorem hexS_one (n : Int) (h0 : 0 ≤ n) (h2 : n < 10) : hexS n 1 = textS n := by
  apply bytes_ext
  rw [hexS_succ]
  unfold textS
  rw [if_neg (by omega), if_pos h2]
  have : digI n 0 = n := by unfold digI; simp; omega
  rw [this]
  rfl
theorem rhex1_any (n : Int) (h0 : 0 ≤ n) (h2 : n < 10) (w : World) :
    Calls Tryd.prog 105 #[.int .i64 n, .int .i64 1] w fun e w' => e = .returned (.string (textS n)) ∧ w = w' := by
  have h := rhex_any n 1 (by omega) w
  rw [hexS_one n h0 h2] at h
  exact h

theorem digV_bad (c base : Int) (hb0 : 0 ≤ base) (hb : base ≤ 16) : base ≤ digV c ↔ (hexV c < 0 ∨ base ≤ hexV c) := by
  unfold digV hexV; split <;> (try split) <;> (try split) <;> (try split) <;> (try split) <;> omega
theorem digV_good (c : Int) (h : 0 ≤ hexV c) : digV c = hexV c := by
  unfold digV hexV at *; split <;> (try split) <;> (try split) <;> (try split) <;> (try split) <;> (try split at h) <;> omega
theorem digV_bd (c : Int) : 0 ≤ digV c ∧ digV c ≤ 99 := by unfold digV; split <;> (try split) <;> (try split) <;> omega
/-- What holds of the number m so far, at the head of round k: it is the number that the digits denote, or both are too great. -/
def ValRel (base : Int) (s : ByteArray) (k : Nat) (m : Int) : Prop :=
  0 ≤ m ∧ m ≤ 1000000 ∧ ((rdL base (s.data.toList.take k) = some m ∧ m ≤ 65535) ∨ (rdL base (s.data.toList.take k) = none ∧ 65535 < m))
def refV (base : Int) (s : ByteArray) : Int := (rdO base s).getD (-1)
theorem refV_bad (s : ByteArray) (base m : Int) (k : Nat) (h : k < s.size) (hr : ValRel base s k m) (hv : hexV (s[k].toNat : Int) < 0 ∨ base ≤ hexV (s[k].toNat : Int)) : refV base s = -1 := by
  have hn : rdL base (s.data.toList.take k ++ [s[k]]) = none := by
    rcases hr.2.2 with ⟨h1, _⟩ | ⟨h1, _⟩
    · rw [rdL_snoc, h1]; unfold rdStep; simp only [Option.bind_some]; rw [if_pos hv]
    · exact rdL_app_none base _ _ h1
  have h1 : rdO base s = none := by
    unfold rdO
    rw [if_neg (ne_nil_of_lt s k h), take_all s k h]
    exact rdL_app_none base _ _ hn
  unfold refV
  rw [h1]
  rfl
theorem valRel_next (s : ByteArray) (base m : Int) (k : Nat) (h : k < s.size) (hb : 2 ≤ base) (hr : ValRel base s k m) (v0 : 0 ≤ hexV (s[k].toNat : Int)) (v1 : hexV (s[k].toNat : Int) < base) :
    ValRel base s (k + 1) (min (m * base + hexV (s[k].toNat : Int)) 1000000) := by
  obtain ⟨r0, r1, r2⟩ := hr
  have hm : m * 2 ≤ m * base := Int.mul_le_mul_of_nonneg_left hb r0
  refine ⟨by omega, by omega, ?_⟩
  rcases r2 with ⟨h1, h2⟩ | ⟨h1, h2⟩
  · by_cases hle : m * base + hexV (s[k].toNat : Int) ≤ 65535
    · left
      rw [take_snoc s k h, rdL_snoc, h1]
      unfold rdStep
      simp only [Option.bind_some]
      rw [if_neg (by omega), if_pos hle]
      exact ⟨by congr 1; omega, by omega⟩
    · right
      rw [take_snoc s k h, rdL_snoc, h1]
      unfold rdStep
      simp only [Option.bind_some]
      rw [if_neg (by omega), if_neg hle]
      exact ⟨rfl, by omega⟩
  · right
    rw [take_snoc s k h]
    exact ⟨rdL_app_none base _ _ h1, by omega⟩
theorem refV_end (s : ByteArray) (base m : Int) (h : s.toList.isEmpty = false) (hr : ValRel base s s.size m) : (65535 < m → refV base s = -1) ∧ (m ≤ 65535 → refV base s = m) := by
  obtain ⟨r0, r1, r2⟩ := hr
  rw [List.take_of_length_le (by simp)] at r2
  have hne : s.data.toList ≠ [] := by
    rw [ByteArray.toList_eq] at h
    intro e
    rw [e] at h
    simp at h
  unfold refV rdO
  rw [if_neg hne]
  rcases r2 with ⟨h1, h2⟩ | ⟨h1, h2⟩
  · rw [h1]; exact ⟨fun h3 => by omega, fun _ => rfl⟩
  · rw [h1]; exact ⟨fun _ => rfl, fun h3 => by omega⟩
end Go.Proofs.YtmeegpdjhcilkaaDoor
/-
  The examples of the chapter (breadboardlaw01.alive): the call returns true; nothing that was there is changed.
-/
namespace Go.Proofs.YtmeegpdjhcilkaaDoor
open Go.RowKit
set_option linter.unusedVariables false

theorem par_ex : parV ⟨#[49, 48, 49, 48, 98]⟩ = 10 ∧ parOk ⟨#[49, 48, 49, 48, 98]⟩ = true := by decide +kernel
theorem text_ex : textS 171 = ⟨#[48, 65, 66, 72]⟩ := by decide +kernel
theorem hex_ex : hexS (-1) 2 = ⟨#[70, 70]⟩ := by decide +kernel
theorem hexEx_any (w : World) : Calls Tryd.prog 73 #[.int .i64 (-1), .int .i64 2] w fun e w' => e = .returned (.string ⟨#[70, 70]⟩) ∧ Below w.heap.size w w' := by
  have h := hex_any (-1) 2 (by omega) w
  rw [hex_ex] at h
  exact h
end Go.Proofs.YtmeegpdjhcilkaaDoor
/-
  Plain facts on words: which words have which form, what num.Parse returns for num.Text's words.
-/
namespace Go.Proofs.YtmeegpdjhcilkaaDoor
set_option linter.unusedVariables false

def rdLO (base : Int) (l : List UInt8) : Option Int := if l = [] then none else rdL base l
theorem preB_iff (u p : ByteArray) : preB u p = true ↔ ∃ r, u.data.toList = p.data.toList ++ r := by
  unfold preB
  rw [Bool.and_eq_true, decide_eq_true_iff, beq_iff_eq, ByteArray.toList_eq, ByteArray.toList_eq, Lib.extract_data]
  have hu : u.data.toList.length = u.size := by simp
  have hp : p.data.toList.length = p.size := by simp
  constructor
  · rintro ⟨_, h⟩
    simp only [List.drop_zero, Nat.sub_zero] at h
    exact ⟨u.data.toList.drop p.size, by rw [← h, List.take_append_drop]⟩
  · rintro ⟨r, h⟩
    refine ⟨?_, ?_⟩
    · rw [← hu, h, List.length_append]; omega
    · simp only [List.drop_zero, Nat.sub_zero]
      rw [h, ← hp, List.take_left]
theorem cutPre_of (u p : ByteArray) (r : List UInt8) (h : u.data.toList = p.data.toList ++ r) : preB u p = true ∧ (cutPre u p).data.toList = r := by
  have h1 := (preB_iff u p).2 ⟨r, h⟩
  have hu : u.data.toList.length = u.size := by simp
  have hp : p.data.toList.length = p.size := by simp
  refine ⟨h1, ?_⟩
  unfold cutPre
  rw [if_pos h1, Lib.extract_data, h, ← hp, List.drop_left]
  exact List.take_of_length_le (by rw [← hu, h, List.length_append]; omega)
theorem sufB_iff (u p : ByteArray) : sufB u p = true ↔ ∃ r, u.data.toList = r ++ p.data.toList := by
  unfold sufB
  rw [Bool.and_eq_true, decide_eq_true_iff, beq_iff_eq, ByteArray.toList_eq, ByteArray.toList_eq, Lib.extract_data]
  have hu : u.data.toList.length = u.size := by simp
  have hp : p.data.toList.length = p.size := by simp
  constructor
  · rintro ⟨hle, h⟩
    rw [List.take_of_length_le (by rw [List.length_drop]; omega)] at h
    exact ⟨u.data.toList.take (u.size - p.size), by rw [← h, List.take_append_drop]⟩
  · rintro ⟨r, h⟩
    have hr : u.size - p.size = r.length := by rw [← hu, h, List.length_append]; omega
    refine ⟨?_, ?_⟩
    · rw [← hu, h, List.length_append]; omega
    · rw [hr, h, List.drop_left]
      exact List.take_of_length_le (by rw [← hu, h, List.length_append]; omega)
theorem cutSuf_of (u p : ByteArray) (r : List UInt8) (h : u.data.toList = r ++ p.data.toList) : sufB u p = true ∧ (cutSuf u p).data.toList = r := by
  have h1 := (sufB_iff u p).2 ⟨r, h⟩
  have hu : u.data.toList.length = u.size := by simp
  have hp : p.data.toList.length = p.size := by simp
  have hr : u.size - p.size = r.length := by rw [← hu, h, List.length_append]; omega
  refine ⟨h1, ?_⟩
  unfold cutSuf
  rw [if_pos h1, Lib.extract_data, hr, h, List.drop_zero, Nat.sub_zero, List.take_left]

theorem att0_eq (u : ByteArray) : attO 0 u = rdLO 10 u.data.toList := by unfold attO; rw [if_pos (show hasW 0 u = true from rfl)]; rfl
theorem attPre_eq (k : Nat) (p u : ByteArray) (base : Int) (hw : hasW k u = preB u p) (hc : cutW k u = cutPre u p) (hb : baseW k = base) (r : List UInt8) (h : u.data.toList = p.data.toList ++ r) : attO k u = rdLO base r := by
  obtain ⟨h1, h2⟩ := cutPre_of u p r h
  unfold attO
  rw [hw, if_pos h1, hc, hb]
  unfold rdO
  rw [h2]
  rfl
theorem attPre_no (k : Nat) (p u : ByteArray) (hw : hasW k u = preB u p) (h : ¬ ∃ r, u.data.toList = p.data.toList ++ r) : attO k u = none := by
  unfold attO
  rw [hw, if_neg (fun e => h ((preB_iff u p).1 e))]
theorem att1_eq (u : ByteArray) (r : List UInt8) (h : u.data.toList = 48 :: 88 :: r) : attO 1 u = rdLO 16 r := attPre_eq 1 ⟨#[48, 88]⟩ u 16 rfl rfl rfl r h
theorem att1_no (u : ByteArray) (h : ¬ ∃ r, u.data.toList = 48 :: 88 :: r) : attO 1 u = none := attPre_no 1 ⟨#[48, 88]⟩ u rfl h
theorem att2_eq (u : ByteArray) (r : List UInt8) (h : u.data.toList = 36 :: r) : attO 2 u = rdLO 16 r := attPre_eq 2 ⟨#[36]⟩ u 16 rfl rfl rfl r h
theorem att2_no (u : ByteArray) (h : ¬ ∃ r, u.data.toList = 36 :: r) : attO 2 u = none := attPre_no 2 ⟨#[36]⟩ u rfl h
theorem att5_eq (u : ByteArray) (r : List UInt8) (h : u.data.toList = 37 :: r) : attO 5 u = rdLO 2 r := attPre_eq 5 ⟨#[37]⟩ u 2 rfl rfl rfl r h
theorem att5_no (u : ByteArray) (h : ¬ ∃ r, u.data.toList = 37 :: r) : attO 5 u = none := attPre_no 5 ⟨#[37]⟩ u rfl h
theorem att4_eq (u : ByteArray) (r : List UInt8) (h : u.data.toList = r ++ [66]) : attO 4 u = rdLO 2 r := by
  obtain ⟨h1, h2⟩ := cutSuf_of u ⟨#[66]⟩ r h
  unfold attO
  rw [show hasW 4 u = sufB u ⟨#[66]⟩ from rfl, if_pos h1]
  unfold rdO
  rw [show cutW 4 u = cutSuf u ⟨#[66]⟩ from rfl, h2]
  rfl
theorem att4_no (u : ByteArray) (h : ¬ ∃ r, u.data.toList = r ++ [66]) : attO 4 u = none := by
  unfold attO
  rw [show hasW 4 u = sufB u ⟨#[66]⟩ from rfl, if_neg (fun e => h ((sufB_iff u _).1 e))]
theorem hexB_of (u : ByteArray) (r : List UInt8) (h : u.data.toList = r ++ [72]) : hexB u = (!r.isEmpty && decB ((r.getD 0 0).toNat : Int)) := by
  obtain ⟨h1, h2⟩ := cutSuf_of u ⟨#[72]⟩ r h
  unfold hexB
  rw [h1, ByteArray.toList_eq, h2, Bool.true_and]
theorem att3_eq (u : ByteArray) (c : UInt8) (r : List UInt8) (h : u.data.toList = (c :: r) ++ [72]) (hc : decB (c.toNat : Int) = true) : attO 3 u = rdLO 16 (c :: r) := by
  obtain ⟨h1, h2⟩ := cutSuf_of u ⟨#[72]⟩ (c :: r) h
  have h3 : hasW 3 u = true := by
    rw [show hasW 3 u = hexB u from rfl, hexB_of u (c :: r) h]
    simpa using hc
  unfold attO
  rw [if_pos h3]
  unfold rdO
  rw [show cutW 3 u = cutSuf u ⟨#[72]⟩ from rfl, h2]
  rfl
theorem att3_no (u : ByteArray) (h : ¬ ∃ c r, u.data.toList = (c :: r) ++ [72] ∧ decB (c.toNat : Int) = true) : attO 3 u = none := by
  have h3 : hasW 3 u = false := by
    rw [show hasW 3 u = hexB u from rfl]
    by_cases h1 : sufB u ⟨#[72]⟩ = true
    · obtain ⟨r, hr⟩ := (sufB_iff u _).1 h1
      rw [hexB_of u r hr]
      cases r with
      | nil => rfl
      | cons c r =>
        by_cases hc : decB (c.toNat : Int) = true
        · exact absurd ⟨c, r, hr, hc⟩ h
        · simpa using hc
    · exact hexB_no (by simpa using h1)
  unfold attO
  rw [h3]
  rfl

/-- A byte that a digit, or the H behind the digits, is. -/
theorem capU_hexU : ∀ x : Fin 16, capU (hexU (x.val : Int)) = hexU (x.val : Int) ∧ hexU (x.val : Int) ≠ 88 ∧ hexU (x.val : Int) ≠ 36 ∧ hexV ((hexU (x.val : Int)).toNat : Int) = (x.val : Int) := by decide +kernel
theorem hexU_facts (x : Int) (h0 : 0 ≤ x) (h1 : x < 16) : capU (hexU x) = hexU x ∧ hexU x ≠ 88 ∧ hexU x ≠ 36 ∧ hexV ((hexU x).toNat : Int) = x := by
  have h := capU_hexU ⟨x.toNat, by omega⟩
  have e : ((x.toNat : Nat) : Int) = x := by omega
  simp only [e] at h
  exact h
theorem rd16_step (m x : Int) (h0 : 0 ≤ x) (h1 : x < 16) (h2 : m * 16 + x ≤ 65535) : rdStep 16 (some m) (hexU x) = some (m * 16 + x) := by
  unfold rdStep
  rw [(hexU_facts x h0 h1).2.2.2]
  simp only [Option.bind_some]
  rw [if_neg (by omega), if_pos h2]
/-- A word of digits with an H behind it, the first of which is decimal. -/
theorem par_of_digits (u : ByteArray) (c : UInt8) (r : List UInt8) (n : Int) (h : u.data.toList = (c :: r) ++ [72]) (hup : upB u = u) (hc : decB (c.toNat : Int) = true) (hx : ∀ b ∈ r, b ≠ 88)
    (hn : rdL 16 (c :: r) = some n) : parO u = some n := by
  unfold parO
  rw [hup]
  have a0 : attO 0 u = none := by
    rw [att0_eq, h]
    unfold rdLO
    rw [if_neg (by simp), rdL_snoc]
    unfold rdStep
    cases rdL 10 (c :: r) with
    | none => rfl
    | some m => simp only [Option.bind_some]; rw [if_pos (.inl (by decide))]
  have a1 : attO 1 u = none := att1_no u (by
    rintro ⟨q, hq⟩
    rw [h] at hq
    cases r with
    | nil => simp at hq
    | cons b r =>
      have hb : b = 88 := by
        simp only [List.cons_append, List.cons.injEq] at hq
        exact hq.2.1
      exact hx b (by simp) hb)
  have a2 : attO 2 u = none := att2_no u (by
    rintro ⟨q, hq⟩
    rw [h] at hq
    have hb : c = 36 := by
      simp only [List.cons_append, List.cons.injEq] at hq
      exact hq.1
    rw [hb] at hc
    exact absurd hc (by decide))
  have a3 : attO 3 u = some n := by
    rw [att3_eq u c r h hc]
    unfold rdLO
    rw [if_neg (by simp)]
    exact hn
  show ((((((none : Option Int).or (attO 0 u)).or (attO 1 u)).or (attO 2 u)).or (attO 3 u)).or (attO 4 u)).or (attO 5 u) = some n
  rw [a0, a1, a2, a3]
  rfl
theorem up_of (u : ByteArray) (h : ∀ b ∈ u.data.toList, capU b = b) : upB u = u := by
  apply bytes_ext
  rw [upB_list]
  conv => rhs; rw [← List.map_id u.data.toList]
  exact List.map_congr_left h
theorem dig_caps (n : Int) (h0 : 10 ≤ n) (h1 : n ≤ 65535) : ∀ b ∈ (digS n).data.toList, capU b = b ∧ b ≠ 88 := by
  have f := fun i => hexU_facts (digI n i) (digI_bd n i).1 (digI_bd n i).2
  intro b hb
  rcases digS_cases n h0 h1 with ⟨_, h, _⟩ | ⟨_, _, h, _⟩ | ⟨_, _, h, _⟩ | ⟨_, h, _⟩ <;> rw [h] at hb <;> simp only [List.mem_cons, List.not_mem_nil, or_false] at hb
  · rcases hb with rfl | rfl | rfl | rfl <;> exact ⟨(f _).1, (f _).2.1⟩
  · rcases hb with rfl | rfl | rfl <;> exact ⟨(f _).1, (f _).2.1⟩
  · rcases hb with rfl | rfl <;> exact ⟨(f _).1, (f _).2.1⟩
  · subst hb; exact ⟨(f _).1, (f _).2.1⟩
theorem dig_value (n : Int) (h0 : 10 ≤ n) (h1 : n ≤ 65535) : (digS n).data.toList.foldl (rdStep 16) (some 0) = some n := by
  have d3 : digI n 3 = n / 4096 % 16 := by unfold digI; simp
  have d2 : digI n 2 = n / 256 % 16 := by unfold digI; simp
  have d1 : digI n 1 = n / 16 % 16 := by unfold digI; simp
  have d0 : digI n 0 = n % 16 := by unfold digI; simp
  have b := fun i => digI_bd n i
  have b3 := b 3
  have b2 := b 2
  have b1 := b 1
  have b0 := b 0
  rcases digS_cases n h0 h1 with ⟨_, h, _⟩ | ⟨_, _, h, _⟩ | ⟨_, _, h, _⟩ | ⟨_, h, _⟩ <;> rw [h] <;> simp only [List.foldl_cons, List.foldl_nil]
  · rw [rd16_step 0 _ b3.1 b3.2 (by omega), rd16_step _ _ b2.1 b2.2 (by omega), rd16_step _ _ b1.1 b1.2 (by omega), rd16_step _ _ b0.1 b0.2 (by omega)]
    congr 1; omega
  · rw [rd16_step 0 _ b2.1 b2.2 (by omega), rd16_step _ _ b1.1 b1.2 (by omega), rd16_step _ _ b0.1 b0.2 (by omega)]
    congr 1; omega
  · rw [rd16_step 0 _ b1.1 b1.2 (by omega), rd16_step _ _ b0.1 b0.2 (by omega)]
    congr 1; omega
  · rw [rd16_step 0 _ b0.1 b0.2 (by omega)]
    congr 1; omega
theorem par_text_small : ∀ i : Fin 10, parO (textS (i.val : Int)) = some (i.val : Int) := by decide +kernel
/-- P1.7: Parse inverts Text. -/
theorem par_text (n : Int) (h0 : 0 ≤ n) (h1 : n ≤ 65535) : parO (textS n) = some n := by
  by_cases h2 : n < 10
  · have h := par_text_small ⟨n.toNat, by omega⟩
    have e : ((n.toNat : Nat) : Int) = n := by omega
    simp only [e] at h
    exact h
  · have hp := digS_pos n (by omega) h1
    have hl := list_cons (digS n) hp
    have hcaps := dig_caps n (by omega) h1
    have hval := dig_value n (by omega) h1
    by_cases h3 : decB ((digS n)[0].toNat : Int) = true
    · have ht : (textS n).data.toList = ((digS n)[0] :: ((digS n).extract 1 (digS n).size).data.toList) ++ [72] := by
        rw [← text_dec n (by omega) h1 hp h3, append_data, ← hl]
      refine par_of_digits _ _ _ n ht (up_of _ fun b hb => ?_) h3 (fun b hb => (hcaps b (by rw [hl]; exact List.mem_cons_of_mem _ hb)).2) (by rw [← hl]; exact hval)
      rw [ht, ← hl] at hb
      rcases List.mem_append.1 hb with hb | hb
      · exact (hcaps b hb).1
      · simp at hb; subst hb; decide
    · have h3' : decB ((digS n)[0].toNat : Int) = false := by simpa using h3
      have ht : (textS n).data.toList = (48 :: (digS n).data.toList) ++ [72] := by
        rw [← text_let n (by omega) h1 hp h3', append_data, append_data]
        rfl
      refine par_of_digits _ _ _ n ht (up_of _ fun b hb => ?_) (by decide) (fun b hb => (hcaps b hb).2) (by
        unfold rdL
        rw [List.foldl_cons, show rdStep 16 (some 0) 48 = some 0 by decide]
        exact hval)
      rw [ht] at hb
      rcases List.mem_append.1 hb with hb | hb
      · rcases List.mem_cons.1 hb with rfl | hb
        · decide
        · exact (hcaps b hb).1
      · simp at hb; subst hb; decide
theorem text_out (n : Int) (h : n < 0 ∨ 65535 < n) : parV (textS n) = 0 ∧ parOk (textS n) = false := by
  have e : textS n = ⟨#[]⟩ := by unfold textS; rw [if_pos h]
  rw [e]
  decide +kernel
theorem text_in (n : Int) (h0 : 0 ≤ n) (h1 : n ≤ 65535) : parV (textS n) = n ∧ parOk (textS n) = true := by
  unfold parV parOk
  rw [par_text n h0 h1]
  exact ⟨rfl, rfl⟩
theorem textS_max (n : Int) : (textS n).size ≤ maxLen := by
  have h := digS_le n
  have hl : (digS n).data.toList.length = (digS n).size := by simp
  unfold textS maxLen
  split
  · show (#[] : Array UInt8).size ≤ _; simp
  · split
    · show (#[hexU n] : Array UInt8).size ≤ _; simp
    · split
      · show ((digS n).data.toList ++ [72]).toArray.size ≤ _
        simp only [List.size_toArray, List.length_append, List.length_cons, List.length_nil]; omega
      · show (48 :: (digS n).data.toList ++ [72]).toArray.size ≤ _
        simp only [List.size_toArray, List.length_append, List.length_cons, List.length_nil]; omega
end Go.Proofs.YtmeegpdjhcilkaaDoor
/-
  Slices of bytes that read as a list; the walk over slices.Equal at []byte: for every two such slices, whether the lists are equal.
-/
namespace Go.Proofs.YtmeegpdjhcilkaaDoor
open Go.RowKit
set_option linter.unusedVariables false

/-- A slice of bytes that reads as xs. -/
def BytesB (w : World) (A : Option Addr) (xs : List UInt8) : Prop :=
  xs = [] ∨ ∃ b off, A = some ⟨b, off, none⟩ ∧ ∀ j (h : j < xs.length), w.cell? ⟨b, off + j, none⟩ = some (.int .u8 (xs[j].toNat : Int))
theorem BytesB.at_ {w : World} {A : Option Addr} {xs : List UInt8} (h : BytesB w A xs) {k : Nat} (hk : k < xs.length) : ∃ b off, A = some ⟨b, off, none⟩ ∧ w.cell? ⟨b, off + k, none⟩ = some (.int .u8 (xs[k].toNat : Int)) := by
  rcases h with rfl | ⟨b, off, rfl, hc⟩
  · simp at hk
  · exact ⟨b, off, rfl, hc k hk⟩
theorem BytesB.below {w w' : World} {A : Option Addr} {xs : List UInt8} (h : BytesB w A xs) (hb : Below w.heap.size w w') : BytesB w' A xs := by
  rcases h with rfl | ⟨b, off, rfl, hc⟩
  · exact .inl rfl
  · exact .inr ⟨b, off, rfl, fun j hj => (hb.cell (p := ⟨b, off + j, none⟩) (World.block_lt_of_cell? w _ (hc j hj))).trans (hc j hj)⟩
theorem BytesB.drewN {w : World} {A : Option Addr} {xs : List UInt8} (h : BytesB w A xs) (n : Nat) : BytesB (w.drewN n) A xs := by
  rcases h with rfl | ⟨b, off, rfl, hc⟩
  · exact .inl rfl
  · exact .inr ⟨b, off, rfl, fun j hj => by simpa using hc j hj⟩
theorem BytesB.of_own {w : World} {base : Nat} {e : TypeId} {v : Value} {n : Nat} {xs : List UInt8} (h : w.ownsRow base e 1 v n (xs.map fun b => Value.int .u8 (b.toNat : Int))) :
    n = xs.length ∧ ∃ A cap, v = .slice A n cap ∧ BytesB w A xs := by
  have hl : n = xs.length := by have := h.1; simp at this; omega
  refine ⟨hl, ?_⟩
  rcases h.2 with ⟨rfl, h0⟩ | ⟨g, cap, cur, rfl, _⟩
  · subst h0
    exact ⟨none, 0, rfl, .inl (List.eq_nil_of_length_eq_zero hl.symm)⟩
  · refine ⟨_, cap, rfl, .inr ⟨g, 0, rfl, fun j hj => ?_⟩⟩
    rw [Nat.zero_add, h.cellAt j (by omega)]
    simp [List.getElem?_eq_getElem hj]
theorem beq_byte (a b : UInt8) : ((a.toNat : Int) == (b.toNat : Int)) = decide (a = b) := by
  by_cases h : a = b
  · subst h; simp
  · rw [decide_eq_false h, beq_eq_false_iff_ne]
    intro e
    exact h (UInt8.toNat_inj.1 (by omega))
theorem take_next (xs ys : List UInt8) (k : Nat) (hx : k < xs.length) (hy : k < ys.length) (h : xs.take k = ys.take k) (e : xs[k] = ys[k]) : xs.take (k + 1) = ys.take (k + 1) := by
  rw [List.take_succ_eq_append_getElem hx, List.take_succ_eq_append_getElem hy, h, e]
theorem ne_of_at (xs ys : List UInt8) (k : Nat) (hx : k < xs.length) (hy : k < ys.length) (e : ¬ xs[k] = ys[k]) : decide (xs = ys) = false := by
  apply decide_eq_false
  intro h
  subst h
  exact e rfl
def SomeDraws (w : World) (b : Bool) (e : Ending) (w' : World) : Prop := e = .returned (.bool b) ∧ ∃ q, w' = w.drewN q

set_option maxHeartbeats 1000000 in
theorem equal_any (A1 A2 : Option Addr) (c1 c2 : Nat) (xs ys : List UInt8) (hx : xs.length ≤ maxLen) (hy : ys.length ≤ maxLen) (w : World) (h1 : BytesB w A1 xs) (h2 : BytesB w A2 ys) :
    Calls Tryd.prog 41 #[.slice A1 xs.length c1, .slice A2 ys.length c2] w (SomeDraws w (decide (xs = ys))) := by
  unfold maxLen at hx hy
  have H1 := Lib.hid h1
  have H2 := Lib.hid h2
  clear h1 h2
  by_cases hl : xs.length = ys.length
  · obtain ⟨n, hn⟩ : ∃ n, n = xs.length := ⟨_, rfl⟩
    have hn2 : n = ys.length := by omega
    have L1 := Lib.hid hn
    have L2 := Lib.hid hn2
    rw [← hn, ← hn2]
    rw [← hn] at hx
    clear hn hn2 hl hy
    go_enter Tryd.func41, Tryd.ntmps41
    go_wp2
    go_loopw [13] (fun i wr => ∃ k q : Nat, k ≤ n ∧ i = .int .i64 k ∧ wr = w.drewN q ∧ Hid (xs.take k = ys.take k)) (fun i _ => n - (intOf i).toNat)
    case atStart => exact ⟨0, 0, Nat.zero_le _, rfl, rfl, rfl⟩
    case round =>
      obtain ⟨k, q, hk, rfl, rfl, E⟩ := hrel
      by_cases hlt : k < n
      · have k1 : k < xs.length := by have := L1.out; omega
        have k2 : k < ys.length := by have := L2.out; omega
        obtain ⟨b1, o1, hA1, g1⟩ := H1.out.at_ k1
        obtain ⟨b2, o2, hA2, g2⟩ := H2.out.at_ k2
        subst hA1 hA2
        by_cases hxy : xs[k] = ys[k]
        · have N := Lib.hid (take_next xs ys k k1 k2 E.out hxy)
          rw [← hxy] at g2
          clear hxy
          go_wp2_with fail
          go_quiet (fail)
          go_wp2
          go_roundw
          case rel => exact ⟨k + 1, _, by omega, by go_num, rfl, N⟩
          case measure => simp [intOf]; omega
        · have hb : ((xs[k].toNat : Int) != (ys[k].toNat : Int)) = true := by unfold bne; rw [beq_byte, decide_eq_false hxy]; rfl
          have hb2 : ((xs[k].toNat : Int) == (ys[k].toNat : Int)) = false := by rw [beq_byte, decide_eq_false hxy]
          have N := Lib.hid (ne_of_at xs ys k k1 k2 hxy)
          clear hxy
          go_wp2_with fail
          go_quiet (fail)
          go_wp2
          go_ret
          exact ⟨ret_bool N.out.symm, _, by simp only [World.drewN_drewN]; rfl⟩
      · have N : Hid (decide (xs = ys) = true) := by
          have e := E.out
          rw [show k = n by omega, List.take_of_length_le (by have := L1.out; omega), List.take_of_length_le (by have := L2.out; omega)] at e
          exact decide_eq_true e
        go_wp2
        go_ret
        exact ⟨ret_bool N.out.symm, _, rfl⟩
  · have hl' : ((xs.length : Int) != (ys.length : Int)) = true := by
      unfold bne; rw [beq_eq_false_iff_ne.2 (by omega)]; rfl
    have N : Hid (decide (xs = ys) = false) := decide_eq_false (fun e => hl (by rw [e]))
    clear hl
    go_enter Tryd.func41, Tryd.ntmps41
    go_wp2
    go_ret
    exact ⟨ret_bool N.out.symm, 0, rfl⟩
end Go.Proofs.YtmeegpdjhcilkaaDoor
/-
  Walks over num.Low and breadboardref01.Low: for every slice of integers the bytes that are equal to them modulo 256, in new memory; breadboardref01.Fits.
-/
namespace Go.Proofs.YtmeegpdjhcilkaaDoor
open Go.RowKit
set_option linter.unusedVariables false

theorem IntsAt.below {w w' : World} {A : Option Addr} {xs : List Int} (h : IntsAt w A xs) (hb : Below w.heap.size w w') : IntsAt w' A xs := by
  rcases h with rfl | ⟨b, off, rfl, hc⟩
  · exact .inl rfl
  · exact .inr ⟨b, off, rfl, fun j hj => (hb.cell (p := ⟨b, off + j, none⟩) (World.block_lt_of_cell? w _ (hc j hj))).trans (hc j hj)⟩
/-- The call returns a slice that reads as xs; nothing that was there is changed. -/
def RetBytes (w : World) (xs : List UInt8) (e : Ending) (w' : World) : Prop := ∃ A cap, e = .returned (.slice A xs.length cap) ∧ BytesB w' A xs ∧ Below w.heap.size w w'
/-- The slice lies in a new block, or is nil. -/
def NewA (w : World) (A : Option Addr) : Prop := ∀ a, A = some a → w.heap.size ≤ a.block
/-- The same, in a new block. -/
def RetBytesN (w : World) (xs : List UInt8) (e : Ending) (w' : World) : Prop := ∃ A cap, e = .returned (.slice A xs.length cap) ∧ BytesB w' A xs ∧ xs.length ≤ cap ∧ NewA w A ∧ Below w.heap.size w w'
theorem RetBytesN.ret {w : World} {xs : List UInt8} {e : Ending} {w' : World} (h : RetBytesN w xs e w') : RetBytes w xs e w' := by
  obtain ⟨A, cap, h1, h2, _, _, h3⟩ := h
  exact ⟨A, cap, h1, h2, h3⟩
/-- The byte that is equal to n modulo 256. -/
def lowU (n : Int) : UInt8 := (n % 256).toNat.toUInt8
theorem lowU_nat (n : Int) : ((lowU n).toNat : Int) = n % 256 := by
  unfold lowU
  rw [UInt8.toNat_ofNat_of_lt' (show (n % 256).toNat < 256 by omega)]
  omega
def u8V (b : UInt8) : Value := .int .u8 (b.toNat : Int)

/-- What holds at the head of round k: the first k bytes of the row are laid, the others are 0. -/
def LowRel (w : World) (zs : List Int) (k : Nat) (wr : World) : Prop :=
  (∀ j (h : j < zs.length), wr.cell? ⟨w.heap.size, j, none⟩ = some (.int .u8 (if j < k then zs[j] % 256 else 0))) ∧ (∀ j, j < zs.length → wr.frozen? ⟨w.heap.size, j, none⟩ = false) ∧ Below w.heap.size w wr
theorem lowRel_start (w : World) (zs : List Int) (e : TypeId) : LowRel w zs 0 (w.alloc (.cells (madeCells #[.int .u8 0] zs.length) e)) := by
  refine ⟨fun j h => ?_, fun j h => ?_, (Below.refl _ _).alloc (Nat.le_refl _) _⟩
  · rw [if_neg (by omega)]
    simp [go_sem, madeCells, h, Nat.mod_one]
  · simp [go_sem]
theorem lowRel_next (w wr : World) (zs : List Int) (k : Nat) (hk : k < zs.length) (hr : LowRel w zs k wr) : LowRel w zs (k + 1) (wr.setCell ⟨w.heap.size, k, none⟩ (.int .u8 (zs[k] % 256))) := by
  obtain ⟨r1, r2, r3⟩ := hr
  refine ⟨fun j hj => ?_, fun j hj => ?_, r3.setCell (by simp) _⟩
  · by_cases e : j = k
    · subst e
      have := r1 _ hj
      rw [if_pos (by omega)]
      simp [go_sem, this]
    · rw [World.cell?_setCell_other _ _ _ _ (by simp), r1 j hj]
      by_cases h1 : j < k
      · rw [if_pos h1, if_pos (by omega)]
      · rw [if_neg h1, if_neg (by omega)]
  · simp [go_sem, r2 j hj]
theorem lowRel_end (w wr : World) (zs : List Int) (hr : LowRel w zs zs.length wr) : RetBytesN w (zs.map lowU) (.returned (.slice (some ⟨w.heap.size, 0, none⟩) zs.length zs.length)) wr := by
  refine ⟨some ⟨w.heap.size, 0, none⟩, zs.length, by rw [List.length_map], .inr ⟨_, 0, rfl, fun j hj => ?_⟩, by rw [List.length_map]; exact Nat.le_refl _, fun a h => (by cases h; exact Nat.le_refl _), hr.2.2⟩
  have hj' : j < zs.length := by simpa using hj
  rw [Nat.zero_add, hr.1 j hj', if_pos hj']
  simp [lowU_nat]

set_option maxHeartbeats 1000000 in
theorem lowN_any (A : Option Addr) (cap : Nat) (zs : List Int) (hl : zs.length ≤ 281474976710656) (w : World) (hz : IntsAt w A zs) :
    Calls Tryd.prog 75 #[.slice A zs.length cap] w (RetBytesN w (zs.map lowU)) := by
  have Z := Lib.hid hz
  clear hz
  have hmk := fun w => run_make_row' (P := Tryd.prog) 59 5 (.int .u8 0) 1 Tryd.underlying59 info_u8 rfl .i64 .i64 zs.length (by omega) (by omega) w
  have S := Lib.hid (lowRel_start w zs 5)
  go_enter Tryd.func75, Tryd.ntmps75
  go_wp2
  clear hmk
  go_loopw [11] (fun i wr => ∃ k : Nat, k ≤ zs.length ∧ i = .int .i64 k ∧ LowRel w zs k wr) (fun i _ => zs.length - (intOf i).toNat)
  case atStart => exact ⟨0, Nat.zero_le _, rfl, S.out⟩
  case round =>
    obtain ⟨k, hk, rfl, hr⟩ := hrel
    have R := Lib.hid hr
    clear hr
    by_cases hlt : k < zs.length
    · obtain ⟨b, off, hA, g0⟩ := (Z.out.below R.out.2.2).at_ hlt
      subst hA
      have g1 := R.out.1 k hlt
      rw [if_neg (by omega)] at g1
      have g2 := R.out.2.1 k hlt
      have N := Lib.hid (lowRel_next w wr zs k hlt R.out)
      have hw := IntKind.wrap_u8 zs[k]
      go_wp2
      go_roundw
      case rel => exact ⟨k + 1, by omega, by go_num, N.out⟩
      case measure => simp [intOf]; omega
    · obtain rfl : k = zs.length := by omega
      have N := Lib.hid (lowRel_end w wr zs R.out)
      go_wp2
      go_ret
      exact N.out

theorem low_any (A : Option Addr) (cap : Nat) (zs : List Int) (hl : zs.length ≤ 281474976710656) (w : World) (hz : IntsAt w A zs) :
    Calls Tryd.prog 75 #[.slice A zs.length cap] w (RetBytes w (zs.map lowU)) := (lowN_any A cap zs hl w hz).mono fun _ _ h => h.ret
/-- The row of bytes that the call itself appends to. -/
def OwnB (w wr : World) (v : Value) (xs : List UInt8) : Prop := wr.ownsRow w.heap.size 5 1 v xs.length (xs.map u8V) ∧ Below w.heap.size w wr
theorem ownB_start (w : World) : OwnB w w (.slice none 0 0) [] := ⟨World.ownsRow_nil _ _ _ _, Below.refl _ _⟩
theorem ownB_snoc {w wr w1 : World} {v v' : Value} {xs : List UInt8} {o : Obj} (h : OwnB w wr v xs) (b : UInt8) (x : Int) (hx : x = (b.toNat : Int))
    (h1 : w1.ownsRow w.heap.size 5 1 v' (xs.length + 1) (xs.map u8V ++ [.int .u8 x])) (hg : (wr.alloc o).grownBy w1 v.ownBlock) : OwnB w w1 v' (xs ++ [b]) := by
  obtain ⟨h2, h3⟩ := h
  refine ⟨?_, (h3.alloc h3.size o).grown hg (by have := h3.size; simp; omega) (fun j hj => (h2.lt j hj).1)⟩
  subst hx
  simpa [u8V] using h1
theorem ownB_end {w wr : World} {v : Value} {xs : List UInt8} (h : OwnB w wr v xs) : RetBytes w xs (.returned v) wr := by
  obtain ⟨_, A, cap, rfl, hb⟩ := BytesB.of_own h.1
  exact ⟨A, cap, rfl, hb, h.2⟩
theorem and255 (x : Int) : bits .and .i64 x 255 = x % 256 := by
  show IntKind.i64.wrap ((BitVec.ofInt 64 x &&& BitVec.ofInt 64 255).toNat : Int) = _
  rw [BitVec.toNat_and, show (BitVec.ofInt 64 255).toNat = 2 ^ 8 - 1 from rfl, Nat.and_two_pow_sub_one_eq_mod, BitVec.toNat_ofInt, IntKind.wrap_i64]
  omega
theorem map_take_snoc (zs : List Int) (k : Nat) (h : k < zs.length) : (zs.take (k + 1)).map lowU = (zs.take k).map lowU ++ [lowU zs[k]] := by
  rw [List.take_succ_eq_append_getElem h, List.map_append]; rfl

end Go.Proofs.YtmeegpdjhcilkaaDoor
/-
  Walks over breadboardref01.Upper, num.Bytes and breadboardref01.Bytes.
-/
namespace Go.Proofs.YtmeegpdjhcilkaaDoor
open Go.RowKit
set_option linter.unusedVariables false

theorem ownB_string {w wr : World} {v : Value} {xs : List UInt8} (h : OwnB w wr v xs) (s : ByteArray) (hs : s.data.toList = xs) :
    (convert 59 9 v).run Tryd.prog wr = .ok (.string s) wr := by
  have e : s = ⟨xs.toArray⟩ := bytes_ext (by simpa using hs)
  subst e
  rcases h.1.2 with ⟨rfl, h0⟩ | ⟨g, cap, cur, rfl, _⟩
  · have hx : xs = [] := List.eq_nil_of_length_eq_zero h0
    subst hx
    rw [run_convert_bytes_nil (P := Tryd.prog) wr 59 5 Tryd.underlying59 Tryd.underlying5 0 0 9 Tryd.underlying9]
    rfl
  · refine run_convert_bytes_back wr 59 9 5 ⟨g, 0, none⟩ cap xs Tryd.underlying59 Tryd.underlying5 Tryd.underlying9 (fun j hj => ?_)
    have h1 := h.1.cells (g := g) rfl j (u8V xs[j]) (by simp [List.getElem?_eq_getElem hj])
    exact h1
/-- 'out = append(out, x)' at a row of bytes of the call's own. -/
theorem wpList_app1 {w wr : World} {v : Value} {xs : List UInt8} (R : OwnB w wr v xs) {ops : Array Oper} {rest : List Oper} {o : Oper} {a : Act} {Q : Exit → Act → World → Prop} (hgd : o.guard = none) (s x : Operand)
    (ho : o.op = .call { callee := .builtin .append, args := #[s, x], argTypes := #[59, 59] }) (hs : a.eval s = v) (hx : a.eval x = .slice (some ⟨wr.heap.size, 0, none⟩) 1 1)
    (y : Int) (b : UInt8) (hy : y = (b.toNat : Int)) (hlen : xs.length < 140737488355328)
    (h : ∀ v' w1, OwnB w w1 v' (xs ++ [b]) → wpList Tryd.prog ops Q rest (a.put o.dst v') w1) : wpList Tryd.prog ops Q (o :: rest) a (wr.alloc (.cells #[.int .u8 y] 5)) := by
  obtain ⟨i0, hi, hz0, hz1, hz2⟩ := info_parts info_u8
  have hB := R.2.size
  refine wpList_append_own _ hgd s x 59 ho w.heap.size 5 i0 (.int .u8 0) 1 1 Tryd.underlying59 hi hz0 hz1 hz2 rfl (by decide) v xs.length _ hs (R.1.alloc _) ⟨wr.heap.size, 0, none⟩ 1 1 [.int .u8 y] hx rfl ?_ ?_ ?_ ?_ ?_ ?_
  · intro j u hj
    match j, hj with
    | 0, hj => simp at hj; subst hj; simp [Addr.add, go_sem]
  · intro u hu; simp at hu; subst hu; rfl
  · unfold maxLen; omega
  · omega
  · simp; omega
  · intro v' w1 hown' hgrow _
    exact h v' w1 (ownB_snoc R b y hy hown' hgrow)
theorem map_take_cap (s : ByteArray) (k : Nat) (h : k < s.size) : (s.data.toList.take (k + 1)).map capU = (s.data.toList.take k).map capU ++ [capU s[k]] := by
  rw [take_snoc s k h, List.map_append]; rfl

end Go.Proofs.YtmeegpdjhcilkaaDoor
/-
  Walks over num.Bytes and breadboardref01.Bytes: for every string the bytes that its pairs of digits denote, or nothing and false.
-/
namespace Go.Proofs.YtmeegpdjhcilkaaDoor
open Go.RowKit
set_option linter.unusedVariables false

/-- The value of the digit number i of a string. -/
def hexAt (s : ByteArray) (i : Nat) : Int := hexV ((s.data.toList.getD i 0).toNat : Int)
theorem hexAt_of (s : ByteArray) (i : Nat) (h : i < s.size) : hexAt s i = hexV (s[i].toNat : Int) := by
  unfold hexAt
  rw [List.getD_eq_getElem?_getD, List.getElem?_eq_getElem (by simpa using h)]
  rfl
def goodP (s : ByteArray) (j : Nat) : Prop := 0 ≤ hexAt s (2 * j) ∧ 0 ≤ hexAt s (2 * j + 1)
instance (s : ByteArray) (j : Nat) : Decidable (goodP s j) := inferInstanceAs (Decidable (_ ∧ _))
def pairI (s : ByteArray) (j : Nat) : Int := 16 * hexAt s (2 * j) + hexAt s (2 * j + 1)
theorem pairI_bd (s : ByteArray) (j : Nat) (h : goodP s j) : 0 ≤ pairI s j ∧ pairI s j ≤ 255 := by
  have h1 := hexV_bd ((s.data.toList.getD (2 * j) 0).toNat : Int)
  have h2 := hexV_bd ((s.data.toList.getD (2 * j + 1) 0).toNat : Int)
  unfold goodP at h
  unfold pairI
  unfold hexAt at *
  omega
/-- Does a string consist of pairs of digits? -/
def bytesOk (s : ByteArray) : Bool := decide (s.size % 2 = 0 ∧ ∀ j, j < s.size / 2 → goodP s j)
/-- The bytes that the pairs denote. -/
def bytesL (s : ByteArray) : List UInt8 := if bytesOk s then (List.range (s.size / 2)).map (fun j => lowU (pairI s j)) else []
theorem bytes_odd (s : ByteArray) (h : ¬ s.size % 2 = 0) : bytesOk s = false ∧ bytesL s = [] := by
  have h1 : bytesOk s = false := by unfold bytesOk; exact decide_eq_false (fun e => h e.1)
  exact ⟨h1, by unfold bytesL; rw [h1]; rfl⟩
theorem bytes_bad (s : ByteArray) (k : Nat) (hk : k < s.size / 2) (h : ¬ goodP s k) : bytesOk s = false ∧ bytesL s = [] := by
  have h1 : bytesOk s = false := by unfold bytesOk; exact decide_eq_false (fun e => h (e.2 k hk))
  exact ⟨h1, by unfold bytesL; rw [h1]; rfl⟩
theorem bytes_good (s : ByteArray) (h0 : s.size % 2 = 0) (h : ∀ j, j < s.size / 2 → goodP s j) : bytesOk s = true ∧ bytesL s = (List.range (s.size / 2)).map (fun j => lowU (pairI s j)) := by
  have h1 : bytesOk s = true := by unfold bytesOk; exact decide_eq_true ⟨h0, h⟩
  exact ⟨h1, by unfold bytesL; rw [h1]; rfl⟩
/-- The call returns a slice that reads as xs, and a bool; nothing that was there is changed. -/
def RetBytesOk (w : World) (xs : List UInt8) (ok : Bool) (e : Ending) (w' : World) : Prop := ∃ A cap, e = .returned (.tuple #[.slice A xs.length cap, .bool ok]) ∧ BytesB w' A xs ∧ Below w.heap.size w w'
/-- The same, and the slice's capacity is not less than its length. -/
def RetBytesC (w : World) (xs : List UInt8) (ok : Bool) (e : Ending) (w' : World) : Prop := ∃ A cap, e = .returned (.tuple #[.slice A xs.length cap, .bool ok]) ∧ BytesB w' A xs ∧ xs.length ≤ cap ∧ NewA w A ∧ Below w.heap.size w w'
theorem RetBytesC.ok {w : World} {xs : List UInt8} {ok : Bool} {e : Ending} {w' : World} (h : RetBytesC w xs ok e w') : RetBytesOk w xs ok e w' := by
  obtain ⟨A, cap, h1, h2, _, _, h3⟩ := h
  exact ⟨A, cap, h1, h2, h3⟩
theorem retBytes_none {w w' : World} {xs : List UInt8} {ok : Bool} (h : ok = false ∧ xs = []) (hb : Below w.heap.size w w') : RetBytesC w xs ok (.returned (.tuple #[.slice none 0 0, .bool false])) w' := by
  obtain ⟨rfl, rfl⟩ := h
  exact ⟨none, 0, rfl, .inl rfl, Nat.le_refl _, fun a h => (by cases h), hb⟩

theorem pair_list (s : ByteArray) (k : Nat) (h : 2 * k + 1 < s.size) : (s.extract (2 * k) (2 * k + 2)).data.toList = [s[2 * k], s[2 * k + 1]] := by
  rw [Lib.extract_data, show 2 * k + 2 - 2 * k = 2 by omega]
  have hl : s.data.toList.length = s.size := by simp
  rw [List.drop_eq_getElem_cons (by rw [hl]; omega), List.drop_eq_getElem_cons (by rw [hl]; omega)]
  rfl
theorem rd_pair (s : ByteArray) (k : Nat) (h : 2 * k + 1 < s.size) :
    (goodP s k → rdV 16 (s.extract (2 * k) (2 * k + 2)) = pairI s k ∧ rdOk 16 (s.extract (2 * k) (2 * k + 2)) = true) ∧ (¬ goodP s k → rdOk 16 (s.extract (2 * k) (2 * k + 2)) = false) := by
  have b1 := hexV_bd (s[2 * k].toNat : Int)
  have b2 := hexV_bd (s[2 * k + 1].toNat : Int)
  unfold goodP pairI rdV rdOk rdO
  rw [pair_list s k h, hexAt_of s _ (by omega), hexAt_of s _ h, if_neg (by simp)]
  unfold rdL
  simp only [List.foldl_cons, List.foldl_nil]
  constructor
  · rintro ⟨g1, g2⟩
    unfold rdStep
    simp only [Option.bind_some]
    rw [if_neg (by omega), if_pos (by omega)]
    simp only [Option.bind_some]
    rw [if_neg (by omega), if_pos (by omega)]
    exact ⟨by rw [Option.getD_some]; omega, rfl⟩
  · intro g
    unfold rdStep
    simp only [Option.bind_some]
    by_cases g1 : hexV (s[2 * k].toNat : Int) < 0 ∨ 16 ≤ hexV (s[2 * k].toNat : Int)
    · rw [if_pos g1]; rfl
    · rw [if_neg g1, if_pos (by omega)]
      simp only [Option.bind_some]
      rw [if_pos (by omega)]; rfl

def BytesRel (w : World) (s : ByteArray) (m k : Nat) (wr : World) : Prop :=
  (∀ j, j < k → goodP s j) ∧ (∀ j, j < m → wr.cell? ⟨w.heap.size, j, none⟩ = some (.int .u8 (if j < k then pairI s j else 0))) ∧ (∀ j, j < m → wr.frozen? ⟨w.heap.size, j, none⟩ = false) ∧ Below w.heap.size w wr
theorem bytesRel_start (w : World) (s : ByteArray) (m : Nat) (e : TypeId) : BytesRel w s m 0 (w.alloc (.cells (madeCells #[.int .u8 0] m) e)) := by
  refine ⟨fun j h => by omega, fun j h => ?_, fun j h => ?_, (Below.refl _ _).alloc (Nat.le_refl _) _⟩
  · rw [if_neg (by omega)]
    simp [go_sem, madeCells, h, Nat.mod_one]
  · simp [go_sem]
theorem bytesRel_below {w wr w1 : World} {s : ByteArray} {m k : Nat} (h : BytesRel w s m k wr) (hb : Below wr.heap.size wr w1) : BytesRel w s m k w1 := by
  obtain ⟨r0, r1, r2, r3⟩ := h
  refine ⟨r0, fun j hj => ?_, fun j hj => ?_, r3.trans (hb.mono r3.size)⟩
  · rw [hb.cell (p := ⟨w.heap.size, j, none⟩) (World.block_lt_of_cell? wr _ (r1 j hj))]; exact r1 j hj
  · rw [hb.frozen (p := ⟨w.heap.size, j, none⟩) (World.block_lt_of_cell? wr _ (r1 j hj))]; exact r2 j hj
theorem bytesRel_next {w wr : World} {s : ByteArray} {m k : Nat} (hk : k < m) (hg : goodP s k) (h : BytesRel w s m k wr) : BytesRel w s m (k + 1) (wr.setCell ⟨w.heap.size, k, none⟩ (.int .u8 (pairI s k))) := by
  obtain ⟨r0, r1, r2, r3⟩ := h
  refine ⟨fun j hj => ?_, fun j hj => ?_, fun j hj => ?_, r3.setCell (by simp) _⟩
  · by_cases e : j = k
    · subst e; exact hg
    · exact r0 j (by omega)
  · by_cases e : j = k
    · subst e
      have := r1 _ hj
      rw [if_pos (by omega)]
      simp [go_sem, this]
    · rw [World.cell?_setCell_other _ _ _ _ (by simp), r1 j hj]
      by_cases h1 : j < k
      · rw [if_pos h1, if_pos (by omega)]
      · rw [if_neg h1, if_neg (by omega)]
  · simp [go_sem, r2 j hj]
theorem bytesRel_end {w wr : World} {s : ByteArray} {m : Nat} (hm : m = s.size / 2) (h0 : s.size % 2 = 0) (h : BytesRel w s m m wr) :
    RetBytesC w (bytesL s) (bytesOk s) (.returned (.tuple #[.slice (some ⟨w.heap.size, 0, none⟩) m m, .bool true])) wr := by
  subst hm
  obtain ⟨r0, r1, r2, r3⟩ := h
  obtain ⟨h1, h2⟩ := bytes_good s h0 r0
  rw [h1, h2]
  refine ⟨some ⟨w.heap.size, 0, none⟩, s.size / 2, by rw [List.length_map, List.length_range], .inr ⟨_, 0, rfl, fun j hj => ?_⟩, by rw [List.length_map, List.length_range]; exact Nat.le_refl _, fun a h => (by cases h; exact Nat.le_refl _), r3⟩
  have hj' : j < s.size / 2 := by simpa using hj
  have hb := pairI_bd s j (r0 j hj')
  rw [Nat.zero_add, r1 j hj', if_pos hj']
  simp only [List.getElem_map, List.getElem_range]
  rw [lowU_nat, Int.emod_eq_of_lt hb.1 (by omega)]

set_option maxHeartbeats 1000000 in
theorem bytesC_any (s : ByteArray) (hs : s.size ≤ 281474976710656) (w : World) :
    Calls Tryd.prog 116 #[.string s] w (RetBytesC w (bytesL s) (bytesOk s)) := by
  by_cases h0 : s.size % 2 = 0
  · obtain ⟨m, hm⟩ : ∃ m, m = s.size / 2 := ⟨_, rfl⟩
    have hmk := fun w => run_make_row' (P := Tryd.prog) 59 5 (.int .u8 0) 1 Tryd.underlying59 info_u8 rfl .i64 .i64 m (by omega) (by omega) w
    have S := Lib.hid (bytesRel_start w s m 5)
    have hdiv : (s.size : Int) / 2 = (m : Int) := by omega
    have hm2 : 2 * m = s.size := by omega
    have hm3 : 2 * m ≤ s.size := by omega
    have hm4 : m ≤ 281474976710656 := by omega
    have M := Lib.hid hm
    have M2 := Lib.hid hm2
    have H0 := Lib.hid h0
    have hmod : (s.size : Int) % 2 = 0 := by omega
    clear hm hm2 h0
    go_enter Tryd.func116, Tryd.ntmps116
    go_wp2
    clear hmk hmod hdiv
    go_loopw [18] (fun i wr => ∃ k : Nat, k ≤ m ∧ i = .int .i64 k ∧ BytesRel w s m k wr) (fun i _ => m - (intOf i).toNat)
    case atStart => exact ⟨0, Nat.zero_le _, rfl, S.out⟩
    case round =>
      obtain ⟨k, hk, rfl, hr⟩ := hrel
      have R := Lib.hid hr
      clear hr
      by_cases hlt : k < m
      · have hin : 2 * k + 1 < s.size := by omega
        have hmax : (s.extract (2 * k) (2 * k + 2)).size ≤ maxLen := by have := extract_le s (2 * k) (2 * k + 2); unfold maxLen; omega
        have hP := rd_pair s k hin
        by_cases hg : goodP s k
        · obtain ⟨p1, p2⟩ := hP.1 hg
          obtain ⟨b0, b1⟩ := pairI_bd s k hg
          have rd : ∀ w, Calls Tryd.prog 127 #[.string (s.extract (2 * k) (2 * k + 2)), .int .i64 16] w fun e w' => e = .returned (.tuple #[.int .i64 (pairI s k), .bool true]) ∧ Below w.heap.size w w' := fun w => by
            have h := read_any (s.extract (2 * k) (2 * k + 2)) 16 hmax (by omega) (by omega) w
            rw [p1, p2] at h
            exact h
          have G := Lib.hid hg
          clear hP p1 p2 hg
          go_wp2_with (go_at_call 127; refine (rd _).mono ?_; rintro e w1 ⟨rfl, hb1⟩; have R1 := Lib.hid (bytesRel_below R.out hb1); have g1 := R1.out.2.1 k hlt; have g2 := R1.out.2.2.1 k hlt; have N := Lib.hid (bytesRel_next hlt G.out R1.out))
          go_roundw
          case rel => exact ⟨k + 1, by omega, by go_num, N.out⟩
          case measure => simp [intOf]; omega
        · have p2 := hP.2 hg
          have E := Lib.hid (bytes_bad s k (by rw [← M.out]; exact hlt) hg)
          have rd : ∀ w, Calls Tryd.prog 127 #[.string (s.extract (2 * k) (2 * k + 2)), .int .i64 16] w fun e w' => e = .returned (.tuple #[.int .i64 (rdV 16 (s.extract (2 * k) (2 * k + 2))), .bool false]) ∧ Below w.heap.size w w' := fun w => by
            have h := read_any (s.extract (2 * k) (2 * k + 2)) 16 hmax (by omega) (by omega) w
            rw [p2] at h
            exact h
          clear hP p2 hg
          go_wp2_with (go_at_call 127; refine (rd _).mono ?_; rintro e w1 ⟨rfl, hb1⟩)
          go_ret2
          exact retBytes_none ⟨E.out.1, E.out.2⟩ (R.out.2.2.2.trans (hb1.mono R.out.2.2.2.size))
      · obtain rfl : k = m := by omega
        have N := Lib.hid (bytesRel_end M.out H0.out R.out)
        go_wp2
        go_ret2
        exact N.out
  · have hmod : ((s.size : Int) % 2 != 0) = true := by rw [bne_iff_ne]; omega
    have E := Lib.hid (bytes_odd s h0)
    go_enter Tryd.func116, Tryd.ntmps116
    go_wp2
    go_ret2
    exact retBytes_none ⟨E.out.1, E.out.2⟩ (Below.refl _ _)

theorem digV_15 (c : Int) : 15 < digV c ↔ hexV c < 0 := by
  unfold digV hexV; split <;> (try split) <;> (try split) <;> (try split) <;> (try split) <;> omega
/-- The bytes of the pairs before k. -/
def pairsL (s : ByteArray) (k : Nat) : List UInt8 := (List.range k).map (fun j => lowU (pairI s j))
theorem pairsL_snoc (s : ByteArray) (k : Nat) : pairsL s (k + 1) = pairsL s k ++ [lowU (pairI s k)] := by unfold pairsL; rw [List.range_succ, List.map_append]; rfl
theorem pairsL_len (s : ByteArray) (k : Nat) : (pairsL s k).length = k := by unfold pairsL; simp
theorem ownB_endC {w wr : World} {v : Value} {xs : List UInt8} (h : OwnB w wr v xs) : ∃ A cap, Ending.returned v = .returned (.slice A xs.length cap) ∧ xs.length ≤ cap ∧ NewA w A ∧ BytesB wr A xs ∧ Below w.heap.size w wr := by
  rcases h.1.2 with ⟨rfl, h0⟩ | ⟨g, cap, cur, rfl, hb, _, hm, hcs⟩
  · have := List.eq_nil_of_length_eq_zero h0
    subst this
    exact ⟨none, 0, rfl, Nat.le_refl _, fun a h => (by cases h), .inl rfl, h.2⟩
  · obtain ⟨_, A, cap', e, hB⟩ := BytesB.of_own h.1
    simp only [Value.slice.injEq] at e
    obtain ⟨rfl, -, rfl⟩ := e
    exact ⟨_, cap, rfl, by first | exact hm | exact hm.1 | exact hcs.1 | omega, fun a h => (by cases h; exact hb), hB, h.2⟩
theorem retBytes_ok {w wr : World} {v : Value} {s : ByteArray} {m : Nat} (hm : m = s.size / 2) (h0 : s.size % 2 = 0) (hg : ∀ j, j < m → goodP s j) (h : OwnB w wr v (pairsL s m)) :
    RetBytesC w (bytesL s) (bytesOk s) (.returned (.tuple #[v, .bool true])) wr := by
  subst hm
  obtain ⟨h1, h2⟩ := bytes_good s h0 hg
  rw [h1, h2]
  obtain ⟨A, cap, e, hc, hnew, hb, hbel⟩ := ownB_endC h
  injection e with e
  subst e
  exact ⟨A, cap, rfl, hb, hc, hnew, hbel⟩

set_option maxHeartbeats 2000000 in
theorem rbytesC_any (s : ByteArray) (hs : s.size ≤ 140737488355328) (w : World) :
    Calls Tryd.prog 113 #[.string s] w (RetBytesC w (bytesL s) (bytesOk s)) := by
  by_cases h0 : s.size % 2 = 0
  · obtain ⟨m, hm⟩ : ∃ m, m = s.size / 2 := ⟨_, rfl⟩
    have hm2 : 2 * m = s.size := by omega
    have hm3 : 2 * m ≤ s.size := by omega
    have hm4 : m ≤ 140737488355328 := by omega
    have M := Lib.hid hm
    have M2 := Lib.hid hm2
    have H0 := Lib.hid h0
    have hmod : (s.size : Int) % 2 = 0 := by omega
    clear hm hm2 h0
    go_enter Tryd.func113, Tryd.ntmps113
    go_wp2
    clear hmod
    go_loopw [4, 5] (fun v i wr => ∃ k : Nat, k ≤ m ∧ i = .int .i64 (2 * k : Int) ∧ Hid (∀ j, j < k → goodP s j) ∧ Hid (OwnB w wr v (pairsL s k))) (fun _ i _ => s.size - (intOf i).toNat)
    case atStart => exact ⟨0, Nat.zero_le _, rfl, fun j h => by omega, ownB_start w⟩
    case round =>
      obtain ⟨k, hk, rfl, G, R⟩ := hrel
      by_cases hlt : k < m
      · have hin : 2 * k + 1 < s.size := by omega
        have hin0 : 2 * k < s.size := by omega
        have c0 : (0 : Int) ≤ (s[2 * k].toNat : Int) := by omega
        have c1 : (s[2 * k].toNat : Int) ≤ 255 := by have := s[2 * k].toNat_lt; omega
        have d0 : (0 : Int) ≤ (s[2 * k + 1].toNat : Int) := by omega
        have d1 : (s[2 * k + 1].toNat : Int) ≤ 255 := by have := s[2 * k + 1].toNat_lt; omega
        have x1 := digV_bd (s[2 * k].toNat : Int)
        have x2 := digV_bd (s[2 * k + 1].toNat : Int)
        by_cases ha : 15 < digV (s[2 * k].toNat : Int)
        · have E := Lib.hid (bytes_bad s k (by rw [← M.out]; exact hlt) (fun g => by have := (digV_15 _).1 ha; have := g.1; rw [hexAt_of s _ hin0] at this; omega))
          go_wp2_with fail
          refine (rdigit_any _ c0 c1 _).mono ?_
          rintro e w' ⟨rfl, rfl⟩
          go_wp2_with fail
          refine (rdigit_any _ d0 d1 _).mono ?_
          rintro e w' ⟨rfl, rfl⟩
          go_wp2
          go_ret2
          exact retBytes_none ⟨E.out.1, E.out.2⟩ R.out.2
        · by_cases hb : 15 < digV (s[2 * k + 1].toNat : Int)
          · have E := Lib.hid (bytes_bad s k (by rw [← M.out]; exact hlt) (fun g => by have := (digV_15 _).1 hb; have := g.2; rw [hexAt_of s _ hin] at this; omega))
            go_wp2_with fail
            refine (rdigit_any _ c0 c1 _).mono ?_
            rintro e w' ⟨rfl, rfl⟩
            go_wp2_with fail
            refine (rdigit_any _ d0 d1 _).mono ?_
            rintro e w' ⟨rfl, rfl⟩
            go_wp2
            go_ret2
            exact retBytes_none ⟨E.out.1, E.out.2⟩ R.out.2
          · have ha' : ¬ hexV (s[2 * k].toNat : Int) < 0 := fun h => ha ((digV_15 _).2 h)
            have hb' : ¬ hexV (s[2 * k + 1].toNat : Int) < 0 := fun h => hb ((digV_15 _).2 h)
            have hg : goodP s k := by unfold goodP; rw [hexAt_of s _ hin0, hexAt_of s _ hin]; omega
            have G1 : Hid (∀ j, j < k + 1 → goodP s j) := fun j h => by
              by_cases e : j = k
              · subst e; exact hg
              · exact G.out j (by omega)
            have Y : Hid (16 * digV (s[2 * k].toNat : Int) + digV (s[2 * k + 1].toNat : Int) = ((lowU (pairI s k)).toNat : Int)) := by
              show _ = _
              have hbd := pairI_bd s k hg
              rw [lowU_nat, Int.emod_eq_of_lt hbd.1 (by omega), digV_good _ (by omega), digV_good _ (by omega)]
              unfold pairI
              rw [hexAt_of s _ hin0, hexAt_of s _ hin]
            have hlen := pairsL_len s k
            have hlen2 : (pairsL s k).length < 140737488355328 := by omega
            clear hlen hg ha' hb'
            go_wp2_with fail
            refine (rdigit_any _ c0 c1 _).mono ?_
            rintro e w' ⟨rfl, rfl⟩
            go_wp2_with fail
            refine (rdigit_any _ d0 d1 _).mono ?_
            rintro e w' ⟨rfl, rfl⟩
            go_wp2_with (at_builtin; refine wpList_app1 R.out rfl _ _ rfl rfl rfl (16 * digV (s[2 * k].toNat : Int) + digV (s[2 * k + 1].toNat : Int)) (lowU (pairI s k)) Y.out hlen2 ?_; intro v' w1 hown')
            have N := Lib.hid hown'
            clear hown'
            go_wp2
            go_roundw
            case rel => exact ⟨k + 1, by omega, by go_num, G1, by have h := N.out; rwa [← pairsL_snoc] at h⟩
            case measure => simp [intOf]; omega
      · obtain rfl : k = m := by omega
        have hge : s.size ≤ 2 * k := by have := M2.out; omega
        have N := Lib.hid (retBytes_ok M.out H0.out G.out R.out)
        go_wp2
        go_ret2
        exact N.out
  · have hmod : ((s.size : Int) % 2 != 0) = true := by rw [bne_iff_ne]; omega
    have E := Lib.hid (bytes_odd s h0)
    go_enter Tryd.func113, Tryd.ntmps113
    go_wp2
    go_ret2
    exact retBytes_none ⟨E.out.1, E.out.2⟩ (Below.refl _ _)
theorem bytes_any (s : ByteArray) (hs : s.size ≤ 281474976710656) (w : World) : Calls Tryd.prog 116 #[.string s] w (RetBytesOk w (bytesL s) (bytesOk s)) := (bytesC_any s hs w).mono fun _ _ h => h.ok
theorem rbytes_any (s : ByteArray) (hs : s.size ≤ 140737488355328) (w : World) : Calls Tryd.prog 113 #[.string s] w (RetBytesOk w (bytesL s) (bytesOk s)) := (rbytesC_any s hs w).mono fun _ _ h => h.ok
end Go.Proofs.YtmeegpdjhcilkaaDoor
