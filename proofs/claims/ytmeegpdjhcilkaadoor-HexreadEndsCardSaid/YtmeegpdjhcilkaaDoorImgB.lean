/-
  Walks over the leaf functions of package image, for every image: isAddress, has, next, hasAny (with slices.Contains and slices.Index at []bool), add.
-/
import Derived.Test.YtmeegpdjhcilkaaDoorImgA
import Derived.Deep.Draws
import Derived.RegionTactic
import Derived.Deep.QuietTactic
import Derived.BigQuiet
namespace Go.Proofs.YtmeegpdjhcilkaaDoor.Im
open Go.RowKit
set_option linter.unusedVariables false

theorem ret_int {k : IntKind} {a b : Int} (h : a = b) : Ending.returned (.int k a) = .returned (.int k b) := by rw [h]
theorem ret_bool {a b : Bool} (h : a = b) : Ending.returned (.bool a) = .returned (.bool b) := by rw [h]

/-- Is there an address with this number? -/
def addrB (n : Int) : Bool := decide (0 ≤ n) && decide (n < 65536)
theorem isAddress_any (n : Int) (w : World) :
    Calls Tryd.prog 58 #[.int .i64 n] w fun e w' => e = .returned (.bool (addrB n)) ∧ w = w' := by
  by_cases h : 0 ≤ n
  · have e : addrB n = decide (n < 65536) := by unfold addrB; simp [h]
    rw [e]
    go_enter Tryd.func58, Tryd.ntmps58
    go_wp2
    go_ret
    exact ⟨rfl, rfl⟩
  · have e : addrB n = false := by unfold addrB; simp [h]
    rw [e]
    go_enter Tryd.func58, Tryd.ntmps58
    go_wp2
    go_ret
    exact ⟨rfl, rfl⟩

set_option maxHeartbeats 400000 in
theorem has_any (b : Nat) (H : Nat → Bool) (c : Int) (D : Nat → UInt8) (n : Int) (w : World) (hI : ImgF w b H c D) :
    Calls Tryd.prog 93 #[.pointer (some ⟨b, 0, none⟩), .int .i64 n] w fun e w' => e = .returned (.bool (addrB n && H n.toNat)) ∧ w = w' := by
  have I := Lib.hid hI
  clear hI
  by_cases h : 0 ≤ n ∧ n < 65536
  · have e : addrB n = true := by unfold addrB; simp [h.1, h.2]
    have g := I.out.cellH (i := n.toNat) (by omega)
    obtain ⟨h0, h1⟩ := h
    obtain ⟨k, rfl⟩ : ∃ k : Nat, n = k := ⟨n.toNat, by omega⟩
    have hk : ((k : Int)).toNat = k := by omega
    rw [hk] at g ⊢
    have hc := isAddress_any (k : Int)
    rw [e] at hc ⊢
    clear e hk
    go_enter Tryd.func93, Tryd.ntmps93
    go_wp2_with (go_at_call 58; refine (hc _).mono ?_; rintro e w1 ⟨rfl, rfl⟩)
    go_ret
    exact ⟨rfl, rfl⟩
  · have e : addrB n = false := by
      unfold addrB
      by_cases h0 : 0 ≤ n
      · have : ¬ n < 65536 := fun h1 => h ⟨h0, h1⟩
        simp [this]
      · simp [h0]
    have hc := isAddress_any n
    rw [e] at hc ⊢
    clear e h
    go_enter Tryd.func93, Tryd.ntmps93
    go_wp2_with (go_at_call 58; refine (hc _).mono ?_; rintro e w1 ⟨rfl, rfl⟩)
    go_ret
    exact ⟨rfl, rfl⟩

/-- The first address from k on that the set has (v), or that it does not have. -/
def NextI (H : Nat → Bool) (k : Nat) (v : Bool) (r : Nat) : Prop := k ≤ r ∧ r ≤ 65536 ∧ (∀ j, k ≤ j → j < r → H j = !v) ∧ (r < 65536 → H r = v)
set_option maxHeartbeats 400000 in
theorem next_any (b : Nat) (H : Nat → Bool) (c : Int) (D : Nat → UInt8) (k : Nat) (hk : k ≤ 65536) (v : Bool) (w : World) (hI : ImgF w b H c D) :
    Calls Tryd.prog 77 #[.pointer (some ⟨b, 0, none⟩), .int .i64 k, .bool v] w fun e w' => (∃ r : Nat, e = .returned (.int .i64 r) ∧ NextI H k v r) ∧ w = w' := by
  have I := Lib.hid hI
  clear hI
  go_enter Tryd.func77, Tryd.ntmps77
  go_wp2
  go_loop [1] (fun i => ∃ r : Nat, k ≤ r ∧ r ≤ 65536 ∧ i = .int .i64 r ∧ Hid (∀ j, k ≤ j → j < r → H j = !v)) (fun i => 65536 - (intOf i).toNat)
  case atStart => exact ⟨k, Nat.le_refl _, hk, rfl, fun j h1 h2 => by omega⟩
  case round =>
    obtain ⟨r, h1, h2, rfl, R⟩ := hrel
    by_cases hlt : r < 65536
    · have g := I.out.cellH hlt
      have hlt' : (r : Int) < 65536 := by omega
      by_cases he : H r = v
      · have N : Hid (NextI H k v r) := ⟨h1, h2, R.out, fun _ => he⟩
        rw [he] at g
        clear he
        cases v
        · go_wp2
          go_ret
          exact ⟨⟨r, rfl, N.out⟩, rfl⟩
        · go_wp2
          go_ret
          exact ⟨⟨r, rfl, N.out⟩, rfl⟩
      · have he' : H r = !v := by cases hr : H r <;> cases v <;> simp_all
        have N : Hid (∀ j, k ≤ j → j < r + 1 → H j = !v) := fun j h3 h4 => by
          by_cases e : j = r
          · rw [e]; exact he'
          · exact R.out j h3 (by omega)
        rw [he'] at g
        clear he he'
        cases v
        · go_wp2
          go_round
          case rel => exact ⟨r + 1, by omega, by omega, by go_num, N⟩
          case measure => simp [intOf]; omega
        · go_wp2
          go_round
          case rel => exact ⟨r + 1, by omega, by omega, by go_num, N⟩
          case measure => simp [intOf]; omega
    · have N : Hid (NextI H k v r) := ⟨h1, h2, R.out, fun h => absurd h hlt⟩
      have hlt' : decide ((r : Int) < 65536) = false := decide_eq_false (by omega)
      go_wp2
      go_ret
      exact ⟨⟨r, rfl, N.out⟩, rfl⟩

/-! ### slices.Index, slices.Contains at []bool -/
def BoolsAt (w : World) (b off n : Nat) (f : Nat → Bool) : Prop := ∀ j, j < n → w.cell? ⟨b, off + j, none⟩ = some (.bool (f j))
def anyB (f : Nat → Bool) (n : Nat) : Bool := (List.range n).any f
theorem anyB_true {f : Nat → Bool} {n k : Nat} (h : k < n) (e : f k = true) : anyB f n = true := by
  unfold anyB; rw [List.any_eq_true]; exact ⟨k, List.mem_range.2 h, e⟩
theorem anyB_false {f : Nat → Bool} {n : Nat} (h : ∀ k, k < n → f k = false) : anyB f n = false := by
  unfold anyB; rw [List.any_eq_false]; intro x hx; rw [h x (List.mem_range.1 hx)]; simp
theorem anyB_iff {f : Nat → Bool} {n : Nat} : anyB f n = true ↔ ∃ k, k < n ∧ f k = true := by
  unfold anyB; rw [List.any_eq_true]; simp
set_option maxHeartbeats 400000 in
theorem index_any (b off n cap : Nat) (hn : n ≤ maxLen) (f : Nat → Bool) (w : World) (hB : BoolsAt w b off n f) :
    Calls Tryd.prog 114 #[.slice (some ⟨b, off, none⟩) n cap, .bool true] w fun e w' => (∃ r : Int, e = .returned (.int .i64 r) ∧ anyB f n = decide (0 ≤ r)) ∧ w = w' := by
  unfold maxLen at hn
  have I := Lib.hid hB
  clear hB
  go_enter Tryd.func114, Tryd.ntmps114
  go_wp2
  go_loop [8] (fun i => ∃ k : Nat, k ≤ n ∧ i = .int .i64 k ∧ Hid (∀ j, j < k → f j = false)) (fun i => n - (intOf i).toNat)
  case atStart => exact ⟨0, Nat.zero_le _, rfl, fun j h => by omega⟩
  case round =>
    obtain ⟨k, hk, rfl, R⟩ := hrel
    by_cases hlt : k < n
    · have g := I.out k hlt
      cases he : f k
      · have N : Hid (∀ j, j < k + 1 → f j = false) := fun j h4 => by
          by_cases e : j = k
          · rw [e]; exact he
          · exact R.out j (by omega)
        rw [he] at g
        clear he
        go_wp2
        go_round
        case rel => exact ⟨k + 1, by omega, by go_num, N⟩
        case measure => simp [intOf]; omega
      · have N : Hid (anyB f n = true) := anyB_true hlt he
        rw [he] at g
        clear he
        go_wp2
        go_ret
        exact ⟨⟨k, rfl, by rw [N.out, decide_eq_true (by omega)]⟩, rfl⟩
    · have N : Hid (anyB f n = false) := anyB_false fun j hj => R.out j (by omega)
      go_wp2
      go_ret
      exact ⟨⟨-1, rfl, by rw [N.out]; rfl⟩, rfl⟩
theorem contains_any (b off n cap : Nat) (hn : n ≤ maxLen) (f : Nat → Bool) (w : World) (hB : BoolsAt w b off n f) :
    Calls Tryd.prog 94 #[.slice (some ⟨b, off, none⟩) n cap, .bool true] w fun e w' => e = .returned (.bool (anyB f n)) ∧ w = w' := by
  have I := Lib.hid hB
  clear hB
  go_enter Tryd.func94, Tryd.ntmps94
  go_wp2_with fail
  refine (index_any b off n cap hn f _ I.out).mono ?_
  rintro e w1 ⟨⟨r, rfl, hr⟩, rfl⟩
  have R := Lib.hid hr
  clear hr
  go_wp2
  go_ret
  exact ⟨ret_bool R.out.symm, rfl⟩
/-- 'a[k:k+n]' of an array of 65536 variables of one cell. -/
theorem slice_lh (t e : TypeId) (ht : Tryd.prog.underlying t = some (.array 65536 e)) (hs : ∀ w, (sizeOf e).run Tryd.prog w = .ok 1 w) (b off k n : Nat) (hk : k < 65536) (hn : k + n ≤ 65536) (w : World) :
    (Instr.sliceAt t (.pointer (some ⟨b, off, none⟩)) (some (.int .i64 k)) (some (.int .i64 ((k : Int) + (n : Int)))) none).run Tryd.prog w = .ok (.slice (some ⟨b, off + k, none⟩) n (65536 - k)) w := by
  have h1 : Tryd.prog.arrayLen t = 65536 := by unfold Program.arrayLen; rw [ht]
  have h2 : Tryd.prog.elem t = e := by unfold Program.elem; rw [ht]
  rw [run_sliceAt_array_lh w t _ (by rw [h1, h2]; exact ht) .i64 .i64 (k : Int) ((k : Int) + (n : Int)) (by omega) (by omega) (by rw [h1]; omega), h2, hs, h1]
  simp only [Result.andThen_ok, slicedAt]
  have e1 : (((k : Int) + (n : Int)).toNat) - ((k : Int)).toNat = n := by omega
  have e2 : ((k : Int)).toNat = k := by omega
  rw [e1, e2, if_neg (by omega), Nat.mul_one]
  unfold Addr.add
  by_cases h : k = 0
  · subst h; rfl
  · rw [if_neg h]
/-- 'a[k:]' of an array of 65536 variables of one cell. -/
theorem slice_l (t e : TypeId) (ht : Tryd.prog.underlying t = some (.array 65536 e)) (hs : ∀ w, (sizeOf e).run Tryd.prog w = .ok 1 w) (b off k : Nat) (hk : k < 65536) (w : World) :
    (Instr.sliceAt t (.pointer (some ⟨b, off, none⟩)) (some (.int .i64 k)) none none).run Tryd.prog w = .ok (.slice (some ⟨b, off + k, none⟩) (65536 - k) (65536 - k)) w := by
  have h1 : Tryd.prog.arrayLen t = 65536 := by unfold Program.arrayLen; rw [ht]
  have h2 : Tryd.prog.elem t = e := by unfold Program.elem; rw [ht]
  rw [run_sliceAt_array_l w t _ (by rw [h1, h2]; exact ht) .i64 (k : Int) (by omega) (by rw [h1]; omega), h2, hs, h1]
  simp only [Result.andThen_ok, slicedAt]
  have e2 : ((k : Int)).toNat = k := by omega
  rw [e2, if_neg (by omega), Nat.mul_one]
  unfold Addr.add
  by_cases h : k = 0
  · subst h; rfl
  · rw [if_neg h]
set_option maxHeartbeats 400000 in
theorem hasAny_any (b : Nat) (H : Nat → Bool) (c : Int) (D : Nat → UInt8) (k n : Nat) (hk : k < 65536) (hn : k + n ≤ 65536) (w : World) (hI : ImgF w b H c D) :
    Calls Tryd.prog 59 #[.pointer (some ⟨b, 0, none⟩), .int .i64 k, .int .i64 n] w fun e w' => e = .returned (.bool (anyB (fun j => H (k + j)) n)) ∧ w = w' := by
  have hB : BoolsAt w b k n (fun j => H (k + j)) := fun j hj => hI.cellH (by omega)
  have I := Lib.hid hB
  clear hB hI
  go_enter Tryd.func59, Tryd.ntmps59
  have hsl := fun w => slice_lh 82 4 Tryd.underlying82 (fun w => Tryd.sizeOf4 w) b 0 k n hk hn w
  rw [Nat.zero_add] at hsl
  go_wp2_with fail
  refine (contains_any b k n _ (by unfold maxLen; omega) _ _ I.out).mono ?_
  rintro e w1 ⟨rfl, rfl⟩
  go_wp2
  go_ret
  exact ⟨rfl, rfl⟩
set_option maxHeartbeats 400000 in
theorem add_any (b : Nat) (H : Nat → Bool) (c : Int) (hc0 : 0 ≤ c) (hc1 : c ≤ 4611686018427387904) (D : Nat → UInt8) (k n : Nat) (hk : k < 65536) (hn : k + n ≤ 65536) (w : World) (hI : ImgF w b H c D) :
    Calls Tryd.prog 60 #[.pointer (some ⟨b, 0, none⟩), .int .i64 k, .int .i64 n] w fun e w' =>
      e = .returned (.tuple #[]) ∧ ImgF w' b (fun i => H i || (decide (k ≤ i) && decide (i < k + n))) (c + n) D ∧ Keep b w w' := by
  have I := Lib.hid hI
  clear hI
  go_enter Tryd.func60, Tryd.ntmps60
  go_wp2
  go_loopw [6] (fun i wr => ∃ r : Nat, k ≤ r ∧ r ≤ k + n ∧ i = .int .i64 r ∧ ImgF wr b (fun i => H i || (decide (k ≤ i) && decide (i < r))) c D ∧ Keep b w wr) (fun i _ => k + n - (intOf i).toNat)
  case atStart =>
    refine ⟨k, Nat.le_refl _, by omega, rfl, I.out.congr (fun i _ => ?_) (fun _ _ => rfl), Keep.refl _ _⟩
    rw [show (decide (k ≤ i) && decide (i < k)) = false by simp, Bool.or_false]
  case round =>
    obtain ⟨r, h1, h2, rfl, hR, hK⟩ := hrel
    have R := Lib.hid hR
    have K := Lib.hid hK
    clear hR hK
    by_cases hlt : r < k + n
    · have g := R.out.cellH (show r < 65536 by omega)
      have g2 := World.rowIs.frozen R.out r
      have N : Hid (ImgF (wr.setCell ⟨b, r, none⟩ (.bool true)) b (fun i => H i || (decide (k ≤ i) && decide (i < r + 1))) c D) :=
        (R.out.setH (show r < 65536 by omega) true).congr (fun i _ => by
          by_cases e : i = r
          · subst e; simp [h1]
          · simp only [if_neg e]
            rw [show decide (i < r + 1) = decide (i < r) from decide_eq_decide.2 (by omega)]) (fun _ _ => rfl)
      have K2 := Lib.hid (K.out.setCell r none (.bool true))
      go_wp2
      go_roundw
      case rel => exact ⟨r + 1, by omega, by omega, by go_num, N.out, K2.out⟩
      case measure => simp [intOf]; omega
    · obtain rfl : r = k + n := by omega
      have g := R.out.cellN
      have g2 := World.rowIs.frozen R.out 65536
      have N := Lib.hid (R.out.setN (c + n))
      have K2 := Lib.hid (K.out.setCell 65536 none (.int .i64 (c + n)))
      go_wp2
      go_end0
      exact ⟨rfl, N.out, K2.out⟩
end Go.Proofs.YtmeegpdjhcilkaaDoor.Im
