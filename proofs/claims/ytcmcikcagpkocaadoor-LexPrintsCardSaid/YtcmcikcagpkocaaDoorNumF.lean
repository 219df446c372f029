/-
  Walks over num.Fits and num.Hex.
-/
import Derived.Test.YtcmcikcagpkocaaDoorNumC
import Derived.Laws.IdiomStrings
import Derived.Lib.SlBytesRow
import Derived.Deep.OwnRows
namespace Go.Proofs.YtcmcikcagpkocaaDoor
open Go.RowKit
set_option linter.unusedVariables false

/-- A slice of integers that reads as zs. -/
def IntsAt (w : World) (A : Option Addr) (zs : List Int) : Prop :=
  zs = [] ∨ ∃ b off, A = some ⟨b, off, none⟩ ∧ ∀ j (h : j < zs.length), w.cell? ⟨b, off + j, none⟩ = some (.int .i64 zs[j])
theorem IntsAt.at_ {w : World} {A : Option Addr} {zs : List Int} (h : IntsAt w A zs) {k : Nat} (hk : k < zs.length) : ∃ b off, A = some ⟨b, off, none⟩ ∧ w.cell? ⟨b, off + k, none⟩ = some (.int .i64 zs[k]) := by
  rcases h with rfl | ⟨b, off, rfl, hc⟩
  · simp at hk
  · exact ⟨b, off, rfl, hc k hk⟩
/-- Are all numbers from lo to hi? -/
def fitsB (lo hi : Int) (zs : List Int) : Bool := zs.all fun n => decide (lo ≤ n) && decide (n ≤ hi)
theorem fits_bad (lo hi : Int) (zs : List Int) (k : Nat) (h : k < zs.length) (hb : zs[k] < lo ∨ hi < zs[k]) : fitsB lo hi zs = false := by
  unfold fitsB
  rw [List.all_eq_false]
  refine ⟨zs[k], List.getElem_mem h, ?_⟩
  simp
  omega
theorem fits_all (lo hi : Int) (zs : List Int) (h : ∀ j (h : j < zs.length), lo ≤ zs[j] ∧ zs[j] ≤ hi) : fitsB lo hi zs = true := by
  unfold fitsB
  rw [List.all_eq_true]
  intro x hx
  obtain ⟨j, hj, rfl⟩ := List.getElem_of_mem hx
  have := h j hj
  simp
  omega

set_option maxHeartbeats 400000 in
theorem fits_any (lo hi : Int) (A : Option Addr) (cap : Nat) (zs : List Int) (hl : zs.length ≤ maxLen) (w : World) (hz : IntsAt w A zs) :
    Calls Tryd.prog 79 #[.int .i64 lo, .int .i64 hi, .slice A zs.length cap] w fun e w' => e = .returned (.bool (fitsB lo hi zs)) ∧ w = w' := by
  unfold maxLen at hl
  have Z := Lib.hid hz
  clear hz
  go_enter Tryd.func79, Tryd.ntmps79
  go_wp2
  go_loop [11] (fun i => ∃ k : Nat, k ≤ zs.length ∧ i = .int .i64 k ∧ Hid (∀ j (h : j < zs.length), j < k → lo ≤ zs[j] ∧ zs[j] ≤ hi)) (fun i => zs.length - (intOf i).toNat)
  case atStart => exact ⟨0, Nat.zero_le _, rfl, fun j h h' => by omega⟩
  case round =>
    obtain ⟨k, hk, rfl, R⟩ := hrel
    by_cases hlt : k < zs.length
    · obtain ⟨b, off, hA, hc⟩ := Z.out.at_ hlt
      subst hA
      by_cases h1 : zs[k] < lo
      · have F := Lib.hid (fits_bad lo hi zs k hlt (.inl h1))
        go_wp2
        go_ret
        exact ⟨ret_bool F.out.symm, rfl⟩
      · by_cases h2 : hi < zs[k]
        · have F := Lib.hid (fits_bad lo hi zs k hlt (.inr h2))
          go_wp2
          go_ret
          exact ⟨ret_bool F.out.symm, rfl⟩
        · have N : Hid (∀ j (h : j < zs.length), j < k + 1 → lo ≤ zs[j] ∧ zs[j] ≤ hi) := fun j h h' => by
            by_cases e : j = k
            · subst e; omega
            · exact R.out j h (by omega)
          go_wp2
          go_round
          case rel => exact ⟨k + 1, by omega, by go_num, N⟩
          case measure => simp [intOf]; omega
    · have F := Lib.hid (fits_all lo hi zs fun j h => R.out j h (by omega))
      go_wp2
      go_ret
      exact ⟨ret_bool F.out.symm, rfl⟩

theorem ints_one (w : World) (x : Int) (t : TypeId) : IntsAt (w.alloc (.cells #[.int .i64 x] t)) (some ⟨w.heap.size, 0, none⟩) [x] := by
  refine .inr ⟨_, _, rfl, fun j h => ?_⟩
  obtain rfl : j = 0 := by simp at h; omega
  simp [go_sem]

theorem info_u8 : (Tryd.prog.info? 5).map (fun i => (i.zero, i.size, i.bytes)) = some (some (.int .u8 0), 1, 1) := by kernel_rfl

/-- The digit with the value x. -/
def hexU (x : Int) : UInt8 := (if x < 10 then 48 + x else 55 + x).toNat.toUInt8
def hexTab : ByteArray := ⟨#[48, 49, 50, 51, 52, 53, 54, 55, 56, 57, 65, 66, 67, 68, 69, 70]⟩
theorem hexTab_at (x : Int) (h0 : 0 ≤ x) (h1 : x < 16) (h : x.toNat < hexTab.size) : hexTab[x.toNat] = hexU x := by
  have t : ∀ i : Fin 16, ∀ h : i.val < hexTab.size, hexTab[i.val] = hexU (i.val : Int) := by decide +kernel
  have := t ⟨x.toNat, by omega⟩ h
  simpa [Int.toNat_of_nonneg h0] using this
theorem and15 (x : Int) : bits .and .i64 x 15 = x % 16 := by
  show IntKind.i64.wrap ((BitVec.ofInt 64 x &&& BitVec.ofInt 64 15).toNat : Int) = _
  rw [BitVec.toNat_and, show (BitVec.ofInt 64 15).toNat = 2 ^ 4 - 1 from rfl, Nat.and_two_pow_sub_one_eq_mod, BitVec.toNat_ofInt, IntKind.wrap_i64]
  omega
/-- The digit number i from the right of n. -/
def digI (n : Int) (i : Nat) : Int := (n / 2 ^ (4 * i)) % 16
theorem digI_bd (n : Int) (i : Nat) : 0 ≤ digI n i ∧ digI n i < 16 := by unfold digI; omega
/-- The last d digits of n. -/
def hexS (n : Int) (d : Nat) : ByteArray := ⟨((List.range d).map fun j => hexU (digI n (d - 1 - j))).toArray⟩
theorem hexS_size (n : Int) (d : Nat) : (hexS n d).size = d := by show (((List.range d).map fun j => hexU (digI n (d - 1 - j))).toArray).size = d; simp
theorem hexS_at (n : Int) (d j : Nat) (h : j < (hexS n d).size) : (hexS n d)[j] = hexU (digI n (d - 1 - j)) := by
  have h1 : (hexS n d).data[j]'h = hexU (digI n (d - 1 - j)) := by simp [hexS]
  exact h1
def HexRel (w : World) (n : Int) (d k : Nat) (wr : World) : Prop :=
  (∀ j, j < d → wr.cell? ⟨w.heap.size + 1, j, none⟩ = some (.int .u8 (if d - 1 - j < k then ((hexU (digI n (d - 1 - j))).toNat : Int) else 0))) ∧ (∀ j, j < d → wr.frozen? ⟨w.heap.size + 1, j, none⟩ = false) ∧ Below w.heap.size w wr
theorem hexRel_start (w : World) (n : Int) (d : Nat) (O : Obj) (e : TypeId) : HexRel w n d 0 ((w.alloc O).alloc (.cells (madeCells #[.int .u8 0] d) e)) := by
  refine ⟨fun j h => ?_, fun j h => ?_, ((Below.refl _ _).alloc (Nat.le_refl _) _).alloc (by simp) _⟩
  · rw [if_neg (by omega)]
    simp [go_sem, madeCells, h, Nat.mod_one]
  · simp [go_sem]
theorem hexRel_next (w wr : World) (n : Int) (d k : Nat) (hk : k < d) (hr : HexRel w n d k wr) :
    HexRel w n d (k + 1) (wr.setCell ⟨w.heap.size + 1, d - 1 - k, none⟩ (.int .u8 ((hexU (digI n k)).toNat : Int))) := by
  obtain ⟨r1, r2, r3⟩ := hr
  refine ⟨fun j hj => ?_, fun j hj => ?_, r3.setCell (by simp) _⟩
  · by_cases e : j = d - 1 - k
    · subst e
      have := r1 _ hj
      have e2 : d - 1 - (d - 1 - k) = k := by omega
      rw [if_pos (by omega), e2]
      simp [go_sem, this]
    · rw [World.cell?_setCell_other _ _ _ _ (by simp), r1 j hj]
      by_cases h1 : d - 1 - j < k
      · rw [if_pos h1, if_pos (by omega)]
      · rw [if_neg h1, if_neg (by omega)]
  · simp [go_sem, r2 j hj]
theorem hexRel_end (w wr : World) (n : Int) (d cap : Nat) (hr : HexRel w n d d wr) :
    (convert 69 9 (.slice (some ⟨w.heap.size + 1, 0, none⟩) d cap)).run Tryd.prog wr = .ok (.string (hexS n d)) wr := by
  have h := Lib.run_convert_whole (P := Tryd.prog) wr 69 5 9 Tryd.underlying69 Tryd.underlying5 Tryd.underlying9 (w.heap.size + 1) 0 (hexS n d) (fun i hi => by
    have hi' : i < d := by rw [hexS_size] at hi; exact hi
    rw [Nat.zero_add, hr.1 i hi', if_pos (by omega), hexS_at n d i hi]) cap
  rw [hexS_size] at h
  exact h

set_option maxHeartbeats 400000 in
theorem hex_any (n : Int) (d : Nat) (hd : d ≤ 8) (w : World) :
    Calls Tryd.prog 80 #[.int .i64 n, .int .i64 d] w fun e w' => e = .returned (.string (hexS n d)) ∧ Below w.heap.size w w' := by
  have hF : fitsB 0 8 [(d : Int)] = true := by simp [fitsB]; omega
  have hmk := fun w => run_make_row' (P := Tryd.prog) 69 5 (.int .u8 0) 1 Tryd.underlying69 info_u8 rfl .i64 .i64 d (by omega) (by omega) w
  have S := fun O => Lib.hid (hexRel_start w n d O 5)
  go_enter Tryd.func80, Tryd.ntmps80
  go_wp2_with (go_at_call 79; refine (fits_any 0 8 _ _ [(d : Int)] (by simp [maxLen]) _ (ints_one _ _ _)).mono ?_; rintro e w' ⟨rfl, rfl⟩)
  clear hmk
  go_loopw [14] (fun i wr => ∃ k : Nat, k ≤ d ∧ i = .int .i64 k ∧ HexRel w n d k wr) (fun i _ => d - (intOf i).toNat)
  case atStart => exact ⟨0, Nat.zero_le _, rfl, (S _).out⟩
  case round =>
    obtain ⟨k, hk, rfl, hr⟩ := hrel
    have R := Lib.hid hr
    clear hr
    by_cases hlt : k < d
    · have hbit := and15 (n / 2 ^ (4 * k))
      obtain ⟨x0, x1⟩ := digI_bd n k
      have hd0 : digI n k = n / 2 ^ (4 * k) % 16 := rfl
      rw [← hd0] at hbit
      clear hd0
      obtain ⟨x, hx⟩ : ∃ x, digI n k = x := ⟨_, rfl⟩
      rw [hx] at hbit x0 x1
      have X := Lib.hid hx
      clear hx
      have g1 := R.out.1 (d - 1 - k) (by omega)
      have g2 := R.out.2.1 (d - 1 - k) (by omega)
      have N := Lib.hid (hexRel_next w wr n d k hlt R.out)
      go_wp2
      go_roundw
      case rel => exact ⟨k + 1, by omega, by go_num, by have h := N.out; rw [X.out, ← hexTab_at x x0 x1 (by show x.toNat < 16; omega)] at h; exact h⟩
      case measure => simp [intOf]; omega
    · obtain rfl : k = d := by omega
      have hback := hexRel_end w wr n k k R.out
      go_wp2
      go_ret
      exact ⟨rfl, R.out.2.2⟩
end Go.Proofs.YtcmcikcagpkocaaDoor
