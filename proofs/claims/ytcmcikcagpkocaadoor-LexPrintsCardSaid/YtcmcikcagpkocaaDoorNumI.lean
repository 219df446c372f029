/-
  Walks over the document's own answers (package breadboardref01): digit, value, Hex, Text, Signed: each returns what the walks over package num return.
-/
import Derived.Test.YtcmcikcagpkocaaDoorNumH
namespace Go.Proofs.YtcmcikcagpkocaaDoor
open Go.RowKit
set_option linter.unusedVariables false

/-- The value of a digit, or 99. -/
def digV (c : Int) : Int := if 48 ≤ c ∧ c ≤ 57 then c - 48 else if 97 ≤ c ∧ c ≤ 102 then c - 87 else if 65 ≤ c ∧ c ≤ 70 then c - 55 else 99
set_option maxHeartbeats 400000 in
theorem rdigit_any (c : Int) (h0 : 0 ≤ c) (h1 : c ≤ 255) (w : World) :
    Calls Tryd.prog 78 #[.int .u8 c] w fun e w' => e = .returned (.int .i64 (digV c)) ∧ w = w' := by
  by_cases a1 : 48 ≤ c ∧ c ≤ 57
  · have D := Lib.hid (show c - 48 = digV c by unfold digV; rw [if_pos a1])
    obtain ⟨b0, b1⟩ := a1
    go_enter Tryd.func78, Tryd.ntmps78
    go_wp2
    go_ret
    exact ⟨ret_int (by have := D.out; omega), rfl⟩
  · by_cases a2 : 97 ≤ c ∧ c ≤ 102
    · have D := Lib.hid (show c - 87 = digV c by unfold digV; rw [if_neg a1, if_pos a2])
      obtain ⟨b0, b1⟩ := a2
      clear a1
      go_enter Tryd.func78, Tryd.ntmps78
      go_wp2
      go_ret
      exact ⟨ret_int (by have := D.out; omega), rfl⟩
    · by_cases a3 : 65 ≤ c ∧ c ≤ 70
      · have D := Lib.hid (show c - 55 = digV c by unfold digV; rw [if_neg a1, if_neg a2, if_pos a3])
        obtain ⟨b0, b1⟩ := a3
        clear a1 a2
        go_enter Tryd.func78, Tryd.ntmps78
        go_wp2
        go_ret
        exact ⟨ret_int (by have := D.out; omega), rfl⟩
      · have D := Lib.hid (show 99 = digV c by unfold digV; rw [if_neg a1, if_neg a2, if_neg a3])
        have b : c < 48 ∨ (57 < c ∧ c < 65) ∨ (70 < c ∧ c < 97) ∨ 102 < c := by omega
        clear a1 a2 a3
        rcases b with b | ⟨b, b'⟩ | ⟨b, b'⟩ | b
        all_goals
          go_enter Tryd.func78, Tryd.ntmps78
          go_wp2
          go_ret
          exact ⟨ret_int D.out, rfl⟩
theorem hexTab_cut (x : Int) (h0 : 0 ≤ x) (h1 : x < 16) : hexTab.extract x.toNat (x + 1).toNat = ⟨#[hexU x]⟩ := by
  have t : ∀ i : Fin 16, hexTab.extract i.val (i.val + 1) = ⟨#[hexU (i.val : Int)]⟩ := by decide +kernel
  have h := t ⟨x.toNat, by omega⟩
  have e : ((x.toNat : Nat) : Int) = x := by omega
  have e2 : (x + 1).toNat = x.toNat + 1 := by omega
  simp only [e] at h
  rw [e2]
  exact h
theorem hexS_succ (n : Int) (k : Nat) : (hexS n (k + 1)).data.toList = hexU (digI n k) :: (hexS n k).data.toList := by
  have e : (List.range (k + 1)).map (fun j => hexU (digI n (k + 1 - 1 - j))) = hexU (digI n k) :: (List.range k).map fun j => hexU (digI n (k - 1 - j)) := by
    rw [List.range_succ_eq_map, List.map_cons, List.map_map]
    congr 1
    apply List.map_congr_left
    intro j hj
    have := List.mem_range.1 hj
    show hexU (digI n (k + 1 - 1 - (j + 1))) = _
    rw [show k + 1 - 1 - (j + 1) = k - 1 - j by omega]
  unfold hexS
  simpa using e
theorem digI_of (n m : Int) (k : Nat) (h : m = n / 2 ^ (4 * k)) : m % 16 = digI n k := by unfold digI; rw [h]
theorem shr_next (n m : Int) (k : Nat) (h : m = n / 2 ^ (4 * k)) : m / 16 = n / 2 ^ (4 * (k + 1)) := by
  rw [h, Int.ediv_ediv_of_nonneg (by exact Int.pow_nonneg (by omega)), show (2 : Int) ^ (4 * (k + 1)) = 2 ^ (4 * k) * 16 by rw [Nat.mul_add, Int.pow_add]; rfl]
set_option maxHeartbeats 400000 in
theorem rhex_any (n : Int) (d : Nat) (hd : d ≤ 8) (w : World) :
    Calls Tryd.prog 57 #[.int .i64 n, .int .i64 d] w fun e w' => e = .returned (.string (hexS n d)) ∧ w = w' := by
  go_enter Tryd.func57, Tryd.ntmps57
  go_wp2
  go_loop [0, 5, 6] (fun a s i => ∃ (k : Nat) (m : Int) (t : ByteArray), k ≤ d ∧ i = .int .i64 k ∧ a = .int .i64 m ∧ s = .string t ∧ t.size ≤ 8 ∧ Hid (m = n / 2 ^ (4 * k)) ∧ Hid (t = hexS n k)) (fun _ _ i => d - (intOf i).toNat)
  case atStart => exact ⟨0, n, ⟨#[]⟩, Nat.zero_le _, rfl, rfl, rfl, by decide, by show n = n / 2 ^ (4 * 0); simp, rfl⟩
  case round =>
    obtain ⟨k, m, t, hk, rfl, rfl, rfl, ht, M, T⟩ := hrel
    by_cases hlt : k < d
    · have hbit := and15 m
      obtain ⟨x0, x1⟩ := digI_bd n k
      rw [digI_of n m k M.out] at hbit
      obtain ⟨x, hx⟩ : ∃ x, digI n k = x := ⟨_, rfl⟩
      rw [hx] at hbit x0 x1
      have N : Hid (hexTab.extract x.toNat (x + 1).toNat ++ t = hexS n (k + 1)) := by
        rw [hexTab_cut x x0 x1]
        apply bytes_ext
        rw [append_data, hexS_succ, T.out, hx]
        rfl
      clear hx
      go_wp2
      go_round
      case rel => exact ⟨k + 1, _, _, by omega, by go_num, rfl, rfl, by show (hexTab.extract x.toNat (x + 1).toNat ++ t).size ≤ 8; rw [N.out, hexS_size]; omega, shr_next n m k M.out, N⟩
      case measure => simp [intOf]; omega
    · have T' : Hid (t = hexS n d) := by have h := T.out; rwa [show k = d by omega] at h
      go_wp2
      go_ret
      exact ⟨ret_str T'.out, rfl⟩
end Go.Proofs.YtcmcikcagpkocaaDoor
