/-
  The walk over strings.TrimRight at a carriage return.
-/
import Derived.Test.YtmeegpdjhcilkaaDoorRdEn
namespace Go.Proofs.YtmeegpdjhcilkaaDoor
open Go.RowKit
set_option linter.unusedVariables false

def RetTr (x : List UInt8) (w : World) (e : Ending) (w' : World) : Prop := ∃ z, e = .returned (.string (strOf z)) ∧ z.length ≤ x.length ∧ ((∀ c ∈ x, c ≠ 13) → z = x) ∧ w = w'
set_option maxRecDepth 100000 in
set_option maxHeartbeats 2000000 in
theorem trimRB_any (x : List UInt8) (hx : x.length ≤ 40000000) (w : World) :
    Calls Tryd.prog 47 #[.string (strOf x), .int .u8 13] w (RetTr x w) := by
  have S0 : Hid (strOf x = strOf (x.take x.length)) := by show _ = _; rw [List.take_length]
  obtain ⟨n, hn⟩ : ∃ n, x.length = n := ⟨_, rfl⟩
  have HN := Lib.hid hn
  rw [hn] at hx S0
  obtain ⟨s, hs⟩ : ∃ s, strOf x = s := ⟨_, rfl⟩
  rw [hs] at S0 ⊢
  clear hn hs
  go_enter Tryd.func47, Tryd.ntmps47
  go_wp2
  go_loop [0] (fun sv => ∃ (k : Nat) (t : ByteArray), k ≤ n ∧ sv = .string t ∧ t.size = k ∧ Hid (t = strOf (x.take k) ∧ ((∀ c ∈ x, c ≠ 13) → k = n))) (fun sv => match sv with | .string t => t.size | _ => 0)
  case atStart => exact ⟨n, s, Nat.le_refl _, rfl, by rw [S0.out, strOf_size, List.length_take, HN.out]; omega, S0.out, fun _ => rfl⟩
  case round =>
    obtain ⟨k, t, hk, rfl, hsz, T⟩ := hrel
    cases k with
    | zero =>
      have F : Hid (RetTr x w (.returned (.string t)) w) := ⟨[], by rw [T.out.1]; rfl, Nat.zero_le _, fun h => by
        have h0 := T.out.2 h
        exact (List.eq_nil_of_length_eq_zero (by rw [HN.out, ← h0])).symm, rfl⟩
      go_wp2
      go_ret
      exact F.out
    | succ k =>
      have hkx : k < x.length := by rw [HN.out]; omega
      have hidx : t.size - 1 < t.size := by omega
      have hat : t[t.size - 1]'hidx = x[k] := by
        have h1 : t.data.toList = x.take (k + 1) := by rw [T.out.1, strOf_list]
        have h2 : t[t.size - 1]'hidx = t.data.toList[k]'(by rw [h1, List.length_take]; omega) := by
          simp only [hsz, Nat.add_sub_cancel, Array.getElem_toList]
          rfl
        rw [h2]
        simp only [h1, List.getElem_take]
      by_cases h13 : x[k] = 13
      · have hv : (((t[t.size - 1]'hidx).toNat : Int) == 13) = true := by rw [hat, h13]; rfl
        have NT : Hid (t.extract 0 (t.size - 1) = strOf (x.take k) ∧ ((∀ c ∈ x, c ≠ 13) → k = n)) := by
          refine ⟨?_, fun h => absurd h13 (h _ (List.getElem_mem hkx))⟩
          apply bytes_ext
          rw [Lib.extract_data, T.out.1, strOf_list, strOf_list]
          rw [← T.out.1, hsz, List.drop_zero, List.take_take]
          congr 1
          omega
        have hes : (t.extract 0 (t.size - 1)).size = k := by rw [ByteArray.size_extract]; omega
        have hpos : 0 < t.size := by omega
        have hsb : t.size ≤ 40000000 := by omega
        have hpI : (0 : Int) < (t.size : Int) := by omega
        have hkb : k ≤ 40000000 := by omega
        have HS := Lib.hid hsz
        clear h13 hat T hsz hkx
        go_wp2
        go_round
        case rel => exact ⟨k, _, by omega, rfl, hes, NT.out⟩
        case measure => simp; omega
      · have hv : (((t[t.size - 1]'hidx).toNat : Int) == 13) = false := beq_eq_false_iff_ne.2 fun h => h13 (UInt8.toNat_inj.1 (by rw [hat] at h; have : ((13 : UInt8).toNat : Int) = 13 := rfl; omega))
        have F : Hid (RetTr x w (.returned (.string t)) w) := ⟨x.take (k + 1), by rw [T.out.1], by rw [List.length_take]; omega, fun h => by
          rw [T.out.2 h]
          exact List.take_of_length_le (by rw [HN.out]; exact Nat.le_refl _), rfl⟩
        have hpos : 0 < t.size := by omega
        have hsb : t.size ≤ 40000000 := by omega
        have hpI : (0 : Int) < (t.size : Int) := by omega
        have hkb : k + 1 ≤ 40000000 := by omega
        have HS := Lib.hid hsz
        clear h13 hat T hkx hsz
        go_wp2
        go_ret
        exact F.out
set_option maxRecDepth 100000 in
set_option maxHeartbeats 2000000 in
theorem trimR13_any (x : List UInt8) (hx : x.length ≤ 40000000) (w : World) :
    Calls Tryd.prog 18 #[.string (strOf x), .string ⟨#[13]⟩] w (RetTr x w) := by
  have h := trimRB_any x hx w
  have h13 : (⟨#[13]⟩ : ByteArray).size = 1 := rfl
  have hne : (⟨#[13]⟩ : ByteArray).toList.isEmpty = false := by rw [ByteArray.toList_eq]; rfl
  obtain ⟨s, hs⟩ : ∃ s, strOf x = s := ⟨_, rfl⟩
  have hE : Hid (s.toList.isEmpty = true → RetTr x w (.returned (.string s)) w) := fun _ => ⟨x, by rw [hs], Nat.le_refl _, fun _ => rfl, rfl⟩
  rw [hs] at h ⊢
  clear hs
  obtain ⟨q, hq⟩ : ∃ q, s.toList.isEmpty = q := ⟨_, rfl⟩
  cases q
  · go_enter Tryd.func18, Tryd.ntmps18
    go_wp2_with fail
    refine h.mono ?_
    rintro e w' ⟨z, rfl, h1, h2, rfl⟩
    have F : Hid (RetTr x w (.returned (.string (strOf z))) w) := ⟨z, rfl, h1, h2, rfl⟩
    clear h1 h2 h
    go_wp2
    go_ret
    exact F.out
  · have F := Lib.hid (hE.out hq)
    clear h
    go_enter Tryd.func18, Tryd.ntmps18
    go_wp2
    go_ret
    exact F.out
end Go.Proofs.YtmeegpdjhcilkaaDoor
