/-
  The walks over hexread.Diff, the reference's Diff and slices.Equal at integers.
-/
import Derived.Test.YtmeegpdjhcilkaaDoorRdA
import Derived.Test.YtmeegpdjhcilkaaDoorRdD
namespace Go.Proofs.YtmeegpdjhcilkaaDoor
open Go.RowKit
set_option linter.unusedVariables false

/-- A row of integers that the call made. -/
def RetI (w : World) (zs : List Int) (e : Ending) (w' : World) : Prop := ∃ A cap, e = .returned (.slice A zs.length cap) ∧ IntsAt w' A zs ∧ Below w.heap.size w w'
theorem OwnI.ret {w wr : World} {v : Value} {zs : List Int} (h : OwnI w wr v zs) : RetI w zs (.returned v) wr := by
  obtain ⟨A, cap, rfl, -, h1⟩ := h.ints
  exact ⟨A, cap, rfl, h1, h.2⟩
def natI (l : List Nat) : List Int := l.map fun (n : Nat) => (n : Int)
theorem natI_length (l : List Nat) : (natI l).length = l.length := by unfold natI; rw [List.length_map]
theorem natI_snoc (l : List Nat) (k : Nat) : natI (l ++ [k]) = natI l ++ [(k : Int)] := by unfold natI; rw [List.map_append]; rfl
/-- Get, of an image or of nil. -/
theorem getM_any (m : Value) (V : List Im.Cel) (k : Nat) (hk : k < 65536) (w : World) (h : ImgM w m V) :
    Calls Tryd.prog 57 #[m, .int .i64 (k : Int)] w fun e w' => e = .returned (.tuple #[.int .u8 ((Im.byteW V k).toNat : Int), .bool (Im.hasW V k)]) ∧ w = w' := by
  rcases h with ⟨rfl, rfl⟩ | ⟨b, rfl, hI⟩
  · exact Im.getNil_any _ w
  · have h := Im.getOf_any b V (k : Int) w hI
    have ha : Im.addrB (k : Int) = true := by unfold Im.addrB; rw [decide_eq_true (show (0 : Int) ≤ (k : Int) by omega), decide_eq_true (show (k : Int) < 65536 by omega)]; rfl
    have e1 : Im.getV V (k : Int) = Im.byteW V k := by unfold Im.getV; rw [if_pos ha]; rfl
    have e2 : Im.getOk V (k : Int) = Im.hasW V k := by unfold Im.getOk; rw [ha]; rfl
    rw [e1, e2] at h
    exact h
set_option maxRecDepth 100000 in
set_option maxHeartbeats 4000000 in
theorem hdiff_any (m n : Value) (V W : List Im.Cel) (w : World) (hm : ImgM w m V) (hn : ImgM w n W) :
    Calls Tryd.prog 25 #[m, n] w (RetI w (natI (scanD V W 65536))) := by
  have HM := Lib.hid hm
  have HN := Lib.hid hn
  clear hm hn
  go_enter Tryd.func25, Tryd.ntmps25
  go_wp2
  go_loopw [5, 11] (fun lv iv wr => ∃ k : Nat, k ≤ 65536 ∧ iv = .int .i64 k ∧ Hid (OwnI w wr lv (natI (scanD V W k)))) (fun _ iv _ => 65536 - (intOf iv).toNat)
  case atStart => exact ⟨0, Nat.zero_le _, rfl, ownI_start w⟩
  case round =>
    obtain ⟨k, hk, rfl, O⟩ := hrel
    by_cases hlt : k < 65536
    · have h1 := getM_any m V k hlt wr (HM.out.below O.out.2)
      have h2 := getM_any n W k hlt wr (HN.out.below O.out.2)
      have hs := Lib.hid (scanD_succ V W k)
      have hl : (natI (scanD V W k)).length ≤ 65536 := by rw [natI_length]; exact Nat.le_trans (scan_le V W k) hk
      have hdf : difB V W k = ((Im.hasW V k != Im.hasW W k) || (Im.byteW V k != Im.byteW W k)) := rfl
      have hby := Im.beq_byte (Im.byteW V k) (Im.byteW W k)
      obtain ⟨p, hp⟩ : ∃ p, Im.hasW V k = p := ⟨_, rfl⟩
      obtain ⟨q, hq⟩ : ∃ q, Im.hasW W k = q := ⟨_, rfl⟩
      obtain ⟨x, hx⟩ : ∃ x, Im.byteW V k = x := ⟨_, rfl⟩
      obtain ⟨y, hy⟩ : ∃ y, Im.byteW W k = y := ⟨_, rfl⟩
      rw [hp, hx] at h1
      rw [hq, hy] at h2
      rw [hp, hq, hx, hy] at hdf
      rw [hx, hy] at hby
      clear hp hq hx hy
      have hlt' : (k : Int) < 65536 := by omega
      have hkb : (k : Int) ≤ 4294967296 := by omega
      have HK := Lib.hid hlt
      have HLL := Lib.hid hl
      clear hlt hk hl
      by_cases hd : difB V W k = true
      · have S1 : Hid (natI (scanD V W (k + 1)) = natI (scanD V W k) ++ [(k : Int)]) := by show _ = _; rw [hs.out, if_pos hd, natI_snoc]
        have hcond : p = !q ∨ (p = q ∧ ((x.toNat : Int) == (y.toNat : Int)) = false) := by
          rw [hd] at hdf
          by_cases e : p = q
          · right
            subst e
            refine ⟨rfl, ?_⟩
            rw [hby]
            exact decide_eq_false fun h => by rw [h] at hdf; simp at hdf
          · left
            revert e
            cases p <;> cases q <;> decide
        clear hd hdf hby hs
        rcases hcond with rfl | ⟨rfl, hb⟩
        · cases q
          all_goals
            go_wp2_with fail
            refine h1.mono ?_
            rintro e w' ⟨rfl, rfl⟩
            go_wp2_with fail
            refine h2.mono ?_
            rintro e w' ⟨rfl, rfl⟩
            clear h1 h2 hlt'
            go_wp2_with (at_builtin; refine wpList_appI O.out rfl _ _ rfl rfl rfl (k : Int) (Nat.lt_of_le_of_lt HLL.out (by decide)) ?_; intro v' w1 hown')
            have N := Lib.hid hown'
            clear hown'
            go_wp2
            go_roundw
            case rel => exact ⟨k + 1, HK.out, by go_num, by rw [S1.out]; exact N.out⟩
            case measure => have := HK.out; simp [intOf]; omega
        · have hb2 : ((x.toNat : Int) != (y.toNat : Int)) = true := by unfold bne; rw [hb]; rfl
          cases p
          all_goals
            go_wp2_with fail
            refine h1.mono ?_
            rintro e w' ⟨rfl, rfl⟩
            go_wp2_with fail
            refine h2.mono ?_
            rintro e w' ⟨rfl, rfl⟩
            clear h1 h2 hlt'
            go_wp2_with (at_builtin; refine wpList_appI O.out rfl _ _ rfl rfl rfl (k : Int) (Nat.lt_of_le_of_lt HLL.out (by decide)) ?_; intro v' w1 hown')
            have N := Lib.hid hown'
            clear hown'
            go_wp2
            go_roundw
            case rel => exact ⟨k + 1, HK.out, by go_num, by rw [S1.out]; exact N.out⟩
            case measure => have := HK.out; simp [intOf]; omega
      · have S1 : Hid (natI (scanD V W (k + 1)) = natI (scanD V W k)) := by show _ = _; rw [hs.out, if_neg hd]
        have hc : p = q ∧ ((x.toNat : Int) == (y.toNat : Int)) = true := by
          have hd' : difB V W k = false := by cases e : difB V W k <;> simp_all
          rw [hd'] at hdf
          have h := (Bool.or_eq_false_iff.1 hdf.symm)
          refine ⟨by simpa using h.1, ?_⟩
          rw [hby]
          exact decide_eq_true (by simpa using h.2)
        obtain ⟨rfl, hb⟩ := hc
        have hb2 : ((x.toNat : Int) != (y.toNat : Int)) = false := by unfold bne; rw [hb]; rfl
        clear hd hdf hby hs
        cases p
        all_goals
          go_wp2_with fail
          refine h1.mono ?_
          rintro e w' ⟨rfl, rfl⟩
          go_wp2_with fail
          refine h2.mono ?_
          rintro e w' ⟨rfl, rfl⟩
          clear h1 h2 hlt'
          go_wp2
          go_roundw
          case rel => exact ⟨k + 1, HK.out, by go_num, by rw [S1.out]; exact O.out⟩
          case measure => have := HK.out; simp [intOf]; omega
    · have hlt' : decide ((k : Int) < 65536) = false := decide_eq_false (by omega)
      have F : Hid (OwnI w wr u5 (natI (scanD V W 65536))) := by
        have h := O.out
        rwa [show k = 65536 by omega] at h
      go_wp2
      go_ret
      exact F.out.ret
end Go.Proofs.YtmeegpdjhcilkaaDoor
