/-
  The walks over the reference's trim, blank and add.
-/
import Derived.Test.YtmeegpdjhcilkaaDoorRdA
import Derived.Test.YtmeegpdjhcilkaaDoorRdM
namespace Go.Proofs.YtmeegpdjhcilkaaDoor
open Go.RowKit
set_option linter.unusedVariables false

set_option maxHeartbeats 2000000 in
theorem rtrim5_any (x : List UInt8) (hx : x.length ≤ 40000000) (w : World) :
    Calls Tryd.prog 89 #[.string (strOf x)] w fun e w' => e = .returned (.string (strOf (trimC x))) ∧ w = w' := by
  obtain ⟨h1, h2, h3⟩ := suf13 x
  have hsz := strOf_size x
  rcases List.eq_nil_or_concat x with rfl | ⟨y, c, rfl⟩
  · have e : strOf ([] : List UInt8) = ⟨#[]⟩ := rfl
    have e2 : strOf (trimC []) = ⟨#[]⟩ := rfl
    rw [e, e2]
    have h0 : (⟨#[]⟩ : ByteArray).size = 0 := rfl
    clear h1 h2 h3 hsz hx
    go_enter Tryd.func89, Tryd.ntmps89
    go_wp2
    go_ret
    exact ⟨rfl, rfl⟩
  · have hl : (y.concat c).getLast? = some c := by simp
    have hlen : (y.concat c).length = y.length + 1 := by simp
    obtain ⟨s, hs, hsz2, hat⟩ : ∃ s, strOf (y.concat c) = s ∧ s.size = y.length + 1 ∧ ∀ h : s.size - 1 < s.size, s[s.size - 1] = c := ⟨_, rfl, by rw [hsz, hlen], fun h => by
      have h1 : (strOf (y.concat c)).data[(strOf (y.concat c)).size - 1]'h = c := by
        simp only [hsz, hlen]
        simp [strOf]
      exact h1⟩
    obtain ⟨r, hr⟩ : ∃ r, strOf (trimC (y.concat c)) = r := ⟨_, rfl⟩
    rw [hl] at h1
    rw [hs] at h1 h2 h3 ⊢
    rw [hr] at h2 h3 ⊢
    have hpos : 0 < s.size := by omega
    have hsb : s.size ≤ 40000001 := by omega
    have hidx : s.size - 1 < s.size := Nat.sub_lt hpos Nat.one_pos
    have hc := hat hidx
    by_cases h13 : c = 13
    · have E := Lib.hid (h2 (by rw [h1, h13]; exact decide_eq_true rfl))
      have hv : (((s[s.size - 1]'hidx).toNat : Int) == 13) = true := by rw [hc, h13]; rfl
      clear h1 h2 h3 hat hs hr hl hlen hx hsz hc h13 hsz2
      go_enter Tryd.func89, Tryd.ntmps89
      go_wp2
      go_ret
      exact ⟨ret_str E.out, rfl⟩
    · have E := Lib.hid (h3 (by rw [h1]; exact decide_eq_false fun h => h13 (Option.some.inj h)))
      have hv : (((s[s.size - 1]'hidx).toNat : Int) == 13) = false := beq_eq_false_iff_ne.2 fun h => h13 (UInt8.toNat_inj.1 (by rw [hc] at h; have : ((13 : UInt8).toNat : Int) = 13 := rfl; omega))
      clear h1 h2 h3 hat hs hr hl hlen hx hsz hc h13 hsz2
      go_enter Tryd.func89, Tryd.ntmps89
      go_wp2
      go_ret
      exact ⟨ret_str E.out, rfl⟩
theorem blankL_take (y : List UInt8) (k : Nat) (h : k < y.length) : blankL (y.take (k + 1)) = (blankL (y.take k) && (y[k] == 32 || y[k] == 9)) := by
  unfold blankL
  rw [List.take_succ_eq_append_getElem h, List.all_append]
  simp
theorem blankL_no (y : List UInt8) (k : Nat) (h : k < y.length) (hn : (y[k] == 32 || y[k] == 9) = false) : blankL y = false := by
  unfold blankL
  rw [List.all_eq_false]
  exact ⟨y[k], List.getElem_mem h, by rw [hn]; decide⟩
set_option maxHeartbeats 2000000 in
theorem rblank5_any (y : List UInt8) (hy : y.length ≤ 40000000) (w : World) :
    Calls Tryd.prog 90 #[.string (strOf y)] w fun e w' => e = .returned (.bool (blankL y)) ∧ w = w' := by
  obtain ⟨s, hs, hsz, hat⟩ : ∃ s, strOf y = s ∧ s.size = y.length ∧ ∀ i (h : i < y.length) (h' : i < s.size), s[i] = y[i] := ⟨_, rfl, strOf_size y, fun i h h' => by
    have h1 : (strOf y).data[i]'h' = y[i] := by simp only [strOf, List.getElem_toArray]; rfl
    exact h1⟩
  have HAT := Lib.hid hat
  have SZ := Lib.hid hsz
  have hsb : s.size ≤ 40000000 := by omega
  rw [hs]
  clear hs hat hsz hy
  go_enter Tryd.func90, Tryd.ntmps90
  go_wp2
  go_loop [3] (fun v => ∃ k : Nat, k ≤ s.size ∧ v = .int .i64 k ∧ Hid (blankL (y.take k) = true)) (fun v => s.size - (intOf v).toNat)
  case atStart => exact ⟨0, Nat.zero_le _, rfl, rfl⟩
  case round =>
    obtain ⟨k, hk, rfl, B⟩ := hrel
    by_cases hlt : k < s.size
    · have hky : k < y.length := by rw [← SZ.out]; exact hlt
      have hc := HAT.out k hky hlt
      have hb1 := blankL_take y k hky
      have hb2 := blankL_no y k hky
      rw [B.out, Bool.true_and, ← hc] at hb1
      rw [← hc] at hb2
      have v32 : ((s[k].toNat : Int) == 32) = (s[k] == 32) := by
        by_cases h : s[k] = 32
        · rw [h]; rfl
        · rw [beq_eq_false_iff_ne.2 h]; exact beq_eq_false_iff_ne.2 fun g => h (UInt8.toNat_inj.1 (by have : ((32 : UInt8).toNat : Int) = 32 := rfl; omega))
      have v9 : ((s[k].toNat : Int) == 9) = (s[k] == 9) := by
        by_cases h : s[k] = 9
        · rw [h]; rfl
        · rw [beq_eq_false_iff_ne.2 h]; exact beq_eq_false_iff_ne.2 fun g => h (UInt8.toNat_inj.1 (by have : ((9 : UInt8).toNat : Int) = 9 := rfl; omega))
      cases e1 : (s[k] == 32)
      case true =>
        rw [e1] at v32 hb1
        have w32 : ((s[k].toNat : Int) != 32) = false := by unfold bne; rw [v32]; rfl
        have N := Lib.hid hb1
        clear hc hb1 hb2 v9 e1 hky
        go_wp2
        go_round
        case rel => exact ⟨k + 1, by omega, by go_num, N.out⟩
        case measure => simp [intOf]; omega
      case false =>
        cases e2 : (s[k] == 9)
        case true =>
          rw [e1] at v32 
          rw [e2] at v9
          rw [e1, e2] at hb1
          have w32 : ((s[k].toNat : Int) != 32) = true := by unfold bne; rw [v32]; rfl
          have w9 : ((s[k].toNat : Int) != 9) = false := by unfold bne; rw [v9]; rfl
          have N := Lib.hid hb1
          clear hc hb1 hb2 e1 e2 hky
          go_wp2
          go_round
          case rel => exact ⟨k + 1, by omega, by go_num, N.out⟩
          case measure => simp [intOf]; omega
        case false =>
          rw [e1] at v32 
          rw [e2] at v9
          rw [e1, e2] at hb2
          have w32 : ((s[k].toNat : Int) != 32) = true := by unfold bne; rw [v32]; rfl
          have w9 : ((s[k].toNat : Int) != 9) = true := by unfold bne; rw [v9]; rfl
          have N := Lib.hid (hb2 rfl)
          clear hc hb1 hb2 e1 e2 hky
          go_wp2
          go_ret
          exact ⟨ret_bool N.out.symm, rfl⟩
    · have E : Hid (blankL y = true) := by
        have h := B.out
        rw [List.take_of_length_le (by rw [← SZ.out]; omega)] at h
        exact h
      have hlt' : decide ((k : Int) < (s.size : Int)) = false := decide_eq_false (by omega)
      go_wp2
      go_ret
      exact ⟨ret_bool E.out.symm, rfl⟩
/-- What add makes. -/
def addV (V : List Im.Cel) (T a : Int) (D : List UInt8) : List Im.Cel := if T = 0 then Im.putW V a D else V
def addC (V : List Im.Cel) (T a : Int) (D : List UInt8) : Int := if T = 0 then Im.codeW V a D else if T = 1 then (if D = [] then 0 else 6) else 7
set_option maxHeartbeats 2000000 in
theorem radd5_any (P : Nat → Prop) (A : Option Addr) (cap : Nat) (V : List Im.Cel) (hs : Im.SortedW V) (hcap : V.length ≤ cap) (T a : Int) (B : Option Addr) (bcap : Nat) (D : List UInt8) (hl : D.length ≤ maxLen) (w : World) (hP : ∀ i, w.heap.size ≤ i → P i)
    (hC : Im.CellsP P w A V) (hB : BytesP (fun i => i < w.heap.size) w B D) :
    Calls Tryd.prog 92 #[.slice A V.length cap, .agg #[.int .i64 T, .int .i64 a, .slice B D.length bcap]] w (Im.RetCells P w (addV V T a D) (addC V T a D)) := by
  obtain ⟨w1, hw1⟩ : ∃ w1, w.alloc (.cells #[.int .i64 T, .int .i64 a, .slice B D.length bcap] 142) = w1 := ⟨_, rfl⟩
  have hal : Below w.heap.size w w1 := by rw [← hw1]; exact (Below.refl _ _).alloc (Nat.le_refl _) _
  have T1 : Tri w.heap.size w1 (.int .i64 T) (.int .i64 a) (.slice B D.length bcap) := by rw [← hw1]; exact Tri.new w _ rfl _ _ _ 142
  have c0 := T1.2.1
  have c1 := T1.2.2.1
  have c2 := T1.2.2.2.1
  have hC1 := hC.below hal
  by_cases h0 : T = 0
  · subst h0
    have hput := Im.rput_any P A cap V hs a (fun i => i < w.heap.size) B bcap D hl w1 (fun i hi => hP i (Nat.le_trans hal.size hi)) hcap hC1 (hB.below hal)
    have E1 : Hid (addV V 0 a D = Im.putW V a D ∧ addC V 0 a D = Im.codeW V a D) := ⟨rfl, rfl⟩
    have HAL := Lib.hid hal
    clear hal T1 hC hB hs hC1
    go_enter Tryd.func92, Tryd.ntmps92
    go_wp2_with fail
    refine hput.mono ?_
    rintro e w2 ⟨A2, cap2, rfl, k1, k2, k3⟩
    have F : Hid (Im.RetCells P w (addV V 0 a D) (addC V 0 a D) (.returned (.tuple #[.slice A2 (Im.putW V a D).length cap2, .int .i64 (Im.codeW V a D)])) w2) := ⟨A2, cap2, rfl, k1, k2, HAL.out.trans (k3.mono HAL.out.size)⟩
    clear k1 k2 k3 hput
    go_wp2
    go_ret2
    exact F.out
  · have n0 : (T == 0) = false := beq_eq_false_iff_ne.2 h0
    have HAL := Lib.hid (And.intro hal hC1)
    by_cases h1 : T = 1
    · subst h1
      cases D with
      | nil =>
        have F : Hid (Im.RetCells P w (addV V 1 a []) (addC V 1 a []) (.returned (.tuple #[.slice A V.length cap, .int .i64 0])) w1) := ⟨A, cap, rfl, hcap, HAL.out.2, HAL.out.1⟩
        simp only [List.length_nil] at c2 hw1 ⊢
        clear hal T1 hC hB hs hC1 n0 h0
        go_enter Tryd.func92, Tryd.ntmps92
        go_wp2
        go_ret2
        exact F.out
      | cons d D =>
        have hpos : (0 : Int) < ((d :: D).length : Int) := by simp
        have F : Hid (Im.RetCells P w (addV V 1 a (d :: D)) (addC V 1 a (d :: D)) (.returned (.tuple #[.slice A V.length cap, .int .i64 6])) w1) := ⟨A, cap, rfl, hcap, HAL.out.2, HAL.out.1⟩
        obtain ⟨m, hm⟩ : ∃ m, (d :: D).length = m := ⟨_, rfl⟩
        rw [hm] at hpos c2 hw1 ⊢
        clear hal T1 hC hB hs hC1 n0 h0 hm
        go_enter Tryd.func92, Tryd.ntmps92
        go_wp2
        go_ret2
        exact F.out
    · have n1 : (T == 1) = false := beq_eq_false_iff_ne.2 h1
      have F : Hid (Im.RetCells P w (addV V T a D) (addC V T a D) (.returned (.tuple #[.slice A V.length cap, .int .i64 7])) w1) := by
        show Im.RetCells _ _ _ _ _ _
        unfold addV addC
        rw [if_neg h0, if_neg h0, if_neg h1]
        exact ⟨A, cap, rfl, hcap, HAL.out.2, HAL.out.1⟩
      clear hal T1 hC hB hs hC1 h0 h1
      go_enter Tryd.func92, Tryd.ntmps92
      go_wp2
      go_ret2
      exact F.out
end Go.Proofs.YtmeegpdjhcilkaaDoor
