/-
  ItemsDecode: the walk over the law.
-/
import Derived.Test.YtmnleknehjkmgaaGreatGBF
import Derived.Test.YtmnleknehjkmgaaGreatGAR
set_option linter.all false
set_option maxRecDepth 100000
set_option maxHeartbeats 4000000
namespace Go.Proofs.YtmnleknehjkmgaaGreat
open Go.RowKit Go.Shelf
attribute [local go_sem] Oper.semAt_some
theorem walkID (A : Option Addr) (cap : Nat) (b : Str) (w : World) (H : BytesAt w A b) (hc : b.length ≤ cap ∧ cap ≤ maxLen) (hM : MaxAt w) :
    Calls Tryz.prog 3 #[.slice A b.length cap] w fun e w' => e = .returned (.bool true) ∧ Below w.heap.size w w' := by
  obtain ⟨l, hl⟩ : ∃ z, b.length = z := ⟨_, rfl⟩
  rw [hl] at hc ⊢
  have AL := Lib.hid (fun w' (h : Below w.heap.size w w') => alive13_any w' (hM.below h))
  by_cases hbig : 1000 < l
  · have t1 : ((l : Int) > 1000) := by omega
    have A0 := AL.out w (Below.refl _ _)
    clear H hM hl hc AL
    go_enter Tryz.func3, Tryz.ntmps3
    go_wp2_with fail
    refine A0.mono ?_
    rintro e w1 ⟨rfl, hb⟩
    have B1 := Lib.hid hb
    clear A0 hb
    go_wp2
    go_ret
    exact ⟨rfl, B1.out⟩
  have t1 : ¬ ((l : Int) > 1000) := by omega
  have DE := decode13_any b A cap l hl hc.1 hc.2 (by omega) w H hM
  have RD := Lib.hid (fun w' (h : Below w.heap.size w w') => rdecode13_any b A cap l hl hc.1 hc.2 (by omega) w' (H.below h))
  have HB := Lib.hid (fun w' (h : Below w.heap.size w w') => And.intro (H.below h) (hM.below h))
  have HL : Hid (b.length = l ∧ l ≤ 1000) := ⟨hl, by omega⟩
  clear H hM hl hc hbig
  go_enter Tryz.func3, Tryz.ntmps3
  go_wp2_with fail
  refine DE.mono ?_
  rintro e w1 ⟨A1, c1, R1, rfl, hR1, hO1, hb⟩
  have B1 := Lib.hid hb
  have R0 := RD.out w1 B1.out
  have HR1 := Lib.hid hR1
  have I1 := Lib.hid (fun w' (h : Below w1.heap.size w1 w') => hO1.itsP.below h)
  obtain ⟨m, hm⟩ : ∃ z, R1.length = z := ⟨_, rfl⟩
  have HM := Lib.hid hm
  have hm3 : m ≤ 1000 := by
    have h1 := congrArg List.length hR1
    have h2 := items_le b
    have h3 := HL.out
    rw [List.length_map] at h1
    omega
  rw [hm]
  clear DE RD hR1 hO1 hb hm
  go_wp2_with fail
  refine R0.mono ?_
  rintro e w2 ⟨A2, c2, R2, rfl, hR2, hO2, hb⟩
  have B12 : Hid (Below w1.heap.size w1 w2) := hb
  have B2 : Hid (Below w.heap.size w w2) := B1.out.trans (hb.mono B1.out.size)
  have SM := rsame13_any R1 R2 A1 A2 c1 c2 m R2.length HM.out rfl (by omega) (rows_C HR1.out) (rows_C hR2) w2 (I1.out w2 hb) hO2.itsP
  rw [HR1.out, hR2, decide_eq_true rfl] at SM
  obtain ⟨l2, hl2⟩ : ∃ z, R2.length = z := ⟨_, rfl⟩
  rw [hl2] at SM ⊢
  clear R0 hR2 hO2 hb hl2
  go_wp2_with fail
  refine SM.mono ?_
  rintro e w3 ⟨rfl, hb⟩
  have B13 : Hid (Below w1.heap.size w1 w3) := B12.out.trans (hb.mono B12.out.size)
  have B3 : Hid (Below w.heap.size w w3) := B2.out.trans (hb.mono B2.out.size)
  have hrb : rawI (R1.map Xe.x) = b := by rw [HR1.out]; exact rawI_items b
  have RW := raw_any R1 A1 c1 m HM.out (by omega) (by rw [hrb]; have := HL.out; omega) w3 (I1.out w3 B13.out)
  rw [hrb] at RW
  have CK := Lib.hid (fun w' (h : Below w1.heap.size w1 w') => check13_any R1 A1 c1 m HM.out (by omega) (by rw [hrb]; have := HL.out; omega) (rows_C HR1.out) w' (I1.out w' h) (HB.out w' (B1.out.trans (h.mono B1.out.size))).2)
  rw [hrb, HR1.out, decide_eq_true rfl] at CK
  clear SM hb B12 B2 hrb
  go_wp2_with fail
  refine RW.mono ?_
  rintro e w4 ⟨A4, c4, rfl, hO4, hb⟩
  have B14 : Hid (Below w1.heap.size w1 w4) := B13.out.trans (hb.mono B13.out.size)
  have B4 : Hid (Below w.heap.size w w4) := B3.out.trans (hb.mono B3.out.size)
  have EQ := equalU_any A4 A c4 cap b b (by have := HL.out; unfold maxLen; omega) (by have := HL.out; unfold maxLen; omega) w4 (townB_at hO4) (HB.out w4 B4.out).1
  rw [decide_eq_true rfl] at EQ
  have HLL := HL.out.1
  rw [HLL] at EQ ⊢
  clear RW hO4 hb B13 B3 HLL
  go_wp2_with fail
  refine EQ.mono ?_
  rintro e w5 ⟨rfl, hb⟩
  have B15 : Hid (Below w1.heap.size w1 w5) := B14.out.trans (hb.mono B14.out.size)
  have C5 := CK.out w5 B15.out
  clear EQ hb B14 B4 CK
  go_wp2_with fail
  refine C5.mono ?_
  rintro e w6 ⟨rfl, hb⟩
  have B16 : Hid (Below w1.heap.size w1 w6) := B15.out.trans (hb.mono B15.out.size)
  have HX : Hid (∀ j, j < m → ∃ r : Xe, (∀ w', Below w6.heap.size w6 w' → ItJ w' A1 r j) ∧ (r.x.kind = 4 → j + 1 = m)) := fun j hj => by
    have hj' : j < R1.length := by rw [HM.out]; exact hj
    refine ⟨R1[j], fun w' h => (I1.out w' (B16.out.trans (h.mono B16.out.size))).j hj', fun h4 => ?_⟩
    have e : (R1.map Xe.x)[j]'(by rw [List.length_map]; exact hj') = R1[j].x := by simp
    have hj2 : j < (itemsR b).length := by rw [← HR1.out, List.length_map]; exact hj'
    have e2 : (itemsR b)[j] = R1[j].x := by simp [← HR1.out]
    have h5 := items_trunc b j hj2 (by rw [e2]; exact h4)
    rw [← HR1.out, List.length_map, HM.out] at h5
    exact h5
  have B6 : Hid (Below w.heap.size w w6) := B1.out.trans (B16.out.mono B1.out.size)
  clear C5 hb B15 B16 I1 HB HR1 HM B1 HL
  go_wp2
  go_loopw [31] (fun vi wr => ∃ j : Nat, j ≤ m ∧ vi = .int .i64 j ∧ Hid (Below w6.heap.size w6 wr)) (fun vi _ => m - (intOf vi).toNat)
  case atStart => exact ⟨0, Nat.zero_le _, rfl, Below.refl _ _⟩
  case round =>
    obtain ⟨j, hj, rfl, BW⟩ := hrel
    by_cases hlt : j < m
    · obtain ⟨r, h1, h2⟩ := HX.out j hlt
      obtain ⟨b1, o1, rfl, k0, k1, k2, k3, k4, -, -⟩ := h1 wr BW.out
      have E := Lib.hid h2
      obtain ⟨⟨kd, xs, ms, C, al⟩, ra, rca, rb, rcb⟩ := r
      simp only at k0 k1 k2 k3 k4 E
      obtain ⟨y, w7, hy, hw7, S2, y2, z2⟩ := Fr.box (Fr.nil wr) #[.int .i64 kd, .slice ra xs.length rca, .string (sB ms), .slice rb C.length rcb, .bool al] 34
      have I2 : ItAt w7 y kd (.slice ra xs.length rca) (sB ms) (.slice rb C.length rcb) al := S2.out.1
      obtain ⟨j0, j1, j2, j3, j4, j5⟩ := I2.cells
      have B7 : Hid (Below w6.heap.size w6 w7) := BW.out.trans (y2.mono BW.out.size)
      clear h1 h2 S2 y2 I2 BW
      by_cases q1 : kd = 4
      · subst q1
        have q2 := E.out rfl
        have q3 : ¬ ((j : Int) < (m : Int) - 1) := by omega
        have q4 : ((4 : Int) == 4) = true := rfl
        clear E
        go_wp2
        go_roundw
        case rel => exact ⟨j + 1, by omega, by go_num, B7.out⟩
        case measure => simp [intOf]; omega
      · have q3 : (kd == 4) = false := beq_eq_false_iff_ne.2 q1
        clear E q1
        go_wp2
        go_roundw
        case rel => exact ⟨j + 1, by omega, by go_num, B7.out⟩
        case measure => simp [intOf]; omega
    · obtain rfl : m = j := by omega
      have BX : Hid (Below w.heap.size w wr) := B6.out.trans (BW.out.mono B6.out.size)
      have A0 := AL.out wr BX.out
      clear HX B6 BW AL
      go_wp2_with fail
      refine A0.mono ?_
      rintro e w8 ⟨rfl, hb⟩
      have B8 : Hid (Below w.heap.size w w8) := BX.out.trans (hb.mono BX.out.size)
      clear A0 hb
      go_wp2
      go_ret
      exact ⟨rfl, B8.out⟩
end Go.Proofs.YtmnleknehjkmgaaGreat
