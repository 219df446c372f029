/-
  DgK, DgM.
-/
import Derived.Test.YtclhaejdjogfbaaGreatGAU
import Derived.Test.YtclhaejdjogfbaaGreatGAT
import Derived.Test.YtclhaejdjogfbaaGreatGAQ
import Derived.Test.YtclhaejdjogfbaaGreatMSeN
set_option linter.all false
set_option maxRecDepth 100000
set_option maxHeartbeats 4000000
namespace Go.Proofs.YtclhaejdjogfbaaGreat
open Go.RowKit Go.Shelf
attribute [local go_sem] Oper.semAt_some
theorem rneed12_any (b : Str) (hb : b ≠ []) (A : Option Addr) (cap l : Nat) (hl : b.length = l) (hc : l ≤ cap) (hcm : cap ≤ maxLen) (hl2 : l ≤ 10000) (w : World) (H : BytesAt w A b) :
    Calls Tryz.prog 13 #[.slice A l cap] w fun e w' => e = .returned (.int .i64 (needR b : Nat)) ∧ Below w.heap.size w w' := by
  have hl1 : 1 ≤ l := by rw [← hl]; cases b; exact absurd rfl hb; simp
  have FI := rfirst12_any b hb A cap l hl hc hcm hl2 w H
  have PG := Lib.hid (fun w' (h : Below w.heap.size w w') => rpage12_any b hb A cap l hl w' (H.below h))
  have RN := Lib.hid (@raw_need b hb)
  have HL := Lib.hid hl
  have HH := Lib.hid H
  obtain ⟨nn, hnn⟩ : ∃ z, needR b = z := ⟨_, rfl⟩
  have HNN := Lib.hid hnn
  rw [hnn]
  obtain ⟨x, hx⟩ : ∃ z, itR b = z := ⟨_, rfl⟩
  have HX := Lib.hid hx
  rw [hx] at FI
  have N1 := @need_none b hb
  have K1 : Hid (∀ (p : Int) (o : UInt8) (t : Str), hdB b = some (p, o, t) → (itR b).kind = 4 → ∃ x, ratT p o.toNat = some x ∧ sizeT p x.2.2.1 = needR b) := fun p o t h => kind_trunc h
  have P1 := @pg_some b
  obtain ⟨⟨p, at_⟩, hpa⟩ : ∃ q, pgA b = q := ⟨_, rfl⟩
  rw [hpa] at PG N1 P1
  simp only at PG N1 P1
  rw [hl, hnn] at N1
  have N1 := Lib.hid N1
  have P1 := Lib.hid P1
  have hat3 : at_ ≤ 3 := by have := (pg_rng b).2.1; rw [hpa] at this; exact this
  have t0 : ((l : Int) == 0) = false := beq_eq_false_iff_ne.2 (by omega)
  clear H hx hnn hl hpa hc hcm hl2
  go_enter Tryz.func13, Tryz.ntmps13
  go_wp2_with fail
  refine FI.mono ?_
  rintro e w1 ⟨A', c', B, c2, rfl, -, -, hbl⟩
  obtain ⟨y, w2, hy, hw2, S2, y2, z2⟩ := Fr.box (Fr.nil w1) #[.int .i64 x.kind, .slice A' x.raw.length c', .string (sB x.m), .slice B x.C.length c2, .bool x.al] 31
  have I2 : ItAt w2 y x.kind (.slice A' x.raw.length c') (sB x.m) (.slice B x.C.length c2) x.al := S2.out.1
  have B2 := Lib.hid (hbl.trans (y2.mono hbl.size))
  obtain ⟨j0, j1, j2, j3, j4, j5⟩ := I2.cells
  obtain ⟨kd, hkd⟩ : ∃ z, x.kind = z := ⟨_, rfl⟩
  obtain ⟨rl, hrl⟩ : ∃ z, x.raw.length = z := ⟨_, rfl⟩
  rw [hkd] at j0
  rw [hrl] at j1
  have HKD : Hid ((itR b).kind = kd) := by show _ = _; rw [HX.out]; exact hkd
  have HRL : Hid ((itR b).raw.length = rl) := by show _ = _; rw [HX.out]; exact hrl
  clear FI S2 y2 I2 hbl hkd hrl
  by_cases h4 : kd = 4
  case' neg =>
    have t4 : (kd != 4) = true := bne_iff_ne.2 h4
    obtain rfl : rl = nn := by rw [← HRL.out, ← HNN.out]; exact RN.out (by rw [HKD.out]; exact h4)
    clear h4 PG RN N1 K1 P1
    go_wp2
    go_ret
    exact ⟨rfl, B2.out⟩
  subst h4
  have t4 : ((4 : Int) != 4) = false := rfl
  have PG2 := PG.out w2 B2.out
  clear PG j1 j2 j3 j4 RN HRL
  go_wp2_with fail
  refine PG2.mono ?_
  rintro e w3 ⟨rfl, hw⟩
  rw [hw]
  clear hw PG2
  by_cases hle : l ≤ at_
  · obtain rfl : nn = at_ + 1 := (N1.out hle).symm
    have t5 : (at_ : Int) ≥ (l : Int) := by omega
    clear N1 K1 P1 j0 j5
    go_wp2
    go_ret
    exact ⟨rfl, B2.out⟩
  · have hab : at_ < b.length := by rw [HL.out]; omega
    have hhd := P1.out hab
    obtain ⟨g, off, rfl, kb⟩ := (HH.out.below B2.out).cellAt hab
    obtain ⟨o, ho⟩ : ∃ z, b[at_] = z := ⟨_, rfl⟩
    rw [ho] at hhd kb
    obtain ⟨e2, he2, hsz⟩ := K1.out _ _ _ hhd HKD.out
    have RA := rat_any p o.toNat o.toNat_lt w2
    unfold RetRAt at RA
    rw [he2] at RA
    simp only at RA
    have hx := exP_of o.toNat_lt he2
    have hz := sz_same hx
    obtain ⟨m, L, ex, al⟩ := e2
    simp only at RA hsz hx hz
    have SZ := Lib.hid (fun A n cap w' => rsize_any p (o.toNat : Int) m A n cap ex (by have := ex_len hx; omega) al w')
    rw [hz, hsz, HNN.out] at SZ
    unfold enV at RA SZ
    have t5 : ¬ ((at_ : Int) ≥ (l : Int)) := by omega
    clear N1 K1 P1 HH hhd ho he2 hsz hx hz j0 j5
    go_wp2_with fail
    refine RA.mono ?_
    rintro e w4 ⟨⟨v, rfl, hO⟩, hb4⟩
    obtain ⟨Av, cv, rfl, -, -⟩ := hO.ops
    obtain ⟨y3, w5, hy3, hw5, S5, y5, z5⟩ := Fr.box (Fr.nil w4) #[.int .i64 p, .int .u8 (o.toNat : Int), .string (sB m), .slice Av L.length cv, .string (sB ex), .bool al] 54
    obtain ⟨q0, q1, q2, q3, q4, q5⟩ := Fr.cells6 S5.out.1
    have B5 : Hid (Below w.heap.size w w5) := B2.out.trans ((hb4.trans (y5.mono hb4.size)).mono B2.out.size)
    have SZ5 := SZ.out Av L.length cv w5
    clear RA hO hb4 S5 y5 SZ B2 kb
    go_wp2_with fail
    refine SZ5.mono ?_
    rintro e w6 ⟨rfl, hb⟩
    have B6 : Hid (Below w.heap.size w w6) := B5.out.trans (hb.mono B5.out.size)
    clear SZ5 hb B5 q0 q1 q2 q3 q4 q5
    go_wp2
    go_ret
    exact ⟨rfl, B6.out⟩
theorem it_ex1 : (itR [221, 0]).kind = 2 ∧ (itR [221, 0]).raw.length = 1 := by decide +kernel
theorem it_ex2 : (itR [221, 203, 5]).kind = 4 ∧ (itR [221, 203, 5]).raw.length = 3 := by decide +kernel
theorem need_ex : needR [221, 203, 5] = 4 := by decide +kernel
theorem bytes_new3 (w : World) : BytesAt (w.alloc (.cells #[.int .u8 221, .int .u8 203, .int .u8 5] 5)) (some ⟨w.heap.size, 0, none⟩) [221, 203, 5] := by
  have h := own_lit w [221, 203, 5] (by decide)
  obtain ⟨A', c', e, hP⟩ := h.bytes
  simp only [Value.slice.injEq] at e
  obtain ⟨rfl, -, -⟩ := e
  exact hP
theorem alive12_any (w : World) (hM : MaxAt w) : Calls Tryz.prog 7 #[] w fun e w' => e = .returned (.bool true) ∧ Below w.heap.size w w' := by
  obtain ⟨E1k, E1r⟩ := it_ex1
  obtain ⟨E2k, E2r⟩ := it_ex2
  have MX : Hid (∀ w2, Below w.heap.size w w2 → MaxAt w2) := fun w2 h => hM.below h
  obtain ⟨g1, w1, hg1, hw1, S1, y1, z1⟩ := Fr.box (Fr.nil w) #[.int .u8 221, .int .u8 0] 5
  have F1 := dfirst_any [221, 0] (some ⟨g1, 0, none⟩) 2 2 rfl (Nat.le_refl _) (by unfold maxLen; omega) (by decide) w1 (by rw [← hw1, ← hg1]; exact bytes_new2 w 221 0) (MX.out _ y1)
  rw [itP_ne (by decide)] at F1
  obtain ⟨x1, hx1⟩ : ∃ z, itR [221, 0] = z := ⟨_, rfl⟩
  rw [hx1] at F1 E1k E1r
  have B1 := Lib.hid y1
  clear hx1 y1 S1 hM
  go_enter Tryz.func7, Tryz.ntmps7
  go_wp2_with fail
  refine F1.mono ?_
  rintro e w2 ⟨A1, c1, C1, d1, rfl, -, -, hb2⟩
  rw [E1k, E1r]
  have B2 : Hid (Below w.heap.size w w2) := B1.out.trans (hb2.mono B1.out.size)
  obtain ⟨g3, w3, hg3, hw3, S3, y3, z3⟩ := Fr.box (Fr.nil w2) #[.int .u8 221, .int .u8 203, .int .u8 5] 5
  have B3 : Hid (Below w.heap.size w w3) := B2.out.trans (y3.mono B2.out.size)
  have F3 := dfirst_any [221, 203, 5] (some ⟨g3, 0, none⟩) 3 3 rfl (Nat.le_refl _) (by unfold maxLen; omega) (by decide) w3 (by rw [← hw3, ← hg3]; exact bytes_new3 w2) (MX.out _ B3.out)
  rw [itP_ne (by decide)] at F3
  obtain ⟨x3, hx3⟩ : ∃ z, itR [221, 203, 5] = z := ⟨_, rfl⟩
  rw [hx3] at F3 E2k E2r
  clear F1 hb2 B1 B2 S3 y3 hx3
  go_wp2_with fail
  refine F3.mono ?_
  rintro e w4 ⟨A3, c3, C3, d3, rfl, -, -, hb4⟩
  rw [E2k, E2r]
  have B4 : Hid (Below w.heap.size w w4) := B3.out.trans (hb4.mono B3.out.size)
  obtain ⟨g5, w5, hg5, hw5, S5, y5, z5⟩ := Fr.box (Fr.nil w4) #[.int .i64 2, .slice A1 1 c1, .string (sB x1.m), .slice C1 x1.C.length d1, .bool x1.al] 31
  obtain ⟨g6, w6, hg6, hw6, S6, y6, z6⟩ := Fr.box S5 #[.int .i64 4, .slice A3 3 c3, .string (sB x3.m), .slice C3 x3.C.length d3, .bool x3.al] 31
  obtain rfl : g6 = g5 + 1 := by omega
  have I6 : ItAt w6 (g5 + 1) 4 (.slice A3 3 c3) (sB x3.m) (.slice C3 x3.C.length d3) x3.al := S6.out.1
  have I5 : ItAt w6 g5 2 (.slice A1 1 c1) (sB x1.m) (.slice C1 x1.C.length d1) x1.al := S6.out.2.1
  obtain ⟨i0, i1, -, -, -, -⟩ := I5.cells
  obtain ⟨j0, j1, -, -, -, -⟩ := I6.cells
  have B6 : Hid (Below w.heap.size w w6) := B4.out.trans ((y5.trans (y6.mono y5.size)).mono B4.out.size)
  obtain ⟨g7, w7, hg7, hw7, S7, y7, z7⟩ := Fr.box (Fr.nil w6) #[.int .u8 221, .int .u8 203, .int .u8 5] 5
  obtain rfl : g7 = g5 + 1 + 1 := by omega
  have B7 : Hid (Below w.heap.size w w7) := B6.out.trans (y7.mono B6.out.size)
  have F7 := dneed_any [221, 203, 5] (some ⟨g5 + 1 + 1, 0, none⟩) 3 3 rfl (Nat.le_refl _) (by unfold maxLen; omega) (by decide) w7 (by rw [← hw7, ← hg7]; exact bytes_new3 w6) (MX.out _ B7.out)
  rw [need_ex] at F7
  clear F3 hb4 B3 B4 S5 y5 S6 y6 I5 I6 B6 S7 y7
  go_wp2_with fail
  refine F7.mono ?_
  rintro e w8 ⟨rfl, hb8⟩
  have B8 : Hid (Below w.heap.size w w8) := B7.out.trans (hb8.mono B7.out.size)
  clear F7 hb8 B7
  go_wp2
  go_ret
  exact ⟨rfl, B8.out⟩
end Go.Proofs.YtclhaejdjogfbaaGreat
namespace Go.Proofs.YtclhaejdjogfbaaGreat
open Go.RowKit Go.Shelf
theorem TOwnB.bytesP {w : World} {n m c : Nat} {A : Option Addr} {xs : Str} (h : TOwnB w n (.slice A m c) xs) : BytesAt w A xs := by
  obtain ⟨A', c', e, hP⟩ := h.bytes
  simp only [Value.slice.injEq] at e
  obtain ⟨rfl, -, -⟩ := e
  exact hP
theorem itC_le (b : Str) : (itR b).C.length ≤ 3 := by
  cases h : hdB b with
  | none => unfold itR; rw [h]; exact Nat.zero_le _
  | some q =>
    obtain ⟨p, o, t⟩ := q
    rw [it_of h]
    cases hx : ratT p o.toNat with
    | none => simp only; split <;> exact Nat.zero_le _
    | some x =>
      simp only
      split
      · exact Nat.zero_le _
      · cases hf : fillV x.2.2.1 x.2.1 (numB x.2.2.1 t).1 (numB x.2.2.1 t).2 with
        | none => exact Nat.zero_le _
        | some C =>
          have h1 := congrArg List.length (fill_shape hf).1
          rw [List.length_map, List.length_map] at h1
          have h2 := (InTab.ok (k := (p, (o.toNat : Int), x.1, x.2.1, x.2.2.1, x.2.2.2)) ⟨o.toNat, o.toNat_lt, rfl, hx⟩).len
          simp only at h2
          show C.length ≤ 3
          omega
end Go.Proofs.YtclhaejdjogfbaaGreat
