/-
  TablePage: the walk over the law.
-/
import Derived.Test.YtipgecdfnbldnaaGreatDoorMTPw
set_option linter.all false
set_option maxRecDepth 100000
set_option maxHeartbeats 4000000
namespace Go.Proofs.YtipgecdfnbldnaaGreatDoor
open Go.RowKit Go.Shelf
attribute [local go_sem] Oper.semAt_some
theorem walkTP (A : Option Addr) (cap : Nat) (xs : Str) (hx : xs.length ≤ maxLen) (w : World) (H : BytesAt w A xs) (hM : MaxAt w) :
    Calls Tryz.prog 4 #[.slice A xs.length cap] w fun e w' => e = .returned (.bool true) ∧ Below w.heap.size w w' := by
  obtain ⟨n, hn⟩ : ∃ z, xs.length = z := ⟨_, rfl⟩
  have HN := Lib.hid hn
  have HX := Lib.hid H
  have HM := Lib.hid hM
  rw [hn] at hx ⊢
  by_cases hlen : 8 < n
  · have h1 : (8 : Int) < (n : Int) := by omega
    have ha := alive_any w hM
    clear hlen hM hn H hx
    go_enter Tryz.func4, Tryz.ntmps4
    go_wp2_with fail
    refine ha.mono ?_
    rintro e w' ⟨rfl, hb⟩
    have HB := Lib.hid hb
    clear hb ha
    go_wp2
    go_ret
    exact ⟨rfl, HB.out⟩
  · have h1 : ¬ (8 : Int) < (n : Int) := by omega
    have h8 : n ≤ 8 := by omega
    obtain ⟨B, hB⟩ : ∃ z, w.heap.size = z := ⟨_, rfl⟩
    have HB := Lib.hid hB
    have I0 : Hid (St w B (pgL xs 0) none 0 none 0 [] w) := ⟨World.ownsRow_nil _ _ _ _, ownXR_nil _ _, rfl, Below.refl _ _⟩
    have ALV := Lib.hid (fun (wx : World) (h : MaxAt wx) => alive_any wx h)
    clear hlen hM hn H hx hB
    go_enter Tryz.func4, Tryz.ntmps4
    go_wp2
    go_loopw [14, 3, 4] (fun i l v wr => ∃ (k : Nat) (Al : Option Addr) (cl : Nat) (Aw : Option Addr) (cw m : Nat) (R : List Ee), k ≤ n ∧ i = .int .i64 (k : Int) ∧ l = .slice Al k cl ∧ v = .slice Aw m cw ∧ Hid (R.length = m) ∧ Hid (St w B (pgL xs k) Al cl Aw cw R wr)) (fun i _ _ _ => n - (intOf i).toNat)
    case atStart => exact ⟨0, none, 0, none, 0, 0, [], Nat.zero_le _, rfl, rfl, rfl, rfl, I0.out⟩
    case round =>
      clear I0
      obtain ⟨k, Al, cl, Aw, cw, m, R, hk, rfl, rfl, rfl, HR, ST⟩ := hrel
      by_cases hlt : k < n
      · have hk1 : k < xs.length := by rw [HN.out]; exact hlt
        have BW : Below w.heap.size w wr := by rw [HB.out]; exact ST.out.2.2.2
        have SZ : B ≤ wr.heap.size := by rw [← HB.out]; exact BW.size
        have hat := HX.out.below BW
        obtain ⟨x, hxk⟩ : ∃ z, xs[k].toNat = z := ⟨_, rfl⟩
        have hx8 : x < 256 := by rw [← hxk]; exact UInt8.toNat_lt _
        obtain ⟨b, off, rfl, hc⟩ : ∃ b off, A = some ⟨b, off, none⟩ ∧ wr.cell? ⟨b, off + k, none⟩ = some (.int .u8 (x : Int)) := by
          rcases hat with rfl | ⟨b, off, rfl, hc⟩
          · simp at hk1
          · exact ⟨b, off, rfl, by rw [hc k hk1, hxk]⟩
        have hbs : b < wr.heap.size := World.block_lt_of_cell? wr _ hc
        obtain ⟨p, hp⟩ : ∃ z : Int, ((x : Int) % 8) = z := ⟨_, rfl⟩
        have PG : pgL xs (k + 1) = pgL xs k ++ [p] := by rw [pgL_succ hk1, hxk, hp]
        have PL : (pgL xs k).length = k := pgL_len (Nat.le_of_lt hk1)
        obtain ⟨q1, hq1⟩ : ∃ z, wr.heap.size = z := ⟨_, rfl⟩
        obtain ⟨wa, hwa⟩ : ∃ z, wr.alloc (.cells #[.int .i64 p] 3) = z := ⟨_, rfl⟩
        have ba : Below wr.heap.size wr wa := by rw [← hwa]; exact up_alloc _ _
        have ca : wa.heap[q1]? = some (.cells #[.int .i64 p] 3 (0, 0)) := by rw [← hwa, ← hq1]; exact World.alloc_heap_new wr _
        have SA : B ≤ wa.heap.size := Nat.le_trans SZ ba.size
        have N1 : RowN wa B (.slice Al k cl) (pgL xs k) := by have h := ST.out.1; rw [PL] at h; exact h.below ba
        have X1 : OwnXR wa B (.slice Aw m cw) R := by have h := ST.out.2.1; rw [HR.out] at h; exact h.below ba
        obtain ⟨A2, c2, w2, k1, k2, k3, k4⟩ := run_appN wa B _ _ N1 q1 p (Lib.cell_of_heap ca 0) SA (by rw [PL]; omega)
        rw [PL, ← PG] at k2
        rw [PL] at k1
        have X2 := xr_other X1 N1 k4
        have B2 : Below B w w2 := (ST.out.2.2.2.trans (ba.mono SZ)).trans k3
        have S2 : B ≤ w2.heap.size := Nat.le_trans SA k3.size
        have K1 := Lib.hid k1
        have T2 : Hid (RowN w2 B (.slice A2 (k + 1) c2) (pgL xs (k + 1)) ∧ OwnXR w2 B (.slice Aw m cw) R ∧ Below B w w2 ∧ B ≤ w2.heap.size) := ⟨k2, X2, B2, S2⟩
        have KR : Hid (R.map Ee.k = eAll (pgL xs k)) := ST.out.2.2.1
        have hr := fun p => rents_any p w2
        have HPG := Lib.hid PG
        have HPL := Lib.hid PL
        have HLT := Lib.hid hlt
        have H8 := Lib.hid h8
        have HK := Lib.hid hk
        clear ST BW SZ hat hxk PG PL ba ca SA N1 X1 k1 k2 k3 k4 X2 B2 S2 hk1
        go_wp2_with (at_builtin; refine wpList_run_append K1.out rfl _ _ rfl rfl rfl rfl ?_)
        refine (hr p).mono ?_
        rintro e w3 ⟨A3, c3, R3, rfl, hO3, hK3, hb3⟩
        have X3 : OwnXR w3 B (.slice Aw m cw) R := T2.out.2.1.below hb3
        have N3 : RowN w3 B (.slice A2 (k + 1) c2) (pgL xs (k + 1)) := T2.out.1.below hb3
        have B3 : Below B w w3 := T2.out.2.2.1.trans (hb3.mono T2.out.2.2.2)
        have S3 : B ≤ w3.heap.size := Nat.le_trans T2.out.2.2.2 hb3.size
        have O3 : OwnXR w3 B (.slice A3 R3.length c3) R3 := hO3.lift T2.out.2.2.2
        obtain ⟨A', c', hv, hE, -⟩ := O3.es
        cases hv
        have L3 : R3.length ≤ 256 := by rw [len_keys hK3]; exact entsR_len p 256
        have LR : R.length ≤ 2560 := by
          rw [len_keys KR.out]
          have h1 := eAll_len (pgL xs k)
          rw [HPL.out] at h1
          have := HK.out; have := H8.out
          omega
        obtain ⟨v4, w4, j1, j2, j3, j4⟩ := run_appXR w3 B _ R X3 A3 c3 R3 hE O3.2 S3 (by omega)
        obtain ⟨A4, c4, rfl, -, -⟩ := j2.es
        have N4 := N3.other X3 j4
        have F4 : Hid (St w B (pgL xs (k + 1)) A2 c2 A4 c4 (R ++ R3) w4) := ⟨by
          rw [pgL_len (by have := HLT.out; have := HN.out; omega)]; exact N4, j2, by
          rw [List.map_append, KR.out, hK3, HPG.out, eAll_snoc], B3.trans j3⟩
        have J1 := Lib.hid j1
        obtain ⟨l3, hl3⟩ : ∃ z, R3.length = z := ⟨_, rfl⟩
        obtain ⟨l4, hl4⟩ : ∃ z, (R ++ R3).length = z := ⟨_, rfl⟩
        rw [hl3, hl4] at J1
        rw [hl3]
        have HL4 := Lib.hid hl4
        clear hr hO3 hK3 hb3 X3 N3 B3 S3 O3 hE L3 LR j1 j2 j3 j4 N4 hl3 hl4 hlt hp
        go_wp2_with (at_builtin; refine wpList_run_append J1.out rfl _ _ rfl rfl rfl rfl ?_)
        go_roundw
        case rel => exact ⟨k + 1, A2, c2, A4, c4, l4, R ++ R3, HLT.out, by go_num, by go_num, rfl, HL4.out, F4.out⟩
        case measure => have := HLT.out; simp [intOf]; omega
      · obtain rfl : k = n := by omega
        have UW : Hid (Below w.heap.size w wr) := by rw [HB.out]; exact ST.out.2.2.2
        have MW : Hid (MaxAt wr) := HM.out.below UW.out
        clear hlt hk
        by_cases h0 : k = 0
        · subst h0
          have I1 : Hid (St2 w B (upL 0) Aw cw R wr) := ⟨ST.out.2.1, ST.out.2.2.1, ST.out.2.2.2⟩
          clear UW MW ST
          simp only [show ((0 : Nat) : Int) = 0 from rfl]
          go_wp2
          go_loopw [34, 4] (fun i v wr => ∃ (k : Nat) (Aw : Option Addr) (cw m : Nat) (R : List Ee), k ≤ 7 ∧ i = .int .i64 (k : Int) ∧ v = .slice Aw m cw ∧ Hid (R.length = m) ∧ Hid (St2 w B (upL k) Aw cw R wr)) (fun i _ _ => 7 - (intOf i).toNat)
          case atStart => exact ⟨0, Aw, cw, m, R, Nat.zero_le _, rfl, rfl, HR.out, I1.out⟩
          case round =>
            clear I1
            obtain ⟨k, Aw, cw, m, R, hk, rfl, rfl, HR, ST⟩ := hrel
            by_cases hlt : k < 7
            · have SZ : B ≤ wr.heap.size := by have h := ST.out.2.2.size; have := HB.out; omega
              have hr := fun p => rents_any p wr
              have S1 := Lib.hid SZ
              have HLT := Lib.hid hlt
              clear SZ
              go_wp2_with fail
              refine (hr _).mono ?_
              rintro e w3 ⟨A3, c3, R3, rfl, hO3, hK3, hb3⟩
              have X3 : OwnXR w3 B (.slice Aw m cw) R := by have h := ST.out.1; rw [HR.out] at h; exact h.below hb3
              have B3 : Below B w w3 := ST.out.2.2.trans (hb3.mono S1.out)
              have S3 : B ≤ w3.heap.size := Nat.le_trans S1.out hb3.size
              have O3 : OwnXR w3 B (.slice A3 R3.length c3) R3 := hO3.lift S1.out
              obtain ⟨A', c', hv, hE, -⟩ := O3.es
              cases hv
              have L3 : R3.length ≤ 256 := by rw [len_keys hK3]; exact entsR_len _ 256
              have LR : R.length ≤ 2560 := by
                rw [len_keys ST.out.2.1]
                have h1 := eAll_len (upL k)
                rw [upL_len] at h1
                omega
              obtain ⟨v4, w4, j1, j2, j3, j4⟩ := run_appXR w3 B _ R X3 A3 c3 R3 hE O3.2 S3 (by omega)
              obtain ⟨A4, c4, rfl, -, -⟩ := j2.es
              have F4 : Hid (St2 w B (upL (k + 1)) A4 c4 (R ++ R3) w4) := ⟨j2, by
                rw [List.map_append, ST.out.2.1, hK3, upL_succ, eAll_snoc], B3.trans j3⟩
              have J1 := Lib.hid j1
              obtain ⟨l3, hl3⟩ : ∃ z, R3.length = z := ⟨_, rfl⟩
              obtain ⟨l4, hl4⟩ : ∃ z, (R ++ R3).length = z := ⟨_, rfl⟩
              rw [hl3, hl4] at J1
              rw [hl3]
              have HL4 := Lib.hid hl4
              clear hr hO3 hK3 hb3 X3 B3 S3 O3 hE L3 LR j1 j2 j3 j4 hl3 hl4 hlt
              go_wp2_with (at_builtin; refine wpList_run_append J1.out rfl _ _ rfl rfl rfl rfl ?_)
              go_roundw
              case rel => exact ⟨k + 1, A4, c4, l4, R ++ R3, HLT.out, by go_num, by go_num, HL4.out, F4.out⟩
              case measure => have := HLT.out; simp [intOf]; omega
            · obtain rfl : k = 7 := by omega
              have UW : Hid (Below w.heap.size w wr) := by rw [HB.out]; exact ST.out.2.2
              have MW : Hid (MaxAt wr) := HM.out.below UW.out
              have XW : Hid (OwnXR wr B (.slice Aw R.length cw) R) := ST.out.1
              have KW : Hid (R.map Ee.k = eAll (pagesL [])) := by rw [← upL_7]; exact ST.out.2.1
              have PW : Hid (IntsP wr Al []) := .inl rfl
              clear hlt hk ST
              go_wp2_with fail
              refine (ALV.out wr MW.out).mono ?_
              rintro e w5 ⟨rfl, hb5⟩
              have M5 := Lib.hid (MW.out.below hb5)
              have X5 := Lib.hid (XW.out.below hb5)
              have U5 : Hid (Below w.heap.size w w5) := UW.out.trans (hb5.mono UW.out.size)
              have hes := entries_any w5 M5.out Al cl [] (PW.out.below hb5) (by decide)
              clear hb5
              go_wp2_with fail
              refine hes.mono ?_
              rintro e w7 ⟨A1, c1, R1, rfl, hO1, hK1, hb7⟩
              have U7 : Hid (Below w.heap.size w w7) := U5.out.trans (hb7.mono U5.out.size)
              obtain ⟨hl1, heq⟩ := fin_eq hO1 hK1 (X5.out.below hb7) KW.out (fun y hy => eAll_small _ y hy) (Nat.le_trans (eAll_len _) (by decide))
              rw [hl1, HR.out] at heq
              rw [hl1, HR.out]
              clear hes hO1 hK1 hb7 hl1
              go_wp2_with fail
              refine heq.mono ?_
              rintro e w8 ⟨rfl, hb8⟩
              have U8 : Hid (Below w.heap.size w w8) := U7.out.trans (hb8.mono U7.out.size)
              clear heq hb8
              go_wp2
              go_ret
              exact ⟨rfl, U8.out⟩
        · have XW : Hid (OwnXR wr B (.slice Aw R.length cw) R) := ST.out.2.1
          have hne : pgL xs k ≠ [] := fun h => h0 (by rw [← pgL_len (Nat.le_of_eq HN.out.symm), h]; rfl)
          have hpl : (pgL xs k).length = k := pgL_len (Nat.le_of_eq HN.out.symm)
          have hpg : pagesL (pgL xs k) = pgL xs k := by unfold pagesL; rw [if_neg hne]
          have KW : Hid (R.map Ee.k = eAll (pagesL (pgL xs k))) := by rw [hpg]; exact ST.out.2.2.1
          have PW : Hid (IntsP wr Al (pgL xs k)) := by
            have h := ST.out.1
            obtain ⟨A', c', hv, hP⟩ := h.ints
            cases hv
            exact hP
          have HPL := Lib.hid hpl
          have HPG := Lib.hid hpg
          have H8 := Lib.hid h8
          have hz : ((k : Int) == 0) = false := by simp; omega
          clear ST hne hpl hpg h8 h0
          go_wp2_with fail
          refine (ALV.out wr MW.out).mono ?_
          rintro e w5 ⟨rfl, hb5⟩
          have M5 := Lib.hid (MW.out.below hb5)
          have X5 := Lib.hid (XW.out.below hb5)
          have U5 : Hid (Below w.heap.size w w5) := UW.out.trans (hb5.mono UW.out.size)
          have hes := entries_any w5 M5.out Al cl (pgL xs k) (PW.out.below hb5) (by rw [HPL.out]; have := H8.out; omega)
          clear hb5
          rw [HPL.out] at hes
          go_wp2_with fail
          refine hes.mono ?_
          rintro e w7 ⟨A1, c1, R1, rfl, hO1, hK1, hb7⟩
          have U7 : Hid (Below w.heap.size w w7) := U5.out.trans (hb7.mono U5.out.size)
          obtain ⟨hl1, heq⟩ := fin_eq hO1 hK1 (X5.out.below hb7) KW.out (fun y hy => eAll_small _ y hy) (Nat.le_trans (eAll_len _) (by rw [HPG.out, HPL.out]; have := H8.out; omega))
          rw [hl1, HR.out] at heq
          rw [hl1, HR.out]
          clear hes hO1 hK1 hb7 hl1
          go_wp2_with fail
          refine heq.mono ?_
          rintro e w8 ⟨rfl, hb8⟩
          have U8 : Hid (Below w.heap.size w w8) := U7.out.trans (hb8.mono U7.out.size)
          clear heq hb8
          go_wp2
          go_ret
          exact ⟨rfl, U8.out⟩
end Go.Proofs.YtipgecdfnbldnaaGreatDoor
