/-
  InstrKeeps, for all instructions and numbers: With does not change the instruction, its result has operands of its own, and it has the same shape; the law returns true, and its arguments read as they did.
  Conditions: none.
-/
import Derived.Test.YthpaamekpfhkjaaDoorInZ
import Derived.Test.YthpaamekpfhkjaaDoorInI
import Derived.Test.YthpaamekpfhkjaaDoorMixG
import Derived.Test.YthpaamekpfhkjaaDoorCards
import Derived.Test.YthpaamekpfhkjaaDoorTie
import Derived.ProofKit
import Derived.OpenShut
import Derived.Lay
import Derived.LaidOnce
import Derived.SevenTiedAt
import Derived.Below
namespace Go.Proofs.YthpaamekpfhkjaaDoor.instrKeepsDone
open Go.ChangeShapes Go.WideShapes Go.ChangeAt Go.RowKit
open Go.ChangeMaps (open_string shut_string)
set_option linter.unusedVariables false

theorem own : ownKnob Tryd.prog.godebug = none := by kernel_rfl
theorem laidOut : laidOutB Tryd.prog = true := by kernel_rfl
/-- A slice of integers that came in: nil, or a row of 'cap' cells that hold the numbers 'zs'. -/
def IsRow (k : IntKind) (w : World) (a : Option Addr) (len cap : Nat) (zs : List Int) : Prop :=
  (a = none ∧ len = 0 ∧ cap = 0 ∧ zs = []) ∨
  ∃ x, a = some x ∧ len ≤ cap ∧ cap ≤ maxLen ∧ zs.length = cap ∧ (∀ i, i < zs.length → w.cell? (x.add i) = some (.int k (zs.getD i 0))) ∧ ∀ n ∈ zs, (Lit.int k n).wf = true

theorem OwnT.opsA {w : World} {b n cap : Nat} {A : Option Addr} {L : List Tr} (h : OwnT w b (.slice A n cap) L) : OpsP w A L := by
  obtain ⟨A', cap', e, hP, -⟩ := h.ops
  simp only [Value.slice.injEq] at e
  obtain ⟨rfl, -, -⟩ := e
  exact hP
theorem rowcap {w : World} {base : Nat} {e : TypeId} {size n cap : Nat} {A : Option Addr} {xs : List Value} (h : w.ownsRow base e size (.slice A n cap) n xs) : cap ≤ maxLen := by
  rcases h.2 with ⟨h1, _⟩ | ⟨g, cap', cur, h1, _, _, _, hm, _⟩
  · simp only [Value.slice.injEq] at h1
    obtain ⟨_, _, rfl⟩ := h1
    exact Nat.zero_le _
  · simp only [Value.slice.injEq] at h1
    obtain ⟨_, _, rfl⟩ := h1
    exact hm
attribute [local irreducible] Go.Mixed.wpMix
set_option maxRecDepth 100000 in
set_option maxHeartbeats 16000000 in
theorem walk (s : ByteArray) (A : Option Addr) (cap : Nat) (L : List Tr) (a1 : Int) (w : World) (hs : s.size ≤ maxLen) (hL : L.length ≤ maxLen) (H : OpsP w A L) (R1 : (Lit.int .i64 a1).wf = true) :
    Calls Tryd.prog 6 #[.agg #[.string s, .slice A L.length cap], .int .i64 a1] w fun e w' => e = .returned (.bool true) ∧ Below w.heap.size w w' := by
  clear R1
  have SH := Lib.hid (short_any s hs A cap L.length hL)
  have X := Lib.hid H
  obtain ⟨n, hn⟩ : ∃ n, L.length = n := ⟨_, rfl⟩
  have HN := Lib.hid hn
  rw [hn] at hL SH ⊢
  have T0 := Lib.hid (Bx.new w s A n cap 24)
  have B0 : Hid (Below w.heap.size w (w.alloc (.cells #[.string s, .slice A n cap] 24))) := (Below.refl _ _).alloc (Nat.le_refl _) _
  obtain ⟨t0, t1⟩ := T0.out
  clear H hn
  go_enter Tryd.func6, Tryd.ntmps6
  go_wp2_with fail
  refine (SH.out _).mono ?_
  rintro e w1 ⟨rfl, h1⟩
  have T1 := Lib.hid (T0.out.all h1)
  have B1 := Lib.hid (B0.out.trans (h1.mono B0.out.size))
  clear h1 T0 B0 t0 t1 SH
  by_cases hsh : s.size ≤ 100 ∧ n ≤ 20
  · obtain ⟨hs1, hn1⟩ := hsh
    rw [decide_eq_true hs1, decide_eq_true hn1]
    have RC := Lib.hid (fun w' h => rcheck_any s A cap L (by rw [HN.out]; omega) w' h)
    have RN := Lib.hid (fun w' h => rnumbers_any s A cap L (by rw [HN.out]; omega) w' h)
    have hql : (numsL L).length ≤ 20 := by have := nums_le L; rw [HN.out] at this; omega
    rw [HN.out] at RC RN
    obtain ⟨q, hq⟩ : ∃ q, (numsL L).length = q := ⟨_, rfl⟩
    have HQ := Lib.hid hq
    rw [hq] at hql
    obtain ⟨c, hc⟩ : ∃ c, codeI s L = c := ⟨_, rfl⟩
    have HC := Lib.hid hc
    rw [hc] at RC
    clear hq hc
    have P1 := Lib.hid (X.out.below B1.out)
    obtain ⟨t0, t1⟩ := T1.out
    go_wp2_with fail
    refine (RC.out _ P1.out).mono ?_
    rintro e w2 ⟨rfl, hb⟩
    have T2 := Lib.hid (T1.out.all hb)
    have P2 := Lib.hid (P1.out.below hb)
    have B2 := Lib.hid (B1.out.trans (hb.mono B1.out.size))
    clear hb T1 P1 B1 t0 t1 RC X
    by_cases hc0 : c = 0
    · subst hc0
      obtain ⟨t0, t1⟩ := T2.out
      have hz := T2.out.lt
      have hz2 : w.heap.size ≠ w2.heap.size := by omega
      obtain ⟨v0, w3, hrun, hO0, hb0⟩ := append_ops A cap L (by rw [HN.out]; omega) w2 P2.out
      obtain ⟨A0, cap0, rfl, -, -⟩ := hO0.ops
      have KR := Lib.hid hrun
      rw [HN.out] at hO0 KR
      obtain ⟨w4, hw4⟩ : ∃ w4, w3.alloc (.cells #[.string s, .slice A0 n cap0] 24) = w4 := ⟨_, rfl⟩
      have hal : Below w3.heap.size w3 w4 := by rw [← hw4]; exact (Below.refl _ _).alloc (Nat.le_refl _) _
      have T3 := Lib.hid (T2.out.all hb0)
      have K := hb0.trans (hal.mono hb0.size)
      have T4 := Lib.hid (T2.out.all K)
      have P4 := Lib.hid (P2.out.below K)
      have B4 := Lib.hid (B2.out.trans (K.mono B2.out.size))
      have J4 := Lib.hid ((OwnT.opsA hO0).below hal)
      have TJ : Hid (Bx w4 w3.heap.size s A0 n cap0) := by rw [← hw4]; exact Bx.new w3 s A0 n cap0 _
      clear hrun hO0 hb0 hal K P2 B2 T2
      obtain ⟨s0, s1⟩ := T3.out
      obtain ⟨u0, u1⟩ := T4.out
      go_wp2_with (at_builtin; refine wpList_run_append KR.out rfl _ _ rfl rfl rfl rfl ?_)
      clear t0 t1 hz hz2 T3 KR s0 s1 hw4
      refine (RN.out _ P4.out).mono ?_
      rintro e w5 ⟨v5, rfl, hI5⟩
      obtain ⟨A6, cap6, rfl, -, -⟩ := hI5.ints
      rw [HQ.out]
      have hb := hI5.2
      have T5 := Lib.hid (T4.out.all hb)
      have TJ5 := Lib.hid (TJ.out.all hb)
      have P5 := Lib.hid (P4.out.below hb)
      have J5 := Lib.hid (J4.out.below hb)
      have B5 := Lib.hid (B4.out.trans (hb.mono B4.out.size))
      clear hI5 hb T4 TJ P4 J4 B4 u0 u1 RN
      go_wp2
      go_loopw [7, 33] (fun v i wr => ∃ k : Nat, k ≤ q ∧ i = .int .i64 k ∧ Hid (OwnI w5 wr v (List.replicate k a1))) (fun _ i _ => q - (intOf i).toNat)
      case atStart => exact ⟨0, Nat.zero_le _, rfl, OwnI.start _ _ (Below.refl _ _)⟩
      case round =>
        obtain ⟨k, hk, rfl, R⟩ := hrel
        by_cases hlt : k < q
        · have hl2 : (List.replicate k a1).length < 10000 := by rw [List.length_replicate]; omega
          have RS : Hid (List.replicate k a1 ++ [a1] = List.replicate (k + 1) a1) := List.replicate_succ'.symm
          go_wp2_with (at_builtin; refine wpList_appI R.out rfl _ _ rfl rfl rfl a1 hl2 ?_; intro v' w6 hR6)
          rw [RS.out] at hR6
          have R6 := Lib.hid hR6
          clear hR6
          go_roundw
          case rel => exact ⟨k + 1, by omega, by go_num, R6.out⟩
          case measure => simp [intOf]; omega
        · have hkq : k = q := by omega
          subst hkq
          obtain ⟨wL, hwL⟩ : ∃ wL, wL = wr := ⟨_, rfl⟩
          subst hwL
          obtain ⟨A7, cap7, rfl, hA7, hc7⟩ := R.out.ints
          have hc8 := rowcap R.out.1
          rw [List.length_replicate] at hc7 ⊢
          have T7 := Lib.hid (T5.out.all R.out.2)
          have TJ7 := Lib.hid (TJ5.out.all R.out.2)
          have P7 := Lib.hid (P5.out.below R.out.2)
          have J7 := Lib.hid (J5.out.below R.out.2)
          have B7 := Lib.hid (B5.out.trans (R.out.2.mono B5.out.size))
          have I7 := Lib.hid hA7
          have hnl : (List.replicate k a1).length = k := List.length_replicate
          obtain ⟨ns, hns⟩ : ∃ ns, List.replicate k a1 = ns := ⟨_, rfl⟩
          rw [hns] at I7 hnl
          have HNL := Lib.hid hnl
          have WI := Lib.hid (fun w' A B h h' => ret_n (with_any s A B L A7 cap7 ns hs (by rw [HN.out]; omega) (by rw [HNL.out]; omega) (by rw [HNL.out]; exact hc7) hc8 w' h h'))
          rw [HN.out, HNL.out] at WI
          have SI := Lib.hid (fun A1 A2 c1 c2 w' h1 h2 => same_any s A1 A2 c1 c2 L (by rw [HN.out]; omega) w' h1 h2)
          rw [HN.out] at SI
          have SY := Lib.hid (fun A c w' h => shape_any s A c (withL L ns) (by omega) (by rw [withL_len, HN.out]; omega) w' h)
          have SR := Lib.hid (fun w' h => rshape_any s A cap L (by omega) (by rw [HN.out]; omega) w' h)
          have SQ : Hid (okW s L ns = true → shpS s (withL L ns) = shpS s L) := fun h => shp_with s L ns HC.out h
          have SW : Hid (okW s L ns = true → sW s L ns = s ∧ lW s L ns = withL L ns) := fun h => ⟨by unfold sW; rw [h]; rfl, by unfold lW; rw [h]; rfl⟩
          rw [withL_len, HN.out] at SY
          rw [HN.out] at SR
          have HWL : Hid ((withL L ns).length = n) := (withL_len L ns).trans HN.out
          obtain ⟨ok, hok⟩ : ∃ ok, okW s L ns = ok := ⟨_, rfl⟩
          obtain ⟨sx, hsx⟩ : ∃ sx, sW s L ns = sx := ⟨_, rfl⟩
          obtain ⟨lx, hlx⟩ : ∃ lx, lW s L ns = lx := ⟨_, rfl⟩
          rw [hok, hsx, hlx] at WI SW
          rw [hok] at SQ
          obtain ⟨r, hr⟩ : ∃ r, lx.length = r := ⟨_, rfl⟩
          have HR := Lib.hid hr
          rw [hr] at WI
          have hr20 : r ≤ 20 := by
            have h := lW_le s L ns 20 (by rw [HN.out]; exact hn1)
            rw [hlx, hr] at h
            exact h
          obtain ⟨z, hz⟩ : ∃ z, shpS s L = z := ⟨_, rfl⟩
          rw [hz] at SR SQ
          have hzz := strB_eq z
          clear hns hnl hA7 hc7 hc8 R T5 TJ5 P5 J5 B5 hok hsx hlx hr hz HC
          obtain ⟨t0, t1⟩ := TJ7.out
          go_wp2_with fail
          refine (WI.out _ A0 cap0 J7.out I7.out).mono ?_
          rintro e w6 ⟨Ax, capx, rfl, hOx, h6⟩
          obtain ⟨w7, hw7⟩ : ∃ w7, w6.alloc (.cells #[.string sx, .slice Ax r capx] 24) = w7 := ⟨_, rfl⟩
          have hal : Below w6.heap.size w6 w7 := by rw [← hw7]; exact (Below.refl _ _).alloc (Nat.le_refl _) _
          have K7 := Lib.hid (h6.trans (hal.mono h6.size))
          have TX : Hid (Bx w7 w6.heap.size sx Ax r capx) := by rw [← hw7]; exact Bx.new w6 sx Ax r capx _
          have OX := Lib.hid (hOx.below hal)
          have GA : Hid (∀ g, Ax = some ⟨g, 0, none⟩ → wL.heap.size ≤ g ∧ g ≠ w6.heap.size) := fun g hg => by
            have h1 := World.ownsRow.lt hOx g (by rw [hg]; rfl)
            exact ⟨h1.1, by omega⟩
          clear hal h6 hOx t0 t1
          obtain ⟨t0, t1⟩ := TX.out
          go_wp2
          clear t0 t1 hw7
          go_loopw [49] (fun i wy => ∃ (j : Nat) (L' : List Tr), j ≤ r ∧ i = .int .i64 j ∧ Hid (L'.length = r) ∧ Hid (OwnT wy wL.heap.size (.slice Ax r capx) L') ∧ Hid (Bx wy w6.heap.size sx Ax r capx) ∧ Hid (Below wL.heap.size wL wy)) (fun i _ => r - (intOf i).toNat)
          case atStart => exact ⟨0, lx, Nat.zero_le _, rfl, HR.out, OX.out, TX.out, K7.out⟩
          case round =>
            clear K7 TX OX
            obtain ⟨j, L', hj, rfl, HL', O1, T1, K1⟩ := hrel
            obtain ⟨t0, t1⟩ := T1.out
            by_cases hlt2 : j < r
            · have hjL : j < L'.length := by rw [HL'.out]; exact hlt2
              obtain ⟨g, c', hA0, hgb, -, hcl, hfz⟩ := O1.out.form (by omega)
              simp only [Value.slice.injEq] at hA0
              obtain ⟨rfl, -, -⟩ := hA0
              obtain ⟨hg2, hg3⟩ := GA.out g rfl
              obtain ⟨-, -, p2⟩ := hcl j hjL
              have f2 := hfz (j * 3 + 2)
              obtain ⟨⟨y0, y1, y2⟩, hy⟩ : ∃ y, L'[j] = y := ⟨_, rfl⟩
              rw [hy] at p2
              simp only at p2
              have PUT : Hid (∀ x : Int, OwnT (wr.setCell ⟨g, j * 3 + 2, none⟩ (.int .i64 x)) wL.heap.size (.slice (some ⟨g, 0, none⟩) r capx) (L'.set j (y0, y1, x)) ∧
                  Bx (wr.setCell ⟨g, j * 3 + 2, none⟩ (.int .i64 x)) w6.heap.size sx (some ⟨g, 0, none⟩) r capx ∧ Below wL.heap.size wL (wr.setCell ⟨g, j * 3 + 2, none⟩ (.int .i64 x)) ∧ (L'.set j (y0, y1, x)).length = r) := fun x => by
                have hB := K1.out.setCell (p := ⟨g, j * 3 + 2, none⟩) hg2 (.int .i64 x)
                have hbk : (wr.setCell ⟨g, j * 3 + 2, none⟩ (.int .i64 x)).heap[w6.heap.size]? = wr.heap[w6.heap.size]? := heap_setCell_other wr ⟨g, j * 3 + 2, none⟩ w6.heap.size _ hg3.symm
                have hc : ∀ o, (wr.setCell ⟨g, j * 3 + 2, none⟩ (.int .i64 x)).cell? ⟨w6.heap.size, o, none⟩ = wr.cell? ⟨w6.heap.size, o, none⟩ := fun o => World.cell?_of_block hbk
                refine ⟨OwnT.put O1.out HL'.out (by rw [List.length_set]; exact HL'.out) _ _ (cells_set L' j y0 y1 x hjL (by rw [hy]) (by rw [hy])).symm, ⟨(hc 0).trans T1.out.1, (hc 1).trans T1.out.2⟩, hB, by rw [List.length_set]; exact HL'.out⟩
              clear hjL hgb hcl hfz hg2 hg3 hy O1 T1 K1 HL' c'
              go_wp2
              go_roundw
              case rel => exact ⟨j + 1, _, by omega, by go_num, (PUT.out _).2.2.2, (PUT.out _).1, (PUT.out _).2.1, (PUT.out _).2.2.1⟩
              case measure => simp [intOf]; omega
            · clear HL' O1 T1 GA t0 t1
              have T8 := Lib.hid (T7.out.all K1.out)
              have TJ8 := Lib.hid (TJ7.out.all K1.out)
              have P8 := Lib.hid (P7.out.below K1.out)
              have J8 := Lib.hid (J7.out.below K1.out)
              have I8 := Lib.hid (I7.out.below K1.out)
              have B8 := Lib.hid (B7.out.trans (K1.out.mono B7.out.size))
              clear T7 TJ7 P7 J7 I7 B7 K1
              obtain ⟨t0, t1⟩ := TJ8.out
              go_wp2_with fail
              refine (WI.out _ A0 cap0 J8.out I8.out).mono ?_
              rintro e w8 ⟨Ay, capy, rfl, hOy, h8⟩
              obtain ⟨w9, hw9⟩ : ∃ w9, w8.alloc (.cells #[.string sx, .slice Ay r capy] 24) = w9 := ⟨_, rfl⟩
              have hal : Below w8.heap.size w8 w9 := by rw [← hw9]; exact (Below.refl _ _).alloc (Nat.le_refl _) _
              have K := h8.trans (hal.mono h8.size)
              have T9 := Lib.hid (T8.out.all K)
              have TJ9 := Lib.hid (TJ8.out.all K)
              have P9 := Lib.hid (P8.out.below K)
              have J9 := Lib.hid (J8.out.below K)
              have B9 := Lib.hid (B8.out.trans (K.mono B8.out.size))
              have TY : Hid (Bx w9 w8.heap.size sx Ay r capy) := by rw [← hw9]; exact Bx.new w8 sx Ay r capy _
              have PY := Lib.hid ((OwnT.opsA hOy).below hal)
              clear hal h8 hOy K t0 t1 T8 TJ8 P8 J8 I8 B8 WI
              go_upto_region 17 with fail
              clear hw9
              obtain ⟨b8, hb8⟩ : ∃ b8, w8.heap.size = b8 := ⟨_, rfl⟩
              obtain ⟨b3, hb3⟩ : ∃ b3, w3.heap.size = b3 := ⟨_, rfl⟩
              rw [hb8] at TY ⊢
              rw [hb3] at TJ9 ⊢
              clear hb8 hb3
              have C3 : Hid ((Bx w9.drew b3 s A0 n cap0 ∧ Bx w9.drew w.heap.size s A n cap) ∧ Bx w9.drew b8 sx Ay r capy) := ⟨⟨TJ9.out, T9.out⟩, TY.out⟩
              have P3 : Hid (OpsP w9.drew A L) := P9.out
              have J3 : Hid (OpsP w9.drew A0 L) := J9.out
              have Y3 : Hid (OpsP w9.drew Ay lx) := PY.out
              have B3 : Hid (Below w.heap.size w w9.drew) := B9.out.trans ((below_drewN _ _ 1).mono B9.out.size)
              clear T9 TJ9 TY P9 J9 PY B9
              cases ok with
              | true =>
                obtain ⟨e1, e2⟩ := SW.out rfl
                have e3 := e1.symm
                subst e3
                subst e2
                clear e1
                obtain rfl : n = r := HWL.out.symm.trans HR.out
                have SQ2 := SQ.out rfl
                rw [SQ2] at SY
                refine Mixed.wp_region_mixed (fun w' => (Bx w' b3 s A0 n cap0 ∧ Bx w' w.heap.size s A n cap) ∧ Bx w' b8 s Ay n capy) 17 [(0, false), (1, true), (2, true), (3, true), (4, false), (5, true), (6, true), (7, true), (8, true), (9, true), (10, true), (12, true), (11, false), (13, false), (14, true), (15, true), (16, true)] (by kernel_rfl) (by kernel_rfl) C3.out ?_
                refine Mixed.wpMix_loudG rfl (by kernel_rfl) ?_
                go_wp2_with fail
                refine (alive_any _).mono ?_
                rintro e xx ⟨rfl, hb⟩
                have C3 := Lib.hid (And.intro (And.intro (C3.out.1.1.all hb) (C3.out.1.2.all hb)) (C3.out.2.all hb))
                have P3 := Lib.hid (P3.out.below hb)
                have J3 := Lib.hid (J3.out.below hb)
                have Y3 := Lib.hid (Y3.out.below hb)
                have B3 := Lib.hid (B3.out.trans (hb.mono B3.out.size))
                have cc := C3.out
                clear hb
                go_wp2
                refine ⟨cc, ?_⟩
                clear cc
                refine Mixed.wpMix_move rfl (by kernel_rfl) _ rfl _ rfl ?_
                refine Mixed.wpMix_pure rfl (by kernel_rfl) (.agg #[.string s, .slice A0 n cap0]) (fun w h => by obtain ⟨⟨⟨h1, h2⟩, h3, h4⟩, h5, h6⟩ := h; go_simp; try rfl) ?_
                refine Mixed.wpMix_pure rfl (by kernel_rfl) (.agg #[.string s, .slice A n cap]) (fun w h => by obtain ⟨⟨⟨h1, h2⟩, h3, h4⟩, h5, h6⟩ := h; go_simp; try rfl) ?_
                refine Mixed.wpMix_loudG rfl (by kernel_rfl) ?_
                go_wp2_with fail
                refine (SI.out A0 A cap0 cap _ J3.out P3.out).mono ?_
                rintro e xx ⟨rfl, hb⟩
                have C3 := Lib.hid (And.intro (And.intro (C3.out.1.1.all hb) (C3.out.1.2.all hb)) (C3.out.2.all hb))
                have P3 := Lib.hid (P3.out.below hb)
                have J3 := Lib.hid (J3.out.below hb)
                have Y3 := Lib.hid (Y3.out.below hb)
                have B3 := Lib.hid (B3.out.trans (hb.mono B3.out.size))
                have cc := C3.out
                clear hb
                go_wp2
                refine ⟨cc, ?_⟩
                clear cc
                refine Mixed.wpMix_pure rfl (by kernel_rfl) (.bool true) (fun w h => by clear h; go_simp; try rfl) ?_
                refine Mixed.wpMix_move rfl (by kernel_rfl) _ rfl _ rfl ?_
                refine Mixed.wpMix_pure rfl (by kernel_rfl) (.bool true) (fun w h => by clear h; go_simp; try rfl) ?_
                refine Mixed.wpMix_pure rfl (by kernel_rfl) (.bool false) (fun w h => by clear h; go_simp; try rfl) ?_
                refine Mixed.wpMix_pure rfl (by kernel_rfl) (.bool false) (fun w h => by clear h; go_simp; try rfl) ?_
                refine Mixed.wpMix_pure rfl (by kernel_rfl) (.agg #[.string s, .slice Ay n capy]) (fun w h => by obtain ⟨⟨⟨h1, h2⟩, h3, h4⟩, h5, h6⟩ := h; go_simp; try rfl) ?_
                refine Mixed.wpMix_pure rfl (by kernel_rfl) (.agg #[.string s, .slice A n cap]) (fun w h => by obtain ⟨⟨⟨h1, h2⟩, h3, h4⟩, h5, h6⟩ := h; go_simp; try rfl) ?_
                refine Mixed.wpMix_loudG rfl (by kernel_rfl) ?_
                go_wp2_with fail
                refine (SY.out Ay capy _ Y3.out).mono ?_
                rintro e xx ⟨rfl, hb⟩
                have C3 := Lib.hid (And.intro (And.intro (C3.out.1.1.all hb) (C3.out.1.2.all hb)) (C3.out.2.all hb))
                have P3 := Lib.hid (P3.out.below hb)
                have J3 := Lib.hid (J3.out.below hb)
                have Y3 := Lib.hid (Y3.out.below hb)
                have B3 := Lib.hid (B3.out.trans (hb.mono B3.out.size))
                have cc := C3.out
                clear hb
                go_wp2
                refine ⟨cc, ?_⟩
                clear cc
                refine Mixed.wpMix_loudG rfl (by kernel_rfl) ?_
                go_wp2_with fail
                refine (SR.out _ P3.out).mono ?_
                rintro e xx ⟨rfl, hb⟩
                have C3 := Lib.hid (And.intro (And.intro (C3.out.1.1.all hb) (C3.out.1.2.all hb)) (C3.out.2.all hb))
                have P3 := Lib.hid (P3.out.below hb)
                have J3 := Lib.hid (J3.out.below hb)
                have Y3 := Lib.hid (Y3.out.below hb)
                have B3 := Lib.hid (B3.out.trans (hb.mono B3.out.size))
                have cc := C3.out
                clear hb
                go_wp2
                refine ⟨cc, ?_⟩
                clear cc
                refine Mixed.wpMix_pure rfl (by kernel_rfl) (.bool true) (fun w h => by clear h; go_simp; try rfl) ?_
                refine Mixed.wpMix_pure rfl (by kernel_rfl) (.bool true) (fun w h => by clear h; go_simp; try rfl) ?_
                refine Mixed.wpMix_pure rfl (by kernel_rfl) (.bool true) (fun w h => by clear h; go_simp; try rfl) ?_
                simp only [Mixed.wpMix, List.drop_succ_cons, List.drop_zero]
                go_wp2
                go_ret
                exact ⟨rfl, B3.out⟩
              | false =>
                refine Mixed.wp_region_mixed (fun w' => (Bx w' b3 s A0 n cap0 ∧ Bx w' w.heap.size s A n cap) ∧ Bx w' b8 sx Ay r capy) 17 [(0, false), (1, true), (2, true), (3, true), (4, false), (5, true), (6, true), (7, true), (8, true), (9, true), (10, true), (12, true), (11, false), (13, false), (14, true), (15, true), (16, true)] (by kernel_rfl) (by kernel_rfl) C3.out ?_
                refine Mixed.wpMix_loudG rfl (by kernel_rfl) ?_
                go_wp2_with fail
                refine (alive_any _).mono ?_
                rintro e xx ⟨rfl, hb⟩
                have C3 := Lib.hid (And.intro (And.intro (C3.out.1.1.all hb) (C3.out.1.2.all hb)) (C3.out.2.all hb))
                have P3 := Lib.hid (P3.out.below hb)
                have J3 := Lib.hid (J3.out.below hb)
                have Y3 := Lib.hid (Y3.out.below hb)
                have B3 := Lib.hid (B3.out.trans (hb.mono B3.out.size))
                have cc := C3.out
                clear hb
                go_wp2
                refine ⟨cc, ?_⟩
                clear cc
                refine Mixed.wpMix_move rfl (by kernel_rfl) _ rfl _ rfl ?_
                refine Mixed.wpMix_pure rfl (by kernel_rfl) (.agg #[.string s, .slice A0 n cap0]) (fun w h => by obtain ⟨⟨⟨h1, h2⟩, h3, h4⟩, h5, h6⟩ := h; go_simp; try rfl) ?_
                refine Mixed.wpMix_pure rfl (by kernel_rfl) (.agg #[.string s, .slice A n cap]) (fun w h => by obtain ⟨⟨⟨h1, h2⟩, h3, h4⟩, h5, h6⟩ := h; go_simp; try rfl) ?_
                refine Mixed.wpMix_loudG rfl (by kernel_rfl) ?_
                go_wp2_with fail
                refine (SI.out A0 A cap0 cap _ J3.out P3.out).mono ?_
                rintro e xx ⟨rfl, hb⟩
                have C3 := Lib.hid (And.intro (And.intro (C3.out.1.1.all hb) (C3.out.1.2.all hb)) (C3.out.2.all hb))
                have P3 := Lib.hid (P3.out.below hb)
                have J3 := Lib.hid (J3.out.below hb)
                have Y3 := Lib.hid (Y3.out.below hb)
                have B3 := Lib.hid (B3.out.trans (hb.mono B3.out.size))
                have cc := C3.out
                clear hb
                go_wp2
                refine ⟨cc, ?_⟩
                clear cc
                refine Mixed.wpMix_pure rfl (by kernel_rfl) (.bool true) (fun w h => by clear h; go_simp; try rfl) ?_
                refine Mixed.wpMix_move rfl (by kernel_rfl) _ rfl _ rfl ?_
                refine Mixed.wpMix_pure rfl (by kernel_rfl) (.bool false) (fun w h => by clear h; go_simp; try rfl) ?_
                refine Mixed.wpMix_pure rfl (by kernel_rfl) (.bool true) (fun w h => by clear h; go_simp; try rfl) ?_
                refine Mixed.wpMix_pure rfl (by kernel_rfl) (.bool true) (fun w h => by clear h; go_simp; try rfl) ?_
                refine Mixed.wpMix_skip rfl (by kernel_rfl) ?_
                refine Mixed.wpMix_skip rfl (by kernel_rfl) ?_
                refine Mixed.wpMix_skipL rfl (by kernel_rfl) C3.out ?_
                refine Mixed.wpMix_skipL rfl (by kernel_rfl) C3.out ?_
                refine Mixed.wpMix_skip rfl (by kernel_rfl) ?_
                refine Mixed.wpMix_pure rfl (by kernel_rfl) (.bool true) (fun w h => by clear h; go_simp; try rfl) ?_
                refine Mixed.wpMix_pure rfl (by kernel_rfl) (.bool true) (fun w h => by clear h; go_simp; try rfl) ?_
                simp only [Mixed.wpMix, List.drop_succ_cons, List.drop_zero]
                go_wp2
                go_ret
                exact ⟨rfl, B3.out⟩
    · have hc1 : (c == 0) = false := beq_eq_false_iff_ne.2 hc0
      go_wp2_with fail
      refine (alive_any _).mono ?_
      rintro e w3 ⟨rfl, h2⟩
      have B3 := Lib.hid (B2.out.trans (h2.mono B2.out.size))
      clear h2
      go_wp2
      go_ret
      exact ⟨rfl, B3.out⟩
  · have E : (decide (s.size ≤ 100) && decide (n ≤ 20)) = false := by
      rw [← Bool.not_eq_true, Bool.and_eq_true, decide_eq_true_eq, decide_eq_true_eq]
      exact hsh
    rw [E]
    clear E
    go_wp2_with fail
    refine (alive_any _).mono ?_
    rintro e w2 ⟨rfl, h2⟩
    have B2 := Lib.hid (B1.out.trans (h2.mono B1.out.size))
    clear h2
    go_wp2
    go_ret
    exact ⟨rfl, B2.out⟩

set_option maxRecDepth 100000 in
theorem lifted (os : Os) (started : os.Started) (H : Type) (enc : TypeId × Value → H) :
    ReturnsInHanded {} Tryd.checked os 6 .any (fun w args => (Rows.instrKeepsSpec.pre enc Tryd.prog Tryd.f6 [] false w args ∧ laidMetH Tryd.prog Rows.instrKeepsRow.laid w) ∧ sizedMet enc Tryd.prog Tryd.f6 (OpenSpec.ofChange Rows.instrKeepsSpec) false w args)
      (Rows.instrKeepsSpec.post enc Tryd.prog Tryd.f6 false true false false) := by
  refine returnsInHanded_of_change_and (C := Tryd.checked) (X := fun w _ => laidMetH Tryd.prog Rows.instrKeepsRow.laid w) (fun _ _ _ hh h => h.of_heap hh) own started (by kernel_rfl) Tryd.func6
    (ChangeSpec.witness_shaped (enc := enc) (C := Tryd.checked) (os := os) (X := fun w _ => laidMetH Tryd.prog Rows.instrKeepsRow.laid w) false (World.laidAll Tryd.prog os Rows.instrKeepsRow.laid) #[.agg #[.string ⟨#[]⟩, .slice none 0 0], .int .i64 0] 8 (World.laidAll_os _ _ _)
      (World.shaped_of_ZipB (by kernel_rfl) (by kernel_rfl)) (by kernel_rfl) (by kernel_rfl) (by kernel_rfl)
      (by rw [MakeChecks.laidMetH_plain _ _ _ (by kernel_rfl)]; exact laidMet_laidAll _ (by kernel_rfl) (by kernel_rfl))) ?_
  intro W base args ds gs before hval0 hW _ _ hL _
  have hval : ∀ (j : Nat) t v, Tryd.f6.params[j]? = some t → args[j]? = some v → Value.okWide Tryd.prog W .any base t v := hval0
  have hW' := hW
  obtain ⟨p, q, hA0, hV, rfl, _, _⟩ := hW
  have hA : DataW.TrodAll enc Tryd.prog W 0 (fun _ => true) true Tryd.f6.params.toList args.toList ds p := hA0
  rw [Tryd.params6] at hA hval
  obtain ⟨v0, vs0, d0, ds0, p0, q0, hargs, rfl, rfl, h0, r0⟩ := trodAll_cons hA
  obtain ⟨v1, vs1, d1, ds1, p1, q1, rfl, rfl, rfl, h1, r1⟩ := trodAll_cons r0
  obtain ⟨rfl, rfl, rfl⟩ := trodAll_nil r1
  obtain rfl : args = #[v0, v1] := by cases args; simp_all
  obtain ⟨rfl, rfl⟩ := trodVars_none hV
  have k0 := h0
  have lt0 : ∀ x ∈ p0, x.block < W.heap.size := by obtain ⟨m, hm⟩ := k0; exact DataW.trod_lt m _ _ _ hm
  obtain ⟨s0, a0, cap0, z0, rfl, c0, hm0, w0⟩ := open_ins (hval 0 24 v0 rfl rfl) h0
  obtain ⟨a1, rfl, rfl, rfl, w1⟩ := open_int Tryd.underlying3 (hval 1 3 v1 rfl rfl) h1
  clear hA0 hval0
  refine (walk s0 a0 cap0 z0 a1 W c0 hm0 w0 w1).mono fun e W' ⟨he, bel⟩ => ?_
  subst he
  exact ⟨_, rfl, _, _, _, [], _, [], hW', trodAll_mk1 (shut_bool Tryd.underlying4 _), (trodAll_cons_mk (Below.trod laidOut (by kernel_rfl) (of_decide_eq_true (by kernel_rfl)) k0 bel lt0) (trodAll_cons_mk (shut_int Tryd.underlying3 w1) trodAll_mk0)), rfl, bel.frame _, fun h => by cases h⟩

theorem over : Rows.InstrKeepsSaid :=
  OpenClaim.holds_of_wide 6 Tryd.f6 rfl rfl rfl rfl rfl rfl rfl ⟨rfl, rfl, rfl, rfl, rfl⟩ rfl rfl rfl rfl rfl (by kernel_rfl) Tryd.func6 (by kernel_rfl)
    (of_decide_eq_true (by kernel_rfl)) (by unfold Func.isWrapper; first | (rw [if_pos (by decide +kernel)]; kernel_rfl) | (rw [if_neg (by decide +kernel)]; exact ⟨rfl, rfl⟩))
    (fun os started H enc _ => lifted os started H enc)
theorem card_holds : Rows.InstrKeepsCardSaid :=
  Claim7.holds_tied_plain_at .later [] [.data, .pinned] true Rows.instrKeepsCard.stood.harness false over (fun _ h => by cases h) (by kernel_rfl) (fun _ h => by cases h) instrKeeps_row_tie rfl ⟨rfl, rfl⟩ (by kernel_rfl) rfl
    (fun f fn hf hfn => by
      obtain rfl : f = 6 := Option.some.inj ((show Tryd.prog.funcNamed Tryd.f6.name = some 6 by kernel_rfl).symm.trans hf) |>.symm
      obtain rfl : fn = Tryd.f6 := (Option.some.inj (Tryd.func6.symm.trans hfn)).symm
      exact ⟨by kernel_rfl, fun j t ht => by
        rw [Tryd.params6] at ht
        have hm : t ∈ [24, 3] := by simpa [or_assoc, or_comm, or_left_comm] using Array.mem_of_getElem? ht
        have hall : ([24, 3].all fun u => !Tryd.prog.wantsStandIn u) = true := by kernel_rfl
        exact (show Tryd.prog.wantsStandIn t = false by simpa using List.all_eq_true.1 hall t hm)⟩)
    (by kernel_rfl)
#print axioms card_holds
end Go.Proofs.YthpaamekpfhkjaaDoor.instrKeepsDone
