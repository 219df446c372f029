/-
  RecordSame, for all records: Same returns the result of the reference, and changing the records of Split does not change its bytes: the law returns true, and its arguments read as they did.
  Conditions: none.
-/
import Derived.Test.YtbnehcnimbkakaaRecO
import Derived.Test.YtbnehcnimbkakaaRecZ
import Derived.Test.YtbnehcnimbkakaaRows
import Derived.ProofKit
import Derived.OpenShut
import Derived.Lay
import Derived.LaidOnce
import Derived.SevenTiedAt
import Derived.Below
namespace Go.Proofs.Ytbnehcnimbkakaa.recordSameDone
open Go.ChangeShapes Go.WideShapes Go.ChangeAt Go.RowKit
open Go.ChangeMaps (open_string shut_string)
set_option linter.unusedVariables false

theorem own : ownKnob Try.prog.godebug = none := by kernel_rfl
theorem laidOut : laidOutB Try.prog = true := by kernel_rfl
/-- A slice of integers that came in: nil, or a row of 'cap' cells that hold the numbers 'zs'. -/
def IsRow (k : IntKind) (w : World) (a : Option Addr) (len cap : Nat) (zs : List Int) : Prop :=
  (a = none ∧ len = 0 ∧ cap = 0 ∧ zs = []) ∨
  ∃ x, a = some x ∧ len ≤ cap ∧ cap ≤ maxLen ∧ zs.length = cap ∧ (∀ i, i < zs.length → w.cell? (x.add i) = some (.int k (zs.getD i 0))) ∧ ∀ n ∈ zs, (Lit.int k n).wf = true

/-- Two records in blocks of their own. -/
def Two (n0 n1 : Nat) (x0 x1 x2 y0 y1 y2 : Value) (w : World) : Prop :=
  (w.cell? ⟨n0, 0, none⟩ = some x0 ∧ w.cell? ⟨n0, 1, none⟩ = some x1 ∧ w.cell? ⟨n0, 2, none⟩ = some x2) ∧
  w.cell? ⟨n1, 0, none⟩ = some y0 ∧ w.cell? ⟨n1, 1, none⟩ = some y1 ∧ w.cell? ⟨n1, 2, none⟩ = some y2
theorem Two.below {n0 n1 : Nat} {x0 x1 x2 y0 y1 y2 : Value} {w w' : World} (h : Two n0 n1 x0 x1 x2 y0 y1 y2 w) (k : Below w.heap.size w w') : Two n0 n1 x0 x1 x2 y0 y1 y2 w' := by
  obtain ⟨⟨h1, h2, h3⟩, h4, h5, h6⟩ := h
  have e : ∀ (p : Addr) (v : Value), w.cell? p = some v → w'.cell? p = some v := fun p v hp => (k.cell (World.block_lt_of_cell? w _ hp)).trans hp
  exact ⟨⟨e _ _ h1, e _ _ h2, e _ _ h3⟩, e _ _ h4, e _ _ h5, e _ _ h6⟩
theorem below_draws (w : World) (q : Nat) : Below w.heap.size w (w.drewN q) := ⟨rfl, rfl, rfl, Nat.le_refl _, fun _ _ => rfl⟩
attribute [local irreducible] Go.Mixed.wpMix
set_option maxRecDepth 100000 in
set_option maxHeartbeats 2000000 in
theorem walk (T1 a1 : Int) (A1 : Option Addr) (c1 : Nat) (D1 : List UInt8) (T2 a2 : Int) (A2 : Option Addr) (c2 : Nat) (D2 : List UInt8) (w : World) (hm1 : D1.length ≤ maxLen) (hx1 : BytesP (fun _ => True) w A1 D1) (hm2 : D2.length ≤ maxLen) (hx2 : BytesP (fun _ => True) w A2 D2) :
    Calls Try.prog 8 #[.agg #[.int .i64 T1, .int .i64 a1, .slice A1 D1.length c1], .agg #[.int .i64 T2, .int .i64 a2, .slice A2 D2.length c2]] w fun e w' => e = .returned (.bool true) ∧ Below w.heap.size w w' := by
  have hm10 := hm1
  unfold maxLen at hm1 hm2
  have hb1 : Below w.heap.size w (w.alloc (.cells #[.int .i64 T1, .int .i64 a1, .slice A1 D1.length c1] 24)) := (Below.refl _ _).alloc (Nat.le_refl _) _
  have tr1 := three_cells w _ rfl (.int .i64 T1) (.int .i64 a1) (.slice A1 D1.length c1) 24
  obtain ⟨wm, hwm⟩ : ∃ wm, w.alloc (.cells #[.int .i64 T1, .int .i64 a1, .slice A1 D1.length c1] 24) = wm := ⟨_, rfl⟩
  have hms : wm.heap.size = w.heap.size + 1 := by rw [← hwm]; simp
  rw [hwm] at hb1 tr1
  have hb2 : Below wm.heap.size wm (wm.alloc (.cells #[.int .i64 T2, .int .i64 a2, .slice A2 D2.length c2] 24)) := (Below.refl _ _).alloc (Nat.le_refl _) _
  have tr2 := three_cells wm (w.heap.size + 1) hms (.int .i64 T2) (.int .i64 a2) (.slice A2 D2.length c2) 24
  obtain ⟨w0, hw0⟩ : ∃ w0, wm.alloc (.cells #[.int .i64 T2, .int .i64 a2, .slice A2 D2.length c2] 24) = w0 := ⟨_, rfl⟩
  have h0s : w0.heap.size = w.heap.size + 1 + 1 := by rw [← hw0]; simp; omega
  rw [hw0] at hb2 tr2
  have hT : Two w.heap.size (w.heap.size + 1) (.int .i64 T1) (.int .i64 a1) (.slice A1 D1.length c1) (.int .i64 T2) (.int .i64 a2) (.slice A2 D2.length c2) w0 := by
    have e : ∀ (p : Addr) (v : Value), wm.cell? p = some v → w0.cell? p = some v := fun p v hp => (hb2.cell (World.block_lt_of_cell? wm _ hp)).trans hp
    exact ⟨⟨e _ _ tr1.1, e _ _ tr1.2.1, e _ _ tr1.2.2⟩, tr2⟩
  have B0 := Lib.hid (hb1.trans (hb2.mono (by omega)))
  have X1 := Lib.hid ((hx1.below hb1).below hb2)
  have X2 := Lib.hid ((hx2.below hb1).below hb2)
  have TT := Lib.hid hT
  obtain ⟨⟨p0, p1, p2⟩, s0, s1, s2⟩ := hT
  have H0 := Lib.hid h0s
  rw [← hwm] at hw0
  clear hb1 hb2 tr1 tr2 hx1 hx2 hms hwm h0s
  by_cases hl : 255 < D1.length
  · have hl' : (255 : Int) < (D1.length : Int) := by omega
    go_enter Try.func8, Try.ntmps8
    go_wp2_with fail
    refine (alive_any _).mono ?_
    rintro e w1 ⟨rfl, hb1⟩
    have N := Lib.hid (B0.out.trans (hb1.mono B0.out.size))
    clear hb1
    go_wp2
    go_ret
    exact ⟨rfl, N.out⟩
  have hl' : decide ((255 : Int) < (D1.length : Int)) = false := decide_eq_false (by omega)
  by_cases hk : 255 < D2.length
  · have hk' : (255 : Int) < (D2.length : Int) := by omega
    clear hl
    go_enter Try.func8, Try.ntmps8
    go_wp2_with fail
    refine (alive_any _).mono ?_
    rintro e w1 ⟨rfl, hb1⟩
    have N := Lib.hid (B0.out.trans (hb1.mono B0.out.size))
    clear hb1
    go_wp2
    go_ret
    exact ⟨rfl, N.out⟩
  have hk' : decide ((255 : Int) < (D2.length : Int)) = false := decide_eq_false (by omega)
  have hD1 : D1.length ≤ 255 := by omega
  have HD1 := Lib.hid hD1
  obtain ⟨Ao, co, wc, krun, kb, kco, kB⟩ := own_copy X1.out c1 (by omega) 22
  have r2 : (w0.alloc (.cells #[] 5)).cell? ⟨w.heap.size, 2, none⟩ = some (.slice A1 D1.length c1) :=
    (((Below.refl _ _).alloc (Nat.le_refl _) _ : Below w0.heap.size w0 (w0.alloc (.cells #[] 5))).cell (World.block_lt_of_cell? w0 _ p2)).trans p2
  have K1 := Lib.hid krun
  have KB := Lib.hid kb
  have BC := Lib.hid kB
  have hsp := split_any _ 0 7 Ao co D1 hm10 kco wc KB.out
  clear krun kb kB kco hl hk
  go_enter Try.func8, Try.ntmps8
  go_wp2_with (at_builtin; refine wpList_run_append K1.out rfl _ _ rfl rfl rfl rfl ?_)
  refine hsp.mono ?_
  rintro e w3 ⟨v3, rs, n1, hn1, rfl, hO3, hW3, hP3, hB3⟩
  obtain ⟨A3, cap3, g, hv3, hAg, hg, hSp, hTy⟩ := recs_open hO3 hW3
  have hrl : rs.length ≤ 255 := by
    rw [pairs_length hP3]
    exact Nat.le_trans (splW_len _ _ _) HD1.out
  have hdat : ∀ r ∈ rs, r.data.length ≤ 255 := fun r hr => by
    obtain ⟨j, hj, rfl⟩ := List.mem_iff_getElem.1 hr
    have hj2 : j < (splW 0 7 D1).length := by rw [← pairs_length hP3]; exact hj
    rw [(pairs_at hP3 hj hj2).2]
    exact splW_dat _ _ _ j hj2
  subst hv3
  have S3 := Lib.hid hSp
  have T3 := Lib.hid hTy
  have B3 := Lib.hid hB3
  have HG := Lib.hid (And.intro hn1 hg)
  have HA := Lib.hid hAg
  have HDA := Lib.hid hdat
  clear hsp hO3 hW3 hP3 hB3 hAg hg hSp hTy hn1 hdat p0 p1 p2 s0 s1 s2 hw0 r2
  go_wp2
  go_loopw [27] (fun i wx => ∃ j : Nat, j ≤ rs.length ∧ i = .int .i64 j ∧ Below wc.heap.size wc wx ∧ Sp wx g rs ∧ (∀ r ∈ rs, TyP (fun i => n1 ≤ i ∧ i ≠ g ∧ i < w3.heap.size) wx r.A r.data.length) ∧ w3.heap.size ≤ wx.heap.size) (fun i _ => rs.length - (intOf i).toNat)
  case atStart => exact ⟨0, Nat.zero_le _, rfl, B3.out, S3.out, T3.out, Nat.le_refl _⟩
  case round =>
    obtain ⟨j, hj, rfl, hBj, hSj, hTj, hzj⟩ := hrel
    have BJ := Lib.hid hBj
    have SJ := Lib.hid hSj
    have TJ := Lib.hid hTj
    have ZJ := Lib.hid hzj
    clear hBj hSj hTj hzj
    by_cases hjt : j < rs.length
    · have hA3 := HA.out (by omega)
      subst hA3
      obtain ⟨p1, p2, p3⟩ := SJ.out j hjt
      have hmem := List.getElem_mem hjt
      have hdl := HDA.out _ hmem
      have hjt' : (j : Int) < (rs.length : Int) := by omega
      obtain ⟨r, hr⟩ : ∃ r, rs[j] = r := ⟨_, rfl⟩
      rw [hr] at p2 p3 hmem hdl
      have HM := Lib.hid hmem
      obtain ⟨n, hn⟩ : ∃ n : Nat, r.data.length = n := ⟨_, rfl⟩
      obtain ⟨ra, hra⟩ : ∃ a, r.A = a := ⟨_, rfl⟩
      obtain ⟨rc, hrc⟩ : ∃ a, r.cap = a := ⟨_, rfl⟩
      obtain ⟨x, hx⟩ : ∃ x, r.addr = x := ⟨_, rfl⟩
      have TR : Hid (∀ wx, (∀ r ∈ rs, TyP (fun i => n1 ≤ i ∧ i ≠ g ∧ i < w3.heap.size) wx r.A r.data.length) → TyP (fun i => n1 ≤ i ∧ i ≠ g ∧ i < w3.heap.size) wx ra n) := fun wx h => by
        rw [← hra, ← hn]; exact h r HM.out
      rw [hx] at p2
      rw [hra, hn, hrc] at p3
      rw [hn] at hdl
      obtain ⟨ob, hob⟩ : ∃ o, Obj.cells #[.int .i64 0, .int .i64 x, .slice ra n rc] 28 = o := ⟨_, rfl⟩
      have hal : Below wr.heap.size wr (wr.alloc ob) := (Below.refl _ _).alloc (Nat.le_refl _) ob
      have hcell1 : (wr.alloc ob).cell? ⟨wr.heap.size, 2, none⟩ = some (.slice ra n rc) := by rw [← hob]; exact (three_cells wr _ rfl _ _ _ _).2.2
      have BA := Lib.hid (BJ.out.trans (hal.mono BJ.out.size))
      have SA := Lib.hid (SJ.out.below hal)
      have TA : Hid (∀ r ∈ rs, TyP (fun i => n1 ≤ i ∧ i ≠ g ∧ i < w3.heap.size) (wr.alloc ob) r.A r.data.length) := fun r hr => (TJ.out r hr).below hal
      have ZA := Lib.hid (Nat.le_trans ZJ.out hal.size)
      have hv0 := ZJ.out
      obtain ⟨wa, hwa⟩ : ∃ wa, wr.alloc ob = wa := ⟨_, rfl⟩
      rw [hwa] at BA SA TA ZA hcell1
      obtain ⟨vb, hvb⟩ : ∃ vb, wr.heap.size = vb := ⟨_, rfl⟩
      rw [hvb] at hcell1 hv0
      have HV := Lib.hid hv0
      have C1 := Lib.hid hcell1
      clear hr hn hra hrc hx hmem hal hv0
      go_wp2
      go_loopw [34] (fun i wx => ∃ q : Nat, q ≤ n ∧ i = .int .i64 q ∧ Below wc.heap.size wc wx ∧ Sp wx g rs ∧ (∀ r ∈ rs, TyP (fun i => n1 ≤ i ∧ i ≠ g ∧ i < w3.heap.size) wx r.A r.data.length) ∧ w3.heap.size ≤ wx.heap.size ∧ wx.cell? ⟨vb, 2, none⟩ = some (.slice ra n rc)) (fun i _ => n - (intOf i).toNat)
      case atStart => exact ⟨0, Nat.zero_le _, rfl, BA.out, SA.out, TA.out, ZA.out, C1.out⟩
      case round =>
        obtain ⟨q, hq, rfl, hBq, hSq, hTq, hzq, hcq⟩ := hrel
        have BQ := Lib.hid hBq
        have SQ := Lib.hid hSq
        have TQ := Lib.hid hTq
        have ZQ := Lib.hid hzq
        have CQ := Lib.hid hcq
        clear hBq hSq hTq hzq hcell1
        by_cases hqt : q < n
        · obtain ⟨bk, off2, y, hAo, ⟨hk1, hk2, hk3⟩, d1, d2⟩ := (TR.out _ TQ.out).at_ hqt
          subst hAo
          have hqt' : (q : Int) < (n : Int) := by omega
          have hvk : bk ≠ vb := by have := HV.out; omega
          have BN := fun y => Lib.hid (BQ.out.setCell (p := ⟨bk, off2 + q, none⟩) (Nat.le_trans HG.out.1 hk1) (.int .u8 y))
          have SN := fun y => Lib.hid (SQ.out.set (a := ⟨bk, off2 + q, none⟩) hk2 (.int .u8 y))
          have TN := fun y => Lib.hid (fun r hr => (TQ.out r hr).set bk (off2 + q) y)
          have CN := fun y => Lib.hid ((World.cell?_setCell_other wr ⟨bk, off2 + q, none⟩ ⟨vb, 2, none⟩ (.int .u8 y) (fun e => hvk (congrArg Addr.block e))).trans CQ.out)
          have ZN := fun (y : Int) => Lib.hid (show w3.heap.size ≤ (wr.setCell ⟨bk, off2 + q, none⟩ (.int .u8 y)).heap.size by simpa [World.setCell] using ZQ.out)
          clear hk1 hk2 hk3 hvk
          go_wp2
          go_roundw
          case rel => exact ⟨q + 1, by omega, by go_num, (BN _).out, (SN _).out, (TN _).out, (ZN _).out, (CN _).out⟩
          case measure => simp [intOf]; omega
        · have hqt' : decide ((q : Int) < (n : Int)) = false := decide_eq_false (by omega)
          go_wp2
          go_roundw
          case rel => exact ⟨j + 1, by omega, by go_num, BQ.out, SQ.out, TQ.out, ZQ.out⟩
          case measure => simp [intOf]; omega
    · have hjt' : decide ((j : Int) < (rs.length : Int)) = false := decide_eq_false (by omega)
      have hb0r : Below w0.heap.size w0 wr := BC.out.trans (BJ.out.mono BC.out.size)
      have hdr : Below wr.heap.size wr wr.drew := (Below.refl _ _).drew
      have Y1 := Lib.hid ((X1.out.below hb0r).below hdr)
      have Y2 := Lib.hid ((X2.out.below hb0r).below hdr)
      have YO := Lib.hid ((KB.out.below BJ.out).below hdr)
      have hT4 := (TT.out.below hb0r).below hdr
      have B4 := Lib.hid ((B0.out.trans (hb0r.mono B0.out.size)).trans (hdr.mono (Nat.le_trans B0.out.size hb0r.size)))
      have fT : fitsB 0 255 [(D1.length : Int)] = true := by rw [fits1]; exact decide_eq_true (by omega)
      have HX := Lib.hid hm10
      obtain ⟨sb, hsb⟩ : ∃ sb, sameR T1 a1 D1 T2 a2 D2 = sb := ⟨_, rfl⟩
      clear hb0r hdr BJ SJ TJ ZJ
      go_wp2_with fail
      refine Mixed.wp_region_mixed (fun w' => Two w.heap.size (w.heap.size + 1) (.int .i64 T1) (.int .i64 a1) (.slice A1 D1.length c1) (.int .i64 T2) (.int .i64 a2) (.slice A2 D2.length c2) w') 21 [(0, false), (1, true), (2, true), (3, true), (5, true), (6, true), (4, false), (7, false), (8, true), (9, true), (10, true), (11, true), (12, true), (13, true), (14, false), (15, true), (16, true), (17, true), (18, true), (19, false), (20, false)] (by kernel_rfl) (by kernel_rfl) hT4 ?_
      refine Mixed.wpMix_loud rfl ?_
      go_wp2_with fail
      refine (alive_any _).mono ?_
      rintro e w4 ⟨rfl, hb4⟩
      have hT5 := hT4.below hb4
      have Z1 := Lib.hid (Y1.out.below hb4)
      have Z2 := Lib.hid (Y2.out.below hb4)
      have ZO := Lib.hid (YO.out.below hb4)
      have B5 := Lib.hid (B4.out.trans (hb4.mono B4.out.size))
      have hsm := same_any _ _ T1 a1 A1 c1 D1 T2 a2 A2 c2 D2 w4 Z1.out Z2.out
      rw [hsb] at hsm
      clear hb4 hT4 Y1 Y2 YO B4
      go_wp2
      refine ⟨hT5, ?_⟩
      refine Mixed.wpMix_move rfl (by kernel_rfl) _ rfl _ rfl ?_
      refine Mixed.wpMix_pure rfl (by kernel_rfl) (.agg #[.int .i64 T1, .int .i64 a1, .slice A1 D1.length c1]) (fun w h => by obtain ⟨⟨p0, p1, p2⟩, s0, s1, s2⟩ := h; go_simp; try rfl) ?_
      refine Mixed.wpMix_pure rfl (by kernel_rfl) (.agg #[.int .i64 T2, .int .i64 a2, .slice A2 D2.length c2]) (fun w h => by obtain ⟨⟨p0, p1, p2⟩, s0, s1, s2⟩ := h; go_simp; try rfl) ?_
      refine Mixed.wpMix_pure rfl (by kernel_rfl) (.agg #[.int .i64 T1, .int .i64 a1, .slice A1 D1.length c1]) (fun w h => by obtain ⟨⟨p0, p1, p2⟩, s0, s1, s2⟩ := h; go_simp; try rfl) ?_
      refine Mixed.wpMix_pure rfl (by kernel_rfl) (.agg #[.int .i64 T2, .int .i64 a2, .slice A2 D2.length c2]) (fun w h => by obtain ⟨⟨p0, p1, p2⟩, s0, s1, s2⟩ := h; go_simp; try rfl) ?_
      refine Mixed.wpMix_loudG rfl (by kernel_rfl) ?_
      go_wp2_with fail
      refine hsm.mono ?_
      rintro e w5 ⟨rfl, hb5⟩
      have hT6 := hT5.below hb5
      have V1 := Lib.hid (Z1.out.below hb5)
      have V2 := Lib.hid (Z2.out.below hb5)
      have VO := Lib.hid (ZO.out.below hb5)
      have B6 := Lib.hid (B5.out.trans (hb5.mono B5.out.size))
      have hrs := rsame_any _ _ T1 a1 A1 c1 D1 T2 a2 A2 c2 D2 w5 V1.out V2.out
      rw [hsb] at hrs
      clear hb5 hT5 Z1 Z2 ZO B5 hsm
      go_wp2
      refine ⟨hT6, ?_⟩
      refine Mixed.wpMix_loudG rfl (by kernel_rfl) ?_
      go_wp2_with fail
      refine hrs.mono ?_
      rintro e w6 ⟨rfl, hb6⟩
      have hT7 := hT6.below hb6
      have B7 := Lib.hid (B6.out.trans (hb6.mono B6.out.size))
      have heq := equal_any Ao A1 co c1 D1 D1 HX.out HX.out w6 (VO.out.below hb6).toB (V1.out.below hb6).toB
      rw [decide_eq_true rfl] at heq
      clear hb6 hT6 V1 V2 VO B6 hrs
      go_wp2
      refine ⟨hT7, ?_⟩
      refine Mixed.wpMix_pure rfl (by kernel_rfl) (.bool true) (fun w h => by clear h; cases sb <;> (go_simp; try rfl)) ?_
      refine Mixed.wpMix_pure rfl (by kernel_rfl) (.bool true) (fun w h => by clear h; go_simp; try rfl) ?_
      refine Mixed.wpMix_move rfl (by kernel_rfl) _ rfl _ rfl ?_
      refine Mixed.wpMix_move rfl (by kernel_rfl) _ rfl _ rfl ?_
      refine Mixed.wpMix_pure rfl (by kernel_rfl) (.pointer (some ⟨w.heap.size, 2, none⟩)) (fun w h => by clear h; go_simp; try rfl) ?_
      refine Mixed.wpMix_pure rfl (by kernel_rfl) (.slice A1 D1.length c1) (fun w h => by obtain ⟨⟨p0, p1, p2⟩, s0, s1, s2⟩ := h; go_simp; try rfl) ?_
      refine Mixed.wpMix_loudG rfl (by kernel_rfl) ?_
      go_wp2_with fail
      refine heq.mono ?_
      rintro e w7 ⟨rfl, q, hq⟩
      have hb7 : Below w6.heap.size w6 w7 := by rw [hq]; exact below_draws _ _
      have hT8 := hT7.below hb7
      have B8 := Lib.hid (B7.out.trans (hb7.mono B7.out.size))
      have hal : Below w7.heap.size w7 (w7.alloc (.cells #[.int .i64 (D1.length : Int)] 3)) := (Below.refl _ _).alloc (Nat.le_refl _) _
      have hT9 := hT8.below hal
      have B9 := Lib.hid (B8.out.trans (hal.mono B8.out.size))
      clear hb7 hq hT7 B7 heq hal
      go_wp2
      refine ⟨hT8, ?_⟩
      refine Mixed.wpMix_pure rfl (by kernel_rfl) (.bool true) (fun w h => by clear h; go_simp; try rfl) ?_
      refine Mixed.wpMix_move rfl (by kernel_rfl) _ rfl _ rfl ?_
      refine Mixed.wpMix_move rfl (by kernel_rfl) _ rfl _ rfl ?_
      refine Mixed.wpMix_pure rfl (by kernel_rfl) (.int .i64 (D1.length : Int)) (fun w h => by clear h; go_simp; try rfl) ?_
      refine Mixed.wpMix_loudG rfl (by kernel_rfl) ?_
      go_wp2
      refine ⟨hT9, ?_⟩
      refine Mixed.wpMix_loudG rfl (by kernel_rfl) ?_
      go_wp2_with fail
      refine (rfits_any 0 255 _ _ [(D1.length : Int)] (by simp [maxLen]) _ (ints_one' _ _ (by simp) _ _)).mono ?_
      rintro e w9 ⟨rfl, rfl⟩
      go_wp2
      refine ⟨hT9, ?_⟩
      simp only [Mixed.wpMix, List.drop_succ_cons, List.drop_zero]
      go_wp2
      go_ret
      exact ⟨rfl, B9.out⟩

set_option maxRecDepth 100000 in
theorem lifted (os : Os) (started : os.Started) (H : Type) (enc : TypeId × Value → H) :
    ReturnsInHanded {} Try.checked os 8 .any (Rows.recordSameSpec.pre6 enc Try.prog Try.f8 Rows.recordSameRow.domain false) (Rows.recordSameSpec.post enc Try.prog Try.f8 false true false false) := by
  refine returnsInHanded_of_change (C := Try.checked) own started (by kernel_rfl) Try.func8
    (ChangeSpec.witness6 (enc := enc) (C := Try.checked) false ⟨#[], #[.agg #[.int .i64 0, .int .i64 0, .slice none 0 0], .agg #[.int .i64 0, .int .i64 0, .slice none 0 0]], []⟩ 8 (by kernel_rfl) (by kernel_rfl) (by kernel_rfl) (by kernel_rfl)) ?_
  intro W base args ds gs before hval0 hW _ _
  have hval : ∀ (j : Nat) t v, Try.f8.params[j]? = some t → args[j]? = some v → Value.okWide Try.prog W .any base t v := hval0
  have hW' := hW
  obtain ⟨p, q, hA0, hV, rfl, _, _⟩ := hW
  have hA : DataW.TrodAll enc Try.prog W 0 (fun _ => true) true Try.f8.params.toList args.toList ds p := hA0
  rw [Try.params8] at hA hval
  obtain ⟨v0, vs0, d0, ds0, p0, q0, hargs, rfl, rfl, h0, r0⟩ := trodAll_cons hA
  obtain ⟨v1, vs1, d1, ds1, p1, q1, rfl, rfl, rfl, h1, r1⟩ := trodAll_cons r0
  obtain ⟨rfl, rfl, rfl⟩ := trodAll_nil r1
  obtain rfl : args = #[v0, v1] := by cases args; simp_all
  obtain ⟨rfl, rfl⟩ := trodVars_none hV
  have k0 := h0
  have lt0 : ∀ x ∈ p0, x.block < W.heap.size := by obtain ⟨m, hm⟩ := k0; exact DataW.trod_lt m _ _ _ hm
  obtain ⟨t0, b0, a0, cap0, z0, rfl, hm0, w0⟩ := open_rec (hval 0 24 v0 rfl rfl) h0
  have k1 := h1
  have lt1 : ∀ x ∈ p1, x.block < W.heap.size := by obtain ⟨m, hm⟩ := k1; exact DataW.trod_lt m _ _ _ hm
  obtain ⟨t1, b1, a1, cap1, z1, rfl, hm1, w1⟩ := open_rec (hval 1 24 v1 rfl rfl) h1
  clear hA0 hval0
  refine (walk t0 b0 a0 cap0 z0 t1 b1 a1 cap1 z1 W hm0 w0 hm1 w1).mono fun e W' ⟨he, bel⟩ => ?_
  subst he
  exact ⟨_, rfl, _, _, _, [], _, [], hW', trodAll_mk1 (shut_bool Try.underlying4 _), (trodAll_cons_mk (Below.trod laidOut (by kernel_rfl) (of_decide_eq_true (by kernel_rfl)) k0 bel lt0) (trodAll_cons_mk (Below.trod laidOut (by kernel_rfl) (of_decide_eq_true (by kernel_rfl)) k1 bel lt1) trodAll_mk0)), rfl, bel.frame _, fun h => by cases h⟩

theorem over : Rows.RecordSameSaid :=
  OpenClaim.holds_of_wide 8 Try.f8 rfl rfl rfl rfl rfl rfl rfl ⟨rfl, rfl, rfl, rfl, rfl⟩ rfl rfl rfl rfl rfl (by kernel_rfl) Try.func8 (by kernel_rfl)
    (of_decide_eq_true (by kernel_rfl)) (by unfold Func.isWrapper; first | (rw [if_pos (by decide +kernel)]; kernel_rfl) | (rw [if_neg (by decide +kernel)]; exact ⟨rfl, rfl⟩))
    (fun os started H enc _ => lifted os started H enc)
#print axioms over
end Go.Proofs.Ytbnehcnimbkakaa.recordSameDone
