/-
  CanonLists, for all lists of instructions: All returns the canonical forms one by one, in memory of their own; the instructions that were given stay as they are; the law returns true, and its argument reads as it did.
  Conditions: none.
-/
import Derived.Test.YtbmgfkbgfgknbaaLsC
import Derived.Test.YtbmgfkbgfgknbaaCnE
import Derived.Test.YtbmgfkbgfgknbaaCnH
import Derived.Test.YtbmgfkbgfgknbaaCnU
import Derived.Test.YtbmgfkbgfgknbaaInS
import Derived.Test.YtbmgfkbgfgknbaaMixG
import Derived.Test.YtbmgfkbgfgknbaaRows
import Derived.ProofKit
import Derived.OpenShut
import Derived.Lay
import Derived.LaidOnce
import Derived.SevenTiedAt
import Derived.Below
namespace Go.Proofs.Ytbmgfkbgfgknbaa.canonListsDone
open Go.ChangeShapes Go.WideShapes Go.ChangeAt Go.RowKit
open Go.ChangeMaps (open_string shut_string)
set_option linter.unusedVariables false

theorem own : ownKnob Try.prog.godebug = none := by kernel_rfl
theorem laidOut : laidOutB Try.prog = true := by kernel_rfl
/-- A slice of integers that came in: nil, or a row of 'cap' cells that hold the numbers 'zs'. -/
def IsRow (k : IntKind) (w : World) (a : Option Addr) (len cap : Nat) (zs : List Int) : Prop :=
  (a = none ∧ len = 0 ∧ cap = 0 ∧ zs = []) ∨
  ∃ x, a = some x ∧ len ≤ cap ∧ cap ≤ maxLen ∧ zs.length = cap ∧ (∀ i, i < zs.length → w.cell? (x.add i) = some (.int k (zs.getD i 0))) ∧ ∀ n ∈ zs, (Lit.int k n).wf = true

attribute [local irreducible] Go.Mixed.wpMix
theorem alive_end (w : World) : Calls Try.prog 6 #[] w fun e w' => e = .returned (.bool true) ∧ Below w.heap.size w w' := alive_any w
set_option maxRecDepth 100000 in
set_option maxHeartbeats 16000000 in
theorem walk (A : Option Addr) (cap : Nat) (R : List Ie) (w : World) (hm : R.length ≤ maxLen) (H : InsP w A R) (hr : ∀ r ∈ R, r.s.size ≤ maxLen ∧ r.L.length ≤ maxLen) :
    Calls Try.prog 4 #[.slice A R.length cap] w fun e w' => e = .returned (.bool true) ∧ Below w.heap.size w w' := by
  have hm' := hm
  unfold maxLen at hm'
  have X := Lib.hid H
  have HR := Lib.hid hr
  obtain ⟨n, hn⟩ : ∃ n, R.length = n := ⟨_, rfl⟩
  have HN := Lib.hid hn
  rw [hn] at hm hm' ⊢
  clear H hr hn
  by_cases h30 : n ≤ 30
  · have g1 : ¬ (30 : Int) < (n : Int) := by omega
    have g2 : decide ((30 : Int) < (n : Int)) = false := decide_eq_false g1
    go_enter Try.func4, Try.ntmps4
    go_wp2
    clear g1 g2
    go_loopw [3, 16] (fun vo i wr => ∃ (k : Nat) (A1 : Option Addr) (cap1 : Nat) (R' : List Ie), k ≤ n ∧ i = .int .i64 k ∧ vo = .slice A1 k cap1 ∧ Hid (OwnE wr w.heap.size (.slice A1 k cap1) R') ∧ Hid (Alike R R' k) ∧ Hid (∀ j, j < k → ∀ h : j < R.length, R[j].L.length ≤ 20) ∧ Hid (Below w.heap.size w wr)) (fun _ i _ => n - (intOf i).toNat)
    case atStart => exact ⟨0, none, 0, [], Nat.zero_le _, rfl, rfl, ownE_nil _ _, ⟨rfl, fun j h h' => absurd h' (by simp)⟩, fun j hj => by omega, Below.refl _ _⟩
    case round =>
      obtain ⟨k, A1, cap1, R', hk, rfl, rfl, OE, AL, SH, B⟩ := hrel
      by_cases hlt : k < n
      · have hkR : k < R.length := by rw [HN.out]; exact hlt
        obtain ⟨b1, o1, hA1, p0, p1, hP⟩ := (X.out.below B.out).at_ hkR
        subst hA1
        obtain ⟨hs1, hs2⟩ := HR.out _ (List.getElem_mem hkR)
        have AM := Lib.hid (fun r h1 h2 => AL.out.more hkR r h1 h2)
        have SM : Hid (R[k].L.length ≤ 20 → ∀ j, j < k + 1 → ∀ h : j < R.length, R[j].L.length ≤ 20) := fun q j hj h => by
          by_cases e : j = k
          · subst e; exact q
          · exact SH.out j (by omega) h
        obtain ⟨⟨s, A2, c2, L2⟩, hr⟩ : ∃ r, R[k] = r := ⟨_, rfl⟩
        rw [hr] at p0 p1 hP hs1 hs2 AM SM
        simp only [Ie.v] at p0 p1 hP hs1 hs2 AM SM
        have hal : ∀ o, Below wr.heap.size wr (wr.alloc o) := fun o => (Below.refl _ _).alloc (Nat.le_refl _) o
        have SHT := fun (w' : World) => Lib.hid (short_any s hs1 A2 c2 L2.length hs2 w')
        obtain ⟨b, hb⟩ : ∃ b, (decide (s.size ≤ 100) && decide (L2.length ≤ 20)) = b := ⟨_, rfl⟩
        rw [hb] at SHT
        have HBb := Lib.hid hb
        have OE2 := fun o => Lib.hid (OE.out.below (hal o))
        have B2 := fun o => Lib.hid (B.out.alloc B.out.size o)
        have P2 := fun o => Lib.hid (hP.below (hal o))
        obtain ⟨n2, hn2⟩ : ∃ n2, L2.length = n2 := ⟨_, rfl⟩
        have T2 := Lib.hid (Bx.new wr s A2 n2 c2 24)
        have HN2 := Lib.hid hn2
        rw [hn2] at p1 SHT
        clear hkR hr hP hs1 hs2 hal hb hn2 OE B AL SH
        go_wp2_with fail
        refine (SHT _).out.mono ?_
        rintro e w2 ⟨rfl, hb⟩
        have OE3 := Lib.hid ((OE2 _).out.below hb)
        have P3 := Lib.hid ((P2 _).out.below hb)
        have B3 := Lib.hid ((B2 _).out.trans (hb.mono (B2 _).out.size))
        have T3 := Lib.hid (T2.out.all hb)
        clear hb OE2 P2 B2 T2 SHT p0 p1
        cases b with
        | false =>
          clear OE3 P3 T3 AM SM
          go_wp2_with fail
          refine (alive_end _).mono ?_
          rintro e w3 ⟨rfl, hb⟩
          have B4 := Lib.hid (B3.out.trans (hb.mono B3.out.size))
          clear hb
          go_wp2
          go_ret
          exact ⟨rfl, B4.out⟩
        | true =>
          have hl20 : L2.length ≤ 20 := by
            have := HBb.out
            rw [Bool.and_eq_true, decide_eq_true_eq, decide_eq_true_eq] at this
            exact this.2
          have SM := Lib.hid (SM.out hl20)
          go_upto_region 9 with fail
          obtain ⟨bx, hbx⟩ : ∃ bx, wr.heap.size = bx := ⟨_, rfl⟩
          rw [hbx] at T3 ⊢
          obtain ⟨w3, hw3⟩ : ∃ w3, w2.drew = w3 := ⟨_, rfl⟩
          have hd : Below w2.heap.size w2 w3 := by rw [← hw3]; exact below_drewN w2 _ 1
          have OE4 := Lib.hid (OE3.out.below hd)
          have P4 := Lib.hid (P3.out.below hd)
          have B4 := Lib.hid (B3.out.trans (hd.mono B3.out.size))
          have T4 := Lib.hid (T3.out.all hd)
          have SW : Hid (w.heap.size ≤ w3.heap.size) := B4.out.size
          obtain ⟨v4, w4, hrun, hO4, hb4⟩ := append_ops A2 c2 L2 (by omega) w3 P4.out
          obtain ⟨A4, c4, rfl, -, -⟩ := hO4.ops
          rw [HN2.out] at hrun hO4
          have OE5 := Lib.hid (OE4.out.below hb4)
          have T5 := Lib.hid (T4.out.all hb4)
          have B5 := Lib.hid (B4.out.trans (hb4.mono SW.out))
          have hO4' : OwnT w4 w.heap.size (.slice A4 n2 c4) L2 := hO4.lift SW.out
          have OT : OwnT w4 w.heap.size (Ie.v ⟨s, A4, c4, L2⟩) L2 := by simpa [Ie.v, HN2.out] using hO4'
          obtain ⟨v6, w6, hrun6, hOE6, hb6⟩ := run_appE w4 w.heap.size _ R' (by
            obtain ⟨A', c', e, -, -⟩ := OE5.out.ins
            simp only [Value.slice.injEq] at e
            omega) OE5.out ⟨s, A4, c4, L2⟩ OT B5.out.size
          obtain ⟨A6, c6, rfl, -, -⟩ := hOE6.ins
          have hlen : (R' ++ [(⟨s, A4, c4, L2⟩ : Ie)]).length = k + 1 := (AM.out ⟨s, A4, c4, L2⟩ rfl rfl).1
          rw [hlen] at hrun6 hOE6
          simp only [Ie.v, HN2.out] at hrun6
          have AM6 := Lib.hid (AM.out ⟨s, A4, c4, L2⟩ rfl rfl)
          have OE6 := Lib.hid hOE6
          have B6 := Lib.hid (B5.out.trans hb6)
          have K1 := Lib.hid hrun
          have K2 := Lib.hid hrun6
          have hz4 : bx < w4.heap.size := T5.out.lt
          have T6 : ∀ o, Hid (Bx (w4.alloc o) bx s A2 n2 c2) := fun o => T5.out.all ((Below.refl _ _).alloc (Nat.le_refl _) o)
          have T4a : ∀ o, Hid (Bx (w3.alloc o) bx s A2 n2 c2) := fun o => T4.out.all ((Below.refl _ _).alloc (Nat.le_refl _) o)
          refine Mixed.wp_region_mixed (fun w' => Bx w' bx s A2 n2 c2) 9 [(0, true), (1, true), (2, true), (4, true), (5, true), (3, false), (6, false), (7, true), (8, false)] (by kernel_rfl) (by kernel_rfl) (by rw [hw3]; exact T4.out) ?_
          rw [hw3]
          clear hw3 hd hrun hO4 hb4 hO4' OT hrun6 hOE6 hb6 hlen OE3 P3 B3 T3 OE4 P4 B4 OE5 B5 AM hz4 hbx
          refine Mixed.wpMix_pure rfl (by kernel_rfl) (.slice A1 k cap1) (fun w h => by clear h; go_simp; try rfl) ?_
          refine Mixed.wpMix_pure rfl (by kernel_rfl) (.pointer (some ⟨bx, 0, none⟩)) (fun w h => by clear h; go_simp; try rfl) ?_
          refine Mixed.wpMix_pure rfl (by kernel_rfl) (.string s) (fun w h => by obtain ⟨h1, h2⟩ := h; go_simp; try rfl) ?_
          refine Mixed.wpMix_pure rfl (by kernel_rfl) (.pointer (some ⟨bx, 1, none⟩)) (fun w h => by clear h; go_simp; try rfl) ?_
          refine Mixed.wpMix_pure rfl (by kernel_rfl) (.slice A2 n2 c2) (fun w h => by obtain ⟨h1, h2⟩ := h; go_simp; try rfl) ?_
          refine Mixed.wpMix_loudG rfl (by kernel_rfl) ?_
          have xx := fun o => (T4a o).out
          clear T4 T4a
          go_wp2
          refine ⟨xx _, ?_⟩
          clear xx
          refine Mixed.wpMix_loud rfl ?_
          have xx := T5.out
          refine wpList_run_append K1.out rfl _ _ rfl rfl rfl rfl ?_
          refine ⟨xx, ?_⟩
          clear xx K1
          refine Mixed.wpMix_pure rfl (by kernel_rfl) (.agg #[.string s, .slice A4 n2 c4]) (fun w h => by clear h; go_simp; try rfl) ?_
          refine Mixed.wpMix_loudG rfl (by kernel_rfl) ?_
          have xx := fun o => (T6 o).out
          clear T5 T6
          go_wp2
          refine ⟨xx _, ?_⟩
          clear xx
          simp only [Mixed.wpMix, List.drop_succ_cons, List.drop_zero]
          go_wp2_with (at_builtin; refine wpList_run_append K2.out rfl _ _ rfl rfl rfl rfl ?_)
          go_roundw
          case rel => exact ⟨k + 1, A6, c6, _, by omega, by go_num, rfl, OE6.out, AM6.out, SM.out, B6.out⟩
          case measure => simp [intOf]; omega
      · have hkn : k = n := by omega
        subst hkn
        obtain ⟨A1', c1', e1, hI, -⟩ := OE.out.ins
        have hRl := AL.out.1
        rw [hRl] at e1
        simp only [Value.slice.injEq] at e1
        obtain ⟨rfl, -, rfl⟩ := e1
        have ALL := Lib.hid (all_any A1 cap1 R' (by omega) (fun r hr => by
          obtain ⟨j, hj, rfl⟩ := List.getElem_of_mem hr
          have hj' : j < R.length := by rw [HN.out]; omega
          have h1 := (AL.out.2 j hj' hj).2
          have h2 := SH.out j (by omega) hj'
          rw [h1]; omega) wr hI)
        rw [hRl] at ALL
        have OI := Lib.hid hI
        have AE := Lib.hid AL.out.2
        have HRl := Lib.hid hRl
        clear hI hRl OE AL
        go_wp2_with fail
        refine ALL.out.mono ?_
        rintro e w2 ⟨rfl, vs, hRE, hOV, hDV, hb⟩
        obtain ⟨wq, hwq⟩ : ∃ x, x = wr := ⟨_, rfl⟩
        rw [← hwq] at hRE hOV hb OI B ALL ⊢
        have ST0 : Hid (St2 wq w2 k R' vs 0) := ⟨hRE, fun j _ hj => hOV j (by have := HRl.out; omega) hj, hb⟩
        have DV := Lib.hid hDV
        obtain ⟨rb, hrb⟩ : ∃ rb, wq.heap.size = rb := ⟨_, rfl⟩
        have HRB := Lib.hid hrb
        rw [hrb]
        clear hRE hOV hDV hb ALL hwq hrb hm hm' hk hlt
        go_wp2
        go_loopw [44] (fun i wr => ∃ j : Nat, j ≤ k ∧ i = .int .i64 j ∧ Hid (St2 wq wr k R' vs j)) (fun i _ => k - (intOf i).toNat)
        case atStart => exact ⟨0, Nat.zero_le _, rfl, ST0.out⟩
        case round =>
          clear ST0
          obtain ⟨j, hj, rfl, ST⟩ := hrel
          by_cases hlt : j < k
          · have hjR : j < R.length := by rw [HN.out]; exact hlt
            have hjR' : j < R'.length := by rw [HRl.out]; exact hlt
            have BW : Hid (∀ wx, Below wq.heap.size wq wx → Below w.heap.size w wx) := fun wx h => B.out.trans (h.mono B.out.size)
            obtain ⟨b1, o1, hA1, p0, p1, hP⟩ := (X.out.below B.out).at_ hjR
            subst hA1
            obtain ⟨b2, o2, hA2, q0, q1, hP2⟩ := OI.out.at_ hjR'
            subst hA2
            have hal : ∀ o, Below wr.heap.size wr (wr.alloc o) := fun o => (Below.refl _ _).alloc (Nat.le_refl _) o
            obtain ⟨r0, r1⟩ := ST.out.cells HRl.out j hlt
            obtain ⟨e1, e2⟩ := AE.out j hjR hjR'
            have hl20 := SH.out j hlt hjR
            have OV := ST.out.2.1 j (Nat.le_refl _) hjR'
            have hcan : canE R'[j] = canL (opc R[j].s) R[j].L := by unfold canE; rw [e1, e2]
            rw [hcan] at OV
            rw [e1] at r0 q0
            have hql : R'[j].v = .slice R'[j].A R[j].L.length R'[j].cap := by unfold Ie.v; rw [e2]
            rw [hql] at q1
            rw [e2] at hP2
            obtain ⟨⟨s, A2, c2, L2⟩, hr⟩ : ∃ r, R[j] = r := ⟨_, rfl⟩
            rw [hr] at p0 p1 hP r0 q0 q1 hP2 OV hl20
            simp only [Ie.v] at p0 p1 hP r0 q0 q1 hP2 OV hl20
            obtain ⟨Ao, hAo⟩ : ∃ x, R'[j].A = x := ⟨_, rfl⟩
            obtain ⟨co, hco⟩ : ∃ x, R'[j].cap = x := ⟨_, rfl⟩
            rw [hAo, hco] at q1
            rw [hAo] at hP2
            obtain ⟨n2, hn2⟩ : ∃ n2, L2.length = n2 := ⟨_, rfl⟩
            have HN2 := Lib.hid hn2
            rw [hn2] at p1 q1
            have RD : Hid (∀ wx, Below wq.heap.size wq wx → (wx.cell? ⟨b1, o1 + j * 2, none⟩ = some (.string s) ∧ wx.cell? ⟨b1, o1 + j * 2 + 1, none⟩ = some (.slice A2 n2 c2)) ∧ (wx.cell? ⟨b2, o2 + j * 2, none⟩ = some (.string s) ∧ wx.cell? ⟨b2, o2 + j * 2 + 1, none⟩ = some (.slice Ao n2 co)) ∧ OpsP wx A2 L2 ∧ OpsP wx Ao L2) := fun wx h => by
              have e : ∀ (p : Addr) (v : Value), wq.cell? p = some v → wx.cell? p = some v := fun p v hp => (h.cell (World.block_lt_of_cell? wq _ hp)).trans hp
              exact ⟨⟨e _ _ p0, e _ _ p1⟩, ⟨e _ _ q0, e _ _ q1⟩, hP.below h, hP2.below h⟩
            clear p0 p1 q0 q1 hP hP2
            obtain ⟨⟨p0, p1⟩, -, -, -⟩ := RD.out _ ST.out.2.2
            obtain ⟨M, hM⟩ : ∃ M, canL (opc s) L2 = M := ⟨_, rfl⟩
            have hml := canL_len (opc s) L2
            obtain ⟨A9, c9, hv9, -, -, -⟩ := OV.ops
            have ROF := Lib.hid (fun w' h => rof_any s A2 c2 L2 (by omega) w' h)
            have SAM := Lib.hid (fun A1 A2 c1 c2 w' h1 h2 => same_any s A1 A2 c1 c2 M (by rw [← hM]; omega) w' h1 h2)
            have SAO := Lib.hid (fun A1 A2 c1 c2 w' h1 h2 => same_any s A1 A2 c1 c2 L2 (by omega) w' h1 h2)
            obtain ⟨n9, hn9⟩ : ∃ n9, M.length = n9 := ⟨_, rfl⟩
            have HN9 := Lib.hid hn9
            have hn9b : n9 ≤ 1000 := by rw [← hn9, ← hM]; omega
            have HV9 : Hid (vs j = .slice A9 n9 c9) := by rw [hv9, hM, hn9]; rfl
            rw [hM] at OV ROF
            rw [hM, hn9] at hv9
            rw [hn9] at SAM
            rw [hn2] at ROF SAO
            rw [hv9] at r1 OV
            have T2 := Lib.hid (Bx.new wr s A2 n2 c2 24)
            -- the facts in every world behind the one with the box
            obtain ⟨w2, hw2⟩ : ∃ x, wr.alloc (.cells #[.string s, .slice A2 n2 c2] 24) = x := ⟨_, rfl⟩
            have hb2 : Below wr.heap.size wr w2 := by rw [← hw2]; exact hal _
            rw [hw2] at T2
            obtain ⟨bx, hbx⟩ : ∃ bx, wr.heap.size = bx := ⟨_, rfl⟩
            rw [HRB.out] at r0 r1
            have BL : Hid (∀ wx, Below w2.heap.size w2 wx → (wx.cell? ⟨rb, j * 2, none⟩ = some (.string s) ∧ wx.cell? ⟨rb, j * 2 + 1, none⟩ = some (.slice A9 n9 c9)) ∧ (wx.cell? ⟨bx, 0, none⟩ = some (.string s) ∧ wx.cell? ⟨bx, 1, none⟩ = some (.slice A2 n2 c2)) ∧ (wx.cell? ⟨b2, o2 + j * 2, none⟩ = some (.string s) ∧ wx.cell? ⟨b2, o2 + j * 2 + 1, none⟩ = some (.slice Ao n2 co)) ∧ OpsP wx A9 M ∧ OpsP wx A2 L2 ∧ OpsP wx Ao L2) := fun wx h => by
              have hb : Below wr.heap.size wr wx := hb2.trans (h.mono hb2.size)
              have e : ∀ (p : Addr) (v : Value), wr.cell? p = some v → wx.cell? p = some v := fun p v hp => (hb.cell (World.block_lt_of_cell? wr _ hp)).trans hp
              have t := T2.out.all h
              rw [hbx] at t
              obtain ⟨A9', c9', e9, hP9, -⟩ := (OV.below hb).ops
              simp only [Value.slice.injEq] at e9
              obtain ⟨-, d1, d2, d3⟩ := RD.out wx (ST.out.2.2.trans (hb.mono ST.out.2.2.size))
              refine ⟨⟨e _ _ r0, e _ _ r1⟩, t, d1, ?_, d2, d3⟩
              rw [e9.1]; exact hP9
            have STB : Hid (∀ wx, Below w2.heap.size w2 wx → St2 wq wx k R' vs j) := fun wx h => ST.out.below (hb2.trans (h.mono hb2.size))
            have hbxl : bx < w2.heap.size := by rw [← hbx]; exact T2.out.lt
            have GB : Hid (∀ g, (Value.slice A9 n9 c9).ownBlock = some g → rb + 1 ≤ g ∧ g < bx) := fun g hg => by
              have h1 := OV.blk g hg
              rw [HRB.out, hbx] at h1
              exact h1
            have OV2 : Hid (OwnS w2 (rb + 1) (.slice A9 n9 c9) M) := by rw [← HRB.out]; exact OV.below hb2
            go_wp2
            try rw [hw2]
            try rw [hbx]
            clear hw2 hb2 hal hr hAo hco hM hn2 hn9 hv9 hml hjR hjR' e1 e2 hcan hql hl20 OV r0 r1 p0 p1 ST T2
            obtain ⟨w3, hw3⟩ : ∃ w3, w2.drew = w3 := ⟨_, rfl⟩
            have BB3 : Hid (Below w2.heap.size w2 w3) := by rw [← hw3]; exact below_drewN w2 _ 1
            refine Mixed.wp_region_mixed (fun w' => Below w2.heap.size w2 w') 16 [(0, true), (1, true), (2, true), (3, true), (4, true), (5, false), (6, false), (7, true), (8, true), (9, true), (10, true), (11, true), (12, true), (13, true), (14, false), (15, true)] (by kernel_rfl) (by kernel_rfl) (by rw [hw3]; exact BB3.out) ?_
            rw [hw3]
            clear hw3
            refine Mixed.wpMix_pure rfl (by kernel_rfl) (.slice (some ⟨rb, 0, none⟩) k k) (fun w h => by clear h; go_simp; try rfl) ?_
            refine Mixed.wpMix_pure rfl (by kernel_rfl) (.int .i64 j) (fun w h => by clear h; go_simp; try rfl) ?_
            refine Mixed.wpMix_pure rfl (by kernel_rfl) (.pointer (some ⟨rb, j * 2, none⟩)) (fun w h => by clear h; go_simp; try rfl) ?_
            refine Mixed.wpMix_pure rfl (by kernel_rfl) (.agg #[.string s, .slice A9 n9 c9]) (fun w h => by obtain ⟨⟨h1, h2⟩, -, -, -⟩ := BL.out w h; clear h; go_simp; try rfl) ?_
            refine Mixed.wpMix_pure rfl (by kernel_rfl) (.agg #[.string s, .slice A2 n2 c2]) (fun w h => by obtain ⟨-, ⟨h1, h2⟩, -, -⟩ := BL.out w h; clear h; go_simp; try rfl) ?_
            refine Mixed.wpMix_loudG rfl (by kernel_rfl) ?_
            go_wp2_with fail
            refine (ROF.out _ (BL.out _ BB3.out).2.2.2.2.1).mono ?_
            rintro e w4 ⟨v, rfl, hO, hb⟩
            obtain ⟨A8, c8, rfl, hP8, -, -⟩ := hO.ops
            rw [HN9.out]
            have P8 := Lib.hid hP8
            have BB4 := Lib.hid (BB3.out.trans (hb.mono BB3.out.size))
            have xx := BB4.out
            clear hO hb hP8 BB3 ROF
            go_wp2
            refine ⟨xx, ?_⟩
            clear xx
            refine Mixed.wpMix_loudG rfl (by kernel_rfl) ?_
            go_wp2_with fail
            refine (SAM.out A9 A8 c9 c8 _ (BL.out _ BB4.out).2.2.2.1 P8.out).mono ?_
            rintro e w5 ⟨rfl, hb⟩
            have BB5 := Lib.hid (BB4.out.trans (hb.mono BB4.out.size))
            have xx := BB5.out
            clear hb BB4 P8 SAM
            go_wp2
            refine ⟨xx, ?_⟩
            clear xx
            refine Mixed.wpMix_pure rfl (by kernel_rfl) (.bool false) (fun w h => by clear h; go_simp; try rfl) ?_
            refine Mixed.wpMix_pure rfl (by kernel_rfl) (.bool false) (fun w h => by clear h; go_simp; try rfl) ?_
            refine Mixed.wpMix_pure rfl (by kernel_rfl) (.slice (some ⟨b2, o2, none⟩) k cap1) (fun w h => by clear h; go_simp; try rfl) ?_
            refine Mixed.wpMix_pure rfl (by kernel_rfl) (.int .i64 j) (fun w h => by clear h; go_simp; try rfl) ?_
            refine Mixed.wpMix_pure rfl (by kernel_rfl) (.pointer (some ⟨b2, o2 + j * 2, none⟩)) (fun w h => by clear h; go_simp; try rfl) ?_
            refine Mixed.wpMix_pure rfl (by kernel_rfl) (.agg #[.string s, .slice Ao n2 co]) (fun w h => by obtain ⟨-, -, ⟨h1, h2⟩, -⟩ := BL.out w h; clear h; go_simp; try rfl) ?_
            refine Mixed.wpMix_pure rfl (by kernel_rfl) (.agg #[.string s, .slice A2 n2 c2]) (fun w h => by obtain ⟨-, ⟨h1, h2⟩, -, -⟩ := BL.out w h; clear h; go_simp; try rfl) ?_
            refine Mixed.wpMix_loudG rfl (by kernel_rfl) ?_
            go_wp2_with fail
            refine (SAO.out Ao A2 co c2 _ (BL.out _ BB5.out).2.2.2.2.2 (BL.out _ BB5.out).2.2.2.2.1).mono ?_
            rintro e w6 ⟨rfl, hb⟩
            have BB6 := Lib.hid (BB5.out.trans (hb.mono BB5.out.size))
            have xx := BB6.out
            clear hb BB5
            go_wp2
            refine ⟨xx, ?_⟩
            clear xx
            refine Mixed.wpMix_pure rfl (by kernel_rfl) (.bool false) (fun w h => by clear h; go_simp; try rfl) ?_
            simp only [Mixed.wpMix, List.drop_succ_cons, List.drop_zero]
            obtain ⟨⟨k0, k1⟩, -, -, -⟩ := BL.out _ BB6.out
            have ST6 := Lib.hid (STB.out _ BB6.out).next
            have OV6 : Hid (OwnS w6 (rb + 1) (.slice A9 n9 c9) M) := OV2.out.below BB6.out
            have BX6 : Hid (Bx w6 bx s A2 n2 c2) := (BL.out _ BB6.out).2.1
            have LM : Hid (M.length = n9) := HN9.out
            go_wp2
            clear k0 k1
            go_loopw [72] (fun i wr => ∃ (m : Nat) (M' : List Tr), m ≤ n9 ∧ i = .int .i64 m ∧ Hid (M'.length = n9) ∧ Hid (OwnS wr (rb + 1) (.slice A9 n9 c9) M') ∧ Hid (St2 wq wr k R' vs (j + 1)) ∧ Hid (Bx wr bx s A2 n2 c2)) (fun i _ => n9 - (intOf i).toNat)
            case atStart => exact ⟨0, M, Nat.zero_le _, rfl, LM.out, OV6.out, ST6.out, BX6.out⟩
            case round =>
              clear OV6 ST6 BX6 LM
              obtain ⟨m, M', hm, rfl, LM, OV7, ST7, BX7⟩ := hrel
              obtain ⟨kk0, kk1⟩ := ST7.out.cells HRl.out j hlt
              rw [HRB.out] at kk1
              rw [HV9.out] at kk1
              clear kk0
              by_cases hlm : m < n9
              · have hmM : m < M'.length := by rw [LM.out]; exact hlm
                obtain ⟨g, off, cc, hA, hlc, hcm, hRo⟩ := OV7.out.nonnil (by omega)
                rw [LM.out] at hA hlc
                simp only [Value.slice.injEq] at hA
                obtain ⟨rfl, -, rfl⟩ := hA
                obtain ⟨-, -, p2⟩ := hRo.at_ m hmM
                have fz := hRo.frozen (off + m * 3 + 2)
                obtain ⟨hg1, hg2⟩ := GB.out g rfl
                have hgb : g ≠ bx := by omega
                obtain ⟨⟨z0, z1, z2⟩, hz⟩ : ∃ z, M'[m] = z := ⟨_, rfl⟩
                rw [hz] at p2
                simp only at p2
                have PUT : Hid (∀ x : Int, OwnS (wr.setCell ⟨g, off + m * 3 + 2, none⟩ (.int .i64 x)) (rb + 1) (.slice (some ⟨g, off, none⟩) n9 c9) (M'.set m (z0, z1, x)) ∧ St2 wq (wr.setCell ⟨g, off + m * 3 + 2, none⟩ (.int .i64 x)) k R' vs (j + 1) ∧ Bx (wr.setCell ⟨g, off + m * 3 + 2, none⟩ (.int .i64 x)) bx s A2 n2 c2 ∧ (M'.set m (z0, z1, x)).length = n9) := fun x => by
                  have h3 := hRo.put (L' := M'.set m (z0, z1, x)) (m * 3 + 2) (.int .i64 x) (cells_set M' m _ _ x hmM (by rw [hz]) (by rw [hz])).symm
                  rw [← Nat.add_assoc] at h3
                  have hln : (M'.set m (z0, z1, x)).length = n9 := by rw [List.length_set]; exact LM.out
                  have hbk : (wr.setCell ⟨g, off + m * 3 + 2, none⟩ (.int .i64 x)).heap[bx]? = wr.heap[bx]? := heap_setCell_other wr ⟨g, off + m * 3 + 2, none⟩ bx _ hgb.symm
                  have hc : ∀ o, (wr.setCell ⟨g, off + m * 3 + 2, none⟩ (.int .i64 x)).cell? ⟨bx, o, none⟩ = wr.cell? ⟨bx, o, none⟩ := fun o => World.cell?_of_block hbk
                  refine ⟨.inr ⟨g, off, c9, by rw [hln], by rw [hln]; exact hlc, hcm, h3⟩, ST7.out.put HRl.out DV.out hlt (by rw [HV9.out]; rfl) (by rw [HRB.out]; exact hg1) _ _, ⟨(hc 0).trans BX7.out.1, (hc 1).trans BX7.out.2⟩, hln⟩
                clear hz hmM hRo hlc hcm hg1 hg2 hgb LM OV7 ST7 BX7
                go_wp2
                go_roundw
                case rel => exact ⟨m + 1, _, by omega, by go_num, (PUT.out _).2.2.2, (PUT.out _).1, (PUT.out _).2.1, (PUT.out _).2.2.1⟩
                case measure => simp [intOf]; omega
              · clear kk1
                obtain ⟨-, dq, dp, dpo⟩ := RD.out _ ST7.out.2.2
                have DL : Hid (∀ wx, Below wr.heap.size wr wx → (wx.cell? ⟨b2, o2 + j * 2, none⟩ = some (.string s) ∧ wx.cell? ⟨b2, o2 + j * 2 + 1, none⟩ = some (.slice Ao n2 co)) ∧ wx.cell? ⟨bx, 0, none⟩ = some (.string s) ∧ wx.cell? ⟨bx, 1, none⟩ = some (.slice A2 n2 c2)) := fun wx h => by
                  obtain ⟨-, d1, -, -⟩ := RD.out wx (ST7.out.2.2.trans (h.mono ST7.out.2.2.size))
                  exact ⟨d1, BX7.out.all h⟩
                have SB : Hid (∀ wx, Below wr.heap.size wr wx → St2 wq wx k R' vs (j + 1)) := fun wx h => ST7.out.below h
                have PA := Lib.hid dp
                have PO := Lib.hid dpo
                clear dq dp dpo LM OV7 ST7 BX7
                go_wp2
                obtain ⟨w3, hw3⟩ : ∃ w3, wr.drew = w3 := ⟨_, rfl⟩
                have BB3 : Hid (Below wr.heap.size wr w3) := by rw [← hw3]; exact below_drewN wr _ 1
                refine Mixed.wp_region_mixed (fun w' => Below wr.heap.size wr w') 6 [(0, true), (1, true), (2, true), (3, true), (4, true), (5, false)] (by kernel_rfl) (by kernel_rfl) (by rw [hw3]; exact BB3.out) ?_
                rw [hw3]
                clear hw3
                refine Mixed.wpMix_pure rfl (by kernel_rfl) (.slice (some ⟨b2, o2, none⟩) k cap1) (fun w h => by clear h; go_simp; try rfl) ?_
                refine Mixed.wpMix_pure rfl (by kernel_rfl) (.int .i64 j) (fun w h => by clear h; go_simp; try rfl) ?_
                refine Mixed.wpMix_pure rfl (by kernel_rfl) (.pointer (some ⟨b2, o2 + j * 2, none⟩)) (fun w h => by clear h; go_simp; try rfl) ?_
                refine Mixed.wpMix_pure rfl (by kernel_rfl) (.agg #[.string s, .slice Ao n2 co]) (fun w h => by obtain ⟨⟨h1, h2⟩, -⟩ := DL.out w h; clear h; go_simp; try rfl) ?_
                refine Mixed.wpMix_pure rfl (by kernel_rfl) (.agg #[.string s, .slice A2 n2 c2]) (fun w h => by obtain ⟨-, h1, h2⟩ := DL.out w h; clear h; go_simp; try rfl) ?_
                refine Mixed.wpMix_loudG rfl (by kernel_rfl) ?_
                go_wp2_with fail
                refine (SAO.out Ao A2 co c2 _ (PO.out.below BB3.out) (PA.out.below BB3.out)).mono ?_
                rintro e w6 ⟨rfl, hb⟩
                have BB6 := Lib.hid (BB3.out.trans (hb.mono BB3.out.size))
                have xx := BB6.out
                have ST6 := Lib.hid (SB.out _ BB6.out)
                clear hb BB3 PA PO SB DL
                go_wp2
                refine ⟨xx, ?_⟩
                clear xx
                simp only [Mixed.wpMix, List.drop_succ_cons, List.drop_zero]
                go_wp2
                go_roundw
                case rel => exact ⟨j + 1, by omega, by go_num, ST6.out⟩
                case measure => simp [intOf]; omega
          · go_wp2_with fail
            refine (alive_end _).mono ?_
            rintro e w5 ⟨rfl, hb⟩
            have hB5 := B.out.trans (ST.out.2.2.mono B.out.size)
            have B6 := Lib.hid (hB5.trans (hb.mono hB5.size))
            clear hb hB5
            go_wp2
            go_ret
            exact ⟨rfl, B6.out⟩
  · have g1 : (30 : Int) < (n : Int) := by omega
    have g2 : decide ((30 : Int) < (n : Int)) = true := decide_eq_true g1
    clear X HR
    go_enter Try.func4, Try.ntmps4
    go_wp2_with fail
    refine (alive_end _).mono ?_
    rintro e w2 ⟨rfl, hb⟩
    have B2 := Lib.hid hb
    clear hb
    go_wp2
    go_ret
    exact ⟨rfl, B2.out⟩

set_option maxRecDepth 100000 in
theorem lifted (os : Os) (started : os.Started) (H : Type) (enc : TypeId × Value → H) :
    ReturnsInHanded {} Try.checked os 4 .any (Rows.canonListsSpec.pre6 enc Try.prog Try.f4 Rows.canonListsRow.domain false) (Rows.canonListsSpec.post enc Try.prog Try.f4 false true false false) := by
  refine returnsInHanded_of_change (C := Try.checked) own started (by kernel_rfl) Try.func4
    (ChangeSpec.witness6 (enc := enc) (C := Try.checked) false ⟨#[], #[.slice none 0 0], []⟩ 8 (by kernel_rfl) (by kernel_rfl) (by kernel_rfl) (by kernel_rfl)) ?_
  intro W base args ds gs before hval0 hW _ _
  have hval : ∀ (j : Nat) t v, Try.f4.params[j]? = some t → args[j]? = some v → Value.okWide Try.prog W .any base t v := hval0
  have hW' := hW
  obtain ⟨p, q, hA0, hV, rfl, _, _⟩ := hW
  have hA : DataW.TrodAll enc Try.prog W 0 (fun _ => true) true Try.f4.params.toList args.toList ds p := hA0
  rw [Try.params4] at hA hval
  obtain ⟨v0, vs0, d0, ds0, p0, q0, hargs, rfl, rfl, h0, r0⟩ := trodAll_cons hA
  obtain ⟨rfl, rfl, rfl⟩ := trodAll_nil r0
  obtain rfl : args = #[v0] := by cases args; simp_all
  obtain ⟨rfl, rfl⟩ := trodVars_none hV
  have k0 := h0
  have lt0 : ∀ x ∈ p0, x.block < W.heap.size := by obtain ⟨m, hm⟩ := k0; exact DataW.trod_lt m _ _ _ hm
  obtain ⟨a0, len0, cap0, rfl⟩ := okWide_slice Try.underlying30 (hval 0 30 v0 rfl rfl)
  obtain ⟨z0, hz0, hm0, w0, c0⟩ : ∃ xs, len0 = xs.length ∧ len0 ≤ maxLen ∧ InsP W a0 xs ∧ ∀ r ∈ xs, r.s.size ≤ maxLen ∧ r.L.length ≤ maxLen := by
    obtain ⟨fuel, hf⟩ := h0
    have hf' : DataW.trod enc Try.prog W 0 (fun _ => true) true fuel 30 [.slice a0 len0 cap0] = some (d0, p0) := by simpa [Value.cells] using hf
    obtain ⟨A, len, cap, xs, e1, e2, e3, e4, e5⟩ := open_inss hf'
    simp only [Value.slice.injEq] at e1
    obtain ⟨rfl, rfl, rfl⟩ := e1
    exact ⟨xs, e2, e3, e4, e5⟩
  subst hz0
  clear hA0 hval0
  refine (walk a0 cap0 z0 W hm0 w0 c0).mono fun e W' ⟨he, bel⟩ => ?_
  subst he
  exact ⟨_, rfl, _, _, _, [], _, [], hW', trodAll_mk1 (shut_bool Try.underlying4 _), (trodAll_cons_mk (Below.trod laidOut (by kernel_rfl) (of_decide_eq_true (by kernel_rfl)) k0 bel lt0) trodAll_mk0), rfl, bel.frame _, fun h => by cases h⟩

theorem over : Rows.CanonListsSaid :=
  OpenClaim.holds_of_wide 4 Try.f4 rfl rfl rfl rfl rfl rfl rfl ⟨rfl, rfl, rfl, rfl, rfl⟩ rfl rfl rfl rfl rfl (by kernel_rfl) Try.func4 (by kernel_rfl)
    (of_decide_eq_true (by kernel_rfl)) (by unfold Func.isWrapper; first | (rw [if_pos (by decide +kernel)]; kernel_rfl) | (rw [if_neg (by decide +kernel)]; exact ⟨rfl, rfl⟩))
    (fun os started H enc _ => lifted os started H enc)
#print axioms over
end Go.Proofs.Ytbmgfkbgfgknbaa.canonListsDone
