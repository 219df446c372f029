/-
  InstrWith, for all instructions and numbers: With returns the instruction of the reference, or false; with its own numbers an instruction stays the same; the law returns true, and its arguments read as they did.
  Conditions: none.
-/
import Derived.Test.YthpaamekpfhkjaaDoorInZ
import Derived.Test.YthpaamekpfhkjaaDoorInI
import Derived.Test.YthpaamekpfhkjaaDoorMixG
import Derived.Test.YthpaamekpfhkjaaDoorCards
import Derived.Test.YthpaamekpfhkjaaDoorTie
import Derived.ProofKit
import Derived.OpenShut
import Derived.Lay
import Derived.LaidOnce
import Derived.SevenTiedAt
import Derived.Below
namespace Go.Proofs.YthpaamekpfhkjaaDoor.instrWithDone
open Go.ChangeShapes Go.WideShapes Go.ChangeAt Go.RowKit
open Go.ChangeMaps (open_string shut_string)
set_option linter.unusedVariables false

theorem own : ownKnob Tryd.prog.godebug = none := by kernel_rfl
theorem laidOut : laidOutB Tryd.prog = true := by kernel_rfl
/-- A slice of integers that came in: nil, or a row of 'cap' cells that hold the numbers 'zs'. -/
def IsRow (k : IntKind) (w : World) (a : Option Addr) (len cap : Nat) (zs : List Int) : Prop :=
  (a = none ∧ len = 0 ∧ cap = 0 ∧ zs = []) ∨
  ∃ x, a = some x ∧ len ≤ cap ∧ cap ≤ maxLen ∧ zs.length = cap ∧ (∀ i, i < zs.length → w.cell? (x.add i) = some (.int k (zs.getD i 0))) ∧ ∀ n ∈ zs, (Lit.int k n).wf = true

theorem ints_of_row {w : World} {a : Option Addr} {len cap : Nat} {zs : List Int} (h : IsRow .i64 w a len cap zs) : len = (zs.take len).length ∧ IntsAt w a (zs.take len) := by
  rcases h with ⟨rfl, rfl, rfl, rfl⟩ | ⟨x, rfl, hl, hm, hz, hcell, hwz⟩
  · exact ⟨rfl, .inl rfl⟩
  · have hlen : len = (zs.take len).length := by simp; omega
    refine ⟨hlen, ?_⟩
    by_cases h0 : len = 0
    · subst h0; exact .inl rfl
    · obtain ⟨b, off, spot⟩ := x
      have hc := hcell 0 (by omega)
      have hspot : spot = none := by simpa [Addr.add] using World.cell?_spot hc
      subst hspot
      refine .inr ⟨b, off, rfl, fun j hj => ?_⟩
      have hj' : j < zs.length := by rw [← hlen] at hj; omega
      have h1 := hcell j hj'
      have e : (⟨b, off, none⟩ : Addr).add j = ⟨b, off + j, none⟩ := by
        by_cases h0 : j = 0
        · subst h0; simp [Addr.add]
        · simp [Addr.add, h0]
      rw [e] at h1
      rw [h1]
      simp [List.getD_eq_getElem?_getD, List.getElem?_eq_getElem hj']
theorem row_cap {k : IntKind} {w : World} {a : Option Addr} {len cap : Nat} {zs : List Int} (h : IsRow k w a len cap zs) : len ≤ cap ∧ cap ≤ maxLen := by
  rcases h with ⟨_, rfl, rfl, _⟩ | ⟨x, _, hl, hm, _⟩
  · exact ⟨Nat.le_refl _, Nat.zero_le _⟩
  · exact ⟨hl, hm⟩
theorem rowcap {w : World} {base : Nat} {e : TypeId} {size n cap : Nat} {A : Option Addr} {xs : List Value} (h : w.ownsRow base e size (.slice A n cap) n xs) : cap ≤ maxLen := by
  rcases h.2 with ⟨h1, _⟩ | ⟨g, cap', cur, h1, _, _, _, hm, _⟩
  · simp only [Value.slice.injEq] at h1
    obtain ⟨_, _, rfl⟩ := h1
    exact Nat.zero_le _
  · simp only [Value.slice.injEq] at h1
    obtain ⟨_, _, rfl⟩ := h1
    exact hm
theorem OwnT.opsA {w : World} {b n cap : Nat} {A : Option Addr} {L : List Tr} (h : OwnT w b (.slice A n cap) L) : OpsP w A L := by
  obtain ⟨A', cap', e, hP, -⟩ := h.ops
  simp only [Value.slice.injEq] at e
  obtain ⟨rfl, -, -⟩ := e
  exact hP
theorem Rz.keep {w w' : World} {b : Nat} (h : Rz w b) (hb : Below w.heap.size w w') : Rz w' b := (hb.block _ (Array.getElem?_eq_some_iff.1 h).1).trans h
attribute [local irreducible] Go.Mixed.wpMix
set_option maxRecDepth 100000 in
set_option maxHeartbeats 8000000 in
theorem walk (s : ByteArray) (A : Option Addr) (cap : Nat) (L : List Tr) (a1 : Option Addr) (len1 cap1 : Nat) (z1 : List Int) (w : World) (hs : s.size ≤ maxLen) (hL : L.length ≤ maxLen) (H : OpsP w A L) (R1 : IsRow .i64 w a1 len1 cap1 z1) :
    Calls Tryd.prog 5 #[.agg #[.string s, .slice A L.length cap], .slice a1 len1 cap1] w fun e w' => e = .returned (.bool true) ∧ Below w.heap.size w w' := by
  obtain ⟨hz, HI⟩ := ints_of_row R1
  obtain ⟨hc2, hc3⟩ := row_cap R1
  obtain ⟨ns, hns⟩ : ∃ ns, z1.take len1 = ns := ⟨_, rfl⟩
  rw [hns] at hz HI
  clear hns R1
  have hm63 : cap1 ≤ 9223372036854775807 := by unfold maxLen at hc3; omega
  have SH := Lib.hid (short_any s hs A cap L.length hL)
  have X := Lib.hid H
  have I := Lib.hid HI
  obtain ⟨n, hn⟩ : ∃ n, L.length = n := ⟨_, rfl⟩
  have HN := Lib.hid hn
  have HZ := Lib.hid hz
  rw [hn] at hL SH ⊢
  have T0 := Lib.hid (Bx.new w s A n cap 24)
  have B0 : Hid (Below w.heap.size w (w.alloc (.cells #[.string s, .slice A n cap] 24))) := (Below.refl _ _).alloc (Nat.le_refl _) _
  obtain ⟨t0, t1⟩ := T0.out
  clear H HI hn hz
  go_enter Tryd.func5, Tryd.ntmps5
  go_wp2_with fail
  refine (SH.out _).mono ?_
  rintro e w1 ⟨rfl, h1⟩
  have T1 := Lib.hid (T0.out.all h1)
  have B1 := Lib.hid (B0.out.trans (h1.mono B0.out.size))
  clear h1 T0 B0 t0 t1 SH
  by_cases hsh : s.size ≤ 100 ∧ n ≤ 20
  · obtain ⟨hs1, hn1⟩ := hsh
    rw [decide_eq_true hs1, decide_eq_true hn1]
    by_cases hm : len1 ≤ 20
    · have hm1 : ¬ (20 : Int) < (len1 : Int) := by omega
      have hm2 : decide ((20 : Int) < (len1 : Int)) = false := decide_eq_false hm1
      have WI := Lib.hid (fun w' h h' => ret_n (with_any s A cap L a1 cap1 ns hs (by rw [HN.out]; omega) (by rw [← HZ.out]; omega) (by rw [← HZ.out]; exact hc2) hc3 w' h h'))
      have RW := Lib.hid (fun w' h h' => ret_n (rwith_any s A cap L a1 cap1 ns (by rw [HN.out]; omega) (by rw [← HZ.out]; omega) w' h h'))
      have RC := Lib.hid (fun w' h => rcheck_any s A cap L (by rw [HN.out]; omega) w' h)
      have NB := Lib.hid (fun w' h => numbers_any s A cap L (by rw [HN.out]; omega) w' h)
      have hql : (numsL L).length ≤ 20 := by have := nums_le L; rw [HN.out] at this; omega
      have WO := Lib.hid (fun w' A6 cap6 h1 h2 h h' => ret_n (with_any s A cap L A6 cap6 (numsL L) hs (by rw [HN.out]; omega) (by omega) h1 h2 w' h h'))
      have OW := Lib.hid (ok_own s L)
      have SM := Lib.hid (fun A1 A2 c1 c2 w' h1 h2 => same_any (sW s L ns) A1 A2 c1 c2 (lW s L ns) (lW_le s L ns 1000 (by rw [HN.out]; omega)) w' h1 h2)
      have SI := Lib.hid (fun A1 A2 c1 c2 w' h1 h2 => same_any s A1 A2 c1 c2 L (by rw [HN.out]; omega) w' h1 h2)
      rw [HN.out, ← HZ.out] at WI RW
      rw [HN.out] at RC NB WO SI
      obtain ⟨q, hq⟩ : ∃ q, (numsL L).length = q := ⟨_, rfl⟩
      have HQ := Lib.hid hq
      rw [hq] at WO
      obtain ⟨ok, hok⟩ : ∃ ok, okW s L ns = ok := ⟨_, rfl⟩
      obtain ⟨sx, hsx⟩ : ∃ sx, sW s L ns = sx := ⟨_, rfl⟩
      obtain ⟨lx, hlx⟩ : ∃ lx, lW s L ns = lx := ⟨_, rfl⟩
      rw [hok, hsx, hlx] at WI RW
      rw [hsx, hlx] at SM
      have SWO : Hid (okW s L (numsL L) = true → sW s L (numsL L) = s ∧ lW s L (numsL L) = L) := fun h => ⟨by unfold sW; rw [h]; rfl, by unfold lW; rw [h, with_own]; rfl⟩
      obtain ⟨oo, hoo⟩ : ∃ oo, okW s L (numsL L) = oo := ⟨_, rfl⟩
      obtain ⟨so, hso⟩ : ∃ so, sW s L (numsL L) = so := ⟨_, rfl⟩
      obtain ⟨lo, hlo⟩ : ∃ lo, lW s L (numsL L) = lo := ⟨_, rfl⟩
      rw [hoo, hso, hlo] at WO SWO
      rw [hoo] at OW
      obtain ⟨r, hr⟩ : ∃ r, lx.length = r := ⟨_, rfl⟩
      obtain ⟨p, hp⟩ : ∃ p, lo.length = p := ⟨_, rfl⟩
      rw [hr] at WI RW SM
      rw [hp] at WO
      have HP := Lib.hid hp
      obtain ⟨c, hc⟩ : ∃ c, codeI s L = c := ⟨_, rfl⟩
      rw [hc] at RC OW
      clear hok hsx hlx hoo hso hlo hr hp hc hq hql
      have P1 := Lib.hid (X.out.below B1.out)
      have I1 := Lib.hid (I.out.below B1.out)
      obtain ⟨t0, t1⟩ := T1.out
      go_wp2_with fail
      refine (WI.out _ P1.out I1.out).mono ?_
      rintro e w2 ⟨A2, cap2, rfl, hO2, h2⟩
      have hal2 : Below w2.heap.size w2 (w2.alloc (.cells #[.string sx, .slice A2 r cap2] 24)) := (Below.refl _ _).alloc (Nat.le_refl _) _
      have hbb := h2.trans (hal2.mono h2.size)
      have T3 := Lib.hid (T1.out.all hbb)
      have P3 := Lib.hid (P1.out.below hbb)
      have I3 := Lib.hid (I1.out.below hbb)
      have B3 := Lib.hid (B1.out.trans (hbb.mono B1.out.size))
      have OA := Lib.hid (hO2.below hal2)
      have TA := Lib.hid (Bx.new w2 sx A2 r cap2 24)
      have LA : Hid (w2.heap.size < (w2.alloc (.cells #[.string sx, .slice A2 r cap2] 24)).heap.size) := by simp [Hid]
      clear h2 hal2 hbb hO2 T1 P1 I1 B1 t0 t1 WI
      obtain ⟨t0, t1⟩ := T3.out
      go_wp2_with fail
      refine (RW.out _ P3.out I3.out).mono ?_
      rintro e w4 ⟨A4, cap4, rfl, hO4, h4⟩
      obtain ⟨w5, hw5⟩ : ∃ w5, w4.alloc (.cells #[.string sx, .slice A4 r cap4] 24) = w5 := ⟨_, rfl⟩
      have hal4 : Below w4.heap.size w4 w5 := by rw [← hw5]; exact (Below.refl _ _).alloc (Nat.le_refl _) _
      have hbb := h4.trans (hal4.mono h4.size)
      have T5 := Lib.hid (T3.out.all hbb)
      have P5 := Lib.hid (P3.out.below hbb)
      have B5 := Lib.hid (B3.out.trans (hbb.mono B3.out.size))
      have OB := Lib.hid (hO4.below hal4)
      have OC := Lib.hid (OA.out.below hbb)
      have TC := Lib.hid (TA.out.all hbb)
      have TB : Hid (Bx w5 w4.heap.size sx A4 r cap4) := by rw [← hw5]; exact Bx.new w4 sx A4 r cap4 _
      clear h4 hal4 hbb hO4 T3 P3 I3 B3 t0 t1 RW OA TA LA I X
      go_wp2
      clear hw5
      go_upto_region 5 with fail
      go_cut [9, 10] (fun p9 b10 wx => ∃ b9 A9 cap9, p9 = .pointer (some ⟨b9, 0, none⟩) ∧ b10 = .bool oo ∧ Hid (Bx wx b9 so A9 p cap9) ∧ Hid (OpsP wx A9 lo) ∧ Hid (Below w5.heap.size w5 wx))
      case first =>
        have HP : Hid (∀ wx, wx = w5.drew ∨ wx = w5.drew.alloc (.cells #[.string ⟨#[]⟩, .slice none 0 0] 24) → OpsP wx A L ∧ OpsP wx A L ∧ Below w5.heap.size w5 wx) := by
          rintro wx (rfl | rfl)
          · exact ⟨P5.out.below (below_drewN _ _ 1), P5.out.below (below_drewN _ _ 1), below_drewN _ _ 1⟩
          · exact ⟨P5.out.below ((below_drewN _ _ 1).alloc (by simp) _), P5.out.below ((below_drewN _ _ 1).alloc (by simp) _), (below_drewN _ _ 1).alloc (by simp) _⟩
        have HP2 : Hid (∀ w6 A6, Below w5.heap.size w5 w6 → IntsAt w6 A6 (numsL L) → ∀ wx, wx = w6 ∨ wx = w6.alloc (.cells #[.string ⟨#[]⟩, .slice none 0 0] 24) → OpsP wx A L ∧ IntsAt wx A6 (numsL L) ∧ Below w5.heap.size w5 wx) := by
          rintro w6 A6 hb hi wx (rfl | rfl)
          · exact ⟨P5.out.below hb, hi, hb⟩
          · exact ⟨P5.out.below (hb.alloc hb.size _), hi.below ((Below.refl _ _).alloc (Nat.le_refl _) _), hb.alloc hb.size _⟩
        have KC : Hid (∀ wx, Below w5.heap.size w5 wx → Bx wx w.heap.size s A n cap) := fun wx hb => T5.out.all hb
        have KQ : Hid (∀ wx w6, wx = w5.drew.alloc (.cells #[.string ⟨#[]⟩, .slice none 0 0] 24) → Below wx.heap.size wx w6 → Rz w6 w5.heap.size) := by
          rintro wx w6 rfl hb
          exact (hb.block _ (by simp)).trans (heap_alloc_new w5.drew _)
        have KQ2 : Hid (∀ {w6 : World} wx w7, wx = w6.alloc (.cells #[.string ⟨#[]⟩, .slice none 0 0] 24) → Below wx.heap.size wx w7 → Rz w7 w6.heap.size) := by
          rintro w6 wx w7 rfl hb
          exact (hb.block _ (by simp)).trans (heap_alloc_new w6 _)
        obtain ⟨t0, t1⟩ := T5.out
        go_region_held3 (fun w' => w'.cell? ⟨w.heap.size, 0, none⟩ = some (.string s) ∧ w'.cell? ⟨w.heap.size, 1, none⟩ = some (.slice A n cap)) (first | exact KC.out _ (below_drewN _ _ 1) | exact KC.out _ ((below_drewN _ _ 1).alloc (by simp) _) | exact KC.out _ HB7 | exact KC.out _ (HB7.alloc HB7.size _) | exact KC.out _ ((HB7.setCell (p := ⟨w5.heap.size, 0, none⟩) (Nat.le_refl _) _).setCell (p := ⟨w5.heap.size, 1, none⟩) (Nat.le_refl _) _) | exact KC.out _ ((HB7.setCell (p := ⟨w6.heap.size, 0, none⟩) HB6.size _).setCell (p := ⟨w6.heap.size, 1, none⟩) HB6.size _) | exact KC.out _ HB6 | exact KC.out _ (HB6.alloc HB6.size _)) ((first | (go_at_call 14; refine (NB.out _ (HP.out _ (.inr rfl)).1).mono ?_; rintro e w6 ⟨v6, rfl, hI6⟩; obtain ⟨A6, cap6, rfl, hA6, hc6⟩ := hI6.ints; rw [HQ.out] at hc6 ⊢; have HB6 := ((HP.out _ (.inr rfl)).2.2).trans (hI6.2.mono (HP.out _ (.inr rfl)).2.2.size); have hc7 := rowcap hI6.1; have IH6 := Lib.hid hA6; have CC := Lib.hid (And.intro hc6 hc7); have RZ6 := KQ.out _ _ rfl hI6.2; have HP6 := HP2.out w6 A6 HB6 hA6) | (go_at_call 14; refine (NB.out _ (HP.out _ (.inl rfl)).1).mono ?_; rintro e w6 ⟨v6, rfl, hI6⟩; obtain ⟨A6, cap6, rfl, hA6, hc6⟩ := hI6.ints; rw [HQ.out] at hc6 ⊢; have HB6 := ((HP.out _ (.inl rfl)).2.2).trans (hI6.2.mono (HP.out _ (.inl rfl)).2.2.size); have hc7 := rowcap hI6.1; have IH6 := Lib.hid hA6; have CC := Lib.hid (And.intro hc6 hc7); have HP6 := HP2.out w6 A6 HB6 hA6) | (go_at_call 25; refine (WO.out _ A6 cap6 CC.out.1 CC.out.2 (HP6 _ (.inr rfl)).1 (HP6 _ (.inr rfl)).2.1).mono ?_; rintro e w7 ⟨A9, cap9, rfl, hO9, h7⟩; have HB7 := ((HP6 _ (.inr rfl)).2.2).trans (h7.mono (HP6 _ (.inr rfl)).2.2.size); have RZ7 := KQ2.out _ _ rfl h7; obtain ⟨q0, q1, q2, q3⟩ := RZ7.cells; have zz := HB6.size) | (go_at_call 25; refine (WO.out _ A6 cap6 CC.out.1 CC.out.2 (HP6 _ (.inl rfl)).1 (HP6 _ (.inl rfl)).2.1).mono ?_; rintro e w7 ⟨A9, cap9, rfl, hO9, h7⟩; have HB7 := ((HP6 _ (.inl rfl)).2.2).trans (h7.mono (HP6 _ (.inl rfl)).2.2.size); have RZ7 := Rz.keep RZ6 h7; obtain ⟨q0, q1, q2, q3⟩ := RZ7.cells) | (go_at_call 25; refine (WO.out _ A6 cap6 CC.out.1 CC.out.2 (HP6 _ (.inl rfl)).1 (HP6 _ (.inl rfl)).2.1).mono ?_; rintro e w7 ⟨A9, cap9, rfl, hO9, h7⟩; have HB7 := ((HP6 _ (.inl rfl)).2.2).trans (h7.mono (HP6 _ (.inl rfl)).2.2.size))))
        all_goals
          go_wp2
          go_meet
          first
            | exact ⟨w7.heap.size, A9, cap9, rfl, rfl, Bx.new w7 so A9 p cap9 _, (OwnT.opsA hO9).below ((Below.refl _ _).alloc (Nat.le_refl _) _), HB7.alloc HB7.size _⟩
            | exact ⟨w6.heap.size, A9, cap9, rfl, rfl, (RZ7.done so (.slice A9 p cap9)).cells, OwnT.opsA (row_set (row_set hO9 (p := ⟨w6.heap.size, 0, none⟩) (by simp) _) (p := ⟨w6.heap.size, 1, none⟩) (by simp) _), (HB7.setCell (p := ⟨w6.heap.size, 0, none⟩) HB6.size _).setCell (p := ⟨w6.heap.size, 1, none⟩) HB6.size _⟩
            | exact ⟨w5.heap.size, A9, cap9, rfl, rfl, (RZ7.done so (.slice A9 p cap9)).cells, OwnT.opsA (row_set (row_set hO9 (p := ⟨w5.heap.size, 0, none⟩) (by have := hI6.2.size; simp at this; simp; omega) _) (p := ⟨w5.heap.size, 1, none⟩) (by have := hI6.2.size; simp at this; simp; omega) _), (HB7.setCell (p := ⟨w5.heap.size, 0, none⟩) (Nat.le_refl _) _).setCell (p := ⟨w5.heap.size, 1, none⟩) (Nat.le_refl _) _⟩
      case rest =>
        clear WO NB
        obtain ⟨b9, A9, cap9, rfl, rfl, T9, P9, B9⟩ := hcut
        have T0 := Lib.hid (T5.out.all B9.out)
        have TA := Lib.hid (TC.out.all B9.out)
        have TD := Lib.hid (TB.out.all B9.out)
        have PA := Lib.hid ((OwnT.opsA OC.out).below B9.out)
        have PB := Lib.hid ((OwnT.opsA OB.out).below B9.out)
        have PI := Lib.hid (P5.out.below B9.out)
        have BB := Lib.hid (B5.out.trans (B9.out.mono B5.out.size))
        clear T5 TC TB OC OB P5 B5 B9
        obtain ⟨t0, t1⟩ := T0.out
        go_wp2_with fail
        refine (RC.out _ PI.out).mono ?_
        rintro e x1 ⟨rfl, hb⟩
        have T0 := Lib.hid (T0.out.all hb)
        have TA := Lib.hid (TA.out.all hb)
        have TD := Lib.hid (TD.out.all hb)
        have T9 := Lib.hid (T9.out.all hb)
        have PA := Lib.hid (PA.out.below hb)
        have PB := Lib.hid (PB.out.below hb)
        have PI := Lib.hid (PI.out.below hb)
        have P9 := Lib.hid (P9.out.below hb)
        have BB := Lib.hid (BB.out.trans (hb.mono BB.out.size))
        clear hb t0 t1 RC
        go_upto_region 7 with fail
        by_cases hc : c = 0
        · have ho : oo = true := by rw [OW.out]; exact decide_eq_true hc
          subst ho
          obtain ⟨rfl, rfl⟩ := SWO.out rfl
          subst hc
          obtain rfl : n = p := HN.out.symm.trans HP.out
          go_wp2_with fail
          refine (alive_any _).mono ?_
          rintro e xx ⟨rfl, hb⟩
          have T0 := Lib.hid (T0.out.all hb)
          have TA := Lib.hid (TA.out.all hb)
          have TD := Lib.hid (TD.out.all hb)
          have T9 := Lib.hid (T9.out.all hb)
          have PA := Lib.hid (PA.out.below hb)
          have PB := Lib.hid (PB.out.below hb)
          have PI := Lib.hid (PI.out.below hb)
          have P9 := Lib.hid (P9.out.below hb)
          have BB := Lib.hid (BB.out.trans (hb.mono BB.out.size))
          clear hb
          obtain ⟨a0, a1'⟩ := TA.out
          obtain ⟨d0, d1⟩ := TD.out
          go_wp2_with fail
          refine (SM.out A2 A4 cap2 cap4 _ PA.out PB.out).mono ?_
          rintro e xx ⟨rfl, hb⟩
          have T0 := Lib.hid (T0.out.all hb)
          have TA := Lib.hid (TA.out.all hb)
          have TD := Lib.hid (TD.out.all hb)
          have T9 := Lib.hid (T9.out.all hb)
          have PA := Lib.hid (PA.out.below hb)
          have PB := Lib.hid (PB.out.below hb)
          have PI := Lib.hid (PI.out.below hb)
          have P9 := Lib.hid (P9.out.below hb)
          have BB := Lib.hid (BB.out.trans (hb.mono BB.out.size))
          clear hb
          clear a0 a1' d0 d1
          obtain ⟨a0, a1'⟩ := T0.out
          obtain ⟨d0, d1⟩ := T9.out
          go_wp2_with fail
          refine (SI.out A9 A cap9 cap _ P9.out PI.out).mono ?_
          rintro e xx ⟨rfl, hb⟩
          have T0 := Lib.hid (T0.out.all hb)
          have TA := Lib.hid (TA.out.all hb)
          have TD := Lib.hid (TD.out.all hb)
          have T9 := Lib.hid (T9.out.all hb)
          have PA := Lib.hid (PA.out.below hb)
          have PB := Lib.hid (PB.out.below hb)
          have PI := Lib.hid (PI.out.below hb)
          have P9 := Lib.hid (P9.out.below hb)
          have BB := Lib.hid (BB.out.trans (hb.mono BB.out.size))
          clear hb
          go_wp2
          go_ret
          exact ⟨rfl, BB.out⟩
        · have ho : oo = false := by rw [OW.out]; exact decide_eq_false hc
          have hc2 : (c == 0) = false := beq_eq_false_iff_ne.2 hc
          subst ho
          go_wp2_with fail
          refine (alive_any _).mono ?_
          rintro e xx ⟨rfl, hb⟩
          have T0 := Lib.hid (T0.out.all hb)
          have TA := Lib.hid (TA.out.all hb)
          have TD := Lib.hid (TD.out.all hb)
          have T9 := Lib.hid (T9.out.all hb)
          have PA := Lib.hid (PA.out.below hb)
          have PB := Lib.hid (PB.out.below hb)
          have PI := Lib.hid (PI.out.below hb)
          have P9 := Lib.hid (P9.out.below hb)
          have BB := Lib.hid (BB.out.trans (hb.mono BB.out.size))
          clear hb
          obtain ⟨a0, a1'⟩ := TA.out
          obtain ⟨d0, d1⟩ := TD.out
          go_wp2_with fail
          refine (SM.out A2 A4 cap2 cap4 _ PA.out PB.out).mono ?_
          rintro e xx ⟨rfl, hb⟩
          have T0 := Lib.hid (T0.out.all hb)
          have TA := Lib.hid (TA.out.all hb)
          have TD := Lib.hid (TD.out.all hb)
          have T9 := Lib.hid (T9.out.all hb)
          have PA := Lib.hid (PA.out.below hb)
          have PB := Lib.hid (PB.out.below hb)
          have PI := Lib.hid (PI.out.below hb)
          have P9 := Lib.hid (P9.out.below hb)
          have BB := Lib.hid (BB.out.trans (hb.mono BB.out.size))
          clear hb
          clear a0 a1' d0 d1
          go_wp2
          go_ret
          exact ⟨rfl, BB.out⟩
    · have hm1 : (20 : Int) < (len1 : Int) := by omega
      have hm2 : decide ((20 : Int) < (len1 : Int)) = true := decide_eq_true hm1
      go_wp2_with fail
      refine (alive_any _).mono ?_
      rintro e w2 ⟨rfl, h2⟩
      have B2 := Lib.hid (B1.out.trans (h2.mono B1.out.size))
      clear h2
      go_wp2
      go_ret
      exact ⟨rfl, B2.out⟩
  · have E : (decide (s.size ≤ 100) && decide (n ≤ 20)) = false := by
      rw [← Bool.not_eq_true, Bool.and_eq_true, decide_eq_true_eq, decide_eq_true_eq]
      exact hsh
    rw [E]
    clear E
    go_wp2_with fail
    refine (alive_any _).mono ?_
    rintro e w2 ⟨rfl, h2⟩
    have B2 := Lib.hid (B1.out.trans (h2.mono B1.out.size))
    clear h2
    go_wp2
    go_ret
    exact ⟨rfl, B2.out⟩

set_option maxRecDepth 100000 in
theorem lifted (os : Os) (started : os.Started) (H : Type) (enc : TypeId × Value → H) :
    ReturnsInHanded {} Tryd.checked os 5 .any (fun w args => (Rows.instrWithSpec.pre enc Tryd.prog Tryd.f5 [] false w args ∧ laidMetH Tryd.prog Rows.instrWithRow.laid w) ∧ sizedMet enc Tryd.prog Tryd.f5 (OpenSpec.ofChange Rows.instrWithSpec) false w args)
      (Rows.instrWithSpec.post enc Tryd.prog Tryd.f5 false true false false) := by
  refine returnsInHanded_of_change_and (C := Tryd.checked) (X := fun w _ => laidMetH Tryd.prog Rows.instrWithRow.laid w) (fun _ _ _ hh h => h.of_heap hh) own started (by kernel_rfl) Tryd.func5
    (ChangeSpec.witness_shaped (enc := enc) (C := Tryd.checked) (os := os) (X := fun w _ => laidMetH Tryd.prog Rows.instrWithRow.laid w) false (World.laidAll Tryd.prog os Rows.instrWithRow.laid) #[.agg #[.string ⟨#[]⟩, .slice none 0 0], .slice none 0 0] 8 (World.laidAll_os _ _ _)
      (World.shaped_of_ZipB (by kernel_rfl) (by kernel_rfl)) (by kernel_rfl) (by kernel_rfl) (by kernel_rfl)
      (by rw [MakeChecks.laidMetH_plain _ _ _ (by kernel_rfl)]; exact laidMet_laidAll _ (by kernel_rfl) (by kernel_rfl))) ?_
  intro W base args ds gs before hval0 hW _ _ hL _
  have hval : ∀ (j : Nat) t v, Tryd.f5.params[j]? = some t → args[j]? = some v → Value.okWide Tryd.prog W .any base t v := hval0
  have hW' := hW
  obtain ⟨p, q, hA0, hV, rfl, _, _⟩ := hW
  have hA : DataW.TrodAll enc Tryd.prog W 0 (fun _ => true) true Tryd.f5.params.toList args.toList ds p := hA0
  rw [Tryd.params5] at hA hval
  obtain ⟨v0, vs0, d0, ds0, p0, q0, hargs, rfl, rfl, h0, r0⟩ := trodAll_cons hA
  obtain ⟨v1, vs1, d1, ds1, p1, q1, rfl, rfl, rfl, h1, r1⟩ := trodAll_cons r0
  obtain ⟨rfl, rfl, rfl⟩ := trodAll_nil r1
  obtain rfl : args = #[v0, v1] := by cases args; simp_all
  obtain ⟨rfl, rfl⟩ := trodVars_none hV
  have k0 := h0
  have lt0 : ∀ x ∈ p0, x.block < W.heap.size := by obtain ⟨m, hm⟩ := k0; exact DataW.trod_lt m _ _ _ hm
  obtain ⟨s0, a0, cap0, z0, rfl, c0, hm0, w0⟩ := open_ins (hval 0 24 v0 rfl rfl) h0
  obtain ⟨a1, len1, cap1, rfl⟩ := okWide_slice Tryd.underlying32 (hval 1 32 v1 rfl rfl)
  have k1 := h1
  have lt1 : ∀ x ∈ p1, x.block < W.heap.size := by obtain ⟨m, hm⟩ := k1; exact DataW.trod_lt m _ _ _ hm
  obtain ⟨z1, w1⟩ : ∃ zs, IsRow .i64 W a1 len1 cap1 zs := by
    obtain ⟨fuel, hf⟩ := h1
    rcases open_ints Tryd.underlying32 Tryd.underlying3 (by kernel_rfl) hf with ⟨hcs, _⟩ | ⟨x, l, c, zs, hcs, _, hl, hm, hz, _, hcell, hwz⟩
    · simp [Value.cells] at hcs
      obtain ⟨rfl, rfl, rfl⟩ := hcs
      exact ⟨[], .inl ⟨rfl, rfl, rfl, rfl⟩⟩
    · simp [Value.cells] at hcs
      obtain ⟨rfl, rfl, rfl⟩ := hcs
      exact ⟨zs, .inr ⟨_, rfl, hl, hm, by simpa using hz, hcell, hwz⟩⟩
  clear hA0 hval0
  refine (walk s0 a0 cap0 z0 a1 len1 cap1 z1 W c0 hm0 w0 w1).mono fun e W' ⟨he, bel⟩ => ?_
  subst he
  exact ⟨_, rfl, _, _, _, [], _, [], hW', trodAll_mk1 (shut_bool Tryd.underlying4 _), (trodAll_cons_mk (Below.trod laidOut (by kernel_rfl) (of_decide_eq_true (by kernel_rfl)) k0 bel lt0) (trodAll_cons_mk (Below.trod laidOut (by kernel_rfl) (of_decide_eq_true (by kernel_rfl)) k1 bel lt1) trodAll_mk0)), rfl, bel.frame _, fun h => by cases h⟩

theorem over : Rows.InstrWithSaid :=
  OpenClaim.holds_of_wide 5 Tryd.f5 rfl rfl rfl rfl rfl rfl rfl ⟨rfl, rfl, rfl, rfl, rfl⟩ rfl rfl rfl rfl rfl (by kernel_rfl) Tryd.func5 (by kernel_rfl)
    (of_decide_eq_true (by kernel_rfl)) (by unfold Func.isWrapper; first | (rw [if_pos (by decide +kernel)]; kernel_rfl) | (rw [if_neg (by decide +kernel)]; exact ⟨rfl, rfl⟩))
    (fun os started H enc _ => lifted os started H enc)
theorem card_holds : Rows.InstrWithCardSaid :=
  Claim7.holds_tied_plain_at .later [] [.data, .pinned] true Rows.instrWithCard.stood.harness false over (fun _ h => by cases h) (by kernel_rfl) (fun _ h => by cases h) instrWith_row_tie rfl ⟨rfl, rfl⟩ (by kernel_rfl) rfl
    (fun f fn hf hfn => by
      obtain rfl : f = 5 := Option.some.inj ((show Tryd.prog.funcNamed Tryd.f5.name = some 5 by kernel_rfl).symm.trans hf) |>.symm
      obtain rfl : fn = Tryd.f5 := (Option.some.inj (Tryd.func5.symm.trans hfn)).symm
      exact ⟨by kernel_rfl, fun j t ht => by
        rw [Tryd.params5] at ht
        have hm : t ∈ [24, 32] := by simpa [or_assoc, or_comm, or_left_comm] using Array.mem_of_getElem? ht
        have hall : ([24, 32].all fun u => !Tryd.prog.wantsStandIn u) = true := by kernel_rfl
        exact (show Tryd.prog.wantsStandIn t = false by simpa using List.all_eq_true.1 hall t hm)⟩)
    (by kernel_rfl)
#print axioms card_holds
end Go.Proofs.YthpaamekpfhkjaaDoor.instrWithDone
