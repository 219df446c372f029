/-
  The walk over With: for every instruction and all numbers the instruction with these numbers in new memory and true, or nothing and false.
-/
import Derived.Test.YthpaamekpfhkjaaDoorInP
import Derived.Test.YthpaamekpfhkjaaDoorInG
import Derived.Deep.DeepCutAuto
import Derived.Deep.Cut
import Derived.StillTail
import Derived.StillTailTactics
namespace Go.Proofs.YthpaamekpfhkjaaDoor
open Go.RowKit
set_option linter.unusedVariables false
attribute [local irreducible] Go.Mixed.wpMix

/-- The block of a result: an empty instruction. -/
def Rz (w : World) (b : Nat) : Prop := w.heap[b]? = some (.cells #[.string ⟨#[]⟩, .slice none 0 0] 24 (0, 0))
/-- The block of an instruction of the call's own. -/
def Ri (w : World) (b : Nat) (s : ByteArray) (v : Value) : Prop := w.heap[b]? = some (.cells #[.string s, v] 24 (0, 0))
theorem Rz.cells {w : World} {b : Nat} (h : Rz w b) : w.cell? ⟨b, 0, none⟩ = some (.string ⟨#[]⟩) ∧ w.cell? ⟨b, 1, none⟩ = some (.slice none 0 0) ∧ w.frozen? ⟨b, 0, none⟩ = false ∧ w.frozen? ⟨b, 1, none⟩ = false :=
  ⟨by rw [Lib.cell_of_heap h]; rfl, by rw [Lib.cell_of_heap h]; rfl, Lib.frozen_of_heap h 0, Lib.frozen_of_heap h 1⟩
theorem Ri.cells {w : World} {b : Nat} {s : ByteArray} {v : Value} (h : Ri w b s v) : w.cell? ⟨b, 0, none⟩ = some (.string s) ∧ w.cell? ⟨b, 1, none⟩ = some v :=
  ⟨by rw [Lib.cell_of_heap h]; rfl, by rw [Lib.cell_of_heap h]; rfl⟩
/-- The result's block when both cells are written. -/
theorem Rz.set {w : World} {b : Nat} (h : Rz w b) (s : ByteArray) (v : Value) : ((w.setCell ⟨b, 0, none⟩ (.string s)).setCell ⟨b, 1, none⟩ v).cell? ⟨b, 0, none⟩ = some (.string s) ∧ ((w.setCell ⟨b, 0, none⟩ (.string s)).setCell ⟨b, 1, none⟩ v).cell? ⟨b, 1, none⟩ = some v := by
  obtain ⟨h0, h1, -, -⟩ := h.cells
  exact ⟨by simp [go_sem, h0], by simp [go_sem, h1]⟩
theorem Rz.done {w : World} {b : Nat} (h : Rz w b) (s : ByteArray) (v : Value) : Ri ((w.setCell ⟨b, 0, none⟩ (.string s)).setCell ⟨b, 1, none⟩ v) b s v := by
  have h1 := heap_setCell_same w b 0 _ _ (.string s) h
  have h2 := heap_setCell_same (w.setCell ⟨b, 0, none⟩ (.string s)) b 1 _ _ v h1
  exact h2
theorem OwnT.form {w : World} {b : Nat} {v : Value} {L : List Tr} (h : OwnT w b v L) (h0 : 0 < L.length) : ∃ g cap, v = .slice (some ⟨g, 0, none⟩) L.length cap ∧ b ≤ g ∧ (∃ cur, w.heap[g]? = some (.cells cur 36 (0, 0))) ∧
    (∀ j (hj : j < L.length), w.cell? ⟨g, j * 3, none⟩ = some (.int .i64 L[j].1) ∧ w.cell? ⟨g, j * 3 + 1, none⟩ = some (.int .i64 L[j].2.1) ∧ w.cell? ⟨g, j * 3 + 2, none⟩ = some (.int .i64 L[j].2.2)) ∧ ∀ j, w.frozen? ⟨g, j, none⟩ = false := by
  rcases h.2 with ⟨_, h1⟩ | ⟨g, cap, cur, rfl, hb, hg, _⟩
  · omega
  · refine ⟨g, cap, rfl, hb, ⟨cur, hg⟩, fun j hj => ?_, fun j => World.ownsRow.frozenAt h j⟩
    obtain ⟨h1, h2, h3⟩ := cellsT_at L j hj
    exact ⟨(World.ownsRow.cellAt h _ (by omega)).trans h1, (World.ownsRow.cellAt h _ (by omega)).trans h2, (World.ownsRow.cellAt h _ (by omega)).trans h3⟩
theorem OwnT.put {w : World} {b g cap n : Nat} {L L' : List Tr} (h : OwnT w b (.slice (some ⟨g, 0, none⟩) n cap) L) (hn : L.length = n) (hn' : L'.length = n) (j : Nat) (u : Value) (e : (cellsT L).set j u = cellsT L') : OwnT (w.setCell ⟨g, j, none⟩ u) b (.slice (some ⟨g, 0, none⟩) n cap) L' := by
  unfold OwnT at h ⊢
  rw [hn] at h
  rw [hn', ← e]
  exact (World.ownsRow.stored h j u).1
theorem Ri.apart {w : World} {b g : Nat} {s : ByteArray} {v : Value} {cur : Array Value} (h : Ri w b s v) (hg : w.heap[g]? = some (.cells cur 36 (0, 0))) : g ≠ b := by
  rintro rfl
  rw [show w.heap[g]? = _ from h] at hg
  simp at hg
theorem clone_n {A : Option Addr} {cap n : Nat} {L : List Tr} (h : ∀ w, OpsP w A L → Calls Tryd.prog 36 #[.slice A n cap] w (RetOwn w L)) (hn : L.length = n) (w : World) (H : OpsP w A L) :
    Calls Tryd.prog 36 #[.slice A n cap] w fun e w' => ∃ A3 cap3, e = .returned (.slice A3 n cap3) ∧ OwnT w' w.heap.size (.slice A3 n cap3) L ∧ Below w.heap.size w w' := by
  refine (h w H).mono ?_
  rintro e w' ⟨v, rfl, hO, hb⟩
  obtain ⟨A3, cap3, rfl, -, -⟩ := hO.ops
  rw [hn] at hO ⊢
  exact ⟨A3, cap3, rfl, hO, hb⟩
set_option maxRecDepth 100000 in
set_option maxHeartbeats 8000000 in
theorem with_any (s : ByteArray) (A : Option Addr) (cap : Nat) (L : List Tr) (A2 : Option Addr) (cap2 : Nat) (ns : List Int) (hs : s.size ≤ maxLen) (hL : L.length ≤ 1000) (hN : ns.length ≤ 1000) (hc2 : ns.length ≤ cap2) (hc3 : cap2 ≤ maxLen) (w : World) (H : OpsP w A L) (HI : IntsAt w A2 ns) :
    Calls Tryd.prog 25 #[.agg #[.string s, .slice A L.length cap], .slice A2 ns.length cap2] w (RetW w s L ns) := by
  have NB := Lib.hid (numbers_any s A cap L hL)
  have CLN := Lib.hid (cloneO_any A cap L hL)
  have OKL := Lib.hid (ok_len s L ns)
  have hml := mixL_len L ns
  obtain ⟨m, hm⟩ : ∃ m, ns.length = m := ⟨_, rfl⟩
  obtain ⟨q, hq⟩ : ∃ q, (numsL L).length = q := ⟨_, rfl⟩
  have HM := Lib.hid hm
  have HQ := Lib.hid hq
  rw [hm, hq] at OKL
  rw [hm] at hN hc2 ⊢
  obtain ⟨w0, hw0⟩ : ∃ w0, (w.alloc (.cells #[.string s, .slice A L.length cap] 24)).alloc (.cells #[.string ⟨#[]⟩, .slice none 0 0] 24) = w0 := ⟨_, rfl⟩
  have B0 : Hid (Below w.heap.size w w0) := by rw [← hw0]; exact ((Below.refl _ _).alloc (Nat.le_refl _) _).alloc (by simp) _
  have T0 : Hid (Bx w0 w.heap.size s A L.length cap) := by rw [← hw0]; exact ⟨by simp [go_sem], by simp [go_sem]⟩
  have Z0 : Hid (Rz w0 (w.heap.size + 1)) := by
    rw [← hw0]
    have := heap_alloc_new (w.alloc (.cells #[.string s, .slice A L.length cap] 24)) (.cells #[.string ⟨#[]⟩, .slice none 0 0] 24)
    show Rz _ _
    simpa [Rz] using this
  have S0 : Hid (w.heap.size + 2 ≤ w0.heap.size) := by rw [← hw0]; simp [Hid]
  have P0 := Lib.hid (H.below B0.out)
  have I0 := Lib.hid (HI.below B0.out)
  obtain ⟨n, hn⟩ : ∃ n, L.length = n := ⟨_, rfl⟩
  have HLn := Lib.hid hn
  rw [hn] at hL NB CLN T0 hw0 hml ⊢
  clear H HI hm hq hn
  go_enter Tryd.func25, Tryd.ntmps25
  go_upto_region 1 with fail
  clear hw0
  obtain ⟨t0, t1⟩ := T0.out
  go_wp2_with fail
  refine (NB.out _ P0.out).mono ?_
  rintro e w1 ⟨v, rfl, hI⟩
  obtain ⟨A', cap', rfl, -, -⟩ := hI.ints
  have B01 := Lib.hid hI.2
  have B1 := Lib.hid (B0.out.trans (hI.2.mono B0.out.size))
  have T1 := Lib.hid (T0.out.all hI.2)
  have Z1 : Hid (Rz w1 (w.heap.size + 1)) := (hI.2.block _ (by have := S0.out; omega)).trans Z0.out
  have P1 := Lib.hid (P0.out.below hI.2)
  have I1 := Lib.hid (I0.out.below hI.2)
  have S1 : Hid (w.heap.size + 2 ≤ w1.heap.size) := Nat.le_trans S0.out hI.2.size
  clear hI t0 t1 P0 I0 T0 Z0 S0 B0 B01 NB
  rw [HQ.out]
  by_cases hmq : m = q
  · have CL2 := Lib.hid (clone_n CLN.out HLn.out)
    clear OKL
    subst hmq
    go_upto_region 3 with fail
    go_cut [6] (fun p wx => ∃ b6 A3 cap3, p = .pointer (some ⟨b6, 0, none⟩) ∧ Hid (w1.heap.size ≤ b6) ∧ Hid (Ri wx b6 s (.slice A3 n cap3)) ∧ Hid (OwnT wx w1.heap.size (.slice A3 n cap3) L) ∧ Hid (Below w1.heap.size w1 wx))
    case first =>
      have HP : Hid (∀ wx, wx = w1.drew ∨ wx = w1.drew.alloc (.cells #[.string ⟨#[]⟩, .slice none 0 0] 24) → OpsP wx A L ∧ Below w1.heap.size w1 wx) := by
        rintro wx (rfl | rfl)
        · exact ⟨P1.out.below (below_drewN _ _ 1), below_drewN _ _ 1⟩
        · exact ⟨P1.out.below ((below_drewN _ _ 1).alloc (by simp) _), (below_drewN _ _ 1).alloc (by simp) _⟩
      have KC : Hid (∀ wx, Below w1.heap.size w1 wx → Bx wx w.heap.size s A n cap) := fun wx hb => T1.out.all hb
      have KQ : Hid (∀ wx w2, wx = w1.drew.alloc (.cells #[.string ⟨#[]⟩, .slice none 0 0] 24) → Below wx.heap.size wx w2 → Rz w2 w1.heap.size) := by
        rintro wx w2 rfl hb
        exact (hb.block _ (by simp)).trans (heap_alloc_new w1.drew _)
      have hz := T1.out.lt
      obtain ⟨t0, t1⟩ := T1.out
      go_region_held3 (fun w' => w'.cell? ⟨w.heap.size, 0, none⟩ = some (.string s) ∧ w'.cell? ⟨w.heap.size, 1, none⟩ = some (.slice A n cap)) (first | exact KC.out _ (below_drewN _ _ 1) | exact KC.out _ ((below_drewN _ _ 1).alloc (by simp) _) | exact KC.out _ HB2 | exact KC.out _ (HB2.alloc (HB2.size) _) | exact KC.out _ ((HB2.setCell (p := ⟨w1.heap.size, 0, none⟩) (Nat.le_refl _) _).setCell (p := ⟨w1.heap.size, 1, none⟩) (Nat.le_refl _) _)) (first | (go_at_call 36; refine (CL2.out _ (HP.out _ (.inr rfl)).1).mono ?_; rintro e w2 ⟨A3, cap3, rfl, hO, h2⟩; have HB2 := ((HP.out _ (.inr rfl)).2).trans (h2.mono (by simp)); obtain ⟨k0, k1⟩ := KC.out _ HB2; have hz2 : w.heap.size ≠ w2.heap.size := (by have := HB2.size; omega); have RZ := KQ.out _ _ rfl h2; obtain ⟨q0, q1, q2, q3⟩ := RZ.cells) | (go_at_call 36; refine (CL2.out _ (HP.out _ (.inl rfl)).1).mono ?_; rintro e w2 ⟨A3, cap3, rfl, hO, h2⟩; have HB2 := ((HP.out _ (.inl rfl)).2).trans (h2.mono (by simp)); obtain ⟨k0, k1⟩ := KC.out _ HB2; have hz2 : w.heap.size ≠ w2.heap.size := (by have := HB2.size; omega)))
      all_goals
        go_wp2
        go_meet
        first
          | exact ⟨w2.heap.size, A3, cap3, rfl, HB2.size, heap_alloc_new w2 _, World.ownsRow.alloc hO _, HB2.alloc HB2.size _⟩
          | exact ⟨w1.heap.size, A3, cap3, rfl, Nat.le_refl _, RZ.done _ _, row_mono (row_set (row_set hO (p := ⟨w1.heap.size, 0, none⟩) (by simp) _) (p := ⟨w1.heap.size, 1, none⟩) (by simp) _) (by simp), (HB2.setCell (p := ⟨w1.heap.size, 0, none⟩) (Nat.le_refl _) _).setCell (p := ⟨w1.heap.size, 1, none⟩) (Nat.le_refl _) _⟩
    case rest =>
      clear CL2 CLN P1 T1
      obtain ⟨b6, A3, cap3, rfl, hb6, hri, hO, hB⟩ := hcut
      have M0 : Hid (OwnT wc w1.heap.size (.slice A3 n cap3) (mixL L ns 0)) := by rw [mixL_zero]; exact hO.out
      obtain ⟨x0, x1⟩ := hri.out.cells
      go_wp2
      clear hO x0 x1
      go_loopw [1, 25] (fun a i wr => ∃ (j : Nat) (A4 : Option Addr) (cap4 : Nat), j ≤ n ∧ i = .int .i64 j ∧ a = .slice A4 (m - cntK L j) cap4 ∧ Hid (m - cntK L j ≤ cap4 ∧ cap4 ≤ maxLen) ∧ Hid (IntsAt w1 A4 (ns.drop (cntK L j))) ∧ Hid (Ri wr b6 s (.slice A3 n cap3)) ∧ Hid (OwnT wr w1.heap.size (.slice A3 n cap3) (mixL L ns j)) ∧ Hid (Below w1.heap.size w1 wr)) (fun _ i _ => n - (intOf i).toNat)
      case atStart => exact ⟨0, A2, cap2, Nat.zero_le _, rfl, rfl, ⟨hc2, hc3⟩, I1.out, hri.out, M0.out, hB.out⟩
      case round =>
        clear M0 hri hB I1
        obtain ⟨j, A4, cap4, hj, rfl, rfl, hcp, hI, hri, hO, hB⟩ := hrel
        by_cases hlt : j < n
        · have hjL : j < L.length := by have := HLn.out; omega
          have hjm : j < (mixL L ns j).length := by rw [hml]; exact hlt
          obtain ⟨g, cap', hA3, hgb, ⟨cur, hcur⟩, hcl, hfz⟩ := hO.out.form (by omega)
          simp only [Value.slice.injEq] at hA3
          obtain ⟨rfl, -, -⟩ := hA3
          have hgne := hri.out.apart hcur
          obtain ⟨p0, p1, p2⟩ := hcl j hjm
          rw [mixL_at L ns j j hjL hjm, if_neg (by omega)] at p0 p1 p2
          have HV : Hid (nbT L[j] = nbB L[j].1) := rfl
          have CY := fun h => Lib.hid (cnt_yes L j hjL h)
          have CN := fun h => Lib.hid (cnt_no L j hjL h)
          have CT := fun h => Lib.hid (cnt_lt L j hjL h)
          have MN := fun h => Lib.hid (mixL_no L ns j hjL h)
          have MY : Hid (nbT L[j] = true → (cellsT (mixL L ns j)).set (j * 3 + 2) (.int .i64 (ns.getD (cntK L j) 0)) = cellsT (mixL L ns (j + 1))) := fun h => by
            rw [← mixL_yes L ns j hjL h]
            refine (cells_set (mixL L ns j) j L[j].1 L[j].2.1 _ hjm ?_ ?_).symm
            · rw [mixL_at L ns j j hjL hjm, if_neg (by omega)]
            · rw [mixL_at L ns j j hjL hjm, if_neg (by omega)]
          obtain ⟨vb, hvb⟩ : ∃ vb, nbT L[j] = vb := ⟨_, rfl⟩
          rw [hvb] at HV CY CN CT MN MY
          obtain ⟨⟨y0, y1, y2⟩, hy⟩ : ∃ y, L[j] = y := ⟨_, rfl⟩
          rw [hy] at p0 p1 p2 HV
          simp only at p0 p1 p2 HV
          have VV := Lib.hid (hasNumber_any y0 y1 y2)
          rw [← HV.out] at VV
          have hal : Below wr.heap.size wr (wr.alloc (.cells #[.int .i64 y0, .int .i64 y1, .int .i64 y2] 36)) := (Below.refl _ _).alloc (Nat.le_refl _) _
          have HAL := Lib.hid hal
          have HG := Lib.hid hgb
          have HGN := Lib.hid hgne
          clear hy hvb hjL hjm HV hal hgb hgne hcl hfz hcur cur cap'
          go_wp2_with fail
          refine (VV.out _).mono ?_
          rintro e w2 ⟨rfl, hb⟩
          have K2 := Lib.hid (HAL.out.trans (hb.mono HAL.out.size))
          have hri2 : Hid (Ri w2 b6 s (.slice (some ⟨g, 0, none⟩) n cap3)) := (K2.out.block _ (Array.getElem?_eq_some_iff.1 hri.out).1).trans hri.out
          have hO2 := Lib.hid (hO.out.below K2.out)
          have hB2 := Lib.hid (hB.out.trans (K2.out.mono hB.out.size))
          clear hb HAL VV p0 p1 p2 K2 hri hO hB
          cases vb with
          | false =>
            rw [(MN rfl).out] at hO2
            have HE := (CN rfl).out
            have hI2 : Hid (IntsAt w1 A4 (ns.drop (cntK L (j + 1)))) := by rw [HE]; exact hI.out
            have hcp2 : Hid (m - cntK L (j + 1) ≤ cap4 ∧ cap4 ≤ maxLen) := by rw [HE]; exact hcp.out
            rw [← HE]
            clear HE hI hcp
            go_wp2
            go_roundw
            case rel => exact ⟨j + 1, A4, cap4, by omega, by go_num, rfl, hcp2.out, hI2.out, hri2.out, hO2.out, hB2.out⟩
            case measure => simp [intOf]; omega
          | true =>
            have hcm := (CT rfl).out
            rw [HQ.out] at hcm
            have HE := (CY rfl).out
            have hx := MY.out rfl
            obtain ⟨z, hz⟩ : ∃ z, m - cntK L (j + 1) = z := ⟨_, rfl⟩
            have hz1 : m - cntK L j = z + 1 := by omega
            have hcl : 0 < (ns.drop (cntK L j)).length := by rw [List.length_drop, HM.out]; omega
            obtain ⟨b4, o4, hA4, hv⟩ := hI.out.at_ hcl
            subst hA4
            have hxe : (ns.drop (cntK L j))[0] = ns.getD (cntK L j) 0 := by
              rw [List.getElem_drop, List.getD_eq_getElem?_getD, List.getElem?_eq_getElem (by rw [HM.out]; omega)]
              simp
            rw [hxe, Nat.add_zero] at hv
            obtain ⟨x, hxx⟩ : ∃ x, ns.getD (cntK L j) 0 = x := ⟨_, rfl⟩
            rw [hxx] at hv hx
            have hI2 : Hid (IntsAt w1 (some ⟨b4, o4 + 1, none⟩) (ns.drop (cntK L (j + 1)))) := by
              rcases hI.out with h | ⟨b, off, h, hc⟩
              · rw [h] at hcl; simp at hcl
              · simp only [Option.some.injEq, Addr.mk.injEq, and_true] at h
                obtain ⟨rfl, rfl⟩ := h
                refine .inr ⟨_, _, rfl, fun k hk => ?_⟩
                have hk' : k + 1 < (ns.drop (cntK L j)).length := by rw [List.length_drop] at hk ⊢; omega
                have := hc (k + 1) hk'
                rw [Nat.add_assoc, Nat.add_comm 1 k, this]
                simp only [List.getElem_drop]
                congr 3
                omega
            have hcp1 : z + 1 ≤ cap4 := by have := hcp.out.1; rw [hz1] at this; exact this
            have hcp3 := hcp.out.2
            have hcp2 : Hid (m - cntK L (j + 1) ≤ cap4 - 1 ∧ cap4 - 1 ≤ maxLen) := by rw [hz]; exact ⟨by omega, by omega⟩
            have HZ := Lib.hid hz
            rw [hz1]
            have p2 : ∃ y, w2.drew.cell? ⟨g, j * 3 + 2, none⟩ = some (.int .i64 y) := by
              obtain ⟨g', c', e, -, -, hcl, -⟩ := hO2.out.form (by rw [hml]; omega)
              simp only [Value.slice.injEq, Option.some.injEq, Addr.mk.injEq, and_true] at e
              obtain ⟨rfl, -⟩ := e
              exact ⟨_, (hcl j (by rw [hml]; exact hlt)).2.2⟩
            have f2 : w2.drew.frozen? ⟨g, j * 3 + 2, none⟩ = false := by
              obtain ⟨g', c', e, -, -, -, hfz⟩ := hO2.out.form (by rw [hml]; omega)
              simp only [Value.slice.injEq, Option.some.injEq, Addr.mk.injEq, and_true] at e
              obtain ⟨rfl, -⟩ := e
              exact hfz _
            obtain ⟨y9, p2⟩ := p2
            have v2 : w2.drew.cell? ⟨b4, o4, none⟩ = some (.int .i64 x) := (hB2.out.cell (World.block_lt_of_cell? w1 _ hv)).trans hv
            obtain ⟨-, r1⟩ := hri2.out.cells
            have r2 : w2.drew.cell? ⟨b6, 1, none⟩ = some (.slice (some ⟨g, 0, none⟩) n cap3) := r1
            have hO3 : Hid (OwnT (w2.drew.setCell ⟨g, j * 3 + 2, none⟩ (.int .i64 x)) w1.heap.size (.slice (some ⟨g, 0, none⟩) n cap3) (mixL L ns (j + 1))) := OwnT.put (w := w2.drew) hO2.out (hml j) (hml (j + 1)) _ _ hx
            have hB3 : Hid (Below w1.heap.size w1 (w2.drew.setCell ⟨g, j * 3 + 2, none⟩ (.int .i64 x))) := Below.setCell (w := w2.drew) (hB2.out.trans ((below_drewN _ _ 1).mono hB2.out.size)) (p := ⟨g, j * 3 + 2, none⟩) HG.out _
            have hri3 : Hid (Ri (w2.drew.setCell ⟨g, j * 3 + 2, none⟩ (.int .i64 x)) b6 s (.slice (some ⟨g, 0, none⟩) n cap3)) := (heap_setCell_other w2.drew ⟨g, j * 3 + 2, none⟩ b6 _ HGN.out.symm).trans hri2.out
            clear CT CY CN MN MY hx hxe hxx hv r1 hO2 hB2 hri2 hI hcp hz hz1 HE hcl hcm
            go_wp2
            go_still_tail 6, (by kernel_rfl)
            change wpList _ _ _ _ _ w2.drew
            obtain ⟨w3, hw3⟩ : ∃ w3, w2.drew = w3 := ⟨_, rfl⟩
            rw [hw3] at hO3 hB3 hri3 p2 f2 v2 r2 ⊢
            clear hw3
            have hI3 : Hid (IntsAt w1 (if cap4 = 1 then some ⟨b4, o4, none⟩ else some ⟨b4, o4 + 1, none⟩) (ns.drop (cntK L (j + 1)))) := by
              split
              · have e : ns.drop (cntK L (j + 1)) = [] := List.eq_nil_of_length_eq_zero (by rw [List.length_drop, HM.out, HZ.out]; omega)
                exact .inl e
              · exact hI2.out
            clear hI2
            go_wp2
            refine ⟨⟨j + 1, _, cap4 - 1, by omega, by go_num, by rw [HZ.out], hcp2.out, hI3.out, hri3.out, hO3.out, hB3.out⟩, ?_⟩
            simp [intOf]; omega
        · have hjn : j = n := by omega
          subst hjn
          clear hI hcp
          obtain ⟨c0, c1⟩ := hri.out.cells
          have hw := hO.out
          rw [show mixL L ns j = withL L ns from by rw [← HLn.out]; exact mixL_end L ns] at hw
          have hwl : (withL L ns).length = j := by rw [withL_len]; exact HLn.out
          obtain ⟨A5, cap5, e5, hP5, -⟩ := OwnT.ops hw
          simp only [Value.slice.injEq] at e5
          obtain ⟨rfl, -, rfl⟩ := e5
          have CK := check_any s A3 cap3 (withL L ns) hs (by rw [hwl]; exact hL) wr hP5
          rw [hwl] at CK
          have CKH := Lib.hid CK
          have W5 := Lib.hid hw
          have OKY := Lib.hid (ok_yes s L ns (HM.out.trans HQ.out.symm))
          have OKN := Lib.hid (ok_code s L ns (HM.out.trans HQ.out.symm))
          obtain ⟨c, hc⟩ : ∃ c, codeI s (withL L ns) = c := ⟨_, rfl⟩
          rw [hc] at CKH OKY OKN
          clear hw hP5 CK hc hO
          go_wp2_with fail
          refine CKH.out.mono ?_
          rintro e w5 ⟨rfl, h5⟩
          have B5 : Hid (Below w.heap.size w w5) := B1.out.trans ((hB.out.trans (h5.mono hB.out.size)).mono B1.out.size)
          have Z5 : Hid (Rz w5 (w.heap.size + 1)) := ((hB.out.trans (h5.mono hB.out.size)).block _ (by have := S1.out; omega)).trans Z1.out
          have R5 : Hid (Ri w5 b6 s (.slice A3 j cap3)) := (h5.block _ (Array.getElem?_eq_some_iff.1 hri.out).1).trans hri.out
          have O5 : Hid (OwnT w5 w1.heap.size (.slice A3 j cap3) (withL L ns)) := W5.out.below h5
          clear h5 CKH W5 hri hB c0 c1 Z1 B1
          obtain ⟨z0, z1, z2, z3⟩ := Z5.out.cells
          by_cases hc0 : c = 0
          · subst hc0
            have OK := Lib.hid (OKY.out rfl)
            obtain ⟨c0, c1⟩ := R5.out.cells
            have F : Hid (RetW w s L ns (.returned (.tuple #[.agg #[.string s, .slice A3 j cap3], .bool true])) ((w5.setCell ⟨w.heap.size + 1, 0, none⟩ (.string s)).setCell ⟨w.heap.size + 1, 1, none⟩ (.slice A3 j cap3))) :=
              RetW.yes OK.out (row_mono (row_set (row_set O5.out (p := ⟨w.heap.size + 1, 0, none⟩) (by have := S1.out; simp; omega) _) (p := ⟨w.heap.size + 1, 1, none⟩) (by have := S1.out; simp; omega) _) (by have := S1.out; omega)) ((B5.out.setCell (p := ⟨w.heap.size + 1, 0, none⟩) (by simp) _).setCell (p := ⟨w.heap.size + 1, 1, none⟩) (by simp) _)
            have E := Lib.hid (Z5.out.set s (.slice A3 j cap3))
            go_wp2
            obtain ⟨e0, e1⟩ := E.out
            obtain ⟨w6, hw6⟩ : ∃ w6, ((w5.setCell ⟨w.heap.size + 1, 0, none⟩ (.string s)).setCell ⟨w.heap.size + 1, 1, none⟩ (.slice A3 j cap3)) = w6 := ⟨_, rfl⟩
            rw [hw6] at F e0 e1 ⊢
            clear hw6 z0 z1 z2 z3 c0 c1
            refine bodyPost_ret (v := .tuple #[.agg #[.string s, .slice A3 j cap3], .bool true]) ?_ rfl F.out
            simp [results, Tryd.results25, go_sem, e0, e1]
          · have OK := Lib.hid (OKN.out hc0)
            have hc1 : (c == 0) = false := beq_eq_false_iff_ne.2 hc0
            have F : Hid (RetW w s L ns (.returned (.tuple #[.agg #[.string ⟨#[]⟩, .slice none 0 0], .bool false])) ((w5.setCell ⟨w.heap.size + 1, 0, none⟩ (.string ⟨#[]⟩)).setCell ⟨w.heap.size + 1, 1, none⟩ (.slice none 0 0))) :=
              RetW.no OK.out ((B5.out.setCell (p := ⟨w.heap.size + 1, 0, none⟩) (by simp) _).setCell (p := ⟨w.heap.size + 1, 1, none⟩) (by simp) _)
            have E := Lib.hid (Z5.out.set ⟨#[]⟩ (.slice none 0 0))
            go_wp2
            obtain ⟨e0, e1⟩ := E.out
            obtain ⟨w6, hw6⟩ : ∃ w6, ((w5.setCell ⟨w.heap.size + 1, 0, none⟩ (.string ⟨#[]⟩)).setCell ⟨w.heap.size + 1, 1, none⟩ (.slice none 0 0)) = w6 := ⟨_, rfl⟩
            rw [hw6] at F e0 e1 ⊢
            clear hw6 z0 z1 z2 z3
            refine bodyPost_ret (v := .tuple #[.agg #[.string ⟨#[]⟩, .slice none 0 0], .bool false]) ?_ rfl F.out
            simp [results, Tryd.results25, go_sem, e0, e1]
  · have OK := Lib.hid (OKL.out hmq)
    have hmq2 : ((m : Int) == (q : Int)) = false := beq_eq_false_iff_ne.2 (by omega)
    have hmq3 : ¬ ((m : Int) = (q : Int)) := by omega
    obtain ⟨z0, z1, z2, z3⟩ := Z1.out.cells
    have F : Hid (RetW w s L ns (.returned (.tuple #[.agg #[.string ⟨#[]⟩, .slice none 0 0], .bool false])) ((w1.setCell ⟨w.heap.size + 1, 0, none⟩ (.string ⟨#[]⟩)).setCell ⟨w.heap.size + 1, 1, none⟩ (.slice none 0 0))) :=
      RetW.no OK.out ((B1.out.setCell (p := ⟨w.heap.size + 1, 0, none⟩) (by simp) _).setCell (p := ⟨w.heap.size + 1, 1, none⟩) (by simp) _)
    have E := Lib.hid (Z1.out.set ⟨#[]⟩ (.slice none 0 0))
    go_wp2
    obtain ⟨e0, e1⟩ := E.out
    obtain ⟨w3, hw3⟩ : ∃ w3, ((w1.setCell ⟨w.heap.size + 1, 0, none⟩ (.string ⟨#[]⟩)).setCell ⟨w.heap.size + 1, 1, none⟩ (.slice none 0 0)) = w3 := ⟨_, rfl⟩
    rw [hw3] at F e0 e1 ⊢
    clear hw3 z0 z1 z2 z3
    refine bodyPost_ret (v := .tuple #[.agg #[.string ⟨#[]⟩, .slice none 0 0], .bool false]) ?_ rfl F.out
    simp [results, Tryd.results25, go_sem, e0, e1]
end Go.Proofs.YthpaamekpfhkjaaDoor
