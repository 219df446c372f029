/-
  The walk over the document's own Named.
-/
import Derived.Test.YtbcbhdhhinopaaaDoorOpL
import Derived.Test.YtbcbhdhhinopaaaDoorOpG
import Derived.Test.YtbcbhdhhinopaaaDoorNumO
import Derived.Test.YtbcbhdhhinopaaaDoorMixG
import Derived.Test.YtbcbhdhhinopaaaDoorStr
import Derived.Lib.Builder
namespace Go.Proofs.YtbcbhdhhinopaaaDoor
open Go.RowKit
set_option linter.unusedVariables false

def kN (i : Nat) : Nat := [1, 2, 3, 8, 9].getD i 0
theorem kN_facts : ∀ i : Fin 5, (nmF (kN i.val) (nmL (kN i.val)).length).map (fun x => (x.1.data, x.2)) = (nmF (kN i.val) 8).map (fun x => (x.1.data, x.2)) ∧ 0 < (nmL (kN i.val)).length ∧ (nmL (kN i.val)).length ≤ 8 := by decide +kernel
theorem kN_rn (i : Nat) (h : i < 5) : rnK (kN i : Int) = nmL (kN i) := by
  have : i = 0 ∨ i = 1 ∨ i = 2 ∨ i = 3 ∨ i = 4 := by omega
  rcases this with rfl | rfl | rfl | rfl | rfl <;> rfl
theorem map_inj_nm {a b : List Nm} (h : a.map (fun x => (x.1.data, x.2)) = b.map (fun x => (x.1.data, x.2))) : a = b := by
  refine List.map_inj_right (fun x y hxy => ?_) |>.1 h
  obtain ⟨x1, x2⟩ := x
  obtain ⟨y1, y2⟩ := y
  simp only [Prod.mk.injEq] at hxy
  exact Prod.ext (ByteArray.ext hxy.1) hxy.2
theorem nmP_next (i : Nat) (h : i < 5) : nmP i ++ nmF (kN i) (nmL (kN i)).length = nmP (i + 1) := by
  rw [nmP_succ i h, map_inj_nm (kN_facts ⟨i, h⟩).1]
  congr 2
  unfold kN
  rw [List.getD_eq_getElem?_getD, List.getElem?_eq_getElem (by simpa using h)]
  rfl
/-- The slot holds a row of operands; the blocks of the kinds and of the names are as they were. -/
def RN (w : World) (b0 : Nat) (L : List Tr) (v : Value) (W : World) : Prop :=
  W.ownsRow (b0 + 1) 23 3 v L.length (cellsT L) ∧ Below w.heap.size w W ∧ W.heap[b0]? = some (.cells #[.int .i64 1, .int .i64 2, .int .i64 3, .int .i64 8, .int .i64 9] 3 (0, 0))
theorem RN.below {w : World} {b0 : Nat} {L : List Tr} {v : Value} {X Y : World} (h : RN w b0 L v X) (k : Below X.heap.size X Y) : RN w b0 L v Y :=
  ⟨Col.row_turn h.1 (Col.grown_none k) fun r e => (by cases e), h.2.1.trans (k.mono h.2.1.size), (k.block b0 (Array.getElem?_eq_some_iff.1 h.2.2).1).trans h.2.2⟩
theorem RN.val {w : World} {b0 : Nat} {L : List Tr} {v : Value} {X : World} (h : RN w b0 L v X) : ∃ A cap, v = .slice A L.length cap := by
  obtain ⟨A, cap, e, -, -⟩ := ops_of_row h.1
  exact ⟨A, cap, e⟩
theorem RN.cell {w : World} {b0 : Nat} {L : List Tr} {v : Value} {X : World} (h : RN w b0 L v X) (i : Nat) (hi : i < 5) : X.cell? ⟨b0, i, none⟩ = some (.int .i64 (kN i : Int)) := by
  rw [Lib.cell_of_heap h.2.2]
  have : i = 0 ∨ i = 1 ∨ i = 2 ∨ i = 3 ∨ i = 4 := by omega
  rcases this with rfl | rfl | rfl | rfl | rfl <;> rfl
/-- One operand more. -/
theorem RN.step {w : World} {b0 : Nat} {L : List Tr} {v : Value} {X : World} (h : RN w b0 L v X) (hb0 : w.heap.size ≤ b0) (hL : L.length ≤ 1000) (t : Tr) (ty : TypeId) :
    ∃ A cap Y, (Builtin.append_ #[27, 27] ty #[v, .slice (some ⟨X.heap.size, 0, none⟩) 1 1]).run Tryd.prog (X.alloc (.cells #[.int .i64 t.1, .int .i64 t.2.1, .int .i64 t.2.2] 23)) = .ok (.slice A (L.length + 1) cap) Y ∧
      RN w b0 (L ++ [t]) (.slice A (L.length + 1) cap) Y ∧ ∀ (i : Nat) cs (T : TypeId), T ≠ 23 → X.heap[i]? = some (.cells cs T (0, 0)) → Y.heap[i]? = some (.cells cs T (0, 0)) := by
  obtain ⟨h1, h2, h3⟩ := h
  have hal : Below X.heap.size X (X.alloc (.cells #[.int .i64 t.1, .int .i64 t.2.1, .int .i64 t.2.2] 23)) := (Below.refl _ _).alloc (Nat.le_refl _) _
  have o3 := Col.row_turn h1 (Col.grown_none hal) (fun r e => by cases e)
  have hlt : b0 < X.heap.size := (Array.getElem?_eq_some_iff.1 h3).1
  obtain ⟨i0, hi0, hz0, hz1, hz2⟩ := Col.info_open info_opd
  have hcell : ∀ j u, [Value.int .i64 t.1, .int .i64 t.2.1, .int .i64 t.2.2][j]? = some u → (X.alloc (.cells #[.int .i64 t.1, .int .i64 t.2.1, .int .i64 t.2.2] 23)).cell? ((⟨X.heap.size, 0, none⟩ : Addr).add j) = some u := fun j u hj => by
    have hadd : (⟨X.heap.size, 0, none⟩ : Addr).add j = ⟨X.heap.size, j, none⟩ := by unfold Addr.add; split <;> simp_all
    rw [hadd]
    simpa [go_sem] using hj
  obtain ⟨v', w4, k1, k2, k3, _, k5⟩ := run_append_own_at (P := Tryd.prog) (w := X.alloc (.cells #[.int .i64 t.1, .int .i64 t.2.1, .int .i64 t.2.2] 23)) (b0 + 1) 27 ty 23 i0 _ 3 24 Tryd.underlying27 hi0 hz0 hz1 hz2 rfl (by decide) v L.length _ o3 ⟨X.heap.size, 0, none⟩ 1 1 [.int .i64 t.1, .int .i64 t.2.1, .int .i64 t.2.2] rfl hcell (fun u hu => by simp at hu; rcases hu with rfl | rfl | rfl <;> rfl)
    (by unfold maxLen; omega) (by omega) (by simp; omega)
  obtain ⟨g, cap', rfl⟩ := Col.row_succ k2
  have keep : ∀ (i : Nat) cs (T : TypeId), T ≠ 23 → X.heap[i]? = some (.cells cs T (0, 0)) → w4.heap[i]? = some (.cells cs T (0, 0)) := fun i cs T hT hi => by
    have hi2 := (hal.block i (Array.getElem?_eq_some_iff.1 hi).1).trans hi
    refine (k3.block i (Array.getElem?_eq_some_iff.1 hi2).1 fun e => ?_).trans hi2
    rcases o3.2 with ⟨rfl, _⟩ | ⟨g0, cap0, cur, rfl, _, hgb, _⟩
    · simp [Value.ownBlock] at e
    · obtain rfl : i = g0 := by simpa [Value.ownBlock] using e
      rw [hgb] at hi2
      simp only [Option.some.injEq, Obj.cells.injEq] at hi2
      exact hT hi2.2.1.symm
  refine ⟨_, cap', w4, k1, ⟨?_, ?_, keep _ _ _ (by decide) h3⟩, keep⟩
  · rw [List.length_append, cellsT_append]
    exact k2
  · have hq : ∀ k, v.ownBlock = some k → b0 + 1 ≤ k := fun k hk => (h1.lt k hk).1
    exact (h2.trans (hal.mono h2.size)).grown k3 (by simp; omega) fun k hk => by have := hq k hk; omega
theorem RN.done {w : World} {b0 : Nat} {L : List Tr} {v : Value} {X : World} (h : RN w b0 L v X) : RetOps w L (.returned v) X := by
  obtain ⟨A, cap, e, hO, -⟩ := ops_of_row h.1
  subst e
  exact ⟨A, cap, rfl, hO, h.2.1⟩
theorem selL_len (u : ByteArray) (i j : Nat) (k : Nat) (hi : i < 5) (hj : j ≤ 8) : (selL u (nmP i ++ nmF k j)).length ≤ 1000 := by
  have h1 := selL_le u (nmP i ++ nmF k j)
  have h2 := nmP_le i (by omega)
  have h3 := nmF_le k j
  rw [List.length_append] at h1
  omega
attribute [local irreducible] Go.Mixed.wpMix
set_option maxRecDepth 100000 in
set_option maxHeartbeats 8000000 in
theorem rnamed_any (s : ByteArray) (hs : s.size ≤ 1000) (w : World) :
    Calls Tryd.prog 15 #[.string s] w (RetOps w (namedL s)) := by
  have UP := Lib.hid (fun w => rupper_any s (by omega) w)
  have U : Hid (selL (upB s) (nmP 5) = namedL s) := rfl
  obtain ⟨u, hu⟩ : ∃ u, upB s = u := ⟨_, rfl⟩
  rw [hu] at UP U
  have R0 : Hid (RN w w.heap.size (selL u (nmP 0)) (.slice none 0 0) (w.alloc (.cells #[.int .i64 1, .int .i64 2, .int .i64 3, .int .i64 8, .int .i64 9] 3))) :=
    ⟨World.ownsRow_nil _ _ _ _, (Below.refl _ _).alloc (Nat.le_refl _) _, heap_alloc_new w _⟩
  clear hu
  go_enter Tryd.func15, Tryd.ntmps15
  go_wp2
  go_loopw [3, 5] (fun s3 x wr => ∃ (i : Nat) (v : Value), i ≤ 5 ∧ x = .int .i64 i ∧ v = s3 ∧ Hid (RN w w.heap.size (selL u (nmP i)) v wr)) (fun _ x _ => 5 - (intOf x).toNat)
  case atStart => exact ⟨0, _, Nat.zero_le _, rfl, rfl, R0.out⟩
  case round =>
    clear R0
    obtain ⟨i, v, hi, rfl, rfl, R⟩ := hrel
    by_cases hlt : i < 5
    · have hkc := R.out.cell i hlt
      have hrg := Lib.hid (fun w => regs_any (kN i : Int) w)
      rw [kN_rn i hlt] at hrg
      have hf := kN_facts ⟨i, hlt⟩
      have NX := Lib.hid (nmP_next i hlt)
      have LT5 := Lib.hid hlt
      obtain ⟨kk, hkk⟩ : ∃ kk, kN i = kk := ⟨_, rfl⟩
      simp only [hkk] at hkc hrg hf NX
      have HKK := Lib.hid hkk
      obtain ⟨-, hm0, hm8⟩ := hf
      clear hkk
      go_wp2_with fail
      refine (hrg.out _).mono ?_
      rintro e w2 (⟨h0, -, -⟩ | ⟨rfl, hw2⟩)
      · exfalso; rw [h0] at hm0; simp at hm0
      have hb2 : Below wr.heap.size wr w2 := by rw [← hw2]; exact (Below.refl _ _).alloc (Nat.le_refl _) _
      have G2 : Hid (w2.heap[wr.heap.size]? = some (.cells ((nmL kk).map Value.string).toArray 9 (0, 0))) := by rw [← hw2]; exact heap_alloc_new wr _
      have R2 : Hid (RN w w.heap.size (selL u (nmP i ++ nmF kk 0)) v w2) := by
        have h := R.out.below hb2
        show RN _ _ _ _ _
        simpa [nmF] using h
      obtain ⟨g, hg⟩ : ∃ g, wr.heap.size = g := ⟨_, rfl⟩
      rw [hg] at G2
      rw [hg]
      obtain ⟨m, hm⟩ : ∃ m, (nmL kk).length = m := ⟨_, rfl⟩
      have HM := Lib.hid hm
      rw [hm] at hm0 hm8 NX
      rw [hm]
      obtain ⟨vb, hvb⟩ : ∃ vb, vb = v := ⟨_, rfl⟩
      subst hvb
      obtain ⟨wb, hwb⟩ : ∃ wb, wb = wr := ⟨_, rfl⟩
      subst hwb
      clear hb2 hw2 R hg hm hkc hrg hm0
      go_wp2
      go_loopw [3, 7] (fun s3 y wr => ∃ (j : Nat) (v : Value), j ≤ m ∧ y = .int .i64 j ∧ v = s3 ∧ Hid (RN w w.heap.size (selL u (nmP i ++ nmF kk j)) v wr) ∧ Hid (wr.heap[g]? = some (.cells ((nmL kk).map Value.string).toArray 9 (0, 0)))) (fun _ y _ => m - (intOf y).toNat)
      case atStart => exact ⟨0, _, Nat.zero_le _, rfl, rfl, R2.out, G2.out⟩
      case round =>
        clear R2 G2
        obtain ⟨j, v, hj, rfl, rfl, R, G⟩ := hrel
        by_cases hlt2 : j < m
        · have hjl : j < (nmL kk).length := by have := HM.out; omega
          have hx0 : nmS kk (j : Int) = (nmL kk)[j] := atS_in (nmL kk) j hjl
          have hc : wr.cell? ⟨g, j, none⟩ = some (.string (nmS kk (j : Int))) := by
            rw [Lib.cell_of_heap G.out, hx0]
            simp [hjl]
          have FY := Lib.hid (nmF_yes kk j)
          have FN := Lib.hid (nmF_no kk j)
          obtain ⟨x, hx⟩ : ∃ x, nmS kk (j : Int) = x := ⟨_, rfl⟩
          rw [hx] at hc FY FN
          have hcd : wr.drew.cell? ⟨g, j, none⟩ = some (.string x) := hc
          have hgl : g < wr.heap.size := (Array.getElem?_eq_some_iff.1 G.out).1
          have RD := Lib.hid (R.out.below ((Below.refl _ _).drew))
          have GD : Hid (wr.drew.heap[g]? = some (.cells ((nmL kk).map Value.string).toArray 9 (0, 0))) := G.out
          clear hx hx0 hjl
          cases hb : x.toList.isEmpty
          case true =>
            have RN2 : Hid (RN w w.heap.size (selL u (nmP i ++ nmF kk (j + 1))) v wr.drew) := by
              have h := FN.out (by show (!x.toList.isEmpty) = false; rw [hb]; rfl)
              rw [h]
              exact RD.out
            clear FY FN R G RD
            go_wp2
            refine Mixed.wp_region_mixed (fun w' => w'.cell? ⟨g, j, none⟩ = some (.string x)) 13 [(0, true), (1, true), (2, true), (3, true), (4, true), (5, true), (6, true), (7, true), (8, true), (9, true), (10, true), (11, false), (12, true)] (by kernel_rfl) (by kernel_rfl) hcd ?_
            refine Mixed.wpMix_move rfl (by kernel_rfl) _ rfl _ rfl ?_
            refine Mixed.wpMix_move rfl (by kernel_rfl) _ rfl _ rfl ?_
            refine Mixed.wpMix_pure rfl (by kernel_rfl) (.pointer (some ⟨g, j, none⟩)) (fun w h => by clear h; go_simp; try rfl) ?_
            refine Mixed.wpMix_pure rfl (by kernel_rfl) (.string x) (fun w h => by go_simp; try rfl) ?_
            refine Mixed.wpMix_pure rfl (by kernel_rfl) (.bool false) (fun w h => by clear h; go_simp; try rfl) ?_
            refine Mixed.wpMix_move rfl (by kernel_rfl) _ rfl _ rfl ?_
            refine Mixed.wpMix_skip rfl (by kernel_rfl) ?_
            refine Mixed.wpMix_skip rfl (by kernel_rfl) ?_
            refine Mixed.wpMix_skip rfl (by kernel_rfl) ?_
            refine Mixed.wpMix_skip rfl (by kernel_rfl) ?_
            refine Mixed.wpMix_skip rfl (by kernel_rfl) ?_
            refine Mixed.wpMix_skipL rfl (by kernel_rfl) hcd ?_
            refine Mixed.wpMix_skip rfl (by kernel_rfl) ?_
            simp only [Mixed.wpMix, List.drop_succ_cons, List.drop_zero]
            go_wp2
            go_roundw
            case rel => exact ⟨j + 1, _, by omega, by go_num, rfl, RN2.out, GD.out⟩
            case measure => simp [intOf]; omega
          case false =>
            have FY2 := Lib.hid (FY.out (by show (!x.toList.isEmpty) = true; rw [hb]; rfl))
            have LEN := Lib.hid (selL_len u i j kk LT5.out (by omega))
            clear FY FN RD GD
            go_wp2
            refine Mixed.wp_region_mixed (fun w' => w'.cell? ⟨g, j, none⟩ = some (.string x)) 13 [(0, true), (1, true), (2, true), (3, true), (4, true), (5, true), (6, true), (7, true), (8, true), (9, true), (10, true), (11, false), (12, true)] (by kernel_rfl) (by kernel_rfl) hcd ?_
            refine Mixed.wpMix_move rfl (by kernel_rfl) _ rfl _ rfl ?_
            refine Mixed.wpMix_move rfl (by kernel_rfl) _ rfl _ rfl ?_
            refine Mixed.wpMix_pure rfl (by kernel_rfl) (.pointer (some ⟨g, j, none⟩)) (fun w h => by clear h; go_simp; try rfl) ?_
            refine Mixed.wpMix_pure rfl (by kernel_rfl) (.string x) (fun w h => by go_simp; try rfl) ?_
            refine Mixed.wpMix_pure rfl (by kernel_rfl) (.bool true) (fun w h => by clear h; go_simp; try rfl) ?_
            refine Mixed.wpMix_move rfl (by kernel_rfl) _ rfl _ rfl ?_
            refine Mixed.wpMix_move rfl (by kernel_rfl) _ rfl _ rfl ?_
            refine Mixed.wpMix_move rfl (by kernel_rfl) _ rfl _ rfl ?_
            refine Mixed.wpMix_pure rfl (by kernel_rfl) (.pointer (some ⟨g, j, none⟩)) (fun w h => by clear h; go_simp; try rfl) ?_
            refine Mixed.wpMix_pure rfl (by kernel_rfl) (.string x) (fun w h => by go_simp; try rfl) ?_
            refine Mixed.wpMix_move rfl (by kernel_rfl) _ rfl _ rfl ?_
            refine Mixed.wpMix_loudG rfl (by kernel_rfl) ?_
            go_wp2_with fail
            refine (UP.out _).mono ?_
            rintro e w4 ⟨rfl, h4⟩
            have h4' : Below wr.heap.size wr w4 := (below_drewN wr _ 1).trans h4
            have R4 := Lib.hid (R.out.below h4')
            have G4 : Hid (w4.heap[g]? = some (.cells ((nmL kk).map Value.string).toArray 9 (0, 0))) := (h4'.block g (Array.getElem?_eq_some_iff.1 G.out).1).trans G.out
            have hc4 : w4.cell? ⟨g, j, none⟩ = some (.string x) := (h4'.cell hgl).trans hc
            clear h4 h4' R G
            go_wp2
            refine ⟨hc4, ?_⟩
            cases he : (x.toList == u.toList)
            · have R5 : Hid (RN w w.heap.size (selL u (nmP i ++ nmF kk (j + 1))) v w4) := by
                rw [FY2.out, ← List.append_assoc, selL_no u (nmP i ++ nmF kk j) (x, (kk : Int), (j : Int)) he]
                exact R4.out
              clear R4 FY2
              refine Mixed.wpMix_pure rfl (by kernel_rfl) (.bool false) (fun w h => by clear h; go_simp; try rfl) ?_
              simp only [Mixed.wpMix, List.drop_succ_cons, List.drop_zero]
              go_wp2
              go_roundw
              case rel => exact ⟨j + 1, _, by omega, by go_num, rfl, R5.out, G4.out⟩
              case measure => simp [intOf]; omega
            · obtain ⟨A, cap, Y, k1, hR, keep⟩ := R4.out.step (Nat.le_refl _) LEN.out ((kk : Int), (j : Int), 0) 27
              have R5 : Hid (RN w w.heap.size (selL u (nmP i ++ nmF kk (j + 1))) (.slice A ((selL u (nmP i ++ nmF kk j)).length + 1) cap) Y) := by
                rw [FY2.out, ← List.append_assoc, selL_yes u (nmP i ++ nmF kk j) (x, (kk : Int), (j : Int)) he]
                exact hR
              have G5 := Lib.hid (keep _ _ _ (by decide) G4.out)
              have hkc := R4.out.cell i LT5.out
              rw [HKK.out] at hkc
              have K1 := Lib.hid k1
              have hi5 := LT5.out
              clear k1 hR keep FY2 R4 G4 LEN
              refine Mixed.wpMix_pure rfl (by kernel_rfl) (.bool true) (fun w h => by clear h; go_simp; try rfl) ?_
              simp only [Mixed.wpMix, List.drop_succ_cons, List.drop_zero]
              go_wp2_with (at_builtin; refine St.wpList_run_append K1.out rfl _ _ rfl rfl rfl rfl ?_)
              go_roundw
              case rel => exact ⟨j + 1, _, by omega, by go_num, rfl, R5.out, G5.out⟩
              case measure => simp [intOf]; omega
        · have hjm : j = m := by omega
          have R5 : Hid (RN w w.heap.size (selL u (nmP (i + 1))) v wr) := by
            have h := R.out
            rw [hjm, NX.out] at h
            exact h
          clear hjm R G
          have hi5 := LT5.out
          go_wp2
          go_roundw
          case rel => exact ⟨i + 1, _, by omega, by go_num, rfl, R5.out⟩
          case measure => simp [intOf]; omega
    · have hi5 : i = 5 := by omega
      subst hi5
      have F : Hid (RetOps w (namedL s) (.returned v) wr) := by
        rw [← U.out]
        exact R.out.done
      go_wp2
      go_ret
      exact F.out
end Go.Proofs.YtbcbhdhhinopaaaDoor
