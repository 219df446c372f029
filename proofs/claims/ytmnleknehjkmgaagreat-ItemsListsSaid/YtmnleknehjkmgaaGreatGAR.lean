/-
  SeRj, TbY, EnC, Fr, MixP, DfA, EnS, EnR, ItA.
-/
import Derived.Test.YtmnleknehjkmgaaGreatGAQ
import Derived.Test.YtmnleknehjkmgaaGreatGAB
import Derived.Test.YtmnleknehjkmgaaGreatGAH
import Derived.Deep.DeepCutAuto
import Derived.Deep.Cut
import Derived.Test.YtmnleknehjkmgaaGreatGAI
import Derived.Test.YtmnleknehjkmgaaGreatGAJ
import Derived.Below
import Derived.Lib.Hide
import Derived.Lib.Builder
import Derived.RangeFuncRecord
import Derived.Test.YtmnleknehjkmgaaGreatGAE
import Derived.Deep.QuietTactic
import Derived.BigQuiet
set_option linter.all false
set_option maxRecDepth 100000
set_option maxHeartbeats 4000000
namespace Go.Proofs.YtmnleknehjkmgaaGreat
open Go.RowKit Go.Shelf
attribute [local go_sem] Oper.semAt_some
def RetRFill (w : World) (m : Str) (o : Option (List Tr)) (e : Ending) (w' : World) : Prop := match o with
  | some L2 => ∃ v, e = .returned (.tuple #[.agg #[.string (sB m), v], .bool true]) ∧ OwnT w' w.heap.size v L2 ∧ Below w.heap.size w w'
  | none => e = .returned (.tuple #[.agg #[.string ⟨#[]⟩, .slice none 0 0], .bool false]) ∧ Below w.heap.size w w'
theorem fillR_no {ex : Str} {L : List Tr} {d n : Int} {k : Nat} (hk : k < L.length) (h : okR ex L d n k = false) : fillR ex L d n = none := by
  unfold fillR
  refine if_neg fun hc => ?_
  have := List.all_eq_true.1 hc.1 k (List.mem_range.2 hk)
  rw [h] at this
  cases this
theorem fillR_yes {ex : Str} {L : List Tr} {d n : Int} (h : ∀ k, k < L.length → okR ex L d n k = true) (h1 : useD ex L d L.length = true) (h2 : useN ex L n L.length = true) : fillR ex L d n = some ((List.range L.length).map (stR ex L d n)) := by
  unfold fillR
  exact if_pos ⟨List.all_eq_true.2 fun k hk => h k (List.mem_range.1 hk), h1, h2⟩
theorem fillR_noD {ex : Str} {L : List Tr} {d n : Int} (h1 : useD ex L d L.length = false) : fillR ex L d n = none := by
  unfold fillR
  refine if_neg fun hc => ?_
  rw [h1] at hc
  exact absurd hc.2.1 (by simp)
theorem fillR_noN {ex : Str} {L : List Tr} {d n : Int} (h1 : useN ex L n L.length = false) : fillR ex L d n = none := by
  unfold fillR
  refine if_neg fun hc => ?_
  rw [h1] at hc
  exact absurd hc.2.2 (by simp)
theorem useD_step (ex : Str) (L : List Tr) (d : Int) (k : Nat) : useD ex L d (k + 1) = (useD ex L d k || letR ex L k == 100) := by
  unfold useD
  rw [List.range_succ, List.any_append]
  simp [Bool.or_assoc]
theorem useN_step (ex : Str) (L : List Tr) (n : Int) (k : Nat) : useN ex L n (k + 1) = (useN ex L n k || (letR ex L k != 100 && letR ex L k != 0)) := by
  unfold useN
  rw [List.range_succ, List.any_append]
  simp [Bool.or_assoc]
theorem map_step (ex : Str) (L : List Tr) (d n : Int) (k : Nat) : (List.range (k + 1)).map (stR ex L d n) = (List.range k).map (stR ex L d n) ++ [stR ex L d n k] := by
  rw [List.range_succ, List.map_append]
  rfl
theorem fill_start (w : World) (page op : Int) (m : Str) (v : Value) (ex : Str) (al : Bool) (n : Nat) (hn : w.heap.size = n) : ∃ w0, ((w.alloc (.cells #[.int .i64 page, .int .u8 op, .string (sB m), v, .string (sB ex), .bool al] 80)).alloc (.cells #[.string ⟨#[]⟩, .slice none 0 0] 32)) = w0 ∧
    w0.heap[n]? = some (.cells #[.int .i64 page, .int .u8 op, .string (sB m), v, .string (sB ex), .bool al] 80 (0, 0)) ∧ Rz w0 (n + 1) ∧ Below w.heap.size w w0 ∧ w0.heap.size = n + 2 := by
  subst hn
  refine ⟨_, rfl, (Below.heap_alloc _ _ _ (by simp)).trans (World.alloc_heap_new w _), ?_, ((Below.refl _ w).alloc (Nat.le_refl _) _).alloc (by simp) _, by simp⟩
  have h := World.alloc_heap_new (w.alloc (.cells #[.int .i64 page, .int .u8 op, .string (sB m), v, .string (sB ex), .bool al] 80)) (.cells #[.string ⟨#[]⟩, .slice none 0 0] 32)
  rwa [World.size_alloc] at h
theorem rfill_any (page op : Int) (m : Str) (A : Option Addr) (cap l : Nat) (L : List Tr) (hl : L.length = l) (hL : l ≤ 1000) (ex : Str) (hx : ex.length ≤ 1000) (al : Bool) (d q : Int) (w : World) (H : OpsP w A L) :
    Calls Tryz.prog 48 #[enV page op m (.slice A l cap) ex al, .int .i64 d, .int .i64 q] w (RetRFill w m (fillR ex L d q)) := by
  unfold enV
  obtain ⟨n, hn⟩ : ∃ z, w.heap.size = z := ⟨_, rfl⟩
  obtain ⟨w0, hw0, c0, zz, b0, z0⟩ := fill_start w page op m (.slice A l cap) ex al n hn
  have BB : Hid (Below n w w0) := by rw [← hn]; exact b0
  have HN := Lib.hid hn
  have HL := Lib.hid hl
  have Z0 := Lib.hid z0
  have PH := Lib.hid H
  have C0 := Lib.hid c0
  have R0 := Lib.hid zz
  have k0 := Lib.cell_of_heap c0 0
  have k1 := Lib.cell_of_heap c0 1
  have k2 := Lib.cell_of_heap c0 2
  have k3 := Lib.cell_of_heap c0 3
  have k4 := Lib.cell_of_heap c0 4
  have k5 := Lib.cell_of_heap c0 5
  clear H b0 c0 z0 zz hl
  go_enter Tryz.func48, Tryz.ntmps48
  go_upto_region 1 with fail
  clear hw0
  go_upto_region 2 with fail
  obtain ⟨w3, hw3⟩ : ∃ z, w0.alloc (.cells #[.string (sB m), .slice none 0 0] 32) = z := ⟨_, rfl⟩
  obtain ⟨b, hb⟩ : ∃ z, w0.heap.size = z := ⟨_, rfl⟩
  have y2 : Below w0.heap.size w0 w3 := by rw [← hw3]; exact (Below.refl _ _).alloc (Nat.le_refl _) _
  have RI : Hid (Ri w3 b (sB m) (.slice none 0 0)) := by rw [← hw3, ← hb]; exact heap_alloc_new w0 _
  have hb2 : n + 1 < b := by have := Z0.out; omega
  have ZS : Hid (w3.heap.size = b + 1) := by show _ = _; rw [← hw3, ← hb]; simp
  have B3 : Hid (Below n w w3) := BB.out.trans (y2.mono (by have := Z0.out; omega))
  have C3 := Lib.hid ((y2.block n (by have := Z0.out; omega)).trans C0.out)
  have R3 : Hid (Rz w3 (n + 1)) := (y2.block (n + 1) (by have := Z0.out; omega)).trans R0.out
  rw [hw3, hb]
  clear hw3 hb y2 k0 k1 k2 k3 k4 k5 BB Z0 C0 R0
  have U0 : Hid ((d == 0) = useD ex L d 0) := by show _ = _; unfold useD; simp
  have U1 : Hid ((q == 0) = useN ex L q 0) := by show _ = _; unfold useN; simp
  obtain ⟨ud, hud⟩ : ∃ z, (d == 0) = z := ⟨_, rfl⟩
  obtain ⟨un, hun⟩ : ∃ z, (q == 0) = z := ⟨_, rfl⟩
  rw [hud] at U0
  rw [hun] at U1
  have hO0 : Hid (OwnT w3 (b + 1) (.slice none 0 0) ((List.range 0).map (stR ex L d q))) := World.ownsRow_nil _ _ _ _
  go_wp2
  clear hud hun
  go_loopw [9, 10, 11] (fun x y i wr => ∃ (j : Nat) (A4 : Option Addr) (cap4 : Nat) (p r : Bool), j ≤ l ∧ i = .int .i64 j ∧ x = .bool p ∧ y = .bool r ∧ Hid (p = useD ex L d j) ∧ Hid (r = useN ex L q j) ∧ Hid (∀ k, k < j → okR ex L d q k = true) ∧ Hid (Ri wr b (sB m) (.slice A4 j cap4)) ∧ Hid (OwnT wr (b + 1) (.slice A4 j cap4) ((List.range j).map (stR ex L d q))) ∧ Hid (Below b w3 wr) ∧ Hid (b + 1 ≤ wr.heap.size)) (fun _ _ i _ => l - (intOf i).toNat)
  case atStart => exact ⟨0, none, 0, ud, un, Nat.zero_le _, rfl, rfl, rfl, U0.out, U1.out, fun k h => by omega, RI.out, hO0.out, Below.refl _ _, Nat.le_of_eq ZS.out.symm⟩
  case round =>
    clear RI hO0 U0 U1
    obtain ⟨j, A4, cap4, p, r, hj, rfl, rfl, rfl, UD, UN, OK, hri, hO, hB, hS⟩ := hrel
    have cw := (hB.out.block n (by omega)).trans C3.out
    have CW := Lib.hid cw
    have RW : Hid (Rz wr (n + 1)) := (hB.out.block (n + 1) (by omega)).trans R3.out
    have BW : Hid (Below n w wr) := B3.out.trans (hB.out.mono (by omega))
    have PW : Hid (OpsP wr A L) := PH.out.below (by rw [HN.out]; exact BW.out)
    have k0 := Lib.cell_of_heap cw 0
    have k1 := Lib.cell_of_heap cw 1
    have k2 := Lib.cell_of_heap cw 2
    have k3 := Lib.cell_of_heap cw 3
    have k4 := Lib.cell_of_heap cw 4
    have k5 := Lib.cell_of_heap cw 5
    clear cw
    by_cases hlt : j < l
    · have hjL : j < L.length := by have := HL.out; omega
      obtain ⟨b1, o1, rfl, -, p0, p1, p2⟩ := PW.out.at_ hjL
      have g2 : L.getD j tr0 = L[j] := by rw [List.getD_eq_getElem?_getD, List.getElem?_eq_getElem hjL]; rfl
      rw [← g2] at p0 p1 p2
      have HJL := Lib.hid hjL
      obtain ⟨⟨y0, y1, y2⟩, hy⟩ : ∃ z, L.getD j tr0 = z := ⟨_, rfl⟩
      have HY := Lib.hid hy
      rw [hy] at p0 p1 p2
      simp only at p0 p1 p2
      have hal : Below wr.heap.size wr (wr.alloc (.cells #[.int .i64 y0, .int .i64 y1, .int .i64 y2] 67)) := (Below.refl _ _).alloc (Nat.le_refl _) _
      have HAL := Lib.hid hal
      have bx : (wr.alloc (.cells #[.int .i64 y0, .int .i64 y1, .int .i64 y2] 67)).heap[wr.heap.size]? = some (.cells #[.int .i64 y0, .int .i64 y1, .int .i64 y2] 67 (0, 0)) := heap_alloc_new wr _
      have BX := Lib.hid bx
      have lt := fun w' h => letter_any page op m (some ⟨b1, o1, none⟩) cap l L HL.out hL ex hx al j hlt w' h
      simp only [enV] at lt
      have LT := Lib.hid lt
      clear hy hjL g2 hal bx lt
      go_upto_region 8 with fail
      obtain ⟨g, hg⟩ : ∃ z, wr.heap.size = z := ⟨_, rfl⟩
      obtain ⟨w4, hw4⟩ : ∃ z, wr.alloc (.cells #[.int .i64 y0, .int .i64 y1, .int .i64 y2] 67) = z := ⟨_, rfl⟩
      rw [hw4, hg]
      rw [hw4, hg] at BX
      rw [hw4] at HAL
      have c4 := (HAL.out.block n (by have := hS.out; omega)).trans CW.out
      have C4 := Lib.hid c4
      have RW4 : Hid (Rz w4 (n + 1)) := (HAL.out.block (n + 1) (by have := hS.out; omega)).trans RW.out
      have P4 := Lib.hid (PW.out.below HAL.out)
      have hri4 : Hid (Ri w4 b (sB m) (.slice A4 j cap4)) := (HAL.out.block b (by have := hS.out; omega)).trans hri.out
      have hO4 := Lib.hid (hO.out.below HAL.out)
      have hB4 : Hid (Below b w3 w4) := hB.out.trans (HAL.out.mono (by have := hS.out; omega))
      have hS4 : Hid (b + 1 ≤ g ∧ g < w4.heap.size) := by
        have h1 := hS.out
        exact ⟨by omega, (Array.getElem?_eq_some_iff.1 BX.out).1⟩
      have GB : Hid (∀ g', (Value.slice A4 j cap4).ownBlock = some g' → g' ≠ g) := fun g' hg' => by have := (World.ownsRow.lt hO.out g' hg').2; omega
      have k0 := Lib.cell_of_heap c4 0
      have k1 := Lib.cell_of_heap c4 1
      have k2 := Lib.cell_of_heap c4 2
      have k3 := Lib.cell_of_heap c4 3
      have k4 := Lib.cell_of_heap c4 4
      have k5 := Lib.cell_of_heap c4 5
      clear hw4 c4 p0 p1 p2 hg HAL CW RW BW PW hri hO hB hS
      go_wp2_with fail
      refine (LT.out w4 P4.out).mono ?_
      rintro e w5 ⟨rfl, hb⟩
      have RW5 : Hid (Rz w5 (n + 1)) := (hb.block (n + 1) (by have := hS4.out; omega)).trans RW4.out
      have hri5 : Hid (Ri w5 b (sB m) (.slice A4 j cap4)) := (hb.block b (by have := hS4.out; omega)).trans hri4.out
      have hO5 := Lib.hid (hO4.out.below hb)
      have hB5 : Hid (Below b w3 w5) := hB4.out.trans (hb.mono (by have := hS4.out; omega))
      have bx5 : Hid (w5.heap[g]? = some (.cells #[.int .i64 y0, .int .i64 y1, .int .i64 y2] 67 (0, 0))) := (hb.block g hS4.out.2).trans BX.out
      have hS5 : Hid (b + 1 ≤ g ∧ g < w5.heap.size) := ⟨hS4.out.1, Nat.lt_of_lt_of_le hS4.out.2 hb.size⟩
      have hgb : g ≠ b := by have := hS5.out.1; omega
      have hgn : g ≠ n + 1 := by have := hS5.out.1; omega
      have q0 := Lib.cell_of_heap bx5.out 0
      have q1 := Lib.cell_of_heap bx5.out 1
      have q2 := Lib.cell_of_heap bx5.out 2
      have hll : ((List.range j).map (stR ex L d q)).length = j := by rw [List.length_map, List.length_range]
      have HLL := Lib.hid hll
      clear hb k0 k1 k2 k3 k4 k5 LT P4 RW4 hri4 hO4 hB4 BX hS4 C4 hll
      rcases letR_cases ex L j with hv9 | hv9 | hv9 | hv9 | hv9
      rotate_left 4
      · have e9 : letR ex L j = 0 := hv9
        rw [hv9]
        simp only [show ((0 : UInt8).toNat : Int) = 0 from rfl]
        have ST : Hid (stR ex L d q j = (y0, y1, y2)) := by show stR ex L d q j = _; unfold stR; rw [if_neg (by rw [e9]; decide), if_pos e9, HY.out]
        have OKJ : Hid (okR ex L d q j = true) := by show okR ex L d q j = _; unfold okR; rw [e9]; rfl
        have UD2 : Hid (p = useD ex L d (j + 1)) := by show _ = _; rw [useD_step, e9]; rw [← UD.out]; simp
        have UN2 : Hid (r = useN ex L q (j + 1)) := by show _ = _; rw [useN_step, e9]; rw [← UN.out]; simp
        have hri6 := hri5
        have hO6 := hO5
        have hB6 := hB5
        have hS6 : Hid (b + 1 ≤ w5.heap.size) := by have := hS5.out; show _ ≤ _; omega
        have OK2 : Hid (∀ k, k < j + 1 → okR ex L d q k = true) := fun k hk => by
          by_cases e : k = j
          · rw [e]; exact OKJ.out
          · exact OK.out k (by omega)
        have W3 : Hid ((List.range (j + 1)).map (stR ex L d q) = (List.range j).map (stR ex L d q) ++ [(y0, y1, y2)]) := by show _ = _; rw [map_step, ST.out]
        clear hri5 hO5 hB5 RW5
        obtain ⟨-, r1⟩ := hri6.out.cells
        have BK : Hid (∀ w8, Below (b + 1) w5 w8 → Ri w8 b (sB m) (.slice A4 j cap4) ∧ Below b w3 w8 ∧ b + 1 ≤ w8.heap.size) := fun w8 hB8 => ⟨(hB8.block b (by omega)).trans hri6.out, hB6.out.trans (hB8.mono (by omega)), Nat.le_trans hS6.out hB8.size⟩
        go_wp2_with (at_builtin; refine wpList_appT hO6.out hS6.out rfl _ _ rfl rfl w5.heap.size (by simp) rfl (y0, y1, y2) j HLL.out (by omega) ?_; intro A4' cap4' w8 hO8 hB8; obtain ⟨hri8, hB9, hS9⟩ := BK.out w8 hB8; rw [← W3.out] at hO8; obtain ⟨r2, r3⟩ := hri8.cells; have r4 : w8.frozen? ⟨b, 1, none⟩ = false := Lib.frozen_of_heap hri8 1; have hO8 := Lib.hid hO8; have hri8 := Lib.hid hri8; have hB9 := Lib.hid hB9; have hS9 := Lib.hid hS9; clear hB8 r2)
        have hri9 : Hid (Ri (w8.setCell ⟨b, 1, none⟩ (.slice A4' (j + 1) cap4')) b (sB m) (.slice A4' (j + 1) cap4')) := heap_setCell_same w8 b 1 _ _ _ hri8.out
        have hO9 : Hid (OwnT (w8.setCell ⟨b, 1, none⟩ (.slice A4' (j + 1) cap4')) (b + 1) (.slice A4' (j + 1) cap4') ((List.range (j + 1)).map (stR ex L d q))) := row_set hO8.out (p := ⟨b, 1, none⟩) (by simp) _
        have hBa : Hid (Below b w3 (w8.setCell ⟨b, 1, none⟩ (.slice A4' (j + 1) cap4'))) := hB9.out.setCell (p := ⟨b, 1, none⟩) (Nat.le_refl _) _
        have hSa : Hid (b + 1 ≤ (w8.setCell ⟨b, 1, none⟩ (.slice A4' (j + 1) cap4')).heap.size) := by have h1 := hS9.out; simp [Hid] at h1 ⊢; omega
        go_roundw
        case rel => exact ⟨j + 1, A4', cap4', _, _, by omega, by go_num, rfl, rfl, UD2.out, UN2.out, OK2.out, hri9.out, hO9.out, hBa.out, hSa.out⟩
        case measure => simp [intOf]; omega
      · have e9 : letR ex L j = 100 := hv9
        rw [hv9]
        simp only [show ((100 : UInt8).toNat : Int) = 100 from rfl]
        have fz : w5.frozen? ⟨g, 2, none⟩ = false := Lib.frozen_of_heap bx5.out 2
        have WI := Lib.hid (fun w' => rwithin_any 100 d w')
        simp only [show ((100 : UInt8).toNat : Int) = 100 from rfl] at WI
        have ST : Hid (stR ex L d q j = (y0, y1, d)) := by show stR ex L d q j = _; unfold stR; rw [if_pos e9, HY.out]
        have OKJ : Hid (okR ex L d q j = withR 100 d) := by show okR ex L d q j = _; unfold okR; rw [ST.out, e9]; simp
        have UD2 : Hid (true = useD ex L d (j + 1)) := by show _ = _; rw [useD_step, e9]; simp
        have UN2 : Hid (r = useN ex L q (j + 1)) := by show _ = _; rw [useN_step, e9]; rw [← UN.out]; simp
        obtain ⟨o, ho⟩ : ∃ z, withR 100 d = z := ⟨_, rfl⟩
        rw [ho] at OKJ WI
        have hri6 : Hid (Ri (w5.setCell ⟨g, 2, none⟩ (.int .i64 d)) b (sB m) (.slice A4 j cap4)) := (heap_setCell_other w5 ⟨g, 2, none⟩ b _ hgb.symm).trans hri5.out
        have hO6 : Hid (OwnT (w5.setCell ⟨g, 2, none⟩ (.int .i64 d)) (b + 1) (.slice A4 j cap4) ((List.range j).map (stR ex L d q))) := row_set_ne hO5.out (p := ⟨g, 2, none⟩) GB.out _
        have hB6 : Hid (Below b w3 (w5.setCell ⟨g, 2, none⟩ (.int .i64 d))) := hB5.out.setCell (p := ⟨g, 2, none⟩) (by have := hS5.out.1; simp; omega) _
        have RW6 : Hid (Rz (w5.setCell ⟨g, 2, none⟩ (.int .i64 d)) (n + 1)) := (heap_setCell_other w5 ⟨g, 2, none⟩ (n + 1) _ hgn.symm).trans RW5.out
        have hS6 : Hid (b + 1 ≤ (w5.setCell ⟨g, 2, none⟩ (.int .i64 d)).heap.size) := by have := hS5.out; simp [Hid]; omega
        clear ho hri5 hO5 hB5 RW5
        go_wp2_with fail
        refine (WI.out _).mono ?_
        rintro e wx ⟨rfl, rfl⟩
        cases o with
        | false =>
          have B6 : Hid (Below n w (w5.setCell ⟨g, 2, none⟩ (.int .i64 d))) := B3.out.trans (hB6.out.mono (by omega))
          have NO2 := Lib.hid (fillR_no HJL.out OKJ.out)
          clear q0 q1 q2 WI hri6 hO6 hB6
          have NO : Hid (fillR ex L d q = none) := NO2.out
          obtain ⟨z0, z1, z2, z3⟩ := RW6.out.cells
          have F : Hid (RetRFill w m (fillR ex L d q) (.returned (.tuple #[.agg #[.string ⟨#[]⟩, .slice none 0 0], .bool false])) (((w5.setCell ⟨g, 2, none⟩ (.int .i64 d)).setCell ⟨n + 1, 0, none⟩ (.string ⟨#[]⟩)).setCell ⟨n + 1, 1, none⟩ (.slice none 0 0))) := by
            show RetRFill w m (fillR ex L d q) _ _
            rw [NO.out]
            refine ⟨rfl, ?_⟩
            rw [HN.out]
            exact (B6.out.setCell (p := ⟨n + 1, 0, none⟩) (by simp) _).setCell (p := ⟨n + 1, 1, none⟩) (by simp) _
          have E := Lib.hid (RW6.out.set ⟨#[]⟩ (.slice none 0 0))
          go_wp2
          obtain ⟨e0, e1⟩ := E.out
          obtain ⟨w6, hw6⟩ : ∃ w6, (((w5.setCell ⟨g, 2, none⟩ (.int .i64 d)).setCell ⟨n + 1, 0, none⟩ (.string ⟨#[]⟩)).setCell ⟨n + 1, 1, none⟩ (.slice none 0 0)) = w6 := ⟨_, rfl⟩
          rw [hw6] at F e0 e1 ⊢
          clear hw6 z0 z1 z2 z3
          refine bodyPost_ret (v := .tuple #[.agg #[.string ⟨#[]⟩, .slice none 0 0], .bool false]) ?_ rfl F.out
          simp [results, Tryz.results48, go_sem, e0, e1]
        | true =>
          have OK2 : Hid (∀ k, k < j + 1 → okR ex L d q k = true) := fun k hk => by
            by_cases e : k = j
            · rw [e]; exact OKJ.out
            · exact OK.out k (by omega)
          have W3 : Hid ((List.range (j + 1)).map (stR ex L d q) = (List.range j).map (stR ex L d q) ++ [(y0, y1, d)]) := by show _ = _; rw [map_step, ST.out]
          clear WI
          obtain ⟨-, r1⟩ := hri6.out.cells
          have BK : Hid (∀ w8, Below (b + 1) (w5.setCell ⟨g, 2, none⟩ (.int .i64 d)) w8 → Ri w8 b (sB m) (.slice A4 j cap4) ∧ Below b w3 w8 ∧ b + 1 ≤ w8.heap.size) := fun w8 hB8 => ⟨(hB8.block b (by omega)).trans hri6.out, hB6.out.trans (hB8.mono (by omega)), Nat.le_trans hS6.out hB8.size⟩
          go_wp2_with (at_builtin; refine wpList_appT hO6.out hS6.out rfl _ _ rfl rfl w5.heap.size (by simp) rfl (y0, y1, d) j HLL.out (by omega) ?_; intro A4' cap4' w8 hO8 hB8; obtain ⟨hri8, hB9, hS9⟩ := BK.out w8 hB8; rw [← W3.out] at hO8; obtain ⟨r2, r3⟩ := hri8.cells; have r4 : w8.frozen? ⟨b, 1, none⟩ = false := Lib.frozen_of_heap hri8 1; have hO8 := Lib.hid hO8; have hri8 := Lib.hid hri8; have hB9 := Lib.hid hB9; have hS9 := Lib.hid hS9; clear hB8 r2)
          have hri9 : Hid (Ri (w8.setCell ⟨b, 1, none⟩ (.slice A4' (j + 1) cap4')) b (sB m) (.slice A4' (j + 1) cap4')) := heap_setCell_same w8 b 1 _ _ _ hri8.out
          have hO9 : Hid (OwnT (w8.setCell ⟨b, 1, none⟩ (.slice A4' (j + 1) cap4')) (b + 1) (.slice A4' (j + 1) cap4') ((List.range (j + 1)).map (stR ex L d q))) := row_set hO8.out (p := ⟨b, 1, none⟩) (by simp) _
          have hBa : Hid (Below b w3 (w8.setCell ⟨b, 1, none⟩ (.slice A4' (j + 1) cap4'))) := hB9.out.setCell (p := ⟨b, 1, none⟩) (Nat.le_refl _) _
          have hSa : Hid (b + 1 ≤ (w8.setCell ⟨b, 1, none⟩ (.slice A4' (j + 1) cap4')).heap.size) := by have h1 := hS9.out; simp [Hid] at h1 ⊢; omega
          go_roundw
          case rel => exact ⟨j + 1, A4', cap4', _, _, by omega, by go_num, rfl, rfl, UD2.out, UN2.out, OK2.out, hri9.out, hO9.out, hBa.out, hSa.out⟩
          case measure => simp [intOf]; omega
      all_goals
        have e9 := hv9
        have WI := fun w' => rwithin_any (letR ex L j) q w'
        have fz : w5.frozen? ⟨g, 2, none⟩ = false := Lib.frozen_of_heap bx5.out 2
        have ST : Hid (stR ex L d q j = (y0, y1, q)) := by show stR ex L d q j = _; unfold stR; rw [if_neg (by rw [e9]; decide), if_neg (by rw [e9]; decide), HY.out]
        have OKJ : Hid (okR ex L d q j = withR (letR ex L j) q) := by show okR ex L d q j = _; unfold okR; rw [ST.out, e9]; simp
        have UD2 : Hid (p = useD ex L d (j + 1)) := by show _ = _; rw [useD_step, e9]; rw [← UD.out]; simp
        have UN2 : Hid (true = useN ex L q (j + 1)) := by show _ = _; rw [useN_step, e9]; simp
        obtain ⟨o, ho⟩ : ∃ z, withR (letR ex L j) q = z := ⟨_, rfl⟩
        rw [ho] at OKJ WI
        rw [hv9] at WI ⊢
        simp only [UInt8.reduceToNat, Int.cast_ofNat_Int] at WI ⊢
        have WI := Lib.hid WI
        have hri6 : Hid (Ri (w5.setCell ⟨g, 2, none⟩ (.int .i64 q)) b (sB m) (.slice A4 j cap4)) := (heap_setCell_other w5 ⟨g, 2, none⟩ b _ hgb.symm).trans hri5.out
        have hO6 : Hid (OwnT (w5.setCell ⟨g, 2, none⟩ (.int .i64 q)) (b + 1) (.slice A4 j cap4) ((List.range j).map (stR ex L d q))) := row_set_ne hO5.out (p := ⟨g, 2, none⟩) GB.out _
        have hB6 : Hid (Below b w3 (w5.setCell ⟨g, 2, none⟩ (.int .i64 q))) := hB5.out.setCell (p := ⟨g, 2, none⟩) (by have := hS5.out.1; simp; omega) _
        have RW6 : Hid (Rz (w5.setCell ⟨g, 2, none⟩ (.int .i64 q)) (n + 1)) := (heap_setCell_other w5 ⟨g, 2, none⟩ (n + 1) _ hgn.symm).trans RW5.out
        have hS6 : Hid (b + 1 ≤ (w5.setCell ⟨g, 2, none⟩ (.int .i64 q)).heap.size) := by have := hS5.out; simp [Hid]; omega
        clear ho hri5 hO5 hB5 RW5
        go_wp2_with fail
        refine (WI.out _).mono ?_
        rintro e wx ⟨rfl, rfl⟩
        cases o with
        | false =>
          have B6 : Hid (Below n w (w5.setCell ⟨g, 2, none⟩ (.int .i64 q))) := B3.out.trans (hB6.out.mono (by omega))
          have NO2 := Lib.hid (fillR_no HJL.out OKJ.out)
          clear q0 q1 q2 WI hri6 hO6 hB6
          have NO : Hid (fillR ex L d q = none) := NO2.out
          obtain ⟨z0, z1, z2, z3⟩ := RW6.out.cells
          have F : Hid (RetRFill w m (fillR ex L d q) (.returned (.tuple #[.agg #[.string ⟨#[]⟩, .slice none 0 0], .bool false])) (((w5.setCell ⟨g, 2, none⟩ (.int .i64 q)).setCell ⟨n + 1, 0, none⟩ (.string ⟨#[]⟩)).setCell ⟨n + 1, 1, none⟩ (.slice none 0 0))) := by
            show RetRFill w m (fillR ex L d q) _ _
            rw [NO.out]
            refine ⟨rfl, ?_⟩
            rw [HN.out]
            exact (B6.out.setCell (p := ⟨n + 1, 0, none⟩) (by simp) _).setCell (p := ⟨n + 1, 1, none⟩) (by simp) _
          have E := Lib.hid (RW6.out.set ⟨#[]⟩ (.slice none 0 0))
          go_wp2
          obtain ⟨e0, e1⟩ := E.out
          obtain ⟨w6, hw6⟩ : ∃ w6, (((w5.setCell ⟨g, 2, none⟩ (.int .i64 q)).setCell ⟨n + 1, 0, none⟩ (.string ⟨#[]⟩)).setCell ⟨n + 1, 1, none⟩ (.slice none 0 0)) = w6 := ⟨_, rfl⟩
          rw [hw6] at F e0 e1 ⊢
          clear hw6 z0 z1 z2 z3
          refine bodyPost_ret (v := .tuple #[.agg #[.string ⟨#[]⟩, .slice none 0 0], .bool false]) ?_ rfl F.out
          simp [results, Tryz.results48, go_sem, e0, e1]
        | true =>
          have OK2 : Hid (∀ k, k < j + 1 → okR ex L d q k = true) := fun k hk => by
            by_cases e : k = j
            · rw [e]; exact OKJ.out
            · exact OK.out k (by omega)
          have W3 : Hid ((List.range (j + 1)).map (stR ex L d q) = (List.range j).map (stR ex L d q) ++ [(y0, y1, q)]) := by show _ = _; rw [map_step, ST.out]
          clear WI
          obtain ⟨-, r1⟩ := hri6.out.cells
          have BK : Hid (∀ w8, Below (b + 1) (w5.setCell ⟨g, 2, none⟩ (.int .i64 q)) w8 → Ri w8 b (sB m) (.slice A4 j cap4) ∧ Below b w3 w8 ∧ b + 1 ≤ w8.heap.size) := fun w8 hB8 => ⟨(hB8.block b (by omega)).trans hri6.out, hB6.out.trans (hB8.mono (by omega)), Nat.le_trans hS6.out hB8.size⟩
          go_wp2_with (at_builtin; refine wpList_appT hO6.out hS6.out rfl _ _ rfl rfl w5.heap.size (by simp) rfl (y0, y1, q) j HLL.out (by omega) ?_; intro A4' cap4' w8 hO8 hB8; obtain ⟨hri8, hB9, hS9⟩ := BK.out w8 hB8; rw [← W3.out] at hO8; obtain ⟨r2, r3⟩ := hri8.cells; have r4 : w8.frozen? ⟨b, 1, none⟩ = false := Lib.frozen_of_heap hri8 1; have hO8 := Lib.hid hO8; have hri8 := Lib.hid hri8; have hB9 := Lib.hid hB9; have hS9 := Lib.hid hS9; clear hB8 r2)
          have hri9 : Hid (Ri (w8.setCell ⟨b, 1, none⟩ (.slice A4' (j + 1) cap4')) b (sB m) (.slice A4' (j + 1) cap4')) := heap_setCell_same w8 b 1 _ _ _ hri8.out
          have hO9 : Hid (OwnT (w8.setCell ⟨b, 1, none⟩ (.slice A4' (j + 1) cap4')) (b + 1) (.slice A4' (j + 1) cap4') ((List.range (j + 1)).map (stR ex L d q))) := row_set hO8.out (p := ⟨b, 1, none⟩) (by simp) _
          have hBa : Hid (Below b w3 (w8.setCell ⟨b, 1, none⟩ (.slice A4' (j + 1) cap4'))) := hB9.out.setCell (p := ⟨b, 1, none⟩) (Nat.le_refl _) _
          have hSa : Hid (b + 1 ≤ (w8.setCell ⟨b, 1, none⟩ (.slice A4' (j + 1) cap4')).heap.size) := by have h1 := hS9.out; simp [Hid] at h1 ⊢; omega
          go_roundw
          case rel => exact ⟨j + 1, A4', cap4', _, _, by omega, by go_num, rfl, rfl, UD2.out, UN2.out, OK2.out, hri9.out, hO9.out, hBa.out, hSa.out⟩
          case measure => simp [intOf]; omega
    · obtain rfl : j = l := by omega
      have hw := hO.out
      have OKA : Hid (∀ k, k < L.length → okR ex L d q k = true) := fun k hk => OK.out k (by have := HL.out; omega)
      obtain ⟨c0, c1⟩ := hri.out.cells
      have UD3 : Hid (p = useD ex L d L.length) := by show _ = _; rw [HL.out]; exact UD.out
      have UN3 : Hid (r = useN ex L q L.length) := by show _ = _; rw [HL.out]; exact UN.out
      have hO7 := hO
      clear hw UD UN OK
      cases p with
      | false =>
        have NO2 := Lib.hid (fillR_noD (n := q) UD3.out.symm)
        clear UD3 UN3 c0 c1 hO hri hO7 OKA
        have NO : Hid (fillR ex L d q = none) := NO2.out
        obtain ⟨z0, z1, z2, z3⟩ := RW.out.cells
        have F : Hid (RetRFill w m (fillR ex L d q) (.returned (.tuple #[.agg #[.string ⟨#[]⟩, .slice none 0 0], .bool false])) ((wr.setCell ⟨n + 1, 0, none⟩ (.string ⟨#[]⟩)).setCell ⟨n + 1, 1, none⟩ (.slice none 0 0))) := by
          show RetRFill w m (fillR ex L d q) _ _
          rw [NO.out]
          refine ⟨rfl, ?_⟩
          rw [HN.out]
          exact (BW.out.setCell (p := ⟨n + 1, 0, none⟩) (by simp) _).setCell (p := ⟨n + 1, 1, none⟩) (by simp) _
        have E := Lib.hid (RW.out.set ⟨#[]⟩ (.slice none 0 0))
        go_wp2
        obtain ⟨e0, e1⟩ := E.out
        obtain ⟨w6, hw6⟩ : ∃ w6, ((wr.setCell ⟨n + 1, 0, none⟩ (.string ⟨#[]⟩)).setCell ⟨n + 1, 1, none⟩ (.slice none 0 0)) = w6 := ⟨_, rfl⟩
        rw [hw6] at F e0 e1 ⊢
        clear hw6 z0 z1 z2 z3
        refine bodyPost_ret (v := .tuple #[.agg #[.string ⟨#[]⟩, .slice none 0 0], .bool false]) ?_ rfl F.out
        simp [results, Tryz.results48, go_sem, e0, e1]
      | true =>
        cases r with
        | false =>
          have NO2 := Lib.hid (fillR_noN (d := d) UN3.out.symm)
          clear UD3 UN3 c0 c1 hO hri hO7 OKA
          have NO : Hid (fillR ex L d q = none) := NO2.out
          obtain ⟨z0, z1, z2, z3⟩ := RW.out.cells
          have F : Hid (RetRFill w m (fillR ex L d q) (.returned (.tuple #[.agg #[.string ⟨#[]⟩, .slice none 0 0], .bool false])) ((wr.setCell ⟨n + 1, 0, none⟩ (.string ⟨#[]⟩)).setCell ⟨n + 1, 1, none⟩ (.slice none 0 0))) := by
            show RetRFill w m (fillR ex L d q) _ _
            rw [NO.out]
            refine ⟨rfl, ?_⟩
            rw [HN.out]
            exact (BW.out.setCell (p := ⟨n + 1, 0, none⟩) (by simp) _).setCell (p := ⟨n + 1, 1, none⟩) (by simp) _
          have E := Lib.hid (RW.out.set ⟨#[]⟩ (.slice none 0 0))
          go_wp2
          obtain ⟨e0, e1⟩ := E.out
          obtain ⟨w6, hw6⟩ : ∃ w6, ((wr.setCell ⟨n + 1, 0, none⟩ (.string ⟨#[]⟩)).setCell ⟨n + 1, 1, none⟩ (.slice none 0 0)) = w6 := ⟨_, rfl⟩
          rw [hw6] at F e0 e1 ⊢
          clear hw6 z0 z1 z2 z3
          refine bodyPost_ret (v := .tuple #[.agg #[.string ⟨#[]⟩, .slice none 0 0], .bool false]) ?_ rfl F.out
          simp [results, Tryz.results48, go_sem, e0, e1]
        | true =>
          have YES := Lib.hid (fillR_yes OKA.out UD3.out.symm UN3.out.symm)
          have F : Hid (RetRFill w m (fillR ex L d q) (.returned (.tuple #[.agg #[.string (sB m), .slice A4 j cap4], .bool true])) ((wr.setCell ⟨n + 1, 0, none⟩ (.string (sB m))).setCell ⟨n + 1, 1, none⟩ (.slice A4 j cap4))) := by
            show RetRFill w m (fillR ex L d q) _ _
            rw [YES.out, HL.out]
            refine ⟨_, rfl, ?_, ?_⟩
            · rw [HN.out]
              exact row_mono (row_set (row_set hO7.out (p := ⟨n + 1, 0, none⟩) (by simp; omega) _) (p := ⟨n + 1, 1, none⟩) (by simp; omega) _) (by omega)
            · rw [HN.out]
              exact (BW.out.setCell (p := ⟨n + 1, 0, none⟩) (by simp) _).setCell (p := ⟨n + 1, 1, none⟩) (by simp) _
          obtain ⟨z0, z1, z2, z3⟩ := RW.out.cells
          have E := Lib.hid (RW.out.set (sB m) (.slice A4 j cap4))
          clear UD3 UN3 hO hri hO7 OKA YES
          go_wp2
          obtain ⟨e0, e1⟩ := E.out
          obtain ⟨w6, hw6⟩ : ∃ w6, ((wr.setCell ⟨n + 1, 0, none⟩ (.string (sB m))).setCell ⟨n + 1, 1, none⟩ (.slice A4 j cap4)) = w6 := ⟨_, rfl⟩
          rw [hw6] at F e0 e1 ⊢
          clear hw6 z0 z1 z2 z3 c0 c1
          refine bodyPost_ret (v := .tuple #[.agg #[.string (sB m), .slice A4 j cap4], .bool true]) ?_ rfl F.out
          simp [results, Tryz.results48, go_sem, e0, e1]
end Go.Proofs.YtmnleknehjkmgaaGreat
namespace Go.Proofs.YtmnleknehjkmgaaGreat
open Go.RowKit Go.Shelf
theorem rprefixes_1 (w : World) : Calls Tryz.prog 60 #[.int .i64 1] w (RetB w [203]) := by
  have O := Lib.hid (own_lit w [203] (by decide))
  go_enter Tryz.func60, Tryz.ntmps60
  go_wp2
  go_ret
  exact ⟨_, rfl, O.out, (Below.refl _ _).alloc (Nat.le_refl _) _⟩
theorem rprefixes_2 (w : World) : Calls Tryz.prog 60 #[.int .i64 2] w (RetB w [237]) := by
  have O := Lib.hid (own_lit w [237] (by decide))
  go_enter Tryz.func60, Tryz.ntmps60
  go_wp2
  go_ret
  exact ⟨_, rfl, O.out, (Below.refl _ _).alloc (Nat.le_refl _) _⟩
theorem rprefixes_3 (w : World) : Calls Tryz.prog 60 #[.int .i64 3] w (RetB w [221]) := by
  have O := Lib.hid (own_lit w [221] (by decide))
  go_enter Tryz.func60, Tryz.ntmps60
  go_wp2
  go_ret
  exact ⟨_, rfl, O.out, (Below.refl _ _).alloc (Nat.le_refl _) _⟩
theorem rprefixes_4 (w : World) : Calls Tryz.prog 60 #[.int .i64 4] w (RetB w [253]) := by
  have O := Lib.hid (own_lit w [253] (by decide))
  go_enter Tryz.func60, Tryz.ntmps60
  go_wp2
  go_ret
  exact ⟨_, rfl, O.out, (Below.refl _ _).alloc (Nat.le_refl _) _⟩
theorem rprefixes_5 (w : World) : Calls Tryz.prog 60 #[.int .i64 5] w (RetB w [221, 203]) := by
  have O := Lib.hid (own_lit w [221, 203] (by decide))
  go_enter Tryz.func60, Tryz.ntmps60
  go_wp2
  go_ret
  exact ⟨_, rfl, O.out, (Below.refl _ _).alloc (Nat.le_refl _) _⟩
theorem rprefixes_6 (w : World) : Calls Tryz.prog 60 #[.int .i64 6] w (RetB w [253, 203]) := by
  have O := Lib.hid (own_lit w [253, 203] (by decide))
  go_enter Tryz.func60, Tryz.ntmps60
  go_wp2
  go_ret
  exact ⟨_, rfl, O.out, (Below.refl _ _).alloc (Nat.le_refl _) _⟩
theorem rprefixes_any (page : Int) (w : World) : Calls Tryz.prog 60 #[.int .i64 page] w (RetB w (preS page)) := by
  unfold preS
  by_cases h1 : page = 1
  · rw [if_pos h1]; subst h1; exact rprefixes_1 w
  by_cases h2 : page = 2
  · rw [if_neg h1, if_pos h2]; subst h2; exact rprefixes_2 w
  by_cases h3 : page = 3
  · rw [if_neg h1, if_neg h2, if_pos h3]; subst h3; exact rprefixes_3 w
  by_cases h4 : page = 4
  · rw [if_neg h1, if_neg h2, if_neg h3, if_pos h4]; subst h4; exact rprefixes_4 w
  by_cases h5 : page = 5
  · rw [if_neg h1, if_neg h2, if_neg h3, if_neg h4, if_pos h5]; subst h5; exact rprefixes_5 w
  by_cases h6 : page = 6
  · rw [if_neg h1, if_neg h2, if_neg h3, if_neg h4, if_neg h5, if_pos h6]; subst h6; exact rprefixes_6 w
  rw [if_neg h1, if_neg h2, if_neg h3, if_neg h4, if_neg h5, if_neg h6]
  have e1 : (page == 1) = false := by simpa using h1
  have e2 : (page == 2) = false := by simpa using h2
  have e3 : (page == 3) = false := by simpa using h3
  have e4 : (page == 4) = false := by simpa using h4
  have e5 : (page == 5) = false := by simpa using h5
  have e6 : (page == 6) = false := by simpa using h6
  clear h1 h2 h3 h4 h5 h6
  go_enter Tryz.func60, Tryz.ntmps60
  go_wp2
  go_ret
  exact ⟨_, rfl, World.ownsRow_nil _ _ _ _, Below.refl _ _⟩
theorem BytesAt.at_ {w : World} {A : Option Addr} {L : Str} (h : BytesAt w A L) {k : Nat} (hk : k < L.length) : ∃ b off, A = some ⟨b, off, none⟩ ∧ w.cell? ⟨b, off + k, none⟩ = some (.int .u8 (L[k].toNat : Int)) := by
  rcases h with rfl | ⟨b, off, rfl, hc⟩
  · simp at hk
  · exact ⟨b, off, rfl, hc k hk⟩
theorem equalU_any (A1 A2 : Option Addr) (c1 c2 : Nat) (L1 L2 : Str) (h1 : L1.length ≤ maxLen) (h2 : L2.length ≤ maxLen) (w : World) (H1 : BytesAt w A1 L1) (H2 : BytesAt w A2 L2) :
    Calls Tryz.prog 12 #[.slice A1 L1.length c1, .slice A2 L2.length c2] w fun e w' => e = .returned (.bool (decide (L1 = L2))) ∧ Below w.heap.size w w' := by
  unfold maxLen at h1 h2
  by_cases hl : L1.length = L2.length
  · have X1 := Lib.hid H1
    have X2 := Lib.hid H2
    have HL := Lib.hid hl
    obtain ⟨n, hn⟩ : ∃ n, L1.length = n := ⟨_, rfl⟩
    have HN := Lib.hid hn
    rw [hn] at h1
    rw [← hl, hn]
    clear H1 H2 hl h2 hn
    go_enter Tryz.func12, Tryz.ntmps12
    go_wp2
    go_loopw [13] (fun i wr => ∃ j : Nat, j ≤ n ∧ i = .int .i64 j ∧ Hid (∀ k, k < j → ∀ (a : k < L1.length) (b : k < L2.length), L1[k] = L2[k]) ∧ Hid (Below w.heap.size w wr)) (fun i _ => n - (intOf i).toNat)
    case atStart => exact ⟨0, Nat.zero_le _, rfl, fun k h => by omega, Below.refl _ _⟩
    case round =>
      obtain ⟨j, hj, rfl, R, B⟩ := hrel
      by_cases hlt : j < n
      · have hj1 : j < L1.length := by have := HN.out; omega
        have hj2 : j < L2.length := by have := HL.out; omega
        obtain ⟨b1, o1, hA1, p0⟩ := (X1.out.below B.out).at_ hj1
        obtain ⟨b2, o2, hA2, q0⟩ := (X2.out.below B.out).at_ hj2
        subst hA1
        subst hA2
        have B2 := fun q => Lib.hid (B.out.trans (below_drewN wr w.heap.size q))
        by_cases he : L1[j] = L2[j]
        · have R2 : Hid (∀ k, k < j + 1 → ∀ (a : k < L1.length) (b : k < L2.length), L1[k] = L2[k]) := fun k hk a b => by
            by_cases e : k = j
            · subst e; exact he
            · exact R.out k (by omega) a b
          rw [he] at p0
          clear he hj1 R
          go_wp2
          go_quiet (fail)
          go_wp2
          go_roundw
          case rel => exact ⟨j + 1, by omega, by go_num, R2.out, (B2 _).out⟩
          case measure => simp [intOf]; omega
        · have T : Hid (false = decide (L1 = L2)) := (decide_eq_false (fun e => he (by simp only [e]))).symm
          have hne : ((L1[j].toNat : Int) == (L2[j].toNat : Int)) = false := by
            refine beq_eq_false_iff_ne.2 fun e => he (UInt8.toNat_inj.1 (by omega))
          have hne2 : ((L1[j].toNat : Int) != (L2[j].toNat : Int)) = true := by unfold bne; rw [hne]; rfl
          clear he R
          go_wp2
          go_quiet (fail)
          go_wp2
          go_ret
          exact ⟨ret_bool T.out, (B2 _).out⟩
      · have T : Hid (true = decide (L1 = L2)) := by
          refine (decide_eq_true (List.ext_getElem HL.out fun k a b => ?_)).symm
          exact R.out k (by have := HN.out; omega) a b
        go_wp2
        go_ret
        exact ⟨ret_bool T.out, B.out⟩
  · have T : Hid (false = decide (L1 = L2)) := (decide_eq_false (fun e => hl (by rw [e]))).symm
    have hne : ((L1.length : Int) == (L2.length : Int)) = false := by
      refine beq_eq_false_iff_ne.2 fun e => hl (by omega)
    have hne2 : ((L1.length : Int) != (L2.length : Int)) = true := by unfold bne; rw [hne]; rfl
    go_enter Tryz.func12, Tryz.ntmps12
    go_wp2
    go_ret
    exact ⟨ret_bool T.out, Below.refl _ _⟩
end Go.Proofs.YtmnleknehjkmgaaGreat
namespace Go.Proofs.YtmnleknehjkmgaaGreat
open Go.RowKit Go.Shelf
attribute [local go_sem] Oper.semAt_some
end Go.Proofs.YtmnleknehjkmgaaGreat
namespace Go.Fr
open Go Go.RowKit
structure F where
  p : World → Prop
  up : ∀ {w w' : World}, p w → Below w.heap.size w w' → p w'
def St (w : World) : List F → Prop
  | [] => True
  | f :: l => f.p w ∧ St w l
theorem St.up {w w' : World} : ∀ {l : List F}, St w l → Below w.heap.size w w' → St w' l
  | [], _, _ => trivial
  | f :: _, h, hb => ⟨f.up h.1 hb, St.up h.2 hb⟩
theorem up {w w' : World} {l : List F} (h : Hid (St w l)) (hb : Below w.heap.size w w') : Hid (St w' l) := St.up (l := l) h hb
theorem add {w : World} {l : List F} (h : Hid (St w l)) (f : F) (hp : f.p w) : Hid (St w (f :: l)) := ⟨hp, h⟩
theorem nil (w : World) : Hid (St w []) := trivial
def blk (b : Nat) (o : Obj) : F := ⟨fun w => w.heap[b]? = some o, fun h hb => (hb.block _ (Array.getElem?_eq_some_iff.1 h).1).trans h⟩
def bel (n : Nat) (w0 : World) : F := ⟨fun w => Below n w0 w ∧ n ≤ w.heap.size, fun h hb => ⟨h.1.trans (hb.mono h.2), Nat.le_trans h.2 hb.size⟩⟩
def sz (n : Nat) : F := ⟨fun w => n ≤ w.heap.size, fun h hb => Nat.le_trans h hb.size⟩
theorem start (w : World) (n : Nat) (hn : w.heap.size = n) : Hid (St w [bel n w]) := ⟨⟨Below.refl _ _, Nat.le_of_eq hn.symm⟩, trivial⟩
theorem box {w : World} {l : List F} (h : Hid (St w l)) (cs : Array Value) (t : TypeId) : ∃ b w2, w.heap.size = b ∧ w.alloc (.cells cs t) = w2 ∧ Hid (St w2 (blk b (.cells cs t (0, 0)) :: l)) ∧ Below w.heap.size w w2 ∧ w2.heap.size = b + 1 :=
  have hb : Below w.heap.size w (w.alloc (.cells cs t)) := (Below.refl _ w).alloc (Nat.le_refl _) _
  ⟨_, _, rfl, rfl, add (up h hb) (blk w.heap.size _) (World.alloc_heap_new w _), hb, by simp⟩
theorem cells2 {w : World} {b : Nat} {a0 a1 : Value} {T : TypeId} {fr : Nat × Nat} (h : w.heap[b]? = some (.cells #[a0, a1] T fr)) : w.cell? ⟨b, 0, none⟩ = some a0 ∧ w.cell? ⟨b, 1, none⟩ = some a1 := ⟨Lib.cell_of_heap h 0, Lib.cell_of_heap h 1⟩
theorem cells6 {w : World} {b : Nat} {a0 a1 a2 a3 a4 a5 : Value} {T : TypeId} {fr : Nat × Nat} (h : w.heap[b]? = some (.cells #[a0, a1, a2, a3, a4, a5] T fr)) : w.cell? ⟨b, 0, none⟩ = some a0 ∧ w.cell? ⟨b, 1, none⟩ = some a1 ∧ w.cell? ⟨b, 2, none⟩ = some a2 ∧ w.cell? ⟨b, 3, none⟩ = some a3 ∧ w.cell? ⟨b, 4, none⟩ = some a4 ∧ w.cell? ⟨b, 5, none⟩ = some a5 := ⟨Lib.cell_of_heap h 0, Lib.cell_of_heap h 1, Lib.cell_of_heap h 2, Lib.cell_of_heap h 3, Lib.cell_of_heap h 4, Lib.cell_of_heap h 5⟩
end Go.Fr
namespace Go.Mixed
open Go
section
variable {P : Program} {ops : Array Oper}
theorem mp {C : World → Prop} {T : Act → World → Prop} {k : Nat} {r : List (Nat × Bool)} {a : Act} {w : World} {o : Oper} (ho : ops[k]? = some o) (v : Value)
    (h : wpMix P ops C T r (a.put o.dst v) w) (hw : Region.wanted o (yielded ops a.tmps) = true := by kernel_rfl)
    (hv : ∀ w, C w → (execOp a.eval o).run P w = .ok (.value v) w := by intro w h; first | (clear h; go_simp; done) | (clear h; go_simp; rfl) | (go_simp; done) | (go_simp; rfl)) : wpMix P ops C T ((k, true) :: r) a w := wpMix_pure ho hw v hv h
theorem mo {C : World → Prop} {T : Act → World → Prop} {k : Nat} {r : List (Nat × Bool)} {a : Act} {w : World} {o : Oper} (ho : ops[k]? = some o) (v : Value)
    (hv : ∀ w, C w → (execOp a.eval o).run P w = .ok (.value v) w) (h : wpMix P ops C T r (a.put o.dst v) w) (hw : Region.wanted o (yielded ops a.tmps) = true := by kernel_rfl) : wpMix P ops C T ((k, true) :: r) a w := wpMix_pure ho hw v hv h
theorem ms {C : World → Prop} {T : Act → World → Prop} {k : Nat} {r : List (Nat × Bool)} {a : Act} {w : World} {o : Oper} (ho : ops[k]? = some o)
    (h : wpMix P ops C T r (a.put o.dst undef) w) (hw : Region.wanted o (yielded ops a.tmps) = false := by kernel_rfl) : wpMix P ops C T ((k, true) :: r) a w := wpMix_skip ho hw h
end
end Go.Mixed
namespace Go.Proofs.YtmnleknehjkmgaaGreat
open Go.RowKit Go.Shelf
attribute [local go_sem] Oper.semAt_some
def ItAt (w : World) (b : Nat) (kind : Int) (va : Value) (s : ByteArray) (vb : Value) (al : Bool) : Prop := w.heap[b]? = some (.cells #[.int .i64 kind, va, .string s, vb, .bool al] 34 (0, 0))
section
variable {w w' : World} {b : Nat} {kind : Int} {va vb : Value} {s : ByteArray} {al : Bool}
theorem ItAt.lt (h : ItAt w b kind va s vb al) : b < w.heap.size := (Array.getElem?_eq_some_iff.1 h).1
theorem ItAt.all (h : ItAt w b kind va s vb al) (hb : Below w.heap.size w w') : ItAt w' b kind va s vb al := (hb.block b h.lt).trans h
theorem ItAt.cells (h : ItAt w b kind va s vb al) : w.cell? ⟨b, 0, none⟩ = some (.int .i64 kind) ∧ w.cell? ⟨b, 1, none⟩ = some va ∧ w.cell? ⟨b, 2, none⟩ = some (.string s) ∧ w.cell? ⟨b, 3, none⟩ = some vb ∧ w.cell? ⟨b, 4, none⟩ = some (.bool al) ∧ ∀ i, w.frozen? ⟨b, i, none⟩ = false :=
  ⟨Lib.cell_of_heap h 0, Lib.cell_of_heap h 1, Lib.cell_of_heap h 2, Lib.cell_of_heap h 3, Lib.cell_of_heap h 4, fun i => Lib.frozen_of_heap h i⟩
theorem ItAt.put (h : ItAt w b kind va s vb al) (k' : Int) (va' : Value) (s' : ByteArray) (vb' : Value) (al' : Bool) :
    ∃ w', ((((w.setCell ⟨b, 0, none⟩ (.int .i64 k')).setCell ⟨b, 1, none⟩ va').setCell ⟨b, 2, none⟩ (.string s')).setCell ⟨b, 3, none⟩ vb').setCell ⟨b, 4, none⟩ (.bool al') = w' ∧
      ItAt w' b k' va' s' vb' al' ∧ Below b w w' ∧ w'.heap.size = w.heap.size ∧ (∀ B u L, b < B → OwnT w B u L → OwnT w' B u L) ∧ (∀ B u L, b < B → TOwnB w B u L → TOwnB w' B u L) ∧ ∀ k, k ≠ b → w'.heap[k]? = w.heap[k]? := by
  refine ⟨_, rfl, ?_, ?_, by simp, fun B u L hB hO => ?_, fun B u L hB hO => ?_, fun k hk => ?_⟩
  · have h1 := heap_setCell_same w b 0 _ _ (.int .i64 k') h
    have h2 := heap_setCell_same _ b 1 _ _ va' h1
    have h3 := heap_setCell_same _ b 2 _ _ (.string s') h2
    have h4 := heap_setCell_same _ b 3 _ _ vb' h3
    exact heap_setCell_same _ b 4 _ _ (.bool al') h4
  · exact (((((Below.refl b w).setCell (p := ⟨b, 0, none⟩) (Nat.le_refl _) _).setCell (p := ⟨b, 1, none⟩) (Nat.le_refl _) _).setCell (p := ⟨b, 2, none⟩) (Nat.le_refl _) _).setCell (p := ⟨b, 3, none⟩) (Nat.le_refl _) _).setCell (p := ⟨b, 4, none⟩) (Nat.le_refl _) _
  · exact row_set (row_set (row_set (row_set (row_set hO (p := ⟨b, 0, none⟩) hB _) (p := ⟨b, 1, none⟩) hB _) (p := ⟨b, 2, none⟩) hB _) (p := ⟨b, 3, none⟩) hB _) (p := ⟨b, 4, none⟩) hB _
  · exact row_set (row_set (row_set (row_set (row_set hO (p := ⟨b, 0, none⟩) hB _) (p := ⟨b, 1, none⟩) hB _) (p := ⟨b, 2, none⟩) hB _) (p := ⟨b, 3, none⟩) hB _) (p := ⟨b, 4, none⟩) hB _
  · exact (heap_setCell_other _ ⟨b, 4, none⟩ k _ hk).trans ((heap_setCell_other _ ⟨b, 3, none⟩ k _ hk).trans ((heap_setCell_other _ ⟨b, 2, none⟩ k _ hk).trans ((heap_setCell_other _ ⟨b, 1, none⟩ k _ hk).trans (heap_setCell_other _ ⟨b, 0, none⟩ k _ hk))))
end
theorem it_start (w : World) (n : Nat) (hn : w.heap.size = n) : ∃ w0, w.alloc (.cells #[.int .i64 0, .slice none 0 0, .string ⟨#[]⟩, .slice none 0 0, .bool false] 34) = w0 ∧ ItAt w0 n 0 (.slice none 0 0) ⟨#[]⟩ (.slice none 0 0) false ∧ Below w.heap.size w w0 ∧ w0.heap.size = n + 1 := by
  subst hn
  exact ⟨_, rfl, World.alloc_heap_new w _, (Below.refl _ w).alloc (Nat.le_refl _) _, by simp⟩
def RetIt (w : World) (x : Ite) (e : Ending) (w' : World) : Prop := ∃ A c B c2, e = .returned (.agg #[.int .i64 x.kind, .slice A x.raw.length c, .string (sB x.m), .slice B x.C.length c2, .bool x.al]) ∧
  TOwnB w' w.heap.size (.slice A x.raw.length c) x.raw ∧ OwnT w' w.heap.size (.slice B x.C.length c2) x.C ∧ Below w.heap.size w w'
theorem ownT_nil (w : World) (n : Nat) : OwnT w n (.slice none 0 0) [] := World.ownsRow_nil _ _ _ _
theorem BytesAt.cellAt {w : World} {A : Option Addr} {b : Str} (h : BytesAt w A b) {j : Nat} (hj : j < b.length) : ∃ g off, A = some ⟨g, off, none⟩ ∧ w.cell? ⟨g, off + j, none⟩ = some (.int .u8 (b[j].toNat : Int)) := by
  rcases h with rfl | ⟨g, off, rfl, hc⟩
  · simp at hj
  · exact ⟨g, off, rfl, hc j hj⟩
theorem take_at {w : World} {A : Option Addr} {xs : Str} (h : BytesAt w A xs) (k : Nat) : BytesAt w A (xs.take k) := by
  rcases h with rfl | ⟨b, off, rfl, hc⟩
  · exact .inl (by simp)
  · refine .inr ⟨b, off, rfl, fun j hj => ?_⟩
    rw [List.getElem_take]
    exact hc j (by rw [List.length_take] at hj; omega)
theorem rpage12_any (b : Str) (hb : b ≠ []) (A : Option Addr) (cap l : Nat) (hl : b.length = l) (w : World) (H : BytesAt w A b) :
    Calls Tryz.prog 43 #[.slice A l cap] w fun e w' => e = .returned (.tuple #[.int .i64 (pgA b).1, .int .i64 ((pgA b).2 : Nat)]) ∧ w' = w := by
  cases b with
  | nil => exact absurd rfl hb
  | cons c r =>
    obtain ⟨g, off, rfl, k0⟩ := H.cellAt (j := 0) (by simp)
    simp only [List.getElem_cons_zero, Nat.add_zero] at k0
    have hl1 : 1 ≤ l := by simp at hl; omega
    have t1 : ((c.toNat : Int) == 203) = decide (c = 203) := u8_beq c 203
    have t2 : ((c.toNat : Int) == 237) = decide (c = 237) := u8_beq c 237
    have t3 : ((c.toNat : Int) == 221) = decide (c = 221) := u8_beq c 221
    have t4 : ((c.toNat : Int) == 253) = decide (c = 253) := u8_beq c 253
    have HC : Hid (pgA (c :: r) = if c = 203 then (1, 1) else if c = 237 then (2, 1) else if c = 221 then (if r.head? = some 203 then (5, 3) else (3, 1)) else if c = 253 then (if r.head? = some 203 then (6, 3) else (4, 1)) else (0, 0)) := rfl
    obtain ⟨⟨p, at_⟩, hp⟩ : ∃ q, pgA (c :: r) = q := ⟨_, rfl⟩
    rw [hp] at HC ⊢
    have HY : Hid (∀ y u, r = y :: u → w.cell? ⟨g, off + 1, none⟩ = some (.int .u8 (y.toNat : Int)) ∧ ((y.toNat : Int) == 203) = decide (y = 203)) := fun y u e => by
      subst e
      obtain ⟨g', off', e, k⟩ := H.cellAt (j := 1) (by simp)
      simp only [Option.some.injEq, Addr.mk.injEq] at e
      obtain ⟨rfl, rfl, -⟩ := e
      exact ⟨k, u8_beq y 203⟩
    clear hp H hb
    by_cases h1 : c = 203
    · rw [decide_eq_true h1] at t1
      have hq := HC.out
      rw [if_pos h1] at hq
      obtain ⟨rfl, rfl⟩ := Prod.mk.inj hq
      clear h1 t2 t3 t4 HC hq HY hl
      go_enter Tryz.func43, Tryz.ntmps43
      go_wp2
      go_ret2
      exact ⟨rfl, rfl⟩
    rw [decide_eq_false h1] at t1
    by_cases h2 : c = 237
    · rw [decide_eq_true h2] at t2
      have hq := HC.out
      rw [if_neg h1, if_pos h2] at hq
      obtain ⟨rfl, rfl⟩ := Prod.mk.inj hq
      clear h1 h2 t3 t4 HC hq HY hl
      go_enter Tryz.func43, Tryz.ntmps43
      go_wp2
      go_ret2
      exact ⟨rfl, rfl⟩
    rw [decide_eq_false h2] at t2
    by_cases h5 : c = 221 ∨ c = 253
    · by_cases hy : r.head? = some 203
      · obtain ⟨u, rfl⟩ : ∃ u, r = 203 :: u := by
          cases r with
          | nil => cases hy
          | cons y u => simp only [List.head?_cons, Option.some.injEq] at hy; subst hy; exact ⟨u, rfl⟩
        obtain ⟨k1, t5⟩ := HY.out 203 u rfl
        have hl2 : 2 ≤ l := by simp at hl; omega
        rw [show (((203 : UInt8).toNat : Nat) : Int) = 203 from rfl] at k1
        have hq := HC.out
        rw [if_neg h1, if_neg h2] at hq
        rcases h5 with h5 | h5
        · rw [if_pos h5, if_pos hy] at hq
          obtain ⟨rfl, rfl⟩ := Prod.mk.inj hq
          rw [decide_eq_true h5] at t3
          rw [decide_eq_false (by rw [h5]; decide)] at t4
          clear h1 h2 h5 hy HC hq HY hl t5
          go_enter Tryz.func43, Tryz.ntmps43
          go_wp2
          go_ret2
          exact ⟨rfl, rfl⟩
        · rw [if_neg (by rw [h5]; decide), if_pos h5, if_pos hy] at hq
          obtain ⟨rfl, rfl⟩ := Prod.mk.inj hq
          rw [decide_eq_true h5] at t4
          rw [decide_eq_false (by rw [h5]; decide)] at t3
          clear h1 h2 h5 hy HC hq HY hl t5
          go_enter Tryz.func43, Tryz.ntmps43
          go_wp2
          go_ret2
          exact ⟨rfl, rfl⟩
      · have hq := HC.out
        rw [if_neg h1, if_neg h2] at hq
        have hfin : (c = 221 ∧ p = 3 ∨ c = 253 ∧ p = 4) ∧ at_ = 1 := by
          rcases h5 with h5 | h5
          · rw [if_pos h5, if_neg hy] at hq
            obtain ⟨rfl, rfl⟩ := Prod.mk.inj hq
            exact ⟨.inl ⟨h5, rfl⟩, rfl⟩
          · rw [if_neg (by rw [h5]; decide), if_pos h5, if_neg hy] at hq
            obtain ⟨rfl, rfl⟩ := Prod.mk.inj hq
            exact ⟨.inr ⟨h5, rfl⟩, rfl⟩
        obtain ⟨hfin, rfl⟩ := hfin
        have hcase : l = 1 ∨ (2 ≤ l ∧ ∃ y, w.cell? ⟨g, off + 1, none⟩ = some (.int .u8 (y : Int)) ∧ ((y : Int) == 203) = false) := by
          cases r with
          | nil => simp at hl; exact .inl hl.symm
          | cons y u =>
            obtain ⟨k1, t5⟩ := HY.out y u rfl
            refine .inr ⟨by simp at hl; omega, (y.toNat : Int), k1, ?_⟩
            rw [t5]
            simp only [List.head?_cons, Option.some.injEq] at hy
            exact decide_eq_false hy
        rcases hfin with ⟨h5, rfl⟩ | ⟨h5, rfl⟩
        · rw [decide_eq_true h5] at t3
          rw [decide_eq_false (by rw [h5]; decide)] at t4
          clear h1 h2 h5 hy HC hq HY hl
          rcases hcase with rfl | ⟨h6, y, k1, t5⟩
          · go_enter Tryz.func43, Tryz.ntmps43
            go_wp2
            go_ret2
            exact ⟨rfl, rfl⟩
          · go_enter Tryz.func43, Tryz.ntmps43
            go_wp2
            go_ret2
            exact ⟨rfl, rfl⟩
        · rw [decide_eq_true h5] at t4
          rw [decide_eq_false (by rw [h5]; decide)] at t3
          clear h1 h2 h5 hy HC hq HY hl
          rcases hcase with rfl | ⟨h6, y, k1, t5⟩
          · go_enter Tryz.func43, Tryz.ntmps43
            go_wp2
            go_ret2
            exact ⟨rfl, rfl⟩
          · go_enter Tryz.func43, Tryz.ntmps43
            go_wp2
            go_ret2
            exact ⟨rfl, rfl⟩
    · have h3 : c ≠ 221 := fun h => h5 (.inl h)
      have h4 : c ≠ 253 := fun h => h5 (.inr h)
      rw [decide_eq_false h3] at t3
      rw [decide_eq_false h4] at t4
      have hq := HC.out
      rw [if_neg h1, if_neg h2, if_neg h3, if_neg h4] at hq
      obtain ⟨rfl, rfl⟩ := Prod.mk.inj hq
      clear h1 h2 h3 h4 h5 HC hq HY hl
      go_enter Tryz.func43, Tryz.ntmps43
      go_wp2
      go_ret2
      exact ⟨rfl, rfl⟩
theorem ritem12_any (kind : Int) (b : Str) (A : Option Addr) (cap l : Nat) (hl : b.length = l) (hc : l ≤ cap) (hcm : cap ≤ maxLen) (k : Nat) (hk : k ≤ l) (hl2 : l ≤ 10000) (w : World) (H : BytesAt w A b) :
    Calls Tryz.prog 44 #[.int .i64 kind, .slice A l cap, .int .i64 k] w (RetIt w (iteO kind (b.take k))) := by
  obtain ⟨n, hn⟩ : ∃ z, w.heap.size = z := ⟨_, rfl⟩
  obtain ⟨w0, hw0, I0, y0, z0⟩ := it_start w n hn
  obtain ⟨w1, hw1⟩ : ∃ z, w0.alloc (.cells #[] 5) = z := ⟨_, rfl⟩
  have y1 : Below w0.heap.size w0 w1 := by rw [← hw1]; exact up_alloc _ _
  have O1 : Hid (TOwnB w1 (n + 1) (.slice (some ⟨n + 1, 0, none⟩) 0 0) []) := by rw [← hw1, ← z0]; exact own_lit w0 [] (by decide)
  have P1 : Hid (BytesAt w1 A (b.take k)) := take_at ((H.below y0).below y1) k
  have I1 := Lib.hid (I0.all y1)
  have B1 : Hid (Below n w w1) := by rw [← hn]; exact y0.trans (y1.mono y0.size)
  have Z1 : Hid (n + 1 ≤ w1.heap.size) := by have := y1.size; show _ ≤ _; omega
  have LT : Hid ((b.take k).length = k) := by show _ = _; rw [List.length_take]; omega
  have HN := Lib.hid hn
  have hkc : ¬ cap < k := by omega
  unfold maxLen at hcm
  clear H y0 y1 I0 hl
  go_enter Tryz.func44, Tryz.ntmps44
  have NX : Hid (∀ A2 c2 w2, TOwnB w2 (n + 1) (.slice A2 k c2) ([] ++ b.take k) → Below (n + 1) w1 w2 → ItAt w2 n 0 (.slice none 0 0) ⟨#[]⟩ (.slice none 0 0) false ∧ TOwnB w2 (n + 1) (.slice A2 k c2) (b.take k) ∧ Below n w w2) := fun A2 c2 w2 h1 h2 => ⟨(h2.block n (by omega)).trans I1.out, h1, B1.out.trans (h2.mono (by omega))⟩
  clear B1 I1
  go_wp2_with (at_builtin; refine wpList_appBs (xs := []) (ys := b.take k) O1.out P1.out Z1.out (by rw [LT.out]; simp; omega) rfl _ _ rfl rfl rfl k LT.out rfl k (by simp) ?_; intro A2 c2 w2 h1 h2; obtain ⟨h3, h4, h5⟩ := NX.out A2 c2 w2 h1 h2; have I2 := Lib.hid h3; have O2 := Lib.hid h4; have B2 := Lib.hid h5; obtain ⟨k0, k1, k2, k3, k4, k5⟩ := h3.cells; clear h1 h2 h3 h4 h5)
  obtain ⟨w3, hw3, i1, i2, i3, i4, i5, i6⟩ := I2.out.put kind (.slice A2 k c2) ⟨#[]⟩ (.slice none 0 0) false
  rw [hw3]
  obtain ⟨j0, j1, j2, j3, j4, j5⟩ := i1.cells
  refine bodyPost_ret (v := .agg #[.int .i64 kind, .slice A2 k c2, .string ⟨#[]⟩, .slice none 0 0, .bool false]) ?_ rfl ?_
  · simp [results, Tryz.results44, go_sem, j0, j1, j2, j3, j4]
  · refine ⟨A2, c2, none, 0, ?_, ?_, ?_, ?_⟩
    · simp only [iteO, LT.out]; rfl
    · simp only [iteO, LT.out, HN.out]
      exact (i5 (n + 1) _ _ (by omega) O2.out).lift (by omega)
    · exact ownT_nil _ _
    · rw [HN.out]; exact B2.out.trans i2
end Go.Proofs.YtmnleknehjkmgaaGreat
namespace Go.Proofs.YtmnleknehjkmgaaGreat
open Go.RowKit Go.Shelf
attribute [local go_sem] Oper.semAt_some
def BsP (w : World) (A : Option Addr) (Ls : List Str) : Prop := Ls = [] ∨ ∃ b off, A = some ⟨b, off, none⟩ ∧ ∀ k (h : k < Ls.length), ∃ Ak ck, w.cell? ⟨b, off + k, none⟩ = some (.slice Ak Ls[k].length ck) ∧ BytesAt w Ak Ls[k]
theorem BsP.below {w w' : World} {A : Option Addr} {Ls : List Str} (h : BsP w A Ls) (hb : Below w.heap.size w w') : BsP w' A Ls := by
  rcases h with rfl | ⟨b, off, rfl, hc⟩
  · exact .inl rfl
  · refine .inr ⟨b, off, rfl, fun k hk => ?_⟩
    obtain ⟨Ak, ck, h1, h2⟩ := hc k hk
    exact ⟨Ak, ck, (hb.cell (World.block_lt_of_cell? w _ h1)).trans h1, h2.below hb⟩
theorem BsP.at_ {w : World} {A : Option Addr} {Ls : List Str} (h : BsP w A Ls) {k : Nat} (hk : k < Ls.length) : ∃ b off Ak ck, A = some ⟨b, off, none⟩ ∧ w.cell? ⟨b, off + k, none⟩ = some (.slice Ak Ls[k].length ck) ∧ BytesAt w Ak Ls[k] := by
  rcases h with rfl | ⟨b, off, rfl, hc⟩
  · simp at hk
  · obtain ⟨Ak, ck, h1, h2⟩ := hc k hk
    exact ⟨b, off, Ak, ck, rfl, h1, h2⟩
end Go.Proofs.YtmnleknehjkmgaaGreat
namespace Go.Proofs.YtmnleknehjkmgaaGreat
open Go.RowKit Go.Shelf
structure Be where
  A : Option Addr
  cap : Nat
  xs : Str
def Be.v (r : Be) : Value := .slice r.A r.xs.length r.cap
def cellsS (R : List Be) : List Value := R.map Be.v
def OwnBR (w : World) (n : Nat) (v : Value) (R : List Be) : Prop := w.ownsRow n 22 1 v R.length (cellsS R) ∧ ∀ r ∈ R, TOwnB w n r.v r.xs
theorem OwnBR.below {w w' : World} {n : Nat} {v : Value} {R : List Be} (h : OwnBR w n v R) (k : Below w.heap.size w w') : OwnBR w' n v R :=
  ⟨World.ownsRow.kept h.1 (row := none) ⟨k.os, k.tape, k.output, k.size, fun i hi _ => k.block i hi⟩ (by
    cases e : v.ownBlock with
    | none => exact .inl rfl
    | some g => exact .inr (by simp)), fun r hr => (h.2 r hr).below k⟩
theorem OwnBR.lift {w : World} {n m : Nat} {v : Value} {R : List Be} (h : OwnBR w n v R) (k : m ≤ n) : OwnBR w m v R := ⟨row_mono h.1 k, fun r hr => (h.2 r hr).lift k⟩
theorem own_typesB {w : World} {n : Nat} {u : Value} {xs : Str} (h : TOwnB w n u xs) {g : Nat} (e : u.ownBlock = some g) : ∃ cur, w.heap[g]? = some (.cells cur 5 (0, 0)) := by
  rcases h.2 with ⟨rfl, _⟩ | ⟨g', cap, cur', rfl, _, hg, _⟩
  · simp [Value.ownBlock] at e
  · simp only [Value.ownBlock, Option.some.injEq] at e
    subst e
    exact ⟨_, hg⟩
end Go.Proofs.YtmnleknehjkmgaaGreat
namespace Go.Proofs.YtmnleknehjkmgaaGreat
open Go.RowKit Go.Shelf
structure Xe where
  x : Ite
  A : Option Addr
  ca : Nat
  B : Option Addr
  cb : Nat
instance : Inhabited Xe := ⟨⟨⟨0, [], [], [], false⟩, none, 0, none, 0⟩⟩
def Xe.a (r : Xe) : Value := .slice r.A r.x.raw.length r.ca
def Xe.b (r : Xe) : Value := .slice r.B r.x.C.length r.cb
def Xe.v (r : Xe) : Value := .agg #[.int .i64 r.x.kind, .slice r.A r.x.raw.length r.ca, .string (sB r.x.m), .slice r.B r.x.C.length r.cb, .bool r.x.al]
def Xe.c (r : Xe) : List Value := [.int .i64 r.x.kind, .slice r.A r.x.raw.length r.ca, .string (sB r.x.m), .slice r.B r.x.C.length r.cb, .bool r.x.al]
theorem Xe.c_len (r : Xe) : r.c.length = 5 := rfl
theorem Xe.c_lt (r : Xe) {i : Nat} {u : Value} (h : r.c[i]? = some u) : i < 5 := (List.getElem?_eq_some_iff.1 h).1
def cellsI (R : List Xe) : List Value := R.flatMap Xe.c
theorem cellsI_length : ∀ R : List Xe, (cellsI R).length = R.length * 5
  | [] => rfl
  | r :: t => by
    have h := cellsI_length t
    show (r.c ++ cellsI t).length = (t.length + 1) * 5
    rw [List.length_append, h, Xe.c_len]
    omega
theorem cellsI_append (a b : List Xe) : cellsI (a ++ b) = cellsI a ++ cellsI b := List.flatMap_append
theorem cellsI_at : ∀ (R : List Xe) (j : Nat) (h : j < R.length) (i : Nat), i < 5 → (cellsI R)[j * 5 + i]? = R[j].c[i]?
  | x :: t, 0, h, i, hi => by
    show (x.c ++ cellsI t)[0 * 5 + i]? = _
    rw [Nat.zero_mul, Nat.zero_add, List.getElem?_append_left (by rw [Xe.c_len]; exact hi)]
    rfl
  | x :: t, j + 1, h, i, hi => by
    show (x.c ++ cellsI t)[(j + 1) * 5 + i]? = _
    rw [List.getElem?_append_right (by rw [Xe.c_len]; omega), Xe.c_len, show (j + 1) * 5 + i - 5 = j * 5 + i by omega, cellsI_at t j (by simpa using h) i hi]
    rfl
theorem cellsI_one (R : List Xe) : ∀ u ∈ cellsI R, u.oneCell' = true := fun u hu => by
  unfold cellsI at hu
  obtain ⟨r, -, h⟩ := List.mem_flatMap.1 hu
  simp only [Xe.c, List.mem_cons, List.not_mem_nil, or_false] at h
  rcases h with rfl | rfl | rfl | rfl | rfl <;> rfl
theorem cellsI_inv (R : List Xe) (j : Nat) (u : Value) (hu : (cellsI R)[j]? = some u) : ∃ (k : Nat) (h : k < R.length) (i : Nat), i < 5 ∧ j = k * 5 + i ∧ (R[k].c)[i]? = some u := by
  have hj : j < R.length * 5 := by
    rw [← cellsI_length]
    exact (List.getElem?_eq_some_iff.1 hu).1
  have hk : j / 5 < R.length := by omega
  refine ⟨j / 5, hk, j % 5, by omega, by omega, ?_⟩
  rw [← cellsI_at R (j / 5) hk (j % 5) (by omega), show j / 5 * 5 + j % 5 = j by omega]
  exact hu
def ItsP (w : World) (A : Option Addr) (R : List Xe) : Prop :=
  R = [] ∨ ∃ b off, A = some ⟨b, off, none⟩ ∧ ∀ k (h : k < R.length), (∀ i u, (R[k].c)[i]? = some u → w.cell? ⟨b, off + (k * 5 + i), none⟩ = some u) ∧ BytesAt w R[k].A R[k].x.raw ∧ OpsP w R[k].B R[k].x.C
theorem ItsP.at_ {w : World} {A : Option Addr} {R : List Xe} (h : ItsP w A R) {k : Nat} (hk : k < R.length) : ∃ b off, A = some ⟨b, off, none⟩ ∧ b < w.heap.size ∧ w.cell? ⟨b, off + k * 5, none⟩ = some (.int .i64 R[k].x.kind) ∧ w.cell? ⟨b, off + k * 5 + 1, none⟩ = some (.slice R[k].A R[k].x.raw.length R[k].ca) ∧ w.cell? ⟨b, off + k * 5 + 2, none⟩ = some (.string (sB R[k].x.m)) ∧ w.cell? ⟨b, off + k * 5 + 3, none⟩ = some (.slice R[k].B R[k].x.C.length R[k].cb) ∧ w.cell? ⟨b, off + k * 5 + 4, none⟩ = some (.bool R[k].x.al) ∧ BytesAt w R[k].A R[k].x.raw ∧ OpsP w R[k].B R[k].x.C := by
  rcases h with rfl | ⟨b, off, rfl, hc⟩
  · simp at hk
  · obtain ⟨h1, h2, h3⟩ := hc k hk
    have e : ∀ i u, (R[k].c)[i]? = some u → w.cell? ⟨b, off + k * 5 + i, none⟩ = some u := fun i u hu => by rw [Nat.add_assoc]; exact h1 i u hu
    exact ⟨b, off, rfl, World.block_lt_of_cell? w _ (e 0 _ rfl), e 0 _ rfl, e 1 _ rfl, e 2 _ rfl, e 3 _ rfl, e 4 _ rfl, h2, h3⟩
theorem ItsP.below {w w' : World} {A : Option Addr} {R : List Xe} (h : ItsP w A R) (hb : Below w.heap.size w w') : ItsP w' A R := by
  rcases h with rfl | ⟨b, off, rfl, hc⟩
  · exact .inl rfl
  · refine .inr ⟨b, off, rfl, fun k hk => ⟨fun i u hu => ?_, (hc k hk).2.1.below hb, (hc k hk).2.2.below hb⟩⟩
    have hp := (hc k hk).1 i u hu
    exact (hb.cell (World.block_lt_of_cell? w _ hp)).trans hp
theorem ItsP.news {w : World} {A : Option Addr} {R : List Xe} (h : ItsP w A R) : R.length = 0 ∨ ∃ a, A = some a ∧ ∀ j u, (cellsI R)[j]? = some u → w.cell? (a.add j) = some u := by
  rcases h with rfl | ⟨b, off, rfl, hc⟩
  · exact .inl rfl
  · refine .inr ⟨_, rfl, fun j u hu => ?_⟩
    have hadd : (⟨b, off, none⟩ : Addr).add j = ⟨b, off + j, none⟩ := by unfold Addr.add; split <;> simp_all
    rw [hadd]
    obtain ⟨k, hk, i, hi, rfl, e⟩ := cellsI_inv R j u hu
    exact (hc k hk).1 i u e
theorem info_it : (Tryz.prog.info? 34).map (fun i => (i.zero, i.size, i.bytes)) = some (some (.agg #[.int .i64 0, .slice none 0 0, .string ⟨#[]⟩, .slice none 0 0, .bool false]), 5, 80) := by kernel_rfl
def OwnX (w : World) (n : Nat) (r : Xe) : Prop := TOwnB w n r.a r.x.raw ∧ OwnT w n r.b r.x.C
theorem OwnX.below {w w' : World} {n : Nat} {r : Xe} (h : OwnX w n r) (k : Below w.heap.size w w') : OwnX w' n r := ⟨h.1.below k, h.2.below k⟩
theorem OwnX.lift {w : World} {n m : Nat} {r : Xe} (h : OwnX w n r) (k : m ≤ n) : OwnX w m r := ⟨h.1.lift k, h.2.lift k⟩
theorem OwnX.bytes {w : World} {n : Nat} {r : Xe} (h : OwnX w n r) : BytesAt w r.A r.x.raw := by
  obtain ⟨A, c, e, hp⟩ := h.1.bytes
  simp only [Xe.a, Value.slice.injEq] at e
  rw [e.1]; exact hp
theorem OwnX.ops {w : World} {n : Nat} {r : Xe} (h : OwnX w n r) : OpsP w r.B r.x.C := by
  obtain ⟨A, c, e, hp, -⟩ := OwnT.ops h.2
  simp only [Xe.b, Value.slice.injEq] at e
  rw [e.1]; exact hp
def OwnIq (w : World) (q n : Nat) (v : Value) (R : List Xe) : Prop := w.ownsRow q 34 5 v R.length (cellsI R) ∧ ∀ r ∈ R, OwnX w n r
def OwnIt (w : World) (n : Nat) (v : Value) (R : List Xe) : Prop := OwnIq w n n v R
theorem OwnIq.below {w w' : World} {q n : Nat} {v : Value} {R : List Xe} (h : OwnIq w q n v R) (k : Below w.heap.size w w') : OwnIq w' q n v R :=
  ⟨World.ownsRow.kept h.1 (row := none) ⟨k.os, k.tape, k.output, k.size, fun i hi _ => k.block i hi⟩ (by
    cases e : v.ownBlock with
    | none => exact .inl rfl
    | some g => exact .inr (by simp)), fun r hr => (h.2 r hr).below k⟩
theorem OwnIt.below {w w' : World} {n : Nat} {v : Value} {R : List Xe} (h : OwnIt w n v R) (k : Below w.heap.size w w') : OwnIt w' n v R := OwnIq.below h k
theorem OwnIq.lift {w : World} {q n q' n' : Nat} {v : Value} {R : List Xe} (h : OwnIq w q n v R) (k : q' ≤ q) (k2 : n' ≤ n) : OwnIq w q' n' v R := ⟨row_mono h.1 k, fun r hr => (h.2 r hr).lift k2⟩
theorem OwnIt.lift {w : World} {n m : Nat} {v : Value} {R : List Xe} (h : OwnIt w n v R) (k : m ≤ n) : OwnIt w m v R := OwnIq.lift h k k
theorem OwnIq.its {w : World} {q n : Nat} {v : Value} {R : List Xe} (h : OwnIq w q n v R) : ∃ A cap, v = .slice A R.length cap ∧ ItsP w A R ∧ R.length ≤ cap ∧ cap ≤ maxLen := by
  have q : ∀ k (hk : k < R.length), BytesAt w R[k].A R[k].x.raw ∧ OpsP w R[k].B R[k].x.C := fun k hk => ⟨(h.2 _ (List.getElem_mem hk)).bytes, (h.2 _ (List.getElem_mem hk)).ops⟩
  rcases h.1.2 with ⟨rfl, h0⟩ | ⟨g, cap, cur, rfl, _, _, hle, hcm, _⟩
  · have : R = [] := List.eq_nil_of_length_eq_zero h0
    subst this
    exact ⟨none, 0, rfl, .inl rfl, Nat.le_refl _, Nat.zero_le _⟩
  · refine ⟨_, cap, rfl, .inr ⟨g, 0, rfl, fun k hk => ⟨fun i u hu => ?_, q k hk⟩⟩, hle, hcm⟩
    have hi := Xe.c_lt _ hu
    rw [Nat.zero_add]
    exact (World.ownsRow.cellAt h.1 _ (by omega)).trans ((cellsI_at R k hk i hi).trans hu)
theorem OwnIq.itsP {w : World} {q n l c : Nat} {A : Option Addr} {R : List Xe} (h : OwnIq w q n (.slice A l c) R) : ItsP w A R := by
  obtain ⟨A', c', e, hp, -⟩ := h.its
  simp only [Value.slice.injEq] at e
  rw [e.1]; exact hp
theorem OwnIt.its {w : World} {n : Nat} {v : Value} {R : List Xe} (h : OwnIt w n v R) : ∃ A cap, v = .slice A R.length cap ∧ ItsP w A R ∧ R.length ≤ cap ∧ cap ≤ maxLen := OwnIq.its h
theorem OwnIt.itsP {w : World} {n l c : Nat} {A : Option Addr} {R : List Xe} (h : OwnIt w n (.slice A l c) R) : ItsP w A R := OwnIq.itsP h
theorem ownIq_nil (w : World) (q n : Nat) : OwnIq w q n (.slice none 0 0) [] := ⟨World.ownsRow_nil _ _ _ _, fun r hr => absurd hr List.not_mem_nil⟩
theorem ownIt_nil (w : World) (n : Nat) : OwnIt w n (.slice none 0 0) [] := ownIq_nil w n n
theorem OwnX.grown {w w' : World} {n : Nat} {r : Xe} {row : Option Nat} (h : OwnX w n r) (k : w.grownBy w' row) (hr : ∀ q, row = some q → ∀ cur T fz, w.heap[q]? = some (.cells cur T fz) → T ≠ 5 ∧ T ≠ 67) : OwnX w' n r := by
  refine ⟨World.ownsRow.kept h.1 k ?_, World.ownsRow.kept h.2 k ?_⟩
  · cases e : r.a.ownBlock with
    | none => exact .inl rfl
    | some q =>
      refine .inr fun e' => ?_
      obtain ⟨cur, hc⟩ := own_typesB h.1 e
      exact (hr q e'.symm _ _ _ hc).1 rfl
  · cases e : r.b.ownBlock with
    | none => exact .inl rfl
    | some q =>
      refine .inr fun e' => ?_
      obtain ⟨cur, hc⟩ := own_types h.2 e
      exact (hr q e'.symm _ _ _ hc).2 rfl
theorem OwnIq.grown {w w' : World} {q n : Nat} {v : Value} {R : List Xe} {row : Option Nat} (h : OwnIq w q n v R) (k : w.grownBy w' row) (hne : ∀ r, row = some r → v.ownBlock ≠ some r) (hr : ∀ q, row = some q → ∀ cur T fz, w.heap[q]? = some (.cells cur T fz) → T ≠ 5 ∧ T ≠ 67) : OwnIq w' q n v R :=
  ⟨World.ownsRow.kept h.1 k (by
    cases e : v.ownBlock with
    | none => exact .inl rfl
    | some g => exact .inr fun e' => hne g e'.symm e), fun r hr' => (h.2 r hr').grown k hr⟩
theorem row_type {w : World} {n s m : Nat} {T : TypeId} {v : Value} {xs : List Value} (h : w.ownsRow n T s v m xs) {q : Nat} (hq : v.ownBlock = some q) : ∃ cur, w.heap[q]? = some (.cells cur T (0, 0)) := by
  rcases h.2 with ⟨rfl, _⟩ | ⟨g', cap, cur', rfl, _, hg, _⟩
  · simp [Value.ownBlock] at hq
  · simp only [Value.ownBlock, Option.some.injEq] at hq
    subst hq
    exact ⟨_, hg⟩
theorem run_appI (w : World) (B n : Nat) (v : Value) (R : List Xe) (h : OwnIq w B n v R) (A : Option Addr) (c : Nat) (R2 : List Xe) (hP : ItsP w A R2) (hO : ∀ r ∈ R2, OwnX w n r) (hB : B ≤ w.heap.size) (hs : R.length + R2.length ≤ 100000) :
    ∃ v' w', (Builtin.append_ #[24, 24] 24 #[v, .slice A R2.length c]).run Tryz.prog w = .ok v' w' ∧ OwnIq w' B n v' (R ++ R2) ∧ Below B w w' ∧ w.grownBy w' v.ownBlock := by
  obtain ⟨i0, hi, hz0, hz1, hz2⟩ := info_parts info_it
  obtain ⟨v', w', k1, k2, k3⟩ := run_append_src w B 24 24 34 i0 _ 5 80 Tryz.underlying24 hi hz0 hz1 hz2 rfl (by decide) v R.length (cellsI R) h.1 A R2.length c (cellsI R2)
    (cellsI_length R2) hP.news (cellsI_one R2) (by unfold maxLen; omega) (by omega) hB
  have hty : ∀ q, v.ownBlock = some q → ∀ cur T fz, w.heap[q]? = some (.cells cur T fz) → T ≠ 5 ∧ T ≠ 67 := fun q hq cur T fz hx => by
    obtain ⟨cur', hg⟩ := row_type h.1 hq
    rw [hx] at hg
    simp only [Option.some.injEq, Obj.cells.injEq] at hg
    rw [hg.2.1]
    exact ⟨by decide, by decide⟩
  refine ⟨v', w', k1, ⟨?_, fun r hr => ?_⟩, (Below.refl B w).grown k3 hB fun k hk => (World.ownsRow.lt h.1 k hk).1, k3⟩
  · rw [cellsI_append, List.length_append]
    exact k2
  · rcases List.mem_append.1 hr with hr | hr
    · exact (h.2 r hr).grown k3 hty
    · exact (hO r hr).grown k3 hty
theorem wpList_appIt {wr : World} {B n : Nat} {v : Value} {R : List Xe} (h : OwnIq wr B n v R) {A : Option Addr} {c : Nat} {R2 : List Xe} (hP : ItsP wr A R2) (hO : ∀ r ∈ R2, OwnX wr n r) (hB : B ≤ wr.heap.size) (hs : R.length + R2.length ≤ 100000) {ops : Array Oper} {rest : List Oper} {o : Oper} {a : Act} {Q : Exit → Act → World → Prop} (hgd : o.guard = none) (s x : Operand)
    (ho : o.op = .call { callee := .builtin .append, args := #[s, x], argTypes := #[24, 24] }) (hty : o.type = 24) (hsv : a.eval s = v) (m : Nat) (hm : R2.length = m) (hx : a.eval x = .slice A m c)
    (k : ∀ A' cap' w1, OwnIq w1 B n (.slice A' (R ++ R2).length cap') (R ++ R2) → Below B wr w1 → wr.grownBy w1 v.ownBlock → wpList Tryz.prog ops Q rest (a.put o.dst (.slice A' (R ++ R2).length cap')) w1) : wpList Tryz.prog ops Q (o :: rest) a wr := by
  subst hm
  obtain ⟨v', w', k1, k2, k3, k4⟩ := run_appI wr B n v R h A c R2 hP hO hB hs
  obtain ⟨A', cap', rfl, -, -, -⟩ := k2.its
  exact wpList_run_append k1 hgd s x ho hty hsv hx (k A' cap' w' k2 k3 k4)
theorem its_one (w : World) (r : Xe) (h1 : BytesAt w r.A r.x.raw) (h2 : OpsP w r.B r.x.C) : ItsP (w.alloc (.cells #[.int .i64 r.x.kind, .slice r.A r.x.raw.length r.ca, .string (sB r.x.m), .slice r.B r.x.C.length r.cb, .bool r.x.al] 34)) (some ⟨w.heap.size, 0, none⟩) [r] := by
  refine .inr ⟨_, _, rfl, fun k hk => ?_⟩
  obtain rfl : k = 0 := by simp at hk; omega
  refine ⟨fun i u hu => ?_, h1.below (up_alloc _ _), h2.below (up_alloc _ _)⟩
  rw [Nat.zero_add, Nat.zero_mul, Nat.zero_add, Lib.cell_of_heap (heap_alloc_new w _)]
  have hi := Xe.c_lt _ hu
  match i, hi with
  | 0, _ => exact hu
  | 1, _ => exact hu
  | 2, _ => exact hu
  | 3, _ => exact hu
  | 4, _ => exact hu
def RetIts (w : World) (l : List Ite) (e : Ending) (w' : World) : Prop := ∃ A c R, e = .returned (.slice A (List.length R) c) ∧ R.map Xe.x = l ∧ OwnIt w' w.heap.size (.slice A R.length c) R ∧ Below w.heap.size w w'
end Go.Proofs.YtmnleknehjkmgaaGreat
