/-
  SeRj, SeVb.
-/
import Derived.Test.YtbbpkoaeedkncaaGreatDoorGAK
import Derived.Test.YtbbpkoaeedkncaaGreatDoorMSeVa
import Derived.Test.YtbbpkoaeedkncaaGreatDoorGBD
import Derived.Deep.DeepCutAuto
import Derived.Deep.Cut
import Derived.Test.YtbbpkoaeedkncaaGreatDoorMSeN
set_option linter.all false
set_option maxRecDepth 100000
set_option maxHeartbeats 4000000
namespace Go.Proofs.YtbbpkoaeedkncaaGreatDoor
open Go.RowKit Go.Shelf
attribute [local go_sem] Oper.semAt_some
def RetRFill (w : World) (m : Str) (o : Option (List Tr)) (e : Ending) (w' : World) : Prop := match o with
  | some L2 => ∃ v, e = .returned (.tuple #[.agg #[.string (sB m), v], .bool true]) ∧ OwnT w' w.heap.size v L2 ∧ Below w.heap.size w w'
  | none => e = .returned (.tuple #[.agg #[.string ⟨#[]⟩, .slice none 0 0], .bool false]) ∧ Below w.heap.size w w'
theorem fillR_no {ex : Str} {L : List Tr} {d n : Int} {k : Nat} (hk : k < L.length) (h : okR ex L d n k = false) : fillR ex L d n = none := by
  unfold fillR
  refine if_neg fun hc => ?_
  have := List.all_eq_true.1 hc.1 k (List.mem_range.2 hk)
  rw [h] at this
  cases this
theorem fillR_yes {ex : Str} {L : List Tr} {d n : Int} (h : ∀ k, k < L.length → okR ex L d n k = true) (h1 : useD ex L d L.length = true) (h2 : useN ex L n L.length = true) : fillR ex L d n = some ((List.range L.length).map (stR ex L d n)) := by
  unfold fillR
  exact if_pos ⟨List.all_eq_true.2 fun k hk => h k (List.mem_range.1 hk), h1, h2⟩
theorem fillR_noD {ex : Str} {L : List Tr} {d n : Int} (h1 : useD ex L d L.length = false) : fillR ex L d n = none := by
  unfold fillR
  refine if_neg fun hc => ?_
  rw [h1] at hc
  exact absurd hc.2.1 (by simp)
theorem fillR_noN {ex : Str} {L : List Tr} {d n : Int} (h1 : useN ex L n L.length = false) : fillR ex L d n = none := by
  unfold fillR
  refine if_neg fun hc => ?_
  rw [h1] at hc
  exact absurd hc.2.2 (by simp)
theorem useD_step (ex : Str) (L : List Tr) (d : Int) (k : Nat) : useD ex L d (k + 1) = (useD ex L d k || letR ex L k == 100) := by
  unfold useD
  rw [List.range_succ, List.any_append]
  simp [Bool.or_assoc]
theorem useN_step (ex : Str) (L : List Tr) (n : Int) (k : Nat) : useN ex L n (k + 1) = (useN ex L n k || (letR ex L k != 100 && letR ex L k != 0)) := by
  unfold useN
  rw [List.range_succ, List.any_append]
  simp [Bool.or_assoc]
theorem map_step (ex : Str) (L : List Tr) (d n : Int) (k : Nat) : (List.range (k + 1)).map (stR ex L d n) = (List.range k).map (stR ex L d n) ++ [stR ex L d n k] := by
  rw [List.range_succ, List.map_append]
  rfl
theorem fill_start (w : World) (page op : Int) (m : Str) (v : Value) (ex : Str) (al : Bool) (n : Nat) (hn : w.heap.size = n) : ∃ w0, ((w.alloc (.cells #[.int .i64 page, .int .u8 op, .string (sB m), v, .string (sB ex), .bool al] 29)).alloc (.cells #[.string ⟨#[]⟩, .slice none 0 0] 24)) = w0 ∧
    w0.heap[n]? = some (.cells #[.int .i64 page, .int .u8 op, .string (sB m), v, .string (sB ex), .bool al] 29 (0, 0)) ∧ Rz w0 (n + 1) ∧ Below w.heap.size w w0 ∧ w0.heap.size = n + 2 := by
  subst hn
  refine ⟨_, rfl, (Below.heap_alloc _ _ _ (by simp)).trans (World.alloc_heap_new w _), ?_, ((Below.refl _ w).alloc (Nat.le_refl _) _).alloc (by simp) _, by simp⟩
  have h := World.alloc_heap_new (w.alloc (.cells #[.int .i64 page, .int .u8 op, .string (sB m), v, .string (sB ex), .bool al] 29)) (.cells #[.string ⟨#[]⟩, .slice none 0 0] 24)
  rwa [World.size_alloc] at h
theorem rfill_any (page op : Int) (m : Str) (A : Option Addr) (cap l : Nat) (L : List Tr) (hl : L.length = l) (hL : l ≤ 1000) (ex : Str) (hx : ex.length ≤ 1000) (al : Bool) (d q : Int) (w : World) (H : OpsP w A L) :
    Calls Tryz.prog 16 #[enV page op m (.slice A l cap) ex al, .int .i64 d, .int .i64 q] w (RetRFill w m (fillR ex L d q)) := by
  unfold enV
  obtain ⟨n, hn⟩ : ∃ z, w.heap.size = z := ⟨_, rfl⟩
  obtain ⟨w0, hw0, c0, zz, b0, z0⟩ := fill_start w page op m (.slice A l cap) ex al n hn
  have BB : Hid (Below n w w0) := by rw [← hn]; exact b0
  have HN := Lib.hid hn
  have HL := Lib.hid hl
  have Z0 := Lib.hid z0
  have PH := Lib.hid H
  have C0 := Lib.hid c0
  have R0 := Lib.hid zz
  have k0 := Lib.cell_of_heap c0 0
  have k1 := Lib.cell_of_heap c0 1
  have k2 := Lib.cell_of_heap c0 2
  have k3 := Lib.cell_of_heap c0 3
  have k4 := Lib.cell_of_heap c0 4
  have k5 := Lib.cell_of_heap c0 5
  clear H b0 c0 z0 zz hl
  go_enter Tryz.func16, Tryz.ntmps16
  go_upto_region 1 with fail
  clear hw0
  go_upto_region 2 with fail
  obtain ⟨w3, hw3⟩ : ∃ z, w0.alloc (.cells #[.string (sB m), .slice none 0 0] 24) = z := ⟨_, rfl⟩
  obtain ⟨b, hb⟩ : ∃ z, w0.heap.size = z := ⟨_, rfl⟩
  have y2 : Below w0.heap.size w0 w3 := by rw [← hw3]; exact (Below.refl _ _).alloc (Nat.le_refl _) _
  have RI : Hid (Ri w3 b (sB m) (.slice none 0 0)) := by rw [← hw3, ← hb]; exact heap_alloc_new w0 _
  have hb2 : n + 1 < b := by have := Z0.out; omega
  have ZS : Hid (w3.heap.size = b + 1) := by show _ = _; rw [← hw3, ← hb]; simp
  have B3 : Hid (Below n w w3) := BB.out.trans (y2.mono (by have := Z0.out; omega))
  have C3 := Lib.hid ((y2.block n (by have := Z0.out; omega)).trans C0.out)
  have R3 : Hid (Rz w3 (n + 1)) := (y2.block (n + 1) (by have := Z0.out; omega)).trans R0.out
  rw [hw3, hb]
  clear hw3 hb y2 k0 k1 k2 k3 k4 k5 BB Z0 C0 R0
  have U0 : Hid ((d == 0) = useD ex L d 0) := by show _ = _; unfold useD; simp
  have U1 : Hid ((q == 0) = useN ex L q 0) := by show _ = _; unfold useN; simp
  obtain ⟨ud, hud⟩ : ∃ z, (d == 0) = z := ⟨_, rfl⟩
  obtain ⟨un, hun⟩ : ∃ z, (q == 0) = z := ⟨_, rfl⟩
  rw [hud] at U0
  rw [hun] at U1
  have hO0 : Hid (OwnT w3 (b + 1) (.slice none 0 0) ((List.range 0).map (stR ex L d q))) := World.ownsRow_nil _ _ _ _
  go_wp2
  clear hud hun
  go_loopw [9, 10, 11] (fun x y i wr => ∃ (j : Nat) (A4 : Option Addr) (cap4 : Nat) (p r : Bool), j ≤ l ∧ i = .int .i64 j ∧ x = .bool p ∧ y = .bool r ∧ Hid (p = useD ex L d j) ∧ Hid (r = useN ex L q j) ∧ Hid (∀ k, k < j → okR ex L d q k = true) ∧ Hid (Ri wr b (sB m) (.slice A4 j cap4)) ∧ Hid (OwnT wr (b + 1) (.slice A4 j cap4) ((List.range j).map (stR ex L d q))) ∧ Hid (Below b w3 wr) ∧ Hid (b + 1 ≤ wr.heap.size)) (fun _ _ i _ => l - (intOf i).toNat)
  case atStart => exact ⟨0, none, 0, ud, un, Nat.zero_le _, rfl, rfl, rfl, U0.out, U1.out, fun k h => by omega, RI.out, hO0.out, Below.refl _ _, Nat.le_of_eq ZS.out.symm⟩
  case round =>
    clear RI hO0 U0 U1
    obtain ⟨j, A4, cap4, p, r, hj, rfl, rfl, rfl, UD, UN, OK, hri, hO, hB, hS⟩ := hrel
    have cw := (hB.out.block n (by omega)).trans C3.out
    have CW := Lib.hid cw
    have RW : Hid (Rz wr (n + 1)) := (hB.out.block (n + 1) (by omega)).trans R3.out
    have BW : Hid (Below n w wr) := B3.out.trans (hB.out.mono (by omega))
    have PW : Hid (OpsP wr A L) := PH.out.below (by rw [HN.out]; exact BW.out)
    have k0 := Lib.cell_of_heap cw 0
    have k1 := Lib.cell_of_heap cw 1
    have k2 := Lib.cell_of_heap cw 2
    have k3 := Lib.cell_of_heap cw 3
    have k4 := Lib.cell_of_heap cw 4
    have k5 := Lib.cell_of_heap cw 5
    clear cw
    by_cases hlt : j < l
    · have hjL : j < L.length := by have := HL.out; omega
      obtain ⟨b1, o1, rfl, -, p0, p1, p2⟩ := PW.out.at_ hjL
      have g2 : L.getD j tr0 = L[j] := by rw [List.getD_eq_getElem?_getD, List.getElem?_eq_getElem hjL]; rfl
      rw [← g2] at p0 p1 p2
      have HJL := Lib.hid hjL
      obtain ⟨⟨y0, y1, y2⟩, hy⟩ : ∃ z, L.getD j tr0 = z := ⟨_, rfl⟩
      have HY := Lib.hid hy
      rw [hy] at p0 p1 p2
      simp only at p0 p1 p2
      have hal : Below wr.heap.size wr (wr.alloc (.cells #[.int .i64 y0, .int .i64 y1, .int .i64 y2] 68)) := (Below.refl _ _).alloc (Nat.le_refl _) _
      have HAL := Lib.hid hal
      have bx : (wr.alloc (.cells #[.int .i64 y0, .int .i64 y1, .int .i64 y2] 68)).heap[wr.heap.size]? = some (.cells #[.int .i64 y0, .int .i64 y1, .int .i64 y2] 68 (0, 0)) := heap_alloc_new wr _
      have BX := Lib.hid bx
      have lt := fun w' h => letter_any page op m (some ⟨b1, o1, none⟩) cap l L HL.out hL ex hx al j hlt w' h
      simp only [enV] at lt
      have LT := Lib.hid lt
      clear hy hjL g2 hal bx lt
      go_upto_region 8 with fail
      obtain ⟨g, hg⟩ : ∃ z, wr.heap.size = z := ⟨_, rfl⟩
      obtain ⟨w4, hw4⟩ : ∃ z, wr.alloc (.cells #[.int .i64 y0, .int .i64 y1, .int .i64 y2] 68) = z := ⟨_, rfl⟩
      rw [hw4, hg]
      rw [hw4, hg] at BX
      rw [hw4] at HAL
      have c4 := (HAL.out.block n (by have := hS.out; omega)).trans CW.out
      have C4 := Lib.hid c4
      have RW4 : Hid (Rz w4 (n + 1)) := (HAL.out.block (n + 1) (by have := hS.out; omega)).trans RW.out
      have P4 := Lib.hid (PW.out.below HAL.out)
      have hri4 : Hid (Ri w4 b (sB m) (.slice A4 j cap4)) := (HAL.out.block b (by have := hS.out; omega)).trans hri.out
      have hO4 := Lib.hid (hO.out.below HAL.out)
      have hB4 : Hid (Below b w3 w4) := hB.out.trans (HAL.out.mono (by have := hS.out; omega))
      have hS4 : Hid (b + 1 ≤ g ∧ g < w4.heap.size) := by
        have h1 := hS.out
        exact ⟨by omega, (Array.getElem?_eq_some_iff.1 BX.out).1⟩
      have GB : Hid (∀ g', (Value.slice A4 j cap4).ownBlock = some g' → g' ≠ g) := fun g' hg' => by have := (World.ownsRow.lt hO.out g' hg').2; omega
      have k0 := Lib.cell_of_heap c4 0
      have k1 := Lib.cell_of_heap c4 1
      have k2 := Lib.cell_of_heap c4 2
      have k3 := Lib.cell_of_heap c4 3
      have k4 := Lib.cell_of_heap c4 4
      have k5 := Lib.cell_of_heap c4 5
      clear hw4 c4 p0 p1 p2 hg HAL CW RW BW PW hri hO hB hS
      go_wp2_with fail
      refine (LT.out w4 P4.out).mono ?_
      rintro e w5 ⟨rfl, hb⟩
      have RW5 : Hid (Rz w5 (n + 1)) := (hb.block (n + 1) (by have := hS4.out; omega)).trans RW4.out
      have hri5 : Hid (Ri w5 b (sB m) (.slice A4 j cap4)) := (hb.block b (by have := hS4.out; omega)).trans hri4.out
      have hO5 := Lib.hid (hO4.out.below hb)
      have hB5 : Hid (Below b w3 w5) := hB4.out.trans (hb.mono (by have := hS4.out; omega))
      have bx5 : Hid (w5.heap[g]? = some (.cells #[.int .i64 y0, .int .i64 y1, .int .i64 y2] 68 (0, 0))) := (hb.block g hS4.out.2).trans BX.out
      have hS5 : Hid (b + 1 ≤ g ∧ g < w5.heap.size) := ⟨hS4.out.1, Nat.lt_of_lt_of_le hS4.out.2 hb.size⟩
      have hgb : g ≠ b := by have := hS5.out.1; omega
      have hgn : g ≠ n + 1 := by have := hS5.out.1; omega
      have q0 := Lib.cell_of_heap bx5.out 0
      have q1 := Lib.cell_of_heap bx5.out 1
      have q2 := Lib.cell_of_heap bx5.out 2
      have hll : ((List.range j).map (stR ex L d q)).length = j := by rw [List.length_map, List.length_range]
      have HLL := Lib.hid hll
      clear hb k0 k1 k2 k3 k4 k5 LT P4 RW4 hri4 hO4 hB4 BX hS4 C4 hll
      rcases letR_cases ex L j with hv9 | hv9 | hv9 | hv9 | hv9
      · have e9 : letR ex L j = 100 := hv9
        rw [hv9]
        simp only [show ((100 : UInt8).toNat : Int) = 100 from rfl]
        have fz : w5.frozen? ⟨g, 2, none⟩ = false := Lib.frozen_of_heap bx5.out 2
        have WI := Lib.hid (fun w' => rwithin_any 100 d w')
        simp only [show ((100 : UInt8).toNat : Int) = 100 from rfl] at WI
        have ST : Hid (stR ex L d q j = (y0, y1, d)) := by show stR ex L d q j = _; unfold stR; rw [if_pos e9, HY.out]
        have OKJ : Hid (okR ex L d q j = withR 100 d) := by show okR ex L d q j = _; unfold okR; rw [ST.out, e9]; simp
        have UD2 : Hid (true = useD ex L d (j + 1)) := by show _ = _; rw [useD_step, e9]; simp
        have UN2 : Hid (r = useN ex L q (j + 1)) := by show _ = _; rw [useN_step, e9]; rw [← UN.out]; simp
        obtain ⟨o, ho⟩ : ∃ z, withR 100 d = z := ⟨_, rfl⟩
        rw [ho] at OKJ WI
        have hri6 : Hid (Ri (w5.setCell ⟨g, 2, none⟩ (.int .i64 d)) b (sB m) (.slice A4 j cap4)) := (heap_setCell_other w5 ⟨g, 2, none⟩ b _ hgb.symm).trans hri5.out
        have hO6 : Hid (OwnT (w5.setCell ⟨g, 2, none⟩ (.int .i64 d)) (b + 1) (.slice A4 j cap4) ((List.range j).map (stR ex L d q))) := row_set_ne hO5.out (p := ⟨g, 2, none⟩) GB.out _
        have hB6 : Hid (Below b w3 (w5.setCell ⟨g, 2, none⟩ (.int .i64 d))) := hB5.out.setCell (p := ⟨g, 2, none⟩) (by have := hS5.out.1; simp; omega) _
        have RW6 : Hid (Rz (w5.setCell ⟨g, 2, none⟩ (.int .i64 d)) (n + 1)) := (heap_setCell_other w5 ⟨g, 2, none⟩ (n + 1) _ hgn.symm).trans RW5.out
        have hS6 : Hid (b + 1 ≤ (w5.setCell ⟨g, 2, none⟩ (.int .i64 d)).heap.size) := by have := hS5.out; simp [Hid]; omega
        clear ho hri5 hO5 hB5 RW5
        go_wp2_with fail
        refine (WI.out _).mono ?_
        rintro e wx ⟨rfl, rfl⟩
        cases o with
        | false =>
          have B6 : Hid (Below n w (w5.setCell ⟨g, 2, none⟩ (.int .i64 d))) := B3.out.trans (hB6.out.mono (by omega))
          have NO2 := Lib.hid (fillR_no HJL.out OKJ.out)
          clear q0 q1 q2 WI hri6 hO6 hB6
          have NO : Hid (fillR ex L d q = none) := NO2.out
          obtain ⟨z0, z1, z2, z3⟩ := RW6.out.cells
          have F : Hid (RetRFill w m (fillR ex L d q) (.returned (.tuple #[.agg #[.string ⟨#[]⟩, .slice none 0 0], .bool false])) (((w5.setCell ⟨g, 2, none⟩ (.int .i64 d)).setCell ⟨n + 1, 0, none⟩ (.string ⟨#[]⟩)).setCell ⟨n + 1, 1, none⟩ (.slice none 0 0))) := by
            show RetRFill w m (fillR ex L d q) _ _
            rw [NO.out]
            refine ⟨rfl, ?_⟩
            rw [HN.out]
            exact (B6.out.setCell (p := ⟨n + 1, 0, none⟩) (by simp) _).setCell (p := ⟨n + 1, 1, none⟩) (by simp) _
          have E := Lib.hid (RW6.out.set ⟨#[]⟩ (.slice none 0 0))
          go_wp2
          obtain ⟨e0, e1⟩ := E.out
          obtain ⟨w6, hw6⟩ : ∃ w6, (((w5.setCell ⟨g, 2, none⟩ (.int .i64 d)).setCell ⟨n + 1, 0, none⟩ (.string ⟨#[]⟩)).setCell ⟨n + 1, 1, none⟩ (.slice none 0 0)) = w6 := ⟨_, rfl⟩
          rw [hw6] at F e0 e1 ⊢
          clear hw6 z0 z1 z2 z3
          refine bodyPost_ret (v := .tuple #[.agg #[.string ⟨#[]⟩, .slice none 0 0], .bool false]) ?_ rfl F.out
          simp [results, Tryz.results16, go_sem, e0, e1]
        | true =>
          have OK2 : Hid (∀ k, k < j + 1 → okR ex L d q k = true) := fun k hk => by
            by_cases e : k = j
            · rw [e]; exact OKJ.out
            · exact OK.out k (by omega)
          have W3 : Hid ((List.range (j + 1)).map (stR ex L d q) = (List.range j).map (stR ex L d q) ++ [(y0, y1, d)]) := by show _ = _; rw [map_step, ST.out]
          clear WI
          obtain ⟨-, r1⟩ := hri6.out.cells
          have BK : Hid (∀ w8, Below (b + 1) (w5.setCell ⟨g, 2, none⟩ (.int .i64 d)) w8 → Ri w8 b (sB m) (.slice A4 j cap4) ∧ Below b w3 w8 ∧ b + 1 ≤ w8.heap.size) := fun w8 hB8 => ⟨(hB8.block b (by omega)).trans hri6.out, hB6.out.trans (hB8.mono (by omega)), Nat.le_trans hS6.out hB8.size⟩
          go_wp2_with (at_builtin; refine wpList_appT hO6.out hS6.out rfl _ _ rfl rfl w5.heap.size (by simp) rfl (y0, y1, d) j HLL.out (by omega) ?_; intro A4' cap4' w8 hO8 hB8; obtain ⟨hri8, hB9, hS9⟩ := BK.out w8 hB8; rw [← W3.out] at hO8; obtain ⟨r2, r3⟩ := hri8.cells; have r4 : w8.frozen? ⟨b, 1, none⟩ = false := Lib.frozen_of_heap hri8 1; have hO8 := Lib.hid hO8; have hri8 := Lib.hid hri8; have hB9 := Lib.hid hB9; have hS9 := Lib.hid hS9; clear hB8 r2)
          have hri9 : Hid (Ri (w8.setCell ⟨b, 1, none⟩ (.slice A4' (j + 1) cap4')) b (sB m) (.slice A4' (j + 1) cap4')) := heap_setCell_same w8 b 1 _ _ _ hri8.out
          have hO9 : Hid (OwnT (w8.setCell ⟨b, 1, none⟩ (.slice A4' (j + 1) cap4')) (b + 1) (.slice A4' (j + 1) cap4') ((List.range (j + 1)).map (stR ex L d q))) := row_set hO8.out (p := ⟨b, 1, none⟩) (by simp) _
          have hBa : Hid (Below b w3 (w8.setCell ⟨b, 1, none⟩ (.slice A4' (j + 1) cap4'))) := hB9.out.setCell (p := ⟨b, 1, none⟩) (Nat.le_refl _) _
          have hSa : Hid (b + 1 ≤ (w8.setCell ⟨b, 1, none⟩ (.slice A4' (j + 1) cap4')).heap.size) := by have h1 := hS9.out; simp [Hid] at h1 ⊢; omega
          go_roundw
          case rel => exact ⟨j + 1, A4', cap4', _, _, by omega, by go_num, rfl, rfl, UD2.out, UN2.out, OK2.out, hri9.out, hO9.out, hBa.out, hSa.out⟩
          case measure => simp [intOf]; omega
      · have e9 : letR ex L j = 101 := hv9
        rw [hv9]
        simp only [show ((101 : UInt8).toNat : Int) = 101 from rfl]
        have fz : w5.frozen? ⟨g, 2, none⟩ = false := Lib.frozen_of_heap bx5.out 2
        have WI := Lib.hid (fun w' => rwithin_any 101 q w')
        simp only [show ((101 : UInt8).toNat : Int) = 101 from rfl] at WI
        have ST : Hid (stR ex L d q j = (y0, y1, q)) := by show stR ex L d q j = _; unfold stR; rw [if_neg (by rw [e9]; decide), if_neg (by rw [e9]; decide), HY.out]
        have OKJ : Hid (okR ex L d q j = withR 101 q) := by show okR ex L d q j = _; unfold okR; rw [ST.out, e9]; simp
        have UD2 : Hid (p = useD ex L d (j + 1)) := by show _ = _; rw [useD_step, e9]; rw [← UD.out]; simp
        have UN2 : Hid (true = useN ex L q (j + 1)) := by show _ = _; rw [useN_step, e9]; simp
        obtain ⟨o, ho⟩ : ∃ z, withR 101 q = z := ⟨_, rfl⟩
        rw [ho] at OKJ WI
        have hri6 : Hid (Ri (w5.setCell ⟨g, 2, none⟩ (.int .i64 q)) b (sB m) (.slice A4 j cap4)) := (heap_setCell_other w5 ⟨g, 2, none⟩ b _ hgb.symm).trans hri5.out
        have hO6 : Hid (OwnT (w5.setCell ⟨g, 2, none⟩ (.int .i64 q)) (b + 1) (.slice A4 j cap4) ((List.range j).map (stR ex L d q))) := row_set_ne hO5.out (p := ⟨g, 2, none⟩) GB.out _
        have hB6 : Hid (Below b w3 (w5.setCell ⟨g, 2, none⟩ (.int .i64 q))) := hB5.out.setCell (p := ⟨g, 2, none⟩) (by have := hS5.out.1; simp; omega) _
        have RW6 : Hid (Rz (w5.setCell ⟨g, 2, none⟩ (.int .i64 q)) (n + 1)) := (heap_setCell_other w5 ⟨g, 2, none⟩ (n + 1) _ hgn.symm).trans RW5.out
        have hS6 : Hid (b + 1 ≤ (w5.setCell ⟨g, 2, none⟩ (.int .i64 q)).heap.size) := by have := hS5.out; simp [Hid]; omega
        clear ho hri5 hO5 hB5 RW5
        go_wp2_with fail
        refine (WI.out _).mono ?_
        rintro e wx ⟨rfl, rfl⟩
        cases o with
        | false =>
          have B6 : Hid (Below n w (w5.setCell ⟨g, 2, none⟩ (.int .i64 q))) := B3.out.trans (hB6.out.mono (by omega))
          have NO2 := Lib.hid (fillR_no HJL.out OKJ.out)
          clear q0 q1 q2 WI hri6 hO6 hB6
          have NO : Hid (fillR ex L d q = none) := NO2.out
          obtain ⟨z0, z1, z2, z3⟩ := RW6.out.cells
          have F : Hid (RetRFill w m (fillR ex L d q) (.returned (.tuple #[.agg #[.string ⟨#[]⟩, .slice none 0 0], .bool false])) (((w5.setCell ⟨g, 2, none⟩ (.int .i64 q)).setCell ⟨n + 1, 0, none⟩ (.string ⟨#[]⟩)).setCell ⟨n + 1, 1, none⟩ (.slice none 0 0))) := by
            show RetRFill w m (fillR ex L d q) _ _
            rw [NO.out]
            refine ⟨rfl, ?_⟩
            rw [HN.out]
            exact (B6.out.setCell (p := ⟨n + 1, 0, none⟩) (by simp) _).setCell (p := ⟨n + 1, 1, none⟩) (by simp) _
          have E := Lib.hid (RW6.out.set ⟨#[]⟩ (.slice none 0 0))
          go_wp2
          obtain ⟨e0, e1⟩ := E.out
          obtain ⟨w6, hw6⟩ : ∃ w6, (((w5.setCell ⟨g, 2, none⟩ (.int .i64 q)).setCell ⟨n + 1, 0, none⟩ (.string ⟨#[]⟩)).setCell ⟨n + 1, 1, none⟩ (.slice none 0 0)) = w6 := ⟨_, rfl⟩
          rw [hw6] at F e0 e1 ⊢
          clear hw6 z0 z1 z2 z3
          refine bodyPost_ret (v := .tuple #[.agg #[.string ⟨#[]⟩, .slice none 0 0], .bool false]) ?_ rfl F.out
          simp [results, Tryz.results16, go_sem, e0, e1]
        | true =>
          have OK2 : Hid (∀ k, k < j + 1 → okR ex L d q k = true) := fun k hk => by
            by_cases e : k = j
            · rw [e]; exact OKJ.out
            · exact OK.out k (by omega)
          have W3 : Hid ((List.range (j + 1)).map (stR ex L d q) = (List.range j).map (stR ex L d q) ++ [(y0, y1, q)]) := by show _ = _; rw [map_step, ST.out]
          clear WI
          obtain ⟨-, r1⟩ := hri6.out.cells
          have BK : Hid (∀ w8, Below (b + 1) (w5.setCell ⟨g, 2, none⟩ (.int .i64 q)) w8 → Ri w8 b (sB m) (.slice A4 j cap4) ∧ Below b w3 w8 ∧ b + 1 ≤ w8.heap.size) := fun w8 hB8 => ⟨(hB8.block b (by omega)).trans hri6.out, hB6.out.trans (hB8.mono (by omega)), Nat.le_trans hS6.out hB8.size⟩
          go_wp2_with (at_builtin; refine wpList_appT hO6.out hS6.out rfl _ _ rfl rfl w5.heap.size (by simp) rfl (y0, y1, q) j HLL.out (by omega) ?_; intro A4' cap4' w8 hO8 hB8; obtain ⟨hri8, hB9, hS9⟩ := BK.out w8 hB8; rw [← W3.out] at hO8; obtain ⟨r2, r3⟩ := hri8.cells; have r4 : w8.frozen? ⟨b, 1, none⟩ = false := Lib.frozen_of_heap hri8 1; have hO8 := Lib.hid hO8; have hri8 := Lib.hid hri8; have hB9 := Lib.hid hB9; have hS9 := Lib.hid hS9; clear hB8 r2)
          have hri9 : Hid (Ri (w8.setCell ⟨b, 1, none⟩ (.slice A4' (j + 1) cap4')) b (sB m) (.slice A4' (j + 1) cap4')) := heap_setCell_same w8 b 1 _ _ _ hri8.out
          have hO9 : Hid (OwnT (w8.setCell ⟨b, 1, none⟩ (.slice A4' (j + 1) cap4')) (b + 1) (.slice A4' (j + 1) cap4') ((List.range (j + 1)).map (stR ex L d q))) := row_set hO8.out (p := ⟨b, 1, none⟩) (by simp) _
          have hBa : Hid (Below b w3 (w8.setCell ⟨b, 1, none⟩ (.slice A4' (j + 1) cap4'))) := hB9.out.setCell (p := ⟨b, 1, none⟩) (Nat.le_refl _) _
          have hSa : Hid (b + 1 ≤ (w8.setCell ⟨b, 1, none⟩ (.slice A4' (j + 1) cap4')).heap.size) := by have h1 := hS9.out; simp [Hid] at h1 ⊢; omega
          go_roundw
          case rel => exact ⟨j + 1, A4', cap4', _, _, by omega, by go_num, rfl, rfl, UD2.out, UN2.out, OK2.out, hri9.out, hO9.out, hBa.out, hSa.out⟩
          case measure => simp [intOf]; omega
      · have e9 : letR ex L j = 110 := hv9
        rw [hv9]
        simp only [show ((110 : UInt8).toNat : Int) = 110 from rfl]
        have fz : w5.frozen? ⟨g, 2, none⟩ = false := Lib.frozen_of_heap bx5.out 2
        have WI := Lib.hid (fun w' => rwithin_any 110 q w')
        simp only [show ((110 : UInt8).toNat : Int) = 110 from rfl] at WI
        have ST : Hid (stR ex L d q j = (y0, y1, q)) := by show stR ex L d q j = _; unfold stR; rw [if_neg (by rw [e9]; decide), if_neg (by rw [e9]; decide), HY.out]
        have OKJ : Hid (okR ex L d q j = withR 110 q) := by show okR ex L d q j = _; unfold okR; rw [ST.out, e9]; simp
        have UD2 : Hid (p = useD ex L d (j + 1)) := by show _ = _; rw [useD_step, e9]; rw [← UD.out]; simp
        have UN2 : Hid (true = useN ex L q (j + 1)) := by show _ = _; rw [useN_step, e9]; simp
        obtain ⟨o, ho⟩ : ∃ z, withR 110 q = z := ⟨_, rfl⟩
        rw [ho] at OKJ WI
        have hri6 : Hid (Ri (w5.setCell ⟨g, 2, none⟩ (.int .i64 q)) b (sB m) (.slice A4 j cap4)) := (heap_setCell_other w5 ⟨g, 2, none⟩ b _ hgb.symm).trans hri5.out
        have hO6 : Hid (OwnT (w5.setCell ⟨g, 2, none⟩ (.int .i64 q)) (b + 1) (.slice A4 j cap4) ((List.range j).map (stR ex L d q))) := row_set_ne hO5.out (p := ⟨g, 2, none⟩) GB.out _
        have hB6 : Hid (Below b w3 (w5.setCell ⟨g, 2, none⟩ (.int .i64 q))) := hB5.out.setCell (p := ⟨g, 2, none⟩) (by have := hS5.out.1; simp; omega) _
        have RW6 : Hid (Rz (w5.setCell ⟨g, 2, none⟩ (.int .i64 q)) (n + 1)) := (heap_setCell_other w5 ⟨g, 2, none⟩ (n + 1) _ hgn.symm).trans RW5.out
        have hS6 : Hid (b + 1 ≤ (w5.setCell ⟨g, 2, none⟩ (.int .i64 q)).heap.size) := by have := hS5.out; simp [Hid]; omega
        clear ho hri5 hO5 hB5 RW5
        go_wp2_with fail
        refine (WI.out _).mono ?_
        rintro e wx ⟨rfl, rfl⟩
        cases o with
        | false =>
          have B6 : Hid (Below n w (w5.setCell ⟨g, 2, none⟩ (.int .i64 q))) := B3.out.trans (hB6.out.mono (by omega))
          have NO2 := Lib.hid (fillR_no HJL.out OKJ.out)
          clear q0 q1 q2 WI hri6 hO6 hB6
          have NO : Hid (fillR ex L d q = none) := NO2.out
          obtain ⟨z0, z1, z2, z3⟩ := RW6.out.cells
          have F : Hid (RetRFill w m (fillR ex L d q) (.returned (.tuple #[.agg #[.string ⟨#[]⟩, .slice none 0 0], .bool false])) (((w5.setCell ⟨g, 2, none⟩ (.int .i64 q)).setCell ⟨n + 1, 0, none⟩ (.string ⟨#[]⟩)).setCell ⟨n + 1, 1, none⟩ (.slice none 0 0))) := by
            show RetRFill w m (fillR ex L d q) _ _
            rw [NO.out]
            refine ⟨rfl, ?_⟩
            rw [HN.out]
            exact (B6.out.setCell (p := ⟨n + 1, 0, none⟩) (by simp) _).setCell (p := ⟨n + 1, 1, none⟩) (by simp) _
          have E := Lib.hid (RW6.out.set ⟨#[]⟩ (.slice none 0 0))
          go_wp2
          obtain ⟨e0, e1⟩ := E.out
          obtain ⟨w6, hw6⟩ : ∃ w6, (((w5.setCell ⟨g, 2, none⟩ (.int .i64 q)).setCell ⟨n + 1, 0, none⟩ (.string ⟨#[]⟩)).setCell ⟨n + 1, 1, none⟩ (.slice none 0 0)) = w6 := ⟨_, rfl⟩
          rw [hw6] at F e0 e1 ⊢
          clear hw6 z0 z1 z2 z3
          refine bodyPost_ret (v := .tuple #[.agg #[.string ⟨#[]⟩, .slice none 0 0], .bool false]) ?_ rfl F.out
          simp [results, Tryz.results16, go_sem, e0, e1]
        | true =>
          have OK2 : Hid (∀ k, k < j + 1 → okR ex L d q k = true) := fun k hk => by
            by_cases e : k = j
            · rw [e]; exact OKJ.out
            · exact OK.out k (by omega)
          have W3 : Hid ((List.range (j + 1)).map (stR ex L d q) = (List.range j).map (stR ex L d q) ++ [(y0, y1, q)]) := by show _ = _; rw [map_step, ST.out]
          clear WI
          obtain ⟨-, r1⟩ := hri6.out.cells
          have BK : Hid (∀ w8, Below (b + 1) (w5.setCell ⟨g, 2, none⟩ (.int .i64 q)) w8 → Ri w8 b (sB m) (.slice A4 j cap4) ∧ Below b w3 w8 ∧ b + 1 ≤ w8.heap.size) := fun w8 hB8 => ⟨(hB8.block b (by omega)).trans hri6.out, hB6.out.trans (hB8.mono (by omega)), Nat.le_trans hS6.out hB8.size⟩
          go_wp2_with (at_builtin; refine wpList_appT hO6.out hS6.out rfl _ _ rfl rfl w5.heap.size (by simp) rfl (y0, y1, q) j HLL.out (by omega) ?_; intro A4' cap4' w8 hO8 hB8; obtain ⟨hri8, hB9, hS9⟩ := BK.out w8 hB8; rw [← W3.out] at hO8; obtain ⟨r2, r3⟩ := hri8.cells; have r4 : w8.frozen? ⟨b, 1, none⟩ = false := Lib.frozen_of_heap hri8 1; have hO8 := Lib.hid hO8; have hri8 := Lib.hid hri8; have hB9 := Lib.hid hB9; have hS9 := Lib.hid hS9; clear hB8 r2)
          have hri9 : Hid (Ri (w8.setCell ⟨b, 1, none⟩ (.slice A4' (j + 1) cap4')) b (sB m) (.slice A4' (j + 1) cap4')) := heap_setCell_same w8 b 1 _ _ _ hri8.out
          have hO9 : Hid (OwnT (w8.setCell ⟨b, 1, none⟩ (.slice A4' (j + 1) cap4')) (b + 1) (.slice A4' (j + 1) cap4') ((List.range (j + 1)).map (stR ex L d q))) := row_set hO8.out (p := ⟨b, 1, none⟩) (by simp) _
          have hBa : Hid (Below b w3 (w8.setCell ⟨b, 1, none⟩ (.slice A4' (j + 1) cap4'))) := hB9.out.setCell (p := ⟨b, 1, none⟩) (Nat.le_refl _) _
          have hSa : Hid (b + 1 ≤ (w8.setCell ⟨b, 1, none⟩ (.slice A4' (j + 1) cap4')).heap.size) := by have h1 := hS9.out; simp [Hid] at h1 ⊢; omega
          go_roundw
          case rel => exact ⟨j + 1, A4', cap4', _, _, by omega, by go_num, rfl, rfl, UD2.out, UN2.out, OK2.out, hri9.out, hO9.out, hBa.out, hSa.out⟩
          case measure => simp [intOf]; omega
      · have e9 : letR ex L j = 119 := hv9
        rw [hv9]
        simp only [show ((119 : UInt8).toNat : Int) = 119 from rfl]
        have fz : w5.frozen? ⟨g, 2, none⟩ = false := Lib.frozen_of_heap bx5.out 2
        have WI := Lib.hid (fun w' => rwithin_any 119 q w')
        simp only [show ((119 : UInt8).toNat : Int) = 119 from rfl] at WI
        have ST : Hid (stR ex L d q j = (y0, y1, q)) := by show stR ex L d q j = _; unfold stR; rw [if_neg (by rw [e9]; decide), if_neg (by rw [e9]; decide), HY.out]
        have OKJ : Hid (okR ex L d q j = withR 119 q) := by show okR ex L d q j = _; unfold okR; rw [ST.out, e9]; simp
        have UD2 : Hid (p = useD ex L d (j + 1)) := by show _ = _; rw [useD_step, e9]; rw [← UD.out]; simp
        have UN2 : Hid (true = useN ex L q (j + 1)) := by show _ = _; rw [useN_step, e9]; simp
        obtain ⟨o, ho⟩ : ∃ z, withR 119 q = z := ⟨_, rfl⟩
        rw [ho] at OKJ WI
        have hri6 : Hid (Ri (w5.setCell ⟨g, 2, none⟩ (.int .i64 q)) b (sB m) (.slice A4 j cap4)) := (heap_setCell_other w5 ⟨g, 2, none⟩ b _ hgb.symm).trans hri5.out
        have hO6 : Hid (OwnT (w5.setCell ⟨g, 2, none⟩ (.int .i64 q)) (b + 1) (.slice A4 j cap4) ((List.range j).map (stR ex L d q))) := row_set_ne hO5.out (p := ⟨g, 2, none⟩) GB.out _
        have hB6 : Hid (Below b w3 (w5.setCell ⟨g, 2, none⟩ (.int .i64 q))) := hB5.out.setCell (p := ⟨g, 2, none⟩) (by have := hS5.out.1; simp; omega) _
        have RW6 : Hid (Rz (w5.setCell ⟨g, 2, none⟩ (.int .i64 q)) (n + 1)) := (heap_setCell_other w5 ⟨g, 2, none⟩ (n + 1) _ hgn.symm).trans RW5.out
        have hS6 : Hid (b + 1 ≤ (w5.setCell ⟨g, 2, none⟩ (.int .i64 q)).heap.size) := by have := hS5.out; simp [Hid]; omega
        clear ho hri5 hO5 hB5 RW5
        go_wp2_with fail
        refine (WI.out _).mono ?_
        rintro e wx ⟨rfl, rfl⟩
        cases o with
        | false =>
          have B6 : Hid (Below n w (w5.setCell ⟨g, 2, none⟩ (.int .i64 q))) := B3.out.trans (hB6.out.mono (by omega))
          have NO2 := Lib.hid (fillR_no HJL.out OKJ.out)
          clear q0 q1 q2 WI hri6 hO6 hB6
          have NO : Hid (fillR ex L d q = none) := NO2.out
          obtain ⟨z0, z1, z2, z3⟩ := RW6.out.cells
          have F : Hid (RetRFill w m (fillR ex L d q) (.returned (.tuple #[.agg #[.string ⟨#[]⟩, .slice none 0 0], .bool false])) (((w5.setCell ⟨g, 2, none⟩ (.int .i64 q)).setCell ⟨n + 1, 0, none⟩ (.string ⟨#[]⟩)).setCell ⟨n + 1, 1, none⟩ (.slice none 0 0))) := by
            show RetRFill w m (fillR ex L d q) _ _
            rw [NO.out]
            refine ⟨rfl, ?_⟩
            rw [HN.out]
            exact (B6.out.setCell (p := ⟨n + 1, 0, none⟩) (by simp) _).setCell (p := ⟨n + 1, 1, none⟩) (by simp) _
          have E := Lib.hid (RW6.out.set ⟨#[]⟩ (.slice none 0 0))
          go_wp2
          obtain ⟨e0, e1⟩ := E.out
          obtain ⟨w6, hw6⟩ : ∃ w6, (((w5.setCell ⟨g, 2, none⟩ (.int .i64 q)).setCell ⟨n + 1, 0, none⟩ (.string ⟨#[]⟩)).setCell ⟨n + 1, 1, none⟩ (.slice none 0 0)) = w6 := ⟨_, rfl⟩
          rw [hw6] at F e0 e1 ⊢
          clear hw6 z0 z1 z2 z3
          refine bodyPost_ret (v := .tuple #[.agg #[.string ⟨#[]⟩, .slice none 0 0], .bool false]) ?_ rfl F.out
          simp [results, Tryz.results16, go_sem, e0, e1]
        | true =>
          have OK2 : Hid (∀ k, k < j + 1 → okR ex L d q k = true) := fun k hk => by
            by_cases e : k = j
            · rw [e]; exact OKJ.out
            · exact OK.out k (by omega)
          have W3 : Hid ((List.range (j + 1)).map (stR ex L d q) = (List.range j).map (stR ex L d q) ++ [(y0, y1, q)]) := by show _ = _; rw [map_step, ST.out]
          clear WI
          obtain ⟨-, r1⟩ := hri6.out.cells
          have BK : Hid (∀ w8, Below (b + 1) (w5.setCell ⟨g, 2, none⟩ (.int .i64 q)) w8 → Ri w8 b (sB m) (.slice A4 j cap4) ∧ Below b w3 w8 ∧ b + 1 ≤ w8.heap.size) := fun w8 hB8 => ⟨(hB8.block b (by omega)).trans hri6.out, hB6.out.trans (hB8.mono (by omega)), Nat.le_trans hS6.out hB8.size⟩
          go_wp2_with (at_builtin; refine wpList_appT hO6.out hS6.out rfl _ _ rfl rfl w5.heap.size (by simp) rfl (y0, y1, q) j HLL.out (by omega) ?_; intro A4' cap4' w8 hO8 hB8; obtain ⟨hri8, hB9, hS9⟩ := BK.out w8 hB8; rw [← W3.out] at hO8; obtain ⟨r2, r3⟩ := hri8.cells; have r4 : w8.frozen? ⟨b, 1, none⟩ = false := Lib.frozen_of_heap hri8 1; have hO8 := Lib.hid hO8; have hri8 := Lib.hid hri8; have hB9 := Lib.hid hB9; have hS9 := Lib.hid hS9; clear hB8 r2)
          have hri9 : Hid (Ri (w8.setCell ⟨b, 1, none⟩ (.slice A4' (j + 1) cap4')) b (sB m) (.slice A4' (j + 1) cap4')) := heap_setCell_same w8 b 1 _ _ _ hri8.out
          have hO9 : Hid (OwnT (w8.setCell ⟨b, 1, none⟩ (.slice A4' (j + 1) cap4')) (b + 1) (.slice A4' (j + 1) cap4') ((List.range (j + 1)).map (stR ex L d q))) := row_set hO8.out (p := ⟨b, 1, none⟩) (by simp) _
          have hBa : Hid (Below b w3 (w8.setCell ⟨b, 1, none⟩ (.slice A4' (j + 1) cap4'))) := hB9.out.setCell (p := ⟨b, 1, none⟩) (Nat.le_refl _) _
          have hSa : Hid (b + 1 ≤ (w8.setCell ⟨b, 1, none⟩ (.slice A4' (j + 1) cap4')).heap.size) := by have h1 := hS9.out; simp [Hid] at h1 ⊢; omega
          go_roundw
          case rel => exact ⟨j + 1, A4', cap4', _, _, by omega, by go_num, rfl, rfl, UD2.out, UN2.out, OK2.out, hri9.out, hO9.out, hBa.out, hSa.out⟩
          case measure => simp [intOf]; omega
      · have e9 : letR ex L j = 0 := hv9
        rw [hv9]
        simp only [show ((0 : UInt8).toNat : Int) = 0 from rfl]
        have ST : Hid (stR ex L d q j = (y0, y1, y2)) := by show stR ex L d q j = _; unfold stR; rw [if_neg (by rw [e9]; decide), if_pos e9, HY.out]
        have OKJ : Hid (okR ex L d q j = true) := by show okR ex L d q j = _; unfold okR; rw [e9]; rfl
        have UD2 : Hid (p = useD ex L d (j + 1)) := by show _ = _; rw [useD_step, e9]; rw [← UD.out]; simp
        have UN2 : Hid (r = useN ex L q (j + 1)) := by show _ = _; rw [useN_step, e9]; rw [← UN.out]; simp
        have hri6 := hri5
        have hO6 := hO5
        have hB6 := hB5
        have hS6 : Hid (b + 1 ≤ w5.heap.size) := by have := hS5.out; show _ ≤ _; omega
        have OK2 : Hid (∀ k, k < j + 1 → okR ex L d q k = true) := fun k hk => by
          by_cases e : k = j
          · rw [e]; exact OKJ.out
          · exact OK.out k (by omega)
        have W3 : Hid ((List.range (j + 1)).map (stR ex L d q) = (List.range j).map (stR ex L d q) ++ [(y0, y1, y2)]) := by show _ = _; rw [map_step, ST.out]
        clear hri5 hO5 hB5 RW5
        obtain ⟨-, r1⟩ := hri6.out.cells
        have BK : Hid (∀ w8, Below (b + 1) w5 w8 → Ri w8 b (sB m) (.slice A4 j cap4) ∧ Below b w3 w8 ∧ b + 1 ≤ w8.heap.size) := fun w8 hB8 => ⟨(hB8.block b (by omega)).trans hri6.out, hB6.out.trans (hB8.mono (by omega)), Nat.le_trans hS6.out hB8.size⟩
        go_wp2_with (at_builtin; refine wpList_appT hO6.out hS6.out rfl _ _ rfl rfl w5.heap.size (by simp) rfl (y0, y1, y2) j HLL.out (by omega) ?_; intro A4' cap4' w8 hO8 hB8; obtain ⟨hri8, hB9, hS9⟩ := BK.out w8 hB8; rw [← W3.out] at hO8; obtain ⟨r2, r3⟩ := hri8.cells; have r4 : w8.frozen? ⟨b, 1, none⟩ = false := Lib.frozen_of_heap hri8 1; have hO8 := Lib.hid hO8; have hri8 := Lib.hid hri8; have hB9 := Lib.hid hB9; have hS9 := Lib.hid hS9; clear hB8 r2)
        have hri9 : Hid (Ri (w8.setCell ⟨b, 1, none⟩ (.slice A4' (j + 1) cap4')) b (sB m) (.slice A4' (j + 1) cap4')) := heap_setCell_same w8 b 1 _ _ _ hri8.out
        have hO9 : Hid (OwnT (w8.setCell ⟨b, 1, none⟩ (.slice A4' (j + 1) cap4')) (b + 1) (.slice A4' (j + 1) cap4') ((List.range (j + 1)).map (stR ex L d q))) := row_set hO8.out (p := ⟨b, 1, none⟩) (by simp) _
        have hBa : Hid (Below b w3 (w8.setCell ⟨b, 1, none⟩ (.slice A4' (j + 1) cap4'))) := hB9.out.setCell (p := ⟨b, 1, none⟩) (Nat.le_refl _) _
        have hSa : Hid (b + 1 ≤ (w8.setCell ⟨b, 1, none⟩ (.slice A4' (j + 1) cap4')).heap.size) := by have h1 := hS9.out; simp [Hid] at h1 ⊢; omega
        go_roundw
        case rel => exact ⟨j + 1, A4', cap4', _, _, by omega, by go_num, rfl, rfl, UD2.out, UN2.out, OK2.out, hri9.out, hO9.out, hBa.out, hSa.out⟩
        case measure => simp [intOf]; omega
    · obtain rfl : j = l := by omega
      have hw := hO.out
      have OKA : Hid (∀ k, k < L.length → okR ex L d q k = true) := fun k hk => OK.out k (by have := HL.out; omega)
      obtain ⟨c0, c1⟩ := hri.out.cells
      have UD3 : Hid (p = useD ex L d L.length) := by show _ = _; rw [HL.out]; exact UD.out
      have UN3 : Hid (r = useN ex L q L.length) := by show _ = _; rw [HL.out]; exact UN.out
      have hO7 := hO
      clear hw UD UN OK
      cases p with
      | false =>
        have NO2 := Lib.hid (fillR_noD (n := q) UD3.out.symm)
        clear UD3 UN3 c0 c1 hO hri hO7 OKA
        have NO : Hid (fillR ex L d q = none) := NO2.out
        obtain ⟨z0, z1, z2, z3⟩ := RW.out.cells
        have F : Hid (RetRFill w m (fillR ex L d q) (.returned (.tuple #[.agg #[.string ⟨#[]⟩, .slice none 0 0], .bool false])) ((wr.setCell ⟨n + 1, 0, none⟩ (.string ⟨#[]⟩)).setCell ⟨n + 1, 1, none⟩ (.slice none 0 0))) := by
          show RetRFill w m (fillR ex L d q) _ _
          rw [NO.out]
          refine ⟨rfl, ?_⟩
          rw [HN.out]
          exact (BW.out.setCell (p := ⟨n + 1, 0, none⟩) (by simp) _).setCell (p := ⟨n + 1, 1, none⟩) (by simp) _
        have E := Lib.hid (RW.out.set ⟨#[]⟩ (.slice none 0 0))
        go_wp2
        obtain ⟨e0, e1⟩ := E.out
        obtain ⟨w6, hw6⟩ : ∃ w6, ((wr.setCell ⟨n + 1, 0, none⟩ (.string ⟨#[]⟩)).setCell ⟨n + 1, 1, none⟩ (.slice none 0 0)) = w6 := ⟨_, rfl⟩
        rw [hw6] at F e0 e1 ⊢
        clear hw6 z0 z1 z2 z3
        refine bodyPost_ret (v := .tuple #[.agg #[.string ⟨#[]⟩, .slice none 0 0], .bool false]) ?_ rfl F.out
        simp [results, Tryz.results16, go_sem, e0, e1]
      | true =>
        cases r with
        | false =>
          have NO2 := Lib.hid (fillR_noN (d := d) UN3.out.symm)
          clear UD3 UN3 c0 c1 hO hri hO7 OKA
          have NO : Hid (fillR ex L d q = none) := NO2.out
          obtain ⟨z0, z1, z2, z3⟩ := RW.out.cells
          have F : Hid (RetRFill w m (fillR ex L d q) (.returned (.tuple #[.agg #[.string ⟨#[]⟩, .slice none 0 0], .bool false])) ((wr.setCell ⟨n + 1, 0, none⟩ (.string ⟨#[]⟩)).setCell ⟨n + 1, 1, none⟩ (.slice none 0 0))) := by
            show RetRFill w m (fillR ex L d q) _ _
            rw [NO.out]
            refine ⟨rfl, ?_⟩
            rw [HN.out]
            exact (BW.out.setCell (p := ⟨n + 1, 0, none⟩) (by simp) _).setCell (p := ⟨n + 1, 1, none⟩) (by simp) _
          have E := Lib.hid (RW.out.set ⟨#[]⟩ (.slice none 0 0))
          go_wp2
          obtain ⟨e0, e1⟩ := E.out
          obtain ⟨w6, hw6⟩ : ∃ w6, ((wr.setCell ⟨n + 1, 0, none⟩ (.string ⟨#[]⟩)).setCell ⟨n + 1, 1, none⟩ (.slice none 0 0)) = w6 := ⟨_, rfl⟩
          rw [hw6] at F e0 e1 ⊢
          clear hw6 z0 z1 z2 z3
          refine bodyPost_ret (v := .tuple #[.agg #[.string ⟨#[]⟩, .slice none 0 0], .bool false]) ?_ rfl F.out
          simp [results, Tryz.results16, go_sem, e0, e1]
        | true =>
          have YES := Lib.hid (fillR_yes OKA.out UD3.out.symm UN3.out.symm)
          have F : Hid (RetRFill w m (fillR ex L d q) (.returned (.tuple #[.agg #[.string (sB m), .slice A4 j cap4], .bool true])) ((wr.setCell ⟨n + 1, 0, none⟩ (.string (sB m))).setCell ⟨n + 1, 1, none⟩ (.slice A4 j cap4))) := by
            show RetRFill w m (fillR ex L d q) _ _
            rw [YES.out, HL.out]
            refine ⟨_, rfl, ?_, ?_⟩
            · rw [HN.out]
              exact row_mono (row_set (row_set hO7.out (p := ⟨n + 1, 0, none⟩) (by simp; omega) _) (p := ⟨n + 1, 1, none⟩) (by simp; omega) _) (by omega)
            · rw [HN.out]
              exact (BW.out.setCell (p := ⟨n + 1, 0, none⟩) (by simp) _).setCell (p := ⟨n + 1, 1, none⟩) (by simp) _
          obtain ⟨z0, z1, z2, z3⟩ := RW.out.cells
          have E := Lib.hid (RW.out.set (sB m) (.slice A4 j cap4))
          clear UD3 UN3 hO hri hO7 OKA YES
          go_wp2
          obtain ⟨e0, e1⟩ := E.out
          obtain ⟨w6, hw6⟩ : ∃ w6, ((wr.setCell ⟨n + 1, 0, none⟩ (.string (sB m))).setCell ⟨n + 1, 1, none⟩ (.slice A4 j cap4)) = w6 := ⟨_, rfl⟩
          rw [hw6] at F e0 e1 ⊢
          clear hw6 z0 z1 z2 z3 c0 c1
          refine bodyPost_ret (v := .tuple #[.agg #[.string (sB m), .slice A4 j cap4], .bool true]) ?_ rfl F.out
          simp [results, Tryz.results16, go_sem, e0, e1]
end Go.Proofs.YtbbpkoaeedkncaaGreatDoor
namespace Go.Proofs.YtbbpkoaeedkncaaGreatDoor
open Go.RowKit
theorem fill_nums {ex : Str} {L L2 : List Tr} {d n : Int} (hp : placesB ex L = true) (h : fillV ex L d n = some L2) : numV (varsV ex).1.1 L2 = d ∧ numV (varsV ex).2.1 L2 = n := by
  obtain ⟨hs, hd, hn, -⟩ := fill_shape h
  constructor
  · unfold numV
    rw [atV_congr (varsV ex).1.1 hs]
    cases ha : atV (varsV ex).1.1 L with
    | none =>
      unfold putB at hd
      rw [ha] at hd
      simp only [decide_eq_true_eq] at hd
      exact hd.symm
    | some k =>
      have hk := atV_lt ha
      have hpl := places_at hp k hk
      unfold placeB at hpl
      rw [if_pos ha] at hpl
      simp only [Bool.and_eq_true, decide_eq_true_eq] at hpl
      simp only
      rw [fill_get h k hk, if_neg hpl.2, if_pos ha]
  · unfold numV
    rw [atV_congr (varsV ex).2.1 hs]
    cases ha : atV (varsV ex).2.1 L with
    | none =>
      unfold putB at hn
      rw [ha] at hn
      simp only [decide_eq_true_eq] at hn
      exact hn.symm
    | some k =>
      simp only
      rw [fill_get h k (atV_lt ha), if_pos ha]
theorem fill_has {m ex : Str} {L L2 : List Tr} {d n : Int} (hp : placesB ex L = true) (h : fillV ex L d n = some L2) : hasV m L ex (sB m) L2 = true := by
  obtain ⟨h1, h2⟩ := fill_nums hp h
  unfold hasV
  rw [h1, h2, h]
  simp
theorem fill_val {m ex : Str} {L L2 : List Tr} {d n : Int} (hp : placesB ex L = true) (h : fillV ex L d n = some L2) : valV m L ex (sB m) L2 = (d, n) := by
  obtain ⟨h1, h2⟩ := fill_nums hp h
  unfold valV
  rw [if_pos (fill_has hp h), h1, h2]
theorem can_fits {m ex : Str} {L C : List Tr} (hc : canB m L ex = true) {s : ByteArray} (h : fitsR m L ex s C = true) : canL (opc s) C = C := by
  unfold fitsR shpR at h
  simp only [Bool.and_eq_true, decide_eq_true_eq, List.all_eq_true, List.mem_range] at h
  obtain ⟨⟨rfl, hsh⟩, hall⟩ := h
  have hlen := len_of_shape hsh
  unfold canB at hc
  simp only [Bool.and_eq_true, List.all_eq_true, List.mem_range] at hc
  obtain ⟨⟨⟨c1, c2⟩, c3⟩, c4⟩ := hc
  have e1 : accL (opc (sB m)) C = C := by
    unfold accL
    rw [if_neg, if_neg]
    · rintro ⟨h1, h2⟩
      rw [h1, hlen, h2] at c2
      simp at c2
    · rintro ⟨h1, h2, -⟩
      rw [h1, hlen, h2] at c1
      simp at c1
  have e2 : exL (opc (sB m)) C = C := by
    unfold exL
    rw [if_neg]
    rintro ⟨h1, h2⟩
    rw [h1, hsh, h2] at c3
    revert c3
    decide
  unfold canL
  rw [e1, e2]
  conv => rhs; rw [← List.map_id C]
  refine List.map_congr_left fun t ht => ?_
  obtain ⟨k, hk, rfl⟩ := List.getElem_of_mem ht
  have hkL : k < L.length := by omega
  have hf := hall k hk
  have h4 := c4 k hkL
  have hg := (get_of_shape hsh k hkL).1
  have hC : C.getD k tr0 = C[k] := by rw [List.getD_eq_getElem?_getD, List.getElem?_eq_getElem hk]; rfl
  rw [hC] at hf hg
  show wrapT _ C[k] = C[k]
  unfold wrapT
  rw [if_neg]
  rintro ⟨h6, -, hneg⟩
  simp only [Bool.or_eq_true, bne_iff_ne] at h4
  rcases h4 with h4 | h4
  · exact h4 (hg.trans h6)
  · unfold fitT at hf
    by_cases hz : letR ex L k = 0
    · rw [if_pos hz, decide_eq_true_eq] at hf
      rw [if_pos hz, decide_eq_true_eq] at h4
      omega
    · rw [if_neg hz, withR_range, Bool.and_eq_true, decide_eq_true_eq] at hf
      rw [if_neg hz, decide_eq_true_eq] at h4
      omega
end Go.Proofs.YtbbpkoaeedkncaaGreatDoor
