/-
  SeRc, SeRj, EnC, Fr, MixP, DfA, DgB.
-/
import Derived.Test.YtclhaejdjogfbaaGreatGAQ
import Derived.Test.YtclhaejdjogfbaaGreatGAB
import Derived.Test.YtclhaejdjogfbaaGreatGAH
import Derived.Deep.DeepCutAuto
import Derived.Deep.Cut
import Derived.Test.YtclhaejdjogfbaaGreatGAJ
import Derived.Below
import Derived.Lib.Hide
import Derived.Lib.Builder
import Derived.RangeFuncRecord
import Derived.Test.YtclhaejdjogfbaaGreatGAE
import Derived.Test.YtclhaejdjogfbaaGreatGAA
import Derived.Deep.QuietTactic
import Derived.BigQuiet
set_option linter.all false
set_option maxRecDepth 100000
set_option maxHeartbeats 4000000
namespace Go.Proofs.YtclhaejdjogfbaaGreat
open Go.RowKit Go.Shelf
attribute [local go_sem] Oper.semAt_some
theorem letter_any (page op : Int) (m : Str) (A : Option Addr) (cap l : Nat) (L : List Tr) (hl : L.length = l) (hL : l ≤ 1000) (ex : Str) (hx : ex.length ≤ 1000) (al : Bool) (k : Nat) (hk : k < l) (w : World) (H : OpsP w A L) :
    Calls Tryz.prog 39 #[enV page op m (.slice A l cap) ex al, .int .i64 k] w (RetLet w (letR ex L k)) := by
  have hk1 : k < L.length := by omega
  have rh := fun c w' => rhas_any ex hx c w'
  unfold enV
  obtain ⟨s, hs⟩ : ∃ s, sB ex = s := ⟨_, rfl⟩
  rw [hs] at rh ⊢
  clear hs
  obtain ⟨b, off, rfl, hb, p0, p1, p2⟩ := H.at_ hk1
  obtain ⟨⟨t0, t1, t2⟩, ht⟩ : ∃ t, L[k] = t := ⟨_, rfl⟩
  rw [ht] at p0 p1 p2
  simp only at p0 p1 p2
  obtain ⟨w0, hw0⟩ : ∃ z, w.alloc (.cells #[.int .i64 page, .int .u8 op, .string (sB m), .slice (some ⟨b, off, none⟩) l cap, .string s, .bool al] 54) = z := ⟨_, rfl⟩
  obtain ⟨n, hn⟩ : ∃ z, w.heap.size = z := ⟨_, rfl⟩
  have b0 : Below w.heap.size w w0 := by rw [← hw0]; exact up1 _ _
  have c0 : w0.heap[n]? = some (.cells #[.int .i64 page, .int .u8 op, .string (sB m), .slice (some ⟨b, off, none⟩) l cap, .string s, .bool al] 54 (0, 0)) := by rw [← hw0, ← hn]; exact World.alloc_heap_new w _
  have z0 : w0.heap.size = n + 1 := by rw [← hw0, ← hn]; simp
  obtain ⟨w1, hw1⟩ : ∃ z, w0.alloc (.cells #[.int .i64 t0, .int .i64 t1, .int .i64 t2] 61) = z := ⟨_, rfl⟩
  have b1 : Below w0.heap.size w0 w1 := by rw [← hw1]; exact up1 _ _
  have c1 : w1.heap[n + 1]? = some (.cells #[.int .i64 t0, .int .i64 t1, .int .i64 t2] 61 (0, 0)) := by rw [← hw1, ← z0]; exact World.alloc_heap_new w0 _
  have bb : Below w.heap.size w w1 := b0.trans (b1.mono b0.size)
  have d0 := (b1.block n (by omega)).trans c0
  have BB : Hid (Below n w w1) := by rw [← hn]; exact bb
  have HN := Lib.hid hn
  have PL := Lib.hid (H.below bb)
  have q0 := (b0.cell (p := ⟨b, off + k * 3, none⟩) hb).trans p0
  have q1 := (b0.cell (p := ⟨b, off + k * 3 + 1, none⟩) hb).trans p1
  have q2 := (b0.cell (p := ⟨b, off + k * 3 + 2, none⟩) hb).trans p2
  have k3 := Lib.cell_of_heap c0 3
  have hkc : (k : Int) < (l : Int) := by omega
  have LA := Lib.hid (letR_a (ex := ex) hk1)
  have LB := Lib.hid (letR_b (ex := ex) hk1)
  have LC := Lib.hid (letR_c (ex := ex) hk1)
  have LD := Lib.hid (letR_d (ex := ex) hk1)
  have LE := Lib.hid (letR_e (ex := ex) hk1)
  rw [ht] at LA LB LC LD LE
  simp only [varKB_eq] at LA LB LC LD LE
  have HL := Lib.hid hl
  have DY := Lib.hid (fun j (hj : j < L.length) => drop_yes (k := k) hj)
  have DA := Lib.hid (drop_any (L := L) (k := k))
  have V3 := Lib.hid (Lib.cell_of_heap d0 3)
  have V4 := Lib.hid (Lib.cell_of_heap d0 4)
  obtain ⟨h100, e100⟩ : ∃ z, ex.contains 100 = z := ⟨_, rfl⟩
  obtain ⟨h101, e101⟩ : ∃ z, ex.contains 101 = z := ⟨_, rfl⟩
  obtain ⟨h110, e110⟩ : ∃ z, ex.contains 110 = z := ⟨_, rfl⟩
  obtain ⟨h119, e119⟩ : ∃ z, ex.contains 119 = z := ⟨_, rfl⟩
  have R1 := Lib.hid (rh 100 w1)
  have R2 := Lib.hid (rh 101 w1)
  have R3 := Lib.hid (rh 110 w1)
  have R4 := Lib.hid (rh 119 w1)
  rw [e100] at R1 LA LB LC LD LE
  rw [e101] at R2 LB LC LD LE
  rw [e110] at R3
  rw [e119] at R4
  have LR : Hid (lastR ex = if h110 = true then 110 else if h119 = true then 119 else 0) := by show _ = _; unfold lastR; rw [e110, e119]
  have u0 := Lib.cell_of_heap c1 0
  have u4 := Lib.cell_of_heap d0 4
  clear H b0 c0 b1 bb d0 rh ht hl e100 e101 e110 e119 hx hb p0 p1 p2 hk1
  obtain ⟨r, hr⟩ : ∃ z, letR ex L k = z := ⟨_, rfl⟩
  rw [hr] at LA LB LC LD LE ⊢
  clear hr
  go_enter Tryz.func39, Tryz.ntmps39
  go_upto_region 2 with fail
  clear k3 q0 q1 q2 hw1 hw0
  by_cases k5 : t0 = 5
  · subst k5
    go_wp2_with fail
    refine R1.out.mono ?_
    rintro e w' ⟨rfl, rfl⟩
    cases h100 with
    | true =>
      obtain rfl := LA.out (by first | trivial | rfl) (by first | trivial | rfl)
      go_wp2
      go_ret
      exact ⟨rfl, by rw [HN.out]; exact BB.out⟩
    | false =>
      obtain rfl := LC.out (by simp) (by simp) (by decide)
      go_wp2
      go_ret
      exact ⟨rfl, by rw [HN.out]; exact BB.out⟩
  · have e5 : (t0 == 5) = false := beq_eq_false_iff_ne.2 k5
    by_cases k10 : t0 = 10
    · subst k10
      go_wp2_with fail
      refine R2.out.mono ?_
      rintro e w' ⟨rfl, rfl⟩
      cases h101 with
      | true =>
        obtain rfl := LB.out (by simp) (by first | trivial | rfl) (by first | trivial | rfl)
        go_wp2
        go_ret
        exact ⟨rfl, by rw [HN.out]; exact BB.out⟩
      | false =>
        obtain rfl := LC.out (by simp) (by simp) (by decide)
        go_wp2
        go_ret
        exact ⟨rfl, by rw [HN.out]; exact BB.out⟩
    · have e10 : (t0 == 10) = false := beq_eq_false_iff_ne.2 k10
      by_cases k67 : t0 = 6 ∨ t0 = 7
      · have K5 := Lib.hid k5
        have K10 := Lib.hid k10
        clear k5 k10 e5 e10
        rcases k67 with rfl | rfl
        · skip
          go_wp2
          go_loopw [6] (fun i wr => ∃ j : Nat, k + 1 ≤ j ∧ j ≤ l ∧ i = .int .i64 j ∧ wr = w1 ∧ Hid (∀ i (hi : i < L.length), k < i → i < j → varKB L[i] = false)) (fun i _ => l - (intOf i).toNat)
          case atStart => exact ⟨k + 1, Nat.le_refl _, by omega, by go_num, rfl, fun i hi h1 h2 => by omega⟩
          case round =>
            obtain ⟨j, hkj, hj, rfl, rfl, RR⟩ := hrel
            have w3 := V3.out
            by_cases hlt : j < l
            · have hj1 : j < L.length := by have := HL.out; omega
              obtain ⟨b2, o2, hA2, -, g0, g1, g2⟩ := PL.out.at_ hj1
              simp only [Option.some.injEq, Addr.mk.injEq, and_true] at hA2
              obtain ⟨rfl, rfl⟩ := hA2
              have hjc : (j : Int) < (l : Int) := by omega
              have DYj := Lib.hid (DY.out j hj1 (by omega))
              have RN : Hid (varKB L[j] = false → ∀ i (hi : i < L.length), k < i → i < j + 1 → varKB L[i] = false) := fun h i hi h1 h2 => by
                by_cases e : i = j
                · subst e; exact h
                · exact RR.out i hi h1 (by omega)
              obtain ⟨⟨y0, y1, y2⟩, hy⟩ : ∃ y, L[j] = y := ⟨_, rfl⟩
              rw [hy] at g0 DYj RN
              simp only [varKB_eq] at DYj RN
              simp only at g0
              clear g1 g2 hy hj1 RR
              by_cases y6 : y0 = 6 ∨ y0 = 7
              · obtain rfl := LD.out (fun h => by cases h.1) (fun h => by cases h.1) (by decide) (DYj.out (by rcases y6 with rfl | rfl <;> decide))
                rcases y6 with rfl | rfl
                all_goals
                  go_wp2
                  go_ret
                  exact ⟨rfl, by rw [HN.out]; exact BB.out⟩
              · have n6 : ¬ y0 = 6 := fun h => y6 (.inl h)
                have n7 : ¬ y0 = 7 := fun h => y6 (.inr h)
                have m6 : (y0 == 6) = false := beq_eq_false_iff_ne.2 n6
                have m7 : (y0 == 7) = false := beq_eq_false_iff_ne.2 n7
                have R9 := Lib.hid (RN.out (by rw [m6, m7]; rfl))
                clear y6 RN DYj
                go_wp2
                go_roundw
                case rel => exact ⟨j + 1, by omega, by omega, by go_num, by first | rfl | trivial, R9.out⟩
                case measure => simp [intOf]; omega
            · obtain rfl : j = l := by omega
              have DD : Hid (r = lastR ex) := LE.out (fun h => by cases h.1) (fun h => by cases h.1) (by decide) (DA.out fun i hi h1 => RR.out i hi h1 (by have := HL.out; omega))
              have v4 := V4.out
              have DD2 : Hid (r = if h110 = true then 110 else if h119 = true then 119 else 0) := by show r = _; rw [DD.out, LR.out]
              clear RR DD
              go_wp2_with fail
              refine R3.out.mono ?_
              rintro e w' ⟨rfl, rfl⟩
              cases h110 with
              | true =>
                obtain rfl : r = 110 := DD2.out
                go_wp2
                go_ret
                exact ⟨rfl, by rw [HN.out]; exact BB.out⟩
              | false =>
                go_wp2_with fail
                refine R4.out.mono ?_
                rintro e w' ⟨rfl, rfl⟩
                cases h119 with
                | true =>
                  obtain rfl : r = 119 := DD2.out
                  go_wp2
                  go_ret
                  exact ⟨rfl, by rw [HN.out]; exact BB.out⟩
                | false =>
                  obtain rfl : r = 0 := DD2.out
                  go_wp2
                  go_ret
                  exact ⟨rfl, by rw [HN.out]; exact BB.out⟩
        · skip
          go_wp2
          go_loopw [6] (fun i wr => ∃ j : Nat, k + 1 ≤ j ∧ j ≤ l ∧ i = .int .i64 j ∧ wr = w1 ∧ Hid (∀ i (hi : i < L.length), k < i → i < j → varKB L[i] = false)) (fun i _ => l - (intOf i).toNat)
          case atStart => exact ⟨k + 1, Nat.le_refl _, by omega, by go_num, rfl, fun i hi h1 h2 => by omega⟩
          case round =>
            obtain ⟨j, hkj, hj, rfl, rfl, RR⟩ := hrel
            have w3 := V3.out
            by_cases hlt : j < l
            · have hj1 : j < L.length := by have := HL.out; omega
              obtain ⟨b2, o2, hA2, -, g0, g1, g2⟩ := PL.out.at_ hj1
              simp only [Option.some.injEq, Addr.mk.injEq, and_true] at hA2
              obtain ⟨rfl, rfl⟩ := hA2
              have hjc : (j : Int) < (l : Int) := by omega
              have DYj := Lib.hid (DY.out j hj1 (by omega))
              have RN : Hid (varKB L[j] = false → ∀ i (hi : i < L.length), k < i → i < j + 1 → varKB L[i] = false) := fun h i hi h1 h2 => by
                by_cases e : i = j
                · subst e; exact h
                · exact RR.out i hi h1 (by omega)
              obtain ⟨⟨y0, y1, y2⟩, hy⟩ : ∃ y, L[j] = y := ⟨_, rfl⟩
              rw [hy] at g0 DYj RN
              simp only [varKB_eq] at DYj RN
              simp only at g0
              clear g1 g2 hy hj1 RR
              by_cases y6 : y0 = 6 ∨ y0 = 7
              · obtain rfl := LD.out (fun h => by cases h.1) (fun h => by cases h.1) (by decide) (DYj.out (by rcases y6 with rfl | rfl <;> decide))
                rcases y6 with rfl | rfl
                all_goals
                  go_wp2
                  go_ret
                  exact ⟨rfl, by rw [HN.out]; exact BB.out⟩
              · have n6 : ¬ y0 = 6 := fun h => y6 (.inl h)
                have n7 : ¬ y0 = 7 := fun h => y6 (.inr h)
                have m6 : (y0 == 6) = false := beq_eq_false_iff_ne.2 n6
                have m7 : (y0 == 7) = false := beq_eq_false_iff_ne.2 n7
                have R9 := Lib.hid (RN.out (by rw [m6, m7]; rfl))
                clear y6 RN DYj
                go_wp2
                go_roundw
                case rel => exact ⟨j + 1, by omega, by omega, by go_num, by first | rfl | trivial, R9.out⟩
                case measure => simp [intOf]; omega
            · obtain rfl : j = l := by omega
              have DD : Hid (r = lastR ex) := LE.out (fun h => by cases h.1) (fun h => by cases h.1) (by decide) (DA.out fun i hi h1 => RR.out i hi h1 (by have := HL.out; omega))
              have v4 := V4.out
              have DD2 : Hid (r = if h110 = true then 110 else if h119 = true then 119 else 0) := by show r = _; rw [DD.out, LR.out]
              clear RR DD
              go_wp2_with fail
              refine R3.out.mono ?_
              rintro e w' ⟨rfl, rfl⟩
              cases h110 with
              | true =>
                obtain rfl : r = 110 := DD2.out
                go_wp2
                go_ret
                exact ⟨rfl, by rw [HN.out]; exact BB.out⟩
              | false =>
                go_wp2_with fail
                refine R4.out.mono ?_
                rintro e w' ⟨rfl, rfl⟩
                cases h119 with
                | true =>
                  obtain rfl : r = 119 := DD2.out
                  go_wp2
                  go_ret
                  exact ⟨rfl, by rw [HN.out]; exact BB.out⟩
                | false =>
                  obtain rfl : r = 0 := DD2.out
                  go_wp2
                  go_ret
                  exact ⟨rfl, by rw [HN.out]; exact BB.out⟩
      · have e6 : (t0 == 6) = false := beq_eq_false_iff_ne.2 (fun h => k67 (.inl h))
        have e7 : (t0 == 7) = false := beq_eq_false_iff_ne.2 (fun h => k67 (.inr h))
        obtain rfl := LC.out (fun h => k5 h.1) (fun h => k10 h.1) (by rw [e6, e7]; rfl)
        have n6 : ¬ t0 = 6 := fun h => k67 (.inl h)
        have n7 : ¬ t0 = 7 := fun h => k67 (.inr h)
        have m6 : (t0 != 6) = true := bne_iff_ne.2 n6
        have m7 : (t0 != 7) = true := bne_iff_ne.2 n7
        clear k5 k10 k67 e6 e7
        go_wp2
        go_ret
        exact ⟨rfl, by rw [HN.out]; exact BB.out⟩
end Go.Proofs.YtclhaejdjogfbaaGreat
namespace Go.Proofs.YtclhaejdjogfbaaGreat
open Go.RowKit Go.Shelf
attribute [local go_sem] Oper.semAt_some
def RetRFill (w : World) (m : Str) (o : Option (List Tr)) (e : Ending) (w' : World) : Prop := match o with
  | some L2 => ∃ v, e = .returned (.tuple #[.agg #[.string (sB m), v], .bool true]) ∧ OwnT w' w.heap.size v L2 ∧ Below w.heap.size w w'
  | none => e = .returned (.tuple #[.agg #[.string ⟨#[]⟩, .slice none 0 0], .bool false]) ∧ Below w.heap.size w w'
theorem fillR_no {ex : Str} {L : List Tr} {d n : Int} {k : Nat} (hk : k < L.length) (h : okR ex L d n k = false) : fillR ex L d n = none := by
  unfold fillR
  refine if_neg fun hc => ?_
  have := List.all_eq_true.1 hc.1 k (List.mem_range.2 hk)
  rw [h] at this
  cases this
theorem fillR_yes {ex : Str} {L : List Tr} {d n : Int} (h : ∀ k, k < L.length → okR ex L d n k = true) (h1 : useD ex L d L.length = true) (h2 : useN ex L n L.length = true) : fillR ex L d n = some ((List.range L.length).map (stR ex L d n)) := by
  unfold fillR
  exact if_pos ⟨List.all_eq_true.2 fun k hk => h k (List.mem_range.1 hk), h1, h2⟩
theorem fillR_noD {ex : Str} {L : List Tr} {d n : Int} (h1 : useD ex L d L.length = false) : fillR ex L d n = none := by
  unfold fillR
  refine if_neg fun hc => ?_
  rw [h1] at hc
  exact absurd hc.2.1 (by simp)
theorem fillR_noN {ex : Str} {L : List Tr} {d n : Int} (h1 : useN ex L n L.length = false) : fillR ex L d n = none := by
  unfold fillR
  refine if_neg fun hc => ?_
  rw [h1] at hc
  exact absurd hc.2.2 (by simp)
theorem useD_step (ex : Str) (L : List Tr) (d : Int) (k : Nat) : useD ex L d (k + 1) = (useD ex L d k || letR ex L k == 100) := by
  unfold useD
  rw [List.range_succ, List.any_append]
  simp [Bool.or_assoc]
theorem useN_step (ex : Str) (L : List Tr) (n : Int) (k : Nat) : useN ex L n (k + 1) = (useN ex L n k || (letR ex L k != 100 && letR ex L k != 0)) := by
  unfold useN
  rw [List.range_succ, List.any_append]
  simp [Bool.or_assoc]
theorem map_step (ex : Str) (L : List Tr) (d n : Int) (k : Nat) : (List.range (k + 1)).map (stR ex L d n) = (List.range k).map (stR ex L d n) ++ [stR ex L d n k] := by
  rw [List.range_succ, List.map_append]
  rfl
theorem fill_start (w : World) (page op : Int) (m : Str) (v : Value) (ex : Str) (al : Bool) (n : Nat) (hn : w.heap.size = n) : ∃ w0, ((w.alloc (.cells #[.int .i64 page, .int .u8 op, .string (sB m), v, .string (sB ex), .bool al] 54)).alloc (.cells #[.string ⟨#[]⟩, .slice none 0 0] 26)) = w0 ∧
    w0.heap[n]? = some (.cells #[.int .i64 page, .int .u8 op, .string (sB m), v, .string (sB ex), .bool al] 54 (0, 0)) ∧ Rz w0 (n + 1) ∧ Below w.heap.size w w0 ∧ w0.heap.size = n + 2 := by
  subst hn
  refine ⟨_, rfl, (Below.heap_alloc _ _ _ (by simp)).trans (World.alloc_heap_new w _), ?_, ((Below.refl _ w).alloc (Nat.le_refl _) _).alloc (by simp) _, by simp⟩
  have h := World.alloc_heap_new (w.alloc (.cells #[.int .i64 page, .int .u8 op, .string (sB m), v, .string (sB ex), .bool al] 54)) (.cells #[.string ⟨#[]⟩, .slice none 0 0] 26)
  rwa [World.size_alloc] at h
theorem rfill_any (page op : Int) (m : Str) (A : Option Addr) (cap l : Nat) (L : List Tr) (hl : L.length = l) (hL : l ≤ 1000) (ex : Str) (hx : ex.length ≤ 1000) (al : Bool) (d q : Int) (w : World) (H : OpsP w A L) :
    Calls Tryz.prog 26 #[enV page op m (.slice A l cap) ex al, .int .i64 d, .int .i64 q] w (RetRFill w m (fillR ex L d q)) := by
  unfold enV
  obtain ⟨n, hn⟩ : ∃ z, w.heap.size = z := ⟨_, rfl⟩
  obtain ⟨w0, hw0, c0, zz, b0, z0⟩ := fill_start w page op m (.slice A l cap) ex al n hn
  have BB : Hid (Below n w w0) := by rw [← hn]; exact b0
  have HN := Lib.hid hn
  have HL := Lib.hid hl
  have Z0 := Lib.hid z0
  have PH := Lib.hid H
  have C0 := Lib.hid c0
  have R0 := Lib.hid zz
  have k0 := Lib.cell_of_heap c0 0
  have k1 := Lib.cell_of_heap c0 1
  have k2 := Lib.cell_of_heap c0 2
  have k3 := Lib.cell_of_heap c0 3
  have k4 := Lib.cell_of_heap c0 4
  have k5 := Lib.cell_of_heap c0 5
  clear H b0 c0 z0 zz hl
  go_enter Tryz.func26, Tryz.ntmps26
  go_upto_region 1 with fail
  clear hw0
  go_upto_region 2 with fail
  obtain ⟨w3, hw3⟩ : ∃ z, w0.alloc (.cells #[.string (sB m), .slice none 0 0] 26) = z := ⟨_, rfl⟩
  obtain ⟨b, hb⟩ : ∃ z, w0.heap.size = z := ⟨_, rfl⟩
  have y2 : Below w0.heap.size w0 w3 := by rw [← hw3]; exact (Below.refl _ _).alloc (Nat.le_refl _) _
  have RI : Hid (Ri w3 b (sB m) (.slice none 0 0)) := by rw [← hw3, ← hb]; exact heap_alloc_new w0 _
  have hb2 : n + 1 < b := by have := Z0.out; omega
  have ZS : Hid (w3.heap.size = b + 1) := by show _ = _; rw [← hw3, ← hb]; simp
  have B3 : Hid (Below n w w3) := BB.out.trans (y2.mono (by have := Z0.out; omega))
  have C3 := Lib.hid ((y2.block n (by have := Z0.out; omega)).trans C0.out)
  have R3 : Hid (Rz w3 (n + 1)) := (y2.block (n + 1) (by have := Z0.out; omega)).trans R0.out
  rw [hw3, hb]
  clear hw3 hb y2 k0 k1 k2 k3 k4 k5 BB Z0 C0 R0
  have U0 : Hid ((d == 0) = useD ex L d 0) := by show _ = _; unfold useD; simp
  have U1 : Hid ((q == 0) = useN ex L q 0) := by show _ = _; unfold useN; simp
  obtain ⟨ud, hud⟩ : ∃ z, (d == 0) = z := ⟨_, rfl⟩
  obtain ⟨un, hun⟩ : ∃ z, (q == 0) = z := ⟨_, rfl⟩
  rw [hud] at U0
  rw [hun] at U1
  have hO0 : Hid (OwnT w3 (b + 1) (.slice none 0 0) ((List.range 0).map (stR ex L d q))) := World.ownsRow_nil _ _ _ _
  go_wp2
  clear hud hun
  go_loopw [9, 10, 11] (fun x y i wr => ∃ (j : Nat) (A4 : Option Addr) (cap4 : Nat) (p r : Bool), j ≤ l ∧ i = .int .i64 j ∧ x = .bool p ∧ y = .bool r ∧ Hid (p = useD ex L d j) ∧ Hid (r = useN ex L q j) ∧ Hid (∀ k, k < j → okR ex L d q k = true) ∧ Hid (Ri wr b (sB m) (.slice A4 j cap4)) ∧ Hid (OwnT wr (b + 1) (.slice A4 j cap4) ((List.range j).map (stR ex L d q))) ∧ Hid (Below b w3 wr) ∧ Hid (b + 1 ≤ wr.heap.size)) (fun _ _ i _ => l - (intOf i).toNat)
  case atStart => exact ⟨0, none, 0, ud, un, Nat.zero_le _, rfl, rfl, rfl, U0.out, U1.out, fun k h => by omega, RI.out, hO0.out, Below.refl _ _, Nat.le_of_eq ZS.out.symm⟩
  case round =>
    clear RI hO0 U0 U1
    obtain ⟨j, A4, cap4, p, r, hj, rfl, rfl, rfl, UD, UN, OK, hri, hO, hB, hS⟩ := hrel
    have cw := (hB.out.block n (by omega)).trans C3.out
    have CW := Lib.hid cw
    have RW : Hid (Rz wr (n + 1)) := (hB.out.block (n + 1) (by omega)).trans R3.out
    have BW : Hid (Below n w wr) := B3.out.trans (hB.out.mono (by omega))
    have PW : Hid (OpsP wr A L) := PH.out.below (by rw [HN.out]; exact BW.out)
    have k0 := Lib.cell_of_heap cw 0
    have k1 := Lib.cell_of_heap cw 1
    have k2 := Lib.cell_of_heap cw 2
    have k3 := Lib.cell_of_heap cw 3
    have k4 := Lib.cell_of_heap cw 4
    have k5 := Lib.cell_of_heap cw 5
    clear cw
    by_cases hlt : j < l
    · have hjL : j < L.length := by have := HL.out; omega
      obtain ⟨b1, o1, rfl, -, p0, p1, p2⟩ := PW.out.at_ hjL
      have g2 : L.getD j tr0 = L[j] := by rw [List.getD_eq_getElem?_getD, List.getElem?_eq_getElem hjL]; rfl
      rw [← g2] at p0 p1 p2
      have HJL := Lib.hid hjL
      obtain ⟨⟨y0, y1, y2⟩, hy⟩ : ∃ z, L.getD j tr0 = z := ⟨_, rfl⟩
      have HY := Lib.hid hy
      rw [hy] at p0 p1 p2
      simp only at p0 p1 p2
      have hal : Below wr.heap.size wr (wr.alloc (.cells #[.int .i64 y0, .int .i64 y1, .int .i64 y2] 61)) := (Below.refl _ _).alloc (Nat.le_refl _) _
      have HAL := Lib.hid hal
      have bx : (wr.alloc (.cells #[.int .i64 y0, .int .i64 y1, .int .i64 y2] 61)).heap[wr.heap.size]? = some (.cells #[.int .i64 y0, .int .i64 y1, .int .i64 y2] 61 (0, 0)) := heap_alloc_new wr _
      have BX := Lib.hid bx
      have lt := fun w' h => letter_any page op m (some ⟨b1, o1, none⟩) cap l L HL.out hL ex hx al j hlt w' h
      simp only [enV] at lt
      have LT := Lib.hid lt
      clear hy hjL g2 hal bx lt
      go_upto_region 8 with fail
      obtain ⟨g, hg⟩ : ∃ z, wr.heap.size = z := ⟨_, rfl⟩
      obtain ⟨w4, hw4⟩ : ∃ z, wr.alloc (.cells #[.int .i64 y0, .int .i64 y1, .int .i64 y2] 61) = z := ⟨_, rfl⟩
      rw [hw4, hg]
      rw [hw4, hg] at BX
      rw [hw4] at HAL
      have c4 := (HAL.out.block n (by have := hS.out; omega)).trans CW.out
      have C4 := Lib.hid c4
      have RW4 : Hid (Rz w4 (n + 1)) := (HAL.out.block (n + 1) (by have := hS.out; omega)).trans RW.out
      have P4 := Lib.hid (PW.out.below HAL.out)
      have hri4 : Hid (Ri w4 b (sB m) (.slice A4 j cap4)) := (HAL.out.block b (by have := hS.out; omega)).trans hri.out
      have hO4 := Lib.hid (hO.out.below HAL.out)
      have hB4 : Hid (Below b w3 w4) := hB.out.trans (HAL.out.mono (by have := hS.out; omega))
      have hS4 : Hid (b + 1 ≤ g ∧ g < w4.heap.size) := by
        have h1 := hS.out
        exact ⟨by omega, (Array.getElem?_eq_some_iff.1 BX.out).1⟩
      have GB : Hid (∀ g', (Value.slice A4 j cap4).ownBlock = some g' → g' ≠ g) := fun g' hg' => by have := (World.ownsRow.lt hO.out g' hg').2; omega
      have k0 := Lib.cell_of_heap c4 0
      have k1 := Lib.cell_of_heap c4 1
      have k2 := Lib.cell_of_heap c4 2
      have k3 := Lib.cell_of_heap c4 3
      have k4 := Lib.cell_of_heap c4 4
      have k5 := Lib.cell_of_heap c4 5
      clear hw4 c4 p0 p1 p2 hg HAL CW RW BW PW hri hO hB hS
      go_wp2_with fail
      refine (LT.out w4 P4.out).mono ?_
      rintro e w5 ⟨rfl, hb⟩
      have RW5 : Hid (Rz w5 (n + 1)) := (hb.block (n + 1) (by have := hS4.out; omega)).trans RW4.out
      have hri5 : Hid (Ri w5 b (sB m) (.slice A4 j cap4)) := (hb.block b (by have := hS4.out; omega)).trans hri4.out
      have hO5 := Lib.hid (hO4.out.below hb)
      have hB5 : Hid (Below b w3 w5) := hB4.out.trans (hb.mono (by have := hS4.out; omega))
      have bx5 : Hid (w5.heap[g]? = some (.cells #[.int .i64 y0, .int .i64 y1, .int .i64 y2] 61 (0, 0))) := (hb.block g hS4.out.2).trans BX.out
      have hS5 : Hid (b + 1 ≤ g ∧ g < w5.heap.size) := ⟨hS4.out.1, Nat.lt_of_lt_of_le hS4.out.2 hb.size⟩
      have hgb : g ≠ b := by have := hS5.out.1; omega
      have hgn : g ≠ n + 1 := by have := hS5.out.1; omega
      have q0 := Lib.cell_of_heap bx5.out 0
      have q1 := Lib.cell_of_heap bx5.out 1
      have q2 := Lib.cell_of_heap bx5.out 2
      have hll : ((List.range j).map (stR ex L d q)).length = j := by rw [List.length_map, List.length_range]
      have HLL := Lib.hid hll
      clear hb k0 k1 k2 k3 k4 k5 LT P4 RW4 hri4 hO4 hB4 BX hS4 C4 hll
      rcases letR_cases ex L j with hv9 | hv9 | hv9 | hv9 | hv9
      rotate_left 4
      · have e9 : letR ex L j = 0 := hv9
        rw [hv9]
        simp only [show ((0 : UInt8).toNat : Int) = 0 from rfl]
        have ST : Hid (stR ex L d q j = (y0, y1, y2)) := by show stR ex L d q j = _; unfold stR; rw [if_neg (by rw [e9]; decide), if_pos e9, HY.out]
        have OKJ : Hid (okR ex L d q j = true) := by show okR ex L d q j = _; unfold okR; rw [e9]; rfl
        have UD2 : Hid (p = useD ex L d (j + 1)) := by show _ = _; rw [useD_step, e9]; rw [← UD.out]; simp
        have UN2 : Hid (r = useN ex L q (j + 1)) := by show _ = _; rw [useN_step, e9]; rw [← UN.out]; simp
        have hri6 := hri5
        have hO6 := hO5
        have hB6 := hB5
        have hS6 : Hid (b + 1 ≤ w5.heap.size) := by have := hS5.out; show _ ≤ _; omega
        have OK2 : Hid (∀ k, k < j + 1 → okR ex L d q k = true) := fun k hk => by
          by_cases e : k = j
          · rw [e]; exact OKJ.out
          · exact OK.out k (by omega)
        have W3 : Hid ((List.range (j + 1)).map (stR ex L d q) = (List.range j).map (stR ex L d q) ++ [(y0, y1, y2)]) := by show _ = _; rw [map_step, ST.out]
        clear hri5 hO5 hB5 RW5
        obtain ⟨-, r1⟩ := hri6.out.cells
        have BK : Hid (∀ w8, Below (b + 1) w5 w8 → Ri w8 b (sB m) (.slice A4 j cap4) ∧ Below b w3 w8 ∧ b + 1 ≤ w8.heap.size) := fun w8 hB8 => ⟨(hB8.block b (by omega)).trans hri6.out, hB6.out.trans (hB8.mono (by omega)), Nat.le_trans hS6.out hB8.size⟩
        go_wp2_with (at_builtin; refine wpList_appT hO6.out hS6.out rfl _ _ rfl rfl w5.heap.size (by simp) rfl (y0, y1, y2) j HLL.out (by omega) ?_; intro A4' cap4' w8 hO8 hB8; obtain ⟨hri8, hB9, hS9⟩ := BK.out w8 hB8; rw [← W3.out] at hO8; obtain ⟨r2, r3⟩ := hri8.cells; have r4 : w8.frozen? ⟨b, 1, none⟩ = false := Lib.frozen_of_heap hri8 1; have hO8 := Lib.hid hO8; have hri8 := Lib.hid hri8; have hB9 := Lib.hid hB9; have hS9 := Lib.hid hS9; clear hB8 r2)
        have hri9 : Hid (Ri (w8.setCell ⟨b, 1, none⟩ (.slice A4' (j + 1) cap4')) b (sB m) (.slice A4' (j + 1) cap4')) := heap_setCell_same w8 b 1 _ _ _ hri8.out
        have hO9 : Hid (OwnT (w8.setCell ⟨b, 1, none⟩ (.slice A4' (j + 1) cap4')) (b + 1) (.slice A4' (j + 1) cap4') ((List.range (j + 1)).map (stR ex L d q))) := row_set hO8.out (p := ⟨b, 1, none⟩) (by simp) _
        have hBa : Hid (Below b w3 (w8.setCell ⟨b, 1, none⟩ (.slice A4' (j + 1) cap4'))) := hB9.out.setCell (p := ⟨b, 1, none⟩) (Nat.le_refl _) _
        have hSa : Hid (b + 1 ≤ (w8.setCell ⟨b, 1, none⟩ (.slice A4' (j + 1) cap4')).heap.size) := by have h1 := hS9.out; simp [Hid] at h1 ⊢; omega
        go_roundw
        case rel => exact ⟨j + 1, A4', cap4', _, _, by omega, by go_num, rfl, rfl, UD2.out, UN2.out, OK2.out, hri9.out, hO9.out, hBa.out, hSa.out⟩
        case measure => simp [intOf]; omega
      · have e9 : letR ex L j = 100 := hv9
        rw [hv9]
        simp only [show ((100 : UInt8).toNat : Int) = 100 from rfl]
        have fz : w5.frozen? ⟨g, 2, none⟩ = false := Lib.frozen_of_heap bx5.out 2
        have WI := Lib.hid (fun w' => rwithin_any 100 d w')
        simp only [show ((100 : UInt8).toNat : Int) = 100 from rfl] at WI
        have ST : Hid (stR ex L d q j = (y0, y1, d)) := by show stR ex L d q j = _; unfold stR; rw [if_pos e9, HY.out]
        have OKJ : Hid (okR ex L d q j = withR 100 d) := by show okR ex L d q j = _; unfold okR; rw [ST.out, e9]; simp
        have UD2 : Hid (true = useD ex L d (j + 1)) := by show _ = _; rw [useD_step, e9]; simp
        have UN2 : Hid (r = useN ex L q (j + 1)) := by show _ = _; rw [useN_step, e9]; rw [← UN.out]; simp
        obtain ⟨o, ho⟩ : ∃ z, withR 100 d = z := ⟨_, rfl⟩
        rw [ho] at OKJ WI
        have hri6 : Hid (Ri (w5.setCell ⟨g, 2, none⟩ (.int .i64 d)) b (sB m) (.slice A4 j cap4)) := (heap_setCell_other w5 ⟨g, 2, none⟩ b _ hgb.symm).trans hri5.out
        have hO6 : Hid (OwnT (w5.setCell ⟨g, 2, none⟩ (.int .i64 d)) (b + 1) (.slice A4 j cap4) ((List.range j).map (stR ex L d q))) := row_set_ne hO5.out (p := ⟨g, 2, none⟩) GB.out _
        have hB6 : Hid (Below b w3 (w5.setCell ⟨g, 2, none⟩ (.int .i64 d))) := hB5.out.setCell (p := ⟨g, 2, none⟩) (by have := hS5.out.1; simp; omega) _
        have RW6 : Hid (Rz (w5.setCell ⟨g, 2, none⟩ (.int .i64 d)) (n + 1)) := (heap_setCell_other w5 ⟨g, 2, none⟩ (n + 1) _ hgn.symm).trans RW5.out
        have hS6 : Hid (b + 1 ≤ (w5.setCell ⟨g, 2, none⟩ (.int .i64 d)).heap.size) := by have := hS5.out; simp [Hid]; omega
        clear ho hri5 hO5 hB5 RW5
        go_wp2_with fail
        refine (WI.out _).mono ?_
        rintro e wx ⟨rfl, rfl⟩
        cases o with
        | false =>
          have B6 : Hid (Below n w (w5.setCell ⟨g, 2, none⟩ (.int .i64 d))) := B3.out.trans (hB6.out.mono (by omega))
          have NO2 := Lib.hid (fillR_no HJL.out OKJ.out)
          clear q0 q1 q2 WI hri6 hO6 hB6
          have NO : Hid (fillR ex L d q = none) := NO2.out
          obtain ⟨z0, z1, z2, z3⟩ := RW6.out.cells
          have F : Hid (RetRFill w m (fillR ex L d q) (.returned (.tuple #[.agg #[.string ⟨#[]⟩, .slice none 0 0], .bool false])) (((w5.setCell ⟨g, 2, none⟩ (.int .i64 d)).setCell ⟨n + 1, 0, none⟩ (.string ⟨#[]⟩)).setCell ⟨n + 1, 1, none⟩ (.slice none 0 0))) := by
            show RetRFill w m (fillR ex L d q) _ _
            rw [NO.out]
            refine ⟨rfl, ?_⟩
            rw [HN.out]
            exact (B6.out.setCell (p := ⟨n + 1, 0, none⟩) (by simp) _).setCell (p := ⟨n + 1, 1, none⟩) (by simp) _
          have E := Lib.hid (RW6.out.set ⟨#[]⟩ (.slice none 0 0))
          go_wp2
          obtain ⟨e0, e1⟩ := E.out
          obtain ⟨w6, hw6⟩ : ∃ w6, (((w5.setCell ⟨g, 2, none⟩ (.int .i64 d)).setCell ⟨n + 1, 0, none⟩ (.string ⟨#[]⟩)).setCell ⟨n + 1, 1, none⟩ (.slice none 0 0)) = w6 := ⟨_, rfl⟩
          rw [hw6] at F e0 e1 ⊢
          clear hw6 z0 z1 z2 z3
          refine bodyPost_ret (v := .tuple #[.agg #[.string ⟨#[]⟩, .slice none 0 0], .bool false]) ?_ rfl F.out
          simp [results, Tryz.results26, go_sem, e0, e1]
        | true =>
          have OK2 : Hid (∀ k, k < j + 1 → okR ex L d q k = true) := fun k hk => by
            by_cases e : k = j
            · rw [e]; exact OKJ.out
            · exact OK.out k (by omega)
          have W3 : Hid ((List.range (j + 1)).map (stR ex L d q) = (List.range j).map (stR ex L d q) ++ [(y0, y1, d)]) := by show _ = _; rw [map_step, ST.out]
          clear WI
          obtain ⟨-, r1⟩ := hri6.out.cells
          have BK : Hid (∀ w8, Below (b + 1) (w5.setCell ⟨g, 2, none⟩ (.int .i64 d)) w8 → Ri w8 b (sB m) (.slice A4 j cap4) ∧ Below b w3 w8 ∧ b + 1 ≤ w8.heap.size) := fun w8 hB8 => ⟨(hB8.block b (by omega)).trans hri6.out, hB6.out.trans (hB8.mono (by omega)), Nat.le_trans hS6.out hB8.size⟩
          go_wp2_with (at_builtin; refine wpList_appT hO6.out hS6.out rfl _ _ rfl rfl w5.heap.size (by simp) rfl (y0, y1, d) j HLL.out (by omega) ?_; intro A4' cap4' w8 hO8 hB8; obtain ⟨hri8, hB9, hS9⟩ := BK.out w8 hB8; rw [← W3.out] at hO8; obtain ⟨r2, r3⟩ := hri8.cells; have r4 : w8.frozen? ⟨b, 1, none⟩ = false := Lib.frozen_of_heap hri8 1; have hO8 := Lib.hid hO8; have hri8 := Lib.hid hri8; have hB9 := Lib.hid hB9; have hS9 := Lib.hid hS9; clear hB8 r2)
          have hri9 : Hid (Ri (w8.setCell ⟨b, 1, none⟩ (.slice A4' (j + 1) cap4')) b (sB m) (.slice A4' (j + 1) cap4')) := heap_setCell_same w8 b 1 _ _ _ hri8.out
          have hO9 : Hid (OwnT (w8.setCell ⟨b, 1, none⟩ (.slice A4' (j + 1) cap4')) (b + 1) (.slice A4' (j + 1) cap4') ((List.range (j + 1)).map (stR ex L d q))) := row_set hO8.out (p := ⟨b, 1, none⟩) (by simp) _
          have hBa : Hid (Below b w3 (w8.setCell ⟨b, 1, none⟩ (.slice A4' (j + 1) cap4'))) := hB9.out.setCell (p := ⟨b, 1, none⟩) (Nat.le_refl _) _
          have hSa : Hid (b + 1 ≤ (w8.setCell ⟨b, 1, none⟩ (.slice A4' (j + 1) cap4')).heap.size) := by have h1 := hS9.out; simp [Hid] at h1 ⊢; omega
          go_roundw
          case rel => exact ⟨j + 1, A4', cap4', _, _, by omega, by go_num, rfl, rfl, UD2.out, UN2.out, OK2.out, hri9.out, hO9.out, hBa.out, hSa.out⟩
          case measure => simp [intOf]; omega
      all_goals
        have e9 := hv9
        have WI := fun w' => rwithin_any (letR ex L j) q w'
        have fz : w5.frozen? ⟨g, 2, none⟩ = false := Lib.frozen_of_heap bx5.out 2
        have ST : Hid (stR ex L d q j = (y0, y1, q)) := by show stR ex L d q j = _; unfold stR; rw [if_neg (by rw [e9]; decide), if_neg (by rw [e9]; decide), HY.out]
        have OKJ : Hid (okR ex L d q j = withR (letR ex L j) q) := by show okR ex L d q j = _; unfold okR; rw [ST.out, e9]; simp
        have UD2 : Hid (p = useD ex L d (j + 1)) := by show _ = _; rw [useD_step, e9]; rw [← UD.out]; simp
        have UN2 : Hid (true = useN ex L q (j + 1)) := by show _ = _; rw [useN_step, e9]; simp
        obtain ⟨o, ho⟩ : ∃ z, withR (letR ex L j) q = z := ⟨_, rfl⟩
        rw [ho] at OKJ WI
        rw [hv9] at WI ⊢
        simp only [UInt8.reduceToNat, Int.cast_ofNat_Int] at WI ⊢
        have WI := Lib.hid WI
        have hri6 : Hid (Ri (w5.setCell ⟨g, 2, none⟩ (.int .i64 q)) b (sB m) (.slice A4 j cap4)) := (heap_setCell_other w5 ⟨g, 2, none⟩ b _ hgb.symm).trans hri5.out
        have hO6 : Hid (OwnT (w5.setCell ⟨g, 2, none⟩ (.int .i64 q)) (b + 1) (.slice A4 j cap4) ((List.range j).map (stR ex L d q))) := row_set_ne hO5.out (p := ⟨g, 2, none⟩) GB.out _
        have hB6 : Hid (Below b w3 (w5.setCell ⟨g, 2, none⟩ (.int .i64 q))) := hB5.out.setCell (p := ⟨g, 2, none⟩) (by have := hS5.out.1; simp; omega) _
        have RW6 : Hid (Rz (w5.setCell ⟨g, 2, none⟩ (.int .i64 q)) (n + 1)) := (heap_setCell_other w5 ⟨g, 2, none⟩ (n + 1) _ hgn.symm).trans RW5.out
        have hS6 : Hid (b + 1 ≤ (w5.setCell ⟨g, 2, none⟩ (.int .i64 q)).heap.size) := by have := hS5.out; simp [Hid]; omega
        clear ho hri5 hO5 hB5 RW5
        go_wp2_with fail
        refine (WI.out _).mono ?_
        rintro e wx ⟨rfl, rfl⟩
        cases o with
        | false =>
          have B6 : Hid (Below n w (w5.setCell ⟨g, 2, none⟩ (.int .i64 q))) := B3.out.trans (hB6.out.mono (by omega))
          have NO2 := Lib.hid (fillR_no HJL.out OKJ.out)
          clear q0 q1 q2 WI hri6 hO6 hB6
          have NO : Hid (fillR ex L d q = none) := NO2.out
          obtain ⟨z0, z1, z2, z3⟩ := RW6.out.cells
          have F : Hid (RetRFill w m (fillR ex L d q) (.returned (.tuple #[.agg #[.string ⟨#[]⟩, .slice none 0 0], .bool false])) (((w5.setCell ⟨g, 2, none⟩ (.int .i64 q)).setCell ⟨n + 1, 0, none⟩ (.string ⟨#[]⟩)).setCell ⟨n + 1, 1, none⟩ (.slice none 0 0))) := by
            show RetRFill w m (fillR ex L d q) _ _
            rw [NO.out]
            refine ⟨rfl, ?_⟩
            rw [HN.out]
            exact (B6.out.setCell (p := ⟨n + 1, 0, none⟩) (by simp) _).setCell (p := ⟨n + 1, 1, none⟩) (by simp) _
          have E := Lib.hid (RW6.out.set ⟨#[]⟩ (.slice none 0 0))
          go_wp2
          obtain ⟨e0, e1⟩ := E.out
          obtain ⟨w6, hw6⟩ : ∃ w6, (((w5.setCell ⟨g, 2, none⟩ (.int .i64 q)).setCell ⟨n + 1, 0, none⟩ (.string ⟨#[]⟩)).setCell ⟨n + 1, 1, none⟩ (.slice none 0 0)) = w6 := ⟨_, rfl⟩
          rw [hw6] at F e0 e1 ⊢
          clear hw6 z0 z1 z2 z3
          refine bodyPost_ret (v := .tuple #[.agg #[.string ⟨#[]⟩, .slice none 0 0], .bool false]) ?_ rfl F.out
          simp [results, Tryz.results26, go_sem, e0, e1]
        | true =>
          have OK2 : Hid (∀ k, k < j + 1 → okR ex L d q k = true) := fun k hk => by
            by_cases e : k = j
            · rw [e]; exact OKJ.out
            · exact OK.out k (by omega)
          have W3 : Hid ((List.range (j + 1)).map (stR ex L d q) = (List.range j).map (stR ex L d q) ++ [(y0, y1, q)]) := by show _ = _; rw [map_step, ST.out]
          clear WI
          obtain ⟨-, r1⟩ := hri6.out.cells
          have BK : Hid (∀ w8, Below (b + 1) (w5.setCell ⟨g, 2, none⟩ (.int .i64 q)) w8 → Ri w8 b (sB m) (.slice A4 j cap4) ∧ Below b w3 w8 ∧ b + 1 ≤ w8.heap.size) := fun w8 hB8 => ⟨(hB8.block b (by omega)).trans hri6.out, hB6.out.trans (hB8.mono (by omega)), Nat.le_trans hS6.out hB8.size⟩
          go_wp2_with (at_builtin; refine wpList_appT hO6.out hS6.out rfl _ _ rfl rfl w5.heap.size (by simp) rfl (y0, y1, q) j HLL.out (by omega) ?_; intro A4' cap4' w8 hO8 hB8; obtain ⟨hri8, hB9, hS9⟩ := BK.out w8 hB8; rw [← W3.out] at hO8; obtain ⟨r2, r3⟩ := hri8.cells; have r4 : w8.frozen? ⟨b, 1, none⟩ = false := Lib.frozen_of_heap hri8 1; have hO8 := Lib.hid hO8; have hri8 := Lib.hid hri8; have hB9 := Lib.hid hB9; have hS9 := Lib.hid hS9; clear hB8 r2)
          have hri9 : Hid (Ri (w8.setCell ⟨b, 1, none⟩ (.slice A4' (j + 1) cap4')) b (sB m) (.slice A4' (j + 1) cap4')) := heap_setCell_same w8 b 1 _ _ _ hri8.out
          have hO9 : Hid (OwnT (w8.setCell ⟨b, 1, none⟩ (.slice A4' (j + 1) cap4')) (b + 1) (.slice A4' (j + 1) cap4') ((List.range (j + 1)).map (stR ex L d q))) := row_set hO8.out (p := ⟨b, 1, none⟩) (by simp) _
          have hBa : Hid (Below b w3 (w8.setCell ⟨b, 1, none⟩ (.slice A4' (j + 1) cap4'))) := hB9.out.setCell (p := ⟨b, 1, none⟩) (Nat.le_refl _) _
          have hSa : Hid (b + 1 ≤ (w8.setCell ⟨b, 1, none⟩ (.slice A4' (j + 1) cap4')).heap.size) := by have h1 := hS9.out; simp [Hid] at h1 ⊢; omega
          go_roundw
          case rel => exact ⟨j + 1, A4', cap4', _, _, by omega, by go_num, rfl, rfl, UD2.out, UN2.out, OK2.out, hri9.out, hO9.out, hBa.out, hSa.out⟩
          case measure => simp [intOf]; omega
    · obtain rfl : j = l := by omega
      have hw := hO.out
      have OKA : Hid (∀ k, k < L.length → okR ex L d q k = true) := fun k hk => OK.out k (by have := HL.out; omega)
      obtain ⟨c0, c1⟩ := hri.out.cells
      have UD3 : Hid (p = useD ex L d L.length) := by show _ = _; rw [HL.out]; exact UD.out
      have UN3 : Hid (r = useN ex L q L.length) := by show _ = _; rw [HL.out]; exact UN.out
      have hO7 := hO
      clear hw UD UN OK
      cases p with
      | false =>
        have NO2 := Lib.hid (fillR_noD (n := q) UD3.out.symm)
        clear UD3 UN3 c0 c1 hO hri hO7 OKA
        have NO : Hid (fillR ex L d q = none) := NO2.out
        obtain ⟨z0, z1, z2, z3⟩ := RW.out.cells
        have F : Hid (RetRFill w m (fillR ex L d q) (.returned (.tuple #[.agg #[.string ⟨#[]⟩, .slice none 0 0], .bool false])) ((wr.setCell ⟨n + 1, 0, none⟩ (.string ⟨#[]⟩)).setCell ⟨n + 1, 1, none⟩ (.slice none 0 0))) := by
          show RetRFill w m (fillR ex L d q) _ _
          rw [NO.out]
          refine ⟨rfl, ?_⟩
          rw [HN.out]
          exact (BW.out.setCell (p := ⟨n + 1, 0, none⟩) (by simp) _).setCell (p := ⟨n + 1, 1, none⟩) (by simp) _
        have E := Lib.hid (RW.out.set ⟨#[]⟩ (.slice none 0 0))
        go_wp2
        obtain ⟨e0, e1⟩ := E.out
        obtain ⟨w6, hw6⟩ : ∃ w6, ((wr.setCell ⟨n + 1, 0, none⟩ (.string ⟨#[]⟩)).setCell ⟨n + 1, 1, none⟩ (.slice none 0 0)) = w6 := ⟨_, rfl⟩
        rw [hw6] at F e0 e1 ⊢
        clear hw6 z0 z1 z2 z3
        refine bodyPost_ret (v := .tuple #[.agg #[.string ⟨#[]⟩, .slice none 0 0], .bool false]) ?_ rfl F.out
        simp [results, Tryz.results26, go_sem, e0, e1]
      | true =>
        cases r with
        | false =>
          have NO2 := Lib.hid (fillR_noN (d := d) UN3.out.symm)
          clear UD3 UN3 c0 c1 hO hri hO7 OKA
          have NO : Hid (fillR ex L d q = none) := NO2.out
          obtain ⟨z0, z1, z2, z3⟩ := RW.out.cells
          have F : Hid (RetRFill w m (fillR ex L d q) (.returned (.tuple #[.agg #[.string ⟨#[]⟩, .slice none 0 0], .bool false])) ((wr.setCell ⟨n + 1, 0, none⟩ (.string ⟨#[]⟩)).setCell ⟨n + 1, 1, none⟩ (.slice none 0 0))) := by
            show RetRFill w m (fillR ex L d q) _ _
            rw [NO.out]
            refine ⟨rfl, ?_⟩
            rw [HN.out]
            exact (BW.out.setCell (p := ⟨n + 1, 0, none⟩) (by simp) _).setCell (p := ⟨n + 1, 1, none⟩) (by simp) _
          have E := Lib.hid (RW.out.set ⟨#[]⟩ (.slice none 0 0))
          go_wp2
          obtain ⟨e0, e1⟩ := E.out
          obtain ⟨w6, hw6⟩ : ∃ w6, ((wr.setCell ⟨n + 1, 0, none⟩ (.string ⟨#[]⟩)).setCell ⟨n + 1, 1, none⟩ (.slice none 0 0)) = w6 := ⟨_, rfl⟩
          rw [hw6] at F e0 e1 ⊢
          clear hw6 z0 z1 z2 z3
          refine bodyPost_ret (v := .tuple #[.agg #[.string ⟨#[]⟩, .slice none 0 0], .bool false]) ?_ rfl F.out
          simp [results, Tryz.results26, go_sem, e0, e1]
        | true =>
          have YES := Lib.hid (fillR_yes OKA.out UD3.out.symm UN3.out.symm)
          have F : Hid (RetRFill w m (fillR ex L d q) (.returned (.tuple #[.agg #[.string (sB m), .slice A4 j cap4], .bool true])) ((wr.setCell ⟨n + 1, 0, none⟩ (.string (sB m))).setCell ⟨n + 1, 1, none⟩ (.slice A4 j cap4))) := by
            show RetRFill w m (fillR ex L d q) _ _
            rw [YES.out, HL.out]
            refine ⟨_, rfl, ?_, ?_⟩
            · rw [HN.out]
              exact row_mono (row_set (row_set hO7.out (p := ⟨n + 1, 0, none⟩) (by simp; omega) _) (p := ⟨n + 1, 1, none⟩) (by simp; omega) _) (by omega)
            · rw [HN.out]
              exact (BW.out.setCell (p := ⟨n + 1, 0, none⟩) (by simp) _).setCell (p := ⟨n + 1, 1, none⟩) (by simp) _
          obtain ⟨z0, z1, z2, z3⟩ := RW.out.cells
          have E := Lib.hid (RW.out.set (sB m) (.slice A4 j cap4))
          clear UD3 UN3 hO hri hO7 OKA YES
          go_wp2
          obtain ⟨e0, e1⟩ := E.out
          obtain ⟨w6, hw6⟩ : ∃ w6, ((wr.setCell ⟨n + 1, 0, none⟩ (.string (sB m))).setCell ⟨n + 1, 1, none⟩ (.slice A4 j cap4)) = w6 := ⟨_, rfl⟩
          rw [hw6] at F e0 e1 ⊢
          clear hw6 z0 z1 z2 z3 c0 c1
          refine bodyPost_ret (v := .tuple #[.agg #[.string (sB m), .slice A4 j cap4], .bool true]) ?_ rfl F.out
          simp [results, Tryz.results26, go_sem, e0, e1]
end Go.Proofs.YtclhaejdjogfbaaGreat
namespace Go.Proofs.YtclhaejdjogfbaaGreat
open Go.RowKit Go.Shelf
attribute [local go_sem] Oper.semAt_some
end Go.Proofs.YtclhaejdjogfbaaGreat
namespace Go.Fr
open Go Go.RowKit
structure F where
  p : World → Prop
  up : ∀ {w w' : World}, p w → Below w.heap.size w w' → p w'
def St (w : World) : List F → Prop
  | [] => True
  | f :: l => f.p w ∧ St w l
theorem St.up {w w' : World} : ∀ {l : List F}, St w l → Below w.heap.size w w' → St w' l
  | [], _, _ => trivial
  | f :: _, h, hb => ⟨f.up h.1 hb, St.up h.2 hb⟩
theorem up {w w' : World} {l : List F} (h : Hid (St w l)) (hb : Below w.heap.size w w') : Hid (St w' l) := St.up (l := l) h hb
theorem add {w : World} {l : List F} (h : Hid (St w l)) (f : F) (hp : f.p w) : Hid (St w (f :: l)) := ⟨hp, h⟩
theorem nil (w : World) : Hid (St w []) := trivial
def blk (b : Nat) (o : Obj) : F := ⟨fun w => w.heap[b]? = some o, fun h hb => (hb.block _ (Array.getElem?_eq_some_iff.1 h).1).trans h⟩
def bel (n : Nat) (w0 : World) : F := ⟨fun w => Below n w0 w ∧ n ≤ w.heap.size, fun h hb => ⟨h.1.trans (hb.mono h.2), Nat.le_trans h.2 hb.size⟩⟩
def sz (n : Nat) : F := ⟨fun w => n ≤ w.heap.size, fun h hb => Nat.le_trans h hb.size⟩
theorem start (w : World) (n : Nat) (hn : w.heap.size = n) : Hid (St w [bel n w]) := ⟨⟨Below.refl _ _, Nat.le_of_eq hn.symm⟩, trivial⟩
theorem box {w : World} {l : List F} (h : Hid (St w l)) (cs : Array Value) (t : TypeId) : ∃ b w2, w.heap.size = b ∧ w.alloc (.cells cs t) = w2 ∧ Hid (St w2 (blk b (.cells cs t (0, 0)) :: l)) ∧ Below w.heap.size w w2 ∧ w2.heap.size = b + 1 :=
  have hb : Below w.heap.size w (w.alloc (.cells cs t)) := (Below.refl _ w).alloc (Nat.le_refl _) _
  ⟨_, _, rfl, rfl, add (up h hb) (blk w.heap.size _) (World.alloc_heap_new w _), hb, by simp⟩
theorem cells2 {w : World} {b : Nat} {a0 a1 : Value} {T : TypeId} {fr : Nat × Nat} (h : w.heap[b]? = some (.cells #[a0, a1] T fr)) : w.cell? ⟨b, 0, none⟩ = some a0 ∧ w.cell? ⟨b, 1, none⟩ = some a1 := ⟨Lib.cell_of_heap h 0, Lib.cell_of_heap h 1⟩
theorem cells6 {w : World} {b : Nat} {a0 a1 a2 a3 a4 a5 : Value} {T : TypeId} {fr : Nat × Nat} (h : w.heap[b]? = some (.cells #[a0, a1, a2, a3, a4, a5] T fr)) : w.cell? ⟨b, 0, none⟩ = some a0 ∧ w.cell? ⟨b, 1, none⟩ = some a1 ∧ w.cell? ⟨b, 2, none⟩ = some a2 ∧ w.cell? ⟨b, 3, none⟩ = some a3 ∧ w.cell? ⟨b, 4, none⟩ = some a4 ∧ w.cell? ⟨b, 5, none⟩ = some a5 := ⟨Lib.cell_of_heap h 0, Lib.cell_of_heap h 1, Lib.cell_of_heap h 2, Lib.cell_of_heap h 3, Lib.cell_of_heap h 4, Lib.cell_of_heap h 5⟩
end Go.Fr
namespace Go.Mixed
open Go
section
variable {P : Program} {ops : Array Oper}
theorem mp {C : World → Prop} {T : Act → World → Prop} {k : Nat} {r : List (Nat × Bool)} {a : Act} {w : World} {o : Oper} (ho : ops[k]? = some o) (v : Value)
    (h : wpMix P ops C T r (a.put o.dst v) w) (hw : Region.wanted o (yielded ops a.tmps) = true := by kernel_rfl)
    (hv : ∀ w, C w → (execOp a.eval o).run P w = .ok (.value v) w := by intro w h; first | (clear h; go_simp; done) | (clear h; go_simp; rfl) | (go_simp; done) | (go_simp; rfl)) : wpMix P ops C T ((k, true) :: r) a w := wpMix_pure ho hw v hv h
theorem mo {C : World → Prop} {T : Act → World → Prop} {k : Nat} {r : List (Nat × Bool)} {a : Act} {w : World} {o : Oper} (ho : ops[k]? = some o) (v : Value)
    (hv : ∀ w, C w → (execOp a.eval o).run P w = .ok (.value v) w) (h : wpMix P ops C T r (a.put o.dst v) w) (hw : Region.wanted o (yielded ops a.tmps) = true := by kernel_rfl) : wpMix P ops C T ((k, true) :: r) a w := wpMix_pure ho hw v hv h
theorem ms {C : World → Prop} {T : Act → World → Prop} {k : Nat} {r : List (Nat × Bool)} {a : Act} {w : World} {o : Oper} (ho : ops[k]? = some o)
    (h : wpMix P ops C T r (a.put o.dst undef) w) (hw : Region.wanted o (yielded ops a.tmps) = false := by kernel_rfl) : wpMix P ops C T ((k, true) :: r) a w := wpMix_skip ho hw h
end
end Go.Mixed
namespace Go.Proofs.YtclhaejdjogfbaaGreat
open Go.RowKit Go.Shelf
attribute [local go_sem] Oper.semAt_some
def ItAt (w : World) (b : Nat) (kind : Int) (va : Value) (s : ByteArray) (vb : Value) (al : Bool) : Prop := w.heap[b]? = some (.cells #[.int .i64 kind, va, .string s, vb, .bool al] 31 (0, 0))
section
variable {w w' : World} {b : Nat} {kind : Int} {va vb : Value} {s : ByteArray} {al : Bool}
theorem ItAt.lt (h : ItAt w b kind va s vb al) : b < w.heap.size := (Array.getElem?_eq_some_iff.1 h).1
theorem ItAt.all (h : ItAt w b kind va s vb al) (hb : Below w.heap.size w w') : ItAt w' b kind va s vb al := (hb.block b h.lt).trans h
theorem ItAt.cells (h : ItAt w b kind va s vb al) : w.cell? ⟨b, 0, none⟩ = some (.int .i64 kind) ∧ w.cell? ⟨b, 1, none⟩ = some va ∧ w.cell? ⟨b, 2, none⟩ = some (.string s) ∧ w.cell? ⟨b, 3, none⟩ = some vb ∧ w.cell? ⟨b, 4, none⟩ = some (.bool al) ∧ ∀ i, w.frozen? ⟨b, i, none⟩ = false :=
  ⟨Lib.cell_of_heap h 0, Lib.cell_of_heap h 1, Lib.cell_of_heap h 2, Lib.cell_of_heap h 3, Lib.cell_of_heap h 4, fun i => Lib.frozen_of_heap h i⟩
theorem ItAt.put (h : ItAt w b kind va s vb al) (k' : Int) (va' : Value) (s' : ByteArray) (vb' : Value) (al' : Bool) :
    ∃ w', ((((w.setCell ⟨b, 0, none⟩ (.int .i64 k')).setCell ⟨b, 1, none⟩ va').setCell ⟨b, 2, none⟩ (.string s')).setCell ⟨b, 3, none⟩ vb').setCell ⟨b, 4, none⟩ (.bool al') = w' ∧
      ItAt w' b k' va' s' vb' al' ∧ Below b w w' ∧ w'.heap.size = w.heap.size ∧ (∀ B u L, b < B → OwnT w B u L → OwnT w' B u L) ∧ (∀ B u L, b < B → TOwnB w B u L → TOwnB w' B u L) ∧ ∀ k, k ≠ b → w'.heap[k]? = w.heap[k]? := by
  refine ⟨_, rfl, ?_, ?_, by simp, fun B u L hB hO => ?_, fun B u L hB hO => ?_, fun k hk => ?_⟩
  · have h1 := heap_setCell_same w b 0 _ _ (.int .i64 k') h
    have h2 := heap_setCell_same _ b 1 _ _ va' h1
    have h3 := heap_setCell_same _ b 2 _ _ (.string s') h2
    have h4 := heap_setCell_same _ b 3 _ _ vb' h3
    exact heap_setCell_same _ b 4 _ _ (.bool al') h4
  · exact (((((Below.refl b w).setCell (p := ⟨b, 0, none⟩) (Nat.le_refl _) _).setCell (p := ⟨b, 1, none⟩) (Nat.le_refl _) _).setCell (p := ⟨b, 2, none⟩) (Nat.le_refl _) _).setCell (p := ⟨b, 3, none⟩) (Nat.le_refl _) _).setCell (p := ⟨b, 4, none⟩) (Nat.le_refl _) _
  · exact row_set (row_set (row_set (row_set (row_set hO (p := ⟨b, 0, none⟩) hB _) (p := ⟨b, 1, none⟩) hB _) (p := ⟨b, 2, none⟩) hB _) (p := ⟨b, 3, none⟩) hB _) (p := ⟨b, 4, none⟩) hB _
  · exact row_set (row_set (row_set (row_set (row_set hO (p := ⟨b, 0, none⟩) hB _) (p := ⟨b, 1, none⟩) hB _) (p := ⟨b, 2, none⟩) hB _) (p := ⟨b, 3, none⟩) hB _) (p := ⟨b, 4, none⟩) hB _
  · exact (heap_setCell_other _ ⟨b, 4, none⟩ k _ hk).trans ((heap_setCell_other _ ⟨b, 3, none⟩ k _ hk).trans ((heap_setCell_other _ ⟨b, 2, none⟩ k _ hk).trans ((heap_setCell_other _ ⟨b, 1, none⟩ k _ hk).trans (heap_setCell_other _ ⟨b, 0, none⟩ k _ hk))))
end
theorem it_start (w : World) (n : Nat) (hn : w.heap.size = n) : ∃ w0, w.alloc (.cells #[.int .i64 0, .slice none 0 0, .string ⟨#[]⟩, .slice none 0 0, .bool false] 31) = w0 ∧ ItAt w0 n 0 (.slice none 0 0) ⟨#[]⟩ (.slice none 0 0) false ∧ Below w.heap.size w w0 ∧ w0.heap.size = n + 1 := by
  subst hn
  exact ⟨_, rfl, World.alloc_heap_new w _, (Below.refl _ w).alloc (Nat.le_refl _) _, by simp⟩
def RetIt (w : World) (x : Ite) (e : Ending) (w' : World) : Prop := ∃ A c B c2, e = .returned (.agg #[.int .i64 x.kind, .slice A x.raw.length c, .string (sB x.m), .slice B x.C.length c2, .bool x.al]) ∧
  TOwnB w' w.heap.size (.slice A x.raw.length c) x.raw ∧ OwnT w' w.heap.size (.slice B x.C.length c2) x.C ∧ Below w.heap.size w w'
theorem ownT_nil (w : World) (n : Nat) : OwnT w n (.slice none 0 0) [] := World.ownsRow_nil _ _ _ _
theorem BytesAt.cellAt {w : World} {A : Option Addr} {b : Str} (h : BytesAt w A b) {j : Nat} (hj : j < b.length) : ∃ g off, A = some ⟨g, off, none⟩ ∧ w.cell? ⟨g, off + j, none⟩ = some (.int .u8 (b[j].toNat : Int)) := by
  rcases h with rfl | ⟨g, off, rfl, hc⟩
  · simp at hj
  · exact ⟨g, off, rfl, hc j hj⟩
theorem take_at {w : World} {A : Option Addr} {xs : Str} (h : BytesAt w A xs) (k : Nat) : BytesAt w A (xs.take k) := by
  rcases h with rfl | ⟨b, off, rfl, hc⟩
  · exact .inl (by simp)
  · refine .inr ⟨b, off, rfl, fun j hj => ?_⟩
    rw [List.getElem_take]
    exact hc j (by rw [List.length_take] at hj; omega)
theorem rpage12_any (b : Str) (hb : b ≠ []) (A : Option Addr) (cap l : Nat) (hl : b.length = l) (w : World) (H : BytesAt w A b) :
    Calls Tryz.prog 21 #[.slice A l cap] w fun e w' => e = .returned (.tuple #[.int .i64 (pgA b).1, .int .i64 ((pgA b).2 : Nat)]) ∧ w' = w := by
  cases b with
  | nil => exact absurd rfl hb
  | cons c r =>
    obtain ⟨g, off, rfl, k0⟩ := H.cellAt (j := 0) (by simp)
    simp only [List.getElem_cons_zero, Nat.add_zero] at k0
    have hl1 : 1 ≤ l := by simp at hl; omega
    have t1 : ((c.toNat : Int) == 203) = decide (c = 203) := u8_beq c 203
    have t2 : ((c.toNat : Int) == 237) = decide (c = 237) := u8_beq c 237
    have t3 : ((c.toNat : Int) == 221) = decide (c = 221) := u8_beq c 221
    have t4 : ((c.toNat : Int) == 253) = decide (c = 253) := u8_beq c 253
    have HC : Hid (pgA (c :: r) = if c = 203 then (1, 1) else if c = 237 then (2, 1) else if c = 221 then (if r.head? = some 203 then (5, 3) else (3, 1)) else if c = 253 then (if r.head? = some 203 then (6, 3) else (4, 1)) else (0, 0)) := rfl
    obtain ⟨⟨p, at_⟩, hp⟩ : ∃ q, pgA (c :: r) = q := ⟨_, rfl⟩
    rw [hp] at HC ⊢
    have HY : Hid (∀ y u, r = y :: u → w.cell? ⟨g, off + 1, none⟩ = some (.int .u8 (y.toNat : Int)) ∧ ((y.toNat : Int) == 203) = decide (y = 203)) := fun y u e => by
      subst e
      obtain ⟨g', off', e, k⟩ := H.cellAt (j := 1) (by simp)
      simp only [Option.some.injEq, Addr.mk.injEq] at e
      obtain ⟨rfl, rfl, -⟩ := e
      exact ⟨k, u8_beq y 203⟩
    clear hp H hb
    by_cases h1 : c = 203
    · rw [decide_eq_true h1] at t1
      have hq := HC.out
      rw [if_pos h1] at hq
      obtain ⟨rfl, rfl⟩ := Prod.mk.inj hq
      clear h1 t2 t3 t4 HC hq HY hl
      go_enter Tryz.func21, Tryz.ntmps21
      go_wp2
      go_ret2
      exact ⟨rfl, rfl⟩
    rw [decide_eq_false h1] at t1
    by_cases h2 : c = 237
    · rw [decide_eq_true h2] at t2
      have hq := HC.out
      rw [if_neg h1, if_pos h2] at hq
      obtain ⟨rfl, rfl⟩ := Prod.mk.inj hq
      clear h1 h2 t3 t4 HC hq HY hl
      go_enter Tryz.func21, Tryz.ntmps21
      go_wp2
      go_ret2
      exact ⟨rfl, rfl⟩
    rw [decide_eq_false h2] at t2
    by_cases h5 : c = 221 ∨ c = 253
    · by_cases hy : r.head? = some 203
      · obtain ⟨u, rfl⟩ : ∃ u, r = 203 :: u := by
          cases r with
          | nil => cases hy
          | cons y u => simp only [List.head?_cons, Option.some.injEq] at hy; subst hy; exact ⟨u, rfl⟩
        obtain ⟨k1, t5⟩ := HY.out 203 u rfl
        have hl2 : 2 ≤ l := by simp at hl; omega
        rw [show (((203 : UInt8).toNat : Nat) : Int) = 203 from rfl] at k1
        have hq := HC.out
        rw [if_neg h1, if_neg h2] at hq
        rcases h5 with h5 | h5
        · rw [if_pos h5, if_pos hy] at hq
          obtain ⟨rfl, rfl⟩ := Prod.mk.inj hq
          rw [decide_eq_true h5] at t3
          rw [decide_eq_false (by rw [h5]; decide)] at t4
          clear h1 h2 h5 hy HC hq HY hl t5
          go_enter Tryz.func21, Tryz.ntmps21
          go_wp2
          go_ret2
          exact ⟨rfl, rfl⟩
        · rw [if_neg (by rw [h5]; decide), if_pos h5, if_pos hy] at hq
          obtain ⟨rfl, rfl⟩ := Prod.mk.inj hq
          rw [decide_eq_true h5] at t4
          rw [decide_eq_false (by rw [h5]; decide)] at t3
          clear h1 h2 h5 hy HC hq HY hl t5
          go_enter Tryz.func21, Tryz.ntmps21
          go_wp2
          go_ret2
          exact ⟨rfl, rfl⟩
      · have hq := HC.out
        rw [if_neg h1, if_neg h2] at hq
        have hfin : (c = 221 ∧ p = 3 ∨ c = 253 ∧ p = 4) ∧ at_ = 1 := by
          rcases h5 with h5 | h5
          · rw [if_pos h5, if_neg hy] at hq
            obtain ⟨rfl, rfl⟩ := Prod.mk.inj hq
            exact ⟨.inl ⟨h5, rfl⟩, rfl⟩
          · rw [if_neg (by rw [h5]; decide), if_pos h5, if_neg hy] at hq
            obtain ⟨rfl, rfl⟩ := Prod.mk.inj hq
            exact ⟨.inr ⟨h5, rfl⟩, rfl⟩
        obtain ⟨hfin, rfl⟩ := hfin
        have hcase : l = 1 ∨ (2 ≤ l ∧ ∃ y, w.cell? ⟨g, off + 1, none⟩ = some (.int .u8 (y : Int)) ∧ ((y : Int) == 203) = false) := by
          cases r with
          | nil => simp at hl; exact .inl hl.symm
          | cons y u =>
            obtain ⟨k1, t5⟩ := HY.out y u rfl
            refine .inr ⟨by simp at hl; omega, (y.toNat : Int), k1, ?_⟩
            rw [t5]
            simp only [List.head?_cons, Option.some.injEq] at hy
            exact decide_eq_false hy
        rcases hfin with ⟨h5, rfl⟩ | ⟨h5, rfl⟩
        · rw [decide_eq_true h5] at t3
          rw [decide_eq_false (by rw [h5]; decide)] at t4
          clear h1 h2 h5 hy HC hq HY hl
          rcases hcase with rfl | ⟨h6, y, k1, t5⟩
          · go_enter Tryz.func21, Tryz.ntmps21
            go_wp2
            go_ret2
            exact ⟨rfl, rfl⟩
          · go_enter Tryz.func21, Tryz.ntmps21
            go_wp2
            go_ret2
            exact ⟨rfl, rfl⟩
        · rw [decide_eq_true h5] at t4
          rw [decide_eq_false (by rw [h5]; decide)] at t3
          clear h1 h2 h5 hy HC hq HY hl
          rcases hcase with rfl | ⟨h6, y, k1, t5⟩
          · go_enter Tryz.func21, Tryz.ntmps21
            go_wp2
            go_ret2
            exact ⟨rfl, rfl⟩
          · go_enter Tryz.func21, Tryz.ntmps21
            go_wp2
            go_ret2
            exact ⟨rfl, rfl⟩
    · have h3 : c ≠ 221 := fun h => h5 (.inl h)
      have h4 : c ≠ 253 := fun h => h5 (.inr h)
      rw [decide_eq_false h3] at t3
      rw [decide_eq_false h4] at t4
      have hq := HC.out
      rw [if_neg h1, if_neg h2, if_neg h3, if_neg h4] at hq
      obtain ⟨rfl, rfl⟩ := Prod.mk.inj hq
      clear h1 h2 h3 h4 h5 HC hq HY hl
      go_enter Tryz.func21, Tryz.ntmps21
      go_wp2
      go_ret2
      exact ⟨rfl, rfl⟩
theorem ritem12_any (kind : Int) (b : Str) (A : Option Addr) (cap l : Nat) (hl : b.length = l) (hc : l ≤ cap) (hcm : cap ≤ maxLen) (k : Nat) (hk : k ≤ l) (hl2 : l ≤ 10000) (w : World) (H : BytesAt w A b) :
    Calls Tryz.prog 22 #[.int .i64 kind, .slice A l cap, .int .i64 k] w (RetIt w (iteO kind (b.take k))) := by
  obtain ⟨n, hn⟩ : ∃ z, w.heap.size = z := ⟨_, rfl⟩
  obtain ⟨w0, hw0, I0, y0, z0⟩ := it_start w n hn
  obtain ⟨w1, hw1⟩ : ∃ z, w0.alloc (.cells #[] 5) = z := ⟨_, rfl⟩
  have y1 : Below w0.heap.size w0 w1 := by rw [← hw1]; exact up_alloc _ _
  have O1 : Hid (TOwnB w1 (n + 1) (.slice (some ⟨n + 1, 0, none⟩) 0 0) []) := by rw [← hw1, ← z0]; exact own_lit w0 [] (by decide)
  have P1 : Hid (BytesAt w1 A (b.take k)) := take_at ((H.below y0).below y1) k
  have I1 := Lib.hid (I0.all y1)
  have B1 : Hid (Below n w w1) := by rw [← hn]; exact y0.trans (y1.mono y0.size)
  have Z1 : Hid (n + 1 ≤ w1.heap.size) := by have := y1.size; show _ ≤ _; omega
  have LT : Hid ((b.take k).length = k) := by show _ = _; rw [List.length_take]; omega
  have HN := Lib.hid hn
  have hkc : ¬ cap < k := by omega
  unfold maxLen at hcm
  clear H y0 y1 I0 hl
  go_enter Tryz.func22, Tryz.ntmps22
  have NX : Hid (∀ A2 c2 w2, TOwnB w2 (n + 1) (.slice A2 k c2) ([] ++ b.take k) → Below (n + 1) w1 w2 → ItAt w2 n 0 (.slice none 0 0) ⟨#[]⟩ (.slice none 0 0) false ∧ TOwnB w2 (n + 1) (.slice A2 k c2) (b.take k) ∧ Below n w w2) := fun A2 c2 w2 h1 h2 => ⟨(h2.block n (by omega)).trans I1.out, h1, B1.out.trans (h2.mono (by omega))⟩
  clear B1 I1
  go_wp2_with (at_builtin; refine wpList_appBs (xs := []) (ys := b.take k) O1.out P1.out Z1.out (by rw [LT.out]; simp; omega) rfl _ _ rfl rfl rfl k LT.out rfl k (by simp) ?_; intro A2 c2 w2 h1 h2; obtain ⟨h3, h4, h5⟩ := NX.out A2 c2 w2 h1 h2; have I2 := Lib.hid h3; have O2 := Lib.hid h4; have B2 := Lib.hid h5; obtain ⟨k0, k1, k2, k3, k4, k5⟩ := h3.cells; clear h1 h2 h3 h4 h5)
  obtain ⟨w3, hw3, i1, i2, i3, i4, i5, i6⟩ := I2.out.put kind (.slice A2 k c2) ⟨#[]⟩ (.slice none 0 0) false
  rw [hw3]
  obtain ⟨j0, j1, j2, j3, j4, j5⟩ := i1.cells
  refine bodyPost_ret (v := .agg #[.int .i64 kind, .slice A2 k c2, .string ⟨#[]⟩, .slice none 0 0, .bool false]) ?_ rfl ?_
  · simp [results, Tryz.results22, go_sem, j0, j1, j2, j3, j4]
  · refine ⟨A2, c2, none, 0, ?_, ?_, ?_, ?_⟩
    · simp only [iteO, LT.out]; rfl
    · simp only [iteO, LT.out, HN.out]
      exact (i5 (n + 1) _ _ (by omega) O2.out).lift (by omega)
    · exact ownT_nil _ _
    · rw [HN.out]; exact B2.out.trans i2
end Go.Proofs.YtclhaejdjogfbaaGreat
namespace Go.Proofs.YtclhaejdjogfbaaGreat
open Go.RowKit Go.Shelf
attribute [local go_sem] Oper.semAt_some
structure Dec (w0 : World) (D : Nat) (S : Value) (w : World) (k : Nat) (p nd d n : Int) : Prop where
  blk : w.heap[D]? = some (.cells #[S, .int .i64 k, .int .i64 p, .int .i64 nd, .int .i64 d, .int .i64 n] 49 (0, 0))
  bel : Below D w0 w
structure DK (D : Nat) (w w' : World) : Prop where
  size : w.heap.size ≤ w'.heap.size
  same : ∀ k, k < w.heap.size → k ≠ D → w'.heap[k]? = w.heap[k]?
section
variable {w0 w w' : World} {D : Nat} {S : Value} {k : Nat} {p nd d n : Int}
theorem Dec.lt (h : Dec w0 D S w k p nd d n) : D < w.heap.size := (Array.getElem?_eq_some_iff.1 h.blk).1
theorem Dec.all (h : Dec w0 D S w k p nd d n) (hb : Below w.heap.size w w') : Dec w0 D S w' k p nd d n :=
  ⟨(hb.block D h.lt).trans h.blk, h.bel.trans (hb.mono (Nat.le_of_lt h.lt))⟩
theorem Dec.cells (h : Dec w0 D S w k p nd d n) : w.cell? ⟨D, 0, none⟩ = some S ∧ w.cell? ⟨D, 1, none⟩ = some (.int .i64 k) ∧ w.cell? ⟨D, 2, none⟩ = some (.int .i64 p) ∧ w.cell? ⟨D, 3, none⟩ = some (.int .i64 nd) ∧ w.cell? ⟨D, 4, none⟩ = some (.int .i64 d) ∧ w.cell? ⟨D, 5, none⟩ = some (.int .i64 n) ∧ ∀ i, w.frozen? ⟨D, i, none⟩ = false :=
  ⟨Lib.cell_of_heap h.blk 0, Lib.cell_of_heap h.blk 1, Lib.cell_of_heap h.blk 2, Lib.cell_of_heap h.blk 3, Lib.cell_of_heap h.blk 4, Lib.cell_of_heap h.blk 5, fun i => Lib.frozen_of_heap h.blk i⟩
theorem Dec.set1 (h : Dec w0 D S w k p nd d n) (x : Nat) : Dec w0 D S (w.setCell ⟨D, 1, none⟩ (.int .i64 x)) x p nd d n :=
  ⟨heap_setCell_same w D 1 _ _ (.int .i64 x) h.blk, h.bel.setCell (p := ⟨D, 1, none⟩) (Nat.le_refl _) _⟩
theorem Dec.set2 (h : Dec w0 D S w k p nd d n) (x : Int) : Dec w0 D S (w.setCell ⟨D, 2, none⟩ (.int .i64 x)) k x nd d n :=
  ⟨heap_setCell_same w D 2 _ _ (.int .i64 x) h.blk, h.bel.setCell (p := ⟨D, 2, none⟩) (Nat.le_refl _) _⟩
theorem Dec.set3 (h : Dec w0 D S w k p nd d n) (x : Int) : Dec w0 D S (w.setCell ⟨D, 3, none⟩ (.int .i64 x)) k p x d n :=
  ⟨heap_setCell_same w D 3 _ _ (.int .i64 x) h.blk, h.bel.setCell (p := ⟨D, 3, none⟩) (Nat.le_refl _) _⟩
theorem Dec.set4 (h : Dec w0 D S w k p nd d n) (x : Int) : Dec w0 D S (w.setCell ⟨D, 4, none⟩ (.int .i64 x)) k p nd x n :=
  ⟨heap_setCell_same w D 4 _ _ (.int .i64 x) h.blk, h.bel.setCell (p := ⟨D, 4, none⟩) (Nat.le_refl _) _⟩
theorem Dec.set5 (h : Dec w0 D S w k p nd d n) (x : Int) : Dec w0 D S (w.setCell ⟨D, 5, none⟩ (.int .i64 x)) k p nd d x :=
  ⟨heap_setCell_same w D 5 _ _ (.int .i64 x) h.blk, h.bel.setCell (p := ⟨D, 5, none⟩) (Nat.le_refl _) _⟩
theorem DK.refl (D : Nat) (w : World) : DK D w w := ⟨Nat.le_refl _, fun _ _ _ => rfl⟩
theorem DK.of_below (h : Below w.heap.size w w') : DK D w w' := ⟨h.size, fun k hk _ => h.block k hk⟩
theorem DK.trans {w'' : World} (h : DK D w w') (h' : DK D w' w'') : DK D w w'' :=
  ⟨Nat.le_trans h.size h'.size, fun k hk hb => (h'.same k (Nat.lt_of_lt_of_le hk h.size) hb).trans (h.same k hk hb)⟩
theorem DK.set (h : DK D w w') (j : Nat) (u : Value) : DK D w (w'.setCell ⟨D, j, none⟩ u) :=
  ⟨by simpa using h.size, fun k hk hb => (heap_setCell_other w' ⟨D, j, none⟩ k u hb).trans (h.same k hk hb)⟩
theorem Dec.bytes {b : Str} {A : Option Addr} (h : Dec w0 D S w k p nd d n) (hD : w0.heap.size ≤ D) (H : BytesAt w0 A b) : BytesAt w A b := H.below (h.bel.mono hD)
end
def missE : List PanicEntry := [{ v := .iface 63 (.agg #[]), recovered := false }]
structure DH (w0 : World) (D : Nat) (b : Str) (A : Option Addr) (l cap : Nat) : Prop where
  hl : b.length = l
  hl2 : l ≤ 100000
  hD : w0.heap.size ≤ D
  H0 : BytesAt w0 A b
  hc : l ≤ cap
  hcm : cap ≤ maxLen
def DOk (w0 : World) (D : Nat) (S : Value) (w : World) (e : Ending) (w' : World) (v : Value) (k : Nat) (p nd d n : Int) : Prop := e = .returned v ∧ Dec w0 D S w' k p nd d n ∧ DK D w w'
def DMiss (w0 : World) (D : Nat) (S : Value) (w : World) (e : Ending) (w' : World) (l : Nat) (p nd : Int) : Prop := e = .panicked missE ∧ (∃ d n, Dec w0 D S w' l p nd d n) ∧ DK D w w'
theorem DH.byte {w0 : World} {D : Nat} {b : Str} {A : Option Addr} {l cap : Nat} (H : DH w0 D b A l cap) {k : Nat} (hk : k < l) {w : World} (h : Below D w0 w) : ∃ g off, A = some ⟨g, off, none⟩ ∧ w.cell? ⟨g, off + k, none⟩ = some (.int .u8 ((b.getD k 0).toNat : Int)) := by
  have hkb : k < b.length := by have := H.hl; omega
  obtain ⟨g, off, h1, h2⟩ := (H.H0.below (h.mono H.hD)).cellAt hkb
  refine ⟨g, off, h1, ?_⟩
  rw [h2, List.getD_eq_getElem?_getD, List.getElem?_eq_getElem hkb]
  rfl
theorem next_any {w0 : World} {D : Nat} {b : Str} {A : Option Addr} {l cap : Nat} (H : DH w0 D b A l cap) {w : World} {k : Nat} (hk : k ≤ l) {p nd d n : Int} (X : Dec w0 D (.slice A l cap) w k p nd d n) :
    Calls Tryz.prog 66 #[.pointer (some ⟨D, 0, none⟩)] w fun e w' =>
      (k < l ∧ DOk w0 D (.slice A l cap) w e w' (.int .u8 ((b.getD k 0).toNat : Int)) (k + 1) p nd d n) ∨ (k = l ∧ DMiss w0 D (.slice A l cap) w e w' l p nd) := by
  have hl2 := H.hl2
  have dq := fun q => below_drewN w w.heap.size q
  obtain ⟨e0, e1, e2, e3, e4, e5, e6⟩ := X.cells
  by_cases h : k < l
  · have HB := Lib.hid (fun w2 (h2 : Below D w0 w2) => H.byte h h2)
    obtain ⟨x, hx⟩ : ∃ z, b.getD k 0 = z := ⟨_, rfl⟩
    rw [hx] at HB ⊢
    have X2 : Hid (∀ q, Dec w0 D (.slice A l cap) ((w.drewN q).setCell ⟨D, 1, none⟩ (.int .i64 ((k : Int) + 1))) (k + 1) p nd d n) := fun q => (X.all (dq q)).set1 (k + 1)
    have K2 : Hid (∀ q, DK D w ((w.drewN q).setCell ⟨D, 1, none⟩ (.int .i64 ((k : Int) + 1)))) := fun q => (DK.of_below (dq q)).set 1 _
    have hkn : ((k : Int) == (l : Int)) = false := beq_eq_false_iff_ne.2 (by omega)
    clear H X dq hx
    go_enter Tryz.func66, Tryz.ntmps66
    go_wp2
    go_quiet (fail)
    go_upto_region 4 with fail
    have X3 := X2.out nq
    have K3 := Lib.hid (K2.out nq)
    obtain ⟨w2, hw2⟩ : ∃ z, (w.drewN nq).setCell ⟨D, 1, none⟩ (.int .i64 ((k : Int) + 1)) = z := ⟨_, rfl⟩
    rw [hw2] at X3 K3 ⊢
    clear e0 e1 e2 e3 e4 e5 e6 X2 K2 hw2
    obtain ⟨g, off, eA, kb⟩ := HB.out w2 X3.bel
    obtain ⟨e0, e1, e2, e3, e4, e5, e6⟩ := X3.cells
    have X3 := Lib.hid X3
    have dq := Lib.hid (fun q => below_drewN w2 w2.heap.size q)
    subst eA
    go_wp2
    go_quiet (fail)
    go_wp2
    go_ret
    exact .inl ⟨h, rfl, X3.out.all (dq.out _), K3.out.trans (DK.of_below (dq.out _))⟩
  · obtain rfl : k = l := by omega
    have X2 : Hid (∀ q, Dec w0 D (.slice A k cap) (w.drewN q) k p nd d n) := fun q => X.all (dq q)
    have K2 : Hid (∀ q, DK D w (w.drewN q)) := fun q => DK.of_below (dq q)
    have hkn : ((k : Int) == (k : Int)) = true := beq_iff_eq.2 rfl
    clear H X dq h
    go_enter Tryz.func66, Tryz.ntmps66
    go_wp2
    go_quiet (fail)
    go_wp2
    exact ⟨rfl, .inr ⟨trivial, rfl, ⟨d, n, X2.out _⟩, K2.out _⟩⟩
theorem dsigned_any {w0 : World} {D : Nat} {b : Str} {A : Option Addr} {l cap : Nat} (H : DH w0 D b A l cap) {w : World} {k : Nat} (hk : k ≤ l) {p nd d n : Int} (X : Dec w0 D (.slice A l cap) w k p nd d n) :
    Calls Tryz.prog 65 #[.pointer (some ⟨D, 0, none⟩)] w fun e w' =>
      (k < l ∧ DOk w0 D (.slice A l cap) w e w' (.int .i64 (sgB (b.getD k 0))) (k + 1) p nd d n) ∨ (k = l ∧ DMiss w0 D (.slice A l cap) w e w' l p nd) := by
  have N := next_any H hk X
  have hx := (b.getD k 0).toNat_lt
  have SG := Lib.hid (fun w => signed_any ((b.getD k 0).toNat : Int) (by omega) (by omega) w)
  clear H X hx
  go_enter Tryz.func65, Tryz.ntmps65
  go_wp2_with fail
  refine N.mono ?_
  rintro e w' (⟨h, rfl, h1, h2⟩ | ⟨h, rfl, h1, h2⟩)
  · have h1 := Lib.hid h1
    have h2 := Lib.hid h2
    clear N
    go_wp2_with fail
    refine (SG.out _).mono ?_
    rintro e w2 ⟨rfl, hw⟩
    clear SG
    go_wp2
    go_ret
    first | subst hw | (rw [← hw]) | skip
    exact .inl ⟨h, rfl, h1.out, h2.out⟩
  · clear N SG
    exact ⟨rfl, .inr ⟨h, rfl, h1, h2⟩⟩
theorem word_any {w0 : World} {D : Nat} {b : Str} {A : Option Addr} {l cap : Nat} (H : DH w0 D b A l cap) {w : World} {k : Nat} (hk : k ≤ l) {p nd d n : Int} (X : Dec w0 D (.slice A l cap) w k p nd d n) :
    Calls Tryz.prog 81 #[.pointer (some ⟨D, 0, none⟩)] w fun e w' =>
      (k + 1 < l ∧ DOk w0 D (.slice A l cap) w e w' (.int .i64 (((b.getD k 0).toNat : Int) + 256 * ((b.getD (k + 1) 0).toNat : Int))) (k + 2) p nd d n) ∨ (l ≤ k + 1 ∧ DMiss w0 D (.slice A l cap) w e w' l p nd) := by
  have N := next_any H hk X
  have HH := Lib.hid (fun w1 (hk1 : k + 1 ≤ l) (h1 : Dec w0 D (.slice A l cap) w1 (k + 1) p nd d n) => next_any H hk1 h1)
  have hx := (b.getD k 0).toNat_lt
  have hy := (b.getD (k + 1) 0).toNat_lt
  obtain ⟨x, hxx⟩ : ∃ z, (b.getD k 0).toNat = z := ⟨_, rfl⟩
  obtain ⟨y, hyy⟩ : ∃ z, (b.getD (k + 1) 0).toNat = z := ⟨_, rfl⟩
  rw [hxx] at N hx ⊢
  rw [hyy] at HH hy ⊢
  clear H X hxx hyy
  go_enter Tryz.func81, Tryz.ntmps81
  go_wp2_with fail
  refine N.mono ?_
  rintro e w1 (⟨h, rfl, h1, h2⟩ | ⟨h, rfl, h1, h2⟩)
  · have N1 := HH.out w1 (by omega) h1
    have h2 := Lib.hid h2
    clear N h1 HH
    go_wp2_with fail
    refine N1.mono ?_
    rintro e w2 (⟨g, rfl, g1, g2⟩ | ⟨g, rfl, g1, g2⟩)
    · have g1 := Lib.hid g1
      have g2 := Lib.hid (h2.out.trans g2)
      clear N1 h2
      go_wp2
      go_ret
      exact .inl ⟨g, rfl, g1.out, g2.out⟩
    · clear N1
      exact ⟨rfl, .inr ⟨by omega, rfl, g1, h2.out.trans g2⟩⟩
  · clear N HH
    exact ⟨rfl, .inr ⟨by omega, rfl, h1, h2⟩⟩
theorem keep_any {w0 : World} {D : Nat} {b : Str} {A : Option Addr} {l cap : Nat} (H : DH w0 D b A l cap) {w : World} {k : Nat} (hk : k ≤ l) {p nd d n : Int} (X : Dec w0 D (.slice A l cap) w k p nd d n) :
    Calls Tryz.prog 47 #[.pointer (some ⟨D, 0, none⟩)] w fun e w' => DOk w0 D (.slice A l cap) w e w' (.tuple #[]) 1 p nd d n := by
  obtain ⟨e0, e1, e2, e3, e4, e5, e6⟩ := X.cells
  have X1 := Lib.hid (X.set1 1)
  have K1 := Lib.hid ((DK.refl D w).set 1 (.int .i64 ((1 : Nat) : Int)))
  clear H X
  go_enter Tryz.func47, Tryz.ntmps47
  go_wp2
  go_end0
  exact ⟨rfl, X1.out, K1.out⟩
theorem isDisp_any {w0 : World} {D : Nat} {b : Str} {A : Option Addr} {l cap : Nat} (H : DH w0 D b A l cap) {w : World} {k : Nat} (hk : k ≤ l) {p nd d n : Int} (X : Dec w0 D (.slice A l cap) w k p nd d n) :
    Calls Tryz.prog 64 #[.pointer (some ⟨D, 0, none⟩)] w fun e w' => DOk w0 D (.slice A l cap) w e w' (.bool (decide (p = 5 ∨ p = 6))) k p nd d n := by
  obtain ⟨e0, e1, e2, e3, e4, e5, e6⟩ := X.cells
  have X1 := Lib.hid X
  clear H X
  by_cases h5 : p = 5
  · subst h5
    have h := Lib.hid (show decide ((5 : Int) = 5 ∨ (5 : Int) = 6) = true from rfl)
    go_enter Tryz.func64, Tryz.ntmps64
    go_wp2
    go_ret
    exact ⟨rfl, X1.out, DK.refl _ _⟩
  · have t5 : (p == 5) = false := beq_eq_false_iff_ne.2 h5
    have h := Lib.hid (show decide (p = 5 ∨ p = 6) = (p == 6) from by
      by_cases h6 : p = 6
      · subst h6; rfl
      · rw [decide_eq_false (by omega), beq_eq_false_iff_ne.2 h6])
    obtain ⟨t, ht⟩ : ∃ t, (p == 6) = t := ⟨_, rfl⟩
    rw [ht] at h
    clear h5
    go_enter Tryz.func64, Tryz.ntmps64
    go_wp2
    go_ret
    exact ⟨by rw [h.out]; rfl, X1.out, DK.refl _ _⟩
end Go.Proofs.YtclhaejdjogfbaaGreat
