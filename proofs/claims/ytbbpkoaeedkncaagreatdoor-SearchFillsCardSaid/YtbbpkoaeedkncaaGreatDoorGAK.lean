/-
  SeRb, SeRc.
-/
import Derived.Test.YtbbpkoaeedkncaaGreatDoorMSeRa
import Derived.Test.YtbbpkoaeedkncaaGreatDoorGAG
import Derived.Test.YtbbpkoaeedkncaaGreatDoorGAJ
set_option linter.all false
set_option maxRecDepth 100000
set_option maxHeartbeats 4000000
namespace Go.Proofs.YtbbpkoaeedkncaaGreatDoor
open Go.RowKit Go.Shelf
attribute [local go_sem] Oper.semAt_some
theorem varKB_eq (t : Tr) : varKB t = ((t.1 == 6) || (t.1 == 7)) := rfl
theorem drop_any {L : List Tr} {k : Nat} (h : ∀ j (hj : j < L.length), k < j → varKB L[j] = false) : (L.drop (k + 1)).any varKB = false := by
  rw [List.any_eq_false]
  intro x hx
  obtain ⟨i, hi, rfl⟩ := List.getElem_of_mem hx
  rw [List.getElem_drop]
  rw [h _ (by simp at hi; omega) (by omega)]
  decide
theorem drop_yes {L : List Tr} {k j : Nat} (hj : j < L.length) (hk : k < j) (h : varKB L[j] = true) : (L.drop (k + 1)).any varKB = true := by
  rw [List.any_eq_true]
  refine ⟨L[j], ?_, h⟩
  have : L[j] = (L.drop (k + 1))[j - (k + 1)]'(by simp; omega) := by rw [List.getElem_drop]; congr 1; omega
  rw [this]
  exact List.getElem_mem _
def lastR (ex : Str) : UInt8 := if ex.contains 110 = true then 110 else if ex.contains 119 = true then 119 else 0
theorem letR_a {ex : Str} {L : List Tr} {k : Nat} (hk : k < L.length) (h : L[k].1 = 5) (hc : ex.contains 100 = true) : letR ex L k = 100 := by
  unfold letR; rw [if_pos ⟨by rw [List.getD_eq_getElem?_getD, List.getElem?_eq_getElem hk]; exact h, hc⟩]
theorem letR_b {ex : Str} {L : List Tr} {k : Nat} (hk : k < L.length) (h1 : ¬ (L[k].1 = 5 ∧ ex.contains 100 = true)) (h : L[k].1 = 10) (hc : ex.contains 101 = true) : letR ex L k = 101 := by
  have e : (L.getD k tr0) = L[k] := by rw [List.getD_eq_getElem?_getD, List.getElem?_eq_getElem hk]; rfl
  unfold letR; rw [e, if_neg h1, if_pos ⟨h, hc⟩]
theorem letR_c {ex : Str} {L : List Tr} {k : Nat} (hk : k < L.length) (h1 : ¬ (L[k].1 = 5 ∧ ex.contains 100 = true)) (h2 : ¬ (L[k].1 = 10 ∧ ex.contains 101 = true)) (h : varKB L[k] = false) : letR ex L k = 0 := by
  have e : (L.getD k tr0) = L[k] := by rw [List.getD_eq_getElem?_getD, List.getElem?_eq_getElem hk]; rfl
  unfold letR; rw [e, if_neg h1, if_neg h2, if_pos h]
theorem letR_d {ex : Str} {L : List Tr} {k : Nat} (hk : k < L.length) (h1 : ¬ (L[k].1 = 5 ∧ ex.contains 100 = true)) (h2 : ¬ (L[k].1 = 10 ∧ ex.contains 101 = true)) (h : varKB L[k] = true) (hd : (L.drop (k + 1)).any varKB = true) : letR ex L k = 0 := by
  have e : (L.getD k tr0) = L[k] := by rw [List.getD_eq_getElem?_getD, List.getElem?_eq_getElem hk]; rfl
  unfold letR; rw [e, if_neg h1, if_neg h2, if_neg (by rw [h]; decide), if_pos hd]
theorem letR_e {ex : Str} {L : List Tr} {k : Nat} (hk : k < L.length) (h1 : ¬ (L[k].1 = 5 ∧ ex.contains 100 = true)) (h2 : ¬ (L[k].1 = 10 ∧ ex.contains 101 = true)) (h : varKB L[k] = true) (hd : (L.drop (k + 1)).any varKB = false) : letR ex L k = lastR ex := by
  have e : (L.getD k tr0) = L[k] := by rw [List.getD_eq_getElem?_getD, List.getElem?_eq_getElem hk]; rfl
  unfold letR; rw [e, if_neg h1, if_neg h2, if_neg (by rw [h]; decide), if_neg (by rw [hd]; decide)]; rfl
def RetLet (w : World) (c : UInt8) (e : Ending) (w' : World) : Prop := e = .returned (.int .u8 (c.toNat : Int)) ∧ Below w.heap.size w w'
end Go.Proofs.YtbbpkoaeedkncaaGreatDoor
namespace Go.Proofs.YtbbpkoaeedkncaaGreatDoor
open Go.RowKit Go.Shelf
attribute [local go_sem] Oper.semAt_some
theorem letter_any (page op : Int) (m : Str) (A : Option Addr) (cap l : Nat) (L : List Tr) (hl : L.length = l) (hL : l ≤ 1000) (ex : Str) (hx : ex.length ≤ 1000) (al : Bool) (k : Nat) (hk : k < l) (w : World) (H : OpsP w A L) :
    Calls Tryz.prog 37 #[enV page op m (.slice A l cap) ex al, .int .i64 k] w (RetLet w (letR ex L k)) := by
  have hk1 : k < L.length := by omega
  have rh := fun c w' => rhas_any ex hx c w'
  unfold enV
  obtain ⟨s, hs⟩ : ∃ s, sB ex = s := ⟨_, rfl⟩
  rw [hs] at rh ⊢
  clear hs
  obtain ⟨b, off, rfl, hb, p0, p1, p2⟩ := H.at_ hk1
  obtain ⟨⟨t0, t1, t2⟩, ht⟩ : ∃ t, L[k] = t := ⟨_, rfl⟩
  rw [ht] at p0 p1 p2
  simp only at p0 p1 p2
  obtain ⟨w0, hw0⟩ : ∃ z, w.alloc (.cells #[.int .i64 page, .int .u8 op, .string (sB m), .slice (some ⟨b, off, none⟩) l cap, .string s, .bool al] 29) = z := ⟨_, rfl⟩
  obtain ⟨n, hn⟩ : ∃ z, w.heap.size = z := ⟨_, rfl⟩
  have b0 : Below w.heap.size w w0 := by rw [← hw0]; exact up1 _ _
  have c0 : w0.heap[n]? = some (.cells #[.int .i64 page, .int .u8 op, .string (sB m), .slice (some ⟨b, off, none⟩) l cap, .string s, .bool al] 29 (0, 0)) := by rw [← hw0, ← hn]; exact World.alloc_heap_new w _
  have z0 : w0.heap.size = n + 1 := by rw [← hw0, ← hn]; simp
  obtain ⟨w1, hw1⟩ : ∃ z, w0.alloc (.cells #[.int .i64 t0, .int .i64 t1, .int .i64 t2] 68) = z := ⟨_, rfl⟩
  have b1 : Below w0.heap.size w0 w1 := by rw [← hw1]; exact up1 _ _
  have c1 : w1.heap[n + 1]? = some (.cells #[.int .i64 t0, .int .i64 t1, .int .i64 t2] 68 (0, 0)) := by rw [← hw1, ← z0]; exact World.alloc_heap_new w0 _
  have bb : Below w.heap.size w w1 := b0.trans (b1.mono b0.size)
  have d0 := (b1.block n (by omega)).trans c0
  have BB : Hid (Below n w w1) := by rw [← hn]; exact bb
  have HN := Lib.hid hn
  have PL := Lib.hid (H.below bb)
  have q0 := (b0.cell (p := ⟨b, off + k * 3, none⟩) hb).trans p0
  have q1 := (b0.cell (p := ⟨b, off + k * 3 + 1, none⟩) hb).trans p1
  have q2 := (b0.cell (p := ⟨b, off + k * 3 + 2, none⟩) hb).trans p2
  have k3 := Lib.cell_of_heap c0 3
  have hkc : (k : Int) < (l : Int) := by omega
  have LA := Lib.hid (letR_a (ex := ex) hk1)
  have LB := Lib.hid (letR_b (ex := ex) hk1)
  have LC := Lib.hid (letR_c (ex := ex) hk1)
  have LD := Lib.hid (letR_d (ex := ex) hk1)
  have LE := Lib.hid (letR_e (ex := ex) hk1)
  rw [ht] at LA LB LC LD LE
  simp only [varKB_eq] at LA LB LC LD LE
  have HL := Lib.hid hl
  have DY := Lib.hid (fun j (hj : j < L.length) => drop_yes (k := k) hj)
  have DA := Lib.hid (drop_any (L := L) (k := k))
  have V3 := Lib.hid (Lib.cell_of_heap d0 3)
  have V4 := Lib.hid (Lib.cell_of_heap d0 4)
  obtain ⟨h100, e100⟩ : ∃ z, ex.contains 100 = z := ⟨_, rfl⟩
  obtain ⟨h101, e101⟩ : ∃ z, ex.contains 101 = z := ⟨_, rfl⟩
  obtain ⟨h110, e110⟩ : ∃ z, ex.contains 110 = z := ⟨_, rfl⟩
  obtain ⟨h119, e119⟩ : ∃ z, ex.contains 119 = z := ⟨_, rfl⟩
  have R1 := Lib.hid (rh 100 w1)
  have R2 := Lib.hid (rh 101 w1)
  have R3 := Lib.hid (rh 110 w1)
  have R4 := Lib.hid (rh 119 w1)
  rw [e100] at R1 LA LB LC LD LE
  rw [e101] at R2 LB LC LD LE
  rw [e110] at R3
  rw [e119] at R4
  have LR : Hid (lastR ex = if h110 = true then 110 else if h119 = true then 119 else 0) := by show _ = _; unfold lastR; rw [e110, e119]
  have u0 := Lib.cell_of_heap c1 0
  have u4 := Lib.cell_of_heap d0 4
  clear H b0 c0 b1 bb d0 rh ht hl e100 e101 e110 e119 hx hb p0 p1 p2 hk1
  obtain ⟨r, hr⟩ : ∃ z, letR ex L k = z := ⟨_, rfl⟩
  rw [hr] at LA LB LC LD LE ⊢
  clear hr
  go_enter Tryz.func37, Tryz.ntmps37
  go_upto_region 2 with fail
  clear k3 q0 q1 q2 hw1 hw0
  by_cases k5 : t0 = 5
  · subst k5
    go_wp2_with fail
    refine R1.out.mono ?_
    rintro e w' ⟨rfl, rfl⟩
    cases h100 with
    | true =>
      obtain rfl := LA.out (by first | trivial | rfl) (by first | trivial | rfl)
      go_wp2
      go_ret
      exact ⟨rfl, by rw [HN.out]; exact BB.out⟩
    | false =>
      obtain rfl := LC.out (by simp) (by simp) (by decide)
      go_wp2
      go_ret
      exact ⟨rfl, by rw [HN.out]; exact BB.out⟩
  · have e5 : (t0 == 5) = false := beq_eq_false_iff_ne.2 k5
    by_cases k10 : t0 = 10
    · subst k10
      go_wp2_with fail
      refine R2.out.mono ?_
      rintro e w' ⟨rfl, rfl⟩
      cases h101 with
      | true =>
        obtain rfl := LB.out (by simp) (by first | trivial | rfl) (by first | trivial | rfl)
        go_wp2
        go_ret
        exact ⟨rfl, by rw [HN.out]; exact BB.out⟩
      | false =>
        obtain rfl := LC.out (by simp) (by simp) (by decide)
        go_wp2
        go_ret
        exact ⟨rfl, by rw [HN.out]; exact BB.out⟩
    · have e10 : (t0 == 10) = false := beq_eq_false_iff_ne.2 k10
      by_cases k67 : t0 = 6 ∨ t0 = 7
      · have K5 := Lib.hid k5
        have K10 := Lib.hid k10
        clear k5 k10 e5 e10
        rcases k67 with rfl | rfl
        · skip
          go_wp2
          go_loopw [6] (fun i wr => ∃ j : Nat, k + 1 ≤ j ∧ j ≤ l ∧ i = .int .i64 j ∧ wr = w1 ∧ Hid (∀ i (hi : i < L.length), k < i → i < j → varKB L[i] = false)) (fun i _ => l - (intOf i).toNat)
          case atStart => exact ⟨k + 1, Nat.le_refl _, by omega, by go_num, rfl, fun i hi h1 h2 => by omega⟩
          case round =>
            obtain ⟨j, hkj, hj, rfl, rfl, RR⟩ := hrel
            have w3 := V3.out
            by_cases hlt : j < l
            · have hj1 : j < L.length := by have := HL.out; omega
              obtain ⟨b2, o2, hA2, -, g0, g1, g2⟩ := PL.out.at_ hj1
              simp only [Option.some.injEq, Addr.mk.injEq, and_true] at hA2
              obtain ⟨rfl, rfl⟩ := hA2
              have hjc : (j : Int) < (l : Int) := by omega
              have DYj := Lib.hid (DY.out j hj1 (by omega))
              have RN : Hid (varKB L[j] = false → ∀ i (hi : i < L.length), k < i → i < j + 1 → varKB L[i] = false) := fun h i hi h1 h2 => by
                by_cases e : i = j
                · subst e; exact h
                · exact RR.out i hi h1 (by omega)
              obtain ⟨⟨y0, y1, y2⟩, hy⟩ : ∃ y, L[j] = y := ⟨_, rfl⟩
              rw [hy] at g0 DYj RN
              simp only [varKB_eq] at DYj RN
              simp only at g0
              clear g1 g2 hy hj1 RR
              by_cases y6 : y0 = 6 ∨ y0 = 7
              · obtain rfl := LD.out (fun h => by cases h.1) (fun h => by cases h.1) (by decide) (DYj.out (by rcases y6 with rfl | rfl <;> decide))
                rcases y6 with rfl | rfl
                all_goals
                  go_wp2
                  go_ret
                  exact ⟨rfl, by rw [HN.out]; exact BB.out⟩
              · have n6 : ¬ y0 = 6 := fun h => y6 (.inl h)
                have n7 : ¬ y0 = 7 := fun h => y6 (.inr h)
                have m6 : (y0 == 6) = false := beq_eq_false_iff_ne.2 n6
                have m7 : (y0 == 7) = false := beq_eq_false_iff_ne.2 n7
                have R9 := Lib.hid (RN.out (by rw [m6, m7]; rfl))
                clear y6 RN DYj
                go_wp2
                go_roundw
                case rel => exact ⟨j + 1, by omega, by omega, by go_num, by first | rfl | trivial, R9.out⟩
                case measure => simp [intOf]; omega
            · obtain rfl : j = l := by omega
              have DD : Hid (r = lastR ex) := LE.out (fun h => by cases h.1) (fun h => by cases h.1) (by decide) (DA.out fun i hi h1 => RR.out i hi h1 (by have := HL.out; omega))
              have v4 := V4.out
              have DD2 : Hid (r = if h110 = true then 110 else if h119 = true then 119 else 0) := by show r = _; rw [DD.out, LR.out]
              clear RR DD
              go_wp2_with fail
              refine R3.out.mono ?_
              rintro e w' ⟨rfl, rfl⟩
              cases h110 with
              | true =>
                obtain rfl : r = 110 := DD2.out
                go_wp2
                go_ret
                exact ⟨rfl, by rw [HN.out]; exact BB.out⟩
              | false =>
                go_wp2_with fail
                refine R4.out.mono ?_
                rintro e w' ⟨rfl, rfl⟩
                cases h119 with
                | true =>
                  obtain rfl : r = 119 := DD2.out
                  go_wp2
                  go_ret
                  exact ⟨rfl, by rw [HN.out]; exact BB.out⟩
                | false =>
                  obtain rfl : r = 0 := DD2.out
                  go_wp2
                  go_ret
                  exact ⟨rfl, by rw [HN.out]; exact BB.out⟩
        · skip
          go_wp2
          go_loopw [6] (fun i wr => ∃ j : Nat, k + 1 ≤ j ∧ j ≤ l ∧ i = .int .i64 j ∧ wr = w1 ∧ Hid (∀ i (hi : i < L.length), k < i → i < j → varKB L[i] = false)) (fun i _ => l - (intOf i).toNat)
          case atStart => exact ⟨k + 1, Nat.le_refl _, by omega, by go_num, rfl, fun i hi h1 h2 => by omega⟩
          case round =>
            obtain ⟨j, hkj, hj, rfl, rfl, RR⟩ := hrel
            have w3 := V3.out
            by_cases hlt : j < l
            · have hj1 : j < L.length := by have := HL.out; omega
              obtain ⟨b2, o2, hA2, -, g0, g1, g2⟩ := PL.out.at_ hj1
              simp only [Option.some.injEq, Addr.mk.injEq, and_true] at hA2
              obtain ⟨rfl, rfl⟩ := hA2
              have hjc : (j : Int) < (l : Int) := by omega
              have DYj := Lib.hid (DY.out j hj1 (by omega))
              have RN : Hid (varKB L[j] = false → ∀ i (hi : i < L.length), k < i → i < j + 1 → varKB L[i] = false) := fun h i hi h1 h2 => by
                by_cases e : i = j
                · subst e; exact h
                · exact RR.out i hi h1 (by omega)
              obtain ⟨⟨y0, y1, y2⟩, hy⟩ : ∃ y, L[j] = y := ⟨_, rfl⟩
              rw [hy] at g0 DYj RN
              simp only [varKB_eq] at DYj RN
              simp only at g0
              clear g1 g2 hy hj1 RR
              by_cases y6 : y0 = 6 ∨ y0 = 7
              · obtain rfl := LD.out (fun h => by cases h.1) (fun h => by cases h.1) (by decide) (DYj.out (by rcases y6 with rfl | rfl <;> decide))
                rcases y6 with rfl | rfl
                all_goals
                  go_wp2
                  go_ret
                  exact ⟨rfl, by rw [HN.out]; exact BB.out⟩
              · have n6 : ¬ y0 = 6 := fun h => y6 (.inl h)
                have n7 : ¬ y0 = 7 := fun h => y6 (.inr h)
                have m6 : (y0 == 6) = false := beq_eq_false_iff_ne.2 n6
                have m7 : (y0 == 7) = false := beq_eq_false_iff_ne.2 n7
                have R9 := Lib.hid (RN.out (by rw [m6, m7]; rfl))
                clear y6 RN DYj
                go_wp2
                go_roundw
                case rel => exact ⟨j + 1, by omega, by omega, by go_num, by first | rfl | trivial, R9.out⟩
                case measure => simp [intOf]; omega
            · obtain rfl : j = l := by omega
              have DD : Hid (r = lastR ex) := LE.out (fun h => by cases h.1) (fun h => by cases h.1) (by decide) (DA.out fun i hi h1 => RR.out i hi h1 (by have := HL.out; omega))
              have v4 := V4.out
              have DD2 : Hid (r = if h110 = true then 110 else if h119 = true then 119 else 0) := by show r = _; rw [DD.out, LR.out]
              clear RR DD
              go_wp2_with fail
              refine R3.out.mono ?_
              rintro e w' ⟨rfl, rfl⟩
              cases h110 with
              | true =>
                obtain rfl : r = 110 := DD2.out
                go_wp2
                go_ret
                exact ⟨rfl, by rw [HN.out]; exact BB.out⟩
              | false =>
                go_wp2_with fail
                refine R4.out.mono ?_
                rintro e w' ⟨rfl, rfl⟩
                cases h119 with
                | true =>
                  obtain rfl : r = 119 := DD2.out
                  go_wp2
                  go_ret
                  exact ⟨rfl, by rw [HN.out]; exact BB.out⟩
                | false =>
                  obtain rfl : r = 0 := DD2.out
                  go_wp2
                  go_ret
                  exact ⟨rfl, by rw [HN.out]; exact BB.out⟩
      · have e6 : (t0 == 6) = false := beq_eq_false_iff_ne.2 (fun h => k67 (.inl h))
        have e7 : (t0 == 7) = false := beq_eq_false_iff_ne.2 (fun h => k67 (.inr h))
        obtain rfl := LC.out (fun h => k5 h.1) (fun h => k10 h.1) (by rw [e6, e7]; rfl)
        have n6 : ¬ t0 = 6 := fun h => k67 (.inl h)
        have n7 : ¬ t0 = 7 := fun h => k67 (.inr h)
        have m6 : (t0 != 6) = true := bne_iff_ne.2 n6
        have m7 : (t0 != 7) = true := bne_iff_ne.2 n7
        clear k5 k10 k67 e6 e7
        go_wp2
        go_ret
        exact ⟨rfl, by rw [HN.out]; exact BB.out⟩
end Go.Proofs.YtbbpkoaeedkncaaGreatDoor
