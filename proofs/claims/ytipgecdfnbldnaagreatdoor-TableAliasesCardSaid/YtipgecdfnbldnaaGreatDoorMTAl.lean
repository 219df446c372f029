/-
  TableAliases: the walk over the law.
-/
import Derived.Test.YtipgecdfnbldnaaGreatDoorMFoA
import Derived.Test.YtipgecdfnbldnaaGreatDoorMEsB
import Derived.Test.YtipgecdfnbldnaaGreatDoorTaX
import Derived.Test.YtipgecdfnbldnaaGreatDoorBaA
import Derived.Deep.DeepCutAuto
import Derived.Deep.Cut
import Derived.StillTail
import Derived.StillTailTactics
import Derived.Deep.RegionHeld3
import Derived.RegionTactic
set_option linter.all false
namespace Go.Proofs.YtipgecdfnbldnaaGreatDoor
open Go.RowKit Go.Shelf
set_option linter.unusedVariables false
attribute [local irreducible] Go.Mixed.wpMix

/-- The opcode to be used instead of an alias. -/
def witN (p n : Nat) : Nat × Nat :=
  if p = 2 then (if n = 99 then (0, 34) else if n = 107 then (0, 42) else if n % 8 = 4 then (2, 68) else if n % 8 = 5 then (2, 69) else if n / 8 % 4 = 2 then (2, 86) else if n / 8 % 4 = 3 then (2, 94) else (2, 70)) else (p, n / 8 * 8 + 6)
def aliN (p n : Nat) : Bool := match atN p n with
  | some x => if x.2.2.2 then (match atN (witN p n).1 (witN p n).2 with
    | some y => !y.2.2.2 && decide (y.1 = x.1) && decide (y.2.1 = x.2.1) && decide ((witN p n).2 < 256) && (decide ((witN p n).1 = 0) || decide ((witN p n).1 = 2) || decide ((witN p n).1 = p))
    | none => false) else true
  | none => true
theorem ali_2 : ∀ n : Fin 256, aliN 2 n.val = true := by decide +kernel
theorem ali_5 : ∀ n : Fin 256, aliN 5 n.val = true := by decide +kernel
theorem ali_6 : ∀ n : Fin 256, aliN 6 n.val = true := by decide +kernel
theorem ali_0 : ∀ n : Fin 256, aliN 0 n.val = true := by decide +kernel
theorem ali_1 : ∀ n : Fin 256, aliN 1 n.val = true := by decide +kernel
theorem ali_3 : ∀ n : Fin 256, aliN 3 n.val = true := by decide +kernel
theorem ali_4 : ∀ n : Fin 256, aliN 4 n.val = true := by decide +kernel
theorem ali_all (p n : Nat) (hp : p < 7) (hn : n < 256) : aliN p n = true := by
  rcases (by omega : p = 0 ∨ p = 1 ∨ p = 2 ∨ p = 3 ∨ p = 4 ∨ p = 5 ∨ p = 6) with rfl | rfl | rfl | rfl | rfl | rfl | rfl
  · exact ali_0 ⟨n, hn⟩
  · exact ali_1 ⟨n, hn⟩
  · exact ali_2 ⟨n, hn⟩
  · exact ali_3 ⟨n, hn⟩
  · exact ali_4 ⟨n, hn⟩
  · exact ali_5 ⟨n, hn⟩
  · exact ali_6 ⟨n, hn⟩
theorem mem_ents {page : Int} {k : Nat} {x : En} (h : ratT page k = some x) : ∀ K, k < K → (page, (k : Int), x.1, x.2.1, x.2.2.1, x.2.2.2) ∈ entsR page K
  | 0, hk => by omega
  | K + 1, hk => by
    unfold entsR
    by_cases e : k = K
    · subst e
      rw [h]
      exact List.mem_append_right _ (List.mem_singleton.2 rfl)
    · have ih := mem_ents h K (by omega)
      cases ratT page K with
      | none => exact ih
      | some y => exact List.mem_append_left _ ih
/-- The page of the j-th round. -/
def pgN (P : Nat) (j : Nat) : Int := if j = 0 then 0 else if j = 1 then 2 else (P : Int)
/-- Is it the instruction that is looked for? -/
def hitB (m : Str) (L : List Tr) (y : Ke) : Bool := !y.2.2.2.2.2 && (decide (y.2.2.1 = m) && decide (y.2.2.2.1 = L))
theorem alias_has (P n : Nat) (hP : P < 7) (hn : n < 256) {m ex : Str} {L : List Tr} (h : ratT (P : Int) n = some (m, L, ex, true)) : ∃ j, j < 3 ∧ ∃ y ∈ entsR (pgN P j) 256, hitB m L y = true := by
  have h1 := ali_all P n hP hn
  have h2 : atN P n = some (m, L, ex, true) := by rw [← atN_eq P n hn, at_same _ n hn]; exact h
  unfold aliN at h1
  rw [h2] at h1
  simp only [if_true] at h1
  cases hy : atN (witN P n).1 (witN P n).2 with
  | none => rw [hy] at h1; cases h1
  | some y =>
    rw [hy] at h1
    simp only [Bool.and_eq_true, Bool.or_eq_true, decide_eq_true_eq, Bool.not_eq_true'] at h1
    obtain ⟨⟨⟨⟨h3, h4⟩, h5⟩, h6⟩, h7⟩ := h1
    have hr : ratT ((witN P n).1 : Int) (witN P n).2 = some y := by rw [← at_same _ _ h6, atN_eq _ _ h6]; exact hy
    have hm := mem_ents hr 256 h6
    have hh : hitB m L (((witN P n).1 : Int), ((witN P n).2 : Int), y.1, y.2.1, y.2.2.1, y.2.2.2) = true := by
      unfold hitB
      simp only [h3, h4, h5, decide_true, Bool.not_false, Bool.and_self]
    rcases h7 with (h7 | h7) | h7
    · exact ⟨0, by omega, _, by rw [h7] at hm; exact hm, by rw [h7] at hh; exact hh⟩
    · exact ⟨1, by omega, _, by rw [h7] at hm; exact hm, by rw [h7] at hh; exact hh⟩
    · exact ⟨2, by omega, _, by rw [h7] at hm; exact hm, by rw [h7] at hh; exact hh⟩
theorem form_some {page : Int} {n : Nat} {g o : Int} {m ex : Str} {L : List Tr} {al : Bool} (hf : formT page n = (g, o, m, L, ex, al, 1)) : ratT page n = some (m, L, ex, al) := by
  unfold formT at hf
  cases hx : ratT page n with
  | none =>
    rw [hx] at hf
    have := rkind_ne page n
    simp only [Prod.mk.injEq] at hf
    rw [hf.2.2.2.2.2.2] at this
    cases this
  | some x =>
    rw [hx] at hf
    cases hf
    rfl
theorem rem7N (a : Int) (h : 0 ≤ a ∧ a ≤ 255) : ∃ P : Nat, P < 7 ∧ a.tmod 7 = (P : Int) := ⟨(a.tmod 7).toNat, by have := Int.tmod_eq_emod_of_nonneg (b := 7) h.1; omega, by have := Int.tmod_eq_emod_of_nonneg (b := 7) h.1; omega⟩
/-- An entry has few operands. -/
theorem ents_len {page : Int} : ∀ K, K ≤ 256 → ∀ y ∈ entsR page K, y.2.2.2.1.length ≤ 3
  | 0, _, y, hy => by cases hy
  | K + 1, hK, y, hy => by
    unfold entsR at hy
    cases hx : ratT page K with
    | none => rw [hx] at hy; exact ents_len K (by omega) y hy
    | some x =>
      rw [hx] at hy
      rcases List.mem_append.1 hy with hy | hy
      · exact ents_len K (by omega) y hy
      · obtain rfl := List.mem_singleton.1 hy
        exact (len_some (by omega) hx).2.1
theorem ent_len {page : Int} {R : List Ee} (h : R.map Ee.k = entsR page 256) {u : Nat} (hu : u < R.length) : R[u].L.length ≤ 3 :=
  ents_len 256 (Nat.le_refl _) R[u].k (by rw [← h]; exact List.mem_map_of_mem (List.getElem_mem hu))
set_option maxRecDepth 100000 in
set_option maxHeartbeats 4000000 in
theorem walkAL (a : Int) (c : Int) (w : World) (wa : (Lit.int .u8 a).wf = true) (wc : (Lit.int .u8 c).wf = true) (hM : MaxAt w) :
    Calls Tryz.prog 6 #[.int .u8 a, .int .u8 c] w fun e w' => e = .returned (.bool true) ∧ Below w.heap.size w w' := by
  have ha := u8_wf wa
  obtain ⟨P, hP, eP⟩ := rem7N a ha
  obtain ⟨i, hi, rfl⟩ := int_nat (u8_wf wc)
  obtain ⟨⟨g, o, m, L, ex, al, k⟩, hf⟩ : ∃ f, formT (P : Int) i = f := ⟨_, rfl⟩
  have AT := Lib.hid (fun w' h => (tat_any (P : Int) i (by omega) (by omega) w' h).mono fun e w2 hr => form_code hi hr hf)
  have HK := Lib.hid (form_kind hi hf)
  have AL := Lib.hid (fun w' h => alive_any w' h)
  have RE := Lib.hid (fun p w' => rents_any p w')
  have HF := Lib.hid hf
  have HPI := Lib.hid (And.intro hP hi)
  have MX := Lib.hid hM
  obtain ⟨n, hn⟩ : ∃ n, L.length = n := ⟨_, rfl⟩
  have HN := Lib.hid hn
  simp only [hn] at AT
  clear hM wa wc hf hn
  unfold enV at AT
  go_enter Tryz.func6, Tryz.ntmps6
  go_wp2_with fail
  refine (AT.out w MX.out).mono ?_
  rintro e w1 ⟨A1, c1, rfl, hP1, hb1⟩
  have B1 := Lib.hid hb1
  have M1 := Lib.hid (MX.out.below hb1)
  have P1 := Lib.hid hP1
  clear hP1 hb1 AT MX
  go_upto_region 2 with fail
  obtain ⟨b1, hbb1⟩ : ∃ b, w1.heap.size = b := ⟨_, rfl⟩
  obtain ⟨w2, hw2⟩ : ∃ v, w1.alloc (.cells #[.int .i64 g, .int .u8 o, .string (sB m), .slice A1 n c1, .string (sB ex), .bool al] 27) = v := ⟨_, rfl⟩
  have hal : Below w1.heap.size w1 w2 := by rw [← hw2]; exact up_alloc _ _
  have Ew2 : Hid (EnAt w2 b1 g o m (.slice A1 n c1) ex al) := by rw [← hw2, ← hbb1]; exact World.alloc_heap_new w1 _
  have Bw2 : Hid (Below w.heap.size w w2) := up B1.out hal
  have Mw2 := Lib.hid (M1.out.below hal)
  have Pw2 := Lib.hid (P1.out.below hal)
  rw [hw2, hbb1]
  clear hal hw2 hbb1 B1 M1 P1
  obtain ⟨e0, e1, e2, e3, e4, e5, e6⟩ := Ew2.out.cells
  rcases HK.out.2 with hk | ⟨rfl, hg, hok⟩
  · have hk1 : (k == 1) = false := by simpa using hk
    have hk2 : (k != 1) = true := by unfold bne; rw [hk1]; rfl
    clear hk
    cases al
    all_goals
      go_wp2_with fail
      refine (AL.out _ Mw2.out).mono ?_
      rintro e wz ⟨rfl, hbz⟩
      have BZ : Hid (Below w.heap.size w wz) := up Bw2.out hbz
      go_wp2
      go_ret
      exact ⟨rfl, BZ.out⟩
  · cases al
    · clear hok hg
      go_wp2_with fail
      refine (AL.out _ Mw2.out).mono ?_
      rintro e wz ⟨rfl, hbz⟩
      have BZ : Hid (Below w.heap.size w wz) := up Bw2.out hbz
      go_wp2
      go_ret
      exact ⟨rfl, BZ.out⟩
    · have HS := Lib.hid (alias_has P i HPI.out.1 HPI.out.2 (form_some HF.out))
      have hl3 := HK.out.1
      clear hok hg
      go_upto_region 4 with fail
      clear e0 e1 e2 e3 e4 e5 e6
      go_upto_region 5 with fail
      obtain ⟨q, hq⟩ : ∃ z, w2.heap.size = z := ⟨_, rfl⟩
      obtain ⟨w3, hw3⟩ : ∃ z, w2.alloc (.cells #[.int .i64 0, .int .i64 2, .int .i64 P] 3) = z := ⟨_, rfl⟩
      have hbw3 : Below w2.heap.size w2 w3 := by rw [← hw3]; exact up_alloc _ _
      have Iw3 : Hid (w3.heap[q]? = some (.cells #[.int .i64 0, .int .i64 2, .int .i64 P] 3 (0, 0))) := by rw [← hw3, ← hq]; exact heap_alloc_new _ _
      rw [hw3, hq]
      clear hw3 hq
      have Ew3 := Lib.hid (Ew2.out.all hbw3)
      have Pw3 := Lib.hid (Pw2.out.below hbw3)
      have Bw3 : Hid (Below w.heap.size w w3) := up Bw2.out hbw3
      have Mw3 := Lib.hid (Mw2.out.below hbw3)
      clear Ew2 Pw2 Bw2 Mw2 hbw3
      go_wp2
      go_loopw [32] (fun i wr => ∃ j : Nat, j ≤ 3 ∧ i = .int .i64 j ∧ Hid (∀ r, r < j → ∀ y ∈ entsR (pgN P r) 256, hitB m L y = false) ∧ Hid (EnAt wr b1 g o m (.slice A1 n c1) ex true) ∧ Hid (OpsP wr A1 L) ∧ Hid (Below w.heap.size w wr) ∧ Hid (MaxAt wr) ∧ Hid (wr.heap[q]? = some (.cells #[.int .i64 0, .int .i64 2, .int .i64 P] 3 (0, 0)))) (fun i _ => 3 - (intOf i).toNat)
      case atStart => exact ⟨0, Nat.zero_le _, rfl, fun r h => by omega, Ew3.out, Pw3.out, Bw3.out, Mw3.out, Iw3.out⟩
      case round =>
        clear Ew3 Pw3 Bw3 Mw3 Iw3
        obtain ⟨j, hj, rfl, NF, Ewr, Pwr, Bwr, Mwr, Iwr⟩ := hrel
        by_cases hlt : j < 3
        · have ci : wr.cell? ⟨q, j, none⟩ = some (.int .i64 (pgN P j)) := by
            rcases (by omega : j = 0 ∨ j = 1 ∨ j = 2) with rfl | rfl | rfl
            · exact Lib.cell_of_heap Iwr.out 0
            · exact Lib.cell_of_heap Iwr.out 1
            · exact Lib.cell_of_heap Iwr.out 2
          obtain ⟨pg, hpg⟩ : ∃ z, pgN P j = z := ⟨_, rfl⟩
          have HPG := Lib.hid hpg
          rw [hpg] at ci
          clear hpg
          go_wp2_with fail
          refine (RE.out pg wr).mono ?_
          rintro e w4 ⟨A4, c4, R, rfl, hO4, hK4, hbw4⟩
          have V4 : Hid (EsP w4 A4 R) := by
            obtain ⟨A', c', hv, hE, -⟩ := hO4.es
            cases hv
            exact hE
          have HKE := Lib.hid hK4
          have Ew4 := Lib.hid (Ewr.out.all hbw4)
          have Pw4 := Lib.hid (Pwr.out.below hbw4)
          have Bw4 : Hid (Below w.heap.size w w4) := up Bwr.out hbw4
          have Mw4 := Lib.hid (Mwr.out.below hbw4)
          have Iw4 : Hid (w4.heap[q]? = some (.cells #[.int .i64 0, .int .i64 2, .int .i64 P] 3 (0, 0))) := (hbw4.block q (Array.getElem?_eq_some_iff.1 Iwr.out).1).trans Iwr.out
          clear Ewr Pwr Bwr Mwr Iwr hbw4
          obtain ⟨nr, hnr⟩ : ∃ z, R.length = z := ⟨_, rfl⟩
          have HNR := Lib.hid hnr
          have hle : R.length ≤ 256 := by
            have h1 : (R.map Ee.k).length = (entsR pg 256).length := by rw [hK4]
            rw [List.length_map] at h1
            have h2 : ∀ K, (entsR pg K).length ≤ K := fun K => by
              induction K with
              | zero => exact Nat.le_refl _
              | succ K ih =>
                unfold entsR
                cases ratT pg K with
                | none => exact Nat.le_succ_of_le ih
                | some y => simp; exact ih
            have := h2 256
            omega
          rw [hnr] at hle ⊢
          clear hO4 hK4 ci hnr
          have Vw4 := V4
          clear V4
          go_wp2
          obtain ⟨wb, hwb⟩ : ∃ wb, w4 = wb := ⟨_, rfl⟩
          rw [hwb] at Ew4 Pw4 Bw4 Mw4 Iw4 Vw4 ⊢
          clear hwb
          have Ewb := Ew4
          have Pwb := Pw4
          have Bwb := Bw4
          have Mwb := Mw4
          have Iwb := Iw4
          have Vwb := Vw4
          clear Ew4 Pw4 Bw4 Mw4 Iw4 Vw4
          obtain ⟨wo, hwo⟩ : ∃ wo, wo = wr := ⟨_, rfl⟩
          clear hwo wo
          go_loopw [39] (fun i wr => ∃ u : Nat, u ≤ nr ∧ i = .int .i64 u ∧ Hid (∀ r (a : r < R.length), r < u → hitB m L R[r].k = false) ∧ Hid (EnAt wr b1 g o m (.slice A1 n c1) ex true) ∧ Hid (OpsP wr A1 L) ∧ Hid (Below w.heap.size w wr) ∧ Hid (MaxAt wr) ∧ Hid (wr.heap[q]? = some (.cells #[.int .i64 0, .int .i64 2, .int .i64 P] 3 (0, 0))) ∧ Hid (EsP wr A4 R)) (fun i _ => nr - (intOf i).toNat)
          case atStart => exact ⟨0, Nat.zero_le _, rfl, fun r a h => by omega, Ewb.out, Pwb.out, Bwb.out, Mwb.out, Iwb.out, Vwb.out⟩
          case round =>
            clear Ewb Pwb Bwb Mwb Iwb Vwb
            obtain ⟨u, hu, rfl, NO, Ewr, Pwr, Bwr, Mwr, Iwr, Vwr⟩ := hrel
            by_cases hlu : u < nr
            · have hur : u < R.length := by rw [HNR.out]; exact hlu
              obtain ⟨b4, o4, hA4, hb4, p0, p1, p2, p3, p4, p5, hPO⟩ := Vwr.out.at_ hur
              subst hA4
              obtain ⟨⟨g4, q4, m4, A5, c5, L4, ex4, al4⟩, hr⟩ : ∃ r, R[u] = r := ⟨_, rfl⟩
              rw [hr] at p0 p1 p2 p3 p4 p5 hPO
              simp only [Ee.v] at p0 p1 p2 p3 p4 p5 hPO
              have HR := Lib.hid hr
              have HU := Lib.hid hur
              obtain ⟨n4, hn4⟩ : ∃ z, L4.length = z := ⟨_, rfl⟩
              have HN4 := Lib.hid hn4
              rw [hn4] at p3
              have Ywr := Lib.hid hPO
              clear hr hn4 hPO
              go_upto_region 10 with fail
              obtain ⟨b6, hb6⟩ : ∃ z, wr.heap.size = z := ⟨_, rfl⟩
              obtain ⟨w6, hw6⟩ : ∃ z, wr.alloc (.cells #[.int .i64 g4, .int .u8 q4, .string (sB m4), .slice A5 n4 c5, .string (sB ex4), .bool al4] 30) = z := ⟨_, rfl⟩
              have hbw6 : Below wr.heap.size wr w6 := by rw [← hw6]; exact up_alloc _ _
              have X6 : Hid (RnAt w6 b6 g4 q4 m4 (.slice A5 n4 c5) ex4 al4) := by rw [← hw6, ← hb6]; exact heap_alloc_new _ _
              have Y6 := Lib.hid (Ywr.out.below hbw6)
              rw [hw6, hb6]
              clear hw6 hb6 p0 p1 p2 p3 p4 p5 Ywr
              have Ew6 := Lib.hid (Ewr.out.all hbw6)
              have Pw6 := Lib.hid (Pwr.out.below hbw6)
              have Bw6 : Hid (Below w.heap.size w w6) := up Bwr.out hbw6
              have Mw6 := Lib.hid (Mwr.out.below hbw6)
              have Iw6 : Hid (w6.heap[q]? = some (.cells #[.int .i64 0, .int .i64 2, .int .i64 P] 3 (0, 0))) := (hbw6.block q (Array.getElem?_eq_some_iff.1 Iwr.out).1).trans Iwr.out
              have Vw6 := Lib.hid (Vwr.out.below hbw6)
              clear Ewr Pwr Bwr Mwr Iwr Vwr hbw6
              obtain ⟨f0, f1, f2, f3, f4, f5, f6⟩ := X6.out.cells
              obtain ⟨e0, e1, e2, e3, e4, e5, e6⟩ := Ew6.out.cells
              cases al4
              · obtain ⟨h, hh⟩ : ∃ h, (decide (m4 = m) && decide (L4 = L)) = h := ⟨_, rfl⟩
                have SM := rsame_any m4 m A5 A1 c5 c1 L4 L (by have := ent_len HKE.out HU.out; rw [HR.out] at this; simp only at this; omega) (by omega) w6 Y6.out Pw6.out
                rw [HN4.out, HN.out, hh] at SM
                have SM := Lib.hid SM
                have HH := Lib.hid hh
                clear hh
                go_wp2_with fail
                refine SM.out.mono ?_
                rintro e w7 ⟨rfl, hbw7⟩
                clear SM X6 Y6 f0 f1 f2 f3 f4 f5 f6 e0 e1 e2 e3 e4 e5 e6
                have Ew7 := Lib.hid (Ew6.out.all hbw7)
                have Pw7 := Lib.hid (Pw6.out.below hbw7)
                have Bw7 : Hid (Below w.heap.size w w7) := up Bw6.out hbw7
                have Mw7 := Lib.hid (Mw6.out.below hbw7)
                have Iw7 : Hid (w7.heap[q]? = some (.cells #[.int .i64 0, .int .i64 2, .int .i64 P] 3 (0, 0))) := (hbw7.block q (Array.getElem?_eq_some_iff.1 Iw6.out).1).trans Iw6.out
                have Vw7 := Lib.hid (Vw6.out.below hbw7)
                clear Ew6 Pw6 Bw6 Mw6 Iw6 Vw6 hbw7
                cases h
                · have NO2 : Hid (∀ r (a : r < R.length), r < u + 1 → hitB m L R[r].k = false) := fun r a h => by
                    by_cases e : r = u
                    · subst e
                      rw [HR.out]
                      show (!false && (decide (m4 = m) && decide (L4 = L))) = false
                      rw [HH.out]; rfl
                    · exact NO.out r a (by omega)
                  go_wp2
                  go_roundw
                  case rel => exact ⟨u + 1, by omega, by go_num, NO2.out, Ew7.out, Pw7.out, Bw7.out, Mw7.out, Iw7.out, Vw7.out⟩
                  case measure => simp [intOf]; omega
                · go_wp2_with fail
                  refine (AL.out _ Mw7.out).mono ?_
                  rintro e wz ⟨rfl, hbz⟩
                  have BZ : Hid (Below w.heap.size w wz) := up Bw7.out hbz
                  go_wp2
                  go_ret
                  exact ⟨rfl, BZ.out⟩
              · have NO2 : Hid (∀ r (a : r < R.length), r < u + 1 → hitB m L R[r].k = false) := fun r a h => by
                  by_cases e : r = u
                  · subst e
                    rw [HR.out]
                    rfl
                  · exact NO.out r a (by omega)
                go_wp2
                go_roundw
                case rel => exact ⟨u + 1, by omega, by go_num, NO2.out, Ew6.out, Pw6.out, Bw6.out, Mw6.out, Iw6.out, Vw6.out⟩
                case measure => simp [intOf]; omega
            · obtain rfl : nr = u := by omega
              have NF2 : Hid (∀ r, r < j + 1 → ∀ y ∈ entsR (pgN P r) 256, hitB m L y = false) := fun r hr y hy => by
                by_cases e : r = j
                · subst e
                  rw [HPG.out, ← HKE.out] at hy
                  obtain ⟨x, hx, rfl⟩ := List.mem_map.1 hy
                  obtain ⟨s, hs, rfl⟩ := List.getElem_of_mem hx
                  exact NO.out s hs (by rw [← HNR.out]; exact hs)
                · exact NF.out r (by omega) y hy
              clear NO NF
              go_wp2
              go_roundw
              case rel => exact ⟨j + 1, by omega, by go_num, NF2.out, Ewr.out, Pwr.out, Bwr.out, Mwr.out, Iwr.out⟩
              case measure => simp [intOf]; omega
        · exfalso
          obtain ⟨r, hr, y, hy, hh⟩ := HS.out
          have := NF.out r (by omega) y hy
          rw [this] at hh
          cases hh

end Go.Proofs.YtipgecdfnbldnaaGreatDoor
