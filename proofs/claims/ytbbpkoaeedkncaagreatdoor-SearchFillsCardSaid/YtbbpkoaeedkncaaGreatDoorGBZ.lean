/-
  SeSg, ArI.
-/
import Derived.Test.YtbbpkoaeedkncaaGreatDoorGBX
import Derived.Test.YtbbpkoaeedkncaaGreatDoorGBC
import Derived.Test.YtbbpkoaeedkncaaGreatDoorGBS
import Derived.Test.YtbbpkoaeedkncaaGreatDoorMFoA
import Derived.Test.YtbbpkoaeedkncaaGreatDoorMShp
import Derived.Test.YtbbpkoaeedkncaaGreatDoorMTbSm
import Derived.Deep.DeepCutAuto
import Derived.Deep.Cut
import Derived.Test.YtbbpkoaeedkncaaGreatDoorGAA
import Derived.ProofKit
import Derived.OpenShut
set_option linter.all false
set_option maxRecDepth 100000
set_option maxHeartbeats 4000000
namespace Go.Proofs.YtbbpkoaeedkncaaGreatDoor
open Go.RowKit Go.Shelf
attribute [local go_sem] Oper.semAt_some
theorem rem7Q (a : Int) (h : 0 ≤ a ∧ a ≤ 255) : ∃ P : Nat, P < 7 ∧ a.tmod 7 = (P : Int) := ⟨(a.tmod 7).toNat, by have := Int.tmod_eq_emod_of_nonneg (b := 7) h.1; omega, by have := Int.tmod_eq_emod_of_nonneg (b := 7) h.1; omega⟩
theorem u8_inQ {b : Int} (h : (Lit.int .u8 b).wf = true) : 0 ≤ b ∧ b ≤ 255 := by
  have h3 : IntKind.u8.min ≤ b ∧ b ≤ IntKind.u8.max := by simpa [Lit.wf] using h
  exact h3
theorem arr_box (w : World) (d q : Int) (n : Nat) (hn : w.heap.size = n) : ∃ w0, w.alloc (.cells #[.int .i64 d, .int .i64 q] 40) = w0 ∧ w0.heap[n]? = some (.cells #[.int .i64 d, .int .i64 q] 40 (0, 0)) ∧ Below w.heap.size w w0 ∧ w0.heap.size = n + 1 := by
  subst hn
  exact ⟨_, rfl, World.alloc_heap_new w _, (Below.refl _ w).alloc (Nat.le_refl _) _, by simp⟩
theorem walkSG (a : Int) (c : Int) (d q : Int) (w : World) (wa : (Lit.int .u8 a).wf = true) (wc : (Lit.int .u8 c).wf = true) (hM : MaxAt w) :
    Calls Tryz.prog 4 #[.int .u8 a, .int .u8 c, .agg #[.int .i64 d, .int .i64 q]] w fun e w' => e = .returned (.bool true) ∧ Below w.heap.size w w' := by
  have ha := u8_inQ wa
  obtain ⟨P, hP, eP⟩ := rem7Q a ha
  obtain ⟨i, hi, rfl⟩ := int_nat (u8_inQ wc)
  obtain ⟨⟨g, o, m, L, ex, al, k⟩, hf⟩ : ∃ f, formT (P : Int) i = f := ⟨_, rfl⟩
  have AT := Lib.hid (fun w' h => (tat_any (P : Int) i (by omega) (by omega) w' h).mono fun e w2 hr => form_code hi hr hf)
  have RA := Lib.hid (fun w' => (rat_any (P : Int) i hi w').mono fun e w2 hr => form_ref hr hf)
  have HK := Lib.hid (form_kind hi hf)
  have AL := Lib.hid (fun w' h => salive_any w' h)
  obtain ⟨v, hv⟩ : ∃ n, L.length = n := ⟨_, rfl⟩
  simp only [hv] at AT RA
  obtain ⟨n, hn⟩ : ∃ n, w.heap.size = n := ⟨_, rfl⟩
  obtain ⟨w0, hw0, b1, b2, b3⟩ := arr_box w d q n hn
  have HN := Lib.hid hn
  have HV := Lib.hid hv
  have B0 : Hid (Below n w w0) := by rw [← hn]; exact b2
  have M0 : Hid (MaxAt w0) := hM.below b2
  have C0 := Lib.hid b1
  have hn0 : n < w0.heap.size := by omega
  unfold enV at AT RA
  clear hM b1 b2 b3 hv hf wa wc
  go_enter Tryz.func4, Tryz.ntmps4
  go_upto_region 1 with fail
  clear hw0 hn
  go_wp2_with fail
  refine (AT.out w0 M0.out).mono ?_
  rintro e w1 ⟨A1, c1, rfl, hP1, hb⟩
  have B1 : Hid (Below n w w1) := B0.out.trans (hb.mono (by omega))
  have Q1 := Lib.hid hP1
  have M1 : Hid (MaxAt w1) := M0.out.below hb
  have C1 := Lib.hid ((hb.block n hn0).trans C0.out)
  have hn1 : n < w1.heap.size := by have := hb.size; omega
  clear hP1 hb AT B0 M0 C0 hn0
  go_upto_region 2 with fail
  obtain ⟨b, hbs⟩ : ∃ b, w1.heap.size = b := ⟨_, rfl⟩
  obtain ⟨w2, hw2⟩ : ∃ vv, w1.alloc (.cells #[.int .i64 g, .int .u8 o, .string (sB m), .slice A1 v c1, .string (sB ex), .bool al] 26) = vv := ⟨_, rfl⟩
  have hal : Below w1.heap.size w1 w2 := by rw [← hw2]; exact up_alloc _ _
  have E2 : Hid (EnAt w2 b g o m (.slice A1 v c1) ex al) := by rw [← hw2, ← hbs]; exact World.alloc_heap_new w1 _
  have hb2 : w2.heap.size = b + 1 := by rw [← hw2]; simp; omega
  have B2 : Hid (Below n w w2) := B1.out.trans (hal.mono (by omega))
  have Q2 := Lib.hid (Q1.out.below hal)
  have M2 : Hid (MaxAt w2) := M1.out.below hal
  have C2 := Lib.hid ((hal.block n hn1).trans C1.out)
  have hnb : n < b := by omega
  rw [hw2, hbs]
  clear hal hw2 hbs B1 Q1 M1 C1 hn1
  go_wp2_with fail
  refine (RA.out w2).mono ?_
  rintro e w3 ⟨A2, c2, rfl, hP3, hb⟩
  have B3 : Hid (Below n w w3) := B2.out.trans (hb.mono (by omega))
  have Q3 := Lib.hid (Q2.out.below hb)
  have R3 := Lib.hid hP3
  have M3 : Hid (MaxAt w3) := M2.out.below hb
  have C3 := Lib.hid ((hb.block n (by omega)).trans C2.out)
  have E3 := Lib.hid (E2.out.all hb)
  have hb3 : b < w3.heap.size := by have := hb.size; omega
  clear hP3 hb RA B2 Q2 M2 C2 E2 hb2
  go_upto_region 3 with fail
  obtain ⟨x, hds⟩ : ∃ b, w3.heap.size = b := ⟨_, rfl⟩
  obtain ⟨w4, hw4⟩ : ∃ vv, w3.alloc (.cells #[.int .i64 g, .int .u8 o, .string (sB m), .slice A2 v c2, .string (sB ex), .bool al] 29) = vv := ⟨_, rfl⟩
  have hal : Below w3.heap.size w3 w4 := by rw [← hw4]; exact up_alloc _ _
  have F4 : Hid (RnAt w4 x g o m (.slice A2 v c2) ex al) := by rw [← hw4, ← hds]; exact World.alloc_heap_new w3 _
  have hd4 : w4.heap.size = x + 1 := by rw [← hw4]; simp; omega
  have B4 : Hid (Below n w w4) := B3.out.trans (hal.mono (by omega))
  have Q4 := Lib.hid (Q3.out.below hal)
  have R4 := Lib.hid (R3.out.below hal)
  have M4 : Hid (MaxAt w4) := M3.out.below hal
  have C4 := Lib.hid ((hal.block n (by omega)).trans C3.out)
  have E4 := Lib.hid (E3.out.all hal)
  have hbd : b < x := by omega
  rw [hw4, hds]
  clear hal hw4 hds B3 Q3 R3 M3 C3 E3 hb3
  rcases HK.out.2 with hk | ⟨rfl, rfl, hrt⟩
  · have hk1 : (k == 1) = false := by simpa using hk
    have hk2 : (k != 1) = true := by simpa using hk
    have hk3 : ¬ k = 1 := hk
    have OUT : Hid (∀ w6, Below w4.heap.size w4 w6 → Below w.heap.size w w6) := fun w6 h6 => by rw [HN.out]; exact B4.out.trans (h6.mono (by omega))
    clear hk
    go_wp2_with fail
    refine (AL.out _ M4.out).mono ?_
    rintro e w6 ⟨rfl, hb6⟩
    have B6 := Lib.hid (OUT.out _ hb6)
    go_wp2
    go_ret
    exact ⟨rfl, B6.out⟩
  · have hok : OkS ((P : Int), (i : Int), m, L, ex, al) := InTab.ok ⟨i, hi, rfl, hrt⟩
    have h1 := hok.m
    have h2 := hok.ex
    have h3 := hok.len
    have h4 := hok.up
    have h5 := hok.places
    have h6 := hok.can
    simp only at h1 h2 h3 h4 h5 h6
    have FV := fun w' p => fill_any (P : Int) o m (by omega) A1 c1 v L HV.out (by have := HV.out; omega) ex (by omega) al d q w' p
    have FR := fun w' p => rfill_any (P : Int) o m A2 c2 v L HV.out (by have := HV.out; omega) ex (by omega) al d q w' p
    rw [fill_same h5] at FR
    have VL := fun C (hC : C.length ≤ 900) Ac cc w' p1 p2 => svalues_any (P : Int) o m (by omega) h4 A1 c1 v L HV.out (by have := HV.out; omega) ex (by omega) al (sB m) Ac cc C.length C rfl hC w' p1 p2
    have FT := fun C (hC : C.length ≤ 900) Ac cc w' p1 p2 => sfits_any (P : Int) o m (by omega) h4 A1 c1 v L HV.out (by have := HV.out; omega) ex (by omega) al (sB m) Ac cc C.length C rfl hC w' p1 p2
    have CF := fun C hF => can_fits (m := m) (ex := ex) (L := L) (C := C) h6 (s := sB m) hF
    unfold enV at FV FR VL FT
    obtain ⟨e0, e1, e2, e3, e4, e5, e6⟩ := E4.out.cells
    have k0 := Lib.cell_of_heap C4.out 0
    have k1 := Lib.cell_of_heap C4.out 1
    cases hO : fillV ex L d q with
    | none =>
      rw [hO] at FV FR
      unfold RetFill at FV
      unfold RetRFill at FR
      simp only at FV FR
      have FR := Lib.hid FR
      have FV := Lib.hid FV
      clear h1 h2 h3 h4 h5 h6 hok hrt VL FT CF hO
      go_wp2_with fail
      refine (FV.out w4 Q4.out).mono ?_
      rintro e w5 ⟨rfl, hb⟩
      have B5 : Hid (Below n w w5) := B4.out.trans (hb.mono (by omega))
      have Q5 := Lib.hid (Q4.out.below hb)
      have R5 := Lib.hid (R4.out.below hb)
      have M5 : Hid (MaxAt w5) := M4.out.below hb
      have C5 := Lib.hid ((hb.block n (by omega)).trans C4.out)
      have E5 := Lib.hid (E4.out.all hb)
      have F5 := Lib.hid (F4.out.all hb)
      have hx5 : x < w5.heap.size := by have := hb.size; omega
      clear hb B4 Q4 R4 M4 C4 E4 F4 k0 k1 e0 e1 e2 e3 e4 e5 e6 hd4 FV
      go_upto_region 6 with fail
      obtain ⟨y, hys⟩ : ∃ b, w5.heap.size = b := ⟨_, rfl⟩
      obtain ⟨w6, hw6, y1, y2, y3⟩ := ins_box w5 ⟨#[]⟩ (.slice none 0 0) y hys
      rw [hw6, hys]
      have B6 : Hid (Below n w w6) := B5.out.trans (y2.mono (by omega))
      have Q6 := Lib.hid (Q5.out.below y2)
      have R6 := Lib.hid (R5.out.below y2)
      have M6 : Hid (MaxAt w6) := M5.out.below y2
      have C6 := Lib.hid ((y2.block n (by omega)).trans C5.out)
      have E6 := Lib.hid (E5.out.all y2)
      have F6 := Lib.hid (F5.out.all y2)
      have D6 := Lib.hid y1
      have hy6 : w6.heap.size = y + 1 := y3
      have hxy : x < y := by omega
      clear y2 B5 Q5 R5 M5 C5 E5 F5 hx5 y1 y3 hw6 hys
      obtain ⟨e0, e1, e2, e3, e4, e5, e6⟩ := F6.out.cells
      have k0 := Lib.cell_of_heap C6.out 0
      have k1 := Lib.cell_of_heap C6.out 1
      go_wp2_with fail
      refine (FR.out w6 R6.out).mono ?_
      rintro e w7 ⟨rfl, hb⟩
      have B7 : Hid (Below n w w7) := B6.out.trans (hb.mono (by omega))
      have Q7 := Lib.hid (Q6.out.below hb)
      have R7 := Lib.hid (R6.out.below hb)
      have M7 : Hid (MaxAt w7) := M6.out.below hb
      have C7 := Lib.hid ((hb.block n (by omega)).trans C6.out)
      have E7 := Lib.hid (E6.out.all hb)
      have F7 := Lib.hid (F6.out.all hb)
      have D7 := Lib.hid ((hb.block y (by omega)).trans D6.out)
      have hy7 : y < w7.heap.size := by have := hb.size; omega
      clear hb B6 Q6 R6 M6 C6 E6 F6 k0 k1 e0 e1 e2 e3 e4 e5 e6 hy6 D6 FR
      go_upto_region 7 with fail
      obtain ⟨z, hzs⟩ : ∃ b, w7.heap.size = b := ⟨_, rfl⟩
      obtain ⟨w8, hw8, y1, y2, y3⟩ := ins_box w7 ⟨#[]⟩ (.slice none 0 0) z hzs
      rw [hw8, hzs]
      have B8 : Hid (Below n w w8) := B7.out.trans (y2.mono (by omega))
      have Q8 := Lib.hid (Q7.out.below y2)
      have R8 := Lib.hid (R7.out.below y2)
      have M8 : Hid (MaxAt w8) := M7.out.below y2
      have C8 := Lib.hid ((y2.block n (by omega)).trans C7.out)
      have E8 := Lib.hid (E7.out.all y2)
      have F8 := Lib.hid (F7.out.all y2)
      have D8 := Lib.hid ((y2.block y (by omega)).trans D7.out)
      have G8 := Lib.hid y1
      have hz8 : w8.heap.size = z + 1 := y3
      have hyz : y < z := by omega
      clear y2 B7 Q7 R7 M7 C7 E7 F7 hy7 y1 y3 hw8 hzs D7
      have sm := rsame_any [] [] none none 0 0 [] [] (by simp) (by simp) w8 (.inl rfl) (.inl rfl)
      rw [show sB [] = (⟨#[]⟩ : ByteArray) from rfl, decide_eq_true rfl, decide_eq_true rfl] at sm
      simp only [List.length_nil] at sm
      have q0 := Lib.cell_of_heap D8.out 0
      have q1 := Lib.cell_of_heap D8.out 1
      have q2 := Lib.cell_of_heap G8.out 0
      have q3 := Lib.cell_of_heap G8.out 1
      go_wp2_with fail
      refine sm.mono ?_
      rintro e w9 ⟨rfl, hb⟩
      have M9 : Hid (MaxAt w9) := M8.out.below hb
      have B9 : Hid (Below n w w9) := B8.out.trans (hb.mono (by omega))
      have hn9 : n < w9.heap.size := by have := hb.size; omega
      clear sm hb q0 q1 q2 q3
      go_wp2_with fail
      refine (AL.out _ M9.out).mono ?_
      rintro e wa ⟨rfl, hb⟩
      have Ba : Hid (Below n w wa) := B9.out.trans (hb.mono (by omega))
      go_wp2
      go_ret
      exact ⟨rfl, by rw [HN.out]; exact Ba.out⟩
    | some C =>
      have hl2 : C.length = v := by rw [len_of_shape (fill_shape hO).1]; exact HV.out
      have hfit := fill_has (m := m) h5 hO
      have hval := fill_val (m := m) h5 hO
      have hcan := CF C (by rw [← has_fits h5]; exact hfit)
      have VLC := VL C (by have := HV.out; omega)
      have FTC := FT C (by have := HV.out; omega)
      rw [hcan, hval] at VLC
      rw [hcan, hfit] at FTC
      simp only at VLC
      rw [hl2] at VLC FTC
      rw [hO] at FV FR
      unfold RetFill at FV
      unfold RetRFill at FR
      simp only at FV FR
      rw [h4] at FV
      have FR := Lib.hid FR
      have FV := Lib.hid FV
      have VLC := Lib.hid VLC
      have FTC := Lib.hid FTC
      have HC := Lib.hid hl2
      have hv3 : v ≤ 3 := by have := HV.out; omega
      clear h1 h2 h3 h4 h5 h6 hok hrt VL FT CF hO hfit hval hcan hl2
      go_wp2_with fail
      refine (FV.out w4 Q4.out).mono ?_
      rintro e w5 ⟨v5, rfl, hO5, hb⟩
      obtain ⟨A5, c5, rfl, hP5, -⟩ := hO5.ops
      rw [HC.out]
      have B5 : Hid (Below n w w5) := B4.out.trans (hb.mono (by omega))
      have Q5 := Lib.hid (Q4.out.below hb)
      have R5 := Lib.hid (R4.out.below hb)
      have M5 : Hid (MaxAt w5) := M4.out.below hb
      have C5 := Lib.hid ((hb.block n (by omega)).trans C4.out)
      have E5 := Lib.hid (E4.out.all hb)
      have F5 := Lib.hid (F4.out.all hb)
      have hx5 : x < w5.heap.size := by have := hb.size; omega
      clear hb B4 Q4 R4 M4 C4 E4 F4 k0 k1 e0 e1 e2 e3 e4 e5 e6 hd4 FV
      have S5 := Lib.hid hP5
      clear hO5 hP5
      go_upto_region 6 with fail
      obtain ⟨y, hys⟩ : ∃ b, w5.heap.size = b := ⟨_, rfl⟩
      obtain ⟨w6, hw6, y1, y2, y3⟩ := ins_box w5 (sB m) (.slice A5 v c5) y hys
      rw [hw6, hys]
      have S6 := Lib.hid (S5.out.below y2)
      have B6 : Hid (Below n w w6) := B5.out.trans (y2.mono (by omega))
      have Q6 := Lib.hid (Q5.out.below y2)
      have R6 := Lib.hid (R5.out.below y2)
      have M6 : Hid (MaxAt w6) := M5.out.below y2
      have C6 := Lib.hid ((y2.block n (by omega)).trans C5.out)
      have E6 := Lib.hid (E5.out.all y2)
      have F6 := Lib.hid (F5.out.all y2)
      have D6 := Lib.hid y1
      have hy6 : w6.heap.size = y + 1 := y3
      have hxy : x < y := by omega
      clear y2 B5 Q5 R5 M5 C5 E5 F5 hx5 y1 y3 hw6 hys
      obtain ⟨e0, e1, e2, e3, e4, e5, e6⟩ := F6.out.cells
      have k0 := Lib.cell_of_heap C6.out 0
      have k1 := Lib.cell_of_heap C6.out 1
      go_wp2_with fail
      refine (FR.out w6 R6.out).mono ?_
      rintro e w7 ⟨v7, rfl, hO7, hb⟩
      obtain ⟨A7, c7, rfl, hP7, -⟩ := hO7.ops
      rw [HC.out]
      have S7 := Lib.hid (S6.out.below hb)
      have B7 : Hid (Below n w w7) := B6.out.trans (hb.mono (by omega))
      have Q7 := Lib.hid (Q6.out.below hb)
      have R7 := Lib.hid (R6.out.below hb)
      have M7 : Hid (MaxAt w7) := M6.out.below hb
      have C7 := Lib.hid ((hb.block n (by omega)).trans C6.out)
      have E7 := Lib.hid (E6.out.all hb)
      have F7 := Lib.hid (F6.out.all hb)
      have D7 := Lib.hid ((hb.block y (by omega)).trans D6.out)
      have hy7 : y < w7.heap.size := by have := hb.size; omega
      clear hb B6 Q6 R6 M6 C6 E6 F6 k0 k1 e0 e1 e2 e3 e4 e5 e6 hy6 D6 FR
      have T7 := Lib.hid hP7
      clear hO7 hP7
      go_upto_region 7 with fail
      obtain ⟨z, hzs⟩ : ∃ b, w7.heap.size = b := ⟨_, rfl⟩
      obtain ⟨w8, hw8, y1, y2, y3⟩ := ins_box w7 (sB m) (.slice A7 v c7) z hzs
      rw [hw8, hzs]
      have S8 := Lib.hid (S7.out.below y2)
      have T8 := Lib.hid (T7.out.below y2)
      have B8 : Hid (Below n w w8) := B7.out.trans (y2.mono (by omega))
      have Q8 := Lib.hid (Q7.out.below y2)
      have R8 := Lib.hid (R7.out.below y2)
      have M8 : Hid (MaxAt w8) := M7.out.below y2
      have C8 := Lib.hid ((y2.block n (by omega)).trans C7.out)
      have E8 := Lib.hid (E7.out.all y2)
      have F8 := Lib.hid (F7.out.all y2)
      have D8 := Lib.hid ((y2.block y (by omega)).trans D7.out)
      have G8 := Lib.hid y1
      have hz8 : w8.heap.size = z + 1 := y3
      have hyz : y < z := by omega
      clear y2 B7 Q7 R7 M7 C7 E7 F7 hy7 y1 y3 hw8 hzs D7
      have sm := rsame_any m m A5 A7 c5 c7 C C (by have := HC.out; omega) (by have := HC.out; omega) w8 S8.out T8.out
      rw [decide_eq_true rfl, decide_eq_true rfl, HC.out] at sm
      have q0 := Lib.cell_of_heap D8.out 0
      have q1 := Lib.cell_of_heap D8.out 1
      have q2 := Lib.cell_of_heap G8.out 0
      have q3 := Lib.cell_of_heap G8.out 1
      go_wp2_with fail
      refine sm.mono ?_
      rintro e w9 ⟨rfl, hb⟩
      have S9 := Lib.hid (S8.out.below hb)
      have B9 : Hid (Below n w w9) := B8.out.trans (hb.mono (by omega))
      have Q9 := Lib.hid (Q8.out.below hb)
      have R9 := Lib.hid (R8.out.below hb)
      have M9 : Hid (MaxAt w9) := M8.out.below hb
      have C9 := Lib.hid ((hb.block n (by omega)).trans C8.out)
      have E9 := Lib.hid (E8.out.all hb)
      have F9 := Lib.hid (F8.out.all hb)
      have D9 := Lib.hid ((hb.block y (by omega)).trans D8.out)
      have hz9 : z < w9.heap.size := by have := hb.size; omega
      clear hb B8 Q8 R8 M8 C8 E8 F8 hz8 D8 G8 S8 T8
      clear sm q0 q1 q2 q3
      obtain ⟨e0, e1, e2, e3, e4, e5, e6⟩ := E9.out.cells
      have q0 := Lib.cell_of_heap D9.out 0
      have q1 := Lib.cell_of_heap D9.out 1
      go_wp2_with fail
      refine (VLC.out A5 c5 w9 Q9.out S9.out).mono ?_
      rintro e wa ⟨rfl, hb⟩
      have Sa := Lib.hid (S9.out.below hb)
      have Ba : Hid (Below n w wa) := B9.out.trans (hb.mono (by omega))
      have Qa := Lib.hid (Q9.out.below hb)
      have Ra := Lib.hid (R9.out.below hb)
      have Ma : Hid (MaxAt wa) := M9.out.below hb
      have Ca := Lib.hid ((hb.block n (by omega)).trans C9.out)
      have Ea := Lib.hid (E9.out.all hb)
      have Fa := Lib.hid (F9.out.all hb)
      have Da := Lib.hid ((hb.block y (by omega)).trans D9.out)
      have hza : z < wa.heap.size := by have := hb.size; omega
      clear hb B9 Q9 R9 M9 C9 E9 F9 hz9 D9 S9 VLC
      clear q0 q1 e0 e1 e2 e3 e4 e5 e6
      go_wp2_with fail
      refine (AL.out wa Ma.out).mono ?_
      rintro e wb ⟨rfl, hb⟩
      have Sb := Lib.hid (Sa.out.below hb)
      have Bb : Hid (Below n w wb) := Ba.out.trans (hb.mono (by omega))
      have Qb := Lib.hid (Qa.out.below hb)
      have Rb := Lib.hid (Ra.out.below hb)
      have Mb : Hid (MaxAt wb) := Ma.out.below hb
      have Cb := Lib.hid ((hb.block n (by omega)).trans Ca.out)
      have Eb := Lib.hid (Ea.out.all hb)
      have Fb := Lib.hid (Fa.out.all hb)
      have Db := Lib.hid ((hb.block y (by omega)).trans Da.out)
      have hzb : z < wb.heap.size := by have := hb.size; omega
      clear hb Ba Qa Ra Ma Ca Ea Fa hza Da Sa
      obtain ⟨e0, e1, e2, e3, e4, e5, e6⟩ := Eb.out.cells
      have q0 := Lib.cell_of_heap Db.out 0
      have q1 := Lib.cell_of_heap Db.out 1
      go_wp2_with fail
      refine (FTC.out A5 c5 wb Qb.out Sb.out).mono ?_
      rintro e wc ⟨rfl, hb⟩
      have Bc : Hid (Below n w wc) := Bb.out.trans (hb.mono (by omega))
      have cc := (hb.block n (by omega)).trans Cb.out
      have k0 := Lib.cell_of_heap cc 0
      have k1 := Lib.cell_of_heap cc 1
      clear hb q0 q1 e0 e1 e2 e3 e4 e5 e6 cc
      go_wp2
      go_ret
      exact ⟨rfl, by rw [HN.out]; exact Bc.out⟩
end Go.Proofs.YtbbpkoaeedkncaaGreatDoor
namespace Go.Proofs.YtbbpkoaeedkncaaGreatDoor
open Go.ChangeShapes Go.WideShapes Go.RowKit
theorem okWide_i64x2 {w : World} {r : Reach} {base : Nat} {v : Value} (h : Value.okWide Tryz.prog w r base 40 v) : ∃ c0 c1, v = .agg #[c0, c1] := by
  simp only [Value.okWide, Tryz.underlying40] at h
  obtain ⟨cs, h1, h2, _⟩ := h
  have c2 : Tryz.prog.cellsOf 40 = 2 := by kernel_rfl
  rw [c2] at h2
  match cs, h2 with
  | ⟨[c0, c1]⟩, _ => exact ⟨c0, c1, h1⟩
theorem open_i64x2 {H : Type} {enc : TypeId × Value → H} {w : World} {spare : Nat → Bool} {fuel : Nat} {c0 c1 : Value} {x : DataW H × List MemPlace} (h : DataW.trod enc Tryz.prog w 0 spare true fuel 40 [c0, c1] = some x) :
    ∃ a b : Int, c0 = .int .i64 a ∧ c1 = .int .i64 b := by
  obtain ⟨xs, m, _, _, _, hx, hi⟩ := DataW.trod_array Tryz.underlying40 h
  have c1' : Tryz.prog.cellsOf 3 = 1 := by kernel_rfl
  match xs, hx with
  | [y0, y1], _ =>
    have h0 := hi 0 (by omega)
    have h1 := hi 1 (by omega)
    rw [c1'] at h0 h1
    have h0' : DataW.trod enc Tryz.prog w 0 spare true m 3 [c0] = some y0 := h0
    have h1' : DataW.trod enc Tryz.prog w 0 spare true m 3 [c1] = some y1 := h1
    obtain ⟨a, e0, _, w0⟩ := DataW.trod_int Tryz.underlying3 h0'
    obtain ⟨b, e1, _, w1⟩ := DataW.trod_int Tryz.underlying3 h1'
    exact ⟨a, b, by simpa using e0, by simpa using e1⟩
end Go.Proofs.YtbbpkoaeedkncaaGreatDoor
