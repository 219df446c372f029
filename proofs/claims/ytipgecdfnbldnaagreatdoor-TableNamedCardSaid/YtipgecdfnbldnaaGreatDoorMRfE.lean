/-
  The reference's low, z = 2.
-/
import Derived.Test.YtipgecdfnbldnaaGreatDoorMRfC
import Derived.Deep.DeepCutAuto
import Derived.Deep.Cut
import Derived.StillTail
import Derived.StillTailTactics
import Derived.Deep.RegionHeld3
import Derived.RegionTactic
set_option linter.all false
set_option maxRecDepth 100000
set_option maxHeartbeats 4000000
namespace Go.Proofs.YtipgecdfnbldnaaGreatDoor
open Go.RowKit Go.Shelf
attribute [local irreducible] Go.Mixed.wpMix
theorem opv_put {w : World} {b : Nat} {x : Tr} (h : OpV w b x) (y0 y1 y2 : Int) : ∃ w', ((w.setCell ⟨b, 0, none⟩ (.int .i64 y0)).setCell ⟨b, 1, none⟩ (.int .i64 y1)).setCell ⟨b, 2, none⟩ (.int .i64 y2) = w' ∧ OpV w' b (y0, y1, y2) ∧ Below b w w' ∧ ∀ k, k ≠ b → w'.heap[k]? = w.heap[k]? := by
  refine ⟨_, rfl, set3 h _ _ _, (((Below.refl b w).setCell (p := ⟨b, 0, none⟩) (Nat.le_refl _) _).setCell (p := ⟨b, 1, none⟩) (Nat.le_refl _) _).setCell (p := ⟨b, 2, none⟩) (Nat.le_refl _) _, fun k hk => (heap_setCell_other _ ⟨b, 2, none⟩ k _ hk).trans ((heap_setCell_other _ ⟨b, 1, none⟩ k _ hk).trans (heap_setCell_other _ ⟨b, 0, none⟩ k _ hk))⟩
theorem OpV.ne {w : World} {b n : Nat} {x : Tr} (h : OpV w b x) (r : Rz w n) : b ≠ n := fun e => by
  rw [OpV, e] at h
  have h2 := Eq.trans (Eq.symm r) h
  simp at h2
theorem OpV.lt {w : World} {b : Nat} {x : Tr} (h : OpV w b x) : b < w.heap.size := (Array.getElem?_eq_some_iff.1 h).1
theorem OpV.other {w w' : World} {b c : Nat} {x : Tr} (h : OpV w b x) (hk : ∀ k, k ≠ c → w'.heap[k]? = w.heap[k]?) (hne : b ≠ c) : OpV w' b x := (hk b hne).trans h
theorem Rz.other {w w' : World} {b c : Nat} (h : Rz w b) (hk : ∀ k, k ≠ c → w'.heap[k]? = w.heap[k]?) (hne : b ≠ c) : Rz w' b := (hk b hne).trans h
theorem low_2_0 (w : World) : Calls Tryz.prog 55 #[.int .i64 0, .int .i64 2] w (RetI w [76, 68] [(4, 0, 0), (1, 7, 0)] []) := by
  obtain ⟨w0, hw0, rz0, bl0⟩ := ri_start w
  obtain ⟨n, hn⟩ : ∃ n, w.heap.size = n := ⟨_, rfl⟩
  have Rw0 : Hid (Rz w0 n) := by rw [← hn]; exact rz0
  have Uw0 : Hid (Below w.heap.size w w0) := bl0
  have HN := Lib.hid hn
  clear rz0 bl0
  go_enter Tryz.func55, Tryz.ntmps55
  obtain ⟨⟨p0, p1, p2⟩, hp⟩ : ∃ x : Tr, rpT (0) 3 = x := ⟨_, rfl⟩
  have HP := Lib.hid hp
  have hrp := rrp_any (0) 3 w0
  rw [hp] at hrp
  clear hp
  go_wp2_with fail
  refine hrp.mono ?_
  rintro e w1 ⟨rfl, hb1⟩
  have Rw1 := Lib.hid (Rw0.out.all hb1)
  have Uw1 : Hid (Below w.heap.size w w1) := up Uw0.out hb1
  clear Rw0 Uw0 hb1
  clear hrp hw0
  simp only [trV]
  go_upto_region 2 with fail
  obtain ⟨bP, hbP⟩ : ∃ b, w1.heap.size = b := ⟨_, rfl⟩
  obtain ⟨w2, hw2⟩ : ∃ v, w1.alloc (.cells #[.int .i64 p0, .int .i64 p1, .int .i64 p2] 69) = v := ⟨_, rfl⟩
  have hb2 : Below w1.heap.size w1 w2 := by rw [← hw2]; exact up_alloc _ _
  have Pw2 : Hid (OpV w2 bP (p0, p1, p2)) := by rw [← hw2, ← hbP]; exact opv_new _ _ _ _
  rw [hw2, hbP]
  clear hw2
  have Rw2 := Lib.hid (Rw1.out.all hb2)
  have Uw2 : Hid (Below w.heap.size w w2) := up Uw1.out hb2
  clear Rw1 Uw1 hb2
  go_wp2_with fail
  refine (rrp_any 2 3 w2).mono ?_
  rintro e w3 ⟨rfl, hb3⟩
  have Rw3 := Lib.hid (Rw2.out.all hb3)
  have Uw3 : Hid (Below w.heap.size w w3) := up Uw2.out hb3
  have Pw3 := Lib.hid (Pw2.out.all hb3)
  clear Rw2 Uw2 Pw2 hb3
  simp only [trV]
  simp only [rpT, show ¬ ((2 : Int) = 3) by decide, if_false]
  go_upto_region 4 with fail
  obtain ⟨bH, hbH⟩ : ∃ b, w3.heap.size = b := ⟨_, rfl⟩
  obtain ⟨w4, hw4⟩ : ∃ v, w3.alloc (.cells #[.int .i64 3, .int .i64 2, .int .i64 0] 69) = v := ⟨_, rfl⟩
  have hb4 : Below w3.heap.size w3 w4 := by rw [← hw4]; exact up_alloc _ _
  have Hw4 : Hid (OpV w4 bH (3, 2, 0)) := by rw [← hw4, ← hbH]; exact opv_new _ _ _ _
  rw [hw4, hbH]
  clear hw4
  have Rw4 := Lib.hid (Rw3.out.all hb4)
  have Uw4 : Hid (Below w.heap.size w w4) := up Uw3.out hb4
  have Pw4 := Lib.hid (Pw3.out.all hb4)
  clear Rw3 Uw3 Pw3 hb4
  go_upto_region 22 with fail
  obtain ⟨bQ, hbQ⟩ : ∃ b, w4.heap.size = b := ⟨_, rfl⟩
  have NQ : Hid (w.heap.size ≤ bQ) := by rw [← hbQ]; exact Uw4.out.size
  have DPQ : Hid (bP ≠ bQ) := by rw [← hbQ]; exact Nat.ne_of_lt Pw4.out.lt
  have DHQ : Hid (bH ≠ bQ) := by rw [← hbQ]; exact Nat.ne_of_lt Hw4.out.lt
  have DRQ : Hid (n ≠ bQ) := by rw [← hbQ]; exact Nat.ne_of_lt Rw4.out.lt'
  obtain ⟨w5, hw5⟩ : ∃ v, w4.alloc (.cells #[.int .i64 0, .int .i64 0, .int .i64 0] 69) = v := ⟨_, rfl⟩
  have hb5 : Below w4.heap.size w4 w5 := by rw [← hw5]; exact up_alloc _ _
  have Qw5 : Hid (OpV w5 bQ (0, 0, 0)) := by rw [← hw5, ← hbQ]; exact opv_new _ _ _ _
  rw [hw5, hbQ]
  clear hw5
  have Rw5 := Lib.hid (Rw4.out.all hb5)
  have Uw5 : Hid (Below w.heap.size w w5) := up Uw4.out hb5
  have Pw5 := Lib.hid (Pw4.out.all hb5)
  have Hw5 := Lib.hid (Hw4.out.all hb5)
  clear Rw4 Uw4 Pw4 Hw4 hb5
  go_wp2_with fail
  refine (racc_any w5).mono ?_
  rintro e w6 ⟨rfl, hb6⟩
  have Rw6 := Lib.hid (Rw5.out.all hb6)
  have Uw6 : Hid (Below w.heap.size w w6) := up Uw5.out hb6
  have Pw6 := Lib.hid (Pw5.out.all hb6)
  have Hw6 := Lib.hid (Hw5.out.all hb6)
  have Qw6 := Lib.hid (Qw5.out.all hb6)
  clear Rw5 Uw5 Pw5 Hw5 Qw5 hb6
  simp only [trV]
  go_upto_region 23 with fail
  obtain ⟨bG, hbG⟩ : ∃ b, w6.heap.size = b := ⟨_, rfl⟩
  have NG : Hid (w.heap.size ≤ bG) := by rw [← hbG]; exact Uw6.out.size
  have DPG : Hid (bP ≠ bG) := by rw [← hbG]; exact Nat.ne_of_lt Pw6.out.lt
  have DHG : Hid (bH ≠ bG) := by rw [← hbG]; exact Nat.ne_of_lt Hw6.out.lt
  have DQG : Hid (bQ ≠ bG) := by rw [← hbG]; exact Nat.ne_of_lt Qw6.out.lt
  have DRG : Hid (n ≠ bG) := by rw [← hbG]; exact Nat.ne_of_lt Rw6.out.lt'
  obtain ⟨w7, hw7⟩ : ∃ v, w6.alloc (.cells #[.int .i64 1, .int .i64 7, .int .i64 0] 69) = v := ⟨_, rfl⟩
  have hb7 : Below w6.heap.size w6 w7 := by rw [← hw7]; exact up_alloc _ _
  have Gw7 : Hid (OpV w7 bG (1, 7, 0)) := by rw [← hw7, ← hbG]; exact opv_new _ _ _ _
  rw [hw7, hbG]
  clear hw7
  have Rw7 := Lib.hid (Rw6.out.all hb7)
  have Uw7 : Hid (Below w.heap.size w w7) := up Uw6.out hb7
  have Pw7 := Lib.hid (Pw6.out.all hb7)
  have Hw7 := Lib.hid (Hw6.out.all hb7)
  have Qw7 := Lib.hid (Qw6.out.all hb7)
  clear Rw6 Uw6 Pw6 Hw6 Qw6 hb7
  go_wp2_with fail
  refine (rind_any 0 w7).mono ?_
  rintro e w8 ⟨rfl, hb8⟩
  have Rw8 := Lib.hid (Rw7.out.all hb8)
  have Uw8 : Hid (Below w.heap.size w w8) := up Uw7.out hb8
  have Pw8 := Lib.hid (Pw7.out.all hb8)
  have Hw8 := Lib.hid (Hw7.out.all hb8)
  have Qw8 := Lib.hid (Qw7.out.all hb8)
  have Gw8 := Lib.hid (Gw7.out.all hb8)
  clear Rw7 Uw7 Pw7 Hw7 Qw7 Gw7 hb8
  simp only [trV]
  obtain ⟨qc0, qc1, qc2, qc3⟩ := Qw8.out.cells
  go_upto_region 30 with fail
  obtain ⟨w9, hw9, QZ, BZ, KZ⟩ := opv_put Qw8.out 4 0 0
  rw [hw9]
  clear hw9
  have Qw9 := Lib.hid QZ
  have Uw9 : Hid (Below w.heap.size w w9) := Uw8.out.trans (BZ.mono NQ.out)
  have Rw9 := Lib.hid (Rw8.out.other KZ DRQ.out)
  have Pw9 := Lib.hid (Pw8.out.other KZ DPQ.out)
  have Hw9 := Lib.hid (Hw8.out.other KZ DHQ.out)
  have Gw9 := Lib.hid (Gw8.out.other KZ DQG.out.symm)
  clear qc0 qc1 qc2 qc3 QZ BZ KZ Rw8 Uw8 Pw8 Hw8 Qw8 Gw8
  obtain ⟨qc0, qc1, qc2, qc3⟩ := Qw9.out.cells
  obtain ⟨gc0, gc1, gc2, gc3⟩ := Gw9.out.cells
  go_wp2_with fail
  refine (rtwo_any (4, 0, 0) (1, 7, 0) w9).mono ?_
  rintro e w10 ⟨v, rfl, hO, hb10⟩
  obtain ⟨A, cap, rfl, -, -⟩ := hO.ops
  have Ow10 : Hid (OwnT w10 w.heap.size (.slice A 2 cap) [(4, 0, 0), (1, 7, 0)]) := hO.lift Uw9.out.size
  clear hO
  have Rw10 := Lib.hid (Rw9.out.all hb10)
  have Uw10 : Hid (Below w.heap.size w w10) := up Uw9.out hb10
  have Pw10 := Lib.hid (Pw9.out.all hb10)
  have Hw10 := Lib.hid (Hw9.out.all hb10)
  have Qw10 := Lib.hid (Qw9.out.all hb10)
  have Gw10 := Lib.hid (Gw9.out.all hb10)
  clear Rw9 Uw9 Pw9 Hw9 Qw9 Gw9 hb10
  go_wp2_with fail
  refine (rins_any ⟨#[76, 68]⟩ A 2 cap w10).mono ?_
  rintro e w11 ⟨rfl, hb11⟩
  have Rw11 := Lib.hid (Rw10.out.all hb11)
  have Uw11 : Hid (Below w.heap.size w w11) := up Uw10.out hb11
  have Pw11 := Lib.hid (Pw10.out.all hb11)
  have Hw11 := Lib.hid (Hw10.out.all hb11)
  have Qw11 := Lib.hid (Qw10.out.all hb11)
  have Gw11 := Lib.hid (Gw10.out.all hb11)
  have Ow11 := Lib.hid (Ow10.out.below hb11)
  clear Rw10 Uw10 Pw10 Hw10 Qw10 Gw10 Ow10 hb11
  obtain ⟨z0, z1, z2, z3⟩ := Rw11.out.cells
  go_wp2
  obtain ⟨wz, hwz, q1, q2, q3⟩ := ri_put Rw11.out ⟨#[76, 68]⟩ (.slice A 2 cap)
  rw [hwz]
  obtain ⟨s0, s1⟩ := q1.cells
  refine bodyPost_ret (v := .tuple #[.agg #[.string ⟨#[76, 68]⟩, (.slice A 2 cap)], .string ⟨#[]⟩]) ?_ rfl ?_
  · simp [results, Tryz.results55, go_sem, s0, s1]
  · exact ⟨_, rfl, own_put Rw11.out Ow11.out q3, Uw11.out.trans (q2.mono (by rw [HN.out]; omega))⟩
theorem low_2_1 (w : World) : Calls Tryz.prog 55 #[.int .i64 1, .int .i64 2] w (RetI w [76, 68] [(1, 7, 0), (4, 0, 0)] []) := by
  obtain ⟨w0, hw0, rz0, bl0⟩ := ri_start w
  obtain ⟨n, hn⟩ : ∃ n, w.heap.size = n := ⟨_, rfl⟩
  have Rw0 : Hid (Rz w0 n) := by rw [← hn]; exact rz0
  have Uw0 : Hid (Below w.heap.size w w0) := bl0
  have HN := Lib.hid hn
  clear rz0 bl0
  go_enter Tryz.func55, Tryz.ntmps55
  obtain ⟨⟨p0, p1, p2⟩, hp⟩ : ∃ x : Tr, rpT (0) 3 = x := ⟨_, rfl⟩
  have HP := Lib.hid hp
  have hrp := rrp_any (0) 3 w0
  rw [hp] at hrp
  clear hp
  go_wp2_with fail
  refine hrp.mono ?_
  rintro e w1 ⟨rfl, hb1⟩
  have Rw1 := Lib.hid (Rw0.out.all hb1)
  have Uw1 : Hid (Below w.heap.size w w1) := up Uw0.out hb1
  clear Rw0 Uw0 hb1
  clear hrp hw0
  simp only [trV]
  go_upto_region 2 with fail
  obtain ⟨bP, hbP⟩ : ∃ b, w1.heap.size = b := ⟨_, rfl⟩
  obtain ⟨w2, hw2⟩ : ∃ v, w1.alloc (.cells #[.int .i64 p0, .int .i64 p1, .int .i64 p2] 69) = v := ⟨_, rfl⟩
  have hb2 : Below w1.heap.size w1 w2 := by rw [← hw2]; exact up_alloc _ _
  have Pw2 : Hid (OpV w2 bP (p0, p1, p2)) := by rw [← hw2, ← hbP]; exact opv_new _ _ _ _
  rw [hw2, hbP]
  clear hw2
  have Rw2 := Lib.hid (Rw1.out.all hb2)
  have Uw2 : Hid (Below w.heap.size w w2) := up Uw1.out hb2
  clear Rw1 Uw1 hb2
  go_wp2_with fail
  refine (rrp_any 2 3 w2).mono ?_
  rintro e w3 ⟨rfl, hb3⟩
  have Rw3 := Lib.hid (Rw2.out.all hb3)
  have Uw3 : Hid (Below w.heap.size w w3) := up Uw2.out hb3
  have Pw3 := Lib.hid (Pw2.out.all hb3)
  clear Rw2 Uw2 Pw2 hb3
  simp only [trV]
  simp only [rpT, show ¬ ((2 : Int) = 3) by decide, if_false]
  go_upto_region 4 with fail
  obtain ⟨bH, hbH⟩ : ∃ b, w3.heap.size = b := ⟨_, rfl⟩
  obtain ⟨w4, hw4⟩ : ∃ v, w3.alloc (.cells #[.int .i64 3, .int .i64 2, .int .i64 0] 69) = v := ⟨_, rfl⟩
  have hb4 : Below w3.heap.size w3 w4 := by rw [← hw4]; exact up_alloc _ _
  have Hw4 : Hid (OpV w4 bH (3, 2, 0)) := by rw [← hw4, ← hbH]; exact opv_new _ _ _ _
  rw [hw4, hbH]
  clear hw4
  have Rw4 := Lib.hid (Rw3.out.all hb4)
  have Uw4 : Hid (Below w.heap.size w w4) := up Uw3.out hb4
  have Pw4 := Lib.hid (Pw3.out.all hb4)
  clear Rw3 Uw3 Pw3 hb4
  go_upto_region 22 with fail
  obtain ⟨bQ, hbQ⟩ : ∃ b, w4.heap.size = b := ⟨_, rfl⟩
  have NQ : Hid (w.heap.size ≤ bQ) := by rw [← hbQ]; exact Uw4.out.size
  have DPQ : Hid (bP ≠ bQ) := by rw [← hbQ]; exact Nat.ne_of_lt Pw4.out.lt
  have DHQ : Hid (bH ≠ bQ) := by rw [← hbQ]; exact Nat.ne_of_lt Hw4.out.lt
  have DRQ : Hid (n ≠ bQ) := by rw [← hbQ]; exact Nat.ne_of_lt Rw4.out.lt'
  obtain ⟨w5, hw5⟩ : ∃ v, w4.alloc (.cells #[.int .i64 0, .int .i64 0, .int .i64 0] 69) = v := ⟨_, rfl⟩
  have hb5 : Below w4.heap.size w4 w5 := by rw [← hw5]; exact up_alloc _ _
  have Qw5 : Hid (OpV w5 bQ (0, 0, 0)) := by rw [← hw5, ← hbQ]; exact opv_new _ _ _ _
  rw [hw5, hbQ]
  clear hw5
  have Rw5 := Lib.hid (Rw4.out.all hb5)
  have Uw5 : Hid (Below w.heap.size w w5) := up Uw4.out hb5
  have Pw5 := Lib.hid (Pw4.out.all hb5)
  have Hw5 := Lib.hid (Hw4.out.all hb5)
  clear Rw4 Uw4 Pw4 Hw4 hb5
  go_wp2_with fail
  refine (racc_any w5).mono ?_
  rintro e w6 ⟨rfl, hb6⟩
  have Rw6 := Lib.hid (Rw5.out.all hb6)
  have Uw6 : Hid (Below w.heap.size w w6) := up Uw5.out hb6
  have Pw6 := Lib.hid (Pw5.out.all hb6)
  have Hw6 := Lib.hid (Hw5.out.all hb6)
  have Qw6 := Lib.hid (Qw5.out.all hb6)
  clear Rw5 Uw5 Pw5 Hw5 Qw5 hb6
  simp only [trV]
  go_upto_region 23 with fail
  obtain ⟨bG, hbG⟩ : ∃ b, w6.heap.size = b := ⟨_, rfl⟩
  have NG : Hid (w.heap.size ≤ bG) := by rw [← hbG]; exact Uw6.out.size
  have DPG : Hid (bP ≠ bG) := by rw [← hbG]; exact Nat.ne_of_lt Pw6.out.lt
  have DHG : Hid (bH ≠ bG) := by rw [← hbG]; exact Nat.ne_of_lt Hw6.out.lt
  have DQG : Hid (bQ ≠ bG) := by rw [← hbG]; exact Nat.ne_of_lt Qw6.out.lt
  have DRG : Hid (n ≠ bG) := by rw [← hbG]; exact Nat.ne_of_lt Rw6.out.lt'
  obtain ⟨w7, hw7⟩ : ∃ v, w6.alloc (.cells #[.int .i64 1, .int .i64 7, .int .i64 0] 69) = v := ⟨_, rfl⟩
  have hb7 : Below w6.heap.size w6 w7 := by rw [← hw7]; exact up_alloc _ _
  have Gw7 : Hid (OpV w7 bG (1, 7, 0)) := by rw [← hw7, ← hbG]; exact opv_new _ _ _ _
  rw [hw7, hbG]
  clear hw7
  have Rw7 := Lib.hid (Rw6.out.all hb7)
  have Uw7 : Hid (Below w.heap.size w w7) := up Uw6.out hb7
  have Pw7 := Lib.hid (Pw6.out.all hb7)
  have Hw7 := Lib.hid (Hw6.out.all hb7)
  have Qw7 := Lib.hid (Qw6.out.all hb7)
  clear Rw6 Uw6 Pw6 Hw6 Qw6 hb7
  go_wp2_with fail
  refine (rind_any 0 w7).mono ?_
  rintro e w8 ⟨rfl, hb8⟩
  have Rw8 := Lib.hid (Rw7.out.all hb8)
  have Uw8 : Hid (Below w.heap.size w w8) := up Uw7.out hb8
  have Pw8 := Lib.hid (Pw7.out.all hb8)
  have Hw8 := Lib.hid (Hw7.out.all hb8)
  have Qw8 := Lib.hid (Qw7.out.all hb8)
  have Gw8 := Lib.hid (Gw7.out.all hb8)
  clear Rw7 Uw7 Pw7 Hw7 Qw7 Gw7 hb8
  simp only [trV]
  obtain ⟨qc0, qc1, qc2, qc3⟩ := Qw8.out.cells
  go_upto_region 30 with fail
  obtain ⟨w9, hw9, QZ, BZ, KZ⟩ := opv_put Qw8.out 4 0 0
  rw [hw9]
  clear hw9
  have Qw9 := Lib.hid QZ
  have Uw9 : Hid (Below w.heap.size w w9) := Uw8.out.trans (BZ.mono NQ.out)
  have Rw9 := Lib.hid (Rw8.out.other KZ DRQ.out)
  have Pw9 := Lib.hid (Pw8.out.other KZ DPQ.out)
  have Hw9 := Lib.hid (Hw8.out.other KZ DHQ.out)
  have Gw9 := Lib.hid (Gw8.out.other KZ DQG.out.symm)
  clear qc0 qc1 qc2 qc3 QZ BZ KZ Rw8 Uw8 Pw8 Hw8 Qw8 Gw8
  obtain ⟨qc0, qc1, qc2, qc3⟩ := Qw9.out.cells
  obtain ⟨gc0, gc1, gc2, gc3⟩ := Gw9.out.cells
  go_wp2_with fail
  refine (rtwo_any (1, 7, 0) (4, 0, 0) w9).mono ?_
  rintro e w10 ⟨v, rfl, hO, hb10⟩
  obtain ⟨A, cap, rfl, -, -⟩ := hO.ops
  have Ow10 : Hid (OwnT w10 w.heap.size (.slice A 2 cap) [(1, 7, 0), (4, 0, 0)]) := hO.lift Uw9.out.size
  clear hO
  have Rw10 := Lib.hid (Rw9.out.all hb10)
  have Uw10 : Hid (Below w.heap.size w w10) := up Uw9.out hb10
  have Pw10 := Lib.hid (Pw9.out.all hb10)
  have Hw10 := Lib.hid (Hw9.out.all hb10)
  have Qw10 := Lib.hid (Qw9.out.all hb10)
  have Gw10 := Lib.hid (Gw9.out.all hb10)
  clear Rw9 Uw9 Pw9 Hw9 Qw9 Gw9 hb10
  go_wp2_with fail
  refine (rins_any ⟨#[76, 68]⟩ A 2 cap w10).mono ?_
  rintro e w11 ⟨rfl, hb11⟩
  have Rw11 := Lib.hid (Rw10.out.all hb11)
  have Uw11 : Hid (Below w.heap.size w w11) := up Uw10.out hb11
  have Pw11 := Lib.hid (Pw10.out.all hb11)
  have Hw11 := Lib.hid (Hw10.out.all hb11)
  have Qw11 := Lib.hid (Qw10.out.all hb11)
  have Gw11 := Lib.hid (Gw10.out.all hb11)
  have Ow11 := Lib.hid (Ow10.out.below hb11)
  clear Rw10 Uw10 Pw10 Hw10 Qw10 Gw10 Ow10 hb11
  obtain ⟨z0, z1, z2, z3⟩ := Rw11.out.cells
  go_wp2
  obtain ⟨wz, hwz, q1, q2, q3⟩ := ri_put Rw11.out ⟨#[76, 68]⟩ (.slice A 2 cap)
  rw [hwz]
  obtain ⟨s0, s1⟩ := q1.cells
  refine bodyPost_ret (v := .tuple #[.agg #[.string ⟨#[76, 68]⟩, (.slice A 2 cap)], .string ⟨#[]⟩]) ?_ rfl ?_
  · simp [results, Tryz.results55, go_sem, s0, s1]
  · exact ⟨_, rfl, own_put Rw11.out Ow11.out q3, Uw11.out.trans (q2.mono (by rw [HN.out]; omega))⟩
theorem low_2_2 (w : World) : Calls Tryz.prog 55 #[.int .i64 2, .int .i64 2] w (RetI w [76, 68] [(4, 1, 0), (1, 7, 0)] []) := by
  obtain ⟨w0, hw0, rz0, bl0⟩ := ri_start w
  obtain ⟨n, hn⟩ : ∃ n, w.heap.size = n := ⟨_, rfl⟩
  have Rw0 : Hid (Rz w0 n) := by rw [← hn]; exact rz0
  have Uw0 : Hid (Below w.heap.size w w0) := bl0
  have HN := Lib.hid hn
  clear rz0 bl0
  go_enter Tryz.func55, Tryz.ntmps55
  obtain ⟨⟨p0, p1, p2⟩, hp⟩ : ∃ x : Tr, rpT (1) 3 = x := ⟨_, rfl⟩
  have HP := Lib.hid hp
  have hrp := rrp_any (1) 3 w0
  rw [hp] at hrp
  clear hp
  go_wp2_with fail
  refine hrp.mono ?_
  rintro e w1 ⟨rfl, hb1⟩
  have Rw1 := Lib.hid (Rw0.out.all hb1)
  have Uw1 : Hid (Below w.heap.size w w1) := up Uw0.out hb1
  clear Rw0 Uw0 hb1
  clear hrp hw0
  simp only [trV]
  go_upto_region 2 with fail
  obtain ⟨bP, hbP⟩ : ∃ b, w1.heap.size = b := ⟨_, rfl⟩
  obtain ⟨w2, hw2⟩ : ∃ v, w1.alloc (.cells #[.int .i64 p0, .int .i64 p1, .int .i64 p2] 69) = v := ⟨_, rfl⟩
  have hb2 : Below w1.heap.size w1 w2 := by rw [← hw2]; exact up_alloc _ _
  have Pw2 : Hid (OpV w2 bP (p0, p1, p2)) := by rw [← hw2, ← hbP]; exact opv_new _ _ _ _
  rw [hw2, hbP]
  clear hw2
  have Rw2 := Lib.hid (Rw1.out.all hb2)
  have Uw2 : Hid (Below w.heap.size w w2) := up Uw1.out hb2
  clear Rw1 Uw1 hb2
  go_wp2_with fail
  refine (rrp_any 2 3 w2).mono ?_
  rintro e w3 ⟨rfl, hb3⟩
  have Rw3 := Lib.hid (Rw2.out.all hb3)
  have Uw3 : Hid (Below w.heap.size w w3) := up Uw2.out hb3
  have Pw3 := Lib.hid (Pw2.out.all hb3)
  clear Rw2 Uw2 Pw2 hb3
  simp only [trV]
  simp only [rpT, show ¬ ((2 : Int) = 3) by decide, if_false]
  go_upto_region 4 with fail
  obtain ⟨bH, hbH⟩ : ∃ b, w3.heap.size = b := ⟨_, rfl⟩
  obtain ⟨w4, hw4⟩ : ∃ v, w3.alloc (.cells #[.int .i64 3, .int .i64 2, .int .i64 0] 69) = v := ⟨_, rfl⟩
  have hb4 : Below w3.heap.size w3 w4 := by rw [← hw4]; exact up_alloc _ _
  have Hw4 : Hid (OpV w4 bH (3, 2, 0)) := by rw [← hw4, ← hbH]; exact opv_new _ _ _ _
  rw [hw4, hbH]
  clear hw4
  have Rw4 := Lib.hid (Rw3.out.all hb4)
  have Uw4 : Hid (Below w.heap.size w w4) := up Uw3.out hb4
  have Pw4 := Lib.hid (Pw3.out.all hb4)
  clear Rw3 Uw3 Pw3 hb4
  go_upto_region 22 with fail
  obtain ⟨bQ, hbQ⟩ : ∃ b, w4.heap.size = b := ⟨_, rfl⟩
  have NQ : Hid (w.heap.size ≤ bQ) := by rw [← hbQ]; exact Uw4.out.size
  have DPQ : Hid (bP ≠ bQ) := by rw [← hbQ]; exact Nat.ne_of_lt Pw4.out.lt
  have DHQ : Hid (bH ≠ bQ) := by rw [← hbQ]; exact Nat.ne_of_lt Hw4.out.lt
  have DRQ : Hid (n ≠ bQ) := by rw [← hbQ]; exact Nat.ne_of_lt Rw4.out.lt'
  obtain ⟨w5, hw5⟩ : ∃ v, w4.alloc (.cells #[.int .i64 0, .int .i64 0, .int .i64 0] 69) = v := ⟨_, rfl⟩
  have hb5 : Below w4.heap.size w4 w5 := by rw [← hw5]; exact up_alloc _ _
  have Qw5 : Hid (OpV w5 bQ (0, 0, 0)) := by rw [← hw5, ← hbQ]; exact opv_new _ _ _ _
  rw [hw5, hbQ]
  clear hw5
  have Rw5 := Lib.hid (Rw4.out.all hb5)
  have Uw5 : Hid (Below w.heap.size w w5) := up Uw4.out hb5
  have Pw5 := Lib.hid (Pw4.out.all hb5)
  have Hw5 := Lib.hid (Hw4.out.all hb5)
  clear Rw4 Uw4 Pw4 Hw4 hb5
  go_wp2_with fail
  refine (racc_any w5).mono ?_
  rintro e w6 ⟨rfl, hb6⟩
  have Rw6 := Lib.hid (Rw5.out.all hb6)
  have Uw6 : Hid (Below w.heap.size w w6) := up Uw5.out hb6
  have Pw6 := Lib.hid (Pw5.out.all hb6)
  have Hw6 := Lib.hid (Hw5.out.all hb6)
  have Qw6 := Lib.hid (Qw5.out.all hb6)
  clear Rw5 Uw5 Pw5 Hw5 Qw5 hb6
  simp only [trV]
  go_upto_region 23 with fail
  obtain ⟨bG, hbG⟩ : ∃ b, w6.heap.size = b := ⟨_, rfl⟩
  have NG : Hid (w.heap.size ≤ bG) := by rw [← hbG]; exact Uw6.out.size
  have DPG : Hid (bP ≠ bG) := by rw [← hbG]; exact Nat.ne_of_lt Pw6.out.lt
  have DHG : Hid (bH ≠ bG) := by rw [← hbG]; exact Nat.ne_of_lt Hw6.out.lt
  have DQG : Hid (bQ ≠ bG) := by rw [← hbG]; exact Nat.ne_of_lt Qw6.out.lt
  have DRG : Hid (n ≠ bG) := by rw [← hbG]; exact Nat.ne_of_lt Rw6.out.lt'
  obtain ⟨w7, hw7⟩ : ∃ v, w6.alloc (.cells #[.int .i64 1, .int .i64 7, .int .i64 0] 69) = v := ⟨_, rfl⟩
  have hb7 : Below w6.heap.size w6 w7 := by rw [← hw7]; exact up_alloc _ _
  have Gw7 : Hid (OpV w7 bG (1, 7, 0)) := by rw [← hw7, ← hbG]; exact opv_new _ _ _ _
  rw [hw7, hbG]
  clear hw7
  have Rw7 := Lib.hid (Rw6.out.all hb7)
  have Uw7 : Hid (Below w.heap.size w w7) := up Uw6.out hb7
  have Pw7 := Lib.hid (Pw6.out.all hb7)
  have Hw7 := Lib.hid (Hw6.out.all hb7)
  have Qw7 := Lib.hid (Qw6.out.all hb7)
  clear Rw6 Uw6 Pw6 Hw6 Qw6 hb7
  go_wp2_with fail
  refine (rind_any 1 w7).mono ?_
  rintro e w8 ⟨rfl, hb8⟩
  have Rw8 := Lib.hid (Rw7.out.all hb8)
  have Uw8 : Hid (Below w.heap.size w w8) := up Uw7.out hb8
  have Pw8 := Lib.hid (Pw7.out.all hb8)
  have Hw8 := Lib.hid (Hw7.out.all hb8)
  have Qw8 := Lib.hid (Qw7.out.all hb8)
  have Gw8 := Lib.hid (Gw7.out.all hb8)
  clear Rw7 Uw7 Pw7 Hw7 Qw7 Gw7 hb8
  simp only [trV]
  obtain ⟨qc0, qc1, qc2, qc3⟩ := Qw8.out.cells
  go_upto_region 30 with fail
  obtain ⟨w9, hw9, QZ, BZ, KZ⟩ := opv_put Qw8.out 4 1 0
  rw [hw9]
  clear hw9
  have Qw9 := Lib.hid QZ
  have Uw9 : Hid (Below w.heap.size w w9) := Uw8.out.trans (BZ.mono NQ.out)
  have Rw9 := Lib.hid (Rw8.out.other KZ DRQ.out)
  have Pw9 := Lib.hid (Pw8.out.other KZ DPQ.out)
  have Hw9 := Lib.hid (Hw8.out.other KZ DHQ.out)
  have Gw9 := Lib.hid (Gw8.out.other KZ DQG.out.symm)
  clear qc0 qc1 qc2 qc3 QZ BZ KZ Rw8 Uw8 Pw8 Hw8 Qw8 Gw8
  obtain ⟨qc0, qc1, qc2, qc3⟩ := Qw9.out.cells
  obtain ⟨gc0, gc1, gc2, gc3⟩ := Gw9.out.cells
  go_wp2_with fail
  refine (rtwo_any (4, 1, 0) (1, 7, 0) w9).mono ?_
  rintro e w10 ⟨v, rfl, hO, hb10⟩
  obtain ⟨A, cap, rfl, -, -⟩ := hO.ops
  have Ow10 : Hid (OwnT w10 w.heap.size (.slice A 2 cap) [(4, 1, 0), (1, 7, 0)]) := hO.lift Uw9.out.size
  clear hO
  have Rw10 := Lib.hid (Rw9.out.all hb10)
  have Uw10 : Hid (Below w.heap.size w w10) := up Uw9.out hb10
  have Pw10 := Lib.hid (Pw9.out.all hb10)
  have Hw10 := Lib.hid (Hw9.out.all hb10)
  have Qw10 := Lib.hid (Qw9.out.all hb10)
  have Gw10 := Lib.hid (Gw9.out.all hb10)
  clear Rw9 Uw9 Pw9 Hw9 Qw9 Gw9 hb10
  go_wp2_with fail
  refine (rins_any ⟨#[76, 68]⟩ A 2 cap w10).mono ?_
  rintro e w11 ⟨rfl, hb11⟩
  have Rw11 := Lib.hid (Rw10.out.all hb11)
  have Uw11 : Hid (Below w.heap.size w w11) := up Uw10.out hb11
  have Pw11 := Lib.hid (Pw10.out.all hb11)
  have Hw11 := Lib.hid (Hw10.out.all hb11)
  have Qw11 := Lib.hid (Qw10.out.all hb11)
  have Gw11 := Lib.hid (Gw10.out.all hb11)
  have Ow11 := Lib.hid (Ow10.out.below hb11)
  clear Rw10 Uw10 Pw10 Hw10 Qw10 Gw10 Ow10 hb11
  obtain ⟨z0, z1, z2, z3⟩ := Rw11.out.cells
  go_wp2
  obtain ⟨wz, hwz, q1, q2, q3⟩ := ri_put Rw11.out ⟨#[76, 68]⟩ (.slice A 2 cap)
  rw [hwz]
  obtain ⟨s0, s1⟩ := q1.cells
  refine bodyPost_ret (v := .tuple #[.agg #[.string ⟨#[76, 68]⟩, (.slice A 2 cap)], .string ⟨#[]⟩]) ?_ rfl ?_
  · simp [results, Tryz.results55, go_sem, s0, s1]
  · exact ⟨_, rfl, own_put Rw11.out Ow11.out q3, Uw11.out.trans (q2.mono (by rw [HN.out]; omega))⟩
theorem low_2_3 (w : World) : Calls Tryz.prog 55 #[.int .i64 3, .int .i64 2] w (RetI w [76, 68] [(1, 7, 0), (4, 1, 0)] []) := by
  obtain ⟨w0, hw0, rz0, bl0⟩ := ri_start w
  obtain ⟨n, hn⟩ : ∃ n, w.heap.size = n := ⟨_, rfl⟩
  have Rw0 : Hid (Rz w0 n) := by rw [← hn]; exact rz0
  have Uw0 : Hid (Below w.heap.size w w0) := bl0
  have HN := Lib.hid hn
  clear rz0 bl0
  go_enter Tryz.func55, Tryz.ntmps55
  obtain ⟨⟨p0, p1, p2⟩, hp⟩ : ∃ x : Tr, rpT (1) 3 = x := ⟨_, rfl⟩
  have HP := Lib.hid hp
  have hrp := rrp_any (1) 3 w0
  rw [hp] at hrp
  clear hp
  go_wp2_with fail
  refine hrp.mono ?_
  rintro e w1 ⟨rfl, hb1⟩
  have Rw1 := Lib.hid (Rw0.out.all hb1)
  have Uw1 : Hid (Below w.heap.size w w1) := up Uw0.out hb1
  clear Rw0 Uw0 hb1
  clear hrp hw0
  simp only [trV]
  go_upto_region 2 with fail
  obtain ⟨bP, hbP⟩ : ∃ b, w1.heap.size = b := ⟨_, rfl⟩
  obtain ⟨w2, hw2⟩ : ∃ v, w1.alloc (.cells #[.int .i64 p0, .int .i64 p1, .int .i64 p2] 69) = v := ⟨_, rfl⟩
  have hb2 : Below w1.heap.size w1 w2 := by rw [← hw2]; exact up_alloc _ _
  have Pw2 : Hid (OpV w2 bP (p0, p1, p2)) := by rw [← hw2, ← hbP]; exact opv_new _ _ _ _
  rw [hw2, hbP]
  clear hw2
  have Rw2 := Lib.hid (Rw1.out.all hb2)
  have Uw2 : Hid (Below w.heap.size w w2) := up Uw1.out hb2
  clear Rw1 Uw1 hb2
  go_wp2_with fail
  refine (rrp_any 2 3 w2).mono ?_
  rintro e w3 ⟨rfl, hb3⟩
  have Rw3 := Lib.hid (Rw2.out.all hb3)
  have Uw3 : Hid (Below w.heap.size w w3) := up Uw2.out hb3
  have Pw3 := Lib.hid (Pw2.out.all hb3)
  clear Rw2 Uw2 Pw2 hb3
  simp only [trV]
  simp only [rpT, show ¬ ((2 : Int) = 3) by decide, if_false]
  go_upto_region 4 with fail
  obtain ⟨bH, hbH⟩ : ∃ b, w3.heap.size = b := ⟨_, rfl⟩
  obtain ⟨w4, hw4⟩ : ∃ v, w3.alloc (.cells #[.int .i64 3, .int .i64 2, .int .i64 0] 69) = v := ⟨_, rfl⟩
  have hb4 : Below w3.heap.size w3 w4 := by rw [← hw4]; exact up_alloc _ _
  have Hw4 : Hid (OpV w4 bH (3, 2, 0)) := by rw [← hw4, ← hbH]; exact opv_new _ _ _ _
  rw [hw4, hbH]
  clear hw4
  have Rw4 := Lib.hid (Rw3.out.all hb4)
  have Uw4 : Hid (Below w.heap.size w w4) := up Uw3.out hb4
  have Pw4 := Lib.hid (Pw3.out.all hb4)
  clear Rw3 Uw3 Pw3 hb4
  go_upto_region 22 with fail
  obtain ⟨bQ, hbQ⟩ : ∃ b, w4.heap.size = b := ⟨_, rfl⟩
  have NQ : Hid (w.heap.size ≤ bQ) := by rw [← hbQ]; exact Uw4.out.size
  have DPQ : Hid (bP ≠ bQ) := by rw [← hbQ]; exact Nat.ne_of_lt Pw4.out.lt
  have DHQ : Hid (bH ≠ bQ) := by rw [← hbQ]; exact Nat.ne_of_lt Hw4.out.lt
  have DRQ : Hid (n ≠ bQ) := by rw [← hbQ]; exact Nat.ne_of_lt Rw4.out.lt'
  obtain ⟨w5, hw5⟩ : ∃ v, w4.alloc (.cells #[.int .i64 0, .int .i64 0, .int .i64 0] 69) = v := ⟨_, rfl⟩
  have hb5 : Below w4.heap.size w4 w5 := by rw [← hw5]; exact up_alloc _ _
  have Qw5 : Hid (OpV w5 bQ (0, 0, 0)) := by rw [← hw5, ← hbQ]; exact opv_new _ _ _ _
  rw [hw5, hbQ]
  clear hw5
  have Rw5 := Lib.hid (Rw4.out.all hb5)
  have Uw5 : Hid (Below w.heap.size w w5) := up Uw4.out hb5
  have Pw5 := Lib.hid (Pw4.out.all hb5)
  have Hw5 := Lib.hid (Hw4.out.all hb5)
  clear Rw4 Uw4 Pw4 Hw4 hb5
  go_wp2_with fail
  refine (racc_any w5).mono ?_
  rintro e w6 ⟨rfl, hb6⟩
  have Rw6 := Lib.hid (Rw5.out.all hb6)
  have Uw6 : Hid (Below w.heap.size w w6) := up Uw5.out hb6
  have Pw6 := Lib.hid (Pw5.out.all hb6)
  have Hw6 := Lib.hid (Hw5.out.all hb6)
  have Qw6 := Lib.hid (Qw5.out.all hb6)
  clear Rw5 Uw5 Pw5 Hw5 Qw5 hb6
  simp only [trV]
  go_upto_region 23 with fail
  obtain ⟨bG, hbG⟩ : ∃ b, w6.heap.size = b := ⟨_, rfl⟩
  have NG : Hid (w.heap.size ≤ bG) := by rw [← hbG]; exact Uw6.out.size
  have DPG : Hid (bP ≠ bG) := by rw [← hbG]; exact Nat.ne_of_lt Pw6.out.lt
  have DHG : Hid (bH ≠ bG) := by rw [← hbG]; exact Nat.ne_of_lt Hw6.out.lt
  have DQG : Hid (bQ ≠ bG) := by rw [← hbG]; exact Nat.ne_of_lt Qw6.out.lt
  have DRG : Hid (n ≠ bG) := by rw [← hbG]; exact Nat.ne_of_lt Rw6.out.lt'
  obtain ⟨w7, hw7⟩ : ∃ v, w6.alloc (.cells #[.int .i64 1, .int .i64 7, .int .i64 0] 69) = v := ⟨_, rfl⟩
  have hb7 : Below w6.heap.size w6 w7 := by rw [← hw7]; exact up_alloc _ _
  have Gw7 : Hid (OpV w7 bG (1, 7, 0)) := by rw [← hw7, ← hbG]; exact opv_new _ _ _ _
  rw [hw7, hbG]
  clear hw7
  have Rw7 := Lib.hid (Rw6.out.all hb7)
  have Uw7 : Hid (Below w.heap.size w w7) := up Uw6.out hb7
  have Pw7 := Lib.hid (Pw6.out.all hb7)
  have Hw7 := Lib.hid (Hw6.out.all hb7)
  have Qw7 := Lib.hid (Qw6.out.all hb7)
  clear Rw6 Uw6 Pw6 Hw6 Qw6 hb7
  go_wp2_with fail
  refine (rind_any 1 w7).mono ?_
  rintro e w8 ⟨rfl, hb8⟩
  have Rw8 := Lib.hid (Rw7.out.all hb8)
  have Uw8 : Hid (Below w.heap.size w w8) := up Uw7.out hb8
  have Pw8 := Lib.hid (Pw7.out.all hb8)
  have Hw8 := Lib.hid (Hw7.out.all hb8)
  have Qw8 := Lib.hid (Qw7.out.all hb8)
  have Gw8 := Lib.hid (Gw7.out.all hb8)
  clear Rw7 Uw7 Pw7 Hw7 Qw7 Gw7 hb8
  simp only [trV]
  obtain ⟨qc0, qc1, qc2, qc3⟩ := Qw8.out.cells
  go_upto_region 30 with fail
  obtain ⟨w9, hw9, QZ, BZ, KZ⟩ := opv_put Qw8.out 4 1 0
  rw [hw9]
  clear hw9
  have Qw9 := Lib.hid QZ
  have Uw9 : Hid (Below w.heap.size w w9) := Uw8.out.trans (BZ.mono NQ.out)
  have Rw9 := Lib.hid (Rw8.out.other KZ DRQ.out)
  have Pw9 := Lib.hid (Pw8.out.other KZ DPQ.out)
  have Hw9 := Lib.hid (Hw8.out.other KZ DHQ.out)
  have Gw9 := Lib.hid (Gw8.out.other KZ DQG.out.symm)
  clear qc0 qc1 qc2 qc3 QZ BZ KZ Rw8 Uw8 Pw8 Hw8 Qw8 Gw8
  obtain ⟨qc0, qc1, qc2, qc3⟩ := Qw9.out.cells
  obtain ⟨gc0, gc1, gc2, gc3⟩ := Gw9.out.cells
  go_wp2_with fail
  refine (rtwo_any (1, 7, 0) (4, 1, 0) w9).mono ?_
  rintro e w10 ⟨v, rfl, hO, hb10⟩
  obtain ⟨A, cap, rfl, -, -⟩ := hO.ops
  have Ow10 : Hid (OwnT w10 w.heap.size (.slice A 2 cap) [(1, 7, 0), (4, 1, 0)]) := hO.lift Uw9.out.size
  clear hO
  have Rw10 := Lib.hid (Rw9.out.all hb10)
  have Uw10 : Hid (Below w.heap.size w w10) := up Uw9.out hb10
  have Pw10 := Lib.hid (Pw9.out.all hb10)
  have Hw10 := Lib.hid (Hw9.out.all hb10)
  have Qw10 := Lib.hid (Qw9.out.all hb10)
  have Gw10 := Lib.hid (Gw9.out.all hb10)
  clear Rw9 Uw9 Pw9 Hw9 Qw9 Gw9 hb10
  go_wp2_with fail
  refine (rins_any ⟨#[76, 68]⟩ A 2 cap w10).mono ?_
  rintro e w11 ⟨rfl, hb11⟩
  have Rw11 := Lib.hid (Rw10.out.all hb11)
  have Uw11 : Hid (Below w.heap.size w w11) := up Uw10.out hb11
  have Pw11 := Lib.hid (Pw10.out.all hb11)
  have Hw11 := Lib.hid (Hw10.out.all hb11)
  have Qw11 := Lib.hid (Qw10.out.all hb11)
  have Gw11 := Lib.hid (Gw10.out.all hb11)
  have Ow11 := Lib.hid (Ow10.out.below hb11)
  clear Rw10 Uw10 Pw10 Hw10 Qw10 Gw10 Ow10 hb11
  obtain ⟨z0, z1, z2, z3⟩ := Rw11.out.cells
  go_wp2
  obtain ⟨wz, hwz, q1, q2, q3⟩ := ri_put Rw11.out ⟨#[76, 68]⟩ (.slice A 2 cap)
  rw [hwz]
  obtain ⟨s0, s1⟩ := q1.cells
  refine bodyPost_ret (v := .tuple #[.agg #[.string ⟨#[76, 68]⟩, (.slice A 2 cap)], .string ⟨#[]⟩]) ?_ rfl ?_
  · simp [results, Tryz.results55, go_sem, s0, s1]
  · exact ⟨_, rfl, own_put Rw11.out Ow11.out q3, Uw11.out.trans (q2.mono (by rw [HN.out]; omega))⟩
theorem low_2_4 (w : World) : Calls Tryz.prog 55 #[.int .i64 4, .int .i64 2] w (RetI w [76, 68] [(7, 0, 0), (3, 2, 0)] [119]) := by
  obtain ⟨w0, hw0, rz0, bl0⟩ := ri_start w
  obtain ⟨n, hn⟩ : ∃ n, w.heap.size = n := ⟨_, rfl⟩
  have Rw0 : Hid (Rz w0 n) := by rw [← hn]; exact rz0
  have Uw0 : Hid (Below w.heap.size w w0) := bl0
  have HN := Lib.hid hn
  clear rz0 bl0
  go_enter Tryz.func55, Tryz.ntmps55
  obtain ⟨⟨p0, p1, p2⟩, hp⟩ : ∃ x : Tr, rpT (2) 3 = x := ⟨_, rfl⟩
  have HP := Lib.hid hp
  have hrp := rrp_any (2) 3 w0
  rw [hp] at hrp
  clear hp
  go_wp2_with fail
  refine hrp.mono ?_
  rintro e w1 ⟨rfl, hb1⟩
  have Rw1 := Lib.hid (Rw0.out.all hb1)
  have Uw1 : Hid (Below w.heap.size w w1) := up Uw0.out hb1
  clear Rw0 Uw0 hb1
  clear hrp hw0
  simp only [trV]
  go_upto_region 2 with fail
  obtain ⟨bP, hbP⟩ : ∃ b, w1.heap.size = b := ⟨_, rfl⟩
  obtain ⟨w2, hw2⟩ : ∃ v, w1.alloc (.cells #[.int .i64 p0, .int .i64 p1, .int .i64 p2] 69) = v := ⟨_, rfl⟩
  have hb2 : Below w1.heap.size w1 w2 := by rw [← hw2]; exact up_alloc _ _
  have Pw2 : Hid (OpV w2 bP (p0, p1, p2)) := by rw [← hw2, ← hbP]; exact opv_new _ _ _ _
  rw [hw2, hbP]
  clear hw2
  have Rw2 := Lib.hid (Rw1.out.all hb2)
  have Uw2 : Hid (Below w.heap.size w w2) := up Uw1.out hb2
  clear Rw1 Uw1 hb2
  go_wp2_with fail
  refine (rrp_any 2 3 w2).mono ?_
  rintro e w3 ⟨rfl, hb3⟩
  have Rw3 := Lib.hid (Rw2.out.all hb3)
  have Uw3 : Hid (Below w.heap.size w w3) := up Uw2.out hb3
  have Pw3 := Lib.hid (Pw2.out.all hb3)
  clear Rw2 Uw2 Pw2 hb3
  simp only [trV]
  simp only [rpT, show ¬ ((2 : Int) = 3) by decide, if_false]
  go_upto_region 4 with fail
  obtain ⟨bH, hbH⟩ : ∃ b, w3.heap.size = b := ⟨_, rfl⟩
  obtain ⟨w4, hw4⟩ : ∃ v, w3.alloc (.cells #[.int .i64 3, .int .i64 2, .int .i64 0] 69) = v := ⟨_, rfl⟩
  have hb4 : Below w3.heap.size w3 w4 := by rw [← hw4]; exact up_alloc _ _
  have Hw4 : Hid (OpV w4 bH (3, 2, 0)) := by rw [← hw4, ← hbH]; exact opv_new _ _ _ _
  rw [hw4, hbH]
  clear hw4
  have Rw4 := Lib.hid (Rw3.out.all hb4)
  have Uw4 : Hid (Below w.heap.size w w4) := up Uw3.out hb4
  have Pw4 := Lib.hid (Pw3.out.all hb4)
  clear Rw3 Uw3 Pw3 hb4
  go_upto_region 22 with fail
  obtain ⟨bQ, hbQ⟩ : ∃ b, w4.heap.size = b := ⟨_, rfl⟩
  have NQ : Hid (w.heap.size ≤ bQ) := by rw [← hbQ]; exact Uw4.out.size
  have DPQ : Hid (bP ≠ bQ) := by rw [← hbQ]; exact Nat.ne_of_lt Pw4.out.lt
  have DHQ : Hid (bH ≠ bQ) := by rw [← hbQ]; exact Nat.ne_of_lt Hw4.out.lt
  have DRQ : Hid (n ≠ bQ) := by rw [← hbQ]; exact Nat.ne_of_lt Rw4.out.lt'
  obtain ⟨w5, hw5⟩ : ∃ v, w4.alloc (.cells #[.int .i64 0, .int .i64 0, .int .i64 0] 69) = v := ⟨_, rfl⟩
  have hb5 : Below w4.heap.size w4 w5 := by rw [← hw5]; exact up_alloc _ _
  have Qw5 : Hid (OpV w5 bQ (0, 0, 0)) := by rw [← hw5, ← hbQ]; exact opv_new _ _ _ _
  rw [hw5, hbQ]
  clear hw5
  have Rw5 := Lib.hid (Rw4.out.all hb5)
  have Uw5 : Hid (Below w.heap.size w w5) := up Uw4.out hb5
  have Pw5 := Lib.hid (Pw4.out.all hb5)
  have Hw5 := Lib.hid (Hw4.out.all hb5)
  clear Rw4 Uw4 Pw4 Hw4 hb5
  go_wp2_with fail
  refine (racc_any w5).mono ?_
  rintro e w6 ⟨rfl, hb6⟩
  have Rw6 := Lib.hid (Rw5.out.all hb6)
  have Uw6 : Hid (Below w.heap.size w w6) := up Uw5.out hb6
  have Pw6 := Lib.hid (Pw5.out.all hb6)
  have Hw6 := Lib.hid (Hw5.out.all hb6)
  have Qw6 := Lib.hid (Qw5.out.all hb6)
  clear Rw5 Uw5 Pw5 Hw5 Qw5 hb6
  simp only [trV]
  go_upto_region 23 with fail
  obtain ⟨bG, hbG⟩ : ∃ b, w6.heap.size = b := ⟨_, rfl⟩
  have NG : Hid (w.heap.size ≤ bG) := by rw [← hbG]; exact Uw6.out.size
  have DPG : Hid (bP ≠ bG) := by rw [← hbG]; exact Nat.ne_of_lt Pw6.out.lt
  have DHG : Hid (bH ≠ bG) := by rw [← hbG]; exact Nat.ne_of_lt Hw6.out.lt
  have DQG : Hid (bQ ≠ bG) := by rw [← hbG]; exact Nat.ne_of_lt Qw6.out.lt
  have DRG : Hid (n ≠ bG) := by rw [← hbG]; exact Nat.ne_of_lt Rw6.out.lt'
  obtain ⟨w7, hw7⟩ : ∃ v, w6.alloc (.cells #[.int .i64 1, .int .i64 7, .int .i64 0] 69) = v := ⟨_, rfl⟩
  have hb7 : Below w6.heap.size w6 w7 := by rw [← hw7]; exact up_alloc _ _
  have Gw7 : Hid (OpV w7 bG (1, 7, 0)) := by rw [← hw7, ← hbG]; exact opv_new _ _ _ _
  rw [hw7, hbG]
  clear hw7
  have Rw7 := Lib.hid (Rw6.out.all hb7)
  have Uw7 : Hid (Below w.heap.size w w7) := up Uw6.out hb7
  have Pw7 := Lib.hid (Pw6.out.all hb7)
  have Hw7 := Lib.hid (Hw6.out.all hb7)
  have Qw7 := Lib.hid (Qw6.out.all hb7)
  clear Rw6 Uw6 Pw6 Hw6 Qw6 hb7
  go_wp2_with fail
  refine (rmem_any w7).mono ?_
  rintro e w8 ⟨rfl, hb8⟩
  have Rw8 := Lib.hid (Rw7.out.all hb8)
  have Uw8 : Hid (Below w.heap.size w w8) := up Uw7.out hb8
  have Pw8 := Lib.hid (Pw7.out.all hb8)
  have Hw8 := Lib.hid (Hw7.out.all hb8)
  have Qw8 := Lib.hid (Qw7.out.all hb8)
  have Gw8 := Lib.hid (Gw7.out.all hb8)
  clear Rw7 Uw7 Pw7 Hw7 Qw7 Gw7 hb8
  simp only [trV]
  obtain ⟨qc0, qc1, qc2, qc3⟩ := Qw8.out.cells
  go_upto_region 25 with fail
  obtain ⟨w9, hw9, QZ, BZ, KZ⟩ := opv_put Qw8.out 7 0 0
  rw [hw9]
  clear hw9
  have Qw9 := Lib.hid QZ
  have Uw9 : Hid (Below w.heap.size w w9) := Uw8.out.trans (BZ.mono NQ.out)
  have Rw9 := Lib.hid (Rw8.out.other KZ DRQ.out)
  have Pw9 := Lib.hid (Pw8.out.other KZ DPQ.out)
  have Hw9 := Lib.hid (Hw8.out.other KZ DHQ.out)
  have Gw9 := Lib.hid (Gw8.out.other KZ DQG.out.symm)
  clear qc0 qc1 qc2 qc3 QZ BZ KZ Rw8 Uw8 Pw8 Hw8 Qw8 Gw8
  obtain ⟨hc0, hc1, hc2, hc3⟩ := Hw9.out.cells
  obtain ⟨gc0, gc1, gc2, gc3⟩ := Gw9.out.cells
  go_upto_region 30 with fail
  obtain ⟨w10, hw10, GZ, BZ, KZ⟩ := opv_put Gw9.out 3 2 0
  rw [hw10]
  clear hw10
  have Gw10 := Lib.hid GZ
  have Uw10 : Hid (Below w.heap.size w w10) := Uw9.out.trans (BZ.mono NG.out)
  have Rw10 := Lib.hid (Rw9.out.other KZ DRG.out)
  have Pw10 := Lib.hid (Pw9.out.other KZ DPG.out)
  have Hw10 := Lib.hid (Hw9.out.other KZ DHG.out)
  have Qw10 := Lib.hid (Qw9.out.other KZ DQG.out)
  clear gc0 gc1 gc2 gc3 GZ BZ KZ Rw9 Uw9 Pw9 Hw9 Qw9 Gw9
  clear hc0 hc1 hc2 hc3
  obtain ⟨qc0, qc1, qc2, qc3⟩ := Qw10.out.cells
  obtain ⟨gc0, gc1, gc2, gc3⟩ := Gw10.out.cells
  go_wp2_with fail
  refine (rtwo_any (7, 0, 0) (3, 2, 0) w10).mono ?_
  rintro e w11 ⟨v, rfl, hO, hb11⟩
  obtain ⟨A, cap, rfl, -, -⟩ := hO.ops
  have Ow11 : Hid (OwnT w11 w.heap.size (.slice A 2 cap) [(7, 0, 0), (3, 2, 0)]) := hO.lift Uw10.out.size
  clear hO
  have Rw11 := Lib.hid (Rw10.out.all hb11)
  have Uw11 : Hid (Below w.heap.size w w11) := up Uw10.out hb11
  have Pw11 := Lib.hid (Pw10.out.all hb11)
  have Hw11 := Lib.hid (Hw10.out.all hb11)
  have Qw11 := Lib.hid (Qw10.out.all hb11)
  have Gw11 := Lib.hid (Gw10.out.all hb11)
  clear Rw10 Uw10 Pw10 Hw10 Qw10 Gw10 hb11
  go_wp2_with fail
  refine (rins_any ⟨#[76, 68]⟩ A 2 cap w11).mono ?_
  rintro e w12 ⟨rfl, hb12⟩
  have Rw12 := Lib.hid (Rw11.out.all hb12)
  have Uw12 : Hid (Below w.heap.size w w12) := up Uw11.out hb12
  have Pw12 := Lib.hid (Pw11.out.all hb12)
  have Hw12 := Lib.hid (Hw11.out.all hb12)
  have Qw12 := Lib.hid (Qw11.out.all hb12)
  have Gw12 := Lib.hid (Gw11.out.all hb12)
  have Ow12 := Lib.hid (Ow11.out.below hb12)
  clear Rw11 Uw11 Pw11 Hw11 Qw11 Gw11 Ow11 hb12
  obtain ⟨z0, z1, z2, z3⟩ := Rw12.out.cells
  go_wp2
  obtain ⟨wz, hwz, q1, q2, q3⟩ := ri_put Rw12.out ⟨#[76, 68]⟩ (.slice A 2 cap)
  rw [hwz]
  obtain ⟨s0, s1⟩ := q1.cells
  refine bodyPost_ret (v := .tuple #[.agg #[.string ⟨#[76, 68]⟩, (.slice A 2 cap)], .string ⟨#[119]⟩]) ?_ rfl ?_
  · simp [results, Tryz.results55, go_sem, s0, s1]
  · exact ⟨_, rfl, own_put Rw12.out Ow12.out q3, Uw12.out.trans (q2.mono (by rw [HN.out]; omega))⟩
theorem low_2_5 (w : World) : Calls Tryz.prog 55 #[.int .i64 5, .int .i64 2] w (RetI w [76, 68] [(3, 2, 0), (7, 0, 0)] [119]) := by
  obtain ⟨w0, hw0, rz0, bl0⟩ := ri_start w
  obtain ⟨n, hn⟩ : ∃ n, w.heap.size = n := ⟨_, rfl⟩
  have Rw0 : Hid (Rz w0 n) := by rw [← hn]; exact rz0
  have Uw0 : Hid (Below w.heap.size w w0) := bl0
  have HN := Lib.hid hn
  clear rz0 bl0
  go_enter Tryz.func55, Tryz.ntmps55
  obtain ⟨⟨p0, p1, p2⟩, hp⟩ : ∃ x : Tr, rpT (2) 3 = x := ⟨_, rfl⟩
  have HP := Lib.hid hp
  have hrp := rrp_any (2) 3 w0
  rw [hp] at hrp
  clear hp
  go_wp2_with fail
  refine hrp.mono ?_
  rintro e w1 ⟨rfl, hb1⟩
  have Rw1 := Lib.hid (Rw0.out.all hb1)
  have Uw1 : Hid (Below w.heap.size w w1) := up Uw0.out hb1
  clear Rw0 Uw0 hb1
  clear hrp hw0
  simp only [trV]
  go_upto_region 2 with fail
  obtain ⟨bP, hbP⟩ : ∃ b, w1.heap.size = b := ⟨_, rfl⟩
  obtain ⟨w2, hw2⟩ : ∃ v, w1.alloc (.cells #[.int .i64 p0, .int .i64 p1, .int .i64 p2] 69) = v := ⟨_, rfl⟩
  have hb2 : Below w1.heap.size w1 w2 := by rw [← hw2]; exact up_alloc _ _
  have Pw2 : Hid (OpV w2 bP (p0, p1, p2)) := by rw [← hw2, ← hbP]; exact opv_new _ _ _ _
  rw [hw2, hbP]
  clear hw2
  have Rw2 := Lib.hid (Rw1.out.all hb2)
  have Uw2 : Hid (Below w.heap.size w w2) := up Uw1.out hb2
  clear Rw1 Uw1 hb2
  go_wp2_with fail
  refine (rrp_any 2 3 w2).mono ?_
  rintro e w3 ⟨rfl, hb3⟩
  have Rw3 := Lib.hid (Rw2.out.all hb3)
  have Uw3 : Hid (Below w.heap.size w w3) := up Uw2.out hb3
  have Pw3 := Lib.hid (Pw2.out.all hb3)
  clear Rw2 Uw2 Pw2 hb3
  simp only [trV]
  simp only [rpT, show ¬ ((2 : Int) = 3) by decide, if_false]
  go_upto_region 4 with fail
  obtain ⟨bH, hbH⟩ : ∃ b, w3.heap.size = b := ⟨_, rfl⟩
  obtain ⟨w4, hw4⟩ : ∃ v, w3.alloc (.cells #[.int .i64 3, .int .i64 2, .int .i64 0] 69) = v := ⟨_, rfl⟩
  have hb4 : Below w3.heap.size w3 w4 := by rw [← hw4]; exact up_alloc _ _
  have Hw4 : Hid (OpV w4 bH (3, 2, 0)) := by rw [← hw4, ← hbH]; exact opv_new _ _ _ _
  rw [hw4, hbH]
  clear hw4
  have Rw4 := Lib.hid (Rw3.out.all hb4)
  have Uw4 : Hid (Below w.heap.size w w4) := up Uw3.out hb4
  have Pw4 := Lib.hid (Pw3.out.all hb4)
  clear Rw3 Uw3 Pw3 hb4
  go_upto_region 22 with fail
  obtain ⟨bQ, hbQ⟩ : ∃ b, w4.heap.size = b := ⟨_, rfl⟩
  have NQ : Hid (w.heap.size ≤ bQ) := by rw [← hbQ]; exact Uw4.out.size
  have DPQ : Hid (bP ≠ bQ) := by rw [← hbQ]; exact Nat.ne_of_lt Pw4.out.lt
  have DHQ : Hid (bH ≠ bQ) := by rw [← hbQ]; exact Nat.ne_of_lt Hw4.out.lt
  have DRQ : Hid (n ≠ bQ) := by rw [← hbQ]; exact Nat.ne_of_lt Rw4.out.lt'
  obtain ⟨w5, hw5⟩ : ∃ v, w4.alloc (.cells #[.int .i64 0, .int .i64 0, .int .i64 0] 69) = v := ⟨_, rfl⟩
  have hb5 : Below w4.heap.size w4 w5 := by rw [← hw5]; exact up_alloc _ _
  have Qw5 : Hid (OpV w5 bQ (0, 0, 0)) := by rw [← hw5, ← hbQ]; exact opv_new _ _ _ _
  rw [hw5, hbQ]
  clear hw5
  have Rw5 := Lib.hid (Rw4.out.all hb5)
  have Uw5 : Hid (Below w.heap.size w w5) := up Uw4.out hb5
  have Pw5 := Lib.hid (Pw4.out.all hb5)
  have Hw5 := Lib.hid (Hw4.out.all hb5)
  clear Rw4 Uw4 Pw4 Hw4 hb5
  go_wp2_with fail
  refine (racc_any w5).mono ?_
  rintro e w6 ⟨rfl, hb6⟩
  have Rw6 := Lib.hid (Rw5.out.all hb6)
  have Uw6 : Hid (Below w.heap.size w w6) := up Uw5.out hb6
  have Pw6 := Lib.hid (Pw5.out.all hb6)
  have Hw6 := Lib.hid (Hw5.out.all hb6)
  have Qw6 := Lib.hid (Qw5.out.all hb6)
  clear Rw5 Uw5 Pw5 Hw5 Qw5 hb6
  simp only [trV]
  go_upto_region 23 with fail
  obtain ⟨bG, hbG⟩ : ∃ b, w6.heap.size = b := ⟨_, rfl⟩
  have NG : Hid (w.heap.size ≤ bG) := by rw [← hbG]; exact Uw6.out.size
  have DPG : Hid (bP ≠ bG) := by rw [← hbG]; exact Nat.ne_of_lt Pw6.out.lt
  have DHG : Hid (bH ≠ bG) := by rw [← hbG]; exact Nat.ne_of_lt Hw6.out.lt
  have DQG : Hid (bQ ≠ bG) := by rw [← hbG]; exact Nat.ne_of_lt Qw6.out.lt
  have DRG : Hid (n ≠ bG) := by rw [← hbG]; exact Nat.ne_of_lt Rw6.out.lt'
  obtain ⟨w7, hw7⟩ : ∃ v, w6.alloc (.cells #[.int .i64 1, .int .i64 7, .int .i64 0] 69) = v := ⟨_, rfl⟩
  have hb7 : Below w6.heap.size w6 w7 := by rw [← hw7]; exact up_alloc _ _
  have Gw7 : Hid (OpV w7 bG (1, 7, 0)) := by rw [← hw7, ← hbG]; exact opv_new _ _ _ _
  rw [hw7, hbG]
  clear hw7
  have Rw7 := Lib.hid (Rw6.out.all hb7)
  have Uw7 : Hid (Below w.heap.size w w7) := up Uw6.out hb7
  have Pw7 := Lib.hid (Pw6.out.all hb7)
  have Hw7 := Lib.hid (Hw6.out.all hb7)
  have Qw7 := Lib.hid (Qw6.out.all hb7)
  clear Rw6 Uw6 Pw6 Hw6 Qw6 hb7
  go_wp2_with fail
  refine (rmem_any w7).mono ?_
  rintro e w8 ⟨rfl, hb8⟩
  have Rw8 := Lib.hid (Rw7.out.all hb8)
  have Uw8 : Hid (Below w.heap.size w w8) := up Uw7.out hb8
  have Pw8 := Lib.hid (Pw7.out.all hb8)
  have Hw8 := Lib.hid (Hw7.out.all hb8)
  have Qw8 := Lib.hid (Qw7.out.all hb8)
  have Gw8 := Lib.hid (Gw7.out.all hb8)
  clear Rw7 Uw7 Pw7 Hw7 Qw7 Gw7 hb8
  simp only [trV]
  obtain ⟨qc0, qc1, qc2, qc3⟩ := Qw8.out.cells
  go_upto_region 25 with fail
  obtain ⟨w9, hw9, QZ, BZ, KZ⟩ := opv_put Qw8.out 7 0 0
  rw [hw9]
  clear hw9
  have Qw9 := Lib.hid QZ
  have Uw9 : Hid (Below w.heap.size w w9) := Uw8.out.trans (BZ.mono NQ.out)
  have Rw9 := Lib.hid (Rw8.out.other KZ DRQ.out)
  have Pw9 := Lib.hid (Pw8.out.other KZ DPQ.out)
  have Hw9 := Lib.hid (Hw8.out.other KZ DHQ.out)
  have Gw9 := Lib.hid (Gw8.out.other KZ DQG.out.symm)
  clear qc0 qc1 qc2 qc3 QZ BZ KZ Rw8 Uw8 Pw8 Hw8 Qw8 Gw8
  obtain ⟨hc0, hc1, hc2, hc3⟩ := Hw9.out.cells
  obtain ⟨gc0, gc1, gc2, gc3⟩ := Gw9.out.cells
  go_upto_region 30 with fail
  obtain ⟨w10, hw10, GZ, BZ, KZ⟩ := opv_put Gw9.out 3 2 0
  rw [hw10]
  clear hw10
  have Gw10 := Lib.hid GZ
  have Uw10 : Hid (Below w.heap.size w w10) := Uw9.out.trans (BZ.mono NG.out)
  have Rw10 := Lib.hid (Rw9.out.other KZ DRG.out)
  have Pw10 := Lib.hid (Pw9.out.other KZ DPG.out)
  have Hw10 := Lib.hid (Hw9.out.other KZ DHG.out)
  have Qw10 := Lib.hid (Qw9.out.other KZ DQG.out)
  clear gc0 gc1 gc2 gc3 GZ BZ KZ Rw9 Uw9 Pw9 Hw9 Qw9 Gw9
  clear hc0 hc1 hc2 hc3
  obtain ⟨qc0, qc1, qc2, qc3⟩ := Qw10.out.cells
  obtain ⟨gc0, gc1, gc2, gc3⟩ := Gw10.out.cells
  go_wp2_with fail
  refine (rtwo_any (3, 2, 0) (7, 0, 0) w10).mono ?_
  rintro e w11 ⟨v, rfl, hO, hb11⟩
  obtain ⟨A, cap, rfl, -, -⟩ := hO.ops
  have Ow11 : Hid (OwnT w11 w.heap.size (.slice A 2 cap) [(3, 2, 0), (7, 0, 0)]) := hO.lift Uw10.out.size
  clear hO
  have Rw11 := Lib.hid (Rw10.out.all hb11)
  have Uw11 : Hid (Below w.heap.size w w11) := up Uw10.out hb11
  have Pw11 := Lib.hid (Pw10.out.all hb11)
  have Hw11 := Lib.hid (Hw10.out.all hb11)
  have Qw11 := Lib.hid (Qw10.out.all hb11)
  have Gw11 := Lib.hid (Gw10.out.all hb11)
  clear Rw10 Uw10 Pw10 Hw10 Qw10 Gw10 hb11
  go_wp2_with fail
  refine (rins_any ⟨#[76, 68]⟩ A 2 cap w11).mono ?_
  rintro e w12 ⟨rfl, hb12⟩
  have Rw12 := Lib.hid (Rw11.out.all hb12)
  have Uw12 : Hid (Below w.heap.size w w12) := up Uw11.out hb12
  have Pw12 := Lib.hid (Pw11.out.all hb12)
  have Hw12 := Lib.hid (Hw11.out.all hb12)
  have Qw12 := Lib.hid (Qw11.out.all hb12)
  have Gw12 := Lib.hid (Gw11.out.all hb12)
  have Ow12 := Lib.hid (Ow11.out.below hb12)
  clear Rw11 Uw11 Pw11 Hw11 Qw11 Gw11 Ow11 hb12
  obtain ⟨z0, z1, z2, z3⟩ := Rw12.out.cells
  go_wp2
  obtain ⟨wz, hwz, q1, q2, q3⟩ := ri_put Rw12.out ⟨#[76, 68]⟩ (.slice A 2 cap)
  rw [hwz]
  obtain ⟨s0, s1⟩ := q1.cells
  refine bodyPost_ret (v := .tuple #[.agg #[.string ⟨#[76, 68]⟩, (.slice A 2 cap)], .string ⟨#[119]⟩]) ?_ rfl ?_
  · simp [results, Tryz.results55, go_sem, s0, s1]
  · exact ⟨_, rfl, own_put Rw12.out Ow12.out q3, Uw12.out.trans (q2.mono (by rw [HN.out]; omega))⟩
theorem low_2_6 (w : World) : Calls Tryz.prog 55 #[.int .i64 6, .int .i64 2] w (RetI w [76, 68] [(7, 0, 0), (1, 7, 0)] [119]) := by
  obtain ⟨w0, hw0, rz0, bl0⟩ := ri_start w
  obtain ⟨n, hn⟩ : ∃ n, w.heap.size = n := ⟨_, rfl⟩
  have Rw0 : Hid (Rz w0 n) := by rw [← hn]; exact rz0
  have Uw0 : Hid (Below w.heap.size w w0) := bl0
  have HN := Lib.hid hn
  clear rz0 bl0
  go_enter Tryz.func55, Tryz.ntmps55
  obtain ⟨⟨p0, p1, p2⟩, hp⟩ : ∃ x : Tr, rpT (3) 3 = x := ⟨_, rfl⟩
  have HP := Lib.hid hp
  have hrp := rrp_any (3) 3 w0
  rw [hp] at hrp
  clear hp
  go_wp2_with fail
  refine hrp.mono ?_
  rintro e w1 ⟨rfl, hb1⟩
  have Rw1 := Lib.hid (Rw0.out.all hb1)
  have Uw1 : Hid (Below w.heap.size w w1) := up Uw0.out hb1
  clear Rw0 Uw0 hb1
  clear hrp hw0
  simp only [trV]
  go_upto_region 2 with fail
  obtain ⟨bP, hbP⟩ : ∃ b, w1.heap.size = b := ⟨_, rfl⟩
  obtain ⟨w2, hw2⟩ : ∃ v, w1.alloc (.cells #[.int .i64 p0, .int .i64 p1, .int .i64 p2] 69) = v := ⟨_, rfl⟩
  have hb2 : Below w1.heap.size w1 w2 := by rw [← hw2]; exact up_alloc _ _
  have Pw2 : Hid (OpV w2 bP (p0, p1, p2)) := by rw [← hw2, ← hbP]; exact opv_new _ _ _ _
  rw [hw2, hbP]
  clear hw2
  have Rw2 := Lib.hid (Rw1.out.all hb2)
  have Uw2 : Hid (Below w.heap.size w w2) := up Uw1.out hb2
  clear Rw1 Uw1 hb2
  go_wp2_with fail
  refine (rrp_any 2 3 w2).mono ?_
  rintro e w3 ⟨rfl, hb3⟩
  have Rw3 := Lib.hid (Rw2.out.all hb3)
  have Uw3 : Hid (Below w.heap.size w w3) := up Uw2.out hb3
  have Pw3 := Lib.hid (Pw2.out.all hb3)
  clear Rw2 Uw2 Pw2 hb3
  simp only [trV]
  simp only [rpT, show ¬ ((2 : Int) = 3) by decide, if_false]
  go_upto_region 4 with fail
  obtain ⟨bH, hbH⟩ : ∃ b, w3.heap.size = b := ⟨_, rfl⟩
  obtain ⟨w4, hw4⟩ : ∃ v, w3.alloc (.cells #[.int .i64 3, .int .i64 2, .int .i64 0] 69) = v := ⟨_, rfl⟩
  have hb4 : Below w3.heap.size w3 w4 := by rw [← hw4]; exact up_alloc _ _
  have Hw4 : Hid (OpV w4 bH (3, 2, 0)) := by rw [← hw4, ← hbH]; exact opv_new _ _ _ _
  rw [hw4, hbH]
  clear hw4
  have Rw4 := Lib.hid (Rw3.out.all hb4)
  have Uw4 : Hid (Below w.heap.size w w4) := up Uw3.out hb4
  have Pw4 := Lib.hid (Pw3.out.all hb4)
  clear Rw3 Uw3 Pw3 hb4
  go_upto_region 22 with fail
  obtain ⟨bQ, hbQ⟩ : ∃ b, w4.heap.size = b := ⟨_, rfl⟩
  have NQ : Hid (w.heap.size ≤ bQ) := by rw [← hbQ]; exact Uw4.out.size
  have DPQ : Hid (bP ≠ bQ) := by rw [← hbQ]; exact Nat.ne_of_lt Pw4.out.lt
  have DHQ : Hid (bH ≠ bQ) := by rw [← hbQ]; exact Nat.ne_of_lt Hw4.out.lt
  have DRQ : Hid (n ≠ bQ) := by rw [← hbQ]; exact Nat.ne_of_lt Rw4.out.lt'
  obtain ⟨w5, hw5⟩ : ∃ v, w4.alloc (.cells #[.int .i64 0, .int .i64 0, .int .i64 0] 69) = v := ⟨_, rfl⟩
  have hb5 : Below w4.heap.size w4 w5 := by rw [← hw5]; exact up_alloc _ _
  have Qw5 : Hid (OpV w5 bQ (0, 0, 0)) := by rw [← hw5, ← hbQ]; exact opv_new _ _ _ _
  rw [hw5, hbQ]
  clear hw5
  have Rw5 := Lib.hid (Rw4.out.all hb5)
  have Uw5 : Hid (Below w.heap.size w w5) := up Uw4.out hb5
  have Pw5 := Lib.hid (Pw4.out.all hb5)
  have Hw5 := Lib.hid (Hw4.out.all hb5)
  clear Rw4 Uw4 Pw4 Hw4 hb5
  go_wp2_with fail
  refine (racc_any w5).mono ?_
  rintro e w6 ⟨rfl, hb6⟩
  have Rw6 := Lib.hid (Rw5.out.all hb6)
  have Uw6 : Hid (Below w.heap.size w w6) := up Uw5.out hb6
  have Pw6 := Lib.hid (Pw5.out.all hb6)
  have Hw6 := Lib.hid (Hw5.out.all hb6)
  have Qw6 := Lib.hid (Qw5.out.all hb6)
  clear Rw5 Uw5 Pw5 Hw5 Qw5 hb6
  simp only [trV]
  go_upto_region 23 with fail
  obtain ⟨bG, hbG⟩ : ∃ b, w6.heap.size = b := ⟨_, rfl⟩
  have NG : Hid (w.heap.size ≤ bG) := by rw [← hbG]; exact Uw6.out.size
  have DPG : Hid (bP ≠ bG) := by rw [← hbG]; exact Nat.ne_of_lt Pw6.out.lt
  have DHG : Hid (bH ≠ bG) := by rw [← hbG]; exact Nat.ne_of_lt Hw6.out.lt
  have DQG : Hid (bQ ≠ bG) := by rw [← hbG]; exact Nat.ne_of_lt Qw6.out.lt
  have DRG : Hid (n ≠ bG) := by rw [← hbG]; exact Nat.ne_of_lt Rw6.out.lt'
  obtain ⟨w7, hw7⟩ : ∃ v, w6.alloc (.cells #[.int .i64 1, .int .i64 7, .int .i64 0] 69) = v := ⟨_, rfl⟩
  have hb7 : Below w6.heap.size w6 w7 := by rw [← hw7]; exact up_alloc _ _
  have Gw7 : Hid (OpV w7 bG (1, 7, 0)) := by rw [← hw7, ← hbG]; exact opv_new _ _ _ _
  rw [hw7, hbG]
  clear hw7
  have Rw7 := Lib.hid (Rw6.out.all hb7)
  have Uw7 : Hid (Below w.heap.size w w7) := up Uw6.out hb7
  have Pw7 := Lib.hid (Pw6.out.all hb7)
  have Hw7 := Lib.hid (Hw6.out.all hb7)
  have Qw7 := Lib.hid (Qw6.out.all hb7)
  clear Rw6 Uw6 Pw6 Hw6 Qw6 hb7
  go_wp2_with fail
  refine (rmem_any w7).mono ?_
  rintro e w8 ⟨rfl, hb8⟩
  have Rw8 := Lib.hid (Rw7.out.all hb8)
  have Uw8 : Hid (Below w.heap.size w w8) := up Uw7.out hb8
  have Pw8 := Lib.hid (Pw7.out.all hb8)
  have Hw8 := Lib.hid (Hw7.out.all hb8)
  have Qw8 := Lib.hid (Qw7.out.all hb8)
  have Gw8 := Lib.hid (Gw7.out.all hb8)
  clear Rw7 Uw7 Pw7 Hw7 Qw7 Gw7 hb8
  simp only [trV]
  obtain ⟨qc0, qc1, qc2, qc3⟩ := Qw8.out.cells
  go_upto_region 25 with fail
  obtain ⟨w9, hw9, QZ, BZ, KZ⟩ := opv_put Qw8.out 7 0 0
  rw [hw9]
  clear hw9
  have Qw9 := Lib.hid QZ
  have Uw9 : Hid (Below w.heap.size w w9) := Uw8.out.trans (BZ.mono NQ.out)
  have Rw9 := Lib.hid (Rw8.out.other KZ DRQ.out)
  have Pw9 := Lib.hid (Pw8.out.other KZ DPQ.out)
  have Hw9 := Lib.hid (Hw8.out.other KZ DHQ.out)
  have Gw9 := Lib.hid (Gw8.out.other KZ DQG.out.symm)
  clear qc0 qc1 qc2 qc3 QZ BZ KZ Rw8 Uw8 Pw8 Hw8 Qw8 Gw8
  obtain ⟨qc0, qc1, qc2, qc3⟩ := Qw9.out.cells
  obtain ⟨gc0, gc1, gc2, gc3⟩ := Gw9.out.cells
  go_wp2_with fail
  refine (rtwo_any (7, 0, 0) (1, 7, 0) w9).mono ?_
  rintro e w10 ⟨v, rfl, hO, hb10⟩
  obtain ⟨A, cap, rfl, -, -⟩ := hO.ops
  have Ow10 : Hid (OwnT w10 w.heap.size (.slice A 2 cap) [(7, 0, 0), (1, 7, 0)]) := hO.lift Uw9.out.size
  clear hO
  have Rw10 := Lib.hid (Rw9.out.all hb10)
  have Uw10 : Hid (Below w.heap.size w w10) := up Uw9.out hb10
  have Pw10 := Lib.hid (Pw9.out.all hb10)
  have Hw10 := Lib.hid (Hw9.out.all hb10)
  have Qw10 := Lib.hid (Qw9.out.all hb10)
  have Gw10 := Lib.hid (Gw9.out.all hb10)
  clear Rw9 Uw9 Pw9 Hw9 Qw9 Gw9 hb10
  go_wp2_with fail
  refine (rins_any ⟨#[76, 68]⟩ A 2 cap w10).mono ?_
  rintro e w11 ⟨rfl, hb11⟩
  have Rw11 := Lib.hid (Rw10.out.all hb11)
  have Uw11 : Hid (Below w.heap.size w w11) := up Uw10.out hb11
  have Pw11 := Lib.hid (Pw10.out.all hb11)
  have Hw11 := Lib.hid (Hw10.out.all hb11)
  have Qw11 := Lib.hid (Qw10.out.all hb11)
  have Gw11 := Lib.hid (Gw10.out.all hb11)
  have Ow11 := Lib.hid (Ow10.out.below hb11)
  clear Rw10 Uw10 Pw10 Hw10 Qw10 Gw10 Ow10 hb11
  obtain ⟨z0, z1, z2, z3⟩ := Rw11.out.cells
  go_wp2
  obtain ⟨wz, hwz, q1, q2, q3⟩ := ri_put Rw11.out ⟨#[76, 68]⟩ (.slice A 2 cap)
  rw [hwz]
  obtain ⟨s0, s1⟩ := q1.cells
  refine bodyPost_ret (v := .tuple #[.agg #[.string ⟨#[76, 68]⟩, (.slice A 2 cap)], .string ⟨#[119]⟩]) ?_ rfl ?_
  · simp [results, Tryz.results55, go_sem, s0, s1]
  · exact ⟨_, rfl, own_put Rw11.out Ow11.out q3, Uw11.out.trans (q2.mono (by rw [HN.out]; omega))⟩
theorem low_2_7 (w : World) : Calls Tryz.prog 55 #[.int .i64 7, .int .i64 2] w (RetI w [76, 68] [(1, 7, 0), (7, 0, 0)] [119]) := by
  obtain ⟨w0, hw0, rz0, bl0⟩ := ri_start w
  obtain ⟨n, hn⟩ : ∃ n, w.heap.size = n := ⟨_, rfl⟩
  have Rw0 : Hid (Rz w0 n) := by rw [← hn]; exact rz0
  have Uw0 : Hid (Below w.heap.size w w0) := bl0
  have HN := Lib.hid hn
  clear rz0 bl0
  go_enter Tryz.func55, Tryz.ntmps55
  obtain ⟨⟨p0, p1, p2⟩, hp⟩ : ∃ x : Tr, rpT (3) 3 = x := ⟨_, rfl⟩
  have HP := Lib.hid hp
  have hrp := rrp_any (3) 3 w0
  rw [hp] at hrp
  clear hp
  go_wp2_with fail
  refine hrp.mono ?_
  rintro e w1 ⟨rfl, hb1⟩
  have Rw1 := Lib.hid (Rw0.out.all hb1)
  have Uw1 : Hid (Below w.heap.size w w1) := up Uw0.out hb1
  clear Rw0 Uw0 hb1
  clear hrp hw0
  simp only [trV]
  go_upto_region 2 with fail
  obtain ⟨bP, hbP⟩ : ∃ b, w1.heap.size = b := ⟨_, rfl⟩
  obtain ⟨w2, hw2⟩ : ∃ v, w1.alloc (.cells #[.int .i64 p0, .int .i64 p1, .int .i64 p2] 69) = v := ⟨_, rfl⟩
  have hb2 : Below w1.heap.size w1 w2 := by rw [← hw2]; exact up_alloc _ _
  have Pw2 : Hid (OpV w2 bP (p0, p1, p2)) := by rw [← hw2, ← hbP]; exact opv_new _ _ _ _
  rw [hw2, hbP]
  clear hw2
  have Rw2 := Lib.hid (Rw1.out.all hb2)
  have Uw2 : Hid (Below w.heap.size w w2) := up Uw1.out hb2
  clear Rw1 Uw1 hb2
  go_wp2_with fail
  refine (rrp_any 2 3 w2).mono ?_
  rintro e w3 ⟨rfl, hb3⟩
  have Rw3 := Lib.hid (Rw2.out.all hb3)
  have Uw3 : Hid (Below w.heap.size w w3) := up Uw2.out hb3
  have Pw3 := Lib.hid (Pw2.out.all hb3)
  clear Rw2 Uw2 Pw2 hb3
  simp only [trV]
  simp only [rpT, show ¬ ((2 : Int) = 3) by decide, if_false]
  go_upto_region 4 with fail
  obtain ⟨bH, hbH⟩ : ∃ b, w3.heap.size = b := ⟨_, rfl⟩
  obtain ⟨w4, hw4⟩ : ∃ v, w3.alloc (.cells #[.int .i64 3, .int .i64 2, .int .i64 0] 69) = v := ⟨_, rfl⟩
  have hb4 : Below w3.heap.size w3 w4 := by rw [← hw4]; exact up_alloc _ _
  have Hw4 : Hid (OpV w4 bH (3, 2, 0)) := by rw [← hw4, ← hbH]; exact opv_new _ _ _ _
  rw [hw4, hbH]
  clear hw4
  have Rw4 := Lib.hid (Rw3.out.all hb4)
  have Uw4 : Hid (Below w.heap.size w w4) := up Uw3.out hb4
  have Pw4 := Lib.hid (Pw3.out.all hb4)
  clear Rw3 Uw3 Pw3 hb4
  go_upto_region 22 with fail
  obtain ⟨bQ, hbQ⟩ : ∃ b, w4.heap.size = b := ⟨_, rfl⟩
  have NQ : Hid (w.heap.size ≤ bQ) := by rw [← hbQ]; exact Uw4.out.size
  have DPQ : Hid (bP ≠ bQ) := by rw [← hbQ]; exact Nat.ne_of_lt Pw4.out.lt
  have DHQ : Hid (bH ≠ bQ) := by rw [← hbQ]; exact Nat.ne_of_lt Hw4.out.lt
  have DRQ : Hid (n ≠ bQ) := by rw [← hbQ]; exact Nat.ne_of_lt Rw4.out.lt'
  obtain ⟨w5, hw5⟩ : ∃ v, w4.alloc (.cells #[.int .i64 0, .int .i64 0, .int .i64 0] 69) = v := ⟨_, rfl⟩
  have hb5 : Below w4.heap.size w4 w5 := by rw [← hw5]; exact up_alloc _ _
  have Qw5 : Hid (OpV w5 bQ (0, 0, 0)) := by rw [← hw5, ← hbQ]; exact opv_new _ _ _ _
  rw [hw5, hbQ]
  clear hw5
  have Rw5 := Lib.hid (Rw4.out.all hb5)
  have Uw5 : Hid (Below w.heap.size w w5) := up Uw4.out hb5
  have Pw5 := Lib.hid (Pw4.out.all hb5)
  have Hw5 := Lib.hid (Hw4.out.all hb5)
  clear Rw4 Uw4 Pw4 Hw4 hb5
  go_wp2_with fail
  refine (racc_any w5).mono ?_
  rintro e w6 ⟨rfl, hb6⟩
  have Rw6 := Lib.hid (Rw5.out.all hb6)
  have Uw6 : Hid (Below w.heap.size w w6) := up Uw5.out hb6
  have Pw6 := Lib.hid (Pw5.out.all hb6)
  have Hw6 := Lib.hid (Hw5.out.all hb6)
  have Qw6 := Lib.hid (Qw5.out.all hb6)
  clear Rw5 Uw5 Pw5 Hw5 Qw5 hb6
  simp only [trV]
  go_upto_region 23 with fail
  obtain ⟨bG, hbG⟩ : ∃ b, w6.heap.size = b := ⟨_, rfl⟩
  have NG : Hid (w.heap.size ≤ bG) := by rw [← hbG]; exact Uw6.out.size
  have DPG : Hid (bP ≠ bG) := by rw [← hbG]; exact Nat.ne_of_lt Pw6.out.lt
  have DHG : Hid (bH ≠ bG) := by rw [← hbG]; exact Nat.ne_of_lt Hw6.out.lt
  have DQG : Hid (bQ ≠ bG) := by rw [← hbG]; exact Nat.ne_of_lt Qw6.out.lt
  have DRG : Hid (n ≠ bG) := by rw [← hbG]; exact Nat.ne_of_lt Rw6.out.lt'
  obtain ⟨w7, hw7⟩ : ∃ v, w6.alloc (.cells #[.int .i64 1, .int .i64 7, .int .i64 0] 69) = v := ⟨_, rfl⟩
  have hb7 : Below w6.heap.size w6 w7 := by rw [← hw7]; exact up_alloc _ _
  have Gw7 : Hid (OpV w7 bG (1, 7, 0)) := by rw [← hw7, ← hbG]; exact opv_new _ _ _ _
  rw [hw7, hbG]
  clear hw7
  have Rw7 := Lib.hid (Rw6.out.all hb7)
  have Uw7 : Hid (Below w.heap.size w w7) := up Uw6.out hb7
  have Pw7 := Lib.hid (Pw6.out.all hb7)
  have Hw7 := Lib.hid (Hw6.out.all hb7)
  have Qw7 := Lib.hid (Qw6.out.all hb7)
  clear Rw6 Uw6 Pw6 Hw6 Qw6 hb7
  go_wp2_with fail
  refine (rmem_any w7).mono ?_
  rintro e w8 ⟨rfl, hb8⟩
  have Rw8 := Lib.hid (Rw7.out.all hb8)
  have Uw8 : Hid (Below w.heap.size w w8) := up Uw7.out hb8
  have Pw8 := Lib.hid (Pw7.out.all hb8)
  have Hw8 := Lib.hid (Hw7.out.all hb8)
  have Qw8 := Lib.hid (Qw7.out.all hb8)
  have Gw8 := Lib.hid (Gw7.out.all hb8)
  clear Rw7 Uw7 Pw7 Hw7 Qw7 Gw7 hb8
  simp only [trV]
  obtain ⟨qc0, qc1, qc2, qc3⟩ := Qw8.out.cells
  go_upto_region 25 with fail
  obtain ⟨w9, hw9, QZ, BZ, KZ⟩ := opv_put Qw8.out 7 0 0
  rw [hw9]
  clear hw9
  have Qw9 := Lib.hid QZ
  have Uw9 : Hid (Below w.heap.size w w9) := Uw8.out.trans (BZ.mono NQ.out)
  have Rw9 := Lib.hid (Rw8.out.other KZ DRQ.out)
  have Pw9 := Lib.hid (Pw8.out.other KZ DPQ.out)
  have Hw9 := Lib.hid (Hw8.out.other KZ DHQ.out)
  have Gw9 := Lib.hid (Gw8.out.other KZ DQG.out.symm)
  clear qc0 qc1 qc2 qc3 QZ BZ KZ Rw8 Uw8 Pw8 Hw8 Qw8 Gw8
  obtain ⟨qc0, qc1, qc2, qc3⟩ := Qw9.out.cells
  obtain ⟨gc0, gc1, gc2, gc3⟩ := Gw9.out.cells
  go_wp2_with fail
  refine (rtwo_any (1, 7, 0) (7, 0, 0) w9).mono ?_
  rintro e w10 ⟨v, rfl, hO, hb10⟩
  obtain ⟨A, cap, rfl, -, -⟩ := hO.ops
  have Ow10 : Hid (OwnT w10 w.heap.size (.slice A 2 cap) [(1, 7, 0), (7, 0, 0)]) := hO.lift Uw9.out.size
  clear hO
  have Rw10 := Lib.hid (Rw9.out.all hb10)
  have Uw10 : Hid (Below w.heap.size w w10) := up Uw9.out hb10
  have Pw10 := Lib.hid (Pw9.out.all hb10)
  have Hw10 := Lib.hid (Hw9.out.all hb10)
  have Qw10 := Lib.hid (Qw9.out.all hb10)
  have Gw10 := Lib.hid (Gw9.out.all hb10)
  clear Rw9 Uw9 Pw9 Hw9 Qw9 Gw9 hb10
  go_wp2_with fail
  refine (rins_any ⟨#[76, 68]⟩ A 2 cap w10).mono ?_
  rintro e w11 ⟨rfl, hb11⟩
  have Rw11 := Lib.hid (Rw10.out.all hb11)
  have Uw11 : Hid (Below w.heap.size w w11) := up Uw10.out hb11
  have Pw11 := Lib.hid (Pw10.out.all hb11)
  have Hw11 := Lib.hid (Hw10.out.all hb11)
  have Qw11 := Lib.hid (Qw10.out.all hb11)
  have Gw11 := Lib.hid (Gw10.out.all hb11)
  have Ow11 := Lib.hid (Ow10.out.below hb11)
  clear Rw10 Uw10 Pw10 Hw10 Qw10 Gw10 Ow10 hb11
  obtain ⟨z0, z1, z2, z3⟩ := Rw11.out.cells
  go_wp2
  obtain ⟨wz, hwz, q1, q2, q3⟩ := ri_put Rw11.out ⟨#[76, 68]⟩ (.slice A 2 cap)
  rw [hwz]
  obtain ⟨s0, s1⟩ := q1.cells
  refine bodyPost_ret (v := .tuple #[.agg #[.string ⟨#[76, 68]⟩, (.slice A 2 cap)], .string ⟨#[119]⟩]) ?_ rfl ?_
  · simp [results, Tryz.results55, go_sem, s0, s1]
  · exact ⟨_, rfl, own_put Rw11.out Ow11.out q3, Uw11.out.trans (q2.mono (by rw [HN.out]; omega))⟩
end Go.Proofs.YtipgecdfnbldnaaGreatDoor
