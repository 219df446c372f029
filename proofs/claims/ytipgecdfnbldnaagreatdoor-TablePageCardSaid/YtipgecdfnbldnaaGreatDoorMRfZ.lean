/-
  The reference's At.
-/
import Derived.Test.YtipgecdfnbldnaaGreatDoorMRfX
import Derived.Test.YtipgecdfnbldnaaGreatDoorMRfY
import Derived.Test.YtipgecdfnbldnaaGreatDoorMRfL
import Derived.Deep.DeepCutAuto
import Derived.Deep.Cut
import Derived.StillTail
import Derived.StillTailTactics
import Derived.Deep.RegionHeld3
import Derived.RegionTactic
set_option linter.all false
set_option maxRecDepth 100000
set_option maxHeartbeats 4000000
namespace Go.Proofs.YtipgecdfnbldnaaGreatDoor
open Go.RowKit Go.Shelf
attribute [local irreducible] Go.Mixed.wpMix
def ratT (page : Int) (op : Nat) : Option En :=
  if page = 0 then (if (mainN op).1 = [] then none else some ((mainN op).1, (mainN op).2.1, (mainN op).2.2, false))
  else if page = 1 then (if (cbN op (regT (op % 8 : Nat))).1 = [] then none else some ((cbN op (regT (op % 8 : Nat))).1, (cbN op (regT (op % 8 : Nat))).2, [], false))
  else if page = 2 then (if (edN op).1 = [] then none else some ((edN op).1, (edN op).2.1, (edN op).2.2.1, (edN op).2.2.2))
  else if page = 3 ∨ page = 4 then (if op = 203 then none else if (ixT (mainN op).1 (mainN op).2.1 (mainN op).2.2 (page + 2)).1 = [] then none else
    some ((ixT (mainN op).1 (mainN op).2.1 (mainN op).2.2 (page + 2)).1, (ixT (mainN op).1 (mainN op).2.1 (mainN op).2.2 (page + 2)).2.1, (ixT (mainN op).1 (mainN op).2.1 (mainN op).2.2 (page + 2)).2.2, false))
  else if page = 5 ∨ page = 6 then some (bothT page op) else none
def rkindT (page : Int) (op : Nat) : Int := if page = 0 then 2 else if page = 2 then 3 else if (page = 3 ∨ page = 4) ∧ op = 203 then 2 else 0
def RetRAt (w : World) (page op : Int) (kd : Int) (x : Option En) (e : Ending) (w' : World) : Prop :=
  (match x with
    | some x => ∃ v, e = .returned (.tuple #[enV page op x.1 v x.2.2.1 x.2.2.2, .int .i64 1]) ∧ OwnT w' w.heap.size v x.2.1
    | none => e = .returned (.tuple #[enV 0 0 [] (.slice none 0 0) [] false, .int .i64 kd])) ∧ Below w.heap.size w w'
theorem mainN_len : ∀ n : Fin 256, (mainN n.val).2.1.length ≤ 2 ∧ (mainN n.val).2.2.length ≤ 1 := by decide +kernel
theorem rat_start (w : World) (page op : Int) : ∃ w0, (w.alloc (.cells #[.int .i64 0, .int .u8 0, .string ⟨#[]⟩, .slice none 0 0, .string ⟨#[]⟩, .bool false] 30)).alloc (.cells #[.int .i64 page, .int .u8 op, .string ⟨#[]⟩, .slice none 0 0, .string ⟨#[]⟩, .bool false] 30) = w0 ∧
    RnAt w0 w.heap.size 0 0 [] (.slice none 0 0) [] false ∧ RnAt w0 (w.heap.size + 1) page op [] (.slice none 0 0) [] false ∧ Below w.heap.size w w0 ∧ w0.heap.size = w.heap.size + 2 := by
  refine ⟨_, rfl, (Below.heap_alloc _ _ _ (by simp)).trans (World.alloc_heap_new w _), ?_, ((Below.refl _ w).alloc (Nat.le_refl _) _).alloc (by simp) _, by simp⟩
  have h := World.alloc_heap_new (w.alloc (.cells #[.int .i64 0, .int .u8 0, .string ⟨#[]⟩, .slice none 0 0, .string ⟨#[]⟩, .bool false] 30)) (.cells #[.int .i64 page, .int .u8 op, .string ⟨#[]⟩, .slice none 0 0, .string ⟨#[]⟩, .bool false] 30)
  rw [World.size_alloc] at h
  exact h
theorem str_nil (m : Str) : ((sB m).toList == []) = decide (m = []) := by
  rw [sB_eq]
theorem rat_3a (op : Nat) (hop : op < 256) (h203 : op = 203) (w : World) : Calls Tryz.prog 8 #[.int .i64 3, .int .u8 op] w (RetRAt w 3 op (rkindT 3 op) (ratT 3 op)) := by
  obtain ⟨w0, hw0, R0, E0, B0, Z0⟩ := rat_start w 3 op
  obtain ⟨n, hn⟩ : ∃ n, w.heap.size = n := ⟨_, rfl⟩
  rw [hn] at R0 E0 B0 Z0
  have HN := Lib.hid hn
  have HW := Lib.hid hw0
  have Rw0 := Lib.hid R0
  have Ew0 := Lib.hid E0
  have Bw0 := Lib.hid B0
  have ZZ := Lib.hid Z0
  clear hw0 hn R0 E0 B0 Z0
  have KD : Hid (rkindT 3 op = 2) := (by unfold rkindT; simp [h203] : rkindT 3 op = 2)
  have T : Hid (ratT 3 op = none) := (by unfold ratT; simp [h203] : ratT 3 op = none)
  have k3 : ((op : Int) == 203) = true := by rw [h203]; rfl
  clear h203
  go_enter Tryz.func8, Tryz.ntmps8
  go_upto_region 3 with fail
  rw [HW.out, HN.out]
  clear HW
  obtain ⟨r0, r1, r2, r3, r4, r5, r6⟩ := Rw0.out.cells
  go_wp2
  obtain ⟨w7, hw7, qq, q2, q3, -, q4⟩ := Rw0.out.put 0 0 [] (.slice none 0 0) [] false
  rw [show sB [] = (⟨#[]⟩ : ByteArray) from rfl] at hw7
  rw [hw7]
  obtain ⟨q0, q1, q2', q3', q4', q5, -⟩ := qq.cells
  refine bodyPost_ret (v := .tuple #[enV 0 0 [] (.slice none 0 0) [] false, .int .i64 2]) ?_ rfl ?_
  · simp [results, Tryz.results8, go_sem, q0, q1, q2', q3', q4', q5, enV]
  · rw [T.out]
    exact ⟨by first | rfl | (rw [KD.out]), by rw [HN.out]; exact Bw0.out.trans q2⟩
theorem rat_4a (op : Nat) (hop : op < 256) (h203 : op = 203) (w : World) : Calls Tryz.prog 8 #[.int .i64 4, .int .u8 op] w (RetRAt w 4 op (rkindT 4 op) (ratT 4 op)) := by
  obtain ⟨w0, hw0, R0, E0, B0, Z0⟩ := rat_start w 4 op
  obtain ⟨n, hn⟩ : ∃ n, w.heap.size = n := ⟨_, rfl⟩
  rw [hn] at R0 E0 B0 Z0
  have HN := Lib.hid hn
  have HW := Lib.hid hw0
  have Rw0 := Lib.hid R0
  have Ew0 := Lib.hid E0
  have Bw0 := Lib.hid B0
  have ZZ := Lib.hid Z0
  clear hw0 hn R0 E0 B0 Z0
  have KD : Hid (rkindT 4 op = 2) := (by unfold rkindT; simp [h203] : rkindT 4 op = 2)
  have T : Hid (ratT 4 op = none) := (by unfold ratT; simp [h203] : ratT 4 op = none)
  have k3 : ((op : Int) == 203) = true := by rw [h203]; rfl
  clear h203
  go_enter Tryz.func8, Tryz.ntmps8
  go_upto_region 3 with fail
  rw [HW.out, HN.out]
  clear HW
  obtain ⟨r0, r1, r2, r3, r4, r5, r6⟩ := Rw0.out.cells
  go_wp2
  obtain ⟨w7, hw7, qq, q2, q3, -, q4⟩ := Rw0.out.put 0 0 [] (.slice none 0 0) [] false
  rw [show sB [] = (⟨#[]⟩ : ByteArray) from rfl] at hw7
  rw [hw7]
  obtain ⟨q0, q1, q2', q3', q4', q5, -⟩ := qq.cells
  refine bodyPost_ret (v := .tuple #[enV 0 0 [] (.slice none 0 0) [] false, .int .i64 2]) ?_ rfl ?_
  · simp [results, Tryz.results8, go_sem, q0, q1, q2', q3', q4', q5, enV]
  · rw [T.out]
    exact ⟨by first | rfl | (rw [KD.out]), by rw [HN.out]; exact Bw0.out.trans q2⟩
theorem rat_0 (op : Nat) (hop : op < 256) (w : World) : Calls Tryz.prog 8 #[.int .i64 0, .int .u8 op] w (RetRAt w 0 op (rkindT 0 op) (ratT 0 op)) := by
  obtain ⟨w0, hw0, R0, E0, B0, Z0⟩ := rat_start w 0 op
  obtain ⟨n, hn⟩ : ∃ n, w.heap.size = n := ⟨_, rfl⟩
  rw [hn] at R0 E0 B0 Z0
  have HN := Lib.hid hn
  have HW := Lib.hid hw0
  have Rw0 := Lib.hid R0
  have Ew0 := Lib.hid E0
  have Bw0 := Lib.hid B0
  have ZZ := Lib.hid Z0
  clear hw0 hn R0 E0 B0 Z0
  have TT : ratT 0 op = if (mainN op).1 = [] then none else some ((mainN op).1, (mainN op).2.1, (mainN op).2.2, false) := rfl
  have KD : Hid (rkindT 0 op = 2) := rfl
  have KK := main_any op hop w0
  obtain ⟨m, hm⟩ : ∃ x, (mainN op).1 = x := ⟨_, rfl⟩
  obtain ⟨L, hL⟩ : ∃ x, (mainN op).2.1 = x := ⟨_, rfl⟩
  obtain ⟨ex, hex⟩ : ∃ x, (mainN op).2.2 = x := ⟨_, rfl⟩
  rw [hm, hL, hex] at KK TT
  clear hm hL hex
  have KK := Lib.hid KK
  have T0 := Lib.hid TT
  clear TT
  go_enter Tryz.func8, Tryz.ntmps8
  go_upto_region 3 with fail
  rw [HW.out, HN.out]
  clear HW
  go_wp2_with fail
  refine KK.out.mono ?_
  rintro e w1 ⟨v, rfl, hO, hbw1⟩
  obtain ⟨A, cap, rfl, -, -⟩ := hO.ops
  have Rw1 := Lib.hid (Rw0.out.all hbw1)
  have Ew1 := Lib.hid (Ew0.out.all hbw1)
  have Bw1 : Hid (Below n w w1) := Bw0.out.trans (hbw1.mono (by have := Ew0.out.lt; omega))
  have Ow1 : Hid (OwnT w1 (n + 2) (.slice A L.length cap) L) := hO.lift (by have := Ew0.out.lt; omega)
  clear hO hbw1 Rw0 Ew0 Bw0 KK
  obtain ⟨k, hk⟩ : ∃ k, L.length = k := ⟨_, rfl⟩
  rw [hk] at Ow1 ⊢
  clear hk
  have Ew2 := Lib.hid (((Ew1.out.set_mn m).set_args (.slice A k cap)).set_extra ex)
  have Rw2 := Lib.hid (((Rw1.out.set_other (g := n + 1) (j := 2) (by omega) (.string (sB m))).set_other (g := n + 1) (j := 3) (by omega) (.slice A k cap)).set_other (g := n + 1) (j := 4) (by omega) (.string (sB ex)))
  have Bw2 := Lib.hid (((Bw1.out.setCell (p := ⟨n + 1, 2, none⟩) (Nat.le_succ _) (.string (sB m))).setCell (p := ⟨n + 1, 3, none⟩) (Nat.le_succ _) (.slice A k cap)).setCell (p := ⟨n + 1, 4, none⟩) (Nat.le_succ _) (.string (sB ex)))
  have Ow2 := Lib.hid (own_argsR ((Ew1.out.set_mn m).set_args (.slice A k cap)) (own_argsR (Ew1.out.set_mn m) (own_argsR Ew1.out Ow1.out 2 (.string (sB m))) 3 (.slice A k cap)) 4 (.string (sB ex)))
  obtain ⟨e0, e1', e2', e3', e4', e5', e6'⟩ := Ew1.out.cells
  go_upto_region 22 with fail
  obtain ⟨w2, hw2⟩ : ∃ x, (((w1.setCell ⟨n + 1, 2, none⟩ (.string (sB m))).setCell ⟨n + 1, 3, none⟩ (.slice A k cap)).setCell ⟨n + 1, 4, none⟩ (.string (sB ex))) = x := ⟨_, rfl⟩
  rw [hw2] at Ew2 Rw2 Bw2 Ow2 ⊢
  clear hw2 Rw1 Ew1 Bw1 Ow1 e0 e1' e2' e3' e4' e5' e6'
  have hs := str_nil m
  by_cases hm : m = []
  · have T : Hid (ratT 0 op = none) := by show _ = _; rw [T0.out]; rw [if_pos hm]
    rw [decide_eq_true hm] at hs
    clear hm
    obtain ⟨e0, e1', e2', e3', e4', e5', e6'⟩ := Ew2.out.cells
    obtain ⟨r0, r1, r2, r3, r4, r5, r6⟩ := Rw2.out.cells
    go_wp2
    obtain ⟨w7, hw7, qq, q2, q3, -, q4⟩ := Rw2.out.put 0 0 [] (.slice none 0 0) [] false
    rw [show sB [] = (⟨#[]⟩ : ByteArray) from rfl] at hw7
    rw [hw7]
    obtain ⟨q0, q1, q2', q3', q4', q5, -⟩ := qq.cells
    refine bodyPost_ret (v := .tuple #[enV 0 0 [] (.slice none 0 0) [] false, .int .i64 2]) ?_ rfl ?_
    · simp [results, Tryz.results8, go_sem, q0, q1, q2', q3', q4', q5, enV]
    · rw [T.out]
      exact ⟨by first | rfl | (rw [KD.out]), by rw [HN.out]; exact Bw2.out.trans q2⟩
  · have T : Hid (ratT 0 op = some (m, L, ex, false)) := by show _ = _; rw [T0.out]; rw [if_neg hm]
    rw [decide_eq_false hm] at hs
    clear hm
    obtain ⟨e0, e1', e2', e3', e4', e5', e6'⟩ := Ew2.out.cells
    obtain ⟨r0, r1, r2, r3, r4, r5, r6⟩ := Rw2.out.cells
    go_wp2
    obtain ⟨w7, hw7, qq, q2, q3, -, q4⟩ := Rw2.out.put 0 op m (.slice A k cap) ex false
    rw [hw7]
    obtain ⟨q0, q1, q2', q3', q4', q5, -⟩ := qq.cells
    refine bodyPost_ret (v := .tuple #[enV 0 op m (.slice A k cap) ex false, .int .i64 1]) ?_ rfl ?_
    · simp [results, Tryz.results8, go_sem, q0, q1, q2', q3', q4', q5, enV]
    · rw [T.out]
      exact ⟨⟨_, rfl, (put_ownR Rw2.out Ow2.out q4).lift (by have := HN.out; omega)⟩, by rw [HN.out]; exact Bw2.out.trans q2⟩
theorem rat_1 (op : Nat) (hop : op < 256) (w : World) : Calls Tryz.prog 8 #[.int .i64 1, .int .u8 op] w (RetRAt w 1 op (rkindT 1 op) (ratT 1 op)) := by
  obtain ⟨w0, hw0, R0, E0, B0, Z0⟩ := rat_start w 1 op
  obtain ⟨n, hn⟩ : ∃ n, w.heap.size = n := ⟨_, rfl⟩
  rw [hn] at R0 E0 B0 Z0
  have HN := Lib.hid hn
  have HW := Lib.hid hw0
  have Rw0 := Lib.hid R0
  have Ew0 := Lib.hid E0
  have Bw0 := Lib.hid B0
  have ZZ := Lib.hid Z0
  clear hw0 hn R0 E0 B0 Z0
  have TT : ratT 1 op = if (cbN op (regT (op % 8 : Nat))).1 = [] then none else some ((cbN op (regT (op % 8 : Nat))).1, (cbN op (regT (op % 8 : Nat))).2, [], false) := rfl
  have KD : Hid (rkindT 1 op = 0) := (by unfold rkindT; simp : rkindT 1 op = 0)
  obtain ⟨⟨y0, y1, y2⟩, hy⟩ : ∃ y : Tr, regT (op % 8 : Nat) = y := ⟨_, rfl⟩
  have f1 : (op : Int) % 8 = ((op % 8 : Nat) : Int) := by omega
  have hr := fun w => rr_any ((op : Int) % 8) w
  rw [f1, hy] at hr
  rw [hy] at TT
  rw [← f1] at hr
  have b1 : (0 : Int) ≤ (op : Int) % 8 := by omega
  have b2 : (op : Int) % 8 ≤ 7 := by omega
  have HR := Lib.hid hr
  clear hy f1 hr
  have KK := fun w => cb_any op hop (y0, y1, y2) w
  obtain ⟨m, hm⟩ : ∃ x, (cbN op (y0, y1, y2)).1 = x := ⟨_, rfl⟩
  obtain ⟨L, hL⟩ : ∃ x, (cbN op (y0, y1, y2)).2 = x := ⟨_, rfl⟩
  simp only [hm, hL, trV] at KK
  rw [hm, hL] at TT
  clear hm hL
  have KK := Lib.hid KK
  have T0 := Lib.hid TT
  clear TT
  go_enter Tryz.func8, Tryz.ntmps8
  go_upto_region 3 with fail
  rw [HW.out, HN.out]
  clear HW
  go_wp2_with fail
  refine (HR.out w0).mono ?_
  rintro e w1 ⟨rfl, hbw1⟩
  have Rw1 := Lib.hid (Rw0.out.all hbw1)
  have Ew1 := Lib.hid (Ew0.out.all hbw1)
  have Bw1 : Hid (Below n w w1) := Bw0.out.trans (hbw1.mono (by have := Ew0.out.lt; omega))
  clear hbw1 Rw0 Ew0 Bw0 b1 b2
  simp only [trV]
  go_wp2_with fail
  refine (KK.out w1).mono ?_
  rintro e w3 ⟨v, rfl, hO, hbw3⟩
  obtain ⟨A, cap, rfl, -, -⟩ := hO.ops
  have Rw3 := Lib.hid (Rw1.out.all hbw3)
  have Ew3 := Lib.hid (Ew1.out.all hbw3)
  have Bw3 : Hid (Below n w w3) := Bw1.out.trans (hbw3.mono (by have := Ew1.out.lt; omega))
  have Ow3 : Hid (OwnT w3 (n + 2) (.slice A L.length cap) L) := hO.lift (by have := Ew1.out.lt; omega)
  clear hO hbw3 Rw1 Ew1 Bw1 KK
  obtain ⟨k, hk⟩ : ∃ k, L.length = k := ⟨_, rfl⟩
  rw [hk] at Ow3 ⊢
  clear hk
  have Ew2 := Lib.hid ((Ew3.out.set_mn m).set_args (.slice A k cap))
  have Rw2 := Lib.hid ((Rw3.out.set_other (g := n + 1) (j := 2) (by omega) (.string (sB m))).set_other (g := n + 1) (j := 3) (by omega) (.slice A k cap))
  have Bw2 := Lib.hid ((Bw3.out.setCell (p := ⟨n + 1, 2, none⟩) (Nat.le_succ _) (.string (sB m))).setCell (p := ⟨n + 1, 3, none⟩) (Nat.le_succ _) (.slice A k cap))
  have Ow2 := Lib.hid (own_argsR (Ew3.out.set_mn m) (own_argsR Ew3.out Ow3.out 2 (.string (sB m))) 3 (.slice A k cap))
  obtain ⟨e0, e1', e2', e3', e4', e5', e6'⟩ := Ew3.out.cells
  go_upto_region 22 with fail
  obtain ⟨w2, hw2⟩ : ∃ x, ((w3.setCell ⟨n + 1, 2, none⟩ (.string (sB m))).setCell ⟨n + 1, 3, none⟩ (.slice A k cap)) = x := ⟨_, rfl⟩
  rw [hw2] at Ew2 Rw2 Bw2 Ow2 ⊢
  clear hw2 Rw3 Ew3 Bw3 Ow3 e0 e1' e2' e3' e4' e5' e6'
  have hs := str_nil m
  by_cases hm : m = []
  · have T : Hid (ratT 1 op = none) := by show _ = _; rw [T0.out]; rw [if_pos hm]
    rw [decide_eq_true hm] at hs
    clear hm
    obtain ⟨e0, e1', e2', e3', e4', e5', e6'⟩ := Ew2.out.cells
    obtain ⟨r0, r1, r2, r3, r4, r5, r6⟩ := Rw2.out.cells
    go_wp2
    obtain ⟨w7, hw7, qq, q2, q3, -, q4⟩ := Rw2.out.put 0 0 [] (.slice none 0 0) [] false
    rw [show sB [] = (⟨#[]⟩ : ByteArray) from rfl] at hw7
    rw [hw7]
    obtain ⟨q0, q1, q2', q3', q4', q5, -⟩ := qq.cells
    refine bodyPost_ret (v := .tuple #[enV 0 0 [] (.slice none 0 0) [] false, .int .i64 0]) ?_ rfl ?_
    · simp [results, Tryz.results8, go_sem, q0, q1, q2', q3', q4', q5, enV]
    · rw [T.out]
      exact ⟨by first | rfl | (rw [KD.out]), by rw [HN.out]; exact Bw2.out.trans q2⟩
  · have T : Hid (ratT 1 op = some (m, L, [], false)) := by show _ = _; rw [T0.out]; rw [if_neg hm]
    rw [decide_eq_false hm] at hs
    clear hm
    obtain ⟨e0, e1', e2', e3', e4', e5', e6'⟩ := Ew2.out.cells
    obtain ⟨r0, r1, r2, r3, r4, r5, r6⟩ := Rw2.out.cells
    go_wp2
    obtain ⟨w7, hw7, qq, q2, q3, -, q4⟩ := Rw2.out.put 1 op m (.slice A k cap) [] false
    rw [hw7]
    obtain ⟨q0, q1, q2', q3', q4', q5, -⟩ := qq.cells
    refine bodyPost_ret (v := .tuple #[enV 1 op m (.slice A k cap) [] false, .int .i64 1]) ?_ rfl ?_
    · simp [results, Tryz.results8, go_sem, q0, q1, q2', q3', q4', q5, enV]
    · rw [T.out]
      exact ⟨⟨_, rfl, (put_ownR Rw2.out Ow2.out q4).lift (by have := HN.out; omega)⟩, by rw [HN.out]; exact Bw2.out.trans q2⟩
theorem rat_2 (op : Nat) (hop : op < 256) (w : World) : Calls Tryz.prog 8 #[.int .i64 2, .int .u8 op] w (RetRAt w 2 op (rkindT 2 op) (ratT 2 op)) := by
  obtain ⟨w0, hw0, R0, E0, B0, Z0⟩ := rat_start w 2 op
  obtain ⟨n, hn⟩ : ∃ n, w.heap.size = n := ⟨_, rfl⟩
  rw [hn] at R0 E0 B0 Z0
  have HN := Lib.hid hn
  have HW := Lib.hid hw0
  have Rw0 := Lib.hid R0
  have Ew0 := Lib.hid E0
  have Bw0 := Lib.hid B0
  have ZZ := Lib.hid Z0
  clear hw0 hn R0 E0 B0 Z0
  have TT : ratT 2 op = if (edN op).1 = [] then none else some ((edN op).1, (edN op).2.1, (edN op).2.2.1, (edN op).2.2.2) := rfl
  have KD : Hid (rkindT 2 op = 3) := rfl
  have KK := ed_any op hop w0
  obtain ⟨m, hm⟩ : ∃ x, (edN op).1 = x := ⟨_, rfl⟩
  obtain ⟨L, hL⟩ : ∃ x, (edN op).2.1 = x := ⟨_, rfl⟩
  obtain ⟨ex, hex⟩ : ∃ x, (edN op).2.2.1 = x := ⟨_, rfl⟩
  obtain ⟨al, hal⟩ : ∃ x, (edN op).2.2.2 = x := ⟨_, rfl⟩
  rw [hm, hL, hex, hal] at KK TT
  clear hm hL hex hal
  have KK := Lib.hid KK
  have T0 := Lib.hid TT
  clear TT
  go_enter Tryz.func8, Tryz.ntmps8
  go_upto_region 3 with fail
  rw [HW.out, HN.out]
  clear HW
  go_wp2_with fail
  refine KK.out.mono ?_
  rintro e w1 ⟨v, rfl, hO, hbw1⟩
  obtain ⟨A, cap, rfl, -, -⟩ := hO.ops
  have Rw1 := Lib.hid (Rw0.out.all hbw1)
  have Ew1 := Lib.hid (Ew0.out.all hbw1)
  have Bw1 : Hid (Below n w w1) := Bw0.out.trans (hbw1.mono (by have := Ew0.out.lt; omega))
  have Ow1 : Hid (OwnT w1 (n + 2) (.slice A L.length cap) L) := hO.lift (by have := Ew0.out.lt; omega)
  clear hO hbw1 Rw0 Ew0 Bw0 KK
  obtain ⟨k, hk⟩ : ∃ k, L.length = k := ⟨_, rfl⟩
  rw [hk] at Ow1 ⊢
  clear hk
  have Ew2 := Lib.hid ((((Ew1.out.set_mn m).set_args (.slice A k cap)).set_extra ex).set_alias al)
  have Rw2 := Lib.hid ((((Rw1.out.set_other (g := n + 1) (j := 2) (by omega) (.string (sB m))).set_other (g := n + 1) (j := 3) (by omega) (.slice A k cap)).set_other (g := n + 1) (j := 4) (by omega) (.string (sB ex))).set_other (g := n + 1) (j := 5) (by omega) (.bool al))
  have Bw2 := Lib.hid ((((Bw1.out.setCell (p := ⟨n + 1, 2, none⟩) (Nat.le_succ _) (.string (sB m))).setCell (p := ⟨n + 1, 3, none⟩) (Nat.le_succ _) (.slice A k cap)).setCell (p := ⟨n + 1, 4, none⟩) (Nat.le_succ _) (.string (sB ex))).setCell (p := ⟨n + 1, 5, none⟩) (Nat.le_succ _) (.bool al))
  have Ow2 := Lib.hid (own_argsR (((Ew1.out.set_mn m).set_args (.slice A k cap)).set_extra ex) (own_argsR ((Ew1.out.set_mn m).set_args (.slice A k cap)) (own_argsR (Ew1.out.set_mn m) (own_argsR Ew1.out Ow1.out 2 (.string (sB m))) 3 (.slice A k cap)) 4 (.string (sB ex))) 5 (.bool al))
  obtain ⟨e0, e1', e2', e3', e4', e5', e6'⟩ := Ew1.out.cells
  go_upto_region 22 with fail
  obtain ⟨w2, hw2⟩ : ∃ x, ((((w1.setCell ⟨n + 1, 2, none⟩ (.string (sB m))).setCell ⟨n + 1, 3, none⟩ (.slice A k cap)).setCell ⟨n + 1, 4, none⟩ (.string (sB ex))).setCell ⟨n + 1, 5, none⟩ (.bool al)) = x := ⟨_, rfl⟩
  rw [hw2] at Ew2 Rw2 Bw2 Ow2 ⊢
  clear hw2 Rw1 Ew1 Bw1 Ow1 e0 e1' e2' e3' e4' e5' e6'
  have hs := str_nil m
  by_cases hm : m = []
  · have T : Hid (ratT 2 op = none) := by show _ = _; rw [T0.out]; rw [if_pos hm]
    rw [decide_eq_true hm] at hs
    clear hm
    obtain ⟨e0, e1', e2', e3', e4', e5', e6'⟩ := Ew2.out.cells
    obtain ⟨r0, r1, r2, r3, r4, r5, r6⟩ := Rw2.out.cells
    go_wp2
    obtain ⟨w7, hw7, qq, q2, q3, -, q4⟩ := Rw2.out.put 0 0 [] (.slice none 0 0) [] false
    rw [show sB [] = (⟨#[]⟩ : ByteArray) from rfl] at hw7
    rw [hw7]
    obtain ⟨q0, q1, q2', q3', q4', q5, -⟩ := qq.cells
    refine bodyPost_ret (v := .tuple #[enV 0 0 [] (.slice none 0 0) [] false, .int .i64 3]) ?_ rfl ?_
    · simp [results, Tryz.results8, go_sem, q0, q1, q2', q3', q4', q5, enV]
    · rw [T.out]
      exact ⟨by first | rfl | (rw [KD.out]), by rw [HN.out]; exact Bw2.out.trans q2⟩
  · have T : Hid (ratT 2 op = some (m, L, ex, al)) := by show _ = _; rw [T0.out]; rw [if_neg hm]
    rw [decide_eq_false hm] at hs
    clear hm
    obtain ⟨e0, e1', e2', e3', e4', e5', e6'⟩ := Ew2.out.cells
    obtain ⟨r0, r1, r2, r3, r4, r5, r6⟩ := Rw2.out.cells
    go_wp2
    obtain ⟨w7, hw7, qq, q2, q3, -, q4⟩ := Rw2.out.put 2 op m (.slice A k cap) ex al
    rw [hw7]
    obtain ⟨q0, q1, q2', q3', q4', q5, -⟩ := qq.cells
    refine bodyPost_ret (v := .tuple #[enV 2 op m (.slice A k cap) ex al, .int .i64 1]) ?_ rfl ?_
    · simp [results, Tryz.results8, go_sem, q0, q1, q2', q3', q4', q5, enV]
    · rw [T.out]
      exact ⟨⟨_, rfl, (put_ownR Rw2.out Ow2.out q4).lift (by have := HN.out; omega)⟩, by rw [HN.out]; exact Bw2.out.trans q2⟩
theorem rat_3 (op : Nat) (hop : op < 256) (h203 : op ≠ 203) (w : World) : Calls Tryz.prog 8 #[.int .i64 3, .int .u8 op] w (RetRAt w 3 op (rkindT 3 op) (ratT 3 op)) := by
  obtain ⟨w0, hw0, R0, E0, B0, Z0⟩ := rat_start w 3 op
  obtain ⟨n, hn⟩ : ∃ n, w.heap.size = n := ⟨_, rfl⟩
  rw [hn] at R0 E0 B0 Z0
  have HN := Lib.hid hn
  have HW := Lib.hid hw0
  have Rw0 := Lib.hid R0
  have Ew0 := Lib.hid E0
  have Bw0 := Lib.hid B0
  have ZZ := Lib.hid Z0
  clear hw0 hn R0 E0 B0 Z0
  have KD : Hid (rkindT 3 op = 0) := (by unfold rkindT; simp [h203] : rkindT 3 op = 0)
  have TT : ratT 3 op = if (ixT (mainN op).1 (mainN op).2.1 (mainN op).2.2 5).1 = [] then none else some ((ixT (mainN op).1 (mainN op).2.1 (mainN op).2.2 5).1, (ixT (mainN op).1 (mainN op).2.1 (mainN op).2.2 5).2.1, (ixT (mainN op).1 (mainN op).2.1 (mainN op).2.2 5).2.2, false) := by
    show (if op = 203 then none else _) = _
    rw [if_neg h203]
    rfl
  have k3 : ((op : Int) == 203) = false := by simp; omega
  have hl := mainN_len ⟨op, hop⟩
  simp only at hl
  clear h203
  have K1 := main_any op hop w0
  obtain ⟨m0, hm0⟩ : ∃ x, (mainN op).1 = x := ⟨_, rfl⟩
  obtain ⟨L0, hL0⟩ : ∃ x, (mainN op).2.1 = x := ⟨_, rfl⟩
  obtain ⟨ex0, hex0⟩ : ∃ x, (mainN op).2.2 = x := ⟨_, rfl⟩
  rw [hm0, hL0, hex0] at K1 TT
  rw [hL0, hex0] at hl
  have H1 := Lib.hid K1
  have HL := Lib.hid hl
  clear hm0 hL0 hex0 K1 hl
  have KK := fun (A : Option Addr) (cap : Nat) w h => rix_any m0 ex0 5 (.inl rfl) A cap L0 (by have := HL.out; omega) (by have := HL.out; omega) w h
  obtain ⟨m, hm⟩ : ∃ x, (ixT m0 L0 ex0 5).1 = x := ⟨_, rfl⟩
  obtain ⟨L, hL⟩ : ∃ x, (ixT m0 L0 ex0 5).2.1 = x := ⟨_, rfl⟩
  obtain ⟨ex, hex⟩ : ∃ x, (ixT m0 L0 ex0 5).2.2 = x := ⟨_, rfl⟩
  simp only [hm, hL, hex] at KK
  rw [hm, hL, hex] at TT
  clear hm hL hex
  have KK := Lib.hid KK
  have T0 := Lib.hid TT
  clear TT
  go_enter Tryz.func8, Tryz.ntmps8
  go_upto_region 3 with fail
  rw [HW.out, HN.out]
  clear HW
  go_wp2_with fail
  refine H1.out.mono ?_
  rintro e w1 ⟨v, rfl, hO, hbw1⟩
  obtain ⟨A0, cap0, rfl, hP0, -⟩ := hO.ops
  have Rw1 := Lib.hid (Rw0.out.all hbw1)
  have Ew1 := Lib.hid (Ew0.out.all hbw1)
  have Bw1 : Hid (Below n w w1) := Bw0.out.trans (hbw1.mono (by have := Ew0.out.lt; omega))
  have P1 := Lib.hid hP0
  clear hO hP0 hbw1 Rw0 Ew0 Bw0 H1
  go_upto_region 18 with fail
  obtain ⟨b8, hb8⟩ : ∃ x, w1.heap.size = x := ⟨_, rfl⟩
  obtain ⟨w3, hw3⟩ : ∃ x, w1.alloc (.cells #[.string (sB m0), .slice A0 L0.length cap0] 25) = x := ⟨_, rfl⟩
  have hbw3 : Below w1.heap.size w1 w3 := by rw [← hw3]; exact up_alloc _ _
  have X3 : Hid (Ri w3 b8 (sB m0) (.slice A0 L0.length cap0)) := by rw [← hw3, ← hb8]; exact heap_alloc_new _ _
  rw [hw3, hb8]
  clear hw3 hb8
  have Rw3 := Lib.hid (Rw1.out.all hbw3)
  have Ew3 := Lib.hid (Ew1.out.all hbw3)
  have Bw3 : Hid (Below n w w3) := Bw1.out.trans (hbw3.mono (by have := Ew1.out.lt; omega))
  have P3 := Lib.hid (P1.out.below hbw3)
  clear hbw3 Rw1 Ew1 Bw1 P1
  obtain ⟨x0, x1⟩ := X3.out.cells
  go_wp2_with fail
  refine (KK.out A0 cap0 w3 P3.out).mono ?_
  rintro e w4 ⟨v, rfl, hO, hbw4⟩
  obtain ⟨A, cap, rfl, -, -⟩ := hO.ops
  have Rw4 := Lib.hid (Rw3.out.all hbw4)
  have Ew4 := Lib.hid (Ew3.out.all hbw4)
  have Bw4 : Hid (Below n w w4) := Bw3.out.trans (hbw4.mono (by have := Ew3.out.lt; omega))
  have Ow4 : Hid (OwnT w4 (n + 2) (.slice A L.length cap) L) := hO.lift (by have := Ew3.out.lt; omega)
  clear x0 x1 X3 P3 hO hbw4 Rw3 Ew3 Bw3 KK
  obtain ⟨k, hk⟩ : ∃ k, L.length = k := ⟨_, rfl⟩
  rw [hk] at Ow4 ⊢
  clear hk
  have Ew2 := Lib.hid (((Ew4.out.set_mn m).set_args (.slice A k cap)).set_extra ex)
  have Rw2 := Lib.hid (((Rw4.out.set_other (g := n + 1) (j := 2) (by omega) (.string (sB m))).set_other (g := n + 1) (j := 3) (by omega) (.slice A k cap)).set_other (g := n + 1) (j := 4) (by omega) (.string (sB ex)))
  have Bw2 := Lib.hid (((Bw4.out.setCell (p := ⟨n + 1, 2, none⟩) (Nat.le_succ _) (.string (sB m))).setCell (p := ⟨n + 1, 3, none⟩) (Nat.le_succ _) (.slice A k cap)).setCell (p := ⟨n + 1, 4, none⟩) (Nat.le_succ _) (.string (sB ex)))
  have Ow2 := Lib.hid (own_argsR ((Ew4.out.set_mn m).set_args (.slice A k cap)) (own_argsR (Ew4.out.set_mn m) (own_argsR Ew4.out Ow4.out 2 (.string (sB m))) 3 (.slice A k cap)) 4 (.string (sB ex)))
  obtain ⟨e0, e1', e2', e3', e4', e5', e6'⟩ := Ew4.out.cells
  go_upto_region 22 with fail
  obtain ⟨w2, hw2⟩ : ∃ x, (((w4.setCell ⟨n + 1, 2, none⟩ (.string (sB m))).setCell ⟨n + 1, 3, none⟩ (.slice A k cap)).setCell ⟨n + 1, 4, none⟩ (.string (sB ex))) = x := ⟨_, rfl⟩
  rw [hw2] at Ew2 Rw2 Bw2 Ow2 ⊢
  clear hw2 Rw4 Ew4 Bw4 Ow4 e0 e1' e2' e3' e4' e5' e6'
  have hs := str_nil m
  by_cases hm : m = []
  · have T : Hid (ratT 3 op = none) := by show _ = _; rw [T0.out]; rw [if_pos hm]
    rw [decide_eq_true hm] at hs
    clear hm
    obtain ⟨e0, e1', e2', e3', e4', e5', e6'⟩ := Ew2.out.cells
    obtain ⟨r0, r1, r2, r3, r4, r5, r6⟩ := Rw2.out.cells
    go_wp2
    obtain ⟨w7, hw7, qq, q2, q3, -, q4⟩ := Rw2.out.put 0 0 [] (.slice none 0 0) [] false
    rw [show sB [] = (⟨#[]⟩ : ByteArray) from rfl] at hw7
    rw [hw7]
    obtain ⟨q0, q1, q2', q3', q4', q5, -⟩ := qq.cells
    refine bodyPost_ret (v := .tuple #[enV 0 0 [] (.slice none 0 0) [] false, .int .i64 0]) ?_ rfl ?_
    · simp [results, Tryz.results8, go_sem, q0, q1, q2', q3', q4', q5, enV]
    · rw [T.out]
      exact ⟨by first | rfl | (rw [KD.out]), by rw [HN.out]; exact Bw2.out.trans q2⟩
  · have T : Hid (ratT 3 op = some (m, L, ex, false)) := by show _ = _; rw [T0.out]; rw [if_neg hm]
    rw [decide_eq_false hm] at hs
    clear hm
    obtain ⟨e0, e1', e2', e3', e4', e5', e6'⟩ := Ew2.out.cells
    obtain ⟨r0, r1, r2, r3, r4, r5, r6⟩ := Rw2.out.cells
    go_wp2
    obtain ⟨w7, hw7, qq, q2, q3, -, q4⟩ := Rw2.out.put 3 op m (.slice A k cap) ex false
    rw [hw7]
    obtain ⟨q0, q1, q2', q3', q4', q5, -⟩ := qq.cells
    refine bodyPost_ret (v := .tuple #[enV 3 op m (.slice A k cap) ex false, .int .i64 1]) ?_ rfl ?_
    · simp [results, Tryz.results8, go_sem, q0, q1, q2', q3', q4', q5, enV]
    · rw [T.out]
      exact ⟨⟨_, rfl, (put_ownR Rw2.out Ow2.out q4).lift (by have := HN.out; omega)⟩, by rw [HN.out]; exact Bw2.out.trans q2⟩
theorem rat_4 (op : Nat) (hop : op < 256) (h203 : op ≠ 203) (w : World) : Calls Tryz.prog 8 #[.int .i64 4, .int .u8 op] w (RetRAt w 4 op (rkindT 4 op) (ratT 4 op)) := by
  obtain ⟨w0, hw0, R0, E0, B0, Z0⟩ := rat_start w 4 op
  obtain ⟨n, hn⟩ : ∃ n, w.heap.size = n := ⟨_, rfl⟩
  rw [hn] at R0 E0 B0 Z0
  have HN := Lib.hid hn
  have HW := Lib.hid hw0
  have Rw0 := Lib.hid R0
  have Ew0 := Lib.hid E0
  have Bw0 := Lib.hid B0
  have ZZ := Lib.hid Z0
  clear hw0 hn R0 E0 B0 Z0
  have KD : Hid (rkindT 4 op = 0) := (by unfold rkindT; simp [h203] : rkindT 4 op = 0)
  have TT : ratT 4 op = if (ixT (mainN op).1 (mainN op).2.1 (mainN op).2.2 6).1 = [] then none else some ((ixT (mainN op).1 (mainN op).2.1 (mainN op).2.2 6).1, (ixT (mainN op).1 (mainN op).2.1 (mainN op).2.2 6).2.1, (ixT (mainN op).1 (mainN op).2.1 (mainN op).2.2 6).2.2, false) := by
    show (if op = 203 then none else _) = _
    rw [if_neg h203]
    rfl
  have k3 : ((op : Int) == 203) = false := by simp; omega
  have hl := mainN_len ⟨op, hop⟩
  simp only at hl
  clear h203
  have K1 := main_any op hop w0
  obtain ⟨m0, hm0⟩ : ∃ x, (mainN op).1 = x := ⟨_, rfl⟩
  obtain ⟨L0, hL0⟩ : ∃ x, (mainN op).2.1 = x := ⟨_, rfl⟩
  obtain ⟨ex0, hex0⟩ : ∃ x, (mainN op).2.2 = x := ⟨_, rfl⟩
  rw [hm0, hL0, hex0] at K1 TT
  rw [hL0, hex0] at hl
  have H1 := Lib.hid K1
  have HL := Lib.hid hl
  clear hm0 hL0 hex0 K1 hl
  have KK := fun (A : Option Addr) (cap : Nat) w h => rix_any m0 ex0 6 (.inr rfl) A cap L0 (by have := HL.out; omega) (by have := HL.out; omega) w h
  obtain ⟨m, hm⟩ : ∃ x, (ixT m0 L0 ex0 6).1 = x := ⟨_, rfl⟩
  obtain ⟨L, hL⟩ : ∃ x, (ixT m0 L0 ex0 6).2.1 = x := ⟨_, rfl⟩
  obtain ⟨ex, hex⟩ : ∃ x, (ixT m0 L0 ex0 6).2.2 = x := ⟨_, rfl⟩
  simp only [hm, hL, hex] at KK
  rw [hm, hL, hex] at TT
  clear hm hL hex
  have KK := Lib.hid KK
  have T0 := Lib.hid TT
  clear TT
  go_enter Tryz.func8, Tryz.ntmps8
  go_upto_region 3 with fail
  rw [HW.out, HN.out]
  clear HW
  go_wp2_with fail
  refine H1.out.mono ?_
  rintro e w1 ⟨v, rfl, hO, hbw1⟩
  obtain ⟨A0, cap0, rfl, hP0, -⟩ := hO.ops
  have Rw1 := Lib.hid (Rw0.out.all hbw1)
  have Ew1 := Lib.hid (Ew0.out.all hbw1)
  have Bw1 : Hid (Below n w w1) := Bw0.out.trans (hbw1.mono (by have := Ew0.out.lt; omega))
  have P1 := Lib.hid hP0
  clear hO hP0 hbw1 Rw0 Ew0 Bw0 H1
  go_upto_region 18 with fail
  obtain ⟨b8, hb8⟩ : ∃ x, w1.heap.size = x := ⟨_, rfl⟩
  obtain ⟨w3, hw3⟩ : ∃ x, w1.alloc (.cells #[.string (sB m0), .slice A0 L0.length cap0] 25) = x := ⟨_, rfl⟩
  have hbw3 : Below w1.heap.size w1 w3 := by rw [← hw3]; exact up_alloc _ _
  have X3 : Hid (Ri w3 b8 (sB m0) (.slice A0 L0.length cap0)) := by rw [← hw3, ← hb8]; exact heap_alloc_new _ _
  rw [hw3, hb8]
  clear hw3 hb8
  have Rw3 := Lib.hid (Rw1.out.all hbw3)
  have Ew3 := Lib.hid (Ew1.out.all hbw3)
  have Bw3 : Hid (Below n w w3) := Bw1.out.trans (hbw3.mono (by have := Ew1.out.lt; omega))
  have P3 := Lib.hid (P1.out.below hbw3)
  clear hbw3 Rw1 Ew1 Bw1 P1
  obtain ⟨x0, x1⟩ := X3.out.cells
  go_wp2_with fail
  refine (KK.out A0 cap0 w3 P3.out).mono ?_
  rintro e w4 ⟨v, rfl, hO, hbw4⟩
  obtain ⟨A, cap, rfl, -, -⟩ := hO.ops
  have Rw4 := Lib.hid (Rw3.out.all hbw4)
  have Ew4 := Lib.hid (Ew3.out.all hbw4)
  have Bw4 : Hid (Below n w w4) := Bw3.out.trans (hbw4.mono (by have := Ew3.out.lt; omega))
  have Ow4 : Hid (OwnT w4 (n + 2) (.slice A L.length cap) L) := hO.lift (by have := Ew3.out.lt; omega)
  clear x0 x1 X3 P3 hO hbw4 Rw3 Ew3 Bw3 KK
  obtain ⟨k, hk⟩ : ∃ k, L.length = k := ⟨_, rfl⟩
  rw [hk] at Ow4 ⊢
  clear hk
  have Ew2 := Lib.hid (((Ew4.out.set_mn m).set_args (.slice A k cap)).set_extra ex)
  have Rw2 := Lib.hid (((Rw4.out.set_other (g := n + 1) (j := 2) (by omega) (.string (sB m))).set_other (g := n + 1) (j := 3) (by omega) (.slice A k cap)).set_other (g := n + 1) (j := 4) (by omega) (.string (sB ex)))
  have Bw2 := Lib.hid (((Bw4.out.setCell (p := ⟨n + 1, 2, none⟩) (Nat.le_succ _) (.string (sB m))).setCell (p := ⟨n + 1, 3, none⟩) (Nat.le_succ _) (.slice A k cap)).setCell (p := ⟨n + 1, 4, none⟩) (Nat.le_succ _) (.string (sB ex)))
  have Ow2 := Lib.hid (own_argsR ((Ew4.out.set_mn m).set_args (.slice A k cap)) (own_argsR (Ew4.out.set_mn m) (own_argsR Ew4.out Ow4.out 2 (.string (sB m))) 3 (.slice A k cap)) 4 (.string (sB ex)))
  obtain ⟨e0, e1', e2', e3', e4', e5', e6'⟩ := Ew4.out.cells
  go_upto_region 22 with fail
  obtain ⟨w2, hw2⟩ : ∃ x, (((w4.setCell ⟨n + 1, 2, none⟩ (.string (sB m))).setCell ⟨n + 1, 3, none⟩ (.slice A k cap)).setCell ⟨n + 1, 4, none⟩ (.string (sB ex))) = x := ⟨_, rfl⟩
  rw [hw2] at Ew2 Rw2 Bw2 Ow2 ⊢
  clear hw2 Rw4 Ew4 Bw4 Ow4 e0 e1' e2' e3' e4' e5' e6'
  have hs := str_nil m
  by_cases hm : m = []
  · have T : Hid (ratT 4 op = none) := by show _ = _; rw [T0.out]; rw [if_pos hm]
    rw [decide_eq_true hm] at hs
    clear hm
    obtain ⟨e0, e1', e2', e3', e4', e5', e6'⟩ := Ew2.out.cells
    obtain ⟨r0, r1, r2, r3, r4, r5, r6⟩ := Rw2.out.cells
    go_wp2
    obtain ⟨w7, hw7, qq, q2, q3, -, q4⟩ := Rw2.out.put 0 0 [] (.slice none 0 0) [] false
    rw [show sB [] = (⟨#[]⟩ : ByteArray) from rfl] at hw7
    rw [hw7]
    obtain ⟨q0, q1, q2', q3', q4', q5, -⟩ := qq.cells
    refine bodyPost_ret (v := .tuple #[enV 0 0 [] (.slice none 0 0) [] false, .int .i64 0]) ?_ rfl ?_
    · simp [results, Tryz.results8, go_sem, q0, q1, q2', q3', q4', q5, enV]
    · rw [T.out]
      exact ⟨by first | rfl | (rw [KD.out]), by rw [HN.out]; exact Bw2.out.trans q2⟩
  · have T : Hid (ratT 4 op = some (m, L, ex, false)) := by show _ = _; rw [T0.out]; rw [if_neg hm]
    rw [decide_eq_false hm] at hs
    clear hm
    obtain ⟨e0, e1', e2', e3', e4', e5', e6'⟩ := Ew2.out.cells
    obtain ⟨r0, r1, r2, r3, r4, r5, r6⟩ := Rw2.out.cells
    go_wp2
    obtain ⟨w7, hw7, qq, q2, q3, -, q4⟩ := Rw2.out.put 4 op m (.slice A k cap) ex false
    rw [hw7]
    obtain ⟨q0, q1, q2', q3', q4', q5, -⟩ := qq.cells
    refine bodyPost_ret (v := .tuple #[enV 4 op m (.slice A k cap) ex false, .int .i64 1]) ?_ rfl ?_
    · simp [results, Tryz.results8, go_sem, q0, q1, q2', q3', q4', q5, enV]
    · rw [T.out]
      exact ⟨⟨_, rfl, (put_ownR Rw2.out Ow2.out q4).lift (by have := HN.out; omega)⟩, by rw [HN.out]; exact Bw2.out.trans q2⟩
theorem rat_5 (op : Nat) (hop : op < 256) (w : World) : Calls Tryz.prog 8 #[.int .i64 5, .int .u8 op] w (RetRAt w 5 op (rkindT 5 op) (ratT 5 op)) := by
  obtain ⟨w0, hw0, R0, E0, B0, Z0⟩ := rat_start w 5 op
  obtain ⟨n, hn⟩ : ∃ n, w.heap.size = n := ⟨_, rfl⟩
  rw [hn] at R0 E0 B0 Z0
  have HN := Lib.hid hn
  have HW := Lib.hid hw0
  have Rw0 := Lib.hid R0
  have Ew0 := Lib.hid E0
  have Bw0 := Lib.hid B0
  have ZZ := Lib.hid Z0
  clear hw0 hn R0 E0 B0 Z0
  have KK := both_any 5 op hop w0
  have TT : ratT 5 op = some (bothT 5 op) := rfl
  obtain ⟨⟨m, L, ex, al⟩, hx⟩ : ∃ x, bothT 5 op = x := ⟨_, rfl⟩
  rw [hx] at KK TT
  have T := Lib.hid TT
  have KK := Lib.hid KK
  clear hx TT
  go_enter Tryz.func8, Tryz.ntmps8
  go_upto_region 3 with fail
  rw [HW.out, HN.out]
  clear HW
  go_wp2_with fail
  refine KK.out.mono ?_
  rintro e w1 ⟨v, rfl, hO, hbw1⟩
  simp only at hO
  obtain ⟨A, cap, rfl, -, -⟩ := hO.ops
  simp only [enV]
  have Rw1 := Lib.hid (Rw0.out.all hbw1)
  have Ew1 := Lib.hid (Ew0.out.all hbw1)
  have Bw1 : Hid (Below n w w1) := Bw0.out.trans (hbw1.mono (by have := Ew0.out.lt; omega))
  have Ow1 : Hid (OwnT w1 (n + 2) (.slice A L.length cap) L) := hO.lift (by have := Ew0.out.lt; omega)
  clear hO hbw1 Rw0 Ew0 Bw0 KK
  obtain ⟨k, hk⟩ : ∃ k, L.length = k := ⟨_, rfl⟩
  rw [hk] at Ow1 ⊢
  clear hk
  obtain ⟨r0, r1, r2, r3, r4, r5, r6⟩ := Rw1.out.cells
  go_wp2
  obtain ⟨w7, hw7, qq, q2, q3, -, q4⟩ := Rw1.out.put 5 op m (.slice A k cap) ex al
  rw [hw7]
  obtain ⟨q0, q1, q2', q3', q4', q5, -⟩ := qq.cells
  refine bodyPost_ret (v := .tuple #[enV 5 op m (.slice A k cap) ex al, .int .i64 1]) ?_ rfl ?_
  · simp [results, Tryz.results8, go_sem, q0, q1, q2', q3', q4', q5, enV]
  · rw [T.out]
    exact ⟨⟨_, rfl, (put_ownR Rw1.out Ow1.out q4).lift (by have := HN.out; omega)⟩, by rw [HN.out]; exact Bw1.out.trans q2⟩
theorem rat_6 (op : Nat) (hop : op < 256) (w : World) : Calls Tryz.prog 8 #[.int .i64 6, .int .u8 op] w (RetRAt w 6 op (rkindT 6 op) (ratT 6 op)) := by
  obtain ⟨w0, hw0, R0, E0, B0, Z0⟩ := rat_start w 6 op
  obtain ⟨n, hn⟩ : ∃ n, w.heap.size = n := ⟨_, rfl⟩
  rw [hn] at R0 E0 B0 Z0
  have HN := Lib.hid hn
  have HW := Lib.hid hw0
  have Rw0 := Lib.hid R0
  have Ew0 := Lib.hid E0
  have Bw0 := Lib.hid B0
  have ZZ := Lib.hid Z0
  clear hw0 hn R0 E0 B0 Z0
  have KK := both_any 6 op hop w0
  have TT : ratT 6 op = some (bothT 6 op) := rfl
  obtain ⟨⟨m, L, ex, al⟩, hx⟩ : ∃ x, bothT 6 op = x := ⟨_, rfl⟩
  rw [hx] at KK TT
  have T := Lib.hid TT
  have KK := Lib.hid KK
  clear hx TT
  go_enter Tryz.func8, Tryz.ntmps8
  go_upto_region 3 with fail
  rw [HW.out, HN.out]
  clear HW
  go_wp2_with fail
  refine KK.out.mono ?_
  rintro e w1 ⟨v, rfl, hO, hbw1⟩
  simp only at hO
  obtain ⟨A, cap, rfl, -, -⟩ := hO.ops
  simp only [enV]
  have Rw1 := Lib.hid (Rw0.out.all hbw1)
  have Ew1 := Lib.hid (Ew0.out.all hbw1)
  have Bw1 : Hid (Below n w w1) := Bw0.out.trans (hbw1.mono (by have := Ew0.out.lt; omega))
  have Ow1 : Hid (OwnT w1 (n + 2) (.slice A L.length cap) L) := hO.lift (by have := Ew0.out.lt; omega)
  clear hO hbw1 Rw0 Ew0 Bw0 KK
  obtain ⟨k, hk⟩ : ∃ k, L.length = k := ⟨_, rfl⟩
  rw [hk] at Ow1 ⊢
  clear hk
  obtain ⟨r0, r1, r2, r3, r4, r5, r6⟩ := Rw1.out.cells
  go_wp2
  obtain ⟨w7, hw7, qq, q2, q3, -, q4⟩ := Rw1.out.put 6 op m (.slice A k cap) ex al
  rw [hw7]
  obtain ⟨q0, q1, q2', q3', q4', q5, -⟩ := qq.cells
  refine bodyPost_ret (v := .tuple #[enV 6 op m (.slice A k cap) ex al, .int .i64 1]) ?_ rfl ?_
  · simp [results, Tryz.results8, go_sem, q0, q1, q2', q3', q4', q5, enV]
  · rw [T.out]
    exact ⟨⟨_, rfl, (put_ownR Rw1.out Ow1.out q4).lift (by have := HN.out; omega)⟩, by rw [HN.out]; exact Bw1.out.trans q2⟩
theorem rat_x (op : Nat) (hop : op < 256) (page : Int) (hp : ¬ (0 ≤ page ∧ page ≤ 6)) (w : World) : Calls Tryz.prog 8 #[.int .i64 page, .int .u8 op] w (RetRAt w page op (rkindT page op) (ratT page op)) := by
  obtain ⟨w0, hw0, R0, E0, B0, Z0⟩ := rat_start w page op
  obtain ⟨n, hn⟩ : ∃ n, w.heap.size = n := ⟨_, rfl⟩
  rw [hn] at R0 E0 B0 Z0
  have HN := Lib.hid hn
  have HW := Lib.hid hw0
  have Rw0 := Lib.hid R0
  have Ew0 := Lib.hid E0
  have Bw0 := Lib.hid B0
  have ZZ := Lib.hid Z0
  clear hw0 hn R0 E0 B0 Z0
  have KD : Hid (rkindT page op = 0) := (by unfold rkindT; rw [if_neg (by omega), if_neg (by omega), if_neg (by omega)] : rkindT page op = 0)
  have T : Hid (ratT page op = none) := (by unfold ratT; rw [if_neg (by omega), if_neg (by omega), if_neg (by omega), if_neg (by omega), if_neg (by omega)] : ratT page op = none)
  have p0 : (page == 0) = false := by simp; omega
  have p1 : (page == 1) = false := by simp; omega
  have p2 : (page == 2) = false := by simp; omega
  have p3 : (page == 3) = false := by simp; omega
  have p4 : (page == 4) = false := by simp; omega
  have p5 : (page == 5) = false := by simp; omega
  have p6 : (page == 6) = false := by simp; omega
  clear hp
  go_enter Tryz.func8, Tryz.ntmps8
  go_upto_region 3 with fail
  rw [HW.out, HN.out]
  clear HW
  obtain ⟨r0, r1, r2, r3, r4, r5, r6⟩ := Rw0.out.cells
  go_wp2
  obtain ⟨w7, hw7, qq, q2, q3, -, q4⟩ := Rw0.out.put 0 0 [] (.slice none 0 0) [] false
  rw [show sB [] = (⟨#[]⟩ : ByteArray) from rfl] at hw7
  rw [hw7]
  obtain ⟨q0, q1, q2', q3', q4', q5, -⟩ := qq.cells
  refine bodyPost_ret (v := .tuple #[enV 0 0 [] (.slice none 0 0) [] false, .int .i64 0]) ?_ rfl ?_
  · simp [results, Tryz.results8, go_sem, q0, q1, q2', q3', q4', q5, enV]
  · rw [T.out]
    exact ⟨by first | rfl | (rw [KD.out]), by rw [HN.out]; exact Bw0.out.trans q2⟩
theorem rat_any (page : Int) (op : Nat) (hop : op < 256) (w : World) : Calls Tryz.prog 8 #[.int .i64 page, .int .u8 op] w (RetRAt w page op (rkindT page op) (ratT page op)) := by
  by_cases hp : 0 ≤ page ∧ page ≤ 6
  · rcases (by omega : page = 0 ∨ page = 1 ∨ page = 2 ∨ page = 3 ∨ page = 4 ∨ page = 5 ∨ page = 6) with rfl | rfl | rfl | rfl | rfl | rfl | rfl
    · exact rat_0 op hop w
    · exact rat_1 op hop w
    · exact rat_2 op hop w
    · by_cases h : op = 203
      · exact rat_3a op hop h w
      · exact rat_3 op hop h w
    · by_cases h : op = 203
      · exact rat_4a op hop h w
      · exact rat_4 op hop h w
    · exact rat_5 op hop w
    · exact rat_6 op hop w
  · exact rat_x op hop page hp w
end Go.Proofs.YtipgecdfnbldnaaGreatDoor
