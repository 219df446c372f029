/-
  Comparisons of rows of tokens: slices.EqualFunc, where all pairs are equal, and the functions that compare two tokens.
-/
import Derived.Test.YtcmcikcagpkocaaDoorLxJ
import Derived.Test.YtcmcikcagpkocaaDoorLxB
namespace Go.Proofs.YtcmcikcagpkocaaDoor
open Go.RowKit
set_option linter.unusedVariables false
attribute [local go_sem] Oper.semAt_some

theorem strBx (a : ByteArray) : (a.toList == a.toList) = true := beq_self_eq_true _
set_option maxRecDepth 100000 in
set_option maxHeartbeats 1000000 in
theorem sameF_any (x : Tk) (w : World) : Calls Tryd.prog 30 #[.agg (tokA x), .agg (tokA x)] w fun e w' => e = .returned (.bool true) ∧ Below w.heap.size w w' := by
  unfold tokA
  obtain ⟨T, hT⟩ : ∃ T, sOf x.t = T := ⟨_, rfl⟩
  rw [hT]
  have q := strBx T
  have B0 : ∀ o o', Hid (Below w.heap.size w ((w.alloc o).alloc o')) := fun o o' => ((Below.refl _ w).alloc (Nat.le_refl _) o).alloc (by simp) o'
  clear hT
  go_enter Tryd.func30, Tryd.ntmps30
  go_wp2
  go_ret
  exact ⟨rfl, (B0 _ _).out⟩
set_option maxRecDepth 100000 in
set_option maxHeartbeats 1000000 in
theorem blankF_any (x y : Tk) (h : x.core = y.core) (w : World) : Calls Tryd.prog 25 #[.agg (tokA x), .agg (tokA y)] w fun e w' => e = .returned (.bool true) ∧ Below w.heap.size w w' := by
  unfold Tk.core at h
  simp only [Prod.mk.injEq] at h
  unfold tokA
  rw [h.1, h.2.1, h.2.2]
  obtain ⟨T, hT⟩ : ∃ T, sOf y.t = T := ⟨_, rfl⟩
  rw [hT]
  have q := strBx T
  have B0 : ∀ o o', Hid (Below w.heap.size w ((w.alloc o).alloc o')) := fun o o' => ((Below.refl _ w).alloc (Nat.le_refl _) o).alloc (by simp) o'
  clear hT h
  go_enter Tryd.func25, Tryd.ntmps25
  go_wp2
  go_ret
  exact ⟨rfl, (B0 _ _).out⟩
set_option maxRecDepth 100000 in
set_option maxHeartbeats 1000000 in
theorem printF_any (x y : Tk) (h : x.core = y.core) (w : World) : Calls Tryd.prog 16 #[.agg (tokA x), .agg (tokA y)] w fun e w' => e = .returned (.bool true) ∧ Below w.heap.size w w' := by
  unfold Tk.core at h
  simp only [Prod.mk.injEq] at h
  unfold tokA
  rw [h.1, h.2.1, h.2.2]
  obtain ⟨T, hT⟩ : ∃ T, sOf y.t = T := ⟨_, rfl⟩
  rw [hT]
  have q := strBx T
  have B0 : ∀ o o', Hid (Below w.heap.size w ((w.alloc o).alloc o')) := fun o o' => ((Below.refl _ w).alloc (Nat.le_refl _) o).alloc (by simp) o'
  clear hT h
  go_enter Tryd.func16, Tryd.ntmps16
  go_wp2
  go_ret
  exact ⟨rfl, (B0 _ _).out⟩
set_option maxRecDepth 100000 in
set_option maxHeartbeats 4000000 in
theorem eqf24_any {g : FuncId} (he : ∀ args w, (callFunc g args).run Tryd.prog w = .ok (.enter g args) w) (A1 A2 : Option Addr) (k cap1 cap2 : Nat) (L1 L2 : List Tk) (hl1 : L1.length = k) (hl2 : L2.length = k) (hk : k ≤ 10000) (w : World) (K1 : KsP w A1 L1) (K2 : KsP w A2 L2)
    (C : ∀ j (h1 : j < L1.length) (h2 : j < L2.length) (w' : World), Calls Tryd.prog g #[.agg (tokA L1[j]), .agg (tokA L2[j])] w' fun e w'' => e = .returned (.bool true) ∧ Below w'.heap.size w' w'') :
    Calls Tryd.prog 24 #[.slice A1 k cap1, .slice A2 k cap2, .func (Fn.func g) #[] #[]] w fun e w' => e = .returned (.bool true) ∧ Below w.heap.size w w' := by
  have KK1 := Lib.hid K1
  have KK2 := Lib.hid K2
  have C1 := Lib.hid C
  have B0 : Hid (Below w.heap.size w w) := Below.refl _ _
  have H1 := Lib.hid hl1
  have H2 := Lib.hid hl2
  clear K1 K2 C hl1 hl2
  go_enter Tryd.func24, Tryd.ntmps24
  go_wp2
  go_loopw [17] (fun iv wr => ∃ j : Nat, j ≤ k ∧ iv = .int .i64 j ∧ Hid (Below w.heap.size w wr)) (fun iv _ => k - (intOf iv).toNat)
  case atStart => exact ⟨0, Nat.zero_le _, rfl, B0⟩
  case round =>
    clear B0
    obtain ⟨j, hj, rfl, B⟩ := hrel
    by_cases h : j < k
    · have hj1 : j < L1.length := by rw [H1.out]; exact h
      have hj2 : j < L2.length := by rw [H2.out]; exact h
      obtain ⟨b1, o1, rfl, hb1, c0, c1, c2, c3⟩ := (KK1.out.below B.out).at_ hj1
      obtain ⟨n1, hn1⟩ : ∃ n1, wr.heap.size = n1 := ⟨_, rfl⟩
      have CC := C1.out j hj1 hj2
      have K2w := KK2.out.below B.out
      obtain ⟨x, hx⟩ : ∃ x, L1[j] = x := ⟨_, rfl⟩
      rw [hx] at c0 c1 c2 c3 CC
      obtain ⟨w2, hw2, T2, y2, z2⟩ := tk_start 33 wr n1 hn1 x.k (sOf x.t) x.n x.p
      obtain ⟨b2, o2, rfl, hb2, d0, d1, d2, d3⟩ := (K2w.below y2).at_ hj2
      obtain ⟨y, hy⟩ : ∃ y, L2[j] = y := ⟨_, rfl⟩
      rw [hy] at d0 d1 d2 d3 CC
      obtain ⟨w3, hw3, T3, y3, z3⟩ := tk_start 34 w2 (n1 + 1) z2 y.k (sOf y.t) y.n y.p
      have T23 := T2.all y3
      obtain ⟨f0, f1, f2, f3, ff⟩ := T23.cells
      obtain ⟨g0, g1, g2, g3, gf⟩ := T3.cells
      have B3 := Lib.hid (B.out.trans ((y2.mono (by have := B.out.size; omega)).trans (y3.mono (by have := B.out.size; omega))))
      have CC1 := Lib.hid CC
      have zz : w.heap.size ≤ w3.heap.size := by have := B.out.size; omega
      clear CC K2w T2 y2 T3 y3 T23 hx hy hj1 hj2 B
      go_wp2_with fail
      refine (CC1.out w3).mono ?_
      rintro e w4 ⟨rfl, hb⟩
      have B4 := Lib.hid (B3.out.trans (hb.mono zz))
      clear hb B3 zz
      go_wp2
      go_roundw
      case rel => exact ⟨j + 1, h, by go_num, B4⟩
      case measure => simp [intOf]; omega
    · go_wp2
      go_ret
      exact ⟨rfl, B.out⟩
set_option maxRecDepth 100000 in
set_option maxHeartbeats 4000000 in
theorem eqf15_any {g : FuncId} (he : ∀ args w, (callFunc g args).run Tryd.prog w = .ok (.enter g args) w) (A1 A2 : Option Addr) (k cap1 cap2 : Nat) (L1 L2 : List Tk) (hl1 : L1.length = k) (hl2 : L2.length = k) (hk : k ≤ 10000) (w : World) (K1 : KsP w A1 L1) (K2 : KsP w A2 L2)
    (C : ∀ j (h1 : j < L1.length) (h2 : j < L2.length) (w' : World), Calls Tryd.prog g #[.agg (tokA L1[j]), .agg (tokA L2[j])] w' fun e w'' => e = .returned (.bool true) ∧ Below w'.heap.size w' w'') :
    Calls Tryd.prog 15 #[.slice A1 k cap1, .slice A2 k cap2, .func (Fn.func g) #[] #[]] w fun e w' => e = .returned (.bool true) ∧ Below w.heap.size w w' := by
  have KK1 := Lib.hid K1
  have KK2 := Lib.hid K2
  have C1 := Lib.hid C
  have B0 : Hid (Below w.heap.size w w) := Below.refl _ _
  have H1 := Lib.hid hl1
  have H2 := Lib.hid hl2
  clear K1 K2 C hl1 hl2
  go_enter Tryd.func15, Tryd.ntmps15
  go_wp2
  go_loopw [17] (fun iv wr => ∃ j : Nat, j ≤ k ∧ iv = .int .i64 j ∧ Hid (Below w.heap.size w wr)) (fun iv _ => k - (intOf iv).toNat)
  case atStart => exact ⟨0, Nat.zero_le _, rfl, B0⟩
  case round =>
    clear B0
    obtain ⟨j, hj, rfl, B⟩ := hrel
    by_cases h : j < k
    · have hj1 : j < L1.length := by rw [H1.out]; exact h
      have hj2 : j < L2.length := by rw [H2.out]; exact h
      obtain ⟨b1, o1, rfl, hb1, c0, c1, c2, c3⟩ := (KK1.out.below B.out).at_ hj1
      obtain ⟨n1, hn1⟩ : ∃ n1, wr.heap.size = n1 := ⟨_, rfl⟩
      have CC := C1.out j hj1 hj2
      have K2w := KK2.out.below B.out
      obtain ⟨x, hx⟩ : ∃ x, L1[j] = x := ⟨_, rfl⟩
      rw [hx] at c0 c1 c2 c3 CC
      obtain ⟨w2, hw2, T2, y2, z2⟩ := tk_start 33 wr n1 hn1 x.k (sOf x.t) x.n x.p
      obtain ⟨b2, o2, rfl, hb2, d0, d1, d2, d3⟩ := (K2w.below y2).at_ hj2
      obtain ⟨y, hy⟩ : ∃ y, L2[j] = y := ⟨_, rfl⟩
      rw [hy] at d0 d1 d2 d3 CC
      obtain ⟨w3, hw3, T3, y3, z3⟩ := tk_start 33 w2 (n1 + 1) z2 y.k (sOf y.t) y.n y.p
      have T23 := T2.all y3
      obtain ⟨f0, f1, f2, f3, ff⟩ := T23.cells
      obtain ⟨g0, g1, g2, g3, gf⟩ := T3.cells
      have B3 := Lib.hid (B.out.trans ((y2.mono (by have := B.out.size; omega)).trans (y3.mono (by have := B.out.size; omega))))
      have CC1 := Lib.hid CC
      have zz : w.heap.size ≤ w3.heap.size := by have := B.out.size; omega
      clear CC K2w T2 y2 T3 y3 T23 hx hy hj1 hj2 B
      go_wp2_with fail
      refine (CC1.out w3).mono ?_
      rintro e w4 ⟨rfl, hb⟩
      have B4 := Lib.hid (B3.out.trans (hb.mono zz))
      clear hb B3 zz
      go_wp2
      go_roundw
      case rel => exact ⟨j + 1, h, by go_num, B4⟩
      case measure => simp [intOf]; omega
    · go_wp2
      go_ret
      exact ⟨rfl, B.out⟩
end Go.Proofs.YtcmcikcagpkocaaDoor
