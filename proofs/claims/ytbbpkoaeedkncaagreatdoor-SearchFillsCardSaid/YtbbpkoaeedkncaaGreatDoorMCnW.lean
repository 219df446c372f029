/-
  The walk over Width: for every instruction the number of bytes that its numbers take.
-/
import Derived.Test.YtbbpkoaeedkncaaGreatDoorGAA
set_option linter.all false
set_option maxRecDepth 100000
set_option maxHeartbeats 4000000
namespace Go.Proofs.YtbbpkoaeedkncaaGreatDoor
open Go.RowKit
theorem wid_4 {s : ByteArray} (L : List Tr) (h : I4 s) : (0 : Int) = widL (opc s) L := by rw [opc_4 h]; rfl
theorem wid_5 {s : ByteArray} (L : List Tr) (h : I5 s) : (2 : Int) = widL (opc s) L := by rw [opc_5 h]; rfl
theorem wid_6y {s : ByteArray} (L : List Tr) (h : I6 s) (k : 0 < L.length) (e : L[0].1 = 3) : (2 : Int) = widL (opc s) L := by
  rw [opc_6 h]
  cases L with
  | nil => simp at k
  | cons t r =>
    have e' : t.1 = 3 := e
    unfold widL
    rw [if_neg (by omega), if_neg (by omega), if_pos ⟨rfl, by simp [e']⟩]
theorem wid_6n {s : ByteArray} (L : List Tr) (h : I6 s) (e : ∀ k : 0 < L.length, ¬ L[0].1 = 3) : (1 : Int) = widL (opc s) L := by
  rw [opc_6 h]
  unfold widL
  rw [if_neg (by omega), if_neg (by omega), if_neg]
  rintro ⟨-, q⟩
  cases L with
  | nil => simp at q
  | cons t r => exact e (by simp) (by simpa using q)
theorem wid_o {s : ByteArray} (L : List Tr) (h4 : ¬ I4 s) (h5 : ¬ I5 s) (h6 : ¬ I6 s) : (1 : Int) = widL (opc s) L := by
  unfold widL
  rw [if_neg (opc_n4 h4), if_neg (opc_n5 h5), if_neg (fun q => opc_n6 h6 q.1)]
theorem width_any (s : ByteArray) (A : Option Addr) (cap : Nat) (L : List Tr) (hL : L.length ≤ 1000) (w : World) (H : OpsP w A L) :
    Calls Tryz.prog 126 #[.agg #[.string s, .slice A L.length cap]] w fun e w' => e = .returned (.int .i64 (widL (opc s) L)) ∧ Below w.heap.size w w' := by
  have B0 : Hid (Below w.heap.size w (w.alloc (.cells #[.string s, .slice A L.length cap] 24))) := (Below.refl _ _).alloc (Nat.le_refl _) _
  by_cases h4 : I4 s
  · have E := Lib.hid (wid_4 L h4)
    clear H
    rcases h4 with rfl | rfl | rfl | rfl | rfl | rfl
    all_goals
      go_enter Tryz.func126, Tryz.ntmps126
      go_wp2
      go_ret
      exact ⟨ret_int E.out, B0.out⟩
  by_cases h5 : I5 s
  · have E := Lib.hid (wid_5 L h5)
    clear H h4
    rcases h5 with rfl | rfl
    all_goals
      go_enter Tryz.func126, Tryz.ntmps126
      go_wp2
      go_ret
      exact ⟨ret_int E.out, B0.out⟩
  by_cases h6 : I6 s
  · have EY := Lib.hid (wid_6y L h6)
    have EN := Lib.hid (wid_6n L h6)
    have X := Lib.hid (H.below B0.out)
    clear h4 h5 H
    obtain rfl : s = _ := h6
    by_cases h0 : 0 < L.length
    · obtain ⟨b, off, rfl, hb, p0, p1, p2⟩ := X.out.at_ h0
      rw [Nat.zero_mul, Nat.add_zero] at p0
      obtain ⟨n, hn⟩ : ∃ n, L.length = n := ⟨_, rfl⟩
      have EY := Lib.hid (EY.out h0)
      have EN := Lib.hid (fun (q : ¬ L[0].1 = 3) => EN.out fun _ => q)
      obtain ⟨k, hk⟩ : ∃ k, L[0].1 = k := ⟨_, rfl⟩
      rw [hk] at EY EN p0
      have g1 : decide ((0 : Int) < (L.length : Int)) = true := decide_eq_true (by omega)
      have g2 : (0 : Int) < (L.length : Int) := by omega
      have hL2 : L.length ≤ 1000 := hL
      rw [hn] at hL p0 p1 p2 B0 X g1 g2 ⊢
      clear hn hk h0 p1 p2 hb
      by_cases hk3 : k = 3
      · have E := Lib.hid (EY.out hk3)
        subst hk3
        go_enter Tryz.func126, Tryz.ntmps126
        go_wp2
        go_ret
        exact ⟨ret_int E.out, B0.out⟩
      · have E := Lib.hid (EN.out hk3)
        go_enter Tryz.func126, Tryz.ntmps126
        go_wp2
        go_ret
        exact ⟨ret_int E.out, B0.out⟩
    · have e0 : L.length = 0 := by omega
      have E := Lib.hid (EN.out fun k => absurd k h0)
      rw [e0] at B0 ⊢
      clear h0 e0 X
      go_enter Tryz.func126, Tryz.ntmps126
      go_wp2
      go_ret
      exact ⟨ret_int E.out, B0.out⟩
  · have E := Lib.hid (wid_o L h4 h5 h6)
    clear H
    simp only [I4, not_or] at h4
    simp only [I5, not_or] at h5
    obtain ⟨n1, n2, n3, n4, n5, n6⟩ := h4
    obtain ⟨n7, n8⟩ := h5
    have n9 : ¬ s = _ := h6
    have q1 : (s.toList == [66, 73, 84]) = false := by simpa using strB_ne n1
    have q2 : (s.toList == [82, 69, 83]) = false := by simpa using strB_ne n2
    have q3 : (s.toList == [83, 69, 84]) = false := by simpa using strB_ne n3
    have q4 : (s.toList == [73, 77]) = false := by simpa using strB_ne n4
    have q5 : (s.toList == [82, 83, 84]) = false := by simpa using strB_ne n5
    have q6 : (s.toList == [79, 85, 84]) = false := by simpa using strB_ne n6
    have q7 : (s.toList == [74, 80]) = false := by simpa using strB_ne n7
    have q8 : (s.toList == [67, 65, 76, 76]) = false := by simpa using strB_ne n8
    have q9 : (s.toList == [76, 68]) = false := by simpa using strB_ne n9
    clear n1 n2 n3 n4 n5 n6 n7 n8 n9 h6
    go_enter Tryz.func126, Tryz.ntmps126
    go_wp2
    go_ret
    exact ⟨ret_int E.out, B0.out⟩
end Go.Proofs.YtbbpkoaeedkncaaGreatDoor
