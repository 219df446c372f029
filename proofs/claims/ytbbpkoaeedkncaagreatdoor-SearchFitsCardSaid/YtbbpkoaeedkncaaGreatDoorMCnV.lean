/-
  The walks over the document's own in and Width.
-/
import Derived.Test.YtbbpkoaeedkncaaGreatDoorMCnW
import Derived.Test.YtbbpkoaeedkncaaGreatDoorGAB
set_option linter.all false
set_option maxRecDepth 100000
set_option maxHeartbeats 4000000
namespace Go.Proofs.YtbbpkoaeedkncaaGreatDoor
open Go.RowKit
def inL (WL : List ByteArray) (s : ByteArray) : Bool := WL.any fun x => x.toList == s.toList
theorem inL_yes (WL : List ByteArray) (s : ByteArray) (j : Nat) (h : j < WL.length) (e : (WL[j].toList == s.toList) = true) : true = inL WL s :=
  (List.any_eq_true.2 ⟨_, List.getElem_mem h, e⟩).symm
theorem inL_no (WL : List ByteArray) (s : ByteArray) (h : ∀ k, k < WL.length → ∀ (a : k < WL.length), (WL[k].toList == s.toList) = false) : false = inL WL s := by
  refine (List.any_eq_false.2 fun x hx => ?_).symm
  obtain ⟨k, hk, rfl⟩ := List.getElem_of_mem hx
  rw [h k hk hk]
  exact Bool.false_ne_true
theorem in_any (A : Option Addr) (cap : Nat) (WL : List ByteArray) (hW : WL.length ≤ 1000) (s : ByteArray) (w : World) (H : StrsA w A WL) :
    Calls Tryz.prog 43 #[.slice A WL.length cap, .string s] w fun e w' => e = .returned (.bool (inL WL s)) ∧ w = w' := by
  have X := Lib.hid H
  have YE := Lib.hid (inL_yes WL s)
  have NO := Lib.hid (inL_no WL s)
  obtain ⟨n, hn⟩ : ∃ n, WL.length = n := ⟨_, rfl⟩
  have HN := Lib.hid hn
  rw [hn] at hW ⊢
  clear H hn
  go_enter Tryz.func43, Tryz.ntmps43
  go_wp2
  go_loopw [5] (fun i wr => ∃ j : Nat, j ≤ n ∧ i = .int .i64 j ∧ Hid (∀ k, k < j → ∀ (a : k < WL.length), (WL[k].toList == s.toList) = false) ∧ wr = w) (fun i _ => n - (intOf i).toNat)
  case atStart => exact ⟨0, Nat.zero_le _, rfl, fun k h => by omega, rfl⟩
  case round =>
    obtain ⟨j, hj, rfl, R, rfl⟩ := hrel
    by_cases hlt : j < n
    · have hj1 : j < WL.length := by rw [HN.out]; exact hlt
      obtain ⟨b1, o1, hA1, p0⟩ := X.out.at_ hj1
      subst hA1
      cases q : (WL[j].toList == s.toList)
      · have R2 : Hid (∀ k, k < j + 1 → ∀ (a : k < WL.length), (WL[k].toList == s.toList) = false) := fun k hk a => by
          by_cases e : k = j
          · subst e; exact q
          · exact R.out k (by omega) a
        obtain ⟨x, hx⟩ : ∃ x, WL[j] = x := ⟨_, rfl⟩
        rw [hx] at p0 q
        clear hx R hj1
        go_wp2
        go_roundw
        case rel => exact ⟨j + 1, by omega, by go_num, R2.out, trivial⟩
        case measure => simp [intOf]; omega
      · have T : Hid (true = inL WL s) := YE.out j hj1 q
        obtain ⟨x, hx⟩ : ∃ x, WL[j] = x := ⟨_, rfl⟩
        rw [hx] at p0 q
        clear hx R hj1
        go_wp2
        go_ret
        exact ⟨ret_bool T.out, rfl⟩
    · have T : Hid (false = inL WL s) := NO.out fun k hk a => R.out k (by have := HN.out; omega) a
      clear R
      go_wp2
      go_ret
      exact ⟨ret_bool T.out, rfl⟩
def W1 : List ByteArray := [⟨#[83, 85, 66]⟩, ⟨#[65, 78, 68]⟩, ⟨#[88, 79, 82]⟩, ⟨#[79, 82]⟩, ⟨#[67, 80]⟩]
def W2 : List ByteArray := [⟨#[65, 68, 68]⟩, ⟨#[65, 68, 67]⟩, ⟨#[83, 66, 67]⟩]
def W4 : List ByteArray := [⟨#[66, 73, 84]⟩, ⟨#[82, 69, 83]⟩, ⟨#[83, 69, 84]⟩, ⟨#[73, 77]⟩, ⟨#[82, 83, 84]⟩, ⟨#[79, 85, 84]⟩]
theorem eqB (a b : ByteArray) : (a.toList == b.toList) = decide (b = a) := by
  by_cases h : b = a
  · subst h; rw [strB_eq, decide_eq_true rfl]
  · rw [decide_eq_false h, strB_ne (fun e => h e.symm)]
theorem in_1 (s : ByteArray) : inL W1 s = decide (I1 s) := Bool.eq_iff_iff.2 (by rw [decide_eq_true_iff]; simp [inL, W1, I1, eqB])
theorem in_2 (s : ByteArray) : inL W2 s = decide (I2 s) := Bool.eq_iff_iff.2 (by rw [decide_eq_true_iff]; simp [inL, W2, I2, eqB])
theorem in_4 (s : ByteArray) : inL W4 s = decide (I4 s) := Bool.eq_iff_iff.2 (by rw [decide_eq_true_iff]; simp [inL, W4, I4, eqB])
theorem rwidth_any (s : ByteArray) (A : Option Addr) (cap : Nat) (L : List Tr) (hL : L.length ≤ 1000) (w : World) (H : OpsP w A L) :
    Calls Tryz.prog 44 #[.agg #[.string s, .slice A L.length cap]] w fun e w' => e = .returned (.int .i64 (widL (opc s) L)) ∧ Below w.heap.size w w' := by
  obtain ⟨w1, hw1⟩ : ∃ w1, (w.alloc (.cells #[.string s, .slice A L.length cap] 24)).alloc (.cells (W4.map Value.string).toArray 9) = w1 := ⟨_, rfl⟩
  have B1 : Hid (Below w.heap.size w w1) := by rw [← hw1]; exact ((Below.refl _ _).alloc (Nat.le_refl _) _).alloc (by simp) _
  have T1 : Hid (Bx w1 w.heap.size s A L.length cap) := by rw [← hw1]; exact ⟨by simp [go_sem], by simp [go_sem]⟩
  have hs4 := strs_of_new (w.alloc (.cells #[.string s, .slice A L.length cap] 24)) W4 9
  have hsz : (w.alloc (.cells #[.string s, .slice A L.length cap] 24)).heap.size = w.heap.size + 1 := by simp
  rw [hw1, hsz] at hs4
  have IN := Lib.hid (in_any (some ⟨w.heap.size + 1, 0, none⟩) 6 W4 (by decide) s w1 hs4)
  rw [in_4] at IN
  have X1 := Lib.hid (H.below B1.out)
  have E4 := Lib.hid (fun h => wid_4 (s := s) L h)
  have E5 := Lib.hid (fun h => wid_5 (s := s) L h)
  have EY := Lib.hid (fun h => wid_6y (s := s) L h)
  have EN := Lib.hid (fun h => wid_6n (s := s) L h)
  have EO := Lib.hid (fun h1 h2 h3 => wid_o (s := s) L h1 h2 h3)
  clear H hs4 hsz
  have hw2 : (w.alloc (.cells #[.string s, .slice A L.length cap] 24)).alloc (.cells #[.string ⟨#[66, 73, 84]⟩, .string ⟨#[82, 69, 83]⟩, .string ⟨#[83, 69, 84]⟩, .string ⟨#[73, 77]⟩, .string ⟨#[82, 83, 84]⟩, .string ⟨#[79, 85, 84]⟩] 9) = w1 := hw1
  clear hw1
  have g9 : W4.length = 6 := rfl
  rw [g9] at IN
  obtain ⟨t0, t1⟩ := T1.out
  by_cases h4 : I4 s
  · have E := Lib.hid (E4.out h4)
    rw [decide_eq_true h4] at IN
    go_enter Tryz.func44, Tryz.ntmps44
    go_wp2_with fail
    refine IN.out.mono ?_
    rintro e w2 ⟨rfl, rfl⟩
    go_wp2
    go_ret
    exact ⟨ret_int E.out, B1.out⟩
  rw [decide_eq_false h4] at IN
  by_cases h5 : I5 s
  · have E := Lib.hid (E5.out h5)
    clear h4
    rcases h5 with rfl | rfl
    all_goals
      go_enter Tryz.func44, Tryz.ntmps44
      go_wp2_with fail
      refine IN.out.mono ?_
      rintro e w2 ⟨rfl, rfl⟩
      go_wp2
      go_ret
      exact ⟨ret_int E.out, B1.out⟩
  by_cases h6 : I6 s
  · have EY := Lib.hid (EY.out h6)
    have EN := Lib.hid (EN.out h6)
    clear h4 h5
    obtain rfl : s = _ := h6
    by_cases h0 : 0 < L.length
    · obtain ⟨b, off, rfl, hb, p0, p1, p2⟩ := X1.out.at_ h0
      rw [Nat.zero_mul, Nat.add_zero] at p0
      have EY := Lib.hid (EY.out h0)
      have EN := Lib.hid (fun (q : ¬ L[0].1 = 3) => EN.out fun _ => q)
      obtain ⟨k, hk⟩ : ∃ k, L[0].1 = k := ⟨_, rfl⟩
      rw [hk] at EY EN p0
      have g1 : decide ((0 : Int) < (L.length : Int)) = true := decide_eq_true (by omega)
      have g2 : (0 : Int) < (L.length : Int) := by omega
      obtain ⟨n, hn⟩ : ∃ n, L.length = n := ⟨_, rfl⟩
      rw [hn] at hL t1 g1 g2 hw2 ⊢
      clear hn hk h0 p1 p2 hb X1 T1
      by_cases hk3 : k = 3
      · have E := Lib.hid (EY.out hk3)
        subst hk3
        go_enter Tryz.func44, Tryz.ntmps44
        go_wp2_with fail
        refine IN.out.mono ?_
        rintro e w2 ⟨rfl, rfl⟩
        go_wp2
        go_ret
        exact ⟨ret_int E.out, B1.out⟩
      · have E := Lib.hid (EN.out hk3)
        go_enter Tryz.func44, Tryz.ntmps44
        go_wp2_with fail
        refine IN.out.mono ?_
        rintro e w2 ⟨rfl, rfl⟩
        go_wp2
        go_ret
        exact ⟨ret_int E.out, B1.out⟩
    · have e0 : L.length = 0 := by omega
      have E := Lib.hid (EN.out fun k => absurd k h0)
      rw [e0] at t1 hw2 ⊢
      clear h0 e0 X1 T1
      go_enter Tryz.func44, Tryz.ntmps44
      go_wp2_with fail
      refine IN.out.mono ?_
      rintro e w2 ⟨rfl, rfl⟩
      go_wp2
      go_ret
      exact ⟨ret_int E.out, B1.out⟩
  · have E := Lib.hid (EO.out h4 h5 h6)
    simp only [I5, not_or] at h5
    obtain ⟨n7, n8⟩ := h5
    have n9 : ¬ s = _ := h6
    have q7 : (s.toList == [74, 80]) = false := by simpa using strB_ne n7
    have q8 : (s.toList == [67, 65, 76, 76]) = false := by simpa using strB_ne n8
    have q9 : (s.toList == [76, 68]) = false := by simpa using strB_ne n9
    clear n7 n8 n9 h6 h4
    go_enter Tryz.func44, Tryz.ntmps44
    go_wp2_with fail
    refine IN.out.mono ?_
    rintro e w2 ⟨rfl, rfl⟩
    go_wp2
    go_ret
    exact ⟨ret_int E.out, B1.out⟩
end Go.Proofs.YtbbpkoaeedkncaaGreatDoor
