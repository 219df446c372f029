/-
  The reference's Same of two items.
-/
import Derived.Test.YtclhaejdjogfbaaGreatGAR
import Derived.Test.YtclhaejdjogfbaaGreatGAQ
import Derived.Deep.QuietTactic
import Derived.BigQuiet
set_option linter.all false
set_option maxRecDepth 100000
set_option maxHeartbeats 4000000
namespace Go.Proofs.YtclhaejdjogfbaaGreat
open Go.RowKit Go.Shelf
attribute [local go_sem] Oper.semAt_some
theorem sBq_neq (xs ys : Str) : ((sB xs).toList == (sB ys).toList) = decide (xs = ys) := by
  rw [sB_eq, ByteArray.toList_eq, show (sB ys).data.toList = ys by simp [sB]]
theorem two_kept {w w3 : World} {o1 o2 : Array Value} {T : TypeId} (hb : Below ((w.alloc (.cells o1 T)).alloc (.cells o2 T)).heap.size ((w.alloc (.cells o1 T)).alloc (.cells o2 T)) w3) : w3.heap[w.heap.size]? = some (.cells o1 T (0, 0)) ∧ w3.heap[w.heap.size + 1]? = some (.cells o2 T (0, 0)) := by
  constructor
  · exact (hb.block _ (by simp; omega)).trans (((up_alloc (w.alloc (.cells o1 T)) (.cells o2 T)).block _ (by simp)).trans (heap_alloc_new w _))
  · refine (hb.block _ (by simp)).trans ?_
    have h := heap_alloc_new (w.alloc (.cells o1 T)) (.cells o2 T)
    rwa [show (w.alloc (.cells o1 T)).heap.size = w.heap.size + 1 by simp] at h
theorem rsame12_any (k1 k2 : Int) (xs ys : Str) (m1 m2 : Str) (al1 al2' : Bool) (A1 A2 B1 B2 : Option Addr) (c1 c2 d1 d2 : Nat) (L1 L2 : List Tr) (h1 : L1.length ≤ 1000) (h2 : L2.length ≤ 1000) (w : World) (H1 : BytesAt w A1 xs) (H2 : BytesAt w A2 ys) (P1 : OpsP w B1 L1) (P2 : OpsP w B2 L2) :
    Calls Tryz.prog 9 #[.agg #[.int .i64 k1, .slice A1 xs.length c1, .string (sB m1), .slice B1 L1.length d1, .bool al1], .agg #[.int .i64 k2, .slice A2 ys.length c2, .string (sB m2), .slice B2 L2.length d2, .bool al2']] w
      fun e w' => e = .returned (.bool (decide (k1 = k2) && decide (xs = ys) && (decide (m1 = m2) && decide (L1 = L2)) && (al1 == al2'))) ∧ Below w.heap.size w w' := by
  have UU := Lib.hid (al2 w)
  by_cases hk : k1 = k2
  · subst hk
    rw [decide_eq_true rfl, Bool.true_and]
    have X1 := Lib.hid H1
    have X2 := Lib.hid H2
    have SM := Lib.hid (fun o1 o2 => rsame_any m1 m2 B1 B2 d1 d2 L1 L2 h1 h2 ((w.alloc o1).alloc o2) (P1.below (al2 w o1 o2)) (P2.below (al2 w o1 o2)))
    have s1 := fun o1 o2 => conv_sB (H1.below (al2 w o1 o2)) c1
    have s2 := fun o1 o2 => conv_sB (H2.below (al2 w o1 o2)) c2
    obtain ⟨n1, hn1⟩ : ∃ n, L1.length = n := ⟨_, rfl⟩
    obtain ⟨n2, hn2⟩ : ∃ n, L2.length = n := ⟨_, rfl⟩
    obtain ⟨y1, hy1⟩ : ∃ n, xs.length = n := ⟨_, rfl⟩
    obtain ⟨y2, hy2⟩ : ∃ n, ys.length = n := ⟨_, rfl⟩
    have E := sBq_neq xs ys
    rw [hn1, hn2] at SM ⊢
    rw [hy1] at s1 ⊢
    rw [hy2] at s2 ⊢
    clear H1 H2 P1 P2 h1 h2 hn1 hn2 hy1 hy2
    by_cases he : xs = ys
    · rw [decide_eq_true he] at E ⊢
      rw [Bool.true_and]
      clear he
      obtain ⟨e1, he1⟩ : ∃ e, (decide (m1 = m2) && decide (L1 = L2)) = e := ⟨_, rfl⟩
      rw [he1] at SM ⊢
      clear he1
      go_enter Tryz.func9, Tryz.ntmps9
      go_wp2_with fail
      refine (SM.out _ _).mono ?_
      rintro e w3 ⟨rfl, hb3⟩
      have B3 : Hid (Below w.heap.size w w3) := up (UU.out _ _) hb3
      obtain ⟨z1, z2⟩ := two_kept hb3
      have y1 := Lib.cell_of_heap z1 4
      have y2 := Lib.cell_of_heap z2 4
      clear SM hb3 s1 s2 z1 z2
      cases e1
      · go_wp2
        go_ret
        exact ⟨by simp, B3.out⟩
      · go_wp2
        go_ret
        exact ⟨by simp, B3.out⟩
    · rw [decide_eq_false he] at E ⊢
      simp only [Bool.false_and]
      clear SM
      go_enter Tryz.func9, Tryz.ntmps9
      go_wp2
      go_ret
      exact ⟨rfl, UU.out _ _⟩
  · rw [decide_eq_false hk]
    simp only [Bool.false_and]
    have hk2 : (k1 == k2) = false := by simpa using hk
    clear H1 H2 P1 P2
    go_enter Tryz.func9, Tryz.ntmps9
    go_wp2
    go_ret
    exact ⟨rfl, UU.out _ _⟩
end Go.Proofs.YtclhaejdjogfbaaGreat
