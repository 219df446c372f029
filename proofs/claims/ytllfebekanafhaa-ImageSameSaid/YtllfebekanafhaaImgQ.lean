/-
  The walks over slices.Equal at []byte, the law's alive, given and Same.
-/
import Derived.Test.YtllfebekanafhaaImgP
namespace Go.Proofs.Ytllfebekanafhaa
open Go.RowKit
set_option linter.unusedVariables false

theorem beq_byte (a b : UInt8) : ((a.toNat : Int) == (b.toNat : Int)) = decide (a = b) := by
  by_cases h : a = b
  · subst h; simp
  · rw [decide_eq_false h, beq_eq_false_iff_ne]
    intro e
    exact h (UInt8.toNat_inj.1 (by omega))
def SomeDraws (w : World) (b : Bool) (e : Ending) (w' : World) : Prop := e = .returned (.bool b) ∧ ∃ q, w' = w.drewN q
set_option maxHeartbeats 1000000 in
/-- slices.Equal of two slices that read alike. -/
theorem equalS_any (P Q : Nat → Prop) (A1 A2 : Option Addr) (c1 c2 : Nat) (xs : List UInt8) (hx : xs.length ≤ maxLen) (w : World) (h1 : BytesP P w A1 xs) (h2 : BytesP Q w A2 xs) :
    Calls Try.prog 26 #[.slice A1 xs.length c1, .slice A2 xs.length c2] w (SomeDraws w true) := by
  unfold maxLen at hx
  have H1 := Lib.hid h1
  have H2 := Lib.hid h2
  clear h1 h2
  obtain ⟨n, hn⟩ : ∃ n, xs.length = n := ⟨_, rfl⟩
  have L1 := Lib.hid hn
  rw [hn] at hx ⊢
  clear hn
  go_enter Try.func26, Try.ntmps26
  go_wp2
  go_loopw [13] (fun i wr => ∃ k q : Nat, k ≤ n ∧ i = .int .i64 k ∧ wr = w.drewN q) (fun i _ => n - (intOf i).toNat)
  case atStart => exact ⟨0, 0, Nat.zero_le _, rfl, rfl⟩
  case round =>
    obtain ⟨k, q, hk, rfl, rfl⟩ := hrel
    by_cases hlt : k < n
    · obtain ⟨b1, o1, hA1, g1⟩ := H1.out.at_ (show k < xs.length by have := L1.out; omega)
      obtain ⟨b2, o2, hA2, g2⟩ := H2.out.at_ (show k < xs.length by have := L1.out; omega)
      subst hA1 hA2
      obtain ⟨x, hx⟩ : ∃ x : Int, ((xs[k]'(by have := L1.out; omega)).toNat : Int) = x := ⟨_, rfl⟩
      rw [hx] at g1 g2
      clear hx
      go_wp2_with fail
      go_quiet (fail)
      go_wp2
      go_roundw
      case rel => exact ⟨k + 1, _, by omega, by go_num, rfl⟩
      case measure => simp [intOf]; omega
    · go_wp2
      go_ret
      exact ⟨rfl, _, rfl⟩
theorem runs_mem_le {W : List Cel} {r : Rn} (h : r ∈ runsW W) : r.2.length ≤ W.length := by
  obtain ⟨s, t, e⟩ := List.append_of_mem h
  have h1 := expand_runs W
  rw [e, show s ++ r :: t = s ++ ([r] ++ t) from rfl, expand_append, expand_append] at h1
  have h2 := congrArg List.length h1
  have h3 : (expand [r]).length = r.2.length := by unfold expand; simp [mkW_length]
  rw [List.length_append, List.length_append, h3] at h2
  omega
theorem pairs_get {rs : List R} {l : List Rn} (h : pairs rs = pairN l) (k : Nat) (hk : k < rs.length) : ∃ hl : k < l.length, rs[k].addr = (l[k].1 : Int) ∧ rs[k].data = l[k].2 := by
  have hl : k < l.length := by rw [← pairs_length h]; exact hk
  have h1 : (pairs rs)[k]? = (pairN l)[k]? := by rw [h]
  unfold pairs pairN at h1
  rw [List.getElem?_map, List.getElem?_map, List.getElem?_eq_getElem hk, List.getElem?_eq_getElem hl] at h1
  simp only [Option.map_some, Option.some.injEq, Prod.mk.injEq] at h1
  exact ⟨hl, h1.1, h1.2⟩
theorem RunsP.get {S P : Nat → Prop} {w : World} {b off : Nat} {rs : List R} (h : RunsP S P w (some ⟨b, off, none⟩) rs) {k : Nat} (hk : k < rs.length) :
    w.cell? ⟨b, off + k * 2, none⟩ = some (.int .i64 rs[k].addr) ∧ w.cell? ⟨b, off + k * 2 + 1, none⟩ = some (.slice rs[k].A rs[k].data.length rs[k].cap) := by
  obtain ⟨b', off', h1, h2, h3⟩ := h.at_ hk
  have := Option.some.inj h1
  simp only [Addr.mk.injEq, and_true] at this
  rw [this.1, this.2]
  exact ⟨h2, h3⟩

set_option maxHeartbeats 4000000 in
/-- The law's Same, at an image and cells that agree. -/
theorem lsame_any (b : Nat) (W : List Cel) (P : Nat → Prop) (A : Option Addr) (cap : Nat) (w : World) (hI : ImgOf w b W) (hC : CellsP P w A W) :
    Calls Try.prog 14 #[.pointer (some ⟨b, 0, none⟩), .slice A W.length cap] w fun e w' => e = .returned (.int .i64 1) ∧ Below w.heap.size w w' := by
  have hs := hI.1
  have hl := sorted_length hs
  have I := Lib.hid hI
  have C := Lib.hid hC
  have HS := Lib.hid hs
  clear hI hC hs
  go_enter Try.func14, Try.ntmps14
  go_wp2_with fail
  refine (runs_any b W _ I.out).mono ?_
  rintro e w1 ⟨A1, cap1, rs1, rfl, hc1, E1, R1, B1⟩
  have C1 := Lib.hid (C.out.below B1)
  go_wp2_with fail
  refine (rruns_any P A cap W HS.out _ C1.out).mono ?_
  rintro e w2 ⟨A2, cap2, rs2, rfl, hc2, E2, R2, B2⟩
  have l1 := pairs_length E1
  have l2 := pairs_length E2
  have l3 := runs_length_le W
  obtain ⟨n, hn⟩ : ∃ n, rs1.length = n := ⟨_, rfl⟩
  have hn2 : rs2.length = n := by omega
  have hn3 : n ≤ 65536 := by omega
  have L1 := Lib.hid hn
  have L2 := Lib.hid hn2
  have F1 := Lib.hid E1
  have F2 := Lib.hid E2
  have Q1 := Lib.hid (R1.below B2)
  have Q2 := Lib.hid R2
  have BB := Lib.hid (B1.trans (B2.mono B1.size))
  have I2 := Lib.hid (I.out.below BB.out)
  rw [hn, hn2]
  clear hn hn2 l1 l2 l3 E1 E2 R1 R2 B1 B2 hc1 hc2
  go_wp2_with fail
  refine (lenOf_any b W _ I2.out).mono ?_
  rintro e w3 ⟨rfl, rfl⟩
  go_wp2
  go_loopw [27] (fun i wr => ∃ k : Nat, k ≤ n ∧ i = .int .i64 k ∧ Below w2.heap.size w2 wr) (fun i _ => n - (intOf i).toNat)
  case atStart => exact ⟨0, Nat.zero_le _, rfl, Below.refl _ _⟩
  case round =>
    obtain ⟨k, hk, rfl, hB⟩ := hrel
    have B := Lib.hid hB
    clear hB
    by_cases hlt : k < n
    · have hk1 : k < rs1.length := by have := L1.out; omega
      have hk2 : k < rs2.length := by have := L2.out; omega
      have T1 := Lib.hid (Q1.out.below B.out)
      have T2 := Lib.hid (Q2.out.below B.out)
      obtain ⟨b1, o1, hA1, p1, p2⟩ := T1.out.at_ hk1
      obtain ⟨b2, o2, hA2, q1, q2⟩ := T2.out.at_ hk2
      subst hA1 hA2
      obtain ⟨hl1, ea1, ed1⟩ := pairs_get F1.out k hk1
      obtain ⟨hl2, ea2, ed2⟩ := pairs_get F2.out k hk2
      have D1 := T1.out.2 _ (List.getElem_mem hk1)
      have D2 := T2.out.2 _ (List.getElem_mem hk2)
      obtain ⟨d, hd⟩ : ∃ d, (runsW W)[k].2 = d := ⟨_, rfl⟩
      have hdl : d.length ≤ maxLen := by
        have := runs_mem_le (List.getElem_mem hl1)
        rw [hd] at this
        unfold maxLen; omega
      obtain ⟨r1, hr1⟩ : ∃ r, rs1[k] = r := ⟨_, rfl⟩
      obtain ⟨r2, hr2⟩ : ∃ r, rs2[k] = r := ⟨_, rfl⟩
      rw [hr1] at ea1 ed1 p1 p2 D1
      rw [hr2] at ea2 ed2 q1 q2 D2
      rw [hd] at ed1 ed2
      obtain ⟨x, hx⟩ : ∃ x : Int, (((runsW W)[k].1 : Nat) : Int) = x := ⟨_, rfl⟩
      rw [hx] at ea1 ea2
      rw [ea1] at p1
      rw [ea2] at q1
      rw [ed1] at p2 D1
      rw [ed2] at q2 D2
      have hlt' : (k : Int) < (n : Int) := by omega
      obtain ⟨ob, hob⟩ : ∃ o, Obj.cells #[.int .i64 x, .slice r1.A d.length r1.cap] 47 = o := ⟨_, rfl⟩
      have hal : Below wr.heap.size wr (wr.alloc ob) := (Below.refl _ _).alloc (Nat.le_refl _) ob
      have heq := fun nq => equalS_any _ _ r1.A r2.A r1.cap r2.cap d hdl ((wr.alloc ob).drewN nq) ((D1.below hal).drewN nq) ((D2.below hal).drewN nq)
      have BN := fun nq => Lib.hid (B.out.trans ((hal.trans (below_drewN (wr.alloc ob) nq |>.mono hal.size)).mono B.out.size))
      have hw1 := World.block_lt_of_cell? wr _ q1
      have q1' := (hal.cell (p := ⟨b2, o2 + k * 2, none⟩) hw1).trans q1
      have q2' := (hal.cell (p := ⟨b2, o2 + k * 2 + 1, none⟩) hw1).trans q2
      rw [← hob] at heq BN q1' q2'
      clear hr1 hr2 hx hd ea1 ea2 ed1 ed2 hl1 hl2 D1 D2 hk1 hk2 hdl hob hal hw1
      go_wp2_with fail
      go_quiet ((go_at_call 26; exact Calls.quiet_of (heq _)))
      go_wp2
      go_roundw
      case rel => exact ⟨k + 1, by omega, by go_num, (BN _).out⟩
      case measure => simp [intOf]; omega
    · have hlt' : decide ((k : Int) < (n : Int)) = false := decide_eq_false (by omega)
      have N := Lib.hid (BB.out.trans (B.out.mono BB.out.size))
      go_wp2
      go_ret
      exact ⟨rfl, N.out⟩
end Go.Proofs.Ytllfebekanafhaa
