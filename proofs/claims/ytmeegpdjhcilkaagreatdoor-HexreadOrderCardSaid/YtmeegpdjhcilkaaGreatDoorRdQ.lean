/-
  The walk over hexread.Normal.
-/
import Derived.Test.YtmeegpdjhcilkaaGreatDoorRdK
namespace Go.Proofs.YtmeegpdjhcilkaaGreatDoor
open Go.RowKit
set_option linter.unusedVariables false

/-- The text of Normal. -/
def normS (r : List Im.Cel × Int × Int) : ByteArray := if r.2.2 = 0 then strOf (textW 16 r.1) else ⟨#[]⟩
set_option maxHeartbeats 2000000 in
theorem normal_any (x : List UInt8) (hx : x.length ≤ 40000000) (w : World) :
    Calls Tryz.prog 8 #[.string (strOf x)] w fun e w' => e = .returned (.tuple #[.string (normS (readT x)), .agg #[.int .i64 (readT x).2.1, .int .i64 (readT x).2.2]]) ∧ Below w.heap.size w w' := by
  have hg := readL_good (n := 0) (V := []) (e := false) (l := linesOf x)
  rw [show readL 0 [] false (linesOf x) = readT x from rfl] at hg
  obtain ⟨w0, hw0⟩ : ∃ w0, w.alloc (.cells #[.int .i64 0, .int .i64 0] 26) = w0 := ⟨_, rfl⟩
  have b0 : Below w.heap.size w w0 := by rw [← hw0]; exact (Below.refl _ _).alloc (Nat.le_refl _) _
  have F0 : Two w0 w.heap.size 26 (.int .i64 0) (.int .i64 0) := by rw [← hw0]; exact World.alloc_heap_new _ _
  have hr := hread_any x hx w0
  obtain ⟨r, hr'⟩ : ∃ r, readT x = r := ⟨_, rfl⟩
  obtain ⟨s, hs⟩ : ∃ s, strOf x = s := ⟨_, rfl⟩
  rw [hr'] at hg
  rw [hr', hs] at hr
  rw [hr', hs]
  obtain ⟨V, l, c⟩ := r
  have B0 := Lib.hid b0
  have FF := Lib.hid F0
  obtain ⟨n, hn⟩ : ∃ n, w.heap.size = n := ⟨_, rfl⟩
  have HN := Lib.hid hn
  rw [hn] at FF
  clear hr' hs hx b0 F0
  go_enter Tryz.func8, Tryz.ntmps8
  go_wp2_with fail
  refine hr.mono ?_
  rintro e w1 ⟨h1, h2, h3⟩
  by_cases hc : c = 0
  · subst hc
    obtain rfl : l = 0 := hg rfl
    obtain ⟨b, rfl, -, hI⟩ := h1 rfl
    have hal : Below w1.heap.size w1 (w1.alloc (.cells #[.int .i64 0, .int .i64 0] 26)) := (Below.refl _ _).alloc (Nat.le_refl _) _
    have hwr := write_any (.pointer (some ⟨b, 0, none⟩)) V (w1.alloc (.cells #[.int .i64 0, .int .i64 0] 26)) (.inr ⟨b, rfl, hI.below hal⟩)
    have B1 : Hid (Below w.heap.size w (w1.alloc (.cells #[.int .i64 0, .int .i64 0] 26))) := (B0.out.trans (h3.mono B0.out.size)).trans (hal.mono (Nat.le_trans B0.out.size h3.size))
    have F1 : Hid (Two (w1.alloc (.cells #[.int .i64 0, .int .i64 0] 26)) n 26 (.int .i64 0) (.int .i64 0)) := (hal.block _ (Nat.lt_of_lt_of_le FF.out.lt h3.size)).trans ((h3.block _ FF.out.lt).trans FF.out)
    have NS : Hid (normS (V, 0, 0) = strOf (textW 16 V)) := rfl
    obtain ⟨t, ht⟩ : ∃ t, strOf (textW 16 V) = t := ⟨_, rfl⟩
    rw [ht] at hwr NS
    clear h1 h2 h3 hr hg hI hal ht
    go_wp2_with fail
    refine hwr.mono ?_
    rintro e w2 ⟨rfl, hb2⟩
    have F2 : Two w2 n 26 (.int .i64 0) (.int .i64 0) := (hb2.block _ F1.out.lt).trans F1.out
    have c0 := F2.c0
    have c1 := F2.c1
    have f0 := F2.f 0
    have f1 := F2.f 1
    have G2 := Lib.hid (F2.set (.int .i64 0) (.int .i64 0))
    have B2 : Hid (Below w.heap.size w w2) := B1.out.trans (hb2.mono B1.out.size)
    clear hb2 hwr F2
    go_wp2
    have d0 := G2.out.c0
    have d1 := G2.out.c1
    refine bodyPost_ret (v := .tuple #[.string t, .agg #[.int .i64 0, .int .i64 0]]) (by simp [results, Tryz.results8, go_sem, d0, d1]) rfl ?_
    refine ⟨by rw [NS.out], ?_⟩
    have hnn := HN.out
    exact (B2.out.setCell (p := ⟨n, 0, none⟩) (by simp; omega) _).setCell (p := ⟨n, 1, none⟩) (by simp; omega) _
  · obtain rfl := h2 hc
    have hal : Below w1.heap.size w1 (w1.alloc (.cells #[.int .i64 l, .int .i64 c] 26)) := (Below.refl _ _).alloc (Nat.le_refl _) _
    have B1 : Hid (Below w.heap.size w (w1.alloc (.cells #[.int .i64 l, .int .i64 c] 26))) := (B0.out.trans (h3.mono B0.out.size)).trans (hal.mono (Nat.le_trans B0.out.size h3.size))
    have F1 : Hid (Two (w1.alloc (.cells #[.int .i64 l, .int .i64 c] 26)) n 26 (.int .i64 0) (.int .i64 0)) := (hal.block _ (Nat.lt_of_lt_of_le FF.out.lt h3.size)).trans ((h3.block _ FF.out.lt).trans FF.out)
    have F3 : Hid (Two (w1.alloc (.cells #[.int .i64 l, .int .i64 c] 26)) w1.heap.size 26 (.int .i64 l) (.int .i64 c)) := World.alloc_heap_new _ _
    have NS : Hid (normS (V, l, c) = ⟨#[]⟩) := by show _ = _; unfold normS; rw [if_neg hc]
    have n1 : (c == 0) = false := beq_eq_false_iff_ne.2 hc
    have n2 : (c != 0) = true := by unfold bne; rw [n1]; rfl
    obtain ⟨w2, hw2⟩ : ∃ w2, w1.alloc (.cells #[.int .i64 l, .int .i64 c] 26) = w2 := ⟨_, rfl⟩
    obtain ⟨m, hm⟩ : ∃ m, w1.heap.size = m := ⟨_, rfl⟩
    rw [hw2] at B1 F1 F3
    rw [hm] at F3
    have c0 := F1.out.c0
    have c1 := F1.out.c1
    have f0 := F1.out.f 0
    have f1 := F1.out.f 1
    have e0 := F3.out.c0
    have e1 := F3.out.c1
    have G2 := Lib.hid (F1.out.set (.int .i64 l) (.int .i64 c))
    have ed : w2.drew.cell? ⟨m, 0, none⟩ = some (.int .i64 l) ∧ w2.drew.cell? ⟨m, 1, none⟩ = some (.int .i64 c) := ⟨e0, e1⟩
    clear h1 h2 h3 hr hg hal hc
    go_wp2
    refine Mixed.wp_region_mixed (fun w' => w'.cell? ⟨m, 0, none⟩ = some (.int .i64 l) ∧ w'.cell? ⟨m, 1, none⟩ = some (.int .i64 c)) 2 [(0, true), (1, true)] (by kernel_rfl) (by kernel_rfl) ed ?_
    refine Mixed.wpMix_pure rfl rfl (.agg #[.int .i64 l, .int .i64 c]) (fun w h => by obtain ⟨q1, q2⟩ := h; go_simp; try rfl) ?_
    refine Mixed.wpMix_assign rfl rfl _ rfl _ rfl ?_
    simp only [Mixed.wpMix, List.drop_succ_cons, List.drop_zero]
    go_wp2
    have d0 : ((w2.setCell ⟨n, 0, none⟩ (.int .i64 l)).setCell ⟨n, 1, none⟩ (.int .i64 c)).drew.cell? ⟨n, 0, none⟩ = some (.int .i64 l) := G2.out.c0
    have d1 : ((w2.setCell ⟨n, 0, none⟩ (.int .i64 l)).setCell ⟨n, 1, none⟩ (.int .i64 c)).drew.cell? ⟨n, 1, none⟩ = some (.int .i64 c) := G2.out.c1
    have hnn := HN.out
    have BB : Below w.heap.size w ((w2.setCell ⟨n, 0, none⟩ (.int .i64 l)).setCell ⟨n, 1, none⟩ (.int .i64 c)).drew := ((B1.out.setCell (p := ⟨n, 0, none⟩) (by simp; omega) _).setCell (p := ⟨n, 1, none⟩) (by simp; omega) _).drew
    obtain ⟨wf, hwf⟩ : ∃ wf, ((w2.setCell ⟨n, 0, none⟩ (.int .i64 l)).setCell ⟨n, 1, none⟩ (.int .i64 c)).drew = wf := ⟨_, rfl⟩
    rw [hwf] at d0 d1 BB
    first | rw [hwf] | skip
    refine bodyPost_ret (v := .tuple #[.string ⟨#[]⟩, .agg #[.int .i64 l, .int .i64 c]]) (by simp [results, Tryz.results8, go_sem, d0, d1]) rfl ?_
    exact ⟨by rw [NS.out], BB⟩
end Go.Proofs.YtmeegpdjhcilkaaGreatDoor
