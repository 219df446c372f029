/-
  The example of the chapter.
-/
import Derived.Test.YtmnleknehjkmgaaGreatGAW
import Derived.Test.YtmnleknehjkmgaaGreatGAR
set_option linter.all false
set_option maxRecDepth 100000
set_option maxHeartbeats 4000000
namespace Go.Proofs.YtmnleknehjkmgaaGreat
open Go.RowKit Go.Shelf
attribute [local go_sem] Oper.semAt_some
theorem it_ex13 : (itemsR [0, 221, 0, 237]).map Ite.kind = [1, 2, 1, 4] ∧ ((itemsR [0, 221, 0, 237]).map Ite.m)[2]? = some [78, 79, 80] := by decide +kernel
theorem OwnIq.cellK {w : World} {q n l c : Nat} {A : Option Addr} {R : List Xe} (h : OwnIq w q n (.slice A l c) R) (h0 : 0 < R.length) : ∃ g, A = some ⟨g, 0, none⟩ ∧ ∀ k (hk : k < R.length) i u, R[k].c[i]? = some u → w.cell? ⟨g, k * 5 + i, none⟩ = some u := by
  rcases h.1.2 with ⟨_, h1⟩ | ⟨g, cap, cur, e, _⟩
  · omega
  · simp only [Value.slice.injEq] at e
    obtain ⟨rfl, rfl, rfl⟩ := e
    refine ⟨g, rfl, fun k hk i u hu => ?_⟩
    have hi := Xe.c_lt _ hu
    exact (World.ownsRow.cellAt h.1 (k * 5 + i) (by omega)).trans ((cellsI_at R k hk i hi).trans hu)
theorem alive13_any (w : World) (hM : MaxAt w) : Calls Tryz.prog 8 #[] w fun e w' => e = .returned (.bool true) ∧ Below w.heap.size w w' := by
  obtain ⟨EK, EM⟩ := it_ex13
  obtain ⟨g1, w1, hg1, hw1, S1, y1, z1⟩ := Fr.box (Fr.nil w) #[.int .u8 0, .int .u8 221, .int .u8 0, .int .u8 237] 5
  have HB : BytesAt w1 (some ⟨g1, 0, none⟩) [0, 221, 0, 237] := by
    have h := own_lit w [0, 221, 0, 237] (by decide)
    obtain ⟨A', c', e, hP⟩ := h.bytes
    simp only [Value.slice.injEq] at e
    obtain ⟨rfl, -, -⟩ := e
    rw [← hw1, ← hg1]
    exact hP
  have D1 := decode13_any [0, 221, 0, 237] (some ⟨g1, 0, none⟩) 4 4 rfl (Nat.le_refl _) (by unfold maxLen; omega) (by decide) w1 HB (hM.below y1)
  obtain ⟨L, hL⟩ : ∃ z, itemsR [0, 221, 0, 237] = z := ⟨_, rfl⟩
  rw [hL] at D1 EK EM
  have Y1 := Lib.hid y1
  have EK := Lib.hid EK
  have EM := Lib.hid EM
  clear hL y1 S1 hM HB
  go_enter Tryz.func8, Tryz.ntmps8
  go_wp2_with fail
  refine D1.mono ?_
  rintro e w2 ⟨A, c, R, rfl, hR, hO, hb⟩
  have hlen : R.length = 4 := by
    have h1 := congrArg List.length EK.out
    have h2 := congrArg List.length hR
    simp only [List.length_map] at h1 h2
    rw [h2, h1]
    rfl
  obtain ⟨g, rfl, hc⟩ := OwnIq.cellK hO (by omega)
  have K : ∀ k (hk : k < R.length), L[k]? = some R[k].x := fun k hk => by rw [← hR, List.getElem?_map, List.getElem?_eq_getElem hk]; rfl
  have KD : ∀ k (hk : k < R.length) z, [(1 : Int), 2, 1, 4][k]? = some z → w2.cell? ⟨g, k * 5 + 0, none⟩ = some (.int .i64 z) := fun k hk z hz => by
    rw [← EK.out, List.getElem?_map, K k hk] at hz
    have hz : R[k].x.kind = z := by simpa using hz
    rw [← hz]
    exact hc k hk 0 _ rfl
  have k0 := KD 0 (by omega) 1 rfl
  have k1 := KD 1 (by omega) 2 rfl
  have k3 := KD 3 (by omega) 4 rfl
  have k2 : w2.cell? ⟨g, 2 * 5 + 2, none⟩ = some (.string ⟨#[78, 79, 80]⟩) := by
    have h := EM.out
    rw [List.getElem?_map, K 2 (by omega)] at h
    have h : R[2].x.m = [78, 79, 80] := by simpa using h
    have h2 := hc 2 (by omega) 2 (.string (sB R[2].x.m)) rfl
    rw [h] at h2
    exact h2
  simp only [Nat.reduceMul, Nat.reduceAdd, Nat.zero_mul, Nat.one_mul] at k0 k1 k2 k3
  rw [hlen]
  have B2 : Hid (Below w.heap.size w w2) := Y1.out.trans (hb.mono Y1.out.size)
  clear D1 hR hO hb hlen hc K KD EK EM Y1
  go_wp2
  go_ret
  exact ⟨rfl, B2.out⟩
end Go.Proofs.YtmnleknehjkmgaaGreat
