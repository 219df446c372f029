/-
  Bytes that are written in place; copies of bytes that came in; the cells of a row of records.
-/
import Derived.Test.YtbnehcnimbkakaaRecY
namespace Go.Proofs.Ytbnehcnimbkakaa
open Go.RowKit
set_option linter.unusedVariables false

/-- n bytes that may be written, in a block that has the property P. -/
def TyP (P : Nat → Prop) (w : World) (A : Option Addr) (n : Nat) : Prop :=
  n = 0 ∨ ∃ b off, A = some ⟨b, off, none⟩ ∧ P b ∧ ∀ j, j < n → (∃ y : Int, w.cell? ⟨b, off + j, none⟩ = some (.int .u8 y)) ∧ w.frozen? ⟨b, off + j, none⟩ = false
theorem TyP.of {P : Nat → Prop} {w : World} {A : Option Addr} {xs : List UInt8} (h : BytesP P w A xs) (hw : Wr w A xs) : TyP P w A xs.length := by
  rcases h with h | ⟨b, off, h1, h2, h3⟩
  · left; rw [h]; rfl
  · rcases hw with h | ⟨b', off', cs, t, h4, h5⟩
    · left; rw [h]; rfl
    · rw [h1] at h4
      simp only [Option.some.injEq, Addr.mk.injEq, and_true] at h4
      obtain ⟨rfl, rfl⟩ := h4
      exact .inr ⟨b, off, h1, h2, fun j hj => ⟨⟨_, h3 j hj⟩, frozen_of_row w b _ cs t h5⟩⟩
theorem TyP.mono {P Q : Nat → Prop} {w : World} {A : Option Addr} {n : Nat} (h : TyP P w A n) (hPQ : ∀ i, i < w.heap.size → P i → Q i) : TyP Q w A n := by
  by_cases h0 : n = 0
  · exact .inl h0
  · rcases h with h | ⟨b, off, h1, h2, h3⟩
    · exact .inl h
    · obtain ⟨y, hy⟩ := (h3 0 (by omega)).1
      exact .inr ⟨b, off, h1, hPQ b (World.block_lt_of_cell? w _ hy) h2, h3⟩
theorem TyP.blocks {P : Nat → Prop} {w w' : World} {A : Option Addr} {n : Nat} (h : TyP P w A n) (hk : ∀ i, i < w.heap.size → P i → w'.heap[i]? = w.heap[i]?) : TyP P w' A n := by
  rcases h with h | ⟨b, off, h1, h2, h3⟩
  · exact .inl h
  · refine .inr ⟨b, off, h1, h2, fun j hj => ?_⟩
    obtain ⟨⟨y, hy⟩, hf⟩ := h3 j hj
    have e := hk b (World.block_lt_of_cell? w _ hy) h2
    exact ⟨⟨y, (World.cell?_of_block (w := w) e).trans hy⟩, (World.frozen?_of_block (w := w) (a := ⟨b, off + j, none⟩) e).trans hf⟩
theorem TyP.below {P : Nat → Prop} {w w' : World} {A : Option Addr} {n : Nat} (h : TyP P w A n) (k : Below w.heap.size w w') : TyP P w' A n := h.blocks fun i hi _ => k.block i hi
theorem TyP.set {P : Nat → Prop} {w : World} {A : Option Addr} {n : Nat} (h : TyP P w A n) (b o : Nat) (y : Int) : TyP P (w.setCell ⟨b, o, none⟩ (.int .u8 y)) A n := by
  rcases h with h | ⟨b', off, h1, h2, h3⟩
  · exact .inl h
  · refine .inr ⟨b', off, h1, h2, fun j hj => ?_⟩
    obtain ⟨⟨z, hz⟩, hf⟩ := h3 j hj
    refine ⟨?_, by simp [go_sem, hf]⟩
    by_cases e : (⟨b, o, none⟩ : Addr) = ⟨b', off + j, none⟩
    · rw [e]
      exact ⟨y, World.cell?_setCell_same _ _ _ hz⟩
    · exact ⟨z, by rw [World.cell?_setCell_other _ _ _ _ e]; exact hz⟩
theorem TyP.at_ {P : Nat → Prop} {w : World} {A : Option Addr} {n : Nat} (h : TyP P w A n) {j : Nat} (hj : j < n) : ∃ b off y, A = some ⟨b, off, none⟩ ∧ P b ∧ w.cell? ⟨b, off + j, none⟩ = some (.int .u8 y) ∧ w.frozen? ⟨b, off + j, none⟩ = false := by
  rcases h with h | ⟨b, off, h1, h2, h3⟩
  · omega
  · obtain ⟨⟨y, hy⟩, hf⟩ := h3 j hj
    exact ⟨b, off, y, h1, h2, hy, hf⟩
/-- 'append([]byte{}, xs...)'. -/
theorem own_copy {P : Nat → Prop} {wa : World} {A : Option Addr} {xs : List UInt8} (hx : BytesP P wa A xs) (cap : Nat) (hl : xs.length ≤ 70368744177664) (ty : TypeId) :
    ∃ Ao co wc, (Builtin.append_ #[22, 22] ty #[.slice (some ⟨wa.heap.size, 0, none⟩) 0 0, .slice A xs.length cap]).run Try.prog (wa.alloc (.cells #[] 5)) = .ok (.slice Ao xs.length co) wc ∧
      BytesP (fun i => i < wc.heap.size) wc Ao xs ∧ xs.length ≤ co ∧ Below wa.heap.size wa wc := by
  obtain ⟨i0, hi, hz0, hz1, hz2⟩ := info_parts info_u8
  have hb : Below wa.heap.size wa (wa.alloc (.cells #[] 5)) := (Below.refl _ _).alloc (Nat.le_refl _) _
  have hown := World.ownsRow_made (base := wa.heap.size) (e := 5) (size := 1) wa #[] 0 (Nat.le_refl _) (by unfold maxLen; omega) rfl
  obtain ⟨v', w', k1, k2, k3⟩ := run_append_src (wa.alloc (.cells #[] 5)) wa.heap.size 22 ty 5 i0 _ 1 1 Try.underlying22 hi hz0 hz1 hz2 rfl (by decide) _ 0 [] hown A xs.length cap (xs.map u8V)
    (by simp) (hx.below hb).news (fun u hu => by obtain ⟨x, _, rfl⟩ := List.mem_map.1 hu; rfl) (by unfold maxLen; omega) (by omega) (by simp)
  rw [List.nil_append, Nat.zero_add] at k2
  obtain ⟨A', cap', hv, hB⟩ := own_bytes k2 rfl
  subst hv
  have hBel : Below wa.heap.size wa w' := hb.grown k3 (by simp) fun k hk => (hown.lt k hk).1
  refine ⟨A', cap', w', k1, hB.mono fun i hi _ => hi, ?_, hBel⟩
  rcases k2.2 with ⟨h1, h0⟩ | ⟨g, cap2, cur, h1, _, _, hm, _⟩
  · omega
  · simp only [Value.slice.injEq, true_and] at h1
    omega
/-- The cells of a row of records. -/
def Sp (w : World) (g : Nat) (rs : List R) : Prop := ∀ k (hk : k < rs.length), w.cell? ⟨g, k * 3, none⟩ = some (.int .i64 0) ∧ w.cell? ⟨g, k * 3 + 1, none⟩ = some (.int .i64 rs[k].addr) ∧ w.cell? ⟨g, k * 3 + 2, none⟩ = some (.slice rs[k].A rs[k].data.length rs[k].cap)
theorem Sp.set {w : World} {g : Nat} {rs : List R} (h : Sp w g rs) {a : Addr} (ha : a.block ≠ g) (v : Value) : Sp (w.setCell a v) g rs := fun k hk => by
  obtain ⟨h1, h2, h3⟩ := h k hk
  exact ⟨by rw [World.cell?_setCell_other _ _ _ _ (fun e => ha (by rw [e]))]; exact h1, by rw [World.cell?_setCell_other _ _ _ _ (fun e => ha (by rw [e]))]; exact h2, by rw [World.cell?_setCell_other _ _ _ _ (fun e => ha (by rw [e]))]; exact h3⟩
theorem Sp.below {w w' : World} {g : Nat} {rs : List R} (h : Sp w g rs) (k : Below w.heap.size w w') : Sp w' g rs := fun j hj => by
  obtain ⟨h1, h2, h3⟩ := h j hj
  exact ⟨(k.cell (p := ⟨g, j * 3, none⟩) (World.block_lt_of_cell? w _ h1)).trans h1, (k.cell (p := ⟨g, j * 3 + 1, none⟩) (World.block_lt_of_cell? w _ h2)).trans h2, (k.cell (p := ⟨g, j * 3 + 2, none⟩) (World.block_lt_of_cell? w _ h3)).trans h3⟩
/-- What the records that were returned are good for. -/
theorem recs_open {n₀ : Nat} {w' : World} {v : Value} {rs : List R} (h : OwnR 28 n₀ (n₀ ≤ ·) w' v rs) (hW : ∀ r ∈ rs, Wr w' r.A r.data) :
    ∃ A cap g, v = .slice A rs.length cap ∧ (0 < rs.length → A = some ⟨g, 0, none⟩) ∧ n₀ ≤ g ∧ Sp w' g rs ∧ ∀ r ∈ rs, TyP (fun i => n₀ ≤ i ∧ i ≠ g ∧ i < w'.heap.size) w' r.A r.data.length := by
  obtain ⟨A, cap, hv⟩ := h.len_le
  by_cases h0 : rs.length = 0
  · have := List.eq_nil_of_length_eq_zero h0
    subst this
    exact ⟨A, cap, n₀, hv, fun h => absurd h (Nat.lt_irrefl _), Nat.le_refl _, fun k hk => absurd hk (Nat.not_lt_zero _), fun r hr => absurd hr List.not_mem_nil⟩
  · obtain ⟨g, cap2, hv2, hg, _, hc⟩ := h.at_ (by omega)
    rw [hv] at hv2
    simp only [Value.slice.injEq, true_and] at hv2
    obtain ⟨hA, _⟩ := hv2
    refine ⟨A, cap, g, hv, fun _ => hA, hg, fun k hk => hc k hk, fun r hr => ?_⟩
    refine (TyP.of (h.2 r hr) (hW r hr)).mono fun i hi hp => ⟨hp.1, fun e => hp.2 ?_, hi⟩
    rw [hv, hA, e]
    rfl
end Go.Proofs.Ytbnehcnimbkakaa
