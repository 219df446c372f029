/-
  Walks over num.Low and breadboardref01.Low: for every slice of integers the bytes that are equal to them modulo 256, in new memory; breadboardref01.Fits.
-/
import Derived.Test.YtcmcikcagpkocaaDoorNumM
namespace Go.Proofs.YtcmcikcagpkocaaDoor
open Go.RowKit
set_option linter.unusedVariables false

theorem IntsAt.below {w w' : World} {A : Option Addr} {xs : List Int} (h : IntsAt w A xs) (hb : Below w.heap.size w w') : IntsAt w' A xs := by
  rcases h with rfl | ⟨b, off, rfl, hc⟩
  · exact .inl rfl
  · exact .inr ⟨b, off, rfl, fun j hj => (hb.cell (p := ⟨b, off + j, none⟩) (World.block_lt_of_cell? w _ (hc j hj))).trans (hc j hj)⟩
/-- The call returns a slice that reads as xs; nothing that was there is changed. -/
def RetBytes (w : World) (xs : List UInt8) (e : Ending) (w' : World) : Prop := ∃ A cap, e = .returned (.slice A xs.length cap) ∧ BytesB w' A xs ∧ Below w.heap.size w w'
/-- The slice lies in a new block, or is nil. -/
def NewA (w : World) (A : Option Addr) : Prop := ∀ a, A = some a → w.heap.size ≤ a.block
/-- The same, in a new block. -/
def RetBytesN (w : World) (xs : List UInt8) (e : Ending) (w' : World) : Prop := ∃ A cap, e = .returned (.slice A xs.length cap) ∧ BytesB w' A xs ∧ xs.length ≤ cap ∧ NewA w A ∧ Below w.heap.size w w'
theorem RetBytesN.ret {w : World} {xs : List UInt8} {e : Ending} {w' : World} (h : RetBytesN w xs e w') : RetBytes w xs e w' := by
  obtain ⟨A, cap, h1, h2, _, _, h3⟩ := h
  exact ⟨A, cap, h1, h2, h3⟩
/-- The byte that is equal to n modulo 256. -/
def lowU (n : Int) : UInt8 := (n % 256).toNat.toUInt8
theorem lowU_nat (n : Int) : ((lowU n).toNat : Int) = n % 256 := by
  unfold lowU
  rw [UInt8.toNat_ofNat_of_lt' (show (n % 256).toNat < 256 by omega)]
  omega
def u8V (b : UInt8) : Value := .int .u8 (b.toNat : Int)

/-- What holds at the head of round k: the first k bytes of the row are laid, the others are 0. -/
def LowRel (w : World) (zs : List Int) (k : Nat) (wr : World) : Prop :=
  (∀ j (h : j < zs.length), wr.cell? ⟨w.heap.size, j, none⟩ = some (.int .u8 (if j < k then zs[j] % 256 else 0))) ∧ (∀ j, j < zs.length → wr.frozen? ⟨w.heap.size, j, none⟩ = false) ∧ Below w.heap.size w wr
theorem lowRel_start (w : World) (zs : List Int) (e : TypeId) : LowRel w zs 0 (w.alloc (.cells (madeCells #[.int .u8 0] zs.length) e)) := by
  refine ⟨fun j h => ?_, fun j h => ?_, (Below.refl _ _).alloc (Nat.le_refl _) _⟩
  · rw [if_neg (by omega)]
    simp [go_sem, madeCells, h, Nat.mod_one]
  · simp [go_sem]
theorem lowRel_next (w wr : World) (zs : List Int) (k : Nat) (hk : k < zs.length) (hr : LowRel w zs k wr) : LowRel w zs (k + 1) (wr.setCell ⟨w.heap.size, k, none⟩ (.int .u8 (zs[k] % 256))) := by
  obtain ⟨r1, r2, r3⟩ := hr
  refine ⟨fun j hj => ?_, fun j hj => ?_, r3.setCell (by simp) _⟩
  · by_cases e : j = k
    · subst e
      have := r1 _ hj
      rw [if_pos (by omega)]
      simp [go_sem, this]
    · rw [World.cell?_setCell_other _ _ _ _ (by simp), r1 j hj]
      by_cases h1 : j < k
      · rw [if_pos h1, if_pos (by omega)]
      · rw [if_neg h1, if_neg (by omega)]
  · simp [go_sem, r2 j hj]
theorem lowRel_end (w wr : World) (zs : List Int) (hr : LowRel w zs zs.length wr) : RetBytesN w (zs.map lowU) (.returned (.slice (some ⟨w.heap.size, 0, none⟩) zs.length zs.length)) wr := by
  refine ⟨some ⟨w.heap.size, 0, none⟩, zs.length, by rw [List.length_map], .inr ⟨_, 0, rfl, fun j hj => ?_⟩, by rw [List.length_map]; exact Nat.le_refl _, fun a h => (by cases h; exact Nat.le_refl _), hr.2.2⟩
  have hj' : j < zs.length := by simpa using hj
  rw [Nat.zero_add, hr.1 j hj', if_pos hj']
  simp [lowU_nat]

/-- The row of bytes that the call itself appends to. -/
def OwnB (w wr : World) (v : Value) (xs : List UInt8) : Prop := wr.ownsRow w.heap.size 5 1 v xs.length (xs.map u8V) ∧ Below w.heap.size w wr
theorem ownB_start (w : World) : OwnB w w (.slice none 0 0) [] := ⟨World.ownsRow_nil _ _ _ _, Below.refl _ _⟩
theorem ownB_snoc {w wr w1 : World} {v v' : Value} {xs : List UInt8} {o : Obj} (h : OwnB w wr v xs) (b : UInt8) (x : Int) (hx : x = (b.toNat : Int))
    (h1 : w1.ownsRow w.heap.size 5 1 v' (xs.length + 1) (xs.map u8V ++ [.int .u8 x])) (hg : (wr.alloc o).grownBy w1 v.ownBlock) : OwnB w w1 v' (xs ++ [b]) := by
  obtain ⟨h2, h3⟩ := h
  refine ⟨?_, (h3.alloc h3.size o).grown hg (by have := h3.size; simp; omega) (fun j hj => (h2.lt j hj).1)⟩
  subst hx
  simpa [u8V] using h1
theorem ownB_end {w wr : World} {v : Value} {xs : List UInt8} (h : OwnB w wr v xs) : RetBytes w xs (.returned v) wr := by
  obtain ⟨_, A, cap, rfl, hb⟩ := BytesB.of_own h.1
  exact ⟨A, cap, rfl, hb, h.2⟩
theorem and255 (x : Int) : bits .and .i64 x 255 = x % 256 := by
  show IntKind.i64.wrap ((BitVec.ofInt 64 x &&& BitVec.ofInt 64 255).toNat : Int) = _
  rw [BitVec.toNat_and, show (BitVec.ofInt 64 255).toNat = 2 ^ 8 - 1 from rfl, Nat.and_two_pow_sub_one_eq_mod, BitVec.toNat_ofInt, IntKind.wrap_i64]
  omega
theorem map_take_snoc (zs : List Int) (k : Nat) (h : k < zs.length) : (zs.take (k + 1)).map lowU = (zs.take k).map lowU ++ [lowU zs[k]] := by
  rw [List.take_succ_eq_append_getElem h, List.map_append]; rfl

end Go.Proofs.YtcmcikcagpkocaaDoor
