/-
  The walk over breadboardref04.Dump: for every image, the dump that hexwrite.Dump returns.
-/
import Derived.Test.YtmeegpdjhcilkaaDoorHexZ
import Derived.Test.YtmeegpdjhcilkaaDoorHexW
namespace Go.Proofs.YtmeegpdjhcilkaaDoor
open Go.RowKit
set_option linter.unusedVariables false

/-- The text so far, without its last line feed. -/
def DmpS (V : List Im.Cel) (k : Nat) (T : ByteArray) : Prop := (k = 0 ∧ T = ⟨#[]⟩) ∨ (0 < k ∧ T.data.toList ++ [10] = dumpL (V.take k))
theorem take_snoc_cel (V : List Im.Cel) (k : Nat) (hk : k < V.length) : V.take (k + 1) = V.take k ++ [V[k]] := by rw [List.take_succ_eq_append_getElem hk]
theorem dmp_first {V : List Im.Cel} (hk : 0 < V.length) {T H4 H2 : ByteArray} (hT : T = ⟨#[]⟩) (e4 : hexS (V[0].1 : Int) 4 = H4) (e2 : hexS (V[0].2.toNat : Int) 2 = H2) : DmpS V (0 + 1) (T ++ H4 ++ ⟨#[58]⟩ ++ ⟨#[32]⟩ ++ H2) := by
  refine .inr ⟨by omega, ?_⟩
  rw [take_snoc_cel V 0 hk, List.take_zero, dump_new [] V[0] (.inl rfl), e4, e2, hT, dump_nil]
  simp [append_data]
theorem dmp_new {V : List Im.Cel} {k : Nat} (hk : k + 1 < V.length) {T H4 H2 : ByteArray} (hT : DmpS V (k + 1) T) (h : V[k].1 + 1 ≠ V[k + 1].1 ∨ V[k + 1].1 % 16 = 0) (e4 : hexS (V[k + 1].1 : Int) 4 = H4) (e2 : hexS (V[k + 1].2.toNat : Int) 2 = H2) : DmpS V (k + 1 + 1) (T ++ ⟨#[10]⟩ ++ H4 ++ ⟨#[58]⟩ ++ ⟨#[32]⟩ ++ H2) := by
  rcases hT with ⟨h0, _⟩ | ⟨_, hT⟩
  · omega
  · refine .inr ⟨by omega, ?_⟩
    rw [take_snoc_cel V (k + 1) hk, dump_new _ V[k + 1] (.inr ⟨V.take k, V[k], take_snoc_cel V k (by omega), h⟩), e4, e2, ← hT]
    simp [append_data]
theorem dmp_more {V : List Im.Cel} {k : Nat} (hk : k + 1 < V.length) {T H2 : ByteArray} (hT : DmpS V (k + 1) T) (h1 : V[k].1 + 1 = V[k + 1].1) (h2 : V[k + 1].1 % 16 ≠ 0) (e2 : hexS (V[k + 1].2.toNat : Int) 2 = H2) : DmpS V (k + 1 + 1) (T ++ ⟨#[32]⟩ ++ H2) := by
  rcases hT with ⟨h0, _⟩ | ⟨_, hT⟩
  · omega
  · refine .inr ⟨by omega, ?_⟩
    obtain ⟨t, g1, g2⟩ := dump_more (V.take k) V[k] V[k + 1] h1 h2
    rw [take_snoc_cel V (k + 1) hk, take_snoc_cel V k (by omega), g2, e2]
    rw [take_snoc_cel V k (by omega), g1] at hT
    rw [← List.append_cancel_right hT]
    simp [append_data]
theorem dump_pos {W : List Im.Cel} (h : W ≠ []) : 2 ≤ (dumpL W).length := by
  rcases Im.snoc_cases W with rfl | ⟨V, c, rfl⟩
  · exact absurd rfl h
  · obtain ⟨out, r, e1, _, _⟩ := rows_end V c
    unfold dumpL
    rw [e1, List.map_append, joinL_append, List.length_append, List.map_singleton, joinL_one, List.length_append]
    have := rowB_length (r.1 : Int) r.2
    show 2 ≤ _ + ((rowB (r.1 : Int) r.2).length + _)
    omega
theorem dmp_ne {V : List Im.Cel} {k : Nat} {T : ByteArray} (h : DmpS V k T) (h0 : V.length ≠ 0) (hk : k = V.length) : T.toList.isEmpty = false := by
  rcases h with ⟨h, _⟩ | ⟨_, h⟩
  · omega
  · rw [hk, List.take_length] at h
    have h1 := dump_pos (W := V) (fun e => h0 (by rw [e]; rfl))
    rw [← h, List.length_append, List.length_singleton] at h1
    rw [ByteArray.toList_eq]
    cases hl : T.data.toList with
    | nil => rw [hl] at h1; simp at h1
    | cons a t => rfl
end Go.Proofs.YtmeegpdjhcilkaaDoor
