/-
  strings.Split at the text of an image: the lines of its records, the last line, and what is empty behind it.
-/
import Derived.Test.YtnldpcnbhibinaaDoorHexSp
import Derived.Test.YtnldpcnbhibinaaDoorHexRp
namespace Go.Proofs.YtnldpcnbhibinaaDoor
open Go.RowKit
set_option linter.unusedVariables false
/-- Block b holds the lines of records, the last line and an empty string. -/
def LinesAt (w : World) (b : Nat) (l : List (Int × List UInt8)) : Prop :=
  b < w.heap.size ∧ (∀ k (h : k < l.length), w.cell? ⟨b, k, none⟩ = some (.string (strOf (lineB l[k])))) ∧
  w.cell? ⟨b, l.length, none⟩ = some (.string ⟨#[58, 48, 48, 48, 48, 48, 48, 48, 49, 70, 70]⟩) ∧ w.cell? ⟨b, l.length + 1, none⟩ = some (.string ⟨#[]⟩)
theorem LinesAt.block {w w' : World} {b : Nat} {l : List (Int × List UInt8)} (h : LinesAt w b l) (hs : w.heap.size ≤ w'.heap.size) (hb : w'.heap[b]? = w.heap[b]?) : LinesAt w' b l :=
  ⟨Nat.lt_of_lt_of_le h.1 hs, fun k hk => (World.cell?_of_block (w := w) hb).trans (h.2.1 k hk), (World.cell?_of_block (w := w) hb).trans h.2.2.1, (World.cell?_of_block (w := w) hb).trans h.2.2.2⟩
theorem LinesAt.below {w w' : World} {b : Nat} {l : List (Int × List UInt8)} (h : LinesAt w b l) (k : Below w.heap.size w w') : LinesAt w' b l := h.block k.size (k.block b h.1)
theorem LinesAt.keep {w w' : World} {b c : Nat} {l : List (Int × List UInt8)} (h : LinesAt w b l) (k : Im.Keep c w w') (hn : b ≠ c) : LinesAt w' b l := h.block k.size (k.block b h.1 hn)
def RetLines (w : World) (l : List (Int × List UInt8)) (e : Ending) (w' : World) : Prop :=
  ∃ b cap, e = .returned (.slice (some ⟨b, 0, none⟩) (l.length + 2) cap) ∧ l.length + 2 ≤ cap ∧ w.heap.size ≤ b ∧ LinesAt w' b l ∧ Below w.heap.size w w'
theorem split_text {V : List Im.Cel} (hV : Im.SortedW V) (w : World) :
    Calls Tryd.prog 7 #[.string (strOf (textW 16 V)), .string ⟨#[10]⟩] w (RetLines w (recsW 16 V)) := by
  refine (split_lines (linesW 16 V) (lines_noLf 16 V) (text_size hV) w).mono ?_
  rintro e w' ⟨b, cap, rfl, h1, h2, h3⟩
  have e1 : (linesW 16 V).map strOf ++ [(⟨#[]⟩ : ByteArray)] = (recsW 16 V).map (fun p => strOf (lineB p)) ++ [⟨#[58, 48, 48, 48, 48, 48, 48, 48, 49, 70, 70]⟩, ⟨#[]⟩] := by
    unfold linesW
    rw [List.map_append, List.map_map, List.map_singleton, end_line, List.append_assoc]
    rfl
  rw [e1] at h1 h2 ⊢
  obtain ⟨l, hl⟩ : ∃ l, recsW 16 V = l := ⟨_, rfl⟩
  rw [hl] at h1 h2 ⊢
  have e2 : (l.map (fun p => strOf (lineB p)) ++ [(⟨#[58, 48, 48, 48, 48, 48, 48, 48, 49, 70, 70]⟩ : ByteArray), ⟨#[]⟩]).length = l.length + 2 := by simp
  rw [e2] at h1 ⊢
  rcases h2 with h2 | ⟨b', off, hbo, hb, hc⟩
  · simp at h2
  · simp only [Option.some.injEq, Addr.mk.injEq, and_true] at hbo
    obtain ⟨rfl, rfl⟩ := hbo
    have hc2 : ∀ j s, (l.map (fun p => strOf (lineB p)) ++ [(⟨#[58, 48, 48, 48, 48, 48, 48, 48, 49, 70, 70]⟩ : ByteArray), ⟨#[]⟩])[j]? = some s → w'.cell? ⟨b, j, none⟩ = some (.string s) := fun j s hs => by
      obtain ⟨hj, rfl⟩ := List.getElem?_eq_some_iff.1 hs
      have h := hc j hj
      rw [Nat.zero_add] at h
      exact h
    have hlt : b < w'.heap.size := by
      apply Decidable.byContradiction
      intro hn
      have h := hc2 l.length _ (by rw [List.getElem?_append_right (by simp)]; simp; rfl)
      simp [World.cell?, Array.getElem?_eq_none (Nat.le_of_not_lt hn)] at h
    refine ⟨b, cap, rfl, h1, hb, ⟨hlt, fun k hk => hc2 k _ ?_, hc2 _ _ ?_, hc2 _ _ ?_⟩, h3⟩
    · rw [List.getElem?_append_left (by simpa using hk)]
      simp [List.getElem?_eq_getElem hk]
    · rw [List.getElem?_append_right (by simp)]; simp
    · rw [List.getElem?_append_right (by simp)]; simp
end Go.Proofs.YtnldpcnbhibinaaDoor
