/-
  The walk over hexwrite.Dump: the dump of every image.
-/
import Derived.Test.YtmeegpdjhcilkaaDoorHexAllC
namespace Go.Proofs.YtmeegpdjhcilkaaDoor
open Go.RowKit Go.Shelf
set_option linter.unusedVariables false
attribute [local go_sem] Oper.semAt_some

/-! ### A function that has been through many loops over functions -/
def mkD (D : Nat) : Deferred := { target := .collected D, args := #[] }
def shutD (w : World) (Ds : List Nat) : World := Ds.foldl (fun w D => w.putObj D (.deferred none)) w
theorem leaves_marks {F : Fence} {n : Nat} {P : Program} {fn : Func} {tmps : Array Value} {R : Ending → World → Prop} (Ds : List Nat) (w : World) (hd : Ds.Nodup) (hw : ∀ D ∈ Ds, w.heap[D]? = some (.deferred (some [])))
    (h : LeavesInM F n P fn tmps R [] .returning (shutD w Ds)) : LeavesInM F n P fn tmps R (Ds.map mkD) .returning w := by
  induction Ds generalizing w with
  | nil => exact h
  | cons D Ds ih =>
    rw [List.nodup_cons] at hd
    refine ⟨by simp, .inl ⟨_, _, rfl, run_takeDeferred (hw D (by simp)), ?_⟩⟩
    refine ih _ hd.2 (fun D' hD' => ?_) h
    exact (World.putObj_heap_other (fun (e : D' = D) => hd.1 (by rw [← e]; exact hD'))).trans (hw D' (by simp [hD']))
theorem below_shut {B : Nat} {w : World} (Ds : List Nat) (W : World) (hB : Below B w W) (hd : Ds.Nodup) (h : ∀ D ∈ Ds, B ≤ D ∧ W.heap[D]? = some (.deferred (some []))) : Below B w (shutD W Ds) := by
  induction Ds generalizing W with
  | nil => exact hB
  | cons D Ds ih =>
    rw [List.nodup_cons] at hd
    have h0 := h D (by simp)
    exact ih _ (hB.grown (grownBy_putObj' W D _) (by have := (Array.getElem?_eq_some_iff.1 h0.2).1; omega) fun k e => by cases e; exact h0.1) hd.2 fun D' hD' => ⟨(h D' (by simp [hD'])).1, (World.putObj_heap_other (fun (e : D' = D) => hd.1 (by rw [← e]; exact hD'))).trans (h D' (by simp [hD'])).2⟩
theorem rwE.grown {B : Nat} {x : R} {X Y : World} {row : Option Nat} (h : rwE x X) (hg : X.grownBy Y row) (hr : ∀ r, row = some r → B ≤ r ∧ ∃ o : Obj, X.heap[r]? = some o ∧ o.isCells = false) : rwE x Y := by
  refine ⟨((h.1.cells.blocks fun i hi hp => hg.block i hi fun e' => ?_).mono fun i hi hp => hi), h.2⟩
  obtain ⟨o, ho, hc⟩ := (hr i e'.symm).2
  obtain ⟨o', ho', hc'⟩ := hp.2
  rw [ho] at ho'; cases ho'; rw [hc] at hc'; cases hc'
def rwS (x : R) : ByteArray := strOf (rowB x.addr x.data)
def rowS (r : Im.Rn) : ByteArray := strOf (rowT' r)
theorem map_rwS {ys : List R} {l : List Im.Rn} (h : ys.map rwK = Im.pairN l) : ys.map rwS = l.map rowS := by
  have e1 : ys.map rwS = (ys.map rwK).map (fun k => strOf (rowB k.1 k.2)) := by rw [List.map_map]; rfl
  rw [e1, h]
  unfold Im.pairN
  rw [List.map_map]
  rfl
theorem join_rows (W : List Im.Cel) : joinS ((rowsC W).map rowS) = dumpL W := by
  unfold joinS dumpL
  rw [List.map_map]
  congr 1
/-- What holds in and between the rounds of Dump's loop over rows. -/
def DI (w1 : World) (bl nB Br : Nat) (vr : Value) (rs : List Im.R) (Ds : List Nat) (ss : List ByteArray) (W : World) : Prop :=
  SI w1 bl nB ss W ∧ RunT W vr rs ∧ (∀ D ∈ Ds, W.heap[D]? = some (.deferred (some []))) ∧ ∃ cs, W.heap[Br]? = some (.cells cs 91 (0, 0))
theorem keptO_turn {X Y : World} {row : Option Nat} (hg : X.grownBy Y row) (hr : ∀ r, row = some r → ∃ o : Obj, X.heap[r]? = some o ∧ o.isCells = false) : KeptO (fun _ o => rowT o) X Y :=
  KeptO.grown hg fun k o e ho hq => by
    obtain ⟨o', ho', hc⟩ := hr k e
    rw [ho] at ho'
    cases ho'
    exact rowT_cells hc hq
theorem DI.grown {w1 : World} {bl nB Br B : Nat} {vr : Value} {rs : List Im.R} {Ds : List Nat} {ss : List ByteArray} {X Y : World} {row : Option Nat} (h : DI w1 bl nB Br vr rs Ds ss X) (hB : nB ≤ B) (hD : ∀ D ∈ Ds, D < B) (hg : X.grownBy Y row) (hr : ∀ r, row = some r → B ≤ r ∧ ∃ o : Obj, X.heap[r]? = some o ∧ o.isCells = false) : DI w1 bl nB Br vr rs Ds ss Y := by
  obtain ⟨a1, a2, a3, cs, a4⟩ := h
  have k := keptO_turn hg fun r e => (hr r e).2
  refine ⟨a1.grown hB hg hr, a2.keptO (fun _ _ h => h) k, fun D hD' => ?_, cs, k.block _ _ a4 ⟨cs, _, _, rfl, .inr (.inl rfl)⟩⟩
  exact (hg.block D (Array.getElem?_eq_some_iff.1 (a3 D hD')).1 fun e => by
    have h1 := (hr D e.symm).1
    have h2 := hD D hD'
    omega).trans (a3 D hD')
end Go.Proofs.YtmeegpdjhcilkaaDoor
