/-
  A row of 256 patterns in memory: its cells, a store, the load of the whole, an element of the whole.
-/
import Derived.Test.YtipgecdfnbldnaaGreatDoorMCoB
import Derived.Deep.OwnRows
import Derived.Deep.WholeRow
import Derived.KernelRfl
set_option linter.all false
set_option maxRecDepth 100000
set_option maxHeartbeats 4000000
namespace Go.Proofs.YtipgecdfnbldnaaGreatDoor
open Go.RowKit Go.Shelf
attribute [local go_sem] Oper.semAt_some
def patV (f : Nat → Pat) (i : Nat) : Value := .string (sB (if i % 2 = 0 then (f (i / 2)).1 else (f (i / 2)).2))
theorem patV_0 (f : Nat → Pat) (i : Nat) : patV f (i * 2) = .string (sB (f i).1) := by
  unfold patV
  rw [if_pos (by omega), show i * 2 / 2 = i by omega]
theorem patV_1 (f : Nat → Pat) (i : Nat) : patV f (i * 2 + 1) = .string (sB (f i).2) := by
  unfold patV
  rw [if_neg (by omega), show (i * 2 + 1) / 2 = i by omega]
def RowF (w : World) (b : Nat) (f : Nat → Pat) : Prop := w.rowIs b 139 512 (patV f)
theorem RowF.c0 {w : World} {b : Nat} {f : Nat → Pat} (h : RowF w b f) {i : Nat} (hi : i < 256) : w.cell? ⟨b, i * 2, none⟩ = some (.string (sB (f i).1)) := by
  rw [World.rowIs.cell h (by omega), patV_0]
theorem RowF.c1 {w : World} {b : Nat} {f : Nat → Pat} (h : RowF w b f) {i : Nat} (hi : i < 256) : w.cell? ⟨b, i * 2 + 1, none⟩ = some (.string (sB (f i).2)) := by
  rw [World.rowIs.cell h (by omega), patV_1]
theorem RowF.lt {w : World} {b : Nat} {f : Nat → Pat} (h : RowF w b f) : b < w.heap.size := World.rowIs.lt h
theorem RowF.block {w w' : World} {b : Nat} {f : Nat → Pat} (h : RowF w b f) (e : w'.heap[b]? = w.heap[b]?) : RowF w' b f := World.rowIs.of_block h e
theorem RowF.congr {w : World} {b : Nat} {f g : Nat → Pat} (h : RowF w b f) (e : ∀ i, i < 256 → f i = g i) : RowF w b g := World.rowIs.congr h fun i hi => by
  unfold patV
  rw [e (i / 2) (by omega)]
theorem RowF.put {w : World} {b : Nat} {f : Nat → Pat} (h : RowF w b f) (i : Nat) (p : Pat) : RowF ((w.setCell ⟨b, i * 2, none⟩ (.string (sB p.1))).setCell ⟨b, i * 2 + 1, none⟩ (.string (sB p.2))) b (fun j => if j = i then p else f j) :=
  World.rowIs.congr (World.rowIs.set (World.rowIs.set h (i * 2) _) (i * 2 + 1) _) fun j hj => by
    unfold patV
    show (if j = i * 2 + 1 then Value.string (sB p.2) else if j = i * 2 then .string (sB p.1) else .string (sB (if j % 2 = 0 then (f (j / 2)).1 else (f (j / 2)).2))) = .string (sB (if j % 2 = 0 then (if j / 2 = i then p else f (j / 2)).1 else (if j / 2 = i then p else f (j / 2)).2))
    by_cases e : j / 2 = i
    · rw [if_pos e]
      by_cases e0 : j % 2 = 0
      · rw [if_neg (by omega), if_pos (by omega), if_pos e0]
      · rw [if_pos (by omega), if_neg e0]
    · rw [if_neg e, if_neg (by omega), if_neg (by omega)]
theorem info_row : (Tryz.prog.info? 139).map (fun i => (i.zero, i.size)) = some (some (.agg (Array.replicate 512 (.string ⟨#[]⟩))), 512) := by kernel_rfl
theorem und_row : Tryz.prog.underlying 139 = some (.array 256 56) := by kernel_rfl
theorem zero_row (w : World) : (zeroValue 139).run Tryz.prog w = .ok (.agg (Array.replicate 512 (.string ⟨#[]⟩))) w := (zero_of_info info_row).1 w
theorem new_row (w : World) : RowF (w.alloc (.cells (Array.replicate 512 (.string ⟨#[]⟩)) 139)) w.heap.size (fstF []) := by
  have h := World.rowIs_alloc w (Array.replicate 512 (.string ⟨#[]⟩)) 139 (patV (fstF [])) (fun i hi => by
    rw [Array.size_replicate] at hi
    rw [Array.getElem?_replicate, if_pos hi]
    unfold patV fstF
    split <;> rfl)
  rwa [Array.size_replicate] at h
def rowA (f : Nat → Pat) : Array Value := ((List.range 512).map (patV f)).toArray
theorem rowA_get (f : Nat → Pat) (j : Nat) (hj : j < 512) : (rowA f)[j]? = some (patV f j) := by
  unfold rowA
  rw [List.getElem?_toArray, List.getElem?_map, List.getElem?_range hj]; rfl
theorem rowA_size (f : Nat → Pat) : (rowA f).size = 512 := by unfold rowA; simp
theorem load_row {w : World} {b : Nat} {f : Nat → Pat} (h : RowF w b f) : (Instr.loadAt 139 (.pointer (some ⟨b, 0, none⟩))).run Tryz.prog w = .ok (.agg (rowA f)) w := by
  obtain ⟨c, hb, hn, hc⟩ := h
  have e : c = rowA f := by
    apply Array.ext_getElem?
    intro i
    have hs := rowA_size f
    by_cases hi : i < 512
    · rw [hc i hi, rowA_get f i hi]
    · rw [Array.getElem?_eq_none (by omega), Array.getElem?_eq_none (by omega)]
  simp only [Instr.loadAt, Instr.sureAddr, Sem.run_bind, Sem.run_pure, Result.andThen]
  rw [← e]
  exact run_loadVar_row _ b 139 139 c (0, 0) _ hb und_row rfl (by rw [hn]; exact (zero_of_info info_row).2)
theorem rowA_two (f : Nat → Pat) (i : Nat) (hi : i < 256) : (rowA f).extract (i * 2) (i * 2 + 2) = #[.string (sB (f i).1), .string (sB (f i).2)] := by
  have hs := rowA_size f
  have hg := rowA_get f
  apply Array.ext_getElem?
  intro j
  rw [Array.getElem?_extract]
  match j with
  | 0 => rw [if_pos (by omega), hg _ (by omega), Nat.add_zero, patV_0]; rfl
  | 1 => rw [if_pos (by omega), hg _ (by omega), patV_1]; rfl
  | j + 2 => rw [if_neg (by omega)]; rfl
theorem index_row (f : Nat → Pat) (i : Nat) (hi : i < 256) (w : World) : (Instr.index 139 (.agg (rowA f)) (.int .i64 (i : Int))).run Tryz.prog w = .ok (.agg #[.string (sB (f i).1), .string (sB (f i).2)]) w := by
  have hz : (Tryz.prog.info? 56).map (fun i => i.size) = some 2 := by kernel_rfl
  obtain ⟨inf, hinf, hsz⟩ : ∃ inf, Tryz.prog.info? 56 = some inf ∧ inf.size = 2 := by
    cases hq : Tryz.prog.info? 56 with
    | none => rw [hq] at hz; cases hz
    | some i => rw [hq] at hz; exact ⟨i, rfl, by simpa using hz⟩
  have hsize : ∀ w, (Go.sizeOf 56).run Tryz.prog w = .ok 2 w := fun w => by simp [Go.sizeOf, typeInfo, hinf, hsz]
  have h0 : 0 ≤ (i : Int) ∧ (i : Int) < ((256 : Nat) : Int) := by omega
  have hx := rowA_two f i hi
  have h1 : ¬ 256 ≤ i := by omega
  simp [Instr.index, run_underlying und_row, asIntOf, hi, h1, part, isAgg, hsize, hx, run_underlying Tryz.underlying56, go_sem]
end Go.Proofs.YtipgecdfnbldnaaGreatDoor
