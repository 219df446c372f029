/-
  The walks over the methods of hexread.reader: a line is read.
-/
import Derived.Test.YtmeegpdjhcilkaaDoorRdI
import Derived.Test.YtmeegpdjhcilkaaDoorRdM
import Derived.Test.YtmeegpdjhcilkaaDoorRdV
namespace Go.Proofs.YtmeegpdjhcilkaaDoor
open Go.RowKit
set_option linter.unusedVariables false

theorem parT_bd (s : ByteArray) : 0 ≤ parT s ∧ parT s < 256 := by
  unfold parT
  split
  · unfold recT
    exact numI_small _ (by rw [List.length_take]; omega)
  · omega
theorem parD_le (s : ByteArray) : (parD s).length ≤ s.size := by
  unfold parD
  split
  · unfold recD
    have h1 := bytesL_le (linCut s)
    have h2 : (linCut s).size ≤ s.size := cutPre_le s ⟨#[58]⟩
    rw [List.length_take, List.length_drop]
    omega
  · simp
/-- Block rb is a reader: its image, and whether the End has been read. -/
def RdAt (w : World) (rb b : Nat) (e : Bool) : Prop := w.heap[rb]? = some (.cells #[.pointer (some ⟨b, 0, none⟩), .bool e] 68 (0, 0))
theorem RdAt.lt {w : World} {rb b : Nat} {e : Bool} (h : RdAt w rb b e) : rb < w.heap.size := (Array.getElem?_eq_some_iff.1 h).1
theorem RdAt.c0 {w : World} {rb b : Nat} {e : Bool} (h : RdAt w rb b e) : w.cell? ⟨rb, 0, none⟩ = some (.pointer (some ⟨b, 0, none⟩)) := by rw [Lib.cell_of_heap h]; rfl
theorem RdAt.c1 {w : World} {rb b : Nat} {e : Bool} (h : RdAt w rb b e) : w.cell? ⟨rb, 1, none⟩ = some (.bool e) := by rw [Lib.cell_of_heap h]; rfl
theorem RdAt.f1 {w : World} {rb b : Nat} {e : Bool} (h : RdAt w rb b e) : w.frozen? ⟨rb, 1, none⟩ = false := Lib.frozen_of_heap h 1
theorem RdAt.kept {P : Nat → Prop} {w w' : World} {rb b : Nat} {e : Bool} (h : RdAt w rb b e) (k : KeptP P w w') (hP : P rb) : RdAt w' rb b e := (k.block rb h.lt hP).trans h
theorem RdAt.below {w w' : World} {rb b : Nat} {e : Bool} (h : RdAt w rb b e) (k : Below w.heap.size w w') : RdAt w' rb b e := (k.block rb h.lt).trans h
theorem RdAt.keep {w w' : World} {rb b c : Nat} {e : Bool} (h : RdAt w rb b e) (k : Im.Keep c w w') (hn : rb ≠ c) : RdAt w' rb b e := (k.block rb h.lt hn).trans h
theorem RdAt.set {w : World} {rb b : Nat} {e : Bool} (h : RdAt w rb b e) (x : Bool) : RdAt (w.setCell ⟨rb, 1, none⟩ (.bool x)) rb b x := heap_setCell_same w rb 1 _ _ _ h
theorem kept_keep {P : Nat → Prop} {c : Nat} {w w' : World} (k : Im.Keep c w w') (h : ¬ P c) : KeptP P w w' := ⟨k.os, k.tape, k.output, k.size, fun i hi hp => k.block i hi fun e => h (e ▸ hp)⟩
theorem img_kept {P : Nat → Prop} {w w' : World} {b : Nat} {V : List Im.Cel} (h : Im.ImgOf w b V) (k : KeptP P w w') (hP : P b) : Im.ImgOf w' b V := ⟨h.1, World.rowIs.of_block h.2 (k.block b h.lt hP)⟩
set_option maxHeartbeats 2000000 in
theorem data_any (rb b : Nat) (hne : rb ≠ b) (V : List Im.Cel) (en : Bool) (T a : Int) (A : Option Addr) (cap : Nat) (D : List UInt8) (hl : D.length ≤ maxLen) (w : World) (hR : RdAt w rb b en) (hI : Im.ImgOf w b V) (hx : BytesP (· ≠ b) w A D) :
    Calls Tryd.prog 65 #[.pointer (some ⟨rb, 0, none⟩), .agg #[.int .i64 T, .int .i64 a, .slice A D.length cap]] w fun e w' =>
      e = .returned (.int .i64 (Im.codeW V a D)) ∧ Im.ImgOf w' b (Im.putW V a D) ∧ Im.Keep b w w' := by
  obtain ⟨w1, hw1⟩ : ∃ w1, w.alloc (.cells #[.int .i64 T, .int .i64 a, .slice A D.length cap] 78) = w1 := ⟨_, rfl⟩
  have hal : Below w.heap.size w w1.drew := by rw [← hw1]; exact ((Below.refl _ _).alloc (Nat.le_refl _) _).drew
  have T1 : Tri w.heap.size w1 (.int .i64 T) (.int .i64 a) (.slice A D.length cap) := by rw [← hw1]; exact Tri.new w _ rfl _ _ _ 78
  have hput := Im.put_any b V a (· ≠ b) (fun h => h rfl) A D cap w1.drew hl (hI.below hal) (hx.below hal)
  have hC : w1.drew.cell? ⟨rb, 0, none⟩ = some (.pointer (some ⟨b, 0, none⟩)) ∧ w1.drew.cell? ⟨w.heap.size, 1, none⟩ = some (.int .i64 a) ∧ w1.drew.cell? ⟨w.heap.size, 2, none⟩ = some (.slice A D.length cap) := ⟨(hR.below hal).c0, T1.2.2.1, T1.2.2.2.1⟩
  have N : Hid (rb < w1.drew.heap.size ∧ w.heap.size < w1.drew.heap.size ∧ w.heap.size ≠ b) := ⟨(hR.below hal).lt, T1.1, fun e => by have := hI.lt; omega⟩
  have K1 : Hid (Im.Keep b w w1.drew) := Im.Keep.of_below hal
  have NE := Lib.hid hne
  obtain ⟨n, hn⟩ : ∃ n, w.heap.size = n := ⟨_, rfl⟩
  rw [hn] at hC N
  clear hal T1 hI hx hR hne
  go_enter Tryd.func65, Tryd.ntmps65
  go_wp2
  clear hw1 hn
  refine Mixed.wp_region_mixed (fun w' => w'.cell? ⟨rb, 0, none⟩ = some (.pointer (some ⟨b, 0, none⟩)) ∧ w'.cell? ⟨n, 1, none⟩ = some (.int .i64 a) ∧ w'.cell? ⟨n, 2, none⟩ = some (.slice A D.length cap)) 9
    [(0, true), (1, true), (2, true), (3, true), (4, true), (5, true), (6, true), (7, true), (8, false)] (by kernel_rfl) (by kernel_rfl) hC ?_
  refine Mixed.wpMix_move rfl rfl _ rfl _ rfl ?_
  refine Mixed.wpMix_pure rfl rfl _ (fun w h => by obtain ⟨q1, q2, q3⟩ := h; go_simp; rfl) ?_
  refine Mixed.wpMix_pure rfl rfl _ (fun w h => by obtain ⟨q1, q2, q3⟩ := h; go_simp; rfl) ?_
  refine Mixed.wpMix_pure rfl rfl _ (fun w h => by obtain ⟨q1, q2, q3⟩ := h; go_simp; rfl) ?_
  refine Mixed.wpMix_pure rfl rfl _ (fun w h => by obtain ⟨q1, q2, q3⟩ := h; go_simp; rfl) ?_
  refine Mixed.wpMix_pure rfl rfl _ (fun w h => by obtain ⟨q1, q2, q3⟩ := h; go_simp; rfl) ?_
  refine Mixed.wpMix_pure rfl rfl _ (fun w h => by obtain ⟨q1, q2, q3⟩ := h; go_simp; rfl) ?_
  refine Mixed.wpMix_pure rfl rfl _ (fun w h => by obtain ⟨q1, q2, q3⟩ := h; go_simp; rfl) ?_
  refine Mixed.wpMix_loud rfl ?_
  go_wp2_with fail
  refine hput.mono ?_
  rintro e w2 ⟨rfl, hI2, hK2⟩
  have HQ : Hid (w2.cell? ⟨rb, 0, none⟩ = some (.pointer (some ⟨b, 0, none⟩)) ∧ w2.cell? ⟨n, 1, none⟩ = some (.int .i64 a) ∧ w2.cell? ⟨n, 2, none⟩ = some (.slice A D.length cap)) :=
    ⟨(World.cell?_of_block (w := w1.drew) (hK2.block rb N.out.1 NE.out)).trans hC.1, (World.cell?_of_block (w := w1.drew) (hK2.block n N.out.2.1 N.out.2.2)).trans hC.2.1, (World.cell?_of_block (w := w1.drew) (hK2.block n N.out.2.1 N.out.2.2)).trans hC.2.2⟩
  have I2 := Lib.hid hI2
  have K2 : Hid (Im.Keep b w w2) := K1.out.trans hK2
  clear hput hI2 hK2 hC
  go_wp2
  refine ⟨HQ.out, ?_⟩
  simp only [Mixed.wpMix, List.drop_succ_cons, List.drop_zero]
  go_wp2
  go_ret
  exact ⟨rfl, I2.out, K2.out⟩
def RetEnd (w : World) (rb b : Nat) (D : List UInt8) (e : Ending) (w' : World) : Prop := e = .returned (.int .i64 (if D = [] then 0 else 6)) ∧ (D = [] → RdAt w' rb b true) ∧ KeptP (· ≠ rb) w w'
set_option maxHeartbeats 2000000 in
theorem end_any (rb b : Nat) (en : Bool) (T a : Int) (A : Option Addr) (cap : Nat) (D : List UInt8) (w : World) (hR : RdAt w rb b en) :
    Calls Tryd.prog 66 #[.pointer (some ⟨rb, 0, none⟩), .agg #[.int .i64 T, .int .i64 a, .slice A D.length cap]] w (RetEnd w rb b D) := by
  obtain ⟨w1, hw1⟩ : ∃ w1, w.alloc (.cells #[.int .i64 T, .int .i64 a, .slice A D.length cap] 78) = w1 := ⟨_, rfl⟩
  have hal : Below w.heap.size w w1 := by rw [← hw1]; exact (Below.refl _ _).alloc (Nat.le_refl _) _
  have T1 : Tri w.heap.size w1 (.int .i64 T) (.int .i64 a) (.slice A D.length cap) := by rw [← hw1]; exact Tri.new w _ rfl _ _ _ 78
  have c2 := T1.2.2.2.1
  have hR1 := hR.below hal
  have f1 := hR1.f1
  have c1 := hR1.c1
  have R2 := Lib.hid (hR1.set true)
  have K1 : Hid (KeptP (· ≠ rb) w w1) := KeptP.of_all hal
  have K2 : Hid (KeptP (· ≠ rb) w (w1.setCell ⟨rb, 1, none⟩ (.bool true))) := K1.out.setCell (by simp) _
  cases D with
  | nil =>
    simp only [List.length_nil] at c2 hw1 ⊢
    clear hal T1 hR hR1
    go_enter Tryd.func66, Tryd.ntmps66
    go_wp2
    go_ret
    exact ⟨rfl, fun _ => R2.out, K2.out⟩
  | cons x D =>
    have hpos : (0 : Int) < ((x :: D).length : Int) := by simp
    obtain ⟨m, hm⟩ : ∃ m, (x :: D).length = m := ⟨_, rfl⟩
    rw [hm] at hpos c2 hw1 ⊢
    clear hal T1 hR hR1 hm
    go_enter Tryd.func66, Tryd.ntmps66
    go_wp2
    go_ret
    exact ⟨rfl, fun h => (by cases h), K1.out⟩
end Go.Proofs.YtmeegpdjhcilkaaDoor
