/-
  The walks over Shape with its closure, and over the document's own Shape: the shape of an instruction, or nothing.
-/
import Derived.Test.YthpaamekpfhkjaaDoorInD
import Derived.RangeFuncNested
namespace Go.Proofs.YthpaamekpfhkjaaDoor
open Go.RowKit
set_option linter.unusedVariables false

theorem txt_le (k r n : Int) : (txtS k r n).size ≤ 60 := by
  cases hv : vldB k r n
  · rw [txt_no k r n hv]; decide
  · have hk := vld_kind k r n hv
    have q : ∀ j : Fin 11, (nmS j.val r).size ≤ 50 := fun j => nmS_le j r
    have q4 : (nmS 4 r).size ≤ 50 := q 4
    have q5 : (nmS 5 r).size ≤ 50 := q 5
    have z1 := offS_le n
    have z2 := offS_le (n + 2)
    have z3 := textS_le n
    have br : ∀ s : ByteArray, (brS s).size = 1 + s.size + 1 := fun s => by unfold brS; rw [ByteArray.size_append, ByteArray.size_append]; rfl
    rw [txt_yes k r n hv]
    rcases hk with rfl | rfl | rfl | rfl | rfl | rfl | rfl | rfl | rfl | rfl
    · show (nmS 1 r).size ≤ _; exact Nat.le_trans (q 1) (by decide)
    · show (nmS 2 r).size ≤ _; exact Nat.le_trans (q 2) (by decide)
    · show (nmS 3 r).size ≤ _; exact Nat.le_trans (q 3) (by decide)
    · show (brS (nmS 4 r)).size ≤ _; rw [br]; omega
    · show (brS (nmS 5 r ++ offS n)).size ≤ _; rw [br, ByteArray.size_append]; omega
    · show (if n < 0 then offS n else textS n).size ≤ _; split <;> omega
    · show (brS (textS n)).size ≤ _; rw [br]; omega
    · show (nmS 8 r).size ≤ _; exact Nat.le_trans (q 8) (by decide)
    · show (nmS 9 r).size ≤ _; exact Nat.le_trans (q 9) (by decide)
    · show (⟨#[36]⟩ ++ offS (n + 2)).size ≤ _; rw [ByteArray.size_append]; show 1 + _ ≤ _; omega
theorem mrk_le (k r n : Int) : (mrkS k r n).size ≤ 60 := by
  unfold mrkS
  split
  · split <;> decide
  · split
    · decide
    · split
      · decide
      · split
        · decide
        · exact txt_le k r n
def mrkT (t : Tr) : ByteArray := mrkS t.1 t.2.1 t.2.2
/-- What stands ahead of mark number k. -/
def sepB (k : Nat) : ByteArray := if k = 0 then ⟨#[32]⟩ else ⟨#[44]⟩
theorem sepB_le (k : Nat) : (sepB k).size = 1 := by unfold sepB; split <;> rfl
/-- The mnemonic and the first marks. -/
def shpK (s : ByteArray) (L : List Tr) : Nat → ByteArray
  | 0 => s
  | k + 1 => shpK s L k ++ (sepB k ++ mrkT (L.getD k (0, 0, 0)))
theorem shpK_le (s : ByteArray) (L : List Tr) : ∀ k, (shpK s L k).size ≤ s.size + k * 61
  | 0 => by show s.size ≤ _; omega
  | k + 1 => by
    have h1 := shpK_le s L k
    have h2 := sepB_le k
    have h3 := mrk_le (L.getD k (0, 0, 0)).1 (L.getD k (0, 0, 0)).2.1 (L.getD k (0, 0, 0)).2.2
    show (shpK s L k ++ (sepB k ++ mrkT _)).size ≤ _
    rw [ByteArray.size_append, ByteArray.size_append]
    unfold mrkT
    omega
theorem shpK_step (s : ByteArray) (L : List Tr) (k : Nat) (h : k < L.length) : shpK s L k ++ (sepB k ++ mrkS L[k].1 L[k].2.1 L[k].2.2) = shpK s L (k + 1) := by
  show _ = shpK s L k ++ (sepB k ++ mrkT (L.getD k (0, 0, 0)))
  rw [List.getD_eq_getElem?_getD, List.getElem?_eq_getElem h]
  rfl
/-- The shape of an instruction, or nothing. -/
def shpS (s : ByteArray) (L : List Tr) : ByteArray := if codeI s L = 0 then shpK s L L.length else ⟨#[]⟩
theorem shp_no (s : ByteArray) (L : List Tr) (h : ¬ codeI s L = 0) : (⟨#[]⟩ : ByteArray) = shpS s L := by unfold shpS; rw [if_neg h]
theorem shp_yes (s : ByteArray) (L : List Tr) (h : codeI s L = 0) : shpK s L L.length = shpS s L := by unfold shpS; rw [if_pos h]
theorem code_short (s : ByteArray) (L : List Tr) (h : codeI s L = 0) : L.length ≤ 3 := by
  unfold codeI at h
  split at h
  · omega
  · split at h
    · omega
    · omega
/-- What the closure leaves: both boxes written, all else as it was. -/
def RetCl (w : World) (bs bb : Nat) (s : ByteArray) (w' : World) : Prop := Boxed w' bs 9 (.string s) ∧ Boxed w' bb 9 (.string ⟨#[44]⟩) ∧ ∀ B, B ≤ bs → B ≤ bb → Below B w w'
attribute [local irreducible] Go.Mixed.wpMix
set_option maxRecDepth 100000 in
set_option maxHeartbeats 4000000 in
theorem closure_any (bs bb : Nat) (sh be : ByteArray) (k r n : Int) (h1 : sh.size ≤ 100000) (h2 : be.size ≤ 1) (hne : bs ≠ bb) (w : World) (X : Boxed w bs 9 (.string sh)) (Y : Boxed w bb 9 (.string be)) :
    Calls Tryd.prog 30 #[.agg #[.int .i64 k, .int .i64 r, .int .i64 n], .pointer (some ⟨bs, 0, none⟩), .pointer (some ⟨bb, 0, none⟩)] w fun e w' => (∃ v, e = .returned v) ∧ RetCl w bs bb (sh ++ (be ++ mrkS k r n)) w' := by
  have hx := X.lt
  have hy := Y.lt
  have hm := mrk_le k r n
  have MK := Lib.hid (mark_any k r n)
  obtain ⟨m, hmm⟩ : ∃ m, mrkS k r n = m := ⟨_, rfl⟩
  rw [hmm] at hm MK ⊢
  have B0 : Hid (Below w.heap.size w (w.alloc (.cells #[.int .i64 k, .int .i64 r, .int .i64 n] 36))) := (Below.refl _ _).alloc (Nat.le_refl _) _
  have X0 := Lib.hid (X.alloc (.cells #[.int .i64 k, .int .i64 r, .int .i64 n] 36))
  have Y0 := Lib.hid (Y.alloc (.cells #[.int .i64 k, .int .i64 r, .int .i64 n] 36))
  have c0 : (w.alloc (.cells #[.int .i64 k, .int .i64 r, .int .i64 n] 36)).cell? ⟨w.heap.size, 0, none⟩ = some (.int .i64 k) := by simp [go_sem]
  have c1 : (w.alloc (.cells #[.int .i64 k, .int .i64 r, .int .i64 n] 36)).cell? ⟨w.heap.size, 1, none⟩ = some (.int .i64 r) := by simp [go_sem]
  have c2 : (w.alloc (.cells #[.int .i64 k, .int .i64 r, .int .i64 n] 36)).cell? ⟨w.heap.size, 2, none⟩ = some (.int .i64 n) := by simp [go_sem]
  have CC : Hid (∀ w', Below (w.alloc (.cells #[.int .i64 k, .int .i64 r, .int .i64 n] 36)).heap.size (w.alloc (.cells #[.int .i64 k, .int .i64 r, .int .i64 n] 36)) w' → Boxed w' bs 9 (.string sh) ∧ Boxed w' bb 9 (.string be) ∧ w'.cell? ⟨w.heap.size, 0, none⟩ = some (.int .i64 k) ∧ w'.cell? ⟨w.heap.size, 1, none⟩ = some (.int .i64 r) ∧ w'.cell? ⟨w.heap.size, 2, none⟩ = some (.int .i64 n)) := fun w' hb =>
    ⟨(hb.block _ X0.out.lt).trans X0.out, (hb.block _ Y0.out.lt).trans Y0.out, (hb.cell (by simp)).trans c0, (hb.cell (by simp)).trans c1, (hb.cell (by simp)).trans c2⟩
  clear X Y c0 c1 c2 X0 Y0 hmm
  go_enter Tryd.func30, Tryd.ntmps30
  go_wp2
  refine Mixed.wp_region_mixed (fun w' => Boxed w' bs 9 (.string sh) ∧ Boxed w' bb 9 (.string be) ∧ w'.cell? ⟨w.heap.size, 0, none⟩ = some (.int .i64 k) ∧ w'.cell? ⟨w.heap.size, 1, none⟩ = some (.int .i64 r) ∧ w'.cell? ⟨w.heap.size, 2, none⟩ = some (.int .i64 n)) 5 [(0, true), (1, true), (2, true), (3, false), (4, true)] (by kernel_rfl) (by kernel_rfl) (CC.out _ (below_drewN _ _ 1)) ?_
  refine Mixed.wpMix_pure rfl (by kernel_rfl) (.string sh) (fun w h => by obtain ⟨h1, h2, h3⟩ := h; have h1 := h1.cell; go_simp; try rfl) ?_
  refine Mixed.wpMix_pure rfl (by kernel_rfl) (.string be) (fun w h => by obtain ⟨h1, h2, h3⟩ := h; have h2 := h2.cell; go_simp; try rfl) ?_
  refine Mixed.wpMix_pure rfl (by kernel_rfl) (.agg #[.int .i64 k, .int .i64 r, .int .i64 n]) (fun w h => by obtain ⟨h1, h2, h3, h4, h5⟩ := h; go_simp; try rfl) ?_
  refine Mixed.wpMix_loudG rfl (by kernel_rfl) ?_
  go_wp2_with fail
  refine (MK.out _).mono ?_
  rintro e w1 ⟨rfl, hb⟩
  have hb2 := (below_drewN _ _ 1).trans hb
  have X2 := CC.out w1 hb2
  have xx := X2
  have x0 := X2.1.cell
  have f0 := X2.1.frozen
  have y0 := X2.2.1.cell
  have g0 := X2.2.1.frozen
  have hne2 := hne.symm
  have F : Hid (RetCl w bs bb (sh ++ (be ++ m)) ((w1.setCell ⟨bs, 0, none⟩ (.string (sh ++ (be ++ m)))).setCell ⟨bb, 0, none⟩ (.string ⟨#[44]⟩))) := by
    have hB : Below w.heap.size w w1 := B0.out.trans (hb2.mono (by simp))
    exact ⟨(X2.1.set _).other hne _, (X2.2.1.other hne2 _).set _, fun B h1 h2 => ((hB.mono (by omega)).setCell (p := ⟨bs, 0, none⟩) h1 _).setCell (p := ⟨bb, 0, none⟩) h2 _⟩
  clear hb hb2 X2 CC B0 MK
  go_wp2
  refine ⟨xx, ?_⟩
  refine Mixed.wpMix_pure rfl (by kernel_rfl) (.string (be ++ m)) (fun w h => by clear h; go_simp; try omega) ?_
  simp only [Mixed.wpMix, List.drop_succ_cons, List.drop_zero]
  clear xx
  go_wp2
  refine bodyPost_end (v := .tuple #[]) ?_ rfl ⟨⟨_, rfl⟩, F.out⟩
  simp [results, Tryd.results30, go_sem]
end Go.Proofs.YthpaamekpfhkjaaDoor
