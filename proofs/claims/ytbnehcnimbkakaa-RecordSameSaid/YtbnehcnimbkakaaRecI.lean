/-
  The walks over strings.Builder: copyCheck, WriteByte at a fresh builder, WriteString, String.
-/
import Derived.Test.YtbnehcnimbkakaaRecA
import Derived.Test.YtbnehcnimbkakaaRecG
import Derived.Lib.Builder
import Derived.Lib.AppendStr
import Derived.Lib.UnsafeStr
import Derived.Laws.Externs
import Derived.RegionTactic
namespace Go.Proofs.Ytbnehcnimbkakaa
open Go.RowKit
set_option linter.unusedVariables false

/-- Block b is a builder: 'addr' holds p; its buffer v holds the bytes bs. -/
def Bld (b : Nat) (w : World) (p v : Value) (bs : List UInt8) : Prop :=
  w.heap[b]? = some (.cells #[p, v] 59 (0, 0)) ∧ w.ownsRow 0 5 1 v bs.length (bs.map u8V) ∧ v.ownBlock ≠ some b
def selfP (b : Nat) : Value := .pointer (some ⟨b, 0, none⟩)
theorem Bld.lt {b : Nat} {w : World} {p v : Value} {bs : List UInt8} (h : Bld b w p v bs) : b < w.heap.size := lt_of_block h.1
theorem Bld.c0 {b : Nat} {w : World} {p v : Value} {bs : List UInt8} (h : Bld b w p v bs) : w.cell? ⟨b, 0, none⟩ = some p := by rw [Lib.cell_of_heap h.1]; rfl
theorem Bld.c1 {b : Nat} {w : World} {p v : Value} {bs : List UInt8} (h : Bld b w p v bs) : w.cell? ⟨b, 1, none⟩ = some v := by rw [Lib.cell_of_heap h.1]; rfl
theorem Bld.f {b : Nat} {w : World} {p v : Value} {bs : List UInt8} (h : Bld b w p v bs) (j : Nat) : w.frozen? ⟨b, j, none⟩ = false := Lib.frozen_of_heap h.1 j
theorem Bld.shape {b : Nat} {w : World} {p v : Value} {bs : List UInt8} (h : Bld b w p v bs) : w.shape? b = some (59, 2) := by
  simp [World.shape?, h.1]
theorem Bld.fresh (w : World) (n : Nat) (hn : w.heap.size = n) : Bld n (w.alloc (.cells #[.pointer none, .slice none 0 0] 59)) (.pointer none) (.slice none 0 0) [] := by
  subst hn
  exact ⟨heap_alloc_new w _, World.ownsRow_nil _ _ _ _, by simp [Value.ownBlock]⟩
theorem Bld.set0 {b : Nat} {w : World} {p v : Value} {bs : List UInt8} (h : Bld b w p v bs) (q : Value) : Bld b (w.setCell ⟨b, 0, none⟩ q) q v bs := by
  obtain ⟨hb, hown, hne⟩ := h
  refine ⟨by simp [World.setCell, Array.getElem?_modify, hb], ?_, hne⟩
  exact hown.kept (row := some b) ⟨rfl, rfl, rfl, by simp [World.setCell], fun k _ hk => Below.heap_setCell _ _ _ _ (fun e => hk (by simp [e]))⟩ (Or.inr hne)
theorem neB : (59 : TypeId) ≠ 5 := by decide
theorem Bld.set1 {b : Nat} {w : World} {p v v' : Value} {bs' : List UInt8} (hb : w.heap[b]? = some (.cells #[p, v] 59 (0, 0))) (hown : w.ownsRow 0 5 1 v' bs'.length (bs'.map u8V)) : Bld b (w.setCell ⟨b, 1, none⟩ v') p v' bs' := by
  have hne := Lib.ownBlock_ne hown hb neB
  refine ⟨by simp [World.setCell, Array.getElem?_modify, hb], ?_, hne⟩
  exact hown.kept (row := some b) ⟨rfl, rfl, rfl, by simp [World.setCell], fun k _ hk => Below.heap_setCell _ _ _ _ (fun e => hk (by simp [e]))⟩ (Or.inr hne)
theorem Bld.kept {b : Nat} {P : Nat → Prop} {w w' : World} {p v : Value} {bs : List UInt8} (h : Bld b w p v bs) (k : KeptP P w w') (hP : P b) (hv : ∀ g, v.ownBlock = some g → P g) : Bld b w' p v bs := by
  obtain ⟨hb, hown, hne⟩ := h
  refine ⟨(k.block b (lt_of_block hb) hP).trans hb, ?_, hne⟩
  obtain ⟨h1, h2⟩ := hown
  refine ⟨h1, ?_⟩
  rcases h2 with h2 | ⟨g, cap, cur, rfl, hg, hh, r⟩
  · exact .inl h2
  · exact .inr ⟨g, cap, cur, rfl, hg, (k.block g (lt_of_block hh) (hv g rfl)).trans hh, r⟩

theorem sizeBuilder : ∃ j, Try.prog.info? 59 = some j ∧ j.size = 2 := Option.map_eq_some_iff.1 (show (Try.prog.info? 59).map (·.size) = some 2 by kernel_rfl)
theorem liesBuilder : liesAt Try.prog Try.prog.depth 59 (2 / Try.prog.cellsOf 59) 0 59 1 = true := by kernel_rfl
set_option maxHeartbeats 1000000 in
theorem copyCheck_used (b : Nat) (w : World) (v : Value) (bs : List UInt8) (h : Bld b w (selfP b) v bs) :
    Calls Try.prog 43 #[.pointer (some ⟨b, 0, none⟩)] w fun e w' => e = .returned (.tuple #[]) ∧ w = w' := by
  obtain ⟨j, hj, _⟩ := sizeBuilder
  have h0 := h.c0
  unfold selfP at h0
  have hq := Lib.run_neq_ptr_same (P := Try.prog) w ⟨b, 0, none⟩ Try.underlying57 hj
  clear h
  go_enter Try.func43, Try.ntmps43
  go_wp2
  go_end0
  exact ⟨rfl, rfl⟩
set_option maxHeartbeats 1000000 in
theorem copyCheck_fresh (b : Nat) (w : World) (v : Value) (bs : List UInt8) (h : Bld b w (.pointer none) v bs) :
    Calls Try.prog 43 #[.pointer (some ⟨b, 0, none⟩)] w fun e w' => e = .returned (.tuple #[]) ∧ w.setCell ⟨b, 0, none⟩ (.pointer (some ⟨b, 0, none⟩)) = w' := by
  obtain ⟨j, hj, hjs⟩ := sizeBuilder
  have h0 := h.c0
  have hf := h.f 0
  have hsh := h.shape
  clear h
  go_enter Try.func43, Try.ntmps43
  go_wp2
  rw [Lib.run_to_unsafe w ⟨b, 0, none⟩ Try.underlying57 Try.underlying89 hj (by rw [hjs]; decide) hsh (Nat.zero_lt_succ 1)]
  simp only [Result.andThen]
  rw [Oper.upon_value]
  go_wp2
  rw [run_callFunc_extern Try.func50 (by kernel_rfl) (by kernel_rfl) (by kernel_rfl) (e := Extern.AbiNoEscape.same) (by kernel_rfl)]
  rw [Lib.run_noEscape]
  simp only [Result.andThen]
  rw [Oper.upon_value]
  go_wp2
  rw [Lib.run_from_unsafe w ⟨b, 0, none⟩ Try.underlying89 Try.underlying57 hj hsh liesBuilder]
  simp only [Result.andThen]
  rw [Oper.upon_value]
  go_wp2
  go_end0
  exact ⟨rfl, rfl⟩

/-- What WriteByte leaves of a fresh builder. -/
def RetW1 (b : Nat) (w : World) (c : UInt8) (e : Ending) (w' : World) : Prop :=
  e = .returned .nilIface ∧ ∃ v', Bld b w' (selfP b) v' [c] ∧ (∀ g, v'.ownBlock = some g → w.heap.size ≤ g) ∧ KeptP (· ≠ b) w w'
set_option maxHeartbeats 1000000 in
theorem writeByte_any (b : Nat) (w : World) (c : UInt8) (h : Bld b w (.pointer none) (.slice none 0 0) []) :
    Calls Try.prog 30 #[.pointer (some ⟨b, 0, none⟩), .int .u8 (c.toNat : Int)] w (RetW1 b w c) := by
  obtain ⟨i0, hi, hz0, hz1, hz2⟩ := info_parts info_u8
  have hcc := copyCheck_fresh b w _ _ h
  obtain ⟨w1, hw1⟩ : ∃ w1, w.setCell ⟨b, 0, none⟩ (.pointer (some ⟨b, 0, none⟩)) = w1 := ⟨_, rfl⟩
  have h1 := h.set0 (selfP b)
  have k1 : KeptP (· ≠ b) w (w.setCell ⟨b, 0, none⟩ (.pointer (some ⟨b, 0, none⟩))) := KeptP.put _ _ (by simp) _
  unfold selfP at h1
  rw [hw1] at hcc h1 k1
  have hs1 : w1.heap.size = w.heap.size := by rw [← hw1]; simp [World.setCell]
  have H1 := Lib.hid h1
  have K1 := Lib.hid k1
  have S1 := Lib.hid hs1
  have g1 := h1.c1
  have hown : w1.ownsRow w1.heap.size 5 1 (.slice none 0 0) 0 [] := World.ownsRow_nil _ _ _ _
  clear hw1 h h1 k1 hs1
  go_enter Try.func30, Try.ntmps30
  go_wp2_with fail
  refine hcc.mono ?_
  rintro e w' ⟨rfl, rfl⟩
  clear hcc
  go_wp2_with (at_builtin; refine wpList_append_own _ rfl _ _ 22 rfl w1.heap.size 5 i0 (.int .u8 0) 1 1 Try.underlying22 hi hz0 hz1 hz2 rfl (by decide) _ _ _ rfl (hown.alloc _) ⟨w1.heap.size, 0, none⟩ 1 1 [.int .u8 (c.toNat : Int)] rfl rfl ?c1 ?c2 ?c3 ?c4 ?c5 ?_)
  case c1 =>
    intro j u hj
    match j, hj with
    | 0, hj => simp at hj; subst hj; simp [Addr.add]
  case c2 => intro u hu; simp at hu; subst hu; rfl
  case c3 => unfold maxLen; omega
  case c4 => omega
  case c5 => simp
  intro v' w2 hown' hgrow _
  have hbk := H1.out.1
  have hlt := H1.out.lt
  have hb2 : w2.heap[b]? = some (.cells #[.pointer (some ⟨b, 0, none⟩), .slice none 0 0] 59 (0, 0)) := by
    rw [hgrow.block b (by simp; omega) (by simp [Value.ownBlock]), Lib.alloc_old w1 _ b hlt]
    exact hbk
  have d1 : w2.cell? ⟨b, 1, none⟩ = some (.slice none 0 0) := by rw [Lib.cell_of_heap hb2]; rfl
  have f1 : w2.frozen? ⟨b, 1, none⟩ = false := Lib.frozen_of_heap hb2 1
  have hnew : ∀ g, v'.ownBlock = some g → w.heap.size ≤ g := fun g hg => by rw [← S1.out]; exact (hown'.lt g hg).1
  have hown0 : w2.ownsRow 0 5 1 v' [c].length ([c].map u8V) := by
    obtain ⟨e1, e2⟩ := hown'
    refine ⟨e1, ?_⟩
    rcases e2 with e2 | ⟨g, cap, cur, hv, hg, r⟩
    · exact .inl e2
    · exact .inr ⟨g, cap, cur, hv, Nat.zero_le _, r⟩
  have hB := Bld.set1 hb2 hown0
  have hK : KeptP (· ≠ b) w (w2.setCell ⟨b, 1, none⟩ v') := ((K1.out.alloc _).grown hgrow (fun k hk => by simp [Value.ownBlock] at hk)).setCell (by simp) _
  have HB := Lib.hid hB
  have HK := Lib.hid hK
  have HN := Lib.hid hnew
  obtain ⟨g, cap, hv⟩ : ∃ g cap, v' = .slice (some ⟨g, 0, none⟩) 1 cap := by
    rcases hown'.2 with ⟨_, h0⟩ | ⟨g, cap, cur, hv, _⟩
    · omega
    · exact ⟨g, cap, hv⟩
  subst hv
  clear hown' hgrow hb2 hnew hown0 hB hK hbk hlt
  go_wp2
  go_ret
  exact ⟨rfl, _, HB.out, HN.out, HK.out⟩
end Go.Proofs.Ytbnehcnimbkakaa
