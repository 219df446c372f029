/-
  An instruction that came in reads as a mnemonic and a list of operands.
-/
import Derived.Test.YtbmgfkbgfgknbaaOb
import Derived.Lib.SmallJoins
import Derived.Deep.Slices
import Derived.Deep.Strs
import Derived.Deep.Fields
import Derived.ChangeSame
import Derived.OpenShut
namespace Go.Proofs.Ytbmgfkbgfgknbaa
open Go.RowKit Go.ChangeShapes Go.WideShapes Go.Deep
set_option linter.unusedVariables false

theorem plain_cell {w : World} {a : Addr} {v : Value} (h : w.cell? (a.add 0) = some v) : ∃ b off, a = ⟨b, off, none⟩ := by
  obtain ⟨b, off, spot⟩ := a
  have hs : spot = none := by simpa [Addr.add] using World.cell?_spot h
  subst hs
  exact ⟨b, off, rfl⟩
theorem add_twice (b off i j : Nat) : ((⟨b, off, none⟩ : Addr).add i).add j = ⟨b, off + i + j, none⟩ := by
  unfold Addr.add
  by_cases hi : i = 0 <;> by_cases hj : j = 0 <;> simp [hi, hj]
section
variable {H : Type} {enc : TypeId × Value → H} {w : World} {spare : Nat → Bool} {fuel : Nat}
set_option maxRecDepth 100000 in
/-- One operand: its three cells. -/
theorem open_opdC {cs : List Value} {x : DataW H × List MemPlace} (h : DataW.trod enc Try.prog w 0 spare true fuel 33 cs = some x) : ∃ t : Tr, cs = [.int .i64 t.1, .int .i64 t.2.1, .int .i64 t.2.2] := by
  obtain ⟨y0, y1, y2, n, _, hl, h0, h1, h2⟩ := trod_struct3 Try.underlying33 h
  have c3 : Try.prog.cellsOf 33 = 3 := by kernel_rfl
  have c1 : Try.prog.cellsOf 3 = 1 := by kernel_rfl
  rw [c3] at hl
  match cs, hl with
  | [p0, p1, p2], _ =>
    simp only [c1] at h0 h1 h2
    obtain ⟨k, e0, _, _⟩ := DataW.trod_int Try.underlying3 h0
    obtain ⟨r, e1, _, _⟩ := DataW.trod_int Try.underlying3 h1
    obtain ⟨m, e2, _, _⟩ := DataW.trod_int Try.underlying3 h2
    have e0' : p0 = .int .i64 k := by simpa using e0
    have e1' : p1 = .int .i64 r := by simpa using e1
    have e2' : p2 = .int .i64 m := by simpa using e2
    subst e0' e1' e2'
    exact ⟨(k, r, m), rfl⟩
set_option maxRecDepth 100000 in
theorem open_opds {v : Value} {x : DataW H × List MemPlace} (h : DataW.trod enc Try.prog w 0 spare true fuel 22 [v] = some x) :
    ∃ A len cap L, v = .slice A len cap ∧ len = L.length ∧ len ≤ maxLen ∧ OpsP w A L := by
  rcases Deep.open_slice Try.underlying22 h with ⟨hcs, _⟩ | ⟨a, len, cap, m, n, D, Pl, hcs, _, hl, hm, hmm, _, hx⟩
  · simp only [List.cons.injEq, and_true] at hcs
    exact ⟨none, 0, 0, [], hcs, rfl, Nat.zero_le _, .inl rfl⟩
  · simp only [List.cons.injEq, and_true] at hcs
    have hlm : len ≤ m := by rw [hmm]; split <;> omega
    have c3 : Try.prog.cellsOf 33 = 3 := by kernel_rfl
    have hall : ∀ i, i < len → ∃ t : Tr, w.cells? 0 (a.add (i * 3)) 3 = some [.int .i64 t.1, .int .i64 t.2.1, .int .i64 t.2.2] := fun i hi => by
      obtain ⟨cs, h1, h2⟩ := hx i (by omega)
      rw [c3] at h1
      obtain ⟨t, e⟩ := open_opdC h2
      rw [e] at h1
      exact ⟨t, h1⟩
    obtain ⟨f, hf⟩ := Deep.choose_lt hall
    refine ⟨some a, len, cap, (List.range len).map f, hcs, by simp, by omega, ?_⟩
    by_cases h0 : len = 0
    · left; subst h0; simp
    · have q := (World.cells?_some (hf 0 (by omega))).2.2 0 (by omega)
      rw [Nat.zero_mul, show (a.add 0).add 0 = a.add 0 by simp [Addr.add]] at q
      obtain ⟨b, off, rfl⟩ := plain_cell q
      refine .inr ⟨b, off, rfl, fun j hj => ?_⟩
      have hj' : j < len := by simpa using hj
      have e0 := (World.cells?_some (hf j hj')).2.2 0 (by omega)
      have e1 := (World.cells?_some (hf j hj')).2.2 1 (by omega)
      have e2 := (World.cells?_some (hf j hj')).2.2 2 (by omega)
      rw [add_twice] at e0 e1 e2
      simp only [List.getElem_map, List.getElem_range]
      exact ⟨e0, e1, e2⟩
set_option maxRecDepth 100000 in
theorem open_ins {b0 : Nat} {v : Value} {d : DataW H} {p : List MemPlace} (hv : Value.okWide Try.prog w .any b0 24 v) (h : DataW.Trod enc Try.prog w 0 spare true 24 v d p) :
    ∃ (s : ByteArray) (A : Option Addr) (cap : Nat) (L : List Tr), v = .agg #[.string s, .slice A L.length cap] ∧ s.size ≤ maxLen ∧ L.length ≤ maxLen ∧ OpsP w A L := by
  obtain ⟨c0, c1, y0, y1, n, rfl, -, -, h0, h1⟩ := Joins.open_agg2 Try.underlying24 (by kernel_rfl) (by kernel_rfl) hv h
  obtain ⟨s, e0, _, hs⟩ := DataW.trod_string Try.underlying9 h0
  have e0' : c0 = .string s := by simpa using e0
  obtain ⟨A, len, cap, L, e2, e3, e4, hL⟩ := open_opds h1
  subst e0' e2 e3
  exact ⟨s, A, cap, L, rfl, hs, e4, hL⟩
end
end Go.Proofs.Ytbmgfkbgfgknbaa
