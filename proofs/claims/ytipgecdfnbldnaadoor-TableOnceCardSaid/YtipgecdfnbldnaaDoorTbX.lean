/-
  Bytes and pairs of bytes that came in, opened.
-/
import Derived.Test.YtipgecdfnbldnaaDoorTaF
import Derived.Test.YtipgecdfnbldnaaDoorShp
import Derived.ProofKit
import Derived.OpenShut
namespace Go.Proofs.YtipgecdfnbldnaaDoor
open Go.ChangeShapes Go.WideShapes Go.RowKit
set_option linter.unusedVariables false

def bU8 (n : Int) : UInt8 := n.toNat.toUInt8
theorem bU8_nat {n : Int} (h : (Lit.int .u8 n).wf = true) : ((bU8 n).toNat : Int) = n := by
  have h2 : 0 ≤ n ∧ n ≤ 255 := by
    have h3 : IntKind.u8.min ≤ n ∧ n ≤ IntKind.u8.max := by simpa [Lit.wf] using h
    exact h3
  unfold bU8
  rw [UInt8.toNat_ofNat_of_lt' (show n.toNat < 256 by omega)]
  omega
section
variable {H : Type} {enc : TypeId × Value → H} {w : World} {spare : Nat → Bool} {fuel : Nat}
theorem addr_plain {a : Addr} {v : Value} (h : w.cell? (a.add 0) = some v) : ∃ b off, a = ⟨b, off, none⟩ := by
  obtain ⟨b, off, spot⟩ := a
  have hs : spot = none := by simpa [Addr.add] using World.cell?_spot h
  subst hs
  exact ⟨b, off, rfl⟩
theorem open_bytesA {v : Value} {x : DataW H × List MemPlace} (h : DataW.trod enc Tryd.prog w 0 spare true fuel 34 [v] = some x) : ∃ A len cap xs, v = .slice A len cap ∧ len = xs.length ∧ len ≤ maxLen ∧ BytesAt w A xs := by
  rcases open_ints Tryd.underlying34 Tryd.underlying5 (by kernel_rfl) h with ⟨hcs, _⟩ | ⟨a, l, c, zs, hcs, _, hl, hm, hz, _, hcell, hwz⟩
  · simp only [List.cons.injEq, and_true] at hcs
    subst hcs
    exact ⟨none, 0, 0, [], rfl, rfl, Nat.zero_le _, .inl rfl⟩
  · simp only [List.cons.injEq, and_true] at hcs
    subst hcs
    have hlz : l ≤ zs.length := by rw [hz]; split <;> omega
    refine ⟨some a, l, c, (zs.take l).map bU8, rfl, by simp; omega, by omega, ?_⟩
    by_cases h0 : l = 0
    · left; subst h0; simp
    · obtain ⟨b, off, rfl⟩ := addr_plain (hcell 0 (by omega))
      refine .inr ⟨b, off, rfl, fun j hj => ?_⟩
      have hj' : j < l := by simp at hj; omega
      have hjz : j < zs.length := by omega
      have e := hcell j hjz
      have hadd : (⟨b, off, none⟩ : Addr).add j = ⟨b, off + j, none⟩ := by unfold Addr.add; split <;> simp_all
      rw [hadd] at e
      rw [e]
      have hg : zs.getD j 0 = zs[j] := by simp [List.getD, List.getElem?_eq_getElem hjz]
      rw [hg]
      simp only [List.getElem_map, List.getElem_take]
      rw [bU8_nat (hwz _ (List.getElem_mem hjz))]
end

set_option maxRecDepth 100000 in
theorem okWide_u8x2 {w : World} {r : Reach} {base : Nat} {v : Value} (h : Value.okWide Tryd.prog w r base 22 v) : ∃ c0 c1, v = .agg #[c0, c1] := by
  simp only [Value.okWide, Tryd.underlying22] at h
  obtain ⟨cs, h1, h2, _⟩ := h
  have c2 : Tryd.prog.cellsOf 22 = 2 := by kernel_rfl
  rw [c2] at h2
  match cs, h2 with
  | ⟨[c0, c1]⟩, _ => exact ⟨c0, c1, h1⟩
set_option maxRecDepth 100000 in
theorem u8_wf {n : Int} (h : (Lit.int .u8 n).wf = true) : 0 ≤ n ∧ n ≤ 255 := by
  have h3 : IntKind.u8.min ≤ n ∧ n ≤ IntKind.u8.max := by simpa [Lit.wf] using h
  exact h3
set_option maxRecDepth 100000 in
theorem open_u8x2 {H : Type} {enc : TypeId × Value → H} {w : World} {spare : Nat → Bool} {fuel : Nat} {c0 c1 : Value} {x : DataW H × List MemPlace} (h : DataW.trod enc Tryd.prog w 0 spare true fuel 22 [c0, c1] = some x) :
    ∃ a b : Int, c0 = .int .u8 a ∧ c1 = .int .u8 b ∧ (0 ≤ a ∧ a ≤ 255) ∧ 0 ≤ b ∧ b ≤ 255 := by
  obtain ⟨xs, m, _, _, _, hx, hi⟩ := DataW.trod_array Tryd.underlying22 h
  have c1' : Tryd.prog.cellsOf 5 = 1 := by kernel_rfl
  match xs, hx with
  | [y0, y1], _ =>
    have h0 := hi 0 (by omega)
    have h1 := hi 1 (by omega)
    rw [c1'] at h0 h1
    have h0' : DataW.trod enc Tryd.prog w 0 spare true m 5 [c0] = some y0 := h0
    have h1' : DataW.trod enc Tryd.prog w 0 spare true m 5 [c1] = some y1 := h1
    obtain ⟨a, e0, _, w0⟩ := DataW.trod_int Tryd.underlying5 h0'
    obtain ⟨b, e1, _, w1⟩ := DataW.trod_int Tryd.underlying5 h1'
    exact ⟨a, b, by simpa using e0, by simpa using e1, u8_wf w0, u8_wf w1⟩
end Go.Proofs.YtipgecdfnbldnaaDoor
