/-
  A token and a list of strings that came in, opened; the walk over Is.
-/
import Derived.Test.YtcmcikcagpkocaaDoorLxW
import Derived.Test.YtcmcikcagpkocaaDoorLxZ
import Derived.Lib.SmallJoins
import Derived.Lib.SlicesS
import Derived.SliceStrings
import Derived.ChangeSame
import Derived.OpenShut
namespace Go.Proofs.YtcmcikcagpkocaaDoor
open Go.RowKit Go.ChangeShapes Go.WideShapes
set_option linter.unusedVariables false

def StrsP (P : Nat → Prop) (w : World) (A : Option Addr) (ss : List ByteArray) : Prop :=
  ss = [] ∨ ∃ b off, A = some ⟨b, off, none⟩ ∧ P b ∧ ∀ j (h : j < ss.length), w.cell? ⟨b, off + j, none⟩ = some (.string ss[j])
theorem StrsP.at_ {P : Nat → Prop} {w : World} {A : Option Addr} {ss : List ByteArray} (h : StrsP P w A ss) {k : Nat} (hk : k < ss.length) : ∃ b off, A = some ⟨b, off, none⟩ ∧ b < w.heap.size ∧ w.cell? ⟨b, off + k, none⟩ = some (.string ss[k]) := by
  rcases h with rfl | ⟨b, off, e, -, hc⟩
  · simp at hk
  · exact ⟨b, off, e, World.block_lt_of_cell? w _ (hc k hk), hc k hk⟩
theorem StrsP.below {P : Nat → Prop} {w w' : World} {A : Option Addr} {ss : List ByteArray} (h : StrsP P w A ss) (hb : Below w.heap.size w w') : StrsP P w' A ss := by
  rcases h with rfl | ⟨b, off, e, hP, hc⟩
  · exact .inl rfl
  · exact .inr ⟨b, off, e, hP, fun j hj => (hb.cell (World.block_lt_of_cell? w _ (hc j hj))).trans (hc j hj)⟩
theorem plain_at {w : World} {a : Addr} {v : Value} (h : w.cell? (a.add 0) = some v) : ∃ b off, a = ⟨b, off, none⟩ := by
  obtain ⟨b, off, spot⟩ := a
  have hs : spot = none := by simpa [Addr.add] using World.cell?_spot h
  subst hs
  exact ⟨b, off, rfl⟩
section
variable {H : Type} {enc : TypeId × Value → H} {w : World} {spare : Nat → Bool} {fuel : Nat}
set_option maxRecDepth 100000 in
theorem open_strs {v : Value} {x : DataW H × List MemPlace} (h : DataW.trod enc Tryd.prog w 0 spare true fuel 47 [v] = some x) : ∃ A len cap ss, v = .slice A len cap ∧ len = ss.length ∧ len ≤ maxLen ∧ StrsP (fun _ => True) w A ss ∧ ∀ s ∈ ss, s.size ≤ maxLen := by
  rcases open_strings Tryd.underlying47 Tryd.underlying9 (by kernel_rfl) h with ⟨hcs, _⟩ | ⟨a, l, c, zs, hcs, _, hl, hm, hz, _, hcell, hwz⟩
  · simp only [List.cons.injEq, and_true] at hcs
    subst hcs
    exact ⟨none, 0, 0, [], rfl, rfl, Nat.zero_le _, .inl rfl, fun s hs => absurd hs List.not_mem_nil⟩
  · simp only [List.cons.injEq, and_true] at hcs
    subst hcs
    have hlz : l ≤ zs.length := by rw [hz]; split <;> omega
    refine ⟨some a, l, c, zs.take l, rfl, by simp; omega, by omega, ?_, fun s hs => hwz s (List.mem_of_mem_take hs)⟩
    by_cases h0 : l = 0
    · left; subst h0; simp
    · obtain ⟨b, off, rfl⟩ := plain_at (hcell 0 (by omega))
      refine .inr ⟨b, off, rfl, trivial, fun j hj => ?_⟩
      have hj' : j < l := by simp at hj; omega
      have hjz : j < zs.length := by omega
      have e := hcell j hjz
      have hadd : (⟨b, off, none⟩ : Addr).add j = ⟨b, off + j, none⟩ := by unfold Addr.add; split <;> simp_all
      rw [hadd] at e
      rw [e]
      have hg : zs.getD j ByteArray.empty = zs[j] := by simp [List.getD, List.getElem?_eq_getElem hjz]
      rw [hg]
      simp only [List.getElem_take]
set_option maxRecDepth 100000 in
theorem open_tok {b0 : Nat} {v : Value} {d : DataW H} {p : List MemPlace} (hv : Value.okWide Tryd.prog w .any b0 34 v) (h : DataW.Trod enc Tryd.prog w 0 spare true 34 v d p) :
    ∃ (k : Int) (t : ByteArray) (n q : Int), v = .agg #[.int .i64 k, .string t, .int .i64 n, .int .i64 q] ∧ t.size ≤ maxLen := by
  obtain ⟨c0, c1, c2, c3, y0, y1, y2, y3, n, rfl, -, -, h0, h1, h2, h3⟩ := Joins.open_agg4 Tryd.underlying34 (by kernel_rfl) (by kernel_rfl) hv h
  obtain ⟨t, e0, _, _⟩ := DataW.trod_int Tryd.underlying3 h0
  obtain ⟨s, e1, _, hs⟩ := DataW.trod_string Tryd.underlying9 h1
  obtain ⟨a, e2, _, _⟩ := DataW.trod_int Tryd.underlying3 h2
  obtain ⟨b, e3, _, _⟩ := DataW.trod_int Tryd.underlying3 h3
  have e0' : c0 = .int .i64 t := by simpa using e0
  have e1' : c1 = .string s := by simpa using e1
  have e2' : c2 = .int .i64 a := by simpa using e2
  have e3' : c3 = .int .i64 b := by simpa using e3
  subst e0' e1' e2' e3'
  exact ⟨t, s, a, b, rfl, hs⟩
end
attribute [local go_sem] Oper.semAt_some
set_option maxRecDepth 100000 in
set_option maxHeartbeats 1000000 in
theorem is_any (k n q : Int) (t : ByteArray) (A : Option Addr) (cap m : Nat) (ss : List ByteArray) (hl : ss.length = m) (hm : m ≤ 1000) (w : World) (K : StrsP (fun _ => True) w A ss) :
    Calls Tryd.prog 26 #[.agg #[.int .i64 k, .string t, .int .i64 n, .int .i64 q], .slice A m cap] w fun e w' => e = .returned (.bool (decide (k = 4) && Lib.containsS ss t)) ∧ Below w.heap.size w w' := by
  obtain ⟨b, hb⟩ : ∃ b, w.heap.size = b := ⟨_, rfl⟩
  obtain ⟨w1, hw1, T1, y1, z1⟩ := tk_start 33 w b hb k t n q
  have K1 := K.below y1
  obtain ⟨c0, c1, c2, c3, cf⟩ := T1.cells
  have KK := Lib.hid K1
  have HL := Lib.hid hl
  have Y1 : Hid (Below b w w1) := by rw [← hb]; exact y1
  clear K K1 T1 y1 hl
  by_cases hk : k = 4
  · have ke : ((k : Int) != 4) = false := by rw [hk]; rfl
    have e4 : decide (k = 4) = true := decide_eq_true hk
    rw [e4]
    clear hk e4
    go_enter Tryd.func26, Tryd.ntmps26
    go_wp2
    go_loop [12] (fun v => ∃ j : Nat, v = .int .i64 j ∧ j ≤ m ∧ Hid (∀ i (h : i < ss.length), i < j → ss[i] ≠ t)) (fun v => m - (intOf v).toNat)
    case atStart => exact ⟨0, rfl, Nat.zero_le _, fun i h hi => by omega⟩
    case round =>
      obtain ⟨j, rfl, hj, NO⟩ := hrel
      by_cases h : j < m
      · have hjl : j < ss.length := by rw [HL.out]; exact h
        obtain ⟨g, off, rfl, -, d0⟩ := KK.out.at_ hjl
        by_cases he : ss[j] = t
        · have N : Hid (Lib.containsS ss t = true) := (Lib.containsS_iff ss t).2 (by rw [← he]; exact List.getElem_mem hjl)
          have qe := strBx t
          rw [he] at d0
          clear he NO hjl
          go_wp2
          go_ret
          exact ⟨ret_bool (by rw [N.out]; try rfl), by first | exact Y1.out | (rw [hb]; exact Y1.out)⟩
        · have qe : (t.toList == ss[j].toList) = false := by
            rw [eq_list, ByteArray.toList_eq]
            exact decide_eq_false fun e => he (bytes_ext e).symm
          have N : Hid (∀ i (h : i < ss.length), i < j + 1 → ss[i] ≠ t) := fun i hi hij => by
            by_cases hij2 : i = j
            · subst hij2; exact he
            · exact NO.out i hi (by omega)
          obtain ⟨x, hx⟩ : ∃ x, ss[j] = x := ⟨_, rfl⟩
          rw [hx] at d0 qe
          clear he NO hjl hx
          go_wp2
          go_round
          case rel => exact ⟨j + 1, by go_num, h, N⟩
          case measure => simp [intOf]; omega
      · have N : Hid (Lib.containsS ss t = false) := Bool.eq_false_iff.2 fun hct => by
          obtain ⟨i, hi, e⟩ := List.getElem_of_mem ((Lib.containsS_iff ss t).1 hct)
          exact NO.out i hi (by rw [HL.out] at hi; omega) e
        clear NO
        go_wp2
        go_ret
        exact ⟨ret_bool (by rw [N.out]; try rfl), by first | exact Y1.out | (rw [hb]; exact Y1.out)⟩
  · have ke : ((k : Int) != 4) = true := bne_iff_ne.2 hk
    have e4 : decide (k = 4) = false := decide_eq_false hk
    rw [e4]
    clear hk e4
    go_enter Tryd.func26, Tryd.ntmps26
    go_wp2
    go_ret
    exact ⟨rfl, by first | exact Y1.out | (rw [hb]; exact Y1.out)⟩
theorem contains_strs (A : Option Addr) (cap m : Nat) (ss : List ByteArray) (hl : ss.length = m) (hm : m ≤ 1000) (t : ByteArray) (w : World) (K : StrsP (fun _ => True) w A ss) :
    Calls Tryd.prog 27 #[.slice A m cap, .string t] w fun e w' => e = .returned (.bool (Lib.containsS ss t)) ∧ w' = w := by
  rcases K with rfl | ⟨b, off, rfl, -, hc⟩
  · obtain rfl : m = 0 := hl.symm
    refine (Tryd.slices_Contains_string_empty A cap t w).mono ?_
    rintro e w' ⟨rfl, rfl⟩
    exact ⟨ret_bool (Bool.eq_false_iff.2 fun h => by have := (Lib.containsS_iff [] t).1 h; cases this).symm, rfl⟩
  · refine (Tryd.slices_Contains_string b off m cap ss t w (by omega) (by omega) (fun j hj => by rw [hc j hj, List.getD_eq_getElem?_getD, List.getElem?_eq_getElem hj]; rfl)).mono ?_
    rintro e w' ⟨rfl, rfl⟩
    refine ⟨ret_bool ?_, rfl⟩
    rw [List.take_of_length_le (by omega)]
end Go.Proofs.YtcmcikcagpkocaaDoor
