/-
  Runs that came in as an argument: opened.
-/
import Derived.Test.YtllfebekanafhaaImgS
import Derived.ProofKit
import Derived.OpenShut
import Derived.Deep.Slices
namespace Go.Proofs.Ytllfebekanafhaa
open Go.ChangeShapes Go.WideShapes Go.RowKit
set_option linter.unusedVariables false

theorem plain_of_cell {w : World} {a : Addr} {v : Value} (h : w.cell? (a.add 0) = some v) : ∃ b off, a = ⟨b, off, none⟩ := by
  obtain ⟨b, off, spot⟩ := a
  have hs : spot = none := by simpa [Addr.add] using World.cell?_spot h
  subst hs
  exact ⟨b, off, rfl⟩
theorem add_at (b off i j : Nat) : ((⟨b, off, none⟩ : Addr).add i).add j = ⟨b, off + i + j, none⟩ := by
  unfold Addr.add
  by_cases hi : i = 0 <;> by_cases hj : j = 0 <;> simp [hi, hj]
def toU8 (n : Int) : UInt8 := n.toNat.toUInt8
theorem toU8_nat {n : Int} (h : (Lit.int .u8 n).wf = true) : ((toU8 n).toNat : Int) = n := by
  have := bounds_u8 h
  unfold toU8
  rw [UInt8.toNat_ofNat_of_lt' (show n.toNat < 256 by omega)]
  omega
section
variable {H : Type} {enc : TypeId × Value → H} {w : World} {spare : Nat → Bool} {fuel : Nat}
theorem open_bytes {v : Value} {x : DataW H × List MemPlace} (h : DataW.trod enc Try.prog w 0 spare true fuel 28 [v] = some x) : ∃ A len cap xs, v = .slice A len cap ∧ len = xs.length ∧ len ≤ maxLen ∧ BytesP (fun _ => True) w A xs := by
  rcases open_ints Try.underlying28 Try.underlying5 (by kernel_rfl) h with ⟨hcs, _⟩ | ⟨a, l, c, zs, hcs, _, hl, hm, hz, _, hcell, hwz⟩
  · simp only [List.cons.injEq, and_true] at hcs
    subst hcs
    exact ⟨none, 0, 0, [], rfl, rfl, Nat.zero_le _, .inl rfl⟩
  · simp only [List.cons.injEq, and_true] at hcs
    subst hcs
    have hlz : l ≤ zs.length := by rw [hz]; split <;> omega
    refine ⟨some a, l, c, (zs.take l).map toU8, rfl, by simp; omega, by omega, ?_⟩
    by_cases h0 : l = 0
    · left; subst h0; simp
    · obtain ⟨b, off, rfl⟩ := plain_of_cell (hcell 0 (by omega))
      refine .inr ⟨b, off, rfl, trivial, fun j hj => ?_⟩
      have hj' : j < l := by simp at hj; omega
      have hjz : j < zs.length := by omega
      have e := hcell j hjz
      have hadd : (⟨b, off, none⟩ : Addr).add j = ⟨b, off + j, none⟩ := by unfold Addr.add; split <;> simp_all
      rw [hadd] at e
      rw [e]
      have hg : zs.getD j 0 = zs[j] := by simp [List.getD, List.getElem?_eq_getElem hjz]
      rw [hg]
      simp only [List.getElem_map, List.getElem_take]
      rw [toU8_nat (hwz _ (List.getElem_mem hjz))]
theorem open_run {cs : List Value} {x : DataW H × List MemPlace} (h : DataW.trod enc Try.prog w 0 spare true fuel 30 cs = some x) :
    ∃ r : R, cs = [.int .i64 r.addr, .slice r.A r.data.length r.cap] ∧ r.data.length ≤ maxLen ∧ BytesP (fun _ => True) w r.A r.data := by
  have hu := Try.underlying30
  obtain ⟨y0, y1, n, _, hl, h0, h1⟩ := trod_struct2 hu h
  have c30 : Try.prog.cellsOf 30 = 2 := by kernel_rfl
  have c3 : Try.prog.cellsOf 3 = 1 := by kernel_rfl
  have c28 : Try.prog.cellsOf 28 = 1 := by kernel_rfl
  rw [c30] at hl
  match cs, hl with
  | [c0, c1], _ =>
    simp only [c3, c28] at h0 h1
    obtain ⟨m, e0, _, _⟩ := DataW.trod_int Try.underlying3 h0
    have e0' : c0 = .int .i64 m := by simpa using e0
    have h1' : DataW.trod enc Try.prog w 0 spare true n 28 [c1] = some y1 := h1
    obtain ⟨A, len, cap, xs, e1, e2, e3, hb⟩ := open_bytes h1'
    subst e0' e1 e2
    exact ⟨⟨m, A, cap, xs⟩, rfl, e3, hb⟩
theorem open_runs {v : Value} {x : DataW H × List MemPlace} (h : DataW.trod enc Try.prog w 0 spare true fuel 22 [v] = some x) :
    ∃ A len cap rs, v = .slice A len cap ∧ len = rs.length ∧ len ≤ maxLen ∧ RunsP (fun _ => True) (fun _ => True) w A rs ∧ ∀ r ∈ rs, r.data.length ≤ maxLen := by
  rcases Deep.open_slice Try.underlying22 h with ⟨hcs, _⟩ | ⟨a, len, cap, m, n, D, Pl, hcs, _, hl, hm, hmm, _, hx⟩
  · simp only [List.cons.injEq, and_true] at hcs
    subst hcs
    exact ⟨none, 0, 0, [], rfl, rfl, Nat.zero_le _, ⟨.inl rfl, fun r hr => absurd hr List.not_mem_nil⟩, fun r hr => absurd hr List.not_mem_nil⟩
  · simp only [List.cons.injEq, and_true] at hcs
    subst hcs
    have hlm : len ≤ m := by rw [hmm]; split <;> omega
    have c30 : Try.prog.cellsOf 30 = 2 := by kernel_rfl
    have hall : ∀ i, i < len → ∃ r : R, w.cells? 0 (a.add (i * 2)) 2 = some [.int .i64 r.addr, .slice r.A r.data.length r.cap] ∧ r.data.length ≤ maxLen ∧ BytesP (fun _ => True) w r.A r.data := fun i hi => by
      obtain ⟨cs, h1, h2⟩ := hx i (by omega)
      rw [c30] at h1
      obtain ⟨r, e, h3, h4⟩ := open_run h2
      rw [e] at h1
      exact ⟨r, h1, h3, h4⟩
    obtain ⟨f, hf⟩ := Deep.choose_lt hall
    refine ⟨some a, len, cap, (List.range len).map f, rfl, by simp, by omega, ⟨?_, ?_⟩, ?_⟩
    · by_cases h0 : len = 0
      · left; subst h0; simp
      · obtain ⟨q1, _⟩ := hf 0 (by omega)
        have e0 := (World.cells?_some q1).2.2 0 (by omega)
        simp only [Nat.zero_mul] at e0
        have e0' : w.cell? (a.add 0) = some (.int .i64 (f 0).addr) := by
          have hz : (a.add 0).add 0 = a.add 0 := by simp [Addr.add]
          rw [hz] at e0; exact e0
        obtain ⟨b, off, rfl⟩ := plain_of_cell e0'
        refine .inr ⟨b, off, rfl, trivial, fun j hj => ?_⟩
        have hj' : j < len := by simpa using hj
        obtain ⟨q1, _⟩ := hf j hj'
        have e1 := (World.cells?_some q1).2.2 0 (by omega)
        have e2 := (World.cells?_some q1).2.2 1 (by omega)
        rw [add_at] at e1 e2
        simp only [List.getElem_map, List.getElem_range]
        exact ⟨e1, e2⟩
    · intro r hr
      obtain ⟨i, hi, rfl⟩ := List.mem_map.1 hr
      exact (hf i (List.mem_range.1 hi)).2.2
    · intro r hr
      obtain ⟨i, hi, rfl⟩ := List.mem_map.1 hr
      exact (hf i (List.mem_range.1 hi)).2.1
end

set_option maxHeartbeats 400000 in
/-- Few, at more than 60 runs. -/
theorem few_big (S P : Nat → Prop) (A : Option Addr) (cap : Nat) (rs : List R) (hl : rs.length ≤ maxLen) (h60 : 60 < rs.length) (w : World) (hW : RunsP S P w A rs) (hd : ∀ r ∈ rs, r.data.length ≤ maxLen) :
    Calls Try.prog 9 #[.slice A rs.length cap] w fun e w' => e = .returned (.bool false) ∧ w = w' := by
  unfold maxLen at hl
  have Z := Lib.hid hW
  have HD := Lib.hid hd
  have H6 := Lib.hid h60
  clear hW hd h60
  go_enter Try.func9, Try.ntmps9
  go_wp2
  go_loop [3, 4] (fun n i => ∃ (k : Nat) (m : Int), k ≤ rs.length ∧ i = .int .i64 k ∧ n = .int .i64 m) (fun _ i => rs.length - (intOf i).toNat)
  case atStart => exact ⟨0, 0, Nat.zero_le _, rfl, rfl⟩
  case round =>
    obtain ⟨k, m, hk, rfl, rfl⟩ := hrel
    by_cases hlt : k < rs.length
    · obtain ⟨b, off, hA, g1, g2⟩ := Z.out.at_ hlt
      subst hA
      have hdk := HD.out _ (List.getElem_mem hlt)
      obtain ⟨x, hx⟩ : ∃ x : Nat, rs[k].data.length = x := ⟨_, rfl⟩
      rw [hx] at g2 hdk
      unfold maxLen at hdk
      clear hx g1
      have hlt' : (k : Int) < (rs.length : Int) := by omega
      go_wp2
      go_round
      case rel => exact ⟨k + 1, _, by omega, by go_num, rfl⟩
      case measure => simp [intOf]; omega
    · have hlt' : decide ((k : Int) < (rs.length : Int)) = false := decide_eq_false (by omega)
      have h60' : decide ((rs.length : Int) ≤ 60) = false := decide_eq_false (by have := H6.out; omega)
      go_wp2
      go_ret
      exact ⟨rfl, rfl⟩
/-- Few. -/
theorem fewAll_any (S P : Nat → Prop) (A : Option Addr) (cap : Nat) (rs : List R) (hl : rs.length ≤ maxLen) (w : World) (hW : RunsP S P w A rs) (hd : ∀ r ∈ rs, r.data.length ≤ maxLen) :
    Calls Try.prog 9 #[.slice A rs.length cap] w fun e w' => e = .returned (.bool (fewB rs)) ∧ w = w' := by
  by_cases h : rs.length ≤ 60
  · exact few_any S P A cap rs (by omega) w hW hd
  · have e : fewB rs = false := by unfold fewB; rw [decide_eq_false h]; rfl
    rw [e]
    exact few_big S P A cap rs hl (by omega) w hW hd
theorem few_len {rs : List R} (h : fewB rs = true) : rs.length ≤ 60 := by
  unfold fewB at h
  rw [Bool.and_eq_true, decide_eq_true_eq] at h
  exact h.1
end Go.Proofs.Ytllfebekanafhaa
