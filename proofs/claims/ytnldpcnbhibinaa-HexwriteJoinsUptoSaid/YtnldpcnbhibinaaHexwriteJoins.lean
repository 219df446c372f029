/-
  HexwriteJoins, for all strings that hold together at most 1048576 values and letters: Join returns the strings with a line feed after each of them, and a nil image is like an empty one: the law returns true, and its argument reads as it did.
  Conditions: the second form's bound (the arguments' bulk is at most 1048576).
-/
import Derived.Test.YtnldpcnbhibinaaHexAllD
import Derived.Test.YtnldpcnbhibinaaRows
import Derived.ProofKit
import Derived.OpenShut
import Derived.Lay
import Derived.Below
import Derived.WalkKit
import Derived.JoinedCond
import Derived.SliceStrings
namespace Go.Proofs.Ytnldpcnbhibinaa.hexwriteJoinsDone
open Go.ChangeShapes Go.WideShapes Go.ChangeAt Go.RowKit
set_option linter.unusedVariables false

theorem own : ownKnob Try.prog.godebug = none := by kernel_rfl
theorem laidOut : laidOutB Try.prog = true := by kernel_rfl
theorem joinS_size (ss : List ByteArray) (k : Nat) (h : k < ss.length) : (joinS (ss.take k)).length + ss[k].size + 1 ≤ (joinS ss).length := by
  have h1 := joinS_le ss (k + 1)
  rw [joinS_take ss k h, List.length_append, List.length_append, List.length_singleton] at h1
  have e : ss[k].data.toList.length = ss[k].size := by simp
  omega
set_option maxRecDepth 100000 in
set_option maxHeartbeats 8000000 in
theorem walk (A : Option Addr) (cap : Nat) (ss : List ByteArray) (w : World) (hm : ss.length ≤ maxLen) (hX : StrsP (fun _ => True) w A ss) (hb : (joinS ss).length ≤ 1048576) :
    Calls Try.prog 6 #[.slice A ss.length cap] w fun e w' => e = .returned (.bool true) ∧ Below w.heap.size w w' := by
  unfold maxLen at hm
  have X := Lib.hid (hX.mono (Q := fun i => i < w.heap.size) fun i hi _ => hi)
  have HB := Lib.hid hb
  clear hX hb
  go_enter Try.func6, Try.ntmps6
  go_wp2
  go_loop [3, 4, 9] (fun sv nv i => ∃ (k m : Nat) (T : ByteArray), k ≤ ss.length ∧ i = .int .i64 k ∧ nv = .int .i64 m ∧ sv = .string T ∧ m ≤ 2000 ∧ Hid (T = strOf (joinS (ss.take k)))) (fun _ _ i => ss.length - (intOf i).toNat)
  case atStart => exact ⟨0, 0, ⟨#[]⟩, Nat.zero_le _, rfl, rfl, rfl, Nat.zero_le _, rfl⟩
  case round =>
    obtain ⟨k, m, T, hk, rfl, rfl, rfl, hmm, E⟩ := hrel
    by_cases hlt : k < ss.length
    · have hlt' : (k : Int) < (ss.length : Int) := by omega
      obtain ⟨g, off, hA, g0⟩ := X.out.at_ hlt
      subst hA
      have HT := joinS_take ss k hlt
      have HZ := joinS_size ss k hlt
      obtain ⟨s, hs⟩ : ∃ s, ss[k] = s := ⟨_, rfl⟩
      rw [hs] at g0 HT HZ
      have hTs : T.size = (joinS (ss.take k)).length := by rw [E.out, strOf_size]
      have hbb := HB.out
      have hc1 : ¬ 9223372036854775807 < s.size + 1 := by omega
      have hc2 : ¬ 9223372036854775807 < T.size + (s.size + 1) := by omega
      have hc3 : ¬ 9223372036854775807 < T.size + s.size + 1 := by omega
      have hsz : s.size ≤ 1048576 := by omega
      by_cases hn : m + min s.size 2000 ≤ 2000
      case neg =>
        have hn' : (2000 : Int) < (m : Int) + min (s.size : Int) 2000 := by omega
        clear HT HZ hTs hs
        go_wp2_with fail
        refine (alive_any _).mono ?_
        rintro e w2 ⟨rfl, hb2⟩
        have N := Lib.hid hb2
        clear hb2
        go_wp2
        go_ret
        exact ⟨rfl, N.out⟩
      case pos =>
        obtain ⟨q, hq⟩ : ∃ q, m + min s.size 2000 = q := ⟨_, rfl⟩
        have hq' : (m : Int) + min (s.size : Int) 2000 = (q : Int) := by omega
        have hn' : decide ((2000 : Int) < (q : Int)) = false := decide_eq_false (by omega)
        have hq2 : q ≤ 2000 := by omega
        have F : Hid (T ++ (s ++ ⟨#[10]⟩) = strOf (joinS (ss.take (k + 1)))) := by
          show _ = _
          rw [HT, E.out]
          apply bytes_ext
          simp [append_data, strOf_list]
        clear HT HZ hTs hs hn hq hbb
        go_wp2
        go_round
        case rel => exact ⟨k + 1, q, _, by omega, by go_num, by first | rfl | rw [hq'], rfl, hq2, F.out⟩
        case measure => simp [intOf]; omega
    · have hlt' : decide ((k : Int) < (ss.length : Int)) = false := decide_eq_false (by omega)
      have ET : Hid (strOf (joinS ss) = T) := by
        show _ = _
        rw [E.out, List.take_of_length_le (by omega)]
      have J := fun w2 (h : Below w.heap.size w w2) => join_any (fun i => i < w.heap.size) A cap ss (by unfold maxLen; omega) (by have := HB.out; omega) w2 (X.out.blocks fun i hi hp => h.block i hp)
      have e1 : strOf (textW 16 []) = ⟨#[58, 48, 48, 48, 48, 48, 48, 48, 49, 70, 70, 10]⟩ := by
        unfold textW linesW recsW recsR
        have e : printL 1 0 [] = [58, 48, 48, 48, 48, 48, 48, 48, 49, 70, 70] := by decide +kernel
        simp only [show Im.runsW [] = [] from rfl, List.flatMap_nil, List.map_nil, List.nil_append, e]
        rfl
      have K1 := fun w2 => write_any (.pointer none) [] w2 (.inl ⟨rfl, rfl⟩)
      have K2 := fun w2 => lines_any (.pointer none) [] w2 (.inl ⟨rfl, rfl⟩)
      have K3 := fun w2 => dump_any (.pointer none) [] w2 (.inl ⟨rfl, rfl⟩)
      rw [e1] at K1
      rw [show (((recsW 16 []).length + 1 : Nat) : Int) = 1 by decide +kernel] at K2
      rw [show strOf (dumpL []) = ⟨#[]⟩ from rfl] at K3
      rw [ET.out] at J
      have hemp : (⟨#[]⟩ : ByteArray).toList.isEmpty = true := by rw [ByteArray.toList_eq]; rfl
      clear E e1
      go_wp2_with fail
      refine (alive_any _).mono ?_
      rintro e w2 ⟨rfl, hb2⟩
      have B2 := Lib.hid hb2
      clear hb2
      go_wp2_with fail
      refine (J _ B2.out).mono ?_
      rintro e w3 ⟨rfl, hb⟩
      have B3 : Hid (Below w.heap.size w w3) := B2.out.trans (hb.mono B2.out.size)
      clear hb J
      go_wp2_with fail
      refine (K1 _).mono ?_
      rintro e w4 ⟨rfl, hb⟩
      have B4 : Hid (Below w.heap.size w w4) := B3.out.trans (hb.mono B3.out.size)
      clear hb K1
      go_wp2_with fail
      refine (K2 _).mono ?_
      rintro e w5 ⟨rfl, hb⟩
      have B5 : Hid (Below w.heap.size w w5) := B4.out.trans (hb.mono B4.out.size)
      clear hb K2
      go_wp2_with fail
      refine (K3 _).mono ?_
      rintro e w6 ⟨rfl, hb⟩
      have B6 : Hid (Below w.heap.size w w6) := B5.out.trans (hb.mono B5.out.size)
      clear hb K3
      go_wp2
      go_ret
      exact ⟨rfl, B6.out⟩

theorem bulk_strs {H : Type} (ss : List ByteArray) : Rows.uptoBulkAll (strs (H := H) ss) = (joinS ss).length := by
  induction ss with
  | nil => rfl
  | cons s t ih =>
    have e1 : strs (H := H) (s :: t) = DataW.lit (.string s.data.toList) :: strs t := rfl
    have e2 : joinS (s :: t) = s.data.toList ++ 10 :: joinS t := by unfold joinS; rw [List.map_cons, joinL_cons]
    rw [e1, e2]
    simp only [Rows.uptoBulkAll, Rows.uptoBulk, ih, List.length_append, List.length_cons]
    omega
/-- What the bound gives. -/
theorem short {H : Type} {ss sp : List ByteArray} (hk : Rows.uptoSmall H [.slice (strs ss) (strs sp)] = true) : (joinS ss).length ≤ 1048576 := by
  have h : Rows.uptoBulkAll [DataW.slice (strs (H := H) ss) (strs sp)] ≤ 1048576 := of_decide_eq_true hk
  simp only [Rows.uptoBulkAll, Rows.uptoBulk, bulk_strs] at h
  omega
set_option maxRecDepth 100000 in
theorem opened {H : Type} {enc : TypeId × Value → H} {w : World} {spare : Nat → Bool} {fuel : Nat} {v : Value} {x : DataW H × List MemPlace} (h : DataW.trod enc Try.prog w 0 spare true fuel 39 [v] = some x) (hk : Rows.uptoSmall H [x.1] = true) :
    ∃ A len cap ss, v = .slice A len cap ∧ len = ss.length ∧ len ≤ maxLen ∧ StrsP (fun _ => True) w A ss ∧ (joinS ss).length ≤ 1048576 := by
  rcases open_strings Try.underlying39 Try.underlying9 (by kernel_rfl) h with ⟨hcs, _⟩ | ⟨a, l, c, zs, hcs, _, hl, hm, hz, hx, hcell, hwz⟩
  · simp only [List.cons.injEq, and_true] at hcs
    subst hcs
    exact ⟨none, 0, 0, [], rfl, rfl, Nat.zero_le _, .inl rfl, by decide⟩
  · simp only [List.cons.injEq, and_true] at hcs
    subst hcs
    rw [hx] at hk
    have hlz : l ≤ zs.length := by rw [hz]; split <;> omega
    refine ⟨some a, l, c, zs.take l, rfl, by simp; omega, by omega, ?_, short hk⟩
    by_cases h0 : l = 0
    · left; subst h0; simp
    · obtain ⟨b, off, rfl⟩ := plain_of_cell (hcell 0 (by omega))
      refine .inr ⟨b, off, rfl, trivial, fun j hj => ?_⟩
      have hj' : j < l := by simp at hj; omega
      have hjz : j < zs.length := by omega
      have e := hcell j hjz
      have hadd : (⟨b, off, none⟩ : Addr).add j = ⟨b, off + j, none⟩ := by unfold Addr.add; split <;> simp_all
      rw [hadd] at e
      rw [e]
      have hg : zs.getD j ByteArray.empty = zs[j] := by simp [List.getD, List.getElem?_eq_getElem hjz]
      rw [hg]
      simp only [List.getElem_take]
set_option maxRecDepth 100000 in
theorem lifted (os : Os) (started : os.Started) (H : Type) (enc : TypeId × Value → H) (F : Stop.Interp) :
    ReturnsInHanded {} Try.checked os 6 .any ((Rows.OpenSpec.upto Rows.hexwriteJoinsSpec).pre6 enc Try.prog Try.f6 Rows.hexwriteJoinsUptoRow.domain false) (((Rows.OpenSpec.upto Rows.hexwriteJoinsSpec).at F).post enc Try.prog Try.f6 false true false false) := by
  refine returnsInHanded_of_cond (C := Try.checked) (s := Rows.OpenSpec.upto Rows.hexwriteJoinsSpec) (k := Rows.uptoSmall) rfl own started (by kernel_rfl) Try.func6
    (OpenSpec.witness (enc := enc) (C := Try.checked) (s := Rows.OpenSpec.upto Rows.hexwriteJoinsSpec) (k := Rows.uptoSmall) rfl false ⟨#[], #[.slice none 0 0], []⟩ 8 (by kernel_rfl) (by kernel_rfl) (by kernel_rfl)
      (x := ([.nil], [], [])) (by kernel_rfl) rfl (by kernel_rfl)) ?_
  intro W base args ds gs before hval0 hW _ hk _
  have hval : ∀ (j : Nat) t v, Try.f6.params[j]? = some t → args[j]? = some v → Value.okWide Try.prog W .any base t v := hval0
  have hW' := hW
  obtain ⟨p, q, hA0, hV, rfl, _, _⟩ := hW
  have hA : DataW.TrodAll enc Try.prog W 0 (fun _ => true) true Try.f6.params.toList args.toList ds p := hA0
  rw [Try.params6] at hA hval
  obtain ⟨v0, vs0, d0, ds0, p0, q0, hargs, rfl, rfl, h0, r0⟩ := trodAll_cons hA
  obtain ⟨rfl, rfl, rfl⟩ := trodAll_nil r0
  obtain rfl : args = #[v0] := by cases args; simp_all
  obtain ⟨rfl, rfl⟩ := trodVars_none hV
  have k0 := h0
  have lt0 : ∀ x ∈ p0, x.block < W.heap.size := by obtain ⟨m, hm⟩ := k0; exact DataW.trod_lt m _ _ _ hm
  obtain ⟨a0, len0, cap0, rfl⟩ := okWide_slice Try.underlying39 (hval 0 39 v0 rfl rfl)
  obtain ⟨z0, hz0, hm0, w0, c0⟩ : ∃ xs, len0 = xs.length ∧ len0 ≤ maxLen ∧ StrsP (fun _ => True) W a0 xs ∧ (joinS xs).length ≤ 1048576 := by
    obtain ⟨fuel, hf⟩ := h0
    have hf' : DataW.trod enc Try.prog W 0 (fun _ => true) true fuel 39 [.slice a0 len0 cap0] = some (d0, p0) := by simpa [Value.cells] using hf
    obtain ⟨A, len, cap, xs, e1, e2, e3, e4, e5⟩ := opened hf' (by simpa using hk)
    simp only [Value.slice.injEq] at e1
    obtain ⟨rfl, rfl, rfl⟩ := e1
    exact ⟨xs, e2, e3, e4, e5⟩
  subst hz0
  clear hA0 hval0
  refine (walk a0 cap0 z0 W hm0 w0 c0).mono fun e W' ⟨he, bel⟩ => ?_
  subst he
  exact ⟨_, rfl, _, _, _, [], _, [], hW', trodAll_mk1 (shut_bool Try.underlying4 _), (trodAll_cons_mk (Below.trod laidOut (by kernel_rfl) (of_decide_eq_true (by kernel_rfl)) k0 bel lt0) trodAll_mk0), rfl, bel.frame _, fun h => by cases h⟩

theorem over : Rows.HexwriteJoinsUptoSaid :=
  OpenClaim.holds_of_cond 6 Try.f6 rfl rfl rfl rfl rfl rfl rfl ⟨rfl, rfl, rfl, rfl, rfl⟩ rfl rfl rfl rfl rfl (by kernel_rfl) Try.func6 (by kernel_rfl)
    (of_decide_eq_true (by kernel_rfl)) (by unfold Func.isWrapper; first | (rw [if_pos (by decide +kernel)]; kernel_rfl) | (rw [if_neg (by decide +kernel)]; exact ⟨rfl, rfl⟩))
    (fun os started H enc _ F => lifted os started H enc F)
#print axioms over
end Go.Proofs.Ytnldpcnbhibinaa.hexwriteJoinsDone
