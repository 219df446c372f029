/-
  The walk over strings.ToLower at a line that has colons, digits and the letters A to F alone.
-/
import Derived.Test.YtmeegpdjhcilkaaGreatDoorRdJn
namespace Go.Proofs.YtmeegpdjhcilkaaGreatDoor
open Go.RowKit
set_option linter.unusedVariables false

theorem lowC_up {c : UInt8} (h : LnC c) (h1 : 65 ≤ c.toNat) : (c.toNat : Int) + 32 = ((lowC c).toNat : Int) := by
  rw [lowC_nat]
  unfold LnC at h
  unfold lowI
  have g1 : (65 : Int) ≤ c.toNat := by omega
  have g2 : (c.toNat : Int) ≤ 70 := by omega
  simp [g1, g2]
theorem lowC_no {c : UInt8} (h : ¬ 65 ≤ c.toNat) : lowC c = c := by
  apply UInt8.toNat_inj.1
  have h2 := lowC_nat c
  unfold lowI at h2
  have : ¬ (65 : Int) ≤ c.toNat := by omega
  simp [this] at h2
  omega
theorem low_id {x : List UInt8} (h : ∀ c ∈ x, ¬ 65 ≤ c.toNat) : x.map lowC = x := by
  induction x with
  | nil => rfl
  | cons a t ih => rw [List.map_cons, lowC_no (h a (by simp)), ih fun c hc => h c (by simp [hc])]
/-- The first k bytes have gone: those up to p are written, those behind stay as they are. -/
def LowAt (x : List UInt8) (p k : Nat) : Prop := p ≤ k ∧ (x.take k).map lowC = (x.take p).map lowC ++ (x.drop p).take (k - p)
theorem LowAt.step {x : List UInt8} {p k : Nat} (h : LowAt x p k) (hk : k < x.length) (hn : ¬ 65 ≤ (x[k]).toNat) : LowAt x p (k + 1) := by
  obtain ⟨h1, h2⟩ := h
  refine ⟨by omega, ?_⟩
  have hl : k - p < (x.drop p).length := by rw [List.length_drop]; omega
  rw [List.take_succ_eq_append_getElem hk, List.map_append, h2, show k + 1 - p = (k - p) + 1 by omega, List.take_succ_eq_append_getElem hl, List.map_cons, List.map_nil, lowC_no hn, List.append_assoc]
  congr 2
  have e : (x.drop p)[k - p] = x[k] := by
    rw [List.getElem_drop]
    congr 1
    omega
  rw [e]
theorem LowAt.put {x : List UInt8} {k : Nat} : LowAt x k k := ⟨Nat.le_refl _, by simp⟩
set_option maxRecDepth 100000 in
set_option maxHeartbeats 8000000 in
theorem tolower_any (x : List UInt8) (hA : ∀ c ∈ x, LnC c) (hx : x.length ≤ 1000000) (w : World) :
    Calls Tryz.prog 17 #[.string (strOf x)] w fun e w' => e = .returned (.string (strOf (x.map lowC))) ∧ Below w.heap.size w w' := by
  obtain ⟨s, hs, hsz, hat⟩ : ∃ s, strOf x = s ∧ s.size = x.length ∧ ∀ i (h : i < x.length) (h' : i < s.size), s[i] = x[i] := ⟨_, rfl, strOf_size x, fun i h h' => by
    have h1 : (strOf x).data[i]'h' = x[i] := by simp only [strOf, List.getElem_toArray]; rfl
    exact h1⟩
  have SS := Lib.hid hs
  have HAT := Lib.hid hat
  have HA := Lib.hid hA
  have SZ := Lib.hid hsz
  have hsb : s.size ≤ 1000000 := by omega
  rw [hs]
  clear hs hat hA hsz hx
  go_enter Tryz.func17, Tryz.ntmps17
  go_wp2
  go_loopw [3, 4, 5] (fun av uv iv wr => ∃ (k : Nat) (h : Bool), k ≤ s.size ∧ av = .bool true ∧ iv = .int .i64 k ∧ uv = .bool h ∧ wr = w ∧ Hid ((h = false → ∀ c ∈ x.take k, ¬ 65 ≤ c.toNat) ∧ (h = true → 0 < k))) (fun _ _ iv _ => s.size - (intOf iv).toNat)
  case atStart => exact ⟨0, false, Nat.zero_le _, rfl, rfl, rfl, rfl, fun _ c hc => (by simp at hc), fun h => (by cases h)⟩
  case round =>
    obtain ⟨k, h, hk, rfl, rfl, rfl, rfl, U⟩ := hrel
    by_cases hlt : k < s.size
    · have hkx : k < x.length := by rw [← SZ.out]; exact hlt
      have hc := HAT.out k hkx hlt
      have hl := HA.out _ (List.getElem_mem hkx)
      rw [← hc] at hl
      have htk := List.take_succ_eq_append_getElem hkx
      rw [← hc] at htk
      have hb : s[k].toNat < 128 := by unfold LnC at hl; omega
      have hbI : decide ((128 : Int) ≤ (s[k].toNat : Int)) = false := decide_eq_false (by omega)
      have hbN : decide (128 ≤ s[k].toNat) = false := decide_eq_false (by omega)
      have hlt' : (k : Int) < (s.size : Int) := by omega
      by_cases hu : 65 ≤ s[k].toNat
      · have hu2 : (s[k].toNat : Int) ≤ 90 := by unfold LnC at hl; omega
        have hu1 : (65 : Int) ≤ (s[k].toNat : Int) := by omega
        have N : Hid ((true = false → ∀ c ∈ x.take (k + 1), ¬ 65 ≤ c.toNat) ∧ (true = true → 0 < k + 1)) := ⟨fun h => (by cases h), fun _ => Nat.succ_pos _⟩
        have hu3 : s[k].toNat ≤ 90 := by omega
        clear hc hl htk hkx U
        cases h
        all_goals
          go_wp2
          go_roundw
          case rel => exact ⟨k + 1, true, hlt, by first | rfl | trivial, by go_num, by first | rfl | trivial, by first | rfl | trivial, N.out⟩
          case measure => simp [intOf]; omega
      · have hu1 : decide ((65 : Int) ≤ (s[k].toNat : Int)) = false := decide_eq_false (by omega)
        have hu2 : decide (65 ≤ s[k].toNat) = false := decide_eq_false hu
        have N : Hid ((h = false → ∀ c ∈ x.take (k + 1), ¬ 65 ≤ c.toNat) ∧ (h = true → 0 < k + 1)) := ⟨fun hh c hc' => by
          rw [htk] at hc'
          rcases List.mem_append.1 hc' with h1 | h1
          · exact U.out.1 hh c h1
          · simp at h1; subst h1; exact hu, fun _ => Nat.succ_pos _⟩
        clear hc hl htk hkx U hu
        cases h
        all_goals
          go_wp2
          go_roundw
          case rel => exact ⟨k + 1, _, hlt, by first | rfl | trivial, by go_num, by first | rfl | trivial, by first | rfl | trivial, N.out⟩
          case measure => simp [intOf]; omega
    · have hkn : k = s.size := by omega
      have hlt' : decide ((k : Int) < (s.size : Int)) = false := decide_eq_false (by omega)
      cases h
      case false =>
        have E : Hid (s = strOf (x.map lowC)) := by
          have h := U.out.1 rfl
          rw [List.take_of_length_le (by rw [← SZ.out]; omega)] at h
          show s = _
          rw [low_id h, SS.out]
        clear hkn
        go_wp2
        go_ret
        exact ⟨ret_str E.out, Below.refl _ _⟩
      case true =>
        have B0 := BJ.start wr
        have hgr := B0.grow s.size (by omega)
        have NE : Hid (x.map lowC ≠ []) := fun e => by
          have h1 := U.out.2 rfl
          have h2 := SZ.out
          have h3 := congrArg List.length e
          rw [List.length_map, List.length_nil] at h3
          omega
        clear B0 U hkn
        go_wp2_with fail
        refine hgr.mono ?_
        rintro e w1 ⟨rfl, v1, hB1⟩
        have N1 : Hid (∃ v, BJ wr.heap.size wr.heap.size wr w1 v ((x.take 0).map lowC)) := ⟨v1, hB1⟩
        obtain ⟨wz, hwz⟩ : ∃ wz : World, wz = wr := ⟨_, rfl⟩
        subst hwz
        clear hgr hB1
        go_wp2
        have S0 : Hid (LowAt x 0 0 ∧ ∃ v, BJ wz.heap.size wz.heap.size wz w1 v ((x.take 0).map lowC)) := ⟨LowAt.put, N1.out⟩
        clear N1
        go_loopw [8, 9] (fun pv iv wq => ∃ (p k : Nat), k ≤ s.size ∧ p ≤ k ∧ pv = .int .i64 p ∧ iv = .int .i64 k ∧ Hid (LowAt x p k ∧ ∃ v, BJ wz.heap.size wz.heap.size wz wq v ((x.take p).map lowC))) (fun _ iv _ => s.size - (intOf iv).toNat)
        case atStart => exact ⟨0, 0, Nat.zero_le _, Nat.le_refl _, rfl, rfl, S0.out⟩
        case round =>
          clear S0
          obtain ⟨p, k, hk, hp, rfl, rfl, G⟩ := hrel
          by_cases hlt : k < s.size
          · have hkx : k < x.length := by rw [← SZ.out]; exact hlt
            have hc := HAT.out k hkx hlt
            have hl := HA.out _ (List.getElem_mem hkx)
            have hlt' : (k : Int) < (s.size : Int) := by omega
            by_cases hu : 65 ≤ s[k].toNat
            · rw [← hc] at hl
              have hw := lowC_up hl hu
              have hu2 : (s[k].toNat : Int) ≤ 90 := by unfold LnC at hl; omega
              have hu1 : (65 : Int) ≤ (s[k].toNat : Int) := by omega
              have hu3 : s[k].toNat ≤ 90 := by omega
              have hxx : (lowC s[k]).toNat < 256 := (lowC s[k]).toNat_lt
              obtain ⟨⟨-, hT⟩, v, hB⟩ := G.out
              have htk := List.take_succ_eq_append_getElem hkx
              rw [← hc] at htk
              have PT : Hid ((x.take (k + 1)).map lowC = ((x.take p).map lowC ++ (x.drop p).take (k - p)) ++ [lowC s[k]]) := by
                show _ = _
                rw [htk, List.map_append, hT]; rfl
              have LN : Hid (((x.take p).map lowC).length + (k - p) ≤ 1000000) := by
                show _ ≤ _
                rw [List.length_map, List.length_take]
                omega
              have XL : Hid ((s.extract p k).data.toList = (x.drop p).take (k - p)) := by
                show _ = _
                rw [← SS.out, Lib.extract_data, strOf_list]
              by_cases hpk : p < k
              · have hpk' : (p : Int) < (k : Int) := by omega
                have e1 : (s.extract p k).size = k - p := by rw [ByteArray.size_extract]; omega
                have hw1 := hB.str (s.extract p k) (by rw [e1]; have := LN.out; omega)
                rw [XL.out] at hw1
                clear hc hl hT hB htk G hkx e1
                go_wp2_with fail
                refine hw1.mono ?_
                rintro e w2 ⟨rfl, v2, hB2⟩
                have hw2 := hB2.byte (lowC s[k]) ((lowC s[k]).toNat : Int) rfl (by have := LN.out; rw [List.length_append, List.length_take]; omega)
                rw [← PT.out] at hw2
                clear hB2 hw1
                go_wp2_with fail
                refine hw2.mono ?_
                rintro e w3 ⟨rfl, v3, hB3⟩
                have GN : Hid (LowAt x (k + 1) (k + 1) ∧ ∃ v, BJ wz.heap.size wz.heap.size wz w3 v ((x.take (k + 1)).map lowC)) := ⟨LowAt.put, v3, hB3⟩
                clear hB3 hw2
                go_wp2
                go_roundw
                case rel => exact ⟨k + 1, k + 1, hlt, Nat.le_refl _, by go_num, by go_num, GN.out⟩
                case measure => simp [intOf]; omega
              · have hpk' : decide ((p : Int) < (k : Int)) = false := decide_eq_false (by omega)
                have hpe : p = k := by omega
                have e0 : (x.drop p).take (k - p) = [] := by rw [hpe, Nat.sub_self]; rfl
                have PT2 := PT.out
                rw [e0, List.append_nil] at PT2
                have hw2 := hB.byte (lowC s[k]) ((lowC s[k]).toNat : Int) rfl (by have := LN.out; omega)
                rw [← PT2] at hw2
                clear hc hl hT hB htk G hkx e0 PT2 hpe
                go_wp2_with fail
                refine hw2.mono ?_
                rintro e w3 ⟨rfl, v3, hB3⟩
                have GN : Hid (LowAt x (k + 1) (k + 1) ∧ ∃ v, BJ wz.heap.size wz.heap.size wz w3 v ((x.take (k + 1)).map lowC)) := ⟨LowAt.put, v3, hB3⟩
                clear hB3 hw2
                go_wp2
                go_roundw
                case rel => exact ⟨k + 1, k + 1, hlt, Nat.le_refl _, by go_num, by go_num, GN.out⟩
                case measure => simp [intOf]; omega
            · have hu1 : decide ((65 : Int) ≤ (s[k].toNat : Int)) = false := decide_eq_false (by omega)
              have hu2 : decide (65 ≤ s[k].toNat) = false := decide_eq_false hu
              have GN : Hid (LowAt x p (k + 1) ∧ ∃ v, BJ wz.heap.size wz.heap.size wz wr v ((x.take p).map lowC)) := ⟨G.out.1.step hkx (by rw [← hc]; exact hu), G.out.2⟩
              clear hc hl hkx G hu
              go_wp2
              go_roundw
              case rel => exact ⟨p, k + 1, hlt, by omega, by first | rfl | go_num, by go_num, GN.out⟩
              case measure => simp [intOf]; omega
          · have hkn : k = s.size := by omega
            have hlt' : decide ((k : Int) < (s.size : Int)) = false := decide_eq_false (by omega)
            obtain ⟨⟨-, hT⟩, v, hB⟩ := G.out
            have hall : x.take k = x := List.take_of_length_le (by rw [← SZ.out]; omega)
            rw [hall] at hT
            have hne : x.map lowC ≠ [] := NE.out
            by_cases hpk : p < s.size
            · have hpk' : (p : Int) < (s.size : Int) := by omega
              have e1 : (s.extract p s.size).size = s.size - p := by rw [ByteArray.size_extract]; omega
              have XL : (s.extract p s.size).data.toList = (x.drop p).take (k - p) := by
                rw [hkn, ← SS.out, Lib.extract_data, strOf_list]
              have hw1 := hB.str (s.extract p s.size) (by rw [e1, List.length_map, List.length_take]; omega)
              rw [XL, ← hT] at hw1
              have NN := Lib.hid hne
              clear hT hB G e1 XL hall hne hkn hpk
              go_wp2_with fail
              refine hw1.mono ?_
              rintro e w2 ⟨rfl, v2, hB2⟩
              have hst := hB2.string NN.out
              clear hw1 hB2
              go_wp2_with fail
              refine hst.mono ?_
              rintro e w3 ⟨rfl, hb3⟩
              have BF := Lib.hid hb3
              clear hst hb3
              go_wp2
              go_ret
              exact ⟨rfl, BF.out⟩
            · have hpk' : decide ((p : Int) < (s.size : Int)) = false := decide_eq_false (by omega)
              have e0 : (x.drop p).take (k - p) = [] := by rw [show k - p = 0 by omega]; rfl
              rw [e0, List.append_nil] at hT
              rw [← hT] at hB
              have hst := hB.string hne
              clear hT hB G e0 hall hne hkn
              go_wp2_with fail
              refine hst.mono ?_
              rintro e w3 ⟨rfl, hb3⟩
              have BF := Lib.hid hb3
              clear hst hb3
              go_wp2
              go_ret
              exact ⟨rfl, BF.out⟩
end Go.Proofs.YtmeegpdjhcilkaaGreatDoor
