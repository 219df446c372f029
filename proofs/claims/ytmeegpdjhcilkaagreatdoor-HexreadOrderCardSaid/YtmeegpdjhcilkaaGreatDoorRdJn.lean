/-
  The walk over strings.Join at a line feed, at two strings or more.
-/
import Derived.Test.YtmeegpdjhcilkaaGreatDoorRdBg
import Derived.Test.YtmeegpdjhcilkaaGreatDoorRdO
import Derived.Test.YtmeegpdjhcilkaaGreatDoorRdS
namespace Go.Proofs.YtmeegpdjhcilkaaGreatDoor
open Go.RowKit
set_option linter.unusedVariables false

theorem interL_len : ∀ (l : List (List UInt8)), l ≠ [] → (interL l).length + 1 = (l.map List.length).sum + l.length
  | [], h => absurd rfl h
  | [x], _ => by simp [interL]
  | x :: y :: t, _ => by
    have h := interL_len (y :: t) (by simp)
    show (x ++ 10 :: interL (y :: t)).length + 1 = _
    rw [List.length_append, List.length_cons]
    rw [List.map_cons, List.sum_cons, List.length_cons]
    omega
theorem sum_take_le (l : List (List UInt8)) (k : Nat) : ((l.take k).map List.length).sum ≤ (l.map List.length).sum := by
  conv => rhs; rw [← List.take_append_drop k l, List.map_append, List.sum_append]
  omega
theorem sum_take_succ (l : List (List UInt8)) (k : Nat) (h : k < l.length) : ((l.take (k + 1)).map List.length).sum = ((l.take k).map List.length).sum + l[k].length := by
  rw [List.take_succ_eq_append_getElem h, List.map_append, List.sum_append]
  simp
theorem interL_take (l : List (List UInt8)) (k : Nat) (h0 : 0 < k) (h : k < l.length) : interL (l.take (k + 1)) = (interL (l.take k) ++ [10]) ++ l[k] := by
  have hne : l.take k ≠ [] := by
    intro e
    have := congrArg List.length e
    rw [List.length_take, List.length_nil] at this
    omega
  rw [List.take_succ_eq_append_getElem h, interL_snoc _ _ hne]
  simp
theorem interL_take_le (l : List (List UInt8)) (k : Nat) (h : k ≤ l.length) (h0 : 0 < k) : (interL (l.take k)).length ≤ (interL l).length := by
  have e1 := interL_len (l.take k) (by intro e; have := congrArg List.length e; rw [List.length_take, List.length_nil] at this; omega)
  have e2 := interL_len l (by intro e; rw [e, List.length_nil] at h; omega)
  have e3 := sum_take_le l k
  have e4 : (l.take k).length = k := by rw [List.length_take]; omega
  rw [e4] at e1
  omega
theorem slS_l (A : Option Addr) (len cap n : Nat) (hn : n ≤ len) (w : World) :
    (Instr.slice 42 (.slice A len cap) (some (.int .i64 (n : Int))) none none).run Tryz.prog w = .ok (.slice (subA A n cap) (len - n) (cap - n)) w := by
  rw [run_slice_l w 42 A len cap und_S .i64 (n : Int) (by omega) (by omega), elem_S, Tryz.sizeOf9]
  simp only [Result.andThen_ok, sliced]
  rw [show ((n : Int)).toNat = n by omega]
  rfl
set_option maxRecDepth 100000 in
set_option maxHeartbeats 8000000 in
theorem sjoin_any (P : Nat → Prop) (A : Option Addr) (cap : Nat) (ss : List (List UInt8)) (h2 : 2 ≤ ss.length) (hcap : ss.length ≤ cap) (hlen : (interL ss).length ≤ 1000000000) (w : World) (hX : StrsP P w A (ss.map strOf)) :
    Calls Tryz.prog 18 #[.slice A ss.length cap, .string ⟨#[10]⟩] w fun e w' => e = .returned (.string (strOf (interL ss))) ∧ Below w.heap.size w w' := by
  obtain ⟨g, off, hA, hP, hXc⟩ : ∃ b off, A = some ⟨b, off, none⟩ ∧ b < w.heap.size ∧ ∀ j (h : j < ss.length), w.cell? ⟨b, off + j, none⟩ = some (.string (strOf ss[j])) := by
    rcases hX with h | ⟨b, off, h, -, hc⟩
    · have := congrArg List.length h; simp at this; subst this; simp at h2
    · have hc' : ∀ j (h : j < ss.length), w.cell? ⟨b, off + j, none⟩ = some (.string (strOf ss[j])) := fun j hj => by
        have h := hc j (by rw [List.length_map]; exact hj)
        rwa [List.getElem_map] at h
      exact ⟨b, off, h, World.block_lt_of_cell? w _ (hc' 0 (by omega)), hc'⟩
  subst hA
  have hne : ss ≠ [] := fun e => by subst e; simp at h2
  have hil := interL_len ss hne
  obtain ⟨L, hL⟩ : ∃ L, ss.length = L := ⟨_, rfl⟩
  have HL := Lib.hid hL
  have X := Lib.hid (And.intro hP hXc)
  have IL := Lib.hid hil
  have HB := Lib.hid hlen
  have hLb : L ≤ 1000000001 := by omega
  have n0 : ((L : Int) == 0) = false := beq_eq_false_iff_ne.2 (by omega)
  have n1 : ((L : Int) == 1) = false := beq_eq_false_iff_ne.2 (by omega)
  have h10 : (⟨#[10]⟩ : ByteArray).size = 1 := rfl
  rw [hL] at h2 hcap ⊢
  have hdv : decide ((9223372036854775807 : Int) / ((L : Int) - 1) ≤ 1) = false := decide_eq_false (by
    have h := Int.le_ediv_of_mul_le (a := 2) (b := 9223372036854775807) (c := (L : Int) - 1) (by omega) (by omega)
    omega)
  clear hL hP hX hXc hne hil hlen
  go_enter Tryz.func18, Tryz.ntmps18
  go_wp2
  go_loopw [5, 41] (fun sv iv wr => ∃ (k s : Nat), k ≤ L ∧ iv = .int .i64 k ∧ sv = .int .i64 s ∧ Hid (s + 1 = L + ((ss.take k).map List.length).sum) ∧ wr = w) (fun _ iv _ => L - (intOf iv).toNat)
  case atStart => exact ⟨0, L - 1, Nat.zero_le _, rfl, by congr 1; omega, by show _ = _; simp; omega, rfl⟩
  case round =>
    obtain ⟨k, s, hk, rfl, rfl, E, rfl⟩ := hrel
    have hsb : s ≤ 1000000000 := by
      have h1 := E.out
      have h2 := sum_take_le ss k
      have h3 := IL.out
      have h4 := HB.out
      have h5 := HL.out
      omega
    by_cases hlt : k < L
    · have hks : k < ss.length := by rw [HL.out]; exact hlt
      have hlt' : (k : Int) < (L : Int) := by omega
      have c0 := X.out.2 k hks
      have ES := sum_take_succ ss k hks
      have E2 : Hid (s + ss[k].length + 1 = L + ((ss.take (k + 1)).map List.length).sum) := by
        have h1 := E.out
        show _ = _
        omega
      have hsk : ss[k].length ≤ 1000000000 := by
        have h1 := E2.out
        have h2 := sum_take_le ss (k + 1)
        have h3 := IL.out
        have h4 := HB.out
        have h5 := HL.out
        omega
      have hsz : (strOf ss[k]).size = ss[k].length := strOf_size _
      obtain ⟨m, hm⟩ : ∃ m, ss[k].length = m := ⟨_, rfl⟩
      obtain ⟨t, ht⟩ : ∃ t, strOf ss[k] = t := ⟨_, rfl⟩
      rw [hm] at hsz hsk E2
      rw [ht] at c0 hsz
      have hcmp : decide ((9223372036854775807 : Int) - (s : Int) < (m : Int)) = false := decide_eq_false (by omega)
      clear ES hm ht hks
      go_wp2
      go_roundw
      case rel => exact ⟨k + 1, s + m, hlt, by go_num, by first | rfl | go_num, E2.out, by first | rfl | trivial⟩
      case measure => simp [intOf]; omega
    · have hkL : k = L := by omega
      have hlt' : decide ((k : Int) < (L : Int)) = false := decide_eq_false (by omega)
      have B0 := BJ.start wr
      have hgr := B0.grow s (by omega)
      obtain ⟨M, hM⟩ : ∃ M, L = M + 1 := ⟨L - 1, by omega⟩
      have hsl : ∀ w', (Instr.slice 42 (.slice (some ⟨g, off, none⟩) L cap) (some (.int .i64 (1 : Int))) none none).run Tryz.prog w' = .ok (.slice (some ⟨g, off + 1, none⟩) M (cap - 1)) w' := fun w' => by
        have h := slS_l (some ⟨g, off, none⟩) L cap 1 (by omega) w'
        have e1 : subA (some ⟨g, off, none⟩) 1 cap = some ⟨g, off + 1, none⟩ := by
          unfold subA
          rw [if_neg (by omega)]
          rfl
        rw [e1, show L - 1 = M by omega] at h
        exact h
      have c0 := X.out.2 0 (by have := HL.out; omega)
      have i1 : interL (ss.take 1) = ss[0]'(by have := HL.out; omega) := by
        have h0 : 0 < ss.length := by have := HL.out; omega
        cases ss with
        | nil => simp at h0
        | cons x t => rfl
      have hsz0 : (strOf (ss[0]'(by have := HL.out; omega))).size ≤ 1000000000 := by
        have h := interL_take_le ss 1 (by have := HL.out; omega) (by omega)
        rw [i1] at h
        rw [strOf_size]
        exact Nat.le_trans h HB.out
      have l0 : (strOf (ss[0]'(by have := HL.out; omega))).data.toList = interL (ss.take 1) := by rw [strOf_list, i1]
      obtain ⟨t, ht⟩ : ∃ t, strOf (ss[0]'(by have := HL.out; omega)) = t := ⟨_, rfl⟩
      rw [ht] at c0 hsz0 l0
      have L0 := Lib.hid l0
      have HM := Lib.hid hM
      have SZ0 := Lib.hid hsz0
      have hMb : (M : Int) ≤ 1000000001 := by omega
      have HKL := Lib.hid hkL
      have c0' : wr.cell? ⟨g, off, none⟩ = some (.string t) := c0
      clear B0 i1 l0 ht hM hsz0 hkL c0 E
      go_wp2_with fail
      refine hgr.mono ?_
      rintro e w1 ⟨rfl, v1, hB1⟩
      have hw1 := hB1.str t (by simp; exact Nat.le_trans SZ0.out (by decide))
      have c1 : w1.cell? ⟨g, off, none⟩ = some (.string t) := (World.cell?_of_block (w := wr) (hB1.below.block g X.out.1)).trans c0'
      clear hgr hB1
      go_wp2_with fail
      refine hw1.mono ?_
      rintro e w2 ⟨rfl, v2, hB2⟩
      rw [List.nil_append, L0.out] at hB2
      have N2 : Hid (∃ v, BJ wr.heap.size wr.heap.size wr w2 v (interL (ss.take 1))) := ⟨v2, hB2⟩
      clear hw1 hB2 c1
      go_wp2
      obtain ⟨wz, hwz⟩ : ∃ wz : World, wz = wr := ⟨_, rfl⟩
      subst hwz
      go_loopw [65] (fun iv wq => ∃ k, k ≤ M ∧ iv = .int .i64 (k : Nat) ∧ Hid (∃ v, BJ wz.heap.size wz.heap.size wz wq v (interL (ss.take (k + 1))))) (fun iv _ => M - (intOf iv).toNat)
      case atStart => exact ⟨0, Nat.zero_le _, rfl, N2.out⟩
      case round =>
        clear N2
        obtain ⟨k, hk, rfl, ⟨v, hB⟩⟩ := hrel
        have LT1 : (interL (ss.take (k + 1))).length ≤ 1000000000 := Nat.le_trans (interL_take_le ss (k + 1) (by have := HL.out; have := HM.out; omega) (by omega)) HB.out
        by_cases hlt : k < M
        · have hlt' : (k : Int) < (M : Int) := by omega
          have hkk : k + 1 < ss.length := by have := HL.out; have := HM.out; omega
          have ci : wr.cell? ⟨g, off + 1 + k, none⟩ = some (.string (strOf ss[k + 1])) := by
            have h := (World.cell?_of_block (w := wz) (a := ⟨g, off + (k + 1), none⟩) (hB.below.block g X.out.1)).trans (X.out.2 (k + 1) hkk)
            rw [show off + 1 + k = off + (k + 1) by omega]
            exact h
          have LT2 : (interL (ss.take (k + 1 + 1))).length ≤ 1000000000 := Nat.le_trans (interL_take_le ss (k + 1 + 1) (by omega) (by omega)) HB.out
          have ET := interL_take ss (k + 1) (by omega) hkk
          have hls := strOf_list ss[k + 1]
          have hss := strOf_size ss[k + 1]
          obtain ⟨t2, ht2⟩ : ∃ t2, strOf ss[k + 1] = t2 := ⟨_, rfl⟩
          rw [ht2] at ci hls hss
          rw [← hls] at ET
          have ZZ := congrArg List.length ET
          rw [List.length_append, List.length_append, show t2.data.toList.length = t2.size from Array.length_toList] at ZZ
          have ZT : Hid ((interL (ss.take (k + 1))).length + 1 + t2.size ≤ 1000000000) := by
            show _ ≤ _
            have e : ([10] : List UInt8).length = 1 := rfl
            rw [e] at ZZ
            omega
          have w10 := hB.str ⟨#[10]⟩ (by show _ + 1 ≤ _; have := ZT.out; omega)
          have EE := Lib.hid ET
          have BK := Lib.hid hB.below
          clear ET ZZ ht2 hls hss LT1 LT2 hkk hB
          go_wp2_with fail
          refine w10.mono ?_
          rintro e w3 ⟨rfl, v3, hB3⟩
          have c0k : wz.cell? ⟨g, off + 1 + k, none⟩ = some (.string t2) := by
            have hlt := X.out.1
            rw [← ci]
            exact (World.cell?_of_block (w := wz) (a := ⟨g, off + 1 + k, none⟩) (BK.out.block g hlt)).symm
          have ci3 : w3.cell? ⟨g, off + 1 + k, none⟩ = some (.string t2) := (World.cell?_of_block (w := wz) (a := ⟨g, off + 1 + k, none⟩) (hB3.below.block g X.out.1)).trans c0k
          have w11 := hB3.str t2 (by have := ZT.out; rw [List.length_append]; show _ + 1 + _ ≤ _; omega)
          clear w10 hB3 ci c0k BK
          go_wp2_with fail
          refine w11.mono ?_
          rintro e w4 ⟨rfl, v4, hB4⟩
          rw [← EE.out] at hB4
          have N4 : Hid (∃ v, BJ wz.heap.size wz.heap.size wz w4 v (interL (ss.take (k + 1 + 1)))) := ⟨v4, hB4⟩
          clear w11 hB4 ci3
          go_wp2
          go_roundw
          case rel => exact ⟨k + 1, hlt, by go_num, N4.out⟩
          case measure => simp [intOf]; omega
        · have hkM : k = M := by omega
          have hlt' : decide ((k : Int) < (M : Int)) = false := decide_eq_false (by omega)
          have hall : ss.take (k + 1) = ss := List.take_of_length_le (by have := HL.out; have := HM.out; omega)
          rw [hall] at hB
          have hst := hB.string (by
            intro e
            have h1 := IL.out
            rw [e] at h1
            have h3 := HL.out
            rw [List.length_nil] at h1
            omega)
          clear hkM hall hB LT1
          go_wp2_with fail
          refine hst.mono ?_
          rintro e w3 ⟨rfl, hb3⟩
          have BF := Lib.hid hb3
          clear hst hb3
          go_wp2
          go_ret
          exact ⟨rfl, BF.out⟩
end Go.Proofs.YtmeegpdjhcilkaaGreatDoor
