/-
  The walk over the reference's Diff: two lists of cells are merged; slices.Equal at integers.
-/
import Derived.Test.YtmeegpdjhcilkaaDoorRdF
namespace Go.Proofs.YtmeegpdjhcilkaaDoor
open Go.RowKit
set_option linter.unusedVariables false

theorem ownI_drewN {w wr : World} {v : Value} {zs : List Int} (h : OwnI w wr v zs) (n : Nat) : OwnI w (wr.drewN n) v zs := h.below (Im.below_drewN wr n)
set_option maxRecDepth 100000 in
set_option maxHeartbeats 8000000 in
theorem rdiff5_any (P Q : Nat → Prop) (A B : Option Addr) (c1 c2 : Nat) (V W : List Im.Cel) (hV : Im.SortedW V) (hW : Im.SortedW W) (w : World) (h1 : Im.CellsP P w A V) (h2 : Im.CellsP Q w B W) :
    Calls Tryd.prog 27 #[.slice A V.length c1, .slice B W.length c2] w (RetI w (natI (mergeD V W))) := by
  have l1 := Im.sorted_length hV
  have l2 := Im.sorted_length hW
  have Z1 := Lib.hid h1
  have Z2 := Lib.hid h2
  obtain ⟨n, hn⟩ : ∃ n, V.length = n := ⟨_, rfl⟩
  obtain ⟨m, hm⟩ : ∃ m, W.length = m := ⟨_, rfl⟩
  have N1 := Lib.hid hn
  have N2 := Lib.hid hm
  have b1 : (n : Int) ≤ 4294967296 := by omega
  have b2 : (m : Int) ≤ 4294967296 := by omega
  have LL := Lib.hid (And.intro l1 l2)
  rw [hn, hm]
  clear h1 h2 hV hW hn hm l1 l2
  go_enter Tryd.func27, Tryd.ntmps27
  go_wp2
  go_loopw [5, 6, 7] (fun ov iv kv wr => ∃ (i k : Nat) (zs : List Nat), i ≤ n ∧ k ≤ m ∧ iv = .int .i64 i ∧ kv = .int .i64 k ∧ Hid (OwnI w wr ov (natI zs)) ∧ Hid (zs ++ mergeD (V.drop i) (W.drop k) = mergeD V W) ∧ Hid (zs.length ≤ i + k)) (fun _ iv kv _ => n + m - (intOf iv).toNat - (intOf kv).toNat)
  case atStart => exact ⟨0, 0, [], Nat.zero_le _, Nat.zero_le _, rfl, rfl, ownI_start w, rfl, Nat.zero_le _⟩
  case round =>
    obtain ⟨i, k, zs, hi, hk, rfl, rfl, O, E, ZL⟩ := hrel
    have ZB : Hid ((natI zs).length < 1099511627776) := by
      show _ < _
      rw [natI_length]
      have h1 := ZL.out
      have h2 := LL.out.1
      have h3 := LL.out.2
      have h4 := N1.out
      have h5 := N2.out
      omega
    have hst := mergeD_step V W i k
    by_cases hin : i < n
    · have hiV : i < V.length := by rw [N1.out]; exact hin
      obtain ⟨ba, oa, hA, p1, p2⟩ := (Z1.out.below O.out.2).at_ hiV
      subst hA
      by_cases hkm : k < m
      · have hkW : k < W.length := by rw [N2.out]; exact hkm
        obtain ⟨bb, ob, hB, q1, q2⟩ := (Z2.out.below O.out.2).at_ hkW
        subst hB
        obtain ⟨s1, s2, s3⟩ := hst.2.2 hiV hkW
        have ne1 : ((k : Int) == (m : Int)) = false := beq_eq_false_iff_ne.2 (by omega)
        have ne2 : ((i : Int) == (n : Int)) = false := beq_eq_false_iff_ne.2 (by omega)
        have lt1 : decide ((i : Int) < (n : Int)) = true := decide_eq_true (by omega)
        have lt1n : decide (i < n) = true := decide_eq_true (by omega)
        obtain ⟨x, hx⟩ : ∃ x, V[i].1 = x := ⟨_, rfl⟩
        obtain ⟨y, hy⟩ : ∃ y, W[k].1 = y := ⟨_, rfl⟩
        obtain ⟨c, hc⟩ : ∃ c, V[i].2 = c := ⟨_, rfl⟩
        obtain ⟨d, hd⟩ : ∃ d, W[k].2 = d := ⟨_, rfl⟩
        rw [hx] at p1 s1 s2 s3
        rw [hy] at q1 s1 s2 s3
        rw [hc] at p2 s3
        rw [hd] at q2 s3
        clear hx hy hc hd hst hiV hkW
        by_cases hxy : x < y
        · -- the first is smaller
          have E2 := Lib.hid (s1 hxy)
          have t1 : decide ((x : Int) < (y : Int)) = true := decide_eq_true (by omega)
          have t1n : decide (x < y) = true := decide_eq_true (by omega)
          clear s1 s2 s3 hxy
          go_wp2_with fail
          go_quiet (fail)
          have OQ := Lib.hid (fun n => ownI_drewN O.out n)
          go_wp2_with (at_builtin; refine wpList_appI (OQ.out _) rfl _ _ rfl rfl rfl (x : Int) ZB.out ?_; intro v' w1 hown')
          have NN := Lib.hid hown'
          clear hown'
          go_wp2
          go_roundw
          case rel => exact ⟨i + 1, k, zs ++ [x], by omega, by omega, by go_num, by go_num, by rw [natI_snoc]; exact NN.out, by rw [List.append_assoc, List.singleton_append, ← E2.out]; exact E.out, by show _ ≤ _; have := ZL.out; rw [List.length_append, List.length_singleton]; omega⟩
          case measure => simp [intOf]; omega
        · by_cases hyx : y < x
          · have E2 := Lib.hid (s2 hyx)
            have t1 : decide ((x : Int) < (y : Int)) = false := decide_eq_false (by omega)
            have t1n : decide (x < y) = false := decide_eq_false (by omega)
            have t2 : decide ((y : Int) < (x : Int)) = true := decide_eq_true (by omega)
            have t2n : decide (y < x) = true := decide_eq_true (by omega)
            clear s1 s2 s3 hxy hyx
            go_wp2_with fail
            go_quiet (fail)
            go_wp2_with fail
            go_quiet (fail)
            have OQ := Lib.hid (fun n => ownI_drewN O.out n)
            go_wp2_with (at_builtin; refine wpList_appI (OQ.out _) rfl _ _ rfl rfl rfl (y : Int) ZB.out ?_; intro v' w1 hown')
            have NN := Lib.hid hown'
            clear hown'
            go_wp2
            go_roundw
            case rel => exact ⟨i, k + 1, zs ++ [y], by omega, by omega, by go_num, by go_num, by rw [natI_snoc]; exact NN.out, by rw [List.append_assoc, List.singleton_append, ← E2.out]; exact E.out, by show _ ≤ _; have := ZL.out; rw [List.length_append, List.length_singleton]; omega⟩
            case measure => simp [intOf]; omega
          · have hxe : x = y := by omega
            have E2 := Lib.hid (s3 hxe)
            have t1 : decide ((x : Int) < (y : Int)) = false := decide_eq_false (by omega)
            have t1n : decide (x < y) = false := decide_eq_false (by omega)
            have t2 : decide ((y : Int) < (x : Int)) = false := decide_eq_false (by omega)
            have t2n : decide (y < x) = false := decide_eq_false (by omega)
            have hby := Im.beq_byte c d
            clear s1 s2 s3 hxy hyx hxe
            by_cases hcd : c = d
            · have u1 : ((c.toNat : Int) == (d.toNat : Int)) = true := by rw [hby]; exact decide_eq_true hcd
              have u2' : ((c.toNat : Int) != (d.toNat : Int)) = false := by unfold bne; rw [u1]; rfl
              have E3 : Hid (mergeD (V.drop i) (W.drop k) = mergeD (V.drop (i + 1)) (W.drop (k + 1))) := by
                show _ = _
                rw [E2.out, if_pos hcd, List.nil_append]
              obtain ⟨c', hc'⟩ : ∃ c' : Int, (c.toNat : Int) = c' := ⟨_, rfl⟩
              obtain ⟨d', hd'⟩ : ∃ d' : Int, (d.toNat : Int) = d' := ⟨_, rfl⟩
              rw [hc'] at p2 u1 u2'
              rw [hd'] at q2 u1 u2'
              clear hby hcd hc' hd'
              go_wp2_with fail
              go_quiet (fail)
              go_wp2_with fail
              go_quiet (fail)
              go_wp2_with fail
              go_quiet (fail)
              have OQ := Lib.hid (fun n => ownI_drewN O.out n)
              go_wp2
              go_roundw
              case rel => exact ⟨i + 1, k + 1, zs, by omega, by omega, by go_num, by go_num, OQ.out _, by rw [← E3.out]; exact E.out, by show _ ≤ _; have := ZL.out; omega⟩
              case measure => simp [intOf]; omega
            · have u1 : ((c.toNat : Int) == (d.toNat : Int)) = false := by rw [hby]; exact decide_eq_false hcd
              have u2' : ((c.toNat : Int) != (d.toNat : Int)) = true := by unfold bne; rw [u1]; rfl
              have E3 : Hid (mergeD (V.drop i) (W.drop k) = x :: mergeD (V.drop (i + 1)) (W.drop (k + 1))) := by
                show _ = _
                rw [E2.out, if_neg hcd]; rfl
              obtain ⟨c', hc'⟩ : ∃ c' : Int, (c.toNat : Int) = c' := ⟨_, rfl⟩
              obtain ⟨d', hd'⟩ : ∃ d' : Int, (d.toNat : Int) = d' := ⟨_, rfl⟩
              rw [hc'] at p2 u1 u2'
              rw [hd'] at q2 u1 u2'
              clear hby hcd hc' hd'
              go_wp2_with fail
              go_quiet (fail)
              go_wp2_with fail
              go_quiet (fail)
              go_wp2_with fail
              go_quiet (fail)
              have OQ := Lib.hid (fun n => ownI_drewN O.out n)
              go_wp2_with (at_builtin; refine wpList_appI (OQ.out _) rfl _ _ rfl rfl rfl (x : Int) ZB.out ?_; intro v' w1 hown')
              have NN := Lib.hid hown'
              clear hown'
              go_wp2
              go_roundw
              case rel => exact ⟨i + 1, k + 1, zs ++ [x], by omega, by omega, by go_num, by go_num, by rw [natI_snoc]; exact NN.out, by rw [List.append_assoc, List.singleton_append, ← E3.out]; exact E.out, by show _ ≤ _; have := ZL.out; rw [List.length_append, List.length_singleton]; omega⟩
              case measure => simp [intOf]; omega
      · have hkm' : k = m := by omega
        have E2 := Lib.hid (hst.1 (by rw [N2.out]; exact hkm') hiV)
        have ne1 : ((k : Int) == (m : Int)) = true := beq_iff_eq.2 (by omega)
        have lt1 : decide ((i : Int) < (n : Int)) = true := decide_eq_true (by omega)
        have lt1n : decide (i < n) = true := decide_eq_true (by omega)
        obtain ⟨x, hx⟩ : ∃ x, V[i].1 = x := ⟨_, rfl⟩
        rw [hx] at p1 E2
        clear hx hst hiV hkm hkm' p2
        go_wp2_with fail
        go_quiet (fail)
        have OQ := Lib.hid (fun n => ownI_drewN O.out n)
        go_wp2_with (at_builtin; refine wpList_appI (OQ.out _) rfl _ _ rfl rfl rfl (x : Int) ZB.out ?_; intro v' w1 hown')
        have NN := Lib.hid hown'
        clear hown'
        go_wp2
        go_roundw
        case rel => exact ⟨i + 1, k, zs ++ [x], by omega, by omega, by go_num, by go_num, by rw [natI_snoc]; exact NN.out, by rw [List.append_assoc, List.singleton_append, ← E2.out]; exact E.out, by show _ ≤ _; have := ZL.out; rw [List.length_append, List.length_singleton]; omega⟩
        case measure => simp [intOf]; omega
    · by_cases hkm : k < m
      · have hkW : k < W.length := by rw [N2.out]; exact hkm
        obtain ⟨bb, ob, hB, q1, q2⟩ := (Z2.out.below O.out.2).at_ hkW
        subst hB
        have hin' : i = n := by omega
        have E2 := Lib.hid (hst.2.1 (by rw [N1.out]; exact hin') hkW)
        have ne1 : ((k : Int) == (m : Int)) = false := beq_eq_false_iff_ne.2 (by omega)
        have ne2 : ((i : Int) == (n : Int)) = true := beq_iff_eq.2 (by omega)
        have lt1 : decide ((i : Int) < (n : Int)) = false := decide_eq_false (by omega)
        have lt1n : decide (i < n) = false := decide_eq_false (by omega)
        have lt2 : decide ((k : Int) < (m : Int)) = true := decide_eq_true (by omega)
        have lt2n : decide (k < m) = true := decide_eq_true (by omega)
        obtain ⟨y, hy⟩ : ∃ y, W[k].1 = y := ⟨_, rfl⟩
        rw [hy] at q1 E2
        have HI := Lib.hid hin'
        clear hy hst hkW hin hin' q2
        go_wp2_with fail
        go_quiet (fail)
        go_wp2_with fail
        go_quiet (fail)
        have OQ := Lib.hid (fun n => ownI_drewN O.out n)
        go_wp2_with (at_builtin; refine wpList_appI (OQ.out _) rfl _ _ rfl rfl rfl (y : Int) ZB.out ?_; intro v' w1 hown')
        have NN := Lib.hid hown'
        clear hown'
        go_wp2
        go_roundw
        case rel => exact ⟨i, k + 1, zs ++ [y], by omega, by omega, by go_num, by go_num, by rw [natI_snoc]; exact NN.out, by rw [List.append_assoc, List.singleton_append, ← E2.out]; exact E.out, by show _ ≤ _; have := ZL.out; rw [List.length_append, List.length_singleton]; omega⟩
        case measure => simp [intOf]; omega
      · have F : Hid (natI zs = natI (mergeD V W)) := by
          have h := E.out
          rw [show i = V.length by rw [N1.out]; omega, show k = W.length by rw [N2.out]; omega, List.drop_length, List.drop_length] at h
          have e : mergeD [] [] = [] := by unfold mergeD; rfl
          rw [e, List.append_nil] at h
          show _ = _
          rw [h]
        have lt1 : decide ((i : Int) < (n : Int)) = false := decide_eq_false (by omega)
        have lt1n : decide (i < n) = false := decide_eq_false (by omega)
        have lt2 : decide ((k : Int) < (m : Int)) = false := decide_eq_false (by omega)
        have lt2n : decide (k < m) = false := decide_eq_false (by omega)
        clear hst
        go_wp2
        go_ret
        have h := O.out.ret
        rwa [F.out] at h
end Go.Proofs.YtmeegpdjhcilkaaDoor
