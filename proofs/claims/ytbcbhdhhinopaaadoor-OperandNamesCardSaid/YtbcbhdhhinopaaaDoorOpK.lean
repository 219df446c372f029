/-
  The operands that are names, in the order of operand.names; the contract of operand.names.
-/
import Derived.Test.YtbcbhdhhinopaaaDoorOpF
import Derived.Test.YtbcbhdhhinopaaaDoorCol
import Derived.Shelf.Abstract
import Derived.Shelf.RegionOpen
import Derived.WalkKit
import Derived.TacticsIn
import Derived.TacticsInMore
import Derived.OwnWalkIn
import Derived.Deep.Cut
import Derived.LoopNIn
import Derived.LoopIn
namespace Go.Proofs.YtbcbhdhhinopaaaDoor
open Go.RowKit Go.Shelf
set_option linter.unusedVariables false
attribute [local go_sem] Oper.semAt_some

/-- A name, its kind and its number. -/
abbrev Nm := ByteArray × Int × Int
def nmV (x : Nm) : Array Value := #[.string x.1, .agg #[.int .i64 x.2.1, .int .i64 x.2.2, .int .i64 0]]
def nmF (k : Nat) (j : Nat) : List Nm := ((List.range j).filter fun r : Nat => neB (nmS k (r : Int))).map fun r : Nat => (nmS k (r : Int), (k : Int), (r : Int))
theorem nmF_yes (k j : Nat) (h : neB (nmS k (j : Int)) = true) : nmF k (j + 1) = nmF k j ++ [(nmS k j, (k : Int), (j : Int))] := by
  unfold nmF
  rw [List.range_succ, List.filter_append, List.map_append]
  simp [h]
theorem nmF_no (k j : Nat) (h : neB (nmS k (j : Int)) = false) : nmF k (j + 1) = nmF k j := by
  unfold nmF
  rw [List.range_succ, List.filter_append, List.map_append]
  simp [h]
theorem nmF_le (k j : Nat) : (nmF k j).length ≤ j := by
  unfold nmF
  rw [List.length_map]
  have := List.length_filter_le (fun r : Nat => neB (nmS k (r : Int))) (List.range j)
  simpa using this
/-- The names of the kinds in front of number i. -/
def nmP (i : Nat) : List Nm := (([1, 2, 3, 8, 9].take i).map fun k => nmF k 8).flatten
def nmAll : List Nm := nmP 5
theorem nmP_le (i : Nat) (h : i ≤ 5) : (nmP i).length ≤ 40 := by
  have : i = 0 ∨ i = 1 ∨ i = 2 ∨ i = 3 ∨ i = 4 ∨ i = 5 := by omega
  rcases this with rfl | rfl | rfl | rfl | rfl | rfl <;> decide +kernel
theorem nmP_succ (i : Nat) (h : i < 5) : nmP (i + 1) = nmP i ++ nmF ([1, 2, 3, 8, 9][i]) 8 := by
  unfold nmP
  rw [List.take_succ_eq_append_getElem h, List.map_append, List.flatten_append]
  simp
/-- The blocks that hold a table of kinds. -/
def kindsT (o : Obj) : Prop := ∃ cs fr, o = .cells cs 64 fr
theorem kindsT_cells {o : Obj} (h : o.isCells = false) : ¬ kindsT o := by
  rintro ⟨cs, fr, rfl⟩
  cases h
abbrev KK := Col.Kept fun _ o => kindsT o
set_option maxRecDepth 100000 in
set_option maxHeartbeats 4000000 in
theorem names_gives (n : Nat) (w : World) :
    Each.Gives Fence.wide n Tryd.prog 31 #[] nmV (fun _ _ => True) KK (fun ys => ys = nmAll) 80 w := fun l J W hW hJ hY h0 => by
  have hJd : ∀ (z : List Nm) (X Y : World), J z X → Below X.heap.size X Y → J z Y := fun z X Y h hb => hJ z X Y none h (Col.grown_none hb) (fun r e => by cases e)
  have HY := Lib.hid hY
  have HD := Lib.hid hJd
  have J0 := Lib.hid h0
  have hst : ∀ (w : World) (c : Array Value), c.size = 44 → (storeCells ⟨w.heap.size, 0, none⟩ kindsA.toList 0).run Tryd.prog (w.alloc (.cells c 64)) = .ok () (w.alloc (.cells kindsA 64)) := fun w c hc =>
    run_storeCells_new w 64 c kindsA (by kernel_rfl) (by rw [hc, kindsA_size]) (by kernel_rfl)
  have hks := kindsA_size
  clear hW hJ hY h0 hJd
  refine callsIn_wide.2 ?_
  show Calls Tryd.prog 31 #[.func (.yield l) #[] #[]] W _
  go_enter Tryd.func31, Tryd.ntmps31
  go_wp2_with fail
  refine (kinds_any _).mono ?_
  rintro e w1 ⟨rfl, hw1⟩
  have hb1 : Below W.heap.size W w1 := by rw [← hw1]; exact (Below.refl _ _).alloc (Nat.le_refl _) _
  clear hw1
  have hst1 := hst w1
  clear hst
  have K1 : Hid (KK (w1.alloc (.cells kindsA 64)) (w1.alloc (.cells kindsA 64))) := Col.Kept.refl _ _
  have HAL : Hid (Below w1.heap.size w1 (w1.alloc (.cells kindsA 64))) := (Below.refl _ _).alloc (Nat.le_refl _) _
  have J1 := Lib.hid (HD.out _ _ _ (HD.out _ _ _ J0.out hb1) HAL.out)
  have HBK : Hid ((w1.alloc (.cells kindsA 64)).heap[w1.heap.size]? = some (.cells kindsA 64 (0, 0))) := heap_alloc_new w1 _
  clear hb1 J0
  go_wp2
  obtain ⟨w2, hw2⟩ : ∃ w2, w1.alloc (.cells kindsA 64) = w2 := ⟨_, rfl⟩
  rw [hw2]
  rw [hw2] at K1 J1 HBK
  obtain ⟨q, hq⟩ : ∃ q, w1.heap.size = q := ⟨_, rfl⟩
  rw [hq]
  rw [hq] at HBK
  clear hst1 hks hq HAL hw2
  go_loopw [10] (fun i wr => ∃ (j : Nat) (x : Int), j ≤ 5 ∧ x = j ∧ i = .int .i64 x ∧ Hid (KK w2 wr) ∧ Hid (J (nmP j) wr)) (fun i _ => 5 - (intOf i).toNat)
  case atStart => exact ⟨0, 0, Nat.zero_le _, rfl, rfl, K1.out, J1.out⟩
  case round =>
    clear K1 J1
    obtain ⟨j, x, hj, hx, rfl, K, G⟩ := hrel
    have hcase : j = 0 ∨ j = 1 ∨ j = 2 ∨ j = 3 ∨ j = 4 ∨ j = 5 := by omega
    rcases hcase with rfl | rfl | rfl | rfl | rfl | rfl
    · obtain rfl : x = 0 := by simpa using hx
      have hix : ∀ w, (Instr.index 68 (.agg #[.int .i64 1, .int .i64 2, .int .i64 3, .int .i64 8, .int .i64 9]) (.int .i64 0)).run Tryd.prog w = .ok (.int .i64 1) w := fun _ => by kernel_rfl
      have G0 : Hid (J (nmP 0 ++ nmF 1 0) wr) := by
        have h := G.out
        show J _ wr
        simpa [nmF] using h
      clear hj hx G
      go_wp2
      go_loopw [13] (fun i wr => ∃ r : Nat, r ≤ 8 ∧ i = .int .i64 r ∧ Hid (KK w2 wr) ∧ Hid (J (nmP 0 ++ nmF 1 r) wr)) (fun i _ => 8 - (intOf i).toNat)
      case atStart => exact ⟨0, Nat.zero_le _, rfl, K.out, G0.out⟩
      case round =>
        clear K G0 hix
        obtain ⟨r, hr, rfl, K, G⟩ := hrel
        by_cases hlt : r < 8
        · have hc : wr.cell? ⟨q, 4, none⟩ = some (.func (.func 49) #[] #[]) := (Lib.cell_of_heap (K.out.block q _ HBK.out ⟨_, _, rfl⟩) 4).trans rfl
          go_wp2_with fail
          refine (name8_any (r : Int) _).mono ?_
          rintro e w3 ⟨rfl, hb3⟩
          have K3 : Hid (KK w2 w3) := K.out.trans (Col.Kept.of_all hb3)
          have J3 := Lib.hid (HD.out _ _ _ G.out hb3)
          have LEN : Hid ((nmP 0 ++ nmF 1 r).length < 80) := by
            have h1 := nmP_le 0 (by omega)
            have h2 := nmF_le 1 r
            show _ < 80
            rw [List.length_append]
            omega
          clear hb3 hc K G
          obtain ⟨s, hs⟩ : ∃ s, nmS 1 (r : Int) = s := ⟨_, rfl⟩
          rw [hs]
          cases hb : s.toList.isEmpty
          · have hnb : neB s = true := by show (!s.toList.isEmpty) = true; rw [hb]; rfl
            rw [hnb]
            have hyd := HY.out (nmP 0 ++ nmF 1 r) (s, 1, (r : Int)) w3 J3.out trivial LEN.out
            have EX : Hid (nmP 0 ++ nmF 1 r ++ [(s, 1, (r : Int))] = nmP 0 ++ nmF 1 (r + 1)) := by
              have h := nmF_yes 1 r (by rw [hs]; exact hnb)
              rw [hs] at h
              rw [h, List.append_assoc]
              rfl
            obtain ⟨fn, tmps, assign, body, hy, hR⟩ := hyd
            simp only [nmV] at hy
            clear hb hnb hs J3 LEN
            go_upto_region 8 with fail
            refine (wpIn_wide (n := n)).1 ?_
            gi_wp2
            refine ⟨fun h => (by cases h), hR.mono ?_⟩
            rintro e3 W3 ⟨rfl, hJ3, hk3⟩
            have K4 : Hid (KK w2 W3) := K3.out.trans hk3
            have J4 : Hid (J (nmP 0 ++ nmF 1 (r + 1)) W3) := by have h := hJ3; rw [EX.out] at h; exact h
            clear hJ3 hk3 hR hy K3 EX
            gi_wp2
            go_wp2
            go_roundw
            case rel => exact ⟨r + 1, by omega, by go_num, K4.out, J4.out⟩
            case measure => simp [intOf]; omega
          · have hnb : neB s = false := by show (!s.toList.isEmpty) = false; rw [hb]; rfl
            rw [hnb]
            have J4 : Hid (J (nmP 0 ++ nmF 1 (r + 1)) w3) := by
              have h := nmF_no 1 r (by rw [hs]; exact hnb)
              rw [h]
              exact J3.out
            clear hb hnb hs J3 LEN
            go_wp2
            go_roundw
            case rel => exact ⟨r + 1, by omega, by go_num, K3.out, J4.out⟩
            case measure => simp [intOf]; omega
        · have J4 : Hid (J (nmP 1) wr) := by
            obtain rfl : r = 8 := by omega
            have h := nmP_succ 0 (by omega)
            rw [h]
            exact G.out
          go_wp2
          go_roundw
          case rel => exact ⟨1, 1, by omega, rfl, rfl, K.out, J4.out⟩
          case measure => simp [intOf]
    · obtain rfl : x = 1 := by simpa using hx
      have hix : ∀ w, (Instr.index 68 (.agg #[.int .i64 1, .int .i64 2, .int .i64 3, .int .i64 8, .int .i64 9]) (.int .i64 1)).run Tryd.prog w = .ok (.int .i64 2) w := fun _ => by kernel_rfl
      have G0 : Hid (J (nmP 1 ++ nmF 2 0) wr) := by
        have h := G.out
        show J _ wr
        simpa [nmF] using h
      clear hj hx G
      go_wp2
      go_loopw [13] (fun i wr => ∃ r : Nat, r ≤ 8 ∧ i = .int .i64 r ∧ Hid (KK w2 wr) ∧ Hid (J (nmP 1 ++ nmF 2 r) wr)) (fun i _ => 8 - (intOf i).toNat)
      case atStart => exact ⟨0, Nat.zero_le _, rfl, K.out, G0.out⟩
      case round =>
        clear K G0 hix
        obtain ⟨r, hr, rfl, K, G⟩ := hrel
        by_cases hlt : r < 8
        · have hc : wr.cell? ⟨q, 8, none⟩ = some (.func (.func 51) #[] #[]) := (Lib.cell_of_heap (K.out.block q _ HBK.out ⟨_, _, rfl⟩) 8).trans rfl
          go_wp2_with fail
          refine (nameHalf_any (r : Int) _).mono ?_
          rintro e w3 ⟨rfl, hb3⟩
          have K3 : Hid (KK w2 w3) := K.out.trans (Col.Kept.of_all hb3)
          have J3 := Lib.hid (HD.out _ _ _ G.out hb3)
          have LEN : Hid ((nmP 1 ++ nmF 2 r).length < 80) := by
            have h1 := nmP_le 1 (by omega)
            have h2 := nmF_le 2 r
            show _ < 80
            rw [List.length_append]
            omega
          clear hb3 hc K G
          obtain ⟨s, hs⟩ : ∃ s, nmS 2 (r : Int) = s := ⟨_, rfl⟩
          rw [hs]
          cases hb : s.toList.isEmpty
          · have hnb : neB s = true := by show (!s.toList.isEmpty) = true; rw [hb]; rfl
            rw [hnb]
            have hyd := HY.out (nmP 1 ++ nmF 2 r) (s, 2, (r : Int)) w3 J3.out trivial LEN.out
            have EX : Hid (nmP 1 ++ nmF 2 r ++ [(s, 2, (r : Int))] = nmP 1 ++ nmF 2 (r + 1)) := by
              have h := nmF_yes 2 r (by rw [hs]; exact hnb)
              rw [hs] at h
              rw [h, List.append_assoc]
              rfl
            obtain ⟨fn, tmps, assign, body, hy, hR⟩ := hyd
            simp only [nmV] at hy
            clear hb hnb hs J3 LEN
            go_upto_region 8 with fail
            refine (wpIn_wide (n := n)).1 ?_
            gi_wp2
            refine ⟨fun h => (by cases h), hR.mono ?_⟩
            rintro e3 W3 ⟨rfl, hJ3, hk3⟩
            have K4 : Hid (KK w2 W3) := K3.out.trans hk3
            have J4 : Hid (J (nmP 1 ++ nmF 2 (r + 1)) W3) := by have h := hJ3; rw [EX.out] at h; exact h
            clear hJ3 hk3 hR hy K3 EX
            gi_wp2
            go_wp2
            go_roundw
            case rel => exact ⟨r + 1, by omega, by go_num, K4.out, J4.out⟩
            case measure => simp [intOf]; omega
          · have hnb : neB s = false := by show (!s.toList.isEmpty) = false; rw [hb]; rfl
            rw [hnb]
            have J4 : Hid (J (nmP 1 ++ nmF 2 (r + 1)) w3) := by
              have h := nmF_no 2 r (by rw [hs]; exact hnb)
              rw [h]
              exact J3.out
            clear hb hnb hs J3 LEN
            go_wp2
            go_roundw
            case rel => exact ⟨r + 1, by omega, by go_num, K3.out, J4.out⟩
            case measure => simp [intOf]; omega
        · have J4 : Hid (J (nmP 2) wr) := by
            obtain rfl : r = 8 := by omega
            have h := nmP_succ 1 (by omega)
            rw [h]
            exact G.out
          go_wp2
          go_roundw
          case rel => exact ⟨2, 2, by omega, rfl, rfl, K.out, J4.out⟩
          case measure => simp [intOf]
    · obtain rfl : x = 2 := by simpa using hx
      have hix : ∀ w, (Instr.index 68 (.agg #[.int .i64 1, .int .i64 2, .int .i64 3, .int .i64 8, .int .i64 9]) (.int .i64 2)).run Tryd.prog w = .ok (.int .i64 3) w := fun _ => by kernel_rfl
      have G0 : Hid (J (nmP 2 ++ nmF 3 0) wr) := by
        have h := G.out
        show J _ wr
        simpa [nmF] using h
      clear hj hx G
      go_wp2
      go_loopw [13] (fun i wr => ∃ r : Nat, r ≤ 8 ∧ i = .int .i64 r ∧ Hid (KK w2 wr) ∧ Hid (J (nmP 2 ++ nmF 3 r) wr)) (fun i _ => 8 - (intOf i).toNat)
      case atStart => exact ⟨0, Nat.zero_le _, rfl, K.out, G0.out⟩
      case round =>
        clear K G0 hix
        obtain ⟨r, hr, rfl, K, G⟩ := hrel
        by_cases hlt : r < 8
        · have hc : wr.cell? ⟨q, 12, none⟩ = some (.func (.func 52) #[] #[]) := (Lib.cell_of_heap (K.out.block q _ HBK.out ⟨_, _, rfl⟩) 12).trans rfl
          go_wp2_with fail
          refine (name16_any (r : Int) _).mono ?_
          rintro e w3 ⟨rfl, hb3⟩
          have K3 : Hid (KK w2 w3) := K.out.trans (Col.Kept.of_all hb3)
          have J3 := Lib.hid (HD.out _ _ _ G.out hb3)
          have LEN : Hid ((nmP 2 ++ nmF 3 r).length < 80) := by
            have h1 := nmP_le 2 (by omega)
            have h2 := nmF_le 3 r
            show _ < 80
            rw [List.length_append]
            omega
          clear hb3 hc K G
          obtain ⟨s, hs⟩ : ∃ s, nmS 3 (r : Int) = s := ⟨_, rfl⟩
          rw [hs]
          cases hb : s.toList.isEmpty
          · have hnb : neB s = true := by show (!s.toList.isEmpty) = true; rw [hb]; rfl
            rw [hnb]
            have hyd := HY.out (nmP 2 ++ nmF 3 r) (s, 3, (r : Int)) w3 J3.out trivial LEN.out
            have EX : Hid (nmP 2 ++ nmF 3 r ++ [(s, 3, (r : Int))] = nmP 2 ++ nmF 3 (r + 1)) := by
              have h := nmF_yes 3 r (by rw [hs]; exact hnb)
              rw [hs] at h
              rw [h, List.append_assoc]
              rfl
            obtain ⟨fn, tmps, assign, body, hy, hR⟩ := hyd
            simp only [nmV] at hy
            clear hb hnb hs J3 LEN
            go_upto_region 8 with fail
            refine (wpIn_wide (n := n)).1 ?_
            gi_wp2
            refine ⟨fun h => (by cases h), hR.mono ?_⟩
            rintro e3 W3 ⟨rfl, hJ3, hk3⟩
            have K4 : Hid (KK w2 W3) := K3.out.trans hk3
            have J4 : Hid (J (nmP 2 ++ nmF 3 (r + 1)) W3) := by have h := hJ3; rw [EX.out] at h; exact h
            clear hJ3 hk3 hR hy K3 EX
            gi_wp2
            go_wp2
            go_roundw
            case rel => exact ⟨r + 1, by omega, by go_num, K4.out, J4.out⟩
            case measure => simp [intOf]; omega
          · have hnb : neB s = false := by show (!s.toList.isEmpty) = false; rw [hb]; rfl
            rw [hnb]
            have J4 : Hid (J (nmP 2 ++ nmF 3 (r + 1)) w3) := by
              have h := nmF_no 3 r (by rw [hs]; exact hnb)
              rw [h]
              exact J3.out
            clear hb hnb hs J3 LEN
            go_wp2
            go_roundw
            case rel => exact ⟨r + 1, by omega, by go_num, K3.out, J4.out⟩
            case measure => simp [intOf]; omega
        · have J4 : Hid (J (nmP 3) wr) := by
            obtain rfl : r = 8 := by omega
            have h := nmP_succ 2 (by omega)
            rw [h]
            exact G.out
          go_wp2
          go_roundw
          case rel => exact ⟨3, 3, by omega, rfl, rfl, K.out, J4.out⟩
          case measure => simp [intOf]
    · obtain rfl : x = 3 := by simpa using hx
      have hix : ∀ w, (Instr.index 68 (.agg #[.int .i64 1, .int .i64 2, .int .i64 3, .int .i64 8, .int .i64 9]) (.int .i64 3)).run Tryd.prog w = .ok (.int .i64 8) w := fun _ => by kernel_rfl
      have G0 : Hid (J (nmP 3 ++ nmF 8 0) wr) := by
        have h := G.out
        show J _ wr
        simpa [nmF] using h
      clear hj hx G
      go_wp2
      go_loopw [13] (fun i wr => ∃ r : Nat, r ≤ 8 ∧ i = .int .i64 r ∧ Hid (KK w2 wr) ∧ Hid (J (nmP 3 ++ nmF 8 r) wr)) (fun i _ => 8 - (intOf i).toNat)
      case atStart => exact ⟨0, Nat.zero_le _, rfl, K.out, G0.out⟩
      case round =>
        clear K G0 hix
        obtain ⟨r, hr, rfl, K, G⟩ := hrel
        by_cases hlt : r < 8
        · have hc : wr.cell? ⟨q, 32, none⟩ = some (.func (.func 60) #[] #[]) := (Lib.cell_of_heap (K.out.block q _ HBK.out ⟨_, _, rfl⟩) 32).trans rfl
          go_wp2_with fail
          refine (nameCondition_any (r : Int) _).mono ?_
          rintro e w3 ⟨rfl, hb3⟩
          have K3 : Hid (KK w2 w3) := K.out.trans (Col.Kept.of_all hb3)
          have J3 := Lib.hid (HD.out _ _ _ G.out hb3)
          have LEN : Hid ((nmP 3 ++ nmF 8 r).length < 80) := by
            have h1 := nmP_le 3 (by omega)
            have h2 := nmF_le 8 r
            show _ < 80
            rw [List.length_append]
            omega
          clear hb3 hc K G
          obtain ⟨s, hs⟩ : ∃ s, nmS 8 (r : Int) = s := ⟨_, rfl⟩
          rw [hs]
          cases hb : s.toList.isEmpty
          · have hnb : neB s = true := by show (!s.toList.isEmpty) = true; rw [hb]; rfl
            rw [hnb]
            have hyd := HY.out (nmP 3 ++ nmF 8 r) (s, 8, (r : Int)) w3 J3.out trivial LEN.out
            have EX : Hid (nmP 3 ++ nmF 8 r ++ [(s, 8, (r : Int))] = nmP 3 ++ nmF 8 (r + 1)) := by
              have h := nmF_yes 8 r (by rw [hs]; exact hnb)
              rw [hs] at h
              rw [h, List.append_assoc]
              rfl
            obtain ⟨fn, tmps, assign, body, hy, hR⟩ := hyd
            simp only [nmV] at hy
            clear hb hnb hs J3 LEN
            go_upto_region 8 with fail
            refine (wpIn_wide (n := n)).1 ?_
            gi_wp2
            refine ⟨fun h => (by cases h), hR.mono ?_⟩
            rintro e3 W3 ⟨rfl, hJ3, hk3⟩
            have K4 : Hid (KK w2 W3) := K3.out.trans hk3
            have J4 : Hid (J (nmP 3 ++ nmF 8 (r + 1)) W3) := by have h := hJ3; rw [EX.out] at h; exact h
            clear hJ3 hk3 hR hy K3 EX
            gi_wp2
            go_wp2
            go_roundw
            case rel => exact ⟨r + 1, by omega, by go_num, K4.out, J4.out⟩
            case measure => simp [intOf]; omega
          · have hnb : neB s = false := by show (!s.toList.isEmpty) = false; rw [hb]; rfl
            rw [hnb]
            have J4 : Hid (J (nmP 3 ++ nmF 8 (r + 1)) w3) := by
              have h := nmF_no 8 r (by rw [hs]; exact hnb)
              rw [h]
              exact J3.out
            clear hb hnb hs J3 LEN
            go_wp2
            go_roundw
            case rel => exact ⟨r + 1, by omega, by go_num, K3.out, J4.out⟩
            case measure => simp [intOf]; omega
        · have J4 : Hid (J (nmP 4) wr) := by
            obtain rfl : r = 8 := by omega
            have h := nmP_succ 3 (by omega)
            rw [h]
            exact G.out
          go_wp2
          go_roundw
          case rel => exact ⟨4, 4, by omega, rfl, rfl, K.out, J4.out⟩
          case measure => simp [intOf]
    · obtain rfl : x = 4 := by simpa using hx
      have hix : ∀ w, (Instr.index 68 (.agg #[.int .i64 1, .int .i64 2, .int .i64 3, .int .i64 8, .int .i64 9]) (.int .i64 4)).run Tryd.prog w = .ok (.int .i64 9) w := fun _ => by kernel_rfl
      have G0 : Hid (J (nmP 4 ++ nmF 9 0) wr) := by
        have h := G.out
        show J _ wr
        simpa [nmF] using h
      clear hj hx G
      go_wp2
      go_loopw [13] (fun i wr => ∃ r : Nat, r ≤ 8 ∧ i = .int .i64 r ∧ Hid (KK w2 wr) ∧ Hid (J (nmP 4 ++ nmF 9 r) wr)) (fun i _ => 8 - (intOf i).toNat)
      case atStart => exact ⟨0, Nat.zero_le _, rfl, K.out, G0.out⟩
      case round =>
        clear K G0 hix
        obtain ⟨r, hr, rfl, K, G⟩ := hrel
        by_cases hlt : r < 8
        · have hc : wr.cell? ⟨q, 36, none⟩ = some (.func (.func 61) #[] #[]) := (Lib.cell_of_heap (K.out.block q _ HBK.out ⟨_, _, rfl⟩) 36).trans rfl
          go_wp2_with fail
          refine (nameControl_any (r : Int) _).mono ?_
          rintro e w3 ⟨rfl, hb3⟩
          have K3 : Hid (KK w2 w3) := K.out.trans (Col.Kept.of_all hb3)
          have J3 := Lib.hid (HD.out _ _ _ G.out hb3)
          have LEN : Hid ((nmP 4 ++ nmF 9 r).length < 80) := by
            have h1 := nmP_le 4 (by omega)
            have h2 := nmF_le 9 r
            show _ < 80
            rw [List.length_append]
            omega
          clear hb3 hc K G
          obtain ⟨s, hs⟩ : ∃ s, nmS 9 (r : Int) = s := ⟨_, rfl⟩
          rw [hs]
          cases hb : s.toList.isEmpty
          · have hnb : neB s = true := by show (!s.toList.isEmpty) = true; rw [hb]; rfl
            rw [hnb]
            have hyd := HY.out (nmP 4 ++ nmF 9 r) (s, 9, (r : Int)) w3 J3.out trivial LEN.out
            have EX : Hid (nmP 4 ++ nmF 9 r ++ [(s, 9, (r : Int))] = nmP 4 ++ nmF 9 (r + 1)) := by
              have h := nmF_yes 9 r (by rw [hs]; exact hnb)
              rw [hs] at h
              rw [h, List.append_assoc]
              rfl
            obtain ⟨fn, tmps, assign, body, hy, hR⟩ := hyd
            simp only [nmV] at hy
            clear hb hnb hs J3 LEN
            go_upto_region 8 with fail
            refine (wpIn_wide (n := n)).1 ?_
            gi_wp2
            refine ⟨fun h => (by cases h), hR.mono ?_⟩
            rintro e3 W3 ⟨rfl, hJ3, hk3⟩
            have K4 : Hid (KK w2 W3) := K3.out.trans hk3
            have J4 : Hid (J (nmP 4 ++ nmF 9 (r + 1)) W3) := by have h := hJ3; rw [EX.out] at h; exact h
            clear hJ3 hk3 hR hy K3 EX
            gi_wp2
            go_wp2
            go_roundw
            case rel => exact ⟨r + 1, by omega, by go_num, K4.out, J4.out⟩
            case measure => simp [intOf]; omega
          · have hnb : neB s = false := by show (!s.toList.isEmpty) = false; rw [hb]; rfl
            rw [hnb]
            have J4 : Hid (J (nmP 4 ++ nmF 9 (r + 1)) w3) := by
              have h := nmF_no 9 r (by rw [hs]; exact hnb)
              rw [h]
              exact J3.out
            clear hb hnb hs J3 LEN
            go_wp2
            go_roundw
            case rel => exact ⟨r + 1, by omega, by go_num, K3.out, J4.out⟩
            case measure => simp [intOf]; omega
        · have J4 : Hid (J (nmP 5) wr) := by
            obtain rfl : r = 8 := by omega
            have h := nmP_succ 4 (by omega)
            rw [h]
            exact G.out
          go_wp2
          go_roundw
          case rel => exact ⟨5, 5, by omega, rfl, rfl, K.out, J4.out⟩
          case measure => simp [intOf]
    · obtain rfl : x = 5 := by simpa using hx
      clear hx hj
      go_wp2
      go_end0
      exact ⟨⟨_, rfl⟩, _, rfl, G.out⟩
end Go.Proofs.YtbcbhdhhinopaaaDoor
