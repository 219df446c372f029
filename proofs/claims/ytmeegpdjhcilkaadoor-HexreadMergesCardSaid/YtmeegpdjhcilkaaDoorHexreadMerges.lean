
import Derived.Test.YtmeegpdjhcilkaaDoorRdMa
import Derived.Test.YtmeegpdjhcilkaaDoorRdMb
import Derived.Test.YtmeegpdjhcilkaaDoorRdK
import Derived.Test.YtmeegpdjhcilkaaDoorCards
import Derived.Test.YtmeegpdjhcilkaaDoorTie
import Derived.ProofKit
import Derived.OpenShut
import Derived.Lay
import Derived.LaidOnce
import Derived.SevenTiedAt
import Derived.Below
namespace Go.Proofs.YtmeegpdjhcilkaaDoor.hexreadMergesDone
open Go.ChangeShapes Go.WideShapes Go.ChangeAt Go.RowKit
open Go.ChangeMaps (open_string shut_string)
set_option linter.unusedVariables false

theorem own : ownKnob Tryd.prog.godebug = none := by kernel_rfl
theorem laidOut : laidOutB Tryd.prog = true := by kernel_rfl
/-- A slice of integers that came in: nil, or a row of 'cap' cells that hold the numbers 'zs'. -/
def IsRow (k : IntKind) (w : World) (a : Option Addr) (len cap : Nat) (zs : List Int) : Prop :=
  (a = none ∧ len = 0 ∧ cap = 0 ∧ zs = []) ∨
  ∃ x, a = some x ∧ len ≤ cap ∧ cap ≤ maxLen ∧ zs.length = cap ∧ (∀ i, i < zs.length → w.cell? (x.add i) = some (.int k (zs.getD i 0))) ∧ ∀ n ∈ zs, (Lit.int k n).wf = true

theorem mergeL_good {V : List Im.Cel} {i : Nat} {l : List (List UInt8)} (h : (mergeL V i l).2.2.2 = 0) : (mergeL V i l).2.1 = 0 ∧ (mergeL V i l).2.2.1 = 0 := by
  induction l generalizing V i with
  | nil => exact ⟨rfl, rfl⟩
  | cons x t ih =>
    by_cases h1 : (readT x).2.2 = 0
    · by_cases h2 : (ofP V (runsL (readT x).1)).2 = 0
      · rw [mergeL_go h1 h2] at h ⊢; exact ih h
      · rw [mergeL_over h1 h2] at h; cases h
    · rw [mergeL_bad h1] at h; exact absurd h h1
section
variable {P : Program} {ops : Array Oper}
theorem wpMix_skip {C : World → Prop} {T : Act → World → Prop} {k : Nat} {r : List (Nat × Bool)} {a : Act} {w : World} {o : Oper} (ho : ops[k]? = some o) (hw : Region.wanted o (yielded ops a.tmps) = false)
    (h : Mixed.wpMix P ops C T r (a.put o.dst undef) w) : Mixed.wpMix P ops C T ((k, true) :: r) a w := by
  simp only [Mixed.wpMix, ho]
  exact ⟨undef, .inr ⟨hw, rfl⟩, h⟩
theorem wpMix_skipL {C : World → Prop} {T : Act → World → Prop} {k : Nat} {r : List (Nat × Bool)} {a : Act} {w : World} {o : Oper} (ho : ops[k]? = some o) (hw : Region.wanted o (yielded ops a.tmps) = false)
    (hC : C w) (h : Mixed.wpMix P ops C T r (a.put o.dst undef) w) : Mixed.wpMix P ops C T ((k, false) :: r) a w := by
  simp only [Mixed.wpMix]
  unfold wpOp
  simp only [ho, hw, Bool.false_eq_true, if_false]
  exact ⟨hC, h⟩
end
attribute [local irreducible] Go.Mixed.wpMix
set_option maxRecDepth 100000 in
set_option maxHeartbeats 16000000 in
theorem walk (A : Option Addr) (cap : Nat) (ss : List ByteArray) (w : World) (hm : ss.length ≤ maxLen) (hX : StrsP (fun _ => True) w A ss) (hz : ∀ s ∈ ss, s.size ≤ maxLen) :
    Calls Tryd.prog 5 #[.slice A ss.length cap] w fun e w' => e = .returned (.bool true) ∧ Below w.heap.size w w' := by
  unfold maxLen at hm
  have X := Lib.hid hX
  have Z := Lib.hid hz
  obtain ⟨n, hn⟩ : ∃ n, ss.length = n := ⟨_, rfl⟩
  have HN := Lib.hid hn
  rw [hn] at hm ⊢
  clear hX hz hn
  by_cases h20 : 20 < n
  case pos =>
    have hN' : (20 : Int) < (n : Int) := by omega
    clear h20
    go_enter Tryd.func5, Tryd.ntmps5
    go_wp2
    go_loop [3, 15] (fun sv iv => ∃ (k : Nat) (S : Int), k ≤ n ∧ iv = .int .i64 k ∧ sv = .int .i64 S) (fun _ iv => n - (intOf iv).toNat)
    case atStart => exact ⟨0, 0, Nat.zero_le _, rfl, rfl⟩
    case round =>
      obtain ⟨k, S, hk, rfl, rfl⟩ := hrel
      by_cases hlt : k < n
      · have hkl : k < ss.length := by rw [HN.out]; exact hlt
        have hlt' : (k : Int) < (n : Int) := by omega
        obtain ⟨g, off, hA, g0⟩ := X.out.at_ hkl
        subst hA
        obtain ⟨s, hs⟩ : ∃ s, ss[k] = s := ⟨_, rfl⟩
        rw [hs] at g0
        clear hs hkl
        go_wp2
        go_round
        case rel => exact ⟨k + 1, _, hlt, by go_num, rfl⟩
        case measure => simp [intOf]; omega
      · have hlt' : decide ((k : Int) < (n : Int)) = false := decide_eq_false (by omega)
        by_cases hS : 4000 < S
        · go_wp2_with fail
          refine (alive5_any _).mono ?_
          rintro e w1 ⟨rfl, hb1⟩
          have B := Lib.hid hb1
          clear hb1
          go_wp2
          go_ret
          exact ⟨rfl, B.out⟩
        · have hS' : decide ((4000 : Int) < S) = false := decide_eq_false hS
          go_wp2_with fail
          refine (alive5_any _).mono ?_
          rintro e w1 ⟨rfl, hb1⟩
          have B := Lib.hid hb1
          clear hb1
          go_wp2
          go_ret
          exact ⟨rfl, B.out⟩
  have h20' : n ≤ 20 := by omega
  clear h20
  go_enter Tryd.func5, Tryd.ntmps5
  go_wp2
  go_loop [3, 15] (fun sv iv => ∃ (k S : Nat), k ≤ n ∧ iv = .int .i64 k ∧ sv = .int .i64 S ∧ Hid (S ≤ 5000 * k) ∧ Hid (∀ j (h : j < ss.length), j < k → min ss[j].size 5000 ≤ S)) (fun _ iv => n - (intOf iv).toNat)
  case atStart => exact ⟨0, 0, Nat.zero_le _, rfl, rfl, Nat.zero_le _, fun j h hj => absurd hj (Nat.not_lt_zero _)⟩
  case round =>
    obtain ⟨k, S, hk, rfl, rfl, B, M⟩ := hrel
    have hsb : (S : Int) ≤ 4294967296 := by have := B.out; omega
    by_cases hlt : k < n
    · have hkl : k < ss.length := by rw [HN.out]; exact hlt
      have hlt' : (k : Int) < (n : Int) := by omega
      obtain ⟨g, off, hA, g0⟩ := X.out.at_ hkl
      subst hA
      have hsz := Z.out _ (List.getElem_mem hkl)
      unfold maxLen at hsz
      have MM : Hid (∀ s, ss[k] = s → ∀ j (h : j < ss.length), j < k + 1 → min ss[j].size 5000 ≤ S + min s.size 5000) := fun s hs j h hj => by
        rcases Nat.lt_or_ge j k with h1 | h1
        · have := M.out j h h1; omega
        · have : j = k := by omega
          subst this
          rw [hs]
          omega
      obtain ⟨s, hs⟩ : ∃ s, ss[k] = s := ⟨_, rfl⟩
      have M2 := Lib.hid (MM.out s hs)
      rw [hs] at g0 hsz
      obtain ⟨q, hq⟩ : ∃ q, S + min s.size 5000 = q := ⟨_, rfl⟩
      have hq' : (S : Int) + min (s.size : Int) 5000 = (q : Int) := by omega
      rw [hq] at M2
      have B2 : Hid (q ≤ 5000 * (k + 1)) := by show _ ≤ _; have := B.out; omega
      have hqb : (q : Int) ≤ 4294967296 := by have := B2.out; omega
      clear hs MM hq hkl
      go_wp2
      go_round
      case rel => exact ⟨k + 1, q, hlt, by go_num, by first | rfl | rw [hq'], B2.out, M2.out⟩
      case measure => simp [intOf]; omega
    · have hkn : k = n := by omega
      have hlt' : decide ((k : Int) < (n : Int)) = false := decide_eq_false (by omega)
      by_cases hb : 4000 < S
      case pos =>
        have hS' : (4000 : Int) < (S : Int) := by omega
        clear hb hkn
        go_wp2_with fail
        refine (alive5_any _).mono ?_
        rintro e w1 ⟨rfl, hb1⟩
        have B := Lib.hid hb1
        clear hb1
        go_wp2
        go_ret
        exact ⟨rfl, B.out⟩
      case neg =>
        have hS' : decide ((4000 : Int) < (S : Int)) = false := decide_eq_false (by omega)
        have hN' : decide ((20 : Int) < (n : Int)) = false := decide_eq_false (by omega)
        obtain ⟨xs, hxs⟩ : ∃ xs : List (List UInt8), xs.map strOf = ss := ⟨ss.map (·.data.toList), by rw [List.map_map]; exact List.map_id'' (fun s => list_strOf s) ss⟩
        have hxn : xs.length = n := by rw [← HN.out, ← hxs, List.length_map]
        have hxl : ∀ x ∈ xs, x.length ≤ 40000000 := fun x hx => by
          obtain ⟨j, hj, rfl⟩ := List.mem_iff_getElem.1 hx
          have hj' : j < ss.length := by rw [HN.out, ← hxn]; exact hj
          have h := M.out j hj' (by rw [hkn, ← hxn]; exact hj)
          have e : ss[j].size = xs[j].length := by
            rw [← strOf_size xs[j]]
            congr 1
            simp only [← hxs, List.getElem_map]
          omega
        have R1 := hmerge_any A cap xs (by omega) hxl w (by rw [hxs]; exact X.out)
        have R2 := fun w1 (hb : Below w.heap.size w w1) => rmerge_any A cap xs (by omega) hxl w1 (by rw [hxs]; exact X.out.below hb)
        have hgd := @mergeL_good [] 0 xs
        have hnl := @mergeL_nil [] 0 xs
        rw [hxn] at R1 R2
        obtain ⟨r, hr⟩ : ∃ r, mergeL [] 0 xs = r := ⟨_, rfl⟩
        rw [hr] at R1 R2 hgd hnl
        obtain ⟨V, i, l, c⟩ := r
        clear hr hxl hxn hxs xs hb M B hkn X Z HN hsb
        by_cases hc : c = 0
        case pos =>
          subst hc
          obtain ⟨rfl, rfl⟩ : i = 0 ∧ l = 0 := hgd rfl
          clear hgd hnl
          go_wp2_with fail
          refine R1.mono ?_
          rintro e w1 ⟨g1, g2, hb1⟩
          obtain ⟨b, rfl, -, hI⟩ := g1 rfl
          have al1 : Below w1.heap.size w1 (w1.alloc (.cells #[.int .i64 0, .int .i64 0] 31)) := (Below.refl _ _).alloc (Nat.le_refl _) _
          have T1 : Hid (Two (w1.alloc (.cells #[.int .i64 0, .int .i64 0] 31)) w1.heap.size 31 (.int .i64 0) (.int .i64 0)) := World.alloc_heap_new _ _
          have K1 : Hid (Below w.heap.size w (w1.alloc (.cells #[.int .i64 0, .int .i64 0] 31))) := hb1.trans (al1.mono hb1.size)
          have I1 := Lib.hid (hI.below al1)
          have R2' := R2 _ K1.out
          clear g1 g2 hb1 al1 R1 R2 hI
          go_wp2_with fail
          refine R2'.mono ?_
          rintro e w2 ⟨A2, cap2, rfl, -, hC, hb2⟩
          have q2 : Below (w1.alloc (.cells #[.int .i64 0, .int .i64 0] 31)).heap.size (w1.alloc (.cells #[.int .i64 0, .int .i64 0] 31)) w2.drew := hb2.drew
          have K2 : Hid (Below w.heap.size w w2.drew) := K1.out.trans (q2.mono K1.out.size)
          have T2 : Two w2.drew w1.heap.size 31 (.int .i64 0) (.int .i64 0) := (q2.block _ T1.out.lt).trans T1.out
          have P2 : Hid (Im.CellsP (fun _ => True) w2.drew A2 V) := (hC.mono (Q := fun _ => True) fun _ _ _ => trivial).below (Below.refl _ _).drew
          have I2 := Lib.hid (I1.out.below q2)
          obtain ⟨D, hD⟩ : ∃ f, w1.heap.size = f := ⟨_, rfl⟩
          rw [hD] at T2
          rw [hD]
          have TT := Lib.hid T2
          have CC : Hid (w2.drew.cell? ⟨D, 0, none⟩ = some (.int .i64 0) ∧ w2.drew.cell? ⟨D, 1, none⟩ = some (.int .i64 0)) := ⟨T2.c0, T2.c1⟩
          clear q2 T2 T1 K1 R2' hC hb2 hD I1
          go_wp2
          refine Mixed.wp_region_mixed (fun w' => w'.cell? ⟨D, 0, none⟩ = some (.int .i64 0) ∧ w'.cell? ⟨D, 1, none⟩ = some (.int .i64 0)) 30
            [(0, false), (1, true), (2, true), (3, true), (4, true), (5, true), (6, true), (7, true), (8, true), (9, true), (10, false), (11, true), (12, true), (13, true), (14, true), (15, true), (16, true), (17, true), (18, true), (19, true), (20, true), (21, true), (22, true), (23, true), (24, true), (25, true), (26, false), (27, true), (28, true), (29, true)] (by kernel_rfl) (by kernel_rfl) CC.out ?_
          refine Mixed.wpMix_loud rfl ?_
          go_wp2_with fail
          refine (alive5_any _).mono ?_
          rintro e w3 ⟨rfl, hb3⟩
          have T3 := Lib.hid ((hb3.block _ TT.out.lt).trans TT.out)
          have C3 : Hid (w3.cell? ⟨D, 0, none⟩ = some (.int .i64 0) ∧ w3.cell? ⟨D, 1, none⟩ = some (.int .i64 0)) := ⟨Two.c0 (t := 31) T3.out, Two.c1 (t := 31) T3.out⟩
          have K3 : Hid (Below w.heap.size w w3) := K2.out.trans (hb3.mono K2.out.size)
          have P3 := Lib.hid (P2.out.below hb3)
          have I3 := Lib.hid (I2.out.below hb3)
          clear hb3 P2 K2 CC TT I2
          go_wp2
          refine ⟨C3.out, ?_⟩
          refine Mixed.wpMix_move rfl (by kernel_rfl) _ rfl _ rfl ?_
          refine Mixed.wpMix_move rfl (by kernel_rfl) _ rfl _ rfl ?_
          refine Mixed.wpMix_move rfl (by kernel_rfl) _ rfl _ rfl ?_
          refine Mixed.wpMix_pure rfl (by kernel_rfl) (.bool true) (fun w h => by clear h; go_simp; try simp) ?_
          refine Mixed.wpMix_pure rfl (by kernel_rfl) (.bool true) (fun w h => by clear h; go_simp; try rfl) ?_
          refine Mixed.wpMix_move rfl (by kernel_rfl) _ rfl _ rfl ?_
          refine Mixed.wpMix_pure rfl (by kernel_rfl) (.agg #[.int .i64 0, .int .i64 0]) (fun w h => by obtain ⟨h1, h2⟩ := h; go_simp; try rfl) ?_
          refine Mixed.wpMix_move rfl (by kernel_rfl) _ rfl _ rfl ?_
          refine Mixed.wpMix_move rfl (by kernel_rfl) _ rfl _ rfl ?_
          refine Mixed.wpMix_loudG rfl (by kernel_rfl) ?_
          go_wp2_with fail
          refine (fault5_any 0 0 _).mono ?_
          rintro e w4 ⟨rfl, hb4⟩
          have T4 := Lib.hid ((hb4.block _ (Two.lt (t := 31) T3.out)).trans T3.out)
          have C4 : Hid (w4.cell? ⟨D, 0, none⟩ = some (.int .i64 0) ∧ w4.cell? ⟨D, 1, none⟩ = some (.int .i64 0)) := ⟨Two.c0 (t := 31) T4.out, Two.c1 (t := 31) T4.out⟩
          have K4 : Hid (Below w.heap.size w w4) := K3.out.trans (hb4.mono K3.out.size)
          have P4 := Lib.hid (P3.out.below hb4)
          have I4 := Lib.hid (I3.out.below hb4)
          clear hb4 P3 K3 C3 T3 I3
          go_wp2
          refine ⟨C4.out, ?_⟩
          refine Mixed.wpMix_pure rfl (by kernel_rfl) (.bool true) (fun w h => by clear h; go_simp; try simp) ?_
          refine Mixed.wpMix_pure rfl (by kernel_rfl) (.bool true) (fun w h => by clear h; go_simp; try rfl) ?_
          refine Mixed.wpMix_move rfl (by kernel_rfl) _ rfl _ rfl ?_
          refine Mixed.wpMix_move rfl (by kernel_rfl) _ rfl _ rfl ?_
          refine Mixed.wpMix_pure rfl (by kernel_rfl) (.bool false) (fun w h => by clear h; go_simp; try simp) ?_
          refine Mixed.wpMix_move rfl (by kernel_rfl) _ rfl _ rfl ?_
          refine Mixed.wpMix_pure rfl (by kernel_rfl) (.bool false) (fun w h => by clear h; go_simp; try simp) ?_
          refine Mixed.wpMix_pure rfl (by kernel_rfl) (.bool true) (fun w h => by clear h; go_simp; try simp) ?_
          refine Mixed.wpMix_pure rfl (by kernel_rfl) (.bool true) (fun w h => by clear h; go_simp; try rfl) ?_
          refine Mixed.wpMix_move rfl (by kernel_rfl) _ rfl _ rfl ?_
          refine Mixed.wpMix_move rfl (by kernel_rfl) _ rfl _ rfl ?_
          refine Mixed.wpMix_pure rfl (by kernel_rfl) (.bool false) (fun w h => by clear h; go_simp; try simp) ?_
          refine Mixed.wpMix_move rfl (by kernel_rfl) _ rfl _ rfl ?_
          refine Mixed.wpMix_move rfl (by kernel_rfl) _ rfl _ rfl ?_
          refine Mixed.wpMix_move rfl (by kernel_rfl) _ rfl _ rfl ?_
          refine Mixed.wpMix_loudG rfl (by kernel_rfl) ?_
          go_wp2_with fail
          refine (Im.lsame_any b V _ A2 cap2 w4 I4.out P4.out).mono ?_
          rintro e w5 ⟨rfl, hb5⟩
          have C5 : Hid (w5.cell? ⟨D, 0, none⟩ = some (.int .i64 0) ∧ w5.cell? ⟨D, 1, none⟩ = some (.int .i64 0)) := by
            have T5 : Two w5 D 31 (.int .i64 0) (.int .i64 0) := (hb5.block _ (Two.lt (t := 31) T4.out)).trans T4.out
            exact ⟨T5.c0, T5.c1⟩
          have K5 : Hid (Below w.heap.size w w5) := K4.out.trans (hb5.mono K4.out.size)
          clear hb5 P4 K4 C4 T4 I4
          go_wp2
          refine ⟨C5.out, ?_⟩
          refine Mixed.wpMix_pure rfl (by kernel_rfl) (.bool true) (fun w h => by clear h; go_simp; try simp) ?_
          refine Mixed.wpMix_pure rfl (by kernel_rfl) (.bool true) (fun w h => by clear h; go_simp; try rfl) ?_
          refine Mixed.wpMix_pure rfl (by kernel_rfl) (.bool true) (fun w h => by clear h; go_simp; try rfl) ?_
          simp only [Mixed.wpMix, List.drop_succ_cons, List.drop_zero]
          go_wp2
          go_ret
          exact ⟨rfl, K5.out⟩
        case neg =>
          obtain rfl : V = [] := hnl hc
          have n1 : (c == 0) = false := beq_eq_false_iff_ne.2 hc
          have n2 : (c != 0) = true := by unfold bne; rw [n1]; rfl
          have HC := Lib.hid hc
          clear hgd hnl hc
          go_wp2_with fail
          refine R1.mono ?_
          rintro e w1 ⟨g1, g2, hb1⟩
          obtain rfl := g2 HC.out
          have al1 : Below w1.heap.size w1 (w1.alloc (.cells #[.int .i64 l, .int .i64 c] 31)) := (Below.refl _ _).alloc (Nat.le_refl _) _
          have T1 : Hid (Two (w1.alloc (.cells #[.int .i64 l, .int .i64 c] 31)) w1.heap.size 31 (.int .i64 l) (.int .i64 c)) := World.alloc_heap_new _ _
          have K1 : Hid (Below w.heap.size w (w1.alloc (.cells #[.int .i64 l, .int .i64 c] 31))) := hb1.trans (al1.mono hb1.size)
          have R2' := R2 _ K1.out
          clear g1 g2 hb1 al1 R1 R2
          go_wp2_with fail
          refine R2'.mono ?_
          rintro e w2 ⟨A2, cap2, rfl, -, hC, hb2⟩
          have q2 : Below (w1.alloc (.cells #[.int .i64 l, .int .i64 c] 31)).heap.size (w1.alloc (.cells #[.int .i64 l, .int .i64 c] 31)) w2.drew := hb2.drew
          have K2 : Hid (Below w.heap.size w w2.drew) := K1.out.trans (q2.mono K1.out.size)
          have T2 : Two w2.drew w1.heap.size 31 (.int .i64 l) (.int .i64 c) := (q2.block _ T1.out.lt).trans T1.out
          have P2 : Hid (Im.CellsP (fun _ => True) w2.drew A2 []) := (hC.mono (Q := fun _ => True) fun _ _ _ => trivial).below (Below.refl _ _).drew
          obtain ⟨D, hD⟩ : ∃ f, w1.heap.size = f := ⟨_, rfl⟩
          rw [hD] at T2
          rw [hD]
          have TT := Lib.hid T2
          have CC : Hid (w2.drew.cell? ⟨D, 0, none⟩ = some (.int .i64 l) ∧ w2.drew.cell? ⟨D, 1, none⟩ = some (.int .i64 c)) := ⟨T2.c0, T2.c1⟩
          clear q2 T2 T1 K1 R2' hC hb2 hD
          go_wp2
          refine Mixed.wp_region_mixed (fun w' => w'.cell? ⟨D, 0, none⟩ = some (.int .i64 l) ∧ w'.cell? ⟨D, 1, none⟩ = some (.int .i64 c)) 30
            [(0, false), (1, true), (2, true), (3, true), (4, true), (5, true), (6, true), (7, true), (8, true), (9, true), (10, false), (11, true), (12, true), (13, true), (14, true), (15, true), (16, true), (17, true), (18, true), (19, true), (20, true), (21, true), (22, true), (23, true), (24, true), (25, true), (26, false), (27, true), (28, true), (29, true)] (by kernel_rfl) (by kernel_rfl) CC.out ?_
          refine Mixed.wpMix_loud rfl ?_
          go_wp2_with fail
          refine (alive5_any _).mono ?_
          rintro e w3 ⟨rfl, hb3⟩
          have T3 := Lib.hid ((hb3.block _ TT.out.lt).trans TT.out)
          have C3 : Hid (w3.cell? ⟨D, 0, none⟩ = some (.int .i64 l) ∧ w3.cell? ⟨D, 1, none⟩ = some (.int .i64 c)) := ⟨Two.c0 (t := 31) T3.out, Two.c1 (t := 31) T3.out⟩
          have K3 : Hid (Below w.heap.size w w3) := K2.out.trans (hb3.mono K2.out.size)
          have P3 := Lib.hid (P2.out.below hb3)
          clear hb3 P2 K2 CC TT
          go_wp2
          refine ⟨C3.out, ?_⟩
          refine Mixed.wpMix_move rfl (by kernel_rfl) _ rfl _ rfl ?_
          refine Mixed.wpMix_move rfl (by kernel_rfl) _ rfl _ rfl ?_
          refine Mixed.wpMix_move rfl (by kernel_rfl) _ rfl _ rfl ?_
          refine Mixed.wpMix_pure rfl (by kernel_rfl) (.bool true) (fun w h => by clear h; go_simp; try simp) ?_
          refine Mixed.wpMix_pure rfl (by kernel_rfl) (.bool true) (fun w h => by clear h; go_simp; try rfl) ?_
          refine Mixed.wpMix_move rfl (by kernel_rfl) _ rfl _ rfl ?_
          refine Mixed.wpMix_pure rfl (by kernel_rfl) (.agg #[.int .i64 l, .int .i64 c]) (fun w h => by obtain ⟨h1, h2⟩ := h; go_simp; try rfl) ?_
          refine Mixed.wpMix_move rfl (by kernel_rfl) _ rfl _ rfl ?_
          refine Mixed.wpMix_move rfl (by kernel_rfl) _ rfl _ rfl ?_
          refine Mixed.wpMix_loudG rfl (by kernel_rfl) ?_
          go_wp2_with fail
          refine (fault5_any l c _).mono ?_
          rintro e w4 ⟨rfl, hb4⟩
          have T4 := Lib.hid ((hb4.block _ (Two.lt (t := 31) T3.out)).trans T3.out)
          have C4 : Hid (w4.cell? ⟨D, 0, none⟩ = some (.int .i64 l) ∧ w4.cell? ⟨D, 1, none⟩ = some (.int .i64 c)) := ⟨Two.c0 (t := 31) T4.out, Two.c1 (t := 31) T4.out⟩
          have K4 : Hid (Below w.heap.size w w4) := K3.out.trans (hb4.mono K3.out.size)
          have P4 := Lib.hid (P3.out.below hb4)
          clear hb4 P3 K3 C3 T3
          go_wp2
          refine ⟨C4.out, ?_⟩
          refine Mixed.wpMix_pure rfl (by kernel_rfl) (.bool true) (fun w h => by clear h; go_simp; try simp) ?_
          refine Mixed.wpMix_pure rfl (by kernel_rfl) (.bool true) (fun w h => by clear h; go_simp; try rfl) ?_
          refine Mixed.wpMix_move rfl (by kernel_rfl) _ rfl _ rfl ?_
          refine Mixed.wpMix_move rfl (by kernel_rfl) _ rfl _ rfl ?_
          refine Mixed.wpMix_pure rfl (by kernel_rfl) (.bool true) (fun w h => by clear h; go_simp; try simp) ?_
          refine Mixed.wpMix_move rfl (by kernel_rfl) _ rfl _ rfl ?_
          refine Mixed.wpMix_pure rfl (by kernel_rfl) (.bool true) (fun w h => by clear h; go_simp; try simp) ?_
          refine Mixed.wpMix_pure rfl (by kernel_rfl) (.bool true) (fun w h => by clear h; go_simp; try simp) ?_
          refine Mixed.wpMix_pure rfl (by kernel_rfl) (.bool true) (fun w h => by clear h; go_simp; try rfl) ?_
          refine Mixed.wpMix_move rfl (by kernel_rfl) _ rfl _ rfl ?_
          refine Mixed.wpMix_move rfl (by kernel_rfl) _ rfl _ rfl ?_
          refine Mixed.wpMix_pure rfl (by kernel_rfl) (.bool true) (fun w h => by clear h; go_simp; try simp) ?_
          refine Mixed.wpMix_move rfl (by kernel_rfl) _ rfl _ rfl ?_
          refine wpMix_skip rfl (by kernel_rfl) ?_
          refine wpMix_skip rfl (by kernel_rfl) ?_
          refine wpMix_skipL rfl (by kernel_rfl) C4.out ?_
          refine wpMix_skip rfl (by kernel_rfl) ?_
          refine Mixed.wpMix_pure rfl (by kernel_rfl) (.bool true) (fun w h => by clear h; go_simp; try rfl) ?_
          refine Mixed.wpMix_pure rfl (by kernel_rfl) (.bool true) (fun w h => by clear h; go_simp; try rfl) ?_
          simp only [Mixed.wpMix, List.drop_succ_cons, List.drop_zero]
          go_wp2
          go_ret
          exact ⟨rfl, K4.out⟩

set_option maxRecDepth 100000 in
theorem lifted (os : Os) (started : os.Started) (H : Type) (enc : TypeId × Value → H) :
    ReturnsInHanded {} Tryd.checked os 5 .any (fun w args => (Rows.hexreadMergesSpec.pre enc Tryd.prog Tryd.f5 [] false w args ∧ laidMetH Tryd.prog Rows.hexreadMergesRow.laid w) ∧ sizedMet enc Tryd.prog Tryd.f5 (OpenSpec.ofChange Rows.hexreadMergesSpec) false w args)
      (Rows.hexreadMergesSpec.post enc Tryd.prog Tryd.f5 false true false false) := by
  refine returnsInHanded_of_change_and (C := Tryd.checked) (X := fun w _ => laidMetH Tryd.prog Rows.hexreadMergesRow.laid w) (fun _ _ _ hh h => h.of_heap hh) own started (by kernel_rfl) Tryd.func5
    (ChangeSpec.witness_shaped (enc := enc) (C := Tryd.checked) (os := os) (X := fun w _ => laidMetH Tryd.prog Rows.hexreadMergesRow.laid w) false (World.laidAll Tryd.prog os Rows.hexreadMergesRow.laid) #[.slice none 0 0] 8 (World.laidAll_os _ _ _)
      (World.shaped_of_ZipB (by kernel_rfl) (by kernel_rfl)) (by kernel_rfl) (by kernel_rfl) (by kernel_rfl)
      (by rw [MakeChecks.laidMetH_plain _ _ _ (by kernel_rfl)]; exact laidMet_laidAll _ (by kernel_rfl) (by kernel_rfl))) ?_
  intro W base args ds gs before hval0 hW _ _ hL _
  have hval : ∀ (j : Nat) t v, Tryd.f5.params[j]? = some t → args[j]? = some v → Value.okWide Tryd.prog W .any base t v := hval0
  have hW' := hW
  obtain ⟨p, q, hA0, hV, rfl, _, _⟩ := hW
  have hA : DataW.TrodAll enc Tryd.prog W 0 (fun _ => true) true Tryd.f5.params.toList args.toList ds p := hA0
  rw [Tryd.params5] at hA hval
  obtain ⟨v0, vs0, d0, ds0, p0, q0, hargs, rfl, rfl, h0, r0⟩ := trodAll_cons hA
  obtain ⟨rfl, rfl, rfl⟩ := trodAll_nil r0
  obtain rfl : args = #[v0] := by cases args; simp_all
  obtain ⟨rfl, rfl⟩ := trodVars_none hV
  have k0 := h0
  have lt0 : ∀ x ∈ p0, x.block < W.heap.size := by obtain ⟨m, hm⟩ := k0; exact DataW.trod_lt m _ _ _ hm
  obtain ⟨a0, len0, cap0, rfl⟩ := okWide_slice Tryd.underlying43 (hval 0 43 v0 rfl rfl)
  obtain ⟨z0, hz0, hm0, w0, c0⟩ : ∃ xs, len0 = xs.length ∧ len0 ≤ maxLen ∧ StrsP (fun _ => True) W a0 xs ∧ ∀ s ∈ xs, s.size ≤ maxLen := by
    obtain ⟨fuel, hf⟩ := h0
    have hf' : DataW.trod enc Tryd.prog W 0 (fun _ => true) true fuel 43 [.slice a0 len0 cap0] = some (d0, p0) := by simpa [Value.cells] using hf
    obtain ⟨A, len, cap, xs, e1, e2, e3, e4, e5⟩ := open_strs hf'
    simp only [Value.slice.injEq] at e1
    obtain ⟨rfl, rfl, rfl⟩ := e1
    exact ⟨xs, e2, e3, e4, e5⟩
  subst hz0
  clear hA0 hval0
  refine (walk a0 cap0 z0 W hm0 w0 c0).mono fun e W' ⟨he, bel⟩ => ?_
  subst he
  exact ⟨_, rfl, _, _, _, [], _, [], hW', trodAll_mk1 (shut_bool Tryd.underlying4 _), (trodAll_cons_mk (Below.trod laidOut (by kernel_rfl) (of_decide_eq_true (by kernel_rfl)) k0 bel lt0) trodAll_mk0), rfl, bel.frame _, fun h => by cases h⟩

theorem over : Rows.HexreadMergesSaid :=
  OpenClaim.holds_of_wide 5 Tryd.f5 rfl rfl rfl rfl rfl rfl rfl ⟨rfl, rfl, rfl, rfl, rfl⟩ rfl rfl rfl rfl rfl (by kernel_rfl) Tryd.func5 (by kernel_rfl)
    (of_decide_eq_true (by kernel_rfl)) (by unfold Func.isWrapper; first | (rw [if_pos (by decide +kernel)]; kernel_rfl) | (rw [if_neg (by decide +kernel)]; exact ⟨rfl, rfl⟩))
    (fun os started H enc _ => lifted os started H enc)
theorem card_holds : Rows.HexreadMergesCardSaid :=
  Claim7.holds_tied_plain_at .later [] [.data, .pinned] true Rows.hexreadMergesCard.stood.harness false over (fun _ h => by cases h) (by kernel_rfl) (fun _ h => by cases h) hexreadMerges_row_tie rfl ⟨rfl, rfl⟩ (by kernel_rfl) rfl
    (fun f fn hf hfn => by
      obtain rfl : f = 5 := Option.some.inj ((show Tryd.prog.funcNamed "breadboard/breadboardlaw05.HexreadMerges" = some 5 by kernel_rfl).symm.trans hf) |>.symm
      obtain rfl : fn = Tryd.f5 := (Option.some.inj (Tryd.func5.symm.trans hfn)).symm
      exact ⟨by kernel_rfl, fun j t ht => by
        rw [Tryd.params5] at ht
        have hm : t ∈ [43] := by simpa [or_assoc, or_comm, or_left_comm] using Array.mem_of_getElem? ht
        have hall : ([43].all fun u => !Tryd.prog.wantsStandIn u) = true := by kernel_rfl
        exact (show Tryd.prog.wantsStandIn t = false by simpa using List.all_eq_true.1 hall t hm)⟩)
    (by kernel_rfl)
#print axioms card_holds
end Go.Proofs.YtmeegpdjhcilkaaDoor.hexreadMergesDone
