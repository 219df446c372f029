/-
  HexreadEnds, for every list of runs and every text behind: without its last line the text of Write is refused with the code of a missing end; with blank text behind it is accepted, with a line that is not blank refused, with the line's number; the law returns true, and its arguments read as they did.
  Conditions: none.
-/
import Derived.Test.YtmeegpdjhcilkaaDoorRdEs
import Derived.Test.YtmeegpdjhcilkaaDoorCards
import Derived.Test.YtmeegpdjhcilkaaDoorTie
import Derived.ProofKit
import Derived.OpenShut
import Derived.Lay
import Derived.LaidOnce
import Derived.SevenTiedAt
import Derived.Below
namespace Go.Proofs.YtmeegpdjhcilkaaDoor.hexreadEndsDone
open Go.ChangeShapes Go.WideShapes Go.ChangeAt Go.RowKit
open Go.ChangeMaps (open_string shut_string)
set_option linter.unusedVariables false

theorem own : ownKnob Tryd.prog.godebug = none := by kernel_rfl
theorem laidOut : laidOutB Tryd.prog = true := by kernel_rfl
/-- A slice of integers that came in: nil, or a row of 'cap' cells that hold the numbers 'zs'. -/
def IsRow (k : IntKind) (w : World) (a : Option Addr) (len cap : Nat) (zs : List Int) : Prop :=
  (a = none ∧ len = 0 ∧ cap = 0 ∧ zs = []) ∨
  ∃ x, a = some x ∧ len ≤ cap ∧ cap ≤ maxLen ∧ zs.length = cap ∧ (∀ i, i < zs.length → w.cell? (x.add i) = some (.int k (zs.getD i 0))) ∧ ∀ n ∈ zs, (Lit.int k n).wf = true

theorem first_line (x : List UInt8) : ∃ L u y t, linesOf x = y :: t ∧ x = joinL L ++ u ∧ (∀ z ∈ L, NoLf z) ∧ NoLf u ∧ (L.map strOf ++ [strOf u])[0]? = some (strOf y) := by
  obtain ⟨L, u, h1, h2, h3, h4⟩ := lines_last x
  cases L with
  | nil => exact ⟨[], u, u, [], h1, h2, h3, h4, rfl⟩
  | cons y t => exact ⟨y :: t, u, y, t ++ [u], h1, h2, h3, h4, rfl⟩
theorem strs_first {b : Nat} {ss : List ByteArray} {w : World} {Q : Nat → Prop} {s : ByteArray} (h : StrsP Q w (some ⟨b, 0, none⟩) ss) (hs : ss[0]? = some s) : w.cell? ⟨b, 0, none⟩ = some (.string s) ∧ 0 < ss.length := by
  obtain ⟨hj, rfl⟩ := List.getElem?_eq_some_iff.1 hs
  obtain ⟨g, off, hA, hc⟩ := h.at_ hj
  simp only [Option.some.injEq, Addr.mk.injEq, and_true] at hA
  obtain ⟨rfl, rfl⟩ := hA
  exact ⟨hc, hj⟩
set_option maxRecDepth 100000 in
set_option maxHeartbeats 8000000 in
theorem walk (A : Option Addr) (cap : Nat) (rs : List Im.R) (s : ByteArray) (w : World) (hm : rs.length ≤ maxLen) (hR : Im.RunsP (fun _ => True) (fun _ => True) w A rs) (hd : ∀ r ∈ rs, r.data.length ≤ maxLen) (hs : s.size ≤ maxLen) :
    Calls Tryd.prog 4 #[.slice A rs.length cap, .string s] w fun e w' => e = .returned (.bool true) ∧ Below w.heap.size w w' := by
  unfold maxLen at hs
  have hbd := build_any A cap rs hm w hR hd
  have Z := Lib.hid hR
  have HD := Lib.hid hd
  have HM := Lib.hid hm
  clear hR hd hm
  by_cases hlong : 200 < s.size
  case pos =>
    have hl' : (200 : Int) < (s.size : Int) := by omega
    go_enter Tryd.func4, Tryd.ntmps4
    go_wp2_with fail
    refine hbd.mono ?_
    rintro e w1 ⟨h1, h2, h3⟩
    have B1 := Lib.hid h3
    cases hf : Im.fewB rs
    case' true => obtain ⟨b, A', cap', rfl, -, -, -⟩ := h2 hf
    case' false => obtain rfl := h1 hf
    all_goals
      clear h1 h2 h3 hf hbd
      go_wp2_with fail
      refine (alive5_any _).mono ?_
      rintro e w2 ⟨rfl, hb2⟩
      have B2 : Hid (Below w.heap.size w w2) := B1.out.trans (hb2.mono B1.out.size)
      clear hb2
      go_wp2
      go_ret
      exact ⟨rfl, B2.out⟩
  have hl' : decide ((200 : Int) < (s.size : Int)) = false := decide_eq_false (by omega)
  have hsb : s.size ≤ 200 := by omega
  clear hlong hs
  go_enter Tryd.func4, Tryd.ntmps4
  go_wp2_with fail
  refine hbd.mono ?_
  rintro e w1 ⟨h1, h2, h3⟩
  cases hf : Im.fewB rs
  case false =>
    obtain rfl := h1 hf
    have B1 := Lib.hid h3
    have FH := Lib.hid hf
    clear h1 h2 h3 hf hbd
    go_wp2_with fail
    refine (alive5_any _).mono ?_
    rintro e w2 ⟨rfl, hb2⟩
    have hfw2 := Im.fewAll_any _ _ A cap rs HM.out w2 ((Z.out.below B1.out).below hb2) HD.out
    rw [FH.out] at hfw2
    have B2 : Hid (Below w.heap.size w w2) := B1.out.trans (hb2.mono B1.out.size)
    clear hb2
    go_wp2_with fail
    refine hfw2.mono ?_
    rintro e w3 ⟨rfl, rfl⟩
    clear hfw2
    go_wp2
    go_ret
    exact ⟨rfl, B2.out⟩
  case true =>
    obtain ⟨b, A', cap', rfl, -, hI, hC⟩ := h2 hf
    have B1 := Lib.hid h3
    have I1 := Lib.hid hI
    have hrw := rwrite_any _ A' cap' (allW rs) hI.1 w1 hC
    clear h1 h2 h3 hf hbd hI hC Z HD HM
    obtain ⟨V, hV⟩ : ∃ V, allW rs = V := ⟨_, rfl⟩
    rw [hV] at I1 hrw ⊢
    clear hV
    have VS := Lib.hid I1.out.1
    obtain ⟨x, hx⟩ : ∃ x, strOf x = s := ⟨s.data.toList, list_strOf s⟩
    have hxl : x.length ≤ 200 := by have h := strOf_size x; rw [hx] at h; omega
    have htl := text_tight VS.out
    have hcnt := fun w => count_any (strOf (textW 16 V)) w
    rw [strOf_list, text_count] at hcnt
    obtain ⟨n, hn⟩ : ∃ n, (recsW 16 V).length + 1 = n := ⟨_, rfl⟩
    rw [hn] at hcnt
    have hnb : n ≤ 65537 := by
      have h4 := recs_length (s := 16) (by omega) (by omega) VS.out
      have h5 := Im.sorted_length VS.out
      omega
    have hts := text_split V
    have hyl : (joinL ((recsW 16 V).map lineB)).length ≤ 40000000 := by
      have h := congrArg List.length hts
      rw [List.length_append] at h
      omega
    have htr := fun w => trimEnd_any (joinL ((recsW 16 V).map lineB)) [58, 48, 48, 48, 48, 48, 48, 48, 49, 70, 70, 10] (by rw [← hts]; unfold maxLen; omega) w
    rw [← hts] at htr
    rw [show strOf [58, 48, 48, 48, 48, 48, 48, 48, 49, 70, 70, 10] = ⟨#[58, 48, 48, 48, 48, 48, 48, 48, 49, 70, 70, 10]⟩ from rfl] at htr
    have hr1 := fun w => hread_any (joinL ((recsW 16 V).map lineB)) hyl w
    rw [read_less (s := 16) (by omega) (by omega) VS.out] at hr1
    have hr2 := fun w => hread_any (textW 16 V ++ x) (by rw [List.length_append]; omega) w
    rw [read_more (s := 16) (by omega) (by omega) VS.out, hn] at hr2
    have happ : strOf (textW 16 V) ++ s = strOf (textW 16 V ++ x) := by
      rw [← hx]
      apply bytes_ext
      simp [append_data, strOf_list]
    obtain ⟨L, u, y, tl, g1, g2, g3, g4, g5⟩ := first_line x
    have hsp := fun w => split_lines L u g3 g4 (by rw [← g2]; omega) w
    rw [← g2, hx] at hsp
    have hyx : y.length ≤ 40000000 ∧ ∀ c ∈ y, c ∈ x := by
      have hy : y ∈ linesOf x := by rw [g1]; simp
      exact ⟨Nat.le_trans (lines_len y hy) (by omega), fun c hc => line_sub hy hc⟩
    have htr2 := fun w => trimR13_any y hyx.1 w
    have F1 : x.all (([32, 9, 10] : List UInt8).contains ·) = true → readL n V true (linesOf x) = (V, 0, 0) := fun h => readL_true (lines_blank h)
    have F2 : (∀ c ∈ x, c ≠ 13) → blankL y = false → readL n V true (linesOf x) = ([], (n : Int) + 1, 9) := fun h h2 => by
      rw [g1]
      refine readL_after ?_
      unfold lnBlank
      rw [trimC_no13 fun c hc => h c (hyx.2 c hc)]
      exact h2
    have hct := fun w => contains13_any x w
    rw [hx] at hct
    have hbl : ∀ w, Calls Tryd.prog 20 #[.string s, .string ⟨#[32, 9, 10]⟩] w fun e w' => e = .returned (.string (trimS [32, 9, 10] s)) ∧ Below w.heap.size w w' := fun w => trim_any [32, 9, 10] (by decide) (by decide) (by decide) s (by unfold maxLen; omega) w
    have hbe := trimS_nil [32, 9, 10] s
    rw [show s.data.toList = x by rw [← hx, strOf_list]] at hbe
    obtain ⟨q, hq⟩ : ∃ q, x.all (([32, 9, 10] : List UInt8).contains ·) = q := ⟨_, rfl⟩
    rw [hq] at hbe F1
    obtain ⟨tb, htb⟩ : ∃ tb, trimS [32, 9, 10] s = tb := ⟨_, rfl⟩
    simp only [htb] at hbl
    rw [htb] at hbe
    obtain ⟨t, ht⟩ : ∃ t, strOf (textW 16 V) = t := ⟨_, rfl⟩
    have hsz1 : t.size ≤ 39500000 := by rw [← ht, strOf_size]; exact htl
    obtain ⟨t1, ht1⟩ : ∃ t, strOf (joinL ((recsW 16 V).map lineB)) = t := ⟨_, rfl⟩
    obtain ⟨t2, ht2⟩ : ∃ t, strOf (textW 16 V ++ x) = t := ⟨_, rfl⟩
    obtain ⟨r, hr⟩ : ∃ r, readL n V true (linesOf x) = r := ⟨_, rfl⟩
    rw [ht] at hrw hcnt htr happ
    rw [ht1] at htr hr1
    rw [ht2] at hr2 happ
    rw [hr] at hr2 F1 F2
    obtain ⟨R, l, c⟩ := r
    have FF1 := Lib.hid F1
    have FF2 := Lib.hid F2
    have SB := Lib.hid (And.intro hyx.1 g5)
    have HY := Lib.hid hyx.2
    have hlen : (L.map strOf ++ [strOf u]).length = L.length + 1 := by simp
    have HX := Lib.hid hx
    clear F1 F2 htl hn hts hyl hx hxl g1 g2 g3 g4 g5 hyx hq htb ht ht1 ht2 hr
    go_wp2_with fail
    refine hrw.mono ?_
    rintro e w2 ⟨rfl, hb2⟩
    have K2 : Hid (Below w1.heap.size w1 w2) := hb2
    clear hb2 hrw
    go_wp2_with fail
    refine (hcnt _).mono ?_
    rintro e w' ⟨rfl, rfl⟩
    go_wp2_with fail
    refine (htr _).mono ?_
    rintro e w' ⟨rfl, rfl⟩
    go_wp2_with fail
    refine (hr1 _).mono ?_
    rintro e w3 ⟨-, k1, k2⟩
    obtain rfl := k1 (by decide)
    have K3 : Hid (Below w1.heap.size w1 (w3.alloc (.cells #[.int .i64 0, .int .i64 8] 31))) := (K2.out.trans (k2.mono K2.out.size)).alloc (Nat.le_trans K2.out.size k2.size) _
    have T3 : Hid (Two (w3.alloc (.cells #[.int .i64 0, .int .i64 8] 31)) w3.heap.size 31 (.int .i64 0) (.int .i64 8)) := World.alloc_heap_new _ _
    clear k1 k2 hr1 hcnt htr
    go_wp2_with fail
    refine (hr2 _).mono ?_
    rintro e w4 ⟨k1, k2, k3⟩
    have T4 : Hid (Two w4 w3.heap.size 31 (.int .i64 0) (.int .i64 8)) := (k3.block _ T3.out.lt).trans T3.out
    have K4 : Hid (Below w1.heap.size w1 w4) := K3.out.trans (k3.mono K3.out.size)
    by_cases hc : c = 0
    case pos =>
      subst hc
      obtain ⟨b2, rfl, -, hJ⟩ := k1 rfl
      have al : Below w4.heap.size w4 (w4.alloc (.cells #[.int .i64 0, .int .i64 0] 31)) := (Below.refl _ _).alloc (Nat.le_refl _) _
      have F5 : Hid (Two (w4.alloc (.cells #[.int .i64 0, .int .i64 0] 31)) w4.heap.size 31 (.int .i64 0) (.int .i64 0)) := World.alloc_heap_new _ _
      have T5 : Hid (Two (w4.alloc (.cells #[.int .i64 0, .int .i64 0] 31)) w3.heap.size 31 (.int .i64 0) (.int .i64 8)) := (al.block _ T4.out.lt).trans T4.out
      have K5 : Hid (Below w1.heap.size w1 (w4.alloc (.cells #[.int .i64 0, .int .i64 0] 31))) := K4.out.trans (al.mono K4.out.size)
      have J5 := Lib.hid (hJ.below al)
      have hsp' := hsp (w4.alloc (.cells #[.int .i64 0, .int .i64 0] 31))
      clear k1 k2 k3 al T3 T4 K3 K4 hr2 hJ
      go_wp2_with fail
      refine hsp'.mono ?_
      rintro e w6 ⟨sb, scap, rfl, -, hS, hb6⟩
      obtain ⟨sc, -⟩ := strs_first hS SB.out.2
      have F6 : Hid (Two w6 w4.heap.size 31 (.int .i64 0) (.int .i64 0)) := (hb6.block _ F5.out.lt).trans F5.out
      have T6 : Two w6 w3.heap.size 31 (.int .i64 0) (.int .i64 8) := (hb6.block _ T5.out.lt).trans T5.out
      have K6 : Hid (Below w1.heap.size w1 w6) := K5.out.trans (hb6.mono K5.out.size)
      have J6 := Lib.hid (J5.out.below hb6)
      have a0 := T6.c0
      have a1 := T6.c1
      rw [hlen]
      obtain ⟨D1, hD1⟩ : ∃ D, w3.heap.size = D := ⟨_, rfl⟩
      obtain ⟨D2, hD2⟩ : ∃ D, w4.heap.size = D := ⟨_, rfl⟩
      rw [hD1] at a0 a1
      rw [hD2] at F6
      rw [hD1, hD2]
      clear hsp hsp' hS hb6 T6 T5 F5 K5 hlen hD1 hD2 J5
      go_wp2_with fail
      refine (htr2 _).mono ?_
      rintro e w' ⟨z, rfl, z1, z2, rfl⟩
      have Z1 := Lib.hid z1
      have Z2 := Lib.hid z2
      clear z1 z2 htr2 sc
      go_wp2_with fail
      refine (hbl _).mono ?_
      rintro e w7 ⟨rfl, hb7⟩
      have F7 : Hid (Two w7 D2 31 (.int .i64 0) (.int .i64 0)) := (hb7.block _ F6.out.lt).trans F6.out
      have K7 : Hid (Below w1.heap.size w1 w7) := K6.out.trans (hb7.mono K6.out.size)
      have J7 := Lib.hid (J6.out.below hb7)
      have htz := fun w => trim_any [32, 9] (by decide) (by decide) (by decide) (strOf z) (by rw [strOf_size]; have := Z1.out; have := SB.out.1; unfold maxLen; omega) w
      have hze := trimS_nil [32, 9] (strOf z)
      rw [strOf_list, blank_of] at hze
      rw [show strOf [32, 9] = ⟨#[32, 9]⟩ from rfl] at htz
      obtain ⟨zb, hzb⟩ : ∃ zb, trimS [32, 9] (strOf z) = zb := ⟨_, rfl⟩
      simp only [hzb] at htz
      rw [hzb] at hze
      clear hb7 a0 a1 F6 K6 hzb J6
      cases q
      case true =>
        have ER := FF1.out rfl
        obtain rfl : R = V := (Prod.ext_iff.1 ER).1
        clear ER htz hze
        go_wp2_with fail
        refine (alive5_any _).mono ?_
        rintro e w8 ⟨rfl, hb8⟩
        have F8 : Hid (Two w8 D2 31 (.int .i64 0) (.int .i64 0)) := (hb8.block _ F7.out.lt).trans F7.out
        have K8 : Hid (Below w1.heap.size w1 w8) := K7.out.trans (hb8.mono K7.out.size)
        have a0 := F8.out.c0
        have a1 := F8.out.c1
        have J8 := Lib.hid (J7.out.below hb8)
        clear hb8
        have hsm := Im.isame_any b2 b R R w8 J8.out (I1.out.below K8.out)
        rw [decide_eq_true (rfl : R = R)] at hsm
        have BF : Hid (Below w.heap.size w w8.drew) := (B1.out.trans (K8.out.mono B1.out.size)).drew
        go_wp2_with fail
        refine hsm.mono ?_
        rintro e w9 ⟨rfl, rfl⟩
        clear hsm
        go_wp2
        go_ret
        exact ⟨rfl, BF.out⟩
      case false =>
        go_wp2_with fail
        refine (htz _).mono ?_
        rintro e w8 ⟨rfl, hb8⟩
        have F8 : Hid (Two w8 D2 31 (.int .i64 0) (.int .i64 0)) := (hb8.block _ F7.out.lt).trans F7.out
        have K8 : Hid (Below w1.heap.size w1 w8) := K7.out.trans (hb8.mono K7.out.size)
        have J8 := Lib.hid (J7.out.below hb8)
        obtain ⟨p, hp⟩ : ∃ p, blankL z = p := ⟨_, rfl⟩
        rw [hp] at hze
        have HP := Lib.hid hp
        clear hb8 htz hp
        cases p
        case true =>
          go_wp2_with fail
          refine (alive5_any _).mono ?_
          rintro e w9 ⟨rfl, hb9⟩
          have F9 : Hid (Two w9 D2 31 (.int .i64 0) (.int .i64 0)) := (hb9.block _ F8.out.lt).trans F8.out
          have K9 : Hid (Below w1.heap.size w1 w9) := K8.out.trans (hb9.mono K8.out.size)
          have a0 := F9.out.c0
          have a1 := F9.out.c1
          have J9 := Lib.hid (J8.out.below hb9)
          clear hb9
          have BF : Hid (Below w.heap.size w w9) := B1.out.trans (K9.out.mono B1.out.size)
          go_wp2
          go_ret
          exact ⟨rfl, BF.out⟩
        case false =>
          go_wp2_with fail
          refine (hct _).mono ?_
          rintro e w' ⟨h, rfl, h2, rfl⟩
          have H2 := Lib.hid h2
          clear h2
          cases h
          case true =>
            go_wp2_with fail
            refine (alive5_any _).mono ?_
            rintro e w9 ⟨rfl, hb9⟩
            have F9 : Hid (Two w9 D2 31 (.int .i64 0) (.int .i64 0)) := (hb9.block _ F8.out.lt).trans F8.out
            have K9 : Hid (Below w1.heap.size w1 w9) := K8.out.trans (hb9.mono K8.out.size)
            have a0 := F9.out.c0
            have a1 := F9.out.c1
            have J9 := Lib.hid (J8.out.below hb9)
            clear hb9
            have BF : Hid (Below w.heap.size w w9) := B1.out.trans (K9.out.mono B1.out.size)
            go_wp2
            go_ret
            exact ⟨rfl, BF.out⟩
          case false =>
            have no13 := H2.out rfl
            have hzy : z = y := Z2.out fun c hc => no13 c (HY.out c hc)
            have ER := FF2.out no13 (by rw [← hzy]; exact HP.out)
            have e9 := (Prod.ext_iff.1 (Prod.ext_iff.1 ER).2).2
            exact absurd (show (0 : Int) = 9 from e9) (by decide)
    case neg =>
      obtain rfl := k2 hc
      have HC := Lib.hid hc
      have n1 : (c == 0) = false := beq_eq_false_iff_ne.2 hc
      have n2 : (c != 0) = true := by unfold bne; rw [n1]; rfl
      have al : Below w4.heap.size w4 (w4.alloc (.cells #[.int .i64 l, .int .i64 c] 31)) := (Below.refl _ _).alloc (Nat.le_refl _) _
      have F5 : Hid (Two (w4.alloc (.cells #[.int .i64 l, .int .i64 c] 31)) w4.heap.size 31 (.int .i64 l) (.int .i64 c)) := World.alloc_heap_new _ _
      have T5 : Hid (Two (w4.alloc (.cells #[.int .i64 l, .int .i64 c] 31)) w3.heap.size 31 (.int .i64 0) (.int .i64 8)) := (al.block _ T4.out.lt).trans T4.out
      have K5 : Hid (Below w1.heap.size w1 (w4.alloc (.cells #[.int .i64 l, .int .i64 c] 31))) := K4.out.trans (al.mono K4.out.size)
      have hsp' := hsp (w4.alloc (.cells #[.int .i64 l, .int .i64 c] 31))
      clear k1 k2 k3 al T3 T4 K3 K4 hr2 hc
      go_wp2_with fail
      refine hsp'.mono ?_
      rintro e w6 ⟨sb, scap, rfl, -, hS, hb6⟩
      obtain ⟨sc, -⟩ := strs_first hS SB.out.2
      have F6 : Hid (Two w6 w4.heap.size 31 (.int .i64 l) (.int .i64 c)) := (hb6.block _ F5.out.lt).trans F5.out
      have T6 : Two w6 w3.heap.size 31 (.int .i64 0) (.int .i64 8) := (hb6.block _ T5.out.lt).trans T5.out
      have K6 : Hid (Below w1.heap.size w1 w6) := K5.out.trans (hb6.mono K5.out.size)
      have a0 := T6.c0
      have a1 := T6.c1
      rw [hlen]
      obtain ⟨D1, hD1⟩ : ∃ D, w3.heap.size = D := ⟨_, rfl⟩
      obtain ⟨D2, hD2⟩ : ∃ D, w4.heap.size = D := ⟨_, rfl⟩
      rw [hD1] at a0 a1
      rw [hD2] at F6
      rw [hD1, hD2]
      clear hsp hsp' hS hb6 T6 T5 F5 K5 hlen hD1 hD2
      go_wp2_with fail
      refine (htr2 _).mono ?_
      rintro e w' ⟨z, rfl, z1, z2, rfl⟩
      have Z1 := Lib.hid z1
      have Z2 := Lib.hid z2
      clear z1 z2 htr2 sc
      go_wp2_with fail
      refine (hbl _).mono ?_
      rintro e w7 ⟨rfl, hb7⟩
      have F7 : Hid (Two w7 D2 31 (.int .i64 l) (.int .i64 c)) := (hb7.block _ F6.out.lt).trans F6.out
      have K7 : Hid (Below w1.heap.size w1 w7) := K6.out.trans (hb7.mono K6.out.size)
      have htz := fun w => trim_any [32, 9] (by decide) (by decide) (by decide) (strOf z) (by rw [strOf_size]; have := Z1.out; have := SB.out.1; unfold maxLen; omega) w
      have hze := trimS_nil [32, 9] (strOf z)
      rw [strOf_list, blank_of] at hze
      rw [show strOf [32, 9] = ⟨#[32, 9]⟩ from rfl] at htz
      obtain ⟨zb, hzb⟩ : ∃ zb, trimS [32, 9] (strOf z) = zb := ⟨_, rfl⟩
      simp only [hzb] at htz
      rw [hzb] at hze
      clear hb7 a0 a1 F6 K6 hzb
      cases q
      case true =>
        have ER := FF1.out rfl
        exact absurd (Prod.ext_iff.1 (Prod.ext_iff.1 ER).2).2 HC.out
      case false =>
        go_wp2_with fail
        refine (htz _).mono ?_
        rintro e w8 ⟨rfl, hb8⟩
        have F8 : Hid (Two w8 D2 31 (.int .i64 l) (.int .i64 c)) := (hb8.block _ F7.out.lt).trans F7.out
        have K8 : Hid (Below w1.heap.size w1 w8) := K7.out.trans (hb8.mono K7.out.size)
        obtain ⟨p, hp⟩ : ∃ p, blankL z = p := ⟨_, rfl⟩
        rw [hp] at hze
        have HP := Lib.hid hp
        clear hb8 htz hp
        cases p
        case true =>
          go_wp2_with fail
          refine (alive5_any _).mono ?_
          rintro e w9 ⟨rfl, hb9⟩
          have F9 : Hid (Two w9 D2 31 (.int .i64 l) (.int .i64 c)) := (hb9.block _ F8.out.lt).trans F8.out
          have K9 : Hid (Below w1.heap.size w1 w9) := K8.out.trans (hb9.mono K8.out.size)
          have a0 := F9.out.c0
          have a1 := F9.out.c1
          clear hb9
          have BF : Hid (Below w.heap.size w w9) := B1.out.trans (K9.out.mono B1.out.size)
          go_wp2
          go_ret
          exact ⟨rfl, BF.out⟩
        case false =>
          go_wp2_with fail
          refine (hct _).mono ?_
          rintro e w' ⟨h, rfl, h2, rfl⟩
          have H2 := Lib.hid h2
          clear h2
          cases h
          case true =>
            go_wp2_with fail
            refine (alive5_any _).mono ?_
            rintro e w9 ⟨rfl, hb9⟩
            have F9 : Hid (Two w9 D2 31 (.int .i64 l) (.int .i64 c)) := (hb9.block _ F8.out.lt).trans F8.out
            have K9 : Hid (Below w1.heap.size w1 w9) := K8.out.trans (hb9.mono K8.out.size)
            have a0 := F9.out.c0
            have a1 := F9.out.c1
            clear hb9
            have BF : Hid (Below w.heap.size w w9) := B1.out.trans (K9.out.mono B1.out.size)
            go_wp2
            go_ret
            exact ⟨rfl, BF.out⟩
          case false =>
            have no13 := H2.out rfl
            have hzy : z = y := Z2.out fun c hc => no13 c (HY.out c hc)
            have ER := FF2.out no13 (by rw [← hzy]; exact HP.out)
            obtain rfl : c = 9 := (Prod.ext_iff.1 (Prod.ext_iff.1 ER).2).2
            obtain rfl : l = (n : Int) + 1 := (Prod.ext_iff.1 (Prod.ext_iff.1 ER).2).1
            clear ER no13 hzy
            go_wp2_with fail
            refine (alive5_any _).mono ?_
            rintro e w9 ⟨rfl, hb9⟩
            have F9 : Hid (Two w9 D2 31 (.int .i64 ((n : Int) + 1)) (.int .i64 9)) := (hb9.block _ F8.out.lt).trans F8.out
            have K9 : Hid (Below w1.heap.size w1 w9) := K8.out.trans (hb9.mono K8.out.size)
            have a0 := F9.out.c0
            have a1 := F9.out.c1
            clear hb9
            have BF : Hid (Below w.heap.size w w9) := B1.out.trans (K9.out.mono B1.out.size)
            go_wp2
            go_ret
            exact ⟨rfl, BF.out⟩

set_option maxRecDepth 100000 in
theorem lifted (os : Os) (started : os.Started) (H : Type) (enc : TypeId × Value → H) :
    ReturnsInHanded {} Tryd.checked os 4 .any (fun w args => (Rows.hexreadEndsSpec.pre enc Tryd.prog Tryd.f4 [] false w args ∧ laidMetH Tryd.prog Rows.hexreadEndsRow.laid w) ∧ sizedMet enc Tryd.prog Tryd.f4 (OpenSpec.ofChange Rows.hexreadEndsSpec) false w args)
      (Rows.hexreadEndsSpec.post enc Tryd.prog Tryd.f4 false true false false) := by
  refine returnsInHanded_of_change_and (C := Tryd.checked) (X := fun w _ => laidMetH Tryd.prog Rows.hexreadEndsRow.laid w) (fun _ _ _ hh h => h.of_heap hh) own started (by kernel_rfl) Tryd.func4
    (ChangeSpec.witness_shaped (enc := enc) (C := Tryd.checked) (os := os) (X := fun w _ => laidMetH Tryd.prog Rows.hexreadEndsRow.laid w) false (World.laidAll Tryd.prog os Rows.hexreadEndsRow.laid) #[.slice none 0 0, .string ⟨#[]⟩] 8 (World.laidAll_os _ _ _)
      (World.shaped_of_ZipB (by kernel_rfl) (by kernel_rfl)) (by kernel_rfl) (by kernel_rfl) (by kernel_rfl)
      (by rw [MakeChecks.laidMetH_plain _ _ _ (by kernel_rfl)]; exact laidMet_laidAll _ (by kernel_rfl) (by kernel_rfl))) ?_
  intro W base args ds gs before hval0 hW _ _ hL _
  have hval : ∀ (j : Nat) t v, Tryd.f4.params[j]? = some t → args[j]? = some v → Value.okWide Tryd.prog W .any base t v := hval0
  have hW' := hW
  obtain ⟨p, q, hA0, hV, rfl, _, _⟩ := hW
  have hA : DataW.TrodAll enc Tryd.prog W 0 (fun _ => true) true Tryd.f4.params.toList args.toList ds p := hA0
  rw [Tryd.params4] at hA hval
  obtain ⟨v0, vs0, d0, ds0, p0, q0, hargs, rfl, rfl, h0, r0⟩ := trodAll_cons hA
  obtain ⟨v1, vs1, d1, ds1, p1, q1, rfl, rfl, rfl, h1, r1⟩ := trodAll_cons r0
  obtain ⟨rfl, rfl, rfl⟩ := trodAll_nil r1
  obtain rfl : args = #[v0, v1] := by cases args; simp_all
  obtain ⟨rfl, rfl⟩ := trodVars_none hV
  have k0 := h0
  have lt0 : ∀ x ∈ p0, x.block < W.heap.size := by obtain ⟨m, hm⟩ := k0; exact DataW.trod_lt m _ _ _ hm
  obtain ⟨a0, len0, cap0, rfl⟩ := okWide_slice Tryd.underlying22 (hval 0 22 v0 rfl rfl)
  obtain ⟨z0, hz0, hm0, w0, d0'⟩ : ∃ rs, len0 = rs.length ∧ len0 ≤ maxLen ∧ Im.RunsP (fun _ => True) (fun _ => True) W a0 rs ∧ ∀ r ∈ rs, r.data.length ≤ maxLen := by
    obtain ⟨fuel, hf⟩ := h0
    have hf' : DataW.trod enc Tryd.prog W 0 (fun _ => true) true fuel 22 [.slice a0 len0 cap0] = some (d0, p0) := by simpa [Value.cells] using hf
    obtain ⟨A, len, cap, rs, e1, e2, e3, e4, e5⟩ := Im.open_runs hf'
    simp only [Value.slice.injEq] at e1
    obtain ⟨rfl, rfl, rfl⟩ := e1
    exact ⟨rs, e2, e3, e4, e5⟩
  subst hz0
  obtain ⟨s1, rfl, rfl, rfl, w1⟩ := open_string Tryd.underlying9 (hval 1 9 v1 rfl rfl) h1
  clear hA0 hval0
  refine (walk a0 cap0 z0 s1 W hm0 w0 d0' w1).mono fun e W' ⟨he, bel⟩ => ?_
  subst he
  exact ⟨_, rfl, _, _, _, [], _, [], hW', trodAll_mk1 (shut_bool Tryd.underlying4 _), (trodAll_cons_mk (Below.trod laidOut (by kernel_rfl) (of_decide_eq_true (by kernel_rfl)) k0 bel lt0) (trodAll_cons_mk (shut_string Tryd.underlying9 w1) trodAll_mk0)), rfl, bel.frame _, fun h => by cases h⟩

theorem over : Rows.HexreadEndsSaid :=
  OpenClaim.holds_of_wide 4 Tryd.f4 rfl rfl rfl rfl rfl rfl rfl ⟨rfl, rfl, rfl, rfl, rfl⟩ rfl rfl rfl rfl rfl (by kernel_rfl) Tryd.func4 (by kernel_rfl)
    (of_decide_eq_true (by kernel_rfl)) (by unfold Func.isWrapper; first | (rw [if_pos (by decide +kernel)]; kernel_rfl) | (rw [if_neg (by decide +kernel)]; exact ⟨rfl, rfl⟩))
    (fun os started H enc _ => lifted os started H enc)
theorem card_holds : Rows.HexreadEndsCardSaid :=
  Claim7.holds_tied_plain_at .later [] [.data, .pinned] true Rows.hexreadEndsCard.stood.harness false over (fun _ h => by cases h) (by kernel_rfl) (fun _ h => by cases h) hexreadEnds_row_tie rfl ⟨rfl, rfl⟩ (by kernel_rfl) rfl
    (fun f fn hf hfn => by
      obtain rfl : f = 4 := Option.some.inj ((show Tryd.prog.funcNamed "breadboard/breadboardlaw05.HexreadEnds" = some 4 by kernel_rfl).symm.trans hf) |>.symm
      obtain rfl : fn = Tryd.f4 := (Option.some.inj (Tryd.func4.symm.trans hfn)).symm
      exact ⟨by kernel_rfl, fun j t ht => by
        rw [Tryd.params4] at ht
        have hm : t ∈ [22, 9] := by simpa [or_assoc, or_comm, or_left_comm] using Array.mem_of_getElem? ht
        have hall : ([22, 9].all fun u => !Tryd.prog.wantsStandIn u) = true := by kernel_rfl
        exact (show Tryd.prog.wantsStandIn t = false by simpa using List.all_eq_true.1 hall t hm)⟩)
    (by kernel_rfl)
#print axioms card_holds
end Go.Proofs.YtmeegpdjhcilkaaDoor.hexreadEndsDone
