/-
  RsA, RsB, RsC, RsD: texts joined to one.
-/
import Derived.Test.YtipgecdfnbldnaaGreatDoorMRfZ
import Derived.Test.YtipgecdfnbldnaaGreatDoorTaX
import Derived.Test.YtipgecdfnbldnaaGreatDoorTaG
import Derived.Deep.DeepCutAuto
import Derived.Deep.Cut
import Derived.StillTail
import Derived.StillTailTactics
import Derived.Deep.RegionHeld3
import Derived.RegionTactic
import Derived.Test.YtipgecdfnbldnaaGreatDoorMRfX
import Derived.Test.YtipgecdfnbldnaaGreatDoorBaD
set_option linter.all false
/-
  Entries compared by the reference; instr.Same at any two instructions; the reference's Size.
-/
namespace Go.Proofs.YtipgecdfnbldnaaGreatDoor
open Go.RowKit Go.Shelf
set_option linter.unusedVariables false

theorem al2 (w : World) (o1 o2 : Obj) : Below w.heap.size w ((w.alloc o1).alloc o2) := (up_alloc w o1).alloc (by simp) o2
set_option maxRecDepth 100000 in
set_option maxHeartbeats 4000000 in
theorem rsameE_any (page op : Int) (m ex : Str) (al : Bool) (A1 A2 : Option Addr) (c1 c2 : Nat) (L : List Tr) (hL : L.length ≤ 1000) (w : World) (H1 : OpsP w A1 L) (H2 : OpsP w A2 L) :
    Calls Tryz.prog 9 #[enV page op m (.slice A1 L.length c1) ex al, enV page op m (.slice A2 L.length c2) ex al] w fun e w' => e = .returned (.bool true) ∧ Below w.heap.size w w' := by
  have hq := strB_eq (sB ex)
  have SM := Lib.hid (fun o1 o2 => rsame_any m m A1 A2 c1 c2 L L hL hL ((w.alloc o1).alloc o2) (H1.below (al2 w o1 o2)) (H2.below (al2 w o1 o2)))
  obtain ⟨n, hn⟩ : ∃ n, L.length = n := ⟨_, rfl⟩
  rw [hn] at SM ⊢
  have UU := Lib.hid (al2 w)
  clear H1 H2 hn
  unfold enV
  cases al
  all_goals
    go_enter Tryz.func9, Tryz.ntmps9
    go_wp2_with fail
    refine (SM.out _ _).mono ?_
    rintro e w3 ⟨rfl, hb3⟩
    have B3 : Hid (Below w.heap.size w w3) := up (UU.out _ _) hb3
    simp only [decide_true, Bool.and_self]
    clear SM hb3
    go_wp2
    go_ret
    exact ⟨rfl, B3.out⟩
set_option maxRecDepth 100000 in
set_option maxHeartbeats 4000000 in
theorem isameG_any (m1 m2 : Str) (A1 A2 : Option Addr) (c1 c2 : Nat) (L1 L2 : List Tr) (h1 : L1.length ≤ 1000) (h2 : L2.length ≤ 1000) (w : World) (H1 : OpsP w A1 L1) (H2 : OpsP w A2 L2) :
    Calls Tryz.prog 38 #[.agg #[.string (sB m1), .slice A1 L1.length c1], .agg #[.string (sB m2), .slice A2 L2.length c2]] w fun e w' => e = .returned (.bool (decide (m1 = m2) && decide (L1 = L2))) ∧ Below w.heap.size w w' := by
  have UU := Lib.hid (al2 w)
  by_cases hm : m1 = m2
  · subst hm
    have hq := strB_eq (sB m1)
    have EQ := Lib.hid (fun o1 o2 => equalO_any A1 A2 c1 c2 L1 L2 (by unfold maxLen; omega) (by unfold maxLen; omega) ((w.alloc o1).alloc o2) (H1.below (al2 w o1 o2)) (H2.below (al2 w o1 o2)))
    obtain ⟨d, hd⟩ : ∃ d, decide (L1 = L2) = d := ⟨_, rfl⟩
    obtain ⟨n1, hn1⟩ : ∃ n, L1.length = n := ⟨_, rfl⟩
    obtain ⟨n2, hn2⟩ : ∃ n, L2.length = n := ⟨_, rfl⟩
    rw [hd, hn1, hn2] at EQ
    rw [hd, hn1, hn2, decide_eq_true rfl, Bool.true_and]
    clear H1 H2 hd hn1 hn2 h1 h2
    go_enter Tryz.func38, Tryz.ntmps38
    go_wp2_with fail
    refine (EQ.out _ _).mono ?_
    rintro e w3 ⟨rfl, hb3⟩
    have B3 : Hid (Below w.heap.size w w3) := up (UU.out _ _) hb3
    clear EQ hb3
    go_wp2
    go_ret
    exact ⟨rfl, B3.out⟩
  · have hq := sB_ne m1 m2 hm
    rw [decide_eq_false hm, Bool.false_and]
    clear H1 H2
    go_enter Tryz.func38, Tryz.ntmps38
    go_wp2
    go_ret
    exact ⟨rfl, UU.out _ _⟩
/-- The bytes of the first k letters. -/
def rsumN (l : Str) : Nat → Nat
  | 0 => 0
  | k + 1 => if l[k]?.getD 0 = 119 then rsumN l k + 2 else rsumN l k + 1
theorem rsumN_le (l : Str) : ∀ k, rsumN l k ≤ 2 * k
  | 0 => Nat.le_refl _
  | k + 1 => by
    have := rsumN_le l k
    unfold rsumN
    split <;> omega
def rsizeT (page : Int) (ex : Str) : Nat := (preS page).length + 1 + rsumN ex ex.length
set_option maxRecDepth 100000 in
set_option maxHeartbeats 4000000 in
theorem rsize_any (page op : Int) (m : Str) (A : Option Addr) (n cap : Nat) (ex : Str) (hx : ex.length ≤ 1000) (al : Bool) (w : World) :
    Calls Tryz.prog 12 #[enV page op m (.slice A n cap) ex al] w fun e w' => e = .returned (.int .i64 (rsizeT page ex : Nat)) ∧ Below w.heap.size w w' := by
  unfold enV
  obtain ⟨s, hs⟩ : ∃ s, sB ex = s := ⟨_, rfl⟩
  have hz : s.size = ex.length := by rw [← hs, sB_size]
  have hat : ∀ k (h : k < s.size) (h' : k < ex.length), s[k] = ex[k] := fun k h h' => by subst hs; exact sB_at ex k h h'
  have HAT := Lib.hid hat
  obtain ⟨l, hl⟩ : ∃ l, ex.length = l := ⟨_, rfl⟩
  have HL := Lib.hid hl
  rw [hl] at hz hx
  rw [hs]
  clear hs hat hl
  obtain ⟨w0, hw0⟩ : ∃ w0, w.alloc (.cells #[.int .i64 page, .int .u8 op, .string (sB m), .slice A n cap, .string s, .bool al] 30) = w0 := ⟨_, rfl⟩
  obtain ⟨b, hb⟩ : ∃ b, w.heap.size = b := ⟨_, rfl⟩
  have B0 : Hid (Below b w w0) := by rw [← hw0, ← hb]; exact (Below.refl _ _).alloc (Nat.le_refl _) _
  have Z0 : w0.heap.size = b + 1 := by rw [← hw0, ← hb]; simp
  have c0 : w0.heap[b]? = some (.cells #[.int .i64 page, .int .u8 op, .string (sB m), .slice A n cap, .string s, .bool al] 30 (0, 0)) := by rw [← hw0, ← hb]; exact World.alloc_heap_new w _
  have C0 := Lib.hid c0
  have hpp := rprefixes_any page w0
  have k0 := Lib.cell_of_heap c0 0
  have HB := Lib.hid hb
  have HPL := Lib.hid (pre_le page)
  obtain ⟨pl, hpl⟩ : ∃ p, (preS page).length = p := ⟨_, rfl⟩
  have HP := Lib.hid hpl
  have HZ := Lib.hid hz
  clear c0
  go_enter Tryz.func12, Tryz.ntmps12
  go_wp2_with fail
  refine hpp.mono ?_
  rintro e w1 ⟨v, rfl, hO, hb1⟩
  obtain ⟨A1, cap1, rfl, -⟩ := hO.bytes
  rw [hpl]
  have B1 : Hid (Below b w w1) := B0.out.trans (hb1.mono (by omega))
  have c1 := (hb1.block b (by omega)).trans C0.out
  have C1 := Lib.hid c1
  have k4 := Lib.cell_of_heap c1 4
  have hp2 : pl ≤ 2 := by rw [← hpl]; exact HPL.out
  clear hpp hO hb1 c1 k0 hw0 B0 C0 hpl Z0
  go_wp2
  clear k4
  go_loopw [4, 3] (fun i o wr => ∃ k : Nat, k ≤ l ∧ i = .int .i64 k ∧ o = .int .i64 ((pl + 1 + rsumN ex k : Nat) : Int) ∧ wr = w1) (fun i _ _ => l - (intOf i).toNat)
  case atStart => exact ⟨0, Nat.zero_le _, rfl, rfl, rfl⟩
  case round =>
    obtain ⟨k, hk, rfl, rfl, rfl⟩ := hrel
    have k4 := Lib.cell_of_heap C1.out 4
    by_cases hlt : k < l
    · have hlt' : k < s.size := by omega
      have hlt2 : k < ex.length := by rw [HL.out]; exact hlt
      have SL := rsumN_le ex k
      have hc : ex[k]?.getD 0 = s[k] := by rw [List.getElem?_eq_getElem hlt2, Option.getD_some]; exact (HAT.out k hlt' hlt2).symm
      have HC := Lib.hid hc
      obtain ⟨t, ht⟩ : ∃ t, rsumN ex k = t := ⟨_, rfl⟩
      rw [ht] at SL ⊢
      have HT := Lib.hid ht
      clear hc ht
      have hk1 : k ≤ 1000 := by omega
      by_cases h119 : s[k] = 119
      · have SS : Hid (rsumN ex (k + 1) = t + 2) := by show rsumN ex (k + 1) = _; rw [rsumN, if_pos (HC.out.trans h119), HT.out]
        have hv : s[k].toNat = 119 := by rw [h119]; rfl
        clear h119
        go_wp2
        go_roundw
        case rel => exact ⟨k + 1, by omega, by go_num, by rw [SS.out]; go_num, trivial⟩
        case measure => simp [intOf]; omega
      · have SS : Hid (rsumN ex (k + 1) = t + 1) := by show rsumN ex (k + 1) = _; rw [rsumN, if_neg (by rw [HC.out]; exact h119), HT.out]
        have hv : ((s[k].toNat : Int) == 119) = false := by
          simp
          intro h
          exact h119 (UInt8.toNat_inj.1 (by rw [show (119 : UInt8).toNat = 119 from rfl]; omega))
        clear h119
        go_wp2
        go_roundw
        case rel => exact ⟨k + 1, by omega, by go_num, by rw [SS.out]; go_num, trivial⟩
        case measure => simp [intOf]; omega
    · obtain rfl : k = l := by omega
      have T : Hid (rsizeT page ex = pl + 1 + rsumN ex k) := by show rsizeT page ex = _; unfold rsizeT; rw [HP.out, HL.out]
      go_wp2
      go_ret
      exact ⟨by rw [T.out]; rfl, by rw [HB.out]; exact B1.out⟩
end Go.Proofs.YtipgecdfnbldnaaGreatDoor
/-
  slices.ContainsFunc for a kind of operand; hasFurther.
-/
namespace Go.Proofs.YtipgecdfnbldnaaGreatDoor
open Go.RowKit Go.Shelf
set_option linter.unusedVariables false
attribute [local irreducible] Go.Mixed.wpMix

/-- Is there a half of an index register? -/
def rxB (L : List Tr) : Bool := L.any fun x => x.1 == 2
theorem doc1_any (x : Tr) (w : World) : Calls Tryz.prog 42 #[trV x] w fun e w' => e = .returned (.bool (x.1 == 2)) ∧ Below w.heap.size w w' := by
  obtain ⟨y0, y1, y2⟩ := x
  have UU := Lib.hid (up_alloc w)
  simp only [trV]
  go_enter Tryz.func42, Tryz.ntmps42
  go_wp2
  go_ret
  exact ⟨rfl, UU.out _⟩
set_option maxRecDepth 100000 in
set_option maxHeartbeats 2000000 in
theorem indexF_any (A : Option Addr) (cap : Nat) (L : List Tr) (hL : L.length ≤ 1000) (w : World) (H : OpsP w A L) :
    Calls Tryz.prog 71 #[.slice A L.length cap, .func (.func 42) #[] #[]] w fun e w' => (∃ i : Int, e = .returned (.int .i64 i) ∧ decide (0 ≤ i) = rxB L ∧ -1 ≤ i ∧ i ≤ 1000) ∧ Below w.heap.size w w' := by
  obtain ⟨n, hn⟩ : ∃ n, L.length = n := ⟨_, rfl⟩
  have HN := Lib.hid hn
  have X := Lib.hid H
  rw [hn] at hL ⊢
  clear H hn
  go_enter Tryz.func71, Tryz.ntmps71
  go_wp2
  go_loopw [8] (fun i wr => ∃ j : Nat, j ≤ n ∧ i = .int .i64 j ∧ Hid (∀ k, k < j → ∀ (a : k < L.length), (L[k].1 == 2) = false) ∧ Hid (Below w.heap.size w wr)) (fun i _ => n - (intOf i).toNat)
  case atStart => exact ⟨0, Nat.zero_le _, rfl, fun k h => by omega, Below.refl _ _⟩
  case round =>
    obtain ⟨j, hj, rfl, NO, B⟩ := hrel
    by_cases hlt : j < n
    · have hj1 : j < L.length := by have := HN.out; omega
      obtain ⟨b1, o1, hA1, -, p0, p1, p2⟩ := (X.out.below B.out).at_ hj1
      subst hA1
      obtain ⟨⟨x0, x1, x2⟩, hx⟩ : ∃ x, L[j] = x := ⟨_, rfl⟩
      have HX := Lib.hid hx
      rw [hx] at p0 p1 p2
      simp only at p0 p1 p2
      have D := Lib.hid (doc1_any (x0, x1, x2) wr)
      obtain ⟨d, hd⟩ : ∃ d, (x0 == 2) = d := ⟨_, rfl⟩
      have HD := Lib.hid hd
      have D2 : Hid (Calls Tryz.prog 42 #[.agg #[.int .i64 x0, .int .i64 x1, .int .i64 x2]] wr fun e w' => e = .returned (.bool d) ∧ Below wr.heap.size wr w') := by rw [← hd]; exact D.out
      have HJ := Lib.hid hj1
      clear hx hd D
      go_wp2_with fail
      refine D2.out.mono ?_
      rintro e w2 ⟨rfl, hb2⟩
      have B2 : Hid (Below w.heap.size w w2) := up B.out hb2
      clear D2 hb2 p0 p1 p2
      cases d
      · have NO2 : Hid (∀ k, k < j + 1 → ∀ (a : k < L.length), (L[k].1 == 2) = false) := fun k hk a => by
          by_cases e : k = j
          · subst e; rw [HX.out]; exact HD.out
          · exact NO.out k (by omega) a
        go_wp2
        go_roundw
        case rel => exact ⟨j + 1, by omega, by go_num, NO2.out, B2.out⟩
        case measure => simp [intOf]; omega
      · have T : Hid (decide ((0 : Int) ≤ (j : Int)) = rxB L) := by
          show _ = _
          rw [decide_eq_true (by omega)]
          exact (List.any_eq_true.2 ⟨L[j], List.getElem_mem HJ.out, (congrArg (fun z : Tr => z.1 == 2) HX.out).trans HD.out⟩).symm
        go_wp2
        go_ret
        exact ⟨⟨j, rfl, T.out, by omega, by omega⟩, B2.out⟩
    · have T : Hid (decide ((0 : Int) ≤ -1) = rxB L) := by
        show _ = _
        refine Eq.trans (by decide) (Eq.symm (List.any_eq_false.2 fun x hx => ?_))
        obtain ⟨k, hk, rfl⟩ := List.getElem_of_mem hx
        rw [NO.out k (by have := HN.out; omega) hk]
        decide
      go_wp2
      go_ret
      exact ⟨⟨-1, rfl, T.out, by omega, by omega⟩, B.out⟩
set_option maxRecDepth 100000 in
set_option maxHeartbeats 2000000 in
theorem containsF_any (A : Option Addr) (cap : Nat) (L : List Tr) (hL : L.length ≤ 1000) (w : World) (H : OpsP w A L) :
    Calls Tryz.prog 41 #[.slice A L.length cap, .func (.func 42) #[] #[]] w fun e w' => e = .returned (.bool (rxB L)) ∧ Below w.heap.size w w' := by
  have I0 := indexF_any A cap L hL w H
  obtain ⟨d, hd⟩ : ∃ d, rxB L = d := ⟨_, rfl⟩
  rw [hd] at I0 ⊢
  have I := Lib.hid I0
  clear H I0 hd
  go_enter Tryz.func41, Tryz.ntmps41
  go_wp2_with fail
  refine I.out.mono ?_
  rintro e w2 ⟨⟨i, rfl, hi, h1, h2⟩, hb2⟩
  have B2 := Lib.hid hb2
  clear I hb2
  have HI := Lib.hid hi
  clear hi
  go_wp2
  go_ret
  exact ⟨ret_bool HI.out, B2.out⟩
/-- Does an entry also put its result into a register? -/
def hfB (page : Int) (L : List Tr) : Bool := (page == 5 || page == 6) && (match L.getLast? with | some x => x.1 == 1 | none => false)
set_option maxRecDepth 100000 in
set_option maxHeartbeats 2000000 in
theorem further_any (page op : Int) (m ex : Str) (al : Bool) (A : Option Addr) (cap : Nat) (L : List Tr) (hL : L.length ≤ 1000) (w : World) (H : OpsP w A L) :
    Calls Tryz.prog 36 #[enV page op m (.slice A L.length cap) ex al] w fun e w' => e = .returned (.bool (hfB page L)) ∧ Below w.heap.size w w' := by
  have UU := Lib.hid (up_alloc w)
  have X := Lib.hid (fun o => H.below (up_alloc w o))
  unfold enV
  obtain ⟨n, hn⟩ : ∃ n, L.length = n := ⟨_, rfl⟩
  have HN := Lib.hid hn
  rw [hn] at hL ⊢
  clear H hn
  by_cases h0 : n = 0
  · have T : Hid (hfB page L = false) := by
      have : L = [] := List.eq_nil_of_length_eq_zero (HN.out.trans h0)
      show hfB page L = false
      unfold hfB; rw [this]; simp
    subst h0
    by_cases h5 : page = 5
    · subst h5
      go_enter Tryz.func36, Tryz.ntmps36
      go_wp2
      go_ret
      exact ⟨ret_bool T.out.symm, UU.out _⟩
    · have k5 : (page == 5) = false := by simpa using h5
      by_cases h6 : page = 6
      · subst h6
        clear h5
        go_enter Tryz.func36, Tryz.ntmps36
        go_wp2
        go_ret
        exact ⟨ret_bool T.out.symm, UU.out _⟩
      · have k6 : (page == 6) = false := by simpa using h6
        clear h5 h6
        go_enter Tryz.func36, Tryz.ntmps36
        go_wp2
        go_ret
        exact ⟨ret_bool T.out.symm, UU.out _⟩
  · obtain ⟨j, rfl⟩ : ∃ j, n = j + 1 := ⟨n - 1, by omega⟩
    have hjL : j < L.length := by have := HN.out; omega
    have HJ := Lib.hid hjL
    obtain ⟨⟨x0, x1, x2⟩, hx⟩ : ∃ x, L[j] = x := ⟨_, rfl⟩
    obtain ⟨d, hd⟩ : ∃ d, (x0 == 1) = d := ⟨_, rfl⟩
    have HX := Lib.hid hx
    have HD := Lib.hid hd
    have GL : Hid (L.getLast? = some (x0, x1, x2)) := by
      show _ = _
      rw [List.getLast?_eq_getElem?, HN.out, Nat.add_sub_cancel, List.getElem?_eq_getElem HJ.out]; exact congrArg some HX.out
    have CC : Hid (∃ b1 o1, A = some ⟨b1, o1, none⟩ ∧ ∀ o, (w.alloc o).cell? ⟨b1, o1 + j * 3, none⟩ = some (.int .i64 x0)) := by
      obtain ⟨b1, o1, hA1, -, p0, p1, p2⟩ := (X.out (.cells #[] 69)).at_ hjL
      refine ⟨b1, o1, hA1, fun o => ?_⟩
      obtain ⟨b2, o2, hA2, -, q0, q1, q2⟩ := (X.out o).at_ hjL
      rw [hA1] at hA2
      cases hA2
      exact q0.trans (congrArg (fun z : Tr => some (Value.int .i64 z.1)) hx)
    obtain ⟨b1, o1, rfl, hc⟩ := CC.out
    clear hjL hx h0 CC
    have e1 : ((j : Int) + 1 - 1) = (j : Int) := by omega
    by_cases h5 : page = 5
    · subst h5
      have T : Hid (hfB 5 L = d) := by show hfB 5 L = _; unfold hfB; rw [GL.out]; exact HD.out
      go_enter Tryz.func36, Tryz.ntmps36
      go_wp2
      go_ret
      exact ⟨ret_bool T.out.symm, UU.out _⟩
    · have k5 : (page == 5) = false := by simpa using h5
      by_cases h6 : page = 6
      · subst h6
        clear h5
        have T : Hid (hfB 6 L = d) := by show hfB 6 L = _; unfold hfB; rw [GL.out]; exact HD.out
        go_enter Tryz.func36, Tryz.ntmps36
        go_wp2
        go_ret
        exact ⟨ret_bool T.out.symm, UU.out _⟩
      · have k6 : (page == 6) = false := by simpa using h6
        clear h5 h6
        have T : Hid (hfB page L = false) := by show hfB page L = false; unfold hfB; rw [k5, k6]; rfl
        go_enter Tryz.func36, Tryz.ntmps36
        go_wp2
        go_ret
        exact ⟨ret_bool T.out.symm, UU.out _⟩
end Go.Proofs.YtipgecdfnbldnaaGreatDoor
/-
  table.Documented.
-/
namespace Go.Proofs.YtipgecdfnbldnaaGreatDoor
open Go.RowKit Go.Shelf
set_option linter.unusedVariables false
attribute [local irreducible] Go.Mixed.wpMix

/-- What Documented returns. -/
def docB (page : Int) (m : Str) (L : List Tr) (al : Bool) : Bool :=
  if al then false else if m = [83, 76, 76] then false else if hfB page L then false else if (decide (m = [73, 78]) && decide (L = [(4, 8, 0)])) then false else if (decide (m = [79, 85, 84]) && decide (L = [(4, 8, 0), (6, 0, 0)])) then false else !rxB L
theorem up_in : upB ⟨#[73, 78]⟩ = sB [73, 78] := ByteArray.ext (by decide +kernel)
theorem up_out : upB ⟨#[79, 85, 84]⟩ = sB [79, 85, 84] := ByteArray.ext (by decide +kernel)
set_option maxRecDepth 100000 in
set_option maxHeartbeats 4000000 in
theorem doc_any (page op : Int) (m ex : Str) (al : Bool) (A : Option Addr) (cap : Nat) (L : List Tr) (hL : L.length ≤ 100) (w : World) (H : OpsP w A L) :
    Calls Tryz.prog 13 #[enV page op m (.slice A L.length cap) ex al] w fun e w' => e = .returned (.bool (docB page m L al)) ∧ Below w.heap.size w w' := by
  unfold enV
  obtain ⟨n, hn⟩ : ∃ n, L.length = n := ⟨_, rfl⟩
  obtain ⟨b, hb⟩ : ∃ b, w.heap.size = b := ⟨_, rfl⟩
  have HN := Lib.hid hn
  obtain ⟨w0, hw0⟩ : ∃ w0, w.alloc (.cells #[.int .i64 page, .int .u8 op, .string (sB m), .slice A L.length cap, .string (sB ex), .bool al] 27) = w0 := ⟨_, rfl⟩
  have hal : Below w.heap.size w w0 := by rw [← hw0]; exact up_alloc _ _
  have Ew0 : Hid (EnAt w0 b page op m (.slice A L.length cap) ex al) := by rw [← hw0, ← hb]; exact World.alloc_heap_new w _
  have Pw0 := Lib.hid (H.below hal)
  have Uw0 : Hid (Below w.heap.size w w0) := hal
  have HB := Lib.hid hb
  have HW := Lib.hid hw0
  rw [hn] at hL Ew0 HW ⊢
  clear H hn hal hb hw0
  cases al
  · by_cases hm : m = [83, 76, 76]
    · have T : Hid (docB page m L false = false) := by show docB page m L false = _; unfold docB; rw [if_neg (by decide), if_pos hm]
      have ht : ((sB m).toList == [83, 76, 76]) = true := by rw [sB_eq]; exact decide_eq_true hm
      clear hm
      go_enter Tryz.func13, Tryz.ntmps13
      go_upto_region 1 with fail
      rw [HW.out, HB.out]
      obtain ⟨k0, k1, k2, k3, k4, k5, k6⟩ := Ew0.out.cells
      go_wp2
      go_ret
      exact ⟨ret_bool T.out.symm, Uw0.out⟩
    · have ht : ((sB m).toList == [83, 76, 76]) = false := by rw [sB_eq]; exact decide_eq_false hm
      have HM := Lib.hid hm
      clear hm
      obtain ⟨f, hf⟩ : ∃ f, hfB page L = f := ⟨_, rfl⟩
      have HF := Lib.hid hf
      have FA := further_any page op m ex false A cap L (by rw [HN.out]; omega) w0 Pw0.out
      rw [HN.out, hf] at FA
      unfold enV at FA
      have FA := Lib.hid FA
      clear hf
      go_enter Tryz.func13, Tryz.ntmps13
      go_upto_region 1 with fail
      rw [HW.out, HB.out]
      clear HW
      obtain ⟨k0, k1, k2, k3, k4, k5, k6⟩ := Ew0.out.cells
      go_wp2_with fail
      refine FA.out.mono ?_
      rintro e w1 ⟨rfl, hbw1⟩
      have Ew1 := Lib.hid (Ew0.out.all hbw1)
      have Pw1 := Lib.hid (Pw0.out.below hbw1)
      have Uw1 : Hid (Below w.heap.size w w1) := up Uw0.out hbw1
      clear Ew0 Pw0 Uw0 hbw1
      clear FA k0 k1 k2 k3 k4 k5 k6
      cases f
      · go_wp2_with fail
        refine (tpointer_any 8 w1).mono ?_
        rintro e w2 ⟨rfl, hbw2⟩
        have Ew2 := Lib.hid (Ew1.out.all hbw2)
        have Pw2 := Lib.hid (Pw1.out.below hbw2)
        have Uw2 : Hid (Below w.heap.size w w2) := up Uw1.out hbw2
        clear Ew1 Pw1 Uw1 hbw2
        simp only [trV]
        go_upto_region 4 with fail
        obtain ⟨q, hq⟩ : ∃ q, w2.heap.size = q := ⟨_, rfl⟩
        obtain ⟨w3, hw3⟩ : ∃ v, w2.alloc (.cells #[.int .i64 4, .int .i64 8, .int .i64 0] 69) = v := ⟨_, rfl⟩
        have hbw3 : Below w2.heap.size w2 w3 := by rw [← hw3]; exact up_alloc _ _
        have Q3 : OpV w3 q (4, 8, 0) := by rw [← hw3, ← hq]; exact opv_new _ _ _ _
        rw [hw3, hq]
        clear hw3 hq
        have Ew3 := Lib.hid (Ew2.out.all hbw3)
        have Pw3 := Lib.hid (Pw2.out.below hbw3)
        have Uw3 : Hid (Below w.heap.size w w3) := up Uw2.out hbw3
        clear Ew2 Pw2 Uw2 hbw3
        obtain ⟨w4, hw4⟩ : ∃ v, w3.drew = v := ⟨_, rfl⟩
        have hbw4 : Below w3.heap.size w3 w4 := by rw [← hw4]; exact below_drewN _ _ 1
        have Qw3 := Lib.hid Q3
        clear Q3
        have Ew4 := Lib.hid (Ew3.out.all hbw4)
        have Pw4 := Lib.hid (Pw3.out.below hbw4)
        have Uw4 : Hid (Below w.heap.size w w4) := up Uw3.out hbw4
        have Qw4 := Lib.hid (OpV.all Qw3.out hbw4)
        clear Ew3 Pw3 Uw3 Qw3 hbw4
        have KC : Hid (∀ wx, EnAt wx b page op m (.slice A n cap) ex false → OpV wx q (4, 8, 0) → wx.cell? ⟨b, 2, none⟩ = some (.string (sB m)) ∧ wx.cell? ⟨b, 3, none⟩ = some (.slice A n cap) ∧ wx.cell? ⟨q, 0, none⟩ = some (.int .i64 4) ∧ wx.cell? ⟨q, 1, none⟩ = some (.int .i64 8) ∧ wx.cell? ⟨q, 2, none⟩ = some (.int .i64 0)) := fun wx he hq => ⟨he.cells.2.2.1, he.cells.2.2.2.1, hq.cells.1, hq.cells.2.1, hq.cells.2.2.1⟩
        have K4 := Lib.hid (KC.out _ Ew4.out Qw4.out)
        refine Mixed.wp_region_mixed (fun w' => w'.cell? ⟨b, 2, none⟩ = some (.string (sB m)) ∧ w'.cell? ⟨b, 3, none⟩ = some (.slice A n cap) ∧ w'.cell? ⟨q, 0, none⟩ = some (.int .i64 4) ∧ w'.cell? ⟨q, 1, none⟩ = some (.int .i64 8) ∧ w'.cell? ⟨q, 2, none⟩ = some (.int .i64 0)) 14 [(0, true), (1, true), (2, true), (3, false), (4, false), (5, false), (6, true), (7, true), (8, true), (9, true), (10, false), (11, false), (12, false), (13, false)] (by kernel_rfl) (by kernel_rfl) (by rw [hw4]; exact K4.out) ?_
        rw [hw4]
        clear hw4 K4
        refine Mixed.wpMix_pure rfl (by kernel_rfl) (.pointer (some ⟨b, 2, none⟩)) (fun w h => by go_simp; try rfl) ?_
        refine Mixed.wpMix_pure rfl (by kernel_rfl) (.agg #[.string (sB m), .slice A n cap]) (fun w h => by obtain ⟨h1, h2, h3, h4, h5⟩ := h; go_simp; try rfl) ?_
        refine Mixed.wpMix_pure rfl (by kernel_rfl) (.agg #[.int .i64 4, .int .i64 8, .int .i64 0]) (fun w h => by obtain ⟨h1, h2, h3, h4, h5⟩ := h; go_simp; try rfl) ?_
        refine Mixed.wpMix_loudG rfl (by kernel_rfl) ?_
        obtain ⟨q1, hq1⟩ : ∃ x, w4.heap.size = x := ⟨_, rfl⟩
        obtain ⟨w5, hw5⟩ : ∃ v, w4.alloc (.cells #[.int .i64 4, .int .i64 8, .int .i64 0] 69) = v := ⟨_, rfl⟩
        have hbw5 : Below w4.heap.size w4 w5 := by rw [← hw5]; exact up_alloc _ _
        have V5 : OpsP w5 (some ⟨q1, 0, none⟩) [(4, 8, 0)] := by
          have h := own_litT w4 [(4, 8, 0)] (by simp)
          obtain ⟨A', c', hv, hP, -⟩ := h.ops
          cases hv
          rw [← hw5, ← hq1]; exact hP
        have Vw5 := Lib.hid V5
        have HQ1 := Lib.hid hq1
        have HW5 := Lib.hid hw5
        have x5 : ∀ o, EnAt (w4.alloc o) b page op m (.slice A n cap) ex false ∧ OpV (w4.alloc o) q (4, 8, 0) := fun o => ⟨Ew4.out.all (up_alloc _ _), OpV.all Qw4.out (up_alloc _ _)⟩
        have X5 := Lib.hid x5
        clear V5 hq1 hw5 x5
        have Ew5 := Lib.hid (Ew4.out.all hbw5)
        have Pw5 := Lib.hid (Pw4.out.below hbw5)
        have Uw5 : Hid (Below w.heap.size w w5) := up Uw4.out hbw5
        have Qw5 := Lib.hid (OpV.all Qw4.out hbw5)
        clear Ew4 Pw4 Uw4 Qw4 hbw5
        go_wp2
        refine ⟨KC.out _ (X5.out _).1 (X5.out _).2, ?_⟩
        rw [HW5.out, HQ1.out]
        clear X5 HW5 HQ1
        refine Mixed.wpMix_loudG rfl (by kernel_rfl) ?_
        go_wp2_with fail
        refine (make_any ⟨#[73, 78]⟩ (by unfold maxLen; decide) (some ⟨q1, 0, none⟩) 1 [(4, 8, 0)] (by simp) w5 Vw5.out).mono ?_
        rintro e w6 ⟨v, rfl, hO, hbw6⟩
        obtain ⟨AM, capM, rfl, hPM, -⟩ := hO.ops
        rw [up_in]
        have Yw6 := Lib.hid hPM
        clear hO hPM
        have Ew6 := Lib.hid (Ew5.out.all hbw6)
        have Pw6 := Lib.hid (Pw5.out.below hbw6)
        have Uw6 : Hid (Below w.heap.size w w6) := up Uw5.out hbw6
        have Qw6 := Lib.hid (OpV.all Qw5.out hbw6)
        have Vw6 := Lib.hid (Vw5.out.below hbw6)
        clear Ew5 Pw5 Uw5 Qw5 Vw5 hbw6
        clear Vw6
        have xx := (KC.out _ Ew6.out Qw6.out)
        go_wp2
        refine ⟨xx, ?_⟩
        clear xx
        obtain ⟨d, hd⟩ : ∃ d, (decide (m = [73, 78]) && decide (L = [(4, 8, 0)])) = d := ⟨_, rfl⟩
        have HDIN := Lib.hid hd
        have SM := isameG_any m [73, 78] A AM cap capM L [(4, 8, 0)] (by rw [HN.out]; omega) (by simp) w6 Pw6.out Yw6.out
        rw [HN.out, hd] at SM
        have SM := Lib.hid SM
        clear hd Yw6
        refine Mixed.wpMix_loudG rfl (by kernel_rfl) ?_
        go_wp2_with fail
        refine SM.out.mono ?_
        rintro e w7 ⟨rfl, hbw7⟩
        have Ew7 := Lib.hid (Ew6.out.all hbw7)
        have Pw7 := Lib.hid (Pw6.out.below hbw7)
        have Uw7 : Hid (Below w.heap.size w w7) := up Uw6.out hbw7
        have Qw7 := Lib.hid (OpV.all Qw6.out hbw7)
        clear Ew6 Pw6 Uw6 Qw6 hbw7
        clear SM
        have xx := (KC.out _ Ew7.out Qw7.out)
        go_wp2
        refine ⟨xx, ?_⟩
        clear xx
        refine Mixed.wpMix_move rfl (by kernel_rfl) _ rfl (.bool d) rfl ?_
        cases d
        · refine Mixed.wpMix_pure rfl (by kernel_rfl) (.pointer (some ⟨b, 2, none⟩)) (fun w h => by go_simp; try rfl) ?_
          refine Mixed.wpMix_pure rfl (by kernel_rfl) (.agg #[.string (sB m), .slice A n cap]) (fun w h => by obtain ⟨h1, h2, h3, h4, h5⟩ := h; go_simp; try rfl) ?_
          refine Mixed.wpMix_pure rfl (by kernel_rfl) (.agg #[.int .i64 4, .int .i64 8, .int .i64 0]) (fun w h => by obtain ⟨h1, h2, h3, h4, h5⟩ := h; go_simp; try rfl) ?_
          refine Mixed.wpMix_loudG rfl (by kernel_rfl) ?_
          go_wp2_with fail
          refine (value_any 0 w7).mono ?_
          rintro e w8 ⟨rfl, hbw8⟩
          have Ew8 := Lib.hid (Ew7.out.all hbw8)
          have Pw8 := Lib.hid (Pw7.out.below hbw8)
          have Uw8 : Hid (Below w.heap.size w w8) := up Uw7.out hbw8
          have Qw8 := Lib.hid (OpV.all Qw7.out hbw8)
          clear Ew7 Pw7 Uw7 Qw7 hbw8
          simp only [trV]
          have xx := (KC.out _ Ew8.out Qw8.out)
          go_wp2
          refine ⟨xx, ?_⟩
          clear xx
          refine Mixed.wpMix_loudG rfl (by kernel_rfl) ?_
          obtain ⟨q2, hq2⟩ : ∃ x, w8.heap.size = x := ⟨_, rfl⟩
          obtain ⟨w9, hw9⟩ : ∃ v, w8.alloc (.cells #[.int .i64 4, .int .i64 8, .int .i64 0, .int .i64 6, .int .i64 0, .int .i64 0] 69) = v := ⟨_, rfl⟩
          have hbw9 : Below w8.heap.size w8 w9 := by rw [← hw9]; exact up_alloc _ _
          have V9 : OpsP w9 (some ⟨q2, 0, none⟩) [(4, 8, 0), (6, 0, 0)] := by
            have h := own_litT w8 [(4, 8, 0), (6, 0, 0)] (by simp)
            obtain ⟨A', c', hv, hP, -⟩ := h.ops
            cases hv
            rw [← hw9, ← hq2]; exact hP
          have Vw9 := Lib.hid V9
          have HQ2 := Lib.hid hq2
          have HW9 := Lib.hid hw9
          have x9 : ∀ o, EnAt (w8.alloc o) b page op m (.slice A n cap) ex false ∧ OpV (w8.alloc o) q (4, 8, 0) := fun o => ⟨Ew8.out.all (up_alloc _ _), OpV.all Qw8.out (up_alloc _ _)⟩
          have X9 := Lib.hid x9
          clear V9 hq2 hw9 x9
          have Ew9 := Lib.hid (Ew8.out.all hbw9)
          have Pw9 := Lib.hid (Pw8.out.below hbw9)
          have Uw9 : Hid (Below w.heap.size w w9) := up Uw8.out hbw9
          have Qw9 := Lib.hid (OpV.all Qw8.out hbw9)
          clear Ew8 Pw8 Uw8 Qw8 hbw9
          go_wp2
          refine ⟨KC.out _ (X9.out _).1 (X9.out _).2, ?_⟩
          rw [HW9.out, HQ2.out]
          clear X9 HW9 HQ2
          refine Mixed.wpMix_loudG rfl (by kernel_rfl) ?_
          go_wp2_with fail
          refine (make_any ⟨#[79, 85, 84]⟩ (by unfold maxLen; decide) (some ⟨q2, 0, none⟩) 2 [(4, 8, 0), (6, 0, 0)] (by simp) w9 Vw9.out).mono ?_
          rintro e w10 ⟨v, rfl, hO, hbw10⟩
          obtain ⟨AM, capM, rfl, hPM, -⟩ := hO.ops
          rw [up_out]
          have Yw10 := Lib.hid hPM
          clear hO hPM
          have Ew10 := Lib.hid (Ew9.out.all hbw10)
          have Pw10 := Lib.hid (Pw9.out.below hbw10)
          have Uw10 : Hid (Below w.heap.size w w10) := up Uw9.out hbw10
          have Qw10 := Lib.hid (OpV.all Qw9.out hbw10)
          have Vw10 := Lib.hid (Vw9.out.below hbw10)
          clear Ew9 Pw9 Uw9 Qw9 Vw9 hbw10
          clear Vw10
          have xx := (KC.out _ Ew10.out Qw10.out)
          go_wp2
          refine ⟨xx, ?_⟩
          clear xx
          obtain ⟨d, hd⟩ : ∃ d, (decide (m = [79, 85, 84]) && decide (L = [(4, 8, 0), (6, 0, 0)])) = d := ⟨_, rfl⟩
          have HDOUT := Lib.hid hd
          have SM := isameG_any m [79, 85, 84] A AM cap capM L [(4, 8, 0), (6, 0, 0)] (by rw [HN.out]; omega) (by simp) w10 Pw10.out Yw10.out
          rw [HN.out, hd] at SM
          have SM := Lib.hid SM
          clear hd Yw10
          refine Mixed.wpMix_loudG rfl (by kernel_rfl) ?_
          go_wp2_with fail
          refine SM.out.mono ?_
          rintro e w11 ⟨rfl, hbw11⟩
          have Ew11 := Lib.hid (Ew10.out.all hbw11)
          have Pw11 := Lib.hid (Pw10.out.below hbw11)
          have Uw11 : Hid (Below w.heap.size w w11) := up Uw10.out hbw11
          have Qw11 := Lib.hid (OpV.all Qw10.out hbw11)
          clear Ew10 Pw10 Uw10 Qw10 hbw11
          clear SM
          have xx := (KC.out _ Ew11.out Qw11.out)
          go_wp2
          refine ⟨xx, ?_⟩
          clear xx
          simp only [Mixed.wpMix, List.drop_succ_cons, List.drop_zero]
          cases d
          · obtain ⟨k0, k1, k2, k3, k4, k5, k6⟩ := Ew11.out.cells
            obtain ⟨r, hr⟩ : ∃ r, rxB L = r := ⟨_, rfl⟩
            have HR := Lib.hid hr
            have CF := containsF_any A cap L (by rw [HN.out]; omega) w11 Pw11.out
            rw [HN.out, hr] at CF
            have CF := Lib.hid CF
            clear hr
            go_wp2_with fail
            refine CF.out.mono ?_
            rintro e wz ⟨rfl, hbz⟩
            have UZ : Hid (Below w.heap.size w wz) := up Uw11.out hbz
            clear CF hbz Ew11 Pw11 Uw11 Qw11
            have T : Hid (docB page m L false = !r) := by show docB page m L false = _; unfold docB; rw [if_neg (by decide), if_neg HM.out, if_neg (by rw [HF.out]; decide), if_neg (by rw [HDIN.out]; decide), if_neg (by rw [HDOUT.out]; decide), HR.out]
            go_wp2
            go_ret
            exact ⟨ret_bool T.out.symm, UZ.out⟩
          · have T : Hid (docB page m L false = false) := by show docB page m L false = _; unfold docB; rw [if_neg (by decide), if_neg HM.out, if_neg (by rw [HF.out]; decide), if_neg (by rw [HDIN.out]; decide), if_pos HDOUT.out]
            go_wp2
            go_ret
            exact ⟨ret_bool T.out.symm, Uw11.out⟩
        · have T : Hid (docB page m L false = false) := by show docB page m L false = _; unfold docB; rw [if_neg (by decide), if_neg HM.out, if_neg (by rw [HF.out]; decide), if_pos HDIN.out]
          refine wpMix_skip rfl (by kernel_rfl) ?_
          refine wpMix_skip rfl (by kernel_rfl) ?_
          refine wpMix_skip rfl (by kernel_rfl) ?_
          refine wpMix_skipL rfl (by kernel_rfl) (KC.out _ Ew7.out Qw7.out) ?_
          refine wpMix_skipL rfl (by kernel_rfl) (KC.out _ Ew7.out Qw7.out) ?_
          refine wpMix_skipL rfl (by kernel_rfl) (KC.out _ Ew7.out Qw7.out) ?_
          refine wpMix_skipL rfl (by kernel_rfl) (KC.out _ Ew7.out Qw7.out) ?_
          simp only [Mixed.wpMix, List.drop_succ_cons, List.drop_zero]
          go_wp2
          go_ret
          exact ⟨ret_bool T.out.symm, Uw7.out⟩
      · have T : Hid (docB page m L false = false) := by show docB page m L false = _; unfold docB; rw [if_neg (by decide), if_neg HM.out, if_pos HF.out]
        go_wp2
        go_ret
        exact ⟨ret_bool T.out.symm, Uw1.out⟩
  · have T : Hid (docB page m L true = false) := rfl
    go_enter Tryz.func13, Tryz.ntmps13
    go_upto_region 1 with fail
    rw [HW.out, HB.out]
    obtain ⟨k0, k1, k2, k3, k4, k5, k6⟩ := Ew0.out.cells
    go_wp2
    go_ret
    exact ⟨ret_bool T.out.symm, Uw0.out⟩

end Go.Proofs.YtipgecdfnbldnaaGreatDoor
/-
  The reference's Documented.
-/
namespace Go.Proofs.YtipgecdfnbldnaaGreatDoor
open Go.RowKit Go.Shelf
set_option linter.unusedVariables false
attribute [local irreducible] Go.Mixed.wpMix

/-- What the reference's Documented returns. -/
def lastB (L : List Tr) : Bool := match L.getLast? with | some x => x.1 == 1 | none => false
def rdocB (page : Int) (m : Str) (L : List Tr) (al : Bool) : Bool :=
  if rxB L then false else if (decide (5 ≤ page) && lastB L) then false else
    !al && !decide (m = [83, 76, 76]) && !((shpS (sB m) L).toList == [73, 78, 32, 40, 67, 41]) && !((shpS (sB m) L).toList == [79, 85, 84, 32, 40, 67, 41, 44, 110])
theorem lastB_at {L : List Tr} {n : Nat} (h : L.length = n + 1) (hx : n < L.length) : lastB L = (L[n].1 == 1) := by
  unfold lastB
  rw [List.getLast?_eq_getElem?, h, Nat.add_sub_cancel, List.getElem?_eq_getElem hx]
set_option maxRecDepth 100000 in
set_option maxHeartbeats 4000000 in
theorem rdoc_any (page op : Int) (m ex : Str) (hm : m.length ≤ 1000) (al : Bool) (A : Option Addr) (cap : Nat) (L : List Tr) (hL : L.length ≤ 100) (w : World) (H : OpsP w A L) :
    Calls Tryz.prog 14 #[enV page op m (.slice A L.length cap) ex al] w fun e w' => e = .returned (.bool (rdocB page m L al)) ∧ Below w.heap.size w w' := by
  unfold enV
  obtain ⟨n, hn⟩ : ∃ n, L.length = n := ⟨_, rfl⟩
  obtain ⟨b, hb⟩ : ∃ b, w.heap.size = b := ⟨_, rfl⟩
  have HN := Lib.hid hn
  obtain ⟨w0, hw0⟩ : ∃ w0, w.alloc (.cells #[.int .i64 page, .int .u8 op, .string (sB m), .slice A L.length cap, .string (sB ex), .bool al] 30) = w0 := ⟨_, rfl⟩
  have hal : Below w.heap.size w w0 := by rw [← hw0]; exact up_alloc _ _
  have Ew0 : Hid (RnAt w0 b page op m (.slice A L.length cap) ex al) := by rw [← hw0, ← hb]; exact World.alloc_heap_new w _
  have Pw0 := Lib.hid (H.below hal)
  have Uw0 : Hid (Below w.heap.size w w0) := hal
  have HB := Lib.hid hb
  have HW := Lib.hid hw0
  rw [hn] at hL Ew0 HW ⊢
  clear H hn hal hb hw0
  have HMM := Lib.hid hm
  clear hm
  go_enter Tryz.func14, Tryz.ntmps14
  go_upto_region 1 with fail
  rw [HW.out, HB.out]
  clear HW
  obtain ⟨k0, k1, k2, k3, k4, k5, k6⟩ := Ew0.out.cells
  go_wp2
  clear k0 k1 k2 k3 k4 k5 k6
  go_loopw [4] (fun i wr => ∃ j : Nat, j ≤ n ∧ i = .int .i64 j ∧ w0 = wr ∧ Hid (∀ k, k < j → ∀ (a : k < L.length), (L[k].1 == 2) = false)) (fun i _ => n - (intOf i).toNat)
  case atStart => exact ⟨0, Nat.zero_le _, rfl, rfl, fun k h => by omega⟩
  case round =>
    obtain ⟨j, hj, rfl, rfl, NO⟩ := hrel
    by_cases hlt : j < n
    · have hj1 : j < L.length := by have := HN.out; omega
      obtain ⟨b1, o1, hA1, -, p0, p1, p2⟩ := Pw0.out.at_ hj1
      subst hA1
      obtain ⟨⟨x0, x1, x2⟩, hx⟩ : ∃ x, L[j] = x := ⟨_, rfl⟩
      have HX := Lib.hid hx
      rw [hx] at p0 p1 p2
      simp only at p0 p1 p2
      have HJ := Lib.hid hj1
      obtain ⟨d, hd⟩ : ∃ d, (x0 == 2) = d := ⟨_, rfl⟩
      have HD := Lib.hid hd
      clear hx
      cases d
      · have NO2 : Hid (∀ k, k < j + 1 → ∀ (a : k < L.length), (L[k].1 == 2) = false) := fun k hk a => by
          by_cases e : k = j
          · subst e; rw [HX.out]; exact HD.out
          · exact NO.out k (by omega) a
        go_wp2
        go_roundw
        case rel => exact ⟨j + 1, by omega, by go_num, trivial, NO2.out⟩
        case measure => simp [intOf]; omega
      · have T : Hid (rdocB page m L al = false) := by
          have hr : rxB L = true := List.any_eq_true.2 ⟨L[j], List.getElem_mem HJ.out, (congrArg (fun z : Tr => z.1 == 2) HX.out).trans HD.out⟩
          show _ = _
          unfold rdocB
          rw [if_pos hr]
        go_wp2
        go_ret
        exact ⟨ret_bool T.out.symm, Uw0.out⟩
    · obtain rfl : n = j := by omega
      have RX : Hid (rxB L = false) := by
        refine List.any_eq_false.2 fun x hx => ?_
        obtain ⟨k, hk, rfl⟩ := List.getElem_of_mem hx
        rw [NO.out k (by have := HN.out; omega) hk]
        decide
      obtain ⟨k0, k1, k2, k3, k4, k5, k6⟩ := Ew0.out.cells
      -- the last operand
      have LA : Hid (∃ d : Bool, (decide (5 ≤ page) && lastB L) = d ∧ (d = false → True)) := ⟨_, rfl, fun _ => trivial⟩
      obtain ⟨lst, hlst⟩ : ∃ d, lastB L = d := ⟨_, rfl⟩
      have HLS := Lib.hid hlst
      have SH := rshape_any (sB m) A cap L (by rw [sB_size]; exact HMM.out) (by rw [HN.out]; omega) w0 Pw0.out
      rw [HN.out] at SH
      obtain ⟨sh, hsh⟩ : ∃ s, shpS (sB m) L = s := ⟨_, rfl⟩
      have HSH := Lib.hid hsh
      rw [hsh] at SH
      have SH := Lib.hid SH
      clear hsh LA hlst
      have CC : Hid (∀ (h : n ≠ 0), ∃ b1 o1 x0, A = some ⟨b1, o1, none⟩ ∧ w0.cell? ⟨b1, o1 + (n - 1) * 3, none⟩ = some (.int .i64 x0) ∧ (x0 == 1) = lst) := fun h => by
        have hj1 : n - 1 < L.length := by have := HN.out; omega
        obtain ⟨b1, o1, hA1, -, p0, p1, p2⟩ := Pw0.out.at_ hj1
        exact ⟨b1, o1, (L[n - 1]'hj1).1, hA1, p0, by rw [← HLS.out]; exact (lastB_at (by have := HN.out; omega) hj1).symm⟩
      by_cases hp : 5 ≤ page
      · by_cases h0 : n = 0
        · have hz : lst = false := by
            rw [← HLS.out]
            have : L = [] := List.eq_nil_of_length_eq_zero (HN.out.trans h0)
            rw [this]; rfl
          have HPG : Hid ((decide (5 ≤ page) && lst) = false) := by show _ = _; rw [hz]; simp
          subst h0
          clear hz
          go_wp2_with fail
          refine SH.out.mono ?_
          rintro e w3 ⟨rfl, hbw3⟩
          have E3 := Lib.hid (Ew0.out.all hbw3)
          have U3 : Hid (Below w.heap.size w w3) := up Uw0.out hbw3
          obtain ⟨s1, hs1⟩ : ∃ d, (sh.toList == [73, 78, 32, 40, 67, 41]) = d := ⟨_, rfl⟩
          obtain ⟨s2, hs2⟩ : ∃ d, (sh.toList == [79, 85, 84, 32, 40, 67, 41, 44, 110]) = d := ⟨_, rfl⟩
          obtain ⟨ms, hms⟩ : ∃ d, decide (m = [83, 76, 76]) = d := ⟨_, rfl⟩
          have hmt : ((sB m).toList == [83, 76, 76]) = ms := by rw [sB_eq]; exact hms
          have HH := Lib.hid (And.intro hs1 (And.intro hs2 hms))
          have T0 : Hid (rdocB page m L al = (!al && !ms && !s1 && !s2)) := by
            show _ = _
            unfold rdocB
            rw [if_neg (by rw [RX.out]; decide), if_neg (by rw [HLS.out, HPG.out]; decide), HSH.out, HH.out.1, HH.out.2.1, HH.out.2.2]
          clear SH hbw3 k0 k1 k2 k3 k4 k5 k6 hms
          obtain ⟨k0, k1, k2, k3, k4, k5, k6⟩ := E3.out.cells
          cases al
          · cases ms
            · cases s1
              · have T : Hid (rdocB page m L false = !s2) := by show _ = _; rw [T0.out]; simp
                go_wp2
                go_ret
                exact ⟨ret_bool T.out.symm, U3.out⟩
              · have T : Hid (rdocB page m L false = false) := by show _ = _; rw [T0.out]; simp
                go_wp2
                go_ret
                exact ⟨ret_bool T.out.symm, U3.out⟩
            · have T : Hid (rdocB page m L false = false) := by show _ = _; rw [T0.out]; simp
              go_wp2
              go_ret
              exact ⟨ret_bool T.out.symm, U3.out⟩
          · have T : Hid (rdocB page m L true = false) := by show _ = _; rw [T0.out]; simp
            go_wp2
            go_ret
            exact ⟨ret_bool T.out.symm, U3.out⟩
        · obtain ⟨b1, o1, x0, rfl, hc, hx⟩ := CC.out h0
          obtain ⟨i, rfl⟩ : ∃ i, n = i + 1 := ⟨n - 1, by omega⟩
          rw [Nat.add_sub_cancel] at hc
          have e1 : ((i : Int) + 1 - 1) = (i : Int) := by omega
          cases lst
          · have HPG : Hid ((decide (5 ≤ page) && false) = false) := by show _ = _; simp
            clear h0
            go_wp2_with fail
            refine SH.out.mono ?_
            rintro e w3 ⟨rfl, hbw3⟩
            have E3 := Lib.hid (Ew0.out.all hbw3)
            have U3 : Hid (Below w.heap.size w w3) := up Uw0.out hbw3
            obtain ⟨s1, hs1⟩ : ∃ d, (sh.toList == [73, 78, 32, 40, 67, 41]) = d := ⟨_, rfl⟩
            obtain ⟨s2, hs2⟩ : ∃ d, (sh.toList == [79, 85, 84, 32, 40, 67, 41, 44, 110]) = d := ⟨_, rfl⟩
            obtain ⟨ms, hms⟩ : ∃ d, decide (m = [83, 76, 76]) = d := ⟨_, rfl⟩
            have hmt : ((sB m).toList == [83, 76, 76]) = ms := by rw [sB_eq]; exact hms
            have HH := Lib.hid (And.intro hs1 (And.intro hs2 hms))
            have T0 : Hid (rdocB page m L al = (!al && !ms && !s1 && !s2)) := by
              show _ = _
              unfold rdocB
              rw [if_neg (by rw [RX.out]; decide), if_neg (by rw [HLS.out, HPG.out]; decide), HSH.out, HH.out.1, HH.out.2.1, HH.out.2.2]
            clear SH hbw3 k0 k1 k2 k3 k4 k5 k6 hms
            obtain ⟨k0, k1, k2, k3, k4, k5, k6⟩ := E3.out.cells
            cases al
            · cases ms
              · cases s1
                · have T : Hid (rdocB page m L false = !s2) := by show _ = _; rw [T0.out]; simp
                  go_wp2
                  go_ret
                  exact ⟨ret_bool T.out.symm, U3.out⟩
                · have T : Hid (rdocB page m L false = false) := by show _ = _; rw [T0.out]; simp
                  go_wp2
                  go_ret
                  exact ⟨ret_bool T.out.symm, U3.out⟩
              · have T : Hid (rdocB page m L false = false) := by show _ = _; rw [T0.out]; simp
                go_wp2
                go_ret
                exact ⟨ret_bool T.out.symm, U3.out⟩
            · have T : Hid (rdocB page m L true = false) := by show _ = _; rw [T0.out]; simp
              go_wp2
              go_ret
              exact ⟨ret_bool T.out.symm, U3.out⟩
          · have T : Hid (rdocB page m L al = false) := by
              show _ = _
              unfold rdocB
              rw [if_neg (by rw [RX.out]; decide), if_pos (by rw [HLS.out, decide_eq_true hp]; rfl)]
            clear h0
            go_wp2
            go_ret
            exact ⟨ret_bool T.out.symm, Uw0.out⟩
      · have HPG : Hid ((decide (5 ≤ page) && lst) = false) := by show _ = _; rw [decide_eq_false hp]; rfl
        go_wp2_with fail
        refine SH.out.mono ?_
        rintro e w3 ⟨rfl, hbw3⟩
        have E3 := Lib.hid (Ew0.out.all hbw3)
        have U3 : Hid (Below w.heap.size w w3) := up Uw0.out hbw3
        obtain ⟨s1, hs1⟩ : ∃ d, (sh.toList == [73, 78, 32, 40, 67, 41]) = d := ⟨_, rfl⟩
        obtain ⟨s2, hs2⟩ : ∃ d, (sh.toList == [79, 85, 84, 32, 40, 67, 41, 44, 110]) = d := ⟨_, rfl⟩
        obtain ⟨ms, hms⟩ : ∃ d, decide (m = [83, 76, 76]) = d := ⟨_, rfl⟩
        have hmt : ((sB m).toList == [83, 76, 76]) = ms := by rw [sB_eq]; exact hms
        have HH := Lib.hid (And.intro hs1 (And.intro hs2 hms))
        have T0 : Hid (rdocB page m L al = (!al && !ms && !s1 && !s2)) := by
          show _ = _
          unfold rdocB
          rw [if_neg (by rw [RX.out]; decide), if_neg (by rw [HLS.out, HPG.out]; decide), HSH.out, HH.out.1, HH.out.2.1, HH.out.2.2]
        clear SH hbw3 k0 k1 k2 k3 k4 k5 k6 hms
        obtain ⟨k0, k1, k2, k3, k4, k5, k6⟩ := E3.out.cells
        cases al
        · cases ms
          · cases s1
            · have T : Hid (rdocB page m L false = !s2) := by show _ = _; rw [T0.out]; simp
              go_wp2
              go_ret
              exact ⟨ret_bool T.out.symm, U3.out⟩
            · have T : Hid (rdocB page m L false = false) := by show _ = _; rw [T0.out]; simp
              go_wp2
              go_ret
              exact ⟨ret_bool T.out.symm, U3.out⟩
          · have T : Hid (rdocB page m L false = false) := by show _ = _; rw [T0.out]; simp
            go_wp2
            go_ret
            exact ⟨ret_bool T.out.symm, U3.out⟩
        · have T : Hid (rdocB page m L true = false) := by show _ = _; rw [T0.out]; simp
          go_wp2
          go_ret
          exact ⟨ret_bool T.out.symm, U3.out⟩

end Go.Proofs.YtipgecdfnbldnaaGreatDoor
