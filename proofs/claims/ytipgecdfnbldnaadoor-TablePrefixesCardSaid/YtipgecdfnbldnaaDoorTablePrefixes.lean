/-
  TablePrefixes: at every page and every slice of bytes the law returns true.
  Conditions: none beyond the row's own (laid variables; the world's shape).
-/
import Derived.Test.YtipgecdfnbldnaaDoorTbX
import Derived.Test.YtipgecdfnbldnaaDoorTbY
import Derived.Test.YtipgecdfnbldnaaDoorTbW
import Derived.Test.YtipgecdfnbldnaaDoorCards
import Derived.Test.YtipgecdfnbldnaaDoorTie
import Derived.ProofKit
import Derived.OpenShut
import Derived.Lay
import Derived.LaidOnce
import Derived.SevenTiedAt
import Derived.Below
namespace Go.Proofs.YtipgecdfnbldnaaDoor.tablePrefixesDone
open Go.ChangeShapes Go.WideShapes Go.ChangeAt Go.RowKit
open Go.ChangeMaps (open_string shut_string)
set_option linter.unusedVariables false

theorem own : ownKnob Tryd.prog.godebug = none := by kernel_rfl
theorem laidOut : laidOutB Tryd.prog = true := by kernel_rfl
/-- A slice of integers that came in: nil, or a row of 'cap' cells that hold the numbers 'zs'. -/
def IsRow (k : IntKind) (w : World) (a : Option Addr) (len cap : Nat) (zs : List Int) : Prop :=
  (a = none ∧ len = 0 ∧ cap = 0 ∧ zs = []) ∨
  ∃ x, a = some x ∧ len ≤ cap ∧ cap ≤ maxLen ∧ zs.length = cap ∧ (∀ i, i < zs.length → w.cell? (x.add i) = some (.int k (zs.getD i 0))) ∧ ∀ n ∈ zs, (Lit.int k n).wf = true

set_option maxRecDepth 100000 in
set_option maxHeartbeats 8000000 in
theorem walk_in (a : Int) (A : Option Addr) (cap : Nat) (z : Str) (w : World) (ha : -128 ≤ a ∧ a ≤ 127) (hr : 0 ≤ a ∧ a < 7) (hm : z.length ≤ maxLen) (hz : BytesAt w A z) (hM : MaxAt w) (h20 : ¬ 20 < z.length) :
    Calls Tryd.prog 4 #[.int .i8 a, .slice A z.length cap] w fun e w' => e = .returned (.bool true) ∧ Below w.heap.size w w' := by
  have AL := Lib.hid (fun w' h => alive_any w' h)
  obtain ⟨l, hl⟩ : ∃ l, z.length = l := ⟨_, rfl⟩
  have HL := Lib.hid hl
  have HM := Lib.hid hm
  have HZ := Lib.hid hz
  have HA := Lib.hid ha
  have MX := Lib.hid hM
  rw [hl] at h20 ⊢
  unfold maxLen at hm
  rw [hl] at hm
  have hp1 := Lib.hid (prefixes_any a w)
  clear hz hM hl
  go_enter Tryd.func4, Tryd.ntmps4
  go_wp2_with fail
  refine hp1.out.mono ?_
  rintro e w1 ⟨v, rfl, hO, hb1⟩
  obtain ⟨A1, c1, rfl, hB1⟩ := hO.bytes
  have hle := pre_le a
  obtain ⟨l1, hl1⟩ : ∃ l, (preS a).length = l := ⟨_, rfl⟩
  have po := pageOf_any A1 c1 (preS a) (by unfold maxLen; omega) w1 hB1
  rw [page_is a, hl1] at po
  rw [hl1] at hle ⊢
  have BA := Lib.hid hB1
  have B1 : Hid (Below w.heap.size w w1) := hb1
  have M1 := Lib.hid (MX.out.below hb1)
  have L1 := Lib.hid hl1
  clear hO hb1 hB1 hp1 hl1
  simp only [Option.getD_some, Option.isSome_some] at po
  rw [if_pos (show 0 ≤ a ∧ a < 7 from hr)] at po
  go_wp2_with fail
  refine po.mono ?_
  rintro e w2 ⟨rfl, hb2⟩
  have B2 : Hid (Below w.heap.size w w2) := B1.out.trans (hb2.mono B1.out.size)
  have M2 := Lib.hid (M1.out.below hb2)
  have BA2 := Lib.hid (BA.out.below hb2)
  have hp2 := Lib.hid (rprefixes_any a w2)
  clear po hb2 BA B1 M1
  go_wp2_with fail
  refine hp2.out.mono ?_
  rintro e w3 ⟨v, rfl, hO, hb3⟩
  obtain ⟨A3, c3, rfl, hB3⟩ := hO.bytes
  have B3 : Hid (Below w.heap.size w w3) := B2.out.trans (hb3.mono B2.out.size)
  have M3 := Lib.hid (M2.out.below hb3)
  have he := equalU_any A1 A3 c1 c3 (preS a) (preS a) (by have := L1.out; unfold maxLen; omega) (by have := L1.out; unfold maxLen; omega) w3 (BA2.out.below hb3) hB3
  rw [decide_eq_true rfl, L1.out] at he
  rw [L1.out]
  clear hp2 hO hb3 hB3 BA2 B2 M2
  go_wp2_with fail
  refine he.mono ?_
  rintro e w4 ⟨rfl, hb4⟩
  have B4 : Hid (Below w.heap.size w w4) := B3.out.trans (hb4.mono B3.out.size)
  have M4 := Lib.hid (M3.out.below hb4)
  have BZ4 := Lib.hid (HZ.out.below B4.out)
  have pq := pageOf_any A cap z HM.out w4 BZ4.out
  rw [HL.out] at pq
  obtain ⟨pt, hpt⟩ : ∃ p, pageT z = p := ⟨_, rfl⟩
  have HPT := Lib.hid hpt
  rw [hpt] at pq
  clear he hb4 B3 M3 hpt
  go_wp2_with fail
  refine pq.mono ?_
  rintro e w5 ⟨rfl, hb5⟩
  have B5 : Hid (Below w.heap.size w w5) := B4.out.trans (hb5.mono B4.out.size)
  clear pq hb5 B4 M4 BZ4
  go_wp2
  go_loopw [56, 11, 12] (fun i want has wr => ∃ k : Nat, k ≤ 7 ∧ i = .int .i64 k ∧ want = .int .i64 ((pageF z k).getD 0) ∧ has = .bool (pageF z k).isSome ∧ Hid (Below w.heap.size w wr)) (fun i _ _ _ => 7 - (intOf i).toNat)
  case atStart => exact ⟨0, Nat.zero_le _, rfl, rfl, rfl, B5.out⟩
  case round =>
    clear B5
    obtain ⟨k, hk, rfl, rfl, rfl, B⟩ := hrel
    by_cases hlt : k < 7
    · have hp5 := Lib.hid (rprefixes_any (k : Int) wr)
      obtain ⟨wv, hwv⟩ : ∃ x, (pageF z k).getD 0 = x := ⟨_, rfl⟩
      obtain ⟨hv, hhv⟩ : ∃ x, (pageF z k).isSome = x := ⟨_, rfl⟩
      have WV := Lib.hid (And.intro hwv hhv)
      rw [hwv, hhv]
      clear hwv hhv
      go_wp2_with fail
      refine hp5.out.mono ?_
      rintro e w6 ⟨v, rfl, hO, hb6⟩
      obtain ⟨A6, c6, rfl, hB6⟩ := hO.bytes
      have B6 : Hid (Below w.heap.size w w6) := B.out.trans (hb6.mono B.out.size)
      have hle2 := pre_le (k : Int)
      have he := equalU_any A6 A c6 cap (preS k) z (by unfold maxLen; omega) HM.out w6 hB6 (HZ.out.below B6.out)
      rw [HL.out] at he
      obtain ⟨l6, hl6⟩ : ∃ l, (preS (k : Int)).length = l := ⟨_, rfl⟩
      rw [hl6] at he ⊢
      clear hp5 hO hb6 hB6 B hle2 hl6
      by_cases hm6 : preS (k : Int) = z
      · rw [decide_eq_true hm6] at he
        have NX := Lib.hid (pageF_hit z k hlt hm6)
        clear hm6
        go_wp2_with fail
        refine he.mono ?_
        rintro e w7 ⟨rfl, hb7⟩
        have B7 : Hid (Below w.heap.size w w7) := B6.out.trans (hb7.mono B6.out.size)
        clear he hb7 B6
        go_wp2
        go_roundw
        case rel => exact ⟨k + 1, by omega, by go_num, by rw [NX.out]; rfl, by rw [NX.out]; rfl, B7.out⟩
        case measure => simp [intOf]; omega
      · rw [decide_eq_false hm6] at he
        have NX := Lib.hid (pageF_miss z k hm6)
        clear hm6
        go_wp2_with fail
        refine he.mono ?_
        rintro e w7 ⟨rfl, hb7⟩
        have B7 : Hid (Below w.heap.size w w7) := B6.out.trans (hb7.mono B6.out.size)
        clear he hb7 B6
        go_wp2
        go_roundw
        case rel => exact ⟨k + 1, by omega, by go_num, by rw [NX.out, WV.out.1], by rw [NX.out, WV.out.2], B7.out⟩
        case measure => simp [intOf]; omega
    · obtain rfl : k = 7 := by omega
      have P7 : pageF z 7 = pt := HPT.out
      rw [P7]
      have M6 := Lib.hid (MX.out.below B.out)
      clear P7
      obtain ⟨x, hx⟩ : ∃ x, pt.getD 0 = x := ⟨_, rfl⟩
      obtain ⟨y, hy⟩ : ∃ x, pt.isSome = x := ⟨_, rfl⟩
      rw [hx, hy]
      clear hx hy
      go_wp2_with fail
      refine (AL.out wr M6.out).mono ?_
      rintro e w7 ⟨rfl, hb7⟩
      have B7 : Hid (Below w.heap.size w w7) := B.out.trans (hb7.mono B.out.size)
      clear hb7 B AL M6
      go_wp2
      go_ret
      exact ⟨by simp, B7.out⟩
set_option maxRecDepth 100000 in
set_option maxHeartbeats 8000000 in
theorem walk_lo (a : Int) (A : Option Addr) (cap : Nat) (z : Str) (w : World) (ha : -128 ≤ a ∧ a ≤ 127) (hr : a < 0) (hm : z.length ≤ maxLen) (hz : BytesAt w A z) (hM : MaxAt w) (h20 : ¬ 20 < z.length) :
    Calls Tryd.prog 4 #[.int .i8 a, .slice A z.length cap] w fun e w' => e = .returned (.bool true) ∧ Below w.heap.size w w' := by
  have AL := Lib.hid (fun w' h => alive_any w' h)
  obtain ⟨l, hl⟩ : ∃ l, z.length = l := ⟨_, rfl⟩
  have HL := Lib.hid hl
  have HM := Lib.hid hm
  have HZ := Lib.hid hz
  have HA := Lib.hid ha
  have MX := Lib.hid hM
  rw [hl] at h20 ⊢
  unfold maxLen at hm
  rw [hl] at hm
  have hp1 := Lib.hid (prefixes_any a w)
  clear hz hM hl
  go_enter Tryd.func4, Tryd.ntmps4
  go_wp2_with fail
  refine hp1.out.mono ?_
  rintro e w1 ⟨v, rfl, hO, hb1⟩
  obtain ⟨A1, c1, rfl, hB1⟩ := hO.bytes
  have hle := pre_le a
  obtain ⟨l1, hl1⟩ : ∃ l, (preS a).length = l := ⟨_, rfl⟩
  have po := pageOf_any A1 c1 (preS a) (by unfold maxLen; omega) w1 hB1
  rw [page_is a, hl1] at po
  rw [hl1] at hle ⊢
  have BA := Lib.hid hB1
  have B1 : Hid (Below w.heap.size w w1) := hb1
  have M1 := Lib.hid (MX.out.below hb1)
  have L1 := Lib.hid hl1
  clear hO hb1 hB1 hp1 hl1
  simp only [Option.getD_some, Option.isSome_some] at po
  rw [if_neg (show ¬(0 ≤ a ∧ a < 7) by omega)] at po
  go_wp2_with fail
  refine po.mono ?_
  rintro e w2 ⟨rfl, hb2⟩
  have B2 : Hid (Below w.heap.size w w2) := B1.out.trans (hb2.mono B1.out.size)
  have M2 := Lib.hid (M1.out.below hb2)
  have BA2 := Lib.hid (BA.out.below hb2)
  have hp2 := Lib.hid (rprefixes_any a w2)
  clear po hb2 BA B1 M1
  go_wp2_with fail
  refine hp2.out.mono ?_
  rintro e w3 ⟨v, rfl, hO, hb3⟩
  obtain ⟨A3, c3, rfl, hB3⟩ := hO.bytes
  have B3 : Hid (Below w.heap.size w w3) := B2.out.trans (hb3.mono B2.out.size)
  have M3 := Lib.hid (M2.out.below hb3)
  have he := equalU_any A1 A3 c1 c3 (preS a) (preS a) (by have := L1.out; unfold maxLen; omega) (by have := L1.out; unfold maxLen; omega) w3 (BA2.out.below hb3) hB3
  rw [decide_eq_true rfl, L1.out] at he
  rw [L1.out]
  clear hp2 hO hb3 hB3 BA2 B2 M2
  go_wp2_with fail
  refine he.mono ?_
  rintro e w4 ⟨rfl, hb4⟩
  have B4 : Hid (Below w.heap.size w w4) := B3.out.trans (hb4.mono B3.out.size)
  have M4 := Lib.hid (M3.out.below hb4)
  have BZ4 := Lib.hid (HZ.out.below B4.out)
  have pq := pageOf_any A cap z HM.out w4 BZ4.out
  rw [HL.out] at pq
  obtain ⟨pt, hpt⟩ : ∃ p, pageT z = p := ⟨_, rfl⟩
  have HPT := Lib.hid hpt
  rw [hpt] at pq
  clear he hb4 B3 M3 hpt
  go_wp2_with fail
  refine pq.mono ?_
  rintro e w5 ⟨rfl, hb5⟩
  have B5 : Hid (Below w.heap.size w w5) := B4.out.trans (hb5.mono B4.out.size)
  clear pq hb5 B4 M4 BZ4
  go_wp2
  go_loopw [56, 11, 12] (fun i want has wr => ∃ k : Nat, k ≤ 7 ∧ i = .int .i64 k ∧ want = .int .i64 ((pageF z k).getD 0) ∧ has = .bool (pageF z k).isSome ∧ Hid (Below w.heap.size w wr)) (fun i _ _ _ => 7 - (intOf i).toNat)
  case atStart => exact ⟨0, Nat.zero_le _, rfl, rfl, rfl, B5.out⟩
  case round =>
    clear B5
    obtain ⟨k, hk, rfl, rfl, rfl, B⟩ := hrel
    by_cases hlt : k < 7
    · have hp5 := Lib.hid (rprefixes_any (k : Int) wr)
      obtain ⟨wv, hwv⟩ : ∃ x, (pageF z k).getD 0 = x := ⟨_, rfl⟩
      obtain ⟨hv, hhv⟩ : ∃ x, (pageF z k).isSome = x := ⟨_, rfl⟩
      have WV := Lib.hid (And.intro hwv hhv)
      rw [hwv, hhv]
      clear hwv hhv
      go_wp2_with fail
      refine hp5.out.mono ?_
      rintro e w6 ⟨v, rfl, hO, hb6⟩
      obtain ⟨A6, c6, rfl, hB6⟩ := hO.bytes
      have B6 : Hid (Below w.heap.size w w6) := B.out.trans (hb6.mono B.out.size)
      have hle2 := pre_le (k : Int)
      have he := equalU_any A6 A c6 cap (preS k) z (by unfold maxLen; omega) HM.out w6 hB6 (HZ.out.below B6.out)
      rw [HL.out] at he
      obtain ⟨l6, hl6⟩ : ∃ l, (preS (k : Int)).length = l := ⟨_, rfl⟩
      rw [hl6] at he ⊢
      clear hp5 hO hb6 hB6 B hle2 hl6
      by_cases hm6 : preS (k : Int) = z
      · rw [decide_eq_true hm6] at he
        have NX := Lib.hid (pageF_hit z k hlt hm6)
        clear hm6
        go_wp2_with fail
        refine he.mono ?_
        rintro e w7 ⟨rfl, hb7⟩
        have B7 : Hid (Below w.heap.size w w7) := B6.out.trans (hb7.mono B6.out.size)
        clear he hb7 B6
        go_wp2
        go_roundw
        case rel => exact ⟨k + 1, by omega, by go_num, by rw [NX.out]; rfl, by rw [NX.out]; rfl, B7.out⟩
        case measure => simp [intOf]; omega
      · rw [decide_eq_false hm6] at he
        have NX := Lib.hid (pageF_miss z k hm6)
        clear hm6
        go_wp2_with fail
        refine he.mono ?_
        rintro e w7 ⟨rfl, hb7⟩
        have B7 : Hid (Below w.heap.size w w7) := B6.out.trans (hb7.mono B6.out.size)
        clear he hb7 B6
        go_wp2
        go_roundw
        case rel => exact ⟨k + 1, by omega, by go_num, by rw [NX.out, WV.out.1], by rw [NX.out, WV.out.2], B7.out⟩
        case measure => simp [intOf]; omega
    · obtain rfl : k = 7 := by omega
      have P7 : pageF z 7 = pt := HPT.out
      rw [P7]
      have M6 := Lib.hid (MX.out.below B.out)
      clear P7
      obtain ⟨x, hx⟩ : ∃ x, pt.getD 0 = x := ⟨_, rfl⟩
      obtain ⟨y, hy⟩ : ∃ x, pt.isSome = x := ⟨_, rfl⟩
      rw [hx, hy]
      clear hx hy
      go_wp2_with fail
      refine (AL.out wr M6.out).mono ?_
      rintro e w7 ⟨rfl, hb7⟩
      have B7 : Hid (Below w.heap.size w w7) := B.out.trans (hb7.mono B.out.size)
      clear hb7 B AL M6
      go_wp2
      go_ret
      exact ⟨by simp, B7.out⟩
set_option maxRecDepth 100000 in
set_option maxHeartbeats 8000000 in
theorem walk_hi (a : Int) (A : Option Addr) (cap : Nat) (z : Str) (w : World) (ha : -128 ≤ a ∧ a ≤ 127) (hr : 7 ≤ a) (hm : z.length ≤ maxLen) (hz : BytesAt w A z) (hM : MaxAt w) (h20 : ¬ 20 < z.length) :
    Calls Tryd.prog 4 #[.int .i8 a, .slice A z.length cap] w fun e w' => e = .returned (.bool true) ∧ Below w.heap.size w w' := by
  have AL := Lib.hid (fun w' h => alive_any w' h)
  obtain ⟨l, hl⟩ : ∃ l, z.length = l := ⟨_, rfl⟩
  have HL := Lib.hid hl
  have HM := Lib.hid hm
  have HZ := Lib.hid hz
  have HA := Lib.hid ha
  have MX := Lib.hid hM
  rw [hl] at h20 ⊢
  unfold maxLen at hm
  rw [hl] at hm
  have hp1 := Lib.hid (prefixes_any a w)
  clear hz hM hl
  go_enter Tryd.func4, Tryd.ntmps4
  go_wp2_with fail
  refine hp1.out.mono ?_
  rintro e w1 ⟨v, rfl, hO, hb1⟩
  obtain ⟨A1, c1, rfl, hB1⟩ := hO.bytes
  have hle := pre_le a
  obtain ⟨l1, hl1⟩ : ∃ l, (preS a).length = l := ⟨_, rfl⟩
  have po := pageOf_any A1 c1 (preS a) (by unfold maxLen; omega) w1 hB1
  rw [page_is a, hl1] at po
  rw [hl1] at hle ⊢
  have BA := Lib.hid hB1
  have B1 : Hid (Below w.heap.size w w1) := hb1
  have M1 := Lib.hid (MX.out.below hb1)
  have L1 := Lib.hid hl1
  clear hO hb1 hB1 hp1 hl1
  simp only [Option.getD_some, Option.isSome_some] at po
  rw [if_neg (show ¬(0 ≤ a ∧ a < 7) by omega)] at po
  go_wp2_with fail
  refine po.mono ?_
  rintro e w2 ⟨rfl, hb2⟩
  have B2 : Hid (Below w.heap.size w w2) := B1.out.trans (hb2.mono B1.out.size)
  have M2 := Lib.hid (M1.out.below hb2)
  have BA2 := Lib.hid (BA.out.below hb2)
  have hp2 := Lib.hid (rprefixes_any a w2)
  clear po hb2 BA B1 M1
  go_wp2_with fail
  refine hp2.out.mono ?_
  rintro e w3 ⟨v, rfl, hO, hb3⟩
  obtain ⟨A3, c3, rfl, hB3⟩ := hO.bytes
  have B3 : Hid (Below w.heap.size w w3) := B2.out.trans (hb3.mono B2.out.size)
  have M3 := Lib.hid (M2.out.below hb3)
  have he := equalU_any A1 A3 c1 c3 (preS a) (preS a) (by have := L1.out; unfold maxLen; omega) (by have := L1.out; unfold maxLen; omega) w3 (BA2.out.below hb3) hB3
  rw [decide_eq_true rfl, L1.out] at he
  rw [L1.out]
  clear hp2 hO hb3 hB3 BA2 B2 M2
  go_wp2_with fail
  refine he.mono ?_
  rintro e w4 ⟨rfl, hb4⟩
  have B4 : Hid (Below w.heap.size w w4) := B3.out.trans (hb4.mono B3.out.size)
  have M4 := Lib.hid (M3.out.below hb4)
  have BZ4 := Lib.hid (HZ.out.below B4.out)
  have pq := pageOf_any A cap z HM.out w4 BZ4.out
  rw [HL.out] at pq
  obtain ⟨pt, hpt⟩ : ∃ p, pageT z = p := ⟨_, rfl⟩
  have HPT := Lib.hid hpt
  rw [hpt] at pq
  clear he hb4 B3 M3 hpt
  go_wp2_with fail
  refine pq.mono ?_
  rintro e w5 ⟨rfl, hb5⟩
  have B5 : Hid (Below w.heap.size w w5) := B4.out.trans (hb5.mono B4.out.size)
  clear pq hb5 B4 M4 BZ4
  go_wp2
  go_loopw [56, 11, 12] (fun i want has wr => ∃ k : Nat, k ≤ 7 ∧ i = .int .i64 k ∧ want = .int .i64 ((pageF z k).getD 0) ∧ has = .bool (pageF z k).isSome ∧ Hid (Below w.heap.size w wr)) (fun i _ _ _ => 7 - (intOf i).toNat)
  case atStart => exact ⟨0, Nat.zero_le _, rfl, rfl, rfl, B5.out⟩
  case round =>
    clear B5
    obtain ⟨k, hk, rfl, rfl, rfl, B⟩ := hrel
    by_cases hlt : k < 7
    · have hp5 := Lib.hid (rprefixes_any (k : Int) wr)
      obtain ⟨wv, hwv⟩ : ∃ x, (pageF z k).getD 0 = x := ⟨_, rfl⟩
      obtain ⟨hv, hhv⟩ : ∃ x, (pageF z k).isSome = x := ⟨_, rfl⟩
      have WV := Lib.hid (And.intro hwv hhv)
      rw [hwv, hhv]
      clear hwv hhv
      go_wp2_with fail
      refine hp5.out.mono ?_
      rintro e w6 ⟨v, rfl, hO, hb6⟩
      obtain ⟨A6, c6, rfl, hB6⟩ := hO.bytes
      have B6 : Hid (Below w.heap.size w w6) := B.out.trans (hb6.mono B.out.size)
      have hle2 := pre_le (k : Int)
      have he := equalU_any A6 A c6 cap (preS k) z (by unfold maxLen; omega) HM.out w6 hB6 (HZ.out.below B6.out)
      rw [HL.out] at he
      obtain ⟨l6, hl6⟩ : ∃ l, (preS (k : Int)).length = l := ⟨_, rfl⟩
      rw [hl6] at he ⊢
      clear hp5 hO hb6 hB6 B hle2 hl6
      by_cases hm6 : preS (k : Int) = z
      · rw [decide_eq_true hm6] at he
        have NX := Lib.hid (pageF_hit z k hlt hm6)
        clear hm6
        go_wp2_with fail
        refine he.mono ?_
        rintro e w7 ⟨rfl, hb7⟩
        have B7 : Hid (Below w.heap.size w w7) := B6.out.trans (hb7.mono B6.out.size)
        clear he hb7 B6
        go_wp2
        go_roundw
        case rel => exact ⟨k + 1, by omega, by go_num, by rw [NX.out]; rfl, by rw [NX.out]; rfl, B7.out⟩
        case measure => simp [intOf]; omega
      · rw [decide_eq_false hm6] at he
        have NX := Lib.hid (pageF_miss z k hm6)
        clear hm6
        go_wp2_with fail
        refine he.mono ?_
        rintro e w7 ⟨rfl, hb7⟩
        have B7 : Hid (Below w.heap.size w w7) := B6.out.trans (hb7.mono B6.out.size)
        clear he hb7 B6
        go_wp2
        go_roundw
        case rel => exact ⟨k + 1, by omega, by go_num, by rw [NX.out, WV.out.1], by rw [NX.out, WV.out.2], B7.out⟩
        case measure => simp [intOf]; omega
    · obtain rfl : k = 7 := by omega
      have P7 : pageF z 7 = pt := HPT.out
      rw [P7]
      have M6 := Lib.hid (MX.out.below B.out)
      clear P7
      obtain ⟨x, hx⟩ : ∃ x, pt.getD 0 = x := ⟨_, rfl⟩
      obtain ⟨y, hy⟩ : ∃ x, pt.isSome = x := ⟨_, rfl⟩
      rw [hx, hy]
      clear hx hy
      go_wp2_with fail
      refine (AL.out wr M6.out).mono ?_
      rintro e w7 ⟨rfl, hb7⟩
      have B7 : Hid (Below w.heap.size w w7) := B.out.trans (hb7.mono B.out.size)
      clear hb7 B AL M6
      go_wp2
      go_ret
      exact ⟨by simp, B7.out⟩
set_option maxRecDepth 100000 in
set_option maxHeartbeats 8000000 in
theorem walk_long (a : Int) (A : Option Addr) (cap : Nat) (z : Str) (w : World) (hm : z.length ≤ maxLen) (hM : MaxAt w) (h20 : 20 < z.length) :
    Calls Tryd.prog 4 #[.int .i8 a, .slice A z.length cap] w fun e w' => e = .returned (.bool true) ∧ Below w.heap.size w w' := by
  obtain ⟨l, hl⟩ : ∃ l, z.length = l := ⟨_, rfl⟩
  have AL := Lib.hid (alive_any w hM)
  rw [hl] at hm h20 ⊢
  unfold maxLen at hm
  clear hl hM
  go_enter Tryd.func4, Tryd.ntmps4
  go_wp2_with fail
  refine AL.out.mono ?_
  rintro e w1 ⟨rfl, hb⟩
  have B1 := Lib.hid hb
  clear hb AL
  go_wp2
  go_ret
  exact ⟨rfl, B1.out⟩
theorem walk (a : Int) (A : Option Addr) (cap : Nat) (z : Str) (w : World) (wa : (Lit.int .i8 a).wf = true) (hm : z.length ≤ maxLen) (hz : BytesAt w A z) (hM : MaxAt w) :
    Calls Tryd.prog 4 #[.int .i8 a, .slice A z.length cap] w fun e w' => e = .returned (.bool true) ∧ Below w.heap.size w w' := by
  have ha : -128 ≤ a ∧ a ≤ 127 := by
    have h3 : IntKind.i8.min ≤ a ∧ a ≤ IntKind.i8.max := by simpa [Lit.wf] using wa
    exact h3
  by_cases h20 : 20 < z.length
  · exact walk_long a A cap z w hm hM h20
  · by_cases h0 : a < 0
    · exact walk_lo a A cap z w ha h0 hm hz hM h20
    · by_cases h7 : 7 ≤ a
      · exact walk_hi a A cap z w ha h7 hm hz hM h20
      · exact walk_in a A cap z w ha ⟨by omega, by omega⟩ hm hz hM h20

set_option maxRecDepth 100000 in
theorem lifted (os : Os) (started : os.Started) (H : Type) (enc : TypeId × Value → H) :
    ReturnsInHanded {} Tryd.checked os 4 .any (fun w args => (Rows.tablePrefixesSpec.pre enc Tryd.prog Tryd.f4 [] false w args ∧ laidMetH Tryd.prog Rows.tablePrefixesRow.laid w) ∧ sizedMet enc Tryd.prog Tryd.f4 (OpenSpec.ofChange Rows.tablePrefixesSpec) false w args)
      (Rows.tablePrefixesSpec.post enc Tryd.prog Tryd.f4 false true false false) := by
  refine wrap_shaped (C := Tryd.checked) (X := fun w _ => laidMetH Tryd.prog Rows.tablePrefixesRow.laid w) (fun _ _ _ hh h => h.of_heap hh) own started (by kernel_rfl) Tryd.func4
    (ChangeSpec.witness_shaped (enc := enc) (C := Tryd.checked) (os := os) (X := fun w _ => laidMetH Tryd.prog Rows.tablePrefixesRow.laid w) false (World.laidAll Tryd.prog os Rows.tablePrefixesRow.laid) #[.int .i8 0, .slice none 0 0] 8 (World.laidAll_os _ _ _)
      (World.shaped_of_ZipB (by kernel_rfl) (by kernel_rfl)) (by kernel_rfl) (by kernel_rfl) (by kernel_rfl)
      (by rw [MakeChecks.laidMetH_plain _ _ _ (by kernel_rfl)]; exact laidMet_laidAll _ (by kernel_rfl) (by kernel_rfl))) ?_
  intro W base args ds gs before hval0 hW hL hsh
  have hval : ∀ (j : Nat) t v, Tryd.f4.params[j]? = some t → args[j]? = some v → Value.okWide Tryd.prog W .any base t v := hval0
  have hW' := hW
  obtain ⟨p, q, hA0, hV, rfl, _, _⟩ := hW
  have hA : DataW.TrodAll enc Tryd.prog W 0 (fun _ => true) true Tryd.f4.params.toList args.toList ds p := hA0
  rw [Tryd.params4] at hA hval
  obtain ⟨v0, vs0, d0, ds0, p0, q0, hargs, rfl, rfl, h0, r0⟩ := trodAll_cons hA
  obtain ⟨v1, vs1, d1, ds1, p1, q1, rfl, rfl, rfl, h1, r1⟩ := trodAll_cons r0
  obtain ⟨rfl, rfl, rfl⟩ := trodAll_nil r1
  obtain rfl : args = #[v0, v1] := by cases args; simp_all
  obtain ⟨rfl, rfl⟩ := trodVars_none hV
  obtain ⟨a0, rfl, rfl, rfl, w0⟩ := open_int Tryd.underlying33 (hval 0 33 v0 rfl rfl) h0
  have k1 := h1
  have lt1 : ∀ x ∈ p1, x.block < W.heap.size := by obtain ⟨m, hm⟩ := k1; exact DataW.trod_lt m _ _ _ hm
  obtain ⟨a1, len1, cap1, rfl⟩ := okWide_slice Tryd.underlying34 (hval 1 34 v1 rfl rfl)
  obtain ⟨z1, hz1, hm1, w1⟩ : ∃ xs, len1 = xs.length ∧ len1 ≤ maxLen ∧ BytesAt W a1 xs := by
    obtain ⟨fuel, hf⟩ := h1
    have hf' : DataW.trod enc Tryd.prog W 0 (fun _ => true) true fuel 34 [.slice a1 len1 cap1] = some (d1, p1) := by simpa [Value.cells] using hf
    obtain ⟨A, len, cap, xs, e1, e2, e3, e4⟩ := open_bytesA hf'
    simp only [Value.slice.injEq] at e1
    obtain ⟨rfl, rfl, rfl⟩ := e1
    exact ⟨xs, e2, e3, e4⟩
  subst hz1
  clear hA0 hval0
  refine (walk a0 a1 cap1 z1 W w0 hm1 w1 (max_of_shape hsh)).mono fun e W' ⟨he, bel⟩ => ?_
  subst he
  exact ⟨_, rfl, _, _, _, [], _, [], hW', trodAll_mk1 (shut_bool Tryd.underlying4 _), (trodAll_cons_mk (shut_int Tryd.underlying33 w0) (trodAll_cons_mk (Below.trod laidOut (by kernel_rfl) (of_decide_eq_true (by kernel_rfl)) k1 bel lt1) trodAll_mk0)), rfl, bel.frame _, fun h => by cases h⟩

theorem over : Rows.TablePrefixesSaid :=
  OpenClaim.holds_of_wide 4 Tryd.f4 rfl rfl rfl rfl rfl rfl rfl ⟨rfl, rfl, rfl, rfl, rfl⟩ rfl rfl rfl rfl rfl (by kernel_rfl) Tryd.func4 (by kernel_rfl)
    (of_decide_eq_true (by kernel_rfl)) (by unfold Func.isWrapper; first | (rw [if_pos (by decide +kernel)]; kernel_rfl) | (rw [if_neg (by decide +kernel)]; exact ⟨rfl, rfl⟩))
    (fun os started H enc _ => lifted os started H enc)
theorem card_holds : Rows.TablePrefixesCardSaid :=
  Claim7.holds_tied_plain_at .later [] [.data, .pinned] true Rows.tablePrefixesCard.stood.harness false over (fun _ h => by cases h) (by kernel_rfl) (fun _ h => by cases h) tablePrefixes_row_tie rfl ⟨rfl, rfl⟩ (by kernel_rfl) rfl
    (fun f fn hf hfn => by
      obtain rfl : f = 4 := Option.some.inj ((show Tryd.prog.funcNamed Tryd.f4.name = some 4 by kernel_rfl).symm.trans hf) |>.symm
      obtain rfl : fn = Tryd.f4 := (Option.some.inj (Tryd.func4.symm.trans hfn)).symm
      exact ⟨by kernel_rfl, fun j t ht => by
        rw [Tryd.params4] at ht
        have hm : t ∈ [33, 34] := by simpa [or_assoc, or_comm, or_left_comm] using Array.mem_of_getElem? ht
        have hall : ([33, 34].all fun u => !Tryd.prog.wantsStandIn u) = true := by kernel_rfl
        exact (show Tryd.prog.wantsStandIn t = false by simpa using List.all_eq_true.1 hall t hm)⟩)
    (by kernel_rfl)
#print axioms card_holds
end Go.Proofs.YtipgecdfnbldnaaDoor.tablePrefixesDone
