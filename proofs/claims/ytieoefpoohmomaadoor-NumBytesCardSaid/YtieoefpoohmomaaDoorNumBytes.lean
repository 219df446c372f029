/-
  NumBytes, for every string: Bytes returns the bytes of the reference, or false, also for capital letters: the law returns true, and its argument reads as it did.
  Conditions: the package-level variables unicode/utf8.acceptRanges and unicode/utf8.first hold at the call's beginning what the program's text lays (the card ties them to it).
-/
import Derived.Test.YtieoefpoohmomaaDoorNumK
import Derived.Test.YtieoefpoohmomaaDoorNumL
import Derived.Test.YtieoefpoohmomaaDoorNumP
import Derived.Test.YtieoefpoohmomaaDoorCards
import Derived.Test.YtieoefpoohmomaaDoorTie
import Derived.ProofKit
import Derived.OpenShut
import Derived.Lay
import Derived.LaidOnce
import Derived.SevenTiedAt
import Derived.Below
namespace Go.Proofs.YtieoefpoohmomaaDoor.numBytesDone
open Go.ChangeShapes Go.WideShapes Go.ChangeAt Go.RowKit
open Go.ChangeMaps (open_string shut_string)
set_option linter.unusedVariables false

theorem own : ownKnob Tryd.prog.godebug = none := by kernel_rfl
theorem laidOut : laidOutB Tryd.prog = true := by kernel_rfl
/-- A slice of integers that came in: nil, or a row of 'cap' cells that hold the numbers 'zs'. -/
def IsRow (k : IntKind) (w : World) (a : Option Addr) (len cap : Nat) (zs : List Int) : Prop :=
  (a = none ∧ len = 0 ∧ cap = 0 ∧ zs = []) ∨
  ∃ x, a = some x ∧ len ≤ cap ∧ cap ≤ maxLen ∧ zs.length = cap ∧ (∀ i, i < zs.length → w.cell? (x.add i) = some (.int k (zs.getD i 0))) ∧ ∀ n ∈ zs, (Lit.int k n).wf = true

theorem hexV_cap (c : UInt8) : hexV ((capU c).toNat : Int) = hexV (c.toNat : Int) := by
  have t : ∀ n : Fin 256, hexV (capI (n.val : Int)) = hexV (n.val : Int) := by decide +kernel
  have h := t ⟨c.toNat, c.toNat_lt⟩
  rw [capU_nat]
  exact h
theorem hexAt_up (s : ByteArray) (i : Nat) : hexAt (upB s) i = hexAt s i := by
  unfold hexAt
  rw [upB_list, List.getD_eq_getElem?_getD, List.getD_eq_getElem?_getD, List.getElem?_map]
  cases s.data.toList[i]? with
  | none => rfl
  | some c => exact hexV_cap c
theorem bytes_up (s : ByteArray) : bytesOk (upB s) = bytesOk s ∧ bytesL (upB s) = bytesL s := by
  have hp : ∀ j, pairI (upB s) j = pairI s j := fun j => by unfold pairI; rw [hexAt_up, hexAt_up]
  have h1 : bytesOk (upB s) = bytesOk s := by
    unfold bytesOk
    refine decide_eq_decide.2 ?_
    unfold goodP
    simp only [hexAt_up, upB_size]
  refine ⟨h1, ?_⟩
  unfold bytesL
  rw [h1, upB_size]
  simp only [hp]
theorem bytesUp_any (s : ByteArray) (hs : s.size ≤ 281474976710656) (w : World) :
    Calls Tryd.prog 14 #[.string (upB s)] w (RetBytesOk w (bytesL s) (bytesOk s)) := by
  have h := bytes_any (upB s) (by rw [upB_size]; exact hs) w
  rwa [(bytes_up s).1, (bytes_up s).2] at h
theorem bytesL_len (s : ByteArray) : (bytesL s).length ≤ s.size := by
  unfold bytesL
  split
  · simp; omega
  · simp
theorem below_drewN {B : Nat} {a w : World} (h : Below B a w) (n : Nat) : Below B a (w.drewN n) := ⟨h.os, h.tape, h.output, h.size, h.block⟩
theorem equalS_any (A1 A2 : Option Addr) (c1 c2 n1 n2 : Nat) (xs : List UInt8) (hn1 : n1 = xs.length) (hn2 : n2 = xs.length) (hx : xs.length ≤ maxLen) (w : World) (h1 : BytesB w A1 xs) (h2 : BytesB w A2 xs) :
    Calls Tryd.prog 17 #[.slice A1 n1 c1, .slice A2 n2 c2] w (SomeDraws w true) := by
  subst hn1 hn2
  have h := equal_any A1 A2 c1 c2 xs xs hx hx w h1 h2
  rwa [decide_eq_true rfl] at h

set_option maxHeartbeats 1000000 in
theorem walk (s : ByteArray) (w : World) (ws : s.size ≤ maxLen) :
    Calls Tryd.prog 6 #[.string s] w fun e w' => e = .returned (.bool true) ∧ Below w.heap.size w w' := by
  have ws0 := ws
  unfold maxLen at ws
  by_cases hl : 1000 < s.size
  · go_enter Tryd.func6, Tryd.ntmps6
    go_wp2_with (go_at_call 9; refine (alive_any _).mono ?_; rintro e w1 ⟨rfl, hb1⟩)
    go_ret
    exact ⟨rfl, hb1⟩
  · have h1000 : s.size ≤ 1000 := by omega
    have hm : (bytesL s).length ≤ maxLen := by have := bytesL_len s; unfold maxLen; omega
    clear hl
    go_enter Tryd.func6, Tryd.ntmps6
    go_wp2_with fail
    refine (bytes_any s (by omega) _).mono ?_
    rintro e w1 ⟨A1, c1, rfl, hB1, hb1⟩
    go_wp2_with fail
    refine (rbytes_any s (by omega) _).mono ?_
    rintro e w2 ⟨A2, c2, rfl, hB2, hb2⟩
    go_wp2_with fail
    refine (upper_any s ws0 _).mono ?_
    rintro e w3 ⟨rfl, hb3⟩
    go_wp2_with fail
    refine (bytesUp_any s (by omega) _).mono ?_
    rintro e w4 ⟨A4, c4, rfl, hB4, hb4⟩
    go_wp2_with fail
    refine (alive_any _).mono ?_
    rintro e w5 ⟨rfl, hb5⟩
    have b45 : Below w4.heap.size w4 w5 := hb5
    have b35 : Below w3.heap.size w3 w5 := hb4.trans (hb5.mono hb4.size)
    have b25 : Below w2.heap.size w2 w5 := hb3.trans (b35.mono hb3.size)
    have b15 : Below w1.heap.size w1 w5 := hb2.trans (b25.mono hb2.size)
    have b05 : Below w.heap.size w w5 := hb1.trans (b15.mono hb1.size)
    have HB1 := Lib.hid (hB1.below b15)
    have HB2 := Lib.hid (hB2.below b25)
    have HB4 := Lib.hid (hB4.below b45)
    have HA := Lib.hid b05
    clear hB1 hB2 hB4 hb1 hb2 hb3 hb4 hb5 b45 b35 b25 b15 b05
    go_wp2_with fail
    refine (equalS_any _ _ _ _ _ _ _ rfl rfl hm _ HB1.out HB2.out).mono ?_
    rintro e w6 ⟨rfl, q, rfl⟩
    go_wp2_with fail
    refine (equalS_any _ _ _ _ _ _ _ rfl rfl hm _ (HB4.out.drewN q) (HB2.out.drewN q)).mono ?_
    rintro e w7 ⟨rfl, q2, rfl⟩
    go_wp2
    go_ret
    exact ⟨rfl, below_drewN HA.out _⟩

set_option maxRecDepth 100000 in
theorem lifted (os : Os) (started : os.Started) (H : Type) (enc : TypeId × Value → H) :
    ReturnsInHanded {} Tryd.checked os 6 .any (fun w args => (Rows.numBytesSpec.pre enc Tryd.prog Tryd.f6 [] false w args ∧ laidMetH Tryd.prog Rows.numBytesRow.laid w) ∧ sizedMet enc Tryd.prog Tryd.f6 (OpenSpec.ofChange Rows.numBytesSpec) false w args)
      (Rows.numBytesSpec.post enc Tryd.prog Tryd.f6 false true false false) := by
  refine returnsInHanded_of_change_and (C := Tryd.checked) (X := fun w _ => laidMetH Tryd.prog Rows.numBytesRow.laid w) (fun _ _ _ hh h => h.of_heap hh) own started (by kernel_rfl) Tryd.func6
    (ChangeSpec.witness_shaped (enc := enc) (C := Tryd.checked) (os := os) (X := fun w _ => laidMetH Tryd.prog Rows.numBytesRow.laid w) false (World.laidAll Tryd.prog os Rows.numBytesRow.laid) #[.string ⟨#[]⟩] 8 (World.laidAll_os _ _ _)
      (World.shaped_of_ZipB (by kernel_rfl) (by kernel_rfl)) (by kernel_rfl) (by kernel_rfl) (by kernel_rfl)
      (by rw [MakeChecks.laidMetH_plain _ _ _ (by kernel_rfl)]; exact laidMet_laidAll _ (by kernel_rfl) (by kernel_rfl))) ?_
  intro W base args ds gs before hval0 hW _ _ hL _
  have hval : ∀ (j : Nat) t v, Tryd.f6.params[j]? = some t → args[j]? = some v → Value.okWide Tryd.prog W .any base t v := hval0
  have hW' := hW
  obtain ⟨p, q, hA0, hV, rfl, _, _⟩ := hW
  have hA : DataW.TrodAll enc Tryd.prog W 0 (fun _ => true) true Tryd.f6.params.toList args.toList ds p := hA0
  rw [Tryd.params6] at hA hval
  obtain ⟨v0, vs0, d0, ds0, p0, q0, hargs, rfl, rfl, h0, r0⟩ := trodAll_cons hA
  obtain ⟨rfl, rfl, rfl⟩ := trodAll_nil r0
  obtain rfl : args = #[v0] := by cases args; simp_all
  obtain ⟨rfl, rfl⟩ := trodVars_none hV
  obtain ⟨s0, rfl, rfl, rfl, w0⟩ := open_string Tryd.underlying9 (hval 0 9 v0 rfl rfl) h0
  clear hA0 hval0
  refine (walk s0 W w0).mono fun e W' ⟨he, bel⟩ => ?_
  subst he
  exact ⟨_, rfl, _, _, _, [], _, [], hW', trodAll_mk1 (shut_bool Tryd.underlying4 _), (trodAll_cons_mk (shut_string Tryd.underlying9 w0) trodAll_mk0), rfl, bel.frame _, fun h => by cases h⟩

theorem over : Rows.NumBytesSaid :=
  OpenClaim.holds_of_wide 6 Tryd.f6 rfl rfl rfl rfl rfl rfl rfl ⟨rfl, rfl, rfl, rfl, rfl⟩ rfl rfl rfl rfl rfl (by kernel_rfl) Tryd.func6 (by kernel_rfl)
    (of_decide_eq_true (by kernel_rfl)) (by unfold Func.isWrapper; first | (rw [if_pos (by decide +kernel)]; kernel_rfl) | (rw [if_neg (by decide +kernel)]; exact ⟨rfl, rfl⟩))
    (fun os started H enc _ => lifted os started H enc)
theorem card_holds : Rows.NumBytesCardSaid :=
  Claim7.holds_tied_plain_at .later [] [.data, .pinned] true Rows.numBytesCard.stood.harness false over (fun _ h => by cases h) (by kernel_rfl) (fun _ h => by cases h) numBytes_row_tie rfl ⟨rfl, rfl⟩ (by kernel_rfl) rfl
    (fun f fn hf hfn => by
      obtain rfl : f = 6 := Option.some.inj ((show Tryd.prog.funcNamed "breadboard/breadboardlaw01.NumBytes" = some 6 by kernel_rfl).symm.trans hf) |>.symm
      obtain rfl : fn = Tryd.f6 := (Option.some.inj (Tryd.func6.symm.trans hfn)).symm
      exact ⟨by kernel_rfl, fun j t ht => by
        rw [Tryd.params6] at ht
        have hm : t ∈ [9] := by simpa [or_assoc, or_comm, or_left_comm] using Array.mem_of_getElem? ht
        have hall : ([9].all fun u => !Tryd.prog.wantsStandIn u) = true := by kernel_rfl
        exact (show Tryd.prog.wantsStandIn t = false by simpa using List.all_eq_true.1 hall t hm)⟩)
    (by kernel_rfl)
#print axioms card_holds
end Go.Proofs.YtieoefpoohmomaaDoor.numBytesDone
