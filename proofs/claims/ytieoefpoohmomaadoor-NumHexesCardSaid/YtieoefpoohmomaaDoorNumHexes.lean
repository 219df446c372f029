/-
  NumHexes, for every int and uint8: Hex returns the digits of the reference, and Bytes inverts two of them: the law returns true, and its arguments read as they did.
  Conditions: the package-level variables unicode/utf8.acceptRanges and unicode/utf8.first hold at the call's beginning what the program's text lays (the card ties them to it).
-/
import Derived.Test.YtieoefpoohmomaaDoorNumK
import Derived.Test.YtieoefpoohmomaaDoorNumL
import Derived.Test.YtieoefpoohmomaaDoorNumP
import Derived.Test.YtieoefpoohmomaaDoorCards
import Derived.Test.YtieoefpoohmomaaDoorTie
import Derived.ProofKit
import Derived.OpenShut
import Derived.Lay
import Derived.LaidOnce
import Derived.SevenTiedAt
import Derived.Below
namespace Go.Proofs.YtieoefpoohmomaaDoor.numHexesDone
open Go.ChangeShapes Go.WideShapes Go.ChangeAt Go.RowKit
open Go.ChangeMaps (open_string shut_string)
set_option linter.unusedVariables false

theorem own : ownKnob Tryd.prog.godebug = none := by kernel_rfl
theorem laidOut : laidOutB Tryd.prog = true := by kernel_rfl
/-- A slice of integers that came in: nil, or a row of 'cap' cells that hold the numbers 'zs'. -/
def IsRow (k : IntKind) (w : World) (a : Option Addr) (len cap : Nat) (zs : List Int) : Prop :=
  (a = none ∧ len = 0 ∧ cap = 0 ∧ zs = []) ∨
  ∃ x, a = some x ∧ len ≤ cap ∧ cap ≤ maxLen ∧ zs.length = cap ∧ (∀ i, i < zs.length → w.cell? (x.add i) = some (.int k (zs.getD i 0))) ∧ ∀ n ∈ zs, (Lit.int k n).wf = true

theorem hexI_any (n k : Int) (h0 : 0 ≤ k) (h1 : k ≤ 8) (w : World) :
    Calls Tryd.prog 15 #[.int .i64 n, .int .i64 k] w fun e w' => e = .returned (.string (hexS n k.toNat)) ∧ Below w.heap.size w w' := by
  have h := hex_any n k.toNat (by omega) w
  rwa [Int.toNat_of_nonneg h0] at h
theorem rhexI_any (n k : Int) (h0 : 0 ≤ k) (h1 : k ≤ 8) (w : World) :
    Calls Tryd.prog 16 #[.int .i64 n, .int .i64 k] w fun e w' => e = .returned (.string (hexS n k.toNat)) ∧ w = w' := by
  have h := rhex_any n k.toNat (by omega) w
  rwa [Int.toNat_of_nonneg h0] at h
theorem hex2_list (n : Int) : (hexS n 2).data.toList = [hexU (digI n 1), hexU (digI n 0)] := by
  unfold hexS; simp [List.range_succ]
theorem hex2_bytes (n : Int) : bytesOk (hexS n 2) = true ∧ bytesL (hexS n 2) = [lowU n] := by
  have f1 := (hexU_facts (digI n 1) (digI_bd n 1).1 (digI_bd n 1).2).2.2.2
  have f0 := (hexU_facts (digI n 0) (digI_bd n 0).1 (digI_bd n 0).2).2.2.2
  have b1 := digI_bd n 1
  have b0 := digI_bd n 0
  have a0 : hexAt (hexS n 2) 0 = digI n 1 := by unfold hexAt; rw [hex2_list]; exact f1
  have a1 : hexAt (hexS n 2) 1 = digI n 0 := by unfold hexAt; rw [hex2_list]; exact f0
  have hg : ∀ j, j < (hexS n 2).size / 2 → goodP (hexS n 2) j := by
    intro j hj
    rw [hexS_size] at hj
    obtain rfl : j = 0 := by omega
    unfold goodP
    rw [show 2 * 0 = 0 from rfl, show 0 + 1 = 1 from rfl, a0, a1]
    omega
  obtain ⟨h1, h2⟩ := bytes_good (hexS n 2) (by rw [hexS_size]) hg
  refine ⟨h1, ?_⟩
  rw [h2, hexS_size]
  show [lowU (pairI (hexS n 2) 0)] = [lowU n]
  have hp : pairI (hexS n 2) 0 = n % 256 := by
    unfold pairI
    rw [show 2 * 0 = 0 from rfl, show 0 + 1 = 1 from rfl, a0, a1]
    have d1 : digI n 1 = n / 16 % 16 := by unfold digI; simp
    have d0 : digI n 0 = n % 16 := by unfold digI; simp
    omega
  rw [hp]
  unfold lowU
  rw [Int.emod_emod_of_dvd n (by decide)]
theorem bytes2_any (n : Int) (w : World) : Calls Tryd.prog 14 #[.string (hexS n 2)] w (RetBytesOk w [lowU n] true) := by
  have h := bytes_any (hexS n 2) (by rw [hexS_size]; omega) w
  rwa [(hex2_bytes n).1, (hex2_bytes n).2] at h
theorem rlow1_any (n : Int) (w : World) : Calls Tryd.prog 18 #[.slice (some ⟨w.heap.size, 0, none⟩) 1 1] (w.alloc (.cells #[.int .i64 n] 3)) (RetBytes (w.alloc (.cells #[.int .i64 n] 3)) [lowU n]) :=
  rlow_any (some ⟨w.heap.size, 0, none⟩) 1 [n] (by simp) _ (ints_one w n _)
theorem equal1_any (A1 A2 : Option Addr) (c1 c2 : Nat) (b : UInt8) (w : World) (h1 : BytesB w A1 [b]) (h2 : BytesB w A2 [b]) :
    Calls Tryd.prog 17 #[.slice A1 1 c1, .slice A2 1 c2] w (SomeDraws w true) := by
  have h := equal_any A1 A2 c1 c2 [b] [b] (by simp [maxLen]) (by simp [maxLen]) w h1 h2
  rwa [decide_eq_true rfl] at h
theorem below_drewN {B : Nat} {a w : World} (h : Below B a w) (n : Nat) : Below B a (w.drewN n) := ⟨h.os, h.tape, h.output, h.size, h.block⟩

set_option maxHeartbeats 1000000 in
theorem walk (n d : Int) (w : World) (wn : (Lit.int .i64 n).wf = true) (wd : (Lit.int .u8 d).wf = true) :
    Calls Tryd.prog 5 #[.int .i64 n, .int .u8 d] w fun e w' => e = .returned (.bool true) ∧ Below w.heap.size w w' := by
  have hd : 0 ≤ d ∧ d ≤ 255 := by simpa [Lit.wf, IntKind.min, IntKind.max, IntKind.signed, IntKind.bits] using wd
  obtain ⟨d0, d1⟩ := hd
  clear wn wd
  have k0 : 0 ≤ d % 9 := by omega
  have k1 : d % 9 ≤ 8 := by omega
  go_enter Tryd.func5, Tryd.ntmps5
  go_wp2_with fail
  refine (hexI_any n 2 (by omega) (by omega) _).mono ?_
  rintro e w1 ⟨rfl, hb1⟩
  go_wp2_with fail
  refine (bytes2_any n _).mono ?_
  rintro e w2 ⟨A, c, rfl, hB, hb2⟩
  go_wp2_with fail
  refine (alive_any _).mono ?_
  rintro e w3 ⟨rfl, hb3⟩
  go_wp2_with fail
  refine (hexI_any n (d % 9) k0 k1 _).mono ?_
  rintro e w4 ⟨rfl, hb4⟩
  go_wp2_with fail
  refine (rhexI_any n (d % 9) k0 k1 _).mono ?_
  rintro e w' ⟨rfl, rfl⟩
  go_wp2_with fail
  refine (rlow1_any n _).mono ?_
  rintro e w5 ⟨A5, c5, rfl, hB5, hb5⟩
  have hbb : Below w2.heap.size w2 w5 := (hb3.trans (hb4.mono hb3.size)).trans ((((Below.refl _ _).alloc (Nat.le_refl _) _).trans (hb5.mono (by simp))).mono (Nat.le_trans hb3.size hb4.size))
  have hall : Below w.heap.size w w5 := (hb1.trans (hb2.mono hb1.size)).trans (hbb.mono (Nat.le_trans hb1.size hb2.size))
  have HB := Lib.hid (hB.below hbb)
  have HB5 := Lib.hid hB5
  have HA := Lib.hid hall
  clear hB hB5 hb1 hb2 hb3 hb4 hb5 hbb hall
  go_wp2_with fail
  refine (equal1_any _ _ _ _ _ _ HB.out HB5.out).mono ?_
  rintro e w6 ⟨rfl, q, rfl⟩
  go_wp2
  go_ret
  exact ⟨rfl, below_drewN HA.out q⟩

set_option maxRecDepth 100000 in
theorem lifted (os : Os) (started : os.Started) (H : Type) (enc : TypeId × Value → H) :
    ReturnsInHanded {} Tryd.checked os 5 .any (fun w args => (Rows.numHexesSpec.pre enc Tryd.prog Tryd.f5 [] false w args ∧ laidMetH Tryd.prog Rows.numHexesRow.laid w) ∧ sizedMet enc Tryd.prog Tryd.f5 (OpenSpec.ofChange Rows.numHexesSpec) false w args)
      (Rows.numHexesSpec.post enc Tryd.prog Tryd.f5 false true false false) := by
  refine returnsInHanded_of_change_and (C := Tryd.checked) (X := fun w _ => laidMetH Tryd.prog Rows.numHexesRow.laid w) (fun _ _ _ hh h => h.of_heap hh) own started (by kernel_rfl) Tryd.func5
    (ChangeSpec.witness_shaped (enc := enc) (C := Tryd.checked) (os := os) (X := fun w _ => laidMetH Tryd.prog Rows.numHexesRow.laid w) false (World.laidAll Tryd.prog os Rows.numHexesRow.laid) #[.int .i64 0, .int .u8 0] 8 (World.laidAll_os _ _ _)
      (World.shaped_of_ZipB (by kernel_rfl) (by kernel_rfl)) (by kernel_rfl) (by kernel_rfl) (by kernel_rfl)
      (by rw [MakeChecks.laidMetH_plain _ _ _ (by kernel_rfl)]; exact laidMet_laidAll _ (by kernel_rfl) (by kernel_rfl))) ?_
  intro W base args ds gs before hval0 hW _ _ hL _
  have hval : ∀ (j : Nat) t v, Tryd.f5.params[j]? = some t → args[j]? = some v → Value.okWide Tryd.prog W .any base t v := hval0
  have hW' := hW
  obtain ⟨p, q, hA0, hV, rfl, _, _⟩ := hW
  have hA : DataW.TrodAll enc Tryd.prog W 0 (fun _ => true) true Tryd.f5.params.toList args.toList ds p := hA0
  rw [Tryd.params5] at hA hval
  obtain ⟨v0, vs0, d0, ds0, p0, q0, hargs, rfl, rfl, h0, r0⟩ := trodAll_cons hA
  obtain ⟨v1, vs1, d1, ds1, p1, q1, rfl, rfl, rfl, h1, r1⟩ := trodAll_cons r0
  obtain ⟨rfl, rfl, rfl⟩ := trodAll_nil r1
  obtain rfl : args = #[v0, v1] := by cases args; simp_all
  obtain ⟨rfl, rfl⟩ := trodVars_none hV
  obtain ⟨a0, rfl, rfl, rfl, w0⟩ := open_int Tryd.underlying3 (hval 0 3 v0 rfl rfl) h0
  obtain ⟨a1, rfl, rfl, rfl, w1⟩ := open_int Tryd.underlying5 (hval 1 5 v1 rfl rfl) h1
  clear hA0 hval0
  refine (walk a0 a1 W w0 w1).mono fun e W' ⟨he, bel⟩ => ?_
  subst he
  exact ⟨_, rfl, _, _, _, [], _, [], hW', trodAll_mk1 (shut_bool Tryd.underlying4 _), (trodAll_cons_mk (shut_int Tryd.underlying3 w0) (trodAll_cons_mk (shut_int Tryd.underlying5 w1) trodAll_mk0)), rfl, bel.frame _, fun h => by cases h⟩

theorem over : Rows.NumHexesSaid :=
  OpenClaim.holds_of_wide 5 Tryd.f5 rfl rfl rfl rfl rfl rfl rfl ⟨rfl, rfl, rfl, rfl, rfl⟩ rfl rfl rfl rfl rfl (by kernel_rfl) Tryd.func5 (by kernel_rfl)
    (of_decide_eq_true (by kernel_rfl)) (by unfold Func.isWrapper; first | (rw [if_pos (by decide +kernel)]; kernel_rfl) | (rw [if_neg (by decide +kernel)]; exact ⟨rfl, rfl⟩))
    (fun os started H enc _ => lifted os started H enc)
theorem card_holds : Rows.NumHexesCardSaid :=
  Claim7.holds_tied_plain_at .later [] [.data, .pinned] true Rows.numHexesCard.stood.harness false over (fun _ h => by cases h) (by kernel_rfl) (fun _ h => by cases h) numHexes_row_tie rfl ⟨rfl, rfl⟩ (by kernel_rfl) rfl
    (fun f fn hf hfn => by
      obtain rfl : f = 5 := Option.some.inj ((show Tryd.prog.funcNamed "breadboard/breadboardlaw01.NumHexes" = some 5 by kernel_rfl).symm.trans hf) |>.symm
      obtain rfl : fn = Tryd.f5 := (Option.some.inj (Tryd.func5.symm.trans hfn)).symm
      exact ⟨by kernel_rfl, fun j t ht => by
        rw [Tryd.params5] at ht
        have hm : t ∈ [3, 5] := by simpa [or_assoc, or_comm, or_left_comm] using Array.mem_of_getElem? ht
        have hall : ([3, 5].all fun u => !Tryd.prog.wantsStandIn u) = true := by kernel_rfl
        exact (show Tryd.prog.wantsStandIn t = false by simpa using List.all_eq_true.1 hall t hm)⟩)
    (by kernel_rfl)
#print axioms card_holds
end Go.Proofs.YtieoefpoohmomaaDoor.numHexesDone
