/-
  NumLow, for every slice of int and all ints: Low, Signed and Fits return the results of the reference, and a signed byte is its number modulo 256: the law returns true, and its arguments read as they did.
  Conditions: the package-level variables unicode/utf8.acceptRanges and unicode/utf8.first hold at the call's beginning what the program's text lays (the card ties them to it).
-/
import Derived.Test.YtieoefpoohmomaaDoorNumK
import Derived.Test.YtieoefpoohmomaaDoorNumL
import Derived.Test.YtieoefpoohmomaaDoorNumP
import Derived.Test.YtieoefpoohmomaaDoorCards
import Derived.Test.YtieoefpoohmomaaDoorTie
import Derived.ProofKit
import Derived.OpenShut
import Derived.Lay
import Derived.LaidOnce
import Derived.SevenTiedAt
import Derived.Below
namespace Go.Proofs.YtieoefpoohmomaaDoor.numLowDone
open Go.ChangeShapes Go.WideShapes Go.ChangeAt Go.RowKit
open Go.ChangeMaps (open_string shut_string)
set_option linter.unusedVariables false

theorem own : ownKnob Tryd.prog.godebug = none := by kernel_rfl
theorem laidOut : laidOutB Tryd.prog = true := by kernel_rfl
/-- A slice of integers that came in: nil, or a row of 'cap' cells that hold the numbers 'zs'. -/
def IsRow (k : IntKind) (w : World) (a : Option Addr) (len cap : Nat) (zs : List Int) : Prop :=
  (a = none ∧ len = 0 ∧ cap = 0 ∧ zs = []) ∨
  ∃ x, a = some x ∧ len ≤ cap ∧ cap ≤ maxLen ∧ zs.length = cap ∧ (∀ i, i < zs.length → w.cell? (x.add i) = some (.int k (zs.getD i 0))) ∧ ∀ n ∈ zs, (Lit.int k n).wf = true

theorem below_drewN {B : Nat} {a w : World} (h : Below B a w) (n : Nat) : Below B a (w.drewN n) := ⟨h.os, h.tape, h.output, h.size, h.block⟩
theorem equalS_any (A1 A2 : Option Addr) (c1 c2 n1 n2 : Nat) (xs : List UInt8) (hn1 : n1 = xs.length) (hn2 : n2 = xs.length) (hx : xs.length ≤ maxLen) (w : World) (h1 : BytesB w A1 xs) (h2 : BytesB w A2 xs) :
    Calls Tryd.prog 17 #[.slice A1 n1 c1, .slice A2 n2 c2] w (SomeDraws w true) := by
  subst hn1 hn2
  have h := equal_any A1 A2 c1 c2 xs xs hx hx w h1 h2
  rwa [decide_eq_true rfl] at h
theorem equal1_any (A1 A2 : Option Addr) (c1 c2 : Nat) (b : UInt8) (w : World) (h1 : BytesB w A1 [b]) (h2 : BytesB w A2 [b]) :
    Calls Tryd.prog 17 #[.slice A1 1 c1, .slice A2 1 c2] w (SomeDraws w true) := by
  have h := equal_any A1 A2 c1 c2 [b] [b] (by simp [maxLen]) (by simp [maxLen]) w h1 h2
  rwa [decide_eq_true rfl] at h
theorem low_sgn (x : UInt8) : [sgnI (x.toNat : Int)].map lowU = [x] := by
  have h : lowU (sgnI (x.toNat : Int)) = x := by
    apply UInt8.toNat_inj.1
    have := lowU_nat (sgnI (x.toNat : Int))
    have hx := x.toNat_lt
    have e : sgnI (x.toNat : Int) % 256 = (x.toNat : Int) := by unfold sgnI; split <;> omega
    rw [e] at this
    omega
  simp [h]
theorem low1_any (x : UInt8) (w : World) : Calls Tryd.prog 21 #[.slice (some ⟨w.heap.size, 0, none⟩) 1 1] (w.alloc (.cells #[.int .i64 (sgnI (x.toNat : Int))] 3)) (RetBytes (w.alloc (.cells #[.int .i64 (sgnI (x.toNat : Int))] 3)) [x]) := by
  have h := low_any (some ⟨w.heap.size, 0, none⟩) 1 [sgnI (x.toNat : Int)] (by simp) _ (ints_one w _ 3)
  rwa [low_sgn] at h
theorem bytes_one (w : World) (x : UInt8) (t : TypeId) : BytesB (w.alloc (.cells #[.int .u8 (x.toNat : Int)] t)) (some ⟨w.heap.size, 0, none⟩) [x] := by
  refine .inr ⟨_, _, rfl, fun j h => ?_⟩
  obtain rfl : j = 0 := by simp at h; omega
  simp [go_sem]
theorem ints_of_row {w : World} {a : Option Addr} {len cap : Nat} {zs : List Int} (h : IsRow .i64 w a len cap zs) : len = (zs.take len).length ∧ IntsAt w a (zs.take len) := by
  rcases h with ⟨rfl, rfl, rfl, rfl⟩ | ⟨x, rfl, hl, hm, hz, hcell, hwz⟩
  · exact ⟨rfl, .inl rfl⟩
  · have hlen : len = (zs.take len).length := by simp; omega
    refine ⟨hlen, ?_⟩
    by_cases h0 : len = 0
    · subst h0; exact .inl rfl
    · obtain ⟨b, off, spot⟩ := x
      have hc := hcell 0 (by omega)
      have hspot : spot = none := by simpa [Addr.add] using World.cell?_spot hc
      subst hspot
      refine .inr ⟨b, off, rfl, fun j hj => ?_⟩
      have hj' : j < zs.length := by rw [← hlen] at hj; omega
      have h1 := hcell j hj'
      have e : (⟨b, off, none⟩ : Addr).add j = ⟨b, off + j, none⟩ := by
        by_cases h0 : j = 0
        · subst h0; simp [Addr.add]
        · simp [Addr.add, h0]
      rw [e] at h1
      rw [h1]
      simp [List.getD_eq_getElem?_getD, List.getElem?_eq_getElem hj']

set_option maxHeartbeats 1000000 in
set_option maxRecDepth 100000 in
theorem core (A : Option Addr) (cap : Nat) (zs : List Int) (lo hi : Int) (hl : zs.length ≤ 200) (w : World) (hz : IntsAt w A zs) :
    Calls Tryd.prog 7 #[.slice A zs.length cap, .int .i64 lo, .int .i64 hi] w fun e w' => e = .returned (.bool true) ∧ Below w.heap.size w w' := by
  have Z := Lib.hid hz
  clear hz
  have hmax : zs.length ≤ maxLen := by unfold maxLen; omega
  have hL : (zs.map lowU).length = zs.length := by simp
  obtain ⟨xs, hxs⟩ : ∃ xs, zs.map lowU = xs := ⟨_, rfl⟩
  have hlow := fun w h => low_any A cap zs (by omega) w h
  have hrlow := fun w h => rlow_any A cap zs (by omega) w h
  rw [hxs] at hL hlow hrlow
  clear hxs
  have hxl : xs.length ≤ 200 := by omega
  have hxm : xs.length ≤ maxLen := by unfold maxLen; omega
  have hf := fun w h => fits_any lo hi A cap zs hmax w h
  have hrf := fun w h => rfits_any lo hi A cap zs hmax w h
  obtain ⟨f, hfe⟩ : ∃ f, fitsB lo hi zs = f := ⟨_, rfl⟩
  rw [hfe] at hf hrf
  clear hfe
  have HF := Lib.hid hf
  have HRF := Lib.hid hrf
  clear hf hrf
  have HL := Lib.hid hL
  have HLow := Lib.hid hlow
  have HRLow := Lib.hid hrlow
  clear hL hlow hrlow
  go_enter Tryd.func7, Tryd.ntmps7
  go_wp2_with fail
  refine (HLow.out _ Z.out).mono ?_
  rintro e w1 ⟨A1, c1, rfl, hB1, hb1⟩
  have HB1 := Lib.hid hB1
  have Hb1 := Lib.hid hb1
  clear hB1 hb1
  go_wp2
  go_loopw [18] (fun i wr => ∃ k : Nat, k ≤ xs.length ∧ i = .int .i64 k ∧ Hid (Below w1.heap.size w1 wr)) (fun i _ => xs.length - (intOf i).toNat)
  case atStart => exact ⟨0, Nat.zero_le _, rfl, Below.refl _ _⟩
  case round =>
    obtain ⟨k, hk, rfl, R⟩ := hrel
    by_cases hlt : k < xs.length
    · obtain ⟨b, off, hA, g0⟩ := (HB1.out.below R.out).at_ hlt
      subst hA
      have x0 : (0 : Int) ≤ (xs[k].toNat : Int) := by omega
      have x1 : (xs[k].toNat : Int) ≤ 255 := by have := xs[k].toNat_lt; omega
      obtain ⟨x, hx⟩ : ∃ x, xs[k] = x := ⟨_, rfl⟩
      rw [hx] at g0 x0 x1
      clear hx
      go_wp2_with fail
      refine (signed_any _ x0 x1 _).mono ?_
      rintro e w' ⟨rfl, rfl⟩
      go_wp2_with fail
      refine (rsigned_any _ x0 x1 _).mono ?_
      rintro e w' ⟨rfl, rfl⟩
      go_wp2_with fail
      refine (signed_any _ x0 x1 _).mono ?_
      rintro e w' ⟨rfl, rfl⟩
      go_wp2_with fail
      refine (low1_any x _).mono ?_
      rintro e w2 ⟨A2, c2, rfl, hB2, hb2⟩
      have b2 : Below wr.heap.size wr w2 := ((Below.refl _ _).alloc (Nat.le_refl _) _).trans (hb2.mono (by simp))
      have HB2 := fun O => Lib.hid (hB2.below ((Below.refl w2.heap.size w2).alloc (Nat.le_refl _) O))
      have HB3 := Lib.hid (bytes_one w2 x 5)
      have B2 := fun O => Lib.hid (R.out.trans ((b2.alloc b2.size O).mono R.out.size))
      clear hB2 hb2 b2
      go_wp2_with fail
      refine (equal1_any _ _ _ _ x _ (HB2 _).out HB3.out).mono ?_
      rintro e w3 ⟨rfl, q, rfl⟩
      go_wp2
      go_roundw
      case rel => exact ⟨k + 1, by omega, by go_num, below_drewN (B2 _).out q⟩
      case measure => simp [intOf]; omega
    · go_wp2_with fail
      refine (alive_any _).mono ?_
      rintro e w2 ⟨rfl, hb2⟩
      have b12 := R.out.trans (hb2.mono R.out.size)
      have b02 := Hb1.out.trans (b12.mono Hb1.out.size)
      have Z2 := Lib.hid (Z.out.below b02)
      have B12 := Lib.hid b12
      have B02 := Lib.hid b02
      clear hb2 b12 b02
      go_wp2_with fail
      refine (HRLow.out _ Z2.out).mono ?_
      rintro e w3 ⟨A3, c3, rfl, hB3, hb3⟩
      have HB3 := Lib.hid hB3
      have HB4 := Lib.hid (HB1.out.below (B12.out.trans (hb3.mono B12.out.size)))
      have B03 := Lib.hid (B02.out.trans (hb3.mono B02.out.size))
      clear hB3 hb3
      go_wp2_with fail
      refine (equalS_any _ _ _ _ _ _ _ rfl rfl hxm _ HB4.out HB3.out).mono ?_
      rintro e w4 ⟨rfl, q, rfl⟩
      have Z3 := Lib.hid (Z.out.below (below_drewN B03.out q))
      go_wp2_with fail
      refine (HF.out _ Z3.out).mono ?_
      rintro e w' ⟨rfl, rfl⟩
      go_wp2_with fail
      refine (HRF.out _ Z3.out).mono ?_
      rintro e w' ⟨rfl, rfl⟩
      cases f
      · go_wp2
        go_ret
        exact ⟨rfl, below_drewN B03.out q⟩
      · go_wp2
        go_ret
        exact ⟨rfl, below_drewN B03.out q⟩

set_option maxHeartbeats 400000 in
theorem walk (a0 : Option Addr) (len0 cap0 : Nat) (z0 : List Int) (lo hi : Int) (w : World) (w0 : IsRow .i64 w a0 len0 cap0 z0) (w1 : (Lit.int .i64 lo).wf = true) (w2 : (Lit.int .i64 hi).wf = true) :
    Calls Tryd.prog 7 #[.slice a0 len0 cap0, .int .i64 lo, .int .i64 hi] w fun e w' => e = .returned (.bool true) ∧ Below w.heap.size w w' := by
  clear w1 w2
  by_cases hl : 200 < len0
  · clear w0
    go_enter Tryd.func7, Tryd.ntmps7
    go_wp2_with (go_at_call 9; refine (alive_any _).mono ?_; rintro e w1 ⟨rfl, hb1⟩)
    go_ret
    exact ⟨rfl, hb1⟩
  · obtain ⟨h1, h2⟩ := ints_of_row w0
    have h := core a0 cap0 (z0.take len0) lo hi (by rw [← h1]; omega) w h2
    rwa [← h1] at h

set_option maxRecDepth 100000 in
theorem lifted (os : Os) (started : os.Started) (H : Type) (enc : TypeId × Value → H) :
    ReturnsInHanded {} Tryd.checked os 7 .any (fun w args => (Rows.numLowSpec.pre enc Tryd.prog Tryd.f7 [] false w args ∧ laidMetH Tryd.prog Rows.numLowRow.laid w) ∧ sizedMet enc Tryd.prog Tryd.f7 (OpenSpec.ofChange Rows.numLowSpec) false w args)
      (Rows.numLowSpec.post enc Tryd.prog Tryd.f7 false true false false) := by
  refine returnsInHanded_of_change_and (C := Tryd.checked) (X := fun w _ => laidMetH Tryd.prog Rows.numLowRow.laid w) (fun _ _ _ hh h => h.of_heap hh) own started (by kernel_rfl) Tryd.func7
    (ChangeSpec.witness_shaped (enc := enc) (C := Tryd.checked) (os := os) (X := fun w _ => laidMetH Tryd.prog Rows.numLowRow.laid w) false (World.laidAll Tryd.prog os Rows.numLowRow.laid) #[.slice none 0 0, .int .i64 0, .int .i64 0] 8 (World.laidAll_os _ _ _)
      (World.shaped_of_ZipB (by kernel_rfl) (by kernel_rfl)) (by kernel_rfl) (by kernel_rfl) (by kernel_rfl)
      (by rw [MakeChecks.laidMetH_plain _ _ _ (by kernel_rfl)]; exact laidMet_laidAll _ (by kernel_rfl) (by kernel_rfl))) ?_
  intro W base args ds gs before hval0 hW _ _ hL _
  have hval : ∀ (j : Nat) t v, Tryd.f7.params[j]? = some t → args[j]? = some v → Value.okWide Tryd.prog W .any base t v := hval0
  have hW' := hW
  obtain ⟨p, q, hA0, hV, rfl, _, _⟩ := hW
  have hA : DataW.TrodAll enc Tryd.prog W 0 (fun _ => true) true Tryd.f7.params.toList args.toList ds p := hA0
  rw [Tryd.params7] at hA hval
  obtain ⟨v0, vs0, d0, ds0, p0, q0, hargs, rfl, rfl, h0, r0⟩ := trodAll_cons hA
  obtain ⟨v1, vs1, d1, ds1, p1, q1, rfl, rfl, rfl, h1, r1⟩ := trodAll_cons r0
  obtain ⟨v2, vs2, d2, ds2, p2, q2, rfl, rfl, rfl, h2, r2⟩ := trodAll_cons r1
  obtain ⟨rfl, rfl, rfl⟩ := trodAll_nil r2
  obtain rfl : args = #[v0, v1, v2] := by cases args; simp_all
  obtain ⟨rfl, rfl⟩ := trodVars_none hV
  obtain ⟨a0, len0, cap0, rfl⟩ := okWide_slice Tryd.underlying34 (hval 0 34 v0 rfl rfl)
  have k0 := h0
  have lt0 : ∀ x ∈ p0, x.block < W.heap.size := by obtain ⟨m, hm⟩ := k0; exact DataW.trod_lt m _ _ _ hm
  obtain ⟨z0, w0⟩ : ∃ zs, IsRow .i64 W a0 len0 cap0 zs := by
    obtain ⟨fuel, hf⟩ := h0
    rcases open_ints Tryd.underlying34 Tryd.underlying3 (by kernel_rfl) hf with ⟨hcs, _⟩ | ⟨x, l, c, zs, hcs, _, hl, hm, hz, _, hcell, hwz⟩
    · simp [Value.cells] at hcs
      obtain ⟨rfl, rfl, rfl⟩ := hcs
      exact ⟨[], .inl ⟨rfl, rfl, rfl, rfl⟩⟩
    · simp [Value.cells] at hcs
      obtain ⟨rfl, rfl, rfl⟩ := hcs
      exact ⟨zs, .inr ⟨_, rfl, hl, hm, by simpa using hz, hcell, hwz⟩⟩
  obtain ⟨a1, rfl, rfl, rfl, w1⟩ := open_int Tryd.underlying3 (hval 1 3 v1 rfl rfl) h1
  obtain ⟨a2, rfl, rfl, rfl, w2⟩ := open_int Tryd.underlying3 (hval 2 3 v2 rfl rfl) h2
  clear hA0 hval0
  refine (walk a0 len0 cap0 z0 a1 a2 W w0 w1 w2).mono fun e W' ⟨he, bel⟩ => ?_
  subst he
  exact ⟨_, rfl, _, _, _, [], _, [], hW', trodAll_mk1 (shut_bool Tryd.underlying4 _), (trodAll_cons_mk (Below.trod laidOut (by kernel_rfl) (of_decide_eq_true (by kernel_rfl)) k0 bel lt0) (trodAll_cons_mk (shut_int Tryd.underlying3 w1) (trodAll_cons_mk (shut_int Tryd.underlying3 w2) trodAll_mk0))), rfl, bel.frame _, fun h => by cases h⟩

theorem over : Rows.NumLowSaid :=
  OpenClaim.holds_of_wide 7 Tryd.f7 rfl rfl rfl rfl rfl rfl rfl ⟨rfl, rfl, rfl, rfl, rfl⟩ rfl rfl rfl rfl rfl (by kernel_rfl) Tryd.func7 (by kernel_rfl)
    (of_decide_eq_true (by kernel_rfl)) (by unfold Func.isWrapper; first | (rw [if_pos (by decide +kernel)]; kernel_rfl) | (rw [if_neg (by decide +kernel)]; exact ⟨rfl, rfl⟩))
    (fun os started H enc _ => lifted os started H enc)
theorem card_holds : Rows.NumLowCardSaid :=
  Claim7.holds_tied_plain_at .later [] [.data, .pinned] true Rows.numLowCard.stood.harness false over (fun _ h => by cases h) (by kernel_rfl) (fun _ h => by cases h) numLow_row_tie rfl ⟨rfl, rfl⟩ (by kernel_rfl) rfl
    (fun f fn hf hfn => by
      obtain rfl : f = 7 := Option.some.inj ((show Tryd.prog.funcNamed "breadboard/breadboardlaw01.NumLow" = some 7 by kernel_rfl).symm.trans hf) |>.symm
      obtain rfl : fn = Tryd.f7 := (Option.some.inj (Tryd.func7.symm.trans hfn)).symm
      exact ⟨by kernel_rfl, fun j t ht => by
        rw [Tryd.params7] at ht
        have hm : t ∈ [34, 3, 3] := by simpa [or_assoc, or_comm, or_left_comm] using Array.mem_of_getElem? ht
        have hall : ([34, 3, 3].all fun u => !Tryd.prog.wantsStandIn u) = true := by kernel_rfl
        exact (show Tryd.prog.wantsStandIn t = false by simpa using List.all_eq_true.1 hall t hm)⟩)
    (by kernel_rfl)
#print axioms card_holds
end Go.Proofs.YtieoefpoohmomaaDoor.numLowDone
