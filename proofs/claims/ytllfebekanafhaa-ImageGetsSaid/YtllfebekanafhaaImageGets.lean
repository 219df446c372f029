/-
  ImageGets, for every list of runs and all addresses: Get returns the byte of the reference, or false: the law returns true, and its arguments read as they did.
  Conditions: none.
-/
import Derived.Test.YtllfebekanafhaaImgU
import Derived.Test.YtllfebekanafhaaRows
import Derived.ProofKit
import Derived.OpenShut
import Derived.Lay
import Derived.LaidOnce
import Derived.SevenTiedAt
import Derived.Below
namespace Go.Proofs.Ytllfebekanafhaa.imageGetsDone
open Go.ChangeShapes Go.WideShapes Go.ChangeAt Go.RowKit
open Go.ChangeMaps (open_string shut_string)
set_option linter.unusedVariables false

theorem own : ownKnob Try.prog.godebug = none := by kernel_rfl
theorem laidOut : laidOutB Try.prog = true := by kernel_rfl
/-- A slice of integers that came in: nil, or a row of 'cap' cells that hold the numbers 'zs'. -/
def IsRow (k : IntKind) (w : World) (a : Option Addr) (len cap : Nat) (zs : List Int) : Prop :=
  (a = none ∧ len = 0 ∧ cap = 0 ∧ zs = []) ∨
  ∃ x, a = some x ∧ len ≤ cap ∧ cap ≤ maxLen ∧ zs.length = cap ∧ (∀ i, i < zs.length → w.cell? (x.add i) = some (.int k (zs.getD i 0))) ∧ ∀ n ∈ zs, (Lit.int k n).wf = true

theorem ne_same (c : Int) : (c != c) = false := by simp
theorem ne_sameB (c : Bool) : (c != c) = false := by simp
theorem getV_nil (a : Int) : getV [] a = 0 ∧ getOk [] a = false := by
  unfold getV getOk
  cases addrB a <;> exact ⟨rfl, rfl⟩
theorem IsRow.at_ {w : World} {a : Option Addr} {len cap : Nat} {zs : List Int} (h : IsRow .i64 w a len cap zs) {k : Nat} (hk : k < len) : ∃ b off x, a = some ⟨b, off, none⟩ ∧ w.cell? ⟨b, off + k, none⟩ = some (.int .i64 x) := by
  rcases h with ⟨_, h, _⟩ | ⟨x, rfl, hl, _, hz, hc, _⟩
  · omega
  · obtain ⟨b, off, rfl⟩ := plain_of_cell (hc 0 (by omega))
    have e := hc k (by omega)
    have hadd : (⟨b, off, none⟩ : Addr).add k = ⟨b, off + k, none⟩ := by unfold Addr.add; split <;> simp_all
    rw [hadd] at e
    exact ⟨b, off, _, rfl, e⟩
set_option maxHeartbeats 4000000 in
theorem walk (A : Option Addr) (cap : Nat) (rs : List R) (A1 : Option Addr) (len1 cap1 : Nat) (zs : List Int) (w : World) (hm : rs.length ≤ maxLen) (hR : RunsP (fun _ => True) (fun _ => True) w A rs) (hd : ∀ r ∈ rs, r.data.length ≤ maxLen) (hz : IsRow .i64 w A1 len1 cap1 zs) :
    Calls Try.prog 4 #[.slice A rs.length cap, .slice A1 len1 cap1] w fun e w' => e = .returned (.bool true) ∧ Below w.heap.size w w' := by
  have hml : len1 ≤ 9223372036854775807 := by
    rcases hz with ⟨_, h, _⟩ | ⟨_, _, h1, h2, _⟩
    · omega
    · unfold maxLen at h2; omega
  have Z := Lib.hid (hR.mono (T := (· < w.heap.size)) (Q := (· < w.heap.size)) (fun _ h _ => h) (fun _ h _ => h))
  have HD := Lib.hid hd
  have HZ := Lib.hid hz
  clear hR hd hz
  have hf := fewAll_any _ _ A cap rs hm w Z.out HD.out
  cases hfb : fewB rs
  · rw [hfb] at hf
    clear hfb
    go_enter Try.func4, Try.ntmps4
    go_wp2_with fail
    refine hf.mono ?_
    rintro e w1 ⟨rfl, rfl⟩
    go_wp2_with fail
    refine (alive_any _).mono ?_
    rintro e w1 ⟨rfl, hb1⟩
    have N := Lib.hid hb1
    clear hb1
    go_wp2
    go_ret
    exact ⟨rfl, N.out⟩
  · rw [hfb] at hf
    have hl60 := few_len hfb
    clear hfb hm
    by_cases h100 : 100 < len1
    · have h100' : (100 : Int) < (len1 : Int) := by omega
      go_enter Try.func4, Try.ntmps4
      go_wp2_with fail
      refine hf.mono ?_
      rintro e w1 ⟨rfl, rfl⟩
      go_wp2_with fail
      refine (alive_any _).mono ?_
      rintro e w1 ⟨rfl, hb1⟩
      have N := Lib.hid hb1
      clear hb1
      go_wp2
      go_ret
      exact ⟨rfl, N.out⟩
    · have h100' : decide ((100 : Int) < (len1 : Int)) = false := decide_eq_false (by omega)
      have H60 := Lib.hid hl60
      have HM := Lib.hid hml
      clear hl60 hml h100
      go_enter Try.func4, Try.ntmps4
      go_wp2_with fail
      refine hf.mono ?_
      rintro e w1 ⟨rfl, rfl⟩
      clear hf
      go_wp2_with fail
      refine (given_any _ _ A cap rs (Nat.le_trans H60.out (by omega)) _ Z.out).mono ?_
      rintro e w1 ⟨A2, cap2, rfl, _, hR1, hB1⟩
      have R1 := Lib.hid hR1
      have B1 := Lib.hid hB1
      clear hR1 hB1
      go_wp2_with fail
      refine (iof_any _ _ A2 cap2 rs (Nat.le_trans H60.out (by omega)) _ R1.out HD.out).mono ?_
      rintro e w2 ⟨hg, hb, hB2⟩
      have Z2 := Lib.hid (Z.out.below (B1.out.trans (hB2.mono B1.out.size)))
      have hro := rof_any _ _ A cap rs (Nat.le_trans H60.out (by omega)) w2 Z2.out HD.out
      obtain ⟨W, hW⟩ : ∃ W, (ofW [] rs).1 = W := ⟨_, rfl⟩
      obtain ⟨c, hc⟩ : ∃ c, (ofW [] rs).2 = c := ⟨_, rfl⟩
      rw [hW, hc] at hro
      have BB := Lib.hid (B1.out.trans (hB2.mono B1.out.size))
      clear hB2
      by_cases h0 : c = 0
      · obtain ⟨b, rfl, _, hI⟩ := hg (by rw [hc]; exact h0)
        rw [hW] at hI
        subst h0
        have I2 := Lib.hid hI
        clear hI hg hb hW hc
        go_wp2_with fail
        refine hro.mono ?_
        rintro e w3 ⟨A3, cap3, rfl, _, hC3, hB3⟩
        have I3 := Lib.hid (I2.out.below hB3)
        have C3 := Lib.hid hC3
        have B3 := Lib.hid (BB.out.trans (hB3.mono BB.out.size))
        clear hro hC3 hB3
        go_wp2
        go_loop [47] (fun i => ∃ k : Nat, k ≤ len1 ∧ i = .int .i64 k) (fun i => len1 - (intOf i).toNat)
        case atStart => exact ⟨0, Nat.zero_le _, rfl⟩
        case round =>
          obtain ⟨k, hk, rfl⟩ := hrel
          by_cases hlt : k < len1
          · obtain ⟨bb, off, x, hA, g⟩ := HZ.out.at_ hlt
            subst hA
            have g' := (B3.out.cell (p := ⟨bb, off + k, none⟩) (World.block_lt_of_cell? w _ g)).trans g
            have hlt' : (k : Int) < (len1 : Int) := by omega
            have n1 := ne_same ((getV W x).toNat : Int)
            have n2 := ne_sameB (getOk W x)
            have HM' := HM.out
            clear g
            go_wp2_with fail
            refine (getOf_any b W x _ I3.out).mono ?_
            rintro e w4 ⟨rfl, rfl⟩
            go_wp2_with fail
            refine (rget_any _ A3 cap3 W I3.out.1 x _ C3.out).mono ?_
            rintro e w4 ⟨rfl, rfl⟩
            go_wp2
            go_round
            case rel => exact ⟨k + 1, by omega, by go_num⟩
            case measure => simp [intOf]; omega
          · have hlt' : decide ((k : Int) < (len1 : Int)) = false := decide_eq_false (by omega)
            go_wp2_with fail
            refine (alive_any _).mono ?_
            rintro e w4 ⟨rfl, hb4⟩
            have I4 := Lib.hid (I3.out.below hb4)
            have C4 := Lib.hid (C3.out.below hb4)
            have B4 := Lib.hid (B3.out.trans (hb4.mono B3.out.size))
            clear hb4
            go_wp2_with fail
            refine (lsame_any b _ _ A3 cap3 _ I4.out C4.out).mono ?_
            rintro e w5 ⟨rfl, hb5⟩
            have B5 := Lib.hid (B4.out.trans (hb5.mono B4.out.size))
            clear hb5
            go_wp2
            go_ret
            exact ⟨rfl, B5.out⟩
      · have hWn : W = [] := by rw [← hW]; exact ofW_fail [] rs (by rw [hc]; exact h0)
        subst hWn
        have he := hb (by rw [hc]; exact h0)
        subst he
        have hcn : (c == 0) = false := beq_eq_false_iff_ne.2 h0
        have hcn2 : (c != 0) = true := by unfold bne; rw [hcn]; rfl
        have hcc := ne_same c
        rw [hc]
        clear hg hb hW hc h0
        go_wp2_with fail
        refine hro.mono ?_
        rintro e w3 ⟨A3, cap3, rfl, _, hC3, hB3⟩
        have B3 := Lib.hid (BB.out.trans (hB3.mono BB.out.size))
        have C3 := Lib.hid hC3
        clear hro hC3 hB3
        go_wp2
        go_loop [47] (fun i => ∃ k : Nat, k ≤ len1 ∧ i = .int .i64 k) (fun i => len1 - (intOf i).toNat)
        case atStart => exact ⟨0, Nat.zero_le _, rfl⟩
        case round =>
          obtain ⟨k, hk, rfl⟩ := hrel
          by_cases hlt : k < len1
          · obtain ⟨bb, off, x, hA, g⟩ := HZ.out.at_ hlt
            subst hA
            have g' := (B3.out.cell (p := ⟨bb, off + k, none⟩) (World.block_lt_of_cell? w _ g)).trans g
            have hlt' : (k : Int) < (len1 : Int) := by omega
            have hrg := fun w h => rget_any (fun i => w2.heap.size ≤ i) A3 cap3 [] sorted_nil x w h
            rw [(getV_nil x).1, (getV_nil x).2] at hrg
            have HM' := HM.out
            clear g
            go_wp2_with fail
            refine (getNil_any x _).mono ?_
            rintro e w4 ⟨rfl, rfl⟩
            go_wp2_with fail
            refine (hrg _ C3.out).mono ?_
            rintro e w4 ⟨rfl, rfl⟩
            go_wp2
            go_round
            case rel => exact ⟨k + 1, by omega, by go_num⟩
            case measure => simp [intOf]; omega
          · have hlt' : decide ((k : Int) < (len1 : Int)) = false := decide_eq_false (by omega)
            go_wp2_with fail
            refine (alive_any _).mono ?_
            rintro e w4 ⟨rfl, hb4⟩
            have B4 := Lib.hid (B3.out.trans (hb4.mono B3.out.size))
            clear hb4
            go_wp2
            go_ret
            exact ⟨rfl, B4.out⟩

set_option maxRecDepth 100000 in
theorem lifted (os : Os) (started : os.Started) (H : Type) (enc : TypeId × Value → H) :
    ReturnsInHanded {} Try.checked os 4 .any (Rows.imageGetsSpec.pre6 enc Try.prog Try.f4 Rows.imageGetsRow.domain false) (Rows.imageGetsSpec.post enc Try.prog Try.f4 false true false false) := by
  refine returnsInHanded_of_change (C := Try.checked) own started (by kernel_rfl) Try.func4
    (ChangeSpec.witness6 (enc := enc) (C := Try.checked) false ⟨#[], #[.slice none 0 0, .slice none 0 0], []⟩ 8 (by kernel_rfl) (by kernel_rfl) (by kernel_rfl) (by kernel_rfl)) ?_
  intro W base args ds gs before hval0 hW _ _
  have hval : ∀ (j : Nat) t v, Try.f4.params[j]? = some t → args[j]? = some v → Value.okWide Try.prog W .any base t v := hval0
  have hW' := hW
  obtain ⟨p, q, hA0, hV, rfl, _, _⟩ := hW
  have hA : DataW.TrodAll enc Try.prog W 0 (fun _ => true) true Try.f4.params.toList args.toList ds p := hA0
  rw [Try.params4] at hA hval
  obtain ⟨v0, vs0, d0, ds0, p0, q0, hargs, rfl, rfl, h0, r0⟩ := trodAll_cons hA
  obtain ⟨v1, vs1, d1, ds1, p1, q1, rfl, rfl, rfl, h1, r1⟩ := trodAll_cons r0
  obtain ⟨rfl, rfl, rfl⟩ := trodAll_nil r1
  obtain rfl : args = #[v0, v1] := by cases args; simp_all
  obtain ⟨rfl, rfl⟩ := trodVars_none hV
  have k0 := h0
  have lt0 : ∀ x ∈ p0, x.block < W.heap.size := by obtain ⟨m, hm⟩ := k0; exact DataW.trod_lt m _ _ _ hm
  obtain ⟨a0, len0, cap0, rfl⟩ := okWide_slice Try.underlying22 (hval 0 22 v0 rfl rfl)
  obtain ⟨z0, hz0, hm0, w0, d0'⟩ : ∃ rs, len0 = rs.length ∧ len0 ≤ maxLen ∧ RunsP (fun _ => True) (fun _ => True) W a0 rs ∧ ∀ r ∈ rs, r.data.length ≤ maxLen := by
    obtain ⟨fuel, hf⟩ := h0
    have hf' : DataW.trod enc Try.prog W 0 (fun _ => true) true fuel 22 [.slice a0 len0 cap0] = some (d0, p0) := by simpa [Value.cells] using hf
    obtain ⟨A, len, cap, rs, e1, e2, e3, e4, e5⟩ := open_runs hf'
    simp only [Value.slice.injEq] at e1
    obtain ⟨rfl, rfl, rfl⟩ := e1
    exact ⟨rs, e2, e3, e4, e5⟩
  subst hz0
  obtain ⟨a1, len1, cap1, rfl⟩ := okWide_slice Try.underlying36 (hval 1 36 v1 rfl rfl)
  have k1 := h1
  have lt1 : ∀ x ∈ p1, x.block < W.heap.size := by obtain ⟨m, hm⟩ := k1; exact DataW.trod_lt m _ _ _ hm
  obtain ⟨z1, w1⟩ : ∃ zs, IsRow .i64 W a1 len1 cap1 zs := by
    obtain ⟨fuel, hf⟩ := h1
    rcases open_ints Try.underlying36 Try.underlying3 (by kernel_rfl) hf with ⟨hcs, _⟩ | ⟨x, l, c, zs, hcs, _, hl, hm, hz, _, hcell, hwz⟩
    · simp [Value.cells] at hcs
      obtain ⟨rfl, rfl, rfl⟩ := hcs
      exact ⟨[], .inl ⟨rfl, rfl, rfl, rfl⟩⟩
    · simp [Value.cells] at hcs
      obtain ⟨rfl, rfl, rfl⟩ := hcs
      exact ⟨zs, .inr ⟨_, rfl, hl, hm, by simpa using hz, hcell, hwz⟩⟩
  clear hA0 hval0
  refine (walk a0 cap0 z0 a1 len1 cap1 z1 W hm0 w0 d0' w1).mono fun e W' ⟨he, bel⟩ => ?_
  subst he
  exact ⟨_, rfl, _, _, _, [], _, [], hW', trodAll_mk1 (shut_bool Try.underlying4 _), (trodAll_cons_mk (Below.trod laidOut (by kernel_rfl) (of_decide_eq_true (by kernel_rfl)) k0 bel lt0) (trodAll_cons_mk (Below.trod laidOut (by kernel_rfl) (of_decide_eq_true (by kernel_rfl)) k1 bel lt1) trodAll_mk0)), rfl, bel.frame _, fun h => by cases h⟩

theorem over : Rows.ImageGetsSaid :=
  OpenClaim.holds_of_wide 4 Try.f4 rfl rfl rfl rfl rfl rfl rfl ⟨rfl, rfl, rfl, rfl, rfl⟩ rfl rfl rfl rfl rfl (by kernel_rfl) Try.func4 (by kernel_rfl)
    (of_decide_eq_true (by kernel_rfl)) (by unfold Func.isWrapper; first | (rw [if_pos (by decide +kernel)]; kernel_rfl) | (rw [if_neg (by decide +kernel)]; exact ⟨rfl, rfl⟩))
    (fun os started H enc _ => lifted os started H enc)
#print axioms over
end Go.Proofs.Ytllfebekanafhaa.imageGetsDone
