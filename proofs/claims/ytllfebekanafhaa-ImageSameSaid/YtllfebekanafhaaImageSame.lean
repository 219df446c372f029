/-
  ImageSame, for every pair of lists of runs, every address and byte: Same reports whether two images have the same cells; a clone has them, and is independent: the law returns true, and its arguments read as they did.
  Conditions: none.
-/
import Derived.Test.YtllfebekanafhaaImgW
import Derived.Test.YtllfebekanafhaaRows
import Derived.ProofKit
import Derived.OpenShut
import Derived.Lay
import Derived.LaidOnce
import Derived.SevenTiedAt
import Derived.Below
namespace Go.Proofs.Ytllfebekanafhaa.imageSameDone
open Go.ChangeShapes Go.WideShapes Go.ChangeAt Go.RowKit
open Go.ChangeMaps (open_string shut_string)
set_option linter.unusedVariables false

theorem own : ownKnob Try.prog.godebug = none := by kernel_rfl
theorem laidOut : laidOutB Try.prog = true := by kernel_rfl
/-- A slice of integers that came in: nil, or a row of 'cap' cells that hold the numbers 'zs'. -/
def IsRow (k : IntKind) (w : World) (a : Option Addr) (len cap : Nat) (zs : List Int) : Prop :=
  (a = none ∧ len = 0 ∧ cap = 0 ∧ zs = []) ∨
  ∃ x, a = some x ∧ len ≤ cap ∧ cap ≤ maxLen ∧ zs.length = cap ∧ (∀ i, i < zs.length → w.cell? (x.add i) = some (.int k (zs.getD i 0))) ∧ ∀ n ∈ zs, (Lit.int k n).wf = true

theorem ne_zero_b (c : Int) (h : c ≠ 0) : (c != 0) = true := by unfold bne; rw [beq_eq_false_iff_ne.2 h]; rfl
theorem put_same (V : List Cel) (n : Int) (xs : List UInt8) (hx : xs ≠ []) : decide (V = putW V n xs) = (codeW V n xs != 0) := by
  by_cases h : codeW V n xs = 0
  · have h2 : (codeW V n xs != 0) = false := by rw [h]; rfl
    rw [h2]
    apply decide_eq_false
    intro e
    have h3 := congrArg List.length e
    unfold putW at h3
    rw [if_pos h, insW_length] at h3
    have := List.length_pos_iff.2 hx
    omega
  · rw [ne_zero_b _ h]
    apply decide_eq_true
    unfold putW
    rw [if_neg h]
set_option maxHeartbeats 8000000 in
theorem walk (A : Option Addr) (cap : Nat) (rs : List R) (A' : Option Addr) (cap' : Nat) (ss : List R) (a x : Int) (w : World) (hm : rs.length ≤ maxLen) (hR : RunsP (fun _ => True) (fun _ => True) w A rs) (hd : ∀ r ∈ rs, r.data.length ≤ maxLen)
    (hm' : ss.length ≤ maxLen) (hR' : RunsP (fun _ => True) (fun _ => True) w A' ss) (hd' : ∀ r ∈ ss, r.data.length ≤ maxLen) (ha : (Lit.int .u16 a).wf = true) (hx : (Lit.int .u8 x).wf = true) :
    Calls Try.prog 6 #[.agg #[.slice A rs.length cap, .slice A' ss.length cap'], .int .u16 a, .int .u8 x] w fun e w' => e = .returned (.bool true) ∧ Below w.heap.size w w' := by
  have ha2 := bounds_u16 ha
  obtain ⟨ha0, ha1⟩ := ha2
  have hxx := toU8_nat hx
  obtain ⟨z, hz⟩ : ∃ z, toU8 x = z := ⟨_, rfl⟩
  rw [hz] at hxx
  subst hxx
  have Z := Lib.hid (hR.mono (T := (· < w.heap.size)) (Q := (· < w.heap.size)) (fun _ h _ => h) (fun _ h _ => h))
  have Z' := Lib.hid (hR'.mono (T := (· < w.heap.size)) (Q := (· < w.heap.size)) (fun _ h _ => h) (fun _ h _ => h))
  have HD := Lib.hid hd
  have HD' := Lib.hid hd'
  clear hR hd hR' hd' hz ha hx
  obtain ⟨o0, ho0⟩ : ∃ o, Obj.cells #[.slice A rs.length cap, .slice A' ss.length cap'] 49 = o := ⟨_, rfl⟩
  have hal : Below w.heap.size w (w.alloc o0) := (Below.refl _ _).alloc (Nat.le_refl _) o0
  have hBn := fun n => hal.trans ((below_drewN (w.alloc o0) n).mono hal.size)
  rw [← ho0] at hBn
  clear hal ho0
  go_enter Try.func6, Try.ntmps6
  go_wp2_with fail
  go_quiet (fail)
  obtain ⟨w0, hw0⟩ : ∃ w0, (w.alloc (.cells #[.slice A rs.length cap, .slice A' ss.length cap'] 49)).drewN nq = w0 := ⟨_, rfl⟩
  have hB0 := hBn nq
  rw [hw0] at hB0 ⊢
  have B0 := Lib.hid hB0
  have hf := fewAll_any _ _ A cap rs hm w0 (Z.out.below hB0) HD.out
  have hf' := fewAll_any _ _ A' cap' ss hm' w0 (Z'.out.below hB0) HD'.out
  clear hBn hw0 hB0
  cases hfb : fewB rs
  · rw [hfb] at hf
    clear hfb hf'
    go_wp2_with fail
    refine hf.mono ?_
    rintro e w1 ⟨rfl, rfl⟩
    go_wp2_with fail
    refine (alive_any _).mono ?_
    rintro e w1 ⟨rfl, hb1⟩
    have N := Lib.hid (B0.out.trans (hb1.mono B0.out.size))
    clear hb1
    go_wp2
    go_ret
    exact ⟨rfl, N.out⟩
  · rw [hfb] at hf
    have H60 := Lib.hid (few_len hfb)
    clear hfb
    cases hfb : fewB ss
    · rw [hfb] at hf'
      clear hfb
      go_wp2_with fail
      refine hf.mono ?_
      rintro e w1 ⟨rfl, rfl⟩
      go_wp2_with fail
      refine hf'.mono ?_
      rintro e w1 ⟨rfl, rfl⟩
      go_wp2_with fail
      refine (alive_any _).mono ?_
      rintro e w1 ⟨rfl, hb1⟩
      have N := Lib.hid (B0.out.trans (hb1.mono B0.out.size))
      clear hb1
      go_wp2
      go_ret
      exact ⟨rfl, N.out⟩
    · rw [hfb] at hf'
      have H60' := Lib.hid (few_len hfb)
      clear hfb hm hm'
      go_wp2_with fail
      refine hf.mono ?_
      rintro e w1 ⟨rfl, rfl⟩
      go_wp2_with fail
      refine hf'.mono ?_
      rintro e w1 ⟨rfl, rfl⟩
      clear hf hf'
      go_wp2_with fail
      refine (given_any _ _ A cap rs (Nat.le_trans H60.out (by omega)) _ (Z.out.below B0.out)).mono ?_
      rintro e w1 ⟨A2, cap2, rfl, _, hR1, hB1⟩
      have R1 := Lib.hid hR1
      have B1 := Lib.hid (B0.out.trans (hB1.mono B0.out.size))
      clear hR1 hB1
      go_wp2_with fail
      refine (iof_any _ _ A2 cap2 rs (Nat.le_trans H60.out (by omega)) _ R1.out HD.out).mono ?_
      rintro e w2 ⟨hg, hb, hB2⟩
      have B2 := Lib.hid (B1.out.trans (hB2.mono B1.out.size))
      obtain ⟨V, hV⟩ : ∃ V, (ofW [] rs).1 = V := ⟨_, rfl⟩
      obtain ⟨c, hc⟩ : ∃ c, (ofW [] rs).2 = c := ⟨_, rfl⟩
      clear hB2
      by_cases h0 : c = 0
      · obtain ⟨b, rfl, _, hI⟩ := hg (by rw [hc]; exact h0)
        rw [hV] at hI
        subst h0
        have I2 := Lib.hid hI
        have HV := Lib.hid hV
        have HC := Lib.hid hc
        clear hI hg hb hV hc
        go_wp2_with fail
        refine (given_any _ _ A' cap' ss (Nat.le_trans H60'.out (by omega)) _ (Z'.out.below B2.out)).mono ?_
        rintro e w3 ⟨A3, cap3, rfl, _, hR3, hB3⟩
        have R3 := Lib.hid hR3
        have I3 := Lib.hid (I2.out.below hB3)
        have B3 := Lib.hid (B2.out.trans (hB3.mono B2.out.size))
        clear hR3 hB3
        go_wp2_with fail
        refine (iof_any _ _ A3 cap3 ss (Nat.le_trans H60'.out (by omega)) _ R3.out HD'.out).mono ?_
        rintro e w4 ⟨hg, hb, hB4⟩
        have I4 := Lib.hid (I3.out.below hB4)
        have B4 := Lib.hid (B3.out.trans (hB4.mono B3.out.size))
        have hbw3 := Lib.hid I3.out.lt
        obtain ⟨W, hW⟩ : ∃ W, (ofW [] ss).1 = W := ⟨_, rfl⟩
        obtain ⟨c, hc⟩ : ∃ c, (ofW [] ss).2 = c := ⟨_, rfl⟩
        clear hB4
        by_cases h0 : c = 0
        · obtain ⟨d, rfl, hd3, hJ⟩ := hg (by rw [hc]; exact h0)
          rw [hW] at hJ
          subst h0
          have J4 := Lib.hid hJ
          have HW := Lib.hid hW
          have HC' := Lib.hid hc
          have hbd : Hid (b ≠ d) := by have := hbw3.out; show b ≠ d; omega
          clear hJ hg hb hW hc hd3
          have hro := rof_any _ _ A cap rs (Nat.le_trans H60.out (by omega)) w4 (Z.out.below B4.out) HD.out
          rw [HV.out, HC.out] at hro
          go_wp2_with fail
          refine hro.mono ?_
          rintro e w5 ⟨A5, cap5, rfl, _, hC5, hB5⟩
          have I5 := Lib.hid (I4.out.below hB5)
          have J5 := Lib.hid (J4.out.below hB5)
          have C5 := Lib.hid hC5
          have B5 := Lib.hid (B4.out.trans (hB5.mono B4.out.size))
          have hro' := rof_any _ _ A' cap' ss (Nat.le_trans H60'.out (by omega)) w5 (Z'.out.below B5.out) HD'.out
          rw [HW.out, HC'.out] at hro'
          clear hro hC5 hB5
          go_wp2_with fail
          refine hro'.mono ?_
          rintro e w6 ⟨A6, cap6, rfl, _, hC6, hB6⟩
          have I6 := Lib.hid (I5.out.below hB6)
          have J6 := Lib.hid (J5.out.below hB6)
          have C6 := Lib.hid (C5.out.below hB6)
          have D6 := Lib.hid hC6
          have B6 := Lib.hid (B5.out.trans (hB6.mono B5.out.size))
          clear hro' hC6 hB6
          go_wp2_with fail
          refine (clone_any b V _ I6.out).mono ?_
          rintro e w7 ⟨g, rfl, hg7, hK7, hB7⟩
          have hgb : Hid (b ≠ g) := by have := I6.out.lt; show b ≠ g; omega
          have hgd : Hid (d ≠ g) := by have := J6.out.lt; show d ≠ g; omega
          have HG : Hid (w.heap.size ≤ g) := by have := B6.out.size; show _ ≤ _; omega
          have HG6 := Lib.hid hg7
          have I7 := Lib.hid (I6.out.below hB7)
          have J7 := Lib.hid (J6.out.below hB7)
          have C7 := Lib.hid ((C6.out.mono (Q := fun i => i ≠ g) (fun i hi _ => by have := hg7; omega)).below hB7)
          have D7 := Lib.hid ((D6.out.mono (Q := fun i => i ≠ g) (fun i hi _ => by have := hg7; omega)).below hB7)
          have G7 := Lib.hid hK7
          have B7 := Lib.hid (B6.out.trans (hB7.mono B6.out.size))
          have hsm := isame_any b g V V w7 I7.out G7.out
          rw [decide_eq_true rfl] at hsm
          clear hK7 hB7 hg7
          go_wp2_with fail
          refine hsm.mono ?_
          rintro e w8 ⟨rfl, rfl⟩
          clear hsm
          have hdr : Below w7.heap.size w7 w7.drew := (Below.refl _ _).drew
          have hlt8 := G7.out.lt
          obtain ⟨ob, hob⟩ : ∃ o, Obj.cells #[.int .u8 (z.toNat : Int)] 5 = o := ⟨_, rfl⟩
          have hal8 : Below w7.drew.heap.size w7.drew (w7.drew.alloc ob) := (Below.refl _ _).alloc (Nat.le_refl _) ob
          have hB8 : Below w7.heap.size w7 (w7.drew.alloc ob) := hdr.trans hal8
          have hbl : BytesP (fun i => i = w7.heap.size) (w7.drew.alloc ob) (some ⟨w7.heap.size, 0, none⟩) [z] := by rw [← hob]; exact bytes_lit w7.drew _ rfl [z] #[.int .u8 (z.toNat : Int)] rfl 5
          have hput := put_any g V a _ (show ¬ (fun i => i = w7.heap.size) g from fun h => by simp at h; omega) _ [z] 1 (w7.drew.alloc ob) (by unfold maxLen; simp) (G7.out.below hB8) hbl
          have I8 := Lib.hid (I7.out.below hB8)
          have J8 := Lib.hid (J7.out.below hB8)
          have C8 := Lib.hid (C7.out.below hB8)
          have D8 := Lib.hid (D7.out.below hB8)
          have B8 := Lib.hid (B7.out.trans (hB8.mono B7.out.size))
          rw [← hob] at hput I8 J8 C8 D8 B8
          clear hdr hlt8 hob hal8 hB8 hbl
          go_wp2_with fail
          refine hput.mono ?_
          rintro e w9 ⟨rfl, hG9, hK9⟩
          have I9 := Lib.hid (I8.out.keep hK9 hgb.out)
          have J9 := Lib.hid (J8.out.keep hK9 hgd.out)
          have C9 := Lib.hid (C8.out.keep hK9 (fun h => h rfl))
          have D9 := Lib.hid (D8.out.keep hK9 (fun h => h rfl))
          have G9 := Lib.hid hG9
          have B9 := Lib.hid (B8.out.trans (hK9.below HG.out B8.out.size))
          clear hput hG9 hK9
          go_wp2_with fail
          refine (alive_any _).mono ?_
          rintro e u1 ⟨rfl, hb1⟩
          have I10 := Lib.hid (I9.out.below hb1)
          have J10 := Lib.hid (J9.out.below hb1)
          have C10 := Lib.hid (C9.out.below hb1)
          have D10 := Lib.hid (D9.out.below hb1)
          have G10 := Lib.hid (G9.out.below hb1)
          have B10 := Lib.hid (B9.out.trans (hb1.mono B9.out.size))
          have hs1 := isame_any b d V W u1 I10.out J10.out
          obtain ⟨s, hs⟩ : ∃ s, decide (V = W) = s := ⟨_, rfl⟩
          rw [hs] at hs1
          have HSS := Lib.hid hs
          clear hb1 hs
          go_wp2_with fail
          refine hs1.mono ?_
          rintro e u2 ⟨rfl, rfl⟩
          have hrs := rsame_any _ _ A5 A6 cap5 cap6 V W I10.out.1 J10.out.1 u1.drew (C10.out.below (Below.refl _ _).drew) (D10.out.below (Below.refl _ _).drew)
          rw [HSS.out] at hrs
          clear hs1
          go_wp2_with fail
          refine hrs.mono ?_
          rintro e u3 ⟨rfl, q, rfl⟩
          have hB3 : Below u1.heap.size u1 (u1.drew.drewN q) := ⟨rfl, rfl, rfl, Nat.le_refl _, fun _ _ => rfl⟩
          have I11 := Lib.hid (I10.out.below hB3)
          have C11 := Lib.hid (C10.out.below hB3)
          have G11 := Lib.hid (G10.out.below hB3)
          have B11 := Lib.hid (B10.out.trans (hB3.mono B10.out.size))
          have hss : (s == s) = true := beq_self_eq_true s
          obtain ⟨u4, hu4⟩ : ∃ u, u1.drew.drewN q = u := ⟨_, rfl⟩
          rw [hu4] at I11 C11 G11 B11 ⊢
          clear hrs hB3 hu4
          go_wp2_with fail
          refine (lsame_any b _ _ A5 cap5 _ I11.out C11.out).mono ?_
          rintro e u5 ⟨rfl, hb5⟩
          have I12 := Lib.hid (I11.out.below hb5)
          have G12 := Lib.hid (G11.out.below hb5)
          have B12 := Lib.hid (B11.out.trans (hb5.mono B11.out.size))
          have hs2 := isame_any b g V _ u5 I12.out G12.out
          rw [put_same V a [z] (by simp)] at hs2
          clear hb5
          go_wp2_with fail
          refine hs2.mono ?_
          rintro e u6 ⟨rfl, rfl⟩
          obtain ⟨cc, hcc⟩ : ∃ cc, codeW V a [z] = cc := ⟨_, rfl⟩
          rw [hcc]
          have B13 := Lib.hid B12.out.drew
          clear hs2 hcc
          go_wp2
          go_ret
          exact ⟨by simp, B13.out⟩
        · have he := hb (by rw [hc]; exact h0)
          subst he
          rw [hc]
          have hn1 := ne_zero_b c h0
          clear hg hb hW hc h0
          go_wp2_with fail
          refine (alive_any _).mono ?_
          rintro e w5 ⟨rfl, hb5⟩
          have N := Lib.hid (B4.out.trans (hb5.mono B4.out.size))
          clear hb5
          go_wp2
          go_ret
          exact ⟨rfl, N.out⟩
      · have he := hb (by rw [hc]; exact h0)
        subst he
        rw [hc]
        have hn1 := ne_zero_b c h0
        clear hg hb hV hc h0
        go_wp2_with fail
        refine (given_any _ _ A' cap' ss (Nat.le_trans H60'.out (by omega)) _ (Z'.out.below B2.out)).mono ?_
        rintro e w3 ⟨A3, cap3, rfl, _, hR3, hB3⟩
        have R3 := Lib.hid hR3
        have B3 := Lib.hid (B2.out.trans (hB3.mono B2.out.size))
        clear hR3 hB3
        go_wp2_with fail
        refine (iof_any _ _ A3 cap3 ss (Nat.le_trans H60'.out (by omega)) _ R3.out HD'.out).mono ?_
        rintro e w4 ⟨hg, hb, hB4⟩
        have B4 := Lib.hid (B3.out.trans (hB4.mono B3.out.size))
        obtain ⟨c', hc'⟩ : ∃ c, (ofW [] ss).2 = c := ⟨_, rfl⟩
        clear hB4
        by_cases h0 : c' = 0
        · obtain ⟨d, rfl, _, _⟩ := hg (by rw [hc']; exact h0)
          clear hg hb hc' h0
          go_wp2_with fail
          refine (alive_any _).mono ?_
          rintro e w5 ⟨rfl, hb5⟩
          have N := Lib.hid (B4.out.trans (hb5.mono B4.out.size))
          clear hb5
          go_wp2
          go_ret
          exact ⟨rfl, N.out⟩
        · have he := hb (by rw [hc']; exact h0)
          subst he
          clear hg hb hc' h0
          go_wp2_with fail
          refine (alive_any _).mono ?_
          rintro e w5 ⟨rfl, hb5⟩
          have N := Lib.hid (B4.out.trans (hb5.mono B4.out.size))
          clear hb5
          go_wp2
          go_ret
          exact ⟨rfl, N.out⟩

set_option maxRecDepth 100000 in
theorem lifted (os : Os) (started : os.Started) (H : Type) (enc : TypeId × Value → H) :
    ReturnsInHanded {} Try.checked os 6 .any (Rows.imageSameSpec.pre6 enc Try.prog Try.f6 Rows.imageSameRow.domain false) (Rows.imageSameSpec.post enc Try.prog Try.f6 false true false false) := by
  refine returnsInHanded_of_change (C := Try.checked) own started (by kernel_rfl) Try.func6
    (ChangeSpec.witness6 (enc := enc) (C := Try.checked) false ⟨#[], #[.agg #[.slice none 0 0, .slice none 0 0], .int .u16 0, .int .u8 0], []⟩ 8 (by kernel_rfl) (by kernel_rfl) (by kernel_rfl) (by kernel_rfl)) ?_
  intro W base args ds gs before hval0 hW _ _
  have hval : ∀ (j : Nat) t v, Try.f6.params[j]? = some t → args[j]? = some v → Value.okWide Try.prog W .any base t v := hval0
  have hW' := hW
  obtain ⟨p, q, hA0, hV, rfl, _, _⟩ := hW
  have hA : DataW.TrodAll enc Try.prog W 0 (fun _ => true) true Try.f6.params.toList args.toList ds p := hA0
  rw [Try.params6] at hA hval
  obtain ⟨v0, vs0, d0, ds0, p0, q0, hargs, rfl, rfl, h0, r0⟩ := trodAll_cons hA
  obtain ⟨v1, vs1, d1, ds1, p1, q1, rfl, rfl, rfl, h1, r1⟩ := trodAll_cons r0
  obtain ⟨v2, vs2, d2, ds2, p2, q2, rfl, rfl, rfl, h2, r2⟩ := trodAll_cons r1
  obtain ⟨rfl, rfl, rfl⟩ := trodAll_nil r2
  obtain rfl : args = #[v0, v1, v2] := by cases args; simp_all
  obtain ⟨rfl, rfl⟩ := trodVars_none hV
  have k0 := h0
  have lt0 : ∀ x ∈ p0, x.block < W.heap.size := by obtain ⟨m, hm⟩ := k0; exact DataW.trod_lt m _ _ _ hm
  obtain ⟨c0, e0, rfl⟩ := okWide_arr2 (hval 0 49 v0 rfl rfl)
  have o0 : (∃ A len cap rs, c0 = .slice A len cap ∧ len = rs.length ∧ len ≤ maxLen ∧ RunsP (fun _ => True) (fun _ => True) W A rs ∧ ∀ r ∈ rs, r.data.length ≤ maxLen) ∧ (∃ A len cap rs, e0 = .slice A len cap ∧ len = rs.length ∧ len ≤ maxLen ∧ RunsP (fun _ => True) (fun _ => True) W A rs ∧ ∀ r ∈ rs, r.data.length ≤ maxLen) := by
    obtain ⟨fuel, hf⟩ := h0
    have hf' : DataW.trod enc Try.prog W 0 (fun _ => true) true fuel 49 [c0, e0] = some (d0, p0) := by simpa [Value.cells] using hf
    exact open_runs2 hf'
  obtain ⟨⟨a0, len0, cap0, z0, rfl, rfl, hm0, w0, d0'⟩, ⟨a0b, len0b, cap0b, z0b, rfl, rfl, hm0b, w0b, d0b'⟩⟩ := o0
  obtain ⟨a1, rfl, rfl, rfl, w1⟩ := open_int Try.underlying50 (hval 1 50 v1 rfl rfl) h1
  obtain ⟨a2, rfl, rfl, rfl, w2⟩ := open_int Try.underlying5 (hval 2 5 v2 rfl rfl) h2
  clear hA0 hval0
  refine (walk a0 cap0 z0 a0b cap0b z0b a1 a2 W hm0 w0 d0' hm0b w0b d0b' w1 w2).mono fun e W' ⟨he, bel⟩ => ?_
  subst he
  exact ⟨_, rfl, _, _, _, [], _, [], hW', trodAll_mk1 (shut_bool Try.underlying4 _), (trodAll_cons_mk (Below.trod laidOut (by kernel_rfl) (of_decide_eq_true (by kernel_rfl)) k0 bel lt0) (trodAll_cons_mk (shut_int Try.underlying50 w1) (trodAll_cons_mk (shut_int Try.underlying5 w2) trodAll_mk0))), rfl, bel.frame _, fun h => by cases h⟩

theorem over : Rows.ImageSameSaid :=
  OpenClaim.holds_of_wide 6 Try.f6 rfl rfl rfl rfl rfl rfl rfl ⟨rfl, rfl, rfl, rfl, rfl⟩ rfl rfl rfl rfl rfl (by kernel_rfl) Try.func6 (by kernel_rfl)
    (of_decide_eq_true (by kernel_rfl)) (by unfold Func.isWrapper; first | (rw [if_pos (by decide +kernel)]; kernel_rfl) | (rw [if_neg (by decide +kernel)]; exact ⟨rfl, rfl⟩))
    (fun os started H enc _ => lifted os started H enc)
#print axioms over
end Go.Proofs.Ytllfebekanafhaa.imageSameDone
