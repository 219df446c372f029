/-
  RecordDigits, for every record, place and digit: a line in which one hexadecimal digit is replaced by one with another value is not accepted: the law returns true, and its arguments read as they did.
  Conditions: none.
-/
import Derived.Test.YtbnehcnimbkakaaRecO
import Derived.Test.YtbnehcnimbkakaaRecQ
import Derived.Test.YtbnehcnimbkakaaRecT
import Derived.Test.YtbnehcnimbkakaaRows
import Derived.ProofKit
import Derived.OpenShut
import Derived.Lay
import Derived.LaidOnce
import Derived.SevenTiedAt
import Derived.Below
namespace Go.Proofs.Ytbnehcnimbkakaa.recordDigitsDone
open Go.ChangeShapes Go.WideShapes Go.ChangeAt Go.RowKit
open Go.ChangeMaps (open_string shut_string)
set_option linter.unusedVariables false

theorem own : ownKnob Try.prog.godebug = none := by kernel_rfl
theorem laidOut : laidOutB Try.prog = true := by kernel_rfl
/-- A slice of integers that came in: nil, or a row of 'cap' cells that hold the numbers 'zs'. -/
def IsRow (k : IntKind) (w : World) (a : Option Addr) (len cap : Nat) (zs : List Int) : Prop :=
  (a = none ∧ len = 0 ∧ cap = 0 ∧ zs = []) ∨
  ∃ x, a = some x ∧ len ≤ cap ∧ cap ≤ maxLen ∧ zs.length = cap ∧ (∀ i, i < zs.length → w.cell? (x.add i) = some (.int k (zs.getD i 0))) ∧ ∀ n ∈ zs, (Lit.int k n).wf = true

theorem hexS1 (n : Int) : hexS n 1 = ⟨#[hexU (digI n 0)]⟩ := by
  apply bytes_ext
  unfold hexS
  simp [List.range_succ]
theorem digI0 (n : Int) : 0 ≤ digI n 0 ∧ digI n 0 < 16 := digI_bd n 0
set_option maxRecDepth 100000 in
set_option maxHeartbeats 4000000 in
theorem walk (T a : Int) (A : Option Addr) (cap : Nat) (D : List UInt8) (at_ d : Int) (w : World) (hm : D.length ≤ maxLen) (hx : BytesP (fun _ => True) w A D) (wat : (Lit.int .u16 at_).wf = true) (wd : (Lit.int .u8 d).wf = true) :
    Calls Try.prog 6 #[.agg #[.int .i64 T, .int .i64 a, .slice A D.length cap], .int .u16 at_, .int .u8 d] w fun e w' => e = .returned (.bool true) ∧ Below w.heap.size w w' := by
  have hm0 := hm
  unfold maxLen at hm
  have hat := Go.bounds_u16 wat
  have hd := Go.bounds_u8 wd
  obtain ⟨at0, at1⟩ := hat
  obtain ⟨d0, d1⟩ := hd
  have hal : Below w.heap.size w (w.alloc (.cells #[.int .i64 T, .int .i64 a, .slice A D.length cap] 24)) := (Below.refl _ _).alloc (Nat.le_refl _) _
  have htr := Tri.new w _ rfl (.int .i64 T) (.int .i64 a) (.slice A D.length cap) 24
  have hX0 := (hx.mono (Q := (· < w.heap.size)) fun i hi _ => hi).below hal
  obtain ⟨w0, hw0⟩ : ∃ w0, w.alloc (.cells #[.int .i64 T, .int .i64 a, .slice A D.length cap] 24) = w0 := ⟨_, rfl⟩
  rw [hw0] at hal htr hX0
  have B0 := Lib.hid hal
  have T0 := Lib.hid htr
  obtain ⟨-, q0, q1, q2, -⟩ := htr
  have hp := rprint_any _ T a A cap D hm0 w0 hX0
  obtain ⟨S, hS⟩ : ∃ S, printS T a D = S := ⟨_, rfl⟩
  obtain ⟨r, hr⟩ : ∃ r, rightB T a D.length = r := ⟨_, rfl⟩
  rw [hS, hr] at hp
  have HS := Lib.hid hS
  have HR := Lib.hid hr
  clear hal hX0 hx hS hr wat wd
  cases r
  · go_enter Try.func6, Try.ntmps6
    go_wp2_with fail
    refine hp.mono ?_
    rintro e w1 ⟨rfl, hB1⟩
    have B1 := Lib.hid (B0.out.trans (hB1.mono B0.out.size))
    clear hp hB1 q0 q1 q2
    go_wp2_with fail
    refine (alive_any _).mono ?_
    rintro e w2 ⟨rfl, hB2⟩
    have B2 := Lib.hid (B1.out.trans (hB2.mono B1.out.size))
    clear hB2
    go_wp2
    go_ret
    exact ⟨rfl, B2.out⟩
  · have h5 : D.length ≤ 255 := by have h := HR.out; unfold rightB at h; exact (of_decide_eq_true h).2.2.2.2
    have hl' : decide ((300 : Int) < (D.length : Int)) = false := decide_eq_false (by omega)
    have hSl : S = ⟨#[58]⟩ ++ strOf (hexL (fullB T a D)) := by
      rw [← HS.out]
      unfold printS
      rw [HR.out]
      exact print_line T a D
    have hSs : S.size = 2 * (fullB T a D).length + 1 := by rw [hSl, line_size, strOf_size, hexL_length]
    have hfl := fullB_length T a D
    obtain ⟨m, hm1⟩ : ∃ m, S.size = m + 1 := ⟨2 * (fullB T a D).length, hSs⟩
    have hm2 : m = 2 * (fullB T a D).length := by omega
    have hm3 : 10 ≤ m ∧ m ≤ 600 := by omega
    obtain ⟨k, hk⟩ : ∃ k : Nat, at_ % (m : Int) = (k : Int) := ⟨(at_ % (m : Int)).toNat, by have := Int.emod_nonneg at_ (show (m : Int) ≠ 0 by omega); omega⟩
    have hkm : k < m := by have := Int.emod_lt_of_pos at_ (show 0 < (m : Int) by omega); omega
    obtain ⟨u, hu⟩ : ∃ u, hexU (digI d 0) = u := ⟨_, rfl⟩
    have hhx : ∀ w, Calls Try.prog 21 #[.int .i64 d, .int .i64 1] w fun e w' => e = .returned (.string ⟨#[u]⟩) ∧ Below w.heap.size w w' := fun w => by
      have h := hex_any d 1 (by omega) w
      rw [hexS1, hu] at h
      exact h
    have HU := Lib.hid hu
    have HSL := Lib.hid hSl
    have HM := Lib.hid hm2
    have hcv := fun (w : World) => run_bytes_of_string (P := Try.prog) w 9 22 5 S Try.underlying9 Try.underlying22 Try.underlying5
    have hST := fun w => Lib.hid (loRel_start w S (grownCap w S.size 0 5) 5)
    have hm4 : (S.size : Int) - 1 = (m : Int) := by omega
    have hjk : 1 + at_ % (m : Int) = ((k + 1 : Nat) : Int) := by omega
    clear hu hSl hSs hfl hm2 h5
    go_enter Try.func6, Try.ntmps6
    go_wp2_with fail
    refine hp.mono ?_
    rintro e w1 ⟨rfl, hB1⟩
    have B1 := Lib.hid (B0.out.trans (hB1.mono B0.out.size))
    have hT1 := T0.out.kept (P := fun _ => True) (KeptP.of_all hB1) trivial
    clear hp hB1 q0 q1 q2 T0 B0
    obtain ⟨-, q0, q1, q2, -⟩ := hT1
    go_wp2_with fail
    have hst := (hST w1).out
    rw [hm1] at hst
    obtain ⟨cp, hcp⟩ : ∃ cp, grownCap w1 (m + 1) 0 5 = cp := ⟨_, rfl⟩
    rw [hcp] at hst ⊢
    obtain ⟨wB, hwB⟩ : ∃ wB, (w1.alloc (.cells (bytesRow S cp) 5 ((bytesRow S cp).size, (bytesRow S cp).size + 1))).drew = wB := ⟨_, rfl⟩
    have hszB : w1.heap.size < wB.heap.size := by rw [← hwB]; simp
    rw [hwB] at hst ⊢
    have RB := Lib.hid (RowS.of hst hszB)
    have BB := Lib.hid (B1.out.trans (hst.2.2.mono B1.out.size))
    obtain ⟨n1, hn1⟩ : ∃ n, w1.heap.size = n := ⟨_, rfl⟩
    have hn1' : w.heap.size ≤ n1 := by rw [← hn1]; exact B1.out.size
    rw [hn1] at RB ⊢
    clear hst hcp hwB hszB hcv hST q0 q1 q2 hn1 B1 hw0
    refine (hhx _).mono ?_
    rintro e w3 ⟨rfl, hB3⟩
    have R3 := RB.out.kept (P := fun _ => True) (KeptP.of_all hB3) trivial
    have B3 := Lib.hid (BB.out.trans (hB3.mono BB.out.size))
    have hjS : k + 1 < S.size := by omega
    have g0 := R3.2.1 (k + 1) hjS
    have g1 := R3.2.2 (k + 1) hjS
    obtain ⟨x, hxk⟩ : ∃ x : UInt8, S[k + 1] = x := ⟨_, rfl⟩
    rw [hxk] at g0
    have HXK : Hid (S.data.toList.getD (k + 1) 0 = x) := by
      show _ = _
      rw [List.getD_eq_getElem?_getD, List.getElem?_eq_getElem (by rw [size_list3]; exact hjS), ← hxk]
      rfl
    have HR3 := Lib.hid R3
    have h1k : (1 + (k : Int)).toNat = k + 1 := by omega
    have hki : (1 + (k : Int)) < (m : Int) + 1 := by omega
    have hki0 : (0 : Int) ≤ 1 + (k : Int) := by omega
    clear R3 hB3 hhx RB BB hxk hk hjk hm4 hkm
    go_wp2
    have gd : w3.drew.cell? ⟨n1, k + 1, none⟩ = some (.int .u8 (x.toNat : Int)) := g0
    have hix : ¬ ((m : Int) + 1 ≤ 1 + (k : Int)) := by omega
    refine Mixed.wp_region_mixed (fun w' => w'.cell? ⟨n1, k + 1, none⟩ = some (.int .u8 (x.toNat : Int))) 6 [(0, true), (1, true), (2, true), (3, true), (4, true), (5, true)] (by kernel_rfl) (by kernel_rfl) gd ?_
    refine Mixed.wpMix_move rfl rfl _ rfl _ rfl ?_
    refine Mixed.wpMix_pure rfl rfl (.int .u8 (u.toNat : Int)) (fun w h => by clear h; go_simp; try rfl) ?_
    refine Mixed.wpMix_move rfl rfl _ rfl _ rfl ?_
    refine Mixed.wpMix_move rfl rfl _ rfl _ rfl ?_
    refine Mixed.wpMix_pure rfl rfl (.pointer (some ⟨n1, k + 1, none⟩)) (fun w h => by clear h; go_simp; try rfl) ?_
    refine Mixed.wpMix_pure rfl rfl (.int .u8 (x.toNat : Int)) (fun w h => by go_simp; try rfl) ?_
    simp only [Mixed.wpMix, List.drop_succ_cons, List.drop_zero]
    have HM1 := Lib.hid hm1
    have HM3 := Lib.hid hm3
    have HJS := Lib.hid hjS
    have HN1 := Lib.hid hn1'
    clear gd hm1 hm3 at0 at1 d0 d1 hm hl' hjS hn1'
    by_cases hux : u = x
    · have e1 : ((u.toNat : Int) == (x.toNat : Int)) = true := by rw [hux]; simp
      clear hux hix h1k hki hki0 g0 g1
      go_wp2_with fail
      refine (alive_any _).mono ?_
      rintro e w4 ⟨rfl, hB4⟩
      have B4 := Lib.hid (B3.out.drew.trans (hB4.mono B3.out.size))
      clear hB4
      go_wp2
      go_ret
      exact ⟨rfl, B4.out⟩
    · have e1 : ((u.toNat : Int) == (x.toNat : Int)) = false := by
        rw [beq_eq_false_iff_ne]
        intro h
        exact hux (UInt8.toNat_inj.1 (by omega))
      have HUX := Lib.hid hux
      have hsl : S.data.toList = 58 :: hexL (fullB T a D) := by rw [HSL.out, append_data]; rfl
      have hset : setS S (k + 1) u = ⟨#[58]⟩ ++ strOf ((hexL (fullB T a D)).set k u) := by
        unfold setS
        rw [hsl, List.set_cons_succ]
        exact strOf_cons _
      have hkk : k < m := by have := HJS.out; have := HM1.out; omega
      have hpc : parCode (setS S (k + 1) u) ≠ 0 := by
        rw [hset, ← HU.out]
        refine par_changed T a D k (by rw [← HM.out]; exact hkk) (digI d 0) (digI0 d).1 (digI0 d).2 ?_
        rw [HU.out]
        have hg := HXK.out
        rw [hsl, List.getD_cons_succ] at hg
        rw [hg]
        exact HUX.out
      have hss : (setS S (k + 1) u).size = m + 1 := by rw [setS_size]; exact HM1.out
      have R4 := (HR3.out.set (k + 1) u).kept (P := fun _ => True) (KeptP.refl _ _).drew trivial
      have hback := R4.back cp
      rw [hss] at hback
      have hps : ∀ w, Calls Try.prog 12 #[.string (setS S (k + 1) u)] w (RetRec w 0 0 [] (parCode (setS S (k + 1) u))) := fun w => by
        have h := parse_any (setS S (k + 1) u) (by rw [hss]; have := HM3.out; omega) w
        have e1 : parT (setS S (k + 1) u) = 0 := by unfold parT; rw [if_neg hpc]
        have e2 : parA (setS S (k + 1) u) = 0 := by unfold parA; rw [if_neg hpc]
        have e3 : parD (setS S (k + 1) u) = [] := by unfold parD; rw [if_neg hpc]
        rw [e1, e2, e3] at h
        exact h
      obtain ⟨c, hc⟩ : ∃ c, parCode (setS S (k + 1) u) = c := ⟨_, rfl⟩
      rw [hc] at hpc
      simp only [hc] at hps
      have hc0 : (c != 0) = true := by rw [bne_iff_ne]; exact hpc
      have hu0 : ((⟨#[u]⟩ : ByteArray)[0]'(Nat.zero_lt_succ 0)) = u := rfl
      have B4 : Hid (Below w.heap.size w (w3.setCell ⟨n1, k + 1, none⟩ (.int .u8 (u.toNat : Int))).drew) := (B3.out.setCell (by exact HN1.out) _).drew
      obtain ⟨ls, hls⟩ : ∃ ls, setS S (k + 1) u = ls := ⟨_, rfl⟩
      rw [hls] at hback hps
      clear hux hsl hset hkk hpc hss R4 hc hls
      go_wp2_with fail
      refine (hps _).mono ?_
      rintro e w5 ⟨A5, cap5, rfl, -, hX5, hB5⟩
      have B5 := B4.out.trans (hB5.mono B4.out.size)
      have al5 : Below w5.heap.size w5 (w5.alloc (.cells #[.int .i64 0, .int .i64 0, .slice A5 ([] : List UInt8).length cap5] 28)) := (Below.refl _ _).alloc (Nat.le_refl _) _
      have t5 := Tri.new w5 _ rfl (.int .i64 0) (.int .i64 0) (.slice A5 ([] : List UInt8).length cap5) 28
      have B6 := B5.alloc B5.size (.cells #[.int .i64 0, .int .i64 0, .slice A5 ([] : List UInt8).length cap5] 28)
      rw [List.length_nil] at al5 t5 B6
      obtain ⟨w6, hw6⟩ : ∃ w6, w5.alloc (.cells #[.int .i64 0, .int .i64 0, .slice A5 0 cap5] 28) = w6 := ⟨_, rfl⟩
      rw [hw6] at al5 t5 B6
      have T6 := Lib.hid t5
      have HB6 := Lib.hid B6
      clear hback hps al5 t5 B5 B6 hX5 hB5 h1k hix hki hki0 g0 g1 hu0
      go_wp2_with fail
      refine (alive_any _).mono ?_
      rintro e w7 ⟨rfl, hB7⟩
      have t7 := T6.out.kept (P := fun _ => True) (KeptP.of_all hB7) trivial
      obtain ⟨-, q0, q1, q2, -⟩ := t7
      have B7 := Lib.hid (HB6.out.trans (hB7.mono HB6.out.size))
      have hsm := same_any (fun _ => True) (fun _ => True) 0 0 A5 cap5 [] 0 0 none 0 [] w7 (.inl rfl) (.inl rfl)
      have hsr : sameR 0 0 [] 0 0 [] = true := by decide
      rw [hsr, List.length_nil] at hsm
      clear hw6 T6 HB6 hB7 hsr
      go_wp2_with fail
      refine hsm.mono ?_
      rintro e w8 ⟨rfl, hB8⟩
      have B8 := Lib.hid (B7.out.trans (hB8.mono B7.out.size))
      clear hsm hB8 q0 q1 q2
      go_wp2
      go_ret
      exact ⟨rfl, B8.out⟩

set_option maxRecDepth 100000 in
theorem lifted (os : Os) (started : os.Started) (H : Type) (enc : TypeId × Value → H) :
    ReturnsInHanded {} Try.checked os 6 .any (Rows.recordDigitsSpec.pre6 enc Try.prog Try.f6 Rows.recordDigitsRow.domain false) (Rows.recordDigitsSpec.post enc Try.prog Try.f6 false true false false) := by
  refine returnsInHanded_of_change (C := Try.checked) own started (by kernel_rfl) Try.func6
    (ChangeSpec.witness6 (enc := enc) (C := Try.checked) false ⟨#[], #[.agg #[.int .i64 0, .int .i64 0, .slice none 0 0], .int .u16 0, .int .u8 0], []⟩ 8 (by kernel_rfl) (by kernel_rfl) (by kernel_rfl) (by kernel_rfl)) ?_
  intro W base args ds gs before hval0 hW _ _
  have hval : ∀ (j : Nat) t v, Try.f6.params[j]? = some t → args[j]? = some v → Value.okWide Try.prog W .any base t v := hval0
  have hW' := hW
  obtain ⟨p, q, hA0, hV, rfl, _, _⟩ := hW
  have hA : DataW.TrodAll enc Try.prog W 0 (fun _ => true) true Try.f6.params.toList args.toList ds p := hA0
  rw [Try.params6] at hA hval
  obtain ⟨v0, vs0, d0, ds0, p0, q0, hargs, rfl, rfl, h0, r0⟩ := trodAll_cons hA
  obtain ⟨v1, vs1, d1, ds1, p1, q1, rfl, rfl, rfl, h1, r1⟩ := trodAll_cons r0
  obtain ⟨v2, vs2, d2, ds2, p2, q2, rfl, rfl, rfl, h2, r2⟩ := trodAll_cons r1
  obtain ⟨rfl, rfl, rfl⟩ := trodAll_nil r2
  obtain rfl : args = #[v0, v1, v2] := by cases args; simp_all
  obtain ⟨rfl, rfl⟩ := trodVars_none hV
  have k0 := h0
  have lt0 : ∀ x ∈ p0, x.block < W.heap.size := by obtain ⟨m, hm⟩ := k0; exact DataW.trod_lt m _ _ _ hm
  obtain ⟨t0, b0, a0, cap0, z0, rfl, hm0, w0⟩ := open_rec (hval 0 24 v0 rfl rfl) h0
  obtain ⟨a1, rfl, rfl, rfl, w1⟩ := open_int Try.underlying45 (hval 1 45 v1 rfl rfl) h1
  obtain ⟨a2, rfl, rfl, rfl, w2⟩ := open_int Try.underlying5 (hval 2 5 v2 rfl rfl) h2
  clear hA0 hval0
  refine (walk t0 b0 a0 cap0 z0 a1 a2 W hm0 w0 w1 w2).mono fun e W' ⟨he, bel⟩ => ?_
  subst he
  exact ⟨_, rfl, _, _, _, [], _, [], hW', trodAll_mk1 (shut_bool Try.underlying4 _), (trodAll_cons_mk (Below.trod laidOut (by kernel_rfl) (of_decide_eq_true (by kernel_rfl)) k0 bel lt0) (trodAll_cons_mk (shut_int Try.underlying45 w1) (trodAll_cons_mk (shut_int Try.underlying5 w2) trodAll_mk0))), rfl, bel.frame _, fun h => by cases h⟩

theorem over : Rows.RecordDigitsSaid :=
  OpenClaim.holds_of_wide 6 Try.f6 rfl rfl rfl rfl rfl rfl rfl ⟨rfl, rfl, rfl, rfl, rfl⟩ rfl rfl rfl rfl rfl (by kernel_rfl) Try.func6 (by kernel_rfl)
    (of_decide_eq_true (by kernel_rfl)) (by unfold Func.isWrapper; first | (rw [if_pos (by decide +kernel)]; kernel_rfl) | (rw [if_neg (by decide +kernel)]; exact ⟨rfl, rfl⟩))
    (fun os started H enc _ => lifted os started H enc)
#print axioms over
end Go.Proofs.Ytbnehcnimbkakaa.recordDigitsDone
