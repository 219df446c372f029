/-
  Tokens of Print of the tokens of a line returns the same kinds, texts and numbers: the statement LexPrints holds for every input; what was there before the call is left as it was. It reads the variables lex.signs and bytealg.MaxLen.
-/
import Derived.Test.YtcmcikcagpkocaaDoorLxYr
import Derived.Test.YtcmcikcagpkocaaDoorLxU
import Derived.Test.YtcmcikcagpkocaaDoorLxZ
import Derived.Test.YtcmcikcagpkocaaDoorCards
import Derived.Test.YtcmcikcagpkocaaDoorTie
import Derived.ProofKit
import Derived.OpenShut
import Derived.Lay
import Derived.LaidOnce
import Derived.SevenTiedAt
import Derived.Below
namespace Go.Proofs.YtcmcikcagpkocaaDoor.lexPrintsDone
open Go.ChangeShapes Go.WideShapes Go.ChangeAt Go.RowKit
open Go.ChangeMaps (open_string shut_string)
set_option linter.unusedVariables false

theorem own : ownKnob Tryd.prog.godebug = none := by kernel_rfl
theorem laidOut : laidOutB Tryd.prog = true := by kernel_rfl
/-- A slice of integers that came in: nil, or a row of 'cap' cells that hold the numbers 'zs'. -/
def IsRow (k : IntKind) (w : World) (a : Option Addr) (len cap : Nat) (zs : List Int) : Prop :=
  (a = none ∧ len = 0 ∧ cap = 0 ∧ zs = []) ∨
  ∃ x, a = some x ∧ len ≤ cap ∧ cap ≤ maxLen ∧ zs.length = cap ∧ (∀ i, i < zs.length → w.cell? (x.add i) = some (.int k (zs.getD i 0))) ∧ ∀ n ∈ zs, (Lit.int k n).wf = true

attribute [local go_sem] Oper.semAt_some
/-- The texts of the tokens of a line are not longer than the line. -/
theorem tok_short {l : List UInt8} {a : Nat} {c : Int} {T : List Tk} (h : TokR l a c T) (hl : l.length ≤ 300) : ∀ x ∈ T, x.t.length ≤ 1000 := by
  have key : ∀ {l : List UInt8} {k : Int} {t : List UInt8} {n : Int} {z : Nat}, nxt l = .tok k t n z → l.length ≤ 300 → t.length ≤ 1000 := by
    intro l k t n z hx hl
    cases l with
    | nil => cases hx; simp
    | cons m r =>
      simp only [nxt] at hx
      split at hx
      · cases hx; simp
      split at hx
      · cases hx; rw [List.length_take]; omega
      split at hx
      · split at hx
        · cases hx; simp
        · cases hx
      split at hx
      · split at hx
        · next p hp => cases hx; have := quo_le m r p hp; simp at hl; omega
        · cases hx
      split at hx
      · next s hs =>
        cases hx
        obtain ⟨q, hq⟩ := sign_pre hs
        have := congrArg List.length hq
        rw [List.length_append] at this
        omega
      · cases hx
  induction h with
  | fin l a h => intro x hx; simp at hx; subst hx; simp
  | bad l a c h => intro x hx; cases hx
  | more l a k t n z c T h hk h3 ih =>
    have h1 := key h (by rw [List.length_drop]; omega)
    have h2 := ih (by rw [List.length_drop]; omega)
    intro x hx
    split at hx
    · rcases List.mem_cons.1 hx with rfl | hx
      · exact h1
      · exact h2 x hx
    · cases hx
set_option maxRecDepth 100000 in
set_option maxHeartbeats 4000000 in
theorem walk (s : ByteArray) (w : World) (ws : s.size ≤ maxLen) (M : MaxAt w) (SG : SgAt w) :
    Calls Tryd.prog 4 #[.string s] w fun e w' => e = .returned (.bool true) ∧ Below w.heap.size w w' := by
  unfold maxLen at ws
  by_cases h : 300 < s.size
  · have AL := Lib.hid (lalive_any w SG)
    clear M SG
    go_enter Tryd.func4, Tryd.ntmps4
    go_wp2_with fail
    refine AL.out.mono ?_
    rintro e w2 ⟨rfl, hb⟩
    have B := Lib.hid hb
    clear hb
    go_wp2
    go_ret
    exact ⟨rfl, B.out⟩
  have hl : s.data.toList.length = s.size := by simp
  obtain ⟨c, T, hT⟩ := tok_all s.data.toList 0
  have TK := Lib.hid (tokens_any s (by omega) w SG SG.lt)
  have HT := Lib.hid hT
  have HL : Hid (s.data.toList.length ≤ 300) := by show _ ≤ _; omega
  have SG1 := Lib.hid SG
  have M1 := Lib.hid M
  by_cases hc : c = 0
  · have hTn := (tok_facts hT).2.1 hc
    have hTl := (tok_facts hT).2.2.2
    obtain ⟨k, hk⟩ : ∃ k, T.length = k := ⟨_, rfl⟩
    have hk0 : 0 < k := by rw [← hk]; exact List.length_pos_iff.2 hTn
    have hk3 : k ≤ 301 := by omega
    have hsh := tok_short hT (by omega)
    have hag := tok_again hT hc
    have hz : (prL T).length ≤ 900 := by have := hag.2; omega
    obtain ⟨T', hT', hcore⟩ := hag.1 0
    have hlen : T'.length = k := by have := congrArg List.length hcore; simp at this; omega
    have HK := Lib.hid hk
    have HS := Lib.hid hsh
    have HZ := Lib.hid hz
    have HT2 := Lib.hid hT'
    have HC := Lib.hid hcore
    have HK2 := Lib.hid hlen
    obtain ⟨P, hP⟩ : ∃ P, sOf (prL T) = P := ⟨_, rfl⟩
    have hPs : P.size ≤ 900 := by rw [← hP, sOf_size]; exact hz
    have HP := Lib.hid hP
    have qq := strBx P
    have qn : (P.toList != P.toList) = false := by rw [bne, qq]; rfl
    subst hc
    clear M SG hT hTn hTl hk hsh hag hz hT' hcore hlen hP hl
    go_enter Tryd.func4, Tryd.ntmps4
    go_wp2_with fail
    refine TK.out.mono ?_
    rintro e w2 hr
    obtain ⟨A, cap, rfl, K, hb⟩ := ret_read hr (by have := HL.out; omega) HT.out
    rw [HK.out]
    obtain ⟨D, hD⟩ : ∃ D, w2.heap.size = D := ⟨_, rfl⟩
    have B2 := Lib.hid hb
    have KK : Hid (∀ w', Below D w2 w' → KsP w' A T) := fun w' h => K.below (by rw [hD]; exact h)
    have O0 := Lib.hid (ownK_nil 34 w2 D)
    have BB : Hid (Below D w2 w2) := Below.refl _ _
    have hDD : D ≤ w2.heap.size := by omega
    have e0 : ((k : Int) == 0) = false := beq_eq_false_iff_ne.2 (by omega)
    clear hr K hb TK
    go_wp2
    clear e0
    go_loopw [5, 34] (fun sv iv wr => ∃ (j : Nat) (A2 : Option Addr) (cap2 : Nat), iv = .int .i64 j ∧ sv = .slice A2 j cap2 ∧ j ≤ k ∧ D ≤ wr.heap.size ∧ Hid (OwnK 34 wr D sv (T.take j)) ∧ Hid (Below D w2 wr)) (fun _ iv _ => k - (intOf iv).toNat)
    case atStart => exact ⟨0, none, 0, by go_num, rfl, Nat.zero_le _, hDD, O0, BB⟩
    case round =>
      clear O0 BB hDD
      obtain ⟨j, A2, cap2, rfl, rfl, hj, hnw, O, B⟩ := hrel
      by_cases hjk : j < k
      · have hjl : j < T.length := by rw [HK.out]; exact hjk
        obtain ⟨g, off, rfl, -, c0, c1, c2, c3⟩ := (KK.out wr B.out).at_ hjl
        have htk := List.take_succ_eq_append_getElem hjl
        obtain ⟨x, hx⟩ : ∃ x, T[j] = x := ⟨_, rfl⟩
        rw [hx] at c0 c1 c2 c3 htk
        have htl : (T.take j).length = j := by rw [List.length_take]; omega
        obtain ⟨b, hb⟩ : ∃ b, wr.heap.size = b := ⟨_, rfl⟩
        obtain ⟨w3, hw3, T3, y3, z3⟩ := tk_start 33 wr b hb x.k (sOf x.t) x.n x.p
        have O3 : Hid (OwnK 34 w3 D (.slice A2 j cap2) (T.take j)) := ⟨O.out.1, by
          rcases O.out.2 with e | ⟨g, c1, cur, e1, e2, e3, e4⟩
          · exact .inl e
          · exact .inr ⟨g, c1, cur, e1, e2, (y3.block g (Array.getElem?_eq_some_iff.1 e3).1).trans e3, e4⟩⟩
        have B3 := Lib.hid (B.out.trans (y3.mono (by omega)))
        obtain ⟨h0, h1, h2, h3, hf⟩ := T3.cells
        have HTK := Lib.hid htk
        have HTL := Lib.hid htl
        clear O B y3 T3 hx htk htl hjl
        go_wp2_with (at_builtin; refine wpList_appK kt_ref O3.out (by omega) rfl _ _ rfl rfl _ z3.symm rfl x j HTL.out (by omega) ?_; intro A3 cap3 w5 hO hb5 hsz hbl; have O5 : Hid (OwnK 34 w5 D (.slice A3 (j + 1) cap3) (T.take (j + 1))) := (by rw [HTK.out]; exact hO); have B5 := Lib.hid (B3.out.trans hb5); clear hO hb5 hbl O3 B3 h0 h1 h2 h3 hf)
        go_roundw
        case rel => exact ⟨j + 1, A3, cap3, by go_num, rfl, hjk, by omega, O5, B5⟩
        case measure => simp [intOf]; omega
      · have hjk2 : j = k := by omega
        subst hjk2
        have O2 := O.out
        rw [List.take_of_length_le (by rw [HK.out]; omega)] at O2
        obtain ⟨A', cap', e1, K2, -⟩ := O2.ks
        simp only [Value.slice.injEq] at e1
        obtain ⟨rfl, -, rfl⟩ := e1
        have Bw : Below w2.heap.size w2 wr := by rw [hD]; exact B.out
        have BW := Lib.hid (B2.out.trans (Bw.mono B2.out.size))
        have PR0 := lprint_any A cap j T HK.out hk0 (by omega) (by have := HZ.out; omega) (fun x hx => by have := HS.out x hx; omega) wr (KK.out wr B.out) (M1.out.up BW.out)
        rw [HP.out] at PR0
        have PR := Lib.hid PR0
        have K3 := Lib.hid K2
        have K4 := Lib.hid (KK.out wr B.out)
        clear O O2 K2 Bw PR0 B B2 KK
        go_wp2_with fail
        refine PR.out.mono ?_
        rintro e w3 ⟨rfl, hb⟩
        have RP0 := rprint_any A2 cap2 j T HK.out (by omega) (by have := HZ.out; omega) (fun x hx => by have := HS.out x hx; omega) w3 (K3.out.below hb)
        rw [HP.out] at RP0
        have RP := Lib.hid RP0
        have B3 := Lib.hid (BW.out.trans (hb.mono BW.out.size))
        have K5 := Lib.hid (K4.out.below hb)
        clear hb RP0 K3 K4 BW PR
        go_wp2_with fail
        refine RP.out.mono ?_
        rintro e w4 ⟨rfl, hb⟩
        have B4 := Lib.hid (B3.out.trans (hb.mono B3.out.size))
        have K6 := Lib.hid (K5.out.below hb)
        have SG4 := SG1.out.up B4.out
        have hPl : P.data.toList = prL T := by rw [← HP.out, sOf_list]
        have TK0 := tokens_any P (by omega) w4 SG4 SG4.lt
        rw [hPl] at TK0
        have TK := Lib.hid TK0
        clear hb K5 B3 SG4 hPl TK0 RP
        go_wp2_with fail
        refine TK.out.mono ?_
        rintro e w5 hr
        obtain ⟨A3, cap3, rfl, K7, hb⟩ := ret_read hr (by have := HZ.out; omega) HT2.out
        rw [HK2.out]
        have B5 := Lib.hid (B4.out.trans (hb.mono B4.out.size))
        have AL := Lib.hid (lalive_any w5 (SG1.out.up B5.out))
        have K8 := Lib.hid (K6.out.below hb)
        have K9 := Lib.hid K7
        clear hr hb K6 K7 B4 TK
        go_wp2_with fail
        refine AL.out.mono ?_
        rintro e w6 ⟨rfl, hb⟩
        have CF : ∀ i (h1 : i < T.length) (h2 : i < T'.length) (w' : World), Calls Tryd.prog 16 #[.agg (tokA T[i]), .agg (tokA T'[i])] w' fun e w'' => e = .returned (.bool true) ∧ Below w'.heap.size w' w'' := fun i h1 h2 w' => printF_any _ _ (by
          have h3 : (T'.map Tk.core)[i]? = (T.map Tk.core)[i]? := by rw [HC.out]
          rw [List.getElem?_map, List.getElem?_map, List.getElem?_eq_getElem h1, List.getElem?_eq_getElem h2] at h3
          simpa using h3.symm) w'
        have EQ := Lib.hid (eqf15_any (g := 16) (enters_of Tryd.func16 (by kernel_rfl) rfl) A A3 j cap cap3 T T' HK.out HK2.out (by omega) w6 (K8.out.below hb) (K9.out.below hb) CF)
        have B6 := Lib.hid (B5.out.trans (hb.mono B5.out.size))
        clear hb AL K8 K9 B5 CF
        go_wp2_with fail
        refine EQ.out.mono ?_
        rintro e w7 ⟨rfl, hb⟩
        have B7 := Lib.hid (B6.out.trans (hb.mono B6.out.size))
        clear hb EQ B6
        go_wp2
        go_ret
        exact ⟨ret_bool (by simp), B7.out⟩
  · have hc0 : ((c : Int) != 0) = true := bne_iff_ne.2 hc
    clear M SG hT hl hc
    go_enter Tryd.func4, Tryd.ntmps4
    go_wp2_with fail
    refine TK.out.mono ?_
    rintro e w2 hr
    obtain ⟨A, cap, rfl, K, hb⟩ := ret_read hr (by have := HL.out; omega) HT.out
    have B2 := Lib.hid hb
    have AL := Lib.hid (lalive_any w2 (SG1.out.up hb))
    clear hr K hb TK
    go_wp2_with fail
    refine AL.out.mono ?_
    rintro e w3 ⟨rfl, hb⟩
    have B3 := Lib.hid (B2.out.trans (hb.mono B2.out.size))
    clear hb AL B2
    go_wp2
    go_ret
    exact ⟨ret_bool (by simp), B3.out⟩

set_option maxRecDepth 100000 in
theorem lifted (os : Os) (started : os.Started) (H : Type) (enc : TypeId × Value → H) :
    ReturnsInHanded {} Tryd.checked os 4 .any (fun w args => (Rows.lexPrintsSpec.pre enc Tryd.prog Tryd.f4 [] false w args ∧ laidMetH Tryd.prog Rows.lexPrintsRow.laid w) ∧ sizedMet enc Tryd.prog Tryd.f4 (OpenSpec.ofChange Rows.lexPrintsSpec) false w args)
      (Rows.lexPrintsSpec.post enc Tryd.prog Tryd.f4 false true false false) := by
  refine wrap_shaped (C := Tryd.checked) (X := fun w _ => laidMetH Tryd.prog Rows.lexPrintsRow.laid w) (fun _ _ _ hh h => h.of_heap hh) own started (by kernel_rfl) Tryd.func4
    (ChangeSpec.witness_shaped (enc := enc) (C := Tryd.checked) (os := os) (X := fun w _ => laidMetH Tryd.prog Rows.lexPrintsRow.laid w) false (World.laidAll Tryd.prog os Rows.lexPrintsRow.laid) #[.string ⟨#[]⟩] 8 (World.laidAll_os _ _ _)
      (World.shaped_of_ZipB (by kernel_rfl) (by kernel_rfl)) (by kernel_rfl) (by kernel_rfl) (by kernel_rfl)
      (by rw [MakeChecks.laidMetH_plain _ _ _ (by kernel_rfl)]; exact laidMet_laidAll _ (by kernel_rfl) (by kernel_rfl))) ?_
  intro W base args ds gs before hval0 hW hL hsh
  have hval : ∀ (j : Nat) t v, Tryd.f4.params[j]? = some t → args[j]? = some v → Value.okWide Tryd.prog W .any base t v := hval0
  have hW' := hW
  obtain ⟨p, q, hA0, hV, rfl, _, _⟩ := hW
  have hA : DataW.TrodAll enc Tryd.prog W 0 (fun _ => true) true Tryd.f4.params.toList args.toList ds p := hA0
  rw [Tryd.params4] at hA hval
  obtain ⟨v0, vs0, d0, ds0, p0, q0, hargs, rfl, rfl, h0, r0⟩ := trodAll_cons hA
  obtain ⟨rfl, rfl, rfl⟩ := trodAll_nil r0
  obtain rfl : args = #[v0] := by cases args; simp_all
  obtain ⟨rfl, rfl⟩ := trodVars_none hV
  obtain ⟨s0, rfl, rfl, rfl, w0⟩ := open_string Tryd.underlying9 (hval 0 9 v0 rfl rfl) h0
  clear hA0 hval0
  refine (walk s0 W w0 (max_of_shape hsh) (sg_of_laid hL (by kernel_rfl) (.tail _ (.head _)))).mono fun e W' ⟨he, bel⟩ => ?_
  subst he
  exact ⟨_, rfl, _, _, _, [], _, [], hW', trodAll_mk1 (shut_bool Tryd.underlying4 _), (trodAll_cons_mk (shut_string Tryd.underlying9 w0) trodAll_mk0), rfl, bel.frame _, fun h => by cases h⟩

theorem over : Rows.LexPrintsSaid :=
  OpenClaim.holds_of_wide 4 Tryd.f4 rfl rfl rfl rfl rfl rfl rfl ⟨rfl, rfl, rfl, rfl, rfl⟩ rfl rfl rfl rfl rfl (by kernel_rfl) Tryd.func4 (by kernel_rfl)
    (of_decide_eq_true (by kernel_rfl)) (by unfold Func.isWrapper; first | (rw [if_pos (by decide +kernel)]; kernel_rfl) | (rw [if_neg (by decide +kernel)]; exact ⟨rfl, rfl⟩))
    (fun os started H enc _ => lifted os started H enc)
theorem card_holds : Rows.LexPrintsCardSaid :=
  Claim7.holds_tied_plain_at .later [] [.data, .data, .pinned] true Rows.lexPrintsCard.stood.harness false over (fun _ h => by cases h) (by kernel_rfl) (fun _ h => by cases h) lexPrints_row_tie rfl ⟨rfl, rfl⟩ (by kernel_rfl) rfl
    (fun f fn hf hfn => by
      obtain rfl : f = 4 := Option.some.inj ((show Tryd.prog.funcNamed Tryd.f4.name = some 4 by kernel_rfl).symm.trans hf) |>.symm
      obtain rfl : fn = Tryd.f4 := (Option.some.inj (Tryd.func4.symm.trans hfn)).symm
      exact ⟨by kernel_rfl, fun j t ht => by
        rw [Tryd.params4] at ht
        have hm : t ∈ [9] := by simpa [or_assoc, or_comm, or_left_comm] using Array.mem_of_getElem? ht
        have hall : ([9].all fun u => !Tryd.prog.wantsStandIn u) = true := by kernel_rfl
        exact (show Tryd.prog.wantsStandIn t = false by simpa using List.all_eq_true.1 hall t hm)⟩)
    (by kernel_rfl)
#print axioms card_holds
end Go.Proofs.YtcmcikcagpkocaaDoor.lexPrintsDone
