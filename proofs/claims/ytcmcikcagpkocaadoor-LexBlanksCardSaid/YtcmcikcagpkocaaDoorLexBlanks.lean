/-
  Spaces and tabs around a line, and a comment after it, do not change the kinds, the texts and the numbers of its tokens: the statement LexBlanks holds for every input; what was there before the call is left as it was. It reads the variable lex.signs.
-/
import Derived.Test.YtcmcikcagpkocaaDoorLxW
import Derived.Test.YtcmcikcagpkocaaDoorLxU
import Derived.Test.YtcmcikcagpkocaaDoorLxZ
import Derived.Test.YtcmcikcagpkocaaDoorCards
import Derived.Test.YtcmcikcagpkocaaDoorTie
import Derived.ProofKit
import Derived.OpenShut
import Derived.Lay
import Derived.LaidOnce
import Derived.SevenTiedAt
import Derived.Below
namespace Go.Proofs.YtcmcikcagpkocaaDoor.lexBlanksDone
open Go.ChangeShapes Go.WideShapes Go.ChangeAt Go.RowKit
open Go.ChangeMaps (open_string shut_string)
set_option linter.unusedVariables false

theorem own : ownKnob Tryd.prog.godebug = none := by kernel_rfl
theorem laidOut : laidOutB Tryd.prog = true := by kernel_rfl
/-- A slice of integers that came in: nil, or a row of 'cap' cells that hold the numbers 'zs'. -/
def IsRow (k : IntKind) (w : World) (a : Option Addr) (len cap : Nat) (zs : List Int) : Prop :=
  (a = none ∧ len = 0 ∧ cap = 0 ∧ zs = []) ∨
  ∃ x, a = some x ∧ len ≤ cap ∧ cap ≤ maxLen ∧ zs.length = cap ∧ (∀ i, i < zs.length → w.cell? (x.add i) = some (.int k (zs.getD i 0))) ∧ ∀ n ∈ zs, (Lit.int k n).wf = true

attribute [local go_sem] Oper.semAt_some
theorem rep_blk (c : Nat) : (∀ x ∈ Lib.repeatL [32, 9] c, blkU x = true) ∧ (Lib.repeatL [32, 9] c).length = 2 * c := by
  induction c with
  | zero => exact ⟨by simp [Lib.repeatL], by simp [Lib.repeatL]⟩
  | succ c ih =>
    have e : Lib.repeatL [32, 9] (c + 1) = [32, 9] ++ Lib.repeatL [32, 9] c := rfl
    rw [e]
    refine ⟨fun x hx => ?_, by rw [List.length_append, ih.2]; simp; omega⟩
    rcases List.mem_append.1 hx with h | h
    · simp at h; rcases h with rfl | rfl <;> decide
    · exact ih.1 x h
theorem contains_one (s : ByteArray) (c : UInt8) : decide ((0 : Int) ≤ Lib.indexByte s.data.toList c) = true ↔ c ∈ s.data.toList := by
  rw [decide_eq_true_iff]
  rcases idx_cases s.data.toList c with ⟨h1, h2⟩ | ⟨i, r, h1, h2, h3, h4⟩
  · exact ⟨fun h => by omega, fun h => absurd rfl (h2 c h)⟩
  · refine ⟨fun _ => ?_, fun _ => by omega⟩
    rw [h2]
    simp
set_option maxRecDepth 100000 in
set_option maxHeartbeats 4000000 in
theorem walk (s r : ByteArray) (n : Int) (w : World) (ws : s.size ≤ maxLen) (wr : r.size ≤ maxLen) (wn : (Lit.int .u8 n).wf = true) (M : MaxAt w) (SG : SgAt w) :
    Calls Tryd.prog 7 #[.string s, .string r, .int .u8 n] w fun e w' => e = .returned (.bool true) ∧ Below w.heap.size w w' := by
  unfold maxLen at ws wr
  have hn : 0 ≤ n ∧ n ≤ 255 := bounds_u8 wn
  obtain ⟨hn0, hn1⟩ := hn
  by_cases h : 300 < s.size
  · have AL := Lib.hid (lalive_any w SG)
    clear M SG wn
    go_enter Tryd.func7, Tryd.ntmps7
    go_wp2_with fail
    refine AL.out.mono ?_
    rintro e w2 ⟨rfl, hb⟩
    have B := Lib.hid hb
    clear hb
    go_wp2
    go_ret
    exact ⟨rfl, B.out⟩
  by_cases h' : 300 < r.size
  · have AL := Lib.hid (lalive_any w SG)
    clear M SG wn
    go_enter Tryd.func7, Tryd.ntmps7
    go_wp2_with fail
    refine AL.out.mono ?_
    rintro e w2 ⟨rfl, hb⟩
    have B := Lib.hid hb
    clear hb
    go_wp2
    go_ret
    exact ⟨rfl, B.out⟩
  obtain ⟨f, T1, hT1⟩ := tok_all s.data.toList 0
  obtain ⟨k, hk⟩ : ∃ k : Nat, n.tmod 5 = k := ⟨(n.tmod 5).toNat, by have := Int.tmod_nonneg 5 hn0; omega⟩
  have hk4 : k ≤ 4 := by have := Int.tmod_lt_of_pos n (show (0 : Int) < 5 by omega); omega
  have hl : s.data.toList.length = s.size := by simp
  have RB := rep_blk k
  obtain ⟨bl, hbl⟩ : ∃ bl, Lib.repeatL [32, 9] k = bl := ⟨_, rfl⟩
  rw [hbl] at RB
  have h22 : (⟨#[32, 9]⟩ : ByteArray).size = 2 := rfl
  have REP := fun w => Tryd.strings_Repeat ⟨#[32, 9]⟩ k w (by omega) (by rw [h22]; omega)
  have e0 : Lib.repeatL (⟨#[32, 9]⟩ : ByteArray).data.toList k = bl := hbl
  rw [e0] at REP
  obtain ⟨R, hR⟩ : ∃ R, (⟨bl.toArray⟩ : ByteArray) = R := ⟨_, rfl⟩
  have hRs : R.size ≤ 8 := by rw [← hR]; have := sOf_size bl; have h2 : (⟨bl.toArray⟩ : ByteArray).size = bl.length := this; rw [h2, RB.2]; omega
  have hRl : R.data.toList = bl := by rw [← hR]
  rw [hR] at REP
  have hs3 : (⟨#[32, 9, 59]⟩ : ByteArray).size = 3 := rfl
  obtain ⟨Z, hZ⟩ : ∃ Z, R ++ s ++ (⟨#[32, 9, 59]⟩ : ByteArray) ++ r = Z := ⟨_, rfl⟩
  have hZs : Z.size ≤ 1000 := by rw [← hZ]; simp only [ByteArray.size_append, hs3]; omega
  have hZl : Z.data.toList = bl ++ (s.data.toList ++ 32 :: 9 :: 59 :: r.data.toList) := by
    rw [← hZ, append_data, append_data, append_data, hRl]
    simp
  obtain ⟨c2, T2, hT2⟩ := tok_all (bl ++ (s.data.toList ++ 32 :: 9 :: 59 :: r.data.toList)) 0
  have TB := fun hq => blanks_ok hT1 bl r.data.toList RB.1 hq
  have TB1 := Lib.hid TB
  have HT1 := Lib.hid hT1
  have HT2 := Lib.hid hT2
  have HL : Hid (s.data.toList.length ≤ 1024) := by show _ ≤ _; omega
  have hZZ : Z.data.toList.length ≤ 1024 := by
    have : Z.data.toList.length = Z.size := by simp
    omega
  have HZL : Hid (Z.data.toList = _ ∧ Z.data.toList.length ≤ 1024) := ⟨hZl, hZZ⟩
  have REP1 := Lib.hid REP
  have SG1 := Lib.hid SG
  have RT := Lib.hid (rtokens_any s (by omega) w)
  have hs1 : (R ++ s).size = R.size + s.size := ByteArray.size_append
  have hs2 : (R ++ s ++ (⟨#[32, 9, 59]⟩ : ByteArray)).size = R.size + s.size + 3 := by rw [ByteArray.size_append, hs1, hs3]
  clear M SG wn RB hbl REP e0 hR hRl hZl hZZ TB hT1 hT2 hl
  go_enter Tryd.func7, Tryd.ntmps7
  go_wp2_with fail
  refine RT.out.mono ?_
  rintro e w2 hr
  obtain ⟨A1, cap1, rfl, K1, hb⟩ := ret_read hr HL.out HT1.out
  have B2 := Lib.hid hb
  have KA := Lib.hid K1
  clear hb K1 hr RT
  go_wp2_with fail
  refine (REP1.out w2).mono ?_
  rintro e w3 ⟨rfl, hb⟩
  have B3 := Lib.hid (B2.out.trans (hb.mono B2.out.size))
  have KB := Lib.hid (KA.out.below hb)
  have SG3 := SG1.out.up B3.out
  have TK0 := tokens_any Z (by omega) w3 SG3 SG3.lt
  rw [HZL.out.1] at TK0
  have TK := Lib.hid TK0
  clear hb TK0 SG3 B2 KA REP1
  go_wp2_with fail
  refine TK.out.mono ?_
  rintro e w4 hr
  obtain ⟨A2, cap2, rfl, K2, hb⟩ := ret_read hr (by rw [← HZL.out.1]; exact HZL.out.2) HT2.out
  have B4 := Lib.hid (B3.out.trans (hb.mono B3.out.size))
  have KC := Lib.hid (KB.out.below hb)
  have KD := Lib.hid K2
  have AL := Lib.hid (lalive_any w4 (SG1.out.up B4.out))
  clear hb hr K2 KB B3 TK
  by_cases hf : f = 0
  · have TBB := TB1.out (.inl hf)
    subst hf
    obtain ⟨T', hT', hcore⟩ := TBB
    obtain ⟨rfl, rfl⟩ := tok_one hT' HT2.out
    have hTl := (tok_facts HT1.out).2.2.2
    have hlen : T'.length = T1.length := by have := congrArg List.length hcore; simpa using this
    obtain ⟨kk, hkk⟩ : ∃ kk, T1.length = kk := ⟨_, rfl⟩
    have hk1 : kk ≤ 10000 := by have := HL.out; omega
    rw [hkk] at hlen ⊢
    rw [hlen]
    have CF : Hid (∀ j (h1 : j < T'.length) (h2 : j < T1.length) (w' : World), Calls Tryd.prog 25 #[.agg (tokA T'[j]), .agg (tokA T1[j])] w' fun e w'' => e = .returned (.bool true) ∧ Below w'.heap.size w' w'') := fun j h1 h2 w' => blankF_any _ _ (by
      have h3 : (T'.map Tk.core)[j]? = (T1.map Tk.core)[j]? := by rw [hcore]
      rw [List.getElem?_map, List.getElem?_map, List.getElem?_eq_getElem h1, List.getElem?_eq_getElem h2] at h3
      simpa using h3) w'
    have HA := Lib.hid hlen
    have HB := Lib.hid hkk
    clear hT' hcore hTl hlen hkk TB1 HT2
    go_wp2_with fail
    refine AL.out.mono ?_
    rintro e w5 ⟨rfl, hb⟩
    have EQ := Lib.hid (eqf24_any (g := 25) (enters_of Tryd.func25 (by kernel_rfl) rfl) A2 A1 kk cap2 cap1 T' T1 HA.out HB.out hk1 w5 (KD.out.below hb) (KC.out.below hb) CF.out)
    have B5 := Lib.hid (B4.out.trans (hb.mono B4.out.size))
    clear hb AL KC KD B4 CF
    go_wp2_with fail
    refine EQ.out.mono ?_
    rintro e w6 ⟨rfl, hb⟩
    have B6 := Lib.hid (B5.out.trans (hb.mono B5.out.size))
    clear hb EQ B5
    go_wp2
    go_ret
    exact ⟨ret_bool (by simp), B6.out⟩
  · have hf0 : ((f : Int) != 0) = true := bne_iff_ne.2 hf
    by_cases hc : c2 = 0
    · have hq : 39 ∈ s.data.toList ∨ 34 ∈ s.data.toList := by
        by_cases h39 : (39 : UInt8) ∈ s.data.toList
        · exact .inl h39
        · by_cases h34 : (34 : UInt8) ∈ s.data.toList
          · exact .inr h34
          · obtain ⟨T', hT', -⟩ := TB1.out (.inr fun x hx => ⟨fun e => h34 (by rw [← e]; exact hx), fun e => h39 (by rw [← e]; exact hx)⟩)
            exact absurd ((tok_one hT' HT2.out).1.trans hc) hf
      have hc0 : ((c2 : Int) != 0) = false := by rw [hc]; rfl
      have C39 := fun w => Tryd.strings_Contains_one s 39 w
      have C34 := fun w => Tryd.strings_Contains_one s 34 w
      have k39 := contains_one s 39
      have k34 := contains_one s 34
      obtain ⟨b39, hb39⟩ : ∃ b, decide ((0 : Int) ≤ Lib.indexByte s.data.toList 39) = b := ⟨_, rfl⟩
      obtain ⟨b34, hb34⟩ : ∃ b, decide ((0 : Int) ≤ Lib.indexByte s.data.toList 34) = b := ⟨_, rfl⟩
      rw [hb39] at C39 k39
      rw [hb34] at C34 k34
      have D39 := Lib.hid C39
      have D34 := Lib.hid C34
      have hor : b39 = true ∨ (b39 = false ∧ b34 = true) := by
        rcases hq with h | h
        · exact .inl (k39.2 h)
        · cases b39
          · exact .inr ⟨rfl, k34.2 h⟩
          · exact .inl rfl
      clear hq C39 C34 k39 k34 hb39 hb34 hc hf TB1 HT1 HT2 KC KD
      rcases hor with rfl | ⟨rfl, rfl⟩
      · go_wp2_with fail
        refine AL.out.mono ?_
        rintro e w5 ⟨rfl, hb⟩
        have B5 := Lib.hid (B4.out.trans (hb.mono B4.out.size))
        clear hb AL B4
        go_wp2_with fail
        refine (D39.out _).mono ?_
        rintro e w6 ⟨rfl, rfl⟩
        go_wp2
        go_ret
        exact ⟨ret_bool (by simp), B5.out⟩
      · go_wp2_with fail
        refine AL.out.mono ?_
        rintro e w5 ⟨rfl, hb⟩
        have B5 := Lib.hid (B4.out.trans (hb.mono B4.out.size))
        clear hb AL B4
        go_wp2_with fail
        refine (D39.out _).mono ?_
        rintro e w6 ⟨rfl, rfl⟩
        go_wp2_with fail
        refine (D34.out _).mono ?_
        rintro e w6 ⟨rfl, rfl⟩
        go_wp2
        go_ret
        exact ⟨ret_bool (by simp), B5.out⟩
    · have hc0 : ((c2 : Int) != 0) = true := bne_iff_ne.2 hc
      clear hc hf TB1 HT1 HT2 KC KD
      go_wp2_with fail
      refine AL.out.mono ?_
      rintro e w5 ⟨rfl, hb⟩
      have B5 := Lib.hid (B4.out.trans (hb.mono B4.out.size))
      clear hb AL B4
      go_wp2
      go_ret
      exact ⟨ret_bool (by simp), B5.out⟩

set_option maxRecDepth 100000 in
theorem lifted (os : Os) (started : os.Started) (H : Type) (enc : TypeId × Value → H) :
    ReturnsInHanded {} Tryd.checked os 7 .any (fun w args => (Rows.lexBlanksSpec.pre enc Tryd.prog Tryd.f7 [] false w args ∧ laidMetH Tryd.prog Rows.lexBlanksRow.laid w) ∧ sizedMet enc Tryd.prog Tryd.f7 (OpenSpec.ofChange Rows.lexBlanksSpec) false w args)
      (Rows.lexBlanksSpec.post enc Tryd.prog Tryd.f7 false true false false) := by
  refine wrap_shaped (C := Tryd.checked) (X := fun w _ => laidMetH Tryd.prog Rows.lexBlanksRow.laid w) (fun _ _ _ hh h => h.of_heap hh) own started (by kernel_rfl) Tryd.func7
    (ChangeSpec.witness_shaped (enc := enc) (C := Tryd.checked) (os := os) (X := fun w _ => laidMetH Tryd.prog Rows.lexBlanksRow.laid w) false (World.laidAll Tryd.prog os Rows.lexBlanksRow.laid) #[.string ⟨#[]⟩, .string ⟨#[]⟩, .int .u8 0] 8 (World.laidAll_os _ _ _)
      (World.shaped_of_ZipB (by kernel_rfl) (by kernel_rfl)) (by kernel_rfl) (by kernel_rfl) (by kernel_rfl)
      (by rw [MakeChecks.laidMetH_plain _ _ _ (by kernel_rfl)]; exact laidMet_laidAll _ (by kernel_rfl) (by kernel_rfl))) ?_
  intro W base args ds gs before hval0 hW hL hsh
  have hval : ∀ (j : Nat) t v, Tryd.f7.params[j]? = some t → args[j]? = some v → Value.okWide Tryd.prog W .any base t v := hval0
  have hW' := hW
  obtain ⟨p, q, hA0, hV, rfl, _, _⟩ := hW
  have hA : DataW.TrodAll enc Tryd.prog W 0 (fun _ => true) true Tryd.f7.params.toList args.toList ds p := hA0
  rw [Tryd.params7] at hA hval
  obtain ⟨v0, vs0, d0, ds0, p0, q0, hargs, rfl, rfl, h0, r0⟩ := trodAll_cons hA
  obtain ⟨v1, vs1, d1, ds1, p1, q1, rfl, rfl, rfl, h1, r1⟩ := trodAll_cons r0
  obtain ⟨v2, vs2, d2, ds2, p2, q2, rfl, rfl, rfl, h2, r2⟩ := trodAll_cons r1
  obtain ⟨rfl, rfl, rfl⟩ := trodAll_nil r2
  obtain rfl : args = #[v0, v1, v2] := by cases args; simp_all
  obtain ⟨rfl, rfl⟩ := trodVars_none hV
  obtain ⟨s0, rfl, rfl, rfl, w0⟩ := open_string Tryd.underlying9 (hval 0 9 v0 rfl rfl) h0
  obtain ⟨s1, rfl, rfl, rfl, w1⟩ := open_string Tryd.underlying9 (hval 1 9 v1 rfl rfl) h1
  obtain ⟨a2, rfl, rfl, rfl, w2⟩ := open_int Tryd.underlying5 (hval 2 5 v2 rfl rfl) h2
  clear hA0 hval0
  refine (walk s0 s1 a2 W w0 w1 w2 (max_of_shape hsh) (sg_of_laid hL (by kernel_rfl) (.tail _ (.head _)))).mono fun e W' ⟨he, bel⟩ => ?_
  subst he
  exact ⟨_, rfl, _, _, _, [], _, [], hW', trodAll_mk1 (shut_bool Tryd.underlying4 _), (trodAll_cons_mk (shut_string Tryd.underlying9 w0) (trodAll_cons_mk (shut_string Tryd.underlying9 w1) (trodAll_cons_mk (shut_int Tryd.underlying5 w2) trodAll_mk0))), rfl, bel.frame _, fun h => by cases h⟩

theorem over : Rows.LexBlanksSaid :=
  OpenClaim.holds_of_wide 7 Tryd.f7 rfl rfl rfl rfl rfl rfl rfl ⟨rfl, rfl, rfl, rfl, rfl⟩ rfl rfl rfl rfl rfl (by kernel_rfl) Tryd.func7 (by kernel_rfl)
    (of_decide_eq_true (by kernel_rfl)) (by unfold Func.isWrapper; first | (rw [if_pos (by decide +kernel)]; kernel_rfl) | (rw [if_neg (by decide +kernel)]; exact ⟨rfl, rfl⟩))
    (fun os started H enc _ => lifted os started H enc)
theorem card_holds : Rows.LexBlanksCardSaid :=
  Claim7.holds_tied_plain_at .later [] [.data, .data, .pinned] true Rows.lexBlanksCard.stood.harness false over (fun _ h => by cases h) (by kernel_rfl) (fun _ h => by cases h) lexBlanks_row_tie rfl ⟨rfl, rfl⟩ (by kernel_rfl) rfl
    (fun f fn hf hfn => by
      obtain rfl : f = 7 := Option.some.inj ((show Tryd.prog.funcNamed Tryd.f7.name = some 7 by kernel_rfl).symm.trans hf) |>.symm
      obtain rfl : fn = Tryd.f7 := (Option.some.inj (Tryd.func7.symm.trans hfn)).symm
      exact ⟨by kernel_rfl, fun j t ht => by
        rw [Tryd.params7] at ht
        have hm : t ∈ [9, 9, 5] := by simpa [or_assoc, or_comm, or_left_comm] using Array.mem_of_getElem? ht
        have hall : ([9, 9, 5].all fun u => !Tryd.prog.wantsStandIn u) = true := by kernel_rfl
        exact (show Tryd.prog.wantsStandIn t = false by simpa using List.all_eq_true.1 hall t hm)⟩)
    (by kernel_rfl)
#print axioms card_holds
end Go.Proofs.YtcmcikcagpkocaaDoor.lexBlanksDone
