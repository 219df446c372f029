/-
  The walk over the reference's Tokens.
-/
import Derived.Test.YtcmcikcagpkocaaDoorLxS
import Derived.Test.YtcmcikcagpkocaaDoorLxP
namespace Go.Proofs.YtcmcikcagpkocaaDoor
open Go.RowKit
set_option linter.unusedVariables false
attribute [local go_sem] Oper.semAt_some

theorem nx_kind {l : List UInt8} {k : Int} {t : List UInt8} {n : Int} {z : Nat} (h : nxt l = .tok k t n z) (hE : endB l = false) : k ≠ 0 := by
  cases l with
  | nil => cases hE
  | cons m r =>
    simp only [nxt] at h
    split at h
    · next e => rw [e] at hE; cases hE
    split at h
    · cases h; decide
    split at h
    · split at h
      · cases h; decide
      · cases h
    split at h
    · split at h
      · cases h; decide
      · cases h
    split at h
    · cases h; decide
    · cases h
theorem blank_at (s : ByteArray) (p q : Nat) (hp : p ≤ s.size) (hq : p + skN (rst s p) = q) : (∀ j (h : j < s.size), p ≤ j → j ≤ q → (blkU s[j] = true → j + 1 ≤ q) ∧ (blkU s[j] = false → q = j)) ∧ (∀ j, ¬ j < s.size → p ≤ j → j ≤ q → q = j) ∧ q ≤ s.size := by
  have hl : s.data.toList.length = s.size := by simp
  have hk := sk_le (rst s p)
  rw [rst_len] at hk
  refine ⟨fun j h h1 h2 => ?_, fun j h h1 h2 => by omega, by omega⟩
  obtain ⟨k, rfl⟩ : ∃ k, j = p + k := ⟨j - p, by omega⟩
  have := tw_at blkU (rst s p) k (by show k ≤ skN (rst s p); omega) (by rw [rst_len]; omega)
  have e : (rst s p)[k]'(by rw [rst_len]; omega) = s[p + k] := drop_at s p k h _
  rw [e] at this
  exact ⟨fun h => by have h3 := this.1 h; have h4 : k + 1 ≤ skN (rst s p) := h3; omega, fun h => by have h3 := this.2 h; have h4 : skN (rst s p) = k := h3; omega⟩
set_option maxRecDepth 100000 in
set_option maxHeartbeats 4000000 in
theorem rtokens_any (s : ByteArray) (hs : s.size ≤ 100000) (w : World) :
    Calls Tryd.prog 11 #[.string s] w (RetTk 34 w s.data.toList) := by
  have hl : s.data.toList.length = s.size := by simp
  by_cases h1024 : 1024 < s.size
  · have F : Hid (RetTk 34 w s.data.toList (.returned (.tuple #[.slice none 0 0, .int .i64 19])) w) := ⟨19, [], none, 0, by rw [hl, if_pos h1024]; exact ⟨rfl, rfl⟩, rfl, ownK_nil _ _ _, Below.refl _ _⟩
    clear hl
    go_enter Tryd.func11, Tryd.ntmps11
    go_wp2
    refine bodyPost_ret (v := .tuple #[.slice none 0 0, .int .i64 19]) ?_ rfl F.out
    simp [results, Tryd.results11, go_sem]
  · obtain ⟨D, hn⟩ : ∃ z, w.heap.size = z := ⟨_, rfl⟩
    have HN := Lib.hid hn
    have O1 := Lib.hid (ownK_nil 34 w D)
    have A1 : Hid (Acc s.data.toList s 0 []) := fun c T h => by
      by_cases hc : c = 0
      · rw [if_pos hc]; exact h
      · rw [if_neg hc, ← (tok_facts h).2.2.1 hc]; exact h
    have IF : Hid (∀ c T, TokR s.data.toList 0 c T → (if 1024 < s.data.toList.length then c = 19 ∧ T = [] else TokR s.data.toList 0 c T)) := fun c T h => by rw [hl, if_neg h1024]; exact h
    have B1 : Hid (Below D w w) := Below.refl _ _
    have hDw : D ≤ w.heap.size := by omega
    clear hl
    go_enter Tryd.func11, Tryd.ntmps11
    go_wp2
    go_loopw [4, 5] (fun iv pv wr => ∃ (T1 : List Tk) (A : Option Addr) (k cap p : Nat), iv = .slice A k cap ∧ pv = .int .i64 p ∧ T1.length = k ∧ k ≤ p ∧ p ≤ s.size ∧ D ≤ wr.heap.size ∧ Hid (OwnK 34 wr D iv T1) ∧ Hid (Below D w wr) ∧ Hid (Acc s.data.toList s p T1)) (fun iv _ _ => s.size + 2 - lenV iv)
    case atStart => exact ⟨[], none, 0, 0, 0, rfl, by go_num, rfl, Nat.le_refl _, Nat.zero_le _, hDw, O1, B1, A1⟩
    case round =>
      clear O1 B1 A1 hDw
      obtain ⟨T1, A, k, cap, p, rfl, rfl, hk, hkp, hp, hnw, O1, B1, A1⟩ := hrel
      obtain ⟨wb, hwb⟩ : ∃ wb, wr = wb := ⟨_, rfl⟩
      subst hwb
      obtain ⟨q, hq⟩ : ∃ q, p + skN (rst s p) = q := ⟨_, rfl⟩
      obtain ⟨BA, BE, hqs⟩ := blank_at s p q hp hq
      have BA1 := Lib.hid BA
      have BE1 := Lib.hid BE
      have HQ := Lib.hid hq
      have hpq : p ≤ q := by omega
      have HPQ := Lib.hid hpq
      have HQS := Lib.hid hqs
      clear BA BE hq hpq hqs
      go_wp2
      go_loop [5] (fun v => ∃ j : Nat, v = .int .i64 j ∧ p ≤ j ∧ j ≤ s.size ∧ Hid (j ≤ q)) (fun v => s.size - (intOf v).toNat)
      case atStart => exact ⟨p, rfl, Nat.le_refl _, hp, HPQ.out⟩
      case round =>
        obtain ⟨j, rfl, hpj, hj, JQ⟩ := hrel
        by_cases h : j < s.size
        · have Y := BA1.out j h hpj JQ.out
          have k32 := beq_u8 s[j] 32
          have k9 := beq_u8 s[j] 9
          have k59 := beq_u8 s[j] 59
          by_cases hb32 : s[j] = 32
          · have d1 : ((s[j].toNat : Int) == 32) = true := k32.trans (decide_eq_true hb32)
            have N : Hid (j + 1 ≤ q) := Y.1 (by rw [hb32]; rfl)
            clear Y k32 k9 k59 hb32
            go_wp2
            go_round
            case rel => exact ⟨j + 1, by go_num, by omega, h, N⟩
            case measure => simp [intOf]; omega
          · by_cases hb9 : s[j] = 9
            · have d1 : ((s[j].toNat : Int) == 32) = false := k32.trans (decide_eq_false hb32)
              have d2 : ((s[j].toNat : Int) == 9) = true := k9.trans (decide_eq_true hb9)
              have N : Hid (j + 1 ≤ q) := Y.1 (by rw [hb9]; rfl)
              clear Y k32 k9 k59 hb32 hb9
              go_wp2
              go_round
              case rel => exact ⟨j + 1, by go_num, by omega, h, N⟩
              case measure => simp [intOf]; omega
            · have d1 : ((s[j].toNat : Int) == 32) = false := k32.trans (decide_eq_false hb32)
              have d2 : ((s[j].toNat : Int) == 9) = false := k9.trans (decide_eq_false hb9)
              have N : q = j := Y.2 (by unfold blkU; rw [beq_eq_false_iff_ne.2 hb32, beq_eq_false_iff_ne.2 hb9]; rfl)
              have hr := rst_cons s j h
              have dl : ((j : Int) == (s.size : Int)) = false := beq_eq_false_iff_ne.2 (by omega)
              have hs59 : endB (rst s j) = decide (s[j] = 59) := by
                rw [hr]
                unfold endB
                rw [Bool.eq_iff_iff]
                simp
              subst N
              by_cases hb59 : s[q] = 59
              · have d3 : ((s[q].toNat : Int) == 59) = true := k59.trans (decide_eq_true hb59)
                have E : Hid (endB (rst s q) = true) := hs59.trans (decide_eq_true hb59)
                clear Y k32 k9 k59 hb32 hb9 hb59 hr hs59 BA1 BE1
                go_wp2_with (at_builtin; refine wpList_appK kt_ref O1.out hnw rfl _ _ rfl rfl _ rfl rfl ⟨0, [], 0, q⟩ k hk (by have := HQS.out; omega) ?_; intro A2 cap2 w5 hO hb5 hsz hbl; have F : Hid (RetTk 34 w s.data.toList (.returned (.tuple #[.slice A2 (k + 1) cap2, .int .i64 0])) w5) := ⟨0, T1 ++ [⟨0, [], 0, q⟩], A2, cap2, IF.out _ _ (acc_end A1.out HQ.out (nx_end E.out)), by rw [List.length_append, hk]; rfl, by rw [List.length_append, hk, HN.out]; exact hO, by rw [HN.out]; exact B1.out.trans hb5⟩; clear hO hb5 hbl)
                refine bodyPost_ret (v := .tuple #[.slice A2 (k + 1) cap2, .int .i64 0]) ?_ rfl F.out
                simp [results, Tryd.results11, go_sem]
              · have d3 : ((s[q].toNat : Int) == 59) = false := k59.trans (decide_eq_false hb59)
                have E : Hid (endB (rst s q) = false) := hs59.trans (decide_eq_false hb59)
                clear Y k32 k9 k59 hb32 hb9 hb59 hr hs59 BA1 BE1
                cases hx : nxt (rst s q) with
                | bad c =>
                  have RN0 := rnext_any s q hs h E.out wr
                  rw [show RNx s q = .tuple #[.agg #[.int .i64 0, .string (sOf []), .int .i64 0, .int .i64 q], .int .i64 0, .int .i64 c] by unfold RNx; rw [hx]] at RN0
                  have RN := Lib.hid RN0
                  have hc0 : ((c : Int) != 0) = true := by rcases nxt_code hx with rfl | rfl <;> rfl
                  have HX := Lib.hid hx
                  clear RN0 hx
                  go_wp2_with fail
                  refine RN.out.mono ?_
                  rintro e w2 ⟨rfl, hb⟩
                  have F : ∀ o, Hid (RetTk 34 w s.data.toList (.returned (.tuple #[.slice none 0 0, .int .i64 c])) (w2.alloc o)) := fun o => by
                    refine ⟨c, [], none, 0, IF.out _ _ (acc_bad A1.out HQ.out HX.out), rfl, ownK_nil _ _ _, ?_⟩
                    rw [HN.out]; exact B1.out.trans ((hb.alloc hb.size o).mono hnw)
                  clear hb O1 B1 A1
                  go_wp2
                  refine bodyPost_ret (v := .tuple #[.slice none 0 0, .int .i64 c]) ?_ rfl (F _).out
                  simp [results, Tryd.results11, go_sem]
                | tok kd t x z =>
                  have hkd := nx_kind hx E.out
                  have RN0 := rnext_any s q hs h E.out wr
                  obtain ⟨jz, hjz⟩ : ∃ jz, q + z = jz := ⟨_, rfl⟩
                  rw [show RNx s q = .tuple #[.agg #[.int .i64 kd, .string (sOf t), .int .i64 x, .int .i64 q], .int .i64 (jz : Int), .int .i64 0] by unfold RNx; rw [hx, ← hjz]] at RN0
                  have RN := Lib.hid RN0
                  have hzz := nxt_size hx hkd
                  rw [rst_len] at hzz
                  have hjz1 : q < jz := by omega
                  have hjz2 : jz ≤ s.size := by omega
                  have A5 : Hid (Acc s.data.toList s jz (T1 ++ [⟨kd, t, x, q⟩])) := by rw [← hjz]; exact acc_more A1.out HQ.out hx hkd
                  have hkq : k ≤ q := by have := HPQ.out; omega
                  clear RN0 hx hkd hzz hjz A1
                  go_wp2_with fail
                  refine RN.out.mono ?_
                  rintro e w2 ⟨rfl, hb⟩
                  have O2 : OwnK 34 w2 D (.slice A k cap) T1 := ⟨O1.out.1, by
                    rcases O1.out.2 with e | ⟨g, c1, cur, e1, e2, e3, e4⟩
                    · exact .inl e
                    · exact .inr ⟨g, c1, cur, e1, e2, (hb.block g (Array.getElem?_eq_some_iff.1 e3).1).trans e3, e4⟩⟩
                  have B2 := Lib.hid (B1.out.trans (hb.mono hnw))
                  obtain ⟨b, hb2⟩ : ∃ b, w2.heap.size = b := ⟨_, rfl⟩
                  have hDb : D ≤ b := by have := hb.size; omega
                  obtain ⟨w3, hw3, T3, y3, z3⟩ := tk_start 34 w2 b hb2 kd (sOf t) x q
                  have O3 : Hid (OwnK 34 w3 D (.slice A k cap) T1) := ⟨O2.1, by
                    rcases O2.2 with e | ⟨g, c1, cur, e1, e2, e3, e4⟩
                    · exact .inl e
                    · exact .inr ⟨g, c1, cur, e1, e2, (y3.block g (Array.getElem?_eq_some_iff.1 e3).1).trans e3, e4⟩⟩
                  have B3 := Lib.hid (B2.out.trans (y3.mono (by omega)))
                  obtain ⟨h0, h1, h2, h3, hf⟩ := T3.cells
                  clear O1 O2 B1 B2 hb y3 T3 RN
                  go_wp2_with (at_builtin; refine wpList_appK kt_ref O3.out (by omega) rfl _ _ rfl rfl _ z3.symm rfl ⟨kd, t, x, q⟩ k hk (by have := HQS.out; omega) ?_; intro A2 cap2 w5 hO hb5 hsz hbl; have O5 := Lib.hid hO; have B5 := Lib.hid (B3.out.trans hb5); clear hO hb5 hbl O3 B3 h0 h1 h2 h3 hf)
                  go_roundw
                  case rel => exact ⟨T1 ++ [⟨kd, t, x, q⟩], A2, k + 1, cap2, jz, rfl, rfl, by rw [List.length_append, hk]; rfl, by omega, hjz2, by omega, O5, B5, A5⟩
                  case measure => simp [lenV]; omega
        · have N : q = j := BE1.out j h hpj JQ.out
          have hjs : j = s.size := by omega
          subst N
          have dl : ((q : Int) == (s.size : Int)) = true := by rw [hjs]; exact beq_self_eq_true _
          have E : Hid (endB (rst s q) = true) := by show endB _ = true; rw [hjs, rst_end]; rfl
          clear BA1 BE1 hjs
          go_wp2_with (at_builtin; refine wpList_appK kt_ref O1.out hnw rfl _ _ rfl rfl _ rfl rfl ⟨0, [], 0, q⟩ k hk (by have := HQS.out; omega) ?_; intro A2 cap2 w5 hO hb5 hsz hbl; have F : Hid (RetTk 34 w s.data.toList (.returned (.tuple #[.slice A2 (k + 1) cap2, .int .i64 0])) w5) := ⟨0, T1 ++ [⟨0, [], 0, q⟩], A2, cap2, IF.out _ _ (acc_end A1.out HQ.out (nx_end E.out)), by rw [List.length_append, hk]; rfl, by rw [List.length_append, hk, HN.out]; exact hO, by rw [HN.out]; exact B1.out.trans hb5⟩; clear hO hb5 hbl)
          refine bodyPost_ret (v := .tuple #[.slice A2 (k + 1) cap2, .int .i64 0]) ?_ rfl F.out
          simp [results, Tryd.results11, go_sem]
end Go.Proofs.YtcmcikcagpkocaaDoor
