/-
  The walk over lex.Tokens.
-/
import Derived.Test.YtcmcikcagpkocaaDoorLxO
namespace Go.Proofs.YtcmcikcagpkocaaDoor
open Go.RowKit
set_option linter.unusedVariables false
attribute [local go_sem] Oper.semAt_some

theorem OwnK.lk {e : TypeId} {w w' : World} {D B : Nat} {v : Value} {L : List Tk} (h : OwnK e w B v L) (hB : D < B) (K : LK D w w') : OwnK e w' B v L := by
  refine ⟨h.1, ?_⟩
  rcases h.2 with e | ⟨g, cap, cur, e1, e2, e3, e4⟩
  · exact .inl e
  · exact .inr ⟨g, cap, cur, e1, e2, (K.same g (Array.getElem?_eq_some_iff.1 e3).1 (by omega)).trans e3, e4⟩
theorem OwnK.mono {e : TypeId} {w : World} {B B' : Nat} {v : Value} {L : List Tk} (h : OwnK e w B v L) (hb : B' ≤ B) : OwnK e w B' v L := by
  refine ⟨h.1, ?_⟩
  rcases h.2 with e | ⟨g, cap, cur, e1, e2, e3, e4⟩
  · exact .inl e
  · exact .inr ⟨g, cap, cur, e1, by omega, e3, e4⟩
theorem OwnK.len {e : TypeId} {w : World} {base k cap : Nat} {A : Option Addr} {L : List Tk} (h : OwnK e w base (.slice A k cap) L) : k = L.length := by
  obtain ⟨A', c', h', _⟩ := h.ks
  simp only [Value.slice.injEq] at h'
  exact h'.2.1
/-- A list of tokens and a code are returned. -/
def RetTk (e : TypeId) (w : World) (l : List UInt8) (en : Ending) (w' : World) : Prop :=
  ∃ c T A cap, (if 1024 < l.length then c = 19 ∧ T = [] else TokR l 0 c T) ∧ en = .returned (.tuple #[.slice A T.length cap, .int .i64 c]) ∧ OwnK e w' w.heap.size (.slice A T.length cap) T ∧ Below w.heap.size w w'
/-- The tokens that are found already, and what follows. -/
def Acc (l : List UInt8) (s : ByteArray) (p : Nat) (T1 : List Tk) : Prop := ∀ c T, TokR (rst s p) p c T → TokR l 0 c (if c = 0 then T1 ++ T else [])
theorem acc_end {l : List UInt8} {s : ByteArray} {p q : Nat} {T1 : List Tk} (h : Acc l s p T1) (hq : p + skN (rst s p) = q) (hx : nxt (rst s q) = .tok 0 [] 0 0) : TokR l 0 0 (T1 ++ [⟨0, [], 0, q⟩]) := by
  have e : rst s q = (rst s p).drop (skN (rst s p)) := by unfold rst; rw [List.drop_drop, ← hq]; rfl
  have := h 0 _ (TokR.fin (rst s p) p (by rw [← e]; exact hx))
  rw [hq] at this
  exact this
theorem acc_bad {l : List UInt8} {s : ByteArray} {p q : Nat} {T1 : List Tk} (h : Acc l s p T1) (hq : p + skN (rst s p) = q) {c : Int} (hx : nxt (rst s q) = .bad c) : TokR l 0 c [] := by
  have e : rst s q = (rst s p).drop (skN (rst s p)) := by unfold rst; rw [List.drop_drop, ← hq]; rfl
  have := h c _ (TokR.bad (rst s p) p c (by rw [← e]; exact hx))
  rw [if_neg (by rcases nxt_code hx with rfl | rfl <;> decide)] at this
  exact this
theorem acc_more {l : List UInt8} {s : ByteArray} {p q : Nat} {T1 : List Tk} (h : Acc l s p T1) (hq : p + skN (rst s p) = q) {k : Int} {t : List UInt8} {n : Int} {z : Nat} (hx : nxt (rst s q) = .tok k t n z) (hk : k ≠ 0) : Acc l s (q + z) (T1 ++ [⟨k, t, n, q⟩]) := by
  have e : rst s q = (rst s p).drop (skN (rst s p)) := by unfold rst; rw [List.drop_drop, ← hq]; rfl
  have e2 : rst s (q + z) = (rst s p).drop (skN (rst s p) + z) := by unfold rst; rw [List.drop_drop, ← hq, Nat.add_assoc]; rfl
  intro c T hT
  rw [e2, ← hq] at hT
  have := h c _ (TokR.more (rst s p) p k t n z c T (by rw [← e]; exact hx) hk hT)
  rw [hq] at this
  by_cases hc : c = 0
  · rw [if_pos hc, if_pos hc] at this
    rw [if_pos hc, List.append_assoc]
    exact this
  · rw [if_neg hc] at this ⊢
    exact this
set_option maxRecDepth 100000 in
set_option maxHeartbeats 4000000 in
theorem tokens_any (s : ByteArray) (hs : s.size ≤ 100000) (w : World) (SG : SgAt w) (hg : 0 < w.heap.size) :
    Calls Tryd.prog 10 #[.string s] w (RetTk 33 w s.data.toList) := by
  have hl : s.data.toList.length = s.size := by simp
  by_cases h1024 : 1024 < s.size
  · have F : Hid (RetTk 33 w s.data.toList (.returned (.tuple #[.slice none 0 0, .int .i64 19])) w) := ⟨19, [], none, 0, by rw [hl, if_pos h1024]; exact ⟨rfl, rfl⟩, rfl, ownK_nil _ _ _, Below.refl _ _⟩
    clear SG hg hl
    go_enter Tryd.func10, Tryd.ntmps10
    go_wp2
    refine bodyPost_ret (v := .tuple #[.slice none 0 0, .int .i64 19]) ?_ rfl F.out
    simp [results, Tryd.results10, go_sem]
  · obtain ⟨D, hn⟩ : ∃ z, w.heap.size = z := ⟨_, rfl⟩
    obtain ⟨w1, hw1, b1, y1, z1⟩ : ∃ w1, w.alloc (.cells #[.string s, .int .i64 0] 54) = w1 ∧ w1.heap[D]? = some (.cells #[.string s, .int .i64 0] 54 (0, 0)) ∧ Below w.heap.size w w1 ∧ w1.heap.size = D + 1 := by
      subst hn
      exact ⟨_, rfl, World.alloc_heap_new w _, (Below.refl _ w).alloc (Nat.le_refl _) _, by simp⟩
    rw [hn] at hg
    have X1 : Hid (Lxr w D s w1 0) := ⟨b1, by rw [← hn]; exact y1⟩
    have HS : Hid (SgAt w ∧ 0 < D) := ⟨SG, hg⟩
    have O1 := Lib.hid (ownK_nil 33 w1 (D + 1))
    have HN := Lib.hid hn
    have A1 : Hid (Acc s.data.toList s 0 []) := fun c T h => by
      by_cases hc : c = 0
      · rw [if_pos hc]; exact h
      · rw [if_neg hc, ← (tok_facts h).2.2.1 hc]; exact h
    have IF : Hid (∀ c T, TokR s.data.toList 0 c T → (if 1024 < s.data.toList.length then c = 19 ∧ T = [] else TokR s.data.toList 0 c T)) := fun c T h => by rw [hl, if_neg h1024]; exact h
    subst hw1
    have Z1 := Lib.hid z1
    clear SG hg hl b1 y1 z1
    go_enter Tryd.func10, Tryd.ntmps10
    go_wp2
    go_loopw [5] (fun iv wr => ∃ (T1 : List Tk) (A : Option Addr) (k cap p : Nat), iv = .slice A k cap ∧ T1.length = k ∧ k ≤ p ∧ p ≤ s.size ∧ D + 1 ≤ wr.heap.size ∧ Hid (OwnK 33 wr (D + 1) iv T1) ∧ Hid (Lxr w D s wr p) ∧ Hid (Acc s.data.toList s p T1)) (fun iv _ => s.size + 2 - lenV iv)
    case atStart => exact ⟨[], none, 0, 0, 0, rfl, rfl, Nat.le_refl _, Nat.zero_le _, Nat.le_of_eq Z1.out.symm, O1, X1, A1⟩
    case round =>
      clear O1 X1 A1 Z1
      obtain ⟨T1, A, k, cap, p, rfl, hk, hkp, hp, hnw, O1, X1, A1⟩ := hrel
      obtain ⟨q, hq⟩ : ∃ q, p + skN (rst s p) = q := ⟨_, rfl⟩
      have NX := Lib.hid (next_any hs hp hq X1.out HS.out.1 HS.out.2)
      have HQ := Lib.hid hq
      have hqs : q ≤ s.size := by have := sk_le (rst s p); rw [rst_len] at this; omega
      have hpq : p ≤ q := by omega
      clear hq
      go_wp2_with fail
      refine NX.out.mono ?_
      rintro e w2 ⟨K2, ⟨kd, t, x, z, hx, rfl, X2⟩ | ⟨c, hx, rfl, q', X2⟩⟩
      · have O2 := O1.out.lk (by omega) K2
        have z2 := K2.size
        have ol := O2.lt
        obtain ⟨b, hb⟩ : ∃ b, w2.heap.size = b := ⟨_, rfl⟩
        rw [hb] at ol
        obtain ⟨w3, hw3, T3, y3, z3⟩ := tk_start 33 w2 b hb kd (sOf t) x q
        have O3 := Lib.hid (O2.lk (D := D) (by omega) (LK.of_below y3))
        have X3 := Lib.hid (X2.all y3)
        have TC := T3.cells
        have T4 := Lib.hid T3
        obtain ⟨h0, h1, h2, h3, hf⟩ := TC
        have OL := Lib.hid ol
        have HX := Lib.hid hx
        have hzz : kd ≠ 0 → 0 < z ∧ q + z ≤ s.size := fun hkd => by
          have := nxt_size hx hkd
          rw [rst_len] at this
          omega
        have HZ := Lib.hid hzz
        clear NX O1 X1 O2 X2 y3 T3 ol hx hzz K2
        by_cases hkd : kd = 0
        · obtain ⟨-, ht, hx0, hz0⟩ := nxt_kind HX.out hkd
          have HX2 : Hid (nxt (rst s q) = .tok 0 [] 0 0) := by show nxt _ = _; rw [HX.out, hkd, ht, hx0, hz0]
          have EQ : Hid ((⟨kd, t, x, q⟩ : Tk) = ⟨0, [], 0, q⟩) := by show _ = _; rw [hkd, ht, hx0]
          have ke : (kd == 0) = true := by rw [hkd]; rfl
          clear hkd ht hx0 hz0 HX HZ
          go_wp2_with (at_builtin; refine wpList_appK kt_lex O3.out (by omega) rfl _ _ rfl rfl _ z3.symm rfl ⟨kd, t, x, q⟩ k hk (by omega) ?_; intro A2 cap2 w5 hO hb5 hsz hbl; have O5 := Lib.hid hO; have B5 := Lib.hid hb5; have T5 : Hid (TkB 33 w5 b kd (sOf t) x q) := ⟨(hbl b (by omega) (fun e => by have := OL.out b e; omega)).trans T4.out.blk⟩; clear hO hb5 hbl O3 T4 h0 h1 h2 h3 hf; obtain ⟨h0, h1, h2, h3, hf⟩ := T5.out.cells)
          have F : Hid (RetTk 33 w s.data.toList (.returned (.tuple #[.slice A2 (k + 1) cap2, .int .i64 0])) w5) := by
            refine ⟨0, T1 ++ [⟨kd, t, x, q⟩], A2, cap2, IF.out _ _ (by rw [EQ.out]; exact acc_end A1.out HQ.out HX2.out), ?_, ?_, ?_⟩
            · rw [List.length_append, hk]; rfl
            · rw [List.length_append, hk, HN.out]
              exact O5.out.mono (by omega)
            · rw [HN.out]; exact X3.out.bel.trans (B5.out.mono (by omega))
          clear O5 B5 T5 X3 A1
          go_wp2
          refine bodyPost_ret (v := .tuple #[.slice A2 (k + 1) cap2, .int .i64 0]) ?_ rfl F.out
          simp [results, Tryd.results10, go_sem]
        · have ke : (kd == 0) = false := beq_eq_false_iff_ne.2 hkd
          have hzz := HZ.out hkd
          go_wp2_with (at_builtin; refine wpList_appK kt_lex O3.out (by omega) rfl _ _ rfl rfl _ z3.symm rfl ⟨kd, t, x, q⟩ k hk (by omega) ?_; intro A2 cap2 w5 hO hb5 hsz hbl; have O5 := Lib.hid hO; have B5 := Lib.hid hb5; have T5 : Hid (TkB 33 w5 b kd (sOf t) x q) := ⟨(hbl b (by omega) (fun e => by have := OL.out b e; omega)).trans T4.out.blk⟩; clear hO hb5 hbl O3 T4 h0 h1 h2 h3 hf; obtain ⟨h0, h1, h2, h3, hf⟩ := T5.out.cells)
          have X5 := Lib.hid (X3.out.up B5.out (by omega))
          have A5 := Lib.hid (acc_more A1.out HQ.out HX.out hkd)
          clear B5 T5 X3 A1 hkd ke
          go_wp2
          go_roundw
          case rel => exact ⟨T1 ++ [⟨kd, t, x, q⟩], A2, k + 1, cap2, q + z, rfl, by rw [List.length_append, hk]; rfl, by omega, hzz.2, by omega, O5, X5, A5⟩
          case measure => simp [lenV]; omega
      · have hc0 : (c != 0) = true := by rcases nxt_code hx with rfl | rfl <;> rfl
        have z2 := K2.size
        have y3 : ∀ o, Below w2.heap.size w2 (w2.alloc o) := fun o => (Below.refl _ w2).alloc (Nat.le_refl _) o
        have F : ∀ o, Hid (RetTk 33 w s.data.toList (.returned (.tuple #[.slice none 0 0, .int .i64 c])) (w2.alloc o)) := fun o => by
          refine ⟨c, [], none, 0, IF.out _ _ (acc_bad A1.out HQ.out hx), rfl, ownK_nil _ _ _, ?_⟩
          rw [HN.out]; exact X2.bel.trans ((y3 o).mono (by omega))
        clear NX O1 X1 A1 X2 K2 y3 hx
        go_wp2
        refine bodyPost_ret (v := .tuple #[.slice none 0 0, .int .i64 c]) ?_ rfl (F _).out
        simp [results, Tryd.results10, go_sem]
end Go.Proofs.YtcmcikcagpkocaaDoor
