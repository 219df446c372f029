/-
  The walks over Check and the document's own Check: the code of the first mistake.
-/
import Derived.Test.YtbmgfkbgfgknbaaDoorInR
import Derived.Test.YtbmgfkbgfgknbaaDoorOpH
import Derived.Test.YtbmgfkbgfgknbaaDoorMixG
namespace Go.Proofs.YtbmgfkbgfgknbaaDoor
open Go.RowKit
set_option linter.unusedVariables false

def vT (t : Tr) : Bool := vldB t.1 t.2.1 t.2.2
/-- The code of the first mistake in an instruction. -/
def codeI (s : ByteArray) (L : List Tr) : Int := if knB s = false then 12 else if 3 < L.length then 11 else if L.all vT then 0 else 2
theorem code_12 (s : ByteArray) (L : List Tr) (h : knB s = false) : (12 : Int) = codeI s L := by unfold codeI; rw [if_pos h]
theorem code_11 (s : ByteArray) (L : List Tr) (h : knB s = true) (h3 : 3 < L.length) : (11 : Int) = codeI s L := by unfold codeI; rw [if_neg (by simp [h]), if_pos h3]
theorem code_0 (s : ByteArray) (L : List Tr) (h : knB s = true) (h3 : ¬ 3 < L.length) (hv : ∀ k, k < L.length → ∀ (a : k < L.length), vT L[k] = true) : (0 : Int) = codeI s L := by
  unfold codeI
  rw [if_neg (by simp [h]), if_neg h3, if_pos]
  refine List.all_eq_true.2 fun x hx => ?_
  obtain ⟨k, hk, rfl⟩ := List.getElem_of_mem hx
  exact hv k hk hk
theorem code_2 (s : ByteArray) (L : List Tr) (h : knB s = true) (h3 : ¬ 3 < L.length) (k : Nat) (hk : k < L.length) (hv : vT L[k] = false) : (2 : Int) = codeI s L := by
  unfold codeI
  rw [if_neg (by simp [h]), if_neg h3, if_neg]
  intro hq
  have := List.all_eq_true.1 hq _ (List.getElem_mem hk)
  rw [hv] at this
  cases this
attribute [local irreducible] Go.Mixed.wpMix
set_option maxRecDepth 100000 in
set_option maxHeartbeats 4000000 in
theorem check_any (s : ByteArray) (A : Option Addr) (cap : Nat) (L : List Tr) (hs : s.size ≤ maxLen) (hL : L.length ≤ maxLen) (w : World) (H : OpsP w A L) :
    Calls Tryd.prog 8 #[.agg #[.string s, .slice A L.length cap]] w fun e w' => e = .returned (.int .i64 (codeI s L)) ∧ Below w.heap.size w w' := by
  unfold maxLen at hL
  have X := Lib.hid H
  have C12 := Lib.hid (code_12 s L)
  have C11 := Lib.hid (code_11 s L)
  have C0 := Lib.hid (code_0 s L)
  have C2 := Lib.hid (code_2 s L)
  obtain ⟨n, hn⟩ : ∃ n, L.length = n := ⟨_, rfl⟩
  have HN := Lib.hid hn
  obtain ⟨kb, hkb⟩ : ∃ kb, knB s = kb := ⟨_, rfl⟩
  have HK := Lib.hid hkb
  rw [hn] at hL ⊢
  have T0 := Lib.hid (Bx.new w s A n cap 24)
  have B0 : Hid (Below w.heap.size w (w.alloc (.cells #[.string s, .slice A n cap] 24))) := (Below.refl _ _).alloc (Nat.le_refl _) _
  clear H hn hkb
  go_enter Tryd.func8, Tryd.ntmps8
  go_wp2
  refine Mixed.wp_region_mixed (fun w' => Bx w' w.heap.size s A n cap) 3 [(1, true), (2, true), (0, false)] (by kernel_rfl) (by kernel_rfl) T0.out ?_
  refine Mixed.wpMix_pure rfl (by kernel_rfl) (.pointer (some ⟨w.heap.size, 0, none⟩)) (fun w h => by obtain ⟨h1, h2⟩ := h; go_simp; try rfl) ?_
  refine Mixed.wpMix_pure rfl (by kernel_rfl) (.string s) (fun w h => by obtain ⟨h1, h2⟩ := h; go_simp; try rfl) ?_
  refine Mixed.wpMix_loudG rfl (by kernel_rfl) ?_
  go_wp2_with fail
  refine (mnemonics_any _).mono ?_
  rintro e w1 ⟨mb, rfl, hM, h1⟩
  have T1 : Hid (Bx w1 w.heap.size s A n cap) := T0.out.all (((below_drewN _ _ 1)).trans h1)
  have B1 : Hid (Below w.heap.size w w1) := (B0.out.trans (below_drewN _ _ 1)).trans (h1.mono (by simp))
  have LK := look_mn hM s hs
  rw [HK.out] at LK
  have xx := T1.out
  clear hM h1 T0 B0
  go_wp2
  refine ⟨xx, ?_⟩
  simp only [Mixed.wpMix, List.drop_succ_cons, List.drop_zero]
  clear xx
  cases kb with
  | false =>
    have E := Lib.hid (C12.out HK.out)
    go_wp2
    go_ret
    exact ⟨ret_int E.out, B1.out⟩
  | true =>
    have xx := T1.out
    obtain ⟨x0, x1⟩ := xx
    by_cases h3 : 3 < n
    · have E := Lib.hid (C11.out HK.out (by rw [HN.out]; exact h3))
      have h3' : (3 : Int) < (n : Int) := by omega
      go_wp2
      go_ret
      exact ⟨ret_int E.out, B1.out⟩
    · have H3 : Hid (¬ 3 < L.length) := by rw [HN.out]; exact h3
      have h3' : ¬ (3 : Int) < (n : Int) := by omega
      go_wp2
      clear h3' h3
      go_loopw [17] (fun i wr => ∃ j : Nat, j ≤ n ∧ i = .int .i64 j ∧ Hid (∀ k, k < j → ∀ (a : k < L.length), vT L[k] = true) ∧ Hid (Below w.heap.size w wr)) (fun i _ => n - (intOf i).toNat)
      case atStart => exact ⟨0, Nat.zero_le _, rfl, fun k h => by omega, B1.out⟩
      case round =>
        obtain ⟨j, hj, rfl, R, B⟩ := hrel
        by_cases hlt : j < n
        · have hj1 : j < L.length := by have := HN.out; omega
          obtain ⟨b1, o1, hA1, -, p0, p1, p2⟩ := (X.out.below B.out).at_ hj1
          subst hA1
          have HV : Hid (vT L[j] = vldB L[j].1 L[j].2.1 L[j].2.2) := rfl
          have R2 : Hid (vT L[j] = true → ∀ k, k < j + 1 → ∀ (a : k < L.length), vT L[k] = true) := fun q k hk a => by
            by_cases e : k = j
            · subst e; exact q
            · exact R.out k (by omega) a
          have N2 : Hid (vT L[j] = false → 2 = codeI s L) := fun q => C2.out HK.out H3.out j hj1 q
          obtain ⟨vb, hvb⟩ : ∃ vb, vT L[j] = vb := ⟨_, rfl⟩
          rw [hvb] at HV R2 N2
          obtain ⟨⟨y0, y1, y2⟩, hy⟩ : ∃ y, L[j] = y := ⟨_, rfl⟩
          rw [hy] at p0 p1 p2 HV
          simp only at p0 p1 p2 HV
          have VV := Lib.hid (valid_any y0 y1 y2)
          rw [← HV.out] at VV
          have hal : Below wr.heap.size wr (wr.alloc (.cells #[.int .i64 y0, .int .i64 y1, .int .i64 y2] 29)) := (Below.refl _ _).alloc (Nat.le_refl _) _
          have BA := Lib.hid (B.out.trans (hal.mono B.out.size))
          clear hy hvb hj1 R HV hal B
          go_wp2_with fail
          refine (VV.out _).mono ?_
          rintro e w2 ⟨rfl, hb⟩
          have B2 := Lib.hid (BA.out.trans (hb.mono BA.out.size))
          clear hb BA
          cases vb with
          | true =>
            go_wp2
            go_roundw
            case rel => exact ⟨j + 1, by omega, by go_num, R2.out trivial, B2.out⟩
            case measure => simp [intOf]; omega
          | false =>
            go_wp2
            go_ret
            exact ⟨ret_int (N2.out trivial), B2.out⟩
        · have hjn : j = n := by omega
          have E : Hid (0 = codeI s L) := C0.out HK.out H3.out fun k hk a => R.out k (by have := HN.out; omega) a
          clear R
          go_wp2
          go_ret
          exact ⟨ret_int E.out, B.out⟩
set_option maxRecDepth 100000 in
set_option maxHeartbeats 4000000 in
theorem rcheck_any (s : ByteArray) (A : Option Addr) (cap : Nat) (L : List Tr) (hL : L.length ≤ maxLen) (w : World) (H : OpsP w A L) :
    Calls Tryd.prog 4 #[.agg #[.string s, .slice A L.length cap]] w fun e w' => e = .returned (.int .i64 (codeI s L)) ∧ Below w.heap.size w w' := by
  unfold maxLen at hL
  have X := Lib.hid H
  have C12 := Lib.hid (code_12 s L)
  have C11 := Lib.hid (code_11 s L)
  have C0 := Lib.hid (code_0 s L)
  have C2 := Lib.hid (code_2 s L)
  have RK := Lib.hid (rknown_any s)
  obtain ⟨n, hn⟩ : ∃ n, L.length = n := ⟨_, rfl⟩
  have HN := Lib.hid hn
  obtain ⟨kb, hkb⟩ : ∃ kb, knB s = kb := ⟨_, rfl⟩
  have HK := Lib.hid hkb
  rw [hkb] at RK
  rw [hn] at hL ⊢
  have T0 := Lib.hid (Bx.new w s A n cap 24)
  have B0 : Hid (Below w.heap.size w (w.alloc (.cells #[.string s, .slice A n cap] 24))) := (Below.refl _ _).alloc (Nat.le_refl _) _
  clear H hn hkb
  go_enter Tryd.func4, Tryd.ntmps4
  go_wp2_with fail
  refine (RK.out _).mono ?_
  rintro e w1 ⟨rfl, h1⟩
  have T1 : Hid (Bx w1 w.heap.size s A n cap) := T0.out.all h1
  have B1 : Hid (Below w.heap.size w w1) := B0.out.trans (h1.mono (by simp))
  clear h1 T0 B0 RK
  cases kb with
  | false =>
    have E := Lib.hid (C12.out HK.out)
    go_wp2
    go_ret
    exact ⟨ret_int E.out, B1.out⟩
  | true =>
    have xx := T1.out
    obtain ⟨x0, x1⟩ := xx
    by_cases h3 : 3 < n
    · have E := Lib.hid (C11.out HK.out (by rw [HN.out]; exact h3))
      have h3' : (3 : Int) < (n : Int) := by omega
      go_wp2
      go_ret
      exact ⟨ret_int E.out, B1.out⟩
    · have H3 : Hid (¬ 3 < L.length) := by rw [HN.out]; exact h3
      have h3' : ¬ (3 : Int) < (n : Int) := by omega
      go_wp2
      clear h3' h3 x0 x1
      go_loopw [3] (fun i wr => ∃ j : Nat, j ≤ n ∧ i = .int .i64 j ∧ Hid (∀ k, k < j → ∀ (a : k < L.length), vT L[k] = true) ∧ Hid (Bx wr w.heap.size s A n cap) ∧ Hid (Below w.heap.size w wr)) (fun i _ => n - (intOf i).toNat)
      case atStart => exact ⟨0, Nat.zero_le _, rfl, fun k h => by omega, T1.out, B1.out⟩
      case round =>
        obtain ⟨j, hj, rfl, R, T, B⟩ := hrel
        obtain ⟨x0, x1⟩ := T.out
        by_cases hlt : j < n
        · have hj1 : j < L.length := by have := HN.out; omega
          obtain ⟨b1, o1, hA1, -, p0, p1, p2⟩ := (X.out.below B.out).at_ hj1
          subst hA1
          have HV : Hid (vT L[j] = vldB L[j].1 L[j].2.1 L[j].2.2) := rfl
          have R2 : Hid (vT L[j] = true → ∀ k, k < j + 1 → ∀ (a : k < L.length), vT L[k] = true) := fun q k hk a => by
            by_cases e : k = j
            · subst e; exact q
            · exact R.out k (by omega) a
          have N2 : Hid (vT L[j] = false → 2 = codeI s L) := fun q => C2.out HK.out H3.out j hj1 q
          obtain ⟨vb, hvb⟩ : ∃ vb, vT L[j] = vb := ⟨_, rfl⟩
          rw [hvb] at HV R2 N2
          obtain ⟨⟨y0, y1, y2⟩, hy⟩ : ∃ y, L[j] = y := ⟨_, rfl⟩
          rw [hy] at p0 p1 p2 HV
          simp only at p0 p1 p2 HV
          have VV := Lib.hid (rvalid_any y0 y1 y2)
          rw [← HV.out] at VV
          clear hy hvb hj1 R HV
          go_wp2_with fail
          refine (VV.out _).mono ?_
          rintro e w2 ⟨rfl, hb⟩
          have B2 := Lib.hid (B.out.trans (hb.mono B.out.size))
          have T2 := Lib.hid (T.out.all hb)
          clear hb B x0 x1 T
          cases vb with
          | true =>
            go_wp2
            go_roundw
            case rel => exact ⟨j + 1, by omega, by go_num, R2.out trivial, T2.out, B2.out⟩
            case measure => simp [intOf]; omega
          | false =>
            go_wp2
            go_ret
            exact ⟨ret_int (N2.out trivial), B2.out⟩
        · have hjn : j = n := by omega
          have E : Hid (0 = codeI s L) := C0.out HK.out H3.out fun k hk a => R.out k (by have := HN.out; omega) a
          clear R
          go_wp2
          go_ret
          exact ⟨ret_int E.out, B.out⟩
end Go.Proofs.YtbmgfkbgfgknbaaDoor
