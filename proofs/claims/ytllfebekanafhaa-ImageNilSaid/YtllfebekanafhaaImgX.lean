/-
  The walks over slices.Clone and (*image.Image).Runs once more: the bytes of what they return may be written.
-/
import Derived.Test.YtllfebekanafhaaImgW
namespace Go.Proofs.Ytllfebekanafhaa
open Go.RowKit
set_option linter.unusedVariables false

/-- The bytes lie in a block that may be written. -/
def Wr (w : World) (A : Option Addr) (xs : List UInt8) : Prop := xs = [] ∨ ∃ b off cs t, A = some ⟨b, off, none⟩ ∧ w.heap[b]? = some (.cells cs t (0, 0))
theorem Wr.below {w w' : World} {A : Option Addr} {xs : List UInt8} (h : Wr w A xs) (k : Below w.heap.size w w') : Wr w' A xs := by
  rcases h with h | ⟨b, off, cs, t, h1, h2⟩
  · exact .inl h
  · exact .inr ⟨b, off, cs, t, h1, (k.block b (Array.getElem?_eq_some_iff.1 h2).1).trans h2⟩
theorem Wr.grown {w w' : World} {A : Option Addr} {xs : List UInt8} {row : Option Nat} {P : Nat → Prop} (h : Wr w A xs) (hb : BytesP (fun i => P i ∧ some i ≠ row) w A xs) (k : w.grownBy w' row) : Wr w' A xs := by
  rcases h with h | ⟨b, off, cs, t, h1, h2⟩
  · exact .inl h
  · rcases hb with h | ⟨b', off', h3, h4, _⟩
    · exact .inl h
    · rw [h1] at h3
      simp only [Option.some.injEq, Addr.mk.injEq, and_true] at h3
      obtain ⟨rfl, rfl⟩ := h3
      exact .inr ⟨b, off, cs, t, h1, (k.block b (Array.getElem?_eq_some_iff.1 h2).1 h4.2).trans h2⟩
theorem own_wr {w : World} {base : Nat} {e : TypeId} {n cap : Nat} {A : Option Addr} {xs : List UInt8} (h : w.ownsRow base e 1 (.slice A n cap) n (xs.map u8V)) : Wr w A xs := by
  rcases h.2 with ⟨h1, h0⟩ | ⟨g, cap', cur, h1, _, hg, _⟩
  · have := h.1
    rw [h0] at this
    left
    exact List.map_eq_nil_iff.1 (List.eq_nil_of_length_eq_zero (by omega))
  · simp only [Value.slice.injEq, true_and] at h1
    obtain ⟨rfl, rfl⟩ := h1
    exact .inr ⟨g, 0, cur, e, rfl, hg⟩
/-- The call returns a slice that reads as xs, in new memory that may be written. -/
def RetBW (w : World) (xs : List UInt8) (e : Ending) (w' : World) : Prop := ∃ A cap, e = .returned (.slice A xs.length cap) ∧ BytesP (w.heap.size ≤ ·) w' A xs ∧ Wr w' A xs ∧ Below w.heap.size w w'
set_option maxHeartbeats 1000000 in
theorem cloneW_any (P : Nat → Prop) (A : Option Addr) (cap : Nat) (xs : List UInt8) (hl : xs.length ≤ 70368744177664) (w : World) (hx : BytesP P w A xs) :
    Calls Try.prog 34 #[.slice A xs.length cap] w (RetBW w xs) := by
  cases A with
  | none =>
    obtain rfl : xs = [] := by
      rcases hx with h | ⟨b, off, h, _⟩
      · exact h
      · cases h
    clear hx
    have hnil := fun w => Lib.run_eql_slice_nil (P := Try.prog) w 28 5 none 0 cap 0 0 Try.underlying28
    go_enter Try.func34, Try.ntmps34
    go_wp2
    go_ret
    exact ⟨none, 0, rfl, .inl rfl, .inl rfl, Below.refl _ _⟩
  | some a =>
    obtain ⟨i0, hi, hz0, hz1, hz2⟩ := info_parts info_u8
    have hb : Below w.heap.size w (w.alloc (.cells #[] 5)) := (Below.refl _ _).alloc (Nat.le_refl _) _
    have hown := World.ownsRow_made (base := w.heap.size) (e := 5) (size := 1) w #[] 0 (Nat.le_refl _) (by unfold maxLen; omega) rfl
    obtain ⟨v', w', k1, k2, k3⟩ := run_append_src (w.alloc (.cells #[] 5)) w.heap.size 28 28 5 i0 _ 1 1 Try.underlying28 hi hz0 hz1 hz2 rfl (by decide) _ 0 [] hown (some a) xs.length cap (xs.map u8V)
      (by simp) (hx.below hb).news (fun u hu => by obtain ⟨x, _, rfl⟩ := List.mem_map.1 hu; rfl) (by unfold maxLen; omega) (by omega) (by simp)
    have N : Hid (RetBW w xs (.returned v') w') := by
      rw [List.nil_append, Nat.zero_add] at k2
      obtain ⟨A', cap', hv, hB⟩ := own_bytes k2 rfl
      subst hv
      exact ⟨A', cap', rfl, hB.mono fun i _ hi => hi.1, own_wr k2, hb.grown k3 (by simp) fun k hk => (hown.lt k hk).1⟩
    have K := Lib.hid k1
    clear hx hb hown k1 k2 k3 hi hz0 hz1 hz2
    go_enter Try.func34, Try.ntmps34
    have hnil := fun w => Lib.run_eql_slice_nil (P := Try.prog) w 28 5 (some a) xs.length cap 0 0 Try.underlying28
    go_wp2_with (at_builtin; refine wpList_run_append K.out rfl _ _ rfl rfl rfl rfl ?_)
    go_ret
    exact N.out
set_option maxHeartbeats 2000000 in
theorem runsW_any (b : Nat) (W : List Cel) (w : World) (hI : ImgOf w b W) : Calls Try.prog 20 #[.pointer (some ⟨b, 0, none⟩)] w fun e w' => ∃ v rs, e = .returned v ∧ OwnR 47 (w.heap.size ≤ ·) w w' v rs ∧ pairs rs = pairN (runsW W) ∧ ∀ r ∈ rs, Wr w' r.A r.data := by
  have I := Lib.hid hI
  clear hI
  go_enter Try.func20, Try.ntmps20
  go_wp2_with fail
  refine (next_any b _ _ _ 0 (by omega) true _ I.out.2).mono ?_
  rintro e w1 ⟨⟨k0, rfl, hk0⟩, rfl⟩
  have K0 := Lib.hid hk0
  clear hk0
  go_wp2
  go_loopw [3, 4] (fun v i wr => ∃ (k : Nat) (rs : List R), k ≤ 65536 ∧ i = .int .i64 k ∧ OwnR 47 (w.heap.size ≤ ·) w wr v rs ∧ Hid (∀ r ∈ rs, Wr wr r.A r.data) ∧ Hid (pairs rs = pairN (runsW (below W k))) ∧ Hid (k < 65536 → hasW W k = true ∧ ∀ c ∈ W, c.1 + 1 ≠ k)) (fun _ i _ => 65536 - (intOf i).toNat)
  case atStart => exact ⟨k0, [], K0.out.2.1, rfl, ownR_start _ _ _, fun r hr => absurd hr List.not_mem_nil, by show pairs [] = _; rw [below_first K0.out]; rfl, fun h => ⟨K0.out.2.2.2 h, gap_first K0.out⟩⟩
  case round =>
    obtain ⟨k, rs, hk, rfl, hO, FW, E, G⟩ := hrel
    have O := Lib.hid hO
    clear hO
    by_cases hlt : k < 65536
    · have hlt' : (k : Int) < 65536 := by omega
      have I2 := Lib.hid (I.out.below O.out.2.1)
      go_wp2_with fail
      refine (next_any b _ _ _ k hk false _ I2.out.2).mono ?_
      rintro e w1 ⟨⟨e, rfl, he⟩, rfl⟩
      have hke : k < e := by
        rcases Nat.lt_or_ge k e with h | h
        · exact h
        · have h1 := he.1
          have h2 : e = k := by omega
          have h3 := he.2.2.2 (by omega)
          rw [h2, (G.out hlt).1] at h3
          cases h3
      have he2 := he.2.1
      have KE := Lib.hid he
      clear he
      have hsl := fun w => slice_blh b k e hlt (by omega) he2 w
      have hcl := cloneW_any _ _ (65536 - k) (segB W k e) (by rw [segB_length]; omega) wr (seg_bytes I2.out k e he2)
      rw [segB_length] at hcl
      have hrs : rs.length ≤ 65536 := by
        rw [pairs_length E.out]
        refine Nat.le_trans (runs_length_le _) (Nat.le_trans (List.length_filter_le _ _) (sorted_length I.out.1))
      go_wp2_with fail
      refine hcl.mono ?_
      rintro x w2 ⟨A1, cap1, rfl, hB1, hF1, hb1⟩
      obtain ⟨ob, hob⟩ : ∃ o, Obj.cells #[.int .i64 (k : Int), .slice A1 (segB W k e).length cap1] 47 = o := ⟨_, rfl⟩
      have hal : Below w2.heap.size w2 (w2.alloc ob) := (Below.refl _ _).alloc (Nat.le_refl _) ob
      have hO2 := (O.out.below hb1).alloc ob
      have hD2 : BytesP (fun i => w.heap.size ≤ i ∧ some i ≠ u3.ownBlock) (w2.alloc ob) A1 (segB W k e) := (hB1.below hal).mono fun i _ hi => ⟨Nat.le_trans O.out.2.1.size hi, fun h => by
        have := (O.out.1.lt i h.symm).2
        omega⟩
      have hF2 : ∀ r ∈ rs, Wr (w2.alloc ob) r.A r.data := fun r hr => ((FW.out r hr).below hb1).below hal
      have hF3 : Wr (w2.alloc ob) A1 (segB W k e) := hF1.below hal
      rw [← hob] at hO2 hD2 hF2 hF3
      have F2 := Lib.hid hF2
      have F3 := Lib.hid hF3
      have O2 := Lib.hid hO2
      have D2 := Lib.hid hD2
      have S2 := Lib.hid hrs
      have HE := Lib.hid (And.intro hke (And.intro he2 hlt))
      clear hcl hob hal hO2 hD2 hF2 hF3 hF1 hB1 hb1 hrs hsl hke he2 hlt' hlt
      go_wp2_with (at_builtin; (refine wpList_appR 39 47 Try.underlying39 info_irun O2.out ⟨(k : Int), A1, cap1, segB W k e⟩ ⟨w2.heap.size, 0, none⟩ 1 (by simp [go_sem, Addr.add]) (by simp [go_sem, Addr.add]) D2.out (Nat.le_trans S2.out (by omega)) rfl _ _ rfl rfl rfl ?_))
      intro v' w4 hO4 hgr _
      have F4 : Hid (∀ r ∈ rs ++ [(⟨(k : Int), A1, cap1, segB W k e⟩ : R)], Wr w4 r.A r.data) := fun r hr => by
        rcases List.mem_append.1 hr with hr | hr
        · exact (F2.out r hr).grown (O2.out.2.2 r hr) hgr
        · rw [List.mem_singleton.1 hr]; exact F3.out.grown D2.out hgr
      clear hgr
      have O4 := Lib.hid hO4
      have I4 := Lib.hid (I.out.below hO4.2.1)
      clear hO4
      go_wp2_with fail
      refine (next_any b _ _ _ e HE.out.2.1 true _ I4.out.2).mono ?_
      rintro x w5 ⟨⟨k', rfl, hk'⟩, rfl⟩
      have KN := Lib.hid hk'
      have hle := hk'.1
      have hle2 := hk'.2.1
      clear hk'
      have E2 : Hid (pairs (rs ++ [⟨(k : Int), A1, cap1, segB W k e⟩]) = pairN (runsW (below W k'))) := by
        show pairs _ = _
        rw [pairs_snoc, E.out, runs_next I.out.1 HE.out.1 (G.out HE.out.2.2).2 KE.out KN.out, pairN_snoc]
      go_wp2
      go_roundw
      case rel => exact ⟨k', _, hle2, rfl, O4.out, F4, E2, fun h => ⟨KN.out.2.2.2 h, gap_next KE.out KN.out h⟩⟩
      case measure => have := HE.out; simp [intOf]; omega
    · have hlt' : decide ((k : Int) < 65536) = false := decide_eq_false (by omega)
      have N := E.out
      rw [show k = 65536 by omega, below_all I.out.1] at N
      have NN := Lib.hid N
      clear N
      go_wp2
      go_ret
      exact ⟨_, rs, rfl, O.out, NN.out, FW.out⟩
end Go.Proofs.Ytllfebekanafhaa
