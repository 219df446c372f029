/-
  The reference's Covers and Few.
-/
import Derived.Test.YtmnleknehjkmgaaGreatGAW
import Derived.Test.YtmnleknehjkmgaaGreatMItB
set_option linter.all false
set_option maxRecDepth 100000
set_option maxHeartbeats 4000000
namespace Go.Proofs.YtmnleknehjkmgaaGreat
open Go.RowKit Go.Shelf
attribute [local go_sem] Oper.semAt_some
def covZ (o : Option Nat) : Int := match o with | some k => (k : Int) | none => -1
theorem rcovers_any (off : Int) (R : List Xe) (A : Option Addr) (l cap : Nat) (hl : R.length = l) (hl2 : l ≤ 90000) (hs : (rawI (R.map Xe.x)).length ≤ 90000) (w : World) (H : ItsP w A R) :
    Calls Tryz.prog 23 #[.int .i64 off, .slice A l cap] w fun e w' => e = .returned (.int .i64 (covZ (covI (R.map Xe.x) off))) ∧ w' = w := by
  have HX : Hid (∀ j, j < l → ∃ r : Xe, ItJ w A r j ∧ offI (R.map Xe.x) (j + 1) = offI (R.map Xe.x) j + r.x.raw.length ∧ offI (R.map Xe.x) j + r.x.raw.length ≤ 90000) := fun j hj => by
    have hj' : j < R.length := by omega
    have e := off_succ (R.map Xe.x) (k := j) (by rw [List.length_map]; exact hj')
    have e2 : (R.map Xe.x)[j]'(by rw [List.length_map]; exact hj') = R[j].x := by simp
    rw [e2] at e
    have h3 := off_mono (R.map Xe.x) (j + 1)
    exact ⟨R[j], H.j hj', e, by omega⟩
  have HL : Hid ((R.map Xe.x).length = l) := by show _ = _; rw [List.length_map]; exact hl
  obtain ⟨L, hL⟩ : ∃ z, R.map Xe.x = z := ⟨_, rfl⟩
  rw [hL] at HX HL ⊢
  clear hL H hl hs
  go_enter Tryz.func23, Tryz.ntmps23
  go_wp2
  go_loopw [5, 6] (fun va vi wr => ∃ j : Nat, j ≤ l ∧ vi = .int .i64 j ∧ va = .int .i64 (offI L j : Nat) ∧ Hid (∀ k, k < j → covB L off k = false) ∧ wr = w) (fun _ vi _ => l - (intOf vi).toNat)
  case atStart => exact ⟨0, Nat.zero_le _, rfl, rfl, fun k hk => absurd hk (Nat.not_lt_zero k), rfl⟩
  case round =>
    obtain ⟨j, hj, rfl, rfl, PR, rfl⟩ := hrel
    by_cases hlt : j < l
    · obtain ⟨r, ⟨b, o, rfl, h0, h1, h2, h3, h4, -, -⟩, e1, e2⟩ := HX.out j hlt
      have HC : Hid (covB L off j = (decide ((offI L j : Int) ≤ off) && decide (off < (offI L (j + 1) : Int)))) := rfl
      have E1 := Lib.hid e1
      obtain ⟨oj, hoj⟩ : ∃ z, offI L j = z := ⟨_, rfl⟩
      obtain ⟨rl, hrl⟩ : ∃ z, r.x.raw.length = z := ⟨_, rfl⟩
      rw [hoj, hrl] at E1
      rw [hoj] at HC ⊢
      rw [hrl] at h1
      rw [hoj, hrl] at e2
      rw [E1.out] at HC
      have NO : Hid (covB L off j = false → ∀ k, k < j + 1 → covB L off k = false) := fun h k hk => by
        by_cases e : k = j
        · subst e; exact h
        · exact PR.out k (by omega)
      have YES : Hid (covB L off j = true → covZ (covI L off) = (j : Int)) := fun h => by
        rw [cov_some (by rw [HL.out]; exact hlt) h PR.out]
        rfl
      obtain ⟨c, hc⟩ : ∃ z, covB L off j = z := ⟨_, rfl⟩
      rw [hc] at HC NO YES
      clear hoj hrl e1 hc PR HX h0 h2 h3 h4
      by_cases t1 : off ≥ (oj : Int)
      · by_cases t2 : off < (oj : Int) + (rl : Int)
        · have Y := Lib.hid (YES.out (by rw [HC.out]; simp; omega))
          clear NO YES HC E1
          go_wp2
          go_ret
          exact ⟨by rw [Y.out]; rfl, rfl⟩
        · have N := Lib.hid (NO.out (by rw [HC.out]; simp; omega))
          clear NO YES HC
          go_wp2
          go_roundw
          case rel => exact ⟨j + 1, by omega, by go_num, by rw [E1.out]; go_num, N.out, by first | rfl | trivial⟩
          case measure => simp [intOf]; omega
      · have N := Lib.hid (NO.out (by rw [HC.out]; simp; omega))
        clear NO YES HC
        go_wp2
        go_roundw
        case rel => exact ⟨j + 1, by omega, by go_num, by rw [E1.out]; go_num, N.out, by first | rfl | trivial⟩
        case measure => simp [intOf]; omega
    · obtain rfl : l = j := by omega
      have N : Hid (covZ (covI L off) = -1) := by
        show _ = _
        rw [cov_none fun k hk => PR.out k (by rw [← HL.out]; exact hk)]
        rfl
      clear HX PR
      go_wp2
      go_ret
      exact ⟨by rw [N.out]; rfl, rfl⟩
def fewX (x : Ite) : Bool := decide (x.raw.length ≤ 100) && decide (x.C.length ≤ 20) && decide (x.m.length ≤ 100)
def fewI (L : List Ite) : Bool := L.all fewX && decide (L.length ≤ 60)
theorem rfew13_any (R : List Xe) (A : Option Addr) (l cap : Nat) (hl : R.length = l) (hl2 : l ≤ maxLen) (w : World) (H : ItsP w A R) :
    Calls Tryz.prog 15 #[.slice A l cap] w fun e w' => e = .returned (.bool (fewI (R.map Xe.x))) ∧ w' = w := by
  unfold maxLen at hl2
  have HX : Hid (∀ j, j < l → ∃ r : Xe, ItJ w A r j ∧ (fewX r.x = false → fewI (R.map Xe.x) = false) ∧ (fewX r.x = true → (∀ k (a : k < R.length), k < j → fewX R[k].x = true) → ∀ k (a : k < R.length), k < j + 1 → fewX R[k].x = true)) := fun j hj => by
    have hj' : j < R.length := by omega
    refine ⟨R[j], H.j hj', fun h => ?_, fun h hp k a hk => ?_⟩
    · unfold fewI
      rw [Bool.and_eq_false_iff]
      refine .inl (Bool.eq_false_iff.2 fun hall => ?_)
      rw [List.all_eq_true] at hall
      have := hall _ (List.mem_map_of_mem (List.getElem_mem hj'))
      rw [h] at this
      cases this
    · by_cases e : k = j
      · subst e; exact h
      · exact hp k a (by omega)
  have HE : Hid ((∀ k (a : k < R.length), k < l → fewX R[k].x = true) → fewI (R.map Xe.x) = decide (l ≤ 60)) := fun hp => by
    unfold fewI
    rw [List.length_map, hl]
    rw [List.all_eq_true.2 fun x hx => ?_, Bool.true_and]
    obtain ⟨r, hr, rfl⟩ := List.mem_map.1 hx
    obtain ⟨k, hk, rfl⟩ := List.getElem_of_mem hr
    exact hp k hk (by omega)
  obtain ⟨fw, hfw⟩ : ∃ z, fewI (R.map Xe.x) = z := ⟨_, rfl⟩
  rw [hfw] at HX HE ⊢
  clear H hl hfw
  go_enter Tryz.func15, Tryz.ntmps15
  go_wp2
  go_loopw [3] (fun vi wr => ∃ j : Nat, j ≤ l ∧ vi = .int .i64 j ∧ Hid (∀ k (a : k < R.length), k < j → fewX R[k].x = true) ∧ wr = w) (fun vi _ => l - (intOf vi).toNat)
  case atStart => exact ⟨0, Nat.zero_le _, rfl, fun k _ hk => absurd hk (Nat.not_lt_zero k), rfl⟩
  case round =>
    obtain ⟨j, hj, rfl, PR, rfl⟩ := hrel
    by_cases hlt : j < l
    · obtain ⟨r, ⟨b, o, rfl, h0, h1, h2, h3, h4, -, -⟩, e1, e2⟩ := HX.out j hlt
      have FX : Hid (fewX r.x = (decide (r.x.raw.length ≤ 100) && decide (r.x.C.length ≤ 20) && decide (r.x.m.length ≤ 100))) := rfl
      have BAD := Lib.hid e1
      have GOOD := Lib.hid (fun h => e2 h PR.out)
      have hsz := sB_size r.x.m
      obtain ⟨rl, hrl⟩ : ∃ z, r.x.raw.length = z := ⟨_, rfl⟩
      obtain ⟨cl, hcl⟩ : ∃ z, r.x.C.length = z := ⟨_, rfl⟩
      obtain ⟨ml, hml⟩ : ∃ z, r.x.m.length = z := ⟨_, rfl⟩
      rw [hrl, hcl, hml] at FX
      rw [hrl] at h1
      rw [hcl] at h3
      rw [hml] at hsz
      obtain ⟨fx, hfx⟩ : ∃ z, fewX r.x = z := ⟨_, rfl⟩
      rw [hfx] at FX BAD GOOD
      clear e1 e2 hrl hcl hml hfx PR HX h0 h4
      by_cases t1 : (rl : Int) > 100
      · have B := BAD.out (by rw [FX.out]; simp; omega)
        subst B
        clear BAD GOOD FX
        go_wp2
        go_ret
        exact ⟨rfl, rfl⟩
      · by_cases t2 : (cl : Int) > 20
        · have B := BAD.out (by rw [FX.out]; simp; omega)
          subst B
          clear BAD GOOD FX
          go_wp2
          go_ret
          exact ⟨rfl, rfl⟩
        · by_cases t3 : (ml : Int) > 100
          · have B := BAD.out (by rw [FX.out]; simp; omega)
            subst B
            clear BAD GOOD FX
            go_wp2
            go_ret
            exact ⟨rfl, rfl⟩
          · have G := Lib.hid (GOOD.out (by rw [FX.out]; simp; omega))
            clear BAD GOOD FX
            go_wp2
            go_roundw
            case rel => exact ⟨j + 1, by omega, by go_num, G.out, by first | rfl | trivial⟩
            case measure => simp [intOf]; omega
    · obtain rfl : l = j := by omega
      have E := HE.out PR.out
      subst E
      clear HX HE PR
      go_wp2
      go_ret
      refine ⟨?_, rfl⟩
      congr 2
      simp
      omega
end Go.Proofs.YtmnleknehjkmgaaGreat
