/-
  slices.Chunk at []byte: the walk over it, and the contract of the function that it returns.
-/
import Derived.Test.YtbnehcnimbkakaaRecU
import Derived.Test.YtbnehcnimbkakaaRound
import Derived.Shelf.Abstract
import Derived.Shelf.RegionOpen
import Derived.WalkKit
import Derived.LoopNIn
import Derived.LoopIn
import Derived.Deep.Cut
namespace Go.Proofs.Ytbnehcnimbkakaa
open Go.RowKit Go.Shelf
set_option linter.unusedVariables false
attribute [local go_sem] Oper.semAt_some

set_option maxHeartbeats 1000000 in
theorem chunk_any (A : Option Addr) (len cap : Nat) (s : Int) (h : 1 ≤ s) (w : World) (n : Nat) (hn : w.heap.size = n) :
    Calls Try.prog 41 #[.slice A len cap, .int .i64 s] w fun e w' => e = .returned (.func (.func 49) #[] #[.pointer (some ⟨n, 0, none⟩), .pointer (some ⟨n + 1, 0, none⟩)]) ∧ (w.alloc (.cells #[.slice A len cap] 22)).alloc (.cells #[.int .i64 s] 3) = w' := by
  subst hn
  have h' : decide (s < 1) = false := decide_eq_false (by omega)
  clear h
  go_enter Try.func41, Try.ntmps41
  go_wp2
  go_ret
  exact ⟨rfl, rfl⟩
/-- The k-th piece, as a slice. -/
def chV (A : Option Addr) (xs : List UInt8) (s k : Nat) : Value := .slice (subA A (k * s) (k * s + (chD xs s k).length)) (chD xs s k).length (chD xs s k).length
set_option maxHeartbeats 2000000 in
theorem chunk1_stops (n : Nat) (Q : Nat → Prop) (Bs Bn : Nat) (hQs : Q Bs) (hQn : Q Bn) (A : Option Addr) (cap : Nat) (xs : List UInt8) (s : Nat) (hs1 : 1 ≤ s) (hs2 : s ≤ 255) (hl : xs.length ≤ 65536) (hc : xs.length ≤ cap) (w : World)
    (hBs : Bs < w.heap.size) (hBn : Bn < w.heap.size) (hcs : w.cell? ⟨Bs, 0, none⟩ = some (.slice A xs.length cap)) (hcn : w.cell? ⟨Bn, 0, none⟩ = some (.int .i64 s)) :
    SeqStopsK Fence.wide n Try.prog 49 #[.pointer (some ⟨Bs, 0, none⟩), .pointer (some ⟨Bn, 0, none⟩)] (fun x : Nat => #[chV A xs s x]) (KeptP Q) (fun ys => ys = List.range (cnt xs.length s)) (fun _ => True) (cnt xs.length s) w := fun l J Jx W hW hJ hJx hY h0 => by
  have ks : W.cell? ⟨Bs, 0, none⟩ = some (.slice A xs.length cap) := (hW.cell (p := ⟨Bs, 0, none⟩) hBs).trans hcs
  have kn : W.cell? ⟨Bn, 0, none⟩ = some (.int .i64 s) := (hW.cell (p := ⟨Bn, 0, none⟩) hBn).trans hcn
  have hsz := hW.size
  have hJd : ∀ (m : Nat) (z : List Nat) (X : World), J z X → J z (X.drewN m) := fun m z X h => hJ z X _ none h ⟨rfl, rfl, rfl, Nat.le_refl _, fun _ _ _ => rfl⟩ (fun r e => by cases e)
  have S1 := Lib.hid hs1
  have S2 := Lib.hid hs2
  have KS := Lib.hid ks
  have KN := Lib.hid kn
  have ZZ := Lib.hid (And.intro (Nat.lt_of_lt_of_le hBs hsz) (Nat.lt_of_lt_of_le hBn hsz))
  have J0 := Lib.hid h0
  have HY := Lib.hid hY
  have HD := Lib.hid hJd
  clear hs1 hs2 ks kn hW hBs hBn hcs hcn hsz h0 hY hJd hJ hJx
  refine callsIn_wide.2 ?_
  show Calls Try.prog 49 #[.func (.yield l) #[] #[], .pointer (some ⟨Bs, 0, none⟩), .pointer (some ⟨Bn, 0, none⟩)] W _
  go_enter Try.func49, Try.ntmps49
  go_wp2
  go_loopw [4] (fun i wr => ∃ (k p : Nat), i = .int .i64 p ∧ p ≤ 70000 ∧ Hid (KeptP Q W wr) ∧ Hid (p = k * s) ∧ Hid (k ≤ cnt xs.length s) ∧ Hid (J (List.range k) wr)) (fun i _ => xs.length - (intOf i).toNat)
  case atStart => exact ⟨0, 0, rfl, by omega, KeptP.refl _ _, by show 0 = 0 * s; omega, Nat.zero_le _, J0.out⟩
  case round =>
    obtain ⟨k, p, rfl, hp, B, K, C, E⟩ := hrel
    have ks : wr.cell? ⟨Bs, 0, none⟩ = some (.slice A xs.length cap) := (B.out.cell (p := ⟨Bs, 0, none⟩) ZZ.out.1 hQs).trans KS.out
    have kn : wr.cell? ⟨Bn, 0, none⟩ = some (.int .i64 s) := (B.out.cell (p := ⟨Bn, 0, none⟩) ZZ.out.2 hQn).trans KN.out
    by_cases hlt : p < xs.length
    · have hlt' : (p : Int) < (xs.length : Int) := by omega
      have hs1 := S1.out
      have hs2 := S2.out
      have hk : k < cnt xs.length s := (cnt_lt xs.length s k hs1).2 (by rw [← K.out]; exact hlt)
      obtain ⟨d, hd⟩ : ∃ d, xs.length - p = d := ⟨_, rfl⟩
      obtain ⟨e, he⟩ : ∃ e, min s d = e := ⟨_, rfl⟩
      have hel : (chD xs s k).length = e := by rw [chD_length, ← K.out]; omega
      have hmin : min (s : Int) (d : Int) = (e : Int) := by omega
      have h1 := fun w => slB_l A xs.length cap p (Nat.le_of_lt hlt) w
      rw [hd] at h1
      have h2 := fun w => slB_lhm A xs.length cap p (p + e) (p + e) (by omega) (Nat.le_refl _) (by omega) w
      rw [show p + e - p = e by omega] at h2
      simp only [Int.natCast_add] at h2
      have hv : chV A xs s k = .slice (subA A p (p + e)) e e := by unfold chV; rw [hel, ← K.out]
      have hde : e ≤ 255 := by omega
      clear hs1 hs2 he hd hel
      go_wp2_with fail
      go_quiet (fail)
      obtain ⟨fn, tmps, assign, body, hy, hR⟩ := HY.out (List.range k) k (wr.drewN nq) (HD.out nq _ _ E.out) (by simpa using hk)
      rw [hv] at hy
      have ks2 : (wr.drewN nq).cell? ⟨Bs, 0, none⟩ = some (.slice A xs.length cap) := ks
      have kn2 : (wr.drewN nq).cell? ⟨Bn, 0, none⟩ = some (.int .i64 s) := kn
      have B2 : Hid (KeptP Q W (wr.drewN nq)) := B.out.drewN nq
      obtain ⟨wq, hwq⟩ : ∃ wq, wr.drewN nq = wq := ⟨_, rfl⟩
      rw [hwq] at hy hR ks2 kn2 B2 ⊢
      clear ks kn hwq E hv
      go_upto_region 4 with fail
      refine (wpIn_wide (n := n)).1 ?_
      gi_wp2
      refine ⟨fun h => (by cases h), hR.mono ?_⟩
      rintro e3 W3 (⟨rfl, hJ3, hk3⟩ | ⟨rfl, hJx3⟩)
      · have ks3 : W3.cell? ⟨Bs, 0, none⟩ = some (.slice A xs.length cap) := (hk3.cell (p := ⟨Bs, 0, none⟩) (Nat.lt_of_lt_of_le ZZ.out.1 B2.out.size) hQs).trans ks2
        have kn3 : W3.cell? ⟨Bn, 0, none⟩ = some (.int .i64 s) := (hk3.cell (p := ⟨Bn, 0, none⟩) (Nat.lt_of_lt_of_le ZZ.out.2 B2.out.size) hQn).trans kn2
        have K3 : Hid (p + s = (k + 1) * s) := by show _ = _; rw [Nat.add_mul, ← K.out, Nat.one_mul]
        have J3 : Hid (J (List.range (k + 1)) W3) := by show J _ _; rw [List.range_succ]; exact hJ3
        have B3 : Hid (KeptP Q W W3) := B2.out.trans hk3
        have hs1 := S1.out
        have hs2 := S2.out
        clear hJ3 hk3 hR hy ks2 kn2
        gi_wp2
        go_wp2
        go_roundw
        case rel => exact ⟨k + 1, p + s, by go_num, by omega, B3.out, K3.out, hk, J3.out⟩
        case measure => simp [intOf]; omega
      · clear hR hy ks2 kn2
        gi_wp2
        go_wp2
        refine bodyPost_ret (results_none rfl _ _ _) rfl ?_
        exact ⟨⟨_, rfl⟩, .inr ⟨_, trivial, hJx3⟩⟩
    · have hlt' : decide ((p : Int) < (xs.length : Int)) = false := decide_eq_false (by omega)
      have F : Hid (J (List.range (cnt xs.length s)) wr) := by
        have hk : k = cnt xs.length s := by
          have h1 := C.out
          have h2 := mt (cnt_lt xs.length s k S1.out).1 (by rw [← K.out]; exact hlt)
          omega
        have h := E.out
        rwa [hk] at h
      go_wp2
      go_end0
      exact ⟨⟨_, rfl⟩, .inl ⟨_, rfl, F.out⟩⟩
end Go.Proofs.Ytbnehcnimbkakaa
