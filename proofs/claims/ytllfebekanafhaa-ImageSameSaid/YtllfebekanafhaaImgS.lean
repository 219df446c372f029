/-
  The walks over the law's alive and given.
-/
import Derived.Test.YtllfebekanafhaaImgQ
namespace Go.Proofs.Ytllfebekanafhaa
open Go.RowKit
set_option linter.unusedVariables false

theorem bytes_lit (w : World) (n : Nat) (hn : w.heap.size = n) (xs : List UInt8) (cs : Array Value) (hcs : cs = (xs.map u8V).toArray) (t : TypeId) : BytesP (fun i => i = n) (w.alloc (.cells cs t)) (some ⟨n, 0, none⟩) xs := by
  subst hn hcs
  refine .inr ⟨_, 0, rfl, rfl, fun j hj => ?_⟩
  rw [cell_of_row _ _ _ _ t (0, 0) (heap_alloc_new w _)]
  simp [u8V, List.getElem?_eq_getElem hj]
theorem put_lit (b : Nat) (W W' : List Cel) (n c : Int) (xs : List UInt8) (m : Nat) (hm : m = xs.length) (hl : xs.length ≤ 100) (hc : codeW W n xs = c) (hp : putW W n xs = W') (w : World) (k : Nat) (hk : w.heap.size = k) (hI : ImgOf w b W) (cs : Array Value) (hcs : cs = (xs.map u8V).toArray) (t : TypeId) :
    Calls Try.prog 13 #[.pointer (some ⟨b, 0, none⟩), .int .i64 n, .slice (some ⟨k, 0, none⟩) m m] (w.alloc (.cells cs t)) fun e w' => e = .returned (.int .i64 c) ∧ ImgOf w' b W' ∧ Keep b w w' := by
  subst hm hk hc hp
  have hal : Below w.heap.size w (w.alloc (.cells cs t)) := (Below.refl _ _).alloc (Nat.le_refl _) _
  have hb := hI.lt
  exact (put_any b W n _ (show ¬ (fun i => i = w.heap.size) b from fun h => by simp at h; omega) _ xs xs.length _ (by unfold maxLen; omega) (hI.below hal) (bytes_lit w _ rfl xs cs hcs t)).mono fun e w' ⟨h1, h2, h3⟩ => ⟨h1, h2, (Keep.of_below hal).trans h3⟩
set_option maxHeartbeats 2000000 in
theorem alive_any (w : World) : Calls Try.prog 10 #[] w fun e w' => e = .returned (.bool true) ∧ Below w.heap.size w w' := by
  go_enter Try.func10, Try.ntmps10
  go_wp2_with fail
  refine (newOf_any _).mono ?_
  rintro e w1 ⟨b, rfl, hb, hI1, hB1⟩
  have p1 := put_lit b [] [(5, 1), (6, 2)] 5 0 [1, 2] 2 rfl (by decide) (by decide +kernel) (by decide +kernel) w1 _ rfl hI1 #[.int .u8 1, .int .u8 2] rfl 5
  have B1 := Lib.hid hB1
  have HB := Lib.hid hb
  clear hI1 hB1 hb
  go_wp2_with fail
  refine p1.mono ?_
  rintro e w2 ⟨rfl, hI2, hK2⟩
  have p2 := put_lit b [(5, 1), (6, 2)] [(5, 1), (6, 2), (7, 3)] 7 0 [3] 1 rfl (by decide) (by decide +kernel) (by decide +kernel) w2 _ rfl hI2 #[.int .u8 3] rfl 5
  have K2 := Lib.hid hK2
  clear hI2 hK2 p1
  go_wp2_with fail
  refine p2.mono ?_
  rintro e w3 ⟨rfl, hI3, hK3⟩
  have p3 := put_lit b [(5, 1), (6, 2), (7, 3)] [(5, 1), (6, 2), (7, 3)] 6 4 [9] 1 rfl (by decide) (by decide +kernel) (by decide +kernel) w3 _ rfl hI3 #[.int .u8 9] rfl 5
  have K3 := Lib.hid (K2.out.trans hK3)
  clear hI3 hK3 p2
  go_wp2_with fail
  refine p3.mono ?_
  rintro e w4 ⟨rfl, hI4, hK4⟩
  have K4 := Lib.hid (K3.out.trans hK4)
  have hr := runs_any b _ w4 hI4
  rw [show runsW [(5, 1), (6, 2), (7, 3)] = [(5, [1, 2, 3])] by decide +kernel] at hr
  clear hI4 hK4 p3
  go_wp2_with fail
  refine hr.mono ?_
  rintro e w5 ⟨A, cap, rs, rfl, hc, hE, hR, hB5⟩
  have hN : Below w.heap.size w w5 := B1.out.trans ((K4.out.below HB.out B1.out.size).trans (hB5.mono (Nat.le_trans B1.out.size K4.out.size)))
  obtain ⟨r, rfl⟩ := List.length_eq_one_iff.1 (pairs_length hE)
  unfold pairs pairN at hE
  simp only [List.map_cons, List.map_nil, List.cons.injEq, Prod.mk.injEq, and_true] at hE
  obtain ⟨ea, ed⟩ := hE
  obtain ⟨bb, off, hA, g1, g2⟩ := hR.at_ (k := 0) (by simp)
  subst hA
  have hD := hR.2 r (by simp)
  simp only [List.getElem_cons_zero] at g1 g2
  rw [ea] at g1
  rw [ed] at g2 hD
  obtain ⟨rA, hrA⟩ : ∃ x, r.A = x := ⟨_, rfl⟩
  obtain ⟨rc, hrc⟩ : ∃ x, r.cap = x := ⟨_, rfl⟩
  rw [hrA, hrc] at g2
  rw [hrA] at hD
  have hal : Below w5.heap.size w5 (w5.alloc (.cells #[.int .u8 1, .int .u8 2, .int .u8 3] 5)) := (Below.refl _ _).alloc (Nat.le_refl _) _
  have heq := equalS_any _ _ rA (some ⟨w5.heap.size, 0, none⟩) rc 3 [1, 2, 3] (by unfold maxLen; decide) _ (hD.below hal) (bytes_lit w5 _ rfl [1, 2, 3] #[.int .u8 1, .int .u8 2, .int .u8 3] rfl 5)
  have N := Lib.hid (hN.alloc hN.size (.cells #[.int .u8 1, .int .u8 2, .int .u8 3] 5))
  simp only [Nat.zero_mul, Nat.add_zero] at g1 g2
  have g1' : w5.cell? ⟨bb, off, none⟩ = some (.int .i64 5) := g1
  have g2' : w5.cell? ⟨bb, off + 1, none⟩ = some (.slice rA 3 rc) := g2
  clear hN hR hD hal ea ed hrA hrc hc hB5 hr g1 g2 K2 K3 K4
  go_wp2_with fail
  refine heq.mono ?_
  rintro e w6 ⟨rfl, q, rfl⟩
  go_wp2
  go_ret
  exact ⟨rfl, ⟨N.out.os, N.out.tape, N.out.output, N.out.size, N.out.block⟩⟩

/-- The call returns the runs as runs of the image. -/
def RetGiven (w : World) (rs : List R) (e : Ending) (w' : World) : Prop :=
  ∃ A cap, e = .returned (.slice A rs.length cap) ∧ rs.length ≤ cap ∧ RunsP (w.heap.size ≤ ·) (· < w.heap.size) w' A rs ∧ Below w.heap.size w w'
set_option maxHeartbeats 2000000 in
theorem given_own (S P : Nat → Prop) (A : Option Addr) (cap : Nat) (rs : List R) (hl : rs.length ≤ 1099511627776) (w : World) (hW : RunsP S P w A rs) :
    Calls Try.prog 16 #[.slice A rs.length cap] w fun e w' => ∃ v, e = .returned v ∧ OwnR 47 (· < w.heap.size) w w' v rs := by
  have Z := Lib.hid (hW.mono (T := (· < w.heap.size)) (Q := (· < w.heap.size)) (fun _ h _ => h) (fun _ h _ => h))
  clear hW
  go_enter Try.func16, Try.ntmps16
  go_wp2
  go_loopw [3, 8] (fun v i wr => ∃ k : Nat, k ≤ rs.length ∧ i = .int .i64 k ∧ OwnR 47 (· < w.heap.size) w wr v (rs.take k)) (fun _ i _ => rs.length - (intOf i).toNat)
  case atStart => exact ⟨0, Nat.zero_le _, rfl, ownR_start _ _ _⟩
  case round =>
    obtain ⟨k, hk, rfl, hO⟩ := hrel
    have O := Lib.hid hO
    clear hO
    by_cases hlt : k < rs.length
    · have Z2 := Lib.hid (Z.out.below O.out.2.1)
      obtain ⟨b, off, hA, g1, g2⟩ := Z2.out.at_ hlt
      subst hA
      have hlt' : (k : Int) < (rs.length : Int) := by omega
      have X := Z2.out.2 _ (List.getElem_mem hlt)
      have ht : rs.take (k + 1) = rs.take k ++ [rs[k]] := List.take_succ_eq_append_getElem hlt
      have hlk : (rs.take k).length ≤ 1099511627776 := Nat.le_trans (List.length_take_le' _ _) hl
      obtain ⟨r, hr⟩ : ∃ r, rs[k] = r := ⟨_, rfl⟩
      rw [hr] at g1 g2 X ht
      obtain ⟨ob, hob⟩ : ∃ o, Obj.cells #[.int .i64 r.addr, .slice r.A r.data.length r.cap] 30 = o := ⟨_, rfl⟩
      obtain ⟨oc, hoc⟩ : ∃ o, Obj.cells #[.int .i64 r.addr, .slice r.A r.data.length r.cap] 47 = o := ⟨_, rfl⟩
      have hO2 := (O.out.alloc ob).alloc oc
      have hD : BytesP (fun i => i < w.heap.size ∧ some i ≠ u3.ownBlock) ((wr.alloc ob).alloc oc) r.A r.data := by
        refine BytesP.mono (P := (· < w.heap.size)) ?_ fun i _ hi => ⟨hi, fun h => by have := (O.out.1.lt i h.symm).1; omega⟩
        exact (X.below ((Below.refl _ _).alloc (Nat.le_refl _) ob)).below ((Below.refl _ _).alloc (Nat.le_refl _) oc)
      rw [← hob, ← hoc] at hO2 hD
      have O2 := Lib.hid hO2
      have D := Lib.hid hD
      have HT := Lib.hid ht
      have HL := Lib.hid hlk
      clear hr hob hoc hO2 hD X ht hlk
      go_wp2_with (at_builtin; refine wpList_appR 39 47 Try.underlying39 info_irun O2.out r ⟨wr.heap.size + 1, 0, none⟩ 1 (two_cells _ _ (by simp) _ _ _).1 (two_cells _ _ (by simp) _ _ _).2 D.out HL.out rfl _ _ rfl rfl rfl ?_)
      intro v' w4 hO4 _ _
      have O4 : Hid (OwnR 47 (· < w.heap.size) w w4 v' (rs.take (k + 1))) := by rw [HT.out]; exact hO4
      clear hO4
      go_wp2
      go_roundw
      case rel => exact ⟨k + 1, by omega, by go_num, O4.out⟩
      case measure => simp [intOf]; omega
    · have hlt' : decide ((k : Int) < (rs.length : Int)) = false := decide_eq_false (by omega)
      have hO := O.out
      rw [List.take_of_length_le (by omega)] at hO
      have N := Lib.hid hO
      clear hO
      go_wp2
      go_ret
      exact ⟨_, rfl, N.out⟩
theorem given_any (S P : Nat → Prop) (A : Option Addr) (cap : Nat) (rs : List R) (hl : rs.length ≤ 1099511627776) (w : World) (hW : RunsP S P w A rs) :
    Calls Try.prog 16 #[.slice A rs.length cap] w (RetGiven w rs) :=
  (given_own S P A cap rs hl w hW).mono fun e w' ⟨v, h1, h2⟩ => by
    obtain ⟨A0, cap0, hv, hc, hR⟩ := h2.runsP
    subst hv
    exact ⟨A0, cap0, h1, hc, hR, h2.2.1⟩
end Go.Proofs.Ytllfebekanafhaa
