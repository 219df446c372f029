/-
  HexX, HexY: texts joined to one.
-/
import Derived.Test.YtnldpcnbhibinaaDoorHexAllB
import Derived.Test.YtnldpcnbhibinaaDoorHexAllA
/-
  The walks over hexwrite.row and rows, and the contract of the function that rows returns.
-/
namespace Go.Proofs.YtnldpcnbhibinaaDoor
open Go.RowKit Go.Shelf
set_option linter.unusedVariables false
attribute [local go_sem] Oper.semAt_some

set_option maxHeartbeats 2000000 in
theorem row_any (P : Nat → Prop) (a : Int) (A : Option Addr) (cap : Nat) (D : List UInt8) (hl : D.length ≤ 1000000) (w : World) (hX : BytesP P w A D) :
    Calls Tryd.prog 27 #[.int .i64 a, .slice A D.length cap] w fun e w' => e = .returned (.string (strOf (rowB a D))) ∧ Below w.heap.size w w' := by
  have X := Lib.hid (hX.mono (Q := fun i => i < w.heap.size) fun i hi _ => hi)
  clear hX
  go_enter Tryd.func27, Tryd.ntmps27
  go_wp2_with fail
  refine (hex_any a 4 (by omega) _).mono ?_
  rintro e w1 ⟨rfl, hB1⟩
  have b1 := (BJ.start w).more hB1
  have hs1 := b1.str (hexS a 4) (by rw [hexS_size]; simp)
  clear hB1 b1
  go_wp2_with fail
  refine hs1.mono ?_
  rintro e w2 ⟨rfl, v2, b2⟩
  have hs2 := b2.byte 58 58 rfl (by have := hexS_size a 4; simp; omega)
  clear hs1 b2
  go_wp2_with fail
  refine hs2.mono ?_
  rintro e w3 ⟨rfl, v3, b3⟩
  have B3 : Hid (∃ v, BJ w.heap.size w.heap.size w w3 v ((hexS a 4).data.toList ++ [58] ++ spcL (D.take 0))) := ⟨v3, by simpa [spcL] using b3⟩
  clear hs2 b3
  go_wp2
  go_loopw [14] (fun i wr => ∃ (k : Nat), k ≤ D.length ∧ i = .int .i64 k ∧ Hid (∃ v, BJ w.heap.size w.heap.size w wr v ((hexS a 4).data.toList ++ [58] ++ spcL (D.take k)))) (fun i _ => D.length - (intOf i).toNat)
  case atStart => exact ⟨0, Nat.zero_le _, rfl, B3.out⟩
  case round =>
    clear B3
    obtain ⟨k, hk, rfl, G⟩ := hrel
    by_cases hlt : k < D.length
    · obtain ⟨v, hB⟩ := G.out
      obtain ⟨g, off, hA, g0⟩ := (X.out.blocks fun i hi hp => hB.below.block i hp).at_ hlt
      subst hA
      have T := Lib.hid (spcL_take D k hlt)
      obtain ⟨x, hxk⟩ : ∃ x : Int, (D[k].toNat : Int) = x := ⟨_, rfl⟩
      have x0 : 0 ≤ x := by omega
      have x1 : x < 256 := by have := D[k].toNat_lt; omega
      rw [hxk] at g0 T
      have h4 : (hexS a 4).data.toList.length = 4 := by have := hexS_size a 4; simpa using this
      have hln : ((hexS a 4).data.toList ++ [58] ++ spcL (D.take k)).length ≤ 3000005 := by
        rw [List.length_append, List.length_append, spcL_length, h4, List.length_take, List.length_singleton]
        omega
      have hwb := hB.byte 32 32 rfl (by omega)
      have LN := Lib.hid hln
      clear hxk h4 hln hB G
      go_wp2_with fail
      refine hwb.mono ?_
      rintro e w4 ⟨rfl, v4, b4⟩
      have B4 := Lib.hid b4
      clear hwb b4
      go_wp2_with fail
      refine (hex_any x 2 (by omega) _).mono ?_
      rintro e w5 ⟨rfl, hB5⟩
      have b5 := B4.out.more hB5
      have hws := b5.str (hexS x 2) (by have := LN.out; rw [List.length_append, List.length_singleton, hexS_size]; omega)
      clear hB5 b5
      go_wp2_with fail
      refine hws.mono ?_
      rintro e w6 ⟨rfl, v6, b6⟩
      have N : Hid (∃ v, BJ w.heap.size w.heap.size w w6 v ((hexS a 4).data.toList ++ [58] ++ spcL (D.take (k + 1)))) := ⟨v6, by
        rw [T.out]
        simpa only [List.append_assoc] using b6⟩
      clear hws b6
      go_wp2
      go_roundw
      case rel => exact ⟨k + 1, by omega, by go_num, N.out⟩
      case measure => simp [intOf]; omega
    · obtain ⟨v, hB⟩ := G.out
      have hst : Calls Tryd.prog 47 #[.pointer (some ⟨w.heap.size, 0, none⟩)] wr fun e w' => e = .returned (.string (strOf (rowB a D))) ∧ Below w.heap.size w w' := by
        rw [List.take_of_length_le (by omega)] at hB
        exact hB.string (by simp)
      clear hB G
      go_wp2_with fail
      refine hst.mono ?_
      rintro e w1 ⟨rfl, hb⟩
      have N := Lib.hid hb
      clear hst hb
      go_wp2
      go_ret
      exact ⟨rfl, N.out⟩
set_option maxHeartbeats 1000000 in
theorem rows_any (a : Int) (A : Option Addr) (len cap : Nat) (w : World) (n : Nat) (hn : w.heap.size = n) :
    Calls Tryd.prog 26 #[.agg #[.int .i64 a, .slice A len cap]] w fun e w' => e = .returned (.func (.func 43) #[] #[.pointer (some ⟨n, 0, none⟩)]) ∧ w.alloc (.cells #[.int .i64 a, .slice A len cap] 72) = w' := by
  subst hn
  have hmf : ∀ (fn : Fn) (first cap : Array Value) (w : World), (Instr.makeFunc fn first cap).run Tryd.prog w = .ok (.func fn first cap) w := fun _ _ _ _ => rfl
  go_enter Tryd.func26, Tryd.ntmps26
  go_wp2
  go_ret
  exact ⟨rfl, rfl⟩
end Go.Proofs.YtnldpcnbhibinaaDoor
/-
  The contract of the function that hexwrite.rows returns: it passes on the rows of a run.
-/
namespace Go.Proofs.YtnldpcnbhibinaaDoor
open Go.RowKit Go.Shelf
set_option linter.unusedVariables false
attribute [local go_sem] Oper.semAt_some

theorem BytesT.take {w : World} {A : Option Addr} {xs : List UInt8} (h : BytesT w A xs) (n : Nat) : BytesT w A (xs.take n) := by
  rcases h with rfl | ⟨b, off, cs, h1, h2, h3⟩
  · left; simp
  · refine .inr ⟨b, off, cs, h1, h2, fun j hj => ?_⟩
    have hj' : j < xs.length := by simp at hj; omega
    rw [List.getElem_take]
    exact h3 j hj'
theorem BytesT.sub {w : World} {A : Option Addr} {xs : List UInt8} (h : BytesT w A xs) (l m : Nat) (hm : xs.length ≤ m) : BytesT w (subA A l m) (xs.drop l) := by
  by_cases h0 : xs.length ≤ l
  · left; exact List.drop_eq_nil_of_le h0
  · rcases h with rfl | ⟨b, off, cs, rfl, h2, h3⟩
    · simp at h0
    · right
      unfold subA
      rw [if_neg (by omega)]
      refine ⟨b, off + l, cs, ?_, h2, fun j hj => ?_⟩
      · simp only [Option.map_some, Option.some.injEq]
        unfold Addr.add
        split
        · rename_i h; have : l = 0 := by omega
          subst this; rfl
        · simp
      · have hj' : l + j < xs.length := by simp at hj; omega
        have h := h3 (l + j) hj'
        rw [show off + l + j = off + (l + j) by omega, List.getElem_drop]
        exact h
def rwV (x : R) : Array Value := #[.int .i64 x.addr, .slice x.A x.data.length x.cap]
def rwK (x : R) : Int × List UInt8 := (x.addr, x.data)
def rwE (x : R) (W : World) : Prop := BytesP (fun i => i < W.heap.size) W x.A x.data ∧ x.data.length ≤ 16
theorem rows_step (a : Nat) (xs : List UInt8) (off n : Nat) (hn : 0 < n) (ho : off + n ≤ xs.length) (hin : (a + off) % 16 + n ≤ 16) (hoff : off = 0 ∨ (a + off) % 16 = 0) :
    rowsC (Im.mkW a (xs.take (off + n))) = rowsC (Im.mkW a (xs.take off)) ++ [(a + off, (xs.drop off).take n)] := by
  rw [List.take_add, Im.mkW_append]
  have e : (xs.take off).length = off := by rw [List.length_take]; omega
  rw [e]
  have hlen : ((xs.drop off).take n).length = n := by rw [List.length_take, List.length_drop]; omega
  refine rows_mk _ _ _ (fun h => by rw [h] at hlen; simp at hlen; omega) (by rw [hlen]; exact hin) ?_
  rcases Im.snoc_cases (Im.mkW a (xs.take off)) with h | ⟨V, c, h⟩
  · exact .inl h
  · rcases hoff with h0 | h0
    · rw [h0] at h; simp [Im.mkW] at h
    · exact .inr ⟨V, c, h, .inr h0⟩
theorem pairN_length (l : List Im.Rn) : (Im.pairN l).length = l.length := by unfold Im.pairN; simp
set_option maxHeartbeats 4000000 in
theorem rows1_gives (n : Nat) (Br : Nat) (a : Nat) (A : Option Addr) (cap : Nat) (xs : List UInt8) (ha : a + xs.length ≤ 65536) (hc : xs.length ≤ cap) (w : World)
    (hBr : w.heap[Br]? = some (.cells #[.int .i64 a, .slice A xs.length cap] 72 (0, 0))) (hX : BytesT w A xs) :
    Each.Gives Fence.wide n Tryd.prog 43 #[.pointer (some ⟨Br, 0, none⟩)] rwV rwE (KeptO (QI Br)) (fun ys => ys.map rwK = Im.pairN (rowsC (Im.mkW a xs))) xs.length w := fun l J W hW hJ hY h0 => by
  have hb : W.heap[Br]? = some (.cells #[.int .i64 a, .slice A xs.length cap] 72 (0, 0)) := (hW.block Br (Array.getElem?_eq_some_iff.1 hBr).1).trans hBr
  have c0 : W.cell? ⟨Br, 0, none⟩ = some (.int .i64 a) := by rw [Lib.cell_of_heap hb]; rfl
  have c1 : W.cell? ⟨Br, 1, none⟩ = some (.slice A xs.length cap) := by rw [Lib.cell_of_heap hb]; rfl
  have hJd : ∀ (z : List R) (X Y : World), J z X → Below X.heap.size X Y → J z Y := fun z X Y h hb => hJ z X Y none h ⟨hb.os, hb.tape, hb.output, hb.size, fun k hk _ => hb.block k hk⟩ (fun r e => by cases e)
  have XW := Lib.hid (hX.keptO (Q := fun _ _ => True) (fun _ _ _ => trivial) (KeptO.of_all hW))
  have J0 := Lib.hid h0
  have HY := Lib.hid hY
  have HD := Lib.hid hJd
  clear hW hBr hb hX h0 hY hJd hJ
  refine callsIn_wide.2 ?_
  show Calls Tryd.prog 43 #[.func (.yield l) #[] #[], .pointer (some ⟨Br, 0, none⟩)] W _
  go_enter Tryd.func43, Tryd.ntmps43
  go_wp2_with fail
  go_quiet (fail)
  have hbq : Below W.heap.size W (W.drewN nq) := Im.below_drewN W nq
  have XQ : Hid (BytesT (W.drewN nq) A xs) := XW.out.keptO (Q := fun _ _ => True) (fun _ _ _ => trivial) (KeptO.of_all hbq)
  have JQ : Hid (J [] (W.drewN nq)) := HD.out _ _ _ J0.out hbq
  have KQ : Hid (KeptO (QI Br) W (W.drewN nq)) := KeptO.of_all hbq
  obtain ⟨wq, hwq⟩ : ∃ wq, W.drewN nq = wq := ⟨_, rfl⟩
  rw [hwq] at XQ JQ KQ ⊢
  clear hwq hbq c0 c1 XW J0
  go_wp2
  go_loopw [3, 4] (fun av rv wr => ∃ (off m p c' : Nat) (A' : Option Addr), off + m = xs.length ∧ m ≤ c' ∧ av = .int .i64 p ∧ rv = .slice A' m c' ∧ p = a + off ∧ Hid (KeptO (QI Br) W wr) ∧ Hid (BytesT wr A' (xs.drop off)) ∧ Hid (m = 0 ∨ off = 0 ∨ p % 16 = 0) ∧ Hid (∃ pre, J pre wr ∧ pre.map rwK = Im.pairN (rowsC (Im.mkW a (xs.take off))))) (fun av _ _ => 65536 - (intOf av).toNat)
  case atStart => exact ⟨0, xs.length, a, cap, A, by omega, hc, rfl, rfl, rfl, KQ.out, XQ.out, .inr (.inl rfl), [], JQ.out, rfl⟩
  case round =>
    clear XQ JQ KQ
    obtain ⟨off, m, p, c', A', hom, hmc, rfl, rfl, hp, K, X, O, G⟩ := hrel
    by_cases hlt : 0 < m
    · have hlt' : (0 : Int) < (m : Int) := by omega
      obtain ⟨e, he⟩ : ∃ e, min (16 - p % 16) m = e := ⟨_, rfl⟩
      have hmin : min (16 - (p : Int) % 16) (m : Int) = (e : Int) := by omega
      have he0 : 0 < e := by omega
      have he1 : e ≤ m := by omega
      have he2 : p % 16 + e ≤ 16 := by omega
      have hsl := fun w => slB_h A' m c' e (by omega) w
      have hs2 := fun w => slB_l A' m c' e he1 w
      obtain ⟨pre, hJp, hpre⟩ := G.out
      have hD : ((xs.drop off).take e).length = e := by rw [List.length_take, List.length_drop]; omega
      have hrow := rows_step a xs off e he0 (by omega) (by rw [← hp]; exact he2) (by rw [← hp]; rcases O.out with h | h | h <;> omega)
      have hlp : pre.length < xs.length := by
        have h1 := congrArg List.length hpre
        rw [List.length_map, pairN_length] at h1
        have h2 := rows_length (Im.mkW a (xs.take off))
        rw [Im.mkW_length, List.length_take] at h2
        omega
      have hYd := HY.out pre ⟨p, A', c', (xs.drop off).take e⟩ wr hJp ⟨(X.out.take e).toP, by rw [hD]; omega⟩ hlp
      obtain ⟨fn, tmps, assign, body, hy, hR⟩ := hYd
      simp only [rwV, hD] at hy
      have HROW : Hid (((pre ++ [(⟨p, A', c', (xs.drop off).take e⟩ : R)]).map rwK) = Im.pairN (rowsC (Im.mkW a (xs.take (off + e))))) := by
        show _ = _
        rw [List.map_append, hpre, hrow, Im.pairN_snoc, ← hp]
        rfl
      have XS := X.out.sub e c' (by rw [List.length_drop]; omega)
      rw [List.drop_drop] at XS
      have X2 := Lib.hid XS
      have ON : Hid (m - e = 0 ∨ off + e = 0 ∨ (p + e) % 16 = 0) := by show _ ∨ _ ∨ _; omega
      have HP := Lib.hid hp
      have HB : Hid (p < 65536) := by show _ < _; omega
      clear he hrow hJp hpre hlp G X O hp XS hD
      go_upto_region 3 with fail
      refine (wpIn_wide (n := n)).1 ?_
      gi_wp2
      refine ⟨fun h => (by cases h), hR.mono ?_⟩
      rintro e3 W3 ⟨rfl, hJ3, hk3⟩
      have hQ : ∀ i o, rowT o → QI Br i o := fun i o h => .inr h
      have K3 : Hid (KeptO (QI Br) W W3) := K.out.trans hk3
      have X3 : Hid (BytesT W3 (subA A' e c') (xs.drop (off + e))) := X2.out.keptO hQ hk3
      have G3 : Hid (∃ pre, J pre W3 ∧ pre.map rwK = Im.pairN (rowsC (Im.mkW a (xs.take (off + e))))) := ⟨_, hJ3, HROW.out⟩
      clear hJ3 hk3 hR hy X2 HROW K
      gi_wp2
      have hP := HP.out
      have hbnd := HB.out
      have em : (m : Int) - (e : Int) = ((m - e : Nat) : Int) := by omega
      have ep : (p : Int) + (e : Int) = ((p + e : Nat) : Int) := by omega
      have EP := Lib.hid ep
      clear hP em ep
      go_wp2_with fail
      go_quiet (fail)
      have hbq : ∀ k, Below W3.heap.size W3 (W3.drewN k) := fun k => Im.below_drewN W3 k
      have K4 := fun k => Lib.hid (K3.out.trans (KeptO.of_all (Q := QI Br) (hbq k)))
      have X4 := fun k => Lib.hid (X3.out.keptO (Q := fun _ _ => True) (fun _ _ _ => trivial) (KeptO.of_all (hbq k)))
      have G4 : ∀ k, Hid (∃ pre, J pre (W3.drewN k) ∧ pre.map rwK = Im.pairN (rowsC (Im.mkW a (xs.take (off + e))))) := fun k => by
        obtain ⟨pre, h1, h2⟩ := G3.out
        exact ⟨pre, HD.out _ _ _ h1 (hbq k), h2⟩
      clear hbq K3 X3 G3
      go_wp2
      go_roundw
      case rel => exact ⟨off + e, m - e, p + e, c' - e, _, by omega, by omega, by rw [← EP.out], rfl, by have := HP.out; omega, (K4 _).out, (X4 _).out, ON.out, (G4 _).out⟩
      case measure => simp [intOf]; omega
    · have hlt' : decide ((0 : Int) < (m : Int)) = false := decide_eq_false (by omega)
      have F : Hid (∃ ys, ys.map rwK = Im.pairN (rowsC (Im.mkW a xs)) ∧ J ys wr) := by
        obtain ⟨pre, h1, h2⟩ := G.out
        refine ⟨pre, ?_, h1⟩
        rw [h2, List.take_of_length_le (by omega)]
      clear hp K X O G
      go_wp2
      go_end0
      exact ⟨⟨_, rfl⟩, F.out⟩
end Go.Proofs.YtnldpcnbhibinaaDoor
