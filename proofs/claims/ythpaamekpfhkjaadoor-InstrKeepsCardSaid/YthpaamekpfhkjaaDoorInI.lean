/-
  The walk over the document's own With: the same instruction in new memory and true, or nothing and false.
-/
import Derived.Test.YthpaamekpfhkjaaDoorInH
namespace Go.Proofs.YthpaamekpfhkjaaDoor
open Go.RowKit
set_option linter.unusedVariables false

theorem row_set_ne {w : World} {base : Nat} {e : TypeId} {size n : Nat} {v : Value} {xs : List Value} (h : w.ownsRow base e size v n xs) {p : Addr} (hp : ∀ g, v.ownBlock = some g → g ≠ p.block) (u : Value) : (w.setCell p u).ownsRow base e size v n xs :=
  World.ownsRow.kept h (row := some p.block) ⟨rfl, rfl, rfl, by simp, fun k _ hk => heap_setCell_other w p k u (fun e => hk (by rw [e]))⟩ (by
    cases e : v.ownBlock with
    | none => exact .inl rfl
    | some g => exact .inr (fun e' => hp g e (by cases e'; rfl)))
/-- 'out = append(out, o)' at a row of operands of the call's own. -/
theorem wpList_appT {wr : World} {base : Nat} {v : Value} {xs : List Tr} (R : OwnT wr base v xs) (hbase : base ≤ wr.heap.size) {ops : Array Oper} {rest : List Oper} {o : Oper} {a : Act} {Q : Exit → Act → World → Prop} (hgd : o.guard = none) (s x : Operand)
    (ho : o.op = .call { callee := .builtin .append, args := #[s, x], argTypes := #[22, 22] }) (hs : a.eval s = v) (nb : Nat) (hnb : nb = wr.heap.size) (hx : a.eval x = .slice (some ⟨nb, 0, none⟩) 1 1)
    (y : Tr) (k : Nat) (hk : xs.length = k) (hlen : k < 10000)
    (h : ∀ A' cap' w1, OwnT w1 base (.slice A' (k + 1) cap') (xs ++ [y]) → Below base wr w1 → wpList Tryd.prog ops Q rest (a.put o.dst (.slice A' (k + 1) cap')) w1) : wpList Tryd.prog ops Q (o :: rest) a (wr.alloc (.cells #[.int .i64 y.1, .int .i64 y.2.1, .int .i64 y.2.2] 36)) := by
  subst hnb
  obtain ⟨i0, hi, hz0, hz1, hz2⟩ := info_parts info_opd
  have hb : Below base wr (wr.alloc (.cells #[.int .i64 y.1, .int .i64 y.2.1, .int .i64 y.2.2] 36)) := (Below.refl base wr).alloc hbase _
  have hown := World.ownsRow.alloc R (.cells #[.int .i64 y.1, .int .i64 y.2.1, .int .i64 y.2.2] 36)
  refine wpList_append_own _ hgd s x 22 ho base 36 i0 (.agg #[.int .i64 0, .int .i64 0, .int .i64 0]) 3 24 Tryd.underlying22 hi hz0 hz1 hz2 rfl (by decide) v xs.length _ hs hown ⟨wr.heap.size, 0, none⟩ 1 1 [.int .i64 y.1, .int .i64 y.2.1, .int .i64 y.2.2] hx rfl ?_ ?_ ?_ ?_ ?_ ?_
  · intro j u hj
    match j, hj with
    | 0, hj => simp at hj; subst hj; simp [Addr.add, go_sem]
    | 1, hj => simp at hj; subst hj; simp [Addr.add, go_sem]
    | 2, hj => simp at hj; subst hj; simp [Addr.add, go_sem]
  · intro u hu
    simp at hu
    rcases hu with rfl | rfl | rfl <;> rfl
  · unfold maxLen; omega
  · omega
  · simp; omega
  · intro v' w1 hown' hgrow _
    have hO : OwnT w1 base v' (xs ++ [y]) := by
      unfold OwnT
      rw [List.length_append, cellsT_append]
      exact hown'
    obtain ⟨A', cap', rfl, -, -⟩ := hO.ops
    rw [List.length_append, hk] at hO ⊢
    exact h A' cap' w1 hO (hb.grown hgrow (by simp; omega) fun k hk => (hown.lt k hk).1)
set_option maxRecDepth 100000 in
set_option maxHeartbeats 8000000 in
theorem rwith_any (s : ByteArray) (A : Option Addr) (cap : Nat) (L : List Tr) (A2 : Option Addr) (cap2 : Nat) (ns : List Int) (hL : L.length ≤ 1000) (hN : ns.length ≤ 1000) (w : World) (H : OpsP w A L) (HI : IntsAt w A2 ns) :
    Calls Tryd.prog 26 #[.agg #[.string s, .slice A L.length cap], .slice A2 ns.length cap2] w (RetW w s L ns) := by
  have NB := Lib.hid (rnumbers_any s A cap L hL)
  have OKL := Lib.hid (ok_len s L ns)
  obtain ⟨m, hm⟩ : ∃ m, ns.length = m := ⟨_, rfl⟩
  obtain ⟨q, hq⟩ : ∃ q, (numsL L).length = q := ⟨_, rfl⟩
  have HM := Lib.hid hm
  have HQ := Lib.hid hq
  rw [hm, hq] at OKL
  rw [hm] at hN ⊢
  obtain ⟨w0, hw0⟩ : ∃ w0, (w.alloc (.cells #[.string s, .slice A L.length cap] 24)).alloc (.cells #[.string ⟨#[]⟩, .slice none 0 0] 24) = w0 := ⟨_, rfl⟩
  have B0 : Hid (Below w.heap.size w w0) := by rw [← hw0]; exact ((Below.refl _ _).alloc (Nat.le_refl _) _).alloc (by simp) _
  have T0 : Hid (Bx w0 w.heap.size s A L.length cap) := by rw [← hw0]; exact ⟨by simp [go_sem], by simp [go_sem]⟩
  have Z0 : Hid (Rz w0 (w.heap.size + 1)) := by
    rw [← hw0]
    have := heap_alloc_new (w.alloc (.cells #[.string s, .slice A L.length cap] 24)) (.cells #[.string ⟨#[]⟩, .slice none 0 0] 24)
    show Rz _ _
    simpa [Rz] using this
  have S0 : Hid (w.heap.size + 2 ≤ w0.heap.size) := by rw [← hw0]; simp [Hid]
  have P0 := Lib.hid (H.below B0.out)
  have I0 := Lib.hid (HI.below B0.out)
  obtain ⟨n, hn⟩ : ∃ n, L.length = n := ⟨_, rfl⟩
  have HLn := Lib.hid hn
  rw [hn] at hL NB T0 hw0 ⊢
  clear H HI hm hq hn
  go_enter Tryd.func26, Tryd.ntmps26
  go_upto_region 1 with fail
  clear hw0
  obtain ⟨t0, t1⟩ := T0.out
  go_wp2_with fail
  refine (NB.out _ P0.out).mono ?_
  rintro e w1 ⟨v, rfl, hI⟩
  obtain ⟨A', cap', rfl, -, -⟩ := hI.ints
  have B1 := Lib.hid (B0.out.trans (hI.2.mono B0.out.size))
  have T1 := Lib.hid (T0.out.all hI.2)
  have Z1 : Hid (Rz w1 (w.heap.size + 1)) := (hI.2.block _ (by have := S0.out; omega)).trans Z0.out
  have P1 := Lib.hid (P0.out.below hI.2)
  have I1 := Lib.hid (I0.out.below hI.2)
  have S1 : Hid (w.heap.size + 2 ≤ w1.heap.size) := Nat.le_trans S0.out hI.2.size
  clear hI t0 t1 P0 I0 T0 Z0 S0 B0 NB
  rw [HQ.out]
  by_cases hmq : m = q
  · clear OKL
    subst hmq
    obtain ⟨t0, t1⟩ := T1.out
    have hri0 : Hid (Ri (w1.alloc (.cells #[.string s, .slice none 0 0] 24)) w1.heap.size s (.slice none 0 0)) := heap_alloc_new w1 _
    have hO0 : Hid (OwnT (w1.alloc (.cells #[.string s, .slice none 0 0] 24)) (w1.heap.size + 1) (.slice none 0 0) ((withL L ns).take 0)) := World.ownsRow_nil _ _ _ _
    have hB0 : Hid (Below w1.heap.size w1 (w1.alloc (.cells #[.string s, .slice none 0 0] 24))) := (Below.refl _ _).alloc (Nat.le_refl _) _
    have hS0 : Hid (w1.heap.size + 1 ≤ (w1.alloc (.cells #[.string s, .slice none 0 0] 24)).heap.size) := by simp [Hid]
    go_wp2
    clear t0 t1
    go_loopw [7, 8] (fun a i wr => ∃ (j : Nat) (A4 : Option Addr) (cap4 : Nat), j ≤ n ∧ i = .int .i64 j ∧ a = .int .i64 (cntK L j : Nat) ∧ (j : Nat) = j ∧ Hid (Ri wr w1.heap.size s (.slice A4 j cap4)) ∧ Hid (OwnT wr (w1.heap.size + 1) (.slice A4 j cap4) ((withL L ns).take j)) ∧ Hid (Below w1.heap.size w1 wr) ∧ Hid (w1.heap.size + 1 ≤ wr.heap.size)) (fun _ i _ => n - (intOf i).toNat)
    case atStart => exact ⟨0, none, 0, Nat.zero_le _, rfl, rfl, rfl, hri0.out, hO0.out, hB0.out, hS0.out⟩
    case round =>
      clear hri0 hO0 hB0 hS0
      obtain ⟨j, A4, cap4, hj, rfl, rfl, -, hri, hO, hB, hS⟩ := hrel
      have T := Lib.hid (T1.out.all hB.out)
      obtain ⟨t0, t1⟩ := T.out
      by_cases hlt : j < n
      · have hjL : j < L.length := by have := HLn.out; omega
        obtain ⟨b1, o1, hA1, -, p0, p1, p2⟩ := (P1.out.below hB.out).at_ hjL
        subst hA1
        have HV : Hid (nbT L[j] = nbB L[j].1) := rfl
        have CY := fun h => Lib.hid (cnt_yes L j hjL h)
        have CN := fun h => Lib.hid (cnt_no L j hjL h)
        have CT := fun h => Lib.hid (cnt_lt L j hjL h)
        have WY := fun h => Lib.hid (wEl_yes L ns j hjL h)
        have WN := fun h => Lib.hid (wEl_no L ns j hjL h)
        obtain ⟨vb, hvb⟩ : ∃ vb, nbT L[j] = vb := ⟨_, rfl⟩
        rw [hvb] at HV CY CN CT WY WN
        obtain ⟨⟨y0, y1, y2⟩, hy⟩ : ∃ y, L[j] = y := ⟨_, rfl⟩
        rw [hy] at p0 p1 p2 HV WY WN
        simp only at p0 p1 p2 HV WY
        have VV := Lib.hid (rnumber_any y0 y1 y2)
        rw [← HV.out] at VV
        have hal : Below wr.heap.size wr (wr.alloc (.cells #[.int .i64 y0, .int .i64 y1, .int .i64 y2] 36)) := (Below.refl _ _).alloc (Nat.le_refl _) _
        have HAL := Lib.hid hal
        have bx : (wr.alloc (.cells #[.int .i64 y0, .int .i64 y1, .int .i64 y2] 36)).heap[wr.heap.size]? = some (.cells #[.int .i64 y0, .int .i64 y1, .int .i64 y2] 36 (0, 0)) := heap_alloc_new wr _
        have BXH := Lib.hid bx
        have hlt3 : ((withL L ns).take j).length = j := by rw [List.length_take, withL_len]; have := HLn.out; omega
        have hlt4 : ((withL L ns).take (j + 1)).length = j + 1 := by rw [List.length_take, withL_len]; have := HLn.out; omega
        clear hy hvb HV hal bx
        have HJL := Lib.hid hjL
        have H3 := Lib.hid hlt3
        have H4 := Lib.hid hlt4
        clear hjL hlt3 hlt4
        go_wp2_with fail
        refine (VV.out _).mono ?_
        rintro e w2 ⟨rfl, hb⟩
        have K2 := Lib.hid (HAL.out.trans (hb.mono HAL.out.size))
        have bx2 : Hid (w2.heap[wr.heap.size]? = some (.cells #[.int .i64 y0, .int .i64 y1, .int .i64 y2] 36 (0, 0))) := (hb.block _ (by simp)).trans BXH.out
        have hri2 : Hid (Ri w2 w1.heap.size s (.slice A4 j cap4)) := (K2.out.block _ (Array.getElem?_eq_some_iff.1 hri.out).1).trans hri.out
        have hO2 := Lib.hid (hO.out.below K2.out)
        have hB2 := Lib.hid (hB.out.trans (K2.out.mono hB.out.size))
        have hS2 : Hid (w1.heap.size + 1 ≤ w2.heap.size) := Nat.le_trans hS.out K2.out.size
        have q0 : w2.cell? ⟨wr.heap.size, 0, none⟩ = some (.int .i64 y0) := by rw [Lib.cell_of_heap bx2.out]; rfl
        have q1 : w2.cell? ⟨wr.heap.size, 1, none⟩ = some (.int .i64 y1) := by rw [Lib.cell_of_heap bx2.out]; rfl
        have q2 : w2.cell? ⟨wr.heap.size, 2, none⟩ = some (.int .i64 y2) := by rw [Lib.cell_of_heap bx2.out]; rfl
        have HLB : Hid (∀ g, (Value.slice A4 j cap4).ownBlock = some g → g ≠ wr.heap.size) := fun g hg => by have := (World.ownsRow.lt hO.out g hg).2; omega
        have hne : wr.heap.size ≠ w1.heap.size := by have := hS.out; omega
        clear hb HAL VV p0 p1 p2 K2 hri hO hB t0 t1 T BXH
        cases vb with
        | false =>
          have hjL := HJL.out
          have hlt3 := H3.out
          have hlt4 := H4.out
          have hwe := (WN rfl).out
          have CNT : Value.int IntKind.i64 (cntK L j : Nat) = .int .i64 (cntK L (j + 1) : Nat) := by rw [(CN rfl).out]
          clear CY CN CT WY WN
          have hri3 := hri2
          have hO3 := hO2
          have hB3 := hB2
          have HBS3 := hS2
          have W3 := Lib.hid (take_with L ns j hjL)
          rw [hwe] at W3
          obtain ⟨-, r1⟩ := hri3.out.cells
          have BK : Hid (∀ w4, Below (w1.heap.size + 1) w2 w4 → Ri w4 w1.heap.size s (.slice A4 j cap4) ∧ Below w1.heap.size w1 w4 ∧ w1.heap.size + 1 ≤ w4.heap.size) := fun w4 hB4 => ⟨(hB4.block _ (by simp)).trans hri3.out, hB3.out.trans (hB4.mono (by simp)), Nat.le_trans HBS3.out hB4.size⟩
          go_wp2_with (at_builtin; refine wpList_appT hO3.out HBS3.out rfl _ _ rfl rfl w2.heap.size (by simp) rfl (y0, y1, y2) j hlt3 (by omega) ?_; intro A4' cap4' w4 hO4 hB4; obtain ⟨hri4, hB5, hS5⟩ := BK.out w4 hB4; rw [← W3.out] at hO4; obtain ⟨r2, r3⟩ := hri4.cells; have r4 : w4.frozen? ⟨w1.heap.size, 1, none⟩ = false := Lib.frozen_of_heap hri4 1; have hO4 := Lib.hid hO4; have hri4 := Lib.hid hri4; have hB5 := Lib.hid hB5; have hS5 := Lib.hid hS5; clear hB4 r2)
          have hri5 : Hid (Ri (w4.setCell ⟨w1.heap.size, 1, none⟩ (.slice A4' (j + 1) cap4')) w1.heap.size s (.slice A4' (j + 1) cap4')) := heap_setCell_same w4 w1.heap.size 1 _ _ _ hri4.out
          have hO5 : Hid (OwnT (w4.setCell ⟨w1.heap.size, 1, none⟩ (.slice A4' (j + 1) cap4')) (w1.heap.size + 1) (.slice A4' (j + 1) cap4') ((withL L ns).take (j + 1))) := row_set hO4.out (p := ⟨w1.heap.size, 1, none⟩) (by simp) _
          have hB6 : Hid (Below w1.heap.size w1 (w4.setCell ⟨w1.heap.size, 1, none⟩ (.slice A4' (j + 1) cap4'))) := hB5.out.setCell (p := ⟨w1.heap.size, 1, none⟩) (Nat.le_refl _) _
          have hS6 : Hid (w1.heap.size + 1 ≤ (w4.setCell ⟨w1.heap.size, 1, none⟩ (.slice A4' (j + 1) cap4')).heap.size) := by have h1 := hS5.out; simp [Hid] at h1 ⊢; omega
          go_roundw
          case rel => exact ⟨j + 1, A4', cap4', by omega, by go_num, rfl, trivial, hri5.out, hO5.out, hB6.out, hS6.out⟩
          case measure => simp [intOf]; omega
        | true =>
          have hjL := HJL.out
          have hlt3 := H3.out
          have hlt4 := H4.out
          have hwe := (WY rfl).out
          have hcm := (CT rfl).out
          rw [HQ.out] at hcm
          have CNT : Value.int IntKind.i64 ((cntK L j : Nat) + 1 : Int) = .int .i64 (cntK L (j + 1) : Nat) := by rw [(CY rfl).out]; rfl
          obtain ⟨b4, o4, hA4, hv⟩ := (I1.out.below hB2.out).at_ (show cntK L j < ns.length by rw [HM.out]; exact hcm)
          subst hA4
          have hxe : ns[cntK L j]'(by rw [HM.out]; exact hcm) = ns.getD (cntK L j) 0 := by
            rw [List.getD_eq_getElem?_getD, List.getElem?_eq_getElem (by rw [HM.out]; exact hcm)]
            rfl
          rw [hxe] at hv
          obtain ⟨x, hxx⟩ : ∃ x, ns.getD (cntK L j) 0 = x := ⟨_, rfl⟩
          rw [hxx] at hv hwe
          have fz : w2.frozen? ⟨wr.heap.size, 2, none⟩ = false := Lib.frozen_of_heap bx2.out 2
          have hO3 : Hid (OwnT (w2.setCell ⟨wr.heap.size, 2, none⟩ (.int .i64 x)) (w1.heap.size + 1) (.slice A4 j cap4) ((withL L ns).take j)) := row_set_ne hO2.out (p := ⟨wr.heap.size, 2, none⟩) HLB.out _
          have hB3 : Hid (Below w1.heap.size w1 (w2.setCell ⟨wr.heap.size, 2, none⟩ (.int .i64 x))) := hB2.out.setCell (p := ⟨wr.heap.size, 2, none⟩) (by have := hS.out; simp; omega) _
          have hri3 : Hid (Ri (w2.setCell ⟨wr.heap.size, 2, none⟩ (.int .i64 x)) w1.heap.size s (.slice A4 j cap4)) := (heap_setCell_other w2 ⟨wr.heap.size, 2, none⟩ w1.heap.size _ hne.symm).trans hri2.out
          have HBS3 : Hid (w1.heap.size + 1 ≤ (w2.setCell ⟨wr.heap.size, 2, none⟩ (.int .i64 x)).heap.size) := by have := hS2.out; simp [Hid]; omega
          clear CY CN CT WY WN hxe hxx hri2 hO2 hB2 hS2
          have W3 := Lib.hid (take_with L ns j hjL)
          rw [hwe] at W3
          obtain ⟨-, r1⟩ := hri3.out.cells
          have BK : Hid (∀ w4, Below (w1.heap.size + 1) (w2.setCell ⟨wr.heap.size, 2, none⟩ (.int .i64 x)) w4 → Ri w4 w1.heap.size s (.slice A4 j cap4) ∧ Below w1.heap.size w1 w4 ∧ w1.heap.size + 1 ≤ w4.heap.size) := fun w4 hB4 => ⟨(hB4.block _ (by simp)).trans hri3.out, hB3.out.trans (hB4.mono (by simp)), Nat.le_trans HBS3.out hB4.size⟩
          go_wp2_with (at_builtin; refine wpList_appT hO3.out HBS3.out rfl _ _ rfl rfl w2.heap.size (by simp) rfl (y0, y1, x) j hlt3 (by omega) ?_; intro A4' cap4' w4 hO4 hB4; obtain ⟨hri4, hB5, hS5⟩ := BK.out w4 hB4; rw [← W3.out] at hO4; obtain ⟨r2, r3⟩ := hri4.cells; have r4 : w4.frozen? ⟨w1.heap.size, 1, none⟩ = false := Lib.frozen_of_heap hri4 1; have hO4 := Lib.hid hO4; have hri4 := Lib.hid hri4; have hB5 := Lib.hid hB5; have hS5 := Lib.hid hS5; clear hB4 r2)
          have hri5 : Hid (Ri (w4.setCell ⟨w1.heap.size, 1, none⟩ (.slice A4' (j + 1) cap4')) w1.heap.size s (.slice A4' (j + 1) cap4')) := heap_setCell_same w4 w1.heap.size 1 _ _ _ hri4.out
          have hO5 : Hid (OwnT (w4.setCell ⟨w1.heap.size, 1, none⟩ (.slice A4' (j + 1) cap4')) (w1.heap.size + 1) (.slice A4' (j + 1) cap4') ((withL L ns).take (j + 1))) := row_set hO4.out (p := ⟨w1.heap.size, 1, none⟩) (by simp) _
          have hB6 : Hid (Below w1.heap.size w1 (w4.setCell ⟨w1.heap.size, 1, none⟩ (.slice A4' (j + 1) cap4'))) := hB5.out.setCell (p := ⟨w1.heap.size, 1, none⟩) (Nat.le_refl _) _
          have hS6 : Hid (w1.heap.size + 1 ≤ (w4.setCell ⟨w1.heap.size, 1, none⟩ (.slice A4' (j + 1) cap4')).heap.size) := by have h1 := hS5.out; simp [Hid] at h1 ⊢; omega
          go_roundw
          case rel => exact ⟨j + 1, A4', cap4', by omega, by go_num, rfl, trivial, hri5.out, hO5.out, hB6.out, hS6.out⟩
          case measure => simp [intOf]; omega
      · have hjn : j = n := by omega
        subst hjn
        have hw := hO.out
        have hwl : (withL L ns).length = j := by rw [withL_len]; exact HLn.out
        rw [show (withL L ns).take j = withL L ns from by rw [← hwl]; exact List.take_length] at hw
        obtain ⟨A5, cap5, e5, hP5, -⟩ := OwnT.ops hw
        simp only [Value.slice.injEq] at e5
        obtain ⟨rfl, -, rfl⟩ := e5
        have CK := rcheck_any s A4 cap4 (withL L ns) (by rw [hwl]; exact hL) wr hP5
        rw [hwl] at CK
        have CKH := Lib.hid CK
        have W5 := Lib.hid hw
        have OKY := Lib.hid (ok_yes s L ns (HM.out.trans HQ.out.symm))
        have OKN := Lib.hid (ok_code s L ns (HM.out.trans HQ.out.symm))
        obtain ⟨c, hc⟩ : ∃ c, codeI s (withL L ns) = c := ⟨_, rfl⟩
        rw [hc] at CKH OKY OKN
        obtain ⟨c0, c1⟩ := hri.out.cells
        clear hw hP5 CK hc hO T
        go_wp2_with fail
        refine CKH.out.mono ?_
        rintro e w5 ⟨rfl, h5⟩
        have B5 : Hid (Below w.heap.size w w5) := B1.out.trans ((hB.out.trans (h5.mono hB.out.size)).mono B1.out.size)
        have Z5 : Hid (Rz w5 (w.heap.size + 1)) := ((hB.out.trans (h5.mono hB.out.size)).block _ (by have := S1.out; omega)).trans Z1.out
        have R5 : Hid (Ri w5 w1.heap.size s (.slice A4 j cap4)) := (h5.block _ (Array.getElem?_eq_some_iff.1 hri.out).1).trans hri.out
        have O5 : Hid (OwnT w5 (w1.heap.size + 1) (.slice A4 j cap4) (withL L ns)) := W5.out.below h5
        clear h5 CKH W5 hri hB c0 c1 t0 t1 Z1 B1
        obtain ⟨z0, z1, z2, z3⟩ := Z5.out.cells
        by_cases hc0 : c = 0
        · subst hc0
          have OK := Lib.hid (OKY.out rfl)
          obtain ⟨c0, c1⟩ := R5.out.cells
          have F : Hid (RetW w s L ns (.returned (.tuple #[.agg #[.string s, .slice A4 j cap4], .bool true])) ((w5.setCell ⟨w.heap.size + 1, 0, none⟩ (.string s)).setCell ⟨w.heap.size + 1, 1, none⟩ (.slice A4 j cap4))) :=
            RetW.yes OK.out (row_mono (row_set (row_set O5.out (p := ⟨w.heap.size + 1, 0, none⟩) (by have := S1.out; simp; omega) _) (p := ⟨w.heap.size + 1, 1, none⟩) (by have := S1.out; simp; omega) _) (by have := S1.out; omega)) ((B5.out.setCell (p := ⟨w.heap.size + 1, 0, none⟩) (by simp) _).setCell (p := ⟨w.heap.size + 1, 1, none⟩) (by simp) _)
          have E := Lib.hid (Z5.out.set s (.slice A4 j cap4))
          go_wp2
          obtain ⟨e0, e1⟩ := E.out
          obtain ⟨w6, hw6⟩ : ∃ w6, ((w5.setCell ⟨w.heap.size + 1, 0, none⟩ (.string s)).setCell ⟨w.heap.size + 1, 1, none⟩ (.slice A4 j cap4)) = w6 := ⟨_, rfl⟩
          rw [hw6] at F e0 e1 ⊢
          clear hw6 z0 z1 z2 z3 c0 c1
          refine bodyPost_ret (v := .tuple #[.agg #[.string s, .slice A4 j cap4], .bool true]) ?_ rfl F.out
          simp [results, Tryd.results26, go_sem, e0, e1]
        · have OK := Lib.hid (OKN.out hc0)
          have hc1 : (c == 0) = false := beq_eq_false_iff_ne.2 hc0
          have F : Hid (RetW w s L ns (.returned (.tuple #[.agg #[.string ⟨#[]⟩, .slice none 0 0], .bool false])) ((w5.setCell ⟨w.heap.size + 1, 0, none⟩ (.string ⟨#[]⟩)).setCell ⟨w.heap.size + 1, 1, none⟩ (.slice none 0 0))) :=
            RetW.no OK.out ((B5.out.setCell (p := ⟨w.heap.size + 1, 0, none⟩) (by simp) _).setCell (p := ⟨w.heap.size + 1, 1, none⟩) (by simp) _)
          have E := Lib.hid (Z5.out.set ⟨#[]⟩ (.slice none 0 0))
          go_wp2
          obtain ⟨e0, e1⟩ := E.out
          obtain ⟨w6, hw6⟩ : ∃ w6, ((w5.setCell ⟨w.heap.size + 1, 0, none⟩ (.string ⟨#[]⟩)).setCell ⟨w.heap.size + 1, 1, none⟩ (.slice none 0 0)) = w6 := ⟨_, rfl⟩
          rw [hw6] at F e0 e1 ⊢
          clear hw6 z0 z1 z2 z3
          refine bodyPost_ret (v := .tuple #[.agg #[.string ⟨#[]⟩, .slice none 0 0], .bool false]) ?_ rfl F.out
          simp [results, Tryd.results26, go_sem, e0, e1]
  · have OK := Lib.hid (OKL.out hmq)
    have hmq2 : ((q : Int) == (m : Int)) = false := beq_eq_false_iff_ne.2 (by omega)
    have hmq3 : ¬ ((q : Int) = (m : Int)) := by omega
    obtain ⟨z0, z1, z2, z3⟩ := Z1.out.cells
    have F : Hid (RetW w s L ns (.returned (.tuple #[.agg #[.string ⟨#[]⟩, .slice none 0 0], .bool false])) ((w1.setCell ⟨w.heap.size + 1, 0, none⟩ (.string ⟨#[]⟩)).setCell ⟨w.heap.size + 1, 1, none⟩ (.slice none 0 0))) :=
      RetW.no OK.out ((B1.out.setCell (p := ⟨w.heap.size + 1, 0, none⟩) (by simp) _).setCell (p := ⟨w.heap.size + 1, 1, none⟩) (by simp) _)
    have E := Lib.hid (Z1.out.set ⟨#[]⟩ (.slice none 0 0))
    go_wp2
    obtain ⟨e0, e1⟩ := E.out
    obtain ⟨w3, hw3⟩ : ∃ w3, ((w1.setCell ⟨w.heap.size + 1, 0, none⟩ (.string ⟨#[]⟩)).setCell ⟨w.heap.size + 1, 1, none⟩ (.slice none 0 0)) = w3 := ⟨_, rfl⟩
    rw [hw3] at F e0 e1 ⊢
    clear hw3 z0 z1 z2 z3
    refine bodyPost_ret (v := .tuple #[.agg #[.string ⟨#[]⟩, .slice none 0 0], .bool false]) ?_ rfl F.out
    simp [results, Tryd.results26, go_sem, e0, e1]
theorem mrk_same (k r n m : Int) (h : nbB k = true) : mrkS k r n = mrkS k r m := by
  unfold nbB at h
  simp only [Bool.or_eq_true, decide_eq_true_eq] at h
  unfold mrkS
  rcases h with ((rfl | rfl) | rfl) | rfl <;> rfl
theorem mrk_with (L : List Tr) (ns : List Int) (k : Nat) (h : k < L.length) : mrkT ((withL L ns).getD k (0, 0, 0)) = mrkT (L.getD k (0, 0, 0)) := by
  have h' : k < (withL L ns).length := by rw [withL_len]; exact h
  rw [List.getD_eq_getElem?_getD, List.getD_eq_getElem?_getD, List.getElem?_eq_getElem h, List.getElem?_eq_getElem h']
  show mrkT (withL L ns)[k] = mrkT L[k]
  rw [withL_at]
  cases hb : nbT L[k]
  · rw [wEl_no L ns k h hb]
  · rw [wEl_yes L ns k h hb]
    exact mrk_same _ _ _ _ hb
theorem shpK_with (s : ByteArray) (L : List Tr) (ns : List Int) : ∀ k, k ≤ L.length → shpK s (withL L ns) k = shpK s L k
  | 0, _ => rfl
  | k + 1, h => by
    show shpK s (withL L ns) k ++ (sepB k ++ mrkT _) = shpK s L k ++ (sepB k ++ mrkT _)
    rw [shpK_with s L ns k (by omega), mrk_with L ns k (by omega)]
/-- Other numbers leave the shape. -/
theorem shp_with (s : ByteArray) (L : List Tr) (ns : List Int) (h : codeI s L = 0) (h' : okW s L ns = true) : shpS s (withL L ns) = shpS s L := by
  have hc : codeI s (withL L ns) = 0 := by
    unfold okW at h'
    rw [Bool.and_eq_true, decide_eq_true_eq, decide_eq_true_eq] at h'
    exact h'.2
  rw [← shp_yes s L h, ← shp_yes s _ hc, withL_len, shpK_with s L ns L.length (Nat.le_refl _)]
end Go.Proofs.YthpaamekpfhkjaaDoor
