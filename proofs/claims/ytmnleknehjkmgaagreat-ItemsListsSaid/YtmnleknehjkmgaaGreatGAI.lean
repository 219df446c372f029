/-
  TbQ, TbR, TbS, TbT, TbU, TbZ.
-/
import Derived.Test.YtmnleknehjkmgaaGreatGAH
import Derived.Laws.BytesArg
set_option linter.all false
set_option maxRecDepth 100000
set_option maxHeartbeats 4000000
namespace Go.Proofs.YtmnleknehjkmgaaGreat
open Go.RowKit Go.Shelf
attribute [local irreducible] Go.Mixed.wpMix
theorem wpList_appG {wr : World} {base : Nat} {v : Value} {xs : List Tr} (R : OwnT wr base v xs) (hbase : base ≤ wr.heap.size) {ops : Array Oper} {rest : List Oper} {o : Oper} {a : Act} {Q : Exit → Act → World → Prop} (hgd : o.guard = none) (s x : Operand)
    (ho : o.op = .call { callee := .builtin .append, args := #[s, x], argTypes := #[30, 30] }) (hs : a.eval s = v) (nb : Nat) (hnb : nb = wr.heap.size) (hx : a.eval x = .slice (some ⟨nb, 0, none⟩) 1 1)
    (y : Tr) (k : Nat) (hk : xs.length = k) (hlen : k < 10000)
    (h : ∀ A' cap' w1, OwnT w1 base (.slice A' (k + 1) cap') (xs ++ [y]) → (wr.alloc (.cells #[.int .i64 y.1, .int .i64 y.2.1, .int .i64 y.2.2] 67)).grownBy w1 v.ownBlock → Below base wr w1 → wpList Tryz.prog ops Q rest (a.put o.dst (.slice A' (k + 1) cap')) w1) : wpList Tryz.prog ops Q (o :: rest) a (wr.alloc (.cells #[.int .i64 y.1, .int .i64 y.2.1, .int .i64 y.2.2] 67)) := by
  subst hnb
  obtain ⟨i0, hi, hz0, hz1, hz2⟩ := info_parts info_opd
  have hb : Below base wr (wr.alloc (.cells #[.int .i64 y.1, .int .i64 y.2.1, .int .i64 y.2.2] 67)) := (Below.refl base wr).alloc hbase _
  have hown := World.ownsRow.alloc R (.cells #[.int .i64 y.1, .int .i64 y.2.1, .int .i64 y.2.2] 67)
  refine wpList_append_own _ hgd s x 30 ho base 67 i0 (.agg #[.int .i64 0, .int .i64 0, .int .i64 0]) 3 24 Tryz.underlying30 hi hz0 hz1 hz2 rfl (by decide) v xs.length _ hs hown ⟨wr.heap.size, 0, none⟩ 1 1 [.int .i64 y.1, .int .i64 y.2.1, .int .i64 y.2.2] hx rfl ?_ ?_ ?_ ?_ ?_ ?_
  · intro j u hj
    match j, hj with
    | 0, hj => simp at hj; subst hj; simp [Addr.add, go_sem]
    | 1, hj => simp at hj; subst hj; simp [Addr.add, go_sem]
    | 2, hj => simp at hj; subst hj; simp [Addr.add, go_sem]
  · intro u hu
    simp at hu
    rcases hu with rfl | rfl | rfl <;> rfl
  · unfold maxLen; omega
  · omega
  · simp; omega
  · intro v' w1 hown' hgrow _
    have hO : OwnT w1 base v' (xs ++ [y]) := by
      unfold OwnT
      rw [List.length_append, cellsT_append]
      exact hown'
    obtain ⟨A', cap', rfl, -, -⟩ := hO.ops
    rw [List.length_append, hk] at hO ⊢
    exact h A' cap' w1 hO hgrow (hb.grown hgrow (by simp; omega) fun k hk => (hown.lt k hk).1)
def op6 (op : Int) : Int := bits .or .u8 (bits .andNot .u8 op 7) 6
def shiftT (p : Pat) (page op ix : Int) : En :=
  let x := plainT p page (op6 op)
  let L := if memB x.1 x.2.1 then repM ix x.2.1 else x.2.1
  let ex := if memB x.1 x.2.1 then 100 :: x.2.2.1 else x.2.2.1
  if numP p.1 op 115 = 6 then (x.1, L, ex, x.2.2.2) else if x.1 = [66, 73, 84] then (x.1, L, ex, true) else (x.1, L ++ [(1, numP p.1 op 115, 0)], ex, x.2.2.2)
theorem app_kept {w8 w9 : World} {b n B : Nat} {page op ix : Int} {m ex : Str} {v : Value} {al : Bool} {L : List Tr} {o : Obj} (X : IxAt w8 b page op m v ex al ix) (R : EnAt w8 n 0 0 [] (.slice none 0 0) [] false) (O : OwnT w8 B v L)
    (hg : (w8.alloc o).grownBy w9 v.ownBlock) : IxAt w9 b page op m v ex al ix ∧ EnAt w9 n 0 0 [] (.slice none 0 0) [] false := by
  have hal : Below w8.heap.size w8 (w8.alloc o) := (Below.refl _ _).alloc (Nat.le_refl _) _
  constructor
  · refine (hg.block b (by have := X.lt; simp; omega) ?_).trans (X.all hal)
    intro e
    obtain ⟨cur, hc⟩ := own_types O e.symm
    exact X.apart hc rfl
  · refine (hg.block n (by have := R.lt; simp; omega) ?_).trans (R.all hal)
    intro e
    obtain ⟨cur, hc⟩ := own_types O e.symm
    have h := R
    unfold EnAt at h
    rw [hc] at h
    simp at h
theorem shift_start (w : World) (p : Pat) (op : Int) : ∃ w0, (w.alloc (.cells #[.string (sB p.1), .string (sB p.2), .int .u8 op] 131)).alloc (.cells #[.int .i64 0, .int .u8 0, .string ⟨#[]⟩, .slice none 0 0, .string ⟨#[]⟩, .bool false] 122) = w0 ∧
    w0.heap[w.heap.size]? = some (.cells #[.string (sB p.1), .string (sB p.2), .int .u8 op] 131 (0, 0)) ∧ EnAt w0 (w.heap.size + 1) 0 0 [] (.slice none 0 0) [] false ∧ Below w.heap.size w w0 ∧ w0.heap.size = w.heap.size + 2 := by
  refine ⟨_, rfl, (Below.heap_alloc _ _ _ (by simp)).trans (World.alloc_heap_new w _), ?_, ((Below.refl _ w).alloc (Nat.le_refl _) _).alloc (by simp) _, by simp⟩
  have h := World.alloc_heap_new (w.alloc (.cells #[.string (sB p.1), .string (sB p.2), .int .u8 op] 131)) (.cells #[.int .i64 0, .int .u8 0, .string ⟨#[]⟩, .slice none 0 0, .string ⟨#[]⟩, .bool false] 122)
  rw [World.size_alloc] at h
  exact h
theorem shifted_any (p : Pat) (page op ix : Int) (hp1 : p.1.length = 8) (h0 : 0 ≤ op) (h1 : op ≤ 255) (G : Good p (op6 op)) (hL : (plainT p page (op6 op)).2.1.length ≤ 100) (hX : (plainT p page (op6 op)).2.2.1.length ≤ 1000) (w : World) (hM : MaxAt w) :
    Calls Tryz.prog 105 #[codeV p op, .int .i64 page, .int .i64 ix] w (RetEn w page op (shiftT p page op ix)) := by
  unfold codeV
  obtain ⟨w0, hw0, c0, R0, B0, Z0⟩ := shift_start w p op
  obtain ⟨n, hn⟩ : ∃ n, w.heap.size = n := ⟨_, rfl⟩
  rw [hn] at c0 R0 B0 Z0
  have hgn : 0 < n := by rw [← hn]; exact hM.lt
  have hM0 : MaxAt w0 := hM.belowN (n := n) B0 hgn
  have hnum := number_any p.1 p.2 hp1 op h0 h1 115 w0
  have k0 := Lib.cell_of_heap c0 0
  have k1 := Lib.cell_of_heap c0 1
  have k2 := Lib.cell_of_heap c0 2
  have HN := Lib.hid hn
  have GG := Lib.hid G
  obtain ⟨⟨m, L, ex, al⟩, hx⟩ : ∃ x, plainT p page (op6 op) = x := ⟨_, rfl⟩
  have HX := Lib.hid hx
  rw [hx] at hL hX
  simp only at hL hX
  obtain ⟨r, hr⟩ : ∃ r, numP p.1 op 115 = r := ⟨_, rfl⟩
  rw [hr] at hnum
  have HR := Lib.hid hr
  clear hr hx G hM
  go_enter Tryz.func105, Tryz.ntmps105
  go_wp2_with fail
  refine hnum.mono ?_
  rintro e w1 ⟨rfl, hb1⟩
  have c1 := (hb1.block n (by omega)).trans c0
  have R1 : EnAt w1 (n + 1) 0 0 [] (.slice none 0 0) [] false := R0.below hb1 (by omega)
  have B1 : Below n w w1 := B0.trans (hb1.mono (by omega))
  have Z1 : n + 2 ≤ w1.heap.size := by have := hb1.size; omega
  have M1 : MaxAt w1 := hM0.below hb1
  clear hb1 hnum k0 k1 k2 c0 R0 B0 Z0 hM0 hw0
  have k0 := Lib.cell_of_heap c1 0
  have k1 := Lib.cell_of_heap c1 1
  have k2 := Lib.cell_of_heap c1 2
  have kf := Lib.frozen_of_heap c1
  have c2 : (w1.setCell ⟨n, 2, none⟩ (.int .u8 (op6 op))).heap[n]? = some (.cells #[.string (sB p.1), .string (sB p.2), .int .u8 (op6 op)] 131 (0, 0)) := heap_setCell_same w1 n 2 _ _ _ c1
  have R2 : EnAt (w1.setCell ⟨n, 2, none⟩ (.int .u8 (op6 op))) (n + 1) 0 0 [] (.slice none 0 0) [] false := R1.set_other (by omega) _
  have B2 : Below n w (w1.setCell ⟨n, 2, none⟩ (.int .u8 (op6 op))) := B1.setCell (p := ⟨n, 2, none⟩) (Nat.le_refl _) _
  have Z2 : n + 2 ≤ (w1.setCell ⟨n, 2, none⟩ (.int .u8 (op6 op))).heap.size := by simpa using Z1
  have M2 : MaxAt (w1.setCell ⟨n, 2, none⟩ (.int .u8 (op6 op))) := M1.belowN ((Below.refl n w1).setCell (p := ⟨n, 2, none⟩) (Nat.le_refl _) _) hgn
  have K := Lib.hid (And.intro c2 (And.intro R2 (And.intro B2 (And.intro Z2 M2))))
  clear c1 R1 B1 Z1 M1 c2 R2 B2 Z2 M2
  go_upto_region 4 with fail
  rw [show bits .or .u8 (bits .andNot .u8 op 7) 6 = op6 op from rfl]
  obtain ⟨o6, ho6⟩ : ∃ x, op6 op = x := ⟨_, rfl⟩
  have HO6 := Lib.hid ho6
  rw [ho6] at K GG HX ⊢
  obtain ⟨w2, hw2⟩ : ∃ w2, w1.setCell ⟨n, 2, none⟩ (.int .u8 o6) = w2 := ⟨_, rfl⟩
  rw [hw2] at K ⊢
  clear hw2 k0 k1 k2 kf ho6 w1
  have k0 := Lib.cell_of_heap K.out.1 0
  have k1 := Lib.cell_of_heap K.out.1 1
  have k2 := Lib.cell_of_heap K.out.1 2
  have hpl := tplain_any p page o6 GG.out w2 K.out.2.2.2.2
  rw [HX.out] at hpl
  simp only [codeV] at hpl
  go_wp2_with fail
  refine hpl.mono ?_
  rintro e w3 ⟨v, rfl, O3, hb3⟩
  simp only [enV]
  obtain ⟨A, cap, rfl, -, -⟩ := O3.ops
  obtain ⟨B, hB⟩ : ∃ B, w2.heap.size = B := ⟨_, rfl⟩
  rw [hB] at O3 hb3
  have hnB : n + 2 ≤ B := by rw [← hB]; exact K.out.2.2.2.1
  have R3 := Lib.hid (K.out.2.1.below hb3 (by omega))
  have B3 : Hid (Below n w w3) := K.out.2.2.1.trans (hb3.mono (by omega))
  have z3 : B ≤ w3.heap.size := by have := hb3.size; omega
  obtain ⟨b, hb⟩ : ∃ b, w3.heap.size = b := ⟨_, rfl⟩
  obtain ⟨w4, hw4⟩ : ∃ w4, w3.alloc (.cells #[.int .i64 page, .int .u8 op, .string (sB m), .slice A L.length cap, .string (sB ex), .bool al, .int .i64 ix] 164) = w4 := ⟨_, rfl⟩
  have X4 : IxAt w4 b page op m (.slice A L.length cap) ex al ix := by rw [← hw4, ← hb]; exact World.alloc_heap_new w3 _
  have hal : Below w3.heap.size w3 w4 := by rw [← hw4]; exact (Below.refl _ _).alloc (Nat.le_refl _) _
  have O4 : OwnT w4 B (.slice A L.length cap) L := O3.below hal
  have R4 := Lib.hid (R3.out.all hal)
  have B4 : Hid (Below n w w4) := B3.out.trans (hal.mono (by omega))
  have hm4 := repMem_any b B page op m _ ex al ix L hL hX w4 X4 O4 (by omega)
  have HB := Lib.hid (show B ≤ b by omega)
  have RA : ∀ (u : World), Fr w4 b (.slice A L.length cap) u → EnAt u (n + 1) 0 0 [] (.slice none 0 0) [] false := fun u hu => by
    refine (hu.same (n + 1) R4.out.lt (by have := HB.out; omega) ?_).trans R4.out
    intro hg
    obtain ⟨cur, hg2⟩ := own_types O4 hg
    have h := R4.out
    unfold EnAt at h
    rw [hg2] at h
    simp at h
  have RA := Lib.hid RA
  have HNB := Lib.hid hnB
  clear hpl hb3 O3 R3 B3 z3 hal O4 X4 k0 k1 k2 hB
  go_wp2_with fail
  refine hm4.mono ?_
  rintro e w5 ⟨rfl, X5, O5, hb5, F5⟩
  have R5 := Lib.hid (RA.out w5 F5)
  have B5 : Hid (Below n w w5) := B4.out.trans (hb5.mono (by have := HNB.out; omega))
  clear hw4 hm4 hb5 RA R4 B4 F5
  obtain ⟨L2, hL2⟩ : ∃ x, (if memB m L then repM ix L else L) = x := ⟨_, rfl⟩
  obtain ⟨ex2, hex2⟩ : ∃ x, (if memB m L then 100 :: ex else ex) = x := ⟨_, rfl⟩
  have LL : L2.length = L.length := by rw [← hL2]; split; exact repM_len _ _; rfl
  rw [hL2] at O5
  rw [hex2] at X5
  have SH : Hid (shiftT p page op ix = if r = 6 then (m, L2, ex2, al) else if m = [66, 73, 84] then (m, L2, ex2, true) else (m, L2 ++ [(1, r, 0)], ex2, al)) := by
    show shiftT p page op ix = _
    unfold shiftT
    rw [HO6.out, HX.out]
    simp only
    rw [HR.out, hL2, hex2]
  rw [← LL] at X5 O5
  obtain ⟨k, hk⟩ : ∃ k, L2.length = k := ⟨_, rfl⟩
  have LK : L.length = k := LL.symm.trans hk
  have hk100 : k ≤ 100 := by omega
  rw [hk] at X5 O5
  have HK := Lib.hid hk
  rw [LK]
  have X5 := Lib.hid X5
  have O5 := Lib.hid O5
  clear hL2 hex2 LL hk LK hL hX HX
  obtain ⟨x0, x1, x2, x3, x4, x5, x6, x7⟩ := X5.out.cells
  obtain ⟨r0, r1, r2, r3, r4, r5, r6⟩ := R5.out.cells
  have hbn : b ≠ n + 1 := by have h1 := HB.out; have h2 := HNB.out; omega
  by_cases hr6 : r = 6
  · have T : Hid (shiftT p page op ix = (m, L2, ex2, al)) := by show _ = _; rw [SH.out, if_pos hr6]
    subst hr6
    go_wp2
    obtain ⟨w7, hw7, q, q2, q3, -, q4⟩ := R5.out.put page op m (.slice A k cap) ex2 al
    rw [hw7]
    obtain ⟨q0, q1, q2', q3', q4', q5, -⟩ := q.cells
    refine bodyPost_ret (v := enV page op m (.slice A k cap) ex2 al) ?_ rfl ?_
    · simp [results, Tryz.results105, go_sem, q0, q1, q2', q3', q4', q5, enV]
    · refine ⟨(.slice A k cap), by rw [T.out], ?_, by rw [HN.out]; exact B5.out.trans (q2.mono (by omega))⟩
      rw [T.out, HN.out]
      exact (put_own R5.out O5.out q4).lift (by have h2 := HNB.out; omega)
  · have hr6b : (r == 6) = false := by simpa using hr6
    by_cases hm : m = [66, 73, 84]
    · have T : Hid (shiftT p page op ix = (m, L2, ex2, true)) := by show _ = _; rw [SH.out, if_neg hr6, if_pos hm]
      have ht : ((sB m).toList == [66, 73, 84]) = true := by rw [sB_eq]; exact decide_eq_true hm
      clear hm hr6
      have X6 := Lib.hid (X5.out.set_alias true)
      have R6 : Hid (EnAt (w5.setCell ⟨b, 5, none⟩ (.bool true)) (n + 1) 0 0 [] (.slice none 0 0) [] false) := R5.out.set_other hbn.symm _
      have B6 : Hid (Below n w (w5.setCell ⟨b, 5, none⟩ (.bool true))) := B5.out.setCell (p := ⟨b, 5, none⟩) (by have h1 := HB.out; have h2 := HNB.out; simp; omega) _
      have O6 : Hid (OwnT (w5.setCell ⟨b, 5, none⟩ (.bool true)) B (.slice A k cap) L2) := row_set_ne O5.out (p := ⟨b, 5, none⟩) (fun g hg => by
        obtain ⟨cur, hc⟩ := own_types O5.out hg
        exact X5.out.apart hc) _
      go_wp2
      obtain ⟨w7, hw7, q, q2, q3, -, q4⟩ := R6.out.put page op m (.slice A k cap) ex2 true
      rw [hw7]
      obtain ⟨q0, q1, q2', q3', q4', q5, -⟩ := q.cells
      refine bodyPost_ret (v := enV page op m (.slice A k cap) ex2 true) ?_ rfl ?_
      · simp [results, Tryz.results105, go_sem, q0, q1, q2', q3', q4', q5, enV]
      · refine ⟨(.slice A k cap), by rw [T.out], ?_, by rw [HN.out]; exact B6.out.trans (q2.mono (by omega))⟩
        rw [T.out, HN.out]
        exact (put_own R6.out O6.out q4).lift (by have h2 := HNB.out; omega)
    · have T : Hid (shiftT p page op ix = (m, L2 ++ [(1, r, 0)], ex2, al)) := by show _ = _; rw [SH.out, if_neg hr6, if_neg hm]
      have ht : ((sB m).toList == [66, 73, 84]) = false := by rw [sB_eq]; exact decide_eq_false hm
      clear hm hr6
      go_upto_region 7 with fail
      obtain ⟨w6, hw6⟩ : ∃ w6, w5.drew = w6 := ⟨_, rfl⟩
      have X6 : Hid (IxAt w6 b page op m (.slice A k cap) ex2 al ix) := by rw [← hw6]; exact X5.out
      have O6 : Hid (OwnT w6 B (.slice A k cap) L2) := by rw [← hw6]; exact O5.out.below (below_drewN w5 _ 1)
      have R6 : Hid (EnAt w6 (n + 1) 0 0 [] (.slice none 0 0) [] false) := by rw [← hw6]; exact R5.out
      have B6 : Hid (Below n w w6) := by rw [← hw6]; exact B5.out.drew
      have C6 : Hid (w6.cell? ⟨b, 3, none⟩ = some (.slice A k cap)) := X6.out.cells.2.2.2.1
      refine Mixed.wp_region_mixed (fun w' => w'.cell? ⟨b, 3, none⟩ = some (.slice A k cap)) 7 [(0, true), (1, true), (2, true), (3, true), (4, true), (5, false), (6, false)] (by kernel_rfl) (by kernel_rfl) (by rw [hw6]; exact C6.out) ?_
      rw [hw6]
      clear X5 O5 R5 B5 C6 hw6 x0 x1 x2 x3 x4 x5 x6 x7 r0 r1 r2 r3 r4 r5 r6
      refine Mixed.wpMix_pure rfl (by kernel_rfl) (.pointer (some ⟨b, 0, none⟩)) (fun w h => by go_simp; try rfl) ?_
      refine Mixed.wpMix_pure rfl (by kernel_rfl) (.pointer (some ⟨b, 2, none⟩)) (fun w h => by go_simp; try rfl) ?_
      refine Mixed.wpMix_pure rfl (by kernel_rfl) (.pointer (some ⟨b, 3, none⟩)) (fun w h => by go_simp; try rfl) ?_
      refine Mixed.wpMix_pure rfl (by kernel_rfl) (.slice A k cap) (fun w h => by go_simp; try rfl) ?_
      refine Mixed.wpMix_pure rfl (by kernel_rfl) (.int .i64 r) (fun w h => by go_simp; try rfl) ?_
      refine Mixed.wpMix_loudG rfl (by kernel_rfl) ?_
      go_wp2_with fail
      refine (register_any r w6).mono ?_
      rintro e w8 ⟨rfl, hb8⟩
      have X8 := Lib.hid (X6.out.all hb8)
      have O8 := Lib.hid (O6.out.below hb8)
      have R8 := Lib.hid (R6.out.all hb8)
      have B8 : Hid (Below n w w8) := B6.out.trans (hb8.mono (by have := R6.out.lt; omega))
      have xx := X8.out.cells.2.2.2.1
      clear hb8 X6 O6 R6 B6
      go_wp2
      refine ⟨xx, ?_⟩
      clear xx
      simp only [trV]
      have hbw : b < w8.heap.size := X8.out.lt
      have xa : ∀ o, (w8.alloc o).cell? ⟨b, 3, none⟩ = some (.slice A k cap) := fun o => (((Below.refl w8.heap.size w8).alloc (Nat.le_refl _) o).cell hbw).trans X8.out.cells.2.2.2.1
      refine Mixed.wpMix_loudG rfl (by kernel_rfl) ?_
      go_wp2
      refine ⟨xa _, ?_⟩
      simp only [Mixed.wpMix, List.drop_succ_cons, List.drop_zero]
      have hBw : B ≤ w8.heap.size := by have h1 := HB.out; omega
      have XO := Lib.hid (fun (w9 : World) (hg9 : (w8.alloc (.cells #[.int .i64 1, .int .i64 r, .int .i64 0] 67)).grownBy w9 (Value.slice A k cap).ownBlock) => app_kept X8.out R8.out O8.out hg9)
      go_wp2_with (at_builtin; refine wpList_appG O8.out hBw rfl _ _ rfl rfl w8.heap.size rfl rfl (1, r, 0) k HK.out (by omega) ?_; intro A' cap' w9 hO9 hg9 hB9; obtain ⟨hx9, hr9⟩ := XO.out w9 hg9; have X9 := Lib.hid hx9; have R9 := Lib.hid hr9; have O9 := Lib.hid hO9; have B9 : Hid (Below n w w9) := B8.out.trans (hB9.mono (by have h2 := HNB.out; omega)); obtain ⟨x0, x1, x2, x3, x4, x5, x6, x7⟩ := hx9.cells; obtain ⟨r0, r1, r2, r3, r4, r5, r6⟩ := hr9.cells; clear hO9 hg9 hB9 hx9 hr9)
      have X10 := Lib.hid (X9.out.set_args (.slice A' (k + 1) cap'))
      have R10 : Hid (EnAt (w9.setCell ⟨b, 3, none⟩ (.slice A' (k + 1) cap')) (n + 1) 0 0 [] (.slice none 0 0) [] false) := R9.out.set_other hbn.symm _
      have B10 : Hid (Below n w (w9.setCell ⟨b, 3, none⟩ (.slice A' (k + 1) cap'))) := B9.out.setCell (p := ⟨b, 3, none⟩) (by have h1 := HB.out; have h2 := HNB.out; simp; omega) _
      have O10 : Hid (OwnT (w9.setCell ⟨b, 3, none⟩ (.slice A' (k + 1) cap')) B (.slice A' (k + 1) cap') (L2 ++ [(1, r, 0)])) := row_set_ne O9.out (p := ⟨b, 3, none⟩) (fun g hg => by
        obtain ⟨cur, hc⟩ := own_types O9.out hg
        exact X9.out.apart hc) _
      obtain ⟨w7, hw7, q, q2, q3, -, q4⟩ := R10.out.put page op m (.slice A' (k + 1) cap') ex2 al
      rw [hw7]
      obtain ⟨q0, q1, q2', q3', q4', q5, -⟩ := q.cells
      refine bodyPost_ret (v := enV page op m (.slice A' (k + 1) cap') ex2 al) ?_ rfl ?_
      · simp [results, Tryz.results105, go_sem, q0, q1, q2', q3', q4', q5, enV]
      · refine ⟨(.slice A' (k + 1) cap'), by rw [T.out], ?_, by rw [HN.out]; exact B10.out.trans (q2.mono (by omega))⟩
        rw [T.out, HN.out]
        exact (put_own R10.out O10.out q4).lift (by have h2 := HNB.out; omega)
end Go.Proofs.YtmnleknehjkmgaaGreat
namespace Go.Proofs.YtmnleknehjkmgaaGreat
open Go.RowKit Go.Shelf
def entryT (p : Pat) (page op : Int) : Option En :=
  if page = 3 then (withP (plainT p page op).1 5 (plainT p page op).2.1 (plainT p page op).2.2.1).map fun y => ((plainT p page op).1, y.1, y.2, (plainT p page op).2.2.2) else
  if page = 4 then (withP (plainT p page op).1 6 (plainT p page op).2.1 (plainT p page op).2.2.1).map fun y => ((plainT p page op).1, y.1, y.2, (plainT p page op).2.2.2) else
  if page = 5 then some (shiftT p page op 5) else if page = 6 then some (shiftT p page op 6) else some (plainT p page op)
def RetEntry (w : World) (page op : Int) (x : Option En) (e : Ending) (w' : World) : Prop :=
  (match x with
    | some x => ∃ v, e = .returned (.tuple #[enV page op x.1 v x.2.2.1 x.2.2.2, .bool true]) ∧ OwnT w' w.heap.size v x.2.1
    | none => e = .returned (.tuple #[enV 0 0 [] (.slice none 0 0) [] false, .bool false])) ∧ Below w.heap.size w w'
structure Good2 (p : Pat) (op : Int) : Prop where
  good : Good p op
  args : (wordsOf p op).length ≤ 100
  extra : (extraT p op (wordsOf p op)).length ≤ 1000
theorem Good2.args_len {p : Pat} {op : Int} (h : Good2 p op) (page : Int) : (plainT p page op).2.1.length ≤ 100 := by
  show (argsT p op (wordsOf p op)).length ≤ 100
  unfold argsT
  rw [List.length_map]
  exact h.args
theorem entry_3 (p : Pat) (op : Int) (G : Good2 p op) (G6 : Good2 p (op6 op)) (w : World) (hM : MaxAt w) : Calls Tryz.prog 91 #[codeV p op, .int .i64 3] w (RetEntry w 3 op ((withP (plainT p 3 op).1 5 (plainT p 3 op).2.1 (plainT p 3 op).2.2.1).map fun y => ((plainT p 3 op).1, y.1, y.2, (plainT p 3 op).2.2.2))) := by
  unfold codeV
  obtain ⟨w0, hw0, c0, R0, B0, Z0⟩ := shift_start w p op
  obtain ⟨n, hn⟩ : ∃ n, w.heap.size = n := ⟨_, rfl⟩
  rw [hn] at c0 R0 B0 Z0
  have hgn : 0 < n := by rw [← hn]; exact hM.lt
  have hM0 : MaxAt w0 := hM.belowN (n := n) B0 hgn
  have k0 := Lib.cell_of_heap c0 0
  have k1 := Lib.cell_of_heap c0 1
  have k2 := Lib.cell_of_heap c0 2
  have HN := Lib.hid hn
  have R0 := Lib.hid R0
  have B0 := Lib.hid B0
  have hpl := tplain_any p 3 op G.good w0 hM0
  have hL := G.args_len 3
  have hX : (plainT p 3 op).2.2.1.length ≤ 1000 := G.extra
  obtain ⟨⟨m, L, ex, al⟩, hx⟩ : ∃ x, plainT p 3 op = x := ⟨_, rfl⟩
  have HX := Lib.hid hx
  rw [hx] at hL hX hpl
  simp only [codeV] at hL hX hpl
  clear hx G G6 hM hM0 c0
  have T : Hid (((withP (plainT p 3 op).1 5 (plainT p 3 op).2.1 (plainT p 3 op).2.2.1).map fun y => ((plainT p 3 op).1, y.1, y.2, (plainT p 3 op).2.2.2)) = (withP m 5 L ex).map fun y => (m, y.1, y.2, al)) := by show ((withP (plainT p 3 op).1 5 (plainT p 3 op).2.1 (plainT p 3 op).2.2.1).map fun y => ((plainT p 3 op).1, y.1, y.2, (plainT p 3 op).2.2.2)) = _; rw [HX.out]
  go_enter Tryz.func91, Tryz.ntmps91
  go_wp2_with fail
  refine hpl.mono ?_
  rintro e w1 ⟨v, rfl, O1, hb1⟩
  simp only [enV] at O1 ⊢
  obtain ⟨A, cap, rfl, -, -⟩ := O1.ops
  have hwr := with_any w0.heap.size 3 op m _ ex al 5 (by decide) L hL hX w1 O1 hb1.size
  have R1 := Lib.hid (R0.out.all hb1)
  have B1 : Hid (Below n w w1) := B0.out.trans (hb1.mono (by omega))
  simp only [enV] at hwr
  clear hpl hb1 R0 B0 hw0 k0 k1 k2
  obtain ⟨o, ho⟩ : ∃ o, withP m 5 L ex = o := ⟨_, rfl⟩
  rw [ho] at hwr T
  go_wp2_with fail
  refine hwr.mono ?_
  rintro e w2 ⟨hres, hb2⟩
  have R2 := Lib.hid (R1.out.below hb2 (by omega))
  have B2 : Hid (Below n w w2) := B1.out.trans (hb2.mono (by omega))
  clear hwr ho R1 B1 hb2
  obtain ⟨r0, r1, r2, r3, r4, r5, r6⟩ := R2.out.cells
  cases o with
  | none =>
    subst hres
    simp only [enV]
    go_wp2
    obtain ⟨w7, hw7, q, q2, q3, -, q4⟩ := R2.out.put 0 0 [] (.slice none 0 0) [] false
    rw [hw7]
    obtain ⟨q0, q1, q2', q3', q4', q5, -⟩ := q.cells
    refine bodyPost_ret (v := .tuple #[enV 0 0 [] (.slice none 0 0) [] false, .bool false]) ?_ rfl ?_
    · simp [results, Tryz.results91, go_sem, q0, q1, q2', q3', q4', q5, enV]
    · rw [T.out]
      exact ⟨rfl, by rw [HN.out]; exact B2.out.trans (q2.mono (by omega))⟩
  | some y =>
    obtain ⟨L3, ex3⟩ := y
    obtain ⟨rfl, O2⟩ := hres
    have O2 := Lib.hid O2
    simp only [enV]
    go_wp2
    obtain ⟨w7, hw7, q, q2, q3, -, q4⟩ := R2.out.put 3 op m (.slice A L.length cap) ex3 al
    rw [hw7]
    obtain ⟨q0, q1, q2', q3', q4', q5, -⟩ := q.cells
    refine bodyPost_ret (v := .tuple #[enV 3 op m (.slice A L.length cap) ex3 al, .bool true]) ?_ rfl ?_
    · simp [results, Tryz.results91, go_sem, q0, q1, q2', q3', q4', q5, enV]
    · rw [T.out]
      refine ⟨⟨(.slice A L.length cap), rfl, ?_⟩, by rw [HN.out]; exact B2.out.trans (q2.mono (by omega))⟩
      rw [HN.out]
      exact (put_own R2.out O2.out q4).lift (by omega)
theorem entry_4 (p : Pat) (op : Int) (G : Good2 p op) (G6 : Good2 p (op6 op)) (w : World) (hM : MaxAt w) : Calls Tryz.prog 91 #[codeV p op, .int .i64 4] w (RetEntry w 4 op ((withP (plainT p 4 op).1 6 (plainT p 4 op).2.1 (plainT p 4 op).2.2.1).map fun y => ((plainT p 4 op).1, y.1, y.2, (plainT p 4 op).2.2.2))) := by
  unfold codeV
  obtain ⟨w0, hw0, c0, R0, B0, Z0⟩ := shift_start w p op
  obtain ⟨n, hn⟩ : ∃ n, w.heap.size = n := ⟨_, rfl⟩
  rw [hn] at c0 R0 B0 Z0
  have hgn : 0 < n := by rw [← hn]; exact hM.lt
  have hM0 : MaxAt w0 := hM.belowN (n := n) B0 hgn
  have k0 := Lib.cell_of_heap c0 0
  have k1 := Lib.cell_of_heap c0 1
  have k2 := Lib.cell_of_heap c0 2
  have HN := Lib.hid hn
  have R0 := Lib.hid R0
  have B0 := Lib.hid B0
  have hpl := tplain_any p 4 op G.good w0 hM0
  have hL := G.args_len 4
  have hX : (plainT p 4 op).2.2.1.length ≤ 1000 := G.extra
  obtain ⟨⟨m, L, ex, al⟩, hx⟩ : ∃ x, plainT p 4 op = x := ⟨_, rfl⟩
  have HX := Lib.hid hx
  rw [hx] at hL hX hpl
  simp only [codeV] at hL hX hpl
  clear hx G G6 hM hM0 c0
  have T : Hid (((withP (plainT p 4 op).1 6 (plainT p 4 op).2.1 (plainT p 4 op).2.2.1).map fun y => ((plainT p 4 op).1, y.1, y.2, (plainT p 4 op).2.2.2)) = (withP m 6 L ex).map fun y => (m, y.1, y.2, al)) := by show ((withP (plainT p 4 op).1 6 (plainT p 4 op).2.1 (plainT p 4 op).2.2.1).map fun y => ((plainT p 4 op).1, y.1, y.2, (plainT p 4 op).2.2.2)) = _; rw [HX.out]
  go_enter Tryz.func91, Tryz.ntmps91
  go_wp2_with fail
  refine hpl.mono ?_
  rintro e w1 ⟨v, rfl, O1, hb1⟩
  simp only [enV] at O1 ⊢
  obtain ⟨A, cap, rfl, -, -⟩ := O1.ops
  have hwr := with_any w0.heap.size 4 op m _ ex al 6 (by decide) L hL hX w1 O1 hb1.size
  have R1 := Lib.hid (R0.out.all hb1)
  have B1 : Hid (Below n w w1) := B0.out.trans (hb1.mono (by omega))
  simp only [enV] at hwr
  clear hpl hb1 R0 B0 hw0 k0 k1 k2
  obtain ⟨o, ho⟩ : ∃ o, withP m 6 L ex = o := ⟨_, rfl⟩
  rw [ho] at hwr T
  go_wp2_with fail
  refine hwr.mono ?_
  rintro e w2 ⟨hres, hb2⟩
  have R2 := Lib.hid (R1.out.below hb2 (by omega))
  have B2 : Hid (Below n w w2) := B1.out.trans (hb2.mono (by omega))
  clear hwr ho R1 B1 hb2
  obtain ⟨r0, r1, r2, r3, r4, r5, r6⟩ := R2.out.cells
  cases o with
  | none =>
    subst hres
    simp only [enV]
    go_wp2
    obtain ⟨w7, hw7, q, q2, q3, -, q4⟩ := R2.out.put 0 0 [] (.slice none 0 0) [] false
    rw [hw7]
    obtain ⟨q0, q1, q2', q3', q4', q5, -⟩ := q.cells
    refine bodyPost_ret (v := .tuple #[enV 0 0 [] (.slice none 0 0) [] false, .bool false]) ?_ rfl ?_
    · simp [results, Tryz.results91, go_sem, q0, q1, q2', q3', q4', q5, enV]
    · rw [T.out]
      exact ⟨rfl, by rw [HN.out]; exact B2.out.trans (q2.mono (by omega))⟩
  | some y =>
    obtain ⟨L3, ex3⟩ := y
    obtain ⟨rfl, O2⟩ := hres
    have O2 := Lib.hid O2
    simp only [enV]
    go_wp2
    obtain ⟨w7, hw7, q, q2, q3, -, q4⟩ := R2.out.put 4 op m (.slice A L.length cap) ex3 al
    rw [hw7]
    obtain ⟨q0, q1, q2', q3', q4', q5, -⟩ := q.cells
    refine bodyPost_ret (v := .tuple #[enV 4 op m (.slice A L.length cap) ex3 al, .bool true]) ?_ rfl ?_
    · simp [results, Tryz.results91, go_sem, q0, q1, q2', q3', q4', q5, enV]
    · rw [T.out]
      refine ⟨⟨(.slice A L.length cap), rfl, ?_⟩, by rw [HN.out]; exact B2.out.trans (q2.mono (by omega))⟩
      rw [HN.out]
      exact (put_own R2.out O2.out q4).lift (by omega)
theorem entry_5 (p : Pat) (op : Int) (G : Good2 p op) (G6 : Good2 p (op6 op)) (w : World) (hM : MaxAt w) : Calls Tryz.prog 91 #[codeV p op, .int .i64 5] w (RetEntry w 5 op (some (shiftT p 5 op 5))) := by
  unfold codeV
  obtain ⟨w0, hw0, c0, R0, B0, Z0⟩ := shift_start w p op
  obtain ⟨n, hn⟩ : ∃ n, w.heap.size = n := ⟨_, rfl⟩
  rw [hn] at c0 R0 B0 Z0
  have hgn : 0 < n := by rw [← hn]; exact hM.lt
  have hM0 : MaxAt w0 := hM.belowN (n := n) B0 hgn
  have k0 := Lib.cell_of_heap c0 0
  have k1 := Lib.cell_of_heap c0 1
  have k2 := Lib.cell_of_heap c0 2
  have HN := Lib.hid hn
  have R0 := Lib.hid R0
  have B0 := Lib.hid B0
  have hsh := shifted_any p 5 op 5 G.good.len G.good.op0 G.good.op1 G6.good (G6.args_len 5) G6.extra w0 hM0
  obtain ⟨⟨m, L, ex, al⟩, hx⟩ : ∃ x, shiftT p 5 op 5 = x := ⟨_, rfl⟩
  have HX := Lib.hid hx
  rw [hx] at hsh
  simp only [codeV] at hsh
  clear hx G G6 hM hM0 c0
  go_enter Tryz.func91, Tryz.ntmps91
  go_wp2_with fail
  refine hsh.mono ?_
  rintro e w1 ⟨v, rfl, O1, hb1⟩
  simp only [enV] at O1 ⊢
  obtain ⟨A, cap, rfl, -, -⟩ := O1.ops
  have R1 := Lib.hid (R0.out.all hb1)
  have B1 : Hid (Below n w w1) := B0.out.trans (hb1.mono (by omega))
  have O1 := Lib.hid O1
  clear hsh hb1 R0 B0 hw0 k0 k1 k2
  obtain ⟨r0, r1, r2, r3, r4, r5, r6⟩ := R1.out.cells
  go_wp2
  obtain ⟨w7, hw7, q, q2, q3, -, q4⟩ := R1.out.put 5 op m (.slice A L.length cap) ex al
  rw [hw7]
  obtain ⟨q0, q1, q2', q3', q4', q5, -⟩ := q.cells
  refine bodyPost_ret (v := .tuple #[enV 5 op m (.slice A L.length cap) ex al, .bool true]) ?_ rfl ?_
  · simp [results, Tryz.results91, go_sem, q0, q1, q2', q3', q4', q5, enV]
  · rw [HX.out]
    refine ⟨⟨(.slice A L.length cap), rfl, ?_⟩, by rw [HN.out]; exact B1.out.trans (q2.mono (by omega))⟩
    rw [HN.out]
    exact (put_own R1.out O1.out q4).lift (by omega)
theorem entry_6 (p : Pat) (op : Int) (G : Good2 p op) (G6 : Good2 p (op6 op)) (w : World) (hM : MaxAt w) : Calls Tryz.prog 91 #[codeV p op, .int .i64 6] w (RetEntry w 6 op (some (shiftT p 6 op 6))) := by
  unfold codeV
  obtain ⟨w0, hw0, c0, R0, B0, Z0⟩ := shift_start w p op
  obtain ⟨n, hn⟩ : ∃ n, w.heap.size = n := ⟨_, rfl⟩
  rw [hn] at c0 R0 B0 Z0
  have hgn : 0 < n := by rw [← hn]; exact hM.lt
  have hM0 : MaxAt w0 := hM.belowN (n := n) B0 hgn
  have k0 := Lib.cell_of_heap c0 0
  have k1 := Lib.cell_of_heap c0 1
  have k2 := Lib.cell_of_heap c0 2
  have HN := Lib.hid hn
  have R0 := Lib.hid R0
  have B0 := Lib.hid B0
  have hsh := shifted_any p 6 op 6 G.good.len G.good.op0 G.good.op1 G6.good (G6.args_len 6) G6.extra w0 hM0
  obtain ⟨⟨m, L, ex, al⟩, hx⟩ : ∃ x, shiftT p 6 op 6 = x := ⟨_, rfl⟩
  have HX := Lib.hid hx
  rw [hx] at hsh
  simp only [codeV] at hsh
  clear hx G G6 hM hM0 c0
  go_enter Tryz.func91, Tryz.ntmps91
  go_wp2_with fail
  refine hsh.mono ?_
  rintro e w1 ⟨v, rfl, O1, hb1⟩
  simp only [enV] at O1 ⊢
  obtain ⟨A, cap, rfl, -, -⟩ := O1.ops
  have R1 := Lib.hid (R0.out.all hb1)
  have B1 : Hid (Below n w w1) := B0.out.trans (hb1.mono (by omega))
  have O1 := Lib.hid O1
  clear hsh hb1 R0 B0 hw0 k0 k1 k2
  obtain ⟨r0, r1, r2, r3, r4, r5, r6⟩ := R1.out.cells
  go_wp2
  obtain ⟨w7, hw7, q, q2, q3, -, q4⟩ := R1.out.put 6 op m (.slice A L.length cap) ex al
  rw [hw7]
  obtain ⟨q0, q1, q2', q3', q4', q5, -⟩ := q.cells
  refine bodyPost_ret (v := .tuple #[enV 6 op m (.slice A L.length cap) ex al, .bool true]) ?_ rfl ?_
  · simp [results, Tryz.results91, go_sem, q0, q1, q2', q3', q4', q5, enV]
  · rw [HX.out]
    refine ⟨⟨(.slice A L.length cap), rfl, ?_⟩, by rw [HN.out]; exact B1.out.trans (q2.mono (by omega))⟩
    rw [HN.out]
    exact (put_own R1.out O1.out q4).lift (by omega)
theorem entry_n (p : Pat) (page : Int) (h3 : page ≠ 3) (h4 : page ≠ 4) (h5 : page ≠ 5) (h6 : page ≠ 6) (op : Int) (G : Good2 p op) (G6 : Good2 p (op6 op)) (w : World) (hM : MaxAt w) : Calls Tryz.prog 91 #[codeV p op, .int .i64 page] w (RetEntry w page op (some (plainT p page op))) := by
  unfold codeV
  obtain ⟨w0, hw0, c0, R0, B0, Z0⟩ := shift_start w p op
  obtain ⟨n, hn⟩ : ∃ n, w.heap.size = n := ⟨_, rfl⟩
  rw [hn] at c0 R0 B0 Z0
  have hgn : 0 < n := by rw [← hn]; exact hM.lt
  have hM0 : MaxAt w0 := hM.belowN (n := n) B0 hgn
  have e3 : (page == 3) = false := by simpa using h3
  have e4 : (page == 4) = false := by simpa using h4
  have e5 : (page == 5) = false := by simpa using h5
  have e6 : (page == 6) = false := by simpa using h6
  clear h3 h4 h5 h6
  have k0 := Lib.cell_of_heap c0 0
  have k1 := Lib.cell_of_heap c0 1
  have k2 := Lib.cell_of_heap c0 2
  have HN := Lib.hid hn
  have R0 := Lib.hid R0
  have B0 := Lib.hid B0
  have hpl := tplain_any p page op G.good w0 hM0
  have hL := G.args_len page
  have hX : (plainT p page op).2.2.1.length ≤ 1000 := G.extra
  obtain ⟨⟨m, L, ex, al⟩, hx⟩ : ∃ x, plainT p page op = x := ⟨_, rfl⟩
  have HX := Lib.hid hx
  rw [hx] at hL hX hpl
  simp only [codeV] at hL hX hpl
  clear hx G G6 hM hM0 c0
  go_enter Tryz.func91, Tryz.ntmps91
  go_wp2_with fail
  refine hpl.mono ?_
  rintro e w1 ⟨v, rfl, O1, hb1⟩
  simp only [enV] at O1 ⊢
  obtain ⟨A, cap, rfl, -, -⟩ := O1.ops
  have R1 := Lib.hid (R0.out.all hb1)
  have B1 : Hid (Below n w w1) := B0.out.trans (hb1.mono (by omega))
  have O1 := Lib.hid O1
  clear hpl hb1 R0 B0 hw0 k0 k1 k2
  obtain ⟨r0, r1, r2, r3, r4, r5, r6⟩ := R1.out.cells
  go_wp2
  obtain ⟨w7, hw7, q, q2, q3, -, q4⟩ := R1.out.put page op m (.slice A L.length cap) ex al
  rw [hw7]
  obtain ⟨q0, q1, q2', q3', q4', q5, -⟩ := q.cells
  refine bodyPost_ret (v := .tuple #[enV page op m (.slice A L.length cap) ex al, .bool true]) ?_ rfl ?_
  · simp [results, Tryz.results91, go_sem, q0, q1, q2', q3', q4', q5, enV]
  · rw [HX.out]
    refine ⟨⟨(.slice A L.length cap), rfl, ?_⟩, by rw [HN.out]; exact B1.out.trans (q2.mono (by omega))⟩
    rw [HN.out]
    exact (put_own R1.out O1.out q4).lift (by omega)
theorem entry_any (p : Pat) (page op : Int) (G : Good2 p op) (G6 : Good2 p (op6 op)) (w : World) (hM : MaxAt w) : Calls Tryz.prog 91 #[codeV p op, .int .i64 page] w (RetEntry w page op (entryT p page op)) := by
  unfold entryT
  by_cases h3 : page = 3
  · subst h3; exact entry_3 p op G G6 w hM
  · rw [if_neg h3]
    by_cases h4 : page = 4
    · subst h4; exact entry_4 p op G G6 w hM
    · rw [if_neg h4]
      by_cases h5 : page = 5
      · subst h5; exact entry_5 p op G G6 w hM
      · rw [if_neg h5]
        by_cases h6 : page = 6
        · subst h6; exact entry_6 p op G G6 w hM
        · rw [if_neg h6]
          exact entry_n p page h3 h4 h5 h6 op G G6 w hM
end Go.Proofs.YtmnleknehjkmgaaGreat
namespace Go.Proofs.YtmnleknehjkmgaaGreat
open Go.RowKit Go.Shelf
def BytesAt (w : World) (A : Option Addr) (xs : Str) : Prop := xs = [] ∨ ∃ b off, A = some ⟨b, off, none⟩ ∧ ∀ j (h : j < xs.length), w.cell? ⟨b, off + j, none⟩ = some (.int .u8 (xs[j].toNat : Int))
theorem BytesAt.below {w w' : World} {A : Option Addr} {xs : Str} (h : BytesAt w A xs) (hb : Below w.heap.size w w') : BytesAt w' A xs := by
  rcases h with rfl | ⟨b, off, rfl, hc⟩
  · exact .inl rfl
  · exact .inr ⟨b, off, rfl, fun j hj => (hb.cell (World.block_lt_of_cell? w _ (hc j hj))).trans (hc j hj)⟩
theorem conv_sB {w : World} {A : Option Addr} {xs : Str} (h : BytesAt w A xs) (cap : Nat) :
    (convert 22 9 (.slice A xs.length cap)).run Tryz.prog w = .ok (.string (sB xs)) w := by
  cases A with
  | none =>
    obtain rfl : xs = [] := by
      rcases h with h | ⟨b, off, h, _⟩
      · exact h
      · cases h
    rw [run_convert_bytes_nil (P := Tryz.prog) w 22 5 Tryz.underlying22 Tryz.underlying5 _ _ 9 Tryz.underlying9]
    rfl
  | some a =>
    refine run_convert_bytes_back w 22 9 5 a cap xs Tryz.underlying22 Tryz.underlying5 Tryz.underlying9 (fun j hj => ?_)
    rcases h with rfl | ⟨b, off, e, hc⟩
    · simp at hj
    · cases e
      have h1 := hc j hj
      unfold Addr.add
      split
      · rename_i h0; subst h0; simpa using h1
      · exact h1
def cellsB (xs : Str) : List Value := xs.map fun b => .int .u8 (b.toNat : Int)
def TOwnB (w : World) (n : Nat) (v : Value) (xs : Str) : Prop := w.ownsRow n 5 1 v xs.length (cellsB xs)
theorem TOwnB.bytes {w : World} {n : Nat} {v : Value} {xs : Str} (h : TOwnB w n v xs) : ∃ A cap, v = .slice A xs.length cap ∧ BytesAt w A xs := by
  rcases h.2 with ⟨rfl, h0⟩ | ⟨g, cap, cur, rfl, _, _, _⟩
  · have : xs = [] := List.eq_nil_of_length_eq_zero h0
    subst this
    exact ⟨none, 0, rfl, .inl rfl⟩
  · refine ⟨_, cap, rfl, .inr ⟨g, 0, rfl, fun j hj => ?_⟩⟩
    rw [Nat.zero_add, World.ownsRow.cellAt h j (by omega)]
    unfold cellsB
    rw [List.getElem?_map, List.getElem?_eq_getElem hj]
    rfl
theorem TOwnB.below {w w' : World} {n : Nat} {v : Value} {xs : Str} (h : TOwnB w n v xs) (k : Below w.heap.size w w') : TOwnB w' n v xs :=
  World.ownsRow.kept h (row := none) ⟨k.os, k.tape, k.output, k.size, fun i hi _ => k.block i hi⟩ (by
    cases e : v.ownBlock with
    | none => exact .inl rfl
    | some g => exact .inr (by simp))
theorem own_lit (w : World) (xs : Str) (hl : xs.length ≤ 100) : TOwnB (w.alloc (.cells (cellsB xs).toArray 5)) w.heap.size (.slice (some ⟨w.heap.size, 0, none⟩) xs.length xs.length) xs := by
  refine ⟨by unfold cellsB; simp, .inr ⟨w.heap.size, xs.length, (cellsB xs).toArray, rfl, Nat.le_refl _, World.alloc_heap_new w _, Nat.le_refl _, by unfold maxLen; omega, by unfold cellsB; simp, ?_⟩⟩
  unfold cellsB
  rw [List.take_of_length_le (by simp)]
theorem equalB_any (A1 A2 : Option Addr) (c1 c2 : Nat) (xs ys : Str) (w : World) (H1 : BytesAt w A1 xs) (H2 : BytesAt w A2 ys) :
    Calls Tryz.prog 49 #[.slice A1 xs.length c1, .slice A2 ys.length c2] w fun e w' => e = .returned (.bool (decide (xs = ys))) ∧ w' = w := by
  have k1 := conv_sB H1 c1
  have k2 := conv_sB H2 c2
  have E : Hid (((sB xs).toList == (sB ys).toList) = decide (xs = ys)) := by
    show ((sB xs).toList == (sB ys).toList) = _
    rw [sB_eq, ByteArray.toList_eq, show (sB ys).data.toList = ys by simp [sB]]
  clear H1 H2
  go_enter Tryz.func49, Tryz.ntmps49
  go_wp2
  go_ret
  exact ⟨ret_bool E.out, rfl⟩
def preS (page : Int) : Str := if page = 1 then [203] else if page = 2 then [237] else if page = 3 then [221] else if page = 4 then [253] else if page = 5 then [221, 203] else if page = 6 then [253, 203] else []
def RetB (w : World) (xs : Str) (e : Ending) (w' : World) : Prop := ∃ v, e = .returned v ∧ TOwnB w' w.heap.size v xs ∧ Below w.heap.size w w'
theorem prefixes_1 (w : World) : Calls Tryz.prog 100 #[.int .i64 1] w (RetB w [203]) := by
  have O := Lib.hid (own_lit w [203] (by decide))
  go_enter Tryz.func100, Tryz.ntmps100
  go_wp2
  go_ret
  exact ⟨_, rfl, O.out, (Below.refl _ _).alloc (Nat.le_refl _) _⟩
theorem prefixes_2 (w : World) : Calls Tryz.prog 100 #[.int .i64 2] w (RetB w [237]) := by
  have O := Lib.hid (own_lit w [237] (by decide))
  go_enter Tryz.func100, Tryz.ntmps100
  go_wp2
  go_ret
  exact ⟨_, rfl, O.out, (Below.refl _ _).alloc (Nat.le_refl _) _⟩
theorem prefixes_3 (w : World) : Calls Tryz.prog 100 #[.int .i64 3] w (RetB w [221]) := by
  have O := Lib.hid (own_lit w [221] (by decide))
  go_enter Tryz.func100, Tryz.ntmps100
  go_wp2
  go_ret
  exact ⟨_, rfl, O.out, (Below.refl _ _).alloc (Nat.le_refl _) _⟩
theorem prefixes_4 (w : World) : Calls Tryz.prog 100 #[.int .i64 4] w (RetB w [253]) := by
  have O := Lib.hid (own_lit w [253] (by decide))
  go_enter Tryz.func100, Tryz.ntmps100
  go_wp2
  go_ret
  exact ⟨_, rfl, O.out, (Below.refl _ _).alloc (Nat.le_refl _) _⟩
theorem prefixes_5 (w : World) : Calls Tryz.prog 100 #[.int .i64 5] w (RetB w [221, 203]) := by
  have O := Lib.hid (own_lit w [221, 203] (by decide))
  go_enter Tryz.func100, Tryz.ntmps100
  go_wp2
  go_ret
  exact ⟨_, rfl, O.out, (Below.refl _ _).alloc (Nat.le_refl _) _⟩
theorem prefixes_6 (w : World) : Calls Tryz.prog 100 #[.int .i64 6] w (RetB w [253, 203]) := by
  have O := Lib.hid (own_lit w [253, 203] (by decide))
  go_enter Tryz.func100, Tryz.ntmps100
  go_wp2
  go_ret
  exact ⟨_, rfl, O.out, (Below.refl _ _).alloc (Nat.le_refl _) _⟩
theorem prefixes_any (page : Int) (w : World) : Calls Tryz.prog 100 #[.int .i64 page] w (RetB w (preS page)) := by
  unfold preS
  by_cases h1 : page = 1
  · rw [if_pos h1]; subst h1; exact prefixes_1 w
  by_cases h2 : page = 2
  · rw [if_neg h1, if_pos h2]; subst h2; exact prefixes_2 w
  by_cases h3 : page = 3
  · rw [if_neg h1, if_neg h2, if_pos h3]; subst h3; exact prefixes_3 w
  by_cases h4 : page = 4
  · rw [if_neg h1, if_neg h2, if_neg h3, if_pos h4]; subst h4; exact prefixes_4 w
  by_cases h5 : page = 5
  · rw [if_neg h1, if_neg h2, if_neg h3, if_neg h4, if_pos h5]; subst h5; exact prefixes_5 w
  by_cases h6 : page = 6
  · rw [if_neg h1, if_neg h2, if_neg h3, if_neg h4, if_neg h5, if_pos h6]; subst h6; exact prefixes_6 w
  rw [if_neg h1, if_neg h2, if_neg h3, if_neg h4, if_neg h5, if_neg h6]
  have e1 : (page == 1) = false := by simpa using h1
  have e2 : (page == 2) = false := by simpa using h2
  have e3 : (page == 3) = false := by simpa using h3
  have e4 : (page == 4) = false := by simpa using h4
  have e5 : (page == 5) = false := by simpa using h5
  have e6 : (page == 6) = false := by simpa using h6
  clear h1 h2 h3 h4 h5 h6
  go_enter Tryz.func100, Tryz.ntmps100
  go_wp2
  go_ret
  exact ⟨_, rfl, World.ownsRow_nil _ _ _ _, Below.refl _ _⟩
def pageF (xs : Str) : Nat → Option Int
  | 0 => none
  | k + 1 => match pageF xs k with
    | some p => some p
    | none => if preS k = xs then some k else none
def pageT (xs : Str) : Option Int := pageF xs 7
theorem pageF_some (xs : Str) (k : Nat) (p : Int) (h : pageF xs k = some p) : ∀ m, pageF xs (k + m) = some p
  | 0 => h
  | m + 1 => by
    have ih := pageF_some xs k p h m
    show pageF xs (k + m + 1) = some p
    unfold pageF
    rw [ih]
theorem pageOf_any (A : Option Addr) (cap : Nat) (xs : Str) (hx : xs.length ≤ maxLen) (w : World) (H : BytesAt w A xs) : Calls Tryz.prog 87 #[.slice A xs.length cap] w
    fun e w' => e = .returned (.tuple #[.int .i64 ((pageT xs).getD 0), .bool (pageT xs).isSome]) ∧ Below w.heap.size w w' := by
  obtain ⟨l, hl⟩ : ∃ l, xs.length = l := ⟨_, rfl⟩
  have HH := Lib.hid H
  have HL := Lib.hid hl
  rw [hl]
  clear H hl hx
  go_enter Tryz.func87, Tryz.ntmps87
  go_wp2
  go_loopw [5] (fun i wr => ∃ k : Nat, k ≤ 7 ∧ i = .int .i64 k ∧ Hid (pageF xs k = none) ∧ Hid (Below w.heap.size w wr)) (fun i _ => 7 - (intOf i).toNat)
  case atStart => exact ⟨0, Nat.zero_le _, rfl, rfl, Below.refl _ _⟩
  case round =>
    obtain ⟨k, hk, rfl, PF, B⟩ := hrel
    by_cases hlt : k < 7
    · have hp := prefixes_any (k : Int) wr
      go_wp2_with fail
      refine hp.mono ?_
      rintro e w1 ⟨v, rfl, hO, hb1⟩
      obtain ⟨A1, c1, rfl, hB1⟩ := hO.bytes
      have B1 : Hid (Below w.heap.size w w1) := B.out.trans (hb1.mono B.out.size)
      have hq := equalB_any A1 A c1 cap (preS k) xs w1 hB1 (HH.out.below B1.out)
      rw [HL.out] at hq
      have PS : Hid (pageF xs (k + 1) = if preS k = xs then some (k : Int) else none) := by show pageF xs (k + 1) = _; rw [pageF, PF.out]
      clear hp hb1 hO hB1 B PF
      by_cases he : preS k = xs
      · rw [decide_eq_true he] at hq
        have T : Hid (pageT xs = some (k : Int)) := by
          have h := PS.out
          rw [if_pos he] at h
          have h2 := pageF_some xs (k + 1) k h (7 - (k + 1))
          rw [show k + 1 + (7 - (k + 1)) = 7 by omega] at h2
          exact h2
        clear he
        go_wp2_with fail
        refine hq.mono ?_
        rintro e w2 ⟨rfl, hw2⟩
        rw [hw2]
        clear hq hw2
        go_wp2
        go_ret2
        exact ⟨by rw [T.out]; rfl, B1.out⟩
      · rw [decide_eq_false he] at hq
        have T : Hid (pageF xs (k + 1) = none) := by have h := PS.out; rw [if_neg he] at h; exact h
        clear he
        go_wp2_with fail
        refine hq.mono ?_
        rintro e w2 ⟨rfl, hw2⟩
        rw [hw2]
        clear hq hw2
        go_wp2
        go_roundw
        case rel => exact ⟨k + 1, by omega, by go_num, T.out, B1.out⟩
        case measure => simp [intOf]; omega
    · obtain rfl : k = 7 := by omega
      have T : Hid (pageT xs = none) := PF.out
      go_wp2
      go_ret2
      exact ⟨by rw [T.out]; rfl, B.out⟩
theorem tinfo_u8 : (Tryz.prog.info? 5).map (fun i => (i.zero, i.size, i.bytes)) = some (some (.int .u8 0), 1, 1) := by kernel_rfl
theorem wpList_appB {wr : World} {base : Nat} {v : Value} {xs : Str} (R : TOwnB wr base v xs) (hbase : base ≤ wr.heap.size) {ops : Array Oper} {rest : List Oper} {o : Oper} {a : Act} {Q : Exit → Act → World → Prop} (hgd : o.guard = none) (s x : Operand)
    (ho : o.op = .call { callee := .builtin .append, args := #[s, x], argTypes := #[22, 22] }) (hs : a.eval s = v) (nb : Nat) (hnb : nb = wr.heap.size) (hx : a.eval x = .slice (some ⟨nb, 0, none⟩) 1 1)
    (y : UInt8) (k : Nat) (hk : xs.length = k) (hlen : k < 10000)
    (h : ∀ A' cap' w1, BytesAt w1 A' (xs ++ [y]) → Below base wr w1 → wpList Tryz.prog ops Q rest (a.put o.dst (.slice A' (k + 1) cap')) w1) : wpList Tryz.prog ops Q (o :: rest) a (wr.alloc (.cells #[.int .u8 (y.toNat : Int)] 5)) := by
  subst hnb
  obtain ⟨i0, hi, hz0, hz1, hz2⟩ := info_parts tinfo_u8
  have hb : Below base wr (wr.alloc (.cells #[.int .u8 (y.toNat : Int)] 5)) := (Below.refl base wr).alloc hbase _
  have hown := World.ownsRow.alloc R (.cells #[.int .u8 (y.toNat : Int)] 5)
  refine wpList_append_own _ hgd s x 22 ho base 5 i0 (.int .u8 0) 1 1 Tryz.underlying22 hi hz0 hz1 hz2 rfl (by decide) v xs.length _ hs hown ⟨wr.heap.size, 0, none⟩ 1 1 [.int .u8 (y.toNat : Int)] hx rfl ?_ ?_ ?_ ?_ ?_ ?_
  · intro j u hj
    match j, hj with
    | 0, hj => simp at hj; subst hj; simp [Addr.add, go_sem]
  · intro u hu
    simp at hu
    subst hu
    rfl
  · unfold maxLen; omega
  · omega
  · simp; omega
  · intro v' w1 hown' hgrow _
    have hO : TOwnB w1 base v' (xs ++ [y]) := by
      unfold TOwnB cellsB
      rw [List.length_append, List.map_append]
      exact hown'
    obtain ⟨A', cap', rfl, hB⟩ := hO.bytes
    rw [List.length_append, hk]
    exact h A' cap' w1 hB (hb.grown hgrow (by simp; omega) fun k hk => (hown.lt k hk).1)
def kindT (page op : Int) : Int := if page < 0 ∨ 7 ≤ page then 0 else if (pageT (preS page ++ [UInt8.ofNat op.toNat])).isSome then 2 else if page = 2 then 3 else 0
theorem kindWithout_any (page op : Int) (h0 : 0 ≤ op) (h1 : op ≤ 255) (w : World) : Calls Tryz.prog 92 #[.int .i64 page, .int .u8 op] w
    fun e w' => e = .returned (.int .i64 (kindT page op)) ∧ Below w.heap.size w w' := by
  by_cases hp0 : page < 0
  · have T : Hid (kindT page op = 0) := by show kindT page op = 0; unfold kindT; rw [if_pos (.inl hp0)]
    go_enter Tryz.func92, Tryz.ntmps92
    go_wp2
    go_ret
    exact ⟨by rw [T.out]; rfl, Below.refl _ _⟩
  · by_cases hp1 : 7 ≤ page
    · have T : Hid (kindT page op = 0) := by show kindT page op = 0; unfold kindT; rw [if_pos (.inr hp1)]
      go_enter Tryz.func92, Tryz.ntmps92
      go_wp2
      go_ret
      exact ⟨by rw [T.out]; rfl, Below.refl _ _⟩
    · have hpp := prefixes_any page w
      obtain ⟨c, hc⟩ : ∃ c : UInt8, op = (c.toNat : Int) := ⟨UInt8.ofNat op.toNat, by rw [UInt8.toNat_ofNat_of_lt' (show op.toNat < 256 by omega)]; omega⟩
      subst hc
      have hcc : UInt8.ofNat ((c.toNat : Int)).toNat = c := by simp
      have KT : Hid (kindT page (c.toNat : Int) = if (pageT (preS page ++ [c])).isSome then 2 else if page = 2 then 3 else 0) := by
        show kindT page (c.toNat : Int) = _
        unfold kindT
        rw [if_neg (show ¬(page < 0 ∨ 7 ≤ page) by omega), hcc]
      clear h0 h1 hcc
      go_enter Tryz.func92, Tryz.ntmps92
      go_wp2_with fail
      refine hpp.mono ?_
      rintro e w1 ⟨v, rfl, hO, hb1⟩
      have O1 := Lib.hid hO
      have B1 := Lib.hid hb1
      obtain ⟨A1, c1, rfl, -⟩ := hO.bytes
      obtain ⟨l, hl⟩ : ∃ l, (preS page).length = l := ⟨_, rfl⟩
      have HL := Lib.hid hl
      rw [hl] at O1 ⊢
      clear hpp hO hb1
      have hl2 : l ≤ 2 := by
        rw [← HL.out]
        unfold preS
        repeat' split
        all_goals simp
      go_wp2_with (at_builtin; refine wpList_appB O1.out B1.out.size rfl _ _ rfl rfl w1.heap.size rfl rfl c l HL.out (by omega) ?_; intro A2 cap2 w2 hA2 hB2; have A2' := Lib.hid hA2; have B2 : Hid (Below w.heap.size w w2) := B1.out.trans hB2; clear hA2 hB2)
      have hlen : (preS page ++ [c]).length = l + 1 := by rw [List.length_append, HL.out]; rfl
      have hpo := pageOf_any A2 cap2 (preS page ++ [c]) (by rw [hlen]; unfold maxLen; omega) w2 A2'.out
      rw [hlen] at hpo
      obtain ⟨po, hpo2⟩ : ∃ x, pageT (preS page ++ [c]) = x := ⟨_, rfl⟩
      rw [hpo2] at hpo KT
      clear hpo2 hlen
      go_wp2_with fail
      refine hpo.mono ?_
      rintro e w3 ⟨rfl, hb3⟩
      have B3 : Hid (Below w.heap.size w w3) := B2.out.trans (hb3.mono B2.out.size)
      clear hpo hb3 A2' B2 B1 O1
      cases po with
      | some x =>
        have T : Hid (kindT page (c.toNat : Int) = 2) := by show _ = _; rw [KT.out]; rfl
        go_wp2
        go_ret
        exact ⟨by rw [T.out]; rfl, B3.out⟩
      | none =>
        by_cases hp2 : page = 2
        · have T : Hid (kindT page (c.toNat : Int) = 3) := by show _ = _; rw [KT.out, if_neg (by decide), if_pos hp2]
          go_wp2
          go_ret
          exact ⟨by rw [T.out]; rfl, B3.out⟩
        · have T : Hid (kindT page (c.toNat : Int) = 0) := by show _ = _; rw [KT.out, if_neg (by decide), if_neg hp2]
          go_wp2
          go_ret
          exact ⟨by rw [T.out]; rfl, B3.out⟩
end Go.Proofs.YtmnleknehjkmgaaGreat
namespace Go.Proofs.YtmnleknehjkmgaaGreat
open Go.RowKit Go.Shelf
def argsU (p : Pat) (a : Nat) : Str := if (cutL [32] p.2).1 = [97] then arB a ++ (cutL [32] p.2).2.1 else (cutL [32] p.2).2.1
theorem argsU_eq (p : Pat) (op : Int) : (wordsT p op).2.1 ++ (wordsT p op).2.2 = argsU p (numP p.1 op 97).toNat := by
  unfold wordsT argsU
  split
  · rfl
  · split <;> rfl
theorem pats_small : ∀ p ∈ mainP ++ cbP ++ edP, p.1.length = 8 ∧ p.2.length ≤ 100 := by decide +kernel
theorem pats_num : ∀ p ∈ mainP ++ cbP ++ edP, ∀ n < 256, numN p.1 n 97 8 ≤ 7 ∧ numN p.1 n 111 8 ≤ 7 := by decide +kernel
theorem pats_words : ∀ p ∈ mainP ++ cbP ++ edP, ∀ a < 8, (argsU p a).length ≤ 100 ∧ ∀ w ∈ splitW (argsU p a), w ∈ wordsAll := by decide +kernel
theorem wordsF_len : ∀ (n : Nat) (l : Str), (wordsF n l).length ≤ l.length
  | 0, l => Nat.zero_le _
  | n + 1, l => by
    unfold wordsF
    split
    · exact Nat.zero_le _
    · next h =>
      have hl : 0 < l.length := List.length_pos_iff.2 (by simpa using h)
      have h1 := (cutL_lt [44] l (by decide) hl).1
      have h2 := wordsF_len n (cutL [44] l).2.1
      rw [List.length_cons]
      omega
theorem extraF_len (p : Pat) (op : Int) : ∀ (n : Nat) (l : Str), (extraT p op (wordsF n l)).length ≤ l.length
  | 0, l => Nat.zero_le _
  | n + 1, l => by
    unfold wordsF
    split
    · exact Nat.zero_le _
    · have h1 := cutL_sum [44] l
      have h2 := extraF_len p op n (cutL [44] l).2.1
      have h3 := opT_len p op (cutL [44] l).1
      show ((opT p op (cutL [44] l).1).2 ++ extraT p op (wordsF n (cutL [44] l).2.1)).length ≤ _
      rw [List.length_append]
      omega
theorem good2_of {p : Pat} (hp : p ∈ mainP ++ cbP ++ edP) (op : Int) (h0 : 0 ≤ op) (h1 : op ≤ 255) : Good2 p op := by
  obtain ⟨n, rfl⟩ : ∃ n : Nat, op = n := ⟨op.toNat, by omega⟩
  have hn : n < 256 := by omega
  obtain ⟨e1, e2⟩ := pats_small p hp
  obtain ⟨e3, e4⟩ := pats_num p hp n hn
  have na : numP p.1 (n : Int) 97 ≤ 7 := by rw [numP_eq _ _ hn]; omega
  have no : numP p.1 (n : Int) 111 ≤ 7 := by rw [numP_eq _ _ hn]; omega
  have n0 := (numP_bd p.1 (n : Int) h0 h1 97).1
  obtain ⟨e5, e6⟩ := pats_words p hp (numP p.1 (n : Int) 97).toNat (by omega)
  rw [← argsU_eq] at e5 e6
  have l1 := wordsF_len ((wordsT p (n : Int)).2.1 ++ (wordsT p (n : Int)).2.2).length ((wordsT p (n : Int)).2.1 ++ (wordsT p (n : Int)).2.2)
  have l2 := extraF_len p (n : Int) ((wordsT p (n : Int)).2.1 ++ (wordsT p (n : Int)).2.2).length ((wordsT p (n : Int)).2.1 ++ (wordsT p (n : Int)).2.2)
  exact ⟨⟨e1, e2, h0, h1, na, no, e5, e6⟩, Nat.le_trans l1 e5, Nat.le_trans l2 (by omega)⟩
theorem op6_all : ∀ n : Fin 256, op6 (n.val : Int) = ((n.val / 8 * 8 + 6 : Nat) : Int) := by decide +kernel
theorem op6_bd (op : Int) (h0 : 0 ≤ op) (h1 : op ≤ 255) : 0 ≤ op6 op ∧ op6 op ≤ 255 := by
  obtain ⟨n, rfl⟩ : ∃ n : Nat, op = n := ⟨op.toNat, by omega⟩
  have h := op6_all ⟨n, by omega⟩
  simp only at h
  omega
theorem find_mem {page op : Int} {p : Pat} (h : findP (listS page) op = some p) : p ∈ mainP ++ cbP ++ edP := by
  have h1 := List.mem_of_find?_eq_some h
  rw [patsOf_page] at h1
  exact page_mem h1
end Go.Proofs.YtmnleknehjkmgaaGreat
namespace Go.Proofs.YtmnleknehjkmgaaGreat
open Go.RowKit Go.Shelf
def atT (page op : Int) : Option En := match findP (listS page) op with
  | some p => entryT p page op
  | none => none
def RetAt (w : World) (page op : Int) (x : Option En) (e : Ending) (w' : World) : Prop :=
  (match x with
    | some x => ∃ v, e = .returned (.tuple #[enV page op x.1 v x.2.2.1 x.2.2.2, .int .i64 1]) ∧ OwnT w' w.heap.size v x.2.1
    | none => e = .returned (.tuple #[enV 0 0 [] (.slice none 0 0) [] false, .int .i64 (kindT page op)])) ∧ Below w.heap.size w w'
theorem opd0_start (w : World) : ∃ w0, w.alloc (.cells #[.int .i64 0, .int .u8 0, .string ⟨#[]⟩, .slice none 0 0, .string ⟨#[]⟩, .bool false] 122) = w0 ∧
    EnAt w0 w.heap.size 0 0 [] (.slice none 0 0) [] false ∧ Below w.heap.size w w0 ∧ w0.heap.size = w.heap.size + 1 :=
  ⟨_, rfl, World.alloc_heap_new w _, (Below.refl _ _).alloc (Nat.le_refl _) _, by simp⟩
theorem tat_any (page op : Int) (h0 : 0 ≤ op) (h1 : op ≤ 255) (w : World) (hM : MaxAt w) : Calls Tryz.prog 84 #[.int .i64 page, .int .u8 op] w (RetAt w page op (atT page op)) := by
  obtain ⟨w0, hw0, R0, B0, Z0⟩ := opd0_start w
  obtain ⟨n, hn⟩ : ∃ n, w.heap.size = n := ⟨_, rfl⟩
  rw [hn] at R0 B0 Z0
  have hgn : 0 < n := by rw [← hn]; exact hM.lt
  have hM0 : MaxAt w0 := hM.belowN (n := n) B0 hgn
  have hlo := listOf_any page w0
  have hfi := tfind_any (listS page) (listS_len page) (page8 page) op w0 hM0
  obtain ⟨o, ho⟩ : ∃ o, findP (listS page) op = o := ⟨_, rfl⟩
  have HO := Lib.hid ho
  obtain ⟨l, hl⟩ : ∃ l, listS page = l := ⟨_, rfl⟩
  rw [ho, hl] at hfi
  rw [hl] at hlo
  have HN := Lib.hid hn
  have R0 := Lib.hid R0
  have B0 := Lib.hid B0
  have HB := Lib.hid (And.intro h0 h1)
  have HG := Lib.hid hgn
  have M0 := Lib.hid hM0
  clear hM hM0 ho hl h0 h1 hgn
  go_enter Tryz.func84, Tryz.ntmps84
  go_wp2_with fail
  refine hlo.mono ?_
  rintro e w0' ⟨rfl, hw0'⟩
  rw [hw0']
  clear hlo hw0'
  go_wp2_with fail
  refine hfi.mono ?_
  rintro e w1 ⟨rfl, hb1⟩
  have R1 := Lib.hid (R0.out.all hb1)
  have B1 : Hid (Below n w w1) := B0.out.trans (hb1.mono (by omega))
  have M1 : Hid (MaxAt w1) := M0.out.below hb1
  have Z1 : n + 1 ≤ w1.heap.size := by have := hb1.size; omega
  clear hfi hb1 R0 B0 M0 hw0 Z0
  cases o with
  | none =>
    have T : Hid (atT page op = none) := by show atT page op = none; unfold atT; rw [HO.out]
    have hk := fun w2 => kindWithout_any page op HB.out.1 HB.out.2 w2
    obtain ⟨kd, hkd⟩ : ∃ k, kindT page op = k := ⟨_, rfl⟩
    have HK := Lib.hid hkd
    rw [hkd] at hk
    clear hkd
    have R2 := fun o => Lib.hid (R1.out.all ((Below.refl w1.heap.size w1).alloc (Nat.le_refl _) o))
    have B2 := fun o => Lib.hid (B1.out.trans ((Below.refl n w1).alloc (by omega) o))
    have HK2 := Lib.hid hk
    clear hk
    go_wp2_with fail
    refine (HK2.out _).mono ?_
    rintro e w2 ⟨rfl, hb2⟩
    have R3 := Lib.hid ((R2 _).out.all hb2)
    have B3 : Hid (Below n w w2) := (B2 _).out.trans (hb2.mono (by simp; omega))
    clear R2 B2 hb2 R1 B1
    obtain ⟨r0, r1, r2, r3, r4, r5, r6⟩ := R3.out.cells
    go_wp2
    obtain ⟨w7, hw7, q, q2, q3, -, q4⟩ := R3.out.put 0 0 [] (.slice none 0 0) [] false
    rw [show sB [] = (⟨#[]⟩ : ByteArray) from rfl] at hw7
    rw [hw7]
    obtain ⟨q0, q1, q2', q3', q4', q5, -⟩ := q.cells
    refine bodyPost_ret (v := .tuple #[enV 0 0 [] (.slice none 0 0) [] false, .int .i64 kd]) ?_ rfl ?_
    · simp [results, Tryz.results84, go_sem, q0, q1, q2', q3', q4', q5, enV]
    · rw [T.out]
      exact ⟨by rw [HK.out], by rw [HN.out]; exact B3.out.trans q2⟩
  | some p =>
    have hmem := find_mem HO.out
    have hb6 := op6_bd op HB.out.1 HB.out.2
    have hen := fun w2 hM2 => entry_any p page op (good2_of hmem op HB.out.1 HB.out.2) (good2_of hmem (op6 op) hb6.1 hb6.2) w2 hM2
    have T : Hid (atT page op = entryT p page op) := by show atT page op = _; unfold atT; rw [HO.out]
    obtain ⟨o2, ho2⟩ : ∃ o, entryT p page op = o := ⟨_, rfl⟩
    rw [ho2] at hen T
    have HE := Lib.hid hen
    clear hen ho2 hb6 hmem
    have R2 := fun o => Lib.hid (R1.out.all ((Below.refl w1.heap.size w1).alloc (Nat.le_refl _) o))
    have B2 := fun o => Lib.hid (B1.out.trans ((Below.refl n w1).alloc (by omega) o))
    have M2 := fun o => Lib.hid (M1.out.below ((Below.refl w1.heap.size w1).alloc (Nat.le_refl _) o))
    simp only [codeV]
    go_wp2_with fail
    refine (HE.out _ (M2 _).out).mono ?_
    rintro e w2 ⟨hres, hb2⟩
    have R3 := Lib.hid ((R2 _).out.all hb2)
    have B3 : Hid (Below n w w2) := (B2 _).out.trans (hb2.mono (by simp; omega))
    have Z3 : n + 1 ≤ w2.heap.size := by have := hb2.size; simp at this; omega
    have R4 := fun o => Lib.hid (R3.out.all ((Below.refl w2.heap.size w2).alloc (Nat.le_refl _) o))
    have B4 := fun o => Lib.hid (B3.out.trans ((Below.refl n w2).alloc (by omega) o))
    clear R2 B2 hb2 R1 B1 M2 M1 HE
    cases o2 with
    | none =>
      subst hres
      have O3 := Lib.hid trivial
      have T2 : Hid (atT page op = none) := T.out
      have hk := fun w2 => kindWithout_any page op HB.out.1 HB.out.2 w2
      obtain ⟨kd, hkd⟩ : ∃ k, kindT page op = k := ⟨_, rfl⟩
      have HK := Lib.hid hkd
      rw [hkd] at hk
      clear hkd
      have HK2 := Lib.hid hk
      clear hk
      simp only [enV]
      go_wp2_with fail
      refine (HK2.out _).mono ?_
      rintro e w4 ⟨rfl, hb4⟩
      have R5 := Lib.hid ((R4 _).out.all hb4)
      have B5 : Hid (Below n w w4) := (B4 _).out.trans (hb4.mono (by simp; omega))
      clear R4 B4 hb4 R3 B3 O3 HK2
      obtain ⟨r0, r1, r2, r3, r4, r5, r6⟩ := R5.out.cells
      go_wp2
      obtain ⟨w7, hw7, q, q2, q3, -, q4⟩ := R5.out.put 0 0 [] (.slice none 0 0) [] false
      rw [show sB [] = (⟨#[]⟩ : ByteArray) from rfl] at hw7
      rw [hw7]
      obtain ⟨q0, q1, q2', q3', q4', q5, -⟩ := q.cells
      refine bodyPost_ret (v := .tuple #[enV 0 0 [] (.slice none 0 0) [] false, .int .i64 kd]) ?_ rfl ?_
      · simp [results, Tryz.results84, go_sem, q0, q1, q2', q3', q4', q5, enV]
      · rw [T2.out]
        exact ⟨by rw [HK.out], by rw [HN.out]; exact B5.out.trans q2⟩
    | some x =>
      obtain ⟨m, L, ex, al⟩ := x
      obtain ⟨v, rfl, hO⟩ := hres
      simp only at hO ⊢
      obtain ⟨A, cap, rfl, -, -⟩ := hO.ops
      have O4 := fun o => Lib.hid ((OwnT.below hO ((Below.refl _ w2).alloc (Nat.le_refl _) o)).lift (show n ≤ _ by simp; omega))
      clear hO R3 B3
      obtain ⟨f, hf⟩ : ∃ f, w2.alloc (.cells #[.int .i64 page, .int .u8 op, .string (sB m), .slice A L.length cap, .string (sB ex), .bool al] 122) = f := ⟨_, rfl⟩
      have R5 := R4 (.cells #[.int .i64 page, .int .u8 op, .string (sB m), .slice A L.length cap, .string (sB ex), .bool al] 122)
      have B5 := B4 (.cells #[.int .i64 page, .int .u8 op, .string (sB m), .slice A L.length cap, .string (sB ex), .bool al] 122)
      have O5 := O4 (.cells #[.int .i64 page, .int .u8 op, .string (sB m), .slice A L.length cap, .string (sB ex), .bool al] 122)
      have E5 : EnAt f w2.heap.size page op m (.slice A L.length cap) ex al := by rw [← hf]; exact World.alloc_heap_new w2 _
      rw [hf] at R5 B5 O5
      clear R4 B4 O4
      obtain ⟨e0, e1, e2, e3, e4, e5, -⟩ := E5.cells
      obtain ⟨r0, r1, r2, r3, r4, r5, r6⟩ := R5.out.cells
      simp only [enV]
      go_wp2
      obtain ⟨w7, hw7, q, q2, q3, -, q4⟩ := R5.out.put page op m (.slice A L.length cap) ex al
      rw [hw7]
      obtain ⟨q0, q1, q2', q3', q4', q5, -⟩ := q.cells
      refine bodyPost_ret (v := .tuple #[enV page op m (.slice A L.length cap) ex al, .int .i64 1]) ?_ rfl ?_
      · simp [results, Tryz.results84, go_sem, q0, q1, q2', q3', q4', q5, enV]
      · rw [T.out]
        exact ⟨⟨_, rfl, by rw [HN.out]; exact put_own R5.out O5.out q4⟩, by rw [HN.out]; exact B5.out.trans q2⟩
end Go.Proofs.YtmnleknehjkmgaaGreat
namespace Go.Proofs.YtmnleknehjkmgaaGreat
open Go.RowKit Go.Shelf
def fitF (n : Nat) : Nat → Str → Bool
  | _, [] => true
  | w, c :: t => (if c = 48 then n / w % 2 == 0 else if c = 49 then n / w % 2 == 1 else true) && fitF n (w / 2) t
theorem fit_all : ∀ p ∈ mainP ++ cbP ++ edP, ∀ n : Fin 256, fitsP p.1 (n.val : Int) = fitF n.val 128 p.1 := by decide +kernel
def findN (page n : Nat) : Option Pat := (pagePats page).find? fun p => fitF n 128 p.1
theorem find_eq (page n : Nat) (hn : n < 256) : findP (listS page) (n : Int) = findN page n := by
  unfold findP findN
  rw [patsOf_page]
  have h : ∀ L : List Pat, (∀ p ∈ L, p ∈ mainP ++ cbP ++ edP) → L.find? (fun p => fitsP p.1 (n : Int)) = L.find? (fun p => fitF n 128 p.1) := by
    intro L
    induction L with
    | nil => intro _; rfl
    | cons p t ih =>
      intro hL
      rw [List.find?_cons, List.find?_cons, fit_all p (hL p (by simp)) ⟨n, hn⟩, ih (fun q hq => hL q (by simp [hq]))]
  exact h _ fun p hp => page_mem hp
def nuN (p : Pat) (n : Nat) (c : UInt8) : Int := (numN p.1 n c 8 : Nat)
def opN (p : Pat) (n : Nat) (w : Str) : Tr × Str :=
  if w = [101] then ((10, 0, 0), w) else if w = [110] ∨ w = [119] then ((6, 0, 0), w) else if w = [40, 110, 41] ∨ w = [40, 119, 41] then ((7, 0, 0), (w.drop 1).take 1) else
  match fieldT (w.headD 0) (nuN p n (w.headD 0)) with
  | some t => (t, [])
  | none => (fixedT w, [])
def wordsN (p : Pat) (n : Nat) : Str × Str × Str :=
  if (cutL [32] p.2).1 = [97] then (arN (numN p.1 n 97 8), arB (numN p.1 n 97 8), (cutL [32] p.2).2.1) else
  if (cutL [32] p.2).1 = [111] then (roN (numN p.1 n 111 8), [], (cutL [32] p.2).2.1) else ((cutL [32] p.2).1, [], (cutL [32] p.2).2.1)
def plainN (p : Pat) (page n : Nat) : En :=
  ((wordsN p n).1, (splitW ((wordsN p n).2.1 ++ (wordsN p n).2.2)).map (fun w => (opN p n w).1), ((splitW ((wordsN p n).2.1 ++ (wordsN p n).2.2)).map (fun w => (opN p n w).2)).flatten, (page : Int) == 2 && isAliasT (wordsN p n).1 n)
theorem opN_eq (p : Pat) (n : Nat) (hn : n < 256) (w : Str) : opT p (n : Int) w = opN p n w := by
  unfold opT opN nuN
  rw [numP_eq _ _ hn]
  rfl
theorem wordsN_eq (p : Pat) (n : Nat) (hn : n < 256) : wordsT p (n : Int) = wordsN p n := by
  unfold wordsT wordsN
  rw [numP_eq _ _ hn, numP_eq _ _ hn]
  simp only [Int.toNat_natCast]
theorem plainN_eq (p : Pat) (page n : Nat) (hn : n < 256) : plainT p page (n : Int) = plainN p page n := by
  unfold plainT plainN argsT extraT wordsOf
  rw [wordsN_eq p n hn]
  simp only [opN_eq p n hn]
def shiftN (p : Pat) (page n : Nat) (ix : Int) : En :=
  let x := plainN p page (n / 8 * 8 + 6)
  let L := if memB x.1 x.2.1 then repM ix x.2.1 else x.2.1
  let ex := if memB x.1 x.2.1 then 100 :: x.2.2.1 else x.2.2.1
  if numN p.1 n 115 8 = 6 then (x.1, L, ex, x.2.2.2) else if x.1 = [66, 73, 84] then (x.1, L, ex, true) else (x.1, L ++ [((1 : Int), ((numN p.1 n 115 8 : Nat) : Int), (0 : Int))], ex, x.2.2.2)
theorem shiftN_eq (p : Pat) (page n : Nat) (hn : n < 256) (ix : Int) : shiftT p page (n : Int) ix = shiftN p page n ix := by
  have h6 := op6_all ⟨n, hn⟩
  simp only at h6
  unfold shiftT shiftN
  rw [h6, plainN_eq p page _ (by omega), numP_eq _ _ hn]
  simp only [show ∀ m : Nat, ((m : Int) = 6) = (m = 6) from fun m => by simp; omega]
def entryN (p : Pat) (page n : Nat) : Option En :=
  if page = 3 then (withP (plainN p page n).1 5 (plainN p page n).2.1 (plainN p page n).2.2.1).map fun y => ((plainN p page n).1, y.1, y.2, (plainN p page n).2.2.2) else
  if page = 4 then (withP (plainN p page n).1 6 (plainN p page n).2.1 (plainN p page n).2.2.1).map fun y => ((plainN p page n).1, y.1, y.2, (plainN p page n).2.2.2) else
  if page = 5 then some (shiftN p page n 5) else if page = 6 then some (shiftN p page n 6) else some (plainN p page n)
theorem entryN_eq (p : Pat) (page n : Nat) (hn : n < 256) : entryT p page (n : Int) = entryN p page n := by
  unfold entryT entryN
  rw [plainN_eq p page n hn, shiftN_eq p page n hn, shiftN_eq p page n hn]
  simp only [show ((page : Int) = 3) = (page = 3) by simp; omega, show ((page : Int) = 4) = (page = 4) by simp; omega, show ((page : Int) = 5) = (page = 5) by simp; omega, show ((page : Int) = 6) = (page = 6) by simp; omega]
def atN (page n : Nat) : Option En := match findN page n with
  | some p => entryN p page n
  | none => none
theorem atN_eq (page n : Nat) (hn : n < 256) : atT page (n : Int) = atN page n := by
  unfold atT atN
  rw [find_eq page n hn]
  cases findN page n with
  | none => rfl
  | some p => exact entryN_eq p page n hn
end Go.Proofs.YtmnleknehjkmgaaGreat
