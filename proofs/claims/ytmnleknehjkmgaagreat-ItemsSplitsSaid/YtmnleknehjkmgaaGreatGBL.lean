/-
  ItF, ItR, ItT.
-/
import Derived.Test.YtmnleknehjkmgaaGreatGAW
import Derived.Test.YtmnleknehjkmgaaGreatMItB
import Derived.Test.YtmnleknehjkmgaaGreatGAY
import Derived.Test.YtmnleknehjkmgaaGreatGAR
import Derived.Deep.OwnRows
import Derived.Test.YtmnleknehjkmgaaGreatMItS
set_option linter.all false
set_option maxRecDepth 100000
set_option maxHeartbeats 4000000
namespace Go.Proofs.YtmnleknehjkmgaaGreat
open Go.RowKit Go.Shelf
attribute [local go_sem] Oper.semAt_some
theorem only_zero {b : Str} {pre : List Ite} {x : Ite} (h : pre ++ [x] <+: itemsR b) (hx : okI x = false) : onlyB b = 0 := by
  unfold onlyB
  rw [if_neg]
  intro ha
  have hm : x ∈ itemsR b := h.subset (by simp)
  rw [List.all_eq_true] at ha
  rw [ha x hm] at hx
  cases hx
theorem only_one {b : Str} (h : ∀ x ∈ itemsR b, okI x = true) : onlyB b = 1 := by
  unfold onlyB
  rw [if_pos (List.all_eq_true.2 h)]
theorem split_any (b : Str) (A : Option Addr) (cap l : Nat) (hl : b.length = l) (hc : l ≤ cap) (hcm : cap ≤ maxLen) (hl2 : l ≤ 90000) (w : World) (HB : BytesAt w A b) (hM : MaxAt w) :
    Calls Tryz.prog 26 #[.slice A l cap] w fun e w' => e = .returned (.int .i64 (onlyB b : Nat)) ∧ Below w.heap.size w w' := by
  obtain ⟨n, hn⟩ : ∃ z, w.heap.size = z := ⟨_, rfl⟩
  obtain ⟨W1, hW1⟩ : ∃ z, w.alloc (.cells #[.int .i64 0] 3) = z := ⟨_, rfl⟩
  have y1 : Below w.heap.size w W1 := by rw [← hW1]; exact (Below.refl _ _).alloc (Nat.le_refl _) _
  have z1 : W1.heap.size = n + 1 := by rw [← hW1, ← hn]; simp
  have R1 : Boxed W1 n 3 (.int .i64 0) := by rw [← hW1, ← hn]; exact World.alloc_heap_new w _
  have IO := itemsOf_any A l cap W1
  rw [z1] at IO
  have HB1 := HB.below y1
  have HM1 := hM.below y1
  have hAn : ∀ a, A = some a → b ≠ [] → a.block ≠ n := fun a ha hne => by have := bytes_lt HB a ha hne; omega
  have hMn : 0 ≠ n := by have := hM.lt; omega
  have SQ := Lib.hid (fun W0 (y : Below W1.heap.size W1 W0) (hs : Boxed W0 (n + 1) 22 (.slice A l cap)) => items_tellsQ 2 (n + 1) n b A cap l hl hc hcm (by omega) W0 hs (HB1.below y) (HM1.below y) (by have := y.size; omega) (by omega) hAn hMn)
  have NB : Hid (w.heap.size = n) := hn
  have Y1 : Hid (Below n w W1) := by rw [← hn]; exact y1
  have R1 := Lib.hid R1
  clear hl hc hcm hl2 HB hM HB1 HM1 hAn hMn y1
  refine callsIn_wide.1 (callsIn_of_wp_marks (n := 3) Tryz.func26 rfl trivial ?_ rfl)
  simp only [Tryz.ntmps26, List.size_toArray, List.length_cons, List.length_nil, Nat.reduceAdd, Nat.reduceSub, Array.replicate_succ, Array.replicate_zero, List.push_toArray, List.append_toArray, List.nil_append, List.cons_append]
  refine wpIn_wide.2 ?_
  go_wp2_with fail
  refine IO.mono ?_
  rintro e W0 ⟨rfl, hW0⟩
  have y0 : Below W1.heap.size W1 W0 := by rw [← hW0]; exact (Below.refl _ _).alloc (Nat.le_refl _) _
  have zW : W0.heap.size = n + 2 := by rw [← hW0]; simp; omega
  have hseq := SQ.out W0 y0 (by rw [← hW0, ← z1]; exact World.alloc_heap_new W1 _)
  have BL : Hid (Boxed W0 n 3 (.int .i64 0)) := (y0.block n (by omega)).trans R1.out
  have B0 : Hid (Below n w W0) := Y1.out.trans (y0.mono (by omega))
  clear IO SQ Y1 R1 y0 hW0 hW1 hn z1
  rw [zW] at hseq
  go_wp2_with fail
  refine wpIn_wide.1 (Stops.wpIn_tellsQ (F := Fence.wide) (n := 3) rfl (by omega) (gf := 41) (lb := #[.pointer (some ⟨n + 1, 0, none⟩)]) rfl trivial (enters_of Tryz.func41 (by kernel_rfl) rfl)
    hseq (fun h k => h.trans k) (fun q W l o o' _ hl ho => Kq.put q n W l o o' hl ho) (fun _ => rfl)
    (fun q pre W => (∀ x ∈ pre, okI x.x = true) ∧ Boxed W n 3 (.int .i64 0) ∧ Below n w W)
    (fun q pre W => onlyB b = 0 ∧ Boxed W n 3 (.int .i64 0) ∧ Below n w W)
    (fun q hq s X Y row h hg hr => ⟨h.1, h.2.1.kept hg (fun e => by have := (hr _ e.symm).1; omega), h.2.2.grown hg (by have := h.2.1.lt; omega) (fun r e => by have := (hr r e).1; omega)⟩)
    (fun q hq s X Y h hg hT => ⟨h.1, h.2.1.kept hg (fun e => by have := Option.some.inj e; omega), h.2.2.grown hg (by have := h.2.1.lt; omega) (fun r e => by have := Option.some.inj e; omega)⟩)
    (fun q hq s X Y row h hg hr => ⟨h.1, h.2.1.kept hg (fun e => by have := (hr _ e.symm).1; omega), h.2.2.grown hg (by have := h.2.1.lt; omega) (fun r e => by have := (hr r e).1; omega)⟩)
    (fun q X hq hb hqX => ⟨fun x hx => (by cases hx), (hb.block n BL.out.lt).trans BL.out, B0.out.trans (hb.mono (by omega))⟩)
    (fun q pre x a' W => (pre ++ [x]).map Xe.x <+: itemsR b ∧ ∃ k, q < k ∧ ItAt W k x.x.kind (.slice x.A x.x.raw.length x.ca) (sB x.x.m) (.slice x.B x.x.C.length x.cb) x.x.al ∧ a' = { tmps := #[.slice A l cap, undef, .pointer (some ⟨n, 0, none⟩), .pointer (some ⟨k, 0, none⟩), .slice A l cap, .func (.func 41) #[] #[.pointer (some ⟨n + 1, 0, none⟩)], x.v, undef, undef, undef, undef, undef, undef, undef], defers := [] })
    (fun q pre x s X Y row h hg hr => by
      obtain ⟨h1, k, h2, h3, h4⟩ := h
      exact ⟨h1, k, h2, h3.keeps hg (fun r e => (hr r e).2), h4⟩)
    ?assign ?body ?done ?stop)
  case assign =>
    rintro lp q pre x W K hq hqW ⟨i1, i2, i3⟩ hE hK
    simp only [Xe.v] at hK ⊢
    gi_wp2
    exact hK _ _ ((KeepsOthers.alloc _ _).from _) (Kq.of_below (up1 _ _)) (by simp; omega) ⟨i1, i2.alloc _, i3.trans ((up1 _ _).mono (by omega))⟩ ⟨hE.1, W.heap.size, hqW, World.alloc_heap_new W _, rfl⟩
  case body =>
    rintro lp q pre x a' W hq hqW ⟨i1, i2, i3⟩ ⟨hpre, k, hk, hI, rfl⟩
    obtain ⟨j0, j1, j2, j3, j4, j5⟩ := hI.cells
    have v0 := i2.cell
    have v1 := i2.frozen
    have ST : Hid (okI x.x = false → KeepsFrom W0.heap.size W (W.setCell ⟨n, 0, none⟩ (.int .i64 0)) ∧ onlyB b = 0 ∧ Boxed (W.setCell ⟨n, 0, none⟩ (.int .i64 0)) n 3 (.int .i64 0) ∧ Below n w (W.setCell ⟨n, 0, none⟩ (.int .i64 0))) := fun h => by
      rw [List.map_append] at hpre
      exact ⟨(KeepsOthers.setCell _ _ _).from _, only_zero hpre h, Boxed.set _ i2, i3.setCell (p := ⟨n, 0, none⟩) (Nat.le_refl _) _⟩
    have GO : Hid (okI x.x = true → KeepsFrom W0.heap.size W W ∧ Kq q n W W ∧ (∀ y ∈ pre ++ [x], okI y.x = true) ∧ Boxed W n 3 (.int .i64 0) ∧ Below n w W) := fun h => by
      refine ⟨keeps_b (Below.refl _ _) _, Kq.refl _ _ _, fun y hy => ?_, i2, i3⟩
      rcases List.mem_append.1 hy with hy | hy
      · exact i1 y hy
      · rw [List.mem_singleton.1 hy]
        exact h
    obtain ⟨kd, hkd⟩ : ∃ z, x.x.kind = z := ⟨_, rfl⟩
    obtain ⟨al, hal⟩ : ∃ z, x.x.al = z := ⟨_, rfl⟩
    have OK : okI x.x = (decide (kd = 1) && !al) := by unfold okI; rw [hkd, hal]
    rw [OK] at ST GO
    rw [hkd] at j0
    rw [hal] at j4
    clear i1 i2 i3 hpre hI hkd hal OK
    by_cases h1 : kd = 1
    · subst h1
      have t1 : ((1 : Int) != 1) = false := rfl
      cases al with
      | false =>
        have P := Lib.hid (GO.out rfl)
        clear ST GO
        gi_wp2
        exact P.out
      | true =>
        have P := Lib.hid (ST.out rfl)
        clear ST GO
        gi_wp2
        exact P.out
    · have t1 : (kd != 1) = true := bne_iff_ne.2 h1
      have P := Lib.hid (ST.out (by rw [decide_eq_false h1, Bool.false_and]))
      clear ST GO h1
      gi_wp2
      exact P.out
  case done =>
    rintro D q ys W hD hq hys ⟨g1, g2, g3⟩ hK
    have HK := Lib.hid hK
    have v0 := g2.cell
    have v1 := g2.frozen
    have G2 := Lib.hid g2
    have G3 := Lib.hid g3
    have ON : Hid (onlyB b = 1) := only_one fun x hx => by
      rw [← hys] at hx
      obtain ⟨y, hy, rfl⟩ := List.mem_map.1 hx
      exact g1 y hy
    clear g1 g2 g3 hK hseq hys
    go_wp2_with fail
    have b8 := Boxed.set (.int .i64 1) G2.out
    have hg := grownBy_putObj' (W.setCell ⟨n, 0, none⟩ (.int .i64 1)) D (.deferred none)
    have hK2 : (W.setCell ⟨n, 0, none⟩ (.int .i64 1)).heap[D]? = some (.deferred (some [])) := (heap_setCell_other W ⟨n, 0, none⟩ D _ (by simp; omega)).trans HK.out
    have q2 := (b8.kept hg (by simp; omega)).cell
    refine ⟨by simp, .inl ⟨_, _, rfl, run_takeDeferred hK2, ?_⟩⟩
    refine ⟨.int .i64 1, ?_, by rw [ON.out]; rfl, ?_⟩
    · simp [results, Tryz.results26, go_sem, q2]
    · rw [NB.out]
      exact (G3.out.setCell (p := ⟨n, 0, none⟩) (Nat.le_refl _) _).trans (belowK_b (w := w) (by rw [NB.out]; omega) _ D _ _ (by rw [NB.out]; omega) hK2 rfl rfl)
  case stop =>
    rintro D q pre W hD hq ⟨h1, h2, h3⟩ hK
    have hg := grownBy_putObj' W D (.deferred none)
    have q2 := (h2.kept hg (by simp; omega)).cell
    have HK := Lib.hid hK
    have G3 := Lib.hid h3
    have H1 := Lib.hid h1
    clear h1 h2 h3 hK hg hseq
    gi_wp2
    refine ⟨by simp, .inl ⟨_, _, rfl, run_takeDeferred HK.out, ?_⟩⟩
    refine ⟨.int .i64 0, ?_, by rw [H1.out]; rfl, ?_⟩
    · simp [results, Tryz.results26, go_sem, q2]
    · rw [NB.out]
      exact G3.out.trans (belowK_b (w := w) (by rw [NB.out]; omega) W D _ _ (by rw [NB.out]; omega) HK.out rfl rfl)
end Go.Proofs.YtmnleknehjkmgaaGreat
namespace Go.Proofs.YtmnleknehjkmgaaGreat
open Go.RowKit Go.Shelf Go.Deep
attribute [local go_sem] Oper.semAt_some
attribute [local irreducible] Go.Mixed.wpMix
def RowW (w : World) (g : Nat) (ws : List Nat) : Prop := w.heap[g]? = some (.cells (cellsN ws).toArray 3 (0, 0))
theorem RowW.lt {w : World} {g : Nat} {ws : List Nat} (h : RowW w g ws) : g < w.heap.size := (Array.getElem?_eq_some_iff.1 h).1
theorem RowW.all {w w' : World} {g : Nat} {ws : List Nat} (h : RowW w g ws) (hb : Below w.heap.size w w') : RowW w' g ws := (hb.block g h.lt).trans h
theorem RowW.cell {w : World} {g : Nat} {ws : List Nat} (h : RowW w g ws) {k : Nat} (hk : k < ws.length) : w.cell? ⟨g, k, none⟩ = some (.int .i64 (ws.getD k 0 : Nat)) := by
  rw [Lib.cell_of_heap h k]
  unfold cellsN
  simp [List.getD, List.getElem?_eq_getElem hk]
theorem RowW.frozen {w : World} {g : Nat} {ws : List Nat} (h : RowW w g ws) (k : Nat) : w.frozen? ⟨g, k, none⟩ = false := Lib.frozen_of_heap h k
theorem RowW.set {w : World} {g : Nat} {ws : List Nat} (h : RowW w g ws) (k v : Nat) : RowW (w.setCell ⟨g, k, none⟩ (.int .i64 (v : Nat))) g (ws.set k v) := by
  have e : (w.setCell ⟨g, k, none⟩ (.int .i64 (v : Nat))).heap[g]? = some (.cells ((cellsN ws).toArray.setIfInBounds k (.int .i64 (v : Nat))) 3 (0, 0)) := heap_setCell_same w g k _ _ (.int .i64 (v : Nat)) h
  unfold RowW
  rw [e]
  congr 2
  unfold cellsN
  simp [List.map_set]
theorem made_zero (n : Nat) : madeCells #[Value.int .i64 0] n = (cellsN (List.replicate n 0)).toArray := by
  refine Array.ext (by rw [size_madeCells]; simp [cellsN]) fun i h1 h2 => ?_
  rw [size_madeCells] at h1
  simp [madeCells, cellsN, Nat.mod_one]
theorem getD_set (ws : List Nat) (i v k : Nat) (hi : i < ws.length) : (ws.set i v).getD k 0 = if k = i then v else ws.getD k 0 := by
  simp only [List.getD, List.getElem?_set]
  by_cases h : i = k
  · subst h
    simp [hi]
  · rw [if_neg h, if_neg (fun e => h e.symm)]
def WSt (b : Str) (l : Nat) (ws : List Nat) (i v : Nat) : Prop := ws.length = l + 1 ∧ ws.getD i 0 = v ∧ (∀ k, i < k → k ≤ l → ws.getD k 0 = onlyB (b.drop k)) ∧ ∀ k, k < i → ws.getD k 0 = 0
theorem rsplit13_any (b : Str) (A : Option Addr) (cap l : Nat) (hl : b.length = l) (hc : l ≤ cap) (hcm : cap ≤ maxLen) (hl2 : l ≤ 10000) (w : World) (H : BytesAt w A b) :
    Calls Tryz.prog 25 #[.slice A l cap] w fun e w' => e = .returned (.int .i64 (onlyB b : Nat)) ∧ Below w.heap.size w w' := by
  obtain ⟨g, hg⟩ : ∃ z, w.heap.size = z := ⟨_, rfl⟩
  have HN := Lib.hid hg
  have hmk : ∀ w, (Instr.makeSlice 38 (.int .i64 ((l : Int) + 1)) (.int .i64 ((l : Int) + 1))).run Tryz.prog w = .ok (.slice (some ⟨w.heap.size, 0, none⟩) (l + 1) (l + 1)) (w.alloc (.cells (madeCells #[.int .i64 0] (l + 1)) 3)) := fun w => by
    have h := run_make_row' (P := Tryz.prog) 38 3 (.int .i64 0) 8 Tryz.underlying38 info_i64 rfl .i64 .i64 (l + 1) (by omega) (by omega) w
    rw [show ((l + 1 : Nat) : Int) = (l : Int) + 1 by omega] at h
    exact h
  rw [made_zero] at hmk
  obtain ⟨W1, hW1⟩ : ∃ z, w.alloc (.cells (cellsN (List.replicate (l + 1) 0)).toArray 3) = z := ⟨_, rfl⟩
  have y1 : Below w.heap.size w W1 := by rw [← hW1]; exact (Below.refl _ _).alloc (Nat.le_refl _) _
  have r1 : RowW W1 g (List.replicate (l + 1) 0) := by rw [← hW1, ← hg]; exact World.alloc_heap_new w _
  have c1 := r1.cell (k := l) (by simp)
  have f1 := r1.frozen l
  obtain ⟨W2, hW2⟩ : ∃ z, W1.setCell ⟨g, l, none⟩ (.int .i64 1) = z := ⟨_, rfl⟩
  have r2 : RowW W2 g ((List.replicate (l + 1) 0).set l 1) := by rw [← hW2]; exact r1.set l 1
  have R2 := Lib.hid r2
  have S2 : Hid (WSt b l ((List.replicate (l + 1) 0).set l 1) l 1) := by
    refine ⟨by simp, by rw [getD_set _ _ _ _ (by simp), if_pos rfl], fun k h1 h2 => by omega, fun k hk => ?_⟩
    rw [getD_set _ _ _ _ (by simp), if_neg (by omega)]
    simp only [List.getD, List.getElem?_replicate]
    split <;> rfl
  have B2 : Hid (Below g w W2) := by
    rw [hg] at y1
    show Below g w W2
    rw [← hW2]
    exact y1.setCell (p := ⟨g, l, none⟩) (Nat.le_refl _) _
  have HL := Lib.hid hl
  have HA : Hid (∀ w', Below g w w' → BytesAt w' A b) := fun w' hb => H.below (by rw [hg]; exact hb)
  have HC : Hid (l ≤ cap ∧ cap ≤ maxLen) := ⟨hc, hcm⟩
  clear H hl r1 r2 y1 hc hcm
  go_enter Tryz.func25, Tryz.ntmps25
  go_wp2
  clear c1 f1 hmk hW1 hg hW2
  go_loopw [4] (fun vi wr => ∃ (j : Nat) (z : Int) (ws : List Nat), j ≤ l ∧ vi = .int .i64 z ∧ z = (j : Int) - 1 ∧ Hid (RowW wr g ws) ∧ Hid (WSt b l ws j (onlyB (b.drop j))) ∧ Hid (Below g w wr)) (fun vi _ => (intOf vi + 1).toNat)
  case atStart =>
    have e : onlyB (b.drop l) = 1 := by rw [List.drop_of_length_le (by rw [HL.out]; exact Nat.le_refl _)]; rfl
    exact ⟨l, (l : Int) - 1, _, Nat.le_refl _, rfl, rfl, R2.out, by rw [e]; exact S2.out, B2.out⟩
  case round =>
    clear R2 S2 B2
    obtain ⟨j, z, ws, hj, rfl, hz, RW, ST, BW⟩ := hrel
    cases j with
    | zero =>
      have hz0 : ¬ z ≥ 0 := by omega
      clear hz
      have c0 := RW.out.cell (k := 0) (by rw [ST.out.1]; omega)
      have e0 : ws.getD 0 0 = onlyB b := by rw [ST.out.2.1]; rfl
      rw [e0] at c0
      clear e0 RW ST HA HC HL
      go_wp2
      go_ret
      exact ⟨rfl, by rw [HN.out]; exact BW.out⟩
    | succ i =>
      obtain rfl : z = (i : Int) := by omega
      have hil : i < l := by omega
      have hBl : Hid ((b.drop i).length = l - i) := by show _ = _; rw [List.length_drop, HL.out]
      have hBne : Hid (b.drop i ≠ []) := drop_ne HL.out hil
      have W0 : Hid (WSt b l ws i (waysB (b.drop i) 0)) := by
        obtain ⟨w1, w2, w3, w4⟩ := ST.out
        refine ⟨w1, ?_, fun k h1 h2 => ?_, fun k hk => w4 k (by omega)⟩
        · rw [ways_zero hBne.out]
          exact w4 i (by omega)
        · by_cases e : k = i + 1
          · subst e; exact w2
          · exact w3 k (by omega) h2
      clear ST hz
      go_wp2
      go_loopw [5] (fun vn wr => ∃ (n : Nat) (ws : List Nat), 1 ≤ n ∧ n ≤ 5 ∧ n ≤ l - i + 1 ∧ vn = .int .i64 n ∧ Hid (RowW wr g ws) ∧ Hid (WSt b l ws i (waysB (b.drop i) (n - 1))) ∧ Hid (Below g w wr)) (fun vn _ => 6 - (intOf vn).toNat)
      case atStart => exact ⟨1, ws, Nat.le_refl _, by omega, by omega, rfl, RW.out, W0.out, BW.out⟩
      case round =>
        clear RW W0 BW
        obtain ⟨n, ws2, hn1, hn5, hnl, rfl, RW, ST, BW⟩ := hrel
        by_cases hgo : n ≤ 4 ∧ i + n ≤ l
        · obtain ⟨hn4, hin⟩ := hgo
          have hTl : ((b.drop i).take n).length = n := by rw [List.length_take, hBl.out]; omega
          have hTne : (b.drop i).take n ≠ [] := fun e => by rw [e] at hTl; simp at hTl; omega
          obtain ⟨gb, off, rfl, -⟩ := (HA.out wr BW.out).cellAt (j := i) (by rw [HL.out]; exact hil)
          have FI := rfirst12_any ((b.drop i).take n) hTne (some ⟨gb, off + i, none⟩) (cap - i) n hTl (by have := HC.out; omega) (by have := HC.out; omega) (by omega) wr (take_at (rest_at (HA.out wr BW.out) i) n)
          have WS := ways_step (b := b.drop i) (n := n - 1) (by rw [hBl.out]; omega)
          rw [Nat.sub_add_cancel hn1, List.drop_drop] at WS
          have WS := Lib.hid WS
          have HO : Hid (oneB (b.drop i) n = (okI (itR ((b.drop i).take n)) && decide ((itR ((b.drop i).take n)).raw.length = n))) := rfl
          have HK : Hid (∀ x : Ite, okI x = (decide (x.kind = 1) && !x.al)) := fun x => rfl
          obtain ⟨x, hx⟩ : ∃ z, itR ((b.drop i).take n) = z := ⟨_, rfl⟩
          rw [hx] at FI HO
          rw [HK.out] at HO
          have hcn : (0 : Int) ≤ (i : Int) + (n : Int) ∧ (i : Int) + (n : Int) ≤ (cap : Int) := by have := HC.out; omega
          have hcn2 : i + n ≤ cap := by have := HC.out; omega
          clear hTl hTne hx HK
          go_wp2_with fail
          refine FI.mono ?_
          rintro e w1 ⟨A1, c1, B1, d1, rfl, -, -, hb⟩
          obtain ⟨y, w2, hy, hw2, S2, y2, z2⟩ := Fr.box (Fr.nil w1) #[.int .i64 x.kind, .slice A1 x.raw.length c1, .string (sB x.m), .slice B1 x.C.length d1, .bool x.al] 34
          have I2 : ItAt w2 y x.kind (.slice A1 x.raw.length c1) (sB x.m) (.slice B1 x.C.length d1) x.al := S2.out.1
          obtain ⟨j0, j1, j2, j3, j4, j5⟩ := I2.cells
          have b2 : Below wr.heap.size wr w2 := hb.trans (y2.mono hb.size)
          have R2 := Lib.hid (RW.out.all b2)
          have gl := RW.out.lt
          have B2 : Hid (Below g w w2) := BW.out.trans (b2.mono (Nat.le_of_lt gl))
          have NO : Hid (oneB (b.drop i) n = false → WSt b l ws2 i (waysB (b.drop i) n)) := fun h => by
            rw [WS.out, h, if_neg (by decide)]
            exact ST.out
          have YES : Hid (oneB (b.drop i) n = true → (ws2.getD i 0 : Nat) ≤ 1 ∧ (ws2.getD (i + n) 0 : Nat) ≤ 1 ∧ i + n < ws2.length ∧ WSt b l (ws2.set i (min (ws2.getD i 0 + ws2.getD (i + n) 0) 1000)) i (waysB (b.drop i) n)) := fun h => by
            obtain ⟨w1, w2, w3, w4⟩ := ST.out
            have e1 := w3 (i + n) (by omega) hin
            have hwl := ways_le (b.drop i) (n - 1)
            have hol := only_le (b.drop (i + n))
            refine ⟨by omega, by omega, by omega, by rw [List.length_set]; exact w1, ?_, fun k h1 h2 => ?_, fun k hk => ?_⟩
            · rw [getD_set _ _ _ _ (by omega), if_pos rfl, WS.out, h, if_pos rfl, w2, e1]
            · rw [getD_set _ _ _ _ (by omega), if_neg (by omega)]
              exact w3 k h1 h2
            · rw [getD_set _ _ _ _ (by omega), if_neg (by omega)]
              exact w4 k hk
          obtain ⟨c, hcv⟩ : ∃ z, oneB (b.drop i) n = z := ⟨_, rfl⟩
          rw [hcv] at HO NO YES
          obtain ⟨rl, hrl⟩ : ∃ z, x.raw.length = z := ⟨_, rfl⟩
          obtain ⟨kd, hkd⟩ : ∃ z, x.kind = z := ⟨_, rfl⟩
          obtain ⟨al, hal⟩ : ∃ z, x.al = z := ⟨_, rfl⟩
          rw [hrl, hkd, hal] at HO
          rw [hrl] at j1
          rw [hkd] at j0
          rw [hal] at j4
          have hne : rl ≠ n → ((rl : Int) == (n : Int)) = false := fun h => beq_eq_false_iff_ne.2 (by omega)
          have hn6 : 6 - (n + 1) < 6 - n := by omega
          clear FI hb S2 I2 y2 b2 ST RW BW WS hcv hrl hkd hal hn5 hnl
          by_cases q1 : kd = 1
          · subst q1
            have q1' : ((1 : Int) == 1) = true := rfl
            cases al with
            | true =>
              have N := Lib.hid (NO.out (by rw [HO.out]; rfl))
              clear NO YES HO hne
              go_wp2
              go_roundw
              case rel => exact ⟨n + 1, ws2, by omega, by omega, by omega, by go_num, R2.out, N.out, B2.out⟩
              case measure => simp [intOf]; omega
            | false =>
              by_cases q3 : rl = n
              · subst q3
                have q3' : ((rl : Int) == (rl : Int)) = true := beq_self_eq_true _
                obtain ⟨k1, k2, k3, k4⟩ := YES.out (by rw [HO.out]; simp)
                have k4 := Lib.hid k4
                have hil3 : i < ws2.length := by omega
                have cA := R2.out.cell (k := i) (by omega)
                have cB := R2.out.cell (k := i + rl) k3
                obtain ⟨a1, ha1⟩ : ∃ z, ws2.getD i 0 = z := ⟨_, rfl⟩
                obtain ⟨a2, ha2⟩ : ∃ z, ws2.getD (i + rl) 0 = z := ⟨_, rfl⟩
                rw [ha1] at cA k1 k4
                rw [ha2] at cB k2 k4
                obtain ⟨mn, hmn⟩ : ∃ z, min (a1 + a2) 1000 = z := ⟨_, rfl⟩
                have hmn2 : a1 + a2 = mn := by omega
                rw [hmn] at k4
                have CL : Hid (∀ w', RowW w' g ws2 → w'.cell? ⟨g, i, none⟩ = some (.int .i64 (a1 : Nat)) ∧ w'.cell? ⟨g, i + rl, none⟩ = some (.int .i64 (a2 : Nat)) ∧ w'.frozen? ⟨g, i, none⟩ = false) := fun w' h => by
                  have h1 := h.cell (k := i) hil3
                  have h2 := h.cell (k := i + rl) k3
                  rw [ha1] at h1
                  rw [ha2] at h2
                  exact ⟨h1, h2, h.frozen i⟩
                clear NO YES HO hne ha1 ha2 hmn
                go_upto_region 11 with fail
                obtain ⟨w3, hw3⟩ : ∃ z, w2.drew = z := ⟨_, rfl⟩
                have hd : Below w2.heap.size w2 w3 := by rw [← hw3]; exact below_drewN w2 _ 1
                have R3 := Lib.hid (R2.out.all hd)
                have B3 : Hid (Below g w w3) := B2.out.trans (hd.mono (Nat.le_of_lt R2.out.lt))
                clear cA cB hd
                refine Mixed.wp_region_mixed (fun w' => RowW w' g ws2) 15 [(0, true), (1, true), (2, true), (3, true), (4, true), (5, true), (6, true), (7, true), (8, true), (9, true), (10, true), (11, true), (12, true), (13, true), (14, true)] (by kernel_rfl) (by kernel_rfl) (by rw [hw3]; exact R3.out) ?_
                rw [hw3]
                clear hw3
                refine Mixed.mo rfl (.slice (some ⟨g, 0, none⟩) (l + 1) (l + 1)) (fun w h => by clear h; go_simp; try rfl) ?_
                refine Mixed.mo rfl (.int .i64 i) (fun w h => by clear h; go_simp; try rfl) ?_
                refine Mixed.mo rfl (.slice (some ⟨g, 0, none⟩) (l + 1) (l + 1)) (fun w h => by clear h; go_simp; try rfl) ?_
                refine Mixed.mo rfl (.int .i64 i) (fun w h => by clear h; go_simp; try rfl) ?_
                refine Mixed.mo rfl (.pointer (some ⟨g, i, none⟩)) (fun w h => by clear h; go_simp; first | rfl | (intro h; exfalso; omega)) ?_
                refine Mixed.mo rfl (.int .i64 (a1 : Nat)) (fun w h => by obtain ⟨h1, -⟩ := CL.out w h; clear h; go_simp; try rfl) ?_
                refine Mixed.mo rfl (.slice (some ⟨g, 0, none⟩) (l + 1) (l + 1)) (fun w h => by clear h; go_simp; try rfl) ?_
                refine Mixed.mo rfl (.int .i64 i) (fun w h => by clear h; go_simp; try rfl) ?_
                refine Mixed.mo rfl (.int .i64 rl) (fun w h => by clear h; go_simp; try rfl) ?_
                refine Mixed.mo rfl (.int .i64 ((i + rl : Nat) : Int)) (fun w h => by clear h; go_simp; rw [IntKind.wrap_i64]; omega) ?_
                refine Mixed.mo rfl (.pointer (some ⟨g, i + rl, none⟩)) (fun w h => by clear h; go_simp; rw [if_pos (by omega), show ((i : Int) + (rl : Int)).toNat = i + rl by omega]) ?_
                refine Mixed.mo rfl (.int .i64 (a2 : Nat)) (fun w h => by obtain ⟨-, h1, -⟩ := CL.out w h; clear h; go_simp; try rfl) ?_
                refine Mixed.mo rfl (.int .i64 (mn : Nat)) (fun w h => by clear h; go_simp; rw [IntKind.wrap_i64]; omega) ?_
                refine Mixed.mo rfl (.int .i64 (mn : Nat)) (fun w h => by clear h; go_simp; try omega) ?_
                refine Mixed.mo rfl (.pointer (some ⟨g, i, none⟩)) (fun w h => by clear h; go_simp; first | rfl | (intro h; exfalso; omega)) ?_
                obtain ⟨q1, -, q2⟩ := CL.out w3 R3.out
                have R4 : Hid (RowW (w3.setCell ⟨g, i, none⟩ (.int .i64 (mn : Nat))) g (ws2.set i mn)) := R3.out.set i mn
                have B4 : Hid (Below g w (w3.setCell ⟨g, i, none⟩ (.int .i64 (mn : Nat)))) := B3.out.setCell (p := ⟨g, i, none⟩) (Nat.le_refl _) _
                clear CL R3 B3 hmn2
                simp only [Mixed.wpMix, List.drop_succ_cons, List.drop_zero]
                go_wp2
                go_roundw
                case rel => exact ⟨rl + 1, ws2.set i mn, by omega, by omega, by omega, by go_num, R4.out, k4.out, B4.out⟩
                case measure => simp [intOf]; omega
              · have N := Lib.hid (NO.out (by rw [HO.out]; simp [q3]))
                have q3' := hne q3
                clear NO YES HO hne
                go_wp2
                go_roundw
                case rel => exact ⟨n + 1, ws2, by omega, by omega, by omega, by go_num, R2.out, N.out, B2.out⟩
                case measure => simp [intOf]; omega
          · have N := Lib.hid (NO.out (by rw [HO.out, decide_eq_false q1]; rfl))
            have q1' : (kd == 1) = false := beq_eq_false_iff_ne.2 q1
            clear NO YES HO hne q1
            go_wp2
            go_roundw
            case rel => exact ⟨n + 1, ws2, by omega, by omega, by omega, by go_num, R2.out, N.out, B2.out⟩
            case measure => simp [intOf]; omega
        · have WE : Hid (WSt b l ws2 i (onlyB (b.drop i))) := by
            have h := ST.out
            rw [ways_all hBne.out (m := n - 1) (by rw [hBl.out]; omega)] at h
            exact h
          clear ST HA HC
          have hx : ¬ ((n : Int) ≤ 4) ∨ ((n : Int) ≤ 4 ∧ ¬ ((i : Int) + (n : Int) ≤ (l : Int))) := by omega
          clear hgo
          rcases hx with t1 | ⟨t1, t2⟩
          · go_wp2
            go_roundw
            case rel => exact ⟨i, (i : Int) - 1, ws2, by omega, rfl, rfl, RW.out, WE.out, BW.out⟩
            case measure => simp [intOf]
          · go_wp2
            go_roundw
            case rel => exact ⟨i, (i : Int) - 1, ws2, by omega, rfl, rfl, RW.out, WE.out, BW.out⟩
            case measure => simp [intOf]
end Go.Proofs.YtmnleknehjkmgaaGreat
namespace Go.Proofs.YtmnleknehjkmgaaGreat
open Go.RowKit Go.Shelf
attribute [local go_sem] Oper.semAt_some
def onlN (L : List Ite) (j : Nat) : Nat := if (L.take j).all okI = true then 1 else 0
theorem onlN_succ (L : List Ite) {j : Nat} (h : j < L.length) : onlN L (j + 1) = if okI L[j] = true then onlN L j else 0 := by
  unfold onlN
  rw [List.take_succ_eq_append_getElem h, List.all_append]
  simp only [List.all_cons, List.all_nil, Bool.and_true]
  cases okI L[j] <;> simp
theorem onlN_all (L : List Ite) : onlN L L.length = if L.all okI = true then 1 else 0 := by unfold onlN; rw [List.take_length]
theorem walkIS (A : Option Addr) (cap : Nat) (b : Str) (w : World) (H : BytesAt w A b) (hc : b.length ≤ cap ∧ cap ≤ maxLen) (hM : MaxAt w) :
    Calls Tryz.prog 6 #[.slice A b.length cap] w fun e w' => e = .returned (.bool true) ∧ Below w.heap.size w w' := by
  obtain ⟨l, hl⟩ : ∃ z, b.length = z := ⟨_, rfl⟩
  rw [hl] at hc ⊢
  have AL := Lib.hid (fun w' (h : Below w.heap.size w w') => alive13_any w' (hM.below h))
  by_cases hbig : 300 < l
  · have t1 : ((l : Int) > 300) := by omega
    have A0 := AL.out w (Below.refl _ _)
    clear H hM hl hc AL
    go_enter Tryz.func6, Tryz.ntmps6
    go_wp2_with fail
    refine A0.mono ?_
    rintro e w1 ⟨rfl, hb⟩
    have B1 := Lib.hid hb
    clear A0 hb
    go_wp2
    go_ret
    exact ⟨rfl, B1.out⟩
  have t1 : ¬ ((l : Int) > 300) := by omega
  have RD := rdecode13_any b A cap l hl hc.1 hc.2 (by omega) w H
  have RS := Lib.hid (fun w' (h : Below w.heap.size w w') => rsplit13_any b A cap l hl hc.1 hc.2 (by omega) w' (H.below h))
  have SP := Lib.hid (fun w' (h : Below w.heap.size w w') => split_any b A cap l hl hc.1 hc.2 (by omega) w' (H.below h) (hM.below h))
  have HLN : Hid ((itemsR b).length ≤ 300) := by
    have := items_le b
    show _ ≤ _
    omega
  have HO : Hid (onlyB b = onlN (itemsR b) (itemsR b).length) := by show _ = _; rw [onlN_all]; rfl
  have hol := only_le b
  obtain ⟨N, hN⟩ : ∃ z, itemsR b = z := ⟨_, rfl⟩
  rw [hN] at RD HLN HO
  obtain ⟨ob, hob⟩ : ∃ z, onlyB b = z := ⟨_, rfl⟩
  rw [hob] at RS SP HO hol
  clear H hM hl hc hN hob hbig
  go_enter Tryz.func6, Tryz.ntmps6
  go_wp2_with fail
  refine RD.mono ?_
  rintro e w1 ⟨A', c, R, rfl, hR, hOw, hb⟩
  obtain ⟨m, hm⟩ : ∃ z, R.length = z := ⟨_, rfl⟩
  have HX : Hid (∀ j, j < m → ∃ r : Xe, (∀ w', Below w1.heap.size w1 w' → ItJ w' A' r j) ∧ onlN N (j + 1) = if okI r.x = true then onlN N j else 0) := fun j hj => by
    have hj' : j < R.length := by omega
    refine ⟨R[j], fun w' h => (hOw.itsP.below h).j hj', ?_⟩
    have hj2 : j < N.length := by rw [← hR, List.length_map]; exact hj'
    rw [onlN_succ N hj2]
    have e : N[j] = R[j].x := by simp [← hR]
    rw [e]
  have HM : Hid (m = N.length) := by show _ = _; rw [← hR, List.length_map]; exact hm.symm
  have hm3 : m ≤ 300 := by rw [HM.out]; exact HLN.out
  have B1 := Lib.hid hb
  rw [hm]
  clear RD hR hOw hb hm HLN
  go_wp2
  go_loopw [3, 14] (fun vo vi wr => ∃ j : Nat, j ≤ m ∧ vi = .int .i64 j ∧ vo = .int .i64 (onlN N j : Nat) ∧ Hid (Below w1.heap.size w1 wr)) (fun _ vi _ => m - (intOf vi).toNat)
  case atStart => exact ⟨0, Nat.zero_le _, rfl, rfl, Below.refl _ _⟩
  case round =>
    obtain ⟨j, hj, rfl, rfl, BW⟩ := hrel
    by_cases hlt : j < m
    · obtain ⟨r, h1, h2⟩ := HX.out j hlt
      obtain ⟨b1, o1, rfl, k0, k1, k2, k3, k4, -, -⟩ := h1 wr BW.out
      have E := Lib.hid h2
      obtain ⟨⟨kd, xs, ms, C, al⟩, ra, rca, rb, rcb⟩ := r
      simp only at k0 k1 k2 k3 k4
      obtain ⟨y, w2, hy, hw2, S2, y2, z2⟩ := Fr.box (Fr.nil wr) #[.int .i64 kd, .slice ra xs.length rca, .string (sB ms), .slice rb C.length rcb, .bool al] 34
      have I2 : ItAt w2 y kd (.slice ra xs.length rca) (sB ms) (.slice rb C.length rcb) al := S2.out.1
      obtain ⟨j0, j1, j2, j3, j4, j5⟩ := I2.cells
      have V2 : Hid (al = false → w2.setCell ⟨y, 4, none⟩ (.bool false) = w2) := fun h => set_id5 I2 (by rw [h]; rfl)
      have B2 : Hid (Below w1.heap.size w1 w2) := BW.out.trans (y2.mono BW.out.size)
      have OK : okI (⟨kd, xs, ms, C, al⟩ : Ite) = (decide (kd = 1) && !al) := rfl
      simp only [OK] at E
      clear h1 h2 S2 y2 I2 BW OK
      by_cases q1 : kd = 1
      · subst q1
        have q1' : ((1 : Int) != 1) = false := rfl
        cases al with
        | true =>
          have E2 : Hid (onlN N (j + 1) = 0) := by show _ = _; rw [E.out]; rfl
          clear E
          go_wp2
          go_roundw
          case rel => exact ⟨j + 1, by omega, by go_num, by rw [E2.out]; rfl, B2.out⟩
          case measure => simp [intOf]; omega
        | false =>
          have v2 : w2.setCell ⟨y, 4, none⟩ (.bool false) = w2 := V2.out rfl
          have E2 : Hid (onlN N (j + 1) = onlN N j) := by show _ = _; rw [E.out]; rfl
          clear E
          go_wp2
          go_roundw
          case rel => exact ⟨j + 1, by omega, by go_num, by rw [E2.out], B2.out⟩
          case measure => simp [intOf]; omega
      · have q1' : (kd != 1) = true := bne_iff_ne.2 q1
        have E2 : Hid (onlN N (j + 1) = 0) := by show _ = _; rw [E.out, decide_eq_false q1]; rfl
        clear E q1
        go_wp2
        go_roundw
        case rel => exact ⟨j + 1, by omega, by go_num, by rw [E2.out]; rfl, B2.out⟩
        case measure => simp [intOf]; omega
    · obtain rfl : m = j := by omega
      have EO : Hid (onlN N m = ob) := by show _ = _; rw [HO.out, HM.out]
      rw [EO.out]
      have BX : Hid (Below w.heap.size w wr) := B1.out.trans (BW.out.mono B1.out.size)
      have R0 := RS.out wr BX.out
      clear HX HM HO B1 BW EO RS
      go_wp2_with fail
      refine R0.mono ?_
      rintro e w3 ⟨rfl, hb⟩
      have B3 : Hid (Below w.heap.size w w3) := BX.out.trans (hb.mono BX.out.size)
      have A3 := AL.out w3 B3.out
      clear R0 hb BX
      go_wp2_with fail
      refine A3.mono ?_
      rintro e w4 ⟨rfl, hb⟩
      have B4 : Hid (Below w.heap.size w w4) := B3.out.trans (hb.mono B3.out.size)
      have S4 := SP.out w4 B4.out
      clear A3 hb B3 AL
      go_wp2_with fail
      refine S4.mono ?_
      rintro e w5 ⟨rfl, hb⟩
      have B5 : Hid (Below w.heap.size w w5) := B4.out.trans (hb.mono B4.out.size)
      have e1 : ((ob : Int) == (ob : Int)) = true := beq_self_eq_true _
      clear S4 hb B4 SP
      go_wp2
      go_ret
      exact ⟨rfl, B5.out⟩
end Go.Proofs.YtmnleknehjkmgaaGreat
