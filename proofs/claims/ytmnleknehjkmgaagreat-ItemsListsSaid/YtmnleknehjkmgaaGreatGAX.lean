/-
  DgM, ItG, ItH.
-/
import Derived.Test.YtmnleknehjkmgaaGreatGAU
import Derived.Test.YtmnleknehjkmgaaGreatMSeN
import Derived.Test.YtmnleknehjkmgaaGreatGAQ
import Derived.Test.YtmnleknehjkmgaaGreatGAW
set_option linter.all false
set_option maxRecDepth 100000
set_option maxHeartbeats 4000000
namespace Go.Proofs.YtmnleknehjkmgaaGreat
open Go.RowKit Go.Shelf
theorem itC_le (b : Str) : (itR b).C.length ≤ 3 := by
  cases h : hdB b with
  | none => unfold itR; rw [h]; exact Nat.zero_le _
  | some q =>
    obtain ⟨p, o, t⟩ := q
    rw [it_of h]
    cases hx : ratT p o.toNat with
    | none => simp only; split <;> exact Nat.zero_le _
    | some x =>
      simp only
      split
      · exact Nat.zero_le _
      · cases hf : fillV x.2.2.1 x.2.1 (numB x.2.2.1 t).1 (numB x.2.2.1 t).2 with
        | none => exact Nat.zero_le _
        | some C =>
          have h1 := congrArg List.length (fill_shape hf).1
          rw [List.length_map, List.length_map] at h1
          have h2 := (InTab.ok (k := (p, (o.toNat : Int), x.1, x.2.1, x.2.2.1, x.2.2.2)) ⟨o.toNat, o.toNat_lt, rfl, hx⟩).len
          simp only at h2
          show C.length ≤ 3
          omega
end Go.Proofs.YtmnleknehjkmgaaGreat
namespace Go.Proofs.YtmnleknehjkmgaaGreat
open Go.RowKit Go.Shelf
attribute [local go_sem] Oper.semAt_some
attribute [local irreducible] Go.Mixed.wpMix
theorem items_mem {b : Str} {x : Ite} : x ∈ itemsR b → ∃ b', x = itR b' := by
  refine items_ind (P := fun b => x ∈ itemsR b → ∃ b', x = itR b') (fun h => (by cases h)) (fun b hb ih h => ?_) b
  rw [items_cons hb] at h
  rcases List.mem_cons.1 h with h | h
  · exact ⟨b, h⟩
  · exact ih h
theorem items_C {b : Str} {x : Ite} (h : x ∈ itemsR b) : x.C.length ≤ 3 := by
  obtain ⟨b', rfl⟩ := items_mem h
  exact itC_le b'
theorem take_no {L M : List Ite} {j : Nat} {pre : List Ite} {x : Ite} (hp : pre ++ [x] <+: L) (hj : pre.length = j) (h : ∀ (h : j < M.length), M[j] ≠ x) : decide (L = M) = false := by
  refine decide_eq_false fun e => ?_
  subst e
  obtain ⟨t, rfl⟩ := hp
  subst hj
  exact h (by simp) (by simp)
theorem beq_no {a b : Nat} (h : a ≠ b) : ((a : Int) == (b : Int)) = false := beq_eq_false_iff_ne.2 (by omega)
theorem holds_any (Bs : Nat) (b : Str) (A : Option Addr) (cap l : Nat) (hl : b.length = l) (hc : l ≤ cap) (hcm : cap ≤ maxLen) (hl2 : l ≤ 90000) (R : List Xe) (Ar : Option Addr) (lr cr : Nat) (hr : R.length = lr) (CR : ∀ r ∈ R, r.x.C.length ≤ 1000) (w : World) (hs : Boxed w Bs 22 (.slice A l cap)) (HB : BytesAt w A b) (hM : MaxAt w) (HR : ItsP w Ar R) :
    Calls Tryz.prog 34 #[.agg #[.func (.func 33) #[] #[]], .func (.func 41) #[] #[.pointer (some ⟨Bs, 0, none⟩)], .slice Ar lr cr] w fun e w' => e = .returned (.bool (decide (itemsR b = R.map Xe.x))) ∧ Below w.heap.size w w' := by
  obtain ⟨n, hn⟩ : ∃ z, w.heap.size = z := ⟨_, rfl⟩
  obtain ⟨n0, W1, e1, hW1, S1, y1, z1⟩ := Fr.box (Fr.nil w) #[.func (.func 33) #[] #[]] 59
  obtain ⟨n1, W2, e2, hW2, S2, y2, z2⟩ := Fr.box S1 #[.slice Ar lr cr] 24
  obtain ⟨n2, W3, e3, hW3, S3, y3, z3⟩ := Fr.box S2 #[.bool false] 4
  obtain ⟨n3, W0, e4, hW0, S0, y4, z4⟩ := Fr.box S3 #[.int .i64 0] 3
  obtain rfl : n0 = n := by omega
  obtain rfl : n1 = n0 + 1 := by omega
  obtain rfl : n2 = n0 + 1 + 1 := by omega
  obtain rfl : n3 = n0 + 1 + 1 + 1 := by omega
  have y0 : Below w.heap.size w W0 := ((y1.trans (y2.mono (by omega))).trans (y3.mono (by omega))).trans (y4.mono (by omega))
  have b3 : Boxed W0 (n0 + 1 + 1 + 1) 3 (.int .i64 0) := S0.out.1
  have b2 : Boxed W0 (n0 + 1 + 1) 4 (.bool false) := S0.out.2.1
  have b1 : Boxed W0 (n0 + 1) 24 (.slice Ar lr cr) := S0.out.2.2.1
  have b0 : Boxed W0 n0 59 (.func (.func 33) #[] #[]) := S0.out.2.2.2.1
  have hseq := items_tellsQ 2 Bs (n0 + 1 + 1 + 1) b A cap l hl hc hcm (by omega) W0 ((y0.block Bs hs.lt).trans hs) (HB.below y0) (hM.below y0) (by omega) (by have := hs.lt; omega) (fun a ha hne => by have := bytes_lt HB a ha hne; omega) (by have := hM.lt; omega)
  have FX : Hid (∀ (W : World), Below (n0 + 1 + 1 + 1) W0 W → Boxed W (n0 + 1 + 1) 4 (.bool false) ∧ Boxed W (n0 + 1) 24 (.slice Ar lr cr) ∧ Boxed W n0 59 (.func (.func 33) #[] #[]) ∧ ItsP W Ar R ∧ Below n0 w W) := fun W h =>
    ⟨(h.block _ (by omega)).trans b2, (h.block _ (by omega)).trans b1, (h.block _ (by omega)).trans b0, HR.below (y0.trans (h.mono (by omega))), by rw [hn] at y0; exact y0.trans (h.mono (by omega))⟩
  have NB : Hid (w.heap.size = n0) := hn
  have v0 := b3.cell
  have v1 := b3.frozen
  have v2 := set_id b3
  have B3 := Lib.hid b3
  have HLR := Lib.hid hr
  have HCR := Lib.hid CR
  have HL : Hid (l ≤ 90000 ∧ b.length = l) := ⟨hl2, hl⟩
  clear hl hc hcm hl2 hs HB hM HR b0 b1 b2 b3 S1 S2 S3 S0 y0 y1 y2 y3 y4 hr CR
  refine callsIn_wide.1 (callsIn_of_wp_marks (n := 3) Tryz.func34 rfl trivial ?_ rfl)
  simp only [Tryz.ntmps34, List.size_toArray, List.length_cons, List.length_nil, Nat.reduceAdd, Nat.reduceSub, Array.replicate_succ, Array.replicate_zero, List.push_toArray, List.append_toArray, List.nil_append, List.cons_append]
  refine wpIn_wide.2 ?_
  go_wp2_with fail
  clear v0 v1 v2 hW1 hW2 hW3 hW0 z1 z2 z3 hn e1 e2 e3 e4
  rw [z4] at hseq
  refine wpIn_wide.1 (Stops.wpIn_tellsQ (F := Fence.wide) (n := 3) rfl (by omega) (gf := 41) (lb := #[.pointer (some ⟨Bs, 0, none⟩)]) rfl trivial (enters_of Tryz.func41 (by kernel_rfl) rfl)
    hseq (fun h k => h.trans k) (fun q W l o o' _ hl ho => Kq.put q (n0 + 1 + 1 + 1) W l o o' hl ho) (fun _ => rfl)
    (fun q pre W => pre.length ≤ lr ∧ pre.map Xe.x = (R.map Xe.x).take pre.length ∧ Boxed W (n0 + 1 + 1 + 1) 3 (.int .i64 (pre.length : Nat)) ∧ Below (n0 + 1 + 1 + 1) W0 W)
    (fun q pre W => decide (itemsR b = R.map Xe.x) = false ∧ Below (n0 + 1 + 1 + 1) W0 W)
    (fun q hq s X Y row h hg hr => ⟨h.1, h.2.1, h.2.2.1.kept hg (fun e => by have := (hr _ e.symm).1; omega), h.2.2.2.grown hg (by have := h.2.2.1.lt; omega) (fun r e => by have := (hr r e).1; omega)⟩)
    (fun q hq s X Y h hg hT => ⟨h.1, h.2.1, h.2.2.1.kept hg (fun e => by have := Option.some.inj e; omega), h.2.2.2.grown hg (by have := h.2.2.1.lt; omega) (fun r e => by have := Option.some.inj e; omega)⟩)
    (fun q hq s X Y row h hg hr => ⟨h.1, h.2.grown hg (by have := h.2.size; omega) (fun r e => by have := (hr r e).1; omega)⟩)
    (fun q X hq hb hqX => ⟨Nat.zero_le _, rfl, (hb.block (n0 + 1 + 1 + 1) (by omega)).trans B3.out, hb.mono (by omega)⟩)
    (fun q pre x a' W => OwnX W (n0 + 1 + 1 + 1 + 1) x ∧ (pre ++ [x]).map Xe.x <+: itemsR b ∧ ∃ k, q < k ∧ ItAt W k x.x.kind (.slice x.A x.x.raw.length x.ca) (sB x.x.m) (.slice x.B x.x.C.length x.cb) x.x.al ∧ a' = { tmps := #[.agg #[.func (.func 33) #[] #[]], .func (.func 41) #[] #[.pointer (some ⟨Bs, 0, none⟩)], .slice Ar lr cr, .pointer (some ⟨n0, 0, none⟩), undef, .pointer (some ⟨n0 + 1, 0, none⟩), .pointer (some ⟨n0 + 1 + 1, 0, none⟩), .pointer (some ⟨n0 + 1 + 1 + 1, 0, none⟩), .pointer (some ⟨k, 0, none⟩), .func (.func 41) #[] #[.pointer (some ⟨Bs, 0, none⟩)], x.v, undef, undef, undef, undef, undef, undef, undef, undef, undef, undef, undef, undef, undef, undef, undef, undef, undef, undef, undef, undef, undef], defers := [] })
    (fun q pre x s X Y row h hg hr => by
      obtain ⟨h0, h1, k, h2, h3, h4⟩ := h
      exact ⟨h0.keeps hg (fun r e => (hr r e).2), h1, k, h2, h3.keeps hg (fun r e => (hr r e).2), h4⟩)
    ?assign ?body ?done ?stop)
  case assign =>
    rintro lp q pre x W K hq hqW ⟨i1, i2, i3, i4⟩ hE hK
    simp only [Xe.v] at hK ⊢
    gi_wp2
    exact hK _ _ ((KeepsOthers.alloc _ _).from _) (Kq.of_below (up1 _ _)) (by simp; omega) ⟨i1, i2, i3.alloc _, i4.trans ((up1 _ _).mono (by omega))⟩ ⟨hE.2.below (up1 _ _), hE.1, W.heap.size, hqW, World.alloc_heap_new W _, rfl⟩
  case body =>
    rintro lp q pre x a' W hq hqW ⟨i1, i2, i3, i4⟩ ⟨hX, hpre, k, hk, hI, rfl⟩
    obtain ⟨f1, f2, f3, f4, f5⟩ := FX.out W i4
    obtain ⟨j, hj⟩ : ∃ z, pre.length = z := ⟨_, rfl⟩
    rw [hj] at i1 i2 i3
    have KL : j ≤ 90000 := by
      have h2 := hpre.length_le
      have h3 := items_le b
      have h4 := HL.out
      simp only [List.length_map, List.length_append, List.length_cons, List.length_nil] at h2
      omega
    have XC : x.x.C.length ≤ 1000 := by
      have hm : x.x ∈ itemsR b := hpre.subset (by simp)
      have := items_C hm
      omega
    have hpre2 := hpre
    rw [List.map_append] at hpre2
    have HW : Hid (n0 + 1 + 1 + 1 < W.heap.size ∧ q < W.heap.size) := ⟨i3.lt, hqW⟩
    have CC : Hid (∀ w', Below W.heap.size W w' → w'.cell? ⟨n0 + 1 + 1 + 1, 0, none⟩ = some (.int .i64 j) ∧ w'.cell? ⟨n0 + 1, 0, none⟩ = some (.slice Ar lr cr) ∧ w'.cell? ⟨n0, 0, none⟩ = some (.func (.func 33) #[] #[]) ∧ ItAt w' k x.x.kind (.slice x.A x.x.raw.length x.ca) (sB x.x.m) (.slice x.B x.x.C.length x.cb) x.x.al) := fun w' h => by
      have g1 : Boxed w' (n0 + 1 + 1 + 1) 3 _ := (h.block _ i3.lt).trans i3
      have g2 : Boxed w' (n0 + 1) 24 _ := (h.block _ f2.lt).trans f2
      have g3 : Boxed w' n0 59 _ := (h.block _ f3.lt).trans f3
      exact ⟨g1.cell, g2.cell, g3.cell, hI.all h⟩
    have STOP : Hid ((∀ (h : j < (R.map Xe.x).length), (R.map Xe.x)[j] ≠ x.x) → ∀ w', Below W.heap.size W w' → KeepsFrom (n0 + 1 + 1 + 1 + 1) W (w'.setCell ⟨n0 + 1 + 1, 0, none⟩ (.bool false)) ∧ decide (itemsR b = R.map Xe.x) = false ∧ Below (n0 + 1 + 1 + 1) W0 (w'.setCell ⟨n0 + 1 + 1, 0, none⟩ (.bool false)) ∧ w'.frozen? ⟨n0 + 1 + 1, 0, none⟩ = false ∧ w'.cell? ⟨n0 + 1 + 1, 0, none⟩ = some (.bool false)) := fun hne w' h => by
      have g1 : Boxed w' (n0 + 1 + 1) 4 (.bool false) := (h.block _ f1.lt).trans f1
      have hsame : w'.setCell ⟨n0 + 1 + 1, 0, none⟩ (.bool false) = w' := set_id g1
      rw [hsame]
      exact ⟨keeps_b h _, take_no hpre2 (by simp [hj]) hne, i4.trans (h.mono (by omega)), g1.frozen, g1.cell⟩
    have GO : Hid (∀ (h : j < (R.map Xe.x).length), (R.map Xe.x)[j] = x.x → ∀ w', Below W.heap.size W w' → KeepsFrom (n0 + 1 + 1 + 1 + 1) W (w'.setCell ⟨n0 + 1 + 1 + 1, 0, none⟩ (.int .i64 ((j + 1 : Nat) : Int))) ∧ Kq q (n0 + 1 + 1 + 1) W (w'.setCell ⟨n0 + 1 + 1 + 1, 0, none⟩ (.int .i64 ((j + 1 : Nat) : Int))) ∧ (pre ++ [x]).length ≤ lr ∧ (pre ++ [x]).map Xe.x = (R.map Xe.x).take (pre ++ [x]).length ∧ Boxed (w'.setCell ⟨n0 + 1 + 1 + 1, 0, none⟩ (.int .i64 ((j + 1 : Nat) : Int))) (n0 + 1 + 1 + 1) 3 (.int .i64 ((pre ++ [x]).length : Nat)) ∧ Below (n0 + 1 + 1 + 1) W0 (w'.setCell ⟨n0 + 1 + 1 + 1, 0, none⟩ (.int .i64 ((j + 1 : Nat) : Int))) ∧ w'.frozen? ⟨n0 + 1 + 1 + 1, 0, none⟩ = false) := fun hlt heq w' h => by
      have g1 : Boxed w' (n0 + 1 + 1 + 1) 3 (.int .i64 j) := (h.block _ i3.lt).trans i3
      have hln : (pre ++ [x]).length = j + 1 := by simp [hj]
      refine ⟨(keeps_b h _).trans ((KeepsOthers.setCell _ _ _).from _), ⟨by have := h.size; simpa using this, fun y o h1 h2 h3 h4 => (heap_setCell_other w' ⟨n0 + 1 + 1 + 1, 0, none⟩ y _ h2).trans ((h.block y (Array.getElem?_eq_some_iff.1 h3).1).trans h3)⟩, ?_, ?_, ?_, ?_, g1.frozen⟩
      · rw [hln]
        have := HLR.out
        simp only [List.length_map] at hlt
        omega
      · rw [hln, List.map_append, i2, List.take_succ_eq_append_getElem hlt, heq]
        rfl
      · rw [hln]
        exact Boxed.set _ g1
      · exact (i4.trans (h.mono (by omega))).setCell (p := ⟨n0 + 1 + 1 + 1, 0, none⟩) (Nat.le_refl _) _
    have HXO : Hid (∀ w', Below W.heap.size W w' → BytesAt w' x.A x.x.raw ∧ OpsP w' x.B x.x.C) := fun w' h => ⟨(hX.below h).bytes, (hX.below h).ops⟩
    have HRP : Hid (∀ w', Below W.heap.size W w' → ItsP w' Ar R) := fun w' h => f4.below h
    have BR := Lib.hid (Below.refl W.heap.size W)
    clear i2 i3 i4 hX hpre hpre2 hI f1 f2 f3 f4 f5
    obtain ⟨w3, hw3⟩ : ∃ z, W.drew = z := ⟨_, rfl⟩
    have BB3 : Hid (Below W.heap.size W w3) := by rw [← hw3]; exact below_drewN W _ 1
    by_cases hlt : j < lr
    · have hjR : j < R.length := by rw [HLR.out]; exact hlt
      have hjM : j < (R.map Xe.x).length := by rw [List.length_map]; exact hjR
      have hRx : (R.map Xe.x)[j] = R[j].x := by simp
      have YC := HCR.out _ (List.getElem_mem hjR)
      have RJ : Hid (∀ w', Below W.heap.size W w' → ItJ w' Ar R[j] j) := fun w' h => (HRP.out w' h).j hjR
      have NE := Lib.hid (fun (h : R[j].x ≠ x.x) => STOP.out (fun h' => by rw [hRx]; exact h))
      have EQ := Lib.hid (fun (h : R[j].x = x.x) => GO.out hjM (by rw [hRx]; exact h))
      obtain ⟨r, hr⟩ : ∃ z, R[j] = z := ⟨_, rfl⟩
      rw [hr] at RJ NE EQ YC
      obtain ⟨b1, o1, rfl, -⟩ := RJ.out W BR.out
      have DS := Lib.hid (fun w' (h : Below W.heap.size W w') => dsame_any x.x.kind r.x.kind x.x.raw r.x.raw x.x.m r.x.m x.x.al r.x.al x.A r.A x.B r.B x.ca r.ca x.cb r.cb x.x.C r.x.C XC YC w' (HXO.out w' h).1 (RJ.out w' h).choose_spec.choose_spec.2.2.2.2.2.2.1 (HXO.out w' h).2 (RJ.out w' h).choose_spec.choose_spec.2.2.2.2.2.2.2)
      have HQ : Hid ((decide (x.x.kind = r.x.kind) && decide (x.x.raw = r.x.raw) && (decide (x.x.m = r.x.m) && decide (x.x.C = r.x.C)) && (x.x.al == r.x.al)) = decide (x.x = r.x)) := eqIt_iff x.x r.x
      rw [HQ.out] at DS
      have hq : ((j : Int) == (lr : Int)) = false := beq_no (by omega)
      clear STOP GO HQ hRx hr hjR hjM HRP HXO XC YC
      gi_wp2_with fail
      refine Mixed.wpIn_region_mixed (fun w' => Below W.heap.size W w') 13 [(0, true), (1, true), (2, true), (3, true), (4, true), (5, true), (6, true), (7, true), (8, true), (9, true), (10, true), (11, true), (12, false)] (by kernel_rfl) (fun ⟨_, _, h⟩ => h) (by kernel_rfl) (by kernel_rfl) (by rw [hw3]; exact BB3.out) ?_
      rw [hw3]
      clear hw3
      refine Mixed.mo rfl (.int .i64 j) (fun w h => by obtain ⟨h1, -⟩ := CC.out w h; clear h; go_simp; try rfl) ?_
      refine Mixed.mo rfl (.slice (some ⟨b1, o1, none⟩) lr cr) (fun w h => by obtain ⟨-, h1, -⟩ := CC.out w h; clear h; go_simp; try rfl) ?_
      refine Mixed.mo rfl (.int .i64 lr) (fun w h => by clear h; go_simp; try rfl) ?_
      refine Mixed.mo rfl (.bool false) (fun w h => by clear h; go_simp; try rfl) ?_
      refine Mixed.mo rfl (.bool false) (fun w h => by clear h; go_simp; try rfl) ?_
      refine Mixed.mo rfl (.pointer (some ⟨n0, 0, none⟩)) (fun w h => by clear h; go_simp; try rfl) ?_
      refine Mixed.mo rfl (.func (.func 33) #[] #[]) (fun w h => by obtain ⟨-, -, h1, -⟩ := CC.out w h; clear h; go_simp; try rfl) ?_
      refine Mixed.mo rfl (.agg #[.int .i64 x.x.kind, .slice x.A x.x.raw.length x.ca, .string (sB x.x.m), .slice x.B x.x.C.length x.cb, .bool x.x.al]) (fun w h => by obtain ⟨-, -, -, h1⟩ := CC.out w h; obtain ⟨j0, j1, j2, j3, j4, j5⟩ := h1.cells; clear h h1; go_simp; try rfl) ?_
      refine Mixed.mo rfl (.slice (some ⟨b1, o1, none⟩) lr cr) (fun w h => by obtain ⟨-, h1, -⟩ := CC.out w h; clear h; go_simp; try rfl) ?_
      refine Mixed.mo rfl (.int .i64 j) (fun w h => by obtain ⟨h1, -⟩ := CC.out w h; clear h; go_simp; try rfl) ?_
      refine Mixed.mo rfl (.pointer (some ⟨b1, o1 + j * 5, none⟩)) (fun w h => by clear h; go_simp; try rfl) ?_
      refine Mixed.mo rfl (.agg #[.int .i64 r.x.kind, .slice r.A r.x.raw.length r.ca, .string (sB r.x.m), .slice r.B r.x.C.length r.cb, .bool r.x.al]) (fun w h => by obtain ⟨b', o', e', h0, h1, h2, h3, h4, -⟩ := RJ.out w h; cases e'; clear h; go_simp; try rfl) ?_
      refine Mixed.wpMix_loudG rfl (by kernel_rfl) ?_
      have S3 := DS.out w3 BB3.out
      obtain ⟨t, ht⟩ : ∃ z, decide (x.x = r.x) = z := ⟨_, rfl⟩
      rw [ht] at S3
      have HT := Lib.hid ht
      clear ht DS RJ
      go_wp2_with fail
      refine S3.mono ?_
      rintro e w6 ⟨rfl, hb⟩
      have BB6 := Lib.hid (BB3.out.trans (hb.mono BB3.out.size))
      have xx := BB6.out
      clear hb BB3 S3
      go_wp2
      refine ⟨xx, ?_⟩
      clear xx
      simp only [Mixed.wpMix, List.drop_succ_cons, List.drop_zero]
      cases t with
      | true =>
        obtain ⟨p1, p2, p3, p4, p5, p6, p7⟩ := EQ.out (of_decide_eq_true HT.out).symm w6 BB6.out
        have P := Lib.hid (And.intro p1 (And.intro p2 (And.intro p3 (And.intro p4 (And.intro p5 p6)))))
        have q0 := (CC.out w6 BB6.out).1
        clear p1 p2 p3 p4 p5 p6 EQ NE CC HT
        go_wp2
        gi_wp2
        have h := P.out
        rw [← z4, show ((j + 1 : Nat) : Int) = (j : Int) + 1 from rfl] at h
        exact h
      | false =>
        obtain ⟨p1, p2, p3, p4, p5⟩ := NE.out (fun e => of_decide_eq_false HT.out e.symm) w6 BB6.out
        have P := Lib.hid (And.intro p1 (And.intro p2 p3))
        clear p1 p2 p3 EQ NE CC HT
        go_wp2
        gi_wp2
        have h := P.out
        rw [← z4] at h
        exact h
    · obtain rfl : lr = j := by omega
      have hq : ((lr : Int) == (lr : Int)) = true := beq_self_eq_true _
      obtain ⟨p1, p2, p3, p4, p5⟩ := STOP.out (fun h => absurd h (by rw [List.length_map, HLR.out]; omega)) w3 BB3.out
      have P := Lib.hid (And.intro p1 (And.intro p2 p3))
      clear p1 p2 p3 STOP GO HRP HXO
      gi_wp2_with fail
      refine Mixed.wpIn_region_mixed (fun w' => Below W.heap.size W w') 13 [(0, true), (1, true), (2, true), (3, true), (4, true), (5, true), (6, true), (7, true), (8, true), (9, true), (10, true), (11, true), (12, false)] (by kernel_rfl) (fun ⟨_, _, h⟩ => h) (by kernel_rfl) (by kernel_rfl) (by rw [hw3]; exact BB3.out) ?_
      rw [hw3]
      clear hw3
      refine Mixed.mo rfl (.int .i64 lr) (fun w h => by obtain ⟨h1, -⟩ := CC.out w h; clear h; go_simp; try rfl) ?_
      refine Mixed.mo rfl (.slice Ar lr cr) (fun w h => by obtain ⟨-, h1, -⟩ := CC.out w h; clear h; go_simp; try rfl) ?_
      refine Mixed.mo rfl (.int .i64 lr) (fun w h => by clear h; go_simp; try rfl) ?_
      refine Mixed.mo rfl (.bool true) (fun w h => by clear h; go_simp; try rfl) ?_
      refine Mixed.mo rfl (.bool true) (fun w h => by clear h; go_simp; try rfl) ?_
      refine Mixed.ms rfl ?_
      refine Mixed.ms rfl ?_
      refine Mixed.ms rfl ?_
      refine Mixed.ms rfl ?_
      refine Mixed.ms rfl ?_
      refine Mixed.ms rfl ?_
      refine Mixed.ms rfl ?_
      refine Mixed.wpMix_skipL rfl (by kernel_rfl) BB3.out ?_
      clear CC BB3
      simp only [Mixed.wpMix, List.drop_succ_cons, List.drop_zero]
      go_wp2
      gi_wp2
      have h := P.out
      rw [← z4] at h
      exact h
  case done =>
    rintro D q ys W hD hq hys ⟨g1, g2, g3, g4⟩ hK
    obtain ⟨f1, f2, -, -, f5⟩ := FX.out W g4
    have HK := Lib.hid hK
    have F1 := Lib.hid f1
    have G3 := Lib.hid f5
    have c1 := g3.cell
    have c2 := f2.cell
    have c3 := f1.cell
    have c4 := f1.frozen
    obtain ⟨m, hm⟩ : ∃ z, ys.length = z := ⟨_, rfl⟩
    rw [hm] at g1 g2 c1
    have KL : lr ≤ 90000 ∨ m < lr := by
      have h1 := congrArg List.length hys
      have h2 := items_le b
      have h4 := HL.out
      simp only [List.length_map] at h1
      omega
    have DC : Hid (decide (itemsR b = R.map Xe.x) = ((m : Int) == (lr : Int))) := by
      show _ = _
      by_cases e : m = lr
      · subst e
        rw [beq_self_eq_true]
        refine decide_eq_true ?_
        rw [← hys, g2, List.take_of_length_le (by rw [List.length_map, HLR.out]; omega)]
      · rw [beq_no e]
        refine decide_eq_false fun h => e ?_
        have h1 := congrArg List.length (hys.trans h)
        simp only [List.length_map] at h1
        rw [← hm, h1, HLR.out]
    obtain ⟨t, ht⟩ : ∃ z, ((m : Int) == (lr : Int)) = z := ⟨_, rfl⟩
    rw [ht] at DC
    clear g1 g2 g3 g4 f1 f2 f5 hK hseq hys hm KL
    go_wp2_with fail
    have b8 := Boxed.set (.bool t) F1.out
    have hg := grownBy_putObj' (W.setCell ⟨n0 + 1 + 1, 0, none⟩ (.bool t)) D (.deferred none)
    have hK2 : (W.setCell ⟨n0 + 1 + 1, 0, none⟩ (.bool t)).heap[D]? = some (.deferred (some [])) := (heap_setCell_other W ⟨n0 + 1 + 1, 0, none⟩ D _ (by simp; omega)).trans HK.out
    have q2 := (b8.kept hg (by simp; omega)).cell
    refine ⟨by simp, .inl ⟨_, _, rfl, run_takeDeferred hK2, ?_⟩⟩
    refine ⟨.bool t, ?_, by rw [DC.out], ?_⟩
    · simp [results, Tryz.results34, go_sem, q2]
    · rw [NB.out]
      exact (G3.out.setCell (p := ⟨n0 + 1 + 1, 0, none⟩) (by show n0 ≤ n0 + 1 + 1; omega) _).trans (belowK_b (w := w) (by rw [NB.out]; omega) _ D _ _ (by rw [NB.out]; omega) hK2 rfl rfl)
  case stop =>
    rintro D q pre W hD hq ⟨h1, h2⟩ hK
    obtain ⟨f1, -, -, -, f5⟩ := FX.out W h2
    have hg := grownBy_putObj' W D (.deferred none)
    have q2 := (f1.kept hg (by simp; omega)).cell
    have HK := Lib.hid hK
    have G3 := Lib.hid f5
    have H1 := Lib.hid h1
    clear h1 h2 f1 f5 hK hg hseq
    gi_wp2
    refine ⟨by simp, .inl ⟨_, _, rfl, run_takeDeferred HK.out, ?_⟩⟩
    refine ⟨.bool false, ?_, by rw [H1.out], ?_⟩
    · simp [results, Tryz.results34, go_sem, q2]
    · rw [NB.out]
      exact G3.out.trans (belowK_b (w := w) (by rw [NB.out]; omega) W D _ _ (by rw [NB.out]; omega) HK.out rfl rfl)
end Go.Proofs.YtmnleknehjkmgaaGreat
namespace Go.Proofs.YtmnleknehjkmgaaGreat
open Go.RowKit Go.Shelf
attribute [local go_sem] Oper.semAt_some
attribute [local irreducible] Go.Mixed.wpMix
theorem check13_any (R : List Xe) (A : Option Addr) (cap l : Nat) (hl : R.length = l) (hl2 : l ≤ 90000) (hs : (rawI (R.map Xe.x)).length ≤ 90000) (CR : ∀ r ∈ R, r.x.C.length ≤ 1000) (w : World) (H : ItsP w A R) (hM : MaxAt w) :
    Calls Tryz.prog 14 #[.slice A l cap] w fun e w' => e = .returned (.bool (decide (itemsR (rawI (R.map Xe.x)) = R.map Xe.x))) ∧ Below w.heap.size w w' := by
  obtain ⟨n, W1, e1, hW1, S1, y1, z1⟩ := Fr.box (Fr.nil w) #[.func (.func 33) #[] #[]] 59
  have b1 : Boxed W1 n 59 (.func (.func 33) #[] #[]) := S1.out.1
  have CC : Hid (∀ w', Below W1.heap.size W1 w' → w'.cell? ⟨n, 0, none⟩ = some (.func (.func 33) #[] #[])) := fun w' h => by
    have g1 : Boxed w' n 59 _ := (h.block _ b1.lt).trans b1
    exact g1.cell
  have RW := Lib.hid (fun w' (h : Below W1.heap.size W1 w') => raw_any R A cap l hl (by omega) (by omega) w' ((H.below y1).below h))
  have HO := Lib.hid (fun w' (h : Below W1.heap.size W1 w') Bs Ab cb (hb : Boxed w' Bs 22 (.slice Ab (rawI (R.map Xe.x)).length cb)) (hx : BytesAt w' Ab (rawI (R.map Xe.x))) (h1 : (rawI (R.map Xe.x)).length ≤ cb) (h2 : cb ≤ maxLen) => holds_any Bs (rawI (R.map Xe.x)) Ab cb (rawI (R.map Xe.x)).length rfl h1 h2 hs R A l cap hl CR w' hb hx ((hM.below y1).below h) ((H.below y1).below h))
  obtain ⟨xs, hxs⟩ : ∃ z, rawI (R.map Xe.x) = z := ⟨_, rfl⟩
  rw [hxs] at RW HO ⊢
  obtain ⟨t, ht⟩ : ∃ z, decide (itemsR xs = R.map Xe.x) = z := ⟨_, rfl⟩
  rw [ht] at HO ⊢
  have Y1 := Lib.hid y1
  obtain ⟨j0, j1⟩ : W1.cell? ⟨n, 0, none⟩ = some (.func (.func 33) #[] #[]) ∧ W1.frozen? ⟨n, 0, none⟩ = false := ⟨b1.cell, b1.frozen⟩
  clear hl hl2 hs CR H hM S1 y1 b1 hxs ht
  go_enter Tryz.func14, Tryz.ntmps14
  go_wp2
  obtain ⟨w3, hw3⟩ : ∃ z, W1.drew = z := ⟨_, rfl⟩
  have BB3 : Hid (Below W1.heap.size W1 w3) := by rw [← hw3]; exact below_drewN W1 _ 1
  clear j0 j1
  refine Mixed.wp_region_mixed (fun w' => Below W1.heap.size W1 w') 6 [(0, true), (1, true), (4, true), (2, false), (3, false), (5, false)] (by kernel_rfl) (by kernel_rfl) (by rw [hw3]; exact BB3.out) ?_
  rw [hw3]
  clear hw3
  refine Mixed.mo rfl (.agg #[.func (.func 33) #[] #[]]) (fun w h => by have h1 := CC.out w h; clear h; go_simp; try rfl) ?_
  refine Mixed.mo rfl (.slice A l cap) (fun w h => by clear h; go_simp; try rfl) ?_
  refine Mixed.mo rfl (.slice A l cap) (fun w h => by clear h; go_simp; try rfl) ?_
  refine Mixed.wpMix_loud rfl ?_
  have R3 := RW.out w3 BB3.out
  clear RW CC
  go_wp2_with fail
  refine R3.mono ?_
  rintro e w4 ⟨Ab, cb, rfl, hO, hb⟩
  have BB4 : Hid (Below W1.heap.size W1 w4) := BB3.out.trans (hb.mono BB3.out.size)
  have xx := BB4.out
  have HC := townB_caps hO
  have HX := Lib.hid (townB_at hO)
  have IO := itemsOf_any Ab xs.length cb w4
  have HO2 := Lib.hid HC
  clear R3 hO hb BB3 HC
  go_wp2
  refine ⟨xx, ?_⟩
  clear xx
  refine Mixed.wpMix_loud rfl ?_
  go_wp2_with fail
  refine IO.mono ?_
  rintro e w5 ⟨rfl, hw5⟩
  have y5 : Below w4.heap.size w4 w5 := by rw [← hw5]; exact (Below.refl _ _).alloc (Nat.le_refl _) _
  have BB5 : Hid (Below W1.heap.size W1 w5) := BB4.out.trans (y5.mono BB4.out.size)
  have xx := BB5.out
  have H5 := HO.out w5 BB5.out w4.heap.size Ab cb (by rw [← hw5]; exact World.alloc_heap_new w4 _) (HX.out.below y5) HO2.out.1 HO2.out.2
  clear IO y5 BB4 hw5 HX HO2 HO
  go_wp2
  refine ⟨xx, ?_⟩
  clear xx
  refine Mixed.wpMix_loud rfl ?_
  go_wp2_with fail
  refine H5.mono ?_
  rintro e w6 ⟨rfl, hb⟩
  have BB6 : Hid (Below W1.heap.size W1 w6) := BB5.out.trans (hb.mono BB5.out.size)
  have xx := BB6.out
  clear H5 hb BB5
  go_wp2
  refine ⟨xx, ?_⟩
  clear xx
  simp only [Mixed.wpMix, List.drop_succ_cons, List.drop_zero]
  go_wp2
  go_ret
  exact ⟨rfl, Y1.out.trans (BB6.out.mono Y1.out.size)⟩
end Go.Proofs.YtmnleknehjkmgaaGreat
