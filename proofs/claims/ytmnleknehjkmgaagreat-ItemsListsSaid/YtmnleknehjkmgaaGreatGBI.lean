/-
  ItL, ItY, ItZ.
-/
import Derived.Test.YtmnleknehjkmgaaGreatGAY
import Derived.Test.YtmnleknehjkmgaaGreatGBD
import Derived.Test.YtmnleknehjkmgaaGreatGAR
import Derived.Test.YtmnleknehjkmgaaGreatGBF
import Derived.Test.YtmnleknehjkmgaaGreatGAS
set_option linter.all false
set_option maxRecDepth 100000
set_option maxHeartbeats 4000000
namespace Go.Proofs.YtmnleknehjkmgaaGreat
open Go.RowKit Go.Shelf
attribute [local go_sem] Oper.semAt_some
attribute [local irreducible] Go.Mixed.wpMix
theorem run_rowE (w : World) (B : Nat) (v : Value) (E : List Ie) (h : w.ownsRow B 32 2 v E.length (cellsE E)) (r : Ie) (b c : Nat) (hc0 : w.cell? ⟨b, 0, none⟩ = some (.string r.s)) (hc1 : w.cell? ⟨b, 1, none⟩ = some r.v) (hB : B ≤ w.heap.size) (hs : E.length + 1 ≤ 100000) :
    ∃ v' w', (Builtin.append_ #[37, 37] 37 #[v, .slice (some ⟨b, 0, none⟩) 1 c]).run Tryz.prog w = .ok v' w' ∧ w'.ownsRow B 32 2 v' (E ++ [r]).length (cellsE (E ++ [r])) ∧ Below B w w' ∧ w.grownBy w' v.ownBlock := by
  obtain ⟨i0, hi, hz0, hz1, hz2⟩ := info_parts info_ins
  obtain ⟨v', w', k1, k2, k3⟩ := run_append_src w B 37 37 32 i0 _ 2 40 Tryz.underlying37 hi hz0 hz1 hz2 rfl (by decide) v E.length (cellsE E) h (some ⟨b, 0, none⟩) 1 c [.string r.s, r.v]
    rfl (.inr ⟨_, rfl, fun j u hj => by
      rw [show (⟨b, 0, none⟩ : Addr).add j = ⟨b, 0 + j, none⟩ by unfold Addr.add; split <;> simp_all, Nat.zero_add]
      match j, hj with
      | 0, hj => simp only [List.getElem?_cons_zero, Option.some.injEq] at hj; subst hj; exact hc0
      | 1, hj => simp only [List.getElem?_cons_succ, List.getElem?_cons_zero, Option.some.injEq] at hj; subst hj; exact hc1
      | j + 2, hj => cases hj⟩) (fun u hu => by
      rcases List.mem_cons.1 hu with rfl | hu
      · rfl
      · obtain rfl := List.mem_singleton.1 hu
        rfl) (by unfold maxLen; omega) (by omega) hB
  refine ⟨v', w', k1, ?_, (Below.refl B w).grown k3 hB fun k hk => (World.ownsRow.lt h k hk).1, k3⟩
  rw [cellsE_append, List.length_append]
  exact k2
theorem run_appE2 (w : World) (B : Nat) (v : Value) (E : List Ie) (h : OwnE w B v E) (r : Ie) (ho : OwnT w B r.v r.L) (b c : Nat) (hc0 : w.cell? ⟨b, 0, none⟩ = some (.string r.s)) (hc1 : w.cell? ⟨b, 1, none⟩ = some r.v) (hB : B ≤ w.heap.size) (hs : E.length + 1 ≤ 100000) :
    ∃ v' w', (Builtin.append_ #[37, 37] 37 #[v, .slice (some ⟨b, 0, none⟩) 1 c]).run Tryz.prog w = .ok v' w' ∧ OwnE w' B v' (E ++ [r]) ∧ Below B w w' ∧ w.grownBy w' v.ownBlock := by
  obtain ⟨v', w', k1, k2, k3, k4⟩ := run_rowE w B v E h.1 r b c hc0 hc1 hB hs
  have hty : ∀ q, v.ownBlock = some q → ∀ cur fz, w.heap[q]? ≠ some (.cells cur 67 fz) := fun q hq cur fz hx => by
    obtain ⟨cur', hg⟩ := row_type h.1 hq
    rw [hx] at hg
    simp at hg
  refine ⟨v', w', k1, ⟨k2, fun r' hr' => ?_⟩, k3, k4⟩
  rcases List.mem_append.1 hr' with hr' | hr'
  · exact OwnT.kept (g := 0) (h.2 r' hr') k4 hty
  · obtain rfl := List.mem_singleton.1 hr'
    exact OwnT.kept (g := 0) ho k4 hty
theorem OwnE.grown {w w' : World} {n : Nat} {v : Value} {E : List Ie} {row : Option Nat} (h : OwnE w n v E) (k : w.grownBy w' row) (hne : ∀ r, row = some r → v.ownBlock ≠ some r) (hr : ∀ q, row = some q → ∀ cur T fz, w.heap[q]? = some (.cells cur T fz) → T ≠ 67) : OwnE w' n v E :=
  ⟨World.ownsRow.kept h.1 k (by
    cases e : v.ownBlock with
    | none => exact .inl rfl
    | some g => exact .inr fun e' => hne g e'.symm e), fun r hr' => OwnT.kept (g := 0) (h.2 r hr') k fun q e cur fz hc => hr q e cur _ fz hc rfl⟩
theorem OwnE.lift {w : World} {n m : Nat} {v : Value} {E : List Ie} (h : OwnE w n v E) (k : m ≤ n) : OwnE w m v E := ⟨row_mono h.1 k, fun r hr => OwnT.lift (h.2 r hr) k⟩
theorem ops_keeps {w w' : World} {A : Option Addr} {L : List Tr} {row : Option Nat} (h : OpsP w A L) (hg : w.grownBy w' row) (hr : ∀ r, row = some r → ∃ o : Obj, w.heap[r]? = some o ∧ o.isCells = false) : OpsP w' A L := h.tr fun a v hv => by
  obtain ⟨o, ho, hc⟩ := cells_of_cell hv
  refine (World.cell?_of_block ((hg.block a.block (Array.getElem?_eq_some_iff.1 ho).1 fun e => ?_).trans ho |>.trans ho.symm)).trans hv
  obtain ⟨o2, ho2, hc2⟩ := hr _ e.symm
  rw [ho] at ho2
  obtain rfl := Option.some.inj ho2
  rw [hc] at hc2
  cases hc2
def ieP (e : Ie) : ByteArray × List Tr := (e.s, e.L)
def xeP (x : Ite) : ByteArray × List Tr := (sB x.m, x.C)
def RetCode (w : World) (L : List Ite) (e : Ending) (w' : World) : Prop := ∃ A c E, e = .returned (.slice A (List.length E) c) ∧ E.map ieP = (L.filter fun x => decide (x.kind = 1)).map xeP ∧ OwnE w' w.heap.size (.slice A E.length c) E ∧ Below w.heap.size w w'
theorem code13_any (R : List Xe) (A : Option Addr) (lr cr : Nat) (hr : R.length = lr) (hlr : lr ≤ 90000) (CR : ∀ r ∈ R, r.x.C.length ≤ 1000) (w : World) (H : ItsP w A R) :
    Calls Tryz.prog 19 #[.slice A lr cr] w (RetCode w (R.map Xe.x)) := by
  obtain ⟨n, W1, e1, hW1, S1, y1, z1⟩ := Fr.box (Fr.nil w) #[.slice none 0 0] 37
  have b1 : Boxed W1 n 37 (.slice none 0 0) := S1.out.1
  have OK := ofKind_any 1 A lr cr (n + 1) W1 z1
  have TE := Lib.hid (fun W0 (y : Below (n + 1) W1 W0) (hs : Boxed W0 (n + 1 + 1) 24 (.slice A lr cr)) (hk : Boxed W0 (n + 1) 3 (.int .i64 1)) => ofKind_tells 2 (n + 1 + 1) (n + 1) n 1 R A lr cr hr hlr w W0 H (y1.trans (y.mono (by omega))) (by omega) hs hk (by omega))
  have HR := Lib.hid hr
  have HC : Hid (∀ i, i < lr → (nth R i).x.C.length ≤ 1000) := fun i hi => by
    rw [nth_at (show i < R.length by omega)]
    exact CR _ (List.getElem_mem _)
  have NB : Hid (w.heap.size = n) := e1
  have B1 := Lib.hid b1
  have Y1 := Lib.hid y1
  clear hr H S1 y1 b1 e1 CR
  refine callsIn_wide.1 (callsIn_of_wp_marks (n := 3) Tryz.func19 rfl trivial ?_ rfl)
  simp only [Tryz.ntmps19, List.size_toArray, List.length_cons, List.length_nil, Nat.reduceAdd, Nat.reduceSub, Array.replicate_succ, Array.replicate_zero, List.push_toArray, List.append_toArray, List.nil_append, List.cons_append]
  refine wpIn_wide.2 ?_
  have e1 := NB.out
  go_wp2_with fail
  clear e1
  refine OK.mono ?_
  rintro e W0 ⟨rfl, o1, o2, o3, zW⟩
  have hseq := TE.out W0 o3 o2 o1
  have BL : Hid (Boxed W0 n 37 (.slice none 0 0)) := (o3.block n (by omega)).trans B1.out
  have B0 : Hid (Below n w W0) := by
    have h := Y1.out
    rw [NB.out] at h
    exact h.trans (o3.mono (by omega))
  clear OK TE o1 o2 o3 Y1 B1 hW1
  rw [show W0.heap.size - 1 = n + 1 + 1 by omega] at hseq
  go_wp2_with fail
  refine wpIn_wide.1 (Stops.wpIn_tellsW (F := Fence.wide) (n := 3) rfl (by omega) (gf := 52) (lb := #[.pointer (some ⟨n + 1 + 1, 0, none⟩), .pointer (some ⟨n + 1, 0, none⟩)]) rfl trivial (enters_of Tryz.func52 (by kernel_rfl) rfl)
    hseq (fun h k => h.trans k) (fun W l o o' _ hl ho => Kq.put (n + 1 + 1) n W l o o' hl ho) (fun _ => rfl)
    (fun pre W => ∃ A c E, Boxed W n 37 (.slice A (List.length E) c) ∧ OwnE W (n + 3) (.slice A E.length c) E ∧ E.map ieP = pre.map (fun i => xeP (nth R i).x) ∧ Below n w W ∧ n + 3 ≤ W.heap.size)
    (fun _ _ => False)
    (fun s X Y row h hg hr => by
      obtain ⟨A, c, E, h1, h2, h3, h4, h5⟩ := h
      exact ⟨A, c, E, h1.kept hg (fun e => by have := (hr _ e.symm).1; omega), h2.grown hg (not_own h2.1 fun r e => (hr r e).2) (fun q e cur T fz hc => ((no_type (fun r e => (hr r e).2)) q e cur T fz hc).2), h3, h4.grown hg (by have := h1.lt; omega) (fun r e => by have := (hr r e).1; omega), Nat.le_trans h5 hg.size⟩)
    (fun s X Y row h hg hr => h)
    ⟨none, 0, [], BL.out, ownE_nil _ _, rfl, B0.out, by omega⟩
    (fun pre i a' W => pre.length ≤ 90000 ∧ i < lr ∧ OpsP W (nth R i).B (nth R i).x.C ∧ ∃ k, n + 3 ≤ k ∧ ItAt W k (nth R i).x.kind (.slice (nth R i).A (nth R i).x.raw.length (nth R i).ca) (sB (nth R i).x.m) (.slice (nth R i).B (nth R i).x.C.length (nth R i).cb) (nth R i).x.al ∧ a' = { tmps := #[.slice A lr cr, undef, .slice none 0 0, .pointer (some ⟨n, 0, none⟩), .pointer (some ⟨k, 0, none⟩), .slice A lr cr, .func (.func 52) #[] #[.pointer (some ⟨n + 1 + 1, 0, none⟩), .pointer (some ⟨n + 1, 0, none⟩)], (nth R i).v, undef, undef, undef, undef, undef, undef, undef, undef, undef, undef, undef, undef], defers := [] })
    (fun pre x s X Y row h hg hr => by
      obtain ⟨h1, h2, h3, k, h4, h5, h6⟩ := h
      exact ⟨h1, h2, ops_keeps h3 hg (fun r e => (hr r e).2), k, h4, h5.keeps hg (fun r e => (hr r e).2), h6⟩)
    ?assign ?body ?done ?stop)
  case assign =>
    rintro lp pre i W K ⟨A', c, E, i1, i2, i3, i4, hz⟩ hE hK
    have HE := Lib.hid hE
    clear hE
    simp only [Xe.v] at hK ⊢
    gi_wp2
    refine hK _ _ ((KeepsOthers.alloc _ _).from _) (Kq.of_below (up1 _ _)) ⟨A', c, E, i1.alloc _, i2.below (up1 _ _), i3, i4.trans ((up1 _ _).mono (by omega)), by simp; omega⟩ ⟨?_, HE.out.2.1, HE.out.2.2.2.below (up1 _ _), W.heap.size, hz, World.alloc_heap_new W _, rfl⟩
    rw [HE.out.1]
    have h1 := List.length_filter_le (kindP R 1) (List.range i)
    have h2 := HE.out.2.1
    rw [List.length_range] at h1
    omega
  case body =>
    rintro lp pre i a' W ⟨A', c, E, i1, i2, i3, i4, hz⟩ ⟨hle, hil, hop, k, hk, hI, rfl⟩
    have XC := HC.out i hil
    obtain ⟨r, hr⟩ : ∃ z, nth R i = z := ⟨_, rfl⟩
    have HM : Hid ((pre ++ [i]).map (fun i => xeP (nth R i).x) = pre.map (fun i => xeP (nth R i).x) ++ [xeP r.x]) := by show _ = _; rw [List.map_append, ← hr]; rfl
    rw [hr] at hop hI XC ⊢
    have EL : Hid (E.length + 1 ≤ 100000) := by
      have := congrArg List.length i3
      simp only [List.length_map] at this
      show _ ≤ _
      omega
    obtain ⟨w3, hw3⟩ : ∃ z, W.drew = z := ⟨_, rfl⟩
    have BB3 : Hid (Below W.heap.size W w3) := by rw [← hw3]; exact below_drewN W _ 1
    have CC : Hid (∀ w', Below W.heap.size W w' → w'.cell? ⟨n, 0, none⟩ = some (.slice A' E.length c) ∧ w'.cell? ⟨k, 2, none⟩ = some (.string (sB r.x.m)) ∧ w'.cell? ⟨k, 3, none⟩ = some (.slice r.B r.x.C.length r.cb)) := fun w' h => by
      have g1 : Boxed w' n 37 _ := (h.block _ i1.lt).trans i1
      obtain ⟨j0, j1, j2, j3, j4, j5⟩ := (hI.all h).cells
      exact ⟨g1.cell, j2, j3⟩
    have CL := Lib.hid (cloneO_any r.B r.cb r.x.C XC w3 (hop.below BB3.out))
    have APP : Hid (∀ w4 (hb : Below W.heap.size W w4) A4 c4 (hO : OwnT w4 W.heap.size (.slice A4 r.x.C.length c4) r.x.C), ∃ A8 c8 w8, (Builtin.append_ #[37, 37] 37 #[.slice A' E.length c, .slice (some ⟨w4.heap.size, 0, none⟩) 1 1]).run Tryz.prog (w4.alloc (.cells #[.string (sB r.x.m), .slice A4 r.x.C.length c4] 32)) = .ok (.slice A8 (E.length + 1) c8) w8 ∧ w8.cell? ⟨n, 0, none⟩ = some (.slice A' E.length c) ∧ w8.frozen? ⟨n, 0, none⟩ = false ∧
        (KeepsFrom W0.heap.size W (w8.setCell ⟨n, 0, none⟩ (.slice A8 (E.length + 1) c8)) ∧ Kq (n + 1 + 1) n W (w8.setCell ⟨n, 0, none⟩ (.slice A8 (E.length + 1) c8)) ∧ ∃ A c E2, Boxed (w8.setCell ⟨n, 0, none⟩ (.slice A8 (E.length + 1) c8)) n 37 (.slice A (List.length E2) c) ∧ OwnE (w8.setCell ⟨n, 0, none⟩ (.slice A8 (E.length + 1) c8)) (n + 3) (.slice A E2.length c) E2 ∧ E2.map ieP = (pre ++ [i]).map (fun i => xeP (nth R i).x) ∧ Below n w (w8.setCell ⟨n, 0, none⟩ (.slice A8 (E.length + 1) c8)) ∧ n + 3 ≤ (w8.setCell ⟨n, 0, none⟩ (.slice A8 (E.length + 1) c8)).heap.size)) := fun w4 hb A4 c4 hO => by
      have hal := up1 w4 (.cells #[.string (sB r.x.m), .slice A4 r.x.C.length c4] 32)
      have hnew := World.alloc_heap_new w4 (.cells #[.string (sB r.x.m), .slice A4 r.x.C.length c4] 32)
      obtain ⟨wa, hwa⟩ : ∃ z, w4.alloc (.cells #[.string (sB r.x.m), .slice A4 r.x.C.length c4] 32) = z := ⟨_, rfl⟩
      rw [hwa] at hal hnew ⊢
      obtain ⟨h0, h1⟩ := Fr.cells2 hnew
      have ba : Below W.heap.size W wa := hb.trans (hal.mono hb.size)
      obtain ⟨v8, w8, k1, k2, k3, k4⟩ := run_appE2 wa (n + 3) (.slice A' E.length c) E (i2.below ba) ⟨sB r.x.m, A4, c4, r.x.C⟩ (OwnT.lift (hO.below hal) hz) w4.heap.size 1 h0 h1 (Nat.le_trans hz ba.size) EL.out
      obtain ⟨A8, c8, rfl, -, -⟩ := k2.ins
      have hla : (E ++ [(⟨sB r.x.m, A4, c4, r.x.C⟩ : Ie)]).length = E.length + 1 := by simp
      rw [hla] at k1 k2
      have b8 : Boxed w8 n 37 (.slice A' E.length c) := (k3.block n (by omega)).trans ((ba.block _ i1.lt).trans i1)
      have kw : Below (n + 3) W w8 := (ba.mono (by omega)).trans k3
      have hg := grownBy_setC w8 n 0 (.slice A8 (E.length + 1) c8)
      refine ⟨A8, c8, w8, k1, b8.cell, b8.frozen, (keeps_b ba _).trans (((KeepsOthers.of_grownBy k4 fun j o e ho => ?_).trans (KeepsOthers.setCell _ _ _)).from _), ⟨by have := kw.size; simpa using this, fun y o h1 h2 h3 h4 => ?_⟩, A8, c8, _, by rw [hla]; exact Boxed.set _ b8, ?_, by rw [HM.out, List.map_append, i3]; rfl, ?_, ?_⟩
      · obtain ⟨cur, hc⟩ := row_type i2.1 e
        have hc2 : wa.heap[j]? = _ := (ba.block j (Array.getElem?_eq_some_iff.1 hc).1).trans hc
        rw [hc2] at ho
        obtain rfl := Option.some.inj ho
        rfl
      · exact (heap_setCell_other w8 ⟨n, 0, none⟩ y _ h2).trans ((kw.block y (by omega)).trans h3)
      · rw [hla]
        refine k2.grown hg (fun r e e2 => ?_) (fun r e cur T fz hc => ?_)
        · have h5 := (World.ownsRow.lt k2.1 r e2).1
          have := Option.some.inj e
          omega
        · cases e
          rw [show w8.heap[n]? = _ from b8] at hc
          simp only [Option.some.injEq, Obj.cells.injEq] at hc
          rw [← hc.2.1]
          decide
      · exact (i4.trans (kw.mono (by omega))).setCell (p := ⟨n, 0, none⟩) (Nat.le_refl _) _
      · have := kw.size
        simp
        omega
    obtain ⟨el, hel⟩ : ∃ z, E.length = z := ⟨_, rfl⟩
    rw [hel] at CC APP
    clear i1 i2 i3 i4 hop hI hel EL XC hle hr HM
    gi_wp2_with fail
    refine Mixed.wpIn_region_mixed (fun w' => Below W.heap.size W w') 10 [(0, true), (1, true), (2, true), (3, true), (4, true), (5, true), (6, true), (7, false), (8, true), (9, false)] (by kernel_rfl) (fun ⟨_, _, h⟩ => h) (by kernel_rfl) (by kernel_rfl) (by rw [hw3]; exact BB3.out) ?_
    rw [hw3]
    clear hw3
    refine Mixed.mo rfl (.slice A' el c) (fun w h => by obtain ⟨h1, -⟩ := CC.out w h; clear h; go_simp; try rfl) ?_
    refine Mixed.mo rfl (.pointer (some ⟨k, 2, none⟩)) (fun w h => by clear h; go_simp; try rfl) ?_
    refine Mixed.mo rfl (.pointer (some ⟨k, 2, none⟩)) (fun w h => by clear h; go_simp; try rfl) ?_
    refine Mixed.mo rfl (.string (sB r.x.m)) (fun w h => by obtain ⟨-, h1, -⟩ := CC.out w h; clear h; go_simp; try rfl) ?_
    refine Mixed.mo rfl (.pointer (some ⟨k, 2, none⟩)) (fun w h => by clear h; go_simp; try rfl) ?_
    refine Mixed.mo rfl (.pointer (some ⟨k, 3, none⟩)) (fun w h => by clear h; go_simp; try rfl) ?_
    refine Mixed.mo rfl (.slice r.B r.x.C.length r.cb) (fun w h => by obtain ⟨-, -, h1⟩ := CC.out w h; clear h; go_simp; try rfl) ?_
    refine Mixed.wpMix_loud rfl ?_
    go_wp2_with fail
    refine CL.out.mono ?_
    rintro e w4 ⟨v4, rfl, hO4, hb4⟩
    obtain ⟨A4, c4, rfl, -, -⟩ := hO4.ops
    have B4 : Hid (Below W.heap.size W w4) := BB3.out.trans (hb4.mono BB3.out.size)
    have xx := B4.out
    obtain ⟨A8, c8, w8, k1, k2, k3, k4⟩ := APP.out w4 B4.out A4 c4 (OwnT.lift hO4 BB3.out.size)
    have K1 := Lib.hid k1
    have P := Lib.hid k4
    have B5 : ∀ o, Hid (Below W.heap.size W (w4.alloc o)) := fun o => B4.out.trans ((up1 w4 o).mono B4.out.size)
    clear CL hO4 hb4 BB3 k1 k4 APP CC B4
    go_wp2
    refine ⟨xx, ?_⟩
    clear xx
    refine Mixed.mo rfl (.agg #[.string (sB r.x.m), .slice A4 r.x.C.length c4]) (fun w h => by clear h; go_simp; try rfl) ?_
    refine Mixed.wpMix_loud rfl ?_
    have xx := fun o => (B5 o).out
    go_wp2
    refine ⟨xx _, ?_⟩
    clear xx B5
    simp only [Mixed.wpMix, List.drop_succ_cons, List.drop_zero]
    go_wp2_with (at_builtin; refine wpList_run_append K1.out rfl _ _ rfl rfl rfl rfl ?_)
    gi_wp2
    exact P.out
  case done =>
    rintro D ys W hD hys ⟨A', c, E, g1, g2, g3, g4, -⟩ hK
    have c1 := g1.cell
    have HK := Lib.hid hK
    have G2 := Lib.hid g2
    have G4 := Lib.hid g4
    have G3 : Hid (E.map ieP = ((R.map Xe.x).filter fun x => decide (x.kind = 1)).map xeP) := by
      show _ = _
      rw [g3, hys, ← HR.out, ← filt_nth, List.map_map]
      rfl
    have HW : Hid (n < W.heap.size) := g1.lt
    clear g1 g2 g3 g4 hK hseq hys
    go_wp2_with fail
    have hg := grownBy_putObj' W D (.deferred none)
    refine ⟨by simp, .inl ⟨_, _, rfl, run_takeDeferred HK.out, ?_⟩⟩
    refine ⟨.slice A' E.length c, ?_, ?_⟩
    · simp [results, Tryz.results19, go_sem]
    · have hk : ∀ r, some D = some r → ∃ o : Obj, W.heap[r]? = some o ∧ o.isCells = false := fun r e => by cases e; exact ⟨_, HK.out, rfl⟩
      refine ⟨A', c, E, rfl, G3.out, ?_, ?_⟩
      · rw [NB.out]
        exact (G2.out.grown hg (not_own G2.out.1 hk) (fun q e cur T fz hc => ((no_type hk) q e cur T fz hc).2)).lift (by omega)
      · rw [NB.out]
        exact G4.out.trans (belowK_b (w := w) (by rw [NB.out]; omega) W D _ _ (by rw [NB.out]; omega) HK.out rfl rfl)
  case stop =>
    rintro D pre W hD h
    exact h.elim
end Go.Proofs.YtmnleknehjkmgaaGreat
namespace Go.Proofs.YtmnleknehjkmgaaGreat
open Go.RowKit Go.Shelf
attribute [local go_sem] Oper.semAt_some
theorem same07_any (s : ByteArray) (A1 A2 : Option Addr) (c1 c2 n : Nat) (L : List Tr) (hn : L.length = n) (h : n ≤ 1000) (w : World) (H1 : OpsP w A1 L) (H2 : OpsP w A2 L) :
    Calls Tryz.prog 20 #[.agg #[.string s, .slice A1 n c1], .agg #[.string s, .slice A2 n c2]] w fun e w' => e = .returned (.bool true) ∧ Below w.heap.size w w' := by
  have h1 := rsame_any (strOf s) (strOf s) A1 A2 c1 c2 L L (by omega) (by omega) w H1 H2
  rw [sB_strOf, hn, decide_eq_true rfl, decide_eq_true rfl] at h1
  exact h1
theorem equalFI_any (A1 A2 : Option Addr) (c1 c2 n : Nat) (E1 E2 : List Ie) (h1 : E1.length = n) (hK : E1.map ieP = E2.map ieP) (hL : ∀ r ∈ E1, r.L.length ≤ 1000) (hn : n ≤ 90000) (w : World) (H1 : InsP w A1 E1) (H2 : InsP w A2 E2) :
    Calls Tryz.prog 18 #[.slice A1 n c1, .slice A2 n c2, .func (.func 20) #[] #[]] w fun e w' => e = .returned (.bool true) ∧ Below w.heap.size w w' := by
  have hll : E2.length = n := by have := congrArg List.length hK; rw [List.length_map, List.length_map] at this; omega
  have HX : Hid (∀ k, k < n → ∃ (s : ByteArray) (L : List Tr) (B1 B2 : Option Addr) (d1 d2 : Nat), L.length ≤ 1000 ∧ ∀ w', Below w.heap.size w w' → (∃ b off, A1 = some ⟨b, off, none⟩ ∧ w'.cell? ⟨b, off + k * 2, none⟩ = some (.string s) ∧ w'.cell? ⟨b, off + k * 2 + 1, none⟩ = some (.slice B1 L.length d1) ∧ OpsP w' B1 L) ∧ ∃ b off, A2 = some ⟨b, off, none⟩ ∧ w'.cell? ⟨b, off + k * 2, none⟩ = some (.string s) ∧ w'.cell? ⟨b, off + k * 2 + 1, none⟩ = some (.slice B2 L.length d2) ∧ OpsP w' B2 L) := fun k hk => by
    have hk1 : k < E1.length := by omega
    have hk2 : k < E2.length := by omega
    have he : ieP E1[k] = ieP E2[k] := by
      have h := congrArg (fun l => l[k]?) hK
      simp only [List.getElem?_map, List.getElem?_eq_getElem hk1, List.getElem?_eq_getElem hk2, Option.map_some, Option.some.injEq] at h
      exact h
    obtain ⟨es, eL⟩ : E1[k].s = E2[k].s ∧ E1[k].L = E2[k].L := Prod.mk.inj he
    refine ⟨E1[k].s, E1[k].L, E1[k].A, E2[k].A, E1[k].cap, E2[k].cap, hL _ (List.getElem_mem hk1), fun w' hb => ⟨?_, ?_⟩⟩
    · exact (H1.below hb).at_ hk1
    · have h := (H2.below hb).at_ hk2
      rw [es, eL]
      exact h
  have B0 : Hid (Below w.heap.size w w) := Below.refl _ _
  clear hK hL hll h1 H1 H2
  go_enter Tryz.func18, Tryz.ntmps18
  go_wp2
  go_loopw [17] (fun i wr => ∃ k : Nat, k ≤ n ∧ i = .int .i64 (k : Int) ∧ Hid (Below w.heap.size w wr)) (fun i _ => n - (intOf i).toNat)
  case atStart => exact ⟨0, Nat.zero_le _, rfl, B0.out⟩
  case round =>
    clear B0
    obtain ⟨k, hk, rfl, BW⟩ := hrel
    by_cases hlt : k < n
    · obtain ⟨s, L, B1, B2, d1, d2, hl, hx⟩ := HX.out k hlt
      obtain ⟨⟨b1, o1, rfl, p0, p1, pO⟩, ⟨b2, o2, rfl, q0, q1, qO⟩⟩ := hx wr BW.out
      obtain ⟨ll, hll⟩ : ∃ z, L.length = z := ⟨_, rfl⟩
      obtain ⟨x1, wa, e1, hwa, Sa, ya, za⟩ := Fr.box (Fr.nil wr) #[.string s, .slice B1 ll d1] 32
      obtain ⟨x2, wb, e2, hwb, Sb, yb, zb⟩ := Fr.box Sa #[.string s, .slice B2 ll d2] 32
      obtain rfl : x2 = x1 + 1 := by omega
      have yab : Below wr.heap.size wr wb := ya.trans (yb.mono ya.size)
      obtain ⟨-, ⟨b2', o2', e3, q0a, q1a, -⟩⟩ := hx wa (BW.out.trans (ya.mono BW.out.size))
      cases e3
      obtain ⟨⟨b1', o1', e4, -, -, pO2⟩, ⟨b2', o2', e5, -, -, qO2⟩⟩ := hx wb (BW.out.trans (yab.mono BW.out.size))
      cases e4
      cases e5
      have SM := same07_any s B1 B2 d1 d2 ll L hll (by omega) wb pO2 qO2
      have Ia : wb.heap[x1]? = some (.cells #[.string s, .slice B1 ll d1] 32 (0, 0)) := Sb.out.2.1
      have Ib : wb.heap[x1 + 1]? = some (.cells #[.string s, .slice B2 ll d2] 32 (0, 0)) := Sb.out.1
      obtain ⟨s0, s1⟩ := Fr.cells2 Ia
      obtain ⟨t0, t1⟩ := Fr.cells2 Ib
      have BB : Hid (Below w.heap.size w wb) := BW.out.trans (yab.mono BW.out.size)
      rw [hll] at p1 q1a
      clear hx HX Sa Sb ya yb yab pO qO pO2 qO2 Ia Ib q0 q1 hll hl BW
      go_wp2_with fail
      refine SM.mono ?_
      rintro e w5 ⟨rfl, hb⟩
      have B5 : Hid (Below w.heap.size w w5) := BB.out.trans (hb.mono BB.out.size)
      clear SM hb BB
      go_wp2
      go_roundw
      case rel => exact ⟨k + 1, by omega, by go_num, B5.out⟩
      case measure => simp [intOf]; omega
    · obtain rfl : n = k := by omega
      clear HX
      go_wp2
      go_ret
      exact ⟨rfl, BW.out⟩
end Go.Proofs.YtmnleknehjkmgaaGreat
namespace Go.Proofs.YtmnleknehjkmgaaGreat
open Go.RowKit Go.Shelf
attribute [local go_sem] Oper.semAt_some
theorem cnt_succ (L : List Ite) (kd : Int) {j : Nat} (h : j < L.length) : cntI (L.take (j + 1)) kd = cntI (L.take j) kd + (if L[j].kind = kd then 1 else 0) := by
  unfold cntI
  rw [List.take_succ_eq_append_getElem h, List.filter_append, List.length_append]
  congr 1
  by_cases e : L[j].kind = kd
  · rw [if_pos e]; simp [e]
  · rw [if_neg e]; simp [e]
theorem ins_succ (L : List Ite) {j : Nat} (h : j < L.length) : ((L.take (j + 1)).filter fun x => decide (x.kind = 1)).map xeP = ((L.take j).filter fun x => decide (x.kind = 1)).map xeP ++ (if L[j].kind = 1 then [xeP L[j]] else []) := by
  rw [List.take_succ_eq_append_getElem h, List.filter_append, List.map_append]
  congr 1
  by_cases e : L[j].kind = 1
  · rw [if_pos e]; simp [e]
  · rw [if_neg e]; simp [e]
theorem cnt_le (L : List Ite) (kd : Int) : cntI L kd ≤ L.length := List.length_filter_le _ _
theorem insP_row {w : World} {B : Nat} {v : Value} {E : List Ie} (h : w.ownsRow B 32 2 v E.length (cellsE E)) (ho : ∀ r ∈ E, OpsP w r.A r.L) : ∃ A cap, v = .slice A E.length cap ∧ InsP w A E := by
  rcases h.2 with ⟨rfl, h0⟩ | ⟨g, cap, cur, rfl, _, _, hle, _⟩
  · have : E = [] := List.eq_nil_of_length_eq_zero h0
    subst this
    exact ⟨none, 0, rfl, .inl rfl⟩
  · refine ⟨_, cap, rfl, .inr ⟨g, 0, rfl, fun j hj => ?_⟩⟩
    obtain ⟨h1, h2⟩ := cellsE_at E j hj
    rw [Nat.zero_add]
    exact ⟨(World.ownsRow.cellAt h (j * 2) (by omega)).trans h1, (World.ownsRow.cellAt h (j * 2 + 1) (by omega)).trans h2, ho _ (List.getElem_mem hj)⟩
theorem row_below {w w' : World} {B s m : Nat} {T : TypeId} {v : Value} {xs : List Value} (h : w.ownsRow B T s v m xs) (k : Below w.heap.size w w') : w'.ownsRow B T s v m xs :=
  World.ownsRow.kept h (row := none) ⟨k.os, k.tape, k.output, k.size, fun i hi _ => k.block i hi⟩ (by
    cases e : v.ownBlock with
    | none => exact .inl rfl
    | some g => exact .inr (by simp))
theorem walkIL (A : Option Addr) (cap : Nat) (R : List Xe) (kd : Int) (w : World) (hm : R.length ≤ maxLen) (H : ItsP w A R) (hM : MaxAt w) :
    Calls Tryz.prog 4 #[.slice A R.length cap, .int .i64 kd] w fun e w' => e = .returned (.bool true) ∧ Below w.heap.size w w' := by
  obtain ⟨l, hl⟩ : ∃ z, R.length = z := ⟨_, rfl⟩
  have FW := rfew13_any R A R.length cap rfl hm w H
  rw [hl] at FW ⊢
  have AL := Lib.hid (fun w' (h : Below w.heap.size w w') => alive13_any w' (hM.below h))
  have FR := Lib.hid (few_rows (R := R))
  obtain ⟨fw, hfw⟩ : ∃ z, fewI (R.map Xe.x) = z := ⟨_, rfl⟩
  rw [hfw] at FW FR
  cases fw with
  | false =>
    clear H hM hm hl hfw FR
    go_enter Tryz.func4, Tryz.ntmps4
    go_wp2_with fail
    refine FW.mono ?_
    rintro e w1 ⟨rfl, rfl⟩
    have A0 := AL.out w1 (Below.refl _ _)
    clear FW AL
    go_wp2_with fail
    refine A0.mono ?_
    rintro e w2 ⟨rfl, hb⟩
    have B2 := Lib.hid hb
    clear A0 hb
    go_wp2
    go_ret
    exact ⟨rfl, B2.out⟩
  | true =>
    obtain ⟨f1, f2, f3⟩ := FR.out rfl
    rw [hl] at f1
    have OF := offsets_any R A l cap hl (by omega) (by omega) w H
    have CT := Lib.hid (fun w' (h : Below w.heap.size w w') => count13_any kd R A l cap hl (by omega) w' (H.below h))
    have CD := Lib.hid (fun w' (h : Below w.heap.size w w') => code13_any R A l cap hl (by omega) f3 w' (H.below h))
    have RW := Lib.hid (fun w' (h : Below w.heap.size w w') => raw_any R A cap l hl (by omega) (by omega) w' (H.below h))
    have RR := Lib.hid (fun w' (h : Below w.heap.size w w') => rraw13_any R A cap l hl (by omega) (by omega) w' (H.below h))
    have HL : Hid ((R.map Xe.x).length = l) := by show _ = _; rw [List.length_map]; exact hl
    have HF : Hid ((rawI (R.map Xe.x)).length ≤ 6000) := f2
    have HX : Hid (∀ j, j < l → ∃ r : Xe, (∀ w', Below w.heap.size w w' → ItJ w' A r j) ∧ offI (R.map Xe.x) (j + 1) = offI (R.map Xe.x) j + r.x.raw.length ∧ offI (R.map Xe.x) (j + 1) ≤ 6000 ∧ cntI ((R.map Xe.x).take (j + 1)) kd = cntI ((R.map Xe.x).take j) kd + (if r.x.kind = kd then 1 else 0) ∧ (((R.map Xe.x).take (j + 1)).filter fun x => decide (x.kind = 1)).map xeP = (((R.map Xe.x).take j).filter fun x => decide (x.kind = 1)).map xeP ++ (if r.x.kind = 1 then [xeP r.x] else []) ∧ r.x.C.length ≤ 1000) := fun j hj => by
      have hj' : j < R.length := by omega
      have hj2 : j < (R.map Xe.x).length := by rw [List.length_map]; exact hj'
      have e : (R.map Xe.x)[j] = R[j].x := by simp
      have o1 := off_succ (R.map Xe.x) hj2
      have o2 := off_mono (R.map Xe.x) (j + 1)
      have o3 := cnt_succ (R.map Xe.x) kd hj2
      have o4 := ins_succ (R.map Xe.x) hj2
      rw [e] at o1 o3 o4
      exact ⟨R[j], fun w' h => (H.below h).j hj', o1, by omega, o3, o4, f3 _ (List.getElem_mem hj')⟩
    obtain ⟨L, hL⟩ : ∃ z, R.map Xe.x = z := ⟨_, rfl⟩
    rw [hL] at OF CT CD RW RR HL HF HX
    clear H hM hm hl hfw FR f2 f3 hL
    go_enter Tryz.func4, Tryz.ntmps4
    go_wp2_with fail
    refine FW.mono ?_
    rintro e w1 ⟨rfl, rfl⟩
    clear FW
    go_wp2_with fail
    refine OF.mono ?_
    rintro e w2 ⟨Ao, co, rfl, hO, hb⟩
    have B2 := Lib.hid hb
    have ON : Hid (∀ j, j < l → ∀ w', Below w2.heap.size w2 w' → ∃ g, Ao = some ⟨g, 0, none⟩ ∧ w'.cell? ⟨g, j, none⟩ = some (.int .i64 (offI L j : Nat))) := fun j hj w' h => by
      obtain ⟨A', c', e, hc⟩ := (OwnN.below hO h).form
      simp only [List.length_map, List.length_range, Value.slice.injEq] at e
      obtain ⟨rfl, -, -⟩ := e
      obtain ⟨g, h1, h2⟩ := hc j (by simp only [List.length_map, List.length_range]; rw [HL.out]; exact hj)
      refine ⟨g, h1, ?_⟩
      rw [h2]
      simp
    rw [HL.out]
    have N2 : Hid (w1.heap.size ≤ w2.heap.size) := hb.size
    clear OF hO hb
    go_wp2
    go_loopw [5, 6, 7, 24] (fun vn vc va vi wr => ∃ (j : Nat) (A' : Option Addr) (k c' : Nat) (E : List Ie), j ≤ l ∧ vi = .int .i64 j ∧ vn = .int .i64 (cntI (L.take j) kd : Nat) ∧ va = .int .i64 (offI L j : Nat) ∧ vc = .slice A' k c' ∧ k ≤ j ∧ Hid (E.length = k) ∧ Hid (wr.ownsRow w2.heap.size 32 2 (.slice A' k c') E.length (cellsE E)) ∧ Hid (∀ r ∈ E, r.L.length ≤ 1000 ∧ ∀ w', Below w1.heap.size w1 w' → OpsP w' r.A r.L) ∧ Hid (E.map ieP = ((L.take j).filter fun x => decide (x.kind = 1)).map xeP) ∧ Hid (Below w2.heap.size w2 wr)) (fun _ _ _ vi _ => l - (intOf vi).toNat)
    case atStart => exact ⟨0, none, 0, 0, [], Nat.zero_le _, rfl, rfl, rfl, rfl, Nat.le_refl _, rfl, World.ownsRow_nil _ _ _ _, fun r hr => absurd hr List.not_mem_nil, rfl, Below.refl _ _⟩
    case round =>
      obtain ⟨j, A', k, c', E, hj, rfl, rfl, rfl, rfl, hkj, HK, OR, OE, EE, BW⟩ := hrel
      have BX : Hid (Below w1.heap.size w1 wr) := B2.out.trans (BW.out.mono N2.out)
      by_cases hlt : j < l
      · obtain ⟨r, h1, h2, h3, h4, h5, h6⟩ := HX.out j hlt
        obtain ⟨g, rfl, kof⟩ := ON.out j hlt wr BW.out
        obtain ⟨b1, o1, rfl, k0, k1, k2, k3, k4, -, -⟩ := h1 wr BX.out
        have HOp := Lib.hid (fun w' h => (h1 w' h).choose_spec.choose_spec.2.2.2.2.2.2.2)
        obtain ⟨y, w3, hy, hw3, S3, y3, z3⟩ := Fr.box (Fr.nil wr) #[.int .i64 r.x.kind, .slice r.A r.x.raw.length r.ca, .string (sB r.x.m), .slice r.B r.x.C.length r.cb, .bool r.x.al] 34
        have I3 : ItAt w3 y r.x.kind (.slice r.A r.x.raw.length r.ca) (sB r.x.m) (.slice r.B r.x.C.length r.cb) r.x.al := S3.out.1
        obtain ⟨j0, j1, j2, j3, j4, j5⟩ := I3.cells
        have BW3 : Hid (Below w2.heap.size w2 w3) := BW.out.trans (y3.mono BW.out.size)
        obtain ⟨g', eg, kof3⟩ := ON.out j hlt w3 BW3.out
        cases eg
        have OR3 : Hid (w3.ownsRow w2.heap.size 32 2 (.slice A' k c') E.length (cellsE E)) := row_below OR.out y3
        have hcn : cntI (L.take j) kd ≤ 60 := by
          have h := cnt_le (L.take j) kd
          rw [List.length_take] at h
          omega
        have APP : Hid (∃ A8 c8 w8, (Builtin.append_ #[37, 37] 37 #[.slice A' k c', .slice (some ⟨w3.heap.size, 0, none⟩) 1 1]).run Tryz.prog (w3.alloc (.cells #[.string (sB r.x.m), .slice r.B r.x.C.length r.cb] 32)) = .ok (.slice A8 (k + 1) c8) w8 ∧ w8.ownsRow w2.heap.size 32 2 (.slice A8 (k + 1) c8) (E ++ [(⟨sB r.x.m, r.B, r.cb, r.x.C⟩ : Ie)]).length (cellsE (E ++ [(⟨sB r.x.m, r.B, r.cb, r.x.C⟩ : Ie)])) ∧ Below w2.heap.size w2 w8) := by
          have hal := up1 w3 (.cells #[.string (sB r.x.m), .slice r.B r.x.C.length r.cb] 32)
          have hnew := World.alloc_heap_new w3 (.cells #[.string (sB r.x.m), .slice r.B r.x.C.length r.cb] 32)
          obtain ⟨w4, hw4⟩ : ∃ z, w3.alloc (.cells #[.string (sB r.x.m), .slice r.B r.x.C.length r.cb] 32) = z := ⟨_, rfl⟩
          rw [hw4] at hal hnew
          show ∃ A8 c8 w8, _
          rw [hw4]
          obtain ⟨p0, p1⟩ := Fr.cells2 hnew
          obtain ⟨v8, w8, q1, q2, q3, q4⟩ := run_rowE w4 w2.heap.size (.slice A' k c') E (row_below OR3.out hal) ⟨sB r.x.m, r.B, r.cb, r.x.C⟩ w3.heap.size 1 p0 p1 (Nat.le_trans BW3.out.size hal.size) (by rw [HK.out]; omega)
          have hv : ∃ A8 c8, v8 = .slice A8 (E ++ [(⟨sB r.x.m, r.B, r.cb, r.x.C⟩ : Ie)]).length c8 := by
            rcases q2.2 with ⟨h0, h9⟩ | ⟨g9, cap9, cur9, h0, _⟩
            · exact ⟨none, 0, by rw [h0, h9]⟩
            · exact ⟨_, _, h0⟩
          obtain ⟨A8, c8, rfl⟩ := hv
          have hla : (E ++ [(⟨sB r.x.m, r.B, r.cb, r.x.C⟩ : Ie)]).length = k + 1 := by simp [HK.out]
          refine ⟨A8, c8, w8, by rw [← hla]; exact q1, by rw [hla] at q2 ⊢; exact q2, BW3.out.trans ((hal.mono BW3.out.size).trans q3)⟩
        have HLA : Hid ((E ++ [(⟨sB r.x.m, r.B, r.cb, r.x.C⟩ : Ie)]).length = k + 1 ∧ ∀ r' ∈ E ++ [(⟨sB r.x.m, r.B, r.cb, r.x.C⟩ : Ie)], r'.L.length ≤ 1000 ∧ ∀ w', Below w1.heap.size w1 w' → OpsP w' r'.A r'.L) := by
          refine ⟨by simp [HK.out], fun r' hr' => ?_⟩
          rcases List.mem_append.1 hr' with h | h
          · exact OE.out r' h
          · obtain rfl := List.mem_singleton.1 h
            exact ⟨h6, HOp.out⟩
        obtain ⟨oj, hoj⟩ : ∃ z, offI L j = z := ⟨_, rfl⟩
        obtain ⟨rl, hrl⟩ : ∃ z, r.x.raw.length = z := ⟨_, rfl⟩
        obtain ⟨kx, hkx⟩ : ∃ z, r.x.kind = z := ⟨_, rfl⟩
        obtain ⟨cn, hcv⟩ : ∃ z, cntI (L.take j) kd = z := ⟨_, rfl⟩
        rw [hoj, hrl] at h2
        rw [hcv, hkx] at h4
        rw [hkx] at h5
        rw [hoj] at kof kof3 ⊢
        rw [hcv] at hcn ⊢
        rw [hrl] at j1
        rw [hkx] at j0
        rw [h2] at h3
        have E2 := Lib.hid h2
        have E4 := Lib.hid h4
        have E5 := Lib.hid h5
        have tt : ((oj : Int) != (oj : Int)) = false := bne_self_eq_false _
        clear h1 h2 h4 h5 h6 S3 y3 I3 OR BW hoj hrl hkx hcv HX ON CT CD RW RR BX HOp
        have HJ : j + 1 ≤ l := hlt
        by_cases q1 : kx = kd
        · have t1 : (kx == kd) = true := beq_iff_eq.2 q1
          have C1 : Hid (cntI (L.take (j + 1)) kd = cn + 1) := by show _ = _; rw [E4.out, if_pos q1]
          clear E4 q1
          by_cases q2 : kx = 1
          · have t2 : (kx == 1) = true := beq_iff_eq.2 q2
            have C2 : Hid ((E ++ [(⟨sB r.x.m, r.B, r.cb, r.x.C⟩ : Ie)]).map ieP = ((L.take (j + 1)).filter fun x => decide (x.kind = 1)).map xeP) := by show _ = _; rw [E5.out, if_pos q2, List.map_append, EE.out]; rfl
            obtain ⟨A8, c8, w8, p1, p2, p3⟩ := APP.out
            rw [z3] at p1
            have P1 := Lib.hid p1
            have P2 := Lib.hid p2
            have P3 := Lib.hid p3
            clear E5 q2 APP p1 p2 p3 OR3 BW3 OE EE HK
            go_wp2_with (at_builtin; refine wpList_run_append P1.out rfl _ _ rfl rfl rfl rfl ?_)
            go_roundw
            case rel => exact ⟨j + 1, A8, k + 1, c8, _, HJ, by go_num, by rw [C1.out] <;> go_num, by rw [E2.out]; go_num, rfl, by omega, HLA.out.1, P2.out, HLA.out.2, C2.out, P3.out⟩
            case measure => simp [intOf]; omega
          · have t2 : (kx == 1) = false := beq_eq_false_iff_ne.2 q2
            have C2 : Hid (E.map ieP = ((L.take (j + 1)).filter fun x => decide (x.kind = 1)).map xeP) := by show _ = _; rw [E5.out, if_neg q2, List.append_nil, EE.out]
            clear E5 q2 APP HLA EE
            go_wp2
            go_roundw
            case rel => exact ⟨j + 1, A', k, c', E, HJ, by go_num, by rw [C1.out] <;> go_num, by rw [E2.out]; go_num, rfl, by omega, HK.out, OR3.out, OE.out, C2.out, BW3.out⟩
            case measure => simp [intOf]; omega
        · have t1 : (kx == kd) = false := beq_eq_false_iff_ne.2 q1
          have C1 : Hid (cntI (L.take (j + 1)) kd = cn) := by show _ = _; rw [E4.out, if_neg q1]; rfl
          clear E4 q1
          by_cases q2 : kx = 1
          · have t2 : (kx == 1) = true := beq_iff_eq.2 q2
            have C2 : Hid ((E ++ [(⟨sB r.x.m, r.B, r.cb, r.x.C⟩ : Ie)]).map ieP = ((L.take (j + 1)).filter fun x => decide (x.kind = 1)).map xeP) := by show _ = _; rw [E5.out, if_pos q2, List.map_append, EE.out]; rfl
            obtain ⟨A8, c8, w8, p1, p2, p3⟩ := APP.out
            rw [z3] at p1
            have P1 := Lib.hid p1
            have P2 := Lib.hid p2
            have P3 := Lib.hid p3
            clear E5 q2 APP p1 p2 p3 OR3 BW3 OE EE HK
            go_wp2_with (at_builtin; refine wpList_run_append P1.out rfl _ _ rfl rfl rfl rfl ?_)
            go_roundw
            case rel => exact ⟨j + 1, A8, k + 1, c8, _, HJ, by go_num, by rw [C1.out] <;> go_num, by rw [E2.out]; go_num, rfl, by omega, HLA.out.1, P2.out, HLA.out.2, C2.out, P3.out⟩
            case measure => simp [intOf]; omega
          · have t2 : (kx == 1) = false := beq_eq_false_iff_ne.2 q2
            have C2 : Hid (E.map ieP = ((L.take (j + 1)).filter fun x => decide (x.kind = 1)).map xeP) := by show _ = _; rw [E5.out, if_neg q2, List.append_nil, EE.out]
            clear E5 q2 APP HLA EE
            go_wp2
            go_roundw
            case rel => exact ⟨j + 1, A', k, c', E, HJ, by go_num, by rw [C1.out] <;> go_num, by rw [E2.out]; go_num, rfl, by omega, HK.out, OR3.out, OE.out, C2.out, BW3.out⟩
            case measure => simp [intOf]; omega
      · obtain rfl : l = j := by omega
        have hT : L.take l = L := List.take_of_length_le (by rw [HL.out]; exact Nat.le_refl _)
        have C1 : Hid (cntI (L.take l) kd = cntI L kd) := by show _ = _; rw [hT]
        have E3 : Hid (E.map ieP = (L.filter fun x => decide (x.kind = 1)).map xeP) := by show _ = _; rw [EE.out, hT]
        rw [C1.out]
        have A0 := AL.out wr BX.out
        clear HX ON EE BW hT AL
        go_wp2_with fail
        refine A0.mono ?_
        rintro e w3 ⟨rfl, hb⟩
        have Br : Hid (Below wr.heap.size wr w3) := hb
        have B3 : Hid (Below w1.heap.size w1 w3) := BX.out.trans (hb.mono BX.out.size)
        have CT3 := CT.out w3 B3.out
        obtain ⟨cn, hcn⟩ : ∃ z, cntI L kd = z := ⟨_, rfl⟩
        rw [hcn] at CT3 ⊢
        have tt : ((cn : Int) == (cn : Int)) = true := beq_self_eq_true _
        clear A0 hb CT hcn BX
        go_wp2_with fail
        refine CT3.mono ?_
        rintro e w4 ⟨rfl, hb⟩
        have Br4 : Hid (Below wr.heap.size wr w4) := Br.out.trans (hb.mono Br.out.size)
        have B4 : Hid (Below w1.heap.size w1 w4) := B3.out.trans (hb.mono B3.out.size)
        have CD4 := CD.out w4 B4.out
        clear CT3 hb CD Br B3
        go_wp2_with fail
        refine CD4.mono ?_
        rintro e w5 ⟨A5, c5, E5, rfl, hE5, hO5, hb⟩
        have Br5 : Hid (Below wr.heap.size wr w5) := Br4.out.trans (hb.mono Br4.out.size)
        have B5 : Hid (Below w1.heap.size w1 w5) := B4.out.trans (hb.mono B4.out.size)
        obtain ⟨A5', c5', e5, hI5, -⟩ := hO5.ins
        simp only [Value.slice.injEq] at e5
        obtain ⟨rfl, -, -⟩ := e5
        obtain ⟨A6', c6', e6, hI6⟩ := insP_row (row_below OR.out Br5.out) (fun r hr => (OE.out r hr).2 w5 B5.out)
        rw [HK.out] at e6
        simp only [Value.slice.injEq] at e6
        obtain ⟨rfl, -, -⟩ := e6
        have hmm : E5.map ieP = E.map ieP := by rw [hE5, E3.out]
        have hle : E5.length = k := by
          have h := congrArg List.length hmm
          simp only [List.length_map] at h
          rw [h, HK.out]
        have EF := equalFI_any A5 A' c5 c' k E5 E hle hmm (fun r hr => by
          obtain ⟨i, hi, rfl⟩ := List.getElem_of_mem hr
          have hi2 : i < E.length := by rw [HK.out, ← hle]; exact hi
          have h := congrArg (fun l => l[i]?) hmm
          simp only [List.getElem?_map, List.getElem?_eq_getElem hi, List.getElem?_eq_getElem hi2, Option.map_some, Option.some.injEq] at h
          have e2 : E5[i].L = E[i].L := (Prod.mk.inj h).2
          rw [e2]
          exact (OE.out _ (List.getElem_mem hi2)).1) (by omega) w5 hI5 hI6
        rw [hle]
        clear CD4 hE5 hO5 hb hI5 hI6 hmm hle OR OE E3 HK Br4 Br5 B4
        go_wp2_with fail
        refine EF.mono ?_
        rintro e w6 ⟨rfl, hb⟩
        have B6 : Hid (Below w1.heap.size w1 w6) := B5.out.trans (hb.mono B5.out.size)
        have R6 := RW.out w6 B6.out
        clear EF hb RW B5
        go_wp2_with fail
        refine R6.mono ?_
        rintro e w7 ⟨A7, c7, rfl, hO7, hb⟩
        have B7 : Hid (Below w1.heap.size w1 w7) := B6.out.trans (hb.mono B6.out.size)
        have X7 := Lib.hid (fun w' (h : Below w7.heap.size w7 w') => (townB_at hO7).below h)
        have R7 := RR.out w7 B7.out
        clear R6 hO7 hb RR B6
        go_wp2_with fail
        refine R7.mono ?_
        rintro e w8 ⟨A8, c8, rfl, hO8, hb⟩
        have B8 : Hid (Below w1.heap.size w1 w8) := B7.out.trans (hb.mono B7.out.size)
        have EQ := equalU_any A7 A8 c7 c8 (rawI L) (rawI L) (by have := HF.out; unfold maxLen; omega) (by have := HF.out; unfold maxLen; omega) w8 (X7.out w8 hb) (townB_at hO8)
        rw [decide_eq_true rfl] at EQ
        obtain ⟨rl, hrl⟩ : ∃ z, (rawI L).length = z := ⟨_, rfl⟩
        rw [hrl] at EQ ⊢
        clear R7 hO8 hb X7 B7 hrl
        go_wp2_with fail
        refine EQ.mono ?_
        rintro e w9 ⟨rfl, hb⟩
        have B9 : Hid (Below w1.heap.size w1 w9) := B8.out.trans (hb.mono B8.out.size)
        clear EQ hb B8
        go_wp2
        go_ret
        exact ⟨rfl, B9.out⟩
end Go.Proofs.YtmnleknehjkmgaaGreat
