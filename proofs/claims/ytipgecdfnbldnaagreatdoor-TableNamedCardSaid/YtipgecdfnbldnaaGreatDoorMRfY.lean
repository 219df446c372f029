/-
  The reference's both, and blocks of its entries.
-/
import Derived.Test.YtipgecdfnbldnaaGreatDoorMRfJ
import Derived.Test.YtipgecdfnbldnaaGreatDoorTaF
import Derived.Deep.DeepCutAuto
import Derived.Deep.Cut
import Derived.StillTail
import Derived.StillTailTactics
import Derived.Deep.RegionHeld3
import Derived.RegionTactic
set_option linter.all false
set_option maxRecDepth 100000
set_option maxHeartbeats 4000000
namespace Go.Proofs.YtipgecdfnbldnaaGreatDoor
open Go.RowKit Go.Shelf
attribute [local irreducible] Go.Mixed.wpMix
def RnAt (w : World) (b : Nat) (page op : Int) (m : Str) (v : Value) (ex : Str) (al : Bool) : Prop := w.heap[b]? = some (.cells #[.int .i64 page, .int .u8 op, .string (sB m), v, .string (sB ex), .bool al] 30 (0, 0))
section
variable {w w' : World} {b : Nat} {page op : Int} {m ex : Str} {v : Value} {al : Bool}
theorem RnAt.lt (h : RnAt w b page op m v ex al) : b < w.heap.size := (Array.getElem?_eq_some_iff.1 h).1
theorem RnAt.below {B : Nat} (h : RnAt w b page op m v ex al) (hb : Below B w w') (hB : b < B) : RnAt w' b page op m v ex al := (hb.block b hB).trans h
theorem RnAt.all (h : RnAt w b page op m v ex al) (hb : Below w.heap.size w w') : RnAt w' b page op m v ex al := h.below hb h.lt
theorem RnAt.cells (h : RnAt w b page op m v ex al) : w.cell? ⟨b, 0, none⟩ = some (.int .i64 page) ∧ w.cell? ⟨b, 1, none⟩ = some (.int .u8 op) ∧ w.cell? ⟨b, 2, none⟩ = some (.string (sB m)) ∧ w.cell? ⟨b, 3, none⟩ = some v ∧ w.cell? ⟨b, 4, none⟩ = some (.string (sB ex)) ∧ w.cell? ⟨b, 5, none⟩ = some (.bool al) ∧ ∀ j, w.frozen? ⟨b, j, none⟩ = false :=
  ⟨Lib.cell_of_heap h 0, Lib.cell_of_heap h 1, Lib.cell_of_heap h 2, Lib.cell_of_heap h 3, Lib.cell_of_heap h 4, Lib.cell_of_heap h 5, Lib.frozen_of_heap h⟩
theorem RnAt.set_args (h : RnAt w b page op m v ex al) (v' : Value) : RnAt (w.setCell ⟨b, 3, none⟩ v') b page op m v' ex al := heap_setCell_same w b 3 _ _ v' h
theorem RnAt.set_extra (h : RnAt w b page op m v ex al) (ex' : Str) : RnAt (w.setCell ⟨b, 4, none⟩ (.string (sB ex'))) b page op m v ex' al := heap_setCell_same w b 4 _ _ _ h
theorem RnAt.set_alias (h : RnAt w b page op m v ex al) (al' : Bool) : RnAt (w.setCell ⟨b, 5, none⟩ (.bool al')) b page op m v ex al' := heap_setCell_same w b 5 _ _ _ h
theorem RnAt.set_code (h : RnAt w b page op m v ex al) (op' : Int) : RnAt (w.setCell ⟨b, 1, none⟩ (.int .u8 op')) b page op' m v ex al := heap_setCell_same w b 1 _ _ _ h
theorem RnAt.set_page (h : RnAt w b page op m v ex al) (page' : Int) : RnAt (w.setCell ⟨b, 0, none⟩ (.int .i64 page')) b page' op m v ex al := heap_setCell_same w b 0 _ _ _ h
theorem RnAt.set_mn (h : RnAt w b page op m v ex al) (m' : Str) : RnAt (w.setCell ⟨b, 2, none⟩ (.string (sB m'))) b page op m' v ex al := heap_setCell_same w b 2 _ _ _ h
theorem RnAt.put (h : RnAt w b page op m v ex al) (page' op' : Int) (m' : Str) (v' : Value) (ex' : Str) (al' : Bool) :
    ∃ w', (((((w.setCell ⟨b, 0, none⟩ (.int .i64 page')).setCell ⟨b, 1, none⟩ (.int .u8 op')).setCell ⟨b, 2, none⟩ (.string (sB m'))).setCell ⟨b, 3, none⟩ v').setCell ⟨b, 4, none⟩ (.string (sB ex'))).setCell ⟨b, 5, none⟩ (.bool al') = w' ∧
      RnAt w' b page' op' m' v' ex' al' ∧ Below b w w' ∧ w'.heap.size = w.heap.size ∧ (∀ B u L, b < B → OwnT w B u L → OwnT w' B u L) ∧ ∀ k, k ≠ b → w'.heap[k]? = w.heap[k]? := by
  refine ⟨_, rfl, (((((h.set_page page').set_code op').set_mn m').set_args v').set_extra ex').set_alias al', ?_, by simp, fun B u L hB hO => ?_, fun k hk => ?_⟩
  · exact ((((((Below.refl b w).setCell (p := ⟨b, 0, none⟩) (Nat.le_refl _) _).setCell (p := ⟨b, 1, none⟩) (Nat.le_refl _) _).setCell (p := ⟨b, 2, none⟩) (Nat.le_refl _) _).setCell (p := ⟨b, 3, none⟩) (Nat.le_refl _) _).setCell (p := ⟨b, 4, none⟩) (Nat.le_refl _) _).setCell (p := ⟨b, 5, none⟩) (Nat.le_refl _) _
  · exact row_set (row_set (row_set (row_set (row_set (row_set hO (p := ⟨b, 0, none⟩) hB _) (p := ⟨b, 1, none⟩) hB _) (p := ⟨b, 2, none⟩) hB _) (p := ⟨b, 3, none⟩) hB _) (p := ⟨b, 4, none⟩) hB _) (p := ⟨b, 5, none⟩) hB _
  · exact (heap_setCell_other _ ⟨b, 5, none⟩ k _ hk).trans ((heap_setCell_other _ ⟨b, 4, none⟩ k _ hk).trans ((heap_setCell_other _ ⟨b, 3, none⟩ k _ hk).trans ((heap_setCell_other _ ⟨b, 2, none⟩ k _ hk).trans ((heap_setCell_other _ ⟨b, 1, none⟩ k _ hk).trans (heap_setCell_other _ ⟨b, 0, none⟩ k _ hk)))))
theorem RnAt.set_other (h : RnAt w b page op m v ex al) {g j : Nat} (hg : b ≠ g) (u : Value) : RnAt (w.setCell ⟨g, j, none⟩ u) b page op m v ex al := (heap_setCell_other w ⟨g, j, none⟩ b u hg).trans h
end
theorem put_ownR {w w' : World} {b B : Nat} {page op : Int} {m ex : Str} {v u : Value} {al : Bool} {L : List Tr} (h : RnAt w b page op m v ex al) (O : OwnT w B u L) (k : ∀ k, k ≠ b → w'.heap[k]? = w.heap[k]?) : OwnT w' B u L := by
  have hs : ∀ g cur, w.heap[g]? = some (.cells cur 69 (0, 0)) → g ≠ b := fun g cur hg e => by
    subst e
    rw [show w.heap[g]? = _ from h] at hg
    simp at hg
  refine ⟨O.1, ?_⟩
  rcases O.2 with h2 | ⟨g, cap, cur, h3, h4, h5, h6⟩
  · exact .inl h2
  · exact .inr ⟨g, cap, cur, h3, h4, (k g (hs g cur h5)).trans h5, h6⟩
theorem rn_kept {w8 w9 : World} {b B : Nat} {page op : Int} {m ex : Str} {v u : Value} {al : Bool} {L : List Tr} {o : Obj} (X : RnAt w8 b page op m u ex al) (O : OwnT w8 B v L)
    (hg : (w8.alloc o).grownBy w9 v.ownBlock) : RnAt w9 b page op m u ex al := by
  have hal : Below w8.heap.size w8 (w8.alloc o) := (Below.refl _ _).alloc (Nat.le_refl _) _
  refine (hg.block b (by have := X.lt; simp; omega) ?_).trans (X.all hal)
  intro e
  obtain ⟨cur, hc⟩ := own_types O e.symm
  have h := X
  unfold RnAt at h
  rw [hc] at h
  simp at h
theorem own_argsR {w : World} {b B : Nat} {page op : Int} {m ex : Str} {v u : Value} {al : Bool} {L : List Tr} (X : RnAt w b page op m v ex al) (O : OwnT w B u L) (j : Nat) (x : Value) : OwnT (w.setCell ⟨b, j, none⟩ x) B u L :=
  row_set_ne O (p := ⟨b, j, none⟩) (fun g hg => by
    obtain ⟨cur, hc⟩ := own_types O hg
    rintro rfl
    have h := X
    unfold RnAt at h
    rw [hc] at h
    simp at h) _
theorem both_start (w : World) (page op : Int) : ∃ w0, (w.alloc (.cells #[.int .i64 0, .int .u8 0, .string ⟨#[]⟩, .slice none 0 0, .string ⟨#[]⟩, .bool false] 30)).alloc (.cells #[.int .i64 page, .int .u8 op, .string ⟨#[]⟩, .slice none 0 0, .string ⟨#[100]⟩, .bool false] 30) = w0 ∧
    RnAt w0 w.heap.size 0 0 [] (.slice none 0 0) [] false ∧ RnAt w0 (w.heap.size + 1) page op [] (.slice none 0 0) [100] false ∧ Below w.heap.size w w0 ∧ w0.heap.size = w.heap.size + 2 := by
  refine ⟨_, rfl, (Below.heap_alloc _ _ _ (by simp)).trans (World.alloc_heap_new w _), ?_, ((Below.refl _ w).alloc (Nat.le_refl _) _).alloc (by simp) _, by simp⟩
  have h := World.alloc_heap_new (w.alloc (.cells #[.int .i64 0, .int .u8 0, .string ⟨#[]⟩, .slice none 0 0, .string ⟨#[]⟩, .bool false] 30)) (.cells #[.int .i64 page, .int .u8 op, .string ⟨#[]⟩, .slice none 0 0, .string ⟨#[100]⟩, .bool false] 30)
  rw [World.size_alloc] at h
  exact h
def bothT (page : Int) (op : Nat) : En :=
  if op % 8 = 6 then ((cbN op (5, page, 0)).1, (cbN op (5, page, 0)).2, [100], false) else if op / 64 = 1 then ((cbN op (5, page, 0)).1, (cbN op (5, page, 0)).2, [100], true) else ((cbN op (5, page, 0)).1, (cbN op (5, page, 0)).2 ++ [regT (op % 8 : Nat)], [100], false)
theorem cbN_len (op : Nat) (x : Tr) : (cbN op x).2.length ≤ 2 := by
  unfold cbN
  split <;> simp
theorem both_any (page : Int) (op : Nat) (hop : op < 256) (w : World) : Calls Tryz.prog 32 #[.int .i64 page, .int .u8 op] w (RetEn w page op (bothT page op)) := by
  obtain ⟨w0, hw0, R0, E0, B0, Z0⟩ := both_start w page op
  obtain ⟨n, hn⟩ : ∃ n, w.heap.size = n := ⟨_, rfl⟩
  rw [hn] at R0 E0 B0 Z0
  have HN := Lib.hid hn
  have HW := Lib.hid hw0
  clear hw0
  have hlen := cbN_len op (5, page, 0)
  have KK := cb_any op hop (5, page, 0) w0
  have T0 : bothT page op = if op % 8 = 6 then ((cbN op (5, page, 0)).1, (cbN op (5, page, 0)).2, [100], false) else if op / 64 = 1 then ((cbN op (5, page, 0)).1, (cbN op (5, page, 0)).2, [100], true) else ((cbN op (5, page, 0)).1, (cbN op (5, page, 0)).2 ++ [regT (op % 8 : Nat)], [100], false) := rfl
  obtain ⟨m, hm⟩ : ∃ m, (cbN op (5, page, 0)).1 = m := ⟨_, rfl⟩
  obtain ⟨L, hL⟩ : ∃ L, (cbN op (5, page, 0)).2 = L := ⟨_, rfl⟩
  rw [hm, hL] at KK T0
  rw [hL] at hlen
  obtain ⟨z, hz⟩ : ∃ z, op % 8 = z := ⟨_, rfl⟩
  obtain ⟨x, hx⟩ : ∃ x, op / 64 = x := ⟨_, rfl⟩
  rw [hz, hx] at T0
  have TT := Lib.hid T0
  clear T0
  have f1 : (op : Int) % 8 = (z : Int) := by omega
  have f2 : (op : Int) / 64 = (x : Int) := by omega
  have F := Lib.hid (And.intro f1 f2)
  have KK := Lib.hid KK
  have HLEN := Lib.hid hlen
  clear hm hL hz hx hn f1 f2 hlen
  have R0 := Lib.hid R0
  have E0 := Lib.hid E0
  have B0 := Lib.hid B0
  go_enter Tryz.func32, Tryz.ntmps32
  go_upto_region 2 with fail
  rw [HW.out, HN.out]
  go_wp2_with fail
  refine KK.out.mono ?_
  rintro e w1 ⟨v, rfl, hO, hb1⟩
  obtain ⟨A, cap, rfl, -, -⟩ := hO.ops
  have R1 := Lib.hid (R0.out.all hb1)
  have E1 := Lib.hid (E0.out.all hb1)
  have B1 : Hid (Below n w w1) := B0.out.trans (hb1.mono (by omega))
  have O1 : Hid (OwnT w1 (n + 2) (.slice A L.length cap) L) := hO.lift (by omega)
  clear hO hb1 R0 E0 B0 Z0 HW KK
  obtain ⟨k, hk⟩ : ∃ k, L.length = k := ⟨_, rfl⟩
  rw [hk] at O1 ⊢
  have HK := Lib.hid hk
  have hk2 : k ≤ 2 := by have := HLEN.out; omega
  clear hk
  have E2 := Lib.hid ((E1.out.set_mn m).set_args (.slice A k cap))
  have R2 := Lib.hid ((R1.out.set_other (g := n + 1) (j := 2) (by omega) (.string (sB m))).set_other (g := n + 1) (j := 3) (by omega) (.slice A k cap))
  have B2 := Lib.hid ((B1.out.setCell (p := ⟨n + 1, 2, none⟩) (Nat.le_succ _) (.string (sB m))).setCell (p := ⟨n + 1, 3, none⟩) (Nat.le_succ _) (.slice A k cap))
  have O2 := Lib.hid (own_argsR (E1.out.set_mn m) (own_argsR E1.out O1.out 2 (.string (sB m))) 3 (.slice A k cap))
  obtain ⟨e0, e1', e2', e3', e4', e5', e6'⟩ := E1.out.cells
  go_upto_region 3 with fail
  obtain ⟨w2, hw2⟩ : ∃ w2, (w1.setCell ⟨n + 1, 2, none⟩ (.string (sB m))).setCell ⟨n + 1, 3, none⟩ (.slice A k cap) = w2 := ⟨_, rfl⟩
  rw [hw2] at E2 R2 B2 O2 ⊢
  clear hw2 R1 E1 B1 O1 e0 e1' e2' e3' e4' e5' e6'
  have Rw2 := R2
  have Ew2 := E2
  have Bw2 := B2
  have Ow2 := O2
  clear R2 E2 B2 O2
  by_cases hz : z = 6
  · have T : Hid (bothT page op = (m, L, [100], false)) := by show _ = _; rw [TT.out, if_pos hz]
    have k6 : ((op : Int) % 8 == 6) = true := by rw [F.out.1, hz]; rfl
    clear hz
    obtain ⟨e0, e1', e2', e3', e4', e5', e6'⟩ := Ew2.out.cells
    obtain ⟨r0, r1, r2, r3, r4, r5, r6⟩ := Rw2.out.cells
    go_wp2
    obtain ⟨w7, hw7, qq, q2, q3, -, q4⟩ := Rw2.out.put page op m (.slice A k cap) [100] false
    rw [hw7]
    obtain ⟨q0, q1, q2', q3', q4', q5, -⟩ := qq.cells
    refine bodyPost_ret (v := enV page op m (.slice A k cap) [100] false) ?_ rfl ?_
    · simp [results, Tryz.results32, go_sem, q0, q1, q2', q3', q4', q5, enV]
    · rw [T.out]
      exact ⟨_, rfl, (put_ownR Rw2.out Ow2.out q4).lift (by have := HN.out; omega), by rw [HN.out]; exact Bw2.out.trans q2⟩
  · have k6 : ((op : Int) % 8 == 6) = false := by rw [F.out.1]; simp; omega
    by_cases hx : x = 1
    · have T : Hid (bothT page op = (m, L, [100], true)) := by show _ = _; rw [TT.out, if_neg hz, if_pos hx]
      have k1 : ((op : Int) / 64 == 1) = true := by rw [F.out.2, hx]; rfl
      clear hz hx
      have E3 := Lib.hid (Ew2.out.set_alias true)
      have R3 := Lib.hid (Rw2.out.set_other (g := n + 1) (j := 5) (by omega) (.bool true))
      have B3 := Lib.hid (Bw2.out.setCell (p := ⟨n + 1, 5, none⟩) (Nat.le_succ _) (.bool true))
      have O3 := Lib.hid (own_argsR Ew2.out Ow2.out 5 (.bool true))
      obtain ⟨e0, e1', e2', e3', e4', e5', e6'⟩ := Ew2.out.cells
      go_upto_region 7 with fail
      obtain ⟨w3, hw3⟩ : ∃ w3, w2.setCell ⟨n + 1, 5, none⟩ (.bool true) = w3 := ⟨_, rfl⟩
      rw [hw3] at E3 R3 B3 O3 ⊢
      clear hw3 Rw2 Ew2 Bw2 Ow2 e0 e1' e2' e3' e4' e5' e6'
      have Rw3 := R3
      have Ew3 := E3
      have Bw3 := B3
      have Ow3 := O3
      clear R3 E3 B3 O3
      obtain ⟨e0, e1', e2', e3', e4', e5', e6'⟩ := Ew3.out.cells
      obtain ⟨r0, r1, r2, r3, r4, r5, r6⟩ := Rw3.out.cells
      go_wp2
      obtain ⟨w7, hw7, qq, q2, q3, -, q4⟩ := Rw3.out.put page op m (.slice A k cap) [100] true
      rw [hw7]
      obtain ⟨q0, q1, q2', q3', q4', q5, -⟩ := qq.cells
      refine bodyPost_ret (v := enV page op m (.slice A k cap) [100] true) ?_ rfl ?_
      · simp [results, Tryz.results32, go_sem, q0, q1, q2', q3', q4', q5, enV]
      · rw [T.out]
        exact ⟨_, rfl, (put_ownR Rw3.out Ow3.out q4).lift (by have := HN.out; omega), by rw [HN.out]; exact Bw3.out.trans q2⟩
    · have T : Hid (bothT page op = (m, L ++ [regT (z : Int)], [100], false)) := by show _ = _; rw [TT.out, if_neg hz, if_neg hx]
      have k1 : ((op : Int) / 64 == 1) = false := by rw [F.out.2]; simp; omega
      clear hz hx
      obtain ⟨⟨y0, y1, y2⟩, hy⟩ : ∃ y : Tr, regT (z : Int) = y := ⟨_, rfl⟩
      have HY := Lib.hid hy
      have hr := fun w => rr_any ((op : Int) % 8) w
      rw [F.out.1] at hr
      rw [hy] at hr T
      rw [← F.out.1] at hr
      clear hy
      have b1 : (0 : Int) ≤ (op : Int) % 8 := by omega
      have b2 : (op : Int) % 8 ≤ 7 := by omega
      go_upto_region 8 with fail
      obtain ⟨w3, hw3⟩ : ∃ w3, w2.drew = w3 := ⟨_, rfl⟩
      have hd : Below w2.heap.size w2 w3 := by rw [← hw3]; exact below_drewN w2 _ 1
      have Rw3 := Lib.hid (Rw2.out.all hd)
      have Ew3 := Lib.hid (Ew2.out.all hd)
      have Ow3 := Lib.hid (Ow2.out.below hd)
      have Bw3 : Hid (Below n w w3) := Bw2.out.trans (hd.mono (by have := Ew2.out.lt; omega))
      have C3 : Hid (w3.cell? ⟨n + 1, 3, none⟩ = some (.slice A k cap)) := Ew3.out.cells.2.2.2.1
      refine Mixed.wp_region_mixed (fun w' => w'.cell? ⟨n + 1, 3, none⟩ = some (.slice A k cap)) 8 [(0, true), (1, true), (2, true), (3, true), (4, true), (5, true), (6, false), (7, false)] (by kernel_rfl) (by kernel_rfl) (by rw [hw3]; exact C3.out) ?_
      rw [hw3]
      clear Rw2 Ew2 Bw2 Ow2 C3 hw3 hd
      refine Mixed.wpMix_pure rfl (by kernel_rfl) (.pointer (some ⟨n + 1, 2, none⟩)) (fun w h => by go_simp; try rfl) ?_
      refine Mixed.wpMix_pure rfl (by kernel_rfl) (.pointer (some ⟨n + 1, 3, none⟩)) (fun w h => by go_simp; try rfl) ?_
      refine Mixed.wpMix_pure rfl (by kernel_rfl) (.slice A k cap) (fun w h => by go_simp; try rfl) ?_
      refine Mixed.wpMix_move rfl (by kernel_rfl) _ rfl (.int .u8 op) rfl ?_
      refine Mixed.wpMix_pure rfl (by kernel_rfl) (.int .u8 ((op : Int) % 8)) (fun w h => by go_simp; try rfl) ?_
      refine Mixed.wpMix_pure rfl (by kernel_rfl) (.int .i64 ((op : Int) % 8)) (fun w h => by go_simp; first | rfl | (rw [IntKind.wrap_i64]; omega)) ?_
      refine Mixed.wpMix_loudG rfl (by kernel_rfl) ?_
      go_wp2_with fail
      refine (hr w3).mono ?_
      rintro e w8 ⟨rfl, hb8⟩
      have Rw8 := Lib.hid (Rw3.out.all hb8)
      have Ew8 := Lib.hid (Ew3.out.all hb8)
      have Ow8 := Lib.hid (Ow3.out.below hb8)
      have Bw8 : Hid (Below n w w8) := Bw3.out.trans (hb8.mono (by have := Ew3.out.lt; omega))
      have xx := Ew8.out.cells.2.2.2.1
      clear hb8 Rw3 Ew3 Bw3 Ow3 hr
      go_wp2
      refine ⟨xx, ?_⟩
      clear xx
      simp only [trV]
      have hbw : n + 1 < w8.heap.size := Ew8.out.lt
      have xa : ∀ o, (w8.alloc o).cell? ⟨n + 1, 3, none⟩ = some (.slice A k cap) := fun o => (((Below.refl w8.heap.size w8).alloc (Nat.le_refl _) o).cell hbw).trans Ew8.out.cells.2.2.2.1
      refine Mixed.wpMix_loudG rfl (by kernel_rfl) ?_
      go_wp2
      refine ⟨xa _, ?_⟩
      simp only [Mixed.wpMix, List.drop_succ_cons, List.drop_zero]
      have hBw : n + 2 ≤ w8.heap.size := by omega
      have XO := Lib.hid (fun (w9 : World) (hg9 : (w8.alloc (.cells #[.int .i64 y0, .int .i64 y1, .int .i64 y2] 69)).grownBy w9 (Value.slice A k cap).ownBlock) => And.intro (rn_kept Ew8.out Ow8.out hg9) (rn_kept Rw8.out Ow8.out hg9))
      go_wp2_with (at_builtin; refine wpList_appG Ow8.out hBw rfl _ _ rfl rfl w8.heap.size rfl rfl (y0, y1, y2) k HK.out (by omega) ?_; intro A' cap' w9 hO9 hg9 hB9; obtain ⟨hx9, hr9⟩ := XO.out w9 hg9; have E9 := Lib.hid hx9; have R9 := Lib.hid hr9; have O9 := Lib.hid hO9; have B9 : Hid (Below n w w9) := Bw8.out.trans (hB9.mono (by omega)); clear hx9 hr9 hO9 hB9 hg9 XO Ew8 Rw8 Ow8 Bw8 xa hbw hBw; obtain ⟨e0, e1', e2', e3', e4', e5', e6'⟩ := E9.out.cells; obtain ⟨r0, r1, r2, r3, r4, r5, r6⟩ := R9.out.cells)
      have Ew10 := Lib.hid (E9.out.set_args (.slice A' (k + 1) cap'))
      have Rw10 := Lib.hid (R9.out.set_other (g := n + 1) (j := 3) (by omega) (.slice A' (k + 1) cap'))
      have Bw10 := Lib.hid (B9.out.setCell (p := ⟨n + 1, 3, none⟩) (Nat.le_succ _) (.slice A' (k + 1) cap'))
      have Ow10 := Lib.hid (own_argsR E9.out O9.out 3 (.slice A' (k + 1) cap'))
      obtain ⟨w7, hw7, qq, q2, q3, -, q4⟩ := Rw10.out.put page op m (.slice A' (k + 1) cap') [100] false
      rw [hw7]
      obtain ⟨q0, q1, q2', q3', q4', q5, -⟩ := qq.cells
      refine bodyPost_ret (v := enV page op m (.slice A' (k + 1) cap') [100] false) ?_ rfl ?_
      · simp [results, Tryz.results32, go_sem, q0, q1, q2', q3', q4', q5, enV]
      · rw [T.out]
        exact ⟨_, rfl, (put_ownR Rw10.out Ow10.out q4).lift (by have := HN.out; omega), by rw [HN.out]; exact Bw10.out.trans q2⟩
end Go.Proofs.YtipgecdfnbldnaaGreatDoor
