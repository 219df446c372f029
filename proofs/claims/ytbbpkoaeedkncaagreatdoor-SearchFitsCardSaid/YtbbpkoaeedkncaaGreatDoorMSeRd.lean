/-
  The reference's shaped.
-/
import Derived.Test.YtbbpkoaeedkncaaGreatDoorGAK
set_option linter.all false
set_option maxRecDepth 100000
set_option maxHeartbeats 4000000
namespace Go.Proofs.YtbbpkoaeedkncaaGreatDoor
open Go.RowKit Go.Shelf
attribute [local go_sem] Oper.semAt_some
theorem shaped_any (page op : Int) (m : Str) (A : Option Addr) (cap l : Nat) (L : List Tr) (hl : L.length = l) (hL : l ≤ 1000) (ex : Str) (al : Bool) (s : ByteArray) (Ac : Option Addr) (cc lc : Nat) (C : List Tr) (hlc : C.length = lc) (hLc : lc ≤ 1000) (w : World) (H : OpsP w A L) (HC : OpsP w Ac C) :
    Calls Tryz.prog 38 #[enV page op m (.slice A l cap) ex al, .agg #[.string s, .slice Ac lc cc]] w fun e w' => e = .returned (.bool (shpR m L s C)) ∧ Below w.heap.size w w' := by
  unfold enV
  obtain ⟨w0, hw0⟩ : ∃ z, (w.alloc (.cells #[.int .i64 page, .int .u8 op, .string (sB m), .slice A l cap, .string (sB ex), .bool al] 29)).alloc (.cells #[.string s, .slice Ac lc cc] 24) = z := ⟨_, rfl⟩
  obtain ⟨n, hn⟩ : ∃ z, w.heap.size = z := ⟨_, rfl⟩
  have b0 : Below w.heap.size w w0 := by rw [← hw0]; exact ((Below.refl _ w).alloc (Nat.le_refl _) _).alloc (by simp) _
  have c0 : w0.heap[n]? = some (.cells #[.int .i64 page, .int .u8 op, .string (sB m), .slice A l cap, .string (sB ex), .bool al] 29 (0, 0)) := by rw [← hw0, ← hn]; exact (Below.heap_alloc _ _ _ (by simp)).trans (World.alloc_heap_new w _)
  have c1 : w0.heap[n + 1]? = some (.cells #[.string s, .slice Ac lc cc] 24 (0, 0)) := by
    rw [← hw0, ← hn]
    have h := World.alloc_heap_new (w.alloc (.cells #[.int .i64 page, .int .u8 op, .string (sB m), .slice A l cap, .string (sB ex), .bool al] 29)) (.cells #[.string s, .slice Ac lc cc] 24)
    rwa [World.size_alloc] at h
  have BB : Hid (Below n w w0) := by rw [← hn]; exact b0
  have HN := Lib.hid hn
  have PL := Lib.hid (H.below b0)
  have PC := Lib.hid (HC.below b0)
  have k2 := Lib.cell_of_heap c0 2
  have k3 := Lib.cell_of_heap c0 3
  have j0 := Lib.cell_of_heap c1 0
  have j1 := Lib.cell_of_heap c1 1
  have hd := below_drewN w0 w0.heap.size
  clear H HC b0
  by_cases hs : sB m = s
  rotate_left
  · have hq := strB_ne hs
    have T : Hid (false = shpR m L s C) := by show false = _; unfold shpR; rw [decide_eq_false hs]; rfl
    clear hs hlc hl
    go_enter Tryz.func38, Tryz.ntmps38
    go_wp2
    go_ret
    exact ⟨ret_bool T.out, by rw [HN.out]; exact BB.out⟩
  subst hs
  have hq := strB_eq (sB m)
  by_cases hll : l = lc
  rotate_left
  · have T : Hid (false = shpR m L (sB m) C) := by show false = _; unfold shpR; rw [show decide (L.map ks2 = C.map ks2) = false from decide_eq_false (fun e => hll (by rw [← hl, ← hlc]; exact len_of_shape e))]; simp
    have e1 : ((l : Int) == (lc : Int)) = false := beq_eq_false_iff_ne.2 (by omega)
    have e2 : ¬ ((l : Int) = (lc : Int)) := by omega
    clear hlc hl hll
    go_enter Tryz.func38, Tryz.ntmps38
    go_wp2
    go_ret
    exact ⟨ret_bool T.out, by rw [HN.out]; exact BB.out⟩
  subst hll
  have HL1 := Lib.hid hl
  have HL2 := Lib.hid hlc
  have KK : Hid (w0.heap[n]? = some (.cells #[.int .i64 page, .int .u8 op, .string (sB m), .slice A l cap, .string (sB ex), .bool al] 29 (0, 0)) ∧ w0.heap[n + 1]? = some (.cells #[.string (sB m), .slice Ac l cc] 24 (0, 0))) := ⟨c0, c1⟩
  clear hl hlc c0 c1 hLc
  go_enter Tryz.func38, Tryz.ntmps38
  go_wp2
  clear hd hw0 k2 k3 j0 j1 hq
  go_loopw [5] (fun i wr => ∃ j : Nat, j ≤ l ∧ i = .int .i64 j ∧ Hid (∀ k, k < j → ks2 (L.getD k tr0) = ks2 (C.getD k tr0)) ∧ Hid (Below w0.heap.size w0 wr)) (fun i _ => l - (intOf i).toNat)
  case atStart => exact ⟨0, Nat.zero_le _, rfl, fun k h => by omega, Below.refl _ _⟩
  case round =>
    obtain ⟨j, hj, rfl, R, B⟩ := hrel
    have s0 : n < w0.heap.size := (Array.getElem?_eq_some_iff.1 KK.out.1).1
    have s1 : n + 1 < w0.heap.size := (Array.getElem?_eq_some_iff.1 KK.out.2).1
    have d0 := (B.out.block n s0).trans KK.out.1
    have d1 := (B.out.block (n + 1) s1).trans KK.out.2
    have k3 := Lib.cell_of_heap d0 3
    have j1 := Lib.cell_of_heap d1 1
    have B2 := fun q => Lib.hid (B.out.trans (below_drewN wr w0.heap.size q))
    have BF : Hid (∀ q, Below n w (wr.drewN q)) := fun q => BB.out.trans ((B2 q).out.mono (by omega))
    by_cases hlt : j < l
    · have hj1 : j < L.length := by have := HL1.out; omega
      have hj2 : j < C.length := by have := HL2.out; omega
      obtain ⟨b1, o1, rfl, -, p0, p1, p2⟩ := (PL.out.below B.out).at_ hj1
      obtain ⟨b2, o2, rfl, -, q0, q1, q2⟩ := (PC.out.below B.out).at_ hj2
      have g1 : L.getD j tr0 = L[j] := by rw [List.getD_eq_getElem?_getD, List.getElem?_eq_getElem hj1]; rfl
      have g2 : C.getD j tr0 = C[j] := by rw [List.getD_eq_getElem?_getD, List.getElem?_eq_getElem hj2]; rfl
      rw [← g1] at p0 p1 p2
      rw [← g2] at q0 q1 q2
      have R2 : Hid (ks2 (L.getD j tr0) = ks2 (C.getD j tr0) → ∀ k, k < j + 1 → ks2 (L.getD k tr0) = ks2 (C.getD k tr0)) := fun h k hk => by
        by_cases e : k = j
        · subst e; exact h
        · exact R.out k (by omega)
      have RF : Hid (ks2 (L.getD j tr0) ≠ ks2 (C.getD j tr0) → shpR m L (sB m) C = false) := fun h => by
        unfold shpR
        rw [show decide (L.map ks2 = C.map ks2) = false from decide_eq_false (fun e => h (by
          have h2 := get_of_shape e j hj1
          exact Prod.ext h2.1 h2.2))]
        simp
      obtain ⟨⟨x0, x1, x2⟩, hx⟩ : ∃ x, L.getD j tr0 = x := ⟨_, rfl⟩
      obtain ⟨⟨y0, y1, y2⟩, hy⟩ : ∃ y, C.getD j tr0 = y := ⟨_, rfl⟩
      rw [hx] at p0 p1 p2 R2 RF
      rw [hy] at q0 q1 q2 R2 RF
      simp only [ks2] at p0 p1 p2 q0 q1 q2 R2 RF
      have hjc : (j : Int) < (l : Int) := by omega
      clear hx hy g1 g2 hj1 hj2 R d0 d1
      by_cases h0 : x0 = y0
      · subst h0
        by_cases h1 : x1 = y1
        · subst h1
          have R3 := Lib.hid (R2.out rfl)
          go_wp2
          go_quiet (fail)
          go_wp2
          go_roundw
          case rel => exact ⟨j + 1, by omega, by go_num, R3.out, (B2 _).out⟩
          case measure => simp [intOf]; omega
        · have T := Lib.hid (RF.out (fun e => h1 (congrArg (fun z : Int × Int => z.2) e)))
          have e1 : (x1 == y1) = false := beq_eq_false_iff_ne.2 h1
          go_wp2
          go_quiet (fail)
          go_wp2
          go_ret
          exact ⟨ret_bool T.out.symm, by rw [HN.out]; exact BF.out _⟩
      · have T := Lib.hid (RF.out (fun e => h0 (congrArg (fun z : Int × Int => z.1) e)))
        have e1 : (x0 == y0) = false := beq_eq_false_iff_ne.2 h0
        go_wp2
        go_quiet (fail)
        go_wp2
        go_ret
        exact ⟨ret_bool T.out.symm, by rw [HN.out]; exact BF.out _⟩
    · have T : Hid (true = shpR m L (sB m) C) := by
        show true = _
        unfold shpR
        rw [decide_eq_true rfl, decide_eq_true]
        · rfl
        · refine List.ext_getElem (by simp [HL1.out, HL2.out]) fun k a b => ?_
          have a' : k < L.length := by simpa using a
          have b' : k < C.length := by simpa using b
          have h := R.out k (by have := HL1.out; omega)
          rw [List.getElem_map, List.getElem_map]
          rw [List.getD_eq_getElem?_getD, List.getElem?_eq_getElem a', List.getD_eq_getElem?_getD, List.getElem?_eq_getElem b'] at h
          exact h
      have BE : Hid (Below n w wr) := BB.out.trans (B.out.mono (by omega))
      clear R B2 BF d0 d1
      go_wp2
      go_ret
      exact ⟨ret_bool T.out, by rw [HN.out]; exact BE.out⟩
end Go.Proofs.YtbbpkoaeedkncaaGreatDoor
