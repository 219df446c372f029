/-
  The walk over hexread.Merge: the image, or the index and the fault.
-/
import Derived.Test.YtmeegpdjhcilkaaDoorRdJ
namespace Go.Proofs.YtmeegpdjhcilkaaDoor
open Go.RowKit
set_option linter.unusedVariables false

/-- What Merge returns. -/
def RetMerge (w : World) (r : List Im.Cel × Int × Int × Int) (e : Ending) (w' : World) : Prop :=
  (r.2.2.2 = 0 → ∃ b, e = .returned (.tuple #[.pointer (some ⟨b, 0, none⟩), .int .i64 0, .agg #[.int .i64 0, .int .i64 0]]) ∧ w.heap.size ≤ b ∧ Im.ImgOf w' b r.1) ∧
  (r.2.2.2 ≠ 0 → e = .returned (.tuple #[.pointer none, .int .i64 r.2.1, .agg #[.int .i64 r.2.2.1, .int .i64 r.2.2.2]])) ∧ Below w.heap.size w w'
theorem retMerge_bad {w w' : World} {r : List Im.Cel × Int × Int × Int} {k l c : Int} (h : r = ([], k, l, c)) (hc : c ≠ 0) (hb : Below w.heap.size w w') : RetMerge w r (.returned (.tuple #[.pointer none, .int .i64 k, .agg #[.int .i64 l, .int .i64 c]])) w' := by
  subst h
  exact ⟨fun h => absurd h hc, fun _ => rfl, hb⟩
set_option maxRecDepth 100000 in
set_option maxHeartbeats 8000000 in
theorem hmerge_any (A : Option Addr) (cap : Nat) (xs : List (List UInt8)) (hn : xs.length ≤ 1000000) (hx : ∀ x ∈ xs, x.length ≤ 40000000) (w : World) (hX : StrsP (fun _ => True) w A (xs.map strOf)) :
    Calls Tryd.prog 22 #[.slice A xs.length cap] w (RetMerge w (mergeL [] 0 xs)) := by
  have F0 : Two (w.alloc (.cells #[.int .i64 0, .int .i64 0] 31)) w.heap.size 31 (.int .i64 0) (.int .i64 0) := World.alloc_heap_new _ _
  have b0 : Below w.heap.size w (w.alloc (.cells #[.int .i64 0, .int .i64 0] 31)) := (Below.refl _ _).alloc (Nat.le_refl _) _
  have hnew := Im.newOf_any (w.alloc (.cells #[.int .i64 0, .int .i64 0] 31))
  have z0 : (w.alloc (.cells #[.int .i64 0, .int .i64 0] 31)).heap.size = w.heap.size + 1 := by simp
  have XB := Lib.hid hx
  obtain ⟨n, hn'⟩ : ∃ n, xs.length = n := ⟨_, rfl⟩
  have HN := Lib.hid hn'
  rw [hn'] at hn ⊢
  have hnb : (n : Int) ≤ 1000000 := by omega
  have XS := Lib.hid hX
  clear hx hX hn'
  go_enter Tryd.func22, Tryd.ntmps22
  go_wp2_with fail
  refine hnew.mono ?_
  rintro e w1 ⟨b, rfl, hb, hI, hB⟩
  obtain ⟨N, hN⟩ : ∃ N, w.heap.size = N := ⟨_, rfl⟩
  rw [z0, hN] at hb
  rw [hN] at b0 F0 z0
  have B1 : Hid (Below N w w1) := b0.trans (hB.mono (by omega))
  have hNb : N < b := by omega
  have hbM : b < w1.heap.size := hI.lt
  have F1 : Two w1 N 31 (.int .i64 0) (.int .i64 0) := (hB.block _ F0.lt).trans F0
  have FF := Lib.hid F1
  have I1 := Lib.hid hI
  have X1 : Hid (StrsP (fun i => i < N) w1 A (xs.map strOf)) := ((XS.out.mono (Q := fun i => i < N) fun i hi _ => by omega).below (by rw [hN]; exact B1.out))
  obtain ⟨M, hM⟩ : ∃ M, w1.heap.size = M := ⟨_, rfl⟩
  rw [hM] at hbM
  have HM := Lib.hid hM
  have HNN := Lib.hid hN
  rw [hN]
  clear hnew hI hB F0 b0 z0 F1 hb hM hN XS
  go_wp2
  go_loopw [13] (fun iv wr => ∃ (k : Nat) (V : List Im.Cel), k ≤ n ∧ iv = .int .i64 k ∧ Hid (mergeL [] 0 xs = mergeL V k (xs.drop k)) ∧ Hid (Im.ImgOf wr b V) ∧ Hid (KeptP (fun i => i ≠ b ∧ i < M) w1 wr)) (fun iv _ => n - (intOf iv).toNat)
  case atStart => exact ⟨0, [], Nat.zero_le _, rfl, rfl, I1.out, KeptP.refl _ _⟩
  case round =>
    clear I1
    obtain ⟨k, V, hk, rfl, E, I, K⟩ := hrel
    have szw : M ≤ wr.heap.size := by rw [← HM.out]; exact K.out.size
    have BW : Hid (Below N w wr) := B1.out.trans (K.out.below (fun i hi => by omega) (by rw [HM.out]; omega))
    have FW : Hid (Two wr N 31 (.int .i64 0) (.int .i64 0)) := FF.out.keptP K.out (by omega)
    by_cases hlt : k < n
    · have hkx : k < xs.length := by rw [HN.out]; exact hlt
      have hlt' : (k : Int) < (n : Int) := by omega
      have XW : StrsP (fun i => i < N) wr A (xs.map strOf) := X1.out.blocks fun i hi hp => K.out.block i hi ⟨by omega, by omega⟩
      obtain ⟨g, off, hA, g1⟩ := XW.at_ (show k < (xs.map strOf).length by rw [List.length_map]; exact hkx)
      rw [List.getElem_map] at g1
      subst hA
      have hd : xs.drop k = xs[k] :: xs.drop (k + 1) := List.drop_eq_getElem_cons hkx
      have hr := hread_any xs[k] (XB.out _ (List.getElem_mem hkx)) wr
      obtain ⟨x, hxk⟩ : ∃ x, xs[k] = x := ⟨_, rfl⟩
      rw [hxk] at hd hr g1
      rw [hd] at E
      have RS := Lib.hid (readT_sorted x)
      have RG : Hid ((readT x).2.2 = 0 → (readT x).2.1 = 0) := readL_good
      obtain ⟨s, hs⟩ : ∃ s, strOf x = s := ⟨_, rfl⟩
      rw [hs] at hr g1
      clear hxk hd hkx XW hs
      go_wp2_with fail
      refine hr.mono ?_
      rintro e w2 ⟨h1, h2, h3⟩
      have I2 := Lib.hid (I.out.below h3)
      have sz2 : M ≤ w2.heap.size := Nat.le_trans szw h3.size
      have K2 : Hid (KeptP (fun i => i ≠ b ∧ i < M) w1 w2) := K.out.trans (KeptP.of_all h3)
      have F2 : Hid (Two w2 N 31 (.int .i64 0) (.int .i64 0)) := (h3.block _ FW.out.lt).trans FW.out
      by_cases hc : (readT x).2.2 = 0
      · obtain ⟨c, rfl, hcb, hI2⟩ := h1 hc
        obtain ⟨D, hD⟩ : ∃ D, w2.heap.size = D := ⟨_, rfl⟩
        have hal : Below w2.heap.size w2 (w2.alloc (.cells #[.int .i64 0, .int .i64 0] 31)) := (Below.refl _ _).alloc (Nat.le_refl _) _
        have F3 : Two (w2.alloc (.cells #[.int .i64 0, .int .i64 0] 31)) D 31 (.int .i64 0) (.int .i64 0) := by rw [← hD]; exact World.alloc_heap_new _ _
        have hput := putAll_any b c V (readT x).1 (w2.alloc (.cells #[.int .i64 0, .int .i64 0] 31)) (I2.out.below hal) (hI2.below hal)
        have K3 : KeptP (fun i => i ≠ b ∧ i < M) w1 (w2.alloc (.cells #[.int .i64 0, .int .i64 0] 31)) := K2.out.trans (KeptP.of_all hal)
        have F3N : Two (w2.alloc (.cells #[.int .i64 0, .int .i64 0] 31)) N 31 (.int .i64 0) (.int .i64 0) := (hal.block _ F2.out.lt).trans F2.out
        have G := Lib.hid (And.intro F3 (And.intro F3N K3))
        have HC := Lib.hid hc
        have q0 := F3.c0
        have q1 := F3.c1
        have HD := Lib.hid hD
        obtain ⟨w3, hw3⟩ : ∃ w3, w2.alloc (.cells #[.int .i64 0, .int .i64 0] 31) = w3 := ⟨_, rfl⟩
        rw [hw3] at hput G q0 q1
        have PC := Lib.hid (ofP_code RS.out V (runsL (readT x).1) (fun p hp => hp))
        obtain ⟨r, hr'⟩ : ∃ r, ofP V (runsL (readT x).1) = r := ⟨_, rfl⟩
        rw [hr'] at hput PC
        have E1 : Hid (r.2 = 0 → mergeL [] 0 xs = mergeL r.1 (k + 1) (xs.drop (k + 1))) := fun h => by rw [E.out, mergeL_go HC.out (by rw [hr']; exact h), hr']
        have E2 : Hid (r.2 ≠ 0 → mergeL [] 0 xs = ([], (k : Int), 0, 4)) := fun h => by rw [E.out, mergeL_over HC.out (by rw [hr']; exact h)]
        have HW3 := Lib.hid hw3
        clear hw3 hr' h1 h2 h3 hr hc hI2 hal F3 F3N K3 E I I2 K2 F2 hcb hlt' g1 RS RG HC hD q0 q1
        go_wp2_with fail
        rw [HW3.out]
        rw [HD.out]
        refine hput.mono ?_
        rintro e w4 ⟨rfl, hI4, hK4⟩
        have K4 := G.out.2.2.trans (hK4.mono fun i _ hi => hi.1)
        have F4 := G.out.1.keptP hK4 (by have := HD.out; omega)
        have F4N := G.out.2.1.keptP hK4 (by omega)
        obtain ⟨V2, f⟩ := r
        have c0 := F4.c0
        have c1 := F4.c1
        have z0 := F4.f 0
        have z1 := F4.f 1
        have F5 : Two (w4.setCell ⟨D, 1, none⟩ (.int .i64 f)) D 31 (.int .i64 0) (.int .i64 f) := heap_setCell_same w4 D 1 _ _ _ F4
        have K5 : KeptP (fun i => i ≠ b ∧ i < M) w1 (w4.setCell ⟨D, 1, none⟩ (.int .i64 f)) := K4.setCell (by have := HD.out; simp; omega) _
        have F5N : Two (w4.setCell ⟨D, 1, none⟩ (.int .i64 f)) N 31 (.int .i64 0) (.int .i64 0) := F4N.keptP (KeptP.put (P := fun i => i ≠ D) w4 ⟨D, 1, none⟩ (by simp) _) (by have := HD.out; omega)
        have I5 : Hid (f = 0 → Im.ImgOf (w4.setCell ⟨D, 1, none⟩ (.int .i64 f)) b V2) := fun h => img_kept (hI4 h) (KeptP.put (P := fun i => i ≠ D) w4 ⟨D, 1, none⟩ (by simp) _) (by have := HD.out; omega)
        have KK := Lib.hid (And.intro K5 F5N)
        have d0 := F5.c0
        have d1 := F5.c1
        have y0 := F5N.c0
        have y1 := F5N.c1
        have x0 := F5N.f 0
        have x1 := F5N.f 1
        obtain ⟨w5, hw5⟩ : ∃ w5, w4.setCell ⟨D, 1, none⟩ (.int .i64 f) = w5 := ⟨_, rfl⟩
        rw [hw5] at d0 d1 y0 y1 x0 x1 I5 KK
        by_cases hf : f = 0
        · have hf' := Lib.hid hf
          have E3 := Lib.hid (E1.out hf)
          have I6 := Lib.hid (I5.out hf)
          subst hf
          clear hput hI4 hK4 K4 F4 F4N F5 K5 F5N y0 y1 x0 x1 G
          go_wp2
          go_roundw
          case rel => exact ⟨k + 1, V2, hlt, by go_num, E3.out, I6.out, KK.out.1⟩
          case measure => simp [intOf]; omega
        · have E3 := Lib.hid (E2.out hf)
          have hf4 : f = 4 := (PC.out.resolve_left hf)
          subst hf4
          have hDN : N < D := by have := HD.out; omega
          have d0' : w5.drew.cell? ⟨D, 0, none⟩ = some (.int .i64 0) := d0
          have d1' : w5.drew.cell? ⟨D, 1, none⟩ = some (.int .i64 4) := d1
          have y5 : Two w5.drew N 31 (.int .i64 0) (.int .i64 0) := KK.out.2
          have y6 := y5.set (.int .i64 0) (.int .i64 4)
          have r0 := y6.c0
          have r1 := y6.c1
          have fr0 := y5.f 0
          have fr1 := y5.f 1
          have yc0 := y5.c0
          have yc1 := y5.c1
          have BR : Hid (Below w.heap.size w ((w5.drew.setCell ⟨N, 0, none⟩ (.int .i64 0)).setCell ⟨N, 1, none⟩ (.int .i64 4))) := by
            have h1 : KeptP (fun i => i < N) w1 w5 := KK.out.1.mono fun i _ hi => ⟨by omega, by omega⟩
            have h2 := ((h1.drew).setCell (p := ⟨N, 0, none⟩) (by simp) (.int .i64 0)).setCell (p := ⟨N, 1, none⟩) (by simp) (.int .i64 4)
            show Below _ _ _
            rw [HNN.out]
            exact B1.out.trans (h2.below (fun i hi => hi) (by rw [HM.out]; omega))
          have MM : Hid (((w5.drew.setCell ⟨N, 0, none⟩ (.int .i64 0)).setCell ⟨N, 1, none⟩ (.int .i64 4)).cell? ⟨D, 0, none⟩ = some (.int .i64 0) ∧ ((w5.drew.setCell ⟨N, 0, none⟩ (.int .i64 0)).setCell ⟨N, 1, none⟩ (.int .i64 4)).cell? ⟨D, 1, none⟩ = some (.int .i64 4)) := by
            have kk : KeptP (fun i => i ≠ N) w5.drew ((w5.drew.setCell ⟨N, 0, none⟩ (.int .i64 0)).setCell ⟨N, 1, none⟩ (.int .i64 4)) := ((KeptP.refl _ _).setCell (by simp) _).setCell (by simp) _
            have hl : D < w5.drew.heap.size := World.block_lt_of_cell? w5 _ d0
            exact ⟨(kk.cell (p := ⟨D, 0, none⟩) hl (by show D ≠ N; omega)).trans d0', (kk.cell (p := ⟨D, 1, none⟩) hl (by show D ≠ N; omega)).trans d1'⟩
          clear hput hI4 hK4 K4 F4 F4N F5 K5 F5N G E1 E2 I5 hf y5 y6 fr0 fr1 yc0 yc1 d0' d1'
          go_wp2
          refine Mixed.wp_region_mixed (fun w' => w'.cell? ⟨D, 0, none⟩ = some (.int .i64 0) ∧ w'.cell? ⟨D, 1, none⟩ = some (.int .i64 4)) 4 [(0, true), (1, true), (2, true), (3, true)] (by kernel_rfl) (by kernel_rfl) ⟨d0, d1⟩ ?_
          refine Mixed.wpMix_move rfl rfl _ rfl _ rfl ?_
          refine Mixed.wpMix_pure rfl rfl (.agg #[.int .i64 0, .int .i64 4]) (fun w h => by obtain ⟨h1, h2⟩ := h; go_simp; try rfl) ?_
          refine Mixed.wpMix_assign rfl rfl _ rfl _ rfl ?_
          refine Mixed.wpMix_assign rfl rfl _ rfl _ rfl ?_
          simp only [Mixed.wpMix, List.drop_succ_cons, List.drop_zero]
          go_wp2
          have rr0 : ((w5.setCell ⟨N, 0, none⟩ (.int .i64 0)).setCell ⟨N, 1, none⟩ (.int .i64 4)).drew.cell? ⟨N, 0, none⟩ = some (.int .i64 0) := r0
          have rr1 : ((w5.setCell ⟨N, 0, none⟩ (.int .i64 0)).setCell ⟨N, 1, none⟩ (.int .i64 4)).drew.cell? ⟨N, 1, none⟩ = some (.int .i64 4) := r1
          have BB : Below w.heap.size w ((w5.setCell ⟨N, 0, none⟩ (.int .i64 0)).setCell ⟨N, 1, none⟩ (.int .i64 4)).drew := BR.out
          obtain ⟨wf, hwf⟩ : ∃ wf, ((w5.setCell ⟨N, 0, none⟩ (.int .i64 0)).setCell ⟨N, 1, none⟩ (.int .i64 4)).drew = wf := ⟨_, rfl⟩
          rw [hwf] at rr0 rr1 BB
          rw [hwf]
          refine bodyPost_ret (v := .tuple #[.pointer none, .int .i64 (k : Int), .agg #[.int .i64 0, .int .i64 4]]) (by simp [results, Tryd.results22, go_sem, rr0, rr1]) rfl ?_
          exact retMerge_bad E3.out (by decide) BB
      · obtain rfl := h2 hc
        obtain ⟨D, hD⟩ : ∃ D, w2.heap.size = D := ⟨_, rfl⟩
        obtain ⟨l, hl⟩ : ∃ l, (readT x).2.1 = l := ⟨_, rfl⟩
        obtain ⟨c, hcc⟩ : ∃ c, (readT x).2.2 = c := ⟨_, rfl⟩
        have E3 : Hid (mergeL [] 0 xs = ([], (k : Int), l, c)) := by show _ = _; rw [E.out, mergeL_bad hc, hl, hcc]
        rw [hcc] at hc
        rw [hl, hcc]
        have HC := Lib.hid hc
        have n1 : (c == 0) = false := beq_eq_false_iff_ne.2 hc
        have n2 : (c != 0) = true := by unfold bne; rw [n1]; rfl
        have hal : Below w2.heap.size w2 (w2.alloc (.cells #[.int .i64 l, .int .i64 c] 31)) := (Below.refl _ _).alloc (Nat.le_refl _) _
        have F3 : Two (w2.alloc (.cells #[.int .i64 l, .int .i64 c] 31)) D 31 (.int .i64 l) (.int .i64 c) := by rw [← hD]; exact World.alloc_heap_new _ _
        have K3 : KeptP (fun i => i ≠ b ∧ i < M) w1 (w2.alloc (.cells #[.int .i64 l, .int .i64 c] 31)) := K2.out.trans (KeptP.of_all hal)
        have F3N : Two (w2.alloc (.cells #[.int .i64 l, .int .i64 c] 31)) N 31 (.int .i64 0) (.int .i64 0) := (hal.block _ F2.out.lt).trans F2.out
        have HD := Lib.hid hD
        obtain ⟨w5, hw5⟩ : ∃ w5, w2.alloc (.cells #[.int .i64 l, .int .i64 c] 31) = w5 := ⟨_, rfl⟩
        rw [hw5] at F3 K3 F3N
        have HW5 := Lib.hid hw5
        have hDN : N < D := by omega
        have d0 := F3.c0
        have d1 := F3.c1
        have d0' : w5.drew.cell? ⟨D, 0, none⟩ = some (.int .i64 l) := d0
        have d1' : w5.drew.cell? ⟨D, 1, none⟩ = some (.int .i64 c) := d1
        have y5 : Two w5.drew N 31 (.int .i64 0) (.int .i64 0) := F3N
        have y6 := y5.set (.int .i64 l) (.int .i64 c)
        have r0 := y6.c0
        have r1 := y6.c1
        have fr0 := y5.f 0
        have fr1 := y5.f 1
        have yc0 := y5.c0
        have yc1 := y5.c1
        have y0 := F3N.c0
        have y1 := F3N.c1
        have x0 := F3N.f 0
        have x1 := F3N.f 1
        have BR : Hid (Below w.heap.size w ((w5.drew.setCell ⟨N, 0, none⟩ (.int .i64 l)).setCell ⟨N, 1, none⟩ (.int .i64 c))) := by
          have h1 : KeptP (fun i => i < N) w1 w5 := K3.mono fun i _ hi => ⟨by omega, by omega⟩
          have h2 := ((h1.drew).setCell (p := ⟨N, 0, none⟩) (by simp) (.int .i64 l)).setCell (p := ⟨N, 1, none⟩) (by simp) (.int .i64 c)
          show Below _ _ _
          rw [HNN.out]
          exact B1.out.trans (h2.below (fun i hi => hi) (by rw [HM.out]; omega))
        have MM : Hid (((w5.drew.setCell ⟨N, 0, none⟩ (.int .i64 l)).setCell ⟨N, 1, none⟩ (.int .i64 c)).cell? ⟨D, 0, none⟩ = some (.int .i64 l) ∧ ((w5.drew.setCell ⟨N, 0, none⟩ (.int .i64 l)).setCell ⟨N, 1, none⟩ (.int .i64 c)).cell? ⟨D, 1, none⟩ = some (.int .i64 c)) := by
          have kk : KeptP (fun i => i ≠ N) w5.drew ((w5.drew.setCell ⟨N, 0, none⟩ (.int .i64 l)).setCell ⟨N, 1, none⟩ (.int .i64 c)) := ((KeptP.refl _ _).setCell (by simp) _).setCell (by simp) _
          have hl : D < w5.drew.heap.size := World.block_lt_of_cell? w5 _ d0
          exact ⟨(kk.cell (p := ⟨D, 0, none⟩) hl (by show D ≠ N; omega)).trans d0', (kk.cell (p := ⟨D, 1, none⟩) hl (by show D ≠ N; omega)).trans d1'⟩
        clear h1 h2 h3 hr hc hal F3 F3N K3 E I I2 K2 F2 g1 RS RG hD hl hcc hw5 y5 y6 d0' d1' yc0 yc1 fr0 fr1
        have HF := Lib.hid (And.intro (And.intro d0 d1) (And.intro r0 r1))
        have HG := Lib.hid (And.intro (And.intro x0 x1) (And.intro y0 y1))
        clear d0 d1 r0 r1 x0 x1 y0 y1
        go_wp2_with fail
        rw [HW5.out]
        have d0 := HF.out.1.1
        have d1 := HF.out.1.2
        have r0 := HF.out.2.1
        have r1 := HF.out.2.2
        have x0 := HG.out.1.1
        have x1 := HG.out.1.2
        have y0 := HG.out.2.1
        have y1 := HG.out.2.2
        rw [HD.out]
        have RNE := HC.out
        refine Mixed.wp_region_mixed (fun w' => w'.cell? ⟨D, 0, none⟩ = some (.int .i64 l) ∧ w'.cell? ⟨D, 1, none⟩ = some (.int .i64 c)) 4 [(0, true), (1, true), (2, true), (3, true)] (by kernel_rfl) (by kernel_rfl) ⟨d0, d1⟩ ?_
        refine Mixed.wpMix_move rfl rfl _ rfl _ rfl ?_
        refine Mixed.wpMix_pure rfl rfl (.agg #[.int .i64 l, .int .i64 c]) (fun w h => by obtain ⟨h1, h2⟩ := h; go_simp; try rfl) ?_
        refine Mixed.wpMix_assign rfl rfl _ rfl _ rfl ?_
        refine Mixed.wpMix_assign rfl rfl _ rfl _ rfl ?_
        simp only [Mixed.wpMix, List.drop_succ_cons, List.drop_zero]
        go_wp2
        have rr0 : ((w5.setCell ⟨N, 0, none⟩ (.int .i64 l)).setCell ⟨N, 1, none⟩ (.int .i64 c)).drew.cell? ⟨N, 0, none⟩ = some (.int .i64 l) := r0
        have rr1 : ((w5.setCell ⟨N, 0, none⟩ (.int .i64 l)).setCell ⟨N, 1, none⟩ (.int .i64 c)).drew.cell? ⟨N, 1, none⟩ = some (.int .i64 c) := r1
        have BB : Below w.heap.size w ((w5.setCell ⟨N, 0, none⟩ (.int .i64 l)).setCell ⟨N, 1, none⟩ (.int .i64 c)).drew := BR.out
        obtain ⟨wf, hwf⟩ : ∃ wf, ((w5.setCell ⟨N, 0, none⟩ (.int .i64 l)).setCell ⟨N, 1, none⟩ (.int .i64 c)).drew = wf := ⟨_, rfl⟩
        rw [hwf] at rr0 rr1 BB
        rw [hwf]
        refine bodyPost_ret (v := .tuple #[.pointer none, .int .i64 (k : Int), .agg #[.int .i64 l, .int .i64 c]]) (by simp [results, Tryd.results22, go_sem, rr0, rr1]) rfl ?_
        exact retMerge_bad E3.out RNE BB
    · have hlt' : decide ((k : Int) < (n : Int)) = false := decide_eq_false (by omega)
      have E2 : Hid (mergeL [] 0 xs = (V, 0, 0, 0)) := by
        show _ = _
        rw [E.out, List.drop_of_length_le (by rw [HN.out]; omega)]
        rfl
      have c4 : wr.frozen? ⟨N, 0, none⟩ = false := FW.out.f 0
      have c5 : wr.frozen? ⟨N, 1, none⟩ = false := FW.out.f 1
      have c0 := FW.out.c0
      have c1 := FW.out.c1
      have y6 := FW.out.set (.int .i64 0) (.int .i64 0)
      have r0 := y6.c0
      have r1 := y6.c1
      have BR : Hid (RetMerge w (mergeL [] 0 xs) (.returned (.tuple #[.pointer (some ⟨b, 0, none⟩), .int .i64 0, .agg #[.int .i64 0, .int .i64 0]])) ((wr.setCell ⟨N, 0, none⟩ (.int .i64 0)).setCell ⟨N, 1, none⟩ (.int .i64 0))) := by
        have h1 : KeptP (fun i => i < N) w1 wr := K.out.mono fun i _ hi => ⟨by omega, by omega⟩
        have h2 := (h1.setCell (p := ⟨N, 0, none⟩) (by simp) (.int .i64 0)).setCell (p := ⟨N, 1, none⟩) (by simp) (.int .i64 0)
        have h3 : KeptP (fun i => i ≠ N) wr ((wr.setCell ⟨N, 0, none⟩ (.int .i64 0)).setCell ⟨N, 1, none⟩ (.int .i64 0)) := ((KeptP.refl _ _).setCell (by simp) _).setCell (by simp) _
        show RetMerge _ _ _ _
        rw [E2.out]
        refine ⟨fun _ => ⟨b, rfl, by rw [HNN.out]; omega, img_kept I.out h3 (by omega)⟩, fun h => absurd rfl h, ?_⟩
        rw [HNN.out]
        exact B1.out.trans (h2.below (fun i hi => hi) (by rw [HM.out]; omega))
      clear y6
      go_wp2
      refine bodyPost_ret (v := .tuple #[.pointer (some ⟨b, 0, none⟩), .int .i64 0, .agg #[.int .i64 0, .int .i64 0]]) (by simp [results, Tryd.results22, go_sem, r0, r1]) rfl ?_
      exact BR.out
end Go.Proofs.YtmeegpdjhcilkaaDoor
