/-
  The reference's indexed: what DD and FD make of an instruction.
-/
import Derived.Test.YtipgecdfnbldnaaGreatDoorMRfE
import Derived.Test.YtipgecdfnbldnaaGreatDoorTaX
import Derived.Test.YtipgecdfnbldnaaGreatDoorBaA
import Derived.Deep.DeepCutAuto
import Derived.Deep.Cut
import Derived.StillTail
import Derived.StillTailTactics
import Derived.Deep.RegionHeld3
import Derived.RegionTactic
set_option linter.all false
set_option maxRecDepth 100000
set_option maxHeartbeats 4000000
namespace Go.Proofs.YtipgecdfnbldnaaGreatDoor
open Go.RowKit Go.Shelf
attribute [local irreducible] Go.Mixed.wpMix Go.Mixed.wpMixT
def ixT (m : Str) (L : List Tr) (ex : Str) (ix : Int) : Str × List Tr × Str :=
  if memB m L then (m, repM ix L, 100 :: ex) else if anyX ix L && !(decide (m = [69, 88]) && decide (L = [(3, 1, 0), (3, 2, 0)])) then (m, L.map (opX ix), ex) else ([], [], [])
section
variable {P : Program} {ops : Array Oper}
theorem wpMix_skip {C : World → Prop} {T : Act → World → Prop} {k : Nat} {r : List (Nat × Bool)} {a : Act} {w : World} {o : Oper} (ho : ops[k]? = some o) (hw : Region.wanted o (yielded ops a.tmps) = false)
    (h : Mixed.wpMix P ops C T r (a.put o.dst undef) w) : Mixed.wpMix P ops C T ((k, true) :: r) a w := by
  unfold Mixed.wpMix
  simp only [ho]
  exact ⟨undef, .inr ⟨hw, rfl⟩, h⟩
theorem wpMix_skipL {C : World → Prop} {T : Act → World → Prop} {k : Nat} {r : List (Nat × Bool)} {a : Act} {w : World} {o : Oper} (ho : ops[k]? = some o) (hw : Region.wanted o (yielded ops a.tmps) = false)
    (hC : C w) (h : Mixed.wpMix P ops C T r (a.put o.dst undef) w) : Mixed.wpMix P ops C T ((k, false) :: r) a w := by
  unfold Mixed.wpMix
  unfold wpOp
  simp only [ho, hw, Bool.false_eq_true, if_false]
  exact ⟨hC, h⟩
end
theorem wpList_app_nil {wr : World} {base : Nat} {v : Value} (R : OwnT wr base v []) (hbase : base ≤ wr.heap.size) {A : Option Addr} {cap : Nat} {L : List Tr} (hP : OpsP wr A L) (hl : L.length ≤ 1000) {ops : Array Oper} {rest : List Oper} {o : Oper} {a : Act} {Q : Exit → Act → World → Prop} (hgd : o.guard = none) (s x : Operand)
    (ho : o.op = .call { callee := .builtin .append, args := #[s, x], argTypes := #[23, 23] }) (hty : o.type = 23) (hs : a.eval s = v) (n : Nat) (hn : L.length = n) (hx : a.eval x = .slice A n cap)
    (h : ∀ A' cap' w1, OwnT w1 base (.slice A' n cap') L → wr.grownBy w1 v.ownBlock → wpList Tryz.prog ops Q rest (a.put o.dst (.slice A' n cap')) w1) : wpList Tryz.prog ops Q (o :: rest) a wr := by
  subst hn
  obtain ⟨i0, hi, hz0, hz1, hz2⟩ := info_parts info_opd
  obtain ⟨v', w', k1, k2, k3⟩ := run_append_src wr base 23 23 69 i0 _ 3 24 Tryz.underlying23 hi hz0 hz1 hz2 rfl (by decide) v 0 [] R A L.length cap (cellsT L)
    (cellsT_length L) hP.news (cellsT_one L) (by unfold maxLen; omega) (by omega) hbase
  rw [List.nil_append, Nat.zero_add] at k2
  have k2 : OwnT w' base v' L := k2
  obtain ⟨A', cap', rfl, -, -⟩ := k2.ops
  exact wpList_run_append k1 hgd s x ho hty hs hx (h A' cap' w' k2 k3)
theorem memB_no {m : Str} {L : List Tr} (h : ∀ k (a : k < L.length), m = [74, 80] ∨ L[k] ≠ (4, 2, 0)) : memB m L = false := by
  unfold memB
  by_cases hm : m = [74, 80]
  · rw [decide_eq_true hm]; simp
  · have : (4, 2, 0) ∉ L := fun hx => by
      obtain ⟨k, a, e⟩ := List.mem_iff_getElem.1 hx
      rcases h k a with h | h
      · exact hm h
      · exact h e
    rw [decide_eq_false this]; rfl
theorem Ri.all {w w' : World} {b : Nat} {s : ByteArray} {v : Value} (h : Ri w b s v) (hb : Below w.heap.size w w') : Ri w' b s v := (hb.block b (Array.getElem?_eq_some_iff.1 h).1).trans h
theorem Ri.lt' {w : World} {b : Nat} {s : ByteArray} {v : Value} (h : Ri w b s v) : b < w.heap.size := (Array.getElem?_eq_some_iff.1 h).1
theorem Ri.other {w : World} {b : Nat} {s : ByteArray} {v : Value} (h : Ri w b s v) {g : Nat} (hg : b ≠ g) (j : Nat) (u : Value) : Ri (w.setCell ⟨g, j, none⟩ u) b s v := (heap_setCell_other w ⟨g, j, none⟩ b u hg).trans h
theorem Rz.oth {w : World} {b : Nat} (h : Rz w b) {g : Nat} (hg : b ≠ g) (j : Nat) (u : Value) : Rz (w.setCell ⟨g, j, none⟩ u) b := (heap_setCell_other w ⟨g, j, none⟩ b u hg).trans h
theorem Rz.apart {w : World} {b g : Nat} {cur : Array Value} (h : Rz w b) (hg : w.heap[g]? = some (.cells cur 69 (0, 0))) : g ≠ b := Ri.apart (s := ⟨#[]⟩) (v := .slice none 0 0) h hg
theorem ix_start (w : World) (s : ByteArray) (v : Value) : ∃ w0, (w.alloc (.cells #[.string s, v] 25)).alloc (.cells #[.string ⟨#[]⟩, .slice none 0 0] 25) = w0 ∧
    Ri w0 w.heap.size s v ∧ Rz w0 (w.heap.size + 1) ∧ Below w.heap.size w w0 ∧ w0.heap.size = w.heap.size + 2 := by
  refine ⟨_, rfl, (Below.heap_alloc _ _ _ (by simp)).trans (World.alloc_heap_new w _), ?_, ((Below.refl _ w).alloc (Nat.le_refl _) _).alloc (by simp) _, by simp⟩
  have h := World.alloc_heap_new (w.alloc (.cells #[.string s, v] 25)) (.cells #[.string ⟨#[]⟩, .slice none 0 0] 25)
  rw [World.size_alloc] at h
  exact h
theorem cells_setm : ∀ (L : List Tr) (k : Nat) (x : Tr) (c : Int) (h : k < L.length), L[k] = x → (cellsT L).set (k * 3 + 1) (.int .i64 c) = cellsT (L.set k (x.1, c, x.2.2))
  | y :: t, 0, x, c, h, e => by
    simp only [List.getElem_cons_zero] at e
    subst e
    rfl
  | y :: t, k + 1, x, c, h, e => by
    have ih := cells_setm t k x c (by simpa using h) (by simpa using e)
    rw [show (k + 1) * 3 + 1 = (k * 3 + 1) + 1 + 1 + 1 by omega]
    have e2 : ∀ y : Tr, ∀ z : List Tr, cellsT (y :: z) = .int .i64 y.1 :: .int .i64 y.2.1 :: .int .i64 y.2.2 :: cellsT z := fun _ _ => rfl
    show _ = cellsT (y :: t.set k (x.1, c, x.2.2))
    rw [e2, e2, ← ih]
    rfl
theorem tr_eql_no {x y : Tr} (h : ¬ x = y) (w : World) : (binOp .eql 69 (.agg #[.int .i64 x.1, .int .i64 x.2.1, .int .i64 x.2.2]) (.agg #[.int .i64 y.1, .int .i64 y.2.1, .int .i64 y.2.2])).run Tryz.prog w = .ok (.bool false) w := by
  have e := opd_eql x y w
  rw [decide_eq_false h] at e
  exact e
theorem ixT_a {m ex : Str} {L : List Tr} {ix : Int} (h : memB m L = true) : ixT m L ex ix = (m, repM ix L, 100 :: ex) := by unfold ixT; rw [if_pos h]
theorem ixT_b {m ex : Str} {L : List Tr} {ix : Int} (h : memB m L = false) (k : anyX ix L = true) (l : (decide (m = [69, 88]) && decide (L = [(3, 1, 0), (3, 2, 0)])) = false) : ixT m L ex ix = (m, L.map (opX ix), ex) := by
  unfold ixT; rw [if_neg (by rw [h]; decide), if_pos (by rw [k, l]; rfl)]
theorem ixT_c {m ex : Str} {L : List Tr} {ix : Int} (h : memB m L = false) (k : anyX ix L = false ∨ (decide (m = [69, 88]) && decide (L = [(3, 1, 0), (3, 2, 0)])) = true) : ixT m L ex ix = ([], [], []) := by
  unfold ixT; rw [if_neg (by rw [h]; decide), if_neg (by rcases k with k | k <;> rw [k] <;> simp)]
theorem opX_no {ix : Int} {y : Tr} (h1 : ¬ y = (3, 2, 0)) (h2 : ¬ y = (1, 4, 0)) (h3 : ¬ y = (1, 5, 0)) (h4 : ¬ y = (4, 2, 0)) : opX ix y = y := by
  unfold opX
  rw [if_neg h2, if_neg h3, if_neg h1, if_neg h4]
theorem mpx_same {ix : Int} {L : List Tr} {j : Nat} (h : j < L.length) (e : opX ix L[j] = L[j]) : mpx ix L j = mpx ix L (j + 1) := by
  rw [mpx_succ ix L j h, e]
  refine List.ext_getElem (by simp) fun k a b => ?_
  rw [List.getElem_set]
  split
  · next hk => subst hk; exact mpx_at ix L j h a
  · rfl
theorem OpV.oth {w : World} {b : Nat} {x : Tr} (h : OpV w b x) {g : Nat} (hg : b ≠ g) (j : Nat) (u : Value) : OpV (w.setCell ⟨g, j, none⟩ u) b x := (heap_setCell_other w ⟨g, j, none⟩ b u hg).trans h
theorem rix_any (m ex : Str) (ix : Int) (hix : ix = 5 ∨ ix = 6) (A : Option Addr) (cap : Nat) (L : List Tr) (hL : L.length ≤ 100) (hex : ex.length ≤ 1000) (w : World) (hP : OpsP w A L) :
    Calls Tryz.prog 31 #[.agg #[.string (sB m), .slice A L.length cap], .string (sB ex), .int .i64 ix] w (RetI w (ixT m L ex ix).1 (ixT m L ex ix).2.1 (ixT m L ex ix).2.2) := by
  obtain ⟨n, hn⟩ : ∃ n, L.length = n := ⟨_, rfl⟩
  rw [hn]
  obtain ⟨w0, hw0, T0, R0, B0, Z0⟩ := ix_start w (sB m) (.slice A n cap)
  obtain ⟨b, hb⟩ : ∃ b, w.heap.size = b := ⟨_, rfl⟩
  rw [hb] at T0 R0 Z0
  have HN := Lib.hid hn
  have HB := Lib.hid hb
  have P0 := Lib.hid (hP.below B0)
  have PW := Lib.hid hP
  have T0 := Lib.hid T0
  have R0 := Lib.hid R0
  have U0 := Lib.hid B0
  have HI := Lib.hid hix
  have HE := Lib.hid hex
  have ZZ := Lib.hid Z0
  rw [hn] at hL
  clear hP B0 hix hex hn hb Z0
  go_enter Tryz.func31, Tryz.ntmps31
  go_upto_region 1 with fail
  clear hw0
  rw [HB.out]
  go_cut [8] (fun p wx => ∃ b8 A3 cap3, p = .pointer (some ⟨b8, 0, none⟩) ∧ w0.heap.size ≤ b8 ∧ Hid (Ri wx b8 (sB m) (.slice A3 n cap3)) ∧ Hid (OwnT wx w.heap.size (.slice A3 n cap3) L) ∧ Hid (Below w0.heap.size w0 wx))
  case first =>
    have HWB : Hid (w.heap.size ≤ w0.heap.size) := U0.out.size
    have BD : Hid (Below w0.heap.size w0 w0.drew) := below_drewN _ _ 1
    have BZ : Hid (Below w0.heap.size w0 (w0.drew.alloc (.cells #[.string ⟨#[]⟩, .slice none 0 0] 25))) := BD.out.alloc (Nat.le_refl _) _
    have BE : Hid (Below w0.heap.size w0 (w0.drew.alloc (.cells #[] 69))) := BD.out.alloc (Nat.le_refl _) _
    have BA : Hid (Below w0.heap.size w0 ((w0.drew.alloc (.cells #[.string ⟨#[]⟩, .slice none 0 0] 25)).alloc (.cells #[] 69))) := BZ.out.alloc BZ.out.size _
    have BB : Hid (Below w0.heap.size w0 ((w0.drew.alloc (.cells #[] 69)).alloc (.cells #[.string ⟨#[]⟩, .slice none 0 0] 25))) := BE.out.alloc BE.out.size _
    have EA : Hid (OwnT ((w0.drew.alloc (.cells #[.string ⟨#[]⟩, .slice none 0 0] 25)).alloc (.cells #[] 69)) w.heap.size (.slice (some ⟨w0.heap.size + 1, 0, none⟩) 0 0) []) := by
      have h := own_litT (w0.drew.alloc (.cells #[.string ⟨#[]⟩, .slice none 0 0] 25)) [] (by simp)
      rw [World.size_alloc] at h
      exact h.lift (by have := HWB.out; show _ ≤ w0.heap.size + 1; omega)
    have EC : Hid (OwnT (w0.drew.alloc (.cells #[] 69)) w.heap.size (.slice (some ⟨w0.heap.size, 0, none⟩) 0 0) []) := (own_litT w0.drew [] (by simp)).lift HWB.out
    have EB : Hid (OwnT ((w0.drew.alloc (.cells #[] 69)).alloc (.cells #[.string ⟨#[]⟩, .slice none 0 0] 25)) w.heap.size (.slice (some ⟨w0.heap.size, 0, none⟩) 0 0) []) := World.ownsRow.alloc EC.out _
    have PX : Hid (∀ wx, Below w0.heap.size w0 wx → OpsP wx A L) := fun wx hb => P0.out.below hb
    have KC : Hid (∀ wx, Below w0.heap.size w0 wx → wx.cell? ⟨b, 0, none⟩ = some (.string (sB m)) ∧ wx.cell? ⟨b, 1, none⟩ = some (.slice A n cap)) := fun wx hb => (T0.out.all hb).cells
    have LB : Hid (∀ wx : World, Below w0.heap.size w0 wx → w.heap.size ≤ wx.heap.size) := fun wx h => Nat.le_trans HWB.out h.size
    have LN : Hid (L.length ≤ 1000) := (by have := HN.out; omega : L.length ≤ 1000)
    have GA : Hid (∀ w2, ((w0.drew.alloc (.cells #[.string ⟨#[]⟩, .slice none 0 0] 25)).alloc (.cells #[] 69)).grownBy w2 (Value.slice (some ⟨w0.heap.size + 1, 0, none⟩) 0 0).ownBlock → Below w0.heap.size w0 w2 ∧ Rz w2 w0.heap.size) := fun w2 hg =>
      ⟨BA.out.grown hg BA.out.size fun k hk => by simp [Value.ownBlock] at hk; omega,
        (hg.block w0.heap.size (by simp; omega) (by simp [Value.ownBlock])).trans ((Below.heap_alloc _ _ _ (by simp)).trans (heap_alloc_new w0.drew _))⟩
    have GB : Hid (∀ w2, ((w0.drew.alloc (.cells #[] 69)).alloc (.cells #[.string ⟨#[]⟩, .slice none 0 0] 25)).grownBy w2 (Value.slice (some ⟨w0.heap.size, 0, none⟩) 0 0).ownBlock → Below w0.heap.size w0 w2 ∧ Rz w2 (w0.heap.size + 1)) := fun w2 hg =>
      ⟨BB.out.grown hg BB.out.size fun k hk => by simp [Value.ownBlock] at hk; omega,
        (hg.block (w0.heap.size + 1) (by simp) (by simp [Value.ownBlock])).trans (by have h := heap_alloc_new (w0.drew.alloc (.cells #[] 69)) (.cells #[.string ⟨#[]⟩, .slice none 0 0] 25); rw [World.size_alloc] at h; exact h)⟩
    have GC : Hid (∀ w2, (w0.drew.alloc (.cells #[] 69)).grownBy w2 (Value.slice (some ⟨w0.heap.size, 0, none⟩) 0 0).ownBlock → Below w0.heap.size w0 w2) := fun w2 hg =>
      BE.out.grown hg BE.out.size fun k hk => by simp [Value.ownBlock] at hk; omega
    obtain ⟨t0, t1⟩ := T0.out.cells
    refine Mixed.wp_region_mixedT (fun w' => w'.cell? ⟨b, 0, none⟩ = some (.string (sB m)) ∧ w'.cell? ⟨b, 1, none⟩ = some (.slice A n cap)) 8 (.pure 0 (.pure 1 (.pure 3 (.pure 4 (.two 2 (.two 5 (.pure 6 (.one 7 .done)) 7 (.one 5 (.pure 6 .done))) 7 (.one 2 (.one 5 (.pure 6 .done)))))))) (by kernel_rfl) (by kernel_rfl) (KC.out _ BD.out) ?_
    clear t0 t1
    refine Mixed.wpMixT_pure rfl (by kernel_rfl) (.pointer (some ⟨b, 0, none⟩)) (fun w h => by go_simp; try rfl) ?_
    refine Mixed.wpMixT_pure rfl (by kernel_rfl) (.string (sB m)) (fun w h => by obtain ⟨h1, h2⟩ := h; go_simp; try rfl) ?_
    refine Mixed.wpMixT_pure rfl (by kernel_rfl) (.pointer (some ⟨b, 1, none⟩)) (fun w h => by go_simp; try rfl) ?_
    refine Mixed.wpMixT_pure rfl (by kernel_rfl) (.slice A n cap) (fun w h => by obtain ⟨h1, h2⟩ := h; go_simp; try rfl) ?_
    refine Mixed.wpMixT_both rfl (by kernel_rfl) rfl (by kernel_rfl) ?_ ?_
    · go_wp2
      refine ⟨KC.out _ BE.out, ?_⟩
      refine Mixed.wpMixT_both rfl (by kernel_rfl) rfl (by kernel_rfl) ?_ ?_
      · refine wpList_app_nil EC.out (LB.out _ BE.out) (PX.out _ BE.out) LN.out rfl _ _ rfl rfl rfl n HN.out rfl ?_
        intro A3 cap3 w2 hO hG
        have HB2 := GC.out w2 hG
        clear hG
        go_wp2
        refine ⟨KC.out _ HB2, ?_⟩
        refine Mixed.wpMixT_pure rfl (by kernel_rfl) (.agg #[.string (sB m), .slice A3 n cap3]) (fun w h => by go_simp; try rfl) ?_
        refine Mixed.wpMixT_loud rfl (by kernel_rfl) ?_
        go_wp2
        refine ⟨KC.out _ (HB2.alloc HB2.size _), ?_⟩
        simp only [Mixed.wpMixT, List.drop_succ_cons, List.drop_zero]
        go_wp2
        go_meet
        exact ⟨w2.heap.size, A3, cap3, rfl, HB2.size, heap_alloc_new w2 _, World.ownsRow.alloc hO _, HB2.alloc HB2.size _⟩
      · go_wp2
        refine ⟨KC.out _ BB.out, ?_⟩
        refine Mixed.wpMixT_loud rfl (by kernel_rfl) ?_
        refine wpList_app_nil EB.out (LB.out _ BB.out) (PX.out _ BB.out) LN.out rfl _ _ rfl rfl rfl n HN.out rfl ?_
        intro A3 cap3 w2 hO hG
        obtain ⟨HB2, RZ⟩ := GB.out w2 hG
        clear hG
        go_wp2
        refine ⟨KC.out _ HB2, ?_⟩
        refine Mixed.wpMixT_pure rfl (by kernel_rfl) (.agg #[.string (sB m), .slice A3 n cap3]) (fun w h => by go_simp; try rfl) ?_
        simp only [Mixed.wpMixT, List.drop_succ_cons, List.drop_zero]
        obtain ⟨z0, z1, z2, z3⟩ := RZ.cells
        go_wp2
        go_meet
        exact ⟨w0.heap.size + 1, A3, cap3, rfl, Nat.le_succ _, RZ.done _ _, own_put RZ hO (fun k hk => (heap_setCell_other _ ⟨w0.heap.size + 1, 1, none⟩ k _ hk).trans (heap_setCell_other _ ⟨w0.heap.size + 1, 0, none⟩ k _ hk)), (HB2.setCell (p := ⟨w0.heap.size + 1, 0, none⟩) (Nat.le_succ _) _).setCell (p := ⟨w0.heap.size + 1, 1, none⟩) (Nat.le_succ _) _⟩
    · go_wp2
      refine ⟨KC.out _ BZ.out, ?_⟩
      refine Mixed.wpMixT_loud rfl (by kernel_rfl) ?_
      go_wp2
      refine ⟨KC.out _ BA.out, ?_⟩
      refine Mixed.wpMixT_loud rfl (by kernel_rfl) ?_
      refine wpList_app_nil EA.out (LB.out _ BA.out) (PX.out _ BA.out) LN.out rfl _ _ rfl rfl rfl n HN.out rfl ?_
      intro A3 cap3 w2 hO hG
      obtain ⟨HB2, RZ⟩ := GA.out w2 hG
      clear hG
      go_wp2
      refine ⟨KC.out _ HB2, ?_⟩
      refine Mixed.wpMixT_pure rfl (by kernel_rfl) (.agg #[.string (sB m), .slice A3 n cap3]) (fun w h => by go_simp; try rfl) ?_
      simp only [Mixed.wpMixT, List.drop_succ_cons, List.drop_zero]
      obtain ⟨z0, z1, z2, z3⟩ := RZ.cells
      go_wp2
      go_meet
      exact ⟨w0.heap.size, A3, cap3, rfl, Nat.le_refl _, RZ.done _ _, own_put RZ hO (fun k hk => (heap_setCell_other _ ⟨w0.heap.size, 1, none⟩ k _ hk).trans (heap_setCell_other _ ⟨w0.heap.size, 0, none⟩ k _ hk)), (HB2.setCell (p := ⟨w0.heap.size, 0, none⟩) (Nat.le_refl _) _).setCell (p := ⟨w0.heap.size, 1, none⟩) (Nat.le_refl _) _⟩
  case rest =>
    obtain ⟨b8, A3, cap3, rfl, h8, X1, O1, HBc⟩ := hcut
    have Rwc := Lib.hid (R0.out.all HBc.out)
    have Twc := Lib.hid (T0.out.all HBc.out)
    have Uwc : Hid (Below w.heap.size w wc) := up U0.out HBc.out
    have Xwc := X1
    have Owc := O1
    have NB8 : Hid (b8 ≠ b ∧ b8 ≠ b + 1) := (by have := ZZ.out; omega : b8 ≠ b ∧ b8 ≠ b + 1)
    clear h8 X1 O1 HBc R0 T0 U0 P0 ZZ
    go_upto_region 2 with fail
    go_wp2
    go_loopw [9] (fun i wr => ∃ j : Nat, j ≤ n ∧ i = .int .i64 j ∧ Hid (∀ k (a : k < L.length), k < j → m = [74, 80] ∨ L[k] ≠ (4, 2, 0)) ∧ Hid (Rz wr (b + 1)) ∧ Hid (Ri wr b (sB m) (.slice A n cap)) ∧ Hid (Ri wr b8 (sB m) (.slice A3 n cap3)) ∧ Hid (OwnT wr w.heap.size (.slice A3 n cap3) L) ∧ Hid (Below w.heap.size w wr)) (fun i _ => n - (intOf i).toNat)
    case atStart => exact ⟨0, Nat.zero_le _, rfl, fun k a h => by omega, Rwc.out, Twc.out, Xwc.out, Owc.out, Uwc.out⟩
    case round =>
      clear Rwc Twc Xwc Owc Uwc
      obtain ⟨j, hj, rfl, NO, Rwr, Twr, Xwr, Owr, Uwr⟩ := hrel
      by_cases hlt : j < n
      · have hjL : j < L.length := by rw [HN.out]; exact hlt
        obtain ⟨g, cap', hv, hBg, ⟨cur, hcur⟩, hcs, hfz⟩ := Owr.out.form (by rw [HN.out]; omega)
        rw [HN.out] at hv
        cases hv
        have hgb8 : g ≠ b8 := Xwr.out.apart hcur
        have hgb : g ≠ b := Twr.out.apart hcur
        have hgn : g ≠ b + 1 := Rz.apart Rwr.out hcur
        obtain ⟨g0, g1, g2⟩ := hcs j hjL
        obtain ⟨⟨y0, y1, y2⟩, hy⟩ : ∃ y, L[j] = y := ⟨_, rfl⟩
        have HY := Lib.hid hy
        rw [hy] at g0 g1 g2
        simp only at g0 g1 g2
        have GG := Lib.hid (And.intro hBg (And.intro hgb8 (And.intro hgb hgn)))
        have HJ := Lib.hid hjL
        clear hcs hcur hy hBg hgb8 hgb hgn
        obtain ⟨x0, x1⟩ := Xwr.out.cells
        by_cases hm : m = [74, 80]
        · have ht : ((sB m).toList == [74, 80]) = true := by rw [sB_eq]; exact decide_eq_true hm
          have NO2 : Hid (∀ k (a : k < L.length), k < j + 1 → m = [74, 80] ∨ L[k] ≠ (4, 2, 0)) := fun k a h => .inl hm
          clear hm
          go_upto_region 5 with fail
          obtain ⟨w1, hw1⟩ : ∃ v, wr.drew = v := ⟨_, rfl⟩
          have hbw1 : Below wr.heap.size wr w1 := by rw [← hw1]; exact below_drewN _ _ 1
          have Rw1 := Lib.hid (Rwr.out.all hbw1)
          have Tw1 := Lib.hid (Twr.out.all hbw1)
          have Xw1 := Lib.hid (Xwr.out.all hbw1)
          have Ow1 := Lib.hid (Owr.out.below hbw1)
          have Uw1 : Hid (Below w.heap.size w w1) := up Uwr.out hbw1
          clear Rwr Twr Xwr Owr Uwr hbw1
          have KC : Hid (∀ wx, OwnT wx w.heap.size (.slice (some ⟨g, 0, none⟩) n cap3) L → Ri wx b8 (sB m) (.slice (some ⟨g, 0, none⟩) n cap3) → Ri wx b (sB m) (.slice A n cap) → wx.cell? ⟨b, 0, none⟩ = some (.string (sB m)) ∧ wx.cell? ⟨b8, 1, none⟩ = some (.slice (some ⟨g, 0, none⟩) n cap3) ∧ wx.cell? ⟨g, j * 3, none⟩ = some (.int .i64 y0) ∧ wx.cell? ⟨g, j * 3 + 1, none⟩ = some (.int .i64 y1) ∧ wx.cell? ⟨g, j * 3 + 2, none⟩ = some (.int .i64 y2)) := fun wx ho hx htt => by
            obtain ⟨g', c', hv, -, -, hcs, -⟩ := ho.form (by rw [HN.out]; omega)
            rw [HN.out] at hv
            cases hv
            obtain ⟨q0, q1, q2⟩ := hcs j HJ.out
            simp only [HY.out] at q0 q1 q2
            exact ⟨htt.cells.1, hx.cells.2, q0, q1, q2⟩
          have K1 := Lib.hid (KC.out _ Ow1.out Xw1.out Tw1.out)
          refine Mixed.wp_region_mixed (fun w' => w'.cell? ⟨b, 0, none⟩ = some (.string (sB m)) ∧ w'.cell? ⟨b8, 1, none⟩ = some (.slice (some ⟨g, 0, none⟩) n cap3) ∧ w'.cell? ⟨g, j * 3, none⟩ = some (.int .i64 y0) ∧ w'.cell? ⟨g, j * 3 + 1, none⟩ = some (.int .i64 y1) ∧ w'.cell? ⟨g, j * 3 + 2, none⟩ = some (.int .i64 y2)) 11 [(0, true), (1, true), (2, true), (3, true), (4, true), (5, true), (6, true), (7, true), (8, true), (9, false), (10, true)] (by kernel_rfl) (by kernel_rfl) (by rw [hw1]; exact K1.out) ?_
          rw [hw1]
          clear hw1 K1 x0 x1 g0 g1 g2 hfz
          refine Mixed.wpMix_pure rfl (by kernel_rfl) (.pointer (some ⟨b, 0, none⟩)) (fun w h => by go_simp; try rfl) ?_
          refine Mixed.wpMix_pure rfl (by kernel_rfl) (.string (sB m)) (fun w h => by obtain ⟨h1, h2, h3, h4, h5⟩ := h; go_simp; try rfl) ?_
          refine Mixed.wpMix_pure rfl (by kernel_rfl) (.bool false) (fun w h => by go_simp; try rfl) ?_
          refine Mixed.wpMix_move rfl (by kernel_rfl) _ rfl (.bool false) rfl ?_
          refine wpMix_skip rfl (by kernel_rfl) ?_
          refine wpMix_skip rfl (by kernel_rfl) ?_
          refine wpMix_skip rfl (by kernel_rfl) ?_
          refine wpMix_skip rfl (by kernel_rfl) ?_
          refine wpMix_skip rfl (by kernel_rfl) ?_
          refine wpMix_skipL rfl (by kernel_rfl) (KC.out _ Ow1.out Xw1.out Tw1.out) ?_
          refine wpMix_skip rfl (by kernel_rfl) ?_
          simp only [Mixed.wpMix, List.drop_succ_cons, List.drop_zero]
          go_wp2
          go_roundw
          case rel => exact ⟨j + 1, by omega, by go_num, NO2.out, Rw1.out, Tw1.out, Xw1.out, Ow1.out, Uw1.out⟩
          case measure => simp [intOf]; omega
        · have ht : ((sB m).toList == [74, 80]) = false := by rw [sB_eq]; exact decide_eq_false hm
          have HM := Lib.hid hm
          clear hm
          have heq : ∀ w, (binOp .eql 69 (.agg #[.int .i64 y0, .int .i64 y1, .int .i64 y2]) (.agg #[.int .i64 4, .int .i64 2, .int .i64 0])).run Tryz.prog w = .ok (.bool (decide ((y0, y1, y2) = ((4 : Int), (2 : Int), (0 : Int))))) w := fun w => opd_eql (y0, y1, y2) (4, 2, 0) w
          obtain ⟨d, hd⟩ : ∃ d, decide ((y0, y1, y2) = ((4 : Int), (2 : Int), (0 : Int))) = d := ⟨_, rfl⟩
          rw [hd] at heq
          have HD := Lib.hid hd
          clear hd
          cases d
          · have NO2 : Hid (∀ k (a : k < L.length), k < j + 1 → m = [74, 80] ∨ L[k] ≠ (4, 2, 0)) := fun k a h => by
              by_cases e : k = j
              · subst e; right; rw [HY.out]; exact of_decide_eq_false HD.out
              · exact NO.out k a (by omega)
            go_upto_region 5 with fail
            obtain ⟨w1, hw1⟩ : ∃ v, wr.drew = v := ⟨_, rfl⟩
            have hbw1 : Below wr.heap.size wr w1 := by rw [← hw1]; exact below_drewN _ _ 1
            have Rw1 := Lib.hid (Rwr.out.all hbw1)
            have Tw1 := Lib.hid (Twr.out.all hbw1)
            have Xw1 := Lib.hid (Xwr.out.all hbw1)
            have Ow1 := Lib.hid (Owr.out.below hbw1)
            have Uw1 : Hid (Below w.heap.size w w1) := up Uwr.out hbw1
            clear Rwr Twr Xwr Owr Uwr hbw1
            have KC : Hid (∀ wx, OwnT wx w.heap.size (.slice (some ⟨g, 0, none⟩) n cap3) L → Ri wx b8 (sB m) (.slice (some ⟨g, 0, none⟩) n cap3) → Ri wx b (sB m) (.slice A n cap) → wx.cell? ⟨b, 0, none⟩ = some (.string (sB m)) ∧ wx.cell? ⟨b8, 1, none⟩ = some (.slice (some ⟨g, 0, none⟩) n cap3) ∧ wx.cell? ⟨g, j * 3, none⟩ = some (.int .i64 y0) ∧ wx.cell? ⟨g, j * 3 + 1, none⟩ = some (.int .i64 y1) ∧ wx.cell? ⟨g, j * 3 + 2, none⟩ = some (.int .i64 y2)) := fun wx ho hx htt => by
              obtain ⟨g', c', hv, -, -, hcs, -⟩ := ho.form (by rw [HN.out]; omega)
              rw [HN.out] at hv
              cases hv
              obtain ⟨q0, q1, q2⟩ := hcs j HJ.out
              simp only [HY.out] at q0 q1 q2
              exact ⟨htt.cells.1, hx.cells.2, q0, q1, q2⟩
            have K1 := Lib.hid (KC.out _ Ow1.out Xw1.out Tw1.out)
            refine Mixed.wp_region_mixed (fun w' => w'.cell? ⟨b, 0, none⟩ = some (.string (sB m)) ∧ w'.cell? ⟨b8, 1, none⟩ = some (.slice (some ⟨g, 0, none⟩) n cap3) ∧ w'.cell? ⟨g, j * 3, none⟩ = some (.int .i64 y0) ∧ w'.cell? ⟨g, j * 3 + 1, none⟩ = some (.int .i64 y1) ∧ w'.cell? ⟨g, j * 3 + 2, none⟩ = some (.int .i64 y2)) 11 [(0, true), (1, true), (2, true), (3, true), (4, true), (5, true), (6, true), (7, true), (8, true), (9, false), (10, true)] (by kernel_rfl) (by kernel_rfl) (by rw [hw1]; exact K1.out) ?_
            rw [hw1]
            clear hw1 K1 x0 x1 g0 g1 g2 hfz
            have b1 : (0 : Int) ≤ (j : Int) := by omega
            have b2 : (j : Int) < (n : Int) := by omega
            have b3 : ¬ ((j : Int) < 0) := by omega
            have b4 : (j : Int).toNat = j := by omega
            refine Mixed.wpMix_pure rfl (by kernel_rfl) (.pointer (some ⟨b, 0, none⟩)) (fun w h => by go_simp; try rfl) ?_
            refine Mixed.wpMix_pure rfl (by kernel_rfl) (.string (sB m)) (fun w h => by obtain ⟨h1, h2, h3, h4, h5⟩ := h; go_simp; try rfl) ?_
            refine Mixed.wpMix_pure rfl (by kernel_rfl) (.bool true) (fun w h => by go_simp; try rfl) ?_
            refine Mixed.wpMix_move rfl (by kernel_rfl) _ rfl (.bool true) rfl ?_
            refine Mixed.wpMix_pure rfl (by kernel_rfl) (.pointer (some ⟨b8, 1, none⟩)) (fun w h => by go_simp; try rfl) ?_
            refine Mixed.wpMix_pure rfl (by kernel_rfl) (.slice (some ⟨g, 0, none⟩) n cap3) (fun w h => by obtain ⟨h1, h2, h3, h4, h5⟩ := h; go_simp; try rfl) ?_
            refine Mixed.wpMix_move rfl (by kernel_rfl) _ rfl (.int .i64 j) rfl ?_
            refine Mixed.wpMix_pure rfl (by kernel_rfl) (.pointer (some ⟨g, j * 3, none⟩)) (fun w h => by go_simp; try rfl) ?_
            refine Mixed.wpMix_pure rfl (by kernel_rfl) (.agg #[.int .i64 y0, .int .i64 y1, .int .i64 y2]) (fun w h => by obtain ⟨h1, h2, h3, h4, h5⟩ := h; go_simp; try rfl) ?_
            refine Mixed.wpMix_loudG rfl (by kernel_rfl) ?_
            go_wp2_with fail
            refine (rind_any 2 w1).mono ?_
            rintro e w2 ⟨rfl, hb2⟩
            have Rw2 := Lib.hid (Rw1.out.all hb2)
            have Tw2 := Lib.hid (Tw1.out.all hb2)
            have Xw2 := Lib.hid (Xw1.out.all hb2)
            have Ow2 := Lib.hid (Ow1.out.below hb2)
            have Uw2 : Hid (Below w.heap.size w w2) := up Uw1.out hb2
            clear Rw1 Tw1 Xw1 Ow1 Uw1 hb2
            have xx := KC.out _ Ow2.out Xw2.out Tw2.out
            go_wp2
            refine ⟨xx, ?_⟩
            clear xx
            simp only [trV]
            refine Mixed.wpMix_pure rfl (by kernel_rfl) (.bool false) (fun w h => by go_simp; try rfl) ?_
            simp only [Mixed.wpMix, List.drop_succ_cons, List.drop_zero]
            go_wp2
            go_roundw
            case rel => exact ⟨j + 1, by omega, by go_num, NO2.out, Rw2.out, Tw2.out, Xw2.out, Ow2.out, Uw2.out⟩
            case measure => simp [intOf]; omega
          · have hyy : (y0, y1, y2) = ((4 : Int), (2 : Int), (0 : Int)) := of_decide_eq_true HD.out
            have RS : Hid (repM ix L = L.set j (5, ix, 0)) := repM_set ix L j ⟨HJ.out, by rw [HY.out]; exact hyy⟩ (fun k hk a => (NO.out k a hk).resolve_left HM.out)
            have IT : Hid (ixT m L ex ix = (m, repM ix L, 100 :: ex)) := ixT_a (by
              unfold memB
              rw [decide_eq_true (by rw [← hyy, ← HY.out]; exact List.getElem_mem HJ.out), decide_eq_false HM.out]; rfl)
            clear hyy
            go_upto_region 5 with fail
            obtain ⟨w1, hw1⟩ : ∃ v, wr.drew = v := ⟨_, rfl⟩
            have hbw1 : Below wr.heap.size wr w1 := by rw [← hw1]; exact below_drewN _ _ 1
            have Rw1 := Lib.hid (Rwr.out.all hbw1)
            have Tw1 := Lib.hid (Twr.out.all hbw1)
            have Xw1 := Lib.hid (Xwr.out.all hbw1)
            have Ow1 := Lib.hid (Owr.out.below hbw1)
            have Uw1 : Hid (Below w.heap.size w w1) := up Uwr.out hbw1
            clear Rwr Twr Xwr Owr Uwr hbw1
            have KC : Hid (∀ wx, OwnT wx w.heap.size (.slice (some ⟨g, 0, none⟩) n cap3) L → Ri wx b8 (sB m) (.slice (some ⟨g, 0, none⟩) n cap3) → Ri wx b (sB m) (.slice A n cap) → wx.cell? ⟨b, 0, none⟩ = some (.string (sB m)) ∧ wx.cell? ⟨b8, 1, none⟩ = some (.slice (some ⟨g, 0, none⟩) n cap3) ∧ wx.cell? ⟨g, j * 3, none⟩ = some (.int .i64 y0) ∧ wx.cell? ⟨g, j * 3 + 1, none⟩ = some (.int .i64 y1) ∧ wx.cell? ⟨g, j * 3 + 2, none⟩ = some (.int .i64 y2)) := fun wx ho hx htt => by
              obtain ⟨g', c', hv, -, -, hcs, -⟩ := ho.form (by rw [HN.out]; omega)
              rw [HN.out] at hv
              cases hv
              obtain ⟨q0, q1, q2⟩ := hcs j HJ.out
              simp only [HY.out] at q0 q1 q2
              exact ⟨htt.cells.1, hx.cells.2, q0, q1, q2⟩
            have K1 := Lib.hid (KC.out _ Ow1.out Xw1.out Tw1.out)
            refine Mixed.wp_region_mixed (fun w' => w'.cell? ⟨b, 0, none⟩ = some (.string (sB m)) ∧ w'.cell? ⟨b8, 1, none⟩ = some (.slice (some ⟨g, 0, none⟩) n cap3) ∧ w'.cell? ⟨g, j * 3, none⟩ = some (.int .i64 y0) ∧ w'.cell? ⟨g, j * 3 + 1, none⟩ = some (.int .i64 y1) ∧ w'.cell? ⟨g, j * 3 + 2, none⟩ = some (.int .i64 y2)) 11 [(0, true), (1, true), (2, true), (3, true), (4, true), (5, true), (6, true), (7, true), (8, true), (9, false), (10, true)] (by kernel_rfl) (by kernel_rfl) (by rw [hw1]; exact K1.out) ?_
            rw [hw1]
            clear hw1 K1 x0 x1 g0 g1 g2 hfz
            have b1 : (0 : Int) ≤ (j : Int) := by omega
            have b2 : (j : Int) < (n : Int) := by omega
            have b3 : ¬ ((j : Int) < 0) := by omega
            have b4 : (j : Int).toNat = j := by omega
            refine Mixed.wpMix_pure rfl (by kernel_rfl) (.pointer (some ⟨b, 0, none⟩)) (fun w h => by go_simp; try rfl) ?_
            refine Mixed.wpMix_pure rfl (by kernel_rfl) (.string (sB m)) (fun w h => by obtain ⟨h1, h2, h3, h4, h5⟩ := h; go_simp; try rfl) ?_
            refine Mixed.wpMix_pure rfl (by kernel_rfl) (.bool true) (fun w h => by go_simp; try rfl) ?_
            refine Mixed.wpMix_move rfl (by kernel_rfl) _ rfl (.bool true) rfl ?_
            refine Mixed.wpMix_pure rfl (by kernel_rfl) (.pointer (some ⟨b8, 1, none⟩)) (fun w h => by go_simp; try rfl) ?_
            refine Mixed.wpMix_pure rfl (by kernel_rfl) (.slice (some ⟨g, 0, none⟩) n cap3) (fun w h => by obtain ⟨h1, h2, h3, h4, h5⟩ := h; go_simp; try rfl) ?_
            refine Mixed.wpMix_move rfl (by kernel_rfl) _ rfl (.int .i64 j) rfl ?_
            refine Mixed.wpMix_pure rfl (by kernel_rfl) (.pointer (some ⟨g, j * 3, none⟩)) (fun w h => by go_simp; try rfl) ?_
            refine Mixed.wpMix_pure rfl (by kernel_rfl) (.agg #[.int .i64 y0, .int .i64 y1, .int .i64 y2]) (fun w h => by obtain ⟨h1, h2, h3, h4, h5⟩ := h; go_simp; try rfl) ?_
            refine Mixed.wpMix_loudG rfl (by kernel_rfl) ?_
            go_wp2_with fail
            refine (rind_any 2 w1).mono ?_
            rintro e w2 ⟨rfl, hb2⟩
            have Rw2 := Lib.hid (Rw1.out.all hb2)
            have Tw2 := Lib.hid (Tw1.out.all hb2)
            have Xw2 := Lib.hid (Xw1.out.all hb2)
            have Ow2 := Lib.hid (Ow1.out.below hb2)
            have Uw2 : Hid (Below w.heap.size w w2) := up Uw1.out hb2
            clear Rw1 Tw1 Xw1 Ow1 Uw1 hb2
            have xx := KC.out _ Ow2.out Xw2.out Tw2.out
            go_wp2
            refine ⟨xx, ?_⟩
            clear xx
            simp only [trV]
            refine Mixed.wpMix_pure rfl (by kernel_rfl) (.bool true) (fun w h => by go_simp; try rfl) ?_
            simp only [Mixed.wpMix, List.drop_succ_cons, List.drop_zero]
            have OZ := OwnT.put3 Ow2.out HN.out j hlt (5, ix, 0)
            have XZ := ((Xw2.out.other GG.out.2.1.symm (j * 3) (.int .i64 5)).other GG.out.2.1.symm (j * 3 + 1) (.int .i64 ix)).other GG.out.2.1.symm (j * 3 + 2) (.int .i64 0)
            have RZ := ((Rw2.out.oth GG.out.2.2.2.symm (j * 3) (.int .i64 5)).oth GG.out.2.2.2.symm (j * 3 + 1) (.int .i64 ix)).oth GG.out.2.2.2.symm (j * 3 + 2) (.int .i64 0)
            have UZ := ((Uw2.out.setCell (p := ⟨g, j * 3, none⟩) GG.out.1 (.int .i64 5)).setCell (p := ⟨g, j * 3 + 1, none⟩) GG.out.1 (.int .i64 ix)).setCell (p := ⟨g, j * 3 + 2, none⟩) GG.out.1 (.int .i64 0)
            have OO5 := Lib.hid OZ
            have XX5 := Lib.hid XZ
            have RR5 := Lib.hid RZ
            have UU5 := Lib.hid UZ
            clear OZ XZ RZ UZ
            obtain ⟨k0, k1, k2, k3, k4⟩ := KC.out _ Ow2.out Xw2.out Tw2.out
            obtain ⟨g', c', hv, -, -, -, hfz⟩ := Ow2.out.form (by rw [HN.out]; omega)
            rw [HN.out] at hv
            cases hv
            go_upto_region 7 with fail
            obtain ⟨w5, hw5⟩ : ∃ w5, ((w2.setCell ⟨g, j * 3, none⟩ (.int .i64 5)).setCell ⟨g, j * 3 + 1, none⟩ (.int .i64 ix)).setCell ⟨g, j * 3 + 2, none⟩ (.int .i64 0) = w5 := ⟨_, rfl⟩
            rw [hw5] at OO5 XX5 RR5 UU5 ⊢
            clear hw5 k0 k1 k2 k3 k4 hfz Rw2 Tw2 Xw2 Ow2 Uw2 KC heq
            obtain ⟨x0, x1⟩ := XX5.out.cells
            obtain ⟨z0, z1, z2, z3⟩ := RR5.out.cells
            have hsz : (⟨#[100]⟩ : ByteArray).size + (sB ex).size ≤ 2000 := by have := HE.out; rw [sB_size]; show 1 + _ ≤ _; omega
            go_wp2
            have EX : (⟨#[100]⟩ : ByteArray) ++ sB ex = sB (100 :: ex) := sB_append [100] ex
            rw [EX]
            obtain ⟨wz, hwz, q1, q2, q3⟩ := ri_put RR5.out (sB m) (.slice (some ⟨g, 0, none⟩) n cap3)
            rw [hwz]
            obtain ⟨s0, s1⟩ := q1.cells
            refine bodyPost_ret (v := .tuple #[.agg #[.string (sB m), .slice (some ⟨g, 0, none⟩) n cap3], .string (sB (100 :: ex))]) ?_ rfl ?_
            · simp [results, Tryz.results31, go_sem, s0, s1]
            · rw [IT.out]
              exact ⟨_, rfl, (by rw [RS.out]; exact own_put RR5.out OO5.out q3), UU5.out.trans (q2.mono (by have := HB.out; omega))⟩
      · obtain rfl : n = j := by omega
        have MB : Hid (memB m L = false) := memB_no fun k a => NO.out k a (by rw [← HN.out]; exact a)
        obtain ⟨wb, hwb⟩ : ∃ wb, wb = wr := ⟨_, rfl⟩
        subst hwb
        have OM : Hid (OwnT wb w.heap.size (.slice A3 n cap3) (mpx ix L 0)) := Owr.out
        obtain ⟨x0, x1⟩ := Xwr.out.cells
        go_wp2
        clear x0 x1
        go_loopw [11, 10] (fun i c wr => ∃ j : Nat, j ≤ n ∧ i = .int .i64 j ∧ c = .bool (anyX ix (L.take j)) ∧ Hid (Rz wr (b + 1)) ∧ Hid (Ri wr b (sB m) (.slice A n cap)) ∧ Hid (Ri wr b8 (sB m) (.slice A3 n cap3)) ∧ Hid (OwnT wr w.heap.size (.slice A3 n cap3) (mpx ix L j)) ∧ Hid (Below w.heap.size w wr)) (fun i _ _ => n - (intOf i).toNat)
        case atStart => exact ⟨0, Nat.zero_le _, rfl, rfl, Rwr.out, Twr.out, Xwr.out, OM.out, Uwr.out⟩
        case round =>
          clear Rwr Twr Xwr Owr Uwr OM NO hj hlt
          obtain ⟨j, hj, rfl, rfl, Rwr, Twr, Xwr, Owr, Uwr⟩ := hrel
          by_cases hlt : j < n
          · have hjL : j < L.length := by rw [HN.out]; exact hlt
            obtain ⟨g, cap', hv, hBg, ⟨cur, hcur⟩, hcs, hfz⟩ := Owr.out.form (by rw [mpx_len, HN.out]; omega)
            rw [mpx_len, HN.out] at hv
            cases hv
            have hgb8 : g ≠ b8 := Xwr.out.apart hcur
            have hgb : g ≠ b := Twr.out.apart hcur
            have hgn : g ≠ b + 1 := Rz.apart Rwr.out hcur
            have hgw : g < wr.heap.size := (Array.getElem?_eq_some_iff.1 hcur).1
            obtain ⟨g0, g1, g2⟩ := hcs j (by rw [mpx_len]; exact hjL)
            obtain ⟨⟨y0, y1, y2⟩, hy⟩ : ∃ y, L[j] = y := ⟨_, rfl⟩
            rw [mpx_at ix L j hjL, hy] at g0 g1 g2
            simp only at g0 g1 g2
            have HY := Lib.hid hy
            have GG := Lib.hid (And.intro hBg (And.intro hgb8 (And.intro hgb hgn)))
            have HJ := Lib.hid hjL
            have ANY := anyX_succ ix L j hjL
            rw [hy] at ANY
            obtain ⟨ch, hch⟩ : ∃ c, anyX ix (L.take j) = c := ⟨_, rfl⟩
            rw [hch] at ANY ⊢
            obtain ⟨x0, x1⟩ := Xwr.out.cells
            clear hcs hcur hy hBg hgb8 hgb hgn hch
            go_upto_region 13 with fail
            obtain ⟨q, hq⟩ : ∃ q, wr.heap.size = q := ⟨_, rfl⟩
            obtain ⟨w1, hw1⟩ : ∃ v, wr.alloc (.cells #[.int .i64 y0, .int .i64 y1, .int .i64 y2] 69) = v := ⟨_, rfl⟩
            have hbw1 : Below wr.heap.size wr w1 := by rw [← hw1]; exact up_alloc _ _
            have Qw1 : Hid (OpV w1 q (y0, y1, y2)) := by rw [← hw1, ← hq]; exact opv_new _ _ _ _
            have GQ : Hid (g ≠ q) := (by omega : g ≠ q)
            rw [hw1, hq]
            clear hw1 hgw hq x0 x1 g0 g1 g2 hfz
            have Rw1 := Lib.hid (Rwr.out.all hbw1)
            have Tw1 := Lib.hid (Twr.out.all hbw1)
            have Xw1 := Lib.hid (Xwr.out.all hbw1)
            have Ow1 := Lib.hid (Owr.out.below hbw1)
            have Uw1 : Hid (Below w.heap.size w w1) := up Uwr.out hbw1
            clear Rwr Twr Xwr Owr Uwr hbw1
            obtain ⟨g', c', hv, -, -, hcs, hfz⟩ := Ow1.out.form (by rw [mpx_len, HN.out]; omega)
            rw [mpx_len, HN.out] at hv
            cases hv
            obtain ⟨g0, g1, g2⟩ := hcs j (by rw [mpx_len]; exact HJ.out)
            rw [mpx_at ix L j HJ.out, HY.out] at g0 g1 g2
            simp only at g0 g1 g2
            obtain ⟨x0, x1⟩ := Xw1.out.cells
            obtain ⟨o0, o1, o2, o3⟩ := OpV.cells Qw1.out
            simp only at o0 o1 o2
            clear hcs
            by_cases h1 : (y0, y1, y2) = ((3 : Int), (2 : Int), (0 : Int))
            · have hyy := h1
              clear h1
              obtain ⟨rfl, rfl, rfl⟩ : y0 = 3 ∧ y1 = 2 ∧ y2 = 0 := by simpa using hyy
              clear hyy
              have HZ : Hid (opX ix (3, 2, 0) = (3, ix, 0)) := (by show opX ix _ = _; unfold opX; simp)
              rw [HZ.out] at ANY
              have OO5 : Hid (OwnT (w1.setCell ⟨g, j * 3 + 1, none⟩ (.int .i64 ix)) w.heap.size (.slice (some ⟨g, 0, none⟩) n cap3) (mpx ix L (j + 1))) := by
                show OwnT _ _ _ _
                rw [mpx_succ ix L j HJ.out, HY.out, HZ.out]
                exact OwnT.put Ow1.out (by rw [mpx_len]; exact HN.out) (by rw [List.length_set, mpx_len]; exact HN.out) (j * 3 + 1) _ (cells_setm _ j (3, 2, 0) ix (by rw [mpx_len]; exact HJ.out) (by rw [mpx_at ix L j HJ.out]; exact HY.out))
              have XX5 := Lib.hid (Xw1.out.other GG.out.2.1.symm (j * 3 + 1) (.int .i64 ix))
              have TT5 := Lib.hid (Tw1.out.other GG.out.2.2.1.symm (j * 3 + 1) (.int .i64 ix))
              have RR5 := Lib.hid (Rw1.out.oth GG.out.2.2.2.symm (j * 3 + 1) (.int .i64 ix))
              have UU5 := Lib.hid (Uw1.out.setCell (p := ⟨g, j * 3 + 1, none⟩) GG.out.1 (.int .i64 ix))
              have QQ5 := Lib.hid (Qw1.out.oth GQ.out.symm (j * 3 + 1) (.int .i64 ix))
              go_upto_region 21 with fail
              obtain ⟨w5, hw5⟩ : ∃ w5, (w1.setCell ⟨g, j * 3 + 1, none⟩ (.int .i64 ix)) = w5 := ⟨_, rfl⟩
              rw [hw5] at OO5 XX5 TT5 RR5 UU5 QQ5 ⊢
              clear hw5 g0 g1 g2 hfz x0 x1 o0 o1 o2 Rw1 Tw1 Xw1 Ow1 Uw1 Qw1
              obtain ⟨g', c', hv, -, -, hcs, -⟩ := OO5.out.form (by rw [mpx_len, HN.out]; omega)
              rw [mpx_len, HN.out] at hv
              cases hv
              obtain ⟨g0, g1, g2⟩ := hcs j (by rw [mpx_len]; exact HJ.out)
              rw [mpx_at2 ix L j HJ.out, HY.out, HZ.out] at g0 g1 g2
              simp only at g0 g1 g2
              obtain ⟨x0, x1⟩ := XX5.out.cells
              obtain ⟨o0, o1, o2, o3⟩ := OpV.cells QQ5.out
              simp only at o0 o1 o2
              have hneq : ∀ w, (binOp .neq 69 (.agg #[.int .i64 3, .int .i64 ix, .int .i64 0]) (.agg #[.int .i64 3, .int .i64 2, .int .i64 0])).run Tryz.prog w = .ok (.bool (!decide (((3 : Int), (ix : Int), (0 : Int)) = (3, 2, 0)))) w := fun w => opd_neq (3, ix, 0) (3, 2, 0) w
              obtain ⟨d, hd⟩ : ∃ d, (!decide (((3 : Int), (ix : Int), (0 : Int)) = (3, 2, 0))) = d := ⟨_, rfl⟩
              rw [hd] at hneq ANY
              clear hcs hd
              have hlt2 := hlt
              have ANY := Lib.hid ANY
              cases ch
              · have AN : Hid (anyX ix (L.take (j + 1)) = d) := ANY.out
                go_wp2
                go_quiet (fail)
                go_wp2
                go_roundw
                case rel => exact ⟨j + 1, by omega, by go_num, by rw [AN.out], RR5.out.all (below_drewN _ _ _), TT5.out.all (below_drewN _ _ _), XX5.out.all (below_drewN _ _ _), OO5.out.below (below_drewN _ _ _), UU5.out.trans (below_drewN _ _ _)⟩
                case measure => simp [intOf]; omega
              · have AN : Hid (anyX ix (L.take (j + 1)) = true) := ANY.out
                go_wp2
                go_quiet (fail)
                go_wp2
                go_roundw
                case rel => exact ⟨j + 1, by omega, by go_num, by rw [AN.out], RR5.out.all (below_drewN _ _ _), TT5.out.all (below_drewN _ _ _), XX5.out.all (below_drewN _ _ _), OO5.out.below (below_drewN _ _ _), UU5.out.trans (below_drewN _ _ _)⟩
                case measure => simp [intOf]; omega
            · by_cases h2 : (y0, y1, y2) = ((1 : Int), (4 : Int), (0 : Int))
              · have hyy := h2
                clear h1 h2
                rcases HI.out with hx | hx
                · subst hx
                  obtain ⟨rfl, rfl, rfl⟩ : y0 = 1 ∧ y1 = 4 ∧ y2 = 0 := by simpa using hyy
                  clear hyy
                  have HZ : Hid (opX 5 (1, 4, 0) = (2, 0, 0)) := (by show opX 5 _ = _; decide)
                  rw [HZ.out] at ANY
                  have OO5 : Hid (OwnT (((w1.setCell ⟨g, j * 3, none⟩ (.int .i64 2)).setCell ⟨g, j * 3 + 1, none⟩ (.int .i64 0)).setCell ⟨g, j * 3 + 2, none⟩ (.int .i64 0)) w.heap.size (.slice (some ⟨g, 0, none⟩) n cap3) (mpx 5 L (j + 1))) := by
                    show OwnT _ _ _ _
                    rw [mpx_succ 5 L j HJ.out, HY.out, HZ.out]
                    exact OwnT.put3 Ow1.out (by rw [mpx_len]; exact HN.out) j hlt (2, 0, 0)
                  have XX5 := Lib.hid (((Xw1.out.other GG.out.2.1.symm (j * 3) (.int .i64 2)).other GG.out.2.1.symm (j * 3 + 1) (.int .i64 0)).other GG.out.2.1.symm (j * 3 + 2) (.int .i64 0))
                  have TT5 := Lib.hid (((Tw1.out.other GG.out.2.2.1.symm (j * 3) (.int .i64 2)).other GG.out.2.2.1.symm (j * 3 + 1) (.int .i64 0)).other GG.out.2.2.1.symm (j * 3 + 2) (.int .i64 0))
                  have RR5 := Lib.hid (((Rw1.out.oth GG.out.2.2.2.symm (j * 3) (.int .i64 2)).oth GG.out.2.2.2.symm (j * 3 + 1) (.int .i64 0)).oth GG.out.2.2.2.symm (j * 3 + 2) (.int .i64 0))
                  have UU5 := Lib.hid (((Uw1.out.setCell (p := ⟨g, j * 3, none⟩) GG.out.1 (.int .i64 2)).setCell (p := ⟨g, j * 3 + 1, none⟩) GG.out.1 (.int .i64 0)).setCell (p := ⟨g, j * 3 + 2, none⟩) GG.out.1 (.int .i64 0))
                  have QQ5 := Lib.hid (((Qw1.out.oth GQ.out.symm (j * 3) (.int .i64 2)).oth GQ.out.symm (j * 3 + 1) (.int .i64 0)).oth GQ.out.symm (j * 3 + 2) (.int .i64 0))
                  go_upto_region 21 with fail
                  obtain ⟨w5, hw5⟩ : ∃ w5, (((w1.setCell ⟨g, j * 3, none⟩ (.int .i64 2)).setCell ⟨g, j * 3 + 1, none⟩ (.int .i64 0)).setCell ⟨g, j * 3 + 2, none⟩ (.int .i64 0)) = w5 := ⟨_, rfl⟩
                  rw [hw5] at OO5 XX5 TT5 RR5 UU5 QQ5 ⊢
                  clear hw5 g0 g1 g2 hfz x0 x1 o0 o1 o2 Rw1 Tw1 Xw1 Ow1 Uw1 Qw1
                  obtain ⟨g', c', hv, -, -, hcs, -⟩ := OO5.out.form (by rw [mpx_len, HN.out]; omega)
                  rw [mpx_len, HN.out] at hv
                  cases hv
                  obtain ⟨g0, g1, g2⟩ := hcs j (by rw [mpx_len]; exact HJ.out)
                  rw [mpx_at2 5 L j HJ.out, HY.out, HZ.out] at g0 g1 g2
                  simp only at g0 g1 g2
                  obtain ⟨x0, x1⟩ := XX5.out.cells
                  obtain ⟨o0, o1, o2, o3⟩ := OpV.cells QQ5.out
                  simp only at o0 o1 o2
                  have hneq : ∀ w, (binOp .neq 69 (.agg #[.int .i64 2, .int .i64 0, .int .i64 0]) (.agg #[.int .i64 1, .int .i64 4, .int .i64 0])).run Tryz.prog w = .ok (.bool (!decide (((2 : Int), (0 : Int), (0 : Int)) = (1, 4, 0)))) w := fun w => opd_neq (2, 0, 0) (1, 4, 0) w
                  obtain ⟨d, hd⟩ : ∃ d, (!decide (((2 : Int), (0 : Int), (0 : Int)) = (1, 4, 0))) = d := ⟨_, rfl⟩
                  rw [hd] at hneq ANY
                  clear hcs hd
                  have hlt2 := hlt
                  have ANY := Lib.hid ANY
                  cases ch
                  · have AN : Hid (anyX 5 (L.take (j + 1)) = d) := ANY.out
                    go_wp2
                    go_quiet (fail)
                    go_wp2
                    go_roundw
                    case rel => exact ⟨j + 1, by omega, by go_num, by rw [AN.out], RR5.out.all (below_drewN _ _ _), TT5.out.all (below_drewN _ _ _), XX5.out.all (below_drewN _ _ _), OO5.out.below (below_drewN _ _ _), UU5.out.trans (below_drewN _ _ _)⟩
                    case measure => simp [intOf]; omega
                  · have AN : Hid (anyX 5 (L.take (j + 1)) = true) := ANY.out
                    go_wp2
                    go_quiet (fail)
                    go_wp2
                    go_roundw
                    case rel => exact ⟨j + 1, by omega, by go_num, by rw [AN.out], RR5.out.all (below_drewN _ _ _), TT5.out.all (below_drewN _ _ _), XX5.out.all (below_drewN _ _ _), OO5.out.below (below_drewN _ _ _), UU5.out.trans (below_drewN _ _ _)⟩
                    case measure => simp [intOf]; omega
                · subst hx
                  obtain ⟨rfl, rfl, rfl⟩ : y0 = 1 ∧ y1 = 4 ∧ y2 = 0 := by simpa using hyy
                  clear hyy
                  have HZ : Hid (opX 6 (1, 4, 0) = (2, 2, 0)) := (by show opX 6 _ = _; decide)
                  rw [HZ.out] at ANY
                  have OO5 : Hid (OwnT (((w1.setCell ⟨g, j * 3, none⟩ (.int .i64 2)).setCell ⟨g, j * 3 + 1, none⟩ (.int .i64 2)).setCell ⟨g, j * 3 + 2, none⟩ (.int .i64 0)) w.heap.size (.slice (some ⟨g, 0, none⟩) n cap3) (mpx 6 L (j + 1))) := by
                    show OwnT _ _ _ _
                    rw [mpx_succ 6 L j HJ.out, HY.out, HZ.out]
                    exact OwnT.put3 Ow1.out (by rw [mpx_len]; exact HN.out) j hlt (2, 2, 0)
                  have XX5 := Lib.hid (((Xw1.out.other GG.out.2.1.symm (j * 3) (.int .i64 2)).other GG.out.2.1.symm (j * 3 + 1) (.int .i64 2)).other GG.out.2.1.symm (j * 3 + 2) (.int .i64 0))
                  have TT5 := Lib.hid (((Tw1.out.other GG.out.2.2.1.symm (j * 3) (.int .i64 2)).other GG.out.2.2.1.symm (j * 3 + 1) (.int .i64 2)).other GG.out.2.2.1.symm (j * 3 + 2) (.int .i64 0))
                  have RR5 := Lib.hid (((Rw1.out.oth GG.out.2.2.2.symm (j * 3) (.int .i64 2)).oth GG.out.2.2.2.symm (j * 3 + 1) (.int .i64 2)).oth GG.out.2.2.2.symm (j * 3 + 2) (.int .i64 0))
                  have UU5 := Lib.hid (((Uw1.out.setCell (p := ⟨g, j * 3, none⟩) GG.out.1 (.int .i64 2)).setCell (p := ⟨g, j * 3 + 1, none⟩) GG.out.1 (.int .i64 2)).setCell (p := ⟨g, j * 3 + 2, none⟩) GG.out.1 (.int .i64 0))
                  have QQ5 := Lib.hid (((Qw1.out.oth GQ.out.symm (j * 3) (.int .i64 2)).oth GQ.out.symm (j * 3 + 1) (.int .i64 2)).oth GQ.out.symm (j * 3 + 2) (.int .i64 0))
                  go_upto_region 21 with fail
                  obtain ⟨w5, hw5⟩ : ∃ w5, (((w1.setCell ⟨g, j * 3, none⟩ (.int .i64 2)).setCell ⟨g, j * 3 + 1, none⟩ (.int .i64 2)).setCell ⟨g, j * 3 + 2, none⟩ (.int .i64 0)) = w5 := ⟨_, rfl⟩
                  rw [hw5] at OO5 XX5 TT5 RR5 UU5 QQ5 ⊢
                  clear hw5 g0 g1 g2 hfz x0 x1 o0 o1 o2 Rw1 Tw1 Xw1 Ow1 Uw1 Qw1
                  obtain ⟨g', c', hv, -, -, hcs, -⟩ := OO5.out.form (by rw [mpx_len, HN.out]; omega)
                  rw [mpx_len, HN.out] at hv
                  cases hv
                  obtain ⟨g0, g1, g2⟩ := hcs j (by rw [mpx_len]; exact HJ.out)
                  rw [mpx_at2 6 L j HJ.out, HY.out, HZ.out] at g0 g1 g2
                  simp only at g0 g1 g2
                  obtain ⟨x0, x1⟩ := XX5.out.cells
                  obtain ⟨o0, o1, o2, o3⟩ := OpV.cells QQ5.out
                  simp only at o0 o1 o2
                  have hneq : ∀ w, (binOp .neq 69 (.agg #[.int .i64 2, .int .i64 2, .int .i64 0]) (.agg #[.int .i64 1, .int .i64 4, .int .i64 0])).run Tryz.prog w = .ok (.bool (!decide (((2 : Int), (2 : Int), (0 : Int)) = (1, 4, 0)))) w := fun w => opd_neq (2, 2, 0) (1, 4, 0) w
                  obtain ⟨d, hd⟩ : ∃ d, (!decide (((2 : Int), (2 : Int), (0 : Int)) = (1, 4, 0))) = d := ⟨_, rfl⟩
                  rw [hd] at hneq ANY
                  clear hcs hd
                  have hlt2 := hlt
                  have ANY := Lib.hid ANY
                  cases ch
                  · have AN : Hid (anyX 6 (L.take (j + 1)) = d) := ANY.out
                    go_wp2
                    go_quiet (fail)
                    go_wp2
                    go_roundw
                    case rel => exact ⟨j + 1, by omega, by go_num, by rw [AN.out], RR5.out.all (below_drewN _ _ _), TT5.out.all (below_drewN _ _ _), XX5.out.all (below_drewN _ _ _), OO5.out.below (below_drewN _ _ _), UU5.out.trans (below_drewN _ _ _)⟩
                    case measure => simp [intOf]; omega
                  · have AN : Hid (anyX 6 (L.take (j + 1)) = true) := ANY.out
                    go_wp2
                    go_quiet (fail)
                    go_wp2
                    go_roundw
                    case rel => exact ⟨j + 1, by omega, by go_num, by rw [AN.out], RR5.out.all (below_drewN _ _ _), TT5.out.all (below_drewN _ _ _), XX5.out.all (below_drewN _ _ _), OO5.out.below (below_drewN _ _ _), UU5.out.trans (below_drewN _ _ _)⟩
                    case measure => simp [intOf]; omega
              · by_cases h3 : (y0, y1, y2) = ((1 : Int), (5 : Int), (0 : Int))
                · have hyy := h3
                  clear h1 h2 h3
                  rcases HI.out with hx | hx
                  · subst hx
                    obtain ⟨rfl, rfl, rfl⟩ : y0 = 1 ∧ y1 = 5 ∧ y2 = 0 := by simpa using hyy
                    clear hyy
                    have HZ : Hid (opX 5 (1, 5, 0) = (2, 1, 0)) := (by show opX 5 _ = _; decide)
                    rw [HZ.out] at ANY
                    have OO5 : Hid (OwnT (((w1.setCell ⟨g, j * 3, none⟩ (.int .i64 2)).setCell ⟨g, j * 3 + 1, none⟩ (.int .i64 1)).setCell ⟨g, j * 3 + 2, none⟩ (.int .i64 0)) w.heap.size (.slice (some ⟨g, 0, none⟩) n cap3) (mpx 5 L (j + 1))) := by
                      show OwnT _ _ _ _
                      rw [mpx_succ 5 L j HJ.out, HY.out, HZ.out]
                      exact OwnT.put3 Ow1.out (by rw [mpx_len]; exact HN.out) j hlt (2, 1, 0)
                    have XX5 := Lib.hid (((Xw1.out.other GG.out.2.1.symm (j * 3) (.int .i64 2)).other GG.out.2.1.symm (j * 3 + 1) (.int .i64 1)).other GG.out.2.1.symm (j * 3 + 2) (.int .i64 0))
                    have TT5 := Lib.hid (((Tw1.out.other GG.out.2.2.1.symm (j * 3) (.int .i64 2)).other GG.out.2.2.1.symm (j * 3 + 1) (.int .i64 1)).other GG.out.2.2.1.symm (j * 3 + 2) (.int .i64 0))
                    have RR5 := Lib.hid (((Rw1.out.oth GG.out.2.2.2.symm (j * 3) (.int .i64 2)).oth GG.out.2.2.2.symm (j * 3 + 1) (.int .i64 1)).oth GG.out.2.2.2.symm (j * 3 + 2) (.int .i64 0))
                    have UU5 := Lib.hid (((Uw1.out.setCell (p := ⟨g, j * 3, none⟩) GG.out.1 (.int .i64 2)).setCell (p := ⟨g, j * 3 + 1, none⟩) GG.out.1 (.int .i64 1)).setCell (p := ⟨g, j * 3 + 2, none⟩) GG.out.1 (.int .i64 0))
                    have QQ5 := Lib.hid (((Qw1.out.oth GQ.out.symm (j * 3) (.int .i64 2)).oth GQ.out.symm (j * 3 + 1) (.int .i64 1)).oth GQ.out.symm (j * 3 + 2) (.int .i64 0))
                    go_upto_region 21 with fail
                    obtain ⟨w5, hw5⟩ : ∃ w5, (((w1.setCell ⟨g, j * 3, none⟩ (.int .i64 2)).setCell ⟨g, j * 3 + 1, none⟩ (.int .i64 1)).setCell ⟨g, j * 3 + 2, none⟩ (.int .i64 0)) = w5 := ⟨_, rfl⟩
                    rw [hw5] at OO5 XX5 TT5 RR5 UU5 QQ5 ⊢
                    clear hw5 g0 g1 g2 hfz x0 x1 o0 o1 o2 Rw1 Tw1 Xw1 Ow1 Uw1 Qw1
                    obtain ⟨g', c', hv, -, -, hcs, -⟩ := OO5.out.form (by rw [mpx_len, HN.out]; omega)
                    rw [mpx_len, HN.out] at hv
                    cases hv
                    obtain ⟨g0, g1, g2⟩ := hcs j (by rw [mpx_len]; exact HJ.out)
                    rw [mpx_at2 5 L j HJ.out, HY.out, HZ.out] at g0 g1 g2
                    simp only at g0 g1 g2
                    obtain ⟨x0, x1⟩ := XX5.out.cells
                    obtain ⟨o0, o1, o2, o3⟩ := OpV.cells QQ5.out
                    simp only at o0 o1 o2
                    have hneq : ∀ w, (binOp .neq 69 (.agg #[.int .i64 2, .int .i64 1, .int .i64 0]) (.agg #[.int .i64 1, .int .i64 5, .int .i64 0])).run Tryz.prog w = .ok (.bool (!decide (((2 : Int), (1 : Int), (0 : Int)) = (1, 5, 0)))) w := fun w => opd_neq (2, 1, 0) (1, 5, 0) w
                    obtain ⟨d, hd⟩ : ∃ d, (!decide (((2 : Int), (1 : Int), (0 : Int)) = (1, 5, 0))) = d := ⟨_, rfl⟩
                    rw [hd] at hneq ANY
                    clear hcs hd
                    have hlt2 := hlt
                    have ANY := Lib.hid ANY
                    cases ch
                    · have AN : Hid (anyX 5 (L.take (j + 1)) = d) := ANY.out
                      go_wp2
                      go_quiet (fail)
                      go_wp2
                      go_roundw
                      case rel => exact ⟨j + 1, by omega, by go_num, by rw [AN.out], RR5.out.all (below_drewN _ _ _), TT5.out.all (below_drewN _ _ _), XX5.out.all (below_drewN _ _ _), OO5.out.below (below_drewN _ _ _), UU5.out.trans (below_drewN _ _ _)⟩
                      case measure => simp [intOf]; omega
                    · have AN : Hid (anyX 5 (L.take (j + 1)) = true) := ANY.out
                      go_wp2
                      go_quiet (fail)
                      go_wp2
                      go_roundw
                      case rel => exact ⟨j + 1, by omega, by go_num, by rw [AN.out], RR5.out.all (below_drewN _ _ _), TT5.out.all (below_drewN _ _ _), XX5.out.all (below_drewN _ _ _), OO5.out.below (below_drewN _ _ _), UU5.out.trans (below_drewN _ _ _)⟩
                      case measure => simp [intOf]; omega
                  · subst hx
                    obtain ⟨rfl, rfl, rfl⟩ : y0 = 1 ∧ y1 = 5 ∧ y2 = 0 := by simpa using hyy
                    clear hyy
                    have HZ : Hid (opX 6 (1, 5, 0) = (2, 3, 0)) := (by show opX 6 _ = _; decide)
                    rw [HZ.out] at ANY
                    have OO5 : Hid (OwnT (((w1.setCell ⟨g, j * 3, none⟩ (.int .i64 2)).setCell ⟨g, j * 3 + 1, none⟩ (.int .i64 3)).setCell ⟨g, j * 3 + 2, none⟩ (.int .i64 0)) w.heap.size (.slice (some ⟨g, 0, none⟩) n cap3) (mpx 6 L (j + 1))) := by
                      show OwnT _ _ _ _
                      rw [mpx_succ 6 L j HJ.out, HY.out, HZ.out]
                      exact OwnT.put3 Ow1.out (by rw [mpx_len]; exact HN.out) j hlt (2, 3, 0)
                    have XX5 := Lib.hid (((Xw1.out.other GG.out.2.1.symm (j * 3) (.int .i64 2)).other GG.out.2.1.symm (j * 3 + 1) (.int .i64 3)).other GG.out.2.1.symm (j * 3 + 2) (.int .i64 0))
                    have TT5 := Lib.hid (((Tw1.out.other GG.out.2.2.1.symm (j * 3) (.int .i64 2)).other GG.out.2.2.1.symm (j * 3 + 1) (.int .i64 3)).other GG.out.2.2.1.symm (j * 3 + 2) (.int .i64 0))
                    have RR5 := Lib.hid (((Rw1.out.oth GG.out.2.2.2.symm (j * 3) (.int .i64 2)).oth GG.out.2.2.2.symm (j * 3 + 1) (.int .i64 3)).oth GG.out.2.2.2.symm (j * 3 + 2) (.int .i64 0))
                    have UU5 := Lib.hid (((Uw1.out.setCell (p := ⟨g, j * 3, none⟩) GG.out.1 (.int .i64 2)).setCell (p := ⟨g, j * 3 + 1, none⟩) GG.out.1 (.int .i64 3)).setCell (p := ⟨g, j * 3 + 2, none⟩) GG.out.1 (.int .i64 0))
                    have QQ5 := Lib.hid (((Qw1.out.oth GQ.out.symm (j * 3) (.int .i64 2)).oth GQ.out.symm (j * 3 + 1) (.int .i64 3)).oth GQ.out.symm (j * 3 + 2) (.int .i64 0))
                    go_upto_region 21 with fail
                    obtain ⟨w5, hw5⟩ : ∃ w5, (((w1.setCell ⟨g, j * 3, none⟩ (.int .i64 2)).setCell ⟨g, j * 3 + 1, none⟩ (.int .i64 3)).setCell ⟨g, j * 3 + 2, none⟩ (.int .i64 0)) = w5 := ⟨_, rfl⟩
                    rw [hw5] at OO5 XX5 TT5 RR5 UU5 QQ5 ⊢
                    clear hw5 g0 g1 g2 hfz x0 x1 o0 o1 o2 Rw1 Tw1 Xw1 Ow1 Uw1 Qw1
                    obtain ⟨g', c', hv, -, -, hcs, -⟩ := OO5.out.form (by rw [mpx_len, HN.out]; omega)
                    rw [mpx_len, HN.out] at hv
                    cases hv
                    obtain ⟨g0, g1, g2⟩ := hcs j (by rw [mpx_len]; exact HJ.out)
                    rw [mpx_at2 6 L j HJ.out, HY.out, HZ.out] at g0 g1 g2
                    simp only at g0 g1 g2
                    obtain ⟨x0, x1⟩ := XX5.out.cells
                    obtain ⟨o0, o1, o2, o3⟩ := OpV.cells QQ5.out
                    simp only at o0 o1 o2
                    have hneq : ∀ w, (binOp .neq 69 (.agg #[.int .i64 2, .int .i64 3, .int .i64 0]) (.agg #[.int .i64 1, .int .i64 5, .int .i64 0])).run Tryz.prog w = .ok (.bool (!decide (((2 : Int), (3 : Int), (0 : Int)) = (1, 5, 0)))) w := fun w => opd_neq (2, 3, 0) (1, 5, 0) w
                    obtain ⟨d, hd⟩ : ∃ d, (!decide (((2 : Int), (3 : Int), (0 : Int)) = (1, 5, 0))) = d := ⟨_, rfl⟩
                    rw [hd] at hneq ANY
                    clear hcs hd
                    have hlt2 := hlt
                    have ANY := Lib.hid ANY
                    cases ch
                    · have AN : Hid (anyX 6 (L.take (j + 1)) = d) := ANY.out
                      go_wp2
                      go_quiet (fail)
                      go_wp2
                      go_roundw
                      case rel => exact ⟨j + 1, by omega, by go_num, by rw [AN.out], RR5.out.all (below_drewN _ _ _), TT5.out.all (below_drewN _ _ _), XX5.out.all (below_drewN _ _ _), OO5.out.below (below_drewN _ _ _), UU5.out.trans (below_drewN _ _ _)⟩
                      case measure => simp [intOf]; omega
                    · have AN : Hid (anyX 6 (L.take (j + 1)) = true) := ANY.out
                      go_wp2
                      go_quiet (fail)
                      go_wp2
                      go_roundw
                      case rel => exact ⟨j + 1, by omega, by go_num, by rw [AN.out], RR5.out.all (below_drewN _ _ _), TT5.out.all (below_drewN _ _ _), XX5.out.all (below_drewN _ _ _), OO5.out.below (below_drewN _ _ _), UU5.out.trans (below_drewN _ _ _)⟩
                      case measure => simp [intOf]; omega
                · by_cases h4 : (y0, y1, y2) = ((4 : Int), (2 : Int), (0 : Int))
                  · have hyy := h4
                    clear h1 h2 h3 h4
                    obtain ⟨rfl, rfl, rfl⟩ : y0 = 4 ∧ y1 = 2 ∧ y2 = 0 := by simpa using hyy
                    clear hyy
                    have HZ : Hid (opX ix (4, 2, 0) = (4, ix, 0)) := (by show opX ix _ = _; unfold opX; simp)
                    rw [HZ.out] at ANY
                    go_wp2_with fail
                    refine (rind_any 2 w1).mono ?_
                    rintro e w2 ⟨rfl, hb2⟩
                    clear g0 g1 g2 hfz x0 x1 o0 o1 o2
                    have Rw2 := Lib.hid (Rw1.out.all hb2)
                    have Tw2 := Lib.hid (Tw1.out.all hb2)
                    have Xw2 := Lib.hid (Xw1.out.all hb2)
                    have Ow2 := Lib.hid (Ow1.out.below hb2)
                    have Uw2 : Hid (Below w.heap.size w w2) := up Uw1.out hb2
                    have Qw2 := Lib.hid (OpV.all Qw1.out hb2)
                    clear Rw1 Tw1 Xw1 Ow1 Uw1 Qw1 hb2
                    simp only [trV]
                    obtain ⟨g', c', hv, -, -, hcs, hfz⟩ := Ow2.out.form (by rw [mpx_len, HN.out]; omega)
                    rw [mpx_len, HN.out] at hv
                    cases hv
                    obtain ⟨g0, g1, g2⟩ := hcs j (by rw [mpx_len]; exact HJ.out)
                    rw [mpx_at ix L j HJ.out, HY.out] at g0 g1 g2
                    simp only at g0 g1 g2
                    clear hcs
                    obtain ⟨x0, x1⟩ := Xw2.out.cells
                    obtain ⟨o0, o1, o2, o3⟩ := OpV.cells Qw2.out
                    simp only at o0 o1 o2
                    have OO5 : Hid (OwnT (w2.setCell ⟨g, j * 3 + 1, none⟩ (.int .i64 ix)) w.heap.size (.slice (some ⟨g, 0, none⟩) n cap3) (mpx ix L (j + 1))) := by
                      show OwnT _ _ _ _
                      rw [mpx_succ ix L j HJ.out, HY.out, HZ.out]
                      exact OwnT.put Ow2.out (by rw [mpx_len]; exact HN.out) (by rw [List.length_set, mpx_len]; exact HN.out) (j * 3 + 1) _ (cells_setm _ j (4, 2, 0) ix (by rw [mpx_len]; exact HJ.out) (by rw [mpx_at ix L j HJ.out]; exact HY.out))
                    have XX5 := Lib.hid (Xw2.out.other GG.out.2.1.symm (j * 3 + 1) (.int .i64 ix))
                    have TT5 := Lib.hid (Tw2.out.other GG.out.2.2.1.symm (j * 3 + 1) (.int .i64 ix))
                    have RR5 := Lib.hid (Rw2.out.oth GG.out.2.2.2.symm (j * 3 + 1) (.int .i64 ix))
                    have UU5 := Lib.hid (Uw2.out.setCell (p := ⟨g, j * 3 + 1, none⟩) GG.out.1 (.int .i64 ix))
                    have QQ5 := Lib.hid (Qw2.out.oth GQ.out.symm (j * 3 + 1) (.int .i64 ix))
                    go_upto_region 21 with fail
                    obtain ⟨w5, hw5⟩ : ∃ w5, (w2.setCell ⟨g, j * 3 + 1, none⟩ (.int .i64 ix)) = w5 := ⟨_, rfl⟩
                    rw [hw5] at OO5 XX5 TT5 RR5 UU5 QQ5 ⊢
                    clear hw5 g0 g1 g2 hfz x0 x1 o0 o1 o2 Rw2 Tw2 Xw2 Ow2 Uw2 Qw2
                    obtain ⟨g', c', hv, -, -, hcs, -⟩ := OO5.out.form (by rw [mpx_len, HN.out]; omega)
                    rw [mpx_len, HN.out] at hv
                    cases hv
                    obtain ⟨g0, g1, g2⟩ := hcs j (by rw [mpx_len]; exact HJ.out)
                    rw [mpx_at2 ix L j HJ.out, HY.out, HZ.out] at g0 g1 g2
                    simp only at g0 g1 g2
                    obtain ⟨x0, x1⟩ := XX5.out.cells
                    obtain ⟨o0, o1, o2, o3⟩ := OpV.cells QQ5.out
                    simp only at o0 o1 o2
                    have hneq : ∀ w, (binOp .neq 69 (.agg #[.int .i64 4, .int .i64 ix, .int .i64 0]) (.agg #[.int .i64 4, .int .i64 2, .int .i64 0])).run Tryz.prog w = .ok (.bool (!decide (((4 : Int), (ix : Int), (0 : Int)) = (4, 2, 0)))) w := fun w => opd_neq (4, ix, 0) (4, 2, 0) w
                    obtain ⟨d, hd⟩ : ∃ d, (!decide (((4 : Int), (ix : Int), (0 : Int)) = (4, 2, 0))) = d := ⟨_, rfl⟩
                    rw [hd] at hneq ANY
                    clear hcs hd
                    have hlt2 := hlt
                    have ANY := Lib.hid ANY
                    cases ch
                    · have AN : Hid (anyX ix (L.take (j + 1)) = d) := ANY.out
                      go_wp2
                      go_quiet (fail)
                      go_wp2
                      go_roundw
                      case rel => exact ⟨j + 1, by omega, by go_num, by rw [AN.out], RR5.out.all (below_drewN _ _ _), TT5.out.all (below_drewN _ _ _), XX5.out.all (below_drewN _ _ _), OO5.out.below (below_drewN _ _ _), UU5.out.trans (below_drewN _ _ _)⟩
                      case measure => simp [intOf]; omega
                    · have AN : Hid (anyX ix (L.take (j + 1)) = true) := ANY.out
                      go_wp2
                      go_quiet (fail)
                      go_wp2
                      go_roundw
                      case rel => exact ⟨j + 1, by omega, by go_num, by rw [AN.out], RR5.out.all (below_drewN _ _ _), TT5.out.all (below_drewN _ _ _), XX5.out.all (below_drewN _ _ _), OO5.out.below (below_drewN _ _ _), UU5.out.trans (below_drewN _ _ _)⟩
                      case measure => simp [intOf]; omega
                  · skip
                    have OPX : Hid (opX ix (y0, y1, y2) = (y0, y1, y2)) := opX_no h1 h2 h3 h4
                    have f1 := tr_eql_no h1
                    have f2 := tr_eql_no h2
                    have f3 := tr_eql_no h3
                    have f4 := tr_eql_no h4
                    simp only at f1 f2 f3 f4
                    clear h1 h2 h3 h4
                    have HZ : Hid (opX ix (y0, y1, y2) = (y0, y1, y2)) := OPX.out
                    rw [HZ.out] at ANY
                    go_wp2_with fail
                    refine (rind_any 2 w1).mono ?_
                    rintro e w2 ⟨rfl, hb2⟩
                    clear g0 g1 g2 hfz x0 x1 o0 o1 o2
                    have Rw2 := Lib.hid (Rw1.out.all hb2)
                    have Tw2 := Lib.hid (Tw1.out.all hb2)
                    have Xw2 := Lib.hid (Xw1.out.all hb2)
                    have Ow2 := Lib.hid (Ow1.out.below hb2)
                    have Uw2 : Hid (Below w.heap.size w w2) := up Uw1.out hb2
                    have Qw2 := Lib.hid (OpV.all Qw1.out hb2)
                    clear Rw1 Tw1 Xw1 Ow1 Uw1 Qw1 hb2
                    simp only [trV]
                    obtain ⟨g', c', hv, -, -, hcs, hfz⟩ := Ow2.out.form (by rw [mpx_len, HN.out]; omega)
                    rw [mpx_len, HN.out] at hv
                    cases hv
                    obtain ⟨g0, g1, g2⟩ := hcs j (by rw [mpx_len]; exact HJ.out)
                    rw [mpx_at ix L j HJ.out, HY.out] at g0 g1 g2
                    simp only at g0 g1 g2
                    clear hcs
                    obtain ⟨x0, x1⟩ := Xw2.out.cells
                    obtain ⟨o0, o1, o2, o3⟩ := OpV.cells Qw2.out
                    simp only at o0 o1 o2
                    have OO5 := Ow2
                    rw [show mpx ix L j = mpx ix L (j + 1) from mpx_same HJ.out (by rw [HY.out]; exact HZ.out)] at OO5
                    have XX5 := Xw2
                    have TT5 := Tw2
                    have RR5 := Rw2
                    have UU5 := Uw2
                    have QQ5 := Qw2
                    go_upto_region 21 with fail
                    obtain ⟨w5, hw5⟩ : ∃ w5, w2 = w5 := ⟨_, rfl⟩
                    rw [hw5] at OO5 XX5 TT5 RR5 UU5 QQ5 ⊢
                    clear hw5 g0 g1 g2 hfz x0 x1 o0 o1 o2 Rw2 Tw2 Xw2 Ow2 Uw2 Qw2
                    obtain ⟨g', c', hv, -, -, hcs, -⟩ := OO5.out.form (by rw [mpx_len, HN.out]; omega)
                    rw [mpx_len, HN.out] at hv
                    cases hv
                    obtain ⟨g0, g1, g2⟩ := hcs j (by rw [mpx_len]; exact HJ.out)
                    rw [mpx_at2 ix L j HJ.out, HY.out, HZ.out] at g0 g1 g2
                    simp only at g0 g1 g2
                    obtain ⟨x0, x1⟩ := XX5.out.cells
                    obtain ⟨o0, o1, o2, o3⟩ := OpV.cells QQ5.out
                    simp only at o0 o1 o2
                    have hneq : ∀ w, (binOp .neq 69 (.agg #[.int .i64 y0, .int .i64 y1, .int .i64 y2]) (.agg #[.int .i64 y0, .int .i64 y1, .int .i64 y2])).run Tryz.prog w = .ok (.bool false) w := fun w => by
                      have e := opd_neq (y0, y1, y2) (y0, y1, y2) w
                      rw [decide_eq_true rfl] at e
                      exact e
                    obtain ⟨d, hd⟩ : ∃ d, false = d := ⟨_, rfl⟩
                    have ANY : anyX ix (L.take (j + 1)) = (ch || d) := by rw [← hd]; simpa using ANY
                    rw [hd] at hneq
                    clear hcs hd
                    have hlt2 := hlt
                    have ANY := Lib.hid ANY
                    cases ch
                    · have AN : Hid (anyX ix (L.take (j + 1)) = d) := ANY.out
                      go_wp2
                      go_quiet (fail)
                      go_wp2
                      go_roundw
                      case rel => exact ⟨j + 1, by omega, by go_num, by rw [AN.out], RR5.out.all (below_drewN _ _ _), TT5.out.all (below_drewN _ _ _), XX5.out.all (below_drewN _ _ _), OO5.out.below (below_drewN _ _ _), UU5.out.trans (below_drewN _ _ _)⟩
                      case measure => simp [intOf]; omega
                    · have AN : Hid (anyX ix (L.take (j + 1)) = true) := ANY.out
                      go_wp2
                      go_quiet (fail)
                      go_wp2
                      go_roundw
                      case rel => exact ⟨j + 1, by omega, by go_num, by rw [AN.out], RR5.out.all (below_drewN _ _ _), TT5.out.all (below_drewN _ _ _), XX5.out.all (below_drewN _ _ _), OO5.out.below (below_drewN _ _ _), UU5.out.trans (below_drewN _ _ _)⟩
                      case measure => simp [intOf]; omega
          · obtain rfl : n = j := by omega
            have ALL : Hid (anyX ix (L.take n) = anyX ix L) := by show _ = _; rw [← HN.out, List.take_length]
            have Owr2 : Hid (OwnT wr w.heap.size (.slice A3 n cap3) (L.map (opX ix))) := by
              have h := Owr.out
              rw [← HN.out, mpx_all] at h
              rw [← HN.out]
              exact h
            clear Owr
            have Owr := Owr2
            clear Owr2
            rw [ALL.out]
            obtain ⟨ch, hch⟩ : ∃ c, anyX ix L = c := ⟨_, rfl⟩
            rw [hch]
            have HCH := Lib.hid hch
            clear hch
            obtain ⟨t0, t1⟩ := Twr.out.cells
            obtain ⟨x0, x1⟩ := Xwr.out.cells
            cases ch
            · have IT : Hid (ixT m L ex ix = ([], [], [])) := ixT_c MB.out (.inl HCH.out)
              go_wp2
              go_quiet (fail)
              obtain ⟨w1, hw1⟩ : ∃ v, wr.drewN nq = v := ⟨_, rfl⟩
              have hbw1 : Below wr.heap.size wr w1 := by rw [← hw1]; exact below_drewN _ _ _
              have Rw1 := Lib.hid (Rwr.out.all hbw1)
              have Tw1 := Lib.hid (Twr.out.all hbw1)
              have Xw1 := Lib.hid (Xwr.out.all hbw1)
              have Ow1 := Lib.hid (Owr.out.below hbw1)
              have Uw1 : Hid (Below w.heap.size w w1) := up Uwr.out hbw1
              clear Rwr Twr Xwr Owr Uwr hbw1
              rw [hw1]
              clear hw1 t0 t1 x0 x1
              obtain ⟨z0, z1, z2, z3⟩ := Rw1.out.cells
              go_wp2
              obtain ⟨wz, hwz, q1, q2, q3⟩ := ri_put Rw1.out ⟨#[]⟩ (.slice none 0 0)
              rw [hwz]
              obtain ⟨s0, s1⟩ := q1.cells
              refine bodyPost_ret (v := .tuple #[.agg #[.string ⟨#[]⟩, .slice none 0 0], .string ⟨#[]⟩]) ?_ rfl ?_
              · simp [results, Tryz.results31, go_sem, s0, s1]
              · rw [IT.out]
                exact ⟨_, rfl, World.ownsRow_nil _ _ _ _, Uw1.out.trans (q2.mono (by have := HB.out; omega))⟩
            · go_upto_region 22 with fail
              obtain ⟨w1, hw1⟩ : ∃ v, wr.drew = v := ⟨_, rfl⟩
              have hbw1 : Below wr.heap.size wr w1 := by rw [← hw1]; exact below_drewN _ _ 1
              have Rw1 := Lib.hid (Rwr.out.all hbw1)
              have Tw1 := Lib.hid (Twr.out.all hbw1)
              have Xw1 := Lib.hid (Xwr.out.all hbw1)
              have Ow1 := Lib.hid (Owr.out.below hbw1)
              have Uw1 : Hid (Below w.heap.size w w1) := up Uwr.out hbw1
              clear Rwr Twr Xwr Owr Uwr hbw1
              have K1 := Lib.hid Tw1.out.cells
              refine Mixed.wp_region_mixed (fun w' => w'.cell? ⟨b, 0, none⟩ = some (.string (sB m)) ∧ w'.cell? ⟨b, 1, none⟩ = some (.slice A n cap)) 9 [(0, true), (1, true), (2, true), (3, true), (4, false), (5, false), (6, false), (7, false), (8, false)] (by kernel_rfl) (by kernel_rfl) (by rw [hw1]; exact K1.out) ?_
              rw [hw1]
              clear hw1 K1 t0 t1 x0 x1
              refine Mixed.wpMix_move rfl (by kernel_rfl) _ rfl (.bool true) rfl ?_
              refine Mixed.wpMix_pure rfl (by kernel_rfl) (.bool false) (fun w h => by go_simp; try rfl) ?_
              refine Mixed.wpMix_move rfl (by kernel_rfl) _ rfl (.bool false) rfl ?_
              refine Mixed.wpMix_pure rfl (by kernel_rfl) (.agg #[.string (sB m), .slice A n cap]) (fun w h => by obtain ⟨h1, h2⟩ := h; go_simp; try rfl) ?_
              refine Mixed.wpMix_loudG rfl (by kernel_rfl) ?_
              go_wp2_with fail
              refine (rrp_any 1 3 w1).mono ?_
              rintro e w2 ⟨rfl, hbw2⟩
              have Rw2 := Lib.hid (Rw1.out.all hbw2)
              have Tw2 := Lib.hid (Tw1.out.all hbw2)
              have Xw2 := Lib.hid (Xw1.out.all hbw2)
              have Ow2 := Lib.hid (Ow1.out.below hbw2)
              have Uw2 : Hid (Below w.heap.size w w2) := up Uw1.out hbw2
              clear Rw1 Tw1 Xw1 Ow1 Uw1 hbw2
              simp only [trV, rpT, show ¬ ((1 : Int) = 3) by decide, show ¬ ((2 : Int) = 3) by decide, if_false]
              have xx := Tw2.out.cells
              go_wp2
              refine ⟨xx, ?_⟩
              clear xx
              refine Mixed.wpMix_loudG rfl (by kernel_rfl) ?_
              go_wp2_with fail
              refine (rrp_any 2 3 w2).mono ?_
              rintro e w3 ⟨rfl, hbw3⟩
              have Rw3 := Lib.hid (Rw2.out.all hbw3)
              have Tw3 := Lib.hid (Tw2.out.all hbw3)
              have Xw3 := Lib.hid (Xw2.out.all hbw3)
              have Ow3 := Lib.hid (Ow2.out.below hbw3)
              have Uw3 : Hid (Below w.heap.size w w3) := up Uw2.out hbw3
              clear Rw2 Tw2 Xw2 Ow2 Uw2 hbw3
              simp only [trV, rpT, show ¬ ((1 : Int) = 3) by decide, show ¬ ((2 : Int) = 3) by decide, if_false]
              have xx := Tw3.out.cells
              go_wp2
              refine ⟨xx, ?_⟩
              clear xx
              refine Mixed.wpMix_loudG rfl (by kernel_rfl) ?_
              go_wp2_with fail
              refine (rtwo_any (3, 1, 0) (3, 2, 0) w3).mono ?_
              rintro e w4 ⟨v, rfl, hO, hbw4⟩
              obtain ⟨A5, cap5, rfl, hP5, -⟩ := hO.ops
              have P4 := Lib.hid hP5
              clear hO hP5
              have Rw4 := Lib.hid (Rw3.out.all hbw4)
              have Tw4 := Lib.hid (Tw3.out.all hbw4)
              have Xw4 := Lib.hid (Xw3.out.all hbw4)
              have Ow4 := Lib.hid (Ow3.out.below hbw4)
              have Uw4 : Hid (Below w.heap.size w w4) := up Uw3.out hbw4
              clear Rw3 Tw3 Xw3 Ow3 Uw3 hbw4
              have xx := Tw4.out.cells
              go_wp2
              refine ⟨xx, ?_⟩
              clear xx
              refine Mixed.wpMix_loudG rfl (by kernel_rfl) ?_
              go_wp2_with fail
              refine (rins_any ⟨#[69, 88]⟩ A5 2 cap5 w4).mono ?_
              rintro e w6 ⟨rfl, hbw6⟩
              have P6 := Lib.hid (P4.out.below hbw6)
              clear P4
              have Rw6 := Lib.hid (Rw4.out.all hbw6)
              have Tw6 := Lib.hid (Tw4.out.all hbw6)
              have Xw6 := Lib.hid (Xw4.out.all hbw6)
              have Ow6 := Lib.hid (Ow4.out.below hbw6)
              have Uw6 : Hid (Below w.heap.size w w6) := up Uw4.out hbw6
              clear Rw4 Tw4 Xw4 Ow4 Uw4 hbw6
              have xx := Tw6.out.cells
              go_wp2
              refine ⟨xx, ?_⟩
              clear xx
              obtain ⟨sd, hsd⟩ : ∃ sd, (decide (m = [69, 88]) && decide (L = [(3, 1, 0), (3, 2, 0)])) = sd := ⟨_, rfl⟩
              have HSD := Lib.hid hsd
              have SM := rsame_any m [69, 88] A A5 cap cap5 L [(3, 1, 0), (3, 2, 0)] (by rw [HN.out]; omega) (by simp) w6 (PW.out.below Uw6.out) P6.out
              rw [HN.out, hsd] at SM
              have SM := Lib.hid SM
              clear hsd
              refine Mixed.wpMix_loudG rfl (by kernel_rfl) ?_
              go_wp2_with fail
              refine SM.out.mono ?_
              rintro e w7 ⟨rfl, hbw7⟩
              have Rw7 := Lib.hid (Rw6.out.all hbw7)
              have Tw7 := Lib.hid (Tw6.out.all hbw7)
              have Xw7 := Lib.hid (Xw6.out.all hbw7)
              have Ow7 := Lib.hid (Ow6.out.below hbw7)
              have Uw7 : Hid (Below w.heap.size w w7) := up Uw6.out hbw7
              clear Rw6 Tw6 Xw6 Ow6 Uw6 hbw7
              clear SM P6
              have xx := Tw7.out.cells
              go_wp2
              refine ⟨xx, ?_⟩
              clear xx
              simp only [Mixed.wpMix, List.drop_succ_cons, List.drop_zero]
              cases sd
              · have IT : Hid (ixT m L ex ix = (m, L.map (opX ix), ex)) := ixT_b MB.out HCH.out HSD.out
                obtain ⟨z0, z1, z2, z3⟩ := Rw7.out.cells
                obtain ⟨x0, x1⟩ := Xw7.out.cells
                go_wp2
                obtain ⟨wz, hwz, q1, q2, q3⟩ := ri_put Rw7.out (sB m) (.slice A3 n cap3)
                rw [hwz]
                obtain ⟨s0, s1⟩ := q1.cells
                refine bodyPost_ret (v := .tuple #[.agg #[.string (sB m), .slice A3 n cap3], .string (sB ex)]) ?_ rfl ?_
                · simp [results, Tryz.results31, go_sem, s0, s1]
                · rw [IT.out]
                  exact ⟨_, rfl, own_put Rw7.out Ow7.out q3, Uw7.out.trans (q2.mono (by have := HB.out; omega))⟩
              · have IT : Hid (ixT m L ex ix = ([], [], [])) := ixT_c MB.out (.inr HSD.out)
                obtain ⟨z0, z1, z2, z3⟩ := Rw7.out.cells
                go_wp2
                obtain ⟨wz, hwz, q1, q2, q3⟩ := ri_put Rw7.out ⟨#[]⟩ (.slice none 0 0)
                rw [hwz]
                obtain ⟨s0, s1⟩ := q1.cells
                refine bodyPost_ret (v := .tuple #[.agg #[.string ⟨#[]⟩, .slice none 0 0], .string ⟨#[]⟩]) ?_ rfl ?_
                · simp [results, Tryz.results31, go_sem, s0, s1]
                · rw [IT.out]
                  exact ⟨_, rfl, World.ownsRow_nil _ _ _ _, Uw7.out.trans (q2.mono (by have := HB.out; omega))⟩
end Go.Proofs.YtipgecdfnbldnaaGreatDoor
