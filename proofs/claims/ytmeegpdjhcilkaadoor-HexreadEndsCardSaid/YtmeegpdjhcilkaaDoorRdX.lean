/-
  The walk over hexread.Read: for every text, the image or the fault.
-/
import Derived.Test.YtmeegpdjhcilkaaDoorRdW
import Derived.Test.YtmeegpdjhcilkaaDoorHexAllD
namespace Go.Proofs.YtmeegpdjhcilkaaDoor
open Go.RowKit Go.Shelf
set_option linter.unusedVariables false
attribute [local go_sem] Oper.semAt_some

/-- A block of two cells. -/
def Two (w : World) (b : Nat) (t : TypeId) (x y : Value) : Prop := w.heap[b]? = some (.cells #[x, y] t (0, 0))
theorem Two.lt {w : World} {b : Nat} {t : TypeId} {x y : Value} (h : Two w b t x y) : b < w.heap.size := (Array.getElem?_eq_some_iff.1 h).1
theorem Two.c0 {w : World} {b : Nat} {t : TypeId} {x y : Value} (h : Two w b t x y) : w.cell? ⟨b, 0, none⟩ = some x := by rw [Lib.cell_of_heap h]; rfl
theorem Two.c1 {w : World} {b : Nat} {t : TypeId} {x y : Value} (h : Two w b t x y) : w.cell? ⟨b, 1, none⟩ = some y := by rw [Lib.cell_of_heap h]; rfl
theorem Two.f {w : World} {b : Nat} {t : TypeId} {x y : Value} (h : Two w b t x y) (i : Nat) : w.frozen? ⟨b, i, none⟩ = false := Lib.frozen_of_heap h i
theorem Two.kept {w w' : World} {b : Nat} {t : TypeId} {x y : Value} {row : Option Nat} (h : Two w b t x y) (hg : w.grownBy w' row) (hn : some b ≠ row) : Two w' b t x y := (hg.block b h.lt hn).trans h
theorem Two.keptP {P : Nat → Prop} {w w' : World} {b : Nat} {t : TypeId} {x y : Value} (h : Two w b t x y) (k : KeptP P w w') (hP : P b) : Two w' b t x y := (k.block b h.lt hP).trans h
theorem Two.set {w : World} {b : Nat} {t : TypeId} {x y : Value} (h : Two w b t x y) (x' y' : Value) : Two ((w.setCell ⟨b, 0, none⟩ x').setCell ⟨b, 1, none⟩ y') b t x' y' :=
  heap_setCell_same _ b 1 _ _ _ (heap_setCell_same w b 0 _ _ _ h)
theorem boxed_keptP {P : Nat → Prop} {w w' : World} {b : Nat} {t : TypeId} {x : Value} (h : Boxed w b t x) (k : KeptP P w w') (hP : P b) : Boxed w' b t x := (k.block b h.lt hP).trans h
/-- What Read returns. -/
def RetRead (w : World) (r : List Im.Cel × Int × Int) (e : Ending) (w' : World) : Prop :=
  (r.2.2 = 0 → ∃ b, e = .returned (.tuple #[.pointer (some ⟨b, 0, none⟩), .agg #[.int .i64 0, .int .i64 0]]) ∧ w.heap.size ≤ b ∧ Im.ImgOf w' b r.1) ∧
  (r.2.2 ≠ 0 → e = .returned (.tuple #[.pointer none, .agg #[.int .i64 r.2.1, .int .i64 r.2.2]])) ∧ Below w.heap.size w w'
/-- Between two rounds: what the lines that have come make of the image. -/
def RI (W0 : World) (b n : Nat) (ls pre : List (List UInt8)) (W : World) : Prop :=
  ∃ V e, readL 0 [] false ls = readL pre.length V e (ls.drop pre.length) ∧ Im.ImgOf W b V ∧ RdAt W n b e ∧ Boxed W (n + 1 + 1) 3 (.int .i64 (pre.length : Int)) ∧ KeptP (fun i => i < n + 6 ∧ i ≠ b ∧ i ≠ n ∧ i ≠ n + 1 + 1 ∧ i ≠ n + 1 + 1 + 1) W0 W
/-- A round has returned. -/
def RX (w : World) (N : Nat) (ls pre : List (List UInt8)) (W : World) : Prop :=
  ∃ line code : Int, readL 0 [] false ls = ([], line, code) ∧ code ≠ 0 ∧ Boxed W N 23 (.pointer none) ∧ Two W (N + 1) 31 (.int .i64 line) (.int .i64 code) ∧ KeptP (fun i => i < N) w W
theorem RI.grown {W0 X Y : World} {b n : Nat} {ls pre : List (List UInt8)} {row : Option Nat} (h : RI W0 b n ls pre X) (hbn : b < n) (hg : X.grownBy Y row) (hr : ∀ r, row = some r → n + 6 ≤ r ∨ r = n + 1 + 1 + 1) : RI W0 b n ls pre Y := by
  obtain ⟨V, e, h1, h2, h3, h4, h5⟩ := h
  have q : ∀ k, k < n + 6 → k ≠ n + 1 + 1 + 1 → some k ≠ row := fun k hk hk2 e => by
    rcases hr k e.symm with h | h <;> omega
  refine ⟨V, e, h1, ⟨h2.1, World.rowIs.of_block h2.2 (hg.block b h2.lt (q b (by omega) (by omega)))⟩, (hg.block n h3.lt (q n (by omega) (by omega))).trans h3, h4.kept hg (q _ (by omega) (by omega)), h5.grown hg fun k hk hq => q k hq.1 hq.2.2.2.2 hk.symm⟩
theorem RX.grown {w X Y : World} {N n : Nat} {ls pre : List (List UInt8)} {row : Option Nat} (h : RX w N ls pre X) (hN : N + 1 < n) (hg : X.grownBy Y row) (hr : ∀ r, row = some r → n + 6 ≤ r) : RX w N ls pre Y := by
  obtain ⟨line, code, h1, h2, h3, h4, h5⟩ := h
  have q : ∀ k, k < n + 6 → some k ≠ row := fun k hk e => by have := hr k e.symm; omega
  exact ⟨line, code, h1, h2, h3.kept hg (q _ (by omega)), h4.kept hg (q _ (by omega)), h5.grown hg fun k hk hq => q k (by omega) hk.symm⟩
/-- The two results have been stored. -/
theorem two_stored {W : World} {N : Nat} {t t2 : TypeId} {v x y : Value} (p3 : Boxed W N t v) (p4 : Two W (N + 1) t2 x y) (p l c : Value) :
    ∃ Wf, ((W.setCell ⟨N, 0, none⟩ p).setCell ⟨N + 1, 0, none⟩ l).setCell ⟨N + 1, 1, none⟩ c = Wf ∧ Boxed Wf N t p ∧ Two Wf (N + 1) t2 l c ∧ (∀ B, KeepsFrom B W Wf) ∧ KeptP (fun i => i ≠ N ∧ i ≠ N + 1) W Wf := by
  have k1 : Two (W.setCell ⟨N, 0, none⟩ p) (N + 1) t2 x y := p4.kept (grownBy_setCell' W N p) (by simp)
  have k2 : Boxed (W.setCell ⟨N, 0, none⟩ p) N t p := p3.set p
  refine ⟨_, rfl, (k2.kept (grownBy_setCell' _ (N + 1) l) (by simp)).kept (row := some (N + 1)) ?_ (by simp), k1.set l c, fun B => (((KeepsOthers.setCell _ _ _).trans (KeepsOthers.setCell _ _ _)).trans (KeepsOthers.setCell _ _ _)).from B, (((KeptP.refl _ _).setCell (by simp) _).setCell (by simp) _).setCell (by simp) _⟩
  exact ⟨rfl, rfl, rfl, (KeepsWalks.setCell _ _ _).size, fun k _ hk => Below.heap_setCell _ _ _ k (fun e => hk (by rw [e]))⟩
theorem keepsFrom_kept {P : Nat → Prop} {B : Nat} {w w' : World} (k : KeptP P w w') (h : ∀ i, B ≤ i → P i) : KeepsFrom B w w' := ⟨k.size, fun i o hB hi _ => (k.block i (Array.getElem?_eq_some_iff.1 hi).1 (h i hB)).trans hi⟩
set_option maxRecDepth 100000 in
set_option maxHeartbeats 8000000 in
theorem hread_any (x : List UInt8) (hx : x.length ≤ 40000000) (w : World) :
    Calls Tryd.prog 10 #[.string (strOf x)] w (RetRead w (readT x)) := by
  refine callsIn_wide.1 (callsIn_of_wp_marks (n := 3) Tryd.func10 rfl trivial ?_ rfl)
  simp only [Tryd.ntmps10, List.size_toArray, List.length_cons, List.length_nil, Nat.reduceAdd, Nat.reduceSub, Array.replicate_succ, Array.replicate_zero, List.push_toArray, List.append_toArray, List.nil_append, List.cons_append]
  refine wpIn_wide.2 ?_
  go_wp2_with fail
  refine (Im.newOf_any _).mono ?_
  rintro e w1 ⟨b, rfl, hb, hI, hB⟩
  have z0 : ((w.alloc (.cells #[.pointer none] 23)).alloc (.cells #[.int .i64 0, .int .i64 0] 31)).heap.size = w.heap.size + 1 + 1 := by simp
  have p0 : Boxed ((w.alloc (.cells #[.pointer none] 23)).alloc (.cells #[.int .i64 0, .int .i64 0] 31)) w.heap.size 23 (.pointer none) := (Boxed.new w 23 (.pointer none)).alloc _
  have f0 : Two ((w.alloc (.cells #[.pointer none] 23)).alloc (.cells #[.int .i64 0, .int .i64 0] 31)) (w.heap.size + 1) 31 (.int .i64 0) (.int .i64 0) := by
    have h := World.alloc_heap_new (w.alloc (.cells #[.pointer none] 23)) (.cells #[.int .i64 0, .int .i64 0] 31)
    rw [World.size_alloc] at h
    exact h
  have b0 : Below w.heap.size w ((w.alloc (.cells #[.pointer none] 23)).alloc (.cells #[.int .i64 0, .int .i64 0] 31)) := ((Below.refl _ _).alloc (Nat.le_refl _) _).alloc (by simp) _
  have p1 : Boxed w1 w.heap.size 23 (.pointer none) := (hB.block _ p0.lt).trans p0
  have f1 : Two w1 (w.heap.size + 1) 31 (.int .i64 0) (.int .i64 0) := (hB.block _ f0.lt).trans f0
  have b1 : Below w.heap.size w w1 := b0.trans (hB.mono (by rw [z0]; omega))
  have hbN : w.heap.size + 1 < b := by rw [z0] at hb; omega
  have hbn : b < w1.heap.size := hI.lt
  go_wp2_with fail
  obtain ⟨wd, hwd⟩ : ∃ wd, (((w1.alloc (.cells #[.pointer (some ⟨b, 0, none⟩), .bool false] 68)).alloc (.cells #[.pointer (some ⟨w1.heap.size, 0, none⟩)] 66)).alloc (.cells #[.int .i64 0] 3)) = wd := ⟨_, rfl⟩
  have dz : wd.heap.size = w1.heap.size + 1 + 1 + 1 := by rw [← hwd]; simp
  have d1 : Below w1.heap.size w1 wd := by rw [← hwd]; exact (((Below.refl _ _).alloc (Nat.le_refl _) _).alloc (by simp) _).alloc (by simp; omega) _
  have dR : RdAt wd w1.heap.size b false := by
    rw [← hwd]
    have h : RdAt (w1.alloc (.cells #[.pointer (some ⟨b, 0, none⟩), .bool false] 68)) w1.heap.size b false := World.alloc_heap_new w1 _
    exact (h.below ((Below.refl _ _).alloc (Nat.le_refl _) _)).below ((Below.refl _ _).alloc (Nat.le_refl _) _)
  have dr : Boxed wd (w1.heap.size + 1) 66 (.pointer (some ⟨w1.heap.size, 0, none⟩)) := by
    have h := Boxed.new (w1.alloc (.cells #[.pointer (some ⟨b, 0, none⟩), .bool false] 68)) 66 (.pointer (some ⟨w1.heap.size, 0, none⟩))
    rw [World.size_alloc] at h
    rw [← hwd]
    exact h.alloc _
  have dn : Boxed wd (w1.heap.size + 1 + 1) 3 (.int .i64 0) := by
    have h := Boxed.new ((w1.alloc (.cells #[.pointer (some ⟨b, 0, none⟩), .bool false] 68)).alloc (.cells #[.pointer (some ⟨w1.heap.size, 0, none⟩)] 66)) 3 (.int .i64 0)
    rw [World.size_alloc, World.size_alloc] at h
    rw [← hwd]
    exact h
  rw [hwd]
  clear hwd
  obtain ⟨n, hn⟩ : ∃ n, w1.heap.size = n := ⟨_, rfl⟩
  rw [hn] at hbn dz d1 dR dr dn ⊢
  refine (splitSeq_any (strOf x) ⟨#[10]⟩ wd (n + 1 + 1 + 1) dz).mono ?_
  rintro e W0 ⟨rfl, hW0⟩
  have bs := ((Boxed.new wd 9 (.string (strOf x))).alloc (.cells #[.string ⟨#[10]⟩] 9)).alloc (.cells #[.int .i64 0] 3)
  have bp := (Boxed.new (wd.alloc (.cells #[.string (strOf x)] 9)) 9 (.string ⟨#[10]⟩)).alloc (.cells #[.int .i64 0] 3)
  have bv := Boxed.new ((wd.alloc (.cells #[.string (strOf x)] 9)).alloc (.cells #[.string ⟨#[10]⟩] 9)) 3 (.int .i64 0)
  have e1 : Below wd.heap.size wd (((wd.alloc (.cells #[.string (strOf x)] 9)).alloc (.cells #[.string ⟨#[10]⟩] 9)).alloc (.cells #[.int .i64 0] 3)) := (((Below.refl _ _).alloc (Nat.le_refl _) _).alloc (by simp) _).alloc (by simp; omega) _
  rw [hW0] at bs bp bv e1
  rw [World.size_alloc] at bp bv
  rw [World.size_alloc] at bv
  rw [dz] at bs bp bv
  have Wz : W0.heap.size = n + 6 := by rw [← hW0]; simp; omega
  have P0 : Boxed W0 w.heap.size 23 (.pointer none) := (e1.block _ (by have := p1.lt; omega)).trans ((d1.block _ (by have := p1.lt; omega)).trans p1)
  have F0 : Two W0 (w.heap.size + 1) 31 (.int .i64 0) (.int .i64 0) := (e1.block _ (by have := f1.lt; omega)).trans ((d1.block _ (by have := f1.lt; omega)).trans f1)
  have I0 : Im.ImgOf W0 b [] := (hI.below (by rw [hn]; exact d1)).below e1
  have R0 : RdAt W0 n b false := dR.below e1
  have r0 : Boxed W0 (n + 1) 66 (.pointer (some ⟨n, 0, none⟩)) := (e1.block _ dr.lt).trans dr
  have n0 : Boxed W0 (n + 1 + 1) 3 (.int .i64 0) := (e1.block _ dn.lt).trans dn
  have B0 : Below w.heap.size w W0 := (b1.trans (d1.mono (by omega))).trans (e1.mono (by omega))
  have hS : RI W0 b n (linesOf x) [] W0 := ⟨[], false, rfl, I0, R0, n0, KeptP.refl _ _⟩
  obtain ⟨L, u, hls, hxe, hL, hu⟩ := lines_last x
  rw [hxe] at bs
  have hseq := splitSeq1_tells 2 (fun i => i < n + 6 ∧ i ≠ b ∧ i ≠ n ∧ i ≠ n + 1 + 1) (n + 1 + 1 + 1 + 1) (n + 1 + 1 + 1) (n + 1 + 1 + 1 + 1 + 1) (by omega) (by omega) (by omega) (by omega) (by omega) L u hL hu (by rw [← hxe]; exact hx) W0 bp bs bv
  rw [← hls] at hseq
  have XS := Lib.hid hx
  clear hb hI hB z0 p0 f0 b0 p1 f1 b1 d1 dR dr dn bs bp bv e1 hW0 hls hxe hL hu I0 R0 n0 dz hn
  obtain ⟨N, hN⟩ : ∃ N, w.heap.size = N := ⟨_, rfl⟩
  rw [hN] at P0 F0 hbN B0
  go_wp2_with fail
  refine wpIn_wide.1 (Stops.wpIn_tells (F := Fence.wide) (n := 3) rfl (by omega) (gf := 95) (lb := #[.pointer (some ⟨n + 1 + 1 + 1 + 1, 0, none⟩), .pointer (some ⟨n + 1 + 1 + 1, 0, none⟩), .pointer (some ⟨n + 1 + 1 + 1 + 1 + 1, 0, none⟩)]) rfl trivial (enters_of Tryd.func95 (by kernel_rfl) rfl)
    hseq (by omega) (fun h k => h.trans k) (fun W l o o' hl _ _ => KeptP.putObj W l o' (by omega)) (fun _ => rfl)
    (RI W0 b n (linesOf x)) (RX w N (linesOf x)) (fun s X Y row h hg hr => h.grown hbn hg fun r e => .inl (by have := (hr r e).1; omega)) (fun s X Y h hg => h.grown hbn hg fun r e => .inr (Option.some.inj e).symm) (fun s X Y row h hg hr => h.grown (n := n) (by omega) hg fun r e => (by have := (hr r e).1; omega)) hS
    (fun y => { tmps := #[.string (strOf x), undef, .pointer (some ⟨N, 0, none⟩), .pointer (some ⟨N + 1, 0, none⟩), .pointer (some ⟨n + 1, 0, none⟩), .pointer (some ⟨n + 1 + 1, 0, none⟩), .string (strOf y), undef, .pointer (some ⟨b, 0, none⟩), .agg #[.pointer (some ⟨b, 0, none⟩), .bool false], .pointer (some ⟨n, 0, none⟩), .string (strOf x), .func (.func 95) #[] #[.pointer (some ⟨n + 1 + 1 + 1 + 1, 0, none⟩), .pointer (some ⟨n + 1 + 1 + 1, 0, none⟩), .pointer (some ⟨n + 1 + 1 + 1 + 1 + 1, 0, none⟩)], .string (strOf y), undef, undef, undef, undef, undef, undef, undef, undef, undef, undef, undef, undef, undef, undef, undef, undef, undef, undef, undef, undef, undef, undef], defers := [] }) ?assign ?body ?done ?stop)
  case assign =>
    intro l y W K hK
    gi_wp2
    exact hK
  case stop =>
    rintro D pre W hD ⟨line, code, g1, g2, g3, g4, g5⟩ hK
    have hg := grownBy_putObj' W D (.deferred none)
    have hDn : n + 6 ≤ D := by omega
    have q3 := (g3.kept hg (by simp; omega)).cell
    have q4 := (g4.kept hg (by simp; omega)).c0
    have q5 := (g4.kept hg (by simp; omega)).c1
    have F : Hid (RetRead w (readT x) (.returned (.tuple #[.pointer none, .agg #[.int .i64 line, .int .i64 code]])) (W.putObj D (.deferred none))) := by
      show RetRead _ _ _ _
      unfold readT
      rw [g1]
      refine ⟨fun h => absurd h g2, fun _ => rfl, ?_⟩
      have h1 : Below w.heap.size w W := g5.below (fun i hi => by omega) (Nat.le_refl _)
      exact h1.trans (belowK_b (w := w) (Nat.le_refl _) W D _ _ (by omega) hK rfl rfl)
    have HK := Lib.hid hK
    obtain ⟨W', hW'⟩ : ∃ W', W.putObj D (.deferred none) = W' := ⟨_, rfl⟩
    rw [hW'] at q3 q4 q5 F
    clear g1 g2 g3 g4 g5 hg hK r0 P0 F0 B0 hS hseq
    gi_wp2
    refine ⟨by simp, .inl ⟨_, _, rfl, run_takeDeferred HK.out, ?_⟩⟩
    rw [hW']
    refine ⟨.tuple #[.pointer none, .agg #[.int .i64 line, .int .i64 code]], ?_, F.out⟩
    simp [results, Tryd.results10, go_sem, q3, q4, q5]
  case done =>
    rintro D ys W hD rfl ⟨V, en, g1, g2, g3, g4, g5⟩ hK
    rw [List.drop_length] at g1
    have hg := grownBy_putObj' W D (.deferred none)
    have hDn : n + 6 ≤ D := by omega
    have p3 : Boxed W N 23 (.pointer none) := boxed_keptP P0 g5 (by omega)
    have p4 : Two W (N + 1) 31 (.int .i64 0) (.int .i64 0) := F0.keptP g5 (by omega)
    have r3 : Boxed W (n + 1) 66 (.pointer (some ⟨n, 0, none⟩)) := boxed_keptP r0 g5 (by omega)
    have k5 : KeptP (fun i => i < N) w W := (KeptP.of_below B0 fun i _ h => h).trans (g5.mono fun i _ h => by omega)
    have c0 := r3.cell
    have c1 := g3.c0
    have c2 := g3.c1
    have c3 := p3.cell
    have c4 := p3.frozen
    have c5 := p4.c0
    have c6 := p4.f 0
    have c7 := p4.c1
    have c8 := p4.f 1
    have HK := Lib.hid hK
    have PP := Lib.hid (And.intro p3 p4)
    have GG := Lib.hid (And.intro g1 (And.intro g2 k5))
    have HD := Lib.hid hDn
    clear g1 g2 g3 g4 g5 hg hK r0 P0 F0 B0 hS hseq p3 p4 r3 k5 hD hDn
    cases en
    · have ZZ : Hid (readT x = ([], 0, 8)) := GG.out.1
      go_wp2
      obtain ⟨Wf, hWf, w3, w4, w5, w6⟩ := two_stored PP.out.1 PP.out.2 (.pointer none) (.int .i64 0) (.int .i64 8)
      rw [hWf]
      have hK2 : Wf.heap[D]? = some (.deferred (some [])) := (w5 0).same D _ (Nat.zero_le _) HK.out rfl
      have hg := grownBy_putObj' Wf D (.deferred none)
      have hDn := HD.out
      have q3 := (w3.kept hg (by simp; omega)).cell
      have q4 := (w4.kept hg (by simp; omega)).c0
      have q5 := (w4.kept hg (by simp; omega)).c1
      refine ⟨by simp, .inl ⟨_, _, rfl, run_takeDeferred hK2, ?_⟩⟩
      refine ⟨.tuple #[.pointer none, .agg #[.int .i64 0, .int .i64 8]], ?_, ?_⟩
      · simp [results, Tryd.results10, go_sem, q3, q4, q5]
      · rw [ZZ.out]
        refine ⟨fun h => absurd h (by decide), fun _ => rfl, ?_⟩
        have h1 : Below w.heap.size w Wf := (GG.out.2.2.trans (w6.mono fun i _ h => by omega)).below (fun i hi => by omega) (Nat.le_refl _)
        exact h1.trans (belowK_b (w := w) (Nat.le_refl _) Wf D _ _ (by omega) hK2 rfl rfl)
    · have ZZ : Hid (readT x = (V, 0, 0)) := GG.out.1
      go_wp2
      obtain ⟨Wf, hWf, w3, w4, w5, w6⟩ := two_stored PP.out.1 PP.out.2 (.pointer (some ⟨b, 0, none⟩)) (.int .i64 0) (.int .i64 0)
      rw [hWf]
      have hK2 : Wf.heap[D]? = some (.deferred (some [])) := (w5 0).same D _ (Nat.zero_le _) HK.out rfl
      have hg := grownBy_putObj' Wf D (.deferred none)
      have hDn := HD.out
      have q3 := (w3.kept hg (by simp; omega)).cell
      have q4 := (w4.kept hg (by simp; omega)).c0
      have q5 := (w4.kept hg (by simp; omega)).c1
      have i1 := img_kept GG.out.2.1 w6 ⟨by omega, by omega⟩
      refine ⟨by simp, .inl ⟨_, _, rfl, run_takeDeferred hK2, ?_⟩⟩
      refine ⟨.tuple #[.pointer (some ⟨b, 0, none⟩), .agg #[.int .i64 0, .int .i64 0]], ?_, ?_⟩
      · simp [results, Tryd.results10, go_sem, q3, q4, q5]
      · rw [ZZ.out]
        refine ⟨fun _ => ⟨b, rfl, by omega, ⟨i1.1, World.rowIs.of_block i1.2 (hg.block b i1.lt (by simp; omega))⟩⟩, fun h => absurd rfl h, ?_⟩
        have h1 : Below w.heap.size w Wf := (GG.out.2.2.trans (w6.mono fun i _ h => by omega)).below (fun i hi => by omega) (Nat.le_refl _)
        exact h1.trans (belowK_b (w := w) (Nat.le_refl _) Wf D _ _ (by omega) hK2 rfl rfl)
  case body =>
    rintro l pre y W ⟨V, en, g1, g2, g3, g4, g5⟩ ⟨t, ht⟩
    have hdrop : (linesOf x).drop pre.length = y :: t := by rw [← ht]; simp
    have hyl : y.length ≤ 40000000 := Nat.le_trans (lines_len y (by rw [← ht]; simp)) XS.out
    have hpl : pre.length ≤ 40000000 := by
      have h1 := linesOf_count x
      have h2 := List.count_le_length (a := (10 : UInt8)) (l := x)
      have h3 := XS.out
      rw [← ht] at h1
      simp at h1
      omega
    have hdrop2 : (linesOf x).drop (pre.length + 1) = t := by rw [← ht]; simp
    have hln : (pre ++ [y]).length = pre.length + 1 := by simp
    rw [hdrop] at g1
    have p3 : Boxed W N 23 (.pointer none) := boxed_keptP P0 g5 (by omega)
    have p4 : Two W (N + 1) 31 (.int .i64 0) (.int .i64 0) := F0.keptP g5 (by omega)
    have r3 : Boxed W (n + 1) 66 (.pointer (some ⟨n, 0, none⟩)) := boxed_keptP r0 g5 (by omega)
    have k5 : KeptP (fun i => i < N) w W := (KeptP.of_below B0 fun i _ h => h).trans (g5.mono fun i _ h => by omega)
    have cn := g4.cell
    have fn := g4.frozen
    obtain ⟨k, hk⟩ : ∃ k, pre.length = k := ⟨_, rfl⟩
    rw [hk] at g1 g4 hpl hdrop2 hln cn
    have hgW := grownBy_setCell' W (n + 1 + 1) (.int .i64 ((k : Int) + 1))
    obtain ⟨W1, hW1⟩ : ∃ W1, W.setCell ⟨n + 1 + 1, 0, none⟩ (.int .i64 ((k : Int) + 1)) = W1 := ⟨_, rfl⟩
    rw [hW1] at hgW
    have kW : KeptP (fun i => i ≠ n + 1 + 1) W W1.drew := ((KeptP.refl _ _).grown hgW fun j hj hq => hq (Option.some.inj hj).symm).drew
    have n1 : Boxed W1.drew (n + 1 + 1) 3 (.int .i64 ((k : Int) + 1)) := by
      have h : Boxed W1 (n + 1 + 1) 3 (.int .i64 ((k : Int) + 1)) := by rw [← hW1]; exact g4.set _
      exact h
    have r4 : Boxed W1.drew (n + 1) 66 (.pointer (some ⟨n, 0, none⟩)) := boxed_keptP r3 kW (by omega)
    have i4 := img_kept g2 kW (by omega)
    have R4 := g3.kept kW (by omega)
    have cr := r4.cell
    have hts := trimSuf_any y (by unfold maxLen; omega) W1.drew
    have hrd := readLn_any n b (by omega) V en y hyl W1.drew R4 i4
    rw [show lnS y = strOf (trimC y) from rfl] at hrd
    have KFW : KeepsFrom W0.heap.size W W1.drew := keepsFrom_kept kW fun i hi => by omega
    have GG := Lib.hid (And.intro g1 (And.intro g5 (And.intro p3 (And.intro p4 k5))))
    have KK := Lib.hid (And.intro kW (And.intro n1 (And.intro r4 KFW)))
    have HH := Lib.hid (And.intro hdrop2 hln)
    clear ht hdrop hyl hdrop2 hln g1 g2 g3 g4 g5 p3 p4 r3 k5 hgW kW n1 r4 i4 R4 KFW r0 P0 F0 B0 hS hseq hk
    gi_wp2_with fail
    refine Mixed.wpIn_region_mixed (fun w' => w'.cell? ⟨n + 1, 0, none⟩ = some (.pointer (some ⟨n, 0, none⟩))) 4 [(0, true), (1, true), (2, false), (3, false)] (by kernel_rfl) (fun ⟨_, _, h⟩ => h) (by kernel_rfl) (by kernel_rfl) cr ?_
    refine Mixed.wpMix_pure rfl rfl _ (fun w h => by go_simp; rfl) ?_
    refine Mixed.wpMix_move rfl rfl _ rfl _ rfl ?_
    refine Mixed.wpMix_loud rfl ?_
    go_wp2_with fail
    refine hts.mono ?_
    rintro e w' ⟨rfl, rfl⟩
    go_wp2
    refine ⟨cr, ?_⟩
    refine Mixed.wpMix_loud rfl ?_
    go_wp2_with fail
    refine hrd.mono ?_
    rintro e w3 ⟨rfl, hok, hkp⟩
    have q1 : Boxed w3 (n + 1) 66 (.pointer (some ⟨n, 0, none⟩)) := boxed_keptP KK.out.2.2.1 hkp (by omega)
    have q2 : Boxed w3 (n + 1 + 1) 3 (.int .i64 ((k : Int) + 1)) := boxed_keptP KK.out.2.1 hkp (by omega)
    have C3 := Lib.hid q1.cell
    have Q2 := Lib.hid q2
    have KP := Lib.hid hkp
    have OK := Lib.hid hok
    have KF3 : Hid (KeepsFrom W0.heap.size W w3) := KK.out.2.2.2.trans (keepsFrom_kept hkp fun i hi => by omega)
    clear hok hkp hrd hts cr q1 q2
    go_wp2
    refine ⟨C3.out, ?_⟩
    simp only [Mixed.wpMix, List.drop_succ_cons, List.drop_zero]
    by_cases hc : lnCode V en y = 0
    · obtain ⟨o1, o2⟩ := OK.out hc
      have F : Hid (KeepsFrom W0.heap.size W w3 ∧ KeptP (fun i => i < n + 6 ∧ i ≠ b ∧ i ≠ n ∧ i ≠ n + 1 + 1) W w3 ∧ RI W0 b n (linesOf x) (pre ++ [y]) w3) := by
        have kk : KeptP (fun i => i < n + 6 ∧ i ≠ b ∧ i ≠ n ∧ i ≠ n + 1 + 1) W w3 := (KK.out.1.mono fun i _ h => h.2.2.2).trans (KP.out.mono fun i _ h => ⟨h.2.1, h.2.2.1⟩)
        refine ⟨KF3.out, kk, lnV V y, lnE en y, ?_, o1, o2, ?_, GG.out.2.1.trans (kk.mono fun i _ h => ⟨h.1, h.2.1, h.2.2.1, h.2.2.2.1⟩)⟩
        · rw [HH.out.2, HH.out.1, GG.out.1, readL_go hc]
        · rw [HH.out.2]; exact Q2.out
      rw [hc]
      clear hc OK
      go_wp2
      gi_wp2
      exact F.out
    · have S1 := Lib.hid (readL_stop (n := k) (t := t) hc)
      have HC := Lib.hid hc
      obtain ⟨c, hcc⟩ : ∃ c, lnCode V en y = c := ⟨_, rfl⟩
      rw [hcc] at S1 HC hc ⊢
      have n1 : (c == 0) = false := beq_eq_false_iff_ne.2 hc
      have n2 : (c != 0) = true := by unfold bne; rw [n1]; rfl
      have cq : w3.drew.cell? ⟨n + 1 + 1, 0, none⟩ = some (.int .i64 ((k : Int) + 1)) := Q2.out.cell
      have p3 : Boxed w3.drew N 23 (.pointer none) := boxed_keptP (boxed_keptP GG.out.2.2.1 KK.out.1 (by omega)) KP.out.drew (by omega)
      have p4 : Two w3.drew (N + 1) 31 (.int .i64 0) (.int .i64 0) := (GG.out.2.2.2.1.keptP KK.out.1 (by omega)).keptP KP.out.drew (by omega)
      have c3 : w3.cell? ⟨N, 0, none⟩ = some (.pointer none) := p3.cell
      have c4 : w3.frozen? ⟨N, 0, none⟩ = false := p3.frozen
      have c5 : w3.cell? ⟨N + 1, 0, none⟩ = some (.int .i64 0) := p4.c0
      have c6 : w3.frozen? ⟨N + 1, 0, none⟩ = false := p4.f 0
      have c7 : w3.cell? ⟨N + 1, 1, none⟩ = some (.int .i64 0) := p4.c1
      have c8 : w3.frozen? ⟨N + 1, 1, none⟩ = false := p4.f 1
      obtain ⟨Wf, hWf, w3', w4', w5', w6'⟩ := two_stored p3 p4 (.pointer none) (.int .i64 ((k : Int) + 1)) (.int .i64 c)
      have F : Hid (KeepsFrom W0.heap.size W Wf ∧ RX w N (linesOf x) (pre ++ [y]) Wf) := by
        have kd : KeepsFrom W0.heap.size w3 w3.drew := ⟨Nat.le_refl _, fun i o _ hi _ => hi⟩
        refine ⟨(KF3.out.trans kd).trans (w5' _), (k : Int) + 1, c, ?_, HC.out, w3', w4', ?_⟩
        · rw [GG.out.1]; exact S1.out
        · exact ((GG.out.2.2.2.2.trans (KK.out.1.mono fun i _ h => by omega)).trans (KP.out.drew.mono fun i _ h => ⟨by omega, by omega⟩)).trans (w6'.mono fun i _ h => ⟨by omega, by omega⟩)
      clear hcc hc OK p3 p4
      go_wp2
      gi_wp2_with fail
      refine Mixed.wpIn_region_mixed (fun w' => w'.cell? ⟨n + 1 + 1, 0, none⟩ = some (.int .i64 ((k : Int) + 1))) 4 [(0, true), (1, true), (2, true), (3, false)] (by kernel_rfl) (fun ⟨_, _, h⟩ => h) (by kernel_rfl) (by kernel_rfl) cq ?_
      refine Mixed.wpMix_pure rfl rfl _ (fun w h => by go_simp; rfl) ?_
      refine Mixed.wpMix_move rfl rfl _ rfl _ rfl ?_
      refine Mixed.wpMix_pure rfl rfl _ (fun w h => by clear h; go_simp; rfl) ?_
      refine Mixed.wpMix_loud rfl ?_
      go_wp2
      refine ⟨(World.cell?_of_block (w := w3.drew) (Below.heap_setCell _ _ _ _ (by simp; omega))).trans cq, ?_⟩
      simp only [Mixed.wpMix, List.drop_succ_cons, List.drop_zero]
      go_wp2
      gi_wp2
      subst hWf
      exact F.out
end Go.Proofs.YtmeegpdjhcilkaaDoor
