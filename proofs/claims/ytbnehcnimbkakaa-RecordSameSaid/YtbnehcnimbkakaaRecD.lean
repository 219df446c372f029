/-
  The walks over (*record.parts).record and record.Parse: for every line, the record and the code.
-/
import Derived.Test.YtbnehcnimbkakaaRecC
import Derived.Test.YtbnehcnimbkakaaMixed
namespace Go.Proofs.Ytbnehcnimbkakaa
open Go.RowKit
set_option linter.unusedVariables false

def recA (bs : List UInt8) : Int := numI ((bs.drop 1).take 2)
def recT (bs : List UInt8) : Int := numI ((bs.drop 3).take 1)
def recD (bs : List UInt8) (m : Nat) : List UInt8 := (bs.drop 4).take m
/-- Three cells of a new block, and of that block after stores. -/
theorem three_cells (w : World) (n : Nat) (hn : w.heap.size = n) (x y z : Value) (t : TypeId) : (w.alloc (.cells #[x, y, z] t)).cell? ⟨n, 0, none⟩ = some x ∧ (w.alloc (.cells #[x, y, z] t)).cell? ⟨n, 1, none⟩ = some y ∧ (w.alloc (.cells #[x, y, z] t)).cell? ⟨n, 2, none⟩ = some z := by
  subst hn
  exact ⟨by simp [go_sem], by simp [go_sem], by simp [go_sem]⟩

/-- Block n has three cells that may be written. -/
def Tri (n : Nat) (w : World) (x y z : Value) : Prop := n < w.heap.size ∧ w.cell? ⟨n, 0, none⟩ = some x ∧ w.cell? ⟨n, 1, none⟩ = some y ∧ w.cell? ⟨n, 2, none⟩ = some z ∧ ∀ i, w.frozen? ⟨n, i, none⟩ = false
theorem Tri.new (w : World) (n : Nat) (hn : w.heap.size = n) (x y z : Value) (t : TypeId) : Tri n (w.alloc (.cells #[x, y, z] t)) x y z := by
  obtain ⟨h0, h1, h2⟩ := three_cells w n hn x y z t
  subst hn
  exact ⟨by simp, h0, h1, h2, fun i => by simp [go_sem]⟩
theorem Tri.kept {n : Nat} {P : Nat → Prop} {w w' : World} {x y z : Value} (h : Tri n w x y z) (k : KeptP P w w') (hP : P n) : Tri n w' x y z := by
  obtain ⟨h, h0, h1, h2, hf⟩ := h
  exact ⟨Nat.lt_of_lt_of_le h k.size, (k.cell (p := ⟨n, 0, none⟩) h hP).trans h0, (k.cell (p := ⟨n, 1, none⟩) h hP).trans h1, (k.cell (p := ⟨n, 2, none⟩) h hP).trans h2, fun i => (k.frozen (p := ⟨n, i, none⟩) h hP).trans (hf i)⟩
theorem Tri.set0 {n : Nat} {w : World} {x y z : Value} (h : Tri n w x y z) (u : Value) : Tri n (w.setCell ⟨n, 0, none⟩ u) u y z := by
  obtain ⟨h, h0, h1, h2, hf⟩ := h
  exact ⟨by simpa [World.setCell] using h, by simp [go_sem, h0], by rw [World.cell?_setCell_other _ _ _ _ (by simp)]; exact h1, by rw [World.cell?_setCell_other _ _ _ _ (by simp)]; exact h2, fun i => by simp only [World.frozen?_setCell]; exact hf i⟩
theorem Tri.set1 {n : Nat} {w : World} {x y z : Value} (h : Tri n w x y z) (u : Value) : Tri n (w.setCell ⟨n, 1, none⟩ u) x u z := by
  obtain ⟨h, h0, h1, h2, hf⟩ := h
  exact ⟨by simpa [World.setCell] using h, by rw [World.cell?_setCell_other _ _ _ _ (by simp)]; exact h0, by simp [go_sem, h1], by rw [World.cell?_setCell_other _ _ _ _ (by simp)]; exact h2, fun i => by simp only [World.frozen?_setCell]; exact hf i⟩
theorem Tri.set2 {n : Nat} {w : World} {x y z : Value} (h : Tri n w x y z) (u : Value) : Tri n (w.setCell ⟨n, 2, none⟩ u) x y u := by
  obtain ⟨h, h0, h1, h2, hf⟩ := h
  exact ⟨by simpa [World.setCell] using h, by rw [World.cell?_setCell_other _ _ _ _ (by simp)]; exact h0, by rw [World.cell?_setCell_other _ _ _ _ (by simp)]; exact h1, by simp [go_sem, h2], fun i => by simp only [World.frozen?_setCell]; exact hf i⟩
theorem PartsAt.kept {b : Nat} {P : Nat → Prop} {w w' : World} {A : Option Addr} {len cap : Nat} {q : Int} (h : PartsAt b w A len cap q) (k : KeptP P w w') (hP : P b) : PartsAt b w' A len cap q := by
  obtain ⟨⟨h1, h2, h3⟩, h4⟩ := h
  exact ⟨⟨Nat.lt_of_lt_of_le h1 k.size, (k.cell (p := ⟨b, 0, none⟩) h1 hP).trans h2, (k.frozen (p := ⟨b, 0, none⟩) h1 hP).trans h3⟩, (k.cell (p := ⟨b, 1, none⟩) h1 hP).trans h4⟩
theorem PartsAt.set {b : Nat} {w : World} {A : Option Addr} {len cap : Nat} {q : Int} (h : PartsAt b w A len cap q) (A' : Option Addr) (len' cap' : Nat) : PartsAt b (w.setCell ⟨b, 0, none⟩ (.slice A' len' cap')) A' len' cap' q :=
  ⟨h.1.set A' len' cap', by rw [World.cell?_setCell_other _ _ _ _ (by simp)]; exact h.2⟩

/-- In the middle of the call: the cursor stands in front of xs; the record is made in block n1, to be handed back in block n0. -/
structure Mid (b n0 n1 : Nat) (w wr : World) (A : Option Addr) (cap : Nat) (xs : List UInt8) (m : Int) (x y z : Value) : Prop where
  parts : PartsAt b wr A xs.length cap m
  bytes : BytesP (· < b) wr A xs
  res : Tri n0 wr (.int .i64 0) (.int .i64 0) (.slice none 0 0)
  made : Tri n1 wr x y z
  kept : KeptP (· ≠ b) w wr
  capLe : xs.length ≤ cap
  lt : b < n0
  lt2 : n0 < n1
  new : w.heap.size ≤ n0
theorem Mid.put {b n0 n1 : Nat} {w wr : World} {A : Option Addr} {cap : Nat} {xs : List UInt8} {m : Int} {x y z : Value} (h : Mid b n0 n1 w wr A cap xs m x y z) (n : Nat) (hn : n ≤ xs.length) :
    Mid b n0 n1 w (wr.setCell ⟨b, 0, none⟩ (.slice (subA A n cap) (xs.length - n) (cap - n))) (subA A n cap) (cap - n) (xs.drop n) m x y z := by
  obtain ⟨h1, h2, h3, h4, h5, h6, h7, h8, h9⟩ := h
  have k : KeptP (· ≠ b) wr (wr.setCell ⟨b, 0, none⟩ (.slice (subA A n cap) (xs.length - n) (cap - n))) := KeptP.put _ _ (by simp) _
  refine ⟨?_, ?_, h3.kept k (by omega), h4.kept k (by omega), h5.trans k, ?_, h7, h8, h9⟩
  · have := h1.set (subA A n cap) (xs.length - n) (cap - n)
    rwa [List.length_drop]
  · exact (h2.kept k fun i _ hi => by omega).sub n cap h6
  · rw [List.length_drop]; omega
theorem Mid.number {b n0 n1 : Nat} {w wr : World} {A : Option Addr} {cap : Nat} {xs : List UInt8} {m : Int} {x y z : Value} (h : Mid b n0 n1 w wr A cap xs m x y z) (n : Nat) (hn : n ≤ xs.length) (hn2 : n ≤ 2) :
    ∃ w1, (Calls Try.prog 46 #[.pointer (some ⟨b, 0, none⟩), .int .i64 n] wr fun e w' => e = .returned (.int .i64 (numI (xs.take n))) ∧ w1 = w') ∧ Mid b n0 n1 w w1 (subA A n cap) (cap - n) (xs.drop n) m x y z :=
  ⟨_, number_any (· < b) b (by omega) A xs cap n hn hn2 h.capLe wr h.bytes h.parts.1, h.put n hn⟩
theorem Mid.take {b n0 n1 : Nat} {w wr : World} {A : Option Addr} {cap : Nat} {xs : List UInt8} {m : Int} {x y z : Value} (h : Mid b n0 n1 w wr A cap xs m x y z) (n : Nat) (hn : n ≤ xs.length) :
    ∃ w1, (Calls Try.prog 47 #[.pointer (some ⟨b, 0, none⟩), .int .i64 n] wr fun e w' => e = .returned (.slice A n cap) ∧ w1 = w') ∧ Mid b n0 n1 w w1 (subA A n cap) (cap - n) (xs.drop n) m x y z :=
  ⟨_, take_any b A xs.length cap n hn h.capLe wr h.parts.1, h.put n hn⟩
theorem Mid.set {b n0 n1 : Nat} {w wr wr' : World} {A : Option Addr} {cap : Nat} {xs : List UInt8} {m : Int} {x y z x' y' z' : Value} (h : Mid b n0 n1 w wr A cap xs m x y z) (k : KeptP (· ≠ n1) wr wr') (h' : Tri n1 wr' x' y' z') : Mid b n0 n1 w wr' A cap xs m x' y' z' := by
  obtain ⟨h1, h2, h3, h4, h5, h6, h7, h8, h9⟩ := h
  exact ⟨h1.kept k (by omega), h2.kept k fun i _ hi => by omega, h3.kept k (by omega), h', ⟨k.os.trans h5.os, k.tape.trans h5.tape, k.output.trans h5.output, Nat.le_trans h5.size k.size, fun i hi hp => (k.block i (Nat.lt_of_lt_of_le hi h5.size) (by omega)).trans (h5.block i hi hp)⟩, h6, h7, h8, h9⟩
theorem Mid.set0 {b n0 n1 : Nat} {w wr : World} {A : Option Addr} {cap : Nat} {xs : List UInt8} {m : Int} {x y z : Value} (h : Mid b n0 n1 w wr A cap xs m x y z) (u : Value) : Mid b n0 n1 w (wr.setCell ⟨n1, 0, none⟩ u) A cap xs m u y z := h.set (KeptP.put _ _ (by simp) _) (h.made.set0 u)
theorem Mid.set1 {b n0 n1 : Nat} {w wr : World} {A : Option Addr} {cap : Nat} {xs : List UInt8} {m : Int} {x y z : Value} (h : Mid b n0 n1 w wr A cap xs m x y z) (u : Value) : Mid b n0 n1 w (wr.setCell ⟨n1, 1, none⟩ u) A cap xs m x u z := h.set (KeptP.put _ _ (by simp) _) (h.made.set1 u)
theorem Mid.set2 {b n0 n1 : Nat} {w wr : World} {A : Option Addr} {cap : Nat} {xs : List UInt8} {m : Int} {x y z : Value} (h : Mid b n0 n1 w wr A cap xs m x y z) (u : Value) : Mid b n0 n1 w (wr.setCell ⟨n1, 2, none⟩ u) A cap xs m x y u := h.set (KeptP.put _ _ (by simp) _) (h.made.set2 u)

theorem Mid.drew {b n0 n1 : Nat} {w wr : World} {A : Option Addr} {cap : Nat} {xs : List UInt8} {m : Int} {x y z : Value} (h : Mid b n0 n1 w wr A cap xs m x y z) : Mid b n0 n1 w wr.drew A cap xs m x y z :=
  h.set (KeptP.refl _ _).drew (h.made.kept (P := fun _ => True) (KeptP.refl _ _).drew trivial)

set_option maxHeartbeats 1000000 in
theorem recOf_any (b : Nat) (A : Option Addr) (xs : List UInt8) (cap m : Nat) (hm : 3 + m ≤ xs.length) (hc : xs.length ≤ cap) (w : World) (hX : BytesP (· < b) w A xs) (h : PartsAt b w A xs.length cap m) :
    Calls Try.prog 37 #[.pointer (some ⟨b, 0, none⟩)] w fun e w' =>
      e = .returned (.agg #[.int .i64 (numI ((xs.drop 2).take 1)), .int .i64 (numI (xs.take 2)), .slice (subA (subA A 2 cap) 1 (cap - 2)) m (cap - 2 - 1)]) ∧ KeptP (· ≠ b) w w' := by
  have hbw := h.1.1
  have m0 : Mid b w.heap.size (w.heap.size + 1) w ((w.alloc (.cells #[.int .i64 0, .int .i64 0, .slice none 0 0] 28)).alloc (.cells #[.int .i64 0, .int .i64 0, .slice none 0 0] 28)) A cap xs m (.int .i64 0) (.int .i64 0) (.slice none 0 0) := by
    have k0 : KeptP (· < w.heap.size) w ((w.alloc (.cells #[.int .i64 0, .int .i64 0, .slice none 0 0] 28)).alloc (.cells #[.int .i64 0, .int .i64 0, .slice none 0 0] 28)) := ((KeptP.refl _ _).alloc _).alloc _
    exact ⟨h.kept k0 hbw, hX.kept k0 (fun i hi _ => hi), (Tri.new w _ rfl _ _ _ _).kept (P := fun _ => True) ((KeptP.refl _ _).alloc _) trivial, Tri.new (w.alloc _) _ (by simp) _ _ _ _, ((KeptP.refl _ _).alloc _).alloc _, hc, hbw, by omega, Nat.le_refl _⟩
  obtain ⟨w1, c1, m1⟩ := m0.number 2 (by omega) (by omega)
  have hl1 : (xs.drop 2).length = xs.length - 2 := List.length_drop
  have m2 := m1.set1 (.int .i64 (numI (xs.take 2)))
  obtain ⟨w3, c3, m3⟩ := m2.number 1 (by omega) (by omega)
  have hl3 : ((xs.drop 2).drop 1).length = xs.length - 2 - 1 := by rw [List.length_drop, hl1]
  have m4 := m3.set0 (.int .i64 (numI ((xs.drop 2).take 1)))
  have m4d := m4.drew
  obtain ⟨w5, c5, m5⟩ := m4d.take m (by omega)
  have m6 := m5.set2 (.slice (subA (subA A 2 cap) 1 (cap - 2)) m (cap - 2 - 1))
  obtain ⟨-, -, f1, -, ff1⟩ := m1.made
  obtain ⟨-, f3, -, -, ff3⟩ := m3.made
  have fz := m4d.parts.2
  obtain ⟨-, -, -, f5, ff5⟩ := m5.made
  obtain ⟨-, g0, g1, g2, -⟩ := m6.made
  obtain ⟨-, e0, e1, e2, ef⟩ := m6.res
  have ff1' := ff1 1
  have ff3' := ff3 0
  have ff5' := ff5 2
  have ef0 := ef 0
  have ef1 := ef 1
  have ef2 := ef 2
  have K6 := Lib.hid m6.kept
  have R6 := Lib.hid m6.res
  have N0 := Lib.hid m6.new
  obtain ⟨q1, hq1⟩ : ∃ q, numI (xs.take 2) = q := ⟨_, rfl⟩
  obtain ⟨q2, hq2⟩ : ∃ q, numI ((xs.drop 2).take 1) = q := ⟨_, rfl⟩
  rw [hq1] at c1
  simp only [hq1, hq2] at *
  clear hq1 hq2 m0 m1 m2 m3 m4 m4d m5 m6 ff1 ff3 ff5 ef hl1 hl3 h hX hc hm
  go_enter Try.func37, Try.ntmps37
  go_wp2_with fail
  refine c1.mono ?_
  rintro e w' ⟨rfl, rfl⟩
  clear c1
  go_wp2_with fail
  refine c3.mono ?_
  rintro e w' ⟨rfl, rfl⟩
  clear c3
  go_wp2_with fail
  refine Mixed.wp_region_mixed (fun w' => w'.cell? ⟨b, 1, none⟩ = some (.int .i64 (m : Int))) 7 [(0, true), (1, true), (2, true), (3, true), (4, true), (5, true), (6, true)] (by kernel_rfl) (by kernel_rfl) fz ?_
  refine Mixed.wpMix_move rfl rfl _ rfl _ rfl ?_
  refine Mixed.wpMix_pure rfl rfl _ (fun w h => by go_simp; rfl) ?_
  refine Mixed.wpMix_pure rfl rfl _ (fun w h => by go_simp; rfl) ?_
  refine Mixed.wpMix_move rfl rfl _ rfl _ rfl ?_
  refine Mixed.wpMix_pure rfl rfl _ (fun w h => by go_simp; rfl) ?_
  refine Mixed.wpMix_pure rfl rfl _ (fun w h => by go_simp; rfl) ?_
  refine Mixed.wpMix_pure rfl rfl _ (fun w h => by go_simp; rfl) ?_
  simp only [Mixed.wpMix, List.drop_succ_cons, List.drop_zero]
  go_wp2_with fail
  refine c5.mono ?_
  rintro e w' ⟨rfl, rfl⟩
  clear c5 fz
  go_wp2
  have hR := ((R6.out.set0 (.int .i64 q2)).set1 (.int .i64 q1)).set2 (.slice (subA (subA A 2 cap) 1 (cap - 2)) m (cap - 2 - 1))
  have hK6 : KeptP (fun i => i < w.heap.size ∧ i ≠ b) w _ := K6.out.mono fun i _ h => h.2
  have hK7 := ((hK6.setCell (p := ⟨w.heap.size, 0, none⟩) (fun h => Nat.lt_irrefl _ h.1) (.int .i64 q2)).setCell (p := ⟨w.heap.size, 1, none⟩) (fun h => Nat.lt_irrefl _ h.1) (.int .i64 q1)).setCell (p := ⟨w.heap.size, 2, none⟩) (fun h => Nat.lt_irrefl _ h.1) (.slice (subA (subA A 2 cap) 1 (cap - 2)) m (cap - 2 - 1))
  have hK : KeptP (· ≠ b) w _ := hK7.mono fun i hi h => ⟨hi, h⟩
  clear hK6 hK7
  clear e0 e1 e2 ef0 ef1 ef2 g0 g1 g2 R6 K6
  revert hR hK
  generalize (((w5.setCell ⟨w.heap.size + 1, 2, none⟩ (.slice (subA (subA A 2 cap) 1 (cap - 2)) m (cap - 2 - 1))).setCell ⟨w.heap.size, 0, none⟩ (.int .i64 q2)).setCell ⟨w.heap.size, 1, none⟩ (.int .i64 q1)).setCell ⟨w.heap.size, 2, none⟩ (.slice (subA (subA A 2 cap) 1 (cap - 2)) m (cap - 2 - 1)) = wf
  intro hR hK
  obtain ⟨-, c0, c1, c2, -⟩ := hR
  exact bodyPost_ret (v := .agg #[.int .i64 q2, .int .i64 q1, .slice (subA (subA A 2 cap) 1 (cap - 2)) m (cap - 2 - 1)]) (by simp [results, Try.results37, go_sem, c0, c1, c2]) rfl ⟨rfl, hK⟩
end Go.Proofs.Ytbnehcnimbkakaa
