/-
  The walks over strings.Builder's grow and Grow, at a builder that nothing was written to.
-/
import Derived.Test.YtmeegpdjhcilkaaGreatDoorHexAllD
import Derived.Lib.MakeNoZero
import Derived.Laws.Externs
import Derived.Laws.IdiomCopy
namespace Go.Proofs.YtmeegpdjhcilkaaGreatDoor
open Go.RowKit
set_option linter.unusedVariables false

theorem slB_hz (g n cap : Nat) (w : World) :
    (Instr.slice 59 (.slice (some ⟨g, 0, none⟩) n cap) none (some (.int .i64 (0 : Int))) none).run Tryz.prog w = .ok (.slice (some ⟨g, 0, none⟩) 0 cap) w :=
  slB_h (some ⟨g, 0, none⟩) n cap 0 (Nat.zero_le _) w
def RetGrow (w : World) (b : Nat) (p : Value) (e : Ending) (w' : World) : Prop :=
  e = .returned (.tuple #[]) ∧ ∃ v, Bld b w' p v [] ∧ (∀ g, v.ownBlock = some g → w.heap.size ≤ g) ∧ KeptP (· ≠ b) w w'
set_option maxRecDepth 100000 in
set_option maxHeartbeats 4000000 in
theorem grow0_any (b : Nat) (w : World) (p : Value) (n : Nat) (hn : n ≤ 140737488351232) (h : Bld b w p (.slice none 0 0) []) :
    Calls Tryz.prog 65 #[.pointer (some ⟨b, 0, none⟩), .int .i64 (n : Int)] w (RetGrow w b p) := by
  have hC : w.drew.cell? ⟨b, 1, none⟩ = some (.slice none 0 0) := h.c1
  have hlt := h.lt
  have hfw := fun w => Lib.run_makeNoZero (P := Tryz.prog) w #[3] 59 5 Tryz.underlying59 n (by omega)
  have hblk : w.heap[b]? = some (.cells #[p, .slice none 0 0] 82 (0, 0)) := h.1
  have H := Lib.hid hblk
  have hnb : (n : Int) ≤ 140737488351232 := by omega
  have HN := Lib.hid hn
  have hwr : IntKind.i64.wrap (n : Int) = (n : Int) := by rw [IntKind.wrap_i64]; omega
  clear h hblk hn
  go_enter Tryz.func65, Tryz.ntmps65
  go_wp2
  refine Mixed.wp_region_mixed (fun w' => w'.cell? ⟨b, 1, none⟩ = some (.slice none 0 0)) 15
    [(0, true), (1, true), (2, true), (3, true), (4, true), (5, true), (6, true), (7, true), (9, true), (10, true), (11, true), (12, true), (13, true), (8, false), (14, true)] (by kernel_rfl) (by kernel_rfl) hC ?_
  refine Mixed.wpMix_move rfl rfl _ rfl _ rfl ?_
  refine Mixed.wpMix_pure rfl rfl (.pointer (some ⟨b, 0, none⟩)) (fun w h => by go_simp; try rfl) ?_
  refine Mixed.wpMix_pure rfl rfl (.pointer (some ⟨b, 1, none⟩)) (fun w h => by go_simp; try rfl) ?_
  refine Mixed.wpMix_pure rfl rfl (.slice none 0 0) (fun w h => by go_simp; try rfl) ?_
  refine Mixed.wpMix_pure rfl rfl (.int .i64 0) (fun w h => by clear h; go_simp; try rfl) ?_
  refine Mixed.wpMix_pure rfl rfl (.int .i64 0) (fun w h => by clear h; go_simp; try rfl) ?_
  refine Mixed.wpMix_move rfl rfl _ rfl _ rfl ?_
  refine Mixed.wpMix_pure rfl rfl (.int .i64 (n : Int)) (fun w h => by clear h; go_simp) ?_
  refine Mixed.wpMix_move rfl rfl _ rfl _ rfl ?_
  refine Mixed.wpMix_pure rfl rfl (.pointer (some ⟨b, 0, none⟩)) (fun w h => by go_simp; try rfl) ?_
  refine Mixed.wpMix_pure rfl rfl (.pointer (some ⟨b, 1, none⟩)) (fun w h => by go_simp; try rfl) ?_
  refine Mixed.wpMix_pure rfl rfl (.slice none 0 0) (fun w h => by go_simp; try rfl) ?_
  refine Mixed.wpMix_pure rfl rfl (.int .i64 0) (fun w h => by clear h; go_simp; try rfl) ?_
  refine Mixed.wpMix_loud rfl ?_
  go_wp2
  obtain ⟨cs, hm, hcs1, hcs2⟩ := hfw w.drew
  rw [run_callFunc_extern Tryz.func90 (by kernel_rfl) (by kernel_rfl) (by kernel_rfl) (e := Extern.BytealgMakeNoZero.makeNoZero #[3] #[59]) (by kernel_rfl), hm]
  simp only [Result.andThen]
  rw [Oper.upon_value]
  obtain ⟨g, hg⟩ : ∃ g, w.drew.heap.size = g := ⟨_, rfl⟩
  obtain ⟨w3, hw3⟩ : ∃ w3, w.drew.drew.drew.alloc (.cells cs 5) = w3 := ⟨_, rfl⟩
  have hal : Below w.heap.size w w3 := by rw [← hw3]; exact ((((Below.refl _ _).drew).drew).drew).alloc (Nat.le_refl _) _
  have hrow : w3.heap[g]? = some (.cells cs 5 (0, 0)) := by rw [← hw3, ← hg]; exact World.alloc_heap_new _ _
  have hb3 : w3.heap[b]? = some (.cells #[p, .slice none 0 0] 82 (0, 0)) := (hal.block b hlt).trans H.out
  have hgw : g = w.heap.size := hg.symm
  have C3 : w3.cell? ⟨b, 1, none⟩ = some (.slice none 0 0) := by rw [Lib.cell_of_heap hb3]; rfl
  have f3 : w3.frozen? ⟨b, 1, none⟩ = false := Lib.frozen_of_heap hb3 1
  have hsl : ∀ w', (Instr.slice 59 (.slice (some ⟨g, 0, none⟩) n cs.size) none (some (.int .i64 (0 : Int))) none).run Tryz.prog w' = .ok (.slice (some ⟨g, 0, none⟩) 0 cs.size) w' := fun w' => slB_hz g n cs.size w'
  have own : w3.ownsRow 0 5 1 (.slice (some ⟨g, 0, none⟩) 0 cs.size) ([] : List UInt8).length (([] : List UInt8).map u8V) :=
    ⟨rfl, .inr ⟨g, cs.size, cs, rfl, Nat.zero_le _, hrow, Nat.zero_le _, hcs2 (Nat.le_trans HN.out (by unfold maxLen; omega)), by simp, by simp⟩⟩
  have FB := Lib.hid (Bld.set1 hb3 own)
  have KK : Hid (KeptP (· ≠ b) w (w3.setCell ⟨b, 1, none⟩ (.slice (some ⟨g, 0, none⟩) 0 cs.size))) := (KeptP.of_all hal).setCell (by simp) _
  have HG := Lib.hid hgw
  have hcp : ∀ w', (Builtin.copy_ #[59, 59] 3 #[.slice (some ⟨g, 0, none⟩) 0 cs.size, .slice none 0 0]).run Tryz.prog w' = .ok (.int .i64 0) w' := fun w' =>
    run_copy_none (P := Tryz.prog) w' 59 59 3 5 (some ⟨g, 0, none⟩) none 0 cs.size 0 0 Tryz.underlying59 (by kernel_rfl) rfl
  rw [hg]
  clear hm hcs1 hcs2 hfw hal hrow hb3 own hg hgw H HN
  go_wp2
  refine ⟨C3, ?_⟩
  refine Mixed.wpMix_pure rfl rfl (.slice (some ⟨g, 0, none⟩) 0 cs.size) (fun w h => by clear h; go_simp; try (rw [hsl]; rfl)) ?_
  simp only [Mixed.wpMix, List.drop_succ_cons, List.drop_zero]
  go_wp2
  go_end0
  exact ⟨rfl, _, FB.out, fun g' hg' => (by have h := HG.out; have e : g = g' := (Option.some.inj hg'); omega), KK.out⟩
set_option maxHeartbeats 2000000 in
/-- Grow at a fresh builder. -/
theorem BJ.grow {B b : Nat} {w wr : World} (h : BJ B b w wr (.slice none 0 0) []) (n : Nat) (hn : n ≤ 140737488351232) :
    Calls Tryz.prog 38 #[.pointer (some ⟨b, 0, none⟩), .int .i64 (n : Int)] wr fun e w' => e = .returned (.tuple #[]) ∧ ∃ v, BJ B b w w' v [] := by
  obtain ⟨⟨p, hp, hB0⟩, hv0, hbel, hbb, hww⟩ := h
  have hcc := copyCheck_any b wr p _ _ hp hB0
  have G := Lib.hid (And.intro hbel (And.intro hbb hww))
  have hnb : (n : Int) ≤ 140737488351232 := by omega
  have HN := Lib.hid hn
  clear hp hB0 hv0 hbel hbb hww hn
  by_cases h0 : n = 0
  · subst h0
    go_enter Tryz.func38, Tryz.ntmps38
    go_wp2_with fail
    refine hcc.mono ?_
    rintro e w1 ⟨rfl, h, hk, hs1⟩
    have c1 := h.c1
    have F : ∀ q, Hid (BJ B b w (w1.drewN q) (.slice none 0 0) []) := fun q => by
      obtain ⟨g1, g2, g3⟩ := G.out
      have hk2 := (hk.drewN q)
      exact ⟨⟨_, .inl rfl, h.kept (P := fun _ => True) (KeptP.of_all (Im.below_drewN w1 q)) trivial fun _ _ => trivial⟩, fun g hg => by simp [Value.ownBlock] at hg, g1.trans (hk2.below (fun i hi => by omega) (Nat.le_trans g3 g1.size)), g2, g3⟩
    clear hcc hk hs1 h
    go_wp2_with fail
    go_quiet (fail)
    go_wp2
    go_end0
    exact ⟨rfl, _, (F _).out⟩
  · have hpos : (0 : Int) < (n : Int) := by omega
    have hposn : 0 < n := by omega
    go_enter Tryz.func38, Tryz.ntmps38
    go_wp2_with fail
    refine hcc.mono ?_
    rintro e w1 ⟨rfl, h, hk, hs1⟩
    have c1 := h.c1
    have HH := Lib.hid (And.intro h hk)
    clear hcc hk hs1 h
    go_wp2_with fail
    go_quiet (fail)
    have hgr := grow0_any b (w1.drewN nq) _ n HN.out (HH.out.1.kept (P := fun _ => True) (KeptP.of_all (Im.below_drewN w1 nq)) trivial fun _ _ => trivial)
    go_wp2_with fail
    refine hgr.mono ?_
    rintro e w2 ⟨rfl, v, k1, k2, k3⟩
    have F : Hid (BJ B b w w2 v []) := by
      obtain ⟨g1, g2, g3⟩ := G.out
      have hk2 := (HH.out.2.drewN nq).trans k3
      exact ⟨⟨_, .inl rfl, k1⟩, fun g hg => by have h1 := k2 g hg; have h2 := HH.out.2.size; have h3 := g1.size; have h4 : (w1.drewN nq).heap.size = w1.heap.size := rfl; omega, g1.trans (hk2.below (fun i hi => by omega) (Nat.le_trans g3 g1.size)), g2, g3⟩
    clear hgr k1 k2 k3
    go_wp2
    go_end0
    exact ⟨rfl, v, F.out⟩
end Go.Proofs.YtmeegpdjhcilkaaGreatDoor
