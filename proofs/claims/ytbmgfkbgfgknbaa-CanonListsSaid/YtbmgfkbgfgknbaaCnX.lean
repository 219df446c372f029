/-
  The walk over the step that exchanges the operands of EX.
-/
import Derived.Test.YtbmgfkbgfgknbaaCnR
import Derived.Test.YtbmgfkbgfgknbaaMixG
namespace Go.Proofs.Ytbmgfkbgfgknbaa
open Go.RowKit
set_option linter.unusedVariables false

theorem ops_two (w : World) (x y : Tr) : OpsP (w.alloc (.cells #[.int .i64 x.1, .int .i64 x.2.1, .int .i64 x.2.2, .int .i64 y.1, .int .i64 y.2.1, .int .i64 y.2.2] 33)) (some ⟨w.heap.size, 0, none⟩) [x, y] := by
  refine .inr ⟨_, 0, rfl, fun j hj => ?_⟩
  have : j = 0 ∨ j = 1 := by simp at hj; omega
  rcases this with rfl | rfl <;> exact ⟨by simp [go_sem], by simp [go_sem], by simp [go_sem]⟩
theorem exL_no (c : Nat) (L : List Tr) (h : c ≠ 3) : L = exL c L := by unfold exL; rw [if_neg (fun q => h q.1)]
theorem exL_ne (L : List Tr) (h : ¬ L = [hlT, deT]) : L = exL 3 L := by unfold exL; rw [if_neg (fun q => h q.2)]
/-- What a walk over a draft keeps: the draft, its operands, and all that was there. -/
def Mid (w0 w : World) (bd : Nat) (s : ByteArray) (v : Value) (B : Nat) (L : List Tr) : Prop := Dr w bd s v ∧ OwnS w B v L ∧ Below w0.heap.size w0 w
theorem Mid.go {w0 w w' : World} {bd : Nat} {s : ByteArray} {v : Value} {B : Nat} {L : List Tr} (h : Mid w0 w bd s v B L) (hb : Below w.heap.size w w') : Mid w0 w' bd s v B L :=
  ⟨h.1.below hb, h.2.1.below hb, h.2.2.trans (hb.mono h.2.2.size)⟩
theorem Mid.alloc {w0 w : World} {bd : Nat} {s : ByteArray} {v : Value} {B : Nat} {L : List Tr} (h : Mid w0 w bd s v B L) (o : Obj) : Mid w0 (w.alloc o) bd s v B L := h.go ((Below.refl _ _).alloc (Nat.le_refl _) _)
theorem Mid.ops {w0 w : World} {bd : Nat} {s : ByteArray} {A : Option Addr} {n cap : Nat} {B : Nat} {L : List Tr} (h : Mid w0 w bd s (.slice A n cap) B L) : OpsP w A L := by
  obtain ⟨A', cap', e, hP, -⟩ := h.2.1.ops
  simp only [Value.slice.injEq] at e
  obtain ⟨rfl, -, -⟩ := e
  exact hP
attribute [local irreducible] Go.Mixed.wpMix
set_option maxRecDepth 100000 in
set_option maxHeartbeats 4000000 in
theorem ex_any (s : ByteArray) (B bd : Nat) (hB : B ≤ bd) (v : Value) (L : List Tr) (hL : L.length ≤ 1000) (w : World) (hD : Dr w bd s v) (hO : OwnS w B v L) :
    Calls Try.prog 22 #[.pointer (some ⟨bd, 0, none⟩)] w fun e w' => e = .returned (.tuple #[]) ∧ Dr w' bd s v ∧ OwnS w' B v (exL (opc s) L) ∧ Below B w w' := by
  obtain ⟨d0, d1, -, -⟩ := hD.cells
  by_cases h3 : I3 s
  · rw [opc_3 h3]
    obtain rfl : s = _ := h3
    obtain ⟨A, cap, rfl, hP, hlc, hcm⟩ := hO.ops
    have D0 := Lib.hid hD
    have O0 := Lib.hid hO
    have M0 : Hid (Mid w w.drew bd ⟨#[69, 88]⟩ (.slice A L.length cap) B L) := ⟨hD, hO, below_drewN _ _ 1⟩
    have SB : Hid (B ≤ w.heap.size) := Nat.le_trans hB (Nat.le_of_lt hD.lt)
    have EQ := Lib.hid (fun A2 c1 c2 (w' : World) h1 h2 => equalO_any A A2 c1 c2 L [hlT, deT] (by unfold maxLen; omega) (by unfold maxLen; simp) w' h1 h2)
    have EN := Lib.hid (exL_ne L)
    obtain ⟨n, hn⟩ : ∃ n, L.length = n := ⟨_, rfl⟩
    have HN := Lib.hid hn
    rw [hn] at D0 O0 M0 hlc d1 ⊢
    rw [hn] at EQ
    obtain ⟨b, hb⟩ : ∃ b, decide (L = [hlT, deT]) = b := ⟨_, rfl⟩
    have HB := Lib.hid hb
    rw [hb] at EQ
    clear hD hO hP hn hL hb d0 d1
    go_enter Try.func22, Try.ntmps22
    go_wp2
    refine Mixed.wp_region_mixed (fun w' => Dr w' bd ⟨#[69, 88]⟩ (.slice A n cap)) 16 [(0, true), (1, true), (2, true), (3, true), (4, true), (5, true), (6, true), (7, true), (8, true), (9, true), (10, true), (11, true), (12, false), (13, false), (14, false), (15, false)] (by kernel_rfl) (by kernel_rfl) D0.out ?_
    refine Mixed.wpMix_move rfl (by kernel_rfl) _ rfl _ rfl ?_
    refine Mixed.wpMix_pure rfl (by kernel_rfl) (.pointer (some ⟨bd, 0, none⟩)) (fun w h => by obtain ⟨h1, h2, h3, h4⟩ := h.cells; clear h; go_simp; try rfl) ?_
    refine Mixed.wpMix_pure rfl (by kernel_rfl) (.pointer (some ⟨bd, 0, none⟩)) (fun w h => by obtain ⟨h1, h2, h3, h4⟩ := h.cells; clear h; go_simp; try rfl) ?_
    refine Mixed.wpMix_pure rfl (by kernel_rfl) (.pointer (some ⟨bd, 0, none⟩)) (fun w h => by obtain ⟨h1, h2, h3, h4⟩ := h.cells; clear h; go_simp; try rfl) ?_
    refine Mixed.wpMix_pure rfl (by kernel_rfl) (.string ⟨#[69, 88]⟩) (fun w h => by obtain ⟨h1, h2, h3, h4⟩ := h.cells; clear h; go_simp; try rfl) ?_
    refine Mixed.wpMix_pure rfl (by kernel_rfl) (.bool true) (fun w h => by clear h; go_simp; try rfl) ?_
    refine Mixed.wpMix_move rfl (by kernel_rfl) _ rfl _ rfl ?_
    refine Mixed.wpMix_move rfl (by kernel_rfl) _ rfl _ rfl ?_
    refine Mixed.wpMix_pure rfl (by kernel_rfl) (.pointer (some ⟨bd, 0, none⟩)) (fun w h => by obtain ⟨h1, h2, h3, h4⟩ := h.cells; clear h; go_simp; try rfl) ?_
    refine Mixed.wpMix_pure rfl (by kernel_rfl) (.pointer (some ⟨bd, 0, none⟩)) (fun w h => by obtain ⟨h1, h2, h3, h4⟩ := h.cells; clear h; go_simp; try rfl) ?_
    refine Mixed.wpMix_pure rfl (by kernel_rfl) (.pointer (some ⟨bd, 1, none⟩)) (fun w h => by obtain ⟨h1, h2, h3, h4⟩ := h.cells; clear h; go_simp; try rfl) ?_
    refine Mixed.wpMix_pure rfl (by kernel_rfl) (.slice A n cap) (fun w h => by obtain ⟨h1, h2, h3, h4⟩ := h.cells; clear h; go_simp; try rfl) ?_
    refine Mixed.wpMix_loudG rfl (by kernel_rfl) ?_
    go_wp2_with fail
    refine (pair_any 2 _).mono ?_
    rintro e w1 ⟨rfl, h1⟩
    have M1 := Lib.hid (M0.out.go h1)
    have xx := M1.out.1
    clear h1 M0 D0 O0
    go_wp2
    refine ⟨xx, ?_⟩
    clear xx
    refine Mixed.wpMix_loudG rfl (by kernel_rfl) ?_
    go_wp2_with fail
    refine (pair_any 1 _).mono ?_
    rintro e w2 ⟨rfl, h1⟩
    have M2 := Lib.hid (M1.out.go h1)
    have xx := M2.out.1
    clear h1 M1
    go_wp2
    refine ⟨xx, ?_⟩
    clear xx
    refine Mixed.wpMix_loudG rfl (by kernel_rfl) ?_
    have M3 := fun o => Lib.hid (M2.out.alloc o)
    have P3 := Lib.hid (ops_two w2 hlT deT)
    have xx := fun o => (M3 o).out.1
    go_wp2
    refine ⟨xx _, ?_⟩
    clear xx
    refine Mixed.wpMix_loudG rfl (by kernel_rfl) ?_
    go_wp2_with fail
    refine (EQ.out _ cap 2 _ (M3 _).out.ops P3.out).mono ?_
    rintro e w4 ⟨rfl, h1⟩
    have M4 := Lib.hid ((M3 _).out.go h1)
    have xx := M4.out.1
    clear h1 M3 M2 P3 EQ
    go_wp2
    refine ⟨xx, ?_⟩
    clear xx
    simp only [Mixed.wpMix, List.drop_succ_cons, List.drop_zero]
    cases b with
    | false =>
      have E := Lib.hid (EN.out (of_decide_eq_false HB.out))
      go_wp2
      go_end0
      rw [← E.out]
      exact ⟨rfl, M4.out.1, M4.out.2.1, M4.out.2.2.mono SB.out⟩
    | true =>
      obtain rfl := of_decide_eq_true HB.out
      obtain rfl : n = 2 := HN.out.symm
      obtain ⟨d0, d1, -, -⟩ := M4.out.1.cells
      obtain ⟨g, off, cap', hA, -, -, hR⟩ := M4.out.2.1.nonnil (by simp)
      simp only [Value.slice.injEq] at hA
      obtain ⟨rfl, -, -⟩ := hA
      have RV := Lib.hid (rev2_any B g off cap hlT deT w4 hR)
      have HG := Lib.hid (hR.apart M4.out.1)
      have HB2 : Hid (B ≤ g) := hR.1
      clear hR
      go_wp2_with fail
      refine RV.out.mono ?_
      rintro e w5 ⟨rfl, hR, hG⟩
      have D5 : Hid (Dr w5 bd ⟨#[69, 88]⟩ (.slice (some ⟨g, off, none⟩) 2 cap)) := (hG.block _ M4.out.1.lt (fun e => HG.out (by simp at e; exact e.symm))).trans M4.out.1
      have O5 : Hid (OwnS w5 B (.slice (some ⟨g, off, none⟩) 2 cap) (exL 3 [hlT, deT])) := .inr ⟨g, off, cap, rfl, hlc, hcm, hR⟩
      have B5 : Hid (Below B w w5) := (M4.out.2.2.mono SB.out).grown hG (Nat.le_trans SB.out M4.out.2.2.size) (fun k hk => by simp at hk; have := HB2.out; omega)
      clear hR hG
      go_wp2
      go_end0
      exact ⟨rfl, D5.out, O5.out, B5.out⟩
  · have E := Lib.hid (exL_no (opc s) L (opc_n3 h3))
    have q : (s.toList == [69, 88]) = false := by simpa using strB_ne h3
    have D0 := Lib.hid hD
    have O0 := Lib.hid hO
    clear hD hO h3
    go_enter Try.func22, Try.ntmps22
    go_wp2
    go_quiet (fail)
    go_wp2
    go_end0
    rw [← E.out]
    exact ⟨rfl, D0.out, O0.out, (below_drewN _ _ _)⟩
end Go.Proofs.Ytbmgfkbgfgknbaa
