/-
  HexreadReads, for every text: Read returns the image or the fault of the reference, and so do Accepts and Normal: the law returns true, and its argument reads as it did.
  Conditions: none.
-/
import Derived.Test.YtmeegpdjhcilkaaGreatDoorRdQ
import Derived.Test.YtmeegpdjhcilkaaGreatDoorRdE
import Derived.Test.YtmeegpdjhcilkaaGreatDoorCards
import Derived.Test.YtmeegpdjhcilkaaGreatDoorTie
import Derived.ProofKit
import Derived.OpenShut
import Derived.Lay
import Derived.LaidOnce
import Derived.SevenTiedAt
import Derived.Below
namespace Go.Proofs.YtmeegpdjhcilkaaGreatDoor.hexreadReadsDone
open Go.ChangeShapes Go.WideShapes Go.ChangeAt Go.RowKit
open Go.ChangeMaps (open_string shut_string)
set_option linter.unusedVariables false

theorem own : ownKnob Tryz.prog.godebug = none := by kernel_rfl
theorem laidOut : laidOutB Tryz.prog = true := by kernel_rfl
/-- A slice of integers that came in: nil, or a row of 'cap' cells that hold the numbers 'zs'. -/
def IsRow (k : IntKind) (w : World) (a : Option Addr) (len cap : Nat) (zs : List Int) : Prop :=
  (a = none ∧ len = 0 ∧ cap = 0 ∧ zs = []) ∨
  ∃ x, a = some x ∧ len ≤ cap ∧ cap ≤ maxLen ∧ zs.length = cap ∧ (∀ i, i < zs.length → w.cell? (x.add i) = some (.int k (zs.getD i 0))) ∧ ∀ n ∈ zs, (Lit.int k n).wf = true

attribute [local irreducible] Go.Mixed.wpMix
/-- Two faults in memory. -/
def TwoF (w : World) (f4 f9 : Nat) (l c : Int) : Prop := Two w f4 26 (.int .i64 l) (.int .i64 c) ∧ Two w f9 26 (.int .i64 l) (.int .i64 c)
theorem TwoF.below {w w' : World} {f4 f9 : Nat} {l c : Int} (h : TwoF w f4 f9 l c) (k : Below w.heap.size w w') : TwoF w' f4 f9 l c := ⟨(k.block _ h.1.lt).trans h.1, (k.block _ h.2.lt).trans h.2⟩
theorem TwoF.cells {w : World} {f4 f9 : Nat} {l c : Int} (h : TwoF w f4 f9 l c) : (w.cell? ⟨f4, 0, none⟩ = some (.int .i64 l) ∧ w.cell? ⟨f4, 1, none⟩ = some (.int .i64 c)) ∧ w.cell? ⟨f9, 0, none⟩ = some (.int .i64 l) ∧ w.cell? ⟨f9, 1, none⟩ = some (.int .i64 c) := ⟨⟨h.1.c0, h.1.c1⟩, h.2.c0, h.2.c1⟩
set_option maxRecDepth 100000 in
set_option maxHeartbeats 16000000 in
theorem walk (s : ByteArray) (w : World) (hs : s.size ≤ maxLen) :
    Calls Tryz.prog 3 #[.string s] w fun e w' => e = .returned (.bool true) ∧ Below w.heap.size w w' := by
  unfold maxLen at hs
  by_cases hl : 5000 < s.size
  case pos =>
    have hl' : (5000 : Int) < (s.size : Int) := by omega
    go_enter Tryz.func3, Tryz.ntmps3
    go_wp2_with fail
    refine (alive5_any _).mono ?_
    rintro e w1 ⟨rfl, hb1⟩
    have B := Lib.hid hb1
    clear hb1
    go_wp2
    go_ret
    exact ⟨rfl, B.out⟩
  case neg =>
    have hl' : decide ((5000 : Int) < (s.size : Int)) = false := decide_eq_false (by omega)
    obtain ⟨x, hx⟩ : ∃ x, strOf x = s := ⟨s.data.toList, list_strOf s⟩
    have hxl : x.length ≤ 40000000 := by
      have h := strOf_size x
      rw [hx] at h
      omega
    have R1 := fun w => hread_any x hxl w
    have R2 := fun w => rread5_any x hxl w
    have R3 := fun w => normal_any x hxl w
    have hacc := fun w => accepts_any x hxl w
    have hg := readL_good (n := 0) (V := []) (e := false) (l := linesOf x)
    have hb := readL_bad (n := 0) (V := []) (e := false) (l := linesOf x)
    rw [show readL 0 [] false (linesOf x) = readT x from rfl] at hg hb
    have hso := readT_sorted x
    rw [hx] at R1 R2 R3 hacc
    obtain ⟨r, hr⟩ : ∃ r, readT x = r := ⟨_, rfl⟩
    rw [hr] at R1 R2 R3 hacc hg hb hso
    obtain ⟨V, l, c⟩ := r
    clear hx hxl hr
    by_cases hc : c = 0
    case pos =>
      subst hc
      obtain rfl : l = 0 := hg rfl
      have hac : ∀ w, Calls Tryz.prog 10 #[.string s] w fun e w' => e = .returned (.bool true) ∧ Below w.heap.size w w' := hacc
      have NS : normS (V, 0, 0) = strOf (textW 16 V) := rfl
      simp only [NS] at R3
      obtain ⟨t, ht⟩ : ∃ t, strOf (textW 16 V) = t := ⟨_, rfl⟩
      have HT := Lib.hid ht
      rw [ht] at R3
      have tt : (t.toList == t.toList) = true := by simp
      clear hacc NS ht hb hg
      go_enter Tryz.func3, Tryz.ntmps3
      go_wp2_with fail
      refine (R1 w).mono ?_
      rintro e w1 ⟨g1, g2, hb1⟩
      obtain ⟨b, rfl, -, hI⟩ := g1 rfl
      have al1 : Below w1.heap.size w1 (w1.alloc (.cells #[.int .i64 0, .int .i64 0] 26)) := (Below.refl _ _).alloc (Nat.le_refl _) _
      have T1 : Hid (Two (w1.alloc (.cells #[.int .i64 0, .int .i64 0] 26)) w1.heap.size 26 (.int .i64 0) (.int .i64 0)) := World.alloc_heap_new _ _
      have K1 : Hid (Below w.heap.size w (w1.alloc (.cells #[.int .i64 0, .int .i64 0] 26))) := hb1.trans (al1.mono hb1.size)
      have I1 := Lib.hid (hI.below al1)
      clear g1 g2 hb1 al1 R1 hI
      go_wp2_with fail
      refine (R2 _).mono ?_
      rintro e w2 ⟨A, cap, rfl, hcap, hC, hb2⟩
      have K2 : Hid (Below w.heap.size w w2) := K1.out.trans (hb2.mono K1.out.size)
      have T2 : Hid (Two w2 w1.heap.size 26 (.int .i64 0) (.int .i64 0)) := (hb2.block _ T1.out.lt).trans T1.out
      have P2 := Lib.hid (hC.mono (Q := fun _ => True) fun _ _ _ => trivial)
      have I2 := Lib.hid (I1.out.below hb2)
      clear hcap hC hb2 R2 T1 K1 I1
      go_wp2_with fail
      refine (R3 _).mono ?_
      rintro e w3 ⟨rfl, hb3⟩
      have al3 : Below w3.heap.size w3 (w3.alloc (.cells #[.int .i64 0, .int .i64 0] 26)) := (Below.refl _ _).alloc (Nat.le_refl _) _
      have q3 : Below w2.heap.size w2 ((w3.alloc (.cells #[.int .i64 0, .int .i64 0] 26)).drew) := (hb3.trans (al3.mono hb3.size)).drew
      have TD : TwoF ((w3.alloc (.cells #[.int .i64 0, .int .i64 0] 26)).drew) w1.heap.size w3.heap.size 0 0 := ⟨(q3.block _ T2.out.lt).trans T2.out, World.alloc_heap_new _ _⟩
      have K6 : Hid (Below w.heap.size w ((w3.alloc (.cells #[.int .i64 0, .int .i64 0] 26)).drew)) := K2.out.trans (q3.mono K2.out.size)
      have P6 := Lib.hid (P2.out.below q3)
      have I6 := Lib.hid (I2.out.below q3)
      obtain ⟨f4, hf4⟩ : ∃ f, w1.heap.size = f := ⟨_, rfl⟩
      obtain ⟨f9, hf9⟩ : ∃ f, w3.heap.size = f := ⟨_, rfl⟩
      rw [hf4, hf9] at TD
      rw [hf4]
      have TT := Lib.hid TD
      have CC := Lib.hid TD.cells
      clear al3 hb3 q3 TD R3 T2 K2 P2 hf4 I2
      go_wp2
      refine Mixed.wp_region_mixed (fun w' => (w'.cell? ⟨f4, 0, none⟩ = some (.int .i64 0) ∧ w'.cell? ⟨f4, 1, none⟩ = some (.int .i64 0)) ∧ w'.cell? ⟨f9, 0, none⟩ = some (.int .i64 0) ∧ w'.cell? ⟨f9, 1, none⟩ = some (.int .i64 0)) 23
        [(0, true), (1, true), (2, true), (3, false), (4, true), (5, true), (6, true), (7, true), (8, true), (9, true), (10, true), (11, true), (12, true), (13, true), (14, true), (15, true), (16, true), (17, true), (18, true), (20, true), (21, true), (19, false), (22, true)] (by kernel_rfl) (by kernel_rfl) CC.out ?_
      refine Mixed.wpMix_pure rfl (by kernel_rfl) (.agg #[.int .i64 0, .int .i64 0]) (fun w h => by obtain ⟨⟨p0, p1⟩, s0, s1⟩ := h; go_simp; try rfl) ?_
      refine Mixed.wpMix_move rfl (by kernel_rfl) _ rfl _ rfl ?_
      refine Mixed.wpMix_move rfl (by kernel_rfl) _ rfl _ rfl ?_
      refine Mixed.wpMix_loud rfl ?_
      go_wp2_with fail
      refine (fault5_any 0 0 _).mono ?_
      rintro e w7 ⟨rfl, hb7⟩
      have C7 := Lib.hid (TT.out.below hb7).cells
      have K7 : Hid (Below w.heap.size w w7) := K6.out.trans (hb7.mono K6.out.size)
      have T7 := Lib.hid (TT.out.below hb7)
      have P7 := Lib.hid (P6.out.below hb7)
      have I7 := Lib.hid (I6.out.below hb7)
      clear hb7
      go_wp2
      refine ⟨C7.out, ?_⟩
      refine Mixed.wpMix_pure rfl (by kernel_rfl) (.bool false) (fun w h => by clear h; go_simp; try simp) ?_
      refine Mixed.wpMix_move rfl (by kernel_rfl) _ rfl _ rfl ?_
      refine Mixed.wpMix_pure rfl (by kernel_rfl) (.agg #[.int .i64 0, .int .i64 0]) (fun w h => by obtain ⟨⟨p0, p1⟩, s0, s1⟩ := h; go_simp; try rfl) ?_
      refine Mixed.wpMix_pure rfl (by kernel_rfl) (.agg #[.int .i64 0, .int .i64 0]) (fun w h => by obtain ⟨⟨p0, p1⟩, s0, s1⟩ := h; go_simp; try rfl) ?_
      refine Mixed.wpMix_pure rfl (by kernel_rfl) (.bool false) (fun w h => by clear h; go_simp; try simp) ?_
      refine Mixed.wpMix_pure rfl (by kernel_rfl) (.bool false) (fun w h => by clear h; go_simp; try rfl) ?_
      refine Mixed.wpMix_move rfl (by kernel_rfl) _ rfl _ rfl ?_
      refine Mixed.wpMix_move rfl (by kernel_rfl) _ rfl _ rfl ?_
      refine Mixed.wpMix_pure rfl (by kernel_rfl) (.bool false) (fun w h => by clear h; go_simp; try rfl) ?_
      refine Mixed.wpMix_move rfl (by kernel_rfl) _ rfl _ rfl ?_
      refine Mixed.wpMix_pure rfl (by kernel_rfl) (.bool false) (fun w h => by clear h; go_simp; try simp ) ?_
      refine Mixed.wpMix_pure rfl (by kernel_rfl) (.bool false) (fun w h => by clear h; go_simp; try rfl) ?_
      refine Mixed.wpMix_pure rfl (by kernel_rfl) (.bool false) (fun w h => by clear h; go_simp; try rfl) ?_
      refine Mixed.wpMix_move rfl (by kernel_rfl) _ rfl _ rfl ?_
      refine Mixed.wpMix_move rfl (by kernel_rfl) _ rfl _ rfl ?_
      refine Mixed.wpMix_move rfl (by kernel_rfl) _ rfl _ rfl ?_
      refine Mixed.wpMix_pure rfl (by kernel_rfl) (.bool true) (fun w h => by clear h; go_simp; try simp ) ?_
      refine Mixed.wpMix_loudG rfl (by kernel_rfl) ?_
      go_wp2_with fail
      refine (hac w7).mono ?_
      rintro e w8 ⟨rfl, hb8⟩
      have C8 := Lib.hid (T7.out.below hb8).cells
      have K8 : Hid (Below w.heap.size w w8) := K7.out.trans (hb8.mono K7.out.size)
      have P8 := Lib.hid (P7.out.below hb8)
      have I8 := Lib.hid (I7.out.below hb8)
      clear hb8
      go_wp2
      refine ⟨C8.out, ?_⟩
      refine Mixed.wpMix_pure rfl (by kernel_rfl) (.bool false) (fun w h => by clear h; go_simp; try rfl) ?_
      simp only [Mixed.wpMix, List.drop_succ_cons, List.drop_zero]
      go_wp2_with fail
      refine (alive5_any _).mono ?_
      rintro e w9 ⟨rfl, hb9⟩
      have K9 : Hid (Below w.heap.size w w9) := K8.out.trans (hb9.mono K8.out.size)
      have hls := Im.lsame_any b V _ A cap w9 (I8.out.below hb9) (P8.out.below hb9)
      have P9 := Lib.hid (P8.out.below hb9)
      clear hb9
      go_wp2_with fail
      refine hls.mono ?_
      rintro e w10 ⟨rfl, hb10⟩
      have K10 : Hid (Below w.heap.size w w10) := K9.out.trans (hb10.mono K9.out.size)
      have hrw := rwrite_any _ A cap V hso w10 (P9.out.below hb10)
      rw [HT.out] at hrw
      clear hb10 hls
      go_wp2_with fail
      refine hrw.mono ?_
      rintro e w11 ⟨rfl, hb11⟩
      have KF : Hid (Below w.heap.size w w11) := K10.out.trans (hb11.mono K10.out.size)
      clear hb11 hrw
      go_wp2
      go_ret
      exact ⟨rfl, KF.out⟩
    case neg =>
      have hac : ∀ w, Calls Tryz.prog 10 #[.string s] w fun e w' => e = .returned (.bool false) ∧ Below w.heap.size w w' := fun w => by
        have h := hacc w
        rwa [show decide ((V, l, c).2.2 = 0) = false from decide_eq_false hc] at h
      have NS : normS (V, l, c) = ⟨#[]⟩ := by unfold normS; rw [if_neg hc]
      simp only [NS] at R3
      obtain rfl : V = [] := hb hc
      have n1 : (c == 0) = false := beq_eq_false_iff_ne.2 hc
      have n2 : (c != 0) = true := by unfold bne; rw [n1]; rfl
      have HC := Lib.hid hc
      clear hacc NS hb hg hc
      go_enter Tryz.func3, Tryz.ntmps3
      go_wp2_with fail
      refine (R1 w).mono ?_
      rintro e w1 ⟨g1, g2, hb1⟩
      obtain rfl := g2 HC.out
      have al1 : Below w1.heap.size w1 (w1.alloc (.cells #[.int .i64 l, .int .i64 c] 26)) := (Below.refl _ _).alloc (Nat.le_refl _) _
      have T1 : Hid (Two (w1.alloc (.cells #[.int .i64 l, .int .i64 c] 26)) w1.heap.size 26 (.int .i64 l) (.int .i64 c)) := World.alloc_heap_new _ _
      have K1 : Hid (Below w.heap.size w (w1.alloc (.cells #[.int .i64 l, .int .i64 c] 26))) := hb1.trans (al1.mono hb1.size)
      clear g1 g2 hb1 al1 R1
      go_wp2_with fail
      refine (R2 _).mono ?_
      rintro e w2 ⟨A, cap, rfl, hcap, hC, hb2⟩
      have K2 : Hid (Below w.heap.size w w2) := K1.out.trans (hb2.mono K1.out.size)
      have T2 : Hid (Two w2 w1.heap.size 26 (.int .i64 l) (.int .i64 c)) := (hb2.block _ T1.out.lt).trans T1.out
      have P2 := Lib.hid (hC.mono (Q := fun _ => True) fun _ _ _ => trivial)
      clear hcap hC hb2 R2 T1 K1
      go_wp2_with fail
      refine (R3 _).mono ?_
      rintro e w3 ⟨rfl, hb3⟩
      have al3 : Below w3.heap.size w3 (w3.alloc (.cells #[.int .i64 l, .int .i64 c] 26)) := (Below.refl _ _).alloc (Nat.le_refl _) _
      have q3 : Below w2.heap.size w2 ((w3.alloc (.cells #[.int .i64 l, .int .i64 c] 26)).drew) := (hb3.trans (al3.mono hb3.size)).drew
      have TD : TwoF ((w3.alloc (.cells #[.int .i64 l, .int .i64 c] 26)).drew) w1.heap.size w3.heap.size l c := ⟨(q3.block _ T2.out.lt).trans T2.out, World.alloc_heap_new _ _⟩
      have K6 : Hid (Below w.heap.size w ((w3.alloc (.cells #[.int .i64 l, .int .i64 c] 26)).drew)) := K2.out.trans (q3.mono K2.out.size)
      have P6 := Lib.hid (P2.out.below q3)
      obtain ⟨f4, hf4⟩ : ∃ f, w1.heap.size = f := ⟨_, rfl⟩
      obtain ⟨f9, hf9⟩ : ∃ f, w3.heap.size = f := ⟨_, rfl⟩
      rw [hf4, hf9] at TD
      rw [hf4]
      have TT := Lib.hid TD
      have CC := Lib.hid TD.cells
      clear al3 hb3 q3 TD R3 T2 K2 P2 hf4
      go_wp2
      refine Mixed.wp_region_mixed (fun w' => (w'.cell? ⟨f4, 0, none⟩ = some (.int .i64 l) ∧ w'.cell? ⟨f4, 1, none⟩ = some (.int .i64 c)) ∧ w'.cell? ⟨f9, 0, none⟩ = some (.int .i64 l) ∧ w'.cell? ⟨f9, 1, none⟩ = some (.int .i64 c)) 23
        [(0, true), (1, true), (2, true), (3, false), (4, true), (5, true), (6, true), (7, true), (8, true), (9, true), (10, true), (11, true), (12, true), (13, true), (14, true), (15, true), (16, true), (17, true), (18, true), (20, true), (21, true), (19, false), (22, true)] (by kernel_rfl) (by kernel_rfl) CC.out ?_
      refine Mixed.wpMix_pure rfl (by kernel_rfl) (.agg #[.int .i64 l, .int .i64 c]) (fun w h => by obtain ⟨⟨p0, p1⟩, s0, s1⟩ := h; go_simp; try rfl) ?_
      refine Mixed.wpMix_move rfl (by kernel_rfl) _ rfl _ rfl ?_
      refine Mixed.wpMix_move rfl (by kernel_rfl) _ rfl _ rfl ?_
      refine Mixed.wpMix_loud rfl ?_
      go_wp2_with fail
      refine (fault5_any l c _).mono ?_
      rintro e w7 ⟨rfl, hb7⟩
      have C7 := Lib.hid (TT.out.below hb7).cells
      have K7 : Hid (Below w.heap.size w w7) := K6.out.trans (hb7.mono K6.out.size)
      have T7 := Lib.hid (TT.out.below hb7)
      have P7 := Lib.hid (P6.out.below hb7)
      clear hb7
      go_wp2
      refine ⟨C7.out, ?_⟩
      refine Mixed.wpMix_pure rfl (by kernel_rfl) (.bool false) (fun w h => by clear h; go_simp; try simp) ?_
      refine Mixed.wpMix_move rfl (by kernel_rfl) _ rfl _ rfl ?_
      refine Mixed.wpMix_pure rfl (by kernel_rfl) (.agg #[.int .i64 l, .int .i64 c]) (fun w h => by obtain ⟨⟨p0, p1⟩, s0, s1⟩ := h; go_simp; try rfl) ?_
      refine Mixed.wpMix_pure rfl (by kernel_rfl) (.agg #[.int .i64 l, .int .i64 c]) (fun w h => by obtain ⟨⟨p0, p1⟩, s0, s1⟩ := h; go_simp; try rfl) ?_
      refine Mixed.wpMix_pure rfl (by kernel_rfl) (.bool false) (fun w h => by clear h; go_simp; try simp) ?_
      refine Mixed.wpMix_pure rfl (by kernel_rfl) (.bool false) (fun w h => by clear h; go_simp; try rfl) ?_
      refine Mixed.wpMix_move rfl (by kernel_rfl) _ rfl _ rfl ?_
      refine Mixed.wpMix_move rfl (by kernel_rfl) _ rfl _ rfl ?_
      refine Mixed.wpMix_pure rfl (by kernel_rfl) (.bool true) (fun w h => by clear h; go_simp; try rfl) ?_
      refine Mixed.wpMix_move rfl (by kernel_rfl) _ rfl _ rfl ?_
      refine Mixed.wpMix_pure rfl (by kernel_rfl) (.bool true) (fun w h => by clear h; go_simp; try simp [n1, n2]) ?_
      refine Mixed.wpMix_pure rfl (by kernel_rfl) (.bool false) (fun w h => by clear h; go_simp; try rfl) ?_
      refine Mixed.wpMix_pure rfl (by kernel_rfl) (.bool false) (fun w h => by clear h; go_simp; try rfl) ?_
      refine Mixed.wpMix_move rfl (by kernel_rfl) _ rfl _ rfl ?_
      refine Mixed.wpMix_move rfl (by kernel_rfl) _ rfl _ rfl ?_
      refine Mixed.wpMix_move rfl (by kernel_rfl) _ rfl _ rfl ?_
      refine Mixed.wpMix_pure rfl (by kernel_rfl) (.bool false) (fun w h => by clear h; go_simp; try simp [n1, n2]) ?_
      refine Mixed.wpMix_loudG rfl (by kernel_rfl) ?_
      go_wp2_with fail
      refine (hac w7).mono ?_
      rintro e w8 ⟨rfl, hb8⟩
      have C8 := Lib.hid (T7.out.below hb8).cells
      have K8 : Hid (Below w.heap.size w w8) := K7.out.trans (hb8.mono K7.out.size)
      have P8 := Lib.hid (P7.out.below hb8)
      clear hb8
      go_wp2
      refine ⟨C8.out, ?_⟩
      refine Mixed.wpMix_pure rfl (by kernel_rfl) (.bool false) (fun w h => by clear h; go_simp; try rfl) ?_
      simp only [Mixed.wpMix, List.drop_succ_cons, List.drop_zero]
      go_wp2_with fail
      refine (alive5_any _).mono ?_
      rintro e w9 ⟨rfl, hb9⟩
      have KF : Hid (Below w.heap.size w w9) := K8.out.trans (hb9.mono K8.out.size)
      clear hb9
      go_wp2
      go_ret
      exact ⟨rfl, KF.out⟩

set_option maxRecDepth 100000 in
theorem lifted (os : Os) (started : os.Started) (H : Type) (enc : TypeId × Value → H) :
    ReturnsInHanded {} Tryz.checked os 3 .any (fun w args => (Rows.hexreadReadsSpec.pre enc Tryz.prog Tryz.f3 [] false w args ∧ laidMetH Tryz.prog Rows.hexreadReadsRow.laid w) ∧ sizedMet enc Tryz.prog Tryz.f3 (OpenSpec.ofChange Rows.hexreadReadsSpec) false w args)
      (Rows.hexreadReadsSpec.post enc Tryz.prog Tryz.f3 false true false false) := by
  refine returnsInHanded_of_change_and (C := Tryz.checked) (X := fun w _ => laidMetH Tryz.prog Rows.hexreadReadsRow.laid w) (fun _ _ _ hh h => h.of_heap hh) own started (by kernel_rfl) Tryz.func3
    (ChangeSpec.witness_shaped (enc := enc) (C := Tryz.checked) (os := os) (X := fun w _ => laidMetH Tryz.prog Rows.hexreadReadsRow.laid w) false (World.laidAll Tryz.prog os Rows.hexreadReadsRow.laid) #[.string ⟨#[]⟩] 8 (World.laidAll_os _ _ _)
      (World.shaped_of_ZipB (by kernel_rfl) (by kernel_rfl)) (by kernel_rfl) (by kernel_rfl) (by kernel_rfl)
      (by rw [MakeChecks.laidMetH_plain _ _ _ (by kernel_rfl)]; exact laidMet_laidAll _ (by kernel_rfl) (by kernel_rfl))) ?_
  intro W base args ds gs before hval0 hW _ _ hL _
  have hval : ∀ (j : Nat) t v, Tryz.f3.params[j]? = some t → args[j]? = some v → Value.okWide Tryz.prog W .any base t v := hval0
  have hW' := hW
  obtain ⟨p, q, hA0, hV, rfl, _, _⟩ := hW
  have hA : DataW.TrodAll enc Tryz.prog W 0 (fun _ => true) true Tryz.f3.params.toList args.toList ds p := hA0
  rw [Tryz.params3] at hA hval
  obtain ⟨v0, vs0, d0, ds0, p0, q0, hargs, rfl, rfl, h0, r0⟩ := trodAll_cons hA
  obtain ⟨rfl, rfl, rfl⟩ := trodAll_nil r0
  obtain rfl : args = #[v0] := by cases args; simp_all
  obtain ⟨rfl, rfl⟩ := trodVars_none hV
  obtain ⟨s0, rfl, rfl, rfl, w0⟩ := open_string Tryz.underlying9 (hval 0 9 v0 rfl rfl) h0
  clear hA0 hval0
  refine (walk s0 W w0).mono fun e W' ⟨he, bel⟩ => ?_
  subst he
  exact ⟨_, rfl, _, _, _, [], _, [], hW', trodAll_mk1 (shut_bool Tryz.underlying4 _), (trodAll_cons_mk (shut_string Tryz.underlying9 w0) trodAll_mk0), rfl, bel.frame _, fun h => by cases h⟩

theorem over : Rows.HexreadReadsSaid :=
  OpenClaim.holds_of_wide 3 Tryz.f3 rfl rfl rfl rfl rfl rfl rfl ⟨rfl, rfl, rfl, rfl, rfl⟩ rfl rfl rfl rfl rfl (by kernel_rfl) Tryz.func3 (by kernel_rfl)
    (of_decide_eq_true (by kernel_rfl)) (by unfold Func.isWrapper; first | (rw [if_pos (by decide +kernel)]; kernel_rfl) | (rw [if_neg (by decide +kernel)]; exact ⟨rfl, rfl⟩))
    (fun os started H enc _ => lifted os started H enc)
theorem card_holds : Rows.HexreadReadsCardSaid :=
  Claim7.holds_tied_plain_at .later [] [.data, .pinned] true Rows.hexreadReadsCard.stood.harness false over (fun _ h => by cases h) (by kernel_rfl) (fun _ h => by cases h) hexreadReads_row_tie rfl ⟨rfl, rfl⟩ (by kernel_rfl) rfl
    (fun f fn hf hfn => by
      obtain rfl : f = 3 := Option.some.inj ((show Tryz.prog.funcNamed "breadboard/breadboardlaw05.HexreadReads" = some 3 by kernel_rfl).symm.trans hf) |>.symm
      obtain rfl : fn = Tryz.f3 := (Option.some.inj (Tryz.func3.symm.trans hfn)).symm
      exact ⟨by kernel_rfl, fun j t ht => by
        rw [Tryz.params3] at ht
        have hm : t ∈ [9] := by simpa [or_assoc, or_comm, or_left_comm] using Array.mem_of_getElem? ht
        have hall : ([9].all fun u => !Tryz.prog.wantsStandIn u) = true := by kernel_rfl
        exact (show Tryz.prog.wantsStandIn t = false by simpa using List.all_eq_true.1 hall t hm)⟩)
    (by kernel_rfl)
#print axioms card_holds
end Go.Proofs.YtmeegpdjhcilkaaGreatDoor.hexreadReadsDone
