/-
  The walk over record.Print: for every record, its line, or nothing and false.
-/
import Derived.Test.YtbnehcnimbkakaaRecK
import Derived.Test.YtbnehcnimbkakaaRecD
import Derived.Laws.EntriesVeiled
import Derived.Test.YtbnehcnimbkakaaRecH
namespace Go.Proofs.Ytbnehcnimbkakaa
open Go.RowKit
set_option linter.unusedVariables false

/-- The four bytes in front of a record's data. -/
def hdrB (T a : Int) (n : Nat) : List UInt8 := [lowU n, lowU (a / 256), lowU a, lowU T]
/-- The bytes of a record. -/
def recB (T a : Int) (D : List UInt8) : List UInt8 := hdrB T a D.length ++ D
/-- The line of a record. -/
def printL (T a : Int) (D : List UInt8) : List UInt8 := 58 :: hexL (recB T a D ++ [lowU (chkI (recB T a D))])
def printS (T a : Int) (D : List UInt8) : ByteArray := if rightB T a D.length then strOf (printL T a D) else ⟨#[]⟩
theorem chk_u (xs : List UInt8) : ((lowU (chkI xs)).toNat : Int) = chkI xs := by rw [lowU_nat]; have := chkI_bd xs; omega

theorem ints_four (w : World) (n : Nat) (hn : w.heap.size = n) (x y z u : Int) (t : TypeId) : IntsAt (w.alloc (.cells #[.int .i64 x, .int .i64 y, .int .i64 z, .int .i64 u] t)) (some ⟨n, 0, none⟩) [x, y, z, u] := by
  subst hn
  refine .inr ⟨_, _, rfl, fun j h => ?_⟩
  match j, h with
  | 0, _ => simp [go_sem]
  | 1, _ => simp [go_sem]
  | 2, _ => simp [go_sem]
  | 3, _ => simp [go_sem]
  | j + 4, h => simp at h; omega
theorem bytes_one (w : World) (n : Nat) (hn : w.heap.size = n) (x : UInt8) (t : TypeId) : BytesP (fun i => i = n) (w.alloc (.cells #[.int .u8 (x.toNat : Int)] t)) (some ⟨n, 0, none⟩) [x] := by
  subst hn
  refine .inr ⟨_, 0, rfl, rfl, fun j hj => ?_⟩
  have : j = 0 := by simpa using hj
  subst this
  simp [go_sem]
/-- What a writing leaves below N. -/
theorem pr_low {b d N : Nat} {w w' : World} {v v' : Value} (hb : N < b) (hd : N < d) (hN : N < w.heap.size) (hV : ∀ g, v.ownBlock = some g → N < g) (hO : ∀ g, v'.ownBlock = some g → v.ownBlock = some g ∨ w.heap.size ≤ g)
    (hK : KeptP (fun i => i ≠ b ∧ i ≠ d ∧ some i ≠ v.ownBlock) w w') : (∀ g, v'.ownBlock = some g → N < g) ∧ KeptP (· < N + 1) w w' := by
  refine ⟨fun g hg => ?_, hK.mono fun i _ hi => ⟨by omega, by omega, fun e => ?_⟩⟩
  · rcases hO g hg with h | h
    · exact hV g h
    · omega
  · have := hV i e.symm; omega
theorem sum_hdr (T a : Int) (D : List UInt8) : sumI (hdrB T a D.length) + sumI D = sumI (recB T a D) := by unfold recB; rw [sumI_append]

set_option maxHeartbeats 4000000 in
theorem print_any (T a : Int) (A : Option Addr) (cap : Nat) (D : List UInt8) (hl : D.length ≤ maxLen) (w : World) (hX : BytesP (· < w.heap.size) w A D) :
    Calls Try.prog 10 #[.agg #[.int .i64 T, .int .i64 a, .slice A D.length cap]] w fun e w' => e = .returned (.tuple #[.string (printS T a D), .bool (rightB T a D.length)]) ∧ Below w.heap.size w w' := by
  have hR := fun w => isRight_any T a A D.length cap hl w
  cases hr : rightB T a D.length
  · have N : Hid (printS T a D = ⟨#[]⟩) := by show _ = _; unfold printS; rw [hr]; rfl
    simp only [hr] at hR
    clear hr
    go_enter Try.func10, Try.ntmps10
    go_wp2_with fail
    refine (hR _).mono ?_
    rintro e w1 ⟨rfl, hB1⟩
    have B1 := Lib.hid hB1
    clear hB1 hR
    go_wp2
    go_ret2
    rw [N.out]
    exact ⟨rfl, ((Below.refl _ _).alloc (Nat.le_refl _) _).trans (B1.out.mono (by simp))⟩
  · have N : Hid (printS T a D = strOf (printL T a D)) := by show _ = _; unfold printS; rw [hr]; rfl
    simp only [hr] at hR
    have hrr : 0 ≤ T ∧ T ≤ 255 ∧ 0 ≤ a ∧ a ≤ 65535 ∧ D.length ≤ 255 := by unfold rightB at hr; exact of_decide_eq_true hr
    obtain ⟨r1, r2, r3, r4, r5⟩ := hrr
    have XX := Lib.hid hX
    clear hr hX
    have hmf : ∀ (fn : Fn) (first cap : Array Value) (w : World), (Instr.makeFunc fn first cap).run Try.prog w = .ok (.func fn first cap) w := fun _ _ _ _ => rfl
    go_enter Try.func10, Try.ntmps10
    go_wp2_with fail
    refine (hR _).mono ?_
    rintro e w1 ⟨rfl, hB1⟩
    have hal : Below w.heap.size w (w.alloc (.cells #[.int .i64 T, .int .i64 a, .slice A D.length cap] 28)) := (Below.refl _ _).alloc (Nat.le_refl _) _
    have htr := Tri.new w _ rfl (.int .i64 T) (.int .i64 a) (.slice A D.length cap) 28
    have htr1 := htr.kept (P := fun _ => True) (KeptP.of_all hB1) trivial
    have hX1 := (XX.out.below hal).below hB1
    have hB0 : Below w.heap.size w w1 := hal.trans (hB1.mono (by simp))
    have T1 := Lib.hid htr1
    have X1 := Lib.hid hX1
    have B0 := Lib.hid hB0
    clear hR hB1 hal htr htr1 hX1 hB0 XX
    go_wp2_with fail
    refine (adder_any _).mono ?_
    rintro e w' ⟨rfl, rfl⟩
    go_wp2_with fail
    have hs1 := B0.out.size
    obtain ⟨wA, hwA⟩ : ∃ wA, ((w1.alloc (.cells #[.pointer none, .slice none 0 0] 59)).alloc (.cells #[.int .u8 0] 5)).alloc (.cells #[.func (.func 42) #[] #[.pointer (some ⟨w1.heap.size + 1, 0, none⟩)]] 40) = wA := ⟨_, rfl⟩
    have kA : KeptP (fun _ => True) w1 wA := by rw [← hwA]; exact (((KeptP.refl _ _).alloc _).alloc _).alloc _
    have hszA : wA.heap.size = w1.heap.size + 3 := by rw [← hwA]; simp
    have bA : Bld w1.heap.size wA (.pointer none) (.slice none 0 0) [] := by
      rw [← hwA]
      exact (Bld.fresh w1 _ rfl).kept (P := fun _ => True) (((KeptP.refl _ _).alloc _).alloc _) trivial fun _ _ => trivial
    have sA : SumAt (w1.heap.size + 1) wA 0 := by
      rw [← hwA]
      have h := SumAt.new (w1.alloc (.cells #[.pointer none, .slice none 0 0] 59)) 5
      rw [World.size_alloc] at h
      exact h.kept (P := fun _ => True) ((KeptP.refl _ _).alloc _) trivial
    have cA : wA.cell? ⟨w1.heap.size + 1 + 1, 0, none⟩ = some (.func (.func 42) #[] #[.pointer (some ⟨w1.heap.size + 1, 0, none⟩)]) := by rw [← hwA]; simp [go_sem]
    have hwb := writeByte_any w1.heap.size wA 58 bA
    have e58 : (((58 : UInt8).toNat : Nat) : Int) = 58 := rfl
    rw [e58] at hwb
    rw [hwA]
    have HSA := Lib.hid hszA
    have KA := Lib.hid kA
    have SA := Lib.hid sA
    have CA := Lib.hid cA
    clear e58 kA hszA bA sA cA hwA
    refine hwb.mono ?_
    rintro e w2 ⟨rfl, v2, hB2, hV2, hK2⟩
    have hsA := HSA.out
    have P2 : Hid (Pr w1.heap.size (w1.heap.size + 1 + 1) (w1.heap.size + 1) w2 v2 [58] 0) := by
      show Pr _ _ _ _ _ _ _
      refine ⟨hB2, (hK2.cell (p := ⟨w1.heap.size + 1 + 1, 0, none⟩) (by simp; omega) (by show w1.heap.size + 1 + 1 ≠ w1.heap.size; omega)).trans CA.out, SA.out.kept hK2 (by omega), by omega, by omega, by omega, fun e => ?_, fun e => ?_⟩
      · have := hV2 _ e; omega
      · have := hV2 _ e; omega
    have V2 : Hid (∀ g, v2.ownBlock = some g → w.heap.size < g) := fun g hg => by have := hV2 g hg; omega
    have K2 : Hid (KeptP (· < w.heap.size + 1) w1 w2) := by
      show KeptP _ _ _
      exact (KA.out.mono fun _ _ _ => trivial).trans (hK2.mono fun i _ hi => by have := T1.out.1; omega)
    have hT2 := T1.out.kept K2.out (by omega)
    have X2 := Lib.hid (X1.out.kept K2.out fun i _ hi => by omega)
    have T2 := Lib.hid hT2
    obtain ⟨-, q0, q1, q2, -⟩ := hT2
    clear hwb hB2 hV2 hK2
    go_wp2_with fail
    have hal3 : Below w2.heap.size w2 (w2.alloc (.cells #[.int .i64 (D.length : Int), .int .i64 (a / 256), .int .i64 a, .int .i64 T] 3)) := (Below.refl _ _).alloc (Nat.le_refl _) _
    have hlow := lowN_any (some ⟨w2.heap.size, 0, none⟩) 4 [(D.length : Int), a / 256, a, T] (by simp) _ (ints_four w2 _ rfl (D.length : Int) (a / 256) a T 3)
    have A3 := Lib.hid hal3
    clear hal3
    refine hlow.mono ?_
    rintro e w3 ⟨A3', cap3, rfl, hX3, -, hN3, hB3⟩
    clear hlow
    have B3 : Hid (Below w2.heap.size w2 w3) := A3.out.trans (hB3.mono (by simp))
    have XH : Hid (BytesP (fun i => w2.heap.size ≤ i ∧ i < w3.heap.size) w3 A3' (hdrB T a D.length)) := (hX3.toNew hN3).mono fun i _ h => by simp at h; omega
    have P3 := P2.out.kept (KeptP.of_all B3.out)
    have q0' := (B3.out.cell (p := ⟨w.heap.size, 0, none⟩) (World.block_lt_of_cell? w2 _ q0)).trans q0
    have q1' := (B3.out.cell (p := ⟨w.heap.size, 1, none⟩) (World.block_lt_of_cell? w2 _ q1)).trans q1
    have q2' := (B3.out.cell (p := ⟨w.heap.size, 2, none⟩) (World.block_lt_of_cell? w2 _ q2)).trans q2
    have hc1 := writeC_any (fun i => w2.heap.size ≤ i ∧ i < w3.heap.size) A3' cap3 (hdrB T a D.length) w1.heap.size (w1.heap.size + 1 + 1) (w1.heap.size + 1) w3 v2 [58] 0 (by simp [hdrB]) P3 (by have := P2.out.bld.lt; omega) (by have := P2.out.sum.1; omega)
      (fun g hg => by have := own_lt P2.out.bld hg; omega) XH.out
    clear q0 q1 q2 hX3 hN3 hB3 P3
    go_wp2_with fail
    have nb : w.heap.size < w1.heap.size := T1.out.1
    have hb3 : w.heap.size < w3.heap.size := by have := B3.out.size; have := P2.out.bld.lt; omega
    refine hc1.mono ?_
    rintro e w4 ⟨rfl, v4, hP4, hO4, hK4⟩
    clear hc1
    obtain ⟨hV4, hL4⟩ := pr_low nb (show w.heap.size < w1.heap.size + 1 by omega) hb3 V2.out hO4 hK4
    have q0 := (hL4.cell (p := ⟨w.heap.size, 0, none⟩) (World.block_lt_of_cell? w3 _ q0') (by simp)).trans q0'
    have q1 := (hL4.cell (p := ⟨w.heap.size, 1, none⟩) (World.block_lt_of_cell? w3 _ q1') (by simp)).trans q1'
    have q2 := (hL4.cell (p := ⟨w.heap.size, 2, none⟩) (World.block_lt_of_cell? w3 _ q2') (by simp)).trans q2'
    have L4 : Hid (KeptP (· < w.heap.size + 1) w1 w4) := (K2.out.trans (KeptP.of_all B3.out)).trans hL4
    have X4 : Hid (BytesP (· < w.heap.size) w4 A D) := X1.out.kept L4.out fun i _ hi => by omega
    have hlh := hexL_length (hdrB T a D.length)
    have hl4 : ([58] ++ hexL (hdrB T a D.length)).length = 9 := by rw [List.length_append, hlh]; rfl
    have P4 := Lib.hid hP4
    have V4 := Lib.hid hV4
    have hc2 := writeC_any (· < w.heap.size) A cap D w1.heap.size (w1.heap.size + 1 + 1) (w1.heap.size + 1) w4 v4 _ _ (by rw [hl4]; omega) hP4 (by omega) (by omega) (fun g hg => by have := hV4 g hg; omega) X4.out
    clear q0' q1' q2' hP4 hO4 hK4 hV4 hL4 hlh
    go_wp2_with fail
    refine hc2.mono ?_
    rintro e w5 ⟨rfl, v5, hP5, hO5, hK5⟩
    clear hc2 q0 q1 q2
    have hb4 : w.heap.size < w4.heap.size := Nat.lt_trans nb P4.out.bld.lt
    obtain ⟨hV5, hL5⟩ := pr_low nb (show w.heap.size < w1.heap.size + 1 by omega) hb4 V4.out hO5 hK5
    have L5 : Hid (KeptP (· < w.heap.size + 1) w1 w5) := L4.out.trans hL5
    have P5 := Lib.hid hP5
    have V5 := Lib.hid hV5
    have hck : (-(0 + sumI (hdrB T a D.length) + sumI D)) % 256 = ((lowU (chkI (recB T a D))).toNat : Int) := by
      rw [chk_u, show 0 + sumI (hdrB T a D.length) + sumI D = sumI (recB T a D) by rw [← sum_hdr]; omega]
      rfl
    rw [hck]
    obtain ⟨y, hy⟩ : ∃ y, lowU (chkI (recB T a D)) = y := ⟨_, rfl⟩
    rw [hy]
    have Y := Lib.hid hy
    have hk5 : KeptP (fun _ => True) w5 (w5.alloc (.cells #[.int .u8 (y.toNat : Int)] 5)) := (KeptP.refl _ _).alloc _
    have hl5 : (([58] ++ hexL (hdrB T a D.length)) ++ hexL D).length = 9 + 2 * D.length := by rw [List.length_append, hl4, hexL_length]
    have hc3 := writeC_any (fun i => i = w5.heap.size) (some ⟨w5.heap.size, 0, none⟩) 1 [y] w1.heap.size (w1.heap.size + 1 + 1) (w1.heap.size + 1) _ v5 _ _ (by rw [hl5]; simp only [List.length_cons, List.length_nil]; omega) (hP5.kept hk5) (by have := hP5.bld.lt; omega) (by have := hP5.sum.1; omega)
      (fun g hg => by have := own_lt hP5.bld hg; omega) (bytes_one w5 _ rfl y 5)
    have K5 := Lib.hid hk5
    clear hck hy hk5 hl5 hl4 hP5 hO5 hK5 hV5 hL5
    go_wp2_with fail
    refine hc3.mono ?_
    rintro e w6 ⟨rfl, v6, hP6, hO6, hK6⟩
    clear hc3
    have hb5 : w.heap.size < w5.heap.size := Nat.lt_trans nb P5.out.bld.lt
    obtain ⟨hV6, hL6⟩ := pr_low nb (show w.heap.size < w1.heap.size + 1 by omega) (show w.heap.size < (w5.alloc (.cells #[.int .u8 (y.toNat : Int)] 5)).heap.size by simp; omega) V5.out hO6 hK6
    have L6 : Hid (KeptP (· < w.heap.size + 1) w1 w6) := (L5.out.trans (K5.out.mono fun _ _ _ => trivial)).trans hL6
    have hstr := bString_any w.heap.size w1.heap.size w6 _ _ _ (by simp) hP6.bld (fun g hg => Nat.le_of_lt (hV6 g hg))
    clear hP6 hO6 hK6 hV6 hL6
    go_wp2_with fail
    refine hstr.mono ?_
    rintro e w7 ⟨rfl, hB7⟩
    have hB6 : Below w.heap.size w w6 := B0.out.trans (L6.out.below (B := w.heap.size) (fun i hi => by omega) B0.out.size)
    have B7 := Lib.hid (hB6.trans hB7)
    clear hstr hB6 hB7
    go_wp2
    go_ret2
    rw [N.out]
    have e9 : 58 :: (hexL (hdrB T a D.length) ++ (hexL D ++ hexL [y])) = printL T a D := by
      unfold printL
      rw [hexL_append, Y.out]
      unfold recB
      rw [hexL_append, List.append_assoc]
    exact ⟨congrArg (fun l => Ending.returned (.tuple #[.string (strOf l), .bool true])) e9, B7.out⟩
end Go.Proofs.Ytbnehcnimbkakaa
