/-
  RecK, RecL, RecM, RecN, RecE, RecF, RecO, RecP: texts joined to one.
-/
import Derived.Test.YtmeegpdjhcilkaaDoorRecAllA
import Derived.Laws.EntriesVeiled
import Derived.OwnWalk
import Derived.Laws.AppendOwn
import Derived.Laws.OwnMore
import Derived.Deep.QuietTactic
import Derived.BigQuiet
import Derived.Test.YtmeegpdjhcilkaaDoorLawAll
/-
  The walk over the closure of record.Print that writes bytes.
-/
namespace Go.Proofs.YtmeegpdjhcilkaaDoor
open Go.RowKit
set_option linter.unusedVariables false

/-- The digits of bytes. -/
def hexL (xs : List UInt8) : List UInt8 := xs.flatMap fun x => (hexS (x.toNat : Int) 2).data.toList
theorem hexL_append (xs ys : List UInt8) : hexL (xs ++ ys) = hexL xs ++ hexL ys := by unfold hexL; rw [List.flatMap_append]
theorem hexL_take (xs : List UInt8) (k : Nat) (h : k < xs.length) : hexL (xs.take (k + 1)) = hexL (xs.take k) ++ (hexS (xs[k].toNat : Int) 2).data.toList := by
  rw [List.take_succ_eq_append_getElem h, hexL_append]
  congr 1
theorem hexL_length (xs : List UInt8) : (hexL xs).length = 2 * xs.length := by
  induction xs with
  | nil => rfl
  | cons x t ih =>
    have e : hexL (x :: t) = (hexS (x.toNat : Int) 2).data.toList ++ hexL t := rfl
    have e2 : (hexS (x.toNat : Int) 2).data.toList.length = 2 := by
      have := hexS_size (x.toNat : Int) 2
      simpa using this
    rw [e, List.length_append, ih, e2]
    simp only [List.length_cons]
    omega

/-- The variables of Print: block b the builder (its buffer: v), which holds bs; block c the variable 'add'; block d the sum so far. -/
structure Pr (b c d : Nat) (w : World) (v : Value) (bs : List UInt8) (s : Int) : Prop where
  bld : Bld b w (selfP b) v bs
  add : w.cell? ⟨c, 0, none⟩ = some (.func (.func 100) #[] #[.pointer (some ⟨d, 0, none⟩)])
  sum : SumAt d w s
  bc : b ≠ c
  bd : b ≠ d
  cd : c ≠ d
  vc : v.ownBlock ≠ some c
  vd : v.ownBlock ≠ some d
theorem Pr.cLt {b c d : Nat} {w : World} {v : Value} {bs : List UInt8} {s : Int} (h : Pr b c d w v bs s) : c < w.heap.size := World.block_lt_of_cell? w _ h.add
theorem own_lt {w : World} {b : Nat} {p v : Value} {bs : List UInt8} (h : Bld b w p v bs) {g : Nat} (hg : v.ownBlock = some g) : g < w.heap.size := (h.2.1.lt g hg).2
theorem Pr.kept {b c d : Nat} {w w' : World} {v : Value} {bs : List UInt8} {s : Int} (h : Pr b c d w v bs s) (k : KeptP (fun _ => True) w w') : Pr b c d w' v bs s :=
  ⟨h.bld.kept k trivial fun _ _ => trivial, (k.cell (p := ⟨c, 0, none⟩) h.cLt trivial).trans h.add, h.sum.kept k trivial, h.bc, h.bd, h.cd, h.vc, h.vd⟩
/-- What the closure returns. -/
def RetPr (b c d : Nat) (w : World) (v : Value) (bs : List UInt8) (s : Int) (xs : List UInt8) (e : Ending) (w' : World) : Prop :=
  e = .returned (.int .u8 ((-(s + sumI xs)) % 256)) ∧ ∃ v', Pr b c d w' v' (bs ++ hexL xs) (s + sumI xs) ∧ (∀ g, v'.ownBlock = some g → v.ownBlock = some g ∨ w.heap.size ≤ g) ∧ KeptP (fun i => i ≠ b ∧ i ≠ d ∧ some i ≠ v.ownBlock) w w'
set_option maxHeartbeats 2000000 in
theorem writeC_any (P : Nat → Prop) (A : Option Addr) (cap : Nat) (xs : List UInt8) (b c d : Nat) (w : World) (v : Value) (bs : List UInt8) (s : Int) (hlen : bs.length + 2 * xs.length ≤ 140737488355328) (h : Pr b c d w v bs s)
    (hb : ¬ P b) (hd : ¬ P d) (hv : ∀ g, v.ownBlock = some g → ¬ P g) (hx : BytesP P w A xs) :
    Calls Tryd.prog 71 #[.slice A xs.length cap, .pointer (some ⟨b, 0, none⟩), .pointer (some ⟨c, 0, none⟩)] w (RetPr b c d w v bs s xs) := by
  have H := Lib.hid h
  have X := Lib.hid (hx.mono (Q := fun i => P i ∧ i < w.heap.size) fun i hi hp => ⟨hp, hi⟩)
  have HL := Lib.hid hlen
  have hl : xs.length ≤ 9223372036854775807 := by omega
  clear h hx hlen
  go_enter Tryd.func71, Tryd.ntmps71
  go_wp2
  go_loopw [9] (fun i wr => ∃ (k : Nat) (v' : Value), k ≤ xs.length ∧ i = .int .i64 k ∧ Pr b c d wr v' (bs ++ hexL (xs.take k)) s ∧ (∀ g, v'.ownBlock = some g → v.ownBlock = some g ∨ w.heap.size ≤ g) ∧ KeptP (fun i => i < w.heap.size ∧ i ≠ b ∧ i ≠ d ∧ some i ≠ v.ownBlock) w wr) (fun i _ => xs.length - (intOf i).toNat)
  case atStart => exact ⟨0, v, Nat.zero_le _, rfl, by simpa [hexL] using H.out, fun g hg => .inl hg, KeptP.refl _ _⟩
  case round =>
    obtain ⟨k, v1, hk, rfl, hP, hO, hK⟩ := hrel
    have P1 := Lib.hid hP
    have O1 := Lib.hid hO
    have K1 := Lib.hid hK
    clear hP hO hK
    have X1 := X.out.kept K1.out fun i _ hp => ⟨hp.2, fun e => hb (e ▸ hp.1), fun e => hd (e ▸ hp.1), fun e => hv i e.symm hp.1⟩
    by_cases hlt : k < xs.length
    · obtain ⟨g, off, hA, g0⟩ := X1.at_ hlt
      subst hA
      have T := Lib.hid (hexL_take xs k hlt)
      have hsz := hexL_length (xs.take k)
      have htk : (xs.take k).length = k := by simp; omega
      obtain ⟨x, hxk⟩ : ∃ x : Int, (xs[k].toNat : Int) = x := ⟨_, rfl⟩
      have x0 : 0 ≤ x := by omega
      have x1 : x < 256 := by have := xs[k].toNat_lt; omega
      rw [hxk] at g0 T
      have hhs := hexS_size x 2
      have hlen2 : (bs ++ hexL (xs.take k)).length + (hexS x 2).size ≤ 140737488355328 := by rw [List.length_append, hsz, hhs, htk]; have := HL.out; omega
      have L2 := Lib.hid hlen2
      clear hxk X1 hsz htk hhs hlen2
      go_wp2_with fail
      refine (hex_any x 2 (by omega) _).mono ?_
      rintro e w2 ⟨rfl, hB⟩
      have k2 : KeptP (fun _ => True) wr w2 := KeptP.of_all hB
      have P2 := P1.out.kept k2
      have hws := writeString_any b w2 v1 (bs ++ hexL (xs.take k)) (hexS x 2) L2.out P2.bld
      have k3 := Lib.hid k2
      have P3 := Lib.hid P2
      clear hB k2 P2
      go_wp2_with fail
      refine hws.mono ?_
      rintro e w3 ⟨rfl, v3, hB3, hO3, hK3⟩
      have hsz2 := k3.out.size
      have N1 : Hid (Pr b c d w3 v3 (bs ++ hexL (xs.take (k + 1))) s) := by
        show Pr _ _ _ _ _ _ _
        have hP := P3.out
        have c0 := hP.cLt
        have d0 := hP.sum.1
        refine ⟨?_, ?_, ?_, hP.bc, hP.bd, hP.cd, ?_, ?_⟩
        · rw [T.out, ← List.append_assoc]; exact hB3
        · rw [hK3.cell (p := ⟨c, 0, none⟩) c0 ⟨hP.bc.symm, hP.vc.symm⟩]; exact hP.add
        · exact hP.sum.kept hK3 ⟨hP.bd.symm, hP.vd.symm⟩
        · intro e
          rcases hO3 c e with h | h
          · exact hP.vc h
          · omega
        · intro e
          rcases hO3 d e with h | h
          · exact hP.vd h
          · omega
      have N2 : Hid (∀ g, v3.ownBlock = some g → v.ownBlock = some g ∨ w.heap.size ≤ g) := by
        intro g hg
        rcases hO3 g hg with h | h
        · exact O1.out g h
        · right; have := K1.out.size; omega
      have N3 : Hid (KeptP (fun i => i < w.heap.size ∧ i ≠ b ∧ i ≠ d ∧ some i ≠ v.ownBlock) w w3) := by
        refine (K1.out.trans (k3.out.mono fun _ _ _ => trivial)).trans (hK3.mono fun i _ hi => ⟨hi.2.1, fun e => ?_⟩)
        rcases O1.out i e.symm with h | h
        · exact hi.2.2.2 h.symm
        · have := hi.1; omega
      clear hws hB3 hO3 hK3 hsz2
      go_wp2
      go_roundw
      case rel => exact ⟨k + 1, v3, by omega, by go_num, N1.out, N2.out, N3.out⟩
      case measure => simp [intOf]; omega
    · have e1 : xs.take k = xs := List.take_of_length_le (by omega)
      have P2 := P1.out
      rw [e1] at P2
      have ga := P2.add
      have hadd := addC_any (fun i => P i ∧ i < w.heap.size) A cap xs (by unfold maxLen; omega) d (fun h => hd h.1) s wr X1 P2.sum
      have P3 := Lib.hid P2
      clear X1 P2 e1
      go_wp2_with fail
      refine hadd.mono ?_
      rintro e w3 ⟨rfl, hS3, hK3⟩
      have N1 : Hid (Pr b c d w3 v1 (bs ++ hexL xs) (s + sumI xs)) := by
        have hP := P3.out
        exact ⟨hP.bld.kept hK3 hP.bd fun g hg e => hP.vd (e ▸ hg), (hK3.cell (p := ⟨c, 0, none⟩) hP.cLt hP.cd).trans hP.add, hS3, hP.bc, hP.bd, hP.cd, hP.vc, hP.vd⟩
      have N3 : Hid (KeptP (fun i => i ≠ b ∧ i ≠ d ∧ some i ≠ v.ownBlock) w w3) :=
        (K1.out.trans (hK3.mono fun i _ hi => hi.2.2.1)).mono fun i hi h => ⟨hi, h⟩
      have O2 := O1.out
      have O3 := Lib.hid O2
      clear hadd hS3 hK3 O2
      go_wp2
      go_ret
      exact ⟨rfl, v1, N1.out, O3.out, N3.out⟩
end Go.Proofs.YtmeegpdjhcilkaaDoor
/-
  The walk over record.Print: for every record, its line, or nothing and false.
-/
namespace Go.Proofs.YtmeegpdjhcilkaaDoor
open Go.RowKit
set_option linter.unusedVariables false

/-- The four bytes in front of a record's data. -/
def hdrB (T a : Int) (n : Nat) : List UInt8 := [lowU n, lowU (a / 256), lowU a, lowU T]
/-- The bytes of a record. -/
def recB (T a : Int) (D : List UInt8) : List UInt8 := hdrB T a D.length ++ D
/-- The line of a record. -/
def printL (T a : Int) (D : List UInt8) : List UInt8 := 58 :: hexL (recB T a D ++ [lowU (chkI (recB T a D))])
def printS (T a : Int) (D : List UInt8) : ByteArray := if rightB T a D.length then strOf (printL T a D) else ⟨#[]⟩
theorem chk_u (xs : List UInt8) : ((lowU (chkI xs)).toNat : Int) = chkI xs := by rw [lowU_nat]; have := chkI_bd xs; omega

theorem ints_four (w : World) (n : Nat) (hn : w.heap.size = n) (x y z u : Int) (t : TypeId) : IntsAt (w.alloc (.cells #[.int .i64 x, .int .i64 y, .int .i64 z, .int .i64 u] t)) (some ⟨n, 0, none⟩) [x, y, z, u] := by
  subst hn
  refine .inr ⟨_, _, rfl, fun j h => ?_⟩
  match j, h with
  | 0, _ => simp [go_sem]
  | 1, _ => simp [go_sem]
  | 2, _ => simp [go_sem]
  | 3, _ => simp [go_sem]
  | j + 4, h => simp at h; omega
theorem bytes_one (w : World) (n : Nat) (hn : w.heap.size = n) (x : UInt8) (t : TypeId) : BytesP (fun i => i = n) (w.alloc (.cells #[.int .u8 (x.toNat : Int)] t)) (some ⟨n, 0, none⟩) [x] := by
  subst hn
  refine .inr ⟨_, 0, rfl, rfl, fun j hj => ?_⟩
  have : j = 0 := by simpa using hj
  subst this
  simp [go_sem]
/-- What a writing leaves below N. -/
theorem pr_low {b d N : Nat} {w w' : World} {v v' : Value} (hb : N < b) (hd : N < d) (hN : N < w.heap.size) (hV : ∀ g, v.ownBlock = some g → N < g) (hO : ∀ g, v'.ownBlock = some g → v.ownBlock = some g ∨ w.heap.size ≤ g)
    (hK : KeptP (fun i => i ≠ b ∧ i ≠ d ∧ some i ≠ v.ownBlock) w w') : (∀ g, v'.ownBlock = some g → N < g) ∧ KeptP (· < N + 1) w w' := by
  refine ⟨fun g hg => ?_, hK.mono fun i _ hi => ⟨by omega, by omega, fun e => ?_⟩⟩
  · rcases hO g hg with h | h
    · exact hV g h
    · omega
  · have := hV i e.symm; omega
theorem sum_hdr (T a : Int) (D : List UInt8) : sumI (hdrB T a D.length) + sumI D = sumI (recB T a D) := by unfold recB; rw [sumI_append]

set_option maxHeartbeats 4000000 in
theorem print_any (T a : Int) (A : Option Addr) (cap : Nat) (D : List UInt8) (hl : D.length ≤ maxLen) (w : World) (hX : BytesP (· < w.heap.size) w A D) :
    Calls Tryd.prog 36 #[.agg #[.int .i64 T, .int .i64 a, .slice A D.length cap]] w fun e w' => e = .returned (.tuple #[.string (printS T a D), .bool (rightB T a D.length)]) ∧ Below w.heap.size w w' := by
  have hR := fun w => isRight_any T a A D.length cap hl w
  cases hr : rightB T a D.length
  · have N : Hid (printS T a D = ⟨#[]⟩) := by show _ = _; unfold printS; rw [hr]; rfl
    simp only [hr] at hR
    clear hr
    go_enter Tryd.func36, Tryd.ntmps36
    go_wp2_with fail
    refine (hR _).mono ?_
    rintro e w1 ⟨rfl, hB1⟩
    have B1 := Lib.hid hB1
    clear hB1 hR
    go_wp2
    go_ret2
    rw [N.out]
    exact ⟨rfl, ((Below.refl _ _).alloc (Nat.le_refl _) _).trans (B1.out.mono (by simp))⟩
  · have N : Hid (printS T a D = strOf (printL T a D)) := by show _ = _; unfold printS; rw [hr]; rfl
    simp only [hr] at hR
    have hrr : 0 ≤ T ∧ T ≤ 255 ∧ 0 ≤ a ∧ a ≤ 65535 ∧ D.length ≤ 255 := by unfold rightB at hr; exact of_decide_eq_true hr
    obtain ⟨r1, r2, r3, r4, r5⟩ := hrr
    have XX := Lib.hid hX
    clear hr hX
    have hmf : ∀ (fn : Fn) (first cap : Array Value) (w : World), (Instr.makeFunc fn first cap).run Tryd.prog w = .ok (.func fn first cap) w := fun _ _ _ _ => rfl
    go_enter Tryd.func36, Tryd.ntmps36
    go_wp2_with fail
    refine (hR _).mono ?_
    rintro e w1 ⟨rfl, hB1⟩
    have hal : Below w.heap.size w (w.alloc (.cells #[.int .i64 T, .int .i64 a, .slice A D.length cap] 78)) := (Below.refl _ _).alloc (Nat.le_refl _) _
    have htr := Tri.new w _ rfl (.int .i64 T) (.int .i64 a) (.slice A D.length cap) 78
    have htr1 := htr.kept (P := fun _ => True) (KeptP.of_all hB1) trivial
    have hX1 := (XX.out.below hal).below hB1
    have hB0 : Below w.heap.size w w1 := hal.trans (hB1.mono (by simp))
    have T1 := Lib.hid htr1
    have X1 := Lib.hid hX1
    have B0 := Lib.hid hB0
    clear hR hB1 hal htr htr1 hX1 hB0 XX
    go_wp2_with fail
    refine (adder_any _).mono ?_
    rintro e w' ⟨rfl, rfl⟩
    go_wp2_with fail
    have hs1 := B0.out.size
    obtain ⟨wA, hwA⟩ : ∃ wA, ((w1.alloc (.cells #[.pointer none, .slice none 0 0] 125)).alloc (.cells #[.int .u8 0] 5)).alloc (.cells #[.func (.func 100) #[] #[.pointer (some ⟨w1.heap.size + 1, 0, none⟩)]] 126) = wA := ⟨_, rfl⟩
    have kA : KeptP (fun _ => True) w1 wA := by rw [← hwA]; exact (((KeptP.refl _ _).alloc _).alloc _).alloc _
    have hszA : wA.heap.size = w1.heap.size + 3 := by rw [← hwA]; simp
    have bA : Bld w1.heap.size wA (.pointer none) (.slice none 0 0) [] := by
      rw [← hwA]
      exact (Bld.fresh w1 _ rfl).kept (P := fun _ => True) (((KeptP.refl _ _).alloc _).alloc _) trivial fun _ _ => trivial
    have sA : SumAt (w1.heap.size + 1) wA 0 := by
      rw [← hwA]
      have h := SumAt.new (w1.alloc (.cells #[.pointer none, .slice none 0 0] 125)) 5
      rw [World.size_alloc] at h
      exact h.kept (P := fun _ => True) ((KeptP.refl _ _).alloc _) trivial
    have cA : wA.cell? ⟨w1.heap.size + 1 + 1, 0, none⟩ = some (.func (.func 100) #[] #[.pointer (some ⟨w1.heap.size + 1, 0, none⟩)]) := by rw [← hwA]; simp [go_sem]
    have hwb := writeByte_any w1.heap.size wA 58 bA
    have e58 : (((58 : UInt8).toNat : Nat) : Int) = 58 := rfl
    rw [e58] at hwb
    rw [hwA]
    have HSA := Lib.hid hszA
    have KA := Lib.hid kA
    have SA := Lib.hid sA
    have CA := Lib.hid cA
    clear e58 kA hszA bA sA cA hwA
    refine hwb.mono ?_
    rintro e w2 ⟨rfl, v2, hB2, hV2, hK2⟩
    have hsA := HSA.out
    have P2 : Hid (Pr w1.heap.size (w1.heap.size + 1 + 1) (w1.heap.size + 1) w2 v2 [58] 0) := by
      show Pr _ _ _ _ _ _ _
      refine ⟨hB2, (hK2.cell (p := ⟨w1.heap.size + 1 + 1, 0, none⟩) (by simp; omega) (by show w1.heap.size + 1 + 1 ≠ w1.heap.size; omega)).trans CA.out, SA.out.kept hK2 (by omega), by omega, by omega, by omega, fun e => ?_, fun e => ?_⟩
      · have := hV2 _ e; omega
      · have := hV2 _ e; omega
    have V2 : Hid (∀ g, v2.ownBlock = some g → w.heap.size < g) := fun g hg => by have := hV2 g hg; omega
    have K2 : Hid (KeptP (· < w.heap.size + 1) w1 w2) := by
      show KeptP _ _ _
      exact (KA.out.mono fun _ _ _ => trivial).trans (hK2.mono fun i _ hi => by have := T1.out.1; omega)
    have hT2 := T1.out.kept K2.out (by omega)
    have X2 := Lib.hid (X1.out.kept K2.out fun i _ hi => by omega)
    have T2 := Lib.hid hT2
    obtain ⟨-, q0, q1, q2, -⟩ := hT2
    clear hwb hB2 hV2 hK2
    go_wp2_with fail
    have hal3 : Below w2.heap.size w2 (w2.alloc (.cells #[.int .i64 (D.length : Int), .int .i64 (a / 256), .int .i64 a, .int .i64 T] 3)) := (Below.refl _ _).alloc (Nat.le_refl _) _
    have hlow := lowN_any (some ⟨w2.heap.size, 0, none⟩) 4 [(D.length : Int), a / 256, a, T] (by simp) _ (ints_four w2 _ rfl (D.length : Int) (a / 256) a T 3)
    have A3 := Lib.hid hal3
    clear hal3
    refine hlow.mono ?_
    rintro e w3 ⟨A3', cap3, rfl, hX3, -, hN3, hB3⟩
    clear hlow
    have B3 : Hid (Below w2.heap.size w2 w3) := A3.out.trans (hB3.mono (by simp))
    have XH : Hid (BytesP (fun i => w2.heap.size ≤ i ∧ i < w3.heap.size) w3 A3' (hdrB T a D.length)) := (hX3.toNew hN3).mono fun i _ h => by simp at h; omega
    have P3 := P2.out.kept (KeptP.of_all B3.out)
    have q0' := (B3.out.cell (p := ⟨w.heap.size, 0, none⟩) (World.block_lt_of_cell? w2 _ q0)).trans q0
    have q1' := (B3.out.cell (p := ⟨w.heap.size, 1, none⟩) (World.block_lt_of_cell? w2 _ q1)).trans q1
    have q2' := (B3.out.cell (p := ⟨w.heap.size, 2, none⟩) (World.block_lt_of_cell? w2 _ q2)).trans q2
    have hc1 := writeC_any (fun i => w2.heap.size ≤ i ∧ i < w3.heap.size) A3' cap3 (hdrB T a D.length) w1.heap.size (w1.heap.size + 1 + 1) (w1.heap.size + 1) w3 v2 [58] 0 (by simp [hdrB]) P3 (by have := P2.out.bld.lt; omega) (by have := P2.out.sum.1; omega)
      (fun g hg => by have := own_lt P2.out.bld hg; omega) XH.out
    clear q0 q1 q2 hX3 hN3 hB3 P3
    go_wp2_with fail
    have nb : w.heap.size < w1.heap.size := T1.out.1
    have hb3 : w.heap.size < w3.heap.size := by have := B3.out.size; have := P2.out.bld.lt; omega
    refine hc1.mono ?_
    rintro e w4 ⟨rfl, v4, hP4, hO4, hK4⟩
    clear hc1
    obtain ⟨hV4, hL4⟩ := pr_low nb (show w.heap.size < w1.heap.size + 1 by omega) hb3 V2.out hO4 hK4
    have q0 := (hL4.cell (p := ⟨w.heap.size, 0, none⟩) (World.block_lt_of_cell? w3 _ q0') (by simp)).trans q0'
    have q1 := (hL4.cell (p := ⟨w.heap.size, 1, none⟩) (World.block_lt_of_cell? w3 _ q1') (by simp)).trans q1'
    have q2 := (hL4.cell (p := ⟨w.heap.size, 2, none⟩) (World.block_lt_of_cell? w3 _ q2') (by simp)).trans q2'
    have L4 : Hid (KeptP (· < w.heap.size + 1) w1 w4) := (K2.out.trans (KeptP.of_all B3.out)).trans hL4
    have X4 : Hid (BytesP (· < w.heap.size) w4 A D) := X1.out.kept L4.out fun i _ hi => by omega
    have hlh := hexL_length (hdrB T a D.length)
    have hl4 : ([58] ++ hexL (hdrB T a D.length)).length = 9 := by rw [List.length_append, hlh]; rfl
    have P4 := Lib.hid hP4
    have V4 := Lib.hid hV4
    have hc2 := writeC_any (· < w.heap.size) A cap D w1.heap.size (w1.heap.size + 1 + 1) (w1.heap.size + 1) w4 v4 _ _ (by rw [hl4]; omega) hP4 (by omega) (by omega) (fun g hg => by have := hV4 g hg; omega) X4.out
    clear q0' q1' q2' hP4 hO4 hK4 hV4 hL4 hlh
    go_wp2_with fail
    refine hc2.mono ?_
    rintro e w5 ⟨rfl, v5, hP5, hO5, hK5⟩
    clear hc2 q0 q1 q2
    have hb4 : w.heap.size < w4.heap.size := Nat.lt_trans nb P4.out.bld.lt
    obtain ⟨hV5, hL5⟩ := pr_low nb (show w.heap.size < w1.heap.size + 1 by omega) hb4 V4.out hO5 hK5
    have L5 : Hid (KeptP (· < w.heap.size + 1) w1 w5) := L4.out.trans hL5
    have P5 := Lib.hid hP5
    have V5 := Lib.hid hV5
    have hck : (-(0 + sumI (hdrB T a D.length) + sumI D)) % 256 = ((lowU (chkI (recB T a D))).toNat : Int) := by
      rw [chk_u, show 0 + sumI (hdrB T a D.length) + sumI D = sumI (recB T a D) by rw [← sum_hdr]; omega]
      rfl
    rw [hck]
    obtain ⟨y, hy⟩ : ∃ y, lowU (chkI (recB T a D)) = y := ⟨_, rfl⟩
    rw [hy]
    have Y := Lib.hid hy
    have hk5 : KeptP (fun _ => True) w5 (w5.alloc (.cells #[.int .u8 (y.toNat : Int)] 5)) := (KeptP.refl _ _).alloc _
    have hl5 : (([58] ++ hexL (hdrB T a D.length)) ++ hexL D).length = 9 + 2 * D.length := by rw [List.length_append, hl4, hexL_length]
    have hc3 := writeC_any (fun i => i = w5.heap.size) (some ⟨w5.heap.size, 0, none⟩) 1 [y] w1.heap.size (w1.heap.size + 1 + 1) (w1.heap.size + 1) _ v5 _ _ (by rw [hl5]; simp only [List.length_cons, List.length_nil]; omega) (hP5.kept hk5) (by have := hP5.bld.lt; omega) (by have := hP5.sum.1; omega)
      (fun g hg => by have := own_lt hP5.bld hg; omega) (bytes_one w5 _ rfl y 5)
    have K5 := Lib.hid hk5
    clear hck hy hk5 hl5 hl4 hP5 hO5 hK5 hV5 hL5
    go_wp2_with fail
    refine hc3.mono ?_
    rintro e w6 ⟨rfl, v6, hP6, hO6, hK6⟩
    clear hc3
    have hb5 : w.heap.size < w5.heap.size := Nat.lt_trans nb P5.out.bld.lt
    obtain ⟨hV6, hL6⟩ := pr_low nb (show w.heap.size < w1.heap.size + 1 by omega) (show w.heap.size < (w5.alloc (.cells #[.int .u8 (y.toNat : Int)] 5)).heap.size by simp; omega) V5.out hO6 hK6
    have L6 : Hid (KeptP (· < w.heap.size + 1) w1 w6) := (L5.out.trans (K5.out.mono fun _ _ _ => trivial)).trans hL6
    have hstr := bString_any w.heap.size w1.heap.size w6 _ _ _ (by simp) hP6.bld (fun g hg => Nat.le_of_lt (hV6 g hg))
    clear hP6 hO6 hK6 hV6 hL6
    go_wp2_with fail
    refine hstr.mono ?_
    rintro e w7 ⟨rfl, hB7⟩
    have hB6 : Below w.heap.size w w6 := B0.out.trans (L6.out.below (B := w.heap.size) (fun i hi => by omega) B0.out.size)
    have B7 := Lib.hid (hB6.trans hB7)
    clear hstr hB6 hB7
    go_wp2
    go_ret2
    rw [N.out]
    have e9 : 58 :: (hexL (hdrB T a D.length) ++ (hexL D ++ hexL [y])) = printL T a D := by
      unfold printL
      rw [hexL_append, Y.out]
      unfold recB
      rw [hexL_append, List.append_assoc]
    exact ⟨congrArg (fun l => Ending.returned (.tuple #[.string (strOf l), .bool true])) e9, B7.out⟩
end Go.Proofs.YtmeegpdjhcilkaaDoor
/-
  Slices of bytes: append from whatever slice, also an empty one; the walk over slices.Clone at []byte; slices of new memory.
-/
namespace Go.Proofs.YtmeegpdjhcilkaaDoor
open Go.RowKit
set_option linter.unusedVariables false

theorem run_append_nothing (w : World) (base : Nat) (t ty e : TypeId) (size : Nat) (ht : Tryd.prog.underlying t = some (.slice e)) (hs : ∀ w, (sizeOf e).run Tryd.prog w = .ok size w)
    (v : Value) (n : Nat) (xs : List Value) (hown : w.ownsRow base e size v n xs) (A : Option Addr) (c : Nat) :
    (Builtin.append_ #[t, t] ty #[v, .slice A 0 c]).run Tryd.prog w = .ok v w := by
  have h0 : ∀ x, (loadCells x 0).run Tryd.prog w = .ok #[] w := fun x => by simpa using run_loadCells_list (P := Tryd.prog) w x [] (by simp)
  rcases hown.2 with ⟨rfl, h⟩ | ⟨g, cap, cur, rfl, hb, hg, hm, hle, _⟩
  · cases A <;> simp [Builtin.append_, run_underlying ht, hs, Builtin.lenOf, Builtin.firstCells, h0]
  · cases A <;> simp [Builtin.append_, run_underlying ht, hs, Builtin.lenOf, Builtin.firstCells, h0, hm, storeCells] <;> omega
theorem run_append_src (w : World) (base : Nat) (t ty e : TypeId) (i : TypeInfo) (z : Value) (size bytes : Nat) (ht : Tryd.prog.underlying t = some (.slice e)) (hi : Tryd.prog.info? e = some i) (hz : i.zero = some z)
    (hsize : i.size = size) (hby : i.bytes = bytes) (hzs : z.cells.size = size) (hsz : 0 < size)
    (v : Value) (n : Nat) (xs : List Value) (hown : w.ownsRow base e size v n xs)
    (A : Option Addr) (m c : Nat) (news : List Value) (hl : news.length = m * size) (hnews : m = 0 ∨ ∃ a, A = some a ∧ ∀ j u, news[j]? = some u → w.cell? (a.add j) = some u) (h1 : ∀ u ∈ news, u.oneCell' = true)
    (h63 : n + m ≤ maxLen) (hbytes : (n + m) * bytes ≤ 140737488355328) (hbase : base ≤ w.heap.size) :
    ∃ v' w', (Builtin.append_ #[t, t] ty #[v, .slice A m c]).run Tryd.prog w = .ok v' w' ∧ w'.ownsRow base e size v' (n + m) (xs ++ news) ∧ w.grownBy w' v.ownBlock := by
  by_cases hm : m = 0
  · subst hm
    have hn0 : news = [] := List.eq_nil_of_length_eq_zero (by omega)
    subst hn0
    refine ⟨v, w, run_append_nothing w base t ty e size ht (fun w => ?_) v n xs hown A c, ?_, World.grownBy.refl _ _⟩
    · simp [sizeOf, typeInfo, hi, hsize]
    · simpa using hown
  · obtain ⟨a, rfl, hn⟩ := hnews.resolve_left hm
    obtain ⟨v', w', h2, h3, h4, _⟩ := run_append_own (P := Tryd.prog) w base t ty e i z size bytes ht hi hz hsize hby hzs hsz v n xs hown a m c news hl hn h1 h63 hbytes hbase
    exact ⟨v', w', h2, h3, h4⟩

theorem wpList_run_append {w w1 : World} {t ty : TypeId} {v y v' : Value} (h1 : (Builtin.append_ #[t, t] ty #[v, y]).run Tryd.prog w = .ok v' w1) {ops : Array Oper} {rest : List Oper} {o : Oper} {a : Act} {Q : Exit → Act → World → Prop} (hgd : o.guard = none) (s x : Operand)
    (ho : o.op = .call { callee := .builtin .append, args := #[s, x], argTypes := #[t, t] }) (hty : o.type = ty) (hs : a.eval s = v) (hx : a.eval x = y) (hk : wpList Tryd.prog ops Q rest (a.put o.dst v') w1) : wpList Tryd.prog ops Q (o :: rest) a w := by
  subst hty
  refine wpList_plain hgd fun K hK => ?_
  unfold Oper.wp
  simp [execOp, ho, resolve, invoke, builtin, hs, hx, h1, Result.andThen]
  exact hK _ _ hk
theorem own_bytes {w : World} {base : Nat} {e : TypeId} {v : Value} {n : Nat} {xs : List UInt8} (h : w.ownsRow base e 1 v n (xs.map u8V)) (hn : n = xs.length) : ∃ A cap, v = .slice A xs.length cap ∧ BytesP (fun i => base ≤ i ∧ some i = v.ownBlock) w A xs := by
  subst hn
  rcases h.2 with ⟨rfl, h0⟩ | ⟨g, cap, cur, rfl, hb, _⟩
  · exact ⟨none, 0, by rw [h0], .inl (List.eq_nil_of_length_eq_zero h0)⟩
  · refine ⟨_, cap, rfl, .inr ⟨g, 0, rfl, ⟨hb, rfl⟩, fun j hj => ?_⟩⟩
    rw [Nat.zero_add, h.cellAt j (by omega)]
    simp [u8V, List.getElem?_eq_getElem hj]
theorem BytesP.news {P : Nat → Prop} {w : World} {A : Option Addr} {xs : List UInt8} (h : BytesP P w A xs) : xs.length = 0 ∨ ∃ a, A = some a ∧ ∀ j u, (xs.map u8V)[j]? = some u → w.cell? (a.add j) = some u := by
  rcases h with rfl | ⟨b, off, rfl, _, hc⟩
  · exact .inl rfl
  · refine .inr ⟨_, rfl, fun j u hu => ?_⟩
    have hadd : (⟨b, off, none⟩ : Addr).add j = ⟨b, off + j, none⟩ := by unfold Addr.add; split <;> simp_all
    rw [List.getElem?_map] at hu
    by_cases hj : j < xs.length
    · rw [List.getElem?_eq_getElem hj] at hu
      simp only [Option.map_some, Option.some.injEq] at hu
      subst hu
      rw [hadd]
      exact hc j hj
    · rw [List.getElem?_eq_none (by omega)] at hu; cases hu
/-- The call returns a slice that reads as xs, in new memory. -/
def RetB (w : World) (xs : List UInt8) (e : Ending) (w' : World) : Prop := ∃ A cap, e = .returned (.slice A xs.length cap) ∧ BytesP (w.heap.size ≤ ·) w' A xs ∧ Below w.heap.size w w'
set_option maxHeartbeats 1000000 in
theorem cloneB_any (P : Nat → Prop) (A : Option Addr) (cap : Nat) (xs : List UInt8) (hl : xs.length ≤ 70368744177664) (w : World) (hx : BytesP P w A xs) :
    Calls Tryd.prog 78 #[.slice A xs.length cap] w (RetB w xs) := by
  cases A with
  | none =>
    obtain rfl : xs = [] := by
      rcases hx with h | ⟨b, off, h, _⟩
      · exact h
      · cases h
    clear hx
    have hnil := fun w => Lib.run_eql_slice_nil (P := Tryd.prog) w 59 5 none 0 cap 0 0 Tryd.underlying59
    go_enter Tryd.func78, Tryd.ntmps78
    go_wp2
    go_ret
    exact ⟨none, 0, rfl, .inl rfl, Below.refl _ _⟩
  | some a =>
    obtain ⟨i0, hi, hz0, hz1, hz2⟩ := info_parts info_u8
    have hb : Below w.heap.size w (w.alloc (.cells #[] 5)) := (Below.refl _ _).alloc (Nat.le_refl _) _
    have hown := World.ownsRow_made (base := w.heap.size) (e := 5) (size := 1) w #[] 0 (Nat.le_refl _) (by unfold maxLen; omega) rfl
    obtain ⟨v', w', k1, k2, k3⟩ := run_append_src (w.alloc (.cells #[] 5)) w.heap.size 59 59 5 i0 _ 1 1 Tryd.underlying59 hi hz0 hz1 hz2 rfl (by decide) _ 0 [] hown (some a) xs.length cap (xs.map u8V)
      (by simp) (hx.below hb).news (fun u hu => by obtain ⟨x, _, rfl⟩ := List.mem_map.1 hu; rfl) (by unfold maxLen; omega) (by omega) (by simp)
    have N : Hid (RetB w xs (.returned v') w') := by
      rw [List.nil_append, Nat.zero_add] at k2
      obtain ⟨A', cap', hv, hB⟩ := own_bytes k2 rfl
      subst hv
      exact ⟨A', cap', rfl, hB.mono fun i _ hi => hi.1, hb.grown k3 (by simp) fun k hk => (hown.lt k hk).1⟩
    have K := Lib.hid k1
    clear hx hb hown k1 k2 k3 hi hz0 hz1 hz2
    go_enter Tryd.func78, Tryd.ntmps78
    have hnil := fun w => Lib.run_eql_slice_nil (P := Tryd.prog) w 59 5 (some a) xs.length cap 0 0 Tryd.underlying59
    go_wp2_with (at_builtin; refine wpList_run_append K.out rfl _ _ rfl rfl rfl rfl ?_)
    go_ret
    exact N.out

end Go.Proofs.YtmeegpdjhcilkaaDoor
/-
  The walks over breadboardref03.bytes and Print: for every record, the line that record.Print returns.
-/
namespace Go.Proofs.YtmeegpdjhcilkaaDoor
open Go.RowKit
set_option linter.unusedVariables false

/-- A row of bytes that has just been made, and appending bytes from anywhere. -/
theorem made_append (w0 w : World) (n : Nat) (hn : w.heap.size = n) (h0 : w0.heap.size ≤ n) (hb0 : Below w0.heap.size w0 w) (hs : List UInt8) (cs : Array Value) (hcs : cs = (hs.map u8V).toArray) {P : Nat → Prop} {A : Option Addr} {xs : List UInt8} (hx : BytesP P w A xs) (m cap : Nat) (hm : m = hs.length) (hlen : hs.length + xs.length ≤ 70368744177664) (ty : TypeId) :
    ∃ v' w', (Builtin.append_ #[59, 59] ty #[.slice (some ⟨n, 0, none⟩) m m, .slice A xs.length cap]).run Tryd.prog (w.alloc (.cells cs 5)) = .ok v' w' ∧ OwnB w0 w' v' (hs ++ xs) := by
  subst hn hcs hm
  obtain ⟨i0, hi, hz0, hz1, hz2⟩ := info_parts info_u8
  have hb : Below w.heap.size w (w.alloc (.cells (hs.map u8V).toArray 5)) := (Below.refl _ _).alloc (Nat.le_refl _) _
  have hown : (w.alloc (.cells (hs.map u8V).toArray 5)).ownsRow w0.heap.size 5 1 (.slice (some ⟨w.heap.size, 0, none⟩) hs.length hs.length) hs.length (hs.map u8V) :=
    ⟨by simp, .inr ⟨w.heap.size, hs.length, _, rfl, h0, heap_alloc_new w _, Nat.le_refl _, by unfold maxLen; omega, by simp, by simp only [Nat.mul_one]; exact List.take_of_length_le (by simp)⟩⟩
  obtain ⟨v', w', k1, k2, k3⟩ := run_append_src (w.alloc (.cells (hs.map u8V).toArray 5)) w0.heap.size 59 ty 5 i0 _ 1 1 Tryd.underlying59 hi hz0 hz1 hz2 rfl (by decide) _ _ _ hown A xs.length cap (xs.map u8V)
      (by simp) (hx.below hb).news (fun u hu => by obtain ⟨x, _, rfl⟩ := List.mem_map.1 hu; rfl) (by unfold maxLen; omega) (by omega) (by simp; omega)
  refine ⟨v', w', k1, ?_, (hb0.alloc h0 _).grown k3 (by simp; omega) fun k hk => (hown.lt k hk).1⟩
  rw [List.length_append, List.map_append]
  exact k2

/-- What breadboardref03.bytes returns. -/
def RetOwn (w : World) (xs : List UInt8) (e : Ending) (w' : World) : Prop := ∃ v, e = .returned v ∧ OwnB w w' v xs
set_option maxHeartbeats 1000000 in
theorem rrecb_any (P : Nat → Prop) (T a : Int) (A : Option Addr) (cap : Nat) (D : List UInt8) (h : rightB T a D.length = true) (w : World) (hX : BytesP P w A D) :
    Calls Tryd.prog 103 #[.agg #[.int .i64 T, .int .i64 a, .slice A D.length cap]] w (RetOwn w (recB T a D)) := by
  have hrr : 0 ≤ T ∧ T ≤ 255 ∧ 0 ≤ a ∧ a ≤ 65535 ∧ D.length ≤ 255 := by unfold rightB at h; exact of_decide_eq_true h
  obtain ⟨r1, r2, r3, r4, r5⟩ := hrr
  have hal : Below w.heap.size w (w.alloc (.cells #[.int .i64 T, .int .i64 a, .slice A D.length cap] 142)) := (Below.refl _ _).alloc (Nat.le_refl _) _
  have hcs : (#[.int .u8 (D.length : Int), .int .u8 (a / 256), .int .u8 (a % 256), .int .u8 T] : Array Value) = ((hdrB T a D.length).map u8V).toArray := by
    unfold hdrB u8V
    simp only [List.map_cons, List.map_nil, lowU_nat]
    rw [show ((D.length : Int)) % 256 = D.length by omega, show (a / 256) % 256 = a / 256 by omega, show T % 256 = T by omega]
  obtain ⟨v', w', k1, k2⟩ := made_append w (w.alloc (.cells #[.int .i64 T, .int .i64 a, .slice A D.length cap] 142)) (w.heap.size + 1) (by simp) (by omega) hal (hdrB T a D.length) _ hcs (hX.below hal) 4 cap rfl (by simp [hdrB]; omega) 59
  have K := Lib.hid k1
  have K2 := Lib.hid k2
  have w1 := IntKind.wrap_u8 (D.length : Int)
  have w2 := IntKind.wrap_u8 (a / 256)
  have w3 := IntKind.wrap_u8 (a % 256)
  have w4 := IntKind.wrap_u8 T
  rw [show ((D.length : Int)) % 256 = D.length by omega] at w1
  rw [show (a / 256) % 256 = a / 256 by omega] at w2
  rw [show (a % 256) % 256 = a % 256 by omega] at w3
  rw [show T % 256 = T by omega] at w4
  clear k1 k2 hcs hal hX h
  go_enter Tryd.func103, Tryd.ntmps103
  go_wp2_with (at_builtin; refine wpList_run_append K.out rfl _ _ rfl rfl rfl rfl ?_)
  go_ret
  exact ⟨_, rfl, K2.out⟩

theorem strOf_app (xs : List UInt8) (t : ByteArray) : strOf xs ++ t = strOf (xs ++ t.data.toList) := by
  apply bytes_ext
  rw [append_data]
  unfold strOf
  simp
theorem strOf_size (xs : List UInt8) : (strOf xs).size = xs.length := by
  show xs.toArray.size = _
  simp
set_option maxHeartbeats 2000000 in
theorem rprint_any (P : Nat → Prop) (T a : Int) (A : Option Addr) (cap : Nat) (D : List UInt8) (hl : D.length ≤ maxLen) (w : World) (hX : BytesP P w A D) :
    Calls Tryd.prog 80 #[.agg #[.int .i64 T, .int .i64 a, .slice A D.length cap]] w fun e w' => e = .returned (.tuple #[.string (printS T a D), .bool (rightB T a D.length)]) ∧ Below w.heap.size w w' := by
  have hR := fun w => rright_any T a A D.length cap hl w
  cases hr : rightB T a D.length
  · have N : Hid (printS T a D = ⟨#[]⟩) := by show _ = _; unfold printS; rw [hr]; rfl
    simp only [hr] at hR
    clear hr hX
    go_enter Tryd.func80, Tryd.ntmps80
    go_wp2_with fail
    refine (hR _).mono ?_
    rintro e w1 ⟨rfl, hB1⟩
    have B1 := Lib.hid hB1
    clear hB1 hR
    go_wp2
    go_ret2
    rw [N.out]
    exact ⟨rfl, ((Below.refl _ _).alloc (Nat.le_refl _) _).trans (B1.out.mono (by simp))⟩
  · have N : Hid (printS T a D = strOf (printL T a D)) := by show _ = _; unfold printS; rw [hr]; rfl
    have hrr := hr
    simp only [hr] at hR
    have h5 : D.length ≤ 255 := by unfold rightB at hr; exact (of_decide_eq_true hr).2.2.2.2
    have hal : Below w.heap.size w (w.alloc (.cells #[.int .i64 T, .int .i64 a, .slice A D.length cap] 142)) := (Below.refl _ _).alloc (Nat.le_refl _) _
    have htr := Tri.new w _ rfl (.int .i64 T) (.int .i64 a) (.slice A D.length cap) 142
    have XX := Lib.hid (hX.below hal)
    have TT := Lib.hid htr
    have AL := Lib.hid hal
    have H5 := Lib.hid h5
    have RR := Lib.hid hrr
    clear hr hX hal hrr h5 htr
    go_enter Tryd.func80, Tryd.ntmps80
    go_wp2_with fail
    refine (hR _).mono ?_
    rintro e w1 ⟨rfl, hB1⟩
    have hX1 := XX.out.below hB1
    have hT1 := TT.out.kept (P := fun _ => True) (KeptP.of_all hB1) trivial
    have hB0 : Below w.heap.size w w1 := AL.out.trans (hB1.mono (by simp))
    have hbb := rrecb_any _ T a A cap D RR.out w1 hX1
    have B0 := Lib.hid hB0
    obtain ⟨-, q0, q1, q2, -⟩ := hT1
    clear hB1 hX1 hB0 hR XX TT AL
    go_wp2_with fail
    refine hbb.mono ?_
    rintro e w2 ⟨v2, rfl, hO2⟩
    have hlb : (recB T a D).length = D.length + 4 := by unfold recB hdrB; simp
    obtain ⟨rb, hrb⟩ : ∃ rb, recB T a D = rb := ⟨_, rfl⟩
    have RB := Lib.hid hrb
    rw [hrb] at hO2 hlb
    obtain ⟨A2, cap2, e2, hc2, -, hX2, hBl2⟩ := ownB_endC hO2
    injection e2 with e2
    subst e2
    have hsum := rsum_any _ A2 cap2 rb (by rw [hlb]; unfold maxLen; have := H5.out; omega) w2 hX2.toP
    have hlen3 : rb.length < 140737488355328 := by have := H5.out; omega
    have O2 := Lib.hid hO2
    have L2 := Lib.hid hlen3
    have LB := Lib.hid hlb
    have BL2 := Lib.hid hBl2
    clear hbb q0 q1 q2 hrb hO2 hc2 hX2 hBl2 hlb hlen3
    go_wp2_with fail
    refine hsum.mono ?_
    rintro e w' ⟨rfl, rfl⟩
    clear hsum
    have Y := Lib.hid (chk_u rb).symm
    go_wp2_with (at_builtin; refine wpList_app1 O2.out rfl _ _ rfl rfl rfl (chkI rb) (lowU (chkI rb)) Y.out L2.out ?_; intro v3 w3 hown3)
    obtain ⟨bs, hbs⟩ : ∃ bs, rb ++ [lowU (chkI rb)] = bs := ⟨_, rfl⟩
    have BS := Lib.hid hbs
    rw [hbs] at hown3
    have hlbs : bs.length ≤ 260 := by rw [← hbs, List.length_append, LB.out]; have := H5.out; simp; omega
    obtain ⟨A3, cap3, e3, hc3, -, hX3, hBl3⟩ := ownB_endC hown3
    injection e3 with e3
    subst e3
    have X3 := Lib.hid hX3
    have B3 := Lib.hid (B0.out.trans (hBl3.mono B0.out.size))
    clear hbs hown3 hc3 hX3 hBl3
    go_wp2
    go_loop [5, 6] (fun s i => ∃ (k : Nat) (t : ByteArray), k ≤ bs.length ∧ i = .int .i64 k ∧ s = .string t ∧ t.size ≤ 1000 ∧ Hid (t = strOf (58 :: hexL (bs.take k)))) (fun _ i => bs.length - (intOf i).toNat)
    case atStart => exact ⟨0, ⟨#[58]⟩, Nat.zero_le _, rfl, rfl, by decide, rfl⟩
    case round =>
      obtain ⟨k, t, hk, rfl, rfl, ht, HT⟩ := hrel
      by_cases hlt : k < bs.length
      · obtain ⟨g, off, hA, g0⟩ := X3.out.at_ hlt
        subst hA
        have M := Lib.hid (hexL_take bs k hlt)
        obtain ⟨x, hxk⟩ : ∃ x : Int, (bs[k].toNat : Int) = x := ⟨_, rfl⟩
        have x0 : 0 ≤ x := by omega
        have x1 : x < 256 := by have := bs[k].toNat_lt; omega
        rw [hxk] at g0 M
        have N2 : Hid (t ++ hexS x 2 = strOf (58 :: hexL (bs.take (k + 1)))) := by
          show _ = _
          rw [HT.out, strOf_app, M.out]
          rfl
        have hsz : (strOf (58 :: hexL (bs.take (k + 1)))).size ≤ 1000 := by
          rw [strOf_size, List.length_cons, hexL_length, List.length_take]; omega
        have hlt' : (k : Int) < (bs.length : Int) := by omega
        have hcat : ¬ 9223372036854775807 < t.size + (hexS x 2).size := by rw [hexS_size]; omega
        clear hxk
        go_wp2_with fail
        refine (rhex_any x 2 (by omega) _).mono ?_
        rintro e w' ⟨rfl, rfl⟩
        go_wp2
        go_round
        case rel => exact ⟨k + 1, _, by omega, by go_num, rfl, by rw [N2.out]; exact hsz, N2⟩
        case measure => simp [intOf]; omega
      · have hlt' : decide ((k : Int) < (bs.length : Int)) = false := decide_eq_false (by omega)
        have E : Hid (t = strOf (printL T a D)) := by
          show _ = _
          rw [HT.out, List.take_of_length_le (by omega), ← BS.out, ← RB.out]
          rfl
        go_wp2
        go_ret2
        rw [N.out, E.out]
        exact ⟨rfl, B3.out⟩
end Go.Proofs.YtmeegpdjhcilkaaDoor
/-
  The walk over record.Parse: for every line, the record and the code.
-/
namespace Go.Proofs.YtmeegpdjhcilkaaDoor
open Go.RowKit
set_option linter.unusedVariables false

/-- The code of a line. -/
def parCode (s : ByteArray) : Int :=
  if linOk s = false then 3 else if ¬ numI ((bytesL (linCut s)).take 1) = ((bytesL (linCut s)).length : Int) - 5 then 6 else if ¬ chkI (bytesL (linCut s)) = 0 then 5 else 0
def parT (s : ByteArray) : Int := if parCode s = 0 then recT (bytesL (linCut s)) else 0
def parA (s : ByteArray) : Int := if parCode s = 0 then recA (bytesL (linCut s)) else 0
def parD (s : ByteArray) : List UInt8 := if parCode s = 0 then recD (bytesL (linCut s)) ((bytesL (linCut s)).length - 5) else []
/-- The call returns a record and a code; nothing that was there is changed. -/
def RetRec (w : World) (T Ad : Int) (D : List UInt8) (c : Int) (e : Ending) (w' : World) : Prop :=
  ∃ A cap, e = .returned (.tuple #[.agg #[.int .i64 T, .int .i64 Ad, .slice A D.length cap], .int .i64 c]) ∧ D.length ≤ cap ∧ BytesP (· < w'.heap.size) w' A D ∧ Below w.heap.size w w'
theorem Tri.put3 {n : Nat} {w : World} {x y z : Value} (h : Tri n w x y z) (x' y' z' : Value) :
    ∃ wf, ((w.setCell ⟨n, 0, none⟩ x').setCell ⟨n, 1, none⟩ y').setCell ⟨n, 2, none⟩ z' = wf ∧ Tri n wf x' y' z' ∧ KeptP (· ≠ n) w wf :=
  ⟨_, rfl, ((h.set0 x').set1 y').set2 z', (((KeptP.refl _ _).setCell (by simp) _).setCell (by simp) _).setCell (by simp) _⟩
/-- From a world in which a block of the call's own has been written last. -/
theorem below_of_kept {w wr wf : World} {n : Nat} (h : Below w.heap.size w wr) (hn : w.heap.size ≤ n) (k : KeptP (· ≠ n) wr wf) : Below w.heap.size w wf :=
  h.trans (k.below (B := w.heap.size) (fun i hi => by omega) h.size)
theorem retRec_bad {w wr : World} {s : ByteArray} {c : Int} (hc : parCode s = c) (h0 : c ≠ 0) (h : Below w.heap.size w wr) :
    RetRec w (parT s) (parA s) (parD s) (parCode s) (.returned (.tuple #[.agg #[.int .i64 0, .int .i64 0, .slice none 0 0], .int .i64 c])) wr := by
  have h1 : ¬ parCode s = 0 := by rw [hc]; exact h0
  unfold parT parA parD
  rw [if_neg h1, if_neg h1, if_neg h1, hc]
  exact ⟨none, 0, rfl, Nat.le_refl _, .inl rfl, h⟩
theorem par3 {s : ByteArray} (h : linOk s = false) : parCode s = 3 := by unfold parCode; rw [if_pos h]
theorem par6 {s : ByteArray} (h : linOk s = true) (h1 : ¬ numI ((bytesL (linCut s)).take 1) = ((bytesL (linCut s)).length : Int) - 5) : parCode s = 6 := by
  unfold parCode; rw [if_neg (by simp [h]), if_pos h1]
theorem par5 {s : ByteArray} (h : linOk s = true) (h1 : numI ((bytesL (linCut s)).take 1) = ((bytesL (linCut s)).length : Int) - 5) (h2 : ¬ chkI (bytesL (linCut s)) = 0) : parCode s = 5 := by
  unfold parCode; rw [if_neg (by simp [h]), if_neg (fun g => g h1), if_pos h2]
theorem par0 {s : ByteArray} (h : linOk s = true) (h1 : numI ((bytesL (linCut s)).take 1) = ((bytesL (linCut s)).length : Int) - 5) (h2 : chkI (bytesL (linCut s)) = 0) : parCode s = 0 := by
  unfold parCode; rw [if_neg (by simp [h]), if_neg (fun g => g h1), if_neg (fun g => g h2)]
theorem linOk_len {s : ByteArray} (h : linOk s = true) : 5 ≤ (bytesL (linCut s)).length := by
  unfold linOk at h
  simp only [Bool.and_eq_true, decide_eq_true_eq] at h
  exact h.2.2
theorem bytesL_le (s : ByteArray) : (bytesL s).length ≤ s.size := by
  unfold bytesL
  split
  · simp only [List.length_map, List.length_range]; omega
  · simp

set_option maxHeartbeats 2000000 in
theorem parse_any (s : ByteArray) (hs : s.size ≤ 140737488355328) (w : World) :
    Calls Tryd.prog 64 #[.string s] w (RetRec w (parT s) (parA s) (parD s) (parCode s)) := by
  have hp := partsOf_any s hs (w.alloc (.cells #[.int .i64 0, .int .i64 0, .slice none 0 0] 78))
  have hal : Below w.heap.size w (w.alloc (.cells #[.int .i64 0, .int .i64 0, .slice none 0 0] 78)) := (Below.refl _ _).alloc (Nat.le_refl _) _
  have htr := Tri.new w _ rfl (.int .i64 0) (.int .i64 0) (.slice none 0 0) 78
  have hsz : w.heap.size < (w.alloc (.cells #[.int .i64 0, .int .i64 0, .slice none 0 0] 78)).heap.size := by simp
  have hlb := bytesL_le (linCut s)
  have hcs : (linCut s).size ≤ s.size := cutPre_le s ⟨#[58]⟩
  have HAL := Lib.hid hal
  have HTR := Lib.hid htr
  have HSZ := Lib.hid hsz
  have HLB := Lib.hid (Nat.le_trans hlb (Nat.le_trans hcs hs))
  clear hal htr hsz hlb hcs hs
  go_enter Tryd.func64, Tryd.ntmps64
  go_wp2_with fail
  refine hp.mono ?_
  rintro e w1 (⟨hno, rfl, hB⟩ | ⟨hok, A, cap, b, rfl, hcap, hP, hX, hb, hB⟩)
  · -- no record's form
    have N := Lib.hid (par3 hno)
    have B1 := Lib.hid (HAL.out.trans (hB.mono (Nat.le_of_lt HSZ.out)))
    have hT : Tri w.heap.size w1 _ _ _ := HTR.out.kept (P := fun _ => True) (KeptP.of_all hB) trivial
    have T1 := Lib.hid hT
    obtain ⟨-, e0, e1, e2, ef⟩ := hT
    have ef0 := ef 0
    have ef1 := ef 1
    have ef2 := ef 2
    clear hno hB hp ef
    go_wp2
    obtain ⟨wf, hwf, hTf, hKf⟩ := T1.out.put3 (.int .i64 0) (.int .i64 0) (.slice none 0 0)
    rw [hwf]
    obtain ⟨-, c0, c1, c2, -⟩ := hTf
    exact bodyPost_ret (v := .tuple #[.agg #[.int .i64 0, .int .i64 0, .slice none 0 0], .int .i64 3]) (by simp [results, Tryd.results64, go_sem, c0, c1, c2]) rfl (retRec_bad N.out (by decide) (below_of_kept B1.out (Nat.le_refl _) hKf))
  · have hl5 := linOk_len hok
    have OK := Lib.hid hok
    obtain ⟨bs, hbs⟩ : ∃ bs, bytesL (linCut s) = bs := ⟨_, rfl⟩
    have HBS := Lib.hid hbs
    have HLB2 : bs.length ≤ 140737488355328 := by rw [← hbs]; exact HLB.out
    rw [hbs] at hcap hP hX hl5 ⊢
    have B1 := Lib.hid (HAL.out.trans (hB.mono (Nat.le_of_lt HSZ.out)))
    have hT : Tri w.heap.size w1 _ _ _ := HTR.out.kept (P := fun _ => True) (KeptP.of_all hB) trivial
    have T1 := Lib.hid hT
    have P1 := Lib.hid hP
    have X1 := Lib.hid hX
    have HC := Lib.hid hcap
    have hnb : w.heap.size < b := Nat.lt_of_lt_of_le HSZ.out hb
    have NB := Lib.hid hnb
    obtain ⟨-, e0, e1, e2, ef⟩ := hT
    have ef0 := ef 0
    have ef1 := ef 1
    have ef2 := ef 2
    have ez := hP.2
    obtain ⟨q, hq⟩ : ∃ q, numI (bs.take 1) = q := ⟨_, rfl⟩
    have Q := Lib.hid hq
    rw [hq] at ez P1
    clear hok hbs hB hp ef hP hX hcap hb hq hnb
    by_cases h6 : q = (bs.length : Int) - 5
    · obtain ⟨m, hm⟩ : ∃ m, bs.length = m + 5 := ⟨bs.length - 5, by omega⟩
      have hqm : q = (m : Int) := by omega
      have M := Lib.hid hm
      rw [hqm] at ez P1
      have h6' : ((m : Int) != (bs.length : Int) - 5) = false := by
        have : (m : Int) = (bs.length : Int) - 5 := by omega
        rw [← this]; simp
      have Q6 : Hid (numI (bs.take 1) = (bs.length : Int) - 5) := Q.out.trans h6
      have hsum := sum_any _ A cap bs (by unfold maxLen; omega) w1 X1.out
      clear hqm h6 hm
      by_cases h5 : chkI bs = 0
      · have N := Lib.hid (par0 OK.out (by rw [HBS.out]; exact Q6.out) (by rw [HBS.out]; exact h5))
        rw [h5] at hsum
        clear h5
        go_wp2_with fail
        refine hsum.mono ?_
        rintro e w2 ⟨rfl, hB2⟩
        have B2 := Lib.hid (B1.out.trans (hB2.mono B1.out.size))
        have k2 : KeptP (fun _ => True) w1 w2 := KeptP.of_all hB2
        have T2 := Lib.hid (T1.out.kept k2 trivial)
        have P2 := P1.out.kept k2 trivial
        have X2 := X1.out.kept k2 (fun _ _ _ => trivial)
        have hlen1 : (bs.drop 1).length = bs.length - 1 := List.length_drop
        have hrec := recOf_any b (subA A 1 cap) (bs.drop 1) (cap - 1) m (by rw [hlen1]; have := M.out; omega) (by rw [hlen1]; have := HC.out; omega) w2 ((X2.mono (Q := (· < b)) fun i _ h => h.2).sub 1 cap HC.out) (by rw [hlen1]; exact P2)
        have X3 := Lib.hid X2
        clear hB2 k2 P2 X2 hsum e0 e1 e2 ef0 ef1 ef2 hlen1 ez h6'
        go_wp2_with fail
        refine hrec.mono ?_
        rintro e w3 ⟨rfl, hK3⟩
        have B3 := Lib.hid (below_of_kept B2.out (Nat.le_of_lt NB.out) hK3)
        have hT3 := T2.out.kept hK3 (by have := NB.out; omega)
        have T3 := Lib.hid hT3
        have X4 := Lib.hid (X3.out.kept hK3 fun i _ h => (by have := h.2; omega))
        obtain ⟨-, e0, e1, e2, ef⟩ := hT3
        have ef0 := ef 0
        have ef1 := ef 1
        have ef2 := ef 2
        clear hrec hK3 ef
        obtain ⟨q1, hq1⟩ : ∃ q, numI (((bs.drop 1).drop 2).take 1) = q := ⟨_, rfl⟩
        obtain ⟨q2, hq2⟩ : ∃ q, numI ((bs.drop 1).take 2) = q := ⟨_, rfl⟩
        rw [hq1, hq2]
        have HQ1 := Lib.hid hq1
        have HQ2 := Lib.hid hq2
        clear hq1 hq2
        go_wp2
        obtain ⟨wf, hwf, hTf, hKf⟩ := T3.out.put3 (.int .i64 q1) (.int .i64 q2) (.slice (subA (subA (subA A 1 cap) 2 (cap - 1)) 1 (cap - 1 - 2)) m (cap - 1 - 2 - 1))
        rw [hwf]
        have hBf := below_of_kept B3.out (Nat.le_refl _) hKf
        have hXf := X4.out.kept hKf fun i _ h => (by have h1 := h.1; simp at h1; omega)
        obtain ⟨-, c0, c1, c2, -⟩ := hTf
        refine bodyPost_ret (v := .tuple #[.agg #[.int .i64 q1, .int .i64 q2, .slice (subA (subA (subA A 1 cap) 2 (cap - 1)) 1 (cap - 1 - 2)) m (cap - 1 - 2 - 1)], .int .i64 0]) (by simp [results, Tryd.results64, go_sem, c0, c1, c2]) rfl ?_
        have hml : (recD bs (bs.length - 5)).length = m := by unfold recD; rw [List.length_take, List.length_drop]; have := M.out; omega
        have hq1 : parT s = q1 := by unfold parT; rw [if_pos N.out, HBS.out, ← HQ1.out, List.drop_drop]; rfl
        have hq2 : parA s = q2 := by unfold parA; rw [if_pos N.out, HBS.out, ← HQ2.out]; rfl
        have hqd : parD s = recD bs (bs.length - 5) := by unfold parD; rw [if_pos N.out, HBS.out]
        rw [hq1, hq2, hqd, N.out]
        refine ⟨_, _, by rw [hml], by rw [hml]; have := M.out; have := HC.out; omega, ?_, hBf⟩
        have h3 := (((hXf.sub 1 cap HC.out).sub 2 (cap - 1) (by rw [List.length_drop]; have := HC.out; omega)).sub 1 (cap - 1 - 2) (by rw [List.length_drop, List.length_drop]; have := HC.out; omega)).take m
        have e4 : (((bs.drop 1).drop 2).drop 1).take m = recD bs (bs.length - 5) := by unfold recD; rw [List.drop_drop, List.drop_drop, show bs.length - 5 = m by have := M.out; omega]
        rw [e4] at h3
        exact h3.mono fun i hi _ => hi
      · have N := Lib.hid (par5 OK.out (by rw [HBS.out]; exact Q6.out) (by rw [HBS.out]; exact h5))
        have h5' : (chkI bs != 0) = true := by rw [bne_iff_ne]; exact h5
        clear h5
        go_wp2_with fail
        refine hsum.mono ?_
        rintro e w2 ⟨rfl, hB2⟩
        have B2 := Lib.hid (B1.out.trans (hB2.mono B1.out.size))
        have hT2 := T1.out.kept (P := fun _ => True) (KeptP.of_all hB2) trivial
        have T2 := Lib.hid hT2
        clear e0 e1 e2 ef0 ef1 ef2
        obtain ⟨-, e0, e1, e2, ef⟩ := hT2
        have ef0 := ef 0
        have ef1 := ef 1
        have ef2 := ef 2
        clear hB2 hsum ef ez h6'
        go_wp2
        obtain ⟨wf, hwf, hTf, hKf⟩ := T2.out.put3 (.int .i64 0) (.int .i64 0) (.slice none 0 0)
        rw [hwf]
        obtain ⟨-, c0, c1, c2, -⟩ := hTf
        exact bodyPost_ret (v := .tuple #[.agg #[.int .i64 0, .int .i64 0, .slice none 0 0], .int .i64 5]) (by simp [results, Tryd.results64, go_sem, c0, c1, c2]) rfl (retRec_bad N.out (by decide) (below_of_kept B2.out (Nat.le_refl _) hKf))
    · have N := Lib.hid (par6 OK.out (by rw [HBS.out, Q.out]; exact h6))
      have h6' : (q != (bs.length : Int) - 5) = true := by rw [bne_iff_ne]; exact h6
      clear h6
      go_wp2
      obtain ⟨wf, hwf, hTf, hKf⟩ := T1.out.put3 (.int .i64 0) (.int .i64 0) (.slice none 0 0)
      rw [hwf]
      obtain ⟨-, c0, c1, c2, -⟩ := hTf
      exact bodyPost_ret (v := .tuple #[.agg #[.int .i64 0, .int .i64 0, .slice none 0 0], .int .i64 6]) (by simp [results, Tryd.results64, go_sem, c0, c1, c2]) rfl (retRec_bad N.out (by decide) (below_of_kept B1.out (Nat.le_refl _) hKf))
end Go.Proofs.YtmeegpdjhcilkaaDoor
/-
  The walk over breadboardref03.Parse: for every line, the record and the code that record.Parse returns.
-/
namespace Go.Proofs.YtmeegpdjhcilkaaDoor
open Go.RowKit
set_option linter.unusedVariables false

/-! ### The first byte -/
theorem linPre_iff (s : ByteArray) (h : 0 < s.size) : linPre s = decide ((s[0].toNat : Int) = 58) := by
  unfold linPre preB
  have e : (s.extract 0 1).data.toList = [s[0]] := by
    rw [Lib.extract_data, List.drop_zero]
    have h1 : s.data.toList = s.data.toList[0]'(by simpa using h) :: s.data.toList.drop 1 := by
      rw [← List.drop_eq_getElem_cons (by simpa using h), List.drop_zero]
    have h2 : s.data.toList[0]'(by simpa using h) = s[0] := rfl
    rw [h1, h2]
    rfl
  have e2 : ((⟨#[58]⟩ : ByteArray).size) = 1 := rfl
  rw [e2, ByteArray.toList_eq, ByteArray.toList_eq, e, decide_eq_true (show 1 ≤ s.size by omega), Bool.true_and]
  by_cases h3 : s[0] = 58
  · rw [h3]; rfl
  · have h4 : ¬ ((s[0].toNat : Int) = 58) := fun h5 => h3 (UInt8.toNat_inj.1 (by show s[0].toNat = 58; omega))
    rw [decide_eq_false h4]
    simpa using h3
theorem linCut_of {s : ByteArray} (h : linPre s = true) : linCut s = s.extract 1 s.size := by
  unfold linCut cutPre
  rw [if_pos (show preB s ⟨#[58]⟩ = true from h)]
  rfl
theorem bytesL_len {s : ByteArray} (h : bytesOk s = true) : s.size = 2 * (bytesL s).length := by
  have h2 : s.size % 2 = 0 := by unfold bytesOk at h; exact (of_decide_eq_true h).1
  unfold bytesL
  rw [h]
  simp only [if_true, List.length_map, List.length_range]
  omega
theorem cut_size {s : ByteArray} (h : linPre s = true) : (linCut s).size = s.size - 1 := by rw [linCut_of h]; simp
theorem lin_short {s : ByteArray} (h : s.size < 11) : linOk s = false := by
  cases h1 : linPre s
  · exact lin_no1 h1
  · cases h2 : bytesOk (linCut s)
    · exact lin_no2 h2
    · refine lin_no3 fun h3 => ?_
      have := bytesL_len h2
      rw [cut_size h1] at this
      omega

/-! ### Single bytes -/
theorem numI_one (xs : List UInt8) (k : Nat) (h : k < xs.length) : numI ((xs.drop k).take 1) = (xs[k].toNat : Int) := by
  rw [List.drop_eq_getElem_cons h, List.take_succ_cons, List.take_zero]
  show (0 : Int) * 256 + _ = _
  omega
theorem numI_two (xs : List UInt8) (k : Nat) (h : k + 1 < xs.length) : numI ((xs.drop k).take 2) = (xs[k].toNat : Int) * 256 + (xs[k + 1].toNat : Int) := by
  rw [List.drop_eq_getElem_cons (show k < xs.length by omega), List.drop_eq_getElem_cons h, List.take_succ_cons, List.take_succ_cons, List.take_zero]
  show ((0 : Int) * 256 + _) * 256 + _ = _
  omega
theorem chk_last (xs : List UInt8) (n : Nat) (h : xs.length = n + 1) : chkI xs = 0 ↔ (xs[n].toNat : Int) = chkI (xs.take n) := by
  have e := sumI_take xs n (by omega)
  rw [List.take_of_length_le (by omega)] at e
  have := xs[n].toNat_lt
  unfold chkI
  omega
theorem BytesP.get {P : Nat → Prop} {w : World} {b off : Nat} {xs : List UInt8} (h : BytesP P w (some ⟨b, off, none⟩) xs) {k : Nat} (hk : k < xs.length) : w.cell? ⟨b, off + k, none⟩ = some (.int .u8 (xs[k].toNat : Int)) := by
  obtain ⟨b', off', h1, h2⟩ := h.at_ hk
  have := Option.some.inj h1
  simp only [Addr.mk.injEq, and_true] at this
  rw [this.1, this.2]
  exact h2

set_option maxHeartbeats 2000000 in
theorem rparse_any (s : ByteArray) (hs : s.size ≤ 140737488355328) (w : World) :
    Calls Tryd.prog 91 #[.string s] w (RetRec w (parT s) (parA s) (parD s) (parCode s)) := by
  have hal : Below w.heap.size w (w.alloc (.cells #[.int .i64 0, .int .i64 0, .slice none 0 0] 142)) := (Below.refl _ _).alloc (Nat.le_refl _) _
  have htr := Tri.new w _ rfl (.int .i64 0) (.int .i64 0) (.slice none 0 0) 142
  have hsz : w.heap.size < (w.alloc (.cells #[.int .i64 0, .int .i64 0, .slice none 0 0] 142)).heap.size := by simp
  have T0 := Lib.hid htr
  have HAL := Lib.hid hal
  have HSZ := Lib.hid hsz
  clear hal hsz
  obtain ⟨-, e0, e1, e2, ef⟩ := htr
  have ef0 := ef 0
  have ef1 := ef 1
  have ef2 := ef 2
  clear ef
  by_cases h11 : s.size < 11
  · have N := Lib.hid (par3 (lin_short h11))
    have h11' : (s.size : Int) < 11 := by omega
    clear h11 hs
    go_enter Tryd.func91, Tryd.ntmps91
    go_wp2
    exact bodyPost_ret (v := .tuple #[.agg #[.int .i64 0, .int .i64 0, .slice none 0 0], .int .i64 3]) (by simp [results, Tryd.results91, go_sem, e0, e1, e2]) rfl (retRec_bad N.out (by decide) HAL.out)
  · have h0 : 0 < s.size := by omega
    have h11' : decide ((s.size : Int) < 11) = false := decide_eq_false (by omega)
    have hpre := linPre_iff s h0
    obtain ⟨c, hc⟩ : ∃ c : Int, (s[0].toNat : Int) = c := ⟨_, rfl⟩
    have HC0 := Lib.hid hc
    rw [hc] at hpre
    by_cases h58 : c = 58
    · rw [h58] at hc
      have h58' : ((s[0].toNat : Int) != 58) = false := by rw [hc]; rfl
      have LP : Hid (linPre s = true) := by show _ = _; rw [hpre]; exact decide_eq_true h58
      have hcut := linCut_of LP.out
      have hb := fun w => rbytesC_any (linCut s) (by rw [cut_size LP.out]; omega) w
      have hcsz := cut_size LP.out
      have h1s : (1 : Int) ≤ (s.size : Int) := by omega
      have h63 : s.size ≤ 2 ^ 63 - 1 := by omega
      rw [hcut] at hb
      have HCUT := Lib.hid hcut
      have HS := Lib.hid hs
      clear hpre h58 hcut HC0 hc hs
      cases h2 : bytesOk (linCut s)
      · rw [HCUT.out] at h2
        rw [h2] at hb
        have N := Lib.hid (par3 (lin_no2 (s := s) (by rw [HCUT.out]; exact h2)))
        clear h2 hcsz
        go_enter Tryd.func91, Tryd.ntmps91
        go_wp2_with fail
        refine (hb _).mono ?_
        rintro e w1 ⟨A, cap, rfl, -, -, -, hB⟩
        have B1 := Lib.hid (HAL.out.trans (hB.mono (Nat.le_of_lt HSZ.out)))
        have hT1 := T0.out.kept (P := fun _ => True) (KeptP.of_all hB) trivial
        have T1 := Lib.hid hT1
        clear e0 e1 e2 ef0 ef1 ef2
        obtain ⟨-, e0, e1, e2, ef⟩ := hT1
        have ef0 := ef 0
        have ef1 := ef 1
        have ef2 := ef 2
        clear ef hB hb
        go_wp2
        obtain ⟨wf, hwf, hTf, hKf⟩ := T1.out.put3 (.int .i64 0) (.int .i64 0) (.slice none 0 0)
        rw [hwf]
        obtain ⟨-, c0, c1, c2, -⟩ := hTf
        exact bodyPost_ret (v := .tuple #[.agg #[.int .i64 0, .int .i64 0, .slice none 0 0], .int .i64 3]) (by simp [results, Tryd.results91, go_sem, c0, c1, c2]) rfl (retRec_bad N.out (by decide) (below_of_kept B1.out (Nat.le_refl _) hKf))
      · have hblen := bytesL_len h2
        obtain ⟨bs, hbs⟩ : ∃ bs, bytesL (linCut s) = bs := ⟨_, rfl⟩
        have HBS := Lib.hid hbs
        rw [hbs] at hblen
        have hl5 : 5 ≤ bs.length := by omega
        have hl9 : bs.length ≤ 140737488355328 := by have := HS.out; omega
        have OK := Lib.hid (lin_yes LP.out h2 (by rw [hbs]; exact hl5))
        rw [HCUT.out] at h2 hbs
        rw [h2, hbs] at hb
        clear h2 hbs hblen hcsz
        go_enter Tryd.func91, Tryd.ntmps91
        go_wp2_with fail
        refine (hb _).mono ?_
        rintro e w1 ⟨A, cap, rfl, hX0, hcap, hnew, hB⟩
        have hX := hX0.toNew hnew
        have B1 := Lib.hid (HAL.out.trans (hB.mono (Nat.le_of_lt HSZ.out)))
        have hT1 := T0.out.kept (P := fun _ => True) (KeptP.of_all hB) trivial
        have T1 := Lib.hid hT1
        clear e0 e1 e2 ef0 ef1 ef2
        obtain ⟨-, e0, e1, e2, ef⟩ := hT1
        have ef0 := ef 0
        have ef1 := ef 1
        have ef2 := ef 2
        have HCAP := Lib.hid hcap
        have NEW := Lib.hid hnew
        have X1 := Lib.hid hX
        obtain ⟨b, off, hA, hbp, -⟩ := hX.atP (k := 0) (by omega)
        subst hA
        have g0 := hX.get (k := 0) (by omega)
        rw [Nat.add_zero] at g0
        obtain ⟨m, hm⟩ : ∃ m, bs.length = m + 5 := ⟨bs.length - 5, by omega⟩
        have M := Lib.hid hm
        have hm' : (bs.length : Int) - 5 = (m : Int) := by omega
        obtain ⟨c0, hc0⟩ : ∃ c : Int, (bs[0].toNat : Int) = c := ⟨_, rfl⟩
        have Q0 : Hid (numI (bs.take 1) = c0) := (numI_one bs 0 (by omega)).trans hc0
        have c00 : 0 ≤ c0 := by omega
        have c01 : c0 < 256 := by have := bs[0].toNat_lt; omega
        rw [hc0] at g0
        clear ef hB hb hX hX0 hnew hcap hc0 hm
        by_cases h6 : c0 = (m : Int)
        · have h6' : (c0 != (m : Int)) = false := by rw [h6]; simp
          have Q6 : Hid (numI (bs.take 1) = (bs.length : Int) - 5) := by show _ = _; rw [hm', Q0.out, h6]
          clear h6
          go_wp2
          obtain ⟨k, hk⟩ : ∃ k, bs.length = k + 1 := ⟨bs.length - 1, by omega⟩
          have hkm : k = m + 4 := by have := M.out; omega
          have HK := Lib.hid hk
          have KM := Lib.hid hkm
          have hk1 : (bs.length : Int) - 1 = (k : Int) := by omega
          have hkw : IntKind.i64.wrap (k : Int) = (k : Int) := by rw [IntKind.wrap_i64]; omega
          have hklt : k < bs.length := by omega
          have hkc : k ≤ cap := by have := HCAP.out; omega
          have gk := X1.out.get (k := k) (by omega)
          obtain ⟨y, hy⟩ : ∃ y : Int, ((bs[k]'(by omega)).toNat : Int) = y := ⟨_, rfl⟩
          rw [hy] at gk
          have CHK : Hid (chkI bs = 0 ↔ y = chkI (bs.take k)) := by show _ ↔ _; rw [← hy]; exact chk_last bs k hk
          have hsl := fun w => slB_h (some ⟨b, off, none⟩) bs.length cap k hkc w
          have htl : (bs.take k).length = k := by simp; omega
          have XT : BytesP _ w1.drew (some ⟨b, off, none⟩) (bs.take k) := (X1.out.below (Below.refl _ _).drew).take k
          have hsum := rsum_any _ (some ⟨b, off, none⟩) cap (bs.take k) (by unfold maxLen; omega) w1.drew XT
          rw [htl] at hsum
          have gk' : w1.drew.cell? ⟨b, off + k, none⟩ = some (.int .u8 y) := gk
          clear hy hk hkm htl XT hm' h6'
          refine Mixed.wp_region_mixed (fun w' => w'.cell? ⟨b, off + k, none⟩ = some (.int .u8 y)) 10 [(0, true), (1, true), (2, true), (3, true), (4, true), (5, true), (6, true), (7, true), (8, true), (9, false)] (by kernel_rfl) (by kernel_rfl) gk' ?_
          refine Mixed.wpMix_move rfl rfl _ rfl _ rfl ?_
          refine Mixed.wpMix_move rfl rfl _ rfl _ rfl ?_
          refine Mixed.wpMix_pure rfl rfl (.int .i64 (k : Int)) (fun w h => by go_simp) ?_
          refine Mixed.wpMix_pure rfl rfl (.pointer (some ⟨b, off + k, none⟩)) (fun w h => by go_simp) ?_
          refine Mixed.wpMix_pure rfl rfl (.int .u8 y) (fun w h => by go_simp) ?_
          refine Mixed.wpMix_move rfl rfl _ rfl _ rfl ?_
          refine Mixed.wpMix_move rfl rfl _ rfl _ rfl ?_
          refine Mixed.wpMix_pure rfl rfl (.int .i64 (k : Int)) (fun w h => by go_simp) ?_
          refine Mixed.wpMix_pure rfl rfl (.slice (some ⟨b, off, none⟩) k cap) (fun w h => by go_simp) ?_
          refine Mixed.wpMix_loud rfl ?_
          go_wp2_with fail
          refine hsum.mono ?_
          rintro e w' ⟨rfl, rfl⟩
          go_wp2
          refine ⟨gk', ?_⟩
          simp only [Mixed.wpMix, List.drop_succ_cons, List.drop_zero]
          by_cases h5 : y = chkI (bs.take k)
          · have h5' : (y != chkI (bs.take k)) = false := by rw [← h5]; simp
            have N := Lib.hid (par0 OK.out (by rw [HBS.out]; exact Q6.out) (by rw [HBS.out]; exact CHK.out.2 h5))
            clear h5
            go_wp2
            have gg1 := X1.out.get (k := 1) (by omega)
            have gg2 := X1.out.get (k := 2) (by omega)
            have gg3 := X1.out.get (k := 3) (by omega)
            obtain ⟨c1, hc1⟩ : ∃ c : Int, (bs[1].toNat : Int) = c := ⟨_, rfl⟩
            obtain ⟨c2, hc2⟩ : ∃ c : Int, (bs[2].toNat : Int) = c := ⟨_, rfl⟩
            obtain ⟨c3, hc3⟩ : ∃ c : Int, (bs[3].toNat : Int) = c := ⟨_, rfl⟩
            have b1 : 0 ≤ c1 ∧ c1 < 256 := by have := bs[1].toNat_lt; omega
            have b2 : 0 ≤ c2 ∧ c2 < 256 := by have := bs[2].toNat_lt; omega
            have b3 : 0 ≤ c3 ∧ c3 < 256 := by have := bs[3].toNat_lt; omega
            rw [hc1] at gg1
            rw [hc2] at gg2
            rw [hc3] at gg3
            have QT : Hid (parT s = c3) := by show _ = _; unfold parT; rw [if_pos N.out, HBS.out]; exact (numI_one bs 3 (by omega)).trans hc3
            have QA : Hid (parA s = c1 * 256 + c2) := by show _ = _; unfold parA; rw [if_pos N.out, HBS.out]; exact (numI_two bs 1 (by omega)).trans (by rw [hc1, hc2])
            have QD : Hid (parD s = (bs.take k).drop 4) := by
              show _ = _
              unfold parD recD; rw [if_pos N.out, HBS.out, List.drop_take, show bs.length - 5 = k - 4 by have := HK.out; omega]
            clear hc1 hc2 hc3
            obtain ⟨b10, b11⟩ := b1
            obtain ⟨b20, b21⟩ := b2
            obtain ⟨b30, b31⟩ := b3
            have v1 : IntKind.i64.wrap c1 = c1 := by rw [IntKind.wrap_i64]; omega
            have v2 : IntKind.i64.wrap c2 = c2 := by rw [IntKind.wrap_i64]; omega
            have v3 : IntKind.i64.wrap c3 = c3 := by rw [IntKind.wrap_i64]; omega
            have v4 : IntKind.i64.wrap (c1 * 256) = c1 * 256 := by rw [IntKind.wrap_i64]; omega
            have v5 : IntKind.i64.wrap (c1 * 256 + c2) = c1 * 256 + c2 := by rw [IntKind.wrap_i64]; omega
            have hk4 : 4 ≤ k := by have := KM.out; omega
            have hsl2 : ∀ w, (Instr.slice 59 (.slice (some ⟨b, off, none⟩) bs.length cap) (some (.int .i64 4)) (some (.int .i64 (k : Int))) none).run Tryd.prog w = .ok (.slice (subA (some ⟨b, off, none⟩) 4 cap) (k - 4) (cap - 4)) w := fun w => slB_lh (some ⟨b, off, none⟩) bs.length cap 4 k hk4 hkc w
            have i1 : (1 : Int) < (bs.length : Int) := by omega
            have i2 : (2 : Int) < (bs.length : Int) := by omega
            have i3 : (3 : Int) < (bs.length : Int) := by omega
            clear hsl gk gk' hsum
            have hC : w1.drew.drew.cell? ⟨b, off + 1, none⟩ = some (.int .u8 c1) ∧ w1.drew.drew.cell? ⟨b, off + 2, none⟩ = some (.int .u8 c2) ∧ w1.drew.drew.cell? ⟨b, off + 3, none⟩ = some (.int .u8 c3) := ⟨gg1, gg2, gg3⟩
            refine Mixed.wp_region_mixed (fun w' => w'.cell? ⟨b, off + 1, none⟩ = some (.int .u8 c1) ∧ w'.cell? ⟨b, off + 2, none⟩ = some (.int .u8 c2) ∧ w'.cell? ⟨b, off + 3, none⟩ = some (.int .u8 c3)) 19 [(0, true), (1, true), (2, true), (3, true), (4, true), (5, true), (6, true), (7, true), (8, true), (9, true), (10, true), (11, true), (12, true), (13, true), (14, true), (15, true), (16, true), (17, true), (18, true)] (by kernel_rfl) (by kernel_rfl) hC ?_
            refine Mixed.wpMix_move rfl rfl _ rfl _ rfl ?_
            refine Mixed.wpMix_pure rfl rfl (.pointer (some ⟨b, off + 3, none⟩)) (fun w h => by clear h; go_simp) ?_
            refine Mixed.wpMix_pure rfl rfl (.int .u8 c3) (fun w h => by obtain ⟨q1, q2, q3⟩ := h; go_simp) ?_
            refine Mixed.wpMix_pure rfl rfl (.int .i64 c3) (fun w h => by clear h; go_simp) ?_
            refine Mixed.wpMix_move rfl rfl _ rfl _ rfl ?_
            refine Mixed.wpMix_pure rfl rfl (.pointer (some ⟨b, off + 1, none⟩)) (fun w h => by clear h; go_simp) ?_
            refine Mixed.wpMix_pure rfl rfl (.int .u8 c1) (fun w h => by obtain ⟨q1, q2, q3⟩ := h; go_simp) ?_
            refine Mixed.wpMix_pure rfl rfl (.int .i64 c1) (fun w h => by clear h; go_simp) ?_
            refine Mixed.wpMix_pure rfl rfl (.int .i64 (c1 * 256)) (fun w h => by clear h; go_simp) ?_
            refine Mixed.wpMix_move rfl rfl _ rfl _ rfl ?_
            refine Mixed.wpMix_pure rfl rfl (.pointer (some ⟨b, off + 2, none⟩)) (fun w h => by clear h; go_simp) ?_
            refine Mixed.wpMix_pure rfl rfl (.int .u8 c2) (fun w h => by obtain ⟨q1, q2, q3⟩ := h; go_simp) ?_
            refine Mixed.wpMix_pure rfl rfl (.int .i64 c2) (fun w h => by clear h; go_simp) ?_
            refine Mixed.wpMix_pure rfl rfl (.int .i64 (c1 * 256 + c2)) (fun w h => by clear h; go_simp) ?_
            refine Mixed.wpMix_move rfl rfl _ rfl _ rfl ?_
            refine Mixed.wpMix_move rfl rfl _ rfl _ rfl ?_
            refine Mixed.wpMix_pure rfl rfl (.int .i64 (k : Int)) (fun w h => by clear h; go_simp) ?_
            refine Mixed.wpMix_pure rfl rfl (.slice (subA (some ⟨b, off, none⟩) 4 cap) (k - 4) (cap - 4)) (fun w h => by clear h; go_simp) ?_
            refine Mixed.wpMix_pure rfl rfl (.agg #[.int .i64 c3, .int .i64 (c1 * 256 + c2), .slice (subA (some ⟨b, off, none⟩) 4 cap) (k - 4) (cap - 4)]) (fun w h => by clear h; go_simp) ?_
            simp only [Mixed.wpMix, List.drop_succ_cons, List.drop_zero]
            clear hsl2 v1 v2 v3 v4 v5 gg1 gg2 gg3 hC
            obtain ⟨sb, hsb⟩ : ∃ sb, subA (some ⟨b, off, none⟩) 4 cap = sb := ⟨_, rfl⟩
            have XD := (X1.out.take k).sub 4 cap (by rw [List.length_take]; omega)
            rw [hsb] at XD
            rw [hsb]
            have XD1 := Lib.hid XD
            clear XD hsb
            go_wp2
            obtain ⟨wf, hwf, hTf, hKf⟩ := T1.out.put3 (.int .i64 c3) (.int .i64 (c1 * 256 + c2)) (.slice sb (k - 4) (cap - 4))
            rw [hwf]
            obtain ⟨-, d0, d1, d2, -⟩ := hTf
            have hXf := XD1.out.kept hKf fun i _ h => (by have h1 := h.1; simp at h1; omega)
            have hXf2 := hXf.below (w' := wf.drew.drew) ((Below.refl _ _).drew.drew)
            refine bodyPost_ret (v := .tuple #[.agg #[.int .i64 c3, .int .i64 (c1 * 256 + c2), .slice sb (k - 4) (cap - 4)], .int .i64 0]) (by simp [results, Tryd.results91, go_sem, d0, d1, d2]) rfl ?_
            rw [QT.out, QA.out, QD.out, N.out]
            have hlen : ((bs.take k).drop 4).length = k - 4 := by rw [List.length_drop, List.length_take]; omega
            exact ⟨sb, cap - 4, by rw [hlen], by rw [hlen]; omega, hXf2.mono fun i hi _ => hi, (below_of_kept B1.out (Nat.le_refl _) hKf).drew.drew⟩
          · have h5' : (y != chkI (bs.take k)) = true := by rw [bne_iff_ne]; exact h5
            have N := Lib.hid (par5 OK.out (by rw [HBS.out]; exact Q6.out) (by rw [HBS.out]; exact fun h => h5 (CHK.out.1 h)))
            clear h5
            go_wp2
            obtain ⟨wf, hwf, hTf, hKf⟩ := T1.out.put3 (.int .i64 0) (.int .i64 0) (.slice none 0 0)
            rw [hwf]
            obtain ⟨-, c0, c1, c2, -⟩ := hTf
            exact bodyPost_ret (v := .tuple #[.agg #[.int .i64 0, .int .i64 0, .slice none 0 0], .int .i64 5]) (by simp [results, Tryd.results91, go_sem, c0, c1, c2]) rfl (retRec_bad N.out (by decide) (below_of_kept B1.out (Nat.le_refl _) hKf).drew)
        · have h6' : (c0 != (m : Int)) = true := by rw [bne_iff_ne]; exact h6
          have N := Lib.hid (par6 OK.out (by rw [HBS.out, Q0.out, hm']; exact h6))
          clear h6
          go_wp2
          obtain ⟨wf, hwf, hTf, hKf⟩ := T1.out.put3 (.int .i64 0) (.int .i64 0) (.slice none 0 0)
          rw [hwf]
          obtain ⟨-, c0, c1, c2, -⟩ := hTf
          exact bodyPost_ret (v := .tuple #[.agg #[.int .i64 0, .int .i64 0, .slice none 0 0], .int .i64 6]) (by simp [results, Tryd.results91, go_sem, c0, c1, c2]) rfl (retRec_bad N.out (by decide) (below_of_kept B1.out (Nat.le_refl _) hKf))
    · have N := Lib.hid (par3 (lin_no1 (s := s) (by rw [hpre]; exact decide_eq_false h58)))
      have h58' : (c != 58) = true := by rw [bne_iff_ne]; exact h58
      rw [← hc] at h58'
      clear h58 hpre hs hc
      go_enter Tryd.func91, Tryd.ntmps91
      go_wp2
      exact bodyPost_ret (v := .tuple #[.agg #[.int .i64 0, .int .i64 0, .slice none 0 0], .int .i64 3]) (by simp [results, Tryd.results91, go_sem, e0, e1, e2]) rfl (retRec_bad N.out (by decide) HAL.out)
end Go.Proofs.YtmeegpdjhcilkaaDoor
/-
  The walk over the law's alive.
-/
namespace Go.Proofs.YtmeegpdjhcilkaaDoor
open Go.RowKit
set_option linter.unusedVariables false

def endS : ByteArray := ⟨#[58, 48, 48, 48, 48, 48, 48, 48, 49, 70, 70]⟩
theorem endPrint : printS 1 0 [] = endS ∧ rightB 1 0 ([] : List UInt8).length = true := by decide +kernel
theorem endParse : parT endS = 1 ∧ parA endS = 0 ∧ parD endS = [] ∧ parCode endS = 0 := by decide +kernel
end Go.Proofs.YtmeegpdjhcilkaaDoor
/-
  Rows of bytes of the call's own: the walks over slices.Clone and slices.Reverse.
-/
namespace Go.Proofs.YtmeegpdjhcilkaaDoor
open Go.RowKit
set_option linter.unusedVariables false

set_option maxHeartbeats 1000000 in
theorem cloneO_any (P : Nat → Prop) (A : Option Addr) (cap : Nat) (xs : List UInt8) (hl : xs.length ≤ 70368744177664) (w : World) (hx : BytesP P w A xs) :
    Calls Tryd.prog 78 #[.slice A xs.length cap] w (RetOwn w xs) := by
  cases A with
  | none =>
    obtain rfl : xs = [] := by
      rcases hx with h | ⟨b, off, h, _⟩
      · exact h
      · cases h
    clear hx
    have hnil := fun w => Lib.run_eql_slice_nil (P := Tryd.prog) w 59 5 none 0 cap 0 0 Tryd.underlying59
    go_enter Tryd.func78, Tryd.ntmps78
    go_wp2
    go_ret
    exact ⟨_, rfl, ownB_start w⟩
  | some a =>
    obtain ⟨i0, hi, hz0, hz1, hz2⟩ := info_parts info_u8
    have hb : Below w.heap.size w (w.alloc (.cells #[] 5)) := (Below.refl _ _).alloc (Nat.le_refl _) _
    have hown := World.ownsRow_made (base := w.heap.size) (e := 5) (size := 1) w #[] 0 (Nat.le_refl _) (by unfold maxLen; omega) rfl
    obtain ⟨v', w', k1, k2, k3⟩ := run_append_src (w.alloc (.cells #[] 5)) w.heap.size 59 59 5 i0 _ 1 1 Tryd.underlying59 hi hz0 hz1 hz2 rfl (by decide) _ 0 [] hown (some a) xs.length cap (xs.map u8V)
      (by simp) (hx.below hb).news (fun u hu => by obtain ⟨x, _, rfl⟩ := List.mem_map.1 hu; rfl) (by unfold maxLen; omega) (by omega) (by simp)
    have N : Hid (RetOwn w xs (.returned v') w') := by
      rw [List.nil_append, Nat.zero_add] at k2
      exact ⟨_, rfl, k2, hb.grown k3 (by simp) fun k hk => (hown.lt k hk).1⟩
    have K := Lib.hid k1
    clear hx hb hown k1 k2 k3 hi hz0 hz1 hz2
    go_enter Tryd.func78, Tryd.ntmps78
    have hnil := fun w => Lib.run_eql_slice_nil (P := Tryd.prog) w 59 5 (some a) xs.length cap 0 0 Tryd.underlying59
    go_wp2_with (at_builtin; refine wpList_run_append K.out rfl _ _ rfl rfl rfl rfl ?_)
    go_ret
    exact N.out


theorem OwnB.at_ {w wr : World} {v : Value} {xs : List UInt8} (h : OwnB w wr v xs) (hn : 0 < xs.length) : ∃ g cap, v = .slice (some ⟨g, 0, none⟩) xs.length cap ∧ w.heap.size ≤ g ∧
    ∀ k (hk : k < xs.length), wr.cell? ⟨g, k, none⟩ = some (.int .u8 (xs[k].toNat : Int)) ∧ wr.frozen? ⟨g, k, none⟩ = false := by
  rcases h.1.2 with ⟨_, h0⟩ | ⟨g, cap, cur, rfl, hb, hg, _⟩
  · omega
  · refine ⟨g, cap, rfl, hb, fun k hk => ⟨?_, frozen_of_row wr g _ cur _ hg⟩⟩
    rw [h.1.cellAt k (by omega)]
    simp [u8V, List.getElem?_eq_getElem hk]
theorem OwnB.set {w wr : World} {g n cap : Nat} {xs : List UInt8} (h : OwnB w wr (.slice (some ⟨g, 0, none⟩) n cap) xs) (hn : n = xs.length) (i : Nat) (r : UInt8) :
    OwnB w (wr.setCell ⟨g, i, none⟩ (.int .u8 (r.toNat : Int))) (.slice (some ⟨g, 0, none⟩) n cap) (xs.set i r) := by
  subst hn
  obtain ⟨s1, g1⟩ := h.1.stored i (.int .u8 (r.toNat : Int))
  have hg := (h.1.lt g rfl).1
  refine ⟨?_, h.2.setCell hg _⟩
  rw [List.length_set, show (xs.set i r).map u8V = (xs.map u8V).set i (u8V r) from List.map_set]
  exact s1
theorem OwnB.drew {w wr : World} {v : Value} {xs : List UInt8} (h : OwnB w wr v xs) : OwnB w wr.drew v xs := ⟨h.1, h.2.drew⟩
/-- The first and the last k exchanged. -/
def revU (rs : List UInt8) (k : Nat) : List UInt8 := (List.range rs.length).map fun t => if t < k ∨ rs.length - k ≤ t then rs.getD (rs.length - 1 - t) default else rs.getD t default
theorem revU_length (rs : List UInt8) (k : Nat) : (revU rs k).length = rs.length := by unfold revU; simp
theorem revU_get (rs : List UInt8) (k t : Nat) (h : t < rs.length) : (revU rs k)[t]'(by rw [revU_length]; exact h) = if t < k ∨ rs.length - k ≤ t then rs.getD (rs.length - 1 - t) default else rs.getD t default := by
  unfold revU; rw [List.getElem_map, List.getElem_range]
theorem revU_zero (rs : List UInt8) : revU rs 0 = rs := by
  apply List.ext_getElem (revU_length rs 0)
  intro t h1 h2
  rw [revU_get rs 0 t h2, if_neg (by omega)]
  simp [List.getD_eq_getElem?_getD, List.getElem?_eq_getElem h2]
theorem revU_end (rs : List UInt8) (k : Nat) (h : rs.length ≤ 2 * k + 1) : revU rs k = rs.reverse := by
  apply List.ext_getElem (by rw [revU_length, List.length_reverse])
  intro t h1 h2
  rw [revU_length] at h1
  rw [revU_get rs k t h1, List.getElem_reverse]
  have hb : rs.length - 1 - t < rs.length := by omega
  by_cases hc : t < k ∨ rs.length - k ≤ t
  · rw [if_pos hc]; simp [List.getD_eq_getElem?_getD, List.getElem?_eq_getElem hb]
  · rw [if_neg hc]
    have : rs.length - 1 - t = t := by omega
    simp [List.getD_eq_getElem?_getD, List.getElem?_eq_getElem h1, this]
theorem revU_mem (rs : List UInt8) (k : Nat) : ∀ r ∈ revU rs k, r ∈ rs := by
  intro r hr
  obtain ⟨t, ht, rfl⟩ := List.mem_iff_getElem.1 hr
  rw [revU_length] at ht
  rw [revU_get rs k t ht]
  have hb : rs.length - 1 - t < rs.length := by omega
  split
  · simp [List.getD_eq_getElem?_getD, List.getElem?_eq_getElem hb]
  · simp [List.getD_eq_getElem?_getD, List.getElem?_eq_getElem ht]
theorem revU_next (rs : List UInt8) (k : Nat) (h : 2 * k + 1 < rs.length) (r1 r2 : UInt8) (h1 : r1 = (revU rs k)[k]'(by rw [revU_length]; omega)) (h2 : r2 = (revU rs k)[rs.length - 1 - k]'(by rw [revU_length]; omega)) :
    ((revU rs k).set k r2).set (rs.length - 1 - k) r1 = revU rs (k + 1) := by
  apply List.ext_getElem (by simp [revU_length])
  intro t ha hb
  rw [revU_length] at hb
  rw [revU_get rs (k + 1) t hb, List.getElem_set]
  by_cases e1 : rs.length - 1 - k = t
  · rw [if_pos e1, h1, revU_get rs k k (by omega), if_neg (by omega), if_pos (by omega)]
    rw [← e1, show rs.length - 1 - (rs.length - 1 - k) = k by omega]
  · rw [if_neg e1, List.getElem_set]
    by_cases e2 : k = t
    · rw [if_pos e2, h2, revU_get rs k _ (by omega), if_neg (by omega), if_pos (by omega), e2]
    · rw [if_neg e2, revU_get rs k t hb]
      by_cases hc : t < k ∨ rs.length - k ≤ t
      · rw [if_pos hc, if_pos (by omega)]
      · rw [if_neg hc, if_neg (by omega)]


theorem sumI_reverse (xs : List UInt8) : sumI xs.reverse = sumI xs := by
  induction xs with
  | nil => rfl
  | cons x t ih => rw [List.reverse_cons, sumI_append, ih, sumI_one, sumI_cons]; omega
end Go.Proofs.YtmeegpdjhcilkaaDoor
