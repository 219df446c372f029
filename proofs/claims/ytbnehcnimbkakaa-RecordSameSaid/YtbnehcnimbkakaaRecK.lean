/-
  The walk over the closure of record.Print that writes bytes.
-/
import Derived.Test.YtbnehcnimbkakaaRecJ
namespace Go.Proofs.Ytbnehcnimbkakaa
open Go.RowKit
set_option linter.unusedVariables false

/-- The digits of bytes. -/
def hexL (xs : List UInt8) : List UInt8 := xs.flatMap fun x => (hexS (x.toNat : Int) 2).data.toList
theorem hexL_append (xs ys : List UInt8) : hexL (xs ++ ys) = hexL xs ++ hexL ys := by unfold hexL; rw [List.flatMap_append]
theorem hexL_take (xs : List UInt8) (k : Nat) (h : k < xs.length) : hexL (xs.take (k + 1)) = hexL (xs.take k) ++ (hexS (xs[k].toNat : Int) 2).data.toList := by
  rw [List.take_succ_eq_append_getElem h, hexL_append]
  congr 1
theorem hexL_length (xs : List UInt8) : (hexL xs).length = 2 * xs.length := by
  induction xs with
  | nil => rfl
  | cons x t ih =>
    have e : hexL (x :: t) = (hexS (x.toNat : Int) 2).data.toList ++ hexL t := rfl
    have e2 : (hexS (x.toNat : Int) 2).data.toList.length = 2 := by
      have := hexS_size (x.toNat : Int) 2
      simpa using this
    rw [e, List.length_append, ih, e2]
    simp only [List.length_cons]
    omega

/-- The variables of Print: block b the builder (its buffer: v), which holds bs; block c the variable 'add'; block d the sum so far. -/
structure Pr (b c d : Nat) (w : World) (v : Value) (bs : List UInt8) (s : Int) : Prop where
  bld : Bld b w (selfP b) v bs
  add : w.cell? ⟨c, 0, none⟩ = some (.func (.func 42) #[] #[.pointer (some ⟨d, 0, none⟩)])
  sum : SumAt d w s
  bc : b ≠ c
  bd : b ≠ d
  cd : c ≠ d
  vc : v.ownBlock ≠ some c
  vd : v.ownBlock ≠ some d
theorem Pr.cLt {b c d : Nat} {w : World} {v : Value} {bs : List UInt8} {s : Int} (h : Pr b c d w v bs s) : c < w.heap.size := World.block_lt_of_cell? w _ h.add
theorem own_lt {w : World} {b : Nat} {p v : Value} {bs : List UInt8} (h : Bld b w p v bs) {g : Nat} (hg : v.ownBlock = some g) : g < w.heap.size := (h.2.1.lt g hg).2
theorem Pr.kept {b c d : Nat} {w w' : World} {v : Value} {bs : List UInt8} {s : Int} (h : Pr b c d w v bs s) (k : KeptP (fun _ => True) w w') : Pr b c d w' v bs s :=
  ⟨h.bld.kept k trivial fun _ _ => trivial, (k.cell (p := ⟨c, 0, none⟩) h.cLt trivial).trans h.add, h.sum.kept k trivial, h.bc, h.bd, h.cd, h.vc, h.vd⟩
/-- What the closure returns. -/
def RetPr (b c d : Nat) (w : World) (v : Value) (bs : List UInt8) (s : Int) (xs : List UInt8) (e : Ending) (w' : World) : Prop :=
  e = .returned (.int .u8 ((-(s + sumI xs)) % 256)) ∧ ∃ v', Pr b c d w' v' (bs ++ hexL xs) (s + sumI xs) ∧ (∀ g, v'.ownBlock = some g → v.ownBlock = some g ∨ w.heap.size ≤ g) ∧ KeptP (fun i => i ≠ b ∧ i ≠ d ∧ some i ≠ v.ownBlock) w w'
set_option maxHeartbeats 2000000 in
theorem writeC_any (P : Nat → Prop) (A : Option Addr) (cap : Nat) (xs : List UInt8) (b c d : Nat) (w : World) (v : Value) (bs : List UInt8) (s : Int) (hlen : bs.length + 2 * xs.length ≤ 140737488355328) (h : Pr b c d w v bs s)
    (hb : ¬ P b) (hd : ¬ P d) (hv : ∀ g, v.ownBlock = some g → ¬ P g) (hx : BytesP P w A xs) :
    Calls Try.prog 28 #[.slice A xs.length cap, .pointer (some ⟨b, 0, none⟩), .pointer (some ⟨c, 0, none⟩)] w (RetPr b c d w v bs s xs) := by
  have H := Lib.hid h
  have X := Lib.hid (hx.mono (Q := fun i => P i ∧ i < w.heap.size) fun i hi hp => ⟨hp, hi⟩)
  have HL := Lib.hid hlen
  have hl : xs.length ≤ 9223372036854775807 := by omega
  clear h hx hlen
  go_enter Try.func28, Try.ntmps28
  go_wp2
  go_loopw [9] (fun i wr => ∃ (k : Nat) (v' : Value), k ≤ xs.length ∧ i = .int .i64 k ∧ Pr b c d wr v' (bs ++ hexL (xs.take k)) s ∧ (∀ g, v'.ownBlock = some g → v.ownBlock = some g ∨ w.heap.size ≤ g) ∧ KeptP (fun i => i < w.heap.size ∧ i ≠ b ∧ i ≠ d ∧ some i ≠ v.ownBlock) w wr) (fun i _ => xs.length - (intOf i).toNat)
  case atStart => exact ⟨0, v, Nat.zero_le _, rfl, by simpa [hexL] using H.out, fun g hg => .inl hg, KeptP.refl _ _⟩
  case round =>
    obtain ⟨k, v1, hk, rfl, hP, hO, hK⟩ := hrel
    have P1 := Lib.hid hP
    have O1 := Lib.hid hO
    have K1 := Lib.hid hK
    clear hP hO hK
    have X1 := X.out.kept K1.out fun i _ hp => ⟨hp.2, fun e => hb (e ▸ hp.1), fun e => hd (e ▸ hp.1), fun e => hv i e.symm hp.1⟩
    by_cases hlt : k < xs.length
    · obtain ⟨g, off, hA, g0⟩ := X1.at_ hlt
      subst hA
      have T := Lib.hid (hexL_take xs k hlt)
      have hsz := hexL_length (xs.take k)
      have htk : (xs.take k).length = k := by simp; omega
      obtain ⟨x, hxk⟩ : ∃ x : Int, (xs[k].toNat : Int) = x := ⟨_, rfl⟩
      have x0 : 0 ≤ x := by omega
      have x1 : x < 256 := by have := xs[k].toNat_lt; omega
      rw [hxk] at g0 T
      have hhs := hexS_size x 2
      have hlen2 : (bs ++ hexL (xs.take k)).length + (hexS x 2).size ≤ 140737488355328 := by rw [List.length_append, hsz, hhs, htk]; have := HL.out; omega
      have L2 := Lib.hid hlen2
      clear hxk X1 hsz htk hhs hlen2
      go_wp2_with fail
      refine (hex_any x 2 (by omega) _).mono ?_
      rintro e w2 ⟨rfl, hB⟩
      have k2 : KeptP (fun _ => True) wr w2 := KeptP.of_all hB
      have P2 := P1.out.kept k2
      have hws := writeString_any b w2 v1 (bs ++ hexL (xs.take k)) (hexS x 2) L2.out P2.bld
      have k3 := Lib.hid k2
      have P3 := Lib.hid P2
      clear hB k2 P2
      go_wp2_with fail
      refine hws.mono ?_
      rintro e w3 ⟨rfl, v3, hB3, hO3, hK3⟩
      have hsz2 := k3.out.size
      have N1 : Hid (Pr b c d w3 v3 (bs ++ hexL (xs.take (k + 1))) s) := by
        show Pr _ _ _ _ _ _ _
        have hP := P3.out
        have c0 := hP.cLt
        have d0 := hP.sum.1
        refine ⟨?_, ?_, ?_, hP.bc, hP.bd, hP.cd, ?_, ?_⟩
        · rw [T.out, ← List.append_assoc]; exact hB3
        · rw [hK3.cell (p := ⟨c, 0, none⟩) c0 ⟨hP.bc.symm, hP.vc.symm⟩]; exact hP.add
        · exact hP.sum.kept hK3 ⟨hP.bd.symm, hP.vd.symm⟩
        · intro e
          rcases hO3 c e with h | h
          · exact hP.vc h
          · omega
        · intro e
          rcases hO3 d e with h | h
          · exact hP.vd h
          · omega
      have N2 : Hid (∀ g, v3.ownBlock = some g → v.ownBlock = some g ∨ w.heap.size ≤ g) := by
        intro g hg
        rcases hO3 g hg with h | h
        · exact O1.out g h
        · right; have := K1.out.size; omega
      have N3 : Hid (KeptP (fun i => i < w.heap.size ∧ i ≠ b ∧ i ≠ d ∧ some i ≠ v.ownBlock) w w3) := by
        refine (K1.out.trans (k3.out.mono fun _ _ _ => trivial)).trans (hK3.mono fun i _ hi => ⟨hi.2.1, fun e => ?_⟩)
        rcases O1.out i e.symm with h | h
        · exact hi.2.2.2 h.symm
        · have := hi.1; omega
      clear hws hB3 hO3 hK3 hsz2
      go_wp2
      go_roundw
      case rel => exact ⟨k + 1, v3, by omega, by go_num, N1.out, N2.out, N3.out⟩
      case measure => simp [intOf]; omega
    · have e1 : xs.take k = xs := List.take_of_length_le (by omega)
      have P2 := P1.out
      rw [e1] at P2
      have ga := P2.add
      have hadd := addC_any (fun i => P i ∧ i < w.heap.size) A cap xs (by unfold maxLen; omega) d (fun h => hd h.1) s wr X1 P2.sum
      have P3 := Lib.hid P2
      clear X1 P2 e1
      go_wp2_with fail
      refine hadd.mono ?_
      rintro e w3 ⟨rfl, hS3, hK3⟩
      have N1 : Hid (Pr b c d w3 v1 (bs ++ hexL xs) (s + sumI xs)) := by
        have hP := P3.out
        exact ⟨hP.bld.kept hK3 hP.bd fun g hg e => hP.vd (e ▸ hg), (hK3.cell (p := ⟨c, 0, none⟩) hP.cLt hP.cd).trans hP.add, hS3, hP.bc, hP.bd, hP.cd, hP.vc, hP.vd⟩
      have N3 : Hid (KeptP (fun i => i ≠ b ∧ i ≠ d ∧ some i ≠ v.ownBlock) w w3) :=
        (K1.out.trans (hK3.mono fun i _ hi => hi.2.2.1)).mono fun i hi h => ⟨hi, h⟩
      have O2 := O1.out
      have O3 := Lib.hid O2
      clear hadd hS3 hK3 O2
      go_wp2
      go_ret
      exact ⟨rfl, v1, N1.out, O3.out, N3.out⟩
end Go.Proofs.Ytbnehcnimbkakaa
