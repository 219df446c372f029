/-
  DfF, ItW, ItX.
-/
import Derived.Test.YtmnleknehjkmgaaGreatGAQ
import Derived.Test.YtmnleknehjkmgaaGreatGAR
import Derived.Deep.QuietTactic
import Derived.BigQuiet
import Derived.Deep.DeepCutAuto
import Derived.Deep.Cut
import Derived.Test.YtmnleknehjkmgaaGreatGAW
import Derived.Test.YtmnleknehjkmgaaGreatGBF
set_option linter.all false
set_option maxRecDepth 100000
set_option maxHeartbeats 4000000
namespace Go.Proofs.YtmnleknehjkmgaaGreat
open Go.RowKit Go.Shelf
attribute [local go_sem] Oper.semAt_some
def BqP (w : World) (A : Option Addr) (Ls : List Str) : Prop := Ls = [] ∨ ∃ b off, A = some ⟨b, off, none⟩ ∧ ∀ k (h : k < Ls.length), ∃ Ak ck, w.cell? ⟨b, off + k, none⟩ = some (.slice Ak Ls[k].length ck) ∧ BytesAt w Ak Ls[k]
theorem BqP.below {w w' : World} {A : Option Addr} {Ls : List Str} (h : BqP w A Ls) (hb : Below w.heap.size w w') : BqP w' A Ls := by
  rcases h with rfl | ⟨b, off, rfl, hc⟩
  · exact .inl rfl
  · refine .inr ⟨b, off, rfl, fun k hk => ?_⟩
    obtain ⟨Ak, ck, h1, h2⟩ := hc k hk
    exact ⟨Ak, ck, (hb.cell (World.block_lt_of_cell? w _ h1)).trans h1, h2.below hb⟩
theorem BqP.at_ {w : World} {A : Option Addr} {Ls : List Str} (h : BqP w A Ls) {k : Nat} (hk : k < Ls.length) : ∃ b off Ak ck, A = some ⟨b, off, none⟩ ∧ w.cell? ⟨b, off + k, none⟩ = some (.slice Ak Ls[k].length ck) ∧ BytesAt w Ak Ls[k] := by
  rcases h with rfl | ⟨b, off, rfl, hc⟩
  · simp at hk
  · obtain ⟨Ak, ck, h1, h2⟩ := hc k hk
    exact ⟨b, off, Ak, ck, rfl, h1, h2⟩
theorem grow_nilB (n : Nat) (hn : n ≤ 100000) (w : World) :
    Calls Tryz.prog 38 #[.slice none 0 0, .int .i64 n] w fun e w' => ∃ A c, e = .returned (.slice A 0 c) ∧ TOwnB w' w.heap.size (.slice A 0 c) [] ∧ Below w.heap.size w w' := by
  by_cases h0 : n = 0
  · subst h0
    go_enter Tryz.func38, Tryz.ntmps38
    go_wp2
    go_ret
    exact ⟨none, 0, rfl, townB_nil _ _, Below.refl _ _⟩
  · have h1 : 1 ≤ n := by omega
    go_enter Tryz.func38, Tryz.ntmps38
    go_wp2
    · exfalso; rename_i x1 x0; have := (show (281474976710656 : Int) < (n : Int) * ((1 : Nat) : Int) from x1); omega
    · exfalso; rename_i x1 x0; have := (show (281474976710656 : Int) < (n : Int) * ((1 : Nat) : Int) from x1); omega
    · exfalso
      rename_i x3 x2 x1 x0
      have h := (show 281474976710656 < Builtin.nextslicecap n 0 * 1 from x3)
      unfold Builtin.nextslicecap at h
      rw [if_pos (by omega)] at h
      omega
    · have g1 : n ≤ grownCap w n 0 5 := grownCap_ge w _ _ _
      have g2 : grownCap w n 0 5 ≤ maxLen := grownCap_le_maxLen w _ _ _ (by unfold maxLen; omega)
      go_ret
      refine ⟨some ⟨w.heap.size, 0, none⟩, grownCap w n 0 5, rfl, ⟨rfl, .inr ⟨w.heap.size, grownCap w n 0 5, _, rfl, Nat.le_refl _, heap_alloc_new w _, Nat.zero_le _, g2, ?_, by simp [cellsB]⟩⟩, ?_⟩
      · simp [Builtin.zeroCells]
        show n + (grownCap w n 0 5 - n) = _
        omega
      · exact ((Below.refl _ _).alloc (Nat.le_refl _) _).drew
def preL (Ls : List Str) (j : Nat) : Str := (Ls.take j).flatten
theorem preL_succ {Ls : List Str} {j : Nat} (h : j < Ls.length) : preL Ls (j + 1) = preL Ls j ++ Ls[j] := by
  have e : Ls.take (j + 1) = Ls.take j ++ [Ls[j]] := by rw [List.take_add_one, List.getElem?_eq_getElem h]; rfl
  unfold preL
  rw [e, List.flatten_append, List.flatten_singleton]
theorem preL_all (Ls : List Str) : preL Ls Ls.length = Ls.flatten := by unfold preL; rw [List.take_length]
theorem preL_le (Ls : List Str) (j : Nat) : (preL Ls j).length ≤ Ls.flatten.length := by
  have h : Ls.flatten = preL Ls j ++ (Ls.drop j).flatten := by unfold preL; rw [← List.flatten_append, List.take_append_drop]
  rw [h, List.length_append]
  omega
theorem concatB_any (Ls : List Str) (m : Nat) (hm : Ls.length = m) (hm2 : m ≤ 1000) (t : Nat) (ht : Ls.flatten.length = t) (hs : t ≤ 100000) (A : Option Addr) (c : Nat) (w : World) (H : BqP w A Ls) :
    Calls Tryz.prog 27 #[.slice A m c] w fun e w' => ∃ A' c', e = .returned (.slice A' t c') ∧ TOwnB w' w.heap.size (.slice A' t c') Ls.flatten ∧ Below w.heap.size w w' := by
  have HM := Lib.hid hm
  have HT := Lib.hid ht
  have HP := Lib.hid H
  have HF : Hid (preL Ls m = Ls.flatten) := by subst hm; exact preL_all Ls
  have HS : Hid (∀ j (h : j < m), ∃ x, preL Ls (j + 1) = preL Ls j ++ x ∧ (preL Ls j).length + x.length ≤ t ∧ ∀ wr, Below w.heap.size w wr → ∃ b off Ak ck, A = some ⟨b, off, none⟩ ∧ wr.cell? ⟨b, off + j, none⟩ = some (.slice Ak x.length ck) ∧ BytesAt wr Ak x) := fun j h => by
    have hj : j < Ls.length := by omega
    refine ⟨Ls[j], preL_succ hj, ?_, fun wr hb => (H.below hb).at_ hj⟩
    have := preL_le Ls (j + 1)
    rw [preL_succ hj, List.length_append] at this
    omega
  clear H hm ht
  go_enter Tryz.func27, Tryz.ntmps27
  go_wp2
  go_loopw [3, 11] (fun vs vi wr => ∃ j : Nat, j ≤ m ∧ vi = .int .i64 j ∧ vs = .int .i64 ((preL Ls j).length : Nat) ∧ Hid (Below w.heap.size w wr)) (fun _ vi _ => m - (intOf vi).toNat)
  case atStart => exact ⟨0, Nat.zero_le _, rfl, rfl, Below.refl _ _⟩
  case round =>
    obtain ⟨j, hj, rfl, rfl, B⟩ := hrel
    by_cases hlt : j < m
    · obtain ⟨x, hx, hl, hc⟩ := HS.out j hlt
      obtain ⟨g, off, Ak, ck, rfl, e1, -⟩ := hc wr B.out
      have LX : Hid ((preL Ls (j + 1)).length = (preL Ls j).length + x.length) := by show _ = _; rw [hx, List.length_append]
      obtain ⟨k0, hk0⟩ : ∃ z, (preL Ls j).length = z := ⟨_, rfl⟩
      obtain ⟨k1, hk1⟩ : ∃ z, x.length = z := ⟨_, rfl⟩
      rw [hk0, hk1] at hl LX
      rw [hk1] at e1
      rw [hk0]
      clear hk0 hk1 hx hc
      go_wp2
      go_roundw
      case rel => exact ⟨j + 1, by omega, by go_num, by rw [LX.out]; go_num, B⟩
      case measure => simp [intOf]; omega
    · obtain rfl : m = j := by omega
      rw [HF.out, HT.out]
      have GR := Lib.hid (grow_nilB t hs wr)
      have ZB : Hid (w.heap.size ≤ wr.heap.size) := B.out.size
      go_wp2_with fail
      refine GR.out.mono ?_
      rintro e w1 ⟨A1, c1, rfl, hO, hb⟩
      have O1 : Hid (TOwnB w1 w.heap.size (.slice A1 0 c1) (preL Ls 0)) := hO.lift ZB.out
      have B1 : Hid (Below w.heap.size w w1) := B.out.trans (hb.mono ZB.out)
      clear GR hO hb ZB B
      go_wp2
      go_loopw [6, 27] (fun v vi wr => ∃ j k : Nat, ∃ A2 c2, j ≤ m ∧ vi = .int .i64 j ∧ v = .slice A2 k c2 ∧ Hid ((preL Ls j).length = k ∧ TOwnB wr w.heap.size (.slice A2 k c2) (preL Ls j) ∧ Below w.heap.size w wr)) (fun _ vi _ => m - (intOf vi).toNat)
      case atStart => exact ⟨0, 0, A1, c1, Nat.zero_le _, rfl, rfl, rfl, O1.out, B1.out⟩
      case round =>
        obtain ⟨j, k, A2, c2, hj, rfl, rfl, F⟩ := hrel
        by_cases hlt : j < m
        · obtain ⟨x, hx, hl, hc⟩ := HS.out j hlt
          obtain ⟨g, off, Ak, ck, rfl, e1, hP⟩ := hc wr F.out.2.2
          have HX := Lib.hid hx
          obtain ⟨q, hq⟩ : ∃ z, x.length = z := ⟨_, rfl⟩
          have HQ := Lib.hid hq
          rw [hq] at e1
          rw [F.out.1, hq] at hl
          have PX := Lib.hid hP
          have OF : Hid (TOwnB wr w.heap.size (.slice A2 k c2) (preL Ls j)) := F.out.2.1
          have ZF : Hid (w.heap.size ≤ wr.heap.size) := F.out.2.2.size
          have NX : Hid (∀ A3 c3 w3, TOwnB w3 w.heap.size (.slice A3 (k + q) c3) (preL Ls j ++ x) → Below w.heap.size wr w3 → Hid ((preL Ls (j + 1)).length = k + q ∧ TOwnB w3 w.heap.size (.slice A3 (k + q) c3) (preL Ls (j + 1)) ∧ Below w.heap.size w w3)) := fun A3 c3 w3 h1 h2 => by
            rw [HX.out]
            exact ⟨by rw [List.length_append, F.out.1, HQ.out], h1, F.out.2.2.trans h2⟩
          have HK : Hid ((preL Ls j).length = k) := F.out.1
          have HSM : Hid ((preL Ls j).length + x.length ≤ 100000) := by show _ ≤ _; rw [HK.out, HQ.out]; omega
          clear hx hc hq hP F
          go_wp2_with (at_builtin; refine wpList_appBs OF.out PX.out ZF.out HSM.out rfl _ _ rfl rfl rfl q HQ.out rfl (k + q) (by rw [HK.out]) ?_; intro A3 c3 w3 h1 h2; have F3 := NX.out A3 c3 w3 h1 h2; clear h1 h2)
          go_roundw
          case rel => exact ⟨j + 1, k + q, A3, c3, by omega, by go_num, rfl, F3⟩
          case measure => simp [intOf]; omega
        · obtain rfl : m = j := by omega
          have hk : k = t := by rw [← F.out.1, HF.out, HT.out]
          subst hk
          have R := F.out.2
          rw [HF.out] at R
          clear F
          go_wp2
          go_ret
          exact ⟨A2, c2, rfl, R.1, R.2⟩
end Go.Proofs.YtmnleknehjkmgaaGreat
namespace Go.Proofs.YtmnleknehjkmgaaGreat
open Go.RowKit Go.Shelf
attribute [local go_sem] Oper.semAt_some
theorem grow_nilI (n : Nat) (hn : n ≤ 100000) (w : World) :
    Calls Tryz.prog 39 #[.slice none 0 0, .int .i64 n] w fun e w' => ∃ A c, e = .returned (.slice A 0 c) ∧ OwnIt w' w.heap.size (.slice A 0 c) [] ∧ Below w.heap.size w w' := by
  by_cases h0 : n = 0
  · subst h0
    go_enter Tryz.func39, Tryz.ntmps39
    go_wp2
    go_ret
    exact ⟨none, 0, rfl, ownIt_nil _ _, Below.refl _ _⟩
  · have h1 : 1 ≤ n := by omega
    go_enter Tryz.func39, Tryz.ntmps39
    go_wp2
    · exfalso; rename_i x1 x0; have := (show (281474976710656 : Int) < (n : Int) * ((80 : Nat) : Int) from x1); omega
    · exfalso; rename_i x1 x0; have := (show (281474976710656 : Int) < (n : Int) * ((80 : Nat) : Int) from x1); omega
    · exfalso
      rename_i x3 x2 x1 x0
      have h := (show 281474976710656 < Builtin.nextslicecap n 0 * 80 from x3)
      unfold Builtin.nextslicecap at h
      rw [if_pos (by omega)] at h
      omega
    · have g1 : n ≤ grownCap w n 0 34 := grownCap_ge w _ _ _
      have g2 : grownCap w n 0 34 ≤ maxLen := grownCap_le_maxLen w _ _ _ (by unfold maxLen; omega)
      go_ret
      refine ⟨some ⟨w.heap.size, 0, none⟩, grownCap w n 0 34, rfl, ⟨⟨rfl, .inr ⟨w.heap.size, grownCap w n 0 34, _, rfl, Nat.le_refl _, heap_alloc_new w _, Nat.zero_le _, g2, ?_, by simp [cellsI]⟩⟩, fun r hr => absurd hr List.not_mem_nil⟩, ?_⟩
      · simp [Builtin.zeroCells]
        show n * 5 + (grownCap w n 0 34 - n) * 5 = _
        omega
      · exact ((Below.refl _ _).alloc (Nat.le_refl _) _).drew
def szN (l1 l2 : Nat) : Nat → Nat
  | 0 => 0
  | 1 => l1
  | _ => l1 + l2
def preR (R1 R2 : List Xe) : Nat → List Xe
  | 0 => []
  | 1 => R1
  | _ => R1 ++ R2
def TwoP (w : World) (g : Nat) (v0 v1 : Value) : Prop := w.heap[g]? = some (.cells #[v0, v1] 24 (0, 0))
theorem concatI_any (B : Nat) (R1 R2 : List Xe) (A1 A2 : Option Addr) (c1 c2 l1 l2 : Nat) (h1 : R1.length = l1) (h2 : R2.length = l2) (g1 : l1 ≤ 1000) (g2 : l2 ≤ 1000) (g : Nat) (w : World) (hB : B ≤ w.heap.size) (O1 : OwnIt w B (.slice A1 l1 c1) R1) (O2 : OwnIt w B (.slice A2 l2 c2) R2) (HT : TwoP w g (.slice A1 l1 c1) (.slice A2 l2 c2)) :
    Calls Tryz.prog 28 #[.slice (some ⟨g, 0, none⟩) 2 2] w fun e w' => ∃ A' c', e = .returned (.slice A' (l1 + l2) c') ∧ OwnIt w' B (.slice A' (l1 + l2) c') (R1 ++ R2) ∧ Below w.heap.size w w' := by
  have GR := Lib.hid (grow_nilI (l1 + l2) (by omega) w)
  have HT2 := Lib.hid (fun w' (h : Below w.heap.size w w') => And.intro (Fr.cells2 ((h.block g (Array.getElem?_eq_some_iff.1 HT).1).trans HT)) (And.intro (O1.below h) (O2.below h)))
  obtain ⟨k0, k1⟩ := Fr.cells2 HT
  have L1 := Lib.hid h1
  have L2 := Lib.hid h2
  clear O1 O2 HT h1 h2
  go_enter Tryz.func28, Tryz.ntmps28
  go_wp2
  go_loopw [3, 11] (fun vs vi wr => ∃ j : Nat, j ≤ 2 ∧ vi = .int .i64 j ∧ vs = .int .i64 (szN l1 l2 j : Nat) ∧ wr = w) (fun _ vi _ => 2 - (intOf vi).toNat)
  case atStart => exact ⟨0, by omega, rfl, rfl, rfl⟩
  case round =>
    obtain ⟨j, hj, rfl, rfl, rfl⟩ := hrel
    have hj3 : j = 0 ∨ j = 1 ∨ j = 2 := by omega
    rcases hj3 with rfl | rfl | rfl
    · simp only [szN]
      go_wp2
      go_roundw
      case rel => exact ⟨1, by omega, rfl, rfl, by first | rfl | trivial⟩
      case measure => simp [intOf]
    · simp only [szN]
      go_wp2
      go_roundw
      case rel => exact ⟨2, by omega, rfl, by show _ = Value.int .i64 ((l1 + l2 : Nat) : Int); go_num, by first | rfl | trivial⟩
      case measure => simp [intOf]
    · obtain ⟨w, rfl⟩ : ∃ z, z = wr := ⟨_, rfl⟩
      simp only [szN]
      clear k0 k1
      go_wp2_with fail
      refine GR.out.mono ?_
      rintro e w1 ⟨A', c', rfl, hO, hb⟩
      have O1 : Hid (OwnIq w1 w.heap.size B (.slice A' 0 c') []) := ⟨hO.1, fun r hr => absurd hr List.not_mem_nil⟩
      have B1 := Lib.hid hb
      clear GR hO hb
      go_wp2
      go_loopw [6, 27] (fun v vi wq => ∃ (j : Nat) (A2' : Option Addr) (k c2' : Nat), j ≤ 2 ∧ vi = .int .i64 j ∧ v = .slice A2' k c2' ∧ Hid (k = (preR R1 R2 j).length) ∧ Hid (OwnIq wq w.heap.size B (.slice A2' k c2') (preR R1 R2 j)) ∧ Hid (Below w.heap.size w wq)) (fun _ vi _ => 2 - (intOf vi).toNat)
      case atStart => exact ⟨0, A', 0, c', by omega, rfl, rfl, rfl, O1.out, B1.out⟩
      case round =>
        clear O1 B1
        obtain ⟨j, A2', k, c2', hj, rfl, rfl, HK, OW, BW⟩ := hrel
        obtain ⟨⟨k0, k1⟩, p1, p2⟩ := HT2.out _ BW.out
        have P1 := Lib.hid p1
        have P2 := Lib.hid p2
        clear p1 p2
        have ZB : Hid (w.heap.size ≤ wr.heap.size) := BW.out.size
        have hj3 : j = 0 ∨ j = 1 ∨ j = 2 := by omega
        rcases hj3 with rfl | rfl | rfl
        · have NX : Hid (∀ A3 c3 w3, OwnIq w3 w.heap.size B (.slice A3 (preR R1 R2 0 ++ R1).length c3) (preR R1 R2 0 ++ R1) → Below w.heap.size wr w3 → ((preR R1 R2 0).length + R1.length = (preR R1 R2 1).length) ∧ OwnIq w3 w.heap.size B (.slice A3 ((preR R1 R2 0).length + R1.length) c3) (preR R1 R2 1) ∧ Below w.heap.size w w3) := fun A3 c3 w3 q1 q2 => by
            rw [List.length_append] at q1
            exact ⟨by simp [preR], q1, BW.out.trans q2⟩
          go_wp2_with (at_builtin; refine wpList_appIt OW.out P1.out.itsP P1.out.2 ZB.out (by show 0 + R1.length ≤ 100000; have := L1.out; omega) rfl _ _ rfl rfl rfl l1 L1.out rfl ?_; intro A3 c3 w3 q1 q2 q3; have F3 := Lib.hid (NX.out A3 c3 w3 q1 q2); clear q1 q2 q3)
          go_roundw
          case rel => exact ⟨1, A3, _, c3, by omega, rfl, rfl, F3.out.1, F3.out.2.1, F3.out.2.2⟩
          case measure => simp [intOf]
        · have NX : Hid (∀ A3 c3 w3, OwnIq w3 w.heap.size B (.slice A3 (preR R1 R2 1 ++ R2).length c3) (preR R1 R2 1 ++ R2) → Below w.heap.size wr w3 → ((preR R1 R2 1).length + R2.length = (preR R1 R2 2).length) ∧ OwnIq w3 w.heap.size B (.slice A3 ((preR R1 R2 1).length + R2.length) c3) (preR R1 R2 2) ∧ Below w.heap.size w w3) := fun A3 c3 w3 q1 q2 => by
            rw [List.length_append] at q1
            exact ⟨by simp [preR], q1, BW.out.trans q2⟩
          go_wp2_with (at_builtin; refine wpList_appIt OW.out P2.out.itsP P2.out.2 ZB.out (by show R1.length + R2.length ≤ 100000; have := L1.out; have := L2.out; omega) rfl _ _ rfl rfl rfl l2 L2.out rfl ?_; intro A3 c3 w3 q1 q2 q3; have F3 := Lib.hid (NX.out A3 c3 w3 q1 q2); clear q1 q2 q3)
          go_roundw
          case rel => exact ⟨2, A3, _, c3, by omega, rfl, rfl, F3.out.1, F3.out.2.1, F3.out.2.2⟩
          case measure => simp [intOf]
        · have hk : k = l1 + l2 := by
            have h := HK.out
            have e : (preR R1 R2 2).length = R1.length + R2.length := List.length_append
            rw [h, e, L1.out, L2.out]
          subst hk
          have F : Hid (OwnIt wr B (.slice A2' (l1 + l2) c2') (R1 ++ R2) ∧ Below w.heap.size w wr) := ⟨OwnIq.lift OW.out hB (Nat.le_refl _), BW.out⟩
          clear HK OW BW P1 P2 HT2 k0 k1
          go_wp2
          go_ret
          exact ⟨A2', c2', rfl, F.out⟩
end Go.Proofs.YtmnleknehjkmgaaGreat
namespace Go.Proofs.YtmnleknehjkmgaaGreat
open Go.RowKit Go.Shelf
attribute [local go_sem] Oper.semAt_some
theorem bq_two {w' : World} {g : Nat} {a b : Str} {A1 A2 : Option Addr} {l1 l2 c1 c2 : Nat} (h1 : a.length = l1) (h2 : b.length = l2) (hg : w'.heap[g]? = some (.cells #[.slice A1 l1 c1, .slice A2 l2 c2] 22 (0, 0))) (H1 : BytesAt w' A1 a) (H2 : BytesAt w' A2 b) : BqP w' (some ⟨g, 0, none⟩) [a, b] := by
  obtain ⟨k0, k1⟩ := Fr.cells2 hg
  refine .inr ⟨g, 0, rfl, fun k hk => ?_⟩
  match k, hk with
  | 0, _ => exact ⟨A1, c1, by rw [List.getElem_cons_zero, h1]; exact k0, H1⟩
  | 1, _ => exact ⟨A2, c2, by rw [List.getElem_cons_succ, List.getElem_cons_zero, h2]; exact k1, H2⟩
theorem walkIJ (A1 : Option Addr) (cap1 : Nat) (a : Str) (A2 : Option Addr) (cap2 : Nat) (b : Str) (w : World) (H1 : BytesAt w A1 a) (hc1 : a.length ≤ cap1 ∧ cap1 ≤ maxLen) (H2 : BytesAt w A2 b) (hc2 : b.length ≤ cap2 ∧ cap2 ≤ maxLen) (hM : MaxAt w) :
    Calls Tryz.prog 7 #[.slice A1 a.length cap1, .slice A2 b.length cap2] w fun e w' => e = .returned (.bool true) ∧ Below w.heap.size w w' := by
  obtain ⟨l1, hl1⟩ : ∃ z, a.length = z := ⟨_, rfl⟩
  obtain ⟨l2, hl2⟩ : ∃ z, b.length = z := ⟨_, rfl⟩
  rw [hl1] at hc1 ⊢
  rw [hl2] at hc2 ⊢
  have AL := Lib.hid (fun w' (h : Below w.heap.size w w') => alive13_any w' (hM.below h))
  by_cases hbig : 500 < l1 ∨ 500 < l2
  · have A0 := AL.out w (Below.refl _ _)
    have hx : (l1 : Int) > 500 ∨ (¬ ((l1 : Int) > 500) ∧ (l2 : Int) > 500) := by omega
    clear H1 H2 hM hl1 hl2 hc1 hc2 AL hbig
    rcases hx with t1 | ⟨t1, t2⟩
    · go_enter Tryz.func7, Tryz.ntmps7
      go_wp2_with fail
      refine A0.mono ?_
      rintro e w1 ⟨rfl, hb⟩
      have B1 := Lib.hid hb
      clear A0 hb
      go_wp2
      go_ret
      exact ⟨rfl, B1.out⟩
    · go_enter Tryz.func7, Tryz.ntmps7
      go_wp2_with fail
      refine A0.mono ?_
      rintro e w1 ⟨rfl, hb⟩
      have B1 := Lib.hid hb
      clear A0 hb
      go_wp2
      go_ret
      exact ⟨rfl, B1.out⟩
  have t1 : ¬ ((l1 : Int) > 500) := by omega
  have t2 : ¬ ((l2 : Int) > 500) := by omega
  have RA := rdecode13_any a A1 cap1 l1 hl1 hc1.1 hc1.2 (by omega) w H1
  have RB := Lib.hid (fun w' (h : Below w.heap.size w w') => rdecode13_any b A2 cap2 l2 hl2 hc2.1 hc2.2 (by omega) w' (H2.below h))
  have HB := Lib.hid (fun w' (h : Below w.heap.size w w') => And.intro (H1.below h) (And.intro (H2.below h) (hM.below h)))
  have HL : Hid (a.length = l1 ∧ b.length = l2) := ⟨hl1, hl2⟩
  have g1 : l1 ≤ 500 := by omega
  have g2 : l2 ≤ 500 := by omega
  clear H1 H2 hM hl1 hl2 hc1 hc2 hbig
  go_enter Tryz.func7, Tryz.ntmps7
  go_wp2_with fail
  refine RA.mono ?_
  rintro e w1 ⟨X1, c1, R1, rfl, hR1, hO1, hb⟩
  have B1 := Lib.hid hb
  have R0 := RB.out w1 B1.out
  have HR1 := Lib.hid hR1
  have I1 := Lib.hid (fun w' (h : Below w1.heap.size w1 w') => hO1.below h)
  obtain ⟨m1, hm1⟩ : ∃ z, R1.length = z := ⟨_, rfl⟩
  have HM1 := Lib.hid hm1
  have hm5 : m1 ≤ 500 := by
    have h1 := congrArg List.length hR1
    have h2 := items_le a
    have h3 := HL.out
    rw [List.length_map] at h1
    omega
  rw [hm1] at I1 ⊢
  clear RA RB hR1 hO1 hb hm1
  go_wp2_with fail
  refine R0.mono ?_
  rintro e w2 ⟨X2, c2, R2, rfl, hR2, hO2, hb⟩
  have B12 : Hid (Below w1.heap.size w1 w2) := hb
  have B2 : Hid (Below w.heap.size w w2) := B1.out.trans (hb.mono B1.out.size)
  have HR2 := Lib.hid hR2
  have I2 := Lib.hid (fun w' (h : Below w2.heap.size w2 w') => OwnIt.lift (hO2.below h) B1.out.size)
  obtain ⟨m2, hm2⟩ : ∃ z, R2.length = z := ⟨_, rfl⟩
  have HM2 := Lib.hid hm2
  have hm6 : m2 ≤ 500 := by
    have h1 := congrArg List.length hR2
    have h2 := items_le b
    have h3 := HL.out
    rw [List.length_map] at h1
    omega
  rw [hm2] at I2 ⊢
  have J1 : Hid (OwnIt w2 w.heap.size (.slice X1 m1 c1) R1) := I1.out w2 B12.out
  clear R0 hR2 hO2 hb hm2
  -- the rest, once the last item is no truncated one
  have REST : Hid ((∀ x ∈ itemsR a, x.kind ≠ 4) → itemsR (a ++ b) = R1.map Xe.x ++ R2.map Xe.x) := fun h => by rw [HR1.out, HR2.out]; exact items_join a b h
  have NT : Hid (∀ k (hk : k < R1.length), (R1.map Xe.x)[k]?.map Ite.kind ≠ some 4 → k + 1 = R1.length → ∀ x ∈ itemsR a, x.kind ≠ 4) := fun k hk hn hk1 x hx h4 => by
    obtain ⟨j, hj, rfl⟩ := List.getElem_of_mem hx
    have h5 := items_trunc a j hj h4
    have hlen : (itemsR a).length = R1.length := by rw [← HR1.out, List.length_map]
    obtain rfl : j = k := by omega
    refine hn ?_
    rw [HR1.out, List.getElem?_eq_getElem hj]
    simp [h4]
  have NIL : Hid (m1 = 0 → ∀ x ∈ itemsR a, x.kind ≠ 4) := fun h x hx => by
    rw [← HR1.out, List.length_eq_zero_iff.1 (HM1.out.trans h)] at hx
    cases hx
  have A0 := AL.out w2 B2.out
  cases m1 with
  | zero =>
    have HE := Lib.hid (REST.out (NIL.out rfl))
    clear REST NIL NT AL I1
    go_wp2_with fail
    refine A0.mono ?_
    rintro e w3 ⟨rfl, hb⟩
    have B23 : Hid (Below w2.heap.size w2 w3) := hb
    have B3 : Hid (Below w.heap.size w w3) := B2.out.trans (hb.mono B2.out.size)
    obtain ⟨g, w4, hg, hw4, S4, y4, z4⟩ := Fr.box (Fr.nil w3) #[.slice A1 l1 cap1, .slice A2 l2 cap2] 22
    have B24 : Hid (Below w2.heap.size w2 w4) := B23.out.trans (y4.mono B23.out.size)
    have B4 : Hid (Below w.heap.size w w4) := B3.out.trans (y4.mono B3.out.size)
    have hfl : [a, b].flatten = a ++ b := by simp
    have hft : (a ++ b).length = l1 + l2 := by rw [List.length_append, HL.out.1, HL.out.2]
    have CB := concatB_any [a, b] 2 rfl (by omega) (l1 + l2) (by rw [hfl]; exact hft) (by omega) (some ⟨g, 0, none⟩) 2 w4 (bq_two HL.out.1 HL.out.2 S4.out.1 (HB.out w4 B4.out).1 (HB.out w4 B4.out).2.1)
    rw [hfl] at CB
    have HFT := Lib.hid hft
    clear A0 hb S4 y4 hfl hft B23 B3
    go_wp2_with fail
    refine CB.mono ?_
    rintro e w5 ⟨A5, c5, rfl, hO5, hb⟩
    have B25 : Hid (Below w2.heap.size w2 w5) := B24.out.trans (hb.mono B24.out.size)
    have B5 : Hid (Below w.heap.size w w5) := B4.out.trans (hb.mono B4.out.size)
    have hcap := townB_caps hO5
    have DE := decode13_any (a ++ b) A5 c5 (l1 + l2) HFT.out hcap.1 hcap.2 (by omega) w5 (townB_at hO5) (HB.out w5 B5.out).2.2
    rw [HE.out] at DE
    clear CB hO5 hb hcap B24 B4
    go_wp2_with fail
    refine DE.mono ?_
    rintro e w6 ⟨A6, c6, R6, rfl, hR6, hO6, hb⟩
    have B26 : Hid (Below w2.heap.size w2 w6) := B25.out.trans (hb.mono B25.out.size)
    have B6 : Hid (Below w.heap.size w w6) := B5.out.trans (hb.mono B5.out.size)
    obtain ⟨g7, w7, hg7, hw7, S7, y7, z7⟩ := Fr.box (Fr.nil w6) #[.slice X1 0 c1, .slice X2 m2 c2] 24
    have B27 : Hid (Below w2.heap.size w2 w7) := B26.out.trans (y7.mono B26.out.size)
    have B7 : Hid (Below w.heap.size w w7) := B6.out.trans (y7.mono B6.out.size)
    have CI := concatI_any w.heap.size R1 R2 X1 X2 c1 c2 (0) m2 HM1.out HM2.out (by omega) (by omega) g7 w7 B7.out.size (OwnIt.below J1.out B27.out) (I2.out w7 B27.out) S7.out.1
    obtain ⟨mt, hmt⟩ : ∃ z, 0 + m2 = z := ⟨_, rfl⟩
    rw [hmt] at CI
    have HMT := Lib.hid hmt
    clear hmt
    have R67 : Hid (ItsP w7 A6 R6) := hO6.itsP.below y7
    have C6 : Hid (R6.map Xe.x = R1.map Xe.x ++ R2.map Xe.x) := hR6
    obtain ⟨m6, hm6'⟩ : ∃ z, R6.length = z := ⟨_, rfl⟩
    have HM6 := Lib.hid hm6'
    rw [hm6']
    clear DE hR6 hO6 hb S7 y7 hm6' B25 B5 B26 B6
    go_wp2_with fail
    refine CI.mono ?_
    rintro e w8 ⟨A8, c8, rfl, hO8, hb⟩
    have B8 : Hid (Below w.heap.size w w8) := B7.out.trans (hb.mono B7.out.size)
    have CC1 := rows_C HR1.out
    have CC2 := rows_C HR2.out
    have SM := rsame13_any R6 (R1 ++ R2) A6 A8 c6 c8 m6 mt HM6.out (by rw [List.length_append, HM1.out, HM2.out, HMT.out]) (by
      have h := congrArg List.length C6.out
      simp only [List.length_map, List.length_append] at h
      have h1 := HM1.out
      have h2 := HM2.out
      have h3 := HM6.out
      omega) (fun r hr => by
      have h : r.x ∈ R6.map Xe.x := List.mem_map_of_mem hr
      rw [C6.out] at h
      rcases List.mem_append.1 h with h | h
      · obtain ⟨q, hq, e⟩ := List.mem_map.1 h
        rw [← e]
        exact CC1 q hq
      · obtain ⟨q, hq, e⟩ := List.mem_map.1 h
        rw [← e]
        exact CC2 q hq) (fun r hr => by
      rcases List.mem_append.1 hr with h | h
      · exact CC1 r h
      · exact CC2 r h) w8 (R67.out.below hb) hO8.itsP
    rw [List.map_append, C6.out, decide_eq_true rfl] at SM
    clear CI hO8 hb CC1 CC2 B27 B7
    go_wp2_with fail
    refine SM.mono ?_
    rintro e w9 ⟨rfl, hb⟩
    have B9 : Hid (Below w.heap.size w w9) := B8.out.trans (hb.mono B8.out.size)
    clear SM hb B8
    go_wp2
    go_ret
    exact ⟨rfl, B9.out⟩
  | succ k =>
    have hkR : k < R1.length := by rw [HM1.out]; omega
    have JJ := J1.out.itsP.j hkR
    have NTK := NT.out k hkR
    have e0 : (R1.map Xe.x)[k]? = some R1[k].x := by rw [List.getElem?_map, List.getElem?_eq_getElem hkR]; rfl
    rw [e0] at NTK
    obtain ⟨b1, o1, rfl, k0, -⟩ := JJ
    obtain ⟨kd, hkd⟩ : ∃ z, R1[k].x.kind = z := ⟨_, rfl⟩
    rw [hkd] at k0
    have NT2 : Hid (kd ≠ 4 → ∀ x ∈ itemsR a, x.kind ≠ 4) := fun h => NTK (by simp [hkd, h]) HM1.out.symm
    clear NTK e0 hkd hkR NIL NT I1
    by_cases q : kd = 4
    · subst q
      have q4 : ((4 : Int) == 4) = true := rfl
      clear NT2 REST HB HL HR1 HR2 I2 J1 HM1 HM2
      go_wp2_with fail
      refine A0.mono ?_
      rintro e w3 ⟨rfl, hb⟩
      have B3 : Hid (Below w.heap.size w w3) := B2.out.trans (hb.mono B2.out.size)
      clear A0 hb B2
      go_wp2
      go_ret
      exact ⟨rfl, B3.out⟩
    · have q4 : (kd == 4) = false := beq_eq_false_iff_ne.2 q
      have HE := Lib.hid (REST.out (NT2.out q))
      clear REST NT2 AL q
      go_wp2_with fail
      refine A0.mono ?_
      rintro e w3 ⟨rfl, hb⟩
      have B23 : Hid (Below w2.heap.size w2 w3) := hb
      have B3 : Hid (Below w.heap.size w w3) := B2.out.trans (hb.mono B2.out.size)
      obtain ⟨g, w4, hg, hw4, S4, y4, z4⟩ := Fr.box (Fr.nil w3) #[.slice A1 l1 cap1, .slice A2 l2 cap2] 22
      have B24 : Hid (Below w2.heap.size w2 w4) := B23.out.trans (y4.mono B23.out.size)
      have B4 : Hid (Below w.heap.size w w4) := B3.out.trans (y4.mono B3.out.size)
      have hfl : [a, b].flatten = a ++ b := by simp
      have hft : (a ++ b).length = l1 + l2 := by rw [List.length_append, HL.out.1, HL.out.2]
      have CB := concatB_any [a, b] 2 rfl (by omega) (l1 + l2) (by rw [hfl]; exact hft) (by omega) (some ⟨g, 0, none⟩) 2 w4 (bq_two HL.out.1 HL.out.2 S4.out.1 (HB.out w4 B4.out).1 (HB.out w4 B4.out).2.1)
      rw [hfl] at CB
      have HFT := Lib.hid hft
      clear A0 hb S4 y4 hfl hft B23 B3
      go_wp2_with fail
      refine CB.mono ?_
      rintro e w5 ⟨A5, c5, rfl, hO5, hb⟩
      have B25 : Hid (Below w2.heap.size w2 w5) := B24.out.trans (hb.mono B24.out.size)
      have B5 : Hid (Below w.heap.size w w5) := B4.out.trans (hb.mono B4.out.size)
      have hcap := townB_caps hO5
      have DE := decode13_any (a ++ b) A5 c5 (l1 + l2) HFT.out hcap.1 hcap.2 (by omega) w5 (townB_at hO5) (HB.out w5 B5.out).2.2
      rw [HE.out] at DE
      clear CB hO5 hb hcap B24 B4
      go_wp2_with fail
      refine DE.mono ?_
      rintro e w6 ⟨A6, c6, R6, rfl, hR6, hO6, hb⟩
      have B26 : Hid (Below w2.heap.size w2 w6) := B25.out.trans (hb.mono B25.out.size)
      have B6 : Hid (Below w.heap.size w w6) := B5.out.trans (hb.mono B5.out.size)
      obtain ⟨g7, w7, hg7, hw7, S7, y7, z7⟩ := Fr.box (Fr.nil w6) #[.slice (some ⟨b1, o1, none⟩) (k + 1) c1, .slice X2 m2 c2] 24
      have B27 : Hid (Below w2.heap.size w2 w7) := B26.out.trans (y7.mono B26.out.size)
      have B7 : Hid (Below w.heap.size w w7) := B6.out.trans (y7.mono B6.out.size)
      have CI := concatI_any w.heap.size R1 R2 (some ⟨b1, o1, none⟩) X2 c1 c2 ((k + 1)) m2 HM1.out HM2.out (by omega) (by omega) g7 w7 B7.out.size (OwnIt.below J1.out B27.out) (I2.out w7 B27.out) S7.out.1
      obtain ⟨mt, hmt⟩ : ∃ z, (k + 1) + m2 = z := ⟨_, rfl⟩
      rw [hmt] at CI
      have HMT := Lib.hid hmt
      clear hmt
      have R67 : Hid (ItsP w7 A6 R6) := hO6.itsP.below y7
      have C6 : Hid (R6.map Xe.x = R1.map Xe.x ++ R2.map Xe.x) := hR6
      obtain ⟨m6, hm6'⟩ : ∃ z, R6.length = z := ⟨_, rfl⟩
      have HM6 := Lib.hid hm6'
      rw [hm6']
      clear DE hR6 hO6 hb S7 y7 hm6' B25 B5 B26 B6
      go_wp2_with fail
      refine CI.mono ?_
      rintro e w8 ⟨A8, c8, rfl, hO8, hb⟩
      have B8 : Hid (Below w.heap.size w w8) := B7.out.trans (hb.mono B7.out.size)
      have CC1 := rows_C HR1.out
      have CC2 := rows_C HR2.out
      have SM := rsame13_any R6 (R1 ++ R2) A6 A8 c6 c8 m6 mt HM6.out (by rw [List.length_append, HM1.out, HM2.out, HMT.out]) (by
        have h := congrArg List.length C6.out
        simp only [List.length_map, List.length_append] at h
        have h1 := HM1.out
        have h2 := HM2.out
        have h3 := HM6.out
        omega) (fun r hr => by
        have h : r.x ∈ R6.map Xe.x := List.mem_map_of_mem hr
        rw [C6.out] at h
        rcases List.mem_append.1 h with h | h
        · obtain ⟨q, hq, e⟩ := List.mem_map.1 h
          rw [← e]
          exact CC1 q hq
        · obtain ⟨q, hq, e⟩ := List.mem_map.1 h
          rw [← e]
          exact CC2 q hq) (fun r hr => by
        rcases List.mem_append.1 hr with h | h
        · exact CC1 r h
        · exact CC2 r h) w8 (R67.out.below hb) hO8.itsP
      rw [List.map_append, C6.out, decide_eq_true rfl] at SM
      clear CI hO8 hb CC1 CC2 B27 B7
      go_wp2_with fail
      refine SM.mono ?_
      rintro e w9 ⟨rfl, hb⟩
      have B9 : Hid (Below w.heap.size w w9) := B8.out.trans (hb.mono B8.out.size)
      clear SM hb B8
      go_wp2
      go_ret
      exact ⟨rfl, B9.out⟩
end Go.Proofs.YtmnleknehjkmgaaGreat
