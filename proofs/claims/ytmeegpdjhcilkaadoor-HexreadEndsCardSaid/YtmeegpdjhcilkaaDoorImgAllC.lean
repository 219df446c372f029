/-
  ImgQ, ImgS, ImgT, ImgU, ImgV, ImgW, ImgX, ImgY: texts joined to one.
-/
import Derived.Test.YtmeegpdjhcilkaaDoorImgP
import Derived.ProofKit
import Derived.OpenShut
import Derived.Deep.Slices
import Derived.Test.YtmeegpdjhcilkaaDoorLawAll
/-
  The walks over slices.Equal at []byte, the law's alive, given and Same.
-/
namespace Go.Proofs.YtmeegpdjhcilkaaDoor.Im
open Go.RowKit
set_option linter.unusedVariables false

theorem beq_byte (a b : UInt8) : ((a.toNat : Int) == (b.toNat : Int)) = decide (a = b) := by
  by_cases h : a = b
  · subst h; simp
  · rw [decide_eq_false h, beq_eq_false_iff_ne]
    intro e
    exact h (UInt8.toNat_inj.1 (by omega))
def SomeDraws (w : World) (b : Bool) (e : Ending) (w' : World) : Prop := e = .returned (.bool b) ∧ ∃ q, w' = w.drewN q
set_option maxHeartbeats 1000000 in
/-- slices.Equal of two slices that read alike. -/
theorem equalS_any (P Q : Nat → Prop) (A1 A2 : Option Addr) (c1 c2 : Nat) (xs : List UInt8) (hx : xs.length ≤ maxLen) (w : World) (h1 : BytesP P w A1 xs) (h2 : BytesP Q w A2 xs) :
    Calls Tryd.prog 41 #[.slice A1 xs.length c1, .slice A2 xs.length c2] w (SomeDraws w true) := by
  unfold maxLen at hx
  have H1 := Lib.hid h1
  have H2 := Lib.hid h2
  clear h1 h2
  obtain ⟨n, hn⟩ : ∃ n, xs.length = n := ⟨_, rfl⟩
  have L1 := Lib.hid hn
  rw [hn] at hx ⊢
  clear hn
  go_enter Tryd.func41, Tryd.ntmps41
  go_wp2
  go_loopw [13] (fun i wr => ∃ k q : Nat, k ≤ n ∧ i = .int .i64 k ∧ wr = w.drewN q) (fun i _ => n - (intOf i).toNat)
  case atStart => exact ⟨0, 0, Nat.zero_le _, rfl, rfl⟩
  case round =>
    obtain ⟨k, q, hk, rfl, rfl⟩ := hrel
    by_cases hlt : k < n
    · obtain ⟨b1, o1, hA1, g1⟩ := H1.out.at_ (show k < xs.length by have := L1.out; omega)
      obtain ⟨b2, o2, hA2, g2⟩ := H2.out.at_ (show k < xs.length by have := L1.out; omega)
      subst hA1 hA2
      obtain ⟨x, hx⟩ : ∃ x : Int, ((xs[k]'(by have := L1.out; omega)).toNat : Int) = x := ⟨_, rfl⟩
      rw [hx] at g1 g2
      clear hx
      go_wp2_with fail
      go_quiet (fail)
      go_wp2
      go_roundw
      case rel => exact ⟨k + 1, _, by omega, by go_num, rfl⟩
      case measure => simp [intOf]; omega
    · go_wp2
      go_ret
      exact ⟨rfl, _, rfl⟩
theorem runs_mem_le {W : List Cel} {r : Rn} (h : r ∈ runsW W) : r.2.length ≤ W.length := by
  obtain ⟨s, t, e⟩ := List.append_of_mem h
  have h1 := expand_runs W
  rw [e, show s ++ r :: t = s ++ ([r] ++ t) from rfl, expand_append, expand_append] at h1
  have h2 := congrArg List.length h1
  have h3 : (expand [r]).length = r.2.length := by unfold expand; simp [mkW_length]
  rw [List.length_append, List.length_append, h3] at h2
  omega
theorem pairs_get {rs : List R} {l : List Rn} (h : pairs rs = pairN l) (k : Nat) (hk : k < rs.length) : ∃ hl : k < l.length, rs[k].addr = (l[k].1 : Int) ∧ rs[k].data = l[k].2 := by
  have hl : k < l.length := by rw [← pairs_length h]; exact hk
  have h1 : (pairs rs)[k]? = (pairN l)[k]? := by rw [h]
  unfold pairs pairN at h1
  rw [List.getElem?_map, List.getElem?_map, List.getElem?_eq_getElem hk, List.getElem?_eq_getElem hl] at h1
  simp only [Option.map_some, Option.some.injEq, Prod.mk.injEq] at h1
  exact ⟨hl, h1.1, h1.2⟩
theorem RunsP.get {S P : Nat → Prop} {w : World} {b off : Nat} {rs : List R} (h : RunsP S P w (some ⟨b, off, none⟩) rs) {k : Nat} (hk : k < rs.length) :
    w.cell? ⟨b, off + k * 2, none⟩ = some (.int .i64 rs[k].addr) ∧ w.cell? ⟨b, off + k * 2 + 1, none⟩ = some (.slice rs[k].A rs[k].data.length rs[k].cap) := by
  obtain ⟨b', off', h1, h2, h3⟩ := h.at_ hk
  have := Option.some.inj h1
  simp only [Addr.mk.injEq, and_true] at this
  rw [this.1, this.2]
  exact ⟨h2, h3⟩

set_option maxHeartbeats 4000000 in
/-- The law's Same, at an image and cells that agree. -/
theorem lsame_any (b : Nat) (W : List Cel) (P : Nat → Prop) (A : Option Addr) (cap : Nat) (w : World) (hI : ImgOf w b W) (hC : CellsP P w A W) :
    Calls Tryd.prog 14 #[.pointer (some ⟨b, 0, none⟩), .slice A W.length cap] w fun e w' => e = .returned (.int .i64 1) ∧ Below w.heap.size w w' := by
  have hs := hI.1
  have hl := sorted_length hs
  have I := Lib.hid hI
  have C := Lib.hid hC
  have HS := Lib.hid hs
  clear hI hC hs
  go_enter Tryd.func14, Tryd.ntmps14
  go_wp2_with fail
  refine (runs_any b W _ I.out).mono ?_
  rintro e w1 ⟨A1, cap1, rs1, rfl, hc1, E1, R1, B1⟩
  have C1 := Lib.hid (C.out.below B1)
  go_wp2_with fail
  refine (rruns_any P A cap W HS.out _ C1.out).mono ?_
  rintro e w2 ⟨A2, cap2, rs2, rfl, hc2, E2, R2, B2⟩
  have l1 := pairs_length E1
  have l2 := pairs_length E2
  have l3 := runs_length_le W
  obtain ⟨n, hn⟩ : ∃ n, rs1.length = n := ⟨_, rfl⟩
  have hn2 : rs2.length = n := by omega
  have hn3 : n ≤ 65536 := by omega
  have L1 := Lib.hid hn
  have L2 := Lib.hid hn2
  have F1 := Lib.hid E1
  have F2 := Lib.hid E2
  have Q1 := Lib.hid (R1.below B2)
  have Q2 := Lib.hid R2
  have BB := Lib.hid (B1.trans (B2.mono B1.size))
  have I2 := Lib.hid (I.out.below BB.out)
  rw [hn, hn2]
  clear hn hn2 l1 l2 l3 E1 E2 R1 R2 B1 B2 hc1 hc2
  go_wp2_with fail
  refine (lenOf_any b W _ I2.out).mono ?_
  rintro e w3 ⟨rfl, rfl⟩
  go_wp2
  go_loopw [27] (fun i wr => ∃ k : Nat, k ≤ n ∧ i = .int .i64 k ∧ Below w2.heap.size w2 wr) (fun i _ => n - (intOf i).toNat)
  case atStart => exact ⟨0, Nat.zero_le _, rfl, Below.refl _ _⟩
  case round =>
    obtain ⟨k, hk, rfl, hB⟩ := hrel
    have B := Lib.hid hB
    clear hB
    by_cases hlt : k < n
    · have hk1 : k < rs1.length := by have := L1.out; omega
      have hk2 : k < rs2.length := by have := L2.out; omega
      have T1 := Lib.hid (Q1.out.below B.out)
      have T2 := Lib.hid (Q2.out.below B.out)
      obtain ⟨b1, o1, hA1, p1, p2⟩ := T1.out.at_ hk1
      obtain ⟨b2, o2, hA2, q1, q2⟩ := T2.out.at_ hk2
      subst hA1 hA2
      obtain ⟨hl1, ea1, ed1⟩ := pairs_get F1.out k hk1
      obtain ⟨hl2, ea2, ed2⟩ := pairs_get F2.out k hk2
      have D1 := T1.out.2 _ (List.getElem_mem hk1)
      have D2 := T2.out.2 _ (List.getElem_mem hk2)
      obtain ⟨d, hd⟩ : ∃ d, (runsW W)[k].2 = d := ⟨_, rfl⟩
      have hdl : d.length ≤ maxLen := by
        have := runs_mem_le (List.getElem_mem hl1)
        rw [hd] at this
        unfold maxLen; omega
      obtain ⟨r1, hr1⟩ : ∃ r, rs1[k] = r := ⟨_, rfl⟩
      obtain ⟨r2, hr2⟩ : ∃ r, rs2[k] = r := ⟨_, rfl⟩
      rw [hr1] at ea1 ed1 p1 p2 D1
      rw [hr2] at ea2 ed2 q1 q2 D2
      rw [hd] at ed1 ed2
      obtain ⟨x, hx⟩ : ∃ x : Int, (((runsW W)[k].1 : Nat) : Int) = x := ⟨_, rfl⟩
      rw [hx] at ea1 ea2
      rw [ea1] at p1
      rw [ea2] at q1
      rw [ed1] at p2 D1
      rw [ed2] at q2 D2
      have hlt' : (k : Int) < (n : Int) := by omega
      obtain ⟨ob, hob⟩ : ∃ o, Obj.cells #[.int .i64 x, .slice r1.A d.length r1.cap] 91 = o := ⟨_, rfl⟩
      have hal : Below wr.heap.size wr (wr.alloc ob) := (Below.refl _ _).alloc (Nat.le_refl _) ob
      have heq := fun nq => equalS_any _ _ r1.A r2.A r1.cap r2.cap d hdl ((wr.alloc ob).drewN nq) ((D1.below hal).drewN nq) ((D2.below hal).drewN nq)
      have BN := fun nq => Lib.hid (B.out.trans ((hal.trans (below_drewN (wr.alloc ob) nq |>.mono hal.size)).mono B.out.size))
      have hw1 := World.block_lt_of_cell? wr _ q1
      have q1' := (hal.cell (p := ⟨b2, o2 + k * 2, none⟩) hw1).trans q1
      have q2' := (hal.cell (p := ⟨b2, o2 + k * 2 + 1, none⟩) hw1).trans q2
      rw [← hob] at heq BN q1' q2'
      clear hr1 hr2 hx hd ea1 ea2 ed1 ed2 hl1 hl2 D1 D2 hk1 hk2 hdl hob hal hw1
      go_wp2_with fail
      go_quiet ((go_at_call 41; exact Calls.quiet_of (heq _)))
      go_wp2
      go_roundw
      case rel => exact ⟨k + 1, by omega, by go_num, (BN _).out⟩
      case measure => simp [intOf]; omega
    · have hlt' : decide ((k : Int) < (n : Int)) = false := decide_eq_false (by omega)
      have N := Lib.hid (BB.out.trans (B.out.mono BB.out.size))
      go_wp2
      go_ret
      exact ⟨rfl, N.out⟩
end Go.Proofs.YtmeegpdjhcilkaaDoor.Im
/-
  The walks over the law's alive and given.
-/
namespace Go.Proofs.YtmeegpdjhcilkaaDoor.Im
open Go.RowKit
set_option linter.unusedVariables false

theorem bytes_lit (w : World) (n : Nat) (hn : w.heap.size = n) (xs : List UInt8) (cs : Array Value) (hcs : cs = (xs.map u8V).toArray) (t : TypeId) : BytesP (fun i => i = n) (w.alloc (.cells cs t)) (some ⟨n, 0, none⟩) xs := by
  subst hn hcs
  refine .inr ⟨_, 0, rfl, rfl, fun j hj => ?_⟩
  rw [cell_of_row _ _ _ _ t (0, 0) (heap_alloc_new w _)]
  simp [u8V, List.getElem?_eq_getElem hj]
theorem put_lit (b : Nat) (W W' : List Cel) (n c : Int) (xs : List UInt8) (m : Nat) (hm : m = xs.length) (hl : xs.length ≤ 100) (hc : codeW W n xs = c) (hp : putW W n xs = W') (w : World) (k : Nat) (hk : w.heap.size = k) (hI : ImgOf w b W) (cs : Array Value) (hcs : cs = (xs.map u8V).toArray) (t : TypeId) :
    Calls Tryd.prog 29 #[.pointer (some ⟨b, 0, none⟩), .int .i64 n, .slice (some ⟨k, 0, none⟩) m m] (w.alloc (.cells cs t)) fun e w' => e = .returned (.int .i64 c) ∧ ImgOf w' b W' ∧ Keep b w w' := by
  subst hm hk hc hp
  have hal : Below w.heap.size w (w.alloc (.cells cs t)) := (Below.refl _ _).alloc (Nat.le_refl _) _
  have hb := hI.lt
  exact (put_any b W n _ (show ¬ (fun i => i = w.heap.size) b from fun h => by simp at h; omega) _ xs xs.length _ (by unfold maxLen; omega) (hI.below hal) (bytes_lit w _ rfl xs cs hcs t)).mono fun e w' ⟨h1, h2, h3⟩ => ⟨h1, h2, (Keep.of_below hal).trans h3⟩
/-- The call returns the runs as runs of the image. -/
def RetGiven (w : World) (rs : List R) (e : Ending) (w' : World) : Prop :=
  ∃ A cap, e = .returned (.slice A rs.length cap) ∧ rs.length ≤ cap ∧ RunsP (w.heap.size ≤ ·) (· < w.heap.size) w' A rs ∧ Below w.heap.size w w'
end Go.Proofs.YtmeegpdjhcilkaaDoor.Im
/-
  Runs that came in as an argument: opened.
-/
namespace Go.Proofs.YtmeegpdjhcilkaaDoor.Im
open Go.ChangeShapes Go.WideShapes Go.RowKit
set_option linter.unusedVariables false

theorem plain_of_cell {w : World} {a : Addr} {v : Value} (h : w.cell? (a.add 0) = some v) : ∃ b off, a = ⟨b, off, none⟩ := by
  obtain ⟨b, off, spot⟩ := a
  have hs : spot = none := by simpa [Addr.add] using World.cell?_spot h
  subst hs
  exact ⟨b, off, rfl⟩
theorem add_at (b off i j : Nat) : ((⟨b, off, none⟩ : Addr).add i).add j = ⟨b, off + i + j, none⟩ := by
  unfold Addr.add
  by_cases hi : i = 0 <;> by_cases hj : j = 0 <;> simp [hi, hj]
def toU8 (n : Int) : UInt8 := n.toNat.toUInt8
theorem toU8_nat {n : Int} (h : (Lit.int .u8 n).wf = true) : ((toU8 n).toNat : Int) = n := by
  have := bounds_u8 h
  unfold toU8
  rw [UInt8.toNat_ofNat_of_lt' (show n.toNat < 256 by omega)]
  omega
section
variable {H : Type} {enc : TypeId × Value → H} {w : World} {spare : Nat → Bool} {fuel : Nat}
set_option maxRecDepth 100000 in
theorem open_bytes {v : Value} {x : DataW H × List MemPlace} (h : DataW.trod enc Tryd.prog w 0 spare true fuel 59 [v] = some x) : ∃ A len cap xs, v = .slice A len cap ∧ len = xs.length ∧ len ≤ maxLen ∧ BytesP (fun _ => True) w A xs := by
  rcases open_ints Tryd.underlying59 Tryd.underlying5 (by kernel_rfl) h with ⟨hcs, _⟩ | ⟨a, l, c, zs, hcs, _, hl, hm, hz, _, hcell, hwz⟩
  · simp only [List.cons.injEq, and_true] at hcs
    subst hcs
    exact ⟨none, 0, 0, [], rfl, rfl, Nat.zero_le _, .inl rfl⟩
  · simp only [List.cons.injEq, and_true] at hcs
    subst hcs
    have hlz : l ≤ zs.length := by rw [hz]; split <;> omega
    refine ⟨some a, l, c, (zs.take l).map toU8, rfl, by simp; omega, by omega, ?_⟩
    by_cases h0 : l = 0
    · left; subst h0; simp
    · obtain ⟨b, off, rfl⟩ := plain_of_cell (hcell 0 (by omega))
      refine .inr ⟨b, off, rfl, trivial, fun j hj => ?_⟩
      have hj' : j < l := by simp at hj; omega
      have hjz : j < zs.length := by omega
      have e := hcell j hjz
      have hadd : (⟨b, off, none⟩ : Addr).add j = ⟨b, off + j, none⟩ := by unfold Addr.add; split <;> simp_all
      rw [hadd] at e
      rw [e]
      have hg : zs.getD j 0 = zs[j] := by simp [List.getD, List.getElem?_eq_getElem hjz]
      rw [hg]
      simp only [List.getElem_map, List.getElem_take]
      rw [toU8_nat (hwz _ (List.getElem_mem hjz))]
set_option maxRecDepth 100000 in
theorem open_run {cs : List Value} {x : DataW H × List MemPlace} (h : DataW.trod enc Tryd.prog w 0 spare true fuel 61 cs = some x) :
    ∃ r : R, cs = [.int .i64 r.addr, .slice r.A r.data.length r.cap] ∧ r.data.length ≤ maxLen ∧ BytesP (fun _ => True) w r.A r.data := by
  have hu := Tryd.underlying61
  obtain ⟨y0, y1, n, _, hl, h0, h1⟩ := trod_struct2 hu h
  have c30 : Tryd.prog.cellsOf 61 = 2 := by kernel_rfl
  have c3 : Tryd.prog.cellsOf 3 = 1 := by kernel_rfl
  have c28 : Tryd.prog.cellsOf 59 = 1 := by kernel_rfl
  rw [c30] at hl
  match cs, hl with
  | [c0, c1], _ =>
    simp only [c3, c28] at h0 h1
    obtain ⟨m, e0, _, _⟩ := DataW.trod_int Tryd.underlying3 h0
    have e0' : c0 = .int .i64 m := by simpa using e0
    have h1' : DataW.trod enc Tryd.prog w 0 spare true n 59 [c1] = some y1 := h1
    obtain ⟨A, len, cap, xs, e1, e2, e3, hb⟩ := open_bytes h1'
    subst e0' e1 e2
    exact ⟨⟨m, A, cap, xs⟩, rfl, e3, hb⟩
set_option maxRecDepth 100000 in
theorem open_runs {v : Value} {x : DataW H × List MemPlace} (h : DataW.trod enc Tryd.prog w 0 spare true fuel 22 [v] = some x) :
    ∃ A len cap rs, v = .slice A len cap ∧ len = rs.length ∧ len ≤ maxLen ∧ RunsP (fun _ => True) (fun _ => True) w A rs ∧ ∀ r ∈ rs, r.data.length ≤ maxLen := by
  rcases Deep.open_slice Tryd.underlying22 h with ⟨hcs, _⟩ | ⟨a, len, cap, m, n, D, Pl, hcs, _, hl, hm, hmm, _, hx⟩
  · simp only [List.cons.injEq, and_true] at hcs
    subst hcs
    exact ⟨none, 0, 0, [], rfl, rfl, Nat.zero_le _, ⟨.inl rfl, fun r hr => absurd hr List.not_mem_nil⟩, fun r hr => absurd hr List.not_mem_nil⟩
  · simp only [List.cons.injEq, and_true] at hcs
    subst hcs
    have hlm : len ≤ m := by rw [hmm]; split <;> omega
    have c30 : Tryd.prog.cellsOf 61 = 2 := by kernel_rfl
    have hall : ∀ i, i < len → ∃ r : R, w.cells? 0 (a.add (i * 2)) 2 = some [.int .i64 r.addr, .slice r.A r.data.length r.cap] ∧ r.data.length ≤ maxLen ∧ BytesP (fun _ => True) w r.A r.data := fun i hi => by
      obtain ⟨cs, h1, h2⟩ := hx i (by omega)
      rw [c30] at h1
      obtain ⟨r, e, h3, h4⟩ := open_run h2
      rw [e] at h1
      exact ⟨r, h1, h3, h4⟩
    obtain ⟨f, hf⟩ := Deep.choose_lt hall
    refine ⟨some a, len, cap, (List.range len).map f, rfl, by simp, by omega, ⟨?_, ?_⟩, ?_⟩
    · by_cases h0 : len = 0
      · left; subst h0; simp
      · obtain ⟨q1, _⟩ := hf 0 (by omega)
        have e0 := (World.cells?_some q1).2.2 0 (by omega)
        simp only [Nat.zero_mul] at e0
        have e0' : w.cell? (a.add 0) = some (.int .i64 (f 0).addr) := by
          have hz : (a.add 0).add 0 = a.add 0 := by simp [Addr.add]
          rw [hz] at e0; exact e0
        obtain ⟨b, off, rfl⟩ := plain_of_cell e0'
        refine .inr ⟨b, off, rfl, trivial, fun j hj => ?_⟩
        have hj' : j < len := by simpa using hj
        obtain ⟨q1, _⟩ := hf j hj'
        have e1 := (World.cells?_some q1).2.2 0 (by omega)
        have e2 := (World.cells?_some q1).2.2 1 (by omega)
        rw [add_at] at e1 e2
        simp only [List.getElem_map, List.getElem_range]
        exact ⟨e1, e2⟩
    · intro r hr
      obtain ⟨i, hi, rfl⟩ := List.mem_map.1 hr
      exact (hf i (List.mem_range.1 hi)).2.2
    · intro r hr
      obtain ⟨i, hi, rfl⟩ := List.mem_map.1 hr
      exact (hf i (List.mem_range.1 hi)).2.1
end

set_option maxHeartbeats 400000 in
/-- Few, at more than 60 runs. -/
theorem few_big (S P : Nat → Prop) (A : Option Addr) (cap : Nat) (rs : List R) (hl : rs.length ≤ maxLen) (h60 : 60 < rs.length) (w : World) (hW : RunsP S P w A rs) (hd : ∀ r ∈ rs, r.data.length ≤ maxLen) :
    Calls Tryd.prog 9 #[.slice A rs.length cap] w fun e w' => e = .returned (.bool false) ∧ w = w' := by
  unfold maxLen at hl
  have Z := Lib.hid hW
  have HD := Lib.hid hd
  have H6 := Lib.hid h60
  clear hW hd h60
  go_enter Tryd.func9, Tryd.ntmps9
  go_wp2
  go_loop [3, 4] (fun n i => ∃ (k : Nat) (m : Int), k ≤ rs.length ∧ i = .int .i64 k ∧ n = .int .i64 m) (fun _ i => rs.length - (intOf i).toNat)
  case atStart => exact ⟨0, 0, Nat.zero_le _, rfl, rfl⟩
  case round =>
    obtain ⟨k, m, hk, rfl, rfl⟩ := hrel
    by_cases hlt : k < rs.length
    · obtain ⟨b, off, hA, g1, g2⟩ := Z.out.at_ hlt
      subst hA
      have hdk := HD.out _ (List.getElem_mem hlt)
      obtain ⟨x, hx⟩ : ∃ x : Nat, rs[k].data.length = x := ⟨_, rfl⟩
      rw [hx] at g2 hdk
      unfold maxLen at hdk
      clear hx g1
      have hlt' : (k : Int) < (rs.length : Int) := by omega
      go_wp2
      go_round
      case rel => exact ⟨k + 1, _, by omega, by go_num, rfl⟩
      case measure => simp [intOf]; omega
    · have hlt' : decide ((k : Int) < (rs.length : Int)) = false := decide_eq_false (by omega)
      have h60' : decide ((rs.length : Int) ≤ 60) = false := decide_eq_false (by have := H6.out; omega)
      go_wp2
      go_ret
      exact ⟨rfl, rfl⟩
/-- Few. -/
theorem fewAll_any (S P : Nat → Prop) (A : Option Addr) (cap : Nat) (rs : List R) (hl : rs.length ≤ maxLen) (w : World) (hW : RunsP S P w A rs) (hd : ∀ r ∈ rs, r.data.length ≤ maxLen) :
    Calls Tryd.prog 9 #[.slice A rs.length cap] w fun e w' => e = .returned (.bool (fewB rs)) ∧ w = w' := by
  by_cases h : rs.length ≤ 60
  · exact few_any S P A cap rs (by omega) w hW hd
  · have e : fewB rs = false := by unfold fewB; rw [decide_eq_false h]; rfl
    rw [e]
    exact few_big S P A cap rs hl (by omega) w hW hd
theorem few_len {rs : List R} (h : fewB rs = true) : rs.length ≤ 60 := by
  unfold fewB at h
  rw [Bool.and_eq_true, decide_eq_true_eq] at h
  exact h.1
end Go.Proofs.YtmeegpdjhcilkaaDoor.Im
/-
  Runs that are put in one after the other: when that succeeds, and what it makes. No program.
-/
namespace Go.Proofs.YtmeegpdjhcilkaaDoor.Im
open Go.RowKit
set_option linter.unusedVariables false

def inR (r : R) (i : Nat) : Prop := r.addr.toNat ≤ i ∧ i < r.addr.toNat + r.data.length
def okR (r : R) : Prop := 0 ≤ r.addr ∧ r.addr < 65536 ∧ r.addr.toNat + r.data.length ≤ 65536
theorem code_iff {W : List Cel} {n : Int} {xs : List UInt8} : codeW W n xs = 0 ↔ (0 ≤ n ∧ n < 65536 ∧ n.toNat + xs.length ≤ 65536) ∧ ∀ c ∈ W, ¬ (n.toNat ≤ c.1 ∧ c.1 < n.toNat + xs.length) := by
  constructor
  · intro h
    obtain ⟨h1, h2, h3, h4⟩ := code_zero h
    refine ⟨⟨h1, h2, h3⟩, fun c hc hh => ?_⟩
    rw [anyB_hasW.2 ⟨c, hc, hh.1, hh.2⟩] at h4
    cases h4
  · rintro ⟨⟨h1, h2, h3⟩, h4⟩
    have ha : addrB n = true := by unfold addrB; rw [decide_eq_true h1, decide_eq_true h2]; rfl
    have hy : anyB (fun j => hasW W (n.toNat + j)) xs.length = false := by
      cases hy : anyB (fun j => hasW W (n.toNat + j)) xs.length
      · rfl
      · obtain ⟨c, hc, q1, q2⟩ := anyB_hasW.1 hy
        exact absurd ⟨q1, q2⟩ (h4 c hc)
    unfold codeW putE
    rw [if_neg (by rw [ha]; decide), if_neg (by omega), hy]
    rfl
theorem ofW_fail (W : List Cel) (l : List R) (h : (ofW W l).2 ≠ 0) : (ofW W l).1 = [] := by
  induction l generalizing W with
  | nil => exact absurd rfl h
  | cons r t ih =>
    simp only [ofW] at h ⊢
    by_cases hc : codeW W r.addr r.data = 0
    · rw [if_pos hc] at h ⊢; exact ih _ h
    · rw [if_neg hc]
theorem putW_mem {W : List Cel} {n : Int} {xs : List UInt8} (h : codeW W n xs = 0) (c : Cel) : c ∈ putW W n xs ↔ c ∈ W ∨ c ∈ mkW n.toNat xs := by
  unfold putW; rw [if_pos h]; exact mem_insW
theorem of_iff (V : List Cel) (l : List R) : (ofW V l).2 = 0 ↔ (∀ r ∈ l, okR r) ∧ (∀ r ∈ l, ∀ c ∈ V, ¬ inR r c.1) ∧ l.Pairwise (fun r s => ∀ i, inR r i → ¬ inR s i) := by
  induction l generalizing V with
  | nil => simp [ofW]
  | cons r t ih =>
    simp only [ofW]
    by_cases hc : codeW V r.addr r.data = 0
    · rw [if_pos hc, ih (putW V r.addr r.data), List.pairwise_cons]
      obtain ⟨h1, h2⟩ := code_iff.1 hc
      constructor
      · rintro ⟨q1, q2, q3⟩
        refine ⟨fun s hs => ?_, fun s hs c hc' => ?_, fun s hs i hi hi' => ?_, q3⟩
        · rcases List.mem_cons.1 hs with rfl | hs
          · exact h1
          · exact q1 s hs
        · rcases List.mem_cons.1 hs with rfl | hs
          · exact h2 c hc'
          · exact q2 s hs c ((putW_mem hc c).2 (.inl hc'))
        · exact q2 s hs (i, r.data.getD (i - r.addr.toNat) 0) ((putW_mem hc _).2 (.inr (mkW_mem.2 ⟨hi.1, hi.2, rfl⟩))) hi'
      · rintro ⟨q1, q2, q3, q4⟩
        refine ⟨fun s hs => q1 s (List.mem_cons_of_mem _ hs), fun s hs c hc' => ?_, q4⟩
        rcases (putW_mem hc c).1 hc' with h | h
        · exact q2 s (List.mem_cons_of_mem _ hs) c h
        · have := mkW_mem.1 h
          exact q3 s hs c.1 ⟨this.1, this.2.1⟩
    · rw [if_neg hc]
      constructor
      · intro h; exact absurd h hc
      · rintro ⟨q1, q2, _⟩
        exact absurd (code_iff.2 ⟨q1 r List.mem_cons_self, q2 r List.mem_cons_self⟩) hc
theorem of_mem (V : List Cel) (l : List R) (h : (ofW V l).2 = 0) (c : Cel) : c ∈ (ofW V l).1 ↔ c ∈ V ∨ ∃ r ∈ l, c ∈ mkW r.addr.toNat r.data := by
  induction l generalizing V with
  | nil => simp [ofW]
  | cons r t ih =>
    simp only [ofW] at h ⊢
    by_cases hc : codeW V r.addr r.data = 0
    · rw [if_pos hc] at h ⊢
      rw [ih _ h, putW_mem hc]
      constructor
      · rintro ((h | h) | ⟨s, hs, h⟩)
        · exact .inl h
        · exact .inr ⟨r, List.mem_cons_self, h⟩
        · exact .inr ⟨s, List.mem_cons_of_mem _ hs, h⟩
      · rintro (hm | ⟨s, hs, hm⟩)
        · exact .inl (.inl hm)
        · rcases List.mem_cons.1 hs with e | hs
          · rw [e] at hm; exact .inl (.inr hm)
          · exact .inr ⟨s, hs, hm⟩
    · rw [if_neg hc] at h; exact absurd h hc
theorem of_reverse (rs : List R) : ((ofW [] rs.reverse).2 = 0 ↔ (ofW [] rs).2 = 0) ∧ ((ofW [] rs).2 = 0 → (ofW [] rs.reverse).1 = (ofW [] rs).1) := by
  have e : (ofW [] rs.reverse).2 = 0 ↔ (ofW [] rs).2 = 0 := by
    rw [of_iff, of_iff, List.pairwise_reverse]
    constructor
    · rintro ⟨q1, q2, q3⟩
      exact ⟨fun r hr => q1 r (List.mem_reverse.2 hr), fun r hr c hc => absurd hc List.not_mem_nil, q3.imp fun h i hi hi' => h i hi' hi⟩
    · rintro ⟨q1, q2, q3⟩
      exact ⟨fun r hr => q1 r (List.mem_reverse.1 hr), fun r hr c hc => absurd hc List.not_mem_nil, q3.imp fun h i hi hi' => h i hi' hi⟩
  refine ⟨e, fun h => sorted_ext (ofW_sorted _ _ sorted_nil).1 (ofW_sorted _ _ sorted_nil).1 fun c => ?_⟩
  rw [of_mem _ _ (e.2 h), of_mem _ _ h]
  simp only [List.mem_reverse]
/-- Of inverts Runs. -/
theorem of_runs {W : List Cel} (hs : SortedW W) {rs : List R} (h : pairs rs = pairN (runsW W)) : ofW [] rs = (W, 0) := by
  have hmem : ∀ c, (∃ r ∈ rs, c ∈ mkW r.addr.toNat r.data) ↔ c ∈ W := fun c => by
    conv => rhs; rw [← expand_runs W]
    unfold expand
    rw [List.mem_flatMap]
    constructor
    · rintro ⟨r, hr, hc⟩
      obtain ⟨k, hk, rfl⟩ := List.mem_iff_getElem.1 hr
      obtain ⟨hl, e1, e2⟩ := pairs_get h k hk
      refine ⟨_, List.getElem_mem hl, ?_⟩
      rw [e1, e2] at hc
      simpa using hc
    · rintro ⟨r, hr, hc⟩
      obtain ⟨k, hk, rfl⟩ := List.mem_iff_getElem.1 hr
      have hk' : k < rs.length := by rw [pairs_length h]; exact hk
      obtain ⟨hl, e1, e2⟩ := pairs_get h k hk'
      refine ⟨_, List.getElem_mem hk', ?_⟩
      rw [e1, e2]
      simpa using hc
  have hcan := canon_runs hs.1
  have hne : ∀ r ∈ rs, r.data ≠ [] ∧ 0 ≤ r.addr := fun r hr => by
    obtain ⟨k, hk, rfl⟩ := List.mem_iff_getElem.1 hr
    obtain ⟨hl, e1, e2⟩ := pairs_get h k hk
    exact ⟨by rw [e2]; exact hcan.1 _ (List.getElem_mem hl), by rw [e1]; omega⟩
  have hin : ∀ r ∈ rs, ∀ i, inR r i → i < 65536 := fun r hr i hi => hs.2 (i, r.data.getD (i - r.addr.toNat) 0) ((hmem _).1 ⟨r, hr, mkW_mem.2 ⟨hi.1, hi.2, rfl⟩⟩)
  have hz : (ofW [] rs).2 = 0 := by
    rw [of_iff]
    refine ⟨fun r hr => ?_, fun r hr c hc => absurd hc List.not_mem_nil, ?_⟩
    · obtain ⟨q1, q2⟩ := hne r hr
      have hpos := List.length_pos_iff.2 q1
      have a1 := hin r hr r.addr.toNat ⟨Nat.le_refl _, by omega⟩
      have a2 := hin r hr (r.addr.toNat + (r.data.length - 1)) ⟨by omega, by omega⟩
      exact ⟨q2, by omega, by omega⟩
    · rw [List.pairwise_iff_getElem]
      intro i j hi hj hij k hk hk'
      obtain ⟨li, e1, e2⟩ := pairs_get h i hi
      obtain ⟨lj, e3, e4⟩ := pairs_get h j hj
      have hlt : ∀ (d j : Nat) (hj : j < (runsW W).length), i + d + 1 = j → (runsW W)[i].1 + (runsW W)[i].2.length < (runsW W)[j].1 := by
        intro d
        induction d with
        | zero =>
          intro j hj e
          subst e
          exact hcan.2 i hj
        | succ d ih =>
          intro j hj e
          have h1 := ih (i + d + 1) (by omega) rfl
          have h2 := hcan.2 (i + d + 1) (by omega)
          have e' : i + d + 1 + 1 = j := by omega
          subst e'
          omega
      have := hlt (j - i - 1) j lj (by omega)
      unfold inR at hk hk'
      rw [e1, e2] at hk
      rw [e3, e4] at hk'
      simp only [Int.toNat_natCast] at hk hk'
      omega
  have hW : (ofW [] rs).1 = W := sorted_ext (ofW_sorted _ _ sorted_nil).1 hs.1 fun c => by
    rw [of_mem _ _ hz, ← hmem c]
    simp
  exact Prod.ext hW hz
end Go.Proofs.YtmeegpdjhcilkaaDoor.Im
/-
  The walk over slices.Reverse at a row of runs of the call's own.
-/
namespace Go.Proofs.YtmeegpdjhcilkaaDoor.Im
open Go.RowKit
set_option linter.unusedVariables false

theorem OwnR.at_ {e : TypeId} {P : Nat → Prop} {w wr : World} {v : Value} {rs : List R} (h : OwnR e P w wr v rs) (hn : 0 < rs.length) : ∃ g cap, v = .slice (some ⟨g, 0, none⟩) rs.length cap ∧ w.heap.size ≤ g ∧
    ∀ k (hk : k < rs.length), wr.cell? ⟨g, k * 2, none⟩ = some (.int .i64 rs[k].addr) ∧ wr.cell? ⟨g, k * 2 + 1, none⟩ = some (.slice rs[k].A rs[k].data.length rs[k].cap) ∧ wr.frozen? ⟨g, k * 2, none⟩ = false ∧ wr.frozen? ⟨g, k * 2 + 1, none⟩ = false := by
  rcases h.1.2 with ⟨_, h0⟩ | ⟨g, cap, cur, rfl, hb, hg, _⟩
  · omega
  · refine ⟨g, cap, rfl, hb, fun k hk => ?_⟩
    obtain ⟨h1, h2⟩ := runsV_get rs k hk
    rw [h.1.cellAt (k * 2) (by omega), h.1.cellAt (k * 2 + 1) (by omega)]
    exact ⟨h1, h2, frozen_of_row wr g _ cur _ hg, frozen_of_row wr g _ cur _ hg⟩
theorem runsV_setAt (l : List R) (i : Nat) (r : R) (hi : i < l.length) : ((runsV l).set (i * 2) (.int .i64 r.addr)).set (i * 2 + 1) (.slice r.A r.data.length r.cap) = runsV (l.set i r) := by
  induction l generalizing i with
  | nil => simp at hi
  | cons c t ih =>
    have e : ∀ (c : R) (t : List R), runsV (c :: t) = .int .i64 c.addr :: .slice c.A c.data.length c.cap :: runsV t := fun _ _ => rfl
    cases i with
    | zero =>
      show _ = runsV (r :: t)
      rw [e, e]
      rfl
    | succ i =>
      rw [e, List.set_cons_succ, e, ← ih i (by simpa using hi), show (i + 1) * 2 = i * 2 + 1 + 1 by omega]
      simp only [List.set_cons_succ]
theorem OwnR.set {e : TypeId} {P : Nat → Prop} {w wr : World} {g n cap : Nat} {rs : List R} (h : OwnR e P w wr (.slice (some ⟨g, 0, none⟩) n cap) rs) (hn : n = rs.length) (i : Nat) (hi : i < rs.length) (r : R) (hr : BytesP (fun i => P i ∧ some i ≠ some g) wr r.A r.data) :
    OwnR e P w ((wr.setCell ⟨g, i * 2, none⟩ (.int .i64 r.addr)).setCell ⟨g, i * 2 + 1, none⟩ (.slice r.A r.data.length r.cap)) (.slice (some ⟨g, 0, none⟩) n cap) (rs.set i r) := by
  subst hn
  obtain ⟨s1, g1⟩ := h.1.stored (i * 2) (.int .i64 r.addr)
  obtain ⟨s2, g2⟩ := s1.stored (i * 2 + 1) (.slice r.A r.data.length r.cap)
  have hg := (h.1.lt g rfl).1
  refine ⟨?_, (h.2.1.setCell hg _).setCell hg _, fun q hq => ?_⟩
  · rw [runsV_setAt rs i r hi] at s2
    rw [List.length_set]
    exact s2
  · have q0 : BytesP (fun i => P i ∧ some i ≠ some g) wr q.A q.data := by
      rcases List.mem_or_eq_of_mem_set hq with hq | hq
      · exact h.2.2 q hq
      · rw [hq]; exact hr
    refine q0.blocks fun k _ hk => ?_
    have hkg : k ≠ g := fun e => hk.2 (by rw [e])
    rw [Below.heap_setCell _ _ _ _ hkg, Below.heap_setCell _ _ _ _ hkg]
/-- The first and the last k exchanged. -/
def revK (rs : List R) (k : Nat) : List R := (List.range rs.length).map fun t => if t < k ∨ rs.length - k ≤ t then rs.getD (rs.length - 1 - t) default else rs.getD t default
theorem revK_length (rs : List R) (k : Nat) : (revK rs k).length = rs.length := by unfold revK; simp
theorem revK_get (rs : List R) (k t : Nat) (h : t < rs.length) : (revK rs k)[t]'(by rw [revK_length]; exact h) = if t < k ∨ rs.length - k ≤ t then rs.getD (rs.length - 1 - t) default else rs.getD t default := by
  unfold revK; rw [List.getElem_map, List.getElem_range]
theorem revK_zero (rs : List R) : revK rs 0 = rs := by
  apply List.ext_getElem (revK_length rs 0)
  intro t h1 h2
  rw [revK_get rs 0 t h2, if_neg (by omega)]
  simp [List.getD_eq_getElem?_getD, List.getElem?_eq_getElem h2]
theorem revK_end (rs : List R) (k : Nat) (h : rs.length ≤ 2 * k + 1) : revK rs k = rs.reverse := by
  apply List.ext_getElem (by rw [revK_length, List.length_reverse])
  intro t h1 h2
  rw [revK_length] at h1
  rw [revK_get rs k t h1, List.getElem_reverse]
  have hb : rs.length - 1 - t < rs.length := by omega
  by_cases hc : t < k ∨ rs.length - k ≤ t
  · rw [if_pos hc]; simp [List.getD_eq_getElem?_getD, List.getElem?_eq_getElem hb]
  · rw [if_neg hc]
    have : rs.length - 1 - t = t := by omega
    simp [List.getD_eq_getElem?_getD, List.getElem?_eq_getElem h1, this]
theorem revK_mem (rs : List R) (k : Nat) : ∀ r ∈ revK rs k, r ∈ rs := by
  intro r hr
  obtain ⟨t, ht, rfl⟩ := List.mem_iff_getElem.1 hr
  rw [revK_length] at ht
  rw [revK_get rs k t ht]
  have hb : rs.length - 1 - t < rs.length := by omega
  split
  · simp [List.getD_eq_getElem?_getD, List.getElem?_eq_getElem hb]
  · simp [List.getD_eq_getElem?_getD, List.getElem?_eq_getElem ht]
theorem revK_next (rs : List R) (k : Nat) (h : 2 * k + 1 < rs.length) (r1 r2 : R) (h1 : r1 = (revK rs k)[k]'(by rw [revK_length]; omega)) (h2 : r2 = (revK rs k)[rs.length - 1 - k]'(by rw [revK_length]; omega)) :
    ((revK rs k).set k r2).set (rs.length - 1 - k) r1 = revK rs (k + 1) := by
  apply List.ext_getElem (by simp [revK_length])
  intro t ha hb
  rw [revK_length] at hb
  rw [revK_get rs (k + 1) t hb, List.getElem_set]
  by_cases e1 : rs.length - 1 - k = t
  · rw [if_pos e1, h1, revK_get rs k k (by omega), if_neg (by omega), if_pos (by omega)]
    rw [← e1, show rs.length - 1 - (rs.length - 1 - k) = k by omega]
  · rw [if_neg e1, List.getElem_set]
    by_cases e2 : k = t
    · rw [if_pos e2, h2, revK_get rs k _ (by omega), if_neg (by omega), if_pos (by omega), e2]
    · rw [if_neg e2, revK_get rs k t hb]
      by_cases hc : t < k ∨ rs.length - k ≤ t
      · rw [if_pos hc, if_pos (by omega)]
      · rw [if_neg hc, if_neg (by omega)]

end Go.Proofs.YtmeegpdjhcilkaaDoor.Im
/-
  A pair of lists of runs that came in, opened; the walk over breadboardref02.Same.
-/
namespace Go.Proofs.YtmeegpdjhcilkaaDoor.Im
open Go.ChangeShapes Go.WideShapes Go.RowKit
set_option linter.unusedVariables false

section
variable {H : Type} {enc : TypeId × Value → H} {w : World} {spare : Nat → Bool} {fuel : Nat}
end

theorem beq_byte2 (a b : UInt8) : ((a.toNat : Int) == (b.toNat : Int)) = decide (a = b) := beq_byte a b
end Go.Proofs.YtmeegpdjhcilkaaDoor.Im
/-
  The walks over slices.Clone and (*image.Image).Runs once more: the bytes of what they return may be written.
-/
namespace Go.Proofs.YtmeegpdjhcilkaaDoor.Im
open Go.RowKit
set_option linter.unusedVariables false

/-- The bytes lie in a block that may be written. -/
def Wr (w : World) (A : Option Addr) (xs : List UInt8) : Prop := xs = [] ∨ ∃ (b off : Nat) (cs : Array Value) (t : {t : TypeId // t = 5}), A = some ⟨b, off, none⟩ ∧ w.heap[b]? = some (.cells cs t.1 (0, 0))
theorem Wr.below {w w' : World} {A : Option Addr} {xs : List UInt8} (h : Wr w A xs) (k : Below w.heap.size w w') : Wr w' A xs := by
  rcases h with h | ⟨b, off, cs, t, h1, h2⟩
  · exact .inl h
  · exact .inr ⟨b, off, cs, t, h1, (k.block b (Array.getElem?_eq_some_iff.1 h2).1).trans h2⟩
theorem Wr.grown {w w' : World} {A : Option Addr} {xs : List UInt8} {row : Option Nat} {P : Nat → Prop} (h : Wr w A xs) (hb : BytesP (fun i => P i ∧ some i ≠ row) w A xs) (k : w.grownBy w' row) : Wr w' A xs := by
  rcases h with h | ⟨b, off, cs, t, h1, h2⟩
  · exact .inl h
  · rcases hb with h | ⟨b', off', h3, h4, _⟩
    · exact .inl h
    · rw [h1] at h3
      simp only [Option.some.injEq, Addr.mk.injEq, and_true] at h3
      obtain ⟨rfl, rfl⟩ := h3
      exact .inr ⟨b, off, cs, t, h1, (k.block b (Array.getElem?_eq_some_iff.1 h2).1 h4.2).trans h2⟩
theorem own_wr {w : World} {base : Nat} {n cap : Nat} {A : Option Addr} {xs : List UInt8} (h : w.ownsRow base 5 1 (.slice A n cap) n (xs.map u8V)) : Wr w A xs := by
  rcases h.2 with ⟨h1, h0⟩ | ⟨g, cap', cur, h1, _, hg, _⟩
  · have := h.1
    rw [h0] at this
    left
    exact List.map_eq_nil_iff.1 (List.eq_nil_of_length_eq_zero (by omega))
  · simp only [Value.slice.injEq, true_and] at h1
    obtain ⟨rfl, rfl⟩ := h1
    exact .inr ⟨g, 0, cur, ⟨_, rfl⟩, rfl, hg⟩
/-- The call returns a slice that reads as xs, in new memory that may be written. -/
def RetBW (w : World) (xs : List UInt8) (e : Ending) (w' : World) : Prop := ∃ A cap, e = .returned (.slice A xs.length cap) ∧ BytesP (w.heap.size ≤ ·) w' A xs ∧ Wr w' A xs ∧ Below w.heap.size w w' ∧ xs.length ≤ cap
theorem own_cap {w : World} {base : Nat} {e : TypeId} {n s cap : Nat} {A : Option Addr} {xs : List Value} (h : w.ownsRow base e s (.slice A n cap) n xs) : n ≤ cap := by
  rcases h.2 with ⟨h1, h0⟩ | ⟨g, cap', cur, h1, _, _, hc, _⟩
  · omega
  · simp only [Value.slice.injEq, true_and] at h1
    omega
set_option maxHeartbeats 1000000 in
theorem cloneW_any (P : Nat → Prop) (A : Option Addr) (cap : Nat) (xs : List UInt8) (hl : xs.length ≤ 70368744177664) (w : World) (hx : BytesP P w A xs) :
    Calls Tryd.prog 78 #[.slice A xs.length cap] w (RetBW w xs) := by
  cases A with
  | none =>
    obtain rfl : xs = [] := by
      rcases hx with h | ⟨b, off, h, _⟩
      · exact h
      · cases h
    clear hx
    have hnil := fun w => Lib.run_eql_slice_nil (P := Tryd.prog) w 59 5 none 0 cap 0 0 Tryd.underlying59
    go_enter Tryd.func78, Tryd.ntmps78
    go_wp2
    go_ret
    exact ⟨none, 0, rfl, .inl rfl, .inl rfl, Below.refl _ _, Nat.le_refl _⟩
  | some a =>
    obtain ⟨i0, hi, hz0, hz1, hz2⟩ := info_parts info_u8
    have hb : Below w.heap.size w (w.alloc (.cells #[] 5)) := (Below.refl _ _).alloc (Nat.le_refl _) _
    have hown := World.ownsRow_made (base := w.heap.size) (e := 5) (size := 1) w #[] 0 (Nat.le_refl _) (by unfold maxLen; omega) rfl
    obtain ⟨v', w', k1, k2, k3⟩ := run_append_src (w.alloc (.cells #[] 5)) w.heap.size 59 59 5 i0 _ 1 1 Tryd.underlying59 hi hz0 hz1 hz2 rfl (by decide) _ 0 [] hown (some a) xs.length cap (xs.map u8V)
      (by simp) (hx.below hb).news (fun u hu => by obtain ⟨x, _, rfl⟩ := List.mem_map.1 hu; rfl) (by unfold maxLen; omega) (by omega) (by simp)
    have N : Hid (RetBW w xs (.returned v') w') := by
      rw [List.nil_append, Nat.zero_add] at k2
      obtain ⟨A', cap', hv, hB⟩ := own_bytes k2 rfl
      subst hv
      exact ⟨A', cap', rfl, hB.mono fun i _ hi => hi.1, own_wr k2, hb.grown k3 (by simp) fun k hk => (hown.lt k hk).1, own_cap k2⟩
    have K := Lib.hid k1
    clear hx hb hown k1 k2 k3 hi hz0 hz1 hz2
    go_enter Tryd.func78, Tryd.ntmps78
    have hnil := fun w => Lib.run_eql_slice_nil (P := Tryd.prog) w 59 5 (some a) xs.length cap 0 0 Tryd.underlying59
    go_wp2_with (at_builtin; refine wpList_run_append K.out rfl _ _ rfl rfl rfl rfl ?_)
    go_ret
    exact N.out
set_option maxHeartbeats 2000000 in
theorem runsW_any (b : Nat) (W : List Cel) (w : World) (hI : ImgOf w b W) : Calls Tryd.prog 39 #[.pointer (some ⟨b, 0, none⟩)] w fun e w' => ∃ v rs, e = .returned v ∧ OwnR 91 (w.heap.size ≤ ·) w w' v rs ∧ pairs rs = pairN (runsW W) ∧ ∀ r ∈ rs, Wr w' r.A r.data ∧ r.data.length ≤ r.cap := by
  have I := Lib.hid hI
  clear hI
  go_enter Tryd.func39, Tryd.ntmps39
  go_wp2_with fail
  refine (next_any b _ _ _ 0 (by omega) true _ I.out.2).mono ?_
  rintro e w1 ⟨⟨k0, rfl, hk0⟩, rfl⟩
  have K0 := Lib.hid hk0
  clear hk0
  go_wp2
  go_loopw [3, 4] (fun v i wr => ∃ (k : Nat) (rs : List R), k ≤ 65536 ∧ i = .int .i64 k ∧ OwnR 91 (w.heap.size ≤ ·) w wr v rs ∧ Hid (∀ r ∈ rs, Wr wr r.A r.data ∧ r.data.length ≤ r.cap) ∧ Hid (pairs rs = pairN (runsW (below W k))) ∧ Hid (k < 65536 → hasW W k = true ∧ ∀ c ∈ W, c.1 + 1 ≠ k)) (fun _ i _ => 65536 - (intOf i).toNat)
  case atStart => exact ⟨k0, [], K0.out.2.1, rfl, ownR_start _ _ _, fun r hr => absurd hr List.not_mem_nil, by show pairs [] = _; rw [below_first K0.out]; rfl, fun h => ⟨K0.out.2.2.2 h, gap_first K0.out⟩⟩
  case round =>
    obtain ⟨k, rs, hk, rfl, hO, FW, E, G⟩ := hrel
    have O := Lib.hid hO
    clear hO
    by_cases hlt : k < 65536
    · have hlt' : (k : Int) < 65536 := by omega
      have I2 := Lib.hid (I.out.below O.out.2.1)
      go_wp2_with fail
      refine (next_any b _ _ _ k hk false _ I2.out.2).mono ?_
      rintro e w1 ⟨⟨e, rfl, he⟩, rfl⟩
      have hke : k < e := by
        rcases Nat.lt_or_ge k e with h | h
        · exact h
        · have h1 := he.1
          have h2 : e = k := by omega
          have h3 := he.2.2.2 (by omega)
          rw [h2, (G.out hlt).1] at h3
          cases h3
      have he2 := he.2.1
      have KE := Lib.hid he
      clear he
      have hsl := fun w => slice_blh b k e hlt (by omega) he2 w
      have hcl := cloneW_any _ _ (65536 - k) (segB W k e) (by rw [segB_length]; omega) wr (seg_bytes I2.out k e he2)
      rw [segB_length] at hcl
      have hrs : rs.length ≤ 65536 := by
        rw [pairs_length E.out]
        refine Nat.le_trans (runs_length_le _) (Nat.le_trans (List.length_filter_le _ _) (sorted_length I.out.1))
      go_wp2_with fail
      refine hcl.mono ?_
      rintro x w2 ⟨A1, cap1, rfl, hB1, hF1, hb1, hc1⟩
      obtain ⟨ob, hob⟩ : ∃ o, Obj.cells #[.int .i64 (k : Int), .slice A1 (segB W k e).length cap1] 91 = o := ⟨_, rfl⟩
      have hal : Below w2.heap.size w2 (w2.alloc ob) := (Below.refl _ _).alloc (Nat.le_refl _) ob
      have hO2 := (O.out.below hb1).alloc ob
      have hD2 : BytesP (fun i => w.heap.size ≤ i ∧ some i ≠ u3.ownBlock) (w2.alloc ob) A1 (segB W k e) := (hB1.below hal).mono fun i _ hi => ⟨Nat.le_trans O.out.2.1.size hi, fun h => by
        have := (O.out.1.lt i h.symm).2
        omega⟩
      have hF2 : ∀ r ∈ rs, Wr (w2.alloc ob) r.A r.data ∧ r.data.length ≤ r.cap := fun r hr => ⟨((FW.out r hr).1.below hb1).below hal, (FW.out r hr).2⟩
      have hF3 : Wr (w2.alloc ob) A1 (segB W k e) ∧ (segB W k e).length ≤ cap1 := ⟨hF1.below hal, hc1⟩
      rw [← hob] at hO2 hD2 hF2 hF3
      have F2 := Lib.hid hF2
      have F3 := Lib.hid hF3
      have O2 := Lib.hid hO2
      have D2 := Lib.hid hD2
      have S2 := Lib.hid hrs
      have HE := Lib.hid (And.intro hke (And.intro he2 hlt))
      clear hcl hob hal hO2 hD2 hF2 hF3 hF1 hB1 hb1 hc1 hrs hsl hke he2 hlt' hlt
      go_wp2_with (at_builtin; (refine wpList_appR 88 91 Tryd.underlying88 info_irun O2.out ⟨(k : Int), A1, cap1, segB W k e⟩ ⟨w2.heap.size, 0, none⟩ 1 (by simp [go_sem, Addr.add]) (by simp [go_sem, Addr.add]) D2.out (Nat.le_trans S2.out (by omega)) rfl _ _ rfl rfl rfl ?_))
      intro v' w4 hO4 hgr _
      have F4 : Hid (∀ r ∈ rs ++ [(⟨(k : Int), A1, cap1, segB W k e⟩ : R)], Wr w4 r.A r.data ∧ r.data.length ≤ r.cap) := fun r hr => by
        rcases List.mem_append.1 hr with hr | hr
        · exact ⟨(F2.out r hr).1.grown (O2.out.2.2 r hr) hgr, (F2.out r hr).2⟩
        · rw [List.mem_singleton.1 hr]; exact ⟨F3.out.1.grown D2.out hgr, F3.out.2⟩
      clear hgr
      have O4 := Lib.hid hO4
      have I4 := Lib.hid (I.out.below hO4.2.1)
      clear hO4
      go_wp2_with fail
      refine (next_any b _ _ _ e HE.out.2.1 true _ I4.out.2).mono ?_
      rintro x w5 ⟨⟨k', rfl, hk'⟩, rfl⟩
      have KN := Lib.hid hk'
      have hle := hk'.1
      have hle2 := hk'.2.1
      clear hk'
      have E2 : Hid (pairs (rs ++ [⟨(k : Int), A1, cap1, segB W k e⟩]) = pairN (runsW (below W k'))) := by
        show pairs _ = _
        rw [pairs_snoc, E.out, runs_next I.out.1 HE.out.1 (G.out HE.out.2.2).2 KE.out KN.out, pairN_snoc]
      go_wp2
      go_roundw
      case rel => exact ⟨k', _, hle2, rfl, O4.out, F4, E2, fun h => ⟨KN.out.2.2.2 h, gap_next KE.out KN.out h⟩⟩
      case measure => have := HE.out; simp [intOf]; omega
    · have hlt' : decide ((k : Int) < 65536) = false := decide_eq_false (by omega)
      have N := E.out
      rw [show k = 65536 by omega, below_all I.out.1] at N
      have NN := Lib.hid N
      clear N
      go_wp2
      go_ret
      exact ⟨_, rs, rfl, O.out, NN.out, FW.out⟩
end Go.Proofs.YtmeegpdjhcilkaaDoor.Im
/-
  Bytes that are written in place; copies of bytes that came in.
-/
namespace Go.Proofs.YtmeegpdjhcilkaaDoor.Im
open Go.RowKit
set_option linter.unusedVariables false

/-- n bytes that may be written, in a block that has the property P. -/
def TyP (P : Nat → Prop) (w : World) (A : Option Addr) (n : Nat) : Prop :=
  n = 0 ∨ ∃ b off, A = some ⟨b, off, none⟩ ∧ P b ∧ ∀ j, j < n → (∃ y : Int, w.cell? ⟨b, off + j, none⟩ = some (.int .u8 y)) ∧ w.frozen? ⟨b, off + j, none⟩ = false
theorem TyP.of {P : Nat → Prop} {w : World} {A : Option Addr} {xs : List UInt8} (h : BytesP P w A xs) (hw : Wr w A xs) : TyP P w A xs.length := by
  rcases h with h | ⟨b, off, h1, h2, h3⟩
  · left; rw [h]; rfl
  · rcases hw with h | ⟨b', off', cs, t, h4, h5⟩
    · left; rw [h]; rfl
    · rw [h1] at h4
      simp only [Option.some.injEq, Addr.mk.injEq, and_true] at h4
      obtain ⟨rfl, rfl⟩ := h4
      exact .inr ⟨b, off, h1, h2, fun j hj => ⟨⟨_, h3 j hj⟩, frozen_of_row w b _ cs t.1 h5⟩⟩
theorem TyP.mono {P Q : Nat → Prop} {w : World} {A : Option Addr} {n : Nat} (h : TyP P w A n) (hPQ : ∀ i, i < w.heap.size → P i → Q i) : TyP Q w A n := by
  by_cases h0 : n = 0
  · exact .inl h0
  · rcases h with h | ⟨b, off, h1, h2, h3⟩
    · exact .inl h
    · obtain ⟨y, hy⟩ := (h3 0 (by omega)).1
      exact .inr ⟨b, off, h1, hPQ b (World.block_lt_of_cell? w _ hy) h2, h3⟩
theorem TyP.blocks {P : Nat → Prop} {w w' : World} {A : Option Addr} {n : Nat} (h : TyP P w A n) (hk : ∀ i, i < w.heap.size → P i → w'.heap[i]? = w.heap[i]?) : TyP P w' A n := by
  rcases h with h | ⟨b, off, h1, h2, h3⟩
  · exact .inl h
  · refine .inr ⟨b, off, h1, h2, fun j hj => ?_⟩
    obtain ⟨⟨y, hy⟩, hf⟩ := h3 j hj
    have e := hk b (World.block_lt_of_cell? w _ hy) h2
    exact ⟨⟨y, (World.cell?_of_block (w := w) e).trans hy⟩, (World.frozen?_of_block (w := w) (a := ⟨b, off + j, none⟩) e).trans hf⟩
theorem TyP.below {P : Nat → Prop} {w w' : World} {A : Option Addr} {n : Nat} (h : TyP P w A n) (k : Below w.heap.size w w') : TyP P w' A n := h.blocks fun i hi _ => k.block i hi
theorem TyP.keep {P : Nat → Prop} {w w' : World} {b : Nat} {A : Option Addr} {n : Nat} (h : TyP P w A n) (k : Keep b w w') (hP : ¬ P b) : TyP P w' A n := h.blocks fun i hi hp => k.block i hi fun e => hP (e ▸ hp)
theorem TyP.set {P : Nat → Prop} {w : World} {A : Option Addr} {n : Nat} (h : TyP P w A n) (b o : Nat) (y : Int) : TyP P (w.setCell ⟨b, o, none⟩ (.int .u8 y)) A n := by
  rcases h with h | ⟨b', off, h1, h2, h3⟩
  · exact .inl h
  · refine .inr ⟨b', off, h1, h2, fun j hj => ?_⟩
    obtain ⟨⟨z, hz⟩, hf⟩ := h3 j hj
    refine ⟨?_, by simp [go_sem, hf]⟩
    by_cases e : (⟨b, o, none⟩ : Addr) = ⟨b', off + j, none⟩
    · rw [e]
      exact ⟨y, World.cell?_setCell_same _ _ _ hz⟩
    · exact ⟨z, by rw [World.cell?_setCell_other _ _ _ _ e]; exact hz⟩
theorem TyP.at_ {P : Nat → Prop} {w : World} {A : Option Addr} {n : Nat} (h : TyP P w A n) {j : Nat} (hj : j < n) : ∃ b off y, A = some ⟨b, off, none⟩ ∧ P b ∧ w.cell? ⟨b, off + j, none⟩ = some (.int .u8 y) ∧ w.frozen? ⟨b, off + j, none⟩ = false := by
  rcases h with h | ⟨b, off, h1, h2, h3⟩
  · omega
  · obtain ⟨⟨y, hy⟩, hf⟩ := h3 j hj
    exact ⟨b, off, y, h1, h2, hy, hf⟩
/-- 'append([]byte{}, xs...)'. -/
theorem own_copy {P : Nat → Prop} {wa : World} {A : Option Addr} {xs : List UInt8} (hx : BytesP P wa A xs) (cap : Nat) (hl : xs.length ≤ 70368744177664) (ty : TypeId) :
    ∃ Ao co wc go, (Builtin.append_ #[59, 59] ty #[.slice (some ⟨wa.heap.size, 0, none⟩) 0 0, .slice A xs.length cap]).run Tryd.prog (wa.alloc (.cells #[] 5)) = .ok (.slice Ao xs.length co) wc ∧
      BytesP (fun i => i = go) wc Ao xs ∧ TyP (fun i => i = go) wc Ao xs.length ∧ wa.heap.size ≤ go ∧ Below wa.heap.size wa wc := by
  obtain ⟨i0, hi, hz0, hz1, hz2⟩ := info_parts info_u8
  have hb : Below wa.heap.size wa (wa.alloc (.cells #[] 5)) := (Below.refl _ _).alloc (Nat.le_refl _) _
  have hown := World.ownsRow_made (base := wa.heap.size) (e := 5) (size := 1) wa #[] 0 (Nat.le_refl _) (by unfold maxLen; omega) rfl
  obtain ⟨v', w', k1, k2, k3⟩ := run_append_src (wa.alloc (.cells #[] 5)) wa.heap.size 59 ty 5 i0 _ 1 1 Tryd.underlying59 hi hz0 hz1 hz2 rfl (by decide) _ 0 [] hown A xs.length cap (xs.map u8V)
    (by simp) (hx.below hb).news (fun u hu => by obtain ⟨x, _, rfl⟩ := List.mem_map.1 hu; rfl) (by unfold maxLen; omega) (by omega) (by simp)
  rw [List.nil_append, Nat.zero_add] at k2
  obtain ⟨A', cap', hv, hB⟩ := own_bytes k2 rfl
  subst hv
  have hBel : Below wa.heap.size wa w' := hb.grown k3 (by simp) fun k hk => (hown.lt k hk).1
  have hW := own_wr k2
  by_cases h0 : xs = []
  · exact ⟨A', cap', w', wa.heap.size, k1, .inl h0, .inl (by rw [h0]; rfl), Nat.le_refl _, hBel⟩
  · rcases hB with h | ⟨g, off, rfl, ⟨h1, h2⟩, h3⟩
    · exact absurd h h0
    · have hg : BytesP (fun i => i = g) w' (some ⟨g, off, none⟩) xs := .inr ⟨g, off, rfl, rfl, h3⟩
      exact ⟨_, cap', w', g, k1, hg, TyP.of hg hW, h1, hBel⟩
/-- The cells of runs. -/
def Sp (w : World) (g : Nat) (rs : List R) : Prop := ∀ k (hk : k < rs.length), w.cell? ⟨g, k * 2, none⟩ = some (.int .i64 rs[k].addr) ∧ w.cell? ⟨g, k * 2 + 1, none⟩ = some (.slice rs[k].A rs[k].data.length rs[k].cap)
theorem Sp.set {w : World} {g : Nat} {rs : List R} (h : Sp w g rs) {a : Addr} (ha : a.block ≠ g) (v : Value) : Sp (w.setCell a v) g rs := fun k hk => by
  obtain ⟨h1, h2⟩ := h k hk
  exact ⟨by rw [World.cell?_setCell_other _ _ _ _ (fun e => ha (by rw [e]))]; exact h1, by rw [World.cell?_setCell_other _ _ _ _ (fun e => ha (by rw [e]))]; exact h2⟩
theorem Sp.below {w w' : World} {g : Nat} {rs : List R} (h : Sp w g rs) (k : Below w.heap.size w w') : Sp w' g rs := fun j hj => by
  obtain ⟨h1, h2⟩ := h j hj
  exact ⟨(k.cell (p := ⟨g, j * 2, none⟩) (World.block_lt_of_cell? w _ h1)).trans h1, (k.cell (p := ⟨g, j * 2 + 1, none⟩) (World.block_lt_of_cell? w _ h2)).trans h2⟩
/-- What the runs that an image returned are good for. -/
theorem runs_open {w w' : World} {v : Value} {rs : List R} (h : OwnR 91 (w.heap.size ≤ ·) w w' v rs) (hW : ∀ r ∈ rs, Wr w' r.A r.data) :
    ∃ A cap g, v = .slice A rs.length cap ∧ (0 < rs.length → A = some ⟨g, 0, none⟩) ∧ w.heap.size ≤ g ∧ Sp w' g rs ∧ ∀ r ∈ rs, TyP (fun i => w.heap.size ≤ i ∧ i ≠ g ∧ i < w'.heap.size) w' r.A r.data.length := by
  obtain ⟨A, cap, hv, _, _⟩ := h.runsP
  by_cases h0 : rs.length = 0
  · have := List.eq_nil_of_length_eq_zero h0
    subst this
    exact ⟨A, cap, w.heap.size, hv, fun h => absurd h (Nat.lt_irrefl _), Nat.le_refl _, fun k hk => absurd hk (Nat.not_lt_zero _), fun r hr => absurd hr List.not_mem_nil⟩
  · obtain ⟨g, cap2, hv2, hg, hc⟩ := h.at_ (by omega)
    rw [hv] at hv2
    simp only [Value.slice.injEq, true_and] at hv2
    obtain ⟨hA, _⟩ := hv2
    refine ⟨A, cap, g, hv, fun _ => hA, hg, fun k hk => ⟨(hc k hk).1, (hc k hk).2.1⟩, fun r hr => ?_⟩
    refine (TyP.of (h.2.2 r hr) (hW r hr)).mono fun i hi hp => ⟨hp.1, fun e => hp.2 ?_, hi⟩
    rw [hv, hA, e]
    rfl
end Go.Proofs.YtmeegpdjhcilkaaDoor.Im
