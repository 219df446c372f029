/-
  ItO, ItU.
-/
import Derived.Test.YtmnleknehjkmgaaGreatGAR
import Derived.Test.YtmnleknehjkmgaaGreatGBD
import Derived.Test.YtmnleknehjkmgaaGreatGBE
import Derived.Lib.SmallJoins
import Derived.Test.YtmnleknehjkmgaaGreatGAX
import Derived.Test.YtmnleknehjkmgaaGreatMItN
import Derived.Test.YtmnleknehjkmgaaGreatMItQ
import Derived.Test.YtmnleknehjkmgaaGreatMItS
set_option linter.all false
set_option maxRecDepth 100000
set_option maxHeartbeats 4000000
namespace Go.Proofs.YtmnleknehjkmgaaGreat
open Go.RowKit Go.ChangeShapes Go.WideShapes Go.Deep
def strOf (s : ByteArray) : Str := s.data.toList
theorem sB_strOf (s : ByteArray) : sB (strOf s) = s := by unfold sB strOf; simp
def ItSz (r : Xe) : Prop := r.x.raw.length ≤ maxLen ∧ r.x.m.length ≤ maxLen ∧ r.x.C.length ≤ maxLen ∧ r.x.raw.length ≤ r.ca ∧ r.ca ≤ maxLen ∧ IntKind.i64.min ≤ r.x.kind ∧ r.x.kind ≤ IntKind.i64.max
section
variable {H : Type} {enc : TypeId × Value → H} {w : World} {spare : Nat → Bool} {fuel : Nat}
theorem open_itC {cs : List Value} {x : DataW H × List MemPlace} (h : DataW.trod enc Tryz.prog w 0 spare true fuel 34 cs = some x) : ∃ r : Xe, cs = r.c ∧ ItSz r ∧ BytesAt w r.A r.x.raw ∧ OpsP w r.B r.x.C := by
  obtain ⟨y0, y1, y2, y3, n, _, hl, h0, h1, h2, h3⟩ := Go.Joins.trod_struct4 Tryz.underlying34 h
  have c5 : Tryz.prog.cellsOf 34 = 5 := by kernel_rfl
  have c1 : Tryz.prog.cellsOf 3 = 1 := by kernel_rfl
  have c2 : Tryz.prog.cellsOf 22 = 1 := by kernel_rfl
  have c3 : Tryz.prog.cellsOf 32 = 2 := by kernel_rfl
  have c4 : Tryz.prog.cellsOf 4 = 1 := by kernel_rfl
  rw [c5] at hl
  match cs, hl with
  | [p0, p1, p2, p3, p4], _ =>
    simp only [c1, c2, c3, c4] at h0 h1 h2 h3
    simp only [List.drop_succ_cons, List.drop_zero, List.take_succ_cons, List.take_zero] at h0 h1 h2 h3
    obtain ⟨kd, e0, _, hk⟩ := DataW.trod_int Tryz.underlying3 h0
    obtain ⟨A, len, cap, xs, e1, e2, e3, hB, e4, e5⟩ := open_bytesR h1
    obtain ⟨ie, e6, e7, e8, hO⟩ := open_insC h2
    obtain ⟨bl, e9, _⟩ := DataW.trod_bool Tryz.underlying4 h3
    have e0' : p0 = .int .i64 kd := by simpa using e0
    have e6' : p2 = .string ie.s ∧ p3 = ie.v := by simpa using e6
    have e9' : p4 = .bool bl := by simpa using e9
    obtain ⟨e6a, e6b⟩ := e6'
    subst e0' e1 e2 e6a e6b e9'
    refine ⟨⟨⟨kd, xs, strOf ie.s, ie.L, bl⟩, A, cap, ie.A, ie.cap⟩, ?_, ⟨e3, ?_, e8, e4, e5, ?_⟩, hB, hO⟩
    · simp only [Xe.c, sB_strOf, Ie.v]
    · show ie.s.data.toList.length ≤ maxLen
      rw [Array.length_toList]
      exact e7
    · have h3 : IntKind.i64.min ≤ kd ∧ kd ≤ IntKind.i64.max := by simpa [Lit.wf] using hk
      exact h3
theorem open_its {v : Value} {x : DataW H × List MemPlace} (h : DataW.trod enc Tryz.prog w 0 spare true fuel 24 [v] = some x) :
    ∃ A len cap R, v = .slice A len cap ∧ len = R.length ∧ len ≤ maxLen ∧ ItsP w A R ∧ ∀ r ∈ R, ItSz r := by
  rcases Deep.open_slice Tryz.underlying24 h with ⟨hcs, _⟩ | ⟨a, len, cap, m, n, D, Pl, hcs, _, hl, hm, hmm, _, hx⟩
  · simp only [List.cons.injEq, and_true] at hcs
    exact ⟨none, 0, 0, [], hcs, rfl, Nat.zero_le _, .inl rfl, fun r hr => absurd hr List.not_mem_nil⟩
  · simp only [List.cons.injEq, and_true] at hcs
    have hlm : len ≤ m := by rw [hmm]; split <;> omega
    have c5 : Tryz.prog.cellsOf 34 = 5 := by kernel_rfl
    have hall : ∀ i, i < len → ∃ r : Xe, w.cells? 0 (a.add (i * 5)) 5 = some r.c ∧ ItSz r ∧ BytesAt w r.A r.x.raw ∧ OpsP w r.B r.x.C := fun i hi => by
      obtain ⟨cs, h1, h2⟩ := hx i (by omega)
      rw [c5] at h1
      obtain ⟨r, e, h3, h4, h5⟩ := open_itC h2
      rw [e] at h1
      exact ⟨r, h1, h3, h4, h5⟩
    obtain ⟨f, hf⟩ := Deep.choose_lt hall
    refine ⟨some a, len, cap, (List.range len).map f, hcs, by simp, by omega, ?_, ?_⟩
    · by_cases h0 : len = 0
      · left; subst h0; simp
      · have q := (World.cells?_some (hf 0 (by omega)).1).2.2 0 (by decide)
        rw [Nat.zero_mul, show (a.add 0).add 0 = a.add 0 by simp [Addr.add]] at q
        obtain ⟨b, off, rfl⟩ := plain_cell q
        refine .inr ⟨b, off, rfl, fun j hj => ?_⟩
        have hj' : j < len := by simpa using hj
        simp only [List.getElem_map, List.getElem_range]
        refine ⟨fun i u hu => ?_, (hf j hj').2.2⟩
        have hi := Xe.c_lt _ hu
        have e0 := (World.cells?_some (hf j hj').1).2.2 i hi
        rw [add_twice, Nat.add_assoc] at e0
        rw [e0]
        first | exact hu | (rw [List.getElem?_eq_some_iff] at hu; obtain ⟨_, hu⟩ := hu; simpa using hu)
    · intro r hr
      obtain ⟨i, hi, rfl⟩ := List.mem_map.1 hr
      exact (hf i (List.mem_range.1 hi)).2.1
end
end Go.Proofs.YtmnleknehjkmgaaGreat
namespace Go.Proofs.YtmnleknehjkmgaaGreat
open Go.RowKit Go.Shelf
attribute [local go_sem] Oper.semAt_some
theorem off_wf {off : Int} (h : (Lit.int .i64 off).wf = true) : -9223372036854775808 ≤ off ∧ off ≤ 9223372036854775807 := by
  have h3 : IntKind.i64.min ≤ off ∧ off ≤ IntKind.i64.max := by simpa [Lit.wf] using h
  exact h3
theorem rows_C {R : List Xe} {b : Str} (h : R.map Xe.x = itemsR b) : ∀ r ∈ R, r.x.C.length ≤ 1000 := fun r hr => by
  have hm : r.x ∈ itemsR b := by rw [← h]; exact List.mem_map_of_mem hr
  have := items_C hm
  omega
theorem rcheck13_any (R : List Xe) (A : Option Addr) (cap l : Nat) (hl : R.length = l) (hl2 : l ≤ 90000) (hs : (rawI (R.map Xe.x)).length ≤ 10000) (CR : ∀ r ∈ R, r.x.C.length ≤ 1000) (w : World) (H : ItsP w A R) :
    Calls Tryz.prog 24 #[.slice A l cap] w fun e w' => e = .returned (.bool (decide (itemsR (rawI (R.map Xe.x)) = R.map Xe.x))) ∧ Below w.heap.size w w' := by
  have RW := rraw13_any R A cap l hl (by omega) (by omega) w H
  have HH := Lib.hid (fun w' (h : Below w.heap.size w w') => H.below h)
  have HL := Lib.hid hl
  have HCR := Lib.hid CR
  obtain ⟨xs, hxs⟩ : ∃ z, rawI (R.map Xe.x) = z := ⟨_, rfl⟩
  rw [hxs] at RW hs ⊢
  clear hl CR H hxs
  go_enter Tryz.func24, Tryz.ntmps24
  go_wp2_with fail
  refine RW.mono ?_
  rintro e w1 ⟨A1, c1, rfl, hO, hb⟩
  have hcap := townB_caps hO
  have RD := rdecode13_any xs A1 c1 xs.length rfl hcap.1 hcap.2 hs w1 (townB_at hO)
  have B1 := Lib.hid hb
  clear RW hO hb hcap
  go_wp2_with fail
  refine RD.mono ?_
  rintro e w2 ⟨A2, c2, R2, rfl, hR2, hO2, hb2⟩
  have B2 : Hid (Below w.heap.size w w2) := B1.out.trans (hb2.mono B1.out.size)
  have SM := rsame13_any R2 R A2 A c2 cap R2.length l rfl HL.out (by have h1 := congrArg List.length hR2; have h2 := items_le xs; simp only [List.length_map] at h1; omega) (rows_C hR2) HCR.out w2 hO2.itsP (HH.out w2 B2.out)
  rw [hR2] at SM
  obtain ⟨l2, hl2'⟩ : ∃ z, R2.length = z := ⟨_, rfl⟩
  rw [hl2'] at SM ⊢
  obtain ⟨t, ht⟩ : ∃ z, decide (itemsR xs = R.map Xe.x) = z := ⟨_, rfl⟩
  rw [ht] at SM
  have HT := Lib.hid ht
  clear RD hR2 hO2 hb2 B1 hl2' ht HH HL HCR
  go_wp2_with fail
  refine SM.mono ?_
  rintro e w3 ⟨rfl, hb⟩
  have B3 : Hid (Below w.heap.size w w3) := B2.out.trans (hb.mono B2.out.size)
  clear SM hb B2
  go_wp2
  go_ret
  exact ⟨by rw [HT.out]; rfl, B3.out⟩
theorem few_all {L : List Ite} (h : fewI L = true) : L.length ≤ 60 ∧ ∀ x ∈ L, x.raw.length ≤ 100 ∧ x.C.length ≤ 20 ∧ x.m.length ≤ 100 := by
  unfold fewI at h
  rw [Bool.and_eq_true, decide_eq_true_eq, List.all_eq_true] at h
  refine ⟨h.2, fun x hx => ?_⟩
  have h2 := h.1 x hx
  unfold fewX at h2
  simp only [Bool.and_eq_true, decide_eq_true_eq] at h2
  exact ⟨h2.1.1, h2.1.2, h2.2⟩
theorem raw_few : ∀ (L : List Ite), (∀ x ∈ L, x.raw.length ≤ 100) → (rawI L).length ≤ 100 * L.length
  | [], _ => Nat.le_refl _
  | x :: L, h => by
    have h1 := h x (List.mem_cons_self ..)
    have h2 := raw_few L fun y hy => h y (List.mem_cons_of_mem _ hy)
    show (x.raw ++ rawI L).length ≤ 100 * (L.length + 1)
    rw [List.length_append]
    omega
theorem few_rows {R : List Xe} (h : fewI (R.map Xe.x) = true) : R.length ≤ 60 ∧ (rawI (R.map Xe.x)).length ≤ 6000 ∧ ∀ r ∈ R, r.x.C.length ≤ 1000 := by
  obtain ⟨h1, h2⟩ := few_all h
  have h3 := raw_few (R.map Xe.x) fun x hx => (h2 x hx).1
  rw [List.length_map] at h1 h3
  exact ⟨h1, by omega, fun r hr => by have := (h2 r.x (List.mem_map_of_mem hr)).2.1; omega⟩
theorem cov_cases (o : Option Nat) : (∃ k : Nat, covZ o = (k : Int) ∧ covV o = k ∧ o.isSome = true) ∨ (covZ o = -1 ∧ covV o = 0 ∧ o.isSome = false) := by
  cases o with
  | none => exact .inr ⟨rfl, rfl, rfl⟩
  | some k => exact .inl ⟨k, rfl, rfl, rfl⟩
theorem walkIC (A : Option Addr) (cap : Nat) (R : List Xe) (off : Int) (ho : -9223372036854775808 ≤ off ∧ off ≤ 9223372036854775807) (w : World) (hm : R.length ≤ maxLen) (H : ItsP w A R) (hM : MaxAt w) :
    Calls Tryz.prog 5 #[.slice A R.length cap, .int .i64 off] w fun e w' => e = .returned (.bool true) ∧ Below w.heap.size w w' := by
  obtain ⟨l, hl⟩ : ∃ z, R.length = z := ⟨_, rfl⟩
  have FW := rfew13_any R A R.length cap rfl hm w H
  rw [hl] at FW ⊢
  have AL := Lib.hid (fun w' (h : Below w.heap.size w w') => alive13_any w' (hM.below h))
  have KK : Hid (fewI (R.map Xe.x) = true → (l ≤ 60) ∧ (Calls Tryz.prog 22 #[.int .i64 off, .slice A l cap] w fun e w' => e = .returned (.tuple #[.int .i64 (covV (covI (R.map Xe.x) off) : Nat), .bool (covI (R.map Xe.x) off).isSome]) ∧ Below w.heap.size w w') ∧ ∀ w', Below w.heap.size w w' → (Calls Tryz.prog 23 #[.int .i64 off, .slice A l cap] w' fun e w2 => e = .returned (.int .i64 (covZ (covI (R.map Xe.x) off))) ∧ w2 = w') ∧
      (Calls Tryz.prog 14 #[.slice A l cap] w' fun e w2 => e = .returned (.bool (decide (itemsR (rawI (R.map Xe.x)) = R.map Xe.x))) ∧ Below w'.heap.size w' w2) ∧ (Calls Tryz.prog 24 #[.slice A l cap] w' fun e w2 => e = .returned (.bool (decide (itemsR (rawI (R.map Xe.x)) = R.map Xe.x))) ∧ Below w'.heap.size w' w2)) := fun h => by
    obtain ⟨f1, f2, f3⟩ := few_rows h
    exact ⟨by omega, covers_any off ho R A l cap hl (by omega) (by omega) w H, fun w' h => ⟨rcovers_any off R A l cap hl (by omega) (by omega) w' (H.below h), check13_any R A cap l hl (by omega) (by omega) f3 w' (H.below h) (hM.below h), rcheck13_any R A cap l hl (by omega) (by omega) f3 w' (H.below h)⟩⟩
  obtain ⟨fw, hfw⟩ : ∃ z, fewI (R.map Xe.x) = z := ⟨_, rfl⟩
  rw [hfw] at FW KK
  obtain ⟨o, ho'⟩ : ∃ z, covI (R.map Xe.x) off = z := ⟨_, rfl⟩
  obtain ⟨d, hd⟩ : ∃ z, decide (itemsR (rawI (R.map Xe.x)) = R.map Xe.x) = z := ⟨_, rfl⟩
  rw [ho', hd] at KK
  have CO := cov_cases o
  obtain ⟨cz, hcz⟩ : ∃ z, covZ o = z := ⟨_, rfl⟩
  obtain ⟨cv, hcv⟩ : ∃ z, covV o = z := ⟨_, rfl⟩
  obtain ⟨cs, hcs⟩ : ∃ z, o.isSome = z := ⟨_, rfl⟩
  rw [hcz, hcv, hcs] at KK CO
  clear H hM hm hl hfw ho' hd ho hcz hcv hcs
  cases fw with
  | false =>
    go_enter Tryz.func5, Tryz.ntmps5
    go_wp2_with fail
    refine FW.mono ?_
    rintro e w1 ⟨rfl, rfl⟩
    have A0 := AL.out w1 (Below.refl _ _)
    clear FW AL KK CO
    go_wp2_with fail
    refine A0.mono ?_
    rintro e w2 ⟨rfl, hb⟩
    have B2 := Lib.hid hb
    clear A0 hb
    go_wp2
    go_ret
    exact ⟨rfl, B2.out⟩
  | true =>
    obtain ⟨hl60, CV, KW⟩ := KK.out rfl
    have KW := Lib.hid KW
    clear KK
    go_enter Tryz.func5, Tryz.ntmps5
    go_wp2_with fail
    refine FW.mono ?_
    rintro e w1 ⟨rfl, rfl⟩
    clear FW
    go_wp2_with fail
    refine CV.mono ?_
    rintro e w2 ⟨rfl, hb⟩
    have B2 := Lib.hid hb
    have R2 := (KW.out w2 B2.out).1
    clear CV hb
    go_wp2_with fail
    refine R2.mono ?_
    rintro e w3 ⟨rfl, rfl⟩
    have A3 := AL.out w3 B2.out
    clear R2
    go_wp2_with fail
    refine A3.mono ?_
    rintro e w4 ⟨rfl, hb⟩
    have B4 : Hid (Below w1.heap.size w1 w4) := B2.out.trans (hb.mono B2.out.size)
    have C4 := (KW.out w4 B4.out).2.1
    clear A3 hb B2 AL
    go_wp2_with fail
    refine C4.mono ?_
    rintro e w5 ⟨rfl, hb⟩
    have B5 : Hid (Below w1.heap.size w1 w5) := B4.out.trans (hb.mono B4.out.size)
    have C5 := (KW.out w5 B5.out).2.2
    clear C4 hb B4 KW
    go_wp2_with fail
    refine C5.mono ?_
    rintro e w6 ⟨rfl, hb⟩
    have B6 : Hid (Below w1.heap.size w1 w6) := B5.out.trans (hb.mono B5.out.size)
    have e0 : (d == d) = true := beq_self_eq_true _
    clear C5 hb B5
    rcases CO with ⟨k, rfl, rfl, rfl⟩ | ⟨h1, rfl, rfl⟩
    · have e1 : (cv : Int) ≥ 0 := by omega
      have e2 : max (cv : Int) 0 = (cv : Int) := by omega
      have e3 : ((cv : Int) == (cv : Int)) = true := beq_self_eq_true _
      go_wp2
      go_ret
      exact ⟨rfl, B6.out⟩
    · have e1 : decide (cz ≥ 0) = false := decide_eq_false (by omega)
      have e4 : decide (0 ≤ cz) = false := decide_eq_false (by omega)
      have e2 : max cz 0 = 0 := by omega
      clear h1
      go_wp2
      go_ret
      exact ⟨rfl, B6.out⟩
end Go.Proofs.YtmnleknehjkmgaaGreat
