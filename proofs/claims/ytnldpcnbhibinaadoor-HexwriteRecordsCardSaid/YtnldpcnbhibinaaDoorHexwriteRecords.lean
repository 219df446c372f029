/-
  HexwriteRecords, for every list of runs: Write's lines are data records of at most sixteen bytes in ascending order and the end record, and to Put their data gives the image back: the law returns true, and its argument reads as it did.
  Conditions: none.
-/
import Derived.Test.YtnldpcnbhibinaaDoorHexPa
import Derived.Test.YtnldpcnbhibinaaDoorHexRs
import Derived.Test.YtnldpcnbhibinaaDoorCards
import Derived.Test.YtnldpcnbhibinaaDoorTie
import Derived.ProofKit
import Derived.OpenShut
import Derived.Lay
import Derived.LaidOnce
import Derived.SevenTiedAt
import Derived.Below
namespace Go.Proofs.YtnldpcnbhibinaaDoor.hexwriteRecordsDone
open Go.ChangeShapes Go.WideShapes Go.ChangeAt Go.RowKit
open Go.ChangeMaps (open_string shut_string)
set_option linter.unusedVariables false

theorem own : ownKnob Tryd.prog.godebug = none := by kernel_rfl
theorem laidOut : laidOutB Tryd.prog = true := by kernel_rfl
/-- A slice of integers that came in: nil, or a row of 'cap' cells that hold the numbers 'zs'. -/
def IsRow (k : IntKind) (w : World) (a : Option Addr) (len cap : Nat) (zs : List Int) : Prop :=
  (a = none ∧ len = 0 ∧ cap = 0 ∧ zs = []) ∨
  ∃ x, a = some x ∧ len ≤ cap ∧ cap ≤ maxLen ∧ zs.length = cap ∧ (∀ i, i < zs.length → w.cell? (x.add i) = some (.int k (zs.getD i 0))) ∧ ∀ n ∈ zs, (Lit.int k n).wf = true

theorem ne_self (s : ByteArray) : (s.toList != s.toList) = false := by simp
theorem recs_facts {V : List Im.Cel} (hV : Im.SortedW V) : ∃ l : List (Int × List UInt8), l.length ≤ 65536 ∧ cellsL l = V ∧
    (∀ k (h : k < l.length), Im.codeW (cellsL (l.take k)) l[k].1 l[k].2 = 0 ∧ Im.putW (cellsL (l.take k)) l[k].1 l[k].2 = cellsL (l.take (k + 1)) ∧ lastA l k < l[k].1 ∧ lastA l (k + 1) = l[k].1) ∧
    (∀ k (h : k < l.length), (strOf (lineB l[k])).size ≤ 43) ∧ (∀ p ∈ l, rightB 0 p.1 p.2.length = true) ∧ (∀ p ∈ l, 0 ≤ p.1 ∧ p.1.toNat + p.2.length ≤ 65536 ∧ p.2 ≠ [] ∧ p.2.length ≤ 16) ∧
    ∀ w, Calls Tryd.prog 7 #[.string (strOf (textW 16 V)), .string ⟨#[10]⟩] w (RetLines w l) :=
  ⟨recsW 16 V, Nat.le_trans (recs_length (s := 16) (by omega) (by omega) hV) (Im.sorted_length hV), cells_recs (s := 16) (by omega) (by omega) hV, fun k h => rec_step hV k h, fun k h => line_len hV k h, recs_right (s := 16) (by omega) (by omega) hV, recs_ok (s := 16) (by omega) (by omega) hV, fun w => split_text hV w⟩
set_option maxRecDepth 100000 in
set_option maxHeartbeats 8000000 in
theorem walk (A : Option Addr) (cap : Nat) (rs : List Im.R) (w : World) (hm : rs.length ≤ maxLen) (hR : Im.RunsP (fun _ => True) (fun _ => True) w A rs) (hd : ∀ r ∈ rs, r.data.length ≤ maxLen) :
    Calls Tryd.prog 3 #[.slice A rs.length cap] w fun e w' => e = .returned (.bool true) ∧ Below w.heap.size w w' := by
  have hbd := build_any A cap rs hm w hR hd
  have Z := Lib.hid hR
  have HD := Lib.hid hd
  have HM := Lib.hid hm
  clear hR hd hm
  go_enter Tryd.func3, Tryd.ntmps3
  go_wp2_with fail
  refine hbd.mono ?_
  rintro e w1 ⟨h1, h2, h3⟩
  cases hf : Im.fewB rs
  case false =>
    obtain rfl := h1 hf
    have B1 := Lib.hid h3
    have FH := Lib.hid hf
    clear h1 h2 h3 hf hbd
    go_wp2_with fail
    refine (alive_any _).mono ?_
    rintro e w2 ⟨rfl, hb2⟩
    have hfw2 := Im.fewAll_any _ _ A cap rs HM.out w2 ((Z.out.below B1.out).below hb2) HD.out
    rw [FH.out] at hfw2
    have B2 : Hid (Below w.heap.size w w2) := B1.out.trans (hb2.mono B1.out.size)
    clear hb2
    go_wp2_with fail
    refine hfw2.mono ?_
    rintro e w3 ⟨rfl, rfl⟩
    clear hfw2
    go_wp2
    go_ret
    exact ⟨rfl, B2.out⟩
  case true =>
    obtain ⟨b, A', cap', rfl, -, hI, -⟩ := h2 hf
    have B1 := Lib.hid h3
    have I1 := Lib.hid hI
    clear h1 h2 h3 hf hbd hI Z HD HM
    obtain ⟨V, hV⟩ : ∃ V, allW rs = V := ⟨_, rfl⟩
    rw [hV] at I1 ⊢
    clear hV
    have VS := Lib.hid I1.out.1
    have X1 := write_any (.pointer (some ⟨b, 0, none⟩)) V w1 (.inr ⟨b, rfl, I1.out⟩)
    have hVl := Im.sorted_length VS.out
    obtain ⟨l, hLb, SC0, ST0, SL0, SR0, SO0, X2⟩ := recs_facts VS.out
    have SC := Lib.hid SC0
    have ST := Lib.hid ST0
    have SL := Lib.hid SL0
    have SR := Lib.hid SR0
    have SO := Lib.hid SO0
    clear SC0 ST0 SL0 SR0 SO0
    obtain ⟨x, hx⟩ : ∃ x, strOf (textW 16 V) = x := ⟨_, rfl⟩
    rw [hx] at X1 X2
    clear hx
    obtain ⟨L, hL⟩ : ∃ L, l.length = L := ⟨_, rfl⟩
    have HL := Lib.hid hL
    rw [hL] at hLb
    clear hL
    go_wp2_with fail
    refine X1.mono ?_
    rintro e w2 ⟨rfl, hb2⟩
    have K2 := Lib.hid hb2
    clear hb2 X1
    go_wp2_with fail
    refine (X2 w2).mono ?_
    rintro e w3 ⟨bs, cs, rfl, hcs, hbs, hL3, hb3⟩
    rw [HL.out] at hcs ⊢
    have c0 := hL3.2.2.1
    have c1 := hL3.2.2.2
    rw [HL.out] at c0 c1
    have L3 := Lib.hid hL3
    have K3 : Hid (Below w1.heap.size w1 w3) := K2.out.trans (hb3.mono K2.out.size)
    have n1 := ne_self ⟨#[58, 48, 48, 48, 48, 48, 48, 48, 49, 70, 70]⟩
    have n2 := ne_self ⟨#[]⟩
    clear hL3 hb3 X2 hbs
    go_wp2_with fail
    refine (Im.newOf_any _).mono ?_
    rintro e w4 ⟨c, rfl, hc4, hI4, hb4⟩
    have K4 : Hid (Below w1.heap.size w1 w4) := K3.out.trans (hb4.mono K3.out.size)
    have B4 : Hid (Below w.heap.size w w4) := B1.out.trans (K4.out.mono B1.out.size)
    have L4 := Lib.hid (L3.out.below hb4)
    have I4 := Lib.hid (I1.out.below K4.out)
    have J4 := Lib.hid hI4
    have CN : Hid (b ≠ c ∧ bs ≠ c ∧ w.heap.size ≤ c) := ⟨by have := I1.out.lt; have := K3.out.size; omega, by have := L3.out.1; omega, by have := K3.out.size; have := B1.out.size; omega⟩
    have hsl : ∀ w', (Instr.slice 29 (.slice (some ⟨bs, 0, none⟩) (L + 2) cs) none (some (.int .i64 (L : Int))) none).run Tryd.prog w' = .ok (.slice (some ⟨bs, 0, none⟩) L cs) w' := fun w' => slS_h (some ⟨bs, 0, none⟩) (L + 2) cs L (by omega) w'
    clear hI4 hb4 hc4 c0 c1 n1 n2 L3 K2 K3 K4 I1
    go_wp2
    go_loopw [8, 54] (fun lv iv wr => ∃ (k : Nat), k ≤ L ∧ iv = .int .i64 k ∧ lv = .int .i64 (lastA l k) ∧ Hid (Im.ImgOf wr c (cellsL (l.take k))) ∧ Hid (Im.ImgOf wr b V) ∧ Hid (LinesAt wr bs l) ∧ Hid (Below w.heap.size w wr)) (fun _ iv _ => L - (intOf iv).toNat)
    case atStart => exact ⟨0, Nat.zero_le _, rfl, rfl, J4.out, I4.out, L4.out, B4.out⟩
    case round =>
      clear J4 I4 L4 B4
      obtain ⟨k, hk, rfl, rfl, J, I, LN, Bel⟩ := hrel
      by_cases hlt : k < L
      · have hkl : k < l.length := by rw [HL.out]; exact hlt
        obtain ⟨s1, s2, s3, s4⟩ := ST.out k hkl
        have s5 := SL.out k hkl
        have s6 := SR.out _ (List.getElem_mem hkl)
        obtain ⟨o0, o1, o2, o3⟩ := SO.out _ (List.getElem_mem hkl)
        have cl := LN.out.2.1 k hkl
        obtain ⟨p, hp⟩ : ∃ p, l[k] = p := ⟨_, rfl⟩
        simp only [hp] at s1 s2 s3 s4 s5 s6 o0 o1 o2 o3 cl
        obtain ⟨q1, q2, q3, q4⟩ := line_par p s6
        have hpar := parseN_any (strOf (lineB p)) (by omega) wr
        rw [q1, q2, q3, q4] at hpar
        obtain ⟨s, hs⟩ : ∃ s, strOf (lineB p) = s := ⟨_, rfl⟩
        obtain ⟨a, ha⟩ : ∃ a, p.1 = a := ⟨_, rfl⟩
        obtain ⟨D, hD⟩ : ∃ D, p.2 = D := ⟨_, rfl⟩
        obtain ⟨q, hq⟩ : ∃ q, lastA l k = q := ⟨_, rfl⟩
        rw [hs] at hpar s5 cl
        rw [ha, hD] at hpar s1 s2
        rw [ha] at s3 s4 o1
        rw [hq] at s3 ⊢
        rw [hD] at o1 o2 o3
        have hd0 : 0 < D.length := List.length_pos_iff.2 o2
        have z1 : ((D.length : Int) == 0) = false := beq_eq_false_iff_ne.2 (by omega)
        have z2 : (D.length == 0) = false := beq_eq_false_iff_ne.2 (by omega)
        have z3 : ¬ D.length = 0 := by omega
        have z4 : D ≠ [] := o2
        have z5 : decide ((16 : Int) < (D.length : Int)) = false := decide_eq_false (by omega)
        have z6 : decide (a ≤ q) = false := decide_eq_false (by omega)
        have z7 : decide ((43 : Int) < (s.size : Int)) = false := decide_eq_false (by omega)
        have S1 := Lib.hid s1
        have S2 := Lib.hid s2
        have S4 := Lib.hid s4
        clear s1 s2 s4 s6 o0 o1 o2 q1 q2 q3 q4 hs ha hD hq hp hkl
        go_wp2_with fail
        refine hpar.mono ?_
        rintro e w5 ⟨A5, c5, rfl, hc5, hX5, hb5⟩
        have hal : Below w5.heap.size w5 (w5.alloc (.cells #[.int .i64 0, .int .i64 a, .slice A5 D.length c5] 35)) := (Below.refl _ _).alloc (Nat.le_refl _) _
        have T5 := Lib.hid (Tri.new w5 _ rfl (.int .i64 0) (.int .i64 a) (.slice A5 D.length c5) 35)
        have hJ5 := (J.out.below hb5).below hal
        have hx5 : BytesP (· ≠ c) (w5.alloc (.cells #[.int .i64 0, .int .i64 a, .slice A5 D.length c5] 35)) A5 D := (hX5.mono (Q := (· ≠ c)) fun i _ hi => by have := J.out.lt; have := hi.1; omega).below hal
        have hput := Im.put_any c (cellsL (l.take k)) a (· ≠ c) (fun h => h rfl) A5 D c5 _ (by unfold maxLen; omega) hJ5 hx5
        rw [S1.out, S2.out] at hput
        have I5 := Lib.hid ((I.out.below hb5).below hal)
        have L5 := Lib.hid ((LN.out.below hb5).below hal)
        have B5 : Hid (Below w.heap.size w (w5.alloc (.cells #[.int .i64 0, .int .i64 a, .slice A5 D.length c5] 35))) := (Bel.out.trans (hb5.mono Bel.out.size)).alloc (Nat.le_trans Bel.out.size hb5.size) _
        have N5 : Hid (c < w5.heap.size) := Nat.lt_of_lt_of_le J.out.lt hb5.size
        clear hpar hX5 hb5 hal hJ5 hx5 J I LN Bel cl hc5
        go_wp2_with fail
        refine hput.mono ?_
        rintro e w6 ⟨rfl, hJ6, hK6⟩
        have c6 : w6.cell? ⟨w5.heap.size, 1, none⟩ = some (.int .i64 a) := (World.cell?_of_block (hK6.block w5.heap.size T5.out.1 (by have := N5.out; omega))).trans T5.out.2.2.1
        have J6 := Lib.hid hJ6
        have I6 := Lib.hid (I5.out.keep hK6 CN.out.1)
        have L6 := Lib.hid (L5.out.keep hK6 CN.out.2.1)
        have B6 : Hid (Below w.heap.size w w6) := B5.out.trans (hK6.below CN.out.2.2 B5.out.size)
        clear hput hJ6 hK6 T5 I5 L5 B5 N5
        go_wp2
        go_roundw
        case rel => exact ⟨k + 1, by omega, by go_num, by rw [S4.out], J6.out, I6.out, L6.out, B6.out⟩
        case measure => simp [intOf]; omega
      · have hlt' : decide ((k : Int) < (L : Int)) = false := decide_eq_false (by omega)
        have hkL : k = L := by omega
        subst hkL
        have hT : cellsL (l.take k) = V := by rw [← HL.out, List.take_length]; exact SC.out
        rw [hT] at J
        clear hT
        go_wp2_with fail
        refine (alive_any _).mono ?_
        rintro e w5 ⟨rfl, hb5⟩
        have J5 := Lib.hid (J.out.below hb5)
        have I5 := Lib.hid (I.out.below hb5)
        have B5 : Hid (Below w.heap.size w w5) := Bel.out.trans (hb5.mono Bel.out.size)
        have hsm := Im.isame_any c b V V w5 J5.out I5.out
        rw [decide_eq_true (rfl : V = V)] at hsm
        clear hb5 J I LN Bel
        go_wp2_with fail
        refine hsm.mono ?_
        rintro e w6 ⟨rfl, rfl⟩
        have hln := Im.lenOf_any c V w5.drew (J5.out.below ((Below.refl _ _).drew))
        have B6 : Hid (Below w.heap.size w w5.drew) := B5.out.drew
        clear hsm
        go_wp2_with fail
        refine hln.mono ?_
        rintro e w7 ⟨rfl, rfl⟩
        clear hln
        go_wp2
        go_ret
        exact ⟨rfl, B6.out⟩

set_option maxRecDepth 100000 in
theorem lifted (os : Os) (started : os.Started) (H : Type) (enc : TypeId × Value → H) :
    ReturnsInHanded {} Tryd.checked os 3 .any (fun w args => (Rows.hexwriteRecordsSpec.pre enc Tryd.prog Tryd.f3 [] false w args ∧ laidMetH Tryd.prog Rows.hexwriteRecordsRow.laid w) ∧ sizedMet enc Tryd.prog Tryd.f3 (OpenSpec.ofChange Rows.hexwriteRecordsSpec) false w args)
      (Rows.hexwriteRecordsSpec.post enc Tryd.prog Tryd.f3 false true false false) := by
  refine returnsInHanded_of_change_and (C := Tryd.checked) (X := fun w _ => laidMetH Tryd.prog Rows.hexwriteRecordsRow.laid w) (fun _ _ _ hh h => h.of_heap hh) own started (by kernel_rfl) Tryd.func3
    (ChangeSpec.witness_shaped (enc := enc) (C := Tryd.checked) (os := os) (X := fun w _ => laidMetH Tryd.prog Rows.hexwriteRecordsRow.laid w) false (World.laidAll Tryd.prog os Rows.hexwriteRecordsRow.laid) #[.slice none 0 0] 8 (World.laidAll_os _ _ _)
      (World.shaped_of_ZipB (by kernel_rfl) (by kernel_rfl)) (by kernel_rfl) (by kernel_rfl) (by kernel_rfl)
      (by rw [MakeChecks.laidMetH_plain _ _ _ (by kernel_rfl)]; exact laidMet_laidAll _ (by kernel_rfl) (by kernel_rfl))) ?_
  intro W base args ds gs before hval0 hW _ _ hL _
  have hval : ∀ (j : Nat) t v, Tryd.f3.params[j]? = some t → args[j]? = some v → Value.okWide Tryd.prog W .any base t v := hval0
  have hW' := hW
  obtain ⟨p, q, hA0, hV, rfl, _, _⟩ := hW
  have hA : DataW.TrodAll enc Tryd.prog W 0 (fun _ => true) true Tryd.f3.params.toList args.toList ds p := hA0
  rw [Tryd.params3] at hA hval
  obtain ⟨v0, vs0, d0, ds0, p0, q0, hargs, rfl, rfl, h0, r0⟩ := trodAll_cons hA
  obtain ⟨rfl, rfl, rfl⟩ := trodAll_nil r0
  obtain rfl : args = #[v0] := by cases args; simp_all
  obtain ⟨rfl, rfl⟩ := trodVars_none hV
  have k0 := h0
  have lt0 : ∀ x ∈ p0, x.block < W.heap.size := by obtain ⟨m, hm⟩ := k0; exact DataW.trod_lt m _ _ _ hm
  obtain ⟨a0, len0, cap0, rfl⟩ := okWide_slice Tryd.underlying22 (hval 0 22 v0 rfl rfl)
  obtain ⟨z0, hz0, hm0, w0, d0'⟩ : ∃ rs, len0 = rs.length ∧ len0 ≤ maxLen ∧ Im.RunsP (fun _ => True) (fun _ => True) W a0 rs ∧ ∀ r ∈ rs, r.data.length ≤ maxLen := by
    obtain ⟨fuel, hf⟩ := h0
    have hf' : DataW.trod enc Tryd.prog W 0 (fun _ => true) true fuel 22 [.slice a0 len0 cap0] = some (d0, p0) := by simpa [Value.cells] using hf
    obtain ⟨A, len, cap, rs, e1, e2, e3, e4, e5⟩ := Im.open_runs hf'
    simp only [Value.slice.injEq] at e1
    obtain ⟨rfl, rfl, rfl⟩ := e1
    exact ⟨rs, e2, e3, e4, e5⟩
  subst hz0
  clear hA0 hval0
  refine (walk a0 cap0 z0 W hm0 w0 d0').mono fun e W' ⟨he, bel⟩ => ?_
  subst he
  exact ⟨_, rfl, _, _, _, [], _, [], hW', trodAll_mk1 (shut_bool Tryd.underlying4 _), (trodAll_cons_mk (Below.trod laidOut (by kernel_rfl) (of_decide_eq_true (by kernel_rfl)) k0 bel lt0) trodAll_mk0), rfl, bel.frame _, fun h => by cases h⟩

theorem over : Rows.HexwriteRecordsSaid :=
  OpenClaim.holds_of_wide 3 Tryd.f3 rfl rfl rfl rfl rfl rfl rfl ⟨rfl, rfl, rfl, rfl, rfl⟩ rfl rfl rfl rfl rfl (by kernel_rfl) Tryd.func3 (by kernel_rfl)
    (of_decide_eq_true (by kernel_rfl)) (by unfold Func.isWrapper; first | (rw [if_pos (by decide +kernel)]; kernel_rfl) | (rw [if_neg (by decide +kernel)]; exact ⟨rfl, rfl⟩))
    (fun os started H enc _ => lifted os started H enc)
theorem card_holds : Rows.HexwriteRecordsCardSaid :=
  Claim7.holds_tied_plain_at .later [] [.data, .pinned] true Rows.hexwriteRecordsCard.stood.harness false over (fun _ h => by cases h) (by kernel_rfl) (fun _ h => by cases h) hexwriteRecords_row_tie rfl ⟨rfl, rfl⟩ (by kernel_rfl) rfl
    (fun f fn hf hfn => by
      obtain rfl : f = 3 := Option.some.inj ((show Tryd.prog.funcNamed "breadboard/breadboardlaw04.HexwriteRecords" = some 3 by kernel_rfl).symm.trans hf) |>.symm
      obtain rfl : fn = Tryd.f3 := (Option.some.inj (Tryd.func3.symm.trans hfn)).symm
      exact ⟨by kernel_rfl, fun j t ht => by
        rw [Tryd.params3] at ht
        have hm : t ∈ [22] := by simpa [or_assoc, or_comm, or_left_comm] using Array.mem_of_getElem? ht
        have hall : ([22].all fun u => !Tryd.prog.wantsStandIn u) = true := by kernel_rfl
        exact (show Tryd.prog.wantsStandIn t = false by simpa using List.all_eq_true.1 hall t hm)⟩)
    (by kernel_rfl)
#print axioms card_holds
end Go.Proofs.YtnldpcnbhibinaaDoor.hexwriteRecordsDone
