/-
  RecordSplits, for all addresses, sizes and bytes: Split returns the records of the reference: the law returns true, and its arguments read as they did.
  Conditions: none.
-/
import Derived.Test.YtbnehcnimbkakaaRecO
import Derived.Test.YtbnehcnimbkakaaRecY
import Derived.Test.YtbnehcnimbkakaaRows
import Derived.ProofKit
import Derived.OpenShut
import Derived.Lay
import Derived.LaidOnce
import Derived.SevenTiedAt
import Derived.Below
namespace Go.Proofs.Ytbnehcnimbkakaa.recordSplitsDone
open Go.ChangeShapes Go.WideShapes Go.ChangeAt Go.RowKit
open Go.ChangeMaps (open_string shut_string)
set_option linter.unusedVariables false

theorem own : ownKnob Try.prog.godebug = none := by kernel_rfl
theorem laidOut : laidOutB Try.prog = true := by kernel_rfl
/-- A slice of integers that came in: nil, or a row of 'cap' cells that hold the numbers 'zs'. -/
def IsRow (k : IntKind) (w : World) (a : Option Addr) (len cap : Nat) (zs : List Int) : Prop :=
  (a = none ∧ len = 0 ∧ cap = 0 ∧ zs = []) ∨
  ∃ x, a = some x ∧ len ≤ cap ∧ cap ≤ maxLen ∧ zs.length = cap ∧ (∀ i, i < zs.length → w.cell? (x.add i) = some (.int k (zs.getD i 0))) ∧ ∀ n ∈ zs, (Lit.int k n).wf = true

/-- Two records that lie in memory: one of its own, one in a row. -/
def Six (b0 g o : Nat) (a : Int) (n : Nat) (A1 : Option Addr) (c1 : Nat) (A2 : Option Addr) (c2 : Nat) (w : World) : Prop :=
  (w.cell? ⟨b0, 0, none⟩ = some (.int .i64 0) ∧ w.cell? ⟨b0, 1, none⟩ = some (.int .i64 a) ∧ w.cell? ⟨b0, 2, none⟩ = some (.slice A1 n c1)) ∧
  w.cell? ⟨g, o, none⟩ = some (.int .i64 0) ∧ w.cell? ⟨g, o + 1, none⟩ = some (.int .i64 a) ∧ w.cell? ⟨g, o + 2, none⟩ = some (.slice A2 n c2)
theorem Six.below {b0 g o : Nat} {a : Int} {n : Nat} {A1 : Option Addr} {c1 : Nat} {A2 : Option Addr} {c2 : Nat} {w w' : World} (h : Six b0 g o a n A1 c1 A2 c2 w) (k : Below w.heap.size w w') : Six b0 g o a n A1 c1 A2 c2 w' := by
  obtain ⟨⟨h1, h2, h3⟩, h4, h5, h6⟩ := h
  have e : ∀ (p : Addr) (v : Value), w.cell? p = some v → w'.cell? p = some v := fun p v hp => (k.cell (World.block_lt_of_cell? w _ hp)).trans hp
  exact ⟨⟨e _ _ h1, e _ _ h2, e _ _ h3⟩, e _ _ h4, e _ _ h5, e _ _ h6⟩
attribute [local irreducible] Go.Mixed.wpMix
set_option maxHeartbeats 2000000 in
theorem walk (ad sz : Int) (A : Option Addr) (cap : Nat) (xs : List UInt8) (w : World) (wad : (Lit.int .i64 ad).wf = true) (wsz : (Lit.int .i64 sz).wf = true) (hm : xs.length ≤ maxLen) (hx : BytesP (fun _ => True) w A xs) (hc : xs.length ≤ cap) :
    Calls Try.prog 7 #[.int .i64 ad, .int .i64 sz, .slice A xs.length cap] w fun e w' => e = .returned (.bool true) ∧ Below w.heap.size w w' := by
  clear wad wsz
  have hm0 := hm
  unfold maxLen at hm
  by_cases hl : 2000 < xs.length
  · have hl' : (2000 : Int) < (xs.length : Int) := by omega
    clear hx
    go_enter Try.func7, Try.ntmps7
    go_wp2_with fail
    refine (alive_any _).mono ?_
    rintro e w1 ⟨rfl, hb1⟩
    have N := Lib.hid hb1
    clear hb1
    go_wp2
    go_ret
    exact ⟨rfl, N.out⟩
  · have hl' : decide ((2000 : Int) < (xs.length : Int)) = false := decide_eq_false (by omega)
    have X := Lib.hid (hx.mono (Q := fun i => i < w.heap.size) fun i hi _ => hi)
    have HL := Lib.hid hl
    have hs := split_any _ ad sz A cap xs hm0 hc w X.out
    clear hx hl
    go_enter Try.func7, Try.ntmps7
    go_wp2_with fail
    refine hs.mono ?_
    rintro e w1 ⟨v1, rs1, n1, hn1, rfl, hO1, hW1, hP1, hB1⟩
    have X1 := Lib.hid (X.out.below hB1)
    have O1 := Lib.hid hO1
    have P1 := Lib.hid hP1
    have B1 := Lib.hid hB1
    have hrs := rsplit_any _ ad sz A cap xs hm0 hc w1 X1.out
    clear hs hO1 hP1 hB1 hW1 hn1
    go_wp2_with fail
    refine hrs.mono ?_
    rintro e w2 ⟨v2, rs2, rfl, hO2, hP2, hB2⟩
    obtain ⟨L, hL⟩ : ∃ L, (splW ad sz xs).length = L := ⟨_, rfl⟩
    have hr1 : rs1.length = L := by rw [pairs_length P1.out, hL]
    have hr2 : rs2.length = L := by rw [pairs_length hP2, hL]
    have hLl : L ≤ xs.length := by rw [← hL]; exact splW_len ad sz xs
    obtain ⟨A1, cap1, hv1⟩ := O1.out.len_le
    obtain ⟨A2, cap2, hv2⟩ := hO2.len_le
    rw [hr1] at hv1
    rw [hr2] at hv2
    have X2 := Lib.hid (X1.out.below hB2)
    have R1 := Lib.hid (O1.out.below hB2)
    have R2 := Lib.hid hO2
    have P2 := Lib.hid hP2
    have B2 := Lib.hid (B1.out.trans (hB2.mono B1.out.size))
    have HR := Lib.hid (And.intro hr1 hr2)
    have HX := Lib.hid hL
    have HLL := Lib.hid hLl
    subst hv1 hv2
    clear hrs hO2 hP2 hB2 hr1 hr2 hL X X1 O1
    have hL63 : L ≤ 2000 := by have := HL.out; omega
    clear hLl
    go_wp2
    go_loopw [9, 31] (fun v i wr => ∃ k : Nat, k ≤ L ∧ i = .int .i64 k ∧ OwnB w2 wr v (catL (splW ad sz xs) k)) (fun _ i _ => L - (intOf i).toNat)
    case atStart => exact ⟨0, Nat.zero_le _, rfl, by rw [catL_zero]; exact ownB_start _⟩
    case round =>
      obtain ⟨k, hk, rfl, hO⟩ := hrel
      have O := Lib.hid hO
      clear hO
      by_cases hlt : k < L
      · have hlt' : (k : Int) < (L : Int) := by omega
        have T1 := R1.out.below O.out.2
        have T2 := R2.out.below O.out.2
        obtain ⟨hr1, hr2⟩ := HR.out
        have hk1 : k < rs1.length := by omega
        have hk2 : k < rs2.length := by omega
        have hkl : k < (splW ad sz xs).length := by rw [HX.out]; exact hlt
        obtain ⟨g1, q1, hv1, _, _, hc1⟩ := T1.at_ (by omega)
        obtain ⟨g2, q2, hv2, _, hg2, hc2⟩ := T2.at_ (by omega)
        simp only [Value.slice.injEq] at hv1 hv2
        obtain ⟨rfl, z1, z2⟩ := hv1
        obtain ⟨rfl, z3, z4⟩ := hv2
        clear z1 z2 z3 z4
        obtain ⟨p1, p2, p3⟩ := hc1 k hk1
        obtain ⟨s1, s2, s3⟩ := hc2 k hk2
        have D1 := T1.2 _ (List.getElem_mem hk1)
        have D2 := T2.2 _ (List.getElem_mem hk2)
        obtain ⟨e1, e2⟩ := pairs_at P1.out hk1 hkl
        obtain ⟨e3, e4⟩ := pairs_at P2.out hk2 hkl
        have hdl := splW_dat ad sz xs k hkl
        have hcs := catL_succ (splW ad sz xs) k hkl
        have hcl : (catL (splW ad sz xs) k).length ≤ 2000 := by
          have h1 := catL_le (splW ad sz xs) k
          rw [splW_cat ad sz xs (by omega)] at h1
          have := HL.out
          omega
        obtain ⟨a, ha⟩ : ∃ a, (splW ad sz xs)[k].1 = a := ⟨_, rfl⟩
        obtain ⟨D, hD⟩ : ∃ D, (splW ad sz xs)[k].2 = D := ⟨_, rfl⟩
        rw [ha] at e1 e3
        rw [hD] at e2 e4 hdl hcs
        rw [e1] at p2
        rw [e2] at p3 D1
        rw [e3] at s2
        rw [e4] at s3 D2
        obtain ⟨x1, hx1⟩ : ∃ x1, rs1[k].A = x1 := ⟨_, rfl⟩
        obtain ⟨y1, hy1⟩ : ∃ y1, rs1[k].cap = y1 := ⟨_, rfl⟩
        obtain ⟨x2, hx2⟩ : ∃ x2, rs2[k].A = x2 := ⟨_, rfl⟩
        obtain ⟨y2, hy2⟩ : ∃ y2, rs2[k].cap = y2 := ⟨_, rfl⟩
        rw [hx1, hy1] at p3
        rw [hx2, hy2] at s3
        rw [hx1] at D1
        rw [hx2] at D2
        clear hc1 hc2 e1 e2 e3 e4 ha hD hx1 hy1 hx2 hy2 hr1 hr2 T1 T2
        have hcs' := hcs
        obtain ⟨n, hn⟩ : ∃ n, D.length = n := ⟨_, rfl⟩
        rw [hn] at p3 s3 hdl
        have hn63 : n ≤ 255 := hdl
        obtain ⟨ob, hob⟩ : ∃ o, Obj.cells #[.int .i64 0, .int .i64 a, .slice x1 n y1] 28 = o := ⟨_, rfl⟩
        have hal : Below wr.heap.size wr (wr.alloc ob) := (Below.refl _ _).alloc (Nat.le_refl _) ob
        have tc := three_cells wr wr.heap.size rfl (.int .i64 0) (.int .i64 a) (.slice x1 n y1) 28
        rw [hob] at tc
        have hS : Six wr.heap.size g2 (k * 3) a n x1 y1 x2 y2 (wr.alloc ob) :=
          ⟨tc, (hal.cell (p := ⟨g2, k * 3, none⟩) hg2).trans s1, (hal.cell (p := ⟨g2, k * 3 + 1, none⟩) hg2).trans s2, (hal.cell (p := ⟨g2, k * 3 + 2, none⟩) hg2).trans s3⟩
        have hdr : Below (wr.alloc ob).heap.size (wr.alloc ob) (wr.alloc ob).drew := (Below.refl _ _).drew
        have hS2 := hS.below hdr
        have D1b := (D1.below hal).below hdr
        have D2b := (D2.below hal).below hdr
        have O2 := Lib.hid ((O.out.more hal).more hdr)
        have hsm := rsame_any _ _ 0 a x1 y1 D 0 a x2 y2 D _ D1b D2b
        rw [sameR_yes, decide_eq_true rfl, hn] at hsm
        clear tc hS hdr hal s1 s2 s3 D1 D2
        go_wp2_with fail
        refine Mixed.wp_region_mixed (fun w' => Six wr.heap.size g2 (k * 3) a n x1 y1 x2 y2 w') 15 [(0, true), (1, true), (2, true), (3, true), (4, true), (5, false), (6, true), (7, true), (8, true), (9, true), (10, true), (11, true), (12, true), (13, false), (14, true)] (by kernel_rfl) (by kernel_rfl) hS2 ?_
        refine Mixed.wpMix_pure rfl rfl (.agg #[.int .i64 0, .int .i64 a, .slice x1 n y1]) (fun w h => by obtain ⟨⟨p1, p2, p3⟩, s1, s2, s3⟩ := h; go_simp; try rfl) ?_
        refine Mixed.wpMix_move rfl rfl _ rfl _ rfl ?_
        refine Mixed.wpMix_move rfl rfl _ rfl _ rfl ?_
        refine Mixed.wpMix_pure rfl rfl (.pointer (some ⟨g2, k * 3, none⟩)) (fun w h => by clear h; go_simp; try rfl) ?_
        refine Mixed.wpMix_pure rfl rfl (.agg #[.int .i64 0, .int .i64 a, .slice x2 n y2]) (fun w h => by obtain ⟨⟨p1, p2, p3⟩, s1, s2, s3⟩ := h; go_simp; try rfl) ?_
        refine Mixed.wpMix_loud rfl ?_
        go_wp2_with fail
        refine hsm.mono ?_
        rintro e w3 ⟨rfl, hb3⟩
        have hS3 := hS2.below hb3
        have D1c := D1b.below hb3
        have O3 := Lib.hid (O2.out.more hb3)
        have hsm3 := same_any _ _ 0 a x1 y1 D 0 a x2 y2 D w3 D1c (D2b.below hb3)
        rw [sameR_yes, decide_eq_true rfl, hn] at hsm3
        clear hsm D1b D2b hb3
        go_wp2
        refine ⟨hS3, ?_⟩
        refine Mixed.wpMix_pure rfl (by kernel_rfl) (.bool false) (fun w h => by clear h; go_simp; try rfl) ?_
        refine Mixed.wpMix_move rfl (by kernel_rfl) _ rfl _ rfl ?_
        refine Mixed.wpMix_pure rfl (by kernel_rfl) (.agg #[.int .i64 0, .int .i64 a, .slice x1 n y1]) (fun w h => by obtain ⟨⟨p1, p2, p3⟩, s1, s2, s3⟩ := h; go_simp; try rfl) ?_
        refine Mixed.wpMix_move rfl (by kernel_rfl) _ rfl _ rfl ?_
        refine Mixed.wpMix_move rfl (by kernel_rfl) _ rfl _ rfl ?_
        refine Mixed.wpMix_pure rfl (by kernel_rfl) (.pointer (some ⟨g2, k * 3, none⟩)) (fun w h => by clear h; go_simp; try rfl) ?_
        refine Mixed.wpMix_pure rfl (by kernel_rfl) (.agg #[.int .i64 0, .int .i64 a, .slice x2 n y2]) (fun w h => by obtain ⟨⟨p1, p2, p3⟩, s1, s2, s3⟩ := h; go_simp; try rfl) ?_
        refine Mixed.wpMix_loudG rfl (by kernel_rfl) ?_
        go_wp2_with fail
        refine hsm3.mono ?_
        rintro e w4 ⟨rfl, hb4⟩
        have hS4 := hS3.below hb4
        have O4 := O3.out.more hb4
        obtain ⟨v5, w5, k1, k2⟩ := ownB_append O4 (D1c.below hb4) y1 (by omega) 22
        rw [hn] at k1
        rw [← hcs] at k2
        have K1 := Lib.hid k1
        have O5 := Lib.hid k2
        clear hsm3 D1c hb4 k1 k2 hS2 hS3 O4 hcs hcs'
        go_wp2
        refine ⟨hS4, ?_⟩
        refine Mixed.wpMix_pure rfl rfl (.bool false) (fun w h => by clear h; go_simp; try rfl) ?_
        simp only [Mixed.wpMix, List.drop_succ_cons, List.drop_zero]
        obtain ⟨⟨p4, p5, p6⟩, -⟩ := hS4
        clear hob
        go_wp2_with (at_builtin; refine wpList_run_append K1.out rfl _ _ rfl rfl rfl rfl ?_)
        go_roundw
        case rel => exact ⟨k + 1, by omega, by go_num, O5.out⟩
        case measure => simp [intOf]; omega
      · have hlt' : decide ((k : Int) < (L : Int)) = false := decide_eq_false (by omega)
        go_wp2_with fail
        refine (alive_any _).mono ?_
        rintro e w3 ⟨rfl, hb3⟩
        have B3 := Lib.hid ((B2.out.trans (O.out.2.mono B2.out.size)).trans (hb3.mono (Nat.le_trans B2.out.size O.out.2.size)))
        by_cases h0 : L = 0
        · have hz : ((L : Int) == 0) = true := by rw [h0]; rfl
          clear hb3 h0
          go_wp2
          go_ret
          exact ⟨rfl, B3.out⟩
        · have hz : ((L : Int) == 0) = false := beq_eq_false_iff_ne.2 (by omega)
          have hcat : catL (splW ad sz xs) k = xs := by
            have h1 := splW_cat ad sz xs (by rw [HX.out]; omega)
            rwa [HX.out, show L = k by omega] at h1
          obtain ⟨A3, cap3, hv3, hB3⟩ := own_bytes O.out.1 rfl
          rw [hcat] at hv3 hB3
          have heq := equal_any A3 A cap3 cap xs xs hm0 hm0 w3 (hB3.below hb3).toB ((X2.out.below O.out.2).below hb3).toB
          rw [decide_eq_true rfl] at heq
          subst hv3
          clear hb3 h0 hB3 hcat O
          go_wp2_with fail
          refine heq.mono ?_
          rintro e w4 ⟨rfl, q, rfl⟩
          have B4 : Hid (Below w.heap.size w (w3.drewN q)) := below_drewN B3.out q
          clear heq
          go_wp2
          go_ret
          exact ⟨rfl, B4.out⟩

set_option maxRecDepth 100000 in
theorem lifted (os : Os) (started : os.Started) (H : Type) (enc : TypeId × Value → H) :
    ReturnsInHanded {} Try.checked os 7 .any (Rows.recordSplitsSpec.pre6 enc Try.prog Try.f7 Rows.recordSplitsRow.domain false) (Rows.recordSplitsSpec.post enc Try.prog Try.f7 false true false false) := by
  refine returnsInHanded_of_change (C := Try.checked) own started (by kernel_rfl) Try.func7
    (ChangeSpec.witness6 (enc := enc) (C := Try.checked) false ⟨#[], #[.int .i64 0, .int .i64 0, .slice none 0 0], []⟩ 8 (by kernel_rfl) (by kernel_rfl) (by kernel_rfl) (by kernel_rfl)) ?_
  intro W base args ds gs before hval0 hW _ _
  have hval : ∀ (j : Nat) t v, Try.f7.params[j]? = some t → args[j]? = some v → Value.okWide Try.prog W .any base t v := hval0
  have hW' := hW
  obtain ⟨p, q, hA0, hV, rfl, _, _⟩ := hW
  have hA : DataW.TrodAll enc Try.prog W 0 (fun _ => true) true Try.f7.params.toList args.toList ds p := hA0
  rw [Try.params7] at hA hval
  obtain ⟨v0, vs0, d0, ds0, p0, q0, hargs, rfl, rfl, h0, r0⟩ := trodAll_cons hA
  obtain ⟨v1, vs1, d1, ds1, p1, q1, rfl, rfl, rfl, h1, r1⟩ := trodAll_cons r0
  obtain ⟨v2, vs2, d2, ds2, p2, q2, rfl, rfl, rfl, h2, r2⟩ := trodAll_cons r1
  obtain ⟨rfl, rfl, rfl⟩ := trodAll_nil r2
  obtain rfl : args = #[v0, v1, v2] := by cases args; simp_all
  obtain ⟨rfl, rfl⟩ := trodVars_none hV
  obtain ⟨a0, rfl, rfl, rfl, w0⟩ := open_int Try.underlying3 (hval 0 3 v0 rfl rfl) h0
  obtain ⟨a1, rfl, rfl, rfl, w1⟩ := open_int Try.underlying3 (hval 1 3 v1 rfl rfl) h1
  have k2 := h2
  have lt2 : ∀ x ∈ p2, x.block < W.heap.size := by obtain ⟨m, hm⟩ := k2; exact DataW.trod_lt m _ _ _ hm
  obtain ⟨a2, len2, cap2, rfl⟩ := okWide_slice Try.underlying22 (hval 2 22 v2 rfl rfl)
  obtain ⟨z2, hz2, hm2, w2, c2⟩ : ∃ xs, len2 = xs.length ∧ len2 ≤ maxLen ∧ BytesP (fun _ => True) W a2 xs ∧ len2 ≤ cap2 := by
    obtain ⟨fuel, hf⟩ := h2
    have hf' : DataW.trod enc Try.prog W 0 (fun _ => true) true fuel 22 [.slice a2 len2 cap2] = some (d2, p2) := by simpa [Value.cells] using hf
    obtain ⟨A, len, cap, xs, e1, e2, e3, e4, e5⟩ := open_bytesC hf'
    simp only [Value.slice.injEq] at e1
    obtain ⟨rfl, rfl, rfl⟩ := e1
    exact ⟨xs, e2, e3, e4, e5⟩
  subst hz2
  clear hA0 hval0
  refine (walk a0 a1 a2 cap2 z2 W w0 w1 hm2 w2 c2).mono fun e W' ⟨he, bel⟩ => ?_
  subst he
  exact ⟨_, rfl, _, _, _, [], _, [], hW', trodAll_mk1 (shut_bool Try.underlying4 _), (trodAll_cons_mk (shut_int Try.underlying3 w0) (trodAll_cons_mk (shut_int Try.underlying3 w1) (trodAll_cons_mk (Below.trod laidOut (by kernel_rfl) (of_decide_eq_true (by kernel_rfl)) k2 bel lt2) trodAll_mk0))), rfl, bel.frame _, fun h => by cases h⟩

theorem over : Rows.RecordSplitsSaid :=
  OpenClaim.holds_of_wide 7 Try.f7 rfl rfl rfl rfl rfl rfl rfl ⟨rfl, rfl, rfl, rfl, rfl⟩ rfl rfl rfl rfl rfl (by kernel_rfl) Try.func7 (by kernel_rfl)
    (of_decide_eq_true (by kernel_rfl)) (by unfold Func.isWrapper; first | (rw [if_pos (by decide +kernel)]; kernel_rfl) | (rw [if_neg (by decide +kernel)]; exact ⟨rfl, rfl⟩))
    (fun os started H enc _ => lifted os started H enc)
#print axioms over
end Go.Proofs.Ytbnehcnimbkakaa.recordSplitsDone
