/-
  DfC, MixT, DgE, DgF.
-/
import Derived.Test.YtmnleknehjkmgaaGreatGAR
import Derived.Test.YtmnleknehjkmgaaGreatGAS
import Derived.Test.YtmnleknehjkmgaaGreatGAO
import Derived.Test.YtmnleknehjkmgaaGreatGAB
import Derived.Deep.DeepCutAuto
import Derived.Deep.Cut
import Derived.Test.YtmnleknehjkmgaaGreatGAA
import Derived.Test.YtmnleknehjkmgaaGreatGAT
import Derived.Test.YtmnleknehjkmgaaGreatGAI
import Derived.Test.YtmnleknehjkmgaaGreatMSeN
import Derived.Laws.Tables
import Derived.Laws.CopyOwn
set_option linter.all false
set_option maxRecDepth 100000
set_option maxHeartbeats 4000000
namespace Go.Proofs.YtmnleknehjkmgaaGreat
open Go.RowKit Go.Shelf
attribute [local go_sem] Oper.semAt_some
attribute [local irreducible] Go.Mixed.wpMix
theorem retIt_put {w w1 w2 : World} {n : Nat} {x : Ite} {A B : Option Addr} {c c2 : Nat} (hn : w.heap.size = n) (hb : Below n w w1) (hz : n < w1.heap.size) (O : TOwnB w1 (n + 1) (.slice A x.raw.length c) x.raw) (T : OwnT w1 (n + 1) (.slice B x.C.length c2) x.C)
    (hput : Below n w1 w2 ∧ (∀ B u L, n < B → OwnT w1 B u L → OwnT w2 B u L) ∧ (∀ B u L, n < B → TOwnB w1 B u L → TOwnB w2 B u L)) :
    RetIt w x (.returned (.agg #[.int .i64 x.kind, .slice A x.raw.length c, .string (sB x.m), .slice B x.C.length c2, .bool x.al])) w2 :=
  ⟨A, c, B, c2, rfl, by rw [hn]; exact (hput.2.2 _ _ _ (by omega) O).lift (by omega), by rw [hn]; exact row_mono (hput.2.1 _ _ _ (by omega) T) (by omega), by rw [hn]; exact hb.trans hput.1⟩
def itF (n : Nat) (kind : Int) (va : Value) (s : ByteArray) (vb : Value) (al : Bool) : Fr.F := ⟨fun w => ItAt w n kind va s vb al, fun h hb => h.all hb⟩
def byF (A : Option Addr) (b : Str) : Fr.F := ⟨fun w => BytesAt w A b, fun h hb => h.below hb⟩
def opF (A : Option Addr) (L : List Tr) : Fr.F := ⟨fun w => OpsP w A L, fun h hb => h.below hb⟩
theorem it_ownB {w w' : World} {b B : Nat} {kind : Int} {va vb u : Value} {s : ByteArray} {al : Bool} {xs : Str} (h : ItAt w b kind va s vb al) (O : TOwnB w B u xs) (k : ∀ k, k ≠ b → w'.heap[k]? = w.heap[k]?) : TOwnB w' B u xs := by
  refine ⟨O.1, ?_⟩
  rcases O.2 with h2 | ⟨g, cap, cur, h3, h4, h5, h6⟩
  · exact .inl h2
  · refine .inr ⟨g, cap, cur, h3, h4, (k g (fun e => ?_)).trans h5, h6⟩
    subst e
    rw [show w.heap[g]? = _ from h] at h5
    simp at h5
theorem it_ownT {w w' : World} {b B : Nat} {kind : Int} {va vb u : Value} {s : ByteArray} {al : Bool} {L : List Tr} (h : ItAt w b kind va s vb al) (O : OwnT w B u L) (k : ∀ k, k ≠ b → w'.heap[k]? = w.heap[k]?) : OwnT w' B u L := by
  refine ⟨O.1, ?_⟩
  rcases O.2 with h2 | ⟨g, cap, cur, h3, h4, h5, h6⟩
  · exact .inl h2
  · refine .inr ⟨g, cap, cur, h3, h4, (k g (fun e => ?_)).trans h5, h6⟩
    subst e
    rw [show w.heap[g]? = _ from h] at h5
    simp at h5
theorem ItAt.put2 {w : World} {b : Nat} {kind : Int} {va vb : Value} {s : ByteArray} {al : Bool} (h : ItAt w b kind va s vb al) (s' : ByteArray) (vb' : Value) :
    ∃ w', (w.setCell ⟨b, 2, none⟩ (.string s')).setCell ⟨b, 3, none⟩ vb' = w' ∧ ItAt w' b kind va s' vb' al ∧ Below b w w' ∧ ∀ k, k ≠ b → w'.heap[k]? = w.heap[k]? := by
  refine ⟨_, rfl, ?_, ?_, fun k hk => ?_⟩
  · exact heap_setCell_same _ b 3 _ _ vb' (heap_setCell_same w b 2 _ _ (.string s') h)
  · exact ((Below.refl b w).setCell (p := ⟨b, 2, none⟩) (Nat.le_refl _) _).setCell (p := ⟨b, 3, none⟩) (Nat.le_refl _) _
  · exact (heap_setCell_other _ ⟨b, 3, none⟩ k _ hk).trans (heap_setCell_other _ ⟨b, 2, none⟩ k _ hk)
theorem ItAt.put4 {w : World} {b : Nat} {kind : Int} {va vb : Value} {s : ByteArray} {al : Bool} (h : ItAt w b kind va s vb al) (al' : Bool) :
    ∃ w', w.setCell ⟨b, 4, none⟩ (.bool al') = w' ∧ ItAt w' b kind va s vb al' ∧ Below b w w' ∧ ∀ k, k ≠ b → w'.heap[k]? = w.heap[k]? :=
  ⟨_, rfl, heap_setCell_same w b 4 _ _ _ h, (Below.refl b w).setCell (p := ⟨b, 4, none⟩) (Nat.le_refl _) _, fun k hk => heap_setCell_other _ ⟨b, 4, none⟩ k _ hk⟩
theorem rfirst12_any (b : Str) (hb : b ≠ []) (A : Option Addr) (cap l : Nat) (hl : b.length = l) (hc : l ≤ cap) (hcm : cap ≤ maxLen) (hl2 : l ≤ 10000) (w : World) (H : BytesAt w A b) :
    Calls Tryz.prog 32 #[.slice A l cap] w (RetIt w (itR b)) := by
  obtain ⟨n, hn⟩ : ∃ z, w.heap.size = z := ⟨_, rfl⟩
  have HN := Lib.hid hn
  obtain ⟨w0, hw0, I0, y0, z0⟩ := it_start w n hn
  have pg := rpage12_any b hb A cap l hl w0 (H.below y0)
  have IT := Lib.hid (fun kind k hk w' h => ritem12_any kind b A cap l hl hc hcm k hk hl2 w' h)
  have HB : Hid (∀ w', Below n w w' → BytesAt w' A b) := fun w' h => H.below (by rw [hn]; exact h)
  have I0 := Lib.hid I0
  have B0 : Hid (Below n w w0) := by rw [← hn]; exact y0
  obtain ⟨hpr, hp3, hp5⟩ := pg_rng b
  have PN := Lib.hid (@pg_none b)
  have PS := Lib.hid (@pg_some b)
  have NX : Hid (nxA b = if 5 ≤ (pgA b).1 then 2 else (pgA b).2 + 1) := rfl
  have SN := Lib.hid (fun g i ex (hx : ExP g i ex) hg h => st_num (b := b) hx hg h)
  have SB := Lib.hid (fun g i ex (hx : ExP g i ex) hg h => st_bnd (b := b) hx hg h)
  obtain ⟨⟨p, at_⟩, hpa⟩ : ∃ q, pgA b = q := ⟨_, rfl⟩
  have HPA := Lib.hid hpa
  rw [hpa] at pg hpr hp3 hp5
  simp only at pg hpr hp3 hp5
  have HL := Lib.hid hl
  clear H y0 hpa hl hcm hc hb
  go_enter Tryz.func32, Tryz.ntmps32
  go_wp2_with fail
  refine pg.mono ?_
  rintro e w' ⟨rfl, hw⟩
  rw [hw]
  clear pg hw
  by_cases hat : l ≤ at_
  · have hh : hdB b = none := PN.out (by rw [HPA.out, HL.out]; exact hat)
    have HI : Hid (itR b = iteO 4 (b.take l)) := by show itR b = _; unfold itR; rw [hh, ← HL.out, List.take_length]
    have it := IT.out 4 l (Nat.le_refl _) w0 (HB.out _ B0.out)
    have LT : Hid ((b.take l).length = l) := by show _ = _; rw [List.length_take, HL.out]; omega
    clear hh IT PN PS SN SB
    go_wp2_with fail
    refine it.mono ?_
    rintro e w1 ⟨A1, c1, A2, c2, rfl, hO, hT, hbl⟩
    rw [z0] at hO hT
    have I1 := I0.out.all hbl
    have B1 : Below n w w1 := B0.out.trans (hbl.mono (by omega))
    simp only [iteO, List.length_nil] at hO hT ⊢
    rw [LT.out] at hO ⊢
    obtain ⟨w2, hw2, i1, i2, i3, i4, i5, i6⟩ := I1.put 4 (.slice A1 l c1) (sB []) (.slice A2 0 c2) false
    have F := Lib.hid (retIt_put (w := w) (w2 := w2) (x := iteO 4 (b.take l)) HN.out B1 I1.lt (by simp only [iteO]; rw [LT.out]; exact hO) hT ⟨i2, i4, i5⟩)
    obtain ⟨k0, k1, k2, k3, k4, k5⟩ := I1.cells
    obtain ⟨j0, j1, j2, j3, j4, j5⟩ := i1.cells
    simp only [iteO, List.length_nil] at F
    rw [LT.out] at F
    clear it hbl hO hT B1 I1 i1 i2 i3 i4 i5 i6 B0 I0
    go_wp2
    refine bodyPost_ret (v := .agg #[.int .i64 4, .slice A1 l c1, .string (sB []), .slice A2 0 c2, .bool false]) ?_ rfl ?_
    · simp [results, Tryz.results32, go_sem, j0, j1, j2, j3, j4]
    · rw [HI.out]
      exact F.out
  · have hlt : at_ < l := by omega
    have hhd := PS.out (by rw [HPA.out, HL.out]; exact hlt)
    have SNb := fun g i ex (hx : ExP g i ex) hg => SN.out g i ex hx hg (by rw [HPA.out, HL.out]; exact hlt)
    have NX2 := NX.out
    simp only [HPA.out] at hhd SNb NX2
    have hab : at_ < b.length := by rw [HL.out]; exact hlt
    obtain ⟨g0, off, rfl, kb⟩ := (HB.out _ B0.out).cellAt hab
    obtain ⟨o, ho⟩ : ∃ o, b[at_] = o := ⟨_, rfl⟩
    rw [ho] at kb hhd
    obtain ⟨rest, hrest⟩ : ∃ t, (if 5 ≤ p then b.getD 2 0 :: b.drop 4 else b.drop (at_ + 1)) = t := ⟨_, rfl⟩
    rw [hrest] at hhd SNb
    have RA := rat_any p o.toNat o.toNat_lt w0
    unfold RetRAt at RA
    have HD := Lib.hid hhd
    have HITR : Hid (itR b = match ratT p o.toNat with
      | none => if rkindT p o.toNat = 0 then iteO 2 (b.take 1) else iteO 3 (b.take 2)
      | some x => if b.length < sizeT p x.2.2.1 then iteO 4 b else ⟨1, b.take (sizeT p x.2.2.1), x.1, (fillV x.2.2.1 x.2.1 (numB x.2.2.1 rest).1 (numB x.2.2.1 rest).2).getD [], x.2.2.2⟩) := by
      show itR b = _
      unfold itR
      rw [hhd]
      try rfl
    have hk := @hd_kind b p o rest hhd
    have hdl := hd_len hhd
    have EXP := @exP_of p o.toNat o.toNat_lt
    have PLC := @plc_of p o.toNat o.toNat_lt
    cases hx : ratT p o.toNat with
    | none =>
      rw [hx] at RA HITR
      simp only at RA HITR
      obtain ⟨kd, hkd⟩ : ∃ k, rkindT p o.toNat = k := ⟨_, rfl⟩
      have hkk := hk hx
      rw [hkd] at RA HITR hkk
      have SZ : Hid (kd = 3 → 2 ≤ l) := fun h => by
        have h2 : p = 2 := by rcases hkk with h0 | h0; omega; exact h0.2
        have := hdl.1
        rw [h2, HL.out] at this
        exact this
      have h03 : kd = 0 ∨ kd = 3 := by rcases hkk with h | h; exact .inl h; exact .inr h.1
      clear hk hkk hkd hx hhd hdl EXP PLC SNb PN PS SN SB NX NX2 hp5 hp3 hpr hrest ho
      unfold enV at RA
      go_wp2_with fail
      refine RA.mono ?_
      rintro e w1 ⟨rfl, hbl⟩
      have B1 : Below n w w1 := B0.out.trans (hbl.mono (by omega))
      have I1 := I0.out.all hbl
      have z1 : n < w1.heap.size := I1.lt
      clear RA hbl B0 I0 kb
      go_upto_region 5 with fail
      obtain ⟨wx, hwx⟩ : ∃ z, w1.alloc (.cells #[.int .i64 0, .int .u8 0, .string (sB []), .slice none 0 0, .string (sB []), .bool false] 80) = z := ⟨_, rfl⟩
      have yx : Below w1.heap.size w1 wx := by rw [← hwx]; exact up_alloc _ _
      have IX := Lib.hid (I1.all yx)
      have BX : Hid (Below n w wx) := B1.trans (yx.mono (by omega))
      have zx : Hid (n + 1 ≤ wx.heap.size) := by have := yx.size; show _ ≤ _; omega
      rw [hwx]
      clear hwx B1 I1 z1 yx
      rcases h03 with rfl | rfl
      · have it := IT.out 2 1 (by omega) wx (HB.out _ BX.out)
        have HI : Hid (itR b = iteO 2 (b.take 1)) := by show itR b = _; rw [HITR.out, if_pos rfl]
        have LT : Hid ((b.take 1).length = 1) := by show _ = _; rw [List.length_take, HL.out]; omega
        clear IT HITR
        go_wp2_with fail
        refine it.mono ?_
        rintro e w2 ⟨A1, c1, A2, c2, rfl, hO, hT, hbl⟩
        have I2 := IX.out.all hbl
        have B2 : Below n w w2 := BX.out.trans (hbl.mono (by have := zx.out; omega))
        have hO := hO.lift zx.out
        have hT := row_mono hT zx.out
        simp only [iteO, List.length_nil] at hO hT ⊢
        rw [LT.out] at hO ⊢
        obtain ⟨w3, hw3, i1, i2, i3, i4, i5, i6⟩ := I2.put 2 (.slice A1 1 c1) (sB []) (.slice A2 0 c2) false
        have F := Lib.hid (retIt_put (w := w) (w2 := w3) (x := iteO 2 (b.take 1)) HN.out B2 I2.lt (by simp only [iteO]; rw [LT.out]; exact hO) hT ⟨i2, i4, i5⟩)
        obtain ⟨k0, k1, k2, k3, k4, k5⟩ := I2.cells
        obtain ⟨j0, j1, j2, j3, j4, j5⟩ := i1.cells
        simp only [iteO, List.length_nil] at F
        rw [LT.out] at F
        clear it hbl hO hT B2 I2 i1 i2 i3 i4 i5 i6 BX IX
        go_wp2
        refine bodyPost_ret (v := .agg #[.int .i64 2, .slice A1 1 c1, .string (sB []), .slice A2 0 c2, .bool false]) ?_ rfl ?_
        · simp [results, Tryz.results32, go_sem, j0, j1, j2, j3, j4]
        · rw [HI.out]
          exact F.out
      · have it := IT.out 3 2 (SZ.out rfl) wx (HB.out _ BX.out)
        have HI : Hid (itR b = iteO 3 (b.take 2)) := by show itR b = _; rw [HITR.out, if_neg (by decide)]
        have LT : Hid ((b.take 2).length = 2) := by show _ = _; rw [List.length_take, HL.out]; have := SZ.out rfl; omega
        clear IT HITR
        go_wp2_with fail
        refine it.mono ?_
        rintro e w2 ⟨A1, c1, A2, c2, rfl, hO, hT, hbl⟩
        have I2 := IX.out.all hbl
        have B2 : Below n w w2 := BX.out.trans (hbl.mono (by have := zx.out; omega))
        have hO := hO.lift zx.out
        have hT := row_mono hT zx.out
        simp only [iteO, List.length_nil] at hO hT ⊢
        rw [LT.out] at hO ⊢
        obtain ⟨w3, hw3, i1, i2, i3, i4, i5, i6⟩ := I2.put 3 (.slice A1 2 c1) (sB []) (.slice A2 0 c2) false
        have F := Lib.hid (retIt_put (w := w) (w2 := w3) (x := iteO 3 (b.take 2)) HN.out B2 I2.lt (by simp only [iteO]; rw [LT.out]; exact hO) hT ⟨i2, i4, i5⟩)
        obtain ⟨k0, k1, k2, k3, k4, k5⟩ := I2.cells
        obtain ⟨j0, j1, j2, j3, j4, j5⟩ := i1.cells
        simp only [iteO, List.length_nil] at F
        rw [LT.out] at F
        clear it hbl hO hT B2 I2 i1 i2 i3 i4 i5 i6 BX IX
        go_wp2
        refine bodyPost_ret (v := .agg #[.int .i64 3, .slice A1 2 c1, .string (sB []), .slice A2 0 c2, .bool false]) ?_ rfl ?_
        · simp [results, Tryz.results32, go_sem, j0, j1, j2, j3, j4]
        · rw [HI.out]
          exact F.out
    | some x =>
      obtain ⟨m, L, ex, al⟩ := x
      rw [hx] at RA HITR
      simp only at RA HITR
      have hxp := EXP hx
      have hplc := PLC hx
      have hin : InTab (p, (o.toNat : Int), m, L, ex, al) := ⟨o.toNat, o.toNat_lt, rfl, hx⟩
      have ok := hin.ok
      have q1 := ok.ex
      have q2 := ok.len
      have q3 := ok.places
      simp only at q1 q2 q3 hxp hplc
      obtain ⟨C, hC⟩ := fill_in hxp hplc (numB_in hxp rest)
      have hst := SNb p o.toNat ex hxp rfl
      have hbd := fun hz => SB.out p o.toNat ex hxp (by rw [HPA.out]) hz
      have hss := sz_same hxp
      rw [hC, Option.getD_some] at HITR
      obtain ⟨nx, hnx⟩ : ∃ z, nxA b = z := ⟨_, rfl⟩
      have hnx3 : nx ≤ 4 ∧ (if 5 ≤ p then (2 : Nat) else at_ + 1) = nx := by rw [← hnx, NX2]; split <;> omega
      rw [hnx] at hst hbd
      obtain ⟨sz, hsz⟩ : ∃ z, sizeT p ex = z := ⟨_, rfl⟩
      rw [hsz] at HITR hbd hss
      have SZ := Lib.hid (fun A n cap w' => rsize_any p (o.toNat : Int) m A n cap ex (by omega) al w')
      rw [hss] at SZ
      obtain ⟨dn, hdn⟩ : ∃ z, numB ex rest = z := ⟨_, rfl⟩
      rw [hdn] at hst hC
      have RF := Lib.hid (fun A cap w' h => rfill_any p (o.toNat : Int) m A cap L.length L rfl (by omega) ex (by omega) al dn.1 dn.2 w' h)
      rw [fill_same q3, hC] at RF
      unfold RetRFill at RF
      simp only at RF
      have HST := Lib.hid hst
      have HBD := Lib.hid hbd
      have hsz4 : 1 ≤ sz ∧ sz ≤ 4 := by have := (enc_len hin 0 0).2; simp only at this; omega
      unfold enV at RA SZ RF
      clear hk hx hhd hdl EXP PLC SNb PN PS SN SB NX hin ok hxp hplc hC hst hbd hss hnx hdn hrest ho hsz q3 NX2 hp5 hp3 hpr
      go_wp2_with fail
      refine RA.mono ?_
      rintro e w1 ⟨⟨v, rfl, hOv⟩, hbl⟩
      obtain ⟨A1, c1, rfl, hP1, -⟩ := hOv.ops
      have S1 : Hid (Fr.St w1 [opF A1 L, itF n 0 (.slice none 0 0) ⟨#[]⟩ (.slice none 0 0) false, byF (some ⟨g0, off, none⟩) b, Fr.bel n w]) :=
        ⟨hP1, I0.out.all hbl, (HB.out _ B0.out).below hbl, ⟨B0.out.trans (hbl.mono (by omega)), by have := hbl.size; show n ≤ _; omega⟩, trivial⟩
      clear RA hbl B0 I0 kb hOv hP1 HB
      go_upto_region 5 with fail
      obtain ⟨nb, wx, hnb, hwx, SX, yx, zx⟩ := Fr.box S1 #[.int .i64 p, .int .u8 (o.toNat : Int), .string (sB m), .slice A1 L.length c1, .string (sB ex), .bool al] 80
      rw [hwx, hnb]
      clear hwx S1 yx
      obtain ⟨e0, e1, e2, e3, e4, e5⟩ := Fr.cells6 SX.out.1
      go_wp2_with fail
      refine (SZ.out A1 L.length c1 wx).mono ?_
      rintro e wy ⟨rfl, hbl⟩
      have SY := Fr.up SX hbl
      clear SZ SX hbl e0 e1 e2 e3 e4 e5
      by_cases hz : l < sz
      · have hz2 : (sz : Int) > (l : Int) := by omega
        have it := IT.out 4 l (Nat.le_refl _) wy SY.out.2.2.2.1
        have HI : Hid (itR b = iteO 4 (b.take l)) := by show itR b = _; rw [HITR.out, if_pos (by rw [HL.out]; exact hz), ← HL.out, List.take_length]
        have LT : Hid ((b.take l).length = l) := by show _ = _; rw [List.length_take, HL.out]; omega
        have BX := SY.out.2.2.2.2.1
        have IX := Lib.hid SY.out.2.2.1
        have zn : n + 1 ≤ wy.heap.size := IX.out.lt
        clear IT HITR SY RF HST HBD
        go_wp2_with fail
        refine it.mono ?_
        rintro e w2 ⟨A1', c1', A2, c2, rfl, hO, hT, hbl⟩
        have I2 : ItAt w2 n _ _ _ _ _ := IX.out.all hbl
        have B2 : Below n w w2 := BX.1.trans (hbl.mono BX.2)
        have hO := hO.lift zn
        have hT := row_mono hT zn
        simp only [iteO, List.length_nil] at hO hT ⊢
        rw [LT.out] at hO ⊢
        obtain ⟨w3, hw3, i1, i2, i3, i4, i5, i6⟩ := I2.put 4 (.slice A1' l c1') (sB []) (.slice A2 0 c2) false
        have F := Lib.hid (retIt_put (w := w) (w2 := w3) (x := iteO 4 (b.take l)) HN.out B2 I2.lt (by simp only [iteO]; rw [LT.out]; exact hO) hT ⟨i2, i4, i5⟩)
        obtain ⟨k0, k1, k2, k3, k4, k5⟩ := I2.cells
        obtain ⟨j0, j1, j2, j3, j4, j5⟩ := i1.cells
        simp only [iteO, List.length_nil] at F
        rw [LT.out] at F
        clear it hbl hO hT B2 I2 i1 i2 i3 i4 i5 i6 BX IX
        go_wp2
        refine bodyPost_ret (v := .agg #[.int .i64 4, .slice A1' l c1', .string (sB []), .slice A2 0 c2, .bool false]) ?_ rfl ?_
        · simp [results, Tryz.results32, go_sem, j0, j1, j2, j3, j4]
        · rw [HI.out]
          exact F.out
      · have hz2 : ¬ ((sz : Int) > (l : Int)) := by omega
        have hbd := HBD.out (by rw [HL.out]; omega)
        have BD := Lib.hid hbd
        have HI : Hid (itR b = ⟨1, b.take sz, m, C, al⟩) := by show itR b = _; rw [HITR.out, if_neg (by rw [HL.out]; exact hz)]
        obtain ⟨s, hs⟩ : ∃ s, sB ex = s := ⟨_, rfl⟩
        have hzs : s.size = ex.length := by rw [← hs, sB_size]
        have HAT : Hid (∀ k (h : k < s.size) (h' : k < ex.length), s[k] = ex[k]) := fun k h h' => by subst hs; exact sB_at ex k h h'
        obtain ⟨lx, hlx⟩ : ∃ z, ex.length = z := ⟨_, rfl⟩
        rw [hlx] at hzs q1
        have HLX := Lib.hid hlx
        rw [hs] at SY RF
        rw [hlx] at HST
        clear hbd HBD HITR hlx hs
        have NXI : Hid ((5 ≤ p → (nx : Int) = 2) ∧ (¬ 5 ≤ p → (nx : Int) = (at_ : Int) + 1)) := by
          refine ⟨fun h => ?_, fun h => ?_⟩
          · have := hnx3.2; rw [if_pos h] at this; omega
          · have := hnx3.2; rw [if_neg h] at this; omega
        by_cases h5 : 5 ≤ p
        case' pos =>
          have HX : Hid ((nx : Int) = 2) := NXI.out.1 h5
          go_upto_region 18 with fail
        case' neg =>
          have HX : Hid ((nx : Int) = (at_ : Int) + 1) := NXI.out.2 h5
          go_upto_region 18 with fail
        all_goals clear NXI h5 hnx3 hz
        all_goals
          go_wp2
          go_loopw [8, 9, 10, 11] (fun vd vn vx vi wr => ∃ j : Nat, j ≤ lx ∧ vi = .int .i64 j ∧ vx = .int .i64 ((nx + j : Nat) : Int) ∧ vd = .int .i64 (stJ ex b nx j).1 ∧ vn = .int .i64 (stJ ex b nx j).2 ∧ Hid (Below wy.heap.size wy wr)) (fun _ _ _ vi _ => lx - (intOf vi).toNat)
          case atStart => exact ⟨0, Nat.zero_le _, rfl, by have := HX.out; simp; omega, rfl, rfl, Below.refl _ _⟩
          case round =>
            obtain ⟨j, hj, rfl, rfl, rfl, rfl, W⟩ := hrel
            have SY := Fr.up SY W.out
            obtain ⟨e0, e1, e2, e3, e4, e5⟩ := Fr.cells6 SY.out.1
            by_cases hlt : j < lx
            · have hjx : j < ex.length := by rw [HLX.out]; exact hlt
              have hjs : j < s.size := by omega
              obtain ⟨b1, b2, b4⟩ := BD.out j hjx
              have f1 := HAT.out j hjs hjx
              obtain ⟨g', off', eg, kb⟩ := (show BytesAt wr (some ⟨g0, off, none⟩) b from SY.out.2.2.2.1).cellAt b1
              simp only [Option.some.injEq, Addr.mk.injEq] at eg
              obtain ⟨rfl, rfl, -⟩ := eg
              have STE : stJ ex b nx (j + 1) = stepL ex[j] (b.drop (nx + j)) (stJ ex b nx j) := by
                show stepL (ex.getD j 0) _ _ = _
                rw [List.getD_eq_getElem?_getD, List.getElem?_eq_getElem hjx]
                rfl
              have hd0 : (b.drop (nx + j)).getD 0 0 = b[nx + j] := by rw [getD_drop, Nat.add_zero, List.getD_eq_getElem?_getD, List.getElem?_eq_getElem b1]; rfl
              have hbl : nx + j < l := by rw [← HL.out]; exact b1
              obtain ⟨x0, hx0⟩ : ∃ x, b[nx + j] = x := ⟨_, rfl⟩
              rw [hx0] at kb hd0
              have hx255 := x0.toNat_lt
              have SG := rsigned_any (x0.toNat : Int) (by omega) (by omega) wr
              rw [show sgnI (x0.toNat : Int) = sgB x0 from rfl] at SG
              obtain ⟨cc, hcc⟩ : ∃ x, ex[j] = x := ⟨_, rfl⟩
              rw [hcc] at f1 b2 b4 STE
              obtain ⟨⟨sd, sn⟩, hsd⟩ : ∃ q, stJ ex b nx j = q := ⟨_, rfl⟩
              rw [hsd] at STE ⊢
              simp only
              clear hx0 hcc hsd HAT
              rcases b4 with rfl | rfl | rfl | rfl
              · have f2 : (s[j].toNat : Int) = 100 := by rw [f1]; rfl
                have STF : Hid (stJ ex b nx (j + 1) = (sgB x0, sn)) := by show _ = _; rw [STE]; unfold stepL; rw [if_pos rfl, hd0]
                clear f1 b2 STE hd0
                go_wp2_with fail
                refine SG.mono ?_
                rintro e w' ⟨rfl, rfl⟩
                clear SG
                go_wp2
                go_roundw
                case rel => exact ⟨j + 1, by omega, by go_num, by go_num, by rw [STF.out], by rw [STF.out], W⟩
                case measure => simp [intOf]; omega
              · have f2 : (s[j].toNat : Int) = 101 := by rw [f1]; rfl
                have STF : Hid (stJ ex b nx (j + 1) = (sd, sgB x0)) := by show _ = _; rw [STE]; unfold stepL; rw [if_neg (by decide), if_pos rfl, hd0]
                clear f1 b2 STE hd0
                go_wp2_with fail
                refine SG.mono ?_
                rintro e w' ⟨rfl, rfl⟩
                clear SG
                go_wp2
                go_roundw
                case rel => exact ⟨j + 1, by omega, by go_num, by go_num, by rw [STF.out], by rw [STF.out], W⟩
                case measure => simp [intOf]; omega
              · have f2 : (s[j].toNat : Int) = 110 := by rw [f1]; rfl
                have STF : Hid (stJ ex b nx (j + 1) = (sd, (x0.toNat : Int))) := by show _ = _; rw [STE]; unfold stepL; rw [if_neg (by decide), if_neg (by decide), if_pos rfl, hd0]
                clear f1 b2 STE hd0 SG
                go_wp2
                go_roundw
                case rel => exact ⟨j + 1, by omega, by go_num, by go_num, by rw [STF.out], by rw [STF.out], W⟩
                case measure => simp [intOf]; omega
              · have f2 : (s[j].toNat : Int) = 119 := by rw [f1]; rfl
                have b3 := b2 rfl
                obtain ⟨g', off', eg, kb1⟩ := (show BytesAt wr (some ⟨g0, off, none⟩) b from SY.out.2.2.2.1).cellAt b3
                simp only [Option.some.injEq, Addr.mk.injEq] at eg
                obtain ⟨rfl, rfl, -⟩ := eg
                have hbl1 : nx + j + 1 < l := by rw [← HL.out]; exact b3
                have hd1 : (b.drop (nx + j)).getD 1 0 = b[nx + j + 1] := by rw [getD_drop, List.getD_eq_getElem?_getD, List.getElem?_eq_getElem b3]; rfl
                obtain ⟨x1, hx1⟩ : ∃ x, b[nx + j + 1] = x := ⟨_, rfl⟩
                rw [hx1] at kb1 hd1
                have hx1255 := x1.toNat_lt
                have STF : Hid (stJ ex b nx (j + 1) = (sd, (x0.toNat : Int) + 256 * (x1.toNat : Int))) := by show _ = _; rw [STE]; unfold stepL; rw [if_neg (by decide), if_neg (by decide), if_neg (by decide), if_pos rfl, hd0, hd1]
                clear f1 b2 STE hd0 hd1 SG hx1
                obtain ⟨w3, hw3⟩ : ∃ w3, wr.drew = w3 := ⟨_, rfl⟩
                have W3 : Hid (Below wy.heap.size wy w3) := W.out.trans ((show Below wr.heap.size wr w3 by rw [← hw3]; exact below_drewN wr _ 1).mono W.out.size)
                go_upto_region 29 with fail
                refine Mixed.wp_region_mixed (fun w' => w'.cell? ⟨g0, off + (nx + j), none⟩ = some (.int .u8 (x0.toNat : Int)) ∧ w'.cell? ⟨g0, off + (nx + j + 1), none⟩ = some (.int .u8 (x1.toNat : Int))) 13 [(0, true), (1, true), (2, true), (3, true), (4, true), (5, true), (6, true), (7, true), (8, true), (9, true), (10, true), (11, true), (12, true)] (by kernel_rfl) (by kernel_rfl) ⟨kb, kb1⟩ ?_
                clear SY e0 e1 e2 e3 e4 e5 kb kb1
                refine Mixed.wpMix_move rfl (by kernel_rfl) _ rfl _ rfl ?_
                refine Mixed.wpMix_move rfl (by kernel_rfl) _ rfl _ rfl ?_
                refine Mixed.wpMix_pure rfl (by kernel_rfl) (.pointer (some ⟨g0, off + (nx + j), none⟩)) (fun w h => by clear h; go_simp; rw [if_pos (by omega), show ((nx : Int) + (j : Int)).toNat = nx + j from by omega]) ?_
                refine Mixed.wpMix_pure rfl (by kernel_rfl) (.int .u8 (x0.toNat : Int)) (fun w h => by obtain ⟨h1, h2⟩ := h; go_simp; try rfl) ?_
                refine Mixed.wpMix_pure rfl (by kernel_rfl) (.int .i64 (x0.toNat : Int)) (fun w h => by clear h; go_simp; rw [IntKind.wrap_i64]; omega) ?_
                refine Mixed.wpMix_move rfl (by kernel_rfl) _ rfl _ rfl ?_
                refine Mixed.wpMix_move rfl (by kernel_rfl) _ rfl _ rfl ?_
                refine Mixed.wpMix_pure rfl (by kernel_rfl) (.int .i64 ((nx + j + 1 : Nat) : Int)) (fun w h => by clear h; go_simp; rw [IntKind.wrap_i64]; omega) ?_
                refine Mixed.wpMix_pure rfl (by kernel_rfl) (.pointer (some ⟨g0, off + (nx + j + 1), none⟩)) (fun w h => by clear h; go_simp; rw [if_pos (by omega), show ((nx : Int) + (j : Int) + 1).toNat = nx + j + 1 from by omega]) ?_
                refine Mixed.wpMix_pure rfl (by kernel_rfl) (.int .u8 (x1.toNat : Int)) (fun w h => by obtain ⟨h1, h2⟩ := h; go_simp; try rfl) ?_
                refine Mixed.wpMix_pure rfl (by kernel_rfl) (.int .i64 (x1.toNat : Int)) (fun w h => by clear h; go_simp; rw [IntKind.wrap_i64]; omega) ?_
                refine Mixed.wpMix_pure rfl (by kernel_rfl) (.int .i64 (256 * (x1.toNat : Int))) (fun w h => by clear h; go_simp; rw [IntKind.wrap_i64]; omega) ?_
                refine Mixed.wpMix_pure rfl (by kernel_rfl) (.int .i64 ((x0.toNat : Int) + 256 * (x1.toNat : Int))) (fun w h => by clear h; go_simp; rw [IntKind.wrap_i64]; omega) ?_
                simp only [Mixed.wpMix, List.drop_succ_cons, List.drop_zero]
                go_wp2
                go_roundw
                case rel => exact ⟨j + 1, by omega, by go_num, by go_num, by rw [STF.out], by rw [STF.out], W3⟩
                case measure => simp [intOf]; omega
            · obtain rfl : j = lx := by omega
              have HDN := HST.out
              have it := IT.out 1 sz (by omega) wr SY.out.2.2.2.1
              have LT : Hid ((b.take sz).length = sz) := by show _ = _; rw [List.length_take, HL.out]; omega
              have BN := SY.out.2.2.2.2.1
              have zn : n + 1 ≤ wr.heap.size := (show ItAt wr n _ _ _ _ _ from SY.out.2.2.1).lt
              rw [HDN]
              clear BD HAT HST HDN IT HX
              go_upto_region 31 with fail
              go_wp2_with fail
              refine it.mono ?_
              rintro e w2 ⟨A1', c1', A2, c2, rfl, hO, hT, hbl⟩
              have S2 := Fr.up SY hbl
              simp only [iteO, List.length_nil] at hO hT ⊢
              rw [LT.out] at hO ⊢
              obtain ⟨m2, hm2⟩ : ∃ z, w2.heap.size = z := ⟨_, rfl⟩
              obtain ⟨w3, hw3, I3, y3, z3⟩ := it_start w2 m2 hm2
              obtain ⟨w4, hw4, I4, y4, z4, -, -, x4⟩ := I3.put 1 (.slice A1' sz c1') (sB []) (.slice A2 0 c2) false
              have O4 := Lib.hid (it_ownB I3 (TOwnB.below hO y3) x4)
              have B4 : Below w2.heap.size w2 w4 := y3.trans (by rw [hm2]; exact y4)
              have S4 := Fr.up S2 B4
              have RFx := RF.out A1 c1 w4 S4.out.2.1
              obtain ⟨k0, k1, k2, k3, k4, k5⟩ := I3.cells
              obtain ⟨e0, e1, e2, e3, e4, e5⟩ := Fr.cells6 S4.out.1
              have I4 := Lib.hid I4
              have B4 := Lib.hid B4
              clear RF SY it hbl hO hT I3 y3 y4 x4 S4
              go_wp2_with fail
              refine RFx.mono ?_
              rintro e w5 ⟨v, rfl, hO5, hb5⟩
              obtain ⟨A9, c9, rfl, -, -⟩ := hO5.ops
              have I5 : ItAt w5 m2 _ _ _ _ _ := I4.out.all hb5
              have O5 := TOwnB.below O4.out hb5
              have B5 : Below m2 w4 w5 := hb5.mono (by omega)
              obtain ⟨w6, hw6, I6, y6, x6⟩ := I5.put2 (sB m) (.slice A9 C.length c9)
              have O6 := it_ownB I5 O5 x6
              have T6 := it_ownT I5 hO5 x6
              have B6 : Below w2.heap.size w2 w6 := B4.out.trans (by rw [hm2]; exact B5.trans y6)
              have S6 := Fr.up S2 B6
              obtain ⟨w7, hw7, I7, y7, x7⟩ := I6.put4 al
              have O7 := it_ownB I6 O6 x7
              have T7 := it_ownT I6 T6 x7
              have B7 : Below w2.heap.size w2 w7 := B6.trans (by rw [hm2]; exact y7)
              have S7 := Fr.up S2 B7
              have In : ItAt w7 n _ _ _ _ _ := S7.out.2.2.1
              obtain ⟨w8, hw8, i1, i2, -, i4, i5, -⟩ := In.put 1 (.slice A1' sz c1') (sB m) (.slice A9 C.length c9) al
              have zw : n + 1 ≤ w4.heap.size := by
                have h1 := BN.1.size
                have h2 := I4.out.lt
                have h3 := In.lt
                have h4 := (show ItAt w2 n _ _ _ _ _ from S2.out.2.2.1).lt
                omega
              have F := Lib.hid (retIt_put (w := w) (w2 := w8) (x := ⟨1, b.take sz, m, C, al⟩) HN.out S7.out.2.2.2.2.1.1 In.lt (by show TOwnB w7 (n + 1) (.slice A1' (b.take sz).length c1') _; rw [LT.out]; exact O7.lift zn) (row_mono T7 zw) ⟨i2, i4, i5⟩)
              obtain ⟨q0, q1, q2, q3, q4, q5⟩ := I5.cells
              obtain ⟨r0, r1, r2, r3, r4, r5⟩ := I6.cells
              obtain ⟨t0, t1, t2, t3, t4, t5⟩ := I7.cells
              obtain ⟨u0, u1, u2, u3, u4, u5⟩ := In.cells
              obtain ⟨j0, j1, j2, j3, j4, j5⟩ := i1.cells
              obtain ⟨-, -, -, -, -, v5⟩ := Fr.cells6 S6.out.1
              simp only [] at F
              rw [LT.out] at F
              clear RFx hO5 hb5 I5 O5 B5 I6 y6 x6 O6 T6 B6 S6 I7 y7 x7 O7 T7 B7 S7 In i1 i2 i4 i5 k0 k1 k2 k3 k4 k5 e0 e1 e2 e3 e4 e5 O4 B4 I4 S2 zw LT
              go_wp2
              refine bodyPost_ret (v := .agg #[.int .i64 1, .slice A1' sz c1', .string (sB m), .slice A9 C.length c9, .bool al]) ?_ rfl ?_
              · simp [results, Tryz.results32, go_sem, j0, j1, j2, j3, j4]
              · rw [HI.out]
                exact F.out
end Go.Proofs.YtmnleknehjkmgaaGreat
namespace Go.Mixed
open Go
inductive Ord where
  | done : Ord
  | pure : Nat → Ord → Ord
  | one : Nat → Ord → Ord
  | two : Nat → Ord → Nat → Ord → Ord
section
variable {P : Program} {ops : Array Oper} {md : Region.Mode}
def Ord.len : Ord → Nat
  | .done => 0
  | .pure _ t => t.len + 1
  | .one _ t => t.len + 1
  | .two _ t _ _ => t.len + 1
def ordT (md : Region.Mode) (ops : Array Oper) (n g : Nat) : Ord → Array Bool → Bool
  | .done, listed => Region.seqB md ops g n listed
  | .pure k r, listed => (Region.ready md ops listed).contains k && decide (k < n) && Region.free md ops listed k && ordT md ops n g r (listed.setIfInBounds k true)
  | .one k r, listed => decide (Region.ready md ops listed = [k]) && decide (k < n) && ordT md ops n g r (listed.setIfInBounds k true)
  | .two k r k2 r2, listed => decide (Region.ready md ops listed = [k, k2]) && decide (k < n) && decide (k2 < n) && decide (r2.len = r.len) && ordT md ops n g r (listed.setIfInBounds k true) && ordT md ops n g r2 (listed.setIfInBounds k2 true)
def mixedT (md : Region.Mode) (ops : Array Oper) (n : Nat) (ord : Ord) : Bool :=
  Region.noSelect ops && decide (n < ops.size) && decide (ord.len + (ops.size - n) = ops.size) && Region.sinkB md ops n && Region.chainB md ops n && ordT md ops n (ops.size - n) ord (Array.replicate ops.size false)
def wpMixT (P : Program) (ops : Array Oper) (C : World → Prop) (T : Act → World → Prop) : Ord → Act → World → Prop
  | .done, a, w => T a w
  | .pure k r, a, w => match ops[k]? with
    | none => False
    | some o => ∃ v, Pure P ops C o v a ∧ wpMixT P ops C T r (a.put o.dst v) w
  | .one k r, a, w => wpOp P ops QF k (fun a' w' => C w' ∧ wpMixT P ops C T r a' w') a w
  | .two k r k2 r2, a, w => wpOp P ops QF k (fun a' w' => C w' ∧ wpMixT P ops C T r a' w') a w ∧ wpOp P ops QF k2 (fun a' w' => C w' ∧ wpMixT P ops C T r2 a' w') a w
theorem wpAnyC_ordT {C : World → Prop} {n g : Nat} {T : Act → World → Prop} (hsel : Region.noSelect ops = true) (hs : Region.sinkB md ops n = true) (hc : Region.chainB md ops n = true) (hn : n < ops.size) :
    ∀ (ord : Ord) (listed : Array Bool) (a : Act) (w : World), HeadInv md ops n listed → ordT md ops n g ord listed = true → C w → wpMixT P ops C T ord a w →
    wpAnyC P md ops n C (fun listed' a' w' => Region.seqB md ops g n listed' = true ∧ T a' w') ord.len listed a w
  | .done, listed, a, w, _, hB, hC, h => ⟨hC, hB, h⟩
  | .pure k r, listed, a, w, inv, hB, hC, h => by
    simp only [ordT, Bool.and_eq_true, decide_eq_true_eq] at hB
    obtain ⟨⟨⟨hr, hk⟩, hf⟩, hB'⟩ := hB
    have hr' : k ∈ Region.ready md ops listed := by simpa using hr
    simp only [wpMixT] at h
    cases ho : ops[k]? with
    | none => rw [ho] at h; exact h.elim
    | some o =>
      rw [ho] at h
      obtain ⟨v, hv, hK⟩ := h
      exact wpAnyC_first ho (Region.noSelect_spec hsel) hs hc hn hk (fun listed' a' w' hL => seqB_ready hL.1) r.len listed a w inv (Region.free_spec ho hf) hr' hv hC
        (wpAnyC_ordT hsel hs hc hn r _ _ w (inv.set hr' hk) hB' hC hK)
  | .one k r, listed, a, w, inv, hB, hC, h => by
    simp only [ordT, Bool.and_eq_true, decide_eq_true_eq] at hB
    obtain ⟨⟨hr, hk⟩, hB'⟩ := hB
    simp only [wpMixT] at h
    have hne : Region.ready md ops listed ≠ [] := by rw [hr]; exact List.cons_ne_nil _ _
    refine ⟨hC, hne, fun i hi => ?_⟩
    rw [hr] at hi
    have hik : i = k := by simpa using hi
    subst hik
    refine ⟨hk, wpOp_QF (fun a' w' h' => ?_) h⟩
    exact wpAnyC_ordT hsel hs hc hn r _ a' w' (inv.set (by rw [hr]; exact List.mem_singleton.2 rfl) hk) hB' h'.1 h'.2
  | .two k r k2 r2, listed, a, w, inv, hB, hC, h => by
    simp only [ordT, Bool.and_eq_true, decide_eq_true_eq] at hB
    obtain ⟨⟨⟨⟨⟨hr, hk⟩, hk2⟩, hlen⟩, hB1⟩, hB2⟩ := hB
    simp only [wpMixT] at h
    have hne : Region.ready md ops listed ≠ [] := by rw [hr]; exact List.cons_ne_nil _ _
    refine ⟨hC, hne, fun i hi => ?_⟩
    have hi0 := hi
    rw [hr] at hi
    have hik : i = k ∨ i = k2 := by simpa using hi
    rcases hik with rfl | rfl
    · refine ⟨hk, wpOp_QF (fun a' w' h' => ?_) h.1⟩
      exact wpAnyC_ordT hsel hs hc hn r _ a' w' (inv.set hi0 hk) hB1 h'.1 h'.2
    · refine ⟨hk2, wpOp_QF (fun a' w' h' => ?_) h.2⟩
      have := wpAnyC_ordT hsel hs hc hn r2 _ a' w' (inv.set hi0 hk2) hB2 h'.1 h'.2
      rwa [hlen] at this
theorem wp_region_mixedT {id : Nat} {Q : Exit → Act → World → Prop} {a : Act} {w : World} {l : List Oper} (C : World → Prop) (n : Nat) (ord : Ord) (hm : P.follows .mixedOrders = true) (hB : mixedT .any l.toArray n ord = true)
    (hC : C w.drew) (h : wpMixT P l.toArray C (fun a' w' => wpList P l.toArray Q (l.drop n) a' w') ord a w.drew) : (Code.region id l.toArray true).wp P Q a w := by
  simp only [mixedT, Bool.and_eq_true, decide_eq_true_eq] at hB
  obtain ⟨⟨⟨⟨⟨hsel, hn⟩, hlen⟩, hs⟩, hc⟩, hord⟩ := hB
  have hdl : (l.drop n).length = l.toArray.size - n := by simp
  have inv0 : HeadInv .any l.toArray n (Array.replicate l.toArray.size false) :=
    ⟨by simp, fun j oj _ hl => (by rw [getD_replicate_false] at hl; cases hl), fun t _ ht => getD_in (by simpa using ht) (getD_replicate_false _ _)⟩
  have H := wpAnyC_ordT hsel hs hc hn ord _ a w.drew inv0 hord hC h
  refine wp_region_any hm ?_
  have := wpAny_of_headC (Q' := Q) (g := l.toArray.size - n) (fun listed a' w' hL => by
    have := wpAny_of_seq (md := .any) (Q' := Q) (l.drop n) n listed a' w' (fun j => by simp [List.getElem?_drop]) (by rw [hdl]; exact hL.1) hL.2
    rwa [hdl] at this) _ _ _ _ H
  rw [hlen] at this
  exact this
theorem wpMixT_pure {C : World → Prop} {T : Act → World → Prop} {k : Nat} {r : Ord} {a : Act} {w : World} {o : Oper} (ho : ops[k]? = some o) (hw : Region.wanted o (yielded ops a.tmps) = true) (v : Value)
    (hv : ∀ w, C w → (execOp a.eval o).run P w = .ok (.value v) w) (h : wpMixT P ops C T r (a.put o.dst v) w) : wpMixT P ops C T (.pure k r) a w := by
  simp only [wpMixT, ho]
  exact ⟨v, .inl ⟨hw, hv⟩, h⟩
theorem wpOp_loudT {K : Act → World → Prop} {k : Nat} {a : Act} {w : World} {o : Oper} (ho : ops[k]? = some o) (hw : Region.wanted o (yielded ops a.tmps) = true) (h : wpList P ops (QK K) [{ o with guard := none }] a w) : wpOp P ops QF k K a w := by
  unfold wpOp
  simp only [ho, hw, if_true]
  have hw2 : Region.wanted { o with guard := none } (yielded ops a.tmps) = true := rfl
  simp only [wpList, hw2, if_true] at h
  rcases h with h | h
  · exact .inl (upon_QK h)
  · exact absurd h.2 (not_letsOut_QK _)
theorem wpMixT_loud {C : World → Prop} {T : Act → World → Prop} {k : Nat} {r : Ord} {a : Act} {w : World} {o : Oper} (ho : ops[k]? = some o) (hw : Region.wanted o (yielded ops a.tmps) = true) (h : wpList P ops (QK fun a' w' => C w' ∧ wpMixT P ops C T r a' w') [{ o with guard := none }] a w) :
    wpMixT P ops C T (.one k r) a w := by
  simp only [wpMixT]
  exact wpOp_loudT ho hw h
theorem wpMixT_both {C : World → Prop} {T : Act → World → Prop} {k k2 : Nat} {r r2 : Ord} {a : Act} {w : World} {o o2 : Oper} (ho : ops[k]? = some o) (hw : Region.wanted o (yielded ops a.tmps) = true) (ho2 : ops[k2]? = some o2) (hw2 : Region.wanted o2 (yielded ops a.tmps) = true)
    (h : wpList P ops (QK fun a' w' => C w' ∧ wpMixT P ops C T r a' w') [{ o with guard := none }] a w) (h2 : wpList P ops (QK fun a' w' => C w' ∧ wpMixT P ops C T r2 a' w') [{ o2 with guard := none }] a w) :
    wpMixT P ops C T (.two k r k2 r2) a w := by
  simp only [wpMixT]
  exact ⟨wpOp_loudT ho hw h, wpOp_loudT ho2 hw2 h2⟩
end
end Go.Mixed
namespace Go.Proofs.YtmnleknehjkmgaaGreat
open Go.RowKit Go.Shelf
attribute [local go_sem] Oper.semAt_some
attribute [local irreducible] Go.Mixed.wpMixT
section
variable {w0 w w' : World} {D : Nat} {S : Value} {k : Nat} {p nd d n : Int}
theorem OwnT.dk {B : Nat} {v : Value} {L : List Tr} (h : OwnT w B v L) (hB : D < B) (K : DK D w w') : OwnT w' B v L := by
  refine ⟨h.1, ?_⟩
  rcases h.2 with e | ⟨g, cap, cur, e1, e2, e3, e4⟩
  · exact .inl e
  · exact .inr ⟨g, cap, cur, e1, e2, (K.same g (Array.getElem?_eq_some_iff.1 e3).1 (by omega)).trans e3, e4⟩
theorem DK.blk (K : DK D w w') {g : Nat} {o : Obj} (h : w.heap[g]? = some o) (hg : g ≠ D) : w'.heap[g]? = some o := (K.same g (Array.getElem?_eq_some_iff.1 h).1 hg).trans h
theorem Dec.iterAt (h : Dec w0 D S w k p nd d n) {it : Nat} (hit : D < it) (s : ByteArray) (j : Nat) : Dec w0 D S (w.iterAt it s j) k p nd d n :=
  ⟨(Lib.iterAt_other _ _ _ _ _ (by omega)).trans h.blk, Lib.below_iterAt h.bel (by omega) _ _⟩
theorem DK.iterAt (K : DK D w w') {it : Nat} (hit : w.heap.size ≤ it) (s : ByteArray) (j : Nat) : DK D w (w'.iterAt it s j) :=
  ⟨by have := K.size; have h := (Lib.below_iterAt (Below.refl it w') (Nat.le_refl _) s j).size; omega, fun k hk hb => (Lib.iterAt_other _ _ _ _ _ (by omega)).trans (K.same k hk hb)⟩
end
theorem OwnT.opsP {w : World} {B n c : Nat} {A : Option Addr} {L : List Tr} (h : OwnT w B (.slice A n c) L) : OpsP w A L := by
  obtain ⟨A', c', e, hp, -⟩ := h.ops
  simp only [Value.slice.injEq] at e
  obtain ⟨rfl, -, -⟩ := e
  exact hp
theorem beh2 {g : Int} {i : Nat} {ex : Str} (h : ExP g i ex) : (behS g ex).length ≤ 2 ∧ ∀ k (hk : k < (behS g ex).length), (behS g ex)[k] = 100 ∨ (behS g ex)[k] = 101 ∨ (behS g ex)[k] = 110 ∨ (behS g ex)[k] = 119 := by
  unfold behS
  by_cases h5 : 5 ≤ g
  · rw [if_pos h5]
    exact ⟨Nat.zero_le _, fun k hk => absurd hk (Nat.not_lt_zero _)⟩
  · rw [if_neg h5]
    exact ⟨ex_len h, fun k hk => ex_let h hk⟩
structure DL (w0 wb wr : World) (D : Nat) (b : Str) (S : Value) (l it : Nat) (s2 : Str) (k : Nat) (p sz : Int) (s0 : Int × Int) (j : Nat) : Prop where
  le : j ≤ s2.length
  iter : wr.heap[it]? = some (.stringIter (sB s2) j)
  dec : Dec w0 D S wr (k + sumN s2 j) p sz (mS s0 s2 b k j).1 (mS s0 s2 b k j).2
  kl : k + sumN s2 j ≤ l
  dk : DK D wb wr
theorem DL.next {w0 wb wr : World} {D : Nat} {b : Str} {S : Value} {l it : Nat} {s2 : Str} {k : Nat} {p sz : Int} {s0 : Int × Int} {j : Nat} (L : DL w0 wb wr D b S l it s2 k p sz s0 j) (hD : D < it) (hit : wb.heap.size ≤ it) :
    Dec w0 D S (wr.iterAt it (sB s2) (j + 1)) (k + sumN s2 j) p sz (mS s0 s2 b k j).1 (mS s0 s2 b k j).2 ∧ DK D wb (wr.iterAt it (sB s2) (j + 1)) ∧ (wr.iterAt it (sB s2) (j + 1)).heap[it]? = some (.stringIter (sB s2) (j + 1)) :=
  ⟨L.dec.iterAt hD _ _, L.dk.iterAt hit _ _, Lib.iterAt_heap _ _ _ _ _ L.iter⟩
theorem DL.put {w0 wb wr w2 : World} {D : Nat} {b : Str} {S : Value} {l it : Nat} {s2 : Str} {k : Nat} {p sz : Int} {s0 : Int × Int} {j : Nat} (L : DL w0 wb wr D b S l it s2 k p sz s0 j) (hD : D < it) (hit : wb.heap.size ≤ it) (hj : j < s2.length)
    (hl : k + sumN s2 j + letN s2[j] ≤ l) (X : Dec w0 D S w2 (k + sumN s2 j + letN s2[j]) p sz (stepL s2[j] (b.drop (k + sumN s2 j)) (mS s0 s2 b k j)).1 (stepL s2[j] (b.drop (k + sumN s2 j)) (mS s0 s2 b k j)).2) (K : DK D (wr.iterAt it (sB s2) (j + 1)) w2) :
    DL w0 wb w2 D b S l it s2 k p sz s0 (j + 1) := by
  obtain ⟨n1, n2, n3⟩ := L.next hD hit
  refine ⟨hj, K.blk n3 (by omega), ?_, ?_, n2.trans K⟩
  · rw [mS_succ s0 b k hj, sumN_succ s2 j hj, ← Nat.add_assoc]
    exact X
  · rw [sumN_succ s2 j hj]
    omega
theorem dl_start {w0 w1 : World} {D : Nat} {b : Str} {S : Value} {l : Nat} {s2 : Str} {k : Nat} {p sz : Int} {s0 : Int × Int} (X : Dec w0 D S w1 k p sz s0.1 s0.2) (hk : k ≤ l) : DL w0 w1 (w1.iter (sB s2) 0) D b S l w1.heap.size s2 k p sz s0 0 := by
  have hal : Below w1.heap.size w1 (w1.iter (sB s2) 0) := (Below.refl _ w1).alloc (Nat.le_refl _) _
  exact ⟨Nat.zero_le _, World.iter_heap _ _ _, X.all hal, hk, DK.of_below hal⟩
theorem ins_put {w0 wr w : World} {D : Nat} {S : Value} {k : Nat} {p nd d n : Int} {c B : Nat} {v0 v1 u : Value} {C : List Tr} (X : Dec w0 D S w k p nd d n) (K : DK D wr w) (hD : D < wr.heap.size) (h : w.heap[c]? = some (.cells #[v0, v1] 32 (0, 0))) (hc : wr.heap.size ≤ c) (O : OwnT w B u C) (x : Value) :
    ∃ w', (w.setCell ⟨c, 0, none⟩ x).setCell ⟨c, 1, none⟩ u = w' ∧ w'.heap[c]? = some (.cells #[x, u] 32 (0, 0)) ∧ OwnT w' B u C ∧ Dec w0 D S w' k p nd d n ∧ DK D wr w' := by
  have s : ∀ k, k ≠ c → ((w.setCell ⟨c, 0, none⟩ x).setCell ⟨c, 1, none⟩ u).heap[k]? = w.heap[k]? := fun k hk => (heap_setCell_other _ ⟨c, 1, none⟩ k _ hk).trans (heap_setCell_other _ ⟨c, 0, none⟩ k _ hk)
  have b : Below c w ((w.setCell ⟨c, 0, none⟩ x).setCell ⟨c, 1, none⟩ u) := ((Below.refl c w).setCell (p := ⟨c, 0, none⟩) (Nat.le_refl _) _).setCell (p := ⟨c, 1, none⟩) (Nat.le_refl _) _
  refine ⟨_, rfl, heap_setCell_same _ c 1 _ _ u (heap_setCell_same w c 0 _ _ x h), ⟨O.1, ?_⟩, ⟨(s D (by omega)).trans X.blk, X.bel.trans (b.mono (by omega))⟩, ⟨Nat.le_trans K.size b.size, fun k hk hb => (s k (by omega)).trans (K.same k hk hb)⟩⟩
  rcases O.2 with e | ⟨g, cap, cur, e1, e2, e3, e4⟩
  · exact .inl e
  · refine .inr ⟨g, cap, cur, e1, e2, (s g (fun e => ?_)).trans e3, e4⟩
    subst e
    rw [h] at e3
    simp at e3
def RetDI (w0 : World) (D : Nat) (S : Value) (b : Str) (l : Nat) (w : World) (k : Nat) (p sz : Int) (s2 : Str) (m : Str) (C : List Tr) (al : Bool) (e : Ending) (w' : World) : Prop :=
  (k + sumN s2 s2.length ≤ l ∧ (∃ B c2, e = .returned (.agg #[.int .i64 1, .slice none 0 0, .string (sB m), .slice B C.length c2, .bool al]) ∧ OwnT w' w.heap.size (.slice B C.length c2) C) ∧ (∃ d n, Dec w0 D S w' (k + sumN s2 s2.length) p sz d n) ∧ DK D w w') ∨
  (l < k + sumN s2 s2.length ∧ DMiss w0 D S w e w' l p sz)
theorem dinstr_any {w0 : World} {D : Nat} {b : Str} {A : Option Addr} {l cap : Nat} (H : DH w0 D b A l cap) {w : World} {k : Nat} (hk : k ≤ l) {p nd d n : Int} (X : Dec w0 D (.slice A l cap) w k p nd d n)
    {i : Nat} {ex : Str} (hx : ExP p i ex) (op : Int) (m : Str) (hm : m.length ≤ 1000) (hup : upB (sB m) = sB m) (Ae : Option Addr) (ne ce : Nat) (L : List Tr) (hne : L.length = ne) (hne2 : ne ≤ 1000) (al : Bool) (B : Nat) (hB : D < B) (O : OwnT w B (.slice Ae ne ce) L)
    (C : List Tr) (hC : k + sumN (behS p ex) (behS p ex).length ≤ l → fillV ex L (mS (d, n) (behS p ex) b k (behS p ex).length).1 (mS (d, n) (behS p ex) b k (behS p ex).length).2 = some C) :
    Calls Tryz.prog 86 #[.pointer (some ⟨D, 0, none⟩), enV p op m (.slice Ae ne ce) ex al] w (RetDI w0 D (.slice A l cap) b l w k p (sizeT p ex : Nat) (behS p ex) m C al) := by
  have hexl := ex_len hx
  have SZ := fun w => size_any p op m Ae ne ce ex (by omega) al w
  have FI := Lib.hid (fun d q w h => fill_any p op m hm Ae ce ne L hne hne2 ex (by omega) al d q w h)
  obtain ⟨sz, hsz⟩ : ∃ z, sizeT p ex = z := ⟨_, rfl⟩
  rw [hsz] at SZ ⊢
  have HEX := Lib.hid hx
  obtain ⟨hp0, hp6⟩ := hx.pg
  obtain ⟨s2, hs2, hbl, hlet, hC⟩ : ∃ s2, behS p ex = s2 ∧ s2.length ≤ 2 ∧ (∀ k (hk : k < s2.length), s2[k] = 100 ∨ s2[k] = 101 ∨ s2[k] = 110 ∨ s2[k] = 119) ∧ (k + sumN s2 s2.length ≤ l → fillV ex L (mS (d, n) s2 b k s2.length).1 (mS (d, n) s2 b k s2.length).2 = some C) := ⟨_, rfl, (beh2 hx).1, (beh2 hx).2, hC⟩
  rw [hs2]
  have HLET := Lib.hid hlet
  have HS2 := Lib.hid hs2
  have HHI : Hid (5 ≤ p → ex = [100]) := hx.hi
  have TK := Lib.hid (fun w k hk p nd d n X c hc => take_any H (w := w) (k := k) hk (p := p) (nd := nd) (d := d) (n := n) X (c := c) hc)
  have DI := Lib.hid (fun w X => isDisp_any H hk (w := w) (p := p) (nd := (sz : Int)) (d := d) (n := n) X)
  -- the two boxes
  obtain ⟨E, hE⟩ : ∃ z, w.heap.size = z := ⟨_, rfl⟩
  obtain ⟨wE, hwE⟩ : ∃ z, w.alloc (.cells #[.int .i64 p, .int .u8 op, .string (sB m), .slice Ae ne ce, .string (sB ex), .bool al] 122) = z := ⟨_, rfl⟩
  have yE : Below w.heap.size w wE := by rw [← hwE]; exact up_alloc _ _
  have cE : wE.heap[E]? = some (.cells #[.int .i64 p, .int .u8 op, .string (sB m), .slice Ae ne ce, .string (sB ex), .bool al] 122 (0, 0)) := by rw [← hwE, ← hE]; exact World.alloc_heap_new w _
  have zE : wE.heap.size = E + 1 := by rw [← hwE, ← hE]; simp
  obtain ⟨wI, hwI, I0, yI, zI⟩ := it_start wE (E + 1) zE
  have XI := (X.all yE).all yI
  have OI := Lib.hid ((O.below yE).below yI)
  have KI := Lib.hid ((DK.of_below (D := D) yE).trans (DK.of_below yI))
  have cEI : wI.heap[E]? = some (.cells #[.int .i64 p, .int .u8 op, .string (sB m), .slice Ae ne ce, .string (sB ex), .bool al] 122 (0, 0)) := (yI.block E (by omega)).trans cE
  have hDE : D < E := by rw [← hE]; exact X.lt
  have CE := Lib.hid cEI
  have I0 := Lib.hid I0
  have ec0 := Lib.cell_of_heap cEI 0
  have ec1 := Lib.cell_of_heap cEI 1
  have ec2 := Lib.cell_of_heap cEI 2
  have ec3 := Lib.cell_of_heap cEI 3
  have ec4 := Lib.cell_of_heap cEI 4
  have ec5 := Lib.cell_of_heap cEI 5
  have SZ := SZ wI
  unfold enV at SZ FI ⊢
  have XI := Lib.hid XI
  have HE := Lib.hid hE
  have HNE := Lib.hid hne
  have HC := Lib.hid hC
  have HK := Lib.hid hk
  have UP : Hid (∀ wz, DK D wI wz → wz.heap[E]? = some (.cells #[.int .i64 p, .int .u8 op, .string (sB m), .slice Ae ne ce, .string (sB ex), .bool al] 122 (0, 0)) ∧ ItAt wz (E + 1) 0 (.slice none 0 0) ⟨#[]⟩ (.slice none 0 0) false ∧ OwnT wz B (.slice Ae ne ce) L ∧ DK D w wz) := fun wz K =>
    ⟨K.blk CE.out (by omega), K.blk I0.out (by omega), OI.out.dk hB K, KI.out.trans K⟩
  obtain ⟨se, hse⟩ : ∃ z, sB ex = z := ⟨_, rfl⟩
  have HSE := Lib.hid hse
  rw [hse] at SZ FI UP hwE ec4 ⊢
  clear H X O yE cE yI cEI hx hsz hs2 hlet hC hne hexl CE I0 OI KI hse
  go_enter Tryz.func86, Tryz.ntmps86
  go_wp2_with fail
  refine SZ.mono ?_
  rintro e w1 ⟨rfl, hb⟩
  have X1 := XI.out.all hb
  obtain ⟨e0, e1, e2, e3, e4, e5, e6⟩ := X1.cells
  have X2 := Lib.hid (X1.set3 sz)
  have K2 : Hid (DK D wI (w1.setCell ⟨D, 3, none⟩ (.int .i64 (sz : Int)))) := (DK.of_below hb).set 3 _
  clear SZ hb X1 XI ec0 ec1 ec2 ec3 ec4 ec5
  go_upto_region 2 with fail
  obtain ⟨w2, hw2⟩ : ∃ z, w1.setCell ⟨D, 3, none⟩ (.int .i64 (sz : Int)) = z := ⟨_, rfl⟩
  rw [hw2] at X2 K2 ⊢
  clear hw2 e0 e1 e2 e3 e4 e5 e6
  obtain ⟨cE2, -, -, -⟩ := UP.out w2 K2.out
  have ec4 := Lib.cell_of_heap cE2 4
  have DI2 := DI.out w2 X2.out
  have ES : Hid ((5 ≤ p → s2 = []) ∧ (¬ 5 ≤ p → s2 = ex)) := by rw [← HS2.out]; unfold behS; exact ⟨fun h => if_pos h, fun h => if_neg h⟩
  clear cE2 DI X2
  by_cases h5 : p = 5 ∨ p = 6
  case' pos =>
    have ec4' : w2.cell? ⟨E, 4, none⟩ = some (.string ⟨#[100]⟩) := by rw [ec4]; show some (Value.string se) = _; rw [← HSE.out, HHI.out (by omega)]; rfl
    have S2 := Lib.hid (ES.out.1 (by omega))
    rw [decide_eq_true h5] at DI2
    clear ec4 ES HSE
    go_wp2_with fail
    refine DI2.mono ?_
    rintro e w3 ⟨rfl, h1, h2⟩
    have X3 := h1
    have K3 := Lib.hid (K2.out.trans h2)
    clear h1 h2 K2 DI2
    go_wp2_with fail
    refine (trimD_any w3).mono ?_
    rintro e w7 ⟨rfl, hw⟩
    rw [hw]
    clear hw
    go_upto_region 5 with fail
    rw [show (⟨#[]⟩ : ByteArray) = sB s2 from by rw [S2.out]; rfl]
    clear S2 ec4'
  case' neg =>
    have ec4' : w2.cell? ⟨E, 4, none⟩ = some (.string (sB s2)) := by rw [ec4]; show some (Value.string se) = _; rw [← HSE.out, ES.out.2 (by omega)]
    rw [decide_eq_false h5] at DI2
    clear ec4 ES HSE
    go_wp2_with fail
    refine DI2.mono ?_
    rintro e w3 ⟨rfl, h1, h2⟩
    have X3 := h1
    have K3 := Lib.hid (K2.out.trans h2)
    clear h1 h2 K2 DI2
    go_upto_region 5 with fail
    clear ec4'
  all_goals
    clear h5 HEX HS2 HHI
    have LS := Lib.hid (dl_start (b := b) (s2 := s2) (s0 := (d, n)) X3 HK.out)
    obtain ⟨it, hit⟩ : ∃ z, w3.heap.size = z := ⟨_, rfl⟩
    rw [hit] at LS
    have HIT := Lib.hid (Nat.le_of_eq hit)
    have hDit : D < it := by rw [← hit]; exact X3.lt
    clear X3
    go_wp2
    go_loopw [] (fun wr => ∃ j, Hid (DL w0 w3 wr D b (.slice A l cap) l it s2 k p sz (d, n) j)) (fun wr => s2.length - wr.iterPos it)
    case atStart => exact ⟨0, LS.out⟩
    case round =>
      obtain ⟨j, L⟩ := hrel
      have hlj := L.out.le
      have hpos : wr.iterPos it = j := iterPos_of L.out.iter
      by_cases hlt : j < s2.length
      · obtain ⟨n1, n2, n3⟩ := L.out.next hDit HIT.out
        have T1 := TK.out _ _ L.out.kl _ _ _ _ n1 s2[j] (HLET.out j hlt)
        have PU := fun w2 hl X K => L.out.put (w2 := w2) hDit HIT.out hlt hl X K
        have hnx := next_at L.out.iter hlt _ rfl (by rcases HLET.out j hlt with e | e | e | e <;> rw [e] <;> decide)
        have DK2 := n2
        obtain ⟨cc, hcc⟩ : ∃ z, s2[j] = z := ⟨_, rfl⟩
        rw [hcc] at T1 PU hnx
        obtain ⟨kk, hkk⟩ : ∃ z, k + sumN s2 j = z := ⟨_, rfl⟩
        have SJ : Hid (l < kk + letN cc → l < k + sumN s2 s2.length) := fun h => by
          have h1 := sumN_all s2 (j := j + 1) hlt
          rw [sumN_succ s2 j hlt, hcc] at h1
          omega
        obtain ⟨sj, hsj⟩ : ∃ z, mS (d, n) s2 b k j = z := ⟨_, rfl⟩
        rw [hkk, hsj] at T1
        rw [hkk, hsj] at PU
        obtain ⟨wn, hwn⟩ : ∃ z, wr.iterAt it (sB s2) (j + 1) = z := ⟨_, rfl⟩
        rw [hwn] at T1 PU hnx DK2
        have PU := Lib.hid PU
        have T1 := Lib.hid T1
        have DK2 := Lib.hid DK2
        clear n1 n2 n3 hcc hwn hkk hsj
        go_wp2_with fail
        refine T1.out.mono ?_
        rintro e w2 (⟨h, rfl, h1, h2⟩ | ⟨h, rfl, h1, h2⟩)
        · have L2 := Lib.hid (PU.out w2 h h1 h2)
          clear h h1 h2 T1 hnx PU SJ DK2
          go_wp2
          go_roundw
          case rel => exact ⟨j + 1, L2⟩
          case measure => rw [iterPos_of L2.out.iter, hpos]; omega
        · have F : Hid (RetDI w0 D (.slice A l cap) b l w k p sz s2 m C al (.panicked missE) w2) := .inr ⟨SJ.out h, rfl, h1, (UP.out _ (K3.out.trans (DK2.out.trans h2))).2.2.2⟩
          clear h h1 h2 T1 hnx PU SJ DK2
          exact ⟨rfl, F.out⟩
      · have hj : j = s2.length := by omega
        subst hj
        have hnx := fun ty => Lib.run_next_end_at (P := Tryz.prog) wr it (sB s2) s2.length ty L.out.iter (by rw [sB_size]; omega)
        have X9 := L.out.dec
        have hkl := L.out.kl
        have K9 := Lib.hid (K3.out.trans L.out.dk)
        have HF := HC.out hkl
        obtain ⟨⟨dd, nn⟩, hdn⟩ : ∃ z, mS (d, n) s2 b k s2.length = z := ⟨_, rfl⟩
        rw [hdn] at X9 HF
        simp only at X9 HF
        have FW := fun w h => FI.out dd nn w h
        rw [HF] at FW
        unfold RetFill at FW
        rw [hup] at FW
        obtain ⟨kk, hkk⟩ : ∃ z, k + sumN s2 s2.length = z := ⟨_, rfl⟩
        rw [hkk] at X9 hkl
        have HKK := Lib.hid hkk
        obtain ⟨lc, hlc⟩ : ∃ z, C.length = z := ⟨_, rfl⟩
        have HLC := Lib.hid hlc
        obtain ⟨nr, hnr⟩ : ∃ z, wr.heap.size = z := ⟨_, rfl⟩
        have hDr := X9.lt
        have HER : Hid (E ≤ nr) := by have h1 := (UP.out wr K9.out).2.2.2.size; show E ≤ nr; omega
        have X9 := Lib.hid X9
        have FW := Lib.hid FW
        clear L hpos hlj LS HLET TK FI HF HC hdn hkk hlc
        go_upto_region 9 with fail
        go_cut [8] (fun pv wx => ∃ (c : Nat) (Bc : Option Addr) (cc : Nat), pv = .pointer (some ⟨c, 0, none⟩) ∧ Hid (wx.heap[c]? = some (.cells #[.string (sB m), .slice Bc lc cc] 32 (0, 0)) ∧ OwnT wx E (.slice Bc lc cc) C ∧ Dec w0 D (.slice A l cap) wx kk p sz dd nn ∧ DK D wr wx))
        case first =>
          obtain ⟨w4, hw4⟩ : ∃ z, wr.drew = z := ⟨_, rfl⟩
          have dq : Below wr.heap.size wr w4 := by rw [← hw4]; exact below_drewN wr _ 1
          have z4 : w4.heap.size = nr := by rw [← hw4]; exact hnr
          have X4 := Lib.hid (X9.out.all dq)
          have K4 := Lib.hid (DK.of_below (D := D) dq)
          have UQ : Hid (∀ wz, DK D wr wz → wz.heap[E]? = some (.cells #[.int .i64 p, .int .u8 op, .string (sB m), .slice Ae ne ce, .string se, .bool al] 122 (0, 0)) ∧ OwnT wz B (.slice Ae ne ce) L) := fun wz K => by
            obtain ⟨h1, -, h2, -⟩ := UP.out wz (K9.out.trans K)
            exact ⟨h1, h2⟩
          refine Mixed.wp_region_mixedT (fun w' => w'.heap[E]? = some (.cells #[.int .i64 p, .int .u8 op, .string (sB m), .slice Ae ne ce, .string se, .bool al] 122 (0, 0)) ∧ Dec w0 D (.slice A l cap) w' kk p sz dd nn) 15
            (.pure 0 (.pure 1 (.pure 2 (.pure 3 (.pure 4 (.pure 5 (.pure 6 (.pure 7 (.pure 8 (.two 9 (.pure 10 (.pure 11 (.pure 12 (.one 13 (.one 14 .done))))) 13 (.one 9 (.pure 10 (.pure 11 (.pure 12 (.one 14 .done))))))))))))))) (by kernel_rfl) (by kernel_rfl) (by rw [hw4]; exact ⟨(UQ.out _ K4.out).1, X4.out⟩) ?_
          rw [hw4]
          clear hw4 hnx
          refine Mixed.wpMixT_pure rfl (by kernel_rfl) (.agg #[.int .i64 p, .int .u8 op, .string (sB m), .slice Ae ne ce, .string se, .bool al]) (fun w h => by
            obtain ⟨h1, h2⟩ := h
            obtain ⟨q0, q1, q2, q3, q4, q5⟩ := Fr.cells6 h1
            clear h1 h2
            go_simp; try rfl) ?_
          refine Mixed.wpMixT_pure rfl (by kernel_rfl) (.pointer (some ⟨D, 0, none⟩)) (fun w h => by clear h; go_simp; try rfl) ?_
          refine Mixed.wpMixT_pure rfl (by kernel_rfl) (.pointer (some ⟨D, 0, none⟩)) (fun w h => by clear h; go_simp; try rfl) ?_
          refine Mixed.wpMixT_pure rfl (by kernel_rfl) (.pointer (some ⟨D, 4, none⟩)) (fun w h => by clear h; go_simp; try rfl) ?_
          refine Mixed.wpMixT_pure rfl (by kernel_rfl) (.int .i64 dd) (fun w h => by obtain ⟨h1, h2⟩ := h; obtain ⟨q0, q1, q2, q3, q4, q5, q6⟩ := h2.cells; clear h1 h2; go_simp; try rfl) ?_
          refine Mixed.wpMixT_pure rfl (by kernel_rfl) (.pointer (some ⟨D, 0, none⟩)) (fun w h => by clear h; go_simp; try rfl) ?_
          refine Mixed.wpMixT_pure rfl (by kernel_rfl) (.pointer (some ⟨D, 0, none⟩)) (fun w h => by clear h; go_simp; try rfl) ?_
          refine Mixed.wpMixT_pure rfl (by kernel_rfl) (.pointer (some ⟨D, 5, none⟩)) (fun w h => by clear h; go_simp; try rfl) ?_
          refine Mixed.wpMixT_pure rfl (by kernel_rfl) (.int .i64 nn) (fun w h => by obtain ⟨h1, h2⟩ := h; obtain ⟨q0, q1, q2, q3, q4, q5, q6⟩ := h2.cells; clear h1 h2; go_simp; try rfl) ?_
          refine Mixed.wpMixT_both rfl (by kernel_rfl) rfl (by kernel_rfl) ?_ ?_
          · have C4 := FW.out w4 (UQ.out _ K4.out).2.opsP
            go_wp2_with fail
            refine C4.mono ?_
            rintro e w5 ⟨v, rfl, hO, hb⟩
            obtain ⟨Bc, cc, rfl, -, -⟩ := hO.ops
            rw [HLC.out] at hO ⊢
            have X5 := Lib.hid (X4.out.all hb)
            have K5 := Lib.hid (K4.out.trans (DK.of_below hb))
            have O5 := Lib.hid (show OwnT w5 E (.slice Bc lc cc) C from row_mono hO (by have := HER.out; omega))
            have z5 : nr ≤ w5.heap.size := by have := hb.size; omega
            clear C4 hb hO X4 K4
            go_wp2
            refine ⟨⟨(UQ.out _ K5.out).1, X5.out⟩, ?_⟩
            refine Mixed.wpMixT_pure rfl (by kernel_rfl) (.tuple #[.agg #[.string (sB m), .slice Bc lc cc], .bool true]) (fun w h => by clear h; go_simp; try rfl) ?_
            refine Mixed.wpMixT_pure rfl (by kernel_rfl) (.agg #[.string (sB m), .slice Bc lc cc]) (fun w h => by clear h; go_simp; try rfl) ?_
            refine Mixed.wpMixT_pure rfl (by kernel_rfl) (.bool true) (fun w h => by clear h; go_simp; try rfl) ?_
            refine Mixed.wpMixT_loud rfl (by kernel_rfl) ?_
            obtain ⟨c, w6, hc, hw6, S6, y6, z6⟩ := Fr.box (Fr.nil w5) #[.string ⟨#[]⟩, .slice none 0 0] 32
            have b6 : w6.heap[c]? = some (.cells #[.string ⟨#[]⟩, .slice none 0 0] 32 (0, 0)) := S6.out.1
            have X6 := Lib.hid (X5.out.all y6)
            have K6 := Lib.hid (K5.out.trans (DK.of_below y6))
            have O6 := Lib.hid (O5.out.below y6)
            have hcr : nr ≤ c := by omega
            clear S6 y6 X5 K5 O5
            go_wp2
            refine ⟨⟨(UQ.out _ K6.out).1, X6.out⟩, ?_⟩
            refine Mixed.wpMixT_loud rfl (by kernel_rfl) ?_
            obtain ⟨w7, hw7, c7, o7, x7, k7⟩ := ins_put X6.out K6.out (by omega) b6 (by omega) O6.out (.string (sB m))
            obtain ⟨b60, b61⟩ := Fr.cells2 b6
            have fz := fun i => Lib.frozen_of_heap b6 i
            have F := Lib.hid (⟨c7, o7, x7, k7⟩ : w7.heap[c]? = some (.cells #[.string (sB m), .slice Bc lc cc] 32 (0, 0)) ∧ OwnT w7 E (.slice Bc lc cc) C ∧ Dec w0 D (.slice A l cap) w7 kk p sz dd nn ∧ DK D wr w7)
            clear c7 o7 x7 k7 X6 K6 O6 b6
            go_wp2
            refine ⟨⟨(UQ.out _ F.out.2.2.2).1, F.out.2.2.1⟩, ?_⟩
            simp only [Mixed.wpMixT, List.drop_succ_cons, List.drop_zero]
            go_wp2
            go_meet
            exact ⟨c, Bc, cc, rfl, F⟩
          · obtain ⟨c, w6, hc, hw6, S6, y6, z6⟩ := Fr.box (Fr.nil w4) #[.string ⟨#[]⟩, .slice none 0 0] 32
            have b6 : w6.heap[c]? = some (.cells #[.string ⟨#[]⟩, .slice none 0 0] 32 (0, 0)) := S6.out.1
            have X6 := Lib.hid (X4.out.all y6)
            have K6 := Lib.hid (K4.out.trans (DK.of_below y6))
            obtain rfl : c = nr := by omega
            have hcr : c ≤ c := Nat.le_refl _
            have hE6 : Hid (E ≤ w6.heap.size) := by have := HER.out; show _ ≤ _; omega
            have C4 := FW.out w6 (UQ.out _ K6.out).2.opsP
            clear S6 y6 X4 K4
            go_wp2
            refine ⟨⟨(UQ.out _ K6.out).1, X6.out⟩, ?_⟩
            refine Mixed.wpMixT_loud rfl (by kernel_rfl) ?_
            go_wp2_with fail
            refine C4.mono ?_
            rintro e w5 ⟨v, rfl, hO, hb⟩
            obtain ⟨Bc, cc, rfl, -, -⟩ := hO.ops
            rw [HLC.out] at hO ⊢
            have X5 := Lib.hid (X6.out.all hb)
            have K5 := Lib.hid (K6.out.trans (DK.of_below hb))
            have O5 := Lib.hid (show OwnT w5 E (.slice Bc lc cc) C from row_mono hO hE6.out)
            have b5 : w5.heap[c]? = some (.cells #[.string ⟨#[]⟩, .slice none 0 0] 32 (0, 0)) := (hb.block c (by omega)).trans b6
            clear C4 hb hO X6 K6 b6
            go_wp2
            refine ⟨⟨(UQ.out _ K5.out).1, X5.out⟩, ?_⟩
            refine Mixed.wpMixT_pure rfl (by kernel_rfl) (.tuple #[.agg #[.string (sB m), .slice Bc lc cc], .bool true]) (fun w h => by clear h; go_simp; try rfl) ?_
            refine Mixed.wpMixT_pure rfl (by kernel_rfl) (.agg #[.string (sB m), .slice Bc lc cc]) (fun w h => by clear h; go_simp; try rfl) ?_
            refine Mixed.wpMixT_pure rfl (by kernel_rfl) (.bool true) (fun w h => by clear h; go_simp; try rfl) ?_
            refine Mixed.wpMixT_loud rfl (by kernel_rfl) ?_
            obtain ⟨w7, hw7, c7, o7, x7, k7⟩ := ins_put X5.out K5.out (by omega) b5 (by omega) O5.out (.string (sB m))
            obtain ⟨b60, b61⟩ := Fr.cells2 b5
            have fz := fun i => Lib.frozen_of_heap b5 i
            have F := Lib.hid (⟨c7, o7, x7, k7⟩ : w7.heap[c]? = some (.cells #[.string (sB m), .slice Bc lc cc] 32 (0, 0)) ∧ OwnT w7 E (.slice Bc lc cc) C ∧ Dec w0 D (.slice A l cap) w7 kk p sz dd nn ∧ DK D wr w7)
            clear c7 o7 x7 k7 X5 K5 O5 b5
            go_wp2
            refine ⟨⟨(UQ.out _ F.out.2.2.2).1, F.out.2.2.1⟩, ?_⟩
            simp only [Mixed.wpMixT, List.drop_succ_cons, List.drop_zero]
            go_wp2
            go_meet
            exact ⟨c, Bc, cc, rfl, F⟩
        case rest =>
          obtain ⟨c, Bc, cc, rfl, R⟩ := hcut
          obtain ⟨cE, cI, -, kW⟩ := UP.out wc (K9.out.trans R.out.2.2.2)
          obtain ⟨b0, b1⟩ := Fr.cells2 R.out.1
          obtain ⟨q0, q1, q2, q3, q4, q5⟩ := Fr.cells6 cE
          obtain ⟨f0, f1, f2, f3, f4, f5⟩ := cI.cells
          obtain ⟨wz, hwz, i1, i2, i3, i4, i5, i6⟩ := cI.put 1 (.slice none 0 0) (sB m) (.slice Bc lc cc) al
          have F : Hid (RetDI w0 D (.slice A l cap) b l w k p sz s2 m C al (.returned (.agg #[.int .i64 1, .slice none 0 0, .string (sB m), .slice Bc lc cc, .bool al])) wz) :=
            .inl ⟨by rw [HKK.out]; exact hkl, ⟨Bc, cc, by rw [HLC.out], by rw [HLC.out, HE.out]; exact it_ownT cI R.out.2.1 i6⟩, ⟨dd, nn, by rw [HKK.out]; exact ⟨(i2.block D (by omega)).trans R.out.2.2.1.blk, R.out.2.2.1.bel.trans (i2.mono (by omega))⟩⟩,
              ⟨Nat.le_trans kW.size i2.size, fun k hk hb => (i6 k (by omega)).trans (kW.same k hk hb)⟩⟩
          obtain ⟨j0, j1, j2, j3, j4, j5⟩ := i1.cells
          clear R cE cI kW i1 i2 i3 i4 i5 i6 UP K9 X9 FW q0 q1 q2 q3 q4
          go_wp2
          refine bodyPost_ret (v := .agg #[.int .i64 1, .slice none 0 0, .string (sB m), .slice Bc lc cc, .bool al]) ?_ rfl F.out
          simp [results, Tryz.results86, go_sem, j0, j1, j2, j3, j4]
end Go.Proofs.YtmnleknehjkmgaaGreat
namespace Go.Proofs.YtmnleknehjkmgaaGreat
open Go.RowKit Go.Shelf
attribute [local go_sem] Oper.semAt_some
def kkP (p : Int) : Nat := (preS p).length + if 5 ≤ p then 2 else 1
theorem missB {p : Int} (hp : 0 ≤ p ∧ p ≤ 6) {b r : Str} (hb : b = preS p ++ r) (h : b.length < kkP p) : itR b = iteO 4 b ∧ needR b = kkP p := by
  subst hb
  unfold kkP at h ⊢
  rw [List.length_append] at h
  by_cases h5 : 5 ≤ p
  · rw [if_pos h5] at h ⊢
    rw [pre_5 ⟨h5, hp.2⟩]
    exact miss5 ⟨h5, hp.2⟩ (by omega)
  · rw [if_neg h5] at h ⊢
    obtain rfl : r = [] := List.length_eq_zero_iff.1 (by omega)
    rw [List.append_nil]
    exact miss4 ⟨hp.1, by omega⟩
theorem hasB {p : Int} (hp : 0 ≤ p ∧ p ≤ 6) {b r : Str} (hb : b = preS p ++ r) (h : kkP p ≤ b.length) :
    ∃ o t, b.getD (kkP p - 1) 0 = o ∧ (p ≤ 4 → b = preS p ++ o :: t ∧ b.drop (kkP p) = t) ∧ (5 ≤ p → hdB b = some (p, o, t) ∧ ∃ u, t = b.getD (preS p).length 0 :: u) := by
  subst hb
  unfold kkP at h ⊢
  rw [List.length_append] at h
  by_cases h5 : 5 ≤ p
  · rw [if_pos h5] at h ⊢
    match r, h with
    | [], h => exact absurd h (by simp only [List.length_nil]; omega)
    | [x], h => exact absurd h (by simp only [List.length_nil, List.length_cons]; omega)
    | x :: o :: u, h =>
      refine ⟨o, x :: u, ?_, fun h4 => by omega, fun _ => ⟨hd_at5 ⟨h5, hp.2⟩ x o u, u, ?_⟩⟩
      · rw [List.getD_eq_getElem?_getD, List.getElem?_append_right (by omega), show (preS p).length + 2 - 1 - (preS p).length = 1 by omega]; rfl
      · rw [List.getD_eq_getElem?_getD, List.getElem?_append_right (by omega), Nat.sub_self]; rfl
  · rw [if_neg h5] at h ⊢
    match r, h with
    | [], h => exact absurd h (by simp only [List.length_nil]; omega)
    | o :: t, h =>
      refine ⟨o, t, ?_, fun _ => ⟨rfl, ?_⟩, fun h => absurd h h5⟩
      · rw [List.getD_eq_getElem?_getD, List.getElem?_append_right (by omega), show (preS p).length + 1 - 1 - (preS p).length = 0 by omega]; rfl
      · rw [List.drop_append]
        simp
theorem sz_kk {p : Int} {i : Nat} {ex : Str} (hx : ExP p i ex) : kkP p + sumN (behS p ex) (behS p ex).length = sizeT p ex := by
  unfold kkP behS sizeT
  by_cases h5 : 5 ≤ p
  · rw [if_pos h5, if_pos h5, hx.hi h5]
    rfl
  · rw [if_neg h5, if_neg h5]
def ddP (b : Str) (p d : Int) : Int := if 5 ≤ p then sgB (b.getD (preS p).length 0) else d
theorem num_kk {p : Int} {i : Nat} {ex : Str} (hx : ExP p i ex) {b t : Str} (h4 : p ≤ 4 → b.drop (kkP p) = t) (h5 : 5 ≤ p → ∃ u, t = b.getD (preS p).length 0 :: u) :
    mS (ddP b p 0, 0) (behS p ex) b (kkP p) (behS p ex).length = numB ex t := by
  unfold ddP behS
  by_cases hp : 5 ≤ p
  · obtain ⟨u, rfl⟩ := h5 hp
    rw [if_pos hp, if_pos hp, hx.hi hp, num_d]
    rfl
  · rw [if_neg hp, if_neg hp, mS_num hx, h4 (by omega)]
theorem opcode_any {w0 : World} {D : Nat} {b : Str} {A : Option Addr} {l cap : Nat} (H : DH w0 D b A l cap) {w : World} {p nd d n : Int} (hk : (preS p).length ≤ l) (X : Dec w0 D (.slice A l cap) w (preS p).length p nd d n) (hp : 0 ≤ p ∧ p ≤ 6) :
    Calls Tryz.prog 85 #[.pointer (some ⟨D, 0, none⟩)] w fun e w' =>
      (kkP p ≤ l ∧ DOk w0 D (.slice A l cap) w e w' (.int .u8 ((b.getD (kkP p - 1) 0).toNat : Int)) (kkP p) p (kkP p : Nat) (ddP b p d) n) ∨ (l < kkP p ∧ DMiss w0 D (.slice A l cap) w e w' l p (kkP p : Nat)) := by
  unfold kkP ddP
  by_cases h5 : 5 ≤ p
  · rw [if_pos h5, if_pos h5]
    refine (opcode5_any H hk X (by omega)).mono ?_
    rintro e w' (⟨h, h1⟩ | ⟨h, h1⟩)
    · exact .inl ⟨h, h1⟩
    · exact .inr ⟨by omega, h1⟩
  · rw [if_neg h5, if_neg h5]
    refine (opcode4_any H hk X (by omega)).mono ?_
    rintro e w' (⟨h, h1⟩ | ⟨h, h1⟩)
    · exact .inl ⟨h, h1⟩
    · exact .inr ⟨by omega, h1⟩
theorem tat2_any (page : Int) (o : UInt8) (w : World) (hM : MaxAt w) : Calls Tryz.prog 84 #[.int .i64 page, .int .u8 (o.toNat : Int)] w fun e w' => ∃ (pp oo : Int) (m : Str) (Av : Option Addr) (nv cv : Nat) (ex : Str) (al : Bool) (kd : Int),
    e = .returned (.tuple #[.agg #[.int .i64 pp, .int .u8 oo, .string (sB m), .slice Av nv cv, .string (sB ex), .bool al], .int .i64 kd]) ∧ Below w.heap.size w w' ∧
    (∀ x, ratT page o.toNat = some x → kd = 1 ∧ pp = page ∧ oo = (o.toNat : Int) ∧ m = x.1 ∧ ex = x.2.2.1 ∧ al = x.2.2.2 ∧ nv = x.2.1.length ∧ OwnT w' w.heap.size (.slice Av nv cv) x.2.1) ∧ (ratT page o.toNat = none → kd = rkindT page o.toNat) := by
  refine (tat_any page (o.toNat : Int) (by omega) (by have := o.toNat_lt; omega) w hM).mono ?_
  rintro e w' ⟨h, hb⟩
  rw [at_same page o.toNat o.toNat_lt] at h
  cases hx : ratT page o.toNat with
  | some x =>
    rw [hx] at h
    obtain ⟨v, rfl, hO⟩ := h
    obtain ⟨Av, cv, rfl, -, -⟩ := hO.ops
    exact ⟨_, _, _, Av, _, cv, _, _, _, rfl, hb, (fun y hy => by cases hy; exact ⟨rfl, rfl, rfl, rfl, rfl, rfl, rfl, hO⟩), fun h => by cases h⟩
  | none =>
    rw [hx] at h
    simp only at h
    subst h
    exact ⟨_, _, _, _, _, _, _, _, _, rfl, hb, (fun y hy => by cases hy), fun _ => ok_none o.toNat_lt hx⟩
theorem ent_put {w0 wr w : World} {D : Nat} {S : Value} {k : Nat} {p nd d n : Int} {c : Nat} {cur : Array Value} (X : Dec w0 D S w k p nd d n) (K : DK D wr w) (hD : D < wr.heap.size) (h : w.heap[c]? = some (.cells cur 122 (0, 0))) (hc : wr.heap.size ≤ c) (cs : Array Value) :
    ∃ w', w.setRow c cs = w' ∧ w'.heap[c]? = some (.cells cs 122 (0, 0)) ∧ Dec w0 D S w' k p nd d n ∧ DK D wr w' ∧ ∀ B u L, OwnT w B u L → OwnT w' B u L := by
  have s : ∀ k, k ≠ c → (w.setRow c cs).heap[k]? = w.heap[k]? := fun k hk => setRow_other w c k cs hk
  have b : Below c w (w.setRow c cs) := below_setRow (Below.refl c w) (Nat.le_refl _) cs
  refine ⟨_, rfl, setRow_heap w c cur cs 122 (0, 0) h, ⟨(s D (by omega)).trans X.blk, X.bel.trans (b.mono (by omega))⟩, ⟨Nat.le_trans K.size b.size, fun k hk hb => (s k (by omega)).trans (K.same k hk hb)⟩, fun B u L O => ⟨O.1, ?_⟩⟩
  rcases O.2 with e | ⟨g, cap, cur, e1, e2, e3, e4⟩
  · exact .inl e
  · refine .inr ⟨g, cap, cur, e1, e2, (s g (fun e => ?_)).trans e3, e4⟩
    subst e
    rw [h] at e3
    simp at e3
end Go.Proofs.YtmnleknehjkmgaaGreat
