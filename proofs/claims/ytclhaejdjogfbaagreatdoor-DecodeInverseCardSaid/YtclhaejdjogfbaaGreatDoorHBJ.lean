/-
  SeRg, SeRk, SeI, SeV, InW, LsA, SeX, CnK, SeRh, SeY, SeRl, EnD, EnP, TbOn, EnS, EnR, SeRm, EnF, DeC, NumM, NumN, WrA, WrB, WrC.
-/
import Derived.Test.YtclhaejdjogfbaaGreatDoorHBD
import Derived.Test.YtclhaejdjogfbaaGreatDoorWSeM
import Derived.Test.YtclhaejdjogfbaaGreatDoorWSeH
import Derived.Test.YtclhaejdjogfbaaGreatDoorHAW
import Derived.Test.YtclhaejdjogfbaaGreatDoorHAA
import Derived.Lib.SmallJoins
import Derived.Deep.Slices
import Derived.Deep.Strs
import Derived.Deep.Fields
import Derived.ChangeSame
import Derived.OpenShut
import Derived.Test.YtclhaejdjogfbaaGreatDoorHAT
import Derived.Laws.AppendOwn
import Derived.Laws.OwnMore
import Derived.Test.YtclhaejdjogfbaaGreatDoorHAE
import Derived.Test.YtclhaejdjogfbaaGreatDoorHAP
import Derived.Test.YtclhaejdjogfbaaGreatDoorHAI
import Derived.Deep.QuietTactic
import Derived.BigQuiet
import Derived.Test.YtclhaejdjogfbaaGreatDoorHAG
import Derived.Deep.DeepCutAuto
import Derived.Deep.Cut
import Derived.Test.YtclhaejdjogfbaaGreatDoorHAB
import Derived.Deep.Draws
import Derived.RegionTactic
import Derived.Lib.OthersKept
import Derived.Maps.Own
import Derived.Maps.OwnOps
import Derived.Maps.OwnSet
import Derived.Maps.Views
import Derived.Laws.EntriesVeiled
set_option linter.all false
set_option maxRecDepth 100000
set_option maxHeartbeats 4000000
namespace Go.Proofs.YtclhaejdjogfbaaGreatDoor
open Go.RowKit Go.Shelf
attribute [local go_sem] Oper.semAt_some
end Go.Proofs.YtclhaejdjogfbaaGreatDoor
namespace Go.Proofs.YtclhaejdjogfbaaGreatDoor
open Go.RowKit Go.Shelf
attribute [local go_sem] Oper.semAt_some
end Go.Proofs.YtclhaejdjogfbaaGreatDoor
namespace Go.Proofs.YtclhaejdjogfbaaGreatDoor
open Go.RowKit Go.Shelf
attribute [local go_sem] Oper.semAt_some
attribute [local irreducible] Go.Mixed.wpMix
end Go.Proofs.YtclhaejdjogfbaaGreatDoor
namespace Go.Proofs.YtclhaejdjogfbaaGreatDoor
open Go.RowKit Go.Shelf
attribute [local go_sem] Oper.semAt_some
attribute [local irreducible] Go.Mixed.wpMix
theorem svalues_any (page op : Int) (m : Str) (hm : m.length ≤ 1000) (hup : upB (sB m) = sB m) (A : Option Addr) (cap l : Nat) (L : List Tr) (hl : L.length = l) (hL : l ≤ 1000) (ex : Str) (hx : ex.length ≤ 1000) (al : Bool) (s : ByteArray) (Ai : Option Addr) (capi li : Nat) (I : List Tr) (hli : I.length = li) (hLi : li ≤ 900) (w : World) (H : OpsP w A L) (HF : OpsP w Ai I) :
    Calls Tryz.prog 38 #[enV page op m (.slice A l cap) ex al, .agg #[.string s, .slice Ai li capi]] w fun e w' => e = .returned (.tuple #[.int .i64 (valV m L ex s (canL (opc s) I)).1, .int .i64 (valV m L ex s (canL (opc s) I)).2]) ∧ Below w.heap.size w w' := by
  have hof := fun w h => of_any s Ai capi I (by omega) w h
  rw [hli] at hof
  have hcl := canL_len (opc s) I
  have hhe := fun Af capf lf (e1 : (canL (opc s) I).length = lf) w' h1 h2 => hasEntry_any page op m hm hup A cap l L hl hL ex hx al s Af capf lf (canL (opc s) I) e1 (by omega) w' h1 h2
  have hva := fun w => variables_any page op m A l cap ex hx al w
  obtain ⟨C, hC⟩ : ∃ C, canL (opc s) I = C := ⟨_, rfl⟩
  rw [hC] at hof hhe hcl
  rw [hC]
  obtain ⟨x, hxx⟩ : ∃ x, (varsV ex).1 = x := ⟨_, rfl⟩
  obtain ⟨y, hyy⟩ : ∃ y, (varsV ex).2 = y := ⟨_, rfl⟩
  obtain ⟨tt, htt⟩ : ∃ z, hasV m L ex s C = z := ⟨_, rfl⟩
  have VV : Hid (valV m L ex s C = if tt = true then (numV x.1 C, numV y.1 C) else (0, 0)) := by show _ = _; unfold valV; rw [htt, hxx, hyy]
  obtain ⟨vv, hvv⟩ : ∃ z, valV m L ex s C = z := ⟨_, rfl⟩
  rw [hvv] at VV ⊢
  unfold RetVars at hva
  rw [hxx, hyy] at hva
  rw [htt] at hhe
  have CL : Hid (C.length ≤ 1000) := by show _ ≤ _; omega
  clear hC htt hcl hup hvv hxx hyy
  unfold enV at hhe hva ⊢
  obtain ⟨w0, hw0⟩ : ∃ w0, (w.alloc (.cells #[.int .i64 page, .int .u8 op, .string (sB m), .slice A l cap, .string (sB ex), .bool al] 47)).alloc (.cells #[.string s, .slice Ai li capi] 24) = w0 := ⟨_, rfl⟩
  obtain ⟨n, hn⟩ : ∃ n, w.heap.size = n := ⟨_, rfl⟩
  have b0 : Below n w w0 := by rw [← hw0, ← hn]; exact ((Below.refl _ w).alloc (Nat.le_refl _) _).alloc (by simp) _
  have z0 : w0.heap.size = n + 1 + 1 := by rw [← hw0, ← hn]; simp
  have c0 : w0.heap[n]? = some (.cells #[.int .i64 page, .int .u8 op, .string (sB m), .slice A l cap, .string (sB ex), .bool al] 47 (0, 0)) := by
    rw [← hw0, ← hn]
    exact (Below.heap_alloc _ _ _ (by simp)).trans (World.alloc_heap_new w _)
  have c1 : w0.heap[n + 1]? = some (.cells #[.string s, .slice Ai li capi] 24 (0, 0)) := by
    rw [← hw0, ← hn]
    have h := World.alloc_heap_new (w.alloc (.cells #[.int .i64 page, .int .u8 op, .string (sB m), .slice A l cap, .string (sB ex), .bool al] 47)) (.cells #[.string s, .slice Ai li capi] 24)
    rwa [World.size_alloc] at h
  have OF := Lib.hid hof
  have HE := Lib.hid hhe
  have VA := Lib.hid hva
  have HN := Lib.hid hn
  have B0 := Lib.hid b0
  have C0 := Lib.hid c0
  have P0 := Lib.hid (H.below (by rw [hn]; exact b0))
  have Q0 := Lib.hid (HF.below (by rw [hn]; exact b0))
  have k0 := Lib.cell_of_heap c1 0
  have k1 := Lib.cell_of_heap c1 1
  clear hof hhe hva c0 c1 b0 H HF hm hx
  go_enter Tryz.func38, Tryz.ntmps38
  go_wp2_with fail
  refine (OF.out _ Q0.out).mono ?_
  rintro e w1 ⟨v, rfl, hO, hb⟩
  obtain ⟨Af, capf, rfl, hP, -, -⟩ := hO.ops
  obtain ⟨lf, hlf⟩ : ∃ z, C.length = z := ⟨_, rfl⟩
  have HLF := Lib.hid hlf
  rw [hlf] at CL ⊢
  obtain ⟨b, hbs⟩ : ∃ b, w1.heap.size = b := ⟨_, rfl⟩
  obtain ⟨w2, hw2, y1, y2, y3⟩ := ins_box w1 s (.slice Af lf capf) b hbs
  have bb : Below (n + 1 + 1) w0 w2 := (hb.mono (by omega)).trans (y2.mono (by have := hb.size; omega))
  have hnb : n + 2 ≤ b := by have := hb.size; omega
  have c0 := (bb.block n (by omega)).trans C0.out
  have E2 := Lib.hid c0
  have B2 : Hid (Below n w w2) := B0.out.trans (bb.mono (by omega))
  have P2 := Lib.hid (P0.out.below (by rw [z0]; exact bb))
  have Q2 := Lib.hid (hP.below y2)
  have he := HE.out Af capf lf HLF.out w2 P2.out Q2.out
  have Y1 := Lib.hid y1
  have j0 := Lib.cell_of_heap y1 0
  have j1 := Lib.cell_of_heap y1 1
  have i0 := Lib.cell_of_heap c0 0
  have i1 := Lib.cell_of_heap c0 1
  have i2 := Lib.cell_of_heap c0 2
  have i3 := Lib.cell_of_heap c0 3
  have i4 := Lib.cell_of_heap c0 4
  have i5 := Lib.cell_of_heap c0 5
  clear hO hP hb y1 y2 bb c0 OF HE P0 Q0 B0 C0 z0 hw0 hlf k0 k1
  go_wp2_with fail
  refine he.mono ?_
  rintro e w3 ⟨rfl, hb⟩
  have P3 := Lib.hid (P2.out.below hb)
  have Q3 := Lib.hid (Q2.out.below hb)
  have B3 : Hid (Below n w w3) := B2.out.trans (hb.mono (by omega))
  have Y3 := Lib.hid ((hb.block b (by omega)).trans Y1.out)
  have E3 := Lib.hid ((hb.block n (by omega)).trans E2.out)
  have s3 : b + 1 ≤ w3.heap.size := by have := hb.size; omega
  have va3 := VA.out w3
  clear he hb P2 Q2 B2 Y1 E2 VA j0 j1 i0 i1 i2 i3 i4 i5 y3 hw2 w2 hbs
  have i0 := Lib.cell_of_heap E3.out 0
  have i1 := Lib.cell_of_heap E3.out 1
  have i2 := Lib.cell_of_heap E3.out 2
  have i3 := Lib.cell_of_heap E3.out 3
  have i4 := Lib.cell_of_heap E3.out 4
  have i5 := Lib.cell_of_heap E3.out 5
  cases tt with
  | false =>
    clear va3
    go_wp2
    refine bodyPost_ret (v := .tuple #[.int .i64 0, .int .i64 0]) ?_ rfl ?_
    · simp [results, Tryz.results38, go_sem]
    · refine ⟨?_, by rw [HN.out]; exact B3.out⟩
      rw [VV.out]
      rfl
  | true =>
    go_wp2_with fail
    refine va3.mono ?_
    rintro e w4 ⟨f, g, f', g', rfl, va, va', hb⟩
    obtain ⟨p1, p2, p3, hf, hg⟩ := va.form
    obtain ⟨p4, p5, p6, hf', hg'⟩ := va'.form
    subst hf hg hf' hg'
    obtain ⟨c, hcs⟩ : ∃ c, w4.heap.size = c := ⟨_, rfl⟩
    obtain ⟨w5, hw5, x1, x2, x3, x4, x5, x6⟩ := vars_boxes va va' c hcs
    have hbc : b + 1 ≤ c := by have := hb.size; omega
    have bb : Below (b + 1) w3 w5 := (hb.mono (by omega)).trans (x5.mono (by omega))
    have bb' : Below w3.heap.size w3 w5 := hb.trans (x5.mono hb.size)
    have B5 : Hid (Below n w w5.drew) := (B3.out.trans (bb.mono (by omega))).drew
    have hd := below_drewN w5 w5.heap.size 1
    have Q5 := Lib.hid ((Q3.out.below bb').below hd)
    have KK : Hid (w5.drew.heap[b]? = some (.cells #[.string s, .slice Af lf capf] 24 (0, 0)) ∧ w5.drew.heap[c]? = some (.cells #[.func (.func 125) #[] #[.pointer (some ⟨p1, 0, none⟩)], .func (.func 127) #[] #[.pointer (some ⟨p2, 0, none⟩), .pointer (some ⟨p3, 0, none⟩)]] 118 (0, 0)) ∧ w5.drew.heap[c + 1]? = some (.cells #[.func (.func 125) #[] #[.pointer (some ⟨p4, 0, none⟩)], .func (.func 127) #[] #[.pointer (some ⟨p5, 0, none⟩), .pointer (some ⟨p6, 0, none⟩)]] 118 (0, 0))) := ⟨(bb.block b (by omega)).trans Y3.out, x1, x2⟩
    have X3 := Lib.hid (x3.below hd)
    have X4 := Lib.hid (x4.below hd)
    clear va3 va va' hb x1 x2 x3 x4 x5 bb bb' hd P3 Q3 B3 Y3 E3 i0 i1 i2 i3 i4 i5
    go_upto_region 5 with fail
    obtain ⟨w6, hw6⟩ : ∃ z, w5.drew = z := ⟨_, rfl⟩
    have hw6' : w5.drewN 1 = w6 := hw6
    rw [hw6'] at Q5 X3 X4
    rw [hw6] at B5 KK
    have z6 : w6.heap.size = c + 2 := by rw [← hw6]; exact x6
    refine Mixed.wp_region_mixed (fun w' => w'.heap[b]? = some (.cells #[.string s, .slice Af lf capf] 24 (0, 0)) ∧ w'.heap[c]? = some (.cells #[.func (.func 125) #[] #[.pointer (some ⟨p1, 0, none⟩)], .func (.func 127) #[] #[.pointer (some ⟨p2, 0, none⟩), .pointer (some ⟨p3, 0, none⟩)]] 118 (0, 0)) ∧ w'.heap[c + 1]? = some (.cells #[.func (.func 125) #[] #[.pointer (some ⟨p4, 0, none⟩)], .func (.func 127) #[] #[.pointer (some ⟨p5, 0, none⟩), .pointer (some ⟨p6, 0, none⟩)]] 118 (0, 0))) 6 [(0, true), (1, true), (3, true), (4, true), (2, false), (5, false)] (by kernel_rfl) (by kernel_rfl) (by rw [hw6]; exact KK.out) ?_
    rw [hw6]
    clear hw6 hw6' x6 hw5
    refine Mixed.wpMix_pure rfl (by kernel_rfl) (.agg #[.func (.func 125) #[] #[.pointer (some ⟨p1, 0, none⟩)], .func (.func 127) #[] #[.pointer (some ⟨p2, 0, none⟩), .pointer (some ⟨p3, 0, none⟩)]]) (fun w h => by
      obtain ⟨h1, h2, h3⟩ := h
      have q0 := Lib.cell_of_heap h2 0
      have q1 := Lib.cell_of_heap h2 1
      go_simp; try rfl) ?_
    refine Mixed.wpMix_pure rfl (by kernel_rfl) (.agg #[.string s, .slice Af lf capf]) (fun w h => by
      obtain ⟨h1, h2, h3⟩ := h
      have q0 := Lib.cell_of_heap h1 0
      have q1 := Lib.cell_of_heap h1 1
      go_simp; try rfl) ?_
    refine Mixed.wpMix_pure rfl (by kernel_rfl) (.agg #[.func (.func 125) #[] #[.pointer (some ⟨p4, 0, none⟩)], .func (.func 127) #[] #[.pointer (some ⟨p5, 0, none⟩), .pointer (some ⟨p6, 0, none⟩)]]) (fun w h => by
      obtain ⟨h1, h2, h3⟩ := h
      have q0 := Lib.cell_of_heap h3 0
      have q1 := Lib.cell_of_heap h3 1
      go_simp; try rfl) ?_
    refine Mixed.wpMix_pure rfl (by kernel_rfl) (.agg #[.string s, .slice Af lf capf]) (fun w h => by
      obtain ⟨h1, h2, h3⟩ := h
      have q0 := Lib.cell_of_heap h1 0
      have q1 := Lib.cell_of_heap h1 1
      go_simp; try rfl) ?_
    have n1 := vnum_any x (.agg #[.func (.func 125) #[] #[.pointer (some ⟨p1, 0, none⟩)], .func (.func 127) #[] #[.pointer (some ⟨p2, 0, none⟩), .pointer (some ⟨p3, 0, none⟩)]]) s Af capf lf C HLF.out CL.out w6 X3.out Q5.out
    refine Mixed.wpMix_loudG rfl (by kernel_rfl) ?_
    go_wp2_with fail
    refine n1.mono ?_
    rintro e w7 ⟨rfl, hb⟩
    have K7 : Hid (w7.heap[b]? = some (.cells #[.string s, .slice Af lf capf] 24 (0, 0)) ∧ w7.heap[c]? = some (.cells #[.func (.func 125) #[] #[.pointer (some ⟨p1, 0, none⟩)], .func (.func 127) #[] #[.pointer (some ⟨p2, 0, none⟩), .pointer (some ⟨p3, 0, none⟩)]] 118 (0, 0)) ∧ w7.heap[c + 1]? = some (.cells #[.func (.func 125) #[] #[.pointer (some ⟨p4, 0, none⟩)], .func (.func 127) #[] #[.pointer (some ⟨p5, 0, none⟩), .pointer (some ⟨p6, 0, none⟩)]] 118 (0, 0))) := ⟨(hb.block _ (by omega)).trans KK.out.1, (hb.block _ (by omega)).trans KK.out.2.1, (hb.block _ (by omega)).trans KK.out.2.2⟩
    have n2 := vnum_any y (.agg #[.func (.func 125) #[] #[.pointer (some ⟨p4, 0, none⟩)], .func (.func 127) #[] #[.pointer (some ⟨p5, 0, none⟩), .pointer (some ⟨p6, 0, none⟩)]]) s Af capf lf C HLF.out CL.out w7 (X4.out.below hb) (Q5.out.below hb)
    have B7 : Hid (Below n w w7) := B5.out.trans (hb.mono (by omega))
    have s7 : c + 2 ≤ w7.heap.size := by have := hb.size; omega
    clear hb n1 KK Q5 X3 X4 B5 z6
    go_wp2
    refine ⟨K7.out, ?_⟩
    refine Mixed.wpMix_loudG rfl (by kernel_rfl) ?_
    go_wp2_with fail
    refine n2.mono ?_
    rintro e w8 ⟨rfl, hb⟩
    have K8 : Hid (w8.heap[b]? = some (.cells #[.string s, .slice Af lf capf] 24 (0, 0)) ∧ w8.heap[c]? = some (.cells #[.func (.func 125) #[] #[.pointer (some ⟨p1, 0, none⟩)], .func (.func 127) #[] #[.pointer (some ⟨p2, 0, none⟩), .pointer (some ⟨p3, 0, none⟩)]] 118 (0, 0)) ∧ w8.heap[c + 1]? = some (.cells #[.func (.func 125) #[] #[.pointer (some ⟨p4, 0, none⟩)], .func (.func 127) #[] #[.pointer (some ⟨p5, 0, none⟩), .pointer (some ⟨p6, 0, none⟩)]] 118 (0, 0))) := ⟨(hb.block _ (by omega)).trans K7.out.1, (hb.block _ (by omega)).trans K7.out.2.1, (hb.block _ (by omega)).trans K7.out.2.2⟩
    have B8 : Hid (Below n w w8) := B7.out.trans (hb.mono (by omega))
    clear hb n2 B7 K7
    go_wp2
    refine ⟨K8.out, ?_⟩
    simp only [Mixed.wpMix, List.drop_succ_cons, List.drop_zero]
    go_wp2
    refine bodyPost_ret (v := .tuple #[.int .i64 (numV x.1 C), .int .i64 (numV y.1 C)]) ?_ rfl ?_
    · simp [results, Tryz.results38, go_sem]
    · refine ⟨?_, by rw [HN.out]; exact B8.out⟩
      rw [VV.out]
      simp
end Go.Proofs.YtclhaejdjogfbaaGreatDoor
namespace Go.Proofs.YtclhaejdjogfbaaGreatDoor
open Go.RowKit Go.ChangeShapes Go.WideShapes Go.Deep
theorem plain_cell {w : World} {a : Addr} {v : Value} (h : w.cell? (a.add 0) = some v) : ∃ b off, a = ⟨b, off, none⟩ := by
  obtain ⟨b, off, spot⟩ := a
  have hs : spot = none := by simpa [Addr.add] using World.cell?_spot h
  subst hs
  exact ⟨b, off, rfl⟩
theorem add_twice (b off i j : Nat) : ((⟨b, off, none⟩ : Addr).add i).add j = ⟨b, off + i + j, none⟩ := by
  unfold Addr.add
  by_cases hi : i = 0 <;> by_cases hj : j = 0 <;> simp [hi, hj]
section
variable {H : Type} {enc : TypeId × Value → H} {w : World} {spare : Nat → Bool} {fuel : Nat}
theorem open_opdC {cs : List Value} {x : DataW H × List MemPlace} (h : DataW.trod enc Tryz.prog w 0 spare true fuel 56 cs = some x) : ∃ t : Tr, cs = [.int .i64 t.1, .int .i64 t.2.1, .int .i64 t.2.2] := by
  obtain ⟨y0, y1, y2, n, _, hl, h0, h1, h2⟩ := trod_struct3 Tryz.underlying56 h
  have c3 : Tryz.prog.cellsOf 56 = 3 := by kernel_rfl
  have c1 : Tryz.prog.cellsOf 3 = 1 := by kernel_rfl
  rw [c3] at hl
  match cs, hl with
  | [p0, p1, p2], _ =>
    simp only [c1] at h0 h1 h2
    obtain ⟨k, e0, _, _⟩ := DataW.trod_int Tryz.underlying3 h0
    obtain ⟨r, e1, _, _⟩ := DataW.trod_int Tryz.underlying3 h1
    obtain ⟨m, e2, _, _⟩ := DataW.trod_int Tryz.underlying3 h2
    have e0' : p0 = .int .i64 k := by simpa using e0
    have e1' : p1 = .int .i64 r := by simpa using e1
    have e2' : p2 = .int .i64 m := by simpa using e2
    subst e0' e1' e2'
    exact ⟨(k, r, m), rfl⟩
theorem open_opds {v : Value} {x : DataW H × List MemPlace} (h : DataW.trod enc Tryz.prog w 0 spare true fuel 22 [v] = some x) :
    ∃ A len cap L, v = .slice A len cap ∧ len = L.length ∧ len ≤ maxLen ∧ OpsP w A L := by
  rcases Deep.open_slice Tryz.underlying22 h with ⟨hcs, _⟩ | ⟨a, len, cap, m, n, D, Pl, hcs, _, hl, hm, hmm, _, hx⟩
  · simp only [List.cons.injEq, and_true] at hcs
    exact ⟨none, 0, 0, [], hcs, rfl, Nat.zero_le _, .inl rfl⟩
  · simp only [List.cons.injEq, and_true] at hcs
    have hlm : len ≤ m := by rw [hmm]; split <;> omega
    have c3 : Tryz.prog.cellsOf 56 = 3 := by kernel_rfl
    have hall : ∀ i, i < len → ∃ t : Tr, w.cells? 0 (a.add (i * 3)) 3 = some [.int .i64 t.1, .int .i64 t.2.1, .int .i64 t.2.2] := fun i hi => by
      obtain ⟨cs, h1, h2⟩ := hx i (by omega)
      rw [c3] at h1
      obtain ⟨t, e⟩ := open_opdC h2
      rw [e] at h1
      exact ⟨t, h1⟩
    obtain ⟨f, hf⟩ := Deep.choose_lt hall
    refine ⟨some a, len, cap, (List.range len).map f, hcs, by simp, by omega, ?_⟩
    by_cases h0 : len = 0
    · left; subst h0; simp
    · have q := (World.cells?_some (hf 0 (by omega))).2.2 0 (by omega)
      rw [Nat.zero_mul, show (a.add 0).add 0 = a.add 0 by simp [Addr.add]] at q
      obtain ⟨b, off, rfl⟩ := plain_cell q
      refine .inr ⟨b, off, rfl, fun j hj => ?_⟩
      have hj' : j < len := by simpa using hj
      have e0 := (World.cells?_some (hf j hj')).2.2 0 (by omega)
      have e1 := (World.cells?_some (hf j hj')).2.2 1 (by omega)
      have e2 := (World.cells?_some (hf j hj')).2.2 2 (by omega)
      rw [add_twice] at e0 e1 e2
      simp only [List.getElem_map, List.getElem_range]
      exact ⟨e0, e1, e2⟩
theorem open_ins {b0 : Nat} {v : Value} {d : DataW H} {p : List MemPlace} (hv : Value.okWide Tryz.prog w .any b0 24 v) (h : DataW.Trod enc Tryz.prog w 0 spare true 24 v d p) :
    ∃ (s : ByteArray) (A : Option Addr) (cap : Nat) (L : List Tr), v = .agg #[.string s, .slice A L.length cap] ∧ s.size ≤ maxLen ∧ L.length ≤ maxLen ∧ OpsP w A L := by
  obtain ⟨c0, c1, y0, y1, n, rfl, -, -, h0, h1⟩ := Joins.open_agg2 Tryz.underlying24 (by kernel_rfl) (by kernel_rfl) hv h
  obtain ⟨s, e0, _, hs⟩ := DataW.trod_string Tryz.underlying9 h0
  have e0' : c0 = .string s := by simpa using e0
  obtain ⟨A, len, cap, L, e2, e3, e4, hL⟩ := open_opds h1
  subst e0' e2 e3
  exact ⟨s, A, cap, L, rfl, hs, e4, hL⟩
end
end Go.Proofs.YtclhaejdjogfbaaGreatDoor
namespace Go.Proofs.YtclhaejdjogfbaaGreatDoor
open Go.RowKit Go.ChangeShapes Go.WideShapes Go.Deep
structure Ie where
  s : ByteArray
  A : Option Addr
  cap : Nat
  L : List Tr
instance : Inhabited Ie := ⟨⟨⟨#[]⟩, none, 0, []⟩⟩
def Ie.v (r : Ie) : Value := .slice r.A r.L.length r.cap
section
variable {H : Type} {enc : TypeId × Value → H} {w : World} {spare : Nat → Bool} {fuel : Nat}
end
theorem OwnT.kept {w w' : World} {n g : Nat} {v : Value} {L : List Tr} {row : Option Nat} (h : OwnT w n v L) (k : w.grownBy w' row) (hr : ∀ q, row = some q → ∀ cur fz, w.heap[q]? ≠ some (.cells cur 56 fz)) : OwnT w' n v L :=
  World.ownsRow.kept h k (by
    cases e : v.ownBlock with
    | none => exact .inl rfl
    | some q =>
      refine .inr fun e' => ?_
      rcases h.2 with ⟨rfl, _⟩ | ⟨g', cap, cur, rfl, _, hg, _⟩
      · simp [Value.ownBlock] at e
      · simp only [Value.ownBlock, Option.some.injEq] at e
        subst e
        exact hr _ e'.symm _ _ hg)
end Go.Proofs.YtclhaejdjogfbaaGreatDoor
namespace Go.Proofs.YtclhaejdjogfbaaGreatDoor
open Go.RowKit Go.Shelf
attribute [local go_sem] Oper.semAt_some
def sT (s : ByteArray) : Str := s.data.toList
theorem sB_sT (s : ByteArray) : sB (sT s) = s := by
  obtain ⟨d⟩ := s
  show (⟨d.toList.toArray⟩ : ByteArray) = ⟨d⟩
  rw [Array.toArray_toList]
theorem sT_len (s : ByteArray) : (sT s).length = s.size := by unfold sT; rw [Array.length_toList]; rfl
theorem codeF_ne (op : Str) (I C : List Tr) : codeF op I C ≠ 0 := by
  unfold codeF
  split
  · assumption
  · split <;> decide
theorem sfind2_any (s : ByteArray) (hs : s.size ≤ 1000) (Ai : Option Addr) (capi li : Nat) (I : List Tr) (hli : I.length = li) (hLi : li ≤ 900) (w : World) (hM : MaxAt w) (HF : OpsP w Ai I) :
    Calls Tryz.prog 18 #[.agg #[.string s, .slice Ai li capi]] w (RetSrch w (sT s) I (findK (sT s) (canL (opc s) I))) := by
  have h := sfind_any (sT s) (by rw [sT_len]; exact hs) Ai capi li I hli hLi w hM HF
  rw [sB_sT] at h
  exact h
end Go.Proofs.YtclhaejdjogfbaaGreatDoor
namespace Go.Proofs.YtclhaejdjogfbaaGreatDoor
open Go.RowKit
theorem code_split {s : ByteArray} {L : List Tr} (h : codeI s L = 0) : knB s = true ∧ L.length ≤ 3 ∧ ∀ t ∈ L, vT t = true := by
  unfold codeI at h
  split at h
  · cases h
  · rename_i h1
    split at h
    · cases h
    · rename_i h2
      split at h
      · rename_i h3
        exact ⟨by simpa using h1, by omega, fun t ht => List.all_eq_true.1 h3 t ht⟩
      · cases h
end Go.Proofs.YtclhaejdjogfbaaGreatDoor
namespace Go.Proofs.YtclhaejdjogfbaaGreatDoor
open Go.RowKit Go.Shelf
theorem vT_of {a b : Tr} (hk : ks2 a = ks2 b) (ha : vT a = true) (hn : loK b.1.toNat ≤ b.2.2 ∧ b.2.2 ≤ hiK b.1.toNat) : vT b = true := by
  obtain ⟨k, r, n⟩ := a
  obtain ⟨k2, r2, n2⟩ := b
  unfold ks2 at hk
  simp only [Prod.mk.injEq] at hk
  obtain ⟨rfl, rfl⟩ := hk
  unfold vT vldB at ha ⊢
  simp only [Bool.and_eq_true, decide_eq_true_eq] at ha ⊢ hn
  exact ⟨ha.1, hn⟩
theorem vT_rng {a : Tr} (h : vT a = true) : loK a.1.toNat ≤ a.2.2 ∧ a.2.2 ≤ hiK a.1.toNat := by
  obtain ⟨k, r, n⟩ := a
  unfold vT vldB at h
  simp only [Bool.and_eq_true, decide_eq_true_eq] at h
  exact h.2
theorem with_rng {c : UInt8} {n : Int} (h : withR c n = true) : (rangeR c).1 ≤ n ∧ n ≤ (rangeR c).2 := by
  unfold withR at h
  unfold rangeR
  by_cases h1 : c = 100 ∨ c = 101
  · rw [if_pos h1] at h ⊢
    simp only [Bool.and_eq_true, decide_eq_true_eq] at h
    exact h
  · rw [if_neg h1] at h ⊢
    by_cases h2 : c = 110
    · rw [if_pos h2] at h ⊢
      simp only [Bool.and_eq_true, decide_eq_true_eq] at h
      exact h
    · rw [if_neg h2] at h ⊢
      simp only [Bool.and_eq_true, decide_eq_true_eq] at h
      exact h
theorem shape_get {A B : List Tr} (h : A.map ks2 = B.map ks2) {k : Nat} (hk : k < B.length) : ks2 (A.getD k tr0) = ks2 (B.getD k tr0) := by
  have hl : A.length = B.length := by have := congrArg List.length h; simpa using this
  have h1 : (A.map ks2)[k]? = (B.map ks2)[k]? := by rw [h]
  rw [List.getElem?_map, List.getElem?_map, List.getElem?_eq_getElem hk, List.getElem?_eq_getElem (by omega)] at h1
  rw [List.getD_eq_getElem?_getD, List.getD_eq_getElem?_getD, List.getElem?_eq_getElem hk, List.getElem?_eq_getElem (by omega)]
  exact Option.some.inj h1
theorem fits_valid {k : Ke} (ok : OkS k) {s : ByteArray} {C : List Tr} (h : fitsR k.2.2.1 k.2.2.2.1 k.2.2.2.2.1 s C = true) : ∀ t ∈ C, vT t = true := by
  intro t ht
  unfold fitsR shpR at h
  simp only [Bool.and_eq_true, decide_eq_true_eq, List.all_eq_true, List.mem_range] at h
  obtain ⟨⟨-, hsh⟩, hall⟩ := h
  obtain ⟨j, hj, rfl⟩ := List.getElem_of_mem ht
  have hl : k.2.2.2.1.length = C.length := by have := congrArg List.length hsh; simpa using this
  have hg := shape_get hsh hj
  have hC : C.getD j tr0 = C[j] := by rw [List.getD_eq_getElem?_getD, List.getElem?_eq_getElem hj]; rfl
  have hL : k.2.2.2.1.getD j tr0 = k.2.2.2.1[j]'(by omega) := by rw [List.getD_eq_getElem?_getD, List.getElem?_eq_getElem (by omega)]; rfl
  have hv := (code_split ok.code).2.2 _ (List.getElem_mem (l := k.2.2.2.1) (n := j) (by omega))
  have hf := hall j hj
  have hr := ok.rng
  unfold rngB at hr
  have hr := List.all_eq_true.1 hr j (List.mem_range.2 (by omega))
  rw [hC, hL] at hg
  rw [hL] at hr
  have hkd : (k.2.2.2.1[j]'(by omega)).1 = C[j].1 := congrArg (fun q : Int × Int => q.1) hg
  unfold fitT at hf
  rw [hC, hL] at hf
  refine vT_of hg hv ?_
  have hvr := vT_rng hv
  rw [hkd] at hvr hr
  by_cases hz : letR k.2.2.2.2.1 k.2.2.2.1 j = 0
  · rw [if_pos hz, decide_eq_true_eq] at hf
    rw [hf] at hvr
    exact hvr
  · rw [if_neg hz] at hf
    have hw := with_rng hf
    simp only [Bool.or_eq_true, beq_iff_eq, Bool.and_eq_true, decide_eq_true_eq] at hr
    rcases hr with hr | hr
    · exact absurd hr hz
    · omega
theorem fst_shape {A B : List Tr} (h : A.map ks2 = B.map ks2) : A.any fstB = B.any fstB := by
  have e : ∀ L : List Tr, L.any fstB = (L.map ks2).any fun q => fstB (q.1, q.2, 0) := fun L => by rw [List.any_map]; rfl
  rw [e, e, h]
theorem ix_shape {A B : List Tr} (h : A.map ks2 = B.map ks2) : ixL2 A = ixL2 B := by
  have e : ∀ L : List Tr, ixL2 L = (L.map ks2).foldl (fun a q => max a (ixT (q.1, q.2, 0))) 0 := fun L => by rw [List.foldl_map]; rfl
  rw [e, e, h]
theorem ix_valid : ∀ (L : List Tr) (a : Int), (∀ t ∈ L, vT t = true) → L.foldl (fun a t => max a (idxI t.1 t.2.1 t.2.2)) a = L.foldl (fun a t => max a (ixT t)) a
  | [], _, _ => rfl
  | t :: L, a, h => by
    rw [List.foldl_cons, List.foldl_cons, ixT_idx (h t (List.mem_cons_self ..))]
    exact ix_valid L _ fun u hu => h u (List.mem_cons_of_mem _ hu)
theorem ixC_eq {C : List Tr} (h : ∀ t ∈ C, vT t = true) : ixC C = ixL2 C := by
  unfold ixC ixF ixL2
  rw [List.take_length]
  exact ix_valid C 0 h
theorem sT_sB (m : Str) : sT (sB m) = m := by unfold sT sB; simp
end Go.Proofs.YtclhaejdjogfbaaGreatDoor
namespace Go.Proofs.YtclhaejdjogfbaaGreatDoor
open Go.RowKit Go.Shelf
attribute [local go_sem] Oper.semAt_some
end Go.Proofs.YtclhaejdjogfbaaGreatDoor
namespace Go.Proofs.YtclhaejdjogfbaaGreatDoor
open Go.RowKit Go.Shelf
def ltK (a b : Ke) : Prop := a.1 < b.1 ∨ (a.1 = b.1 ∧ a.2.1 < b.2.1)
theorem ltK.irrefl {a : Ke} (h : ltK a a) : False := by rcases h with h | ⟨-, h⟩ <;> omega
theorem ltK.asymm {a b : Ke} (h : ltK a b) (k : ltK b a) : False := by
  rcases h with h | ⟨h1, h2⟩ <;> rcases k with k | ⟨k1, k2⟩ <;> omega
theorem ents_lt {page : Int} : ∀ K : Nat, ∀ y ∈ entsR page K, y.2.1 < (K : Int)
  | 0, y, hy => by cases hy
  | K + 1, y, hy => by
    have ih := ents_lt (page := page) K
    unfold entsR at hy
    cases hx : ratT page K with
    | none => rw [hx] at hy; have := ih y hy; omega
    | some x =>
      rw [hx] at hy
      rcases List.mem_append.1 hy with h | h
      · have := ih y h; omega
      · obtain rfl := List.mem_singleton.1 h
        simp only
        omega
theorem ents_sorted (page : Int) : ∀ K : Nat, K ≤ 256 → (entsR page K).Pairwise ltK
  | 0, _ => List.Pairwise.nil
  | K + 1, hK => by
    have ih := ents_sorted page K (by omega)
    unfold entsR
    cases hx : ratT page K with
    | none => exact ih
    | some x =>
      refine List.pairwise_append.2 ⟨ih, List.pairwise_singleton _ _, fun a ha b hb => ?_⟩
      obtain rfl := List.mem_singleton.1 hb
      exact .inr ⟨(ents_in page K (by omega) a ha).1, ents_lt K a ha⟩
theorem pages_sorted {l : List Int} (hl : l.Pairwise (· < ·)) (p : Ke → Bool) : (l.flatMap fun g => (entsR g 256).filter p).Pairwise ltK := by
  refine List.pairwise_flatMap.2 ⟨fun a _ => (ents_sorted a 256 (Nat.le_refl _)).filter _, hl.imp fun {a b} hab x hx y hy => ?_⟩
  have h1 := (ents_in a 256 (Nat.le_refl _) x (List.mem_filter.1 hx).1).1
  have h2 := (ents_in b 256 (Nat.le_refl _) y (List.mem_filter.1 hy).1).1
  exact .inl (by omega)
theorem pagesC_sorted (C : List Tr) : (pagesC C).Pairwise (· < ·) := by
  unfold pagesC
  split
  · decide
  · split <;> decide
theorem candK_sorted (op : Str) (C : List Tr) : (candK op C).Pairwise ltK := by
  have e : candK op C = ((pagesC C).flatMap fun p => (entsR p 256).filter fun e => decide (e.2.2.1 = op)).filter (shpE C) := by
    unfold candK candP keysAll
    rw [show (keysPg fun m => decide (m = op)) = fun p => (entsR p 256).filter fun e => decide (e.2.2.1 = op) from funext fun p => keysPg_named op p]
  rw [e]
  exact (pages_sorted (pagesC_sorted C) _).filter _
theorem sorted_ext : ∀ {l1 l2 : List Ke}, l1.Pairwise ltK → l2.Pairwise ltK → (∀ x, x ∈ l1 ↔ x ∈ l2) → l1 = l2
  | [], [], _, _, _ => rfl
  | [], b :: l2, _, _, h => by have := (h b).2 (List.mem_cons_self ..); cases this
  | a :: l1, [], _, _, h => by have := (h a).1 (List.mem_cons_self ..); cases this
  | a :: l1, b :: l2, h1, h2, h => by
    obtain ⟨a1, a2⟩ := List.pairwise_cons.1 h1
    obtain ⟨b1, b2⟩ := List.pairwise_cons.1 h2
    have hab : a = b := by
      rcases List.mem_cons.1 ((h a).1 (List.mem_cons_self ..)) with e | e
      · exact e
      · rcases List.mem_cons.1 ((h b).2 (List.mem_cons_self ..)) with e2 | e2
        · exact e2.symm
        · exact absurd (a1 b e2) fun q => q.asymm (b1 a e)
    subst hab
    rw [sorted_ext a2 b2 fun x => ⟨fun hx => by
        rcases List.mem_cons.1 ((h x).1 (List.mem_cons_of_mem _ hx)) with e | e
        · subst e; exact absurd (a1 _ hx) ltK.irrefl
        · exact e, fun hx => by
        rcases List.mem_cons.1 ((h x).2 (List.mem_cons_of_mem _ hx)) with e | e
        · subst e; exact absurd (b1 _ hx) ltK.irrefl
        · exact e⟩]
theorem cand_pg {op : Str} {C : List Tr} {k : Ke} (h : k ∈ candK op C) : fstI C ≤ k.1 ∧ k.1 ≤ lstI C := by
  obtain ⟨hin, -, hsh, -⟩ := cand_in h
  have ok := hin.ok
  have hfst := ok.fst
  rw [fst_shape hsh] at hfst
  have hlo := ok.lo
  have hhi := ok.hi
  constructor
  · unfold fstI
    rw [hfst]
    by_cases h : 3 ≤ k.1
    · simp [h]
    · simp [h]; omega
  · unfold lstI
    rw [hfst]
    by_cases h : 3 ≤ k.1
    · simp [h]; omega
    · simp [h]; omega
theorem shp_cand {s : ByteArray} {C : List Tr} (hv : ∀ t ∈ C, vT t = true) {page : Int} {n : Nat} (hn : n < 256) {x : En} (hr : ratT page n = some x) (h : shpR x.1 x.2.1 s C = true) : (page, (n : Int), x.1, x.2.1, x.2.2.1, x.2.2.2) ∈ candK (sT s) C := by
  have hin : InTab (page, (n : Int), x.1, x.2.1, x.2.2.1, x.2.2.2) := ⟨n, hn, rfl, hr⟩
  have ok := hin.ok
  unfold shpR at h
  simp only [Bool.and_eq_true, decide_eq_true_eq] at h
  obtain ⟨hm, hsh⟩ := h
  have hix := ok.ix
  rw [ix_shape hsh, ← ixC_eq hv] at hix
  have hlo := ok.lo
  have hhi := ok.hi
  simp only at hix hlo hhi
  have hpg : page ∈ pagesC C := by
    unfold pagesC
    rw [hix]
    unfold pgIx
    have hp : page = 0 ∨ page = 1 ∨ page = 2 ∨ page = 3 ∨ page = 4 ∨ page = 5 ∨ page = 6 := by omega
    rcases hp with rfl | rfl | rfl | rfl | rfl | rfl | rfl <;> decide
  exact in_cand hin (by rw [← hm, sT_sB]) hsh hpg
theorem fits_shp {m ex : Str} {L : List Tr} {s : ByteArray} {C : List Tr} (h : fitsR m L ex s C = true) : shpR m L s C = true := by
  unfold fitsR at h
  exact (Bool.and_eq_true_iff.1 h).1
theorem hasK_fits {k : Ke} (hk : InTab k) (s : ByteArray) (C : List Tr) : hasK (sT s) C k = fitsR k.2.2.1 k.2.2.2.1 k.2.2.2.2.1 s C := by
  unfold hasK
  rw [has_fits hk.ok.places, sB_sT]
def allK (op : Str) (C : List Tr) : List Ke := (candK op C).filter (hasK op C)
def pgR (C : List Tr) : List Int := if C.any fstB = true then [3, 4, 5, 6] else [0, 1, 2]
def allR (s : ByteArray) (C : List Tr) : List Ke := (pgR C).flatMap fun p => (entsR p 256).filter fun k => fitsR k.2.2.1 k.2.2.2.1 k.2.2.2.2.1 s C
theorem pgR_iff (C : List Tr) (p : Int) : p ∈ pgR C ↔ fstI C ≤ p ∧ p ≤ lstI C := by
  unfold pgR fstI lstI
  by_cases h : C.any fstB = true
  · simp only [h, if_true, List.mem_cons, List.not_mem_nil, or_false]
    omega
  · simp only [h, Bool.false_eq_true, if_false, List.mem_cons, List.not_mem_nil, or_false]
    omega
theorem all_same (s : ByteArray) (C : List Tr) : allK (sT s) C = allR s C := by
  refine sorted_ext ((candK_sorted _ _).filter _) (pages_sorted (by unfold pgR; split <;> decide) _) fun k => ?_
  constructor
  · intro h
    obtain ⟨q1, q2⟩ := List.mem_filter.1 h
    have q3 := (cand_in q1).1
    rw [hasK_fits q3] at q2
    refine List.mem_flatMap.2 ⟨k.1, (pgR_iff C k.1).2 (cand_pg q1), List.mem_filter.2 ⟨in_ents q3 256 ?_, q2⟩⟩
    obtain ⟨n, hn, e, -⟩ := q3
    omega
  · intro h
    obtain ⟨p, hp, h⟩ := List.mem_flatMap.1 h
    obtain ⟨h1, h2⟩ := List.mem_filter.1 h
    have hin := (ents_in p 256 (Nat.le_refl _) k h1).2
    have hv := fits_valid hin.ok h2
    refine List.mem_filter.2 ⟨?_, by rw [hasK_fits hin]; exact h2⟩
    obtain ⟨n, hn, e1, e2⟩ := hin
    have := shp_cand hv hn e2 (fits_shp h2)
    obtain ⟨g, o, m, L, ex, al⟩ := k
    simp only at e1 this
    subst e1
    exact this
end Go.Proofs.YtclhaejdjogfbaaGreatDoor
namespace Go.Proofs.YtclhaejdjogfbaaGreatDoor
open Go.RowKit Go.Shelf
attribute [local go_sem] Oper.semAt_some
def opsF (A : Option Addr) (L : List Tr) : Fr.F := ⟨fun w => OpsP w A L, fun h hb => h.below hb⟩
def encI (s : ByteArray) (I : List Tr) : Option Str := (findK (sT s) (canL (opc s) I)).map fun k => encB k.1 k.2.1 k.2.2.2.2.1 (valV k.2.2.1 k.2.2.2.1 k.2.2.2.2.1 s (canL (opc s) I)).1 (valV k.2.2.1 k.2.2.2.1 k.2.2.2.2.1 s (canL (opc s) I)).2
def codeE (s : ByteArray) (I : List Tr) : Int := if (encI s I).isSome then 0 else codeF (sT s) I (canL (opc s) I)
def RetEnc (w : World) (s : ByteArray) (I : List Tr) (e : Ending) (w' : World) : Prop := ∃ A cap, e = .returned (.tuple #[.slice A ((encI s I).getD []).length cap, .int .i64 (codeE s I)]) ∧ TOwnB w' w.heap.size (.slice A ((encI s I).getD []).length cap) ((encI s I).getD []) ∧ Below w.heap.size w w'
theorem has_fill2 {m ex : Str} {L : List Tr} {s : ByteArray} {C : List Tr} (h : hasV m L ex s C = true) : fillV ex L (valV m L ex s C).1 (valV m L ex s C).2 = some C := by
  have e : valV m L ex s C = (numV (varsV ex).1.1 C, numV (varsV ex).2.1 C) := by unfold valV; rw [if_pos h]
  rw [e]
  unfold hasV at h
  cases hf : fillV ex L (numV (varsV ex).1.1 C) (numV (varsV ex).2.1 C) with
  | none => rw [hf] at h; cases h
  | some L2 =>
    rw [hf] at h
    simp only [Bool.and_eq_true, decide_eq_true_eq] at h
    simp only [hf, h.2]
end Go.Proofs.YtclhaejdjogfbaaGreatDoor
namespace Go.Proofs.YtclhaejdjogfbaaGreatDoor
open Go.RowKit Go.Shelf
end Go.Proofs.YtclhaejdjogfbaaGreatDoor
namespace Go.Proofs.YtclhaejdjogfbaaGreatDoor
end Go.Proofs.YtclhaejdjogfbaaGreatDoor
namespace Go.Proofs.YtclhaejdjogfbaaGreatDoor
open Go.RowKit Go.Shelf
attribute [local go_sem] Oper.semAt_some
end Go.Proofs.YtclhaejdjogfbaaGreatDoor
namespace Go.Proofs.YtclhaejdjogfbaaGreatDoor
open Go.RowKit Go.Shelf
end Go.Proofs.YtclhaejdjogfbaaGreatDoor
namespace Go.Proofs.YtclhaejdjogfbaaGreatDoor
open Go.RowKit Go.Shelf
attribute [local go_sem] Oper.semAt_some
end Go.Proofs.YtclhaejdjogfbaaGreatDoor
namespace Go.Proofs.YtclhaejdjogfbaaGreatDoor
open Go.RowKit Go.Shelf
attribute [local irreducible] Go.Mixed.wpMix
attribute [local go_sem] Oper.semAt_some
def encK (s : ByteArray) (C : List Tr) (k : Ke) : Str := encB k.1 k.2.1 k.2.2.2.2.1 (valV k.2.2.1 k.2.2.2.1 k.2.2.2.2.1 s C).1 (valV k.2.2.1 k.2.2.2.1 k.2.2.2.2.1 s C).2
theorem mem_allR {s : ByteArray} {C : List Tr} {k : Ke} (h : k ∈ allR s C) : InTab k ∧ fitsR k.2.2.1 k.2.2.2.1 k.2.2.2.2.1 s C = true := by
  unfold allR at h
  obtain ⟨p, -, h⟩ := List.mem_flatMap.1 h
  obtain ⟨h1, h2⟩ := List.mem_filter.1 h
  exact ⟨(ents_in p 256 (Nat.le_refl _) k h1).2, h2⟩
end Go.Proofs.YtclhaejdjogfbaaGreatDoor
namespace Go.Proofs.YtclhaejdjogfbaaGreatDoor
open Go.RowKit
theorem dec_encI {s : ByteArray} {I : List Tr} {a : Str} (h : encI s I = some a) (r : Str) : itR (a ++ r) = ⟨1, a, sT s, canL (opc s) I, false⟩ := by
  unfold encI at h
  cases hf : findK (sT s) (canL (opc s) I) with
  | none => rw [hf] at h; cases h
  | some k =>
    rw [hf] at h
    simp only [Option.map_some, Option.some.injEq] at h
    have h3 := List.mem_filter.1 (List.mem_of_find?_eq_some hf)
    have hc := cand_in h3.1
    have hal : k.2.2.2.2.2 = false := by
      have := h3.2
      unfold notAl at this
      simpa using this
    have hh := List.find?_some hf
    unfold hasK at hh
    rw [sB_sT] at hh
    have hd := dec_enc hc.1 (has_fill2 hh) r
    rw [h, hal, hc.2.1] at hd
    exact hd
end Go.Proofs.YtclhaejdjogfbaaGreatDoor
namespace Go.Proofs.YtclhaejdjogfbaaGreatDoor
open Go.RowKit
def BytesB (w : World) (A : Option Addr) (xs : List UInt8) : Prop :=
  xs = [] ∨ ∃ b off, A = some ⟨b, off, none⟩ ∧ ∀ j (h : j < xs.length), w.cell? ⟨b, off + j, none⟩ = some (.int .u8 (xs[j].toNat : Int))
theorem BytesB.at_ {w : World} {A : Option Addr} {xs : List UInt8} (h : BytesB w A xs) {k : Nat} (hk : k < xs.length) : ∃ b off, A = some ⟨b, off, none⟩ ∧ w.cell? ⟨b, off + k, none⟩ = some (.int .u8 (xs[k].toNat : Int)) := by
  rcases h with rfl | ⟨b, off, rfl, hc⟩
  · simp at hk
  · exact ⟨b, off, rfl, hc k hk⟩
theorem BytesB.below {w w' : World} {A : Option Addr} {xs : List UInt8} (h : BytesB w A xs) (hb : Below w.heap.size w w') : BytesB w' A xs := by
  rcases h with rfl | ⟨b, off, rfl, hc⟩
  · exact .inl rfl
  · exact .inr ⟨b, off, rfl, fun j hj => (hb.cell (p := ⟨b, off + j, none⟩) (World.block_lt_of_cell? w _ (hc j hj))).trans (hc j hj)⟩
theorem BytesB.drewN {w : World} {A : Option Addr} {xs : List UInt8} (h : BytesB w A xs) (n : Nat) : BytesB (w.drewN n) A xs := by
  rcases h with rfl | ⟨b, off, rfl, hc⟩
  · exact .inl rfl
  · exact .inr ⟨b, off, rfl, fun j hj => by simpa using hc j hj⟩
end Go.Proofs.YtclhaejdjogfbaaGreatDoor
namespace Go.Proofs.YtclhaejdjogfbaaGreatDoor
open Go.RowKit
theorem IntsAt.below {w w' : World} {A : Option Addr} {xs : List Int} (h : IntsAt w A xs) (hb : Below w.heap.size w w') : IntsAt w' A xs := by
  rcases h with rfl | ⟨b, off, rfl, hc⟩
  · exact .inl rfl
  · exact .inr ⟨b, off, rfl, fun j hj => (hb.cell (p := ⟨b, off + j, none⟩) (World.block_lt_of_cell? w _ (hc j hj))).trans (hc j hj)⟩
def RetBytes (w : World) (xs : List UInt8) (e : Ending) (w' : World) : Prop := ∃ A cap, e = .returned (.slice A xs.length cap) ∧ BytesB w' A xs ∧ Below w.heap.size w w'
def NewA (w : World) (A : Option Addr) : Prop := ∀ a, A = some a → w.heap.size ≤ a.block
def RetBytesN (w : World) (xs : List UInt8) (e : Ending) (w' : World) : Prop := ∃ A cap, e = .returned (.slice A xs.length cap) ∧ BytesB w' A xs ∧ xs.length ≤ cap ∧ NewA w A ∧ Below w.heap.size w w'
theorem RetBytesN.ret {w : World} {xs : List UInt8} {e : Ending} {w' : World} (h : RetBytesN w xs e w') : RetBytes w xs e w' := by
  obtain ⟨A, cap, h1, h2, _, _, h3⟩ := h
  exact ⟨A, cap, h1, h2, h3⟩
def lowU (n : Int) : UInt8 := (n % 256).toNat.toUInt8
theorem lowU_nat (n : Int) : ((lowU n).toNat : Int) = n % 256 := by
  unfold lowU
  rw [UInt8.toNat_ofNat_of_lt' (show (n % 256).toNat < 256 by omega)]
  omega
def LowRel (w : World) (zs : List Int) (k : Nat) (wr : World) : Prop :=
  (∀ j (h : j < zs.length), wr.cell? ⟨w.heap.size, j, none⟩ = some (.int .u8 (if j < k then zs[j] % 256 else 0))) ∧ (∀ j, j < zs.length → wr.frozen? ⟨w.heap.size, j, none⟩ = false) ∧ Below w.heap.size w wr
theorem lowRel_start (w : World) (zs : List Int) (e : TypeId) : LowRel w zs 0 (w.alloc (.cells (madeCells #[.int .u8 0] zs.length) e)) := by
  refine ⟨fun j h => ?_, fun j h => ?_, (Below.refl _ _).alloc (Nat.le_refl _) _⟩
  · rw [if_neg (by omega)]
    simp [go_sem, madeCells, h, Nat.mod_one]
  · simp [go_sem]
theorem lowRel_next (w wr : World) (zs : List Int) (k : Nat) (hk : k < zs.length) (hr : LowRel w zs k wr) : LowRel w zs (k + 1) (wr.setCell ⟨w.heap.size, k, none⟩ (.int .u8 (zs[k] % 256))) := by
  obtain ⟨r1, r2, r3⟩ := hr
  refine ⟨fun j hj => ?_, fun j hj => ?_, r3.setCell (by simp) _⟩
  · by_cases e : j = k
    · subst e
      have := r1 _ hj
      rw [if_pos (by omega)]
      simp [go_sem, this]
    · rw [World.cell?_setCell_other _ _ _ _ (by simp), r1 j hj]
      by_cases h1 : j < k
      · rw [if_pos h1, if_pos (by omega)]
      · rw [if_neg h1, if_neg (by omega)]
  · simp [go_sem, r2 j hj]
theorem lowRel_end (w wr : World) (zs : List Int) (hr : LowRel w zs zs.length wr) : RetBytesN w (zs.map lowU) (.returned (.slice (some ⟨w.heap.size, 0, none⟩) zs.length zs.length)) wr := by
  refine ⟨some ⟨w.heap.size, 0, none⟩, zs.length, by rw [List.length_map], .inr ⟨_, 0, rfl, fun j hj => ?_⟩, by rw [List.length_map]; exact Nat.le_refl _, fun a h => (by cases h; exact Nat.le_refl _), hr.2.2⟩
  have hj' : j < zs.length := by simpa using hj
  rw [Nat.zero_add, hr.1 j hj', if_pos hj']
  simp [lowU_nat]
theorem lowN_any (A : Option Addr) (cap : Nat) (zs : List Int) (hl : zs.length ≤ 281474976710656) (w : World) (hz : IntsAt w A zs) :
    Calls Tryz.prog 165 #[.slice A zs.length cap] w (RetBytesN w (zs.map lowU)) := by
  have Z := Lib.hid hz
  clear hz
  have hmk := fun w => run_make_row' (P := Tryz.prog) 25 5 (.int .u8 0) 1 Tryz.underlying25 info_u8 rfl .i64 .i64 zs.length (by omega) (by omega) w
  have S := Lib.hid (lowRel_start w zs 5)
  go_enter Tryz.func165, Tryz.ntmps165
  go_wp2
  clear hmk
  go_loopw [11] (fun i wr => ∃ k : Nat, k ≤ zs.length ∧ i = .int .i64 k ∧ LowRel w zs k wr) (fun i _ => zs.length - (intOf i).toNat)
  case atStart => exact ⟨0, Nat.zero_le _, rfl, S.out⟩
  case round =>
    obtain ⟨k, hk, rfl, hr⟩ := hrel
    have R := Lib.hid hr
    clear hr
    by_cases hlt : k < zs.length
    · obtain ⟨b, off, hA, g0⟩ := (Z.out.below R.out.2.2).at_ hlt
      subst hA
      have g1 := R.out.1 k hlt
      rw [if_neg (by omega)] at g1
      have g2 := R.out.2.1 k hlt
      have N := Lib.hid (lowRel_next w wr zs k hlt R.out)
      have hw := IntKind.wrap_u8 zs[k]
      go_wp2
      go_roundw
      case rel => exact ⟨k + 1, by omega, by go_num, N.out⟩
      case measure => simp [intOf]; omega
    · obtain rfl : k = zs.length := by omega
      have N := Lib.hid (lowRel_end w wr zs R.out)
      go_wp2
      go_ret
      exact N.out
theorem low_any (A : Option Addr) (cap : Nat) (zs : List Int) (hl : zs.length ≤ 281474976710656) (w : World) (hz : IntsAt w A zs) :
    Calls Tryz.prog 165 #[.slice A zs.length cap] w (RetBytes w (zs.map lowU)) := (lowN_any A cap zs hl w hz).mono fun _ _ h => h.ret
end Go.Proofs.YtclhaejdjogfbaaGreatDoor
namespace Go.Proofs.YtclhaejdjogfbaaGreatDoor
open Go.RowKit Go.Shelf
attribute [local go_sem] Oper.semAt_some
attribute [local irreducible] Go.Mixed.wpMix
structure Wri where
  page : Int
  op : Int
  m : Str
  v : Value
  ex : Str
  al : Bool
  d : Int
  n : Int
def Wri.cells (h : Wri) (u : Value) : Array Value := #[.int .i64 h.page, .int .u8 h.op, .string (sB h.m), h.v, .string (sB h.ex), .bool h.al, .int .i64 h.d, .int .i64 h.n, u]
def WrAt (w : World) (B b : Nat) (h : Wri) (xs : Str) : Prop := ∃ A c, w.heap[b]? = some (.cells (h.cells (.slice A xs.length c)) 125 (0, 0)) ∧ TOwnB w B (.slice A xs.length c) xs
structure WKp (b : Nat) (w w' : World) : Prop where
  size : w.heap.size ≤ w'.heap.size
  same : ∀ k, k < w.heap.size → k ≠ b → (∀ cur, w.heap[k]? ≠ some (.cells cur 5 (0, 0))) → w'.heap[k]? = w.heap[k]?
theorem WKp.refl (b : Nat) (w : World) : WKp b w w := ⟨Nat.le_refl _, fun _ _ _ _ => rfl⟩
theorem WKp.of_below {b : Nat} {w w' : World} (h : Below w.heap.size w w') : WKp b w w' := ⟨h.size, fun k hk _ _ => h.block k hk⟩
theorem WKp.trans {b : Nat} {w w' w'' : World} (h : WKp b w w') (h' : WKp b w' w'') : WKp b w w'' :=
  ⟨Nat.le_trans h.size h'.size, fun k hk hb ht => (h'.same k (Nat.lt_of_lt_of_le hk h.size) hb (fun cur e => ht cur (by rw [← h.same k hk hb ht]; exact e))).trans (h.same k hk hb ht)⟩
theorem WKp.set {b : Nat} {w w' : World} (h : WKp b w w') (j : Nat) (u : Value) : WKp b w (w'.setCell ⟨b, j, none⟩ u) :=
  ⟨by simpa using h.size, fun k hk hb ht => (heap_setCell_other w' ⟨b, j, none⟩ k u hb).trans (h.same k hk hb ht)⟩
theorem upA (w : World) (o : Obj) : Below w.heap.size w (w.alloc o) := (Below.refl _ _).alloc (Nat.le_refl _) _
theorem own_u8 {w : World} {n : Nat} {u : Value} {xs : Str} (h : TOwnB w n u xs) {g : Nat} (e : u.ownBlock = some g) : ∃ cur, w.heap[g]? = some (.cells cur 5 (0, 0)) := by
  rcases h.2 with ⟨rfl, _⟩ | ⟨g', cap, cur, rfl, _, h2, _⟩
  · cases e
  · cases e
    exact ⟨cur, h2⟩
theorem WKp.grown {b B : Nat} {w w' : World} {v : Value} {xs : Str} (h : TOwnB w B v xs) (g : w.grownBy w' v.ownBlock) : WKp b w w' :=
  ⟨g.size, fun k hk _ ht => g.block k hk (fun e => by obtain ⟨cur, hc⟩ := own_u8 h e.symm; exact ht cur hc)⟩
section
variable {w w' : World} {B b : Nat} {h : Wri} {xs : Str}
theorem WrAt.lt (H : WrAt w B b h xs) : b < w.heap.size := by obtain ⟨A, c, k, -⟩ := H; exact (Array.getElem?_eq_some_iff.1 k).1
theorem WrAt.below (H : WrAt w B b h xs) (hb : Below w.heap.size w w') : WrAt w' B b h xs := by
  have hl := H.lt
  obtain ⟨A, c, k, o⟩ := H
  exact ⟨A, c, (hb.block b hl).trans k, o.below hb⟩
end
theorem wr_cells {w : World} {b : Nat} {h : Wri} {u : Value} (k : w.heap[b]? = some (.cells (h.cells u) 125 (0, 0))) :
    w.cell? ⟨b, 0, none⟩ = some (.int .i64 h.page) ∧ w.cell? ⟨b, 1, none⟩ = some (.int .u8 h.op) ∧ w.cell? ⟨b, 4, none⟩ = some (.string (sB h.ex)) ∧ w.cell? ⟨b, 6, none⟩ = some (.int .i64 h.d) ∧ w.cell? ⟨b, 7, none⟩ = some (.int .i64 h.n) ∧ w.cell? ⟨b, 8, none⟩ = some u ∧ w.frozen? ⟨b, 8, none⟩ = false :=
  ⟨Lib.cell_of_heap k 0, Lib.cell_of_heap k 1, Lib.cell_of_heap k 4, Lib.cell_of_heap k 6, Lib.cell_of_heap k 7, Lib.cell_of_heap k 8, Lib.frozen_of_heap k 8⟩
theorem wpList_appBsG {wr : World} {B : Nat} {v : Value} {xs : Str} (h : TOwnB wr B v xs) {A : Option Addr} {c : Nat} {ys : Str} (hP : BytesAt wr A ys) (hB : B ≤ wr.heap.size) (hs : xs.length + ys.length ≤ 100000) {ops : Array Oper} {rest : List Oper} {o : Oper} {a : Act} {Q : Exit → Act → World → Prop} (hgd : o.guard = none) (s x : Operand)
    (ho : o.op = .call { callee := .builtin .append, args := #[s, x], argTypes := #[25, 25] }) (hty : o.type = 25) (hsv : a.eval s = v) (m : Nat) (hm : ys.length = m) (hx : a.eval x = .slice A m c) (n : Nat) (hn : xs.length + m = n)
    (k : ∀ A' cap' w1, TOwnB w1 B (.slice A' n cap') (xs ++ ys) → Below B wr w1 → wr.grownBy w1 v.ownBlock → wpList Tryz.prog ops Q rest (a.put o.dst (.slice A' n cap')) w1) : wpList Tryz.prog ops Q (o :: rest) a wr := by
  subst hm hn
  obtain ⟨v', w', k1, k2, k3, k4⟩ := run_appBs wr B v xs h A c ys hP hB hs
  obtain ⟨A', cap', rfl, -⟩ := k2.bytes
  rw [List.length_append] at k1 k2
  exact wpList_run_append k1 hgd s x ho hty hsv hx (k A' cap' w' k2 k3 k4)
theorem map_low (zs : List Int) : zs.map lowU = zs.map byteI := rfl
theorem wr_store {w : World} {B b : Nat} {h : Wri} {u : Value} {A : Option Addr} {c : Nat} {xs : Str} (k : w.heap[b]? = some (.cells (h.cells u) 125 (0, 0))) (o : TOwnB w B (.slice A xs.length c) xs) :
    WrAt (w.setCell ⟨b, 8, none⟩ (.slice A xs.length c)) B b h xs := by
  refine ⟨A, c, heap_setCell_same w b 8 _ _ _ k, row_set_ne o (fun g hg => ?_) _⟩
  obtain ⟨cur, hc⟩ := own_u8 o hg
  rintro rfl
  rw [k] at hc
  simp at hc
def RetPut (w : World) (B b : Nat) (h : Wri) (zs : Str) (e : Ending) (w' : World) : Prop := e = .returned (.tuple #[]) ∧ WrAt w' B b h zs ∧ Below B w w' ∧ WKp b w w'
theorem wput_any (B b : Nat) (h : Wri) (xs : Str) (hx : xs.length ≤ 1000) (Al : Option Addr) (cap l : Nat) (zs : List Int) (hl : zs.length = l) (hz : l ≤ 1000) (w : World) (H : WrAt w B b h xs) (hB : B ≤ b) (hi : IntsAt w Al zs) :
    Calls Tryz.prog 132 #[.pointer (some ⟨b, 0, none⟩), .slice Al l cap] w (RetPut w B b h (xs ++ zs.map byteI)) := by
  have hbw := H.lt
  obtain ⟨A, c, k, o⟩ := H
  have lw := fun w' p => low_any Al cap zs (by omega) w' p
  rw [hl] at lw
  obtain ⟨ys, hys⟩ : ∃ z, zs.map byteI = z := ⟨_, rfl⟩
  have hyl : ys.length = l := by rw [← hys, List.length_map, hl]
  rw [map_low, hys] at lw
  rw [hys]
  obtain ⟨n, hn⟩ : ∃ z, xs.length = z := ⟨_, rfl⟩
  rw [hn] at k o hx
  have HYL := Lib.hid hyl
  have HN := Lib.hid hn
  have K := Lib.hid k
  have O := Lib.hid o
  have HI := Lib.hid hi
  clear hi hl hys hyl hn k o
  unfold RetBytes at lw
  rw [HYL.out] at lw
  have LW := Lib.hid lw
  clear lw
  go_enter Tryz.func132, Tryz.ntmps132
  go_upto_region 0 with fail
  obtain ⟨w1, hw1⟩ : ∃ z, w.drew = z := ⟨_, rfl⟩
  have hd : Below w.heap.size w w1 := by rw [← hw1]; exact below_drewN w _ 1
  have K1 : Hid (w1.heap[b]? = some (.cells (h.cells (.slice A n c)) 125 (0, 0))) := (hd.block b hbw).trans K.out
  have O1 := Lib.hid (O.out.below hd)
  have I1 : Hid (IntsAt w1 Al zs) := by rw [← hw1]; exact HI.out
  have B1 := Lib.hid hd
  clear hd K O HI
  refine Mixed.wp_region_mixed (fun w' => w'.heap[b]? = some (.cells (h.cells (.slice A n c)) 125 (0, 0))) 8 [(0, true), (1, true), (2, true), (3, true), (4, true), (5, true), (6, false), (7, false)] (by kernel_rfl) (by kernel_rfl) (by rw [hw1]; exact K1.out) ?_
  rw [hw1]
  clear hw1
  refine Mixed.wpMix_pure rfl (by kernel_rfl) (.pointer (some ⟨b, 0, none⟩)) (fun w h => by clear h; go_simp; try rfl) ?_
  refine Mixed.wpMix_pure rfl (by kernel_rfl) (.pointer (some ⟨b, 0, none⟩)) (fun w h => by clear h; go_simp; try rfl) ?_
  refine Mixed.wpMix_pure rfl (by kernel_rfl) (.pointer (some ⟨b, 0, none⟩)) (fun w h => by clear h; go_simp; try rfl) ?_
  refine Mixed.wpMix_pure rfl (by kernel_rfl) (.pointer (some ⟨b, 8, none⟩)) (fun w h => by clear h; go_simp; try rfl) ?_
  refine Mixed.wpMix_pure rfl (by kernel_rfl) (.slice A n c) (fun w h => by obtain ⟨h0, h1, h2, h3, h4, h5, h6⟩ := wr_cells h; clear h; go_simp; try rfl) ?_
  refine Mixed.wpMix_pure rfl (by kernel_rfl) (.slice Al l cap) (fun w h => by clear h; go_simp; try rfl) ?_
  refine Mixed.wpMix_loud rfl ?_
  have L1 := LW.out w1 I1.out
  clear LW I1
  go_wp2_with fail
  refine L1.mono ?_
  rintro e w2 ⟨A2, c2, rfl, hP, hb⟩
  have hbw1 : b < w1.heap.size := (Array.getElem?_eq_some_iff.1 K1.out).1
  have K2 : Hid (w2.heap[b]? = some (.cells (h.cells (.slice A n c)) 125 (0, 0))) := (hb.block b hbw1).trans K1.out
  have O2 := Lib.hid (O1.out.below hb)
  have B2 : Hid (Below w.heap.size w w2) := B1.out.trans (hb.mono B1.out.size)
  have P2 : Hid (BytesAt w2 A2 ys) := hP
  clear K1 O1 B1 L1 hP hb hbw1
  go_wp2
  refine ⟨K2.out, ?_⟩
  refine Mixed.wpMix_loud rfl ?_
  have Z2 : Hid (B ≤ w2.heap.size) := by have := B2.out.size; show _ ≤ _; omega
  refine wpList_appBsG (ys := ys) O2.out P2.out Z2.out (by rw [HN.out, HYL.out]; omega) rfl _ _ rfl rfl rfl l HYL.out rfl (n + l) (by rw [HN.out]) ?_
  intro A3 c3 w3 h1 h2 h3
  have K3 : Hid (w3.heap[b]? = some (.cells (h.cells (.slice A n c)) 125 (0, 0))) := (h3.block b (by have := B2.out.size; omega) (fun e => by
    obtain ⟨cur, hc⟩ := own_u8 O2.out e.symm
    rw [K2.out] at hc
    simp at hc)).trans K2.out
  have O3 := Lib.hid h1
  have B3 : Hid (Below B w w3) := (B2.out.mono (by omega)).trans h2
  have W3 : Hid (WKp b w w3) := (WKp.of_below B2.out).trans (WKp.grown O2.out h3)
  clear h1 h2 h3 O2 P2 B2 Z2 K2
  go_wp2
  refine ⟨K3.out, ?_⟩
  simp only [Mixed.wpMix]
  obtain ⟨e0, e1, e2, e3, e4, e5, e6⟩ := wr_cells K3.out
  have F : Hid (RetPut w B b h (xs ++ ys) (.returned (.tuple #[])) (w3.setCell ⟨b, 8, none⟩ (.slice A3 (n + l) c3))) := by
    have hln : (xs ++ ys).length = n + l := by rw [List.length_append, HN.out, HYL.out]
    have o3 := O3.out
    rw [← hln] at o3 ⊢
    exact ⟨rfl, wr_store K3.out o3, B3.out.setCell (by simpa using hB) _, W3.out.set 8 _⟩
  clear e0 e1 e2 e3 e4
  go_wp2
  refine bodyPost_end (v := .tuple #[]) ?_ rfl F.out
  simp [results, Tryz.results132, go_sem]
end Go.Proofs.YtclhaejdjogfbaaGreatDoor
namespace Go.Proofs.YtclhaejdjogfbaaGreatDoor
open Go.RowKit Go.Shelf
attribute [local go_sem] Oper.semAt_some
attribute [local irreducible] Go.Mixed.wpMix
theorem ints_new1 (w : World) (x : Int) : IntsAt (w.alloc (.cells #[.int .i64 x] 3)) (some ⟨w.heap.size, 0, none⟩) [x] := by
  refine .inr ⟨_, _, rfl, fun j hj => ?_⟩
  obtain rfl : j = 0 := by simp at hj; omega
  rw [Lib.cell_of_heap (heap_alloc_new w _)]
  rfl
theorem ints_new2 (w : World) (x y : Int) : IntsAt (w.alloc (.cells #[.int .i64 x, .int .i64 y] 3)) (some ⟨w.heap.size, 0, none⟩) [x, y] := by
  refine .inr ⟨_, _, rfl, fun j hj => ?_⟩
  rw [Lib.cell_of_heap (heap_alloc_new w _)]
  have : j = 0 ∨ j = 1 := by simp at hj; omega
  rcases this with rfl | rfl <;> rfl
theorem RetPut.from {w w1 : World} {B b : Nat} {h : Wri} {zs : Str} {e : Ending} {w' : World} (hb : Below w.heap.size w w1) (hB : B ≤ w.heap.size) (r : RetPut w1 B b h zs e w') : RetPut w B b h zs e w' :=
  ⟨r.1, r.2.1, (hb.mono hB).trans r.2.2.1, (WKp.of_below hb).trans r.2.2.2⟩
theorem wdisp_any (B b : Nat) (h : Wri) (xs : Str) (hx : xs.length ≤ 1000) (w : World) (H : WrAt w B b h xs) (hB : B ≤ b) :
    Calls Tryz.prog 102 #[.pointer (some ⟨b, 0, none⟩)] w (RetPut w B b h (xs ++ [byteI h.d])) := by
  have hbw := H.lt
  have hal := upA w (.cells #[.int .i64 h.d] 3)
  have P := wput_any B b h xs hx (some ⟨w.heap.size, 0, none⟩) 1 1 [h.d] rfl (by omega) _ (H.below hal) hB (ints_new1 w h.d)
  have P := Lib.hid (P.mono fun e w' r => r.from hal (by omega))
  obtain ⟨A, c, k, o⟩ := H
  obtain ⟨e0, e1, e2, e3, e4, e5, e6⟩ := wr_cells k
  clear hal k o e0 e1 e2 e5 e6
  obtain ⟨x, hx⟩ : ∃ x, h.d = x := ⟨_, rfl⟩
  simp only [hx] at e3 e4 P ⊢
  clear hx
  go_enter Tryz.func102, Tryz.ntmps102
  go_wp2_with fail
  refine P.out.mono ?_
  rintro e w1 ⟨rfl, h1⟩
  have R := Lib.hid h1
  clear h1 P
  go_wp2
  refine bodyPost_end (v := .tuple #[]) ?_ rfl ⟨rfl, R.out⟩
  simp [results, Tryz.results102, go_sem]
theorem wbyte_any (B b : Nat) (h : Wri) (xs : Str) (hx : xs.length ≤ 1000) (w : World) (H : WrAt w B b h xs) (hB : B ≤ b) :
    Calls Tryz.prog 134 #[.pointer (some ⟨b, 0, none⟩)] w (RetPut w B b h (xs ++ [byteI h.n])) := by
  have hbw := H.lt
  have hal := upA w (.cells #[.int .i64 h.n] 3)
  have P := wput_any B b h xs hx (some ⟨w.heap.size, 0, none⟩) 1 1 [h.n] rfl (by omega) _ (H.below hal) hB (ints_new1 w h.n)
  have P := Lib.hid (P.mono fun e w' r => r.from hal (by omega))
  obtain ⟨A, c, k, o⟩ := H
  obtain ⟨e0, e1, e2, e3, e4, e5, e6⟩ := wr_cells k
  clear hal k o e0 e1 e2 e5 e6
  obtain ⟨x, hx⟩ : ∃ x, h.n = x := ⟨_, rfl⟩
  simp only [hx] at e3 e4 P ⊢
  clear hx
  go_enter Tryz.func134, Tryz.ntmps134
  go_wp2_with fail
  refine P.out.mono ?_
  rintro e w1 ⟨rfl, h1⟩
  have R := Lib.hid h1
  clear h1 P
  go_wp2
  refine bodyPost_end (v := .tuple #[]) ?_ rfl ⟨rfl, R.out⟩
  simp [results, Tryz.results134, go_sem]
theorem wword_any (B b : Nat) (h : Wri) (xs : Str) (hx : xs.length ≤ 1000) (w : World) (H : WrAt w B b h xs) (hB : B ≤ b) :
    Calls Tryz.prog 135 #[.pointer (some ⟨b, 0, none⟩)] w (RetPut w B b h (xs ++ [byteI h.n, byteI (h.n / 256)])) := by
  have hbw := H.lt
  obtain ⟨w1, hw1⟩ : ∃ z, w.drew = z := ⟨_, rfl⟩
  have hd : Below w.heap.size w w1 := by rw [← hw1]; exact below_drewN w _ 1
  have hal := upA w1 (.cells #[.int .i64 h.n, .int .i64 (h.n / 256)] 3)
  have P := wput_any B b h xs hx (some ⟨w1.heap.size, 0, none⟩) 2 2 [h.n, h.n / 256] rfl (by omega) _ ((H.below hd).below hal) hB (ints_new2 w1 h.n (h.n / 256))
  have P := Lib.hid (P.mono fun e w' r => (r.from hal (by have := hd.size; omega)).from hd (by omega))
  obtain ⟨A, c, k, o⟩ := H
  have K : Hid (w1.heap[b]? = some (.cells (h.cells (.slice A xs.length c)) 125 (0, 0))) := (hd.block b hbw).trans k
  have K2 : Hid ((w1.alloc (.cells #[.int .i64 h.n, .int .i64 (h.n / 256)] 3)).heap[b]? = some (.cells (h.cells (.slice A xs.length c)) 125 (0, 0))) := (hal.block b (by have := hd.size; omega)).trans K.out
  clear hal hd k o
  go_enter Tryz.func135, Tryz.ntmps135
  go_upto_region 0 with fail
  refine Mixed.wp_region_mixed (fun w' => w'.heap[b]? = some (.cells (h.cells (.slice A xs.length c)) 125 (0, 0))) 11 [(0, true), (1, true), (2, true), (3, true), (4, true), (5, true), (6, true), (7, true), (8, true), (9, true), (10, false)] (by kernel_rfl) (by kernel_rfl) (by rw [hw1]; exact K.out) ?_
  rw [hw1]
  clear hw1 K
  refine Mixed.wpMix_pure rfl (by kernel_rfl) (.pointer (some ⟨b, 0, none⟩)) (fun w h => by clear h; go_simp; try rfl) ?_
  refine Mixed.wpMix_pure rfl (by kernel_rfl) (.pointer (some ⟨b, 0, none⟩)) (fun w h => by clear h; go_simp; try rfl) ?_
  refine Mixed.wpMix_pure rfl (by kernel_rfl) (.pointer (some ⟨b, 0, none⟩)) (fun w h => by clear h; go_simp; try rfl) ?_
  refine Mixed.wpMix_pure rfl (by kernel_rfl) (.pointer (some ⟨b, 7, none⟩)) (fun w h => by clear h; go_simp; try rfl) ?_
  refine Mixed.wpMix_pure rfl (by kernel_rfl) (.int .i64 h.n) (fun w h => by obtain ⟨h0, h1, h2, h3, h4, h5, h6⟩ := wr_cells h; clear h; go_simp; try rfl) ?_
  refine Mixed.wpMix_pure rfl (by kernel_rfl) (.pointer (some ⟨b, 0, none⟩)) (fun w h => by clear h; go_simp; try rfl) ?_
  refine Mixed.wpMix_pure rfl (by kernel_rfl) (.pointer (some ⟨b, 0, none⟩)) (fun w h => by clear h; go_simp; try rfl) ?_
  refine Mixed.wpMix_pure rfl (by kernel_rfl) (.pointer (some ⟨b, 7, none⟩)) (fun w h => by clear h; go_simp; try rfl) ?_
  refine Mixed.wpMix_pure rfl (by kernel_rfl) (.int .i64 h.n) (fun w h => by obtain ⟨h0, h1, h2, h3, h4, h5, h6⟩ := wr_cells h; clear h; go_simp; try rfl) ?_
  refine Mixed.wpMix_pure rfl (by kernel_rfl) (.int .i64 (h.n / 256)) (fun w h => by clear h; go_simp; try rfl) ?_
  refine Mixed.wpMix_loud rfl ?_
  go_wp2
  refine ⟨K2.out, ?_⟩
  clear K2
  simp only [Mixed.wpMix]
  go_wp2_with fail
  refine P.out.mono ?_
  rintro e w2 ⟨rfl, h1⟩
  have R := Lib.hid h1
  clear h1 P
  go_wp2
  refine bodyPost_end (v := .tuple #[]) ?_ rfl ⟨rfl, R.out⟩
  simp [results, Tryz.results135, go_sem]
end Go.Proofs.YtclhaejdjogfbaaGreatDoor
namespace Go.Proofs.YtclhaejdjogfbaaGreatDoor
open Go.RowKit Go.Maps
def heldV (v : Value) : Option (DataW Value × List MemPlace) := some (.held v, [])
def methV (f b : Nat) : Value := .func (.func f) #[.pointer (some ⟨b, 0, none⟩)] #[]
def partsD (b : Nat) : DataW Value := ((((DataW.map []).put (.int .i32 100) (.held (methV 102 b))).put (.int .i32 101) (.held (methV 134 b))).put (.int .i32 110) (.held (methV 134 b))).put (.int .i32 119) (.held (methV 135 b))
theorem keyI : Keyed Tryz.prog 21 := int_keyed Tryz.underlying21
def PtAt (w : World) (g b : Nat) : Prop := w.ownsMap Tryz.prog 21 heldV g 4 (partsD b)
theorem PtAt.lt {w : World} {g b : Nat} (h : PtAt w g b) : g < w.heap.size := World.ownsMap.lt h
theorem PtAt.below {w w' : World} {g b : Nat} (h : PtAt w g b) (k : Below w.heap.size w w') : PtAt w' g b := World.ownsMap.kept h (row := none) ⟨k.os, k.tape, k.output, k.size, fun i hi _ => k.block i hi⟩ (by simp)
theorem PtAt.kept {w w' : World} {g b : Nat} (h : PtAt w g b) (hg : g ≠ b) (k : WKp b w w') : PtAt w' g b := by
  have hl := h.lt
  obtain ⟨es, clock, hb, F, hs, hD⟩ := h
  exact ⟨es, clock, (k.same g hl hg (fun cur e => by rw [hb] at e; cases e)).trans hb, F, hs, hD⟩
theorem wpList_insertW {ops : Array Oper} {rest : List Oper} {o : Oper} {a : Act} {Q : Exit → Act → World → Prop} {w : World} {g n : Nat} {D : DataW Value} (hgd : o.guard = none) (m x v : Operand)
    (ho : o.op = .insert 160 m x v) (hd : o.dst = none) (hown : w.ownsMap Tryz.prog 21 heldV g n D) (hn : n ≤ 1000) (hm : a.eval m = .map (some g)) (key : Int) (hw : (Lit.int .i32 key).wf = true) (hx : a.eval x = .int .i32 key) (val : Value) (hv : a.eval v = val)
    (k : ∀ w', w'.ownsMap Tryz.prog 21 heldV g (n + 1) (D.put (.int .i32 key) (.held val)) → w.grownBy w' (some g) → wpList Tryz.prog ops Q rest a w') : wpList Tryz.prog ops Q (o :: rest) a w := by
  obtain ⟨w', hrun, r1, r2⟩ := hown.update keyI Tryz.underlying160 (show n < maxLen by unfold maxLen; omega) (keyOf_int_mk Tryz.underlying21 hw) (show heldV val = some (.held val, []) from rfl)
  have ih := k w' r1 r2
  refine wpList_plain hgd fun K' hK' => ?_
  unfold Oper.wp
  simp [execOp, ho, hm, hx, hv, hrun, Result.andThen]
  have e : a.put o.dst undef = a := by rw [hd]; rfl
  unfold Oper.upon
  rw [e]
  exact hK' _ _ ih
theorem zero_fn (w : World) : ∃ z, (zeroValue 1).run Tryz.prog w = .ok z w := ⟨.nilFunc, by kernel_rfl⟩
theorem look_part {w : World} {g b : Nat} (h : PtAt w g b) (c : Int) (f : Nat) (hw : (Lit.int .i32 c).wf = true) (hh : Maps.has (partsD b) (.int .i32 c) = true) (ha : ∀ z, (partsD b).atKey (.int .i32 c) z = .held (methV f b)) :
    (Instr.lookup 160 (.map (some g)) (.int .i32 c) true).run Tryz.prog w = .ok (.tuple #[methV f b, .bool true]) w := by
  obtain ⟨z, hz⟩ := zero_fn w
  obtain ⟨v, ps, hrun, hv⟩ := World.ownsMap.look_ok h keyI Tryz.underlying160 hz (show heldV z = some (.held z, []) from rfl) (keyOf_int_mk Tryz.underlying21 hw)
  rw [ha] at hv
  rw [hh] at hrun
  have e : v = methV f b := by
    unfold heldV at hv
    simp only [Option.some.injEq, Prod.mk.injEq, DataW.held.injEq] at hv
    exact hv.1
  rw [← e]
  exact hrun
theorem look_100 {w : World} {g b : Nat} (h : PtAt w g b) : (Instr.lookup 160 (.map (some g)) (.int .i32 100) true).run Tryz.prog w = .ok (.tuple #[methV 102 b, .bool true]) w := look_part h 100 _ (by decide) rfl fun z => rfl
theorem look_101 {w : World} {g b : Nat} (h : PtAt w g b) : (Instr.lookup 160 (.map (some g)) (.int .i32 101) true).run Tryz.prog w = .ok (.tuple #[methV 134 b, .bool true]) w := look_part h 101 _ (by decide) rfl fun z => rfl
theorem look_110 {w : World} {g b : Nat} (h : PtAt w g b) : (Instr.lookup 160 (.map (some g)) (.int .i32 110) true).run Tryz.prog w = .ok (.tuple #[methV 134 b, .bool true]) w := look_part h 110 _ (by decide) rfl fun z => rfl
theorem look_119 {w : World} {g b : Nat} (h : PtAt w g b) : (Instr.lookup 160 (.map (some g)) (.int .i32 119) true).run Tryz.prog w = .ok (.tuple #[methV 135 b, .bool true]) w := look_part h 119 _ (by decide) rfl fun z => rfl
theorem wparts_any (b : Nat) (w : World) : Calls Tryz.prog 104 #[.pointer (some ⟨b, 0, none⟩)] w fun e w' => ∃ g, e = .returned (.map (some g)) ∧ PtAt w' g b ∧ w.heap.size ≤ g ∧ Below w.heap.size w w' := by
  have hmm := @run_makeMap Tryz.prog
  have B0 := Lib.hid ((Below.refl w.heap.size w).alloc (Nat.le_refl _) (.map #[] 0))
  have M0 := Lib.hid (World.ownsMap_made (H := Value) w Tryz.prog 21 heldV)
  have BF := Lib.hid (show ∀ w1 w2 : World, Below w.heap.size w w1 → w1.grownBy w2 (some w.heap.size) → Below w.heap.size w w2 from fun w1 w2 h g => h.grown g h.size fun k hk => by cases hk; exact Nat.le_refl _)
  go_enter Tryz.func104, Tryz.ntmps104
  go_wp2_with (first | (refine wpList_insertW rfl _ _ _ rfl rfl M0.out (by decide) rfl 100 (by decide) rfl _ rfl ?_; intro w1 h1 g1; have M1 := Lib.hid h1; have B1 := Lib.hid (BF.out _ _ B0.out g1); clear h1 g1 M0 B0) | (refine wpList_insertW rfl _ _ _ rfl rfl M1.out (by decide) rfl 101 (by decide) rfl _ rfl ?_; intro w2 h1 g1; have M2 := Lib.hid h1; have B2 := Lib.hid (BF.out _ _ B1.out g1); clear h1 g1 M1 B1) | (refine wpList_insertW rfl _ _ _ rfl rfl M2.out (by decide) rfl 110 (by decide) rfl _ rfl ?_; intro w3 h1 g1; have M3 := Lib.hid h1; have B3 := Lib.hid (BF.out _ _ B2.out g1); clear h1 g1 M2 B2) | (refine wpList_insertW rfl _ _ _ rfl rfl M3.out (by decide) rfl 119 (by decide) rfl _ rfl ?_; intro w4 h1 g1; have M4 := Lib.hid h1; have B4 := Lib.hid (BF.out _ _ B3.out g1); clear h1 g1 M3 B3) | fail)
  go_ret
  exact ⟨_, rfl, M4.out, Nat.le_refl _, B4.out⟩
end Go.Proofs.YtclhaejdjogfbaaGreatDoor
