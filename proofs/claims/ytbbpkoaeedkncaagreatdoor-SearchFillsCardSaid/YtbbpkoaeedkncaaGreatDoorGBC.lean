/-
  SeI, SeV, LpA, CoA, TbL.
-/
import Derived.Test.YtbbpkoaeedkncaaGreatDoorMSeH
import Derived.Test.YtbbpkoaeedkncaaGreatDoorGAQ
import Derived.Test.YtbbpkoaeedkncaaGreatDoorGAB
import Derived.RangeFuncNested
import Derived.Test.YtbbpkoaeedkncaaGreatDoorGAC
import Derived.Test.YtbbpkoaeedkncaaGreatDoorGAJ
import Derived.Deep.DeepCutAuto
set_option linter.all false
set_option maxRecDepth 100000
set_option maxHeartbeats 4000000
namespace Go.Proofs.YtbbpkoaeedkncaaGreatDoor
open Go.RowKit Go.Shelf
attribute [local go_sem] Oper.semAt_some
attribute [local irreducible] Go.Mixed.wpMix
theorem sfits_any (page op : Int) (m : Str) (hm : m.length ≤ 1000) (hup : upB (sB m) = sB m) (A : Option Addr) (cap l : Nat) (L : List Tr) (hl : L.length = l) (hL : l ≤ 1000) (ex : Str) (hx : ex.length ≤ 1000) (al : Bool) (s : ByteArray) (Ai : Option Addr) (capi li : Nat) (I : List Tr) (hli : I.length = li) (hLi : li ≤ 900) (w : World) (H : OpsP w A L) (HF : OpsP w Ai I) :
    Calls Tryz.prog 13 #[enV page op m (.slice A l cap) ex al, .agg #[.string s, .slice Ai li capi]] w fun e w' => e = .returned (.bool (hasV m L ex s (canL (opc s) I))) ∧ Below w.heap.size w w' := by
  have hof := fun w h => of_any s Ai capi I (by omega) w h
  rw [hli] at hof
  have hcl := canL_len (opc s) I
  have hhe := fun Af capf lf (e1 : (canL (opc s) I).length = lf) w' h1 h2 => hasEntry_any page op m hm hup A cap l L hl hL ex hx al s Af capf lf (canL (opc s) I) e1 (by omega) w' h1 h2
  obtain ⟨C, hC⟩ : ∃ C, canL (opc s) I = C := ⟨_, rfl⟩
  rw [hC] at hof hhe
  rw [hC]
  obtain ⟨tt, htt⟩ : ∃ z, hasV m L ex s C = z := ⟨_, rfl⟩
  rw [htt] at hhe ⊢
  clear hC htt hcl hup
  unfold enV at hhe ⊢
  obtain ⟨w0, hw0⟩ : ∃ w0, (w.alloc (.cells #[.int .i64 page, .int .u8 op, .string (sB m), .slice A l cap, .string (sB ex), .bool al] 26)).alloc (.cells #[.string s, .slice Ai li capi] 24) = w0 := ⟨_, rfl⟩
  obtain ⟨n, hn⟩ : ∃ n, w.heap.size = n := ⟨_, rfl⟩
  have b0 : Below n w w0 := by rw [← hw0, ← hn]; exact ((Below.refl _ w).alloc (Nat.le_refl _) _).alloc (by simp) _
  have z0 : w0.heap.size = n + 1 + 1 := by rw [← hw0, ← hn]; simp
  have c0 : w0.heap[n]? = some (.cells #[.int .i64 page, .int .u8 op, .string (sB m), .slice A l cap, .string (sB ex), .bool al] 26 (0, 0)) := by
    rw [← hw0, ← hn]
    exact (Below.heap_alloc _ _ _ (by simp)).trans (World.alloc_heap_new w _)
  have c1 : w0.heap[n + 1]? = some (.cells #[.string s, .slice Ai li capi] 24 (0, 0)) := by
    rw [← hw0, ← hn]
    have h := World.alloc_heap_new (w.alloc (.cells #[.int .i64 page, .int .u8 op, .string (sB m), .slice A l cap, .string (sB ex), .bool al] 26)) (.cells #[.string s, .slice Ai li capi] 24)
    rwa [World.size_alloc] at h
  have OF := Lib.hid hof
  have HE := Lib.hid hhe
  have HN := Lib.hid hn
  have hd := below_drewN w0 w0.heap.size 1
  have KK : Hid (w0.drew.heap[n]? = some (.cells #[.int .i64 page, .int .u8 op, .string (sB m), .slice A l cap, .string (sB ex), .bool al] 26 (0, 0)) ∧ w0.drew.heap[n + 1]? = some (.cells #[.string s, .slice Ai li capi] 24 (0, 0))) := ⟨c0, c1⟩
  have P0 := Lib.hid ((H.below (by rw [hn]; exact b0)).below hd)
  have Q0 := Lib.hid ((HF.below (by rw [hn]; exact b0)).below hd)
  have B0 : Hid (Below n w w0.drew) := b0.drew
  clear hof hhe c0 c1 b0 H HF hm hx hd
  go_enter Tryz.func13, Tryz.ntmps13
  go_upto_region 1 with fail
  obtain ⟨w3, hw3⟩ : ∃ w3, w0.drew = w3 := ⟨_, rfl⟩
  have hw3' : w0.drewN 1 = w3 := hw3
  rw [hw3'] at P0 Q0
  rw [hw3] at KK B0
  have z3 : w3.heap.size = n + 2 := by rw [← hw3]; exact z0
  refine Mixed.wp_region_mixed (fun w' => w'.heap[n]? = some (.cells #[.int .i64 page, .int .u8 op, .string (sB m), .slice A l cap, .string (sB ex), .bool al] 26 (0, 0)) ∧ w'.heap[n + 1]? = some (.cells #[.string s, .slice Ai li capi] 24 (0, 0))) 4 [(0, true), (2, true), (1, false), (3, false)] (by kernel_rfl) (by kernel_rfl) (by rw [hw3]; exact KK.out) ?_
  rw [hw3]
  clear hw3 hw3'
  refine Mixed.wpMix_pure rfl (by kernel_rfl) (.agg #[.string s, .slice Ai li capi]) (fun w h => by
    obtain ⟨h1, h2⟩ := h
    have q0 := Lib.cell_of_heap h2 0
    have q1 := Lib.cell_of_heap h2 1
    go_simp; try rfl) ?_
  refine Mixed.wpMix_pure rfl (by kernel_rfl) (.agg #[.int .i64 page, .int .u8 op, .string (sB m), .slice A l cap, .string (sB ex), .bool al]) (fun w h => by
    obtain ⟨h1, h2⟩ := h
    have q0 := Lib.cell_of_heap h1 0
    have q1 := Lib.cell_of_heap h1 1
    have q2 := Lib.cell_of_heap h1 2
    have q3 := Lib.cell_of_heap h1 3
    have q4 := Lib.cell_of_heap h1 4
    have q5 := Lib.cell_of_heap h1 5
    go_simp; try rfl) ?_
  refine Mixed.wpMix_loudG rfl (by kernel_rfl) ?_
  go_wp2_with fail
  refine (OF.out _ Q0.out).mono ?_
  rintro e w4 ⟨v, rfl, hO, hb⟩
  obtain ⟨Af, capf, rfl, hP, -, -⟩ := hO.ops
  have K4 : Hid (w4.heap[n]? = some (.cells #[.int .i64 page, .int .u8 op, .string (sB m), .slice A l cap, .string (sB ex), .bool al] 26 (0, 0)) ∧ w4.heap[n + 1]? = some (.cells #[.string s, .slice Ai li capi] 24 (0, 0))) := ⟨(hb.block _ (by omega)).trans KK.out.1, (hb.block _ (by omega)).trans KK.out.2⟩
  have B4 : Hid (Below n w w4) := B0.out.trans (hb.mono (by omega))
  have he := HE.out Af capf C.length rfl w4 (P0.out.below hb) hP
  have s4 : n ≤ w4.heap.size := by have := hb.size; omega
  obtain ⟨lf, hlf⟩ : ∃ z, C.length = z := ⟨_, rfl⟩
  rw [hlf] at he ⊢
  clear hb hO hP KK P0 Q0 B0 OF HE z3 hlf
  go_wp2
  refine ⟨K4.out, ?_⟩
  refine Mixed.wpMix_loudG rfl (by kernel_rfl) ?_
  go_wp2_with fail
  refine he.mono ?_
  rintro e w5 ⟨rfl, hb⟩
  have K5 : Hid (w5.heap[n]? = some (.cells #[.int .i64 page, .int .u8 op, .string (sB m), .slice A l cap, .string (sB ex), .bool al] 26 (0, 0)) ∧ w5.heap[n + 1]? = some (.cells #[.string s, .slice Ai li capi] 24 (0, 0))) := ⟨(hb.block _ (Array.getElem?_eq_some_iff.1 K4.out.1).1).trans K4.out.1, (hb.block _ (Array.getElem?_eq_some_iff.1 K4.out.2).1).trans K4.out.2⟩
  have B5 : Hid (Below n w w5) := B4.out.trans (hb.mono s4)
  clear hb he B4 K4
  go_wp2
  refine ⟨K5.out, ?_⟩
  simp only [Mixed.wpMix, List.drop_succ_cons, List.drop_zero]
  go_wp2
  go_ret
  exact ⟨rfl, by rw [HN.out]; exact B5.out⟩
end Go.Proofs.YtbbpkoaeedkncaaGreatDoor
namespace Go.Proofs.YtbbpkoaeedkncaaGreatDoor
open Go.RowKit Go.Shelf
attribute [local go_sem] Oper.semAt_some
attribute [local irreducible] Go.Mixed.wpMix
theorem svalues_any (page op : Int) (m : Str) (hm : m.length ≤ 1000) (hup : upB (sB m) = sB m) (A : Option Addr) (cap l : Nat) (L : List Tr) (hl : L.length = l) (hL : l ≤ 1000) (ex : Str) (hx : ex.length ≤ 1000) (al : Bool) (s : ByteArray) (Ai : Option Addr) (capi li : Nat) (I : List Tr) (hli : I.length = li) (hLi : li ≤ 900) (w : World) (H : OpsP w A L) (HF : OpsP w Ai I) :
    Calls Tryz.prog 11 #[enV page op m (.slice A l cap) ex al, .agg #[.string s, .slice Ai li capi]] w fun e w' => e = .returned (.tuple #[.int .i64 (valV m L ex s (canL (opc s) I)).1, .int .i64 (valV m L ex s (canL (opc s) I)).2]) ∧ Below w.heap.size w w' := by
  have hof := fun w h => of_any s Ai capi I (by omega) w h
  rw [hli] at hof
  have hcl := canL_len (opc s) I
  have hhe := fun Af capf lf (e1 : (canL (opc s) I).length = lf) w' h1 h2 => hasEntry_any page op m hm hup A cap l L hl hL ex hx al s Af capf lf (canL (opc s) I) e1 (by omega) w' h1 h2
  have hva := fun w => variables_any page op m A l cap ex hx al w
  obtain ⟨C, hC⟩ : ∃ C, canL (opc s) I = C := ⟨_, rfl⟩
  rw [hC] at hof hhe hcl
  rw [hC]
  obtain ⟨x, hxx⟩ : ∃ x, (varsV ex).1 = x := ⟨_, rfl⟩
  obtain ⟨y, hyy⟩ : ∃ y, (varsV ex).2 = y := ⟨_, rfl⟩
  obtain ⟨tt, htt⟩ : ∃ z, hasV m L ex s C = z := ⟨_, rfl⟩
  have VV : Hid (valV m L ex s C = if tt = true then (numV x.1 C, numV y.1 C) else (0, 0)) := by show _ = _; unfold valV; rw [htt, hxx, hyy]
  obtain ⟨vv, hvv⟩ : ∃ z, valV m L ex s C = z := ⟨_, rfl⟩
  rw [hvv] at VV ⊢
  unfold RetVars at hva
  rw [hxx, hyy] at hva
  rw [htt] at hhe
  have CL : Hid (C.length ≤ 1000) := by show _ ≤ _; omega
  clear hC htt hcl hup hvv hxx hyy
  unfold enV at hhe hva ⊢
  obtain ⟨w0, hw0⟩ : ∃ w0, (w.alloc (.cells #[.int .i64 page, .int .u8 op, .string (sB m), .slice A l cap, .string (sB ex), .bool al] 26)).alloc (.cells #[.string s, .slice Ai li capi] 24) = w0 := ⟨_, rfl⟩
  obtain ⟨n, hn⟩ : ∃ n, w.heap.size = n := ⟨_, rfl⟩
  have b0 : Below n w w0 := by rw [← hw0, ← hn]; exact ((Below.refl _ w).alloc (Nat.le_refl _) _).alloc (by simp) _
  have z0 : w0.heap.size = n + 1 + 1 := by rw [← hw0, ← hn]; simp
  have c0 : w0.heap[n]? = some (.cells #[.int .i64 page, .int .u8 op, .string (sB m), .slice A l cap, .string (sB ex), .bool al] 26 (0, 0)) := by
    rw [← hw0, ← hn]
    exact (Below.heap_alloc _ _ _ (by simp)).trans (World.alloc_heap_new w _)
  have c1 : w0.heap[n + 1]? = some (.cells #[.string s, .slice Ai li capi] 24 (0, 0)) := by
    rw [← hw0, ← hn]
    have h := World.alloc_heap_new (w.alloc (.cells #[.int .i64 page, .int .u8 op, .string (sB m), .slice A l cap, .string (sB ex), .bool al] 26)) (.cells #[.string s, .slice Ai li capi] 24)
    rwa [World.size_alloc] at h
  have OF := Lib.hid hof
  have HE := Lib.hid hhe
  have VA := Lib.hid hva
  have HN := Lib.hid hn
  have B0 := Lib.hid b0
  have C0 := Lib.hid c0
  have P0 := Lib.hid (H.below (by rw [hn]; exact b0))
  have Q0 := Lib.hid (HF.below (by rw [hn]; exact b0))
  have k0 := Lib.cell_of_heap c1 0
  have k1 := Lib.cell_of_heap c1 1
  clear hof hhe hva c0 c1 b0 H HF hm hx
  go_enter Tryz.func11, Tryz.ntmps11
  go_wp2_with fail
  refine (OF.out _ Q0.out).mono ?_
  rintro e w1 ⟨v, rfl, hO, hb⟩
  obtain ⟨Af, capf, rfl, hP, -, -⟩ := hO.ops
  obtain ⟨lf, hlf⟩ : ∃ z, C.length = z := ⟨_, rfl⟩
  have HLF := Lib.hid hlf
  rw [hlf] at CL ⊢
  obtain ⟨b, hbs⟩ : ∃ b, w1.heap.size = b := ⟨_, rfl⟩
  obtain ⟨w2, hw2, y1, y2, y3⟩ := ins_box w1 s (.slice Af lf capf) b hbs
  have bb : Below (n + 1 + 1) w0 w2 := (hb.mono (by omega)).trans (y2.mono (by have := hb.size; omega))
  have hnb : n + 2 ≤ b := by have := hb.size; omega
  have c0 := (bb.block n (by omega)).trans C0.out
  have E2 := Lib.hid c0
  have B2 : Hid (Below n w w2) := B0.out.trans (bb.mono (by omega))
  have P2 := Lib.hid (P0.out.below (by rw [z0]; exact bb))
  have Q2 := Lib.hid (hP.below y2)
  have he := HE.out Af capf lf HLF.out w2 P2.out Q2.out
  have Y1 := Lib.hid y1
  have j0 := Lib.cell_of_heap y1 0
  have j1 := Lib.cell_of_heap y1 1
  have i0 := Lib.cell_of_heap c0 0
  have i1 := Lib.cell_of_heap c0 1
  have i2 := Lib.cell_of_heap c0 2
  have i3 := Lib.cell_of_heap c0 3
  have i4 := Lib.cell_of_heap c0 4
  have i5 := Lib.cell_of_heap c0 5
  clear hO hP hb y1 y2 bb c0 OF HE P0 Q0 B0 C0 z0 hw0 hlf k0 k1
  go_wp2_with fail
  refine he.mono ?_
  rintro e w3 ⟨rfl, hb⟩
  have P3 := Lib.hid (P2.out.below hb)
  have Q3 := Lib.hid (Q2.out.below hb)
  have B3 : Hid (Below n w w3) := B2.out.trans (hb.mono (by omega))
  have Y3 := Lib.hid ((hb.block b (by omega)).trans Y1.out)
  have E3 := Lib.hid ((hb.block n (by omega)).trans E2.out)
  have s3 : b + 1 ≤ w3.heap.size := by have := hb.size; omega
  have va3 := VA.out w3
  clear he hb P2 Q2 B2 Y1 E2 VA j0 j1 i0 i1 i2 i3 i4 i5 y3 hw2 w2 hbs
  have i0 := Lib.cell_of_heap E3.out 0
  have i1 := Lib.cell_of_heap E3.out 1
  have i2 := Lib.cell_of_heap E3.out 2
  have i3 := Lib.cell_of_heap E3.out 3
  have i4 := Lib.cell_of_heap E3.out 4
  have i5 := Lib.cell_of_heap E3.out 5
  cases tt with
  | false =>
    clear va3
    go_wp2
    refine bodyPost_ret (v := .tuple #[.int .i64 0, .int .i64 0]) ?_ rfl ?_
    · simp [results, Tryz.results11, go_sem]
    · refine ⟨?_, by rw [HN.out]; exact B3.out⟩
      rw [VV.out]
      rfl
  | true =>
    go_wp2_with fail
    refine va3.mono ?_
    rintro e w4 ⟨f, g, f', g', rfl, va, va', hb⟩
    obtain ⟨p1, p2, p3, hf, hg⟩ := va.form
    obtain ⟨p4, p5, p6, hf', hg'⟩ := va'.form
    subst hf hg hf' hg'
    obtain ⟨c, hcs⟩ : ∃ c, w4.heap.size = c := ⟨_, rfl⟩
    obtain ⟨w5, hw5, x1, x2, x3, x4, x5, x6⟩ := vars_boxes va va' c hcs
    have hbc : b + 1 ≤ c := by have := hb.size; omega
    have bb : Below (b + 1) w3 w5 := (hb.mono (by omega)).trans (x5.mono (by omega))
    have bb' : Below w3.heap.size w3 w5 := hb.trans (x5.mono hb.size)
    have B5 : Hid (Below n w w5.drew) := (B3.out.trans (bb.mono (by omega))).drew
    have hd := below_drewN w5 w5.heap.size 1
    have Q5 := Lib.hid ((Q3.out.below bb').below hd)
    have KK : Hid (w5.drew.heap[b]? = some (.cells #[.string s, .slice Af lf capf] 24 (0, 0)) ∧ w5.drew.heap[c]? = some (.cells #[.func (.func 101) #[] #[.pointer (some ⟨p1, 0, none⟩)], .func (.func 103) #[] #[.pointer (some ⟨p2, 0, none⟩), .pointer (some ⟨p3, 0, none⟩)]] 79 (0, 0)) ∧ w5.drew.heap[c + 1]? = some (.cells #[.func (.func 101) #[] #[.pointer (some ⟨p4, 0, none⟩)], .func (.func 103) #[] #[.pointer (some ⟨p5, 0, none⟩), .pointer (some ⟨p6, 0, none⟩)]] 79 (0, 0))) := ⟨(bb.block b (by omega)).trans Y3.out, x1, x2⟩
    have X3 := Lib.hid (x3.below hd)
    have X4 := Lib.hid (x4.below hd)
    clear va3 va va' hb x1 x2 x3 x4 x5 bb bb' hd P3 Q3 B3 Y3 E3 i0 i1 i2 i3 i4 i5
    go_upto_region 5 with fail
    obtain ⟨w6, hw6⟩ : ∃ z, w5.drew = z := ⟨_, rfl⟩
    have hw6' : w5.drewN 1 = w6 := hw6
    rw [hw6'] at Q5 X3 X4
    rw [hw6] at B5 KK
    have z6 : w6.heap.size = c + 2 := by rw [← hw6]; exact x6
    refine Mixed.wp_region_mixed (fun w' => w'.heap[b]? = some (.cells #[.string s, .slice Af lf capf] 24 (0, 0)) ∧ w'.heap[c]? = some (.cells #[.func (.func 101) #[] #[.pointer (some ⟨p1, 0, none⟩)], .func (.func 103) #[] #[.pointer (some ⟨p2, 0, none⟩), .pointer (some ⟨p3, 0, none⟩)]] 79 (0, 0)) ∧ w'.heap[c + 1]? = some (.cells #[.func (.func 101) #[] #[.pointer (some ⟨p4, 0, none⟩)], .func (.func 103) #[] #[.pointer (some ⟨p5, 0, none⟩), .pointer (some ⟨p6, 0, none⟩)]] 79 (0, 0))) 6 [(0, true), (1, true), (3, true), (4, true), (2, false), (5, false)] (by kernel_rfl) (by kernel_rfl) (by rw [hw6]; exact KK.out) ?_
    rw [hw6]
    clear hw6 hw6' x6 hw5
    refine Mixed.wpMix_pure rfl (by kernel_rfl) (.agg #[.func (.func 101) #[] #[.pointer (some ⟨p1, 0, none⟩)], .func (.func 103) #[] #[.pointer (some ⟨p2, 0, none⟩), .pointer (some ⟨p3, 0, none⟩)]]) (fun w h => by
      obtain ⟨h1, h2, h3⟩ := h
      have q0 := Lib.cell_of_heap h2 0
      have q1 := Lib.cell_of_heap h2 1
      go_simp; try rfl) ?_
    refine Mixed.wpMix_pure rfl (by kernel_rfl) (.agg #[.string s, .slice Af lf capf]) (fun w h => by
      obtain ⟨h1, h2, h3⟩ := h
      have q0 := Lib.cell_of_heap h1 0
      have q1 := Lib.cell_of_heap h1 1
      go_simp; try rfl) ?_
    refine Mixed.wpMix_pure rfl (by kernel_rfl) (.agg #[.func (.func 101) #[] #[.pointer (some ⟨p4, 0, none⟩)], .func (.func 103) #[] #[.pointer (some ⟨p5, 0, none⟩), .pointer (some ⟨p6, 0, none⟩)]]) (fun w h => by
      obtain ⟨h1, h2, h3⟩ := h
      have q0 := Lib.cell_of_heap h3 0
      have q1 := Lib.cell_of_heap h3 1
      go_simp; try rfl) ?_
    refine Mixed.wpMix_pure rfl (by kernel_rfl) (.agg #[.string s, .slice Af lf capf]) (fun w h => by
      obtain ⟨h1, h2, h3⟩ := h
      have q0 := Lib.cell_of_heap h1 0
      have q1 := Lib.cell_of_heap h1 1
      go_simp; try rfl) ?_
    have n1 := vnum_any x (.agg #[.func (.func 101) #[] #[.pointer (some ⟨p1, 0, none⟩)], .func (.func 103) #[] #[.pointer (some ⟨p2, 0, none⟩), .pointer (some ⟨p3, 0, none⟩)]]) s Af capf lf C HLF.out CL.out w6 X3.out Q5.out
    refine Mixed.wpMix_loudG rfl (by kernel_rfl) ?_
    go_wp2_with fail
    refine n1.mono ?_
    rintro e w7 ⟨rfl, hb⟩
    have K7 : Hid (w7.heap[b]? = some (.cells #[.string s, .slice Af lf capf] 24 (0, 0)) ∧ w7.heap[c]? = some (.cells #[.func (.func 101) #[] #[.pointer (some ⟨p1, 0, none⟩)], .func (.func 103) #[] #[.pointer (some ⟨p2, 0, none⟩), .pointer (some ⟨p3, 0, none⟩)]] 79 (0, 0)) ∧ w7.heap[c + 1]? = some (.cells #[.func (.func 101) #[] #[.pointer (some ⟨p4, 0, none⟩)], .func (.func 103) #[] #[.pointer (some ⟨p5, 0, none⟩), .pointer (some ⟨p6, 0, none⟩)]] 79 (0, 0))) := ⟨(hb.block _ (by omega)).trans KK.out.1, (hb.block _ (by omega)).trans KK.out.2.1, (hb.block _ (by omega)).trans KK.out.2.2⟩
    have n2 := vnum_any y (.agg #[.func (.func 101) #[] #[.pointer (some ⟨p4, 0, none⟩)], .func (.func 103) #[] #[.pointer (some ⟨p5, 0, none⟩), .pointer (some ⟨p6, 0, none⟩)]]) s Af capf lf C HLF.out CL.out w7 (X4.out.below hb) (Q5.out.below hb)
    have B7 : Hid (Below n w w7) := B5.out.trans (hb.mono (by omega))
    have s7 : c + 2 ≤ w7.heap.size := by have := hb.size; omega
    clear hb n1 KK Q5 X3 X4 B5 z6
    go_wp2
    refine ⟨K7.out, ?_⟩
    refine Mixed.wpMix_loudG rfl (by kernel_rfl) ?_
    go_wp2_with fail
    refine n2.mono ?_
    rintro e w8 ⟨rfl, hb⟩
    have K8 : Hid (w8.heap[b]? = some (.cells #[.string s, .slice Af lf capf] 24 (0, 0)) ∧ w8.heap[c]? = some (.cells #[.func (.func 101) #[] #[.pointer (some ⟨p1, 0, none⟩)], .func (.func 103) #[] #[.pointer (some ⟨p2, 0, none⟩), .pointer (some ⟨p3, 0, none⟩)]] 79 (0, 0)) ∧ w8.heap[c + 1]? = some (.cells #[.func (.func 101) #[] #[.pointer (some ⟨p4, 0, none⟩)], .func (.func 103) #[] #[.pointer (some ⟨p5, 0, none⟩), .pointer (some ⟨p6, 0, none⟩)]] 79 (0, 0))) := ⟨(hb.block _ (by omega)).trans K7.out.1, (hb.block _ (by omega)).trans K7.out.2.1, (hb.block _ (by omega)).trans K7.out.2.2⟩
    have B8 : Hid (Below n w w8) := B7.out.trans (hb.mono (by omega))
    clear hb n2 B7 K7
    go_wp2
    refine ⟨K8.out, ?_⟩
    simp only [Mixed.wpMix, List.drop_succ_cons, List.drop_zero]
    go_wp2
    refine bodyPost_ret (v := .tuple #[.int .i64 (numV x.1 C), .int .i64 (numV y.1 C)]) ?_ rfl ?_
    · simp [results, Tryz.results11, go_sem]
    · refine ⟨?_, by rw [HN.out]; exact B8.out⟩
      rw [VV.out]
      simp
end Go.Proofs.YtbbpkoaeedkncaaGreatDoor
namespace Go.Stops
open Go Go.RowKit
variable {F : Fence} {n : Nat} {P : Program}
theorem wpIn_tellsH {α : Type} {g : Operand} {ps : Array Tmp} {assign body : Code} {Q : Exit → Act → World → Prop} {a : Act} {w : World} (hro : F.round = none) (h1 : 1 ≤ n)
    {gf : Nat} {lb : Array Value} (hg : a.eval g = .func (.func gf) #[] lb) (hFg : F.fn gf) (eg : ∀ args w, (callFunc gf args).run P w = .ok (.enter gf args) w)
    {encs : α → Array Value} {E : List α → α → Prop} {Bs : Nat} {Kp : World → World → Prop} {S : List α → Prop} (hseq : Tells F (n - 1) P gf lb encs E Bs Kp S w) (hBs : Bs < w.heap.size)
    (hKt : ∀ {A B C : World}, Kp A B → Kp B C → Kp A C) (hKb : ∀ (W : World) (l : Nat) (o o' : Obj), w.heap.size ≤ l → W.heap[l]? = some o → o.isCells = false → Kp W (W.putObj l o')) (hps : ∀ x, (encs x).size = ps.size)
    (I Ix : List α → World → Prop) (hI : OwnFrom w.heap.size I) (hIB : Apart Bs I) (hIx : OwnFrom w.heap.size Ix) (h0 : I [] w) (Ax : α → Act → World → Prop) (hAx : ∀ x, OwnFrom w.heap.size (Ax x))
    (hassign : ∀ (l : Nat) (pre : List α) (x : α) (W : World) (K : Act → World → Prop), I pre W → E pre x → (∀ a' W', KeepsFrom w.heap.size W W' → Kp W W' → I pre W' → Ax x a' W' → K a' W') →
      assign.wpIn (F.inRound l) (n - 1 - 1) P (Exit.then K (fun _ _ _ => False)) { tmps := (ps.zip (encs x)).foldl (fun t (p, v) => t.setIfInBounds p v) a.tmps, defers := [] } W)
    (hbody : ∀ (l : Nat) (pre : List α) (x : α) (a' : Act) (W : World), w.heap.size ≤ l → (∃ r, W.heap[l]? = some (.loop r)) → I pre W → Ax x a' W → E pre x → body.wpIn (F.inRound l) (n - 1 - 1) P (endsSo w.heap.size Kp I Ix (pre ++ [x]) W) a' W)
    (hdone : ∀ (D : Nat) (xs : List α) (W : World), w.heap.size ≤ D → S xs → I xs W → W.heap[D]? = some (.deferred (some [])) → Q .normal { a with defers := { target := .collected D, args := #[] } :: a.defers } W)
    (hstop : ∀ (D : Nat) (pre : List α) (W : World), w.heap.size ≤ D → Ix pre W → W.heap[D]? = some (.deferred (some [])) → Code.ret.wpIn F n P Q { a with defers := { target := .collected D, args := #[] } :: a.defers } W) :
    (Code.rangeFunc g ps assign body).wpIn F n P Q a w := by
  refine wpIn_rangeFunc fun fn hfn => ?_
  rw [hro]
  let R : LoopState → Option Code → Loop := fun st j => { state := st, pending := j, fn := fn, tmps := a.tmps, params := ps, assign := assign, body := body, defers := w.heap.size }
  let B : World := (w.alloc (.deferred (some []))).alloc (.loop (R .ready none))
  have bD : B.heap[w.heap.size]? = some (.deferred (some [])) := (Below.heap_alloc _ _ _ (by simp)).trans (World.alloc_heap_new w _)
  have bL : B.heap[w.heap.size + 1]? = some (.loop (R .ready none)) := by
    have h := World.alloc_heap_new (w.alloc (.deferred (some []))) (.loop (R .ready none))
    rwa [World.size_alloc] at h
  have bI : I [] B := hI.alloc _ (hI.alloc _ h0)
  have bB : Below w.heap.size w B := ((Below.refl _ w).alloc (Nat.le_refl _) _).alloc (by simp) _
  have bz : B.heap.size = w.heap.size + 1 + 1 := by simp [B]
  -- what a turn of a walk of the iterator's own leaves of the two blocks
  have walk : ∀ {X Y : World} {row : Option Nat} {k : Nat} {o : Obj}, X.grownBy Y row → (∀ r, row = some r → B.heap.size ≤ r ∧ ∃ o : Obj, X.heap[r]? = some o ∧ o.isWalk = true) → X.heap[k]? = some o → k < w.heap.size + 2 → Y.heap[k]? = some o := fun hg' hr hk hlt =>
    (hg'.block _ (Array.getElem?_eq_some_iff.1 hk).1 fun e => by have := (hr _ e.symm).1; omega).trans hk
  have cells : ∀ {X Y : World} {row : Option Nat}, (∀ r, row = some r → B.heap.size ≤ r ∧ ∃ o : Obj, X.heap[r]? = some o ∧ o.isWalk = true) → (∀ r, row = some r → w.heap.size ≤ r ∧ ∃ o : Obj, X.heap[r]? = some o ∧ o.isCells = false) := fun hr r e => by
    obtain ⟨k1, o, k2, k3⟩ := hr r e
    exact ⟨by omega, o, k2, Obj.not_cells_of_walk k3⟩
  refine ⟨w.heap.size + 1, [{ target := .collected w.heap.size, args := #[] }], B, { target := .fn (.func gf) lb, args := #[.func (.yield (w.heap.size + 1)) #[] #[]] }, B, gf, #[.func (.yield (w.heap.size + 1)) #[] #[]] ++ lb, B,
    run_enterLoop_outer _ _ _ _ _, by simp only [resolve, hg]; simp [go_sem], fun f' hf' => by simp [Target.leads] at hf'; subst hf'; exact hFg, by simp [invoke, go_sem, eg], fun _ => h1, ?_⟩
  refine (hseq (w.heap.size + 1) (fun pre W => I pre W ∧ W.heap[w.heap.size + 1]? = some (.loop (R .ready none)) ∧ W.heap[w.heap.size]? = some (.deferred (some [])))
    (fun pre W => Ix pre W ∧ W.heap[w.heap.size + 1]? = some (.loop (R .done (some .ret))) ∧ W.heap[w.heap.size]? = some (.deferred (some []))) B bB ?_ ?_ ?_ ?_ ⟨bI, bL, bD⟩).mono ?_
  · rintro s X Y row ⟨s1, s2, s3⟩ hg' hr
    exact ⟨hI s X Y row s1 hg' (cells (Y := Y) hr), walk hg' hr s2 (by omega), walk hg' hr s3 (by omega)⟩
  · rintro s X Y ⟨s1, s2, s3⟩ hg'
    have q : ∀ {k : Nat} {o : Obj}, w.heap.size ≤ k → X.heap[k]? = some o → Y.heap[k]? = some o := fun hk ho => (hg'.block _ (Array.getElem?_eq_some_iff.1 ho).1 fun e => by have := Option.some.inj e; omega).trans ho
    exact ⟨hIB s X Y s1 hg', q (by omega) s2, q (Nat.le_refl _) s3⟩
  · rintro pre x W ⟨s1, s2, s3⟩ hx
    refine ⟨fn, _, assign, body, run_yield (P := P) (args := encs x) s2 (hps x), roundIn_of_wpIn hfn (hassign _ pre x W _ s1 hx fun a' U u1 uK uI uA => ?_)⟩
    have u2 := u1.same _ _ (by omega) s2 rfl
    have u3 := u1.same _ _ (Nat.le_refl _) s3 rfl
    have hlu : w.heap.size + 1 < U.heap.size := (Array.getElem?_eq_some_iff.1 u2).1
    refine ⟨_, run_beginRound u2 rfl, ?_⟩
    obtain ⟨V, hV⟩ : ∃ V, U.putObj (w.heap.size + 1) (.loop { R .ready none with state := .busy }) = V := ⟨_, rfl⟩
    have v2 : V.heap[w.heap.size + 1]? = some (.loop { R .ready none with state := .busy }) := hV ▸ World.putObj_heap_same hlu
    have v3 : V.heap[w.heap.size]? = some (.deferred (some [])) := hV ▸ (World.putObj_heap_other (by omega)).trans u3
    have vI : I pre V := hV ▸ hI.putObj _ uI (by omega) u2 rfl
    have vE : Ax x a' V := hV ▸ (hAx x).putObj _ uA (by omega) u2 rfl
    have vK : Kp W V := hKt uK (hV ▸ hKb _ _ _ _ (by omega) u2 rfl)
    show body.wpIn _ _ _ _ _ (U.putObj (w.heap.size + 1) (.loop { R .ready none with state := .busy }))
    rw [hV]
    refine wpIn_mono (hbody (w.heap.size + 1) pre x a' V (Nat.le_succ _) ⟨_, v2⟩ vI vE hx) ?_
    rintro (_ | _ | _ | _ | _ | _) a3 Z hz
    case normal =>
      obtain ⟨z1, z2, z3⟩ := hz
      have l3 := z1.same _ _ (by omega) v2 rfl
      exact ⟨_, _, run_endRound (P := P) none l3, .inl ⟨rfl, ⟨hI.putObj _ z3 (by omega) l3 rfl, World.putObj_heap_same (Array.getElem?_eq_some_iff.1 l3).1, (World.putObj_heap_other (by omega)).trans (z1.same _ _ (Nat.le_refl _) v3 rfl)⟩, hKt (hKt vK z2) (hKb _ _ _ _ (by omega) l3 rfl)⟩⟩
    case ret =>
      obtain ⟨z1, z3⟩ := hz
      have l3 := z1.same _ _ (by omega) v2 rfl
      exact ⟨_, _, run_endRound (P := P) (some .ret) l3, .inr ⟨rfl, hIx.putObj _ z3 (by omega) l3 rfl, World.putObj_heap_same (Array.getElem?_eq_some_iff.1 l3).1, (World.putObj_heap_other (by omega)).trans (z1.same _ _ (Nat.le_refl _) v3 rfl)⟩⟩
    all_goals exact hz.elim
  · rintro s X Y row ⟨s1, s2, s3⟩ hg' hr
    exact ⟨hIx s X Y row s1 hg' (cells (Y := Y) hr), walk hg' hr s2 (by omega), walk hg' hr s3 (by omega)⟩
  · rintro e Z ⟨⟨v, rfl⟩, (⟨xs, hS, z1, z2, z3⟩ | ⟨pre, z1, z2, z3⟩)⟩
    · exact ⟨none, _, run_endLoop (P := P) z2 (by simp [R]), hdone _ xs _ (Nat.le_refl _) hS (hI.putObj _ z1 (by omega) z2 rfl) ((World.putObj_heap_other (by omega)).trans z3)⟩
    · exact ⟨some .ret, _, run_endLoop (P := P) z2 (by simp [R]), hstop _ pre _ (Nat.le_refl _) (hIx.putObj _ z1 (by omega) z2 rfl) ((World.putObj_heap_other (by omega)).trans z3)⟩
end Go.Stops
namespace Go.Each
open Go Go.RowKit
variable {F : Fence} {n : Nat} {P : Program}
def GivesB {α : Type} (F : Fence) (n : Nat) (P : Program) (g : Nat) (ba lb : Array Value) (encs : α → Array Value) (E : α → World → Prop) (Kp : World → World → Prop) (S : List α → Prop) (N : Nat) (w : World) : Prop :=
  ∀ (l : Nat) (J : List α → World → Prop) (W : World), Below w.heap.size w W → AbidesFrom W.heap.size J →
    (∀ pre x W1, J pre W1 → E x W1 → pre.length < N → YieldAt F (n - 1) P l (encs x) W1 fun e W' => e = .returned (.bool true) ∧ J (pre ++ [x]) W' ∧ Kp W1 W') →
    J [] W → CallsIn F n P g (ba ++ #[.func (.yield l) #[] #[]] ++ lb) W fun e W' => (∃ v, e = .returned v) ∧ ∃ xs, S xs ∧ J xs W'
theorem wpIn_eachN {α : Type} {g : Operand} {ps : Array Tmp} {assign body : Code} {Q : Exit → Act → World → Prop} {a : Act} {w : World} {l₀ : Nat} {r₀ : Loop} (hro : F.round = some l₀) (hl₀ : w.heap[l₀]? = some (.loop r₀)) (h1 : 1 ≤ n)
    {gf : Nat} {ba lb : Array Value} (hg : a.eval g = .func (.func gf) ba lb) (hFg : F.fn gf) (eg : ∀ args w, (callFunc gf args).run P w = .ok (.enter gf args) w)
    {encs : α → Array Value} {E : α → World → Prop} {Kp : World → World → Prop} {S : List α → Prop} {N : Nat} (hseq : GivesB F (n - 1) P gf ba lb encs E Kp S N w)
    (hKt : ∀ {A B C : World}, Kp A B → Kp B C → Kp A C) (hKb : ∀ (W : World) (l : Nat) (o o' : Obj), w.heap.size ≤ l → W.heap[l]? = some o → o.isCells = false → Kp W (W.putObj l o')) (hps : ∀ x, (encs x).size = ps.size)
    (I : List α → World → Prop) (hI : OwnFrom w.heap.size I) (h0 : I [] w) (Ax : α → Act → World → Prop) (hAx : ∀ x, OwnFrom w.heap.size (Ax x))
    (hassign : ∀ (l : Nat) (pre : List α) (x : α) (W : World) (K : Act → World → Prop), I pre W → E x W → (∀ a' W', KeepsFrom w.heap.size W W' → Kp W W' → I pre W' → Ax x a' W' → K a' W') →
      assign.wpIn (F.inRound l) (n - 1 - 1) P (Exit.then K (fun _ _ _ => False)) { tmps := (ps.zip (encs x)).foldl (fun t (p, v) => t.setIfInBounds p v) a.tmps, defers := [] } W)
    (hbody : ∀ (l : Nat) (pre : List α) (x : α) (a' : Act) (W : World), I pre W → Ax x a' W → pre.length < N → body.wpIn (F.inRound l) (n - 1 - 1) P (goesOn fun W' => KeepsFrom w.heap.size W W' ∧ Kp W W' ∧ I (pre ++ [x]) W') a' W)
    (hdone : ∀ (xs : List α) (W : World), S xs → I xs W → Q .normal a W) :
    (Code.rangeFunc g ps assign body).wpIn F n P Q a w := by
  refine wpIn_rangeFunc fun fn hfn => ?_
  rw [hro]
  let R : LoopState → Loop := fun st => { state := st, pending := none, fn := fn, tmps := a.tmps, params := ps, assign := assign, body := body, defers := r₀.defers }
  let B : World := w.alloc (.loop (R .ready))
  have bL : B.heap[w.heap.size]? = some (.loop (R .ready)) := World.alloc_heap_new w _
  have bI : I [] B := hI.alloc _ h0
  have bB : Below w.heap.size w B := (Below.refl _ w).alloc (Nat.le_refl _) _
  have bz : B.heap.size = w.heap.size + 1 := by simp [B]
  refine ⟨w.heap.size, [], B, { target := .fn (.func gf) lb, args := ba ++ #[.func (.yield w.heap.size) #[] #[]] }, B, gf, ba ++ #[.func (.yield w.heap.size) #[] #[]] ++ lb, B,
    run_enterLoop_inner hl₀ _ _ _ _ _, by simp only [resolve, hg]; simp [go_sem], fun f' hf' => by simp [Target.leads] at hf'; subst hf'; exact hFg, by simp [invoke, go_sem, eg], fun _ => h1, ?_⟩
  refine (hseq w.heap.size (fun pre W => I pre W ∧ W.heap[w.heap.size]? = some (.loop (R .ready))) B bB ?_ ?_ ⟨bI, bL⟩).mono ?_
  · rintro s X Y row ⟨s1, s2⟩ hg' hr
    have hc : ∀ r, row = some r → ∃ o : Obj, X.heap[r]? = some o ∧ o.isWalk = true := fun r e => (hr r e).2
    refine ⟨hI s X Y row s1 hg' fun r e => ?_, (grownBy_keeps hg' hc s2 rfl).trans s2⟩
    obtain ⟨k1, o, k2, k3⟩ := hr r e
    exact ⟨by omega, o, k2, Obj.not_cells_of_walk k3⟩
  · rintro pre x W ⟨s1, s2⟩ hx hlen
    refine ⟨fn, _, assign, body, run_yield (P := P) (args := encs x) s2 (hps x), roundIn_of_wpIn hfn (hassign _ pre x W _ s1 hx fun a' U u1 uK uI uA => ?_)⟩
    have u2 := u1.same _ _ (Nat.le_refl _) s2 rfl
    have hlu : w.heap.size < U.heap.size := (Array.getElem?_eq_some_iff.1 u2).1
    refine ⟨_, run_beginRound u2 rfl, ?_⟩
    obtain ⟨V, hV⟩ : ∃ V, U.putObj w.heap.size (.loop { R .ready with state := .busy }) = V := ⟨_, rfl⟩
    have v2 : V.heap[w.heap.size]? = some (.loop { R .ready with state := .busy }) := hV ▸ World.putObj_heap_same hlu
    have vI : I pre V := hV ▸ hI.putObj _ uI (Nat.le_refl _) u2 rfl
    have vE : Ax x a' V := hV ▸ (hAx x).putObj _ uA (Nat.le_refl _) u2 rfl
    have vK : Kp W V := hKt uK (hV ▸ hKb _ _ _ _ (Nat.le_refl _) u2 rfl)
    show body.wpIn _ _ _ _ _ (U.putObj w.heap.size (.loop { R .ready with state := .busy }))
    rw [hV]
    refine wpIn_mono (hbody _ pre x a' V vI vE hlen) ?_
    rintro (_ | _ | _ | _ | _ | _) a3 Z hz
    case normal =>
      obtain ⟨z1, z2, z3⟩ := hz
      have l3 := z1.same _ _ (Nat.le_refl _) v2 rfl
      refine ⟨_, _, run_endRound (P := P) none l3, rfl, ⟨hI.putObj _ z3 (Nat.le_refl _) l3 rfl, World.putObj_heap_same (Array.getElem?_eq_some_iff.1 l3).1⟩, hKt (hKt vK z2) (hKb _ _ _ _ (Nat.le_refl _) l3 rfl)⟩
    all_goals exact hz.elim
  · rintro e Z ⟨⟨v, rfl⟩, xs, hS, z1, z2⟩
    exact ⟨none, _, run_endLoop (P := P) z2 (by simp [R]), hdone xs _ hS (hI.putObj _ z1 (Nat.le_refl _) z2 rfl)⟩
end Go.Each
namespace Go.Proofs.YtbbpkoaeedkncaaGreatDoor
open Go.RowKit Go.Shelf
attribute [local go_sem] Oper.semAt_some
def nxtG (open_ f : Int) : Int := bits .and .u8 (IntKind.u8.wrap (f - open_)) open_
def opsG (ones open_ : Int) : Nat → Int → List Int
  | 0, _ => []
  | k + 1, f => bits .or .u8 ones f :: (if f = open_ then [] else opsG ones open_ k (nxtG open_ f))
def okG (ones open_ : Int) : Nat → Int → Bool
  | 0, _ => false
  | k + 1, f => decide (0 ≤ bits .or .u8 ones f) && decide (bits .or .u8 ones f ≤ 255) && (decide (f = open_) || okG ones open_ k (nxtG open_ f))
def opsP (p : Pat) : List Int := opsG (opnF p.1).1 (opnF p.1).2 256 0
def okP (p : Pat) : Bool := okG (opnF p.1).1 (opnF p.1).2 256 0
theorem opsG_fuel (ones open_ : Int) : ∀ (k m : Nat) (v : Int), okG ones open_ k v = true → k ≤ m → opsG ones open_ m v = opsG ones open_ k v
  | 0, m, v, h, _ => by cases h
  | k + 1, 0, v, _, hm => by omega
  | k + 1, m + 1, v, h, hm => by
    unfold okG at h
    simp only [Bool.and_eq_true, Bool.or_eq_true, decide_eq_true_eq] at h
    unfold opsG
    by_cases e : v = open_
    · rw [if_pos e, if_pos e]
    · rw [if_neg e, if_neg e, opsG_fuel ones open_ k m _ (h.2.resolve_left e) (by omega)]
theorem opsG_less (ones open_ : Int) (k : Nat) (v : Int) (h : okG ones open_ (k + 1) v = true) (e : v ≠ open_) (hk : k + 1 ≤ 256) : (opsG ones open_ 256 (nxtG open_ v)).length < (opsG ones open_ 256 v).length := by
  have h2 := h
  unfold okG at h2
  simp only [Bool.and_eq_true, Bool.or_eq_true, decide_eq_true_eq] at h2
  rw [opsG_fuel ones open_ (k + 1) 256 v h hk, opsG_fuel ones open_ k 256 _ (h2.2.resolve_left e) (by omega)]
  show _ < (_ :: _).length
  rw [if_neg e]
  exact Nat.lt_succ_self _
theorem opcodes_gives (n : Nat) (p : Pat) (h8 : p.1.length = 8) (hok : okP p = true) (w : World) :
    Each.GivesB Fence.wide n Tryz.prog 145 #[.agg #[.string (sB p.1), .string (sB p.2)]] #[] (fun x : Int => #[.int .u8 x]) (fun x _ => 0 ≤ x ∧ x ≤ 255) (fun _ _ => True) (fun xs => xs = opsP p) 256 w := fun lp J W hW hJ hY h0 => by
  have hJb : ∀ (z : List Int) (X Y : World), J z X → Below X.heap.size X Y → J z Y := fun z X Y h hb => hJ z X Y none h ⟨hb.os, hb.tape, hb.output, hb.size, fun i hi _ => hb.block i hi⟩ (fun r e => by cases e)
  have hm := fun o => masks_any p.1 p.2 h8 (W.alloc o)
  obtain ⟨ones, ho⟩ : ∃ z, (opnF p.1).1 = z := ⟨_, rfl⟩
  obtain ⟨op, hop⟩ : ∃ z, (opnF p.1).2 = z := ⟨_, rfl⟩
  have OP : Hid (opsP p = opsG ones op 256 0) := by show opsP p = _; unfold opsP; rw [ho, hop]
  have OK : Hid (okG ones op 256 0 = true) := by show _ = _; rw [← hok]; unfold okP; rw [ho, hop]
  rw [ho, hop] at hm
  have HY := Lib.hid hY
  have HJb := Lib.hid hJb
  have J0 : Hid (∀ o, J [] (W.alloc o)) := fun o => hJb _ _ _ h0 ((Below.refl _ _).alloc (Nat.le_refl _) o)
  clear h0 hY hJb hJ hW ho hop hok h8
  refine callsIn_wide.2 ?_
  show Calls Tryz.prog 145 #[.agg #[.string (sB p.1), .string (sB p.2)], .func (.yield lp) #[] #[]] W _
  go_enter Tryz.func145, Tryz.ntmps145
  go_wp2_with fail
  refine (hm _).mono ?_
  rintro e w1 ⟨rfl, hb1⟩
  have J1 := Lib.hid (HJb.out _ _ _ (J0.out _) hb1)
  clear hm hb1 J0
  go_upto_region 2 with fail
  go_wp2
  go_loopw [6] (fun f wr => ∃ (pre : List Int) (k : Nat) (v : Int), f = .int .u8 v ∧ Hid (okG ones op k v = true) ∧ Hid (pre ++ opsG ones op k v = opsP p) ∧ Hid (pre.length + k = 256) ∧ Hid (J pre wr) ) (fun f _ => (opsG ones op 256 (intOf f)).length)
  case atStart => exact ⟨[], 256, 0, rfl, OK.out, OP.out.symm, rfl, J1.out⟩
  case round =>
    clear J1 OP OK
    obtain ⟨pre, k, v, rfl, OK, EQ, LEN, JJ⟩ := hrel
    cases k with
    | zero => exact absurd OK.out (by unfold okG; decide)
    | succ k =>
      have OK2 : Hid ((0 ≤ bits .or .u8 ones v ∧ bits .or .u8 ones v ≤ 255) ∧ (v = op ∨ okG ones op k (nxtG op v) = true)) := by
        have h := OK.out
        unfold okG at h
        simp only [Bool.and_eq_true, Bool.or_eq_true, decide_eq_true_eq] at h
        exact h
      have hyd := HY.out pre (bits .or .u8 ones v) wr JJ.out OK2.out.1 (by have := LEN.out; omega)
      obtain ⟨fn, tmps, assign, body, hy, hR⟩ := hyd
      have LS := Lib.hid (opsG_less ones op k v OK.out)
      have LK : Hid (k + 1 ≤ 256) := (by have := LEN.out; omega : k + 1 ≤ 256)
      have EQ2 : Hid (pre ++ bits .or .u8 ones v :: (if v = op then [] else opsG ones op k (nxtG op v)) = opsP p) := EQ.out
      have LEN2 : Hid ((pre ++ [bits .or .u8 ones v]).length + k = 256) := by show _ = _; rw [List.length_append]; have := LEN.out; simp; omega
      clear EQ OK JJ LEN
      go_upto_region 3 with fail
      refine (wpIn_wide (n := n)).1 ?_
      gi_wp2
      refine ⟨fun h => (by cases h), hR.mono ?_⟩
      rintro e3 W3 ⟨rfl, hJ3, -⟩
      have J3 := Lib.hid hJ3
      clear hJ3 hR hy
      by_cases hv : v = op
      · have EN : Hid (pre ++ [bits .or .u8 ones v] = opsP p) := by show _ = _; rw [← EQ2.out, if_pos hv]
        have hb : (v == op) = true := by rw [hv]; exact beq_self_eq_true _
        clear hv EQ2 LS
        gi_wp2
        go_wp2
        go_end0
        exact ⟨⟨_, rfl⟩, _, EN.out, J3.out⟩
      · have hb : (v == op) = false := by simpa using hv
        have OK3 : Hid (okG ones op k (nxtG op v) = true) := OK2.out.2.resolve_left hv
        have EN : Hid ((pre ++ [bits .or .u8 ones v]) ++ opsG ones op k (nxtG op v) = opsP p) := by show _ = _; rw [← EQ2.out, if_neg hv, List.append_assoc]; rfl
        have LS2 := Lib.hid (LS.out hv LK.out)
        clear hv EQ2 LS OK2
        gi_wp2
        go_wp2
        go_roundw
        case rel => exact ⟨pre ++ [bits .or .u8 ones v], k, nxtG op v, rfl, OK3.out, EN.out, LEN2.out, J3.out⟩
        case measure => exact LS2.out
end Go.Proofs.YtbbpkoaeedkncaaGreatDoor
namespace Go.Proofs.YtbbpkoaeedkncaaGreatDoor
open Go.RowKit Go.Shelf
def Box (w : World) (b : Nat) (k r n : Int) : Prop := w.cell? ⟨b, 0, none⟩ = some (.int .i64 k) ∧ w.cell? ⟨b, 1, none⟩ = some (.int .i64 r) ∧ w.cell? ⟨b, 2, none⟩ = some (.int .i64 n)
theorem Box.new (w : World) (k r n : Int) (t : TypeId) : Box (w.alloc (.cells #[.int .i64 k, .int .i64 r, .int .i64 n] t)) w.heap.size k r n := ⟨by simp [go_sem], by simp [go_sem], by simp [go_sem]⟩
theorem Box.below {w w' : World} {b : Nat} {k r n : Int} (h : Box w b k r n) (hb : Below w.heap.size w w') : Box w' b k r n :=
  ⟨(hb.cell (World.block_lt_of_cell? w _ h.1)).trans h.1, (hb.cell (World.block_lt_of_cell? w _ h.2.1)).trans h.2.1, (hb.cell (World.block_lt_of_cell? w _ h.2.2)).trans h.2.2⟩
def RetIx (w : World) (L : List Tr) (t : Tr) (e : Ending) (w' : World) : Prop :=
  ((t ∉ L ∧ e = .returned (.int .i64 (-1))) ∨ ∃ j : Nat, (∃ h : j < L.length, L[j] = t) ∧ (∀ k, k < j → ∀ (a : k < L.length), L[k] ≠ t) ∧ e = .returned (.int .i64 j)) ∧ Below w.heap.size w w'
def RetIb (w : World) (q : Bool) (e : Ending) (w' : World) : Prop := ∃ i : Int, e = .returned (.int .i64 i) ∧ decide (0 ≤ i) = q ∧ Below w.heap.size w w'
theorem retIb {w w' : World} {L : List Tr} {t : Tr} {e : Ending} (h : RetIx w L t e w') : RetIb w (decide (t ∈ L)) e w' := by
  obtain ⟨h | ⟨j, ⟨hj, he⟩, -, rfl⟩, hb⟩ := h
  · exact ⟨-1, h.2, by rw [decide_eq_false h.1]; rfl, hb⟩
  · have hm : t ∈ L := by rw [← he]; exact List.getElem_mem hj
    exact ⟨j, rfl, (decide_eq_true (by omega)).trans (decide_eq_true hm).symm, hb⟩
theorem indexO_any (A : Option Addr) (c : Nat) (L : List Tr) (hL : L.length ≤ maxLen) (t : Tr) (w : World) (H : OpsP w A L) :
    Calls Tryz.prog 113 #[.slice A L.length c, .agg #[.int .i64 t.1, .int .i64 t.2.1, .int .i64 t.2.2]] w (RetIx w L t) := by
  unfold maxLen at hL
  obtain ⟨t0, t1, t2⟩ := t
  simp only
  have hal : Below w.heap.size w (w.alloc (.cells #[.int .i64 t0, .int .i64 t1, .int .i64 t2] 68)) := (Below.refl _ _).alloc (Nat.le_refl _) _
  have X := Lib.hid (H.below hal)
  have B0 := Lib.hid hal
  have TB := Lib.hid (Box.new w t0 t1 t2 68)
  obtain ⟨wa, hwa⟩ : ∃ wa, w.alloc (.cells #[.int .i64 t0, .int .i64 t1, .int .i64 t2] 68) = wa := ⟨_, rfl⟩
  rw [hwa] at X B0 TB
  have HWA := Lib.hid hwa
  clear H hal hwa
  obtain ⟨n, hn⟩ : ∃ n, L.length = n := ⟨_, rfl⟩
  have HN := Lib.hid hn
  rw [hn] at hL ⊢
  clear hn
  go_enter Tryz.func113, Tryz.ntmps113
  go_wp2
  rw [HWA.out]
  go_loopw [8] (fun i wr => ∃ j : Nat, j ≤ n ∧ i = .int .i64 j ∧ Hid (∀ k, k < j → ∀ (a : k < L.length), L[k] ≠ (t0, t1, t2)) ∧ Hid (Below wa.heap.size wa wr)) (fun i _ => n - (intOf i).toNat)
  case atStart => exact ⟨0, Nat.zero_le _, rfl, fun k h => by omega, Below.refl _ _⟩
  case round =>
    obtain ⟨j, hj, rfl, R, B⟩ := hrel
    obtain ⟨z0, z1, z2⟩ := TB.out.below B.out
    by_cases hlt : j < n
    · have hj1 : j < L.length := by have := HN.out; omega
      obtain ⟨b1, o1, hA1, -, p0, p1, p2⟩ := (X.out.below B.out).at_ hj1
      subst hA1
      have B2 := fun q => Lib.hid (B0.out.trans ((B.out.trans (below_drewN wr wa.heap.size q)).mono B0.out.size))
      have B3 := fun q => Lib.hid (B.out.trans (below_drewN wr wa.heap.size q))
      by_cases he : L[j] = (t0, t1, t2)
      · have FD : Hid ((∃ h : j < L.length, L[j] = (t0, t1, t2)) ∧ ∀ k, k < j → ∀ (a : k < L.length), L[k] ≠ (t0, t1, t2)) := ⟨⟨hj1, he⟩, R.out⟩
        rw [he] at p0 p1 p2
        simp only at p0 p1 p2
        clear he hj1 R
        go_wp2
        go_quiet (fail)
        go_wp2
        go_ret
        exact ⟨.inr ⟨j, FD.out.1, FD.out.2, rfl⟩, (B2 _).out⟩
      · have R2 : Hid (∀ k, k < j + 1 → ∀ (a : k < L.length), L[k] ≠ (t0, t1, t2)) := fun k hk a => by
          by_cases e : k = j
          · subst e; exact he
          · exact R.out k (by omega) a
        have hne := tr_ne (fun e => he e.symm)
        obtain ⟨⟨x0, x1, x2⟩, hx⟩ : ∃ x, L[j] = x := ⟨_, rfl⟩
        rw [hx] at p0 p1 p2 hne
        simp only at p0 p1 p2 hne
        clear he hx hj1 R
        have d0 : x0 = t0 → t0 = x0 := fun h => h.symm
        clear d0
        rcases hne with hne | ⟨e1, hne⟩ | ⟨e1, e2, hne⟩
        · go_wp2
          go_quiet (fail)
          go_wp2
          go_roundw
          case rel => exact ⟨j + 1, by omega, by go_num, R2.out, (B3 _).out⟩
          case measure => simp [intOf]; omega
        · subst e1
          go_wp2
          go_quiet (fail)
          go_wp2
          go_roundw
          case rel => exact ⟨j + 1, by omega, by go_num, R2.out, (B3 _).out⟩
          case measure => simp [intOf]; omega
        · subst e1
          subst e2
          go_wp2
          go_quiet (fail)
          go_wp2
          go_roundw
          case rel => exact ⟨j + 1, by omega, by go_num, R2.out, (B3 _).out⟩
          case measure => simp [intOf]; omega
    · have T : Hid ((t0, t1, t2) ∉ L) := fun hm => by
        obtain ⟨k, hk, he⟩ := List.getElem_of_mem hm
        exact R.out k (by have := HN.out; omega) hk he
      have B2 := Lib.hid (B0.out.trans (B.out.mono B0.out.size))
      clear R
      go_wp2
      go_ret
      exact ⟨.inl ⟨T.out, rfl⟩, B2.out⟩
theorem containsO_any (A : Option Addr) (c : Nat) (L : List Tr) (hL : L.length ≤ maxLen) (t : Tr) (w : World) (H : OpsP w A L) :
    Calls Tryz.prog 115 #[.slice A L.length c, .agg #[.int .i64 t.1, .int .i64 t.2.1, .int .i64 t.2.2]] w fun e w' => e = .returned (.bool (decide (t ∈ L))) ∧ Below w.heap.size w w' := by
  obtain ⟨t0, t1, t2⟩ := t
  have hal : Below w.heap.size w (w.alloc (.cells #[.int .i64 t0, .int .i64 t1, .int .i64 t2] 68)) := (Below.refl _ _).alloc (Nat.le_refl _) _
  have IX := Lib.hid (indexO_any A c L hL (t0, t1, t2) _ (H.below hal))
  have B0 := Lib.hid hal
  have IX2 := Lib.hid (IX.out.mono (R' := fun e w' => RetIb (w.alloc (.cells #[.int .i64 t0, .int .i64 t1, .int .i64 t2] 68)) (decide ((t0, t1, t2) ∈ L)) e w') (fun e w' h => retIb h))
  clear IX
  obtain ⟨q, hq⟩ : ∃ q, decide ((t0, t1, t2) ∈ L) = q := ⟨_, rfl⟩
  rw [hq] at IX2 ⊢
  clear hal H hq
  go_enter Tryz.func115, Tryz.ntmps115
  go_wp2_with fail
  refine IX2.out.mono ?_
  rintro e w1 ⟨i, rfl, hi, hb⟩
  have N := Lib.hid (B0.out.trans (hb.mono B0.out.size))
  have T := Lib.hid hi
  clear hb hi
  go_wp2
  go_ret
  exact ⟨ret_bool T.out, N.out⟩
end Go.Proofs.YtbbpkoaeedkncaaGreatDoor
