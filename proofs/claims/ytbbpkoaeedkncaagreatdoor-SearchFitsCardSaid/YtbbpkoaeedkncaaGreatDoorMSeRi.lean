/-
  The reference's Values.
-/
import Derived.Test.YtbbpkoaeedkncaaGreatDoorMSeRe
import Derived.Test.YtbbpkoaeedkncaaGreatDoorGAW
import Derived.Test.YtbbpkoaeedkncaaGreatDoorMSeVa
set_option linter.all false
set_option maxRecDepth 100000
set_option maxHeartbeats 4000000
namespace Go.Proofs.YtbbpkoaeedkncaaGreatDoor
open Go.RowKit Go.Shelf
attribute [local go_sem] Oper.semAt_some
def RetVals (w : World) (v : Int × Int) (e : Ending) (w' : World) : Prop := e = .returned (.tuple #[.int .i64 v.1, .int .i64 v.2]) ∧ Below w.heap.size w w'
theorem rvalues_any (page op : Int) (m : Str) (A : Option Addr) (cap l : Nat) (L : List Tr) (hl : L.length = l) (hL : l ≤ 1000) (ex : Str) (hx : ex.length ≤ 1000) (al : Bool) (s : ByteArray) (Ai : Option Addr) (capi li : Nat) (I : List Tr) (hli : I.length = li) (hLi : li ≤ 900) (w : World) (H : OpsP w A L) (HF : OpsP w Ai I) :
    Calls Tryz.prog 12 #[enV page op m (.slice A l cap) ex al, .agg #[.string s, .slice Ai li capi]] w (RetVals w (if fitsR m L ex s (canL (opc s) I) = true then valR ex L (canL (opc s) I) (canL (opc s) I).length else (0, 0))) := by
  have hcl := canL_len (opc s) I
  have hof := fun w h => rof_any s Ai capi I (by omega) w h
  have hfi := fun w' h1 h2 => rfits10_any page op m A cap l L hl hL ex hx al s Ai capi li I hli hLi w' h1 h2
  rw [hli] at hof
  obtain ⟨C, hC⟩ : ∃ C, canL (opc s) I = C := ⟨_, rfl⟩
  rw [hC] at hof hfi hcl ⊢
  obtain ⟨lc, hlc⟩ : ∃ z, C.length = z := ⟨_, rfl⟩
  rw [hlc] at hcl ⊢
  have HLC := Lib.hid hlc
  obtain ⟨q, hq⟩ : ∃ z, fitsR m L ex s C = z := ⟨_, rfl⟩
  rw [hq] at hfi ⊢
  have QS : Hid (q = true → L.length = C.length) := fun h => by
    rw [← hq] at h
    unfold fitsR shpR at h
    simp only [Bool.and_eq_true, decide_eq_true_eq] at h
    exact len_of_shape h.1.2
  obtain ⟨v, hv⟩ : ∃ z, (if q = true then valR ex L C lc else (0, 0)) = z := ⟨_, rfl⟩
  rw [hv]
  have HV := Lib.hid hv
  have OF := Lib.hid hof
  clear hof hC hq hv hlc
  unfold enV
  obtain ⟨w0, hw0⟩ : ∃ z, (w.alloc (.cells #[.int .i64 page, .int .u8 op, .string (sB m), .slice A l cap, .string (sB ex), .bool al] 29)).alloc (.cells #[.string s, .slice Ai li capi] 24) = z := ⟨_, rfl⟩
  obtain ⟨n, hn⟩ : ∃ z, w.heap.size = z := ⟨_, rfl⟩
  have b0 : Below w.heap.size w w0 := by rw [← hw0]; exact ((Below.refl _ w).alloc (Nat.le_refl _) _).alloc (by simp) _
  have z0 : w0.heap.size = n + 1 + 1 := by rw [← hw0, ← hn]; simp
  have c0 : w0.heap[n]? = some (.cells #[.int .i64 page, .int .u8 op, .string (sB m), .slice A l cap, .string (sB ex), .bool al] 29 (0, 0)) := by rw [← hw0, ← hn]; exact (Below.heap_alloc _ _ _ (by simp)).trans (World.alloc_heap_new w _)
  have c1 : w0.heap[n + 1]? = some (.cells #[.string s, .slice Ai li capi] 24 (0, 0)) := by
    rw [← hw0, ← hn]
    have h := World.alloc_heap_new (w.alloc (.cells #[.int .i64 page, .int .u8 op, .string (sB m), .slice A l cap, .string (sB ex), .bool al] 29)) (.cells #[.string s, .slice Ai li capi] 24)
    rwa [World.size_alloc] at h
  have BB : Hid (Below n w w0) := by rw [← hn]; exact b0
  have HN := Lib.hid hn
  have Z0 := Lib.hid z0
  have PL := Lib.hid (H.below b0)
  have PI := Lib.hid (HF.below b0)
  have fi := hfi w0 PL.out PI.out
  simp only [enV] at fi
  have C0 := Lib.hid c0
  have C1 := Lib.hid c1
  have k0 := Lib.cell_of_heap c0 0
  have k1 := Lib.cell_of_heap c0 1
  have k2 := Lib.cell_of_heap c0 2
  have k3 := Lib.cell_of_heap c0 3
  have k4 := Lib.cell_of_heap c0 4
  have k5 := Lib.cell_of_heap c0 5
  have j0 := Lib.cell_of_heap c1 0
  have j1 := Lib.cell_of_heap c1 1
  clear H HF b0 c0 c1 z0 hfi
  go_enter Tryz.func12, Tryz.ntmps12
  go_wp2_with fail
  refine fi.mono ?_
  rintro e w1 ⟨rfl, hb⟩
  have B1 : Hid (Below n w w1) := BB.out.trans (hb.mono (by have := Z0.out; omega))
  have KK : Hid (w1.heap[n]? = some (.cells #[.int .i64 page, .int .u8 op, .string (sB m), .slice A l cap, .string (sB ex), .bool al] 29 (0, 0)) ∧ w1.heap[n + 1]? = some (.cells #[.string s, .slice Ai li capi] 24 (0, 0))) := ⟨(hb.block n (by have := Z0.out; omega)).trans C0.out, (hb.block (n + 1) (by have := Z0.out; omega)).trans C1.out⟩
  have P1 := Lib.hid (PL.out.below hb)
  have Q1 := Lib.hid (PI.out.below hb)
  have Z1 : Hid (n + 2 ≤ w1.heap.size) := by have := hb.size; have := Z0.out; show _ ≤ _; omega
  clear hw0 k0 k1 k2 k3 k4 k5 j0 j1 C0 C1 PL PI
  cases q with
  | false =>
    clear fi hb
    go_wp2
    refine bodyPost_ret (v := .tuple #[.int .i64 0, .int .i64 0]) ?_ rfl ?_
    · simp [results, Tryz.results12, go_sem]
    · exact ⟨by rw [← HV.out]; rfl, by rw [HN.out]; exact B1.out⟩
  | true =>
    have of1 := OF.out w1 Q1.out
    have j0 := Lib.cell_of_heap KK.out.2 0
    have j1 := Lib.cell_of_heap KK.out.2 1
    clear fi hb OF
    go_wp2_with fail
    refine of1.mono ?_
    rintro e w2 ⟨v9, rfl, hO, hb⟩
    obtain ⟨Ac, cc, rfl, hPc, -, -⟩ := hO.ops
    rw [HLC.out]
    have B2 : Hid (Below n w w2) := B1.out.trans (hb.mono (by have := Z1.out; omega))
    have K2 := Lib.hid ((hb.block n (by have := Z1.out; omega)).trans KK.out.1)
    have P2 := Lib.hid (P1.out.below hb)
    have R2 := Lib.hid hPc
    have Z2 : Hid (n + 2 ≤ w2.heap.size) := Nat.le_trans Z1.out hb.size
    clear of1 hb hO hPc B1 P1 Q1 Z1 j0 j1
    go_upto_region 4 with fail
    obtain ⟨b, hbs⟩ : ∃ c, w2.heap.size = c := ⟨_, rfl⟩
    obtain ⟨w3, hw3, y1, y2, y3⟩ := ins_box w2 s (.slice Ac lc cc) b hbs
    rw [hw3, hbs]
    have B3 : Hid (Below n w w3) := B2.out.trans (y2.mono (by have := Z2.out; omega))
    have K3 := Lib.hid ((y2.block n (by have := Z2.out; omega)).trans K2.out)
    have P3 := Lib.hid (P2.out.below y2)
    have R3 := Lib.hid (R2.out.below y2)
    have Z3 : Hid (n + 2 ≤ w3.heap.size ∧ b < w3.heap.size) := by have := Z2.out; exact ⟨by omega, by omega⟩
    have Y3 := Lib.hid y1
    clear hw3 hbs y1 y2 y3 B2 K2 P2 R2 Z2
    go_wp2
    go_loopw [7, 8, 9] (fun d q k wr => ∃ (j : Nat) (x y : Int), j ≤ lc ∧ k = .int .i64 j ∧ d = .int .i64 x ∧ q = .int .i64 y ∧ Hid (valR ex L C j = (x, y)) ∧ Hid (Below w3.heap.size w3 wr)) (fun _ _ k _ => lc - (intOf k).toNat)
    case atStart => exact ⟨0, 0, 0, Nat.zero_le _, rfl, rfl, rfl, rfl, Below.refl _ _⟩
    case round =>
      obtain ⟨j, x, y, hj, rfl, rfl, rfl, V, B⟩ := hrel
      have d1 := (B.out.block b Z3.out.2).trans Y3.out
      have j1 := Lib.cell_of_heap d1 1
      by_cases hlt : j < lc
      · have d0 := (B.out.block n (by have := Z3.out.1; omega)).trans K3.out
        have k0 := Lib.cell_of_heap d0 0
        have k1 := Lib.cell_of_heap d0 1
        have k2 := Lib.cell_of_heap d0 2
        have k3 := Lib.cell_of_heap d0 3
        have k4 := Lib.cell_of_heap d0 4
        have k5 := Lib.cell_of_heap d0 5
        have hjl : j < l := by have h1 := QS.out (by simp); have h2 := HLC.out; omega
        have hjC : j < C.length := by have h2 := HLC.out; omega
        have lt := letter_any page op m A cap l L hl hL ex hx al j hjl wr (P3.out.below B.out)
        simp only [enV] at lt
        have D1 := Lib.hid d1
        have RR := Lib.hid (R3.out.below B.out)
        clear d0 d1
        go_wp2_with fail
        refine lt.mono ?_
        rintro e wx ⟨rfl, hb⟩
        have BX : Hid (Below w3.heap.size w3 wx) := B.out.trans (hb.mono B.out.size)
        have d1 := (BX.out.block b Z3.out.2).trans Y3.out
        have j1 := Lib.cell_of_heap d1 1
        obtain ⟨b2, o2, rfl, -, q0, q1, q2⟩ := (R3.out.below BX.out).at_ hjC
        have g2 : C.getD j tr0 = C[j] := by rw [List.getD_eq_getElem?_getD, List.getElem?_eq_getElem hjC]; rfl
        rw [← g2] at q2
        obtain ⟨yn, hyn⟩ : ∃ z, (C.getD j tr0).2.2 = z := ⟨_, rfl⟩
        rw [hyn] at q2
        have HY := Lib.hid hyn
        clear hb d1 g2 q0 q1 hyn hjC k0 k1 k2 k3 k4 k5 B D1 RR
        rcases letR_cases ex L j with hv9 | hv9 | hv9 | hv9 | hv9
        · have e9 : letR ex L j = 100 := hv9
          rw [hv9]
          simp only [show ((100 : UInt8).toNat : Int) = 100 from rfl]
          have V2 : Hid (valR ex L C (j + 1) = (yn, y)) := by show valR ex L C (j + 1) = _; unfold valR; rw [if_pos e9]; simp only [V.out, HY.out]
          clear V lt
          go_wp2
          go_roundw
          case rel => exact ⟨j + 1, yn, y, by omega, by go_num, rfl, rfl, V2.out, BX.out⟩
          case measure => simp [intOf]; omega
        · have e9 : letR ex L j = 101 := hv9
          rw [hv9]
          simp only [show ((101 : UInt8).toNat : Int) = 101 from rfl]
          have V2 : Hid (valR ex L C (j + 1) = (x, yn)) := by show valR ex L C (j + 1) = _; unfold valR; rw [if_neg (by rw [e9]; decide), if_neg (by rw [e9]; decide)]; simp only [V.out, HY.out]
          clear V lt
          go_wp2
          go_roundw
          case rel => exact ⟨j + 1, x, yn, by omega, by go_num, rfl, rfl, V2.out, BX.out⟩
          case measure => simp [intOf]; omega
        · have e9 : letR ex L j = 110 := hv9
          rw [hv9]
          simp only [show ((110 : UInt8).toNat : Int) = 110 from rfl]
          have V2 : Hid (valR ex L C (j + 1) = (x, yn)) := by show valR ex L C (j + 1) = _; unfold valR; rw [if_neg (by rw [e9]; decide), if_neg (by rw [e9]; decide)]; simp only [V.out, HY.out]
          clear V lt
          go_wp2
          go_roundw
          case rel => exact ⟨j + 1, x, yn, by omega, by go_num, rfl, rfl, V2.out, BX.out⟩
          case measure => simp [intOf]; omega
        · have e9 : letR ex L j = 119 := hv9
          rw [hv9]
          simp only [show ((119 : UInt8).toNat : Int) = 119 from rfl]
          have V2 : Hid (valR ex L C (j + 1) = (x, yn)) := by show valR ex L C (j + 1) = _; unfold valR; rw [if_neg (by rw [e9]; decide), if_neg (by rw [e9]; decide)]; simp only [V.out, HY.out]
          clear V lt
          go_wp2
          go_roundw
          case rel => exact ⟨j + 1, x, yn, by omega, by go_num, rfl, rfl, V2.out, BX.out⟩
          case measure => simp [intOf]; omega
        · have e9 : letR ex L j = 0 := hv9
          rw [hv9]
          simp only [show ((0 : UInt8).toNat : Int) = 0 from rfl]
          have V2 : Hid (valR ex L C (j + 1) = (x, y)) := by show valR ex L C (j + 1) = _; unfold valR; rw [if_neg (by rw [e9]; decide), if_pos e9]; exact V.out
          clear V lt
          go_wp2
          go_roundw
          case rel => exact ⟨j + 1, x, y, by omega, by go_num, rfl, rfl, V2.out, BX.out⟩
          case measure => simp [intOf]; omega
      · obtain rfl : j = lc := by omega
        have VV : Hid (v = (x, y)) := by show v = _; rw [← HV.out, ← V.out]; rfl
        have BB : Hid (Below n w wr) := B3.out.trans (B.out.mono (by have := Z3.out.1; omega))
        clear V B
        go_wp2
        refine bodyPost_ret (v := .tuple #[.int .i64 x, .int .i64 y]) ?_ rfl ?_
        · simp [results, Tryz.results12, go_sem]
        · exact ⟨by rw [VV.out], by rw [HN.out]; exact BB.out⟩
end Go.Proofs.YtbbpkoaeedkncaaGreatDoor
