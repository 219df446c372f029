/-
  SeRf, SeRg, CnK, SeRh, SeSl.
-/
import Derived.Test.YtbbpkoaeedkncaaGreatDoorMSeRe
import Derived.Test.YtbbpkoaeedkncaaGreatDoorMSeN
import Derived.Test.YtbbpkoaeedkncaaGreatDoorMSeM
import Derived.Test.YtbbpkoaeedkncaaGreatDoorGBP
import Derived.Test.YtbbpkoaeedkncaaGreatDoorGAA
import Derived.Test.YtbbpkoaeedkncaaGreatDoorGBS
import Derived.Test.YtbbpkoaeedkncaaGreatDoorMShp
set_option linter.all false
set_option maxRecDepth 100000
set_option maxHeartbeats 4000000
namespace Go.Proofs.YtbbpkoaeedkncaaGreatDoor
open Go.RowKit Go.Shelf
attribute [local go_sem] Oper.semAt_some
def fstI (C : List Tr) : Int := if C.any fstB = true then 3 else 0
def lstI (C : List Tr) : Int := if C.any fstB = true then 6 else 2
theorem first_any (s : ByteArray) (Ac : Option Addr) (cc lc : Nat) (C : List Tr) (hlc : C.length = lc) (hLc : lc ≤ 1000) (w : World) (HC : OpsP w Ac C) :
    Calls Tryz.prog 46 #[.agg #[.string s, .slice Ac lc cc]] w fun e w' => e = .returned (.int .i64 (fstI C)) ∧ Below w.heap.size w w' := by
  obtain ⟨w0, hw0⟩ : ∃ z, w.alloc (.cells #[.string s, .slice Ac lc cc] 24) = z := ⟨_, rfl⟩
  obtain ⟨n, hn⟩ : ∃ z, w.heap.size = z := ⟨_, rfl⟩
  have b0 : Below w.heap.size w w0 := by rw [← hw0]; exact up1 _ _
  have c0 : w0.heap[n]? = some (.cells #[.string s, .slice Ac lc cc] 24 (0, 0)) := by rw [← hw0, ← hn]; exact World.alloc_heap_new w _
  have B0 := Lib.hid b0
  have P0 := Lib.hid (HC.below b0)
  have C0 := Lib.hid c0
  have HL := Lib.hid hlc
  have HN := Lib.hid hn
  have k1 := Lib.cell_of_heap c0 1
  clear HC b0 c0 hlc
  go_enter Tryz.func46, Tryz.ntmps46
  go_wp2
  clear k1 hw0
  go_loopw [3] (fun i wr => ∃ j : Nat, j ≤ lc ∧ i = .int .i64 j ∧ Hid (∀ k (h : k < C.length), k < j → fstB C[k] = false) ∧ Hid (Below w.heap.size w wr) ∧ Hid (Below w0.heap.size w0 wr)) (fun i _ => lc - (intOf i).toNat)
  case atStart => exact ⟨0, Nat.zero_le _, rfl, fun k h h2 => by omega, B0.out, Below.refl _ _⟩
  case round =>
    obtain ⟨j, hj, rfl, R, B, B2⟩ := hrel
    have d0 := (B2.out.block n (Array.getElem?_eq_some_iff.1 C0.out).1).trans C0.out
    have k1 := Lib.cell_of_heap d0 1
    by_cases hlt : j < lc
    · have hj1 : j < C.length := by have := HL.out; omega
      obtain ⟨b1, o1, rfl, hb1, p0, p1, p2⟩ := (P0.out.below B2.out).at_ hj1
      have YES : Hid (fstB C[j] = true → fstI C = 3) := fun h => by
        unfold fstI
        rw [if_pos (List.any_eq_true.2 ⟨_, List.getElem_mem hj1, h⟩)]
      have NO : Hid (fstB C[j] = false → ∀ k (h : k < C.length), k < j + 1 → fstB C[k] = false) := fun h k h1 h2 => by
        by_cases e : k = j
        · subst e; exact h
        · exact R.out k h1 (by omega)
      obtain ⟨⟨y0, y1, y2⟩, hy⟩ : ∃ y, C[j] = y := ⟨_, rfl⟩
      rw [hy] at p0 p1 p2 YES NO
      simp only at p0 p1 p2
      have BF := fun o => Lib.hid (B.out.trans ((up1 wr o).mono B.out.size))
      have BG := fun o => Lib.hid (B2.out.trans ((up1 wr o).mono B2.out.size))
      have hjc : (j : Int) < (lc : Int) := by omega
      clear hy hj1 R d0 hb1 B B2
      by_cases e2 : y0 = 2
      · subst e2
        have FB : fstB (2, y1, y2) = true := rfl
        have T := Lib.hid (YES.out FB)
        clear YES NO FB
        go_wp2
        go_ret
        exact ⟨by rw [T.out]; rfl, (BF _).out⟩
      · have m2 : (y0 == 2) = false := beq_eq_false_iff_ne.2 e2
        by_cases e3 : 3 ≤ y0
        · by_cases e5 : y0 ≤ 5
          · by_cases f5 : y1 = 5
            · subst f5
              have FB : fstB (y0, 5, y2) = true := by unfold fstB; simp [e2, e3, e5]
              have T := Lib.hid (YES.out FB)
              clear YES NO FB
              go_wp2
              go_ret
              exact ⟨by rw [T.out]; rfl, (BF _).out⟩
            · have g5 : (y1 == 5) = false := beq_eq_false_iff_ne.2 f5
              by_cases f6 : y1 = 6
              · subst f6
                have FB : fstB (y0, 6, y2) = true := by unfold fstB; simp [e2, e3, e5]
                have T := Lib.hid (YES.out FB)
                clear YES NO FB
                go_wp2
                go_ret
                exact ⟨by rw [T.out]; rfl, (BF _).out⟩
              · have g6 : (y1 == 6) = false := beq_eq_false_iff_ne.2 f6
                have FB : fstB (y0, y1, y2) = false := by unfold fstB; simp [e2, e3, e5, f5, f6]
                have R2 := Lib.hid (NO.out FB)
                clear YES NO FB
                go_wp2
                go_roundw
                case rel => exact ⟨j + 1, by omega, by go_num, R2.out, (BF _).out, (BG _).out⟩
                case measure => simp [intOf]; omega
          · have FB : fstB (y0, y1, y2) = false := by unfold fstB; simp [e2, e3, e5]
            have R2 := Lib.hid (NO.out FB)
            clear YES NO FB
            go_wp2
            go_roundw
            case rel => exact ⟨j + 1, by omega, by go_num, R2.out, (BF _).out, (BG _).out⟩
            case measure => simp [intOf]; omega
        · have FB : fstB (y0, y1, y2) = false := by unfold fstB; simp [e2, e3]
          have R2 := Lib.hid (NO.out FB)
          clear YES NO FB
          go_wp2
          go_roundw
          case rel => exact ⟨j + 1, by omega, by go_num, R2.out, (BF _).out, (BG _).out⟩
          case measure => simp [intOf]; omega
    · have T : Hid (fstI C = 0) := by
        show fstI C = 0
        unfold fstI
        rw [if_neg]
        intro h
        obtain ⟨x, hx, hx2⟩ := List.any_eq_true.1 h
        obtain ⟨k, hk, rfl⟩ := List.getElem_of_mem hx
        rw [R.out k hk (by have := HL.out; omega)] at hx2
        cases hx2
      clear R d0 B2
      go_wp2
      go_ret
      exact ⟨by rw [T.out]; rfl, B.out⟩
theorem last_any (s : ByteArray) (Ac : Option Addr) (cc lc : Nat) (C : List Tr) (hlc : C.length = lc) (hLc : lc ≤ 1000) (w : World) (HC : OpsP w Ac C) :
    Calls Tryz.prog 47 #[.agg #[.string s, .slice Ac lc cc]] w fun e w' => e = .returned (.int .i64 (lstI C)) ∧ Below w.heap.size w w' := by
  have b0 := up1 w (.cells #[.string s, .slice Ac lc cc] 24)
  have f := first_any s Ac cc lc C hlc hLc _ (HC.below b0)
  have B0 := Lib.hid b0
  obtain ⟨q, hq⟩ : ∃ q, C.any fstB = q := ⟨_, rfl⟩
  unfold fstI at f
  unfold lstI
  rw [hq] at f ⊢
  clear HC hlc hq b0
  go_enter Tryz.func47, Tryz.ntmps47
  go_wp2_with fail
  refine f.mono ?_
  rintro e w1 ⟨rfl, hb⟩
  have B1 : Hid (Below w.heap.size w w1) := B0.out.trans (hb.mono B0.out.size)
  clear f hb B0
  cases q with
  | true =>
    simp only [if_pos]
    go_wp2
    go_ret
    exact ⟨rfl, B1.out⟩
  | false =>
    simp only [Bool.false_eq_true, if_false]
    go_wp2
    go_ret
    exact ⟨rfl, B1.out⟩
end Go.Proofs.YtbbpkoaeedkncaaGreatDoor
namespace Go.Proofs.YtbbpkoaeedkncaaGreatDoor
open Go.RowKit Go.Shelf
attribute [local go_sem] Oper.semAt_some
def Hit (s : ByteArray) (C : List Tr) (page : Int) (n : Nat) : Prop := ∃ x : En, ratT page n = some x ∧ x.2.2.2 = false ∧ fitsR x.1 x.2.1 x.2.2.1 s C = true
def RLeg (s : ByteArray) (I C : List Tr) : Prop := codeI s I = 0 ∧ ∃ (page : Int) (n : Nat), fstI C ≤ page ∧ page ≤ lstI C ∧ n < 256 ∧ Hit s C page n
def RetRF (w : World) (s : ByteArray) (I C : List Tr) (e : Ending) (w' : World) : Prop := ∃ (g o : Int) (m : Str) (A : Option Addr) (l cap : Nat) (ex : Str) (al : Bool) (c : Int), e = .returned (.tuple #[enV g o m (.slice A l cap) ex al, .int .i64 c]) ∧ Below w.heap.size w w' ∧ ((c = 0 ∧ RLeg s I C) ∨ (c ≠ 0 ∧ ¬ RLeg s I C))
theorem fstI_le (C : List Tr) : 0 ≤ fstI C ∧ fstI C ≤ 3 := by unfold fstI; split <;> omega
theorem lstI_le (C : List Tr) : lstI C ≤ 6 ∧ fstI C ≤ lstI C + 1 := by unfold lstI fstI; split <;> omega
theorem rset6 {w : World} {b : Nat} {T : TypeId} {a0 a1 a2 a3 a4 a5 : Value} (h : w.heap[b]? = some (.cells #[a0, a1, a2, a3, a4, a5] T (0, 0))) {B : Nat} {u : World} (hb : Below B u w) (hB : B ≤ b) (v0 v1 v2 v3 v4 v5 : Value) : ∃ w', (((((w.setCell ⟨b, 0, none⟩ v0).setCell ⟨b, 1, none⟩ v1).setCell ⟨b, 2, none⟩ v2).setCell ⟨b, 3, none⟩ v3).setCell ⟨b, 4, none⟩ v4).setCell ⟨b, 5, none⟩ v5 = w' ∧
    w'.heap[b]? = some (.cells #[v0, v1, v2, v3, v4, v5] T (0, 0)) ∧ Below B u w' := by
  obtain ⟨w', h1, h2, -, -, h3, -⟩ := set6 h v0 v1 v2 v3 v4 v5
  exact ⟨w', h1, h2, hb.trans (h3.mono hB)⟩
theorem ref_box (w : World) (g o : Int) (m : Str) (v : Value) (ex : Str) (al : Bool) (c : Nat) (hc : w.heap.size = c) : ∃ w', w.alloc (.cells #[.int .i64 g, .int .u8 o, .string (sB m), v, .string (sB ex), .bool al] 29) = w' ∧ w'.heap[c]? = some (.cells #[.int .i64 g, .int .u8 o, .string (sB m), v, .string (sB ex), .bool al] 29 (0, 0)) ∧ Below w.heap.size w w' ∧ w'.heap.size = c + 1 := by
  subst hc
  exact ⟨_, rfl, World.alloc_heap_new w _, (Below.refl _ w).alloc (Nat.le_refl _) _, by simp⟩
theorem rfind10_any (s : ByteArray) (hs : s.size ≤ 1000) (Ai : Option Addr) (capi li : Nat) (I : List Tr) (hli : I.length = li) (hLi : li ≤ 900) (w : World) (HF : OpsP w Ai I) :
    Calls Tryz.prog 21 #[.agg #[.string s, .slice Ai li capi]] w (RetRF w s I (canL (opc s) I)) := by
  have hof := fun w h => rof_any s Ai capi I (by omega) w h
  have hck := fun w h => rcheck_any s Ai capi I (by omega) w h
  rw [hli] at hof hck
  have hcl := canL_len (opc s) I
  have hfi := fun page op m (hm : List.length m ≤ 1000) A cap l L (hl : List.length L = l) (hL : l ≤ 1000) ex (hx : List.length ex ≤ 1000) al w' h1 h2 => rfits10_any page op m A cap l L hl hL ex hx al s Ai capi li I hli hLi w' h1 h2
  obtain ⟨C, hC⟩ : ∃ C, canL (opc s) I = C := ⟨_, rfl⟩
  rw [hC] at hof hcl hfi ⊢
  obtain ⟨lc, hlc⟩ : ∃ z, C.length = z := ⟨_, rfl⟩
  have hLc : lc ≤ 1000 := by omega
  obtain ⟨w0, hw0⟩ : ∃ w0, (w.alloc (.cells #[.string s, .slice Ai li capi] 24)).alloc (.cells #[.int .i64 0, .int .u8 0, .string ⟨#[]⟩, .slice none 0 0, .string ⟨#[]⟩, .bool false] 29) = w0 := ⟨_, rfl⟩
  obtain ⟨n, hn⟩ : ∃ n, w.heap.size = n := ⟨_, rfl⟩
  have b0 : Below n w w0 := by rw [← hw0, ← hn]; exact ((Below.refl _ w).alloc (Nat.le_refl _) _).alloc (by simp) _
  have z0 : w0.heap.size = n + 1 + 1 := by rw [← hw0, ← hn]; simp
  have c0 : w0.heap[n]? = some (.cells #[.string s, .slice Ai li capi] 24 (0, 0)) := by
    rw [← hw0, ← hn]
    exact (Below.heap_alloc _ _ _ (by simp)).trans (World.alloc_heap_new w _)
  have c1 : w0.heap[n + 1]? = some (.cells #[.int .i64 0, .int .u8 0, .string ⟨#[]⟩, .slice none 0 0, .string ⟨#[]⟩, .bool false] 29 (0, 0)) := by
    rw [← hw0, ← hn]
    have h := World.alloc_heap_new (w.alloc (.cells #[.string s, .slice Ai li capi] 24)) (.cells #[.int .i64 0, .int .u8 0, .string ⟨#[]⟩, .slice none 0 0, .string ⟨#[]⟩, .bool false] 29)
    rwa [World.size_alloc] at h
  have CK := Lib.hid (hck w0 (HF.below (by rw [hn]; exact b0)))
  have OF := Lib.hid hof
  have FI := Lib.hid hfi
  have HN := Lib.hid hn
  have B0 := Lib.hid b0
  have C0 := Lib.hid c0
  have C1 := Lib.hid c1
  have P0 := Lib.hid (HF.below (by rw [hn]; exact b0))
  have HLC := Lib.hid hlc
  have k0 := Lib.cell_of_heap c0 0
  have k1 := Lib.cell_of_heap c0 1
  obtain ⟨cd, hcd⟩ : ∃ z, codeI s I = z := ⟨_, rfl⟩
  have HCD := Lib.hid hcd
  rw [hcd] at CK
  clear hof hck hfi c0 c1 b0 HF hC hcl hlc hcd
  go_enter Tryz.func21, Tryz.ntmps21
  go_wp2_with fail
  refine CK.out.mono ?_
  rintro e w1 ⟨rfl, hb⟩
  have B1 : Hid (Below n w w1) := B0.out.trans (hb.mono (by omega))
  have c0 := (hb.block n (by omega)).trans C0.out
  have c1 := (hb.block (n + 1) (by omega)).trans C1.out
  have P1 := Lib.hid (P0.out.below hb)
  have Z1 : Hid (n + 2 ≤ w1.heap.size) := by have := hb.size; show _ ≤ _; omega
  have C0 := Lib.hid c0
  have C1 := Lib.hid c1
  have k0 := Lib.cell_of_heap c0 0
  have k1 := Lib.cell_of_heap c0 1
  clear CK hb B0 P0 hw0 z0
  by_cases hcd0 : cd = 0
  · subst hcd0
    have of1 := OF.out w1 P1.out
    clear c0 c1 OF
    go_wp2_with fail
    refine of1.mono ?_
    rintro e w2 ⟨v, rfl, hO, hb⟩
    obtain ⟨Ac, cc, rfl, hPc, -, -⟩ := hO.ops
    rw [HLC.out]
    have B2 : Hid (Below n w w2) := B1.out.trans (hb.mono (by have := Z1.out; omega))
    have c0 := (hb.block n (by have := Z1.out; omega)).trans C0.out
    have c1 := (hb.block (n + 1) (by have := Z1.out; omega)).trans C1.out
    have P2 := Lib.hid (P1.out.below hb)
    have R2 := Lib.hid hPc
    have Z2 : Hid (n + 2 ≤ w2.heap.size) := Nat.le_trans Z1.out hb.size
    have C0 := Lib.hid c0
    have C1 := Lib.hid c1
    clear of1 hb hO hPc c0 c1 B1 P1 Z1 k0 k1
    go_upto_region 6 with fail
    obtain ⟨b, hbs⟩ : ∃ c, w2.heap.size = c := ⟨_, rfl⟩
    obtain ⟨w3, hw3, y1, y2, y3⟩ := ins_box w2 s (.slice Ac lc cc) b hbs
    rw [hw3, hbs]
    have hnb : n + 2 ≤ b := by have := Z2.out; omega
    have B3 : Hid (Below n w w3) := B2.out.trans (y2.mono (by omega))
    have P3 := Lib.hid (P2.out.below y2)
    have R3 := Lib.hid (R2.out.below y2)
    have KK : Hid (w3.heap[n]? = some (.cells #[.string s, .slice Ai li capi] 24 (0, 0)) ∧ w3.heap[n + 1]? = some (.cells #[.int .i64 0, .int .u8 0, .string ⟨#[]⟩, .slice none 0 0, .string ⟨#[]⟩, .bool false] 29 (0, 0)) ∧ w3.heap[b]? = some (.cells #[.string s, .slice Ac lc cc] 24 (0, 0))) := ⟨(y2.block n (by omega)).trans C0.out, (y2.block (n + 1) (by omega)).trans C1.out, y1⟩
    have Z3 : Hid (b + 1 ≤ w3.heap.size) := by show _ ≤ _; omega
    have f3 := first_any s Ac cc lc C HLC.out hLc w3 R3.out
    have j0 := Lib.cell_of_heap y1 0
    have j1 := Lib.cell_of_heap y1 1
    have FB := fstI_le C
    have LB := lstI_le C
    have LA := Lib.hid (fun w' h => last_any s Ac cc lc C HLC.out hLc w' h)
    obtain ⟨fs, hfs⟩ : ∃ z, fstI C = z := ⟨_, rfl⟩
    obtain ⟨ls, hls⟩ : ∃ z, lstI C = z := ⟨_, rfl⟩
    have HFS := Lib.hid hfs
    have HLS := Lib.hid hls
    rw [hfs] at f3 FB LB
    rw [hls] at LA LB
    clear hw3 hbs y1 y2 y3 B2 P2 R2 C0 C1 Z2 hfs hls
    go_wp2_with fail
    refine f3.mono ?_
    rintro e w4 ⟨rfl, hb⟩
    have B4 := Lib.hid hb
    clear hb f3 j0 j1
    go_wp2
    go_loopw [7, 6] (fun x c wr => ∃ (p cv : Int), fs ≤ p ∧ p ≤ ls + 1 ∧ x = .int .i64 p ∧ c = .int .i64 cv ∧ Hid (cv ≠ 0) ∧ Hid (∀ (pg : Int) (n : Nat), fs ≤ pg → pg < p → n < 256 → ¬ Hit s C pg n) ∧ Hid (Below w3.heap.size w3 wr)) (fun x _ _ => (7 - intOf x).toNat)
    case atStart => exact ⟨fs, 11, Int.le_refl _, by omega, rfl, rfl, by show (11 : Int) ≠ 0; decide, fun pg n h1 h2 => by omega, B4.out⟩
    case round =>
      clear B4
      obtain ⟨p, cv, hp1, hp2, rfl, rfl, CV, NH, BW⟩ := hrel
      have d2 := (BW.out.block b (by have := Z3.out; omega)).trans KK.out.2.2
      have j0 := Lib.cell_of_heap d2 0
      have j1 := Lib.cell_of_heap d2 1
      have la := LA.out wr (R3.out.below BW.out)
      have D2 := Lib.hid d2
      clear d2
      go_wp2_with fail
      refine la.mono ?_
      rintro e w5 ⟨rfl, hb⟩
      have B5 : Hid (Below w3.heap.size w3 w5) := BW.out.trans (hb.mono BW.out.size)
      clear la hb BW j0 j1 D2
      by_cases hple : p ≤ ls
      · go_wp2
        go_loopw [8, 6] (fun x c wr => ∃ (k : Nat) (cv : Int), k ≤ 256 ∧ x = .int .i64 k ∧ c = .int .i64 cv ∧ Hid (cv ≠ 0) ∧ Hid (∀ n : Nat, n < k → ¬ Hit s C p n) ∧ Hid (Below w3.heap.size w3 wr)) (fun x _ _ => 256 - (intOf x).toNat)
        case atStart => exact ⟨0, cv, Nat.zero_le _, rfl, rfl, CV, fun n h => by omega, B5.out⟩
        case round =>
          clear B5 CV
          obtain ⟨k, cv, hk, rfl, rfl, CV, RR, BW⟩ := hrel
          by_cases hlt : k < 256
          · have hw8 : IntKind.u8.wrap (k : Int) = k := by rw [IntKind.wrap_u8]; omega
            have at1 := rat_any p k hlt wr
            have SZ : Hid (w3.heap.size ≤ wr.heap.size) := BW.out.size
            go_wp2_with fail
            refine at1.mono ?_
            rintro e w6 ⟨hres, hb⟩
            have B6 : Hid (Below w3.heap.size w3 w6) := BW.out.trans (hb.mono BW.out.size)
            clear hw8 at1 BW
            cases hx : ratT p k with
            | none =>
              rw [hx] at hres
              subst hres
              have hkd := rkind_ne p k
              obtain ⟨kd, hkd2⟩ : ∃ z, rkindT p k = z := ⟨_, rfl⟩
              rw [hkd2] at hkd ⊢
              have hkn : ¬ kd = 1 := fun h => by rw [h] at hkd; cases hkd
              simp only [enV]
              have B7 := fun o => Lib.hid (B6.out.alloc B6.out.size o)
              have R2 : Hid (∀ n : Nat, n < k + 1 → ¬ Hit s C p n) := fun n h hh => by
                by_cases e : n = k
                · subst e
                  obtain ⟨x, h1, -⟩ := hh
                  rw [hx] at h1
                  cases h1
                · exact RR.out n (by omega) hh
              clear hx hkd2 hb B6 RR
              go_wp2
              go_roundw
              case rel => exact ⟨k + 1, cv, by omega, by go_num, rfl, CV, R2.out, (B7 _).out⟩
              case measure => simp [intOf]; omega
            | some x =>
              have hkey := (InTab.ok (k := (p, (k : Int), x.1, x.2.1, x.2.2.1, x.2.2.2)) ⟨k, hlt, rfl, hx⟩)
              rw [hx] at hres
              obtain ⟨v, rfl, hO⟩ := hres
              obtain ⟨Ae, ce, rfl, hPe, -⟩ := hO.ops
              have RN : Hid ((x.2.2.2 = true ∨ fitsR x.1 x.2.1 x.2.2.1 s C = false) → ∀ n : Nat, n < k + 1 → ¬ Hit s C p n) := fun hn9 n h hh => by
                by_cases e : n = k
                · subst e
                  obtain ⟨y, h1, h2, h3⟩ := hh
                  rw [hx] at h1
                  obtain rfl := Option.some.inj h1
                  rcases hn9 with h | h
                  · rw [h2] at h; cases h
                  · rw [h3] at h; cases h
                · exact RR.out n (by omega) hh
              have RY : Hid (x.2.2.2 = false → fitsR x.1 x.2.1 x.2.2.1 s C = true → RLeg s I C) := fun h1 h2 => ⟨HCD.out, p, k, by rw [HFS.out]; exact hp1, by rw [HLS.out]; exact hple, hlt, x, hx, h1, h2⟩
              have hm := hkey.m
              have hex := hkey.ex
              have hln := hkey.len
              obtain ⟨m, Le, ex, al⟩ := x
              simp only at hm hex hln RN RY hPe ⊢
              obtain ⟨le, hle⟩ : ∃ z, Le.length = z := ⟨_, rfl⟩
              rw [hle] at hln ⊢
              simp only [enV]
              have PE := Lib.hid hPe
              have HLE := Lib.hid hle
              clear hx hb hO hPe hle hkey RR
              go_upto_region 13 with fail
              obtain ⟨be, hbe⟩ : ∃ c, w6.heap.size = c := ⟨_, rfl⟩
              obtain ⟨u, hu, y1, y2, -⟩ := ref_box w6 p k m (.slice Ae le ce) ex al be hbe
              rw [hu, hbe]
              have hbb : b + 1 ≤ be := by have h1 := SZ.out; have h2 := B6.out.size; have h3 := Z3.out; omega
              have BU : Hid (Below w3.heap.size w3 u) := B6.out.trans (y2.mono B6.out.size)
              have PU := Lib.hid (PE.out.below y2)
              have RU := Lib.hid (R3.out.below BU.out)
              have QU := Lib.hid (P3.out.below BU.out)
              have ZU : Hid (w3.heap.size ≤ u.heap.size) := BU.out.size
              have d0 := (BU.out.block n (by have := Z3.out; omega)).trans KK.out.1
              have d1 := (BU.out.block (n + 1) (by have := Z3.out; omega)).trans KK.out.2.1
              have d2 := (BU.out.block b (by have := Z3.out; omega)).trans KK.out.2.2
              have EU : Hid (u.heap[be]? = some (.cells #[.int .i64 p, .int .u8 k, .string (sB m), .slice Ae le ce, .string (sB ex), .bool al] 29 (0, 0))) := y1
              have sh := shaped_any p k m Ae ce le Le HLE.out (by omega) ex al s Ac cc lc C HLC.out hLc u PU.out RU.out
              simp only [enV] at sh
              have SH := Lib.hid sh
              have DU : Hid (u.heap[n]? = some (.cells #[.string s, .slice Ai li capi] 24 (0, 0)) ∧ u.heap[n + 1]? = some (.cells #[.int .i64 0, .int .u8 0, .string ⟨#[]⟩, .slice none 0 0, .string ⟨#[]⟩, .bool false] 29 (0, 0))) := ⟨d0, d1⟩
              have i0 := Lib.cell_of_heap y1 0
              have i1 := Lib.cell_of_heap y1 1
              have i2 := Lib.cell_of_heap y1 2
              have i3 := Lib.cell_of_heap y1 3
              have i4 := Lib.cell_of_heap y1 4
              have i5 := Lib.cell_of_heap y1 5
              have j0 := Lib.cell_of_heap d2 0
              have j1 := Lib.cell_of_heap d2 1
              have B3' : Hid (Below n w w3) := B3.out
              clear sh hu hbe y1 y2 d0 d1 d2 B6 PE B3 k0 k1
              cases al with
              | true =>
                have R2 : Hid (∀ n : Nat, n < k + 1 → ¬ Hit s C p n) := RN.out (.inl rfl)
                clear RN RY SH FI NH
                go_wp2
                go_roundw
                case rel => exact ⟨k + 1, cv, by omega, by go_num, rfl, CV, R2.out, BU.out⟩
                case measure => simp [intOf]; omega
              | false =>
                by_cases hms : sB m = s
                rotate_left
                · have hq := strB_ne hms
                  have R2 : Hid (∀ n : Nat, n < k + 1 → ¬ Hit s C p n) := RN.out (.inr (by unfold fitsR shpR; rw [decide_eq_false hms]; rfl))
                  clear RN RY SH FI NH hms
                  go_wp2
                  go_roundw
                  case rel => exact ⟨k + 1, cv, by omega, by go_num, rfl, CV, R2.out, BU.out⟩
                  case measure => simp [intOf]; omega
                · subst hms
                  have hq := strB_eq (sB m)
                  have sh := SH.out
                  have SR : Hid (shpR m Le (sB m) C = false → fitsR m Le ex (sB m) C = false) := fun h => by unfold fitsR; rw [h]; rfl
                  obtain ⟨sv, hsv⟩ : ∃ z, shpR m Le (sB m) C = z := ⟨_, rfl⟩
                  rw [hsv] at sh SR
                  clear SH hsv
                  go_wp2_with fail
                  refine sh.mono ?_
                  rintro e v ⟨rfl, hb⟩
                  have BV : Hid (Below w3.heap.size w3 v) := BU.out.trans (hb.mono ZU.out)
                  have fi := FI.out p k m (by omega) Ae ce le Le HLE.out (by omega) ex (by omega) false v (PU.out.below hb) (QU.out.below hb)
                  simp only [enV] at fi
                  obtain ⟨fv, hfv⟩ : ∃ z, fitsR m Le ex (sB m) C = z := ⟨_, rfl⟩
                  rw [hfv] at fi SR RN RY
                  have hnz : n + 1 < u.heap.size := (Array.getElem?_eq_some_iff.1 DU.out.2).1
                  have hez : be < u.heap.size := (Array.getElem?_eq_some_iff.1 EU.out).1
                  have EV := Lib.hid ((hb.block be hez).trans EU.out)
                  have DV := Lib.hid ((hb.block n (by omega)).trans DU.out.1)
                  have GV := Lib.hid ((hb.block (n + 1) hnz).trans DU.out.2)
                  have ZV : Hid (u.heap.size ≤ v.heap.size) := hb.size
                  have FIv := Lib.hid fi
                  clear fi hb hfv FI NH SZ PU RU QU DU EU BU i0 i1 i2 i3 i4 i5 j0 j1 sh hq
                  cases sv with
                  | false =>
                    have R2 : Hid (∀ n : Nat, n < k + 1 → ¬ Hit (sB m) C p n) := RN.out (.inr (SR.out rfl))
                    clear RN RY SR FIv
                    go_wp2
                    go_roundw
                    case rel => exact ⟨k + 1, cv, by omega, by go_num, rfl, CV, R2.out, BV.out⟩
                    case measure => simp [intOf]; omega
                  | true =>
                    have i0 := Lib.cell_of_heap EV.out 0
                    have i1 := Lib.cell_of_heap EV.out 1
                    have i2 := Lib.cell_of_heap EV.out 2
                    have i3 := Lib.cell_of_heap EV.out 3
                    have i4 := Lib.cell_of_heap EV.out 4
                    have i5 := Lib.cell_of_heap EV.out 5
                    have k0 := Lib.cell_of_heap DV.out 0
                    have k1 := Lib.cell_of_heap DV.out 1
                    have fi := FIv.out
                    clear SR FIv
                    go_wp2_with fail
                    refine fi.mono ?_
                    rintro e x ⟨rfl, hb⟩
                    have BX : Hid (Below w3.heap.size w3 x) := BV.out.trans (hb.mono (by have := ZU.out; have := ZV.out; omega))
                    have d0 := (hb.block be (by have := ZV.out; omega)).trans EV.out
                    have d1 := (hb.block (n + 1) (by have := ZV.out; omega)).trans GV.out
                    have DX := Lib.hid d0
                    have GX := Lib.hid d1
                    clear fi hb i0 i1 i2 i3 i4 i5 k0 k1 BV EV DV GV d0 d1
                    cases fv with
                    | false =>
                      have R2 : Hid (∀ n : Nat, n < k + 1 → ¬ Hit (sB m) C p n) := RN.out (.inr rfl)
                      have C2 : Hid ((2 : Int) ≠ 0) := by show (2 : Int) ≠ 0; decide
                      clear RN RY
                      go_wp2
                      go_roundw
                      case rel => exact ⟨k + 1, 2, by omega, by go_num, rfl, C2, R2.out, BX.out⟩
                      case measure => simp [intOf]; omega
                    | true =>
                      have YR : Hid (RLeg (sB m) I C) := by have h := RY.out; show RLeg (sB m) I C; simpa using h
                      have BB : Hid (Below n w x) := B3'.out.trans (BX.out.mono (by have := Z3.out; omega))
                      have i0 := Lib.cell_of_heap DX.out 0
                      have i1 := Lib.cell_of_heap DX.out 1
                      have i2 := Lib.cell_of_heap DX.out 2
                      have i3 := Lib.cell_of_heap DX.out 3
                      have i4 := Lib.cell_of_heap DX.out 4
                      have i5 := Lib.cell_of_heap DX.out 5
                      have u0 := Lib.cell_of_heap GX.out 0
                      have u1 := Lib.cell_of_heap GX.out 1
                      have u2 := Lib.cell_of_heap GX.out 2
                      have u3 := Lib.cell_of_heap GX.out 3
                      have u4 := Lib.cell_of_heap GX.out 4
                      have u5 := Lib.cell_of_heap GX.out 5
                      have u6 := Lib.frozen_of_heap GX.out
                      clear RN RY
                      go_wp2
                      obtain ⟨w7, hw7, q, q2⟩ := rset6 GX.out BB.out (by omega) (.int .i64 p) (.int .u8 k) (.string (sB m)) (.slice Ae le ce) (.string (sB ex)) (.bool false)
                      rw [hw7]
                      have q0 := Lib.cell_of_heap q 0
                      have q1 := Lib.cell_of_heap q 1
                      have q2' := Lib.cell_of_heap q 2
                      have q3 := Lib.cell_of_heap q 3
                      have q4 := Lib.cell_of_heap q 4
                      have q5 := Lib.cell_of_heap q 5
                      refine bodyPost_ret (v := .tuple #[.agg #[.int .i64 p, .int .u8 k, .string (sB m), .slice Ae le ce, .string (sB ex), .bool false], .int .i64 0]) ?_ rfl ?_
                      · simp [results, Tryz.results21, go_sem, q0, q1, q2', q3, q4, q5]
                      · exact ⟨p, k, m, Ae, le, ce, ex, false, 0, rfl, by rw [HN.out]; exact q2, .inl ⟨rfl, YR.out⟩⟩
          · obtain rfl : k = 256 := by omega
            have R2 : Hid (∀ (pg : Int) (n : Nat), fs ≤ pg → pg < p + 1 → n < 256 → ¬ Hit s C pg n) := fun pg n h1 h2 h3 => by
              by_cases e : pg = p
              · subst e; exact RR.out n h3
              · exact NH.out pg n h1 (by omega) h3
            clear RR NH
            go_wp2
            go_roundw
            case rel => exact ⟨p + 1, cv, by omega, by omega, by go_num, rfl, CV, R2.out, BW.out⟩
            case measure => simp [intOf]; omega
      · have NL : Hid (¬ RLeg s I C) := fun h => by
          obtain ⟨-, pg, n, h1, h2, h3, h4⟩ := h
          rw [HFS.out] at h1
          rw [HLS.out] at h2
          exact NH.out pg n h1 (by omega) h3 h4
        have d1 := (B5.out.block (n + 1) (by have := Z3.out; omega)).trans KK.out.2.1
        have u0 := Lib.cell_of_heap d1 0
        have u1 := Lib.cell_of_heap d1 1
        have u2 := Lib.cell_of_heap d1 2
        have u3 := Lib.cell_of_heap d1 3
        have u4 := Lib.cell_of_heap d1 4
        have u5 := Lib.cell_of_heap d1 5
        have u6 := Lib.frozen_of_heap d1
        have BB : Hid (Below n w w5) := B3.out.trans (B5.out.mono (by have := Z3.out; omega))
        have D1 := Lib.hid d1
        clear d1 NH FI LA
        go_wp2
        obtain ⟨w7, hw7, q, q2⟩ := rset6 D1.out BB.out (by omega) (.int .i64 0) (.int .u8 0) (.string ⟨#[]⟩) (.slice none 0 0) (.string ⟨#[]⟩) (.bool false)
        rw [hw7]
        have q0 := Lib.cell_of_heap q 0
        have q1 := Lib.cell_of_heap q 1
        have q2' := Lib.cell_of_heap q 2
        have q3 := Lib.cell_of_heap q 3
        have q4 := Lib.cell_of_heap q 4
        have q5 := Lib.cell_of_heap q 5
        refine bodyPost_ret (v := .tuple #[.agg #[.int .i64 0, .int .u8 0, .string ⟨#[]⟩, .slice none 0 0, .string ⟨#[]⟩, .bool false], .int .i64 cv]) ?_ rfl ?_
        · simp [results, Tryz.results21, go_sem, q0, q1, q2', q3, q4, q5]
        · exact ⟨0, 0, [], none, 0, 0, [], false, cv, rfl, by rw [HN.out]; exact q2, .inr ⟨CV.out, NL.out⟩⟩
  · have e0 : (cd == 0) = false := beq_eq_false_iff_ne.2 hcd0
    have NR : Hid (¬ RLeg s I C) := fun h => hcd0 (by rw [← HCD.out]; exact h.1)
    have HC0 := Lib.hid hcd0
    have u0 := Lib.cell_of_heap c1 0
    have u1 := Lib.cell_of_heap c1 1
    have u2 := Lib.cell_of_heap c1 2
    have u3 := Lib.cell_of_heap c1 3
    have u4 := Lib.cell_of_heap c1 4
    have u5 := Lib.cell_of_heap c1 5
    have u6 := Lib.frozen_of_heap c1
    clear hcd0 c0 c1 OF FI k0 k1
    go_wp2
    obtain ⟨w7, hw7, q, q2⟩ := rset6 C1.out B1.out (by omega) (.int .i64 0) (.int .u8 0) (.string ⟨#[]⟩) (.slice none 0 0) (.string ⟨#[]⟩) (.bool false)
    rw [hw7]
    have q0 := Lib.cell_of_heap q 0
    have q1 := Lib.cell_of_heap q 1
    have q2' := Lib.cell_of_heap q 2
    have q3 := Lib.cell_of_heap q 3
    have q4 := Lib.cell_of_heap q 4
    have q5 := Lib.cell_of_heap q 5
    refine bodyPost_ret (v := .tuple #[.agg #[.int .i64 0, .int .u8 0, .string ⟨#[]⟩, .slice none 0 0, .string ⟨#[]⟩, .bool false], .int .i64 cd]) ?_ rfl ?_
    · simp [results, Tryz.results21, go_sem, q0, q1, q2', q3, q4, q5]
    · exact ⟨0, 0, [], none, 0, 0, [], false, cd, rfl, by rw [HN.out]; exact q2, .inr ⟨HC0.out, NR.out⟩⟩
end Go.Proofs.YtbbpkoaeedkncaaGreatDoor
namespace Go.Proofs.YtbbpkoaeedkncaaGreatDoor
open Go.RowKit
theorem code_split {s : ByteArray} {L : List Tr} (h : codeI s L = 0) : knB s = true ∧ L.length ≤ 3 ∧ ∀ t ∈ L, vT t = true := by
  unfold codeI at h
  split at h
  · cases h
  · rename_i h1
    split at h
    · cases h
    · rename_i h2
      split at h
      · rename_i h3
        exact ⟨by simpa using h1, by omega, fun t ht => List.all_eq_true.1 h3 t ht⟩
      · cases h
theorem mem_ex {c : Nat} {L : List Tr} {u : Tr} (h : u ∈ exL c (accL c L)) : u ∈ L ∨ u = accT ∨ u = hlT ∨ u = deT := by
  have h1 : u ∈ accL c L ∨ u = hlT ∨ u = deT := by
    unfold exL at h
    split at h
    · rcases List.mem_cons.1 h with e | h
      · exact .inr (.inr e)
      · exact .inr (.inl (List.mem_singleton.1 h))
    · exact .inl h
  rcases h1 with h1 | h1 | h1
  · unfold accL at h1
    split at h1
    · exact .inl (List.mem_of_mem_tail h1)
    · split at h1
      · rcases List.mem_cons.1 h1 with e | h
        · exact .inr (.inl e)
        · exact .inl h
      · exact .inl h1
  · exact .inr (.inr (.inl h1))
  · exact .inr (.inr (.inr h1))
theorem vT_acc : vT accT = true := by decide +kernel
theorem vT_hl : vT hlT = true := by decide +kernel
theorem vT_de : vT deT = true := by decide +kernel
theorem vT_mem {c : Nat} {s : ByteArray} {L : List Tr} (h : codeI s L = 0) {u : Tr} (hu : u ∈ exL c (accL c L)) : vT u = true := by
  rcases mem_ex hu with h1 | rfl | rfl | rfl
  · exact (code_split h).2.2 u h1
  · exact vT_acc
  · exact vT_hl
  · exact vT_de
theorem vT_6 {t : Tr} (h : vT t = true) (hk : t.1 = 6) : t.2.1 = 0 ∧ -32768 ≤ t.2.2 ∧ t.2.2 ≤ 65535 := by
  obtain ⟨a, r, n⟩ := t
  simp only at hk
  subst hk
  unfold vT at h
  simp only [vld_6] at h
  simp only [Bool.and_eq_true, beq_iff_eq, decide_eq_true_eq] at h
  exact ⟨h.1, h.2.1, h.2.2⟩
theorem vT_wrap {t : Tr} (w : Int) (h : vT t = true) : vT (wrapT (valW w) t) = true := by
  by_cases hc : t.1 = 6 ∧ -(valW w / 2) ≤ t.2.2 ∧ t.2.2 < 0
  · obtain ⟨h1, h2, h3⟩ := vT_6 h hc.1
    have e : wrapT (valW w) t = (t.1, t.2.1, t.2.2 + valW w) := by unfold wrapT; rw [if_pos hc]
    rw [e, hc.1]
    unfold vT
    simp only [vld_6, Bool.and_eq_true, beq_iff_eq, decide_eq_true_eq]
    obtain ⟨-, h4, h5⟩ := hc
    refine ⟨h1, ?_, ?_⟩ <;> rcases valW_cases w with q | q | q <;> rw [q] at h4 ⊢ <;> omega
  · have e : wrapT (valW w) t = t := by unfold wrapT; rw [if_neg hc]
    rw [e]; exact h
theorem canL_le3 {c : Nat} {L : List Tr} (h : L.length ≤ 3) : (canL c L).length ≤ 3 := by
  unfold canL
  rw [List.length_map, exL_len]
  unfold accL
  split
  · rw [List.length_tail]; omega
  · split
    · simp only [List.length_cons]; omega
    · exact h
theorem can_check {s : ByteArray} {L : List Tr} (h : codeI s L = 0) : codeI s (canL (opc s) L) = 0 := by
  obtain ⟨h1, h2, h3⟩ := code_split h
  refine (code_0 s _ h1 (by have := canL_le3 (c := opc s) h2; omega) fun k hk a => ?_).symm
  have hm := List.getElem_mem a
  unfold canL at hm
  rw [List.mem_map] at hm
  obtain ⟨u, hu, e⟩ := hm
  have := vT_wrap (widL (opc s) L) (vT_mem h hu)
  rw [e] at this
  exact this
end Go.Proofs.YtbbpkoaeedkncaaGreatDoor
namespace Go.Proofs.YtbbpkoaeedkncaaGreatDoor
open Go.RowKit Go.Shelf
theorem vT_of {a b : Tr} (hk : ks2 a = ks2 b) (ha : vT a = true) (hn : loK b.1.toNat ≤ b.2.2 ∧ b.2.2 ≤ hiK b.1.toNat) : vT b = true := by
  obtain ⟨k, r, n⟩ := a
  obtain ⟨k2, r2, n2⟩ := b
  unfold ks2 at hk
  simp only [Prod.mk.injEq] at hk
  obtain ⟨rfl, rfl⟩ := hk
  unfold vT vldB at ha ⊢
  simp only [Bool.and_eq_true, decide_eq_true_eq] at ha ⊢ hn
  exact ⟨ha.1, hn⟩
theorem vT_rng {a : Tr} (h : vT a = true) : loK a.1.toNat ≤ a.2.2 ∧ a.2.2 ≤ hiK a.1.toNat := by
  obtain ⟨k, r, n⟩ := a
  unfold vT vldB at h
  simp only [Bool.and_eq_true, decide_eq_true_eq] at h
  exact h.2
theorem with_rng {c : UInt8} {n : Int} (h : withR c n = true) : (rangeR c).1 ≤ n ∧ n ≤ (rangeR c).2 := by
  unfold withR at h
  unfold rangeR
  by_cases h1 : c = 100 ∨ c = 101
  · rw [if_pos h1] at h ⊢
    simp only [Bool.and_eq_true, decide_eq_true_eq] at h
    exact h
  · rw [if_neg h1] at h ⊢
    by_cases h2 : c = 110
    · rw [if_pos h2] at h ⊢
      simp only [Bool.and_eq_true, decide_eq_true_eq] at h
      exact h
    · rw [if_neg h2] at h ⊢
      simp only [Bool.and_eq_true, decide_eq_true_eq] at h
      exact h
theorem shape_get {A B : List Tr} (h : A.map ks2 = B.map ks2) {k : Nat} (hk : k < B.length) : ks2 (A.getD k tr0) = ks2 (B.getD k tr0) := by
  have hl : A.length = B.length := by have := congrArg List.length h; simpa using this
  have h1 : (A.map ks2)[k]? = (B.map ks2)[k]? := by rw [h]
  rw [List.getElem?_map, List.getElem?_map, List.getElem?_eq_getElem hk, List.getElem?_eq_getElem (by omega)] at h1
  rw [List.getD_eq_getElem?_getD, List.getD_eq_getElem?_getD, List.getElem?_eq_getElem hk, List.getElem?_eq_getElem (by omega)]
  exact Option.some.inj h1
theorem fits_valid {k : Ke} (ok : OkS k) {s : ByteArray} {C : List Tr} (h : fitsR k.2.2.1 k.2.2.2.1 k.2.2.2.2.1 s C = true) : ∀ t ∈ C, vT t = true := by
  intro t ht
  unfold fitsR shpR at h
  simp only [Bool.and_eq_true, decide_eq_true_eq, List.all_eq_true, List.mem_range] at h
  obtain ⟨⟨-, hsh⟩, hall⟩ := h
  obtain ⟨j, hj, rfl⟩ := List.getElem_of_mem ht
  have hl : k.2.2.2.1.length = C.length := by have := congrArg List.length hsh; simpa using this
  have hg := shape_get hsh hj
  have hC : C.getD j tr0 = C[j] := by rw [List.getD_eq_getElem?_getD, List.getElem?_eq_getElem hj]; rfl
  have hL : k.2.2.2.1.getD j tr0 = k.2.2.2.1[j]'(by omega) := by rw [List.getD_eq_getElem?_getD, List.getElem?_eq_getElem (by omega)]; rfl
  have hv := (code_split ok.code).2.2 _ (List.getElem_mem (l := k.2.2.2.1) (n := j) (by omega))
  have hf := hall j hj
  have hr := ok.rng
  unfold rngB at hr
  have hr := List.all_eq_true.1 hr j (List.mem_range.2 (by omega))
  rw [hC, hL] at hg
  rw [hL] at hr
  have hkd : (k.2.2.2.1[j]'(by omega)).1 = C[j].1 := congrArg (fun q : Int × Int => q.1) hg
  unfold fitT at hf
  rw [hC, hL] at hf
  refine vT_of hg hv ?_
  have hvr := vT_rng hv
  rw [hkd] at hvr hr
  by_cases hz : letR k.2.2.2.2.1 k.2.2.2.1 j = 0
  · rw [if_pos hz, decide_eq_true_eq] at hf
    rw [hf] at hvr
    exact hvr
  · rw [if_neg hz] at hf
    have hw := with_rng hf
    simp only [Bool.or_eq_true, beq_iff_eq, Bool.and_eq_true, decide_eq_true_eq] at hr
    rcases hr with hr | hr
    · exact absurd hr hz
    · omega
theorem wrap_valid {v : Int} (hv : v = 256 ∨ v = 65536 ∨ v = 0) {t : Tr} (h : vT (wrapT v t) = true) : vT t = true := by
  unfold wrapT at h
  by_cases hc : t.1 = 6 ∧ -(v / 2) ≤ t.2.2 ∧ t.2.2 < 0
  · rw [if_pos hc] at h
    obtain ⟨k, r, n⟩ := t
    simp only at hc
    obtain ⟨rfl, h1, h2⟩ := hc
    refine vT_of (a := (6, r, n + v)) rfl h ?_
    have e1 : loK (6 : Int).toNat = -32768 := rfl
    have e2 : hiK (6 : Int).toNat = 65535 := rfl
    simp only [e1, e2]
    omega
  · rw [if_neg hc] at h
    exact h
theorem ex_mem {c : Nat} {L : List Tr} {t : Tr} (h : t ∈ L) : t ∈ exL c L := by
  unfold exL
  split
  · rename_i hc
    obtain ⟨-, rfl⟩ := hc
    simp only [List.mem_cons, List.not_mem_nil, or_false] at h ⊢
    exact h.symm
  · exact h
theorem acc_valid {c : Nat} {L : List Tr} (h : ∀ t ∈ accL c L, vT t = true) : ∀ t ∈ L, vT t = true := by
  intro t ht
  unfold accL at h
  by_cases h1 : c = 1 ∧ L.length = 2 ∧ L.head? = some accT
  · rw [if_pos h1] at h
    cases L with
    | nil => cases ht
    | cons a L =>
      obtain ⟨-, -, e⟩ := h1
      obtain rfl : a = accT := Option.some.inj e
      rcases List.mem_cons.1 ht with rfl | ht
      · decide +kernel
      · exact h t ht
  · rw [if_neg h1] at h
    by_cases h2 : c = 2 ∧ L.length = 1
    · rw [if_pos h2] at h
      exact h t (List.mem_cons_of_mem _ ht)
    · rw [if_neg h2] at h
      exact h t ht
theorem acc_short {c : Nat} {L : List Tr} (h : (accL c L).length ≤ 3) : L.length ≤ 3 := by
  unfold accL at h
  by_cases h1 : c = 1 ∧ L.length = 2 ∧ L.head? = some accT
  · omega
  · rw [if_neg h1] at h
    by_cases h2 : c = 2 ∧ L.length = 1
    · omega
    · rw [if_neg h2] at h
      exact h
theorem can_valid {c : Nat} {L : List Tr} (h : ∀ t ∈ canL c L, vT t = true) : ∀ t ∈ L, vT t = true := by
  refine acc_valid (c := c) fun t ht => ?_
  have h1 := h (wrapT (valW (widL c L)) t) (by unfold canL; exact List.mem_map_of_mem (ex_mem ht))
  exact wrap_valid (valW_cases _) h1
theorem can_code {s : ByteArray} {I : List Tr} (hs : knB s = true) (hl : (canL (opc s) I).length ≤ 3) (h : ∀ t ∈ canL (opc s) I, vT t = true) : codeI s I = 0 := by
  have h3 : I.length ≤ 3 := acc_short (c := opc s) (by unfold canL at hl; rw [List.length_map, exL_len] at hl; exact hl)
  unfold codeI
  rw [if_neg (by simp [hs]), if_neg (by omega), if_pos (List.all_eq_true.2 (can_valid h))]
theorem fst_shape {A B : List Tr} (h : A.map ks2 = B.map ks2) : A.any fstB = B.any fstB := by
  have e : ∀ L : List Tr, L.any fstB = (L.map ks2).any fun q => fstB (q.1, q.2, 0) := fun L => by rw [List.any_map]; rfl
  rw [e, e, h]
theorem ix_shape {A B : List Tr} (h : A.map ks2 = B.map ks2) : ixL2 A = ixL2 B := by
  have e : ∀ L : List Tr, ixL2 L = (L.map ks2).foldl (fun a q => max a (ixT (q.1, q.2, 0))) 0 := fun L => by rw [List.foldl_map]; rfl
  rw [e, e, h]
theorem ix_valid : ∀ (L : List Tr) (a : Int), (∀ t ∈ L, vT t = true) → L.foldl (fun a t => max a (idxI t.1 t.2.1 t.2.2)) a = L.foldl (fun a t => max a (ixT t)) a
  | [], _, _ => rfl
  | t :: L, a, h => by
    rw [List.foldl_cons, List.foldl_cons, ixT_idx (h t (List.mem_cons_self ..))]
    exact ix_valid L _ fun u hu => h u (List.mem_cons_of_mem _ hu)
theorem ixC_eq {C : List Tr} (h : ∀ t ∈ C, vT t = true) : ixC C = ixL2 C := by
  unfold ixC ixF ixL2
  rw [List.take_length]
  exact ix_valid C 0 h
theorem sT_sB (m : Str) : sT (sB m) = m := by unfold sT sB; simp
theorem legB_iff (s : ByteArray) (I : List Tr) : legB s I = true ↔ RLeg s I (canL (opc s) I) := by
  obtain ⟨C, hC⟩ : ∃ z, canL (opc s) I = z := ⟨_, rfl⟩
  constructor
  · intro h
    unfold legB at h
    rw [hC] at h ⊢
    obtain ⟨k, hk⟩ := Option.isSome_iff_exists.1 h
    unfold findK candN at hk
    have h1 := List.find?_some hk
    have h2 := List.mem_of_find?_eq_some hk
    obtain ⟨h2, h3⟩ := List.mem_filter.1 h2
    obtain ⟨hin, hm, hsh, hpg⟩ := cand_in h2
    have ok := hin.ok
    have hf : fitsR k.2.2.1 k.2.2.2.1 k.2.2.2.2.1 s C = true := by
      unfold hasK at h1
      rw [has_fits ok.places, sB_sT] at h1
      exact h1
    have hv := fits_valid ok hf
    have hl : k.2.2.2.1.length = C.length := by have := congrArg List.length hsh; simpa using this
    have hlen := ok.len
    have hkn : knB s = true := by
      have := (code_split ok.code).1
      rw [hm, sB_sT] at this
      exact this
    have hcode : codeI s I = 0 := can_code hkn (by rw [hC]; omega) (by rw [hC]; exact hv)
    have hal : k.2.2.2.2.2 = false := by unfold notAl at h3; simpa using h3
    have hfst := ok.fst
    rw [fst_shape hsh] at hfst
    have hlo := ok.lo
    have hhi := ok.hi
    obtain ⟨n, hn, hn2, hr⟩ := hin
    refine ⟨hcode, k.1, n, ?_, ?_, hn, (k.2.2.1, k.2.2.2.1, k.2.2.2.2.1, k.2.2.2.2.2), hr, hal, hf⟩
    · unfold fstI
      rw [hfst]
      by_cases h : 3 ≤ k.1
      · simp [h]
      · simp [h]; omega
    · unfold lstI
      rw [hfst]
      by_cases h : 3 ≤ k.1
      · simp [h]; omega
      · simp [h]; omega
  · rintro ⟨hcode, page, n, -, -, hn, x, hr, hal, hf⟩
    have hin : InTab (page, (n : Int), x.1, x.2.1, x.2.2.1, x.2.2.2) := ⟨n, hn, rfl, hr⟩
    have ok := hin.ok
    have hcv := code_split (can_check hcode)
    rw [hC] at hcv hf
    have hsf := hf
    unfold fitsR shpR at hsf
    simp only [Bool.and_eq_true, decide_eq_true_eq] at hsf
    obtain ⟨⟨hm, hsh⟩, -⟩ := hsf
    have hix := ok.ix
    rw [ix_shape hsh, ← ixC_eq hcv.2.2] at hix
    have hlo := ok.lo
    have hhi := ok.hi
    simp only at hix hlo hhi
    have hpg : page ∈ pagesC C := by
      unfold pagesC
      rw [hix]
      unfold pgIx
      have hp : page = 0 ∨ page = 1 ∨ page = 2 ∨ page = 3 ∨ page = 4 ∨ page = 5 ∨ page = 6 := by omega
      rcases hp with rfl | rfl | rfl | rfl | rfl | rfl | rfl <;> decide
    have hmem : (page, (n : Int), x.1, x.2.1, x.2.2.1, x.2.2.2) ∈ candK (sT s) C := in_cand hin (by rw [← hm, sT_sB]) hsh hpg
    unfold legB findK candN
    rw [hC, List.find?_isSome]
    refine ⟨_, List.mem_filter.2 ⟨hmem, by unfold notAl; simp [hal]⟩, ?_⟩
    unfold hasK
    rw [has_fits ok.places, sB_sT]
    exact hf
end Go.Proofs.YtbbpkoaeedkncaaGreatDoor
namespace Go.Proofs.YtbbpkoaeedkncaaGreatDoor
open Go.RowKit Go.Shelf
attribute [local go_sem] Oper.semAt_some
theorem all_take (R : List Ie) (f : Ie → Bool) {k : Nat} (hk : k < R.length) : (R.take (k + 1)).all f = ((R.take k).all f && f R[k]) := by
  rw [List.take_succ_eq_append_getElem hk, List.all_append]
  simp
theorem c_legB {s : ByteArray} {I : List Tr} {c : Int} (h : (c = 0 ∧ RLeg s I (canL (opc s) I)) ∨ (c ≠ 0 ∧ ¬ RLeg s I (canL (opc s) I))) : (c == 0) = legB s I := by
  rcases h with ⟨rfl, h⟩ | ⟨h0, h⟩
  · rw [(legB_iff s I).2 h]; rfl
  · rw [beq_eq_false_iff_ne.2 h0]
    refine (Bool.eq_false_iff.2 fun e => h ((legB_iff s I).1 e)).symm
theorem walkSL (A : Option Addr) (cap : Nat) (R : List Ie) (w : World) (hm : R.length ≤ maxLen) (H : InsP w A R) (hr : ∀ r ∈ R, r.s.size ≤ maxLen ∧ r.L.length ≤ maxLen) (hM : MaxAt w) :
    Calls Tryz.prog 6 #[.slice A R.length cap] w fun e w' => e = .returned (.bool true) ∧ Below w.heap.size w w' := by
  have hm' := hm
  unfold maxLen at hm'
  have X := Lib.hid H
  have HR := Lib.hid hr
  have HM := Lib.hid hM
  obtain ⟨n, hn⟩ : ∃ n, R.length = n := ⟨_, rfl⟩
  have HN := Lib.hid hn
  rw [hn] at hm hm' ⊢
  clear H hr hn
  by_cases h10 : n ≤ 10
  rotate_left
  · have g1 : (10 : Int) < (n : Int) := by omega
    have g2 : decide ((10 : Int) < (n : Int)) = true := decide_eq_true g1
    have al := salive_any w hM
    clear X HR
    go_enter Tryz.func6, Tryz.ntmps6
    go_wp2_with fail
    refine al.mono ?_
    rintro e w2 ⟨rfl, hb⟩
    have B2 := Lib.hid hb
    clear hb al
    go_wp2
    go_ret
    exact ⟨rfl, B2.out⟩
  clear hM
  have g1 : ¬ (10 : Int) < (n : Int) := by omega
  have g2 : decide ((10 : Int) < (n : Int)) = false := decide_eq_false g1
  go_enter Tryz.func6, Tryz.ntmps6
  go_wp2
  clear g1 g2
  go_loopw [3, 14] (fun x i wr => ∃ (k : Nat) (q : Bool), k ≤ n ∧ i = .int .i64 k ∧ x = .bool q ∧ Hid (q = (R.take k).all fun r => legB r.s r.L) ∧ Hid (∀ j, j < k → ∀ h : j < R.length, R[j].s.size ≤ 100 ∧ R[j].L.length ≤ 20) ∧ Hid (Below w.heap.size w wr)) (fun _ i _ => n - (intOf i).toNat)
  case atStart => exact ⟨0, true, Nat.zero_le _, rfl, rfl, rfl, fun j hj => by omega, Below.refl _ _⟩
  case round =>
    obtain ⟨k, q, hk, rfl, rfl, Q, SM0, B⟩ := hrel
    by_cases hlt : k < n
    · have hkR : k < R.length := by rw [HN.out]; exact hlt
      obtain ⟨b1, o1, hA1, p0, p1, hP⟩ := (X.out.below B.out).at_ hkR
      subst hA1
      have SM : Hid (R[k].s.size ≤ 100 → R[k].L.length ≤ 20 → ∀ j, j < k + 1 → ∀ h : j < R.length, R[j].s.size ≤ 100 ∧ R[j].L.length ≤ 20) := fun q1 q2 j hj h => by
        by_cases e : j = k
        · subst e; exact ⟨q1, q2⟩
        · exact SM0.out j (by omega) h
      have QM : Hid ((R.take (k + 1)).all (fun r => legB r.s r.L) = (q && legB R[k].s R[k].L)) := by rw [Q.out]; exact all_take R _ hkR
      obtain ⟨⟨s, A2, c2, L2⟩, hr⟩ : ∃ r, R[k] = r := ⟨_, rfl⟩
      rw [hr] at p0 p1 hP SM QM
      simp only [Ie.v] at p0 p1 hP SM QM
      obtain ⟨n2, hn2⟩ : ∃ n2, L2.length = n2 := ⟨_, rfl⟩
      rw [hn2] at p1 SM
      obtain ⟨c, hc⟩ : ∃ z, wr.heap.size = z := ⟨_, rfl⟩
      obtain ⟨wa, hwa, a1, a2, a3⟩ := ins_box wr s (.slice A2 n2 c2) c hc
      have BA : Hid (Below w.heap.size w wa) := B.out.trans (a2.mono B.out.size)
      have PA := Lib.hid (hP.below a2)
      have SH := sshort_any s A2 c2 n2 wa
      obtain ⟨b, hb⟩ : ∃ b, (decide (s.size ≤ 100) && decide (n2 ≤ 20)) = b := ⟨_, rfl⟩
      rw [hb] at SH
      have HB := Lib.hid hb
      have CA := Lib.hid a1
      have v0 := Lib.cell_of_heap a1 0
      have v1 := Lib.cell_of_heap a1 1
      have HN2 := Lib.hid hn2
      have HC : Hid (c + 1 ≤ wa.heap.size) := by show _ ≤ _; omega
      have HW : Hid (w.heap.size ≤ c) := by have := B.out.size; show _ ≤ _; omega
      clear hr hkR hP hb hn2 a1 a2 a3 Q SM0 B
      go_wp2_with fail
      refine SH.mono ?_
      rintro e wb ⟨rfl, hb⟩
      have BB : Hid (Below w.heap.size w wb) := BA.out.trans (hb.mono BA.out.size)
      have PB := Lib.hid (PA.out.below hb)
      have CB := Lib.hid ((hb.block c (by have := HC.out; omega)).trans CA.out)
      have ZB : Hid (c + 1 ≤ wb.heap.size) := Nat.le_trans HC.out hb.size
      clear SH hb v0 v1 CA PA
      cases b with
      | false =>
        have al := salive_any wb (HM.out.below BB.out)
        clear SM QM
        go_wp2_with fail
        refine al.mono ?_
        rintro e wc ⟨rfl, hb⟩
        have BC : Hid (Below w.heap.size w wc) := BB.out.trans (hb.mono BB.out.size)
        clear al hb
        go_wp2
        go_ret
        exact ⟨rfl, BC.out⟩
      | true =>
        have hb9 := HB.out
        simp only [Bool.and_eq_true, decide_eq_true_eq] at hb9
        have fi := rfind10_any s (by omega) A2 c2 n2 L2 HN2.out (by omega) wb PB.out
        have SM9 : Hid (∀ j, j < k + 1 → ∀ h : j < R.length, R[j].s.size ≤ 100 ∧ R[j].L.length ≤ 20) := SM.out hb9.1 hb9.2
        have v0 := Lib.cell_of_heap CB.out 0
        have v1 := Lib.cell_of_heap CB.out 1
        clear SM hb9 HB
        go_wp2_with fail
        refine fi.mono ?_
        rintro e wc ⟨g, o, m, Ae, le, ce, ex, al, cd, rfl, hb, hcd⟩
        have BC : Hid (Below w.heap.size w wc) := BB.out.trans (hb.mono BB.out.size)
        have QC := c_legB hcd
        have QN : Hid ((q && (cd == 0)) = (R.take (k + 1)).all fun r => legB r.s r.L) := by show (q && (cd == 0)) = _; rw [QM.out, QC]
        have B7 := fun o => Lib.hid (BC.out.alloc BC.out.size o)
        simp only [enV]
        clear fi hb hcd QC QM v0 v1 CB PB
        cases q with
        | false =>
          go_wp2
          go_roundw
          case rel => exact ⟨k + 1, false, by omega, by go_num, rfl, QN.out, SM9.out, (B7 _).out⟩
          case measure => simp [intOf]; omega
        | true =>
          go_wp2
          go_roundw
          case rel => exact ⟨k + 1, cd == 0, by omega, by go_num, rfl, QN.out, SM9.out, (B7 _).out⟩
          case measure => simp [intOf]; omega
    · obtain rfl : k = n := by omega
      have al := salive_any wr (HM.out.below B.out)
      have QF : Hid (q = R.all fun r => legB r.s r.L) := by
        have h := Q.out
        rw [List.take_of_length_le (by rw [HN.out]; exact Nat.le_refl _)] at h
        exact h
      have RS : Hid (∀ r ∈ R, r.s.size ≤ 1000 ∧ r.L.length ≤ 900) := fun r hr => by
        obtain ⟨j, hj, rfl⟩ := List.getElem_of_mem hr
        have h := SM0.out j (by have := HN.out; omega) hj
        omega
      clear Q SM0
      go_wp2_with fail
      refine al.mono ?_
      rintro e wb ⟨rfl, hb⟩
      have BB : Hid (Below w.heap.size w wb) := B.out.trans (hb.mono B.out.size)
      have le := legal_any A cap k R HN.out (by omega) RS.out wb (HM.out.below BB.out) (X.out.below BB.out)
      rw [← QF.out] at le
      clear al hb B
      go_wp2_with fail
      refine le.mono ?_
      rintro e wc ⟨rfl, hb⟩
      have BC : Hid (Below w.heap.size w wc) := BB.out.trans (hb.mono BB.out.size)
      clear le hb BB
      go_wp2
      go_ret
      exact ⟨ret_bool (by simp), BC.out⟩
end Go.Proofs.YtbbpkoaeedkncaaGreatDoor
