/-
  The reference's Entries.
-/
import Derived.Test.YtipgecdfnbldnaaGreatDoorMEsA
import Derived.Test.YtipgecdfnbldnaaGreatDoorMRfZ
set_option linter.all false
set_option maxRecDepth 100000
set_option maxHeartbeats 4000000
namespace Go.Proofs.YtipgecdfnbldnaaGreatDoor
open Go.RowKit Go.Shelf
def entsR (page : Int) : Nat → List Ke
  | 0 => []
  | k + 1 => match ratT page k with
    | some x => entsR page k ++ [(page, (k : Int), x.1, x.2.1, x.2.2.1, x.2.2.2)]
    | none => entsR page k
theorem rkind_ne (page : Int) (n : Nat) : (rkindT page n == 1) = false := by
  unfold rkindT
  split
  · rfl
  · split
    · rfl
    · split <;> rfl
def RetEs (w : World) (K : List Ke) (e : Ending) (w' : World) : Prop := ∃ A cap R, e = .returned (.slice A R.length cap) ∧ OwnXR w' w.heap.size (.slice A R.length cap) R ∧ R.map Ee.k = K ∧ Below w.heap.size w w'
theorem rents_any (page : Int) (w : World) : Calls Tryz.prog 16 #[.int .i64 page] w (RetEs w (entsR page 256)) := by
  have AT := Lib.hid (fun (k : Nat) (hk : k < 256) (w' : World) => rat_any page k hk w')
  obtain ⟨B, hB⟩ : ∃ B, w.heap.size = B := ⟨_, rfl⟩
  have HB := Lib.hid hB
  have B0 : Hid (Below B w w) := Below.refl _ _
  clear hB
  go_enter Tryz.func16, Tryz.ntmps16
  go_wp2
  go_loopw [4, 3] (fun i v wr => ∃ (k : Nat) (A : Option Addr) (cap : Nat) (R : List Ee), k ≤ 256 ∧ i = .int .i64 k ∧ v = .slice A R.length cap ∧ R.length ≤ k ∧ Hid (OwnXR wr B (.slice A R.length cap) R) ∧ Hid (R.map Ee.k = entsR page k) ∧ Hid (Below B w wr)) (fun i _ _ => 256 - (intOf i).toNat)
  case atStart => exact ⟨0, none, 0, [], Nat.zero_le _, rfl, rfl, Nat.le_refl _, ownXR_nil _ _, rfl, B0.out⟩
  case round =>
    clear B0
    obtain ⟨k, A, cap, R, hk, rfl, rfl, hR, O, HK, BW⟩ := hrel
    obtain ⟨n, hn⟩ : ∃ n, R.length = n := ⟨_, rfl⟩
    have HN := Lib.hid hn
    rw [hn] at O hR ⊢
    clear hn
    by_cases hlt : k < 256
    · have hw8 : IntKind.u8.wrap (k : Int) = k := by rw [IntKind.wrap_u8]; omega
      have SZ : Hid (B ≤ wr.heap.size) := by have := BW.out.size; have := HB.out; show _ ≤ _; omega
      go_wp2_with fail
      refine (AT.out k hlt wr).mono ?_
      rintro e w1 ⟨hres, hb1⟩
      have O1 := Lib.hid (O.out.below hb1)
      have B1 : Hid (Below B w w1) := BW.out.trans (hb1.mono SZ.out)
      have S1 : Hid (B ≤ w1.heap.size) := Nat.le_trans SZ.out hb1.size
      clear hw8 O BW
      cases hx : ratT page k with
      | none =>
        rw [hx] at hres
        subst hres
        have HE : Hid (entsR page (k + 1) = entsR page k) := by show entsR page (k + 1) = _; rw [entsR, hx]
        have hkd := rkind_ne page k
        obtain ⟨kd, hkd2⟩ : ∃ z, rkindT page k = z := ⟨_, rfl⟩
        rw [hkd2] at hkd ⊢
        simp only [enV]
        have O2 := fun o => Lib.hid (O1.out.below (up_alloc w1 o))
        have B2 := fun o => Lib.hid (B1.out.trans ((up_alloc w1 o).mono S1.out))
        clear hx hkd2 hb1 O1 B1
        go_wp2
        go_roundw
        case rel => exact ⟨k + 1, A, cap, R, by omega, by go_num, by rw [HN.out], by rw [HN.out]; omega, by rw [HN.out]; exact (O2 _).out, by rw [HE.out]; exact HK.out, (B2 _).out⟩
        case measure => simp [intOf]; omega
      | some x =>
        obtain ⟨m, L, ex, al⟩ := x
        rw [hx] at hres
        obtain ⟨v, rfl, hO⟩ := hres
        simp only at hO ⊢
        obtain ⟨A5, c5, rfl, hP5, -⟩ := hO.ops
        have T1 : Hid (OwnT w1 B (.slice A5 L.length c5) L) := hO.lift SZ.out
        have P1 := Lib.hid hP5
        have HE : Hid (entsR page (k + 1) = entsR page k ++ [(page, (k : Int), m, L, ex, al)]) := by show entsR page (k + 1) = _; rw [entsR, hx]
        simp only [enV]
        clear hx hb1 hO hP5
        go_upto_region 6 with fail
        obtain ⟨b5, hb5⟩ : ∃ z, w1.heap.size = z := ⟨_, rfl⟩
        obtain ⟨w2, hw2⟩ : ∃ z, w1.alloc (.cells #[.int .i64 page, .int .u8 k, .string (sB m), .slice A5 L.length c5, .string (sB ex), .bool al] 30) = z := ⟨_, rfl⟩
        have hal : Below w1.heap.size w1 w2 := by rw [← hw2]; exact up_alloc _ _
        have E2 : Hid (RnAt w2 b5 page k m (.slice A5 L.length c5) ex al) := by rw [← hw2, ← hb5]; exact World.alloc_heap_new w1 _
        have O2 := Lib.hid (O1.out.below hal)
        have T2 := Lib.hid (T1.out.below hal)
        have P2 := Lib.hid (P1.out.below hal)
        have B2 : Hid (Below B w w2) := B1.out.trans (hal.mono S1.out)
        have S2 : Hid (B ≤ w2.heap.size) := Nat.le_trans S1.out hal.size
        rw [hw2, hb5]
        clear hw2 hb5 hal O1 T1 P1 B1 S1
        obtain ⟨e0, e1, e2, e3, e4, e5, e6⟩ := E2.out.cells
        obtain ⟨q, hq⟩ : ∃ z, L.length = z := ⟨_, rfl⟩
        have HQ := Lib.hid hq
        have ES := es_oneR w2 ⟨page, k, m, A5, c5, L, ex, al⟩ P2.out
        have O3 := O2.out.below (up_alloc w2 (.cells #[.int .i64 page, .int .u8 k, .string (sB m), .slice A5 L.length c5, .string (sB ex), .bool al] 30))
        have T3 : ∀ r ∈ [(⟨page, k, m, A5, c5, L, ex, al⟩ : Ee)], OwnT (w2.alloc (.cells #[.int .i64 page, .int .u8 k, .string (sB m), .slice A5 L.length c5, .string (sB ex), .bool al] 30)) B r.v r.L := fun r hr => by
          obtain rfl := List.mem_singleton.1 hr
          exact T2.out.below (up_alloc _ _)
        have B3 := B2.out.trans ((up_alloc w2 (.cells #[.int .i64 page, .int .u8 k, .string (sB m), .slice A5 L.length c5, .string (sB ex), .bool al] 30)).mono S2.out)
        simp only [Ee.v] at ES
        rw [hq] at ES O3 T3 B3 e3 ⊢
        have ES := Lib.hid ES
        have O3 := Lib.hid O3
        have T3 := Lib.hid T3
        have B3 := Lib.hid B3
        clear hq
        go_wp2_with (at_builtin; refine wpList_appXR O3.out ES.out T3.out (by rw [World.size_alloc]; exact Nat.le_succ_of_le S2.out) (by simp; have := HN.out; omega) rfl _ _ rfl rfl rfl 1 rfl rfl ?_; intro A7 c7 w7 hO7 hB7 hg7; have O7 := Lib.hid hO7; have B7 : Hid (Below B w w7) := B3.out.trans hB7; clear hO7 hB7 hg7)
        have HL7 : Hid ((R ++ [(⟨page, k, m, A5, c5, L, ex, al⟩ : Ee)]).length ≤ k + 1) := by show _ ≤ _; rw [List.length_append, HN.out]; simp; omega
        have HK7 : Hid ((R ++ [(⟨page, k, m, A5, c5, L, ex, al⟩ : Ee)]).map Ee.k = entsR page (k + 1)) := by show _ = _; rw [List.map_append, HE.out, HK.out]; rfl
        go_roundw
        case rel => exact ⟨k + 1, A7, c7, R ++ [(⟨page, k, m, A5, c5, L, ex, al⟩ : Ee)], by omega, by go_num, by simp, HL7.out, O7.out, HK7.out, B7.out⟩
        case measure => simp [intOf]; omega
    · obtain rfl : k = 256 := by omega
      go_wp2
      go_ret
      refine ⟨A, cap, R, by rw [HN.out]; rfl, by rw [HB.out, HN.out]; exact O.out, HK.out, by rw [HB.out]; exact BW.out⟩
end Go.Proofs.YtipgecdfnbldnaaGreatDoor
