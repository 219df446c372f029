/-
  SeVa, NumF, NumG, NumE, NumH, NumI, NumJ, NumL, OpA, Sa, OpB, SeB, Round, Each, Stops, StW, TbC, TbD.
-/
import Derived.Test.YtmnleknehjkmgaaGreatGAA
import Derived.Laws.IdiomStrings
import Derived.Lib.SlBytesRow
import Derived.Deep.OwnRows
import Derived.Laws.EntriesVeiled
import Derived.Deep.QuietTactic
import Derived.BigQuiet
import Derived.RangeFuncBox
import Derived.Deep.DeepCutAuto
import Derived.RangeFuncNested
import Derived.RangeFuncBound
import Derived.RangeFuncCalls
import Derived.RangeFuncLeaves
import Derived.OwnWalkIn
import Derived.TacticsInMore
import Derived.Test.YtmnleknehjkmgaaGreatCut
import Derived.Shelf.Abstract
import Derived.Shelf.RegionOpen
import Derived.WalkKit
import Derived.TacticsIn
import Derived.Deep.Cut
import Derived.LoopNIn
import Derived.LoopIn
import Derived.KernelRfl
set_option linter.all false
set_option maxRecDepth 100000
set_option maxHeartbeats 4000000
namespace Go.Proofs.YtmnleknehjkmgaaGreat
open Go.RowKit
theorem letR_cases (ex : Str) (L : List Tr) (k : Nat) : letR ex L k = 100 ∨ letR ex L k = 101 ∨ letR ex L k = 110 ∨ letR ex L k = 119 ∨ letR ex L k = 0 := by
  unfold letR
  repeat' split
  all_goals simp
def stR (ex : Str) (L : List Tr) (d n : Int) (k : Nat) : Tr := if letR ex L k = 100 then ((L.getD k tr0).1, (L.getD k tr0).2.1, d) else if letR ex L k = 0 then L.getD k tr0 else ((L.getD k tr0).1, (L.getD k tr0).2.1, n)
def okR (ex : Str) (L : List Tr) (d n : Int) (k : Nat) : Bool := letR ex L k == 0 || withR (letR ex L k) (stR ex L d n k).2.2
def useD (ex : Str) (L : List Tr) (d : Int) (k : Nat) : Bool := (d == 0) || (List.range k).any fun j => letR ex L j == 100
def useN (ex : Str) (L : List Tr) (n : Int) (k : Nat) : Bool := (n == 0) || (List.range k).any fun j => letR ex L j != 100 && letR ex L j != 0
def fillR (ex : Str) (L : List Tr) (d n : Int) : Option (List Tr) :=
  if (List.range L.length).all (okR ex L d n) = true ∧ useD ex L d L.length = true ∧ useN ex L n L.length = true then some ((List.range L.length).map (stR ex L d n)) else none
theorem let_d {ex : Str} {L : List Tr} (hp : placesB ex L = true) {k : Nat} (hk : k < L.length) : letR ex L k = 100 ↔ atV (varsV ex).1.1 L = some k := by
  have h := places_at hp k hk
  unfold placeB at h
  constructor
  · intro e
    by_cases h1 : atV (varsV ex).1.1 L = some k
    · exact h1
    · rw [if_neg h1] at h
      by_cases h2 : atV (varsV ex).2.1 L = some k
      · rw [if_pos h2, e] at h
        simp at h
      · rw [if_neg h2, e] at h
        cases h
  · intro h1
    rw [if_pos h1] at h
    simp only [Bool.and_eq_true, beq_iff_eq, decide_eq_true_eq] at h
    exact h.1.1
theorem let_n {ex : Str} {L : List Tr} (hp : placesB ex L = true) {k : Nat} (hk : k < L.length) : (letR ex L k ≠ 100 ∧ letR ex L k ≠ 0) ↔ atV (varsV ex).2.1 L = some k := by
  have h := places_at hp k hk
  unfold placeB at h
  constructor
  · rintro ⟨e1, e2⟩
    by_cases h1 : atV (varsV ex).1.1 L = some k
    · exact absurd ((let_d hp hk).2 h1) e1
    · rw [if_neg h1] at h
      by_cases h2 : atV (varsV ex).2.1 L = some k
      · exact h2
      · rw [if_neg h2] at h
        exact absurd (beq_iff_eq.1 h) e2
  · intro h2
    by_cases h1 : atV (varsV ex).1.1 L = some k
    · rw [if_pos h1] at h
      simp only [Bool.and_eq_true, decide_eq_true_eq] at h
      exact absurd h2 h.2
    · rw [if_neg h1, if_pos h2] at h
      simp only [Bool.and_eq_true, bne_iff_ne, ne_eq, decide_eq_true_eq] at h
      exact h.1
theorem rng_d {ex : Str} {L : List Tr} (hp : placesB ex L = true) {k : Nat} (h1 : atV (varsV ex).1.1 L = some k) (d : Int) : inV (varsV ex).1 d = withR 100 d := by
  have h := places_at hp k (atV_lt h1)
  unfold placeB at h
  rw [if_pos h1] at h
  simp only [Bool.and_eq_true, beq_iff_eq, decide_eq_true_eq] at h
  rw [withR_range]
  unfold inV
  rw [← h.1.2]
theorem rng_n {ex : Str} {L : List Tr} (hp : placesB ex L = true) {k : Nat} (h2 : atV (varsV ex).2.1 L = some k) (n : Int) : inV (varsV ex).2 n = withR (letR ex L k) n := by
  have h := places_at hp k (atV_lt h2)
  unfold placeB at h
  by_cases h1 : atV (varsV ex).1.1 L = some k
  · rw [if_pos h1] at h
    simp only [Bool.and_eq_true, decide_eq_true_eq] at h
    exact absurd h2 h.2
  · rw [if_neg h1, if_pos h2] at h
    simp only [Bool.and_eq_true, bne_iff_ne, ne_eq, decide_eq_true_eq] at h
    rw [withR_range]
    unfold inV
    rw [← h.2]
theorem put_d {ex : Str} {L : List Tr} (hp : placesB ex L = true) (d n : Int) : putB (varsV ex).1 L d = true ↔ (∀ k, k < L.length → letR ex L k = 100 → okR ex L d n k = true) ∧ useD ex L d L.length = true := by
  unfold putB useD
  cases hj : atV (varsV ex).1.1 L with
  | none =>
    simp only [decide_eq_true_eq, Bool.or_eq_true, beq_iff_eq, List.any_eq_true, List.mem_range]
    have hno : ∀ k, k < L.length → letR ex L k ≠ 100 := fun k hk e => by
      have := (let_d hp hk).1 e
      rw [hj] at this
      cases this
    constructor
    · exact fun h => ⟨fun k hk e => absurd e (hno k hk), .inl h⟩
    · rintro ⟨-, h | ⟨k, hk, e⟩⟩
      · exact h
      · exact absurd e (hno k hk)
  | some j =>
    have hjl := atV_lt hj
    have hlj := (let_d hp hjl).2 hj
    simp only
    rw [rng_d hp hj]
    simp only [Bool.or_eq_true, beq_iff_eq, List.any_eq_true, List.mem_range]
    constructor
    · intro h
      refine ⟨fun k hk e => ?_, .inr ⟨j, hjl, hlj⟩⟩
      unfold okR stR
      rw [if_pos e, e]
      simp [h]
    · rintro ⟨h, -⟩
      have := h j hjl hlj
      unfold okR stR at this
      rw [if_pos hlj, hlj] at this
      simpa using this
theorem put_n {ex : Str} {L : List Tr} (hp : placesB ex L = true) (d n : Int) : putB (varsV ex).2 L n = true ↔ (∀ k, k < L.length → letR ex L k ≠ 100 → letR ex L k ≠ 0 → okR ex L d n k = true) ∧ useN ex L n L.length = true := by
  unfold putB useN
  cases hj : atV (varsV ex).2.1 L with
  | none =>
    simp only [decide_eq_true_eq, Bool.or_eq_true, beq_iff_eq, List.any_eq_true, List.mem_range, Bool.and_eq_true, bne_iff_ne, ne_eq]
    have hno : ∀ k, k < L.length → ¬ (letR ex L k ≠ 100 ∧ letR ex L k ≠ 0) := fun k hk e => by
      have := (let_n hp hk).1 e
      rw [hj] at this
      cases this
    constructor
    · exact fun h => ⟨fun k hk e1 e2 => absurd ⟨e1, e2⟩ (hno k hk), .inl h⟩
    · rintro ⟨-, h | ⟨k, hk, e⟩⟩
      · exact h
      · exact absurd e (hno k hk)
  | some j =>
    have hjl := atV_lt hj
    have hlj := (let_n hp hjl).2 hj
    simp only
    rw [rng_n hp hj]
    simp only [Bool.or_eq_true, beq_iff_eq, List.any_eq_true, List.mem_range, Bool.and_eq_true, bne_iff_ne, ne_eq]
    constructor
    · intro h
      refine ⟨fun k hk e1 e2 => ?_, .inr ⟨j, hjl, hlj⟩⟩
      have hkj : k = j := by
        have := (let_n hp hk).1 ⟨e1, e2⟩
        rw [hj] at this
        exact (Option.some.inj this).symm
      subst hkj
      unfold okR stR
      rw [if_neg e1, if_neg e2]
      simp [h]
    · rintro ⟨h, -⟩
      have := h j hjl hlj.1 hlj.2
      unfold okR stR at this
      rw [if_neg hlj.1, if_neg hlj.2] at this
      simpa [hlj.2] using this
theorem putB_shape (v : Vr) {L C : List Tr} (h : L.map ks2 = C.map ks2) (n : Int) : putB v L n = putB v C n := by
  unfold putB
  rw [atV_congr v.1 h]
theorem fill_same {ex : Str} {L : List Tr} (hp : placesB ex L = true) (d n : Int) : fillR ex L d n = fillV ex L d n := by
  have hd := put_d hp d n
  have hn := put_n hp d n
  have hsh := putL_shape (varsV ex).1.1 L d
  rw [← putB_shape _ hsh] at hn
  have hc : ((List.range L.length).all (okR ex L d n) = true ∧ useD ex L d L.length = true ∧ useN ex L n L.length = true) ↔ (putB (varsV ex).1 L d = true ∧ putB (varsV ex).2 (putL (varsV ex).1.1 L d) n = true) := by
    rw [hd, hn, List.all_eq_true]
    constructor
    · rintro ⟨h1, h2, h3⟩
      exact ⟨⟨fun k hk _ => h1 k (List.mem_range.2 hk), h2⟩, fun k hk _ _ => h1 k (List.mem_range.2 hk), h3⟩
    · rintro ⟨⟨h1, h2⟩, h3, h4⟩
      refine ⟨fun k hk => ?_, h2, h4⟩
      have hk := List.mem_range.1 hk
      by_cases e1 : letR ex L k = 100
      · exact h1 k hk e1
      · by_cases e2 : letR ex L k = 0
        · unfold okR
          rw [e2]
          rfl
        · exact h3 k hk e1 e2
  unfold fillR
  by_cases h : putB (varsV ex).1 L d = true ∧ putB (varsV ex).2 (putL (varsV ex).1.1 L d) n = true
  · have hf : fillV ex L d n = some (putL (varsV ex).2.1 (putL (varsV ex).1.1 L d) n) := by unfold fillV; rw [if_pos h]
    rw [if_pos (hc.2 h), hf]
    have hl := len_of_shape (fill_shape hf).1
    refine congrArg some (ext_getD (by rw [List.length_map, List.length_range]; exact hl.symm) fun i hi => ?_)
    rw [List.length_map, List.length_range] at hi
    rw [fill_get hf i hi, List.getD_eq_getElem?_getD, List.getElem?_map, List.getElem?_range hi]
    simp only [Option.map_some, Option.getD_some]
    unfold stR
    by_cases e1 : letR ex L i = 100
    · have a1 := (let_d hp hi).1 e1
      have a2 : atV (varsV ex).2.1 L ≠ some i := fun e => ((let_n hp hi).2 e).1 e1
      rw [if_pos e1, if_neg a2, if_pos a1]
    · have a1 : atV (varsV ex).1.1 L ≠ some i := fun e => e1 ((let_d hp hi).2 e)
      rw [if_neg e1]
      by_cases e2 : letR ex L i = 0
      · have a2 : atV (varsV ex).2.1 L ≠ some i := fun e => ((let_n hp hi).2 e).2 e2
        rw [if_pos e2, if_neg a2, if_neg a1]
      · rw [if_neg e2, if_pos ((let_n hp hi).1 ⟨e1, e2⟩)]
  · have hf : fillV ex L d n = none := by unfold fillV; rw [if_neg h]
    rw [if_neg (fun e => h (hc.1 e)), hf]
end Go.Proofs.YtmnleknehjkmgaaGreat
namespace Go.Proofs.YtmnleknehjkmgaaGreat
open Go.RowKit
def IntsAt (w : World) (A : Option Addr) (zs : List Int) : Prop :=
  zs = [] ∨ ∃ b off, A = some ⟨b, off, none⟩ ∧ ∀ j (h : j < zs.length), w.cell? ⟨b, off + j, none⟩ = some (.int .i64 zs[j])
theorem IntsAt.at_ {w : World} {A : Option Addr} {zs : List Int} (h : IntsAt w A zs) {k : Nat} (hk : k < zs.length) : ∃ b off, A = some ⟨b, off, none⟩ ∧ w.cell? ⟨b, off + k, none⟩ = some (.int .i64 zs[k]) := by
  rcases h with rfl | ⟨b, off, rfl, hc⟩
  · simp at hk
  · exact ⟨b, off, rfl, hc k hk⟩
def fitsB (lo hi : Int) (zs : List Int) : Bool := zs.all fun n => decide (lo ≤ n) && decide (n ≤ hi)
theorem fits_bad (lo hi : Int) (zs : List Int) (k : Nat) (h : k < zs.length) (hb : zs[k] < lo ∨ hi < zs[k]) : fitsB lo hi zs = false := by
  unfold fitsB
  rw [List.all_eq_false]
  refine ⟨zs[k], List.getElem_mem h, ?_⟩
  simp
  omega
theorem fits_all (lo hi : Int) (zs : List Int) (h : ∀ j (h : j < zs.length), lo ≤ zs[j] ∧ zs[j] ≤ hi) : fitsB lo hi zs = true := by
  unfold fitsB
  rw [List.all_eq_true]
  intro x hx
  obtain ⟨j, hj, rfl⟩ := List.getElem_of_mem hx
  have := h j hj
  simp
  omega
theorem fits_any (lo hi : Int) (A : Option Addr) (cap : Nat) (zs : List Int) (hl : zs.length ≤ maxLen) (w : World) (hz : IntsAt w A zs) :
    Calls Tryz.prog 140 #[.int .i64 lo, .int .i64 hi, .slice A zs.length cap] w fun e w' => e = .returned (.bool (fitsB lo hi zs)) ∧ w = w' := by
  unfold maxLen at hl
  have Z := Lib.hid hz
  clear hz
  go_enter Tryz.func140, Tryz.ntmps140
  go_wp2
  go_loop [11] (fun i => ∃ k : Nat, k ≤ zs.length ∧ i = .int .i64 k ∧ Hid (∀ j (h : j < zs.length), j < k → lo ≤ zs[j] ∧ zs[j] ≤ hi)) (fun i => zs.length - (intOf i).toNat)
  case atStart => exact ⟨0, Nat.zero_le _, rfl, fun j h h' => by omega⟩
  case round =>
    obtain ⟨k, hk, rfl, R⟩ := hrel
    by_cases hlt : k < zs.length
    · obtain ⟨b, off, hA, hc⟩ := Z.out.at_ hlt
      subst hA
      by_cases h1 : zs[k] < lo
      · have F := Lib.hid (fits_bad lo hi zs k hlt (.inl h1))
        go_wp2
        go_ret
        exact ⟨ret_bool F.out.symm, rfl⟩
      · by_cases h2 : hi < zs[k]
        · have F := Lib.hid (fits_bad lo hi zs k hlt (.inr h2))
          go_wp2
          go_ret
          exact ⟨ret_bool F.out.symm, rfl⟩
        · have N : Hid (∀ j (h : j < zs.length), j < k + 1 → lo ≤ zs[j] ∧ zs[j] ≤ hi) := fun j h h' => by
            by_cases e : j = k
            · subst e; omega
            · exact R.out j h (by omega)
          go_wp2
          go_round
          case rel => exact ⟨k + 1, by omega, by go_num, N⟩
          case measure => simp [intOf]; omega
    · have F := Lib.hid (fits_all lo hi zs fun j h => R.out j h (by omega))
      go_wp2
      go_ret
      exact ⟨ret_bool F.out.symm, rfl⟩
end Go.Proofs.YtmnleknehjkmgaaGreat
namespace Go.Proofs.YtmnleknehjkmgaaGreat
open Go.RowKit
end Go.Proofs.YtmnleknehjkmgaaGreat
namespace Go.Proofs.YtmnleknehjkmgaaGreat
open Go.RowKit
end Go.Proofs.YtmnleknehjkmgaaGreat
namespace Go.Proofs.YtmnleknehjkmgaaGreat
open Go.RowKit
end Go.Proofs.YtmnleknehjkmgaaGreat
namespace Go.Proofs.YtmnleknehjkmgaaGreat
open Go.RowKit
theorem rsigned_any (c : Int) (h0 : 0 ≤ c) (h1 : c ≤ 255) (w : World) :
    Calls Tryz.prog 47 #[.int .u8 c] w fun e w' => e = .returned (.int .i64 (sgnI c)) ∧ w = w' := by
  by_cases h : 128 ≤ c
  · have D := Lib.hid (show c - 256 = sgnI c by unfold sgnI; rw [if_neg (by omega)])
    go_enter Tryz.func47, Tryz.ntmps47
    go_wp2
    go_ret
    exact ⟨ret_int D.out, rfl⟩
  · have D := Lib.hid (show c = sgnI c by unfold sgnI; rw [if_pos (by omega)])
    go_enter Tryz.func47, Tryz.ntmps47
    go_wp2
    go_ret
    exact ⟨ret_int D.out, rfl⟩
end Go.Proofs.YtmnleknehjkmgaaGreat
namespace Go.Proofs.YtmnleknehjkmgaaGreat
open Go.RowKit
end Go.Proofs.YtmnleknehjkmgaaGreat
namespace Go.Proofs.YtmnleknehjkmgaaGreat
end Go.Proofs.YtmnleknehjkmgaaGreat
namespace Go.Proofs.YtmnleknehjkmgaaGreat
open Go.RowKit
def nmL : Nat → List ByteArray
  | 1 => [⟨#[66]⟩, ⟨#[67]⟩, ⟨#[68]⟩, ⟨#[69]⟩, ⟨#[72]⟩, ⟨#[76]⟩, ⟨#[]⟩, ⟨#[65]⟩]
  | 2 => [⟨#[73, 88, 72]⟩, ⟨#[73, 88, 76]⟩, ⟨#[73, 89, 72]⟩, ⟨#[73, 89, 76]⟩]
  | 3 => [⟨#[66, 67]⟩, ⟨#[68, 69]⟩, ⟨#[72, 76]⟩, ⟨#[83, 80]⟩, ⟨#[65, 70]⟩, ⟨#[73, 88]⟩, ⟨#[73, 89]⟩, ⟨#[65, 70, 39]⟩]
  | 4 => [⟨#[66, 67]⟩, ⟨#[68, 69]⟩, ⟨#[72, 76]⟩, ⟨#[83, 80]⟩, ⟨#[]⟩, ⟨#[73, 88]⟩, ⟨#[73, 89]⟩, ⟨#[]⟩, ⟨#[67]⟩]
  | 5 => [⟨#[]⟩, ⟨#[]⟩, ⟨#[]⟩, ⟨#[]⟩, ⟨#[]⟩, ⟨#[73, 88]⟩, ⟨#[73, 89]⟩]
  | 8 => [⟨#[78, 90]⟩, ⟨#[90]⟩, ⟨#[78, 67]⟩, ⟨#[67]⟩, ⟨#[80, 79]⟩, ⟨#[80, 69]⟩, ⟨#[80]⟩, ⟨#[77]⟩]
  | 9 => [⟨#[73]⟩, ⟨#[82]⟩]
  | _ => []
def atS (L : List ByteArray) (r : Int) : ByteArray := if 0 ≤ r then L.getD r.toNat ⟨#[]⟩ else ⟨#[]⟩
def neB (s : ByteArray) : Bool := !s.toList.isEmpty
def nmS (k : Nat) (r : Int) : ByteArray := atS (nmL k) r
end Go.Proofs.YtmnleknehjkmgaaGreat
namespace Go.Proofs.YtmnleknehjkmgaaGreat
open Go.RowKit
def StrsA (w : World) (A : Option Addr) (L : List ByteArray) : Prop := L = [] ∨ ∃ b off, A = some ⟨b, off, none⟩ ∧ ∀ j (h : j < L.length), w.cell? ⟨b, off + j, none⟩ = some (.string L[j])
theorem StrsA.at_ {w : World} {A : Option Addr} {L : List ByteArray} (h : StrsA w A L) {k : Nat} (hk : k < L.length) : ∃ b off, A = some ⟨b, off, none⟩ ∧ w.cell? ⟨b, off + k, none⟩ = some (.string L[k]) := by
  rcases h with rfl | ⟨b, off, rfl, hc⟩
  · simp at hk
  · exact ⟨b, off, rfl, hc k hk⟩
theorem StrsA.below {w w' : World} {A : Option Addr} {L : List ByteArray} (h : StrsA w A L) (hb : Below w.heap.size w w') : StrsA w' A L := by
  rcases h with rfl | ⟨b, off, rfl, hc⟩
  · exact .inl rfl
  · exact .inr ⟨b, off, rfl, fun j hj => (hb.cell (World.block_lt_of_cell? w _ (hc j hj))).trans (hc j hj)⟩
end Go.Proofs.YtmnleknehjkmgaaGreat
namespace Go.Proofs.YtmnleknehjkmgaaGreat
open Go.RowKit
theorem fits1_yes (lo hi n : Int) (h0 : lo ≤ n) (h1 : n ≤ hi) : fitsB lo hi [n] = true := by simp [fitsB]; omega
theorem fits1_no (lo hi n : Int) (h : n < lo ∨ hi < n) : fitsB lo hi [n] = false := by simp [fitsB]; omega
theorem fit1_any (lo hi x : Int) (b : Nat) (q : Bool) (hq : fitsB lo hi [x] = q) (w : World) (hc : w.cell? ⟨b, 0, none⟩ = some (.int .i64 x)) :
    Calls Tryz.prog 140 #[.int .i64 lo, .int .i64 hi, .slice (some ⟨b, 0, none⟩) 1 1] w fun e w' => e = .returned (.bool q) ∧ w = w' := by
  subst hq
  refine fits_any lo hi _ 1 [x] (by simp [maxLen]) w (.inr ⟨b, 0, rfl, fun j h => ?_⟩)
  obtain rfl : j = 0 := by simp at h; omega
  exact hc
end Go.Proofs.YtmnleknehjkmgaaGreat
namespace Go.Proofs.YtmnleknehjkmgaaGreat
open Go.RowKit
def KsP (w : World) (A : Option Addr) (L : List Int) : Prop := L = [] ∨ ∃ b off, A = some ⟨b, off, none⟩ ∧ ∀ k (h : k < L.length), w.cell? ⟨b, off + k, none⟩ = some (.int .i64 L[k])
theorem KsP.below {w w' : World} {A : Option Addr} {L : List Int} (h : KsP w A L) (hb : Below w.heap.size w w') : KsP w' A L := by
  rcases h with rfl | ⟨b, off, rfl, hc⟩
  · exact .inl rfl
  · exact .inr ⟨b, off, rfl, fun k hk => (hb.cell (World.block_lt_of_cell? w _ (hc k hk))).trans (hc k hk)⟩
theorem KsP.at_ {w : World} {A : Option Addr} {L : List Int} (h : KsP w A L) {k : Nat} (hk : k < L.length) : ∃ b off, A = some ⟨b, off, none⟩ ∧ w.cell? ⟨b, off + k, none⟩ = some (.int .i64 L[k]) := by
  rcases h with rfl | ⟨b, off, rfl, hc⟩
  · simp at hk
  · exact ⟨b, off, rfl, hc k hk⟩
theorem indexI_any (A : Option Addr) (c n : Nat) (L : List Int) (hn : L.length = n) (hL : n ≤ 1000) (x : Int) (w : World) (H : KsP w A L) :
    Calls Tryz.prog 151 #[.slice A n c, .int .i64 x] w fun e w' => (∃ i : Int, e = .returned (.int .i64 i) ∧ decide (0 ≤ i) = decide (x ∈ L)) ∧ w' = w := by
  have X := Lib.hid H
  have HN := Lib.hid hn
  clear H hn
  go_enter Tryz.func151, Tryz.ntmps151
  go_wp2
  go_loopw [8] (fun i wr => ∃ j : Nat, j ≤ n ∧ i = .int .i64 j ∧ Hid (∀ k, k < j → ∀ (a : k < L.length), L[k] ≠ x) ∧ Hid (wr = w)) (fun i _ => n - (intOf i).toNat)
  case atStart => exact ⟨0, Nat.zero_le _, rfl, fun k h => by omega, rfl⟩
  case round =>
    obtain ⟨j, hj, rfl, R, B⟩ := hrel
    by_cases hlt : j < n
    · have hj1 : j < L.length := by have := HN.out; omega
      obtain ⟨b1, o1, hA1, p0⟩ := X.out.at_ hj1
      rw [← B.out] at p0
      subst hA1
      by_cases he : L[j] = x
      · have T : Hid (x ∈ L) := he ▸ List.getElem_mem hj1
        have he' := he.symm
        rw [he] at p0
        clear he he' hj1 R
        go_wp2
        go_ret
        exact ⟨⟨_, rfl, by rw [decide_eq_true T.out]; exact decide_eq_true (by omega)⟩, B.out⟩
      · have R2 : Hid (∀ k, k < j + 1 → ∀ (a : k < L.length), L[k] ≠ x) := fun k hk a => by
          by_cases e : k = j
          · subst e; exact he
          · exact R.out k (by omega) a
        obtain ⟨y, hy⟩ : ∃ y, L[j] = y := ⟨_, rfl⟩
        rw [hy] at p0 he
        have hne : (x == y) = false := beq_eq_false_iff_ne.2 fun e => he e.symm
        clear hy he hj1 R
        go_wp2
        go_roundw
        case rel => exact ⟨j + 1, by omega, by go_num, R2.out, B.out⟩
        case measure => simp [intOf]; omega
    · have T : Hid (x ∉ L) := fun hm => by
        obtain ⟨k, hk, he⟩ := List.getElem_of_mem hm
        exact R.out k (by have := HN.out; omega) hk he
      clear R
      go_wp2
      go_ret
      exact ⟨⟨_, rfl, by rw [decide_eq_false T.out]; rfl⟩, B.out⟩
theorem containsI_any (A : Option Addr) (c n : Nat) (L : List Int) (hn : L.length = n) (hL : n ≤ 1000) (x : Int) (w : World) (H : KsP w A L) :
    Calls Tryz.prog 138 #[.slice A n c, .int .i64 x] w fun e w' => e = .returned (.bool (decide (x ∈ L))) ∧ w' = w := by
  have IX := Lib.hid (indexI_any A c n L hn hL x w H)
  obtain ⟨q, hq⟩ : ∃ q, decide (x ∈ L) = q := ⟨_, rfl⟩
  rw [hq] at IX ⊢
  clear H hq hn
  go_enter Tryz.func138, Tryz.ntmps138
  go_wp2_with fail
  refine IX.out.mono ?_
  rintro e w1 ⟨⟨i, rfl, hi⟩, rfl⟩
  have Q := Lib.hid hi
  clear IX
  clear hi
  go_wp2
  go_ret
  exact ⟨ret_bool Q.out, rfl⟩
def VarA (w : World) (v : Value) (x : Vr) : Prop := ∃ b1 b2 b3 A cap, v = .agg #[.func (.func 137) #[] #[.pointer (some ⟨b1, 0, none⟩)], .func (.func 139) #[] #[.pointer (some ⟨b2, 0, none⟩), .pointer (some ⟨b3, 0, none⟩)]] ∧
  Boxed w b1 38 (.slice A x.1.length cap) ∧ KsP w A x.1 ∧ Boxed w b2 3 (.int .i64 x.2.1) ∧ Boxed w b3 3 (.int .i64 x.2.2) ∧ x.1.length ≤ 1000
theorem Boxed.under {w w' : World} {b : Nat} {t : TypeId} {v : Value} (h : Boxed w b t v) (hb : Below w.heap.size w w') : Boxed w' b t v := (hb.block b h.lt).trans h
theorem VarA.below {w w' : World} {v : Value} {x : Vr} (h : VarA w v x) (hb : Below w.heap.size w w') : VarA w' v x := by
  obtain ⟨b1, b2, b3, A, cap, rfl, h1, h2, h3, h4, h5⟩ := h
  exact ⟨b1, b2, b3, A, cap, rfl, Boxed.under h1 hb, h2.below hb, Boxed.under h3 hb, Boxed.under h4 hb, h5⟩
theorem ofKinds_any (A : Option Addr) (n cap : Nat) (w : World) : Calls Tryz.prog 123 #[.slice A n cap] w fun e w' => e = .returned (.func (.func 137) #[] #[.pointer (some ⟨w.heap.size, 0, none⟩)]) ∧ w.alloc (.cells #[.slice A n cap] 38) = w' := by
  go_enter Tryz.func123, Tryz.ntmps123
  go_wp2
  go_ret
  exact ⟨rfl, rfl⟩
theorem within_any (lo hi : Int) (w : World) : Calls Tryz.prog 124 #[.int .i64 lo, .int .i64 hi] w fun e w' => e = .returned (.func (.func 139) #[] #[.pointer (some ⟨w.heap.size, 0, none⟩), .pointer (some ⟨w.heap.size + 1, 0, none⟩)]) ∧ (w.alloc (.cells #[.int .i64 lo] 3)).alloc (.cells #[.int .i64 hi] 3) = w' := by
  go_enter Tryz.func124, Tryz.ntmps124
  go_wp2
  go_ret
  exact ⟨rfl, rfl⟩
theorem isIn_any (b1 : Nat) (A : Option Addr) (cap n : Nat) (L : List Int) (hn : L.length = n) (hL : n ≤ 1000) (t : Tr) (w : World) (h1 : Boxed w b1 38 (.slice A n cap)) (h2 : KsP w A L) :
    Calls Tryz.prog 137 #[.agg #[.int .i64 t.1, .int .i64 t.2.1, .int .i64 t.2.2], .pointer (some ⟨b1, 0, none⟩)] w fun e w' => e = .returned (.bool (decide (t.1 ∈ L))) ∧ Below w.heap.size w w' := by
  obtain ⟨t0, t1, t2⟩ := t
  simp only
  have hal : Below w.heap.size w (w.alloc (.cells #[.int .i64 t0, .int .i64 t1, .int .i64 t2] 67)) := (Below.refl _ _).alloc (Nat.le_refl _) _
  have C := Lib.hid (containsI_any A cap n L hn hL t0 _ (h2.below hal))
  have c1 := (Boxed.under h1 hal).cell
  have hne : b1 ≠ w.heap.size := by have := h1.lt; omega
  have B := Lib.hid hal
  obtain ⟨q, hq⟩ : ∃ q, decide (t0 ∈ L) = q := ⟨_, rfl⟩
  rw [hq] at C ⊢
  obtain ⟨wa, hwa⟩ : ∃ wa, w.alloc (.cells #[.int .i64 t0, .int .i64 t1, .int .i64 t2] 67) = wa := ⟨_, rfl⟩
  have n0 : (w.alloc (.cells #[.int .i64 t0, .int .i64 t1, .int .i64 t2] 67)).heap[w.heap.size]? = some (.cells #[.int .i64 t0, .int .i64 t1, .int .i64 t2] 67 (0, 0)) := World.alloc_heap_new w _
  rw [hwa] at c1 n0 C B
  have k0 := Lib.cell_of_heap n0 0
  have HW := Lib.hid hwa
  clear hal h1 h2 hq hn n0 hwa
  go_enter Tryz.func137, Tryz.ntmps137
  go_upto_region 1 with fail
  rw [HW.out]
  go_wp2_with fail
  refine C.out.mono ?_
  rintro e w1 ⟨rfl, rfl⟩
  go_wp2
  go_ret
  exact ⟨rfl, B.out⟩
theorem fits_in (v : Vr) (n : Int) : fitsB v.2.1 v.2.2 [n] = inV v n := by
  unfold inV
  by_cases h : v.2.1 ≤ n ∧ n ≤ v.2.2
  · rw [fits1_yes _ _ _ h.1 h.2, decide_eq_true h.1, decide_eq_true h.2]; rfl
  · rw [fits1_no _ _ _ (by omega)]
    by_cases h1 : v.2.1 ≤ n
    · rw [decide_eq_true h1, decide_eq_false (fun h2 => h ⟨h1, h2⟩)]; rfl
    · rw [decide_eq_false h1]; rfl
theorem allows_any (b2 b3 : Nat) (v : Vr) (n : Int) (w : World) (h1 : Boxed w b2 3 (.int .i64 v.2.1)) (h2 : Boxed w b3 3 (.int .i64 v.2.2)) :
    Calls Tryz.prog 139 #[.int .i64 n, .pointer (some ⟨b2, 0, none⟩), .pointer (some ⟨b3, 0, none⟩)] w fun e w' => e = .returned (.bool (inV v n)) ∧ Below w.heap.size w w' := by
  have hal : Below w.heap.size w (w.alloc (.cells #[.int .i64 n] 3)) := (Below.refl _ _).alloc (Nat.le_refl _) _
  have C := Lib.hid (fit1_any v.2.1 v.2.2 n w.heap.size (inV v n) (fits_in v n) (w.alloc (.cells #[.int .i64 n] 3)) (by simp [go_sem]))
  have B := Lib.hid hal
  have c1 := h1.cell
  have c2 := h2.cell
  obtain ⟨q, hq⟩ : ∃ q, inV v n = q := ⟨_, rfl⟩
  rw [hq] at C ⊢
  clear hal h1 h2 hq
  go_enter Tryz.func139, Tryz.ntmps139
  go_wp2_with fail
  refine C.out.mono ?_
  rintro e w1 ⟨rfl, rfl⟩
  go_wp2
  go_ret
  exact ⟨rfl, B.out⟩
end Go.Proofs.YtmnleknehjkmgaaGreat
namespace Go.Mixed
open Go
theorem rowsIn_wide {n : Nat} {P : Program} {row : String} {args : Array Value} {w : World} {R : Value → World → Prop} (h : Rows P row args w R) : RowsIn Fence.wide n P row args w R := fun c cs _ =>
  let ⟨v, w', r, s⟩ := h c cs; ⟨v, w', r, stepsIn_wide.2 s⟩
theorem opsIn_of_ops {P : Program} {r n : Nat} {ops : Array Oper} {Q : Exit → Act → World → Prop} (hnd : ∀ (i : Nat) (o : Oper), ops[i]? = some o → ∀ c, o.op ≠ .defer c) (hQ : ¬ LetsOut Q) :
    ∀ (l : List Nat) (a : Act) (w : World), wpOps P ops Q l a w → wpOpsIn (Fence.wide.inRound r) n P ops Q l a w
  | [], a, w, h => h
  | i :: rest, a, w, h => by
    have ih := opsIn_of_ops (P := P) (r := r) (n := n) hnd hQ rest
    simp only [wpOps] at h
    simp only [wpOpsIn]
    cases ho : ops[i]? with
    | none => simp only [ho] at h; exact ih _ _ h
    | some o =>
      simp only [ho] at h ⊢
      by_cases hw : Region.wanted o (yielded ops a.tmps) = true
      · simp only [hw, if_true] at h ⊢
        rcases h with h | h
        · refine ⟨fun _ _ => trivial, ?_⟩
          rw [Oper.semAt_eq _ _ _ (hnd i o ho)]
          unfold Oper.wp at h
          generalize (execOp a.eval o).run P w = rs at *
          cases rs with
          | ok x w' =>
            cases x <;> simp only [Oper.upon] at h
            case value v => exact ih _ _ h
            case skip => exact ih _ _ h
            case defer d => exact ih _ _ h
            case enter f args =>
              refine ⟨fun h => (by cases h), CallsIn.inRound r (callsIn_wide.2 (h.mono fun e w'' he => ?_))⟩
              cases e with
              | returned v => exact ih _ _ he
              | panicked c => exact he
              | outgrown => exact he
            case row row args =>
              refine ⟨fun h => (by cases h), ?_⟩
              have h2 := rowsIn_wide (n := n - 1) (h.mono fun v w'' hv => ih _ _ hv)
              exact h2
          | halt x w' =>
            cases x <;> simp only [Oper.upon] at h
            case panic v => exact h
        · exact absurd h.2 hQ
      · have hw' : Region.wanted o (yielded ops a.tmps) = false := by simpa using hw
        simp only [hw', Bool.false_eq_true, if_false] at h ⊢
        exact ⟨fun _ _ => trivial, ih _ _ h⟩
def noDefer (l : List Oper) : Bool := l.all fun o => match o.op with | .defer _ => false | _ => true
theorem noDefer_spec {l : List Oper} (h : noDefer l = true) : ∀ (i : Nat) (o : Oper), l.toArray[i]? = some o → ∀ c, o.op ≠ .defer c := fun i o ho c e => by
  have hm : o ∈ l := by
    have := Array.mem_of_getElem? ho
    simpa using this
  have := List.all_eq_true.1 h o hm
  rw [e] at this
  cases this
theorem wpIn_region_mixed {id r m : Nat} {P : Program} {Q : Exit → Act → World → Prop} {a : Act} {w : World} {l : List Oper} (C : World → Prop) (n : Nat) (ord : List (Nat × Bool)) (hm : P.follows .mixedOrders = true) (hQ : ¬ LetsOut Q) (hd : noDefer l = true) (hB : mixedB .any l.toArray n ord = true)
    (hC : C w.drew) (h : wpMix P l.toArray C (fun a' w' => wpList P l.toArray Q (l.drop n) a' w') ord a w.drew) : (Code.region id l.toArray true).wpIn (Fence.wide.inRound r) m P Q a w := by
  simp only [mixedB, Bool.and_eq_true, decide_eq_true_eq] at hB
  obtain ⟨⟨⟨⟨⟨hsel, hn⟩, hlen⟩, hs⟩, hc⟩, hord⟩ := hB
  have hdl : (l.drop n).length = l.toArray.size - n := by simp
  have inv0 : HeadInv .any l.toArray n (Array.replicate l.toArray.size false) :=
    ⟨by simp, fun j oj _ hl => (by rw [getD_replicate_false] at hl; cases hl), fun t _ ht => getD_in (by simpa using ht) (getD_replicate_false _ _)⟩
  have H := wpAnyC_ord hsel hs hc hn ord _ a w.drew inv0 hord hC h
  have h3 := wpAny_of_headC (Q' := Q) (g := l.toArray.size - n) (fun listed a' w' hL => by
    have := wpAny_of_seq (md := .any) (Q' := Q) (l.drop n) n listed a' w' (fun j => by simp [List.getElem?_drop]) (by rw [hdl]; exact hL.1) hL.2
    rwa [hdl] at this) _ _ _ _ H
  rw [hlen] at h3
  refine wpIn_region_draw fun t => opsIn_of_ops (noDefer_spec hd) hQ _ _ _ ?_
  simp only [Region.schedule, hm, Bool.true_or, if_true]
  exact wpAny_sound _ t _ a _ h3
end Go.Mixed
namespace Go.Each
open Go Go.RowKit
variable {F : Fence} {n : Nat} {P : Program}
end Go.Each
namespace Go.Stops
open Go Go.RowKit
def Apart {β : Type} (Bs : Nat) (J : β → World → Prop) : Prop := ∀ s X Y, J s X → X.grownBy Y (some Bs) → J s Y
def Tells {α : Type} (F : Fence) (n : Nat) (P : Program) (g : Nat) (lb : Array Value) (encs : α → Array Value) (E : List α → α → Prop) (Bs : Nat) (Kp : World → World → Prop) (S : List α → Prop) (w : World) : Prop :=
  ∀ (l : Nat) (J Jx : List α → World → Prop) (W : World), Below w.heap.size w W → AbidesFrom W.heap.size J → Apart Bs J →
    (∀ pre x W1, J pre W1 → E pre x → YieldAt F (n - 1) P l (encs x) W1 fun e W' => (e = .returned (.bool true) ∧ J (pre ++ [x]) W' ∧ Kp W1 W') ∨ (e = .returned (.bool false) ∧ Jx (pre ++ [x]) W')) →
    AbidesFrom W.heap.size Jx → J [] W → CallsIn F n P g (#[.func (.yield l) #[] #[]] ++ lb) W fun e W' => (∃ v, e = .returned v) ∧ ((∃ xs, S xs ∧ J xs W') ∨ ∃ pre, Jx pre W')
def endsSo {α : Type} (B : Nat) (Kp : World → World → Prop) (I Ix : List α → World → Prop) (xs : List α) (W : World) : Exit → Act → World → Prop
  | .normal, _, W' => KeepsFrom B W W' ∧ Kp W W' ∧ I xs W'
  | .ret, _, W' => KeepsFrom B W W' ∧ Ix xs W'
  | .exit _, _, _ => False
  | .goto _, _, _ => False
  | .panic _, _, _ => False
  | .outgrown, _, _ => False
variable {F : Fence} {n : Nat} {P : Program}
theorem wpIn_tellsA {α : Type} {g : Operand} {ps : Array Tmp} {assign body : Code} {Q : Exit → Act → World → Prop} {a : Act} {w : World} (hro : F.round = none) (h1 : 1 ≤ n)
    {gf : Nat} {lb : Array Value} (hg : a.eval g = .func (.func gf) #[] lb) (hFg : F.fn gf) (eg : ∀ args w, (callFunc gf args).run P w = .ok (.enter gf args) w)
    {encs : α → Array Value} {E : List α → α → Prop} {Bs : Nat} {Kp : World → World → Prop} {S : List α → Prop} (hseq : Tells F (n - 1) P gf lb encs E Bs Kp S w) (hBs : Bs < w.heap.size)
    (hKt : ∀ {A B C : World}, Kp A B → Kp B C → Kp A C) (hKb : ∀ (W : World) (l : Nat) (o o' : Obj), w.heap.size ≤ l → W.heap[l]? = some o → o.isCells = false → Kp W (W.putObj l o')) (hps : ∀ x, (encs x).size = ps.size)
    (I Ix : List α → World → Prop) (hI : OwnFrom w.heap.size I) (hIB : Apart Bs I) (hIx : OwnFrom w.heap.size Ix) (h0 : I [] w) (Ax : α → Act → World → Prop) (hAx : ∀ x, OwnFrom w.heap.size (Ax x))
    (hassign : ∀ (l : Nat) (pre : List α) (x : α) (W : World) (K : Act → World → Prop), I pre W → E pre x → (∀ a' W', KeepsFrom w.heap.size W W' → Kp W W' → I pre W' → Ax x a' W' → K a' W') →
      assign.wpIn (F.inRound l) (n - 1 - 1) P (Exit.then K (fun _ _ _ => False)) { tmps := (ps.zip (encs x)).foldl (fun t (p, v) => t.setIfInBounds p v) a.tmps, defers := [] } W)
    (hbody : ∀ (l : Nat) (pre : List α) (x : α) (a' : Act) (W : World), I pre W → Ax x a' W → E pre x → body.wpIn (F.inRound l) (n - 1 - 1) P (endsSo w.heap.size Kp I Ix (pre ++ [x]) W) a' W)
    (hdone : ∀ (D : Nat) (xs : List α) (W : World), w.heap.size ≤ D → S xs → I xs W → W.heap[D]? = some (.deferred (some [])) → Q .normal { a with defers := { target := .collected D, args := #[] } :: a.defers } W)
    (hstop : ∀ (D : Nat) (pre : List α) (W : World), w.heap.size ≤ D → Ix pre W → W.heap[D]? = some (.deferred (some [])) → Code.ret.wpIn F n P Q { a with defers := { target := .collected D, args := #[] } :: a.defers } W) :
    (Code.rangeFunc g ps assign body).wpIn F n P Q a w := by
  refine wpIn_rangeFunc fun fn hfn => ?_
  rw [hro]
  let R : LoopState → Option Code → Loop := fun st j => { state := st, pending := j, fn := fn, tmps := a.tmps, params := ps, assign := assign, body := body, defers := w.heap.size }
  let B : World := (w.alloc (.deferred (some []))).alloc (.loop (R .ready none))
  have bD : B.heap[w.heap.size]? = some (.deferred (some [])) := (Below.heap_alloc _ _ _ (by simp)).trans (World.alloc_heap_new w _)
  have bL : B.heap[w.heap.size + 1]? = some (.loop (R .ready none)) := by
    have h := World.alloc_heap_new (w.alloc (.deferred (some []))) (.loop (R .ready none))
    rwa [World.size_alloc] at h
  have bI : I [] B := hI.alloc _ (hI.alloc _ h0)
  have bB : Below w.heap.size w B := ((Below.refl _ w).alloc (Nat.le_refl _) _).alloc (by simp) _
  have bz : B.heap.size = w.heap.size + 1 + 1 := by simp [B]
  -- what a turn of a walk of the iterator's own leaves of the two blocks
  have walk : ∀ {X Y : World} {row : Option Nat} {k : Nat} {o : Obj}, X.grownBy Y row → (∀ r, row = some r → B.heap.size ≤ r ∧ ∃ o : Obj, X.heap[r]? = some o ∧ o.isWalk = true) → X.heap[k]? = some o → k < w.heap.size + 2 → Y.heap[k]? = some o := fun hg' hr hk hlt =>
    (hg'.block _ (Array.getElem?_eq_some_iff.1 hk).1 fun e => by have := (hr _ e.symm).1; omega).trans hk
  have cells : ∀ {X Y : World} {row : Option Nat}, (∀ r, row = some r → B.heap.size ≤ r ∧ ∃ o : Obj, X.heap[r]? = some o ∧ o.isWalk = true) → (∀ r, row = some r → w.heap.size ≤ r ∧ ∃ o : Obj, X.heap[r]? = some o ∧ o.isCells = false) := fun hr r e => by
    obtain ⟨k1, o, k2, k3⟩ := hr r e
    exact ⟨by omega, o, k2, Obj.not_cells_of_walk k3⟩
  refine ⟨w.heap.size + 1, [{ target := .collected w.heap.size, args := #[] }], B, { target := .fn (.func gf) lb, args := #[.func (.yield (w.heap.size + 1)) #[] #[]] }, B, gf, #[.func (.yield (w.heap.size + 1)) #[] #[]] ++ lb, B,
    run_enterLoop_outer _ _ _ _ _, by simp only [resolve, hg]; simp [go_sem], fun f' hf' => by simp [Target.leads] at hf'; subst hf'; exact hFg, by simp [invoke, go_sem, eg], fun _ => h1, ?_⟩
  refine (hseq (w.heap.size + 1) (fun pre W => I pre W ∧ W.heap[w.heap.size + 1]? = some (.loop (R .ready none)) ∧ W.heap[w.heap.size]? = some (.deferred (some [])))
    (fun pre W => Ix pre W ∧ W.heap[w.heap.size + 1]? = some (.loop (R .done (some .ret))) ∧ W.heap[w.heap.size]? = some (.deferred (some []))) B bB ?_ ?_ ?_ ?_ ⟨bI, bL, bD⟩).mono ?_
  · rintro s X Y row ⟨s1, s2, s3⟩ hg' hr
    exact ⟨hI s X Y row s1 hg' (cells (Y := Y) hr), walk hg' hr s2 (by omega), walk hg' hr s3 (by omega)⟩
  · rintro s X Y ⟨s1, s2, s3⟩ hg'
    have q : ∀ {k : Nat} {o : Obj}, w.heap.size ≤ k → X.heap[k]? = some o → Y.heap[k]? = some o := fun hk ho => (hg'.block _ (Array.getElem?_eq_some_iff.1 ho).1 fun e => by have := Option.some.inj e; omega).trans ho
    exact ⟨hIB s X Y s1 hg', q (by omega) s2, q (Nat.le_refl _) s3⟩
  · rintro pre x W ⟨s1, s2, s3⟩ hx
    refine ⟨fn, _, assign, body, run_yield (P := P) (args := encs x) s2 (hps x), roundIn_of_wpIn hfn (hassign _ pre x W _ s1 hx fun a' U u1 uK uI uA => ?_)⟩
    have u2 := u1.same _ _ (by omega) s2 rfl
    have u3 := u1.same _ _ (Nat.le_refl _) s3 rfl
    have hlu : w.heap.size + 1 < U.heap.size := (Array.getElem?_eq_some_iff.1 u2).1
    refine ⟨_, run_beginRound u2 rfl, ?_⟩
    obtain ⟨V, hV⟩ : ∃ V, U.putObj (w.heap.size + 1) (.loop { R .ready none with state := .busy }) = V := ⟨_, rfl⟩
    have v2 : V.heap[w.heap.size + 1]? = some (.loop { R .ready none with state := .busy }) := hV ▸ World.putObj_heap_same hlu
    have v3 : V.heap[w.heap.size]? = some (.deferred (some [])) := hV ▸ (World.putObj_heap_other (by omega)).trans u3
    have vI : I pre V := hV ▸ hI.putObj _ uI (by omega) u2 rfl
    have vE : Ax x a' V := hV ▸ (hAx x).putObj _ uA (by omega) u2 rfl
    have vK : Kp W V := hKt uK (hV ▸ hKb _ _ _ _ (by omega) u2 rfl)
    show body.wpIn _ _ _ _ _ (U.putObj (w.heap.size + 1) (.loop { R .ready none with state := .busy }))
    rw [hV]
    refine wpIn_mono (hbody _ pre x a' V vI vE hx) ?_
    rintro (_ | _ | _ | _ | _ | _) a3 Z hz
    case normal =>
      obtain ⟨z1, z2, z3⟩ := hz
      have l3 := z1.same _ _ (by omega) v2 rfl
      exact ⟨_, _, run_endRound (P := P) none l3, .inl ⟨rfl, ⟨hI.putObj _ z3 (by omega) l3 rfl, World.putObj_heap_same (Array.getElem?_eq_some_iff.1 l3).1, (World.putObj_heap_other (by omega)).trans (z1.same _ _ (Nat.le_refl _) v3 rfl)⟩, hKt (hKt vK z2) (hKb _ _ _ _ (by omega) l3 rfl)⟩⟩
    case ret =>
      obtain ⟨z1, z3⟩ := hz
      have l3 := z1.same _ _ (by omega) v2 rfl
      exact ⟨_, _, run_endRound (P := P) (some .ret) l3, .inr ⟨rfl, hIx.putObj _ z3 (by omega) l3 rfl, World.putObj_heap_same (Array.getElem?_eq_some_iff.1 l3).1, (World.putObj_heap_other (by omega)).trans (z1.same _ _ (Nat.le_refl _) v3 rfl)⟩⟩
    all_goals exact hz.elim
  · rintro s X Y row ⟨s1, s2, s3⟩ hg' hr
    exact ⟨hIx s X Y row s1 hg' (cells (Y := Y) hr), walk hg' hr s2 (by omega), walk hg' hr s3 (by omega)⟩
  · rintro e Z ⟨⟨v, rfl⟩, (⟨xs, hS, z1, z2, z3⟩ | ⟨pre, z1, z2, z3⟩)⟩
    · exact ⟨none, _, run_endLoop (P := P) z2 (by simp [R]), hdone _ xs _ (Nat.le_refl _) hS (hI.putObj _ z1 (by omega) z2 rfl) ((World.putObj_heap_other (by omega)).trans z3)⟩
    · exact ⟨some .ret, _, run_endLoop (P := P) z2 (by simp [R]), hstop _ pre _ (Nat.le_refl _) (hIx.putObj _ z1 (by omega) z2 rfl) ((World.putObj_heap_other (by omega)).trans z3)⟩
end Go.Stops
namespace Go.Stops
open Go Go.RowKit
def TellsW {α : Type} (F : Fence) (n : Nat) (P : Program) (g : Nat) (lb : Array Value) (encs : α → Array Value) (E : List α → α → World → Prop) (Kp : World → World → Prop) (S : List α → Prop) (w : World) : Prop :=
  ∀ (l : Nat) (J Jx : List α → World → Prop) (W : World), Below w.heap.size w W → AbidesFrom W.heap.size J →
    (∀ pre x W1, J pre W1 → E pre x W1 → YieldAt F (n - 1) P l (encs x) W1 fun e W' => (e = .returned (.bool true) ∧ J (pre ++ [x]) W' ∧ Kp W1 W') ∨ (e = .returned (.bool false) ∧ Jx (pre ++ [x]) W')) →
    AbidesFrom W.heap.size Jx → J [] W → CallsIn F n P g (#[.func (.yield l) #[] #[]] ++ lb) W fun e W' => (∃ v, e = .returned v) ∧ ((∃ xs, S xs ∧ J xs W') ∨ ∃ pre, Jx pre W')
variable {F : Fence} {n : Nat} {P : Program}
theorem wpIn_tellsW {α : Type} {g : Operand} {ps : Array Tmp} {assign body : Code} {Q : Exit → Act → World → Prop} {a : Act} {w : World} (hro : F.round = none) (h1 : 1 ≤ n)
    {gf : Nat} {lb : Array Value} (hg : a.eval g = .func (.func gf) #[] lb) (hFg : F.fn gf) (eg : ∀ args w, (callFunc gf args).run P w = .ok (.enter gf args) w)
    {encs : α → Array Value} {E : List α → α → World → Prop} {Kp : World → World → Prop} {S : List α → Prop} (hseq : TellsW F (n - 1) P gf lb encs E Kp S w)
    (hKt : ∀ {A B C : World}, Kp A B → Kp B C → Kp A C) (hKb : ∀ (W : World) (l : Nat) (o o' : Obj), w.heap.size ≤ l → W.heap[l]? = some o → o.isCells = false → Kp W (W.putObj l o')) (hps : ∀ x, (encs x).size = ps.size)
    (I Ix : List α → World → Prop) (hI : OwnFrom w.heap.size I) (hIx : OwnFrom w.heap.size Ix) (h0 : I [] w) (Ax : List α → α → Act → World → Prop) (hAx : ∀ p x, OwnFrom w.heap.size (Ax p x))
    (hassign : ∀ (l : Nat) (pre : List α) (x : α) (W : World) (K : Act → World → Prop), I pre W → E pre x W → (∀ a' W', KeepsFrom w.heap.size W W' → Kp W W' → I pre W' → Ax pre x a' W' → K a' W') →
      assign.wpIn (F.inRound l) (n - 1 - 1) P (Exit.then K (fun _ _ _ => False)) { tmps := (ps.zip (encs x)).foldl (fun t (p, v) => t.setIfInBounds p v) a.tmps, defers := [] } W)
    (hbody : ∀ (l : Nat) (pre : List α) (x : α) (a' : Act) (W : World), I pre W → Ax pre x a' W → body.wpIn (F.inRound l) (n - 1 - 1) P (endsSo w.heap.size Kp I Ix (pre ++ [x]) W) a' W)
    (hdone : ∀ (D : Nat) (xs : List α) (W : World), w.heap.size ≤ D → S xs → I xs W → W.heap[D]? = some (.deferred (some [])) → Q .normal { a with defers := { target := .collected D, args := #[] } :: a.defers } W)
    (hstop : ∀ (D : Nat) (pre : List α) (W : World), w.heap.size ≤ D → Ix pre W → W.heap[D]? = some (.deferred (some [])) → Code.ret.wpIn F n P Q { a with defers := { target := .collected D, args := #[] } :: a.defers } W) :
    (Code.rangeFunc g ps assign body).wpIn F n P Q a w := by
  refine wpIn_rangeFunc fun fn hfn => ?_
  rw [hro]
  let R : LoopState → Option Code → Loop := fun st j => { state := st, pending := j, fn := fn, tmps := a.tmps, params := ps, assign := assign, body := body, defers := w.heap.size }
  let B : World := (w.alloc (.deferred (some []))).alloc (.loop (R .ready none))
  have bD : B.heap[w.heap.size]? = some (.deferred (some [])) := (Below.heap_alloc _ _ _ (by simp)).trans (World.alloc_heap_new w _)
  have bL : B.heap[w.heap.size + 1]? = some (.loop (R .ready none)) := by
    have h := World.alloc_heap_new (w.alloc (.deferred (some []))) (.loop (R .ready none))
    rwa [World.size_alloc] at h
  have bI : I [] B := hI.alloc _ (hI.alloc _ h0)
  have bB : Below w.heap.size w B := ((Below.refl _ w).alloc (Nat.le_refl _) _).alloc (by simp) _
  have bz : B.heap.size = w.heap.size + 1 + 1 := by simp [B]
  -- what a turn of a walk of the iterator's own leaves of the two blocks
  have walk : ∀ {X Y : World} {row : Option Nat} {k : Nat} {o : Obj}, X.grownBy Y row → (∀ r, row = some r → B.heap.size ≤ r ∧ ∃ o : Obj, X.heap[r]? = some o ∧ o.isWalk = true) → X.heap[k]? = some o → k < w.heap.size + 2 → Y.heap[k]? = some o := fun hg' hr hk hlt =>
    (hg'.block _ (Array.getElem?_eq_some_iff.1 hk).1 fun e => by have := (hr _ e.symm).1; omega).trans hk
  have cells : ∀ {X Y : World} {row : Option Nat}, (∀ r, row = some r → B.heap.size ≤ r ∧ ∃ o : Obj, X.heap[r]? = some o ∧ o.isWalk = true) → (∀ r, row = some r → w.heap.size ≤ r ∧ ∃ o : Obj, X.heap[r]? = some o ∧ o.isCells = false) := fun hr r e => by
    obtain ⟨k1, o, k2, k3⟩ := hr r e
    exact ⟨by omega, o, k2, Obj.not_cells_of_walk k3⟩
  refine ⟨w.heap.size + 1, [{ target := .collected w.heap.size, args := #[] }], B, { target := .fn (.func gf) lb, args := #[.func (.yield (w.heap.size + 1)) #[] #[]] }, B, gf, #[.func (.yield (w.heap.size + 1)) #[] #[]] ++ lb, B,
    run_enterLoop_outer _ _ _ _ _, by simp only [resolve, hg]; simp [go_sem], fun f' hf' => by simp [Target.leads] at hf'; subst hf'; exact hFg, by simp [invoke, go_sem, eg], fun _ => h1, ?_⟩
  refine (hseq (w.heap.size + 1) (fun pre W => I pre W ∧ W.heap[w.heap.size + 1]? = some (.loop (R .ready none)) ∧ W.heap[w.heap.size]? = some (.deferred (some [])))
    (fun pre W => Ix pre W ∧ W.heap[w.heap.size + 1]? = some (.loop (R .done (some .ret))) ∧ W.heap[w.heap.size]? = some (.deferred (some []))) B bB ?_ ?_ ?_ ⟨bI, bL, bD⟩).mono ?_
  · rintro s X Y row ⟨s1, s2, s3⟩ hg' hr
    exact ⟨hI s X Y row s1 hg' (cells (Y := Y) hr), walk hg' hr s2 (by omega), walk hg' hr s3 (by omega)⟩
  · rintro pre x W ⟨s1, s2, s3⟩ hx
    refine ⟨fn, _, assign, body, run_yield (P := P) (args := encs x) s2 (hps x), roundIn_of_wpIn hfn (hassign _ pre x W _ s1 hx fun a' U u1 uK uI uA => ?_)⟩
    have u2 := u1.same _ _ (by omega) s2 rfl
    have u3 := u1.same _ _ (Nat.le_refl _) s3 rfl
    have hlu : w.heap.size + 1 < U.heap.size := (Array.getElem?_eq_some_iff.1 u2).1
    refine ⟨_, run_beginRound u2 rfl, ?_⟩
    obtain ⟨V, hV⟩ : ∃ V, U.putObj (w.heap.size + 1) (.loop { R .ready none with state := .busy }) = V := ⟨_, rfl⟩
    have v2 : V.heap[w.heap.size + 1]? = some (.loop { R .ready none with state := .busy }) := hV ▸ World.putObj_heap_same hlu
    have v3 : V.heap[w.heap.size]? = some (.deferred (some [])) := hV ▸ (World.putObj_heap_other (by omega)).trans u3
    have vI : I pre V := hV ▸ hI.putObj _ uI (by omega) u2 rfl
    have vE : Ax pre x a' V := hV ▸ (hAx pre x).putObj _ uA (by omega) u2 rfl
    have vK : Kp W V := hKt uK (hV ▸ hKb _ _ _ _ (by omega) u2 rfl)
    show body.wpIn _ _ _ _ _ (U.putObj (w.heap.size + 1) (.loop { R .ready none with state := .busy }))
    rw [hV]
    refine wpIn_mono (hbody _ pre x a' V vI vE) ?_
    rintro (_ | _ | _ | _ | _ | _) a3 Z hz
    case normal =>
      obtain ⟨z1, z2, z3⟩ := hz
      have l3 := z1.same _ _ (by omega) v2 rfl
      exact ⟨_, _, run_endRound (P := P) none l3, .inl ⟨rfl, ⟨hI.putObj _ z3 (by omega) l3 rfl, World.putObj_heap_same (Array.getElem?_eq_some_iff.1 l3).1, (World.putObj_heap_other (by omega)).trans (z1.same _ _ (Nat.le_refl _) v3 rfl)⟩, hKt (hKt vK z2) (hKb _ _ _ _ (by omega) l3 rfl)⟩⟩
    case ret =>
      obtain ⟨z1, z3⟩ := hz
      have l3 := z1.same _ _ (by omega) v2 rfl
      exact ⟨_, _, run_endRound (P := P) (some .ret) l3, .inr ⟨rfl, hIx.putObj _ z3 (by omega) l3 rfl, World.putObj_heap_same (Array.getElem?_eq_some_iff.1 l3).1, (World.putObj_heap_other (by omega)).trans (z1.same _ _ (Nat.le_refl _) v3 rfl)⟩⟩
    all_goals exact hz.elim
  · rintro s X Y row ⟨s1, s2, s3⟩ hg' hr
    exact ⟨hIx s X Y row s1 hg' (cells (Y := Y) hr), walk hg' hr s2 (by omega), walk hg' hr s3 (by omega)⟩
  · rintro e Z ⟨⟨v, rfl⟩, (⟨xs, hS, z1, z2, z3⟩ | ⟨pre, z1, z2, z3⟩)⟩
    · exact ⟨none, _, run_endLoop (P := P) z2 (by simp [R]), hdone _ xs _ (Nat.le_refl _) hS (hI.putObj _ z1 (by omega) z2 rfl) ((World.putObj_heap_other (by omega)).trans z3)⟩
    · exact ⟨some .ret, _, run_endLoop (P := P) z2 (by simp [R]), hstop _ pre _ (Nat.le_refl _) (hIx.putObj _ z1 (by omega) z2 rfl) ((World.putObj_heap_other (by omega)).trans z3)⟩
end Go.Stops
namespace Go.Proofs.YtmnleknehjkmgaaGreat
open Go.RowKit Go.Shelf
attribute [local go_sem] Oper.semAt_some
def MaxAt (w : World) : Prop := ∃ m, w.cell? ⟨0, 0, none⟩ = some (.int .i64 m)
theorem MaxAt.lt {w : World} (h : MaxAt w) : 0 < w.heap.size := by
  obtain ⟨m, h⟩ := h
  exact World.block_lt_of_cell? w _ h
theorem MaxAt.below {w w' : World} (h : MaxAt w) (hb : Below w.heap.size w w') : MaxAt w' := by
  have hl := h.lt
  obtain ⟨m, h⟩ := h
  exact ⟨m, (hb.cell hl).trans h⟩
theorem MaxAt.belowN {w w' : World} {n : Nat} (h : MaxAt w) (hb : Below n w w') (hn : 0 < n) : MaxAt w' := by
  obtain ⟨m, h⟩ := h
  exact ⟨m, (hb.cell hn).trans h⟩
theorem cut_any (l sep : Str) (hl : l.length ≤ 100000) (w : World) (hM : MaxAt w) :
    Calls Tryz.prog 113 #[.string (sB l), .string (sB sep)] w fun e w' => e = .returned (.tuple #[.string (sB (cutL sep l).1), .string (sB (cutL sep l).2.1), .bool (cutL sep l).2.2]) ∧ ∃ n, w' = w.drewN n := by
  obtain ⟨m, hm⟩ := hM
  have h := Tryz.strings_Cut (sB l) (sB sep) m w (by rw [sB_size]; omega) hm
  rw [cut_cutL] at h
  exact h
theorem sB_nil (l : Str) : ((sB l).toList == ([] : List UInt8)) = l.isEmpty := by
  rw [ByteArray.toList_eq]
  cases l <;> rfl
def patsOf (l : Str) : List Pat := patsF l.length l
theorem patsF_nil (n : Nat) : patsF n [] = [] := by cases n <;> rfl
theorem patterns_any (l : Str) (w : World) :
    Calls Tryz.prog 101 #[.string (sB l)] w fun e w' => e = .returned (.func (.func 112) #[] #[.pointer (some ⟨w.heap.size, 0, none⟩)]) ∧ w.alloc (.cells #[.string (sB l)] 9) = w' := by
  go_enter Tryz.func101, Tryz.ntmps101
  go_wp2
  go_ret
  exact ⟨rfl, rfl⟩
def strSz : Value → Nat
  | .string s => s.size
  | _ => 0
def KeepM (W W' : World) : Prop := W'.cell? ⟨0, 0, none⟩ = W.cell? ⟨0, 0, none⟩
theorem KeepM.trans {A B C : World} (h : KeepM A B) (k : KeepM B C) : KeepM A C := Eq.trans k h
theorem KeepM.max {A B : World} (h : KeepM A B) (k : MaxAt A) : MaxAt B := by
  obtain ⟨m, k⟩ := k
  exact ⟨m, Eq.trans h k⟩
theorem patterns1_tells (n : Nat) (Bs : Nat) (l : Str) (hl : l.length ≤ 100000) (w : World) (hs : Boxed w Bs 9 (.string (sB l))) (hM : MaxAt w) :
    Stops.Tells Fence.wide n Tryz.prog 112 #[.pointer (some ⟨Bs, 0, none⟩)] (fun x : Pat => #[.agg #[.string (sB x.1), .string (sB x.2)]]) (fun pre x => pre ++ [x] <+: patsOf l) Bs KeepM (fun ys => ys = patsOf l) w := fun lp J Jx W hW hJ hJB hY hJx h0 => by
  have hJd : ∀ (m : Nat) (z : List Pat) (X : World), J z X → J z (X.drewN m) := fun m z X h => hJ z X _ none h ⟨rfl, rfl, rfl, Nat.le_refl _, fun _ _ _ => rfl⟩ (fun r e => by cases e)
  have kb : Boxed W Bs 9 (.string (sB l)) := (hW.block Bs hs.lt).trans hs
  have hc := kb.cell
  have M0 : Hid (MaxAt W) := hM.below hW
  have J0 := Lib.hid h0
  have HY := Lib.hid hY
  have HJd := Lib.hid hJd
  have HL := Lib.hid hl
  clear hl h0 hY hJB hJd hJ hJx hW hs hM kb
  refine callsIn_wide.2 ?_
  show Calls Tryz.prog 112 #[.func (.yield lp) #[] #[], .pointer (some ⟨Bs, 0, none⟩)] W _
  go_enter Tryz.func112, Tryz.ntmps112
  go_wp2
  go_loopw [3] (fun r wr => ∃ (pre : List Pat) (l' : Str) (k : Nat), r = .string (sB l') ∧ l'.length ≤ k ∧ l'.length ≤ l.length ∧ Hid (pre ++ patsF k l' = patsOf l) ∧ Hid (MaxAt wr) ∧ Hid (J pre wr)) (fun r _ => strSz r)
  case atStart => exact ⟨[], l, l.length, rfl, Nat.le_refl _, Nat.le_refl _, rfl, M0.out, J0.out⟩
  case round =>
    clear M0 J0 hc
    obtain ⟨pre, l', k, rfl, hk, hle, EQ, MA, JJ⟩ := hrel
    by_cases hemp : l' = []
    · subst hemp
      have hn := sB_nil []
      have P : Hid (pre = patsOf l) := by
        have h := EQ.out
        rw [patsF_nil, List.append_nil] at h
        exact h
      go_wp2
      go_end0
      have h := JJ.out
      exact ⟨⟨_, rfl⟩, .inl ⟨_, P.out, h⟩⟩
    · have hn := sB_nil l'
      rw [List.isEmpty_eq_false_iff.2 hemp] at hn
      have hl' : l'.length ≤ 100000 := by have := HL.out; omega
      have h0' : 0 < l'.length := List.length_pos_iff.2 hemp
      obtain ⟨k, rfl⟩ : ∃ j, k = j + 1 := ⟨k - 1, by omega⟩
      have c1 := cutL_lt [59, 32] l' (by decide) h0'
      have hcut := cut_any l' [59, 32] hl' wr MA.out
      have hcut2 := cut_any (cutL [59, 32] l').1 [32] (by omega)
      obtain ⟨row, hrow⟩ : ∃ r, (cutL [59, 32] l').1 = r := ⟨_, rfl⟩
      obtain ⟨rest, hrest⟩ : ∃ r, (cutL [59, 32] l').2.1 = r := ⟨_, rfl⟩
      have EQ2 : Hid ((pre ++ [rowP row]) ++ patsF k rest = patsOf l) := by
        have h := EQ.out
        rw [patsF, if_neg (by simpa using hemp), hrow, hrest] at h
        rw [List.append_assoc]
        exact h
      have LT : Hid (rest.length < l'.length) := by rw [← hrest]; exact c1.1
      have S0 : Hid (strSz (.string (sB l')) = l'.length) := sB_size l'
      have S1 : Hid (strSz (.string (sB rest)) = rest.length) := sB_size rest
      rw [hrow, hrest] at hcut
      rw [hrow] at hcut2
      have PF : pre ++ [rowP row] <+: patsOf l := by rw [← EQ2.out]; exact List.prefix_append _ _
      have PF := Lib.hid PF
      clear EQ c1 hrow hrest hemp
      go_wp2_with fail
      refine hcut.mono ?_
      rintro e w' ⟨rfl, q, rfl⟩
      have M1 : Hid (MaxAt (wr.drewN q)) := MA.out.below (below_drewN _ _ _)
      have J1 := Lib.hid (HJd.out q _ _ JJ.out)
      have hcut2 := hcut2 _ M1.out
      clear hcut
      go_wp2_with fail
      refine hcut2.mono ?_
      rintro e w' ⟨rfl, q2, rfl⟩
      have M2 : Hid (MaxAt ((wr.drewN q).drewN q2)) := M1.out.below (below_drewN _ _ _)
      have J2 := Lib.hid (HJd.out q2 _ _ J1.out)
      clear hcut2 M1 J1 JJ MA
      obtain ⟨w2, hw2⟩ : ∃ w2, (wr.drewN q).drewN q2 = w2 := ⟨_, rfl⟩
      rw [hw2] at M2 J2 ⊢
      clear hw2
      have hyd := HY.out pre (rowP row) w2 J2.out PF.out
      obtain ⟨fn, tmps, assign, body, hy, hR⟩ := hyd
      simp only [rowP] at hy
      go_upto_region 5 with fail
      refine (wpIn_wide (n := n)).1 ?_
      gi_wp2
      refine ⟨fun h => (by cases h), hR.mono ?_⟩
      rintro e3 W3 (⟨rfl, hJ3, hk3⟩ | ⟨rfl, hJx3⟩)
      · have M3 : Hid (MaxAt W3) := hk3.max M2.out
        have J3 := Lib.hid hJ3
        clear hJ3 hk3 hR hy
        gi_wp2
        go_wp2
        go_roundw
        case rel => exact ⟨pre ++ [rowP row], rest, k, rfl, by have := LT.out; omega, by have := LT.out; omega, EQ2.out, M3.out, J3.out⟩
        case measure => rw [S0.out, S1.out]; exact LT.out
      · clear hR hy
        gi_wp2
        go_wp2
        refine bodyPost_ret (results_none rfl _ _ _) rfl ?_
        exact ⟨⟨_, rfl⟩, .inr ⟨_, hJx3⟩⟩
end Go.Proofs.YtmnleknehjkmgaaGreat
namespace Go.Proofs.YtmnleknehjkmgaaGreat
open Go.RowKit Go.Shelf
attribute [local go_sem] Oper.semAt_some
def codeV (p : Pat) (op : Int) : Value := .agg #[.string (sB p.1), .string (sB p.2), .int .u8 op]
def findP (l : Str) (op : Int) : Option Pat := (patsOf l).find? fun p => fitsP p.1 op
def RetFind (w : World) (o : Option Pat) (op : Int) (e : Ending) (w' : World) : Prop :=
  e = .returned (.tuple #[match o with | some p => codeV p op | none => .agg #[.string ⟨#[]⟩, .string ⟨#[]⟩, .int .u8 0], .bool o.isSome]) ∧ Below w.heap.size w w'
theorem find_none {l : Str} {op : Int} {ys : List Pat} (h : ys = patsOf l) (k : ∀ y ∈ ys, fitsP y.1 op = false) : findP l op = none := by
  unfold findP
  rw [← h, List.find?_eq_none]
  intro x hx
  rw [k x hx]
  decide
theorem find_some {l : Str} {op : Int} {pre : List Pat} {x : Pat} (h : pre ++ [x] <+: patsOf l) (k : ∀ y ∈ pre, fitsP y.1 op = false) (hx : fitsP x.1 op = true) : findP l op = some x := by
  unfold findP
  obtain ⟨t, ht⟩ := h
  rw [← ht, List.find?_append, List.find?_append]
  have h1 : pre.find? (fun p => fitsP p.1 op) = none := by
    rw [List.find?_eq_none]
    intro y hy
    rw [k y hy]
    decide
  rw [h1]
  simp [hx]
theorem mem_of_pre {l : Str} {pre : List Pat} {x : Pat} (h : pre ++ [x] <+: patsOf l) : x ∈ patsOf l := h.subset (by simp)
theorem keepM_put {W0 : World} (h : MaxAt W0) (W : World) (l : Nat) (o' : Obj) (hl : W0.heap.size ≤ l) : KeepM W (W.putObj l o') := by
  have hlt := h.lt
  exact World.cell?_of_block (World.putObj_heap_other (by show 0 ≠ l; omega))
theorem set3 {w : World} {b : Nat} {T : TypeId} {a0 a1 a2 : Value} (h : w.heap[b]? = some (.cells #[a0, a1, a2] T (0, 0))) (v0 v1 v2 : Value) : (((w.setCell ⟨b, 0, none⟩ v0).setCell ⟨b, 1, none⟩ v1).setCell ⟨b, 2, none⟩ v2).heap[b]? = some (.cells #[v0, v1, v2] T (0, 0)) := by
  have h1 := heap_setCell_same w b 0 _ _ v0 h
  have h2 := heap_setCell_same (w.setCell ⟨b, 0, none⟩ v0) b 1 _ _ v1 h1
  have h3 := heap_setCell_same ((w.setCell ⟨b, 0, none⟩ v0).setCell ⟨b, 1, none⟩ v1) b 2 _ _ v2 h2
  exact h3
theorem set31 {w : World} {b : Nat} {T U : TypeId} {a0 a1 a2 u : Value} (h : w.heap[b]? = some (.cells #[a0, a1, a2] T (0, 0))) (k : Boxed w (b + 1) U u) (v0 v1 v2 v : Value) :
    ∃ w', (((w.setCell ⟨b, 0, none⟩ v0).setCell ⟨b, 1, none⟩ v1).setCell ⟨b, 2, none⟩ v2).setCell ⟨b + 1, 0, none⟩ v = w' ∧ w'.heap[b]? = some (.cells #[v0, v1, v2] T (0, 0)) ∧ Boxed w' (b + 1) U v ∧ KeepsOthers w w' ∧ Below b w w' ∧ w'.heap.size = w.heap.size := by
  refine ⟨_, rfl, (heap_setCell_other _ ⟨b + 1, 0, none⟩ b v (by simp)).trans (set3 h v0 v1 v2), ?_, ?_, ?_, by simp⟩
  · refine Boxed.set (v := u) v ?_
    exact (heap_setCell_other _ ⟨b, 2, none⟩ (b + 1) v2 (by simp)).trans ((heap_setCell_other _ ⟨b, 1, none⟩ (b + 1) v1 (by simp)).trans ((heap_setCell_other _ ⟨b, 0, none⟩ (b + 1) v0 (by simp)).trans k))
  · exact (((KeepsOthers.setCell _ _ _).trans (KeepsOthers.setCell _ _ _)).trans (KeepsOthers.setCell _ _ _)).trans (KeepsOthers.setCell _ _ _)
  · exact ((((Below.refl b w).setCell (p := ⟨b, 0, none⟩) (Nat.le_refl _) _).setCell (p := ⟨b, 1, none⟩) (Nat.le_refl _) _).setCell (p := ⟨b, 2, none⟩) (Nat.le_refl _) _).setCell (p := ⟨b + 1, 0, none⟩) (by simp) _
theorem keepM_below {B : Nat} {W W' : World} (h : Below B W W') (hB : 0 < B) : KeepM W W' := h.cell hB
theorem keepsFrom_below {W W' : World} (h : Below W.heap.size W W') (B : Nat) : KeepsFrom B W W' := ⟨h.size, fun k o _ hk _ => (h.block k (Array.getElem?_eq_some_iff.1 hk).1).trans hk⟩
theorem tfind_any (l : Str) (hl : l.length ≤ 100000) (h8 : ∀ p ∈ patsOf l, p.1.length = 8) (op : Int) (w : World) (hM : MaxAt w) :
    Calls Tryz.prog 89 #[.string (sB l), .int .u8 op] w (RetFind w (findP l op) op) := by
  obtain ⟨w0, hw0⟩ : ∃ w0, ((w.alloc (.cells #[.int .u8 op] 5)).alloc (.cells #[.string ⟨#[]⟩, .string ⟨#[]⟩, .int .u8 0] 131)).alloc (.cells #[.bool false] 4) = w0 := ⟨_, rfl⟩
  obtain ⟨n, hn⟩ : ∃ n, w.heap.size = n := ⟨_, rfl⟩
  have z0 : w0.heap.size = n + 1 + 1 + 1 := by rw [← hw0, ← hn]; simp
  have b0 : Below n w w0 := by rw [← hw0, ← hn]; exact (((Below.refl _ w).alloc (Nat.le_refl _) _).alloc (by simp) _).alloc (by simp; omega) _
  have c0 : Boxed w0 n 5 (.int .u8 op) := by rw [← hw0, ← hn]; exact ((Boxed.new w 5 (.int .u8 op)).alloc _).alloc _
  have c1 : w0.heap[n + 1]? = some (.cells #[.string ⟨#[]⟩, .string ⟨#[]⟩, .int .u8 0] 131 (0, 0)) := by
    rw [← hw0, ← hn]
    refine (Below.heap_alloc _ _ _ (by simp)).trans ?_
    have h := World.alloc_heap_new (w.alloc (.cells #[.int .u8 op] 5)) (.cells #[.string ⟨#[]⟩, .string ⟨#[]⟩, .int .u8 0] 131)
    rwa [World.size_alloc] at h
  have c2 : Boxed w0 (n + 1 + 1) 4 (.bool false) := by
    rw [← hw0, ← hn]
    have h := Boxed.new ((w.alloc (.cells #[.int .u8 op] 5)).alloc (.cells #[.string ⟨#[]⟩, .string ⟨#[]⟩, .int .u8 0] 131)) 4 (.bool false)
    rwa [World.size_alloc, World.size_alloc] at h
  have hM0 : MaxAt w0 := hM.below (by rw [hn]; exact b0)
  have hgn : 0 < n := by rw [← hn]; exact hM.lt
  have hpt := patterns_any l w0
  rw [z0] at hpt
  refine callsIn_wide.1 (callsIn_of_wp_marks (n := 3) Tryz.func89 rfl trivial ?_ rfl)
  simp only [Tryz.ntmps89, List.size_toArray, List.length_cons, List.length_nil, Nat.reduceAdd, Nat.reduceSub, Array.replicate_succ, Array.replicate_zero, List.push_toArray, List.append_toArray, List.nil_append, List.cons_append]
  refine wpIn_wide.2 ?_
  go_wp2_with fail
  refine hpt.mono ?_
  rintro e W0 ⟨rfl, hW0⟩
  have hs : Boxed W0 (n + 1 + 1 + 1) 9 (.string (sB l)) := by
    have h := Boxed.new w0 9 (.string (sB l))
    rw [hW0, z0] at h
    exact h
  have zW : W0.heap.size = n + 1 + 1 + 1 + 1 := by rw [← hW0]; simp; omega
  have bW : Below w0.heap.size w0 W0 := by rw [← hW0]; exact (Below.refl _ _).alloc (Nat.le_refl _) _
  have d0 : Boxed W0 n 5 (.int .u8 op) := (bW.block _ c0.lt).trans c0
  have d1 := (bW.block (n + 1) (by omega)).trans c1
  have d2 : Boxed W0 (n + 1 + 1) 4 (.bool false) := (bW.block _ c2.lt).trans c2
  have bN : Below n w W0 := b0.trans (bW.mono (by omega))
  have hMW : MaxAt W0 := hM0.below bW
  have hseq := patterns1_tells 2 (n + 1 + 1 + 1) l hl W0 hs hMW
  have H8 := Lib.hid h8
  have hn0 := hn
  have HM0 := Lib.hid hMW
  clear hM hM0 hpt hs bW b0 c0 c1 c2 hW0 hw0 hn z0 hl h8 w0 hMW
  go_wp2_with fail
  refine wpIn_wide.1 (Stops.wpIn_tellsA (F := Fence.wide) (n := 3) rfl (by omega) (gf := 112) (lb := #[.pointer (some ⟨n + 1 + 1 + 1, 0, none⟩)]) rfl trivial (enters_of Tryz.func112 (by kernel_rfl) rfl)
    hseq (by omega) (fun h k => h.trans k) (fun W l o o' hl _ _ => keepM_put HM0.out W l o' (by omega)) (fun _ => rfl)
    (fun pre W => (∀ y ∈ pre, fitsP y.1 op = false) ∧ Below (n + 1 + 1 + 1) W0 W)
    (fun pre W => ∃ p x, pre = p ++ [x] ∧ (∀ y ∈ p, fitsP y.1 op = false) ∧ fitsP x.1 op = true ∧ p ++ [x] <+: patsOf l ∧ W.heap[n + 1]? = some (.cells #[.string (sB x.1), .string (sB x.2), .int .u8 op] 131 (0, 0)) ∧ Boxed W (n + 1 + 1) 4 (.bool true) ∧ Below n w W)
    (fun s X Y row h hg hr => ⟨h.1, h.2.grown hg (by have := h.2.size; omega) fun r e => by have := (hr r e).1; omega⟩)
    (fun s X Y h hg => ⟨h.1, h.2.grown hg (by have := h.2.size; omega) fun r e => by cases e; omega⟩)
    (fun s X Y row h hg hr => by
      obtain ⟨p, x, h1, h2, h3, h4, h5, h6, h7⟩ := h
      have hne : ∀ k, k < n + 1 + 1 + 1 + 1 → some k ≠ row := fun k hk e => by have := (hr k e.symm).1; omega
      exact ⟨p, x, h1, h2, h3, h4, (hg.block _ (Array.getElem?_eq_some_iff.1 h5).1 (hne _ (by omega))).trans h5, h6.kept hg (hne _ (by omega)), h7.grown hg (by have := (Array.getElem?_eq_some_iff.1 h5).1; omega) fun r e => by have := (hr r e).1; omega⟩)
    ⟨fun y hy => (by cases hy), Below.refl _ _⟩
    (fun x a' W => ∃ b, n + 4 ≤ b ∧ W.heap[b]? = some (.cells #[.string (sB x.1), .string (sB x.2)] 129 (0, 0)) ∧ a' = { tmps := #[.string (sB l), .int .u8 op, undef, .pointer (some ⟨n, 0, none⟩), .pointer (some ⟨n + 1, 0, none⟩), .pointer (some ⟨n + 1 + 1, 0, none⟩), .pointer (some ⟨b, 0, none⟩), .string (sB l), .func (.func 112) #[] #[.pointer (some ⟨n + 1 + 1 + 1, 0, none⟩)], .agg #[.string (sB x.1), .string (sB x.2)], undef, undef, undef, undef, undef, undef, undef], defers := [] })
    (fun x s X Y row h hg hr => by
      obtain ⟨b, h1, h2, h3⟩ := h
      exact ⟨b, h1, (grownBy_keeps_cells hg (fun r e => (hr r e).2) h2 rfl).trans h2, h3⟩)
    ?assign ?body ?done ?stop)
  case assign =>
    rintro lp pre x W K hI hE hK
    gi_wp2
    refine hK _ _ ((KeepsOthers.alloc _ _).from _) (keepM_below ((Below.refl n W).alloc (by have := hI.2.size; omega) _) hgn) ⟨hI.1, hI.2.alloc (by have := hI.2.size; omega) _⟩ ⟨W.heap.size, by have := hI.2.size; omega, World.alloc_heap_new W _, rfl⟩
  case body =>
    rintro lp pre x a' W ⟨g1, g2⟩ ⟨b, hb, hc, rfl⟩ hpre
    have hmem := mem_of_pre hpre
    have e0 : Boxed W n 5 (.int .u8 op) := (g2.block n (by omega)).trans d0
    have p1 := e0.cell
    have q0 := Lib.cell_of_heap hc 0
    have q1 := Lib.cell_of_heap hc 1
    have hf := tfits_any x.1 x.2 (H8.out x hmem) op W
    have G := Lib.hid (And.intro g1 (And.intro g2 (And.intro hb hpre)))
    clear hmem g1 g2 hb hpre
    have E0 := Lib.hid e0
    have hWb : Hid (W.heap.size ≥ n + 4) := by have := G.out.2.1.size; show _ ≥ _; omega
    have q2 := Lib.frozen_of_heap hc
    cases hfit : fitsP x.1 op
    · have FT := Lib.hid hfit
      rw [hfit] at hf
      clear e0 hfit hc
      gi_wp2_with fail
      refine ⟨trivial, CallsIn.inRound lp (callsIn_wide.2 hf) |>.mono ?_⟩
      rintro e w' ⟨rfl, hb⟩
      have P : Hid (KeepsFrom W0.heap.size W w' ∧ KeepM W w' ∧ (∀ y ∈ pre ++ [x], fitsP y.1 op = false) ∧ Below (n + 1 + 1 + 1) W0 w') := by
        refine ⟨keepsFrom_below hb _, keepM_below hb (by have := hWb.out; omega), fun y hy => ?_, G.out.2.1.trans (hb.mono (by have := hWb.out; omega))⟩
        rcases List.mem_append.1 hy with h | h
        · exact G.out.1 y h
        · rw [List.mem_singleton.1 h]; exact FT.out
      clear hf hb
      gi_wp2
      exact P.out
    · have FT := Lib.hid hfit
      have b1 : W.heap[n + 1]? = _ := (G.out.2.1.block (n + 1) (by omega)).trans d1
      have b2 : Boxed W (n + 1 + 1) 4 (.bool false) := (G.out.2.1.block (n + 1 + 1) (by omega)).trans d2
      rw [hfit] at hf
      clear hfit hc
      gi_wp2_with fail
      refine ⟨trivial, CallsIn.inRound lp (callsIn_wide.2 hf) |>.mono ?_⟩
      rintro e w' ⟨rfl, hb⟩
      have x0 : Boxed w' n 5 (.int .u8 op) := (hb.block n e0.lt).trans e0
      have x1 := (hb.block (n + 1) (Array.getElem?_eq_some_iff.1 b1).1).trans b1
      have x2 : Boxed w' (n + 1 + 1) 4 (.bool false) := (hb.block (n + 1 + 1) b2.lt).trans b2
      have x3 := (hb.cell (World.block_lt_of_cell? W _ q0)).trans q0
      have x4 := (hb.cell (World.block_lt_of_cell? W _ q1)).trans q1
      have y0 := x0.cell
      have y1 := Lib.cell_of_heap x1 0
      have y2 := Lib.cell_of_heap x1 1
      have y3 := Lib.cell_of_heap x1 2
      have y4 := Lib.frozen_of_heap x1
      have y5 := x2.cell
      have y6 := x2.frozen
      have X1 := Lib.hid x1
      have X2 := Lib.hid x2
      have BW : Hid (Below n w w') := (bN.trans ((G.out.2.1.mono (by omega)))).trans (hb.mono (by have := hWb.out; omega))
      have BK : Hid (Below W.heap.size W w') := hb
      clear hf hb b1 b2 x0 x1 x2 p1 q0 q1 q2 e0
      gi_wp2
      obtain ⟨w2, hw2, z1, z2, z3, z4, z5⟩ := set31 X1.out X2.out (.string (sB x.1)) (.string (sB x.2)) (.int .u8 op) (.bool true)
      rw [hw2]
      refine ⟨((keepsFrom_below BK.out _).trans (z3.from _)), pre, x, rfl, G.out.1, FT.out, G.out.2.2.2, z1, z2, BW.out.trans (z4.mono (by omega))⟩
  case done =>
    rintro D ys W hD rfl ⟨g1, g2⟩ hK
    have b1 : W.heap[n + 1]? = _ := (g2.block (n + 1) (by omega)).trans d1
    have b2 : Boxed W (n + 1 + 1) 4 (.bool false) := (g2.block (n + 1 + 1) (by omega)).trans d2
    have y1 := Lib.cell_of_heap b1 0
    have y2 := Lib.cell_of_heap b1 1
    have y3 := Lib.cell_of_heap b1 2
    have y4 := Lib.frozen_of_heap b1
    have y5 := b2.cell
    have y6 := b2.frozen
    have X1 := Lib.hid b1
    have X2 := Lib.hid b2
    have HK := Lib.hid hK
    have FN : Hid (findP l op = none) := find_none rfl g1
    have BW : Hid (Below n w W) := bN.trans (g2.mono (by omega))
    have HD := Lib.hid hD
    clear g1 g2 hK b1 b2 hD hseq d0 d1 d2 bN
    go_wp2
    obtain ⟨w2, hw2, z1, z2, z3, z4, z5⟩ := set31 X1.out X2.out (.string ⟨#[]⟩) (.string ⟨#[]⟩) (.int .u8 0) (.bool false)
    rw [hw2]
    have hK2 : w2.heap[D]? = some (.deferred (some [])) := z3.same D _ HK.out rfl
    have hg := grownBy_putObj' w2 D (.deferred none)
    have hDn := HD.out
    have q1 := (hg.block (n + 1) (Array.getElem?_eq_some_iff.1 z1).1 (by simp; omega)).trans z1
    have q2 := (z2.kept hg (by simp; omega)).cell
    have q3 := Lib.cell_of_heap q1 0
    have q4 := Lib.cell_of_heap q1 1
    have q5 := Lib.cell_of_heap q1 2
    refine ⟨by simp, .inl ⟨_, _, rfl, run_takeDeferred hK2, ?_⟩⟩
    refine ⟨.tuple #[.agg #[.string ⟨#[]⟩, .string ⟨#[]⟩, .int .u8 0], .bool false], ?_, ?_⟩
    · simp [results, Tryz.results89, go_sem, q2, q3, q4, q5]
    · rw [FN.out]
      exact ⟨rfl, by rw [hn0]; exact (BW.out.trans (z4.mono (by omega))).trans (belowK_b (w := w) (by omega) w2 D _ _ (by omega) hK2 rfl rfl)⟩
  case stop =>
    rintro D pre W hD ⟨p, x, rfl, h2, h3, h4, h5, h6, h7⟩ hK
    have hg := grownBy_putObj' W D (.deferred none)
    have q1 := (hg.block (n + 1) (Array.getElem?_eq_some_iff.1 h5).1 (by simp; omega)).trans h5
    have q2 := (h6.kept hg (by simp; omega)).cell
    have q3 := Lib.cell_of_heap q1 0
    have q4 := Lib.cell_of_heap q1 1
    have q5 := Lib.cell_of_heap q1 2
    have F : Hid (RetFind w (findP l op) op (.returned (.tuple #[codeV x op, .bool true])) (W.putObj D (.deferred none))) := by
      show RetFind _ _ _ _ _
      rw [find_some h4 h2 h3]
      exact ⟨rfl, by rw [hn0]; exact h7.trans (belowK_b (w := w) (by omega) W D _ _ (by omega) hK rfl rfl)⟩
    have HK := Lib.hid hK
    clear h2 h3 h4 h5 h6 h7 hK hg q1
    gi_wp2
    refine ⟨by simp, .inl ⟨_, _, rfl, run_takeDeferred HK.out, ?_⟩⟩
    refine ⟨.tuple #[codeV x op, .bool true], ?_, F.out⟩
    simp [results, Tryz.results89, go_sem, q2, q3, q4, q5, codeV]
end Go.Proofs.YtmnleknehjkmgaaGreat
