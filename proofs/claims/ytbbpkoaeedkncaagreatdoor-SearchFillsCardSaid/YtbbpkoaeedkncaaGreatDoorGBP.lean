/-
  RkZ, EsB, CoG, SeK, SeL, InM, InL, InR, InC.
-/
import Derived.Test.YtbbpkoaeedkncaaGreatDoorMRkB
import Derived.Test.YtbbpkoaeedkncaaGreatDoorMRkC
import Derived.Test.YtbbpkoaeedkncaaGreatDoorMRkD
import Derived.Test.YtbbpkoaeedkncaaGreatDoorMRkE
import Derived.Test.YtbbpkoaeedkncaaGreatDoorGBJ
import Derived.Test.YtbbpkoaeedkncaaGreatDoorMCoF
import Derived.Test.YtbbpkoaeedkncaaGreatDoorGAG
import Derived.Test.YtbbpkoaeedkncaaGreatDoorGAW
import Derived.Test.YtbbpkoaeedkncaaGreatDoorGAB
import Derived.Test.YtbbpkoaeedkncaaGreatDoorProg
import Derived.WalkKit
import Derived.WalkSpells
import Derived.WalkLawsBesides
import Derived.Lib.Hide
import Derived.Maps.Own
import Derived.Maps.OwnOps
import Derived.Maps.OwnSet
import Derived.Maps.Views
set_option linter.all false
set_option maxRecDepth 100000
set_option maxHeartbeats 4000000
namespace Go.Proofs.YtbbpkoaeedkncaaGreatDoor
open Go.RowKit Go.Shelf
theorem rk_0 (n : Nat) (hn : n < 256) : okAt Tryz.prog 0 n = true := by
  rcases (by omega : 0 ≤ n ∧ n < 64 ∨ 64 ≤ n ∧ n < 128 ∨ 128 ≤ n ∧ n < 192 ∨ 192 ≤ n ∧ n < 256) with ⟨h1, h2⟩ | ⟨h1, h2⟩ | ⟨h1, h2⟩ | ⟨h1, h2⟩
  · exact okAll_at ok_0_0 n h1 h2
  · exact okAll_at ok_0_64 n h1 h2
  · exact okAll_at ok_0_128 n h1 h2
  · exact okAll_at ok_0_192 n h1 h2
theorem rk_1 (n : Nat) (hn : n < 256) : okAt Tryz.prog 1 n = true := by
  rcases (by omega : 0 ≤ n ∧ n < 64 ∨ 64 ≤ n ∧ n < 128 ∨ 128 ≤ n ∧ n < 192 ∨ 192 ≤ n ∧ n < 256) with ⟨h1, h2⟩ | ⟨h1, h2⟩ | ⟨h1, h2⟩ | ⟨h1, h2⟩
  · exact okAll_at ok_1_0 n h1 h2
  · exact okAll_at ok_1_64 n h1 h2
  · exact okAll_at ok_1_128 n h1 h2
  · exact okAll_at ok_1_192 n h1 h2
theorem rk_2 (n : Nat) (hn : n < 256) : okAt Tryz.prog 2 n = true := by
  rcases (by omega : 0 ≤ n ∧ n < 16 ∨ 16 ≤ n ∧ n < 32 ∨ 32 ≤ n ∧ n < 48 ∨ 48 ≤ n ∧ n < 64 ∨ 64 ≤ n ∧ n < 80 ∨ 80 ≤ n ∧ n < 96 ∨ 96 ≤ n ∧ n < 112 ∨ 112 ≤ n ∧ n < 128 ∨ 128 ≤ n ∧ n < 144 ∨ 144 ≤ n ∧ n < 160 ∨ 160 ≤ n ∧ n < 176 ∨ 176 ≤ n ∧ n < 192 ∨ 192 ≤ n ∧ n < 208 ∨ 208 ≤ n ∧ n < 224 ∨ 224 ≤ n ∧ n < 240 ∨ 240 ≤ n ∧ n < 256) with ⟨h1, h2⟩ | ⟨h1, h2⟩ | ⟨h1, h2⟩ | ⟨h1, h2⟩ | ⟨h1, h2⟩ | ⟨h1, h2⟩ | ⟨h1, h2⟩ | ⟨h1, h2⟩ | ⟨h1, h2⟩ | ⟨h1, h2⟩ | ⟨h1, h2⟩ | ⟨h1, h2⟩ | ⟨h1, h2⟩ | ⟨h1, h2⟩ | ⟨h1, h2⟩ | ⟨h1, h2⟩
  · exact okAll_at ok_2_0 n h1 h2
  · exact okAll_at ok_2_16 n h1 h2
  · exact okAll_at ok_2_32 n h1 h2
  · exact okAll_at ok_2_48 n h1 h2
  · exact okAll_at ok_2_64 n h1 h2
  · exact okAll_at ok_2_80 n h1 h2
  · exact okAll_at ok_2_96 n h1 h2
  · exact okAll_at ok_2_112 n h1 h2
  · exact okAll_at ok_2_128 n h1 h2
  · exact okAll_at ok_2_144 n h1 h2
  · exact okAll_at ok_2_160 n h1 h2
  · exact okAll_at ok_2_176 n h1 h2
  · exact okAll_at ok_2_192 n h1 h2
  · exact okAll_at ok_2_208 n h1 h2
  · exact okAll_at ok_2_224 n h1 h2
  · exact okAll_at ok_2_240 n h1 h2
theorem rk_3 (n : Nat) (hn : n < 256) : okAt Tryz.prog 3 n = true := by
  rcases (by omega : 0 ≤ n ∧ n < 32 ∨ 32 ≤ n ∧ n < 64 ∨ 64 ≤ n ∧ n < 96 ∨ 96 ≤ n ∧ n < 128 ∨ 128 ≤ n ∧ n < 160 ∨ 160 ≤ n ∧ n < 192 ∨ 192 ≤ n ∧ n < 224 ∨ 224 ≤ n ∧ n < 256) with ⟨h1, h2⟩ | ⟨h1, h2⟩ | ⟨h1, h2⟩ | ⟨h1, h2⟩ | ⟨h1, h2⟩ | ⟨h1, h2⟩ | ⟨h1, h2⟩ | ⟨h1, h2⟩
  · exact okAll_at ok_3_0 n h1 h2
  · exact okAll_at ok_3_32 n h1 h2
  · exact okAll_at ok_3_64 n h1 h2
  · exact okAll_at ok_3_96 n h1 h2
  · exact okAll_at ok_3_128 n h1 h2
  · exact okAll_at ok_3_160 n h1 h2
  · exact okAll_at ok_3_192 n h1 h2
  · exact okAll_at ok_3_224 n h1 h2
theorem rk_4 (n : Nat) (hn : n < 256) : okAt Tryz.prog 4 n = true := by
  rcases (by omega : 0 ≤ n ∧ n < 32 ∨ 32 ≤ n ∧ n < 64 ∨ 64 ≤ n ∧ n < 96 ∨ 96 ≤ n ∧ n < 128 ∨ 128 ≤ n ∧ n < 160 ∨ 160 ≤ n ∧ n < 192 ∨ 192 ≤ n ∧ n < 224 ∨ 224 ≤ n ∧ n < 256) with ⟨h1, h2⟩ | ⟨h1, h2⟩ | ⟨h1, h2⟩ | ⟨h1, h2⟩ | ⟨h1, h2⟩ | ⟨h1, h2⟩ | ⟨h1, h2⟩ | ⟨h1, h2⟩
  · exact okAll_at ok_4_0 n h1 h2
  · exact okAll_at ok_4_32 n h1 h2
  · exact okAll_at ok_4_64 n h1 h2
  · exact okAll_at ok_4_96 n h1 h2
  · exact okAll_at ok_4_128 n h1 h2
  · exact okAll_at ok_4_160 n h1 h2
  · exact okAll_at ok_4_192 n h1 h2
  · exact okAll_at ok_4_224 n h1 h2
theorem rk_5 (n : Nat) (hn : n < 256) : okAt Tryz.prog 5 n = true := by
  rcases (by omega : 0 ≤ n ∧ n < 64 ∨ 64 ≤ n ∧ n < 128 ∨ 128 ≤ n ∧ n < 192 ∨ 192 ≤ n ∧ n < 256) with ⟨h1, h2⟩ | ⟨h1, h2⟩ | ⟨h1, h2⟩ | ⟨h1, h2⟩
  · exact okAll_at ok_5_0 n h1 h2
  · exact okAll_at ok_5_64 n h1 h2
  · exact okAll_at ok_5_128 n h1 h2
  · exact okAll_at ok_5_192 n h1 h2
theorem rk_6 (n : Nat) (hn : n < 256) : okAt Tryz.prog 6 n = true := by
  rcases (by omega : 0 ≤ n ∧ n < 64 ∨ 64 ≤ n ∧ n < 128 ∨ 128 ≤ n ∧ n < 192 ∨ 192 ≤ n ∧ n < 256) with ⟨h1, h2⟩ | ⟨h1, h2⟩ | ⟨h1, h2⟩ | ⟨h1, h2⟩
  · exact okAll_at ok_6_0 n h1 h2
  · exact okAll_at ok_6_64 n h1 h2
  · exact okAll_at ok_6_128 n h1 h2
  · exact okAll_at ok_6_192 n h1 h2
theorem rat_start (w : World) (page op : Int) : ∃ w0, (w.alloc (.cells #[.int .i64 0, .int .u8 0, .string ⟨#[]⟩, .slice none 0 0, .string ⟨#[]⟩, .bool false] 29)).alloc (.cells #[.int .i64 page, .int .u8 op, .string ⟨#[]⟩, .slice none 0 0, .string ⟨#[]⟩, .bool false] 29) = w0 ∧
    RnAt w0 w.heap.size 0 0 [] (.slice none 0 0) [] false ∧ RnAt w0 (w.heap.size + 1) page op [] (.slice none 0 0) [] false ∧ Below w.heap.size w w0 ∧ w0.heap.size = w.heap.size + 2 := by
  refine ⟨_, rfl, (Below.heap_alloc _ _ _ (by simp)).trans (World.alloc_heap_new w _), ?_, ((Below.refl _ w).alloc (Nat.le_refl _) _).alloc (by simp) _, by simp⟩
  have h := World.alloc_heap_new (w.alloc (.cells #[.int .i64 0, .int .u8 0, .string ⟨#[]⟩, .slice none 0 0, .string ⟨#[]⟩, .bool false] 29)) (.cells #[.int .i64 page, .int .u8 op, .string ⟨#[]⟩, .slice none 0 0, .string ⟨#[]⟩, .bool false] 29)
  rw [World.size_alloc] at h
  exact h
theorem rat_x (op : Nat) (hop : op < 256) (page : Int) (hp : ¬ (0 ≤ page ∧ page ≤ 6)) (w : World) : Calls Tryz.prog 8 #[.int .i64 page, .int .u8 op] w (RetRAt w page op (rkindT page op) (ratT page op)) := by
  obtain ⟨w0, hw0, R0, E0, B0, Z0⟩ := rat_start w page op
  obtain ⟨n, hn⟩ : ∃ n, w.heap.size = n := ⟨_, rfl⟩
  rw [hn] at R0 E0 B0 Z0
  have HN := Lib.hid hn
  have HW := Lib.hid hw0
  have Rw0 := Lib.hid R0
  have Ew0 := Lib.hid E0
  have Bw0 := Lib.hid B0
  have ZZ := Lib.hid Z0
  clear hw0 hn R0 E0 B0 Z0
  have KD : Hid (rkindT page op = 0) := (by unfold rkindT; rw [if_neg (by omega), if_neg (by omega), if_neg (by omega)] : rkindT page op = 0)
  have T : Hid (ratT page op = none) := ratT_no hp op
  have p0 : (page == 0) = false := by simp; omega
  have p1 : (page == 1) = false := by simp; omega
  have p2 : (page == 2) = false := by simp; omega
  have p3 : (page == 3) = false := by simp; omega
  have p4 : (page == 4) = false := by simp; omega
  have p5 : (page == 5) = false := by simp; omega
  have p6 : (page == 6) = false := by simp; omega
  clear hp
  go_enter Tryz.func8, Tryz.ntmps8
  go_upto_region 3 with fail
  rw [HW.out, HN.out]
  clear HW
  obtain ⟨r0, r1, r2, r3, r4, r5, r6⟩ := Rw0.out.cells
  go_wp2
  obtain ⟨w7, hw7, qq, q2, q3, -, q4⟩ := Rw0.out.put 0 0 [] (.slice none 0 0) [] false
  rw [show sB [] = (⟨#[]⟩ : ByteArray) from rfl] at hw7
  rw [hw7]
  obtain ⟨q0, q1, q2', q3', q4', q5, -⟩ := qq.cells
  refine bodyPost_ret (v := .tuple #[enV 0 0 [] (.slice none 0 0) [] false, .int .i64 0]) ?_ rfl ?_
  · simp [results, Tryz.results8, go_sem, q0, q1, q2', q3', q4', q5, enV]
  · rw [T.out]
    exact ⟨by first | rfl | (rw [KD.out]), by rw [HN.out]; exact Bw0.out.trans q2⟩
theorem rat_any (page : Int) (op : Nat) (hop : op < 256) (w : World) : Calls Tryz.prog 8 #[.int .i64 page, .int .u8 op] w (RetRAt w page op (rkindT page op) (ratT page op)) := by
  by_cases hp : 0 ≤ page ∧ page ≤ 6
  · rcases (by omega : page = 0 ∨ page = 1 ∨ page = 2 ∨ page = 3 ∨ page = 4 ∨ page = 5 ∨ page = 6) with rfl | rfl | rfl | rfl | rfl | rfl | rfl
    · exact okAt_calls (g := 0) (by omega) (rk_0 op hop) w
    · exact okAt_calls (g := 1) (by omega) (rk_1 op hop) w
    · exact okAt_calls (g := 2) (by omega) (rk_2 op hop) w
    · exact okAt_calls (g := 3) (by omega) (rk_3 op hop) w
    · exact okAt_calls (g := 4) (by omega) (rk_4 op hop) w
    · exact okAt_calls (g := 5) (by omega) (rk_5 op hop) w
    · exact okAt_calls (g := 6) (by omega) (rk_6 op hop) w
  · exact rat_x op hop page hp w
end Go.Proofs.YtbbpkoaeedkncaaGreatDoor
namespace Go.Proofs.YtbbpkoaeedkncaaGreatDoor
open Go.RowKit Go.Shelf
def entsR (page : Int) : Nat → List Ke
  | 0 => []
  | k + 1 => match ratT page k with
    | some x => entsR page k ++ [(page, (k : Int), x.1, x.2.1, x.2.2.1, x.2.2.2)]
    | none => entsR page k
theorem rkind_ne (page : Int) (n : Nat) : (rkindT page n == 1) = false := by
  unfold rkindT
  split
  · rfl
  · split
    · rfl
    · split <;> rfl
end Go.Proofs.YtbbpkoaeedkncaaGreatDoor
namespace Go.Proofs.YtbbpkoaeedkncaaGreatDoor
open Go.RowKit Go.Shelf
attribute [local go_sem] Oper.semAt_some
theorem find_fst (page : Int) (i : Nat) : ((fstF (patsOf (listS page)) i).1 = [] → findP (listS page) (i : Int) = none) ∧ ((fstF (patsOf (listS page)) i).1 ≠ [] → findP (listS page) (i : Int) = some (fstF (patsOf (listS page)) i)) := by
  unfold findP fstF
  cases hf : (patsOf (listS page)).find? fun p => fitsP p.1 (i : Int) with
  | none => exact ⟨fun _ => rfl, fun h => absurd rfl h⟩
  | some q =>
    have hq := (ops_fit q (pages_ok page q (List.mem_of_find?_eq_some hf))).2.1
    exact ⟨fun h => absurd h hq, fun _ => rfl⟩
def entsW (wnt : Str → Bool) (page : Int) (k : Nat) : List Ke := (entsR page k).filter fun e => wnt e.2.2.1
theorem keysC_ents (wnt : Str → Bool) (page : Int) (hw : ∀ (i : Nat) (p : Pat) (y : En), i < 256 → findP (listS page) (i : Int) = some p → entryT p page (i : Int) = some y → wnt (wordsT p (i : Int)).1 = wnt y.1) : ∀ k, k ≤ 256 → keysC wnt page (codesK (patsOf (listS page)) k) = entsW wnt page k
  | 0, _ => rfl
  | k + 1, hk => by
    have ih := keysC_ents wnt page hw k (by omega)
    have ha := at_same page k (by omega)
    obtain ⟨h1, h2⟩ := find_fst page k
    unfold atT at ha
    unfold codesK
    by_cases he : (fstF (patsOf (listS page)) k).1 = []
    · rw [if_pos he, ih]
      rw [h1 he] at ha
      unfold entsW
      rw [entsR, ← ha]
    · rw [if_neg he, keysC_snoc, ih]
      rw [h2 he] at ha
      simp only at ha
      unfold entsW keyC
      rw [entsR, ← ha]
      cases hx : entryT (fstF (patsOf (listS page)) k) page (k : Int) with
      | none => split <;> simp [keyE]
      | some y =>
        have h3 := hw k _ y (by omega) (h2 he) hx
        simp only [List.filter_append, List.filter_cons, List.filter_nil, keyE]
        rw [h3]
theorem num6 : ∀ p ∈ mainP ++ cbP ++ edP, p ∈ cbP → ∀ n < 256, numN p.1 (n / 8 * 8 + 6) 97 8 = numN p.1 n 97 8 ∧ numN p.1 (n / 8 * 8 + 6) 111 8 = numN p.1 n 111 8 := by decide +kernel
theorem numP6 {p : Pat} (h : p ∈ mainP ++ cbP ++ edP) (hc : p ∈ cbP) (n : Nat) (hn : n < 256) : numP p.1 (op6 (n : Int)) 97 = numP p.1 (n : Int) 97 ∧ numP p.1 (op6 (n : Int)) 111 = numP p.1 (n : Int) 111 := by
  have h6 := op6_all ⟨n, hn⟩
  simp only at h6
  obtain ⟨e1, e2⟩ := num6 p h hc n hn
  rw [h6, numP_eq _ _ (by omega), numP_eq _ _ hn, numP_eq _ _ (by omega), numP_eq _ _ hn]
  omega
theorem words6 {p : Pat} (h : p ∈ mainP ++ cbP ++ edP) (hc : p ∈ cbP) (n : Nat) (hn : n < 256) : (wordsT p (op6 (n : Int))).1 = (wordsT p (n : Int)).1 := by
  obtain ⟨e1, e2⟩ := numP6 h hc n hn
  unfold wordsT
  rw [e1, e2]
theorem shift_name (p : Pat) (page op ix : Int) : (shiftT p page op ix).1 = (wordsT p (op6 op)).1 := by
  unfold shiftT
  simp only
  split
  · rfl
  · split <;> rfl
theorem entry_name {page : Int} {p : Pat} {y : En} (n : Nat) (hn : n < 256) (hf : findP (listS page) (n : Int) = some p) (hy : entryT p page (n : Int) = some y) : (wordsT p (n : Int)).1 = y.1 := by
  have hm := find_mem hf
  unfold entryT at hy
  by_cases h3 : page = 3
  · rw [if_pos h3] at hy
    obtain ⟨z, -, rfl⟩ := Option.map_eq_some_iff.1 hy
    rfl
  rw [if_neg h3] at hy
  by_cases h4 : page = 4
  · rw [if_pos h4] at hy
    obtain ⟨z, -, rfl⟩ := Option.map_eq_some_iff.1 hy
    rfl
  rw [if_neg h4] at hy
  have hcb : (page = 5 ∨ page = 6) → p ∈ cbP := fun h => by
    have h1 := List.mem_of_find?_eq_some hf
    rw [patsOf_page] at h1
    unfold pagePats at h1
    rw [if_neg (by omega), if_pos (by omega)] at h1
    exact h1
  by_cases h5 : page = 5
  · rw [if_pos h5] at hy
    obtain rfl := Option.some.inj hy
    rw [shift_name]
    exact (words6 hm (hcb (.inl h5)) n hn).symm
  rw [if_neg h5] at hy
  by_cases h6 : page = 6
  · rw [if_pos h6] at hy
    obtain rfl := Option.some.inj hy
    rw [shift_name]
    exact (words6 hm (hcb (.inr h6)) n hn).symm
  rw [if_neg h6] at hy
  obtain rfl := Option.some.inj hy
  rfl
theorem keysPg_named (op : Str) (page : Int) : keysPg (fun m => decide (m = op)) page = (entsR page 256).filter fun e => decide (e.2.2.1 = op) := by
  unfold keysPg
  rw [keysC_ents _ page (fun i p y hi hf hy => congrArg (fun m => decide (m = op)) (entry_name i hi hf hy)) 256 (Nat.le_refl _)]
  rfl
theorem named_any (op : Str) (w : World) (hM : MaxAt w) (A : Option Addr) (cap : Nat) (L : List Int) (hP : IntsP w A L) (hL : L.length ≤ 10) :
    Calls Tryz.prog 76 #[.string (sB op), .slice A L.length cap] w (RetXT w (keysAll (fun m => decide (m = op)) (pagesL L))) := by
  obtain ⟨w1, hw1⟩ : ∃ z, w.alloc (.cells #[.string (sB op)] 9) = z := ⟨_, rfl⟩
  have b1 : Below w.heap.size w w1 := by rw [← hw1]; exact up_alloc _ _
  have x1 : Boxed w1 w.heap.size 9 (.string (sB op)) := by rw [← hw1]; exact Boxed.new _ _ _
  have hc := collect_any 108 #[.pointer (some ⟨w.heap.size, 0, none⟩)] (enters_of Tryz.func108 (by kernel_rfl) rfl) (fun m => decide (m = op)) w1 (hM.below b1) A cap L (hP.below b1) hL
    (fun m w' h => wantOne_any m op w.heap.size w' ((h.block _ x1.lt).trans x1))
  have HB := Lib.hid b1
  clear hP hM b1 x1
  go_enter Tryz.func76, Tryz.ntmps76
  go_wp2_with fail
  refine hc.mono ?_
  rintro e w' ⟨A1, c1, R, rfl, h1, h2, h3⟩
  have H := Lib.hid (And.intro (h1.lift HB.out.size) (And.intro h2 (HB.out.trans (h3.mono HB.out.size))))
  clear h1 h2 h3 hc
  go_wp2
  go_ret
  exact ⟨A1, c1, R, rfl, H.out.1, H.out.2.1, H.out.2.2⟩
end Go.Proofs.YtbbpkoaeedkncaaGreatDoor
namespace Go.Proofs.YtbbpkoaeedkncaaGreatDoor
open Go.RowKit Go.Shelf
attribute [local go_sem] Oper.semAt_some
def KeepC (cb : Nat) (W W' : World) : Prop := W.heap.size ≤ W'.heap.size ∧ ∀ k o, k ≠ cb → W.heap[k]? = some o → o.isCells = true → W'.heap[k]? = some o
theorem KeepC.trans {cb : Nat} {A B C : World} (h : KeepC cb A B) (k : KeepC cb B C) : KeepC cb A C := ⟨Nat.le_trans h.1 k.1, fun x o hx ho hc => k.2 x o hx (h.2 x o hx ho hc) hc⟩
theorem KeepC.refl (cb : Nat) (W : World) : KeepC cb W W := ⟨Nat.le_refl _, fun _ _ _ h _ => h⟩
theorem KeepC.of_below {cb : Nat} {W W' : World} (h : Below W.heap.size W W') : KeepC cb W W' := ⟨h.size, fun k o _ ho _ => (h.block k (Array.getElem?_eq_some_iff.1 ho).1).trans ho⟩
theorem KeepC.put {cb : Nat} (W : World) (l : Nat) (o o' : Obj) (hl : W.heap[l]? = some o) (ho : o.isCells = false) : KeepC cb W (W.putObj l o') := ⟨by simp, fun k x _ hx hc => by
  have hne : k ≠ l := by
    rintro rfl
    rw [hl] at hx
    obtain rfl := Option.some.inj hx
    rw [ho] at hc
    cases hc
  exact (World.putObj_heap_other hne).trans hx⟩
theorem KeepC.cell {cb : Nat} {W W' : World} (h : KeepC cb W W') {a : Addr} {v : Value} (hv : W.cell? a = some v) (ha : a.block ≠ cb) : W'.cell? a = some v := by
  obtain ⟨o, ho, hc⟩ := cells_of_cell hv
  exact (World.cell?_of_block ((h.2 _ o ha ho hc).trans ho.symm)).trans hv
theorem KeepC.boxed {cb : Nat} {W W' : World} (h : KeepC cb W W') {b : Nat} {t : TypeId} {v : Value} (hv : Boxed W b t v) (hb : b ≠ cb) : Boxed W' b t v := h.2 b _ hb hv rfl
theorem OpsP.keepC {cb : Nat} {W W' : World} {A : Option Addr} {L : List Tr} (h : OpsP W A L) (k : KeepC cb W W') (hA : ∀ a, A = some a → L ≠ [] → a.block ≠ cb) : OpsP W' A L := by
  by_cases hL : L = []
  · exact .inl hL
  rcases h with h | ⟨b, off, rfl, hc⟩
  · exact absurd h hL
  · have hb : b ≠ cb := hA _ rfl hL
    refine .inr ⟨b, off, rfl, fun j hj => ?_⟩
    obtain ⟨h1, h2, h3⟩ := hc j hj
    exact ⟨k.cell h1 hb, k.cell h2 hb, k.cell h3 hb⟩
theorem KsP.keepC {cb : Nat} {W W' : World} {A : Option Addr} {L : List Int} (h : KsP W A L) (k : KeepC cb W W') (hA : ∀ a, A = some a → L ≠ [] → a.block ≠ cb) : KsP W' A L := by
  by_cases hL : L = []
  · exact .inl hL
  rcases h with h | ⟨b, off, rfl, hc⟩
  · exact absurd h hL
  · have hb : b ≠ cb := hA _ rfl hL
    exact .inr ⟨b, off, rfl, fun j hj => k.cell (hc j hj) hb⟩
theorem MaxAt.keepC {cb : Nat} {W W' : World} (h : MaxAt W) (k : KeepC cb W W') (hb : 0 ≠ cb) : MaxAt W' := by
  obtain ⟨m, hm⟩ := h
  exact ⟨m, k.cell hm hb⟩
def EsN (N : Nat) (W : World) (A : Option Addr) (R : List Ee) : Prop := EsP W A R ∧ (∀ a, A = some a → R ≠ [] → N ≤ a.block) ∧ ∀ r ∈ R, ∀ a, r.A = some a → r.L ≠ [] → N ≤ a.block
theorem EsN.keepC {cb N : Nat} {W W' : World} {A : Option Addr} {R : List Ee} (h : EsN N W A R) (k : KeepC cb W W') (hN : cb < N) : EsN N W' A R := by
  obtain ⟨h1, h2, h3⟩ := h
  refine ⟨?_, h2, h3⟩
  by_cases hR : R = []
  · exact .inl hR
  rcases h1 with h | ⟨b, off, rfl, hc⟩
  · exact absurd h hR
  · have hb : b ≠ cb := by have := h2 _ rfl hR; simp at this; omega
    refine .inr ⟨b, off, rfl, fun j hj => ⟨fun i u hu => k.cell ((hc j hj).1 i u hu) hb, (hc j hj).2.keepC k fun a ha hL => ?_⟩⟩
    have := h3 _ (List.getElem_mem hj) a ha hL
    omega
theorem own_block_ge {w : World} {n : Nat} {v : Value} {L : List Tr} {A : Option Addr} {m c : Nat} (h : OwnT w n v L) (e : v = .slice A m c) (a : Addr) (ha : A = some a) : n ≤ a.block := by
  subst e ha
  rcases h.2 with ⟨h, _⟩ | ⟨g, cap, cur, h, hg, _⟩
  · cases h
  · cases h
    exact hg
theorem OwnXT.esN {w : World} {n : Nat} {A : Option Addr} {cap : Nat} {R : List Ee} (h : OwnXT w n (.slice A R.length cap) R) : EsN n w A R := by
  obtain ⟨A', cap', e, hE, -⟩ := h.es
  simp only [Value.slice.injEq] at e
  obtain ⟨rfl, -, -⟩ := e
  refine ⟨hE, fun a ha _ => ?_, fun r hr a ha _ => own_block_ge (h.2 r hr) rfl a ha⟩
  subst ha
  rcases h.1.2 with ⟨h, _⟩ | ⟨g, cap, cur, h, hg, _⟩
  · cases h
  · cases h
    exact hg
def shpE (C : List Tr) (k : Ke) : Bool := decide (k.2.2.2.1.map ks2 = C.map ks2)
def candP (op : Str) (C : List Tr) (l : List Int) : List Ke := (keysAll (fun m => decide (m = op)) l).filter (shpE C)
def candK (op : Str) (C : List Tr) : List Ke := candP op C (pagesC C)
def candE (C : List Tr) (R : List Ee) (k : Nat) : List Ke := ((R.take k).map Ee.k).filter (shpE C)
theorem candE_succ (C : List Tr) (R : List Ee) (k : Nat) (h : k < R.length) : candE C R (k + 1) = candE C R k ++ (if shpE C R[k].k = true then [R[k].k] else []) := by
  unfold candE
  rw [List.take_succ_eq_append_getElem h, List.map_append, List.filter_append]
  simp only [List.map_cons, List.map_nil, List.filter_cons, List.filter_nil]
theorem candP_snoc (op : Str) (C : List Tr) (l : List Int) (p : Int) : candP op C (l ++ [p]) = candP op C l ++ (keysPg (fun m => decide (m = op)) p).filter (shpE C) := by
  unfold candP
  rw [keysAll_snoc, List.filter_append]
theorem candP_pre (op : Str) (C : List Tr) (l : List Int) (j : Nat) : candP op C (l.take j) <+: candP op C l := by
  have h : keysAll (fun m => decide (m = op)) (l.take j) <+: keysAll (fun m => decide (m = op)) l := by
    conv => rhs; rw [← List.take_append_drop j l]
    unfold keysAll
    rw [List.flatMap_append]
    exact List.prefix_append _ _
  exact h.filter _
theorem ofShape_any (s : ByteArray) (A : Option Addr) (n cap : Nat) (w : World) : Calls Tryz.prog 41 #[.agg #[.string s, .slice A n cap]] w fun e w' => e = .returned (.func (.func 74) #[] #[.pointer (some ⟨w.heap.size, 0, none⟩)]) ∧ w.alloc (.cells #[.string s, .slice A n cap] 24) = w' := by
  go_enter Tryz.func41, Tryz.ntmps41
  go_wp2
  go_ret
  exact ⟨rfl, rfl⟩
def eeV (x : Ee) : Value := enV x.g x.o x.m x.v x.ex x.al
def ShE (op : Str) (C : List Tr) (pre : List Ee) (x : Ee) (W : World) : Prop := (pre ++ [x]).map Ee.k <+: candK op C ∧ OpsP W x.A x.L
end Go.Proofs.YtbbpkoaeedkncaaGreatDoor
namespace Go.Proofs.YtbbpkoaeedkncaaGreatDoor
open Go.RowKit Go.Shelf
attribute [local go_sem] Oper.semAt_some
theorem entsR_le (page : Int) : ∀ K, (entsR page K).length ≤ K
  | 0 => Nat.le_refl _
  | K + 1 => by
    have ih := entsR_le page K
    unfold entsR
    cases ratT page K with
    | none => exact Nat.le_succ_of_le ih
    | some y => simp; exact ih
def smallR (page : Int) (n : Nat) : Bool := match ratT page n with
  | some x => decide (x.2.1.length ≤ 3)
  | none => true
theorem small_k : ∀ g : Fin 7, ∀ n : Fin 256, smallR (g.val : Int) n.val = true := by decide +kernel
theorem small_all (page : Int) (n : Nat) (hn : n < 256) : smallR page n = true := by
  by_cases hp : 0 ≤ page ∧ page ≤ 6
  · obtain ⟨g, rfl⟩ : ∃ g : Nat, page = (g : Int) := ⟨page.toNat, by omega⟩
    exact small_k ⟨g, by omega⟩ ⟨n, hn⟩
  · unfold smallR
    rw [ratT_no hp]
theorem entsR_small (page : Int) : ∀ K, K ≤ 256 → ∀ y ∈ entsR page K, y.2.2.2.1.length ≤ 3
  | 0, _, y, hy => by cases hy
  | K + 1, hK, y, hy => by
    have ih := entsR_small page K (by omega)
    have hs := small_all page K (by omega)
    unfold smallR at hs
    unfold entsR at hy
    cases hx : ratT page K with
    | none => rw [hx] at hy; exact ih y hy
    | some x =>
      rw [hx] at hy hs
      rcases List.mem_append.1 hy with h | h
      · exact ih y h
      · obtain rfl := List.mem_singleton.1 h
        exact of_decide_eq_true hs
theorem keysPg_small (op : Str) (p : Int) : ∀ y ∈ keysPg (fun m => decide (m = op)) p, y.2.2.2.1.length ≤ 3 := fun y hy => by
  rw [keysPg_named] at hy
  exact entsR_small p 256 (Nat.le_refl _) y (List.mem_filter.1 hy).1
theorem keysPg_len (op : Str) (p : Int) : (keysPg (fun m => decide (m = op)) p).length ≤ 256 := by
  rw [keysPg_named]
  exact Nat.le_trans (List.length_filter_le _ _) (entsR_le p 256)
theorem keysAll_one (wnt : Str → Bool) (p : Int) : keysAll wnt (pagesL [p]) = keysPg wnt p := by
  unfold keysAll pagesL
  rw [if_neg (by simp)]
  simp
theorem ints_onep (w : World) (p : Int) : IntsP (w.alloc (.cells #[.int .i64 p] 3)) (some ⟨w.heap.size, 0, none⟩) [p] := by
  refine .inr ⟨_, 0, rfl, fun k hk => ?_⟩
  have : k = 0 := by simp at hk; omega
  subst this
  simp [go_sem]
theorem shape_tells (n : Nat) (Bs cb : Nat) (op : Str) (A : Option Addr) (cap lc : Nat) (C : List Tr) (hlc : C.length = lc) (hLc : lc ≤ 1000) (w : World) (hs : w.heap[Bs]? = some (.cells #[.string (sB op), .slice A lc cap] 24 (0, 0))) (hP : OpsP w A C) (hM : MaxAt w) (hcb : cb < w.heap.size) (h1 : Bs ≠ cb) (h2 : ∀ a, A = some a → C ≠ [] → a.block ≠ cb) (h3 : 0 ≠ cb) :
    Stops.TellsW Fence.wide n Tryz.prog 74 #[.pointer (some ⟨Bs, 0, none⟩)] (fun x : Ee => #[eeV x]) (ShE op C) (KeepC cb) (fun ys => ys.map Ee.k = candK op C) w := fun lp J Jx W hW hJ hY hJx h0 => by
  have hJd : ∀ (z : List Ee) (X Y : World), J z X → Below X.heap.size X Y → J z Y := fun z X Y h hb => hJ z X Y none h (grow_below hb none) (fun r e => by cases e)
  have hs1 := (hW.block Bs (Array.getElem?_eq_some_iff.1 hs).1).trans hs
  have pg := pages_any (sB op) A cap lc C hlc hLc W (hP.below hW)
  have hcW : Hid (cb < W.heap.size) := by have := hW.size; show cb < _; omega
  have k0 := Lib.cell_of_heap hs1 0
  have k1 := Lib.cell_of_heap hs1 1
  have KB := Lib.hid (And.intro hs1 (And.intro (hP.below hW) (hM.below hW)))
  have J0 := Lib.hid h0
  have HY := Lib.hid hY
  have HL := Lib.hid hlc
  have HA := Lib.hid (And.intro h1 (And.intro h2 h3))
  have HJd := Lib.hid hJd
  clear h0 hY hJ hJx hW hs hP hs1 hlc h1 h2 h3 hJd hM hcb
  refine callsIn_wide.2 ?_
  show Calls Tryz.prog 74 #[.func (.yield lp) #[] #[], .pointer (some ⟨Bs, 0, none⟩)] W _
  go_enter Tryz.func74, Tryz.ntmps74
  go_wp2_with fail
  refine pg.mono ?_
  rintro e W0 ⟨Ap, rfl, hks, hb, hrow⟩
  have KS := Lib.hid hks
  obtain ⟨P, hPP⟩ : ∃ P, pagesC C = P := ⟨_, rfl⟩
  rw [hPP] at KS ⊢
  have HPP := Lib.hid hPP
  have HPL : P.length ≤ 3 := by rw [← hPP]; unfold pagesC; split <;> (try split) <;> simp
  have KB1 : Hid (W0.heap[Bs]? = some (.cells #[.string (sB op), .slice A lc cap] 24 (0, 0)) ∧ OpsP W0 A C ∧ MaxAt W0) := ⟨(hb.block Bs (Array.getElem?_eq_some_iff.1 KB.out.1).1).trans KB.out.1, KB.out.2.1.below hb, KB.out.2.2.below hb⟩
  have J1 := Lib.hid (HJd.out _ _ _ J0.out hb)
  have HC1 : Hid (cb < W0.heap.size) := by have := hb.size; have := hcW.out; show cb < _; omega
  have HPB : Hid (∀ a, Ap = some a → P ≠ [] → a.block ≠ cb) := fun a ha _ => by have := hrow a ha; have := hcW.out; omega
  obtain ⟨np, hnp⟩ : ∃ z, P.length = z := ⟨_, rfl⟩
  have HNP := Lib.hid hnp
  rw [hnp] at HPL ⊢
  clear hks hb hrow KB J0 hcW pg hPP k0 k1 hnp
  go_wp2
  go_loopw [10] (fun i wr => ∃ (j : Nat) (pre : List Ee), j ≤ np ∧ i = .int .i64 j ∧ Hid (KeepC cb W0 wr) ∧ Hid (J pre wr) ∧ Hid (pre.map Ee.k = candP op C (P.take j))) (fun i _ => np - (intOf i).toNat)
  case atStart => exact ⟨0, [], Nat.zero_le _, rfl, KeepC.refl _ _, J1.out, rfl⟩
  case round =>
    clear J1
    obtain ⟨j, pre, hj, rfl, KK, JJ, PK⟩ := hrel
    by_cases hlt : j < np
    · have hjP : j < P.length := by rw [HNP.out]; exact hlt
      obtain ⟨b1, o1, rfl, p0⟩ := (KS.out.keepC KK.out HPB.out).at_ hjP
      obtain ⟨pg, hpg⟩ : ∃ z, P[j] = z := ⟨_, rfl⟩
      have PT : Hid (P.take (j + 1) = P.take j ++ [pg]) := by show P.take (j + 1) = _; rw [List.take_succ_eq_append_getElem hjP, hpg]
      rw [hpg] at p0
      have fb := KK.out.2 Bs _ HA.out.1 KB1.out.1 rfl
      have k0 := Lib.cell_of_heap fb 0
      have ma := KB1.out.2.2.keepC KK.out HA.out.2.2
      have ba := up1 wr (.cells #[.int .i64 pg] 3)
      have nm := named_any op _ (ma.below ba) (some ⟨wr.heap.size, 0, none⟩) 1 [pg] (ints_onep wr pg) (by simp)
      rw [keysAll_one] at nm
      have BA := Lib.hid ba
      clear hjP fb hpg
      go_wp2_with fail
      refine nm.mono ?_
      rintro e W2 ⟨Ae, ce, R, rfl, hO, hK, hb⟩
      have hb' : Below wr.heap.size wr W2 := ba.trans (hb.mono ba.size)
      have K2 : Hid (KeepC cb W0 W2) := KK.out.trans (KeepC.of_below hb')
      have J2 := Lib.hid (HJd.out _ _ _ JJ.out hb')
      have hsz : cb < (wr.alloc (.cells #[.int .i64 pg] 3)).heap.size := by have h8 := KK.out.1; have := HC1.out; simp; omega
      have ES := Lib.hid hO.esN
      obtain ⟨N, hN⟩ : ∃ N, (wr.alloc (.cells #[.int .i64 pg] 3)).heap.size = N := ⟨_, rfl⟩
      rw [hN] at ES hsz
      have HNc := Lib.hid hsz
      have KR : Hid (R.map Ee.k = keysPg (fun m => decide (m = op)) pg) := hK
      have PK2 : Hid (candP op C (P.take (j + 1)) = pre.map Ee.k ++ (R.map Ee.k).filter (shpE C)) := by
        show _ = _
        rw [PT.out, candP_snoc, PK.out, KR.out]
      have RL : R.length ≤ 256 := by
        have h1 : (R.map Ee.k).length = _ := congrArg List.length hK
        rw [List.length_map] at h1
        rw [h1]
        exact keysPg_len op pg
      have PF : Hid (candP op C (P.take (j + 1)) <+: candK op C) := by
        show _ <+: _
        unfold candK
        rw [HPP.out]
        exact candP_pre op C P (j + 1)
      obtain ⟨nr, hnr⟩ : ∃ z, R.length = z := ⟨_, rfl⟩
      have HNR := Lib.hid hnr
      have HJ1 : Hid (j + 1 ≤ np) := by show _ ≤ _; omega
      rw [hnr] at RL ⊢
      clear nm hO hK hb hb' hN hsz k0 p0 ma ba KK JJ PK hnr
      go_wp2
      go_loopw [20] (fun i wr => ∃ (k : Nat) (pr : List Ee), k ≤ nr ∧ i = .int .i64 k ∧ Hid (KeepC cb W0 wr) ∧ Hid (KeepC cb W2 wr) ∧ Hid (J pr wr) ∧ Hid (pr.map Ee.k = pre.map Ee.k ++ candE C R k)) (fun i _ => nr - (intOf i).toNat)
      case atStart => exact ⟨0, pre, Nat.zero_le _, rfl, K2.out, KeepC.refl _ _, J2.out, by show _ = _; simp [candE]⟩
      case round =>
        clear K2 J2
        obtain ⟨k, pr, hk, rfl, KA, KK, JJ, PK⟩ := hrel
        by_cases hlt2 : k < nr
        · have hkR : k < R.length := by rw [HNR.out]; exact hlt2
          have hat := (ES.out.keepC KK.out HNc.out).1.at_ hkR
          have CS := candE_succ C R k hkR
          obtain ⟨r, hr⟩ : ∃ r, R[k] = r := ⟨_, rfl⟩
          have hmem : r.k ∈ keysPg (fun m => decide (m = op)) pg := by rw [← KR.out, ← hr]; exact List.mem_map_of_mem (List.getElem_mem hkR)
          rw [hr] at hat CS
          have HCS := Lib.hid CS
          have PKL : Hid (∀ k', k' ≤ R.length → pre.map Ee.k ++ candE C R k' <+: candK op C) := fun k' hk' => by
            refine List.IsPrefix.trans ?_ PF.out
            rw [PK2.out]
            refine (List.prefix_append_right_inj _).2 ?_
            unfold candE
            conv => rhs; rw [← List.take_append_drop k' (R.map Ee.k), List.filter_append, ← List.map_take]
            exact List.prefix_append _ _
          have HPK1 := Lib.hid (PKL.out (k + 1) (by omega))
          obtain ⟨g, o, m, Ar, cr, Lr, ex, al⟩ := r
          simp only [Ee.v] at hat
          obtain ⟨be, oe, rfl, hbe, e0, e1, e2, e3, e4, e5, eO⟩ := hat
          obtain ⟨ll, hll⟩ : ∃ z, Lr.length = z := ⟨_, rfl⟩
          rw [hll] at e3
          have HLL := Lib.hid hll
          have fb := KA.out.2 Bs _ HA.out.1 KB1.out.1 rfl
          have k1 := Lib.cell_of_heap fb 1
          have cO := KB1.out.2.1.keepC KA.out HA.out.2.1
          obtain ⟨wa, hwa⟩ : ∃ z, wr.alloc (.cells #[.int .i64 g, .int .u8 o, .string (sB m), .slice Ar ll cr, .string (sB ex), .bool al] 26) = z := ⟨_, rfl⟩
          have ba : Below wr.heap.size wr wa := by rw [← hwa]; exact up1 _ _
          have nb : wa.heap[wr.heap.size]? = some (.cells #[.int .i64 g, .int .u8 o, .string (sB m), .slice Ar ll cr, .string (sB ex), .bool al] 26 (0, 0)) := by rw [← hwa]; exact World.alloc_heap_new _ _
          have k1' := (ba.cell (p := ⟨Bs, 1, none⟩) (Array.getElem?_eq_some_iff.1 fb).1).trans k1
          have s0 := Lib.cell_of_heap nb 0
          have s1 := Lib.cell_of_heap nb 1
          have s2 := Lib.cell_of_heap nb 2
          have s3 := Lib.cell_of_heap nb 3
          have s4 := Lib.cell_of_heap nb 4
          have s5 := Lib.cell_of_heap nb 5
          have eq := equalK_any Ar A cr cap ll lc Lr C hll HL.out (by have h := keysPg_small op pg _ hmem; simp only [Ee.k] at h; omega) hLc wa (eO.below ba) (cO.below ba)
          have BA := Lib.hid ba
          have NB := Lib.hid nb
          have EO := Lib.hid (eO.below ba)
          have SH : shpE C (Ee.k ⟨g, o, m, Ar, cr, Lr, ex, al⟩) = decide (Lr.map ks2 = C.map ks2) := rfl
          obtain ⟨tt, htt⟩ : ∃ z, decide (Lr.map ks2 = C.map ks2) = z := ⟨_, rfl⟩
          rw [htt] at eq SH
          rw [SH] at HCS CS
          have HCS := Lib.hid CS
          clear CS hkR hmem eO fb k1 cO hll htt SH hbe ba nb hr
          go_upto_region 6 with fail
          clear e0 e1 e2 e3 e4 e5
          have KA2 : Hid (KeepC cb W0 wa) := KA.out.trans (KeepC.of_below BA.out)
          have KK2 : Hid (KeepC cb W2 wa) := KK.out.trans (KeepC.of_below BA.out)
          have J2 := Lib.hid (HJd.out _ _ _ JJ.out BA.out)
          clear KA KK JJ
          cases tt with
          | false =>
            have PS : Hid (pr.map Ee.k = pre.map Ee.k ++ candE C R (k + 1)) := by show _ = _; rw [HCS.out, PK.out, if_neg (by decide), List.append_nil]
            go_wp2_with fail
            refine eq.mono ?_
            rintro e W5 ⟨rfl, hb⟩
            have KA5 : Hid (KeepC cb W0 W5) := KA2.out.trans (KeepC.of_below hb)
            have KK5 : Hid (KeepC cb W2 W5) := KK2.out.trans (KeepC.of_below hb)
            have J5 := Lib.hid (HJd.out _ _ _ J2.out hb)
            clear eq hb KA2 KK2 J2
            go_wp2
            go_roundw
            case rel => exact ⟨k + 1, pr, by omega, by go_num, KA5.out, KK5.out, J5.out, PS.out⟩
            case measure => simp [intOf]; omega
          | true =>
            have PS : Hid ((pr ++ [(⟨g, o, m, Ar, cr, Lr, ex, al⟩ : Ee)]).map Ee.k = pre.map Ee.k ++ candE C R (k + 1)) := by
              show _ = _
              rw [HCS.out, List.map_append, PK.out, if_pos rfl, List.append_assoc]
              rfl
            have PX : Hid ((pr ++ [(⟨g, o, m, Ar, cr, Lr, ex, al⟩ : Ee)]).map Ee.k <+: candK op C) := by show _ <+: _; rw [PS.out]; exact HPK1.out
            refine (wpIn_wide (n := n)).1 ?_
            gi_wp2_with fail
            refine ⟨trivial, fun h => (by cases h), (callsIn_wide.2 eq).mono ?_⟩
            rintro e W5 ⟨rfl, hb⟩
            have KA5 : Hid (KeepC cb W0 W5) := KA2.out.trans (KeepC.of_below hb)
            have KK5 : Hid (KeepC cb W2 W5) := KK2.out.trans (KeepC.of_below hb)
            have J5 := Lib.hid (HJd.out _ _ _ J2.out hb)
            have hyd := HY.out pr ⟨g, o, m, Ar, cr, Lr, ex, al⟩ W5 J5.out ⟨PX.out, EO.out.below hb⟩
            obtain ⟨fn, tmps, assign, body, hy, hR⟩ := hyd
            have nb5 := (hb.block _ (Array.getElem?_eq_some_iff.1 NB.out).1).trans NB.out
            have s0 := Lib.cell_of_heap nb5 0
            have s1 := Lib.cell_of_heap nb5 1
            have s2 := Lib.cell_of_heap nb5 2
            have s3 := Lib.cell_of_heap nb5 3
            have s4 := Lib.cell_of_heap nb5 4
            have s5 := Lib.cell_of_heap nb5 5
            simp only [eeV, enV, Ee.v] at hy
            rw [HLL.out] at hy
            clear eq hb KA2 KK2 J2 nb5
            gi_wp2
            refine ⟨fun h => (by cases h), hR.mono ?_⟩
            rintro e3 W3 (⟨rfl, hJ3, hk3⟩ | ⟨rfl, hJx3⟩)
            · have KA6 : Hid (KeepC cb W0 W3) := KA5.out.trans hk3
              have KK6 : Hid (KeepC cb W2 W3) := KK5.out.trans hk3
              have J6 := Lib.hid hJ3
              clear hJ3 hk3 hR hy KA5 KK5 J5
              gi_wp2
              go_wp2
              go_roundw
              case rel => exact ⟨k + 1, _, by omega, by go_num, KA6.out, KK6.out, J6.out, PS.out⟩
              case measure => simp [intOf]; omega
            · clear hR hy
              gi_wp2
              go_wp2
              refine bodyPost_ret (results_none rfl _ _ _) rfl ?_
              exact ⟨⟨_, rfl⟩, .inr ⟨_, hJx3⟩⟩
        · have PE : Hid (pr.map Ee.k = candP op C (P.take (j + 1))) := by
            show _ = _
            rw [PK2.out, PK.out]
            unfold candE
            rw [List.take_of_length_le (by have := HNR.out; omega)]
          go_wp2
          go_roundw
          case rel => exact ⟨j + 1, pr, HJ1.out, by go_num, KA.out, JJ.out, PE.out⟩
          case measure => simp [intOf]; omega
    · have PE : Hid (pre.map Ee.k = candK op C) := by
        show _ = _
        unfold candK
        rw [HPP.out, PK.out, List.take_of_length_le (by have := HNP.out; omega)]
      go_wp2
      go_end0
      have h := JJ.out
      exact ⟨⟨_, rfl⟩, .inl ⟨_, PE.out, h⟩⟩
end Go.Proofs.YtbbpkoaeedkncaaGreatDoor
namespace Go.Proofs.YtbbpkoaeedkncaaGreatDoor
open Go.RowKit Go.Maps
def opsC : List (List UInt8) := [[65, 68, 67], [65, 68, 68], [65, 78, 68], [66, 73, 84], [67, 65, 76, 76], [67, 67, 70], [67, 80], [67, 80, 68], [67, 80, 68, 82], [67, 80, 73], [67, 80, 73, 82], [67, 80, 76], [68, 65, 65], [68, 69, 67], [68, 73], [68, 74, 78, 90], [69, 73], [69, 88], [69, 88, 88], [72, 65, 76, 84], [73, 77], [73, 78], [73, 78, 67], [73, 78, 68], [73, 78, 68, 82], [73, 78, 73], [73, 78, 73, 82], [74, 80], [74, 82], [76, 68], [76, 68, 68], [76, 68, 68, 82], [76, 68, 73], [76, 68, 73, 82], [78, 69, 71], [78, 79, 80], [79, 82], [79, 84, 68, 82], [79, 84, 73, 82], [79, 85, 84], [79, 85, 84, 68], [79, 85, 84, 73], [80, 79, 80], [80, 85, 83, 72], [82, 69, 83], [82, 69, 84], [82, 69, 84, 73], [82, 69, 84, 78], [82, 76], [82, 76, 65], [82, 76, 67], [82, 76, 67, 65], [82, 76, 68], [82, 82], [82, 82, 65], [82, 82, 67], [82, 82, 67, 65], [82, 82, 68], [82, 83, 84], [83, 66, 67], [83, 67, 70], [83, 69, 84], [83, 76, 65], [83, 76, 76], [83, 82, 65], [83, 82, 76], [83, 85, 66], [88, 79, 82]]
def opsL : List ByteArray := opsC.map fun l => ⟨l.toArray⟩
def opsOf : Option Code → List Oper
  | some (.seq _ (.seq (.region _ ops _) _)) => ops.toList
  | _ => []
def firstOf : Option Code → List Oper
  | some (.seq (.region _ ops _) _) => ops.toList
  | _ => []
def mnPut (p : String) (k : ByteArray) : Oper := ⟨none, .insert 129 (.tmp 1) (.const (.string k)) (.const (.bool true)), 0, p, #[⟨0, .data⟩], none⟩
theorem mn_body : ∃ (p : String) (r o0 o1 o2 : Oper), Tryz.f79.body = some (.seq (.region 0 #[r] false) (.seq (.region 1 (o0 :: (opsL.map (mnPut p) ++ [o1, o2])).toArray false) .ret)) ∧ (r.op = .assign (.const (.map none)) ∧ r.dst = some 0 ∧ r.guard = none) ∧
    (o0.op = .makeMap 129 none ∧ o0.dst = some 1 ∧ o0.guard = none) ∧ (o1.op = .move (.tmp 1) ∧ o1.dst = some 2 ∧ o1.guard = none) ∧ (o2.op = .assign (.tmp 2) ∧ o2.dst = some 0 ∧ o2.guard = none) :=
  ⟨((opsOf Tryz.f79.body).getD 1 default).pos, (firstOf Tryz.f79.body).getD 0 default, (opsOf Tryz.f79.body).getD 0 default, (opsOf Tryz.f79.body).getD 69 default, (opsOf Tryz.f79.body).getD 70 default, by kernel_rfl,
    ⟨by kernel_rfl, by kernel_rfl, by kernel_rfl⟩, ⟨by kernel_rfl, by kernel_rfl, by kernel_rfl⟩, ⟨by kernel_rfl, by kernel_rfl, by kernel_rfl⟩, ⟨by kernel_rfl, by kernel_rfl, by kernel_rfl⟩⟩
theorem lawK : Keyed Tryz.prog 9 := string_keyed Tryz.underlying9
def klit (s : ByteArray) : Lit := .string s.data.toList
abbrev yesD : DataW Unit := .lit (.bool true)
theorem wpList_inserts {p : String} {ops : Array Oper} {rest : List Oper} {a : Act} {Q : Exit → Act → World → Prop} (b : Nat) (hm : a.eval (.tmp 1) = .map (some b)) :
    ∀ (ks : List ByteArray) (D : DataW Unit) (n : Nat) (w : World), (∀ s ∈ ks, s.size ≤ maxLen) → n + ks.length ≤ 1000 → w.ownsMap Tryz.prog 9 (plainElem Tryz.prog 4) b n D →
      (∀ w', w'.ownsMap Tryz.prog 9 (plainElem Tryz.prog 4) b (n + ks.length) ((ks.map klit).foldl (fun m x => m.put x yesD) D) → w.grownBy w' (some b) → wpList Tryz.prog ops Q rest a w') →
      wpList Tryz.prog ops Q (ks.map (mnPut p) ++ rest) a w
  | [], D, n, w, _, _, hown, hK => hK w hown (World.grownBy.refl _ _)
  | s :: ks, D, n, w, hs, hn, hown, hK => by
    have h1 : s.size ≤ maxLen := hs s (List.mem_cons_self ..)
    simp only [List.length_cons] at hn
    show wpList Tryz.prog ops Q (mnPut p s :: (ks.map (mnPut p) ++ rest)) a w
    obtain ⟨w', hrun, r1, r2⟩ := hown.update lawK Tryz.underlying129 (show n < maxLen by unfold maxLen; omega) (WideMaps.keyOf_string_mk Tryz.underlying9 h1) (plainElem_bool Tryz.underlying4 true)
    have ih := wpList_inserts (p := p) (ops := ops) (rest := rest) (Q := Q) b hm ks _ (n + 1) w' (fun x hx => hs x (List.mem_cons_of_mem _ hx)) (by omega) r1 fun w2 h2 g2 => hK w2 (by rw [show n + 1 + ks.length = n + (s :: ks).length by rw [List.length_cons]; omega] at h2; exact h2) (r2.trans g2)
    obtain ⟨o, ho⟩ : ∃ o, mnPut p s = o := ⟨_, rfl⟩
    have hop : o.op = .insert 129 (.tmp 1) (.const (.string s)) (.const (.bool true)) := by rw [← ho]; rfl
    have hd : o.dst = none := by rw [← ho]; rfl
    have hg : o.guard = none := by rw [← ho]; rfl
    rw [ho]
    have hx : a.eval (.const (.string s)) = .string s := rfl
    have hv : a.eval (.const (.bool true)) = .bool true := rfl
    refine wpList_plain hg fun K' hK' => ?_
    unfold Oper.wp
    simp [execOp, hop, hm, hx, hv, hrun, Result.andThen]
    have e : a.put o.dst undef = a := by rw [hd]; rfl
    unfold Oper.upon
    rw [e]
    exact hK' _ _ ih
theorem ops_len : opsL.length = 68 := by decide +kernel
theorem ops_short : ∀ s ∈ opsL, s.size ≤ 4 := by decide +kernel
def mnD : DataW Unit := setOf yesD (opsL.map klit)
attribute [local irreducible] opsL
theorem mn_any (w : World) :
    Calls Tryz.prog 79 #[] w fun e w' => e = .returned (.map (some w.heap.size)) ∧ w'.ownsMap Tryz.prog 9 (plainElem Tryz.prog 4) w.heap.size 68 mnD ∧ Below w.heap.size w w' := by
  obtain ⟨p, ⟨d9, p9, t9, q9, f9, g9⟩, ⟨d0, p0, t0, q0, f0, g0⟩, ⟨d1, p1, t1, q1, f1, g1⟩, ⟨d2, p2, t2, q2, f2, g2⟩, hb, ⟨e9, e10, e11⟩, ⟨e0, e1, e2⟩, ⟨e3, e4, e5⟩, ⟨e6, e7, e8⟩⟩ := mn_body
  simp only at e0 e1 e2 e3 e4 e5 e6 e7 e8 e9 e10 e11
  subst e0 e1 e2 e3 e4 e5 e6 e7 e8 e9 e10 e11
  have hmm := @run_makeMap Tryz.prog
  have B0 := Lib.hid ((Below.refl w.heap.size w).alloc (Nat.le_refl _) (.map #[] 0))
  have M0 := Lib.hid (World.ownsMap_made (H := Unit) w Tryz.prog 9 (plainElem Tryz.prog 4))
  refine calls_of_wp Tryz.func79 hb ?_
  clear hb
  simp only [Tryz.ntmps79, List.size_toArray, List.length_cons, List.length_nil, Nat.reduceAdd, Nat.reduceSub, Array.replicate_succ, Array.replicate_zero, List.push_toArray, List.append_toArray, List.nil_append, List.cons_append]
  go_wp2
  refine wpList_inserts w.heap.size rfl opsL (.map []) 0 _ (fun s hs => Nat.le_trans (ops_short s hs) (by unfold maxLen; omega)) (by rw [ops_len]; omega) M0.out ?_
  intro w1 h1 h2
  have M1 : Hid (w1.ownsMap Tryz.prog 9 (plainElem Tryz.prog 4) w.heap.size 68 mnD) := by rw [ops_len] at h1; exact h1
  have B1 := Lib.hid (B0.out.grown h2 (by simp) fun k hk => by cases hk; exact Nat.le_refl _)
  clear h1 h2
  go_wp2
  go_ret
  exact ⟨rfl, M1.out, B1.out⟩
end Go.Proofs.YtbbpkoaeedkncaaGreatDoor
namespace Go.Proofs.YtbbpkoaeedkncaaGreatDoor
open Go.RowKit Go.Maps
def knB (s : ByteArray) : Bool := opsL.any fun x => x.toList == s.toList
theorem plainElem_bool_inv {H : Type} {P : Program} {e : TypeId} (he : P.underlying e = some .bool) {v : Value} {z : DataW H × List MemPlace} (h : plainElem P e v = some z) : ∃ x, v = .bool x ∧ z = (.lit (.bool x), []) := by
  unfold plainElem at h
  rw [he] at h
  cases v <;> simp at h
  rename_i x
  exact ⟨x, rfl, h.symm⟩
theorem key_klit (s : ByteArray) : WideAt.IsKeyLit (klit s) := by
  first | trivial | exact ⟨_, rfl⟩ | simp [klit, WideAt.IsKeyLit]
theorem same_klit (a b : ByteArray) : (klit a).sameKey (klit b) = (a.toList == b.toList) := by
  rw [ByteArray.toList_eq, ByteArray.toList_eq]; rfl
theorem at_fold (z : DataW Unit) (s : ByteArray) : ∀ (l : List ByteArray) (m : DataW Unit), IsMap m → ((l.map klit).foldl (fun m x => m.put x yesD) m).atKey (klit s) z = if (l.any fun x => x.toList == s.toList) then yesD else m.atKey (klit s) z
  | [], m, _ => rfl
  | x :: l, m, hm => by
    have ih := at_fold z s l (m.put (klit x) yesD) (hm.put _ _)
    show ((l.map klit).foldl (fun m x => m.put x yesD) (m.put (klit x) yesD)).atKey (klit s) z = _
    rw [ih, List.any_cons]
    by_cases hx : klit s = klit x
    · have h1 : (x.toList == s.toList) = true := by rw [← same_klit, hx]; show (x.data.toList == x.data.toList) = true; exact beq_self_eq_true _
      rw [hx, atKey_put_same hm (key_klit x)]
      simp [h1]
    · have h1 : (x.toList == s.toList) = false := by rw [← same_klit]; exact sameKey_ne fun e => hx e.symm
      rw [atKey_put_other hx]
      simp [h1]
theorem at_setOf (z : DataW Unit) (s : ByteArray) (l : List ByteArray) : (setOf yesD (l.map klit)).atKey (klit s) z = if (l.any fun x => x.toList == s.toList) then yesD else z := at_fold z s l (.map []) isMap_empty
theorem at_mnD (s : ByteArray) : mnD.atKey (klit s) (.lit (.bool false)) = .lit (.bool (knB s)) := by
  unfold mnD
  rw [at_setOf]
  unfold knB
  split <;> simp_all
theorem zero_bool (w : World) : (zeroValue 4).run Tryz.prog w = .ok (.bool false) w := by kernel_rfl
def Mn (w : World) (b : Nat) : Prop := w.ownsMap Tryz.prog 9 (plainElem Tryz.prog 4) b 68 mnD
theorem Mn.below {w w' : World} {b : Nat} (h : Mn w b) (k : Below w.heap.size w w') : Mn w' b := World.ownsMap.kept h (row := none) ⟨k.os, k.tape, k.output, k.size, fun i hi _ => k.block i hi⟩ (by simp)
theorem look_mn {w : World} {b : Nat} (h : Mn w b) (s : ByteArray) (hs : s.size ≤ maxLen) : (Instr.lookup 129 (.map (some b)) (.string s) false).run Tryz.prog w = .ok (.bool (knB s)) w := by
  obtain ⟨v, ps, hrun, hv⟩ := World.ownsMap.lookup h lawK Tryz.underlying129 (zero_bool w) (plainElem_bool Tryz.underlying4 false) (WideMaps.keyOf_string_mk Tryz.underlying9 hs)
  obtain ⟨x, rfl, hx⟩ := plainElem_bool_inv Tryz.underlying4 hv
  have e : mnD.atKey (klit s) (.lit (.bool false)) = .lit (.bool x) := (Prod.mk.injEq .. ▸ hx).1
  rw [at_mnD] at e
  have e2 : knB s = x := by simpa using e
  rw [e2]
  exact hrun
theorem mnemonics_any (w : World) : Calls Tryz.prog 79 #[] w fun e w' => ∃ b, e = .returned (.map (some b)) ∧ Mn w' b ∧ Below w.heap.size w w' := (mn_any w).mono fun e w' h => ⟨_, h⟩
end Go.Proofs.YtbbpkoaeedkncaaGreatDoor
namespace Go.Proofs.YtbbpkoaeedkncaaGreatDoor
open Go.RowKit Go.Maps
theorem rops_any (w : World) : Calls Tryz.prog 110 #[] w (RetStrs w opsL) := by
  go_enter Tryz.func110, Tryz.ntmps110
  go_wp2
  go_ret
  exact ⟨_, 68, rfl, strs_of_new w opsL 9, (Below.refl _ _).alloc (Nat.le_refl _) _⟩
theorem kn_yes (s : ByteArray) (j : Nat) (h : j < opsL.length) (e : (opsL[j].toList == s.toList) = true) : true = knB s :=
  (List.any_eq_true.2 ⟨_, List.getElem_mem h, e⟩).symm
theorem kn_no (s : ByteArray) (h : ∀ k, k < 68 → ∀ (a : k < opsL.length), (opsL[k].toList == s.toList) = false) : false = knB s := by
  refine (List.any_eq_false.2 fun x hx => ?_).symm
  obtain ⟨k, hk, rfl⟩ := List.getElem_of_mem hx
  rw [h k (by rw [ops_len] at hk; exact hk) hk]
  exact Bool.false_ne_true
theorem rknown_any (s : ByteArray) (w : World) :
    Calls Tryz.prog 81 #[.string s] w fun e w' => e = .returned (.bool (knB s)) ∧ Below w.heap.size w w' := by
  go_enter Tryz.func81, Tryz.ntmps81
  go_wp2_with fail
  refine (rops_any _).mono ?_
  rintro e w1 ⟨A, cap, rfl, hA, h1⟩
  have X := Lib.hid hA
  have B1 := Lib.hid h1
  clear hA h1
  rw [ops_len]
  go_wp2
  go_loopw [4] (fun i wr => ∃ j : Nat, j ≤ 68 ∧ i = .int .i64 j ∧ Hid (∀ k, k < j → ∀ (a : k < opsL.length), (opsL[k].toList == s.toList) = false) ∧ wr = w1) (fun i _ => 68 - (intOf i).toNat)
  case atStart => exact ⟨0, Nat.zero_le _, rfl, fun k h => by omega, rfl⟩
  case round =>
    obtain ⟨j, hj, rfl, R, rfl⟩ := hrel
    by_cases hlt : j < 68
    · have hj1 : j < opsL.length := by rw [ops_len]; exact hlt
      obtain ⟨b1, o1, hA1, p0⟩ := X.out.at_ hj1
      subst hA1
      cases q : (opsL[j].toList == s.toList)
      · have R2 : Hid (∀ k, k < j + 1 → ∀ (a : k < opsL.length), (opsL[k].toList == s.toList) = false) := fun k hk a => by
          by_cases e : k = j
          · subst e; exact q
          · exact R.out k (by omega) a
        obtain ⟨x, hx⟩ : ∃ x, opsL[j] = x := ⟨_, rfl⟩
        rw [hx] at p0 q
        clear hx R hj1
        go_wp2
        go_roundw
        case rel => exact ⟨j + 1, by omega, by go_num, R2.out, trivial⟩
        case measure => simp [intOf]; omega
      · have T : Hid (true = knB s) := kn_yes s j hj1 q
        obtain ⟨x, hx⟩ : ∃ x, opsL[j] = x := ⟨_, rfl⟩
        rw [hx] at p0 q
        clear hx R hj1
        go_wp2
        go_ret
        exact ⟨ret_bool T.out, B1.out⟩
    · have hj8 : j = 68 := by omega
      subst hj8
      have T : Hid (false = knB s) := kn_no s R.out
      clear R hlt
      go_wp2
      go_ret
      exact ⟨ret_bool T.out, B1.out⟩
end Go.Proofs.YtbbpkoaeedkncaaGreatDoor
namespace Go.Proofs.YtbbpkoaeedkncaaGreatDoor
open Go.RowKit
def vT (t : Tr) : Bool := vldB t.1 t.2.1 t.2.2
def codeI (s : ByteArray) (L : List Tr) : Int := if knB s = false then 12 else if 3 < L.length then 11 else if L.all vT then 0 else 2
theorem code_12 (s : ByteArray) (L : List Tr) (h : knB s = false) : (12 : Int) = codeI s L := by unfold codeI; rw [if_pos h]
theorem code_11 (s : ByteArray) (L : List Tr) (h : knB s = true) (h3 : 3 < L.length) : (11 : Int) = codeI s L := by unfold codeI; rw [if_neg (by simp [h]), if_pos h3]
theorem code_0 (s : ByteArray) (L : List Tr) (h : knB s = true) (h3 : ¬ 3 < L.length) (hv : ∀ k, k < L.length → ∀ (a : k < L.length), vT L[k] = true) : (0 : Int) = codeI s L := by
  unfold codeI
  rw [if_neg (by simp [h]), if_neg h3, if_pos]
  refine List.all_eq_true.2 fun x hx => ?_
  obtain ⟨k, hk, rfl⟩ := List.getElem_of_mem hx
  exact hv k hk hk
theorem code_2 (s : ByteArray) (L : List Tr) (h : knB s = true) (h3 : ¬ 3 < L.length) (k : Nat) (hk : k < L.length) (hv : vT L[k] = false) : (2 : Int) = codeI s L := by
  unfold codeI
  rw [if_neg (by simp [h]), if_neg h3, if_neg]
  intro hq
  have := List.all_eq_true.1 hq _ (List.getElem_mem hk)
  rw [hv] at this
  cases this
attribute [local irreducible] Go.Mixed.wpMix
theorem check_all (s : ByteArray) (A : Option Addr) (cap : Nat) (L : List Tr) (hs : s.size ≤ maxLen) (hL : L.length ≤ maxLen) (w : World) (H : OpsP w A L) :
    Calls Tryz.prog 42 #[.agg #[.string s, .slice A L.length cap]] w fun e w' => e = .returned (.int .i64 (codeI s L)) ∧ Below w.heap.size w w' := by
  unfold maxLen at hL
  have X := Lib.hid H
  have C12 := Lib.hid (code_12 s L)
  have C11 := Lib.hid (code_11 s L)
  have C0 := Lib.hid (code_0 s L)
  have C2 := Lib.hid (code_2 s L)
  obtain ⟨n, hn⟩ : ∃ n, L.length = n := ⟨_, rfl⟩
  have HN := Lib.hid hn
  obtain ⟨kb, hkb⟩ : ∃ kb, knB s = kb := ⟨_, rfl⟩
  have HK := Lib.hid hkb
  rw [hn] at hL ⊢
  have T0 := Lib.hid (Bx.new w s A n cap 24)
  have B0 : Hid (Below w.heap.size w (w.alloc (.cells #[.string s, .slice A n cap] 24))) := (Below.refl _ _).alloc (Nat.le_refl _) _
  clear H hn hkb
  go_enter Tryz.func42, Tryz.ntmps42
  go_wp2
  refine Mixed.wp_region_mixed (fun w' => Bx w' w.heap.size s A n cap) 3 [(1, true), (2, true), (0, false)] (by kernel_rfl) (by kernel_rfl) T0.out ?_
  refine Mixed.wpMix_pure rfl (by kernel_rfl) (.pointer (some ⟨w.heap.size, 0, none⟩)) (fun w h => by obtain ⟨h1, h2⟩ := h; go_simp; try rfl) ?_
  refine Mixed.wpMix_pure rfl (by kernel_rfl) (.string s) (fun w h => by obtain ⟨h1, h2⟩ := h; go_simp; try rfl) ?_
  refine Mixed.wpMix_loudG rfl (by kernel_rfl) ?_
  go_wp2_with fail
  refine (mnemonics_any _).mono ?_
  rintro e w1 ⟨mb, rfl, hM, h1⟩
  have T1 : Hid (Bx w1 w.heap.size s A n cap) := T0.out.all (((below_drewN _ _ 1)).trans h1)
  have B1 : Hid (Below w.heap.size w w1) := (B0.out.trans (below_drewN _ _ 1)).trans (h1.mono (by simp))
  have LK := look_mn hM s hs
  rw [HK.out] at LK
  have xx := T1.out
  clear hM h1 T0 B0
  go_wp2
  refine ⟨xx, ?_⟩
  simp only [Mixed.wpMix, List.drop_succ_cons, List.drop_zero]
  clear xx
  cases kb with
  | false =>
    have E := Lib.hid (C12.out HK.out)
    go_wp2
    go_ret
    exact ⟨ret_int E.out, B1.out⟩
  | true =>
    have xx := T1.out
    obtain ⟨x0, x1⟩ := xx
    by_cases h3 : 3 < n
    · have E := Lib.hid (C11.out HK.out (by rw [HN.out]; exact h3))
      have h3' : (3 : Int) < (n : Int) := by omega
      go_wp2
      go_ret
      exact ⟨ret_int E.out, B1.out⟩
    · have H3 : Hid (¬ 3 < L.length) := by rw [HN.out]; exact h3
      have h3' : ¬ (3 : Int) < (n : Int) := by omega
      go_wp2
      clear h3' h3
      go_loopw [17] (fun i wr => ∃ j : Nat, j ≤ n ∧ i = .int .i64 j ∧ Hid (∀ k, k < j → ∀ (a : k < L.length), vT L[k] = true) ∧ Hid (Below w.heap.size w wr)) (fun i _ => n - (intOf i).toNat)
      case atStart => exact ⟨0, Nat.zero_le _, rfl, fun k h => by omega, B1.out⟩
      case round =>
        obtain ⟨j, hj, rfl, R, B⟩ := hrel
        by_cases hlt : j < n
        · have hj1 : j < L.length := by have := HN.out; omega
          obtain ⟨b1, o1, hA1, -, p0, p1, p2⟩ := (X.out.below B.out).at_ hj1
          subst hA1
          have HV : Hid (vT L[j] = vldB L[j].1 L[j].2.1 L[j].2.2) := rfl
          have R2 : Hid (vT L[j] = true → ∀ k, k < j + 1 → ∀ (a : k < L.length), vT L[k] = true) := fun q k hk a => by
            by_cases e : k = j
            · subst e; exact q
            · exact R.out k (by omega) a
          have N2 : Hid (vT L[j] = false → 2 = codeI s L) := fun q => C2.out HK.out H3.out j hj1 q
          obtain ⟨vb, hvb⟩ : ∃ vb, vT L[j] = vb := ⟨_, rfl⟩
          rw [hvb] at HV R2 N2
          obtain ⟨⟨y0, y1, y2⟩, hy⟩ : ∃ y, L[j] = y := ⟨_, rfl⟩
          rw [hy] at p0 p1 p2 HV
          simp only at p0 p1 p2 HV
          have VV := Lib.hid (valid_any y0 y1 y2)
          rw [← HV.out] at VV
          have hal : Below wr.heap.size wr (wr.alloc (.cells #[.int .i64 y0, .int .i64 y1, .int .i64 y2] 68)) := (Below.refl _ _).alloc (Nat.le_refl _) _
          have BA := Lib.hid (B.out.trans (hal.mono B.out.size))
          clear hy hvb hj1 R HV hal B
          go_wp2_with fail
          refine (VV.out _).mono ?_
          rintro e w2 ⟨rfl, hb⟩
          have B2 := Lib.hid (BA.out.trans (hb.mono BA.out.size))
          clear hb BA
          cases vb with
          | true =>
            go_wp2
            go_roundw
            case rel => exact ⟨j + 1, by omega, by go_num, R2.out trivial, B2.out⟩
            case measure => simp [intOf]; omega
          | false =>
            go_wp2
            go_ret
            exact ⟨ret_int (N2.out trivial), B2.out⟩
        · have hjn : j = n := by omega
          have E : Hid (0 = codeI s L) := C0.out HK.out H3.out fun k hk a => R.out k (by have := HN.out; omega) a
          clear R
          go_wp2
          go_ret
          exact ⟨ret_int E.out, B.out⟩
theorem rcheck_all (s : ByteArray) (A : Option Addr) (cap : Nat) (L : List Tr) (hL : L.length ≤ maxLen) (w : World) (H : OpsP w A L) :
    Calls Tryz.prog 45 #[.agg #[.string s, .slice A L.length cap]] w fun e w' => e = .returned (.int .i64 (codeI s L)) ∧ Below w.heap.size w w' := by
  unfold maxLen at hL
  have X := Lib.hid H
  have C12 := Lib.hid (code_12 s L)
  have C11 := Lib.hid (code_11 s L)
  have C0 := Lib.hid (code_0 s L)
  have C2 := Lib.hid (code_2 s L)
  have RK := Lib.hid (rknown_any s)
  obtain ⟨n, hn⟩ : ∃ n, L.length = n := ⟨_, rfl⟩
  have HN := Lib.hid hn
  obtain ⟨kb, hkb⟩ : ∃ kb, knB s = kb := ⟨_, rfl⟩
  have HK := Lib.hid hkb
  rw [hkb] at RK
  rw [hn] at hL ⊢
  have T0 := Lib.hid (Bx.new w s A n cap 24)
  have B0 : Hid (Below w.heap.size w (w.alloc (.cells #[.string s, .slice A n cap] 24))) := (Below.refl _ _).alloc (Nat.le_refl _) _
  clear H hn hkb
  go_enter Tryz.func45, Tryz.ntmps45
  go_wp2_with fail
  refine (RK.out _).mono ?_
  rintro e w1 ⟨rfl, h1⟩
  have T1 : Hid (Bx w1 w.heap.size s A n cap) := T0.out.all h1
  have B1 : Hid (Below w.heap.size w w1) := B0.out.trans (h1.mono (by simp))
  clear h1 T0 B0 RK
  cases kb with
  | false =>
    have E := Lib.hid (C12.out HK.out)
    go_wp2
    go_ret
    exact ⟨ret_int E.out, B1.out⟩
  | true =>
    have xx := T1.out
    obtain ⟨x0, x1⟩ := xx
    by_cases h3 : 3 < n
    · have E := Lib.hid (C11.out HK.out (by rw [HN.out]; exact h3))
      have h3' : (3 : Int) < (n : Int) := by omega
      go_wp2
      go_ret
      exact ⟨ret_int E.out, B1.out⟩
    · have H3 : Hid (¬ 3 < L.length) := by rw [HN.out]; exact h3
      have h3' : ¬ (3 : Int) < (n : Int) := by omega
      go_wp2
      clear h3' h3 x0 x1
      go_loopw [3] (fun i wr => ∃ j : Nat, j ≤ n ∧ i = .int .i64 j ∧ Hid (∀ k, k < j → ∀ (a : k < L.length), vT L[k] = true) ∧ Hid (Bx wr w.heap.size s A n cap) ∧ Hid (Below w.heap.size w wr)) (fun i _ => n - (intOf i).toNat)
      case atStart => exact ⟨0, Nat.zero_le _, rfl, fun k h => by omega, T1.out, B1.out⟩
      case round =>
        obtain ⟨j, hj, rfl, R, T, B⟩ := hrel
        obtain ⟨x0, x1⟩ := T.out
        by_cases hlt : j < n
        · have hj1 : j < L.length := by have := HN.out; omega
          obtain ⟨b1, o1, hA1, -, p0, p1, p2⟩ := (X.out.below B.out).at_ hj1
          subst hA1
          have HV : Hid (vT L[j] = vldB L[j].1 L[j].2.1 L[j].2.2) := rfl
          have R2 : Hid (vT L[j] = true → ∀ k, k < j + 1 → ∀ (a : k < L.length), vT L[k] = true) := fun q k hk a => by
            by_cases e : k = j
            · subst e; exact q
            · exact R.out k (by omega) a
          have N2 : Hid (vT L[j] = false → 2 = codeI s L) := fun q => C2.out HK.out H3.out j hj1 q
          obtain ⟨vb, hvb⟩ : ∃ vb, vT L[j] = vb := ⟨_, rfl⟩
          rw [hvb] at HV R2 N2
          obtain ⟨⟨y0, y1, y2⟩, hy⟩ : ∃ y, L[j] = y := ⟨_, rfl⟩
          rw [hy] at p0 p1 p2 HV
          simp only at p0 p1 p2 HV
          have VV := Lib.hid (rvalid_any y0 y1 y2)
          rw [← HV.out] at VV
          clear hy hvb hj1 R HV
          go_wp2_with fail
          refine (VV.out _).mono ?_
          rintro e w2 ⟨rfl, hb⟩
          have B2 := Lib.hid (B.out.trans (hb.mono B.out.size))
          have T2 := Lib.hid (T.out.all hb)
          clear hb B x0 x1 T
          cases vb with
          | true =>
            go_wp2
            go_roundw
            case rel => exact ⟨j + 1, by omega, by go_num, R2.out trivial, T2.out, B2.out⟩
            case measure => simp [intOf]; omega
          | false =>
            go_wp2
            go_ret
            exact ⟨ret_int (N2.out trivial), B2.out⟩
        · have hjn : j = n := by omega
          have E : Hid (0 = codeI s L) := C0.out HK.out H3.out fun k hk a => R.out k (by have := HN.out; omega) a
          clear R
          go_wp2
          go_ret
          exact ⟨ret_int E.out, B.out⟩
theorem check_any (s : ByteArray) (A : Option Addr) (cap : Nat) (L : List Tr) (hs : s.size ≤ maxLen) (hL : L.length ≤ 1000) (w : World) (H : OpsP w A L) :
    Calls Tryz.prog 42 #[.agg #[.string s, .slice A L.length cap]] w fun e w' => e = .returned (.int .i64 (codeI s L)) ∧ Below w.heap.size w w' := check_all s A cap L hs (by unfold maxLen; omega) w H
theorem rcheck_any (s : ByteArray) (A : Option Addr) (cap : Nat) (L : List Tr) (hL : L.length ≤ 1000) (w : World) (H : OpsP w A L) :
    Calls Tryz.prog 45 #[.agg #[.string s, .slice A L.length cap]] w fun e w' => e = .returned (.int .i64 (codeI s L)) ∧ Below w.heap.size w w' := rcheck_all s A cap L (by unfold maxLen; omega) w H
end Go.Proofs.YtbbpkoaeedkncaaGreatDoor
