/-
  table.Entries, table.Named; their entries are the reference's.
-/
import Derived.Test.YtipgecdfnbldnaaGreatDoorMCoF
import Derived.Test.YtipgecdfnbldnaaGreatDoorMRfT
import Derived.Test.YtipgecdfnbldnaaGreatDoorMEsB
set_option linter.all false
set_option maxRecDepth 100000
set_option maxHeartbeats 4000000
namespace Go.Proofs.YtipgecdfnbldnaaGreatDoor
open Go.RowKit Go.Shelf
attribute [local go_sem] Oper.semAt_some
theorem find_fst (page : Int) (i : Nat) : ((fstF (patsOf (listS page)) i).1 = [] → findP (listS page) (i : Int) = none) ∧ ((fstF (patsOf (listS page)) i).1 ≠ [] → findP (listS page) (i : Int) = some (fstF (patsOf (listS page)) i)) := by
  unfold findP fstF
  cases hf : (patsOf (listS page)).find? fun p => fitsP p.1 (i : Int) with
  | none => exact ⟨fun _ => rfl, fun h => absurd rfl h⟩
  | some q =>
    have hq := (ops_fit q (pages_ok page q (List.mem_of_find?_eq_some hf))).2.1
    exact ⟨fun h => absurd h hq, fun _ => rfl⟩
def entsW (wnt : Str → Bool) (page : Int) (k : Nat) : List Ke := (entsR page k).filter fun e => wnt e.2.2.1
theorem keysC_ents (wnt : Str → Bool) (page : Int) (hw : ∀ (i : Nat) (p : Pat) (y : En), i < 256 → findP (listS page) (i : Int) = some p → entryT p page (i : Int) = some y → wnt (wordsT p (i : Int)).1 = wnt y.1) : ∀ k, k ≤ 256 → keysC wnt page (codesK (patsOf (listS page)) k) = entsW wnt page k
  | 0, _ => rfl
  | k + 1, hk => by
    have ih := keysC_ents wnt page hw k (by omega)
    have ha := at_same page k (by omega)
    obtain ⟨h1, h2⟩ := find_fst page k
    unfold atT at ha
    unfold codesK
    by_cases he : (fstF (patsOf (listS page)) k).1 = []
    · rw [if_pos he, ih]
      rw [h1 he] at ha
      unfold entsW
      rw [entsR, ← ha]
    · rw [if_neg he, keysC_snoc, ih]
      rw [h2 he] at ha
      simp only at ha
      unfold entsW keyC
      rw [entsR, ← ha]
      cases hx : entryT (fstF (patsOf (listS page)) k) page (k : Int) with
      | none => split <;> simp [keyE]
      | some y =>
        have h3 := hw k _ y (by omega) (h2 he) hx
        simp only [List.filter_append, List.filter_cons, List.filter_nil, keyE]
        rw [h3]
theorem keysPg_all (page : Int) : keysPg (fun _ => true) page = entsR page 256 := by
  unfold keysPg
  rw [keysC_ents _ page (fun _ _ _ _ _ _ => rfl) 256 (Nat.le_refl _)]
  unfold entsW
  exact List.filter_eq_self.2 fun _ _ => rfl
theorem keysAll_all (l : List Int) : keysAll (fun _ => true) l = l.flatMap fun p => entsR p 256 := by
  unfold keysAll
  exact congrArg (fun f => List.flatMap f l) (funext keysPg_all)
theorem num6 : ∀ p ∈ mainP ++ cbP ++ edP, p ∈ cbP → ∀ n < 256, numN p.1 (n / 8 * 8 + 6) 97 8 = numN p.1 n 97 8 ∧ numN p.1 (n / 8 * 8 + 6) 111 8 = numN p.1 n 111 8 := by decide +kernel
theorem numP6 {p : Pat} (h : p ∈ mainP ++ cbP ++ edP) (hc : p ∈ cbP) (n : Nat) (hn : n < 256) : numP p.1 (op6 (n : Int)) 97 = numP p.1 (n : Int) 97 ∧ numP p.1 (op6 (n : Int)) 111 = numP p.1 (n : Int) 111 := by
  have h6 := op6_all ⟨n, hn⟩
  simp only at h6
  obtain ⟨e1, e2⟩ := num6 p h hc n hn
  rw [h6, numP_eq _ _ (by omega), numP_eq _ _ hn, numP_eq _ _ (by omega), numP_eq _ _ hn]
  omega
theorem words6 {p : Pat} (h : p ∈ mainP ++ cbP ++ edP) (hc : p ∈ cbP) (n : Nat) (hn : n < 256) : (wordsT p (op6 (n : Int))).1 = (wordsT p (n : Int)).1 := by
  obtain ⟨e1, e2⟩ := numP6 h hc n hn
  unfold wordsT
  rw [e1, e2]
theorem shift_name (p : Pat) (page op ix : Int) : (shiftT p page op ix).1 = (wordsT p (op6 op)).1 := by
  unfold shiftT
  simp only
  split
  · rfl
  · split <;> rfl
theorem entry_name {page : Int} {p : Pat} {y : En} (n : Nat) (hn : n < 256) (hf : findP (listS page) (n : Int) = some p) (hy : entryT p page (n : Int) = some y) : (wordsT p (n : Int)).1 = y.1 := by
  have hm := find_mem hf
  unfold entryT at hy
  by_cases h3 : page = 3
  · rw [if_pos h3] at hy
    obtain ⟨z, -, rfl⟩ := Option.map_eq_some_iff.1 hy
    rfl
  rw [if_neg h3] at hy
  by_cases h4 : page = 4
  · rw [if_pos h4] at hy
    obtain ⟨z, -, rfl⟩ := Option.map_eq_some_iff.1 hy
    rfl
  rw [if_neg h4] at hy
  have hcb : (page = 5 ∨ page = 6) → p ∈ cbP := fun h => by
    have h1 := List.mem_of_find?_eq_some hf
    rw [patsOf_page] at h1
    unfold pagePats at h1
    rw [if_neg (by omega), if_pos (by omega)] at h1
    exact h1
  by_cases h5 : page = 5
  · rw [if_pos h5] at hy
    obtain rfl := Option.some.inj hy
    rw [shift_name]
    exact (words6 hm (hcb (.inl h5)) n hn).symm
  rw [if_neg h5] at hy
  by_cases h6 : page = 6
  · rw [if_pos h6] at hy
    obtain rfl := Option.some.inj hy
    rw [shift_name]
    exact (words6 hm (hcb (.inr h6)) n hn).symm
  rw [if_neg h6] at hy
  obtain rfl := Option.some.inj hy
  rfl
theorem keysPg_named (op : Str) (page : Int) : keysPg (fun m => decide (m = op)) page = (entsR page 256).filter fun e => decide (e.2.2.1 = op) := by
  unfold keysPg
  rw [keysC_ents _ page (fun i p y hi hf hy => congrArg (fun m => decide (m = op)) (entry_name i hi hf hy)) 256 (Nat.le_refl _)]
  rfl
theorem entries_any (w : World) (hM : MaxAt w) (A : Option Addr) (cap : Nat) (L : List Int) (hP : IntsP w A L) (hL : L.length ≤ 10) :
    Calls Tryz.prog 18 #[.slice A L.length cap] w (RetXT w ((pagesL L).flatMap fun p => entsR p 256)) := by
  have hc := collect_any 47 #[] (enters_of Tryz.func47 (by kernel_rfl) rfl) (fun _ => true) w hM A cap L hP hL (fun m w' _ => wantAll_any m w')
  rw [keysAll_all] at hc
  clear hP hM
  go_enter Tryz.func18, Tryz.ntmps18
  go_wp2_with fail
  refine hc.mono ?_
  rintro e w' ⟨A1, c1, R, rfl, h1, h2, h3⟩
  have H := Lib.hid (And.intro h1 (And.intro h2 h3))
  clear h1 h2 h3 hc
  go_wp2
  go_ret
  exact ⟨A1, c1, R, rfl, H.out.1, H.out.2.1, H.out.2.2⟩
theorem named_any (op : Str) (w : World) (hM : MaxAt w) (A : Option Addr) (cap : Nat) (L : List Int) (hP : IntsP w A L) (hL : L.length ≤ 10) :
    Calls Tryz.prog 20 #[.string (sB op), .slice A L.length cap] w (RetXT w (keysAll (fun m => decide (m = op)) (pagesL L))) := by
  obtain ⟨w1, hw1⟩ : ∃ z, w.alloc (.cells #[.string (sB op)] 9) = z := ⟨_, rfl⟩
  have b1 : Below w.heap.size w w1 := by rw [← hw1]; exact up_alloc _ _
  have x1 : Boxed w1 w.heap.size 9 (.string (sB op)) := by rw [← hw1]; exact Boxed.new _ _ _
  have hc := collect_any 48 #[.pointer (some ⟨w.heap.size, 0, none⟩)] (enters_of Tryz.func48 (by kernel_rfl) rfl) (fun m => decide (m = op)) w1 (hM.below b1) A cap L (hP.below b1) hL
    (fun m w' h => wantOne_any m op w.heap.size w' ((h.block _ x1.lt).trans x1))
  have HB := Lib.hid b1
  clear hP hM b1 x1
  go_enter Tryz.func20, Tryz.ntmps20
  go_wp2_with fail
  refine hc.mono ?_
  rintro e w' ⟨A1, c1, R, rfl, h1, h2, h3⟩
  have H := Lib.hid (And.intro (h1.lift HB.out.size) (And.intro h2 (HB.out.trans (h3.mono HB.out.size))))
  clear h1 h2 h3 hc
  go_wp2
  go_ret
  exact ⟨A1, c1, R, rfl, H.out.1, H.out.2.1, H.out.2.2⟩
end Go.Proofs.YtipgecdfnbldnaaGreatDoor
