/-
  Lists of cells in ascending order: what putting bytes makes of them, and their runs. No program.
-/
import Derived.Test.YtllfebekanafhaaImgC
namespace Go.Proofs.Ytllfebekanafhaa
open Go.RowKit
set_option linter.unusedVariables false

abbrev Cel := Nat × UInt8
def hasW (W : List Cel) (i : Nat) : Bool := W.any (fun c => c.1 == i)
def byteW (W : List Cel) (i : Nat) : UInt8 := ((W.find? (fun c => c.1 == i)).map (·.2)).getD 0
def SortedW (W : List Cel) : Prop := W.Pairwise (fun a b => a.1 < b.1) ∧ ∀ c ∈ W, c.1 < 65536
/-- The cells of bytes from a on. -/
def mkW (a : Nat) : List UInt8 → List Cel
  | [] => []
  | x :: t => (a, x) :: mkW (a + 1) t
theorem mkW_append (a : Nat) (xs ys : List UInt8) : mkW a (xs ++ ys) = mkW a xs ++ mkW (a + xs.length) ys := by
  induction xs generalizing a with
  | nil => rfl
  | cons x t ih =>
    simp only [List.cons_append, mkW, ih, List.length_cons]
    rw [show a + 1 + t.length = a + (t.length + 1) by omega]
theorem mkW_length (a : Nat) (xs : List UInt8) : (mkW a xs).length = xs.length := by
  induction xs generalizing a with
  | nil => rfl
  | cons x t ih => simp [mkW, ih]
theorem mkW_mem {a : Nat} {xs : List UInt8} {c : Cel} : c ∈ mkW a xs ↔ a ≤ c.1 ∧ c.1 < a + xs.length ∧ xs.getD (c.1 - a) 0 = c.2 := by
  induction xs generalizing a with
  | nil => simp [mkW]; omega
  | cons x t ih =>
    simp only [mkW, List.mem_cons, ih, List.length_cons]
    constructor
    · rintro (rfl | ⟨h1, h2, h3⟩)
      · simp
      · refine ⟨by omega, by omega, ?_⟩
        rw [show c.1 - a = (c.1 - (a + 1)) + 1 by omega, List.getD_cons_succ]
        exact h3
    · rintro ⟨h1, h2, h3⟩
      by_cases e : c.1 = a
      · left
        rw [e, Nat.sub_self, List.getD_cons_zero] at h3
        exact Prod.ext e h3.symm
      · right
        refine ⟨by omega, by omega, ?_⟩
        rw [show c.1 - a = (c.1 - (a + 1)) + 1 by omega, List.getD_cons_succ] at h3
        exact h3
theorem mkW_sorted (a : Nat) (xs : List UInt8) : (mkW a xs).Pairwise (fun a b => a.1 < b.1) := by
  induction xs generalizing a with
  | nil => simp [mkW]
  | cons x t ih =>
    simp only [mkW, List.pairwise_cons]
    exact ⟨fun c hc => by have := (mkW_mem.1 hc).1; omega, ih (a + 1)⟩
theorem hasW_iff {W : List Cel} {i : Nat} : hasW W i = true ↔ ∃ c ∈ W, c.1 = i := by
  unfold hasW; rw [List.any_eq_true]; simp
theorem hasW_false {W : List Cel} {i : Nat} : hasW W i = false ↔ ∀ c ∈ W, c.1 ≠ i := by
  unfold hasW; rw [List.any_eq_false]; simp
theorem hasW_mk (a : Nat) (xs : List UInt8) (i : Nat) : hasW (mkW a xs) i = (decide (a ≤ i) && decide (i < a + xs.length)) := by
  by_cases h : a ≤ i ∧ i < a + xs.length
  · rw [decide_eq_true h.1, decide_eq_true h.2]
    exact hasW_iff.2 ⟨(i, xs.getD (i - a) 0), mkW_mem.2 ⟨h.1, h.2, rfl⟩, rfl⟩
  · have : hasW (mkW a xs) i = false := hasW_false.2 fun c hc e => h (by have := mkW_mem.1 hc; omega)
    rw [this]
    symm
    rw [Bool.and_eq_false_iff]
    by_cases h1 : a ≤ i
    · right; exact decide_eq_false (fun h2 => h ⟨h1, h2⟩)
    · left; exact decide_eq_false h1
theorem byteW_none {W : List Cel} {i : Nat} (h : hasW W i = false) : byteW W i = 0 := by
  have : W.find? (fun c => c.1 == i) = none := List.find?_eq_none.2 fun c hc => by have := hasW_false.1 h c hc; simpa using this
  unfold byteW; rw [this]; rfl
theorem byteW_mem {W : List Cel} (hs : W.Pairwise (fun a b => a.1 < b.1)) {c : Cel} (hc : c ∈ W) : byteW W c.1 = c.2 := by
  induction W with
  | nil => cases hc
  | cons d t ih =>
    rw [List.pairwise_cons] at hs
    unfold byteW
    by_cases e : d.1 = c.1
    · rcases List.mem_cons.1 hc with rfl | h
      · simp
      · have := hs.1 c h; omega
    · rcases List.mem_cons.1 hc with rfl | h
      · exact absurd rfl e
      · have := ih hs.2 h
        unfold byteW at this
        simp [e, this]
theorem mem_iff {W : List Cel} (hs : W.Pairwise (fun a b => a.1 < b.1)) (c : Cel) : c ∈ W ↔ hasW W c.1 = true ∧ byteW W c.1 = c.2 := by
  constructor
  · intro h; exact ⟨hasW_iff.2 ⟨c, h, rfl⟩, byteW_mem hs h⟩
  · rintro ⟨h1, h2⟩
    obtain ⟨d, hd, e⟩ := hasW_iff.1 h1
    have h3 := byteW_mem hs hd
    rw [e, h2] at h3
    have : d = c := Prod.ext e h3.symm
    exact this ▸ hd
theorem sorted_ext : ∀ {V W : List Cel}, V.Pairwise (fun a b => a.1 < b.1) → W.Pairwise (fun a b => a.1 < b.1) → (∀ c, c ∈ V ↔ c ∈ W) → V = W
  | [], [], _, _, _ => rfl
  | [], d :: W, _, _, h => absurd ((h d).2 List.mem_cons_self) (by simp)
  | c :: V, [], _, _, h => absurd ((h c).1 List.mem_cons_self) (by simp)
  | c :: V, d :: W, hV, hW, h => by
    rw [List.pairwise_cons] at hV hW
    have hcd : c = d := by
      rcases List.mem_cons.1 ((h c).1 List.mem_cons_self) with e | h1
      · exact e
      · rcases List.mem_cons.1 ((h d).2 List.mem_cons_self) with e | h2
        · exact e.symm
        · have := hV.1 d h2
          have := hW.1 c h1
          omega
    subst hcd
    rw [sorted_ext hV.2 hW.2 fun x => ?_]
    constructor
    · intro hx
      rcases List.mem_cons.1 ((h x).1 (List.mem_cons_of_mem _ hx)) with e | h1
      · subst e; have := hV.1 x hx; omega
      · exact h1
    · intro hx
      rcases List.mem_cons.1 ((h x).2 (List.mem_cons_of_mem _ hx)) with e | h1
      · subst e; have := hW.1 x hx; omega
      · exact h1
theorem cells_ext {V W : List Cel} (hV : SortedW V) (hW : SortedW W) (h1 : ∀ i, i < 65536 → hasW V i = hasW W i) (h2 : ∀ i, i < 65536 → byteW V i = byteW W i) : V = W :=
  sorted_ext hV.1 hW.1 fun c => by
    by_cases hc : c.1 < 65536
    · rw [mem_iff hV.1, mem_iff hW.1, h1 _ hc, h2 _ hc]
    · exact ⟨fun h => absurd (hV.2 c h) hc, fun h => absurd (hW.2 c h) hc⟩
theorem sorted_length_aux : ∀ (W : List Cel) (lo N : Nat), W.Pairwise (fun a b => a.1 < b.1) → lo ≤ N → (∀ c ∈ W, lo ≤ c.1 ∧ c.1 < N) → W.length + lo ≤ N
  | [], lo, N, _, h, _ => by simpa using h
  | c :: t, lo, N, hs, h, hc => by
    rw [List.pairwise_cons] at hs
    have h0 := hc c List.mem_cons_self
    have := sorted_length_aux t (c.1 + 1) N hs.2 (by omega) fun d hd => ⟨hs.1 d hd, (hc d (List.mem_cons_of_mem _ hd)).2⟩
    simp only [List.length_cons]
    omega
theorem sorted_length {W : List Cel} (h : SortedW W) : W.length ≤ 65536 := by
  have := sorted_length_aux W 0 65536 h.1 (by omega) fun c hc => ⟨Nat.zero_le _, h.2 c hc⟩
  omega

/-! ### Putting -/
/-- The index of the first cell at an address or after it. -/
def findW (W : List Cel) (a : Int) : Nat := (W.takeWhile (fun c => decide ((c.1 : Int) < a))).length
theorem findW_le (W : List Cel) (a : Int) : findW W a ≤ W.length := by
  have h := congrArg List.length (List.takeWhile_append_dropWhile (p := fun c : Cel => decide ((c.1 : Int) < a)) (l := W))
  rw [List.length_append] at h
  unfold findW; omega
theorem take_findW (W : List Cel) (a : Int) : W.take (findW W a) = W.takeWhile (fun c => decide ((c.1 : Int) < a)) := by
  have h := List.takeWhile_append_dropWhile (p := fun c : Cel => decide ((c.1 : Int) < a)) (l := W)
  unfold findW
  generalize W.takeWhile (fun c : Cel => decide ((c.1 : Int) < a)) = X at h ⊢
  rw [← h, List.take_left' rfl]
theorem drop_findW (W : List Cel) (a : Int) : W.drop (findW W a) = W.dropWhile (fun c => decide ((c.1 : Int) < a)) := by
  have h := List.takeWhile_append_dropWhile (p := fun c : Cel => decide ((c.1 : Int) < a)) (l := W)
  unfold findW
  generalize W.takeWhile (fun c : Cel => decide ((c.1 : Int) < a)) = X at h ⊢
  generalize W.dropWhile (fun c : Cel => decide ((c.1 : Int) < a)) = Y at h ⊢
  rw [← h, List.drop_left' rfl]
theorem findW_of (W : List Cel) (a : Int) (i : Nat) (hi : i ≤ W.length) (h1 : ∀ j (h : j < W.length), j < i → (W[j].1 : Int) < a) (h2 : ∀ h : i < W.length, ¬ (W[i].1 : Int) < a) : findW W a = i := by
  unfold findW
  induction W generalizing i with
  | nil => simp at hi; subst hi; rfl
  | cons c t ih =>
    cases i with
    | zero =>
      have := h2 (by simp)
      simp only [List.getElem_cons_zero] at this
      rw [List.takeWhile_cons, if_neg (by simpa using this)]
      rfl
    | succ i =>
      have h0 := h1 0 (by simp) (by omega)
      simp only [List.getElem_cons_zero] at h0
      rw [List.takeWhile_cons, if_pos (by simpa using h0), List.length_cons, ih i (by simpa using hi) (fun j h hj => ?_) (fun h => ?_)]
      · exact h1 (j + 1) (by simpa using h) (by omega)
      · exact h2 (by simpa using h)
theorem mem_take_findW {W : List Cel} {a : Int} {c : Cel} (h : c ∈ W.take (findW W a)) : (c.1 : Int) < a := by
  rw [take_findW] at h
  have h2 := List.all_eq_true.1 (List.all_takeWhile (p := fun c : Cel => decide ((c.1 : Int) < a)) (l := W)) c h
  simpa using h2
theorem mem_drop_findW {W : List Cel} (hs : W.Pairwise (fun a b => a.1 < b.1)) {a : Int} {c : Cel} (h : c ∈ W.drop (findW W a)) : a ≤ (c.1 : Int) := by
  rw [drop_findW] at h
  induction W with
  | nil => simp at h
  | cons d t ih =>
    rw [List.pairwise_cons] at hs
    by_cases hd : (d.1 : Int) < a
    · rw [List.dropWhile_cons, if_pos (by simpa using hd)] at h
      exact ih hs.2 h
    · rw [List.dropWhile_cons, if_neg (by simpa using hd)] at h
      rcases List.mem_cons.1 h with rfl | h1
      · omega
      · have := hs.1 c h1; omega
/-- The cells with bytes put in from a on. -/
def insW (W : List Cel) (a : Nat) (xs : List UInt8) : List Cel := W.take (findW W a) ++ mkW a xs ++ W.drop (findW W a)
theorem mem_split (W : List Cel) (n : Nat) (c : Cel) : c ∈ W ↔ c ∈ W.take n ∨ c ∈ W.drop n := by
  conv => lhs; rw [← List.take_append_drop n W]
  exact List.mem_append
theorem mem_insW {W : List Cel} {a : Nat} {xs : List UInt8} {c : Cel} : c ∈ insW W a xs ↔ c ∈ W ∨ c ∈ mkW a xs := by
  unfold insW
  rw [List.mem_append, List.mem_append, mem_split W (findW W a) c]
  constructor
  · rintro ((h | h) | h) <;> simp [h]
  · rintro ((h | h) | h) <;> simp [h]
theorem insW_length (W : List Cel) (a : Nat) (xs : List UInt8) : (insW W a xs).length = W.length + xs.length := by
  have := findW_le W a
  unfold insW
  rw [List.length_append, List.length_append, mkW_length, List.length_take, List.length_drop]
  omega
theorem insW_nil (W : List Cel) (a : Nat) : insW W a [] = W := by unfold insW; simp [mkW]
theorem hasW_ins (W : List Cel) (a : Nat) (xs : List UInt8) (i : Nat) : hasW (insW W a xs) i = putH (hasW W) a xs.length i := by
  unfold putH
  rw [← hasW_mk a xs i]
  apply Bool.eq_iff_iff.2
  rw [Bool.or_eq_true, hasW_iff, hasW_iff, hasW_iff]
  constructor
  · rintro ⟨c, hc, e⟩
    rcases mem_insW.1 hc with h | h
    · exact .inl ⟨c, h, e⟩
    · exact .inr ⟨c, h, e⟩
  · rintro (⟨c, hc, e⟩ | ⟨c, hc, e⟩)
    · exact ⟨c, mem_insW.2 (.inl hc), e⟩
    · exact ⟨c, mem_insW.2 (.inr hc), e⟩
theorem anyB_hasW {W : List Cel} {a n : Nat} : anyB (fun j => hasW W (a + j)) n = true ↔ ∃ c ∈ W, a ≤ c.1 ∧ c.1 < a + n := by
  rw [anyB_iff]
  constructor
  · rintro ⟨k, hk, h⟩
    obtain ⟨c, hc, e⟩ := hasW_iff.1 h
    exact ⟨c, hc, by omega, by omega⟩
  · rintro ⟨c, hc, h1, h2⟩
    exact ⟨c.1 - a, by omega, hasW_iff.2 ⟨c, hc, by omega⟩⟩
theorem insW_sorted {W : List Cel} (hs : SortedW W) {a : Nat} {xs : List UInt8} (ha : a + xs.length ≤ 65536) (h : anyB (fun j => hasW W (a + j)) xs.length = false) : SortedW (insW W a xs) := by
  have hd : ∀ c ∈ W, ¬ (a ≤ c.1 ∧ c.1 < a + xs.length) := fun c hc hh => by
    have := anyB_hasW.2 ⟨c, hc, hh.1, hh.2⟩
    rw [h] at this; cases this
  refine ⟨?_, fun c hc => ?_⟩
  · unfold insW
    rw [List.pairwise_append, List.pairwise_append]
    refine ⟨⟨hs.1.sublist (List.take_sublist _ _), mkW_sorted a xs, fun c hc d hd' => ?_⟩, hs.1.sublist (List.drop_sublist _ _), fun c hc d hd' => ?_⟩
    · have h1 := mem_take_findW hc
      have h2 := (mkW_mem.1 hd').1
      omega
    · have h2 := mem_drop_findW hs.1 hd'
      have h4 := hd d ((mem_split W _ d).2 (.inr hd'))
      rcases List.mem_append.1 hc with h1 | h1
      · have := mem_take_findW h1; omega
      · have := mkW_mem.1 h1; omega
  · rcases mem_insW.1 hc with h1 | h1
    · exact hs.2 c h1
    · have := mkW_mem.1 h1; omega
theorem byteW_ins {W : List Cel} (hs : SortedW W) {a : Nat} {xs : List UInt8} (ha : a + xs.length ≤ 65536) (h : anyB (fun j => hasW W (a + j)) xs.length = false) (i : Nat) : byteW (insW W a xs) i = putD (byteW W) a xs i := by
  have hS := insW_sorted hs ha h
  unfold putD
  by_cases hi : a ≤ i ∧ i < a + xs.length
  · rw [if_pos hi]
    exact byteW_mem hS.1 (c := (i, xs.getD (i - a) 0)) (mem_insW.2 (.inr (mkW_mem.2 ⟨hi.1, hi.2, rfl⟩)))
  · rw [if_neg hi]
    by_cases hw : hasW W i = true
    · obtain ⟨c, hc, rfl⟩ := hasW_iff.1 hw
      rw [byteW_mem hs.1 hc]
      exact byteW_mem hS.1 (mem_insW.2 (.inl hc))
    · rw [Bool.not_eq_true] at hw
      rw [byteW_none hw]
      apply byteW_none
      rw [hasW_ins]
      unfold putH
      rw [hw, Bool.false_or, Bool.and_eq_false_iff]
      by_cases h1 : a ≤ i
      · right; exact decide_eq_false (fun h2 => hi ⟨h1, h2⟩)
      · left; exact decide_eq_false h1
/-- What Put makes: the cells and the code. -/
def codeW (W : List Cel) (n : Int) (xs : List UInt8) : Int := putE (hasW W) n xs.length
def putW (W : List Cel) (n : Int) (xs : List UInt8) : List Cel := if codeW W n xs = 0 then insW W n.toNat xs else W
theorem code_zero {W : List Cel} {n : Int} {xs : List UInt8} (h : codeW W n xs = 0) : 0 ≤ n ∧ n < 65536 ∧ n.toNat + xs.length ≤ 65536 ∧ anyB (fun j => hasW W (n.toNat + j)) xs.length = false := by
  unfold codeW putE at h
  cases ha : addrB n
  · rw [ha] at h; simp at h
  · rw [ha] at h
    unfold addrB at ha
    rw [Bool.and_eq_true, decide_eq_true_eq, decide_eq_true_eq] at ha
    by_cases hw : 65536 - n < (xs.length : Int)
    · rw [if_neg (by simp), if_pos hw] at h; simp at h
    · rw [if_neg (by simp), if_neg hw] at h
      cases hy : anyB (fun j => hasW W (n.toNat + j)) xs.length
      · exact ⟨ha.1, ha.2, by omega, rfl⟩
      · rw [hy] at h; simp at h
theorem putW_sorted {W : List Cel} (hs : SortedW W) (n : Int) (xs : List UInt8) : SortedW (putW W n xs) := by
  unfold putW
  by_cases h : codeW W n xs = 0
  · rw [if_pos h]
    obtain ⟨_, _, h3, h4⟩ := code_zero h
    exact insW_sorted hs h3 h4
  · rw [if_neg h]; exact hs
/-- The reference's test for an overlap. -/
theorem over_iff {W : List Cel} (hs : SortedW W) {a : Nat} {xs : List UInt8} (hx : xs ≠ []) :
    (∃ h : findW W a < W.length, W[findW W a].1 < a + xs.length) ↔ anyB (fun j => hasW W (a + j)) xs.length = true := by
  rw [anyB_hasW]
  constructor
  · rintro ⟨h, h1⟩
    have hm : W[findW W a] ∈ W.drop (findW W a) := by
      rw [List.drop_eq_getElem_cons h]; exact List.mem_cons_self
    have := mem_drop_findW hs.1 hm
    exact ⟨_, List.getElem_mem h, by omega, h1⟩
  · rintro ⟨c, hc, h1, h2⟩
    rcases (mem_split W (findW W a) c).1 hc with h3 | h3
    · have := mem_take_findW h3; omega
    · have hlt : findW W a < W.length := by
        rcases Nat.lt_or_ge (findW W a) W.length with h4 | h4
        · exact h4
        · rw [List.drop_eq_nil_of_le h4] at h3; cases h3
      refine ⟨hlt, ?_⟩
      rw [List.drop_eq_getElem_cons hlt] at h3
      rcases List.mem_cons.1 h3 with e | h5
      · rw [← e]; exact h2
      · have hp := hs.1.sublist (List.drop_sublist (findW W a) W)
        rw [List.drop_eq_getElem_cons hlt, List.pairwise_cons] at hp
        have := hp.1 c h5
        omega
end Go.Proofs.Ytllfebekanafhaa
