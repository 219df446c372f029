/-
  The walk over breadboardref02.Put: for every list of cells in ascending order, address and bytes.
-/
import Derived.Test.YtllfebekanafhaaImgE
namespace Go.Proofs.Ytllfebekanafhaa
open Go.RowKit
set_option linter.unusedVariables false

theorem slice_hi (A : Option Addr) (len cap i : Nat) (hi : i ≤ cap) (w : World) :
    (Instr.slice 27 (.slice A len cap) none (some (.int .i64 (i : Int))) none).run Try.prog w = .ok (.slice A i cap) w := by
  have h2 : Try.prog.elem 27 = 65 := by unfold Program.elem; rw [Try.underlying27]
  rw [run_slice_h w 27 A len cap (by rw [h2]; exact Try.underlying27) .i64 (i : Int) (by omega) (by omega), h2, Try.sizeOf65]
  simp only [Result.andThen_ok, sliced]
  have e : (if cap = 0 then A else A.map (·.add (0 * 2))) = A := by
    split
    · rfl
    · cases A <;> simp [Addr.add]
  rw [e, show ((i : Int)).toNat - 0 = i by omega, Nat.sub_zero]
theorem slice_lo (P : Nat → Prop) (A : Option Addr) (W : List Cel) (cap i : Nat) (hi : i ≤ W.length) (hc : W.length ≤ cap) (w : World) (hW : CellsP P w A W) :
    ∃ A', (∀ w, (Instr.slice 27 (.slice A W.length cap) (some (.int .i64 (i : Int))) none none).run Try.prog w = .ok (.slice A' (W.length - i) (cap - i)) w) ∧ CellsP P w A' (W.drop i) := by
  refine ⟨if cap = i then A else A.map (·.add (i * 2)), fun w => ?_, ?_⟩
  · have h2 : Try.prog.elem 27 = 65 := by unfold Program.elem; rw [Try.underlying27]
    rw [run_slice_l w 27 A W.length cap (by rw [h2]; exact Try.underlying27) .i64 (i : Int) (by omega) (by omega), h2, Try.sizeOf65]
    simp only [Result.andThen_ok, sliced]
    rw [show ((i : Int)).toNat = i by omega]
  · by_cases h0 : W.length ≤ i
    · left; exact List.drop_eq_nil_of_le h0
    · rcases hW with rfl | ⟨b, off, rfl, hp, hcl⟩
      · simp at h0
      · right
        rw [if_neg (by omega)]
        refine ⟨b, off + i * 2, ?_, hp, fun j hj => ?_⟩
        · simp only [Option.map_some, Option.some.injEq]
          unfold Addr.add
          split
          · rename_i h; rw [h]; rfl
          · rfl
        · have hj' : i + j < W.length := by simp at hj; omega
          have h := hcl (i + j) hj'
          rw [show off + i * 2 + j * 2 = off + (i + j) * 2 by omega, List.getElem_drop]
          exact h
theorem CellsP.take {P : Nat → Prop} {w : World} {A : Option Addr} {W : List Cel} (h : CellsP P w A W) (i : Nat) : CellsP P w A (W.take i) := by
  rcases h with rfl | ⟨b, off, rfl, hp, hc⟩
  · left; simp
  · right
    refine ⟨b, off, rfl, hp, fun j hj => ?_⟩
    have hj' : j < W.length := by simp at hj; omega
    rw [List.getElem_take]
    exact hc j hj'
theorem rputBad1 (P : Nat → Prop) (A : Option Addr) (cap : Nat) (W : List Cel) (n : Int) (B : Option Addr) (bcap : Nat) (xs : List UInt8) (w : World) (hcap : W.length ≤ cap) (hW : CellsP P w A W) (ha : addrB n = false) :
    Calls Try.prog 12 #[.slice A W.length cap, .int .i64 n, .slice B xs.length bcap] w (RetCells P w W 2) := by
  have N : Hid (RetCells P w W 2 (.returned (.tuple #[.slice A W.length cap, .int .i64 2])) w) := ⟨A, cap, rfl, hcap, hW, Below.refl _ _⟩
  clear hW
  by_cases h0 : n < 0
  · clear ha
    go_enter Try.func12, Try.ntmps12
    go_wp2
    go_ret2
    exact N.out
  · have h1 : 65535 < n := by
      unfold addrB at ha
      rw [Bool.and_eq_false_iff, decide_eq_false_iff_not, decide_eq_false_iff_not] at ha
      omega
    clear ha
    go_enter Try.func12, Try.ntmps12
    go_wp2
    go_ret2
    exact N.out
theorem rputBad2 (P : Nat → Prop) (A : Option Addr) (cap : Nat) (W : List Cel) (n : Int) (h0 : 0 ≤ n) (h1 : n ≤ 65535) (B : Option Addr) (bcap : Nat) (xs : List UInt8) (w : World) (hcap : W.length ≤ cap) (hW : CellsP P w A W) (hw : 65536 - n < (xs.length : Int)) (hl : xs.length ≤ maxLen) :
    Calls Try.prog 12 #[.slice A W.length cap, .int .i64 n, .slice B xs.length bcap] w (RetCells P w W 10) := by
  have N : Hid (RetCells P w W 10 (.returned (.tuple #[.slice A W.length cap, .int .i64 10])) w) := ⟨A, cap, rfl, hcap, hW, Below.refl _ _⟩
  unfold maxLen at hl
  clear hW
  go_enter Try.func12, Try.ntmps12
  go_wp2
  go_ret2
  exact N.out
theorem rputNone (P : Nat → Prop) (A : Option Addr) (cap : Nat) (W : List Cel) (hWl : W.length ≤ 65536) (n : Int) (h0 : 0 ≤ n) (h1 : n ≤ 65535) (B : Option Addr) (bcap : Nat) (w : World) (hcap : W.length ≤ cap) (hW : CellsP P w A W) :
    Calls Try.prog 12 #[.slice A W.length cap, .int .i64 n, .slice B 0 bcap] w (RetCells P w W 0) := by
  have N : Hid (RetCells P w W 0 (.returned (.tuple #[.slice A W.length cap, .int .i64 0])) w) := ⟨A, cap, rfl, hcap, hW, Below.refl _ _⟩
  have hf := find_any P A cap W (by unfold maxLen; omega) n w hW
  clear hW
  have h2 : decide (65536 - n < 0) = false := decide_eq_false (by omega)
  go_enter Try.func12, Try.ntmps12
  go_wp2_with fail
  refine hf.mono ?_
  rintro e w1 ⟨rfl, rfl⟩
  go_wp2
  go_ret2
  exact N.out
set_option maxHeartbeats 1000000 in
theorem rputOver (P : Nat → Prop) (A : Option Addr) (cap : Nat) (W : List Cel) (hs : SortedW W) (a : Nat) (B : Option Addr) (bcap : Nat) (xs : List UInt8) (hx : xs ≠ []) (hax : a + xs.length ≤ 65536) (w : World) (hcap : W.length ≤ cap) (hW : CellsP P w A W)
    (hov : anyB (fun j => hasW W (a + j)) xs.length = true) :
    Calls Try.prog 12 #[.slice A W.length cap, .int .i64 a, .slice B xs.length bcap] w (RetCells P w W 4) := by
  have N : Hid (RetCells P w W 4 (.returned (.tuple #[.slice A W.length cap, .int .i64 4])) w) := ⟨A, cap, rfl, hcap, hW, Below.refl _ _⟩
  have hWl := sorted_length hs
  have hf := find_any P A cap W (by unfold maxLen; omega) (a : Int) w hW
  obtain ⟨hk, ho⟩ := (over_iff hs hx).2 hov
  obtain ⟨b, off, hA, g1, g2⟩ := hW.at_ hk
  subst hA
  have hx0 : 0 < xs.length := List.length_pos_iff.2 hx
  have e0 : ((xs.length : Int) == 0) = false := beq_eq_false_iff_ne.2 (by omega)
  have hk2 : (findW W (a : Int) : Int) < (W.length : Int) := by omega
  have ho2 : (W[findW W (a : Int)].1 : Int) < (a : Int) + (xs.length : Int) := by omega
  obtain ⟨i, hi⟩ : ∃ i, findW W (a : Int) = i := ⟨_, rfl⟩
  obtain ⟨y, hy⟩ : ∃ y : Int, (W[findW W (a : Int)].1 : Int) = y := ⟨_, rfl⟩
  rw [hy] at g1 ho2
  rw [hi] at hf g1 hk2
  have h2 : decide (65536 - (a : Int) < (xs.length : Int)) = false := decide_eq_false (by omega)
  have h3 : (a : Int) ≤ 65535 := by omega
  clear hW hov ho hy hi g2 hx hs
  go_enter Try.func12, Try.ntmps12
  go_wp2_with fail
  refine hf.mono ?_
  rintro e w1 ⟨rfl, rfl⟩
  go_wp2
  go_ret2
  exact N.out
set_option maxHeartbeats 1000000 in
theorem rputGood (P : Nat → Prop) (A : Option Addr) (cap : Nat) (W : List Cel) (hs : SortedW W) (a : Nat) (Q : Nat → Prop) (B : Option Addr) (bcap : Nat) (xs : List UInt8) (hx : xs ≠ []) (hax : a + xs.length ≤ 65536) (w : World) (hcap : W.length ≤ cap) (hW : CellsP P w A W)
    (hB : BytesP Q w B xs) (hov : anyB (fun j => hasW W (a + j)) xs.length = false) :
    Calls Try.prog 12 #[.slice A W.length cap, .int .i64 a, .slice B xs.length bcap] w (RetCells (w.heap.size ≤ ·) w (insW W a xs) 0) := by
  have hWl := sorted_length hs
  have hf := find_any P A cap W (by unfold maxLen; omega) (a : Int) w hW
  have hno : ¬ ∃ h : findW W a < W.length, W[findW W a].1 < a + xs.length := fun h => by
    have := (over_iff hs hx).1 h
    rw [hov] at this; cases this
  have hx0 : 0 < xs.length := List.length_pos_iff.2 hx
  have e0 : ((xs.length : Int) == 0) = false := beq_eq_false_iff_ne.2 (by omega)
  have hil := findW_le W (a : Int)
  have h2 : decide (65536 - (a : Int) < (xs.length : Int)) = false := decide_eq_false (by omega)
  have h3 : (a : Int) ≤ 65535 := by omega
  have Z := Lib.hid hW
  have X := Lib.hid hB
  have HS := Lib.hid hs
  clear hov hW hB hx hs
  obtain ⟨i, hi⟩ : ∃ i, findW W (a : Int) = i := ⟨_, rfl⟩
  have HI := Lib.hid hi
  rw [hi] at hf hil
  by_cases hlt : i < W.length
  case' neg =>
    have hlt2 : decide ((i : Int) < (W.length : Int)) = false := decide_eq_false (by omega)
    clear hno hi
    go_enter Try.func12, Try.ntmps12
    go_wp2_with fail
    refine hf.mono ?_
    rintro e w1 ⟨rfl, rfl⟩
    go_wp2
  case' pos =>
    obtain ⟨b, off, hA, g1, g2⟩ := Z.out.at_ hlt
    subst hA
    have ho : ¬ (W[i].1 < a + xs.length) := fun h => hno (by subst hi; exact ⟨hlt, h⟩)
    obtain ⟨y, hy⟩ : ∃ y : Int, (W[i].1 : Int) = y := ⟨_, rfl⟩
    rw [hy] at g1
    have hoy : decide (y < (a : Int) + (xs.length : Int)) = false := decide_eq_false (by omega)
    have hlt2 : (i : Int) < (W.length : Int) := by omega
    clear hno ho hy g2 hi
    go_enter Try.func12, Try.ntmps12
    go_wp2_with fail
    refine hf.mono ?_
    rintro e w1 ⟨rfl, rfl⟩
    go_wp2
  all_goals
    clear hlt2 e0 hf h2
    go_loopw [9, 10] (fun v i wr => ∃ k : Nat, k ≤ xs.length ∧ i = .int .i64 k ∧ OwnC w wr v (mkW a (xs.take k))) (fun _ i _ => xs.length - (intOf i).toNat)
    case atStart => exact ⟨0, Nat.zero_le _, rfl, ownC_start w⟩
    case round =>
      obtain ⟨k, hk, rfl, hr⟩ := hrel
      have R := Lib.hid hr
      clear hr
      by_cases hlt : k < xs.length
      · obtain ⟨bb, ob, hB, g⟩ := (X.out.below R.out.2).at_ hlt
        subst hB
        have M := Lib.hid (mk_take a xs k hlt)
        have R1 := fun o => Lib.hid (R.out.alloc o)
        have hmk : (mkW a (xs.take k)).length ≤ k := by rw [mkW_length]; simp; omega
        have hm1 : (mkW a (xs.take k)).length + [(a + k, xs[k])].length ≤ 8796093022208 := by simp only [List.length_cons, List.length_nil]; omega
        clear hmk
        have HM := Lib.hid hm1
        clear hm1
        go_wp2_with (at_builtin; refine wpList_appC (R1 _).out (cell_one _ (a + k) xs[k] _ _ (by omega) rfl) 1 1 rfl HM.out rfl _ _ rfl rfl rfl ?_)
        intro v' w1 ho
        have N : Hid (OwnC w w1 v' (mkW a (xs.take (k + 1)))) := by rw [M.out]; exact ho
        clear ho
        go_wp2
        go_roundw
        case rel => exact ⟨k + 1, by omega, by go_num, N.out⟩
        case measure => simp [intOf]; omega
      · have N : Hid (OwnC w wr u9 (mkW a xs)) := by
          have h := R.out
          rwa [List.take_of_length_le (by omega)] at h
        have hk2 : decide ((k : Int) < (xs.length : Int)) = false := decide_eq_false (by omega)
        obtain ⟨A9, cap9, hv9, hc9, C9⟩ := N.out.cellsP
        rw [mkW_length] at hv9 hc9
        subst hv9
        obtain ⟨A7, hsl, C7⟩ := slice_lo P _ W cap i hil hcap w Z.out
        have hsh := fun (A : Option Addr) w => slice_hi A W.length cap i (by omega) w
        have B1 : Below w.heap.size w wr := N.out.2
        have hB1 := B1.size
        have S0 : Hid (OwnC wr (wr.drew.alloc (.cells #[] 65)) (.slice (some ⟨wr.heap.size, 0, none⟩) 0 0) []) :=
          Lib.hid ⟨World.ownsRow_made wr.drew #[] 0 (Nat.le_refl _) (by unfold maxLen; omega) rfl, (Below.refl _ _).drew.alloc (Nat.le_refl _) _⟩
        have T0 := Lib.hid (((Z.out.take i).below B1).below S0.out.2)
        have T7 := Lib.hid (C7.below B1)
        have L0 : Hid (i = (W.take i).length) := by show i = _; rw [List.length_take]; omega
        have L1 : Hid (xs.length = (mkW a xs).length) := (mkW_length a xs).symm
        have L2 : Hid (W.length - i = (W.drop i).length) := (List.length_drop ..).symm
        have M0 : Hid (([] : List Cel).length + (W.take i).length ≤ 8796093022208) := by show _ ≤ _; rw [← L0.out]; simp only [List.length_nil]; omega
        have M1 : Hid (([] ++ W.take i).length + (mkW a xs).length ≤ 8796093022208) := by show _ ≤ _; rw [List.nil_append, ← L0.out, ← L1.out]; omega
        have M2 : Hid (([] ++ W.take i ++ mkW a xs).length + (W.drop i).length ≤ 8796093022208) := by show _ ≤ _; rw [List.nil_append, List.length_append, ← L0.out, ← L1.out, ← L2.out]; omega
        have F : Hid (∀ A5 cap5 w5, ([] ++ W.take i ++ mkW a xs ++ W.drop i).length ≤ cap5 → CellsP (wr.heap.size ≤ ·) w5 A5 ([] ++ W.take i ++ mkW a xs ++ W.drop i) → Below wr.heap.size wr w5 →
            RetCells (w.heap.size ≤ ·) w (insW W a xs) 0 (.returned (.tuple #[.slice A5 ([] ++ W.take i ++ mkW a xs ++ W.drop i).length cap5, .int .i64 0])) w5) := by
          intro A5 cap5 w5 h1 h2 h3
          have e : [] ++ W.take i ++ mkW a xs ++ W.drop i = insW W a xs := by
            unfold insW; rw [HI.out, List.nil_append]
          rw [e] at h1 h2 ⊢
          exact ⟨A5, cap5, rfl, h1, h2.mono (fun j _ hj => Nat.le_trans hB1 hj), B1.trans (h3.mono hB1)⟩
        clear B1 hB1 C7
        go_wp2
        refine Mixed.wp_region_mixed (fun _ => True) 11 [(1, true), (2, true), (3, true), (5, true), (7, true), (8, true), (9, true), (0, false), (4, false), (6, false), (10, false)] (by kernel_rfl) (by kernel_rfl) trivial ?_
        refine Mixed.wpMix_move rfl rfl _ rfl _ rfl ?_
        refine Mixed.wpMix_move rfl rfl _ rfl _ rfl ?_
        refine Mixed.wpMix_pure rfl rfl _ (fun w _ => by go_simp; rfl) ?_
        refine Mixed.wpMix_move rfl rfl _ rfl _ rfl ?_
        refine Mixed.wpMix_move rfl rfl _ rfl _ rfl ?_
        refine Mixed.wpMix_move rfl rfl _ rfl _ rfl ?_
        refine Mixed.wpMix_pure rfl rfl _ (fun w _ => by go_simp; rfl) ?_
        refine Mixed.wpMix_loud rfl ?_
        go_wp2
        refine ⟨trivial, ?_⟩
        refine Mixed.wpMix_loud rfl ?_
        refine wpList_appC S0.out T0.out i cap L0.out M0.out rfl _ _ rfl rfl rfl ?_
        intro v3 w3 o3
        refine ⟨trivial, ?_⟩
        refine Mixed.wpMix_loud rfl ?_
        refine wpList_appC o3 (C9.below o3.2) xs.length cap9 L1.out M1.out rfl _ _ rfl rfl rfl ?_
        intro v4 w4 o4
        refine ⟨trivial, ?_⟩
        refine Mixed.wpMix_loud rfl ?_
        refine wpList_appC o4 (T7.out.below o4.2) (W.length - i) (cap - i) L2.out M2.out rfl _ _ rfl rfl rfl ?_
        intro v5 w5 o5
        refine ⟨trivial, ?_⟩
        obtain ⟨A5, cap5, hv5, hc5, C5⟩ := o5.cellsP
        have K := Lib.hid (F.out A5 cap5 w5 hc5 C5 o5.2)
        have L3 := Lib.hid hv5
        clear o3 o4 o5 hc5 C5 hv5
        simp only [Mixed.wpMix, List.drop_succ_cons, List.drop_zero]
        go_wp2
        rw [L3.out]
        go_ret2
        exact K.out
theorem RetCells.mono {P Q : Nat → Prop} {w : World} {W : List Cel} {c : Int} {e : Ending} {w' : World} (h : RetCells P w W c e w') (hPQ : ∀ i, P i → Q i) : RetCells Q w W c e w' := by
  obtain ⟨A, cap, h1, h2, h3, h4⟩ := h
  exact ⟨A, cap, h1, h2, h3.mono fun i _ hi => hPQ i hi, h4⟩
/-- breadboardref02.Put. -/
theorem rput_any (P : Nat → Prop) (A : Option Addr) (cap : Nat) (W : List Cel) (hs : SortedW W) (n : Int) (Q : Nat → Prop) (B : Option Addr) (bcap : Nat) (xs : List UInt8) (hl : xs.length ≤ maxLen) (w : World) (hP : ∀ i, w.heap.size ≤ i → P i)
    (hcap : W.length ≤ cap) (hW : CellsP P w A W) (hB : BytesP Q w B xs) :
    Calls Try.prog 12 #[.slice A W.length cap, .int .i64 n, .slice B xs.length bcap] w (RetCells P w (putW W n xs) (codeW W n xs)) := by
  unfold putW
  cases ha : addrB n
  · have e : codeW W n xs = 2 := by unfold codeW putE; rw [if_pos ha]
    rw [e, if_neg (by decide)]
    exact rputBad1 P A cap W n B bcap xs w hcap hW ha
  · have ha' := ha
    unfold addrB at ha'
    rw [Bool.and_eq_true, decide_eq_true_eq, decide_eq_true_eq] at ha'
    by_cases hw : 65536 - n < (xs.length : Int)
    · have e : codeW W n xs = 10 := by unfold codeW putE; rw [if_neg (by rw [ha]; decide), if_pos hw]
      rw [e, if_neg (by decide)]
      exact rputBad2 P A cap W n ha'.1 (by omega) B bcap xs w hcap hW hw hl
    · obtain ⟨a, rfl⟩ : ∃ a : Nat, n = a := ⟨n.toNat, by omega⟩
      by_cases hx : xs = []
      · subst hx
        have e : codeW W a [] = 0 := by
          unfold codeW putE
          rw [if_neg (by rw [ha]; decide), if_neg hw, if_neg (fun h => by obtain ⟨k, hk, _⟩ := anyB_iff.1 h; exact absurd hk (Nat.not_lt_zero _))]
        rw [e, if_pos rfl, insW_nil]
        exact rputNone P A cap W (sorted_length hs) a ha'.1 (by omega) B bcap w hcap hW
      · have e : codeW W a xs = if anyB (fun j => hasW W (a + j)) xs.length then 4 else 0 := by
          unfold codeW putE
          rw [if_neg (by rw [ha]; decide), if_neg hw]
          rfl
        cases hov : anyB (fun j => hasW W (a + j)) xs.length
        · rw [hov] at e
          rw [e]
          exact (rputGood P A cap W hs a Q B bcap xs hx (by omega) w hcap hW hB hov).mono fun e w' h => h.mono hP
        · rw [hov] at e
          rw [e]
          exact rputOver P A cap W hs a B bcap xs hx (by omega) w hcap hW hov

/-! ### Images of lists of cells -/
def ImgOf (w : World) (b : Nat) (W : List Cel) : Prop := SortedW W ∧ ImgF w b (hasW W) (W.length : Int) (byteW W)
theorem ImgOf.below {w w' : World} {b : Nat} {W : List Cel} (h : ImgOf w b W) (k : Below w.heap.size w w') : ImgOf w' b W := ⟨h.1, h.2.below k⟩
theorem ImgOf.keep {w w' : World} {b a : Nat} {W : List Cel} (h : ImgOf w b W) (k : Keep a w w') (hn : b ≠ a) : ImgOf w' b W := ⟨h.1, h.2.keep k hn⟩
theorem ImgOf.lt {w : World} {b : Nat} {W : List Cel} (h : ImgOf w b W) : b < w.heap.size := World.rowIs.lt h.2
theorem sorted_nil : SortedW [] := ⟨List.Pairwise.nil, fun _ h => by cases h⟩
def NewOf (w : World) (W : List Cel) (e : Ending) (w' : World) : Prop := ∃ b, e = .returned (.pointer (some ⟨b, 0, none⟩)) ∧ w.heap.size ≤ b ∧ ImgOf w' b W ∧ Below w.heap.size w w'
theorem newOf_any (w : World) : Calls Try.prog 11 #[] w (NewOf w []) :=
  (new_any w).mono fun e w' ⟨b, h1, h2, h3, h4⟩ => ⟨b, h1, h2, ⟨sorted_nil, h3⟩, h4⟩
/-- (*image.Image).Put. -/
theorem put_any (b : Nat) (W : List Cel) (n : Int) (P : Nat → Prop) (hP : ¬ P b) (A : Option Addr) (xs : List UInt8) (cap : Nat) (w : World) (hl : xs.length ≤ maxLen) (hI : ImgOf w b W) (hx : BytesP P w A xs) :
    Calls Try.prog 13 #[.pointer (some ⟨b, 0, none⟩), .int .i64 n, .slice A xs.length cap] w fun e w' =>
      e = .returned (.int .i64 (codeW W n xs)) ∧ ImgOf w' b (putW W n xs) ∧ Keep b w w' := by
  have hWl := sorted_length hI.1
  unfold putW
  by_cases h : codeW W n xs = 0
  · rw [if_pos h, h]
    obtain ⟨h0, h1, h2, h3⟩ := code_zero h
    refine (put_good b _ _ (by omega) (by omega) _ n P hP A xs cap w hl hI.2 hx h).mono fun e w' ⟨k1, k2, k3⟩ => ⟨k1, ⟨insW_sorted hI.1 h2 h3, ?_⟩, k3⟩
    rw [insW_length]
    have k4 := k2.congr (H' := hasW (insW W n.toNat xs)) (D' := byteW (insW W n.toNat xs)) (fun i _ => (hasW_ins W n.toNat xs i).symm) (fun i _ => (byteW_ins hI.1 h2 h3 i).symm)
    exact k4
  · rw [if_neg h]
    exact (put_bad b _ _ _ n A xs cap w hl hI.2 h).mono fun e w' ⟨k1, k2⟩ => by subst k2; exact ⟨k1, hI, Keep.refl _ _⟩
theorem getOf_any (b : Nat) (W : List Cel) (n : Int) (w : World) (hI : ImgOf w b W) :
    Calls Try.prog 18 #[.pointer (some ⟨b, 0, none⟩), .int .i64 n] w fun e w' => e = .returned (.tuple #[.int .u8 ((getV W n).toNat : Int), .bool (getOk W n)]) ∧ w = w' := by
  have h := get_any b _ _ _ n w hI.2 fun i _ hi => byteW_none hi
  have e : (if addrB n = true then ((byteW W n.toNat).toNat : Int) else 0) = ((getV W n).toNat : Int) := by
    unfold getV; split <;> rfl
  rw [e] at h
  exact h
theorem lenOf_any (b : Nat) (W : List Cel) (w : World) (hI : ImgOf w b W) :
    Calls Try.prog 25 #[.pointer (some ⟨b, 0, none⟩)] w fun e w' => e = .returned (.int .i64 (W.length : Int)) ∧ w = w' := len_any b _ _ _ w hI.2
end Go.Proofs.Ytllfebekanafhaa
