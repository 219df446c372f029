/-
  ImgG, ImgH, ImgI, ImgJ, ImgN, ImgK: texts joined to one.
-/
import Derived.Test.YtmeegpdjhcilkaaDoorImgAllA
import Derived.Laws.StructEq
import Derived.Laws.Rows
import Derived.Laws.Tables
import Derived.Maps.AppendAt
import Derived.Lib.SliceRun
/-
  The walk over breadboardref02.Put: for every list of cells in ascending order, address and bytes.
-/
namespace Go.Proofs.YtmeegpdjhcilkaaDoor.Im
open Go.RowKit
set_option linter.unusedVariables false

theorem slice_hi (A : Option Addr) (len cap i : Nat) (hi : i ≤ cap) (w : World) :
    (Instr.slice 24 (.slice A len cap) none (some (.int .i64 (i : Int))) none).run Tryd.prog w = .ok (.slice A i cap) w := by
  have h2 : Tryd.prog.elem 24 = 110 := by unfold Program.elem; rw [Tryd.underlying24]
  rw [run_slice_h w 24 A len cap (by rw [h2]; exact Tryd.underlying24) .i64 (i : Int) (by omega) (by omega), h2, Tryd.sizeOf110]
  simp only [Result.andThen_ok, sliced]
  have e : (if cap = 0 then A else A.map (·.add (0 * 2))) = A := by
    split
    · rfl
    · cases A <;> simp [Addr.add]
  rw [e, show ((i : Int)).toNat - 0 = i by omega, Nat.sub_zero]
theorem slice_lo (P : Nat → Prop) (A : Option Addr) (W : List Cel) (cap i : Nat) (hi : i ≤ W.length) (hc : W.length ≤ cap) (w : World) (hW : CellsP P w A W) :
    ∃ A', (∀ w, (Instr.slice 24 (.slice A W.length cap) (some (.int .i64 (i : Int))) none none).run Tryd.prog w = .ok (.slice A' (W.length - i) (cap - i)) w) ∧ CellsP P w A' (W.drop i) := by
  refine ⟨if cap = i then A else A.map (·.add (i * 2)), fun w => ?_, ?_⟩
  · have h2 : Tryd.prog.elem 24 = 110 := by unfold Program.elem; rw [Tryd.underlying24]
    rw [run_slice_l w 24 A W.length cap (by rw [h2]; exact Tryd.underlying24) .i64 (i : Int) (by omega) (by omega), h2, Tryd.sizeOf110]
    simp only [Result.andThen_ok, sliced]
    rw [show ((i : Int)).toNat = i by omega]
  · by_cases h0 : W.length ≤ i
    · left; exact List.drop_eq_nil_of_le h0
    · rcases hW with rfl | ⟨b, off, rfl, hp, hcl⟩
      · simp at h0
      · right
        rw [if_neg (by omega)]
        refine ⟨b, off + i * 2, ?_, hp, fun j hj => ?_⟩
        · simp only [Option.map_some, Option.some.injEq]
          unfold Addr.add
          split
          · rename_i h; rw [h]; rfl
          · rfl
        · have hj' : i + j < W.length := by simp at hj; omega
          have h := hcl (i + j) hj'
          rw [show off + i * 2 + j * 2 = off + (i + j) * 2 by omega, List.getElem_drop]
          exact h
theorem CellsP.take {P : Nat → Prop} {w : World} {A : Option Addr} {W : List Cel} (h : CellsP P w A W) (i : Nat) : CellsP P w A (W.take i) := by
  rcases h with rfl | ⟨b, off, rfl, hp, hc⟩
  · left; simp
  · right
    refine ⟨b, off, rfl, hp, fun j hj => ?_⟩
    have hj' : j < W.length := by simp at hj; omega
    rw [List.getElem_take]
    exact hc j hj'
theorem rputBad1 (P : Nat → Prop) (A : Option Addr) (cap : Nat) (W : List Cel) (n : Int) (B : Option Addr) (bcap : Nat) (xs : List UInt8) (w : World) (hcap : W.length ≤ cap) (hW : CellsP P w A W) (ha : addrB n = false) :
    Calls Tryd.prog 30 #[.slice A W.length cap, .int .i64 n, .slice B xs.length bcap] w (RetCells P w W 2) := by
  have N : Hid (RetCells P w W 2 (.returned (.tuple #[.slice A W.length cap, .int .i64 2])) w) := ⟨A, cap, rfl, hcap, hW, Below.refl _ _⟩
  clear hW
  by_cases h0 : n < 0
  · clear ha
    go_enter Tryd.func30, Tryd.ntmps30
    go_wp2
    go_ret2
    exact N.out
  · have h1 : 65535 < n := by
      unfold addrB at ha
      rw [Bool.and_eq_false_iff, decide_eq_false_iff_not, decide_eq_false_iff_not] at ha
      omega
    clear ha
    go_enter Tryd.func30, Tryd.ntmps30
    go_wp2
    go_ret2
    exact N.out
theorem rputBad2 (P : Nat → Prop) (A : Option Addr) (cap : Nat) (W : List Cel) (n : Int) (h0 : 0 ≤ n) (h1 : n ≤ 65535) (B : Option Addr) (bcap : Nat) (xs : List UInt8) (w : World) (hcap : W.length ≤ cap) (hW : CellsP P w A W) (hw : 65536 - n < (xs.length : Int)) (hl : xs.length ≤ maxLen) :
    Calls Tryd.prog 30 #[.slice A W.length cap, .int .i64 n, .slice B xs.length bcap] w (RetCells P w W 10) := by
  have N : Hid (RetCells P w W 10 (.returned (.tuple #[.slice A W.length cap, .int .i64 10])) w) := ⟨A, cap, rfl, hcap, hW, Below.refl _ _⟩
  unfold maxLen at hl
  clear hW
  go_enter Tryd.func30, Tryd.ntmps30
  go_wp2
  go_ret2
  exact N.out
theorem rputNone (P : Nat → Prop) (A : Option Addr) (cap : Nat) (W : List Cel) (hWl : W.length ≤ 65536) (n : Int) (h0 : 0 ≤ n) (h1 : n ≤ 65535) (B : Option Addr) (bcap : Nat) (w : World) (hcap : W.length ≤ cap) (hW : CellsP P w A W) :
    Calls Tryd.prog 30 #[.slice A W.length cap, .int .i64 n, .slice B 0 bcap] w (RetCells P w W 0) := by
  have N : Hid (RetCells P w W 0 (.returned (.tuple #[.slice A W.length cap, .int .i64 0])) w) := ⟨A, cap, rfl, hcap, hW, Below.refl _ _⟩
  have hf := find_any P A cap W (by unfold maxLen; omega) n w hW
  clear hW
  have h2 : decide (65536 - n < 0) = false := decide_eq_false (by omega)
  go_enter Tryd.func30, Tryd.ntmps30
  go_wp2_with fail
  refine hf.mono ?_
  rintro e w1 ⟨rfl, rfl⟩
  go_wp2
  go_ret2
  exact N.out
set_option maxHeartbeats 1000000 in
theorem rputOver (P : Nat → Prop) (A : Option Addr) (cap : Nat) (W : List Cel) (hs : SortedW W) (a : Nat) (B : Option Addr) (bcap : Nat) (xs : List UInt8) (hx : xs ≠ []) (hax : a + xs.length ≤ 65536) (w : World) (hcap : W.length ≤ cap) (hW : CellsP P w A W)
    (hov : anyB (fun j => hasW W (a + j)) xs.length = true) :
    Calls Tryd.prog 30 #[.slice A W.length cap, .int .i64 a, .slice B xs.length bcap] w (RetCells P w W 4) := by
  have N : Hid (RetCells P w W 4 (.returned (.tuple #[.slice A W.length cap, .int .i64 4])) w) := ⟨A, cap, rfl, hcap, hW, Below.refl _ _⟩
  have hWl := sorted_length hs
  have hf := find_any P A cap W (by unfold maxLen; omega) (a : Int) w hW
  obtain ⟨hk, ho⟩ := (over_iff hs hx).2 hov
  obtain ⟨b, off, hA, g1, g2⟩ := hW.at_ hk
  subst hA
  have hx0 : 0 < xs.length := List.length_pos_iff.2 hx
  have e0 : ((xs.length : Int) == 0) = false := beq_eq_false_iff_ne.2 (by omega)
  have hk2 : (findW W (a : Int) : Int) < (W.length : Int) := by omega
  have ho2 : (W[findW W (a : Int)].1 : Int) < (a : Int) + (xs.length : Int) := by omega
  obtain ⟨i, hi⟩ : ∃ i, findW W (a : Int) = i := ⟨_, rfl⟩
  obtain ⟨y, hy⟩ : ∃ y : Int, (W[findW W (a : Int)].1 : Int) = y := ⟨_, rfl⟩
  rw [hy] at g1 ho2
  rw [hi] at hf g1 hk2
  have h2 : decide (65536 - (a : Int) < (xs.length : Int)) = false := decide_eq_false (by omega)
  have h3 : (a : Int) ≤ 65535 := by omega
  clear hW hov ho hy hi g2 hx hs
  go_enter Tryd.func30, Tryd.ntmps30
  go_wp2_with fail
  refine hf.mono ?_
  rintro e w1 ⟨rfl, rfl⟩
  go_wp2
  go_ret2
  exact N.out
set_option maxHeartbeats 1000000 in
theorem rputGood (P : Nat → Prop) (A : Option Addr) (cap : Nat) (W : List Cel) (hs : SortedW W) (a : Nat) (Q : Nat → Prop) (B : Option Addr) (bcap : Nat) (xs : List UInt8) (hx : xs ≠ []) (hax : a + xs.length ≤ 65536) (w : World) (hcap : W.length ≤ cap) (hW : CellsP P w A W)
    (hB : BytesP Q w B xs) (hov : anyB (fun j => hasW W (a + j)) xs.length = false) :
    Calls Tryd.prog 30 #[.slice A W.length cap, .int .i64 a, .slice B xs.length bcap] w (RetCells (w.heap.size ≤ ·) w (insW W a xs) 0) := by
  have hWl := sorted_length hs
  have hf := find_any P A cap W (by unfold maxLen; omega) (a : Int) w hW
  have hno : ¬ ∃ h : findW W a < W.length, W[findW W a].1 < a + xs.length := fun h => by
    have := (over_iff hs hx).1 h
    rw [hov] at this; cases this
  have hx0 : 0 < xs.length := List.length_pos_iff.2 hx
  have e0 : ((xs.length : Int) == 0) = false := beq_eq_false_iff_ne.2 (by omega)
  have hil := findW_le W (a : Int)
  have h2 : decide (65536 - (a : Int) < (xs.length : Int)) = false := decide_eq_false (by omega)
  have h3 : (a : Int) ≤ 65535 := by omega
  have Z := Lib.hid hW
  have X := Lib.hid hB
  have HS := Lib.hid hs
  clear hov hW hB hx hs
  obtain ⟨i, hi⟩ : ∃ i, findW W (a : Int) = i := ⟨_, rfl⟩
  have HI := Lib.hid hi
  rw [hi] at hf hil
  by_cases hlt : i < W.length
  case' neg =>
    have hlt2 : decide ((i : Int) < (W.length : Int)) = false := decide_eq_false (by omega)
    clear hno hi
    go_enter Tryd.func30, Tryd.ntmps30
    go_wp2_with fail
    refine hf.mono ?_
    rintro e w1 ⟨rfl, rfl⟩
    go_wp2
  case' pos =>
    obtain ⟨b, off, hA, g1, g2⟩ := Z.out.at_ hlt
    subst hA
    have ho : ¬ (W[i].1 < a + xs.length) := fun h => hno (by subst hi; exact ⟨hlt, h⟩)
    obtain ⟨y, hy⟩ : ∃ y : Int, (W[i].1 : Int) = y := ⟨_, rfl⟩
    rw [hy] at g1
    have hoy : decide (y < (a : Int) + (xs.length : Int)) = false := decide_eq_false (by omega)
    have hlt2 : (i : Int) < (W.length : Int) := by omega
    clear hno ho hy g2 hi
    go_enter Tryd.func30, Tryd.ntmps30
    go_wp2_with fail
    refine hf.mono ?_
    rintro e w1 ⟨rfl, rfl⟩
    go_wp2
  all_goals
    clear hlt2 e0 hf h2
    go_loopw [9, 10] (fun v i wr => ∃ k : Nat, k ≤ xs.length ∧ i = .int .i64 k ∧ OwnC w wr v (mkW a (xs.take k))) (fun _ i _ => xs.length - (intOf i).toNat)
    case atStart => exact ⟨0, Nat.zero_le _, rfl, ownC_start w⟩
    case round =>
      obtain ⟨k, hk, rfl, hr⟩ := hrel
      have R := Lib.hid hr
      clear hr
      by_cases hlt : k < xs.length
      · obtain ⟨bb, ob, hB, g⟩ := (X.out.below R.out.2).at_ hlt
        subst hB
        have M := Lib.hid (mk_take a xs k hlt)
        have R1 := fun o => Lib.hid (R.out.alloc o)
        have hmk : (mkW a (xs.take k)).length ≤ k := by rw [mkW_length]; simp; omega
        have hm1 : (mkW a (xs.take k)).length + [(a + k, xs[k])].length ≤ 8796093022208 := by simp only [List.length_cons, List.length_nil]; omega
        clear hmk
        have HM := Lib.hid hm1
        clear hm1
        go_wp2_with (at_builtin; refine wpList_appC (R1 _).out (cell_one _ (a + k) xs[k] _ _ (by omega) rfl) 1 1 rfl HM.out rfl _ _ rfl rfl rfl ?_)
        intro v' w1 ho
        have N : Hid (OwnC w w1 v' (mkW a (xs.take (k + 1)))) := by rw [M.out]; exact ho
        clear ho
        go_wp2
        go_roundw
        case rel => exact ⟨k + 1, by omega, by go_num, N.out⟩
        case measure => simp [intOf]; omega
      · have N : Hid (OwnC w wr u9 (mkW a xs)) := by
          have h := R.out
          rwa [List.take_of_length_le (by omega)] at h
        have hk2 : decide ((k : Int) < (xs.length : Int)) = false := decide_eq_false (by omega)
        obtain ⟨A9, cap9, hv9, hc9, C9⟩ := N.out.cellsP
        rw [mkW_length] at hv9 hc9
        subst hv9
        obtain ⟨A7, hsl, C7⟩ := slice_lo P _ W cap i hil hcap w Z.out
        have hsh := fun (A : Option Addr) w => slice_hi A W.length cap i (by omega) w
        have B1 : Below w.heap.size w wr := N.out.2
        have hB1 := B1.size
        have S0 : Hid (OwnC wr (wr.drew.alloc (.cells #[] 110)) (.slice (some ⟨wr.heap.size, 0, none⟩) 0 0) []) :=
          Lib.hid ⟨World.ownsRow_made wr.drew #[] 0 (Nat.le_refl _) (by unfold maxLen; omega) rfl, (Below.refl _ _).drew.alloc (Nat.le_refl _) _⟩
        have T0 := Lib.hid (((Z.out.take i).below B1).below S0.out.2)
        have T7 := Lib.hid (C7.below B1)
        have L0 : Hid (i = (W.take i).length) := by show i = _; rw [List.length_take]; omega
        have L1 : Hid (xs.length = (mkW a xs).length) := (mkW_length a xs).symm
        have L2 : Hid (W.length - i = (W.drop i).length) := (List.length_drop ..).symm
        have M0 : Hid (([] : List Cel).length + (W.take i).length ≤ 8796093022208) := by show _ ≤ _; rw [← L0.out]; simp only [List.length_nil]; omega
        have M1 : Hid (([] ++ W.take i).length + (mkW a xs).length ≤ 8796093022208) := by show _ ≤ _; rw [List.nil_append, ← L0.out, ← L1.out]; omega
        have M2 : Hid (([] ++ W.take i ++ mkW a xs).length + (W.drop i).length ≤ 8796093022208) := by show _ ≤ _; rw [List.nil_append, List.length_append, ← L0.out, ← L1.out, ← L2.out]; omega
        have F : Hid (∀ A5 cap5 w5, ([] ++ W.take i ++ mkW a xs ++ W.drop i).length ≤ cap5 → CellsP (wr.heap.size ≤ ·) w5 A5 ([] ++ W.take i ++ mkW a xs ++ W.drop i) → Below wr.heap.size wr w5 →
            RetCells (w.heap.size ≤ ·) w (insW W a xs) 0 (.returned (.tuple #[.slice A5 ([] ++ W.take i ++ mkW a xs ++ W.drop i).length cap5, .int .i64 0])) w5) := by
          intro A5 cap5 w5 h1 h2 h3
          have e : [] ++ W.take i ++ mkW a xs ++ W.drop i = insW W a xs := by
            unfold insW; rw [HI.out, List.nil_append]
          rw [e] at h1 h2 ⊢
          exact ⟨A5, cap5, rfl, h1, h2.mono (fun j _ hj => Nat.le_trans hB1 hj), B1.trans (h3.mono hB1)⟩
        clear B1 hB1 C7
        go_wp2
        refine Mixed.wp_region_mixed (fun _ => True) 11 [(1, true), (2, true), (3, true), (5, true), (7, true), (8, true), (9, true), (0, false), (4, false), (6, false), (10, false)] (by kernel_rfl) (by kernel_rfl) trivial ?_
        refine Mixed.wpMix_move rfl rfl _ rfl _ rfl ?_
        refine Mixed.wpMix_move rfl rfl _ rfl _ rfl ?_
        refine Mixed.wpMix_pure rfl rfl _ (fun w _ => by go_simp; rfl) ?_
        refine Mixed.wpMix_move rfl rfl _ rfl _ rfl ?_
        refine Mixed.wpMix_move rfl rfl _ rfl _ rfl ?_
        refine Mixed.wpMix_move rfl rfl _ rfl _ rfl ?_
        refine Mixed.wpMix_pure rfl rfl _ (fun w _ => by go_simp; rfl) ?_
        refine Mixed.wpMix_loud rfl ?_
        go_wp2
        refine ⟨trivial, ?_⟩
        refine Mixed.wpMix_loud rfl ?_
        refine wpList_appC S0.out T0.out i cap L0.out M0.out rfl _ _ rfl rfl rfl ?_
        intro v3 w3 o3
        refine ⟨trivial, ?_⟩
        refine Mixed.wpMix_loud rfl ?_
        refine wpList_appC o3 (C9.below o3.2) xs.length cap9 L1.out M1.out rfl _ _ rfl rfl rfl ?_
        intro v4 w4 o4
        refine ⟨trivial, ?_⟩
        refine Mixed.wpMix_loud rfl ?_
        refine wpList_appC o4 (T7.out.below o4.2) (W.length - i) (cap - i) L2.out M2.out rfl _ _ rfl rfl rfl ?_
        intro v5 w5 o5
        refine ⟨trivial, ?_⟩
        obtain ⟨A5, cap5, hv5, hc5, C5⟩ := o5.cellsP
        have K := Lib.hid (F.out A5 cap5 w5 hc5 C5 o5.2)
        have L3 := Lib.hid hv5
        clear o3 o4 o5 hc5 C5 hv5
        simp only [Mixed.wpMix, List.drop_succ_cons, List.drop_zero]
        go_wp2
        rw [L3.out]
        go_ret2
        exact K.out
theorem RetCells.mono {P Q : Nat → Prop} {w : World} {W : List Cel} {c : Int} {e : Ending} {w' : World} (h : RetCells P w W c e w') (hPQ : ∀ i, P i → Q i) : RetCells Q w W c e w' := by
  obtain ⟨A, cap, h1, h2, h3, h4⟩ := h
  exact ⟨A, cap, h1, h2, h3.mono fun i _ hi => hPQ i hi, h4⟩
/-- breadboardref02.Put. -/
theorem rput_any (P : Nat → Prop) (A : Option Addr) (cap : Nat) (W : List Cel) (hs : SortedW W) (n : Int) (Q : Nat → Prop) (B : Option Addr) (bcap : Nat) (xs : List UInt8) (hl : xs.length ≤ maxLen) (w : World) (hP : ∀ i, w.heap.size ≤ i → P i)
    (hcap : W.length ≤ cap) (hW : CellsP P w A W) (hB : BytesP Q w B xs) :
    Calls Tryd.prog 30 #[.slice A W.length cap, .int .i64 n, .slice B xs.length bcap] w (RetCells P w (putW W n xs) (codeW W n xs)) := by
  unfold putW
  cases ha : addrB n
  · have e : codeW W n xs = 2 := by unfold codeW putE; rw [if_pos ha]
    rw [e, if_neg (by decide)]
    exact rputBad1 P A cap W n B bcap xs w hcap hW ha
  · have ha' := ha
    unfold addrB at ha'
    rw [Bool.and_eq_true, decide_eq_true_eq, decide_eq_true_eq] at ha'
    by_cases hw : 65536 - n < (xs.length : Int)
    · have e : codeW W n xs = 10 := by unfold codeW putE; rw [if_neg (by rw [ha]; decide), if_pos hw]
      rw [e, if_neg (by decide)]
      exact rputBad2 P A cap W n ha'.1 (by omega) B bcap xs w hcap hW hw hl
    · obtain ⟨a, rfl⟩ : ∃ a : Nat, n = a := ⟨n.toNat, by omega⟩
      by_cases hx : xs = []
      · subst hx
        have e : codeW W a [] = 0 := by
          unfold codeW putE
          rw [if_neg (by rw [ha]; decide), if_neg hw, if_neg (fun h => by obtain ⟨k, hk, _⟩ := anyB_iff.1 h; exact absurd hk (Nat.not_lt_zero _))]
        rw [e, if_pos rfl, insW_nil]
        exact rputNone P A cap W (sorted_length hs) a ha'.1 (by omega) B bcap w hcap hW
      · have e : codeW W a xs = if anyB (fun j => hasW W (a + j)) xs.length then 4 else 0 := by
          unfold codeW putE
          rw [if_neg (by rw [ha]; decide), if_neg hw]
          rfl
        cases hov : anyB (fun j => hasW W (a + j)) xs.length
        · rw [hov] at e
          rw [e]
          exact (rputGood P A cap W hs a Q B bcap xs hx (by omega) w hcap hW hB hov).mono fun e w' h => h.mono hP
        · rw [hov] at e
          rw [e]
          exact rputOver P A cap W hs a B bcap xs hx (by omega) w hcap hW hov

/-! ### Images of lists of cells -/
def ImgOf (w : World) (b : Nat) (W : List Cel) : Prop := SortedW W ∧ ImgF w b (hasW W) (W.length : Int) (byteW W)
theorem ImgOf.below {w w' : World} {b : Nat} {W : List Cel} (h : ImgOf w b W) (k : Below w.heap.size w w') : ImgOf w' b W := ⟨h.1, h.2.below k⟩
theorem ImgOf.keep {w w' : World} {b a : Nat} {W : List Cel} (h : ImgOf w b W) (k : Keep a w w') (hn : b ≠ a) : ImgOf w' b W := ⟨h.1, h.2.keep k hn⟩
theorem ImgOf.lt {w : World} {b : Nat} {W : List Cel} (h : ImgOf w b W) : b < w.heap.size := World.rowIs.lt h.2
theorem sorted_nil : SortedW [] := ⟨List.Pairwise.nil, fun _ h => by cases h⟩
def NewOf (w : World) (W : List Cel) (e : Ending) (w' : World) : Prop := ∃ b, e = .returned (.pointer (some ⟨b, 0, none⟩)) ∧ w.heap.size ≤ b ∧ ImgOf w' b W ∧ Below w.heap.size w w'
theorem newOf_any (w : World) : Calls Tryd.prog 28 #[] w (NewOf w []) :=
  (new_any w).mono fun e w' ⟨b, h1, h2, h3, h4⟩ => ⟨b, h1, h2, ⟨sorted_nil, h3⟩, h4⟩
/-- (*image.Image).Put. -/
theorem put_any (b : Nat) (W : List Cel) (n : Int) (P : Nat → Prop) (hP : ¬ P b) (A : Option Addr) (xs : List UInt8) (cap : Nat) (w : World) (hl : xs.length ≤ maxLen) (hI : ImgOf w b W) (hx : BytesP P w A xs) :
    Calls Tryd.prog 29 #[.pointer (some ⟨b, 0, none⟩), .int .i64 n, .slice A xs.length cap] w fun e w' =>
      e = .returned (.int .i64 (codeW W n xs)) ∧ ImgOf w' b (putW W n xs) ∧ Keep b w w' := by
  have hWl := sorted_length hI.1
  unfold putW
  by_cases h : codeW W n xs = 0
  · rw [if_pos h, h]
    obtain ⟨h0, h1, h2, h3⟩ := code_zero h
    refine (put_good b _ _ (by omega) (by omega) _ n P hP A xs cap w hl hI.2 hx h).mono fun e w' ⟨k1, k2, k3⟩ => ⟨k1, ⟨insW_sorted hI.1 h2 h3, ?_⟩, k3⟩
    rw [insW_length]
    have k4 := k2.congr (H' := hasW (insW W n.toNat xs)) (D' := byteW (insW W n.toNat xs)) (fun i _ => (hasW_ins W n.toNat xs i).symm) (fun i _ => (byteW_ins hI.1 h2 h3 i).symm)
    exact k4
  · rw [if_neg h]
    exact (put_bad b _ _ _ n A xs cap w hl hI.2 h).mono fun e w' ⟨k1, k2⟩ => by subst k2; exact ⟨k1, hI, Keep.refl _ _⟩
theorem getOf_any (b : Nat) (W : List Cel) (n : Int) (w : World) (hI : ImgOf w b W) :
    Calls Tryd.prog 57 #[.pointer (some ⟨b, 0, none⟩), .int .i64 n] w fun e w' => e = .returned (.tuple #[.int .u8 ((getV W n).toNat : Int), .bool (getOk W n)]) ∧ w = w' := by
  have h := get_any b _ _ _ n w hI.2 fun i _ hi => byteW_none hi
  have e : (if addrB n = true then ((byteW W n.toNat).toNat : Int) else 0) = ((getV W n).toNat : Int) := by
    unfold getV; split <;> rfl
  rw [e] at h
  exact h
theorem lenOf_any (b : Nat) (W : List Cel) (w : World) (hI : ImgOf w b W) :
    Calls Tryd.prog 38 #[.pointer (some ⟨b, 0, none⟩)] w fun e w' => e = .returned (.int .i64 (W.length : Int)) ∧ w = w' := len_any b _ _ _ w hI.2
end Go.Proofs.YtmeegpdjhcilkaaDoor.Im
/-
  The walks over breadboardref02.Of and image.Of: for every list of runs.
-/
namespace Go.Proofs.YtmeegpdjhcilkaaDoor.Im
open Go.RowKit
set_option linter.unusedVariables false

/-- The cells into which runs have been put in order, and 0; or none, and the code of the first that can't be put in. -/
def ofW (W : List Cel) : List R → List Cel × Int
  | [] => (W, 0)
  | r :: t => if codeW W r.addr r.data = 0 then ofW (putW W r.addr r.data) t else ([], codeW W r.addr r.data)
theorem ofW_append (W W' : List Cel) (l t : List R) (h : ofW W l = (W', 0)) : ofW W (l ++ t) = ofW W' t := by
  induction l generalizing W with
  | nil => simp only [ofW, Prod.mk.injEq] at h; rw [h.1]; rfl
  | cons r l ih =>
    simp only [ofW, List.cons_append] at h ⊢
    by_cases hc : codeW W r.addr r.data = 0
    · rw [if_pos hc] at h ⊢; exact ih _ h
    · rw [if_neg hc] at h
      exact absurd (congrArg Prod.snd h) hc
theorem ofW_take (rs : List R) (k : Nat) (hk : k < rs.length) (W : List Cel) (h : ofW [] (rs.take k) = (W, 0)) (hc : codeW W rs[k].addr rs[k].data = 0) : ofW [] (rs.take (k + 1)) = (putW W rs[k].addr rs[k].data, 0) := by
  rw [List.take_succ_eq_append_getElem hk, ofW_append _ _ _ _ h]
  simp only [ofW]
  rw [if_pos hc]
theorem ofW_bad (rs : List R) (k : Nat) (hk : k < rs.length) (W : List Cel) (h : ofW [] (rs.take k) = (W, 0)) (hc : codeW W rs[k].addr rs[k].data ≠ 0) : ofW [] rs = ([], codeW W rs[k].addr rs[k].data) := by
  have e : rs = rs.take k ++ rs[k] :: rs.drop (k + 1) := by
    rw [← List.drop_eq_getElem_cons hk, List.take_append_drop]
  conv => lhs; rw [e]
  rw [ofW_append _ _ _ _ h]
  simp only [ofW]
  rw [if_neg hc]
theorem ofW_sorted (rs : List R) (W : List Cel) (h : SortedW W) : SortedW (ofW W rs).1 := by
  induction rs generalizing W with
  | nil => exact h
  | cons r t ih =>
    simp only [ofW]
    by_cases hc : codeW W r.addr r.data = 0
    · rw [if_pos hc]; exact ih _ (putW_sorted h _ _)
    · rw [if_neg hc]; exact sorted_nil

end Go.Proofs.YtmeegpdjhcilkaaDoor.Im
/-
  The walks over image.Of, Clone and Same: for every list of runs, all images.
-/
namespace Go.Proofs.YtmeegpdjhcilkaaDoor.Im
open Go.RowKit
set_option linter.unusedVariables false

/-- What image.Of returns: an image of W and 0, or nil and the code. -/
def RetOf (w : World) (x : List Cel × Int) (e : Ending) (w' : World) : Prop :=
  (x.2 = 0 → ∃ b, e = .returned (.tuple #[.pointer (some ⟨b, 0, none⟩), .int .i64 0]) ∧ w.heap.size ≤ b ∧ ImgOf w' b x.1) ∧ (x.2 ≠ 0 → e = .returned (.tuple #[.pointer none, .int .i64 x.2])) ∧ Below w.heap.size w w'
/-! ### Clone -/
set_option maxRecDepth 100000 in
theorem info_img : (Tryd.prog.info? 87).map (·.size) = some 131073 := by
  have h : Tryd.prog.info? 87 = some Tryd.t87 := Tryd.type87
  rw [h]; rfl
theorem load_img {w : World} {b : Nat} {H : Nat → Bool} {n : Int} {D : Nat → UInt8} (h : ImgF w b H n D) :
    ∃ c : Array Value, (loadVar 87 ⟨b, 0, none⟩).run Tryd.prog w = .ok (.agg c) w ∧ c.size = 131073 ∧ ∀ i, i < 131073 → c[i]? = some (imgV H n D i) := by
  obtain ⟨c, hb, hs, hc⟩ := h
  exact ⟨c, run_loadVar_row w b 87 87 c (0, 0) _ hb Tryd.underlying87 rfl (by rw [hs]; exact info_img), hs, hc⟩
theorem store_img {w : World} {b : Nat} {H H' : Nat → Bool} {n n' : Int} {D D' : Nat → UInt8} (h : ImgF w b H n D) (c : Array Value) (hs : c.size = 131073) (hc : ∀ i, i < 131073 → c[i]? = some (imgV H' n' D' i)) :
    ∃ w', (storeVar 87 ⟨b, 0, none⟩ (.agg c)).run Tryd.prog w = .ok () w' ∧ ImgF w' b H' n' D' ∧ Keep b w w' := by
  obtain ⟨c0, hb, hs0, _⟩ := h
  have h1 : c.all (·.oneCell') = true := by
    rw [Array.all_eq_true]
    intro i hi
    have hi' : i < 131073 := by omega
    have := hc i hi'
    rw [Array.getElem?_eq_getElem hi] at this
    rw [Option.some.inj this]
    unfold imgV
    split
    · rfl
    · split <;> rfl
  refine ⟨_, run_storeVar_row w b 87 87 c0 c hb (by rw [hs]; exact info_img) (by rw [hs0, hs]) h1, ⟨c, setRow_heap w b c0 c _ _ hb, hs, hc⟩, ⟨rfl, rfl, rfl, by simp, fun i hi hn => setRow_other w b i _ (by omega)⟩⟩
theorem wpList_load_var {ops : Array Oper} {rest : List Oper} {o : Oper} {a : Act} {w : World} {Q : Exit → Act → World → Prop} (hgd : o.guard = none) (ty : TypeId) (x : Operand) (ho : o.op = .load ty x) (ad : Addr) (hx : a.eval x = .pointer (some ad)) (v : Value)
    (hl : (loadVar ty ad).run Tryd.prog w = .ok v w) (h : wpList Tryd.prog ops Q rest (a.put o.dst v) w) : wpList Tryd.prog ops Q (o :: rest) a w :=
  wpList_plain hgd fun K hK => by
    unfold Oper.wp execOp
    simp only [ho, hx, Instr.loadAt, Instr.sureAddr, Sem.run_bind, Sem.run_pure, Result.andThen_ok, hl]
    exact hK _ _ h
theorem wpList_store_var {ops : Array Oper} {rest : List Oper} {o : Oper} {a : Act} {w w' : World} {Q : Exit → Act → World → Prop} (hgd : o.guard = none) (ty : TypeId) (x y : Operand) (ho : o.op = .store ty x y) (ad : Addr) (hx : a.eval x = .pointer (some ad)) (v : Value) (hy : a.eval y = v)
    (hs : (storeVar ty ad v).run Tryd.prog w = .ok () w') (h : wpList Tryd.prog ops Q rest (a.put o.dst undef) w') : wpList Tryd.prog ops Q (o :: rest) a w :=
  wpList_plain hgd fun K hK => by
    unfold Oper.wp execOp
    simp only [ho, hx, hy, Instr.storeAt, Instr.sureAddr, Sem.run_bind, Sem.run_pure, Result.andThen_ok, hs]
    exact hK _ _ h
end Go.Proofs.YtmeegpdjhcilkaaDoor.Im
/-
  Two images compared by '=='; the walk over image.Same.
-/
namespace Go.Proofs.YtmeegpdjhcilkaaDoor.Im
open Go.RowKit
set_option linter.unusedVariables false

theorem equalIn_arr {w : World} (d : Nat) (t e : TypeId) (n : Nat) (ht : Tryd.prog.underlying t = some (.array n e)) (hsz : ∀ w, (sizeOf e).run Tryd.prog w = .ok 1 w) (hagg : ∀ w, (isAgg e).run Tryd.prog w = .ok false w) (xs ys : Array Value) (f : Nat → Bool)
    (hf : ∀ i, i < n → ∃ a b, xs[i]? = some a ∧ ys[i]? = some b ∧ (Op.equalIn d e a b).run Tryd.prog w = .ok (f i) w) :
    (Op.equalIn (d + 1) t (.agg xs) (.agg ys)).run Tryd.prog w = .ok ((List.range n).all f) w := by
  rw [List.range_eq_range', Op.equalIn]
  simp only [Sem.run_bind, run_underlying ht, Result.andThen_ok, hsz, Std.Legacy.Range.forIn_eq_forIn_range', Std.Legacy.Range.size, Nat.sub_zero, Nat.add_sub_cancel, Nat.div_one]
  have hl : ∀ i ∈ List.range' 0 n 1, i < n := fun i hi => by simpa using (List.mem_range'_1.1 hi).2
  generalize List.range' 0 n 1 = l at hl ⊢
  induction l with
  | nil => simp
  | cons i l ih =>
    obtain ⟨a, b, h1, h2, h3⟩ := hf i (hl i (by simp))
    have px : (part e xs (i * 1)).run Tryd.prog w = .ok a w := by simp [part, hagg, h1]
    have py : (part e ys (i * 1)).run Tryd.prog w = .ok b w := by simp [part, hagg, h2]
    simp only [List.forIn_cons, Sem.run_bind, px, py, h3, Result.andThen_ok, List.all_cons]
    cases hb : f i
    · simp
    · simp only [Bool.not_true, Bool.false_eq_true, if_false, Sem.run_pure, Result.andThen_ok, Bool.true_and]
      exact ih fun j hj => hl j (by simp [hj])
/-- Have two images the same cells? -/
def imgEq (H : Nat → Bool) (n : Int) (D : Nat → UInt8) (H' : Nat → Bool) (n' : Int) (D' : Nat → UInt8) : Bool :=
  ((List.range 65536).all (fun i => H i == H' i) && (n == n')) && (List.range 65536).all (fun i => ((D i).toNat : Int) == ((D' i).toNat : Int))
theorem fields_img : Tryd.prog.underlying 87 = some (.struct (Tryd.prog.fieldsOf 87)) ∧ (Tryd.prog.fieldsOf 87).toList.map (fun f => (f.name, f.type, f.offset)) = [("addresses", 84, 0), ("bytes", 85, 65537)] := by
  unfold Program.fieldsOf
  rw [Tryd.underlying87]
  exact ⟨rfl, rfl⟩
theorem fields_adr : Tryd.prog.underlying 84 = some (.struct (Tryd.prog.fieldsOf 84)) ∧ (Tryd.prog.fieldsOf 84).toList.map (fun f => (f.name, f.type, f.offset)) = [("in", 82, 0), ("count", 3, 65536)] := by
  unfold Program.fieldsOf
  rw [Tryd.underlying84]
  exact ⟨rfl, rfl⟩
theorem eqFields_two {w : World} (d : Nat) (xs ys : Array Value) (fs : List Field) (n1 n2 : String) (t1 t2 o1 o2 : Nat) (h1 : n1 ≠ "_") (h2 : n2 ≠ "_") (hf : fs.map (fun f => (f.name, f.type, f.offset)) = [(n1, t1, o1), (n2, t2, o2)]) (a b c e : Value) (x y : Bool)
    (pa : (part t1 xs o1).run Tryd.prog w = .ok a w) (pb : (part t1 ys o1).run Tryd.prog w = .ok b w) (px : (Op.equalIn d t1 a b).run Tryd.prog w = .ok x w)
    (pc : (part t2 xs o2).run Tryd.prog w = .ok c w) (pe : (part t2 ys o2).run Tryd.prog w = .ok e w) (py : (Op.equalIn d t2 c e).run Tryd.prog w = .ok y w) :
    (Op.eqFields d xs ys fs).run Tryd.prog w = .ok (x && y) w := by
  match fs, hf with
  | [f, g], hf =>
    simp only [List.map_cons, List.map_nil, List.cons.injEq, Prod.mk.injEq, and_true] at hf
    obtain ⟨⟨rfl, rfl, rfl⟩, rfl, rfl, rfl⟩ := hf
    simp only [Op.eqFields]
    rw [if_pos h1]
    simp only [Sem.run_bind, pa, pb, px, Result.andThen_ok]
    cases x
    · simp
    · rw [if_neg (by simp), if_pos h2]
      simp only [Sem.run_bind, pc, pe, py, Result.andThen_ok]
      cases y <;> simp
theorem part_agg {w : World} (t : TypeId) (n : Nat) (ha : ∀ w, (isAgg t).run Tryd.prog w = .ok true w) (hs : ∀ w, (sizeOf t).run Tryd.prog w = .ok n w) (cs : Array Value) (off : Nat) : (part t cs off).run Tryd.prog w = .ok (.agg (cs.extract off (off + n))) w := by
  simp [part, ha, hs]
theorem part_one {w : World} (t : TypeId) (ha : ∀ w, (isAgg t).run Tryd.prog w = .ok false w) (cs : Array Value) (off : Nat) (v : Value) (h : cs[off]? = some v) : (part t cs off).run Tryd.prog w = .ok v w := by
  simp [part, ha, h]
theorem equal_img {w : World} {H H' : Nat → Bool} {n n' : Int} {D D' : Nat → UInt8} (c c' : Array Value) (hs : c.size = 131073) (hs' : c'.size = 131073) (hc : ∀ i, i < 131073 → c[i]? = some (imgV H n D i)) (hc' : ∀ i, i < 131073 → c'[i]? = some (imgV H' n' D' i)) :
    (binOp .eql 87 (.agg c) (.agg c')).run Tryd.prog w = .ok (.bool (imgEq H n D H' n' D')) w := by
  have eH : ∀ (c : Array Value) (H : Nat → Bool) (n : Int) (D : Nat → UInt8), c.size = 131073 → (∀ i, i < 131073 → c[i]? = some (imgV H n D i)) → ∀ i, i < 65536 → ((c.extract 0 (0 + 65537)).extract 0 (0 + 65536))[i]? = some (.bool (H i)) := fun c H n D h1 h2 i hi => by
    rw [Array.getElem?_extract, if_pos (by simp only [Array.size_extract]; omega), Array.getElem?_extract, if_pos (by omega), show 0 + (0 + i) = i by omega, h2 i (by omega), imgV_in hi]
  have eN : ∀ (c : Array Value) (H : Nat → Bool) (n : Int) (D : Nat → UInt8), c.size = 131073 → (∀ i, i < 131073 → c[i]? = some (imgV H n D i)) → (c.extract 0 (0 + 65537))[65536]? = some (.int .i64 n) := fun c H n D h1 h2 => by
    rw [Array.getElem?_extract, if_pos (by omega), Nat.zero_add, h2 _ (by omega), imgV_n]
  have eD : ∀ (c : Array Value) (H : Nat → Bool) (n : Int) (D : Nat → UInt8), c.size = 131073 → (∀ i, i < 131073 → c[i]? = some (imgV H n D i)) → ∀ i, i < 65536 → (c.extract 65537 (65537 + 65536))[i]? = some (.int .u8 ((D i).toNat : Int)) := fun c H n D h1 h2 i hi => by
    rw [Array.getElem?_extract, if_pos (by omega), h2 _ (by omega), imgV_b]
  have h1 : (Op.equalIn 9999 84 (.agg (c.extract 0 (0 + 65537))) (.agg (c'.extract 0 (0 + 65537)))).run Tryd.prog w = .ok ((List.range 65536).all (fun i => H i == H' i) && (n == n')) w := by
    rw [run_equalIn_struct w 9998 84 _ _ fields_adr.1 Tryd.stoodInHeld84]
    exact eqFields_two 9998 _ _ _ _ _ _ _ _ _ (by decide) (by decide) fields_adr.2 _ _ _ _ _ _ (part_agg 82 65536 Tryd.isAgg82 Tryd.sizeOf82 _ 0) (part_agg 82 65536 Tryd.isAgg82 Tryd.sizeOf82 _ 0)
      (equalIn_arr 9997 82 4 65536 Tryd.underlying82 Tryd.sizeOf4 Tryd.isAgg4 _ _ _ fun i hi => ⟨_, _, eH c H n D hs hc i hi, eH c' H' n' D' hs' hc' i hi, run_equalIn_bool' w 9996 _ _ _ Tryd.underlying4⟩)
      (part_one 3 Tryd.isAgg3 _ _ _ (eN c H n D hs hc)) (part_one 3 Tryd.isAgg3 _ _ _ (eN c' H' n' D' hs' hc')) (run_equalIn_int w 9997 3 .i64 .i64 n n' Tryd.underlying3)
  have h2 : (Op.equalIn 9999 85 (.agg (c.extract 65537 (65537 + 65536))) (.agg (c'.extract 65537 (65537 + 65536)))).run Tryd.prog w = .ok ((List.range 65536).all (fun i => ((D i).toNat : Int) == ((D' i).toNat : Int))) w :=
    equalIn_arr 9998 85 5 65536 Tryd.underlying85 Tryd.sizeOf5 Tryd.isAgg5 _ _ _ fun i hi => ⟨_, _, eD c H n D hs hc i hi, eD c' H' n' D' hs' hc' i hi, run_equalIn_int w 9997 5 .u8 .u8 _ _ Tryd.underlying5⟩
  rw [run_eql_struct, run_equalIn_struct w 9999 87 _ _ fields_img.1 Tryd.stoodInHeld87,
    eqFields_two 9999 _ _ _ _ _ _ _ _ _ (by decide) (by decide) fields_img.2 _ _ _ _ _ _ (part_agg 84 65537 Tryd.isAgg84 Tryd.sizeOf84 _ 0) (part_agg 84 65537 Tryd.isAgg84 Tryd.sizeOf84 _ 0) h1
      (part_agg 85 65536 Tryd.isAgg85 Tryd.sizeOf85 _ 65537) (part_agg 85 65536 Tryd.isAgg85 Tryd.sizeOf85 _ 65537) h2]
  rfl
theorem imgEq_iff {V W : List Cel} (hV : SortedW V) (hW : SortedW W) : imgEq (hasW V) V.length (byteW V) (hasW W) W.length (byteW W) = decide (V = W) := by
  by_cases h : V = W
  · subst h
    rw [decide_eq_true rfl]
    unfold imgEq
    rw [Bool.and_eq_true, Bool.and_eq_true, List.all_eq_true, List.all_eq_true]
    exact ⟨⟨fun i _ => by simp, by simp⟩, fun i _ => by simp⟩
  · rw [decide_eq_false h]
    cases he : imgEq (hasW V) V.length (byteW V) (hasW W) W.length (byteW W)
    · rfl
    · exfalso
      unfold imgEq at he
      rw [Bool.and_eq_true, Bool.and_eq_true, List.all_eq_true, List.all_eq_true] at he
      obtain ⟨⟨h1, _⟩, h2⟩ := he
      exact h (cells_ext hV hW (fun i hi => by simpa using h1 i (List.mem_range.2 hi)) fun i hi => UInt8.toNat_inj.1 (by have := h2 i (List.mem_range.2 hi); simp only [beq_iff_eq] at this; omega))

theorem execOp_load {a : Act} {w : World} {o : Oper} (ty : TypeId) (x : Operand) (ho : o.op = .load ty x) (ad : Addr) (hx : a.eval x = .pointer (some ad)) (v : Value) (hl : (loadVar ty ad).run Tryd.prog w = .ok v w) : (execOp a.eval o).run Tryd.prog w = .ok (.value v) w := by
  unfold execOp
  simp only [ho, hx, Instr.loadAt, Instr.sureAddr, Sem.run_bind, Sem.run_pure, Result.andThen_ok, hl]
theorem execOp_eql {a : Act} {w : World} {o : Oper} (ty : TypeId) (x y : Operand) (z : TypeId) (ho : o.op = .binOp .eql ty x y z) (c d : Array Value) (hx : a.eval x = .agg c) (hy : a.eval y = .agg d) (hg : Tryd.prog.eqGuardType Tryd.prog.depth ty = false) (r : Bool) (he : (binOp .eql ty (.agg c) (.agg d)).run Tryd.prog w = .ok (.bool r) w) :
    (execOp a.eval o).run Tryd.prog w = .ok (.value (.bool r)) w := by
  have hg' := run_eqGuard_agg (P := Tryd.prog) w .eql ty x y c d hg
  unfold execOp
  simp only [ho, hx, hy, Sem.run_bind, hg', he, Result.andThen_ok, Sem.run_pure]
theorem same_nil {a b : Value} {n m : Int} (w : World) (ha : a = .pointer none ∨ b = .pointer none) (h1 : Calls Tryd.prog 38 #[a] w fun e w' => e = .returned (.int .i64 n) ∧ w = w')
    (h2 : Calls Tryd.prog 38 #[b] w fun e w' => e = .returned (.int .i64 m) ∧ w = w') (hpa : ∃ p, a = .pointer p) (hpb : ∃ p, b = .pointer p) :
    Calls Tryd.prog 13 #[a, b] w fun e w' => e = .returned (.bool (n == m)) ∧ w = w' := by
  obtain ⟨p, rfl⟩ := hpa
  obtain ⟨q, rfl⟩ := hpb
  cases p with
  | none =>
    go_enter Tryd.func13, Tryd.ntmps13
    go_wp2_with fail
    refine h1.mono ?_
    rintro e w1 ⟨rfl, rfl⟩
    go_wp2_with fail
    refine h2.mono ?_
    rintro e w1 ⟨rfl, rfl⟩
    go_wp2
    go_ret
    exact ⟨rfl, rfl⟩
  | some p =>
    obtain rfl : q = none := by simpa using ha
    go_enter Tryd.func13, Tryd.ntmps13
    go_wp2_with fail
    refine h1.mono ?_
    rintro e w1 ⟨rfl, rfl⟩
    go_wp2_with fail
    refine h2.mono ?_
    rintro e w1 ⟨rfl, rfl⟩
    go_wp2
    go_ret
    exact ⟨rfl, rfl⟩
set_option maxHeartbeats 1000000 in
/-- image.Same. -/
theorem isame_any (a b : Nat) (V W : List Cel) (w : World) (hV : ImgOf w a V) (hW : ImgOf w b W) :
    Calls Tryd.prog 13 #[.pointer (some ⟨a, 0, none⟩), .pointer (some ⟨b, 0, none⟩)] w fun e w' => e = .returned (.bool (decide (V = W))) ∧ w' = w.drew := by
  obtain ⟨c, hl, hs, hc⟩ := load_img hV.2
  obtain ⟨d, hm, ht, hd⟩ := load_img hW.2
  have hE : ∀ w, (binOp .eql 87 (.agg c) (.agg d)).run Tryd.prog w = .ok (.bool (decide (V = W))) w := fun w => by
    rw [← imgEq_iff hV.1 hW.1]; exact equal_img c d hs ht hc hd
  have hC : (loadVar 87 ⟨a, 0, none⟩).run Tryd.prog w.drew = .ok (.agg c) w.drew ∧ (loadVar 87 ⟨b, 0, none⟩).run Tryd.prog w.drew = .ok (.agg d) w.drew := by
    obtain ⟨c', hl', hs', hc'⟩ := load_img (w := w.drew) (b := a) (H := hasW V) (n := V.length) (D := byteW V) (World.rowIs.drew hV.2)
    obtain ⟨d', hm', ht', hd'⟩ := load_img (w := w.drew) (b := b) (H := hasW W) (n := W.length) (D := byteW W) (World.rowIs.drew hW.2)
    have e1 : c' = c := Array.ext_getElem? fun i => by
      by_cases hi : i < 131073
      · rw [hc i hi, hc' i hi]
      · rw [Array.getElem?_eq_none (by omega), Array.getElem?_eq_none (by omega)]
    have e2 : d' = d := Array.ext_getElem? fun i => by
      by_cases hi : i < 131073
      · rw [hd i hi, hd' i hi]
      · rw [Array.getElem?_eq_none (by omega), Array.getElem?_eq_none (by omega)]
    rw [← e1, ← e2]
    exact ⟨hl', hm'⟩
  have E := Lib.hid hE
  have C := Lib.hid hC
  clear hV hW hl hs hc hm ht hd hE hC
  go_enter Tryd.func13, Tryd.ntmps13
  go_wp2_with fail
  refine Mixed.wp_region_mixed (fun w' => w' = w.drew) 7 [(0, true), (1, true), (2, true), (3, true), (4, true), (5, true), (6, true)] (by kernel_rfl) (by kernel_rfl) rfl ?_
  refine Mixed.wpMix_move rfl rfl _ rfl _ rfl ?_
  refine Mixed.wpMix_pure rfl rfl _ (fun w h => by clear h; go_simp; rfl) ?_
  refine Mixed.wpMix_pure rfl rfl _ (fun w h => by subst h; exact execOp_load 87 _ rfl _ rfl _ C.out.1) ?_
  refine Mixed.wpMix_move rfl rfl _ rfl _ rfl ?_
  refine Mixed.wpMix_pure rfl rfl _ (fun w h => by clear h; go_simp; rfl) ?_
  refine Mixed.wpMix_pure rfl rfl _ (fun w h => by subst h; exact execOp_load 87 _ rfl _ rfl _ C.out.2) ?_
  refine Mixed.wpMix_pure rfl rfl (.bool (decide (V = W))) (fun w h => execOp_eql 87 _ _ _ rfl c d rfl rfl Tryd.eqGuardType87 _ (E.out w)) ?_
  simp only [Mixed.wpMix, List.drop_succ_cons, List.drop_zero]
  go_wp2
  go_ret
  exact ⟨rfl, rfl⟩
end Go.Proofs.YtmeegpdjhcilkaaDoor.Im
/-
  The runs of a list of cells. No program.
-/
namespace Go.Proofs.YtmeegpdjhcilkaaDoor.Im
open Go.RowKit
set_option linter.unusedVariables false

abbrev Rn := Nat × List UInt8
def addCell (out : List Rn) (c : Cel) : List Rn :=
  match out.getLast? with
  | some r => if r.1 + r.2.length = c.1 then out.dropLast ++ [(r.1, r.2 ++ [c.2])] else out ++ [(c.1, [c.2])]
  | none => [(c.1, [c.2])]
theorem addCell_nil (c : Cel) : addCell [] c = [(c.1, [c.2])] := rfl
theorem addCell_same (out : List Rn) (r : Rn) (c : Cel) (h : r.1 + r.2.length = c.1) : addCell (out ++ [r]) c = out ++ [(r.1, r.2 ++ [c.2])] := by
  unfold addCell
  rw [List.getLast?_concat]
  simp only [if_pos h, List.dropLast_concat]
theorem addCell_other (out : List Rn) (r : Rn) (c : Cel) (h : r.1 + r.2.length ≠ c.1) : addCell (out ++ [r]) c = out ++ [r] ++ [(c.1, [c.2])] := by
  unfold addCell
  rw [List.getLast?_concat]
  simp only [if_neg h]
def runsW (W : List Cel) : List Rn := W.foldl addCell []
theorem runsW_snoc (W : List Cel) (c : Cel) : runsW (W ++ [c]) = addCell (runsW W) c := by unfold runsW; rw [List.foldl_append]; rfl
theorem snoc_cases {α : Type} (l : List α) : l = [] ∨ ∃ i x, l = i ++ [x] := by
  rcases List.eq_nil_or_concat l with h | ⟨i, x, h⟩
  · exact .inl h
  · exact .inr ⟨i, x, by rw [h, List.concat_eq_append]⟩
/-- The last run ends behind the last cell. -/
theorem runs_end (W : List Cel) (c : Cel) : ∃ out r, runsW (W ++ [c]) = out ++ [r] ∧ r.1 + r.2.length = c.1 + 1 ∧ r.2 ≠ [] := by
  rw [runsW_snoc]
  rcases snoc_cases (runsW W) with h | ⟨out, r, h⟩
  · rw [h, addCell_nil]; exact ⟨[], _, rfl, rfl, by simp⟩
  · rw [h]
    by_cases e : r.1 + r.2.length = c.1
    · rw [addCell_same out r c e]
      exact ⟨out, _, rfl, by simp only [List.length_append, List.length_cons, List.length_nil]; omega, by simp⟩
    · rw [addCell_other out r c e]
      exact ⟨out ++ [r], _, rfl, rfl, by simp⟩
theorem fold_same (out : List Rn) (a : Nat) (d ys : List UInt8) : (mkW (a + d.length) ys).foldl addCell (out ++ [(a, d)]) = out ++ [(a, d ++ ys)] := by
  induction ys generalizing d with
  | nil => simp [mkW]
  | cons y t ih =>
    simp only [mkW, List.foldl_cons]
    rw [addCell_same out (a, d) _ rfl]
    have h := ih (d ++ [y])
    rw [List.length_append] at h
    have e : a + (d.length + [y].length) = a + d.length + 1 := by simp only [List.length_cons, List.length_nil]; omega
    rw [e] at h
    rw [h]
    simp
theorem runs_mk (W : List Cel) (a : Nat) (xs : List UInt8) (hx : xs ≠ []) (hW : W = [] ∨ ∃ V c, W = V ++ [c] ∧ c.1 + 1 ≠ a) : runsW (W ++ mkW a xs) = runsW W ++ [(a, xs)] := by
  cases xs with
  | nil => exact absurd rfl hx
  | cons x t =>
    have h1 : addCell (runsW W) (a, x) = runsW W ++ [(a, [x])] := by
      rcases hW with rfl | ⟨V, c, rfl, hc⟩
      · rfl
      · obtain ⟨out, r, e1, e2, _⟩ := runs_end V c
        rw [e1, addCell_other out r (a, x) (by show _ ≠ a; omega)]
    unfold runsW at h1 ⊢
    rw [List.foldl_append]
    simp only [mkW, List.foldl_cons]
    rw [h1]
    exact fold_same _ a [x] t

/-- What an image's loop adds. -/
def segB (W : List Cel) (k e : Nat) : List UInt8 := (List.range (e - k)).map fun j => byteW W (k + j)
theorem segB_length (W : List Cel) (k e : Nat) : (segB W k e).length = e - k := by unfold segB; simp
theorem segB_getD (W : List Cel) (k e i : Nat) (h1 : k ≤ i) (h2 : i < e) : (segB W k e).getD (i - k) 0 = byteW W i := by
  unfold segB
  rw [List.getD_eq_getElem?_getD, List.getElem?_map, List.getElem?_range (by omega)]
  simp only [Option.map_some, Option.getD_some]
  rw [show k + (i - k) = i by omega]
def below (W : List Cel) (k : Nat) : List Cel := W.filter fun c => decide (c.1 < k)
theorem mem_below {W : List Cel} {k : Nat} {c : Cel} : c ∈ below W k ↔ c ∈ W ∧ c.1 < k := by unfold below; rw [List.mem_filter]; simp
theorem below_sorted {W : List Cel} (h : SortedW W) (k : Nat) : (below W k).Pairwise (fun a b => a.1 < b.1) := h.1.sublist List.filter_sublist
theorem below_all {W : List Cel} (h : SortedW W) : below W 65536 = W := List.filter_eq_self.2 fun c hc => decide_eq_true (h.2 c hc)
theorem below_first {W : List Cel} {k : Nat} (h : NextI (hasW W) 0 true k) : below W k = [] := by
  apply List.filter_eq_nil_iff.2
  intro c hc hlt
  have hlt' : c.1 < k := of_decide_eq_true hlt
  have := h.2.2.1 c.1 (Nat.zero_le _) hlt'
  rw [hasW_iff.2 ⟨c, hc, rfl⟩] at this
  cases this
theorem below_next {W : List Cel} (hs : SortedW W) {k e k' : Nat} (h1 : NextI (hasW W) k false e) (h2 : NextI (hasW W) e true k') : below W k' = below W k ++ mkW k (segB W k e) := by
  have h1k := h1.1
  have h2k := h2.1
  apply sorted_ext (below_sorted hs k')
  · rw [List.pairwise_append]
    refine ⟨below_sorted hs k, mkW_sorted _ _, fun c hc d hd => ?_⟩
    have := (mem_below.1 hc).2
    have := (mkW_mem.1 hd).1
    omega
  · intro c
    rw [List.mem_append, mem_below, mem_below, mkW_mem, segB_length]
    constructor
    · rintro ⟨hc, hlt⟩
      by_cases hk : c.1 < k
      · exact .inl ⟨hc, hk⟩
      · right
        have hH := hasW_iff.2 ⟨c, hc, rfl⟩
        have he : c.1 < e := by
          rcases Nat.lt_or_ge c.1 e with h | h
          · exact h
          · have := h2.2.2.1 c.1 h hlt
            rw [hH] at this; cases this
        refine ⟨by omega, by omega, ?_⟩
        rw [segB_getD W k e c.1 (by omega) he]
        exact byteW_mem hs.1 hc
    · rintro (⟨hc, hlt⟩ | ⟨h3, h4, h5⟩)
      · exact ⟨hc, by omega⟩
      · have hH := h1.2.2.1 c.1 h3 (by omega)
        rw [segB_getD W k e c.1 h3 (by omega)] at h5
        exact ⟨(mem_iff hs.1 c).2 ⟨by simpa using hH, h5⟩, by omega⟩
theorem runs_next {W : List Cel} (hs : SortedW W) {k e k' : Nat} (hk : k < e) (hgap : ∀ c ∈ W, c.1 + 1 ≠ k) (h1 : NextI (hasW W) k false e) (h2 : NextI (hasW W) e true k') :
    runsW (below W k') = runsW (below W k) ++ [(k, segB W k e)] := by
  rw [below_next hs h1 h2]
  apply runs_mk
  · intro h0
    have := congrArg List.length h0
    rw [segB_length] at this
    simp at this
    omega
  · rcases snoc_cases (below W k) with h | ⟨V, c, h⟩
    · exact .inl h
    · refine .inr ⟨V, c, h, hgap c ?_⟩
      have : c ∈ below W k := by rw [h]; simp
      exact (mem_below.1 this).1
theorem gap_first {W : List Cel} {k : Nat} (h : NextI (hasW W) 0 true k) : ∀ c ∈ W, c.1 + 1 ≠ k := by
  intro c hc e
  have := h.2.2.1 c.1 (Nat.zero_le _) (by omega)
  rw [hasW_iff.2 ⟨c, hc, rfl⟩] at this
  cases this
theorem gap_next {W : List Cel} {k e k' : Nat} (h1 : NextI (hasW W) k false e) (h2 : NextI (hasW W) e true k') (hk : k' < 65536) : ∀ c ∈ W, c.1 + 1 ≠ k' := by
  intro c hc hcc
  have hH := hasW_iff.2 ⟨c, hc, rfl⟩
  have h3 := h2.1
  by_cases he : e = k'
  · have a1 := h1.2.2.2 (by omega)
    have a2 := h2.2.2.2 hk
    rw [he, a2] at a1
    cases a1
  · have := h2.2.2.1 c.1 (by omega) (by omega)
    rw [hH] at this
    cases this
/-- All cells of runs, one after the other. -/
def expand (l : List Rn) : List Cel := l.flatMap fun r => mkW r.1 r.2
theorem expand_append (l m : List Rn) : expand (l ++ m) = expand l ++ expand m := by unfold expand; rw [List.flatMap_append]
theorem expand_runs (W : List Cel) : expand (runsW W) = W := by
  have h : ∀ n, ∀ W : List Cel, W.length = n → expand (runsW W) = W := by
    intro n
    induction n with
    | zero => intro W hW; rw [List.eq_nil_of_length_eq_zero hW]; rfl
    | succ n ih =>
      intro W hW
      rcases snoc_cases W with rfl | ⟨V, c, rfl⟩
      · simp at hW
      · have hV := ih V (by simpa using hW)
        rw [runsW_snoc]
        rcases snoc_cases (runsW V) with h | ⟨out, r, h⟩
        · rw [h] at hV ⊢
          rw [← hV]
          rfl
        · rw [h] at hV ⊢
          by_cases e : r.1 + r.2.length = c.1
          · rw [addCell_same out r c e, expand_append]
            rw [expand_append] at hV
            have e1 : expand [(r.1, r.2 ++ [c.2])] = expand [r] ++ [c] := by
              unfold expand
              simp only [List.flatMap_cons, List.flatMap_nil, List.append_nil]
              rw [mkW_append, e]
              rfl
            rw [e1, ← List.append_assoc, hV]
          · rw [addCell_other out r c e, expand_append, hV]
            rfl
  exact h _ W rfl
/-- Runs whose neighbours don't touch, and none of which is empty. -/
def Canon (l : List Rn) : Prop := (∀ r ∈ l, r.2 ≠ []) ∧ ∀ i (h : i + 1 < l.length), l[i].1 + l[i].2.length < l[i + 1].1
theorem canon_snoc {l : List Rn} {r : Rn} (h : Canon l) (hr : r.2 ≠ []) (hl : ∀ q, l.getLast? = some q → q.1 + q.2.length < r.1) : Canon (l ++ [r]) := by
  refine ⟨fun q hq => ?_, fun i hi => ?_⟩
  · rcases List.mem_append.1 hq with h1 | h1
    · exact h.1 q h1
    · rw [List.mem_singleton.1 h1]; exact hr
  · rw [List.length_append] at hi
    simp only [List.length_cons, List.length_nil] at hi
    by_cases e : i + 1 < l.length
    · rw [List.getElem_append_left (by omega), List.getElem_append_left e]
      exact h.2 i e
    · have hi1 : i + 1 = l.length := by omega
      rw [List.getElem_append_left (by omega : i < l.length), List.getElem_append_right (by omega)]
      have : l.getLast? = some l[i] := by
        rw [List.getLast?_eq_getElem?, List.getElem?_eq_getElem (by omega)]
        congr 1
        congr 1
        omega
      simpa using hl _ this
theorem canon_init {l : List Rn} {r : Rn} (h : Canon (l ++ [r])) : Canon l ∧ ∀ q, l.getLast? = some q → q.1 + q.2.length < r.1 := by
  refine ⟨⟨fun q hq => h.1 q (List.mem_append_left _ hq), fun i hi => ?_⟩, fun q hq => ?_⟩
  · have := h.2 i (by simp; omega)
    rw [List.getElem_append_left (by omega), List.getElem_append_left (by omega)] at this
    exact this
  · rw [List.getLast?_eq_getElem?] at hq
    obtain ⟨hlt, e⟩ := List.getElem?_eq_some_iff.1 hq
    have := h.2 (l.length - 1) (by simp; omega)
    rw [List.getElem_append_left (by omega), List.getElem_append_right (by omega)] at this
    rw [← e]
    simpa using this
theorem canon_runs {W : List Cel} (hs : W.Pairwise (fun a b => a.1 < b.1)) : Canon (runsW W) := by
  have h : ∀ n, ∀ W : List Cel, W.length = n → W.Pairwise (fun a b => a.1 < b.1) → Canon (runsW W) := by
    intro n
    induction n with
    | zero =>
      intro W hW _
      rw [List.eq_nil_of_length_eq_zero hW]
      exact ⟨fun r hr => absurd hr List.not_mem_nil, fun i hi => absurd hi (Nat.not_lt_zero _)⟩
    | succ n ih =>
      intro W hW hs
      rcases snoc_cases W with rfl | ⟨V, c, rfl⟩
      · simp at hW
      · rw [List.pairwise_append] at hs
        obtain ⟨hV, _, hc⟩ := hs
        have hC := ih V (by simpa using hW) hV
        rw [runsW_snoc]
        rcases snoc_cases (runsW V) with h | ⟨out, r, h⟩
        · rw [h, addCell_nil]
          exact ⟨fun q hq => by rw [List.mem_singleton.1 hq]; simp, fun i hi => by simp at hi⟩
        · rw [h] at hC ⊢
          have hrV : ∀ d ∈ mkW r.1 r.2, d ∈ V := fun d hd => by
            rw [← expand_runs V, h, expand_append]
            exact List.mem_append_right _ (by unfold expand; simpa using hd)
          by_cases e : r.1 + r.2.length = c.1
          · rw [addCell_same out r c e]
            obtain ⟨h1, h2⟩ := canon_init hC
            exact canon_snoc h1 (by simp) h2
          · rw [addCell_other out r c e]
            refine canon_snoc hC (by simp) fun q hq => ?_
            rw [List.getLast?_concat] at hq
            have hq' := Option.some.inj hq
            subst hq'
            have hne := hC.1 r (by simp)
            have hpos : 0 < r.2.length := List.length_pos_iff.2 hne
            have hmem : (r.1 + (r.2.length - 1), r.2.getD (r.2.length - 1) 0) ∈ mkW r.1 r.2 := mkW_mem.2 ⟨by show r.1 ≤ r.1 + _; omega, by show r.1 + (r.2.length - 1) < _; omega, by show r.2.getD (r.1 + (r.2.length - 1) - r.1) 0 = _; rw [show r.1 + (r.2.length - 1) - r.1 = r.2.length - 1 by omega]⟩
            have := hc _ (hrV _ hmem) c (List.mem_singleton.2 rfl)
            simp only at this
            show r.1 + r.2.length < c.1
            omega
  exact h _ W rfl hs
end Go.Proofs.YtmeegpdjhcilkaaDoor.Im
/-
  Rows of runs of the call's own, and appending to them; the walks over slices.Clone at []byte and (*image.Image).Runs.
-/
namespace Go.Proofs.YtmeegpdjhcilkaaDoor.Im
open Go.RowKit
set_option linter.unusedVariables false

def runsV (rs : List R) : List Value := rs.flatMap fun r => [.int .i64 r.addr, .slice r.A r.data.length r.cap]
theorem runsV_append (V W : List R) : runsV (V ++ W) = runsV V ++ runsV W := by unfold runsV; rw [List.flatMap_append]
theorem runsV_length (W : List R) : (runsV W).length = W.length * 2 := by
  induction W with
  | nil => rfl
  | cons c t ih =>
    have : runsV (c :: t) = [.int .i64 c.addr, .slice c.A c.data.length c.cap] ++ runsV t := rfl
    rw [this, List.length_append, ih]
    simp only [List.length_cons, List.length_nil]
    omega
theorem runsV_get (W : List R) (j : Nat) (h : j < W.length) : (runsV W)[j * 2]? = some (.int .i64 W[j].addr) ∧ (runsV W)[j * 2 + 1]? = some (.slice W[j].A W[j].data.length W[j].cap) := by
  induction W generalizing j with
  | nil => simp at h
  | cons c t ih =>
    have e : runsV (c :: t) = .int .i64 c.addr :: .slice c.A c.data.length c.cap :: runsV t := rfl
    cases j with
    | zero => rw [e]; exact ⟨rfl, rfl⟩
    | succ j =>
      obtain ⟨h1, h2⟩ := ih j (by simpa using h)
      rw [e, show (j + 1) * 2 = j * 2 + 1 + 1 by omega]
      simp only [List.getElem?_cons_succ, List.getElem_cons_succ]
      exact ⟨h1, h2⟩
/-- v is a row of the call's own (made since w) that holds rs; the bytes lie elsewhere, in blocks that have the property P. -/
def OwnR (e : TypeId) (P : Nat → Prop) (w wr : World) (v : Value) (rs : List R) : Prop :=
  wr.ownsRow w.heap.size e 2 v rs.length (runsV rs) ∧ Below w.heap.size w wr ∧ ∀ r ∈ rs, BytesP (fun i => P i ∧ some i ≠ v.ownBlock) wr r.A r.data
theorem ownR_start (e : TypeId) (P : Nat → Prop) (w : World) : OwnR e P w w (.slice none 0 0) [] := ⟨World.ownsRow_nil _ _ _ _, Below.refl _ _, fun _ h => absurd h List.not_mem_nil⟩
theorem OwnR.alloc {e : TypeId} {P : Nat → Prop} {w wr : World} {v : Value} {rs : List R} (h : OwnR e P w wr v rs) (o : Obj) : OwnR e P w (wr.alloc o) v rs :=
  ⟨h.1.alloc o, h.2.1.alloc h.2.1.size o, fun r hr => (h.2.2 r hr).below ((Below.refl _ _).alloc (Nat.le_refl _) o)⟩
theorem grownBy_below {w w' : World} (h : Below w.heap.size w w') (row : Option Nat) : w.grownBy w' row := ⟨h.os, h.tape, h.output, h.size, fun k hk _ => h.block k hk⟩
theorem OwnR.below {e : TypeId} {P : Nat → Prop} {w wr w' : World} {v : Value} {rs : List R} (h : OwnR e P w wr v rs) (k : Below wr.heap.size wr w') : OwnR e P w w' v rs :=
  ⟨by
    cases hv : v.ownBlock with
    | none => exact h.1.kept (grownBy_below k none) (.inl hv)
    | some b => exact h.1.kept (grownBy_below k none) (.inr (by rw [hv]; simp)), h.2.1.trans (k.mono h.2.1.size), fun r hr => (h.2.2 r hr).below k⟩
theorem OwnR.runsP {e : TypeId} {P : Nat → Prop} {w wr : World} {v : Value} {rs : List R} (h : OwnR e P w wr v rs) : ∃ A cap, v = .slice A rs.length cap ∧ rs.length ≤ cap ∧ RunsP (w.heap.size ≤ ·) P wr A rs := by
  have hd : ∀ r ∈ rs, BytesP P wr r.A r.data := fun r hr => (h.2.2 r hr).mono fun i _ hi => hi.1
  rcases h.1.2 with ⟨rfl, h0⟩ | ⟨g, cap, cur, rfl, hb, _, hm, hcs⟩
  · have := List.eq_nil_of_length_eq_zero h0
    subst this
    exact ⟨none, 0, rfl, Nat.le_refl _, .inl rfl, hd⟩
  · refine ⟨_, cap, rfl, hm, .inr ⟨g, 0, rfl, hb, fun j hj => ?_⟩, hd⟩
    obtain ⟨h1, h2⟩ := runsV_get rs j hj
    rw [Nat.zero_add, h.1.cellAt (j * 2) (by omega), h.1.cellAt (j * 2 + 1) (by omega)]
    exact ⟨h1, h2⟩
theorem append_run (t e : TypeId) (ht : Tryd.prog.underlying t = some (.slice e)) (hinfo : (Tryd.prog.info? e).map (fun i => (i.zero, i.size, i.bytes)) = some (some (.agg #[.int .i64 0, .slice none 0 0]), 2, 32))
    {P : Nat → Prop} {w wr : World} {v : Value} {rs : List R} (h : OwnR e P w wr v rs) (r : R) (ad : Addr) (c : Nat) (h0 : wr.cell? (ad.add 0) = some (.int .i64 r.addr)) (h1 : wr.cell? (ad.add 1) = some (.slice r.A r.data.length r.cap))
    (hd : BytesP (fun i => P i ∧ some i ≠ v.ownBlock) wr r.A r.data) (hlen : rs.length ≤ 1099511627776) (ty : TypeId) :
    ∃ v' w', (Builtin.append_ #[t, t] ty #[v, .slice (some ad) 1 c]).run Tryd.prog wr = .ok v' w' ∧ OwnR e P w w' v' (rs ++ [r]) ∧ wr.grownBy w' v.ownBlock ∧ (v'.ownBlock = v.ownBlock ∨ v'.ownBlock = some wr.heap.size) := by
  obtain ⟨i0, hi, hz0, hz1, hz2⟩ := info_parts hinfo
  obtain ⟨v', w', k1, k2, k3, _, k5⟩ := run_append_own_at (P := Tryd.prog) wr w.heap.size t ty e i0 _ 2 32 ht hi hz0 hz1 hz2 rfl (by decide) v rs.length _ h.1 ad 1 c [.int .i64 r.addr, .slice r.A r.data.length r.cap] rfl (fun j u hj => by
      match j, hj with
      | 0, hj => simp at hj; subst hj; exact h0
      | 1, hj => simp at hj; subst hj; exact h1) (fun u hu => by
      simp only [List.mem_cons, List.not_mem_nil, or_false] at hu
      rcases hu with rfl | rfl <;> rfl) (by unfold maxLen; omega) (by omega) h.2.1.size
  refine ⟨v', w', k1, ⟨?_, h.2.1.grown k3 h.2.1.size fun k hk => (h.1.lt k hk).1, fun q hq => ?_⟩, k3, k5⟩
  · rw [List.length_append, runsV_append]
    exact k2
  · have hq' : BytesP (fun i => P i ∧ some i ≠ v.ownBlock) wr q.A q.data := by
      rcases List.mem_append.1 hq with hq | hq
      · exact h.2.2 q hq
      · rw [List.mem_singleton.1 hq]; exact hd
    have h2 := hq'.mono (Q := fun i => P i ∧ some i ≠ v.ownBlock ∧ i < wr.heap.size) fun i hi hp => ⟨hp.1, hp.2, hi⟩
    have h3 := h2.blocks (w' := w') fun i hi hp => k3.block i hi hp.2.1
    refine h3.mono fun i _ hp => ⟨hp.1, ?_⟩
    rcases k5 with k5 | k5
    · rw [k5]; exact hp.2.1
    · rw [k5]; intro e; have := Option.some.inj e; omega
theorem wpList_appR (t e : TypeId) (ht : Tryd.prog.underlying t = some (.slice e)) (hinfo : (Tryd.prog.info? e).map (fun i => (i.zero, i.size, i.bytes)) = some (some (.agg #[.int .i64 0, .slice none 0 0]), 2, 32))
    {P : Nat → Prop} {w wr : World} {v : Value} {rs : List R} (h : OwnR e P w wr v rs) (r : R) (ad : Addr) (c : Nat) (h0 : wr.cell? (ad.add 0) = some (.int .i64 r.addr)) (h1 : wr.cell? (ad.add 1) = some (.slice r.A r.data.length r.cap))
    (hd : BytesP (fun i => P i ∧ some i ≠ v.ownBlock) wr r.A r.data) (hlen : rs.length ≤ 1099511627776)
    {ops : Array Oper} {rest : List Oper} {o : Oper} {a : Act} {Q : Exit → Act → World → Prop} (hgd : o.guard = none) (s x : Operand)
    (ho : o.op = .call { callee := .builtin .append, args := #[s, x], argTypes := #[t, t] }) (hs : a.eval s = v) (hx : a.eval x = .slice (some ad) 1 c)
    (hk : ∀ v' w1, OwnR e P w w1 v' (rs ++ [r]) → wr.grownBy w1 v.ownBlock → (v'.ownBlock = v.ownBlock ∨ v'.ownBlock = some wr.heap.size) → wpList Tryd.prog ops Q rest (a.put o.dst v') w1) : wpList Tryd.prog ops Q (o :: rest) a wr := by
  obtain ⟨v', w', h1, h2, h3, h4⟩ := append_run t e ht hinfo h r ad c h0 h1 hd hlen o.type
  refine wpList_plain hgd fun K hK => ?_
  unfold Oper.wp
  simp [execOp, ho, resolve, invoke, builtin, hs, hx, h1, Result.andThen]
  exact hK _ _ (hk _ _ h2 h3 h4)
theorem info_irun : (Tryd.prog.info? 91).map (fun i => (i.zero, i.size, i.bytes)) = some (some (.agg #[.int .i64 0, .slice none 0 0]), 2, 32) := by kernel_rfl
theorem info_rrun : (Tryd.prog.info? 61).map (fun i => (i.zero, i.size, i.bytes)) = some (some (.agg #[.int .i64 0, .slice none 0 0]), 2, 32) := by kernel_rfl

theorem wpList_run_append {w w1 : World} {t ty : TypeId} {v y v' : Value} (h1 : (Builtin.append_ #[t, t] ty #[v, y]).run Tryd.prog w = .ok v' w1) {ops : Array Oper} {rest : List Oper} {o : Oper} {a : Act} {Q : Exit → Act → World → Prop} (hgd : o.guard = none) (s x : Operand)
    (ho : o.op = .call { callee := .builtin .append, args := #[s, x], argTypes := #[t, t] }) (hty : o.type = ty) (hs : a.eval s = v) (hx : a.eval x = y) (hk : wpList Tryd.prog ops Q rest (a.put o.dst v') w1) : wpList Tryd.prog ops Q (o :: rest) a w := by
  subst hty
  refine wpList_plain hgd fun K hK => ?_
  unfold Oper.wp
  simp [execOp, ho, resolve, invoke, builtin, hs, hx, h1, Result.andThen]
  exact hK _ _ hk
/-! ### Rows of bytes -/
def u8V (b : UInt8) : Value := .int .u8 (b.toNat : Int)
theorem own_bytes {w : World} {base : Nat} {e : TypeId} {v : Value} {n : Nat} {xs : List UInt8} (h : w.ownsRow base e 1 v n (xs.map u8V)) (hn : n = xs.length) : ∃ A cap, v = .slice A xs.length cap ∧ BytesP (fun i => base ≤ i ∧ some i = v.ownBlock) w A xs := by
  subst hn
  rcases h.2 with ⟨rfl, h0⟩ | ⟨g, cap, cur, rfl, hb, _⟩
  · exact ⟨none, 0, by rw [h0], .inl (List.eq_nil_of_length_eq_zero h0)⟩
  · refine ⟨_, cap, rfl, .inr ⟨g, 0, rfl, ⟨hb, rfl⟩, fun j hj => ?_⟩⟩
    rw [Nat.zero_add, h.cellAt j (by omega)]
    simp [u8V, List.getElem?_eq_getElem hj]
theorem BytesP.news {P : Nat → Prop} {w : World} {A : Option Addr} {xs : List UInt8} (h : BytesP P w A xs) : xs.length = 0 ∨ ∃ a, A = some a ∧ ∀ j u, (xs.map u8V)[j]? = some u → w.cell? (a.add j) = some u := by
  rcases h with rfl | ⟨b, off, rfl, _, hc⟩
  · exact .inl rfl
  · refine .inr ⟨_, rfl, fun j u hu => ?_⟩
    have hadd : (⟨b, off, none⟩ : Addr).add j = ⟨b, off + j, none⟩ := by unfold Addr.add; split <;> simp_all
    rw [List.getElem?_map] at hu
    by_cases hj : j < xs.length
    · rw [List.getElem?_eq_getElem hj] at hu
      simp only [Option.map_some, Option.some.injEq] at hu
      subst hu
      rw [hadd]
      exact hc j hj
    · rw [List.getElem?_eq_none (by omega)] at hu; cases hu
/-- The call returns a slice that reads as xs, in new memory. -/
def RetB (w : World) (xs : List UInt8) (e : Ending) (w' : World) : Prop := ∃ A cap, e = .returned (.slice A xs.length cap) ∧ BytesP (w.heap.size ≤ ·) w' A xs ∧ Below w.heap.size w w'
set_option maxHeartbeats 1000000 in
theorem cloneB_any (P : Nat → Prop) (A : Option Addr) (cap : Nat) (xs : List UInt8) (hl : xs.length ≤ 70368744177664) (w : World) (hx : BytesP P w A xs) :
    Calls Tryd.prog 78 #[.slice A xs.length cap] w (RetB w xs) := by
  cases A with
  | none =>
    obtain rfl : xs = [] := by
      rcases hx with h | ⟨b, off, h, _⟩
      · exact h
      · cases h
    clear hx
    have hnil := fun w => Lib.run_eql_slice_nil (P := Tryd.prog) w 59 5 none 0 cap 0 0 Tryd.underlying59
    go_enter Tryd.func78, Tryd.ntmps78
    go_wp2
    go_ret
    exact ⟨none, 0, rfl, .inl rfl, Below.refl _ _⟩
  | some a =>
    obtain ⟨i0, hi, hz0, hz1, hz2⟩ := info_parts info_u8
    have hb : Below w.heap.size w (w.alloc (.cells #[] 5)) := (Below.refl _ _).alloc (Nat.le_refl _) _
    have hown := World.ownsRow_made (base := w.heap.size) (e := 5) (size := 1) w #[] 0 (Nat.le_refl _) (by unfold maxLen; omega) rfl
    obtain ⟨v', w', k1, k2, k3⟩ := run_append_src (w.alloc (.cells #[] 5)) w.heap.size 59 59 5 i0 _ 1 1 Tryd.underlying59 hi hz0 hz1 hz2 rfl (by decide) _ 0 [] hown (some a) xs.length cap (xs.map u8V)
      (by simp) (hx.below hb).news (fun u hu => by obtain ⟨x, _, rfl⟩ := List.mem_map.1 hu; rfl) (by unfold maxLen; omega) (by omega) (by simp)
    have N : Hid (RetB w xs (.returned v') w') := by
      rw [List.nil_append, Nat.zero_add] at k2
      obtain ⟨A', cap', hv, hB⟩ := own_bytes k2 rfl
      subst hv
      exact ⟨A', cap', rfl, hB.mono fun i _ hi => hi.1, hb.grown k3 (by simp) fun k hk => (hown.lt k hk).1⟩
    have K := Lib.hid k1
    clear hx hb hown k1 k2 k3 hi hz0 hz1 hz2
    go_enter Tryd.func78, Tryd.ntmps78
    have hnil := fun w => Lib.run_eql_slice_nil (P := Tryd.prog) w 59 5 (some a) xs.length cap 0 0 Tryd.underlying59
    go_wp2_with (at_builtin; refine wpList_run_append K.out rfl _ _ rfl rfl rfl rfl ?_)
    go_ret
    exact N.out

/-! ### (*image.Image).Runs -/
def pairs (rs : List R) : List (Int × List UInt8) := rs.map fun r => (r.addr, r.data)
def pairN (l : List Rn) : List (Int × List UInt8) := l.map fun r => ((r.1 : Int), r.2)
theorem pairs_snoc (rs : List R) (r : R) : pairs (rs ++ [r]) = pairs rs ++ [(r.addr, r.data)] := by unfold pairs; rw [List.map_append]; rfl
theorem pairN_snoc (l : List Rn) (r : Rn) : pairN (l ++ [r]) = pairN l ++ [((r.1 : Int), r.2)] := by unfold pairN; rw [List.map_append]; rfl
theorem pairs_length {rs : List R} {l : List Rn} (h : pairs rs = pairN l) : rs.length = l.length := by
  have := congrArg List.length h
  unfold pairs pairN at this
  simpa using this
theorem runs_length_le (W : List Cel) : (runsW W).length ≤ W.length := by
  have h : ∀ n, ∀ W : List Cel, W.length = n → (runsW W).length ≤ W.length := by
    intro n
    induction n with
    | zero => intro W hW; rw [List.eq_nil_of_length_eq_zero hW]; exact Nat.le_refl _
    | succ n ih =>
      intro W hW
      rcases snoc_cases W with rfl | ⟨V, c, rfl⟩
      · simp at hW
      · have hV := ih V (by simpa using hW)
        rw [runsW_snoc]
        rcases snoc_cases (runsW V) with h | ⟨out, r, h⟩
        · rw [h, addCell_nil]; simp
        · rw [h] at hV ⊢
          by_cases e : r.1 + r.2.length = c.1
          · rw [addCell_same out r c e]; simp only [List.length_append, List.length_cons, List.length_nil] at hV ⊢; omega
          · rw [addCell_other out r c e]; simp only [List.length_append, List.length_cons, List.length_nil] at hV ⊢; omega
  exact h _ W rfl
theorem slice_blh (b k e : Nat) (hk : k < 65536) (he : k ≤ e) (he2 : e ≤ 65536) (w : World) :
    (Instr.sliceAt 85 (.pointer (some ⟨b, 65537, none⟩)) (some (.int .i64 (k : Int))) (some (.int .i64 (e : Int))) none).run Tryd.prog w = .ok (.slice (some ⟨b, 65537 + k, none⟩) (e - k) (65536 - k)) w := by
  have h := slice_lh 85 5 Tryd.underlying85 (fun w => Tryd.sizeOf5 w) b 65537 k (e - k) hk (by omega) w
  rwa [show (k : Int) + ((e - k : Nat) : Int) = (e : Int) by omega] at h
theorem seg_bytes {w : World} {b : Nat} {W : List Cel} (h : ImgOf w b W) (k e : Nat) (he : e ≤ 65536) : BytesP (fun i => i = b) w (some ⟨b, 65537 + k, none⟩) (segB W k e) := .inr ⟨b, _, rfl, rfl, fun j hj => by
  have hj' := hj
  rw [segB_length] at hj'
  rw [show 65537 + k + j = 65537 + (k + j) by omega, h.2.cellD (by omega)]
  have e1 : (segB W k e)[j] = byteW W (k + j) := by
    have h2 := segB_getD W k e (k + j) (by omega) (by omega)
    rw [show k + j - k = j by omega, List.getD_eq_getElem?_getD, List.getElem?_eq_getElem hj] at h2
    exact h2
  rw [e1]⟩
/-- A list of runs in new memory. -/
def RetRuns (w : World) (l : List Rn) (e : Ending) (w' : World) : Prop :=
  ∃ A cap rs, e = .returned (.slice A rs.length cap) ∧ rs.length ≤ cap ∧ pairs rs = pairN l ∧ RunsP (w.heap.size ≤ ·) (w.heap.size ≤ ·) w' A rs ∧ Below w.heap.size w w'
theorem runsNil_any (w : World) : Calls Tryd.prog 39 #[.pointer none] w fun e w' => e = .returned (.slice none 0 0) ∧ w = w' := by
  go_enter Tryd.func39, Tryd.ntmps39
  go_wp2
  go_ret
  exact ⟨rfl, rfl⟩
set_option maxHeartbeats 2000000 in
theorem runs_any (b : Nat) (W : List Cel) (w : World) (hI : ImgOf w b W) : Calls Tryd.prog 39 #[.pointer (some ⟨b, 0, none⟩)] w (RetRuns w (runsW W)) := by
  have I := Lib.hid hI
  clear hI
  go_enter Tryd.func39, Tryd.ntmps39
  go_wp2_with fail
  refine (next_any b _ _ _ 0 (by omega) true _ I.out.2).mono ?_
  rintro e w1 ⟨⟨k0, rfl, hk0⟩, rfl⟩
  have K0 := Lib.hid hk0
  clear hk0
  go_wp2
  go_loopw [3, 4] (fun v i wr => ∃ (k : Nat) (rs : List R), k ≤ 65536 ∧ i = .int .i64 k ∧ OwnR 91 (w.heap.size ≤ ·) w wr v rs ∧ Hid (pairs rs = pairN (runsW (below W k))) ∧ Hid (k < 65536 → hasW W k = true ∧ ∀ c ∈ W, c.1 + 1 ≠ k)) (fun _ i _ => 65536 - (intOf i).toNat)
  case atStart => exact ⟨k0, [], K0.out.2.1, rfl, ownR_start _ _ _, by show pairs [] = _; rw [below_first K0.out]; rfl, fun h => ⟨K0.out.2.2.2 h, gap_first K0.out⟩⟩
  case round =>
    obtain ⟨k, rs, hk, rfl, hO, E, G⟩ := hrel
    have O := Lib.hid hO
    clear hO
    by_cases hlt : k < 65536
    · have hlt' : (k : Int) < 65536 := by omega
      have I2 := Lib.hid (I.out.below O.out.2.1)
      go_wp2_with fail
      refine (next_any b _ _ _ k hk false _ I2.out.2).mono ?_
      rintro e w1 ⟨⟨e, rfl, he⟩, rfl⟩
      have hke : k < e := by
        rcases Nat.lt_or_ge k e with h | h
        · exact h
        · have h1 := he.1
          have h2 : e = k := by omega
          have h3 := he.2.2.2 (by omega)
          rw [h2, (G.out hlt).1] at h3
          cases h3
      have he2 := he.2.1
      have KE := Lib.hid he
      clear he
      have hsl := fun w => slice_blh b k e hlt (by omega) he2 w
      have hcl := cloneB_any _ _ (65536 - k) (segB W k e) (by rw [segB_length]; omega) wr (seg_bytes I2.out k e he2)
      rw [segB_length] at hcl
      have hrs : rs.length ≤ 65536 := by
        rw [pairs_length E.out]
        refine Nat.le_trans (runs_length_le _) (Nat.le_trans (List.length_filter_le _ _) (sorted_length I.out.1))
      go_wp2_with fail
      refine hcl.mono ?_
      rintro x w2 ⟨A1, cap1, rfl, hB1, hb1⟩
      obtain ⟨ob, hob⟩ : ∃ o, Obj.cells #[.int .i64 (k : Int), .slice A1 (segB W k e).length cap1] 91 = o := ⟨_, rfl⟩
      have hal : Below w2.heap.size w2 (w2.alloc ob) := (Below.refl _ _).alloc (Nat.le_refl _) ob
      have hO2 := (O.out.below hb1).alloc ob
      have hD2 : BytesP (fun i => w.heap.size ≤ i ∧ some i ≠ u3.ownBlock) (w2.alloc ob) A1 (segB W k e) := (hB1.below hal).mono fun i _ hi => ⟨Nat.le_trans O.out.2.1.size hi, fun h => by
        have := (O.out.1.lt i h.symm).2
        omega⟩
      rw [← hob] at hO2 hD2
      have O2 := Lib.hid hO2
      have D2 := Lib.hid hD2
      have S2 := Lib.hid hrs
      have HE := Lib.hid (And.intro hke (And.intro he2 hlt))
      clear hcl hob hal hO2 hD2 hB1 hb1 hrs hsl hke he2 hlt' hlt
      go_wp2_with (at_builtin; (refine wpList_appR 88 91 Tryd.underlying88 info_irun O2.out ⟨(k : Int), A1, cap1, segB W k e⟩ ⟨w2.heap.size, 0, none⟩ 1 (by simp [go_sem, Addr.add]) (by simp [go_sem, Addr.add]) D2.out (Nat.le_trans S2.out (by omega)) rfl _ _ rfl rfl rfl ?_))
      intro v' w4 hO4 _ _
      have O4 := Lib.hid hO4
      have I4 := Lib.hid (I.out.below hO4.2.1)
      clear hO4
      go_wp2_with fail
      refine (next_any b _ _ _ e HE.out.2.1 true _ I4.out.2).mono ?_
      rintro x w5 ⟨⟨k', rfl, hk'⟩, rfl⟩
      have KN := Lib.hid hk'
      have hle := hk'.1
      have hle2 := hk'.2.1
      clear hk'
      have E2 : Hid (pairs (rs ++ [⟨(k : Int), A1, cap1, segB W k e⟩]) = pairN (runsW (below W k'))) := by
        show pairs _ = _
        rw [pairs_snoc, E.out, runs_next I.out.1 HE.out.1 (G.out HE.out.2.2).2 KE.out KN.out, pairN_snoc]
      go_wp2
      go_roundw
      case rel => exact ⟨k', _, hle2, rfl, O4.out, E2, fun h => ⟨KN.out.2.2.2 h, gap_next KE.out KN.out h⟩⟩
      case measure => have := HE.out; simp [intOf]; omega
    · have hlt' : decide ((k : Int) < 65536) = false := decide_eq_false (by omega)
      obtain ⟨A, cap, hv, hc, hR⟩ := O.out.runsP
      have N : Hid (RetRuns w (runsW W) (.returned u3) wr) := by
        have h := E.out
        rw [show k = 65536 by omega, below_all I.out.1] at h
        subst hv
        exact ⟨A, cap, rs, rfl, hc, h, hR, O.out.2.1⟩
      clear hv hc hR
      go_wp2
      go_ret
      exact N.out
end Go.Proofs.YtmeegpdjhcilkaaDoor.Im
