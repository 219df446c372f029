/-
  The walks over Print and text, of the program and of the reference.
-/
import Derived.Test.YtcmcikcagpkocaaDoorLxX
import Derived.Test.YtcmcikcagpkocaaDoorNumJ
import Derived.Test.YtcmcikcagpkocaaDoorNumH
namespace Go.Proofs.YtcmcikcagpkocaaDoor
open Go.RowKit
set_option linter.unusedVariables false
attribute [local go_sem] Oper.semAt_some

set_option maxRecDepth 100000 in
set_option maxHeartbeats 1000000 in
theorem ltext_any (x : Tk) (hx : x.t.length ≤ 100000) (w : World) (M : MaxAt w) :
    Calls Tryd.prog 31 #[.agg (tokA x)] w fun e w' => e = .returned (.string (sOf (prT x))) ∧ Below w.heap.size w w' := by
  unfold tokA
  obtain ⟨b, hb⟩ : ∃ b, w.heap.size = b := ⟨_, rfl⟩
  obtain ⟨w1, hw1, T1, y1, z1⟩ := tk_start 33 w b hb x.k (sOf x.t) x.n x.p
  obtain ⟨c0, c1, c2, c3, cf⟩ := T1.cells
  have Y1 : Hid (Below b w w1) := by rw [← hb]; exact y1
  have zz : b ≤ w1.heap.size := by omega
  have Q0 := quote_any (sOf x.t) (by rw [sOf_size]; exact hx) w1 (M.up y1)
  rw [sOf_list] at Q0
  have Q := Lib.hid Q0
  have N := Lib.hid (text_any x.n w1)
  have P : (x.k = 1 → prT x = x.t) ∧ (x.k = 4 → prT x = x.t) ∧ (x.k = 2 → prT x = (textS x.n).data.toList) ∧ (x.k = 3 → prT x = quoL 34 x.t) ∧ (x.k ≠ 1 → x.k ≠ 4 → x.k ≠ 2 → x.k ≠ 3 → prT x = []) := by
    unfold prT
    refine ⟨fun h => by rw [if_pos (.inl h)], fun h => by rw [if_pos (.inr h)], fun h => ?_, fun h => ?_, fun h1 h4 h2 h3 => ?_⟩
    · rw [if_neg (by omega), if_pos h]
    · rw [if_neg (by omega), if_neg (by omega), if_pos h]
    · rw [if_neg (by omega), if_neg h2, if_neg h3]
  have P1 := Lib.hid P
  obtain ⟨R, hR⟩ : ∃ R, prT x = R := ⟨_, rfl⟩
  rw [hR] at P1 ⊢
  obtain ⟨k, hk⟩ : ∃ k, x.k = k := ⟨_, rfl⟩
  obtain ⟨n, hn⟩ : ∃ n, x.n = n := ⟨_, rfl⟩
  rw [hk, hn] at P1
  rw [hk] at c0 hw1 ⊢
  rw [hn] at c2 hw1 N ⊢
  clear Q0 M T1 y1 P hR hk hn hx
  by_cases h1 : k = 1
  · have E : Hid (x.t = R) := (P1.out.1 h1).symm
    subst h1
    go_enter Tryd.func31, Tryd.ntmps31
    go_wp2
    go_ret
    exact ⟨ret_str (by rw [E.out]), by first | exact Y1.out | (rw [hb]; exact Y1.out)⟩
  by_cases h4 : k = 4
  · have E : Hid (x.t = R) := (P1.out.2.1 h4).symm
    subst h4
    go_enter Tryd.func31, Tryd.ntmps31
    go_wp2
    go_ret
    exact ⟨ret_str (by rw [E.out]), by first | exact Y1.out | (rw [hb]; exact Y1.out)⟩
  by_cases h2 : k = 2
  · have E : Hid (R = (textS n).data.toList) := P1.out.2.2.1 h2
    subst h2
    go_enter Tryd.func31, Tryd.ntmps31
    go_wp2_with fail
    refine N.out.mono ?_
    rintro e w2 ⟨rfl, hb2⟩
    have B := Lib.hid (Y1.out.trans (hb2.mono zz))
    clear hb2
    go_wp2
    go_ret
    exact ⟨ret_str (by rw [E.out, sOf_of]), by first | exact B.out | (rw [hb]; exact B.out)⟩
  by_cases h3 : k = 3
  · have E : Hid (R = quoL 34 x.t) := P1.out.2.2.2.1 h3
    subst h3
    go_enter Tryd.func31, Tryd.ntmps31
    go_wp2_with fail
    refine Q.out.mono ?_
    rintro e w2 ⟨rfl, hb2⟩
    have B := Lib.hid (Y1.out.trans (hb2.mono zz))
    clear hb2
    go_wp2
    go_ret
    exact ⟨ret_str (by rw [E.out]), by first | exact B.out | (rw [hb]; exact B.out)⟩
  · have E : Hid (R = []) := P1.out.2.2.2.2 h1 h4 h2 h3
    have k1 : ((k : Int) == 1) = false := beq_eq_false_iff_ne.2 h1
    have k2 : ((k : Int) == 2) = false := beq_eq_false_iff_ne.2 h2
    have k3 : ((k : Int) == 3) = false := beq_eq_false_iff_ne.2 h3
    have k4 : ((k : Int) == 4) = false := beq_eq_false_iff_ne.2 h4
    clear h1 h2 h3 h4
    go_enter Tryd.func31, Tryd.ntmps31
    go_wp2
    go_ret
    exact ⟨ret_str (by rw [E.out]; rfl), by first | exact Y1.out | (rw [hb]; exact Y1.out)⟩
theorem prL_join (T : List Tk) : Lib.join (T.map prT) [32] = prL T := by
  induction T with
  | nil => rfl
  | cons t T ih =>
    cases T with
    | nil => exact Lib.join_one _ _
    | cons u T =>
      show [32].intercalate (prT t :: prT u :: T.map prT) = prT t ++ 32 :: prL (u :: T)
      rw [← ih]
      show [32].intercalate (prT t :: prT u :: T.map prT) = prT t ++ 32 :: [32].intercalate (prT u :: T.map prT)
      simp [List.intercalate, List.intersperse]
theorem prL_snoc (P : List Tk) (x : Tk) : prL (P ++ [x]) = if P = [] then prT x else prL P ++ 32 :: prT x := by
  induction P with
  | nil => rfl
  | cons t P ih =>
    rw [if_neg (by simp)]
    cases P with
    | nil => rfl
    | cons u P =>
      show prT t ++ 32 :: prL (u :: (P ++ [x])) = (prT t ++ 32 :: prL (u :: P)) ++ 32 :: prT x
      have h : prL (u :: P ++ [x]) = _ := ih
      rw [if_neg (by simp)] at h
      rw [show u :: (P ++ [x]) = u :: P ++ [x] by rfl, h]
      simp
theorem prL_le (P Q : List Tk) : (prL P).length ≤ (prL (P ++ Q)).length := by
  induction P with
  | nil => simp [prL]
  | cons t P ih =>
    cases P with
    | nil =>
      cases Q with
      | nil => exact Nat.le_refl _
      | cons u Q =>
        show (prT t).length ≤ (prT t ++ 32 :: prL (u :: Q)).length
        rw [List.length_append]; omega
    | cons u P =>
      show (prT t ++ 32 :: prL (u :: P)).length ≤ (prT t ++ 32 :: prL (u :: P ++ Q)).length
      rw [List.length_append, List.length_append, List.length_cons, List.length_cons]
      omega
theorem prL_mem (T : List Tk) (x : Tk) (h : x ∈ T) : (prT x).length ≤ (prL T).length := by
  induction T with
  | nil => cases h
  | cons t T ih =>
    have h1 := prL_le [t] T
    rcases List.mem_cons.1 h with rfl | h
    · exact h1
    · have := ih h
      cases T with
      | nil => cases h
      | cons u T =>
        show _ ≤ (prT t ++ 32 :: prL (u :: T)).length
        rw [List.length_append, List.length_cons]
        omega
/-- A row of strings in a block: the texts of the first j tokens. -/
def txV (T : List Tk) (j : Nat) (i : Nat) : Value := if h : i < j ∧ i < T.length then .string (sOf (prT T[i])) else .string ⟨#[]⟩
def TxAt (w : World) (b : Nat) (T : List Tk) (j : Nat) : Prop := w.rowIs b 9 T.length (txV T j)
theorem TxAt.set {w : World} {b : Nat} {T : List Tk} {j : Nat} (h : TxAt w b T j) (hj : j < T.length) : TxAt (w.setCell ⟨b, j, none⟩ (.string (sOf (prT T[j])))) b T (j + 1) :=
  World.rowIs.congr (World.rowIs.set h j _) fun i hi => by
    unfold txV
    by_cases e : i = j
    · subst e
      rw [if_pos rfl, dif_pos ⟨by omega, hj⟩]
    · rw [if_neg e]
      by_cases h1 : i < j
      · rw [dif_pos ⟨h1, hi⟩, dif_pos ⟨by omega, hi⟩]
      · rw [dif_neg (fun h => h1 h.1), dif_neg (fun h => h1 (by omega))]
theorem TxAt.below {w w' : World} {b : Nat} {T : List Tk} {j : Nat} (h : TxAt w b T j) (k : Below w.heap.size w w') : TxAt w' b T j := World.rowIs.of_block h (k.block b (World.rowIs.lt h))
theorem TxAt.frozen {w : World} {b : Nat} {T : List Tk} {j : Nat} (h : TxAt w b T j) (i : Nat) : w.frozen? ⟨b, i, none⟩ = false := by
  obtain ⟨c, hb, _⟩ := h
  exact Lib.frozen_of_heap hb i
theorem tx_new (w : World) (T : List Tk) (n : Nat) (hn : T.length = n) : TxAt (w.alloc (.cells (madeCells #[.string ⟨#[]⟩] n) 9)) w.heap.size T 0 := by
  subst hn
  have h := World.rowIs_alloc w (madeCells #[.string ⟨#[]⟩] T.length) 9 (txV T 0) (fun i hi => by
    unfold txV
    rw [dif_neg (fun h => by omega)]
    have hi' : i < T.length := by simpa [madeCells] using hi
    simp [madeCells, hi', Nat.mod_one])
  have e : (madeCells #[.string ⟨#[]⟩] T.length).size = T.length := by simp [madeCells]
  rw [e] at h
  exact h
set_option maxRecDepth 100000 in
set_option maxHeartbeats 4000000 in
theorem lprint_any (A : Option Addr) (cap k : Nat) (T : List Tk) (hT : T.length = k) (hk0 : 0 < k) (hk : k ≤ 5000) (hz : (prL T).length ≤ 100000) (hx : ∀ x ∈ T, x.t.length ≤ 100000) (w : World) (K : KsP w A T) (M : MaxAt w) :
    Calls Tryd.prog 13 #[.slice A k cap] w fun e w' => e = .returned (.string (sOf (prL T))) ∧ Below w.heap.size w w' := by
  obtain ⟨b, hb⟩ : ∃ b, w.heap.size = b := ⟨_, rfl⟩
  have hmk := fun w => run_make_row' (P := Tryd.prog) 47 9 (.string ⟨#[]⟩) 16 Tryd.underlying47 info_string rfl .i64 .i64 k (by omega) (by omega) w
  obtain ⟨w1, hw1, X1, y1, z1⟩ : ∃ w1, w.alloc (.cells (madeCells #[.string ⟨#[]⟩] k) 9) = w1 ∧ TxAt w1 b T 0 ∧ Below b w w1 ∧ w1.heap.size = b + 1 := by
    subst hb
    exact ⟨_, rfl, tx_new w T k hT, (Below.refl _ w).alloc (Nat.le_refl _) _, by simp⟩
  have XX := Lib.hid X1
  have YY := Lib.hid y1
  have KW : Hid (∀ w', Below b w w' → KsP w' A T) := fun w' h => K.below (by rw [hb]; exact h)
  have MW : Hid (∀ w', Below b w w' → MaxAt w') := fun w' h => M.up (by rw [hb]; exact h)
  have HT := Lib.hid hT
  have HX := Lib.hid hx
  have HZ := Lib.hid hz
  have HB := Lib.hid hb
  clear K M X1 y1 hx hz hT
  go_enter Tryd.func13, Tryd.ntmps13
  go_wp2
  clear hmk
  go_loopw [11] (fun iv wr => ∃ j : Nat, j ≤ k ∧ iv = .int .i64 j ∧ b + 1 ≤ wr.heap.size ∧ Hid (TxAt wr b T j) ∧ Hid (Below b w wr)) (fun iv _ => k - (intOf iv).toNat)
  case atStart => exact ⟨0, Nat.zero_le _, rfl, by omega, XX, YY⟩
  case round =>
    clear XX YY
    obtain ⟨j, hj, rfl, hnw, X, B⟩ := hrel
    by_cases h : j < k
    · have hjl : j < T.length := by rw [HT.out]; exact h
      obtain ⟨g, off, rfl, -, c0, c1, c2, c3⟩ := (KW.out wr B.out).at_ hjl
      obtain ⟨n1, hn1⟩ : ∃ n1, wr.heap.size = n1 := ⟨_, rfl⟩
      have SE := fun w' (X' : TxAt w' b T j) => X'.set hjl
      obtain ⟨x, hx⟩ : ∃ x, T[j] = x := ⟨_, rfl⟩
      have hxm : x.t.length ≤ 100000 := HX.out x (by rw [← hx]; exact List.getElem_mem hjl)
      rw [hx] at c0 c1 c2 c3
      obtain ⟨w2, hw2, T2, y2, z2⟩ := tk_start 33 wr n1 hn1 x.k (sOf x.t) x.n x.p
      obtain ⟨f0, f1, f2, f3, ff⟩ := T2.cells
      have B2 := Lib.hid (B.out.trans (y2.mono (by omega)))
      have TX := Lib.hid (ltext_any x hxm w2 (MW.out w2 B2.out))
      have X2 := Lib.hid (X.out.below y2)
      rw [hx] at SE
      have SE1 := Lib.hid SE
      clear X B T2 y2 SE hx hjl hxm
      go_wp2_with fail
      refine TX.out.mono ?_
      rintro e w3 ⟨rfl, hb3⟩
      have X3 := X2.out.below hb3
      have XS0 := SE1.out w3 X3
      have fz := X3.frozen
      have lt3 : b < w3.heap.size := by have := hb3.size; omega
      have cc := World.rowIs.cell X3 (show j < T.length by rw [HT.out]; exact h)
      obtain ⟨vv, hvv⟩ : ∃ v, txV T j j = v := ⟨_, rfl⟩
      rw [hvv] at cc
      obtain ⟨w4, hw4⟩ : ∃ w4, w3.setCell ⟨b, j, none⟩ (.string (sOf (prT x))) = w4 := ⟨_, rfl⟩
      rw [hw4] at XS0
      have XS := Lib.hid XS0
      have B4 : Hid (Below b w w4) := by rw [← hw4]; exact (B2.out.trans (hb3.mono (by omega))).setCell (p := ⟨b, j, none⟩) (Nat.le_refl _) _
      have z4 : b + 1 ≤ w4.heap.size := by rw [← hw4]; simp; omega
      clear X3 XS0 hb3 X2 TX SE1 B2 hvv
      go_wp2
      go_roundw
      case rel => exact ⟨j + 1, h, by go_num, z4, XS, B4⟩
      case measure => simp [intOf]; omega
    · have hjk : j = k := by omega
      subst hjk
      have J0 := Tryd.strings_Join b 0 j (T.map fun x => sOf (prT x)) ⟨#[32]⟩ wr (fun i y hy => by
        have hi : i < T.length := by have := (List.getElem?_eq_some_iff.1 hy).1; simpa using this
        have hc := World.rowIs.cell X.out hi
        unfold txV at hc
        rw [dif_pos ⟨by rw [← HT.out]; exact hi, hi⟩] at hc
        rw [Nat.zero_add, hc]
        rw [List.getElem?_map, List.getElem?_eq_getElem hi] at hy
        simp only [Option.map_some, Option.some.injEq] at hy
        rw [hy]) (by omega) (by rw [List.length_map, HT.out]; omega) (by rw [List.length_map, HT.out]; exact Nat.le_refl _) (by
        rw [List.map_map]
        have e1 : (T.map ((fun x : ByteArray => x.data.toList) ∘ fun x => sOf (prT x))) = T.map prT := List.map_congr_left fun x _ => sOf_list _
        rw [e1]
        show (Lib.join (T.map prT) [32]).length ≤ _
        rw [prL_join]
        have := HZ.out
        omega)
      rw [List.length_map, HT.out, List.map_map] at J0
      have e1 : (T.map ((fun x : ByteArray => x.data.toList) ∘ fun x => sOf (prT x))) = T.map prT := List.map_congr_left fun x _ => sOf_list _
      rw [e1] at J0
      have J1 : Hid (Calls Tryd.prog 32 #[.slice (some ⟨b, 0, none⟩) j j, .string ⟨#[32]⟩] wr fun e w' => e = .returned (.string (sOf (prL T))) ∧ Below wr.heap.size wr w') := by
        rw [← prL_join]
        exact J0
      clear J0 e1 X
      go_wp2_with fail
      refine J1.out.mono ?_
      rintro e w3 ⟨rfl, hb3⟩
      have B3 := Lib.hid (B.out.trans (hb3.mono (by omega)))
      clear hb3 J1 B
      go_wp2
      go_ret
      exact ⟨rfl, by first | exact B3.out | (rw [hb]; exact B3.out)⟩
end Go.Proofs.YtcmcikcagpkocaaDoor
