/-
  The walk over (*hexread.reader).read: a line is read by its record's type.
-/
import Derived.Test.YtmeegpdjhcilkaaDoorRdR
namespace Go.Proofs.YtmeegpdjhcilkaaDoor
open Go.RowKit
set_option linter.unusedVariables false

/-- What the method read does with a line. -/
def RetRd (w : World) (rb b : Nat) (V : List Im.Cel) (en : Bool) (x : List UInt8) (e : Ending) (w' : World) : Prop :=
  e = .returned (.int .i64 (lnCode V en x)) ∧ (lnCode V en x = 0 → Im.ImgOf w' b (lnV V x) ∧ RdAt w' rb b (lnE en x)) ∧ KeptP (fun i => i ≠ b ∧ i ≠ rb) w w'
theorem retRd_bad {w w' : World} {rb b : Nat} {V : List Im.Cel} {en : Bool} {x : List UInt8} {c : Int} (hc : lnCode V en x = c) (h0 : c ≠ 0) (hb : Below w.heap.size w w') : RetRd w rb b V en x (.returned (.int .i64 c)) w' :=
  ⟨by rw [hc], fun h => absurd (hc.symm.trans h) h0, KeptP.of_all hb⟩
theorem ln_blank {V : List Im.Cel} {en : Bool} {x : List UInt8} (h : lnBlank x = true) : lnCode V en x = 0 ∧ lnV V x = V ∧ lnE en x = en := by
  unfold lnCode lnV lnE
  rw [if_pos h, if_pos h, if_pos h]
  exact ⟨rfl, rfl, rfl⟩
theorem ln_end {V : List Im.Cel} {x : List UInt8} (h : lnBlank x = false) : lnCode V true x = 9 := by
  unfold lnCode
  rw [h]
  rfl
theorem ln_rec {V : List Im.Cel} {x : List UInt8} (h : lnBlank x = false) : lnCode V false x = recCode V x ∧ lnV V x = (if parT (lnS x) = 0 then Im.putW V (parA (lnS x)) (parD (lnS x)) else V) ∧ lnE false x = decide (parT (lnS x) = 1) := by
  unfold lnCode lnV lnE
  rw [h]
  exact ⟨rfl, rfl, rfl⟩
theorem Tri.alloc' {n : Nat} {w : World} {x y z : Value} (h : Tri n w x y z) (o : Obj) : Tri n (w.alloc o) x y z := h.kept (P := fun _ => True) (KeptP.of_all ((Below.refl _ _).alloc (Nat.le_refl _) o)) trivial
set_option maxRecDepth 100000 in
set_option maxHeartbeats 4000000 in
theorem readLn_any (rb b : Nat) (hne : rb ≠ b) (V : List Im.Cel) (en : Bool) (x : List UInt8) (hx : x.length ≤ 40000000) (w : World) (hR : RdAt w rb b en) (hI : Im.ImgOf w b V) :
    Calls Tryd.prog 33 #[.pointer (some ⟨rb, 0, none⟩), .string (lnS x)] w (RetRd w rb b V en x) := by
  have hle := trimC_le x
  have hbl := isBlank_any (trimC x) (by unfold maxLen; omega) w
  rw [show strOf (trimC x) = lnS x from rfl, show blankL (trimC x) = lnBlank x from rfl] at hbl
  have R := Lib.hid hR
  have I := Lib.hid hI
  have NE := Lib.hid hne
  have SZ : Hid ((lnS x).size ≤ 40000000) := by show (strOf (trimC x)).size ≤ _; rw [strOf_size]; omega
  clear hle hx hR hI hne
  cases hb : lnBlank x
  case true =>
    obtain ⟨E1, E2, E3⟩ := ln_blank (V := V) (en := en) hb
    rw [hb] at hbl
    have F : ∀ w1, Below w.heap.size w w1 → Hid (RetRd w rb b V en x (.returned (.int .i64 0)) w1) := fun w1 hb1 =>
      ⟨by rw [E1], fun _ => by rw [E2, E3]; exact ⟨I.out.below hb1, R.out.below hb1⟩, KeptP.of_all hb1⟩
    clear E1 E2 E3 hb
    go_enter Tryd.func33, Tryd.ntmps33
    go_wp2_with fail
    refine hbl.mono ?_
    rintro e w1 ⟨rfl, hb1⟩
    have F1 := F w1 hb1
    clear hb1 hbl F
    go_wp2
    go_ret
    exact F1.out
  case false =>
    rw [hb] at hbl
    cases en
    case true =>
      have E := Lib.hid (ln_end (V := V) hb)
      clear hb
      go_enter Tryd.func33, Tryd.ntmps33
      go_wp2_with fail
      refine hbl.mono ?_
      rintro e w1 ⟨rfl, hb1⟩
      have c1 := (R.out.below hb1).c1
      have B := Lib.hid hb1
      clear hb1 hbl
      go_wp2
      go_ret
      exact retRd_bad E.out (by decide) B.out
    case false =>
      have L := Lib.hid (ln_rec (V := V) hb)
      have hpar := fun w1 => parseN_any (lnS x) (Nat.le_trans SZ.out (by omega)) w1
      have RC : Hid (recCode V x = if ¬ parCode (lnS x) = 0 then parCode (lnS x) else if parT (lnS x) = 0 then Im.codeW V (parA (lnS x)) (parD (lnS x)) else if parT (lnS x) = 1 then (if parD (lnS x) = [] then 0 else 6) else 7) := rfl
      have TB := Lib.hid (parT_bd (lnS x))
      have DL := Lib.hid (Nat.le_trans (parD_le (lnS x)) SZ.out)
      obtain ⟨s, hs⟩ : ∃ s, lnS x = s := ⟨_, rfl⟩
      rw [hs] at hbl L hpar RC TB DL ⊢
      obtain ⟨T, hT⟩ : ∃ T, parT s = T := ⟨_, rfl⟩
      obtain ⟨a, ha⟩ : ∃ a, parA s = a := ⟨_, rfl⟩
      obtain ⟨D, hD⟩ : ∃ D, parD s = D := ⟨_, rfl⟩
      obtain ⟨c, hc⟩ : ∃ c, parCode s = c := ⟨_, rfl⟩
      rw [hT, ha, hD] at L
      rw [hT, ha, hD, hc] at hpar RC
      rw [hT] at TB
      rw [hD] at DL
      clear hT ha hD hc hs hb SZ
      by_cases hc0 : c = 0
      case neg =>
        have E : Hid (lnCode V false x = c) := by show _ = _; rw [L.out.1, RC.out, if_pos hc0]
        have HC := Lib.hid hc0
        have n1 : (c == 0) = false := beq_eq_false_iff_ne.2 hc0
        have n2 : (c != 0) = true := by unfold bne; rw [n1]; rfl
        clear hc0
        go_enter Tryd.func33, Tryd.ntmps33
        go_wp2_with fail
        refine hbl.mono ?_
        rintro e w1 ⟨rfl, hb1⟩
        have c1 := (R.out.below hb1).c1
        have B := Lib.hid hb1
        clear hb1 hbl
        go_wp2_with fail
        refine (hpar w1).mono ?_
        rintro e w2 ⟨A, cap, rfl, -, -, hb2⟩
        have B2 : Hid (Below w.heap.size w (w2.alloc (.cells #[.int .i64 T, .int .i64 a, .slice A D.length cap] 78))) := (B.out.trans (hb2.mono B.out.size)).alloc (Nat.le_trans B.out.size hb2.size) _
        clear hb2 hpar
        go_wp2
        go_ret
        exact retRd_bad E.out HC.out B2.out
      case pos =>
        subst hc0
        have RC2 : Hid (recCode V x = if T = 0 then Im.codeW V a D else if T = 1 then (if D = [] then 0 else 6) else 7) := RC.out
        have hT0 := TB.out.1
        by_cases hT2 : 2 ≤ T
        case pos =>
          have E : Hid (lnCode V false x = 7) := by show _ = _; rw [L.out.1, RC2.out, if_neg (by omega), if_neg (by omega)]
          go_enter Tryd.func33, Tryd.ntmps33
          go_wp2_with fail
          refine hbl.mono ?_
          rintro e w1 ⟨rfl, hb1⟩
          have c1 := (R.out.below hb1).c1
          have B := Lib.hid hb1
          clear hb1 hbl
          go_wp2_with fail
          refine (hpar w1).mono ?_
          rintro e w2 ⟨A, cap, rfl, -, -, hb2⟩
          have B2 : Hid (Below w.heap.size w (w2.alloc (.cells #[.int .i64 T, .int .i64 a, .slice A D.length cap] 78))) := (B.out.trans (hb2.mono B.out.size)).alloc (Nat.le_trans B.out.size hb2.size) _
          clear hb2 hpar
          go_wp2
          go_ret
          exact retRd_bad E.out (by decide) (B2.out.alloc (Nat.le_trans B2.out.size (Nat.le_refl _)) _)
        case neg =>
          have h01 : T = 0 ∨ T = 1 := by omega
          clear TB hT0 hT2 RC
          obtain ⟨E1, E2, E3⟩ := L.out
          rw [RC2.out] at E1
          have hz : T = 0 → (lnCode V false x = Im.codeW V a D ∧ lnV V x = Im.putW V a D ∧ lnE false x = false) := fun h => ⟨by rw [E1, if_pos h], by rw [E2, if_pos h], by rw [E3, h]; rfl⟩
          have ho : T = 1 → (lnCode V false x = (if D = [] then 0 else 6) ∧ lnV V x = V ∧ lnE false x = true) := fun h => ⟨by rw [E1, if_neg (by omega), if_pos h], by rw [E2, if_neg (by omega)], by rw [E3, h]; rfl⟩
          clear E1 E2 E3 L RC2
          rcases h01 with rfl | rfl
          · have E := Lib.hid (hz rfl)
            clear hz ho
            go_enter Tryd.func33, Tryd.ntmps33
            go_wp2_with fail
            refine hbl.mono ?_
            rintro e w1 ⟨rfl, hb1⟩
            have c1 := (R.out.below hb1).c1
            have B := Lib.hid hb1
            clear hb1 hbl
            go_wp2_with fail
            refine (hpar w1).mono ?_
            rintro e w2 ⟨A, cap, rfl, -, hX, hb2⟩
            have B2 : Below w.heap.size w w2 := B.out.trans (hb2.mono B.out.size)
            obtain ⟨w3, hw3⟩ : ∃ w3, ((w2.alloc (.cells #[.int .i64 0, .int .i64 a, .slice A D.length cap] 78)).alloc (.cells #[.func (.func 65) #[.pointer (some ⟨rb, 0, none⟩)] #[], .func (.func 66) #[.pointer (some ⟨rb, 0, none⟩)] #[]] 119)) = w3 := ⟨_, rfl⟩
            have b3 : Below w2.heap.size w2 w3 := by rw [← hw3]; exact ((Below.refl _ _).alloc (Nat.le_refl _) _).alloc (by simp) _
            have hT3 := (Tri.new w2 _ rfl (.int .i64 0) (.int .i64 a) (.slice A D.length cap) 78).alloc' (.cells #[.func (.func 65) #[.pointer (some ⟨rb, 0, none⟩)] #[], .func (.func 66) #[.pointer (some ⟨rb, 0, none⟩)] #[]] 119)
            rw [hw3] at hT3
            have hF3 : w3.cell? ⟨w2.heap.size + 1, 0, none⟩ = some (.func (.func 65) #[.pointer (some ⟨rb, 0, none⟩)] #[]) := by
              rw [← hw3]
              have h := World.alloc_heap_new (w2.alloc (.cells #[.int .i64 0, .int .i64 a, .slice A D.length cap] 78)) (.cells #[.func (.func 65) #[.pointer (some ⟨rb, 0, none⟩)] #[], .func (.func 66) #[.pointer (some ⟨rb, 0, none⟩)] #[]] 119)
              rw [World.size_alloc] at h
              rw [Lib.cell_of_heap h]
              rfl
            have B3 : Below w.heap.size w w3.drew := (B2.trans (b3.mono B2.size)).drew
            have b3d : Below w2.heap.size w2 w3.drew := b3.drew
            have hX3 : BytesP (· ≠ b) w3.drew A D := (hX.mono (Q := (· ≠ b)) fun i _ hi => by have := I.out.lt; have := hi.1; have := B.out.size; omega).below b3d
            have hdat := data_any rb b NE.out V false 0 a A cap D (Nat.le_trans DL.out (by unfold maxLen; omega)) w3.drew (R.out.below B3) (I.out.below B3) hX3
            have hC : w3.drew.cell? ⟨w2.heap.size, 0, none⟩ = some (.int .i64 0) ∧ w3.drew.cell? ⟨w2.heap.size, 1, none⟩ = some (.int .i64 a) ∧ w3.drew.cell? ⟨w2.heap.size, 2, none⟩ = some (.slice A D.length cap) ∧ w3.drew.cell? ⟨w2.heap.size + 1, 0, none⟩ = some (.func (.func 65) #[.pointer (some ⟨rb, 0, none⟩)] #[]) := ⟨hT3.2.1, hT3.2.2.1, hT3.2.2.2.1, hF3⟩
            have N : Hid (w2.heap.size < w3.drew.heap.size ∧ w2.heap.size + 1 < w3.drew.heap.size ∧ w2.heap.size ≠ b ∧ w2.heap.size + 1 ≠ b) := by
              have h1 := I.out.lt
              have h2 := B2.size
              have h3 : w3.drew.heap.size = w2.heap.size + 1 + 1 := by rw [← hw3]; simp [World.drew]
              exact ⟨by omega, by omega, by omega, by omega⟩
            have K3 : Hid (KeptP (fun i => i ≠ b ∧ i ≠ rb) w w3.drew) := KeptP.of_all B3
            have R3 := Lib.hid (R.out.below B3)
            obtain ⟨n, hn⟩ : ∃ n, w2.heap.size = n := ⟨_, rfl⟩
            have NE' := NE
            have t0 := hT3.2.1
            rw [hn] at hC N t0
            clear hpar hX hb2 B2 b3 hT3 hF3 B3 b3d hX3
            go_wp2
            refine Mixed.wp_region_mixed (fun w' => w'.cell? ⟨n, 0, none⟩ = some (.int .i64 0) ∧ w'.cell? ⟨n, 1, none⟩ = some (.int .i64 a) ∧ w'.cell? ⟨n, 2, none⟩ = some (.slice A D.length cap) ∧ w'.cell? ⟨n + 1, 0, none⟩ = some (.func (.func 65) #[.pointer (some ⟨rb, 0, none⟩)] #[])) 6
              [(0, true), (1, true), (2, true), (3, true), (4, true), (5, false)] (by kernel_rfl) (by kernel_rfl) hC ?_
            refine Mixed.wpMix_pure rfl rfl _ (fun w h => by obtain ⟨q1, q2, q3, q4⟩ := h; go_simp; rfl) ?_
            refine Mixed.wpMix_pure rfl rfl _ (fun w h => by obtain ⟨q1, q2, q3, q4⟩ := h; go_simp; rfl) ?_
            refine Mixed.wpMix_pure rfl rfl _ (fun w h => by obtain ⟨q1, q2, q3, q4⟩ := h; go_simp; rfl) ?_
            refine Mixed.wpMix_pure rfl rfl _ (fun w h => by obtain ⟨q1, q2, q3, q4⟩ := h; go_simp; rfl) ?_
            refine Mixed.wpMix_pure rfl rfl _ (fun w h => by obtain ⟨q1, q2, q3, q4⟩ := h; go_simp; rfl) ?_
            refine Mixed.wpMix_loud rfl ?_
            go_wp2_with fail
            refine hdat.mono ?_
            rintro e w4 ⟨rfl, hI4, hK4⟩
            have HQ : Hid (w4.cell? ⟨n, 0, none⟩ = some (.int .i64 0) ∧ w4.cell? ⟨n, 1, none⟩ = some (.int .i64 a) ∧ w4.cell? ⟨n, 2, none⟩ = some (.slice A D.length cap) ∧ w4.cell? ⟨n + 1, 0, none⟩ = some (.func (.func 65) #[.pointer (some ⟨rb, 0, none⟩)] #[])) :=
              ⟨(World.cell?_of_block (w := w3.drew) (hK4.block n N.out.1 N.out.2.2.1)).trans hC.1, (World.cell?_of_block (w := w3.drew) (hK4.block n N.out.1 N.out.2.2.1)).trans hC.2.1, (World.cell?_of_block (w := w3.drew) (hK4.block n N.out.1 N.out.2.2.1)).trans hC.2.2.1, (World.cell?_of_block (w := w3.drew) (hK4.block (n + 1) N.out.2.1 N.out.2.2.2)).trans hC.2.2.2⟩
            have F : Hid (RetRd w rb b V false x (.returned (.int .i64 (Im.codeW V a D))) w4) := by
              obtain ⟨e1, e2, e3⟩ := E.out
              exact ⟨by rw [e1], fun _ => by rw [e2, e3]; exact ⟨hI4, R3.out.keep hK4 NE.out⟩, K3.out.trans (kept_keep hK4 fun h => h.1 rfl)⟩
            clear hdat hI4 hK4 hC
            go_wp2
            refine ⟨HQ.out, ?_⟩
            simp only [Mixed.wpMix, List.drop_succ_cons, List.drop_zero]
            go_wp2
            go_ret
            exact F.out
          · have E := Lib.hid (ho rfl)
            clear hz ho
            go_enter Tryd.func33, Tryd.ntmps33
            go_wp2_with fail
            refine hbl.mono ?_
            rintro e w1 ⟨rfl, hb1⟩
            have c1 := (R.out.below hb1).c1
            have B := Lib.hid hb1
            clear hb1 hbl
            go_wp2_with fail
            refine (hpar w1).mono ?_
            rintro e w2 ⟨A, cap, rfl, -, hX, hb2⟩
            have B2 : Below w.heap.size w w2 := B.out.trans (hb2.mono B.out.size)
            obtain ⟨w3, hw3⟩ : ∃ w3, ((w2.alloc (.cells #[.int .i64 1, .int .i64 a, .slice A D.length cap] 78)).alloc (.cells #[.func (.func 65) #[.pointer (some ⟨rb, 0, none⟩)] #[], .func (.func 66) #[.pointer (some ⟨rb, 0, none⟩)] #[]] 119)) = w3 := ⟨_, rfl⟩
            have b3 : Below w2.heap.size w2 w3 := by rw [← hw3]; exact ((Below.refl _ _).alloc (Nat.le_refl _) _).alloc (by simp) _
            have hT3 := (Tri.new w2 _ rfl (.int .i64 1) (.int .i64 a) (.slice A D.length cap) 78).alloc' (.cells #[.func (.func 65) #[.pointer (some ⟨rb, 0, none⟩)] #[], .func (.func 66) #[.pointer (some ⟨rb, 0, none⟩)] #[]] 119)
            rw [hw3] at hT3
            have hF3 : w3.cell? ⟨w2.heap.size + 1, 1, none⟩ = some (.func (.func 66) #[.pointer (some ⟨rb, 0, none⟩)] #[]) := by
              rw [← hw3]
              have h := World.alloc_heap_new (w2.alloc (.cells #[.int .i64 1, .int .i64 a, .slice A D.length cap] 78)) (.cells #[.func (.func 65) #[.pointer (some ⟨rb, 0, none⟩)] #[], .func (.func 66) #[.pointer (some ⟨rb, 0, none⟩)] #[]] 119)
              rw [World.size_alloc] at h
              rw [Lib.cell_of_heap h]
              rfl
            have B3 : Below w.heap.size w w3.drew := (B2.trans (b3.mono B2.size)).drew
            have b3d : Below w2.heap.size w2 w3.drew := b3.drew
            have hdat := end_any rb b false 1 a A cap D w3.drew (R.out.below B3)
            have hC : w3.drew.cell? ⟨w2.heap.size, 0, none⟩ = some (.int .i64 1) ∧ w3.drew.cell? ⟨w2.heap.size, 1, none⟩ = some (.int .i64 a) ∧ w3.drew.cell? ⟨w2.heap.size, 2, none⟩ = some (.slice A D.length cap) ∧ w3.drew.cell? ⟨w2.heap.size + 1, 1, none⟩ = some (.func (.func 66) #[.pointer (some ⟨rb, 0, none⟩)] #[]) := ⟨hT3.2.1, hT3.2.2.1, hT3.2.2.2.1, hF3⟩
            have N : Hid (w2.heap.size < w3.drew.heap.size ∧ w2.heap.size + 1 < w3.drew.heap.size ∧ w2.heap.size ≠ rb ∧ w2.heap.size + 1 ≠ rb) := by
              have h1 := R.out.lt
              have h2 := B2.size
              have h3 : w3.drew.heap.size = w2.heap.size + 1 + 1 := by rw [← hw3]; simp [World.drew]
              exact ⟨by omega, by omega, by omega, by omega⟩
            have K3 : Hid (KeptP (fun i => i ≠ b ∧ i ≠ rb) w w3.drew) := KeptP.of_all B3
            have I3 := Lib.hid (I.out.below B3)
            obtain ⟨n, hn⟩ : ∃ n, w2.heap.size = n := ⟨_, rfl⟩
            have NE' := NE
            have t0 := hT3.2.1
            rw [hn] at hC N t0
            clear hpar hX hb2 B2 b3 hT3 hF3 B3 b3d
            go_wp2
            refine Mixed.wp_region_mixed (fun w' => w'.cell? ⟨n, 0, none⟩ = some (.int .i64 1) ∧ w'.cell? ⟨n, 1, none⟩ = some (.int .i64 a) ∧ w'.cell? ⟨n, 2, none⟩ = some (.slice A D.length cap) ∧ w'.cell? ⟨n + 1, 1, none⟩ = some (.func (.func 66) #[.pointer (some ⟨rb, 0, none⟩)] #[])) 6
              [(0, true), (1, true), (2, true), (3, true), (4, true), (5, false)] (by kernel_rfl) (by kernel_rfl) hC ?_
            refine Mixed.wpMix_pure rfl rfl _ (fun w h => by obtain ⟨q1, q2, q3, q4⟩ := h; go_simp; rfl) ?_
            refine Mixed.wpMix_pure rfl rfl _ (fun w h => by obtain ⟨q1, q2, q3, q4⟩ := h; go_simp; rfl) ?_
            refine Mixed.wpMix_pure rfl rfl _ (fun w h => by obtain ⟨q1, q2, q3, q4⟩ := h; go_simp; rfl) ?_
            refine Mixed.wpMix_pure rfl rfl _ (fun w h => by obtain ⟨q1, q2, q3, q4⟩ := h; go_simp; rfl) ?_
            refine Mixed.wpMix_pure rfl rfl _ (fun w h => by obtain ⟨q1, q2, q3, q4⟩ := h; go_simp; rfl) ?_
            refine Mixed.wpMix_loud rfl ?_
            go_wp2_with fail
            refine hdat.mono ?_
            rintro e w4 ⟨rfl, hR4, hK4⟩
            obtain ⟨r, hr⟩ : ∃ r : Int, (if D = [] then 0 else 6) = r := ⟨_, rfl⟩
            rw [hr]
            have HQ : Hid (w4.cell? ⟨n, 0, none⟩ = some (.int .i64 1) ∧ w4.cell? ⟨n, 1, none⟩ = some (.int .i64 a) ∧ w4.cell? ⟨n, 2, none⟩ = some (.slice A D.length cap) ∧ w4.cell? ⟨n + 1, 1, none⟩ = some (.func (.func 66) #[.pointer (some ⟨rb, 0, none⟩)] #[])) :=
              ⟨(World.cell?_of_block (w := w3.drew) (hK4.block n N.out.1 N.out.2.2.1)).trans hC.1, (World.cell?_of_block (w := w3.drew) (hK4.block n N.out.1 N.out.2.2.1)).trans hC.2.1, (World.cell?_of_block (w := w3.drew) (hK4.block n N.out.1 N.out.2.2.1)).trans hC.2.2.1, (World.cell?_of_block (w := w3.drew) (hK4.block (n + 1) N.out.2.1 N.out.2.2.2)).trans hC.2.2.2⟩
            have F : Hid (RetRd w rb b V false x (.returned (.int .i64 r)) w4) := by
              obtain ⟨e1, e2, e3⟩ := E.out
              refine ⟨by rw [e1, hr], fun h0 => ?_, K3.out.trans (hK4.mono fun i _ h => h.2)⟩
              have hD : D = [] := by
                rw [e1] at h0
                apply Decidable.byContradiction
                intro hn
                rw [if_neg hn] at h0
                exact absurd h0 (by decide)
              rw [e2, e3]
              exact ⟨img_kept I3.out hK4 (Ne.symm NE.out), hR4 hD⟩
            clear hr hdat hR4 hK4 hC
            go_wp2
            refine ⟨HQ.out, ?_⟩
            simp only [Mixed.wpMix, List.drop_succ_cons, List.drop_zero]
            go_wp2
            go_ret
            exact F.out
end Go.Proofs.YtmeegpdjhcilkaaDoor
