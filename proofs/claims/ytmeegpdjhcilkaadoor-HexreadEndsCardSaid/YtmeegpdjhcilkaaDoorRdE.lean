/-
  The walk over the reference's Read: the cells, the line and the code.
-/
import Derived.Test.YtmeegpdjhcilkaaDoorRdC
namespace Go.Proofs.YtmeegpdjhcilkaaDoor
open Go.RowKit
set_option linter.unusedVariables false

theorem parD_le' (s : ByteArray) : (parD s).length ≤ s.size := by
  unfold parD
  split
  · unfold recD
    have h1 := bytesL_le (linCut s)
    have h2 : (linCut s).size ≤ s.size := cutPre_le s ⟨#[58]⟩
    rw [List.length_take, List.length_drop]
    omega
  · simp
def RetRRead (w : World) (r : List Im.Cel × Int × Int) (e : Ending) (w' : World) : Prop :=
  ∃ A cap, e = .returned (.tuple #[.slice A r.1.length cap, .int .i64 r.2.1, .int .i64 r.2.2]) ∧ r.1.length ≤ cap ∧ Im.CellsP (w.heap.size ≤ ·) w' A r.1 ∧ Below w.heap.size w w'
theorem retRRead_bad {w w' : World} {r : List Im.Cel × Int × Int} {l c : Int} (h : r = ([], l, c)) (hb : Below w.heap.size w w') : RetRRead w r (.returned (.tuple #[.slice none 0 0, .int .i64 l, .int .i64 c])) w' := by
  subst h
  exact ⟨none, 0, rfl, Nat.le_refl _, .inl rfl, hb⟩
/-- What the first k lines have made. -/
structure RR5 (w wr : World) (ls : List (List UInt8)) (k : Nat) (V : List Im.Cel) (en : Bool) (A : Option Addr) (cap : Nat) (LA : Option Addr) : Prop where
  read : readL 0 [] false ls = readL k V en (ls.drop k)
  sorted : Im.SortedW V
  cap : V.length ≤ cap
  cells : Im.CellsP (w.heap.size ≤ ·) wr A V
  lines : StrsP (fun _ => True) wr LA (ls.map strOf)
  below : Below w.heap.size w wr
theorem RR5.more {w wr w' : World} {ls : List (List UInt8)} {k : Nat} {V : List Im.Cel} {en : Bool} {A : Option Addr} {cap : Nat} {LA : Option Addr} (h : RR5 w wr ls k V en A cap LA) (b : Below wr.heap.size wr w') : RR5 w w' ls k V en A cap LA :=
  ⟨h.read, h.sorted, h.cap, h.cells.below b, h.lines.below b, h.below.trans (b.mono h.below.size)⟩
set_option maxRecDepth 100000 in
set_option maxHeartbeats 8000000 in
theorem rread5_any (x : List UInt8) (hx : x.length ≤ 40000000) (w : World) :
    Calls Tryd.prog 56 #[.string (strOf x)] w (RetRRead w (readT x)) := by
  have hsp := rsplit5_any x hx w
  have LB : Hid (∀ y ∈ linesOf x, y.length ≤ 40000000) := fun y hy => Nat.le_trans (lines_len y hy) hx
  have CB : Hid ((linesOf x).length ≤ 40000001) := by
    show _ ≤ _
    have h1 := linesOf_count x
    have h2 := List.count_le_length (a := (10 : UInt8)) (l := x)
    omega
  have RT : Hid (readT x = readL 0 [] false (linesOf x)) := rfl
  obtain ⟨r, hr⟩ : ∃ r, readT x = r := ⟨_, rfl⟩
  obtain ⟨s, hs⟩ : ∃ s, strOf x = s := ⟨_, rfl⟩
  obtain ⟨ls, hls⟩ : ∃ ls, linesOf x = ls := ⟨_, rfl⟩
  rw [hr] at RT ⊢
  rw [hs] at hsp ⊢
  rw [hls] at hsp LB CB RT
  clear hr hs hls hx
  go_enter Tryd.func56, Tryd.ntmps56
  go_wp2_with fail
  refine hsp.mono ?_
  rintro e w1 ⟨LA, lcap, rfl, -, hS, hb⟩
  have S0 : Hid (RR5 w w1 ls 0 [] false none 0 LA) := ⟨rfl, Im.sorted_nil, Nat.le_refl _, .inl rfl, hS.mono fun _ _ _ => trivial, hb⟩
  rw [List.length_map]
  obtain ⟨L, hL⟩ : ∃ L, ls.length = L := ⟨_, rfl⟩
  have HL := Lib.hid hL
  have hLb : L ≤ 40000001 := by rw [← hL]; exact CB.out
  rw [hL]
  clear hsp hS hb hL CB
  go_wp2
  go_loopw [5, 6, 8] (fun mv ev iv wr => ∃ (k : Nat) (V : List Im.Cel) (en : Bool) (A : Option Addr) (cap : Nat), k ≤ L ∧ iv = .int .i64 k ∧ mv = .slice A V.length cap ∧ ev = .bool en ∧ Hid (RR5 w wr ls k V en A cap LA)) (fun _ _ iv _ => L - (intOf iv).toNat)
  case atStart => exact ⟨0, [], false, none, 0, Nat.zero_le _, rfl, rfl, rfl, S0.out⟩
  case round =>
    clear S0
    obtain ⟨k, V, en, A, cap, hk, rfl, rfl, rfl, R⟩ := hrel
    by_cases hlt : k < L
    · have hkl : k < ls.length := by rw [HL.out]; exact hlt
      have hlt' : (k : Int) < (L : Int) := by omega
      obtain ⟨b, off, hA, g1⟩ := R.out.lines.at_ (show k < (ls.map strOf).length by rw [List.length_map]; exact hkl)
      rw [List.getElem_map] at g1
      subst hA
      have hd : ls.drop k = ls[k] :: ls.drop (k + 1) := List.drop_eq_getElem_cons hkl
      have hyl := LB.out _ (List.getElem_mem hkl)
      obtain ⟨y, hy⟩ : ∃ y, ls[k] = y := ⟨_, rfl⟩
      rw [hy] at g1 hd hyl
      have hrd : r = readL k V en (y :: ls.drop (k + 1)) := by rw [RT.out, R.out.read, hd]
      have htr := rtrim5_any y hyl wr
      have hbl := rblank5_any (trimC y) (Nat.le_trans (trimC_le y) hyl) wr
      rw [show blankL (trimC y) = lnBlank y from rfl] at hbl
      have SZ : Hid ((strOf (trimC y)).size ≤ 40000000) := by show _ ≤ _; rw [strOf_size]; exact Nat.le_trans (trimC_le y) hyl
      have HRD := Lib.hid hrd
      clear hd hyl hy hrd hkl
      cases hb : lnBlank y
      case true =>
        have E : Hid (readL k V en (y :: ls.drop (k + 1)) = readL (k + 1) V en (ls.drop (k + 1))) := by
          show _ = _
          rw [readL_go (by unfold lnCode; rw [if_pos hb])]
          unfold lnV lnE
          rw [if_pos hb, if_pos hb]
        rw [hb] at hbl
        have R2 : Hid (RR5 w wr ls (k + 1) V en A cap (some ⟨b, off, none⟩)) := ⟨by rw [← RT.out, HRD.out, E.out], R.out.sorted, R.out.cap, R.out.cells, R.out.lines, R.out.below⟩
        clear hb
        obtain ⟨t, ht⟩ : ∃ t, strOf (trimC y) = t := ⟨_, rfl⟩
        rw [ht] at htr hbl
        clear ht
        go_wp2_with fail
        refine htr.mono ?_
        rintro e w' ⟨rfl, rfl⟩
        go_wp2_with fail
        refine hbl.mono ?_
        rintro e w' ⟨rfl, rfl⟩
        clear htr hbl
        go_wp2
        go_roundw
        case rel => exact ⟨k + 1, V, en, A, cap, by omega, by go_num, rfl, rfl, R2.out⟩
        case measure => simp [intOf]; omega
      case false =>
        rw [hb] at hbl
        cases en
        case true =>
          have E : Hid (r = ([], (k : Int) + 1, 9)) := by
            show _ = _
            rw [HRD.out, readL_stop (by rw [show lnCode V true y = 9 by unfold lnCode; rw [hb]; rfl]; decide)]
            rw [show lnCode V true y = 9 by unfold lnCode; rw [hb]; rfl]
          have B := Lib.hid R.out.below
          obtain ⟨t, ht⟩ : ∃ t, strOf (trimC y) = t := ⟨_, rfl⟩
          rw [ht] at htr hbl
          clear ht hb
          go_wp2_with fail
          refine htr.mono ?_
          rintro e w' ⟨rfl, rfl⟩
          go_wp2_with fail
          refine hbl.mono ?_
          rintro e w' ⟨rfl, rfl⟩
          clear htr hbl
          go_wp2
          go_ret3
          exact retRRead_bad E.out B.out
        case false =>
          have e1 : lnCode V false y = recCode V y := by unfold lnCode; rw [hb]; rfl
          have e2 : lnV V y = addV V (parT (lnS y)) (parA (lnS y)) (parD (lnS y)) := by unfold lnV addV; rw [hb]; rfl
          have e3 : lnE false y = decide (parT (lnS y) = 1) := by unfold lnE; rw [hb]; rfl
          have e4 : parCode (lnS y) = 0 → recCode V y = addC V (parT (lnS y)) (parA (lnS y)) (parD (lnS y)) := fun h => by unfold recCode addC; rw [if_neg (fun g => g h)]
          have e5 : parCode (lnS y) ≠ 0 → recCode V y = parCode (lnS y) := fun h => by unfold recCode; rw [if_pos h]
          have hpar := fun w1 => rparse_any (lnS y) (Nat.le_trans SZ.out (by omega)) w1
          have DL := Lib.hid (Nat.le_trans (parD_le' (lnS y)) SZ.out)
          rw [show strOf (trimC y) = lnS y from rfl] at htr hbl
          obtain ⟨t, ht⟩ : ∃ t, lnS y = t := ⟨_, rfl⟩
          rw [ht] at htr hbl hpar DL e2 e3 e4 e5
          obtain ⟨T, hT⟩ : ∃ T, parT t = T := ⟨_, rfl⟩
          obtain ⟨a, ha⟩ : ∃ a, parA t = a := ⟨_, rfl⟩
          obtain ⟨D, hD⟩ : ∃ D, parD t = D := ⟨_, rfl⟩
          obtain ⟨c, hc⟩ : ∃ c, parCode t = c := ⟨_, rfl⟩
          rw [hT, ha, hD] at e2 e4
          rw [hT] at e3
          rw [hc] at e4 e5
          rw [hT, ha, hD, hc] at hpar
          rw [hD] at DL
          clear hb hT ha hD hc SZ ht
          by_cases hc0 : c = 0
          case neg =>
            have E : Hid (r = ([], (k : Int) + 1, c)) := by
              show _ = _
              have h : lnCode V false y = c := e1.trans (e5 hc0)
              rw [HRD.out, readL_stop (by rw [h]; exact hc0), h]
            have B := Lib.hid R.out.below
            have n1 : (c == 0) = false := beq_eq_false_iff_ne.2 hc0
            have n2 : (c != 0) = true := by unfold bne; rw [n1]; rfl
            clear e1 e2 e3 e4 e5 hc0
            go_wp2_with fail
            refine htr.mono ?_
            rintro e w' ⟨rfl, rfl⟩
            go_wp2_with fail
            refine hbl.mono ?_
            rintro e w' ⟨rfl, rfl⟩
            clear htr hbl
            go_wp2_with fail
            refine (hpar _).mono ?_
            rintro e w2 ⟨A2, cap2, rfl, -, -, hb2⟩
            have B2 : Hid (Below w.heap.size w (w2.alloc (.cells #[.int .i64 T, .int .i64 a, .slice A2 D.length cap2] 142))) := (B.out.trans (hb2.mono B.out.size)).alloc (Nat.le_trans B.out.size hb2.size) _
            clear hb2 hpar
            go_wp2
            go_ret3
            exact retRRead_bad E.out B2.out
          case pos =>
            subst hc0
            have e6 : lnCode V false y = addC V T a D := e1.trans (e4 rfl)
            have E0 : Hid (addC V T a D = 0 → r = readL (k + 1) (addV V T a D) (decide (T = 1)) (ls.drop (k + 1))) := fun h => by rw [HRD.out, readL_go (e6.trans h), e2, e3]
            have E1 : Hid (addC V T a D ≠ 0 → r = ([], (k : Int) + 1, addC V T a D)) := fun h => by rw [HRD.out, readL_stop (by rw [e6]; exact h), e6]
            have VS : Hid (Im.SortedW (addV V T a D)) := by rw [← e2]; exact lnV_sorted R.out.sorted y
            clear e1 e2 e3 e4 e5 e6
            go_wp2_with fail
            refine htr.mono ?_
            rintro e w' ⟨rfl, rfl⟩
            go_wp2_with fail
            refine hbl.mono ?_
            rintro e w' ⟨rfl, rfl⟩
            clear htr hbl
            go_wp2_with fail
            refine (hpar _).mono ?_
            rintro e w2 ⟨A2, cap2, rfl, -, hX, hb2⟩
            have R2 := R.out.more hb2
            obtain ⟨w3, hw3⟩ : ∃ w3, w2.alloc (.cells #[.int .i64 T, .int .i64 a, .slice A2 D.length cap2] 142) = w3 := ⟨_, rfl⟩
            have hal : Below w2.heap.size w2 w3 := by rw [← hw3]; exact (Below.refl _ _).alloc (Nat.le_refl _) _
            have T3 : Tri w2.heap.size w3 (.int .i64 T) (.int .i64 a) (.slice A2 D.length cap2) := by rw [← hw3]; exact Tri.new w2 _ rfl _ _ _ 142
            have R3 := R2.more hal
            have X3 : BytesP (fun i => i < w3.heap.size) w3 A2 D := (hX.below hal).mono fun i hi _ => hi
            have hadd := radd5_any (w.heap.size ≤ ·) A cap V R3.sorted R3.cap T a A2 cap2 D (Nat.le_trans DL.out (by unfold maxLen; omega)) w3 (fun i hi => Nat.le_trans R3.below.size hi) R3.cells X3
            have c0 := T3.2.1
            have c1 := T3.2.2.1
            have c2 := T3.2.2.2.1
            have RR := Lib.hid R3
            have TT := Lib.hid T3
            clear hX hb2 R2 hal X3 hpar R3 T3 g1
            go_wp2_with fail
            refine hadd.mono ?_
            rintro e w4 ⟨A4, cap4, rfl, k1, k2, k3⟩
            have R4 : Hid (StrsP (fun _ => True) w4 (some ⟨b, off, none⟩) (ls.map strOf) ∧ Below w.heap.size w w4) := ⟨RR.out.lines.below k3, RR.out.below.trans (k3.mono RR.out.below.size)⟩
            have c4 : w4.cell? ⟨w2.heap.size, 0, none⟩ = some (.int .i64 T) := (World.cell?_of_block (w := w3) (k3.block _ TT.out.1)).trans c0
            have KC := Lib.hid (And.intro k1 k2)
            clear hadd k1 k2 k3 hw3 c0 c1 c2
            obtain ⟨V2, hV2⟩ : ∃ V2, addV V T a D = V2 := ⟨_, rfl⟩
            obtain ⟨f, hf⟩ : ∃ f, addC V T a D = f := ⟨_, rfl⟩
            rw [hV2] at E0 VS KC ⊢
            rw [hf] at E0 E1 ⊢
            clear hV2 hf
            by_cases hf0 : f = 0
            · subst hf0
              have RN : Hid (RR5 w w4 ls (k + 1) V2 (decide (T = 1)) A4 cap4 (some ⟨b, off, none⟩)) := ⟨by rw [← RT.out]; exact E0.out rfl, VS.out, KC.out.1, KC.out.2, R4.out.1, R4.out.2⟩
              have hT1 : (T == 1) = decide (T = 1) := rfl
              go_wp2
              go_roundw
              case rel => exact ⟨k + 1, V2, decide (T = 1), A4, cap4, by omega, by go_num, rfl, by first | rfl | (congr 1), RN.out⟩
              case measure => simp [intOf]; omega
            · have n1 : (f == 0) = false := beq_eq_false_iff_ne.2 hf0
              have n2 : (f != 0) = true := by unfold bne; rw [n1]; rfl
              have E := Lib.hid (E1.out hf0)
              clear hf0
              go_wp2
              go_ret3
              exact retRRead_bad E.out R4.out.2
    · have hkL : k = L := by omega
      have hlt' : decide ((k : Int) < (L : Int)) = false := decide_eq_false (by omega)
      have E : Hid (r = readL k V en []) := by
        show _ = _
        rw [RT.out, R.out.read, hkL, ← HL.out, List.drop_length]
      cases en
      · have E2 : Hid (r = ([], 0, 8)) := E.out
        go_wp2
        go_ret3
        exact retRRead_bad E2.out R.out.below
      · have E2 : Hid (r = (V, 0, 0)) := E.out
        go_wp2
        go_ret3
        rw [E2.out]
        exact ⟨A, cap, rfl, R.out.cap, R.out.cells, R.out.below⟩
end Go.Proofs.YtmeegpdjhcilkaaDoor
