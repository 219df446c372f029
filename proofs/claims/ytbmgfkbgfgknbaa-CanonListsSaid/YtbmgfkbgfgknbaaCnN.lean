/-
  The walk over the step that replaces negative numbers.
-/
import Derived.Test.YtbmgfkbgfgknbaaCnD
namespace Go.Proofs.Ytbmgfkbgfgknbaa
open Go.RowKit
set_option linter.unusedVariables false

def wL (v : Int) (L : List Tr) (j : Nat) : List Tr := (L.take j).map (wrapT v) ++ L.drop j
theorem wL_zero (v : Int) (L : List Tr) : wL v L 0 = L := rfl
theorem wL_end (v : Int) (L : List Tr) : wL v L L.length = L.map (wrapT v) := by unfold wL; rw [List.take_length, List.drop_length, List.append_nil]
theorem wL_len (v : Int) (L : List Tr) (j : Nat) : (wL v L j).length = L.length := by
  unfold wL
  rw [List.length_append, List.length_map, ← List.length_append, List.take_append_drop]
theorem wL_at (v : Int) (L : List Tr) (j : Nat) (h : j < L.length) (h' : j < (wL v L j).length) : (wL v L j)[j] = L[j] := by
  have e : (wL v L j)[j]? = some L[j] := by
    unfold wL
    rw [List.getElem?_append_right (by rw [List.length_map, List.length_take]; omega), List.getElem?_drop, List.length_map, List.length_take, show j + (j - min j L.length) = j by omega]
    exact List.getElem?_eq_getElem h
  rw [List.getElem?_eq_getElem h'] at e
  exact Option.some.inj e
theorem wL_set (v : Int) (L : List Tr) (j : Nat) (h : j < L.length) : (wL v L j).set j (wrapT v L[j]) = wL v L (j + 1) := by
  unfold wL
  rw [List.take_succ_eq_append_getElem h, List.map_append, List.append_assoc, List.set_append_right _ _ (by rw [List.length_map, List.length_take]; omega)]
  congr 1
  rw [List.drop_eq_getElem_cons h, List.length_map, List.length_take, show j - min j L.length = 0 by omega]
  rfl
theorem wL_no (v : Int) (L : List Tr) (j : Nat) (h : j < L.length) (e : wrapT v L[j] = L[j]) : wL v L j = wL v L (j + 1) := by
  have h' : j < (wL v L j).length := by rw [wL_len]; exact h
  rw [← wL_set v L j h, e, ← wL_at v L j h h', List.set_getElem_self]
theorem cells_set : ∀ (L : List Tr) (k : Nat) (a b c : Int) (h : k < L.length) (h1 : L[k].1 = a) (h2 : L[k].2.1 = b), cellsT (L.set k (a, b, c)) = (cellsT L).set (k * 3 + 2) (.int .i64 c)
  | x :: t, 0, a, b, c, h, h1, h2 => by
    simp only [List.getElem_cons_zero] at h1 h2
    subst h1 h2
    rfl
  | x :: t, k + 1, a, b, c, h, h1, h2 => by
    have ih := cells_set t k a b c (by simpa using h) (by simpa using h1) (by simpa using h2)
    rw [show (k + 1) * 3 + 2 = (k * 3 + 2) + 1 + 1 + 1 by omega]
    show cellsT (x :: t.set k (a, b, c)) = _
    have e : ∀ y : List Tr, cellsT (x :: y) = .int .i64 x.1 :: .int .i64 x.2.1 :: .int .i64 x.2.2 :: cellsT y := fun _ => rfl
    rw [e, e, ih]
    rfl
theorem wL_yes (v : Int) (L : List Tr) (j : Nat) (h : j < L.length) (hc : L[j].1 = 6 ∧ -(v / 2) ≤ L[j].2.2 ∧ L[j].2.2 < 0) : (cellsT (wL v L j)).set (j * 3 + 2) (.int .i64 (L[j].2.2 + v)) = cellsT (wL v L (j + 1)) := by
  have h' : j < (wL v L j).length := by rw [wL_len]; exact h
  have e : wrapT v L[j] = (L[j].1, L[j].2.1, L[j].2.2 + v) := by unfold wrapT; rw [if_pos hc]
  rw [← wL_set v L j h, e]
  exact (cells_set _ _ _ _ _ h' (by rw [wL_at v L j h h']) (by rw [wL_at v L j h h'])).symm
theorem wL_not (v : Int) (L : List Tr) (j : Nat) (h : j < L.length) (hc : ¬ (L[j].1 = 6 ∧ -(v / 2) ≤ L[j].2.2 ∧ L[j].2.2 < 0)) : wL v L j = wL v L (j + 1) :=
  wL_no v L j h (by unfold wrapT; rw [if_neg hc])
theorem widL_cases (c : Nat) (L : List Tr) : widL c L = 0 ∨ widL c L = 1 ∨ widL c L = 2 := by
  unfold widL
  split
  · exact .inl rfl
  · split
    · exact .inr (.inr rfl)
    · split
      · exact .inr (.inr rfl)
      · exact .inr (.inl rfl)
set_option maxRecDepth 100000 in
set_option maxHeartbeats 8000000 in
theorem wrap_any (s : ByteArray) (B bd : Nat) (hB : B ≤ bd) (v : Value) (L : List Tr) (hL : L.length ≤ 1000) (w : World) (hD : Dr w bd s v) (hO : OwnS w B v L) :
    Calls Try.prog 23 #[.pointer (some ⟨bd, 0, none⟩)] w fun e w' => e = .returned (.tuple #[]) ∧ Dr w' bd s v ∧ OwnS w' B v (L.map (wrapT (valW (widL (opc s) L)))) ∧ Below B w w' := by
  obtain ⟨A, cap, rfl, hP, hlc, hcm⟩ := hO.ops
  have WD := Lib.hid (width_any s A cap L hL w hP)
  obtain ⟨d0, d1, -, -⟩ := hD.cells
  have D0 := Lib.hid hD
  have O0 := Lib.hid hO
  have YES := fun v => Lib.hid (wL_yes v L)
  have NOT := fun v => Lib.hid (wL_not v L)
  have WE := fun v => Lib.hid (wL_end v L)
  have AT := fun v => Lib.hid (wL_at v L)
  have hwl := fun v j => wL_len v L j
  obtain ⟨n, hn⟩ : ∃ n, L.length = n := ⟨_, rfl⟩
  have HN := Lib.hid hn
  rw [hn] at D0 O0 WD d1 WE hwl hlc hL ⊢
  have SB : Hid (bd < w.heap.size) := hD.lt
  clear hD hO hP hn
  obtain ⟨x, hx⟩ : ∃ x, widL (opc s) L = x := ⟨_, rfl⟩
  have hcs := widL_cases (opc s) L
  rw [hx] at WD hcs ⊢
  clear hx
  rcases hcs with rfl | rfl | rfl
  · have hvw : valW 0 = 0 := rfl
    rw [hvw]
    clear hvw
    go_enter Try.func23, Try.ntmps23
    go_wp2_with fail
    refine WD.out.mono ?_
    rintro e w1 ⟨rfl, h1⟩
    have B1 : Hid (Below B w w1) := h1.mono (Nat.le_trans hB (Nat.le_of_lt SB.out))
    have D1 := Lib.hid (D0.out.below h1)
    have O1 := Lib.hid (O0.out.below h1)
    clear h1 D0 O0 d0 d1 WD
    obtain ⟨d0, d1, -, -⟩ := D1.out.cells
    go_wp2
    clear d0 d1
    go_loopw [20] (fun i wr => ∃ j : Nat, j ≤ n ∧ i = .int .i64 j ∧ Hid (Dr wr bd s (.slice A n cap)) ∧ Hid (OwnS wr B (.slice A n cap) (wL 0 L j)) ∧ Hid (Below B w wr)) (fun i _ => n - (intOf i).toNat)
    case atStart => exact ⟨0, Nat.zero_le _, rfl, D1.out, O1.out, B1.out⟩
    case round =>
      clear D1 O1 B1
      obtain ⟨j, hj, rfl, D1, O1, B1⟩ := hrel
      by_cases hlt : j < n
      · have hj1 : j < L.length := by have := HN.out; omega
        have hj2 : j < (wL 0 L j).length := by rw [hwl]; exact hlt
        obtain ⟨g, off, cap', hA, -, -, hR⟩ := O1.out.nonnil (by omega)
        simp only [Value.slice.injEq] at hA
        obtain ⟨rfl, -, -⟩ := hA
        obtain ⟨p0, p1, p2⟩ := hR.at_ j hj2
        rw [(AT 0).out j hj1 hj2] at p0 p1 p2
        have hgb := hR.apart D1.out
        have hgl := hR.lt
        have fz := hR.frozen (off + j * 3 + 2)
        have Y := Lib.hid ((YES 0).out j hj1)
        have N := Lib.hid ((NOT 0).out j hj1)
        obtain ⟨⟨y0, y1, y2⟩, hy⟩ : ∃ y, L[j] = y := ⟨_, rfl⟩
        rw [hy] at p0 p1 p2 Y N
        simp only at p0 p1 p2 Y N
        obtain ⟨d0, d1, -, -⟩ := D1.out.cells
        have D2 := fun o => Lib.hid (D1.out.alloc o)
        have B2 := fun o => Lib.hid (B1.out.alloc (Nat.le_trans (Nat.le_trans hB (Nat.le_of_lt SB.out)) B1.out.size) o)
        have hgB : Hid (B ≤ g) := hR.1
        have hBr : Hid (B ≤ wr.heap.size) := Nat.le_trans (Nat.le_trans hB (Nat.le_of_lt SB.out)) B1.out.size
        have hR := Lib.hid hR
        have hne1 : g ≠ wr.heap.size := by omega
        have hne2 : bd ≠ wr.heap.size := by have := D1.out.lt; omega
        have O2 : ∀ o, Hid (OwnS (wr.alloc o) B (.slice (some ⟨g, off, none⟩) n cap) (wL 0 L j)) := fun o => O1.out.alloc o
        clear hj1 hj2 hy O1
        by_cases k6 : y0 = 6
        · by_cases a1 : 0 ≤ y2
          · have hx := N.out fun q => absurd q.2.2 (by omega)
            rw [hx] at O2
            subst k6
            clear hx Y N D1 B1 hR
            go_wp2
            go_roundw
            case rel => exact ⟨j + 1, by omega, by go_num, (D2 _).out, (O2 _).out, (B2 _).out⟩
            case measure => simp [intOf]; omega
          · have hx := N.out fun q => absurd q.2.1 (by omega)
            rw [hx] at O2
            subst k6
            clear hx Y N D1 B1 hR
            go_wp2
            go_roundw
            case rel => exact ⟨j + 1, by omega, by go_num, (D2 _).out, (O2 _).out, (B2 _).out⟩
            case measure => simp [intOf]; omega
        · have hx := N.out fun q => k6 q.1
          rw [hx] at O2
          clear hx Y N D1 B1 hR
          go_wp2
          go_roundw
          case rel => exact ⟨j + 1, by omega, by go_num, (D2 _).out, (O2 _).out, (B2 _).out⟩
          case measure => simp [intOf]; omega
      · have hjn : j = n := by omega
        subst hjn
        rw [(WE 0).out] at O1
        go_wp2
        refine bodyPost_end (v := .tuple #[]) ?_ rfl ⟨rfl, D1.out, O1.out, B1.out⟩
        simp [results, Try.results23, go_sem]
  · have hvw : valW 1 = 256 := rfl
    rw [hvw]
    clear hvw
    go_enter Try.func23, Try.ntmps23
    go_wp2_with fail
    refine WD.out.mono ?_
    rintro e w1 ⟨rfl, h1⟩
    have B1 : Hid (Below B w w1) := h1.mono (Nat.le_trans hB (Nat.le_of_lt SB.out))
    have D1 := Lib.hid (D0.out.below h1)
    have O1 := Lib.hid (O0.out.below h1)
    clear h1 D0 O0 d0 d1 WD
    obtain ⟨d0, d1, -, -⟩ := D1.out.cells
    go_wp2
    clear d0 d1
    go_loopw [20] (fun i wr => ∃ j : Nat, j ≤ n ∧ i = .int .i64 j ∧ Hid (Dr wr bd s (.slice A n cap)) ∧ Hid (OwnS wr B (.slice A n cap) (wL 256 L j)) ∧ Hid (Below B w wr)) (fun i _ => n - (intOf i).toNat)
    case atStart => exact ⟨0, Nat.zero_le _, rfl, D1.out, O1.out, B1.out⟩
    case round =>
      clear D1 O1 B1
      obtain ⟨j, hj, rfl, D1, O1, B1⟩ := hrel
      by_cases hlt : j < n
      · have hj1 : j < L.length := by have := HN.out; omega
        have hj2 : j < (wL 256 L j).length := by rw [hwl]; exact hlt
        obtain ⟨g, off, cap', hA, -, -, hR⟩ := O1.out.nonnil (by omega)
        simp only [Value.slice.injEq] at hA
        obtain ⟨rfl, -, -⟩ := hA
        obtain ⟨p0, p1, p2⟩ := hR.at_ j hj2
        rw [(AT 256).out j hj1 hj2] at p0 p1 p2
        have hgb := hR.apart D1.out
        have hgl := hR.lt
        have fz := hR.frozen (off + j * 3 + 2)
        have Y := Lib.hid ((YES 256).out j hj1)
        have N := Lib.hid ((NOT 256).out j hj1)
        obtain ⟨⟨y0, y1, y2⟩, hy⟩ : ∃ y, L[j] = y := ⟨_, rfl⟩
        rw [hy] at p0 p1 p2 Y N
        simp only at p0 p1 p2 Y N
        obtain ⟨d0, d1, -, -⟩ := D1.out.cells
        have D2 := fun o => Lib.hid (D1.out.alloc o)
        have B2 := fun o => Lib.hid (B1.out.alloc (Nat.le_trans (Nat.le_trans hB (Nat.le_of_lt SB.out)) B1.out.size) o)
        have hgB : Hid (B ≤ g) := hR.1
        have hBr : Hid (B ≤ wr.heap.size) := Nat.le_trans (Nat.le_trans hB (Nat.le_of_lt SB.out)) B1.out.size
        have hR := Lib.hid hR
        have hne1 : g ≠ wr.heap.size := by omega
        have hne2 : bd ≠ wr.heap.size := by have := D1.out.lt; omega
        have O2 : ∀ o, Hid (OwnS (wr.alloc o) B (.slice (some ⟨g, off, none⟩) n cap) (wL 256 L j)) := fun o => O1.out.alloc o
        clear hj1 hj2 hy O1
        by_cases k6 : y0 = 6
        · by_cases a1 : -128 ≤ y2
          · by_cases a2 : y2 < 0
            · have hx := Y.out ⟨k6, by omega, a2⟩
              have R3 : ∀ o, Hid (OwnS ((wr.setCell ⟨g, off + j * 3 + 2, none⟩ (.int .i64 (y2 + 256))).alloc o) B (.slice (some ⟨g, off, none⟩) n cap) (wL 256 L (j + 1))) := fun o => by
                have h3 := hR.out.put (j * 3 + 2) _ hx
                rw [← Nat.add_assoc] at h3
                exact OwnS.alloc (.inr ⟨g, off, cap, by rw [hwl], by rw [hwl]; exact hlc, hcm, h3⟩) o
              have D3 : ∀ o, Hid (Dr ((wr.setCell ⟨g, off + j * 3 + 2, none⟩ (.int .i64 (y2 + 256))).alloc o) bd s (.slice (some ⟨g, off, none⟩) n cap)) := fun o => (D1.out.other hgb _ _).alloc o
              have B3 : ∀ o, Hid (Below B w ((wr.setCell ⟨g, off + j * 3 + 2, none⟩ (.int .i64 (y2 + 256))).alloc o)) := fun o => (B1.out.setCell (p := ⟨g, off + j * 3 + 2, none⟩) hgB.out _).alloc (by simp; exact hBr.out) o
              subst k6
              have e1 := (D2 (.cells #[.int .i64 6, .int .i64 y1, .int .i64 y2] 33)).out.cells.2.1
              have e2 : (wr.alloc (.cells #[.int .i64 6, .int .i64 y1, .int .i64 y2] 33)).cell? ⟨g, off + j * 3 + 2, none⟩ = some (.int .i64 y2) := (World.cell?_alloc_lt wr _ _ hgl).trans p2
              clear hx Y N O2 D2 B2 D1 B1 hR
              go_wp2
              go_roundw
              case rel => exact ⟨j + 1, by omega, by go_num, (D3 _).out, (R3 _).out, (B3 _).out⟩
              case measure => simp [intOf]; omega
            · have hx := N.out fun q => absurd q.2.2 (by omega)
              rw [hx] at O2
              subst k6
              clear hx Y N D1 B1 hR
              go_wp2
              go_roundw
              case rel => exact ⟨j + 1, by omega, by go_num, (D2 _).out, (O2 _).out, (B2 _).out⟩
              case measure => simp [intOf]; omega
          · have hx := N.out fun q => absurd q.2.1 (by omega)
            rw [hx] at O2
            subst k6
            clear hx Y N D1 B1 hR
            go_wp2
            go_roundw
            case rel => exact ⟨j + 1, by omega, by go_num, (D2 _).out, (O2 _).out, (B2 _).out⟩
            case measure => simp [intOf]; omega
        · have hx := N.out fun q => k6 q.1
          rw [hx] at O2
          clear hx Y N D1 B1 hR
          go_wp2
          go_roundw
          case rel => exact ⟨j + 1, by omega, by go_num, (D2 _).out, (O2 _).out, (B2 _).out⟩
          case measure => simp [intOf]; omega
      · have hjn : j = n := by omega
        subst hjn
        rw [(WE 256).out] at O1
        go_wp2
        refine bodyPost_end (v := .tuple #[]) ?_ rfl ⟨rfl, D1.out, O1.out, B1.out⟩
        simp [results, Try.results23, go_sem]
  · have hvw : valW 2 = 65536 := rfl
    rw [hvw]
    clear hvw
    go_enter Try.func23, Try.ntmps23
    go_wp2_with fail
    refine WD.out.mono ?_
    rintro e w1 ⟨rfl, h1⟩
    have B1 : Hid (Below B w w1) := h1.mono (Nat.le_trans hB (Nat.le_of_lt SB.out))
    have D1 := Lib.hid (D0.out.below h1)
    have O1 := Lib.hid (O0.out.below h1)
    clear h1 D0 O0 d0 d1 WD
    obtain ⟨d0, d1, -, -⟩ := D1.out.cells
    go_wp2
    clear d0 d1
    go_loopw [20] (fun i wr => ∃ j : Nat, j ≤ n ∧ i = .int .i64 j ∧ Hid (Dr wr bd s (.slice A n cap)) ∧ Hid (OwnS wr B (.slice A n cap) (wL 65536 L j)) ∧ Hid (Below B w wr)) (fun i _ => n - (intOf i).toNat)
    case atStart => exact ⟨0, Nat.zero_le _, rfl, D1.out, O1.out, B1.out⟩
    case round =>
      clear D1 O1 B1
      obtain ⟨j, hj, rfl, D1, O1, B1⟩ := hrel
      by_cases hlt : j < n
      · have hj1 : j < L.length := by have := HN.out; omega
        have hj2 : j < (wL 65536 L j).length := by rw [hwl]; exact hlt
        obtain ⟨g, off, cap', hA, -, -, hR⟩ := O1.out.nonnil (by omega)
        simp only [Value.slice.injEq] at hA
        obtain ⟨rfl, -, -⟩ := hA
        obtain ⟨p0, p1, p2⟩ := hR.at_ j hj2
        rw [(AT 65536).out j hj1 hj2] at p0 p1 p2
        have hgb := hR.apart D1.out
        have hgl := hR.lt
        have fz := hR.frozen (off + j * 3 + 2)
        have Y := Lib.hid ((YES 65536).out j hj1)
        have N := Lib.hid ((NOT 65536).out j hj1)
        obtain ⟨⟨y0, y1, y2⟩, hy⟩ : ∃ y, L[j] = y := ⟨_, rfl⟩
        rw [hy] at p0 p1 p2 Y N
        simp only at p0 p1 p2 Y N
        obtain ⟨d0, d1, -, -⟩ := D1.out.cells
        have D2 := fun o => Lib.hid (D1.out.alloc o)
        have B2 := fun o => Lib.hid (B1.out.alloc (Nat.le_trans (Nat.le_trans hB (Nat.le_of_lt SB.out)) B1.out.size) o)
        have hgB : Hid (B ≤ g) := hR.1
        have hBr : Hid (B ≤ wr.heap.size) := Nat.le_trans (Nat.le_trans hB (Nat.le_of_lt SB.out)) B1.out.size
        have hR := Lib.hid hR
        have hne1 : g ≠ wr.heap.size := by omega
        have hne2 : bd ≠ wr.heap.size := by have := D1.out.lt; omega
        have O2 : ∀ o, Hid (OwnS (wr.alloc o) B (.slice (some ⟨g, off, none⟩) n cap) (wL 65536 L j)) := fun o => O1.out.alloc o
        clear hj1 hj2 hy O1
        by_cases k6 : y0 = 6
        · by_cases a1 : -32768 ≤ y2
          · by_cases a2 : y2 < 0
            · have hx := Y.out ⟨k6, by omega, a2⟩
              have R3 : ∀ o, Hid (OwnS ((wr.setCell ⟨g, off + j * 3 + 2, none⟩ (.int .i64 (y2 + 65536))).alloc o) B (.slice (some ⟨g, off, none⟩) n cap) (wL 65536 L (j + 1))) := fun o => by
                have h3 := hR.out.put (j * 3 + 2) _ hx
                rw [← Nat.add_assoc] at h3
                exact OwnS.alloc (.inr ⟨g, off, cap, by rw [hwl], by rw [hwl]; exact hlc, hcm, h3⟩) o
              have D3 : ∀ o, Hid (Dr ((wr.setCell ⟨g, off + j * 3 + 2, none⟩ (.int .i64 (y2 + 65536))).alloc o) bd s (.slice (some ⟨g, off, none⟩) n cap)) := fun o => (D1.out.other hgb _ _).alloc o
              have B3 : ∀ o, Hid (Below B w ((wr.setCell ⟨g, off + j * 3 + 2, none⟩ (.int .i64 (y2 + 65536))).alloc o)) := fun o => (B1.out.setCell (p := ⟨g, off + j * 3 + 2, none⟩) hgB.out _).alloc (by simp; exact hBr.out) o
              subst k6
              have e1 := (D2 (.cells #[.int .i64 6, .int .i64 y1, .int .i64 y2] 33)).out.cells.2.1
              have e2 : (wr.alloc (.cells #[.int .i64 6, .int .i64 y1, .int .i64 y2] 33)).cell? ⟨g, off + j * 3 + 2, none⟩ = some (.int .i64 y2) := (World.cell?_alloc_lt wr _ _ hgl).trans p2
              clear hx Y N O2 D2 B2 D1 B1 hR
              go_wp2
              go_roundw
              case rel => exact ⟨j + 1, by omega, by go_num, (D3 _).out, (R3 _).out, (B3 _).out⟩
              case measure => simp [intOf]; omega
            · have hx := N.out fun q => absurd q.2.2 (by omega)
              rw [hx] at O2
              subst k6
              clear hx Y N D1 B1 hR
              go_wp2
              go_roundw
              case rel => exact ⟨j + 1, by omega, by go_num, (D2 _).out, (O2 _).out, (B2 _).out⟩
              case measure => simp [intOf]; omega
          · have hx := N.out fun q => absurd q.2.1 (by omega)
            rw [hx] at O2
            subst k6
            clear hx Y N D1 B1 hR
            go_wp2
            go_roundw
            case rel => exact ⟨j + 1, by omega, by go_num, (D2 _).out, (O2 _).out, (B2 _).out⟩
            case measure => simp [intOf]; omega
        · have hx := N.out fun q => k6 q.1
          rw [hx] at O2
          clear hx Y N D1 B1 hR
          go_wp2
          go_roundw
          case rel => exact ⟨j + 1, by omega, by go_num, (D2 _).out, (O2 _).out, (B2 _).out⟩
          case measure => simp [intOf]; omega
      · have hjn : j = n := by omega
        subst hjn
        rw [(WE 65536).out] at O1
        go_wp2
        refine bodyPost_end (v := .tuple #[]) ?_ rfl ⟨rfl, D1.out, O1.out, B1.out⟩
        simp [results, Try.results23, go_sem]
end Go.Proofs.Ytbmgfkbgfgknbaa
