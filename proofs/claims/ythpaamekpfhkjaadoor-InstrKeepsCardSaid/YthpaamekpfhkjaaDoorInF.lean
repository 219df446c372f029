/-
  The walks over Shape and over the document's own Shape: the shape of an instruction, or nothing.
-/
import Derived.Test.YthpaamekpfhkjaaDoorInE
namespace Go.Proofs.YthpaamekpfhkjaaDoor
open Go.RowKit
set_option linter.unusedVariables false

set_option maxRecDepth 100000 in
set_option maxHeartbeats 4000000 in
theorem shape_any (s : ByteArray) (A : Option Addr) (cap : Nat) (L : List Tr) (hs : s.size ≤ 1000) (hL : L.length ≤ 1000) (w : World) (H : OpsP w A L) :
    Calls Tryd.prog 11 #[.agg #[.string s, .slice A L.length cap]] w fun e w' => e = .returned (.string (shpS s L)) ∧ Below w.heap.size w w' := by
  have X := Lib.hid H
  have CK := Lib.hid (check_any s A cap L (by unfold maxLen; omega) hL)
  have NO := Lib.hid (shp_no s L)
  have YES := Lib.hid (shp_yes s L)
  have SL := fun k => Lib.hid (shpK_le s L k)
  have SB := fun k => Lib.hid (sepB_le k)
  have CS := Lib.hid (code_short s L)
  obtain ⟨c, hc⟩ : ∃ c, codeI s L = c := ⟨_, rfl⟩
  rw [hc] at CK NO YES CS
  obtain ⟨n, hn⟩ : ∃ n, L.length = n := ⟨_, rfl⟩
  have HN := Lib.hid hn
  rw [hn] at hL CK YES CS ⊢
  have T0 := Lib.hid (Bx.new w s A n cap 24)
  have B0 : Hid (Below w.heap.size w (w.alloc (.cells #[.string s, .slice A n cap] 24))) := (Below.refl _ _).alloc (Nat.le_refl _) _
  have X0 := Lib.hid (H.below B0.out)
  obtain ⟨t0, t1⟩ := T0.out
  clear H hn hc
  go_enter Tryd.func11, Tryd.ntmps11
  go_wp2_with fail
  refine (CK.out _ X0.out).mono ?_
  rintro e w1 ⟨rfl, h1⟩
  have T1 := Lib.hid (T0.out.all h1)
  have B1 : Hid (Below w.heap.size w w1) := B0.out.trans (h1.mono (by simp))
  clear h1 CK t0 t1 X0 B0 T0
  by_cases hc0 : c = 0
  · subst hc0
    have hn3 := (CS.out rfl)
    obtain ⟨t0, t1⟩ := T1.out
    have BA := Lib.hid (Boxed.new w1 9 (.string s))
    have BC := Lib.hid (BA.out.alloc (.cells #[.string ⟨#[32]⟩] 9))
    have BD := Lib.hid (Boxed.new (w1.alloc (.cells #[.string s] 9)) 9 (.string ⟨#[32]⟩))
    have BB : Hid (Below w.heap.size w ((w1.alloc (.cells #[.string s] 9)).alloc (.cells #[.string ⟨#[32]⟩] 9))) := (B1.out.alloc B1.out.size _).alloc (by have := B1.out.size; simp; omega) _
    have hz := T1.out.lt
    have hz1 : w.heap.size ≠ w1.heap.size := by omega
    have hz2 : w.heap.size ≠ w1.heap.size + 1 := by omega
    have HZ := Lib.hid hz
    go_wp2
    clear hz hz1 hz2 t0 t1
    have hcl : ∃ bs bb, w1.heap.size = bs ∧ w1.heap.size + 1 = bb ∧ bs ≠ bb ∧ w.heap.size ≤ bs ∧ w.heap.size ≤ bb := ⟨_, _, rfl, rfl, by omega, by have := HZ.out; omega, by have := HZ.out; omega⟩
    obtain ⟨bs, bb, hbs, hbb, hne, hls, hlb⟩ := hcl
    have hbd : (w1.alloc (.cells #[.string s] 9)).heap.size = bb := by rw [← hbb]; simp
    have BC' : Hid (Boxed ((w1.alloc (.cells #[.string s] 9)).alloc (.cells #[.string ⟨#[32]⟩] 9)) bs 9 (.string s)) := hbs ▸ BC.out
    have BD' : Hid (Boxed ((w1.alloc (.cells #[.string s] 9)).alloc (.cells #[.string ⟨#[32]⟩] 9)) bb 9 (.string ⟨#[32]⟩)) := hbd ▸ BD.out
    rw [hbb, hbs]
    clear hbd BA BC BD T1 B1
    obtain ⟨w2, hw2⟩ : ∃ w2, (w1.alloc (.cells #[.string s] 9)).alloc (.cells #[.string ⟨#[32]⟩] 9) = w2 := ⟨_, rfl⟩
    rw [hw2] at BC' BD' BB ⊢
    have HNE := Lib.hid hne
    have HLS := Lib.hid hls
    have HLB := Lib.hid hlb
    clear hw2 hbs hbb HZ hne hls hlb
    go_loopw [17] (fun i wr => ∃ j : Nat, j ≤ n ∧ i = .int .i64 j ∧ Hid (Boxed wr bs 9 (.string (shpK s L j))) ∧ Hid (Boxed wr bb 9 (.string (sepB j))) ∧ Hid (Below w.heap.size w wr)) (fun i _ => n - (intOf i).toNat)
    case atStart => exact ⟨0, Nat.zero_le _, rfl, BC'.out, BD'.out, BB.out⟩
    case round =>
      clear BC' BD' BB
      obtain ⟨j, hj, rfl, R, S, B⟩ := hrel
      by_cases hlt : j < n
      · have hj1 : j < L.length := by have := HN.out; omega
        obtain ⟨b1, o1, hA1, -, p0, p1, p2⟩ := (X.out.below B.out).at_ hj1
        subst hA1
        have ST := Lib.hid (shpK_step s L j hj1)
        have h61 := (SL j).out
        obtain ⟨⟨y0, y1, y2⟩, hy⟩ : ∃ y, L[j] = y := ⟨_, rfl⟩
        rw [hy] at p0 p1 p2 ST
        simp only at p0 p1 p2 ST
        have RA := Lib.hid (R.out.alloc (.cells #[.int .i64 y0, .int .i64 y1, .int .i64 y2] 36))
        have SA := Lib.hid (S.out.alloc (.cells #[.int .i64 y0, .int .i64 y1, .int .i64 y2] 36))
        have CL := Lib.hid (closure_any bs bb (shpK s L j) (sepB j) y0 y1 y2 (by omega) (by rw [(SB j).out]; omega) HNE.out _ RA.out SA.out)
        rw [ST.out] at CL
        have BA : Hid (Below w.heap.size w (wr.alloc (.cells #[.int .i64 y0, .int .i64 y1, .int .i64 y2] 36))) := B.out.alloc B.out.size _
        clear hy hj1 ST h61 R S B RA SA
        go_wp2_with fail
        refine CL.out.mono ?_
        rintro e w3 ⟨⟨v, rfl⟩, h3, h4, h5⟩
        have R3 := Lib.hid h3
        have S3 : Hid (Boxed w3 bb 9 (.string (sepB (j + 1)))) := h4
        have B3 := Lib.hid (BA.out.trans (h5 w.heap.size HLS.out HLB.out))
        clear h3 h4 h5 CL BA
        go_wp2
        go_roundw
        case rel => exact ⟨j + 1, by omega, by go_num, R3.out, S3.out, B3.out⟩
        case measure => simp [intOf]; omega
      · have hjn : j = n := by omega
        subst hjn
        have E := Lib.hid (YES.out trivial)
        have c0 := R.out.cell
        go_wp2
        go_ret
        exact ⟨ret_str E.out, B.out⟩
  · have hc1 : (c == 0) = false := beq_eq_false_iff_ne.2 hc0
    have E := Lib.hid (NO.out hc0)
    go_wp2
    go_ret
    exact ⟨ret_str E.out, B1.out⟩
theorem shpK_step' (s : ByteArray) (L : List Tr) (k : Nat) (h : k < L.length) : shpK s L k ++ sepB k ++ mrkS L[k].1 L[k].2.1 L[k].2.2 = shpK s L (k + 1) := by
  rw [ByteArray.append_assoc]
  exact shpK_step s L k h
set_option maxRecDepth 100000 in
set_option maxHeartbeats 4000000 in
theorem rshape_any (s : ByteArray) (A : Option Addr) (cap : Nat) (L : List Tr) (hs : s.size ≤ 1000) (hL : L.length ≤ 1000) (w : World) (H : OpsP w A L) :
    Calls Tryd.prog 12 #[.agg #[.string s, .slice A L.length cap]] w fun e w' => e = .returned (.string (shpS s L)) ∧ Below w.heap.size w w' := by
  have X := Lib.hid H
  have CK := Lib.hid (rcheck_any s A cap L hL)
  have NO := Lib.hid (shp_no s L)
  have YES := Lib.hid (shp_yes s L)
  have SL := fun k => Lib.hid (shpK_le s L k)
  have CS := Lib.hid (code_short s L)
  obtain ⟨c, hc⟩ : ∃ c, codeI s L = c := ⟨_, rfl⟩
  rw [hc] at CK NO YES CS
  obtain ⟨n, hn⟩ : ∃ n, L.length = n := ⟨_, rfl⟩
  have HN := Lib.hid hn
  rw [hn] at hL CK YES CS ⊢
  have T0 := Lib.hid (Bx.new w s A n cap 24)
  have B0 : Hid (Below w.heap.size w (w.alloc (.cells #[.string s, .slice A n cap] 24))) := (Below.refl _ _).alloc (Nat.le_refl _) _
  have X0 := Lib.hid (H.below B0.out)
  obtain ⟨t0, t1⟩ := T0.out
  clear H hn hc
  go_enter Tryd.func12, Tryd.ntmps12
  go_wp2_with fail
  refine (CK.out _ X0.out).mono ?_
  rintro e w1 ⟨rfl, h1⟩
  have T1 := Lib.hid (T0.out.all h1)
  have B1 : Hid (Below w.heap.size w w1) := B0.out.trans (h1.mono (by simp))
  clear h1 CK t0 t1 X0 B0 T0
  by_cases hc0 : c = 0
  · subst hc0
    have hn3 := (CS.out rfl)
    obtain ⟨t0, t1⟩ := T1.out
    go_wp2
    clear t0 t1
    go_loopw [3, 4] (fun v i wr => ∃ j : Nat, j ≤ n ∧ i = .int .i64 j ∧ v = .string (shpK s L j) ∧ Hid (Bx wr w.heap.size s A n cap) ∧ Hid (Below w.heap.size w wr)) (fun _ i _ => n - (intOf i).toNat)
    case atStart => exact ⟨0, Nat.zero_le _, rfl, rfl, T1.out, B1.out⟩
    case round =>
      clear T1 B1
      obtain ⟨j, hj, rfl, rfl, T, B⟩ := hrel
      obtain ⟨t0, t1⟩ := T.out
      have h61 := (SL j).out
      by_cases hlt : j < n
      · have hj1 : j < L.length := by have := HN.out; omega
        obtain ⟨b1, o1, hA1, -, p0, p1, p2⟩ := (X.out.below B.out).at_ hj1
        subst hA1
        have ST := Lib.hid (shpK_step' s L j hj1)
        obtain ⟨⟨y0, y1, y2⟩, hy⟩ : ∃ y, L[j] = y := ⟨_, rfl⟩
        rw [hy] at p0 p1 p2 ST
        simp only at p0 p1 p2 ST
        have MK := Lib.hid (rmark_any y0 y1 y2)
        have hm := mrk_le y0 y1 y2
        obtain ⟨m, hmm⟩ : ∃ m, mrkS y0 y1 y2 = m := ⟨_, rfl⟩
        rw [hmm] at MK hm ST
        obtain ⟨z, hz⟩ : ∃ z, shpK s L (j + 1) = z := ⟨_, rfl⟩
        have HZ := Lib.hid hz
        rw [hz] at ST
        obtain ⟨q, hq⟩ : ∃ q, shpK s L j = q := ⟨_, rfl⟩
        rw [hq] at ST h61 ⊢
        clear hy hj1 hmm hz hq
        by_cases hj0 : j = 0
        · subst hj0
          have ST' : Hid (q ++ ⟨#[32]⟩ ++ m = z) := ST.out
          simp only [Nat.zero_mul, Nat.add_zero] at p0 p1 p2
          go_wp2_with fail
          refine (MK.out _).mono ?_
          rintro e w2 ⟨rfl, hb⟩
          have T2 := Lib.hid (T.out.all hb)
          have B2 := Lib.hid (B.out.trans (hb.mono B.out.size))
          clear hb MK T B t0 t1 p0 p1 p2
          go_wp2
          go_roundw
          case rel => exact ⟨1, by omega, by go_num, by rw [HZ.out, ST'.out], T2.out, B2.out⟩
          case measure => simp [intOf]; omega
        · have ST' : Hid (q ++ ⟨#[44]⟩ ++ m = z) := by
            have h := ST.out
            unfold sepB at h
            rw [if_neg hj0] at h
            exact h
          have hjz : ((j : Int) == 0) = false := beq_eq_false_iff_ne.2 (by omega)
          go_wp2_with fail
          refine (MK.out _).mono ?_
          rintro e w2 ⟨rfl, hb⟩
          have T2 := Lib.hid (T.out.all hb)
          have B2 := Lib.hid (B.out.trans (hb.mono B.out.size))
          clear hb MK T B t0 t1 p0 p1 p2
          go_wp2
          go_roundw
          case rel => exact ⟨j + 1, by omega, by go_num, by rw [HZ.out, ST'.out], T2.out, B2.out⟩
          case measure => simp [intOf]; omega
      · have hjn : j = n := by omega
        subst hjn
        have E := Lib.hid (YES.out trivial)
        go_wp2
        go_ret
        exact ⟨ret_str E.out, B.out⟩
  · have hc1 : (c == 0) = false := beq_eq_false_iff_ne.2 hc0
    have E := Lib.hid (NO.out hc0)
    go_wp2
    go_ret
    exact ⟨ret_str E.out, B1.out⟩
end Go.Proofs.YthpaamekpfhkjaaDoor
