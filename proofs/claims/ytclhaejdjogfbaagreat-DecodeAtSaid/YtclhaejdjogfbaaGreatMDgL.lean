/-
  DecodeAt: the walk over the law.
-/
import Derived.Test.YtclhaejdjogfbaaGreatGBA
import Derived.Test.YtclhaejdjogfbaaGreatGAV
set_option linter.all false
set_option maxRecDepth 100000
set_option maxHeartbeats 4000000
namespace Go.Proofs.YtclhaejdjogfbaaGreat
open Go.RowKit Go.Shelf
attribute [local go_sem] Oper.semAt_some
theorem walkDA (A : Option Addr) (cap : Nat) (b : Str) (at_ : Int) (w : World) (H : BytesAt w A b) (hc : b.length ≤ cap ∧ cap ≤ maxLen) (hM : MaxAt w) :
    Calls Tryz.prog 4 #[.slice A b.length cap, .int .i64 at_] w fun e w' => e = .returned (.bool true) ∧ Below w.heap.size w w' := by
  obtain ⟨l, hl⟩ : ∃ z, b.length = z := ⟨_, rfl⟩
  rw [hl] at hc ⊢
  have HL := Lib.hid hl
  have HM : Hid (∀ w', Below w.heap.size w w' → MaxAt w') := fun w' h => hM.below h
  have AL := Lib.hid (fun w' (h : Below w.heap.size w w') => alive12_any w' (hM.below h))
  have HH : Hid (∀ w', Below w.heap.size w w' → BytesAt w' A b) := fun w' h => H.below h
  by_cases hbig : 1000 < l
  · have t1 : ((l : Int) > 1000) := by omega
    have A0 := AL.out w (Below.refl _ _)
    clear H hM hl hc HL
    go_enter Tryz.func4, Tryz.ntmps4
    go_wp2_with fail
    refine A0.mono ?_
    rintro e w1 ⟨rfl, hb⟩
    have B1 := Lib.hid hb
    clear A0 hb
    go_wp2
    go_ret
    exact ⟨rfl, B1.out⟩
  have t1 : ¬ ((l : Int) > 1000) := by omega
  have DA := dat_any b A cap l hl hc.1 hc.2 (by omega) w H hM at_
  by_cases hout : at_ < 0 ∨ (l : Int) ≤ at_
  · have hx : at_ < 0 ∨ (¬ at_ < 0 ∧ at_ ≥ (l : Int)) := by omega
    clear H hM
    go_enter Tryz.func4, Tryz.ntmps4
    go_wp2_with fail
    refine DA.mono ?_
    rintro e w1 (⟨-, rfl, hb⟩ | ⟨k, rfl, hk, -⟩)
    rotate_left
    · exfalso; omega
    obtain ⟨y, wz, hy, hwz, S2, y2, z2⟩ := Fr.box (Fr.nil w1) #[.int .i64 0, .slice none 0 0, .string ⟨#[]⟩, .slice none 0 0, .bool false] 31
    have Iz : ItAt wz y 0 (.slice none 0 0) ⟨#[]⟩ (.slice none 0 0) false := S2.out.1
    obtain ⟨w2, hw2, I2, i2, -, -, -, -⟩ := Iz.put 0 (.slice none 0 0) ⟨#[]⟩ (.slice none 0 0) false
    obtain ⟨u0, u1, u2, u3, u4, u5⟩ := Iz.cells
    have B2 : Hid (Below w.heap.size w w2) := (hb.trans (y2.mono hb.size)).trans (i2.mono (by have := hb.size; omega))
    clear Iz i2
    have A2 := AL.out w2 B2.out
    have I2 := Lib.hid I2
    have SM := Lib.hid (fun w3 => rsame12_any 0 0 [] [] [] [] false false none none none none 0 0 0 0 [] [] (by decide) (by decide) w3 (.inl rfl) (.inl rfl) (.inl rfl) (.inl rfl))
    clear DA hb S2 y2 hout hl
    rcases hx with t2 | ⟨t2, t3⟩
    · go_wp2_with fail
      refine A2.mono ?_
      rintro e w3 ⟨rfl, hb⟩
      have B3 : Hid (Below w.heap.size w w3) := B2.out.trans (hb.mono B2.out.size)
      obtain ⟨j0, j1, j2, j3, j4, j5⟩ := (I2.out.all hb).cells
      have SM3 := SM.out w3
      simp only [decide_true, Bool.and_self, List.length_nil] at SM3
      clear A2 hb I2 SM B2
      go_wp2_with fail
      refine SM3.mono ?_
      rintro e w4 ⟨rfl, hb⟩
      have B4 : Hid (Below w.heap.size w w4) := B3.out.trans (hb.mono B3.out.size)
      clear SM3 hb B3
      go_wp2
      go_ret
      exact ⟨rfl, B4.out⟩
    · go_wp2_with fail
      refine A2.mono ?_
      rintro e w3 ⟨rfl, hb⟩
      have B3 : Hid (Below w.heap.size w w3) := B2.out.trans (hb.mono B2.out.size)
      obtain ⟨j0, j1, j2, j3, j4, j5⟩ := (I2.out.all hb).cells
      have SM3 := SM.out w3
      simp only [decide_true, Bool.and_self, List.length_nil] at SM3
      clear A2 hb I2 SM B2
      go_wp2_with fail
      refine SM3.mono ?_
      rintro e w4 ⟨rfl, hb⟩
      have B4 : Hid (Below w.heap.size w w4) := B3.out.trans (hb.mono B3.out.size)
      clear SM3 hb B3
      go_wp2
      go_ret
      exact ⟨rfl, B4.out⟩
  · obtain ⟨k, rfl⟩ : ∃ k : Nat, at_ = k := ⟨at_.toNat, by omega⟩
    have hkl : k < l := by omega
    obtain ⟨g, off, rfl, -⟩ := H.cellAt (j := k) (by omega)
    have hdl : (b.drop k).length = l - k := by rw [List.length_drop, hl]
    have hne : b.drop k ≠ [] := fun e => by
      rw [e] at hdl
      simp at hdl
      omega
    have RF : Hid (∀ w', Below w.heap.size w w' → Calls Tryz.prog 12 #[.slice (some ⟨g, off + k, none⟩) (l - k) (cap - k)] w' (RetIt w' (itR (b.drop k)))) := fun w' h =>
      rfirst12_any (b.drop k) hne _ (cap - k) (l - k) hdl (by omega) (by omega) (by omega) w' ((drop_at2 H k).below h)
    have hC3 := itC_le (b.drop k)
    have t2 : ¬ ((k : Int) < 0) := by omega
    have t3 : ¬ ((k : Int) ≥ (l : Int)) := by omega
    have DA : Calls Tryz.prog 15 #[.slice (some ⟨g, off, none⟩) l cap, .int .i64 (k : Int)] w fun e w' => ∃ A c B c2, e = .returned (.tuple #[.agg #[.int .i64 (itR (b.drop k)).kind, .slice A (itR (b.drop k)).raw.length c, .string (sB (itR (b.drop k)).m), .slice B (itR (b.drop k)).C.length c2, .bool (itR (b.drop k)).al], .int .i64 ((k + (itR (b.drop k)).raw.length : Nat) : Int), .bool true]) ∧
        TOwnB w' w.heap.size (.slice A (itR (b.drop k)).raw.length c) (itR (b.drop k)).raw ∧ OwnT w' w.heap.size (.slice B (itR (b.drop k)).C.length c2) (itR (b.drop k)).C ∧ Below w.heap.size w w' := by
      refine DA.mono ?_
      rintro e w' (⟨h, -⟩ | ⟨k', hk', -, h⟩)
      · exfalso; omega
      · obtain rfl : k' = k := by omega
        exact h
    have hrl := raw_le (b.drop k)
    rw [hdl] at hrl
    obtain ⟨x, hx⟩ : ∃ z, itR (b.drop k) = z := ⟨_, rfl⟩
    rw [hx] at DA RF hC3 hrl
    clear H hM hl hout hdl hne hx HH
    go_enter Tryz.func4, Tryz.ntmps4
    go_wp2_with fail
    refine DA.mono ?_
    rintro e w1 ⟨A1, c1, D1, d1, rfl, hO, hT, hb⟩
    obtain ⟨y, w2, hy, hw2, S2, y2, z2⟩ := Fr.box (Fr.nil w1) #[.int .i64 x.kind, .slice A1 x.raw.length c1, .string (sB x.m), .slice D1 x.C.length d1, .bool x.al] 31
    have I2 : ItAt w2 y x.kind (.slice A1 x.raw.length c1) (sB x.m) (.slice D1 x.C.length d1) x.al := S2.out.1
    have B2 := Lib.hid (hb.trans (y2.mono hb.size))
    have BA1 := Lib.hid ((hO.bytesP).below y2)
    have OP1 := Lib.hid ((hT.opsP).below y2)
    have RF2 := RF.out w2 B2.out
    have I2 := Lib.hid I2
    clear DA hb S2 y2 hO hT RF
    go_wp2_with fail
    refine RF2.mono ?_
    rintro e w3 ⟨A3, c3, D3, d3, rfl, hO, hT, hb⟩
    obtain ⟨y3, w4, hy3, hw4, S4, yy4, z4⟩ := Fr.box (Fr.nil w3) #[.int .i64 x.kind, .slice A3 x.raw.length c3, .string (sB x.m), .slice D3 x.C.length d3, .bool x.al] 31
    have I4 : ItAt w4 y3 x.kind (.slice A3 x.raw.length c3) (sB x.m) (.slice D3 x.C.length d3) x.al := S4.out.1
    have J4 := Lib.hid ((I2.out.all hb).all yy4)
    have B4 : Hid (Below w.heap.size w w4) := B2.out.trans ((hb.trans (yy4.mono hb.size)).mono B2.out.size)
    have BA1 := Lib.hid ((BA1.out.below hb).below yy4)
    have OP1 := Lib.hid ((OP1.out.below hb).below yy4)
    have BA3 := Lib.hid ((hO.bytesP).below yy4)
    have OP3 := Lib.hid ((hT.opsP).below yy4)
    have A4 := AL.out w4 B4.out
    have I4 := Lib.hid I4
    clear RF2 hb S4 yy4 hO hT I2 B2
    go_wp2_with fail
    refine A4.mono ?_
    rintro e w5 ⟨rfl, hb⟩
    have B5 : Hid (Below w.heap.size w w5) := B4.out.trans (hb.mono B4.out.size)
    have SM := rsame12_any x.kind x.kind x.raw x.raw x.m x.m x.al x.al A1 A3 D1 D3 c1 c3 d1 d3 x.C x.C (by omega) (by omega) w5 (BA1.out.below hb) (BA3.out.below hb) (OP1.out.below hb) (OP3.out.below hb)
    simp only [decide_true, Bool.and_self, beq_self_eq_true] at SM
    obtain ⟨j0, j1, j2, j3, j4, j5⟩ := (I4.out.all hb).cells
    obtain ⟨k0, k1, k2, k3, k4, k5⟩ := (J4.out.all hb).cells
    have I5 := Lib.hid (I4.out.all hb)
    clear A4 hb B4 J4 I4 BA1 BA3 OP1 OP3
    go_wp2_with fail
    refine SM.mono ?_
    rintro e w6 ⟨rfl, hb⟩
    have B6 : Hid (Below w.heap.size w w6) := B5.out.trans (hb.mono B5.out.size)
    obtain ⟨-, f1, -, -, -, -⟩ := (I5.out.all hb).cells
    obtain ⟨rl, hrl2⟩ : ∃ z, x.raw.length = z := ⟨_, rfl⟩
    rw [hrl2] at f1 hrl
    have HR := Lib.hid hrl2
    have te : (((k + rl : Nat) : Int) == ((k : Int) + (rl : Int))) = true := beq_iff_eq.2 (by omega)
    clear SM hb B5 I5 j0 j1 j2 j3 j4 j5 k0 k1 k2 k3 k4 k5
    go_wp2
    go_ret
    exact ⟨rfl, B6.out⟩
end Go.Proofs.YtclhaejdjogfbaaGreat
