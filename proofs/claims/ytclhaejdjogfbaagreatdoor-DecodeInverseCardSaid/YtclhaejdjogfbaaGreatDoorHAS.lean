/-
  DgG, DgH, DgI, DgK, DgM, DfE, DfF, SeRd, CnW.
-/
import Derived.Test.YtclhaejdjogfbaaGreatDoorHAR
import Derived.Defers
import Derived.Recover
import Derived.Test.YtclhaejdjogfbaaGreatDoorHAP
import Derived.Test.YtclhaejdjogfbaaGreatDoorWSeN
import Derived.Deep.QuietTactic
import Derived.BigQuiet
import Derived.Deep.DeepCutAuto
import Derived.Deep.Cut
import Derived.Test.YtclhaejdjogfbaaGreatDoorHAA
set_option linter.all false
set_option maxRecDepth 100000
set_option maxHeartbeats 4000000
namespace Go.Proofs.YtclhaejdjogfbaaGreatDoor
open Go.RowKit Go.Shelf
attribute [local go_sem] Oper.semAt_some
attribute [local irreducible] Go.MixE.wpMixE
def cntD (D : Nat) (w : World) : Nat := match w.cell? ⟨D, 1, none⟩ with
  | some v => (intOf v).toNat
  | none => 0
theorem Dec.cnt {w0 w : World} {D : Nat} {S : Value} {k : Nat} {p nd d n : Int} (h : Dec w0 D S w k p nd d n) : cntD D w = k := by
  unfold cntD
  rw [h.cells.2.1]
  simp [intOf]
theorem pre_kk {p : Int} (hp : 0 ≤ p ∧ p ≤ 6) : (preS p).length ≤ 2 ∧ kkP p ≤ 4 := by
  rcases page_cases hp with rfl | rfl | rfl | rfl | rfl | rfl | rfl <;> exact ⟨by decide, by decide⟩
def RetWh (w0 : World) (D : Nat) (S : Value) (b : Str) (l : Nat) (w : World) (e : Ending) (w' : World) : Prop :=
  ((itR b).kind ≠ 4 ∧ (∃ B c2, e = .returned (.agg #[.int .i64 (itR b).kind, .slice none 0 0, .string (sB (itR b).m), .slice B (itR b).C.length c2, .bool (itR b).al]) ∧ OwnT w' w.heap.size (.slice B (itR b).C.length c2) (itR b).C) ∧ (∃ k p nd d n, k ≤ l ∧ (itR b).raw = b.take k ∧ Dec w0 D S w' k p nd d n) ∧ DK D w w') ∨
  (itR b = iteO 4 b ∧ ∃ p, DMiss w0 D S w e w' l p (needR b : Nat))
theorem RetWh.put {w0 w w2 w3 : World} {D : Nat} {S : Value} {b : Str} {l I : Nat} {v : Value} {kind : Int} {va vb : Value} {s : ByteArray} {al : Bool} (h : RetWh w0 D S b l w (.returned v) w2) (hI : ItAt w2 I kind va s vb al) (hDI : D < I) (hwI : w.heap.size ≤ I) (i2 : Below I w2 w3) (i6 : ∀ k, k ≠ I → w3.heap[k]? = w2.heap[k]?) : RetWh w0 D S b l w (.returned v) w3 := by
  rcases h with ⟨h1, ⟨B, c2, h2, h3⟩, ⟨k, p, nd, d, n, h4, h5, h6⟩, h7⟩ | ⟨h1, p, h2, h3⟩
  · exact .inl ⟨h1, ⟨B, c2, h2, it_ownT hI h3 i6⟩, ⟨k, p, nd, d, n, h4, h5, ⟨(i2.block D hDI).trans h6.blk, h6.bel.trans (i2.mono (by omega))⟩⟩, ⟨Nat.le_trans h7.size i2.size, fun k hk hb => (i6 k (by omega)).trans (h7.same k hk hb)⟩⟩
  · cases h2
theorem whole_none {w0 w w' : World} {D : Nat} {S : Value} {b : Str} {l : Nat} (kind : Int) (hk4 : kind ≠ 4) (k : Nat) (hk : k ≤ l) (hi : itR b = iteO kind (b.take k)) {p nd d n : Int} (X : Dec w0 D S w' k p nd d n) (K : DK D w w') :
    RetWh w0 D S b l w (.returned (.agg #[.int .i64 kind, .slice none 0 0, .string ⟨#[]⟩, .slice none 0 0, .bool false])) w' := by
  refine .inl ⟨by rw [hi]; exact hk4, ⟨none, 0, by rw [hi]; rfl, by rw [hi]; exact ownT_nil _ _⟩, ⟨k, p, nd, d, n, hk, by rw [hi]; rfl, X⟩, K⟩
theorem whole_code {w0 w w1 w' : World} {D : Nat} {S : Value} {b : Str} {l : Nat} (hl : b.length = l) (hwb : w.heap.size ≤ w1.heap.size) (K : DK D w w1) {p : Int} {o : UInt8} {t : Str} {x : En} {C : List Tr} {e : Ending}
    (hd : hdB b = some (p, o, t)) (hx : ratT p o.toNat = some x) (hC : fillV x.2.2.1 x.2.1 (numB x.2.2.1 t).1 (numB x.2.2.1 t).2 = some C) (hsz : kkP p + sumN (behS p x.2.2.1) (behS p x.2.2.1).length = sizeT p x.2.2.1)
    (R : RetDI w0 D S b l w1 (kkP p) p (sizeT p x.2.2.1 : Nat) (behS p x.2.2.1) x.1 C x.2.2.2 e w') : RetWh w0 D S b l w e w' := by
  have hi := it_of hd
  have hn := need_some hd
  rw [hx] at hi hn
  simp only at hi hn
  rcases R with ⟨h1, ⟨B, c2, h2, h3⟩, ⟨d, n, h4⟩, h5⟩ | ⟨h1, h2⟩
  · rw [hsz] at h1 h4
    rw [if_neg (by omega), hC] at hi
    have ek : (itR b).kind = 1 := by rw [hi]
    have er : (itR b).raw = b.take (sizeT p x.2.2.1) := by rw [hi]
    have em : (itR b).m = x.1 := by rw [hi]
    have ec : (itR b).C = C := by rw [hi]; rfl
    have ea : (itR b).al = x.2.2.2 := by rw [hi]
    refine .inl ⟨by rw [ek]; decide, ⟨B, c2, ?_, ?_⟩, ⟨_, _, _, _, _, h1, er, h4⟩, K.trans h5⟩
    · rw [ek, em, ec, ea]; exact h2
    · rw [ec]; exact row_mono h3 hwb
  · rw [hsz] at h1
    rw [if_pos (by omega)] at hi
    refine .inr ⟨hi, p, ?_⟩
    rw [hn]
    exact ⟨h2.1, h2.2.1, K.trans h2.2.2⟩
theorem whole_any {w0 : World} {D : Nat} {b : Str} {A : Option Addr} {l cap : Nat} (H : DH w0 D b A l cap) (hM : MaxAt w0) {w : World} {nd : Int} (X : Dec w0 D (.slice A l cap) w 0 0 nd 0 0) :
    Calls Tryz.prog 42 #[.pointer (some ⟨D, 0, none⟩)] w (RetWh w0 D (.slice A l cap) b l w) := by
  have hl := H.hl
  obtain ⟨S, hS⟩ : ∃ z, Value.slice A l cap = z := ⟨_, rfl⟩
  have OP := Lib.hid (fun w (p nd d n : Int) hk X hp => opcode_any H (w := w) (p := p) (nd := nd) (d := d) (n := n) hk X hp)
  have TK := Lib.hid (fun w k (p nd d n : Int) hk X => taken_any H (w := w) (k := k) hk (p := p) (nd := nd) (d := d) (n := n) X)
  have KF := Lib.hid (fun w k (p nd d n : Int) hk X => keep_any H (w := w) (k := k) hk (p := p) (nd := nd) (d := d) (n := n) X)
  have IN := Lib.hid (fun w k (p nd d n : Int) hk X i ex hx op m hm hup Ae ne ce L hne hne2 al B hB O C hC => dinstr_any H (w := w) (k := k) hk (p := p) (nd := nd) (d := d) (n := n) X (i := i) (ex := ex) hx op m hm hup Ae ne ce L hne hne2 al B hB O C hC)
  have MX : Hid (∀ w1, Below D w0 w1 → MaxAt w1) := fun w1 h => hM.belowN h (Nat.lt_of_lt_of_le hM.lt H.hD)
  have hl2 := H.hl2
  rw [hS] at X OP TK KF IN ⊢
  have HL := Lib.hid hl
  obtain ⟨I, hI⟩ : ∃ z, w.heap.size = z := ⟨_, rfl⟩
  obtain ⟨wI, hwI, I0, yI, zI⟩ := it_start w I hI
  have XI := Lib.hid (X.all yI)
  have KI := Lib.hid (DK.of_below (D := D) yI)
  have hDI : D < I := by rw [← hI]; exact X.lt
  have UP : Hid (∀ wz, DK D wI wz → ItAt wz I 0 (.slice none 0 0) ⟨#[]⟩ (.slice none 0 0) false ∧ DK D w wz) := fun wz K => ⟨K.blk I0 (by omega), KI.out.trans K⟩
  have HI := Lib.hid hI
  clear H hM X I0 yI KI hS hl
  go_enter Tryz.func42, Tryz.ntmps42
  go_wp2
  go_loopw [] (fun wr => ∃ (p : Int) (r : Str) (nd : Int), (0 ≤ p ∧ p ≤ 6) ∧ Hid (b = preS p ++ r) ∧ Hid (Dec w0 D S wr (preS p).length p nd 0 0 ∧ DK D wI wr)) (fun wr => 3 - cntD D wr)
  case atStart => exact ⟨0, b, nd, ⟨by decide, by decide⟩, rfl, ⟨XI.out, DK.refl _ _⟩⟩
  case round =>
    obtain ⟨p, r, nd, hp, HB, XK⟩ := hrel
    obtain ⟨hk2, hkk4⟩ := pre_kk hp
    have hkl : (preS p).length ≤ l := by
      have h := congrArg List.length HB.out
      rw [List.length_append, HL.out] at h
      omega
    have hcnt : cntD D wr = (preS p).length := XK.out.1.cnt
    have MB : Hid (l < kkP p → itR b = iteO 4 b ∧ needR b = kkP p) := fun h => missB hp HB.out (by rw [HL.out]; exact h)
    have OPP := fun w1 X => OP.out w1 p nd 0 0 hkl X hp
    have X1 := XK.out.1
    obtain ⟨o, ho⟩ : ∃ z, b.getD (kkP p - 1) 0 = z := ⟨_, rfl⟩
    have HA : Hid (kkP p ≤ l → ∃ t, (p ≤ 4 → b = preS p ++ o :: t ∧ b.drop (kkP p) = t) ∧ (5 ≤ p → hdB b = some (p, o, t) ∧ ∃ u, t = b.getD (preS p).length 0 :: u)) := fun h => by
      obtain ⟨o', t, h1, h2⟩ := hasB hp HB.out (by rw [HL.out]; exact h)
      rw [ho] at h1
      subst h1
      exact ⟨t, h2⟩
    obtain ⟨kk, hkk⟩ : ∃ z, kkP p = z := ⟨_, rfl⟩
    obtain ⟨dd, hdd⟩ : ∃ z, ddP b p 0 = z := ⟨_, rfl⟩
    obtain ⟨q, hq⟩ : ∃ z, (preS p).length = z := ⟨_, rfl⟩
    rw [ho] at OPP
    rw [hkk] at OPP MB hkk4
    rw [hdd] at OPP
    rw [hq] at OPP X1 hcnt hk2 hkl
    have OPP := Lib.hid OPP
    have HO := Lib.hid ho
    have HKK := Lib.hid hkk
    have HDD := Lib.hid hdd
    have HQ := Lib.hid hq
    have MS : Hid (∀ w5, l < kk → (∃ d n, Dec w0 D S w5 l p kk d n) → DK D wr w5 → RetWh w0 D S b l w (.panicked missE) w5) := fun w5 h h1 h2 => by
      obtain ⟨m1, m2⟩ := MB.out h
      exact .inr ⟨m1, p, rfl, by rw [m2]; exact h1, (UP.out w5 (XK.out.2.trans h2)).2⟩
    have hDr : D < wr.heap.size := X1.lt
    have X1 := Lib.hid X1
    have KR : Hid (DK D wI wr) := XK.out.2
    clear ho hkk hdd hq MB XK
    go_upto_region 1 with fail
    go_cut [3, 4] (fun pe pk wx => ∃ (c : Nat) (pp oo : Int) (m : Str) (Av : Option Addr) (nv cv : Nat) (ex : Str) (al : Bool) (kd : Int), pe = .pointer (some ⟨c, 0, none⟩) ∧ pk = .int .i64 kd ∧ Hid (kk ≤ l ∧ wx.heap[c]? = some (.cells #[.int .i64 pp, .int .u8 oo, .string (sB m), .slice Av nv cv, .string (sB ex), .bool al] 47 (0, 0)) ∧ Dec w0 D S wx kk p kk dd 0 ∧ DK D wr wx ∧
      (∀ x, ratT p o.toNat = some x → kd = 1 ∧ pp = p ∧ oo = (o.toNat : Int) ∧ m = x.1 ∧ ex = x.2.2.1 ∧ al = x.2.2.2 ∧ nv = x.2.1.length ∧ OwnT wx (D + 1) (.slice Av nv cv) x.2.1) ∧ (ratT p o.toNat = none → kd = rkindT p o.toNat)))
    case first =>
      obtain ⟨w4, hw4⟩ : ∃ z, wr.drew = z := ⟨_, rfl⟩
      have dq : Below wr.heap.size wr w4 := by rw [← hw4]; exact below_drewN wr _ 1
      have X4 := Lib.hid (X1.out.all dq)
      have K4 := Lib.hid (DK.of_below (D := D) dq)
      have z4 : wr.heap.size ≤ w4.heap.size := dq.size
      refine MixE.wp_region_mixedE (fun w' => w'.cell? ⟨D, 2, none⟩ = some (.int .i64 p)) (fun ch ds w' => ds = [] ∧ RetWh w0 D S b l w (.panicked ch) w') 12
        (.pure 0 (.pure 1 (.pure 2 (.pure 3 (.pure 4 (.two 5 (.two 6 (.pure 7 (.pure 8 (.pure 9 (.one 10 (.one 11 .done))))) 10 (.one 6 (.pure 7 (.pure 8 (.pure 9 (.one 11 .done)))))) 10 (.one 5 (.one 6 (.pure 7 (.pure 8 (.pure 9 (.one 11 .done)))))))))))) (by kernel_rfl) (by kernel_rfl) (by rw [hw4]; exact X4.out.cells.2.2.1) (fun ch a w h => ⟨h.1, h.2⟩) ?_
      rw [hw4]
      clear hw4 dq
      refine MixE.wpMixE_pure rfl (by kernel_rfl) (.pointer (some ⟨D, 0, none⟩)) (fun w h => by clear h; go_simp; try rfl) ?_
      refine MixE.wpMixE_pure rfl (by kernel_rfl) (.pointer (some ⟨D, 0, none⟩)) (fun w h => by clear h; go_simp; try rfl) ?_
      refine MixE.wpMixE_pure rfl (by kernel_rfl) (.pointer (some ⟨D, 2, none⟩)) (fun w h => by clear h; go_simp; try rfl) ?_
      refine MixE.wpMixE_pure rfl (by kernel_rfl) (.int .i64 p) (fun w h => by go_simp; try rfl) ?_
      refine MixE.wpMixE_pure rfl (by kernel_rfl) (.pointer (some ⟨D, 0, none⟩)) (fun w h => by clear h; go_simp; try rfl) ?_
      refine MixE.wpMixE_both rfl (by kernel_rfl) rfl (by kernel_rfl) ?_ ?_
      · go_wp2_with fail
        refine (OPP.out w4 X4.out).mono ?_
        rintro e w5 (⟨h, rfl, h1, h2⟩ | ⟨h, rfl, h1, h2⟩)
        rotate_left
        · exact ⟨rfl, MS.out w5 h h1 (K4.out.trans h2)⟩
        have hkl5 := Lib.hid h
        have X4 := Lib.hid h1
        have K4 := Lib.hid (K4.out.trans h2)
        have z5 : wr.heap.size ≤ w5.heap.size := K4.out.size
        clear h h1 h2
        go_wp2
        refine ⟨X4.out.cells.2.2.1, ?_⟩
        refine MixE.wpMixE_both rfl (by kernel_rfl) rfl (by kernel_rfl) ?_ ?_
        · go_wp2_with fail
          refine (tat2_any p o w5 (MX.out w5 X4.out.bel)).mono ?_
          rintro e w6 ⟨pp, oo, m, Av, nv, cv, ex, al, kd, rfl, hb, f1, f2⟩
          have zz : D + 1 ≤ w5.heap.size := X4.out.lt
          have FE : Hid ((∀ x, ratT p o.toNat = some x → kd = 1 ∧ pp = p ∧ oo = (o.toNat : Int) ∧ m = x.1 ∧ ex = x.2.2.1 ∧ al = x.2.2.2 ∧ nv = x.2.1.length ∧ OwnT w6 (D + 1) (.slice Av nv cv) x.2.1) ∧ (ratT p o.toNat = none → kd = rkindT p o.toNat)) := ⟨fun x hx => by
            obtain ⟨g1, g2, g3, g4, g5, g6, g7, g8⟩ := f1 x hx
            exact ⟨g1, g2, g3, g4, g5, g6, g7, row_mono g8 zz⟩, f2⟩
          have X4 := Lib.hid (X4.out.all hb)
          have K4 := Lib.hid (K4.out.trans (DK.of_below hb))
          clear hb f1 f2 zz
          go_wp2
          refine ⟨X4.out.cells.2.2.1, ?_⟩
          refine MixE.wpMixE_pure rfl (by kernel_rfl) (.tuple #[.agg #[.int .i64 pp, .int .u8 oo, .string (sB m), .slice Av nv cv, .string (sB ex), .bool al], .int .i64 kd]) (fun w h => by clear h; go_simp; try rfl) ?_
          refine MixE.wpMixE_pure rfl (by kernel_rfl) (.agg #[.int .i64 pp, .int .u8 oo, .string (sB m), .slice Av nv cv, .string (sB ex), .bool al]) (fun w h => by clear h; go_simp; try rfl) ?_
          refine MixE.wpMixE_pure rfl (by kernel_rfl) (.int .i64 kd) (fun w h => by clear h; go_simp; try rfl) ?_
          refine MixE.wpMixE_loud rfl (by kernel_rfl) ?_
          obtain ⟨c, w7, hc, hwa, SB, yb, zb⟩ := Fr.box (Fr.nil w6) #[.int .i64 0, .int .u8 0, .string ⟨#[]⟩, .slice none 0 0, .string ⟨#[]⟩, .bool false] 47
          have bx : Hid (w7.heap[c]? = some (.cells #[.int .i64 0, .int .u8 0, .string ⟨#[]⟩, .slice none 0 0, .string ⟨#[]⟩, .bool false] 47 (0, 0))) := SB.out.1
          have FE : Hid ((∀ x, ratT p o.toNat = some x → kd = 1 ∧ pp = p ∧ oo = (o.toNat : Int) ∧ m = x.1 ∧ ex = x.2.2.1 ∧ al = x.2.2.2 ∧ nv = x.2.1.length ∧ OwnT w7 (D + 1) (.slice Av nv cv) x.2.1) ∧ (ratT p o.toNat = none → kd = rkindT p o.toNat)) := ⟨fun x hx => by
            obtain ⟨g1, g2, g3, g4, g5, g6, g7, g8⟩ := FE.out.1 x hx
            exact ⟨g1, g2, g3, g4, g5, g6, g7, g8.below yb⟩, FE.out.2⟩
          have hcr : wr.heap.size ≤ c := by have := K4.out.size; omega
          have X4 := Lib.hid (X4.out.all yb)
          have K4 := Lib.hid (K4.out.trans (DK.of_below yb))
          clear SB yb zb
          go_wp2
          refine ⟨X4.out.cells.2.2.1, ?_⟩
          refine MixE.wpMixE_loud rfl (by kernel_rfl) ?_
          obtain ⟨wz, hwz, a1, a2, a3, a4⟩ := ent_put X4.out K4.out hDr bx.out hcr #[.int .i64 pp, .int .u8 oo, .string (sB m), .slice Av nv cv, .string (sB ex), .bool al]
          refine wpList_store_row rfl 47 _ _ rfl c #[.int .i64 pp, .int .u8 oo, .string (sB m), .slice Av nv cv, .string (sB ex), .bool al] rfl rfl _ _ bx.out (by kernel_rfl) (by kernel_rfl) (by kernel_rfl) ?_
          rw [hwz]
          have F : Hid (kk ≤ l ∧ wz.heap[c]? = some (.cells #[.int .i64 pp, .int .u8 oo, .string (sB m), .slice Av nv cv, .string (sB ex), .bool al] 47 (0, 0)) ∧ Dec w0 D S wz kk p kk dd 0 ∧ DK D wr wz ∧
            (∀ x, ratT p o.toNat = some x → kd = 1 ∧ pp = p ∧ oo = (o.toNat : Int) ∧ m = x.1 ∧ ex = x.2.2.1 ∧ al = x.2.2.2 ∧ nv = x.2.1.length ∧ OwnT wz (D + 1) (.slice Av nv cv) x.2.1) ∧ (ratT p o.toNat = none → kd = rkindT p o.toNat)) := ⟨hkl5.out, a1, a2, a3, fun x hx => by
              obtain ⟨g1, g2, g3, g4, g5, g6, g7, g8⟩ := FE.out.1 x hx
              exact ⟨g1, g2, g3, g4, g5, g6, g7, a4 _ _ _ g8⟩, FE.out.2⟩
          refine ⟨a2.cells.2.2.1, ?_⟩
          clear hwz a1 a2 a3 a4 X4 K4 FE bx
          simp only [MixE.wpMixE, List.drop_succ_cons, List.drop_zero]
          go_wp2
          go_meet
          exact ⟨c, pp, oo, m, Av, nv, cv, ex, al, kd, rfl, rfl, F⟩
        · obtain ⟨c, w6, hc, hwa, SB, yb, zb⟩ := Fr.box (Fr.nil w5) #[.int .i64 0, .int .u8 0, .string ⟨#[]⟩, .slice none 0 0, .string ⟨#[]⟩, .bool false] 47
          have bx : Hid (w6.heap[c]? = some (.cells #[.int .i64 0, .int .u8 0, .string ⟨#[]⟩, .slice none 0 0, .string ⟨#[]⟩, .bool false] 47 (0, 0))) := SB.out.1
          have hcr : wr.heap.size ≤ c := by have := K4.out.size; omega
          have X4 := Lib.hid (X4.out.all yb)
          have K4 := Lib.hid (K4.out.trans (DK.of_below yb))
          clear SB yb zb
          go_wp2
          refine ⟨X4.out.cells.2.2.1, ?_⟩
          refine MixE.wpMixE_loud rfl (by kernel_rfl) ?_
          go_wp2_with fail
          refine (tat2_any p o w6 (MX.out w6 X4.out.bel)).mono ?_
          rintro e w7 ⟨pp, oo, m, Av, nv, cv, ex, al, kd, rfl, hb, f1, f2⟩
          have zz : D + 1 ≤ w6.heap.size := X4.out.lt
          have FE : Hid ((∀ x, ratT p o.toNat = some x → kd = 1 ∧ pp = p ∧ oo = (o.toNat : Int) ∧ m = x.1 ∧ ex = x.2.2.1 ∧ al = x.2.2.2 ∧ nv = x.2.1.length ∧ OwnT w7 (D + 1) (.slice Av nv cv) x.2.1) ∧ (ratT p o.toNat = none → kd = rkindT p o.toNat)) := ⟨fun x hx => by
            obtain ⟨g1, g2, g3, g4, g5, g6, g7, g8⟩ := f1 x hx
            exact ⟨g1, g2, g3, g4, g5, g6, g7, row_mono g8 zz⟩, f2⟩
          have bx := Lib.hid ((hb.block c (Array.getElem?_eq_some_iff.1 bx.out).1).trans bx.out)
          have X4 := Lib.hid (X4.out.all hb)
          have K4 := Lib.hid (K4.out.trans (DK.of_below hb))
          clear hb f1 f2 zz
          go_wp2
          refine ⟨X4.out.cells.2.2.1, ?_⟩
          refine MixE.wpMixE_pure rfl (by kernel_rfl) (.tuple #[.agg #[.int .i64 pp, .int .u8 oo, .string (sB m), .slice Av nv cv, .string (sB ex), .bool al], .int .i64 kd]) (fun w h => by clear h; go_simp; try rfl) ?_
          refine MixE.wpMixE_pure rfl (by kernel_rfl) (.agg #[.int .i64 pp, .int .u8 oo, .string (sB m), .slice Av nv cv, .string (sB ex), .bool al]) (fun w h => by clear h; go_simp; try rfl) ?_
          refine MixE.wpMixE_pure rfl (by kernel_rfl) (.int .i64 kd) (fun w h => by clear h; go_simp; try rfl) ?_
          refine MixE.wpMixE_loud rfl (by kernel_rfl) ?_
          obtain ⟨wz, hwz, a1, a2, a3, a4⟩ := ent_put X4.out K4.out hDr bx.out hcr #[.int .i64 pp, .int .u8 oo, .string (sB m), .slice Av nv cv, .string (sB ex), .bool al]
          refine wpList_store_row rfl 47 _ _ rfl c #[.int .i64 pp, .int .u8 oo, .string (sB m), .slice Av nv cv, .string (sB ex), .bool al] rfl rfl _ _ bx.out (by kernel_rfl) (by kernel_rfl) (by kernel_rfl) ?_
          rw [hwz]
          have F : Hid (kk ≤ l ∧ wz.heap[c]? = some (.cells #[.int .i64 pp, .int .u8 oo, .string (sB m), .slice Av nv cv, .string (sB ex), .bool al] 47 (0, 0)) ∧ Dec w0 D S wz kk p kk dd 0 ∧ DK D wr wz ∧
            (∀ x, ratT p o.toNat = some x → kd = 1 ∧ pp = p ∧ oo = (o.toNat : Int) ∧ m = x.1 ∧ ex = x.2.2.1 ∧ al = x.2.2.2 ∧ nv = x.2.1.length ∧ OwnT wz (D + 1) (.slice Av nv cv) x.2.1) ∧ (ratT p o.toNat = none → kd = rkindT p o.toNat)) := ⟨hkl5.out, a1, a2, a3, fun x hx => by
              obtain ⟨g1, g2, g3, g4, g5, g6, g7, g8⟩ := FE.out.1 x hx
              exact ⟨g1, g2, g3, g4, g5, g6, g7, a4 _ _ _ g8⟩, FE.out.2⟩
          refine ⟨a2.cells.2.2.1, ?_⟩
          clear hwz a1 a2 a3 a4 X4 K4 FE bx
          simp only [MixE.wpMixE, List.drop_succ_cons, List.drop_zero]
          go_wp2
          go_meet
          exact ⟨c, pp, oo, m, Av, nv, cv, ex, al, kd, rfl, rfl, F⟩
      · obtain ⟨c, w5, hc, hwa, SB, yb, zb⟩ := Fr.box (Fr.nil w4) #[.int .i64 0, .int .u8 0, .string ⟨#[]⟩, .slice none 0 0, .string ⟨#[]⟩, .bool false] 47
        have bx : Hid (w5.heap[c]? = some (.cells #[.int .i64 0, .int .u8 0, .string ⟨#[]⟩, .slice none 0 0, .string ⟨#[]⟩, .bool false] 47 (0, 0))) := SB.out.1
        have hcr : wr.heap.size ≤ c := by have := K4.out.size; omega
        have X4 := Lib.hid (X4.out.all yb)
        have K4 := Lib.hid (K4.out.trans (DK.of_below yb))
        clear SB yb zb
        go_wp2
        refine ⟨X4.out.cells.2.2.1, ?_⟩
        refine MixE.wpMixE_loud rfl (by kernel_rfl) ?_
        go_wp2_with fail
        refine (OPP.out w5 X4.out).mono ?_
        rintro e w6 (⟨h, rfl, h1, h2⟩ | ⟨h, rfl, h1, h2⟩)
        rotate_left
        · exact ⟨rfl, MS.out w6 h h1 (K4.out.trans h2)⟩
        have hkl5 := Lib.hid h
        have X4 := Lib.hid h1
        have K4 := Lib.hid (K4.out.trans h2)
        have z5 : wr.heap.size ≤ w6.heap.size := K4.out.size
        have bx := Lib.hid (h2.blk bx.out (by omega))
        clear h h1 h2
        go_wp2
        refine ⟨X4.out.cells.2.2.1, ?_⟩
        refine MixE.wpMixE_loud rfl (by kernel_rfl) ?_
        go_wp2_with fail
        refine (tat2_any p o w6 (MX.out w6 X4.out.bel)).mono ?_
        rintro e w7 ⟨pp, oo, m, Av, nv, cv, ex, al, kd, rfl, hb, f1, f2⟩
        have zz : D + 1 ≤ w6.heap.size := X4.out.lt
        have FE : Hid ((∀ x, ratT p o.toNat = some x → kd = 1 ∧ pp = p ∧ oo = (o.toNat : Int) ∧ m = x.1 ∧ ex = x.2.2.1 ∧ al = x.2.2.2 ∧ nv = x.2.1.length ∧ OwnT w7 (D + 1) (.slice Av nv cv) x.2.1) ∧ (ratT p o.toNat = none → kd = rkindT p o.toNat)) := ⟨fun x hx => by
          obtain ⟨g1, g2, g3, g4, g5, g6, g7, g8⟩ := f1 x hx
          exact ⟨g1, g2, g3, g4, g5, g6, g7, row_mono g8 zz⟩, f2⟩
        have bx := Lib.hid ((hb.block c (Array.getElem?_eq_some_iff.1 bx.out).1).trans bx.out)
        have X4 := Lib.hid (X4.out.all hb)
        have K4 := Lib.hid (K4.out.trans (DK.of_below hb))
        clear hb f1 f2 zz
        go_wp2
        refine ⟨X4.out.cells.2.2.1, ?_⟩
        refine MixE.wpMixE_pure rfl (by kernel_rfl) (.tuple #[.agg #[.int .i64 pp, .int .u8 oo, .string (sB m), .slice Av nv cv, .string (sB ex), .bool al], .int .i64 kd]) (fun w h => by clear h; go_simp; try rfl) ?_
        refine MixE.wpMixE_pure rfl (by kernel_rfl) (.agg #[.int .i64 pp, .int .u8 oo, .string (sB m), .slice Av nv cv, .string (sB ex), .bool al]) (fun w h => by clear h; go_simp; try rfl) ?_
        refine MixE.wpMixE_pure rfl (by kernel_rfl) (.int .i64 kd) (fun w h => by clear h; go_simp; try rfl) ?_
        refine MixE.wpMixE_loud rfl (by kernel_rfl) ?_
        obtain ⟨wz, hwz, a1, a2, a3, a4⟩ := ent_put X4.out K4.out hDr bx.out hcr #[.int .i64 pp, .int .u8 oo, .string (sB m), .slice Av nv cv, .string (sB ex), .bool al]
        refine wpList_store_row rfl 47 _ _ rfl c #[.int .i64 pp, .int .u8 oo, .string (sB m), .slice Av nv cv, .string (sB ex), .bool al] rfl rfl _ _ bx.out (by kernel_rfl) (by kernel_rfl) (by kernel_rfl) ?_
        rw [hwz]
        have F : Hid (kk ≤ l ∧ wz.heap[c]? = some (.cells #[.int .i64 pp, .int .u8 oo, .string (sB m), .slice Av nv cv, .string (sB ex), .bool al] 47 (0, 0)) ∧ Dec w0 D S wz kk p kk dd 0 ∧ DK D wr wz ∧
          (∀ x, ratT p o.toNat = some x → kd = 1 ∧ pp = p ∧ oo = (o.toNat : Int) ∧ m = x.1 ∧ ex = x.2.2.1 ∧ al = x.2.2.2 ∧ nv = x.2.1.length ∧ OwnT wz (D + 1) (.slice Av nv cv) x.2.1) ∧ (ratT p o.toNat = none → kd = rkindT p o.toNat)) := ⟨hkl5.out, a1, a2, a3, fun x hx => by
            obtain ⟨g1, g2, g3, g4, g5, g6, g7, g8⟩ := FE.out.1 x hx
            exact ⟨g1, g2, g3, g4, g5, g6, g7, a4 _ _ _ g8⟩, FE.out.2⟩
        refine ⟨a2.cells.2.2.1, ?_⟩
        clear hwz a1 a2 a3 a4 X4 K4 FE bx
        simp only [MixE.wpMixE, List.drop_succ_cons, List.drop_zero]
        go_wp2
        go_meet
        exact ⟨c, pp, oo, m, Av, nv, cv, ex, al, kd, rfl, rfl, F⟩
    case rest =>
      obtain ⟨c, pp, oo, m, Av, nv, cv, ex, al, kd, rfl, rfl, R⟩ := hcut
      obtain ⟨hkl5, bx, XC, KC, f1, f2⟩ := R.out
      obtain ⟨t, ht4, ht5⟩ := HA.out (by rw [HKK.out]; exact hkl5)
      have KC2 := Lib.hid (KR.out.trans KC)
      clear OPP MS X1 R
      cases hx : ratT p o.toNat with
      | some x =>
        obtain ⟨rfl, e2, e3, e4, e5, e6, e7, O⟩ := f1 x hx
        have hd : hdB b = some (p, o, t) := by
          by_cases h5 : 5 ≤ p
          · exact (ht5 h5).1
          · rw [(ht4 (by omega)).1]; exact hd_some ⟨hp.1, by omega⟩ t hx
        have hxp := exP_of o.toNat_lt hx
        have nk := num_kk hxp (fun h => (ht4 h).2) (fun h => (ht5 h).2)
        obtain ⟨C, hC⟩ := fill_in hxp (plc_of o.toNat_lt hx) (numB_in hxp t)
        have hsz := sz_kk hxp
        have OKS := InTab.ok (k := (p, (o.toNat : Int), x.1, x.2.1, x.2.2.1, x.2.2.2)) ⟨o.toNat, o.toNat_lt, rfl, hx⟩
        have hm10 := OKS.m
        have hup := OKS.up
        have hl3 := OKS.len
        simp only at hm10 hup hl3
        rw [e7] at O
        have CI := IN.out wc kk p kk dd 0 hkl5 XC o.toNat x.2.2.1 hxp (o.toNat : Int) x.1 (by omega) hup Av x.2.1.length cv x.2.1 rfl (by omega) x.2.2.2 (D + 1) (by omega) O C (fun _ => by rw [← HDD.out, ← HKK.out, nk]; exact hC)
        have W := Lib.hid (fun e w' R => whole_code (w0 := w0) (w := w) (w1 := wc) (w' := w') (D := D) (S := S) (b := b) HL.out (UP.out wc KC2.out).2.size (UP.out wc KC2.out).2 (C := C) (e := e) hd hx hC hsz (by rw [HKK.out]; exact R))
        unfold enV at CI
        obtain ⟨q0, q1, q2, q3, q4, q5⟩ := Fr.cells6 bx
        rw [e2] at q0
        rw [e3] at q1
        rw [e4] at q2
        rw [e7] at q3
        rw [e5] at q4
        rw [e6] at q5
        clear bx XC KC f1 f2 hd hxp nk hC hsz OKS hup O e2 e3 e4 e5 e6 e7 ht4 ht5 HA hx
        go_wp2_with fail
        refine CI.mono ?_
        rintro e w2 hR
        have HW := W.out e w2 hR
        rcases hR with ⟨h1, ⟨B, c2, rfl, hO⟩, -, h5⟩ | ⟨h1, rfl, h2⟩
        · have I2 := (UP.out w2 (KC2.out.trans h5)).1
          obtain ⟨w3, hw3, i1, i2, -, -, -, i6⟩ := I2.put 1 (.slice none 0 0) (sB x.1) (.slice B C.length c2) x.2.2.2
          have F := Lib.hid (HW.put I2 hDI (Nat.le_of_eq HI.out) i2 i6)
          obtain ⟨k0, k1, k2, k3, k4, k5⟩ := I2.cells
          obtain ⟨j0, j1, j2, j3, j4, j5⟩ := i1.cells
          clear CI W HW h1 hO h5 I2 i1 i2 i6 q0 q1 q2 q3 q4 q5
          go_wp2
          refine bodyPost_ret (v := .agg #[.int .i64 1, .slice none 0 0, .string (sB x.1), .slice B C.length c2, .bool x.2.2.2]) ?_ rfl F.out
          simp [results, Tryz.results42, go_sem, j0, j1, j2, j3, j4]
        · exact ⟨rfl, HW⟩
      | none =>
        obtain rfl := f2 hx
        rcases knd_of hp hx with ⟨h2, hp4, p', hpg, hpre, hp'⟩ | ⟨h03, hat⟩
        · rw [h2]
          obtain ⟨hb4, hdr⟩ := ht4 hp4
          have hkq : kk = q + 1 := by rw [← HKK.out, ← HQ.out]; unfold kkP; rw [if_neg (by omega)]
          have htk : b.take kk = preS p' := by
            rw [hpre, hkq, ← HQ.out, hb4, List.take_append, List.take_of_length_le (by omega), show (preS p).length + 1 - (preS p).length = 1 by omega]
            rfl
          have hk' : (preS p').length = kk := by rw [hpre, hkq, ← HQ.out, List.length_append]; rfl
          have hdd0 : dd = 0 := by rw [← HDD.out]; unfold ddP; rw [if_neg (by omega)]
          have hq2 := (pre_kk hp').1
          have TK2 := TK.out wc kk p kk dd 0 hkl5 XC
          obtain ⟨e0, e1, e2, e3, e4, e5, e6⟩ := XC.cells
          have PO := Lib.hid (fun A' c' w' h => pageOf_any A' c' (preS p') (by unfold maxLen; omega) w' h)
          rw [hk', hpre, hpg] at PO
          rw [← hpre] at PO
          rw [htk] at TK2
          have hb5 : Hid (b = preS p' ++ t) := by show b = _; rw [hpre, hb4]; simp
          have XC := Lib.hid XC
          subst hdd0
          have HK' := Lib.hid hk'
          have hqk : q < kk := by omega
          clear bx KC f1 f2 hx ht4 ht5 HA hpg htk hdr hb4 hpre h2 hk' hkq
          go_wp2_with fail
          refine TK2.mono ?_
          rintro e w2 ⟨A', c', rfl, hO, hb⟩
          obtain ⟨A2, c2, e7, hP⟩ := hO.bytes
          simp only [Value.slice.injEq] at e7
          obtain ⟨rfl, -, rfl⟩ := e7
          have PO2 := PO.out A' c' w2 hP
          have X2 := XC.out.all hb
          have K2 := KC2.out.trans (DK.of_below (D := D) hb)
          clear TK2 hO hb hP PO
          go_wp2_with fail
          refine PO2.mono ?_
          rintro e w3 ⟨rfl, hb⟩
          have X3 := X2.all hb
          obtain ⟨g0, g1, g2, g3, g4, g5, g6⟩ := X3.cells
          have X4 := Lib.hid (X3.set2 p')
          have K4 := Lib.hid ((K2.trans (DK.of_below (D := D) hb)).set 2 (.int .i64 p'))
          clear PO2 hb X2 X3 K2 e0 e1 e2 e3 e4 e5 e6
          go_wp2
          go_roundw
          case rel => exact ⟨p', t, kk, hp', hb5, by show _ ∧ _; rw [HK'.out]; exact ⟨X4.out, K4.out⟩⟩
          case measure => rw [X4.out.cnt, hcnt]; omega
        · have hd : hdB b = some (p, o, t) := by
            by_cases h5 : 5 ≤ p
            · exact (ht5 h5).1
            · have h := hat (by omega) t
              rw [← (ht4 (by omega)).1] at h
              exact h
          have hi := it_of hd
          rw [hx] at hi
          simp only at hi
          have I2 := (UP.out wc KC2.out).1
          have KW := Lib.hid (UP.out wc KC2.out).2
          rcases h03 with h0 | ⟨h3, hp2⟩
          · rw [h0] at hi ⊢
            rw [if_pos rfl] at hi
            have KP := KF.out wc kk p kk dd 0 hkl5 XC
            have hl1 : 1 ≤ l := by
              have : 1 ≤ kk := by rw [← HKK.out]; unfold kkP; split <;> omega
              omega
            have HIT := Lib.hid hi
            clear bx XC KC f1 f2 hx ht4 ht5 HA hd hi hat h0
            go_wp2_with fail
            refine KP.mono ?_
            rintro e w2 ⟨rfl, h1, h2⟩
            have I3 : ItAt w2 I _ _ _ _ _ := (UP.out w2 (KC2.out.trans h2)).1
            obtain ⟨w3, hw3, i1, i2, -, -, -, i6⟩ := I3.put 2 (.slice none 0 0) ⟨#[]⟩ (.slice none 0 0) false
            have F := Lib.hid ((whole_none (b := b) 2 (by decide) 1 hl1 HIT.out h1 (KW.out.trans h2)).put I3 hDI (Nat.le_of_eq HI.out) i2 i6)
            obtain ⟨k0, k1, k2, k3, k4, k5⟩ := I3.cells
            obtain ⟨j0, j1, j2, j3, j4, j5⟩ := i1.cells
            clear KP h1 h2 I3 I2 i1 i2 i6
            go_wp2
            refine bodyPost_ret (v := .agg #[.int .i64 2, .slice none 0 0, .string ⟨#[]⟩, .slice none 0 0, .bool false]) ?_ rfl F.out
            simp [results, Tryz.results42, go_sem, j0, j1, j2, j3, j4]
          · rw [h3] at hi ⊢
            rw [if_neg (by decide)] at hi
            obtain rfl : kk = 2 := by rw [← HKK.out, hp2]; rfl
            obtain ⟨w3, hw3, i1, i2, -, -, -, i6⟩ := I2.put 3 (.slice none 0 0) ⟨#[]⟩ (.slice none 0 0) false
            have F := Lib.hid ((whole_none (b := b) 3 (by decide) 2 hkl5 hi XC KW.out).put I2 hDI (Nat.le_of_eq HI.out) i2 i6)
            obtain ⟨k0, k1, k2, k3, k4, k5⟩ := I2.cells
            obtain ⟨j0, j1, j2, j3, j4, j5⟩ := i1.cells
            clear bx XC KC f1 f2 hx ht4 ht5 HA hd hi hat h3 I2 i1 i2 i6
            go_wp2
            refine bodyPost_ret (v := .agg #[.int .i64 3, .slice none 0 0, .string ⟨#[]⟩, .slice none 0 0, .bool false]) ?_ rfl F.out
            simp [results, Tryz.results42, go_sem, j0, j1, j2, j3, j4]
end Go.Proofs.YtclhaejdjogfbaaGreatDoor
namespace Go.Proofs.YtclhaejdjogfbaaGreatDoor
open Go.RowKit Go.Shelf
attribute [local go_sem] Oper.semAt_some
def PtD (w : World) (x D : Nat) : Prop := w.heap[x]? = some (.cells #[.pointer (some ⟨D, 0, none⟩)] 51 (0, 0))
theorem ItAt.put1 {w : World} {b : Nat} {kind : Int} {va vb : Value} {s : ByteArray} {al : Bool} (h : ItAt w b kind va s vb al) (va' : Value) :
    ∃ w', w.setCell ⟨b, 1, none⟩ va' = w' ∧ ItAt w' b kind va' s vb al ∧ Below b w w' ∧ ∀ k, k ≠ b → w'.heap[k]? = w.heap[k]? :=
  ⟨_, rfl, heap_setCell_same w b 1 _ _ _ h, (Below.refl b w).setCell (p := ⟨b, 1, none⟩) (Nat.le_refl _) _, fun k hk => heap_setCell_other _ ⟨b, 1, none⟩ k _ hk⟩
theorem PtD.ne {w : World} {x D I : Nat} (h : PtD w x D) {kind : Int} {va vb : Value} {s : ByteArray} {al : Bool} (hI : ItAt w I kind va s vb al) : x ≠ I := fun e => by
  subst e
  unfold PtD at h
  rw [show w.heap[x]? = _ from hI] at h
  simp at h
theorem PtD.cells {w : World} {x D : Nat} (h : PtD w x D) : w.cell? ⟨x, 0, none⟩ = some (.pointer (some ⟨D, 0, none⟩)) ∧ w.frozen? ⟨x, 0, none⟩ = false := ⟨Lib.cell_of_heap h 0, Lib.frozen_of_heap h 0⟩
theorem raw_put {w0 w w3 : World} {D : Nat} {S : Value} {b : Str} {k I : Nat} {p nd d n : Int} (X : Dec w0 D S w k p nd d n) (hDI : D < I) {kind : Int} {va vb : Value} {s : ByteArray} {al : Bool} (HI : ItAt w I kind va s vb al) {A' : Option Addr} {c' : Nat} (O : TOwnB w3 w.heap.size (.slice A' k c') (b.take k)) (hb : Below w.heap.size w w3) :
    ∃ w4, w3.setCell ⟨I, 1, none⟩ (.slice A' k c') = w4 ∧ ItAt w4 I kind (.slice A' k c') s vb al ∧ TOwnB w4 D (.slice A' k c') (b.take k) ∧ Dec w0 D S w4 k p nd d n ∧ ∀ B u L, OwnT w B u L → OwnT w4 B u L := by
  have I3 := HI.all hb
  have X3 := X.all hb
  obtain ⟨w4, hw4, i1, i2, i6⟩ := I3.put1 (.slice A' k c')
  exact ⟨w4, hw4, i1, (it_ownB I3 O i6).lift (Nat.le_of_lt X.lt), ⟨(i2.block D hDI).trans X3.blk, X3.bel.trans (i2.mono (by omega))⟩, fun B u L h => it_ownT I3 (h.below hb) i6⟩
theorem catch_miss {w0 : World} {D : Nat} {b : Str} {A : Option Addr} {l cap : Nat} (H : DH w0 D b A l cap) {w : World} {k : Nat} (hk : k ≤ l) {p nd d n : Int} (X : Dec w0 D (.slice A l cap) w k p nd d n) {I x : Nat} (hDI : D < I) (hDx : D < x) (HX : PtD w x D) {kind : Int} {va vb : Value} {s : ByteArray} {al : Bool} (HI : ItAt w I kind va s vb al) :
    CallsD Tryz.prog 40 #[.pointer (some ⟨I, 0, none⟩), .pointer (some ⟨x, 0, none⟩)] (.panicking missE) w fun e u' w' =>
      e = .returned (.tuple #[]) ∧ u' = .panicking [{ v := .iface 86 (.agg #[]), recovered := true }] ∧ ∃ A' c', ItAt w' I 4 (.slice A' k c') ⟨#[]⟩ (.slice none 0 0) false ∧ TOwnB w' D (.slice A' k c') (b.take k) ∧ Dec w0 D (.slice A l cap) w' k p nd d n := by
  refine callsD_of_wpS Tryz.func40 rfl fun c₀ cs hu => ?_
  unfold missE at hu
  simp only [Tryz.ntmps40, List.size_toArray, List.length_cons, List.length_nil, Nat.reduceAdd, Nat.reduceSub, Array.replicate_succ, Array.replicate_zero, List.push_toArray, List.append_toArray, List.nil_append, List.cons_append]
  have hta : ∀ w, (Instr.typeAssert (.iface 86 (.agg #[])) 20 86 true).run Tryz.prog w = .ok (.tuple #[.agg #[], .bool true]) w := fun w => by kernel_rfl
  obtain ⟨S, hS⟩ : ∃ z, Value.slice A l cap = z := ⟨_, rfl⟩
  have TK := Lib.hid (fun w X => taken_any H (w := w) (k := k) hk (p := p) (nd := nd) (d := d) (n := n) X)
  rw [hS] at X TK ⊢
  obtain ⟨w1, hw1⟩ : ∃ z, w.alloc (.cells #[] 86) = z := ⟨_, rfl⟩
  have hal : Below w.heap.size w w1 := by rw [← hw1]; exact up_alloc _ _
  have X1 := X.all hal
  have I1 := HI.all hal
  have P1 : PtD w1 x D := (hal.block x (Array.getElem?_eq_some_iff.1 HX).1).trans HX
  obtain ⟨w2, hw2, i1, i2, -, -, -, i6⟩ := I1.put 4 (.slice none 0 0) ⟨#[]⟩ (.slice none 0 0) false
  have X2 : Hid (Dec w0 D S w2 k p nd d n) := ⟨(i2.block D hDI).trans X1.blk, X1.bel.trans (i2.mono (by omega))⟩
  have P2 : PtD w2 x D := (i6 x (P1.ne I1)).trans P1
  obtain ⟨k0, k1, k2, k3, k4, k5⟩ := I1.cells
  obtain ⟨p0, -⟩ := P2.cells
  have I2 := Lib.hid i1
  clear hS H X HX HI hal X1 I1 P1 P2 i1 i2 i6
  apply wpS_seq
  apply wpS_seq
  apply wpS_region
  simp [wpOpsS, go_sem, recoverD, hu, Exit.thenS]
  refine wpS_of_wp ?_
  go_upto_region 7 with fail
  clear hw1
  go_wp2
  refine wpS_of_wp ?_
  go_wp2_with fail
  refine (TK.out w2 X2.out).mono ?_
  rintro e w3 ⟨A', c', rfl, hO, hb⟩
  obtain ⟨w4, hw4, F1, F2, F3, -⟩ := raw_put X2.out hDI I2.out hO hb
  have F : Hid (ItAt w4 I 4 (.slice A' k c') ⟨#[]⟩ (.slice none 0 0) false ∧ TOwnB w4 D (.slice A' k c') (b.take k) ∧ Dec w0 D S w4 k p nd d n) := ⟨F1, F2, F3⟩
  obtain ⟨g0, g1, g2, g3, g4, g5⟩ := (show ItAt w3 I _ _ _ _ _ from I2.out.all hb).cells
  clear TK hO hb F1 F2 F3 X2 I2 k0 k1 k2 k3 k4 k5 p0
  go_wp2
  exact ⟨rfl, _, rfl, .tuple #[], by simp [results, Tryz.results40], rfl, rfl, A', c', F.out⟩
theorem catch_idle {w0 : World} {D : Nat} {b : Str} {A : Option Addr} {l cap : Nat} (H : DH w0 D b A l cap) {w : World} {k : Nat} (hk : k ≤ l) {p nd d n : Int} (X : Dec w0 D (.slice A l cap) w k p nd d n) {I x : Nat} (hDI : D < I) (hDx : D < x) (HX : PtD w x D) {kind : Int} {va vb : Value} {s : ByteArray} {al : Bool} (HI : ItAt w I kind va s vb al) :
    CallsD Tryz.prog 40 #[.pointer (some ⟨I, 0, none⟩), .pointer (some ⟨x, 0, none⟩)] .returning w fun e u' w' =>
      e = .returned (.tuple #[]) ∧ u' = .returning ∧ ∃ A' c', ItAt w' I kind (.slice A' k c') s vb al ∧ TOwnB w' D (.slice A' k c') (b.take k) ∧ Dec w0 D (.slice A l cap) w' k p nd d n ∧ ∀ B u L, OwnT w B u L → OwnT w' B u L := by
  refine callsD_of_wpS Tryz.func40 rfl fun c₀ cs hu => ?_
  simp only [Tryz.ntmps40, List.size_toArray, List.length_cons, List.length_nil, Nat.reduceAdd, Nat.reduceSub, Array.replicate_succ, Array.replicate_zero, List.push_toArray, List.append_toArray, List.nil_append, List.cons_append]
  obtain ⟨S, hS⟩ : ∃ z, Value.slice A l cap = z := ⟨_, rfl⟩
  have TK := Lib.hid (taken_any H hk X)
  rw [hS] at X ⊢
  obtain ⟨p0, -⟩ := HX.cells
  have X2 := Lib.hid X
  have I2 := Lib.hid HI
  clear hS H X HX HI
  apply wpS_seq
  apply wpS_seq
  apply wpS_region
  simp [wpOpsS, go_sem, recoverD, hu, Exit.thenS]
  refine wpS_of_wp ?_
  go_wp2
  refine wpS_of_wp ?_
  go_wp2_with fail
  refine TK.out.mono ?_
  rintro e w3 ⟨A', c', rfl, hO, hb⟩
  obtain ⟨w4, hw4, F1, F2, F3, F4⟩ := raw_put X2.out hDI I2.out hO hb
  have F : Hid (ItAt w4 I kind (.slice A' k c') s vb al ∧ TOwnB w4 D (.slice A' k c') (b.take k) ∧ Dec w0 D S w4 k p nd d n ∧ ∀ B u L, OwnT w B u L → OwnT w4 B u L) := ⟨F1, F2, F3, F4⟩
  obtain ⟨g0, g1, g2, g3, g4, g5⟩ := (show ItAt w3 I _ _ _ _ _ from I2.out.all hb).cells
  clear TK hO hb F1 F2 F3 F4 X2 I2 p0
  go_wp2
  exact ⟨rfl, .returning, by cases c₀; simp_all, .tuple #[], by simp [results, Tryz.results40], rfl, rfl, A', c', F.out⟩
def RetDIt (w0 : World) (D : Nat) (S : Value) (b : Str) (e : Ending) (w' : World) : Prop :=
  (∃ A' c' B c2, e = .returned (.agg #[.int .i64 (itR b).kind, .slice A' (itR b).raw.length c', .string (sB (itR b).m), .slice B (itR b).C.length c2, .bool (itR b).al]) ∧ TOwnB w' D (.slice A' (itR b).raw.length c') (itR b).raw ∧ OwnT w' D (.slice B (itR b).C.length c2) (itR b).C) ∧
  ∃ k p nd d n, Dec w0 D S w' k p nd d n ∧ ((itR b).kind = 4 → nd = (needR b : Nat))
theorem ditem_any {w0 : World} {D : Nat} {b : Str} {A : Option Addr} {l cap : Nat} (H : DH w0 D b A l cap) (hM : MaxAt w0) {w : World} {nd : Int} (X : Dec w0 D (.slice A l cap) w 0 0 nd 0 0) :
    Calls Tryz.prog 21 #[.pointer (some ⟨D, 0, none⟩)] w (RetDIt w0 D (.slice A l cap) b) := by
  have hmf : ∀ (fn : Fn) (first cap : Array Value) (w : World), (Instr.makeFunc fn first cap).run Tryz.prog w = .ok (.func fn first cap) w := fun _ _ _ _ => rfl
  have hl := H.hl
  obtain ⟨S, hS⟩ : ∃ z, Value.slice A l cap = z := ⟨_, rfl⟩
  have WH := Lib.hid (fun w X => whole_any H hM (w := w) (nd := nd) X)
  have CM := Lib.hid (fun w k hk (p nd d n : Int) X I x h1 h2 h3 (kind : Int) (va vb : Value) (s : ByteArray) (al : Bool) h4 => catch_miss H (w := w) (k := k) hk (p := p) (nd := nd) (d := d) (n := n) X (I := I) (x := x) h1 h2 h3 (kind := kind) (va := va) (vb := vb) (s := s) (al := al) h4)
  have CI := Lib.hid (fun w k hk (p nd d n : Int) X I x h1 h2 h3 (kind : Int) (va vb : Value) (s : ByteArray) (al : Bool) h4 => catch_idle H (w := w) (k := k) hk (p := p) (nd := nd) (d := d) (n := n) X (I := I) (x := x) h1 h2 h3 (kind := kind) (va := va) (vb := vb) (s := s) (al := al) h4)
  rw [hS] at X WH CM CI ⊢
  have HL := Lib.hid hl
  obtain ⟨x, hx⟩ : ∃ z, w.heap.size = z := ⟨_, rfl⟩
  obtain ⟨w1, hw1⟩ : ∃ z, w.alloc (.cells #[.pointer (some ⟨D, 0, none⟩)] 51) = z := ⟨_, rfl⟩
  have y1 : Below w.heap.size w w1 := by rw [← hw1]; exact up_alloc _ _
  have P1 : PtD w1 x D := by rw [← hw1, ← hx]; exact World.alloc_heap_new w _
  have z1 : w1.heap.size = x + 1 := by rw [← hw1, ← hx]; simp
  obtain ⟨w2, hw2, I2, y2, z2⟩ := it_start w1 (x + 1) z1
  have hDx : D < x := by rw [← hx]; exact X.lt
  have X2 := (X.all y1).all y2
  have P2 : PtD w2 x D := (y2.block x (by omega)).trans P1
  have C1 := WH.out w2 X2
  obtain ⟨p0, -⟩ := P2.cells
  have P2 := Lib.hid P2
  have I2 := Lib.hid I2
  clear H hM X WH hS hl y1 y2 P1 X2
  go_enter_defers Tryz.func21, Tryz.ntmps21
  go_wp2_with fail
  refine C1.mono ?_
  rintro e w3 (⟨h1, ⟨B, c2, rfl, hO⟩, ⟨k, p, nd', d, n, hk, hraw, X3⟩, K⟩ | ⟨hi, p, rfl, ⟨d, n, X3⟩, K⟩)
  · have I3 : ItAt w3 (x + 1) _ _ _ _ _ := K.blk I2.out (by omega)
    have P3 : PtD w3 x D := K.blk P2.out (by omega)
    obtain ⟨w4, hw4, i1, i2, -, -, -, i6⟩ := I3.put (itR b).kind (.slice none 0 0) (sB (itR b).m) (.slice B (itR b).C.length c2) (itR b).al
    have P4 : PtD w4 x D := (i6 x (by omega)).trans P3
    have X4 : Dec w0 D S w4 k p nd' d n := ⟨(i2.block D (by omega)).trans X3.blk, X3.bel.trans (i2.mono (by omega))⟩
    have O4 := Lib.hid (it_ownT I3 (row_mono hO (show D ≤ w2.heap.size by omega)) i6)
    have C2 := CI.out w4 k hk p nd' d n X4 (x + 1) x (by omega) hDx P4 _ _ _ _ _ i1
    obtain ⟨k0, k1, k2, k3, k4, k5⟩ := I3.cells
    have HR : Hid ((itR b).raw = b.take k) := hraw
    have H4 : Hid ((itR b).kind ≠ 4) := h1
    have LK : Hid ((b.take k).length = k) := by show _ = _; rw [List.length_take, HL.out]; omega
    have RT : Hid (∀ A' c' w5, ItAt w5 (x + 1) (itR b).kind (.slice A' k c') (sB (itR b).m) (.slice B (itR b).C.length c2) (itR b).al → TOwnB w5 D (.slice A' k c') (b.take k) → Dec w0 D S w5 k p nd' d n → (∀ B u L, OwnT w4 B u L → OwnT w5 B u L) →
        RetDIt w0 D S b (.returned (.agg #[.int .i64 (itR b).kind, .slice A' k c', .string (sB (itR b).m), .slice B (itR b).C.length c2, .bool (itR b).al])) w5) := fun A' c' w5 g1 g2 g3 g4 => by
      refine ⟨⟨A', c', B, c2, ?_, ?_, g4 _ _ _ O4.out⟩, k, p, nd', d, n, g3, fun h => absurd h H4.out⟩
      · rw [HR.out, LK.out]
      · rw [HR.out, LK.out]; exact g2
    obtain ⟨kind, hkind⟩ : ∃ z, (itR b).kind = z := ⟨_, rfl⟩
    obtain ⟨m, hm⟩ : ∃ z, (itR b).m = z := ⟨_, rfl⟩
    obtain ⟨lc, hlc⟩ : ∃ z, (itR b).C.length = z := ⟨_, rfl⟩
    obtain ⟨al, hal⟩ : ∃ z, (itR b).al = z := ⟨_, rfl⟩
    rw [hkind, hm, hlc, hal] at C2 RT hw4
    simp only [hkind, hm, hlc, hal]
    clear C1 CM CI h1 hO hraw X3 K I3 P3 i1 i2 i6 P4 X4 O4 HR H4 I2 P2 p0
    go_wp2
    refine leaves_cons (f := 40) (args := #[.pointer (some ⟨x + 1, 0, none⟩), .pointer (some ⟨x, 0, none⟩)]) (by simp) (by simp [go_sem]) ?_
    refine C2.mono ?_
    rintro e u' w5 ⟨rfl, rfl, A', c', g1, g2, g3, g4⟩
    obtain ⟨j0, j1, j2, j3, j4, j5⟩ := g1.cells
    have F := Lib.hid (RT.out A' c' w5 g1 g2 g3 g4)
    clear g1 g2 g3 g4 C2 RT
    simp [Leaves, settle, results, Tryz.results21, go_sem, j0, j1, j2, j3, j4]
    exact F.out
  · have I3 : ItAt w3 (x + 1) _ _ _ _ _ := K.blk I2.out (by omega)
    have P3 : PtD w3 x D := K.blk P2.out (by omega)
    have C2 := CM.out w3 _ (Nat.le_refl _) p _ d n X3 (x + 1) x (by omega) hDx P3 _ _ _ _ _ I3
    have HII := Lib.hid hi
    clear C1 CM CI X3 K I3 P3 hi I2 P2 p0
    refine leaves_cons (f := 40) (args := #[.pointer (some ⟨x + 1, 0, none⟩), .pointer (some ⟨x, 0, none⟩)]) (by simp) (by simp [go_sem]) ?_
    refine C2.mono ?_
    rintro e u' w5 ⟨rfl, rfl, A', c', g1, g2, g3⟩
    obtain ⟨j0, j1, j2, j3, j4, j5⟩ := g1.cells
    have F : Hid (RetDIt w0 D S b (.returned (.agg #[.int .i64 4, .slice A' l c', .string ⟨#[]⟩, .slice none 0 0, .bool false])) w5) := by
      have hT : b.take l = b := by rw [← HL.out, List.take_length]
      rw [hT] at g2
      refine ⟨⟨A', c', none, 0, ?_, ?_, ?_⟩, _, p, _, d, n, g3, fun _ => rfl⟩
      · rw [HII.out]; simp only [iteO, HL.out]; rfl
      · rw [HII.out]; simp only [iteO, HL.out]; exact g2
      · rw [HII.out]; exact ownT_nil _ _
    clear g1 g2 g3 C2
    simp [Leaves, settle, results, Tryz.results21, go_sem, j0, j1, j2, j3, j4]
    exact F.out
end Go.Proofs.YtclhaejdjogfbaaGreatDoor
namespace Go.Proofs.YtclhaejdjogfbaaGreatDoor
open Go.RowKit Go.Shelf
attribute [local go_sem] Oper.semAt_some
def itP (b : Str) : Ite := if b = [] then ⟨0, [], [], [], false⟩ else itR b
theorem itP_ne {b : Str} (h : b ≠ []) : itP b = itR b := if_neg h
theorem dh_of {w w1 : World} {b : Str} {A : Option Addr} {cap l : Nat} (hl : b.length = l) (hc : l ≤ cap) (hcm : cap ≤ maxLen) (hl2 : l ≤ 100000) (H : BytesAt w A b) (hb : Below w.heap.size w w1) : DH w1 w1.heap.size b A l cap := ⟨hl, hl2, Nat.le_refl _, H.below hb, hc, hcm⟩
theorem dfirst_any (b : Str) (A : Option Addr) (cap l : Nat) (hl : b.length = l) (hc : l ≤ cap) (hcm : cap ≤ maxLen) (hl2 : l ≤ 100000) (w : World) (H : BytesAt w A b) (hM : MaxAt w) :
    Calls Tryz.prog 7 #[.slice A l cap] w (RetIt w (itP b)) := by
  obtain ⟨n, hn⟩ : ∃ z, w.heap.size = z := ⟨_, rfl⟩
  obtain ⟨w0, hw0, I0, y0, z0⟩ := it_start w n hn
  have HN := Lib.hid hn
  have HL := Lib.hid hl
  by_cases hb : b = []
  · have HP : Hid (itP b = ⟨0, [], [], [], false⟩) := if_pos hb
    obtain rfl : l = 0 := by rw [← hl, hb]; rfl
    obtain ⟨w1, hw1, i1, i2, i3, i4, i5, i6⟩ := I0.put 0 (.slice none 0 0) ⟨#[]⟩ (.slice none 0 0) false
    obtain ⟨k0, k1, k2, k3, k4, k5⟩ := I0.cells
    obtain ⟨j0, j1, j2, j3, j4, j5⟩ := i1.cells
    have F := Lib.hid (retIt_put (w := w) (w1 := w0) (w2 := w1) (x := ⟨0, [], [], [], false⟩) (A := none) (B := none) (c := 0) (c2 := 0) hn (by rw [← hn]; exact y0) I0.lt (townB_nil _ _) (ownT_nil _ _) ⟨i2, i4, i5⟩)
    clear H hM hl hb I0 y0 i1 i2 i3 i4 i5 i6
    go_enter Tryz.func7, Tryz.ntmps7
    go_wp2
    refine bodyPost_ret (v := .agg #[.int .i64 0, .slice none 0 0, .string ⟨#[]⟩, .slice none 0 0, .bool false]) ?_ rfl ?_
    · simp [results, Tryz.results7, go_sem, j0, j1, j2, j3, j4]
    · rw [HP.out]; exact F.out
  · have HP : Hid (itP b = itR b) := if_neg hb
    have h1 : 1 ≤ l := by rw [← hl]; cases b; exact absurd rfl hb; simp
    have ND := newDec_any b A l cap w0
    have DD := Lib.hid (dh_of hl hc hcm hl2 H y0)
    have M0 := Lib.hid (hM.below y0)
    have IT := Lib.hid (fun w1 X => ditem_any DD.out M0.out (w := w1) (nd := 0) X)
    have I0 := Lib.hid I0
    have Y0 := Lib.hid y0
    clear H hM hl hc hcm hb y0
    go_enter Tryz.func7, Tryz.ntmps7
    go_wp2_with fail
    refine ND.mono ?_
    rintro e w1 ⟨rfl, X1, hb1⟩
    rw [z0] at X1 ⊢
    have IT1 := IT.out w1 (by rw [z0]; exact X1)
    rw [z0] at IT1
    clear ND hb1 X1 IT DD M0
    go_wp2_with fail
    refine IT1.mono ?_
    rintro e w2 ⟨⟨A', c', B, c2, rfl, hO, hT⟩, k, p, nd, d, m, X2, -⟩
    have B2 := X2.bel
    have I2 : ItAt w2 n _ _ _ _ _ := (B2.block n (by omega)).trans I0.out
    obtain ⟨w3, hw3, i1, i2, i3, i4, i5, i6⟩ := I2.put (itR b).kind (.slice A' (itR b).raw.length c') (sB (itR b).m) (.slice B (itR b).C.length c2) (itR b).al
    obtain ⟨k0, k1, k2, k3, k4, k5⟩ := I2.cells
    obtain ⟨j0, j1, j2, j3, j4, j5⟩ := i1.cells
    have F := Lib.hid (retIt_put (w := w) (w1 := w2) (w2 := w3) (x := itR b) HN.out ((show Below n w w0 by rw [← HN.out]; exact Y0.out).trans (B2.mono (by omega))) I2.lt hO hT ⟨i2, i4, i5⟩)
    clear IT1 hO hT X2 B2 I2 i1 i2 i3 i4 i5 i6 I0 Y0
    go_wp2
    refine bodyPost_ret (v := .agg #[.int .i64 (itR b).kind, .slice A' (itR b).raw.length c', .string (sB (itR b).m), .slice B (itR b).C.length c2, .bool (itR b).al]) ?_ rfl ?_
    · simp [results, Tryz.results7, go_sem, j0, j1, j2, j3, j4]
    · rw [HP.out]; exact F.out
theorem dneed_any (b : Str) (A : Option Addr) (cap l : Nat) (hl : b.length = l) (hc : l ≤ cap) (hcm : cap ≤ maxLen) (hl2 : l ≤ 100000) (w : World) (H : BytesAt w A b) (hM : MaxAt w) :
    Calls Tryz.prog 17 #[.slice A l cap] w fun e w' => e = .returned (.int .i64 (needR b : Nat)) ∧ Below w.heap.size w w' := by
  have ND := newDec_any b A l cap w
  have DD := Lib.hid (dh_of hl hc hcm hl2 H (Below.refl _ w))
  have IT := Lib.hid (fun w1 X => ditem_any DD.out hM (w := w1) (nd := 0) X)
  have RN : Hid ((itR b).kind ≠ 4 → (itR b).raw.length = needR b) := fun h => by
    by_cases hb : b = []
    · subst hb; exact absurd rfl h
    · exact raw_need hb h
  obtain ⟨nn, hnn⟩ : ∃ z, needR b = z := ⟨_, rfl⟩
  have HNN := Lib.hid hnn
  rw [hnn] at RN ⊢
  clear H hM hl hc hcm hnn
  go_enter Tryz.func17, Tryz.ntmps17
  go_wp2_with fail
  refine ND.mono ?_
  rintro e w1 ⟨rfl, X1, hb1⟩
  have IT1 := IT.out w1 X1
  clear ND hb1 X1 IT DD
  go_wp2_with fail
  refine IT1.mono ?_
  rintro e w2 ⟨⟨A', c', B, c2, rfl, -, -⟩, k, p, nd, d, m, X2, hN⟩
  obtain ⟨x, w3, hx, hw3, S3, y3, z3⟩ := Fr.box (Fr.nil w2) #[.int .i64 (itR b).kind, .slice A' (itR b).raw.length c', .string (sB (itR b).m), .slice B (itR b).C.length c2, .bool (itR b).al] 31
  have I3 : ItAt w3 x (itR b).kind (.slice A' (itR b).raw.length c') (sB (itR b).m) (.slice B (itR b).C.length c2) (itR b).al := S3.out.1
  have B2 := Lib.hid (X2.bel.trans (y3.mono (Nat.le_of_lt X2.lt)))
  have X3 := X2.all y3
  obtain ⟨j0, j1, j2, j3, j4, j5⟩ := I3.cells
  obtain ⟨e0, e1, e2, e3, e4, e5, e6⟩ := X3.cells
  obtain ⟨kind, hkd⟩ : ∃ z, (itR b).kind = z := ⟨_, rfl⟩
  obtain ⟨rl, hrl⟩ : ∃ z, (itR b).raw.length = z := ⟨_, rfl⟩
  rw [hkd, hrl] at RN
  rw [hkd, HNN.out] at hN
  rw [hkd] at j0
  rw [hrl] at j1
  by_cases h4 : kind = 4
  · subst h4
    obtain rfl := hN rfl
    have hk4 : ((4 : Int) == 4) = true := rfl
    clear IT1 X2 X3 I3 S3 y3 hkd hrl hN RN HNN
    go_wp2
    go_ret
    exact ⟨rfl, B2.out⟩
  · have hk4 : (kind == 4) = false := beq_eq_false_iff_ne.2 h4
    have HR := RN.out h4
    subst HR
    clear IT1 X2 X3 I3 S3 y3 hkd hrl hN RN HNN h4
    go_wp2
    go_ret
    exact ⟨rfl, B2.out⟩
theorem inst_put {w : World} {c : Nat} {v0 v1 : Value} (h : w.heap[c]? = some (.cells #[v0, v1] 24 (0, 0))) (x u : Value) :
    ∃ w', (w.setCell ⟨c, 0, none⟩ x).setCell ⟨c, 1, none⟩ u = w' ∧ w'.heap[c]? = some (.cells #[x, u] 24 (0, 0)) ∧ Below c w w' ∧ ∀ B v C, OwnT w B v C → OwnT w' B v C := by
  have s : ∀ k, k ≠ c → ((w.setCell ⟨c, 0, none⟩ x).setCell ⟨c, 1, none⟩ u).heap[k]? = w.heap[k]? := fun k hk => (heap_setCell_other _ ⟨c, 1, none⟩ k _ hk).trans (heap_setCell_other _ ⟨c, 0, none⟩ k _ hk)
  refine ⟨_, rfl, heap_setCell_same _ c 1 _ _ u (heap_setCell_same w c 0 _ _ x h), ((Below.refl c w).setCell (p := ⟨c, 0, none⟩) (Nat.le_refl _) _).setCell (p := ⟨c, 1, none⟩) (Nat.le_refl _) _, fun B v C O => ⟨O.1, ?_⟩⟩
  rcases O.2 with e | ⟨g, cap, cur, e1, e2, e3, e4⟩
  · exact .inl e
  · refine .inr ⟨g, cap, cur, e1, e2, (s g (fun e => ?_)).trans e3, e4⟩
    subst e
    rw [h] at e3
    simp at e3
def isB (b : Str) : Bool := decide ((itP b).kind = 1) && decide ((itP b).raw.length = b.length)
def RetIn (w : World) (b : Str) (e : Ending) (w' : World) : Prop := ∃ (m : Str) (C : List Tr) (B : Option Addr) (c : Nat), e = .returned (.tuple #[.agg #[.string (sB m), .slice B C.length c], .bool (isB b)]) ∧ OwnT w' w.heap.size (.slice B C.length c) C ∧ Below w.heap.size w w' ∧
  (isB b = true → m = (itP b).m ∧ C = (itP b).C) ∧ (isB b = false → m = [] ∧ C = [])
theorem dinst_any (b : Str) (A : Option Addr) (cap l : Nat) (hl : b.length = l) (hc : l ≤ cap) (hcm : cap ≤ maxLen) (hl2 : l ≤ 100000) (w : World) (H : BytesAt w A b) (hM : MaxAt w) :
    Calls Tryz.prog 9 #[.slice A l cap] w (RetIn w b) := by
  obtain ⟨n, hn⟩ : ∃ z, w.heap.size = z := ⟨_, rfl⟩
  obtain ⟨n0, w0, hn0, hw0, S0, y0, z0⟩ := Fr.box (Fr.nil w) #[.string ⟨#[]⟩, .slice none 0 0] 24
  obtain rfl : n0 = n := by omega
  have b0 : w0.heap[n0]? = some (.cells #[.string ⟨#[]⟩, .slice none 0 0] 24 (0, 0)) := S0.out.1
  have FI := dfirst_any b A cap l hl hc hcm hl2 w0 (H.below y0) (hM.below y0)
  have HN := Lib.hid hn
  have IB : Hid (isB b = (decide ((itP b).kind = 1) && decide ((itP b).raw.length = l))) := by show isB b = _; unfold isB; rw [hl]
  obtain ⟨x, hx⟩ : ∃ z, itP b = z := ⟨_, rfl⟩
  have HX := Lib.hid hx
  rw [hx] at FI IB
  have b0 := Lib.hid b0
  have Y0 : Hid (Below n0 w w0) := by rw [← hn]; exact y0
  clear H hM hl hc hcm hx S0 y0
  go_enter Tryz.func9, Tryz.ntmps9
  go_wp2_with fail
  refine FI.mono ?_
  rintro e w1 ⟨A', c', B, c2, rfl, hO, hT, hb⟩
  obtain ⟨y, w2, hy, hw2, S2, y2, z2⟩ := Fr.box (Fr.nil w1) #[.int .i64 x.kind, .slice A' x.raw.length c', .string (sB x.m), .slice B x.C.length c2, .bool x.al] 31
  have I2 : ItAt w2 y x.kind (.slice A' x.raw.length c') (sB x.m) (.slice B x.C.length c2) x.al := S2.out.1
  have T2 := hT.below y2
  have B2 : Hid (Below n0 w w2) := Y0.out.trans ((hb.trans (y2.mono hb.size)).mono (by omega))
  have b2 : w2.heap[n0]? = some (.cells #[.string ⟨#[]⟩, .slice none 0 0] 24 (0, 0)) := ((hb.trans (y2.mono hb.size)).block n0 (by omega)).trans b0.out
  obtain ⟨j0, j1, j2, j3, j4, j5⟩ := I2.cells
  obtain ⟨q0, q1⟩ := Fr.cells2 b2
  have qf := fun i => Lib.frozen_of_heap b2 i
  rw [z0] at T2
  have T2 := Lib.hid T2
  obtain ⟨kd, hkd⟩ : ∃ z, x.kind = z := ⟨_, rfl⟩
  obtain ⟨rl, hrl⟩ : ∃ z, x.raw.length = z := ⟨_, rfl⟩
  rw [hkd, hrl] at IB
  rw [hkd] at j0
  rw [hrl] at j1
  clear FI hO hT hb S2 y2 I2 hkd hrl b0
  by_cases h : kd = 1 ∧ rl = l
  · obtain ⟨rfl, rfl⟩ := h
    have hi : Hid (isB b = true) := by show isB b = true; rw [IB.out, decide_eq_true rfl, decide_eq_true rfl]; rfl
    obtain ⟨w3, hw3, i1, i2, i3⟩ := inst_put b2 (.string (sB x.m)) (.slice B x.C.length c2)
    obtain ⟨g0, g1⟩ := Fr.cells2 i1
    have F : Hid (RetIn w b (.returned (.tuple #[.agg #[.string (sB x.m), .slice B x.C.length c2], .bool true])) w3) :=
      ⟨x.m, x.C, B, c2, by rw [hi.out], row_mono (i3 _ _ _ T2.out) (by rw [HN.out]; omega), by rw [HN.out]; exact B2.out.trans i2, fun _ => by rw [HX.out]; exact ⟨rfl, rfl⟩, fun h => absurd (hi.out.symm.trans h) (by decide)⟩
    clear i1 i2 i3 b2 T2 B2 IB hi HX
    have t1 : ((1 : Int) != 1) = false := rfl
    have t2 : ((rl : Int) != (rl : Int)) = false := bne_self_eq_false _
    go_wp2
    refine bodyPost_ret (v := .tuple #[.agg #[.string (sB x.m), .slice B x.C.length c2], .bool true]) ?_ rfl F.out
    simp [results, Tryz.results9, go_sem, g0, g1]
  · have hi : Hid (isB b = false) := by
      show isB b = false
      rw [IB.out]
      by_cases h1 : kd = 1
      · rw [decide_eq_false (fun h2 => h ⟨h1, h2⟩), Bool.and_false]
      · rw [decide_eq_false h1, Bool.false_and]
    obtain ⟨w3, hw3, i1, i2, i3⟩ := inst_put b2 (.string ⟨#[]⟩) (.slice none 0 0)
    obtain ⟨g0, g1⟩ := Fr.cells2 i1
    have F : Hid (RetIn w b (.returned (.tuple #[.agg #[.string ⟨#[]⟩, .slice none 0 0], .bool false])) w3) :=
      ⟨[], [], none, 0, by rw [hi.out]; rfl, ownT_nil _ _, by rw [HN.out]; exact B2.out.trans i2, fun h => absurd (hi.out.symm.trans h) (by decide), fun _ => ⟨rfl, rfl⟩⟩
    clear i1 i2 i3 b2 T2 B2 IB hi HX
    have hh : (kd != 1) = true ∨ ((kd != 1) = false ∧ ((rl : Int) != (l : Int)) = true) := by
      by_cases h1 : kd = 1
      · exact .inr ⟨by rw [h1]; rfl, bne_iff_ne.2 (fun e => h ⟨h1, by omega⟩)⟩
      · exact .inl (bne_iff_ne.2 h1)
    clear h
    rcases hh with t1 | ⟨t1, t2⟩
    · go_wp2
      refine bodyPost_ret (v := .tuple #[.agg #[.string ⟨#[]⟩, .slice none 0 0], .bool false]) ?_ rfl F.out
      simp [results, Tryz.results9, go_sem, g0, g1]
    · go_wp2
      refine bodyPost_ret (v := .tuple #[.agg #[.string ⟨#[]⟩, .slice none 0 0], .bool false]) ?_ rfl F.out
      simp [results, Tryz.results9, go_sem, g0, g1]
end Go.Proofs.YtclhaejdjogfbaaGreatDoor
namespace Go.Proofs.YtclhaejdjogfbaaGreatDoor
open Go.RowKit Go.Shelf
attribute [local go_sem] Oper.semAt_some
theorem it_ex1 : (itR [221, 0]).kind = 2 ∧ (itR [221, 0]).raw.length = 1 := by decide +kernel
theorem it_ex2 : (itR [221, 203, 5]).kind = 4 ∧ (itR [221, 203, 5]).raw.length = 3 := by decide +kernel
theorem need_ex : needR [221, 203, 5] = 4 := by decide +kernel
theorem bytes_new3 (w : World) : BytesAt (w.alloc (.cells #[.int .u8 221, .int .u8 203, .int .u8 5] 5)) (some ⟨w.heap.size, 0, none⟩) [221, 203, 5] := by
  have h := own_lit w [221, 203, 5] (by decide)
  obtain ⟨A', c', e, hP⟩ := h.bytes
  simp only [Value.slice.injEq] at e
  obtain ⟨rfl, -, -⟩ := e
  exact hP
theorem alive12_any (w : World) (hM : MaxAt w) : Calls Tryz.prog 5 #[] w fun e w' => e = .returned (.bool true) ∧ Below w.heap.size w w' := by
  obtain ⟨E1k, E1r⟩ := it_ex1
  obtain ⟨E2k, E2r⟩ := it_ex2
  have MX : Hid (∀ w2, Below w.heap.size w w2 → MaxAt w2) := fun w2 h => hM.below h
  obtain ⟨g1, w1, hg1, hw1, S1, y1, z1⟩ := Fr.box (Fr.nil w) #[.int .u8 221, .int .u8 0] 5
  have F1 := dfirst_any [221, 0] (some ⟨g1, 0, none⟩) 2 2 rfl (Nat.le_refl _) (by unfold maxLen; omega) (by decide) w1 (by rw [← hw1, ← hg1]; exact bytes_new2 w 221 0) (MX.out _ y1)
  rw [itP_ne (by decide)] at F1
  obtain ⟨x1, hx1⟩ : ∃ z, itR [221, 0] = z := ⟨_, rfl⟩
  rw [hx1] at F1 E1k E1r
  have B1 := Lib.hid y1
  clear hx1 y1 S1 hM
  go_enter Tryz.func5, Tryz.ntmps5
  go_wp2_with fail
  refine F1.mono ?_
  rintro e w2 ⟨A1, c1, C1, d1, rfl, -, -, hb2⟩
  rw [E1k, E1r]
  have B2 : Hid (Below w.heap.size w w2) := B1.out.trans (hb2.mono B1.out.size)
  obtain ⟨g3, w3, hg3, hw3, S3, y3, z3⟩ := Fr.box (Fr.nil w2) #[.int .u8 221, .int .u8 203, .int .u8 5] 5
  have B3 : Hid (Below w.heap.size w w3) := B2.out.trans (y3.mono B2.out.size)
  have F3 := dfirst_any [221, 203, 5] (some ⟨g3, 0, none⟩) 3 3 rfl (Nat.le_refl _) (by unfold maxLen; omega) (by decide) w3 (by rw [← hw3, ← hg3]; exact bytes_new3 w2) (MX.out _ B3.out)
  rw [itP_ne (by decide)] at F3
  obtain ⟨x3, hx3⟩ : ∃ z, itR [221, 203, 5] = z := ⟨_, rfl⟩
  rw [hx3] at F3 E2k E2r
  clear F1 hb2 B1 B2 S3 y3 hx3
  go_wp2_with fail
  refine F3.mono ?_
  rintro e w4 ⟨A3, c3, C3, d3, rfl, -, -, hb4⟩
  rw [E2k, E2r]
  have B4 : Hid (Below w.heap.size w w4) := B3.out.trans (hb4.mono B3.out.size)
  obtain ⟨g5, w5, hg5, hw5, S5, y5, z5⟩ := Fr.box (Fr.nil w4) #[.int .i64 2, .slice A1 1 c1, .string (sB x1.m), .slice C1 x1.C.length d1, .bool x1.al] 31
  obtain ⟨g6, w6, hg6, hw6, S6, y6, z6⟩ := Fr.box S5 #[.int .i64 4, .slice A3 3 c3, .string (sB x3.m), .slice C3 x3.C.length d3, .bool x3.al] 31
  obtain rfl : g6 = g5 + 1 := by omega
  have I6 : ItAt w6 (g5 + 1) 4 (.slice A3 3 c3) (sB x3.m) (.slice C3 x3.C.length d3) x3.al := S6.out.1
  have I5 : ItAt w6 g5 2 (.slice A1 1 c1) (sB x1.m) (.slice C1 x1.C.length d1) x1.al := S6.out.2.1
  obtain ⟨i0, i1, -, -, -, -⟩ := I5.cells
  obtain ⟨j0, j1, -, -, -, -⟩ := I6.cells
  have B6 : Hid (Below w.heap.size w w6) := B4.out.trans ((y5.trans (y6.mono y5.size)).mono B4.out.size)
  obtain ⟨g7, w7, hg7, hw7, S7, y7, z7⟩ := Fr.box (Fr.nil w6) #[.int .u8 221, .int .u8 203, .int .u8 5] 5
  obtain rfl : g7 = g5 + 1 + 1 := by omega
  have B7 : Hid (Below w.heap.size w w7) := B6.out.trans (y7.mono B6.out.size)
  have F7 := dneed_any [221, 203, 5] (some ⟨g5 + 1 + 1, 0, none⟩) 3 3 rfl (Nat.le_refl _) (by unfold maxLen; omega) (by decide) w7 (by rw [← hw7, ← hg7]; exact bytes_new3 w6) (MX.out _ B7.out)
  rw [need_ex] at F7
  clear F3 hb4 B3 B4 S5 y5 S6 y6 I5 I6 B6 S7 y7
  go_wp2_with fail
  refine F7.mono ?_
  rintro e w8 ⟨rfl, hb8⟩
  have B8 : Hid (Below w.heap.size w w8) := B7.out.trans (hb8.mono B7.out.size)
  clear F7 hb8 B7
  go_wp2
  go_ret
  exact ⟨rfl, B8.out⟩
end Go.Proofs.YtclhaejdjogfbaaGreatDoor
namespace Go.Proofs.YtclhaejdjogfbaaGreatDoor
open Go.RowKit Go.Shelf
theorem TOwnB.bytesP {w : World} {n m c : Nat} {A : Option Addr} {xs : Str} (h : TOwnB w n (.slice A m c) xs) : BytesAt w A xs := by
  obtain ⟨A', c', e, hP⟩ := h.bytes
  simp only [Value.slice.injEq] at e
  obtain ⟨rfl, -, -⟩ := e
  exact hP
end Go.Proofs.YtclhaejdjogfbaaGreatDoor
namespace Go.Proofs.YtclhaejdjogfbaaGreatDoor
open Go.RowKit Go.Shelf
attribute [local go_sem] Oper.semAt_some
theorem sBq_neq (xs ys : Str) : ((sB xs).toList == (sB ys).toList) = decide (xs = ys) := by
  rw [sB_eq, ByteArray.toList_eq, show (sB ys).data.toList = ys by simp [sB]]
theorem two_kept {w w3 : World} {o1 o2 : Array Value} {T : TypeId} (hb : Below ((w.alloc (.cells o1 T)).alloc (.cells o2 T)).heap.size ((w.alloc (.cells o1 T)).alloc (.cells o2 T)) w3) : w3.heap[w.heap.size]? = some (.cells o1 T (0, 0)) ∧ w3.heap[w.heap.size + 1]? = some (.cells o2 T (0, 0)) := by
  constructor
  · exact (hb.block _ (by simp; omega)).trans (((up_alloc (w.alloc (.cells o1 T)) (.cells o2 T)).block _ (by simp)).trans (heap_alloc_new w _))
  · refine (hb.block _ (by simp)).trans ?_
    have h := heap_alloc_new (w.alloc (.cells o1 T)) (.cells o2 T)
    rwa [show (w.alloc (.cells o1 T)).heap.size = w.heap.size + 1 by simp] at h
theorem rsame12_any (k1 k2 : Int) (xs ys : Str) (m1 m2 : Str) (al1 al2' : Bool) (A1 A2 B1 B2 : Option Addr) (c1 c2 d1 d2 : Nat) (L1 L2 : List Tr) (h1 : L1.length ≤ 1000) (h2 : L2.length ≤ 1000) (w : World) (H1 : BytesAt w A1 xs) (H2 : BytesAt w A2 ys) (P1 : OpsP w B1 L1) (P2 : OpsP w B2 L2) :
    Calls Tryz.prog 11 #[.agg #[.int .i64 k1, .slice A1 xs.length c1, .string (sB m1), .slice B1 L1.length d1, .bool al1], .agg #[.int .i64 k2, .slice A2 ys.length c2, .string (sB m2), .slice B2 L2.length d2, .bool al2']] w
      fun e w' => e = .returned (.bool (decide (k1 = k2) && decide (xs = ys) && (decide (m1 = m2) && decide (L1 = L2)) && (al1 == al2'))) ∧ Below w.heap.size w w' := by
  have UU := Lib.hid (al2 w)
  by_cases hk : k1 = k2
  · subst hk
    rw [decide_eq_true rfl, Bool.true_and]
    have X1 := Lib.hid H1
    have X2 := Lib.hid H2
    have SM := Lib.hid (fun o1 o2 => rsame_any m1 m2 B1 B2 d1 d2 L1 L2 h1 h2 ((w.alloc o1).alloc o2) (P1.below (al2 w o1 o2)) (P2.below (al2 w o1 o2)))
    have s1 := fun o1 o2 => conv_sB (H1.below (al2 w o1 o2)) c1
    have s2 := fun o1 o2 => conv_sB (H2.below (al2 w o1 o2)) c2
    obtain ⟨n1, hn1⟩ : ∃ n, L1.length = n := ⟨_, rfl⟩
    obtain ⟨n2, hn2⟩ : ∃ n, L2.length = n := ⟨_, rfl⟩
    obtain ⟨y1, hy1⟩ : ∃ n, xs.length = n := ⟨_, rfl⟩
    obtain ⟨y2, hy2⟩ : ∃ n, ys.length = n := ⟨_, rfl⟩
    have E := sBq_neq xs ys
    rw [hn1, hn2] at SM ⊢
    rw [hy1] at s1 ⊢
    rw [hy2] at s2 ⊢
    clear H1 H2 P1 P2 h1 h2 hn1 hn2 hy1 hy2
    by_cases he : xs = ys
    · rw [decide_eq_true he] at E ⊢
      rw [Bool.true_and]
      clear he
      obtain ⟨e1, he1⟩ : ∃ e, (decide (m1 = m2) && decide (L1 = L2)) = e := ⟨_, rfl⟩
      rw [he1] at SM ⊢
      clear he1
      go_enter Tryz.func11, Tryz.ntmps11
      go_wp2_with fail
      refine (SM.out _ _).mono ?_
      rintro e w3 ⟨rfl, hb3⟩
      have B3 : Hid (Below w.heap.size w w3) := up (UU.out _ _) hb3
      obtain ⟨z1, z2⟩ := two_kept hb3
      have y1 := Lib.cell_of_heap z1 4
      have y2 := Lib.cell_of_heap z2 4
      clear SM hb3 s1 s2 z1 z2
      cases e1
      · go_wp2
        go_ret
        exact ⟨by simp, B3.out⟩
      · go_wp2
        go_ret
        exact ⟨by simp, B3.out⟩
    · rw [decide_eq_false he] at E ⊢
      simp only [Bool.false_and]
      clear SM
      go_enter Tryz.func11, Tryz.ntmps11
      go_wp2
      go_ret
      exact ⟨rfl, UU.out _ _⟩
  · rw [decide_eq_false hk]
    simp only [Bool.false_and]
    have hk2 : (k1 == k2) = false := by simpa using hk
    clear H1 H2 P1 P2
    go_enter Tryz.func11, Tryz.ntmps11
    go_wp2
    go_ret
    exact ⟨rfl, UU.out _ _⟩
end Go.Proofs.YtclhaejdjogfbaaGreatDoor
namespace Go.Proofs.YtclhaejdjogfbaaGreatDoor
open Go.RowKit Go.Shelf
attribute [local go_sem] Oper.semAt_some
def BqP (w : World) (A : Option Addr) (Ls : List Str) : Prop := Ls = [] ∨ ∃ b off, A = some ⟨b, off, none⟩ ∧ ∀ k (h : k < Ls.length), ∃ Ak ck, w.cell? ⟨b, off + k, none⟩ = some (.slice Ak Ls[k].length ck) ∧ BytesAt w Ak Ls[k]
theorem BqP.below {w w' : World} {A : Option Addr} {Ls : List Str} (h : BqP w A Ls) (hb : Below w.heap.size w w') : BqP w' A Ls := by
  rcases h with rfl | ⟨b, off, rfl, hc⟩
  · exact .inl rfl
  · refine .inr ⟨b, off, rfl, fun k hk => ?_⟩
    obtain ⟨Ak, ck, h1, h2⟩ := hc k hk
    exact ⟨Ak, ck, (hb.cell (World.block_lt_of_cell? w _ h1)).trans h1, h2.below hb⟩
theorem BqP.at_ {w : World} {A : Option Addr} {Ls : List Str} (h : BqP w A Ls) {k : Nat} (hk : k < Ls.length) : ∃ b off Ak ck, A = some ⟨b, off, none⟩ ∧ w.cell? ⟨b, off + k, none⟩ = some (.slice Ak Ls[k].length ck) ∧ BytesAt w Ak Ls[k] := by
  rcases h with rfl | ⟨b, off, rfl, hc⟩
  · simp at hk
  · obtain ⟨Ak, ck, h1, h2⟩ := hc k hk
    exact ⟨b, off, Ak, ck, rfl, h1, h2⟩
theorem grow_nilB (n : Nat) (hn : n ≤ 100000) (w : World) :
    Calls Tryz.prog 22 #[.slice none 0 0, .int .i64 n] w fun e w' => ∃ A c, e = .returned (.slice A 0 c) ∧ TOwnB w' w.heap.size (.slice A 0 c) [] ∧ Below w.heap.size w w' := by
  by_cases h0 : n = 0
  · subst h0
    go_enter Tryz.func22, Tryz.ntmps22
    go_wp2
    go_ret
    exact ⟨none, 0, rfl, townB_nil _ _, Below.refl _ _⟩
  · have h1 : 1 ≤ n := by omega
    go_enter Tryz.func22, Tryz.ntmps22
    go_wp2
    · exfalso; rename_i x1 x0; have := (show (281474976710656 : Int) < (n : Int) * ((1 : Nat) : Int) from x1); omega
    · exfalso; rename_i x1 x0; have := (show (281474976710656 : Int) < (n : Int) * ((1 : Nat) : Int) from x1); omega
    · exfalso
      rename_i x3 x2 x1 x0
      have h := (show 281474976710656 < Builtin.nextslicecap n 0 * 1 from x3)
      unfold Builtin.nextslicecap at h
      rw [if_pos (by omega)] at h
      omega
    · have g1 : n ≤ grownCap w n 0 5 := grownCap_ge w _ _ _
      have g2 : grownCap w n 0 5 ≤ maxLen := grownCap_le_maxLen w _ _ _ (by unfold maxLen; omega)
      go_ret
      refine ⟨some ⟨w.heap.size, 0, none⟩, grownCap w n 0 5, rfl, ⟨rfl, .inr ⟨w.heap.size, grownCap w n 0 5, _, rfl, Nat.le_refl _, heap_alloc_new w _, Nat.zero_le _, g2, ?_, by simp [cellsB]⟩⟩, ?_⟩
      · simp [Builtin.zeroCells]
        show n + (grownCap w n 0 5 - n) = _
        omega
      · exact ((Below.refl _ _).alloc (Nat.le_refl _) _).drew
def preL (Ls : List Str) (j : Nat) : Str := (Ls.take j).flatten
theorem preL_succ {Ls : List Str} {j : Nat} (h : j < Ls.length) : preL Ls (j + 1) = preL Ls j ++ Ls[j] := by
  have e : Ls.take (j + 1) = Ls.take j ++ [Ls[j]] := by rw [List.take_add_one, List.getElem?_eq_getElem h]; rfl
  unfold preL
  rw [e, List.flatten_append, List.flatten_singleton]
theorem preL_all (Ls : List Str) : preL Ls Ls.length = Ls.flatten := by unfold preL; rw [List.take_length]
theorem preL_le (Ls : List Str) (j : Nat) : (preL Ls j).length ≤ Ls.flatten.length := by
  have h : Ls.flatten = preL Ls j ++ (Ls.drop j).flatten := by unfold preL; rw [← List.flatten_append, List.take_append_drop]
  rw [h, List.length_append]
  omega
theorem concatB_any (Ls : List Str) (m : Nat) (hm : Ls.length = m) (hm2 : m ≤ 1000) (t : Nat) (ht : Ls.flatten.length = t) (hs : t ≤ 100000) (A : Option Addr) (c : Nat) (w : World) (H : BqP w A Ls) :
    Calls Tryz.prog 8 #[.slice A m c] w fun e w' => ∃ A' c', e = .returned (.slice A' t c') ∧ TOwnB w' w.heap.size (.slice A' t c') Ls.flatten ∧ Below w.heap.size w w' := by
  have HM := Lib.hid hm
  have HT := Lib.hid ht
  have HP := Lib.hid H
  have HF : Hid (preL Ls m = Ls.flatten) := by subst hm; exact preL_all Ls
  have HS : Hid (∀ j (h : j < m), ∃ x, preL Ls (j + 1) = preL Ls j ++ x ∧ (preL Ls j).length + x.length ≤ t ∧ ∀ wr, Below w.heap.size w wr → ∃ b off Ak ck, A = some ⟨b, off, none⟩ ∧ wr.cell? ⟨b, off + j, none⟩ = some (.slice Ak x.length ck) ∧ BytesAt wr Ak x) := fun j h => by
    have hj : j < Ls.length := by omega
    refine ⟨Ls[j], preL_succ hj, ?_, fun wr hb => (H.below hb).at_ hj⟩
    have := preL_le Ls (j + 1)
    rw [preL_succ hj, List.length_append] at this
    omega
  clear H hm ht
  go_enter Tryz.func8, Tryz.ntmps8
  go_wp2
  go_loopw [3, 11] (fun vs vi wr => ∃ j : Nat, j ≤ m ∧ vi = .int .i64 j ∧ vs = .int .i64 ((preL Ls j).length : Nat) ∧ Hid (Below w.heap.size w wr)) (fun _ vi _ => m - (intOf vi).toNat)
  case atStart => exact ⟨0, Nat.zero_le _, rfl, rfl, Below.refl _ _⟩
  case round =>
    obtain ⟨j, hj, rfl, rfl, B⟩ := hrel
    by_cases hlt : j < m
    · obtain ⟨x, hx, hl, hc⟩ := HS.out j hlt
      obtain ⟨g, off, Ak, ck, rfl, e1, -⟩ := hc wr B.out
      have LX : Hid ((preL Ls (j + 1)).length = (preL Ls j).length + x.length) := by show _ = _; rw [hx, List.length_append]
      obtain ⟨k0, hk0⟩ : ∃ z, (preL Ls j).length = z := ⟨_, rfl⟩
      obtain ⟨k1, hk1⟩ : ∃ z, x.length = z := ⟨_, rfl⟩
      rw [hk0, hk1] at hl LX
      rw [hk1] at e1
      rw [hk0]
      clear hk0 hk1 hx hc
      go_wp2
      go_roundw
      case rel => exact ⟨j + 1, by omega, by go_num, by rw [LX.out]; go_num, B⟩
      case measure => simp [intOf]; omega
    · obtain rfl : m = j := by omega
      rw [HF.out, HT.out]
      have GR := Lib.hid (grow_nilB t hs wr)
      have ZB : Hid (w.heap.size ≤ wr.heap.size) := B.out.size
      go_wp2_with fail
      refine GR.out.mono ?_
      rintro e w1 ⟨A1, c1, rfl, hO, hb⟩
      have O1 : Hid (TOwnB w1 w.heap.size (.slice A1 0 c1) (preL Ls 0)) := hO.lift ZB.out
      have B1 : Hid (Below w.heap.size w w1) := B.out.trans (hb.mono ZB.out)
      clear GR hO hb ZB B
      go_wp2
      go_loopw [6, 27] (fun v vi wr => ∃ j k : Nat, ∃ A2 c2, j ≤ m ∧ vi = .int .i64 j ∧ v = .slice A2 k c2 ∧ Hid ((preL Ls j).length = k ∧ TOwnB wr w.heap.size (.slice A2 k c2) (preL Ls j) ∧ Below w.heap.size w wr)) (fun _ vi _ => m - (intOf vi).toNat)
      case atStart => exact ⟨0, 0, A1, c1, Nat.zero_le _, rfl, rfl, rfl, O1.out, B1.out⟩
      case round =>
        obtain ⟨j, k, A2, c2, hj, rfl, rfl, F⟩ := hrel
        by_cases hlt : j < m
        · obtain ⟨x, hx, hl, hc⟩ := HS.out j hlt
          obtain ⟨g, off, Ak, ck, rfl, e1, hP⟩ := hc wr F.out.2.2
          have HX := Lib.hid hx
          obtain ⟨q, hq⟩ : ∃ z, x.length = z := ⟨_, rfl⟩
          have HQ := Lib.hid hq
          rw [hq] at e1
          rw [F.out.1, hq] at hl
          have PX := Lib.hid hP
          have OF : Hid (TOwnB wr w.heap.size (.slice A2 k c2) (preL Ls j)) := F.out.2.1
          have ZF : Hid (w.heap.size ≤ wr.heap.size) := F.out.2.2.size
          have NX : Hid (∀ A3 c3 w3, TOwnB w3 w.heap.size (.slice A3 (k + q) c3) (preL Ls j ++ x) → Below w.heap.size wr w3 → Hid ((preL Ls (j + 1)).length = k + q ∧ TOwnB w3 w.heap.size (.slice A3 (k + q) c3) (preL Ls (j + 1)) ∧ Below w.heap.size w w3)) := fun A3 c3 w3 h1 h2 => by
            rw [HX.out]
            exact ⟨by rw [List.length_append, F.out.1, HQ.out], h1, F.out.2.2.trans h2⟩
          have HK : Hid ((preL Ls j).length = k) := F.out.1
          have HSM : Hid ((preL Ls j).length + x.length ≤ 100000) := by show _ ≤ _; rw [HK.out, HQ.out]; omega
          clear hx hc hq hP F
          go_wp2_with (at_builtin; refine wpList_appBs OF.out PX.out ZF.out HSM.out rfl _ _ rfl rfl rfl q HQ.out rfl (k + q) (by rw [HK.out]) ?_; intro A3 c3 w3 h1 h2; have F3 := NX.out A3 c3 w3 h1 h2; clear h1 h2)
          go_roundw
          case rel => exact ⟨j + 1, k + q, A3, c3, by omega, by go_num, rfl, F3⟩
          case measure => simp [intOf]; omega
        · obtain rfl : m = j := by omega
          have hk : k = t := by rw [← F.out.1, HF.out, HT.out]
          subst hk
          have R := F.out.2
          rw [HF.out] at R
          clear F
          go_wp2
          go_ret
          exact ⟨A2, c2, rfl, R.1, R.2⟩
end Go.Proofs.YtclhaejdjogfbaaGreatDoor
namespace Go.Proofs.YtclhaejdjogfbaaGreatDoor
open Go.RowKit Go.Shelf
attribute [local go_sem] Oper.semAt_some
end Go.Proofs.YtclhaejdjogfbaaGreatDoor
namespace Go.Proofs.YtclhaejdjogfbaaGreatDoor
open Go.RowKit
theorem wid_4 {s : ByteArray} (L : List Tr) (h : I4 s) : (0 : Int) = widL (opc s) L := by rw [opc_4 h]; rfl
theorem wid_5 {s : ByteArray} (L : List Tr) (h : I5 s) : (2 : Int) = widL (opc s) L := by rw [opc_5 h]; rfl
theorem wid_6y {s : ByteArray} (L : List Tr) (h : I6 s) (k : 0 < L.length) (e : L[0].1 = 3) : (2 : Int) = widL (opc s) L := by
  rw [opc_6 h]
  cases L with
  | nil => simp at k
  | cons t r =>
    have e' : t.1 = 3 := e
    unfold widL
    rw [if_neg (by omega), if_neg (by omega), if_pos ⟨rfl, by simp [e']⟩]
theorem wid_6n {s : ByteArray} (L : List Tr) (h : I6 s) (e : ∀ k : 0 < L.length, ¬ L[0].1 = 3) : (1 : Int) = widL (opc s) L := by
  rw [opc_6 h]
  unfold widL
  rw [if_neg (by omega), if_neg (by omega), if_neg]
  rintro ⟨-, q⟩
  cases L with
  | nil => simp at q
  | cons t r => exact e (by simp) (by simpa using q)
theorem wid_o {s : ByteArray} (L : List Tr) (h4 : ¬ I4 s) (h5 : ¬ I5 s) (h6 : ¬ I6 s) : (1 : Int) = widL (opc s) L := by
  unfold widL
  rw [if_neg (opc_n4 h4), if_neg (opc_n5 h5), if_neg (fun q => opc_n6 h6 q.1)]
theorem width_any (s : ByteArray) (A : Option Addr) (cap : Nat) (L : List Tr) (hL : L.length ≤ 1000) (w : World) (H : OpsP w A L) :
    Calls Tryz.prog 121 #[.agg #[.string s, .slice A L.length cap]] w fun e w' => e = .returned (.int .i64 (widL (opc s) L)) ∧ Below w.heap.size w w' := by
  have B0 : Hid (Below w.heap.size w (w.alloc (.cells #[.string s, .slice A L.length cap] 24))) := (Below.refl _ _).alloc (Nat.le_refl _) _
  by_cases h4 : I4 s
  · have E := Lib.hid (wid_4 L h4)
    clear H
    rcases h4 with rfl | rfl | rfl | rfl | rfl | rfl
    all_goals
      go_enter Tryz.func121, Tryz.ntmps121
      go_wp2
      go_ret
      exact ⟨ret_int E.out, B0.out⟩
  by_cases h5 : I5 s
  · have E := Lib.hid (wid_5 L h5)
    clear H h4
    rcases h5 with rfl | rfl
    all_goals
      go_enter Tryz.func121, Tryz.ntmps121
      go_wp2
      go_ret
      exact ⟨ret_int E.out, B0.out⟩
  by_cases h6 : I6 s
  · have EY := Lib.hid (wid_6y L h6)
    have EN := Lib.hid (wid_6n L h6)
    have X := Lib.hid (H.below B0.out)
    clear h4 h5 H
    obtain rfl : s = _ := h6
    by_cases h0 : 0 < L.length
    · obtain ⟨b, off, rfl, hb, p0, p1, p2⟩ := X.out.at_ h0
      rw [Nat.zero_mul, Nat.add_zero] at p0
      obtain ⟨n, hn⟩ : ∃ n, L.length = n := ⟨_, rfl⟩
      have EY := Lib.hid (EY.out h0)
      have EN := Lib.hid (fun (q : ¬ L[0].1 = 3) => EN.out fun _ => q)
      obtain ⟨k, hk⟩ : ∃ k, L[0].1 = k := ⟨_, rfl⟩
      rw [hk] at EY EN p0
      have g1 : decide ((0 : Int) < (L.length : Int)) = true := decide_eq_true (by omega)
      have g2 : (0 : Int) < (L.length : Int) := by omega
      have hL2 : L.length ≤ 1000 := hL
      rw [hn] at hL p0 p1 p2 B0 X g1 g2 ⊢
      clear hn hk h0 p1 p2 hb
      by_cases hk3 : k = 3
      · have E := Lib.hid (EY.out hk3)
        subst hk3
        go_enter Tryz.func121, Tryz.ntmps121
        go_wp2
        go_ret
        exact ⟨ret_int E.out, B0.out⟩
      · have E := Lib.hid (EN.out hk3)
        go_enter Tryz.func121, Tryz.ntmps121
        go_wp2
        go_ret
        exact ⟨ret_int E.out, B0.out⟩
    · have e0 : L.length = 0 := by omega
      have E := Lib.hid (EN.out fun k => absurd k h0)
      rw [e0] at B0 ⊢
      clear h0 e0 X
      go_enter Tryz.func121, Tryz.ntmps121
      go_wp2
      go_ret
      exact ⟨ret_int E.out, B0.out⟩
  · have E := Lib.hid (wid_o L h4 h5 h6)
    clear H
    simp only [I4, not_or] at h4
    simp only [I5, not_or] at h5
    obtain ⟨n1, n2, n3, n4, n5, n6⟩ := h4
    obtain ⟨n7, n8⟩ := h5
    have n9 : ¬ s = _ := h6
    have q1 : (s.toList == [66, 73, 84]) = false := by simpa using strB_ne n1
    have q2 : (s.toList == [82, 69, 83]) = false := by simpa using strB_ne n2
    have q3 : (s.toList == [83, 69, 84]) = false := by simpa using strB_ne n3
    have q4 : (s.toList == [73, 77]) = false := by simpa using strB_ne n4
    have q5 : (s.toList == [82, 83, 84]) = false := by simpa using strB_ne n5
    have q6 : (s.toList == [79, 85, 84]) = false := by simpa using strB_ne n6
    have q7 : (s.toList == [74, 80]) = false := by simpa using strB_ne n7
    have q8 : (s.toList == [67, 65, 76, 76]) = false := by simpa using strB_ne n8
    have q9 : (s.toList == [76, 68]) = false := by simpa using strB_ne n9
    clear n1 n2 n3 n4 n5 n6 n7 n8 n9 h6
    go_enter Tryz.func121, Tryz.ntmps121
    go_wp2
    go_ret
    exact ⟨ret_int E.out, B0.out⟩
end Go.Proofs.YtclhaejdjogfbaaGreatDoor
