/-
  The reference's Decode of any bytes.
-/
import Derived.Test.YtmnleknehjkmgaaGreatGAR
import Derived.Test.YtmnleknehjkmgaaGreatGAS
import Derived.Test.YtmnleknehjkmgaaGreatGAU
set_option linter.all false
set_option maxRecDepth 100000
set_option maxHeartbeats 4000000
namespace Go.Proofs.YtmnleknehjkmgaaGreat
open Go.RowKit Go.Shelf
attribute [local go_sem] Oper.semAt_some
def slLen : Value → Nat
  | .slice _ n _ => n
  | _ => 0
theorem rest_at {w : World} {g off : Nat} {xs : Str} (h : BytesAt w (some ⟨g, off, none⟩) xs) (k : Nat) : BytesAt w (some ⟨g, off + k, none⟩) (xs.drop k) := by
  rcases h with rfl | ⟨b, o, e, hc⟩
  · exact .inl (by simp)
  · simp only [Option.some.injEq, Addr.mk.injEq] at e
    obtain ⟨rfl, rfl, -⟩ := e
    refine .inr ⟨g, off + k, rfl, fun j hj => ?_⟩
    rw [List.length_drop] at hj
    rw [List.getElem_drop, Nat.add_assoc]
    exact hc (k + j) (by omega)
theorem rdecode13_any (b : Str) (A : Option Addr) (cap l : Nat) (hl : b.length = l) (hc : l ≤ cap) (hcm : cap ≤ maxLen) (hl2 : l ≤ 10000) (w : World) (H : BytesAt w A b) :
    Calls Tryz.prog 11 #[.slice A l cap] w (RetIts w (itemsR b)) := by
  obtain ⟨n, hn⟩ : ∃ z, w.heap.size = z := ⟨_, rfl⟩
  have HN := Lib.hid hn
  have HL := Lib.hid hl
  have HA : Hid (∀ w', Below n w w' → BytesAt w' A b) := fun w' hb => H.below (by rw [HN.out]; exact hb)
  have HC : Hid (l ≤ cap ∧ cap ≤ maxLen) := ⟨hc, hcm⟩
  have B0 : Hid (Below n w w) := Below.refl _ _
  have N0 : Hid (n ≤ w.heap.size) := Nat.le_of_eq hn.symm
  have L2 := Lib.hid hl2
  clear H hn hl hc hcm hl2
  go_enter Tryz.func11, Tryz.ntmps11
  go_wp2
  go_loopw [0, 3] (fun vb vo wr => ∃ (rest : Str) (A' : Option Addr) (k c' : Nat) (Ao : Option Addr) (ro co : Nat) (R : List Xe), vb = .slice A' k c' ∧ vo = .slice Ao ro co ∧ Hid (rest.length = k) ∧ Hid (k ≤ l) ∧ Hid (k ≤ c' ∧ c' ≤ maxLen) ∧ Hid (∀ w', Below n w w' → BytesAt w' A' rest) ∧ Hid (R.length = ro) ∧ Hid (OwnIt wr n (.slice Ao ro co) R) ∧ Hid (R.map Xe.x ++ itemsR rest = itemsR b) ∧ Hid (Below n w wr) ∧ Hid (n ≤ wr.heap.size)) (fun vb _ _ => slLen vb)
  case atStart => exact ⟨b, A, l, cap, none, 0, 0, [], rfl, rfl, HL.out, Nat.le_refl _, HC.out, HA.out, rfl, ownIt_nil _ _, rfl, B0.out, N0.out⟩
  case round =>
    clear B0 N0 HA HC
    obtain ⟨rest, A', k, c', Ao, ro, co, R, rfl, rfl, HK, KL, KC, KB, HR, OR, RR, BW, NW⟩ := hrel
    by_cases hk : k = 0
    · subst hk
      have hre : rest = [] := List.eq_nil_of_length_eq_zero HK.out
      have F : Hid (RetIts w (itemsR b) (.returned (.slice Ao ro co)) wr) := by
        have h := RR.out
        rw [hre, items_nil, List.append_nil] at h
        exact ⟨Ao, co, R, by rw [HR.out], h, by rw [HR.out, HN.out]; exact OR.out, by rw [HN.out]; exact BW.out⟩
      clear HK KL KC KB HR OR RR BW NW hre
      go_wp2
      go_ret
      exact F.out
    · have hne : Hid (rest ≠ []) := fun e => hk (by rw [← HK.out, e]; rfl)
      have FI := rfirst12_any rest hne.out A' c' k HK.out KC.out.1 KC.out.2 (Nat.le_trans KL.out L2.out) wr (KB.out wr BW.out)
      have hk0 : 0 < k := Nat.pos_of_ne_zero hk
      have CN : Hid (R.length + 1 ≤ 100000) := by
        have h1 := items_cnt RR.out
        have h2 := HL.out
        have h3 := L2.out
        show _ ≤ _
        omega
      have RX := Lib.hid (fun y (hy : Xe.x y = itR rest) => items_step RR.out hne.out y hy)
      have hx4 := (raw_len hne.out).2.1
      have hx1 := (raw_len hne.out).1
      have DL : Hid ((rest.drop (itR rest).raw.length).length = k - (itR rest).raw.length) := by show _ = _; rw [List.length_drop, HK.out]
      rw [HK.out] at hx4
      obtain ⟨x, hx⟩ : ∃ z, itR rest = z := ⟨_, rfl⟩
      rw [hx] at FI RX hx4 hx1 DL
      obtain ⟨g, off, rfl, -⟩ := (KB.out wr BW.out).cellAt (j := 0) (by rw [HK.out]; exact hk0)
      have KB2 : Hid (∀ w', Below n w w' → BytesAt w' (some ⟨g, off + x.raw.length, none⟩) (rest.drop x.raw.length)) := fun w' hb => rest_at (KB.out w' hb) _
      have KB3 : Hid (∀ w', Below n w w' → BytesAt w' (if c' = x.raw.length then some ⟨g, off, none⟩ else some ⟨g, off + x.raw.length, none⟩) (rest.drop x.raw.length)) := fun w' hb => by
        split
        · exact .inl (List.eq_nil_of_length_eq_zero (by rw [DL.out]; have := KC.out.1; omega))
        · exact KB2.out w' hb
      have LR : Hid (∀ y : Xe, (R ++ [y]).length = R.length + 1) := fun y => by simp
      have KL2 : Hid (k - x.raw.length ≤ l) := by have := KL.out; show _ ≤ _; omega
      have KC2 : Hid (k - x.raw.length ≤ c' - x.raw.length ∧ c' - x.raw.length ≤ maxLen) := by have := KC.out; show _ ∧ _; omega
      clear hx hne HK RR KB hk KB2
      go_wp2_with fail
      refine FI.mono ?_
      rintro e w1 ⟨A1, c1, B1, d1, rfl, hO, hT, hb⟩
      obtain ⟨y, w2, hy, hw2, S2, y2, z2⟩ := Fr.box (Fr.nil w1) #[.int .i64 x.kind, .slice A1 x.raw.length c1, .string (sB x.m), .slice B1 x.C.length d1, .bool x.al] 34
      obtain ⟨y', w3, hy3, hw3, S3, y3, z3⟩ := Fr.box S2 #[.int .i64 x.kind, .slice A1 x.raw.length c1, .string (sB x.m), .slice B1 x.C.length d1, .bool x.al] 34
      obtain rfl : y' = y + 1 := by omega
      have X0 : OwnX w1 n ⟨x, A1, c1, B1, d1⟩ := ⟨hO.lift NW.out, OwnT.lift hT NW.out⟩
      have X3 : Hid (∀ r ∈ [(⟨x, A1, c1, B1, d1⟩ : Xe)], OwnX w3 n r) := fun r hr => by
        obtain rfl := List.mem_singleton.1 hr
        exact (X0.below y2).below y3
      have ES : Hid (ItsP w3 (some ⟨y + 1, 0, none⟩) [(⟨x, A1, c1, B1, d1⟩ : Xe)]) := by
        have h := its_one w2 ⟨x, A1, c1, B1, d1⟩ (X0.below y2).bytes (X0.below y2).ops
        rw [hy3] at h
        show ItsP w3 _ _
        rw [← hw3]
        exact h
      have OR3 := Lib.hid (((OR.out.below hb).below y2).below y3)
      have b13 : Below wr.heap.size wr w3 := hb.trans ((y2.trans (y3.mono (by omega))).mono hb.size)
      have N3 : Hid (n ≤ w3.heap.size) := Nat.le_trans NW.out b13.size
      have B3 : Hid (Below n w w3) := BW.out.trans (b13.mono NW.out)
      have I3 : ItAt w3 y x.kind (.slice A1 x.raw.length c1) (sB x.m) (.slice B1 x.C.length d1) x.al := S3.out.2.1
      have I2 : ItAt w2 y x.kind (.slice A1 x.raw.length c1) (sB x.m) (.slice B1 x.C.length d1) x.al := S2.out.1
      obtain ⟨j0, j1, j2, j3, j4, j5⟩ := I2.cells
      have YR : Hid (∀ q, (Value.slice Ao ro co).ownBlock = some q → q ≠ y) := fun q hq => by
        have h1 := (World.ownsRow.lt OR.out.1 q hq).2
        have h2 := hb.size
        omega
      have I3 := Lib.hid I3
      clear FI hO hT hb S2 S3 y2 y3 X0 OR BW NW b13 I2
      go_wp2_with (at_builtin; refine wpList_appIt OR3.out ES.out X3.out N3.out CN.out rfl _ _ rfl rfl rfl 1 rfl rfl ?_; intro A7 c7 w7 hO7 hB7 hg7; have O7 := Lib.hid hO7; have B7 : Hid (Below n w w7) := B3.out.trans hB7; have Z7 : Hid (n ≤ w7.heap.size) := Nat.le_trans N3.out hB7.size; have I7 : ItAt w7 y x.kind (.slice A1 x.raw.length c1) (sB x.m) (.slice B1 x.C.length d1) x.al := (hg7.block y I3.out.lt (fun e => YR.out _ e.symm rfl)).trans I3.out; obtain ⟨m0, m1, m2, m3, m4, m5⟩ := I7.cells; clear hO7 hB7 hg7 I7)
      have O8 : Hid (OwnIt w7 n (.slice A7 (R.length + 1) c7) (R ++ [(⟨x, A1, c1, B1, d1⟩ : Xe)])) := by
        have h := O7.out
        rw [LR.out] at h
        exact h
      have RX8 := Lib.hid (RX.out ⟨x, A1, c1, B1, d1⟩ rfl)
      have LR8 := Lib.hid (LR.out ⟨x, A1, c1, B1, d1⟩)
      clear O7
      go_roundw
      case rel => exact ⟨_, _, _, _, A7, _, c7, _, rfl, rfl, DL.out, KL2.out, KC2.out, KB3.out, LR8.out, O8.out, RX8.out, B7.out, Z7.out⟩
      case measure => simp only [slLen]; omega
end Go.Proofs.YtmnleknehjkmgaaGreat
