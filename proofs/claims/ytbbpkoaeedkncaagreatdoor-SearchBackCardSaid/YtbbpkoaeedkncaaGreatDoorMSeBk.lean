/-
  SearchBack: the walk over the law.
-/
import Derived.Test.YtbbpkoaeedkncaaGreatDoorGBS
import Derived.Test.YtbbpkoaeedkncaaGreatDoorMTbSm
import Derived.Test.YtbbpkoaeedkncaaGreatDoorMCnU
import Derived.Test.YtbbpkoaeedkncaaGreatDoorMShp
set_option linter.all false
set_option maxRecDepth 100000
set_option maxHeartbeats 4000000
namespace Go.Proofs.YtbbpkoaeedkncaaGreatDoor
open Go.RowKit Go.Shelf
attribute [local go_sem] Oper.semAt_some
theorem find_facts {op : Str} {C : List Tr} {k : Ke} (h : findK op C = some k) : InTab k ∧ k.2.2.1 = op ∧ hasV k.2.2.1 k.2.2.2.1 k.2.2.2.2.1 (sB op) C = true := by
  unfold findK at h
  have h1 := List.mem_of_find?_eq_some h
  have h2 := List.find?_some h
  unfold candN at h1
  have h3 := cand_in (List.mem_filter.1 h1).1
  exact ⟨h3.1, h3.2.1, h2⟩
theorem has_fill {m ex : Str} {L : List Tr} {s : ByteArray} {C : List Tr} (h : hasV m L ex s C = true) : sB m = s ∧ fillV ex L (valV m L ex s C).1 (valV m L ex s C).2 = some C := by
  have e : valV m L ex s C = (numV (varsV ex).1.1 C, numV (varsV ex).2.1 C) := by unfold valV; rw [if_pos h]
  rw [e]
  rw [hasV_O] at h
  simp only
  cases hf : fillV ex L (numV (varsV ex).1.1 C) (numV (varsV ex).2.1 C) with
  | none => rw [hf] at h; cases h
  | some L2 =>
    rw [hf] at h
    simp only [hasO, Bool.and_eq_true, decide_eq_true_eq] at h
    exact ⟨h.1, by rw [h.2]⟩
theorem ins_one (w : World) (s : ByteArray) (A : Option Addr) (n cap : Nat) (L : List Tr) (hn : L.length = n) (H : OpsP w A L) : InsP (w.alloc (.cells #[.string s, .slice A n cap] 24)) (some ⟨w.heap.size, 0, none⟩) [⟨s, A, cap, L⟩] := by
  subst hn
  refine .inr ⟨_, 0, rfl, fun k hk => ?_⟩
  have : k = 0 := by simp at hk; omega
  subst this
  exact ⟨by simp [go_sem], by simp [go_sem, Ie.v], H.below (up1 _ _)⟩
theorem walkSB (s : ByteArray) (A : Option Addr) (cap : Nat) (L : List Tr) (w : World) (hs : s.size ≤ maxLen) (hL : L.length ≤ maxLen) (H : OpsP w A L) (hM : MaxAt w) :
    Calls Tryz.prog 5 #[.agg #[.string s, .slice A L.length cap]] w fun e w' => e = .returned (.bool true) ∧ Below w.heap.size w w' := by
  obtain ⟨l, hl⟩ : ∃ l, L.length = l := ⟨_, rfl⟩
  rw [hl] at hL ⊢
  obtain ⟨n, hn⟩ : ∃ n, w.heap.size = n := ⟨_, rfl⟩
  obtain ⟨w0, hw0, b1, b2, b3⟩ := ins_box w s (.slice A l cap) n hn
  have HN := Lib.hid hn
  have B0 : Hid (Below n w w0) := by rw [← hn]; exact b2
  have P0 := Lib.hid (H.below b2)
  have M0 := Lib.hid (hM.below b2)
  have C0 := Lib.hid b1
  have SH := sshort_any s A cap l w0
  obtain ⟨q, hq⟩ : ∃ q, (decide (s.size ≤ 100) && decide (l ≤ 20)) = q := ⟨_, rfl⟩
  rw [hq] at SH
  have k0 := Lib.cell_of_heap b1 0
  have k1 := Lib.cell_of_heap b1 1
  clear H hM b1 b2
  go_enter Tryz.func5, Tryz.ntmps5
  go_wp2_with fail
  refine SH.mono ?_
  rintro e w1 ⟨rfl, hb⟩
  have B1 : Hid (Below n w w1) := B0.out.trans (hb.mono (by omega))
  have P1 := Lib.hid (P0.out.below hb)
  have M1 : Hid (MaxAt w1) := M0.out.below hb
  have C1 := Lib.hid ((hb.block n (by omega)).trans C0.out)
  have Z1 : Hid (n + 1 ≤ w1.heap.size) := by have := hb.size; show _ ≤ _; omega
  clear SH hb B0 P0 M0 C0 k0 k1 hw0 b3
  cases q with
  | false =>
    have al := salive_any w1 M1.out
    go_wp2_with fail
    refine al.mono ?_
    rintro e w2 ⟨rfl, hb⟩
    have B2 : Hid (Below n w w2) := B1.out.trans (hb.mono (by have := Z1.out; omega))
    clear al hb
    go_wp2
    go_ret
    exact ⟨rfl, by rw [HN.out]; exact B2.out⟩
  | true =>
    simp only [Bool.and_eq_true, decide_eq_true_eq] at hq
    have hs1 : s.size ≤ 1000 := by omega
    have hl9 : l ≤ 800 := by omega
    have HL := Lib.hid hl
    have fi := sfind2_any s hs1 A cap l L hl (by omega) w1 M1.out P1.out
    obtain ⟨C, hC⟩ : ∃ C, canL (opc s) L = C := ⟨_, rfl⟩
    have HC := Lib.hid hC
    have CC : Hid (canL (opc s) C = C) := by show _ = _; rw [← hC]; exact can_can _ _
    have CLn : Hid (C.length ≤ 900) := by have := canL_len (opc s) L; rw [hC] at this; show _ ≤ _; omega
    rw [hC] at fi
    have k0 := Lib.cell_of_heap C1.out 0
    have k1 := Lib.cell_of_heap C1.out 1
    clear hq hs hL hC hl
    go_wp2_with fail
    refine fi.mono ?_
    rintro e w2 hres
    cases ho : findK (sT s) C with
    | none =>
      rw [ho] at hres
      obtain ⟨rfl, hb⟩ := hres
      have B2 : Hid (Below n w w2) := B1.out.trans (hb.mono (by have := Z1.out; omega))
      have LB : Hid (legB s L = false) := by show legB s L = false; refine legB_none ?_; rw [HC.out]; exact ho
      have hne := codeF_ne (sT s) L (canL (opc (sB (sT s))) L)
      obtain ⟨cd, hcd⟩ : ∃ z, codeF (sT s) L (canL (opc (sB (sT s))) L) = z := ⟨_, rfl⟩
      rw [hcd] at hne ⊢
      have e0 : (cd == 0) = false := beq_eq_false_iff_ne.2 hne
      simp only [enV]
      rw [show sB [] = (⟨#[]⟩ : ByteArray) from rfl]
      have P2 := Lib.hid (P1.out.below hb)
      have M2 : Hid (MaxAt w2) := M1.out.below hb
      have C2 := Lib.hid ((hb.block n (by have := Z1.out; omega)).trans C1.out)
      have Z2 : Hid (n + 1 ≤ w2.heap.size) := Nat.le_trans Z1.out hb.size
      clear fi hb hcd hne k0 k1 P1 M1 C1 B1 ho
      go_upto_region 4 with fail
      obtain ⟨w3, hw3⟩ : ∃ z, w2.alloc (.cells #[.int .i64 0, .int .u8 0, .string ⟨#[]⟩, .slice none 0 0, .string ⟨#[]⟩, .bool false] 26) = z := ⟨_, rfl⟩
      have b3 : Below w2.heap.size w2 w3 := by rw [← hw3]; exact up1 _ _
      rw [hw3]
      have B3 : Hid (Below n w w3) := B2.out.trans (b3.mono (by have := Z2.out; omega))
      have al := salive_any w3 (M2.out.below b3)
      have Z3 : Hid (n + 1 ≤ w3.heap.size) := Nat.le_trans Z2.out b3.size
      have C3 := Lib.hid ((b3.block n (by have := Z2.out; omega)).trans C2.out)
      have P3 := Lib.hid (P2.out.below b3)
      have M3 : Hid (MaxAt w3) := M2.out.below b3
      clear hw3 b3 P2 M2 C2 Z2 B2
      go_wp2_with fail
      refine al.mono ?_
      rintro e w4 ⟨rfl, hb⟩
      have B4 : Hid (Below n w w4) := B3.out.trans (hb.mono (by have := Z3.out; omega))
      have c4 := (hb.block n (by have := Z3.out; omega)).trans C3.out
      have k0 := Lib.cell_of_heap c4 0
      have k1 := Lib.cell_of_heap c4 1
      have P4 := P3.out.below hb
      have lg := legal_any (some ⟨w4.heap.size, 0, none⟩) 1 1 [⟨s, A, cap, L⟩] rfl (by omega) (fun r hr => by
        obtain rfl := List.mem_singleton.1 hr
        exact ⟨hs1, by simp only; rw [HL.out]; omega⟩) _ ((M3.out.below hb).below (up1 w4 (.cells #[.string s, .slice A l cap] 24))) (ins_one w4 s A l cap L HL.out P4)
      have B5 : Hid (Below n w (w4.alloc (.cells #[.string s, .slice A l cap] 24))) := B4.out.alloc (by have := hb.size; have := Z3.out; omega) _
      have Z5 : Hid (n ≤ (w4.alloc (.cells #[.string s, .slice A l cap] 24)).heap.size) := by have := hb.size; have := Z3.out; show _ ≤ _; simp; omega
      simp only [List.all_cons, List.all_nil, LB.out, Bool.false_and] at lg
      clear al hb P4 P3 M3 C3 Z3 B3 B4 c4
      go_wp2_with fail
      refine lg.mono ?_
      rintro e w6 ⟨rfl, hb⟩
      have B6 : Hid (Below n w w6) := B5.out.trans (hb.mono Z5.out)
      clear lg hb
      go_wp2
      go_ret
      exact ⟨rfl, by rw [HN.out]; exact B6.out⟩
    | some k =>
      rw [ho] at hres
      obtain ⟨A2, c2, rfl, hO2, hb⟩ := hres
      have hf := find_facts ho
      have hok := hf.1.ok
      have hfl := has_fill hf.2.2
      obtain ⟨kg, ko, km, kL, kex, kal⟩ := k
      simp only at hO2 hf hok hfl ⊢
      obtain ⟨kl, hkl⟩ : ∃ z, kL.length = z := ⟨_, rfl⟩
      rw [hkl]
      simp only [enV]
      obtain ⟨d, hd⟩ : ∃ z, (valV km kL kex (sB (sT s)) C).1 = z := ⟨_, rfl⟩
      obtain ⟨q, hq⟩ : ∃ z, (valV km kL kex (sB (sT s)) C).2 = z := ⟨_, rfl⟩
      have KM : Hid (km.length ≤ 1000) := by have := hok.m; simp only at this; show _ ≤ _; omega
      have KX : Hid (kex.length ≤ 1000) := by have := hok.ex; simp only at this; show _ ≤ _; omega
      have KL : Hid (kl ≤ 1000) := by have := hok.len; simp only at this; show _ ≤ _; omega
      have KU : Hid (upB (sB km) = sB km) := hok.up
      have KS : Hid (sB km = s) := by show _ = _; rw [hfl.1]; exact sB_sT s
      have vl := fun (w' : World) (h1 : OpsP w' A2 kL) (h2 : OpsP w' A L) => svalues_any kg ko km KM.out KU.out A2 c2 kl kL hkl KL.out kex KX.out kal s A cap l L HL.out (by omega) w' h1 h2
      have e9 : valV km kL kex s (canL (opc s) L) = (d, q) := by rw [HC.out, ← hd, ← hq, sB_sT]
      simp only [e9] at vl
      have fl := fun (w' : World) (h1 : OpsP w' A2 kL) => fill_any kg ko km KM.out A2 c2 kl kL hkl KL.out kex KX.out kal d q w' h1
      have e8 : fillV kex kL d q = some C := by rw [← hd, ← hq]; exact hfl.2
      rw [e8] at fl
      unfold RetFill at fl
      simp only at fl
      rw [KU.out, KS.out] at fl
      rw [KS.out]
      simp only [enV, KS.out] at vl fl
      have VL := Lib.hid vl
      have FL := Lib.hid fl
      have HO := Lib.hid ho
      have B2 : Hid (Below n w w2) := B1.out.trans (hb.mono (by have := Z1.out; omega))
      have P2 := Lib.hid (P1.out.below hb)
      have Q2 := Lib.hid hO2
      have M2 : Hid (MaxAt w2) := M1.out.below hb
      have C2 := Lib.hid ((hb.block n (by have := Z1.out; omega)).trans C1.out)
      have Z2 : Hid (n + 1 ≤ w2.heap.size) := Nat.le_trans Z1.out hb.size
      clear fi hb hO2 hf hok hfl hkl hd hq KM KX KL KU KS vl e9 fl e8 k0 k1 P1 M1 C1 B1 ho Z1
      go_upto_region 6 with fail
      obtain ⟨b, hbs⟩ : ∃ b, w2.heap.size = b := ⟨_, rfl⟩
      obtain ⟨w3, hw3, x1, x2, x3⟩ := en_boxB w2 kg ko s (.slice A2 kl c2) (sB kex) kal b hbs
      rw [hw3, hbs]
      have hnb : n + 1 ≤ b := by have := Z2.out; omega
      have B3 : Hid (Below n w w3) := B2.out.trans (x2.mono (by omega))
      have P3 := Lib.hid (P2.out.below x2)
      have Q3 := Lib.hid (Q2.out.below x2)
      have M3 : Hid (MaxAt w3) := M2.out.below x2
      have C3 := Lib.hid ((x2.block n (by omega)).trans C2.out)
      have E3 := Lib.hid x1
      have vl := VL.out w3 Q3.out P3.out
      have k0 := Lib.cell_of_heap C3.out 0
      have k1 := Lib.cell_of_heap C3.out 1
      have i0 := Lib.cell_of_heap x1 0
      have i1 := Lib.cell_of_heap x1 1
      have i2 := Lib.cell_of_heap x1 2
      have i3 := Lib.cell_of_heap x1 3
      have i4 := Lib.cell_of_heap x1 4
      have i5 := Lib.cell_of_heap x1 5
      clear hw3 hbs x1 x2 P2 Q2 M2 C2 B2 Z2 VL
      go_wp2_with fail
      refine vl.mono ?_
      rintro e w4 ⟨rfl, hb⟩
      have B4 : Hid (Below n w w4) := B3.out.trans (hb.mono (by omega))
      have P4 := Lib.hid (P3.out.below hb)
      have Q4 := Lib.hid (Q3.out.below hb)
      have M4 : Hid (MaxAt w4) := M3.out.below hb
      have C4 := Lib.hid ((hb.block n (by omega)).trans C3.out)
      have E4 := Lib.hid ((hb.block b (by omega)).trans E3.out)
      have Z4 : Hid (b + 1 ≤ w4.heap.size) := by have := hb.size; show _ ≤ _; omega
      have rof := rof_any s A cap L (by rw [HL.out]; omega) w4 P4.out
      rw [HL.out, HC.out] at rof
      clear vl hb k0 k1 i0 i1 i2 i3 i4 i5 B3 P3 Q3 M3 C3 E3 x3
      have k0 := Lib.cell_of_heap C4.out 0
      have k1 := Lib.cell_of_heap C4.out 1
      go_wp2_with fail
      refine rof.mono ?_
      rintro e w5 ⟨v, rfl, hO, hb⟩
      obtain ⟨Ac, cc, rfl, hPc, -, -⟩ := hO.ops
      obtain ⟨lc, hlc⟩ : ∃ z, C.length = z := ⟨_, rfl⟩
      have HLC := Lib.hid hlc
      rw [hlc] at CLn ⊢
      have B5 : Hid (Below n w w5) := B4.out.trans (hb.mono (by have := Z4.out; omega))
      have Q5 := Lib.hid (Q4.out.below hb)
      have R5 := Lib.hid hPc
      have M5 : Hid (MaxAt w5) := M4.out.below hb
      have E5 := Lib.hid ((hb.block b (by have := Z4.out; omega)).trans E4.out)
      have Z5 : Hid (b + 1 ≤ w5.heap.size) := Nat.le_trans Z4.out hb.size
      clear rof hb hO hPc hlc B4 P4 Q4 M4 C4 E4 Z4 k0 k1
      go_upto_region 8 with fail
      obtain ⟨c, hcs⟩ : ∃ c, w5.heap.size = c := ⟨_, rfl⟩
      obtain ⟨w6, hw6, y1, y2, y3⟩ := ins_box w5 s (.slice Ac lc cc) c hcs
      rw [hw6, hcs]
      have hbc : b + 1 ≤ c := by have := Z5.out; omega
      have B6 : Hid (Below n w w6) := B5.out.trans (y2.mono (by omega))
      have Q6 := Lib.hid (Q5.out.below y2)
      have R6 := Lib.hid (R5.out.below y2)
      have M6 : Hid (MaxAt w6) := M5.out.below y2
      have E6 := Lib.hid ((y2.block b (by omega)).trans E5.out)
      have F6 := Lib.hid y1
      have fl := FL.out w6 Q6.out
      have i0 := Lib.cell_of_heap E6.out 0
      have i1 := Lib.cell_of_heap E6.out 1
      have i2 := Lib.cell_of_heap E6.out 2
      have i3 := Lib.cell_of_heap E6.out 3
      have i4 := Lib.cell_of_heap E6.out 4
      have i5 := Lib.cell_of_heap E6.out 5
      clear hw6 hcs y1 y2 B5 Q5 R5 M5 E5 Z5 FL
      go_wp2_with fail
      refine fl.mono ?_
      rintro e w7 ⟨v, rfl, hO, hb⟩
      obtain ⟨Af, cf, rfl, hPf, -⟩ := hO.ops
      rw [HLC.out]
      have B7 : Hid (Below n w w7) := B6.out.trans (hb.mono (by omega))
      have R7 := Lib.hid (R6.out.below hb)
      have S7 := Lib.hid hPf
      have M7 : Hid (MaxAt w7) := M6.out.below hb
      have E7 := Lib.hid ((hb.block b (by omega)).trans E6.out)
      have F7 := Lib.hid ((hb.block c (by omega)).trans F6.out)
      have Z7 : Hid (c + 1 ≤ w7.heap.size) := by have := hb.size; show _ ≤ _; omega
      clear fl hb hO hPf i0 i1 i2 i3 i4 i5 B6 Q6 R6 M6 E6 F6 y3
      go_upto_region 9 with fail
      obtain ⟨g, hgs⟩ : ∃ c, w7.heap.size = c := ⟨_, rfl⟩
      obtain ⟨w8, hw8, y1, y2, y3⟩ := ins_box w7 s (.slice Af lc cf) g hgs
      rw [hw8, hgs]
      have hcg : c + 1 ≤ g := by have := Z7.out; omega
      have B8 : Hid (Below n w w8) := B7.out.trans (y2.mono (by omega))
      have R8 := Lib.hid (R7.out.below y2)
      have S8 := Lib.hid (S7.out.below y2)
      have M8 : Hid (MaxAt w8) := M7.out.below y2
      have E8 := Lib.hid ((y2.block b (by omega)).trans E7.out)
      have F8 := Lib.hid ((y2.block c (by omega)).trans F7.out)
      have G8 := Lib.hid y1
      have fi := sfind2_any s hs1 Ac cc lc C HLC.out CLn.out w8 M8.out R8.out
      rw [CC.out, HO.out] at fi
      have k0 := Lib.cell_of_heap F8.out 0
      have k1 := Lib.cell_of_heap F8.out 1
      clear hw8 hgs y1 y2 B7 R7 S7 M7 E7 F7 Z7
      go_wp2_with fail
      refine fi.mono ?_
      rintro e w9 ⟨A9, c9, rfl, hO9, hb⟩
      simp only [enV]
      have B9 : Hid (Below n w w9) := B8.out.trans (hb.mono (by omega))
      have R9 := Lib.hid (R8.out.below hb)
      have S9 := Lib.hid (S8.out.below hb)
      have M9 : Hid (MaxAt w9) := M8.out.below hb
      have E9 := Lib.hid ((hb.block b (by omega)).trans E8.out)
      have F9 := Lib.hid ((hb.block c (by omega)).trans F8.out)
      have G9 := Lib.hid ((hb.block g (by omega)).trans G8.out)
      have Z9 : Hid (g + 1 ≤ w9.heap.size) := by have := hb.size; show _ ≤ _; omega
      obtain ⟨k9, hk9⟩ : ∃ z, kL.length = z := ⟨_, rfl⟩
      rw [hk9]
      clear fi hb hO9 k0 k1 B8 R8 S8 M8 E8 F8 G8 y3 hk9
      go_upto_region 10 with fail
      obtain ⟨h, hhs⟩ : ∃ c, w9.heap.size = c := ⟨_, rfl⟩
      obtain ⟨wa, hwa, y1, y2, y3⟩ := en_boxB w9 kg ko (sB km) (.slice A9 k9 c9) (sB kex) kal h hhs
      rw [hwa, hhs]
      have hgh : g + 1 ≤ h := by have := Z9.out; omega
      have Ba : Hid (Below n w wa) := B9.out.trans (y2.mono (by omega))
      have al := salive_any wa (M9.out.below y2)
      have Ra := Lib.hid (R9.out.below y2)
      have Sa := Lib.hid (S9.out.below y2)
      have Ea := Lib.hid ((y2.block b (by omega)).trans E9.out)
      have Fa := Lib.hid ((y2.block c (by omega)).trans F9.out)
      have Ga := Lib.hid ((y2.block g (by omega)).trans G9.out)
      have Ha := Lib.hid y1
      clear hwa hhs y1 y2 B9 R9 S9 M9 E9 F9 G9 Z9
      go_wp2_with fail
      refine al.mono ?_
      rintro e wb ⟨rfl, hb⟩
      have Bb : Hid (Below n w wb) := Ba.out.trans (hb.mono (by omega))
      have Eb := (hb.block b (by omega)).trans Ea.out
      have Fb := (hb.block c (by omega)).trans Fa.out
      have Gb := (hb.block g (by omega)).trans Ga.out
      have Hb := (hb.block h (by omega)).trans Ha.out
      have Zb : Hid (n ≤ wb.heap.size) := by have := hb.size; show _ ≤ _; omega
      have sm := rsame_any (sT s) (sT s) Af Ac cf cc C C (by have := CLn.out; have := HLC.out; omega) (by have := CLn.out; have := HLC.out; omega) wb (Sa.out.below hb) (Ra.out.below hb)
      rw [sB_sT, HLC.out, decide_eq_true rfl, decide_eq_true rfl] at sm
      have q0 := Lib.cell_of_heap Gb 0
      have q1 := Lib.cell_of_heap Gb 1
      have q2 := Lib.cell_of_heap Fb 0
      have q3 := Lib.cell_of_heap Fb 1
      have EE := Lib.hid Eb
      have HH := Lib.hid Hb
      clear al hb Ba Ra Sa Ea Fa Ga Ha Eb Fb Gb Hb y3
      go_wp2_with fail
      refine sm.mono ?_
      rintro e wc ⟨rfl, hb⟩
      have Bc : Hid (Below n w wc) := Bb.out.trans (hb.mono Zb.out)
      have Ec := (hb.block b (Array.getElem?_eq_some_iff.1 EE.out).1).trans EE.out
      have Hc := (hb.block h (Array.getElem?_eq_some_iff.1 HH.out).1).trans HH.out
      have i0 := Lib.cell_of_heap Ec 0
      have i1 := Lib.cell_of_heap Ec 1
      have j0 := Lib.cell_of_heap Hc 0
      have j1 := Lib.cell_of_heap Hc 1
      clear sm hb Bb EE HH Ec Hc q0 q1 q2 q3
      go_wp2
      go_ret
      exact ⟨ret_bool (by simp), by rw [HN.out]; exact Bc.out⟩
end Go.Proofs.YtbbpkoaeedkncaaGreatDoor
