/-
  The walks over breadboardref04.Sized and Write: for every image and size, the texts that hexwrite.Sized and Write return.
-/
import Derived.Test.YtmeegpdjhcilkaaDoorHexAllB
import Derived.Test.YtmeegpdjhcilkaaDoorImgAllC
namespace Go.Proofs.YtmeegpdjhcilkaaDoor
open Go.RowKit
set_option linter.unusedVariables false

theorem joinL_snoc (l : List (List UInt8)) (x : List UInt8) : joinL (l ++ [x]) = joinL l ++ x ++ [10] := by
  rw [joinL_append, joinL_one, List.append_assoc]
theorem strOf_lf (x : List UInt8) : strOf x ++ ⟨#[10]⟩ = strOf (x ++ [10]) := strOf_app x ⟨#[10]⟩
theorem str_line (s : ByteArray) (l : List UInt8) (x : List UInt8) (h : s = strOf l) : s ++ strOf x ++ ⟨#[10]⟩ = strOf (l ++ x ++ [10]) := by
  rw [h, strOf_app, strOf_lf, strOf_list]
theorem str_end (s : ByteArray) (r : List (Int × List UInt8)) (h : s = strOf (joinL (r.map lineB))) : s ++ ⟨#[58, 48, 48, 48, 48, 48, 48, 48, 49, 70, 70, 10]⟩ = strOf (joinL (r.map lineB ++ [printL 1 0 []])) := by
  rw [h, strOf_app, joinL_snoc, List.append_assoc]
  have e : printL 1 0 [] ++ [10] = [58, 48, 48, 48, 48, 48, 48, 48, 49, 70, 70, 10] := by decide +kernel
  rw [e]
theorem map_line_take (l m : List (Int × List UInt8)) (j : Nat) (h : j < m.length) : joinL ((l ++ m.take (j + 1)).map lineB) = joinL ((l ++ m.take j).map lineB) ++ lineB m[j] ++ [10] := by
  rw [List.take_succ_eq_append_getElem h, ← List.append_assoc, List.map_append, List.map_singleton, joinL_snoc]
theorem joinL_pre {l m : List (List UInt8)} (h : l <+: m) : (joinL l).length ≤ (joinL m).length := by
  obtain ⟨t, rfl⟩ := h
  rw [joinL_append, List.length_append]
  omega
theorem recs_pre (s : Nat) (V : List Im.Cel) (k : Nat) (hk : k < (Im.runsW V).length) (j : Nat) :
    recsR s ((Im.runsW V).take k) ++ (splW (((Im.runsW V)[k]).1 : Int) (s : Int) ((Im.runsW V)[k]).2).take j <+: recsW s V := by
  have h1 : recsR s ((Im.runsW V).take k) ++ (splW (((Im.runsW V)[k]).1 : Int) (s : Int) ((Im.runsW V)[k]).2).take j <+: recsR s ((Im.runsW V).take (k + 1)) := by
    rw [recsR_take s _ k hk]
    exact (List.prefix_append_right_inj _).2 (List.take_prefix _ _)
  refine h1.trans ⟨recsR s ((Im.runsW V).drop (k + 1)), ?_⟩
  unfold recsW recsR
  rw [← List.flatMap_append, List.take_append_drop]
theorem pre_le {s : Nat} {V : List Im.Cel} (h1 : 1 ≤ s) (h2 : s ≤ 255) (hV : Im.SortedW V) {l : List (Int × List UInt8)} (h : l <+: recsW s V) : (joinL (l.map lineB)).length ≤ 40000000 := by
  refine Nat.le_trans (joinL_pre ?_) (text_le h1 h2 hV)
  exact (List.IsPrefix.map lineB h).trans (List.prefix_append _ _)
set_option maxHeartbeats 4000000 in
theorem rsized_any (sz : Int) (P : Nat → Prop) (A : Option Addr) (cap : Nat) (V : List Im.Cel) (hs : Im.SortedW V) (w : World) (hW : Im.CellsP P w A V) :
    Calls Tryd.prog 42 #[.int .i64 sz, .slice A V.length cap] w fun e w' => e = .returned (.tuple #[.string (sizedS sz V), .bool (sizedB sz)]) ∧ Below w.heap.size w w' := by
  by_cases h1 : 1 ≤ sz
  case neg =>
    have N : Hid (sizedS sz V = ⟨#[]⟩) := by show _ = _; unfold sizedS; rw [if_neg (by omega)]
    have N2 : Hid (sizedB sz = false) := decide_eq_false (by omega)
    have h1' : sz < 1 := by omega
    clear h1
    go_enter Tryd.func42, Tryd.ntmps42
    go_wp2
    go_ret2
    rw [N.out, N2.out]
    exact ⟨rfl, Below.refl _ _⟩
  have h1' : decide (sz < 1) = false := decide_eq_false (by omega)
  by_cases h2 : sz ≤ 255
  case neg =>
    have N : Hid (sizedS sz V = ⟨#[]⟩) := by show _ = _; unfold sizedS; rw [if_neg (by omega)]
    have N2 : Hid (sizedB sz = false) := decide_eq_false (by omega)
    have h2' : 255 < sz := by omega
    clear h1 h2
    go_enter Tryd.func42, Tryd.ntmps42
    go_wp2
    go_ret2
    rw [N.out, N2.out]
    exact ⟨rfl, Below.refl _ _⟩
  have h2' : decide (255 < sz) = false := decide_eq_false (by omega)
  obtain ⟨s, rfl⟩ : ∃ s : Nat, sz = (s : Int) := ⟨sz.toNat, by omega⟩
  have s1 : 1 ≤ s := by omega
  have s2 : s ≤ 255 := by omega
  have N : Hid (sizedS (s : Int) V = strOf (textW s V)) := by show _ = _; unfold sizedS; rw [if_pos ⟨h1, h2⟩]; rfl
  have N2 : Hid (sizedB (s : Int) = true) := decide_eq_true ⟨h1, h2⟩
  have S1 := Lib.hid s1
  have S2 := Lib.hid s2
  have VS := Lib.hid hs
  have hrr := Im.rrunsC_any P A cap V hs w hW
  clear h1 h2 s1 s2 hs hW
  go_enter Tryd.func42, Tryd.ntmps42
  go_wp2_with fail
  refine hrr.mono ?_
  rintro e w1 ⟨RA, Rc, rs, rfl, -, hP, hR, hB, hC⟩
  have PP := Lib.hid hP
  have R0 := Lib.hid hR
  have B0 := Lib.hid hB
  have CC := Lib.hid hC
  have hlen : rs.length ≤ 65536 := by
    rw [Im.pairs_length hP]
    exact Nat.le_trans (Im.runs_length_le _) (Im.sorted_length VS.out)
  clear hrr hP hR hB hC h1' h2'
  go_wp2
  go_loopw [6, 8] (fun sv i wr => ∃ (k : Nat) (S : ByteArray), k ≤ rs.length ∧ i = .int .i64 k ∧ sv = .string S ∧ Hid (Below w1.heap.size w1 wr) ∧ Hid (S = strOf (joinL ((recsR s ((Im.runsW V).take k)).map lineB)))) (fun _ i _ => rs.length - (intOf i).toNat)
  case atStart => exact ⟨0, ⟨#[]⟩, Nat.zero_le _, rfl, rfl, Below.refl _ _, rfl⟩
  case round =>
    obtain ⟨k, S, hk, rfl, rfl, B, E⟩ := hrel
    by_cases hlt : k < rs.length
    · have hlt' : (k : Int) < (rs.length : Int) := by omega
      have RW := R0.out.below B.out
      obtain ⟨b, off, hA, -, -⟩ := RW.at_ hlt
      subst hA
      obtain ⟨g1, g2⟩ := Im.RunsP.get RW hlt
      have hmem : BytesP (fun i => i < wr.heap.size) wr rs[k].A rs[k].data := (RW.2 _ (List.getElem_mem hlt)).mono fun i hi _ => hi
      have hcap := CC.out rs[k] (List.getElem_mem hlt)
      obtain ⟨hkl, hpa, hpd⟩ := pairsN_at PP.out hlt
      obtain ⟨r, hr⟩ : ∃ r, rs[k] = r := ⟨_, rfl⟩
      rw [hr] at g1 g2 hmem hpa hpd hcap
      have rok := runs_ok VS.out _ (List.getElem_mem hkl)
      rw [← hpd] at rok
      have hsp := rsplit_any (fun i => i < wr.heap.size) r.addr s r.A r.cap r.data (by unfold maxLen; omega) hcap wr.drew (hmem.blocks fun _ _ _ => rfl)
      have HP := Lib.hid (And.intro hpa hpd)
      have ROK := Lib.hid rok
      have hC0 : wr.drew.cell? ⟨b, off + k * 2, none⟩ = some (.int .i64 r.addr) ∧ wr.drew.cell? ⟨b, off + k * 2 + 1, none⟩ = some (.slice r.A r.data.length r.cap) := ⟨g1, g2⟩
      clear hmem hcap hr RW hpa hpd rok
      go_wp2
      refine Mixed.wp_region_mixed (fun w' => w'.cell? ⟨b, off + k * 2, none⟩ = some (.int .i64 r.addr) ∧ w'.cell? ⟨b, off + k * 2 + 1, none⟩ = some (.slice r.A r.data.length r.cap)) 12
        [(0, true), (1, true), (2, true), (3, true), (4, true), (5, true), (6, true), (7, true), (8, true), (9, true), (10, true), (11, false)] (by kernel_rfl) (by kernel_rfl) hC0 ?_
      refine Mixed.wpMix_move rfl rfl _ rfl _ rfl ?_
      refine Mixed.wpMix_move rfl rfl _ rfl _ rfl ?_
      refine Mixed.wpMix_pure rfl rfl _ (fun w h => by obtain ⟨q1, q2⟩ := h; go_simp; rfl) ?_
      refine Mixed.wpMix_pure rfl rfl _ (fun w h => by obtain ⟨q1, q2⟩ := h; go_simp; rfl) ?_
      refine Mixed.wpMix_pure rfl rfl _ (fun w h => by obtain ⟨q1, q2⟩ := h; go_simp; rfl) ?_
      refine Mixed.wpMix_move rfl rfl _ rfl _ rfl ?_
      refine Mixed.wpMix_move rfl rfl _ rfl _ rfl ?_
      refine Mixed.wpMix_move rfl rfl _ rfl _ rfl ?_
      refine Mixed.wpMix_pure rfl rfl _ (fun w h => by obtain ⟨q1, q2⟩ := h; go_simp; rfl) ?_
      refine Mixed.wpMix_pure rfl rfl _ (fun w h => by obtain ⟨q1, q2⟩ := h; go_simp; rfl) ?_
      refine Mixed.wpMix_pure rfl rfl _ (fun w h => by obtain ⟨q1, q2⟩ := h; go_simp; rfl) ?_
      refine Mixed.wpMix_loud rfl ?_
      go_wp2_with fail
      refine hsp.mono ?_
      rintro e w2 ⟨v2, rs2, rfl, hO2, hP2, hB2⟩
      obtain ⟨SA, Sc, hv2⟩ := hO2.len_le
      subst hv2
      have B2 : Hid (Below w1.heap.size w1 w2) := B.out.trans ((show Below wr.heap.size wr w2 from ((Below.refl _ _).drew).trans hB2).mono B.out.size)
      have hSP : pairs rs2 = splW (((Im.runsW V)[k]).1 : Int) (s : Int) ((Im.runsW V)[k]).2 := by rw [hP2, HP.out.1, HP.out.2]
      have SP := Lib.hid hSP
      have O2 := Lib.hid hO2
      have hlen2 : rs2.length ≤ 65536 := by
        have h1 := splW_len r.addr s r.data
        rw [← hP2] at h1
        unfold pairs at h1
        rw [List.length_map] at h1
        have := ROK.out
        omega
      have hb0 : Below wr.heap.size wr w2 := ((Below.refl _ _).drew).trans hB2
      have C2 : Hid (w2.cell? ⟨b, off + k * 2, none⟩ = some (.int .i64 r.addr) ∧ w2.cell? ⟨b, off + k * 2 + 1, none⟩ = some (.slice r.A r.data.length r.cap)) :=
        ⟨(hb0.cell (p := ⟨b, off + k * 2, none⟩) (World.block_lt_of_cell? wr _ g1)).trans g1, (hb0.cell (p := ⟨b, off + k * 2 + 1, none⟩) (World.block_lt_of_cell? wr _ g2)).trans g2⟩
      clear hsp hO2 hP2 hB2 hSP g1 g2 hC0 hb0
      go_wp2
      refine ⟨C2.out, ?_⟩
      simp only [Mixed.wpMix, List.drop_succ_cons, List.drop_zero]
      clear C2
      go_wp2
      go_loopw [6, 10] (fun sv i wq => ∃ (j : Nat) (T : ByteArray), j ≤ rs2.length ∧ i = .int .i64 j ∧ sv = .string T ∧ Hid (Below w2.heap.size w2 wq) ∧ Hid (T = strOf (joinL ((recsR s ((Im.runsW V).take k) ++ (pairs rs2).take j).map lineB)))) (fun _ i _ => rs2.length - (intOf i).toNat)
      case atStart => exact ⟨0, S, Nat.zero_le _, rfl, rfl, Below.refl _ _, by show S = _; rw [E.out]; simp⟩
      case round =>
        obtain ⟨j, T, hj, rfl, rfl, Bq, Eq⟩ := hrel
        by_cases hlt2 : j < rs2.length
        · have hltj : (j : Int) < (rs2.length : Int) := by omega
          have OW := O2.out.below Bq.out
          obtain ⟨g, Sc', hA, -, -, hq⟩ := OW.at_ (Nat.lt_of_le_of_lt (Nat.zero_le _) hlt2)
          simp only [Value.slice.injEq, true_and] at hA
          obtain ⟨rfl, rfl⟩ := hA
          obtain ⟨q0, q1, q2⟩ := hq j hlt2
          have hmem := OW.2 rs2[j] (List.getElem_mem hlt2)
          have hl2 : j < (pairs rs2).length := by unfold pairs; simpa using hlt2
          have h1 := pairs_at (l := pairs rs2) rfl hlt2 hl2
          obtain ⟨x, hx⟩ : ∃ x, rs2[j] = x := ⟨_, rfl⟩
          rw [hx] at q1 q2 hmem h1
          have hin : (pairs rs2)[j] ∈ recsW s V := List.mem_flatMap.2 ⟨(Im.runsW V)[k], List.getElem_mem hkl, by rw [← SP.out]; exact List.getElem_mem hl2⟩
          have hright := recs_right S1.out S2.out VS.out _ hin
          have hxl := (recs_ok S1.out S2.out VS.out _ hin).2.2.2
          rw [← h1.1, ← h1.2] at hright
          rw [← h1.2] at hxl
          have s2 := S2.out
          have hpr := rprint_any _ 0 x.addr x.A x.cap x.data (by unfold maxLen; omega) wr hmem
          have eS : printS 0 x.addr x.data = strOf (lineB (x.addr, x.data)) := by unfold printS; rw [hright, if_pos rfl]; rfl
          rw [eS, hright] at hpr
          have ET : Hid (T ++ strOf (lineB (x.addr, x.data)) ++ ⟨#[10]⟩ = strOf (joinL ((recsR s ((Im.runsW V).take k) ++ (pairs rs2).take (j + 1)).map lineB))) := by
            show _ = _
            rw [str_line T _ _ Eq.out, map_line_take _ _ j hl2]
            rw [show (pairs rs2)[j] = (x.addr, x.data) from Prod.ext h1.1.symm h1.2.symm]
          obtain ⟨ls, hls⟩ : ∃ ls, strOf (lineB (x.addr, x.data)) = ls := ⟨_, rfl⟩
          rw [hls] at hpr ET
          have hsz : T.size + ls.size + 1 ≤ 40000000 := by
            have h3 := pre_le S1.out S2.out VS.out (recs_pre s V k hkl (j + 1))
            rw [← SP.out] at h3
            have h4 := congrArg ByteArray.size ET.out
            rw [strOf_size, ByteArray.size_append, ByteArray.size_append] at h4
            have h5 : (⟨#[10]⟩ : ByteArray).size = 1 := rfl
            omega
          have hcat1 : ¬ 9223372036854775807 < T.size + ls.size := by omega
          have hcat2 : ¬ 9223372036854775807 < T.size + ls.size + 1 := by omega
          clear hmem hl2 h1 hx hin hright hxl s2 eS hls hq OW Eq
          go_wp2_with fail
          refine hpr.mono ?_
          rintro e w3 ⟨rfl, hB3⟩
          have B3 : Hid (Below w2.heap.size w2 w3) := Bq.out.trans (hB3.mono Bq.out.size)
          clear hpr hB3 q0 q1 q2
          go_wp2
          go_roundw
          case rel => exact ⟨j + 1, _, by omega, by go_num, rfl, B3.out, ET.out⟩
          case measure => simp [intOf]; omega
        · have hltj : decide ((j : Int) < (rs2.length : Int)) = false := decide_eq_false (by omega)
          have E3 : Hid (T = strOf (joinL ((recsR s ((Im.runsW V).take (k + 1))).map lineB))) := by
            show _ = _
            have h3 : (pairs rs2).take j = pairs rs2 := List.take_of_length_le (by unfold pairs; simp; omega)
            rw [Eq.out, h3, recsR_take s _ k hkl, SP.out]
          have B3 : Hid (Below w1.heap.size w1 wr) := B2.out.trans (Bq.out.mono B2.out.size)
          go_wp2
          go_roundw
          case rel => exact ⟨k + 1, T, by omega, by go_num, rfl, B3.out, E3.out⟩
          case measure => simp [intOf]; omega
    · have hlt' : decide ((k : Int) < (rs.length : Int)) = false := decide_eq_false (by omega)
      have hkN : k = (Im.runsW V).length := by
        have := Im.pairs_length PP.out
        omega
      have F : Hid (S ++ ⟨#[58, 48, 48, 48, 48, 48, 48, 48, 49, 70, 70, 10]⟩ = strOf (textW s V)) := by
        show _ = _
        have h := E.out
        rw [hkN, List.take_length] at h
        exact str_end S _ h
      have hcat : ¬ 9223372036854775807 < S.size + 12 := by
        have h4 := congrArg ByteArray.size F.out
        rw [strOf_size, ByteArray.size_append] at h4
        have h5 : (⟨#[58, 48, 48, 48, 48, 48, 48, 48, 49, 70, 70, 10]⟩ : ByteArray).size = 12 := rfl
        have h6 := text_le S1.out S2.out VS.out
        omega
      have B3 : Hid (Below w.heap.size w wr) := B0.out.trans (B.out.mono B0.out.size)
      clear hkN
      go_wp2
      go_ret2
      rw [N.out, N2.out, ← F.out]
      exact ⟨rfl, B3.out⟩
set_option maxHeartbeats 1000000 in
theorem rwrite_any (P : Nat → Prop) (A : Option Addr) (cap : Nat) (V : List Im.Cel) (hs : Im.SortedW V) (w : World) (hW : Im.CellsP P w A V) :
    Calls Tryd.prog 15 #[.slice A V.length cap] w fun e w' => e = .returned (.string (strOf (textW 16 V))) ∧ Below w.heap.size w w' := by
  have hsz := rsized_any 16 P A cap V hs w hW
  have e1 : sizedS 16 V = strOf (textW 16 V) := by unfold sizedS; rw [if_pos (by omega)]; rfl
  rw [e1] at hsz
  clear hW e1
  go_enter Tryd.func15, Tryd.ntmps15
  go_wp2_with fail
  refine hsz.mono ?_
  rintro e w' ⟨rfl, hb⟩
  have N := Lib.hid hb
  clear hb hsz
  go_wp2
  go_ret
  exact ⟨rfl, N.out⟩
end Go.Proofs.YtmeegpdjhcilkaaDoor
