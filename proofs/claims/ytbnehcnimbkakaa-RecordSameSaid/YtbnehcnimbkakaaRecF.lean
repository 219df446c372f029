/-
  The walk over breadboardref03.Parse: for every line, the record and the code that record.Parse returns.
-/
import Derived.Test.YtbnehcnimbkakaaRecE
import Derived.Deep.QuietTactic
import Derived.BigQuiet
namespace Go.Proofs.Ytbnehcnimbkakaa
open Go.RowKit
set_option linter.unusedVariables false

/-! ### The first byte -/
theorem linPre_iff (s : ByteArray) (h : 0 < s.size) : linPre s = decide ((s[0].toNat : Int) = 58) := by
  unfold linPre preB
  have e : (s.extract 0 1).data.toList = [s[0]] := by
    rw [Lib.extract_data, List.drop_zero]
    have h1 : s.data.toList = s.data.toList[0]'(by simpa using h) :: s.data.toList.drop 1 := by
      rw [← List.drop_eq_getElem_cons (by simpa using h), List.drop_zero]
    have h2 : s.data.toList[0]'(by simpa using h) = s[0] := rfl
    rw [h1, h2]
    rfl
  have e2 : ((⟨#[58]⟩ : ByteArray).size) = 1 := rfl
  rw [e2, ByteArray.toList_eq, ByteArray.toList_eq, e, decide_eq_true (show 1 ≤ s.size by omega), Bool.true_and]
  by_cases h3 : s[0] = 58
  · rw [h3]; rfl
  · have h4 : ¬ ((s[0].toNat : Int) = 58) := fun h5 => h3 (UInt8.toNat_inj.1 (by show s[0].toNat = 58; omega))
    rw [decide_eq_false h4]
    simpa using h3
theorem linCut_of {s : ByteArray} (h : linPre s = true) : linCut s = s.extract 1 s.size := by
  unfold linCut cutPre
  rw [if_pos (show preB s ⟨#[58]⟩ = true from h)]
  rfl
theorem bytesL_len {s : ByteArray} (h : bytesOk s = true) : s.size = 2 * (bytesL s).length := by
  have h2 : s.size % 2 = 0 := by unfold bytesOk at h; exact (of_decide_eq_true h).1
  unfold bytesL
  rw [h]
  simp only [if_true, List.length_map, List.length_range]
  omega
theorem cut_size {s : ByteArray} (h : linPre s = true) : (linCut s).size = s.size - 1 := by rw [linCut_of h]; simp
theorem lin_short {s : ByteArray} (h : s.size < 11) : linOk s = false := by
  cases h1 : linPre s
  · exact lin_no1 h1
  · cases h2 : bytesOk (linCut s)
    · exact lin_no2 h2
    · refine lin_no3 fun h3 => ?_
      have := bytesL_len h2
      rw [cut_size h1] at this
      omega

/-! ### Single bytes -/
theorem numI_one (xs : List UInt8) (k : Nat) (h : k < xs.length) : numI ((xs.drop k).take 1) = (xs[k].toNat : Int) := by
  rw [List.drop_eq_getElem_cons h, List.take_succ_cons, List.take_zero]
  show (0 : Int) * 256 + _ = _
  omega
theorem numI_two (xs : List UInt8) (k : Nat) (h : k + 1 < xs.length) : numI ((xs.drop k).take 2) = (xs[k].toNat : Int) * 256 + (xs[k + 1].toNat : Int) := by
  rw [List.drop_eq_getElem_cons (show k < xs.length by omega), List.drop_eq_getElem_cons h, List.take_succ_cons, List.take_succ_cons, List.take_zero]
  show ((0 : Int) * 256 + _) * 256 + _ = _
  omega
theorem chk_last (xs : List UInt8) (n : Nat) (h : xs.length = n + 1) : chkI xs = 0 ↔ (xs[n].toNat : Int) = chkI (xs.take n) := by
  have e := sumI_take xs n (by omega)
  rw [List.take_of_length_le (by omega)] at e
  have := xs[n].toNat_lt
  unfold chkI
  omega
theorem BytesP.get {P : Nat → Prop} {w : World} {b off : Nat} {xs : List UInt8} (h : BytesP P w (some ⟨b, off, none⟩) xs) {k : Nat} (hk : k < xs.length) : w.cell? ⟨b, off + k, none⟩ = some (.int .u8 (xs[k].toNat : Int)) := by
  obtain ⟨b', off', h1, h2⟩ := h.at_ hk
  have := Option.some.inj h1
  simp only [Addr.mk.injEq, and_true] at this
  rw [this.1, this.2]
  exact h2

set_option maxHeartbeats 2000000 in
theorem rparse_any (s : ByteArray) (hs : s.size ≤ 140737488355328) (w : World) :
    Calls Try.prog 16 #[.string s] w (RetRec w (parT s) (parA s) (parD s) (parCode s)) := by
  have hal : Below w.heap.size w (w.alloc (.cells #[.int .i64 0, .int .i64 0, .slice none 0 0] 24)) := (Below.refl _ _).alloc (Nat.le_refl _) _
  have htr := Tri.new w _ rfl (.int .i64 0) (.int .i64 0) (.slice none 0 0) 24
  have hsz : w.heap.size < (w.alloc (.cells #[.int .i64 0, .int .i64 0, .slice none 0 0] 24)).heap.size := by simp
  have T0 := Lib.hid htr
  have HAL := Lib.hid hal
  have HSZ := Lib.hid hsz
  clear hal hsz
  obtain ⟨-, e0, e1, e2, ef⟩ := htr
  have ef0 := ef 0
  have ef1 := ef 1
  have ef2 := ef 2
  clear ef
  by_cases h11 : s.size < 11
  · have N := Lib.hid (par3 (lin_short h11))
    have h11' : (s.size : Int) < 11 := by omega
    clear h11 hs
    go_enter Try.func16, Try.ntmps16
    go_wp2
    exact bodyPost_ret (v := .tuple #[.agg #[.int .i64 0, .int .i64 0, .slice none 0 0], .int .i64 3]) (by simp [results, Try.results16, go_sem, e0, e1, e2]) rfl (retRec_bad N.out (by decide) HAL.out)
  · have h0 : 0 < s.size := by omega
    have h11' : decide ((s.size : Int) < 11) = false := decide_eq_false (by omega)
    have hpre := linPre_iff s h0
    obtain ⟨c, hc⟩ : ∃ c : Int, (s[0].toNat : Int) = c := ⟨_, rfl⟩
    have HC0 := Lib.hid hc
    rw [hc] at hpre
    by_cases h58 : c = 58
    · rw [h58] at hc
      have h58' : ((s[0].toNat : Int) != 58) = false := by rw [hc]; rfl
      have LP : Hid (linPre s = true) := by show _ = _; rw [hpre]; exact decide_eq_true h58
      have hcut := linCut_of LP.out
      have hb := fun w => rbytesC_any (linCut s) (by rw [cut_size LP.out]; omega) w
      have hcsz := cut_size LP.out
      have h1s : (1 : Int) ≤ (s.size : Int) := by omega
      have h63 : s.size ≤ 2 ^ 63 - 1 := by omega
      rw [hcut] at hb
      have HCUT := Lib.hid hcut
      have HS := Lib.hid hs
      clear hpre h58 hcut HC0 hc hs
      cases h2 : bytesOk (linCut s)
      · rw [HCUT.out] at h2
        rw [h2] at hb
        have N := Lib.hid (par3 (lin_no2 (s := s) (by rw [HCUT.out]; exact h2)))
        clear h2 hcsz
        go_enter Try.func16, Try.ntmps16
        go_wp2_with fail
        refine (hb _).mono ?_
        rintro e w1 ⟨A, cap, rfl, -, -, -, hB⟩
        have B1 := Lib.hid (HAL.out.trans (hB.mono (Nat.le_of_lt HSZ.out)))
        have hT1 := T0.out.kept (P := fun _ => True) (KeptP.of_all hB) trivial
        have T1 := Lib.hid hT1
        clear e0 e1 e2 ef0 ef1 ef2
        obtain ⟨-, e0, e1, e2, ef⟩ := hT1
        have ef0 := ef 0
        have ef1 := ef 1
        have ef2 := ef 2
        clear ef hB hb
        go_wp2
        obtain ⟨wf, hwf, hTf, hKf⟩ := T1.out.put3 (.int .i64 0) (.int .i64 0) (.slice none 0 0)
        rw [hwf]
        obtain ⟨-, c0, c1, c2, -⟩ := hTf
        exact bodyPost_ret (v := .tuple #[.agg #[.int .i64 0, .int .i64 0, .slice none 0 0], .int .i64 3]) (by simp [results, Try.results16, go_sem, c0, c1, c2]) rfl (retRec_bad N.out (by decide) (below_of_kept B1.out (Nat.le_refl _) hKf))
      · have hblen := bytesL_len h2
        obtain ⟨bs, hbs⟩ : ∃ bs, bytesL (linCut s) = bs := ⟨_, rfl⟩
        have HBS := Lib.hid hbs
        rw [hbs] at hblen
        have hl5 : 5 ≤ bs.length := by omega
        have hl9 : bs.length ≤ 140737488355328 := by have := HS.out; omega
        have OK := Lib.hid (lin_yes LP.out h2 (by rw [hbs]; exact hl5))
        rw [HCUT.out] at h2 hbs
        rw [h2, hbs] at hb
        clear h2 hbs hblen hcsz
        go_enter Try.func16, Try.ntmps16
        go_wp2_with fail
        refine (hb _).mono ?_
        rintro e w1 ⟨A, cap, rfl, hX0, hcap, hnew, hB⟩
        have hX := hX0.toNew hnew
        have B1 := Lib.hid (HAL.out.trans (hB.mono (Nat.le_of_lt HSZ.out)))
        have hT1 := T0.out.kept (P := fun _ => True) (KeptP.of_all hB) trivial
        have T1 := Lib.hid hT1
        clear e0 e1 e2 ef0 ef1 ef2
        obtain ⟨-, e0, e1, e2, ef⟩ := hT1
        have ef0 := ef 0
        have ef1 := ef 1
        have ef2 := ef 2
        have HCAP := Lib.hid hcap
        have NEW := Lib.hid hnew
        have X1 := Lib.hid hX
        obtain ⟨b, off, hA, hbp, -⟩ := hX.atP (k := 0) (by omega)
        subst hA
        have g0 := hX.get (k := 0) (by omega)
        rw [Nat.add_zero] at g0
        obtain ⟨m, hm⟩ : ∃ m, bs.length = m + 5 := ⟨bs.length - 5, by omega⟩
        have M := Lib.hid hm
        have hm' : (bs.length : Int) - 5 = (m : Int) := by omega
        obtain ⟨c0, hc0⟩ : ∃ c : Int, (bs[0].toNat : Int) = c := ⟨_, rfl⟩
        have Q0 : Hid (numI (bs.take 1) = c0) := (numI_one bs 0 (by omega)).trans hc0
        have c00 : 0 ≤ c0 := by omega
        have c01 : c0 < 256 := by have := bs[0].toNat_lt; omega
        rw [hc0] at g0
        clear ef hB hb hX hX0 hnew hcap hc0 hm
        by_cases h6 : c0 = (m : Int)
        · have h6' : (c0 != (m : Int)) = false := by rw [h6]; simp
          have Q6 : Hid (numI (bs.take 1) = (bs.length : Int) - 5) := by show _ = _; rw [hm', Q0.out, h6]
          clear h6
          go_wp2
          obtain ⟨k, hk⟩ : ∃ k, bs.length = k + 1 := ⟨bs.length - 1, by omega⟩
          have hkm : k = m + 4 := by have := M.out; omega
          have HK := Lib.hid hk
          have KM := Lib.hid hkm
          have hk1 : (bs.length : Int) - 1 = (k : Int) := by omega
          have hkw : IntKind.i64.wrap (k : Int) = (k : Int) := by rw [IntKind.wrap_i64]; omega
          have hklt : k < bs.length := by omega
          have hkc : k ≤ cap := by have := HCAP.out; omega
          have gk := X1.out.get (k := k) (by omega)
          obtain ⟨y, hy⟩ : ∃ y : Int, ((bs[k]'(by omega)).toNat : Int) = y := ⟨_, rfl⟩
          rw [hy] at gk
          have CHK : Hid (chkI bs = 0 ↔ y = chkI (bs.take k)) := by show _ ↔ _; rw [← hy]; exact chk_last bs k hk
          have hsl := fun w => slB_h (some ⟨b, off, none⟩) bs.length cap k hkc w
          have htl : (bs.take k).length = k := by simp; omega
          have XT : BytesP _ w1.drew (some ⟨b, off, none⟩) (bs.take k) := (X1.out.below (Below.refl _ _).drew).take k
          have hsum := rsum_any _ (some ⟨b, off, none⟩) cap (bs.take k) (by unfold maxLen; omega) w1.drew XT
          rw [htl] at hsum
          have gk' : w1.drew.cell? ⟨b, off + k, none⟩ = some (.int .u8 y) := gk
          clear hy hk hkm htl XT hm' h6'
          refine Mixed.wp_region_mixed (fun w' => w'.cell? ⟨b, off + k, none⟩ = some (.int .u8 y)) 10 [(0, true), (1, true), (2, true), (3, true), (4, true), (5, true), (6, true), (7, true), (8, true), (9, false)] (by kernel_rfl) (by kernel_rfl) gk' ?_
          refine Mixed.wpMix_move rfl rfl _ rfl _ rfl ?_
          refine Mixed.wpMix_move rfl rfl _ rfl _ rfl ?_
          refine Mixed.wpMix_pure rfl rfl (.int .i64 (k : Int)) (fun w h => by go_simp) ?_
          refine Mixed.wpMix_pure rfl rfl (.pointer (some ⟨b, off + k, none⟩)) (fun w h => by go_simp) ?_
          refine Mixed.wpMix_pure rfl rfl (.int .u8 y) (fun w h => by go_simp) ?_
          refine Mixed.wpMix_move rfl rfl _ rfl _ rfl ?_
          refine Mixed.wpMix_move rfl rfl _ rfl _ rfl ?_
          refine Mixed.wpMix_pure rfl rfl (.int .i64 (k : Int)) (fun w h => by go_simp) ?_
          refine Mixed.wpMix_pure rfl rfl (.slice (some ⟨b, off, none⟩) k cap) (fun w h => by go_simp) ?_
          refine Mixed.wpMix_loud rfl ?_
          go_wp2_with fail
          refine hsum.mono ?_
          rintro e w' ⟨rfl, rfl⟩
          go_wp2
          refine ⟨gk', ?_⟩
          simp only [Mixed.wpMix, List.drop_succ_cons, List.drop_zero]
          by_cases h5 : y = chkI (bs.take k)
          · have h5' : (y != chkI (bs.take k)) = false := by rw [← h5]; simp
            have N := Lib.hid (par0 OK.out (by rw [HBS.out]; exact Q6.out) (by rw [HBS.out]; exact CHK.out.2 h5))
            clear h5
            go_wp2
            have gg1 := X1.out.get (k := 1) (by omega)
            have gg2 := X1.out.get (k := 2) (by omega)
            have gg3 := X1.out.get (k := 3) (by omega)
            obtain ⟨c1, hc1⟩ : ∃ c : Int, (bs[1].toNat : Int) = c := ⟨_, rfl⟩
            obtain ⟨c2, hc2⟩ : ∃ c : Int, (bs[2].toNat : Int) = c := ⟨_, rfl⟩
            obtain ⟨c3, hc3⟩ : ∃ c : Int, (bs[3].toNat : Int) = c := ⟨_, rfl⟩
            have b1 : 0 ≤ c1 ∧ c1 < 256 := by have := bs[1].toNat_lt; omega
            have b2 : 0 ≤ c2 ∧ c2 < 256 := by have := bs[2].toNat_lt; omega
            have b3 : 0 ≤ c3 ∧ c3 < 256 := by have := bs[3].toNat_lt; omega
            rw [hc1] at gg1
            rw [hc2] at gg2
            rw [hc3] at gg3
            have QT : Hid (parT s = c3) := by show _ = _; unfold parT; rw [if_pos N.out, HBS.out]; exact (numI_one bs 3 (by omega)).trans hc3
            have QA : Hid (parA s = c1 * 256 + c2) := by show _ = _; unfold parA; rw [if_pos N.out, HBS.out]; exact (numI_two bs 1 (by omega)).trans (by rw [hc1, hc2])
            have QD : Hid (parD s = (bs.take k).drop 4) := by
              show _ = _
              unfold parD recD; rw [if_pos N.out, HBS.out, List.drop_take, show bs.length - 5 = k - 4 by have := HK.out; omega]
            clear hc1 hc2 hc3
            obtain ⟨b10, b11⟩ := b1
            obtain ⟨b20, b21⟩ := b2
            obtain ⟨b30, b31⟩ := b3
            have v1 : IntKind.i64.wrap c1 = c1 := by rw [IntKind.wrap_i64]; omega
            have v2 : IntKind.i64.wrap c2 = c2 := by rw [IntKind.wrap_i64]; omega
            have v3 : IntKind.i64.wrap c3 = c3 := by rw [IntKind.wrap_i64]; omega
            have v4 : IntKind.i64.wrap (c1 * 256) = c1 * 256 := by rw [IntKind.wrap_i64]; omega
            have v5 : IntKind.i64.wrap (c1 * 256 + c2) = c1 * 256 + c2 := by rw [IntKind.wrap_i64]; omega
            have hk4 : 4 ≤ k := by have := KM.out; omega
            have hsl2 : ∀ w, (Instr.slice 22 (.slice (some ⟨b, off, none⟩) bs.length cap) (some (.int .i64 4)) (some (.int .i64 (k : Int))) none).run Try.prog w = .ok (.slice (subA (some ⟨b, off, none⟩) 4 cap) (k - 4) (cap - 4)) w := fun w => slB_lh (some ⟨b, off, none⟩) bs.length cap 4 k hk4 hkc w
            have i1 : (1 : Int) < (bs.length : Int) := by omega
            have i2 : (2 : Int) < (bs.length : Int) := by omega
            have i3 : (3 : Int) < (bs.length : Int) := by omega
            clear hsl gk gk' hsum
            have hC : w1.drew.drew.cell? ⟨b, off + 1, none⟩ = some (.int .u8 c1) ∧ w1.drew.drew.cell? ⟨b, off + 2, none⟩ = some (.int .u8 c2) ∧ w1.drew.drew.cell? ⟨b, off + 3, none⟩ = some (.int .u8 c3) := ⟨gg1, gg2, gg3⟩
            refine Mixed.wp_region_mixed (fun w' => w'.cell? ⟨b, off + 1, none⟩ = some (.int .u8 c1) ∧ w'.cell? ⟨b, off + 2, none⟩ = some (.int .u8 c2) ∧ w'.cell? ⟨b, off + 3, none⟩ = some (.int .u8 c3)) 19 [(0, true), (1, true), (2, true), (3, true), (4, true), (5, true), (6, true), (7, true), (8, true), (9, true), (10, true), (11, true), (12, true), (13, true), (14, true), (15, true), (16, true), (17, true), (18, true)] (by kernel_rfl) (by kernel_rfl) hC ?_
            refine Mixed.wpMix_move rfl rfl _ rfl _ rfl ?_
            refine Mixed.wpMix_pure rfl rfl (.pointer (some ⟨b, off + 3, none⟩)) (fun w h => by clear h; go_simp) ?_
            refine Mixed.wpMix_pure rfl rfl (.int .u8 c3) (fun w h => by obtain ⟨q1, q2, q3⟩ := h; go_simp) ?_
            refine Mixed.wpMix_pure rfl rfl (.int .i64 c3) (fun w h => by clear h; go_simp) ?_
            refine Mixed.wpMix_move rfl rfl _ rfl _ rfl ?_
            refine Mixed.wpMix_pure rfl rfl (.pointer (some ⟨b, off + 1, none⟩)) (fun w h => by clear h; go_simp) ?_
            refine Mixed.wpMix_pure rfl rfl (.int .u8 c1) (fun w h => by obtain ⟨q1, q2, q3⟩ := h; go_simp) ?_
            refine Mixed.wpMix_pure rfl rfl (.int .i64 c1) (fun w h => by clear h; go_simp) ?_
            refine Mixed.wpMix_pure rfl rfl (.int .i64 (c1 * 256)) (fun w h => by clear h; go_simp) ?_
            refine Mixed.wpMix_move rfl rfl _ rfl _ rfl ?_
            refine Mixed.wpMix_pure rfl rfl (.pointer (some ⟨b, off + 2, none⟩)) (fun w h => by clear h; go_simp) ?_
            refine Mixed.wpMix_pure rfl rfl (.int .u8 c2) (fun w h => by obtain ⟨q1, q2, q3⟩ := h; go_simp) ?_
            refine Mixed.wpMix_pure rfl rfl (.int .i64 c2) (fun w h => by clear h; go_simp) ?_
            refine Mixed.wpMix_pure rfl rfl (.int .i64 (c1 * 256 + c2)) (fun w h => by clear h; go_simp) ?_
            refine Mixed.wpMix_move rfl rfl _ rfl _ rfl ?_
            refine Mixed.wpMix_move rfl rfl _ rfl _ rfl ?_
            refine Mixed.wpMix_pure rfl rfl (.int .i64 (k : Int)) (fun w h => by clear h; go_simp) ?_
            refine Mixed.wpMix_pure rfl rfl (.slice (subA (some ⟨b, off, none⟩) 4 cap) (k - 4) (cap - 4)) (fun w h => by clear h; go_simp) ?_
            refine Mixed.wpMix_pure rfl rfl (.agg #[.int .i64 c3, .int .i64 (c1 * 256 + c2), .slice (subA (some ⟨b, off, none⟩) 4 cap) (k - 4) (cap - 4)]) (fun w h => by clear h; go_simp) ?_
            simp only [Mixed.wpMix, List.drop_succ_cons, List.drop_zero]
            clear hsl2 v1 v2 v3 v4 v5 gg1 gg2 gg3 hC
            obtain ⟨sb, hsb⟩ : ∃ sb, subA (some ⟨b, off, none⟩) 4 cap = sb := ⟨_, rfl⟩
            have XD := (X1.out.take k).sub 4 cap (by rw [List.length_take]; omega)
            rw [hsb] at XD
            rw [hsb]
            have XD1 := Lib.hid XD
            clear XD hsb
            go_wp2
            obtain ⟨wf, hwf, hTf, hKf⟩ := T1.out.put3 (.int .i64 c3) (.int .i64 (c1 * 256 + c2)) (.slice sb (k - 4) (cap - 4))
            rw [hwf]
            obtain ⟨-, d0, d1, d2, -⟩ := hTf
            have hXf := XD1.out.kept hKf fun i _ h => (by have h1 := h.1; simp at h1; omega)
            have hXf2 := hXf.below (w' := wf.drew.drew) ((Below.refl _ _).drew.drew)
            refine bodyPost_ret (v := .tuple #[.agg #[.int .i64 c3, .int .i64 (c1 * 256 + c2), .slice sb (k - 4) (cap - 4)], .int .i64 0]) (by simp [results, Try.results16, go_sem, d0, d1, d2]) rfl ?_
            rw [QT.out, QA.out, QD.out, N.out]
            have hlen : ((bs.take k).drop 4).length = k - 4 := by rw [List.length_drop, List.length_take]; omega
            exact ⟨sb, cap - 4, by rw [hlen], by rw [hlen]; omega, hXf2.mono fun i hi _ => hi, (below_of_kept B1.out (Nat.le_refl _) hKf).drew.drew⟩
          · have h5' : (y != chkI (bs.take k)) = true := by rw [bne_iff_ne]; exact h5
            have N := Lib.hid (par5 OK.out (by rw [HBS.out]; exact Q6.out) (by rw [HBS.out]; exact fun h => h5 (CHK.out.1 h)))
            clear h5
            go_wp2
            obtain ⟨wf, hwf, hTf, hKf⟩ := T1.out.put3 (.int .i64 0) (.int .i64 0) (.slice none 0 0)
            rw [hwf]
            obtain ⟨-, c0, c1, c2, -⟩ := hTf
            exact bodyPost_ret (v := .tuple #[.agg #[.int .i64 0, .int .i64 0, .slice none 0 0], .int .i64 5]) (by simp [results, Try.results16, go_sem, c0, c1, c2]) rfl (retRec_bad N.out (by decide) (below_of_kept B1.out (Nat.le_refl _) hKf).drew)
        · have h6' : (c0 != (m : Int)) = true := by rw [bne_iff_ne]; exact h6
          have N := Lib.hid (par6 OK.out (by rw [HBS.out, Q0.out, hm']; exact h6))
          clear h6
          go_wp2
          obtain ⟨wf, hwf, hTf, hKf⟩ := T1.out.put3 (.int .i64 0) (.int .i64 0) (.slice none 0 0)
          rw [hwf]
          obtain ⟨-, c0, c1, c2, -⟩ := hTf
          exact bodyPost_ret (v := .tuple #[.agg #[.int .i64 0, .int .i64 0, .slice none 0 0], .int .i64 6]) (by simp [results, Try.results16, go_sem, c0, c1, c2]) rfl (retRec_bad N.out (by decide) (below_of_kept B1.out (Nat.le_refl _) hKf))
    · have N := Lib.hid (par3 (lin_no1 (s := s) (by rw [hpre]; exact decide_eq_false h58)))
      have h58' : (c != 58) = true := by rw [bne_iff_ne]; exact h58
      rw [← hc] at h58'
      clear h58 hpre hs hc
      go_enter Try.func16, Try.ntmps16
      go_wp2
      exact bodyPost_ret (v := .tuple #[.agg #[.int .i64 0, .int .i64 0, .slice none 0 0], .int .i64 3]) (by simp [results, Try.results16, go_sem, e0, e1, e2]) rfl (retRec_bad N.out (by decide) HAL.out)
end Go.Proofs.Ytbnehcnimbkakaa
