/-
  ImageInverse, for every list of runs: Of inverts Runs, and between two runs there is an address that is not defined: the law returns true, and its argument reads as it did.
  Conditions: none.
-/
import Derived.Test.YtllfebekanafhaaImgU
import Derived.Test.YtllfebekanafhaaRows
import Derived.ProofKit
import Derived.OpenShut
import Derived.Lay
import Derived.LaidOnce
import Derived.SevenTiedAt
import Derived.Below
namespace Go.Proofs.Ytllfebekanafhaa.imageInverseDone
open Go.ChangeShapes Go.WideShapes Go.ChangeAt Go.RowKit
open Go.ChangeMaps (open_string shut_string)
set_option linter.unusedVariables false

theorem own : ownKnob Try.prog.godebug = none := by kernel_rfl
theorem laidOut : laidOutB Try.prog = true := by kernel_rfl
/-- A slice of integers that came in: nil, or a row of 'cap' cells that hold the numbers 'zs'. -/
def IsRow (k : IntKind) (w : World) (a : Option Addr) (len cap : Nat) (zs : List Int) : Prop :=
  (a = none ∧ len = 0 ∧ cap = 0 ∧ zs = []) ∨
  ∃ x, a = some x ∧ len ≤ cap ∧ cap ≤ maxLen ∧ zs.length = cap ∧ (∀ i, i < zs.length → w.cell? (x.add i) = some (.int k (zs.getD i 0))) ∧ ∀ n ∈ zs, (Lit.int k n).wf = true

set_option maxHeartbeats 8000000 in
theorem walk (A : Option Addr) (cap : Nat) (rs : List R) (w : World) (hm : rs.length ≤ maxLen) (hR : RunsP (fun _ => True) (fun _ => True) w A rs) (hd : ∀ r ∈ rs, r.data.length ≤ maxLen) :
    Calls Try.prog 5 #[.slice A rs.length cap] w fun e w' => e = .returned (.bool true) ∧ Below w.heap.size w w' := by
  have Z := Lib.hid (hR.mono (T := (· < w.heap.size)) (Q := (· < w.heap.size)) (fun _ h _ => h) (fun _ h _ => h))
  have HD := Lib.hid hd
  clear hR hd
  have hf := fewAll_any _ _ A cap rs hm w Z.out HD.out
  cases hfb : fewB rs
  · rw [hfb] at hf
    clear hfb
    go_enter Try.func5, Try.ntmps5
    go_wp2_with fail
    refine hf.mono ?_
    rintro e w1 ⟨rfl, rfl⟩
    go_wp2_with fail
    refine (alive_any _).mono ?_
    rintro e w1 ⟨rfl, hb1⟩
    have N := Lib.hid hb1
    clear hb1
    go_wp2
    go_ret
    exact ⟨rfl, N.out⟩
  · rw [hfb] at hf
    have hl60 := few_len hfb
    clear hfb hm
    go_enter Try.func5, Try.ntmps5
    go_wp2_with fail
    refine hf.mono ?_
    rintro e w1 ⟨rfl, rfl⟩
    clear hf
    go_wp2_with fail
    refine (newOf_any _).mono ?_
    rintro e w1 ⟨b, rfl, hb, hI, hB⟩
    have I1 := Lib.hid hI
    have B1 := Lib.hid hB
    have HB := Lib.hid hb
    clear hI hB hb
    go_wp2
    go_loopw [4, 19] (fun v i wr => ∃ (k : Nat) (W : List Cel) (A2 : Option Addr) (cap2 : Nat), k ≤ rs.length ∧ i = .int .i64 k ∧ v = .slice A2 W.length cap2 ∧ W.length ≤ cap2 ∧ ImgOf wr b W ∧ CellsP (fun i => w.heap.size ≤ i ∧ i ≠ b) wr A2 W ∧ Below w.heap.size w wr) (fun _ i _ => rs.length - (intOf i).toNat)
    case atStart => exact ⟨0, [], none, 0, Nat.zero_le _, rfl, rfl, Nat.le_refl _, I1.out, .inl rfl, B1.out⟩
    case round =>
      obtain ⟨k, W, A2, cap2, hk, rfl, rfl, hc2, hI, hC, hB⟩ := hrel
      have I2 := Lib.hid hI
      have C2 := Lib.hid hC
      have B2 := Lib.hid hB
      clear hI hC hB
      by_cases hlt : k < rs.length
      · have Z2 := Z.out.below B2.out
        obtain ⟨bb, off, hA, g1, g2⟩ := Z2.at_ hlt
        subst hA
        have hlt' : (k : Int) < (rs.length : Int) := by omega
        have X := Z2.2 _ (List.getElem_mem hlt)
        have hdk := HD.out _ (List.getElem_mem hlt)
        obtain ⟨r, hr⟩ : ∃ r, rs[k] = r := ⟨_, rfl⟩
        rw [hr] at g1 g2 X hdk
        obtain ⟨ob, hob⟩ : ∃ o, Obj.cells #[.int .i64 r.addr, .slice r.A r.data.length r.cap] 30 = o := ⟨_, rfl⟩
        have hal : Below wr.heap.size wr (wr.alloc ob) := (Below.refl _ _).alloc (Nat.le_refl _) ob
        have hbw := I2.out.lt
        have b0 := B2.out.size
        have I3 := Lib.hid (I2.out.below hal)
        have X3 := Lib.hid (X.below hal)
        have B3 := Lib.hid (B2.out.alloc b0 ob)
        have C3 := Lib.hid (C2.out.below hal)
        have HDK := Lib.hid hdk
        have hip := put_any b W r.addr (· < w.heap.size) (Nat.not_lt.2 HB.out) r.A r.data r.cap (wr.alloc ob) HDK.out I3.out X3.out
        have hcell0 : (wr.alloc ob).cell? ⟨wr.heap.size, 0, none⟩ = some (.int .i64 r.addr) := by rw [← hob]; exact (two_cells wr _ rfl _ _ _).1
        have hcell1 : (wr.alloc ob).cell? ⟨wr.heap.size, 1, none⟩ = some (.slice r.A r.data.length r.cap) := by rw [← hob]; exact (two_cells wr _ rfl _ _ _).2
        have hasz : wr.heap.size < (wr.alloc ob).heap.size := by simp
        obtain ⟨wa, hwa⟩ : ∃ wa, wr.alloc ob = wa := ⟨_, rfl⟩
        rw [hwa] at hip I3 X3 B3 C3 hcell0 hcell1 hasz
        obtain ⟨vb, hvb⟩ : ∃ vb, wr.heap.size = vb := ⟨_, rfl⟩
        rw [hvb] at hcell0 hcell1 hasz hbw
        have hbv : vb ≠ b := by omega
        clear hr hal Z2 X hdk b0
        go_wp2_with fail
        refine hip.mono ?_
        rintro e w3 ⟨rfl, hI5, hK5⟩
        have I5 := Lib.hid hI5
        have C5 := Lib.hid (C3.out.keep hK5 (fun h => h.2 rfl))
        have B5 := Lib.hid (B3.out.trans (hK5.below HB.out B3.out.size))
        have X5 := Lib.hid (X3.out.keep hK5 (Nat.not_lt.2 HB.out))
        have q0 := (World.cell?_of_block (w := wa) (a := ⟨vb, 0, none⟩) (hK5.block vb hasz hbv)).trans hcell0
        have q1 := (World.cell?_of_block (w := wa) (a := ⟨vb, 1, none⟩) (hK5.block vb hasz hbv)).trans hcell1
        have hbw3 := I5.out.lt
        have b3 := B5.out.size
        have hrp := rput_any (fun i => w.heap.size ≤ i ∧ i ≠ b) A2 cap2 W I2.out.1 r.addr (· < w.heap.size) r.A r.cap r.data HDK.out w3 (fun i hi => ⟨by omega, by omega⟩) hc2 C5.out X5.out
        clear hI5 hK5 hip hcell0 hcell1 hbw3 b3
        go_wp2_with fail
        refine hrp.mono ?_
        rintro e w4 ⟨A3, cap3, rfl, hc3, hC3, hB3⟩
        have I6 := Lib.hid (I5.out.below hB3)
        have B6 := Lib.hid (B5.out.trans (hB3.mono B5.out.size))
        have C6 := Lib.hid hC3
        clear hrp hC3 hB3
        go_wp2
        go_roundw
        case rel => exact ⟨k + 1, _, A3, cap3, by omega, by go_num, rfl, hc3, I6.out, C6.out, B6.out⟩
        case measure => simp [intOf]; omega
      · have hlt' : decide ((k : Int) < (rs.length : Int)) = false := decide_eq_false (by omega)
        go_wp2_with fail
        refine (runs_any b W _ I2.out).mono ?_
        rintro e w3 ⟨A3, cap3, r3, rfl, hc3, E3, hR3, hB3⟩
        have I3 := Lib.hid (I2.out.below hB3)
        have C3 := Lib.hid (C2.out.below hB3)
        have B3 := Lib.hid (B2.out.trans (hB3.mono B2.out.size))
        have R3 := Lib.hid hR3
        have F3 := Lib.hid E3
        have hCan := Lib.hid (canon_runs I2.out.1.1)
        have hn3 : r3.length ≤ 65536 := by
          rw [pairs_length E3]
          exact Nat.le_trans (runs_length_le _) (sorted_length I2.out.1)
        have hdat : ∀ r ∈ r3, r.data.length ≤ 65536 := fun r hr => by
          obtain ⟨j, hj, rfl⟩ := List.mem_iff_getElem.1 hr
          obtain ⟨hl, e1, e2⟩ := pairs_get E3 j hj
          rw [e2]
          exact Nat.le_trans (runs_mem_le (List.getElem_mem hl)) (sorted_length I2.out.1)
        have HN := Lib.hid hn3
        have HDA := Lib.hid hdat
        clear hB3 hR3 E3 hc3 hdat
        go_wp2
        go_loopw [43] (fun i wr => ∃ k : Nat, k ≤ r3.length ∧ i = .int .i64 k ∧ Below w3.heap.size w3 wr) (fun i _ => r3.length - (intOf i).toNat)
        case atStart => exact ⟨0, Nat.zero_le _, rfl, Below.refl _ _⟩
        case round =>
          obtain ⟨j, hj, rfl, hBj⟩ := hrel
          have BJ := Lib.hid hBj
          clear hBj
          by_cases hjt : j < r3.length
          · have T := R3.out.below BJ.out
            obtain ⟨b3, o3, hA3, p1, p2⟩ := T.at_ hjt
            subst hA3
            obtain ⟨hl, ea, ed⟩ := pairs_get F3.out j hjt
            have hne := hCan.out.1 _ (List.getElem_mem hl)
            rw [← ed] at hne
            have hpos := List.length_pos_iff.2 hne
            have hdl := HDA.out _ (List.getElem_mem hjt)
            have hjt' : (j : Int) < (r3.length : Int) := by omega
            obtain ⟨x, hx⟩ : ∃ x : Int, r3[j].addr = x := ⟨_, rfl⟩
            obtain ⟨d, hdd⟩ : ∃ d : Nat, r3[j].data.length = d := ⟨_, rfl⟩
            obtain ⟨ra, hra⟩ : ∃ a, r3[j].A = a := ⟨_, rfl⟩
            obtain ⟨rc, hrc⟩ : ∃ a, r3[j].cap = a := ⟨_, rfl⟩
            rw [hdd] at hpos hdl
            rw [hx] at p1
            rw [hdd, hra, hrc] at p2
            have hd0 : ((d : Int) == 0) = false := beq_eq_false_iff_ne.2 (by omega)
            obtain ⟨ob, hob⟩ : ∃ o, Obj.cells #[.int .i64 x, .slice ra d rc] 47 = o := ⟨_, rfl⟩
            have hal : Below wr.heap.size wr (wr.alloc ob) := (Below.refl _ _).alloc (Nat.le_refl _) ob
            have BN := fun nq => Lib.hid (BJ.out.trans ((hal.trans ((below_drewN (wr.alloc ob) nq).mono hal.size)).mono BJ.out.size))
            by_cases hj0 : j = 0
            · have hj0' : decide ((0 : Int) < (j : Int)) = false := decide_eq_false (by omega)
              have hj0n : decide (0 < j) = false := decide_eq_false (by omega)
              rw [← hob] at BN
              clear T hl ea ed hne hpos hdl hx hdd hra hrc hob hal hj0
              go_wp2_with fail
              go_quiet (fail)
              go_wp2
              go_roundw
              case rel => exact ⟨j + 1, by omega, by go_num, (BN _).out⟩
              case measure => simp [intOf]; omega
            · obtain ⟨i, hi⟩ : ∃ i, j = i + 1 := ⟨j - 1, by omega⟩
              have hi3 : i < r3.length := by omega
              obtain ⟨s1, s2⟩ := T.get hi3
              obtain ⟨hl2, ea2, ed2⟩ := pairs_get F3.out i hi3
              have hgap : r3[i].addr + (r3[i].data.length : Int) < x := by
                have h1 := hCan.out.2 i (by omega)
                rw [← hx, ea, ea2, ed2]
                subst hi
                omega
              have hdl2 := HDA.out _ (List.getElem_mem hi3)
              have hy0 : 0 ≤ r3[i].addr := by rw [ea2]; omega
              obtain ⟨y, hy⟩ : ∃ y : Int, r3[i].addr = y := ⟨_, rfl⟩
              obtain ⟨m, hmm⟩ : ∃ m : Nat, r3[i].data.length = m := ⟨_, rfl⟩
              obtain ⟨qa, hqa⟩ : ∃ a, r3[i].A = a := ⟨_, rfl⟩
              obtain ⟨qc, hqc⟩ : ∃ a, r3[i].cap = a := ⟨_, rfl⟩
              have hx1 : x ≤ 65536 := by
                have := (of_iff [] r3).1 (by rw [of_runs I2.out.1 F3.out])
                have := this.1 _ (List.getElem_mem hjt)
                unfold okR at this
                rw [hx] at this
                omega
              rw [hy] at hgap hy0 s1
              rw [hmm] at hgap hdl2
              rw [hmm, hqa, hqc] at s2
              have hle : decide (x ≤ y + (m : Int)) = false := decide_eq_false (by omega)
              have hle2 : ¬ x ≤ y + (m : Int) := by omega
              have hj0' : (0 : Int) < (j : Int) := by omega
              have hj0n : 0 < j := by omega
              have hjj : (j : Int) - 1 = (i : Int) := by omega
              have hi3' : (i : Int) < (r3.length : Int) := by omega
              have HI := Lib.hid hi
              have s1' := (hal.cell (p := ⟨b3, o3 + i * 2, none⟩) (World.block_lt_of_cell? wr _ s1)).trans s1
              have s2' := (hal.cell (p := ⟨b3, o3 + i * 2 + 1, none⟩) (World.block_lt_of_cell? wr _ s2)).trans s2
              have hm1 : y + (m : Int) < 65536 := by omega
              rw [← hob] at BN s1' s2'
              clear T hl ea ed hne hpos hx hdd hra hrc hob hal hj0 hi3 hl2 ea2 ed2 hgap hy hmm hqa hqc hi s1 s2 hx1 hle2
              go_wp2_with fail
              go_quiet (fail)
              go_wp2
              go_roundw
              case rel => exact ⟨j + 1, by omega, by go_num, (BN _).out⟩
              case measure => simp [intOf]; omega
          · have hjt' : decide ((j : Int) < (r3.length : Int)) = false := decide_eq_false (by omega)
            have B4 := Lib.hid (B3.out.trans (BJ.out.mono B3.out.size))
            have I4 := Lib.hid (I3.out.below BJ.out)
            have C4 := Lib.hid (C3.out.below BJ.out)
            have hiof := iof_any _ _ A3 cap3 r3 (Nat.le_trans HN.out (by omega)) wr (R3.out.below BJ.out) (fun r hr => Nat.le_trans (HDA.out r hr) (by unfold maxLen; omega))
            rw [of_runs I2.out.1 F3.out] at hiof
            go_wp2_with fail
            refine hiof.mono ?_
            rintro e w5 ⟨hg, _, hB5⟩
            obtain ⟨n, rfl, hn, hJ⟩ := hg rfl
            have J5 := Lib.hid hJ
            have B5 := Lib.hid (B4.out.trans (hB5.mono B4.out.size))
            have I5 := Lib.hid (I4.out.below hB5)
            have C5 := Lib.hid (C4.out.below hB5)
            clear hg hn hJ hB5 hiof
            go_wp2_with fail
            refine (alive_any _).mono ?_
            rintro e w6 ⟨rfl, hb6⟩
            have J6 := Lib.hid (J5.out.below hb6)
            have I6 := Lib.hid (I5.out.below hb6)
            have C6 := Lib.hid (C5.out.below hb6)
            have B6 := Lib.hid (B5.out.trans (hb6.mono B5.out.size))
            have hsm := isame_any b n W W w6 I6.out J6.out
            rw [decide_eq_true rfl] at hsm
            clear hb6
            go_wp2_with fail
            refine hsm.mono ?_
            rintro e w7 ⟨rfl, rfl⟩
            go_wp2_with fail
            refine (lsame_any n _ _ A2 cap2 _ (J6.out.below (Below.refl _ _).drew) (C6.out.below (Below.refl _ _).drew)).mono ?_
            rintro e w8 ⟨rfl, hb8⟩
            have B8 := Lib.hid (B6.out.drew.trans (hb8.mono B6.out.size))
            clear hb8
            go_wp2
            go_ret
            exact ⟨rfl, B8.out⟩

set_option maxRecDepth 100000 in
theorem lifted (os : Os) (started : os.Started) (H : Type) (enc : TypeId × Value → H) :
    ReturnsInHanded {} Try.checked os 5 .any (Rows.imageInverseSpec.pre6 enc Try.prog Try.f5 Rows.imageInverseRow.domain false) (Rows.imageInverseSpec.post enc Try.prog Try.f5 false true false false) := by
  refine returnsInHanded_of_change (C := Try.checked) own started (by kernel_rfl) Try.func5
    (ChangeSpec.witness6 (enc := enc) (C := Try.checked) false ⟨#[], #[.slice none 0 0], []⟩ 8 (by kernel_rfl) (by kernel_rfl) (by kernel_rfl) (by kernel_rfl)) ?_
  intro W base args ds gs before hval0 hW _ _
  have hval : ∀ (j : Nat) t v, Try.f5.params[j]? = some t → args[j]? = some v → Value.okWide Try.prog W .any base t v := hval0
  have hW' := hW
  obtain ⟨p, q, hA0, hV, rfl, _, _⟩ := hW
  have hA : DataW.TrodAll enc Try.prog W 0 (fun _ => true) true Try.f5.params.toList args.toList ds p := hA0
  rw [Try.params5] at hA hval
  obtain ⟨v0, vs0, d0, ds0, p0, q0, hargs, rfl, rfl, h0, r0⟩ := trodAll_cons hA
  obtain ⟨rfl, rfl, rfl⟩ := trodAll_nil r0
  obtain rfl : args = #[v0] := by cases args; simp_all
  obtain ⟨rfl, rfl⟩ := trodVars_none hV
  have k0 := h0
  have lt0 : ∀ x ∈ p0, x.block < W.heap.size := by obtain ⟨m, hm⟩ := k0; exact DataW.trod_lt m _ _ _ hm
  obtain ⟨a0, len0, cap0, rfl⟩ := okWide_slice Try.underlying22 (hval 0 22 v0 rfl rfl)
  obtain ⟨z0, hz0, hm0, w0, d0'⟩ : ∃ rs, len0 = rs.length ∧ len0 ≤ maxLen ∧ RunsP (fun _ => True) (fun _ => True) W a0 rs ∧ ∀ r ∈ rs, r.data.length ≤ maxLen := by
    obtain ⟨fuel, hf⟩ := h0
    have hf' : DataW.trod enc Try.prog W 0 (fun _ => true) true fuel 22 [.slice a0 len0 cap0] = some (d0, p0) := by simpa [Value.cells] using hf
    obtain ⟨A, len, cap, rs, e1, e2, e3, e4, e5⟩ := open_runs hf'
    simp only [Value.slice.injEq] at e1
    obtain ⟨rfl, rfl, rfl⟩ := e1
    exact ⟨rs, e2, e3, e4, e5⟩
  subst hz0
  clear hA0 hval0
  refine (walk a0 cap0 z0 W hm0 w0 d0').mono fun e W' ⟨he, bel⟩ => ?_
  subst he
  exact ⟨_, rfl, _, _, _, [], _, [], hW', trodAll_mk1 (shut_bool Try.underlying4 _), (trodAll_cons_mk (Below.trod laidOut (by kernel_rfl) (of_decide_eq_true (by kernel_rfl)) k0 bel lt0) trodAll_mk0), rfl, bel.frame _, fun h => by cases h⟩

theorem over : Rows.ImageInverseSaid :=
  OpenClaim.holds_of_wide 5 Try.f5 rfl rfl rfl rfl rfl rfl rfl ⟨rfl, rfl, rfl, rfl, rfl⟩ rfl rfl rfl rfl rfl (by kernel_rfl) Try.func5 (by kernel_rfl)
    (of_decide_eq_true (by kernel_rfl)) (by unfold Func.isWrapper; first | (rw [if_pos (by decide +kernel)]; kernel_rfl) | (rw [if_neg (by decide +kernel)]; exact ⟨rfl, rfl⟩))
    (fun os started H enc _ => lifted os started H enc)
#print axioms over
end Go.Proofs.Ytllfebekanafhaa.imageInverseDone
