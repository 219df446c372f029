/-
  ImageNil, for every list of runs and every address: a nil image is like an empty one, but can't be changed; changing bytes that were given or returned does not change an image: the law returns true, and its arguments read as they did.
  Conditions: none.
-/
import Derived.Test.YtllfebekanafhaaImgY
import Derived.Test.YtllfebekanafhaaRows
import Derived.ProofKit
import Derived.OpenShut
import Derived.Lay
import Derived.LaidOnce
import Derived.SevenTiedAt
import Derived.Below
namespace Go.Proofs.Ytllfebekanafhaa.imageNilDone
open Go.ChangeShapes Go.WideShapes Go.ChangeAt Go.RowKit
open Go.ChangeMaps (open_string shut_string)
set_option linter.unusedVariables false

theorem own : ownKnob Try.prog.godebug = none := by kernel_rfl
theorem laidOut : laidOutB Try.prog = true := by kernel_rfl
/-- A slice of integers that came in: nil, or a row of 'cap' cells that hold the numbers 'zs'. -/
def IsRow (k : IntKind) (w : World) (a : Option Addr) (len cap : Nat) (zs : List Int) : Prop :=
  (a = none ∧ len = 0 ∧ cap = 0 ∧ zs = []) ∨
  ∃ x, a = some x ∧ len ≤ cap ∧ cap ≤ maxLen ∧ zs.length = cap ∧ (∀ i, i < zs.length → w.cell? (x.add i) = some (.int k (zs.getD i 0))) ∧ ∀ n ∈ zs, (Lit.int k n).wf = true

set_option maxHeartbeats 8000000 in
theorem walk (A : Option Addr) (cap : Nat) (rs : List R) (ad : Int) (w : World) (hm : rs.length ≤ maxLen) (hR : RunsP (fun _ => True) (fun _ => True) w A rs) (hd : ∀ r ∈ rs, r.data.length ≤ maxLen) (hwf : (Lit.int .i64 ad).wf = true) :
    Calls Try.prog 8 #[.slice A rs.length cap, .int .i64 ad] w fun e w' => e = .returned (.bool true) ∧ Below w.heap.size w w' := by
  have Z := Lib.hid (hR.mono (T := (· < w.heap.size)) (Q := (· < w.heap.size)) (fun _ h _ => h) (fun _ h _ => h))
  have HD := Lib.hid hd
  clear hR hd hwf
  have hf := fewAll_any _ _ A cap rs hm w Z.out HD.out
  cases hfb : fewB rs
  · rw [hfb] at hf
    clear hfb
    go_enter Try.func8, Try.ntmps8
    go_wp2_with fail
    refine hf.mono ?_
    rintro e w1 ⟨rfl, rfl⟩
    go_wp2_with fail
    refine (alive_any _).mono ?_
    rintro e w1 ⟨rfl, hb1⟩
    have N := Lib.hid hb1
    clear hb1
    go_wp2
    go_ret
    exact ⟨rfl, N.out⟩
  · rw [hfb] at hf
    have hl60 := few_len hfb
    have hshort : ∀ r ∈ rs, r.data.length ≤ 3000 := fun r hr => by
      unfold fewB at hfb
      rw [Bool.and_eq_true, decide_eq_true_eq, decide_eq_true_eq] at hfb
      obtain ⟨s, t, e⟩ := List.append_of_mem hr
      have h := hfb.2
      unfold sumR at h
      rw [e, List.map_append, List.sum_append, List.map_cons, List.sum_cons] at h
      omega
    have HS := Lib.hid hshort
    clear hfb hm hshort
    go_enter Try.func8, Try.ntmps8
    go_wp2_with fail
    refine hf.mono ?_
    rintro e w1 ⟨rfl, rfl⟩
    clear hf
    go_wp2_with fail
    refine (newOf_any _).mono ?_
    rintro e w1 ⟨b, rfl, hb, hI, hB⟩
    have I1 := Lib.hid hI
    have B1 := Lib.hid hB
    have HB := Lib.hid hb
    clear hI hB hb
    go_wp2
    go_loopw [7, 24] (fun v i wr => ∃ (k : Nat) (W : List Cel) (A2 : Option Addr) (cap2 : Nat), k ≤ rs.length ∧ i = .int .i64 k ∧ v = .slice A2 W.length cap2 ∧ W.length ≤ cap2 ∧ ImgOf wr b W ∧ CellsP (fun i => w.heap.size ≤ i ∧ i ≠ b) wr A2 W ∧ Below w.heap.size w wr) (fun _ i _ => rs.length - (intOf i).toNat)
    case atStart => exact ⟨0, [], none, 0, Nat.zero_le _, rfl, rfl, Nat.le_refl _, I1.out, .inl rfl, B1.out⟩
    case round =>
      obtain ⟨k, W, A2, cap2, hk, rfl, rfl, hc2, hI, hC, hB⟩ := hrel
      have I2 := Lib.hid hI
      have C2 := Lib.hid hC
      have B2 := Lib.hid hB
      clear hI hC hB
      by_cases hlt : k < rs.length
      · have Z2 := Z.out.below B2.out
        obtain ⟨bb, off, hA, g1, g2⟩ := Z2.at_ hlt
        subst hA
        have hlt' : (k : Int) < (rs.length : Int) := by omega
        have X := Z2.2 _ (List.getElem_mem hlt)
        have hdk := HD.out _ (List.getElem_mem hlt)
        have hsk := HS.out _ (List.getElem_mem hlt)
        obtain ⟨r, hr⟩ : ∃ r, rs[k] = r := ⟨_, rfl⟩
        rw [hr] at g1 g2 X hdk hsk
        obtain ⟨ob, hob⟩ : ∃ o, Obj.cells #[.int .i64 r.addr, .slice r.A r.data.length r.cap] 30 = o := ⟨_, rfl⟩
        have hal : Below wr.heap.size wr (wr.alloc ob) := (Below.refl _ _).alloc (Nat.le_refl _) ob
        have hbw := I2.out.lt
        have hcell0 : (wr.alloc ob).cell? ⟨wr.heap.size, 0, none⟩ = some (.int .i64 r.addr) := by rw [← hob]; exact (two_cells wr _ rfl _ _ _).1
        have hcell1 : (wr.alloc ob).cell? ⟨wr.heap.size, 1, none⟩ = some (.slice r.A r.data.length r.cap) := by rw [← hob]; exact (two_cells wr _ rfl _ _ _).2
        have hasz : wr.heap.size < (wr.alloc ob).heap.size := by simp
        obtain ⟨Ao, co, wc, go, krun, kb, kt, kg, kB⟩ := own_copy (X.below hal) r.cap (by omega) 28
        have hBac : Below wr.heap.size wr wc := hal.trans (kB.mono hal.size)
        have b0 := B2.out.size
        have hbgo : Hid (b ≠ go) := by show b ≠ go; omega
        have hbvb : Hid (wr.heap.size ≠ b) := by show _ ≠ b; omega
        have I3 := Lib.hid (I2.out.below hBac)
        have X3 := Lib.hid (X.below hBac)
        have B3 := Lib.hid (B2.out.trans (hBac.mono b0))
        have C3 := Lib.hid ((C2.out.mono (Q := fun i => (w.heap.size ≤ i ∧ i ≠ b) ∧ i ≠ go) (fun i hi hp => ⟨hp, by omega⟩)).below hBac)
        have T3 := Lib.hid kt
        have HDK := Lib.hid hdk
        have hip := put_any b W r.addr (fun i => i = go) (fun h => hbgo.out h) Ao r.data co wc hdk I3.out kb
        have q0 := Lib.hid ((kB.cell (p := ⟨wr.heap.size, 0, none⟩) hasz).trans hcell0)
        have q1 := Lib.hid ((kB.cell (p := ⟨wr.heap.size, 1, none⟩) hasz).trans hcell1)
        have hgw : Hid (w.heap.size ≤ go) := by show _ ≤ _; omega
        have hvlt : Hid (wr.heap.size < wc.heap.size) := Nat.lt_of_lt_of_le hasz kB.size
        have hgosz : Hid (go < wc.heap.size ∨ r.data.length = 0) := by
          rcases kt with h | ⟨b', off', h1, h2, h3⟩
          · exact .inr h
          · by_cases h0 : r.data.length = 0
            · exact .inr h0
            · obtain ⟨y, hy⟩ := (h3 0 (by omega)).1
              have := World.block_lt_of_cell? wc _ hy
              left
              show go < _
              rw [← h2]; exact this
        have K := Lib.hid krun
        obtain ⟨n, hn⟩ : ∃ n : Nat, r.data.length = n := ⟨_, rfl⟩
        rw [← hob] at hcell0 hcell1 K
        have KK : Hid ((Builtin.append_ #[28, 28] 28 #[.slice (some ⟨wr.heap.size + 1, 0, none⟩) 0 0, .slice r.A r.data.length r.cap]).run Try.prog ((wr.alloc (.cells #[.int .i64 r.addr, .slice r.A r.data.length r.cap] 30)).alloc (.cells #[] 5)) = .ok (.slice Ao r.data.length co) wc) := by
          have h := K.out
          rw [show (wr.alloc (.cells #[.int .i64 r.addr, .slice r.A r.data.length r.cap] 30)).heap.size = wr.heap.size + 1 by simp] at h
          exact h
        clear hr hob hal hcell0 hcell1 hasz krun kb kt kg kB hBac b0 hbw Z2 X hdk K hn
        obtain ⟨q0', q1'⟩ := And.intro q0.out q1.out
        go_wp2_with (at_builtin; refine wpList_run_append KK.out rfl _ _ rfl rfl rfl rfl ?_)
        refine hip.mono ?_
        rintro e w3 ⟨rfl, hI5, hK5⟩
        have I5 := Lib.hid hI5
        have C5 := Lib.hid (C3.out.keep hK5 (fun h => h.1.2 rfl))
        have B5 := Lib.hid (B3.out.trans (hK5.below HB.out B3.out.size))
        have X5 := Lib.hid (X3.out.keep hK5 (Nat.not_lt.2 HB.out))
        have T5 := Lib.hid (T3.out.keep hK5 (fun h => hbgo.out h))
        have p0 := (World.cell?_of_block (w := wc) (a := ⟨wr.heap.size, 0, none⟩) (hK5.block _ hvlt.out hbvb.out)).trans q0.out
        have p1 := (World.cell?_of_block (w := wc) (a := ⟨wr.heap.size, 1, none⟩) (hK5.block _ hvlt.out hbvb.out)).trans q1.out
        have hbw3 := I5.out.lt
        have b3 := B5.out.size
        have hgw' := hgw.out
        have hgo3 : go < w3.heap.size ∨ r.data.length = 0 := by
          rcases hgosz.out with h | h
          · exact .inl (Nat.lt_of_lt_of_le h hK5.size)
          · exact .inr h
        have hrp := rput_any (fun i => (w.heap.size ≤ i ∧ i ≠ b) ∧ (i ≠ go ∨ r.data.length = 0)) A2 cap2 W I2.out.1 r.addr (· < w.heap.size) r.A r.cap r.data HDK.out w3 (fun i hi => ⟨⟨by omega, by omega⟩, by rcases hgo3 with h | h; exact .inl (by omega); exact .inr h⟩) hc2 (C5.out.mono fun i _ h => ⟨h.1, .inl h.2⟩) X5.out
        clear hI5 hK5 hip hbw3 b3 hgw' q0' q1' hgo3
        go_wp2_with fail
        refine hrp.mono ?_
        rintro e w4 ⟨A3, cap3, rfl, hc3, hC3, hB3⟩
        have I6 := Lib.hid (I5.out.below hB3)
        have B6 := Lib.hid (B5.out.trans (hB3.mono B5.out.size))
        have C6 := Lib.hid hC3
        have T6 := Lib.hid (T5.out.below hB3)
        clear hrp hC3 hB3 p0 p1
        go_wp2
        go_loopw [48] (fun i wr => ∃ j : Nat, j ≤ r.data.length ∧ i = .int .i64 j ∧ TyP (fun i => i = go) wr Ao r.data.length ∧ Keep go w4 wr ∧ (r.data.length = 0 → wr = w4)) (fun i _ => r.data.length - (intOf i).toNat)
        case atStart => exact ⟨0, Nat.zero_le _, rfl, T6.out, Keep.refl _ _, fun _ => rfl⟩
        case round =>
          obtain ⟨j, hj, rfl, hT, hKj, h00⟩ := hrel
          have TJ := Lib.hid hT
          have KJ := Lib.hid hKj
          have H00 := Lib.hid h00
          clear hT hKj h00
          by_cases hjt : j < r.data.length
          · obtain ⟨g, off2, y, hAo, hgg, c1, c2⟩ := TJ.out.at_ hjt
            subst hAo hgg
            have hjt' : (j : Int) < (r.data.length : Int) := by omega
            have TN := fun y => Lib.hid (TJ.out.set g (off2 + j) y)
            have KN := fun y => Lib.hid (KJ.out.setCell (off2 + j) none (.int .u8 y))
            go_wp2
            go_roundw
            case rel => exact ⟨j + 1, by omega, by go_num, (TN _).out, (KN _).out, fun h => by omega⟩
            case measure => simp [intOf]; omega
          · have hjt' : decide ((j : Int) < (r.data.length : Int)) = false := decide_eq_false (by omega)
            have I7 := Lib.hid (I6.out.keep KJ.out hbgo.out)
            have B7 := Lib.hid (B6.out.trans (KJ.out.below hgw.out B6.out.size))
            have C7 : Hid (CellsP (fun i => w.heap.size ≤ i ∧ i ≠ b) wr A3 (putW W r.addr r.data)) := by
              by_cases h0 : r.data.length = 0
              · rw [H00.out h0]
                exact C6.out.mono fun i _ h => h.1
              · exact (C6.out.keep KJ.out (fun h => h.2.elim (fun h => h rfl) (fun h => h0 h))).mono fun i _ h => h.1
            go_wp2
            go_roundw
            case rel => exact ⟨k + 1, _, A3, cap3, by omega, by go_num, rfl, hc3, I7.out, C7.out, B7.out⟩
            case measure => simp [intOf]; omega
      · have hlt' : decide ((k : Int) < (rs.length : Int)) = false := decide_eq_false (by omega)
        obtain ⟨wb, hwb⟩ : ∃ wb, wb = wr := ⟨_, rfl⟩
        subst hwb
        go_wp2_with fail
        refine (runsW_any b W _ I2.out).mono ?_
        rintro e w3 ⟨v, r3, rfl, hO3, E3, hW3⟩
        obtain ⟨A3, cap3, g, hv, hAg, hg, hSp, hTy⟩ := runs_open hO3 hW3
        subst hv
        have BR := Lib.hid hO3.2.1
        have S3 := Lib.hid hSp
        have T3 := Lib.hid hTy
        have HG := Lib.hid hg
        have HA := Lib.hid hAg
        have hn3 : r3.length ≤ 65536 := by
          rw [pairs_length E3]
          exact Nat.le_trans (runs_length_le _) (sorted_length I2.out.1)
        have hdat : ∀ r ∈ r3, r.data.length ≤ 65536 := fun r hr => by
          obtain ⟨j, hj, rfl⟩ := List.mem_iff_getElem.1 hr
          obtain ⟨hl, e1, e2⟩ := pairs_get E3 j hj
          rw [e2]
          exact Nat.le_trans (runs_mem_le (List.getElem_mem hl)) (sorted_length I2.out.1)
        have HDA := Lib.hid hdat
        clear hO3 E3 hW3 hSp hTy hg hAg hdat
        go_wp2
        go_loopw [62] (fun i wx => ∃ j : Nat, j ≤ r3.length ∧ i = .int .i64 j ∧ Below wb.heap.size wb wx ∧ Sp wx g r3 ∧ (∀ r ∈ r3, TyP (fun i => wb.heap.size ≤ i ∧ i ≠ g ∧ i < w3.heap.size) wx r.A r.data.length) ∧ w3.heap.size ≤ wx.heap.size) (fun i _ => r3.length - (intOf i).toNat)
        case atStart => exact ⟨0, Nat.zero_le _, rfl, BR.out, S3.out, T3.out, Nat.le_refl _⟩
        case round =>
          obtain ⟨j, hj, rfl, hBj, hSj, hTj, hzj⟩ := hrel
          have BJ := Lib.hid hBj
          have SJ := Lib.hid hSj
          have TJ := Lib.hid hTj
          have ZJ := Lib.hid hzj
          clear hBj hSj hTj hzj
          by_cases hjt : j < r3.length
          · have hA3 := HA.out (by omega)
            subst hA3
            obtain ⟨p1, p2⟩ := SJ.out j hjt
            have hmem := List.getElem_mem hjt
            have hdl := HDA.out _ hmem
            have hjt' : (j : Int) < (r3.length : Int) := by omega
            obtain ⟨r, hr⟩ : ∃ r, r3[j] = r := ⟨_, rfl⟩
            rw [hr] at p1 p2 hmem hdl
            have HM := Lib.hid hmem
            obtain ⟨n, hn⟩ : ∃ n : Nat, r.data.length = n := ⟨_, rfl⟩
            obtain ⟨ra, hra⟩ : ∃ a, r.A = a := ⟨_, rfl⟩
            obtain ⟨rc, hrc⟩ : ∃ a, r.cap = a := ⟨_, rfl⟩
            obtain ⟨x, hx⟩ : ∃ x, r.addr = x := ⟨_, rfl⟩
            have TR : Hid (∀ wx, (∀ r ∈ r3, TyP (fun i => wb.heap.size ≤ i ∧ i ≠ g ∧ i < w3.heap.size) wx r.A r.data.length) → TyP (fun i => wb.heap.size ≤ i ∧ i ≠ g ∧ i < w3.heap.size) wx ra n) := fun wx h => by
              rw [← hra, ← hn]; exact h r HM.out
            rw [hx] at p1
            rw [hra, hn, hrc] at p2
            rw [hn] at hdl
            obtain ⟨ob, hob⟩ : ∃ o, Obj.cells #[.int .i64 x, .slice ra n rc] 47 = o := ⟨_, rfl⟩
            have hal : Below wr.heap.size wr (wr.alloc ob) := (Below.refl _ _).alloc (Nat.le_refl _) ob
            have hcell1 : (wr.alloc ob).cell? ⟨wr.heap.size, 1, none⟩ = some (.slice ra n rc) := by rw [← hob]; exact (two_cells wr _ rfl _ _ _).2
            have BA := Lib.hid (BJ.out.trans (hal.mono BJ.out.size))
            have SA := Lib.hid (SJ.out.below hal)
            have TA : Hid (∀ r ∈ r3, TyP (fun i => wb.heap.size ≤ i ∧ i ≠ g ∧ i < w3.heap.size) (wr.alloc ob) r.A r.data.length) := fun r hr => (TJ.out r hr).below hal
            have ZA := Lib.hid (Nat.le_trans ZJ.out hal.size)
            have hv0 := ZJ.out
            obtain ⟨wa, hwa⟩ : ∃ wa, wr.alloc ob = wa := ⟨_, rfl⟩
            rw [hwa] at BA SA TA ZA hcell1
            obtain ⟨vb, hvb⟩ : ∃ vb, wr.heap.size = vb := ⟨_, rfl⟩
            rw [hvb] at hcell1 hv0
            have HV := Lib.hid hv0
            have C1 := Lib.hid hcell1
            clear hr hn hra hrc hx hmem hal hv0
            go_wp2
            go_loopw [69] (fun i wx => ∃ q : Nat, q ≤ n ∧ i = .int .i64 q ∧ Below wb.heap.size wb wx ∧ Sp wx g r3 ∧ (∀ r ∈ r3, TyP (fun i => wb.heap.size ≤ i ∧ i ≠ g ∧ i < w3.heap.size) wx r.A r.data.length) ∧ w3.heap.size ≤ wx.heap.size ∧ wx.cell? ⟨vb, 1, none⟩ = some (.slice ra n rc)) (fun i _ => n - (intOf i).toNat)
            case atStart => exact ⟨0, Nat.zero_le _, rfl, BA.out, SA.out, TA.out, ZA.out, C1.out⟩
            case round =>
              obtain ⟨q, hq, rfl, hBq, hSq, hTq, hzq, hcq⟩ := hrel
              have BQ := Lib.hid hBq
              have SQ := Lib.hid hSq
              have TQ := Lib.hid hTq
              have ZQ := Lib.hid hzq
              have CQ := Lib.hid hcq
              clear hBq hSq hTq hzq hcell1
              by_cases hqt : q < n
              · obtain ⟨bk, off2, y, hAo, ⟨hk1, hk2, hk3⟩, c1, c2⟩ := (TR.out _ TQ.out).at_ hqt
                subst hAo
                have hqt' : (q : Int) < (n : Int) := by omega
                have hvk : bk ≠ vb := by have := HV.out; omega
                have BN := fun y => Lib.hid (BQ.out.setCell (p := ⟨bk, off2 + q, none⟩) hk1 (.int .u8 y))
                have SN := fun y => Lib.hid (SQ.out.set (a := ⟨bk, off2 + q, none⟩) hk2 (.int .u8 y))
                have TN := fun y => Lib.hid (fun r hr => (TQ.out r hr).set bk (off2 + q) y)
                have CN := fun y => Lib.hid ((World.cell?_setCell_other wr ⟨bk, off2 + q, none⟩ ⟨vb, 1, none⟩ (.int .u8 y) (fun e => hvk (congrArg Addr.block e))).trans CQ.out)
                have ZN := fun (y : Int) => Lib.hid (show w3.heap.size ≤ (wr.setCell ⟨bk, off2 + q, none⟩ (.int .u8 y)).heap.size by simpa [World.setCell] using ZQ.out)
                clear hk1 hk2 hk3 hvk
                go_wp2
                go_roundw
                case rel => exact ⟨q + 1, by omega, by go_num, (BN _).out, (SN _).out, (TN _).out, (ZN _).out, (CN _).out⟩
                case measure => simp [intOf]; omega
              · have hqt' : decide ((q : Int) < (n : Int)) = false := decide_eq_false (by omega)
                go_wp2
                go_roundw
                case rel => exact ⟨j + 1, by omega, by go_num, BQ.out, SQ.out, TQ.out, ZQ.out⟩
                case measure => simp [intOf]; omega
          · have hjt' : decide ((j : Int) < (r3.length : Int)) = false := decide_eq_false (by omega)
            have I4 := Lib.hid (I2.out.below BJ.out)
            have C4 := Lib.hid (C2.out.below BJ.out)
            have B4 := Lib.hid (B2.out.trans (BJ.out.mono B2.out.size))
            go_wp2_with fail
            refine (getNil_any ad _).mono ?_
            rintro e w4 ⟨rfl, rfl⟩
            go_wp2_with fail
            refine (alive_any _).mono ?_
            rintro e w5 ⟨rfl, hb5⟩
            have I5 := Lib.hid (I4.out.below hb5)
            have C5 := Lib.hid (C4.out.below hb5)
            have B5 := Lib.hid (B4.out.trans (hb5.mono B4.out.size))
            clear hb5
            go_wp2_with fail
            refine (lsame_any b _ _ A2 cap2 _ I5.out C5.out).mono ?_
            rintro e w6 ⟨rfl, hb6⟩
            have B6 := Lib.hid (B5.out.trans (hb6.mono B5.out.size))
            clear hb6
            have B7 := Lib.hid (B6.out.alloc B6.out.size (.cells #[.int .u8 1] 5))
            go_wp2_with fail
            refine (putNil_any ad _ _ _ _).mono ?_
            rintro e w7 ⟨rfl, rfl⟩
            go_wp2_with fail
            refine (lenNil_any _).mono ?_
            rintro e w8 ⟨rfl, rfl⟩
            go_wp2_with fail
            refine (runsNil_any _).mono ?_
            rintro e w9 ⟨rfl, rfl⟩
            go_wp2_with fail
            refine (newOf_any _).mono ?_
            rintro e u1 ⟨d, rfl, _, hJ, hb8⟩
            have B8 := Lib.hid (B7.out.trans (hb8.mono B7.out.size))
            have hsn := same_nil (a := .pointer none) (b := .pointer (some ⟨d, 0, none⟩)) (n := 0) (m := 0) u1 (.inl rfl) (lenNil_any u1) (lenOf_any d [] u1 hJ) ⟨_, rfl⟩ ⟨_, rfl⟩
            clear hb8 hJ
            go_wp2_with fail
            refine hsn.mono ?_
            rintro e u2 ⟨rfl, rfl⟩
            clear hsn
            go_wp2_with fail
            refine (cloneNil_any _).mono ?_
            rintro e u3 ⟨d2, rfl, _, _, hb9⟩
            have B9 := Lib.hid (B8.out.trans (hb9.mono B8.out.size))
            clear hb9
            go_wp2_with fail
            refine (cloneNil_any _).mono ?_
            rintro e u4 ⟨d3, rfl, _, hJ3, hb10⟩
            have B10 := Lib.hid (B9.out.trans (hb10.mono B9.out.size))
            have hl3 := lenOf_any d3 [] u4 hJ3
            clear hb10 hJ3
            go_wp2_with fail
            refine hl3.mono ?_
            rintro e u5 ⟨rfl, rfl⟩
            clear hl3
            go_wp2
            go_ret
            exact ⟨rfl, B10.out⟩

set_option maxRecDepth 100000 in
theorem lifted (os : Os) (started : os.Started) (H : Type) (enc : TypeId × Value → H) :
    ReturnsInHanded {} Try.checked os 8 .any (Rows.imageNilSpec.pre6 enc Try.prog Try.f8 Rows.imageNilRow.domain false) (Rows.imageNilSpec.post enc Try.prog Try.f8 false true false false) := by
  refine returnsInHanded_of_change (C := Try.checked) own started (by kernel_rfl) Try.func8
    (ChangeSpec.witness6 (enc := enc) (C := Try.checked) false ⟨#[], #[.slice none 0 0, .int .i64 0], []⟩ 8 (by kernel_rfl) (by kernel_rfl) (by kernel_rfl) (by kernel_rfl)) ?_
  intro W base args ds gs before hval0 hW _ _
  have hval : ∀ (j : Nat) t v, Try.f8.params[j]? = some t → args[j]? = some v → Value.okWide Try.prog W .any base t v := hval0
  have hW' := hW
  obtain ⟨p, q, hA0, hV, rfl, _, _⟩ := hW
  have hA : DataW.TrodAll enc Try.prog W 0 (fun _ => true) true Try.f8.params.toList args.toList ds p := hA0
  rw [Try.params8] at hA hval
  obtain ⟨v0, vs0, d0, ds0, p0, q0, hargs, rfl, rfl, h0, r0⟩ := trodAll_cons hA
  obtain ⟨v1, vs1, d1, ds1, p1, q1, rfl, rfl, rfl, h1, r1⟩ := trodAll_cons r0
  obtain ⟨rfl, rfl, rfl⟩ := trodAll_nil r1
  obtain rfl : args = #[v0, v1] := by cases args; simp_all
  obtain ⟨rfl, rfl⟩ := trodVars_none hV
  have k0 := h0
  have lt0 : ∀ x ∈ p0, x.block < W.heap.size := by obtain ⟨m, hm⟩ := k0; exact DataW.trod_lt m _ _ _ hm
  obtain ⟨a0, len0, cap0, rfl⟩ := okWide_slice Try.underlying22 (hval 0 22 v0 rfl rfl)
  obtain ⟨z0, hz0, hm0, w0, d0'⟩ : ∃ rs, len0 = rs.length ∧ len0 ≤ maxLen ∧ RunsP (fun _ => True) (fun _ => True) W a0 rs ∧ ∀ r ∈ rs, r.data.length ≤ maxLen := by
    obtain ⟨fuel, hf⟩ := h0
    have hf' : DataW.trod enc Try.prog W 0 (fun _ => true) true fuel 22 [.slice a0 len0 cap0] = some (d0, p0) := by simpa [Value.cells] using hf
    obtain ⟨A, len, cap, rs, e1, e2, e3, e4, e5⟩ := open_runs hf'
    simp only [Value.slice.injEq] at e1
    obtain ⟨rfl, rfl, rfl⟩ := e1
    exact ⟨rs, e2, e3, e4, e5⟩
  subst hz0
  obtain ⟨a1, rfl, rfl, rfl, w1⟩ := open_int Try.underlying3 (hval 1 3 v1 rfl rfl) h1
  clear hA0 hval0
  refine (walk a0 cap0 z0 a1 W hm0 w0 d0' w1).mono fun e W' ⟨he, bel⟩ => ?_
  subst he
  exact ⟨_, rfl, _, _, _, [], _, [], hW', trodAll_mk1 (shut_bool Try.underlying4 _), (trodAll_cons_mk (Below.trod laidOut (by kernel_rfl) (of_decide_eq_true (by kernel_rfl)) k0 bel lt0) (trodAll_cons_mk (shut_int Try.underlying3 w1) trodAll_mk0)), rfl, bel.frame _, fun h => by cases h⟩

theorem over : Rows.ImageNilSaid :=
  OpenClaim.holds_of_wide 8 Try.f8 rfl rfl rfl rfl rfl rfl rfl ⟨rfl, rfl, rfl, rfl, rfl⟩ rfl rfl rfl rfl rfl (by kernel_rfl) Try.func8 (by kernel_rfl)
    (of_decide_eq_true (by kernel_rfl)) (by unfold Func.isWrapper; first | (rw [if_pos (by decide +kernel)]; kernel_rfl) | (rw [if_neg (by decide +kernel)]; exact ⟨rfl, rfl⟩))
    (fun os started H enc _ => lifted os started H enc)
#print axioms over
end Go.Proofs.Ytllfebekanafhaa.imageNilDone
