/-
  ImagePuts, for every list of runs: the codes and the runs of the image are those of the reference: the law returns true, and its argument reads as it did.
  Conditions: none.
-/
import Derived.Test.YtllfebekanafhaaImgT
import Derived.Test.YtllfebekanafhaaRows
import Derived.ProofKit
import Derived.OpenShut
import Derived.Lay
import Derived.LaidOnce
import Derived.SevenTiedAt
import Derived.Below
namespace Go.Proofs.Ytllfebekanafhaa.imagePutsDone
open Go.ChangeShapes Go.WideShapes Go.ChangeAt Go.RowKit
open Go.ChangeMaps (open_string shut_string)
set_option linter.unusedVariables false

theorem own : ownKnob Try.prog.godebug = none := by kernel_rfl
theorem laidOut : laidOutB Try.prog = true := by kernel_rfl
/-- A slice of integers that came in: nil, or a row of 'cap' cells that hold the numbers 'zs'. -/
def IsRow (k : IntKind) (w : World) (a : Option Addr) (len cap : Nat) (zs : List Int) : Prop :=
  (a = none ∧ len = 0 ∧ cap = 0 ∧ zs = []) ∨
  ∃ x, a = some x ∧ len ≤ cap ∧ cap ≤ maxLen ∧ zs.length = cap ∧ (∀ i, i < zs.length → w.cell? (x.add i) = some (.int k (zs.getD i 0))) ∧ ∀ n ∈ zs, (Lit.int k n).wf = true

theorem ne_same (c : Int) : (c != c) = false := by simp
set_option maxHeartbeats 4000000 in
theorem walk (A : Option Addr) (cap : Nat) (rs : List R) (w : World) (hm : rs.length ≤ maxLen) (hR : RunsP (fun _ => True) (fun _ => True) w A rs) (hd : ∀ r ∈ rs, r.data.length ≤ maxLen) :
    Calls Try.prog 3 #[.slice A rs.length cap] w fun e w' => e = .returned (.bool true) ∧ Below w.heap.size w w' := by
  have Z := Lib.hid (hR.mono (T := (· < w.heap.size)) (Q := (· < w.heap.size)) (fun _ h _ => h) (fun _ h _ => h))
  have HD := Lib.hid hd
  clear hR hd
  have hf := fewAll_any _ _ A cap rs hm w Z.out HD.out
  cases hfb : fewB rs
  · rw [hfb] at hf
    clear hfb
    go_enter Try.func3, Try.ntmps3
    go_wp2_with fail
    refine hf.mono ?_
    rintro e w1 ⟨rfl, rfl⟩
    go_wp2_with fail
    refine (alive_any _).mono ?_
    rintro e w1 ⟨rfl, hb1⟩
    have N := Lib.hid hb1
    clear hb1
    go_wp2
    go_ret
    exact ⟨rfl, N.out⟩
  · rw [hfb] at hf
    have hl60 := few_len hfb
    clear hfb hm
    go_enter Try.func3, Try.ntmps3
    go_wp2_with fail
    refine hf.mono ?_
    rintro e w1 ⟨rfl, rfl⟩
    clear hf
    go_wp2_with fail
    refine (newOf_any _).mono ?_
    rintro e w1 ⟨b, rfl, hb, hI, hB⟩
    have I1 := Lib.hid hI
    have B1 := Lib.hid hB
    have HB := Lib.hid hb
    clear hI hB hb
    go_wp2
    go_loopw [4, 16] (fun v i wr => ∃ (k : Nat) (W : List Cel) (A2 : Option Addr) (cap2 : Nat), k ≤ rs.length ∧ i = .int .i64 k ∧ v = .slice A2 W.length cap2 ∧ W.length ≤ cap2 ∧ ImgOf wr b W ∧ CellsP (fun i => w.heap.size ≤ i ∧ i ≠ b) wr A2 W ∧ Below w.heap.size w wr) (fun _ i _ => rs.length - (intOf i).toNat)
    case atStart => exact ⟨0, [], none, 0, Nat.zero_le _, rfl, rfl, Nat.le_refl _, I1.out, .inl rfl, B1.out⟩
    case round =>
      obtain ⟨k, W, A2, cap2, hk, rfl, rfl, hc2, hI, hC, hB⟩ := hrel
      have I2 := Lib.hid hI
      have C2 := Lib.hid hC
      have B2 := Lib.hid hB
      clear hI hC hB
      by_cases hlt : k < rs.length
      · have Z2 := Z.out.below B2.out
        obtain ⟨bb, off, hA, g1, g2⟩ := Z2.at_ hlt
        subst hA
        have hlt' : (k : Int) < (rs.length : Int) := by omega
        have X := Z2.2 _ (List.getElem_mem hlt)
        have hdk := HD.out _ (List.getElem_mem hlt)
        obtain ⟨r, hr⟩ : ∃ r, rs[k] = r := ⟨_, rfl⟩
        rw [hr] at g1 g2 X hdk
        obtain ⟨ob, hob⟩ : ∃ o, Obj.cells #[.int .i64 r.addr, .slice r.A r.data.length r.cap] 30 = o := ⟨_, rfl⟩
        have hal : Below wr.heap.size wr (wr.alloc ob) := (Below.refl _ _).alloc (Nat.le_refl _) ob
        have hbw := I2.out.lt
        have b0 := B2.out.size
        have hs0 := hal.size
        have hrp := rput_any (fun i => w.heap.size ≤ i ∧ i ≠ b) A2 cap2 W I2.out.1 r.addr (· < w.heap.size) r.A r.cap r.data hdk (wr.alloc ob) (fun i hi => ⟨by omega, by omega⟩) hc2 (C2.out.below hal) (X.below hal)
        have I3 := Lib.hid (I2.out.below hal)
        have X3 := Lib.hid (X.below hal)
        have B3 := Lib.hid (B2.out.alloc b0 ob)
        have HDK := Lib.hid hdk
        have hcell0 : (wr.alloc ob).cell? ⟨wr.heap.size, 0, none⟩ = some (.int .i64 r.addr) := by rw [← hob]; exact (two_cells wr _ rfl _ _ _).1
        have hcell1 : (wr.alloc ob).cell? ⟨wr.heap.size, 1, none⟩ = some (.slice r.A r.data.length r.cap) := by rw [← hob]; exact (two_cells wr _ rfl _ _ _).2
        have hasz : wr.heap.size < (wr.alloc ob).heap.size := by simp
        obtain ⟨wa, hwa⟩ : ∃ wa, wr.alloc ob = wa := ⟨_, rfl⟩
        rw [hwa] at hrp I3 X3 B3 hcell0 hcell1 hasz
        obtain ⟨vb, hvb⟩ : ∃ vb, wr.heap.size = vb := ⟨_, rfl⟩
        rw [hvb] at hcell0 hcell1 hasz hbw
        have hbv : vb ≠ b := by omega
        clear hr hal Z2 X hdk b0 hs0
        go_wp2_with fail
        refine hrp.mono ?_
        rintro e w2 ⟨A3, cap3, rfl, hc3, hC3, hB3⟩
        have I4 := Lib.hid (I3.out.below hB3)
        have X4 := Lib.hid (X3.out.below hB3)
        have B4 := Lib.hid (B3.out.trans (hB3.mono B3.out.size))
        have C4 := Lib.hid hC3
        have q0 := (hB3.cell (p := ⟨vb, 0, none⟩) hasz).trans hcell0
        have q1 := (hB3.cell (p := ⟨vb, 1, none⟩) hasz).trans hcell1
        have hip := put_any b W r.addr (· < w.heap.size) (Nat.not_lt.2 HB.out) r.A r.data r.cap w2 HDK.out I4.out X4.out
        have hcc := ne_same (codeW W r.addr r.data)
        clear hrp hcell0 hcell1 hC3 hB3
        go_wp2_with fail
        refine hip.mono ?_
        rintro e w3 ⟨rfl, hI5, hK5⟩
        have I5 := Lib.hid hI5
        have C5 := Lib.hid (C4.out.keep hK5 (fun h => h.2 rfl))
        have B5 := Lib.hid (B4.out.trans (hK5.below HB.out B4.out.size))
        clear hI5 hK5 hip
        go_wp2_with fail
        refine (lsame_any b _ _ A3 cap3 w3 I5.out C5.out).mono ?_
        rintro e w4 ⟨rfl, hB6⟩
        have I6 := Lib.hid (I5.out.below hB6)
        have C6 := Lib.hid (C5.out.below hB6)
        have B6 := Lib.hid (B5.out.trans (hB6.mono B5.out.size))
        clear hB6
        go_wp2
        go_roundw
        case rel => exact ⟨k + 1, _, A3, cap3, by omega, by go_num, rfl, hc3, I6.out, C6.out, B6.out⟩
        case measure => simp [intOf]; omega
      · have hlt' : decide ((k : Int) < (rs.length : Int)) = false := decide_eq_false (by omega)
        go_wp2_with fail
        refine (alive_any _).mono ?_
        rintro e w1 ⟨rfl, hb1⟩
        have N := Lib.hid (B2.out.trans (hb1.mono B2.out.size))
        clear hb1
        go_wp2
        go_ret
        exact ⟨rfl, N.out⟩

set_option maxRecDepth 100000 in
theorem lifted (os : Os) (started : os.Started) (H : Type) (enc : TypeId × Value → H) :
    ReturnsInHanded {} Try.checked os 3 .any (Rows.imagePutsSpec.pre6 enc Try.prog Try.f3 Rows.imagePutsRow.domain false) (Rows.imagePutsSpec.post enc Try.prog Try.f3 false true false false) := by
  refine returnsInHanded_of_change (C := Try.checked) own started (by kernel_rfl) Try.func3
    (ChangeSpec.witness6 (enc := enc) (C := Try.checked) false ⟨#[], #[.slice none 0 0], []⟩ 8 (by kernel_rfl) (by kernel_rfl) (by kernel_rfl) (by kernel_rfl)) ?_
  intro W base args ds gs before hval0 hW _ _
  have hval : ∀ (j : Nat) t v, Try.f3.params[j]? = some t → args[j]? = some v → Value.okWide Try.prog W .any base t v := hval0
  have hW' := hW
  obtain ⟨p, q, hA0, hV, rfl, _, _⟩ := hW
  have hA : DataW.TrodAll enc Try.prog W 0 (fun _ => true) true Try.f3.params.toList args.toList ds p := hA0
  rw [Try.params3] at hA hval
  obtain ⟨v0, vs0, d0, ds0, p0, q0, hargs, rfl, rfl, h0, r0⟩ := trodAll_cons hA
  obtain ⟨rfl, rfl, rfl⟩ := trodAll_nil r0
  obtain rfl : args = #[v0] := by cases args; simp_all
  obtain ⟨rfl, rfl⟩ := trodVars_none hV
  have k0 := h0
  have lt0 : ∀ x ∈ p0, x.block < W.heap.size := by obtain ⟨m, hm⟩ := k0; exact DataW.trod_lt m _ _ _ hm
  obtain ⟨a0, len0, cap0, rfl⟩ := okWide_slice Try.underlying22 (hval 0 22 v0 rfl rfl)
  obtain ⟨z0, hz0, hm0, w0, d0'⟩ : ∃ rs, len0 = rs.length ∧ len0 ≤ maxLen ∧ RunsP (fun _ => True) (fun _ => True) W a0 rs ∧ ∀ r ∈ rs, r.data.length ≤ maxLen := by
    obtain ⟨fuel, hf⟩ := h0
    have hf' : DataW.trod enc Try.prog W 0 (fun _ => true) true fuel 22 [.slice a0 len0 cap0] = some (d0, p0) := by simpa [Value.cells] using hf
    obtain ⟨A, len, cap, rs, e1, e2, e3, e4, e5⟩ := open_runs hf'
    simp only [Value.slice.injEq] at e1
    obtain ⟨rfl, rfl, rfl⟩ := e1
    exact ⟨rs, e2, e3, e4, e5⟩
  subst hz0
  clear hA0 hval0
  refine (walk a0 cap0 z0 W hm0 w0 d0').mono fun e W' ⟨he, bel⟩ => ?_
  subst he
  exact ⟨_, rfl, _, _, _, [], _, [], hW', trodAll_mk1 (shut_bool Try.underlying4 _), (trodAll_cons_mk (Below.trod laidOut (by kernel_rfl) (of_decide_eq_true (by kernel_rfl)) k0 bel lt0) trodAll_mk0), rfl, bel.frame _, fun h => by cases h⟩

theorem over : Rows.ImagePutsSaid :=
  OpenClaim.holds_of_wide 3 Try.f3 rfl rfl rfl rfl rfl rfl rfl ⟨rfl, rfl, rfl, rfl, rfl⟩ rfl rfl rfl rfl rfl (by kernel_rfl) Try.func3 (by kernel_rfl)
    (of_decide_eq_true (by kernel_rfl)) (by unfold Func.isWrapper; first | (rw [if_pos (by decide +kernel)]; kernel_rfl) | (rw [if_neg (by decide +kernel)]; exact ⟨rfl, rfl⟩))
    (fun os started H enc _ => lifted os started H enc)
#print axioms over
end Go.Proofs.Ytllfebekanafhaa.imagePutsDone
