/-
  HexAl, HexCt, HexOs: texts joined to one.
-/
import Derived.Test.YtmeegpdjhcilkaaDoorHexDa
import Derived.Test.YtmeegpdjhcilkaaDoorImgAllC
import Derived.Lib.Bytealg
import Derived.Laws.Externs
import Derived.Test.YtmeegpdjhcilkaaDoorRecAllC
import Derived.SliceStrings
/-
  The walks over the law's alive and Build: an image of the runs that came in, as far as they can be put, and the reference's cells of it.
-/
namespace Go.Proofs.YtmeegpdjhcilkaaDoor
open Go.RowKit
set_option linter.unusedVariables false

theorem eq_str (x : List UInt8) (a : Array UInt8) : ((strOf x).toList == (⟨a⟩ : ByteArray).toList) = decide (x = a.toList) := by
  have := strOf_eq x a.toList
  simpa [strOf] using this
/-- The cells of runs, put one after the other as far as they can be. -/
def allW (rs : List Im.R) : List Im.Cel := rs.foldl (fun W r => Im.putW W r.addr r.data) []
theorem allW_take (rs : List Im.R) (k : Nat) (h : k < rs.length) : allW (rs.take (k + 1)) = Im.putW (allW (rs.take k)) rs[k].addr rs[k].data := by
  unfold allW
  rw [List.take_succ_eq_append_getElem h, List.foldl_append]
  rfl
theorem allW_sorted (rs : List Im.R) : Im.SortedW (allW rs) := by
  have h : ∀ (rs : List Im.R) (W : List Im.Cel), Im.SortedW W → Im.SortedW (rs.foldl (fun W r => Im.putW W r.addr r.data) W) := fun rs => by
    induction rs with
    | nil => intro W h; exact h
    | cons r t ih => intro W h; exact ih _ (Im.putW_sorted h _ _)
  exact h rs [] Im.sorted_nil
/-- What Build returns. -/
def RetBuild (w : World) (rs : List Im.R) (e : Ending) (w' : World) : Prop :=
  (Im.fewB rs = false → e = .returned (.tuple #[.pointer none, .slice none 0 0])) ∧
  (Im.fewB rs = true → ∃ b A cap, e = .returned (.tuple #[.pointer (some ⟨b, 0, none⟩), .slice A (allW rs).length cap]) ∧ w.heap.size ≤ b ∧ Im.ImgOf w' b (allW rs) ∧ Im.CellsP (fun i => i ≠ b ∧ w.heap.size ≤ i) w' A (allW rs)) ∧
  Below w.heap.size w w'
set_option maxHeartbeats 4000000 in
theorem build_any (A : Option Addr) (cap : Nat) (rs : List Im.R) (hl : rs.length ≤ maxLen) (w : World) (hW : Im.RunsP (fun _ => True) (fun _ => True) w A rs) (hd : ∀ r ∈ rs, r.data.length ≤ maxLen) :
    Calls Tryd.prog 7 #[.slice A rs.length cap] w (RetBuild w rs) := by
  have hf := Im.fewAll_any _ _ A cap rs hl w hW hd
  have Z := Lib.hid (hW.mono (T := (· < w.heap.size)) (Q := (· < w.heap.size)) (fun _ h _ => h) (fun _ h _ => h))
  have HD := Lib.hid hd
  cases hb : Im.fewB rs
  case false =>
    have N : Hid (RetBuild w rs (.returned (.tuple #[.pointer none, .slice none 0 0])) w) := by
      refine ⟨fun _ => rfl, fun h => ?_, Below.refl _ _⟩
      rw [hb] at h
      cases h
    rw [hb] at hf
    clear hW hd hb hl
    go_enter Tryd.func7, Tryd.ntmps7
    go_wp2_with fail
    refine hf.mono ?_
    rintro e w' ⟨rfl, rfl⟩
    clear hf
    go_wp2
    go_ret2
    exact N.out
  case true =>
    have h60 := Im.few_len hb
    have N := Lib.hid hb
    rw [hb] at hf
    clear hW hd hb hl
    go_enter Tryd.func7, Tryd.ntmps7
    go_wp2_with fail
    refine hf.mono ?_
    rintro e w' ⟨rfl, rfl⟩
    clear hf
    go_wp2_with fail
    refine (Im.newOf_any _).mono ?_
    rintro e w1 ⟨b, rfl, hb, hI1, hB1⟩
    have I1 := Lib.hid hI1
    have B1 := Lib.hid hB1
    have HB := Lib.hid hb
    clear hI1 hB1 hb
    go_wp2
    go_loopw [5, 14] (fun cv i wr => ∃ (k c : Nat) (B : Option Addr), k ≤ rs.length ∧ i = .int .i64 k ∧ cv = .slice B (allW (rs.take k)).length c ∧ (allW (rs.take k)).length ≤ c ∧ Hid (Below w.heap.size w wr) ∧ Hid (Im.ImgOf wr b (allW (rs.take k))) ∧ Hid (Im.CellsP (fun i => i ≠ b ∧ w.heap.size ≤ i) wr B (allW (rs.take k)))) (fun _ i _ => rs.length - (intOf i).toNat)
    case atStart => exact ⟨0, 0, none, Nat.zero_le _, rfl, rfl, Nat.zero_le _, B1.out, I1.out, .inl rfl⟩
    case round =>
      obtain ⟨k, c, B, hk, rfl, rfl, hc, Bel, Img, Cls⟩ := hrel
      by_cases hlt : k < rs.length
      · have RW := Z.out.below Bel.out
        obtain ⟨g, off, hA, g0, g1⟩ := RW.at_ hlt
        subst hA
        have hD := RW.2 _ (List.getElem_mem hlt)
        have hdl := HD.out _ (List.getElem_mem hlt)
        have HT := allW_take rs k hlt
        obtain ⟨r, hr⟩ : ∃ r, rs[k] = r := ⟨_, rfl⟩
        rw [hr] at g0 g1 hD hdl HT
        obtain ⟨W, hWk⟩ : ∃ W, allW (rs.take k) = W := ⟨_, rfl⟩
        rw [hWk] at HT hc Img Cls ⊢
        have hbw : b < wr.heap.size := Img.out.lt
        have hbB := HB.out
        obtain ⟨ob, hob⟩ : ∃ o, Obj.cells #[.int .i64 r.addr, .slice r.A r.data.length r.cap] 61 = o := ⟨_, rfl⟩
        have hal : Below wr.heap.size wr (wr.alloc ob) := (Below.refl _ _).alloc (Nat.le_refl _) ob
        have hput := Im.put_any b W r.addr (· < w.heap.size) (show ¬ b < w.heap.size by omega) r.A r.data r.cap (wr.alloc ob) hdl (Img.out.below hal) (hD.below hal)
        have X2 := Lib.hid (hD.below hal)
        have C2 := Lib.hid (Cls.out.below hal)
        have AL := Lib.hid (And.intro hal (And.intro hbw hbB))
        have hob2 : (wr.alloc ob).cell? ⟨wr.heap.size, 0, none⟩ = some (.int .i64 r.addr) ∧ (wr.alloc ob).cell? ⟨wr.heap.size, 1, none⟩ = some (.slice r.A r.data.length r.cap) := by
          rw [← hob]; exact ⟨by simp [go_sem], by simp [go_sem]⟩
        have hSW := Img.out.1
        have SW := Lib.hid hSW
        have HTT := Lib.hid HT
        have OB := Lib.hid hob2
        have HOB := Lib.hid hob
        rw [← hob] at hput
        clear hr hWk hal hbw hbB hD hob hob2 hSW HT RW
        go_wp2_with fail
        refine hput.mono ?_
        rintro e w2 ⟨rfl, hI2, hK2⟩
        rw [HOB.out] at hK2
        obtain ⟨a1, a2, a3⟩ := AL.out
        have hsz : (wr.alloc ob).heap.size = wr.heap.size + 1 := by simp
        have hC3 := C2.out.keep hK2 (fun h => h.1 rfl)
        have hX3 := X2.out.keep hK2 (show ¬ b < w.heap.size by omega)
        have c0 : w2.cell? ⟨wr.heap.size, 0, none⟩ = some (.int .i64 r.addr) := (World.cell?_of_block (w := wr.alloc ob) (hK2.block wr.heap.size (by omega) (by omega))).trans OB.out.1
        have c1 : w2.cell? ⟨wr.heap.size, 1, none⟩ = some (.slice r.A r.data.length r.cap) := (World.cell?_of_block (w := wr.alloc ob) (hK2.block wr.heap.size (by omega) (by omega))).trans OB.out.2
        have B3 : Hid (Below w.heap.size w w2) := (Bel.out.trans (a1.mono Bel.out.size)).trans (hK2.below a3 (by have := Bel.out.size; omega))
        have hrp := Im.rput_any (fun i => i ≠ b ∧ w.heap.size ≤ i) B c W SW.out r.addr _ r.A r.cap r.data hdl w2 (fun i hi => ⟨by have := hI2.lt; omega, by have := B3.out.size; omega⟩) hc hC3 hX3
        have I3 := Lib.hid hI2
        clear hput hI2 hK2 a1 a2 a3 hsz hC3 hX3 X2 C2
        go_wp2_with fail
        refine hrp.mono ?_
        rintro e w3 ⟨B', c', rfl, hc', hC4, hB4⟩
        have B4 : Hid (Below w.heap.size w w3) := B3.out.trans (hB4.mono B3.out.size)
        have I4 : Hid (Im.ImgOf w3 b (allW (rs.take (k + 1)))) := by rw [HTT.out]; exact I3.out.below hB4
        have C4 : Hid (Im.CellsP (fun i => i ≠ b ∧ w.heap.size ≤ i) w3 B' (allW (rs.take (k + 1)))) := by rw [HTT.out]; exact hC4
        rw [← HTT.out] at hc'
        have e5 := HTT.out
        clear hrp hC4 hB4 c0 c1
        rw [← e5]
        clear e5
        go_wp2
        go_roundw
        case rel => exact ⟨k + 1, c', B', by omega, by go_num, rfl, hc', B4.out, I4.out, C4.out⟩
        case measure => simp [intOf]; omega
      · have F : Hid (RetBuild w rs (.returned (.tuple #[.pointer (some ⟨b, 0, none⟩), .slice B (allW (rs.take k)).length c])) wr) := by
          have hI := Img.out
          have hC := Cls.out
          rw [List.take_of_length_le (by omega)] at hI hC ⊢
          refine ⟨fun h => ?_, fun _ => ⟨b, B, c, rfl, HB.out, hI, hC⟩, Bel.out⟩
          rw [N.out] at h
          cases h
        go_wp2
        go_ret2
        exact F.out
end Go.Proofs.YtmeegpdjhcilkaaDoor
/-
  The walk over strings.Count at a line feed.
-/
namespace Go.Proofs.YtmeegpdjhcilkaaDoor
open Go.RowKit
set_option linter.unusedVariables false
set_option maxRecDepth 100000 in
set_option maxHeartbeats 1000000 in
theorem count_any (s : ByteArray) (w : World) :
    Calls Tryd.prog 16 #[.string s, .string ⟨#[10]⟩] w fun e w' => e = .returned (.int .i64 (s.data.toList.count 10 : Nat)) ∧ w = w' := by
  have hsz : (⟨#[10]⟩ : ByteArray).size = 1 := rfl
  go_enter Tryd.func16, Tryd.ntmps16
  go_wp2
  rw [run_callFunc_extern Tryd.func44 (by kernel_rfl) (by kernel_rfl) (by kernel_rfl) (e := Extern.BytealgCount.count) (by kernel_rfl)]
  rw [Lib.run_countString]
  simp only [Result.andThen]
  rw [Oper.upon_value]
  go_wp2
  go_ret
  exact ⟨rfl, rfl⟩
end Go.Proofs.YtmeegpdjhcilkaaDoor
/-
  Strings that came in as a slice: opened.
-/
namespace Go.Proofs.YtmeegpdjhcilkaaDoor
open Go.RowKit Go.ChangeShapes Go.WideShapes
set_option linter.unusedVariables false
section
variable {H : Type} {enc : TypeId × Value → H} {w : World} {spare : Nat → Bool} {fuel : Nat}
set_option maxRecDepth 100000 in
theorem open_strs {v : Value} {x : DataW H × List MemPlace} (h : DataW.trod enc Tryd.prog w 0 spare true fuel 43 [v] = some x) : ∃ A len cap ss, v = .slice A len cap ∧ len = ss.length ∧ len ≤ maxLen ∧ StrsP (fun _ => True) w A ss ∧ ∀ s ∈ ss, s.size ≤ maxLen := by
  rcases open_strings Tryd.underlying43 Tryd.underlying9 (by kernel_rfl) h with ⟨hcs, _⟩ | ⟨a, l, c, zs, hcs, _, hl, hm, hz, _, hcell, hwz⟩
  · simp only [List.cons.injEq, and_true] at hcs
    subst hcs
    exact ⟨none, 0, 0, [], rfl, rfl, Nat.zero_le _, .inl rfl, fun s hs => absurd hs List.not_mem_nil⟩
  · simp only [List.cons.injEq, and_true] at hcs
    subst hcs
    have hlz : l ≤ zs.length := by rw [hz]; split <;> omega
    refine ⟨some a, l, c, zs.take l, rfl, by simp; omega, by omega, ?_, fun s hs => hwz s (List.mem_of_mem_take hs)⟩
    by_cases h0 : l = 0
    · left; subst h0; simp
    · obtain ⟨b, off, rfl⟩ := plain_of_cell (hcell 0 (by omega))
      refine .inr ⟨b, off, rfl, trivial, fun j hj => ?_⟩
      have hj' : j < l := by simp at hj; omega
      have hjz : j < zs.length := by omega
      have e := hcell j hjz
      have hadd : (⟨b, off, none⟩ : Addr).add j = ⟨b, off + j, none⟩ := by unfold Addr.add; split <;> simp_all
      rw [hadd] at e
      rw [e]
      have hg : zs.getD j ByteArray.empty = zs[j] := by simp [List.getD, List.getElem?_eq_getElem hjz]
      rw [hg]
      simp only [List.getElem_take]
end
end Go.Proofs.YtmeegpdjhcilkaaDoor
